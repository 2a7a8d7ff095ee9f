import PyProof.Rows.All
import Wide.All
import OpenK.AllK
import Wide.FinOn
import Lean
import PyProof.EqAt
import PyProof.EqKinds
import PyProof.TupleCall
import PyProof.NeKinds
import PyProof.Rows.SetFrom
import KE.KRevIter
import PyProof.ZipIter
import PyProof.TupleOfGen
import PyProof.Rows.ZipGen
import PyProof.EnumMake
import PyProof.EnumFor
import PyProof.ListRange
import PyProof.LayNew
import KE.KDictOf
import KE.KIntText
import KE.IntTextLaws
import PyProof.StrCalls2
import PyProof.Rows.StrNews2
import PyProof.StrLawsTight
import PyProof.ExcArgsOwn
import PyProof.ExcAttrAll.ValueError
import PyProof.IsInstanceT
import PyProof.RulesAs
import PyProof.Rows.Tup
import OpenK.KOwn
import PyProof.ExcInit
import OpenK.KCls
import OpenK.KMake
import PyProof.InstStoreFacts
import PyProof.FactsAll.object
import PyProof.IsiStr
import KE.KIsAll
import PyProof.ListMulRight
import PyProof.AttrMissHeap
import PyProof.RaisesMany
import PyProof.RulesTry
import PyProof.NsDelKeeps
import PyProof.Rows.FStr
import OpenK.KWalk
import PyProof.AutoListH
import PyProof.CallFns
import PyProof.Rows.SortStr
import KE.KDictSum
import PyProof.Draws
import PyProof.Rows.CallKwBuiltin
import PyProof.SumWalkG
import KE.KDictLaws
import PyProof.DictTruth
import PyProof.Rows.SortShellK
import PyProof.Rows.SortWalk
import KE.KDictList
import PyProof.SliceList
import PySem.Challenge.RW_graphpack_k28_whole_packs_there_and_back
set_option maxHeartbeats 0
set_option bootstrap.genMatcherCode false
set_option genSizeOf false
set_option compiler.postponeCompile true
set_option compiler.extract_closed false
set_option linter.all false
set_option linter.all false
open Lean in
def xi(s:List Char):Nat:=match s.map λc=>"abcdefghijklmnopqrstuvwxyzABCDEFGHIJKLMNOPQRSTUVWXYZ_0123456789'!?".toList.idxOf c with
|[a]=>a
|[a,b]=>53+a*66+b
|[a,b,c]=>3551+(a*66+b)*66+c
|_=>0
open Lean in
def xp(t:Array Syntax):Nat→Syntax→Syntax
|0,s=>s
|n+1,s=>s.rewriteBottomUp λs=>match s with
 |.node _ k a=>if k==``Lean.Parser.Term.quotedName then xp t n (t.getD (xi s[0][0].getAtomVal.toList.tail) s) else .node .none k a
 |.atom _ v=>.atom .none v
 |.ident _ r v p=>.ident .none r v p
 |s=>s
open Lean in
local macro_rules
|`(command|mutual $cs* end)=>do
 let l:=(cs.getD 0 default).raw[1]
 if l[1][0].getId != `T then Lean.Macro.throwUnsupported
 let t:=l[3][1][1].getSepArgs
 return mkNullNode ((cs.drop 1).map λc=>let c:=xp t 99 c.raw
  if c.getKind==``Lean.Parser.Command.universe then .node .none ``Lean.Parser.Command.end (List.toArray [mkAtom "end",if c[1][0].getId==`zz then mkNullNode else mkNullNode (List.toArray [c[1][0],mkNullNode])]) else c)
mutual
def T:=[some,true,none,.int,Addr,Option.bind_some,`ad Str,(`C),pins,`ad D,`ad Nat,.lst,base,.inr,.inl,(`X),false,wpAny,.str,.tup,.non,Shared,decide,X.env,W.Frag,.ref,this,Inv X `i σ H s,by omega,"Reader",Value,List.length_map,nilB,Expr,absurd,`j->`d2,`ad V,sizeLine,s.heap.objs.size,if_pos,.nil,World,Heap,FnOk,B₀,List.map_cons,cons_of,List.length_cons,(gv 1),by decide,H₀,List.length_append,`ad Int,Bool,(gv 0),`ad `E,List,⟨_,rfl⟩,FnScope,l.prog,.cons,if_neg,`a o,Txt mg,fsc rfl rfl rfl rfl `d7,xs.length,(`wc `aZ X.w),Program,(z8 0),`E->`eL,g δ,d::ds,0,(gv 2),(`wc `i4 w),(`aW),ps.length,.none,strOf,(z8 1),pool,(gc (`cV)),`ad (`agL),s.heap,.sh `p2,X.xe,`ad α,`ol `E,(x==`rC)=`q,en.ex,List.replicate,D->`j->`akC,List.map_append,(`cE::δ),by decide +kernel,items,.Call,D->Ds->`aT Ds,Option,`ad `e,`a `q,by simp,D.int,`ad `bE,X.prog,`d i,δ.set,Rps K H B ds xs,D.bl,(z8 2),(ha B δ),(by intros;rfl),its.toArray,rest,s.toks,List.size_toArray,`c8 H H',Or.inl rfl,Bool.and_eq_true,mainGlobals,eval,`aT Int,`a d,as.zip sos,(gN 2),List.getD_eq_getElem?_getD,Env K H B σ δ,`a u,(`jd),ds.length,List.range,`N rfl,(gc `F7),Int.toNat_natCast,List.append_assoc,.type,`s _,D->`w2,Vals,[`d8],`ad Pt,Stmt,Str->`l?,0,(·.1),.bl _,Paired,A.in1,(gN 0),Want,decide_eq_true,B.length,`s x,`ad `H,(R S),`l _,X.calm=`b,List.map_map,`ad (`x?),pure,.seq,`o rfl,False,vs.length,W.nsIn,(k:Int),(j:Int),.sh `GF,`a v,I.hok,A7.mp,cpos,`t ds,.fin,Runs,S.names,X.N[i]?=`dE,[`d8, `pB],decide_eq_false,X.mg,`z a,r.length,`n rfl,gA δ,`d _,List.getElem?_map,Ds->`d2,PD X e g,(λds d h=>Q8 h),.Name,K.lookup,caps,`l ds,Rp K H B d v,δ[i]?,(`Rm),Around,flat,List.length_singleton,`N h,.func,(`ar).bind,PD X a ga,Z6 ?_,ObjOk,W.keepIn,outer,(n:Int),items.length,.dct,`cS K `Y `S H σ δ,lean,S.un,by kernel_rfl,.sh `ic,.ow `am',.sh (`nl),Scope,String,Gl X x,(U3 I q `aw),.builtin,B7.mp,starEach,`l xs,W.findIn,scope,B8 _,r.mono,EnvS,D.tup,if_false,`d 1,(z7 `au v5),.sh `sY,x=`b8,List.append_nil,[`x6],(1000:Nat)<=`L,`ds hd,"tuple",
s.heap.get?,H b=`c,.Attribute,W.fnOf,(`fu),Same,ga δ,(`En H),(gc (`pt)),nm.length,`bt xs us,_::_,D->`aa,`Rk (`a!),`Rk (`gi),PD X b gb,`dv=`s!,(λb ds r b' h=>M5 h),RelV,SubO,`bq `eh,B3.mp,.bl b,`a `c,0,W.codeIn,items.size,.bl `b,A5.mp,dpN i δ,(gv 3),S.wait,S.begun.length,held,j∈B,(w6 `a3 v9),(z8 3),List.zip_cons_cons,(by rw[`p1];rfl),Wb ps,`a x,`aT V,(i+1),H p=`c,(λz=>nomatch z),List.length_take,(z7 `W v5),l.length,`b6 `h,.sh `pU,.sh (`nt),`aT `e,cT_Reader,`ai h,Vis `wk x,(x==`ahf)=`q,(Y5 (Y4 zc0)),aT_Reader,X.base,`a c,A8 e,(`b8),I.kIn,compareOp,W.isFn,`aT D,gb δ,`a (.nx δ'),(`be),(`ajH),(`aP),"self",.value,w.length,(w6 `aA v9),`Qo=`oK::`rB,List.replicate_succ,`a `b,Gr H H' B B',`ai e,(`z `dQ),(`CV),`bq `c2,"list",`t xs,(`a_),I.list,name,apos,ys.length,i.toNat,call,s₁,l.map,(X4 hp),q.to,k.toNat,(`mr),(j8 0),.sh (`GH),`s s,T.b_tuple,b_tuple,meth,∀x,foldedSetIterable `je `x x=`bO x,A.handled=`c,`ai `p,(apos.endLine==cpos.line)=`b,List.reverse_cons,CoeFun,setN,Nat->Nat,ClsN K `D t8,`v->Prop,C0 _ rfl,I.len,(·.2),ns.length,attributeBase,value,(k+1),(`ahe),[`b8],(`aiA),gx δ,`d `bV,D.lst,pre.length,its p,kn p,(N:Int),.sh N,.sh (`ns),[`lg],(W7 (W8 0) `j_),`ad `bw,HOk P w H h,X.N.Nodup,`di y u,hbase,hline,List.nil_append,List.cons_append,RpW K H B ns a as sos,(hb B δ),`RH=`oK::`h0,`N e,List.mem_cons,(`dt).bind,Ok S,(`VO).1,.ret,`a y,h'.get?,(`bQ),X.env.locals,`di v u,`z `M,s.heap.push,`d j,I.tok _,(`rH),`z p,False.elim,qual,.sh d,gt δ,`a k,`o z,`ad K6,List.mem_singleton.mp,.ow `ev,at'.sl,`d 0,(gv 4),(gc (`d 3)),someO,(`cC),D.str,B5.mpr,S.length,S.begun,(`ey),made,.sh (`H9),.sh (`nk rs),(z8 4),`ad Env,λp hp=>?_,PE X e te,if_true,List.lookup_cons,`wk=sc,Ds->`oX,by rw[n6],hidx,Option.map,inst S,[`cE],(by exact cok rfl rfl `d7),.own,h.objs.size,bootBuiltins,backTo,.bool,body,"zip",s1.heap.objs.size,2 ^ 62,(`oJ),Room,(`Dg),scope.names,CallR,0<=i,ks.length,`Rk rfl,en.same,`gj s1,`a r,es.length,(`ph),`ad (Key×V),closed,(`b!).bind,List.length_nil,`lb `bz,
Option.bind,.sh (`iv),(lkv π),lkd j,(ix L),p.vals,(σ `tG),T.b_len,[`x7],`ad (`CX),λb hb=>?_,`ek hq,(`Qp).any `bz=`q,V->`mm,Option.map_some,Ds->`D',`g3 h1,(U7 (Z8 (gc `r1))),List.length_range,(n+1),`ad Key,.ins,`a `op,k _ _ `fm e,`C5=`aj,I.loc,`bO `q,I.tuple,{ s with heap:=h' },`di x u,A1 ?_,its.toArray.size,codeAny,`kY K H B as ds xs,NodeOk,as.length,n.toNat,get_set,(`ai0),`s a,opened,xz0 `cj,h.nd,`d z,(gv 5),`s `sL,(gc (`xZ)),"web","length",Nat×`j,(0:Int),S.wait.length,S.un.length,s.cps.toList,`cB=k::u,((128+r%128:Nat):Int),`lb `eO,(`ai!),`Hv j `yS,Vb v,T.b_list,FuncData,`am<=`L,I.free,`gU hq,(I.ok.hd hc),`I (show `ww from hs) B2,"int",by simp at h,`ai hb,`ar=`bd,PID X tg `je gi,`xs hi,List.not_mem_nil,or_false,`pm s1,`fC z,T6 `fJ,PWD.pt,`i5 a,h.get?,`hH a,H' b,.frz,X.fs,X.stack,Hp->Prop,swapsWith,`bb o `x,assign,`oo=`aj,j.toNat,List.getElem?_append_left,HT.sIx,`z l,(`D?),`s c,e.all,λa z=>?_,Pd.app,`cM [] `x,owL i δ,leans,Gr.less,EnvV.mk',(by rw[V6]),`d `bU,Value.type,List.length_zip,(`fp),CloseOk,ns[k]?,`s c',h.len,vs.map,(`g9),(gc (`g!)),(unG U4 `aC),0,(gc `u),(j4 0 `D `sV `ew),pairsOf,(`TG),`d k,(m9 ?_),.sh `sz,0,(`U rfl rfl),List.length_reverse,`d n,`bF h,0,`d b,w=`d9,`d `nd,(`akE),ps.flatMap two,(`lr),λ_=>rfl,j<`ax,`b1::ws,qs.map,(z8 5),T.b_isinstance,`b6 h,True,`ad (Str×V),I.bare,CmpOp,(ha `i s σ H _ I h),(he `i s σ H _ I h),args,`ol (`l?),0<=k,"str",hfew,`N hb,Ds->`w1,signs,RpO K H B d a,∀a,`mC->B a,∀a,B a->`mC∨`Y a=`c,`ai z,∀cl s H ex,PGD `oT tg idx f,ym0 r,ZipApart z TI TO i1 i2 l1 l2,[`cE,`dN,.un],`bZ hd,(λds d h=>v30 h),λ_ _ _ _ _ _ us hl=>by obtain⟨_,_,rfl⟩:=us2 hl;rfl,prog,Value.ref,kvs.length,`a `rq,.free,`PR x=`dX,D.nx,pos.line,St->`hN,.Assign,(`P7),"enumerate",A2 _,iter,z.length,`d `cw,`a ds,v=`b8,`a a,ye0 ds,s1.trans,r1.length,`PS=`w!,en.b0,items.drop,List.getElem?_eq_getElem,List.map_nil,(upd H a o),(`xr hb),e.bad,`l es,tree,Obj.mapSeq,`xJ b,PSsB,(gN 3),(gN 4),`s `sN,(o2 `ab `bn ixD),(Y7 v5),"begun",(gc (`Tq)),
(j4 0 `D `sU `ew),.sh (`sX),List.length_drop,S.names.length,`ln d,.sign,(`lp),(`as),`T9=`se,(r:Int),T.length,pd `ts,`nk ps,(`hl),(`gw),Nat.zero_add,[`Gm, `jF],(yq0 hr),(Z9 `aA v6),CN_Reader,a==b,`ah r t,`ad (`gN×V),α->β->Prop,by simpa using hb,I.un,Ends,PE X a ta,(`P!),`di x v,I.laid,kindOf,⟨_,ho,rfl⟩,hplain,List.flatten_cons,names,Loc `wk y,X.fn y=`b∨`PW y=`md,D->D,`cy ks ds,RpN K H B as d v,`N hl,(`EG).any `bz=`q,k::ks,`ajx+1<`kV,`g3 h2,`ai `aw,p::ps,bm.1,nrf d=`b,`a `FN,`ad (`k),(`amQ),[`pD,`cD],(2000:Nat)<=`L,w≠`b1,Pk ps B T ds B' T' b,Wf ps `aB,I.nms,(o7 X5 Z3 `nu o9),(o7 X5 Z3 `apc v6),vf0.nd,KV kvs vs,x ≠`C4,I.cell,hs.2,List.getElem?_set_ne,(`ce x pos),.Subscript,SqT K H a xs,[a,b],binaryOp,(g i j),`gO C dx fs,True.intro,⟨rfl,rfl⟩,(m:Int),(`rO),s.TypeIs,`s z,cLine,`a `i8,f2 b hb,RpNs,`ad β,RpL K H B d a,`a b,env.same,xb0 kvs k,`ad (V×V),b≠a,`k1 s1,s1.free,.Tuple,us.length,flats,J.w.openOk,as++[L],(`k!),`Q!=`dX,ps.map,keys,(z7 `ab v5),"_law_k","_law_cell","_law_book",`s `Gc,`s `Ge,isTup,"digits",`l (`ms `d),.sh `yo,S.hold,S.ends,m9 (W2 ?_),s∈T,B++[j],hw.it _ w2,by rw[`V];omega,`fC hd,Sl.sh,.sh (`y?),qs.length,.sh (`Vp),.sh `ao4,.sh p.d,`a (`dr),.ow (`zl),`bt xs its,(C8 _),I.ok.kind,A3 e,Inv X `i σ H' s',(`bH),λ_ _ _=>`bR,h.elim,A0 ?_,List.lookup,x::xs,pl.isList,List.all_cons,`b!=`jh,as.Nodup,RpG K H B d a,λ_ _=>rfl,hq.to,(`f8 `b_ (`h0)).any `bz=`q,`EM κ,`ad κ,`h' H a sub,(`gp H a sub),`aT ResB,Nat.sub_self,ev.ex,List.all_eq_true,(ob `x4),`ya ps,S.wait.tail,(`GC),`ane<=`hf,`tf<=100,(z70 T.c_BASE),(λcl s H ex=>yk0),(w6 `dA v9),`aT `E,Sum.inl,.fields,`a (`f5 a),`a .local,I.freeC,`b7 x,(`cN),assignEach,`a (`kO),.function,start,getItem,`K->`Dl,sliceBounds,its.length,xs=[`fu],(`hP),`l [],ns.map,A.units,(A4 _ hx),(`D2 elt [⟨tg,`je,ifs,0⟩] `cP pos),[`aiN],G1 δ,.deep,NB (H a),t σ H Q,`jl s2,`S a,PSsD,d=`u,(·++·),putK,`cA d n=`b,rv.length,r2.length,"reversed",pos2,(`mB),J.extBut,Value.none,`s b,E8.mpr,vx0 d,Pd.get',`Rc=`sC,δ.length,
s.heap.update,"_law_script",(gv 7),(gN 8),(gv 8),(gc (`d 8)),(z7 `fG v5),(z7 `du v5),"_law_web_here","spelled",(j4 0 `D `pA `ew),"sign",.rcd,.name,`l (cs.map `d),.sh `GI,(t:Int),(np:Int),`am5 `GX,S.begun.map,`s (`pQ kd),[`it],(b:Int),(X8 nm),(r/128),Pn.put,.sh `fO,(Bw.small `h),(`tl),Bw.web,`d x,.sh `nj,kn `jU,It `ax d,`iC `eO,W.wb.its,`bl `ax,`l `ao9,`nk q1,(j7 `ap v6),(J1 v9),(w6 `ap v9),b_list,(z8 7),(wn0 `gA `e5),(we0 `e5 fun δ d h=>vq0 h),"law",`n x,I.os,`o q,.Constant,`mf=`c,`Da op b=`q,`ai B2,hf it `aw,vals1 r,(vs++dvs),slice,`d a,List.any_cons,λx hx=>h x `mu,(`D0),CompOk sc `cP X.N N' n `cg,λx hx=>?_,`s y,PDA X `gd gA,`cy _ _,.fn _ _,(`f8 `b_ (`RH)).all `EH&&`EI,`cm d=`b,`dl hx,`kH n1,PX X e gx,X.N[j]?=`fk,(h.go `Y `S δ),wc0 f4,n::ns,(R5 `jE),["thing"],.row vs,Y0 rfl `il,List.getElem?_modify,`dv≠[],(ve0 S kd),kd<4,m9 (W2 rfl),c∈S9,(`Hf),Gw.p90 _ _ `p,`tn<=20,0,PsOk.len,Inv `aB B T S,W.wb,(z8 8),λ_ _ _ _ _ _ us hl=>by obtain⟨_,rfl⟩:=us1 hl;rfl,Array,xs.drop,RelO,`hH b,(`ei),`a `rr,X.ex,X.s₀.heap.objs.size,I.pin,{ s with heap:=h',toks:=t' },(`dY),holding,.BoolOp,Inv X `i σ' H' s',Turn,SqL K H a xs,`PD=`dE,hf b hb,A9 _ e,-(`ga),s'.heap,.BinOp,{ s with toks:=`wt },x.length,`M+1,(`q,`P1),ps.zip,ht.typeIs,(eqU x),vs.toArray,(`wc P w),.call,(t7 st),(`z D),(Y8 X `cP cl N' s H ex),`ad (Str×`E),z.symm,DL.Ds,`aT (`j),`a [],δ[j]?,`a δ',B' a,`bB F l m,`l fs,`bT K `ba c=`aiV,`a `dZ,e.own,`Er s2,en.grow,en.fr,λz=>?_,`a (.rf d),(frz δ),g `o!,cutD,kv.1,`aT `H,(`ajo),Nat.min_self,Rps.snoc,A3 h,`z z,as.map `i5,{ s with heap:=h',toks:=tk },(by rw[`a9];omega),(z90 N j p b ds),at'.same,S7.mp,Pd.len,go δ,[dp],`a i,(oA `ld V2),`d 2,(Q4 `lj `ab),(o2 `ab `aC ixD),"_law_value_here",(tupI `alJ),(plN (K5 0 `jH `ie)),(j4 0 `D `jF `ew),"names","byte",bk `eS cs sm m `aB,.ow (v8 p (`pC)),(s:Int),(p:Int),code N k,isName,.sh (`GJ),[.un,.un],(`T1),(0,[]),λw=>`fK (b8 w),(`dw:Int),Sl.ow `am',`a (r,R S'),kindS,`Ud kd n,c7 (by rw[c];rfl),link,(`it),[`cE,`dN,`tc],
.ow (v8 p (R S')),S.count,`d `tg,.sh (`pY),λq=>`amL,`tm<=20,c7 `fJ,(`jT),hb ps B T d,its `jU,`tk S nm,Km.O3,`Hv 0 `yS,deq x y,(`lx:Int),`iC `s3,.bl a,(zq0 v6),O4.nd,(d8 `jZ v6),bindArgs,Result->`eL,`ah _ t,`aT HO,`ad (`agW),Unit->`eL,Loc `wk x,`PX∨`ahc,(`Db a [op] [b] pos),(`P6 (`a e) pos),`o e,Cls K C,List.getElem?_replicate,r.get,V->`bc->`bc->`Dl,(`cQ),`ad (Str×`e),`bZ hx,Bool.false_eq_true,`a `r1,`bk<=`L,`a `D!,`cx<=`L,(j+1),.fn ks ds,r.live,Pd.set,(`xa),L2.PI.imp,∀cl s H ex,PD `oT elt ge,Decidable,p1.isList,(hr.mono hk),CompOk sc `cP N N' n `cg,ya0 ks q,p.1=k,⟨_,rfl,h⟩,decide_eq_true_eq,λj=>`ajP,`E! s3,updateSeq,`xD<=`L,`ad (`Sm),`xJ c,vm0 eb,S7.mpr,AtN K H B σ δ i a ns as sos,`rM `bj,(gc (`sK)),[`m2, `lf],(U7 (Z8 (gc (`dr)))),.text w,`yd k `amJ,.bl sm,cs≠[],`N `h,`bF `h,s∈`aB,List.length_modify,`G_ `h,[`cE,`ex,`yE],(`G5),Bw.jg0,B.Nodup,x<`ax,List.count_cons,(o7 X5 Z3 `ap o9),T.b_range,(`eB 28 5),(`CT),Sum.inr,by simpa using h1,`i6<=`L,(a==`C_)=`q,(J0 P w),o.data,H p.1,"range",K.In,`f7 x,.cell,(`bX),`a p.2,b≠`fn,`hJ=`c,`wh=`aj,0,λ_ _ _ q=>q,σ.length,Heap.SameBut,Q v H',`cM es `x,("__debug__" : Str),λb o e=>`oD,(hi - lo).toNat,((0:Nat):Int),.bl k,`z C,v=`u,first,I.hok.fresh,scope.names.lookup,List.getElem?_append_right,(ha pos `i s σ H _ I h),`z t,`z b,(i:Int),typeLookup,s3.heap.objs.size,"len",`jf<=`L,(`wK),h'.objs.size,s₁.heap,(`ait),caps.length,σ[j]?,(`fx),(`Dc),(`b0),(`fy).bind,f d δ,gi δ,`s ⟨#[c]⟩,¬B a,`gh=`am,(`Q' s),λv σ H Q=>∃B d δ,tDG X.K idx f B d δ v σ H Q,¬B b,Sl.un,`cR g,(`ai?),`a (.rt d),DGet,`a q,[e,f],`a (`xn),trivial,z.elim,Pd.imp,`bb `d6 `x,(`sk),M.length,k _ H `c' `xb,trees,(K2 _ _ (B4 hb)).trans,IsPair,C6 ?_,pyNext,xs.size,(`bq `f!),h1.objs.size,(H 0 `p),`d `rQ,forIn,(`eX),rawInt,`xJ a,`a so,`l vs,(`g6 H `d5),at'.w.hd,at'.bad,(`eg),(n+k),(`z S),`s "","at",(gN 5),"record","_law_some",(gc (`x1)),"_law_part_here",(ob `pu),(z7 `Gf v5),"name","waiting","unended",.sh (`ik),`s P0,(`h6),nmF N w a k,
`s (`az (`pG)),`s `ye,`l (`amM `s),(by show 2<=`L;omega),Pt.d,.sh (`ll),S.spelled,`am4 `GX,`az n,`s (`az `s5),`am8 `pM,(`T8),w::ws,.sh (`nb),wd w,sz0 S kd n,.sh (`iq),.root,w=`m7,n.length,(L:Int),left,(`Ha),S.spelled.length,named,`t `anE,s.length,cnt p,[p.d],(V4 rfl),(kt T),pd `tq,(kb B),ix B j,nB B d,W.length,hw.its,X8 `hg,A.bg,S1.ends,Whl q,`l (`iC λq=>`y9),(`im),[`jT],K22.sub_len,(lkv `gx),qs[k].vals,`l `tG,.ow (`l acc),[`Tr],"some",zp0.nd,[`mW, `le],K1.nd,J3.nd,(G3 `gA `nw),(w6 v6 v9),"whole","hold",[`d8, `Gp],C_Reader_hold,(top 57),typeLookup_type,builtinLookup_eq_fast,`l?->`eL,`ad (κ×`E),`ad (`e×`dj),`z c,X.outer,s.gens,`bt vs us,p.isList,I1.fpOk `bj (`Dk),`cM [a] `x=[`Qe],(∀b∈fp,`ru),`E->`Qg,PE X b tb,Bool.eq_iff_iff,.NotIn,OpR X (`d0 op) r,`ro `aE,Sem `aa,NoAttr K C f,λ_=>`c,PA X es t,`R `aZ X.w X.K `b7 `dW CX k f fd ps sp,Binds X.K fd ps ds,`bt dvs ds,ql0 CX X E,PA X `gd t,P.length,List.length_replicate,eq_of_beq,xs=[],`a j,i<`am,List.length_set,H l=`DL,n<=`L,λ_ _ h'=>h'.elim,X.N[i]?=`fk,(`ar).map,(`r5).bind,Ds->`aT (`bc),∀a,`o0->B a,h.at',⟨x,en,e1,`ai3⟩,PDA X es gA,List.drop_length,PDF X e g,∀cl s H ex,PFD `oT ifs gt,"bool","isinstance",by assumption,X.N=N,(hN▸ok),`bk=n,KT H kvs xs,.dK [],`N hf,P7 hl,Bool.false_xor,q1.to,J6 0 n,D->`J,`Fh l1 xs,`Fh l2 ys,st.hTI,`g1=`xD,(`St),`k9 ds=`b,(`FD),(A3 q),`FK=n,env.mutB,at'.dp,(`pp).bind,(`xN).bind,en.setN,`fC q,`QT=`pr,[`pw, `Gh],(ob `Gi),(Q3 1 `jE),(n70 1),[`d8, `lk],D0 _ `h,E2 _ `h,Vk v m,p.all,T6 `TK,`E? hj,k<`dw,(wj0 S),g `aO,S1.wait,`he<100000,T6 (by rw[c];rfl),(by rw[`pS];rfl),[`cE,s1,`dN],[`cE,`gu,.un],[`cE,`gu,`yH],[`cE,`dN,`pZ],S6 rfl `He,[`cE,`gu,`UH],λd hd=>?_,`bG<=60,(lkv π d),k<`ax,`T2=0,{ S with digits:=`aoi,count:=c },α->α,(∀j∈B,`iA),ih B T hm hn hB J,I.tnd,I.tin,wr++`iB,(`Ve),`aoO<=20,(`p!),[`e2,`aF,`fR,`e3,`lC,`dO,`Vy,`dO,.un,.un,.un],PDF.pd,"give",(v80 0 `jY o9),[`m2],(pf0 `VF),(`eB 28 0),(`eB 28 1),"end_parts","takes",(`eB 28 2),(`eB 28 6),"takes_digit","takes_letter",
"takes_name_number","takes_sign",(`eB 28 7),"goes_on","takes_head",(`eB 28 8),(`eB 28 9),"takes_part",(`eB 28 10),(`eB 28 11),(`eB 28 12),(`eB 28 13),(`eB 28 14),"takes_known_name",(`eB 28 15),"names_here",(`eB 28 16),(`eB 28 17),`Q->Prop,"function",model,L2.SubO,o.cls,xs.map,F a b,`fl b,λz=>z,sc.names.lookup,X.env.scope,λ_ _ q=>q,(`C8 i `rr),AllBare,ok.kind,`bO `c,(b,o),again,V->`Dl,`a8+1,(`PB),2 ^ 64,`q=`b,"__init__",`fq `Qk,(`z x),A.deeper,`Dz `fw `cP `M f cd,(`aR `Dw `gd [] pos),(`bq T),IsPart,IsTup,(1:Int),A9 _ q,`hU `am 0 lo,atI xs i,`l ys,(`hV),(`DO),.dK kvs,`a n,(`z fa),(`DR),V.int,callerA,(`ms `wR),Value.bool,(`ait).In,(W6 st),cl.lookup,NameKind.cell,T.obj,(`aiG).names.lookup x,(`a `D7),`aT Res,D->`d2,`a (`Q0),t=`b,H a=`aj,(`Q5),SqL' K H B a xs,Rp K H B d x,`o ks,List.zip,`a (`o4),Pd.get,∀a,B a->`mz,(`Eo),λv2 H2 s2 r2=>?_,w.oth,B b/\¬`S b,`jp `dG,(`Ev),G `EB,V.str,(`RC),([]:`aip).length,(if ([]:`aip).isEmpty then 0 else 1),Binds K fd ps [],.ow d,ya0 ks k,gh δ,q::qs,Gr.own,env.at,A3 h1,en.frz,en.mut,(`dk),`ol GenState,Builtin.List.listExtendWith,(`RY s1),field,M.extBut,ys.size,min `st `xC,Builtin.List.listSameRef,(wr0 H l),(`akq),[e,it],List.range',sub.lookup,other,`t (`bH::ns),en.mutB,gv δ,env.atN,`z L,at'.w.len,(`ak1),`CY<1000,nm++[f],(`RX),subscripted,(gc (`F8)),(gc (`d 10)),(gc (`F')),`d 4,(o2 `W `g? o8),(o2 `W `g? o5),`s `Gd,putAt,(gc (`lh)),(o2 `jD `x3 eqD),(z7 `pv v5),"part","number","kind","0123456789abcdefghijklmnopqrstuvwxyz"," 0123456789abcdefghijklmnopqrstuvwxyz","count",Str×D,.table,`lb pr,`az l,S.begun.modify,(`yc),(`fr),c7 `TK,(gc `yf),Z6 rfl,parts,`bV*`bV,names.map,[`ex,s1,`jI,`m9,s4,`pI,`TS,`cX,`TT],bk k' cs sm m `aB,(`sD),vs.getD j `u,.sh (`s1),(`U rfl `io),(`ax:Int),.sh (`d `pE),.sh (`d f),`s (b8 w),nodes,(`jK:Int),`am6 `T7,`d (-1),(`GY),ok.un,(`yv),`l (`am6 `am7),.sh (`G4),`pX+1,.sh (`G7),.sh (`G'),`s (`Ut),.sh (`yI),`ii xs,`er `Hc,W3 S k,fold z,.sh (`Hp c ps).d,A5.mpr,p.vals.length,`bZ h,(.row []),j∉B,(kt T).length,.sh `u,
nW ps B W d,W.reverse,p.vals.map,`Hv k `yS,L.length,List.length_tail,`jK<=100,λd m=>hd d (A4 _ m),(nT T `fO),`U4 ps 0,(`U5),pre++d::`a7,`U6 `gv,`pT `bG,`s q.1,`iC `bz,(`Vg vs).map,`l `H1,(`Vi),K22.pq0,((`np).map f),λk=>(`UY).d,qs[k].vals.length,`Vw k 0,λj=>`Vw j 0,.sh v,(`bU+x)%(`H!),ps[k].d,[`aF,`cF],`l (`ao'),(w6 o9 v9),(w6 `fS v9),"_law_many",(Z9 `ap v6),"_law_next",(`c6 x x (V5 st) `wW `oR `ay kV doc pm an cdv ct),(`agO),`ah r ih,H b=`bi,by rw[`ag2];exact q,b∉ex,N9.mp,base.Ns `ba mg,X.base.get? b=`aj,`PS=`oq,`M<=a,frs `hM,b∉ch,`ot p hp,Model,`aa->`hN,spliced,PT X a tA,(`ox .And (`P3) pos),(`ox .And `ahi pos),(`ox .Or (`P3) pos),(`ox .Or `ahi pos),(`P4 .Not a pos),(ho `i s σ H _ I h),PassesOwn `an X.A `x `aG,λh' eb=>⟨rfl,`Dj (t':=`a8) (λb o hb e=>eb b o hb e) f0 f1 f3 f4 f5⟩,[`f?],(hi `i s σ H _ I h),V->`ws,x=`a_,(`kM .Add),"ord",`a dx,`N hk,Cls X.K C,Inv X `i σ H s',`ai q,`gc k A,(`oL us),`gc k X.A,r.append,bindL,bindC,N.length,(`Qz),y=`rP,xs≠[],o30 b,(`kJ a b pos),`en<=`L,r'.length,(by simp only[`a9]<;>omega),(`b'),x=`hV,IntsAre vs ns,`eP<=n,⟨t,rfl⟩,og0 `rX H,`mt+1<`kV,x.cps.size,`ai hc,s2.heap.objs.size,by subst M;rfl,`t _,(`c9).bind,G2 δ',gt δ',[`ch],by simpa using hj,∀o,`w5->H' a=`aj,`n ks,(y==`rC)=`q,v=`a_,`cy `Ed ds,`ad `dj,h.ins,(RpL.toO rfl h),`Ek=`jj,`P_ hl,∀v H',`a'->`Rh->`rA,f ds=`bd,(o2 ga gb f),Op2 X.K r f,PTD X a gt,PD X `wC `Et,PGD X tg idx f,λj hj=>?_,i<`cx,`aQ[i]?,⟨v,e,`sa⟩,(λcl s H ex pins s' σ H v u Q I r ⟨B,d,δ,h⟩=>hg cl s _ ex B d δ `i s' σ H v u Q I r h),hf ds d h,y::ys,PDA X [e] gA,`gc m X.A,(`eW).map,`j->`aa,k<`ga,q10 e,o.isSome,H b=`a (`t (k.map kV)),H a=`QH,`i6<`L,lt0 `bY e,(ov0 ry),jw0 `bY e,`ad (TE×TE),`ad (`pc),v::vs,`cj=`ajB,`kH n2,Meets,.of_wp,EnvV K `Y `S H σ δ d v,mk0 e2,(`k5).mut,Nat.mul_comm,⟨q1,q2⟩,Heap.size_push,not_or,IsZ `aE z TI TO a f,`C9=`a oa,`kT `gn `f!,`DF "__next__",st.h1,st.h2,lo<=z/\lo<=TO/\lo<=i1/\lo<=i2,(`akd),a::as,`g1=(xs.zip ys).length,H t=`c,(`Ss).symm,
`a (`my sub),j<=`bk,`d p,(`g7).bind,(ha.go B δ),oz0 ns d,J.w.back,(`mR).bind,PN X i o go,ClsN X.K c F,f∈F,hc.ok C hC,tq0 nk,`l `FV,env.free,tr d=`b,`S8 ns ps,gP δ,PTX X a gt,s40 ds,List.filterMap_cons_some,[`lf, "_law_small"],[`sT, `Gn],`m6 c ps,c∈`Gv,[`pD,`sW,`Gx],.ow (v8 p `ij),[s0,`sW,`Gx],10 ^ 60,[`TL,.sh `r1],`bF h1,J6 0 `cw,Gw.mq0,[`r?],`ds hp,[`s4,`yt,`yu,.un],`l (`s6),Res.nx,List.map_singleton,(.ow (v8 p (N0 b u))::δ),[`cE,`s?,`bW,.un],W9 (T8 (yf0 `io h)),w=`td∨`iu,`te∨w=.cls,Y0 rfl `jN,[`gu,s1,`Uo],`EM α,List.drop_left,{ S with spelled:=w,names:=`UA },`N z,((n%128:Nat):Int),n<`Hk,List.flatMap_cons,`t [_,`fr],(x:Int),(kb B).length,hb ps B T `jV,hq.vals,Runs.one,by rcases hv with rfl|rfl<;>decide,{ S2 with count:=c },`he<90000,ws.count `b1,rest.length,(`aol),lkd i,h.pre,`N hj,`ai hj,h d A6,w.cps.toList.length,(`U9).begun.length,`yQ<=20,`I h (by simp[deq]),(by show 1<=`L;omega),pg.vk,`a v',x/43200%3,.sh `zj,(o7 X5 Z3 (d8 `ap v6) v6),rl0.nd,[`d8, `tK],"_law_value",[`lg, `Gg],"_law_word","_law_part",FnN P w K mg `m `Ij 1 `Ik Z4,z30.nd,C__law_values,(mt0 `VF),[`d8, `x7],FnT P w K mg `m `D `tS 1 `tT t8 W0,[`d8, `x8, `Ty],[`d8, `apg],`bq `wb,⟨hh,gg,dd,tt,oo⟩,`z f,Value.str,κ×V,fs.length,fs.lookup,sysModules,`hI=`aj,SubOk,H b=`mc,k b u q,"__name__",`c3 b,X.pn++`i,I.base.free,σ.set,`c3 a,λb o e n hb hx=>?_,I.ok.above,isTrue,behindInMarks,.Compare,.bl `q,its.size,its.toList,(`dm),e::es,setItem,q50 X `i H b,I.turned,`Qb `bj,Hp->VK->Prop,`d (i+j),`w (x=y),r x y H Q,`a (`a `ef),(k,x)::r,(k,v),∃t,u=`PC i t,(`P1),I1.laid,sp vs H Q E,(`ce x p),`rK `bj,(us++ds),envOfC,(`mk N vs),(`cK id),(`gX),sIx `dq 0 lo,(`z sl),Str.ofString,`aid _,ma0 xs lo hi,(`Dx),(xs++ys),xs[j]?,`a `mg,`a `PF,[`kU],`t ys,(`wN),a::b::r,`f9 `b,`a `wP,s₁.heap.get?,BindsTo,`a (`hK o `mg),`rL y,env.cells.lookup,(n,k),`ag8 x,ForInStep.yield,λ_ _=>`bR,target,.ListComp,`K->`hN,{ cls:=`dk,data:=`bP ([]:`ac).toArray },X.env.scope.kind,X.env.kindOf x,(`aiN),`bO `b,`ad DL.D,`aT `aa,(`ch),
ze0 n `cg δ,ge δ',`a `aQ,SqT' K H B a xs,(`w9),r.same,`a `ft,`w' ns xs,λ_ _ z=>z,sos.length,(a:Int),l[i]?,(SlR K H B),`a (`Re),Same.refl,by rw[j5],(`ai1),(`ai2),r1.same,k H' s,(oA gA f),λi H2 g2 hi=>?_,`En _,by rw[`Rq];exact hi,if `xe then `c else H1 b,en.same.nf,s1.nf,(U5 n `cg gi f gt ge),(T4 N ds),isL d=`q,u=`hG,`ce Tn p2,rr.length,`f8 pos (`h0),(λx=>!x.1),(`ahZ `b_ `ah_).all (λx=>x.1.isSome),λv H1 s1 r1=>?_,λvs H2 s2 r2=>?_,yp0 d,DecidableEq,gw0 i δ,`am+`en<=`L,gl δ,(P6 ..),`pb=k,valueAt,kvs.map,ks.map,atKey,`EU kV,(`fs),(by rw[e];exact `kP),"dict",dd.typeIs,λb z=>?_,⟨a,rfl,hb,r⟩,Pd.impI,(`rP),b≠p,λa z=>z.1,(`kJ `d6 e pos),rv.same,`bP `aQ n,Rp X.K H B d x,SeqAt.EqAt,(`mB).trans,B5.mp,λp=>`R4,(`z I),.done,`gR->`rv,(`o6),s1 _ _ hx,(`E7 s1),s.heap.IsList,c≠z,xs[k1]?,(`z e),Around.under_plainId,·.push,hG.above,(`pi).toArray,Prod.fst,H a=`c,[x,y],(t,HO.tup `xG)::J4 as `akr,IsEnum,PySem.Str,(`RW hp),(`kU),(`ce x p0),`fq { cls:=`bq "tuple_iterator",data:=`mb #[`hV,`d 0 0] },`bq `jc,Gr.but,gk δ,yp0 dk,λ_=>`bR,L2.closed,OpenOk,`a so.ho,I.closed c,hb.go,us.take,`bk+1,`ce y px,sos.set k so',(`jv),`akJ f1 f2,λv1 H1 s1 r1=>?_,(`pn rx),"append",J.w.hd,q2 f hf,nm.map,(`FU `s),"pop",i≠j,`dt=`a ns,D7.mpr,(`S3),ns++[`mr],s2.trans,`Q4 (`S?),(`g6 H3 `d5),(`jx (λ_=>(#[]:`aI))),(L,`Tc (`ak7))::J4 as' `akr,l.filterMap,(`fF),`d 36,(gc (`d 7)),`d 60,(oA `cW V2),"_law_at",(gN 1),(o2 `W `m_ o5),"text","row","table",(gv 6),"_law_size","_law_order",(o2 `jD `sP eqD),(setAt 3 `fG),(o2 `W (gc (`d 43200)) o8),[1,2],"value","told",[`Gc, `Gd, `Ge, `sN],"item",(gc (`s `Gm)),(zg0 0 `pz),(plN `amw),(`d 255),isBool,nameS.cps.toList,`a `ej,.sh (`m8),cs.length,(a++b),b.length,marks,W9 ?_,λc=>[c],(z/(`bV+1)+`yk),(`jg),w.take,`d N,(`amX),`d `Ej,(by simp only[`V,`gr];omega),List.length,.sh (`d (z/4%4)),z/4%5,(st:Int),`TY+`bV*`GO,pool.getD,(k+1+n),.ow (v8 p (bk `GR cs sm m `aB)),`m! - 1,.sh (`TX),`t (`yb),z/300,(W3 S),`yw S,`d `T3,D9.mpr,`fN++[(kd,[])],await,`ln (`Uf),(`G2),
`d (N/4),W9 (T8 (K3 rfl)),b<=255,`l `Um,(`er `anp),(c:Int),`s (`az [b]),`ln (X8 [b]),`TF n,`s5++[b],(`a 2),λc=>X8 [c],codes,(V4 ?_),V4 (N6 ?_),Held q,`ln `ne,n/128,2 ^ m,2 ^ 300,[`g9],[`ey],d=`ey,4*`tn+`e0,Pt.rcd,(`ix).length,.sh (`UL ps).d,`fK c,ix T s,(2*`tm+1),ps.getD,(`n s),(`tr),.sh `Hx,(`jS),.sh `Hz,[`tl,`jS],rel π p,`lb λp=>(p.1,lkv π p.2),L.map,(`t `anP),ok.few,count_tail,q.2.length,λ(k:Nat)=>`bU,ih h `y2,B'.length,(n+f),(`p6 J).2,(n2+f),its (`p7),[lkd 0],(`e0),(`tn),`Ud `HR `HS,pw `ax,t.cps.toList,(W.ok p hp),W.wb.it p hp,`O _,`cA x 50=`b/\`cA y 50=`b,`fK q.1,.sh (`UL qs).d,(nd L),Km.u20,tgs `aoS,tgs ds,(`a `cw),`t [`g!,`ao1],by rw[e];rfl,`ng qs[k] (`Vu),`l (nd P),`ax - 1,`ys - 1,ps[k].vals.map (lkv `zg),.sh (`zl),"is_new","number_bytes","sign_bytes",(q80 v6 v6),(λb ds q h=>o10 `p h),(z8 6),"_law_cell_at",(Z9 `a3 v6),"_law_values",[`sQ],"_law_with","made_part",[`x8, "held"],"sign_of","is_left",C4 X9 G9 a9,F9.kp,F9.binds,(h.trans hl),(`bx)->`wa,`P->`wa,y.cls=`CT,(`wc P W),(`s x t),by simp at e,xs.take n,`we=`eg,o.dict=`c,`mb vs,entryOfKey,∃o,`C0,∀b xs,`PL->`ag0,∀b u,`PK,`a ob,Un.kept,b∉`hL,I.ok.bs b o e,`kF x c e,s.heap.FunFrames,List.filterMap_cons,A4 _ hb,(`me x c e),λx c e=>?_,(O b o e hx),(`C7 b o e n hx),`ag? b o e hx,id `gS,I.step,s.drawn,λb u e=>?_,∀b u,`ahb,I.base,N.Nodup,Q () s',(`cL hi).1,λ_ _ x=>x,`f9 b,x=.bl c,c=`b,`cf a=`aj,Array.length_toList,Inv X `i σ H `gV,`P2 pos,`ow `ahn (`Dh ov iv v),release `ahn [],`hR->`rv,It->`hN,rv.get hx,λb hb=>(`oC).1,`P? (t':=`Qa) `rD,⟨_,`eM,rfl,rfl⟩,`oE<=j/\j<`ga,Gl X `rn,`b7 `rn=`c,r xs H Q,Int->Int->V,Operator,(tOp r ta tb),0<j/\`ahD,(`kM .Mult),`ai hk,(show `bR from r).elim,H a=`mi,`cu K `ef=`b,`CZ m=`c,I.write,`N q,H1 a=`mi,PE X o ta,A.depth,A.under (`cK `ahX ⟨`rH::us,kw⟩),⟨us,[]⟩,`P2 apos.atName,`ow [ov] (`Qq ov m pl),sc.names,Str->`aT `ah3,((p,w)::`Qs),by simpa using h2,`hT `ah6,`cf f,ws.toArray,ws.length,⟨_,J,rfl⟩,if v<0 then (v+`cw).toNat else min v.toNat n,
((`ah9:Nat):Int),s.heap.IsSliceOf sl vl vu `ay,`wE vl lo,`wE vu hi,Subscript_,by rw[J];exact hw,q _ `DI,IsTupN.new _ _,r1.append r2,`aT Nat,x=`fu,SqL K H p xs,N4 `h,Bool.or_false,⟨_,e⟩,`I (show `ww from fx) B2,xs.all uc0=`b,(λw hw=>uh0 rx fx r fs w `aim),⟨`bA,H,I,rfl,?_⟩,show its.toArray.any `oN=its.any `oN by simp,po0 r fs,xs.reverse,List.foldl_cons,Builtin.List.listTooLong,rv.one,I.lstM hH,⟨_,e,rfl⟩,I.lset,l.most=`wO,(λv _=>v=`dr),`wU `b,h.Ns `ba mg,`c6 x `fw (V5 st) `wW `oR `ay kV doc pm an cdv ct,`af N ps `oR,`c8 H1 H2,{ s with heap:=h',toks:=`wt },v=`bH,`n h,List.forIn_cons,by rw[← hs3],⟨?_,?_⟩,`a `r2,(`a0 i `r0),`a (.ct δ'),`a (.bk δ'),`aT Sl,`j->`oX,(`as).length,v7 G1 G2 δ,`r5=`Eb,xs.getD,g _ _ n h,.dK `w6,by unfold Rp at h ⊢;exact h,by unfold Rp;rfl,by conv=>lhs;unfold Rp,⟨x,rfl,h1⟩,by rw[n6] at h;subst h;simp[n6],`Ee s,by unfold RpN at h ⊢;exact h,`g0 K H B as n so,`g1=`Ei,(RpG.toO rfl h),h.same,`aiZ `Rg,`o5 j k a ds es h1 h2 h3 h4,∀σ H Q,t' σ H Q->`mA,(gv i),k _ H `c' `Eq,FnR X.K r f,Rps K H B ds vs,`c8 `Y H,zv0 (h1 `Y `S δ) sb0 `i s σ H D I `Ro,PTD X c gt,⟨r,`o7 s',e1,k⟩,⟨_,en,e2,λvs H' s' r=>?_⟩,List.drop_eq_getElem_cons hlt,`jq hlt,(`Q' s2),λK d=>by cases d<;>kernel_rfl,(show `ED from ru),λ_ _ _ _=>`Eo,(`l (xs++zs)),p2.isList,λ_ _ _ _=>`ai1,k _ H `c' ?_,`w ([e].length+`xk+`xl<30),(`eW).bind,(`h1).bind,(`EL).bind,q30 ds,xk0 xs ys,List.nodup_append,`ds hx,(kvs.any `RJ),(`k2),Rd H a `QI,(show u=`i5 b from ry),(n0 hu),(l20 `bY eb),(`RO).isSome_eq,h _ `EX,PE X o td,keys.length,e.at hi,`g3 e2,⟨_,hi⟩,⟨_,h⟩,`I rfl n3,⟨B,`ajj,`ajk,e⟩,`ai hf,[`ajH],its.toArray.isEmpty,`w (([e]:`bI).length+`xk+`xl<30),`o ⟨rfl,xs,`o (`o hx)⟩,rx.length,"extend",kx0 z n,2 ^ 40,(`R_),`h2 ds n=`b,Rps X.K H B ds xs,Bool.true_xor,b6.mp hn.symm,hz.2.1,dxs.length,`E? hk,Int.zero_add,(z7 g v5),`jw d=`b,(`bq `R6),(λfin s'=>match fin with|`Fc f=>R (.ok f) s'|.again c'=>c'.quiet=`b/\`gZ `av A c' R s'),(λe s'=>R (.error e) s'),
(hT 0 _ st),`a `R8,(λ_=>#[]),(∀b o,`Fd),by simp[hh],(`Dd:Int) - 1,(xj0 rr).2 hl,ya0 pr.1 q,⟨rfl,λe u he ru=>?_⟩,`sq `aE TI `R? `Sa,`aj5 i1 l1 k1,`aj5 i2 l2 k2,(∀c o,`Fi->`aj8),A0 (`Se),`r `av A (`ss `gn) Q E s,ZLow z TI TO i1 i2 l1 l2 S,st.hl1,st.hl2,∃f0,IsZip `aE z TI TO f0,(`jx (`Fm `mO)),(`jx `Sl),hl p hp,by simp[J4] at h,t∉as,Gl X `jc,`b7 `jc=`c,(`k7 elts x1 tpos),(`aR (`ce `jc p) [a] [] pos),ys[m]?=`fk,y'::ys,m<`en,"index",`ahv l `aQ,But p H H',But a H H',"setdefault",(`FB).bind,(`sB).isSome=`b,`xK b _ q `dI `dI,c.root,(ha.go `Y `S δ),`rM `h,`SK=`akD,(λa=>if a=p then `c else H a),ev.same,rv.mono,λd=>d,Vis `wk y,(y==`ahf)=`q,by unfold RpN at h;unfold Rp;exact h,by unfold Rp at h;unfold RpN;exact h,k<`Ei,b∉as,PN X i e g,`po `FQ,(U8 (ho.go B δ)),⟨d,a,ns,as,sos,env,e2,at',`FP⟩,`akL r1 e6 hnode,(λ_ _ _ z=>nomatch z),u90 fs ds f,`akM::_,`xO e3,(λ_ _ _ _=>rfl),p9.mpr,`k9 es=`b,decide_eq_true_iff,`gc n X.A,env.bad,k=`g1,`hT hk',b∈`k!,`dl hb,(`l (es++`pq)),d6 (A3 ec),∀cl s H ex,PX `oT elt gx,`ad (D×D),⟨r,J,e1,k⟩,c.other,(`ak2),`Q2 `wR,List.filterMap_cons_none,zr0 its l u c,(Y6 `bn),(o2 `ab `fH o8),(ob (o2 `Te `bn eqD)),(yv0 (ob `alp)),(b7 `bf (o2 `alt `alu ixD)),(Y6 `ab),(R5 (oA `x5 zn0)),(j6 (wt0 1 (oA `cW zn0))),(ob (o2 `au `bn gtD)),(j6 (zu0 1 (o2 `jG (o2 `au `jG o5) m8))),(b7 `bf (o2 `au `jG o8)),[`x8],[`x8, `Ty],["held"],(G8 `amB),(oA (z7 `jD `x5) M3),(Y6 (gc `r1)),.text _,P0.cps.toList.getD,(`Gy:Int),u40 _ _ `h,`a `ic,m9 (W2 `fJ),λj=>`yi,W9 (T8 (K3 ?_)),`az sep,[`im,`TP,`cD],`d'=8,(by rw[cl];omega),z/52%3,np=13∨np=53,by rw[tn0];omega,[`GS,`cD,`bW,`lm,.un,.un,.un],[`GS,`cD,`bW,`lm,`yq,`GU,.sh (`GV)],`ai `h,`d `pN,`d `yx,`dv=[],`dw<=60,List.dropLast_concat,`t [`nb,Q5 (`dw+5)],`hf<=1000,[.sh (`jC),`bW],(p50 p S _),[`anl,`ex,`yE],show (`Tu : Str)=b8 `td from rfl,[`cE,`tc],`Uh+b%128,DL.liftT,`d (`Uh+b),[`cE,`dN,`Uj],`fM=0,0<=b/\`G6,{ S with count:=`yF },S1.wait.count `b1<=S1.un.length,z20 `bf SB `G8 δ',`bZ hm,Nat.pow_succ,sub_len',
b∈S9,[.sh (`jC),.sh (`l `jO)],V4 (N6 rfl),(`Hi),((r/128:Nat):Int),.sh (Pt.row vs).d,`ax<=20,ix l a,(`anQ),k∈ks,ix ks k,idx_map,by injection e,if `lq then bs `anT else bs `Hu++sg s,(`Hv `hS `yS),(`o `bV),kb_mem B j,`b6 `hk,`jR<=100000,[`nh,`Hy],qz0 _ `ni,`a (`aX _)=_,[`aF,`nm,`HA,`Hy,.un],m5 (ds:=`to) rfl,(`aof),(`HC),(B.map π),((N%128:Nat):Int),Bw.fold z,(L9.mp z).2,t9.mp z,(L9.mp hl).2,(`U_),`aon k f,S1.begun,(∀d∈ds,`no),show n+1+f=`HM+1 by omega,hw.len,`e0≠0,(`HU).drop `eZ=_,I.held,`HI<30,(H0 I.wc),(`aoA).begun,`bG+1,`yP ⟨q,hq,rfl⟩,`eZ<25,rq0 `HW,by show (`U6 _).length<30;rw[`F];omega,ix L j,oa0 xs,Sm x 50,K22.md0,ns5 ps B W `tC s4,`H4++W,.sh (`aoW),Dw ps `aB,x%`p9,x/60%`ao0,x/43200%2,[`ly,`cF,`cX,.sh (`ao3),`im],lkv (`zg) v,`jw v=`b,.ow (`l (`p')),`nk q2,[`e2,`aF,`fR,`e3,`lC,`dO,.un,.un,.un,.un,.un],T.b_reversed,"folded","unfolded","is_whole",(top 19),"pair_names",(O7 `nv),(rm0 (j7 `ap `p?)),(λcl s H ex=>`nu),"is_byte","most_held","wanted_items","made_pairs",(j7 `aA v6),(top 27),"pack","held_items","item_bytes","known_head","name_bytes","part_number","text_bytes",C_number_bytes,(top 34),(w6 `nu v9),"unpacked","_law_names","_law_number",(top 46),(w6 `Ig v9),(top 48),"_law_web",(top 49),(top 50),"_law_numbered","_law_led",(Z0 `ap),"_law_drawn",(top 53),"_law_turned",(top 54),"_law_changed","_law_other","__class__",`d i t,Value.int,xs[i]?,`bP `a6 n,{ cls:=`dk,data:=`PE },fs.map `bz,h.Ns1 dx mA,∀f,`on (`CZ f) (mA f),b=a∨`C2,`oo=`bi->`wh=`bi,H b=`gP,`hK ob u,`a (`hK o u),.tbl ps,`a (`PO),`wj x=`i7,X.env.cells.lookup,σ[i]?,I.base.keep,I.base.slot,(λ_ q=>q),X.env.scope.names.lookup,X.fn x=`b,I.base.tups,I.base.frzs,List.getElem?_set_self,`ad L2.V,`bb e `x,standAt,b::`a7,.UnaryOp,`Dd<=`L,.Return,`z it,`am<=i,h.IsListIter,(`aWR),by simp;omega,I1.kept,s1.toks,I1.hok.fresh,{ cls:=`bq `rn,data:=`mb #[`d lo t,`d hi u,`d 1 v] },`bb a `x,(`q,`Qd),`bb b `x,`E->Sem `E,`d (if k then 1 else 0),mA `el,W.plainGet,W.emptyDict,`agP C `M,yg0 f v fs,Str.empty,
`cM `gd `x,`f8 pos (`rB),getMethod,(`aXv),P.zip vs,D7.mp nd,sIx `dq `dq hi,`Qu - `DD,(`aic==0&&`wG==1&&(`Qv)==`dq)=`b,(`aXZ),`hU `am `am hi,λb ob q=>`wH,-`cw<=i,operate,2 ^ 63,eqV y x,`d `jf,SqL X.K H p ys,SqT X.K H p ys,`a `DP,(`aio),xs.dropLast,{ cls:=`dk,data:=`bP `oO },d.name,`wn s'.gens,⟨[u],[]⟩,⟨`eU,[]⟩,by rw[q];simp,Params,l.row.toRowW,N'[n+k]?,`cg[k]?,(`r_).join,NameKind.free,k==`QV,`a `rV,s2.toks,spos.line,Sum Int Str,.nx δ,zs0 f gt ge `hW `aQ,ys.map,`a (.nx δ2),ks.zip,`Q4 xs,`r8/\`a1,Rp K H' B' d v,Rps.mono,`Q8 g r,Gr.same,as[k]?,`Q!=`jj,Rp.mono,`ms `s,sos[k]?,RpD K H B ns a,.ow ds,`a `r0,(`aYG),Rp K H' B d v,(`aYH),(`aYI),Or.inr,(`gk).same s2,h B δ,`i' σ H,⟨_,en,e1,k⟩,⟨`Eu,λi H2 x H3 g2 y hi=>?_,`Eu⟩,rs.length,(q.mono g2).to,(C3 hi),(b1 a z),M.same,by rw[U b n];exact h,`cx - `dG,it.yld,it.stop,(gN i),`ajh/\`EC,L2.start,`Q2 `xi,(g' i j),k _ H `c' `Ep,L2.atI,Env X.K H B σ δ,`cM [e] `x,`t `DJ,λkv=>`w (`ER),List.find?_cons,`mG kvs k v,`aY1 e,λz=>e (h1.trans z),rel.val k,Pd.setR,(`a `c7),en.same.trans,λj k a ds es h1 h2 h3 h4=>?_,λj ds a h1 h2=>?_,∃(i:Nat) (d:D),`ajE,⟨v,e,`cR (`h3 `E5)⟩,Gr.fresh,xs++[v],rx.same,`ce y p3,`QC - 1,`cA e m=`b,`di y w,deq d e,A.in1.units,`t `ajS,Txt.startswith,"list_reverseiterator","__length_hint__",{ cls:=`dk,data:=`bP #[] },`aR (`ce `mK p2) [e] [] `mL,xh0 ks q,(`aZB),(`z i1),(`z i2),c≠i1,c≠i2,`f9 `q,A0 (`sr),Builtin.SmallTypes.nextOf,D.l2i1,`PD=`c,acc.toList=`pi,ZSt `aE z TI TO i1 i2 l1 l2 S xs ys 0,`fq `D4,(·.pop),`e×HO,wr0 H l b,(A8 q),by rw[J c `akl];exact q,`aR (`ce x2 p2) `gd [] `mL,J4 as ps,A3 `A,by show 2<=`L;decide,(`aks),(T0 _),t1.length,(s1.mono g2).to,by simp[hi],`a `wM,hit.typeIs,2 ^ 20,H p=`QH,`C9=`aj,q.symm.trans,(wd0 l),(A3 z).symm,us.drop,f b ds,`a (r,b'),δ'[j]?,mkB n N j G b ds,`cy ks vs,vk0 ds,(`aiY).imp,(`a_N),ns.set,J.w.node,`o (`akK),`o ⟨rfl,xs,`SS⟩,(`a_X),(`a_Y),`a (`xL,mk),.List [] lp,Q5 `eP,PartAt,(`a_5),`cm dk=`b,[v1,`xP],SubO.lst,sos++[`S2 []],`FZ ⟨r8,Q2⟩,
`akU b q,at'.w.all,`aL `mU .un,partsOf,(.ow b'),(`a0q),(`a0m),`ib `eO,(`a0y),(ns++[`jv]),HO.lst,(`a0E),(`a09),(`a2n),"many",(`a2R),(`a28),(`a3g),(`a2r),(`a39),(`a5p),(`a5I),(`a3K),"pair",`d 128,"signs",(`a8e),(`aZg),"root",(`a9V),(`a9N),(`a3J),"size",(`a'k),(`a'r),(`a'L),(`a''),(gv 9),[`m7,`d9],pre.isPrefixOf,bk k cs sm m `aB,(`gs).zip,a.length,`a `Df,(by rfl),.sh (`d c),.ow `ij,[`fx,`TM],(`bl n).map,.sh (`s S),(`a?r),cg ((N+`bU)%36),.ow (`l (`yl `s)),.sh (`s_),(O5 1 v5 f),zw0 `bD `TU 1 `pJ `aQ `ij,nm.getD,`d `GO,z/1000,Gd p m `aB,z/4%21,`GW%`m!,`lb `s3,S.digits,(`fM:Int),`s (`s7),`d `T2,(`he:Int),λn=>`fK (`s7),put S k d,`fN[k]?,`na `ana,Gw.qd0,Want.fin,f `bJ ds,qe0 `D t8 `bJ=`b,`l (`am8 `am9),wanted,(wd ws).reverse,`pT `dw,`a??+3,`T2*128,Bt.u40 _ _ `p,.sh `yC,b8 `d9,S1.count,(`er `d),`s (`az [c]),.sh (`Un),`d `kR,`d ((36 ^ m:Nat):Int),.sh (`Up),`yl `am7,`az pre,L - `eZ,words A k,names.filter,X2.mpr,t0.mpr,{ S with spelled:=`Ha },`b3++[w],`l `dx,.sh (`UB),(`a?P),[`anz,`l q.2],`t `UE,Q5 (k+5),.sh `ne,`l (O8 q),.ow (`l (o.map `d)),2 ^ 250,Pt.table,ps.take,`TH vs,(`hj).length,(`rg s:K6),(`baM),(`bG:Int),T++[s],.ow `Hx,(o++`an7),if `dy then B else `lr,by show `jR<=_;omega,`fC hb,rel `gx (`yZ),ok.held,sp++[b],∃z:Int,d=`g9,(ds++W),n1+n2+1,`p6 hj,Km.pak,100000 - n,pre.map,`fK p.1,`HI<=30,wa0 S0 `bG `HV (`iB),`T?::ws,r.app r',D'.inv,S2.ends,(`bbr),Km.laid,(`Vc ps L),`s _ _,(`aoL),(`y').zip,nd `yX,`l (`Vh),`l (nd (`H3)),.sh `ev,.sh (`tB),L.take,`y! `bz,h.gd p hp,`nk qs,Gw.h50,x/720%`p9,qs[k].vals.set,`d `m',`Vs j v,qs.set,P.getD,`b6 h0,.ow (`ns),(z80 v6),"beginning","_law_number_here","_law_signs",(top 47),[`le, `lg],hr.units,(top 52),[`bcS],"_law_by",[`sQ, `sO],(`bdf),(`bdg),[`pB, `Tr],[`pA, `hb, `VA],J9 `aph,isSubtype_type,`cK "object.__class__",`agM `ef `wb,⟨_,e,c⟩,(`ma a:Key),(`rg a:Key),Paired.length,`ah r _,by simp at e;subst e;exact`agN,⟨u,`rh,h2⟩,(`om n),⟨_,`eM,rfl,_,rfl,rfl⟩,H dx=`mc,`CY<=1000,`ri/\`rj/\∃vs,`kD/\`agU `rk a vs,o.ExactDict,
`rl=.dict es ep,(`agX),h1.get?,`ct P w H h a o,∀a b,`ag_,`a (`PM),`f6<=a,(x b u e).stay,Mut (H x),e=x∨H e=`a (`f5 x),∃u,`fl e=`bi,`a (`f5 y),by subst z;rw[r] at mu;exact mu,`a (`ag3),∀b o u,H b=`PN->`hJ=`PN,k b ob q,λb u q _ _ _=>`C3,λb u q _ _ _=>⟨u.slots,`C3⟩,λb u q _=>⟨u,`C3⟩,(upd H x o),`ro `m,builtinsNs,`ag7∨`PQ,X.env.globals,X.s₀.heap.get? b=`aj,`ad (`dF),`ag'/\`rt/\`ag!,HOk `aZ X.w H' h',(`aWp),`PU b o e n hb hx,Inv X `i σ H `ou,k b o (λz=>hc (by simp[z])) e,λ_ _ e=>e,σ'.length=`ry,(`kG b (B0 (B6 `ov `C!))).trans,`kH (B4 hj),I.ok.has,(`kG b (B0 (B6 `ov (I.ok.cab x c U hc)))).trans,V->`hN,Q vs H',(`aWs),⟨v,H,I,r,h⟩,wpAny_Name,(`aWv),∀whole,`ahh=(do let v ← whole;`P2 e.pos;`ow [v] (truthy v)),(`aWw),(`aWA),r.inj r',⟨σ',H',`ahl,q⟩,V->V->V->Hp->(`hN)->Prop,`mh es `x,(B0 `ov),PE X o to,(`aWD),`aho [tg] e `i! `x=`gT,`ahp [tg] e `x=`wp,(`mh [tg] `x).map `eO=[`hQ tg `x],(`aWF),q50 X `i H' b,Nat->`wa,tn i `aE,J.go i H,(`aWI),Inv X `i σ H' s2,J.yld i H x H',J.stop i H,`d (lo+i),⟨o,e,λv z=>by rw[d] at z;cases z⟩,(`aWQ),(`fq `Qc).objs.size,[`a_,`fr],PA X [a] ta,by simpa using q,PI X tg `je wi,(`aWY),I7.unpinned,(f v u),Int->Int->Prop,(`aW0),0<=j/\j<=1000000/\`ahE<`wv,Qp0 x y=`b,λi j=>.bl (`w (i<j)),λi j=>`ahJ,λi j=>.bl (`w (j<i)),λi j=>`ahK,`I rfl h,(`L:Nat),sizeLine_eq,ObjM `aE x dx C mA,W.hasDictIn K C=`b,getAttr,`d1 K `ef=`b,`ahR=`b,show yg0 f v (`Dq)=(if k=f then `Dr::r else (k,x)::`ahT) from rfl,`CZ f=`bX,gj0 `bY e,RelO.some_of,`bb e env,(`aXs),Around.under,Code.isFrame,H1 p=`c,(`aXu),∀vs H Q E,`Dv->`bS=`ax,Env0 P w K mg `m A `cv s H,e.frames,λr s' hq=>?_,`fv hq,`cu K `ft,`ah2::us,vs[i]?=`bX,`rM `ah6,`dp K cdv `fw=`b,(`aXJ),`gf X `wD r,`rp=`a `wD,(`aXO),Builtin.Slice.slicePlaces,A0 `DC,tupleItemsOf_,`N `p,{ s3 with heap:=s3.heap.push { cls:=`bq "slice",data:=`mb #[vl,vu,`ay] } },tail_any,`gU ha,`N h1,seqIndex_of,`ai h1,`ai h0,seqIndex_neg,IxR X r,SqT K H p xs,A60.lookup,(`aX7),-(`QC:Int),H p=`DL,`mn lo hi `c n,
(if a then 1 else 0)==b,a==(if b then 1 else 0),uc0 x=`b,(`cK `rT),`fl `M,h'.push,`bY p _ hk,typeOf `DB=`bO (`bq "method_descriptor"),MtR X id r,`eQ o `el `x `mq=`hP,(`aYi),(`Dg).length,acc++its,(`aYj),⟨e,?_⟩,(`l `QJ),Nat.succ_mul,OpenLaw,d.params.defaults=[],mg `QL=`DS,s₁.heap.Ns,`gc k `wS,∀(s:`v) (u:`E),`DU s fd `QN [(x,u)],SqL K H a `wT,H b≠`c,W.OpenLaw,.FunctionDef,x.cps[i]?,`wX y=`dX,x.2=`i8->∃c,`wX x.1=`dX,`DY::r,λ(n,k)=>if `aiD then (n,`wY) else `DY,if (`aiC&&`DZ==`i7)=`b then `wY else k,Nat->`eL,`r_=`oq,newList [],h₁.get? b=`aj,(x,`i8),(`kX).2.1,as.2.2.2.1,`hO `mv `w0 `QZ `x=`D8,`a (`hQ `D7 `x),`ad (`Q_),(`d3).bind,z20 f G `aQ δ,D->`oX,`a (`d (i%j)),`a (`w (i=j)),sIx `am 0 lo,`r4=`o_,by simp[hp],`mx=`d4,by unfold v7;rw[h],.dT `w6,`a1->Rps K H' B' ds xs,xs++[x],by simp[n6],s _ _ e,RpNs.mono,by unfold RpN at h ⊢;exact `Ra g h,so=`cN,`cR g `Eh,H a=`a `aiW,(show `bR from h).elim,∀o xs,H a≠`DV,m[i]?=`k0,l.set i a,(upd H p o),Rp K H B dx x,(`Rl).bad,fun σ H Q h=>gb0 hf h,⟨x,en,e,λv H' s r=>?_⟩,k _ H' s (by rw[← h,X7]),`ai hl,(Y7 gA),`o j9,(`gk).bad,fun σ H Q h=>b40 hf h,(vs++[]),∀a,`mC->NB (`Y a),`Y p=`c,PSD X st G,lj0 (i:=i) hN hi hx hf,`k1 s',(`aYK),Gr H₁ H B B,⟨_,en,e2,λv H' s' r=>?_⟩,⟨xs,xs[i],`Rr,by simp[`A]⟩,rs.get (i:=i) (d:=_) `Rs,y xs `Rr,⟨`Ev,_,C3 hi,λB' gB _=>r'.mono gB⟩,⟨xs,`Rr,`Ew⟩,PDA X [a] gA,i<=`cx,fun σ' H' en'=>⟨δn,en',ei⟩,hS.trans,λi j a ds es h1 _ _ _=>(ud0 h1).elim,fun σ H Q=>∃B δ,tDT X.K B δ gt σ H Q,fun σ H Q=>∃B δ,tD X.K B δ ge σ H Q,(`aYU),Fun K x `fw st fa fd,`cM [`EE] `x,J.toArray,eqS dx dy,⟨rfl,?_⟩,`RF xs i,SqL K H p ys,SqT K H p ys,`o `et,`n `et,PD X o g,⟨_,en,e1,`EJ⟩,mg x=`DS/\`cu K `wP=`b/\`xm,(`o?).bind,(wv0 s),vv0 ks ds q,T5 gt G n δ',`h2 xs n,⟨hl,?_⟩,⟨(`aL `g2 x.cps).foldl `mF #[]⟩,`oE<=n,`t `ajs,`pa xs lo hi,{ s with toks:=`a8+knd.draws k },(`aY0),knd.keeps,⟨h1,h2⟩,Option.isSome_map,Rd H a `DP,upd H a (.dK (`RL)),dd.mapOf,`sd H a y o,
∃q,`fl a=`se,`ad (Key×`E),`ajw<=`L,by have:=s20 kvs k v;omega,let ⟨q,_,_,hq,_⟩:=J;⟨q,hq⟩,PE X i ty,(`aY7),λkv=>(kV `pb,kv.2),RpG.mono,List.set_cons_succ,(`aZb),`o `sh,`n ⟨d,rfl,e⟩,`ju b z,d9 `A,en.same.free hp,`o8 j ds a h1 h2,DL.fz d,`o `ajF,(λo h=>h),Array.size_append,by rw[`a9,`a9];omega,Bool.and_false,`hQ `E6 `x v,`ow [v] `sl,`ow [v,ov] `Dt,k _ _ (en.s.mut s1 b1 b2 hi J M),`mh `ajJ `x,λq hq=>?_,`jf*`g2,Int.natCast_mul,`N h3,"tuple.__mul__",`c3 l=`a { cls:=`eg,dict:=dd,data:=`E8,slots:=sl },items.isEmpty,beq_eq_false_iff_ne.mpr,(`dq:Int),`gY*`eu,by unfold deq;simp,by unfold xk0;simp,List.all_map,v1.length,v2.length,`mt<`kV,view I ld hx rx,view I le hy ry,by rw[in1_units];omega,`gY=`bk,by rw[`a9,← `mI,`EF],(`aZn),by rw[`jm,`mJ];exact hz,(`Rl).same s3,`so ds,`N ht,∀i s,St i s->`kT `Fb `R6,ItemsOf P acc' n,λb o hb e=>`sp e,wpAny_letGo,its.reverse,(`fq _).objs.size,`f7 `eh=`ajY,`b7 `eh=`c,Gl X `eh,λ_=>?_,(`Q5).map `aj1,DGet.k hp,DGet.t hp hb,pr.1.length,`a0 i (.ow (`cy (`o (`aj4)) `R!)),ds.all `cm,(`pg).symm,IsZ h' z TI TO a `b,`sq h' `M x y,(`aZJ),(`aZL),O.extBut,⟨_,hz,rfl⟩,Q `c `gV,`fl S=`aj?,ZG xs ys S h' as,{ s with heap:=h,toks:=tk },P5 hlo.1 L.z,X1 d4 _,`Fn a ha,(`aZ5),"tuple.__new__",⟨[`eg,`ph],[]⟩,⟨_,hz⟩,List.nodup_cons,J4 as (xs.zip ys),fr p hp,k b o hc e,λv H3 s3 r3=>?_,List.range'_succ,C3 `h,`jq hj,of_decide_eq_true,s.heap.IsTupleIter it l i,h'.IsTupleIter,{ cls:=`Fz,data:=`mb #[`ay,`Sd,`fp,`sA 0,`ay,`ay] },`k2=`c,cf0 K=`b,(all _ (wd0 lc)).1,H c=`mc,`FE H a sub c,SubO.no_tup,(∃o,`SD),`agY/\`C1 `aZ X.w H `aE a p.1 p.2,⟨σ',_,`FH,k⟩,`SI=`SJ,G δ=`d4,∀p,EndB G `pl j p r b',c1 x `ajF,`SL=`SJ,`bb (`FL) `x,Env X.K H' B σ `akG,(`a_K),by unfold RpN at h;exact h,`SN=`b,by unfold RpN;exact h,`jq hk,(`jk).bind,λk=>`h!,(`dt).isSome=`b,⟨ad,`be,`k',?_⟩,`xO e5,`RY s2,PD X `eR gv,`hO `eR (`a (`akN)) `i! `x=`gT,(`a_U),`mS J.w.all (i:=0) rfl,⟨Y,z1,`akP⟩,`d (n1+n2),J.w.backS,sos[0]?=`mi,`cR g l,[ke,`SX],(`akW `F_),
a1 b hb n,by rw[wg0],`SZ X.K `Y `S H σ δ i j dp,∀H',`SZ X.K `Y `S H' σ δ' i j dp->`i' σ H',u60 ns d,`D2 elt `ak0 `cP lpos,fun σ H Q=>∃B δ,tDT X.K B δ noT σ H Q,(`a0l),(`F1 s3),(`FA hB s2),⟨q,en,e2,λv H' ev=>?_⟩,List.any_eq_true,r.1=`b,(`a0x),⟨q,en,e2,λH' J=>?_⟩,Y b hb n,(`a0D),`aR (`ce `f! p2) `sf [] `mL,sliceRange,`mn lo hi st `am,`F6 `ak9,(`a1g),(`a2j),"abcdefghijklmnopqrstuvwxyz 0123456789",(`a2Z),(`a37),(`a3'),"_law_found",(`a6F),(`a6L),(`a6N),[`x6, "items", `Tp],mkN 1 xp0 xu0,(`a6V),(`a61),(`a64),mkF 1 tt0 tj0,(`a7q),(`a7t),(`a7y),[`x7, "out", "rest"],mkN 1 y20 y50,(`a7C),mkN 1 y70 xl0,(`a78),mkF 1 yl0 yo0,(`a7'),mkN 1 xq0 w00,(`a8a),(`a8S),(`a8T),(`a84),(`a87),(`a8?),(`a9f),(`a9n),(`a9z),(`a9B),(`a91),(`a'l),(`a!m),(`a!r),(d7 m30),(`oI:Int),`w (`gg),Pt->`j,`m6 _ ps,je0 v=`b,PsOk ps,`t [`g!,`a_],`ad (`hc),(`aL n `TE).flatten,(a,b)::`ii r,`a (.rt d δ'),`eW=`a (d,δ'),`n `sL,`n `alb,`n `alm,`a (`d c),k<1000000,(W5 `fJ),(`amO+3*k*k),(`a?g),(`amP),c∈c30.cps.toList,`bF h0,(`ep p),`bF q0,`b6 q0,(λv hv=>by cases hv),by simp[hl],`TO at',λc hc=>?_,[`pD,`bW,`TP,`cD],`bl 13,(`pG).take (if 35<k then 2 else 1),`pH s=`b,`s (`az [`TR]),fj0 _ `h `h,Gw.ii0 _ _ `GK,u9 ?_ rfl,app _ _ ?_,bl0 _ `h `h,by split<;>omega,(`yk+3),λk=>`amY,List.range_succ,`ds hs,`TW `eo "",PoolB np `aB,((ix j:Nat):Int),k60 P (ix j) `h (by have:=J j;omega),by rw[e],`a?N=_,[`pD,`cD,`bW,.un,.un,.un,.un],(W5 rfl),(`T_).toNat,z/156%(`GT),`d `m!,Nat.min_eq_left,Nat.min_eq_right `h,`ax<=60,pool.length,Gd p `ys `aB,[`ll,`d `pE],10 ^ 30+57,`l (`m?),`d `T6,(`s9).length,`jK<=1000,(`GY).set,`T! _ _,(`T')[k]?=_,[`cE,`fx],`a `yC,`G_ kw0,{ wj0 S with un:=u },by rw[hw];simp,u.length,[`cE,`s?,s2,s3],by rw[J];rfl,(`ta).length,[`nb,`jg],[.sh (`li),`bW],(`anh).flatten.length,List.reverse_append,List.map_reverse,`he<=10000,n<=`ani,`dw≠60,`dv=`d9::ws,J7 (by rw[cm,`dM]),`ann=`pP,show (`Gm : Str)=`Uk from rfl,(mp0 p S _),`ann=`a (`dr,R S1),S1.wait.length<100000,`bF rfl,`bal a,
[s0,s1,s2,.sh (`Uq),`Ur],.sh (`anr),`tg - `ant,[.sh (`T4),`pZ,`yJ],`w (`tf=L),w::`Uw λn=>`w (`tf=`d')&&`G?,`jK<60,(la0 p S _),`fM<=8,`th `b3 `fM `ti=`b,[.ow (v8 p (R `Uz)),`gu,`yH],`mn (`a 0) `c `Hb n,`mn (`a 1) `c `Hb n,`Hd (`yL),(kd,`dx),hd d A6,λx hx=>hd x `mu,[.sh (`li),`UC],`fP (2,`dx),`fP (3,`dx),[`cE,.un],.sh (`UF),xw0 `h `iw `u,`b3[`anB]?=`a nm,`te->∃k u q,`hh/\`jP/\`Hg/\X8 nm∉O8 q,((2*b:Nat):Int),o.length,D->Prop,`anF<`UK,`tm<=`L,(`e_).length,(`tn:Int),List.take_length,`fC hm,(`anO).length,Q1.mpr rfl,sub_len,`bS=`yQ,`ng p vs,(`baL),List.mem_map,`hS∈B,hb ps B T `fO,(`jR:Int),[`aF,`yV,`HA,`Hy,.un],[`aF,`cF,`HA,`Hy,.un],`a `anY,if `lq then T else `US,.ow `Hz,[a,b,c,`UT,e,`nh],(1000000:Nat)<=`L,(o++`p3),pk ps f B T W,.ow `ajG,`aog `gv,OkS S d,nB B `jV,C1 _ (ih B T W hB M),`N (hm.mpr z),`ai (λq=>z (hm.mp q)),tgs (`yZ).vals,laid ps L,h1.symm,`ds hv,⟨c+1,?_⟩,{ S1 with digits:=`jQ },⟨`yB,`HG,`UZ,ok.wait,`aoj⟩,`HH hf,sp.length,{ `p5 with count:=c },{ S with length:=`c? },`aL `dL `jM++ws,`mE∨`U0,rg0 hn hj,λh hd=>`HK,h80 (hd _ A6),by rw[`jW];rfl,⟨n+1,`lt,`aoo⟩,(`bbc),(`U3).2,Pk ps [0] [] (`HP) L T b1,h.range,(`HT).drop `eZ,Km.rp0 `gv (fh0 π),`I rfl ht,List.drop_drop,w.cps.toList.map,I.okS W,`bG::`cB,qs.flatMap two,(`bbt),(`bbu),(`bbv),⟨M,hM⟩,W.wb.len,S2.begun,B1.length,S2.begun.length,(`aoE),`t (`na `fP),by simp[nob] at h1,by simp[`cA],`d _ _,`N ⟨hx.ln,hy.ln⟩,s40 `H1,`H2 _ _,`l (nd B),(Km.iq0 hq).2,λx hx=>hv x `mu,hv v A6,`l (nd E),ih hn hB `y2,m5 (ds:=`tD) rfl,⟨`eo,`C⟩,(`Vo).ok,`a (`nk rs),Dw rs `aB,`Vq _ _ `h,qs[k].d,[`ly,`cF,`cX,.ow (`tH),.un],vl0 uk.ok,u9 (δ':=σ (`Vs j v')) ?_ rfl,`a (`Vt),Vk v' `p9,`bb4 k,(`p').drop `eS,lkd (`zf),`l (`H?),[a,b,c,d,e,f,g,h,s8,`zh,s10],[a,b,c,d,e,f,g,h,`lA,s9,s10],(top 3),(top 4),(top 5),(top 18),T.b_bool,(top 21),(top 22),(top 23),(top 24),(top 25),(top 26),T.b_zip,(`bcv),(top 30),[`ha, `Gp, `jF, `Gn],(`bcz),(oc0 1),(top 31),(top 32),(`bcB),(top 33),(top 35),b20 K mg "KINDS" `Go,(top 36),
(top 37),(`bcF),(top 38),(top 39),(top 41),(top 42),(Z2 `Ie v6),[`VB, `zo],(top 43),(top 44),(top 45),FnB P w K mg `m `zq 1 `e4 0 S8,(`bcM),t7 `VD,[`mW, `alH],(d8 `Ii v6),(`bcR),(top 51),t7 `VG,(o4 4 `tN),[`m2, `VI],(top 55),(`bcZ),(lx0 3 `fS),(top 56),(w6 `jZ v9),(Z0 zc0),C_unpacked,"Reader.__init__",(`bc!),(`bdb),"Reader.give","Reader.whole","Reader.web","Reader.takes",(`bdh),"Reader.takes_digit","Reader.goes_on","Reader.takes_head",(`bdj),"Reader.takes_part","Reader.hold","Reader.end_parts","Reader.takes_sign","Reader.takes_name_number","Reader.takes_known_name","Reader.names_here","Reader.takes_letter",`bT K `ba x=`Dp,`R P9 w9 K mg b9 CX0 n f fd ps (spD K m),FnD P9 w9 K mg b9 x n ps m,`R P9 w9 K mg b9 CX0 n f fd ps (spN K m),FnN P9 w9 K mg b9 x n ps m,`e×Obj,(`CU:`v).TypeIs,⟨_,rfl,r⟩,by simpa using e,W.instObj,(`agP C dx),`a `agQ,PySem.Within,`agS mA (`PG),h.DictOf,`e×`E,`gN×`agV,`aWl `rk,(p.1=a∨`rm=`mc),TabOk H h a (qOf ps),`wg->G a b,`hJ=`gP,W.methodObj,d9 (U6 q hn),`hK ob u',`wh=`a o',d9 (hm b _ q `wi),`aWn b,`wj x=`md,env.kindOf,∀x c,`i9->c≠b,(`aWo),(`ag9)/\∀p∈`C6,p.1≠b,I.base.there,I.base.tbls,`C5=`bi->`wh=`bi,`PW x=`md,λb o e hx=>?_,EP X `i σ Q,("__classdict__" : Str),I.mod.glob.keeps I.bk,`C? e `x whole,(a::`P3),`rl=`bP its n,Array.toList,I.unwish,Q σ' H',[v,ov,iv],swapsWithSole,swappedStores,letOwnedTupleGo,k it `aw o e,(sb.2 b hb).trans,I.list_inj,h.IsTupleIter,s.heap.IsTuple,`ahv a `a6,I.tuple_inj,(`aWV),(`q,`Qf),(`aW_),Int->Int,`r `an X.A (f `wu (`d j u)) Q E s,j<1073741824,i.natAbs,-(`wv)<i/\i<`wv,-(`wv)<j/\j<`wv,`d (i/j),`d (i ^ `hS),.bl (`w (i<=j)),.bl (`w (j<=i)),[op,op'],`s (i++j),W.lookIn `el od,`cO K `ft "__setattr__","object.__setattr__",`aXq K C,W.makesIn K C,(`wy).push (`Ql),yg0 f v r,∃t,u=`CW x t,`cO K `ft f,yg0 f y fs,"type.__call__",(`aXz),backToKw,(`aXC),callWith,(`aXD),`i5 `gb,NameKind,cellsFrom,b∈([]:`aU),(`aXH),`a `DB,hc `i s1 σ H1 vs us Q I1 r1 q1,sIx n 0 lo,sIx n n hi,(`rQ+`kR*1).toNat,
(items.toList.drop (`DD)).take (`Qv),"__getitem__",Builtin.Tuple.tupleItemsOf,((`DD:Nat):Int),Builtin.Tuple.tupleExact,.Slice,(`aX0),(i+n).toNat,ixN `am i,its'.toArray,(`aX'),(`aX!),(1:Int) > 0,(`aXP),∀l,H l=`c->Q `wL (upd H l `wM),.dT kvs,`ad Keyword,`aL k xs,`a `QK,(`aYn),K w.params,(`aYo),H b=`aj->`hJ=`aj,x.cps[i],`rL y.1=`md,N'.length,caps.map,J5 n `cg σ,Str×`ah3,`QW&&env.scope.kind==`mj,(`aYq),s2.heap.push `D4,(`kX).2.2.2.2.1,relabel `cP `x,`D5==`mj,`D6==`i7,PG `oT tg g,PF `oT ifs tt,PE `oT elt te,(`aYB),`ce y py,ob ga δ,(·.length),sep.length,Txt.join,Rd H a `mg,H a=`a (dOb ks xs)/\dLn ks=`am/\`a1,`o1->`bB G l m,`a (`Ef),(`my `d5),`Rc=`mi,h.own b hb,List.getElem?_eq_none,`hK ob `mg,K7 (i:=i) hN hv hd hcd,by rw[X7],by rw[Y9],λv1 H1 s1 r1=>⟨y,`gk,e2,`xc⟩,by rw[X7] at r;exact r,by rw[`jm];exact hl,λvs H1 s1 r1=>?_,`cj=`Em,(`aYJ),k _ H' s' `Rp,λi ds a h1 h2=>?_,by simpa using h,λa=>B a∨a=p,RpO K H' `sb d p,B a∨a=L,(`aYQ),(`aYC),`ad PySem.Env,`gc k (`wA (`Dz `fw `oR `M fa cdv)),(nm0 CX0 P w K mg `m N `fw `oR fa cdv A `cv s H E).nox,`xh=`o',`xh=`sc,λ_ z=>z,λ_ z=>`fA,(qr0 h1).elim,Txt.slice,`gY+J.toArray.size,`a0 i (`xn),(ds++es),ds.dropLast,`cm x=`b,(`aL `eu xs).flatten,`EV xs k,`a `QI,rel.length,(`RL).length,X.A.units,(·.isSome),`cM `sf `x,`f8 `b_ (`ajz),`a (.ow d0),ro.plain,`cj=`sg,`ajD/\`jn,⟨z,q⟩,(`aZf),`ce x px,`ce x p2,[`ajI,`RZ],(`aL `eu `aQ).foldl `mF #[],r1.nil_iff.mp,foldl_rep,ds.getD j `u,es.getD j `u,deq (`ajN) (`ajO),Rp X.K H B' e y,(`aZo),[p.1,p.2],(ds.zip es).map,`E->Prop,s'.heap.get?,`a `aZv,`fq `R8,`a `xw,(`q,`bb (`R9) `x),`f8 `mL (`h0),(`aZz),λp=>if p.1=q then v else p.2,⟨_,J,_,env,e3,λiv H1 s1 r1=>?_⟩,by rw[`h8,← hl,`pe];exact hz,xh0 pr.1 q,s.heap.IsListIter,h'.IsListIter,`fl c=`aj,`Sb->`Sc->`c3 c=`aj->`aj7,Builtin.SmallTypes.ownedTupleIsFree `gn,"StopIteration",`bq `aj',`a `aZY,"list.extend.loop",hG.pairs,(`i5 `f6),by rw[`Z,`cn];omega,specialOf,(`DF `R7),List.Pairwise.nil,ys[j]?=`fk,as[j]?=`jj,h1.IsList,
λo e=>hk _ o e,(`aZ?),J b `akl,by rw[`akm];exact q,(`aWm),(`q,`bb (`Sq) `x),as.map V.ref,(us.zip ws),`t `Fr,{ cls:=`eg,data:=`bP #[u,w] },(`aZu),(`a_n),ys.findIdx?,λy=>`w (y=z),(`i5 l==`mO)=`b,(`FA hb hh),SubO.ins,`akA C dx fs,`aT (D×D),`a (.ow (v8 p b')),by rw[`F];omega,λH' B' b' r'=>r'.toL,(`a_J),⟨v,_,I'.opened o,r,k⟩,`jq `h,J.w.opAt,`o (`FO),J.w.nodeK,`t [`h?,`o2,`ch],`c5 `d6 f pos',`akJ `FS U,kk _ _ z2.s,(`a_0),ti0 i `ev δ,(`a_3),`i' σ' H',at'.w.own,at'.w.ins,(`k!).zip,(D3 _ z),(`a_P),(`a0h),λ_=>`Eb,[`a0j],sos++[`S2 xs],ti0 i `FN δ,yg0 f v (nm.zip xs),(`a0A),[`a0C],h1.push `R8,as'.map V.ref,`RF ys i,(xs[·]?),(`a0F),`QB [o,i] (`ml o i),(`a1w),(`a1G),"cells",`s `alb,(`a1L),(`a1N),(`a1P),(`a1Z),(`a12),(`a15),`d 48271,(`a2h),(`a2i),"small",`s `alm,(`a2s),(`a2o),(`a2z),(`a2C),(`a2A),(`a2L),(`a2O),(`a21),(`a3p),(`a3B),"_law_pool","_law_step",(`a1I),(`a3O),(Y7 `cW),(`a3S),(`a1K),(`a3Y),(`a35),"_law_start","_law_first",(`a38),(`a3!),(`a4d),(`a4e),(`a4g),(`a4h),(`a4k),(`a4q),(`a3L),(`a4B),(`a4F),(`fI `ie),(`a5i),(`a5m),(`a5o),(`a5q),(`a5t),(`a5F),(`a5V),(`a6f),(`a6g),(zu0 7 `mZ),(`a6t),(`a6u),(`a69),(`a7z),(vc0 `q),(`a7D),(`a7Z),(`a72),(gu0 `Go),(`a8f),(`a8h),(`a83),(`a8'),(`a8!),(`a9e),(`a9l),(`a9k),(`a9m),(`a9y),(`a9C),(`a9D),(`a9G),(`a9O),(`a99),(z7 `Gq v5),`s `x9,(o2 `ps `W eqD),(tz0 `ab `cW tm0),(`a'z),(`a'I),(`a'K),(`a'M),(`a'N),(`a'J),(z7 `Gs v5),(`a'2),(`a!k),(`a!o),(`a!u),(`a!H),(`a!L),(`a!R),(z7 `mZ v5),(`a!Q),λp=>(p.1,p.2++[d]),[`g!,`h6],`t [q.1,q.2],pool.map,`a (`d (i*j)),c%2147483647,`ms `aX,by rw[`yg];rfl,f (`SM) ds,parts.map,(`a?n),(`a?t),(`a?w),`GG (k%7),`s (`az w),`az (`sZ),`GQ (ix j) "",k'<=k+14,List.take_of_length_le,List.drop_of_length_le,S.begun.getD,`bl `dw,(`am3).map,S.un.reverse.map,S.names.map,λn=>`T4,S.wait.reverse.map,λw=>`yv,(v8 p `bJ),(`hf:Int),q.2++[d],λp=>`eY p.2,(`l (`am?)),(`a?W),`s (b8 v),S.wait.count `b1,λ(p:`hc)=>`eY p.2,`w (a=b),`aL n [Want.name,`d9],(`a?6),(`a?7),`dw - 1 - (N/4).toNat,.ow `a?U,R0 `bJ `nc,V9 `bJ `nc,
.ow (v8 p (R S1)),λc=>`Un,[`gu,s1,s2],`l (`Us),((36 ^ (`Uu):Nat):Int),(`eZ:Int),F.length,m.length,`b3++[`s5],zr0 xs (`a 0) `c `Hb,(`ban),`s (`pQ q.1),`yA[k+5]?,`jK - 1 - b,.ow `baz,.sh (`d `jQ),[`g!,`eX],z.natAbs,(`yN:Int),`d `anG,((sg s).map `d),`l `anI,(`tm:Int),((`Ho:Nat):Int),`d `anL,`l ((tx p).map `d),`Hs::`ix,[`g!,`sx],(`yR).resolve_left λz=>e `oV,`jR - 1,2*`UQ,(`anS),q20 T s,(lu0 _ _).mpr,(`baO),(`baT),(`w (`yT)),(`Ht:Int),(`tt:Int),`baW+2,m5 (ds:=[`u,`jS]) rfl,k70 rfl B,m5 (ds:=[`nl,`jS]) rfl,m5 (ds:=`HB) rfl,(`an0),bs (4*(4*cnt `jU+`nn)+3)++tx `jU,hb ps B T `nj,if `dy then W else `p4++W,st ps `UU B T W (`nm),p6 (x:=`jT) (y:=`eX) rfl rfl,st ps `UU `iy T (`e_++W) (`nm),hw.it p hp,(`an?).vals,`ax - `bG,`tv+51*(`aob)<=M,by show `aoc;omega,(e▸ha),by rw[`Z];omega,(`e_).map,(`ix).map,((N/128:Nat):Int),ok.names,S1.spelled,by rw[`bp];exact he,`aok++[b],l.modify,λf W=>?_,⟨z,rfl⟩,hb ps [] [] (lkd 0),`gw∈its (`yZ),λp=>`U7,Want.value,J.length,(`ii (`y7)).map `bz,`aoh `gv,(`hj).map,λs=>`hg,`b3++[`hg],`ln (`y8),rh0 hw `p,λp=>(p.1,p.2++[`y8]),`yd k `aoC,`t `kL,`cT `UE,`nk `Vd,`l ((`y4).map `d),`a (`aoG),`HE λk=>`UY,by simp[nob],`t `bbz,`a (`a2 (`p8)),ixD X (`yz),(`np).length,.sh `bbF,(`iC λq=>`H_).zip,(`aoQ vs).map,(`hl).vals,.sh (`Vj),(`bas),.sh (Pt.text w).d,`l `zc,(`bbV),(`Vm j).map,`aoY `zd,`a `GF,(`ze:Int),`d (`Vr),`d (i/2),`l (`Vu),(`d `ys),(1+`zi).toNat,`l `pK,`bb5=_,10 ^ 9+7,(`bb8),l2.map `d,(`bb'),m5 (ds:=[`nk rs]) rfl,(`bcA),(d8 `zp v6),(d8 `aA v6),(`bc6),C__law_drawn,fun δ d h=>ph0 h,"behind",bT_Reader,"__getattribute__",(`fj `rf),codeAny_call_builtin,Fin->`eL,`s `PA tk,hh.get? f=`fk,`a `rf,`E->`aa,Value.isInt,Value.isStrOf,`ad L2.Key,`o ⟨i,t,rfl,e⟩,N4 `aWk,(J0 `i4 w).is,`ol UInt8,`ad (`aT L2.V),`ad (L2.Key×L2.V),∃t,u=Value.bytes b t,∃t,u=Value.float b t,`bt ys ws,`di p.2 q.2,`ad (`e×`wd),cont.toList,`hI=`agR,∃mA,`PH/\(`PI)/\`agT,p.1=q.1/\H q.2.1=`a (`t (p.1.map kV))/\`di p.2 q.2.2,(`wf `bz).Nodup/\ep=es.size,
`agY/\`C1 P w H h a p.1 p.2,(show `agZ from x),∀b u,(`PJ)->`PK,∀b,`C2->`hJ=`mc,k _ _ hb e,⟨od,es,ep,k _ _ (`n d) e2,c⟩,Paired.mapP,⟨z.1,ht _ _ z.2.1,z.2.2⟩,k a _ `fm e,`a (`ag1 `ef (`z y)),⟨o,`gQ⟩,`ct P w H h a u,∀b u,b≠e->`PK,∃sl,`wh=`a { o with slots:=sl },∃o',`ag4,∀b ps,H b=`PP->∃more,`hJ=`a (.tbl (ps++more)),k b u (hb b n) q,by rw[`ag5];exact q,`ag6=`aj,∀x:Str,`kE->mb x=`rp,Mod X.K `b7 `dW,`PR y=`dX,X.H₀ b=`c,X.s₀.heap.FunFrames,s.heap.Ns `fn m,s.heap.IsCell c v,`c3 p.1=`rs/\`rm=`c/\p.1≠`fn/\p.1∉`hL/\∀v,p.2.data≠`rq v,`gR/\`c4,(I.ok.noex b o e),I.ok.funs.mem hb,`c4->`ru,Inv X `i σ H' { s with heap:=h',gens:=g',drawn:=d',toks:=t' },λz=>(hch c z).2.2.1 x c e rfl,`aha b ps e,λi x v e1 e2 e3=>?_,λz=>(hch _ z).2.1 rfl,(λ_ z=>nomatch z),⟨_,O,M,hL,r'⟩,(λ_ _ _ _ n=>n),(`aWr),(`bY b u e).stay (λc v hc q=>k c v ?_ q) `PV (`wl) `rx,(`dl hp).elim,Inv X `i `wm H s',`r M A (storeName `x x u) Q E s,`rz a `aE h',⟨`C',`C',`C7,`ahd,`PY,`PZ,`aha⟩,λj y v' e1 e2 e3=>?_,by simpa using `eN,`P_ hiσ,hl j y v' e1 e2 e3,⟨u',r',?_⟩,z.sameBut hs (cne y c e),hn.sameBut,s'.os=s.os,`P0->L2.Hp->L2.VK->Prop,`fo/\`rA,`r `an X.A (`bb `kI `x) Q E s,(`aWt),PE X `kI (tC v),PC X op a b t,nobehind _ `p `p,wpAny_Compare1,(`aWu),wpAny_isTrue_Compare1,O0 ⟨H1,I1,q⟩,λc H1=>Q (!c) H1,isTrue_and,(`aWz),hb wh `i s1 σ H1 Q I1 q1,⟨H1,I1,q1⟩,tb σ H1 Q,(`ox op [a] pos),hb `i s1 σ H1 Q I1 q1,`ahj/\`P5/\`bt xs `De,SqL X.K H a xs,h.ok `bY,`d_ a o hk,by simpa using hs,SqT X.K H a xs,by simpa using C1 `ahk d1,(X.wish E).Ok,⟨ok.mod,`wo,ok.glob,ok.blt,ok.above,ok.inj,ok.has,ok.cab,ok.hd,ok.frames,ok.stk,ok.exf,ok.bs,ok.bsz,ok.noex,ok.exfs,ok.funs,ok.frf⟩,Inv (X.wish E) `i σ H s,SP X `i D f s',{ D with nx:=u D },⟨σ,H,I,h⟩,interactive,`i' σ H1,`hO e `c `i! `x=`gT,St->Hp->(`i?)->Prop,t v σ H Q,(`aWC),wpAny_assign_Name,by simpa using rv,(`aWE),`ce x pos',Nat->`i?,{ D with nx:=N,ct:=N,bk:=`i' },PSs X `f' tb,(`aWG),hN σ3 H3 n3,
⟨m',hm,σ3,H3,I3,w3⟩,Nat->`hN,λx c e z=>?_,λp hp z=>?_,(`aWH),∀v,`rl≠`rq v,(∀b∈fp,`Di),`oz `aZ X.w X.K tg J fp it tn,tn 0 s2.heap,(`aWJ),`aWP n,wpAny_load,λi H=>∃xs x,`oA/\`oB,∀xs,`oA->`oB,λi H=>∃xs,`oA/\`P8,λi H=>∃xs x,`kK/\`oB,∀xs,`kK->`oB,λi H=>∃xs,`kK/\`P8,`P9 it a i,λi h h' st k=>st.at λo e=>`ahr,λh' J sb=>?_,`Dj (t':=`a8) `P' f0 f1 f3 f4 f5,λys hy=>by rw[`aht hy hq];exact hx,`ahu it a i,(show `ahw from p),λys hy=>by rw[`ahx hy hq];exact hx,IsRangeIter,Data.fields,(`aWS),(`aWT),(`aWU),{ s with heap:=`fq `Qc,toks:=tk },((`rE:Nat):Int) - `rF,(`aWW),boot_range,`cM `kL `x=[`Qe,`ahz],`cM [b] `x=[`ahz],(`aWX),tn i `oF,I7.pin `wq `ahA,`wr I7 n7,Inv X `i σ H2 s2,OpR X (`kM op) r,(`oG a op b pos),(`aW3),Int->`ahB,Q (`d `kN `a8) `oH->`ahC,λi j=>`d `kN,⟨`d `kN,H,`fs,`ae,q⟩,(`ahF)∨(`ahG),(`aW4),λi j=>`Dm,λi j=>`d (i - j),λi j=>`d (i*j),λi j=>`ahH,λ_ j=>0<j,λi j=>`d (i%j),λi j=>`ahI,`d (g i),(.bl (`Dn)),(`aW9),(`aW!),(`aW?),OpR X (`d0 op') r',lastMarks `ahL [b,c]=`q,(`aXa),∃i j,x=`s i/\y=`s j/\i.length+j.length<=`L/\Q (`ahM) H,`bt [x] us,∃u,us=[u]/\`gW,(`aXh),(`aXp),∀name,`ahN=`a (`Qi),es.toList.any (·.refKey),`Qj K C `el=`b,`cO K `ft `el,W.handedIn,`E×`ac->`eL,`ahO=`a (`a (`cK `ahP)),`ahQ=`b,`eP<=`L,`cO K `ft `wx=`Dp,`z `gb,{ s with heap:=`ahS },(`Qm).map `bz,by simp[yg0],(show `Ds from r),(show `ahU from r),`Qj K C `Qn,`ahV=`dn,NoAttr X.K C f,(`gO C dx (`ahW)),(`aXr),m80 f y fs,`f5 `gb,`gO C `M [],`eQ e f `x `Dt=`P1,PE X `eR tv,`c5 o f pos',.AugAssign,recursionLimit,by have:=r.dp;omega,by have:=r.un;omega,`gc `eS A,Code.frames,⟨[],H,I,`O,h⟩,(`aXt),⟨by rw[← `b9];exact z,?_⟩,H1 `f?=`c,`z `f?,`Du (t':=`Qa) (λb u e=>`oD) `bj ?_,CE `cv P w H s Q u s',(`aXw),(us++ds).length=`ax,wpAny_call,L5 `aXy,W.callWith_K,I.ok.mod.kin,Meth X.K C m f,(`aXA),`ah0 pos f `rJ (`f8 pos (`Qo)) `ah1,W.methodCall_KW,ib0 I1 ea c hm l ?_,Mk X.K C f,`gc `eS X.A,upd (upd H dx (`f5 x)) x `Qr,V.ref `gb,(`ah2::`Dy),W.callWith_K0,
sc.kind=`mj,sc.isCoroutine=`q,sc.isGenerator=`q,y.2≠`i8,(`aXE),λw hw=>h w (A4 _ hw),by rintro rfl;exact h v A6,P[i]?=`dE,λv hv=>(`Qt).1 (b5 hv).1,`wA (`wB),W.cellsFrom_some,`af N ps `cP,(`wB).kindOf,`ah4 `gb `ge [],nm0 CX P w K mg `m N `fw `cP f cd A `cv s H E,`I (show `ah5 from z) `aw,λy hy=>?_,`n `kQ,λb z=>`I z (J b),e0.hok.fresh,E9 `aXG,(`aXI),t { nx:=λ_ H'=>Q `u H',rt:=Q } `DA H,λb o e=>(e0.bs b o e).1,`gf X `DB r,`rp=`ah7,PE X `wC (tCB r t),L5 `aXL,(`aXN),(vs++ws).toArray,`bc->Nat,(`aXQ),Builtin.Slice.sliceAdjust lo hi 1 `cw,((`ah':Nat):Int),slicePart_none,λ(m:Nat)=>xs[`ah!]?,λm=>xs[i+m]?,`wF `aE t `aQ,`DD=0/\`Qu=`dq,`bP (`ah?).toArray,`r `av A (`ml `kS `DE) Q E s,`kT `DE "slice",A0 `aXR,`DF `aia,(`aXW),`r _ _ (`aib `kS>>=_) _ _ s,A0 `aXX,`r _ _ (if `Qw then _ else _) _ _ s,A0 (m:=`DG) (E4 `Qx J),(`aX_),`bc->`hN,evalPart_none,r x lo hi H Q,`rR `wD `aia=`bO (`ah7),PO X lo tl,PO X hi th,(`aX1),wpAny_Slice,(`aX2),(`aX3),(`aX5),subscriptTail,`z `rS,(`wI=0/\`Qy=`am),`t (`DH),by rw[`a9];exact r.length.symm,B9 (kh0 xs lo hi) hz,(r.drop (`wI)).take (`Qy - `wI),SqT K H b ys,by rw[`Z];exact hz,if `gg then (if i<n then `a `eo else `c) else if `QA then `a `aig else `c,(`aih).bind λj=>`DK,r x xs H Q,`r `an X.A (`ep `DB (v::us)) `eT `aG s,`wJ=`bX/\Q v H,atI z.cps.toList i,EP X `i σ Q w s,⟨z,H,I,J,q⟩,(`aX6),(`gY:Int),subscriptTail_builtinR,pl.isList.typeIs,λr s'=>r=w/\EP X `i σ Q r s',⟨rfl,fin⟩,(`aX9),`c3 p=`DM,{ cls:=`dk,data:=`bP `aii n' },`bt ys its',(`aX?),(`aYa),Option.getD_none,show `ail by decide,`hU `mo 0 lo,`l (`DH),ht.isList.typeIs,uc0 y=`b,xs.any λy=>`QD,Q (`d `en) H,⟨`d `en,H,`fs,⟨`wt,by rw[`a9,J]⟩,q⟩,∃z,xs=`DN/\`rU/\Q (`QE) H,∀l,H l=`c->Q `wL (upd H l `rV),`bt ys its,call_list_seq,(`aYc),(`aYh),`z `rW,ob.dict=`c,⟨o,e,ex⟩,⟨⟨o,e,ex.1⟩,λa e2=>?_⟩,⟨o,e,ex.2.1⟩,tyV K T x H1,Slot T `el id,Uz0 I1 r1 ty,(`f8 `b_ (`rB)).any `bz,Calls.evalArgs_plain,Vals.append,(`aiq).flatten,l.dropLast,(`DQ).length,(b::r).length,
acc.toArray,(`aL k its).flatten,`c3 l=`DM,"list.append",Array.getElem?_toList,`ad WData,pre_splitW hpre,(`b==`b),WShape.has,`DT a=`air,s₁.gens=#[],`gZ `oP `wS (`oQ `wP `QO) `ais `eq,hA b (`QP),λb o e=>?_,`I rfl z,`QQ->`y,∀(w:`P) (h:`Q),YP w h->`wV h,SqL `rY H a `wT,W.WalkO q loose XP YP `QR d [] `aiu,Fun K x `fw st f fd,∀b o,`aiv,`hJ=`DV->H b=`DV,Option.none,"str_ascii_iterator","str_iterator",`rz it `aE h',⟨#[`aiw]⟩,λh' J sb=>fin h' J sb,fp default,y.2≠`rq,y.2=.local->`aix,y.2=`i8->`wj y.1=`i7∨`wj y.1=`kW,`aiy=n+`rZ,`QS=(`QT).bind (N[·]?)/\(`QS).all (λy=>`DW==`kW)=`b,`aiz λj=>`QU,(`aiA).length,`ad (`aiB),x.2=`i8->∃c,`DX x.1=`dX,acc.lookup y=`dX,λy d hy=>?_,λx hx hf=>?_,h2 x hx hf,closureFor,`aiD=`b,by simpa using hx,(.ok .next),`bO (`D_ ok),`bO (`D_ r),(`aYt),Nat->Nat->`D3,W i m ys H2,(`aYu),J.yld i H2 x H3,Wk `eV σ4,if b=`b then te σ4 H5 λy H6=>H6 D=`QX/\`en<`L/\∃m',m'<m/\W `dG m' (ys++[y]) (upd H6 D (`l (ys++[y]))) else ∃m',m'<m/\W `dG m' ys H5,{ s2 with heap:=`aiE },s3.heap.get? b=`aj,`wZ _ _ st2 b hb,(a6 b o e),Y8 X `cP cl N' s3 H3 fp,B0 (e4 b hb),λx c e=>`aiF x c (hcl1 x c e),`w_=`aYz,(`kX).2.2.2.1,`bZ (I3.stkSub b hf),{ s3 with heap:=h₁,toks:=`QY+([]:`oU).length },`rM `aw,Nat.add_sub_cancel_left,(`aYA),old _ o ho,by subst M;exact e,`I hp (by simp[Y8]),(H0 `oV),Ia.pin `wq `ahA,∀cl s H ex,`aiJ,∀cl s H ex,`aiK,∀cl s H ex,`aiL,ok.free x hx hf,`o `aiM,`n `aiM,as.2.2.2.2,λv H'=>`i' `wm H',λ_ s'=>SP X `i D .next s',Nat×`D9,DL.D->`oW->`aT `oW,`oW->`aT DL.D,`oW->`D',`oW->`aT (`D9),(`aiO).bind,λ_=>`oY,fun δ=>`w3,fun δ=>`r3 λt=>if `w4 then Ga δ else Gb δ,(`r4).bind,z20 f G ds δ',λc=>`r6,`oE<=i/\i<`ga,`a (J6 i j),`aL n .un,`aiz λj=>lw0 `oZ,zs0 f gt ge δ ds,(`Q1).map,`a (`ahH),(eqS x y).map,sIx `am `am hi,`a (`d `am),(`Q2 `aiP).sum+`en*`aiQ<=16777216,(`aYD),`Ea=`a (h d),zs0 f gt ge δ `aQ,jh0 `aYF,`r4=`a δ1,G δ1=`Q3,ifD g Ga Gb δ,by unfold ifD;rw[h];rfl,U5 n `cg gi f gt ge δ,o2 ga gb f δ,λz=>(by cases z),`r7/\`aiS,
g _ _ h.1 h.2,Gr H H' B B,fd.scope.names.lookup,TelO K H B p kvs,D->V->Prop,∃a xs,`ji/\`Ec/\`a1,∃a xs,`ji/\`w7/\`a1,∃a xs,`ji/\`r7/\`aiT,∃a xs,`ji/\FnAtH K H B a `w6/\`Q6,`j->`K->Prop,∃x r,xs=x::r/\`w8/\Rps K H B ds r,`ci->`Q7,⟨a,xs,e,q.mono g,`Q9⟩,by simpa using e1,Rps K H B es ys,Rps.append,List.take_succ_cons,(λ_ _=>λz=>nomatch z),(∃k a,`jk=`fz/\`Q?/\`ji)∨`jk=`c/\∃a xs,`ji/\`Ec/\`g_,∃x r,xs=x::r/\RpN K H B as d x/\`kY K H B as ds r,∀(k:Nat) a,`Q?->as'[k]?=`jj,∀{l:`aH} {m:`kZ},`aiU,`t [`hX,`o2,`ch],∃C dx ns xs,so=`gO C dx (`Eg)/\fs=`Rb/\`eP=`am/\`o3/\dx∉as/\`g_,as[0]?=`jj,∀(k:Nat) C dx fs,`aiX->k=0,(λ_ _ z=>nomatch z),∃x ns,es=`bH::ns/\`Rd,⟨x,ns,e,`cR (λo z=>s _ _ z) `r9⟩,RpL K H' B d a,XcR K H B c n a,g _ _ h1 h2,g _ _ q1 q2,B a/\`k_,(m.set i b),`bB `El σ δ,`a (.ow es),SlR K H B o s,`cj=`Rf,`w? `hY h,⟨v,rfl,r⟩,∀ob xs,o≠`ai_,∀B δ,PE X e (tD X.K B δ g),∀B δ,PT X e `Ri,∀B δ,PW X e `Ri,∀B δ,PA X es (tDA X.K B δ g),Rp K H B dy y,λpins s σ H Q I z=>h `i s σ H Q I `Rj,(`ai0).imp,`a (`s y t),⟨_,en,e,λv H' s r=>⟨t,`ai4,`Es⟩⟩,⟨b,en,e,λH' s=>?_⟩,⟨t,`gj s,h,λJ s'=>k J (s.trans s')⟩,PTD X e gt,⟨c,r,?_⟩,⟨d,`gj s,h,λv J s'=>k v J (s.trans s')⟩,⟨ds,en,e1,λvs H1 s1 r1=>⟨`ai5,λp hp=>k _ _ (`jl `es) ?_⟩⟩,(al0 `ck).imp,λv H' s r=>k v H' (`jl s) r,Binds X.K fd ps [],⟨ds,en,e1,`ai6⟩,∀(i:Nat) (ds:D) (a:`e),`ai7->`jn->`Y a=`c,∀σ H,`cz->`Rn,∀H₀ B₀ δ,PS X st `ai8,∀H₀ B₀ δ,PSs X st `ai8,Wr idx σ σ' δ δ',∀B d δ,PG X tg (tDG X.K idx f B d δ),`kH (B4 `A),f70 `i s σ H D I (k σ H en),⟨_,en,e1,fun σ' H' en'=>⟨r,en',e,k⟩⟩,`cS K `Y `S H' σ' δ',`xd i hi,e.fr i ds a h1 h2,⟨t,env,e2,λH' s'=>?_⟩,∀B δ,PI X tg e (tDI X.K B δ g),⟨a,rfl,⟨xs,`et⟩,`ai9⟩,`mD X `f' G,PG X tg (`r'),λpins s σ H v u Q I r ⟨B,d,δ,h⟩=>hg B d δ `i s σ H v u Q I r h,tDS X.K `Y `S δ G D σ H,hb `Y `S δ `i s σ H D I h,
T10 hp hc (hi B δ) a6 a5 hs `i s σ H D I ⟨`aQ,env,e2,λJ H1 s1 it=>?_⟩,Hh=λb=>`Ex,∀b,`r!->Hh b=H1 b,λb n=>by rw[O];exact `ai λz=>n z.1,∀b,B b->¬`S b->Hh b=`c,λb n n'=>by rw[O];exact `N ⟨n,n'⟩,∀b,`S b->Hh b=H1 b,λb n=>by rw[O];exact `ai λz=>z.2 n,`c8 Hh H1,Y b z.1 z.2,(`Ex)=`aj,`Ey b o xs (`Ez b o xs h),`aYL z.2,`c8 `Y Hh,s1 b o (`gj b o h),λb o xs h=>`Ey b o xs (`Ez b o xs (a3 b _ h)),`cS X.K Hh `S H1 σ δ,⟨a3,⟨B,b1,`hZ,Z⟩,`ai',`hZ⟩,`n (Y a z q),`o8 i ds a h1 h2,λz=>`jo a z hn,`w? Z.all h1,Z.bad a `Rt,`cS X.K Hh `S H σ δi,⟨_,rfl,`cQ,δ,`mk,e1⟩,Gr H1 Hi B B,λb o n h=>⟨n,`Ru b o (`Rv)⟩,it.go i Hi gr hlt,`cS X.K Hh `S H' σ' δn,fun σ' H' ⟨δn,en',e'⟩=>⟨`Rw,`C,rfl,hlt,δn,en',e'⟩,λx H' y=>?_,`Rx i Hi x H' gr y hlt,Rp X.K H' B' d x,⟨`o9,sm b o (`Ru b o h')⟩,n (b1 b q),env0.same sm,`jp i=d::`xf,⟨B',d,δi,δ2,a7,a4,e3,fun σ' w en'=>?_⟩,`cS X.K Hh `S H' σ' δ2,M.wr c1 c2 `xg w en',⟨Hh,`S,δ2,rb,a8,e4,?_⟩,`o ⟨`Ry _ Hi gr `bj,?_⟩,k σi Hi (M.lower hS `jo),∀B δ,PF X ifs `Ri,`aL n `r?,∀(i:Nat) (ds:D),`cj≠`Em,(`aYM),∀p H',`dH->`a'->`aja->Q `c7 H',∀B δ,PE X e (tDF X.K B δ g),(`aYP),λJ H1 s1 it=>λL hL=>?_,λa=>`ajb,Gr H1 H2 B Bp,H2 L=`QX,Rps K H2 Bp pre ys,(λi ds z=>ud0 z),λx H3 y=>?_,Rp K H3 Bp dx x,λH5 s5=>?_,en4.same s5,H6 L=`QX,Gr H6 `ajc Bp Bp,([]:`j)=`a7,PDF X `mv `EA,(`aYS),PD X `mv `EA,PSD X `ajd (b7 `Rz `EA),∀(cdv:`E) (A:`cl) (outer:`aje) (s:`v) (H:Hp) (E:XK),`ajf->`mD `ajg `wW G,(`aYY),F.ok S (λvs H Q E ⟨B,ds,d,_,r,h,_⟩=>?_) (λcdv A outer s H vs Q E hr ⟨B,ds,d,hb,r,h,q⟩=>?_),⟨_,`f' cdv A `cv s H E hr H B `EB,?_⟩,`cS K H B H (`RB N vs) `EB,⟨`En H,⟨B,`ajj,`ajk,⟨?_,hb,λi j a J es h1 _ _ _=>`ajl⟩⟩,λi J a h1 _=>`ajl,hb⟩,`h_ (sd0 (N:=N) r) (le0 _),`bt `xj us,by rw[`jr] at r;cases r;exact `O,λt' k=>⟨`br,H,I.tok k,⟨t',rfl⟩,q⟩,(`aYZ),⟨o,h1,h2⟩,`bY a _ hq,L0 W.kitx_dict `d_ ⟨o,h1,h2.1⟩ e `dI fin,Int->Int->D,∀i j H B,Rp K H B `RD `kN,
k _ H `c' (hg i j H B),SqL K H b zs,`am+zs.length<=`L,`ajn<=`L,q _ I.fresh,`Ee (X4 h),Um0 rx ry e,⟨h1,by rw[h2];exact `RE⟩,`o ⟨a,xs,_,v,rfl,rfl,`et,hv,k _ H `c' rv⟩,∀B δ,PO X e (fun σ H Q=>∃o,`RG/\`ar=`aj/\∀H',`a'->Q o H'),by rw[j5] at r;exact r,k _ H `c' (by rw[j5,`EF]),`b7 `rT=`c,Gl X `rT,(`aY_),F.plainAttrs_str,⟨rfl,_,`gk,e2,`EK⟩,FnD `aZ X.w X.K `b7 `dW x k ps f,fun δ=>`o?,`a (.ow `D!),`a0 i (.ow (`l (ds++[d]))),`a0 i (.ow (`l `ajp)),ds.getLast?,`a0 i (.ow (`l `ajq)),`a0 i (.ow (`l (ds.set j v))),`aT (`fB),(`Q4 ds).map,`fB×`j,(`EN).bind,λk=>vv0 ks ds k,λk=>.bl (xor neg (`xo)),if `ajr/\ys.all `cm=`b then `a (.bl (xor neg (ys.any λy=>eqF y x))) else `c,if isL d=`b then `c else `bd,mkF n N G ds=`bd,⟨e,Bx0.mpr hn⟩,mkN n N G ds=`bd,if `EO then `a (`l `DJ) else `c,`a (`RI),`am*`eu<=`L,(`EP).bind,(`xp).bind,HeapKind `i4 w K,`ad (K×`agV),knd.is `aE k a,At knd `aE d xs,∀h',At knd h' d (storedH xs k a v)->`rz d `aE h'->Q () { s with heap:=h',toks:=`a8+knd.draws k },dictSet d `dZ v,Obj.isFreed_of_dict,Obj.data_mapDictKeys hd _,List.mem_singleton,Obj.data_mapDict hd _,"__setitem__",slot_dict_setitem,xb0 (p::r) k,by simp[xb0,`RK,e],`ES vs k,`ES (`xq) k,by simp[`ES,`RK,e'],vs.any `RJ,(`aY4),`ah ?_ ih,`N (`RM),`ai (`RN),r.repl k ry,Paired.snoc,`di (kV k) u,(`ajt).map `eO,`EV (`xq) k,by simp[`EV,`RK,e'],(`ajt).isSome,(`t (`EW)),(`agX).is,H a=`aju,(`aY5),h w' _ `EX J,c90 `bY e,`bS<=`L,by rw[← `ajv];exact z,λh' J hs=>h _ ?_,lr0 I `EY hs he (bf0 hl hd (rel.put k rv) J),A1 (A0 fin),`kT `dZ `EZ,`sd H2 a y o,(`aY6),{ cls:=`bq `EZ,data:=.dict #[] },(.Dict [] [] pos),`k3->`hN,`ad (`E×`E),gc0 trs σ H Q,s80 kvs more,s80 [] kvs,keys.all `ajy=`b,J0 `aZ X.w,(`ajA).all `EH&&`EI,`w `aY?,`ajA=[`oK,(`q,`bb f `x)],⟨`E_,λb q=>?_,hd⟩,⟨ob,h1,h2.2.1⟩,⟨x,ns,e,`cR s g⟩,Env K `js B σ `pd,⟨?_,`E0,λj k b ds es h1 h2 h3 h4=>?_⟩,`o ⟨v,e,`cR `jt⟩,`RP (i:=i) (b:=Sl.ow d) (`o `E1) hs h0,`E2 (λj o' s e1 e2 h=>?_) h1,`I (`o5 i j a d0 d' hi e3 hs e1) M,
∃d,`oZ=`sg,∃d,δ[k]?=`sg,`o5 j k b d1 d2 q1 q2 h3 h4,`o8 i d0 a hi hs,⟨⟨λb u h=>?_,λb ob xs h=>?_⟩,⟨B,b1,b2,env⟩,λj ds b h1 h2=>?_,`jo⟩,(`gj b u h),`xs (i:=i) (by rw[`P_ J]),`I h (`ajC ob xs),`o8 j ds b h h2,`cS K `Y `S H' (`C8 i `RQ) `pd,Gr H H' B `sb,λb u n h=>⟨λz=>`si n (U6 h hp),s _ _ h⟩,∀{j:Nat} {d':D} {b:`e},`oZ=`a (.ow d')->`r_=`a (`a `E3)->`E4,λz=>`ju _ q2 (by rw[z];exact hp),⟨`RR s,⟨`ai?,λa z=>`o `Rt,`hZ,?_,`hZ,`RS⟩,`RT,`jo⟩,(`aZc),⟨b,e,`o M,`cR (λo h=>s _ _ h) g⟩,(`ju a z).same s,`I rfl (live h2 h4),`I rfl (live h1 h3),`I rfl n4,(DL.frz δ),λa=>B a/\¬`RU,λi j a ds es h1 _ _ _=>?_,(fa0 (`xt)).elim,⟨B',`hZ,λa z=>b2 a (c1 a z),J⟩,c2 a `Rt,`I (`o8 i d a q1 q2) (`jo a z),λb=>B b/\`k4,λb z=>z.1,`o `RV,(c60 q).elim,⟨r,`xu,hq,k⟩,AutoSeq1.idx_int,List.set_cons_zero,List.dropLast_eq_take,∀H₀ B₀ δ,PE X e (tX X.K `Y `S δ gx),∀H₀ B₀ d δ,PG X tg (tTG X.K `Y `S ft d δ),PTG X tg ft,k _ _ (`h4 (`xv s1 b1 b2 hi J M) b1 b2 M `h5),(`aZh),(setAt i g),T5 gt G m δ'=`gl,fun σ' H' en'=>⟨δn,en',e2⟩,(`mh [`RZ] `x).map `eO,`kH (B4 h2),`kH (B4 h1),z.cps.size,"tuple.__rmul__",C80.lookup,C90.lookup,PySem.seqSlot_of,`bP (`ajK),⟨_,hl,rfl,n,rfl⟩,`I (`ajL rfl) hx,by rw[`a9,← hl];exact hz,(`aL `eu its).flatten.toArray,`ajM its `eu [],(λs'=>P4 s' k t),F.fills_int_mul,F.slot_int_index.lookup,(P4 s k t),F.entry_int_rmul,(`aZj),⟨ho,?_⟩,r1.rep `eu,by unfold lean at h;unfold deq;exact mf0 ds n h,min `bk `gm,`bk==`gm,List.range_succ_eq_map,Rps.inj I ld le r r',`I z `p,`h2 es m=`b,`h2 ds m=`b,`mH->`R0->`E9->`ajQ->`gW->`R1->`E' A s u w (`R2),us.toArray.size,us.toArray[j],ws.toArray[j],`mt+n<`kV,j0 _ _ _ _,k0 _ _ _ _,Y1 _ _ _ _,Y2 _ _ _ _,SeqAt.EqAt.none_list p' J,SeqAt.EqAt.bool_list _ p' J,SeqAt.EqAt.int_list _ _ p' J,SeqAt.EqAt.str_list _ _ p' J,SeqAt.EqAt.bool_tuple _ p' J,x3 _ _ p' J,x4 _ _ p' J,Rp.inj I ld le hx hy,o70 _ _ ld,(`aZm),SeqAt.RcAt.lists,Cl0 (A:=A) p p' `ajR J,`R3+n'<`kV,
ng0 (A:=`bC) a1 a2 rr M rv U λd e x y u w h1 h2 h3 h4 h5 h6=>Tf0 I n' m' d e x y u w `bC Z h1 h2 h3 h4 h5 h6,Y.toArray.size=`gm,by rw[`a9,← U.length,`sm],beq_self_eq_true,`ajx+64<`kV,Ur0 I 50 50 dx dy x y v u X.A `h lx ly hx hy rx ry,‹`j ›,(`aZp),λz=>hz.1 ?_,by rw[`jm];exact hz.2.2.2,(fl0 r1 _),(`aZq),PDO X lo gl,PDO X hi gh,(`aZr),(`aZs),by rw[`b9,pz0,pz0];exact hw,(X00 r l u),⟨_,rfl,`sn⟩,λl hl=>k _ _ (X4 hl) (pv0 hb hl rr),(`bl `g2).map,List.getElem?_range,(`mB).free,(`aZt),λl hl=>k l _ (`k6 hl) (`jl (X4 hl)) ⟨_,j9,rr.mono (`RW hl)⟩,FnN `aZ X.w X.K `b7 `dW x k ps f,[`ch,`jv],(`ajT `Fa),ds.reverse,`a (xi0 ds),`xx->`xx->Prop,Nat->`ajU,WalksS `i4 w `bC I fp wr G n P St,`a { cls:=`dk,data:=`bP #[] c0 },Moved (C::wr) G s s',`ajV C=`ajW,`h7 `R6,`ai `d7,Builtin.«list.__init__»,Builtin.List.listItems,Builtin.List.listUpdate,letGo old.toList.reverse,`xy `ft `Fb `ay,letGo (#[]:`aI).toList.reverse,{ s with heap:=`ajX },(`aZw),⟨_,gC,rfl⟩,(`aZy),`b7 `mK=`c,Gl X `mK,`cM [`R9] `x=`ajZ::`h0,(`aj_).any `bz=`q,(`aZA),G0 ?_ e1 h1,λv s2 hv=>Y3 hv,xb0 `w6 q,λd' e'=>?_,(`R').zip ys,by simp[h],k v H2 `mM rv,k H2 `mM,af0 e3 `Fe,cz0 `g4 `ck (set_dict hu) ha `i s σ H v u Q I r `aj2,fg0 (q:=q) (v:=v) hl,⟨a,_,rfl,DPut.k (`Ff) (`aj3),?_⟩,ot0 `Fg `xz,`pf `xz `Fg,(`aZC),⟨ys,j9,Y,rr.mono `jt⟩,loadIfAlive,`aj6 i1 l1 (k1+1),`aj6 i2 l2 (k2+1),`rW=`oJ,(`aZE),`r _ _ (`xA `gn 2>>=_) _ _ _,A0 `aZG,`r _ _ (`xA `gn 3>>=_) _ _ _,A0 `aZI,A0 (N3 hTI rfl ?_),`r _ _ (`aj9>>=_) _ _ _,List.forIn_toArray,List.forIn_nil,`r _ _ (`Sf `R?>>=_) _ _ _,`r _ _ (`Sf `Sa>>=_) _ _ _,(`aZO),(`aZR),h₄.objs.size,λo e=>`oD,`Fj=`c∨ys[k2]?=`c,(∃o,`fl e=`aj/\`we=`aj!)->E `Fk `gV,wpAny_nextOf_list_end,Q (`a `h9) `gV,F.entry_zip_next,(`aZT),A0 `aZV,ZG xs ys S h as,g.pairs j a hj,ZSt h z TI TO i1 i2 l1 l2 S xs ys i,hk _ _ (B0 L.z) hz,ZSt `aE z TI TO i1 i2 l1 l2 S xs ys i,(`aZX),λc o c1 _ c3 c4 e=>hk c o c1 c3 c4 e,`Sh∨ys[i]?=`c,`Si->R (.ok (`fj res)) `pj,(`aZ_),(`aZ4),Nat.le_total,
S4 F.entry_extend_loop ?_,`Fl d4 _,`r _ `bC (`ss `gn>>=_) _ _ _,λj a hj=>?_,`akb j a hj,(`Fm `akc),acc.push `akc,(as++[`f6]),∀S,S≠z->S≠i1->S≠i2->`Sj,ZLow z TI TO i1 i2 l1 l2 `M,M20 xs ys lo s h' as,`M<`rW,F.plain_list_iadd,{ s with heap:=`Sk },by simp[`xE,O],(`h7 `f!==`h7 `eh)=`q,(`h7 `f!==`h7 `c2)=`q,wpAny_pyIter_zip,`r _ `bC (`ake (`i5 z) `akf>>=_) _ _ _,rule "list.extend.makes-room",Builtin.List.listTouch,A0 (L4 ?_),⟨`akg,(λ_ ha=>nomatch ha),(λj a hj=>by simp at hj)⟩,{ cls:=`eg,data:=`bP `Fo },wpAny_of_eq,F.plain_tuple_new,A.in1.handled=`c,(`aZ'),Q `kS `pj,(`aZ!),by obtain⟨_,e,_⟩:=hl1;exact `dY,by obtain⟨_,e,_⟩:=hl2;exact `dY,call_zip_2,`akj l1 xs,hl1.at `akk,`akj l2 ys,hl2.at `akk,∀k,k<5->`M+k<`sv,zipApart_new,⟨E7 _ 4,E7 _ 3,`jd,E7 _ 1⟩,⟨H 4 `p,H 2 `p,H 3 `p,H 0 `p,H 1 `p,D8 a1 `sw,D8 a2 `sw⟩,⟨_,`eM,rfl⟩,F.args_object_init_2 obj _,upd `xF p.1 p.2 b,λq hq=>h q (A4 _ hq),`M<=p.1,p.2=`ei/\`ct `aZ X.w H h' p.1 `op,Inv X `i σ `xF `ou,∀b,b<`M->`Sn=H b,C8 _ (B6 hb `A),λb u q n _=>by rw[J b `So];exact n,λb xs q=>`akn,λb u xs q=>`akn,λb ps q=>⟨#[],by rw[`akm,q];simp⟩,(`bY b u e').stay `ako (λc q=>`Sp) (λc xs q=>`Sp) λc ob u' q=>`Sp,jo0 X (`bq T1) (`bq T2) r,`b7 x1=`c,`b7 x2=`c,`f7 x1=`a (`bq T1),`f7 x2=`a (`bq T2),x1 ≠`C4,(x1==`rC)=`q,x2 ≠`C4,(x2==`rC)=`q,`cM [`Sq] `x=`akp::`h0,(`f8 `mL (`rB)).any `bz=`q,(`a_a),(`Sr).map `Fp,ps[j]?=`a p,vs=[`z q1,`z q2],SqL K H q1 xs,SqL K H q2 ys,(∀a∈as,`Fq),by rw[`h8,hl];omega,k t as O M (λz=>C8 _ (ha t z).2) (`rK ht) λa h=>`rK (ha a h).1,hp j p.1 e1,v1.get hz.1,v2.get hz.2,us1.toArray[j]?=`a u',by simpa using g1,us2.toArray[j]?=`a w',by simpa using g3,(ha p.1 (C5 e1)).1,`ah g2 (`ah g4 `O),⟨_,f3,rfl,_,rfl,rfl⟩,λp=>`cT `ajS,`a (`ai_),(`Fs).map `Fp,by rw[`T,qt0 hl],by rw[← J];exact P8 hp,λb ob xs e=>Yp0 (by intro _ _ z;cases z) e,qi0 hN _ A6,qi0 hN p (A4 _ hp),∀b o,b∉fp->`Fd,(`a_b),upd H `M `Su b=`c,{ s with heap:=`fq `akt,toks:=t' },H'=`a_c,(`k7 elts x1 pos),
(`a_e),⟨_,he,λv z=>nomatch z⟩,⟨_,e1,λv z=>by rw[d1] at z;cases z⟩,⟨old,k e `aw _ he⟩,λo x=>k it `aw o x,I.turnedNew,(`a_g),(`kG _ hc.1).trans (hk c o hc.1 hc.2 x),⟨_,by simpa using b1⟩,λo y=>(`kG it hei.symm).trans y,λh' hk=>⟨rfl,I.turnedL (t':=`a8) (fp:=`xH) hf λc o hc x=>?_⟩,hk c o hc.2 x,o0 (s:={ s1 with heap:=h' }) hz ?_,`P? (t':=`Qa) hk,(C2 `Sv),I1.fpOk (E7 _ 1) (`Qb (E7 _ 1)),(xi0 ds).length=`k8,by unfold xi0;simp[`Sw],⟨q1,rfl,⟨us,s1.to⟩,k _ H' s' ⟨`Eu,λi H2 v H3 g2 y hi=>?_,`Eu⟩⟩,⟨us,us[i],`Sx,`Sy⟩,t1.get (i:=i) `Rs,hx us `Sx,⟨X4 ht,`t [`sx,ds[i]],by unfold xi0;simp[hi],λB' gB hb=>?_⟩,Yv0 (λz=>hb t z ht) j9 `xb (rx.mono gB),⟨us,`Sx,hi⟩,∀a,B a->`o0∨∀ys,H a≠`Sz,by rw[n6] at r ⊢;exact r,(`a_l),∃a,d=`g5,(`a_m),r2.same s3,`akv=`q,(W1 s x t),call_gives,`a0 i (`fD),⟨u,q,`cR `Fv⟩,.of rfl no nt,x.cps.toList,⟨tk,rfl⟩,⟨tk,`agO⟩,(`a_o),`sy [lo:hi] b f,⟨hp,g,d,tk,os⟩,ys[j]?=`a z/\(∀m,m<j->ys[m]?≠`a z)/\Q `sz H,by rw[← `b9,`F],(`cL hj).1,its.toArray[m],by rw[`a9] at hm;omega,⟨ys[m],t,C3 J,?_⟩,its[m]?=`a its[m],eqU `Fw (`s y tk),F.slot_tuple_index,⟨_,h1,rfl⟩,(`a_p),⟨`eX,H,`fs,`ae,q⟩,at_ j `pk,(`a_q),(`akw `akx).map λj=>`eX,b20 X.K `b7 x ys,`bb `Fx `x,(`a_r),`akw (`akx),λm hm he=>?_,h2 m hm (M0 (A3 he)),`r `av A (`Sf `jb) Q E s,(`a_s),`r _ _ (`xA `jb 0>>=_) _ _ s,A0 `a_u,`r _ _ (if `aky then _ else _) _ _ s,`ai (show ¬(`aky) from B2),`r _ _ (`xA `jb 1>>=_) _ _ s,A0 `a_w,`r _ _ (seqItems? `wL>>=_) _ _ s,Obj.data_mapFields,Heap.ExtBut it `aE h',E4 ?_ (by size_fits),firstArgMember,`ahu it l i,let ⟨o,e,r⟩:=x;⟨o,k o e,r⟩,h.IsTuple l `aQ,(`Fy).objs.size,⟨_,he,rfl⟩,F.slot_enumerate_next,`am*`eu<=`SB,(`l `ajs),`a_x k,∀b o,`E4->`aiv,Env K H' B σ `pd,`o ⟨v,e,`cR `akz⟩,(`FC).bind,k _ H2 `mM `Ep,`a_y hl,(`a_C),∀b C dx fs,(b,`akB)∈sub->`xJ dx=`c,∀C dx fs,p.2=`kO->p.1=a,SubO.no_own,SubO.no_frz,o.there (x b _ (J l)),`FE H a sub b,`FF H a sub,(`g6 H sub),
∀so:`dj,u≠`FG,∀so,`jy≠`sC,λso l=>n so (`SE (c.at' _ `SF)),nl so (z▸l),`I l (nl so),λso z=>so.no_tup xs `SG,λso z=>so.no_frz o u `SG,λso z=>so.no_tbl ps `SG,(`a_D),(`a_E),(`a_F),`jz X as Ga,`jz X bs Gb,(`FI `Y `S δ),`FJ j++`fu::`SH j,(spB K j f),(ds.take j).map,(ds.drop j).map,by rw[`F,`dJ];omega,`I h (J _ _),(by rw[hl];omega),List.getElem?_cons_succ,hf b ds r b' h,(λa=>B a/\a≠p),(`a_G),λ_ z=>z.1,∀x,B x->B' x,∃q:D×D,∀p,EndB G `pl j p q.1 q.2,`a (.ow (v8 p b)),`a (.ow (`SM)),(.ow (`xL)),⟨_,rfl,λK H B a r=>⟨r,`akF⟩⟩,`gq λds=>(f b.1 ds).map λr=>(r.1,`a0 i (.ow (b.2 r.2))),(`a_H),U _ _ _ _ ro,(`k5).bad,h1.same s1,⟨λb o n e=>hh b o n (s1 b o e),λb o xs n e=>`Ez b o xs (hh.nf b o xs n e)⟩,kk v H' (`h4 (`xM b1 b2 hi J O M) b1 b2 M rv),(`o (xh0 ks k)),`FF H' a sub,λu s' ⟨v,H',I',r,a,sub,o,k⟩=>`akH,λv H'=>∃a sub,`h' H' a sub/\Q v (`gp H' a sub),[`s "@",`h6],RpN K H' B as d v,(`be).lookup c=`sC,(c==x)=`q,`mQ λz=>h (`fA),λz=>h (`n z),List.getElem_zip,`g6 H `d5 b,`I z hb,by rw[`akI,← e],h.opAt e1 e2,(`a_L),∀C dx fs,so'=`kO->k=0,(`a_M),upd H a (`my `SP),(`SQ k n'),`cR (`xr hB),DL.setN i k n' δ,k w H2 O w2,⟨dx,ad,ns,as,sos,en,e1,at',`FP⟩,`SR r1 hn,nrf dv=`b,(`l (es++[dv])),`mS w.all hn,(`a_O),`eQ o `FR `x `mq=`hP,(`a_S),⟨a,`be,`k',`ST,?_⟩,⟨a,`be,c1,?_⟩,M.w.openOk,M.w.opAt f1 f2,(`a_T),`ah0 pos f `rJ (`EG) `ah1,`s n::fs,u90 (`Rb) ds f,(f==n)=`q,by rw[e1];rfl,ra0 (aw0 `SU `SV hs) `i s σ H De I ⟨a,dv,env,e2,`FP⟩,⟨`b8,`fE,a,`be,`k',a,C,O,_,rfl,`akO,q1,`FT,?_,?_⟩,(`w' nm ys),(`l es.dropLast),by rw[w50 O];exact hb,(`a__),(RpN X.K H1 B as),vp0 `ia hm `g8,λr=>if `cm r=`b then `gl else `c,`l ls::ds,λ_ z=>`si,`o ⟨`wi,`akK⟩,`R P w K mg `m CX0 k fa fd ps (spB K 0 f),FnT `aZ X.w X.K `b7 `dW c m k ps F f,(`a_1),(`a_2),(`a0 i .un),`g7=`SW,PD X ke gk,`cM [`SX] `x,(`a0d),upd H1 L `ev,`c8 H2 H3,`a (`t `S1),`akU b hb,λz=>La (z▸at'.w.in0),(`k!).length,by rw[`Z,`Z,`xQ];rfl,(`k!).Nodup,
⟨at'.w.nd,`S4,λx hx y hy z=>?_⟩,La (z▸hx),`k?[0]?=`jj,by rw[`hT (`cL `sF).1];exact `sF,(`la/\`mT),`hT (by rw[← `xQ];exact hk'),(`cL q1).1,by simp only[`V,`gr] at hl1;omega,`n ⟨rfl,(A3 q1).symm,(A3 q2).symm⟩,`akV k C dx fs e,by rw[O];unfold closed;rw[`bm],`k4->Hc b=`mc,∀b,b∉`k!->Hc b=H3 b,w50 (λz=>hb `akX),But a H Hc,Gr H Hc B B,`FA `sG but,(`a0f).1,`E2 (λk n so q1 q2 r=>r.ext gr λC dx fs e=>?_) `S6,`akV k C dx fs q2,(a,`akB)∈`be,C5 (i:=0) ?_,List.getElem?_zip_eq_some,(all _ hm).2,`a0 i (.ow (mk (`t (`bH::(`F0))))),⟨x,_,rfl,_,_,hw⟩,`kH (B4 c5),by rw[`xQ];exact `po `S6,`cM `mw `x,(`a0g),so0 i ga `S_ `akS,so0 i gb `S_ δ2,∀b xs,`r!->`PL->¬B' b/\`ag0,g2 `akZ,⟨d,a,ns,as,sos,env,q1,at',`FP⟩,λp H2 hp s2 ro=>?_,Env.blank (by rw[← env.len]),`h4 (`o7 sm) b1 b2 (`k1 sm) ?_,v20 hfl rx,(`a0i),U5 n `cg (`ak_) f noT ge (`S7),`f7 `c2=`a `sH,`g6 H1 `d5,H3 b=`gP,`gp H3 a `d5 b=`gP,`I z (no _ _),`eV[n+k]?,a8 K H B a ro,But a H1 H2,d9 (U6 e hL),(`a0o),(`a0p),`xd _ d2,PX X `S' `S!,fun σ H R=>∃B δ,tDI X.K B δ gi σ H R,teX X.K gx,(`a0s),(`a0u),`a0v=`D8,PSD X (`ja `mw `S' spos) (jj0 j `S!),ev.same.trans,by show (2:Nat)<=_;decide,λd=>(d,r.2),`mG acc p.1 p.2,by rw[`jr,n6];rfl,PDP X pos `lc vals gP,`gj `mM,(`F2).map,ev.s.lower hS `jo,(`a0w),(`fy).map,`cm da=`b,`gp H a sub b,e.bs b o z,H dx≠`c,`h' `F3 a `Ta,Hc=`a0z,`a0 i (.ow (mk (`t (`bH::`Tb)))),dy0 f fs=`b/\`xS,`l (fs++[`s f]),`ak3=(`xT).zip `xU,`l (`FU `s++[`s f]),by rw[`aN];rfl,by rw[`Z,`Z,hl];rfl,`t [`hX,`mr,`mr],(c==`rC)=`q,`a0B=`gT,PSD X (`ja `mw `ak4 spos) (h40 j c f),λb=>B b∨b=x,Xx0 K C F=`b,`xy `sJ `gn `ay,`mV S `F4,{ s with heap:=`ak6 },(`ak6).get?,`f7 `f!=`a `su,`cM [f] `x,(`F5).map `Fp,eqU `ic (`d y tk),F.slot_list_index,(`ak8).map,List.filterMap_nil,`l `Td,∀o i,`xV `ak' `q o i=`ak!,(`a0G),{ s4 with heap:=s4.heap.push { cls:=`bq "slice",data:=`mb #[vl,vu,vc] } },`z s4.heap.objs.size,(`a0I),(`a0K),mkF 2 xo0 y30,"abcdefghijklmnopqrstuvwxyz0123456789",(`a0V),(`a0_),(`a08),(`a1d),
(`a1p),(`a1F),"_law_signs_here","_law_base","_law_long","_law_names_here","_law_code",(ob `W),(`a1H),(o2 `xX `xY nf0),(`a1M),(`a1Y),(`a2g),[`lg, `F?, "_law_cells"],(`a2l),[`lg, `lf],(`a2t),gc (`d 37),(`a2x),(`a2Q),(`a2W),(`a26),(`a3f),(`a3G),(`a3I),[`lg, `lf, `Gg, `sO, `aly, `alz, "_law_pairs"],(`a3Z),(`a3_),(`a34),(`a36),[`mW, `alH, `alI, `lg],(`a4b),(Q0 (q60 2) `jA),(`a4f),(j6 (zu0 1 `du)),(`a4n),(`a4t),(`a4u),(`a4A),(`a4E),(`a4O),(`a4R),(`a4X),(`a4?),(j6 (zu0 2 `fG)),"_law_fields",(`a5g),(`a5h),(o2 `W `ps o5),(`a5l),(`a5n),(`a5r),(`a5s),(`a5u),(`a5S),(`a54),(`a59),(`a5'),(`a6i),(Q3 7 `jE),(vu0 (oA `sS Z4)),(ob (Q4 `lj `mZ)),(`a6s),(j6 `al3),(`a6E),(`a6I),(`a6S),mkF 2 tl0 nd0,(`a66),(`a7e),(`a7j),mkF 2 t60 uu0,(`a7E),(`a7O),(`a7Y),mkN 2 t40 t30,(`a8d),(`a8g),(`a8k),(`a8v),(`a8C),[`ha, `Gp, `jF, `Gn, `x6],mkN 4 t70 uq0,(`a8D),(`a8E),(`a8N),[`ha, "out", `jF, `Gn, `sU, `Gp],mkN 1 he0 iz0,(`a9M),(`a9T),(`a9U),(`a9W),(d7 `Tw),(`a9Z),(`a93),(`a96),(`a'b),(`a'c),(o2 `Gr `xY eqD),(`a'h),(`a'i),(`a'j),(`a'o),(`a'w),ww0 (ob `amr) (ob `ams),(`a'A),(Y6 `au),(`a'H),(`a'Y),(`a'0),(`a'1),(rw0 0 `m4 `Gs),[`d8, `pB, `m5],(`fI `c!),(`fI `aC),(`a'9),(`a!a),(`a!d),(`a!i),(o2 `au `m_ gtD),(`a!j),`s `x',(d7 (b7 `bf `py)),(`a!l),(`a!n),(`a!v),(`a!y),(`a!D),(`a!I),(`a!P),(ob (Q4 `lj `mX)),(o2 `mX `g' xx0),(`a!S),(`a!V),(vu0 (oA `amH Z4)),(`a!4),(`a!9),[`s p.1,p.2],isWord w=`b,`n (`o ⟨i,rfl⟩),(`yc).length=`dL,by show l.toArray.size=_;simp,`a!'=l,by simp[`az],⟨`C,λc hc=>by simpa using h3 c hc⟩,p++sep++qx0 sep (q::r),`ad Rm.Want,`t `amK,(`ii p.2).map,(`ii (p.2.drop 1)).map,W60 `dv `cB,p8 G1 G2 δ,ifB g Ga Gb δ,by unfold ifB;rw[h];rfl,V1 `ej `yf=`amN,`ar=`Gw,`a (`m8),cs.map `aX,∃z,0<=z/\S8 `ij []=`a (`g9,`pC),[.un,`sW,`Gx],(λp δ hδ=>?_),(D0 _ `p),`d (3*k*k),(p6 rfl rfl).trans,`h1=`a l,`a?f=_,`az a++`az b=`az `Gz,`TI+`GA<=`L,(`a?h),`ar=`TJ,ob g δ=`k0,by unfold ob;rw[h];rfl,(`a?i),O5 i gA f δ,(`SI).map,(`amR).map,`GB (`g!) `sL,fe0 k h0 hk cs hc sm m `aB,W5 `a?m,λp j=>`yi,
(λi e=>by cases e),ef0 rfl rfl e,show gN 0 d (([`r?,`r?]:Ds).set 1 (`TM))=`a `TN from rfl,`az (qx0 sep `yj),`l (`amS λp=>`fK (`az p)),p.length<=B,qx0 [] (`er `GD),S.cps.toList,by rw[hS];rfl,signs.getD,D0 `GE (show (37:Int)≠0 by decide),E2 `GE `amT,(`a?p),`d (`yk),p=13∨p=53,`TQ%`pF,`amU - `TQ,(`fL hd),(`fL h2),`I e3 z,cg `amV,`GG a++`pG,`amW++`pG,names.length<=100,`a (`s0),Wy0 w _ `h `h `h,Gw.ii0 _ _ (by rw[`dJ];omega),o2 `aC `ak? m8 `ym,`a?B=_,(`sZ).length,hm c (Ap0 q),kv0 N k c q,C1 `GL e,`s (`az []),`s (`az (w++[cg q])),[`ex,`bW,`jI,`m9,s4,`pI,`fD,.un,.un],(`a?C),λs hs=>?_,(z/4%4).toNat,λp k cs m pool=>W5 ?_,o2 `alt `alu ixD [s0,`cD,`GM,.un,.un,.un,.un]=`a (`d r),[`GN,`GN,z/4%13].map,.ow `a?G,`TV=`a (vs,`yn),(`a?H),`a (r,δ'),PoolB np nm,`TW i "",`TW j "",(`GP)%`m!,(`a?I),(`bl `bS).map λj=>(`amZ,`yp),∃(p:Pt) (k':Int),k<=k'/\`am_/\`TZ/\M7 `ij []=`a (p.d,`yn),(`a?O),(o2 `x0 `yh eqD),(by rw[rl];omega),D0 (z/156) (show `GT≠0 by omega),(`a?Q),(`a?R),(`a?S),`am0 (by rw[`jJ];exact `jd),`am1 `h,List.take_nil,`t `pK,ns.drop (s+1),gv 2 δ=`a (`d f),`l [`d 13,`d 53],(`a?T),if sm=`b then 1+f/64%60 else 1+f%8,J6 0 `kR,(bk3 cs sm),`a ((s+1:Nat):Int),[`s4,`yt,`yu,.ow (bk4 cs sm `kR)],(`am2 k `pL).1,`a (Q5 1),`a (Q5 2),`a (`T5),`a (`GZ),`a (`s8),`d `am!,(`yy).length,(`T').set k `anb,(`cL hk).1,show unG U4 `aC (`pO::δ)=`a (`yz) from rfl,nk0 (es:=`m?) rfl,.ow (v8 p (R `s')),(`a?V),`yB k `anc,(gc (`and)),`a (`w (w=v)),`a?_=_,{ S with un:=u },`l (`m?).dropLast,[`a?0],(`a?1),List.count_cons_self,`I rfl hv,`Ua=`pP,`a?3=_,`dw::`cB,(`G0).getD,`yD::`Uc::((`na `anf)++[`mr]),List.map_congr_left,λb u δ=>by rw[J,hL];kernel_rfl,by rw[`F,`ip];omega,wd `a?4,(`cw).toNat,`l (wd (`pR)),(`a?5),`a (`ang),λa b=>`yi,[.sh (`x1),`bW],p6 (x:=`l (wd `TE)) (y:=`jg) rfl rfl,i00 `TE `aw `aw n hn,`d `ani,(`G1 S [w]),(200000:Nat)<=`L,`l ((`s9)++[`yv]),(`G1 S ws),vk0 `Ue=`b,`l ((`s9)++`Ue),(`a?8),`a?9<=_,(`anh).flatten,`a (`dr,R (`tb)),by split at h1<;>omega,.ow `a?',(`a?!),
[.ow (v8 p (R `G3)),`s?,`bW,.un],j40 S (`Uf),(`G2).wait.length,ifD _ _ _ [`tc]=_,T6 (by rw[c,`ir]),((`Ug:Nat):Int),`baa=_,`pT (`ank),m7 (δ':=[.ow (v8 p (R (`ln `u))),`ex,`yE]) ?_ rfl,orG ga gb δ,by unfold orG;rw[Z6 h];rfl,n*128<=323,(`bab),`d (`Uh),(`bad),`bag=_,`a (`q,`pV),`baj=_,`anm=`pP,yf0 (ds:=[]) rfl (ax0 S),T3 rfl λp=>⟨[`pW,`dN,`Uj],?_,rfl⟩,.sh (`s (b8 `jM)),show (`m5 : Str)=b8 `jM from rfl,[.ow (v8 p (R (next S1))),s1,`dN],[`ano,s1,`dN],{ S1 with count:=`Ul+1 },`b2 S l S',[`cE,s1,s2],⟨s2,rfl⟩,[`pW,`yG,J],[`cE,`yG,.un],`a `Um,z20 `bf SB `G8 `anq,SB `bak,[.ow (v8 p (R (`G!))),`gu,`yH],List.drop_zero,`d ((36 ^ (m+1):Nat):Int),`d `ans,(`Ut).length,List.range_eq_range',c6 λj _=>?_,λd=>match d with|`ey=>`w (s.cps.toList.length=L)&&`TF `hg|_=>`q,(`tf:Int),(`s7).length,`yl `T7,(`anu:Int),l.Nodup->(∀a∈l,a∈m)->`dL<=`anv,(`Uv).map (c::·),A.length ^ k,`Ux (`Uy ?_),[`pY,`yI],((2*L+1:Nat):Int),R `bam,{ S with names:=`anw },`l ((`yy)++[`s8]),(rd0 p S _),(`tj:Int),(`az `s5).length,S5 `bJ [`iv],(`Ha).length,[.ow (v8 p (R (`tk S `ti))),`gu,`yH],{ S with spelled:=w },(`anx).zip `any,(`bap),held.length,∃c:Nat,d=X8 [c],`dx=`yL,[.sh (`x1),`UC],m9 `bar,`a ((1:Nat):Int),`lb `p_,`bav=_,p6 (x:=X) (y:=`yz) rfl rfl,(`bax),(`bay),`ii (held.drop 1),Fits q.1 q.2,vk0 q.2=`b,u60 `yA (`yM)=`a (`UF),`anA=`a (`l q.2),`yM=`t [`anz,`UG],m5 (ds:=`UE) `yr,`a (`sx),`a (`dr,R (`Hh)),[`anC,`gu,`UH],`cm `ne=`b,wm0 `q `ne (`UI),(O8 q).any λy=>eqF y `ne,if r=0 then [] else `hi::dgf f `nf,Nat.le_zero.mp h,2 ^ (m+1)=`Hj*2,(bs n).length<=301,P5 (Nat.div_le_self _ _) h,[a,`UJ,`anD],V0 [`jg]=`a (`l ((bs n).map `d)),((`Hi:Nat):Int),(2:Nat) ^ 252,vi0 `Hl=`a (`anH),`a (`w (z<0))=_,((`yN:Nat):Int),R4 `Hm=`a (`anJ),`dL+e.length<=`L,j6 (wt0 i g) δ,(`baA),`d `anK,(`U h rfl),`baF=_,`d (`e0:Int),G6 `to=`a (`anM),zi0 `to=`a (`anN),`Hq=2*`ax,(`UM j).flatMap two,List.take_succ,[a,.ow (`l pre),s],M4 `to=`a (`l (`e_)),[`Hr,.un,.un],[`Hr,`fD,.un],(`baI),[`yO,.un,.un],d.1.length<=20/\Vb d.2,(`baJ),
Xg0 h2 λs hs=>h3 s (D3 _ hs),(`UN).map `eO=vs,`bS=`UO,λ(k:Nat)=>(`ma `bU:K6),λs=>`UP,(`ma `bV:K6),(`w (`lq)),ya0 `tq `Hw,`anV `anW,dz0 `anX,`a (.bl `anY),`d `anZ,vv0 `tq (nd (`bl `yU)) `Hw,cm0 `anW,`d `an_,[`ey,`tr],Bw.P10 _ _ `h,`d `rF,[`cD,.sh X],`d ((`an0:Nat):Int),(`UR - 1 - `an_),[`jT,d,`jS,`tr],(`baX),4*fold x+1,(`baY),(`baZ),if `dy then bs `an5 else `an6,(X3 (d:=p.d) ?_),`p3++pk ps f (`tu) (nT T d) (`yW),(st ps o B T W s),`d (`yU:Int),(`ba_),(`ba0),`yX++[d],List.getLast?_concat,u9 (δ':=st ps (o++hb ps B T `u) B T W (`yV)) ?_ rfl,u9 (δ':=st ps (o++hb ps B T (`nl)) B T W (`cF)) ?_ rfl,nB B `nj=`UV,by unfold nB;simp only[`bo],nW ps B W `nj=`an8,by unfold nW;simp only[`bo],u9 (δ':=`an9) ?_ rfl,m5 (ds:=`to) (`U (by rw[`an'];exact w1) rfl),u9 (δ':=`an!) ?_ rfl,∀s:Str,`p0->P `fO,(`ba1),λs h=>hn s (D3 _ h),(`aoa v hv),⟨f - 1,`C⟩,⟨`C,B,T,s,?_⟩,λe he=>hW e (A4 _ he),⟨`aod,`UW,hn,J,O⟩,(`lr).Nodup,λa ha b hb e=>by rw[`UX] at e;exact h `aoe,(`lr).length,(u9 q `tp),`lb λp=>(p.1,f p.2),(`HC).vals=`yY `gv,⟨?_,rfl,rfl,?_,hv,?_⟩,(`HD).length=`ax,rp0 `gv (`iz) ps,(`HD).map `bz,lkd (π j),Sim ps ps' π S,(W.map `gv),h.inj b (hB b J) j hj e,λv hv=>?_,(`ls).vals,0<`y_/\`y_<=60,kz0 `gx (`yZ),show lkv `gx `HF=lkd (ix L i) from u20 _ _,ol0 `ba3,⟨`pX,?_⟩,(`ba4),(`ba5),(by rw[J]),`d (uo0 (`e1/4)),`e1/4<`pN,`pT (`dw - 1 - (`e1/4).toNat),(`pR).count `b1=0,List.count_eq_zero,by rw[hw];rfl,List.count_append,Uo0 _ `h,(by rw[v60,`y0];omega),S.names.Nodup,nm∉`b3,{ S with length:=`c?,spelled:=sp,count:=c },(`ba6),(`ba7),(`ba8),(`ba9),(`bbb),{ S1 with spelled:=`aom },`HI+`dL<=900,`er `HJ,λa=>`aW,by rw[w1];rw[J] at hl;simp at hl ⊢;omega,{ wa0 S k (b::l) ws with count:=c },⟨[],`aW⟩,(`bZ hj).resolve_left,λi hi=>?_,n+51*`bG<=`bk+51*`HL,(nW ps B `U1 `jV),(hw.it _ `HN).gp.len,show `U2+f=(n1+`HO)+1 by omega,λB T _ _ _ _=>⟨B,T,[],`O B T⟩,ih B `y3 hm hn hB J,⟨B',T',_,`s h⟩,⟨B',T',_,.val `fm h⟩,⟨B',T',_,.val (`n `aop) h⟩,
⟨B',T',_,.old hj' h⟩,`y4=`aoq++b1,∀j,`aor->j∈L,λj hj=>by rw[`fC hj];exact J.1,`tw (`p6 J.1).2,h.nodup `aw,Pk ps [] [] `HQ L T (`aoq++(b1++[])),.new `aw h (`O L T),(λj hj=>by cases hj),(`bbj),`y_<=`ax,show n+`y5=100000 by omega,`ix=`y6,⟨by rw[a];rfl,b⟩,`ii (`ix),(`e0,`y7),ih0 (Z y hy) π,J.map `aos,`aL `bS `aot,`ax=`aou+(`sm+1),by rw[e,`Z,`V],`d9::pw `sm,λz=>`I b (z q.1),`k9 (`aov)=`b,`tx ∉`aov,⟨`d9,pw `sm,?_,`iz,λs es=>?_⟩,`I es (U d (hv d ?_) s),`t `bbm,`t `bbp,w.cps.toList,by simpa using `A,T.map `aoy,l[k]?=`jj,λq=>`U8,Aft S S1 k `fO,⟨pm0 hu _,rfl,rfl⟩,{ S with names:=`aoz },Inv `aB B T S1,(A++N).modify k f,ln0 (w:=t) M,λk hk=>?_,(`U9).begun,t.cps.toList.map,`bbq=_,fs0 _ _ _ _ U.symm,(`U').length,S0.un.length,(∀v∈`np,`hm),hn s (D3 _ (J qs hv hs)),(by rw[he];simp),⟨N++M,by rw[hM,hN,`bp]⟩,⟨S',by rw[`aoB];exact `U!,`U?,D'.un,D'.wt,?_⟩,stage p `HW (`HX) (`nq hp) h0 pre `jV ds he,(`aoD).length,`b2 `tz b1 `Va,(`aoD)++(B1.drop `bG).map `Vb,⟨S1,`HY,I1,u1,w1,?_⟩,v00 ps `gx j,⟨S2,r2,D2.inv,D2.un,D2.wt,?_⟩,(∀q∈qs,`tA),ja0 xs h q hq,λq=>`aoF,[s0,.ow `bJ],ih0 (hI x hx) π,(ln0 (w:=w) ho).1,zb0 [`aoH]=`aoI,(`p6 M.1).2,{ S2 with un:=[],wait:=[] },`a `bby,fc0 xs ys h1 h2 h,by simp[xk0] at h,nob d=`b,⟨by rw[nob];exact jd0 λd hd=>(h d hd).nb,by rw[`cA];exact uk0 λd hd=>(h d hd).ln⟩,⟨`aoK,by cases n<;>simp[`cA]⟩,pairs qs hv,`bbB=_,`aoN=`a `Vf,xv0 (items:=`iC pr) ?_ `iw ?_,(`bbE),[`aoP],[`H0,`lm,.un],(`bbK),`t [`li],`t [`t (`y! pr)],m5 (ds:=[`tB,`sD]) rfl,`bbM=_,[`aoP,`lm,.un],`HE `HJ,(`bbN),`cA `za 50=`b,by simp[`cA,`h2],xv0 (items:=`gy) ?_ `h ?_,(∀v∈vs,`hm),`cT `anP,[`lv `HF],(`bbO),`Vh++[`aX `bV],(`bbQ),(`bbR),h2 f W s3 s4 `aoU,λf W s3 s4 hl=>?_,io0 (by rw[Wl0,`bF `aw]) e,yr0 `tD=`a (`y?),(`bbS),.sh (`l (`yY f)),⟨s6,?_⟩,[a,b,c,d,`aoV,`Vk,s6],⟨`Vl,?_⟩,u9 (X3 (d:=`tB) (qo0 _ _ qs 4 rfl rfl h)) (u9 (X3 ?_) rfl),`t `bbX,[`bbY],m5 (ds:=[`tB,`aoW]) rfl,`bb2=_,zk0 `tD=`aoI,`tE hn (m:=`nr) λy hy=>`fL (hL y hy),
[`aF,`lw,`fD,.un,.un,.un,.un],.ow (`l (`aoZ)),`l (`yY `tF),(rel `gx p).d,`l (`HE `zd),`a (`aoH),sIx `am 0 `H5,`ar=`gP,`xp=`ao_,(`fI gh),Int.toNat_of_nonneg,`Vn=`y',b5 (a:=p.1) (b:=p.2) hp,λv J=>hv v (by rw[← ev];exact J),λs hs=>h.nms s ?_,(`iC _).length<=12,Vk v `cw,PsOk.names,Pc0 hl.2 ((`Vo).vk v hv),J p hp s hs,(λj e=>nomatch e),[`ly,`cF,.un,.un,.un],`d `p9,[`ly,`cF,`cX,.un,.un],(`bb3),ps0 _ `h,yh0 `alX `gz,xw0 `h `h `u,`a (.nx (σ (`Vs j v'))),λt ht=>by rw[hσ,← ht];rfl,[`u,`ao2,`H6],(`U (a3 _) rfl),⟨0,`u,q,rfl,Z50⟩,⟨v',vk,?_⟩,c7 (tn `q (`H7)),(by rw[tt,e];rfl),U _ _ (J _ _ _ t v' gA (gi t ht) `aw Z),[`u,`H6],`Vv k (`H8),`d ((`zf:Nat):Int),[a,b,c,`fQ,d,e,f,`tI,`zh],p6 (x:=`H9) (y:=`h6) rfl rfl,`so _=`b,[`jT,`nl],[`aF,`cF,`lz,.un,.un,.un,.un,.un,.un],(`bl (`H')).map,λ(k:Nat)=>`ao5,J6 1 `ys,λ(k:Nat)=>`aX (1+`bU),[.un,`cF,`lz],[.sh (`d (1+`bU)),`cF,`lz],[`aF,`cF,`lz,`fQ,.ow (`ao6),.un,.un,.un,.un],ps[k].vals,`ng ps[k] (`H?),m5 (ds:=[`jT,`d (x/3)]) rfl,(`bb7),`a (.nx [a,b,c,d,e,f,g,h,`lA,s9',s10]),lz0 [`ll]=`lB,(z0%(`ao8)),(`bb?),.bl `bcb,(`bcc),m5 (ds:=[`ns]) rfl,[`e2,`aF,`fR,`e3,`Vk,`dO,`Vk,`dO,wv0 s8,wv0 s9,`Ia],(`bcd),"MOST_NAMES","MOST_NAME_SIGNS","MOST_PARTS","MOST_VALUES","MOST_WORD_SIGNS","NAME_SIGNS","WORD_SIGNS",(`bcf),(`bci),(`bck),(`bct),C_made_pairs,(`bcu),(`bcy),[`sT, `hb, `VA],FnD P w K mg `m `Ib 1 `jX z60,(j7 `iD v6),FnN P w K mg `m `Ic 1 `gB V0,FnN P w K mg `m `Id 1 `tJ R4,(`bcE),C_sign_bytes,(`bcI),(Z2 `aA v6),(o4 3 `qa),(o4 8 `qa),(`bcJ),(Z0 (K8 `apb v6)),[`le, `VC, `lf],(o4 2 `tL),(w6 `qb v9),(`bcQ),(pab 1 v9),[`le, `pw, `lf, `aly, `alz],T.b_enumerate,FnD P w K mg `m `Ih 1 `tM U9,C__law_cell_at,(d8 `a3 v6),["_law_name", `pw],(j7 `fS v6),(w6 `iD v9),(`bcW),FnD P w K mg `m `Il 1 `VJ zf0,[`le, `VI, `zo],(o4 8 `tO),C__law_with,(w6 `ny v9),(`bc5),(spD K lz0),(`bc7),(`bc8),FnT P w K mg `m `D `tR 1 `bu t8 R8,FnD P w K mg `m `Im 2 `In M3,(`bde),C_made_part,(o7 X5 Z3 `a3 v6),(`bdi),(K8 `nz v6),(`bdk),(`bdl),FnD P w K mg `m `Io 1 `VM vj0,
(`bdm),(`bdr),FnD P w K mg `m `Ip 1 `VN ys0,(w6 `nA v9),Fun K x x st f fd,∀(kV doc pm:`E) (an:`dP) (cdv ct u:`E),`qc `zr `QN=`bO (`oL [u]),⟨f,fd,o,`Iq,`Ir,`Is λ_ _ _ _ _ _ us h=>by obtain⟨u,rfl⟩:=us1 `It;exact b _ _ _ _ _ _ _⟩,∀(kV doc pm:`E) (an:`dP) (cdv ct u v:`E),`qc `zr ⟨[u,v],[]⟩=`bO (`oL [u,v]),⟨f,fd,o,`Iq,`Ir,`Is λ_ _ _ _ _ _ us h=>by obtain⟨u,v,rfl⟩:=us2 `It;exact b _ _ _ _ _ _ _ _⟩,(`z f38),`c6 `nB `nB (V5 `tV) (W6 `tV) (t7 `tV) `ay kV38 dc38 pm38 an38 cd38 ct38,(λq=>nomatch q),tupleKind,λc v _ q=>k c v q,(og0 h H).get?,b∈`or∨`os<=b,`PT b o e n hb hx,⟨#[],by rw[e];simp⟩,λb ps e=>`aWq,TP X `i σ Q,by rw[I.ok.glob];exact `ahg,h `i s σ H Q I hw,h `i s σ H _ I hw,`ox .And [a] pos,ha `i s σ H Q I h,(`aWx),thn `aWy λc s1 e=>?_,`ox .Or [a] pos,∃σ' H',`oy/\`ahm,λ_ s'=>`aWB,`kJ o i pos,hi `i s1 σ H1 _ I1 q1,`ja [tg] e pos,.While c `f' [] pos,by rw[z];exact hb,`ahq tg `jb u,PIE X `i σ tg R,"dict_itemiterator","dict_reverseitemiterator","odict_iterator","itertools.zip_longest","itertools.pairwise",[`jc, `f!, `aWK, `aWL, `aWM, `aWN, `aWO].contains,by simpa using hu,λb o hb e=>`ahs e,∃xs,SqL K H1 a xs,∃xs,SqT K H1 a xs,hl `i s σ H _ I h,`ce `rn p,`aR `ahy [a] [] pos,`aR `ahy `kL [] pos,.For tg `je `f' [] pos,(D5 _ (su0 hb e)),D5 _ `aWZ,hb `i s1 σ H1 _ I1 q1,ho `i s2 σ H2 x y v u Q I2 rx ry q,λv u s2 x y H2 I2 rx ry q=>`aW1,Rs0 ha hb I h `aW2,intBits_le_64 h1 h2,.bl (`w (x=`u)),(`aW5),Q `aW6 H,y=`u/\`aW7,λx y H Q=>`aW8,`Do∨r' x y H Q,λx y H Q=>`aW',ho `i s2 σ H2 x y v u _ I2 r1 r2 q2,`Db a `ahL [b,c] pos,xs=[`a_]/\Q `ej H,∃i,`aXb,xs=[`rG]/\Q (`Qh) H,(`aXc),∃k,`aXd,`aXe∨`aXf,λxs H Q=>`aXg,(x.cps.getD 0 0:Nat),`d `aXi,(`aXj),Q `aXk H,`oI=1/\`aXl,xs=[`bH]/\`aXm,∃x,`aXn,λxs H Q=>`aXo,W.plainOver,if g=f then `bi else mA g,`c5 e f pos,h pos `i s σ H _ I hq,.List es pos,`gO C dx [],λv H2=>`rI/\Q `wz H2,fm0 I hg hm ?_ hdb,(`aXx),`c5 o m `em,`aR `ahY `gd [] pos,keywordEach,`aXB [] `x,`ahZ pos `ah_,
∀v,(x,v)∉binds,x.above y c (K0 h),(`aXF),by simpa using hi,`c6 `el `fw params `f' `cP dV kV doc pm an cdv ct,nm0 CX P w K mg `m N `fw `cP f cdv A `cv s H E,v50 I hg hm hv ?_ hn hdb,(`aXK),λus s1 ⟨vs,H1,I1,r1,q1⟩=>`ah8,thn `rN `aXM,by simpa using hv,by simpa using hw,if v<0 then max (v+`cw) 0 else min v `cw,(A30 `oM `p ?_),args_tuple_getitem,`aXS _ _,entry_tuple_getitem,(`aXT),E3 U2 `oM `aXU ?_ `aXV,(q00 hs pl pu ?_),⟨_,rfl,A1 h⟩,A1 `aXY,A1 `Qx,`aie lo hi `c p2,`kJ e `aif pos,hl `i s1 σ H1 _ I1 q1,hu `i s2 σ H2 _ I2 q2,Heap.IsSliceOf.new,`aX4 ..,by rw[hj];simpa using ew,by rw[`a9]<;>omega,·.setIfInBounds,`aX8 j u,xs.set j v,`l `aij,upd H p `aik,by rw[hk];exact⟨_,I',q⟩,fin its r' hz h' c' kp e,λh' c' kp e=>`aYb,(`QF/\`ain)∨(`QG/\Q `c7 H),(`aYd),`mp/\`aYe,∃p ys,`aYf,λxs H Q=>`aYg,`c5 o `el `em,λ_ _ q=>`wH,s'.os=s₁.os/\`QM,OldK `rX `oF/\`aYk,r=.ok (`fj `wQ)/\`aYl,λr s'=>`aYm,λf vs=>PySem.call f vs,`ag8 n==`i7,`aiC&&`aYp,⟨`D1,`je,ifs,0⟩,[`aYr],`D2 elt `aYs `cP pos,J.stop i H2/\Q `oS H2,(`QW&&`aiH&&`aiI),`aYv=`b,if `aYw then `wY else k,λk=>`aYx,(`rL x).map `aYy,by rw[hsc];exact z,by show `PW x.1=_;rw[hsc];exact z,`ja `mw `mv spos,`s (`aiR sep ys),`er λa=>`s (h a),(`aYE),by simpa using hl,tDT X.K B δ g,q σ H Q z,tDS X.K `Y `S δ G,.If c as bs pos,(b2 b z.1).resolve_left,by simpa using z,tDG K idx f B d δ v σ H Q,∃B d δ,`aYN,λv σ H Q=>`aYO,upd H6 L (`l (ys++[v])),ht cl s _ ex B δ `i s' σ H Q I h,λcl s H ex pins s' σ H Q I ⟨B,δ,h⟩=>`aYR,he cl s _ ex B δ `i s' σ H Q I h,λcl s H ex pins s' σ H Q I ⟨B,δ,h⟩=>`aYT,`mE/\∃δ,`xh=`w3,(`aYV),`aYW∨`RA,`aji∨`aYX,`s (`ajm z lo hi),`aR (`ce `rT p) [e] [] pos,hQ _ ?_ `EQ,h1.symm.trans,if `ER then (`pb,y) else kv,λkv=>`aY2,`ET `aY3,by rw[l];exact `RO,ho `i s1 σ H1 _ I1 q1,`mG kvs p.1 p.2,(`sf:`bI).length,`aY8+`xk,`aY9+`xl,`aY'<30,(`aY!),s=`xn/\o'=`o4,∃d,`aZa,`sj (λo sl h=>?_) `hY,`o [],(`aZd),`cy `aZe [],gc `ajG,`xv `xg b1 b2 hi J M,F.args_int_rmul_2,`aZi _ _,
ih m' d e x y u w `bC a1 h1 h2 h3 h4 h5 h6,λd e x y u w h1 h2 h3 h4 h5 h6=>`aZk,ng0 Z Y rr M rv O `aZl,by rw[s1,s2,hl],by rw[s1,s2];simpa using hl,`oG a .Add b pos,`oG a .Mult b pos,by first|exact e2|rfl,by first|exact e3|rfl,`aR `Dw [e] [] pos,.bl (`R5 a b),{ cls:=`dk,dict:=`c,data:=`bP acc' c',slots:=#[] },code_list_new _ `kQ,`r `av A (`ep `xw [v]) Q E s1,λv s1=>`aZx,`ce `eh p,`aR `aj0 [`R9] [] pos,xg0 pr.1 pr.2 q d,.dK ((`aj4).zip ys),Builtin.«zip.__next__»,`aZD ⟨[`ph],[]⟩,C9 hz rfl (x:=`Sd) rfl ?_,(`aZF),C9 hz rfl (x:=`z TI) rfl ?_,(`aZH),h1.extBut `mN D.i1z,hl1.extBut,`aZK `mN D.l1z,h2.extBut `mN D.i2z,(`aZM).extBut,`aZN `xB D.i12.symm,hl2.extBut `mN D.l2z,(`aZP).extBut,`aZQ `xB `Sg,F.args_zip_next_1,`aZS _,k6 (T := `aj') (b:=`b) ⟨o,ho,hc⟩ isSubtype_stop ?_,(`aZU),`Fi->c≠TO->`aj8,∀c o,`aZW,{ cls:=`dk,dict:=`c,data:=`bP acc c,slots:=#[] },⟨[`z S,`ph,res],[]⟩,`cK `aka `aZZ,`Sc->`hH c=`aj->`aj7,`Sb->`aZ0,c≠TO->`aZ1,`Fi->`aZ2,∀c o,`aZ3,∀b o,b<lo->`Fd,`akh/\`sq h' a x y,`DK=`dE/\`aZ6,∃x y,`aZ7,`aki->`aZ8,∀(j:Nat) (a:`e),`aZ9,`ep `su [`z l1,`z l2],I.hok.lt q,`aR (`ce x1 p) [`Sq] [] pos,upd H `M `Su,upd H t (`t [`sx,x]),`Ft h e it i old,∃old,`a_d,(`kG _ (C2 le)).trans,`a_f a3,Q `aku H,xs=[`mP]/\`a_h,x=`g5/\`a_i,∃a b:`Fu,`a_j,λx xs H Q=>`a_k,pw0 ga gb gc f f',n==1||`oI==0,`xI lo (hi - lo),by simpa using hy,(M y tk).mp hb▸e1,lo0 (v:=`fu) hg hm rfl hd,E3 o3 `SA Dc0 ?_ (Dd0 _),C9 ho hd (x:=`hV) rfl ?_,(`a_t),C9 ho hd (x:=`d i 0) rfl ?_,(`a_v),Builtin.List.listFitsIndex,(xj0 (q:=q) rx).2,`SC/\Q (`d `i6) H,`mp/\`a_z,∃(p:`e) (kvs:`go),`a_A,λxs H Q=>`a_B,Ends.closing a D,tDB X.K `Y `S δ G,h1.go `Y `S δ,by simp only[z,`cU];exact e,vs.take j++`b8::vs.drop j,(.ow (bm.2 q.2)),`a0 i `a_I,h `i s σ H _ I q,λb hb=>`SO id `eO,upd `sE c so'.ho,as.zip (`FM),upd (`g6 H' `d5) c so'.ho,`c5 o `FR `em,j30 (h1.go B δ),(`a_Q),O9 `a_R yx0 hs,`aR `ahY [] [] pos,`ja [`akN] `eR pos,K7 (i:=i) hN hvis hd hcd,(`a_V),U8 `a_W,hv.go B δ,(`c5 o `FW `em),
`aR `a_Z [] [] `b_,`c5 (`FL) m `em,`aR `akQ `gd [] pos,`aR `akQ [] [] pos,(`akR).set j .un,[dk,`SY],`t `a_4,`SZ X.K `Y `S H' σ' `akS i j `S_,`a_6->`akT,∀σ' H',`a_7,`FX/\`a_8,`FY/\`a_9,`S0/\`a_',`cS X.K `Y `S H σ δ,`FB=`a dk/\`a_!,`a_?/\`a0a,∃H₀ B₀ δ dk ns,`a0b,λD σ H=>`a0c,(`S5).resolve_left,`a0e n,`aR `akY `mw [] `b_,(`S7).set j (.sh d'),by rw[z];exact J.w.in0,⟨tg,`je,[],0⟩,yk0 B δ `i s' σ H Q I h,λcl s H ex pins s' σ H Q I ⟨B,δ,h⟩=>`a0k,wy0 n `cg i `sI gi f gx,by rw[d9 a6];exact e,λo e=>`a0n,(`D?).set `sI `S9,`D2 elt `ak0 `cP pos,hi B δ `i s σ H R I h,λpins s σ H R I ⟨B,δ,h⟩=>`a0r,he cl s _ ex `Y `S δ `i s' σ H Q I h,λcl s H ex pins s' σ H Q I ⟨`Y,`S,δ,h⟩=>`a0t,`hO `S' `w0 `QZ `x,tTX X.K `Y `S δ gt,`FI `Y `S q.2,`akW `xR,`gp `F3 a `Ta,`aR (`ce c p) [] [] pos,`hO `ak4 `w0 `QZ `x,`akA C dx [],[x].zip `ak5,zr0 xs l u c,`aie lo hi st p2,`kJ e `ak' pos,(o2 `W `ps ltD),ob `a0H,(o2 `ab `W ixD),Y6 `a0J,o2 (o2 `fG `fG V1) `fH m8,(`a0L),o2 `ab `a0M o8,(`a0N),o2 `a0O `xW o5,(`a0P),o2 `au `a0Q ixD,(`a0R),o2 `du `a0S m8,(`a0T),b7 `jA `a0U,o2 (o2 `ab `mX m8) `xW o5,(`a0W),o2 `au `a0X ixD,(`a0Y),b7 `mY `a0Z,o2 (o2 `ab `xW o8) (o2 `mX `xW o8) m8,(`a00),o2 `a01 `xW o5,(`a02),o2 `au `a03 ixD,(`a04),o2 `mZ `a05 m8,(`a06),b7 `mY `a07,o2 `ab `fH o5,zh0 `du J8 (`fI `g'),(`a0'),o2 `a0! `mZ m8,(`a0?),zu0 6 `a1a,(`a1b),j6 `a1c,o2 `Te `aC eqD,(`a1e),ob `a1f,`fI (o2 `mX `F9 o5),(`a1h),zh0 `du J8 `a1i,(`a1j),o2 `a1k `mZ m8,(`a1l),zu0 6 `a1m,(`a1n),j6 `a1o,gc (`d 35),(`a1q),o2 `mX `a1r gtD,(`a1s),z7 `a1t v5,(`a1u),oA `a1v intOfD,o2 `aC `ak? m8,(`a1x),`fI `a1y,(`a1z),zh0 `mZ J8 `a1A,(`a1B),zu0 6 `a1C,(`a1D),j6 `a1E,gc (`d 12),o2 `xX `ala nf0,o2 `W `aC m8,(`alc),gc `a1J,o2 `W `F! ltD,ob `ald,gc (`d 64),o2 `xX `ale nf0,gc (`d 57),(`a1O),o2 `a1Q `alf m8,(o2 `au `W ixD),(`a1R),o2 `a1S `a1T o5,(`a1U),Z8 `a1V,(`a1W),U7 `a1X,o2 `W `F! o5,o2 `au `alg ixD,`d 2147483647,(`a10),gc `a11,(`a1_),o2 `a13 `alh o5,o2 `fH `W V1,o2 `ali `W V1,(`a14),(`a16),
o2 `a17 `a18 m8,(`a19),o2 `a1' `F9 m8,(`a1!),o2 `a1? (gc (`alj)) V1,(`a2a),o2 `a2b `alh o5,(`a2c),Z8 `a2d,(`a2e),U7 `a2f,O5 0 v5 S8,Q0 `alk `Ga,d7 `all,(o2 `Gb `bn eqD),ob `a2k,(`aln),gc `a2m,dgO 0 `Tf,`s `Tg,(`a2p),gc `a2q,o2 `ab `aC m8,o2 `au `alo o8,(o2 `x_ `g? o5),b7 `bf `a2u,(`a2v),d7 `a2w,(`d 5),gc `a2y,o2 `x_ `alq o5,(`d 13),gc `a2B,o2 `x_ `alr o5,(`a2D),z7 `a2E v5,(`a2F),z7 `als `a2G,(`a2H),z7 `als `a2I,(`a2J),Y7 `a2K,o2 `W (gc (`d 52)) o8,(`a2M),o2 `a2N `fH o5,(o2 `x0 `bn eqD),ob `a2P,O5 1 v5 O1,wy0 1 [0] 0 1 (u80 `cW) `bD `Th,(`a2S),jj0 3 `a2T,(`a2U),d7 `a2V,o2 `x0 `aC eqD,(`a2X),ob `a2Y,`s "pool",(`a2_),gc `a20,dgO 0 `alv,(`a22),b7 `jB `a23,(`a24),d7 `a25,o2 `W (gc (`d 156)) o8,oA `m0 V2,o2 `Ti `aC O6,(`a27),(`a29),o2 `a2' `a2! o5,(`a2?),o2 `aC `a3a m8,(`a3b),b7 `sM `a3c,(`a3d),d7 `a3e,n60 0 1,(`d 1000),gc `a3h,(`a3i),o2 `au `a3j o8,o2 `ab `fG V1,(`a3k),(`a3l),o2 `a3m `a3n m8,oA `m1 V2,(`a3o),o2 `a3q `alw o5,(`a3r),o2 `du `a3s ixD,(`a3t),z7 `a3u `dK,(`a3v),R6 `a3w,(`a3x),U5 2 [1,4,5] (iv0 `m1) `Tj noT `a3y,(`a3z),z7 `a3A v5,oA `alx zo0,(`a3C),b7 (gN 6) `a3D,(`a3E),d7 `a3F,(o2 `x0 `c! eqD),ob `a3H,gc (`li),gc (`jC),z7 `ab `dK,`fI `alA,(`a3M),zh0 `ab `a3N J8,o2 `alB `alC m8,o2 `au `m_ o8,(`a3Q),o2 `a3R `m_ o5,o2 `alD `fH eqD,(`a3T),ua0 `Tf `a3U Xi0,(`a3P),(`a3V),ua0 `alE `a3W `a3X,ua0 `id `bn `alF,`x2 3 `Tk,z7 (gc (`d 53)) v5,(`a30),z7 `alr `a31,(`a32),Y7 `a33,o2 `au `alq o8,o2 `alG `c! o5,O5 1 v5 M7,o2 `ab `ie ixD,z7 `bn v5,Y7 `Tl,o2 `au `jE xx0,ob `alK,(`a3?),pa0 `a4a,(wm0 `b),o2 `du `W `a4c,ob `alL,pa0 `alM,o2 `ab `du ixD,z7 `alN v5,oA `alO Z4,(`a4i),vu0 `a4j,U5 1 [] `alP `bD `sR `pv,(`a4l),b7 `jB `a4m,oA `m0 tr0,(`a4o),o2 `au `a4p si0,Q3 2 `alQ,(`a4r),Qg0 2 `a4s,b7 `jB `alN,oA `alR uy0,(vu0 (oA `m0 Z4)),(`a4v),U5 1 [1] `a4w `bD noT `a4x,(`a4y),b7 `sM `a4z,o2 `fG `bn ixD,o2 `alS `sP eqD,(`a4C),ob `a4D,z7 `g' v5,oA `alT zo0,(`a4G),z7 `a4H v5,(`a4I),z7 `sP `a4J,(`a4K),R6 `a4L,(`a4M),b7 `jB `a4N,o2 `alS `x3 neD,(`a4P),ob `a4Q,(o2 `fG `ie ixD),tupI `a4S,
(`a4T),U5 1 [] `a4U `bD noT `jD,(`a4V),b7 (gN 6) `a4W,z7 `Gf `alT,(`a4Y),oA `a4Z h90,(`a4_),z7 `a40 v5,(`a41),oA `a42 zo0,(`a43),z7 `a44 v5,(`a45),R6 `a46,(zh0 `fG J8 `alU),(`a47),o2 `a48 `a49 m8,(`a4'),b7 `jB `a4!,z7 (oA `dK zo0) v5,(`a5a),z7 `sP `a5b,(`a5c),R6 `a5d,(`a5e),Y6 `a5f,U5 1 [] `px `bD noT `jD,o2 `ab `au ixD,z7 `alV v5,(`a5j),oA `a5k Z4,o2 `du `jE wq0,ob `alW,o2 `du `fG ixD,yh0 `alX,o2 `Tm `ig qb0,ob `alY,Q0 (Z8 `bn) `Gj,Q4 `lj `Tm,ob `alZ,`d 720,(`a5v),gc `a5w,(`a5x),o2 `W `a5y o8,(`a5z),o2 `a5A `ps o5,(`a5B),z7 `a5C v5,(`a5D),z7 `id `a5E,R6 `al_,(`a5G),z7 `a5H v5,z7 `ig `Tn,(`a5J),Y7 `a5K,(`a5L),(o2 `Gk `c! o5),o2 `a5M `a5N ixD,(`a5O),Z8 `a5P,(`a5Q),Q0 `a5R `Gj,o2 `Tm `c! o8,(`a5T),z7 `a5U `Tn,z7 `ig `al0,(`a5W),Y7 `a5X,(`a5Y),(o2 `Gk `fH o5),o2 `a5Z `a5_ ixD,(`a50),Z8 `a51,(`a52),Q0 `a53 `Gj,z7 `alV `m1,(`a55),oA `a56 zf0,(`a57),z7 `a58 v5,`fI (o2 `au `aC m8),k30 (z7 `aC `cW),o2 `ab `aC O6,(`a5?),o2 `a6a `W m8,o2 `au `aC O6,(`a6b),(`a6c),o2 `a6d `a6e o5,o2 `aC `al1 m8,(`a5!),U5 1 `Gl `a6h `bD noT `al2,(o2 `mZ `aC ixD),o2 `du `a6j ixD,(`a6k),z7 `a6l v5,(`a6m),z7 `id `a6n,(`a6o),R6 `a6p,(`a6q),b7 `mY `a6r,z7 `mX v5,z7 `Gf `al4,oA `al5 zf0,(`a6v),yh0 `a6w,(`a6x),Z8 `a6y,(o2 `du `g' ixD),setAt 4 `a6A,(`a6z),(`a6B),Q0 `a6C `a6D,o2 `W `fH o5,z7 (o2 `W `fH o8) v5,(`a6G),z7 `ab `a6H,o2 `jD `To eqD,(`a6J),ob `a6K,(zu0 1 `pv),j6 `a6M,o2 `pv `W (vc0 `b),(`a6O),tg0 `pu `a6P,(`a6Q),Y6 `a6R,o2 `ab `bn ltD,(`a6T),ob `a6U,unG U4 `c!,(`a6W),o2 `a6X `ab V1,(`a6Y),o2 `a6Z `aC O6,(`a6_),Y6 `a60,o2 `c! `ab V1,(`a62),Y6 `a63,(o2 `ab `ig qb0),ob `a65,oA `dK xd0,(`a67),o2 `a68 `aC O6,(o2 `W `pv p30),o2 `al6 `a6' O6,(`a6!),o2 `g? `a6? V1,(`a7a),o2 `a7b `c! m8,(`a7c),Y6 `a7d,o2 `g? (oA `ld vi0) V1,(`a7f),o2 `a7g `aC m8,(`a7h),Y6 `a7i,o2 `ab `jG o5,(`a7k),z7 `a7l v5,(`a7m),Y7 `a7n,(`a7o),Q3 1 `a7p,o2 `ab `jG o8,(`a7r),b7 `bf `a7s,oA `dK tr0,(`a7u),ob0 `a7v,(`a7w),R5 `a7x,oA `ld op0,U5 1 [] (j00 `ab) `bD noT `al7,(`a7A),R5 `a7B,o2 `ab `W `al8,ob `al9,(o2 `W `ab p30),
o2 `al6 `a7F O6,(`a7G),o2 `c! `a7H V1,(`a7I),z7 `a7J v5,(`a7K),oA `a7L V0,(`a7M),R5 `a7N,(o2 `c! `ps V1),o2 `a7P `aC m8,(`a7Q),z7 `a7R v5,(`a7S),oA `a7T V0,(`a7U),o2 `a7V (oA `ld R4) si0,(`a7W),R5 `a7X,z7 `alJ v5,oA `al' V2,(`a7_),o2 `g? `a70 V1,z7 `jD v5,oA `al! `al?,(`a71),(`a73),o2 `a74 `a75 m8,(`a76),Y6 `a77,(oA `x5 R4),R5 `a79,Q4 isStr `W,(`a7!),ob `a7?,oA (z7 `W `m1) xy0,(`a8b),R5 `a8c,z7 `W `cW,oA `Ts z60,ob `ama,o2 `W `aC ixD,o2 `ab `amb ixD,(`a8i),b7 `jB `a8j,o2 `g? (oA `m0 G6) V1,(`a8l),o2 `a8m `fH m8,(`a8n),z7 `a8o v5,(`a8p),oA `a8q V0,(`a8r),o2 `a8s (oA `m0 zi0) si0,(`a8t),R5 `a8u,oA `Ts zl0,(`a8w),z7 `a8x v5,(`a8y),oA `a8z V0,(`a8A),R5 `a8B,Q3 2 `Tt,Q3 3 `Tt,z7 `id `Tl,(`a8F),R6 `a8G,(`a8H),z7 `a8I v5,(`a8J),Y7 `a8K,(`a8L),Q3 4 `a8M,vg0 `Ti,(`a8O),o2 `a8P `bn gtD,(`a8Q),ob `a8R,Q0 (q60 4) `sM,z7 `au `m1,(`a8U),z7 `g' `a8V,(`a8W),z7 `ab `a8X,(`a8Y),oA `a8Z zm0,(`a8_),n90 `a80,(`a81),wt0 1 `a82,j6 `amc,Q4 isStr `g',(`a85),ob `a86,oA `m1 xd0,(`a88),vg0 `a89,jf0 3 `g' `amd,j6 `ame,z7 `g' `cW,(`a9a),oA `a9b z60,(`a9c),yh0 `a9d,ob `amf,oA `cW xd0,(`a9g),vg0 `a9h,(`a9i),Z8 `a9j,o2 `g' `aC ixD,`x2 2 `amg,Q0 `amh `ami,o2 `ab `amg ixD,(`a9o),z7 `a9p v5,(`a9q),oA `a9r M4,(`a9s),z7 `a9t v5,(`a9u),oA `a9v tr0,(`a9w),wt0 4 `a9x,j6 `amj,(`s `Tu),gc `a9A,zg0 0 `jH,o2 `amk `bn gtD,ob `aml,(`s "end"),gc `a9F,o2 `py `amm eqD,(`a9H),ob `a9I,(`a9E),(`a9J),ww0 `a9K `a9L,popS 0 `jH,gc (`d 20),o2 `g? `amn V1,(`a9P),o2 `g? `a9Q V1,(`a9R),o2 `a9S `fH m8,o2 (zg0 0 `ih) `bn gtD,K5 0 `ih `ie,K5 0 `Tv `aC,vw0 0 `D `lk `bn,(`a9X),d7 `a9Y,o2 `ab `x3 eqD,(`a9_),ob `a90,(o2 `ab `sP eqD),ob `a92,o2 `ab `Tx eqD,(`a94),ob `a95,`s `sT,(`a97),gc `a98,z7 `amo `amp,(`a9'),Y7 `a9!,(`a9?),o2 `a'a `W mulL,o2 `au (oA `dK u50) gtD,z7 `id (z7 `Gr v5),(`a'd),R6 `a'e,(`a'f),z7 `a'g v5,o2 (o2 `ab `c! o5) `aC eqD,j4 0 `D `lk `ew,o2 `au `bn eqD,ob `Tz,V8 0 `D t8 `cW z40,(`a'm),G8 `a'n,gc (`amq),(`a'p),z7 `a'q v5,oA `TA V2,(`a's),o2 `du `a't V1,(`a'u),b7 `jA `a'v,oA `cW op0,(`a'x),o2 `a'y `ab eqD,ob `amt,
z7 `W `TA,(`a'B),oA `a'C vj0,(`a'D),b7 `bf `a'E,(`a'F),d7 `a'G,o2 `au `ig qb0,ob `amu,j4 0 `D `hb `ew,plN `amv,j4 0 `D `m3 `ew,o2 `Gs `au m8,z7 `amx v5,(`a'O),z7 `TB `a'P,(`a'Q),fnN 0 `m4 `a'R ys0,(`a'S),ob `a'T,(`a'U),yv0 `a'V,(`a'W),z50 `amy `a'X,vw0 0 `D `m3 `amx,(`a'Z),d7 `a'_,o2 (oA `amz V2) `TB eqD,o2 `W `bn ixD,z7 `amb v5,(`a'3),z7 `amA `a'4,(`a'5),oA `a'6 M3,(`a'7),z7 `a'8 v5,zg0 0 `m4,o2 `py `amo eqD,(`a'!),ob `a'?,V8 0 `D t8 v5 N8,(`a!b),bg0 `au `a!c (wm0 `q),V8 0 `D t8 `cW W0,(`a!e),j6 `a!f,(`a!g),d7 `a!h,o2 `TC `xY eqD,V8 0 `D t8 v5 R8,o2 `TB `bn gtD,oA `ld vo0,pw0 `bn `ab (gc `Gt) leD leD,oA `cW v70,ob `amC,(`a!p),yv0 `a!q,V8 0 `D t8 `cW V9,(`a!s),G8 `a!t,ut0 `amD,Z40 0 `D `x! `aC,(`a!w),d7 `a!x,V8 0 `D t8 v5 K9,(`a!z),j6 `a!A,(`a!B),d7 `a!C,(z7 `aC v5),z7 `ab `a!E,(`a!F),oA `a!G zd0,o2 `W `amE xx0,(o2 `du `fG wq0),vg0 `a!J,oA `cW zk0,o2 `g' `amF wq0,(`a!K),(`a!M),o2 `a!N `a!O xx0,oA `m1 zn0,o2 `Gf `du xx0,ob `amG,oA `al4 vz0,(`a!T),o2 `a!U `du xx0,(o2 `TD `aC ixD),Q4 `Gu `a!W,(`a!X),ob `a!Y,(ob (Q4 `lj `TD)),(`a!Z),ww0 `a!_ `a!0,(ob (Q4 `Gu `TD)),(`a!1),z50 `a!2 `a!3,z7 `amI v5,(`a!5),oA `a!6 zb0,(`a!7),o2 `a!8 `g' wq0,(`yc).cps.toList,(`amP).length,(`a!!:Nat),(`a!?:Int),k<`a?a,(`a?b),`w `a?c,(`a?d),`a `a?e,by rw[`F];exact h,by rw[`Z];simp only[`V,`gr];omega,o2 `Te `yh eqD,r00 (p:=p) (b:=`TG) rfl rfl hn,(`a?j),jn0 `a?k rfl,(`a?l),show `hd<37 by decide,by obtain⟨c,_,rfl⟩:=`ds hq;exact `jd,λq hq=>`a?o,`rQ*`pE,a+`a?q,((i+d:Nat):Int)*`pE,a+`a?s,N/36+`bU/36,(`a?u),`a?v%36,`w ((35:Int)<`bU),(`a?x),`a2 `a?y,(`a?z),`a `a?A,o40 `io `h `h,bk k cs `q m `aB,(`a?D),v8 p `a?E,(`a?F),.ow (v8 p (`yn)),show `m!≠0 by omega,(`amM `fK).length,(`a?J:Int),`aX `a?K,(`a?L),`a `a?M,z90 xa0 0 p `ij [],J2 `yr `s2,`GQ (`T0).toNat "",by show 3<=`L;omega,bk k1 cs sm m `aB,by rw[ix δ h,q],(v8 p (R (`jL))),by rw[c0,hu];rfl,by rw[hu];exact A6,(`w (b8 w=b8 v)),`a2 `a?X,(`a?Y),`a `a?Z,.ow (v8 p (R `lo)),Nat.not_lt_zero _,if `Ub then _ else `c,(`a?2),(`aL n w).flatten,
o2 `ab (gc (`mP)) eqD,if kd=0 then 20 else 12,ve0 `G3 kd,`G1 `anj [`b1],(`aL n _).length,(v8 p (R (`tb))),by unfold z50;rw[c1];exact c2,4*(4*n+kd),yd0 [`cE,`ex,.un],lb0 p S _ w ws hw,p6 (x:=`T5) (y:=`Tq) (fu0 p S _) rfl,by rw[`bac];exact `Ui,`a2 (`w (b<128)),(`bae),`a `baf,if `ww then _ else ut0 _ _,(`bah),`gt `bai _,[.sh (`d `G9),s1,`Uo],b.isPrefixOf,{ S with length:=L },zr0 xs (`a 1) `c `Hb,((`yK).map `p_),`t `bao,W2 `UD,(`baq),by rw[`V] at hl;omega,o2 `ab `ie ixD [.sh X],(`bat),`gt `bau _,match d with|`t [a,_]=>a|_=>`u,λd=>`baw,T4 M8 [`fP (1,`dx)],(v8 p (R (`Hh))),∃s:Str,`Hn/\`p0,((`yb).length:Nat),(`baB:Int),`aX `baC,(`baD),`a `baE,wi0 (items:=`yb) rfl e,(`baG),u9 `baH `tp,`yP ⟨d,hd,rfl⟩,(`bl `gh),nd `baK,`anR - `Ht,(`anU).mpr,`baN h,(`anU).mp,`baP z,(`baQ),h `baR,λz=>`baS,`bG - 1 - `tt,(`baU),4*`baV,by rw[`an1];exact `an2,by rw[`an3];exact `an2,by rw[`an4];exact cg0 B j,st ps o B T (d::W) s,st ps o B T W `r0,`yP ⟨p,hp,rfl⟩,hc k hk i (Z30 hu),(`ba2),by rcases hg with z|z;exact `fA;right;omega,by rw[J];exact hc,by rw[J];show `y1;omega,by rw[J];exact hln,by rw[J];exact h8,by rw[J];exact M,by rw[J];show 0<`c?;omega,⟨`ba',ht⟩,`o `ba!,(`ba?),ty0 S1 _ w ws w1 hv _ _ `bba,rg0 hn hj',`n ⟨0,rfl,J.1⟩,(`bbd),`n `bbe,(`bbf),`n `bbg,by rw[`lu];exact `bbh,λd hd=>`bbi,(`ii (`aow)).map,`bbk `p_,(`bbl),(`TH (`aox `gv)).map,`bbn pr,(`bbo),S0.begun.modify `bG _,v00 ps `gx,A.un.trans,`bbs hu,by rw[`ty,i60 hk,`aN];rfl,by rw[A.wt,hw,`Z,`cn,qq0 s1];rfl,((`aoJ).map `s3),`cT `bbw,(`bbx),(`iC pr),if `HZ then `aoM else `c,(`bbA),N6 (hc _ qs rfl h),(`bbC),V4 `bbD,(`Hp c qs).d,qo0 _ _ qs 0 rfl rfl h,(`bbG),X3 (d:=`tB) `bbH,(`bbI),u9 `bbJ `jN,(`eY (`aoR `Fa)),`a `bbL,ns5 ps B W d3 s4,ns5 ps B (j::W) s3 s4,ns5 ps `iy (`H3++W) `tC (`aoT),u9 (δ':=`bbP) ?_ rfl,by rw[`zb];omega,ns5 ps L [] s3 s4,`Vg `zc,(`bbT).map,`bbU pr,`t `aoX,[`bbW],`l `aoX,(`aoQ `zc).map `Fa,(`bbZ),`eY `bb_,(`bb0),`a `bb1,`U (gp _ _) rfl,(`p').take,ifD _ _ _ `zk,c7 (by rw[c,`Vx]),
by show `ao7;rw[`bb6];rfl,l1.map `d,`eY `ao9,`bb9=`zl,m5 (ds:=[N,`cV]) rfl,by rw[`bb!];exact M,`w `ao!,(`bca),by rw[`ao?];exact a2,.Pass ⟨0,0,0,0⟩,T.c_MOST_WORD_SIGNS,z70 `bce,lm0 (w40 `zm) `aA,(`bcg),Z0 `bch,(w40 (w6 o9 `zm)),lm0 `bcj `aA,G7 R7 vy0 `ez `eA `d!,(`bcl),w6 `bcm v9,(`bcn),w6 o9 `bco,(`bcp),M6 `bcq,(`bcr),Z0 `bcs,Yg0 `ap `Vz y90 `Vz,G3 `gA `dz,gn0 T.c_NAME_SIGNS,(`bcw),w6 `bcx v9,G3 `gA `zn,yt0 w80 `eA `iE `ez `ap,w6 `aA `dz,ug0 p60 ka0 `gA X0 `d!,(`bcC),K8 `bcD v6,Q9 `apa,qk0 `hn `nx `nu,(`bcG),O7 `bcH,K8 (R9 v6 `Ie) v6,C__law_next,(pab 0 v9),tp0 0 `bcK `If hr `p `bcL,(`VE:`g).Nodup,(`aP:`bcN),o4 0 `bcO,λcl s H ex=>`bcP,kb0 3 `jY o9,"_law_pair",(`VH:`g).Nodup,(`aP:`bcT),o4 0 `bcU,λcl s H ex=>`bcV,j7 `dA `fS,(`bcX),ro0 `bcY,w6 (d8 `jZ `tP) v9,(`bc_),w6 o9 `bc0,(`bc1),M6 `bc2,(`bc3),w6 `bc4 v9,w6 `ap `tQ,T9 C__law_web hr `p `apd,T9 `ape hr `p `dz,om0 0 v6 `j_,(`bc9),Z1 `bc',p10 0 `nv `j_,(`bc?),Z1 `bda,s60 0 C_Reader_whole hr `p,(`bdc),k80 `bdd,sx0 `e5 `p?,we0 `VK `apf,o7 X5 Z3 `a3 o9,Z1 (tw0 0 `a3 `j_),o7 X5 Z3 `VL o9,o7 qs0 s90 `nz v6,Z1 (tw0 0 v6 `j_),o7 ju0 lh0 `a3 t90,O2 0 `tU hr `p `dz,(`bdn),X6 `bdo,(`bdp),Z1 `bdq]
noncomputable section
open PySem
noncomputable def A0:=@PySem.wpAny_bind
noncomputable def A1:=@PySem.wpAny_pure
noncomputable def A2:=@Nat.le_refl
noncomputable def A3:=@Option.some.inj
noncomputable def A4:=@List.mem_cons_of_mem
noncomputable def A5:=@List.mem_map
noncomputable def A6:=@List.mem_cons_self
noncomputable def A7:=@List.mem_cons
noncomputable def A8:=@PySem.Heap.lt_size
noncomputable def A9:=@PySem.Heap.get?_push_of_some
noncomputable def B0:=@Nat.ne_of_lt
noncomputable def B2:=@Bool.false_ne_true
noncomputable def B3:=@List.mem_append
noncomputable def B4:=@Ne.symm
noncomputable def B5:=@List.mem_range
noncomputable def B6:=@Nat.lt_of_lt_of_le
noncomputable def B7:=@List.getElem?_eq_some_iff
noncomputable def B8:=@Nat.zero_le
noncomputable def B9:=@Nat.le_trans
noncomputable def C0:=@PySem.Heap.get?_push_size
noncomputable def C1:=@congrArg
noncomputable def C2:=@Nat.ne_of_gt
noncomputable def C3:=@List.getElem?_eq_getElem
noncomputable def C4:=@PySem.W.mg_of
noncomputable def C5:=@List.mem_of_getElem?
noncomputable def C6:=@PySem.wpAny_holding
noncomputable def C7:=@PySem.PassesOwn.never
noncomputable def C8:=@Nat.lt_irrefl
noncomputable def C9:=@PySem.wpAny_field
noncomputable def D0:=@Int.emod_nonneg
noncomputable def D3:=@List.mem_append_left
noncomputable def D4:=@PySem.wpAny_mono
noncomputable def D5:=@List.mem_append_right
noncomputable def D6:=@PySem.wpAny_specialOf
noncomputable def D7:=@List.nodup_cons
noncomputable def D8:=@Nat.lt_trans
noncomputable def D9:=@decide_eq_decide
noncomputable def E1:=@PySem.W.mg_none_of
noncomputable def E2:=@Int.emod_lt_of_pos
noncomputable def E3:=@PySem.wpAny_call_entry
noncomputable def E4:=@PySem.wpAny_newObj_type
noncomputable def E5:=@PySem.call_meets
noncomputable def E6:=@PySem.Heap.get?_update_self
noncomputable def E7:=@Nat.le_add_right
noncomputable def E8:=@beq_eq_false_iff_ne
noncomputable def E9:=@Nat.le_of_lt
noncomputable def G0:=@PyProof.Rows.callWith_type1
noncomputable def H0:=@Nat.le_of_eq
noncomputable def K0:=@PySem.mem_of_lookup
noncomputable def K2:=@PySem.Heap.get?_update_other
noncomputable def L0:=@PySem.W.kia_one
noncomputable def L3:=@List.getElem_mem
noncomputable def L4:=@PySem.wpAny_rule
noncomputable def L5:=@PySem.wpAny_Call_Name_kw
noncomputable def L6:=@PySem.wpAny_callSpecial?_slot
noncomputable def L7:=@PySem.wpAny_updateSeq
noncomputable def L8:=@PySem.F.plainAttrs_list
noncomputable def L9:=@List.mem_replicate
noncomputable def M0:=@decide_eq_true
noncomputable def M1:=@PySem.SeqAt.EqAt.same
noncomputable def N3:=@PySem.wpAny_seqItems
noncomputable def N4:=@decide_eq_false
noncomputable def N9:=@List.mem_filter
noncomputable def O0:=@PySem.wpAny_truthy_bool
noncomputable def P1:=@PySem.wpAny_passesOwn
noncomputable def P2:=@beq_iff_eq
noncomputable def P3:=@PySem.wpAny_typeOf
noncomputable def P4:=@PySem.typeIs_int
noncomputable def P5:=@Nat.lt_of_le_of_lt
noncomputable def P6:=@PySem.Heap.SameBut.update
noncomputable def P7:=@PySem.wpAny_loadPart'
noncomputable def P8:=@List.mem_map_of_mem
noncomputable def Q1:=@List.mem_singleton
noncomputable def Q2:=@List.nodup_nil
noncomputable def S4:=@PySem.codeAny_builtin
noncomputable def T0:=@Nat.lt_succ_self
noncomputable def U1:=@PySem.Calls.spliced_cons
noncomputable def U2:=@PyProof.Rows.slot_tuple_getitem
noncomputable def W1:=@PySem.typeIs_str
noncomputable def X0:=@PySem.boot_len
noncomputable def X1:=@PySem.plainId_quiet
noncomputable def X2:=@List.nodup_iff_pairwise_ne
noncomputable def Y1:=@PySem.SeqAt.EqAt.int_str
noncomputable def Y2:=@PySem.SeqAt.EqAt.str_int
noncomputable def Y3:=@PySem.Calls.spliced_nil
noncomputable def b4:=@PySem.codeAny_mono
noncomputable def b5:=@List.of_mem_zip
noncomputable def b6:=@List.length_eq_zero_iff
noncomputable def c6:=@List.map_congr_left
noncomputable def c9:=@Array.getElem?_eq_getElem
noncomputable def d4:=@PySem.F.plain_extend_loop
noncomputable def d5:=@List.cons.inj
noncomputable def d6:=@Prod.mk.inj
noncomputable def i3:=@List.mem_flatMap
noncomputable def i4:=@List.length_range
noncomputable def i5:=@PySem.F.slot_NoneType_hash
noncomputable def i6:=@PySem.F.slot_tuple_hash
noncomputable def i7:=@PySem.SeqAt.EqAt.none_int
noncomputable def i8:=@PySem.SeqAt.EqAt.none_str
noncomputable def i9:=@PySem.SeqAt.EqAt.int_none
noncomputable def j0:=@PySem.SeqAt.EqAt.int_int
noncomputable def j3:=@PySem.SeqAt.EqAt.str_none
noncomputable def k0:=@PySem.SeqAt.EqAt.str_str
noncomputable def k6:=@PySem.wpAny_isInstance
noncomputable def k7:=@List.getElem?_eq_none_iff
noncomputable def k8:=@PySem.wpAny_pyIter_tuple
noncomputable def k9:=@List.mem_filterMap
noncomputable def l5:=@PySem.Heap.size_push
noncomputable def l6:=@PySem.concat_meets
noncomputable def m4:=@Option.map_eq_some_iff
noncomputable def n0:=@PySem.tupleKind_room_in1
noncomputable def n5:=@PySem.F.slot_int_rmul
noncomputable def n9:=@PySem.F.slot_zip_next
noncomputable def o0:=@PySem.wpAny_pyIter_enum
noncomputable def o3:=@PySem.F.slot_tuple_iterator_next
noncomputable def p9:=@List.length_pos_iff
noncomputable def r8:=@List.not_mem_nil
noncomputable def r9:=@List.all_eq_true
noncomputable def t0:=@List.pairwise_map
noncomputable def t5:=@List.nodup_append
noncomputable def t9:=@List.mem_flatten
noncomputable def u3:=@PySem.F.typeOf_object_class
noncomputable def u4:=@PySem.wpAny_pyHash_int
noncomputable def u7:=@PySem.wpAny_pyHash_str
noncomputable def u8:=@PySem.wpAny_forIn_list
noncomputable def v0:=@List.ext_getElem
noncomputable def w8:=@of_decide_eq_true
noncomputable def x0:=@PySem.SeqAt.EqAt.none_tuple
noncomputable def x3:=@PySem.SeqAt.EqAt.int_tuple
noncomputable def x4:=@PySem.SeqAt.EqAt.str_tuple
noncomputable def x5:=@PySem.SeqAt.EqAt.of_refs
noncomputable def x6:=@PySem.SeqAt.RcAt.tuples
noncomputable def x8:=@List.getElem_inj
noncomputable def y0:=@PySem.wpAny_execs_nil
noncomputable def y4:=@PySem.wpAny_standAt
noncomputable def y6:=@PySem.W.plainGet_of
noncomputable def y8:=@PySem.noFill_tuple_add
noncomputable def y9:=@PySem.seq_tuple_add
noncomputable def A00:=@PySem.F.slot_tuple_add
noncomputable def A10:=@PySem.F.entry_tuple_add
noncomputable def A20:=@PySem.F.args_tuple_add_2
noncomputable def A30:=@PySem.wpAny_sequenceKey
noncomputable def A60:=@PySem.slot_list_getitem
noncomputable def A70:=@PySem.SeqAt.EqAt.none_bool
noncomputable def A80:=@PySem.SeqAt.EqAt.bool_none
noncomputable def A90:=@PySem.SeqAt.EqAt.bool_bool
noncomputable def Aa0:=@PySem.SeqAt.EqAt.bool_int
noncomputable def Ab0:=@PySem.SeqAt.EqAt.bool_str
noncomputable def Ac0:=@PySem.SeqAt.EqAt.int_bool
noncomputable def Ad0:=@PySem.SeqAt.EqAt.str_bool
noncomputable def Ae0:=@PySem.Calls.callWith_builtin
noncomputable def Af0:=@PySem.F.slot_list_append
noncomputable def Ag0:=@PySem.F.type_list_append
noncomputable def Ai0:=@PySem.callType_codes
noncomputable def Aj0:=@Nat.lt_succ_of_lt
noncomputable def Ak0:=@PySem.wpAny_nextOf_list_item
noncomputable def Al0:=@PySem.wpAny_attempt
noncomputable def Am0:=@List.mem_iff_getElem?
noncomputable def An0:=@PySem.wpAny_setField
noncomputable def Ao0:=@List.mem_iff_getElem
noncomputable def Ap0:=@List.mem_of_mem_take
noncomputable def Aq0:=@List.Pairwise.imp_of_mem
noncomputable def Ar0:=@List.mem_of_mem_drop
noncomputable def As0:=@List.mem_or_eq_of_mem_set
noncomputable def At0:=@List.length_map
noncomputable def Av0:=@PySem.wpAny_callSpecialIfBoundUnlessNone?_slot
noncomputable def Ay0:=@List.getD_eq_getElem?_getD
noncomputable def B30:=@PySem.Calls.Name_function_global
noncomputable def Bj0:=@Nat.min_le_right
noncomputable def Br0:=@PySem.wpAny_getItem_list_slice
noncomputable def Bu0:=@PySem.wpAny_comprehension_free
noncomputable def Bx0:=@Bool.eq_false_iff
noncomputable def C40:=@PySem.F.slot_list_extend
noncomputable def C50:=@PySem.F.type_list_extend
noncomputable def C60:=@PySem.F.slot_list_pop
noncomputable def C70:=@PySem.F.type_list_pop
noncomputable def C80:=@PySem.F.slot_tuple_mul
noncomputable def C90:=@PySem.F.slot_tuple_rmul
noncomputable def Ca0:=@PySem.wpAny_binaryOp_repeat_ref
noncomputable def Cl0:=@PySem.SeqAt.RcAt.lists_lengths
noncomputable def Cm0:=@PySem.F.called_list
noncomputable def Cn0:=@PySem.F.typeCall_list_1
noncomputable def Co0:=@PySem.F.entry_list_init
noncomputable def Cq0:=@PySem.F.args_list_init_2
noncomputable def Cw0:=@Array.getElem?_eq_none
noncomputable def D30:=@Nat.add_lt_add_left
noncomputable def D60:=@List.getElem?_zip_eq_some
noncomputable def D70:=@PySem.wpAny_letOwnedTupleGo_enum
noncomputable def D80:=@PySem.F.slot_int_mul
noncomputable def Db0:=@List.findIdx?_eq_some_iff_getElem
noncomputable def Dc0:=@PySem.F.entry_tuple_iterator_next
noncomputable def Dd0:=@PySem.F.args_tuple_iterator_next_1
noncomputable def Df0:=@PySem.F.slot_dict_setdefault
noncomputable def Dh0:=@Classical.choose_spec
noncomputable def Di0:=@List.getElem?_set_self
noncomputable def Dj0:=@List.map_fst_zip
noncomputable def Dl0:=@List.nodup_range
noncomputable def Dm0:=@List.eq_nil_of_length_eq_zero
noncomputable def Dn0:=@List.ext_getElem?
noncomputable def Dp0:=@List.isPrefixOf_iff_prefix
noncomputable def Dt0:=@List.map_snd_zip
set_option Elab.async false
set_option linter.all false
set_option maxRecDepth 100000
variable{prog:`ao}{A:`cl}{E Q:`aq}{a l it dx fa I z i1 i2 l1 l2:`e}{o e b c tg iter value elt ke ve:`H}{od an:`dP}{x y name qual x2 root:Str}{K:`y}{h' base:`Q}{i m t' j n k1 k2 x1:Nat}{vs us:`ac}{u doc pm cdv ct oc vl vu:`E}{items ys:`aI}{α β κ:Type}{pins:`aD}{ch fp as as':`aU}{N nm loose N' cs rs F pool T':`g}{s':`v}{pos pos' tpos apos p2 cpos py spos px pos2 np tp p0:Pos}{rest body:`e6}{es ifs elts:`bI}{lo:`bc}{mA mg:`bx}{kw:`oU}{fd:`ho}{sc scope:`cG}{XP:`Iu}{YP:`Iv}{caps idx L:`k}{oa:Obj}
namespace KfT
theorem sl:Slot `wb `api "object.__getattribute__" := by
 refine .of (owner := "object") (n := `api) ?_ `d7 `d7 `d7 ?_ ?_
 ·rw[`tW,`tX];kernel_rfl
 ·first|exact `o `d7|exact `n `d7
 ·rw[`VP];kernel_rfl
theorem lk:`rR `rf `PA=`bO (`a (`VQ)):=by
 rw[`tW,`tX];kernel_rfl
theorem ow:isSubtype `rf (`bq (".".intercalate ("object.__class__".cutAt '.').dropLast))=`D8:=by
 rw[F.owner_object_class,`VP];kernel_rfl
section
variable{P:`ao}{W:`P}{X:`aq}{s:`v}{f:`e}{y:Obj}
theorem gs{R:`qd}(e:`c3 f=`fk)(c:`Iw)(q:R (.ok `apj) s) :
  `gZ `Ix A (`oQ (`cK "getset_descriptor.__get__") ⟨[`VQ,`CV,`CT],[]⟩) R s:=by
 obtain⟨hh,gg,dd,tt,oo⟩:=s;have z1:`VR := `VS;have z2:=ow;refine `apk F.slot_gs_get.plain F.entry_gs_get (F.slot_gs_get.check _ _ _ _ _ _ _ _ u3 (F.args_gs_get _ _ _) ?_)
 repeat (any_goals (first|assumption|wp_step))
 refine⟨Code.quiet_builtin _ `d7,S4 F.entry_object_class ?_⟩
 repeat (any_goals (first|assumption|wp_step))
theorem ga{tk:Tok}{R:`apl}(e:`c3 f=`fk)(c:`Iw)(q:R (`Fc `apj) s) :
  `r `Ix A (Builtin.«object.__getattribute__» ⟨[`CV,`apm],[]⟩) R X s:=by
 obtain⟨hh,gg,dd,tt,oo⟩:=s;have z1:`VR := `VS;have z2:`agM (`VQ) "getset_descriptor" := u3;have z3:=lk;have z4:=u3;have z5:=F.slot_gs_get.lookup;have z6:=F.slot_gs_set.lookup
 repeat (any_goals (first|assumption|wp_step))
 refine gs e c ?_
 repeat (any_goals (first|assumption|wp_step))
variable{hh:`Q}{gg:`xx}{dd:Drawn}{tt:Nat}{oo:OsState}
theorem by'{tk:Tok}{R:`aq}(e:`apn)(c:`Iw)(q:R `rf `CU):`r `Ix A (getAttrBy `ef (`apm) `q) R X `CU:=by
 have z1:`VR := `VS;have z2:=sl.lookup;have z3:=sl.bind `ef
 repeat (any_goals (first|assumption|wp_step))
 refine `apk sl.plain F.entry_object_getattribute (sl.check _ _ _ _ _ _ _ _ z1 (F.args_object_getattribute_2 _ _) (ga e c ?_))
 repeat (any_goals (first|assumption|wp_step))
theorem at'{R:`tY}(e:`apn)(c:`Iw)(q:R (`apo) ⟨hh,gg,dd,tt+1,oo⟩):`r `Ix A (getAttr? `ef `PA) R X `CU:=by
 unfold getAttr? getAttrBy?
 repeat (any_goals (first|assumption|with_reducible apply by' e c|wp_step))
universe zz
theorem kit{f:`e}:W.KitX K `ef `rf (W.KitAt f `wb):=W.kitx_of W.kitAt_ty λ{_ _ _ _ _ s} p k=>by
 obtain⟨hh,gg,dd,tt,oo⟩:=s;obtain⟨_,e,c⟩:=p;exact at' e c k
universe KfT
namespace L2
open Spec PyProof.Rows
abbrev Key:=`Q_
noncomputable def lk0:Key->`app
 | `o k,v=>`apq k v
 | `nC,v=>`apr x v
variable{ks:`aps}
noncomputable def I90(w:`P):Key->Int
 | `o k=>hashInt k
 | `nC=>hashStr w x
theorem za0:∀{k:Key} {v:`E},lk0 k v=`b->(∃i t,k=`ma i/\v=`PC i t)∨(∃x t,k=`rg x/\v=`CW x t)
 | `o i,v,h=>by
  obtain⟨t,e⟩:=Value.isInt_shape (k:=i) (v:=v) h;exact `apt
 | `nC,v,h=>by
  obtain⟨t,e⟩:=Value.isStrOf_shape (x:=x) (v:=v) h;exact `n ⟨x,t,rfl,e⟩
theorem Ud0(i:Int)(t:Tok):lk0 (`o i) `wu=`b:=by simp[lk0,`apq]
theorem S60(x:Str)(t:Tok):lk0 (`nC) `Iy=`b:=by simp[lk0,`apr]
theorem Ms0(a b:Int):`w (`VT=`ma b)=(`j0):=by
 by_cases e:a=b
 ·subst e;simp
 ·have h:¬`VT=`ma b:=λq=>e (Sum.inl.inj q)
  rw[`iF];exact(`mQ e).symm
theorem Mv0(a b:Str):`w (`VU=`rg b)=`ang:=by
 by_cases e:a=b
 ·subst e;simp
 ·have h:¬`VU=`rg b:=λq=>e (Sum.inr.inj q)
  rw[`iF,`b6 e]
theorem M10(a:Int)(b:Str):`w (`VT=`rg b)=`q:=`apu
theorem Ly0(a:Str)(b:Int):`w (`VU=`ma b)=`q:=`apu
noncomputable def J0(prog:`ao)(w:`P):PySem.KeyKind `i4 w Key where
 is:=lk0
 hash:=I90 w
 inj:=λv a b ha hb=>by
  rcases za0 ha with⟨i,t,rfl,rfl⟩|⟨x,t,rfl,rfl⟩
  ·rcases za0 hb with⟨j,u,rfl,e⟩|⟨y,u,rfl,e⟩
   ·injection e with e1 _;rw[e1]
   ·exact nomatch e
  ·rcases za0 hb with⟨j,u,rfl,e⟩|⟨y,u,rfl,e⟩
   ·exact nomatch e
   ·injection e with e1 _;rw[e1]
 byValue:=λk v h=>by
  rcases za0 h with⟨i,t,rfl,rfl⟩|⟨x,t,rfl,rfl⟩<;>rfl
 pyHash:=λhv h=>by
  rcases za0 hv with⟨i,t,rfl,rfl⟩|⟨x,t,rfl,rfl⟩
  ·exact u4 h
  ·exact u7 h
 eqBool:=λhu hv h=>by
  rcases za0 hu with⟨i,t,rfl,rfl⟩|⟨x,t,rfl,rfl⟩
  ·rcases za0 hv with⟨j,u,rfl,rfl⟩|⟨y,u,rfl,rfl⟩
   ·rw[Ms0] at h;exact wpAny_eqBool_int h
   ·rw[M10] at h;exact Y1 i t y u _ _ _ _ h
  ·rcases za0 hv with⟨j,u,rfl,rfl⟩|⟨y,u,rfl,rfl⟩
   ·rw[Ly0] at h;exact Y2 x t j u _ _ _ _ h
   ·rw[Mv0] at h;exact wpAny_eqBool_str h
 «strs»:=λk x t v h=>by
  rcases za0 h with⟨i,u,rfl,e⟩|⟨y,u,rfl,e⟩
  ·exact nomatch e
  ·injection e with e1 _
   subst e1;cases v<;>rfl
theorem Zi0(prog:`ao)(w:`P)(i:Int)(t:Tok):`apv (`o i) `wu=`b:=Ud0 i t
theorem Za0(prog:`ao)(w:`P)(x:Str)(t:Tok):`apv (`nC) `Iy=`b:=S60 x t
inductive V where
 | non|bl (b:`aa)|int (i:Int)|str (x:Str)|byt (b:`apw)|flt (b:UInt64)|ref (a:`e)|ty (n:`cH)
 deriving DecidableEq
variable{v:L2.V}{xs dvs:`P0}{σ:`apx}{kvs:`apy}
noncomputable def RelV:V->`ajU
 | `u,u=>u=`mO
 | `dm,u=>u=`wU b
 | `a_,u=>`Ds
 | `bH,u=>`ahU
 | .byt b,u=>`apz
 | .flt b,u=>`apA
 | `b8,u=>`ED
 | .ty n,u=>u=`h7 n
abbrev Vals:`K->`ac->Prop:=`bB `di
theorem Vals.length(r:`da):`am=`k8:=`VV r
theorem Vals.get:∀{xs:`K} {us:`ac} {i:Nat} {x:V},`da->`oB->∃u,us[i]?=`bi/\`gW
 | _,_,_,_,`O,e=>`Iz
 | _,_,0,_,`VW,e=>`VX
 | _,_,i+1,x,`qe,e=>by
  obtain⟨u,h1,h2⟩:=Vals.get (i:=i) (x:=x) t `zs;exact`VY
theorem Vals.set{x:V}(r:`gW):∀{xs:`K} {us:`ac} (i:Nat),`da->`bt (xs.set i x) (us.set i u)
 | _,_,_,`O=>`O
 | _,_,0,`qe=>`j1
 | _,_,i+1,`ah q t=>`ah q (Vals.set r i t)
theorem Vals.append:∀{xs ys:`K} {us ws:`ac},`da->`apB->`bt `DJ (us++ws):=by
 intro xs ys us ws p s
 induction p with
 | nil=>exact s
 | cons r t ih=>exact `zt
theorem Vals.take:∀{xs:`K} {us:`ac} (n:Nat),`da->`bt (`IA) (`FJ n)
 | _,_,0,_=>`O
 | _,_,_+1,`O=>`O
 | _,_,n+1,`j1=>`ah r (Vals.take n t)
theorem Vals.drop:∀{xs:`K} {us:`ac} (n:Nat),`da->`bt `VZ (`SH n)
 | _,_,0,r=>r
 | _,_,_+1,`O=>`O
 | _,_,n+1,`qe=>Vals.drop n t
theorem Vals.none_of:∀{xs:`K} {us:`ac} {i:Nat},`da->`Sh->us[i]?=`c:=λ{xs us i} r e=>by
 have h1:=`b9;have h2:`P8:=k7.mp e;exact k7.mpr `h
noncomputable def RelO:`dF->`l?->Prop
 | `bX,`bi=>`fo
 | `c,`c=>`iG
 | _,_=>`bR
noncomputable def KV{κ:Type}:`gC->`tZ->Prop:=`bB λ(p:`CX) (q:κ×`E)=>p.1=q.1/\`apC
noncomputable def kV:Key->V
 | `o i=>`a_
 | `nC=>`bH
inductive SubO where
 | lst (xs:`K)|dK (kvs:`go)|ins (C dx:`e) (fs:`iH)
variable{so:`wd}{sub:`apD}{sos:`ad `wd}
inductive HO where
 | deep (sub:`t_)
 | lst (xs:`K)
 | tup (xs:`K)
 | dK (kvs:`go)|dT (kvs:`j2)|dX (kvs:`ad (Nat×V))
 | set (S:Int->`aa) (n:Nat)
 | ins (C dx:`e) (fs:`iH)
 | own (x:`e)
 | xd (fs:`iH)
 | met (f x:`e)
 | rng (lo hi:Int)
 | frz (o:Obj) (u:HO)
 | tbl (ps:`aI)
 | ext (φ:`wa)
abbrev Hp:=`e->`qf
noncomputable def upd(H:Hp)(a:`e)(o:HO):Hp:=λb=>if b=a then `aj else H b
variable{H H' H2 H₀:L2.Hp}
theorem j9{o:HO}:upd H a o a=`aj:=by unfold upd;rw[`bm]
theorem d9{b:`e}{o:HO}(h:`k4):upd H a o b=H b:=by unfold upd;rw[`dR]
theorem Kw0{b:`e}{o u:HO}(h:`w5)(h':`zu)(d:o≠u):a≠b:=by
 intro e;subst e;rw[h] at h';exact d (A3 h')
theorem U6{b:`e}{o:HO}(h:`w5)(h':`c4):a≠b:=by
 intro e;subst e;rw[h] at h';cases h'
noncomputable def IsTupN(h:`Q)(a:`e)(items:`aI):Prop:=∃o,`C0/\`IB/\∃n,`rl=`E8/\`IC
theorem IsTupN.tup{h:`Q}(x:IsTupN h a `aQ):`wF h a `aQ:=let ⟨o,e,c,n,d,_⟩:=x;⟨o,e,c,n,d⟩
theorem IsTupN.new(h:`Q)(items:`aI):IsTupN (h.push { cls:=`eg,data:=`bP `aQ }) `f6 `aQ:=`V_
noncomputable def qOf(ps:`aI):Str:=match (ps[0]?:`l?) with
 | `a (`s q _)=>q
 | _ => ""
noncomputable def TabOk(H:Hp)(h:`Q)(a:`e)(q:Str):Prop:=∃cont:`aI,`hI=`a { cls:=`ay,data:=`mb cont }/\TriplesOk `apE /\
 ∀pos cv,codeAmong pos `apE=`a cv->∃c oc vs tq,cv=`t0/\H c=`a (`hK oc (`f5 c))/\oc.data=`ID/\vs[1]?=`a (`s q tq)
section
variable(P:`ao)(w:`P)
noncomputable def SubOk(H:Hp)(h:`Q)(a b:`e):`dj->Prop
 | `cN=>`hp/\∃(its:`ac) (n:Nat),`lD/\`oo=`DM
 | `wN=>`ri/\(b==`C_)=`q/\∃vs,`kD/\`agU `rk b vs
 | `kO=>b=a/\`V0/\`V1/\dx≠a/\`apF /\
   `apG
noncomputable def ObjOk(H:Hp)(h:`Q)(a:`e):HO->Prop
 | `cN=>`hp/\∃(its:`ac) (n:Nat),`lD/\`hI=`DM
 | `ei=>`hp/\∃its:`ac,`lD/\IsTupN h a `a6
 | `wN=>`V2
 | `aio=>`ri/\`rj/\∃xs:`qg,
   `bB (λ(p:`gN×V) (q:`agW)=>`apH) kvs xs /\
   ∃o es ep,`C0/\`V3/\`V4/\es.toList=`wf (`IE `V5)/\`apI
 | .dX _=>`bR
 | .set S n=>h.SetOf (intKind P w) a S n
 | `kO=>`V0/\`V1/\dx≠a/\`apF /\
   `apG
 | `my sub=>(`IF)/\∀p∈sub,`apJ
 | `f5 _=>`IF
 | .xd fs=>∃mA,h.Ns1 a mA/\`PI
 | .rng lo hi=>∃t u v,`hI=`a `Qc
 | `hK o u=>`C0/\`ct H h a u
 | `PO=>`agZ
 | .met f x=>`hI=`a (`ag1 `ef `wz)
 | .ext φ=>φ h/\(`IF)/\∀h1 h2:`Q,φ h1->(∀o,`V6 a=`aj->h2.get? a=`aj)->φ h2
noncomputable def HOk(H:Hp)(h:`Q):Prop:=∀a o,`w5->`V7
universe zz
section
variable{P:`ao}{w:`P}{h:`Q}{o:HO}
theorem ObjOk.lt(x:`V7):a<`f6:=by
 cases o with
 | lst xs=>obtain⟨_,_,_,_,e⟩:=x;exact `dY
 | tup xs=>obtain⟨_,_,_,p⟩:=x;exact p.tup.lt
 | dK kvs=>obtain⟨_,_,_,_,o,_,_,e,_⟩:=x;exact `dY
 | dT kvs=>obtain⟨_,_,_,_,o,_,_,e,_⟩:=x;exact `dY
 | dX kvs=>exact `fv x
 | set S n=>obtain⟨o,_,_,_,e,_⟩:=x;exact `dY
 | ins C dx fs=>obtain⟨_,_,_,e,_⟩:=x;exact `dY
 | own y=>obtain⟨_,e⟩:=x;exact `dY
 | xd fs=>obtain⟨_,⟨_,_,_,e,_⟩,_⟩:=x;exact `dY
 | rng lo hi=>obtain⟨_,_,_,e⟩:=x;exact `dY
 | frz ob u=>obtain⟨e,_⟩:=x;exact `dY
 | tbl ps=>obtain⟨_,e,_⟩:=`apK;exact `dY
 | met f y=>exact A8 (show `hI=`a _ from x)
 | ext φ=>obtain⟨_,⟨_,e⟩,_⟩:=x;exact `dY
 | deep sub=>obtain⟨⟨_,e⟩,_⟩:=x;exact `dY
theorem Paired.mapP{F G:`j3}:∀{l₁:`aH} {l₂:`kZ},`bB F l₁ l₂->(`V8)->`bB G l₁ l₂:=by
 intro l₁ l₂ p f
 induction p with
 | nil=>exact `O
 | cons r t ih=>exact `ah (f _ _ r) ih
theorem SubOk.stay{b:`e}(x:`C1 P w H h a b so)(hb:`PJ)(k:`apL)
  (ho:`apM):`C1 P w H' h' a b so:=by
 cases so with
 | lst xs=>obtain⟨z,its,n,r,e⟩:=x;exact⟨z,its,n,r,`apN⟩
 | dK kvs=>obtain⟨z,y,vs,r,ob,es,ep,e,c⟩:=x;exact⟨z,y,vs,r,ob,es,ep,`apN,c⟩
 | ins C dx fs =>
  obtain⟨rfl,d,z,ne,e,mA,⟨od,es,ep,e2,c⟩,r⟩:=x;exact⟨rfl,ho _ d,z,ne,`gQ,mA,`apO,r⟩
theorem ObjOk.stay(x:`V7)(k:`apL)
  (ho:`apM) (ht:`IG) (hf:∀b ob u,H b=`V9->`hJ=`V9):`ct P w H' h' a o:=by
 induction o with
 | lst xs=>obtain⟨z,its,n,r,e⟩:=x;exact⟨z,its,n,r,`gQ⟩
 | tup xs=>obtain⟨z,its,r,ob,e,c⟩:=x;exact⟨z,its,r,ob,`gQ,c⟩
 | dK kvs=>obtain⟨z,y,vs,r,ob,es,ep,e,c⟩:=x;exact⟨z,y,vs,r,ob,es,ep,`gQ,c⟩
 | dT kvs =>
  obtain⟨z,y,xs,r,ob,es,ep,e,c⟩:=x;exact⟨z,y,xs,`apP r λp q z=>`apQ,ob,es,ep,`gQ,c⟩
 | dX kvs=>exact `fv x
 | set S n=>obtain⟨ob,es,ep,t,e,c⟩:=x;exact⟨ob,es,ep,t,`gQ,c⟩
 | ins C dx fs =>
  obtain⟨d,z,ne,e,mA,⟨od,es,ep,e2,c⟩,r⟩:=x;exact⟨ho _ d,z,ne,`gQ,mA,`apO,r⟩
 | own y=>obtain⟨ob,e⟩:=x;exact⟨ob,`gQ⟩
 | xd fs=>obtain⟨mA,⟨od,es,ep,e,c⟩,r⟩:=x;exact⟨mA,⟨od,es,ep,`gQ,c⟩,r⟩
 | rng lo hi=>obtain⟨t,u,v,e⟩:=x;exact⟨t,u,v,`gQ⟩
 | frz ob u ih=>obtain⟨e,q⟩:=x;exact⟨`gQ,ih q⟩
 | tbl ps =>
  obtain⟨cont,e,t,c⟩:=`apK;exact⟨cont,`apR,t,λpos cv q=>let ⟨c',oc,vs,tq,z1,z2,z3⟩:=c pos cv q;⟨c',oc,vs,tq,z1,hf _ _ _ z2,z3⟩⟩
 | met f y =>
  have e:`hI=`apS:=x;show `fl a=`apS;exact `apR
 | ext φ=>obtain⟨p,⟨o,e⟩,st⟩:=x;exact⟨st _ _ p λo q=>k _ _ `fm q,`apT,st⟩
 | deep sub=>obtain⟨⟨o,e⟩,q⟩:=x;exact⟨`apT,λp hp=>⟨(q p hp).1.imp id (ho _),(q p hp).2.stay (q p hp).1 k ho⟩⟩
theorem HOk.lt(x:`e7)(e:`w5):a<`f6:=(x a o e).lt
theorem HOk.fresh(x:`e7)(e:`V'):`Fq:=by
 cases q:H a with
 | none=>rfl
 | some u=>exact `I (B6 (x.lt q) e) `lE
theorem HOk.kept(x:`e7)(k:`IH):HOk P w H h':=λa o e =>
 (x a o e).stay (λb u _ q=>`C3) `PV (`wl) `rx
theorem HOk.laid(x:`e7)(k:`IH)(hp:`V')(new:`ct P w `js h' a o):HOk P w `js h':=λb u e=>by
 have hn:=x.fresh hp
 by_cases hb:b=a
 ·subst hb;rw[j9] at e;cases e;exact new
 ·rw[d9 hb] at e
  exact`V! `ako (λc q=>`zv) (λc xs q=>`zv) λc ob u' q=>`zv
universe zz
noncomputable def Rd(H:Hp)(a:`e)(u:HO):Prop:=H a=`bi∨∃o,H a=`PN
theorem Rd.ok{P:`ao}{w:`P}{h:`Q}{u:HO}(r:Rd H a u)(x:`e7):`apU:=by
 rcases r with r|⟨o,r⟩
 ·exact x a u r
 ·obtain⟨_,q⟩:=x a _ r
  exact q
noncomputable def Mut:`qf->Prop
 | `a (`bK)=>`iG
 | `a (.dK _)=>`iG
 | `a (.dT _)=>`iG
 | `a (.dX _)=>`iG
 | `a (.set _ _)=>`iG
 | `a (`gO _ _ _)=>`iG
 | `a (.ext _)=>`iG
 | `a (`my _)=>`iG
 | _=>`bR
section
variable{P:`ao}{w:`P}{h:`Q}{x e:`e}{o':HO}
theorem HOk.write(ok:`e7)(mu:`V?)(he:`Wa)(k:`apV)(heo:`Wb)
  (new:`ct P w (upd H x o') h' x o'):HOk P w (upd H x o') h':=λb u q=>by
 have J:∀c y,H c=`Wc->c≠x:=λc y r z=>`Wd
 have M:∀c xs,H c=`gP->c≠x:=λc xs r z=>`Wd
 have O:∀c ob u',H c=`We->c≠x:=λc ob u' r z=>`Wd
 by_cases hb:b=x
 ·subst hb;rw[j9] at q;cases q;exact new
 ·rw[d9 hb] at q
  by_cases hbe:b=e
  ·have q':H b=`a (`f5 x):=by
    rcases he with z|z
    ·exact `I (hbe.trans z) hb
    ·rw[hbe];exact z
   rw[q] at q';cases q';obtain⟨v,hv⟩:=heo;exact⟨v,by rw[hbe];exact hv⟩
  ·refine(ok b u q).stay (λc v hc r=>k c v ?_ r) (λc r=>by rw[d9 (J c b r)];exact r) (λc xs r=>by rw[d9 (M c xs r)];exact r) λc ob u' r=>by rw[d9 (O c ob u' r)];exact r
   rcases hc with rfl|hc
   ·exact hbe
   ·rintro rfl
    rcases he with z|z
    ·exact J c b hc z
    ·rw[hc] at z;cases z;exact hb rfl
universe zz
structure Un(fs ex:`aU)(H H':Hp)(h h':`Q):Prop where
 keep:∀b o,`hR->`c4->b∉fs->`zw->`rv
 slot:∀b o,`hR->`c4->b∈fs->`zw->`apW
 free:∀b o,`hR->`c4->`zw->`ru
 there:∀b o,`hR->`zw->`apX
 tups:`IG
 frzs:`Wf
 tbls:`apY
section
variable{fs fs' ex ex':`aU}{H1:Hp}{h h1 h2:`Q}{x e:`e}{o:HO}
theorem Un.any(u:Un fs ex H H1 h h1){b:`e}{ob:Obj}(q:`oo=`II)(n:`c4)(hx:`zw):∃sl,`V6 b=`a { ob with slots:=sl }:=by
 by_cases hb:b∈fs
 ·exact u.slot b ob q n hb hx
 ·exact⟨ob.slots,u.keep b ob q n hb hx⟩
theorem Un.kept(k:`IH):Un fs ex H H h h' :=
 ⟨λb ob q _ _ _=>`Wg,λb ob q _ _ _=>⟨ob.slots,`Wg⟩,λ_ _ _ n _=>n,λb ob q _=>⟨ob,`Wg⟩,`wl,`rx,λ_ ps q=>⟨#[],`QP⟩⟩
theorem Un.refl:Un fs ex H H h h:=`IJ `wl
theorem Un.laid(k:`IH)(hp:`V')(hn:`Fq):Un fs ex H `js h h' where
 keep:=`Wh
 slot:=`Wi
 free:=λb u q n _=>by rw[d9 (B0 (B6 `So hp))];exact n
 there:=`Wj
 tups:=λb xs q=>`zv
 frzs:=λb u xs q=>`zv
 tbls:=λb ps q=>⟨#[],by rw[`ag2,q];simp⟩
theorem Un.write(mu:`V?)(he:`Wa)(k:`apV)(heo:`Wb):Un fs ex H `Wk h h':=by
 have hx:∀b,`c4->b≠x:=λb n z=>by subst z;rw[n] at mu;exact mu
 have hb:∀b,`c4->b≠e:=λb n z=>by
  subst z;rcases he with r|r
  ·exact hx b n r
  ·rw[n] at r;cases r
 have hm:∀b u,`zu->¬Mut (`bi)->b≠x:=λb u q nm z=>by subst z;rw[q] at mu;exact nm mu
 refine⟨λb u q n _ _=>`apZ,λb u q n _ _=>⟨u.slots,`apZ⟩,λb u q n _=>by rw[d9 (hx b n)];exact n,λb u q _=>?_,
  λb xs q=>`ap_,λb u xs q=>`ap_,λb ps q=>⟨#[],by rw[`ag5,q];simp⟩⟩
 by_cases hbe:b=e
 ·subst hbe;exact heo
 ·exact⟨u,k b u hbe q⟩
universe zz
noncomputable def trk(h:`Q)(H:Hp):`aU:=(`bl `f6).filter λa=>(H a).isSome
noncomputable def og0(h:`Q)(H:Hp):`Q:=W.hideAll h (trk h H)
theorem Vm0(h:`Q)(H:Hp):(og0 h H).objs.size=`f6:=W.hideAll_size _ _
theorem Su0{h:`Q}{b:`e}{o:Obj}(e:`hR)(n:`c4):`ap0 :=
 W.hideAll_get _ e λhm=>by
  have q:(H b).isSome=`b:=(`zx hm).2;rw[n] at q;simp at q
theorem O10{h:`Q}{b:`e}{o:Obj}(e:`ap0):`hR/\`c4:=by
 have e':`hR:=W.of_hideAll (trk h H) e;refine⟨e',?_⟩;cases q:H b with
 | none=>rfl
 | some x =>
  have hm:b∈trk h H:=N9.mpr ⟨`fL (A8 e'),by simp[q]⟩;have z:`ag6=`c:=W.hideAll_none (trk h H) hm;rw[z] at e;cases e
universe L2
variable{v:L2.V}{xs dvs:`P0}{H H' H2 H₀:L2.Hp}{so:`wd}{σ:`apx}{ks:`aps}{kvs:`apy}{sub:`apD}{sos:`ad `wd}
namespace L2
open Spec PyProof.Rows
structure Mod(K:`y)(mg:`bx)(base:`Q):Prop where
 kin:`Wl
 glob:`zy
 blt:∃mb,base.Ns `Wm mb/\`ap1
 nolimit:base.NoLimit
structure Cx where
 prog:`ao
 w:`P
 K:`y
 mg:`bx
 base:`Q
 A:`cl
 N:`g
 s₀:`v
 H₀:Hp
 env:Env
 outer:`fT
 stack:`fT
 ex:`aU
 fn:Str->`aa
 calm:`aa
 pn:`aD
 xe:`aq
variable{X:L2.Cx}
noncomputable def frs(l:`fT):`aU:=`F6 (·.frame)
abbrev Cx.fs(X:Cx):`aU:=frs `t1
noncomputable def Vis(sc:`cG)(x:Str):Prop:=`ag7∨`PQ∨`wj x=`kW
noncomputable def Loc(sc:`cG)(x:Str):Prop:=`Wn
noncomputable def Look(env:Env)(h:`Q)(m:`bx)(x:Str)(u:`E):Prop :=
 (`DZ=`md/\m x=`bi)∨((`DZ=`i7∨`DZ=`kW)/\∃c,`DX x=`dX/\h.IsCell c (`bi))
structure Cx.Ok(X:Cx):Prop where
 mod:`ap2
 kind:`D5=`mj
 glob:`Wo=`ba
 blt:X.env.builtins=`Wm
 above:`os<=`fn
 inj:∀x y c,`i9->`ap3->x=y
 has:∀x,(`D6=`i7∨`D6=`kW)->∃c,`i9
 cab:∀x c,`PX->`i9->`os<=c
 hd:`bL->X.A.handled=`c
 frames:X.A.frames=`a `hM
 stk:`hM=`t1∨(`hM=`x::`t1/\X.env.frame=`a `fn)
 exf:∀b∈`or,`rt/\`ag9
 bs:∀b o,`zz->`Wp/\`ap4
 bsz:X.base.objs.size<=`os
 noex:∀b o,`zz->b∉`or
 exfs:∀b∈`or,`IK
 funs:`ap5 `dW `t1
 frf:∀b∈`hL,`ap4
structure Inv(X:Cx)(pins:`aD)(σ:`Wq)(H:Hp)(s:`v):Prop where
 ok:X.Ok
 os:s.os=X.s₀.os
 bare:`wn `t2
 base:Un `hL `or X.H₀ H X.s₀.heap `aE
 loc:∃m,`ap6/\∀(i:Nat) (x:Str) (v:V),`b4->`zA->`dS->∃u,`fo/\Look `x `aE m x u
 cell:∀x c,`i9->∃v,`ap7
 free:H `fn=`c
 freeC:∀x c,`i9->H c=`c
 pin:∀p∈`C6,`ap8
 hok:HOk `aZ X.w H `aE
 len:`ry=X.N.length
section
variable{s:`v}
theorem Cx.Ok.nofr(ok:X.Ok){b:`e}{o:Obj}(e:`zz):`IK:=λhb=>by
 have:=(ok.funs.mem hb).1;rw[e] at this;cases `A
theorem Inv.bs(I:`B):∀b o,`zz->`ap9:=λb o e =>
 ⟨`PT b o (`IL).1 (`IL).2 (I.ok.nofr e) `ap',`C7 b o (`IL).1 (`IL).2 `ap'⟩
theorem Inv.bk(I:`B):∀b o,`zz->`gR:=λb o e=>(I.bs b o e).1
theorem Inv.mod(I:`B):`ap2:=I.ok.mod
theorem Inv.kIn(I:`B):X.K.In `aE:=I.ok.mod.kin.keeps I.bk
theorem Inv.lt(I:`B):`fn<`M:=let ⟨_,hn,_⟩:=`gS;hn.lt
theorem Inv.sz(I:`B):`os<=`M:=B9 `C! (E9 I.lt)
theorem Inv.nofs(I:`B)(h:`zB):a∉`hL:=λhb=>by
 obtain⟨_,o,ho,_⟩:=`ap!;exact `I (B6 (A8 ho) (B9 I.sz h)) `lE
theorem Inv.cne(I:`B):∀x c,`i9->c≠`fn:=λx c e z=>by
 obtain⟨v,o,ho,hd⟩:=`IM;obtain⟨m,⟨o',es,ep,M,J,_⟩,_⟩:=`gS;rw[z,M] at ho;cases ho;rw[J] at hd;cases hd
theorem Inv.funs(I:`B):`IN `dW `t1:=by
 have all:∀(l:`fT),(∀b∈frs l,b∈`hL)->`ap5 `dW l->`IN `dW l:=by
  intro l
  induction l with
  | nil=>intro _ _;trivial
  | cons env r ih =>
   intro hs hl;obtain⟨hk,⟨L,o,hf,hn,ho,hd⟩,hr⟩:=hl;have hL:L∈`hL:=hs L (by unfold frs;rw[`IO,hf];exact A6);obtain⟨sl,e⟩:=`PU L o ho (I.ok.frf L hL) hL λz=>I.ok.exfs L z hL
   exact⟨hk,⟨L,_,hf,hn,e,hd⟩,ih (λb hb=>hs b (by unfold frs;rw[`IO,hf];exact `IP)) hr⟩
 exact all `t1 (λ_ hb=>hb) I.ok.funs
theorem Inv.stack(I:`B):`IN `dW `hM:=by
 rcases I.ok.stk with e|⟨e,hf⟩
 ·rw[e];exact I.funs
 ·rw[e]
  obtain⟨m,hn,_⟩:=`gS;refine `ah (by rw[`lF];decide) hf hn ?_ I.funs;exact Heap.get?_none_of_le (B9 I.ok.bsz `C!)
theorem Inv.stkSub(I:`B):∀b∈`zC,b∈`fn::`hL:=λb hb=>by
 rcases I.ok.stk with e|⟨e,hf⟩
 ·rw[e] at hb;exact `IP
 ·rw[e] at hb
  unfold frs at hb;rw[`IO,hf] at hb;exact hb
theorem Inv.stkFree(I:`B):∀b∈`zC,`c4:=λb hb=>by
 rcases `bZ (I.stkSub b hb) with e|hb
 ·rw[e];exact `hq
 ·obtain⟨_,o,ho,_⟩:=`ap!
  exact `C7 b o ho (I.ok.frf b hb) λz=>I.ok.exfs b z hb
theorem Inv.step{g':`xx}{t':Nat}{d':Drawn}{ch:`aU}(I:`B)
  (hch:∀b∈ch,`Wr)
  (keep:∀b o,`rt->`IK->`zD->`gR->`c4->`rv)
  (slot:∀b o,`rt->b∈`hL->`zD->`gR->`c4->`apW) (free:∀b o,`zD->`gR->`ap?)
  (there:∀b o,`zD->`gR->`apX)
  (tups:`IG) (frzs:`Wf) (tbls:`apY)
  (ns:∀m,`ap6->h'.Ns `fn m) (hok:`Ws) (hg:`wn g') :
  `aqa:=by
 have U:∀b o,`Wp->`rt:=λb o e=>B0 (B6 `ov `C!)
 have O:∀b o,`Wp->b∉`or->`zD:=λb o e hx hb=>by
  rcases (hch b hb).1 with z|z
  ·exact hx z
  ·exact `I (B6 `ov z) `lE
 have M:∀x c,`i9->∀v,`ap7->h'.IsCell c v:=λx c e v hq1=>by
  obtain⟨o,ho,hd⟩:=hq1
  have J:c∉ch:=`aqb
  by_cases hc:c∈`hL
  ·obtain⟨sl,q⟩:=slot c o (I.cne x c e) hc J ho `IQ
   exact⟨_,q,hd⟩
  ·exact⟨o,keep c o (I.cne x c e) hc J ho `IQ,hd⟩
 refine⟨I.ok,`nD,hg,⟨`C',`C',λb o e n hx=>?_,`ahd,λb xs e=>tups b xs (`PY b xs e),λb o xs e=>frzs b o xs (`PZ b o xs e),λb ps e=>?_⟩,?_,`IR,?_,`IR,`fU,hok,`eN⟩
 ·exact keep b o (U b o e) hb `IS `Wt `IT
 ·obtain⟨sl,e1⟩:=`Wu
  obtain⟨Y,e2⟩:=slot b _ (U b o e) hb `IS e1 `IT;exact⟨Y,e2⟩
 ·obtain⟨o',e1⟩:=`IU
  exact free b o' `IS e1 `IT
 ·obtain⟨o',e1⟩:=`IU
  exact there b o' `IS e1
 ·obtain⟨m1,e1⟩:=`aqc
  obtain⟨m2,e2⟩:=tbls b _ e1;exact⟨m1++m2,by rw[e2,Array.append_assoc]⟩
 ·obtain⟨m,hn,hl⟩:=`gS
  refine⟨m,ns m hn,`aqd⟩;obtain⟨u,r,l⟩:=hl i x v e1 e2 e3;refine⟨u,r,?_⟩;rcases l with l|⟨k,c,e,z⟩
  ·exact `o l
  ·exact `n ⟨k,c,e,M x c e _ z⟩
 ·obtain⟨v,z⟩:=`IM
  exact⟨v,M x c e v z⟩
 ·obtain⟨m,⟨o,_,_,ho,_⟩,_⟩:=`gS
  exact free _ o (`aqe) ho `hq
 ·obtain⟨v,o,ho,hd⟩:=`IM
  exact free c o (`aqb) ho `IQ
 ·obtain⟨e,n,ne,nf,d⟩:=`zE
  have J:p.1∉ch:=λz=>(hch p.1 z).2.2.2 p hp rfl
  exact⟨keep p.1 p.2 ne nf J e n,free p.1 p.2 J e n,ne,nf,d⟩
theorem Inv.un(I:`B)(u:Un `hL [] H H' `aE h')(hok:`Ws):Inv X `i σ H' `ou:=by
 obtain⟨m,⟨o,es,ep,ho,r⟩,_⟩:=`IV;obtain⟨sl,hL⟩:=u.any ho `hq `aw;exact `IW (g':=`t2) (d':=`IX) (ch:=[]) `aqf (λb o _ hb _ e n=>u.keep b o e n hb `aw) (λb o _ hb _ e n=>u.slot b o e n hb `aw) (λb o _ e n=>u.free b o e n `aw) (λb o _ e=>u.there b o e `aw) u.tups u.frzs u.tbls (λm' hm=>by
  obtain⟨o',O,M,J,r'⟩:=hm;rw[ho] at J;cases J;exact`aqg) hok `iI
theorem Inv.call{g':`xx}{t':Nat}{d':Drawn}(I:`B)(u:Un (`zC) ch H H' `aE h')(hok:`Ws)(hg:`wn g')
  (hch:∀b∈ch,`Wr) :
  `aqa:=by
 obtain⟨m,⟨o,es,ep,ho,r⟩,_⟩:=`IV;obtain⟨sl,hL⟩:=u.any ho `hq `aqe
 exact `IW (ch:=ch) hch (λb o hL hb hc e n=>u.keep b o e n (λz=>(`bZ (I.stkSub b z)).elim hL hb) hc) (λb o _ _ hc e n=>u.any e n hc) (λb o hc e n=>u.free b o e n hc) (λb o hc e=>u.there b o e hc) u.tups u.frzs u.tbls (λm' hm=>by
  obtain⟨o',O,M,J,r'⟩:=hm;rw[ho] at J;cases J;exact`aqg) hok hg
theorem Inv.turned{t':Nat}(I:`B)(k:∀b o,b≠it->`Fd)(hn:H it=`c)(hL:it≠`fn)
  (h1:it∈`or∨`os<=it) (h2:∀x c,`i9->c≠it) (h3:∀p∈`C6,p.1≠it):`Wv:=by
 have J:∀b u,`zu->b≠it:=λb u e z=>by rw[z,hn] at e;cases e
 refine `IW (g':=`t2) (d':=`IX) (ch:=[it]) (`gD) (λb o _ _ hc e _=>`Ww) (λb o _ _ hc e _=>⟨o.slots,`Ww⟩) `aqh
  (λb o hc e=>⟨o,`Ww⟩) (`Wx) (λ_ _ _ e=>e) `aqi (λm hm=>?_) (`IY) `iI
 ·have e:b=it:=`j4
  subst e;exact⟨h1,hL,h2,h3⟩
 ·obtain⟨o,es,ep,ho,r⟩:=hm
  exact⟨o,es,ep,k _ o (B4 hL) ho,r⟩
 ·refine`aqj
  rcases hc with z|z
  ·rw[z];exact J b u e
  ·exact J c _ z
theorem Inv.tok(I:`B)(t:Nat):Inv X `i σ H { s with toks:=t }:=`j5 (h':=`aE) (t':=t) Un.refl `bY
theorem Inv.kept(I:`B)(k:`IZ):`Wv:=`j5 (`IJ k) (I.hok.kept k)
theorem Inv.laid{o:HO}{t':Nat}(I:`B)(k:`IZ)(hp:`zB)(new:`ct `aZ X.w `js h' a o) :
  Inv X `i σ `js `ou:=`j5 (Un.laid k hp (`rK hp)) (I.hok.laid k hp new)
theorem Inv.write{x e:`e}{o:HO}{t':Nat}(I:`B)(mu:`V?)(he:`Wa)(k:∀b u,b≠e->`ahb)(heo:`Wb)
  (new:`ct `aZ X.w `Wk h' x o):Inv X `i σ `Wk `ou:=`j5 (Un.write mu he k heo) (I.hok.write mu he k heo new)
theorem Inv.weak{σ':`Wq}(I:`B)(hl:`Wy)(w:∀(i:Nat) v,σ'[i]?=`oq->`zA):Inv X `i σ' H s :=
 ⟨I.ok,`nD,`iI,`I_,let ⟨m,hn,hl'⟩:=`gS;⟨m,hn,λi x v e1 e2 e3=>hl' i x v e1 (w i v e2) e3⟩,`kF,`hq,`me,`ot,`bY,hl.trans `eN⟩
theorem Inv.pins_of{pins':`aD}(I:`B)(h:∀p∈pins',`ap8):Inv X pins' σ H s :=
 ⟨I.ok,`nD,`iI,`I_,`gS,`kF,`hq,`me,λp hp=>`aqk (λz=>`ot p `akX) (h p),`bY,`eN⟩
theorem a90(hN:`I0)(a:N[i]?=`dE)(b:N[j]?=`dE):i=j:=by
 obtain⟨h1,e1⟩:=`cL a;obtain⟨h2,e2⟩:=`cL b;exact(x8 hN).mp (e1.trans e2.symm)
theorem eq0{M:`zF}{A:`cl}{E:`aq}{Q:`qh}(I:`B)(hN:`e8)(hi:`b4)(hx:`qi)(r:`fo)
  (h:∀s',`aql->(∃a,`rz a `aE `oF/\(a=`fn∨`PR x=`jj))->`I1) (hf:`qj:=by first|exact `bQ|exact `b'|assumption):`aqm:=by
 obtain⟨m,hn,hl⟩:=`IV;have a2:(`D5==.class||(`D5==.module&&`fn != `Wo))=`q:=by rw[`lF];rfl
 have hiσ:i<`ry:=by rw[`eN];exact`I2
 have cne:=I.cne;have J:∀{a:`e} {h':`Q},(∃o,`SD/\`Fq)->`aqn->HOk `aZ X.w H h':=λ{a h'} ha hs b ob e=>by
  obtain⟨_,_,O⟩:=ha;refine(`bY b ob e).stay (λc w' hc q=>(`kG c ?_).trans q) `PV (`wl) `rx
  rintro rfl;rcases hc with rfl|hc
  ·rw[O] at e;cases e
  ·rw[O] at hc;cases hc
 rcases hx with hk|hk
 ·refine wpAny_storeName_local hk hn (λh' a3 hs=>?_) a2
  obtain⟨oL,_,_,a4,_⟩:=id hn;refine h _ ⟨I.ok,`nD,`iI,`aqo,⟨_,a3,`aqp⟩,λy c e=>?_,`hq,`me,`fU,J ⟨oL,a4,`hq⟩ hs,`aqq⟩ ⟨_,hs,`bQ⟩
  ·exact`Wz `Wt
  ·obtain⟨sl,e1⟩:=`Wu
   exact⟨sl,`Wz e1⟩
  ·obtain⟨o',e1⟩:=`IU
   exact⟨o',`Wz e1⟩
  ·by_cases hj:j=i
   ·subst hj
    rw[hi] at e1;cases e1;rw[`aqr] at e2;cases e2;exact⟨u,r,`o ⟨hk,`aW⟩⟩
   ·rw[`WA] at e2
    obtain⟨u',r',q⟩:=`aqs;refine`aqt;rcases q with⟨k,e⟩|⟨k,c,e,z⟩
    ·refine `o ⟨k,?_⟩
     have:y≠x:=λe=>hj (a90 hN e1 (e▸hi))
     simp[`A,e]
    ·exact `n ⟨k,c,e,`aqu⟩
  ·obtain⟨w',z⟩:=`kF y c e
   exact⟨w',`aqu⟩
  ·obtain⟨e,n,ne,nf,d⟩:=`zE
   exact⟨(`kG p.1 ne).trans e,n,ne,nf,d⟩
 ·have U:`PX:=by
   rcases hf with z|z
   ·exact z
   ·rw[z] at hk;cases hk
  obtain⟨c,hc⟩:=`WB x (`o hk);obtain⟨w',z⟩:=`kF x c hc;refine wpAny_storeName_cell `lF hk hc z (λh' Y hs=>?_);obtain⟨oc,Z,a1⟩:=id z;refine h `gV ⟨I.ok,`nD,`iI,`aqo,⟨m,`aqv hs (B4 (cne x c hc)),`aqp⟩,λy c' e=>?_,`hq,`me,`fU,J ⟨oc,Z,`me x c hc⟩ hs,`aqq⟩ ⟨c,hs,`n hc⟩
  ·exact`WC `Wt
  ·obtain⟨sl,e1⟩:=`Wu
   exact⟨sl,`WC e1⟩
  ·obtain⟨o',e1⟩:=`IU
   exact⟨o',`WC e1⟩
  ·by_cases hj:j=i
   ·subst hj
    rw[hi] at e1;cases e1;rw[`aqr] at e2;cases e2;exact⟨u,r,`n ⟨`o hk,c,hc,Y⟩⟩
   ·rw[`WA] at e2
    obtain⟨u',r',q⟩:=`aqs;refine`aqt;rcases q with q|⟨k,c',e,z'⟩
    ·exact `nE
    ·refine `n ⟨k,c',e,z'.sameBut hs ?_⟩
     rintro rfl;exact hj (a90 hN e1 (I.ok.inj _ _ _ e hc▸hi))
  ·by_cases hcc:c'=c
   ·subst hcc;exact⟨_,Y⟩
   ·obtain⟨w2,z2⟩:=`kF y c' e
    exact⟨w2,z2.sameBut hs hcc⟩
  ·obtain⟨e,n,ne,nf,d⟩:=`zE
   refine⟨(`kG p.1 ?_).trans e,n,ne,nf,d⟩;intro q;rw[q,Z] at e;have q':oc=p.2:=`lG;exact d w' (by rw[← q'];exact a1)
theorem a70{M:`zF}{A:`cl}{E:`aq}{Q:`qh}(I:`B)(hN:`e8)(hi:`b4)(hx:`qi)(r:`fo)
  (h:∀s',`aql->`I1) (hf:`qj:=by first|exact `bQ|exact `b'|assumption):`aqm :=
 eq0 I hN hi hx r (λs' I' _=>h s' I') hf
theorem Inv.call'(I:`B)(ho:`aqw)(u:Un (`zC) ch H H' `aE `oF)(hok:HOk `aZ X.w H' `oF)(hg:`QM)
  (hch:∀b∈ch,`Wr):`lH:=by
 obtain⟨h',g',d',t',o'⟩:=s';have e:o'=s.os:=ho;subst e;exact I.call (g':=g') (t':=t') (d':=d') u hok hg hch
universe zz
abbrev XK:=`E->`dP->`hN
abbrev St:=`Wq
abbrev VK:=`WD
abbrev TE:=St->`Dl
variable{r:`aqx}
abbrev TT:=St->Hp->(`zG)->Prop
variable{ta tb te tv td ty:L2.TE}
abbrev TA:=St->Hp->(`D3)->Prop
structure Ends where
 nx:`i?
 rt:VK
 bk:`i?:=λ_ _=>`bR
 ct:`i?:=λ_ _=>`bR
abbrev TS:=`j6->`i?
noncomputable def EP(X:Cx)(pins:`aD)(σ:St)(Q:VK)(u:`E)(s':`v):Prop:=∃v H',`lH/\`aqy
noncomputable def TP(X:Cx)(pins:`aD)(σ:St)(Q:`zG)(b:`aa)(s':`v):Prop:=∃H',`lH/\Q b H'
noncomputable def AP(X:Cx)(pins:`aD)(σ:St)(Q:`D3)(us:`ac)(s':`v):Prop:=∃vs H',`lH/\`t3/\`WE
noncomputable def SP(X:Cx)(pins:`aD)(D:`j6)(f:Flow)(s':`v):Prop :=
 match f with
 | .next=>∃σ' H',`oy/\`akT
 | .brk=>∃σ' H',`oy/\D.bk σ' H'
 | .cont=>∃σ' H',`oy/\D.ct σ' H'
 | `fj u=>∃v σ' H',`oy/\`fo/\D.rt v H'
noncomputable def PE(X:Cx)(e:`H)(t:TE):Prop :=
 ∀(pins:`aD) (s:`v) (σ:St) (H:Hp) (Q:VK),`B->`mA->`r `an X.A `Dt `eT `aG s
noncomputable def PT(X:Cx)(e:`H)(t:TT):Prop :=
 ∀(pins:`aD) (s:`v) (σ:St) (H:Hp) (Q:`zG),`B->`mA->`r `an X.A (`C? e `x `Dt) `WF `aG s
noncomputable def PW(X:Cx)(e:`H)(t:TT):Prop :=
 ∀(whole:Sem `E) (pins:`aD) (s:`v) (σ:St) (H:Hp) (Q:`zG),`B->`mA->`r `an X.A (`ahh) `WF `aG s
theorem PW.pt{t:TT}(h:PW X e t):PT X e t:=h _
noncomputable def PA(X:Cx)(es:`bI)(t:TA):Prop :=
 ∀(pos:Pos) (pins:`aD) (s:`v) (σ:St) (H:Hp) (Q:`D3),`B->`mA->`r `an X.A (`zH (`Qp)) (AP X `i σ Q) `aG s
noncomputable def PS(X:Cx)(st:`bw)(t:TS):Prop :=
 ∀(pins:`aD) (s:`v) (σ:St) (H:Hp) (D:`j6),`B->t D σ H->`r `an X.A (exec st `x) (SP X `i D) `aG s
noncomputable def PSs(X:Cx)(st:`e6)(t:TS):Prop :=
 ∀(pins:`aD) (s:`v) (σ:St) (H:Hp) (D:`j6),`B->t D σ H->`r `an X.A (execs st `x) (SP X `i D) `aG s
theorem thn{t:Sem α}{Q Q':α->`eL}{M:`zF}{s:`v}(h:`r M A t Q E s)(hQ:∀a s,Q a s->Q' a s):`r M A t Q' E s:=D4 h hQ `I3
section
noncomputable def Ih0(i:Nat):TE:=fun σ H Q=>∃v,`zA/\Q v H
noncomputable def tC(v:V):TE:=λ_ H Q=>Q v H
theorem K7(hN:`b4)(hv:`dS)(hd:`aJ:=by decide)(hcd:`dT:=by decide):PE X `kI (Ih0 i):=by
 intro pins s σ H Q I h;obtain⟨v,e,h⟩:=h;obtain⟨m,hn,hl⟩:=`gS;obtain⟨u,r,l⟩:=hl i x v hN e hv;have fin:EP X `i σ Q u s:=`WG;rcases l with⟨hk,hm⟩|⟨hk,c,hc,J⟩
 ·exact `WH (wpAny_loadName_local `lF hk hn hm fin) hd
 ·rcases hk with hk|hk
  ·exact `WH (wpAny_loadName_cell `lF hk hc J fin) hd
  ·exact `WH (wpAny_loadName_free `lF hk hc J fin hcd) hd
theorem L30{i j pos}:PE X (`nF `ej j pos) (tC `ej):=λ_ _ _ H _ I h=>wpAny_Constant_int ⟨`a_,H,`fs,`ae,h⟩
theorem J90{b j pos}:PE X (`nF (`I4) j pos) (tC `Df):=λ_ _ _ H _ I h=>Constant_bool ⟨`dm,H,I,rfl,h⟩
theorem Mw0{j pos}:PE X (`nF `ay j pos) (tC `u):=λ_ _ _ H _ I h=>Constant_none ⟨`u,H,I,rfl,h⟩
theorem Lp0{x j pos}:PE X (`nF `lI j pos) (tC `lI):=λ_ _ _ H _ I h=>Calls.Constant_str ⟨`bH,H,`fs,`ae,h⟩
noncomputable def Gl(X:Cx)(x:Str):Prop:=`D6=`a .globalImplicit
theorem fm0{E:`aq}{s:`v}{σ:St}{pos:Pos}(I:`B)(hg:`cI)(hm:`mf=`bi)(h:Q u s)
  (hd:`aJ:=by decide):`aqz :=
 B30 `lF hg (Calls.loadGlobal_global `aqA hm h) hd
theorem v50{E:`aq}{s:`v}{σ:St}{pos:Pos}(I:`B)(hg:`cI)(hm:`nG)(hv:`rp=`bi)(h:Q u s)
  (hn:`kE := by decide) (hd:`aJ:=by decide):`aqz:=by
 obtain⟨mb,h1,h2⟩:=I.mod.blt;exact B30 `lF hg (Calls.loadGlobal_builtin `aqA hm (by rw[I.ok.blt];exact h1.keeps I.bk) ((h2 x hn).trans hv) h) hd
theorem lo0(hg:`cI)(hm:`mf=`bi)(r:`fo)(hd:`aJ:=by decide):`aqB :=
 λ_ _ _ H _ I h=>fm0 I hg hm `WG hd
theorem Nj0(hg:`cI)(hm:`nG)(hv:`rp=`bi)(r:`fo)(hn:`kE := by decide)(hd:`aJ:=by decide):`aqB :=
 λ_ _ _ H _ I h=>v50 I hg hm hv `WG hn hd
variable{a:`H}
noncomputable def PC(X:Cx)(op:`iJ)(a b:`H)(t:TE):Prop :=
 ∀(pins:`aD) (s:`v) (σ:St) (H:Hp) (Q:VK),`B->`mA ->
  `r `an X.A (`Qd) (λv s₁=>`r `an X.A (`Qf) (λu s₂=>`r `an X.A (`d0 op v u) `eT `aG s₂) `aG `eq) `aG s
noncomputable def tB(t:TE):TT:=fun σ H Q=>t σ H λx H1=>∃c,`I5/\Q c H1
theorem Lb0{op:`iJ}{t:TE}(h:`aqC)(h1:`nH:=by first|exact `aqD|rfl):PE X `qk t:=λpins s σ H Q I hw=>`aqE `aqF h1
theorem L80{op:`iJ}{t:TE}(h:`aqC)(h1:`nH:=by first|exact `aqD|rfl):PT X `qk (tB t):=by
 intro pins s σ H Q I hw;refine `aqG (thn `WI λv s1 h1=>thn h1 λu s2 h2=>thn h2 λc s3 hq2=>?_) h1;obtain⟨x,H1,I1,r1,q1⟩:=hq2;obtain⟨d,rfl,q⟩:=q1;cases r1;exact `aqH
theorem Uc0{t:TE}(h:PE X e t)(he:`WJ:=by intro _;rfl):PT X e (tB t):=by
 intro pins s σ H Q I hw;refine isTrue_plain (thn `WI λv s1 hq3=>?_) (he _);obtain⟨x,H1,I1,r1,q1⟩:=hq3;obtain⟨d,rfl,q⟩:=q1;cases r1;exact `aqH
variable{tA tB':TT}{rest:`bI}
noncomputable def I60(t u:TT):TT:=fun σ H Q=>t σ H λc H1=>if `I6 then u σ H1 Q else Q `q H1
noncomputable def tOr(t u:TT):TT:=fun σ H Q=>t σ H λc H1=>if `I6 then Q `b H1 else u σ H1 Q
noncomputable def In0(t:TT):TT:=fun σ H Q=>t σ H `aqI
theorem Ya0(ha:`zI):PW X `WK tA:=by
 intro wh pins s σ H Q I h;refine `aqJ `aqK;cases c with
 | true=>exact isTrue_and_nil e
 | false=>exact e
theorem Ve0(ha:`zI):PW X `WL tA:=by
 intro wh pins s σ H Q I h;refine isTrue_or `aqK;cases c with
 | false=>exact isTrue_or_nil e
 | true=>exact e
theorem T20(ha:`zI)(hb:PW X `zJ tB'):PW X `zK (I60 tA tB'):=by
 intro wh pins s σ H Q I h;refine `aqJ (thn `iK λc s1 hq4=>?_);obtain⟨H1,I1,q1⟩:=hq4;cases c with
 | true=>exact `aqL
 | false=>exact`aqM
theorem Qz0(ha:`zI)(hb:PW X `zL tB'):PW X `zM (tOr tA tB'):=by
 intro wh pins s σ H Q I h;refine isTrue_or (thn `iK λc s1 hq5=>?_);obtain⟨H1,I1,q1⟩:=hq5;cases c with
 | true=>exact`aqM
 | false=>exact `aqL
theorem Ug0(ha:`zI):PT X `zN (In0 tA):=by
 intro pins s σ H Q I h;exact isTrue_not (ha `i s σ H (`aqI) I h)
noncomputable def Jq0(ta tb:TE):TE:=fun σ H Q=>ta σ H λx H1=>∃c,`I5/\if `I6 then `aqN else Q `r1 H1
noncomputable def Il0(ta tb:TE):TE:=fun σ H Q=>ta σ H λx H1=>∃c,`I5/\if `I6 then Q (`dr) H1 else `aqN
noncomputable def Jk0(ta:TE):TE:=fun σ H Q=>ta σ H λx H1=>∃c,`I5/\Q (.bl (!c)) H1
theorem Lw0{op}{t:TE}(h:PE X a t):PE X `aqO t:=λpins s σ H Q I hw=>BoolOp_one `aqF
theorem M40(ha:`j7)(hb:PE X `zJ tb):PE X `zK (Jq0 ta tb):=by
 intro pins s σ H Q I h;refine BoolOp_and (thn `iK λv s1 hq6=>?_);obtain⟨x,H1,I1,r1,q1⟩:=hq6;obtain⟨c,rfl,q1⟩:=q1;cases r1;refine O0 ?_;cases c with
 | true=>exact `aqP
 | false=>exact⟨`Dc,H1,I1,rfl,q1⟩
theorem Kh0(ha:`j7)(hb:PE X `zL tb):PE X `zM (Il0 ta tb):=by
 intro pins s σ H Q I h;refine BoolOp_or (thn `iK λv s1 hq7=>?_);obtain⟨x,H1,I1,r1,q1⟩:=hq7;obtain⟨c,rfl,q1⟩:=q1;cases r1;refine O0 ?_;cases c with
 | false=>exact `aqP
 | true=>exact⟨`dr,H1,I1,rfl,q1⟩
theorem M90(ha:`j7):PE X `zN (Jk0 ta):=by
 intro pins s σ H Q I h;refine UnaryOp_ (thn `iK λv s1 hq8=>?_);obtain⟨x,H1,I1,r1,q1⟩:=hq8;obtain⟨c,rfl,q1⟩:=q1;cases r1;exact not_of (O0 ⟨.bl (!c),H1,I1,rfl,q1⟩)
universe zz
noncomputable def SqL(K:`y)(H:Hp)(a:`e)(xs:`K):Prop :=
 `aiS ∨
  ∃(o:Obj) (its:`aI) (n:Nat),`I7/\`we=`dk/\`IC/\`aqQ
noncomputable def SqT(K:`y)(H:Hp)(a:`e)(xs:`K):Prop :=
 Rd H a `op ∨
  ∃(o:Obj) (its:`aI) (n:Nat),`I7/\`IB/\`aqQ
noncomputable def Ie0:`E->`dF
 | `ay=>`a `u
 | `I4=>`TJ
 | `d i _=>`Gw
 | `s x _=>`a `lI
 | .bytes b _=>`a (.byt b)
 | .float b _=>`a (.flt b)
 | `b8=>`o4
 | `bq n=>`a (.ty n)
 | _=>`c
theorem RelV.abs{x:V}(r:`gW):Ie0 u=`dE:=by
 cases x with
 | non=>cases r;rfl
 | bl _=>cases r;rfl
 | int _=>obtain⟨t,rfl⟩:=r;rfl
 | str _=>obtain⟨t,rfl⟩:=r;rfl
 | byt _=>obtain⟨t,rfl⟩:=r;rfl
 | flt _=>obtain⟨t,rfl⟩:=r;rfl
 | ref _=>cases r;rfl
 | ty _=>cases r;rfl
theorem RelV.inj{x y:V}(r:`gW)(q:`e9):x=y:=A3 (r.abs.symm.trans q.abs)
theorem Vals.inj:∀{xs ys:`K} {us:`ac},`da->`bt ys us->xs=ys:=by
 intro xs ys us h
 induction h generalizing ys with
 | nil=>intro h2;cases h2;rfl
 | cons r t ih=>intro h2;cases h2 with
  | cons r' t'=>rw[`WM,ih t']
section
variable{σ:St}{s:`v}{ys:`K}
theorem Inv.list(I:`B)(h:`aqR):∃its:`ac,`lD/\PlainL `aE a `a6/\`hp:=by
 rcases h with h|⟨o,its,n,hk,hc,hd,hs,hz,r⟩
 ·obtain⟨z,its,n,r,e⟩:=`aqS
  exact⟨its,r,⟨_,n,e,rfl,rfl,rfl⟩,z⟩
 ·refine⟨`De,r,⟨o,n,`aqT,hc,hd,`aqU⟩,?_⟩
  have e:=`b9;simp only[`I8] at e;omega
theorem Inv.tuple(I:`B)(h:`aqV):∃its:`ac,`lD/\`wF `aE a `a6/\`hp:=by
 rcases h with h|⟨o,its,n,hk,hc,hs,hz,r⟩
 ·obtain⟨z,its,r,p⟩:=`aqS
  exact⟨its,r,p.tup,z⟩
 ·refine⟨`De,r,⟨o,`aqT,hc,n,`aqU⟩,?_⟩
  have e:=`b9;simp only[`I8] at e;omega
theorem Inv.list_inj(I:`B)(h:`aqR)(h':SqL X.K H a ys):xs=ys:=by
 obtain⟨its,r,⟨o,n,e,_,_,d⟩,_⟩:=`ek h;obtain⟨J,r',⟨o',n',e',_,_,d'⟩,_⟩:=`ek h';rw[e] at e';cases e';rw[d] at d';injection d' with d1 _
 have:its=J:=`aqW
 subst this;exact `WM
theorem Inv.tuple_inj(I:`B)(h:`aqV)(h':SqT X.K H a ys):xs=ys:=by
 obtain⟨its,r,⟨o,e,_,n,d⟩,_⟩:=`gU h;obtain⟨J,r',⟨o',e',_,n',d'⟩,_⟩:=`gU h';rw[e] at e';cases e';rw[d] at d';injection d' with d1 _
 have:its=J:=`aqW
 subst this;exact `WM
universe zz
abbrev Cx.wish(X:Cx)(E:`aq):Cx:={ X with xe:=E }
abbrev Cx.nox(X:Cx):Cx:=X.wish `D0
theorem Cx.Ok.wish(ok:X.Ok)(E:`aq):`aqX :=
 `aqY
theorem Cx.Ok.unwish(ok:`aqX):X.Ok :=
 `aqY
section
variable{σ:St}{s:`v}
theorem Inv.wish(I:`B)(E:`aq):`aqZ:=⟨I.ok.wish E,`nD,`iI,`I_,`gS,`kF,`hq,`me,`ot,`bY,`eN⟩
theorem Inv.unwish(I:`aqZ):`B:=⟨I.ok.unwish,`nD,`iI,`I_,`gS,`kF,`hq,`me,`ot,`bY,`eN⟩
theorem SP.unwish{D:`j6}{f:Flow}(h:SP (X.wish E) `i D f s'):`aq_:=by
 cases f with
 | next=>obtain⟨σ',H',I,q⟩:=h;exact`WN
 | brk=>obtain⟨σ',H',I,q⟩:=h;exact`WN
 | cont=>obtain⟨σ',H',I,q⟩:=h;exact`WN
 | ret u=>obtain⟨v,σ',H',I,r,q⟩:=h;exact⟨v,σ',H',`ahl,r,q⟩
theorem PSs.nox{st:`e6}{t:TS}(h:PSs X.nox st t):PSs X st t:=λpins s σ H D I hw =>
 D4 (h `i s σ H D (I.wish _) hw) (λ_ _ q=>q.unwish) λ_ _ z=>`fv z
universe zz
section
variable{st:`bw}{t u:TS}
noncomputable def Jj0:TS:=λD σ H=>`Rn
noncomputable def It0(t u:TS):TS:=λD σ H=>t `aq0 σ H
theorem f70:PSs X [] Jj0:=λ_ _ σ H _ I h=>y0 `aq1
theorem zv0(h1:PS X st t)(h2:PSs X `a7 u):PSs X (st::`a7) (It0 t u):=by
 intro pins s σ H D I h;refine wpAny_execs_cons (thn (h1 `i s σ H `aq0 I h) λf s1 q=>?_);cases f with
 | next =>
  obtain⟨σ',H',I',q⟩:=q;exact h2 `i s1 σ' H' D I' q
 | ret v=>exact q
 | brk=>exact q
 | cont=>exact q
theorem Inv.quiet{σ:St}{s:`v}(I:`B):`aq2 `x=`q:=by simp[`aq2,`lF]
noncomputable def Ki0(te:TE):TS:=λD σ H=>te σ H λ_ H1=>`aq3
theorem gp0(he:`fV)(hs:`aq4:=by rfl):PS X (.Expr e pos) (Ki0 te):=by
 intro pins s σ H D I h;exact wpAny_Expr_any (thn `iL λv s1 ⟨x,H1,I1,r1,q1⟩=>⟨σ,H1,I1,q1⟩) I.quiet hs
noncomputable def If0(te:TE):TS:=λD σ H=>te σ H D.rt
theorem pj0(he:`fV):PS X `ql (If0 te):=by
 intro pins s σ H D I h;exact wpAny_Return_some (thn `iL λv s1 ⟨x,H1,I1,r1,q1⟩=>⟨x,σ,H1,I1,r1,q1⟩)
noncomputable def Ig0(c:TT)(t u:TS):TS:=λD σ H=>c σ H λb H1=>if b=`b then t D σ H1 else u D σ H1
theorem Xz0{a b:`e6}{tc:TT}(hc:PT X c tc)(ha:PSs X a t)(hb:PSs X b u):PS X (.If c a b pos) (Ig0 tc t u):=by
 intro pins s σ H D I h;refine wpAny_If (thn (hc `i s σ H _ I h) λd s1 hq9=>?_);obtain⟨H1,I1,q1⟩:=hq9;cases d with
 | true=>exact ha `i s1 σ H1 D I1 q1
 | false=>exact hb `i s1 σ H1 D I1 q1
noncomputable def L10:TS:=`lJ
theorem sb0{sts:`e6}:PSs X sts L10:=λ_ _ _ _ _ _ h=>`lK
universe zz
abbrev TG:=V->`aq5
abbrev TGs:=`K->`aq5
noncomputable def PG(X:Cx)(target:`H)(t:TG):Prop :=
 ∀(pins:`aD) (s:`v) (σ:St) (H:Hp) (v:V) (u:`E) (Q:`i?),`B->`fo->`aq6 ->
  `r `an X.A (`hQ `D1 `x u) `aq7 `aG s
noncomputable def PGs(X:Cx)(ts:`bI)(t:TGs):Prop :=
 ∀(pins:`aD) (s:`v) (σ:St) (H:Hp) (vs:`K) (us:`ac) (Q:`i?),`B->`t3->t vs σ H Q ->
  `r `an X.A (assignInOrder ((`mh ts `x).map `eO) us) `aq7 `aG s
abbrev Sp0:=`WO
noncomputable def Rw0(X:Cx)(t:Sp0):Prop :=
 ∀(pins:`aD) (s:`v) (σ:St) (H:Hp) (o i v:V) (ov iv u:`E) (Q:`hN),`B->`di o ov->`di i iv->`fo->t o i v H Q ->
  `r `an X.A (`Dh ov iv u) (λ_ s'=>∃H',`lH/\Q H') `aG s
noncomputable def Pb0(i:Nat):TG:=λv σ H Q=>Q `wm H
theorem lj0(hN:`e8)(hi:`b4)(hx:`qi)(hf:`qj:=by first|exact `bQ|exact `b'|assumption):PG X `kI (Pb0 i):=by
 intro pins s σ H v u Q I r h;exact `aq8 (a70 I hN hi hx r (λs' I'=>⟨_,H,I',h⟩) hf)
noncomputable def Ir0:TGs:=λvs σ H Q=>vs=[]/\Q σ H
noncomputable def J00(t:TG)(u:TGs):TGs:=λvs σ H Q=>∃v r,vs=v::r/\t v σ H fun σ' H'=>u r σ' H' Q
theorem Oh0:PGs X [] Ir0:=by
 intro pins s σ H vs us Q I r h;obtain⟨e,h⟩:=h;subst e;cases r;exact assignInOrder_nil `aq1
theorem ck0{t:TG}{u:TGs}(h1:PG X e t)(h2:PGs X es u)
  (hs:(`mh `gd `x).map `eO=`hQ e `x::(`WP).map `eO:=by rfl):PGs X `gd (J00 t u):=by
 intro pins s σ H vs us Q I r h;obtain⟨v,vr,e1,h⟩:=h;subst e1;cases r with
 | cons r rr =>
  rw[hs];refine assignInOrder_cons (thn (h1 `i s σ H _ _ _ I r h) λ_ s1 hq10=>?_);obtain⟨σ1,H1,I1,q1⟩:=hq10;exact h2 `i s1 σ1 H1 _ _ Q I1 rr q1
noncomputable def Jz0(K:`y)(n:Nat)(t:TGs):TG:=λv σ H Q=>∃a xs,`ji/\`kK/\`am=n/\t xs σ H Q
theorem L00{k:Nat}{t:TGs}{n:Nat}(hc:`bL)(h:PGs X es t)
  (hn:(`WP).length=n:=by rfl) (hst:(`WP).findIdx? `bz=`c:=by rfl):PG X (`k7 es k pos) (Jz0 X.K n t):=by
 intro pins s σ H v u Q I r hw;obtain⟨a,xs,e1,hq,hl,hw⟩:=hw;subst e1;cases r;obtain⟨its,rv,ht,hz⟩:=`hr;refine assign_Tuple_tuple `hs ht (by simp[hn,← hl,`mI]) hst λh' hx=>?_
 have I1:`I9:=I.kept (t':=`a8) λb o e=>hx b o `WQ e
 exact h `i _ σ H xs _ Q I1 (`aq9) hw
noncomputable def I80(to ti:TE)(t:Sp0):TG:=λv σ H Q=>to σ H λo H1=>ti σ H1 λi H2=>t o i v H2 λH3=>Q σ H3
theorem cz0{i:`H}{to ti:TE}{t:Sp0}(ho:`WR)(hi:PE X i ti)(hs:Rw0 X t)
  (ha:∀v,`hQ `WS `x v=(do
   let ov ← `ow [v] `mq
   let iv ← `ow [v,ov] (`bb i `x)
   `I'
   `I!
   `I?):=by intro _;rfl):PG X `WS (I80 to ti t):=by
 intro pins s σ H v u Q I r h;rw[ha];refine A0 (C6 (thn `zO λov s1 hq11=>?_));obtain⟨x,H1,I1,r1,q1⟩:=hq11;refine A0 (C6 (thn `aq' λiv s2 hq12=>?_));obtain⟨y,H2,I2,r2,q2⟩:=hq12;refine A0 (y4 (A0 (C6 (thn (hs `i s2 σ H2 x y v ov iv u _ I2 r1 r2 r q2) λ_ s3 hq13=>?_))));obtain⟨H3,I3,q3⟩:=hq13;exact wpAny_release ⟨σ,H3,I3,q3⟩
noncomputable def Ka0(te:TE)(g:TG):TS:=λD σ H=>te σ H λx H1=>g x σ H1 `i'
theorem b90{g:TG}(he:`fV)(hg:PG X tg g)(hs:`WT:=by rfl)(hw:`WU:=by rfl)
  (h1:`WV:=by rfl):PS X `WW (Ka0 te g):=by
 intro pins s σ H D I h;refine wpAny_Assign_stores (thn `iL λv s1 hq14=>?_) hs hw;obtain⟨x,H1,I1,r1,q1⟩:=hq14;rw[h1];exact thn (hg `i s1 σ H1 x v _ I1 r1 q1) λ_ s2 q=>q
theorem ah0(hN:`e8)(hi:`b4)(hx:`qi)(he:`fV)(hs:`hO e (`a (`aq!)) `i! `x=`gT:=by rfl)(hf:`qj:=by first|exact `bQ|exact `b'|assumption) :
  PS X (`ja [`aq!] e pos) (Ka0 te (Pb0 i)):=by
 intro pins s σ H D I h;refine wpAny_Assign_Name (thn `iL λv s1 hq15=>?_) hs;obtain⟨y,H1,I1,r1,q1⟩:=hq15;exact a70 I1 hN hi hx r1 (λs2 I2=>⟨_,H1,I2,q1⟩) hf
noncomputable def Ld0(c:TT)(tb:TS):TS:=λD σ H=>∃W:`aq?,(∃m,W m σ H)/\∀m σ H,W m σ H ->
 c σ H λb H1=>if b=`b then ∃N:`i?,(∀σ' H',N σ' H'->∃m',m'<m/\W m' σ' H')/\tb `ara σ H1 else `aq3
theorem Q20{tc:TT}{tb:TS}(hp:`zP)(hc:PT X c tc)(hb:`arb):PS X `arc (Ld0 tc tb):=by
 intro pins s σ H D I h;obtain⟨W,⟨m0,w0⟩,J⟩:=h;refine wpAny_While (codeAny_whileLoop (λn s'=>∃σ' H',`oy/\W n σ' H') ?_ m0 ⟨σ,H,I,w0⟩);rintro n s1 ⟨σ1,H1,I1,w1⟩;refine P1 hp (thn (hc `i s1 σ1 H1 _ I1 (J n σ1 H1 w1)) λb s2 hq16=>?_);obtain⟨H2,I2,q2⟩:=hq16;cases b with
 | true =>
  obtain⟨N,hN,q2⟩:=q2;rw[`bm];refine P1 hp (thn (hb `i s2 σ1 H2 _ I2 q2) λf s3 q3=>?_);cases f with
  | next =>
   obtain⟨σ3,H3,I3,n3⟩:=q3;obtain⟨m',hm,w3⟩:=`ard;exact`are
  | cont =>
   obtain⟨σ3,H3,I3,n3⟩:=q3;obtain⟨m',hm,w3⟩:=`ard;exact`are
  | brk=>exact q3
  | ret v=>exact q3
 | false =>
  rw[`nI];exact y0 ⟨σ1,H2,I2,q2⟩
structure It where
 go:`arf
 yld:Nat->Hp->`WD
 stop:`arf
noncomputable def q50(X:Cx)(pins:`aD)(H:Hp)(b:`e):Prop :=
 `c4/\`rt/\`IK/\`ag'/\`ag!
theorem Inv.fpOk{σ:St}{s:`v}{b:`e}(I:`B)(hb:`M<=b)(hn:`ru):`WX:=by
 refine⟨hn,C2 (B6 I.lt hb),I.nofs hb,`n (B9 I.sz hb),`arg,`arh⟩
 ·obtain⟨v,q⟩:=`IM
  exact `I (B6 q.lt `ari) `lE
 ·exact `I (B6 (A8 (`zE).1) `ari) `lE
structure Turn(P:`ao)(w:`P)(K:`y)(tg:`H)(J:It)(fp:`aU)(it:`e)(tn:`WY):Prop where
 mem:it∈fp
 obj:∀i h,tn i h->∀b∈fp,∃o,`hR/\`arj
 keep:∀i h h',tn i h->(∀b∈fp,∀o,`Ja)->tn i h'
 item:∀(X:Cx),`aZ=P->X.w=w->X.K=K->`bL->∀(i:Nat) (pins:`aD) (s:`v) (σ:St) (H:Hp) (E:`aq),`B->`ark->`WZ->`W_ ->
  `r `oP X.A (`ss `jb) (λr s1=>∃u,r=`bi /\
   `r `oP X.A `W0 (λ_ s2=>∃x H',`W1/\`gW/\`W2/\tn `dG s2.heap/\∀b∈fp,`ru) E s1) E s
 done:∀(X:Cx),`aZ=P->X.w=w->X.K=K->`bL->∀(i:Nat) (pins:`aD) (s:`v) (σ:St) (H:Hp) (E:`aq),`B->`ark->`WZ->`W3 ->
  `r `oP X.A (`ss `jb) (λr s1=>r=`c/\Inv X `i σ H s1) E s
 self:∀(A:`cl) (i:Nat) (s:`v) (Q:`aq) (E:`aq),`WZ->Q `jb s->`r `oP A (pyIter `jb) Q E s
abbrev TI:=St->Hp->(`Jb)->Prop
noncomputable def PIE(X:Cx)(pins:`aD)(σ:St)(tg:`H)(R:`Jb)(itv:`E)(s2:`v):Prop :=
 ∃(it:`e) (fp:`aU) (tn:`WY) (J:It) (H':Hp),itv=`P7/\`W1/\`arl/\`arm/\(∀b∈fp,`WX)/\R J H'
noncomputable def PI(X:Cx)(tg iter:`H)(wi:TI):Prop :=
 ∀(pins:`aD) (s:`v) (σ:St) (H:Hp) (R:`Jb),`B->wi σ H R ->
  `r `an X.A (`bb `je `x) (λv s1=>`r `an X.A (pyIter v) `arn `aG s1) `aG s
theorem ca0{M:`zF}{A:`cl}{E:`aq}{s:`v}{tg:`H}{u:`E}{o:Obj}{n:`cH}{vs:`aI}{Q:`qh}(ho:`c3 it=`aj)(hc:`we=`bq n)(hd:`rl=`ID)
  (hn:`aro=`q) (hQ:Q () s):`r M A `W0 Q E s:=by
 unfold letOwnedTupleGo;cases tg<;>first
  | exact A1 hQ
  | (cases u<;>first
    | exact A1 hQ
    | (refine A0 (`arp ho ?_)
       rw[hc,hd];show `r M A (if (`aro&&vs[0]?==`a (`sA _))=`b then _ else _) Q E s;rw[`ai (by intro h;rw[hn,Bool.false_and] at h;cases h)];exact A1 hQ))
noncomputable def Itl(K:`y)(a:`e):It :=
 ⟨`arq,λi H x H'=>H'=H/\`arr,`ars⟩
noncomputable def Itt(K:`y)(a:`e):It :=
 ⟨`art,λi H x H'=>H'=H/\`aru,`arv⟩
noncomputable def Itr(lo:Int)(n:Nat):It:=⟨λi _=>i<n,λi H x H'=>H'=H/\x=`W4,λi _=>n<=i⟩
theorem Vz0{P:`ao}{w:`P}(a it:`e):`oz P w K tg (Itl K a) [it] it (λi h=>`arw) where
 mem:=`aW
 obj:=λi h st b hb=>by
  have e:b=it:=`j4
  subst e;obtain⟨o,e,c,d⟩:=st;exact`W5
 keep:=`arx
 item:=by
  intro X hP hw hK hc i pins s σ H E I hf st hg;subst hP hw hK;obtain⟨xs,x,hq,hx⟩:=hg;obtain⟨its,rv,p,hz⟩:=`gE;obtain⟨u,hu,ru⟩:=`Jc;obtain⟨f0,f1,f2,f3,f4,f5⟩:=`nJ;refine wpAny_pyNext_list_item st `t4 (x:=u) `W6 `ary
  have I1:`I9:=`arz;obtain⟨o,e,c,d⟩:=id J;exact⟨u,rfl,ca0 (s:=`gV) e c d `p ⟨x,H,I1,ru,⟨rfl,`arA⟩,J,`Jd⟩⟩
 done:=by
  intro X hP hw hK hc i pins s σ H E I hf st hg;subst hP hw hK;obtain⟨xs,hq,hx⟩:=hg;obtain⟨its,rv,p,hz⟩:=`gE;obtain⟨f0,f1,f2,f3,f4,f5⟩:=`nJ;have hl:=`mI;exact wpAny_pyNext_list_end `hs st `t4 `j8 `zQ
 self:=λ_ _ _ _ _ st h=>wpAny_pyIter_listiter st h
theorem Xj0{P:`ao}{w:`P}(a it:`e):`oz P w K tg (Itt K a) [it] it (λi h=>`arB) where
 mem:=`aW
 obj:=λi h st b hb=>by
  have e:b=it:=`j4
  subst e;obtain⟨o,e,c,d⟩:=st;exact`W5
 keep:=`arx
 item:=by
  intro X hP hw hK hc i pins s σ H E I hf st hg;subst hP hw hK;obtain⟨xs,x,hq,hx⟩:=hg;obtain⟨its,rv,p,hz⟩:=`hr;obtain⟨u,hu,ru⟩:=`Jc;obtain⟨f0,f1,f2,f3,f4,f5⟩:=`nJ;refine wpAny_pyNext_tuple_item st `arC (x:=u) `W6 `ary
  have I1:`I9:=`arz;obtain⟨o,e,c,d⟩:=id J;exact⟨u,rfl,ca0 (s:=`gV) e c d `p ⟨x,H,I1,ru,⟨rfl,`arD⟩,J,`Jd⟩⟩
 done:=by
  intro X hP hw hK hc i pins s σ H E I hf st hg;subst hP hw hK;obtain⟨xs,hq,hx⟩:=hg;obtain⟨its,rv,p,hz⟩:=`hr;obtain⟨f0,f1,f2,f3,f4,f5⟩:=`nJ;have hl:=`mI;exact wpAny_pyNext_tuple_end `hs st `arC `j8 `zQ
 self:=λ_ _ _ _ _ st h=>wpAny_pyIter_tupleiter st h
theorem Wb0{P:`ao}{w:`P}(it:`e)(lo:Int)(n:Nat):`oz P w K tg (Itr lo n) [it] it (λi h=>`arE h it (lo+(i:Nat)*1) (`cw - (i:Nat)) 1) where
 mem:=`aW
 obj:=λi h st b hb=>by
  have e:b=it:=`j4
  subst e;exact⟨_,st,λv z=>by
   have z':`arF _=Data.cell v:=z;cases z'⟩
 keep:=λi h h' st k=>k it `aw _ st
 item:=by
  intro X hP hw hK hc i pins s σ H E I hf st hg;subst hP hw hK;obtain⟨f0,f1,f2,f3,f4,f5⟩:=`nJ;have W:=Walks.range (prog:=`aZ) (w:=X.w) `hs it lo 1 n;refine W.item i s _ _ hg st λv h' tk hv J kk=>?_
  obtain⟨t,rfl⟩:=hv;have I1:Inv X `i σ H `pj:=`Dj (λb o hb e=>kk b o (`j4) e) f0 f1 f3 f4 f5;refine⟨_,rfl,ca0 (s:=`pj) (n := "range_iterator") J rfl rfl `p ⟨`W4,H,I1,⟨t,?_⟩,`kQ,J,`Jd⟩⟩;rw[Int.mul_one]
 done:=by
  intro X hP hw hK hc i pins s σ H E I hf st hg;subst hP hw hK;obtain⟨f0,f1,f2,f3,f4,f5⟩:=`nJ;exact wpAny_pyNext_range_end `hs st (by have:n<=i:=hg;omega) `zQ
 self:=λ_ _ _ _ _ st h=>wpAny_pyIter_rangeiter st h
noncomputable def Kx0(K:`y)(tl:TE):TI:=fun σ H R=>tl σ H λx H1=>∃a,`cY/\`arG/\R (Itl K a) H1
noncomputable def I70(K:`y)(tl:TE):TI:=fun σ H R=>tl σ H λx H1=>∃a,`cY/\`arH/\R (Itt K a) H1
theorem Y50{l:`H}{tl:TE}(hl:PE X l tl):PI X tg l (Kx0 X.K tl):=by
 intro pins s σ H R I h;refine thn `arI λv s1 hq17=>?_;obtain⟨x,H1,I1,r1,q1⟩:=hq17
 obtain⟨a,e,⟨xs,hq⟩,q⟩:=q1;subst e;cases r1;obtain⟨its,rv,p,hz⟩:=I1.list hq;refine wpAny_pyIter_list `t4 ?_;refine⟨`f?,`zR,_,_,H1,rfl,`Je,Vz0 a _,`Jf,`gD,q⟩;have e:b=`f?:=`j4
 subst e;exact `t5
theorem Kc0{l:`H}{tl:TE}(hl:PE X l tl):PI X tg l (I70 X.K tl):=by
 intro pins s σ H R I h;refine thn `arI λv s1 hq18=>?_;obtain⟨x,H1,I1,r1,q1⟩:=hq18
 obtain⟨a,e,⟨xs,hq⟩,q⟩:=q1;subst e;cases r1;obtain⟨its,rv,p,hz⟩:=I1.tuple hq;refine k8 (show s1.heap.IsTuple a `a6 from p) ?_;refine⟨`f?,`zR,_,_,H1,rfl,`Je,Xj0 a _,`Jf,`gD,q⟩;have e:b=`f?:=`j4
 subst e;exact `t5
theorem bv0{σ:St}{s:`v}{R:`Jb}{E:`aq}{lo hi:Int}{t u v:Tok}{tk:Nat}(I:`B)(h1:`oE<=lo)(h2:lo<`ga)(h3:`oE<=hi)(h4:hi<`ga)
  (q:R (Itr lo `rE) H):`r `an X.A (pyIter `h9) `arn E `arJ:=by
 refine wpAny_pyIter_range (IsRange.new ..) (small_one h1 h2 h3 h4) ?_;have I1:Inv X `i σ H `arJ:=I.kept `rD
 refine⟨`W7,[`W7],_,_,H,rfl,
  `P? (t':=tk) `rD,Wb0 _ lo `rE,?_,`gD,q⟩
 ·have e1:lo+`rF*1=lo:=`aW
  have e2:`arK=Builtin.Range.rangeSize lo hi 1:=by rw[rangeSize_one];split<;>omega
  show `arE _ _ (lo+`rF*1) (`arK) 1;rw[e1,e2];exact `eM
 ·have e:b=`W7:=`j4
  subst e;exact `t5
noncomputable def Jm0(ta:TA):TI:=fun σ H R=>ta σ H λvs H1=>∃j:Int,vs=[`fr]/\`oE<=j/\j<`ga/\R (Itr 0 `hS) H1
noncomputable def Kl0(ta:TA):TI:=fun σ H R=>ta σ H λvs H1=>∃i j:Int,vs=`W8/\(`oE<=i/\i<`ga/\`Jg)/\R (Itr i (j - i).toNat) H1
theorem Tr0{a:`H}{ta:TA}{p:Pos}(hg:`Jh)(hm:`Ji)(ha:`W9)(hs:`t6:=by rfl):PI X tg `arL (Jm0 ta):=by
 intro pins s σ H R I h;refine Call_ (v50 I hg hm `arM (G0 (thn `rN λus s1 hq19=>?_) hs rfl));obtain⟨vs,H1,I1,r1,q1⟩:=hq19;obtain⟨j,e,q1,q2,q⟩:=q1;subst e;cases r1 with
 | cons r rr =>
  cases rr;obtain⟨t,rfl⟩:=r;exact call_range_1 (bv0 I1 `h `h q1 q2 (`W'))
theorem Uj0{a:`H}{ta:TA}{p pos:Pos}(hg:`Jh)(hm:`Ji)(ha:PA X `kL ta)(hs:`arN:=by rfl)(hs2:`arO:=by rfl) :
  PI X tg `arP (Kl0 ta):=by
 intro pins s σ H R I h;refine Call_ (v50 I hg hm `arM (G0 (thn `rN λus s1 hq20=>?_) (by rw[hs,hs2]) (by rw[hs2];rfl)));obtain⟨vs,H1,I1,r1,q1⟩:=hq20;obtain⟨i,j,e,⟨q1,q2,q3,q4⟩,q⟩:=q1;subst e;cases r1 with
 | cons r rr =>
  cases rr with
  | cons r' rr =>
   cases rr;obtain⟨t,rfl⟩:=r;obtain⟨t',rfl⟩:=r';exact call_range_2 (bv0 I1 q1 q2 q3 q4 q)
noncomputable def Id0(wi:TI)(g:TG)(tb:TS):TS:=λD σ H=>wi σ H λJ H1=>∃W:Nat->`aq?,(∃m,W 0 m σ H1)/\∀i m σ H,W i m σ H ->
 (`W3/\`Rn)∨(`W_/\∃N:`i?,(∀σ' H',N σ' H'->∃m',m'<m/\W `dG m' σ' H')/\∀x H',`W2->g x σ H' fun σ2 H2=>tb `ara σ2 H2)
noncomputable def mh0(fp:`aU)(h:`Q):`aD:=fp.filterMap λb=>(`oo).map λo=>`wq
theorem su0{h:`Q}{b:`e}{o:Obj}(hb:b∈fp)(e:`hR):`wq∈mh0 fp h:=k9.mpr ⟨b,hb,`H7⟩
theorem Vu0{h:`Q}{p:`agL}(hp:p∈mh0 fp h):p.1∈fp/\`hH p.1=`rs:=by
 obtain⟨b,hb,e⟩:=k9.mp hp;cases q:`oo with
 | none=>rw[q] at e;cases e
 | some o =>
  rw[q] at e;have e':`wq=p:=`lG;subst e';exact⟨hb,q⟩
theorem Inv.pinned{σ:St}{s:`v}(I:`B)(hf:∀b∈fp,`Di)(ho:∀b∈fp,∃o,`gR/\`arj):Inv X (`i++mh0 fp `aE) σ H s :=
 I.pins_of λp hp=>`aqk (λz=>`ot p (D5 _ z)) λz=>by
  obtain⟨hb,e⟩:=Vu0 z;obtain⟨f0,f1,f2,_⟩:=hf p.1 hb;obtain⟨o,e',d⟩:=ho p.1 hb;rw[e] at e';cases e';exact⟨e,f0,f1,f2,d⟩
theorem Inv.unpinned{pl:`aD}{σ:St}{s:`v}(I:Inv X (`i++pl) σ H s):`B:=I.pins_of λp hp=>`ot p (D5 _ (D3 _ hp))
theorem T10{wi:TI}{g:TG}{tb:TS}{pos:Pos}(hp:`zP)(hc:`bL)(hi:`W!)(hg:PG X tg g)(hb:`arb)
  (hs:`eC:=by intro _;rfl):PS X `W? (Id0 wi g tb):=by
 intro pins s σ H D I h;refine wpAny_For (thn `zS λv s1 h1=>thn h1 λa4 s2 h2=>?_) hs;obtain⟨it,fp,tn,J,H2,e,I2,T,a2,f2,W,⟨m0,w0⟩,Z⟩:=h2;subst e;have M:∀{H':Hp},`t7->∀b∈fp,`WX:=λhn b hb=>⟨hn b hb,(`kX).2⟩
 refine codeAny_forLoop_any (λn s'=>∃i σ' H',`oy/\`arQ/\`t7/\W i n σ' H') ?_ m0 ⟨0,σ,H2,I2,a2,λb hb=>(`kX).1,w0⟩;rintro n s3 ⟨i,σ3,H3,I3,Y,U,w3⟩;rcases Z i n σ3 H3 w3 with⟨stop,qn⟩|⟨go,N,hN,step⟩
 ·refine P1 hp (thn (T.done X rfl rfl rfl hc i `i s3 σ3 H3 `aG I3 (M U) Y stop) λr s4 hq21=>?_);obtain⟨hr,I4⟩:=hq21
  subst hr;exact y0 ⟨σ3,H3,I4,qn⟩
 ·refine P1 hp (thn (T.item X rfl rfl rfl hc i `i s3 σ3 H3 `aG I3 (M U) Y go) λr s4 hq22=>?_);obtain⟨u,hr,h4⟩:=hq22
  subst hr;refine P1 hp (thn h4 λ_ s5 hq23=>?_);obtain⟨x,H5,I5,r5,y5,O,a3⟩:=hq23;have a1:=I5.pinned (M a3) (`wZ _ _ O);refine P1 hp (thn (hg _ s5 σ3 H5 x u _ a1 r5 (step x H5 y5)) λ_ s6 hq24=>?_);obtain⟨σ6,H6,I6,q6⟩:=hq24;refine P1 hp (thn (hb _ s6 σ6 H6 _ I6 q6) λf s7 q7=>?_);have again:∀{σ7:St} {H7:Hp},Inv X (`i++mh0 fp s5.heap) σ7 H7 s7->N σ7 H7->∃m,m<n/\∃i σ' H',Inv X `i σ' H' s7/\tn i s7.heap/\`t7/\W i m σ' H':=λ{σ7 H7} I7 n7=>by
   obtain⟨m',hm,w7⟩:=hN σ7 H7 n7;refine⟨m',hm,i+1,σ7,H7,`Xa,T.keep _ _ _ O λb hb o e=>(`arR).1,`gD,w7⟩;obtain⟨o,e,d⟩:=`wZ _ _ O b hb;exact(`arR).2.1
  cases f with
  | next=>obtain⟨σ7,H7,I7,n7⟩:=q7;exact `arS
  | cont=>obtain⟨σ7,H7,I7,n7⟩:=q7;exact `arS
  | brk=>obtain⟨σ7,H7,I7,q7⟩:=q7;exact⟨σ7,H7,`Xa,q7⟩
  | ret v=>obtain⟨x7,σ7,H7,I7,r7,q7⟩:=q7;exact⟨x7,σ7,H7,`Xa,r7,q7⟩
abbrev R2:=`zT
noncomputable def OpR(X:Cx)(f:`t8)(r:R2):Prop :=
 ∀(pins:`aD) (s:`v) (σ:St) (H:Hp) (x y:V) (v u:`E) (Q:VK),`B->`j9->`e9->`Do ->
  `r `an X.A `Xb `eT `aG s
noncomputable def UnR(X:Cx)(f:`Qg)(r:`ws):Prop :=
 ∀(pins:`aD) (s:`v) (σ:St) (H:Hp) (x:V) (v:`E) (Q:VK),`B->`j9->r x H Q ->
  `r `an X.A (f v) `eT `aG s
noncomputable def CallR(X:Cx)(f:`E)(r:`mm):Prop :=
 ∀(pins:`aD) (s:`v) (σ:St) (H:Hp) (xs:`K) (us:`ac) (Q:VK),`B->`da->`Jj ->
  `r `an X.A (`ep f us) `eT `aG s
noncomputable def tOp(r:R2)(ta tb:TE):TE:=fun σ H Q=>ta σ H λx H1=>tb σ H1 λy H2=>r x y H2 Q
noncomputable def tUn(r:`ws)(ta:TE):TE:=fun σ H Q=>ta σ H λx H1=>r x H1 Q
noncomputable def rI(C:`Xc)(g:`Jk):R2:=λx y H Q=>∃i j,`zU/\y=`fr/\C i j/\Q `kN H
noncomputable def rI0(g:`Jk):R2:=λx y H Q=>∃i j,`zU/\y=`fr/\Q `kN H
noncomputable def rU(g:Int->V):`ws:=λx H Q=>∃i,`zU/\Q (g i) H
section
variable{a:`H}{tc:TE}
theorem Rs0(ha:`j7)(hb:`t9){s:`v}{σ:St}{R:V->`WD}(I:`B)
  (h:ta σ H λx H1=>tb σ H1 λy H2=>R x y H2) {Q:`aq} {f:`t8}
  (hf:∀v u s2 x y H2,`arT->`j9->`e9->R x y H2->`r `an X.A `Xb Q `aG s2) :
  `r `an X.A (`Qd) (λv s₁=>`r `an X.A (`Qf) (λu s₂=>`r `an X.A `Xb Q `aG s₂) `aG `eq) `aG s:=by
 refine thn `iK λv s1 hq25=>?_;obtain⟨x,H1,I1,r1,q1⟩:=hq25
 refine thn `Xd λu s2 hq26=>?_;obtain⟨y,H2,I2,r2,q2⟩:=hq26
 exact hf v u s2 x y H2 I2 r1 r2 q2
theorem Qx0{op:`Jl}{r:R2}(ho:`arU)(ha:`j7)(hb:`t9):PE X `arV `Jm:=by
 intro pins s σ H Q I h;exact wpAny_BinOp `arW
theorem Kn0{op:UnaryOp}{r:`ws}(ho:UnR X (unaryOp op) r)(ha:`j7):PE X (`P4 op a pos) (tUn r ta):=by
 intro pins s σ H Q I h;exact UnaryOp_ (thn `iK λv s1 ⟨x,H1,I1,r1,q1⟩=>ho `i s1 σ H1 x v Q I1 r1 q1)
theorem opI{f:`t8}{C:`Xc}{g:`arX}
  (rule:∀(i j:Int) (t u:Tok) (s:`v) (Q:`aq) (E:`aq),C i j->`arY) :
  OpR X f (rI C `arZ):=by
 intro pins s σ H x y v u Q I rx ry h;obtain⟨i,j,rfl,rfl,hc,q⟩:=h;obtain⟨t,rfl⟩:=rx;obtain⟨t',rfl⟩:=ry;exact rule i j t t' s _ _ hc `ar_
theorem K40{f:`t8}{g:`arX}
  (rule:∀(i j:Int) (t u:Tok) (s:`v) (Q:`aq) (E:`aq),`arY) :
  OpR X f (rI0 `arZ):=by
 intro pins s σ H x y v u Q I rx ry h;obtain⟨i,j,rfl,rfl,q⟩:=h;obtain⟨t,rfl⟩:=rx;obtain⟨t',rfl⟩:=ry;exact rule i j t t' s _ _ `ar_
theorem Ww0{f:`t8}{g:Int->Int->`aa}
  (rule:∀(i j:Int) (t u:Tok) (s:`v) (Q:`aq) (E:`aq),Q (`f9 `kN) s->`ahC) :
  OpR X f (rI0 λi j=>.bl `kN):=by
 intro pins s σ H x y v u Q I rx ry h;obtain⟨i,j,rfl,rfl,q⟩:=h;obtain⟨t,rfl⟩:=rx;obtain⟨t',rfl⟩:=ry;exact rule i j t t' s _ _ ⟨.bl `kN,H,I,rfl,q⟩
noncomputable def Rv0(i j:Int):Prop:=`Jn
noncomputable def R80(i j:Int):Prop:=`Xe
noncomputable def CMul(i j:Int):Prop:=`ar0
theorem CMul.ok{i j:Int}(h:CMul i j):IntMulOk i j:=by
 rcases h with⟨h1,h2⟩|⟨h1,h2⟩
 ·exact .of_left `ar1
 ·exact .of_right `ar1
theorem K70:OpR X `zV (rI0 `ar2):=K40 λ_ _ _ _ _ _ _ q=>add_int q
theorem Lo0:OpR X (`kM .Sub) (rI0 `ar3):=K40 λ_ _ _ _ _ _ _ q=>sub_int q
theorem La0:OpR X `Jo (rI CMul `ar4):=opI λ_ _ _ _ _ _ _ hc q=>mul_int q hc.ok
theorem Ok0:OpR X (`kM .FloorDiv) (rI Rv0 `ar5):=opI λi j _ _ _ _ _ hc q=>by
 have h1:`hd<j:=hc.1;have h2:`ahD:=hc.2;exact floordiv_int `h (by rw[Int.fdiv_eq_ediv_of_nonneg i `h];exact q) (`o (PyProof.noPylong_small `h))
theorem Lx0:OpR X (`kM .Mod) (rI (`ar6) `ar7):=opI λi j _ _ _ _ _ hc q=>by
 have h1:`hd<j:=hc;exact mod_int' `h (by rw[Int.fmod_eq_emod_of_nonneg i `h];exact q)
theorem Mu0:OpR X (`kM .Pow) (rI R80 `ar8):=opI λ_ _ _ _ _ _ _ hc q=>pow_int_small hc.1 hc.2.1 hc.2.2 q
theorem unI{f:`Qg}{g:`ahB}
  (rule:∀(i:Int) (t:Tok) (s:`v) (Q:`aq) (E:`aq),Q (`d (g i) `a8) `oH->`r `an X.A (f `wu) Q E s) :
  UnR X f (rU λi=>`ar9):=by
 intro pins s σ H x v Q I rx h;obtain⟨i,rfl,q⟩:=h;obtain⟨t,rfl⟩:=rx;exact rule i t s _ _ ⟨`ar9,H,`fs,`ae,q⟩
theorem K60:UnR X (unaryOp .USub) (rU λi=>`d (-i)):=unI λ_ _ _ _ _ q=>neg_int q
universe zz
noncomputable def Qp0:V->V->`aa
 | `u,`u=>`b|`u,`b?=>`b|`b?,`u=>`b|`u,`bA=>`b|`bA,`u=>`b|`u,`br=>`b|`br,`u=>`b
 | `b?,`b?=>`b|`bA,`bA=>`b|`br,`br=>`b|.byt _,.byt _=>`b
 | `b?,`br=>`b|`br,`b?=>`b|`bA,`br=>`b|`br,`bA=>`b
 | _,_=>`q
noncomputable def rEq:R2:=λx y H Q=>`Xf/\Q `ar' H
noncomputable def rNe:R2:=λx y H Q=>`Xf/\Q (.bl (!`Dn)) H
theorem Zy0{i j:Int}:`w (`wR i=`wR j)=(i==j):=by
 rw[`t'];simp
theorem U80{i j:`aa}:`w (V.bl i=V.bl j)=(i==j):=by
 rw[`t'];simp
theorem Yr0{i j:Str}:`w (`xi i=`xi j)=(i==j):=by
 rw[`t'];simp
theorem Y20{i j:`apw}:`w (V.byt i=V.byt j)=(i.toList==j.toList):=by
 rw[`t'];cases i;cases j;simp
section
variable{a:`H}{tc:TE}
theorem U3{σ:St}{s:`v}{Q:VK}{k k':`aa}(I:`B)(q:Q (`rG) H)(e:k=k'):EP X `i σ Q (`f9 k') s:=by
 subst e;exact⟨`rG,H,I,rfl,q⟩
theorem X5:OpR X (`d0 .Eq) rEq:=by
 intro pins s σ H x y v u Q I rx ry h;obtain⟨hs,q⟩:=h;cases x with
 | non =>
  cases rx;cases y with
  | non=>cases ry;exact PySem.EqNone.eq_none_none `cJ
  | bl j=>cases ry;exact PySem.EqNone.eq_none_bool `cJ
  | int j=>obtain⟨t',rfl⟩:=ry;exact PySem.EqNone.eq_none_int `cJ
  | str j=>obtain⟨t',rfl⟩:=ry;exact PySem.EqNone.eq_none_str `cJ
  | _=>exact `ht
 | bl i =>
  cases rx;cases y with
  | non=>cases ry;exact PySem.EqNone.eq_bool_none `cJ
  | bl j=>cases ry;exact eq_bool (U3 I q U80)
  | str j=>obtain⟨t',rfl⟩:=ry;exact PySem.EqMixed.eq_bool_str `cJ
  | _=>exact `ht
 | int i =>
  obtain⟨t,rfl⟩:=rx;cases y with
  | non=>cases ry;exact PySem.EqNone.eq_int_none `cJ
  | int j=>obtain⟨t',rfl⟩:=ry;exact eq_int (U3 I q Zy0)
  | str j=>obtain⟨t',rfl⟩:=ry;exact PySem.EqMixed.eq_int_str `cJ
  | _=>exact `ht
 | str i =>
  obtain⟨t,rfl⟩:=rx;cases y with
  | non=>cases ry;exact PySem.EqNone.eq_str_none `cJ
  | bl j=>cases ry;exact PySem.EqMixed.eq_str_bool `cJ
  | int j=>obtain⟨t',rfl⟩:=ry;exact PySem.EqMixed.eq_str_int `cJ
  | str j=>obtain⟨t',rfl⟩:=ry;exact eq_str (U3 I q Yr0)
  | _=>exact `ht
 | byt i =>
  obtain⟨t,rfl⟩:=rx;cases y with
  | byt j=>obtain⟨t',rfl⟩:=ry;exact W.eq_bytes (U3 I q Y20)
  | _=>exact `ht
 | _=>cases y<;>exact `ht
theorem Ku0:OpR X (`d0 .NotEq) rNe:=by
 intro pins s σ H x y v u Q I rx ry h;obtain⟨hs,q⟩:=h;cases x with
 | non =>
  cases rx;cases y with
  | non=>cases ry;exact PySem.EqNone.ne_none_none `cJ
  | bl j=>cases ry;exact PySem.EqNone.ne_none_bool `cJ
  | int j=>obtain⟨t',rfl⟩:=ry;exact PySem.EqNone.ne_none_int `cJ
  | str j=>obtain⟨t',rfl⟩:=ry;exact PySem.EqNone.ne_none_str `cJ
  | _=>exact `ht
 | bl i =>
  cases rx;cases y with
  | non=>cases ry;exact PySem.EqNone.ne_bool_none `cJ
  | bl j=>cases ry;exact ne_bool (U3 I q (C1 not U80))
  | str j=>obtain⟨t',rfl⟩:=ry;exact PySem.EqMixed.ne_bool_str `cJ
  | _=>exact `ht
 | int i =>
  obtain⟨t,rfl⟩:=rx;cases y with
  | non=>cases ry;exact PySem.EqNone.ne_int_none `cJ
  | int j=>obtain⟨t',rfl⟩:=ry;exact ne_int (U3 I q (C1 not Zy0))
  | str j=>obtain⟨t',rfl⟩:=ry;exact PySem.EqMixed.ne_int_str `cJ
  | _=>exact `ht
 | str i =>
  obtain⟨t,rfl⟩:=rx;cases y with
  | non=>cases ry;exact PySem.EqNone.ne_str_none `cJ
  | bl j=>cases ry;exact PySem.EqMixed.ne_str_bool `cJ
  | int j=>obtain⟨t',rfl⟩:=ry;exact PySem.EqMixed.ne_str_int `cJ
  | str j=>obtain⟨t',rfl⟩:=ry;exact ne_str (U3 I q (C1 not Yr0))
  | _=>exact `ht
 | byt i =>
  obtain⟨t,rfl⟩:=rx;cases y with
  | byt j=>obtain⟨t',rfl⟩:=ry;exact W.ne_bytes (U3 I q (C1 not Y20))
  | _=>exact `ht
 | _=>cases y<;>exact `ht
theorem ow0:OpR X (`d0 .Lt) (rI0 `Xg):=Ww0 λ_ _ _ _ _ _ _ q=>lt_int q
theorem V00:OpR X (`d0 .LtE) (rI0 `Xh):=Ww0 λ_ _ _ _ _ _ _ q=>le_int q
theorem qs0:OpR X (`d0 .Gt) (rI0 `Xi):=Ww0 λ_ _ _ _ _ _ _ q=>gt_int q
theorem J20:OpR X (`d0 .GtE) (rI0 `Xj):=Ww0 λ_ _ _ _ _ _ _ q=>ge_int q
theorem ju0:OpR X (`d0 .Is) `ar!:=by
 intro pins s σ H x y v u Q I rx ry h;obtain⟨rfl,q⟩:=h;cases ry;refine is_none_gen (U3 I q ?_);cases x<;>first
  | (cases rx;rfl)
  | (obtain⟨t,rfl⟩:=rx;rfl)
theorem OpR.or{f:`t8}{r r':R2}(h:OpR X f r)(h':OpR X f r'):OpR X f `ar?:=by
 intro pins s σ H x y v u Q I rx ry q;rcases q with q|q
 ·exact h `i s σ H x y v u Q I rx ry q
 ·exact h' `i s σ H x y v u Q I rx ry q
theorem ba0(b:`H){op:`iJ}(h:op≠.In:=by decide)(h2:op≠`t!:=by decide):`nH:=by
 have e1:(op==CmpOp.In)=`q:=by cases op<;>first|rfl|exact `Xk
 have e2:(op==CmpOp.NotIn)=`q:=by cases op<;>first|rfl|exact `I rfl h2
 cases b<;>simp[`Da,e1,e2]
theorem N40{op:`iJ}{r:R2}(ho:`t?)(ha:`j7)(hb:`t9)(hm:`nH):PE X `qk `Jm:=by
 intro pins s σ H Q I h;exact `aqE `arW hm
noncomputable def Jt0(t:TE):TT:=fun σ H Q=>t σ H λx H'=>∃k,x=`rG/\Q k H'
theorem Yi0{op:`iJ}{r:R2}(ho:`t?)(ha:`j7)(hb:`t9)(hm:`nH):PT X `qk (Jt0 `Jm):=by
 intro pins s σ H Q I h;refine `aqG (thn `iK λv s1 ⟨x,H1,I1,r1,q1⟩=>thn `Xd λu s2 ⟨y,H2,I2,r2,q2⟩ =>
  thn `asa λc s3 ⟨z,H3,I3,r3,k,e,q3⟩=>?_) hm
 subst e;cases r3;exact O0 ⟨H3,I3,q3⟩
noncomputable def T00(r r':R2)(ta tb tc:TE):TE:=fun σ H Q=>ta σ H λx H1=>tb σ H1 λy H2=>r x y H2 λz H3=>∃k,z=`rG /\
 (if k=`b then tc σ H3 λw' H4=>r' y w' H4 Q else Q `r1 H3)
theorem S70{op op':`iJ}{r r':R2}(ho:`t?)(ho':`asb)(ha:`j7)(hb:`t9)(hc:PE X c tc)
  (hm:`asc:=by with_unfolding_all rfl):PE X `asd (T00 r r' ta tb tc):=by
 intro pins s σ H Q I h;refine Compare_chain (thn `iK λv s1 ⟨x,H1,I1,r1,q1⟩=>chain_link (thn `Xd λu s2 ⟨y,H2,I2,r2,q2⟩ =>
  thn `asa λd s3 ⟨z,H3,I3,r3,k,e,q3⟩=>?_)) hm
 subst e;cases r3;refine O0 ?_;cases k with
 | false=>exact ite_ff ⟨`Dc,H3,I3,rfl,q3⟩
 | true=>exact ite_tt (chain_last (thn (hc `i s3 σ H3 _ I3 q3) λw' s4 ⟨z',H4,I4,r4,q4⟩=>ho' `i s4 σ H4 y z' u w' Q I4 r2 r4 q4))
theorem q90:`Xl<`QC:=by rw[`Xm];decide
theorem Xu0:OpR X `zV (λx y H Q=>`ase):=by
 intro pins s σ H x y v u Q I rx ry h;obtain⟨i,j,rfl,rfl,hz,q⟩:=h;obtain⟨t,rfl⟩:=rx;obtain⟨t',rfl⟩:=ry;exact add_str (λt' tk=>⟨`ahM,H,`fs,`ae,q⟩) hz
theorem vals1{x:V}(r:`asf):`asg:=by
 cases r with
 | cons r1 r2=>cases r2;exact⟨_,rfl,r1⟩
theorem Te0:`gf X (`bq `hu) `ash:=by
 intro pins s σ H xs us Q I r h;rcases h with⟨i,rfl,q⟩|⟨k,rfl,q⟩
 ·obtain⟨u,rfl,t,rfl⟩:=`nK
  exact call_int_int ⟨`a_,H,I,`ae,q⟩
 ·obtain⟨u,rfl,r1⟩:=`nK
  cases r1;exact call_int_bool ⟨`Qh,H,`fs,`ae,q⟩
theorem bt0:`gf X (`cK `zW) `asi:=by
 intro pins s σ H xs us Q I r h;obtain⟨x,rfl,hz,q⟩:=h;obtain⟨u,rfl,t,rfl⟩:=`nK;exact ord_of_one hz ⟨`b?,H,`fs,`ae,q⟩
universe zz
structure ObjM(h:`Q)(x dx C:`e)(mA:`bx):Prop where
 obj:`hH x=`agR
 ns:`PH
 ne:dx≠x
theorem T90{h:`Q}(n:`PH):∃od,`hH dx=`a od/\`asj:=by
 obtain⟨o,es,ep,ho,hd,hk,_,hm⟩:=n;refine⟨o,ho,λname=>?_⟩;have e:=hm `el;unfold nsFind findBy at e;rw[← Array.find?_toList] at e;unfold W.lookIn;rw[hd];dsimp only;split
 ·rename_i y q
  rw[q] at e;exact C1 `a e
 ·rename_i q
  rw[q] at e;have a:`ask=`q:=by
   rw[List.any_eq_false];intro y hy;obtain⟨z,t,J⟩:=hk y (Array.mem_toList_iff.mp hy);simp[DictEntry.refKey,J]
  have a':¬`ask=`b:=by rw[a];exact B2
  rw[`ai a'];exact C1 `a e
theorem ObjM.look{h:`Q}{x C:`e}(I:ObjM h x dx C mA):∃od,W.InstAt h x `agQ C (`a od)/\`asj :=
 let ⟨od,ho,hl⟩:=T90 I.ns
 ⟨od,⟨I.obj,rfl,rfl,ho⟩,hl⟩
section
variable{w:`P}{s:`v}{x C f:`e}{v:`E}
theorem get_map{expr:`aa}{Q:`aq}(X:`ua)(I:`Xn)(hg:`asl)(hh:`Xo)
  (ha:`asm=`dn) (hv:`Qi=`bX) (hv':`asn v=`b) (h:Q v `oH) :
  `r `av A (`Xp `wz `el expr) Q E s:=by
 obtain⟨od,J,hl⟩:=I.look;exact W.get_value X J (y6 hg).1 (W.findObj_own hh ha rfl (by rw[hl,hv])) hv' h
theorem Rb0{pl:`ub}{Q:`aso}(X:`ua)(I:`Xn)(hg:`asl)
  (hf:`asm=`Dp) (ht:`Xq) (hv:`Qi=`c) (h:Q (`CV,[`z x]) s) :
  `r `av A (`Qq `wz `el pl) Q E s:=by
 obtain⟨od,J,hl⟩:=I.look;exact W.method_fn X J (y6 hg).1 (y6 hg).2 hf (P2.mp ht) (by show (`ahN).map `ajy=`aV;rw[hl,hv];rfl) h
theorem Nn0{ns:`g}{Q:`qh}(X:`ua)(I:`Xn)
  (hs:`asp) (hp:`asq) (ht:W.takerIn K C `el=`dn) (hh:`Xo)
  (hw:`agS mA ns) (hsz:`asr)
  (h:∀h',ObjM h' x dx C (λy=>if y=`el then `bX else mA y)->`rz dx `aE h'->Q () { s with heap:=h',toks:=`a8+2 }) :
  `r `av A (setAttr `wz `el v) Q E s:=by
 obtain⟨od,J,hl⟩:=I.look;refine W.set_plain X J hs (W.osa_open (s:=`oH) (r:=`c) X J hp ht λb=>?_);obtain⟨cd,hc,U⟩:=W.any_some hh;have hx:`c3 x=`a ⟨`rH,`zX,.plain,#[]⟩:=I.obj;refine A0 (A1 (A0 (A0 (wpAny_loadPart hx (A0 (W.Looks.here (s:=`oH) (W.looks_clsIn X hc) ?_))))));rw[U];refine A1 (a:=`zX) (A0 (A1 (`lL)));refine wpAny_nsSet1 (s:=`oH) I.ns λh' M O=>?_
 obtain⟨oD,a2,a3,Z,Y,a1⟩:=M.count (PySem.Within.cons `el v hw);refine A0 (wpAny_lookBehind Z (by rw[Y];exact pastItsLine_dict (B9 a1 (`lt))) ?_);exact A1 (h _ ⟨(O.2 _ (B4 I.ne)).trans I.obj,M,I.ne⟩ O)
theorem Se0{R:`qd}{vs:`ac}{kw:`oU}(X:`ua)(hm:`Xr)
  (hi:`ass) (hf:W.typeIn K `ef=`apo)
  (h:`gZ `av (A.under (`cK `ahX ⟨`rH::vs,kw⟩)) (`oQ `ef ⟨`ast::vs,kw⟩) (W.InitBack `gb R)
   `asu) :
  `gZ `av A (`oQ `ft ⟨vs,kw⟩) R s:=by
 obtain⟨hh,g,d,t,os⟩:=s;exact W.make_core (W.makes_of X hm) (W.looks_findIn X hi) (λself=>W.bind_fn X self hf) `fm h
universe zz
noncomputable def yg0(f:Str)(v:V):`iH->`iH
 | []=>[(f,v)]
 | (g,x)::r=>if g=f then (g,v)::r else (g,x)::`ahT
theorem kq0(f g:Str)(v:V):∀fs:`iH,(`Qm).lookup g=if g=f then `bX else `CZ g
 | []=>by
  show `lM g [(f,v)]=_
  by_cases h:g=f
  ·have hb:(g==f)=`b:=P2.mpr h
   simp only[`lM,hb,`co]
  ·have hb:(g==f)=`q:=`mQ h
   simp only[`lM,hb,`dR]
 | `Dq=>by
  have ih:=kq0 f g v r;rw[`Xs]
  by_cases hk:k=f
  ·rw[`zY]
   by_cases h:g=k
   ·have hb:(g==k)=`b:=P2.mpr h
    simp only[`lM,hb,`N (h.trans hk)]
   ·have hb:(g==k)=`q:=`mQ h
    simp only[`lM,hb,`ai (λe:g=f=>h (e.trans hk.symm))]
  ·rw[`Jp]
   by_cases h:g=k
   ·have hb:(g==k)=`b:=P2.mpr h
    simp only[`lM,hb,`ai (λe:g=f=>hk (h.symm.trans e))]
   ·have hb:(g==k)=`q:=`mQ h
    simp only[`lM,hb];exact ih
theorem m80(f:Str)(v:V):∀fs:`iH,f∈`asv/\∀g,g∈`PG->g∈`asv
 | []=>⟨`asw,λg h=>`hv⟩
 | `Dq=>by
  obtain⟨i1,i2⟩:=m80 f v r;rw[`Xs]
  by_cases hk:k=f
  ·rw[`zY]
   subst hk;exact⟨`aW,λg h=>`ai!⟩
  ·rw[`Jp]
   refine⟨?_,λg h=>?_⟩
   ·rw[`T]
    exact A4 _ i1
   ·rw[`T] at h ⊢
    rcases `yR with e|e
    ·exact A7.mpr (`qm)
    ·exact A4 _ (i2 g e)
theorem kp0(f:Str)(v:V):∀fs:`iH,(`Qm).length<=`CY+1
 | []=>`asw
 | `Dq=>by
  have ih:=kp0 f v r;rw[`Xs]
  by_cases hk:k=f
  ·rw[`zY,`V,`V];omega
  ·rw[`Jp,`V,`V];omega
theorem RelO.some_of{o:`l?}(r:`on `rr o):∃u,o=`bi/\`fo:=by
 cases o with
 | none=>exact`Jq
 | some u=>exact⟨u,rfl,r⟩
theorem RelO.none_of{o:`l?}(r:`on `c o):o=`c:=by
 cases o with
 | none=>rfl
 | some u=>exact`Jq
theorem Tg0(r:`fo):`asn u=`b:=by
 cases v with
 | non=>cases (show u=`mO from r);rfl
 | bl b=>cases (show u=`wU b from r);rfl
 | int i=>obtain⟨t,e⟩:=`asx;cases e;rfl
 | str x=>obtain⟨t,e⟩:=`asy;cases e;rfl
 | byt b=>obtain⟨t,e⟩:=(show `apz from r);cases e;rfl
 | flt b=>obtain⟨t,e⟩:=(show `apA from r);cases e;rfl
 | ref a=>cases (show `ED from r);rfl
 | ty n=>cases (show u=`h7 n from r);rfl
section
variable{P:`ao}{w:`P}{h:`Q}{C:`e}{fs fs':`iH}
theorem gj0(hok:`e7)(e:`Jr):∃mA,ObjM h a dx C mA/\(`PI)/\`agT/\`V1/\`V0:=by
 obtain⟨d,z,ne,ob,mA,n,r,q⟩:=(show `ct P w H h a (`kO) from hok a _ e);exact⟨mA,⟨ob,n,ne⟩,r,q,z,d⟩
universe zz
structure Cls(K:`y)(C:`e):Prop where
 pg:`asz=`b
 hd:`Xo
 po:`asq
 sa:`asp
theorem Cls.get{C:`e}(c:`qn)(f:Str):`Qj K C f=`b:=c.pg
noncomputable def NoAttr(K:`y)(C:`e)(f:Str):Prop:=`asA
theorem NoAttr.taker{C:`e}{f:Str}(n:`uc):W.takerIn K C f=`dn:=by
 unfold W.takerIn;rw[show `asA from n];rfl
structure Meth(K:`y)(C:`e)(m:Str)(f:`e):Prop where
 at_:`cO K `ft m=`Dp
 fn:`Xq
 kp:`Js
section
variable{σ:St}{s:`v}{C:`e}{fs:`iH}{f:Str}
theorem ho0{b:`aa}{Q:`aq}(I:`B)(e:`Jr)(c:`zZ)(n:`asB)(l:`Xt)
  (h:∀u s',`z_->`fo->Q u s'):`r `an A (`Xp `dZ f b) Q E s:=by
 obtain⟨mA,O,r,_,_,_⟩:=`Xu;obtain⟨u,hu,ru⟩:=`Xv (v:=v) (o:=mA f) (by rw[← l];exact r f);exact get_map `d_ O (c.get f) c.hd n hu (Tg0 ru) (h u _ `EX ru)
theorem ib0{m:Str}{g:`e}{pl:`ub}{Q:`aso}(I:`B)(e:`Jr)(c:`zZ)(k:Meth X.K C m g)(l:`Jt)
  (h:Q (`z g,`eU) s):`r `an A (`Qq `dZ m pl) Q E s:=by
 obtain⟨mA,O,r,_,_,_⟩:=`Xu;have hn:mA m=`c:=RelO.none_of (by rw[← l];exact r m);exact Rb0 `d_ O (c.get m) k.at_ k.fn hn h
theorem gd0{y:V}{Q:`qh}(I:`B)(e:`Jr)(c:`zZ)(n:`asB)(hl:`xS)(ry:`e9)
  (h:∀s',Inv X `i σ (upd H a `asC) s'->`I1):`r `an A (setAttr `dZ f u) Q E s:=by
 obtain⟨mA,O,r,wi,_,ho⟩:=`Xu;have hz:(`PG).length<=`L:=by rw[`F,`Xm];omega
 refine Nn0 `d_ O c.sa c.po n.taker c.hd wi hz λh' O' sb=>h _ ?_
 have hd:∃o,`fl dx=`aj:=let ⟨o,_,_,e',_⟩:=O'.ns;⟨o,e'⟩
 refine `Ju (x:=a) (e:=dx) `EY (`n ho) (λb q hb z=>`ahs z) hd ?_;refine⟨by rw[d9 O.ne];exact ho,?_,O.ne,O'.obj,_,O'.ns,λg=>?_,λg hg=>?_⟩
 ·have:=kp0 f y fs;omega
 ·show `on ((`ahW).lookup g) `asD
  rw[kq0]
  by_cases q:g=f
  ·rw[`Jv,`Jv];exact ry
  ·rw[`z0,`z0];exact r g
 ·by_cases q:g=f
  ·rw[q];exact(`asE).1
  ·refine(`asE).2 g (wi g λz=>hg ?_)
   show `asD=`c;rw[`z0];exact z
theorem Inv.made(I:`B):Inv X `i σ (upd (upd H `M (`asF)) `gb (`asG))
  `asu:=by
 have e1:(`wy).get? `M=`a `Qk:=C0 `aE rfl;have e2:(`ahS).get? `gb=`a (`Ql):=by
  have:=C0 (`wy) (o:=`Ql) rfl
  rwa [l5] at this
 have e3:(`wy).Ns `M (`ud):=⟨`Qk,#[],_,e1,rfl,(λe he=>`I he `aw),`iz⟩;have I1:=`j' (a:=`M) (o:=`asF) (h':=`wy) (t':=`a8) (λb u q=>`wH) `bj ⟨_,e1⟩;refine `Du (a:=`oJ) (o:=`asG) (t':=`a8) (λb u q=>`wH) (H0 (l5 _ _)) ?_;have ne:`M≠`oJ:=B0 `Sv;refine⟨by rw[d9 ne,j9],`cQ,ne,e2,`ud,(Heap.Ns1.of_empty e3).at λo q=>`wH,λ_=>`kP,λy hy=>`I rfl hy⟩
theorem M00{prog:`ao}{w:`P}{env:Env}{f:Str}{pos:Pos}{s:`v}{Q:`aq}(hb:`eQ e f env (`Xw)=`Xw)
  (h:`r `av A (`Xw) (λo s₁=>`r `av A (`Xp o f `b) Q E `eq) E s):`r `av A (`bb `Xx env) Q E s :=
 Attribute_any_ h (by rw[arm_eval_Attribute,hb])
universe zz
noncomputable def Ii0(K:`y)(ta:TE)(f:Str):TE:=fun σ H Q=>ta σ H λx H1=>∃a C dx fs v,`cY/\`Jw/\`qn/\`uc/\`Xt/\Q v H1
noncomputable def Im0(K:`y)(ta tv:TE)(f:Str):TS:=λD σ H=>tv σ H λy H1=>ta σ H1 λx H2=>∃a C dx fs,`cY/\H2 a=`mi/\`qn/\`uc/\`xS /\
 `i' σ (upd H2 a `asC)
noncomputable def Mr0(X:Cx)(op:`Jl)(rd:`zT):Prop :=
 ∀(pins:`aD) (s:`v) (σ:St) (H:Hp) (x y:V) (u v:`E) (Q:VK),`B->`gW->`di y v->rd x y H Q->`r `an X.A (inplaceOp op u v) `eT `aG s
noncomputable def Pp0(K:`y)(ta tv:TE)(rd:`zT)(f:Str):TS:=λD σ H=>ta σ H λx H1=>∃a C dx fs v,`cY/\`Jw/\`qn/\`uc/\`Xt /\
 tv σ H1 λy H2=>rd v y H2 λz H3=>∃dx' fs',H3 a=`a (`gO C dx' fs')/\fs'.length<1000/\`i' σ (upd H3 a (`gO C dx' (yg0 f z fs')))
section
variable{f:Str}
theorem Lv0(he:PE X e ta)(hb:`asH):PE X `Xx (Ii0 X.K ta f):=by
 intro pins s σ H Q I h;refine M00 hb (thn `iL λu s1 hq27=>?_);obtain⟨x,H1,I1,rx,a,C,dx,fs,v,ex,ea,c,n,l,q⟩:=hq27;subst ex;obtain rfl:u=`hG:=rx;exact ho0 I1 ea c n l λu' s2 I2 ru=>⟨v,H1,I2,ru,q⟩
theorem aw0(ha:`Jx)(hv:`asI)(hs:`hO `eR (`a (`asJ)) `i! `x=`gT):PS X (`ja [`asJ] `eR pos) (Im0 X.K ta tv f):=by
 intro pins s σ H D I h;refine plainObj_wpAny_Assign_Attribute (thn (hv `i s σ H _ I h) λu s1 hq28=>?_) hs;obtain⟨y,H1,I1,ry,q⟩:=hq28;refine thn (ha `i s1 σ H1 _ I1 q) λov s2 hq29=>?_;obtain⟨x,H2,I2,rx,a,C,dx,fs,ex,ea,c,n,l,q2⟩:=hq29;subst ex;obtain rfl:ov=`hG:=rx;exact gd0 I2 ea c n l ry λs3 I3=>⟨σ,_,I3,q2⟩
theorem U60{op:`Jl}{rd:`zT}(ha:`Jx)(hv:`asI)(hop:Mr0 X op rd):PS X (`asK (`c5 o f tpos) op `eR pos) (Pp0 X.K ta tv rd f):=by
 intro pins s σ H D I h;refine wpAny_AugAssign_AttributeAny (thn `iK λov s1 hq30=>?_);obtain⟨x,H1,I1,rx,a,C,dx,fs,v,ex,ea,c,n,l,q⟩:=hq30;subst ex;obtain rfl:ov=`hG:=rx;refine ho0 I1 ea c n l λu s2 I2 ru=>thn (hv `i s2 σ H1 _ I2 q) λw3 s3 hq31=>?_;obtain⟨y,H2,I3,ry,q3⟩:=hq31;refine thn (hop `i s3 σ H2 v y u w3 _ I3 ru ry q3) λw4 s4 hq32=>?_;obtain⟨z,H3,I4,rz,M,fs',J,l',q4⟩:=hq32
 exact gd0 I4 J c n l' rz λs5 I5=>⟨σ,_,I5,q4⟩
noncomputable def I40:`zT:=λx y H Q=>∃i j,`zU/\y=`fr/\Q (`Dm) H
theorem Lq0:Mr0 X .Add I40:=by
 rintro pins s σ H x y u v Q I rx ry ⟨i,j,rfl,rfl,q⟩;obtain⟨t,rfl⟩:=(show `Ds from rx);obtain⟨t',rfl⟩:=(show ∃t',v=`PC j t' from ry);exact PyProof.Rows.iadd_int ⟨`Dm,H,`fs,`ae,q⟩
universe zz
structure Room(k:Nat)(A:`cl):Prop where
 hd:`eD
 dp:`Jy+3*k+5<`asL
 un:`mt+16*k+200<`kV
theorem Room.mono{k:Nat}(r:`z1)(h:j<=k):`gc j A:=⟨r.hd,`asM,`asN⟩
theorem Room.deeper{k:Nat}(r:`asO)(env:Env):`gc k (`wA env) :=
 ⟨r.hd,by have:=r.dp;show `Jy+1+3*k+5<_;omega,by have:=r.un;show `mt+3+16*k+200<_;omega⟩
theorem Wn0{C:`e}:(`Jz).depth=`Jy+1:=by
 first|rfl|simp[`Xy,Code.weight,Code.isCreation,Code.isGuard,Code.isCaller,`asP,`Xz,guardIds]
theorem Xo0{C:`e}:(`Jz).units=`mt+1:=by
 first|rfl|simp[`Xy,Code.cUnits,`asP,`Xz]
theorem Room.make{k:Nat}(r:`asO)(C:`e)(us:`ac)(kw:`oU):`gc k (`Jz) :=
 ⟨r.hd,by have:=r.dp;rw[Wn0];omega,by have:=r.un;rw[Xo0];omega⟩
theorem Room.depth{k:Nat}(r:`z1):`Jy<`asL:=`asM
theorem Room.units{k:Nat}(r:`z1):`mt+64<`kV:=`asN
noncomputable def Rz0:TA:=λ_ H Q=>Q [] H
noncomputable def Jb0(ta:TE)(tr:TA):TA:=fun σ H Q=>ta σ H λx H1=>tr σ H1 λxs H2=>Q (`lN) H2
section
variable{t:TA}
theorem yx0:PA X [] Rz0:=λ_ _ _ _ H Q I h=>Y3 `asQ
theorem O9(ha:`fV)(hr:`ue)(hs:`d?:=by rfl):PA X `gd (Jb0 te t):=by
 intro pos pins s σ H Q I h;rw[hs];show `r _ _ (`zH (`oK::`Qp)) _ _ s;refine U1 (thn `iK λu s1 hq33=>?_);obtain⟨x,H1,I1,r1,q1⟩:=hq33;exact thn (hr pos `i s1 σ H1 _ I1 q1) λus s2 ⟨xs,H2,I2,r2,q2⟩=>⟨`lN,H2,I2,`ah r1 r2,q2⟩
noncomputable def Iu0(t:TA):TE:=fun σ H Q=>t σ H λxs H1=>`hp/\∀p,`XA->Q `c7 (upd H1 p `op)
noncomputable def Io0(t:TA):TE:=fun σ H Q=>t σ H λxs H1=>`hp/\∀p,`XA->Q `c7 (upd H1 p `mg)
theorem az0{x1}(h:`ue):PE X (`k7 es x1 pos) (Iu0 t):=by
 intro pins s σ H Q I hq;refine wpAny_Tuple_spliced (thn `asR λus s1 hq34=>?_);obtain⟨xs,H1,I1,r,z,q⟩:=hq34;refine `asS;have hf:`asT:=`Dk;refine⟨`asU,upd H1 `f? `op,`asV,rfl,q _ hf⟩;exact⟨z,us,r,`V_⟩
theorem al0(h:`ue):PE X `XB (Io0 t):=by
 intro pins s σ H Q I hq;refine wpAny_List_spliced (thn `asR λus s1 hq35=>?_);obtain⟨xs,H1,I1,r,z,q⟩:=hq35;refine `asS;have hf:`asT:=`Dk;refine⟨`asU,upd H1 `f? `mg,`asV,rfl,q _ hf⟩;exact⟨z,us,0,r,`eM⟩
universe zz
abbrev Sp:=`K->Hp->VK->XK->Prop
abbrev CXT:=`fT->Hp->`v->XK->`aq
variable{sp:L2.Sp}
structure Env0(P:`ao)(w:`P)(K:`y)(mg:`bx)(base:`Q)(A:`cl)(outer:`fT)(s:`v)(H:Hp):Prop where
 frames:A.frames=`a `cv
 mod:Mod K mg `m
 bs:∀b o,base.get? b=`aj->`ap9
 bsz:base.objs.size<=`M
 funs:`IN `m `cv
 frf:∀b∈frs `cv,`c4
 hok:HOk P w H `aE
 bare:`wn `t2
variable{CX:L2.CXT}
noncomputable def CE(outer:`fT)(P:`ao)(w:`P)(H:Hp)(s:`v)(Q:VK)(u:`E)(s':`v):Prop :=
 ∃v H',`aqw/\`QM/\Un (frs `cv) [] H H' `aE `oF/\HOk P w H' `oF/\`aqy
noncomputable def CR(CX:CXT)(outer:`fT)(P:`ao)(w:`P)(H:Hp)(s:`v)(Q:VK)(E:XK)(r:Result)(s':`v):Prop :=
 match r with
 | .ok (`fj u)=>`asW
 | .ok _=>`bR
 | .error e=>CX `cv H s E e s'
structure FnOk(P:`ao)(w:`P)(K:`y)(mg:`bx)(base:`Q)(CX:CXT)(k:Nat)(f:`e)(fd:`ho)(ps:`g)(sp:Sp):Prop where
 len:`XC
 run:∀(A:`cl) (outer:`fT) (s:`v) (H:Hp) (args:Args) (us:`ac) (vs:`K) (Q:VK) (E:XK),`z1->`XD->`DU s fd `iM `z2->`t3->`Dv ->
  `gZ `oP A (`oQ `ef `iM) (CR CX `cv P w H s Q E) s
theorem Env0.make{P:`ao}{w:`P}{outer:`fT}{s:`v}(e:`XD)(C:`e)(us:`ac)(kw:`oU) :
  Env0 P w K mg `m (`Jz) `cv s H:=⟨by first|exact `XE|(simpa [`Xy,Code.envs,`Xz,pushEnvs] using `XE),e.mod,e.bs,e.bsz,e.funs,e.frf,e.hok,e.bare⟩
section
variable{σ:St}{s:`v}
theorem Inv.env0(I:`B):Env0 `aZ X.w X.K `b7 `dW X.A `hM s H :=
 ⟨I.ok.frames,I.ok.mod,I.bs,B9 I.ok.bsz I.sz,I.stack,I.stkFree,`bY,`iI⟩
theorem Inv.after{Q:VK}(I:`B)(h:CE `hM `aZ X.w H s Q u s'):EP X `i σ Q u s':=by
 obtain⟨v,H',os,bare,un,hok,r,q⟩:=h;obtain⟨hh,g,d,t,J⟩:=s';obtain rfl:J=s.os:=os;exact⟨v,H',I.call (h':=hh) (g':=g) (d':=d) (t':=t) (ch:=[]) un hok bare (λb z=>`I z `aw),r,q⟩
universe zz
noncomputable def J30(sp:Sp)(dvs:`K)(E:XK)(t:TA):TE:=fun σ H Q=>t σ H λvs H1=>sp `nL H1 Q E
noncomputable def Kp0(C:`e)(m:Str)(sp:Sp)(dvs:`K)(E:XK)(ta:TE)(t:TA):TE:=fun σ H Q=>ta σ H λx H1=>∃a dx fs,`cY/\`Jw/\`Jt /\
 t σ H1 λvs H2=>sp (x::`nL) H2 Q E
noncomputable def Jr0(C:`e)(sp:Sp)(dvs:`K)(E:XK)(t:TA):TE:=fun σ H Q=>t σ H λvs H1=>∀x dx,H1 x=`c->H1 dx=`c->dx≠x ->
 sp (`z x::`nL) (upd (upd H1 dx (`f5 x)) x `Qr) `asX E
noncomputable def Binds(K:`y)(fd:`ho)(ps:`g)(ds:`ac):Prop :=
 ∀(s:`v) (us:`ac),`ua->`asY->`DU s fd `JA (`oL `Dy)
theorem Binds.all{ps:`g}(h:∀us:`ac,`k8=`ax->`qc fd `JA=`bO `z2):`xm:=λs us _ hl=>by
 rw[`cZ] at hl ⊢;exact .of_eq (h us hl)
noncomputable def ql0(CX:CXT)(X:Cx)(E:XK):Prop:=∀(pins:`aD) (σ:St) (H:Hp) (s:`v) (e:`E) (s':`v),`B->CX `hM H s E e s'->`aG e s'
section
variable{k:Nat}{f C:`e}{ps:`g}{ds:`ac}{E:XK}{m:Str}{p:Pos}{t:TA}
theorem Z00{pins:`aD}{σ:St}{H:Hp}{s:`v}{Q:VK}{us:`ac}{vs:`K}(F:`uf)(hr:`z3)(hb:`ug)(hd:`uh)(hx:`ui)
  (I:`B) (r:`t3) (h:sp `nL H Q E):`r `an X.A (`ep `ef us) `eT `aG s:=by
 have r2:`bt `nL `Dy:=`z4 hd;have hl:`asY:=by rw[← `mJ];exact F.len _ _ _ _ h
 refine `asZ (b4 (F.run X.A `hM s H `JA `Dy `nL Q E hr I.env0 (hb s us `d_ hl) r2 h) `XF);cases r with
 | error e=>exact hx `i σ H s e s' I hq
 | ok fl =>
  cases fl with
  | ret u=>exact I.after hq
  | next=>exact `XG
  | brk=>exact `XG
  | cont=>exact `XG
theorem k20(F:`uf)(hr:`z3)(hg:`cI)(hm:`mf=`a `ef)(hk:`cu X.K `ef=`b)(hb:`ug)(hd:`uh)(hx:`ui)
  (ha:`uj) (hdb:`aJ:=by decide) (he:`d?:=by rfl) (hpl:`gF:=by rfl) :
  PE X `wC (J30 sp dvs E t):=by
 intro pins s σ H Q I h;refine `as_;refine `as0 (h₀:=`dW) `as1 hk (thn `rN λus s1 hq36=>?_) he hpl;obtain⟨vs,H1,I1,r,q⟩:=hq36;refine ⟨I1.kIn,?_⟩;exact Z00 F hr hb hd hx I1 r q
theorem Pu0{pl:`ub}(he:`Jx)(c:`zZ)(hm:`as2)(F:`uf)(hr:`z3)(hb:`ug)(hd:`uh)(hx:`ui)(ha:`uj)
  (hst:`d?:=by rfl) (hpl:`gF:=by rfl)
  (ht:`bb `as3 `x=(do
   let ov ← `hP
   `JB
   let (f,`rJ) ← `JC
   `as4):=by rfl) :
  PE X `as3 (Kp0 C m sp dvs E ta t):=by
 intro pins s σ H Q I h;refine `as5 (pl:=pl) (thn `iL λu s1 hq37=>?_) ht;obtain⟨x,H1,I1,rx,a,dx,fs,ex,ea,l,q⟩:=hq37;subst ex;obtain rfl:u=`hG:=rx;refine `as6;refine `as0 (first:=`eU) (h₀:=`dW) `as1 hm.kp (thn (ha pos `i s1 σ H1 _ I1 q) λus s2 hq38=>?_) hst hpl;obtain⟨vs,H2,I2,r,q2⟩:=hq38;refine ⟨I2.kIn,?_⟩;exact Z00 (us:=`b8::us) (vs:=`b8::vs) F hr hb hd hx I2 (`ah rfl r) q2
structure Mk(K:`y)(C f:`e):Prop where
 makes:`Xr
 init:`ass
 fn:`Xq
 kp:`XH=`b
theorem St0{pins:`aD}{σ:St}{H:Hp}{s:`v}{Q:VK}{us:`ac}{vs:`K}(M:`as7)(F:`uf)(hr:`as8)(hb:`ug)(hd:`uh)
  (hx:`ui) (I:`B) (r:`t3)
  (h:∀x dx,H x=`c->H dx=`c->dx≠x->sp (`z x::`nL) (`as9) `asX E) :
  `r `an X.A (`ep `ft us) `eT `aG s:=by
 have hq:=h `gb `M (`rK (Nat.le_succ _)) `DI (B0 `Sv);have I2:=Inv.made (C:=C) I;have r2:`bt (`as'::`nL) `as!:=`ah rfl (`z4 hd);have hl:(`XI++ds).length=`ax:=by
  have e:=`mJ;rw[F.len _ _ _ _ hq] at e;exact e.symm
 refine `asZ (Se0 (f:=f) `d_ M.makes M.init (P2.mp M.fn) (b4 (F.run _ `hM _ _ ⟨`XI,[]⟩ `as! _ _ E (hr.make C us [])
  (I2.env0.make C us []) (hb _ (`XI) I2.kIn hl) r2 hq) λr s' J=>?_))
 cases r with
 | error e=>exact hx `i σ _ _ e s' I2 J
 | ok fl =>
  cases fl with
  | ret u =>
   obtain⟨v,H',I3,rv,ev,q3⟩:=I2.after J;subst ev;exact⟨rv,⟨`as',H',I3,rfl,q3⟩⟩
  | next=>exact `fv J
  | brk=>exact `fv J
  | cont=>exact `fv J
theorem Q40(M:`as7)(F:`uf)(hr:`as8)(hg:`cI)(hm:`mf=`Ef)(hb:`ug)(hd:`uh)(hx:`ui)
  (hdb:`aJ:=by decide):PE X (`aR `Dw [] [] pos) (Jr0 C sp dvs E Rz0):=by
 intro pins s σ H Q I h;refine `as_;exact `as? `d_ M.kp (St0 (us:=[]) M F hr hb hd hx I `O h)
universe zz
structure FnScope(N P:`g)(sc:`cG):Prop where
 kind:`ata
 co:`atb
 gen:`atc
 nd:`I0
 pre:N.take `uk=P
 par:∀x∈P,`Wn
 nofree:∀y∈`JD,`atd
theorem ej0{kindOf:`JE}:∀{binds:`oU} {m:`bx},`ate->`z5 `j! binds m x=m x
 | [],_,_=>rfl
 | (n,v)::r,m,h=>by
  unfold bindL;rw[ej0 `atf];split
  ·have:x≠n:=`atg
   simp[`A]
  ·rfl
theorem eb0{kindOf:`JE}:∀{binds:`oU} {m:`bx},`ate->`z6 `j! binds m x=m x
 | [],_,_=>rfl
 | (n,v)::r,m,h=>by
  unfold bindC;rw[eb0 `atf];split
  ·rfl
  ·have:x≠n:=`atg
   simp[`A]
theorem eu0{kindOf:`JE}{v:`E}:∀{P:`g} {vs:`ac} {i:Nat} {m:`bx},P.Nodup->`ath->`XJ->`j! x=`md ->
  `z5 `j! (`Qs) m x=`bX
 | [],_,_,_,_,h,_,_=>`hv
 | `db,[],_,_,_,_,h,_=>`hv
 | p::P,w::vs,0,m,nd,h1,h2,hk=>by
  simp at h1 h2;subst h1;subst h2;show `z5 `j! `JF m p=_;unfold bindL;rw[ej0 `ati,`zY];simp
 | p::P,w::vs,i+1,m,nd,h1,h2,hk=>by
  show `z5 `j! `JF m x=_;unfold bindL;exact eu0 (i:=i) (`Qt).2 (`rh) (`JG) hk
theorem e60{kindOf:`JE}{v:`E}:∀{P:`g} {vs:`ac} {i:Nat} {m:`bx},P.Nodup->`ath->`XJ->`j! x≠`md ->
  `z6 `j! (`Qs) m x=`bX
 | [],_,_,_,_,h,_,_=>`hv
 | `db,[],_,_,_,_,h,_=>`hv
 | p::P,w::vs,0,m,nd,h1,h2,hk=>by
  simp at h1 h2;subst h1;subst h2;show `z6 `j! `JF m p=_;unfold bindC;rw[eb0 `ati,`Jp];simp
 | p::P,w::vs,i+1,m,nd,h1,h2,hk=>by
  show `z6 `j! `JF m x=_;unfold bindC;exact e60 (i:=i) (`Qt).2 (`rh) (`JG) hk
noncomputable def start(N:`g)(vs:`K):St:=`ib `a++`aL (`z7 - `bS) `c
noncomputable def nm0(CX:CXT)(P:`ao)(w:`P)(K:`y)(mg:`bx)(base:`Q)(N:`g)(qual:Str)(scope:`cG)(f:`e)(cd:`E)(A:`cl)(outer:`fT)(s:`v)(H:Hp)(E:XK):Cx where
 prog:=P
 w:=w
 K:=K
 mg:=mg
 base:=`m
 A:=`atj
 N:=N
 s₀:=s
 H₀:=H
 env:=`wB
 outer:=`cv
 stack:=`wB::`cv
 ex:=[]
 calm:=`b
 fn:=λ_=>`b
 pn:=[]
 xe:=λe s'=>`r `oP (`atj) (leaving (`wB) e) (λ_ s''=>CX `cv H s E e s'') (λe' s''=>CX `cv H s E e' s'') s'
theorem Z20(h:`PQ):∃c,(`ah4 n `JD []).lookup x=`dX:=by
 have q:=`atk `JD n [] (`o h);exact Option.isSome_iff_exists.mp q
theorem Un0{CX:CXT}{P:`ao}{w:`P}{K:`y}{mg:`bx}{base:`Q}{N ps:`g}{qual:Str}{scope:`cG}{f:`e}{cd:`E}{A:`cl}{outer:`fT}{s s1:`v}{H:Hp}{E:XK}{us:`ac}{vs:`K}
  (S:`atl) (hd:`eD) (e0:`XD) (hl:`bS=`ax) (r:`t3)
  (x:InCallC s `M (`z5 `atm `z2 `ud) (`atn) (`z6 `atm `z2 `ud) s1) :
  Inv (`ato) [] `DA H s1:=by
 have O:`ax<=`z7:=by have:=C1 `GL S.pre;rw[`dJ] at this;omega
 obtain⟨h1,tk,rfl,hk⟩:=x.done;have J:∀b:`e,b∉(`ato).ex:=λb z=>`atp
 refine⟨⟨e0.mod,S.kind,rfl,rfl,`jd,λy z c h1 h2=>?_,`atq,λy c _ h=>?_,λ_=>hd,Around.frames_deeper e0.frames,`atr,`ats,e0.bs,e0.bsz,λb _ _=>J b,`ats,e0.funs,e0.frf⟩,
  rfl,e0.bare,`IJ hk,⟨_,x.toInCall.ns,λi y v h1 h2 h3=>?_⟩,λy c h=>⟨_,x.cell y c h⟩,`att `bj,λy c h=>?_,λp hp=>`I (show p∈([]:`aD) from hp) `aw,e0.hok.kept hk,?_⟩
 ·exact name_of_addr x.apart (K0 h1) (K0 h2)
 ·have hy:`DW=`i7∨`DW=`kW:=hy
  rcases hy with hy|hy
  ·exact Z20 hy
  ·exact `I rfl (S.nofree _ (K0 hy))
 ·exact `atu
 ·have hi:i<`bS:=by
   unfold start at h2
   by_cases hi:i<`bS
   ·exact hi
   ·rw[`XK] at h2
    rw[`qo] at h2;split at h2<;>cases h2
  have ha:`XJ:=by
   unfold start at h2;rw[`JH,`ca] at h2;cases e:vs[i]? with
   | none=>rw[e] at h2;cases h2
   | some a=>rw[e] at h2;cases h2;rfl
  obtain⟨u,hu,rv⟩:=`qp ha;have hp:ps[i]?=`fk:=by
   rw[← S.pre,List.getElem?_take_of_lt `h];exact h1
  have M:ps.Nodup:=by rw[← S.pre];exact S.nd.sublist (List.take_sublist _ _)
  refine⟨u,rv,?_⟩;rcases S.par y (C5 hp) with k|k
  ·exact `o ⟨k,eu0 M hp hu k⟩
  ·obtain⟨c,e⟩:=Z20 (n:=`oJ) k
   refine `n ⟨`o k,c,e,?_⟩;have q:=x.cell y c e;rw[e60 M hp hu (by show `DW≠_;rw[k];decide)] at q;exact q
 ·exact `att (`atu)
 ·unfold start
  show _=`z7;rw[`Z,`F,`ul];omega
theorem Jx0{CX:CXT}{P:`ao}{w:`P}{K:`y}{mg:`bx}{base:`Q}{k:Nat}{f:`e}{name qual:Str}{params:Arguments}{body:`e6}{scope:`cG}{dV kV doc pm cdv ct oc:`E}{an od:`dP}
  {osl:`iN} {N ps:`g} {sp:Sp} (lk:`JI=`a ⟨oc,od,`cp `atv,osl⟩) (hcd:`XL) (S:`atl)
  (len:`XC)
  (hbody:∀(A:`cl) (outer:`fT) (s:`v) (H:Hp) (vs:`K) (Q:VK) (E:XK),`gc k (`wA (`Dz `fw `cP `M f cdv))->`Dv ->
   ∃t,PSs `XM `f' t/\`atw) :
  `R P w K mg `m CX `eS f `atv ps sp:=by
 refine⟨len,λA outer s H Y us vs Q E hr e0 hb r O=>?_⟩;have hl:=len _ _ _ _ O;have KX:`ua:=e0.mod.kin.keeps `atx
 have U:s.heap.NoLimit:=e0.mod.nolimit.keeps `atx
 have M:∀y∈`oL us,`aix∨(`rL y.1=`i7/\((`atn).lookup y.1).isSome=`b):=λhq39 hy=>by
  obtain⟨n,v⟩:=hq39
  rcases S.par n (b5 hy).1 with q|q
  ·exact `nE
  ·exact `n ⟨q,`atk _ _ _ (`nE)⟩
 refine codeAny_call_function hr.depth (KX _ _ lk) rfl S.co S.gen rfl (W.codeRec_of KX hcd) (hb _ _ _ _ ?_);refine wpAny_newFunctionEnv_cells S.kind M λenv he s1 x=>?_
 subst he;refine⟨U.keeps x.toInCall.keep,codeAny_func ?_⟩;obtain⟨t,ht,hq⟩:=hbody A `cv s H vs Q E (hr.deeper _) O;have I:Inv `XM [] `DA H s1:=Un0 S hr.hd e0 hl r x;refine D4 (ht [] s1 `DA H _ I hq) (λfl s' hs=>?_) λe s' hs=>hs
 have fin:∀{σ':St} {H':Hp} {v:V} {u:`E},Inv `XM [] σ' H' s'->`fo->`rA->`asW :=
  λ{σ' H' v u} J rv q=>⟨v,H',J.os,J.bare,J.base,J.hok,rv,q⟩
 cases fl with
 | ret u =>
  obtain⟨v,σ',H',J,rv,q⟩:=hs;exact fin J rv q
 | next =>
  obtain⟨σ',H',J,q⟩:=hs;exact fin (v:=V.non) (u:=`mO) J rfl q
 | brk =>
  obtain⟨_,_,_,q⟩:=hs;exact `fv q
 | cont =>
  obtain⟨_,_,_,q⟩:=hs;exact `fv q
section
variable{p:Pos}{t:TA}{id T:`cH}
noncomputable def tCB(r:`mm)(t:TA):TE:=fun σ H Q=>t σ H λvs H1=>r vs H1 Q
theorem jm0(hc:`aty)(hg:`cI)(hm:`nG)(hv:`atz)(ha:`uj)(hn:`kE := by decide)(hdb:`aJ:=by decide)
  (he:`d?:=by rfl) (hpl:`gF:=by rfl):`atA:=by
 intro pins s σ H Q I h;refine `atB;exact PyProof.Rows.callWith_builtin1 `atC he hpl
theorem p00(hc:`XN)(hg:`cI)(hm:`nG)(hv:`XO)(ha:`uj)(hn:`kE := by decide)(hdb:`aJ:=by decide)
  (he:`d?:=by rfl) (hpl:`gF:=by rfl):`atA:=by
 intro pins s σ H Q I h;refine `atB;exact G0 `atC he hpl
universe zz
universe L2
variable{r:`aqx}{X:L2.Cx}{ta tb te tv td ty:L2.TE}{CX:L2.CXT}{sp:L2.Sp}
namespace HT
open PyProof.Rows
section
variable{w:`P}{s:`v}
theorem Oq0{t b:`e}{ws:`ac}{Q:`aq}(ht:`wF `aE t `oO)(hb:`wF `aE b `JJ)(hv:vs≠[])
  (h1:ws=[]->Q `kS s) (h2:ws≠[]->Q `h9 { s with heap:=`fq { cls:=`eg,data:=`bP `atD } })
  (hsz:`bS+`JK<=`L):`r `av A (`kM .Add `kS `E3) Q E s:=by
 obtain⟨⟨cls,dd,data,sl⟩,ho,hc,n,hd⟩:=id ht;obtain⟨⟨Z,Y,data2,M⟩,J,U,n2,O⟩:=id hb;simp only at hc hd U O;subst hc hd U O;have e:`oO++`JJ=`atD:=`aW
 by_cases hw:ws=[]
 ·exact l6 `j? `JL y8 y9 A00 A10 (A20 _ _)
   (tuple_addW1 t b `oO `JJ n n2 dd Y sl M `XP (by simp[hw])) ⟨ho,J,h1 hw⟩
 ·refine l6 `j? `JL y8 y9 A00 A10 (A20 _ _)
   (tuple_addW2 t b `oO `JJ n n2 dd Y sl M `XP `aim (by rw[`a9,`a9];exact hsz)) ⟨ho,J,?_⟩
  rw[e];exact h2 hw
noncomputable def sIx(n d:Nat):`atE
 | `c=>d
 | `bX=>`JM
theorem Ma0(n d:Nat)(hd:d<=n)(o:`bc):sIx n d o<=n:=by
 cases o with
 | none=>exact hd
 | some v =>
  show (`JM)<=n
  by_cases hv:v<0
  ·rw[`N hv];omega
  ·rw[`ai hv];exact Bj0 _ _
theorem Y00(v:Int)(n d:Nat):`atF=((sIx n d `rr:Nat):Int):=by
 show `atF=(((`JM):Nat):Int)
 by_cases hv:v<0
 ·simp only[`N hv];omega
 ·simp only[`ai hv];omega
theorem Wc0(lo hi:`bc)(n:Nat):`atG=(`JN,`atH):=by
 have h1:¬(`wG<0):=`C
 unfold Builtin.Slice.sliceAdjust;simp only[h1,`cU];refine Prod.ext ?_ ?_
 ·cases lo with
  | none=>rfl
  | some v=>exact Y00 v n 0
 ·cases hi with
  | none=>rfl
  | some v=>exact Y00 v n n
theorem Xn0(i j:Nat):`XQ `rQ `bV 1=j - i:=by
 unfold Builtin.Slice.slicePlaces;have h1:`ail:=`C
 simp only[h1,`fW,Int.ediv_one];split<;>omega
theorem is0{v:`E}{o:`bc}{Q:`bc->`eL}(p:`wE v o)(h:Q o s):`r `av A (Builtin.Slice.slicePartIndex v) Q E s:=by
 cases p with
 | none=>exact `atI h
 | int i t=>exact slicePart_int h
theorem q00{sl:`e}{hi:`bc}{n:Nat}{Q:Int×Int×Nat->`eL}(hs:`JO)(pl:`JP)(pu:`JQ)
  (h:Q (`JN,1,`ah' - `ah9) s):`r `av A (Builtin.Slice.sliceApplied `DE (`bO `cw)) Q E s:=by
 obtain⟨os,J,O,M⟩:=id hs;unfold Builtin.Slice.sliceApplied Builtin.Slice.sliceFields;refine A0 (A0 (C9 J M (x:=vl) rfl (A0 (C9 J M (x:=vu) rfl (A0 (C9 J M (x:=`ay) rfl `DC))))));refine A0 (`atI ?_);show `r _ _ (if (`wG==0)=`b then _ else _) _ _ s;rw[`eE];refine A0 (is0 pl (A0 (is0 pu (`XR))));show `r _ _ (match `atG with|(lo,hi)=>`bO (lo,`wG,`XQ lo hi 1)) _ _ s;rw[Wc0 lo hi n];show `r _ _ (`bO (`JN,`wG,`XQ `JN `atH 1)) _ _ s;rw[Xn0];exact A1 h
theorem Q30(xs:`aI)(i k:Nat):((`bl k).filterMap `atJ).toArray=((xs.toList.drop i).take k).toArray:=by
 have e:(`atJ)=`atK:=by
  funext m
  have:`ah!=i+m:=`C
  rw[`A]
 rw[e];have:=pick_run xs i k;rw[List.filterMap_map] at this;have e2:((λx=>xs[x]?) ∘ λx=>i+x)=`atK:=rfl
 rw[e2] at this;rw[`A]
theorem ke0{t sl:`e}{hi:`bc}{Q:`aq}(ht:`atL)(hs:`JO)(pl:`JP)(pu:`JQ)
  (hw:¬(`atM))
  (h:Q `h9 { s with heap:=`fq { cls:=`eg,data:=`atN } })
  (hsz:`dq<=`L):`atO:=by
 have J:sizeOk (`atN):=by
  show (`ah?).toArray.size<=`L;rw[`a9,`dJ,`jJ,`I8];omega
 have hj:`Qu<=`dq:=Ma0 _ _ `bj hi;obtain⟨os,Y,M,Z⟩:=id hs;have U:`atP := ⟨os,Y,M⟩;unfold getItem
 try with_reducible refine `sr
 first|refine `XR|skip
 refine `atQ;refine A0 (L6 (name:=`atR) `oM U2
  `atS)
 show `atT;refine A0 (`XS ht ?_);refine A0 (P3 U ?_);rw[`XT];refine `atU;have O:¬(`Qw):=by
  intro q;rw[`a?,`a?] at q;have q1:`aic=0:=`um q.1.1;have q2:`Qv=`dq:=`um q.2;exact hw ⟨`C,`C⟩
 show `atV;rw[`ai O,Q30]
 first
  | exact `atW
  | exact A0 (m:=`DG) (E4 (A0 `atX) J)
  | exact A0 (A0 (m:=`DG) (E4 `atX J))
  | exact A0 (`atW)
universe zz
universe HT
namespace L2
open Spec PyProof.Rows
abbrev TO:=St->Hp->(`atY)->Prop
noncomputable def PO(X:Cx)(e:`pc)(t:TO):Prop :=
 ∀(pins:`aD) (s:`v) (σ:St) (H:Hp) (Q:`atY),`B->`mA ->
  `r `an X.A (evalPart e `x) (λu s'=>∃o H',`lH/\`wE u o/\Q o H') `aG s
noncomputable def Od0:TO:=λ_ H Q=>Q `c H
noncomputable def Kg0(t:TE):TO:=fun σ H Q=>t σ H λx H1=>∃i,`zU/\Q (`pr) H1
section
variable{lo hi:`pc}{tl th:TO}
theorem Nz0:PO X `c Od0:=by
 intro pins s σ H Q I h;rw[`atZ];exact A1 ⟨`c,H,I,`ay,h⟩
theorem O70(h:`fV):PO X (`a e) (Kg0 te):=by
 intro pins s σ H Q I hw;rw[evalPart_some];refine thn `WI λu s1 hq40=>?_;obtain⟨x,H1,I1,r1,q1⟩:=hq40
 obtain⟨i,rfl,q⟩:=q1;obtain⟨t,rfl⟩:=r1;exact⟨`pr,H1,I1,`PB,q⟩
noncomputable def SlR(X:Cx)(r:`qq):Prop :=
 ∀(pins:`aD) (s:`v) (σ:St) (H:Hp) (x:V) (v vl vu:`E) (lo hi:`bc) (sl:`e) (Q:VK),`B->`j9->`JO->`JP->`JQ->`at_ ->
  ∃T id,`at0/\`kT v T/\`r `an X.A (`ml v `DE) `eT `aG s
theorem SlR.or{r r':`qq}(h:SlR X r)(h':SlR X r'):SlR X (λx lo hi H Q=>`at_∨r' x lo hi H Q):=by
 intro pins s σ H x v vl vu lo hi sl Q I rx hs pl pu q;rcases q with q|q
 ·exact h `i s σ H x v vl vu lo hi sl Q I rx hs pl pu q
 ·exact h' `i s σ H x v vl vu lo hi sl Q I rx hs pl pu q
noncomputable def tSl(r:`qq)(te:TE)(tl th:TO):TE:=fun σ H Q=>te σ H λx H1=>tl σ H1 λl H2=>th σ H2 λu H3=>r x l u H3 Q
theorem Sm0{r:`qq}(hr:SlR X r)(he:`fV)(hl:`at1)(hu:`at2):PE X `at3 (tSl r te tl th):=by
 intro pins s σ H Q I h;refine `JR (thn `iL λv s1 hq41=>?_);obtain⟨x,H1,I1,r1,q1⟩:=hq41;refine `at4 (thn `at5 λvl s2 hq42=>?_);obtain⟨l,H2,I2,pl,q2⟩:=hq42;refine thn `at6 λvu s3 hq43=>?_;obtain⟨u,H3,I3,pu,q3⟩:=hq43;rw[`atZ];refine `gX;have I4:Inv X `i σ H3 `XU:=I3.kept (t':=s3.toks) `Qz
 obtain⟨T,id,hT,ht,hg⟩:=hr `i `XU σ H3 x v vl vu l u `rS Q I4 r1 `at7 pl pu q3;show `r `an X.A (`at8 e `aif v (`at9)) `eT `aG `XU;exact `XV (ops:=[`at9,v]) ht hT hg (by with_unfolding_all rfl)
noncomputable def ma0(xs:`K)(lo hi:`bc):`K:=(`om (`wI)).take (`Qy - `wI)
theorem kh0(xs:`K)(lo hi:`bc):(`DH).length<=`am:=by
 unfold ma0;rw[`dJ,`jJ];omega
noncomputable def Is0(K:`y):`qq:=λx lo hi H Q=>∃a xs,`cY/\`kK /\
 ¬`at'/\∀p,`dH->Q `c7 (upd H p (`at!))
theorem Ls0:SlR X (Is0 X.K):=by
 intro pins s σ H x v vl vu lo hi sl Q I rx hs pl pu h;obtain⟨a,xs,rfl,hx,hw,q⟩:=h;cases rx;obtain⟨its,r,ht,hz⟩:=`gU hx;have J:`gY=`am:=`at?
 refine⟨`c2,_,U2.lookup,`oM,?_⟩;refine HT.ke0 ht hs pl pu (`JS) ?_ (by rw[J];exact hz);rw[J];refine⟨`fp,_,`j' (t':=`a8) (o:=`at!) `z8 `bj ?_,rfl,`JT⟩;exact⟨`aua,_,`aub,`JU⟩
noncomputable def P60(K:`y):R2:=λx y H Q=>∃a b xs ys,`cY/\`z9/\`kK/\`auc/\`z'/\`EO /\
 (ys=[]->Q `dZ H)/\(ys≠[]->∀p,`dH->Q `c7 (upd H p (`RI)))
theorem Vals.nil_iff(r:`da):us=[]↔`un:=by
 cases r with
 | nil=>simp
 | cons _ _=>simp
theorem O00:OpR X `zV (P60 X.K):=by
 intro pins s σ H x y v u Q I rx ry h;obtain⟨a,b,xs,ys,rfl,rfl,ha,hb,hx,hz,q1,q2⟩:=h;cases rx;cases ry;obtain⟨its,r1,p1,_⟩:=`XW;obtain⟨J,r2,p2,_⟩:=`gU hb;refine HT.Oq0 p1 p2 (λz=>hx (`ajL z)) (λz=>⟨`b8,H,I,rfl,q1 (r2.nil_iff.mp z)⟩) (`o9) (by rw[← `jm,← `mJ];exact hz);refine⟨`fp,_,`j' (t':=`a8) (o:=`RI) `z8 `bj ?_,rfl,q2 (λw=>z (r2.nil_iff.mpr w)) _ `DI⟩;exact⟨`aud,_,`JV,`JU⟩
universe zz
noncomputable def ixN(n:Nat)(i:Int):`JW:=`aue
noncomputable def atI{α:Type}(xs:`aH)(i:Int):`aT α:=`auf
theorem Ym0{i:Int}(h:ixN n i=`uo):seqIndex? i n=`uo/\j<n/\`QA/\i<n:=by
 unfold ixN at h
 by_cases h0:`gg
 ·rw[`N h0] at h
  by_cases h1:i<n
  ·rw[`XX] at h
   have e:`eo=j:=`pg;exact⟨by rw[`XY h0 h1,e],`C,`C,h1⟩
  ·rw[`XZ] at h;cases h
 ·rw[`X_] at h
  by_cases h1:`QA
  ·rw[`XX] at h
   have e:`aig=j:=`pg;exact⟨by rw[`X0 `h h1,e],`C,h1,`C⟩
  ·rw[`XZ] at h;cases h
theorem fr0{xs:`aH}{i:Int}{v:α}(h:`wJ=`bX):∃j,seqIndex? i `am=`uo/\`DK=`bX/\j<`am/\-(`am:Int)<=i/\`up:=by
 unfold atI at h;cases e:`aih with
 | none=>rw[e] at h;cases h
 | some j =>
  rw[e] at h;obtain⟨h1,h2,h3,h4⟩:=Ym0 e;exact⟨j,h1,h,h2,h3,h4⟩
noncomputable def o30(b:`H):Prop:=∀o i,`xV b `q o i=`ak!
noncomputable def IxR(X:Cx)(r:R2):Prop :=
 ∀(value slice:`H) (pins:`aD) (s:`v) (σ:St) (H:Hp) (x y:V) (v u:`E) (Q:VK),`B->`j9->`e9->`Do ->
  `xV `nM `q v u=`QB [v,u] (`ml v u)->`r `an X.A (`at8 `eR `nM v u) `eT `aG s
noncomputable def MtR(X:Cx)(id:`cH)(r:`gG):Prop :=
 ∀(pins:`aD) (s:`v) (σ:St) (H:Hp) (x:V) (xs:`K) (v:`E) (us:`ac) (Q:VK),`B->`j9->`da->`aug ->
  `auh
section
variable{a:`H}
theorem IxR.or{r r':R2}(h:`X1)(h':IxR X r'):IxR X `ar?:=by
 intro value slice pins s σ H x y v u Q I rx ry q hs;rcases q with q|q
 ·exact h `eR `nM `i s σ H x y v u Q I rx ry q hs
 ·exact h' `eR `nM `i s σ H x y v u Q I rx ry q hs
theorem Xv0{r:R2}(hr:`X1)(ha:`j7)(hb:`t9)(hs:`z!):PE X `z? `Jm:=by
 intro pins s σ H Q I h;exact `JR (Rs0 ha hb I h λv u s2 x y H2 I2 rx ry q=>hr a b `i s2 σ H2 x y v u Q I2 rx ry q (hs _ _))
noncomputable def L90(K:`y):R2:=λx y H Q=>∃p xs i v,`JX/\y=`a_/\`JY/\`aui
noncomputable def Lm0(K:`y):R2:=λx y H Q=>∃p xs i v,`JX/\y=`a_/\`X2/\`aui
noncomputable def Lf0:R2:=λx y H Q=>∃z i c,x=`kU/\y=`a_/\`rU/\`auj=`dX/\Q (`r6) H
theorem Y10:IxR X (L90 X.K):=by
 intro value slice pins s σ H x y v u Q I rx ry h hs;obtain⟨p,xs,i,z,rfl,rfl,hq,he,q⟩:=h;cases rx;obtain⟨t,rfl⟩:=ry;obtain⟨its,r,pl,hz⟩:=`gE;obtain⟨j,h1,h2,h3,h4,h5⟩:=fr0 he;obtain⟨w,ew,J⟩:=`qp h2;have hl:=`b9;have hn:=q90;have fin:`auk:=`aul
 by_cases h0:`gg
 ·have hj:`eo=j:=by
   rw[`XY h0 h5] at h1;exact `xt
  exact item_listR `lO h0 `h `aum fin hs
 ·have hj:(i+`aun).toNat=j:=by
   rw[`X0 `h h4] at h1;rw[`a9,← hl];exact `xt
  exact `auo (x:=w) `aup `X3
   (wpAny_getItem_list_neg (Q:=`auq) `lO `h `X4 `h `aum `aur) hs
theorem ct0:IxR X (Lm0 X.K):=by
 intro value slice pins s σ H x y v u Q I rx ry h hs;obtain⟨p,xs,i,z,rfl,rfl,hq,he,q⟩:=h;cases rx;obtain⟨t,rfl⟩:=ry;obtain⟨its,r,pl,hz⟩:=`hr;obtain⟨j,h1,h2,h3,h4,h5⟩:=fr0 he;obtain⟨w,ew,J⟩:=`qp h2;have hl:=`b9;have hn:=q90;have fin:`auk:=`aul;exact `auo (x:=w) pl.typeIs slot_tuple_getitem.lookup
  (getItem_tuple (j:=j) (Q:=`auq) pl `h `h (by rw[`a9,← hl];exact h1) (by simpa using ew) `aur) hs
theorem K00:IxR X Lf0:=by
 intro value slice pins s σ H x y v u Q I rx ry h hs;obtain⟨z,i,c,rfl,rfl,hz,he,q⟩:=h;obtain⟨t,rfl⟩:=rx;obtain⟨t',rfl⟩:=ry;obtain⟨j,h1,h2,h3,h4,h5⟩:=fr0 he;have hl:z.cps.toList.length=`jf:=by simp[Str.length]
 rw[hl] at h1 h4 h5;have hn:=q90;exact `XV (W1 s z t) slot_str_getitem.lookup (getItem_str (c:=c) (by
  have e1:`w (i < `X5)=`q:=`JZ;have e2:`w (i ≥ 2 ^ 63)=`q:=`JZ;rw[e1,e2,`J_]) (by rw[h1];simpa using h2) ⟨`r6,H,`fs,`ae,q⟩) hs
noncomputable def rIx(K:`y):R2:=λx y H Q=>L90 K x y H Q∨Lm0 K x y H Q∨Lf0 x y H Q
theorem Mo0:IxR X (rIx X.K):=Y10.or (ct0.or K00)
theorem Xy0(its:`ac)(n j:Nat)(u:`E):`jx `aus `PF={ cls:=`dk,data:=`bP (its.set j u).toArray n }:=by
 simp[`jx]
theorem Inv.lst{σ:St}{s:`v}{p:`e}(I:`B)(h:`X6) :
  ∃(its:`ac) (n:Nat),`lD/\`aut/\`hp:=by
 obtain⟨z,its,n,r,e⟩:=`bY p _ h;exact⟨its,n,r,e,z⟩
theorem Inv.lstUpd{σ:St}{s:`v}{p:`e}{ys:`K}{its its':`ac}{n n':Nat}{f:Obj->Obj}(I:`B)(h:`X6)
  (ho:`aut) (hf:f `PF=`auu) (r:`auv) (hz:`Aa) (t:Nat) :
  Inv X `i σ (upd H p `rV) { s with heap:=`mV p f,toks:=t }:=by
 have e:(`mV p f).get? p=`a `auu:=by
  rw[Heap.get?_update_self f ho (by rw[hf]<;>rfl),hf]
 refine `Ju (x:=p) (e:=p) (by rw[h];trivial) `fm (λb u hb q=>`sp q) `J0 ?_;exact⟨hz,its',n',r,e⟩
noncomputable def Jp0:`WO:=λo i v H Q=>∃p xs k j,o=`fu/\i=`ik/\`X6/\ixN `am k=`uo/\Q `auw
theorem set_list:Rw0 X Jp0:=by
 intro pins s σ H o i v ov iv u Q I ro ri rv h;obtain⟨p,xs,k,j,rfl,rfl,hp,hj,q⟩:=h;cases ro;obtain⟨t,rfl⟩:=ri;obtain⟨its,n,r,ho,hz⟩:=I.lst hp;obtain⟨h1,h2,h3,h4⟩:=Ym0 hj;have hl:=`b9;have hn:=q90;have I':Inv X `i σ `auw { s with heap:=`mV p (`jx `aus) } :=
  I.lstUpd hp ho (Xy0 its n j u) (r.set rv j) (by rw[`uq];exact hz) `a8
 by_cases h0:`iO
 ·have hk:`eu=j:=by
   rw[`XY h0 h4] at h1;exact `xt
  exact W.ki_setAt ho h0 `h (by rw[`a9,← hl];exact h4) `aux
 ·have hk:(k+`aun).toNat=j:=by
   rw[`X0 `h h3] at h1;rw[`a9,← hl];exact `xt
  exact W.ki_setBack ho `h (by rw[`a9,← hl];exact h3) `h `aux
theorem Z70(lo hi:`bc)(n:Nat):(`X7).1=((`hU n 0 lo:Nat):Int)/\(`X7).2.1=((`hU n n hi:Nat):Int)/\(`X7).2.2=1:=by
 refine⟨?_,?_,rfl⟩
 ·cases lo with
  | none=>simp[`mn,`hU]
  | some i =>
   simp only[`mn,`hU,`auy,`auz,`fW]
   by_cases h:i<0
   ·simp only[h,`fW]<;>omega
   ·simp only[h,`cU]<;>omega
 ·cases hi with
  | none=>simp[`mn,`hU]
  | some i =>
   simp only[`mn,`hU,`auy,`auz,`fW]
   by_cases h:i<0
   ·simp only[h,`fW]<;>omega
   ·simp only[h,`cU]<;>omega
theorem d50(its:`ac)(lo hi:`bc):slicePick `a6 lo hi `c=((its.drop (`auA)).take (`hU `mo `mo hi - `auA)).toArray:=by
 obtain⟨h1,h2,h3⟩:=Z70 lo hi `gY;unfold slicePick;rw[h1,h2,h3];simp only[sliceRange_one,pick_run,`a9]<;>rfl
noncomputable def Ib0(K:`y):`qq:=λx lo hi H Q=>∃a xs,`cY/\`oA/\∀p,`dH->Q `c7 (upd H p (`auB))
theorem Om0:SlR X (Ib0 X.K):=by
 intro pins s σ H x v vl vu lo hi sl Q I rx hs pl pu h;obtain⟨a,xs,rfl,hx,q⟩:=h;cases rx;obtain⟨its,r,ht,hz⟩:=`ek hx;have J:=`b9;refine⟨`eh,_,`X3,`auC,?_⟩;refine Br0 ht.isList hs pl pu `ay `aw ?_ `X4;rw[d50,← J];refine⟨`fp,_,`j' (t':=`a8) (o:=`auB) `z8 `bj ?_,rfl,`JT⟩;exact⟨`aua,_,0,`aub,`eM⟩
noncomputable def uc0:V->`aa
 | `u=>`b
 | `bA=>`b
 | `b?=>`b
 | `br=>`b
 | _=>`q
noncomputable def eqV:V->V->`aa
 | `u,`u=>`b
 | `p!,`dm=>`j0
 | `p!,`it=>`X8
 | `nN,`dm=>`X9
 | `nN,`it=>`j0
 | `g5,`mP=>`j0
 | _,_=>`q
theorem Kb0{s:`v}{y x:V}{v:`E}(ry:`e9)(rx:`j9)(fy:`auD)(fx:`X'):`E' A s u v (`QD):=by
 cases y with
 | non =>
  cases ry;cases x with
  | non=>cases rx;exact M1 _
  | bl b=>cases rx;exact A70 b
  | int b=>obtain⟨t,rfl⟩:=rx;exact i7 b t
  | str b=>obtain⟨t,rfl⟩:=rx;exact i8 b t
  | _=>exact `J1
 | bl a =>
  cases ry;cases x with
  | non=>cases rx;exact A80 a
  | bl b=>cases rx;exact A90 a b
  | int b=>obtain⟨t,rfl⟩:=rx;exact Aa0 a b t
  | str b=>obtain⟨t,rfl⟩:=rx;exact Ab0 a b t
  | _=>exact `J1
 | int a =>
  obtain⟨t',rfl⟩:=ry;cases x with
  | non=>cases rx;exact i9 a t'
  | bl b=>cases rx;exact Ac0 a t' b
  | int b=>obtain⟨t,rfl⟩:=rx;exact j0 a t' b t
  | str b=>obtain⟨t,rfl⟩:=rx;exact Y1 a t' b t
  | _=>exact `J1
 | str a =>
  obtain⟨t',rfl⟩:=ry;cases x with
  | non=>cases rx;exact j3 a t'
  | bl b=>cases rx;exact Ad0 a t' b
  | int b=>obtain⟨t,rfl⟩:=rx;exact Y2 a t' b t
  | str b=>obtain⟨t,rfl⟩:=rx;exact k0 a t' b t
  | _=>exact `J1
 | _=>exact `I (show `ww from fy) B2
noncomputable def eqU(x:V)(u:`E):`aa:=match u with
 | `ay=>eqV `u x
 | `I4=>eqV `Df x
 | `d i _=>eqV `ej x
 | `s z _=>eqV `Fw x
 | _=>`q
theorem Ty0{x y:V}(r:`e9)(f:`auD):eqU x u=`QD:=by
 cases y with
 | non=>cases r;rfl
 | bl b=>cases r;rfl
 | int i=>obtain⟨t,rfl⟩:=r;rfl
 | str z=>obtain⟨t,rfl⟩:=r;rfl
 | _=>exact `I (show `ww from f) B2
theorem po0{x:V}:∀{xs:`K} {us:`ac},`da->`J2->us.any `oN=`auE
 | _,_,`O,_=>rfl
 | y::xs,u::us,`j1,f=>by
  rw[`lP,`a?] at f;rw[`nO,`nO,Ty0 r f.1,po0 t f.2]
theorem uh0{s:`v}{x:V}{v:`E}(rx:`j9)(fx:`X'):∀{xs:`K} {us:`ac},`da->`J2->∀u∈us,`E' A s u v (eqU x u)
 | _,_,`O,_=>λu hu=>by cases hu
 | y::xs,u::us,`j1,f=>λu' hu=>by
  rw[`lP,`a?] at f;rcases `bZ hu with rfl|hu
  ·rw[Ty0 r f.1];exact Kb0 r rx f.1 fx
  ·exact uh0 rx fx t f.2 u' hu
noncomputable def inV(x:V)(xs:`K):`aa:=`auE
noncomputable def rIn(K:`y)(neg:`aa):R2:=λx y H Q=>∃p xs,y=`fu/\(`JY∨`X2)/\`X'/\`J2/\Q (.bl (if neg then !inV x xs else inV x xs)) H
theorem Ub0:OpR X (`d0 .In) (rIn X.K `q):=by
 intro pins s σ H x y v u Q I rx ry h;obtain⟨p,xs,rfl,hq,fx,fs,q⟩:=h;cases ry;rcases hq with hq|hq
 ·obtain⟨its,r,pl,hz⟩:=`gE
  refine SeqAt.in_listAt `oN `lO `J3 `J4;rw[`J5,`J6];exact q
 ·obtain⟨its,r,pl,hz⟩:=`hr
  refine SeqAt.in_tupleAt `oN pl `J3 `J4;rw[`J5,`J6];exact q
theorem b70:OpR X (`d0 `t!) (rIn X.K `b):=by
 intro pins s σ H x y v u Q I rx ry h;obtain⟨p,xs,rfl,hq,fx,fs,q⟩:=h;cases ry;rcases hq with hq|hq
 ·obtain⟨its,r,pl,hz⟩:=`gE
  refine SeqAt.notIn_listAt `oN `lO `J3 `J4;rw[`J5,`J6];exact q
 ·obtain⟨its,r,pl,hz⟩:=`hr
  refine SeqAt.notIn_tupleAt `oN pl `J3 `J4;rw[`J5,`J6];exact q
theorem m70:`gf X `X! (λxs H Q=>∃p ys,`mp/\(`QF∨`QG)/\`auF):=by
 intro pins s σ H xs us Q I r h;obtain⟨p,ys,rfl,hq,q⟩:=h;obtain⟨u,rfl,rx⟩:=`nK;cases rx;have hn:=q90;rcases hq with hq|hq
 ·obtain⟨its,r',pl,hz⟩:=`gE
  have J:=`Ab;exact Calls.call_len_list `lO `Ac `auG
 ·obtain⟨its,r',pl,hz⟩:=`hr
  have J:=`Ab;exact len_tuple pl `Ac `auG
theorem Z90:`gf X `X! (λxs H Q=>`auH):=by
 intro pins s σ H xs us Q I r h;obtain⟨z,rfl,hz,q⟩:=h;obtain⟨u,rfl,t,rfl⟩:=`nK;have hn:=q90;exact len_str `h ⟨`QE,H,`fs,`ae,q⟩
theorem CallR.or{f:`E}{r':`mm}(h:`gf X f r)(h':`gf X f r'):`gf X f (λxs H Q=>`Jj∨r' xs H Q):=by
 intro pins s σ H xs us Q I rs q;rcases q with q|q
 ·exact h `i s σ H xs us Q I rs q
 ·exact h' `i s σ H xs us Q I rs q
theorem qf0:`gf X `xw (λxs H Q=>∃p ys,`mp/\(`QF∨`QG)/\`auI):=by
 intro pins s σ H xs us Q I r h;obtain⟨p,ys,rfl,hq,q⟩:=h;obtain⟨u,rfl,rx⟩:=`nK;cases rx;have fin:∀(its:`ac),`auJ->`Aa->∀(h':`Q) (c':Nat),(∀b o',`C5=`a o'->`ag4) ->
   `X?=`a { cls:=`dk,dict:=`c,data:=`bP `a6 c',slots:=#[] }->EP X `i σ Q `h9 `gV:=λits r' hz h' c' kp e =>
  ⟨`fp,_,`j' (t':=`a8) kp `bj (show `ct `aZ X.w _ h' _ `rV from ⟨hz,its,c',r',e⟩),rfl,`JT⟩
 rcases hq with hq|hq
 ·obtain⟨its,r',pl,hz⟩:=`gE
  have J:=`Ab;obtain⟨o,ho,hc,n,hd⟩:=`lO;exact `auK p `fm ho hc hd `auL `Ac
 ·obtain⟨its,r',pl,hz⟩:=`hr
  have J:=`Ab;obtain⟨o,ho,hc,n,hd⟩:=pl;exact `auK p `Ad ho hc hd `auL `Ac
theorem R7:`gf X `sH `auM:=by
 intro pins s σ H xs us Q I r h;obtain⟨p,ys,rfl,h⟩:=h;obtain⟨u,rfl,rx⟩:=`nK;cases rx;rcases h with⟨hq,q⟩|⟨hq,q⟩
 ·obtain⟨its,r',pl,hz⟩:=`gE
  have J:=`Ab;refine call_tuple_list `lO (λh' kp=>?_) `Ac;have I1:`I9:=I.kept (t':=`a8) kp;have I2:Inv X `i σ (upd H `rW `wM) { s with heap:=`Ya { cls:=`eg,data:=`bP `a6 } } :=
   `Du (t':=`a8) (`rD) `bj (show `ct `aZ X.w _ _ _ `wM from ⟨hz,its,r',`JU⟩)
  exact⟨`auN,_,I2,rfl,q _ (`Dk)⟩
 ·obtain⟨its,r',pl,hz⟩:=`hr
  exact call_tuple_same pl ⟨`fu,H,I,rfl,q⟩
noncomputable def tyV(K:`y)(T:`cH)(x:V)(H:Hp):Prop:=match x with
 | `br=>T = `iP
 | `b?=>T = `hu
 | `fu=>(T = `eh/\∃xs,`JY)∨(T = `c2/\∃o,`cf p=`aj/\`IB/\`IC) ∨
   (T = `EZ/\((∃kvs,`SC)∨∃kvs,H p=`aju))∨(T = "set"/\∃S n,H p=`a (.set S n))
 | _=>`bR
theorem Uz0{σ:St}{s:`v}{T:`cH}{x:V}{v:`E}(I:`B)(r:`j9)(ty:tyV X.K T x H) :
  `kT v T/\∀a,`ji->∃ob,`C9=`II/\`auO:=by
 cases x with
 | str z =>
  obtain⟨t,rfl⟩:=r;cases (show T = `iP from ty);exact⟨W1 s z t,λ_ e=>nomatch e⟩
 | int i =>
  obtain⟨t,rfl⟩:=r;cases (show T = `hu from ty);exact⟨P4 s i t,λ_ e=>nomatch e⟩
 | ref p =>
  cases r;rcases ty with⟨rfl,xs,hq⟩|⟨rfl,o,hk,hc,hd⟩|⟨rfl,hk⟩|⟨rfl,S,n,hk⟩
  ·obtain⟨its,_,pl,_⟩:=`gE
   refine⟨`aup,λa e=>?_⟩;cases e;obtain⟨o,n,e,c,hd,_⟩:=pl;exact⟨o,e,hd⟩
  ·refine⟨⟨o,`d_ p o hk,hc⟩,λa e=>?_⟩
   cases e;exact⟨o,`d_ _ o hk,hd⟩
  ·have z:∃o,`c3 p=`aj/\`V3:=by
    rcases hk with⟨kvs,hk⟩|⟨kvs,hk⟩
    ·obtain⟨_,_,_,_,o,_,_,e,ex,_⟩:=`Yb
     exact`auP
    ·obtain⟨_,_,_,_,o,_,_,e,ex,_⟩:=`Yb
     exact`auP
   obtain⟨o,e,ex⟩:=z;refine`auQ;cases e2;exact`auR
  ·obtain⟨o,_,_,_,e,ex,_⟩:=`Yb
   refine`auQ;cases e2;exact`auR
 | _=>exact `fv ty
noncomputable def I50(K:`y)(T:`cH)(r:`gG)(to:TE):TE:=fun σ H Q=>to σ H λx H1=>`auS/\r x [] H1 Q
noncomputable def tBM(K:`y)(T:`cH)(r:`gG)(to:TE)(t:TA):TE:=fun σ H Q=>to σ H λx H1=>`auS/\t σ H1 λxs H2=>r x xs H2 Q
variable{to:TE}{t:TA}{T id:`cH}{r:`gG}
theorem a80(pa:PlainAttrs T)(slot:`auT)(hty:`Yc)(hm:`Yd)(ho:`WR)
  (hbase:`Ye:=by rfl) (hline:`eF:=by rfl):PE X (`aR `Yf [] [] `b_) (I50 X.K T r to):=by
 intro pins s σ H Q I h;refine wpAny_Call_method0_late `e' `e! (thn `zO λv s1 hq44=>?_);obtain⟨x,H1,I1,r1,ty,q1⟩:=hq44;obtain⟨h1,h2⟩:=`auU;exact⟨T,id,pa,slot,hty,h1,h2,Ae0 rfl (PySem.evalArgs_none (hm `i s1 σ H1 x [] v [] Q I1 r1 `O q1))⟩
theorem rc0(pa:PlainAttrs T)(slot:`auT)(hty:`Yc)(hm:`Yd)(ho:`WR)(ha:`uj)
  (hbase:`Ye:=by rfl)
  (hfew:((`f8 `b_ (`Qo)).all `EH&&`EI
  &&`w (`Yg+`xk+`xl<30))=`b:=by rfl)
  (hline:`eF:=by rfl) (hs:`d?:=by rfl) (hplain:`auV=`q:=by rfl) :
  PE X (`aR `Yf `gd [] `b_) (tBM X.K T r to t):=by
 intro pins s σ H Q I h;refine wpAny_Call_method_late `e' `iQ `e! rfl (thn `zO λv s1 hq45=>?_);obtain⟨x,H1,I1,r1,ty,q1⟩:=hq45;obtain⟨h1,h2⟩:=`auU;refine⟨T,id,pa,slot,hty,h1,h2,?_⟩;have hA:=ha `b_ `i s1 σ H1 _ I1 q1;rw[hs] at hA ⊢;refine Ae0 (by show (`q||`auV)=`q;rw[`ka]<;>rfl) (`auW ?_);exact thn hA λus s2 ⟨vs,H2,I2,r2,q2⟩=>hm `i s2 σ H2 x vs v us Q I2 r1 r2 q2
universe zz
noncomputable def MtM(X:Cx)(id:`cH)(r:`gG):Prop :=
 ∀(pins:`aD) (s:`v) (σ:St) (H:Hp) (x:V) (xs:`K) (v:`E) (us:`ac) (Q:VK),`B->`j9->`da->`aug ->
  `auh
theorem Vals.one:∀{x:V} {us:`ac},`asf->`asg:=by
 intro x us h
 cases h with
 | cons r t=>cases t;exact`agN
theorem Vals.two:∀{x y:V} {us:`ac},`bt `Fr us->∃u v,us=[u,v]/\`gW/\`di y v:=by
 intro x y us h
 cases h with
 | cons r t=>cases t with
  | cons q t=>cases t;exact⟨_,_,rfl,r,q⟩
theorem Vals.zero:∀{us:`ac},`bt [] us->us=[]
 | _,`O=>rfl
theorem Vals.dropLast(h:`da):`bt `QJ us.dropLast:=by
 induction h with
 | nil=>exact `O
 | cons r t ih =>
  cases t with
  | nil=>exact `O
  | cons q t'=>exact `zt
theorem Vals.reverse(h:`da):`bt `J7 us.reverse:=by
 induction h with
 | nil=>exact `O
 | cons r t ih=>rw[`eG,`eG];exact `auX ih (`ah r `O)
theorem Vals.rep(h:`da):∀k:Nat,`bt `auY (`aL k us).flatten
 | 0=>`O
 | k+1=>by
  rw[`ea,`ea,`kb,`kb];exact `auX h (Vals.rep h k)
theorem Wi0(l:`aH):l.eraseIdx (`dL - 1)=`auZ:=by
 induction l with
 | nil=>rfl
 | cons a r ih =>
  cases r with
  | nil=>rfl
  | cons b r =>
   have e:`au_ - 1=(`au0 - 1)+1:=by
    have h1:`au_=`b9+2:=rfl;have h2:`au0=`b9+1:=rfl;omega
   rw[e,List.eraseIdx_cons_succ,ih]
   all_goals rfl
theorem foldl_rep(its:`ac):∀(k:Nat) (acc:`ac),
  List.foldl (λx1 x2=>x1++x2) `au1 (`aL k `a6)=(acc++`au2).toArray
 | 0,acc=>`aW
 | k+1,acc=>by
  have e:`au1++`a6=(`Yh).toArray:=`aW
  have e2:(`Yh)++`au2=acc++(`aL `eS its).flatten:=by
   rw[`ea,`kb,`bp]
  rw[← e2,← `ajM its k (`Yh),← e,`ea,`J8]
section
variable{σ:St}{s:`v}{b:`e}{ys zs:`K}
theorem Inv.lset{its its':`ac}{n:Nat}{f:`aI->`aI}{t':Nat}(I:`B)(hH:`ur)
  (e:`au3) (hf:f `a6=`aii) (hv:`auv) (hz:`Aa) :
  Inv X `i σ (upd H l `rV) { s with heap:=`mV l (`jx f),toks:=t' }:=by
 have q:=PySem.IsL.update e f;rw[hf] at q;refine `Ju (x:=l) (e:=l) (by rw[hH];exact `sh) `fm (λb' u hb hu=>(K2 `aE (`jx f) (B4 hb)).trans hu) ⟨_,q⟩ ?_;exact⟨hz,its',_,hv,q⟩
theorem Inv.lnew{its:`ac}{t':Nat}(I:`B)(hv:`auJ)(hz:`Aa) :
  Inv X `i σ (upd H `M `rV) { s with heap:=`fq { cls:=`dk,data:=`bP `a6 },toks:=t' } :=
 `j' `Yi `bj ⟨hz,its,0,hv,`eM⟩
theorem Inv.fresh(I:`B):H `M=`c:=`Dx
theorem Inv.lstM(I:`B)(hH:`ur):`hp/\∃(its:`ac) (n:Nat),`lD/\`am=`mo/\`au3:=by
 obtain⟨z,its,n,r,e⟩:=`bY l _ hH;exact⟨z,its,n,r,`b9,e⟩
theorem Qh0(h:`us):`J9 n=`q:=by
 unfold Builtin.List.listTooLong;exact `JZ
universe zz
noncomputable def Nd0:`gG:=λx vs H Q=>∃l xs y,`Ae/\vs=[y]/\`ur/\`am<`L/\Q `u (upd H l (`l (xs++[y])))
theorem qp0:MtM X `au4 Nd0:=by
 intro pins s σ H x vs v us Q I rx rv h;obtain⟨l,xs,y,rfl,rfl,hH,hz,q⟩:=h;cases rx;obtain⟨u,rfl,ru⟩:=`J';obtain⟨z,its,n,r,hl,e⟩:=`J!;refine E5 F.slot_list_append `J? F.entry_list_append (F.args_list_append_2 _ _) (PySem.list_append l `a6 n u `pk) `Yj;refine⟨`u,_,`Ka (its':=its++[u]) hH e `aw (`z4 (`ah ru `O)) ?_,rfl,q⟩;rw[`Z,`cn];omega
noncomputable def Ip0:`gG:=λx vs H Q=>∃l xs y,`Ae/\vs=[]/\`ur/\xs[`am - 1]?=`fk/\Q y (upd H l `Yk)
theorem S10:MtM X "list.pop" Ip0:=by
 intro pins s σ H x vs v us Q I rx rv h;obtain⟨l,xs,y,rfl,rfl,hH,hy,q⟩:=h;cases rx;have M:=rv.zero;subst M;obtain⟨z,its,n,r,hl,e⟩:=`J!;obtain⟨u,hu,ru⟩:=`qp hy;have J:`a6[`gY - 1]?=`bi:=by
  show `a6[`mo - 1]?=`bi;rw[← `au5,← hl];exact hu
 refine E5 F.slot_list_pop `J? F.entry_list_pop (F.args_list_pop_1 _) (MeetsSeq.list_pop_last l `a6 n u J `pk) `Yj;refine⟨y,_,`Ka (its':=its.dropLast) hH e ?_ r.dropLast ?_,ru,q⟩
 ·show its.toArray.eraseIdxIfInBounds (`gY - 1)=its.dropLast.toArray
  rw[`a9,List.eraseIdxIfInBounds_toArray,Wi0]
 ·rw[List.length_dropLast]
  omega
noncomputable def Ml0:`gG:=λx vs H Q=>∃l xs,`Ae/\vs=[]/\`ur/\Q `u (upd H l `ev)
theorem S90:MtM X "list.clear" Ml0:=by
 intro pins s σ H x vs v us Q I rx rv h;obtain⟨l,xs,rfl,rfl,hH,q⟩:=h;cases rx;have J:=rv.zero;subst J;obtain⟨z,its,n,r,hl,e⟩:=`J!;refine E5 F.slot_list_clear `J? F.entry_list_clear (F.args_list_clear_1 _) (AutoSeq1.list_clear_list_0 l `a6 n `pk) `Yj;exact⟨`u,_,`Ka (its':=[]) (ys:=[]) hH e rfl `O `qr,rfl,q⟩
theorem len_rep(xs:`aH)(k:Nat):(`aiq).flatten.length=k*`am:=by
 induction k with
 | zero=>simp
 | succ k ih=>rw[`ea,`kb,`Z,ih,`Yl,Nat.add_comm]
universe L2
namespace Att
open PySem.W PySem.Calls PyProof.Rows
theorem im0{P:`QQ}{h:`Q}:∀(ns:`_) (vs:`ac),WellAll P h vs (`ms WData.int)->`Af:=by
 intro ns
 induction ns with
 | nil =>
  intro vs w;rw[`jr] at w;cases w;exact `O
 | cons n ns ih =>
  intro vs w;rw[`T] at w;cases w with
  | cons a b =>
   cases a;exact `ah _ _ (ih _ b)
theorem U40{l:`Ym}(hn:`Kb){P:`QQ}{h:`Q}{args:`au6}{vals:`ac}
  (hpre:l.row.toRowW.claim.pre `iM=`b) (hwl:WellAll P h vals `iM) :
  ∃a vs ns,vals=[`hG]/\`iM=[WData.list (`ms WData.int)]/\`hI=`air/\`Af/\`Ag:=by
 have M:WShape.hasAll [] `iM [.list `d]=`b:=(`au7).1;have hc:l.pre.holds [] { args:=`iM }=`b:=(`au7).2;obtain⟨d,r,rfl,h1,h2⟩:=hasAllW_cons M;obtain rfl:=hasAllW_nil h2;obtain⟨xs,rfl,h3⟩:=hasW_list h1;obtain⟨ns,rfl⟩:=items_int h3;have J:`Ag:=by
  unfold OpenLaw.pre at hc;have h4:(WTm.not (.lt (.lit `GF) (.len (.arg 0)))).holds [] { args:=[.list (`ms `d)] }=`b:=by
   have h4:=(holds_andW hc).1;rw[hn] at h4;exact h4
  have h5:=condW_of h4 (w_not (w_lt w_lit (w_len_list (w_arg rfl))));rw[`F] at h5;refine Nat.le_of_not_lt λq=>?_
  have q':`cw<((`eP:Nat):Int):=`C
  first
   | (rw[`bF q'] at h5;exact `I h5 `p)
   | (simp at h5;omega)
 cases hwl with
 | cons w1 w2 =>
  cases w2;cases w1 with
  | list ho hall=>exact⟨_,_,ns,rfl,rfl,ho,im0 ns _ hall,J⟩
theorem S50(l:`Ym)(args:`au6):l.row.toRowW.claim.post `iM `wQ `iM=`b :=
 postW_of (r:=`QR) (X:=`au8)
  (show `au9 [] `wQ `f9=`b by first|rfl|decide|simp[`au9,WShape.arms,WShape.armsAll])
  (show (WTm.eq .res (.lit `wQ)).value [] { args:=`iM,res:=`a `wQ,after:=`iM }=`a (`f9 `au8) from w_eq_bool (w_res rfl) w_lit) rfl
theorem Zx0{l:`Ym}{n:Nat}{q:`ao}{loose:`g}{XP:`Iu}{YP:`Iv}{d:DefRec}
  (hn:`Kb) (hdf:`Yn)
  (call:∀(w:`P) (s₀ s₁:`v) (mg mb:`bx) (fa:`e) (o:Obj) (pm cd doc:`E) (a:`e) (vs:`ac) (ns:`_),
   Ground q loose [] XP w s₀ mg mb `rX->YP w `rX ->
   `DT fa=`aj->`rl=`cp (docDef `QL d.params d.body d.scope pm cd doc)->s₁.heap.CodeRec cd `QL->`Yo ->
   `au'->`Af->`Ag->`au! ->
   `gZ (`wc `ag w) `wS (`oQ `wP `QO) `ais `eq) :
  WalkO q loose XP YP `QR d [] `aiu:=by
 intro w s₀ s₁ mg mb G Y fa o pm cd doc dV kV ho hd a2 hD Z hg a3 vals as O a4 a6 a1 a5;obtain rfl:dV=`ay:=Dflts.none hD hdf;obtain rfl:kV=`ay:=Dflts.noKw hD;obtain⟨a,vs,ns,rfl,rfl,U,J,M⟩:=U40 hn O a1;refine enter_call (b4 (`ep w s₀ `eq mg mb fa o pm cd doc a vs ns G Y ho (fd_plain hd) a2 Z U J M hg) `XF);obtain⟨rfl,h2,h3,h4⟩:=hq;exact⟨`o ⟨`DR,`DR,[],rfl,`iz,`DR,S50 l _,λ_=>⟨`akg,λ_ hm=>(nomatch hm)⟩⟩,h2,h3,h4⟩
universe Att
namespace L2
open Spec PyProof.Rows
theorem e80:∀{vs:`ac} {ns:`_},`Af->`bt `wT vs
 | _,_,`O=>`O
 | _,_,`ah n t h=>`ah `Ah (e80 h)
noncomputable def Only(H:Hp):Prop:=∀b,`c4∨∃o xs,H b=`DV
theorem Sh0{P:`ao}{w:`P}{K:`y}{mg mb:`bx}{CX:CXT}{k:Nat}{fa a:`e}{fd:`ho}{x:Str}{sp:Sp}{s₁:`v}{vs:`ac}{ns:`_}
  (KX:`ro `rX) (hns:`Yp `ba mg) (hb:`Yp `Wm mb) (hbb:`ap1) (hlim:s₁.heap.NoLimit) (hg:`au!)
  (ha:`au') (hi:`Af) (hl:`asr) (hr:`Yq)
  (F:∀base:`Q,`Wl->`zy->`R P w K mg `m CX k fa fd [x] sp) (hbind:`Yr)
  (hsp:∀H:Hp,Only H->`Ys->sp `eU H `Kc `lJ)
  (hCX:∀H e s',CX [] H `eq (`lJ) e s'->`bR) :
  `au?:=by
 have rv:=e80 hi;have Y:=hi.length;have O:∀H:Hp,Only H->`Ys->HOk P w H `rX->(∀b,`Yt->b=a)->(H a≠`c->`cf a=`c) ->
   `au?:=by
  intro H hO hS hok hA hK;have J:∀{b:`e} {o:Obj},`DT b=`aj->`c4->(`Ai).get? b=`aj:=λe n=>Su0 e n
  have a1:∀{b:`e} {o:Obj} {es:`ol DictEntry} {ep:Nat},`DT b=`aj->`V4->`c4:=λ{b o es ep} e d=>by
   cases q:H b with
   | none=>rfl
   | some u =>
    have e':b=a:=`ava;subst e';rw[ha] at e;cases e;have d':Data.seq `oO _=Data.dict es ep:=d;cases d'
  have M:∀{b:`e} {m:`bx},`Yp b m->(`Ai).Ns b m:=λ{b m} ⟨o,es,ep,e,d,r⟩=>⟨o,es,ep,J e (a1 e d),d,r⟩
  have U:`ro (`Ai):=λb o e=>J (KX b o e) (by
   cases q:H b with
   | none=>rfl
   | some u =>
    have e':b=a:=`ava;subst e';rw[hK (`QP)] at e;cases e)
  have hM:Mod K mg (`Ai):=⟨U,M hns,⟨mb,M hb,hbb⟩,let ⟨mc,h1,h2⟩:=hlim;⟨mc,M h1,h2⟩⟩;have e0:Env0 P w K mg (`Ai) `wS [] `eq H:=⟨rfl,hM,λb o e=>O10 e,H0 (Vm0 _ _),`sh,λb hb=>`I (show `ah5 from hb) `aw,hok,.of_eq hg⟩;refine b4 ((F _ U (M hns)).run `wS [] `eq H `QO `eU `eU _ _ hr e0 (hbind `eq `dZ) (`ah rfl `O) (hsp H hO hS)) λr s' h=>?_
  cases r with
  | error e=>exact(hCX H e s' h).elim
  | ok fl =>
   cases fl with
   | next=>exact `fv h
   | brk=>exact `fv h
   | cont=>exact `fv h
   | ret u =>
    obtain⟨v,H',os,bare,un,Z,r',q⟩:=h;have q':v=`dr:=q;subst q';obtain rfl:u=`Kd:=r';refine⟨rfl,OldK.of_keep `avb,os,bare⟩;cases q:H b with
    | none=>exact un.keep b o e q (by intro z;exact `atp) `aw
    | some u =>
     rcases hO b with z|⟨ob,xs,z⟩
     ·rw[q] at z;cases z
     ·have z2:=un.frzs b ob _ z
      obtain⟨e1,_⟩:=hok b _ z;obtain⟨e2,_⟩:=Z b _ z2;rw[e] at e1;cases e1;exact e2
 cases hk:`cf a with
 | some o =>
  have e:=KX a o hk;rw[ha] at e;cases e;refine O (`ud) (λ_=>`bQ) (`n ⟨_,`oO,_,hk,rfl,rfl,rfl,by rw[`a9,Y];exact hl,`aq9⟩) (λb u z=>by have z':(`c:`qf)=`bi:=z;cases z') (λb z=>`avc) λz=>`avc
 | none =>
  refine O (λb=>if b=a then `a (`hK `QK (`l `wT)) else `c) (λb=>?_) (`o (`n ⟨`QK,`bm⟩)) (λb u z=>?_) (`E0) λ_=>hk
  ·by_cases hb:b=a
   ·exact `n ⟨_,_,`iR⟩
   ·exact `o (`hw)
  ·by_cases hb:b=a
   ·have z':=(`iR).symm.trans z
    cases z';subst hb;exact⟨ha,by rw[`F];exact hl,vs,_,rv,ha⟩
   ·have z':=(`hw).symm.trans z
    cases z'
  ·by_cases hb:b=a
   ·exact hb
   ·exact `I (`hw) z
theorem Py0{l:`Yu}{n k:Nat}{q:`ao}{loose:`g}{XP:`Iu}{YP:`Iv}{d:DefRec}{K:`avd}{CX:`P->CXT}{sp:`P->Sp}{x:Str}
  (hn:`Kb) (hn2:`us) (hdf:`Yn) (hr:`Yq)
  (hY:`ave)
  (F:∀(w:`P) (mg:`bx) (fa:`e) (h:`Q),`wV h->`Ke->`Yo ->
   ∃fd:`ho,(`Yr) /\
    ∀base:`Q,`wV `m->`zy->`R `ag w `rY mg `m (CX w) k fa fd [x] (sp w))
  (hsp:∀(w:`P) (H:Hp) (a:`e) (ns:`_),`Ag->Only H->`avf->sp w `eU H `Kc `lJ)
  (hCX:∀(w:`P) (H:Hp) (s:`v) (e:`E) (s':`v),CX w [] H s (`lJ) e s'->`bR) :
  `avg:=by
 refine Att.Zx0 hn hdf λw s₀ s₁ mg mb fa o pm cd doc a vs ns G Y ho hd Z U O M J hg=>?_
 have KX:=hY w _ Y;obtain⟨fd,hb,hF⟩:=F w mg fa _ KX G.T.g U;exact Sh0 KX G.T.g G.T.b G.T.builtins G.T.nolimit hg O M (B9 J hn2) hr hF hb (λH hO hS=>hsp w H a ns J hO hS) λH e s'=>hCX w H `eq e s'
noncomputable def V5(s:`bw):Arguments:=match s with
 | `Yv _ a _ _ _ _ _ _ _ _=>a
 | _=>{ posonlyargs:=[],args:=[],vararg:=`c,kwonlyargs:=[],kw_defaults:=[],kwarg:=`c,defaults:=[] }
noncomputable def W6(s:`bw):`e6:=match s with
 | `Yv _ _ b _ _ _ _ _ _ _=>b
 | _=>[]
noncomputable def t7(s:`bw):`cG:=match s with
 | `Yv _ _ _ _ _ _ sc _ _ _=>sc
 | _=>{ kind:=`mj,names:=[],isGenerator:=`q,isCoroutine:=`q }
abbrev CX0:CXT:=λ_ _ _ _ _ _=>`bR
abbrev E0:XK:=`lJ
theorem n80:ql0 CX0 X E0:=λ_ _ _ _ _ _ _ h=>`lK
structure Fun(K:`y)(x qual:Str)(st:`bw)(f:`e)(fd:`ho):Prop where
 ex:∃(oc:`E) (od:`dP) (kV doc pm:`E) (an:`dP) (cdv ct:`E) (osl:`iN),
  fd=`Kf/\`JI=`a ⟨oc,od,`cp fd,osl⟩/\`XL
 kp:`Js
section
variable{P:`ao}{w:`P}
theorem Fun.ok{st:`bw}{f:`e}{ps:`g}{k:Nat}(F:`avh)(S:`Kg)(len:`XC)
  (hbody:∀(cdv:`E) (A:`cl) (outer:`fT) (s:`v) (H:Hp) (vs:`K) (Q:VK) (E:XK),`gc k (`wA (`Dz `fw `oR `M f cdv))->`Dv ->
   ∃t,PSs (nm0 CX0 P w K mg `m N `fw `oR f cdv A `cv s H E).nox `wW t/\`atw):`R P w K mg `m CX0 `eS f fd ps sp:=by
 obtain⟨oc,od,kV,doc,pm,an,cdv,ct,O,rfl,lk,M⟩:=F.ex;refine Jx0 lk M S len λA outer s H vs Q E hr J=>?_
 obtain⟨t,h,q⟩:=hbody cdv A `cv s H vs Q E hr J;exact⟨t,h.nox,q⟩
theorem Fun.binds{st:`bw}{f:`e}{ps:`g}(F:`avh)
  (h:∀(kV doc pm:`E) (an:`dP) (cdv ct:`E) (us:`ac),`k8=`ax->`qc (`Kf) `JA=`bO `z2):`xm:=by
 obtain⟨oc,od,kV,doc,pm,an,cdv,ct,J,rfl,lk,M⟩:=F.ex;exact .all (h kV doc pm an cdv ct)
theorem z10{st:`bw}{f:`e}{osl:`iN}{kV:`E}(l:`JI=`a ⟨oc,od,`cp (`Kf),osl⟩)
  (c:`XL) (k:`Js):Fun K x `fw st f (`Kf):=⟨⟨oc,od,kV,doc,pm,an,cdv,ct,osl,rfl,l,c⟩,k⟩
universe zz
theorem yq0{k:Nat}(hr:`z1):`Aj:=P5 (Nat.add_le_add_left (`X:1<=64) _) `VF
structure Same(H H':Hp):Prop where
 old:`avi
 nf:∀b o xs,`avj
instance{H H':Hp}:`eH (`a') (λ_=>`avi):=⟨Same.old⟩
theorem Same.refl(H:Hp):`c8 H H:=⟨λ_ _ h=>h,λ_ _ _ h=>h⟩
theorem Same.trans{H1:Hp}(a:`c8 H H1)(b:`Kh):`c8 H H2:=⟨λc o h=>b c o (a c o h),λc o xs h=>a.nf c o xs (b.nf c o xs h)⟩
theorem Same.free(e:`a')(h:H' l=`avk):H l=`avk:=by
 cases q:H l with
 | none=>rfl
 | some o =>
  rw[e l o q] at h;cases h
noncomputable def Its(x:Str):It:=⟨λi _=>i<`Ak,λi H v H'=>H'=H/\∃c,`Yw=`dX/\v=`r6,λi _=>`Ak<=i⟩
theorem ad0{P:`ao}{w:`P}{K:`y}{tg:`H}(it:`e)(T:`cH)(hT:T = `avl∨T = `avm)(x:Str)(t:Tok) :
  `oz P w K tg (Its x) [it] it (λi h=>h.IsStrIter it T x t i) where
 mem:=`aW
 obj:=λi h st b hb=>by
  have e:b=it:=`j4
  subst e;obtain⟨o,e,c,d⟩:=st;exact`W5
 keep:=λi h h' st k=>by
  obtain⟨o,e,r⟩:=st;exact⟨o,`ahr,r⟩
 item:=by
  intro X hP hw hK hc i pins s σ H E I hf st hg;subst hP hw hK;have O:i<`Ak:=hg;have hx:`Yw=`a `aiw:=by simp[O]
  obtain⟨f0,f1,f2,f3,f4,f5⟩:=`nJ;have fin:∀h',h'.IsStrIter it T x t `dG->`avn ->
    ∃u,(`a (`CW `avo `a8))=`bi/\`r `an X.A `W0 (λ_ s2=>∃x_1 H',`W1/\`di x_1 u/\(Its x).yld i H x_1 H'/\s2.heap.IsStrIter it T x t `dG/\∀b∈[it],`ru) E `Ki:=by
   intro h' J sb;have I1:Inv X `i σ H `Ki:=`Dj `P' f0 f1 f3 f4 f5;obtain⟨o,e,c,d⟩:=id J;refine⟨_,rfl,ca0 (s:=`Ki) (n:=T) e c d (by rcases hT with rfl|rfl<;>decide) ⟨`s `avo,H,I1,`ae,⟨rfl,_,hx,rfl⟩,J,`Jd⟩⟩
  rcases hT with rfl|rfl
  ·exact wpAny_pyNext_ascii_item st hx `avp
  ·exact wpAny_pyNext_wide_item st hx `avp
 done:=by
  intro X hP hw hK hc i pins s σ H E I hf st hg;subst hP hw hK;have M:`Ak<=i:=hg;have hx:`Yw=`c:=by simp[M]
  obtain⟨f0,f1,f2,f3,f4,f5⟩:=`nJ;rcases hT with rfl|rfl
  ·exact wpAny_pyNext_ascii_end `hs st hx `zQ
  ·exact wpAny_pyNext_wide_end `hs st hx `zQ
 self:=λ_ _ _ _ _ st h=>by
  rcases hT with rfl|rfl
  ·exact wpAny_pyIter_striter_ascii st h
  ·exact wpAny_pyIter_striter_wide st h
noncomputable def Ia0(te:TE):TI:=fun σ H R=>te σ H λv H1=>∃x,`Kj/\R (Its x) H1
theorem K20(he:`fV):PI X tg e (Ia0 te):=by
 intro pins s σ H R I h;refine thn `iL λv s1 hq46=>?_;obtain⟨y,H1,I1,r1,q1⟩:=hq46
 obtain⟨x,rfl,q⟩:=q1;obtain⟨t,rfl⟩:=r1;have fp:∀(o:Obj),∀b∈`zR,q50 X `i H1 b:=λo b hb=>by
  have e:b=`f?:=`j4
  subst e;exact `t5
 cases ha:x.cps.all (·<128) with
 | true =>
  exact wpAny_pyIter_ascii ha ⟨`f?,`zR,_,_,H1,rfl,`Je,ad0 _ `avl `fm x t,`Jf,`avq,q⟩
 | false =>
  exact wpAny_pyIter_wide ha ⟨`f?,`zR,_,_,H1,rfl,`Je,ad0 _ `avm `Ad x t,`Jf,`avq,q⟩
noncomputable def Y8(X:Cx)(scope:`cG)(cl:`qs)(N':`g)(s:`v)(H:Hp)(ex:`aU):Cx :=
 { X with N:=N',s₀:=s,H₀:=H,env:=compEnvC `cP cl `M `x,outer:=`hM,ex:=ex,fn:=λ_=>`q,pn:=[],xe:=`D0 }
structure CompOk(sc scope:`cG)(N N':`g)(n:Nat)(caps:`k):Prop where
 kind:scope.kind=`mj
 nocell:∀y∈`ge,`avr
 loc:∀y∈`ge,`avs
 free:∀y∈`ge,`avt
 nd:N'.Nodup
 len:`avu
 cap:∀k∈`bl `rZ,`avv
noncomputable def J5(n:Nat)(caps:`k)(σ:St):St:=`aL n `c++`avw
theorem Va0(n:Nat)(caps:`k)(σ:St):`avx=n+`rZ:=by simp[J5]
theorem qa0{env:Env}:∀(names:`avy),(∀x∈`kc,`avz)->∀acc:`qs,
  ∃cl:`qs,(`sy `kc acc (λ(x:`aiB) (cs:`qs)=>if (x.2==`i8)=`b then do let a ← cellOf env x.1;`bO (`D_ ((x.1,a)::cs)) else `bO (`D_ cs)):Sem (`qs))=`bO cl /\
   (∀y c,`Yx->`DX y=`dX∨`avA)/\(∀x∈`kc,`Yy)/\(∀y c,`avA->∃c',`wX y=`a c')
 | [],_,acc=>⟨acc,rfl,λ_ _ h=>`Kk,(λ_ h=>nomatch h),λ_ c h=>⟨c,h⟩⟩
 | `Yz,h,acc=>by
  cases hk:(`QW) with
  | true =>
   have hk':k=`i8:=by simpa using hk
   obtain⟨c,hc⟩:=h `DY A6 hk';obtain⟨cl,e,h1,h2,h3⟩:=qa0 r (`nP) ((n,c)::acc);refine⟨cl,?_,`avB,`avC,`avB⟩
   ·rw[`Kl]
    simp only[hk,`fW,cellOf,hc,pure_bind];exact e
   ·rcases h1 y d hy with z|z
    ·exact `fA
    ·rw[`fX] at z
     cases q:(y==n) with
     | true =>
      rw[q] at z;cases z;have:y=n:=`W'
      subst this;exact `o hc
     | false =>
      rw[q] at z;exact `n z
   ·rcases `qt with rfl|hx
    ·exact h3 n c (by simp[`fX])
    ·exact `avD
   ·by_cases q:y=n
    ·subst q
     exact h3 y c (by simp[`fX])
    ·refine h3 y d ?_
     have:(y==n)=`q:=`W'
     rw[`fX,`A];exact hy
  | false =>
   obtain⟨cl,e,h1,h2,h3⟩:=qa0 r (`nP) acc;refine⟨cl,?_,h1,`avC,h3⟩
   ·rw[`Kl]
    simp only[hk,`qu,`cU,pure_bind];exact e
   ·rcases `qt with rfl|hx
    ·have:k=`i8:=hf
     rw[`A] at hk;exact `I hk `p
    ·exact `avD
theorem p70{env:Env}(h:∀x∈`ge,`avz) :
  ∃cl:`qs,`avE `cP env=`bO cl/\(∀y c,`Yx->`DX y=`dX)/\∀x∈`ge,`Yy:=by
 obtain⟨cl,e,h1,h2,_⟩:=qa0 `ge h [];refine⟨cl,?_,λy c hy=>(h1 y c hy).elim id `dI,h2⟩;simp only[`avE];rw[← bind_pure (`sy _ _ _)] at e
 first
  | exact e
  | (refine Eq.trans ?_ e;rfl)
theorem tv0{env:Env}:∀(names:`avy) (x:Str),
  (`yl `YA).lookup x =
   (names.lookup x).map λk=>`YB
 | [],_=>rfl
 | `Yz,x=>by
  have ih:=@tv0 env r x;have l1:`lM x ((`Yz).map `YA) =
    `lM x ((if `avF then (n,`wY) else `DY)::r.map `YA):=rfl
  rw[l1,`fX (as:=r)]
  by_cases hc:`avF
  ·rw[`N hc,`fX]
   cases hx:x==n with
   | true =>
    have e:x=n:=`avG
    subst e;show `a `wY=`a (`YB);rw[`N hc]
   | false=>exact ih
  ·rw[`Al,`fX]
   cases hx:x==n with
   | true =>
    have e:x=n:=`avG
    subst e;show `fz=`a (`YB);rw[`Al]
   | false=>exact ih
section
variable{w:`P}{R:`qd}{s:`v}
theorem cw0{elt target iter:`H}{ifs:`bI}{scope:`cG}{pos:Pos}{it acc:`E}{env:Env}(I:`YC)
  (turn:∀n s,I n s->`r `av A (`ss it) (λr s₁=>match r with
   | `c=>R `avH `eq
   | `bX=>`r `av A (`ahq `D1 it v) (λ_ s₁'=>`r `av A (`hQ `D1 env v) (λ_ s₂ =>
     `r `av A (`sy ifs `b λc r=>if r=`b then do let ok ← `C? c env (`bb c env);`avI else `avJ) (λok s₃ =>
      if ok=`b then `r `av A (`bb elt env) (λx s₄ =>
       `r `av A (`ep (`cK `au4) [acc,x]) (λ_ s₅=>∃m,m<n/\I m s₅) `nQ s₄) `nQ s₃
      else ∃m,m<n/\I m s₃) `nQ s₂) `nQ s₁') `nQ `eq) `nQ s)
  (n:Nat) (h:I n s) :
  `gZ `av A (.compLoop `avK 0 it acc env) R s:=by
 refine codeAny_loop rfl I (λn s hI=>?_) n h;show `r _ A ((compTurn `avK 0 it acc env).onRaise (λx=>do noteFrame x env;theTreesLotGoes x)) _ _ s;refine wpAny_noted ?_;rw[compTurn_list];refine A0 (y4 (A0 (D4 (turn n s hI) (λr s₁ h₁=>?_) `ut)));cases r with
 | none=>exact A1 h₁
 | some v =>
  refine A0 (D4 h₁ (λ_ s₁' J=>?_) `ut);refine A0 (D4 J (λ_ s₂ h₂=>A0 (D4 h₂ (λok s₃ h₃=>?_) `ut)) `ut);cases ok with
  | false=>exact A1 ⟨rfl,h₃⟩
  | true =>
   exact A0 (A0 (D4 h₃ (λx s₄ h₄=>A0 (D4 h₄ (λ_ s₅ h₅=>A1 (A1 ⟨rfl,h₅⟩)) `ut)) `ut))
universe zz
noncomputable def PF(X:Cx)(ifs:`bI)(t:TT):Prop :=
 ∀(pins:`aD) (s:`v) (σ:St) (H:Hp) (Q:`zG),`B->`mA ->
  `r `an X.A (`sy ifs `b λc r=>if r=`b then do let ok ← `C? c `x (`bb c `x);`avI else `avJ) `WF `aG s
theorem M80:PF X [] λ_ H Q=>Q `b H:=λ_ _ _ H _ I h=>wpAny_tests_nil ⟨H,I,h⟩
theorem Mk0{t:TT}(h:PT X c t):PF X [c] t:=λpins s σ H Q I q=>wpAny_tests_one (h `i s σ H Q I q)
noncomputable def Wk(σ σ':St):Prop:=`Wy/\∀(j:Nat) (v:V),`YD->σ'[j]?=`oq
noncomputable def dx0(n:Nat)(caps:`k)(wi:TI)(g:TG)(tt:TT)(te:TE):TE:=fun σ H Q=>wi σ H λJ H1=>∀D,H1 D=`c ->
 ∃W:`avL,(∃m,W 0 m [] (upd H1 D `ev))/\∀i m ys H2,`avM ->
  `avN∨(J.go i H2/\∀x H3,`avO->g x `eV H3 fun σ4 H4=>`avP/\tt σ4 H4 λb H5 =>
   `avQ)
section
variable{wi:TI}{g:TG}{tt:TT}
noncomputable def Kj0(X:Cx)(pins:`aD)(H:Hp)(C:`e):Prop :=
 H C=`c/\C≠`fn/\`os<=C/\(∀x c,`i9->c≠C)/\∀p∈`C6,p.1≠C
theorem es0{pins:`aD}{σ:St}{H2:Hp}{s2:`v}{it:`e}{fp:`aU}{tn:`WY}{J:It}{cl:`qs}{Q:VK}{RR:`E->`e->`qd}{E:`aq}
  (hc:`bL) (hsc:`fY) (ok:`nR)
  (hcl1:∀y c,`Yx->`ap3) (hcl2:∀x∈`ge,`Yy)
  (hg:∀s H ex,`aiJ) (ht:∀s H ex,`aiK) (he:∀s H ex,`aiL)
  (I2:`arT) (T:`arl) (st2:`arm) (f2:∀b∈fp,q50 X `i H2 b)
  (q:∀D,H2 D=`c->∃W:`avL,(∃m,W 0 m [] (upd H2 D `ev))/\∀i m ys H2,`avM ->
   `avN∨(J.go i H2/\∀x H3,`avO->g x `eV H3 fun σ4 H4=>`avP/\tt σ4 H4 λb H5 =>
    `avQ))
  (hend:∀(D C:`e) (H':Hp) (s':`v) (m:`bx),`lH->Kj0 X `i H' C->s'.heap.Ns C m->Q `oS H'->RR `oS C `avH s') :
  `r `an X.A (`YE) (λacc s₃=>`r `an X.A (newFunctionEnv `cP `Wo cl [] X.env.qual `c `ay (`a `x)) (λcenv s₄ =>
   `gZ `an X.A (.compStart `mv 0 `jb acc { cenv with scope:=`aiG }) (RR acc cenv.locals) s₄) E s₃) E s2:=by
 refine E4 (wpAny_newFunctionEnv ok.nocell (by intro y hy;simp at hy) (λh₁ Y Z=>?_) `wo);dsimp only at Y Z ⊢;obtain⟨D,hD⟩:∃D,D=`Am:=`ae;have I3:Inv X `i σ (upd H2 `Am `ev) `avR:=I2.lnew (its:=[]) (t':=`QY) `O `qr;have e6:H2 `Am=`c:=I2.fresh;obtain⟨W,⟨m0,w0⟩,b2⟩:=q `Am e6;generalize hs3:(`avR:`v)=s3 at *;have a8:`aiE=s3.heap:=`Km
 have h8:`QY=s3.toks:=`Km
 rw[a8] at Y Z ⊢;generalize hH3:upd H2 `Am (`Tc [])=H3 at *;rw[← hD] at b2 hH3 e6 ⊢;have old:∀b o,`avS->`YF:=λb o e=>Z.extBut b o `WQ (`oD)
 have a6:∀b o,s2.heap.get? b=`aj->`avS:=λb o e=>by rw[← a8];exact `oD
 have e4:∀b∈fp,b<`rS:=λb hb=>by
  obtain⟨o,e,_⟩:=`avT;exact A8 `avU
 have g9:∀b∈fp,b≠D:=λb hb z=>by
  obtain⟨o,e,_⟩:=`avT;rw[z,hD] at e;exact `I `ov `lE
 obtain⟨X',M⟩:∃X',X'=`avV:=`ae;have g6:X'.Ok:=by
  subst M;refine⟨I3.ok.mod,`wo,I3.ok.glob,I3.ok.blt,`jd,λx y c h1 h2=>I3.ok.inj x y c (hcl1 x c h1) (hcl1 y c h2),`nS,λx c h _=>`I h (by simp[Y8]),I3.ok.hd,I3.ok.frames,`bQ,
   λb hb=>⟨`avW,`avX⟩,λb o e=>I3.bs b o e,B9 I3.ok.bsz I3.sz,λb o e hb=>?_,λb hb hf=>?_,I3.stack,I3.stkFree⟩
  ·have a2:(`w_=`i7)∨(`w_=`kW):=hx
   have q2:=tv0 (env:=`x) `ge x;have q3:`avY:=q2
   cases e:`rL x with
   | none =>
    rw[q3,e] at a2;rcases a2 with z|z<;>cases z
   | some k =>
    have hk:k=`i8:=by
     rw[q3,e] at a2;have nc:=ok.nocell (x,k) (K0 e);cases k<;>first
      | rfl
      | exact `I rfl nc
      | (rcases a2 with z|z<;>simp at z)
    subst hk;exact hcl2 `YG (K0 e) rfl
  ·rcases `avZ with z|z
   ·exact I3.ok.noex b o e z
   ·exact `I (B6 (A8 (I3.ok.bs b o e).1) z) `lE
  ·rcases `av_ with z|z
   ·exact`YH z
   ·exact(`kX).2.2.1 z
 have I4:Inv X' [] `eV H3 `av0:=by
  refine⟨g6,?_,?_,?_,?_,`IR,?_,`IR,`fU,(by subst M;exact I3.hok.kept old),?_⟩
  ·subst M;rfl
  ·exact I3.bare
  ·subst M;exact `IJ old
  ·subst M
   refine⟨_,Y,`aqd⟩;have hi:n<=i:=by
    by_cases hi:i<n
    ·unfold J5 at e2
     rw[`JH,`qo,`N hi] at e2;cases e2
    ·omega
   obtain⟨k,rfl⟩:∃k,i=n+k:=⟨i - n,`C⟩;have hk:k<`rZ:=by
    have:=(`cL e1).1;have e5:(`avV).N.length=n+`rZ:=ok.len;omega
   obtain⟨c1,c2⟩:=ok.cap k (`fL hk);have c8:`QS=`dE:=e1;unfold J5 at e2;rw[`av1,`ul,`av2,`ca] at e2;obtain⟨j,hj⟩:∃j,`QT=`uo:=⟨caps[k],by simp[hk]⟩;rw[hj] at e2 c1;have h7:X.N[j]?=`dE:=by rw[← c8,c1];rfl
   have a4:`QU=`bX:=A3 e2;have f1:`YD:=by
    cases q:`r_ with
    | none=>rw[q] at a4;cases a4
    | some o=>rw[q] at a4;rw[show o=`bX from a4]
   rw[c8] at c2;have O:`rL x=`kW:=by simpa using c2
   have b1:=ok.free `YG (K0 O) rfl;obtain⟨m,hn,hl⟩:=I3.loc;obtain⟨u,ru,l⟩:=hl j x v h7 f1 (by
    rcases b1 with z|z
    ·exact `n (`o `av3)
    ·exact `n (`n `av3))
   refine⟨u,ru,`n `Kn⟩
   ·have q3:`avY:=tv0 `ge x
    rw[O] at q3;show `w_=_∨`w_=_;rw[q3]
    by_cases hcc:(`QV==`QV&&`aiH&&`aiI)=`b
    ·left;simp only[`gH,`N hcc]
    ·right;simp only[`gH,`ai hcc]
   ·obtain⟨c',d2⟩:=hcl2 `YG (K0 O) rfl
    rcases l with⟨f6,_⟩|⟨_,c,f7,c3⟩
    ·have c0:`ahc:=f6
     rw[hsc] at c0;rcases b1 with z|z<;>(rw[c0] at z;cases z)
    ·have:=hcl1 x c' d2
     rw[f7] at this;cases `A;obtain⟨o,ho,hd⟩:=c3;exact⟨_,d2,o,`av4,hd⟩
  ·have e':`wX x=`dX:=`av5
   obtain⟨v,o,ho,hd⟩:=I3.cell x c (hcl1 x c e');exact⟨v,o,`av4,hd⟩
  ·subst M;exact I3.hok.fresh `bj
  ·have e':`wX x=`dX:=`av5
   exact I3.freeC x c (hcl1 x c e')
  ·subst M;exact `av6
  ·subst M
   show _=`aiy;rw[Va0,ok.len]
 have a7:X'.calm=`b:=by subst M;exact hc
 have U:∀{H':Hp},`t7->∀b∈fp,q50 X' [] H' b:=λ{H'} hn b hb=>by
  subst M;refine⟨hn b hb,`avW,λhf=>?_,`o hb,`avX,λp hp=>`av6⟩;rcases `av_ with z|z
  ·exact`YH z
  ·exact(`kX).2.2.1 z
 have f9:∀b∈fp,H3 b=`c:=λb hb=>by rw[← hH3,d9 (g9 b hb)];exact(`kX).1
 have e7:tn 0 h₁:=T.keep _ _ _ st2 λb hb o e=>old b o `avU
 have loop:∀s4:`v,s4=`av0 ->
   `gZ `an X.A (.compLoop `mv 0 `jb `oS X'.env) (RR `oS `rS) s4:=by
  rintro s4 rfl;refine cw0 (λk s'=>∃i ys H',Inv X' [] `eV H' s'/\`arQ/\`t7/\W i k ys H') ?_ m0 ⟨0,[],H3,I4,e7,f9,w0⟩;rintro k s5 ⟨i,ys,H5,I5,c4,d1,w5⟩;have eP:X'.prog=`aZ:=`An
  have ew:X'.w=X.w:=`An
  have eK:X'.K=X.K:=`An
  have eA:X'.A=X.A:=`An
  rcases b2 i k ys H5 w5 with⟨stop,qe⟩|⟨go,step⟩
  ·have T':=T.done X' eP ew eK a7 i [] s5 `eV H5 `nQ I5 (U d1) c4 stop
   rw[eA] at T';refine thn T' λr s6 hq47=>?_;obtain⟨hr,I6⟩:=hq47
   subst hr;have h5:Un (`zC) fp H3 H5 s3.heap s6.heap:=by have:=I6.base;subst M;exact `A
   have g4:s6.os=s3.os:=by have:=I6.os;subst M;exact `A
   have f3:HOk `aZ X.w H5 s6.heap:=by have:=I6.hok;subst M;exact `A
   have IX:Inv X `i σ H5 s6:=I3.call' g4 h5 f3 I6.bare λb hb=>⟨`avZ,`YH,`aiF,(`kX).2.2.2.2.2⟩
   obtain⟨m6,g3,_⟩:=I6.loc;have f0:s6.heap.Ns `rS m6:=by subst M;exact g3
   refine hend D `rS H5 s6 m6 IX ⟨by have:=I6.free;subst M;exact `A,C2 I3.lt,I3.sz,`arg,`arh⟩ f0 qe
   ·obtain⟨v,qc⟩:=I3.cell x c e
    exact `I (B6 qc.lt `av7) `lE
   ·exact `I (B6 (A8 (I3.pin p hp).1) `av7) `lE
  ·have T':=T.item X' eP ew eK a7 i [] s5 `eV H5 `nQ I5 (U d1) c4 go
   rw[eA] at T';refine thn T' λr s6 hq48=>?_;obtain⟨u,hr,h6⟩:=hq48
   subst hr;refine thn h6 λ_ s7 hq49=>?_;obtain⟨x,H7,I7,r7,y7,b0,f4⟩:=hq49
   have g8:=I7.pinned (U f4) (`wZ _ _ b0);have c5:=hg s3 H3 fp;have d3:=ht s3 H3 fp;have e0:=he s3 H3 fp;rw[← M] at c5 d3 e0;have g1:=c5 _ s7 `eV H7 x u _ g8 r7 (step x H7 y7);rw[eP,ew,eA] at g1;have a5:X'.xe=`D0:=`An
   rw[a5] at g1;refine thn g1 λ_ s8 hq50=>?_;obtain⟨σ8,H8,I8,a3,q8⟩:=hq50
   have t1:=d3 _ s8 σ8 H8 _ I8 q8;rw[eP,ew,eA,a5] at t1;refine thn t1 λb s9 hq51=>?_;obtain⟨H9,I9,q9⟩:=hq51
   have back:∀{σa:St} {Ha:Hp} {sa:`v} {b3:`K} {ma:Nat},Inv X' ([]++mh0 fp s7.heap) σa Ha sa->σa.length=`avx->(∀(j:Nat) v,`eV[j]?=`oq->σa[j]?=`oq)->W `dG ma b3 Ha ->
     ∃i ys H',Inv X' [] `eV H' sa/\tn i sa.heap/\`t7/\W i ma ys H':=λ{σa Ha sa b3 ma} Ia hl hw wa=>by
    refine⟨i+1,b3,Ha,(Ia.weak hl.symm hw).unpinned,T.keep _ _ _ b0 λb hb o e=>(`av8).1,`gD,wa⟩;obtain⟨o,e,d⟩:=`wZ _ _ b0 b hb;exact(`av8).2.1
   cases b with
   | false =>
    rw[`nI];rw[`nI] at q9;obtain⟨m',hm,w9⟩:=q9;exact⟨m',hm,back I9 a3.1 a3.2 w9⟩
   | true =>
    rw[`bm];rw[`bm] at q9;have e1:=e0 _ s9 σ8 H9 _ I9 q9;rw[eP,ew,eA,a5] at e1;refine thn e1 λv g7 hq52=>?_;obtain⟨y,h0,g5,h3,e8,e9,m',hm,f8⟩:=hq52
    have a1:=qp0 (X:=X') _ g7 σ8 h0 `oS [y] `oS [v] (λ_ H'=>W `dG m' (ys++[y]) H') g5 rfl (`ah h3 `O) ⟨D,ys,y,rfl,rfl,e8,e9,f8⟩;rw[eP,ew,eA,a5] at a1;refine thn a1 λ_ h9 hq53=>?_;obtain⟨_,i0,h4,_,f5⟩:=hq53
    exact⟨m',hm,back h4 a3.1 a3.2 f5⟩
 subst M;exact codeAny_compStart_list (loop _ (`Km)) (T.self X.A 0 _ _ _ e7 (loop _ (`Km)))
theorem gf0(hc:`bL)(hsc:`fY)(ok:`nR)(hi:`W!)
  (hg:`av9) (ht:`av') (he:`av!)
  (hs:`eC:=by intro _;rfl) :
  PE X `mv (dx0 n `cg wi g tt te):=by
 intro pins s σ H Q I h;obtain⟨cl,M,U,O⟩:=p70 (env:=`x) (scope:=`cP) λx hx hf=>`WB x.1 (by
  rcases `av? with z|z
  ·exact `awa
  ·exact `awb)
 rw[eval_ListComp];refine Bu0 (use:=`c) rfl hs M `wo ok.loc (thn `zS λv s1 h1=>thn h1 λa1 s2 h2=>?_);obtain⟨it,fp,tn,J,H2,rfl,I2,T,Y,f2,q2⟩:=h2;refine es0 (Q:=Q) (RR:=λZ C=>compPost `an X.A `aG `c `eT Z C) hc hsc ok U O (hg cl) (ht cl) (he cl) I2 T Y f2 q2 ?_;intro D C H' s' m IX as hn qe;refine⟨m,hn,λh' sb=>⟨`z D,H',IX.turned (t':=s'.toks) `P' as.1 as.2.1 (`n as.2.2.1) `YI `awc,rfl,qe⟩⟩
theorem it0{py spos:Pos}(hN:`e8)(hiN:`uu)(hy:`kd)(hc:`bL)(hsc:`fY)(ok:`nR)(hi:`W!)
  (hg:`av9) (ht:`av') (he:`av!)
  (hsw:`YJ:=by rfl)
  (hs:`eC:=by intro _;rfl)
  (hf:`ke:=by first|exact `bQ|exact `b'|assumption) :
  PS X `ajd (λD σ H=>dx0 n `cg wi g tt te σ H `awd):=by
 intro pins s σ H D I h;obtain⟨cl,M,U,O⟩:=p70 (env:=`x) (scope:=`cP) λx hx hf=>`WB x.1 (by
  rcases `av? with z|z
  ·exact `awa
  ·exact `awb)
 rw[exec_Assign_Name_used _ _ _ _ hsw];refine A0 (y4 (`lL));show `r _ X.A (do let _ ← comprehension `mv `cP `x _ (`YE) `q (`bb `je `x) (`YK)) _ _ s;refine A0 (D4 (Bu0 (use:=`YK) (Q:=`awe) rfl hs M `wo ok.loc
  (thn `zS λv s1 h1=>thn h1 λa5 s2 h2=>?_)) (λ_ s' hq=>A1 (A1 hq)) `Wx)
 obtain⟨it,fp,tn,J,H2,rfl,I2,T,a1,f2,q2⟩:=h2;refine es0 (Q:=`awd) (RR:=λa3 C=>compPost `an X.A `aG (`YK) (`awe) a3 C) hc hsc ok U O (hg cl) (ht cl) (he cl) I2 T a1 f2 q2 ?_;intro Da C H' s' m IX as hn qe;show `r _ X.A (`hQ `D7 `x (`z Da)) _ _ _;refine `aq8 (eq0 IX hN hiN hy (v:=`z Da) rfl (λa4 Z hq54=>?_) hf);obtain⟨a,sb,ha⟩:=hq54;have a2:C≠a:=by
  rcases ha with z|z
  ·rw[z];exact as.2.1
  ·exact B4 (`YI y a z)
 refine⟨m,`aqv sb a2,λh' Y=>⟨_,H',Z.turned (t':=a4.toks) (λb o hb e=>(Y.2 b hb).trans e) as.1 as.2.1 (`n as.2.2.1) `YI `awc,qe⟩⟩
universe zz
universe L2
namespace DL
open Spec PyProof.Rows
inductive D where
 | non|bl (b:`aa)|int (i:Int)|str (x:Str)|tup (ds:`j)|lst (ds:`j)|dct (ks:Sum (`YL) (`ad (`YL))) (ds:`j)|fn (ks:`YL) (ds:`j)
 deriving Inhabited
variable{ns ds:`D9}{n' d0 b':DL.D}{q:`awf}
@[simp] noncomputable def unl:`kf
 | `t [_,d]=>d
 | d=>d
@[simp] noncomputable def isL:`dc
 | `Ao=>`b
 | _=>`q
inductive Sl where
 | un|sh (d:D)|ow (d:D)
 | ex (c:Str) (n:`bc)
abbrev Ds:=`ad Sl
inductive Res where
 | nx (δ:Ds)|rt (d:D)|bk (δ:Ds)|ct (δ:Ds)|rf (d:D)
variable{f:`awg}{g ge gb:`awh}{gt:`awi}{δ':`oW}{gi gA:`awj}
abbrev GE:=`cb
abbrev GB:=`gI
variable{g0 go g1:DL.GE}
abbrev GA:=`fZ
abbrev GS:=`iS
@[simp] noncomputable def asB:D->`D'
 | `dm=>`k0
 | _=>`c
variable{G:DL.GS}
@[simp] noncomputable def asI:D->`bc
 | `a_=>`pr
 | _=>`c
@[simp] noncomputable def gv(i:Nat):GE:=fun δ=>match `cj with
 | `Rf=>`bd
 | _=>`c
@[simp] noncomputable def gc(d:D):GE:=λ_=>`bd
@[simp] noncomputable def o2(ga gb:GE)(f:`bs):GE:=fun δ=>`Ap λx=>`YM λy=>f x y
@[simp] noncomputable def ob(g:GE):GB:=fun δ=>`cq asB
@[simp] noncomputable def yv0(g:GB):GB:=fun δ=>`uv (!·)
@[simp] noncomputable def ww0(gt gu:GB):GB:=fun δ=>`r3 λt=>if `w4 then gu δ else `aV
@[simp] noncomputable def z50(gt gu:GB):GB:=fun δ=>`r3 λt=>if `w4 then `eb else gu δ
@[simp] noncomputable def tg0(ga gb:GE):GE:=fun δ=>`awk λt=>if `w4 then `d3 else `qv
@[simp] noncomputable def orG(ga gb:GE):GE:=fun δ=>`awk λt=>if `w4 then `lB else `d3
@[simp] noncomputable def Ql0(ga:GE):GE:=fun δ=>(`aiO).map λt=>.bl (!t)
@[simp] noncomputable def v5:GA:=`awl
@[simp] noncomputable def z7(g:GE)(gA:GA):GA:=fun δ=>`cq λd=>(`b!).map λds=>`as
@[simp] noncomputable def R6(gA:GA):GE:=fun δ=>`gq λds=>if `qw then `Ko else `c
@[simp] noncomputable def Y7(gA:GA):GE:=fun δ=>`gq λds=>if `qw then `qx else `c
@[simp] noncomputable def oA(gA:GA)(f:`J):GE:=fun δ=>`gq f
@[simp] noncomputable def Q4(f:`dc)(g:GE):GE:=fun δ=>`uv λd=>.bl (f d)
@[simp] noncomputable def U4(d:D):`d2:=match d with
 | `a_=>`a (`d (-i))
 | _=>`c
@[simp] noncomputable def unG(f:`w2)(g:GE):GE:=fun δ=>`cq f
@[simp] noncomputable def v7(G1 G2:GS):GS:=fun δ=>match `mx with
 | `d4=>`Aq
 | r=>r
@[simp] noncomputable def t6:GS:=`awm
@[simp] noncomputable def Y6(g:GE):GS:=fun δ=>`uv .rt
@[simp] noncomputable def gN(i:Nat):`aS:=λd δ=>`a `Kp
@[simp] noncomputable def b7(f:`aS)(g:GE):GS:=fun δ=>`cq λd=>(`r4).map .nx
@[simp] noncomputable def ifD(gt:GB)(Ga Gb:GS):GS:=`awn
noncomputable def z20(f:`aS)(G:GS):`j->`iS
 | [],δ=>`w3
 | `as,δ=>match `awo G with
  | `d4=>`awp
  | `Kq=>`awp
  | `Kr=>`d4
  | r=>r
@[simp] noncomputable def wp0(gi:GA)(f:`aS)(G:GS):GS:=fun δ=>`uw λitems=>`YN
@[simp] noncomputable def lp0:`YO
 | `ch=>`jh
 | _=>`c
@[simp] noncomputable def P40:`YO
 | `b0=>`jh
 | _=>`c
noncomputable def signs(x:Str):`j:=x.cps.toList.map `awq
@[simp] noncomputable def Y60:`YO
 | `bH=>`a (`iT x)
 | _=>`c
@[simp] noncomputable def vu0(g:GE):GA:=fun δ=>`cq lp0
@[simp] noncomputable def tupI(g:GE):GA:=fun δ=>`cq P40
@[simp] noncomputable def j00(g:GE):GA:=fun δ=>`cq Y60
noncomputable def J6(lo hi:Int):`j:=(`bl `rE).map λk=>`d (lo+(k:Nat))
@[simp] noncomputable def Xt0(ds:`j):`oX:=match ds with
 | [`fr]=>if `Jg then `a (J6 0 j) else `c
 | _=>`c
@[simp] noncomputable def V90(ds:`j):`oX:=match ds with
 | `W8=>if (`awr)/\`Jg then `aws else `c
 | _=>`c
@[simp] noncomputable def u80(gA:GA):GA:=fun δ=>`gq Xt0
@[simp] noncomputable def k30(gA:GA):GA:=fun δ=>`gq V90
@[simp] noncomputable def noT:GB:=λ_=>`eb
@[simp] noncomputable def lw0:`Ks->Sl
 | `Rf=>`fx
 | _=>.un
@[simp] noncomputable def ze0(n:Nat)(caps:`k)(δ:Ds):Ds:=`awt++`awu
noncomputable def zs0(f:`aS)(gt:GB)(ge:GE)(δ:Ds):`Kt
 | []=>`oY
 | `as=>match `r4 with
  | `c=>`c
  | `o_=>match `Ar with
   | `c=>`c
   | `aV=>`awv
   | `eb=>match `Ea with
    | `c=>`c
    | `fk=>(`awv).map λr=>y::r
@[simp] noncomputable def U5(n:Nat)(caps:`k)(gi:GA)(f:`aS)(gt:GB)(ge:GE):GE :=
 fun δ=>`uw λitems=>if `qy then `aww `l else `c
@[simp] noncomputable def T4(N:`g)(ds:`j):Ds:=ds.map .sh++`aL (`z7 - `bk) .un
@[simp] noncomputable def isInt:`dc
 | `b?=>`b|`bA=>`b|_=>`q
@[simp] noncomputable def isStr:`dc
 | `br=>`b|_=>`q
@[simp] noncomputable def isBool:`dc
 | `bA=>`b|_=>`q
@[simp] noncomputable def isTup:`dc
 | `Ao=>`b|_=>`q
@[simp] noncomputable def ii(f:Int->Int->`d2):`bs
 | `a_,`fr=>f i j
 | _,_=>`c
@[simp] noncomputable def O6:`bs:=ii λi j=>`a (`d (i - j))
@[simp] noncomputable def o8:`bs:=ii λi j=>if `Jn then `awx else `c
@[simp] noncomputable def o5:`bs:=ii λi j=>if 0<j then `YP else `c
@[simp] noncomputable def nf0:`bs:=ii λi j=>if `Xe then `a (`ahI) else `c
@[simp] noncomputable def ltD:`bs:=ii λi j=>`a (.bl (`w (i<j)))
@[simp] noncomputable def leD:`bs:=ii λi j=>`a (`ahJ)
@[simp] noncomputable def gtD:`bs:=ii λi j=>`a (.bl (`w (j<i)))
@[simp] noncomputable def geD:`bs:=ii λi j=>`a (`ahK)
@[simp] noncomputable def eqS:D->D->`D'
 | `u,`u=>`eb
 | `u,`b?=>`aV|`b?,`u=>`aV|`u,`bA=>`aV|`bA,`u=>`aV|`u,`br=>`aV|`br,`u=>`aV
 | `a_,`fr=>`YQ
 | .bl i,.bl j=>`YQ
 | `s i,`s j=>`YQ
 | `b?,`br=>`aV|`br,`b?=>`aV|`bA,`br=>`aV|`br,`bA=>`aV
 | _,_=>`c
@[simp] noncomputable def eqD(x y:D):`d2:=`awy .bl
@[simp] noncomputable def neD(x y:D):`d2:=`awy λb=>.bl (!b)
@[simp] noncomputable def Ke0:`dc
 | `u=>`b|_=>`q
@[simp] noncomputable def qb0(x y:D):`d2:=match y with
 | `u=>`a (.bl (Ke0 x))
 | _=>`c
noncomputable def ixN(n:Nat)(i:Int):`JW:=`aue
noncomputable def atI{α:Type}(xs:`aH)(i:Int):`aT α:=`auf
@[simp] noncomputable def ixD:`bs
 | `cN,`a_=>`wJ
 | `ei,`a_=>`wJ
 | `kU,`a_=>if `rU then (`auj).map `awq else `c
 | _,_=>`c
noncomputable def sIx(n d:Nat):`atE
 | `c=>d
 | `bX=>`JM
noncomputable def cutD(xs:`j)(lo hi:`bc):`j:=(`om (`YR)).take (`awz - `YR)
abbrev GO:=`ux
@[simp] noncomputable def J8:GO:=λ_=>`dn
@[simp] noncomputable def someO(g:GE):GO:=fun δ=>`cq λd=>(asI d).map `a
@[simp] noncomputable def V2:`J
 | `DN=>if `rU then `a (`QE) else `c
 | [`cN]=>`awA
 | [`ei]=>`awA
 | _=>`c
noncomputable def jh0:`j->`aT (`g)
 | []=>`oY
 | `mP::ds=>(jh0 ds).map λr=>b::r
 | _=>`c
@[simp] noncomputable def dw0(d:D)(ds:`j):`d2:=match d,ds with
 | `s sep,[`cN]=>(jh0 xs).bind λys=>if `awB then `a `awC else `c
 | _,_=>`c
@[simp] noncomputable def ni0(g:GE)(gA:GA):GE:=fun δ=>`cq λd=>`gq λds=>dw0 d ds
@[simp] noncomputable def zo0:`J
 | `As=>`Ko
 | [`b0]=>`Ko
 | _=>`c
theorem rs0{gt:GB}{ge:GE}{δ:Ds}(p:`dc)(h:`kf):∀{items:`j},(∀d∈`aQ,∃δ',`YS/\`Ar=`a (p d)/\(p d=`b->`awD)) ->
  `awE=`a ((items.filter p).map h)
 | [],_=>rfl
 | `as,H=>by
  obtain⟨δ',e1,e2,e3⟩:=H d A6;have ih:=rs0 p h λd hd=>H d (A4 _ hd)
  unfold zs0;rw[e1];dsimp only;rw[e2];cases hp:p d with
  | false =>
   dsimp only;rw[List.filter_cons_of_neg (`YT)];exact ih
  | true =>
   dsimp only;rw[e3 hp,ih,List.filter_cons_of_pos hp];rfl
theorem vh0{gt:GB}{ge:GE}{δ:Ds}(h:`kf){items:`j}(H:∀d∈`aQ,∃δ',`YS/\`Ar=`eb/\`awD):`awE=`a (items.map h):=by
 have:=rs0 (f:=f) (gt:=gt) (ge:=ge) (δ:=δ) (λ_=>`b) h (items:=`aQ) λd hd=>by
  obtain⟨δ',a,b,c⟩:=H d hd;exact⟨δ',a,b,λ_=>c⟩
 rw[List.filter_eq_self.mpr `aw] at this;exact `A
theorem strs_map(h:α->Str):∀l:`aH,`awF=`a (`er h)
 | []=>rfl
 | a::l=>by
  show (`awF).map (λr=>h a::r)=_;rw[strs_map h l];rfl
theorem tu0(P:Nat->Ds->Prop):∀(items:`j) (i:Nat) (δ:Ds),(∀j d δ,`aQ[j]?=`bd->P (i+j) δ->∃δ1 δ2,`awG/\`awH/\P (i+j+1) δ2)->P i δ ->
  ∃δ',`YN=`d4/\P (i+`cx) δ'
 | [],i,δ,_,h=>⟨δ,rfl,h⟩
 | `as,i,δ,H,h=>by
  obtain⟨δ1,δ2,e1,e2,h2⟩:=H 0 d δ rfl h;obtain⟨δ',e3,h3⟩:=tu0 P ds `dG δ2 (λj d δ hj hp=>by
   have q:i+`qz=i+1+j:=`C
   obtain⟨a,b,c,d',e⟩:=H `qz d δ (`At) (by rw[q];exact hp);exact⟨a,b,c,d',by rw[q] at e;exact e⟩) h2
  have q:i+`Ku=i+1+`bk:=`lt
  refine⟨δ',?_,by rw[q];exact h3⟩;unfold z20;rw[e1];simp only[`f,e2];exact e3
theorem K80{G1 G2:GS}{δ:Ds}(h:`YU):`Kv=`Aq:=`YV
theorem m9{G1 G2:GS}{δ:Ds}{d:D}(h:`mx=`sc):`Kv=`sc:=`YV
theorem W2{g:GE}{δ:Ds}{d:D}(h:`hx):Y6 g δ=`sc:=by unfold Y6;rw[h];rfl
theorem X3{g:GE}{δ:Ds}{d:D}(h:`hx):b7 `Rz g δ=`a (.nx `Kp):=by unfold b7;rw[h];rfl
theorem T6{g:GB}{Ga Gb:GS}{δ:Ds}(h:`ar=`eb):`awI=Ga δ:=`awJ
theorem c7{g:GB}{Ga Gb:GS}{δ:Ds}(h:`ar=`aV):`awI=Gb δ:=`awJ
theorem xv0{gi:GA}{gt:GB}{ge:GE}{δ:Ds}{items out:`j}(h1:`Kw)(h2:`qy)(h3:`Q1=`a out):`awK=`a (`l out):=by
 unfold U5;rw[h1];show (if `qy then `aww `eY else `c)=_;rw[`N h2,h3];rfl
theorem wi0{gi:GA}{δ:Ds}{items:`j}{r:`w1}(h1:`Kw)(h2:`YN=r):wp0 gi f G δ=r:=by
 unfold wp0;rw[h1];exact h2
theorem cons_of{g:GE}{gA:GA}{δ:Ds}{d:D}(h1:`hx)(h2:`lQ):z7 g gA δ=`a `jO:=by unfold z7;rw[h1,h2];rfl
theorem m5{gA:GA}{δ:Ds}{f:`J}(h:`lQ):oA gA f δ=f ds:=by unfold oA;rw[h];rfl
theorem p6{ga gb:GE}{δ:Ds}{x y:D}{f:`bs}(h1:`c9=`dE)(h2:`d3=`fk):`awL=f x y:=by unfold o2;rw[h1,h2];rfl
theorem O50{g:GE}{gA:GA}{δ:Ds}{x:D}(h1:`ar=`dE)(h2:`lQ):ni0 g gA δ=dw0 x ds:=by unfold ni0;rw[h1,h2];rfl
theorem xw0{xs:`aH}{i:Int}(h0:`gg)(h1:`up)(d:α):`wJ=`a (`Kx `eo d):=by
 unfold atI ixN;rw[`N h0,`XX];show xs[`eo]?=_;have:`eo<`am:=`C
 simp[`bg,`A]
universe DL
variable{f:`awg}{g ge gb:`awh}{ns ds:`D9}{n' d0 b':DL.D}{q:`awf}{gt:`awi}{G:DL.GS}{δ':`oW}{gi gA:`awj}{g0 go g1:DL.GE}
namespace DL
open Spec PyProof.Rows L2
abbrev BS:=`e->Prop
abbrev St:=L2.St
variable{B B' B₀:DL.BS}
structure NB(o:`qf):Prop where
 ne:o≠`c
 nf:∀ob u,o=`V9->∃xs,u=`cN
 nt:∀xs,o≠`gP
instance{o:`qf}:`eH (NB o) (λ_=>o=`c->`bR):=⟨λh e=>h.ne e⟩
theorem NB.of{o:`qf}{u:HO}(h:o=`bi)(n:∀ob u',u≠`ag3)(t:∀xs,u≠`ei):NB o:=by
 subst h;exact⟨`awM,λob u' z=>`I (A3 z) (n ob u'),λxs z=>t xs (A3 z)⟩
theorem NB.keep(q:`Au)(h:`mz):NB (H' a):=by
 cases e:H a with
 | none=>exact `I e h.ne
 | some o=>rw[q o e,← e];exact h
theorem NB.same(q:`a')(h:`mz):NB (H' a):=h.keep λo e=>q a o e
noncomputable def SqT'(K:`y)(H:Hp)(B:BS)(a:`e)(xs:`K):Prop:=`r7/\H a=`gP
noncomputable def SqL'(K:`y)(H:Hp)(B:BS)(a:`e)(xs:`K):Prop:=(`awN)∨`bR
theorem SqT'.to(h:`Ec):`kK:=`o (`o h.2)
theorem SqL'.at(h:`w7):`awN:=`lK id `fv
theorem SqL'.to(h:`w7):`oA:=`o h.at.2
noncomputable def Gr(H H':Hp)(B B':BS):Prop:=∀b o,`r!->H b=`aj->¬B' b/\`hJ=`aj
theorem SqT'.mono(g:`ec)(h:`Ec):SqT' K H' B' a xs:=`awO
theorem SqL'.mono(g:`ec)(h:`w7):SqL' K H' B' a xs:=by
 obtain⟨n,h|⟨o,h⟩⟩:=h.at
 ·exact `o ⟨(`Ky).1,`o (`Ky).2⟩
 ·exact `o ⟨(`Ky).1,`n ⟨o,(`Ky).2⟩⟩
theorem Gr.same(s:`a'):`awP:=λb o n h=>⟨n,s b o h⟩
theorem Gr.less(h:`uy):Gr H H B B':=λb o n e=>⟨λz=>n (h b z),e⟩
abbrev KS:=Sum (`gN) (`ad (`gN))
noncomputable def dOb:KS->`K->HO
 | `w9,xs=>`Kz
 | `Av,xs=>`YW
noncomputable def dLn:KS->Nat
 | `w9=>`gh
 | `Av=>`gh
noncomputable def J70(fd:`ho)(x y:Str)(c cd:`e):Prop :=
 ∃p1 p2 p3,fd.body=.expr (`kJ (`ce x p1) (`ce y p2) p3)/\fd.scope.isCoroutine=`q/\fd.scope.isGenerator=`q/\fd.scope.kind=`mj/\`awQ y=`md/\`awQ x=`kW /\
  (∀z∈fd.scope.names,z.2≠`rq)/\fd.closure=[(x,c)]/\fd.code=`z cd/\fd.globals=`ba/\`aJ/\`dT/\`Aw /\
  ∀u:`E,`qc fd `QN=`bO [(y,u)]
noncomputable def rk(n:Nat):`gN:=`TO λ(i:Nat)=>`ma `rQ
noncomputable def TelO(K:`y)(H:Hp)(B:BS)(p:`e)(kvs:`go):Prop:=(¬B p/\`SC)∨∃xs,SqL' K H B p xs/\kvs=(rk `am).zip xs
theorem TelO.mono{p:`e}(g:`ec)(h:`awR):TelO K H' B' p kvs:=by
 rcases h with h|⟨xs,h,e⟩
 ·exact `o (`awO)
 ·exact `n ⟨xs,h.mono g,e⟩
noncomputable def FnAtH(K:`y)(H:Hp)(B:BS)(f:`e)(kvs:`go):Prop :=
 ∃(oF oC oK:Obj) (fd:`ho) (c cd p:`e) (x y:Str),(¬B f/\H f=`a (`hK oF (`f5 f)))/\(oF.cls=`CT/\oF.data=`cp fd/\J70 fd x y c cd)/\(¬B c/\H c=`a (`hK oC (`f5 c)))/\oC.data=`rq `RQ /\
  (¬B cd/\H cd=`a (`hK oK (`f5 cd)))/\(∃vs t,oK.data=`ID/\vs[1]?=`a (`s fd.qualname t))/\`awR
theorem FnAtH.mono{f:`e}(g:`ec)(h:FnAtH K H B f kvs):FnAtH K H' B' f kvs:=by
 obtain⟨oF,oC,oK,fd,c,cd,p,x,y,⟨b1,h1⟩,a,⟨b2,h2⟩,e,⟨b3,h3⟩,q,h4⟩:=h;exact⟨oF,oC,oK,fd,c,cd,p,x,y,g _ _ b1 h1,a,g _ _ b2 h2,e,g _ _ b3 h3,q,h4.mono g⟩
mutual
noncomputable def Rp(K:`y)(H:Hp)(B:BS):`awS
 | `u,v=>`rI
 | `dm,v=>v=`dm
 | `a_,v=>`Ax
 | `bH,v=>`Kj
 | `b0,v=>`awT
 | `ch,v=>`awU
 | `kg,v=>`awV
 | `qA,v=>`awW
noncomputable def Rps(K:`y)(H:Hp)(B:BS):`awX
 | [],xs=>`un
 | `as,xs=>`awY
end
mutual
theorem Rp.mono(g:`ec):∀{d:D} {v:V},`awZ
 | `u,_,h=>`KA
 | `bA,_,h=>`KA
 | `b?,_,h=>`KA
 | `br,_,h=>`KA
 | `b0,_,h=>by
  unfold Rp at h ⊢;obtain⟨a,xs,e,q,r⟩:=h;exact`aw_
 | `ch,_,h=>by
  unfold Rp at h ⊢;obtain⟨a,xs,e,q,r⟩:=h;exact`aw_
 | `kg,_,h=>by
  unfold Rp at h ⊢;obtain⟨a,xs,e,n,q,l,r⟩:=h;exact⟨a,xs,e,(g _ _ n q).1,(g _ _ n q).2,l,`Q9⟩
 | `qA,_,h=>by
  unfold Rp at h ⊢;obtain⟨a,xs,e,q,l,r⟩:=h;exact⟨a,xs,e,q.mono g,l,`Q9⟩
theorem Rps.mono(g:`ec):∀{ds:`j} {xs:`K},`YX
 | [],_,h=>by unfold Rps at h ⊢;exact h
 | `as,_,h=>by
  unfold Rps at h ⊢;obtain⟨x,r,e,h1,h2⟩:=h;exact⟨x,r,e,`Ra g h1,`Q8 g h2⟩
end
theorem V6:Rp K H B `u v=(`rI):=`KB
theorem X7{b:`aa}:Rp K H B `Df v=(v=`dm):=`KB
theorem j5{i:Int}:Rp K H B `ej v=(`Ax):=`KB
theorem Y9:Rp K H B `lI v=(`Kj):=`KB
theorem V3:Rp K H B `r2 v=`awT:=`KC
theorem W4:Rp K H B `D! v=`awU:=`KC
theorem py0{ks:KS}:Rp K H B (`kg) v=`awV:=`KC
theorem Pg0:Rp K H B (`qA) v=`awW:=`KC
theorem jq0:Rp K H B (`Ay) v=∃a xs,`ji/\`r7/\H a=`a (`Kz)/\`Q6:=py0
theorem gt0{ks:`ad (`gN)}:Rp K H B (`cy (`Av) ds) v=∃a xs,`ji/\`r7/\H a=`a (`YW)/\`Q6:=py0
theorem n6:Rps K H B [] xs=(`un):=by unfold Rps;rfl
theorem o6{d:D}:Rps K H B `jO xs=`awY:=by conv=>lhs;unfold Rps
theorem Rps.length:∀{ds:`j} {xs:`K},`a1->`am=`bk
 | [],_,h=>by rw[n6] at h;subst h;rfl
 | `as,_,h=>by
  rw[o6] at h;obtain⟨x,r,rfl,_,h2⟩:=h;simp[Rps.length h2]
theorem Rps.get:∀{ds:`j} {xs:`K} {i:Nat} {d:D},`a1->ds[i]?=`bd->∃x,`oB/\`w8
 | [],_,_,_,_,e=>`Iz
 | `as,_,0,d',h,e=>by
  rw[o6] at h;obtain⟨x,r,rfl,h1,_⟩:=h;simp at e;subst e;exact`KD
 | `as,_,i+1,d',h,e=>by
  rw[o6] at h;obtain⟨x,r,rfl,_,h2⟩:=h;obtain⟨y,e1,e2⟩:=Rps.get (i:=i) h2 `zs;exact⟨y,`aw0,e2⟩
theorem Rps.snoc:∀{ds:`j} {xs:`K} {d:D} {x:V},`a1->`w8->Rps K H B (ds++[d]) (`YY)
 | [],_,_,_,h,r=>by
  rw[n6] at h;subst h;rw[`e?,`e?,o6];exact⟨_,[],rfl,r,`f_⟩
 | `as,_,_,_,h,r=>by
  rw[o6] at h;obtain⟨y,t,rfl,h1,h2⟩:=h;rw[`fa,`fa,o6];exact⟨y,_,rfl,h1,`pf h2 r⟩
theorem Rps.append:∀{ds es:`j} {xs ys:`K},`a1->`aw1->Rps K H B `ajp `DJ
 | [],_,_,_,h,r=>by rw[n6] at h;subst h;exact r
 | `as,_,_,_,h,r=>by
  rw[o6] at h;obtain⟨y,t,rfl,h1,h2⟩:=h;rw[`fa,`fa,o6];exact⟨y,_,rfl,h1,`aw2 h2 r⟩
theorem Rps.drop:∀{ds:`j} {xs:`K} (n:Nat),`a1->Rps K H B (ds.drop n) `VZ
 | _,_,0,h=>h
 | [],_,n+1,h=>by rw[n6] at h;subst h;simpa [n6]
 | `as,_,n+1,h=>by
  rw[o6] at h;obtain⟨y,t,rfl,h1,h2⟩:=h
  simpa using Rps.drop n h2
theorem Rps.take:∀{ds:`j} {xs:`K} (n:Nat),`a1->Rps K H B (ds.take n) (`IA)
 | _,_,0,h=>`YZ
 | [],_,n+1,h=>`KE
 | `as,_,n+1,h=>by
  rw[o6] at h;obtain⟨y,t,rfl,h1,h2⟩:=h;rw[`aw3,`aw3,o6];exact⟨y,_,rfl,h1,Rps.take n h2⟩
theorem Rps.same(s:`a')(h:`a1):Rps K H' B ds xs:=`Q8 `r9 h
theorem Rp.same{d:D}(s:`a')(h:`ci):`Rh:=`Ra `r9 h
noncomputable def RpO(K:`y)(H:Hp)(B:BS)(d:D)(a:`e):Prop:=match d with
 | `ch=>∃xs,H a=`DL/\`a1
 | `kg=>∃xs,`aiT
 | _=>`bR
theorem RpO.same{d:D}(s:`a')(h:`iU):RpO K H' B d a:=by
 cases d<;>try exact `lK
 ·obtain⟨xs,e,r⟩:=h;exact⟨xs,`Y_,`KF⟩
 ·obtain⟨xs,e,l,r⟩:=h;exact⟨xs,`Y_,l,`KF⟩
theorem RpO.rp{d:D}(l:`uy)(n:¬`o0)(h:`iU):Rp K H B' d `dZ:=by
 cases d<;>try exact `lK
 ·obtain⟨xs,e,r⟩:=h
  rw[W4];exact⟨a,xs,rfl,`o ⟨n,`qm⟩,`cR (`h3 l)⟩
 ·obtain⟨xs,e,q,r⟩:=h
  rw[py0];exact⟨a,xs,rfl,n,e,q,`cR (`h3 l)⟩
theorem RpO.live{d:D}(h:`iU):`mz:=by
 cases d<;>try exact `lK
 ·obtain⟨xs,e,r⟩:=h;exact .of e `aw4 λ_=>λz=>nomatch z
 ·obtain⟨xs,e,q,r⟩:=h;refine .of e (λ_ _ z=>?_) λ_ z=>?_<;>(unfold dOb at z;split at z<;>cases z)
noncomputable def RpX(K:`y)(H:Hp)(B:BS)(ks vs:`j)(a:`e):Prop:=∃(ts:`k)(xs:`K),ks=[]/\H a=`a (.dX (ts.zip xs))/\ts.length=`am/\Rps K H B vs xs
noncomputable def ye0:`j->`JW
 | [`bH,`a_]=>if x = "@" then `a `eo else `c
 | _=>`c
mutual
noncomputable def RpN(K:`y)(H:Hp)(B:BS)(as:`aU):`awS
 | `u,v=>`rI
 | `dm,v=>v=`dm
 | `a_,v=>`Ax
 | `bH,v=>`Kj
 | `b0,v=>`aw5
 | d,v=>`ci
noncomputable def RpNs(K:`y)(H:Hp)(B:BS)(as:`aU):`awX
 | [],xs=>`un
 | `as,xs=>`aw6
end
mutual
theorem RpN.mono(g:`ec)(l:`aw7):∀{d:D} {v:V},`kh->RpN K H' B' as' d v
 | `u,_,h=>`KG
 | `bA,_,h=>`KG
 | `b?,_,h=>`KG
 | `br,_,h=>`KG
 | `b0,_,h=>by
  unfold RpN at h ⊢;rcases h with⟨k,a,e,q,r⟩|⟨n,a,xs,e,q,r⟩
  ·exact `o ⟨k,a,e,l k a q,r⟩
  ·exact `n ⟨n,a,xs,e,q.mono g,`Y0 g l r⟩
 | `ch,_,h=>`Y1
 | `kg,_,h=>`Y1
 | `qA,_,h=>`Y1
theorem RpNs.mono(g:`ec)(l:`aw7):∀{ds:`j} {xs:`K},`g_->`kY K H' B' as' ds xs
 | [],_,h=>by unfold RpNs at h ⊢;exact h
 | `as,_,h=>by
  unfold RpNs at h ⊢;obtain⟨x,r,e,h1,h2⟩:=h;exact⟨x,r,e,RpN.mono g l h1,`Y0 g l h2⟩
end
theorem sy0{F G:`j3}(h:`V8):`aw8
 | _,_,`O=>`O
 | _,_,`j1=>`ah (h _ _ r) (sy0 h t)
noncomputable def NodeOk(K:`y)(H:Hp)(B:BS)(as:`aU)(n:D)(so:`dj):Prop:=match n with
 | `ch=>∃xs,`Y2/\`g_
 | `Ay=>∃xs,so=`Kz/\`r8/\`g_
 | `aw9=>`aw'
 | _=>`bR
theorem NodeOk.mono(g:`ec){n:D}(h:`KH):`g0 K H' B' as n so:=by
 unfold NodeOk at h ⊢;split at h
 ·obtain⟨xs,e,r⟩:=h;exact⟨xs,e,`Y3⟩
 ·obtain⟨xs,e,l,r⟩:=h;exact⟨xs,e,l,`Y3⟩
 ·obtain⟨C,dx,ns,xs,e,f,l,c,q,r⟩:=h;exact⟨C,dx,ns,xs,e,f,l,c,q,`Y3⟩
 ·exact `lK
structure RpW(K:`y)(H:Hp)(B:BS)(ns:`j)(a:`e)(as:`aU)(sos:`Az):Prop where
 hd:`aw!
 nd:`lR
 at':`Y4
 own:∀b∈as,b=a∨(`r!/\`C2)
 len:`KI
 all:`bB (`g0 K H B as) ns sos
 ins:`aw?
noncomputable def RpD(K:`y)(H:Hp)(B:BS)(ns:`j)(a:`e):Prop:=∃as sos,`fb
theorem RpD.mono(s:`Au)(g:`ec)(h:`Rd):RpD K H' B' ns a:=by
 obtain⟨as,sos,h⟩:=h;exact⟨as,sos,h.hd,`g8,s _ `uz,λb hb=>`SO id λz=>g b _ z.1 z.2,`ia,sy0 (λ_ _ r=>`sa) h.all,`AA⟩
theorem RpD.live(h:`Rd):`mz:=by
 obtain⟨as,sos,h⟩:=h;exact .of `uz `axa λ_ z=>nomatch z
noncomputable def RpG(K:`y)(H:Hp)(B:BS)(d:D)(a:`e):Prop:=match d with
 | `t es=>`axb
 | d=>`iU
theorem RpO.toG{d:D}(h:`iU):`lS:=by
 cases d with
 | tup es=>exact`Y5
 | _=>exact h
theorem RpG.toO{d:D}(n:`EC)(h:`lS):`iU:=by
 cases d with
 | tup es=>cases n
 | _=>exact h
theorem RpG.same{d:D}(s:`a')(h:`lS):RpG K H' B d a:=by
 cases d with
 | tup es=>obtain⟨x,ns,e,r⟩:=h;exact`axc
 | _=>exact(RpO.same s `KJ).toG
theorem RpG.live{d:D}(h:`lS):`mz:=by
 cases d with
 | tup es=>obtain⟨x,ns,e,r⟩:=h;exact `qB
 | _=>exact RpO.live `KJ
theorem RpO.plain{d:D}(h:`iU):`Y6:=by
 intro o ys z;cases d with
 | lst ds=>obtain⟨xs,e,r⟩:=h;rw[e] at z;cases z
 | dct ks ds =>
  obtain⟨xs,e,r⟩:=h;rw[e] at z;unfold dOb at z;split at z<;>cases z
 | _=>exact`Y5
theorem RpG.plain{d:D}(h:`lS):`Y6:=by
 cases d with
 | tup es=>obtain⟨x,ns,e,as,sos,r⟩:=h;intro o xs z;rw[r.at'] at z;cases z
 | _=>exact RpO.plain `KJ
noncomputable def RpL(K:`y)(H:Hp)(B:BS)(d:D)(a:`e):Prop:=match d with
 | `t es=>(∃d',es=[`GJ,d']/\RpG K H B d' a)∨(∃ks vs,es=[`l ks,`sD]/\RpX K H B ks vs a)∨`axb
 | d=>`iU
theorem RpO.toL{d:D}(h:`iU):`k_:=by
 cases d with
 | tup es=>exact`Y5
 | _=>exact h
theorem RpL.toO{d:D}(n:`EC)(h:`k_):`iU:=by
 cases d with
 | tup es=>cases n
 | _=>exact h
theorem RpG.toL{d:D}(h:`lS):`k_:=by
 cases d with
 | tup es=>exact `n (`Kk)
 | _=>exact h
theorem RpL.same{d:D}(s:`a')(h:`k_):`axd:=by
 cases d with
 | tup es =>
  rcases h with⟨d',q,r⟩|⟨ks,vs,q,ts,xs,q1,e,q2,r⟩|⟨x,ns,e,r⟩
  ·exact `o ⟨d',q,`KF⟩
  ·exact `n (`o ⟨ks,vs,q,ts,xs,q1,`Y_,q2,`KF⟩)
  ·exact `n (`n `axc)
 | _=>exact(RpO.same s `AB).toL
theorem RpL.live{d:D}(h:`k_):`mz:=by
 cases d with
 | tup es =>
  rcases h with⟨d',q,r⟩|⟨ks,vs,q,ts,xs,q1,e,q2,r⟩|⟨x,ns,e,r⟩
  ·exact `qB
  ·exact .of e `aw4 λ_=>λz=>nomatch z
  ·exact `qB
 | _=>exact RpO.live `AB
theorem RpL.plain{d:D}(h:`k_):`Y6:=by
 cases d with
 | tup es =>
  rcases h with⟨d',q,r⟩|⟨ks,vs,q,ts,xs,q1,e,q2,r⟩|⟨x,ns,_,as,sos,r⟩
  ·exact r.plain
  ·intro o ys z;rw[e] at z;cases z
  ·intro o xs z;rw[r.at'] at z;cases z
 | _=>exact RpO.plain `AB
noncomputable def Iw0(a C:`e)(od:`dP):`wa:=λh=>∃oe,`hI=`a oe/\oe.cls=`rH/\(∀dx,od=`zX->oe.dict=`zX)/\∃vs,oe.data=`ID
noncomputable def I20(H:Hp)(B:BS)(od:`dP):`bc->Prop
 | `c=>`iG
 | `wO=>∃dx,od=`zX/\¬B dx/\H dx=`a (.xd [(`sL,`iq)])
noncomputable def XcR(K:`y)(H:Hp)(B:BS)(c:Str)(n:`bc)(a:`e):Prop:=∃C od,`r7/\H a=`a (.ext (Iw0 a C od))/\`o3/\I20 H B od n
theorem XcR.mono{c:Str}{n:`bc}(g:`ec)(h:`axe):XcR K H' B' c n a:=by
 obtain⟨C,od,h1,h2,h3,h4⟩:=h;refine⟨C,od,(`axf).1,(`axf).2,h3,?_⟩;cases n with
 | none=>trivial
 | some n=>obtain⟨dx,e,q1,q2⟩:=h4;exact⟨dx,e,(`axg).1,(`axg).2⟩
noncomputable def SlR(K:`y)(H:Hp)(B:BS)(o:`dF):Sl->Prop
 | .un=>`iG
 | `fx=>∃v,o=`bX/\`ci
 | `xn=>∃a,o=`o4/\`axh
 | .ex c n=>∃a,o=`o4/\`axe
theorem Pd.get{F:`j3}:∀{l:`aH} {m:`kZ} {i:Nat} {b:β},`o1->`Y7->∃a,`AC/\`wg
 | _,_,_,_,`O,e=>`Iz
 | _,_,0,_,`VW,e=>`VX
 | _,_,i+1,b,`qe,e=>by
  obtain⟨u,h1,h2⟩:=`w? (i:=i) (b:=b) t `zs;exact`VY
theorem Pd.imp{F G:`j3}(h:`V8):`aw8:=by
 intro l m p
 induction p with
 | nil=>exact `O
 | cons r t ih=>exact `ah (h _ _ r) ih
theorem Pd.set{F:`j3}{a:α}{b:β}(r:`wg):∀{l:`aH} {m:`kZ} (i:Nat),`o1->`bB F (`Y8) `axi
 | _,_,_,`O=>`O
 | _,_,0,`qe=>`j1
 | _,_,i+1,`ah q t=>`ah q (`qC r i t)
theorem Pd.len{F:`j3}:∀{l:`aH} {m:`kZ},`o1->`dL=`anv
 | _,_,`O=>rfl
 | _,_,`qe=>by simp[`po t]
theorem Pd.app{F:`j3}:∀{l l':`aH} {m m':`kZ},`o1->`bB F l' m'->`bB F (l++l') (m++m'):=by
 intro l l' m m' p s
 induction p with
 | nil=>exact s
 | cons r t ih=>exact `zt
structure Env(K:`y)(H:Hp)(B:BS)(σ:St)(δ:Ds):Prop where
 all:`axj
 bad:`xa
 own:∀(i j:Nat) (a:`e) (ds es:D),`ai7->`oZ=`axk->`jn->`r_=`w!->i=j
section
variable{σ σ':St}{δ:Ds}
theorem SlR.same{o:`dF}{s:Sl}(q:`a')(h:`axl):SlR K H' B o s:=by
 cases s with
 | un=>trivial
 | sh d=>obtain⟨v,e,r⟩:=h;exact⟨v,e,`Ee q⟩
 | ow d=>obtain⟨a,e,b,r⟩:=h;exact⟨a,e,b,`Ee q⟩
 | ex c n=>obtain⟨a,e,r⟩:=h;exact⟨a,e,`cR (`Q' q)⟩
theorem Env.same(q:`a')(e:`bh):Env K H' B σ δ :=
 ⟨`sj (λ_ _ h=>`KK q) `hY,(λa b=>(`ju a b).same q),`o5⟩
theorem Env.free(e:`bh){p:`e}(h:`dH):¬B p:=λz=>`ju p z h
theorem Env.get(e:`bh){d:D}(h:`axm):∃v,`zA/\`ci:=by
 obtain⟨o,h1,v,rfl,r⟩:=`axn;exact⟨v,h1,r⟩
theorem Env.set(e:`bh)(i:Nat){d:D}(r:`ci):Env K H B `wm `Kp:=by
 refine⟨`qC `axo i `hY,`ju,`RS⟩;have hj:j≠i:=by
  rintro rfl
  by_cases hl:j<`mU
  ·rw[`AD] at h1;cases h1
  ·rw[`KL] at h1;cases h1
 have hk:k≠i:=by
  rintro rfl
  by_cases hl:k<`mU
  ·rw[`AD] at h2;cases h2
  ·rw[`KL] at h2;cases h2
 rw[`WA] at h1 h3;rw[`kH (B4 hk)] at h2 h4;exact `KM
universe zz
theorem X4{p:`e}{o:HO}(h:`dH)(hz:`axp:=by intro _ _ z;cases z):`c8 H `Y9:=⟨λb u e=>by rw[d9 (U6 e h)];exact e,λb ob xs e=>by
 by_cases z:b=p
 ·subst z
  rw[j9] at e;exact `I (`lG) (hz ob xs)
 ·rw[d9 z] at e;exact e⟩
noncomputable def tD(K:`y)(B:BS)(δ:Ds)(g:`cb):TE:=fun σ H Q=>∃d,`bh/\`hx/\`AE
structure PD(X:Cx)(e:`H)(g:`cb):Prop where
 mk::go:`axq
instance{X:Cx}{e:`H}{g:`cb}:`eH (`cc) (λ_=>`axq):=⟨PD.go⟩
noncomputable def tDT(K:`y)(B:BS)(δ:Ds)(g:`gI):TT:=fun σ H Q=>∃b,`bh/\`ar=`k0/\∀H',`a'->Q b H'
structure PTD(X:Cx)(e:`H)(g:`gI):Prop where
 mk::go:`axr
instance{X:Cx}{e:`H}{g:`gI}:`eH (PTD X e g) (λ_=>`axr):=⟨PTD.go⟩
structure PWD(X:Cx)(e:`H)(g:`gI):Prop where
 mk::go:`axs
instance{X:Cx}{e:`H}{g:`gI}:`eH (PWD X e g) (λ_=>`axs):=⟨PWD.go⟩
noncomputable def tDA(K:`y)(B:BS)(δ:Ds)(g:`fZ):TA:=fun σ H Q=>∃ds,`bh/\`ar=`jh/\∀vs H',`a'->Rps K H' B ds vs->`WE
structure PDA(X:Cx)(es:`bI)(g:`fZ):Prop where
 mk::go:`axt
instance{X:Cx}{es:`bI}{g:`fZ}:`eH (PDA X es g) (λ_=>`axt):=⟨PDA.go⟩
theorem aa0{d:D}{b:`aa}(h:asB d=`k0):d=`dm:=by
 cases d<;>simp[asB] at h
 subst h;rfl
noncomputable def Op2(K:`y)(r:R2)(f:`bs):Prop:=∀(H:Hp) (B:BS) (x y:V) (dx dy d:D) (Q:VK),`qD->`Y'->`axu->f dx dy=`bd->(`AE)->`Do
noncomputable def FnR(K:`y)(r:`mm)(f:`J):Prop:=∀(H:Hp) (B:BS) (xs:`K) (ds:`j) (d:D) (Q:VK),`qD->`a1->`AF->(`AE)->`Jj
section
variable{a:`H}{ga:`cb}{gu:`gI}{rest:`bI}
theorem _root_.L2.PE.imp{t t':TE}(h:PE X e t)(q:`KN):PE X e t':=`axv
theorem _root_.L2.PT.imp{t t':TT}(h:PT X e t)(q:`KN):PT X e t':=`axv
theorem _root_.L2.PW.imp{t t':TT}(h:PW X e t)(q:`KN):PW X e t':=λw pins s σ H Q I z=>h w `i s σ H Q I `Rj
theorem _root_.L2.PA.imp{t t':TA}(h:`ue)(q:`KN):PA X es t':=λp pins s σ H Q I z=>h p `i s σ H Q I `Rj
theorem Km0{δ:Ds}{d:D}(h:gv i δ=`bd):`axm:=by
 unfold gv at h;split at h
 ·cases h;assumption
 ·cases h
theorem z8(i:Nat)(hN:`b4:=by rfl)(hv:`dS:=by first|exact `a!|exact `dd|exact `de)(hd:`aJ:=by decide)
  (hcd:`dT:=by decide):PD X `kI `KO:=.mk λB δ=>`axw fun σ H Q hq55=>by
 obtain⟨d,en,h,k⟩:=hq55
 obtain⟨v,e,r⟩:=en.get (Km0 h);exact⟨v,e,k v H `c' r⟩
theorem v6{i:Int}:PD X (`nF `ej j pos) (gc `ej):=.mk λB δ=>L30.imp fun σ H Q hq56=>by obtain⟨d,en,h,k⟩:=hq56;cases h;exact `sn
theorem zc0{i:`aa}:PD X (`nF (`f9 i) j pos) (gc (.bl i)):=.mk λB δ=>J90.imp fun σ H Q hq57=>by obtain⟨d,en,h,k⟩:=hq57;cases h;exact `RE
theorem t90:PD X (`nF `ay j pos) `ig:=.mk λB δ=>Mw0.imp fun σ H Q hq58=>by obtain⟨d,en,h,k⟩:=hq58;cases h;exact k _ H `c' `h5
theorem o9:PD X (`nF `lI j pos) (gc `lI):=.mk λB δ=>Lp0.imp fun σ H Q hq59=>by obtain⟨d,en,h,k⟩:=hq59;cases h;exact `KP
theorem gn0(hm:∃t,`mf=`axx)(hg:`cI:=by rfl)(hd:`aJ:=by decide):PD X `kI (gc (`nT)):=.mk λB δ=>by
 obtain⟨t,hm⟩:=hm;exact(lo0 (v:=`nT) hg hm `Ah hd).imp fun σ H Q hq60=>by obtain⟨d,en,h,k⟩:=hq60;cases h;exact `KP
theorem z70{i:Int}(hm:∃t,`mf=`a `wu)(hg:`cI:=by rfl)(hd:`aJ:=by decide):PD X `kI (gc `ej):=.mk λB δ=>by
 obtain⟨t,hm⟩:=hm;exact(lo0 (v:=`a_) hg hm `Ah hd).imp fun σ H Q hq61=>by obtain⟨d,en,h,k⟩:=hq61;cases h;exact `sn
theorem gb0{r:R2}{f:`bs}(hf:Op2 K r f){δ:Ds}{σ:St}{Q:VK}(h:tD K B δ `AG σ H Q):tOp r (tD K B δ ga) (tD K B δ gb) σ H Q:=by
 obtain⟨d,en,h,k⟩:=h;unfold o2 at h;cases e1:`c9 with
 | none=>rw[e1] at h;cases h
 | some x =>
  cases e2:`d3 with
  | none=>rw[e1,e2] at h;cases h
  | some y =>
   rw[e1,e2] at h;refine`uA;exact hf H2 B v1 v2 x y d Q `Y! `Fe r2 h λv H' s r=>k v H' (`E! s) r
theorem oo0{op:`Jl}{r:R2}{f:`bs}(ho:`arU)(hf:`AH)(ha:`cr)(hb:`df):PD X `arV `AG:=.mk λB δ=>(Qx0 ho `a4 `fc).imp `Y?
theorem u10{op:`iJ}{r:R2}{f:`bs}(ho:`t?)(hf:`AH)(ha:`cr)(hb:`df)(hm:`nH:=by first|exact ba0 _|with_unfolding_all rfl):PD X `qk `AG :=
 .mk λB δ=>(N40 ho `a4 `fc hm).imp `Y?
theorem Jf0{r:R2}{f:`bs}(ho:`X1)(hf:`AH)(ha:`cr)(hb:`df)(hs:`z!:=by exact `lT):PD X `z? `AG :=
 .mk λB δ=>(Xv0 ho `a4 `fc hs).imp `Y?
theorem o7{op:`iJ}{r:R2}{f:`bs}(ho:`t?)(hf:`AH)(ha:`cr)(hb:`df)(hm:`nH:=by first|exact ba0 _|with_unfolding_all rfl):PTD X `qk (ob `AG) :=
 .mk λB δ=>(Yi0 ho `a4 `fc hm).imp fun σ H Q hq62=>by
  obtain⟨t,en,h,k⟩:=hq62
  unfold ob at h;cases e:`awL with
  | none=>rw[e] at h;cases h
  | some d =>
   rw[e] at h;cases aa0 h;exact gb0 hf `axy
theorem Q9(h:`cc)(he:`WJ:=by intro _;rfl):PTD X e (ob g) :=
 .mk λB δ=>(Uc0 `ck he).imp fun σ H Q hq63=>by
  obtain⟨t,en,h,k⟩:=hq63
  unfold ob at h;cases e:`ar with
  | none=>rw[e] at h;cases h
  | some d =>
   rw[e] at h;cases aa0 h;exact`axy
theorem pg0(h:`AI):PTD X `zN (yv0 gt) :=
 .mk λB δ=>(Ug0 `ck).imp fun σ H Q hq64=>by
  obtain⟨t,en,h,k⟩:=hq64
  unfold yv0 at h;cases e:`fy with
  | none=>rw[e] at h;cases h
  | some b =>
   rw[e] at h;cases h;exact⟨b,en,e,λH' s=>`Es⟩
theorem or0(h:`AI):PWD X `WK gt:=.mk λB δ=>Ya0 `ck
theorem uj0(h:`AI):PWD X `WL gt:=.mk λB δ=>Ve0 `ck
theorem ls0(ha:`AI)(hb:PWD X `zJ gu):PWD X `zK (ww0 gt gu) :=
 .mk λB δ=>(T20 `a4 `fc).imp fun σ H Q hq65=>by
  obtain⟨t,en,h,k⟩:=hq65
  unfold ww0 at h;cases e:`fy with
  | none=>rw[e] at h;cases h
  | some b =>
   rw[e] at h;refine`axz;cases b with
   | true=>exact`axA
   | false =>
    simp at h;subst h;rw[`nI];exact `Es
theorem v90(ha:`AI)(hb:PWD X `zL gu):PWD X `zM (z50 gt gu) :=
 .mk λB δ=>(Qz0 `a4 `fc).imp fun σ H Q hq66=>by
  obtain⟨t,en,h,k⟩:=hq66
  unfold z50 at h;cases e:`fy with
  | none=>rw[e] at h;cases h
  | some b =>
   rw[e] at h;refine`axz;cases b with
   | false=>exact`axA
   | true =>
    simp at h;subst h;rw[`bm];exact `Es
theorem PWD.pt(h:PWD X e gt):`axB:=.mk λB δ=>(`Rm).pt
theorem m60{op}(h:PD X a g):PD X `aqO g:=.mk λB δ=>Lw0 `ck
theorem h00(ha:`cr)(hb:PD X `zJ gb):PD X `zK (tg0 ga gb) :=
 .mk λB δ=>(M40 `a4 `fc).imp fun σ H Q hq67=>by
  obtain⟨d,en,h,k⟩:=hq67
  unfold tg0 ob at h;cases e:`c9 with
  | none=>rw[e] at h;cases h
  | some x =>
   rw[e] at h;refine`Za;cases x with
   | bl c =>
    rw[X7] at r;refine`axC;cases c with
    | true=>exact`axD
    | false =>
     simp[asB] at h;rw[`nI];exact `Zb
   | _=>simp[asB] at h
theorem Jn0(ha:`cr)(hb:PD X `zL gb):PD X `zM (orG ga gb) :=
 .mk λB δ=>(Kh0 `a4 `fc).imp fun σ H Q hq68=>by
  obtain⟨d,en,h,k⟩:=hq68
  unfold orG ob at h;cases e:`c9 with
  | none=>rw[e] at h;cases h
  | some x =>
   rw[e] at h;refine`Za;cases x with
   | bl c =>
    rw[X7] at r;refine`axC;cases c with
    | false=>exact`axD
    | true =>
     simp[asB] at h;rw[`bm];exact `Zb
   | _=>simp[asB] at h
theorem Le0(ha:`cr):PD X `zN (Ql0 ga) :=
 .mk λB δ=>(M90 `a4).imp fun σ H Q hq69=>by
  obtain⟨d,en,h,k⟩:=hq69
  unfold Ql0 ob at h;cases e:`c9 with
  | none=>rw[e] at h;cases h
  | some x =>
   rw[e] at h;refine`Za;cases x with
   | bl c =>
    rw[X7] at r;simp[asB] at h;exact⟨c,r,`Zb⟩
   | _=>simp[asB] at h
theorem v9:PDA X [] v5:=.mk λB δ=>yx0.imp fun σ H Q hq70=>by obtain⟨ds,en,h,k⟩:=hq70;cases h;exact k [] H `c' (`f_)
theorem w6(ha:`cc)(hr:`uB)(hs:`d?:=by rfl):PDA X `gd (z7 g gA) :=
 .mk λB δ=>(O9 `a4 (hr B δ) hs).imp fun σ H Q hq71=>by
  obtain⟨ds,en,h,k⟩:=hq71
  unfold z7 at h;cases e1:`ar with
  | none=>rw[e1] at h;cases h
  | some d =>
   cases e2:`b! with
   | none=>rw[e1,e2] at h;cases h
   | some es' =>
    rw[e1,e2] at h;cases h;refine⟨d,en,e1,λv H1 s1 r1=>⟨es',`gk,e2,λvs H2 s2 r2=>k _ H2 `mM ?_⟩⟩;rw[o6];exact⟨v,vs,rfl,`o6,r2⟩
theorem M6{x1}(h:`uB):PD X (`k7 es x1 pos) (R6 gA) :=
 .mk λB δ=>(az0 `ck).imp fun σ H Q hq72=>by
  obtain⟨d,en,h,k⟩:=hq72
  unfold R6 at h;cases e1:`b! with
  | none=>rw[e1] at h;cases h
  | some ds =>
   rw[e1] at h
   by_cases hl:`qw
   ·simp only[`f,`ki] at h
    cases h;refine`axE;rw[V3];exact⟨p,vs,rfl,⟨(`gk).free hp,j9⟩,`Er `es⟩
   ·simp only[`f,`Zc] at h
    cases h
theorem w40(h:`uB):PD X `XB `Zd :=
 .mk λB δ=>`axF fun σ H Q hq73=>by
  obtain⟨d,en,h,k⟩:=hq73
  unfold Y7 at h;cases e1:`b! with
  | none=>rw[e1] at h;cases h
  | some ds =>
   rw[e1] at h
   by_cases hl:`qw
   ·simp only[`f,`ki] at h
    cases h;refine`axE;rw[W4];exact⟨p,vs,rfl,`o ⟨(`gk).free hp,`Ze⟩,`Er `es⟩
   ·simp only[`f,`Zc] at h
    cases h
theorem b40{f:`J}(hf:FnR K r f){δ:Ds}{σ:St}{Q:VK}(h:tD K B δ `Et σ H Q):tCB r (tDA K B δ gA) σ H Q:=by
 obtain⟨d,en,h,k⟩:=h;unfold oA at h;cases e1:`b! with
 | none=>rw[e1] at h;cases h
 | some ds =>
  rw[e1] at h;exact⟨ds,en,e1,λvs H1 s1 r1=>hf H1 B vs ds d Q `Zf r1 h `axG⟩
theorem ug0{id:`cH}{p:Pos}{f:`J}(hc:`aty)(hf:`KQ)(hm:`nG)(hv:`atz)(ha:`nU)(hg:`cI:=by rfl)
  (hn:`kE := by decide) (hdb:`aJ:=by decide) (he:`d?:=by rfl) (hpl:`gF:=by rfl) :
  `AJ:=.mk λB δ=>(jm0 hc hg hm hv `a4 hn hdb he hpl).imp `Zg
theorem G7{T:`cH}{p:Pos}{f:`J}(hc:`XN)(hf:`KQ)(hm:`nG)(hv:`XO)(ha:`nU)(hg:`cI:=by rfl)
  (hn:`kE := by decide) (hdb:`aJ:=by decide) (he:`d?:=by rfl) (hpl:`gF:=by rfl) :
  `AJ:=.mk λB δ=>(p00 hc hg hm hv `a4 hn hdb he hpl).imp `Zg
noncomputable def spD(K:`y)(f:`J):Sp:=λvs H Q _=>∃(B:BS) (ds:`j) (d:D),`qD/\`KR/\`AF/\`AE
theorem N60{k:Nat}{ps:`g}{p:Pos}{f:`J}(F:`R `aZ X.w X.K `b7 `dW CX0 k fa fd ps (spD X.K f))(hr:`z3)(hm:`mf=`DS)(hk:`cu X.K `wP=`b)(hb:`axH)
  (ha:`nU) (hg:`cI:=by rfl) (hdb:`aJ:=by decide) (he:`d?:=by rfl) (hpl:`gF:=by rfl) :
  `AJ:=.mk λB δ=>(k20 (E:=E0) F hr hg hm hk hb `O n80 `a4 hdb he hpl).imp fun σ H Q h=>by
 obtain⟨d,en,h,k⟩:=h;unfold oA at h;cases e1:`b! with
 | none=>rw[e1] at h;cases h
 | some ds =>
  rw[e1] at h;refine`axI;show spD X.K f `Zh H1 Q E0;rw[`cZ];exact⟨B,ds,d,`Zf,r1,h,`axG⟩
universe zz
universe DL
variable{B B' B₀:DL.BS}
namespace DL
open Spec PyProof.Rows L2
structure EnvS(K:`y)(H₀:Hp)(B₀:BS)(H:Hp)(σ:St)(δ:Ds):Prop where
 same:`KS
 ex:∃B:BS,(`iV)/\(`iW)/\`bh
 fr:`axJ
 b0:`Zi
noncomputable def Iq0(K:`y)(H₀:Hp)(B₀:BS)(D:`j6):Res->Prop
 | `Q0=>`axK
 | .rt d=>∀v H,`KS->Rp K H `S d v->D.rt v H
 | .bk δ=>∀σ H,`cz->D.bk σ H
 | .ct δ=>∀σ H,`cz->D.ct σ H
 | .rf d=>∀p H,`Zj->`KS->RpL K H (λa=>`mC∨a=p) d p->D.rt `c7 H
noncomputable def tDS(K:`y)(H₀:Hp)(B₀:BS)(δ:Ds)(G:`iS):TS:=λD σ H=>∃r,`cz/\G δ=`gl/\Iq0 K `Y `S D r
structure PSD(X:Cx)(st:`bw)(G:`iS):Prop where
 mk::go:`axL
instance{X:Cx}{st:`bw}{G:`iS}:`eH (`Zk) (λ_=>`axL):=⟨PSD.go⟩
structure PSsD(X:Cx)(st:`e6)(G:`iS):Prop where
 mk::go:`axM
instance{X:Cx}{st:`e6}{G:`iS}:`eH (`mD X st G) (λ_=>`axM):=⟨PSsD.go⟩
section
variable{σ:St}{δ:Ds}
theorem EnvS.grow(e:`cz)(s:`a'):`cS K `Y `S H' σ δ:=⟨e.same.trans s,let ⟨B,b1,b2,en⟩:=e.ex;⟨B,b1,b2,`gj s⟩,e.fr,e.b0⟩
universe zz
structure Wr(idx:`k)(σ σ':St)(δ δ':Ds):Prop where
 len:`Wy
 oth:∀j,j∉idx->σ'[j]?=`r_/\`SK=`oZ
 own:∀j∈idx,∀ds,`SK≠`Em
noncomputable def tDG(K:`y)(idx:`k)(f:`aS)(B:BS)(d:D)(δ:Ds):TG:=λv σ H Q=>∃δ',`ci/\`bh/\`YS/\∀σ',`axN->Env K H B σ' δ'->Q σ' H
structure PGD(X:Cx)(tg:`H)(idx:`k)(f:`aS):Prop where
 mk::go:`axO
instance{X:Cx}{tg:`H}{idx:`k}{f:`aS}:`eH (`AK) (λ_=>`axO):=⟨PGD.go⟩
theorem _root_.L2.PG.imp{t t':TG}(h:PG X tg t)(q:∀v σ H Q,t' v σ H Q->`aq6):PG X tg t':=λpins s σ H v u Q I r z=>h `i s σ H v u Q I r (q v σ H Q z)
theorem ac0{σ:St}{δ:Ds}{d:D}:Wr [i] σ `wm δ `Kp:=by
 refine⟨`aW,`AL,λj hj ds h=>?_⟩
 ·have:j≠i:=`At
  rw[`axP,`axP];exact`kQ
 ·have:j=i:=`At
  subst this
  by_cases hl:j<`mU
  ·rw[`AD] at h;cases h
  ·rw[`KL] at h;cases h
theorem o4(i:Nat){pos:Pos}(hN:`e8)(hi:`b4:=by rfl)(hx:`qi:=by first|exact `a!|exact `gi)
  (hf:`qj:=by first|exact `bQ|exact `b'|assumption):PGD X `kI [i] `Rz:=.mk λB d δ=>(`Zl).imp λv σ H Q hq74=>by
 obtain⟨δ',r,en,e,k⟩:=hq74
 cases e;exact k _ ac0 (en.set i r)
section
variable{st:`bw}{G G1 G2 Ga Gb:`iS}{as bs:`e6}
theorem u5:`mD X [] t6:=.mk λH₀ B₀ δ pins s σ H D I hq75=>by
 obtain⟨r,en,e,k⟩:=hq75
 cases e;exact `axQ
theorem z9(h1:PSD X st G1)(h2:`mD X `a7 G2):`mD X (st::`a7) (v7 G1 G2):=.mk λH₀ B₀ δ pins s σ H D I hq76=>by
 obtain⟨r,en,e,k⟩:=hq76
 unfold v7 at e;cases e1:`mx with
 | none=>rw[e1] at e;cases e
 | some r1 =>
  rw[e1] at e;cases r1 with
  | nx δ'=>exact zv0 (h1 `Y `S δ) (h2 `Y `S δ') `i s σ H D I `axR
  | rt d=>cases e;exact `KT
  | bk δ'=>cases e;exact `KT
  | ct δ'=>cases e;exact `KT
  | rf d=>cases e;exact `KT
theorem Z0(h:`cc):PSD X `ql (Y6 g):=.mk λH₀ B₀ δ pins s σ H D I hq77=>by
 obtain⟨r,en,e1,k⟩:=hq77
 unfold Y6 at e1;obtain⟨B,b1,b2,env⟩:=`aK;cases e2:`ar with
 | none=>rw[e2] at e1;cases e1
 | some d =>
  rw[e2] at e1;cases e1;exact pj0 `ck `i s σ H D I ⟨d,env,e2,λv H' s' r=>k v H' (`RR s') (`cR (`h3 b1))⟩
theorem EnvS.wr{σ σ':St}{δ:Ds}(e:`cz)(b1:`iV)(b2:`iW)(s:`a')(w:`axN)(en:Env K H' B σ' δ'):`axS:=by
 refine⟨e.same.trans s,⟨B,b1,b2,en⟩,`ai',e.b0⟩
 by_cases hi:i∈idx
 ·exact `I h1 (w.own i hi ds)
 ·rw[(`axT).2] at h1
  rw[(`axT).1] at h2;exact `axU
theorem Z5(h:`cc)(hg:`AK)(hs:`WT:=by rfl)(hw:`WU:=by rfl)
  (h1:`WV:=by rfl):PSD X `WW (b7 f g):=.mk λH₀ B₀ δ pins s σ H D I hq78=>by
 obtain⟨r,en,e1,k⟩:=hq78
 unfold b7 at e1;obtain⟨B,b1,b2,env⟩:=`aK;cases e2:`ar with
 | none=>rw[e2] at e1;cases e1
 | some d =>
  rw[e2] at e1;simp only[`f] at e1;cases e3:`r4 with
  | none=>rw[e3] at e1;cases e1
  | some δ' =>
   rw[e3] at e1;cases e1;exact b90 `ck (hg B d δ) hs hw h1 `i s σ H D I ⟨d,env,e2,λv H' s' r=>⟨δ',r,`Zm,e3,fun σ' w en'=>k σ' H' (en.wr b1 b2 s' w en')⟩⟩
theorem Z7(hc:`KU)(ha:`mD X as Ga)(hb:`mD X bs Gb):PSD X `Zn (ifD gt Ga Gb):=.mk λH₀ B₀ δ pins s σ H D I hq79=>by
 obtain⟨r,en,e1,k⟩:=hq79
 unfold ifD at e1;obtain⟨B,b1,b2,env⟩:=`aK;cases e2:`fy with
 | none=>rw[e2] at e1;cases e1
 | some t =>
  rw[e2] at e1;refine Xz0 (hc B δ) (ha `Y `S δ) (hb `Y `S δ) `i s σ H D I `axV;cases t with
  | true=>exact`KV
  | false=>exact`KV
structure ItD(K:`y)(B:BS)(J:It)(items:`j)(H₁:Hp):Prop where
 go:∀i H,`Zo->`AM->`W_
 yld:∀i H x H',`Zo->`W2->`AM->`a'/\∃d,`AN=`bd/\∀B':BS,Gr H₁ H' B B'->(∀a,`o0->`mz)->Rp K H' B' d x
 stop:∀i H,`Zo->`cx<=i->`W3
noncomputable def tDI(K:`y)(B:BS)(δ:Ds)(g:`fZ):TI:=fun σ H R=>∃items,`bh/\`ar=`Eb/\∀J H',`a'->ItD K B J `aQ H'->R J H'
structure PID(X:Cx)(tg e:`H)(g:`fZ):Prop where
 mk::go:`axW
instance{X:Cx}{tg e:`H}{g:`fZ}:`eH (PID X tg e g) (λ_=>`axW):=⟨PID.go⟩
theorem _root_.L2.PI.imp{t t':TI}(h:PI X tg e t)(q:∀σ H R,t' σ H R->t σ H R):PI X tg e t':=λpins s σ H R I z=>h `i s σ H R I (q σ H R z)
theorem uf0(h:`cc):PID X tg e (vu0 g):=.mk λB δ=>`qE (Y50 `ck) fun σ H R hq80=>by
 obtain⟨items,en,e1,k⟩:=hq80
 unfold vu0 at e1;cases e2:`ar with
 | none=>rw[e2] at e1;cases e1
 | some d =>
  rw[e2] at e1;cases d<;>simp[lp0] at e1
  subst e1;refine`Zp;rw[W4] at r;obtain⟨a,xs,rfl,q,rs⟩:=r;refine`axX
  ·have:`up:=`Ew
   exact`Zq
  ·obtain⟨e3,y⟩:=y
   obtain⟨x',e4,r'⟩:=`Zr;have:=`Zs;rw[e4] at this;cases `A;subst e3;exact`Zt
  ·exact`Zu
theorem rm0(h:`cc):PID X tg e (tupI g):=.mk λB δ=>`qE (Kc0 `ck) fun σ H R hq81=>by
 obtain⟨items,en,e1,k⟩:=hq81
 unfold tupI at e1;cases e2:`ar with
 | none=>rw[e2] at e1;cases e1
 | some d =>
  rw[e2] at e1;cases d<;>simp[P40] at e1
  subst e1;refine`Zp;rw[V3] at r;obtain⟨a,xs,rfl,q,rs⟩:=r;refine`axX
  ·have:`up:=`Ew
   exact`Zq
  ·obtain⟨e3,y⟩:=y
   obtain⟨x',e4,r'⟩:=`Zr;have:=`Zs;rw[e4] at this;cases `A;subst e3;exact`Zt
  ·exact`Zu
theorem et0(x:Str):(`iT x).length=`Ak:=by simp[`iT]
theorem X90(h:`cc):PID X tg e (j00 g):=.mk λB δ=>`qE (K20 `ck) fun σ H R hq82=>by
 obtain⟨items,en,e1,k⟩:=hq82
 unfold j00 at e1;cases e2:`ar with
 | none=>rw[e2] at e1;cases e1
 | some d =>
  rw[e2] at e1;cases d<;>simp[Y60] at e1
  subst e1;refine`Zp;rw[Y9] at r;refine⟨_,r,`ai9⟩
  ·rw[et0] at hi;exact hi
  ·obtain⟨e3,c,hc,rfl⟩:=y
   subst e3;refine⟨`Ev,`r6,?_,λB' gB _=>`ai2⟩;unfold signs;rw[`ca,`au5,hc];rfl
  ·rw[et0] at hi;exact hi
theorem j70(lo hi:Int):(J6 lo hi).length=`rE:=by simp[J6]
theorem Ys0(lo hi:Int):ItD K B (Itr lo `rE) (J6 lo hi) H:=by
 refine`Rp
 ·rw[j70] at hi;exact hi
 ·obtain⟨e3,rfl⟩:=y
  rw[j70] at hi;subst e3;exact⟨`Ev,`W4,by simp[J6,hi],λB' gB _=>`Eo⟩
 ·rw[j70] at hi;exact hi
theorem vr0{a:`H}{p:Pos}(hm:`Ji)(ha:`Zv)(hg:`Jh := by rfl)(hs:`t6:=by rfl):PID X tg `arL (u80 gA) :=
 .mk λB δ=>`qE (Tr0 hg hm `a4 hs) fun σ H R hq83=>by
 obtain⟨items,en,e1,k⟩:=hq83
 unfold u80 at e1;cases e2:`b! with
 | none=>rw[e2] at e1;cases e1
 | some ds =>
  rw[e2] at e1;simp only[`f] at e1;unfold Xt0 at e1;split at e1
  ·split at e1
   ·rename_i j hj
    cases e1;refine`KW;rw[o6] at r;obtain⟨x,t,rfl,r1,r2⟩:=r;rw[n6] at r2;subst r2;rw[j5] at r1;subst r1;refine⟨j,rfl,hj.1,hj.2,k _ H' s' ?_⟩;have:=Ys0 (K:=X.K) (B:=B) (H:=H') 0 j;rw[Int.sub_zero] at this;exact `A
   ·cases e1
  ·cases e1
theorem W50{a:`H}{p:Pos}(hm:`Ji)(ha:PDA X `kL gA)(hg:`Jh := by rfl)(hs:`arN:=by rfl)(hs2:`arO:=by rfl) :
  PID X tg `arP (k30 gA):=.mk λB δ=>`qE (Uj0 hg hm `a4 hs hs2) fun σ H R hq84=>by
 obtain⟨items,en,e1,k⟩:=hq84
 unfold k30 at e1;cases e2:`b! with
 | none=>rw[e2] at e1;cases e1
 | some ds =>
  rw[e2] at e1;simp only[`f] at e1;unfold V90 at e1;split at e1
  ·split at e1
   ·rename_i i j hj
    cases e1;refine`KW;rw[o6] at r;obtain⟨x,t,rfl,r1,r2⟩:=r;rw[o6] at r2;obtain⟨y,t',rfl,r2,r3⟩:=r2;rw[n6] at r3;subst r3;rw[j5] at r1 r2;subst r1 r2;exact⟨i,j,rfl,⟨hj.1.1,hj.1.2,hj.2.1,hj.2.2⟩,k _ H' s' (Ys0 i j)⟩
   ·cases e1
  ·cases e1
theorem EnvS.lower{H₁:Hp}{σ:St}{δ:Ds}(e:`cS K H₁ `S H σ δ)(s:`c8 `Y H₁)(b0:`Zi):`cz:=by
 obtain⟨B,b1,b2,en⟩:=e.ex;exact⟨s.trans e.same,⟨B,b1,λa z=>(b2 a z).imp id λq=>s.free q,en⟩,λi ds a h1 h2=>s.free (`axU),b0⟩
open Classical in
theorem wo0(hp:`zP)(hc:`bL)(hi:`hy)(hg:`AK)(hb:`axY)
  (hs:`eC:=by intro _;rfl):PSD X `W? (wp0 gi f G):=.mk λH₀ B₀ δ pins s σ H D I hq85=>by
 obtain⟨r,en,e1,k⟩:=hq85
 unfold wp0 at e1;obtain⟨B,b1,b2,env⟩:=`aK;cases e2:`r5 with
 | none=>rw[e2] at e1;cases e1
 | some items =>
  rw[e2] at e1;simp only[`f] at e1;have a6:`axZ:=`ax_
  have a5:PSs X `f' (λD σ H=>∃H₀ B₀ δ,`ax0):=λpins s σ H D I ⟨`Y,`S,δ,h⟩=>`ax1
  refine `ax2;obtain⟨Hh,O⟩:∃Hh:Hp,`ax3:=`ae
  have U:`ax4:=`ax5
  have Y:`ax6:=`ax7
  have a2:`ax8:=`ax9
  have a3:`ax':=⟨λb o h=>by
   by_cases z:`xe
   ·rw[`ax!] at h;cases h
   ·rw[O] at h
    have h':`ax?:=h;rw[`iX] at h';exact h',λb o xs h=>by
   by_cases z:`xe
   ·have h0:=`aya
    rw[`ayb] at h0;cases h0
   ·rw[O]
    show (`Ex)=_;rw[`iX];exact h⟩
  have hS:`ayc:=⟨λb o h=>by
   have h1:=`ayd
   by_cases z:B b
   ·rcases b2 b z with q|q
    ·rw[a2 b q];exact h1
    ·rw[h] at q;cases q
   ·rw[U b z];exact h1,`aye⟩
  have Z:=`k5;have start:`ayf:=by
   refine`ayg
   ·by_cases q:`mC
    ·exact `nE
    ·exact `ayh
   ·have hn:=`ayi
    have nb:¬`mC:=`ayj
    obtain⟨o,e3,a',e4,hB,_⟩:=`ayk;rw[h2] at e3;cases e3;cases e4;exact Y a hB nb
   ·rw[a2 a z]
    exact `ayl
  refine⟨λi m σ H=>m=`cx - i/\`Zw/\∃δi,`aym/\z20 f G (`jp i) δi=`gl,`ayn,?_⟩;rintro i m σi Hi ⟨rfl,b3,δi,M,ei⟩;have gr:`ayo:=`ayp
  by_cases hlt:`AM
  ·refine `n ⟨`ayq,fun σ' H'=>∃δn,`ayr/\z20 f G (`xf) δn=`gl,`ays,`ayt⟩
   obtain⟨sm,d,hd,rd⟩:=`ayu;obtain⟨B',c1,c2,env0⟩:=M.ex;have a7:`ayv:=rd B' (λb o n h=>by
    have h':Hh b=`aj:=`Rv
    refine`ayw;rcases c2 b z with q|q
    ·exact `ayx
    ·rw[h'] at q;cases q) env0.bad
   have a4:=`ayy
   replace M:=M.grow sm
   have a1:`ayz:=by
    rw[`KX];congr 1;rw[`KY] at hd;exact A3 hd
   rw[a1] at ei;unfold z20 at ei;cases e3:f d δi with
   | none=>rw[e3] at ei;cases ei
   | some δ2 =>
    rw[e3] at ei;simp only[`f] at ei;refine`ayA;have a8:`ayB:=`ayC;cases e4:G δ2 with
    | none=>rw[e4] at ei;cases ei
    | some rb =>
     rw[e4] at ei;refine`ayD;cases rb with
     | nx δn=>exact `Zx
     | ct δn=>exact `Zx
     | bk δn =>
      cases ei;exact fun σ' H' en'=>k σ' H' (en'.lower hS `jo)
     | rt d' =>
      cases ei;exact λv H' s' r'=>k v H' (`Zy s') r'
     | rf d' =>
      cases ei;exact λp H' hp s' r'=>k p H' (hS.free hp) (`Zy s') r'
  ·have e:i=`cx:=`C
   subst e;refine `ayE;rw[`uC] at ei;cases ei;exact `ayF
structure PFD(X:Cx)(ifs:`bI)(g:`gI):Prop where
 mk::go:`ayG
instance{X:Cx}{ifs:`bI}{g:`gI}:`eH (PFD X ifs g) (λ_=>`ayG):=⟨PFD.go⟩
theorem yk0:PFD X [] noT:=.mk λB δ pins s σ H Q I hq86=>by
 obtain⟨b,en,e,k⟩:=hq86
 cases e;exact M80 `i s σ H Q I (k H `c')
theorem Yj0(h:`KU):PFD X [c] gt:=.mk λB δ=>Mk0 `ck
theorem ar0{σ:St}(h:j<n):`eV[j]?=`dn:=by
 unfold J5;rw[`hT `hk,`qo,`co]
theorem le0:∀n:Nat,`bB `El (`aL n (`c:`dF)) (`ayH)
 | 0=>`O
 | n+1=>`ah `sh (le0 n)
theorem cp0{σ:St}{δ:Ds}(en:`bh):∀caps:`k,`bB `El (`avw) (`awu)
 | []=>`O
 | j::`cg=>by
  refine `ah ?_ (cp0 en `cg);show SlR K H B `QU (lw0 `oZ);cases h:`oZ with
  | none=>trivial
  | some sl =>
   cases sl with
   | un=>trivial
   | ow ds=>trivial
   | ex c n=>trivial
   | sh d =>
    obtain⟨v,e,r⟩:=en.get h;rw[e];exact`axo
theorem So0{o:`Ks}{ds:D}(h:lw0 o=`Re):`bR:=by
 cases o with
 | none=>cases h
 | some s=>cases s<;>cases h
theorem ud0{δ:Ds}{ds:D}(h:`hW[i]?=`Em):`bR:=by
 unfold ze0 at h
 by_cases hi:i<n
 ·rw[`JH,`qo,`N hi] at h
  cases h
 ·rw[`XK,`ca] at h
  cases q:`cg[i - (`ayH).length]? with
  | none=>rw[q] at h;cases h
  | some j =>
   rw[q] at h;exact So0 (`pg)
theorem Env.comp{σ:St}{δ:Ds}(en:`bh)(n:Nat)(caps:`k):Env K H B `eV `hW :=
 ⟨`h_ (le0 n) (cp0 en `cg),en.bad,`Zz⟩
theorem SlR.gr{o:`dF}{s:Sl}(g:`ec)(no:∀ds,s≠`Re)(h:`axl):SlR K H' B' o s:=by
 cases s with
 | un=>trivial
 | sh d=>obtain⟨v,e,r⟩:=h;exact`AO
 | ow ds=>exact `I rfl (no ds)
 | ex c n=>obtain⟨a,e,r⟩:=h;exact⟨a,e,`sa⟩
theorem Pd.impG(g:`ec):∀{σ:St} {δ:Ds},(`ayI)->`axj->`bB (SlR K H' B') σ δ:=by
 intro σ δ no p
 induction p with
 | nil=>exact `O
 | cons r t ih=>exact `ah (r.gr g λds z=>no 0 ds (by rw[← z];rfl)) (ih λi ds z=>no `dG ds `ayJ)
noncomputable def tDF(K:`y)(B:BS)(δ:Ds)(g:`cb):TE:=fun σ H Q=>∃d,`bh/\`hx/\`ayK
structure PDF(X:Cx)(e:`H)(g:`cb):Prop where
 mk::go:`ayL
instance{X:Cx}{e:`H}{g:`cb}:`eH (`uD) (λ_=>`ayL):=⟨PDF.go⟩
theorem tD.toF{δ:Ds}{σ:St}{Q:VK}(h:tD K B δ g σ H Q):tDF K B δ g σ H Q:=by
 obtain⟨d,en,e,k⟩:=h;exact⟨d,en,e,λp H' hp s r=>k _ H' s (r.rp (λa z=>`fA) (en.free hp))⟩
theorem PDF.pd(h:`uD):`cc:=.mk λB δ=>(`Rm).imp fun σ H Q z=>z.toF
theorem l90{K:`y}{B:BS}{δ:Ds}{σ:St}{H:Hp}{Q:VK}{caps:`k}{gi:`fZ}{f:`aS}{gt:`gI}{ge:`cb}(hidx:∀j∈idx,j<n)
  (h:tDF K B δ `EA σ H Q) :
  dx0 n `cg (tDI K B δ gi) `ayM (fun σ H Q=>∃B δ,tDT K B δ gt σ H Q) (fun σ H Q=>∃B δ,tD K B δ ge σ H Q) σ H Q:=by
 obtain⟨d,en,h,k⟩:=h;unfold U5 at h;cases e1:`r5 with
 | none=>rw[e1] at h;cases h
 | some items =>
  rw[e1] at h;simp only[`f] at h
  by_cases hsz:`qy
  ·rw[`N hsz] at h
   cases e2:`Q1 with
   | none=>rw[e2] at h;cases h
   | some out =>
    rw[e2] at h;cases h;refine⟨`aQ,en,e1,`ayN⟩;have U:=`gk;have b1:¬B L:=U.free hL;obtain⟨Bp,O⟩:∃Bp:BS,Bp=`ayO:=`ae
    have a2:Bp L:=by rw[O];exact `b'
    have a8:∀a,B a->Bp a:=λa z=>by rw[O];exact `fA
    have a1:∀a,Bp a->`ajb:=λa z=>by rw[O] at z;exact z
    have gr:∀{H2:Hp},`Kh->`ayP:=λ{H2} s2 b o nb hb=>⟨(λz=>by
     rcases a1 b z with q|q
     ·exact nb q
     ·subst q;rw[hL] at hb;cases hb),s2 b o hb⟩
    refine⟨λi m ys H2=>m=`cx - i/\`Zw/\`ayQ/\`Kh/\`en<=i/\∃pre rest,out=pre++`a7/\`ayR/\zs0 f gt ge `hW (`jp i)=`a `a7,
     ⟨_,rfl,`cQ,j9,X4 hL,`jd,[],out,rfl,`f_,e2⟩,?_⟩
    rintro i m ys H2 ⟨rfl,a7,hD,s2,b0,pre,rest,ho,rp,ec⟩;have M:Env K H2 Bp `eV `hW:=by
     refine⟨Pd.impG (gr s2) `ayS (U.comp n `cg).all,`hZ,`Zz⟩;rcases a1 a z with q|q
     ·exact(U.same s2).bad a q
     ·subst q;rw[hD];exact .of rfl `axa λ_ z=>nomatch z
    by_cases hlt:`AM
    ·refine `n ⟨it.go i H2 `KZ hlt,`ayT⟩
     obtain⟨sm,dx,Z,rx⟩:=`Rx i H2 x H3 `KZ y hlt;have a3:`ayU:=rx Bp (gr (`F1 sm)) M.bad
     replace M:=`Ru sm
     replace s2:=`F1 sm
     replace hD:=sm _ _ hD
     replace rp:=rp.same sm
     have Y:`jp i=dx::`xf:=by
      rw[`KX];congr 1;rw[`KY] at Z;exact A3 Z
     rw[Y] at ec;unfold zs0 at ec;cases e3:f dx `hW with
     | none=>rw[e3] at ec;cases ec
     | some δ' =>
      rw[e3] at ec;dsimp only at ec;refine⟨Bp,dx,`D?,δ',a3,M,e3,fun σ4 w en4=>⟨⟨w.len,λj v z=>?_⟩,?_⟩⟩
      ·by_cases hj:j∈idx
       ·rw[ar0 (`f0 j hj)] at z;cases z
       ·rw[(`xd j hj).1];exact z
      ·cases e4:`Ar with
       | none=>rw[e4] at ec;cases ec
       | some t =>
        rw[e4] at ec;refine⟨Bp,δ',t,en4,e4,`ayV⟩;cases t with
        | false =>
         rw[`nI];exact⟨`Rw,`C,rfl,hlt,s5 _ _ hD,`F1 s5,`C,pre,`a7,ho,rp.same s5,ec⟩
        | true =>
         rw[`bm];dsimp only at ec;cases e5:`Ea with
         | none=>rw[e5] at ec;cases ec
         | some yd =>
          rw[e5] at ec;dsimp only at ec;cases e6:zs0 f gt ge `hW (`xf) with
          | none=>rw[e6] at ec;cases ec
          | some rest' =>
           rw[e6] at ec;cases ec;refine⟨Bp,δ',yd,`ayW,e5,λv H6 s6 r6=>?_⟩;have a6:`ayX:=s6 _ _ (s5 _ _ hD);have g6:`ayY:=λb o nb hb=>⟨nb,by
            rw[d9 (λz=>nb (by rw[z];exact a2))];exact hb⟩
           refine⟨a6,`C,`Rw,`C,rfl,hlt,j9,⟨λb o hb=>?_,λb ob zs hb=>?_⟩,`P!,pre++[yd],rest',by rw[ho];simp,?_,e6⟩
           ·have a4:b≠L:=λz=>by rw[z,hL] at hb;cases hb
            rw[d9 a4];exact s6 _ _ (s5 _ _ (s2 _ _ hb))
           ·by_cases z:b=L
            ·rw[z,j9] at hb;cases hb
            ·rw[d9 z] at hb
             exact s2.nf _ _ _ (s5.nf _ _ _ (s6.nf _ _ _ hb))
           ·exact(`pf ((rp.same s5).same s6) r6).mono g6
    ·have e:i=`cx:=`C
     subst e;refine `o ⟨`Ry _ H2 `KZ `bj,?_⟩;rw[`uC] at ec;have a5:`ayZ:=A3 ec;subst a5;rw[`cZ] at ho;subst ho;refine k L H2 (`k6 hL) `mM ⟨ys,hD,?_⟩;rw[O] at rp;exact rp
  ·rw[`ai hsz] at h;cases h
theorem ch0{sc scope:`cG}{elt iter:`H}{ifs:`bI}{N':`g}{n:Nat}{caps:`k}{gi:`fZ}{idx:`k}{f:`aS}{ge:`cb}
  (hc:`bL) (hsc:`fY) (ok:`nR) (hidx:∀j∈idx,j<n) (hi:`hy)
  (hg:`iY) (ht:`uE) (he:`qF)
  (hs:`eC:=by intro _;rfl) :
  `ay_:=.mk λB δ =>
 (gf0 hc hsc ok (hi B δ) (g:=`r') (tt:=`ZA) (te:=`ZB)
  `AP
  `ay0
  `ZC hs).imp fun σ H Q h=>l90 `f0 h
theorem Of0{sc scope:`cG}{elt iter:`H}{ifs:`bI}{N':`g}{n:Nat}{caps:`k}{gi:`fZ}{idx:`k}{f:`aS}{ge:`cb}
  (hc:`bL) (hsc:`fY) (ok:`nR) (hidx:∀j∈idx,j<n) (hi:`hy)
  (hg:`iY) (ht:`uE) (he:`qF)
  (hs:`eC:=by intro _;rfl) :
  `ay1:=(ch0 hc hsc ok `f0 hi hg ht he hs).pd
theorem Zh0(i:Nat){y:Str}{py spos:Pos}{sc scope:`cG}{elt iter:`H}{ifs:`bI}{N':`g}{n:Nat}{caps:`k}{gi:`fZ}{idx:`k}{f:`aS}{ge:`cb}
  (hN:`e8) (hc:`bL) (hsc:`fY) (ok:`nR) (hidx:∀j∈idx,j<n) (hi:`hy)
  (hg:`iY) (ht:`uE) (he:`qF)
  (hiN:`uu:=by rfl) (hy:`kd:=by first|exact `a!|exact `gi)
  (hsw:`YJ:=by rfl)
  (hs:`eC:=by intro _;rfl)
  (hf:`ke:=by first|exact `bQ|exact `b'|assumption) :
  `ay2:=.mk λH₀ B₀ δ pins s σ H D I hq87=>by
 obtain⟨r,en,e1,k⟩:=hq87
 unfold b7 at e1;obtain⟨B,b1,b2,env⟩:=`aK;cases e2:`awK with
 | none=>rw[e2] at e1;cases e1
 | some d =>
  rw[e2] at e1;cases e1;refine it0 (i:=i) hN hiN hy hc hsc ok (hi B δ) (g:=`r') (tt:=`ZA) (te:=`ZB)
   `AP
   `ay0
   `ZC hsw hs hf `i s σ H D I (l90 `f0 (tD.toF ⟨d,env,e2,λv H' s' r'=>k _ H' (en.wr b1 b2 s' ac0 ((`Zm).set i r'))⟩))
universe zz
theorem sd0{N:`g}:∀{ds:`j} {vs:`K},`KR->`bB `El (`ib `a) (ds.map `lv)
 | [],_,h=>by rw[n6] at h;subst h;exact `O
 | `as,_,h=>by
  rw[o6] at h;obtain⟨x,r,rfl,h1,h2⟩:=h;exact `ah `KD (sd0 (N:=N) h2)
theorem qr0{es:D}(h:`EB[i]?=`axk):`bR:=by
 unfold T4 at h
 by_cases hi:i<`bk
 ·rw[`JH,`ca] at h
  cases q:ds[i]? with
  | none=>rw[q] at h;cases h
  | some d=>rw[q] at h;cases h
 ·rw[`XK,`qo] at h
  split at h<;>cases h
section
variable{P:`ao}{w:`P}
theorem okD{st:`bw}{ps:`g}{k:Nat}{f:`J}{G:`iS}(F:`ZD)(S:`Kg)
  (body:`ay3)
  (hf:∀ds d,`AF->`bk=`ax/\`ay4) :
  `R P w K mg `m CX0 `eS fa fd ps (spD K f):=by
 refine `ay5
 ·rw[`b9];exact(`AQ).1
 ·refine`ay6
  have en:`ay7:=by
   refine`ay8;unfold L2.start T4;rw[`b9];exact `ay9
  rcases (`AQ).2 with e|⟨rfl,δ,e⟩|⟨e,hn⟩
  ·exact⟨_,en,e,λv H' s' r'=>q v H' s' r'⟩
  ·exact⟨_,en,e,fun σ' H' en'=>q `u H' en'.same `h5⟩
  ·exact⟨_,en,e,λp H' hp s' r'=>q _ H' s' ((r'.toO hn).rp (λa z=>`fA) (λz=>hb p z hp))⟩
noncomputable def spN(K:`y)(f:`J):Sp:=λvs H Q _=>∃(B:BS) (ds:`j) (d:D),`qD/\`KR/\`AF/\`ayK
theorem okN{st:`bw}{ps:`g}{k:Nat}{f:`J}{G:`iS}(F:`ZD)(S:`Kg)
  (body:`ay3)
  (hf:∀ds d,`AF->`bk=`ax/\`RA) :
  `R P w K mg `m CX0 `eS fa fd ps (spN K f):=by
 refine `ay5
 ·rw[`b9];exact(`AQ).1
 ·refine`ay6
  have en:`ay7:=by
   refine`ay8;unfold L2.start T4;rw[`b9];exact `ay9
  exact⟨_,en,(`AQ).2.1,λp H' hp s' r'=>q p H' hp s' (r'.toO (`AQ).2.2)⟩
universe zz
universe DL
namespace L2
open Spec PyProof.Rows
theorem cs0:∀{ys:`g} {us:`ac},`ay'->StrsAre us ys
 | [],_,r=>`ay!
 | `AR,_,r=>by
  rw[`T] at r;cases r with
  | cons r1 r2 =>
   obtain⟨t,e⟩:=r1;subst e;exact `ah y t (cs0 r2)
theorem O40:MtR X "str.join" (λx xs H Q=>∃(sep:Str) (p:`e) (ys:`g),x=`s sep/\`mp/\SqL X.K H p `xj/\`awB/\Q `awC H):=by
 intro pins s σ H x xs v us Q I rx rs h;obtain⟨sep,p,ys,rfl,rfl,hq,hz,q⟩:=h;obtain⟨t,rfl⟩:=rx;obtain⟨u,rfl,ru⟩:=rs.one;cases ru;obtain⟨its,rv,pl,_⟩:=`gE;exact join_list `lO (by simpa using cs0 rv) hz `ay?
theorem part_of{o:`bc}(p:`wE u o):∃l:`aT (Int×Tok),u=partValue l/\`er `bz=o:=by
 cases p with
 | none=>exact⟨`c,rfl,rfl⟩
 | int i t=>exact⟨`a (i,t),rfl,rfl⟩
theorem Mg0:SlR X (λx lo hi H Q=>∃z,x=`kU/\`rU/\Q `aza H):=by
 intro pins s σ H x v vl vu lo hi sl Q I rx hs pl pu h;obtain⟨z,rfl,hz,q⟩:=h;obtain⟨t,rfl⟩:=rx;obtain⟨l,rfl,rfl⟩:=part_of pl;obtain⟨u,rfl,rfl⟩:=part_of pu;refine⟨`iP,_,F.slot_str_getitem.lookup,W1 _ _ _,wpAny_getItem_str_slice (l:=l) (u:=u) (st:=`c) ?_ rfl (post_val_or_str ⟨B9 (Txt.slice_le z _ _) hz,`ay?⟩)⟩;obtain⟨o,h1,h2,h3⟩:=hs;exact⟨o,h1,h2,h3⟩
universe L2
namespace DL
open Spec PyProof.Rows L2
noncomputable def tyD:D->`cH
 | `u => "NoneType"|`bA => `uF|`b? => `hu|`br => `iP|`Ao => `c2|`bK => `eh|`nV => `EZ|`nW => `wb
noncomputable def okT(T:`cH)(f:`dc):Prop:=∀(K:`y) (d:D),W.kitOne K (`bq (tyD d)) `wD=`a (f d)
theorem N00:okT `hu isInt:=`K_
theorem Y40:okT `iP isStr:=`K_
theorem jc0:okT `uF `Gu:=`K_
theorem w80:okT `c2 `lj:=`K_
section
theorem Q70{T:`cH}{f:`dc}(hT:okT T f):`gf X (`cK `uG) (λxs H Q=>∃B d x,xs=[x,.ty T]/\`E9/\Q (.bl (f d)) H):=by
 intro pins s σ H xs us Q I rs h;obtain⟨B,d,x,rfl,r,q⟩:=h;obtain⟨u,c,rfl,ru,rc⟩:=rs.two;obtain rfl:c=`h7 T:=rc;have fin:∀tk,EP X `i σ Q (`f9 (f d)) { s with toks:=tk }:=λtk=>⟨`bA,H,I.tok tk,rfl,q⟩
 have e:=hT X.K d;cases d with
 | non=>rw[V6] at r;subst r;cases (show u=`mO from ru);exact L0 W.kitx_none `d_ `kP e `dI fin
 | bl y=>rw[X7] at r;subst r;cases (show u=`wU y from ru);exact L0 W.kitx_bool `d_ `kP e `dI fin
 | int i=>rw[j5] at r;subst r;obtain⟨t,rfl⟩:=(show `Ds from ru);exact L0 W.kitx_int `d_ `kP e `dI fin
 | str y=>rw[Y9] at r;subst r;obtain⟨t,rfl⟩:=(show ∃t,u=`CW y t from ru);exact L0 W.kitx_str `d_ `kP e `dI fin
 | tup ds =>
  rw[V3] at r;obtain⟨a,xs,rfl,hq,_⟩:=r;cases `K0;obtain⟨its,_,p,_⟩:=`gU `lU;obtain⟨o,h1,h2,_⟩:=p;exact L0 W.kitx_tuple `d_ `azb e `dI fin
 | lst ds =>
  rw[W4] at r;obtain⟨a,xs,rfl,hq,_⟩:=r;cases `K0;obtain⟨its,_,p,_⟩:=`ek `lU;obtain⟨o,n,h1,h2,_⟩:=p;exact L0 W.kitx_list `d_ `azb e `dI fin
 | dct ks ds =>
  rw[py0] at r;obtain⟨a,xs,rfl,_,hq,_⟩:=r;cases `K0;cases ks with
  | inl ks =>
   obtain⟨_,_,vs,_,p⟩:=(show `ct `aZ X.w H `aE a (`Kz) from `azc);obtain⟨o,es,ep,h1,h2,_⟩:=p;exact `azd
  | inr ks =>
   obtain⟨_,_,vs,_,o,es,ep,h1,h2,_⟩:=(show `ct `aZ X.w H `aE a (`YW) from `azc);exact `azd
 | fn ks ds =>
  rw[Pg0] at r;obtain⟨a,xs,rfl,hq,_⟩:=r;cases `K0;obtain⟨oF,_,_,_,_,_,_,_,_,⟨_,h1⟩,⟨h2,_⟩,_⟩:=hq;exact L0 KfT.kit `d_ ⟨oF,(`bY a _ h1).1,h2⟩ e `dI fin
theorem yt0{T:`cH}{f:`dc}{Tn:Str}{p p2 pos:Pos}(hT:okT T f)(hb:`f7 Tn=`a `wD)(hm:`b7 `uG=`c)(hmT:`b7 Tn=`c)(h:`cc)(hg:Gl X `uG := by rfl)(hgT:Gl X Tn:=by rfl)
  (hn:Tn ≠`C4 := by decide) (hd:(Tn==`rC)=`q:=by decide)
  (he:`cM [e,`EE] `x=`oK::`ZE:=by rfl) (he2:`ZE=(`q,`bb (`EE) `x)::`h0:=by rfl)
  (hpl:(`f8 pos (`ZE)).any `bz=`q:=by rfl) :
  PD X (`aR (`ce `uG p) [e,`EE] [] pos) (Q4 f g) :=
 .mk λB δ=>(jm0 (Q70 hT) hg hm PyProof.Rows.boot_isinstance (O9 `ck (O9 (Nj0 (v:=.ty T) hgT hmT hb rfl hn hd) yx0 he2) he) `p `p he hpl).imp fun σ H Q hq88=>by
  obtain⟨d,en,h,k⟩:=hq88
  unfold Q4 at h;cases e1:`ar with
  | none=>rw[e1] at h;cases h
  | some x =>
   rw[e1] at h;cases h;exact⟨x,en,e1,λv H1 s1 r1=>⟨B,x,v,rfl,r1,k _ H1 s1 `Ep⟩⟩
theorem cr0{C:`Xc}[∀i j,`qG (C i j)]{g:`Jk}{g':`aze}(hg:`azf):Op2 K (rI C g) (ii λi j=>if C i j then `a `RD else `c):=by
 intro H B x y dx dy d Q hb rx ry h k;cases dx<;>cases dy<;>simp only[ii] at h<;>try cases h
 rename_i i j;split at h
 ·cases h
  rw[j5] at rx ry;subst rx ry;exact⟨i,j,rfl,rfl,`uH,`azg⟩
 ·cases h
theorem m40{g:`Jk}{g':`aze}(hg:`azf):Op2 K (rI0 g) (ii λi j=>`a `RD):=by
 intro H B x y dx dy d Q hb rx ry h k;cases dx<;>cases dy<;>simp only[ii] at h<;>try cases h
 rename_i i j;rw[j5] at rx ry;subst rx ry;exact⟨i,j,rfl,rfl,`azg⟩
instance decDiv(i j:Int):`qG (Rv0 i j):=inferInstanceAs (`qG (`Jn))
instance decPow(i j:Int):`qG (R80 i j):=inferInstanceAs (`qG (`Xe))
variable{a:`H}{ga:`cb}
theorem K8(ha:`cr)(hb:`df):PD X (`oG a .Sub b pos) (o2 ga gb O6):=oo0 Lo0 (m40 (g':=`ar3) `K1) ha hb
theorem Z9(ha:`cr)(hb:`df):PD X (`oG a .FloorDiv b pos) (o2 ga gb o8):=oo0 Ok0 (cr0 (C:=Rv0) (g':=`ar5) `K1) ha hb
theorem d8(ha:`cr)(hb:`df):PD X (`oG a .Mod b pos) (o2 ga gb o5):=oo0 Lx0 (cr0 (C:=`ar6) (g':=`ar7) `K1) ha hb
theorem q80(ha:`cr)(hb:`df):PD X (`oG a .Pow b pos) (o2 ga gb nf0):=oo0 Mu0 (cr0 (C:=R80) (g':=`ar8) `K1) ha hb
universe zz
universe DL
namespace L2
open Spec PyProof.Rows
noncomputable def P00(K:`y):R2:=λx y H Q=>∃l b xs zs,`Ae/\`z9/\SqL K H l xs/\`azh/\`azi/\∀p,`dH->Q `c7 (upd H p `K2)
theorem Yu0:OpR X `zV (P00 X.K):=by
 intro pins s σ H x y v u Q I rx ry h;obtain⟨l,b,xs,zs,rfl,rfl,hH,hB,hz,q⟩:=h;cases rx;cases ry;obtain⟨its,r,p1,z1⟩:=`ek hH;obtain⟨J,r2,p2,z2⟩:=`ek hB;obtain⟨⟨cls,dd,data,sl⟩,ho,hc,n,hd⟩:=`qH;obtain⟨⟨a2,Y,data2,Z⟩,M,O,n2,U⟩:=`K3;simp only at hc hd O U;subst hc hd O U;have e:`a6++`ZF=(its++J).toArray:=`aW
 have a1:`azj:=by
  rw[`a9,`a9,← `b9,← `mJ];exact hz
 refine l6 `j? ⟨_,M,rfl⟩ noFill_list_add seq_list_add PySem.F.slot_list_add PySem.F.entry_list_add (PySem.F.args_list_add_2 _ _) (list_addW l b `a6 `ZF n n2 dd Y sl Z a1) ⟨ho,M,?_⟩;rw[e];exact⟨`z _,_,I.lnew (t':=`a8) (`z4 r2) (`aud),rfl,`azk⟩
universe L2
namespace DL
open Spec PyProof.Rows L2
section
variable{a:`H}{p:Pos}{ga:`cb}
theorem d10(hb:`xa){p:`e}(h:`dH):¬B p:=λz=>hb p z h
theorem pv0{p:`e}(hb:`xa)(h:`dH)(r:`a1):Rp K (upd H p `mg) B `D! `c7:=by
 rw[W4];exact⟨p,xs,rfl,`o ⟨d10 hb h,`Ze⟩,`azl⟩
theorem ll0{p:`e}(hb:`xa)(h:`dH)(r:`a1):Rp K (upd H p `op) B `r2 `c7:=by
 rw[V3];exact⟨p,xs,rfl,⟨d10 hb h,j9⟩,`azl⟩
theorem qn0:Op2 K (rI0 `Xg) ltD:=m40 (g':=`Xg) `K4
theorem br0:Op2 K (rI0 `Xh) leD:=m40 (g':=`Xh) `K4
theorem s90:Op2 K (rI0 `Xi) gtD:=m40 (g':=`Xi) `K4
theorem Mx0:Op2 K (rI0 `Xj) geD:=m40 (g':=`Xj) `K4
theorem Um0{x y:V}{dx dy:D}{b:`aa}(rx:`Y')(ry:`axu)(h:`ZG=`k0):`Xf/\`Dn=b:=by
 cases dx<;>cases dy<;>simp only[eqS] at h<;>try cases h
 all_goals
  simp only[V6,X7,j5,Y9] at rx ry;subst rx ry;refine`ZH;simp
theorem Z3:Op2 K rEq eqD:=by
 intro H B x y dx dy d Q hb rx ry h k;unfold eqD at h;cases e:`ZG with
 | none=>rw[e] at h;cases h
 | some b =>
  rw[e] at h;cases h;obtain⟨h1,h2⟩:=`azm;exact`azn
theorem L70:Op2 K rNe neD:=by
 intro H B x y dx dy d Q hb rx ry h k;unfold neD at h;cases e:`ZG with
 | none=>rw[e] at h;cases h
 | some b =>
  rw[e] at h;cases h;obtain⟨h1,h2⟩:=`azm;exact`azn
theorem lh0:Op2 K `ar! qb0:=by
 intro H B x y dx dy d Q hb rx ry h k;have hy:dy=`u:=by cases dy<;>first|rfl|cases h
 subst hy;cases h;rw[V6] at ry;refine⟨ry,`K5⟩;rw[X7];cases dx<;>simp only[V6,X7,j5,Y9,V3,W4,py0,Pg0] at rx
 all_goals first
  | (subst rx;rfl)
  | (obtain⟨a,xs,rfl,_⟩:=rx;rfl)
theorem Tq0(xs:`aH)(i:Int):`ZI=DL.atI xs i:=rfl
theorem pz0(n d:Nat)(o:`bc):`hU n d o=sIx n d o:=by cases o<;>rfl
theorem Yq0{i:Int}{d:D}(r:`a1)(h:DL.atI ds i=`bd):∃v,`ZI=`bX/\`ci:=by
 rw[Tq0];unfold DL.atI at h ⊢;rw[`b9];cases e:DL.ixN `bk i with
 | none=>rw[e] at h;cases h
 | some j =>
  rw[e] at h;exact `qp h
theorem M50:Op2 K (rIx K) ixD:=by
 intro H B x y dx dy d Q hb rx ry h k;cases dx<;>cases dy<;>simp only[ixD] at h<;>try cases h
 ·split at h
  ·rename_i hz
   rw[Y9] at rx;rw[j5] at ry;subst rx ry;obtain⟨c,hc,rfl⟩:=m4.mp h;exact `n (`n ⟨_,_,c,rfl,rfl,hz,hc,`KP⟩)
  ·cases h
 ·rw[V3] at rx
  rw[j5] at ry;subst ry;obtain⟨a,xs,rfl,q,r⟩:=rx;obtain⟨v,hv,rv⟩:=Yq0 r h;exact `n (`azo)
 ·rw[W4] at rx
  rw[j5] at ry;subst ry;obtain⟨a,xs,rfl,q,r⟩:=rx;obtain⟨v,hv,rv⟩:=Yq0 r h;exact `azo
theorem j7(ha:`cr)(hb:`df)(hs:`z!:=by exact `lT):PD X `z? (o2 ga gb ixD):=Jf0 Mo0 M50 ha hb hs
structure PDO(X:Cx)(e:`pc)(g:`ux):Prop where
 mk::go:`azp
instance{X:Cx}{e:`pc}{g:`ux}:`eH (PDO X e g) (λ_=>`azp):=⟨PDO.go⟩
theorem y90:PDO X `c J8:=.mk λB δ pins s σ H Q I hq89=>by
 obtain⟨o,en,h,k⟩:=hq89
 cases h;exact Nz0 `i s σ H Q I (k H `c')
theorem z80(h:`cc):PDO X (`a e) (`fI g):=.mk λB δ pins s σ H Q I hq90=>by
 obtain⟨o,en,hq,k⟩:=hq90
 unfold someO at hq;cases e1:`ar with
 | none=>rw[e1] at hq;cases hq
 | some d =>
  rw[e1] at hq;cases d<;>simp[asI] at hq
  subst hq;exact O70 `ck `i s σ H Q I ⟨_,en,e1,λv H' s' r=>⟨_,`azq,k H' s'⟩⟩
theorem X00(r:`a1)(lo hi:`bc):Rps K H B (`pa ds lo hi) (`DH):=by
 unfold cutD ma0;rw[`b9,pz0,pz0];exact(r.drop _).take _
theorem ym0{d:D}(h:Rps K H B [d] xs):∃v,xs=[v]/\`ci:=by
 rw[o6] at h;obtain⟨x,r,rfl,h1,h2⟩:=h;rw[n6] at h2;subst h2;exact`KD
theorem Me0:FnR K (λxs H Q=>(`auH)∨∃p ys,`mp/\(`ZJ∨`ZK)/\`auF) V2:=by
 intro H B xs ds d Q hb r h k;unfold V2 at h;split at h
 ·split at h
  ·cases h
   obtain⟨v,rfl,r1⟩:=`iZ;rw[Y9] at r1;subst r1;exact `o ⟨_,rfl,`uH,`sn⟩
  ·cases h
 ·cases h
  obtain⟨v,rfl,r1⟩:=`iZ;rw[W4] at r1;obtain⟨a,ys,rfl,q,rr⟩:=r1;exact `n ⟨a,ys,rfl,`ZL,`azr⟩
 ·cases h
  obtain⟨v,rfl,r1⟩:=`iZ;rw[V3] at r1;obtain⟨a,ys,rfl,q,rr⟩:=r1;exact `n ⟨a,ys,rfl,`ZM,`azr⟩
 ·cases h
theorem G3(hm:`azs)(ha:`AS)(hg:`azt := by rfl)(he:`fd:=by rfl)(hpl:`kj:=by rfl) :
  PD X `azu (oA gA V2):=ug0 (Z90.or m70) Me0 hm X0 ha hg `p `p he hpl
theorem bk0:∀{ds:`j} {xs:`K} {bs:`g},`a1->jh0 ds=`a bs->xs=bs.map `xi
 | [],_,_,r,h=>by
  cases h;rw[n6] at r;exact r
 | `as,_,bs,r,h=>by
  rw[o6] at r;obtain⟨x,t,rfl,r1,r2⟩:=r;cases d<;>simp only[jh0] at h<;>try cases h
  obtain⟨t',e,rfl⟩:=m4.mp h;rw[Y9] at r1;rw[r1,bk0 r2 e];rfl
theorem Yw0{apos cpos:Pos}(ho:`ZN)(ha:`AS)(hbase:`eQ o "join" `x `mq=`hP:=by rfl)
  (hfew:(`nX
  &&`K6)=`b:=by rfl)
  (hline:`eF:=by rfl) (hs:`fd:=by rfl) (hplain:`lV:=by rfl) :
  PD X (`aR (`c5 o "join" `em) [e] [] `b_) (ni0 g gA):=.mk λB δ =>
 (rc0 `azv F.slot_str_join F.type_str_join O40 (ho B δ) `a4 `e' `iQ `e! hs `ka).imp fun σ H Q hq91=>by
  obtain⟨d,en,h,k⟩:=hq91
  unfold ni0 at h;cases e1:`ar with
  | none=>rw[e1] at h;cases h
  | some x =>
   cases e2:`b! with
   | none=>rw[e1,e2] at h;cases h
   | some ds =>
    rw[e1,e2] at h;simp only[`f] at h;unfold dw0 at h;split at h
    ·cases e3:jh0 _ with
     | none=>rw[e3] at h;cases h
     | some ys =>
      rw[e3] at h;simp only[`f] at h;split at h
      ·cases h
       refine`ZO;rw[Y9] at r1;subst r1;refine`azw;obtain⟨w,rfl,r3⟩:=ym0 r2;rw[W4] at r3;obtain⟨a,zs,rfl,q,rr⟩:=r3;have:=bk0 rr e3;subst this;exact⟨_,a,ys,rfl,rfl,`et,`uH,k _ H2 `mM `Eq⟩
      ·cases h
    ·cases h
theorem vy0:FnR K (λxs H Q=>∃p ys,`mp/\((`ZJ/\`ain)∨(`ZK/\Q `c7 H))) zo0:=by
 intro H B xs ds d Q hb r h k;unfold zo0 at h;split at h
 ·cases h
  obtain⟨v,rfl,r1⟩:=`iZ;rw[W4] at r1;obtain⟨a,ys,rfl,q,rr⟩:=r1;exact⟨a,ys,rfl,`o ⟨`et,λl hl=>k _ _ (X4 hl) (ll0 hb hl rr)⟩⟩
 ·cases h
  obtain⟨v,rfl,r1⟩:=`iZ;have J:=r1;rw[V3] at r1;obtain⟨a,ys,rfl,q,rr⟩:=r1;exact⟨a,ys,rfl,`n ⟨`et,k _ H `c' J⟩⟩
 ·cases h
universe zz
section
variable{a:`H}{p:Pos}{ga:`cb}
theorem zq0(h:`cr):PD X (`P4 .USub a pos) (unG U4 ga):=.mk λB δ=>(Kn0 K60 `ck).imp fun σ H Q hq92=>by
 obtain⟨d,en,h,k⟩:=hq92
 unfold unG at h;cases e1:`c9 with
 | none=>rw[e1] at h;cases h
 | some x =>
  rw[e1] at h;cases x<;>simp[U4] at h
  subst h;exact⟨_,en,e1,λv H' s r=>⟨_,`azq,k _ H' s `xb⟩⟩
noncomputable def FnD(P:`ao)(w:`P)(K:`y)(mg:`bx)(base:`Q)(x:Str)(k:Nat)(ps:`g)(f:`J):Prop :=
 ∃(fa:`e) (fd:`ho),`R P w K mg `m CX0 k fa fd ps (spD K f)/\`ZP
theorem T9{k:Nat}{ps:`g}{f:`J}(C:`azx)(hr:`AT)(hk:k<=m)(ha:`nU)(hg:`cI:=by rfl)(hdb:`aJ:=by decide)
  (he:`d?:=by rfl) (hpl:`gF:=by rfl):`AJ:=by
 obtain⟨fa,fd,F,hm,kp,hb⟩:=C;exact N60 F `qI hm kp hb ha hg hdb he hpl
theorem lv0{sc scope:`cG}{elt iter tg:`H}{ifs:`bI}{N N':`g}{n:Nat}{caps:`k}{gi:`fZ}{idx:`k}{f:`aS}{gt:`gI}{ge:`cb}
  (ok:`qJ) (hidx:∀j∈idx,j<n) (hi:`hy)
  (hg:`iY) (ht:`uE) (he:`qF)
  (hc:`bL:=by rfl) (hsc:`fY:=by rfl) (hN:`uI:=by rfl) (hs:`eC:=by intro _;rfl) :
  `ay1:=Of0 hc hsc `uJ `f0 hi hg ht he hs
theorem o90(i:Nat){y:Str}{py spos:Pos}{sc scope:`cG}{elt iter tg:`H}{ifs:`bI}{N N':`g}{n:Nat}{caps:`k}{gi:`fZ}{idx:`k}{f:`aS}{gt:`gI}{ge:`cb}
  (hnd:`I0) (ok:`qJ) (hidx:∀j∈idx,j<n) (hi:`hy)
  (hg:`iY) (ht:`uE) (he:`qF)
  (hc:`bL:=by rfl) (hsc:`fY:=by rfl) (hN:`uI:=by rfl)
  (hiN:`uu:=by rfl) (hy:`kd:=by first|exact `a!|exact `gi)
  (hsw:`YJ:=by rfl)
  (hs:`eC:=by intro _;rfl)
  (hf:`ke:=by first|exact `bQ|exact `b'|assumption) :
  `ay2:=Zh0 i (hN▸hnd) hc hsc `uJ `f0 hi hg ht he hiN hy hsw hs hf
universe zz
universe DL
namespace DL
open Spec PyProof.Rows
@[simp] noncomputable def fz:D->Sl
 | `t [`bK,`bK]=>.un
 | `t (`br::_)=>.un
 | `t [`b?,`Ao]=>.un
 | d=>.sh (unl d)
@[simp] noncomputable def wv0:Sl->Sl
 | `xn=>fz d
 | s=>s
@[simp] noncomputable def frz(δ:Ds):Ds:=δ.map wv0
@[simp] noncomputable def flat:`dc
 | `u=>`b|`bA=>`b|`b?=>`b|`br=>`b|_=>`q
@[simp] noncomputable def vg0(g:GE):GE:=fun δ=>`ZQ λd=>if `nY then `bd else `c
@[simp] noncomputable def pa0(g:GB):GB:=`azy
@[simp] noncomputable def ob0(g:GE):GE:=`azy
@[simp] noncomputable def frzAt(i:Nat)(δ:Ds):Ds:=match `cj with
 | `a s=>`a0 i `ZR
 | `c=>δ
@[simp] noncomputable def Qg0(i:Nat)(G:GS):GS:=fun δ=>G (frzAt i δ)
@[simp] noncomputable def Q3(i:Nat)(g:GE):GS:=fun δ=>`uv λd=>.nx `pd
abbrev GX:=Ds->`aT (D×Ds)
@[simp] noncomputable def Z8(g:GE):GX:=fun δ=>`uv λd=>(d,δ)
variable{gx:DL.GX}
@[simp] noncomputable def Q0(gx:GX)(ft:`aS):GS:=fun δ=>`K7 λr=>(ft r.1 r.2).map .nx
@[simp] noncomputable def j6(gx:GX):GS:=fun δ=>`AU λr=>.nx r.2
@[simp] noncomputable def owL(i:Nat)(δ:Ds):`oX:=match `cj with
 | `azz=>`jh
 | _=>`c
@[simp] noncomputable def zu0(i:Nat)(g:GE):GX:=fun δ=>`K8 λds=>`cq λd=>if `bk<`L then `a (`u,`azA) else `c
@[simp] noncomputable def wt0(i:Nat)(g:GE):GX:=fun δ=>`K8 λds=>`cq λd=>match d with
 | `jv=>if `bk+`gm<=`L then `a (`u,`azB) else `c
 | _=>`c
@[simp] noncomputable def q60(i:Nat):GX:=fun δ=>`K8 λds=>(`azC).map λd=>(d,`azD)
@[simp] noncomputable def setAt(i:Nat)(g:GE):`aS:=λv δ=>`K8 λds=>`cq λd=>match d with
 | `ik=>(ixN `bk k).map λj=>`azE
 | _=>`c
abbrev K6:=`Q_
@[simp] noncomputable def yp0:D->`aT K6
 | `a_=>`a (`o i)
 | `bH=>`a (`nC)
 | _=>`c
noncomputable def q30:`j->`azF
 | []=>`oY
 | `as=>`K9 λk=>(`K').map (k::·)
@[simp] noncomputable def qg0:D->`azF
 | `b0=>`K'
 | _=>`c
noncomputable def vv0{κ:Type}[`lW]:`lX->`j->κ->`d2
 | `kk,`as,q=>if k=q then `bd else `ZS
 | _,_,_=>`c
noncomputable def ya0{κ:Type}[`lW](ks:`lX)(k:κ):`aa:=ks.any λq=>`w (q=k)
noncomputable def xh0{κ:Type}[`lW](ks:`lX)(k:κ):`lX:=if `xo=`b then ks else ks++[k]
noncomputable def xg0{κ:Type}[`lW](ks:`lX)(ds:`j)(q:κ)(v:D):`j:=if `qK=`b then `azG (`aj1) else ds++[v]
@[simp] noncomputable def gw0(i:Nat)(δ:Ds):`aT (`azH):=match `cj with
 | `a (.ow (`Ay))=>`a (ks,ds)
 | _=>`c
@[simp] noncomputable def putAt(i:Nat)(g:GE):`aS:=λv δ=>`azI λr=>`cq λd=>`K9 λk =>
 if r.1.length<`L then `a (`a0 i (.ow (`cy (`o (xh0 r.1 k)) (xg0 r.1 r.2 k v)))) else `c
@[simp] noncomputable def p30:`bs
 | `kg,d=>match ks with
  | `w9=>`K9 `azJ
  | `Av=>(qg0 d).bind `azJ
 | _,_=>`c
@[simp] noncomputable def vc0(neg:`aa):`bs
 | d,`kg=>match ks with
  | `w9=>(`EL).map `azK
  | `Av=>(qg0 d).map `azK
 | _,_=>`c
noncomputable def T5(gt:GB)(G:GS):Nat->`iS
 | 0,_=>`c
 | n+1,δ=>match `fy with
  | `aV=>`w3
  | `eb=>match G δ with
   | `d4=>`ZT
   | `Kq=>`ZT
   | `Kr=>`d4
   | r=>r
  | `c=>`c
@[simp] noncomputable def n60(i j:Nat):`aS
 | `aoE,δ=>`a ((`a0 i (.sh a)).set j (.sh b))
 | _,_=>`c
mutual
noncomputable def deq:D->`dc
 | `u,`u=>`b
 | `p!,`dm=>`j0
 | `p!,`it=>`X8
 | `nN,`dm=>`X9
 | `nN,`it=>`j0
 | `g5,`mP=>`j0
 | `ei,`DO=>`K!
 | `cN,`wK=>`K!
 | _,_=>`q
noncomputable def xk0:`j->`AV
 | [],[]=>`b
 | `lN,`AR=>`p8&&`K!
 | _,_=>`q
end
mutual
noncomputable def lean:D->Nat->`aa
 | `nV,_=>`q
 | `nW,_=>`q
 | `ei,n+1=>`ZU
 | `cN,n+1=>`ZU
 | `Ao,0=>`q
 | `bK,0=>`q
 | _,_=>`b
noncomputable def leans:`j->Nat->`aa
 | [],_=>`b
 | `lN,n=>`cA x n&&`ZU
end
@[simp] noncomputable def wq0(x y:D):`d2:=if `HZ then `a (.bl (`p8)) else `c
@[simp] noncomputable def xx0(x y:D):`d2:=if `HZ then `a (.bl (!`p8)) else `c
@[simp] noncomputable def eqF:D->`dc
 | `u,`u=>`b
 | `p!,`dm=>`j0
 | `p!,`it=>`X8
 | `nN,`dm=>`X9
 | `nN,`it=>`j0
 | `g5,`mP=>`j0
 | _,_=>`q
@[simp] noncomputable def wm0(neg:`aa):`bs
 | x,`wK=>`azL
 | x,`DO=>`azL
 | _,_=>`c
@[simp] noncomputable def intOfD:`J
 | [`a_]=>`Gw
 | [`rG]=>`a (`Qh)
 | _=>`c
@[simp] noncomputable def zn0:`J
 | `As=>`qx
 | [`b0]=>`qx
 | _=>`c
noncomputable def mkF(n:Nat)(N:`g)(G:GS)(ds:`j):`d2:=if `uK then (match `xh with
 | `sc=>`bd
 | `o'=>`azM
 | `a (.nx _)=>`a `u
 | _=>`c) else `c
theorem Q8{d:D}(h:`azN):`uK/\`ay4:=by
 unfold mkF at h;split at h
 ·rename_i hl
  refine`ZV;split at h
  ·rename_i e;cases h;exact `qm
  ·rename_i e
   split at h
   ·cases h
   ·rename_i hn
    cases h;exact `n (`n `azO)
  ·rename_i e;cases h;exact `n (`o ⟨rfl,_,e⟩)
  ·cases h
 ·cases h
noncomputable def mkN(n:Nat)(N:`g)(G:GS)(ds:`j):`d2:=if `uK then (match `xh with
 | `o'=>`azM
 | _=>`c) else `c
theorem v30{d:D}(h:`azP):`uK/\`RA:=by
 unfold mkN at h;split at h
 ·rename_i hl
  refine`ZV;split at h
  ·rename_i e
   split at h
   ·cases h
   ·rename_i hn
    cases h;exact`azO
  ·cases h
 ·cases h
theorem S6{d:D}(hl:`uK)(h:`ajh)(hn:`EC:=by rfl):`azP:=by
 unfold mkN;rw[`ki,h];simp only[];rw[hn];rfl
@[simp] noncomputable def R5(g:GE):GS:=fun δ=>`uv .rf
@[simp] noncomputable def n70(i:Nat):GS:=fun δ=>match `cj with
 | `sg=>`o'
 | _=>`c
theorem V4{G1 G2:GS}{δ:Ds}{d:D}(h:`mx=`o'):`Kv=`o':=`YV
theorem N6{g:GE}{δ:Ds}{d:D}(h:`hx):R5 g δ=`o':=by unfold R5;rw[h];rfl
theorem Y0{d:D}(hl:`uK)(h:`aji):`azN:=by
 unfold mkF;rw[`ki,h]
theorem u9{G1 G2:GS}{δ:Ds}{r:`w1}(h:`YU)(k:`Aq=r):`Kv=r:=(K80 h).trans k
@[simp] noncomputable def m8:`bs
 | `a_,`fr=>`a (`Dm)
 | `bH,`nT=>if `oI+y.length<=`L then `a (`s (x++y)) else `c
 | `cN,`wK=>`azQ
 | `ei,`DO=>if `EO then `azR else `c
 | _,_=>`c
noncomputable def I30(x:Str)(n:Int):Str:=`ZW
@[simp] noncomputable def V1:`bs
 | `a_,`fr=>if `ar0 then `amN else `c
 | `bH,`iq=>if `ZX/\n<`ga/\`oI*`g2<=`L then `a (`s (I30 x n)) else `c
 | `ei,`ik=>if `z'/\2<=k/\`AW/\`azS then `a (`ZY) else `c
 | _,_=>`c
@[simp] noncomputable def slA(d:D)(lo hi:`bc):`d2:=match d with
 | `kU=>if `rU then `a `aza else `c
 | `cN=>`a (`l (`ZZ))
 | `ei=>`a (`t (`ZZ))
 | _=>`c
@[simp] noncomputable def zh0(g:GE)(gl gh:GO):GE:=fun δ=>`cq λd=>`azT λl=>`azU λh=>slA d l h
universe DL
variable{gx:DL.GX}
namespace Dep
open Spec PyProof.Rows
section
variable{w:`P}{K:Type}[`EM K]{knd:`azV}{s:`v}{d:`e}{xs:`azW}{k:K}{v:`E}{Q:`qh}
noncomputable def At(knd:`azV)(h:`Q)(d:`e)(xs:`azW):Prop :=
 ∃o es ep,`hH d=`aj/\`V3/\`V4/\es.toList=`wf (`IE knd)/\(∀x∈xs,knd.is h x.1 x.2.1)/\`apI
theorem At.old{h:`Q}(x:At knd h d xs):h.DictOfH knd d xs:=by obtain⟨o,es,ep,a,b,c,e,f,g,_⟩:=x;exact⟨o,es,ep,a,b,c,e,f,g⟩
theorem put(hu:knd.room A)(hkey:`azX)(hm:`azY)
  (hQ:`azZ) (hsz:`hp) :
  `r `av A (`az_) Q E s:=by
 obtain⟨o,es,ep,ho,hc,hd,he,J,hn,hp⟩:=hm;unfold dictSet
 try with_reducible refine `sr
 refine A0 (knd.pyHash hu hkey ?_);unfold dictSetHashed
 try with_reducible refine `sr
 refine A0 (wpAny_dictFind_heap (s:=`Z_) hu hkey ho hd he J hn ?_ ?_)
 ·intro O
  have M:=atKey_none_of_get O;have U:k∉`wf `bz:=not_mem_keys_of_get O;refine A0 (L4 (wpAny_updateDictKeys (hz:=by have e:=size_of_entries he;omega) (s:=`Z_) ho hd `Z0));rw[storedH_new M];refine⟨_,_,ep+1,E6 _ ho (`az0 (`az1)),hc.mapDictKeys _,`az1,by simp[he,`IE],`nS,?_,`YT⟩
  ·rcases `nZ with hx|hx
   ·exact `Z1 (J x hx) ho hd `EQ
   ·rw[`fC hx];exact `Z1 hkey ho hd `EQ
  ·rw[`aN,`K?]
   exact⟨hn,`aW,λx hx y hy e=>U (by rw[`T,`jr,`az2] at hy;have e2:x=k:=e.trans hy;rw[← e2];exact hx)⟩
 ·intro j p hj
  have Y:=atKey_of_get hn hj;refine A0 (L4 (A0 (wpAny_updateDict (s:=`Z_) ho hd (wpAny_point `Z0))));rw[storedH_old Y];refine⟨_,_,ep,E6 _ ho (`az0 (`az3)),hc.mapDict _,`az3,?_,`nS,?_,`YT⟩
  ·have:=modify_map_putAt (`IE knd) (λe:DictEntry=>{ e with val:=v }) k v (`lT) hn hj
   rw[← he] at this;obtain⟨l⟩:=es
   simpa using `A
  ·obtain⟨y,hy,rfl⟩:=`La
   unfold putAt;split<;>exact `Z1 (J y hy) ho hd `EQ
  ·rw[keys_map_putAt];exact hn
theorem set(hu:knd.room `bC)(hkey:`azX)(hm:`azY)
  (hQ:`azZ) (hsz:`hp) :
  `r `av A (`Dh (`z d) `dZ v) Q E s:=by
 have ty:=hm.old.typeIs;unfold setItem
 try with_reducible refine `sr
 refine A0 (A30 ty `p ?_);refine A0 (L6 (name:=`DF `az4) ty `az5 (E3 `az5 ty entry_dict_setitem ?_ (args_dict_setitem _ _ _)));show `r _ _ (Builtin.Dict.notOrdered `az4 ⟨[`z d,`b8,v],[]⟩>>=_) _ _ s;refine A0 (wpAny_notOrdered_dict ty ?_);show `r _ _ (`az_>>=_) _ _ s;exact A0 (put hu hkey hm (λh' M J=>A1 ⟨`ay,rfl,A1 (hQ h' M J)⟩) hsz)
universe zz
universe Dep
namespace L2
open Spec PyProof.Rows
section
variable[`lW]
noncomputable def xb0(kvs:`gC)(k:κ):`dF:=(kvs.find? `RJ).map `eO
noncomputable def putK(kvs:`gC)(k:κ)(v:V):`gC :=
 if `Lb=`b then `ET (λkv=>if `ER then (`pb,v) else kv) else kvs++[`Dr]
theorem rr0{p:`CX}{r:`gC}{k:κ}(e:`qL):`az6=`rs:=`az7
theorem q10{p:`CX}{r:`gC}{k:κ}(e:¬`qL):`az6=xb0 r k:=`az7
theorem Z80(k:κ):∀kvs:`gC,`Lb=(`k2).isSome
 | []=>rfl
 | p::r=>by
  rw[`nO]
  by_cases e:`qL
  ·simp only[rr0 e,`bF e,Bool.true_or,Option.isSome_some]
  ·rw[`AX,`b6 e,Bool.false_or];exact Z80 k r
theorem s20(kvs:`gC)(k:κ)(v:V):`ajw<=`i6+1:=by
 unfold putK;split
 ·rw[`F];omega
 ·rw[`Z,`V,`gr];omega
theorem RelO.isSome_eq{o:`dF}{u:`l?}(r:`on o u):`AY=u.isSome:=by
 cases o with
 | none=>cases u with
  | none=>rfl
  | some _=>exact`Jq
 | some _=>cases u with
  | none=>exact`Jq
  | some _=>rfl
theorem KV.val{kvs:`gC}{vs:`tZ}(r:`kD)(k:κ):`on `Lc (`az8):=by
 unfold KV at r
 induction r with
 | nil=>exact `kP
 | @cons p q ps qs h t ih =>
  obtain⟨h1,h2⟩:=h
  by_cases e:`qL
  ·have e':q.1=k:=`RM
   have b:`az9=`a q.2:=`az'
   rw[rr0 e,b];exact h2
  ·have e':¬q.1=k:=`RN
   have b:`az9=`ES qs k:=`az'
   rw[`AX,b];exact ih
theorem KV.any{kvs:`gC}{vs:`tZ}(r:`kD)(k:κ):`Lb=`az!:=by
 unfold KV at r
 induction r with
 | nil=>rfl
 | cons h t ih=>rw[`nO,`nO,ih,h.1]
theorem KV.repl{kvs:`gC}{vs:`tZ}(r:`kD)(k:κ){y:V}(ry:`e9) :
  KV `az? (`ib λkv=>if `ER then (`pb,u) else kv):=by
 unfold KV at r ⊢
 induction r with
 | nil=>exact `O
 | @cons p q ps qs h t ih =>
  rw[`T,`T];refine `aAa;obtain⟨h1,h2⟩:=h
  by_cases e:`qL
  ·rw[`fe,`aAb];exact⟨h1,ry⟩
  ·rw[`ed,`aAc];exact`Z2
theorem KV.put{kvs:`gC}{vs:`tZ}(r:`kD)(k:κ){y:V}(ry:`e9):KV (`mG kvs k y) (stored vs k u):=by
 unfold putK stored;rw[r.any k]
 by_cases e:(`az!)=`b
 ·rw[`fe,`fe];exact `aAd
 ·rw[`ed,`ed];exact `aAe r ⟨rfl,ry⟩
theorem KV.length{kvs:`gC}{vs:`tZ}(r:`kD):`i6=`bS:=`VV r
universe zz
theorem ov0{P:`ao}{w:`P}{k:Key}(r:`aAf):(J0 P w).is k u=`b:=by
 cases k with
 | inl i=>obtain⟨t,e⟩:=`asx;subst e;exact Zi0 P w i t
 | inr x=>obtain⟨t,e⟩:=`asy;subst e;exact Za0 P w x t
theorem e90{P:`ao}{w:`P}:∀{ks:`gN} {us:`ac},`bt (`EW) us->ItemsAre `rk ks us
 | [],_,r=>`ay!
 | `kk,_,r=>by
  rw[`T] at r;cases r with
  | cons h t=>exact `ah (ov0 h) (e90 t)
abbrev KT(H:Hp):`j2->`qg->Prop:=`bB λp q=>`apH
theorem KT.val{kvs:`j2}{xs:`qg}(r:`uL)(k:`gN):`on `Lc (`aAg):=by
 induction r with
 | nil=>exact `kP
 | @cons p q ps qs h t ih =>
  obtain⟨h1,_,h2⟩:=h
  by_cases e:`qL
  ·have e':q.1=k:=`RM
   have b:`aAh=`a q.2:=`aAi
   rw[rr0 e,b];exact h2
  ·have e':¬q.1=k:=`RN
   have b:`aAh=`EV qs k:=`aAi
   rw[`AX,b];exact ih
theorem KT.repl{kvs:`j2}{xs:`qg}(r:`uL)(k:`gN){y:V}(ry:`e9) :
  KT H `az? (`wf (`x2 k u)):=by
 induction r with
 | nil=>exact `O
 | @cons p q ps qs h t ih =>
  rw[`T,`T];refine `aAa;obtain⟨h1,h2,h3⟩:=h;unfold putAt
  by_cases e:`qL
  ·rw[`fe,`aAb];exact⟨h1,h2,ry⟩
  ·rw[`ed,`aAc];exact⟨h1,h2,h3⟩
theorem KT.put{kvs:`j2}{xs:`qg}(r:`uL)(k:`gN){b:`e}{y:V}(hb:`AZ)(ry:`e9) :
  KT H (`mG kvs k y) (storedH xs k b u):=by
 have e:`Lb=`aAj:=by
  rw[Z80,(r.val k).isSome_eq,`Z3]
 unfold putK storedH;rw[e]
 by_cases q:`aAj=`b
 ·rw[`Jv,`Jv];exact `aAd
 ·rw[`z0,`z0];exact `aAe r ⟨rfl,hb,ry⟩
theorem KT.keeps{kvs:`j2}{xs:`qg}(r:`uL)(ht:∀b ys,H b=`Sz->`hJ=`Sz):KT H' kvs xs :=
 `apP r λ_ _ z=>`apQ
section
variable{P:`ao}{w:`P}{h:`Q}
theorem Pd0{u:HO}(ok:`e7)(e:Rd H a u):`apU:=e.ok ok
theorem lt0(ok:`e7)(e:`Z4):`V2 :=
 show `ct P w H h a `DP from Pd0 ok e
theorem c90(ok:`e7)(e:`A_):`V2:=lt0 ok (`qm)
theorem l20(ok:`e7)(e:H a=`a `aAk):`aAl h ks a:=by
 obtain⟨_,its,r,o,h1,h2,n,h3,_⟩:=(show `ct P w H h a `aAk from ok a _ e);exact⟨o,`a6,n,h1,h2,h3,by simpa using e90 r⟩
theorem Ta0{kvs:`j2}(ok:`e7)(e:`Ld):`ri/\`rj /\
  ∃xs,`uL/\Dep.At `V5 h a xs:=by
 obtain⟨z,y,xs,r,o,es,ep,h1,h2,h3,h4,h5,h6⟩:=(show `ct P w H h a `QI from Pd0 ok e);refine⟨z,y,xs,r,o,es,ep,h1,h2,h3,h4,`nS,h5,h6⟩;have all:∀{l:`j2} {m:`qg},KT H l m->∀x∈m,`aAl h x.1 x.2.1:=by
  intro l m q
  induction q with
  | nil=>intro x hx;exact nomatch hx
  | @cons p q ps qs hq t ih =>
   intro x hx;rcases `qt with e|hx
   ·subst e
    exact l20 ok (by rw[← hq.1];exact hq.2.1)
   ·exact ih x hx
 exact all r x hx
theorem jw0{kvs:`j2}(ok:`e7)(e:`Ld):`ri/\`rj /\
  ∃xs,`uL/\h.DictOfH `V5 a xs:=by
 obtain⟨z,y,xs,r,d⟩:=Ta0 ok e;exact⟨z,y,xs,r,d.old⟩
universe zz
noncomputable def DGet(H:Hp)(a:`e)(y:V)(r:`dF):Prop :=
 (∃kvs k,`Z4/\y=kV k/\r=`k2)∨∃kvs k b,`Ld/\`z9/\`AZ/\r=`k2
noncomputable def DPut(H:Hp)(a:`e)(y v:V)(H':Hp):Prop :=
 (∃kvs k,`A_/\y=kV k/\`A0/\H'=`Z5) ∨
 ∃kvs k b,`aAm/\`z9/\`AZ/\`A0/\H'=upd H a (.dT (`RL))
theorem DGet.k{k:Key}(e:`A_):`sd H a (kV k) `Lc:=`o ⟨kvs,k,`qm,rfl,rfl⟩
theorem DGet.t{b:`e}{kvs:`j2}{k:`gN}(e:`aAm)(eb:`AZ):`sd H a `E3 `Lc:=`n ⟨kvs,k,b,`qm,rfl,eb,rfl⟩
theorem DPut.k{k:Key}(e:`A_)(hl:`A0):DPut H a (kV k) v (`Z5):=`o ⟨kvs,k,e,rfl,hl,rfl⟩
section
variable{σ:St}{s:`v}{y:V}{r:`E}{o:`dF}
theorem Inv.big(I:`B):`C_<`M:=by
 have h:`ba<`M:=(`ahg).lt;exact D8 `p h
theorem S20(hu:`Aj)(I:`B)(g:`sd H a y `rr)(ry:`e9)(h:∀w' s',`z_->`di v w'->Q w' s') :
  `r `an A (`ml `dZ u) Q E s:=by
 rcases g with⟨kvs,k,e,ey,l⟩|⟨kvs,k,b,e,ey,eb,l⟩
 ·subst ey
  obtain⟨z,hd,vs,rel,dd⟩:=`A1;obtain⟨w',hw,J⟩:=`Xv (v:=v) (o:=`az8) `aAn;exact wpAny_getItem_of `A2 `Z6 hw (`aAo)
 ·subst ey
  cases `Le;obtain⟨z,hd,xs,rel,dd⟩:=`A3;obtain⟨w',hw,J⟩:=`Xv (v:=v) (o:=`aAg) `aAn;obtain⟨p,hp,M⟩:=m4.mp hw;refine wpAny_getItem_heap `Lf `Lg dd hp ?_;rw[M];exact `aAo
theorem Ij0(hu:`Aj)(I:`B)(g:`Z7)(ry:`e9)(h:∀s',`z_->Q (`f9 `AY) s') :
  `r `an A (`d0 .In u `dZ) Q E s:=by
 rcases g with⟨kvs,k,e,ey,l⟩|⟨kvs,k,b,e,ey,eb,l⟩
 ·subst ey
  obtain⟨z,hd,vs,rel,dd⟩:=`A1;refine wpAny_in_of `A2 hd `Z6 ?_;rw[← `Lh,← l];exact `Li
 ·subst ey
  cases `Le;obtain⟨z,hd,xs,rel,dd⟩:=`A3;refine wpAny_in_heap `Lf `Lg hd dd ?_;have q:=`Lh;rw[`Z3] at q;rw[← q,← l];exact `Li
theorem Ol0(hu:`Aj)(I:`B)(g:`Z7)(ry:`e9)(h:∀s',`z_->Q (`f9 (!`AY)) s') :
  `r `an A (`d0 `t! u `dZ) Q E s:=by
 rcases g with⟨kvs,k,e,ey,l⟩|⟨kvs,k,b,e,ey,eb,l⟩
 ·subst ey
  obtain⟨z,hd,vs,rel,dd⟩:=`A1;refine wpAny_notIn_of `A2 hd `Z6 ?_;rw[← `Lh,← l];exact `Li
 ·subst ey
  cases `Le;obtain⟨z,hd,xs,rel,dd⟩:=`A3;refine wpAny_notIn_heap `Lf `Lg hd dd ?_;have q:=`Lh;rw[`Z3] at q;rw[← q,← l];exact `Li
theorem lr0{t':Nat}{ob:HO}(I:`B)(mu:Mut (H a))(hs:`aqn)(he:`Z8)(new:`ct `aZ X.w (upd H a ob) h' a ob) :
  Inv X `i σ (upd H a ob) `ou :=
 `Ju (x:=a) (e:=a) mu `fm (λb q hb z=>(`kG b hb).trans z) he new
theorem bf0{P:`ao}{w:`P}{H':Hp}{vs:`Z9}(z:`ri)(hd:`rj)(rel:`kD)(dd:h'.DictOf `rk a vs) :
  `ct P w H' h' a `DP:=⟨z,hd,vs,rel,dd⟩
theorem Uw0{Q:`qh}(hu:`Aj)(I:`B)(g:DPut H a y v H')(ry:`e9)(rv:`di v r)(h:∀s',`lH->`I1) :
  `r `an A (`Dh `dZ u r) Q E s:=by
 rcases g with⟨kvs,k,e,ey,l,eH⟩|⟨kvs,k,b,e,ey,eb,l,eH⟩
 ·subst ey eH
  obtain⟨z,hd,vs,rel,dd⟩:=`aAp;have hz:`aAq:=`aAr
  have hl:`Z':=`Z!
  refine wpAny_setItem_pairs (hsz:=hz) `A2 dd `aAs
  have he:`Z8:=`Z?
  exact `aAt
 ·subst ey eH
  cases `Le;obtain⟨z,hd,xs,rel,dd⟩:=Ta0 `bY (`qm);have hz:`hp:=by rw[← `VV rel];exact z
  have hl:`Z':=`Z!
  refine Dep.set `Lf `Lg dd (`aAs) hz;obtain⟨q,es,ep,hq,h2,h3,h4,_,h5⟩:=J;refine lr0 I `EY hs ⟨q,hq⟩ ⟨hl,hd,_,(rel.put k eb rv).keeps λc ys ec=>?_,q,es,ep,hq,h2,h3,h4,h5⟩;rw[d9 (Kw0 ec e `dI)];exact ec
universe zz
noncomputable def Xr0(i:`H):Prop:=∀ov iv,`xV i `q ov iv=`QB [ov,iv] (`ml ov iv)
theorem Oc0{prog:`ao}{w:`P}{A:`cl}{E:`aq}{s:`v}{env:Env}{value slice:`H}{pos:Pos}{T id:`cH}{Q:`aq}
  (hl:`at0) (hs:Xr0 `nM)
  (h:`r `av A (`bb `eR env) (λo s₁=>`r `av A (`bb `nM env) (λi s₂=>s₂.TypeIs o T/\`r `av A (`ml o i) Q E s₂) E `eq) E s) :
  `r `av A (`bb (`kJ `eR `nM pos) env) Q E s:=by
 refine `JR (D4 h (λo s₁ h₁=>D4 h₁ (λi s₂ h₂=>?_) `I3) `I3);obtain⟨hT,h₂⟩:=h₂;unfold subscriptTail;refine `lL;rw[getitemInPython_of_ne hT.not_modules];refine A0 (D6 hT hl ?_);have fin:`r `av A (`xV `nM `q o i) (λr s₃=>`r `av A (letTemporaryGo `eR o r>>=λ_=>`bO r) Q E s₃) E s₂:=by
  rw[hs o i];exact wpAny_operating (D4 h₂ (λr s₃ h₃=>A0 (wpAny_letTemporaryGo (A1 h₃))) `I3)
 first
  | exact `aAu
  | exact A0 (`aAu)
  | exact A0 fin
theorem Zr0{σ:St}{s:`v}{y:V}{o:`dF}(I:`B)(g:`Z7):`aAv := by
 rcases g with⟨kvs,k,e,_,_⟩|⟨kvs,k,b,e,_,_,_⟩
 ·obtain⟨_,_,vs,_,dd⟩:=`A1
  exact `E_
 ·obtain⟨_,_,xs,_,dd⟩:=`A3
  exact `E_
noncomputable def Jw0(td ty:TE):TE:=fun σ H Q=>td σ H λx H1=>ty σ H1 λy H2=>∃a v,`cY/\`sd H2 a y `rr/\Q v H2
noncomputable def Ik0(ty td:TE):TE:=fun σ H Q=>ty σ H λy H1=>td σ H1 λx H2=>∃a o,`cY/\`aAw/\Q (.bl `AY) H2
noncomputable def N80(ty td:TE):TE:=fun σ H Q=>ty σ H λy H1=>td σ H1 λx H2=>∃a o,`cY/\`aAw/\Q (.bl (!`AY)) H2
section
variable{i:`H}
theorem Y80(hu:`kl)(ho:`Lj)(hi:`_a)(hs:Xr0 i):PE X `WS (Jw0 td ty):=by
 intro pins s σ H Q I h;refine Oc0 PySem.F.slot_dict_getitem.lookup hs (thn `zO λu s1 hq93=>?_);obtain⟨x,H1,I1,rx,q1⟩:=hq93;refine thn `aq' λiv s2 hq94=>?_;obtain⟨y,H2,I2,ry,a,v,ex,g,q2⟩:=hq94;subst ex;obtain rfl:u=`hG:=rx;exact⟨Zr0 I2 g,S20 hu I2 g ry λw' s3 I3 J=>⟨v,H2,I3,J,q2⟩⟩
theorem Ll0(hu:`kl)(hi:`_a)(ho:`Lj):PC X .In i o (Ik0 ty td):=by
 intro pins s σ H Q I h;refine thn `zS λiv s1 hq95=>?_;obtain⟨y,H1,I1,ry,q1⟩:=hq95;refine thn `aAx λu s2 hq96=>?_;obtain⟨x,H2,I2,rx,a,ov,ex,g,q2⟩:=hq96
 subst ex;obtain rfl:u=`hG:=rx;exact Ij0 hu I2 g ry λs3 I3=>⟨.bl ov.isSome,H2,I3,rfl,q2⟩
theorem Tz0(hu:`kl)(hi:`_a)(ho:`Lj):PC X `t! i o (N80 ty td):=by
 intro pins s σ H Q I h;refine thn `zS λiv s1 hq97=>?_;obtain⟨y,H1,I1,ry,q1⟩:=hq97;refine thn `aAx λu s2 hq98=>?_;obtain⟨x,H2,I2,rx,a,ov,ex,g,q2⟩:=hq98
 subst ex;obtain rfl:u=`hG:=rx;exact Ol0 hu I2 g ry λs3 I3=>⟨.bl (!ov.isSome),H2,I3,rfl,q2⟩
universe zz
theorem bz0{P:`ao}{w:`P}(h:`Q)(hb:`C_<`f6):`ct P w H (h.push `aAy) `f6 (`uM) :=
 ⟨`cQ,`mQ (B4 (B0 hb)),[],`O,Heap.DictOf.new h⟩
noncomputable def Md0:TE:=λ_ H Q=>∀p,`dH->Q `c7 (upd H p (`uM))
theorem Sb0:PE X `aAz Md0:=λpins s σ H Q I h =>
 wpAny_Dict_empty ⟨`fp,_,`j' (a:=`M) (o:=`uM) (t':=`a8) `Yi `bj (bz0 `aE I.big),rfl,h _ `DI⟩
noncomputable def gc0:`A4->St->Hp->(`aAA)->Prop
 | [],_,H,Q=>Q [] H
 | (tk,tv)::r,σ,H,Q=>tk σ H λx H1=>tv σ H1 λy H2=>gc0 r σ H2 λps H3=>Q ((x,y)::ps) H3
abbrev VV:`k3->`aAB->Prop:=`bB λp q=>`di p.1 q.1/\`apC
noncomputable def PPs(X:Cx)(pos:Pos)(keys:`A5)(values:`bI)(trs:`A4):Prop :=
 ∀(pins:`aD) (s:`v) (σ:St) (H:Hp) (Q:`aAA),`B->`aAC ->
  `r `an X.A (evalPairs (pairTrees `lc values `x pos)) (λvs s'=>∃ps H',`lH/\VV ps vs/\Q ps H') `aG s
theorem Ps0:PPs X pos [] [] []:=λpins s σ H Q I h=>pairTrees_nil_walk `asQ
theorem Ri0{k v:`H}{ks:`A5}{vs:`bI}{tk:TE}{trs:`A4}(hk:PE X k tk)(hv:PE X v tv)(hr:PPs X pos ks vs trs) :
  PPs X pos (`fz::ks) (`A6) ((tk,tv)::trs):=λpins s σ H Q I h =>
 pairTrees_cons_walk (thn (hk `i s σ H _ I h) λu s1 ⟨x,H1,I1,rx,q1⟩=>thn (hv `i s1 σ H1 _ I1 q1) λw2 s2 ⟨y,H2,I2,ry,q2⟩ =>
  thn (hr `i s2 σ H2 _ I2 q2) λws s3 ⟨ps,H3,I3,rel,q3⟩=>⟨(x,y)::ps,H3,I3,`ah ⟨rx,ry⟩ rel,q3⟩)
noncomputable def s80(kvs more:`go):`go:=more.foldl (λacc kv=>`mG acc `pb kv.2) kvs
theorem KV.merge:∀{more:`go} {rs:`Z9} {kvs:`go} {vs:`Z9},KV more rs->`kD->KV (`aAD) (merged vs rs):=by
 intro more rs kvs vs r;unfold KV at r
 induction r generalizing kvs vs with
 | nil=>intro q;exact q
 | @cons p q ps qs h t ih =>
  intro r0;have e:KV `_b (stored vs q.1 q.2):=by
   have:=r0.put p.1 h.2;rw[← h.1];exact `A
  exact ih e
theorem nu0:∀(more kvs:`go),(`aAD).length<=`i6+more.length
 | [],kvs=>by show `i6<=`i6+0;omega
 | p::r,kvs=>by
  have h1:=nu0 r `_b;have h2:=s20 kvs p.1 p.2;show (s80 `_b r).length<=_;rw[`V];omega
theorem i90{P:`ao}{w:`P}:∀{kvs:`go} {ws:`aAB},VV (`ET `_c) ws->∃rs,Carries `rk ws rs/\KV kvs rs
 | [],_,r=>by rw[`jr] at r;cases r;exact⟨[],`kP,`O⟩
 | p::kvs,_,r=>by
  rw[`T] at r;cases r with
  | @cons a b as bs h t =>
   obtain⟨rs,c,q⟩:=i90 (P:=P) (w:=w) t;obtain⟨b1,b2⟩:=b;exact⟨(p.1,b2)::rs,⟨ov0 h.1,rfl,c⟩,`ah ⟨rfl,h.2⟩ q⟩
noncomputable def Ks0(trs:`A4):TE:=fun σ H Q=>∀p,`dH->gc0 trs σ (upd H p (`uM)) λps H2=>H2 p=`a (`uM)/\∃kvs:`go,ps=`ET (`_c)/\`i6<=15/\Q `c7 (upd H2 p (.dK (`aAE)))
theorem Oy0{keys:`A5}{values:`bI}{trs:`A4}(h:PPs X pos `lc values trs)(hall:`aAF)(hl:`Lk=values.length)(h0:`lc≠[])
  (h15:`Lk<=15):PE X (.Dict `lc values pos) (Ks0 trs):=by
 intro pins s σ H Q I q;have hn:=`rK (A2 `M);have I1:=`j' (a:=`M) (o:=`uM) (h':=`fq `aAy) (t':=`a8) `Yi `bj (bz0 `aE I.big);refine wpAny_Dict_walk (knd:=`aAG) hall hl h0 h15 (thn (h `i _ σ _ _ I1 (q _ hn)) λws s2 hq99=>?_);obtain⟨ps,H2,I2,rel,e,kvs,ep,lk,q2⟩:=hq99;subst ep;obtain⟨rs,c,rk⟩:=i90 (P:=`aZ) (w:=X.w) rel;obtain⟨z,hd,M,r0,dd⟩:=c90 I2.hok e;cases r0;refine⟨rs,c,dd,λh' J hs=>⟨`fp,_,?_,rfl,q2⟩⟩;have hz:(`aAE).length<=`L:=by
  have h1:=nu0 kvs [];rw[`gr] at h1;rw[`Xm];omega
 have he:∃q,`X?=`se:=`Z?
 exact lr0 I2 `EY hs he (bf0 hz hd (rk.merge `O) J)
structure M2(X:Cx)(o:`H)(m:Str)(apos:Pos)(e f:`H)(cpos:Pos):Prop where
 base:`eQ o m `x `mq=`hP
 few:(`aAH
 &&`aAI)=`b
 line:`eF
 trees:`aAJ
noncomputable def IsD(H:Hp)(a:`e):Prop:=(∃kvs,`Z4)∨∃kvs,`Ld
theorem Lh0{σ:St}{s:`v}(I:`B)(d:IsD H a) :
  `aAv/\(∀b,`hG=`rP->∃ob,`C5=`II/\`auO)/\`rj:=by
 rcases d with⟨kvs,e⟩|⟨kvs,e⟩
 ·obtain⟨_,hd,vs,_,dd⟩:=`A1
  refine`aAK;cases q;obtain⟨ob,_,_,h1,h2,_⟩:=dd;exact`aAL
 ·obtain⟨_,hd,xs,_,dd⟩:=`A3
  refine`aAK;cases q;obtain⟨ob,_,_,h1,h2,_⟩:=dd;exact`aAL
universe L2
namespace DL
open Spec PyProof.Rows L2
section
variable{σ σ':St}{δ:Ds}
theorem Gr.fresh{p:`e}{o:HO}(h:`dH):Gr H `Y9 B `sb:=λb u n e=>by
 have hb:`E4:=U6 e h;exact⟨λz=>`si n hb,by rw[d9 hb];exact e⟩
theorem Gr.own{o:HO}(h:B a):Gr H `js B B:=λb u n e=>⟨n,by rw[d9 (λz=>n (by rw[z];exact h))];exact e⟩
theorem RpO.mono{d:D}(s:`Au)(g:`ec)(h:`iU):RpO K H' B' d a:=by
 cases d<;>try exact `lK
 ·obtain⟨xs,e,r⟩:=h;exact⟨xs,s _ e,`sa⟩
 ·obtain⟨xs,e,l,r⟩:=h;exact⟨xs,s _ e,l,`sa⟩
theorem RpG.mono{d:D}(s:`Au)(g:`ec)(h:`lS):RpG K H' B' d a:=by
 cases d with
 | tup es=>obtain⟨x,ns,e,r⟩:=h;exact`aAM
 | _=>exact(RpO.mono s g `KJ).toG
theorem RpL.mono{d:D}(s:`Au)(g:`ec)(h:`k_):RpL K H' B' d a:=by
 cases d with
 | tup es =>
  rcases h with⟨d',q,r⟩|⟨ks,vs,q,ts,xs,q1,e,q2,r⟩|⟨x,ns,e,r⟩
  ·exact `o ⟨d',q,`_d s g r⟩
  ·exact `n (`o ⟨ks,vs,q,ts,xs,q1,s _ e,q2,`sa⟩)
  ·exact `n (`n `aAM)
 | _=>exact(RpO.mono s g `AB).toL
theorem Pd.get'{F:`j3}:∀{l:`aH} {m:`kZ} {i:Nat} {a:α},`o1->`AC->∃b,`Y7/\`wg
 | _,_,_,_,`O,e=>`Iz
 | _,_,0,_,`VW,e=>`VX
 | _,_,i+1,a,`qe,e=>by
  obtain⟨u,h1,h2⟩:=`mS (i:=i) (a:=a) t `zs;exact`VY
theorem Pd.impI{F G:`j3}:∀{l:`aH} {m:`kZ},(∀(i:Nat) a b,`AC->`Y7->`ag_)->`aiU:=by
 intro l m h p
 induction p with
 | nil=>exact `O
 | cons r t ih=>exact `ah (h 0 _ _ rfl rfl r) (ih λi a b e1 e2=>h `dG a b (`aw0) (by simpa using e2))
theorem qj0:∀{l:`aH} {i:Nat} {a:α},`AC->`Y8=l
 | [],_,_,h=>`hv
 | x::l,0,a,h=>by simp at h;subst h;rfl
 | x::l,i+1,a,h=>by rw[`_e,qj0 `hk]
theorem Pd.setR{F:`j3}{a:α}{b:β}(r:`wg){l:`aH}{m:`kZ}(e:`AC)(h:`o1):`bB F l `axi:=by
 have:=`qC r i h
 rwa [qj0 e] at this
theorem get_set{l:`aH}{a b:α}(h:(`Y8)[j]?=`k0):(i=j/\a=b/\j<`dL)∨(`FX/\l[j]?=`k0):=by
 by_cases e:i=j
 ·subst e
  by_cases hl:i<`dL
  ·rw[`AD] at h
   exact `o ⟨rfl,`pg,hl⟩
  ·rw[`KL] at h;cases h
 ·rw[`kH e] at h
  exact `n ⟨e,h⟩
theorem Env.len(e:`bh):`ry=`mU:=`po `hY
theorem Env.at(e:`bh){d:D}(h:`ajD):∃a,`jn/\`axh:=by
 obtain⟨o,h1,a,rfl,hb,r⟩:=`axn;exact⟨a,h1,hb,r⟩
theorem Env.mut(e:`bh){d:D}{o:HO}(hi:`A7)(hs:`jn)(r:RpL K `js B d a):`aAN:=by
 obtain⟨a',h1,hb,_⟩:=`Ll;rw[hs] at h1;cases h1;refine`aAO
 ·
  have h0:`bB (λ(o':`dF) (s:Sl)=>SlR K `js B o' s∨`_f) σ δ:=`sj (λo' s h=>by
   cases s with
   | un=>exact `_g
   | ex c n=>obtain⟨v,e,r⟩:=h;exact `aAP
   | sh d=>obtain⟨v,e,r⟩:=h;exact `aAP
   | ow d =>
    obtain⟨b,e,J,r⟩:=h
    by_cases z:b=a
    ·subst z;exact `_h
    ·exact `o ⟨b,e,J,`cR (λo h=>by rw[d9 z];exact h) `jt⟩) `hY
  have h1:=`aAQ;refine `aAR;rcases h with h|⟨d',rfl,rfl⟩
  ·exact h
  ·rcases `Lm with⟨rfl,e3,_⟩|⟨M,e3⟩
   ·cases e3;exact`E1
   ·exact `aAS
 ·by_cases z':b=a
  ·subst z';exact `qB
  ·rw[d9 z'];exact `_i
 ·have q1:`aAT:=by
   rcases `gJ with⟨rfl,_,_⟩|⟨_,h⟩
   ·exact`Ln
   ·exact`Lo
  have q2:`aAU:=by
   rcases `km with⟨rfl,_,_⟩|⟨_,h⟩
   ·exact`Ln
   ·exact`Lo
  obtain⟨d1,q1⟩:=q1;obtain⟨d2,q2⟩:=q2;exact `aAV
theorem EnvS.mut(en:`cz)(s:`a')(b1:`iV)(b2:`iW){d:D}{o:HO}(hi:`A7)(hs:`jn)
  (env:Env K (upd H' a o) B σ `pd):`cS K `Y `S (upd H' a o) σ `pd:=by
 have h0:=`aAW;have J:i<`mU:=`I2;refine`aAX
 ·have:`k4:=λz=>by rw[z,h0] at h;cases h
  rw[`_j];exact s _ _ `aAY
 ·by_cases z:b=a
  ·obtain⟨a',e1,_,ro⟩:=`aAZ
   rw[hs] at e1;cases e1;rw[z] at h;exact `aA_
  ·rw[d9 z] at h
   exact `Ey b ob xs (s.nf b ob xs h)
 ·rcases `gJ with⟨rfl,_,_⟩|⟨_,h⟩
  ·rw[hs] at h2;cases h2;exact h0
  ·exact `aA0
theorem EnvS.take(en:`cz)(b1:`iV)(b2:`iW)(e:`bh)(i:Nat){d:D}{p:`e}(hp:`dH)(s:`a')
  (r:`aja):`aA1:=by
 have g:`aA2:=`aA3
 have J:`Zj:=`_k;have live:`aA4:=λ{j d' b} h1 h2=>by
  obtain⟨a,q1,q2,q3⟩:=e.at h1;rw[h2] at q1;cases q1;exact `aA5
 refine`aA6
 ·rcases z with z|rfl
  ·exact b2 a z
  ·exact `n J
 ·refine `qC ⟨p,rfl,`b',r.toL⟩ i `aA7
  cases sl with
  | un=>trivial
  | ex c n=>obtain⟨v,e,r⟩:=h;exact`AO
  | sh d=>obtain⟨v,e,r⟩:=h;exact`AO
  | ow d=>obtain⟨b,e,M,r⟩:=h;exact`aA8
 ·rcases z with z|rfl
  ·exact`aA9
  ·exact `qB
 ·rcases `gJ with⟨rfl,_,_⟩|⟨n1,h1⟩
  ·rcases `km with⟨rfl,_,_⟩|⟨n2,h2⟩
   ·rfl
   ·rcases `g3 h3 with⟨_,e3,_⟩|⟨n3,_⟩
    ·cases e3
     rw[`A8] at h4;exact `aA'
    ·exact `Lp
  ·rcases `km with⟨rfl,_,_⟩|⟨n2,h2⟩
   ·rcases `g3 h4 with⟨_,e4,_⟩|⟨n4,_⟩
    ·cases e4
     rw[`n_] at h3;exact `aA!
    ·exact `aA?
   ·rw[`n_] at h3
    rw[`A8] at h4;exact `KM
 ·rcases `gJ with⟨rfl,_,_⟩|⟨n1,h1⟩
  ·rcases `km with⟨_,e3,_⟩|⟨n3,_⟩
   ·cases e3;exact J
   ·exact `Lp
  ·rw[`n_] at h2
   exact `_l
theorem c60{d e:D}(h:`_m=.ow e):`bR:=by
 unfold DL.fz at h;split at h<;>cases h
theorem fa0{s:Sl}{e:D}(h:wv0 s=.ow e):`bR:=by
 cases s with
 | ow d=>exact c60 h
 | un=>cases h
 | sh d=>cases h
 | ex c n=>cases h
theorem RpL.fz{d:D}(l:`uy)(n:¬`o0)(h:`k_):SlR K H B' (`o4) (`_m):=by
 cases d with
 | tup es =>
  rcases h with⟨d',rfl,r⟩|⟨ks,vs,rfl,_⟩|⟨x,ns,rfl,_⟩
  ·cases d' with
   | tup es=>trivial
   | _=>exact⟨_,rfl,RpO.rp l n (RpG.toO rfl r)⟩
  ·trivial
  ·trivial
 | _=>exact⟨_,rfl,RpO.rp l n `AB⟩
theorem Env.frz(e:`bh):∃B':BS,(`uy)/\(∀a,B a->`o0∨`RU)/\Env K H B' σ `aBa:=by
 refine⟨`aBb,`E5,`hZ,?_,λa z=>`ju a z.1,`aBc⟩
 ·by_cases q:`RU
  ·exact `n q
  ·exact `_n
 ·have:`bB (λo s=>SlR K H (`aBb) o `ZR) σ δ:=`E2 (λi o s e1 e2 h=>by
   cases s with
   | un=>trivial
   | ex c n=>obtain⟨v,e,r⟩:=h;exact`RV
   | sh d=>obtain⟨v,e,r⟩:=h;exact`RV
   | ow d =>
    obtain⟨a,rfl,hb,r⟩:=h;exact r.fz (`E5) λz=>z.2 ⟨i,d,e2,e1⟩) `hY
  have mp:∀{l:St} {m:Ds} {F:`dF->Sl->Prop},`bB (λo s=>F o `ZR) l m->`bB F l (m.map wv0):=by
   intro l m F h
   induction h with
   | nil=>exact `O
   | cons r t ih=>exact `zt
  exact mp `A
 ·unfold DL.frz at h1
  rw[`ca] at h1;cases q:`cj with
  | none=>rw[q] at h1;cases h1
  | some s=>rw[q] at h1;exact`aBd
theorem EnvS.frz(en:`cz):`cS K `Y `S H σ `aBa:=by
 obtain⟨B,b1,b2,env⟩:=`aK;obtain⟨B',c1,c2,J⟩:=env.frz;refine⟨`gj,`aBe,λi ds a h1 _=>?_,`jo⟩
 ·rcases `aBf with q|⟨i,d,q1,q2⟩
  ·exact q
  ·exact `aBg
 ·unfold DL.frz at h1
  rw[`ca] at h1;cases q:`cj with
  | none=>rw[q] at h1;cases h1
  | some s=>rw[q] at h1;exact`aBd
theorem Env.frzAt(e:`bh)(i:Nat):∃B':BS,(`uy)/\(∀a,B a->`o0∨∃(d:D),`ajE)/\Env K H B' σ (DL.frzAt i δ):=by
 unfold DL.frzAt;cases h:`cj with
 | none=>exact`Lq
 | some s =>
  cases s with
  | un=>dsimp only [wv0];rw[qj0 h];exact`Lq
  | ex c n=>dsimp only [wv0];rw[qj0 h];exact`Lq
  | sh d=>dsimp only [wv0];rw[qj0 h];exact`Lq
  | ow d =>
   obtain⟨a,h1,hb,r⟩:=e.at h;refine⟨`aBh,`aBi,`E0,?_,λb z=>`ju b z.1,λj k b ds es J U h3 h4=>?_⟩
   ·by_cases q:b=a
    ·subst q;exact `n ⟨d,rfl,h1⟩
    ·exact `_n
   ·have h0:`bB (λ(o':`dF) (s:Sl)=>SlR K H (`aBh) o' s∨`_f) σ δ:=`sj (λo' s h=>by
     cases s with
     | un=>exact `_g
     | ex c n=>obtain⟨v,e,r⟩:=h;exact `aBj
     | sh d=>obtain⟨v,e,r⟩:=h;exact `aBj
     | ow d =>
      obtain⟨b,e,M,r⟩:=h
      by_cases z:b=a
      ·subst z;exact `_h
      ·exact `o ⟨b,e,⟨M,z⟩,`cR `_o (`h3 `E5)⟩) `hY
    have h2:=`RP (i:=i) (b:=`_m) (`o (r.fz (`aBi) λz=>z.2 rfl)) h1 h0;refine `E2 (λj o' s e1 e2 hh=>?_) h2;rcases hh with hh|⟨d',rfl,rfl⟩
    ·exact hh
    ·rcases `Lm with⟨rfl,e3,_⟩|⟨O,e3⟩
     ·exact(c60 e3).elim
     ·exact `I (`o5 i j a d d' h e3 h1 e1) O
   ·rcases `g3 J with⟨_,q,_⟩|⟨_,q1⟩
    ·exact`aBk
    ·rcases `g3 U with⟨_,q,_⟩|⟨_,q2⟩
     ·exact`aBk
     ·exact `o5 j k b ds es q1 q2 h3 h4
theorem EnvS.frzAt(en:`cz)(i:Nat):`cS K `Y `S H σ (DL.frzAt i δ):=by
 obtain⟨B,b1,b2,env⟩:=`aK;obtain⟨B',c1,c2,J⟩:=env.frzAt i;refine⟨`gj,`aBe,`RT,`jo⟩
 ·rcases `aBf with q|⟨d,q1,q2⟩
  ·exact q
  ·exact `aBg
 ·unfold DL.frzAt at h1
  cases q:`cj with
  | none=>rw[q] at h1;exact `_l
  | some s =>
   rw[q] at h1;rcases `gJ with⟨rfl,q',_⟩|⟨_,q1⟩
   ·exact(fa0 q').elim
   ·exact `o8 j ds a q1 h2
theorem rn0{d:D}(h:`nY)(r:`ci):`Q7:=by
 cases d<;>simp[`cm] at h
 ·rw[V6] at r ⊢;exact r
 ·rw[X7] at r ⊢;exact r
 ·rw[j5] at r ⊢;exact r
 ·rw[Y9] at r ⊢;exact r
universe zz
section
variable{st:`bw}{g:GE}{gt:GB}
theorem mx0(h:`cc):PD X e (vg0 g):=.mk λB δ pins s σ H Q I hq100=>by
 obtain⟨d,en,hq,k⟩:=hq100
 obtain⟨B',c1,c2,J⟩:=`xu;unfold vg0 at hq;cases e1:`o? with
 | none=>rw[e1] at hq;cases hq
 | some x =>
  rw[e1] at hq
  by_cases hf:`ajr
  ·simp only[`f,`uN] at hq
   cases hq;exact h B' `o! `i s σ H Q I ⟨_,J,e1,λv H' s' r=>k v H' s' (rn0 hf r)⟩
  ·simp only[`f,`Lr] at hq
   cases hq
theorem ly0(h:`axB):PTD X e (pa0 gt):=.mk λB δ pins s σ H Q I hq101=>by
 obtain⟨d,en,hq,k⟩:=hq101
 obtain⟨B',c1,c2,J⟩:=`xu;exact h B' `o! `i s σ H Q I ⟨d,J,hq,k⟩
theorem Q50(i:Nat)(h:`Zk):PSD X st (Qg0 i G):=.mk λH₀ B₀ δ pins s σ H D I ⟨r,en,hq,k⟩=>h `Y `S _ `i s σ H D I ⟨r,en.frzAt i,hq,k⟩
theorem ox0(h:`cc):PSD X `ql (Y6 (ob0 g)):=.mk λH₀ B₀ δ pins s σ H D I ⟨r,en,hq,k⟩ =>
 Z0 h `Y `S `o! `i s σ H D I `aBl
theorem J1{gA:GA}(h:`uB):PDF X `XB `Zd :=
 .mk λB δ=>`axF fun σ H Q hq102=>by
  obtain⟨d,en,h,k⟩:=hq102
  unfold Y7 at h;cases e1:`b! with
  | none=>rw[e1] at h;cases h
  | some ds =>
   rw[e1] at h
   by_cases hl:`qw
   ·simp only[`f,`ki] at h
    cases h;refine⟨ds,en,e1,λvs H1 s1 r1=>⟨`ai5,λp hp=>k _ _ (`k6 hp) (`jl `es) ⟨vs,j9,r1.mono `Fv⟩⟩⟩
   ·simp only[`f,`Zc] at h
    cases h
theorem fw0:PDF X `aAz `Tt:=.mk λB δ=>Sb0.imp fun σ H Q hq103=>by
 obtain⟨d,en,h,k⟩:=hq103
 cases h;exact λp hp=>k p _ hp `es ⟨[],j9,rfl,`f_⟩
theorem N7(i:Nat){px:Pos}(h:`uD)(hN:`e8)(hi:`b4:=by rfl)(hx:`qi:=by first|exact `a!|exact `gi)
  (hs:`aho `Ls e `i! `x=`gT:=by rfl) (hw:`ahp `Ls e `x=`wp:=by rfl)
  (h1:(`mh `Ls `x).map `eO=[`hQ `d6 `x]:=by rfl)
  (hf:`qj:=by first|exact `bQ|exact `b'|assumption):PSD X (`ja `Ls e pos) (Q3 i g):=.mk λH₀ B₀ δ pins s σ H D I hq104=>by
 obtain⟨r,en,e1,k⟩:=hq104
 unfold Q3 at e1;obtain⟨B,b1,b2,env⟩:=`aK;cases e2:`ar with
 | none=>rw[e2] at e1;cases e1
 | some d =>
  rw[e2] at e1;cases e1;exact b90 `ck (`Zl) hs hw h1 `i s σ H D I ⟨d,env,e2,λp H' hp s' r=>k _ H' (en.take b1 b2 env i hp s' r)⟩
universe zz
universe DL
namespace L2
open Spec PyProof.Rows
open PySem.AutoSeq1 (wpAny_loadPart')
theorem Xw0(p:`e)(xs:`aI)(k:Nat)(q:`e)(ys:`aI)(m:Nat)(dq:`dP)(sq:`iN)(h0:¬(!xs.isEmpty&&`J9 (`st+`xC))=`b)(h1:`st<=`L)(h2:`st+`xC<=`L+1) :
  `A9 (Builtin.«list.extend» ⟨[`fu,`z q],[]⟩) (λ_ R s=>`c3 p=`a { cls:=`dk,dict:=`c,data:=`bP xs k,slots:=#[] }/\`c3 q=`a { cls:=`dk,dict:=dq,data:=`bP ys m,slots:=sq }/\R (.ok (`fj `mO)) { s with heap:=`mV p (`jx λz=>z++ys) }) :=
 `A' λprog w A R s h=>by
  obtain⟨hp,g,d,tk,os⟩:=s;obtain⟨hl,hb,h⟩:=h;have f1:=`aBm;have f2:=AutoSeq1.sub_tuple_tuple;have f3:=AutoSeq1.sub_list_list;have f4:=AutoSeq1.sub_tuple_list;have f5:=AutoSeq1.sub_list_tuple;have J:(xs++ys).size<=`L+1:=by rw[`_p];exact h2
  wp_walk using (L7 hl rfl (hz:=h1) (_hz':=J)),`uO,P7 hb
  exact`qM
noncomputable def Qb0(K:`y):`gG:=λx vs H Q=>∃l b xs zs,`Ae/\vs=[`rP]/\`ur/\`azh/\`azi/\Q `u (upd H l `K2)
theorem i70:MtM X "list.extend" (Qb0 X.K):=by
 intro pins s σ H x vs v us Q I rx rv h;obtain⟨l,b,xs,zs,rfl,rfl,hH,hB,hz,q⟩:=h;cases rx;obtain⟨u,rfl,ru⟩:=`J';cases ru;obtain⟨z,its,n,r,hl,e⟩:=`J!;obtain⟨J,r2,p2,z2⟩:=`ek hB;obtain⟨⟨a3,Y,data2,a1⟩,Z,O,n2,U⟩:=`K3;simp only at O U;subst O U;have hl2:=`mJ;have a2:`azj:=`_q
 have M:¬(!`Lt&&`J9 (`ajn))=`b:=by
  rw[Qh0 a2,`_r];exact B2
 refine E5 F.slot_list_extend `J? F.entry_list_extend (F.args_list_extend_2 _ _)
  (Xw0 l `a6 n b `ZF n2 Y a1 M `pk `h) ⟨e,Z,?_⟩
 refine⟨`u,_,`Ka (its':=its++J) hH e `aw (`z4 r2) ?_,rfl,q⟩;rw[`Z];omega
noncomputable def M30:`WO:=λo i v H Q=>∃a H',o=`b8/\DPut H a i v H'/\Q H'
theorem set_dict(hu:`kl):Rw0 X M30:=by
 intro pins s σ H o i v ov iv u Q I ro ri rv h;obtain⟨a,H',rfl,g,q⟩:=h;cases ro;exact Uw0 hu I g ri rv λs3 I3=>⟨H',I3,q⟩
universe L2
namespace DL
open Spec PyProof.Rows L2
section
variable{σ σ':St}{δ:Ds}
theorem Rps.set:∀{ds:`j} {xs:`K} {d:D} {v:V} (j:Nat),`a1->`ci->Rps K H B (ds.set j d) `aij
 | [],_,_,_,_,h,_=>`KE
 | `as,_,_,_,0,h,r=>by
  rw[o6] at h;obtain⟨y,t,rfl,h1,h2⟩:=h;rw[`aBn,`aBn,o6];exact⟨_,_,rfl,r,h2⟩
 | `as,_,_,_,j+1,h,r=>by
  rw[o6] at h;obtain⟨y,t,rfl,h1,h2⟩:=h;rw[`_e,`_e,o6];exact⟨_,_,rfl,h1,Rps.set j h2 r⟩
theorem Rps.dropLast(h:`a1):Rps K H B `ajq `QJ:=by
 rw[`aBo,`aBo,h.length];exact h.take _
structure EnvV(K:`y)(H₀:Hp)(B₀:BS)(H:Hp)(σ:St)(δ:Ds)(d:D)(v:V):Prop where
 same:`KS
 ex:∃B:BS,(`iV)/\(`iW)/\`bh/\`ci
 fr:`axJ
 b0:`Zi
theorem EnvV.s{d:D}(h:`A!):`cz:=⟨`KK,let ⟨B,b1,b2,e,_⟩:=h.ex;⟨B,b1,b2,e⟩,h.fr,h.b0⟩
theorem EnvV.mk'{d:D}(h:`cz)(b1:`iV)(b2:`iW)(e:`bh)(r:`ci):`A!:=⟨`KK,⟨B,b1,b2,e,r⟩,h.fr,h.b0⟩
universe zz
noncomputable def tX(K:`y)(H₀:Hp)(B₀:BS)(δ:Ds)(gx:GX):TE:=fun σ H Q=>∃r,`cz/\`eW=`gl/\∀v H',EnvV K `Y `S H' σ r.2 r.1 v->`rA
structure PX(X:Cx)(e:`H)(gx:GX):Prop where
 mk::go:`aBp
instance{X:Cx}{e:`H}{gx:GX}:`eH (`n0) (λ_=>`aBp):=⟨PX.go⟩
noncomputable def tTG(K:`y)(H₀:Hp)(B₀:BS)(ft:`aS)(d:D)(δ:Ds):TG:=λv σ H Q=>∃δ',`A!/\ft d δ=`o_/\∀σ' H',`axS->`ahm
structure PTG(X:Cx)(tg:`H)(ft:`aS):Prop where
 mk::go:`aBq
instance{X:Cx}{tg:`H}{ft:`aS}:`eH (`aBr) (λ_=>`aBq):=⟨PTG.go⟩
section
variable{st:`bw}{g:GE}{gt:GB}
theorem Y4(h:`cc):PX X e (Z8 g):=.mk λH₀ B₀ δ pins s σ H Q I hq105=>by
 obtain⟨r,en,e1,k⟩:=hq105
 unfold Z8 at e1;obtain⟨B,b1,b2,env⟩:=`aK;cases e2:`ar with
 | none=>rw[e2] at e1;cases e1
 | some d =>
  rw[e2] at e1;cases e1;exact h B δ `i s σ H Q I ⟨d,env,e2,λv H' s' r=>k v H' (`h4 (`o7 s') b1 b2 (`Zm) r)⟩
theorem mk0{δ:Ds}(h:`h1=`jh):`cj=`azz:=by
 unfold owL at h;split at h
 ·cases h;assumption
 ·cases h
theorem X70{δ:Ds}{r:`azH}(h:`EN=`gl):`cj=`a (.ow (`cy (`o r.1) r.2)):=by
 unfold gw0 at h;split at h
 ·cases h;assumption
 ·cases h
theorem s70(i:Nat)(h:`cc)(hN:`b4:=by rfl)(hv:`dS:=by first|exact `a!|exact `dd|exact `de)(hd:`aJ:=by decide)(hcd:`dT:=by decide)
  (hbase:`eQ `d6 `FR `x `sl=`sk:=by rfl)
  (hfew:(`nX
  &&`Lu)=`b:=by rfl)
  (hline:`eF:=by rfl) (hs:`fd:=by rfl) (hplain:`lV:=by rfl) :
  PX X (`aR (`c5 `d6 `FR `em) [e] [] `b_) (zu0 i g):=.mk λH₀ B₀ δ pins s σ H Q I hq106=>by
 obtain⟨r,en,e1,k⟩:=hq106
 unfold zu0 at e1;obtain⟨B,b1,b2,env⟩:=`aK;cases e2:`h1 with
 | none=>rw[e2] at e1;cases e1
 | some ds =>
  cases e3:`ar with
  | none=>rw[e2,e3] at e1;cases e1
  | some d =>
   rw[e2,e3] at e1;simp only[`f] at e1;split at e1
   ·rename_i hz
    cases e1;have hi:=`A?;obtain⟨a,J,hb,xs,hx,rx⟩:=`hz;refine rc0 L8 Af0 Ag0 qp0 `g4 (O9 `ck yx0 hs) `e' `iQ `e! hs `ka `i s σ H Q I
     ⟨_,J,`Lv,d,env,e3,λv H1 s1 r1=>⟨a,xs,v,rfl,rfl,`Ff,by rw[`Lw];exact hz,?_⟩⟩
    have M:Env X.K (upd H1 a (`l `xU)) B σ (`azA):=`Ba hi J ⟨_,j9,(`pf `xz r1).mono `jt⟩;exact `aBs
   ·cases e1
theorem bj0(i:Nat)(h:`cc)(hN:`b4:=by rfl)(hv:`dS:=by first|exact `a!|exact `dd|exact `de)(hd:`aJ:=by decide)(hcd:`dT:=by decide)
  (hbase:`eQ `d6 `Lx `x `sl=`sk:=by rfl)
  (hfew:(`nX
  &&`Lu)=`b:=by rfl)
  (hline:`eF:=by rfl) (hs:`fd:=by rfl) (hplain:`lV:=by rfl) :
  PX X (`aR (`c5 `d6 `Lx `em) [e] [] `b_) (wt0 i g):=.mk λH₀ B₀ δ pins s σ H Q I hq107=>by
 obtain⟨r,en,e1,k⟩:=hq107
 unfold wt0 at e1;obtain⟨B,b1,b2,env⟩:=`aK;cases e2:`h1 with
 | none=>rw[e2] at e1;cases e1
 | some ds =>
  cases e3:`ar with
  | none=>rw[e2,e3] at e1;cases e1
  | some d =>
   rw[e2,e3] at e1;simp only[`f] at e1;cases d<;>try cases e1
   rename_i es;dsimp only at e1;split at e1
   ·rename_i hz
    cases e1;have hi:=`A?;obtain⟨a,J,hb,xs,hx,rx⟩:=`hz;refine rc0 L8 C40 C50 i70 `g4 (O9 `ck yx0 hs) `e' `iQ `e! hs `ka `i s σ H Q I
     ⟨_,J,`Lv,_,env,e3,`EJ⟩
    rw[W4] at r1;obtain⟨b,zs,rfl,hq,rz⟩:=r1;refine⟨a,b,xs,zs,rfl,rfl,`Ff,`lU,by rw[`Lw,rz.length];exact hz,?_⟩;have M:Env X.K (upd H1 a `K2) B σ (`azB):=`Ba hi J ⟨_,j9,(`aw2 `xz rz).mono `jt⟩;exact `aBs
   ·cases e1
theorem Vy0(i:Nat)(hN:`b4:=by rfl)(hv:`dS:=by first|exact `a!|exact `dd|exact `de)(hd:`aJ:=by decide)(hcd:`dT:=by decide)
  (hbase:`eQ `d6 `FW `x `sl=`sk:=by rfl) (hline:`eF:=by rfl) :
  PX X (`aR (`c5 `d6 `FW `em) [] [] `b_) (q60 i):=.mk λH₀ B₀ δ pins s σ H Q I hq108=>by
 obtain⟨r,en,e1,k⟩:=hq108
 unfold q60 at e1;obtain⟨B,b1,b2,env⟩:=`aK;cases e2:`h1 with
 | none=>rw[e2] at e1;cases e1
 | some ds =>
  rw[e2] at e1;simp only[`f] at e1;cases e3:`azC with
  | none=>rw[e3] at e1;cases e1
  | some d =>
   rw[e3] at e1;cases e1;have hi:=`A?;obtain⟨a,J,hb,xs,hx,rx⟩:=`hz;rw[List.getLast?_eq_getElem?] at e3;obtain⟨y,hy,ry⟩:=rx.get e3;refine a80 L8 C60 C70 S10 `g4 `e' `e! `i s σ H Q I
    ⟨_,J,`Lv,a,xs,y,rfl,rfl,hx,by rw[`Lw];exact hy,?_⟩
   have M:Env X.K (upd H a `Yk) B σ (`azD):=env.mut hi J ⟨_,j9,rx.dropLast.mono `jt⟩;exact k _ _ (`h4 `aBt b1 b2 M (ry.mono `jt))
theorem l70(h:`AK):PTG X tg f:=.mk λH₀ B₀ d δ pins s σ H v u Q I r hq109=>by
 obtain⟨δ',en,e1,k⟩:=hq109
 obtain⟨B,b1,b2,env,rv⟩:=`aK;exact h B d δ `i s σ H v u Q I r ⟨δ',rv,env,e1,fun σ' w en'=>k σ' H (en.s.wr b1 b2 `xg w en')⟩
theorem lx0(i:Nat)(h:`cc)(hN:`b4:=by rfl)(hv:`dS:=by first|exact `a!|exact `dd|exact `de)(hd:`aJ:=by decide)(hcd:`dT:=by decide)
  (ha:∀v,`_s=(do
   let ov ← `_t
   let iv ← `_u
   `I'
   `I!
   `I?):=by intro _;rfl):PTG X `E6 `aBu:=.mk λH₀ B₀ d δ pins s σ H v u Q I r hq110=>by
 obtain⟨δ',en,e1,k⟩:=hq110
 unfold setAt at e1;obtain⟨B,b1,b2,env,rv⟩:=`aK;cases e2:`h1 with
 | none=>rw[e2] at e1;cases e1
 | some ds =>
  cases e3:`ar with
  | none=>rw[e2,e3] at e1;cases e1
  | some dk =>
   rw[e2,e3] at e1;simp only[`f] at e1;cases dk<;>try cases e1
   rename_i kk;dsimp only at e1;cases e4:ixN `bk kk with
   | none=>rw[e4] at e1;cases e1
   | some j =>
    rw[e4] at e1;cases e1;have hi:=`A?;obtain⟨a,J,hb,xs,hx,rx⟩:=`hz;refine cz0 `g4 `ck set_list ha `i s σ H v u Q I r `aj2;rw[j5] at r1;subst r1;refine⟨a,xs,kk,j,rfl,rfl,`Ff,by rw[`Lw];exact e4,?_⟩;have M:Env X.K (upd H1 a `aik) B σ (`a0 i (.ow (`l (ds.set j d)))):=`Ba hi J ⟨_,j9,(Rps.set j `xz `Fg).mono `jt⟩;exact `_v
theorem G4{ft:`aS}(h:`n0)(hg:`aBr)(hs:`WT:=by rfl)(hw:`WU:=by rfl)
  (h1:`WV:=by rfl):PSD X `WW (Q0 gx ft):=.mk λH₀ B₀ δ pins s σ H D I hq111=>by
 obtain⟨r,en,e1,k⟩:=hq111
 unfold Q0 at e1;cases e2:`eW with
 | none=>rw[e2] at e1;cases e1
 | some q =>
  rw[e2] at e1;simp only[`f] at e1;cases e3:ft q.1 q.2 with
  | none=>rw[e3] at e1;cases e1
  | some δ' =>
   rw[e3] at e1;cases e1;exact b90 (h `Y `S δ) (hg `Y `S q.1 q.2) hs hw h1 `i s σ H D I ⟨q,en,e2,λv H' J=>⟨δ',J,e3,fun σ' H'' en''=>k σ' H'' en''⟩⟩
theorem X6(h:`n0)(hs:`aq4:=by rfl):PSD X (.Expr e pos) (j6 gx):=.mk λH₀ B₀ δ pins s σ H D I hq112=>by
 obtain⟨r,en,e1,k⟩:=hq112
 unfold j6 at e1;cases e2:`eW with
 | none=>rw[e2] at e1;cases e1
 | some q =>
  rw[e2] at e1;cases e1;exact gp0 (h `Y `S δ) hs `i s σ H D I ⟨q,en,e2,λv H' J=>k σ H' J.s⟩
theorem qy0(n:Nat)(hp:`zP)(hc:`KU)(hb:`axY):PSD X `arc (T5 gt G n):=.mk λH₀ B₀ δ pins s σ H D I hq113=>by
 obtain⟨r,en,e1,k⟩:=hq113
 have O:PT X c (`ZA):=λpins s σ H Q I ⟨B,δ,h⟩=>hc B δ `i s σ H Q I h
 have M:PSs X `f' (λD σ H=>∃δ,`ax0):=λpins s σ H D I ⟨δ,h⟩=>`ax1
 refine Q20 hp O M `i s σ H D I ⟨λm σ H=>∃δ',`cS X.K `Y `S H σ δ'/\`aBv,⟨n,δ,en,e1⟩,?_⟩;rintro m σ1 H1 ⟨δ1,J,e2⟩;cases m with
 | zero=>cases e2
 | succ m =>
  unfold T5 at e2;obtain⟨B,b1,b2,env⟩:=J.ex;cases e3:gt δ1 with
  | none=>rw[e3] at e2;cases e2
  | some t =>
   rw[e3] at e2;refine⟨B,δ1,t,env,e3,λH2 s2=>?_⟩;cases t with
   | false =>
    rw[`nI];cases e2;exact k σ1 H2 (J.grow s2)
   | true =>
    rw[`bm];dsimp only at e2;refine⟨fun σ' H'=>∃δ',`cS X.K `Y `S H' σ' δ'/\`aBv,fun σ' H' z=>⟨m,T0 m,z⟩,δ1,?_⟩;cases e4:G δ1 with
    | none=>rw[e4] at e2;cases e2
    | some rb =>
     rw[e4] at e2;refine⟨rb,J.grow s2,e4,?_⟩;cases rb with
     | nx δn=>exact `aBw
     | ct δn=>exact `aBw
     | bk δn=>cases e2;exact fun σ' H' en'=>k σ' H' en'
     | rt d'=>cases e2;exact λv H' s' r'=>k v H' s' r'
     | rf d'=>cases e2;exact λp H' hp s' r'=>k p H' hp s' r'
theorem j60(i j:Nat){p2 p3:Pos}{kk}(hN:`e8)(hij:`FX)(hc:`bL:=by rfl)(hi:`b4:=by rfl)(hj:`n1:=by rfl)
  (hx:`qi:=by first|exact `a!|exact `gi) (hy:`kd:=by first|exact `a!|exact `gi)
  (hf:`qj:=by first|exact `bQ|exact `b'|assumption) (hf2:`ke:=by first|exact `bQ|exact `b'|assumption)
  (hs1:(`_w).map `eO=`hQ (`ajI) `x::`aBx:=by rfl) (hs2:`aBx=`hQ (`RZ) `x::(`mh [] `x).map `eO:=by rfl)
  (hn:(`_w).length=2:=by rfl) (hst:(`_w).findIdx? `bz=`c:=by rfl) :
  PGD X (`k7 `ajJ kk pos) [i,j] (n60 i j):=.mk λB d δ=>(L00 hc (ck0 (`Zl) (ck0 (lj0 (i:=j) hN hj hy hf2) Oh0 hs2) hs1) hn hst).imp λv σ H Q hq114=>by
 obtain⟨δ',r,en,e1,k⟩:=hq114
 unfold n60 at e1;split at e1
 ·rename_i da db
  cases e1;rw[V3] at r;obtain⟨p,xs,rfl,hq,rs⟩:=r;rw[o6] at rs;obtain⟨va,t1,rfl,ra,rs⟩:=rs;rw[o6] at rs;obtain⟨vb,t2,rfl,rb,rs⟩:=rs;rw[n6] at rs;subst rs;refine⟨p,_,rfl,`lU,rfl,va,[vb],rfl,vb,[],rfl,rfl,k _ ?_ ((en.set i ra).set j rb)⟩;refine⟨`aW,`_x,λq hq ds h=>?_⟩
  ·have h1:q≠i:=λz=>hq (by rw[z];exact A6)
   have h2:q≠j:=λz=>hq (by rw[z];exact A4 _ A6)
   rw[`aBy,`aBz,`aBy,`aBz];exact`kQ
  ·rcases `g3 h with⟨rfl,e3,_⟩|⟨n1,e3⟩
   ·cases e3
   ·rcases `g3 e3 with⟨rfl,e4,_⟩|⟨n2,e4⟩
    ·cases e4
    ·simp at hq
     rcases hq with z|z
     ·exact n2 `oV
     ·exact n1 `oV
 ·cases e1
universe zz
universe DL
namespace HT
open PyProof.Rows
section
variable{w:`P}{s:`v}
theorem m00{t sl:`e}{hi:`bc}{Q:`aq}(ht:`atL)(hs:`JO)(pl:`JP)(pu:`JQ)
  (hw:`atM) (h:Q `kS s):`atO:=by
 obtain⟨os,U,M,Y⟩:=id hs;have O:`atP := ⟨os,U,M⟩;unfold getItem
 try with_reducible refine `sr
 first|refine `XR|skip
 refine `atQ;refine A0 (L6 (name:=`atR) `oM U2
  `atS)
 show `atT;refine A0 (`XS ht ?_);refine A0 (P3 O ?_);rw[`XT];refine `atU;have J:`Qw:=by
  rw[hw.1,hw.2];simp
 show `atV;rw[`N J];unfold Builtin.Tuple.tupleIsExact;refine A0 (A0 (P3 `oM `DC));rw[`XT];exact A0 (L4 `Qx)
universe zz
universe HT
namespace L2
open Spec PyProof.Rows
noncomputable def Jy0(K:`y):`qq:=λx lo hi H Q=>∃a xs,`cY/\`kK/\`at'/\Q `dZ H
theorem Ot0:SlR X (Jy0 X.K):=by
 intro pins s σ H x v vl vu lo hi sl Q I rx hs pl pu h;obtain⟨a,xs,rfl,hx,hw,q⟩:=h;cases rx;obtain⟨its,r,ht,hz⟩:=`gU hx;have J:`gY=`am:=`at?
 exact⟨`c2,_,U2.lookup,`oM,HT.m00 ht hs pl pu (`JS) ⟨`b8,H,I,rfl,q⟩⟩
noncomputable def U20(K:`y):R2:=λx y H Q=>∃a b ys,`cY/\`z9/\SqT K H a []/\`auc/\Q `E3 H
theorem Qa0:OpR X `zV (U20 X.K):=by
 intro pins s σ H x y v u Q I rx ry h;obtain⟨a,b,ys,rfl,rfl,ha,hb,q⟩:=h;cases rx;cases ry;obtain⟨its,r1,p1,_⟩:=`XW;obtain⟨U,r2,p2,_⟩:=`gU hb;have e:its=[]:=r1.zero;subst e;obtain⟨⟨cls,dd,data,sl⟩,ho,hc,n,hd⟩:=id p1;obtain⟨⟨a1,Y,data2,Z⟩,J,M,n2,O⟩:=id p2;simp only at hc hd M O;subst hc hd M O;exact l6 `j? `JL y8 y9 A00 A10 (A20 _ _)
  (tuple_addW0 a b _ U.toArray n n2 dd Y sl Z rfl) ⟨ho,J,⟨`rP,H,I,rfl,q⟩⟩
noncomputable def kx0(x:Str)(n:Int):Str:=`ZW
noncomputable def P30:R2:=λx y H Q=>∃z n,x=`kU/\y=`iq/\`ZX/\n<`ga/\`_y<=`L/\Q (`s (`Ly)) H
theorem No0:OpR X `Jo P30:=by
 intro pins s σ H x y v u Q I rx ry h;obtain⟨z,n,rfl,rfl,h1,h2,hz,q⟩:=h;obtain⟨t,rfl⟩:=rx;obtain⟨t',rfl⟩:=ry;have fin:∀M k,EP X `i σ Q (`s (`Ly) M) { s with toks:=k }:=λM k=>⟨`br,H,I.tok k,⟨M,rfl⟩,q⟩
 have Z:`Xl<`Lz:=`X
 have U:¬n<1->¬((`jf:Int) > `LA/n):=by
  intro hn;have Y:0<n:=`C
  have:(`jf:Int)*n<=`R_:=by
   have e:n=(`g2:Int):=`C
   rw[e];have:((`_y:Nat):Int)<=`Lz:=by exact_mod_cast (`C:`_y<=`Lz)
   rw[`_z] at this;omega
  exact Int.not_lt.mpr ((Int.le_ediv_iff_mul_le Y).mpr `A)
 refine PySem.P.mul_str (by rw[`dM,`dM];rfl) (λhn _=>U hn) (λ_ _=>?_) ?_
 ·show `w (`jf*`g2 > sizeLine)=`q
  exact `JZ
 ·by_cases hn:n<1
  ·rw[`N hn]
   have e:`Ly=`Qn:=by
    unfold kx0;rw[show `g2=0 by omega];rfl
   refine⟨`X,?_⟩;rw[← e];exact fin _ _
  ·rw[`ai hn]
   by_cases h3:(n==1||`jf==0)=`b
   ·rw[`_A]
    have e:`Ly=z:=by
     rw[Bool.or_eq_true] at h3;rcases h3 with h3|h3
     ·have:n=1:=`um h3
      subst this;unfold kx0;show (⟨#[]++z.cps⟩:Str)=z;rw[Array.empty_append]
     ·have h3:`jf=0:=`um h3
      have O:z.cps=#[]:=Array.eq_empty_of_size_eq_zero h3;have:∀k:Nat,(`aL k (#[]:`ol Nat)).foldl `mF #[]=#[]:=by
       intro k
       induction k with
       | zero=>rfl
       | succ k ih=>rw[`ea,`J8];exact ih
      unfold kx0;rw[O,`A];cases z;simp at O;rw[O]
    have:=fin t `a8;rw[e] at this;exact `A
   ·rw[`ai h3]
    have hl2:∀(k:Nat) (J:`ol Nat),((`aL k z.cps).foldl `mF J).size=J.size+k*`aBA:=by
     intro k
     induction k with
     | zero=>intro J;simp
     | succ k ih=>intro J;rw[`ea,`J8,ih,`_p,`Yl];omega
    refine⟨?_,fin _ _⟩;show ((`aL `g2 z.cps).foldl `mF #[]).size<=_;rw[hl2];have:`jf=`aBA:=rfl;rw[`A,`Bb] at hz
    simpa using hz
theorem gz0:fillsNumberSlot `sH "mul"=`gT :=
 PySem.fillsNumberSlot_seq (id := `_B) (r:=`a (`cK `aBB)) `aBC `d7 `aBD `d7
theorem V20:seqRepeat? `sH=`bO (`a (`cK `_B)):=by
 unfold seqRepeat?;rw[`aBE (T := `c2) (name := "__mul__") (id := `_B) `aBC `d7,`aBE (T := `c2) (name := "__rmul__") (id := `aBB) `aBD `d7];rfl
theorem b30(a:Int)(t:Tok)(l:`e)(items:`aI)(n:Nat)(dd:`dP)(sl:`iN) :
  `A9 (Builtin.«int.__rmul__» ⟨[`d a t,`hV],[]⟩) (λ_ R s=>`_C/\R (.ok (`fj Value.notImplemented)) s) :=
 `A' λprog w A R s h=>by
  obtain⟨hp,g,d,tk,os⟩:=s;obtain⟨hl,h⟩:=h
  wp_walk
  exact`qM
theorem Qc0(l:`e)(items:`aI)(n:Nat)(dd:`dP)(sl:`iN)(k:Int)(t:Tok)(h2:2<=k)(h3:`AW)(he:`_D=`q)(hsz:`dq*`eu<=`L) :
  `A9 (Builtin.«tuple.__mul__» ⟨[`hV,`d k t],[]⟩) (λ_ R s=>`_C/\R (.ok (`fj (`i5 `M))) { s with heap:=`fq { cls:=`eg,data:=`aBF } }) :=
 `A' λprog w A R s h=>by
  obtain⟨hp,g,d,tk,os⟩:=s;obtain⟨hl,h⟩:=h;have f1:=`aBm;have c1:¬((`w (k < `X5)||`w (k ≥ 2 ^ 63))=`b):=by
   rw[`dM,`dM];exact B2
  have c2:¬((`_D||k==1)=`b):=by
   rw[he,`_E `h];exact B2
  have c3:¬((`w (k<=0)||`_D)=`b):=by
   rw[he,`dM];exact B2
  have hk:(`_F*k)=((`dq*`eu:Nat):Int):=by
   rw[`_z];congr 1;omega
  have hb:`Xl<`Lz:=`X
  have c4:¬(`_F*k > `LA/8):=by
   rw[hk];omega
  have c5:¬(Builtin.Tuple.tupleTooMany (`_F*k)=`b):=by
   rw[hk];unfold Builtin.Tuple.tupleTooMany;simp only[`qN];omega
  have O:∀(m:Nat) (J:`aI),((`aL m `aQ).foldl `mF J).size=J.size+m*`dq:=by
   intro m
   induction m with
   | zero=>intro J;simp
   | succ m ih=>intro J;rw[`ea,`J8,ih,`_p,`Yl];omega
  have M:sizeOk (`aBF):=by
   show (`ajK).size<=`L;rw[O,`Bb]
   simpa using hsz
  wp_walk
  rw[`ai c1];show `r _ _ (`aib `wL>>=_) _ _ _;refine A0 (`XS `aBG ?_);dsimp only;rw[`ai c2,`ai c3];rw[`ai c4,`ai c5];exact A0 (m:=`DG) (E4 (A1 `qM) M)
noncomputable def Pa0(K:`y):R2:=λx y H Q=>∃a xs k,`cY/\y=`ik/\`kK/\`z'/\2<=k/\`AW/\`azS/\∀p,`dH->Q `c7 (upd H p (`ZY))
theorem Oa0:OpR X `Jo (Pa0 X.K):=by
 intro pins s σ H x y v u Q I rx ry h;obtain⟨a,xs,k,rfl,rfl,ha,hx,h2,h3,hz,q⟩:=h;cases rx;obtain⟨t,rfl⟩:=ry;obtain⟨its,r1,p1,_⟩:=`XW;obtain⟨⟨cls,dd,data,sl⟩,ho,hc,n,hd⟩:=id p1;simp only at hc hd;subst hc hd;have hl:=`jm;have he:`Lt=`q:=by
  cases its with
  | nil=>exact `aBH
  | cons a b=>rfl
 have M:`_G<=`L:=`aBI
 have J:(`aL `eu `a6).foldl `mF #[]=`aBJ:=by
  have:=`aBK;rw[`e?] at this;exact `A
 refine Ca0 (T := `c2) (U := `hu) `p `j? `aBL gz0 `aBM n5 V20 `aBN
  (E5 n5 `aBO `aBP `aBQ (b30 k t a `a6 n dd sl)
   ⟨ho,rfl,`j?,E5 F.slot_tuple_mul `j? F.entry_tuple_mul (F.args_tuple_mul_2 _ _) (Qc0 a `a6 n dd sl k t h2 h3 he M) `aBR⟩)
 rw[J];refine⟨`fp,_,`j' (t':=`a8) (o:=`ZY) `z8 `bj ?_,rfl,`JT⟩;exact⟨by rw[len_rep,`Bb];exact hz,_,`aBS,`JU⟩
universe L2
namespace DL
open Spec PyProof.Rows L2
mutual
theorem o70:∀(d:D) (n:Nat),`mH->deq d d=`b
 | `u,_,_=>by unfold deq;rfl
 | `dm,_,_=>`_H
 | `it,_,_=>`_H
 | `mP,_,_=>`_H
 | `b0,0,h=>by unfold lean at h;cases h
 | `b0,n+1,h=>`aBT
 | `ch,0,h=>by unfold lean at h;cases h
 | `ch,n+1,h=>`aBT
 | `nV,n,h=>by unfold lean at h;cases h
 | `nW,n,h=>by unfold lean at h;cases h
theorem mf0:∀(ds:`j) (n:Nat),`LB->xk0 ds ds=`b
 | [],_,_=>by unfold xk0;rfl
 | `as,n,h=>by
  unfold leans at h;rw[`a?] at h;unfold xk0;rw[o70 d n h.1,mf0 ds n h.2];rfl
end
theorem t80:∀ds es:`j,xk0 ds es=((`bl (`aBU)).all (`qO)&&`aBV)
 | [],[]=>`_I
 | [],`db=>`_I
 | `db,[]=>`_I
 | `as,`Dg=>by
  unfold xk0;rw[t80 ds es];have h1:min `Ku `Yg=`aBU+1:=by simp only[`V];omega
  rw[h1,`aBW,`lP,`_J];have h2:(`Ku==`Yg)=(`aBV):=by
   rw[`t'];simp
  rw[h2,Bool.and_assoc];rfl
theorem lc0:∀{ds:`j} {n j:Nat} {d:D},`LB->ds[j]?=`bd->`mH
 | [],_,_,_,_,h=>`hv
 | `as,n,0,_,h,e=>by
  unfold leans at h;rw[`a?] at h;simp at e;subst e;exact h.1
 | `as,n,j+1,_,h,e=>by
  unfold leans at h;rw[`a?] at h;exact lc0 (j:=j) h.2 `zs
section
variable{σ:St}{s:`v}
mutual
theorem Rp.inj(I:`B):∀{d e:D} {n m:Nat} {v:V},`mH->`R0->Rp X.K H B d v->Rp X.K H B' e v->d=e
 | `u,e,_,m,v,_,le,h,h'=>by
  rw[V6] at h;subst h;cases e with
  | non=>rfl
  | bl b=>rw[X7] at h';cases h'
  | int b=>rw[j5] at h';cases h'
  | str b=>rw[Y9] at h';cases h'
  | tup b=>rw[V3] at h';obtain⟨_,_,z,_⟩:=h';cases z
  | lst b=>rw[W4] at h';obtain⟨_,_,z,_⟩:=h';cases z
  | dct a b=>unfold lean at le;cases le
  | fn a b=>unfold lean at le;cases le
 | .bl c,e,_,m,v,_,le,h,h'=>by
  rw[X7] at h;subst h;cases e with
  | non=>rw[V6] at h';cases h'
  | bl b=>rw[X7] at h';cases h';rfl
  | int b=>rw[j5] at h';cases h'
  | str b=>rw[Y9] at h';cases h'
  | tup b=>rw[V3] at h';obtain⟨_,_,z,_⟩:=h';cases z
  | lst b=>rw[W4] at h';obtain⟨_,_,z,_⟩:=h';cases z
  | dct a b=>unfold lean at le;cases le
  | fn a b=>unfold lean at le;cases le
 | `d c,e,_,m,v,_,le,h,h'=>by
  rw[j5] at h;subst h;cases e with
  | non=>rw[V6] at h';cases h'
  | bl b=>rw[X7] at h';cases h'
  | int b=>rw[j5] at h';cases h';rfl
  | str b=>rw[Y9] at h';cases h'
  | tup b=>rw[V3] at h';obtain⟨_,_,z,_⟩:=h';cases z
  | lst b=>rw[W4] at h';obtain⟨_,_,z,_⟩:=h';cases z
  | dct a b=>unfold lean at le;cases le
  | fn a b=>unfold lean at le;cases le
 | `hX,e,_,m,v,_,le,h,h'=>by
  rw[Y9] at h;subst h;cases e with
  | non=>rw[V6] at h';cases h'
  | bl b=>rw[X7] at h';cases h'
  | int b=>rw[j5] at h';cases h'
  | str b=>rw[Y9] at h';cases h';rfl
  | tup b=>rw[V3] at h';obtain⟨_,_,z,_⟩:=h';cases z
  | lst b=>rw[W4] at h';obtain⟨_,_,z,_⟩:=h';cases z
  | dct a b=>unfold lean at le;cases le
  | fn a b=>unfold lean at le;cases le
 | `b0,e,0,m,v,ld,_,_,_=>by unfold lean at ld;cases ld
 | `b0,e,n+1,m,v,ld,le,h,h'=>by
  rw[V3] at h;obtain⟨a,xs,rfl,q,r⟩:=h;unfold lean at ld;cases e with
  | non=>rw[V6] at h';cases h'
  | bl b=>rw[X7] at h';cases h'
  | int b=>rw[j5] at h';cases h'
  | str b=>rw[Y9] at h';cases h'
  | tup es =>
   cases m with
   | zero=>unfold lean at le;cases le
   | succ m =>
    unfold lean at le;rw[V3] at h';obtain⟨a',ys,z,q',r'⟩:=h';cases z;have:=`ahx `et q'.to;subst this;rw[`aBX]
  | lst es =>
   rw[W4] at h';obtain⟨a',ys,z,q',r'⟩:=h';cases z;obtain⟨_,_,⟨o,e1,c1,_⟩,_⟩:=`gU `et;obtain⟨_,_,p,_⟩:=`ek q'.to;obtain⟨o',e2,c2,_⟩:=`t4;rw[e1] at e2;cases e2;rw[c1] at c2;injection c2 with z
   exact `aBY
  | dct a b=>unfold lean at le;cases le
  | fn a b=>unfold lean at le;cases le
 | `ch,e,0,m,v,ld,_,_,_=>by unfold lean at ld;cases ld
 | `ch,e,n+1,m,v,ld,le,h,h'=>by
  rw[W4] at h;obtain⟨a,xs,rfl,q,r⟩:=h;unfold lean at ld;cases e with
  | non=>rw[V6] at h';cases h'
  | bl b=>rw[X7] at h';cases h'
  | int b=>rw[j5] at h';cases h'
  | str b=>rw[Y9] at h';cases h'
  | lst es =>
   cases m with
   | zero=>unfold lean at le;cases le
   | succ m =>
    unfold lean at le;rw[W4] at h';obtain⟨a',ys,z,q',r'⟩:=h';cases z;have:=`aht `et q'.to;subst this;rw[`aBX]
  | tup es =>
   rw[V3] at h';obtain⟨a',ys,z,q',r'⟩:=h';cases z;obtain⟨_,_,⟨o,e1,c1,_⟩,_⟩:=`gU q'.to;obtain⟨_,_,p,_⟩:=`ek `et;obtain⟨o',e2,c2,_⟩:=`t4;rw[e1] at e2;cases e2;rw[c1] at c2;injection c2 with z
   exact `aBY
  | dct a b=>unfold lean at le;cases le
  | fn a b=>unfold lean at le;cases le
 | `cy a b,e,n,m,v,ld,_,_,_=>by unfold lean at ld;cases ld
 | .fn a b,e,n,m,v,ld,_,_,_=>by unfold lean at ld;cases ld
theorem Rps.inj(I:`B):∀{ds es:`j} {n m:Nat} {xs:`K},`LB->`aBZ->`LC->Rps X.K H B' es xs->ds=es
 | [],es,_,_,_,_,_,h,h'=>by
  rw[n6] at h;subst h;have:=h'.length;cases es with
  | nil=>rfl
  | cons a b=>simp at this
 | `as,es,n,m,_,ld,le,h,h'=>by
  rw[o6] at h;obtain⟨x,r,rfl,h1,h2⟩:=h;cases es with
  | nil=>rw[n6] at h';cases h'
  | cons e es =>
   rw[o6] at h';obtain⟨x',r',z,J,M⟩:=h';cases z;unfold leans at ld le;rw[`a?] at ld le;rw[Rp.inj I ld.1 le.1 h1 J,Rps.inj I ld.2 le.2 h2 M]
end
theorem view(I:`B){d:D}{x:V}(l:`mH)(h:`E9)(r:`gW) :
  (`mE/\u=`ay)∨(∃b,d=`dm/\u=`I4)∨(∃i t,d=`a_/\u=`PB)∨(∃z t,d=`kU/\u=`s z t) ∨
  (∃m ds a xs its,n=m+1/\`aB_/\d=`b0/\`cY/\u=`b8/\`LC/\`lD/\`ahw) ∨
  (∃m ds a xs its,n=m+1/\`aB_/\d=`ch/\`cY/\u=`b8/\`LC/\`lD/\`Fh a `a6):=by
 cases d with
 | non=>rw[V6] at h;subst h;exact `o ⟨rfl,r⟩
 | bl b=>rw[X7] at h;subst h;exact `n (`o ⟨b,rfl,r⟩)
 | int i=>rw[j5] at h;subst h;obtain⟨t,e⟩:=r;exact `n (`n (`apt))
 | str z=>rw[Y9] at h;subst h;obtain⟨t,e⟩:=r;exact `n (`n (`n (`o ⟨z,t,rfl,e⟩)))
 | tup ds =>
  cases n with
  | zero=>unfold lean at l;cases l
  | succ m =>
   unfold lean at l;rw[V3] at h;obtain⟨a,xs,rfl,q,rr⟩:=h;obtain⟨its,rv,p,_⟩:=`gU `et;exact `n (`n (`n (`n (`o ⟨m,ds,a,xs,its,rfl,l,rfl,rfl,r,rr,rv,p⟩))))
 | lst ds =>
  cases n with
  | zero=>unfold lean at l;cases l
  | succ m =>
   unfold lean at l;rw[W4] at h;obtain⟨a,xs,rfl,q,rr⟩:=h;obtain⟨its,rv,p,_⟩:=`ek `et;exact `n (`n (`n (`n (`n ⟨m,ds,a,xs,its,rfl,l,rfl,rfl,r,rr,rv,`t4⟩))))
 | dct a b=>unfold lean at l;cases l
 | fn a b=>unfold lean at l;cases l
theorem in1_units:`R3=`mt+1:=rfl
theorem ng0{es:`j}{ys:`K}{ws:`ac}{A:`cl}(ld:`LB)(le:`aBZ)(r1:`LC)(r2:Rps X.K H B' es ys)(v1:`da)(v2:`apB)
  (ih:∀d e x y u w,`aB0) :
  ∀j (h1:j<`aB1) (h2:j<ws.toArray.size),`E' A s `aB2 `aB3 (`ajP):=by
 intro j h1 h2;have l1:j<`bk:=by rw[← `jm,`_K];simpa using h1
 have l2:j<`gm:=by rw[← `mJ,`_L];simpa using h2
 obtain⟨x,ex,rx⟩:=r1.get (C3 l1);obtain⟨y,ey,ry⟩:=r2.get (C3 l2);obtain⟨u,eu,ru⟩:=v1.get ex;obtain⟨w,ew,J⟩:=v2.get ey;have hu:`aB2=u:=by
  have:us[j]?=`bi:=eu;simp at h1;rw[`jq h1] at this
  simpa using `Ss
 have hw:`aB3=w:=by
  have:ws[j]?=`a w:=ew;simp at h2;rw[`jq h2] at this
  simpa using `Ss
 rw[hu,hw];have e1:`ajN=ds[j]:=by simp[`bg,l1]
 have e2:`ajO=es[j]:=by simp[`bg,l2]
 rw[e1,e2];exact ih _ _ _ _ _ _ (lc0 ld (C3 l1)) (lc0 le (C3 l2)) rx ry ru J
theorem Tf0(I:`B):∀(n m:Nat) (d e:D) (x y:V) (u w:`E) (A:`cl),`aB4->`aB0:=by
 intro n
 induction n with
 | zero =>
  intro m d e x y u w A hu ld le hx hy rx ry;have J:`_M:=`C
  rcases `_N with⟨rfl,rfl⟩|⟨b,rfl,rfl⟩|⟨i,t,rfl,rfl⟩|⟨z,t,rfl,rfl⟩|⟨n',_,_,_,_,hn,_⟩|⟨n',_,_,_,_,hn,_⟩<;>(try (exact `I hn `h)) <;>
  rcases `_O with⟨rfl,rfl⟩|⟨b',rfl,rfl⟩|⟨i',t',rfl,rfl⟩|⟨z',t',rfl,rfl⟩|⟨m',es,a',ys,U,rfl,Y,rfl,rfl,rfl,M,O,p'⟩|⟨m',es,a',ys,U,rfl,Y,rfl,rfl,rfl,M,O,p'⟩ <;>
  unfold deq <;>
  first
  | with_reducible exact M1 _|with_reducible exact A90 _ _|with_reducible exact `aB5|with_reducible exact `aB6|with_reducible exact Aa0 _ _ _|with_reducible exact Ac0 _ _ _
  | with_reducible exact A70 _|with_reducible exact i7 _ _|with_reducible exact i8 _ _|with_reducible exact A80 _|with_reducible exact Ab0 _ _ _|with_reducible exact i9 _ _|with_reducible exact `aB7
  | with_reducible exact j3 _ _|with_reducible exact Ad0 _ _ _|with_reducible exact `aB8
  | with_reducible exact `aB9|with_reducible exact `aB'|with_reducible exact `aB!|with_reducible exact `aB?
  | with_reducible exact x0 p' J|with_reducible exact `aCa|with_reducible exact `aCb|with_reducible exact `aCc
 | succ n ih =>
  intro m d e x y u w A hu ld le hx hy rx ry;have J:`_M:=`C
  have a1:`R3+n<`kV:=`_P
  rcases `_N with⟨rfl,rfl⟩|⟨b,rfl,rfl⟩|⟨i,t,rfl,rfl⟩|⟨z,t,rfl,rfl⟩|⟨n',ds,a,xs,its,hn,Z,rfl,rfl,rfl,rr,rv,p⟩|⟨n',ds,a,xs,its,hn,Z,rfl,rfl,rfl,rr,rv,p⟩ <;>
  rcases `_O with⟨rfl,rfl⟩|⟨b',rfl,rfl⟩|⟨i',t',rfl,rfl⟩|⟨z',t',rfl,rfl⟩|⟨m',es,a',ys,U,rfl,Y,rfl,rfl,rfl,M,O,p'⟩|⟨m',es,a',ys,U,rfl,Y,rfl,rfl,rfl,M,O,p'⟩
  case inr.inr.inr.inr.inl.inr.inr.inr.inr.inl =>
   cases hn
   by_cases hab:a=a'
   ·subst hab
    have e:`cT ds=`cT es:=`aCd;rw[← e,`aCe];exact M1 _
   ·refine x5 hab ?_
    have:=x6 (e:=`qO) p p' J `aCf;unfold deq;rw[t80]
    simpa [← `mI,← O.length,`EF,`sm] using `A
  case inr.inr.inr.inr.inr.inr.inr.inr.inr.inr =>
   cases hn
   by_cases hab:a=a'
   ·subst hab
    have e:`eY ds=`eY es:=`aCd;rw[← e,`aCe];exact M1 _
   ·refine x5 hab ?_
    have s1:`_Q:=`_R
    have s2:U.toArray.size=`gm:=by rw[`a9,← O.length,`sm]
    unfold deq;rw[t80]
    by_cases hl:`bk=`gm
    ·have:=`aCg (e:=`qO) p p' `_S J `aCf
     rw[s1] at this;rw[hl] at this ⊢
     simpa using `A
    ·have:=`aCh
     rw[`_E hl,`_r];exact `A
  all_goals
   unfold deq
   first
   | with_reducible exact M1 _|with_reducible exact A90 _ _|with_reducible exact `aB5|with_reducible exact `aB6|with_reducible exact Aa0 _ _ _|with_reducible exact Ac0 _ _ _
   | with_reducible exact A70 _|with_reducible exact i7 _ _|with_reducible exact i8 _ _|with_reducible exact A80 _|with_reducible exact Ab0 _ _ _|with_reducible exact i9 _ _|with_reducible exact `aB7
   | with_reducible exact j3 _ _|with_reducible exact Ad0 _ _ _|with_reducible exact `aB8
   | with_reducible exact `aB9|with_reducible exact `aB'|with_reducible exact `aB!|with_reducible exact `aB?
   | with_reducible exact x0 p' J|with_reducible exact `aCa|with_reducible exact `aCb|with_reducible exact `aCc
   | with_reducible exact SeqAt.EqAt.list_none p J|with_reducible exact SeqAt.EqAt.list_bool _ p J|with_reducible exact SeqAt.EqAt.list_int _ _ p J|with_reducible exact SeqAt.EqAt.list_str _ _ p J
   | with_reducible exact SeqAt.EqAt.tuple_none p J|with_reducible exact SeqAt.EqAt.tuple_bool _ p J|with_reducible exact SeqAt.EqAt.tuple_int _ _ p J|with_reducible exact SeqAt.EqAt.tuple_str _ _ p J
   | with_reducible exact SeqAt.EqAt.list_tuple p p' J|with_reducible exact SeqAt.EqAt.tuple_list p p' J
universe zz
universe DL
namespace DL
open Spec PyProof.Rows L2
section
variable{σ:St}{s:`v}
theorem Ur0(I:`B)(n m:Nat)(d e:D)(x y:V)(u w:`E)(A:`cl)(hu:`aB4)(ld:`mH)(le:`R0)(hx:`E9)(hy:`ajQ)(rx:`gW)(ry:`R1) :
  SeqAt.RcAt A s u w (`R2)/\SeqAt.RcNeAt A s u w (!`R2):=by
 have J:`_M:=`C
 rcases `_N with⟨rfl,rfl⟩|⟨b,rfl,rfl⟩|⟨i,t,rfl,rfl⟩|⟨z,t,rfl,rfl⟩|⟨n',ds,a,xs,its,hn,a1,rfl,rfl,rfl,rr,rv,p⟩|⟨n',ds,a,xs,its,hn,a1,rfl,rfl,rfl,rr,rv,p⟩ <;>
 rcases `_O with⟨rfl,rfl⟩|⟨b',rfl,rfl⟩|⟨i',t',rfl,rfl⟩|⟨z',t',rfl,rfl⟩|⟨m',es,a',ys,Y,rfl,a2,rfl,rfl,rfl,M,U,p'⟩|⟨m',es,a',ys,Y,rfl,a2,rfl,rfl,rfl,M,U,p'⟩
 case inr.inr.inr.inr.inl.inr.inr.inr.inr.inl =>
  subst hn;have Z:`aCi:=`_P
  have O:=`aCj
  have q1:=x6 (e:=`qO) p p' J O;have q2:=SeqAt.RcNeAt.tuples (e:=`qO) p p' J O;unfold deq;rw[t80];have s1:`_Q:=`_R
  have s2:`aCk:=`aCl
  rw[s1,s2] at q1 q2;exact`Bc
 case inr.inr.inr.inr.inr.inr.inr.inr.inr.inr =>
  subst hn;have Z:`aCi:=`_P
  have O:=`aCj
  have s1:`_Q:=`_R
  have s2:`aCk:=`aCl
  unfold deq;rw[t80]
  by_cases hl:`bk=`gm
  ·have q1:=`aCg (e:=`qO) p p' `_S J O
   have q2:=SeqAt.RcNeAt.lists (e:=`qO) p p' `_S J O;rw[s1] at q1 q2;rw[hl] at q1 q2 ⊢;simp only[`pe,`aCm,Bool.and_true];exact`Bc
  ·have q1:=`aCh
   have q2:=SeqAt.RcNeAt.lists_lengths (A:=A) p p' `ajR J;rw[`_E hl,`_r];exact`Bc
 all_goals
  unfold deq;constructor
  ·first
   | with_reducible exact SeqAt.RcAt.none_none|with_reducible exact SeqAt.RcAt.bool_bool _ _|with_reducible exact SeqAt.RcAt.int_int _ _ _ _|with_reducible exact SeqAt.RcAt.str_str _ _ _ _|with_reducible exact SeqAt.RcAt.bool_int _ _ _|with_reducible exact SeqAt.RcAt.int_bool _ _ _
   | with_reducible exact SeqAt.RcAt.none_bool _|with_reducible exact SeqAt.RcAt.none_int _ _|with_reducible exact SeqAt.RcAt.none_str _ _|with_reducible exact SeqAt.RcAt.bool_none _|with_reducible exact SeqAt.RcAt.bool_str _ _ _|with_reducible exact SeqAt.RcAt.int_none _ _|with_reducible exact SeqAt.RcAt.int_str _ _ _ _
   | with_reducible exact SeqAt.RcAt.str_none _ _|with_reducible exact SeqAt.RcAt.str_bool _ _ _|with_reducible exact SeqAt.RcAt.str_int _ _ _ _
   | with_reducible exact SeqAt.RcAt.none_list p' J|with_reducible exact SeqAt.RcAt.bool_list _ p' J|with_reducible exact SeqAt.RcAt.int_list _ _ p' J|with_reducible exact SeqAt.RcAt.str_list _ _ p' J
   | with_reducible exact SeqAt.RcAt.none_tuple p' J|with_reducible exact SeqAt.RcAt.bool_tuple _ p' J|with_reducible exact SeqAt.RcAt.int_tuple _ _ p' J|with_reducible exact SeqAt.RcAt.str_tuple _ _ p' J
   | with_reducible exact SeqAt.RcAt.list_none p J|with_reducible exact SeqAt.RcAt.list_bool _ p J|with_reducible exact SeqAt.RcAt.list_int _ _ p J|with_reducible exact SeqAt.RcAt.list_str _ _ p J
   | with_reducible exact SeqAt.RcAt.tuple_none p J|with_reducible exact SeqAt.RcAt.tuple_bool _ p J|with_reducible exact SeqAt.RcAt.tuple_int _ _ p J|with_reducible exact SeqAt.RcAt.tuple_str _ _ p J
   | with_reducible exact SeqAt.RcAt.list_tuple p p' J|with_reducible exact SeqAt.RcAt.tuple_list p p' J
  ·try rw[Bool.not_false]
   try rw[Bool.not_true]
   first
   | with_reducible exact SeqAt.RcNeAt.none_none|with_reducible exact SeqAt.RcNeAt.bool_bool _ _|with_reducible exact SeqAt.RcNeAt.int_int _ _ _ _|with_reducible exact SeqAt.RcNeAt.str_str _ _ _ _|with_reducible exact SeqAt.RcNeAt.bool_int _ _ _|with_reducible exact SeqAt.RcNeAt.int_bool _ _ _
   | with_reducible exact SeqAt.RcNeAt.none_bool _|with_reducible exact SeqAt.RcNeAt.none_int _ _|with_reducible exact SeqAt.RcNeAt.none_str _ _|with_reducible exact SeqAt.RcNeAt.bool_none _|with_reducible exact SeqAt.RcNeAt.bool_str _ _ _|with_reducible exact SeqAt.RcNeAt.int_none _ _|with_reducible exact SeqAt.RcNeAt.int_str _ _ _ _
   | with_reducible exact SeqAt.RcNeAt.str_none _ _|with_reducible exact SeqAt.RcNeAt.str_bool _ _ _|with_reducible exact SeqAt.RcNeAt.str_int _ _ _ _
   | with_reducible exact SeqAt.RcNeAt.none_list p' J|with_reducible exact SeqAt.RcNeAt.bool_list _ p' J|with_reducible exact SeqAt.RcNeAt.int_list _ _ p' J|with_reducible exact SeqAt.RcNeAt.str_list _ _ p' J
   | with_reducible exact SeqAt.RcNeAt.none_tuple p' J|with_reducible exact SeqAt.RcNeAt.bool_tuple _ p' J|with_reducible exact SeqAt.RcNeAt.int_tuple _ _ p' J|with_reducible exact SeqAt.RcNeAt.str_tuple _ _ p' J
   | with_reducible exact SeqAt.RcNeAt.list_none p J|with_reducible exact SeqAt.RcNeAt.list_bool _ p J|with_reducible exact SeqAt.RcNeAt.list_int _ _ p J|with_reducible exact SeqAt.RcNeAt.list_str _ _ p J
   | with_reducible exact SeqAt.RcNeAt.tuple_none p J|with_reducible exact SeqAt.RcNeAt.tuple_bool _ p J|with_reducible exact SeqAt.RcNeAt.tuple_int _ _ p J|with_reducible exact SeqAt.RcNeAt.tuple_str _ _ p J
   | with_reducible exact SeqAt.RcNeAt.list_tuple p p' J|with_reducible exact SeqAt.RcNeAt.tuple_list p p' J
universe zz
section
variable{a:`H}{p:Pos}{ga:`cb}
noncomputable def Wp0(K:`y)(neg:`aa):R2:=λx y H Q=>∃B B' dx dy,`Y'/\Rp K H B' dy y/\`cA dx 50=`b/\`cA dy 50=`b/\Q (.bl (xor neg (deq dx dy))) H
theorem mt0(hu:`aCn):OpR X (`d0 .Eq) (Wp0 X.K `q):=by
 intro pins s σ H x y v u Q I rx ry h;obtain⟨B,B',dx,dy,hx,hy,lx,ly,q⟩:=h;exact(`aCo).1 _ _ _ _ ⟨`bA,H,I,rfl,by rw[`uP] at q;exact q⟩
theorem pf0(hu:`aCn):OpR X (`d0 .NotEq) (Wp0 X.K `b):=by
 intro pins s σ H x y v u Q I rx ry h;obtain⟨B,B',dx,dy,hx,hy,lx,ly,q⟩:=h;exact(`aCo).2 _ _ _ _ ⟨`bA,H,I,rfl,by rw[`LD] at q;exact q⟩
theorem pn0:Op2 K (Wp0 K `q) wq0:=by
 intro H B x y dx dy d Q hb rx ry h k;unfold wq0 at h;split at h
 ·rename_i hl
  cases h;exact⟨B,B,dx,dy,rx,ry,hl.1,hl.2,k _ H `c' (by rw[X7,`uP])⟩
 ·cases h
theorem rj0:Op2 K (Wp0 K `b) xx0:=by
 intro H B x y dx dy d Q hb rx ry h k;unfold xx0 at h;split at h
 ·rename_i hl
  cases h;exact⟨B,B,dx,dy,rx,ry,hl.1,hl.2,k _ H `c' (by rw[X7,`LD])⟩
 ·cases h
theorem Qr0:Op2 K (λx y H Q=>rI0 (`ar2) x y H Q∨(`ase)∨P00 K x y H Q∨P60 K x y H Q∨U20 K x y H Q) m8:=by
 intro H B x y dx dy d Q hb rx ry h k;cases dx<;>cases dy<;>simp only[m8] at h<;>try cases h
 ·rw[j5] at rx ry
  subst rx ry;exact `o ⟨_,_,rfl,rfl,`sn⟩
 ·split at h
  ·cases h
   rw[Y9] at rx ry;subst rx ry;exact `n (`o ⟨_,_,rfl,rfl,`uH,`KP⟩)
  ·cases h
 ·split at h
  ·rename_i hz
   cases h;have M:=ry;have O:=rx;rw[V3] at rx ry;obtain⟨a,xs,rfl,q1,r1⟩:=rx;obtain⟨b,ys,rfl,q2,r2⟩:=ry
   by_cases he:`un
   ·subst he
    have e:`aCp=`aCp:=rfl;have hn:=`jm;simp at hn;have J:=`LE;subst J;exact `n (`n (`n (`n ⟨a,b,ys,rfl,rfl,`uQ,q2.to,k _ H `c' (by rw[`e?];exact M)⟩)))
   ·refine `n (`n (`n (`o ⟨a,b,xs,ys,rfl,rfl,`uQ,q2.to,he,`_T,`o9,λz p hp=>k _ _ `es (ll0 hb hp (`JV))⟩)))
    subst z;have hn:=`mJ;simp at hn;have J:=`LE;subst J;exact k _ H `c' (by rw[`cZ];exact O)
  ·cases h
 ·split at h
  ·rename_i hz
   cases h;rw[W4] at rx ry;obtain⟨a,xs,rfl,q1,r1⟩:=rx;obtain⟨b,ys,rfl,q2,r2⟩:=ry;exact `n (`n (`o ⟨a,b,xs,ys,rfl,rfl,`uQ,q2.to,`_T,λp hp=>k _ _ `es (pv0 hb hp (`JV))⟩))
  ·cases h
theorem Z2(ha:`cr)(hb:`df):PD X `aCq (o2 ga gb m8):=oo0 (K70.or (Xu0.or (Yu0.or (O00.or Qa0)))) Qr0 ha hb
theorem fl0(h:`a1):∀k:Nat,Rps K H B (`aL k ds).flatten `auY
 | 0=>`YZ
 | k+1=>by
  rw[`ea,`ea,`kb,`kb];exact h.append (fl0 h k)
theorem R70:Op2 K (λx y H Q=>rI CMul (`ar4) x y H Q∨P30 x y H Q∨Pa0 K x y H Q) V1:=by
 intro H B x y dx dy d Q hb rx ry h k;cases dx<;>cases dy<;>simp only[V1] at h<;>try cases h
 ·split at h
  ·cases h
   rw[j5] at rx ry;subst rx ry;exact `o ⟨_,_,rfl,rfl,`uH,`sn⟩
  ·cases h
 ·split at h
  ·rename_i hz
   cases h;rw[Y9] at rx;rw[j5] at ry;subst rx ry;exact `n (`o ⟨_,_,rfl,rfl,hz.1,`LF,hz.2.2,k _ H `c' (by rw[Y9];rfl)⟩)
  ·cases h
 ·split at h
  ·rename_i hz
   cases h;rw[V3] at rx;rw[j5] at ry;subst ry;obtain⟨a,xs,rfl,q1,r1⟩:=rx;refine `n (`n ⟨a,xs,_,rfl,rfl,`uQ,`aCr,`LF,hz.2.2.1,`aCs,λp hp=>k _ _ `es (ll0 hb hp `aCt)⟩);subst z;have hn:=`jm;simp at hn;exact `LE
  ·cases h
theorem R9(ha:`cr)(hb:`df):PD X `aCu (o2 ga gb V1):=oo0 (La0.or (No0.or Oa0)) R70 ha hb
theorem U50{xs:`j}{hi:`bc}(h:`YR=0/\`awz=`am):`ZZ=xs:=by
 unfold cutD;rw[h.1,h.2];simp
theorem yw0{lo hi:`pc}{gl gh:`ux}{p2:Pos}(he:`cc)(hl:`aCv)(hh:`aCw) :
  PD X `at3 (zh0 g gl gh):=.mk λB δ =>
 (Sm0 (Mg0.or (Om0.or (Ls0.or Ot0))) (he B δ) (hl B δ) (hh B δ)).imp fun σ H Q hq115=>by
  obtain⟨d,en,h,k⟩:=hq115
  unfold zh0 at h;cases e1:`ar with
  | none=>rw[e1] at h;cases h
  | some x =>
   cases e2:`EP with
   | none=>rw[e1,e2] at h;cases h
   | some l =>
    cases e3:`xp with
    | none=>rw[e1,e2,e3] at h;cases h
    | some u =>
     rw[e1,e2,e3] at h;simp only[`f] at h;refine⟨x,en,e1,λv H1 s1 r1=>⟨l,`gk,`aCx,λH2 s2=>⟨u,`Rl,`aCy,λH3 s3=>?_⟩⟩⟩;have S:=`qP;have r3:=(`o6).same s3;have hb:=(`_U).bad;cases x<;>simp only[slA] at h<;>try cases h
     ·split at h
      ·cases h
       rw[Y9] at r3;exact `o ⟨_,r3,`uH,k _ H3 S `Eq⟩
      ·cases h
     ·have r4:=r3
      rw[V3] at r3;obtain⟨a,xs,rfl,q,r⟩:=r3;rename_i dxs
      by_cases hw:sIx `LG 0 l=0/\sIx `LG `LG u=`LG
      ·refine `n (`n (`n ⟨a,xs,rfl,`et,`aCz,k _ _ S ?_⟩))
       rw[U50 hw];exact r4
      ·exact `n (`n (`o ⟨a,xs,rfl,`et,`aCz,λp hp=>k _ _ (S.trans `es) (ll0 hb hp `aCA)⟩))
     ·rw[W4] at r3
      obtain⟨a,xs,rfl,q,r⟩:=r3;exact `n (`o ⟨a,xs,rfl,`et,λp hp=>k _ _ (S.trans `es) (pv0 hb hp `aCA)⟩)
theorem Lk0:FnR K `ash intOfD:=by
 intro H B xs ds d Q hb r h k;unfold intOfD at h;split at h
 ·cases h
  obtain⟨v,rfl,r1⟩:=`iZ;rw[j5] at r1;subst r1;exact `o `aCB
 ·cases h
  obtain⟨v,rfl,r1⟩:=`iZ;rw[X7] at r1;subst r1;exact `n `aCB
 ·cases h
theorem Yf0:FnR K (λxs H Q=>∃p ys,`mp/\(`ZJ∨`ZK)/\`auI) zn0:=by
 intro H B xs ds d Q hb r h k;unfold zn0 at h;split at h
 ·cases h
  obtain⟨v,rfl,r1⟩:=`iZ;rw[W4] at r1;obtain⟨a,ys,rfl,q,rr⟩:=r1;exact⟨a,ys,rfl,`ZL,`aCC⟩
 ·cases h
  obtain⟨v,rfl,r1⟩:=`iZ;rw[V3] at r1;obtain⟨a,ys,rfl,q,rr⟩:=r1;exact⟨a,ys,rfl,`ZM,`aCC⟩
 ·cases h
universe zz
universe DL
namespace DL
open Spec PyProof.Rows
@[simp] noncomputable def si0:`bs
 | `cN,`wK=>`azQ
 | _,_=>`c
theorem J2{gA:GA}{δ:Ds}(h:`lQ)(hl:`qw):R6 gA δ=`Ko:=by
 unfold R6;rw[h,`f,`ki]
theorem U30{gA:GA}{δ:Ds}(h:`lQ)(hl:`qw):Y7 gA δ=`qx:=by
 unfold Y7;rw[h,`f,`ki]
theorem Pn0{n:Int}{d:D}(h:d∈`uR):∃k:Nat,`bU<n/\d=`h6:=by
 obtain⟨k,hk,rfl⟩:=`ds h;have:=`LH;exact⟨k,`C,by rw[`LI]⟩
theorem N70(f:D->α)(n:Int):(`uR).map f=`aCD λ(k:Nat)=>f `sY:=by
 unfold J6;rw[`bM];have:n - 0=n:=`C
 rw[`A];refine c6 λk _=>?_
 show f (`d (0+`bU))=_;rw[`LI]
theorem tn0(n:Int):(`uR).length=`g2:=by unfold J6;simp
theorem Yh0{n:Int}{d:D}(h:(`uR)[j]?=`bd):j<`g2/\d=`eX:=by
 have hj:j<`g2:=by
  have:=(`cL h).1
  rwa [tn0] at this
 refine⟨hj,?_⟩;unfold J6 at h;rw[`ca,`aCE (`At)] at h;have:=`pg;rw[← `A];show `aX (0+`bV)=_;rw[`LI]
theorem Ro0{gt:GB}{ge:GE}{δ:Ds}{n:Int}(h:Nat->D)(H:∀k:Nat,`bU<n->∃δ',gN 0 `sY δ=`o_/\`Ar=`eb/\`Ea=`a (h k)) :
  zs0 `bD gt ge δ (`uR)=`a (`aCD h):=by
 rw[vh0 (λd=>match d with|`fr=>h `hS|_=>`u) (λd hd=>by
  obtain⟨k,hk,rfl⟩:=Pn0 hd;exact H k hk),N70]
 rfl
universe DL
namespace DL
open Spec PyProof.Rows L2
section
variable{a:`H}{p:Pos}{ga:`cb}
theorem fb0(ha:`cr)(hb:`df):PDF X `aCq (o2 ga gb si0):=.mk λB δ=>(Qx0 Yu0 `a4 `fc).imp fun σ H Q hq116=>by
 obtain⟨d,en,h,k⟩:=hq116
 unfold o2 at h;cases e1:`c9 with
 | none=>rw[e1] at h;cases h
 | some x =>
  cases e2:`d3 with
  | none=>rw[e1,e2] at h;cases h
  | some y =>
   rw[e1,e2] at h;simp only[`f] at h;refine`uA;cases x<;>cases y<;>simp only[si0] at h<;>try cases h
   split at h
   ·rename_i hz
    cases h;have r1:=`o6;rw[W4] at r1 r2;obtain⟨a,xs,rfl,q1,r1⟩:=r1;obtain⟨b,ys,rfl,q2,r2⟩:=r2;exact⟨a,b,xs,ys,rfl,rfl,`uQ,q2.to,`_T,λp hp=>k p _ (`aCF hp) (`E! `es) ⟨_,j9,(`JV).mono `Fv⟩⟩
   ·cases h
theorem qk0(hm:`nG)(hv:`rp=`ajY)(ha:`cc)(hg:`cI:=by rfl)
  (hn:`kE := by decide) (hdb:`aJ:=by decide) (he:`fd:=by rfl) (hpl:`kj:=by rfl) :
  PDF X `aCG (oA `LJ zn0):=.mk λB δ=>(p00 qf0 hg hm hv (O9 `a4 yx0 he) hn hdb he hpl).imp fun σ H Q hq117=>by
 obtain⟨d,en,h,k⟩:=hq117
 unfold oA z7 v5 at h;cases e1:`ar with
 | none=>rw[e1] at h;cases h
 | some x =>
  rw[e1] at h;simp only[`f,`gH] at h;refine⟨x,en,e1,`EJ⟩;cases x<;>simp only[zn0] at h<;>try cases h
  ·rw[V3] at r1
   obtain⟨q,xs,rfl,hq,rr⟩:=r1;exact⟨q,xs,rfl,`n `lU,`aCH⟩
  ·rw[W4] at r1
   obtain⟨q,xs,rfl,hq,rr⟩:=r1;exact⟨q,xs,rfl,`o `lU,`aCH⟩
universe zz
section
variable{p:Pos}
noncomputable def FnN(P:`ao)(w:`P)(K:`y)(mg:`bx)(base:`Q)(x:Str)(k:Nat)(ps:`g)(f:`J):Prop :=
 ∃(fa:`e) (fd:`ho),`R P w K mg `m CX0 k fa fd ps (spN K f)/\`ZP
theorem t00{k:Nat}{ps:`g}{f:`J}(C:`aCI)(hr:`AT)(hk:k<=m)(ha:`nU)(hg:`cI:=by rfl)(hdb:`aJ:=by decide)
  (he:`d?:=by rfl) (hpl:`gF:=by rfl):PDF X `wC `Et:=by
 obtain⟨fa,fd,F,hm,kp,hb⟩:=C;exact .mk λB δ=>(k20 (E:=E0) F `qI hg hm kp hb `O n80 `a4 hdb he hpl).imp fun σ H Q h=>by
  obtain⟨d,en,h,k⟩:=h;unfold oA at h;cases e1:`b! with
  | none=>rw[e1] at h;cases h
  | some ds =>
   rw[e1] at h;refine`axI;show spN X.K f `Zh H1 Q E0;rw[`cZ];exact⟨B,ds,d,`Zf,r1,h,λp H' hp s r=>k p H' (`k6 hp) (`jl s) r⟩
theorem w60{k:Nat}{ps:`g}{f:`J}(C:`aCI)(hr:`AT)(hk:k<=m)(ha:`nU)(hg:`cI:=by rfl)(hdb:`aJ:=by decide)
  (he:`d?:=by rfl) (hpl:`gF:=by rfl):`AJ:=(t00 C hr hk ha hg hdb he hpl).pd
theorem O7(h:`uD):PSD X `ql (R5 g):=.mk λH₀ B₀ δ pins s σ H D I hq118=>by
 obtain⟨r,en,e1,k⟩:=hq118
 unfold R5 at e1;obtain⟨B,b1,b2,env⟩:=`aK;cases e2:`ar with
 | none=>rw[e2] at e1;cases e1
 | some d =>
  rw[e2] at e1;cases e1;exact pj0 `ck `i s σ H D I ⟨d,env,e2,λp H' hp s' r=>k p H' (`_k) (`RR s') (`cR `_o (`h3 λa z=>z.imp (b1 a) id)).toL⟩
theorem oc0(i:Nat){px:Pos}(hN:`b4:=by rfl)(hv:`dS:=by first|exact `a!|exact `dd|exact `de)(hd:`aJ:=by decide)(hcd:`dT:=by decide) :
  PSD X (`P6 (`a `d6) pos) (n70 i):=.mk λH₀ B₀ δ pins s σ H D I hq119=>by
 obtain⟨r,en,e1,k⟩:=hq119
 unfold n70 at e1;obtain⟨B,b1,b2,env⟩:=`aK;split at e1
 ·rename_i d hi
  obtain⟨a,hs,hb,ro⟩:=`hz;cases e1;exact pj0 `g4 `i s σ H D I ⟨_,hs,k a H (`o8 i d a hi hs) `gj (ro.mono `_o (`h3 λb z=>`si (b1 b) λq=>by rw[q];exact hb))⟩
 ·cases e1
universe zz
universe DL
namespace DL
@[simp] noncomputable def Wx0:`J
 | `aCJ=>`a (`t `aCK)
 | _=>`c
@[simp] noncomputable def tr0:`J
 | `As=>`a (`l `aCL)
 | _=>`c
noncomputable def xi0(ds:`j):`j:=(`bl `bk).map λ(k:Nat)=>`t [`h6,ds.getD k `u]
noncomputable def bq0:`Kt
 | `As=>`aCM
 | _=>`c
noncomputable def iv0(gA:GA):GA:=fun δ=>`gq bq0
mutual
noncomputable def tree:`dc
 | `bK=>`q
 | `nV=>`q
 | `nW=>`q
 | `b0=>`_V
 | _=>`b
noncomputable def trees:`AV
 | []=>`b
 | `as=>`jw d&&`_V
end
noncomputable def yh0(g:GE):GE:=fun δ=>`ZQ λd=>if `LK then `bd else `c
theorem rf0{g:GE}{δ:Ds}{d:D}(h:`o?=`bd)(ht:`LK):yh0 g δ=`bd:=by
 unfold yh0;rw[h,`f,`_W]
noncomputable def tz0(g:GE)(gA:GA)(f:`uS):GE:=fun δ=>`cq λd=>`gq λds=>f d ds
theorem Nu0{g:GE}{gA:GA}{f:`uS}{δ:Ds}{d:D}(h1:`hx)(h2:`lQ):tz0 g gA f δ=f d ds:=by
 unfold tz0;rw[h1,h2];rfl
noncomputable def tm0:`uS
 | `g5,[`mP]=>`a `aku
 | _,_=>`c
noncomputable def m30:GS:=`ud
theorem o40{gA:GA}{δ:Ds}{n:Int}(h:`b!=`a [`iq])(h1:`ZX)(h2:n<`ga):u80 gA δ=`a (`uR):=by
 unfold u80;rw[h,`f];simp only[Xt0];rw[`N `Z2]
universe DL
namespace RevL
open Spec PyProof.Rows
theorem Wg0:`rR `LL "__len__"=`wp:=by rw[`tW,`tX];kernel_rfl
theorem Rj0:`rR `LL `R7=`bO (`a (`cK "list_reverseiterator.__length_hint__")):=by rw[`tW,`tX];kernel_rfl
theorem N90:isSubtype `LL `LL=`D8:=by rw[`VP];kernel_rfl
section
variable{w:`P}{s:`v}{R:`qd}
variable{wr:`aU}{G:`aCN}{P:`aCO}{St:`YC}
theorem N50(W:`aCP)(hT:`_X)(C:`e)(res:`E)(c0:Nat)(st:St 0 s)(hC:C∉fp)(hI:I∈fp)
  (gC:`c3 C=`aCQ)
  (hR:∀s' acc' c',`aCR->`aCS->`_Y->R (.ok (`fj res)) s') (hn:`us) :
  `r `av `bC (`xy `ft `Fb res)
   `LM `LN s:=by
 have ne:C≠I:=λe=>hC (e▸hI)
 unfold Builtin.List.listExtendWith;refine A0 (P3 `LO (by
  have q1:`xE `ft `Fb=`q:=by simp[`xE,ne]
  have q2:(`aCT==`h7 `eh)=`q:=`X
  have q3:(`aCT==`h7 `c2)=`q:=`X
  simp only[q1,q2,q3,`J_,`qu,`cU];refine A0 (W.self 0 _ _ _ st (A0 (C6 (by
   unfold Builtin.List.listLengthHint;refine A0 (D6 `LO Wg0 (by
    show `r _ `bC (`ake (`i5 I) `akf>>=_) _ _ _;refine A0 (D6 `LO Rj0 ?_);refine A0 (k6 `LO N90 ?_);rw[`eE];dsimp only;rw[`N `d7,`eE];refine `gX;rw[`aCU];refine A1 ⟨X1 PySem.F.plain_extend_loop _,?_⟩;exact codeAny_extend_loopS W hn _ hC _ n 0 _ _ _ rfl `qr st gC (ItemsOf.nil P) λs' acc' c' m e J=>hR s' acc' c' m e J))))))))
theorem Rr0(W:`aCP)(hT:`_X)(C:`e)(st:St 0 s)(hC:C∉fp)(hI:I∈fp)
  (gC:`c3 C=`LP)
  (hR:∀s' acc' c',`aCR->`aCS->`_Y->R (.ok (`fj `ay)) s') (hn:`us) :
  `r `av `bC (`aCV ⟨[`rH,`z I],[]⟩)
   `LM `LN s:=by
 show `r _ `bC (do let old ← `aCW `ft;`aCX `ft `LQ;`aCY;`aCZ) _ _ s;refine A0 (by
  unfold Builtin.List.listItems;refine A0 (N3 gC rfl (A1 (by
   show `r _ `bC (`qQ C `LQ>>=λ_=>`aC_>>=λ_=>`aCZ) _ _ s;have g2:=E6 `F4 gC rfl;have oth:∀b o,b≠C->`gR->(`mV C `F4).get? b=`aj:=`_Z
   refine A0 (L7 gC rfl (A0 (`__ (N50 W hT C `ay _ (W.frame 0 s _ `a8 st `bj λb hb o e=>oth b o (λh=>hC (h▸hb)) e) hC hI g2 (λs' acc' c' m e J=>?_) hn))));exact hR s' acc' c' (Moved.trans W.gtrans ((Moved.refl W.grefl).then_heap `bj λb o hb e=>oth b o (λh=>hb (h▸A6)) e) m) e J))))
universe zz
section
variable{w:`P}{s:`v}
variable{wr:`aU}{G:`aCN}{P:`aCO}{St:`YC}
theorem dr0{Q:`aq}(W:WalksS `i4 w A.in1.in1 I fp wr G n P St)(hT:`_X)(st:St 0 s)(hfp:∀b∈fp,b<`M)(hI:I∈fp)
  (hQ:∀s' acc' c',Moved (`M::wr) G `aC0 s' ->
   `ajV `M=`ajW->`_Y->Q `h9 s') (hn:`us) :
  `r `av A (`ep `xw [`z I]) Q E s:=by
 have hC:`M ∉fp:=λz=>C8 _ (hfp _ z)
 refine Ai0 (Q₁:=λob s1=>ob=`fp/\s1=`aC0) Cm0 (Cn0 _) Co0 `aC1 λob s1 h1=>?_
 obtain⟨rfl,rfl⟩:=h1;have gC:(`ajX).get? `M=`LP:=`eM;exact⟨`aC2,Cq0 _ _,Rr0 W hT _ (W.frame 0 s _ `a8 st `bj λb _ o e=>`oD) hC hI gC (λs' acc' c' m e J=>⟨rfl,hQ s' acc' c' m e J⟩) hn⟩
theorem dc0{its:`aI}{Q:`aq}(hh:`eD)(hl:`Fh l its)(hz:`P5)
  (h:∀(h':`Q) (tk c:Nat) (a:`e),`zB->`fl a=`a { cls:=`dk,dict:=`c,data:=`bP `_0 c,slots:=#[] }->`LR->Q `dZ `pj) :
  `r `av A (`ep (`bq `mK) [`hV]) `aC3 E s:=by
 refine call_reversed_list hl ?_;obtain⟨ol,gl,_,_⟩:=id hl;have O:l<`M:=A8 gl;have U:A.in1.in1.handled=`c:=`LS
 have Wk:=(Walks.listRev (prog:=`i4) (w:=w) U `M l (B0 O) its).toS;refine dr0 Wk (λi s x=>x.2.1.typeIs) ⟨`cQ,⟨_,`eM,rfl,by
  show `arF #[`hV,`sA (`LT)]=_;have z:`LT - `rF=`LT:=`C
  rw[z]⟩,hl.push _⟩ (`gD) `aw (λs' M c' m e J=>?_) hz
 ·show b<`_1
  rw[`Bd];simp only[`ff,`hA,`hB] at hb;rcases hb with rfl|rfl
  ·exact T0 _
  ·exact Aj0 O
 ·obtain⟨h',g',d',Z,Y⟩:=s'
  obtain rfl:g'=`t2:=m.gens;obtain rfl:d'=`IX:=m.drawn;obtain rfl:Y=s.os:=m.os;have ea:M=`_0:=by
   apply Array.ext
   ·rw[J.1,Array.size_reverse]
   ·intro i h1 h2
    have q:its[`Dd - 1 - i]?=`a M[i]:=J.2 i M[i] (c9 h1);have hi:i<`Dd:=by rw[← J.1];exact h1
    rw[Array.getElem?_eq_getElem `h] at q;rw[Array.getElem_reverse];exact(A3 q).symm
  subst ea;have a1:(`fq (revObj l (`LT))).objs.size=`oJ:=l5 ..;refine h h' Z c' _ ?_ e λb o eb=>?_
  ·show `M<=`_1
   rw[`Bd];exact Nat.le_succ _
  ·have lb:=A8 eb
   refine m.heap b o ?_ (A9 _ (A9 _ eb));simp only[`ff,`hA,`hB,`Be];refine⟨?_,B0 lb⟩;show b≠`_1;rw[`Bd];exact B0 (Aj0 lb)
universe zz
universe RevL
namespace DL
open Spec PyProof.Rows L2
theorem Rps.reverse:∀{ds:`j} {xs:`K},`a1->Rps K H B `aCL `J7
 | [],_,h=>`KE
 | `as,_,h=>by
  rw[o6] at h;obtain⟨x,r,rfl,h1,h2⟩:=h;rw[`eG,`eG];exact `pf (Rps.reverse h2) h1
section
variable{p:Pos}
theorem Ze0:`f7 `mK=`a (`bq `mK):=`aP
theorem O90:`_2:=`aP
theorem Ng0(hc:`bL)(hl:`_3)(hs:`aC4)(he:`fV)(hgl:`_4 := by rfl)(hgs:`aC5 := by rfl)
  (e1:`aC6:=by rfl) (e2:`fd:=by rfl)
  (h1:`kj:=by rfl) (h2:`aC7:=by rfl) :
  PE X `aC8 (fun σ H Q=>te σ H λv H'=>∃q xs,v=`z q/\SqL X.K H' q xs/\∀l,H' l=`c->Q `wL (upd H' l (`l `J7))):=by
 intro pins s σ H Q I h;refine L5 (v50 I hgl hl O90 ?_ `p `p);refine `aC9;rw[e1];show `r _ _ (`zH (`ajZ::`EG)) _ _ s;refine U1 ?_;refine L5 (v50 I hgs hs Ze0 ?_ `p `p);refine G0 ?_ e2 h2;rw[e2];show `r _ _ (`zH (`oK::`aj_)) _ _ s;refine U1 (thn `iL λu s1 hq120=>?_);obtain⟨v,H1,I1,r1,q,xs,ev,hq,k⟩:=hq120;refine Y3 ?_;subst ev;obtain rfl:u=`i5 q:=r1;obtain⟨its,rv,pl,hz⟩:=I1.list hq;have J:=`mI;refine thn (RevL.dc0 (I1.ok.hd hc) `lO (by rw[`a9,← J];exact hz) (Q:=`ahe) (E:=`aG) λh' tk c a ha ga hk=>?_) `aC'
 have hf:H1 a=`c:=`Qb ha;refine⟨`b8,_,`Du (a:=a) (o:=`l `J7) (t':=tk) hk ha ?_,rfl,k a hf⟩;exact⟨by rw[`ip];exact hz,`_0,c,rv.reverse,by rw[ga];simp⟩
theorem oy0(hl:`_3)(hs:`aC4)(he:`cc)(hc:`bL:=by rfl)(hgl:`_4 := by rfl)(hgs:`aC5 := by rfl)
  (e1:`aC6:=by rfl) (e2:`fd:=by rfl)
  (h1:`kj:=by rfl) (h2:`aC7:=by rfl) :
  PDF X `aC8 (oA `LJ tr0):=.mk λB δ =>
 (Ng0 hc hl hs (he B δ) hgl hgs e1 e2 h1 h2).imp fun σ H Q hq121=>by
  obtain⟨d,en,h,k⟩:=hq121
  unfold oA z7 v5 at h;cases e3:`ar with
  | none=>rw[e3] at h;cases h
  | some x =>
   rw[e3] at h;simp only[`f,`gH] at h;cases x<;>simp only[tr0] at h<;>try cases h
   refine⟨_,en,e3,λv H1 s1 r=>?_⟩;rw[W4] at r;obtain⟨q,xs,rfl,hq,rr⟩:=r;exact⟨q,xs,rfl,`lU,λl hl=>k l _ (`k6 hl) (`jl (X4 hl)) ⟨_,j9,rr.reverse.mono (`RW hl)⟩⟩
universe zz
theorem xj0[`lW]:∀{ks:`lX} {ds:`j} {xs:`K} {q:κ},`a1->(∀d,`ZS=`bd->∃x,`aC!=`dE/\`w8)/\(`r8->(`aC!).isSome=`qK)
 | [],ds,xs,q,h=>by
  refine⟨λd e=>?_,`_5⟩
  ·unfold vv0 at e;cases e
  ·rfl
 | `kk,[],xs,q,h=>by
  rw[n6] at h;subst h;refine⟨λd e=>?_,`o9⟩
  ·unfold vv0 at e;cases e
  ·simp at z
 | `kk,`as,xs,q,h=>by
  rw[o6] at h;obtain⟨x,r,rfl,h1,h2⟩:=h;obtain⟨i1,i2⟩:=xj0 (ks:=ks) (q:=q) h2
  by_cases e:k=q
  ·subst e
   refine⟨`aC?,`_5⟩
   ·unfold vv0 at e'
    rw[`bm] at e';cases e';exact⟨x,rr0 rfl,h1⟩
   ·rw[`dB,rr0 rfl]
    unfold ya0;simp
  ·refine⟨`aC?,`o9⟩
   ·unfold vv0 at e'
    rw[`ed] at e';rw[`dB,`AX];exact i1 d' e'
   ·rw[`dB,`AX,i2 `ayJ]
    unfold ya0;simp[e]
theorem X80[`lW]:∀{ks:`lX} {xs:`K} {q:κ},`r8->((`Q5).any λkv=>`w (`pb=q))=`qK
 | [],_,_,_=>rfl
 | `kk,[],_,h=>`hv
 | `kk,`lN,q,h=>by
  rw[`dB,`nO,X80 `hk];rfl
theorem fg0[`lW]{ks:`lX}{q:κ}(h:`r8):∃ys,`mG `w6 q v=`aDa/\(`R').length=`en/\(`qK=`b->ys=`_6)/\(`qK=`q->ys=`RX):=by
 unfold putK xh0;rw[X80 h];cases hk:`qK with
 | true =>
  rw[`bm,`bm];refine⟨`_6,?_,`aDb,`iz,λz=>by cases z⟩;clear hk
  induction ks generalizing xs with
  | nil=>rfl
  | cons k ks ih =>
   cases xs with
   | nil=>simp at h
   | cons x xs =>
    rw[`dB,`T,`T,`dB,ih `hk]
    by_cases e:k=q<;>simp[e]
 | false =>
  rw[`kn,`kn];refine⟨`RX,?_,`aDb,`awM,`iz⟩;rw[List.zip_append h];rfl
theorem ot0[`lW]{q:κ}{d:D}(hv:`ci):∀{ks:`lX} {ds:`j} {xs:`K},`a1->Rps K H B (`azG λp=>if p.1=q then d else p.2) (`_6)
 | [],_,_,_=>`YZ
 | `kk,[],xs,h=>`KE
 | `kk,d'::ds,xs,h=>by
  rw[o6] at h;obtain⟨x,r,rfl,h1,h2⟩:=h;rw[`dB,`dB,`T,`T,o6];refine⟨_,_,rfl,?_,ot0 hv h2⟩
  by_cases e:k=q
  ·simp only[e,`fW];exact hv
  ·simp only[e,`cU];exact h1
section
variable{a:`H}{p:Pos}{ga:`cb}
theorem p40{d:D}{k:K6}(h:`EL=`fz)(r:`ci):v=kV k:=by
 cases d<;>simp[yp0] at h
 ·subst h;rw[j5] at r;subst r;rfl
 ·subst h;rw[Y9] at r;subst r;rfl
theorem if0:∀{ds:`j} {ks:`fB} {xs:`K},`K'=`a ks->`a1->xs=`EW
 | [],ks,xs,h,r=>by cases h;rw[n6] at r;exact r
 | `as,ks,xs,h,r=>by
  unfold q30 at h;rw[o6] at r;obtain⟨x,r',rfl,h1,h2⟩:=r;cases e1:`EL with
  | none=>rw[e1] at h;cases h
  | some k =>
   cases e2:`K' with
   | none=>rw[e1,e2] at h;cases h
   | some l =>
    rw[e1,e2] at h;cases h;rw[p40 e1 h1,if0 e2 h2];rfl
theorem af0{d:D}{k:`fB}(h:qg0 d=`fz)(r:`ci):∃b,v=`rP/\`AZ:=by
 cases d<;>simp only[qg0] at h<;>try cases h
 rw[V3] at r;obtain⟨a,xs,rfl,q,rr⟩:=r;exact⟨a,rfl,by rw[← if0 h rr];exact q.2⟩
theorem X20(hu:`kl)(ha:`cr)(hb:`df)(hs:Xr0 b:=by exact `lT):PD X `z? (o2 ga gb p30):=.mk λB δ=>(Y80 hu `a4 `fc hs).imp fun σ H Q hq122=>by
 obtain⟨d,en,h,k⟩:=hq122
 unfold o2 at h;cases e1:`c9 with
 | none=>rw[e1] at h;cases h
 | some x =>
  cases e2:`d3 with
  | none=>rw[e1,e2] at h;cases h
  | some y =>
   rw[e1,e2] at h;simp only[`f] at h;refine`uA;cases x<;>simp only[p30] at h<;>try cases h
   rename_i ks ds;have r1:=`o6;cases ks with
   | inl ks =>
    simp only at h;cases e3:yp0 y with
    | none=>rw[e3] at h;cases h
    | some q =>
     rw[e3] at h;simp only[`f] at h;rw[jq0] at r1;obtain⟨p,xs,rfl,_,hp,hl,rr⟩:=r1;obtain⟨v,hv,rv⟩:=(xj0 rr).1 d h;have:=p40 e3 r2;subst this;exact⟨p,v,rfl,by rw[← hv];exact `_7,`aDc⟩
   | inr ks =>
    simp only at h;cases e3:qg0 y with
    | none=>rw[e3] at h;cases h
    | some q =>
     rw[e3] at h;simp only[`f] at h;rw[gt0] at r1;obtain⟨p,xs,rfl,_,hp,hl,rr⟩:=r1;obtain⟨v,hv,rv⟩:=(xj0 rr).1 d h;obtain⟨b,rfl,hb⟩:=af0 e3 r2;exact⟨p,v,rfl,by rw[← hv];exact `_8,`aDc⟩
theorem Nc0(hu:`kl)(ha:`cr)(hb:`df)(hm:`Da .In b=`q:=by first|rfl|with_unfolding_all rfl):PTD X (`Db a [.In] [b] pos) (ob (o2 ga gb `al8)):=.mk λB δ=>(L80 (Ll0 hu `a4 `fc) hm).imp fun σ H Q hq123=>by
 obtain⟨t,en,h,k⟩:=hq123
 unfold ob o2 at h;cases e1:`c9 with
 | none=>rw[e1] at h;cases h
 | some x =>
  cases e2:`d3 with
  | none=>rw[e1,e2] at h;cases h
  | some y =>
   rw[e1,e2] at h;simp only[`f] at h;refine`uA;cases y<;>simp only[vc0] at h<;>try cases h
   rename_i ks ds;cases ks with
   | inl ks =>
    simp only at h;cases e3:yp0 x with
    | none=>rw[e3] at h;cases h
    | some q =>
     rw[e3] at h;simp only[`gH,`f,asB,`uP] at h;cases h;rw[jq0] at r2;obtain⟨p,xs,rfl,_,hp,hl,rr⟩:=r2;have:=p40 e3 r1;subst this;refine⟨p,_,rfl,`_7,_,rfl,?_⟩;rw[`LU];exact `aDd
   | inr ks =>
    simp only at h;cases e3:qg0 x with
    | none=>rw[e3] at h;cases h
    | some q =>
     rw[e3] at h;simp only[`gH,`f,asB,`uP] at h;cases h;rw[gt0] at r2;obtain⟨p,xs,rfl,_,hp,hl,rr⟩:=r2;obtain⟨b,rfl,hb⟩:=`aDe;refine⟨p,_,rfl,`_8,_,rfl,?_⟩;rw[`LU];exact `aDd
theorem kb0(i:Nat)(hu:`kl)(h:`cc)(hN:`b4:=by rfl)(hv:`dS:=by first|exact `a!|exact `dd|exact `de)(hd:`aJ:=by decide)(hcd:`dT:=by decide)
  (ha:∀v,`_s=(do
   let ov ← `_t
   let iv ← `_u
   `I'
   `I!
   `I?):=by intro _;rfl):PTG X `E6 (`x2 i g):=.mk λH₀ B₀ d δ pins s σ H v u Q I r hq124=>by
 obtain⟨δ',en,e1,k⟩:=hq124
 unfold putAt at e1;obtain⟨B,b1,b2,env,rv⟩:=`aK;cases e2:`EN with
 | none=>rw[e2] at e1;cases e1
 | some pr =>
  cases e3:`ar with
  | none=>rw[e2,e3] at e1;cases e1
  | some dk =>
   rw[e2,e3] at e1;simp only[`f] at e1;cases e4:`FC with
   | none=>rw[e4] at e1;cases e1
   | some q =>
    rw[e4] at e1;simp only[`f] at e1;split at e1
    ·rename_i hz
     cases e1;have hi:=X70 e2;obtain⟨a,J,hb,xs,hx,hl,rx⟩:=`hz;have hl:`_9=`am:=hl;refine `aDf;have:=p40 e4 r1;subst this;obtain⟨ys,hy,Y,O,U⟩:=`aDg;refine`aDh;have rr:Rps X.K H1 B `R! ys:=by
      unfold xg0;cases hk:`LV with
      | true=>rw[`bm,O hk];exact `aDi
      | false=>rw[`kn,U hk];exact `aDj
     rw[hy];have M:Env X.K (upd H1 a `aDk) B σ (`_'):=`Ba hi J `aDl;exact `_v
    ·cases e1
universe zz
universe DL
namespace DL
open Spec PyProof.Rows L2
section
variable{a:`H}{p:Pos}{ga:`cb}
theorem j80{sc scope:`cG}{elt iter tg:`H}{ifs:`bI}{N N':`g}{n:Nat}{caps:`k}{gi:`fZ}{idx:`k}{f:`aS}{gt:`gI}{ge:`cb}
  (ok:`qJ) (hidx:∀j∈idx,j<n) (hi:`hy)
  (hg:`iY) (ht:`uE) (he:`qF)
  (hc:`bL:=by rfl) (hsc:`fY:=by rfl) (hN:`uI:=by rfl) (hs:`eC:=by intro _;rfl) :
  `ay_:=ch0 hc hsc `uJ `f0 hi hg ht he hs
theorem Ux0{d:D}(h:`nY)(r:`ci):uc0 v=`b/\∀e u,`cm e=`b->Rp K H B e u->eqV v u=eqF d e:=by
 cases d<;>simp[`cm] at h
 ·rw[V6] at r;subst r
  refine`LW;cases e<;>simp[`cm] at he<;>simp only[V6,X7,j5,Y9] at ru<;>subst ru<;>rfl
 ·rw[X7] at r;subst r
  refine`LW;cases e<;>simp[`cm] at he<;>simp only[V6,X7,j5,Y9] at ru<;>subst ru<;>rfl
 ·rw[j5] at r;subst r
  refine`LW;cases e<;>simp[`cm] at he<;>simp only[V6,X7,j5,Y9] at ru<;>subst ru<;>rfl
 ·rw[Y9] at r;subst r
  refine`LW;cases e<;>simp[`cm] at he<;>simp only[V6,X7,j5,Y9] at ru<;>subst ru<;>rfl
theorem U90{d:D}(h:`nY)(r:`ci):∀{ds:`j} {xs:`K},`_!=`b->`a1->`J2/\inV v xs=ds.any λy=>eqF y d
 | [],_,_,rs=>by rw[n6] at rs;subst rs;exact`kQ
 | e::ds,_,ha,rs=>by
  rw[o6] at rs;obtain⟨x,t,rfl,r1,r2⟩:=rs;rw[`lP,`a?] at ha;obtain⟨i1,i2⟩:=U90 h r ha.2 r2;obtain⟨f1,f2⟩:=Ux0 ha.1 r1;refine⟨by rw[`lP,f1,i1];rfl,?_⟩;unfold inV at i2 ⊢;rw[`nO,`nO,f2 d v h r,i2]
theorem e00(neg:`aa):Op2 K (rIn K neg) (wm0 neg):=by
 intro H B x y dx dy d Q hb rx ry h k;have J:∀(ds:`j) (xs:`K),`a1->`cm dx=`b/\`_!=`b->d=.bl (xor neg (ds.any λy=>eqF y dx))->∀p,y=`fu->(`JY∨`X2)->rIn K neg x y H Q:=by
  intro ds xs rs hf hd p hp hq;obtain⟨f1,f2⟩:=U90 hf.1 rx hf.2 rs;refine⟨p,xs,hp,hq,(Ux0 hf.1 rx).1,f1,`K5⟩;rw[hd,X7,f2];cases neg<;>simp
 cases dy<;>simp only[wm0] at h<;>try cases h
 ·split at h
  ·rename_i hf
   have hd:=`_?;rw[V3] at ry;obtain⟨p,xs,e,q,rs⟩:=ry;exact J _ xs rs hf hd p e (`ZM)
  ·cases h
 ·split at h
  ·rename_i hf
   have hd:=`_?;rw[W4] at ry;obtain⟨p,xs,e,q,rs⟩:=ry;exact J _ xs rs hf hd p e (`ZL)
  ·cases h
universe zz
universe DL
namespace ZipL
open Spec PyProof.Rows
abbrev IsZ(h:`Q)(z TI TO a:`e)(f:`aa):Prop :=
 `hH z=`a { cls:=`bq `f!,dict:=`c,data:=`mb #[`sA a,`f9 f,`Sd,`z TI,`z TO],slots:=#[] }
section
variable{w:`P}{s:`v}
theorem alive{o:Obj}{Q:`aT Obj->`eL}(ho:`SD)(h:Q (`aj) s):`r `av A (`aDm a) Q E s:=by
 have h':Q (`C9) s:=by rw[ho];exact h
 exact λ_ _ _=>h'
theorem ak0{TI TO:`e}{f:`aa}{Q:`aa->`eL}(hz:`Bf)(ha:`Bg)
  (hQ:∀h',`aaa->`rz z `aE h'->Q `q `gV):`r `av A (`aj9) Q E s:=by
 unfold Builtin.SmallTypes.ownedTupleIsFree;refine A0 (C9 hz rfl (x:=`sA a) rfl ?_);show `r _ _ (`aDm ((a:Int).toNat)>>=_) _ _ _;rw[`bo];refine A0 (alive ha ?_);simp only[Option.isNone_some,`qu,`cU];refine A0 (C9 hz rfl (x:=`f9 f) rfl ?_);cases f with
 | true =>
  rw[`ai (show ¬((`Kd != `Kd)=`b) from B2)];exact A1 (hQ _ hz (Heap.SameBut.refl _ _))
 | false =>
  rw[`N (show (`wU `q != `Kd)=`b from rfl)];exact A0 (wpAny_setField_rec hz `aw λh3 J M=>A1 (hQ h3 J M))
theorem Rc0{TI TO a:`e}{f:`aa}{oa:Obj}{k1 k2:Nat}{xs ys:`aI}{x y:`E}{Q:`aq}(D:`i_)
  (hz:`Bf) (ha:`Bg) (hTI:`LX)
  (h1:`LY) (h2:`LZ) (hl1:`uT) (hl2:`uU) (hx:`Fj=`dE) (hy:ys[k2]?=`fk)
  (hQ:∀h',`aaa->`aDn->`aDo->`aab->`aDp ->
   `L_->Q `h9 `gV) :
  `r `av A `aDq (λfin s'=>∃v,fin=`Fc (`fj v)/\Q v s') E s:=by
 show `aDr;refine `aDs;show `aDt;refine `aDu;refine `aDv;show `aDw;refine A0 (ak0 hz ha λh₁ a2 J=>?_);simp only[`qu,`cU];refine `lL;simp only[`aDx,`Kl,`aDy];refine `L0;show `aDz;refine A0 (Ak0 `aac `aad hx λh₂ a3 M=>`gX);refine `gX;refine `L0;show `aDA;refine A0 (Ak0 `aDB `aDC hy λh₄ a1 O=>`gX);refine A1 `DC;refine A0 (wpAny_newTuple (hsz:=`St) ?_);have U:`aDD=`M:=by rw[O.1,M.1,J.1]
 have Z:IsZ h₄ z TI TO a `b:=`aae _ _ D.i2z.symm (`xB _ _ D.i1z.symm a2);have Y:∀c o,`Fi->`Sb->`Sc->`c3 c=`aj->h₄.get? c=`aj:=λc o c1 c3 c4 e=>`aae _ _ c4 (`xB _ _ c3 (`mN _ _ c1 e))
 refine A1 ⟨_,rfl,?_⟩;show Q (`z `aDD) _;have hq:=hQ (h₄.push { cls:=`eg,data:=`bP #[x,y] }) (A9 _ Z) ((a3.extBut `aae D.i12).at `aDE) (a1.at `aDE)
  (by rw[← U];exact `eM) (by rw[`Bd,U]) λc o c1 c3 c4 e=>A9 _ (Y c o c1 c3 c4 e)
 rw[U];exact hq
theorem Nk0{TI TO a:`e}{f:`aa}{oa:Obj}{k1 k2:Nat}{xs ys:`aI}{Q:`apl}(hh:`eD)(D:`i_)
  (hz:`Bf) (ha:`Bg) (hTI:`LX)
  (h1:`LY) (h2:`LZ) (hl1:`uT) (hl2:`uU) (hend:`aDF)
  (hE:∀h' e,`L_->`aDG) :
  `r `av A `aDq Q E s:=by
 show `aDr;refine `aDs;show `aDt;refine `aDu;refine `aDv;show `aDw;refine A0 (ak0 hz ha λh₁ U J=>?_);simp only[`qu,`cU];refine `lL;simp only[`aDx,`Kl,`aDy];refine `L0;show `aDz;cases hx:`Fj with
 | none =>
  refine A0 (`aDH hh `aac `aad hx λh₂ e M he=>?_);exact hE h₂ e (λc o c1 c3 _ x=>M _ _ c3 (`mN _ _ c1 x)) he
 | some x =>
  have hy:ys[k2]?=`c:=by rcases hend with h|h;rw[hx] at h;cases h;exact h
  refine A0 (Ak0 `aac `aad hx λh₂ Y M=>`gX);refine `gX;refine `L0;show `aDA;refine A0 (`aDH hh `aDB `aDC hy λh₄ e O he=>?_);exact hE h₄ e (λc o c1 c3 c4 x=>O _ _ c4 (`xB _ _ c3 (`mN _ _ c1 x))) he
theorem Wa0{TI TO a:`e}{f:`aa}{oa:Obj}{k1 k2:Nat}{xs ys:`aI}{x y:`E}{Q:`tY}(D:`i_)
  (hz:`Bf) (ha:`Bg) (hTI:`LX)
  (h1:`LY) (h2:`LZ) (hl1:`uT) (hl2:`uU) (hx:`Fj=`dE) (hy:ys[k2]?=`fk)
  (hQ:∀h',`aaa->`aDn->`aDo->`aab->`aDp ->
   `L_->`aDI) :
  `L1:=by
 have hT:`Bh := `aaf;unfold pyNext;exact A0 (Al0 (L6 (name:=`Bi) hT n9
  (E3 n9 hT `aDJ
   (Rc0 D hz ha hTI h1 h2 hl1 hl2 hx hy λh' a1 a3 a4 a5 a6 a7=>A1 (hQ h' a1 a3 a4 a5 a6 a7)) `aDK)))
theorem gm0{TI TO a:`e}{f:`aa}{oa:Obj}{k1 k2:Nat}{xs ys:`aI}{Q:`tY}(hh:`eD)(D:`i_)
  (hz:`Bf) (ha:`Bg) (hTI:`LX)
  (h1:`LY) (h2:`LZ) (hl1:`uT) (hl2:`uU) (hend:`aDF)
  (hQ:∀h',`L_->`aag):`L1:=by
 have hT:`Bh := `aaf;unfold pyNext;refine A0 (Al0 (L6 (name:=`Bi) hT n9
  (E3 n9 hT `aDJ (Nk0 hh D hz ha hTI h1 h2 hl1 hl2 hend λh' e hk he=>?_) `aDK)))
 obtain⟨o,ho,hc⟩:=he;refine `aDL;exact A1 (hQ _ hk)
universe zz
structure ZSt(h:`Q)(z TI TO i1 i2 l1 l2 S:`e)(xs ys:`aI)(i:Nat):Prop where
 own:(i=0/\IsZip h z TI TO `ay/\∃p q,`sq h TO p q)∨∃a f oa,IsZ h z TI TO a f/\`hI=`a oa/\a≠z/\a≠i1/\a≠i2/\a≠S
 hTI:`sq h TI `R? `Sa
 h1:`P9 i1 l1 i
 h2:`P9 i2 l2 i
 hl1:h.IsList l1 xs
 hl2:h.IsList l2 ys
structure ZLow(z TI TO i1 i2 l1 l2 S:`e):Prop where
 z:z<S
 TI:TI<S
 TO:TO<S
 i1:i1<S
 i2:i2<S
 l1:l1<S
 l2:l2<S
structure ZG(xs ys:`aI)(S:`e)(h:`Q)(as:`aU):Prop where
 rise:as.Pairwise (·<·)
 above:∀a∈as,S<a
 pairs:∀(j:Nat) (a:`e),`aki->∃x y,`DK=`dE/\`akh/\`sq h a x y
section
variable{w:`P}{s:`v}{TI TO S:`e}{xs:`aI}{h:`Q}
theorem ZG.there(g:`aDM)(ha:a∈as):a<`f6:=by
 obtain⟨j,hj⟩:=Am0.mp ha;obtain⟨_,_,_,_,e⟩:=`aDN;exact `dY
theorem ZSt.keep(x:`aDO)(L:`L2)(hk:∀b o,b≠S->`Ja):ZSt h' z TI TO i1 i2 l1 l2 S xs ys i:=by
 refine⟨?_,hk _ _ (B0 L.TI) x.hTI,x.h1.at λo e=>hk _ o (B0 L.i1) e,x.h2.at λo e=>hk _ o (B0 L.i2) e,x.hl1.at λo e=>hk _ o (B0 L.l1) e,x.hl2.at λo e=>hk _ o (B0 L.l2) e⟩;rcases x.own with⟨e,hz,p,q,hp⟩|⟨a,f,oa,hz,ha,n1,n2,n3,n4⟩
 ·exact `o ⟨e,`aDP,p,q,hk _ _ (B0 L.TO) hp⟩
 ·exact `n ⟨a,f,oa,`aDP,hk _ _ n4 ha,n1,n2,n3,n4⟩
theorem J80{x y:`E}{Q:`tY}(D:`i_)(st:`aDQ)(hS:S<`M)(hx:`oB)(hy:ys[i]?=`fk)
  (hQ:∀h',ZSt h' z TI TO i1 i2 l1 l2 S xs ys `dG->`aab->`aDR->`aDI) :
  `L1:=by
 obtain⟨o1,e1,_⟩:=id `Bj;obtain⟨o2,e2,_⟩:=id `Bk;rcases st.own with⟨rfl,hz,p,q,hp⟩|⟨a,f,oa,hz,ha,n1,n2,n3,n4⟩
 ·refine wpAny_pyNext_zip_item D hz `uV hp `Bj `Bk `L3 `L4 hx hy λh' a1 a2 a3 a4 a5 a6 hk=>hQ h' ⟨`n ⟨_,`q,_,a1,a5,C2 (A8 hz),C2 (A8 e1),C2 (A8 e2),C2 hS⟩,hk _ _ D.TIz D.TITO D.TIi1 D.TIi2 `uV,a3,a4,
   st.hl1.at λo e=>hk _ o D.l1z D.l1TO D.l1i1 D.l1i2 e,st.hl2.at λo e=>hk _ o D.l2z D.l2TO `Sg D.l2i2 e⟩ a5 hk
 ·refine Wa0 D hz ha `uV `Bj `Bk `L3 `L4 hx hy λh' a1 a3 a4 a5 a6 hk=>hQ h' ⟨`n ⟨a,`b,oa,a1,hk _ _ n1 n2 n3 ha,n1,n2,n3,n4⟩,hk _ _ D.TIz D.TIi1 D.TIi2 `uV,a3,a4,
   st.hl1.at λo e=>hk _ o D.l1z D.l1i1 D.l1i2 e,st.hl2.at λo e=>hk _ o D.l2z `Sg D.l2i2 e⟩ a5 `aDS
theorem Jc0{Q:`tY}(hh:`eD)(D:`i_)(st:`aDQ)(hend:`aDT)
  (hQ:∀h',`aDR->`aag):`L1:=by
 rcases st.own with⟨rfl,hz,p,q,hp⟩|⟨a,f,oa,hz,ha,n1,n2,n3,n4⟩
 ·exact wpAny_pyNext_zip_end hh D hz `uV hp `Bj `Bk `L3 `L4 hend hQ
 ·exact gm0 hh D hz ha `uV `Bj `Bk `L3 `L4 hend λh' hk=>hQ h' `aDS
universe zz
section
variable{w:`P}{s:`v}{R:`qd}{TI TO S lo:`e}{xs:`aI}{h₁:`Q}
theorem Qv0(hh:`eD)(D:`i_)(L:`L2)(hlo:`Bl)(hn:`qR)(res:`E)
  (hR:∀h' tk acc c as,(∀b o,b<lo->`YF->`rv)->`aah->`uW->`aai ->
   `aDU) :
  ∀(k i:Nat) (h:`Q) (tk c:Nat) (acc:`aI) (as:`aU),`xD - i=k->i<=`xD->`aDO->(∀b o,b<lo->`YF->`hR) ->
   `hH S=`aj?->`Si->`g1=i->`aDM ->
   `gZ `av A `aDV R `aaj:=by
 have b2:=hlo.1;have b1:lo<S:=`aak;have lk:∀(h h':`Q),`aDW->∀b o,b<lo->`Ja:=λh h' hk b o hb e =>
  hk b o (B0 (B6 hb hlo.1)) (B0 (B6 hb hlo.2.1)) (B0 (B6 hb hlo.2.2.1)) (B0 (B6 hb hlo.2.2.2)) e
 have U:∀(h h':`Q),`aDW->∀b o,S<=b->`Ja:=λh h' hk b o hb e =>
  hk b o (C2 (B6 L.z hb)) (C2 (B6 L.TO hb)) (C2 (B6 L.i1 hb)) (C2 (B6 L.i2 hb)) e
 intro k
 induction k with
 | zero =>
  intro i h tk c acc as hk hi Z M hS J O hG;have b0:`aDT:=by
   rcases `aDX `st `xC with q|q
   ·exact `o (Cw0 `h)
   ·exact `n (Cw0 `h)
  refine `aDY;rw[`aDZ];show `aD_;refine A0 (Jc0 (s:=`aaj) (A:=`bC) hh D Z b0 λh' he=>?_);refine A1 (hR h' tk acc c as (λb o h1 e=>lk h h' he b o h1 (M b o h1 e)) (U h h' he S _ `bj hS) `h ⟨hG.rise,`Fn,`aD0⟩ J);obtain⟨x,y,e1,e2,e3⟩:=`aD1;exact⟨x,y,e1,e2,U h h' he a _ (E9 (`Fn a (C5 hj))) e3⟩
 | succ k ih =>
  intro i h tk c acc as hk hi Z M hS J O hG;have a1:i<`xD:=`C
  have a6:i<`st:=B6 a1 (Nat.min_le_left ..);have a5:i<`xC:=B6 a1 (Bj0 ..);have a7:acc.size=i:=by rw[← `I8,J,`F,O]
  have a2:S<`f6:=A8 hS;refine `aDY;rw[`aDZ];show `aD_;refine A0 (J80 (s:=`aaj) D Z a2 (c9 a6) (c9 a5) λh' a8 ht Y=>?_);dsimp only at ht Y ⊢;have a4:=U h h' Y S _ `bj hS;have up:∀b o,b≠S->`rv->(h'.update S (`jx `aD2)).get? b=`aj:=`_Z
  show `r _ `bC (`qQ S `aD2>>=_) _ _ _;refine `lL;refine L7 a4 rfl (A1 ⟨`aal,ih `dG _ tk _ (`aD3) `aD4 `h a1 (a8.keep L up)
   (λb o h1 e=>up b o (B0 (D8 h1 b1)) (lk h h' Y b o h1 (M b o h1 e))) (E6 _ a4 rfl) (by rw[Array.toList_push,J,`aN];rfl) (by rw[`Z,O];rfl) ⟨?_,?_,?_⟩⟩) (by rw[a7];omega) (by show (`aD3).size<=`L+1;rw[Array.size_push,a7];omega)
  ·refine List.pairwise_append.mpr ⟨hG.rise,List.pairwise_singleton _ _,λa ha b hb=>?_⟩
   rw[`UX];exact hG.there ha
  ·intro a ha
   rcases `dl ha with ha|ha
   ·exact `aam
   ·rw[`fC ha];exact a2
  ·intro j b hj
   rcases Nat.lt_trichotomy j `g1 with h1|h1|h1
   ·rw[`hT h1] at hj
    obtain⟨x',y',e1,e2,e3⟩:=`akb j b hj;have hb:=`Fn b (C5 hj);exact⟨x',y',e1,e2,up b _ (C2 hb) (U h h' Y b _ (E9 hb) e3)⟩
   ·subst h1
    have hb:`f6=b:=`At
    subst hb;exact⟨_,_,by rw[O];exact c9 a6,by rw[O];exact c9 a5,up _ _ (C2 a2) ht⟩
   ·have a3:`aD4[j]?=`c:=`aiZ `Bm
    rw[a3] at hj;cases hj
universe zz
theorem ir0:`rR `su "__len__"=`wp:=by rw[`tW,`tX];kernel_rfl
theorem kr0:`rR `su `R7=`wp:=by rw[`tW,`tX];kernel_rfl
section
variable{w:`P}{s:`v}{TI TO lo:`e}{xs:`aI}
noncomputable def M20(xs ys:`aI)(lo:`e)(s:`v)(h':`Q)(as:`aU):Prop :=
 `aan/\`uW/\ZG xs ys `M h' as
theorem Zb0{Q:`ac->`eL}(hh:`eD)(D:`i_)(hlo:`Bl)
  (st:`aD5) (hn:`qR) (L:`aD6)
  (hT:`Bh) (hI:`L5)
  (hQ:∀h' tk as,`aD7->`aD8->Q (`pi) `pj):`r `av A (collect `gn) Q E s:=by
 have O:`M≠z:=C2 L.z;obtain⟨f0,hI⟩:=hI;unfold collect;refine A0 (wpAny_runValue (S4 F.entry_proto_collect ?_));rw[`Fl F.plain_proto_collect _];show `r _ `bC (`YE>>=λl=>`wr (`cK "list.__iadd__" ⟨[l,`ph],[]⟩)) _ _ s;refine A0 (E4 ?_);refine A1 ⟨X1 `aD9 _,S4 F.entry_list_iadd ?_⟩;rw[`Fl `aD9 _];have Z:(`Sk).get? `M=`a `D4:=`eM;have Y:=A9 `D4 hI;have J:Shared.TypeIs `aD' `gn `f! := ⟨_,Y,rfl⟩;show `r _ `bC (`xy `h9 `gn `h9) _ _ _;unfold Builtin.List.listExtendWith;refine A0 (P3 J ?_);have h1:`xE `h9 `gn=`q:=`aD!
 have h2:`aD?:=`X
 have h3:`aEa:=`X
 simp only[h1,h2,h3,`J_,`qu,`cU];refine A0 (`aEb (s:=`aD') Y ?_);refine `Se;unfold Builtin.List.listLengthHint;refine A0 (D6 J ir0 ?_);show `aEc;refine A0 (D6 J kr0 ?_);refine `gX;show `r _ `bC (`aEd>>=λ_=>`aEe `h9>>=λ_ =>
  `wr (`cK `aka ⟨[`fp,`ph,`fp],[]⟩)) _ _ _
 refine `aEf;refine `lL;show `r _ `bC (`qQ `M (`Fm `ay)>>=λ_=>`qQ `M `Sl) _ _ _;refine A0 (L7 Z rfl ?_);have U:=E6 `L6 Z rfl;refine L7 U rfl ?_;have a2:=E6 `L7 U rfl;have oth:∀b o,b≠`M->`gR ->
   (((`Sk).update `M `L6).update `M `L7).get? b=`aj :=
  λb o hb e=>`sp (`sp (`oD))
 refine A1 ⟨`aal,Qv0 (s:=s) (lo:=lo) (h₁:=`aE) hh D L hlo hn _ (λh' tk a3 c as hk M hl hG a1=>?_) _ 0 _ `a8 _ #[] [] rfl `qr
  ((st _ O (C2 L.i1) (C2 L.i2)).keep L oth) (λb o hb e=>oth b o `WQ e) a2 rfl rfl `aEg⟩
 show `r _ A (load `M>>=_) _ _ _;refine A0 (`arp M ?_);refine `gX;have:=hQ h' tk as ⟨hk,hl,hG⟩ (A8 M);rw[← a1] at this;exact `A
universe zz
section
variable{w:`P}{s:`v}{TI TO lo:`e}{xs:`aI}
theorem mz0{Q₁:`aq}(hh:`eD)(D:`i_)(hlo:`Bl)
  (st:`aD5) (hn:`qR) (L:`aD6)
  (hT:`Bh) (hI:`L5)
  (h:∀h' tk as,`aD7->`aD8->Q₁ (`auN) { s with heap:=`Ya `aEh,toks:=tk }) :
  `gZ `av A (`oQ (`cK `aao) `aap) (wants Q₁ E) s:=by
 refine codeAny_of_tree ?_;show `r _ `bC (do checkBuiltinCall `aao `aap;`wr (`cK `aao `aap)) _ _ s;refine A0 (`aEi (F.newCall_tuple_1 _) (A1 ⟨X1 `aEj _,S4 F.entry_tuple_new ?_⟩));rw[`Fl `aEj _];have U:=sub_tuple_self;have O:=init_tuple_lookup;have Y:=madeHere_tuple;have J:`aEk:=`LS
 wp_walk using P3 hT,Zb0 (lo:=lo) J D hlo st hn L hT hI
 intro h' tk as hz M;show `r _ _ (`aid `Fo>>=λv=>ret v) _ _ _;unfold Builtin.Tuple.tupleExact;refine A0 (E4 ?_ (by show (`pi).toArray.size<=`L;rw[`a9,`F,`LF];exact hn));exact A1 (h h' tk as hz M)
theorem T40{Q:`aq}(hh:`eD)(hl1:`uT)(hl2:`uU)(hn:`qR)
  (h:∀(h':`Q) (tk:Nat) (as:`aU) (t:`e),`LR->`uW->(∀a∈as,`zB/\a<t)->`lR->`M<=t ->
   `aEl->`fl t=`a `aEh->`aEm) :
  `r `av A `aEn (λv s1=>`r `av A (`ep `sH [v]) Q E s1) E s:=by
 have a1:l1<`M:=`aEo
 have a2:l2<`M:=`aEp
 refine `aEq hl1 hl2 λh1 hz hTI O a3 U Y hk=>?_
 have J:`aEr:=`aEs
 have M:`aEt:=`aEu
 have H:`aEv:=λk hk=>by rw[Y];exact D30 hk _
 refine Ai0 (Q₁:=λobj s₁=>s₁.TypeIs obj `c2/\Q obj `eq) F.called_tuple (F.typeCall_tuple_1 _) F.entry_object_init
  (mz0 (lo:=`M) (xs:=xs) (ys:=ys) (`LS) (`aEw a1 a2) `aEx (λS n1 n2 n3=>⟨`o ⟨rfl,hz,_,_,O⟩,hTI,a3,U,J,M⟩) hn
   `aEy
   `aaf `aaq λh' tk as ze Z=>⟨`aEz,?_⟩) λobj s₁ h₁=>?_
 ·obtain⟨k1,k2,g⟩:=ze
  refine h (`Ya _) tk as `rW (λb o e=>A9 _ (k1 b o `ov (hk b o e))) k2 (λa ha=>⟨?_,g.there ha⟩) (g.rise.imp λh=>B0 h) ?_ (`aD0) (`eM)
  ·exact E9 (D8 `sw (g.above a ha))
  ·exact E9 (D8 `sw Z)
  ·obtain⟨x,y,e1,e2,e3⟩:=`aDN
   exact⟨x,y,e1,e2,A9 _ e3⟩
 ·exact⟨h₁.1,`aEA,object_init_meets F.called_tuple.init.lookup F.called_tuple.made `p `i4 w `bC _ `eq ⟨h₁.1,rfl,h₁.2⟩⟩
universe zz
universe ZipL
namespace L2
open Spec PyProof.Rows
noncomputable def wr0(H:Hp):`qS->Hp
 | []=>H
 | p::l=>upd `xF p.1 p.2
theorem q40{b:`e}:∀{l:`qS},(∀p∈l,p.1≠b)->`Sn=H b
 | [],_=>rfl
 | p::l,h=>by
  show `aEB=_;rw[d9 (B4 (h p A6)),q40 `aEC]
theorem qu0{b:`e}{u:HO}:∀{l:`qS},`Sn=`bi->(∃p∈l,p.1=b/\p.2=u)∨`zu
 | [],e=>`n e
 | p::l,e=>by
  by_cases h:b=p.1
  ·subst h
   have e':upd `xF p.1 p.2 p.1=`bi:=e;rw[j9] at e';exact `o ⟨p,A6,rfl,A3 e'⟩
  ·have e':`aEB=`bi:=e
   rw[d9 h] at e';rcases qu0 e' with⟨q,hq,x⟩|x
   ·exact `o ⟨q,A4 _ hq,x⟩
   ·exact `nC
theorem qi0:∀{l:`qS},(`er `Fp).Nodup->∀p∈l,wr0 H l p.1=`rs
 | [],_,p,h=>nomatch h
 | q::l,n,p,h=>by
  rw[`T,`aar] at n;show upd `xF q.1 q.2 p.1=_;rcases `yR with rfl|h
  ·rw[j9]
  ·rw[d9 (λz=>n.1 (by rw[← z];exact P8 h)),qi0 n.2 p h]
section
variable{s:`v}
theorem Inv.laidL{l:`qS}{t':Nat}(I:`B)(k:`IZ)
  (hl:∀p∈l,`aED/\∃xs,`aEE):`aEF:=by
 have J:`aEG:=λb hb=>q40 λp hp z=>by
  have:=(`L8).1;rw[z] at this;exact `aEH
 refine `j5 ⟨`Wh,`Wi,`aEI,`Wj,`aEJ,
  `aEK,`aEL⟩ `IY
 rcases qu0 e with⟨p,hp,rfl,rfl⟩|e'
 ·obtain⟨_,xs,ex,ok⟩:=`L8
  rw[ex];exact ok
 ·exact`aEM
universe zz
noncomputable def jo0(X:Cx)(f1 f2:`E)(r:`mm):Prop :=
 ∀(pins:`aD) (s:`v) (σ:St) (H:Hp) (xs:`K) (us:`ac) (Q:VK),`B->`da->`Jj ->
  `r `an X.A (`ep f2 us) (λv s1=>`r `an X.A (`ep f1 [v]) `eT `aG s1) `aG s
section
variable{p:Pos}{x1:Str}{T1 T2:`cH}{t:TA}
theorem em0(hc:`aEN)(hg1:Gl X x1)(hg2:Gl X x2)(hm1:`aEO)(hm2:`aEP)(hv1:`aEQ)(hv2:`aER)(ha:`uj)
  (hn1:`aES := by decide) (hd1:`aET:=by decide) (hn2:`aEU := by decide) (hd2:`aEV:=by decide)
  (e1:`aEW:=by rfl) (h1:`kj:=by rfl)
  (he:`d?:=by rfl) (hpl:`aEX:=by rfl) :
  PE X `aEY (tCB r t):=by
 intro pins s σ H Q I h;refine L5 (v50 I hg1 hm1 hv1 ?_ hn1 hd1);refine `aC9;rw[e1];show `r _ _ (`zH (`akp::`EG)) _ _ s;refine U1 ?_;refine L5 (v50 I hg2 hm2 hv2 ?_ hn2 hd2);refine G0 (thn (ha `mL `i s σ H _ I h) λus s1 hq125=>?_) he hpl;obtain⟨vs,H1,I1,r1,q1⟩:=hq125;exact thn (`ah8) `aC'
universe zz
universe L2
namespace DL
open Spec PyProof.Rows L2
section
variable{p:Pos}{x1:Str}{T1 T2:`cH}{f:`J}
theorem Tm0(hc:`aEN)(hf:`KQ)(hm1:`aEO)(hm2:`aEP)(hv1:`aEQ)(hv2:`aER)(ha:`nU)(hg1:Gl X x1:=by rfl)(hg2:Gl X x2:=by rfl)
  (hn1:`aES := by decide) (hd1:`aET:=by decide) (hn2:`aEU := by decide) (hd2:`aEV:=by decide)
  (e1:`aEW:=by rfl) (h1:`kj:=by rfl)
  (he:`d?:=by rfl) (hpl:`aEX:=by rfl) :
  PD X `aEY `Et :=
 .mk λB δ=>(em0 hc hg1 hg2 hm1 hm2 hv1 hv2 `a4 hn1 hd1 hn2 hd2 e1 h1 he hpl).imp `Zg
universe zz
noncomputable def J4:`aU->`k3->`qS
 | `Bn,`ko=>(a,`R4)::`Sr
 | _,_=>[]
theorem qt0:∀{as:`aU} {ps:`k3},`g1=`ax->`aEZ=as
 | [],[],_=>rfl
 | [],`db,h=>`hv
 | `db,[],h=>`hv
 | `Bn,`ko,h=>by
  show a::`aEZ=_;rw[qt0 `hk]
theorem l80:∀{as:`aU} {ps:`k3} {q:`Sm},q∈`Sr->∃(j:Nat) (p:V×V),as[j]?=`a q.1/\`aE_/\q.2=`R4
 | [],_,q,h=>`L9
 | `db,[],q,h=>`L9
 | `Bn,`ko,q,h=>by
  rcases `yR with rfl|h
  ·exact⟨0,p,rfl,rfl,rfl⟩
  ·obtain⟨j,p',h1,h2,h3⟩:=l80 h
   exact⟨j+1,p',`rh,`JG,h3⟩
noncomputable def Pf0(K:`y):`mm:=λvs H Q=>∃q1 q2 xs ys,`aE0/\`aE1/\`aE2 /\
 ∀(t:`e) (as:`aU),`Bo->`lR->`L'->`Bp->`aE3->Q `kS (wr0 H ((t,`t `xG)::`aas))
theorem mw0:∀as:`aU,`bt `xG (`pi)
 | []=>`O
 | `Bn=>`ah rfl (mw0 as)
theorem fq0(hc:`bL:=by rfl):jo0 X `sH `su (Pf0 X.K):=by
 intro pins s σ H vs us Q I r h;obtain⟨q1,q2,xs,ys,rfl,h1,h2,k⟩:=h;cases r with
 | cons r1 r =>
  cases r with
  | cons r2 r =>
   cases r;obtain rfl:=r1;obtain rfl:=r2;obtain⟨us1,v1,p1,z1⟩:=`ek h1;obtain⟨us2,v2,p2,z2⟩:=`ek h2;have l1:=`_K;have l2:=`_L;refine ZipL.T40 `hs `qH `K3 (`_q) λh' tk as t hk hl ha M ht hp gt=>?_
   rw[`a9,`a9] at hl;have O:`Bo:=`aE4
   refine⟨`rO,_,I.laidL (t':=tk) hk λp J=>?_,rfl,`aE5⟩;rcases `bZ J with rfl|J
   ·refine⟨ht,_,rfl,?_,`pi,mw0 as,⟨_,gt,rfl,_,rfl,rfl⟩⟩
    rw[`F,hl];omega
   ·obtain⟨j,⟨x,y⟩,e1,e2,e3⟩:=l80 J
    obtain⟨u,w,f1,f2,f3⟩:=`aE6;have hz:=D60.mp e2;obtain⟨u',g1,g2⟩:=`aE7;obtain⟨w',g3,g4⟩:=`aE8;have eu:u'=u:=by
     have:`aE9:=`aE'
     rw[f1] at this;exact`Bq
    have ew:w'=w:=by
     have:`aE!:=`aE?
     rw[f2] at this;exact`Bq
    subst eu;subst ew;exact⟨`aFa,_,e3,`uX,[u',w'],`aFb,`aFc⟩
theorem mo0:∀{ds es:`j} {xs ys:`K} {as:`aU},`a1->`aw1->`Bo->(∀p∈`aas,`rm=`rs/\¬B p.1) ->
  Rps K H B (`ajT `aFd) `xG
 | [],es,xs,ys,as,r1,r2,hl,h=>by
  rw[n6] at r1;subst r1;simp at hl;subst hl;simp[n6]
 | `as,[],xs,ys,as,r1,r2,hl,h=>by
  rw[n6] at r2;subst r2;simp at hl;subst hl;simp[n6]
 | `as,`Dg,xs,ys,as,r1,r2,hl,h=>by
  rw[o6] at r1 r2;obtain⟨x,xs',rfl,a1,a2⟩:=r1;obtain⟨y,J,rfl,b1,b2⟩:=r2;cases as with
  | nil=>simp at hl
  | cons a as =>
   have h0:=h (a,`aks) A6;rw[`dB,`T,`T,o6];refine⟨_,_,rfl,?_,mo0 a2 b2 `Rg λp hp=>h p (A4 _ hp)⟩;rw[V3];refine⟨a,`Fr,rfl,⟨h0.2,h0.1⟩,?_⟩;rw[o6];refine⟨_,_,rfl,a1,?_⟩;rw[o6];exact⟨_,_,rfl,b1,`f_⟩
theorem Yy0:∀{as:`aU} {zs:`k3} {p:`Sm},p∈J4 as zs->∃xs,p.2=`ei
 | [],_,_,h=>`L9
 | `db,[],_,h=>`L9
 | `Bn,z::zs,p,h=>by
  unfold J4 at h;rcases `yR with rfl|h
  ·exact`ae
  ·exact Yy0 h
theorem Yp0{t b:`e}{o:HO}{zs:`k3}{ob:Obj}(ho:`axp)(h:wr0 H ((t,o)::J4 as zs) b=`aFe):H b=`aFe:=by
 rcases qu0 h with⟨p,hp,_,e⟩|h
 ·rcases `bZ hp with rfl|hp
  ·exact `I e (ho _ _)
  ·obtain⟨ys,e'⟩:=Yy0 hp
   rw[e] at e';cases e'
 ·exact h
theorem S30:FnR K (Pf0 K) Wx0:=by
 intro H B xs ds d Q bad r h k;unfold Wx0 at h;split at h<;>try cases h
 rename_i ds es;rw[o6] at r;obtain⟨x,r',rfl,r1,r⟩:=r;rw[o6] at r;obtain⟨y,r',rfl,r2,r⟩:=r;rw[n6] at r;subst r;rw[W4] at r1 r2;obtain⟨q1,us,rfl,s1,t1⟩:=r1;obtain⟨q2,ws,rfl,s2,t2⟩:=r2;refine⟨q1,q2,us,ws,rfl,s1.to,s2.to,λt as hl M ht ft fa=>?_⟩;have J:(`aFf)=t::as:=`aFg
 have hN:(`aFf).Nodup:=by rw[J];exact `FZ ⟨ht,M⟩
 have fr:∀p∈(`Fs),`rm=`c:=λp hp=>by
  have:p.1∈t::as:=`aFh
  rcases `bZ `A with e|e
  ·rw[e];exact ft
  ·exact fa _ e
 have sm:`c8 H (wr0 H (`Fs)):=⟨λb u e=>by
  rw[q40 λp hp z=>by rw[← z,`aat] at e;cases e];exact e,`aFi⟩
 have nb:∀p∈(`Fs),¬B p.1:=λp hp z=>bad _ z (`aat)
 refine k _ _ sm ?_;rw[V3];refine⟨t,`akq,rfl,⟨nb _ A6,`aFj⟩,mo0 (t1.same sm) (t2.same sm) hl λp hp=>⟨`aFk,nb p (A4 _ hp)⟩⟩
universe DL
namespace L2
open Spec PyProof.Rows
section
variable{s:`v}
theorem Inv.turnedL(I:`B)(hf:∀b∈fp,`Di)(k:`aFl):`Wv:=by
 have J:∀b u,`zu->b∉fp:=λb u e z=>by rw[(hf b z).1] at e;cases e
 refine `IW (g':=`t2) (d':=`IX) (ch:=fp) (λb hb=>⟨(`oC).2.2.2.1,(`oC).2.1,(`oC).2.2.2.2.1,(`oC).2.2.2.2.2⟩) (λb o _ _ hc e _=>`aau) (λb o _ _ hc e _=>⟨o.slots,`aau⟩) `aqh
  (λb o hc e=>⟨o,`aau⟩) (`Wx) (λ_ _ _ e=>e) `aqi (λm hm=>?_) (`IY) `iI
 ·obtain⟨o,es,ep,ho,r⟩:=hm
  exact⟨o,es,ep,k _ o (λz=>(hf _ z).2.1 rfl) ho,r⟩
 ·refine`aqj
  rcases hc with z|z
  ·rw[z];exact J b u e
  ·exact J c _ z
theorem Inv.turnedNew{t':Nat}{x y:V}{w:`E}(I:`B)(hf:∀b∈fp,`Di)(rx:`gW)(ry:`R1)(hlt:∀b∈fp,b<`M)
  (hob:`X?=`a `akt) (k:`aFl) :
  Inv X `i σ `aFm `ou/\∀b∈fp,`aFn:=by
 have ne:∀b∈fp,b≠`M:=λb hb=>B0 (hlt b hb)
 have fr:∀b∈fp,`aFn:=λb hb=>by rw[d9 (ne b hb)];exact(`oC).1
 have I1:Inv X `i σ `aFm `aFo :=
  `j' (`rD) `bj ⟨`uX,[u,w],`ah rx (`ah ry `O),`V_⟩
 refine⟨Inv.turnedL (s:=`aFo) (t':=t') (fp:=fp) I1 (λb hb=>⟨fr b hb,(`oC).2⟩) λb o hb e=>?_,fr⟩;rcases Heap.get?_push_cases e with⟨rfl,rfl⟩|e
 ·exact hob
 ·exact k b o hb e
universe zz
noncomputable def Ite(K:`y)(a:`e):It :=
 ⟨`arq,
   λi H v H'=>∃t x,v=`rO/\`Bp/\`aFp/\`arr,
   `ars⟩
theorem T50{P:`ao}{w:`P}{x1}{e:`e}(hei:e≠it):`oz P w K `aFq (Ite K a) `xH e
  (λi h=>`aFr/\`arw) where
 mem:=`aW
 obj:=λi h st c hc=>by
  obtain⟨⟨old,he⟩,⟨o1,e1,c1,d1⟩⟩:=st;simp only[`ff,`hA,`hB] at hc;rcases hc with rfl|rfl
  ·exact`aFs
  ·exact`aFt
 keep:=λi h h' st k=>by
  obtain⟨⟨old,he⟩,h1⟩:=st;exact⟨`aFu,h1.at `aFv⟩
 item:=by
  intro X hP hw hK hc i pins s σ H E I hf st hg;subst hP hw hK;obtain⟨⟨old,he⟩,h1⟩:=st;obtain⟨xs,x,hq,hx⟩:=hg;obtain⟨us,rv,p1,z1⟩:=`gE;obtain⟨u,hu,ru⟩:=`Jc;refine wpAny_pyNext_enum_item he h1 `qH (x:=u) `W6 hei λh' a1 a2 a3 a4 hk=>?_
  refine⟨_,rfl,D70 (s:=`Ki) a1 λJ b1 hs=>?_⟩;have le:=A8 he;obtain⟨o1,e1,_⟩:=id h1;have l1:=A8 e1;obtain⟨I1,fr⟩:=`aFw (h':=J) (t':=`wt) (fp:=`xH) (x:=`sx) (u:=`d i `a8) hf `ae ru (λc hc=>by
   simp only[`ff,`hA,`hB] at hc;rcases hc with rfl|rfl<;>assumption) `aFx (λc o hc x=>by
   simp only[`ff,`hA,`hB,`Be] at hc;exact`aFy)
  exact⟨`fp,_,I1,rfl,⟨_,x,rfl,`Dx,rfl,`arA⟩,⟨`aFz,a2.at `aFA⟩,fr⟩
 done:=by
  intro X hP hw hK hc i pins s σ H E I hf st hg;subst hP hw hK;obtain⟨⟨old,he⟩,h1⟩:=st;obtain⟨xs,hq,M⟩:=hg;obtain⟨us,rv,p1,z1⟩:=`gE;have l1:=`mI;refine wpAny_pyNext_enum_end `hs he h1 `qH `j8 `aFB
  simp only[`ff,`hA,`hB,`Be] at hc;exact `aFC
 self:=λ_ _ _ _ _ st h=>by
  obtain⟨⟨old,he⟩,_⟩:=st;exact o0 he h
theorem e50:`f7 `jc=`a (`Fz):=`aP
noncomputable def Jo0(K:`y)(ta:TA):TI:=fun σ H R=>ta σ H λvs H1=>∃a,vs=`eU/\`arG/\R (Ite K a) H1
theorem On0{a:`H}{ta:TA}{p pos:Pos}(hg:`L!)(hm:`L?)(ha:`W9)(hs:`t6:=by rfl) :
  PI X `Ma `Mb (Jo0 X.K ta):=by
 intro pins s σ H R I h;refine Call_ (v50 I hg hm e50 (G0 (thn `rN λus s1 hq126=>?_) hs rfl));obtain⟨vs,H1,I1,r1,q1⟩:=hq126;obtain⟨qa,e,⟨xs,h1⟩,q⟩:=q1;subst e;cases r1 with
 | cons r rr =>
  cases rr;obtain rfl:=r;obtain⟨us1,v1,p1,z1⟩:=I1.list h1;refine call_enumerate_list `qH λh' hz J M hk=>?_
  refine `aFD;refine⟨_,_,_,_,H1,rfl,`aFE,T50 `aFF,⟨`aaq,J⟩,`gD,q⟩;simp only[`ff,`hA,`hB] at hb;rcases hb with rfl|rfl
  ·exact `aFG
  ·exact `t5
universe L2
namespace DL
open Spec PyProof.Rows L2
section
variable{a:`H}{p:Pos}
theorem Yv0{t:`e}{x y:V}{d e:D}(hn:¬B t)(ht:H t=`a `Su)(r1:`w8)(r2:Rp K H B e y):Rp K H B (`t [d,e]) `kS:=by
 rw[V3];refine⟨t,`Fr,rfl,⟨hn,ht⟩,?_⟩;rw[o6];refine⟨_,_,rfl,r1,?_⟩;rw[o6];exact⟨_,_,rfl,r2,`f_⟩
theorem Sj0(hm:`L?)(ha:`Zv)(hg:`L! := by rfl)(hs:`t6:=by rfl) :
  PID X `Ma `Mb (iv0 gA):=.mk λB δ=>`qE (On0 hg hm `a4 hs) fun σ H R hq127=>by
 obtain⟨items,en,e1,k⟩:=hq127
 unfold iv0 at e1;cases e2:`b! with
 | none=>rw[e2] at e1;cases e1
 | some ds =>
  rw[e2] at e1;simp only[`f] at e1;unfold bq0 at e1;split at e1<;>try cases e1
  rename_i ds;refine`KW;rw[o6] at r;obtain⟨x,t,rfl,r1,r⟩:=r;rw[n6] at r;subst r;rw[W4] at r1;obtain⟨q1,us,rfl,s1,t1⟩:=r1;have J:`aFH:=`aFI
  refine`aFJ
  ·rw[J] at hi
   exact`aFK
  ·obtain⟨t,x,rfl,ht,rfl,hx⟩:=y
   rw[J,`Sw] at hi;obtain⟨x',e4,rx⟩:=`aFL;have ex:=`aFM;rw[e4] at ex;cases ex;refine`aFN;exact `aFO
  ·rw[J] at hi
   exact`aFP
universe zz
section
mutual
theorem Xb0(hB:`aFQ):∀(d:D) (v:V),`LK->Rp K H B' d v->`ci
 | `u,v,_,r=>by rw[V6] at r ⊢;exact r
 | `bA,v,_,r=>by rw[X7] at r ⊢;exact r
 | `b?,v,_,r=>by rw[j5] at r ⊢;exact r
 | `br,v,_,r=>by rw[Y9] at r ⊢;exact r
 | `bK,v,h,_=>by unfold tree at h;cases h
 | `nV,v,h,_=>by unfold tree at h;cases h
 | `nW,v,h,_=>by unfold tree at h;cases h
 | `b0,v,h,r=>by
  unfold tree at h;rw[V3] at r ⊢;obtain⟨a,xs,rfl,q,rs⟩:=r;refine⟨a,xs,rfl,?_,bc0 hB ds xs h rs⟩;obtain⟨n,q⟩:=q;refine⟨`o9,q⟩;exact(hB a z).elim n λz=>z _ q
theorem bc0(hB:`aFQ):∀(ds:`j) (vs:`K),`_V=`b->Rps K H B' ds vs->`KR
 | [],vs,_,r=>`aFR
 | `as,vs,h,r=>by
  unfold trees at h;rw[`a?] at h;rw[o6] at r ⊢;obtain⟨x,t,rfl,r1,r2⟩:=r;exact⟨x,t,rfl,Xb0 hB d x h.1 r1,bc0 hB ds t h.2 r2⟩
end
universe zz
theorem ro0{g:GE}(h:`cc):PD X e (yh0 g):=.mk λB δ pins s σ H Q I hq128=>by
 obtain⟨d,en,hq,k⟩:=hq128
 obtain⟨B',c1,c2,J⟩:=`xu;unfold yh0 at hq;cases e1:`o? with
 | none=>rw[e1] at hq;cases hq
 | some x =>
  rw[e1] at hq
  by_cases hf:`jw x=`b
  ·simp only[`f,`uN] at hq
   cases hq;refine h B' `o! `i s σ H Q I ⟨_,J,e1,λv H' s' r=>k v H' s' (Xb0 (`hZ) _ _ hf r)⟩;rcases c2 a z with q|⟨i,d',h1,h2⟩
   ·exact `nE
   ·obtain⟨o,h3,a',e4,_,ro⟩:=`w? en.all h1
    rw[h2] at h3;cases h3;cases e4;exact `n λys z=>(ro.live.same s').nt ys z
  ·simp only[`f,`Lr] at hq
   cases hq
universe DL
namespace L2
open Spec PyProof.Rows
theorem Vd0:MtR X "str.startswith" `aFS:=by
 intro pins s σ H x xs v us Q I rx rs h;obtain⟨a,b,rfl,rfl,q⟩:=h;obtain⟨t,rfl⟩:=rx;cases rs with
 | cons r rr =>
  cases rr;obtain⟨u,rfl⟩:=r;exact SC.startswith ⟨`bA,H,I,rfl,q⟩
universe L2
namespace DL
open Spec PyProof.Rows L2
section
variable{name:`Fu}{id:`cH}{r:`gG}{f:`uS}
noncomputable def MfR(K:`y)(r:`gG)(f:`uS):Prop:=∀(H:Hp) (B:BS) (dx:D) (xs:`K) (ds:`j) (d:D) (Q:VK),`qD->`a1->f dx ds=`bd->(`AE)->∃a,dx=`g5/\r (`g5) xs H Q
theorem Ra0(slot:Slot `iP `el id)(hty:`Yc)(hm:`Yd)(hf:MfR X.K r f)(hstr:∀d ds e,f d ds=`a e->`aFT)(ho:`ZN)(ha:`AS)(hbase:`Ye:=by rfl)
  (hfew:(`nX
  &&`K6)=`b:=by rfl)
  (hline:`eF:=by rfl) (hs:`fd:=by rfl) (hplain:`lV:=by rfl) :
  PD X (`aR `Yf [e] [] `b_) (tz0 g gA f):=.mk λB δ =>
 (rc0 `azv slot hty hm (ho B δ) `a4 `e' `iQ `e! hs `ka).imp fun σ H Q hq129=>by
  obtain⟨d,en,h,k⟩:=hq129
  unfold tz0 at h;cases e1:`ar with
  | none=>rw[e1] at h;cases h
  | some x =>
   cases e2:`b! with
   | none=>rw[e1,e2] at h;cases h
   | some ds =>
    rw[e1,e2] at h;simp only[`f] at h;obtain⟨a,rfl⟩:=hstr x ds d h;refine`ZO;rw[Y9] at r1;subst r1;refine`azw;obtain⟨a',e',q⟩:=hf H2 B (`g5) vs ds d Q `Y! r2 h λv H' s' r'=>k v H' (`E! s') r'
    cases e';exact q
theorem Na0{y:`Fu}(r:Rps K H B [`nT] xs):xs=[`nT]:=by
 rw[o6] at r;obtain⟨x,t,rfl,r1,r2⟩:=r;rw[n6] at r2;rw[Y9] at r1;rw[r1,r2]
theorem S00:MfR K `aFS tm0:=by
 intro H B dx xs ds d Q bad r h k;unfold tm0 at h;split at h<;>try cases h
 exact⟨_,rfl,_,_,rfl,Na0 r,`RE⟩
theorem W80(d:D)(ds:`j)(e:D)(h:tm0 d ds=`a e):`aFT:=by
 unfold tm0 at h;split at h<;>try cases h
 exact`ae
theorem eo0{st:`bw}:PSD X st m30:=.mk λH₀ B₀ δ pins s σ H D I hq130=>by obtain⟨r,en,hq,k⟩:=hq130;unfold m30 at hq;cases hq
universe zz
@[simp] noncomputable def pw0(ga gb gc:GE)(f f':`bs):GE:=fun δ=>`Ap λx=>`YM λy=>(f x y).bind λt=>(asB t).bind λk=>if k=`b then (gc δ).bind λz=>f' y z else `qv
section
variable{a:`H}{ga gc:`cb}
theorem Tx0{r r':R2}{f f':`bs}(hf:Op2 K r f)(hf':Op2 K r' f'){δ:Ds}{σ:St}{Q:VK}(h:tD K B δ `aFU σ H Q):T00 r r' (tD K B δ ga) (tD K B δ gb) (tD K B δ gc) σ H Q:=by
 obtain⟨d,en,h,k⟩:=h;unfold pw0 at h;cases e1:`c9 with
 | none=>rw[e1] at h;cases h
 | some x =>
  cases e2:`d3 with
  | none=>rw[e1,e2] at h;cases h
  | some y =>
   rw[e1,e2] at h;simp only[`f] at h;cases e3:f x y with
   | none=>rw[e3] at h;cases h
   | some t =>
    rw[e3] at h;simp only[`f] at h;cases e4:asB t with
    | none=>rw[e4] at h;cases h
    | some kb =>
     rw[e4] at h;simp only[`f] at h;cases aa0 e4;refine`uA;refine hf H2 B v1 v2 x y _ _ `Y! `Fe r2 e3 `aav
     rw[X7] at r3;refine⟨kb,r3,?_⟩;cases kb with
     | false =>
      rw[`nI] at h ⊢;cases h;exact k _ H3 (`qP) `Ep
     | true =>
      rw[`bm] at h ⊢;cases e5:gc δ with
      | none=>rw[e5] at h;cases h
      | some z =>
       rw[e5] at h;simp only[`f] at h;refine⟨z,`_U,e5,λv4 H4 s4 r4=>?_⟩;exact hf' H4 B v2 v4 y z d _ ((`_U).same s4).bad ((`aFV).same s4) r4 h λv' H5 s5 r5=>k v' H5 (((`qP).trans s4).trans s5) r5
theorem Sf0{op op':`iJ}{r r':R2}{f f':`bs}(ho:`t?)(hf:`AH)(ho':`asb)(hf':Op2 X.K r' f')(ha:`cr)(hb:`df)(hc:PD X c gc)
  (hm:`asc:=by with_unfolding_all rfl):PD X `asd `aFU :=
 .mk λB δ=>(S70 ho ho' `a4 `fc (hc B δ) hm).imp fun σ H Q h=>Tx0 hf hf' h
open Builtin Builtin.Str Builtin.Int in
theorem Jl0{prog:`ao}{w:`P}{A:`cl}{E:`aq}{s:`v}{x:Str}{n:Int}{t u:Tok}{Q:`aq}(hr:(`w (n < `X5)||`w (n ≥ 2 ^ 63))=`q)
  (hb:¬n<1->`aFW->¬((`oI:Int) > `LA/n)) (hl:¬n<1->`aFW->tooLong (`oI*`g2)=`q)
  (h:(if n<1 then Made.str `Qn else if `akv=`b then Made.val `Iy else Made.str `ZW).post Q s) :
  `r `av A (`kM .Mult (`d n u) `Iy) Q E s :=
 PySem.lm_binaryOp_repeat_right (T := `iP) (U := `hu) `p (λs'=>P4 s' n u) `aFX PySem.F.fills_int_mul PySem.noFill_str_mul D80 PySem.lm_noRepeat_int PySem.repeat_str PySem.F.slot_int_index.lookup
  (`aFY D80 (P4 s n u) PySem.F.entry_int_mul (PySem.F.args_int_mul_2 _ _) (PySem.AutoIntG3.int___mul___int_str_0 n u x t)
   ⟨rfl,W1 _ x t,`aFY PySem.F.slot_str_mul `aFX PySem.F.entry_str_mul (PySem.F.args_str_mul_2 _ _) (gives_str_mul x n t u hr hb hl) h⟩)
universe zz
universe DL
namespace DL
open Spec PyProof.Rows L2
@[simp] noncomputable def i30(i:Nat):GX:=fun δ=>(`h1).map λ_=>(`u,`aFZ)
section
variable{a:`H}{ga gc:`cb}
theorem bo0(i:Nat)(hN:`b4:=by rfl)(hv:`dS:=by first|exact `a!|exact `dd|exact `de)(hd:`aJ:=by decide)(hcd:`dT:=by decide)
  (hbase:`eQ `d6 "clear" `x `sl=`sk:=by rfl) (hline:`eF:=by rfl) :
  PX X (`aR (`c5 `d6 "clear" `em) [] [] `b_) (i30 i):=.mk λH₀ B₀ δ pins s σ H Q I hq131=>by
 obtain⟨r,en,e1,k⟩:=hq131
 unfold i30 at e1;obtain⟨B,b1,b2,env⟩:=`aK;cases e2:`h1 with
 | none=>rw[e2] at e1;cases e1
 | some ds =>
  rw[e2] at e1;cases e1;have hi:=`A?;obtain⟨a,J,hb,xs,hx,rx⟩:=`hz;refine a80 L8 PySem.F.slot_list_clear PySem.F.type_list_clear S90 `g4 `e' `e! `i s σ H Q I
   ⟨_,J,`Lv,a,xs,rfl,rfl,hx,?_⟩
  have M:Env X.K (upd H a `ev) B σ (`aFZ):=env.mut hi J ⟨_,j9,`f_⟩;exact k _ _ (`h4 `aBt b1 b2 M `h5)
universe zz
universe DL
namespace DL
open Spec PyProof.Rows L2
section
variable{σ:St}{δ:Ds}
theorem Env.fresh{p:`e}{o:HO}(e:`bh)(hp:`dH)(no:∀ob u,o≠`PM:=by exact λ_ _ z=>nomatch z)(nt:∀xs,o≠`ei:=by exact λ_ z=>nomatch z):Env K `Y9 `sb σ δ:=by
 refine⟨`sj (λv s h=>?_) `hY,`hZ,`o5⟩
 ·cases s with
  | un=>trivial
  | ex c n=>obtain⟨u,q,r⟩:=h;exact`aF_
  | sh d=>obtain⟨u,q,r⟩:=h;exact`aF_
  | ow d =>
   obtain⟨a,q,hb,r⟩:=h;exact⟨a,q,`o hb,`cR (λo ho=>by rw[d9 (U6 ho hp)];exact ho) `Fv⟩
 ·rcases z with z|z
  ·have:=`ju a z
   by_cases q:a=p
   ·rw[q,j9];exact `aF0
   ·rw[d9 q];exact `A
  ·rw[z,j9];exact `aF0
universe zz
noncomputable def flats(ds:`j):`aa:=`_!
noncomputable def n90(g:GE):GE:=fun δ=>`ZQ λd=>match d with
 | `ch=>if `uY then `qx else `c
 | _=>`c
theorem X30{g:GE}{δ:Ds}(h:`o?=`qx)(hf:`uY):n90 g δ=`qx:=by
 unfold n90;rw[h,`f];simp only[];rw[`uN]
section
variable{g:GE}
theorem v20:∀{ds:`j} {xs:`K},`uY->`YX
 | [],xs,_,r=>`aFR
 | `as,xs,h,r=>by
  rw[o6] at r ⊢;obtain⟨x,r',e1,r1,r2⟩:=r;unfold flats at h;rw[`lP,`a?] at h;exact⟨x,r',e1,rn0 h.1 r1,v20 (ds:=ds) h.2 r2⟩
theorem Vb0(h:`uD):PSD X `ql (R5 (ob0 g)):=.mk λH₀ B₀ δ pins s σ H D I ⟨r,en,hq,k⟩ =>
 O7 h `Y `S `o! `i s σ H D I `aBl
theorem bs0(h:`uD):PDF X e (n90 g):=.mk λB δ pins s σ H Q I hq132=>by
 obtain⟨d,en,hq,k⟩:=hq132
 obtain⟨B',c1,c2,J⟩:=`xu;unfold n90 at hq;cases e1:`o? with
 | none=>rw[e1] at hq;cases hq
 | some x =>
  rw[e1,`f] at hq;cases x with
  | lst ds =>
   simp only[] at hq
   by_cases hf:`uY
   ·rw[`uN] at hq
    cases hq;exact h B' `o! `i s σ H Q I ⟨_,J,e1,λp H' hp s' r=>k p H' hp s' (by
     obtain⟨xs,e5,r5⟩:=r;exact⟨xs,e5,v20 hf r5⟩)⟩
   ·rw[`Lr] at hq;cases hq
  | non=>cases hq
  | bl _=>cases hq
  | int _=>cases hq
  | str _=>cases hq
  | tup _=>cases hq
  | dct _ _=>cases hq
  | fn _ _=>cases hq
universe zz
universe DL
namespace DL
open Spec PyProof.Rows L2
@[simp] noncomputable def op0:`J
 | [`bH]=>match `aF1 with
  | [c]=>`a (`d (c:Nat))
  | _=>`c
 | _=>`c
theorem Vi0:FnR K `asi op0:=by
 intro H B xs ds d Q hb r h k;unfold op0 at h;split at h
 ·rename_i x
  split at h
  ·rename_i c hc
   cases h;obtain⟨v,rfl,r1⟩:=`iZ;rw[Y9] at r1;subst r1;obtain⟨⟨l⟩⟩:=x;have:l=[c]:=hc;subst this;exact⟨_,rfl,rfl,k _ H `c' (by rw[j5];rfl)⟩
  ·cases h
 ·cases h
universe DL
namespace L2
open Spec PyProof.Rows
theorem el0:∀{ys:`g} {us:`ac},`ay'->∀(m:Nat) (y:Str),`Mc->∃t,us[m]?=`axx
 | [],_,`O,m,y,h=>by cases h
 | `Md,_,`j1,0,y,h=>by
  cases h;obtain⟨tk,rfl⟩:=r;exact`aF2
 | `Md,_,`j1,m+1,y,h=>by
  obtain⟨tk,e⟩:=el0 t m y `hk;exact`aF3
theorem eh0:∀ys:`g,(`RC).all uc0=`b
 | []=>rfl
 | `AR=>by
  rw[`T,`lP,eh0 ys];rfl
universe L2
namespace PySem.SeqAt
open PySem.AutoSeq1 (wpAny_loadPart')
open MeetsSeq MeetsSeq2 MeetsSeq3 SeqRoads2
theorem kd0{M:`zF}{A:`cl}{E:`aq}{s:`v}(f:Nat->β->Sem (ForInStep β))(I:`k->β->`eL)(Q:β->`eL)
  (turn:∀x rest b s,I (x::`a7) b s->`r M A (f x b) (λr s'=>match r with|.yield b'=>I `a7 b' s'|`Fc b'=>Q b' s') E s)
  (fin:∀b s,I [] b s->Q b s) (lo hi:Nat) (b:β) (h:I `aF4 b s):`r M A (`aF5) Q E s:=by
 have e:(`aF5:Sem β)=`sy `aF4 b f:=`aW
 rw[e];exact u8 f I Q turn fin _ b h
theorem tuple_indexAt(l:`e)(items:`aI)(n:Nat)(dd:`dP)(sl:`iN)(x:`E)(e:`app)(j:Nat)(hj:j<`dq)
  (hit:e items[j]=`b) (hno:∀m (hm:m<`dq),m<j->e items[m]=`q) :
  `A9 (Builtin.«tuple.index» ⟨[`hV,x],[]⟩)
   (λA R s=>`_C/\(∀y,y∈`aQ->EqAt `bC s y x (e y))/\R (.ok (`fj (`d j `a8))) `oH) :=
 `A' λprog w A R s h=>by
  obtain⟨hp,g,d,tk,os⟩:=s;obtain⟨hl,he,h⟩:=h
  wp_walk using `uO,kd0 _ (λrest b s'=>b.1=`c/\s'=`aF6/\∃i,i<=j/\`a7=`xI i (`dq - i)) _
  case turn =>
   rintro y rest b s' ⟨hb,rfl,i,hi,hr⟩;have J:i<`dq:=`C
   have e1:`dq - i=(`dq - `dG)+1:=`C
   rw[e1,`aaw] at hr;obtain⟨rfl,rfl⟩:=d5 hr;have hy:`aQ[y]?=`a items[y]:=by simp[J]
   rw[hy];refine A0 (he items[y] (Array.getElem_mem J) `i4 w _ _ ?_)
   by_cases hyj:y=j
   ·subst hyj
    rw[hit]
    wp_walk
    exact`qM
   ·rw[hno y J `h]
    wp_walk
    exact⟨rfl,rfl,y+1,`C,rfl⟩
  case fin =>
   rintro b s' ⟨hb,rfl,i,hi,hr⟩;have:=C1 `GL hr;simp at this;omega
  case h =>
   exact⟨rfl,rfl,0,`cQ,`aW⟩
universe PySem.SeqAt
namespace L2
open Spec PyProof.Rows
noncomputable def Ji0(K:`y):`gG:=λx vs H Q=>∃(p:`e) (ys:`g) (z:Str) (j:Nat),`JX/\vs=`DN/\SqT K H p `xj/\`aF7
theorem Pt0:MtR X "tuple.index" (Ji0 X.K):=by
 intro pins s σ H x vs v us Q I rx rv h;obtain⟨p,ys,z,j,rfl,rfl,hq,hj,O,q⟩:=h;cases rx;obtain⟨u,rfl,ru⟩:=`J';obtain⟨its,r,pl,hz⟩:=`hr;obtain⟨o,h1,h2,n,h3⟩:=id pl;have Y:`mo=`en:=`aF8
 have Z:j<`en:=`aF9;have at_:∀m (hm:m<`gY),∃y t,`Mc/\`aF'=`s y t:=λm hm=>by
  have J:`Me:=`aF!
  obtain⟨t,e⟩:=el0 r m ys[m] (C3 J);refine`aF?;have:`aGa:=`aax;rw[`A] at e;have e':=`lG
  simpa using e'
 obtain⟨c0,dd,dt,sl⟩:=o;obtain rfl:c0=`eg := h2;obtain rfl:dt=`PE:=h3;obtain⟨t,rfl⟩:=ru;have M:∀(y:Str) (tk:Tok),`aGb=`b↔y=z:=λy tk=>by
  show (eqV (`nT) `Fw)=`b↔_;simp[eqV]
 refine E5 (T := `c2) `aGc (show `kT `c7 `c2 from `aGd) F.entry_tuple_index (F.args_tuple_index_2 _ _) (SeqAt.tuple_indexAt p `a6 n dd sl (`s z t) (eqU `Fw) j `pk ?_ ?_) ⟨h1,λy hy=>uh0 (x:=`kU) `Ah rfl r (eh0 ys) y `aGe,`aGf⟩
 ·obtain⟨y,tk,e1,e2⟩:=`aGg
  rw[e2,M];rw[hj] at e1;cases e1;rfl
 ·intro m hm U
  obtain⟨y,tk,e1,e2⟩:=at_ m hm;rw[e2];cases hb:`aGb with
  | false=>rfl
  | true=>exact `I `aGh (O m U)
noncomputable def b20(K:`y)(mg:`bx)(x:Str)(ys:`g):Prop :=
 ∃(a:`e) (o:Obj) (its:`aI) (n:Nat),mg x=`o4/\`I7/\`IB/\`IC/\`ahj/\`P5/\`bt `xj `De
universe L2
namespace DL
open Spec PyProof.Rows L2
noncomputable def gu0(ys:`g):`J
 | `DN=>`aGi
 | _=>`c
section
variable{a:`H}{ga gb:GE}{gA:GA}{ys:`g}
theorem Pv0(hK:`aGj)(ha:`AS)(hg:`cI:=by rfl)(hd:`aJ:=by decide)
  (hbase:`eQ `Fx `Mf `x (`aGk)=`aGk:=by rfl)
  (hfew:(`nX
  &&`K6)=`b:=by rfl)
  (hline:`eF:=by rfl) (hs:`fd:=by rfl) (hplain:`lV:=by rfl) :
  PD X (`aR (`c5 `Fx `Mf `em) [e] [] `b_) (oA gA (gu0 ys)):=.mk λB δ=>by
 obtain⟨p,o,its,n,hm,hk,hc,J,M,U,hv⟩:=hK;refine (rc0 F.plainAttrs_tuple `aGc F.type_tuple_index Pt0 `aGl `a4 `e' `iQ `e! hs `ka).imp fun σ H Q hq133=>?_;obtain⟨d,en,h,k⟩:=hq133
 unfold oA at h;cases e2:`b! with
 | none=>rw[e2] at h;cases h
 | some es =>
  rw[e2,`f] at h;unfold gu0 at h;split at h
  ·rename_i z
   cases e4:`aGm with
   | none=>rw[e4] at h;cases h
   | some j =>
    rw[e4] at h;cases h;refine⟨`n (`o ⟨rfl,o,hk,hc,J⟩),_,en,e2,`EK⟩;rw[o6] at r2;obtain⟨y,rr,rfl,r3,r4⟩:=r2;rw[n6] at r4;subst r4;rw[Y9] at r3;subst r3;obtain⟨hj,h1,h2⟩:=Db0.mp e4;refine⟨p,ys,z,j,rfl,rfl,`n ⟨o,its,n,hk,hc,M,U,hv⟩,?_,`aGn,k _ _ s2 `xb⟩
    ·rw[`aay,`aaz h1]
    ·have O:`Me:=`C
     rw[`jq O] at he;exact `aGo
  ·cases h
universe zz
universe DL
namespace L2
open Spec PyProof.Rows
open PySem.AutoSeq1 (wpAny_loadPart')
section
variable{w:`P}{s:`v}
theorem kg0{items}{x:`E}{Q:`aq}(hit:`aaA)(hl:`Mg)(hx:`AN=`dE)
  (hQ:∀h',`aaB it l `dG->`avn->Q x `gV):`aGp:=by
 obtain⟨o,ho,hc,hd⟩:=id hit;obtain⟨ol,J,_,nl,M⟩:=hl;unfold Builtin.SmallTypes.nextOf;refine A0 (L6 (name:=`Bi) `SA o3
  `aGq)
 show `aGr;refine `aGs;show `aGt;rw[`aGu];show `aGv;refine `aGw;show `aGx;refine A0 (N3 J M ?_);simp only[`bo,hx];refine A0 (An0 ho hd `aw (A1 ⟨x,rfl,A1 `Z0⟩));exact⟨_,E6 _ ho (Obj.isFreed_of_fields (`aGy hd _)),(Obj.cls_mapFields ..).trans hc,by
  rw[`aGy hd];simp[`sA]⟩
theorem rz0{items}{Q:`aq}(hh:`eD)(hit:`aaA)(hl:`Mg)(hx:`AN=`c)
  (hE:∀h' e,`aGz->`aDG):`aGp:=by
 obtain⟨o,ho,hc,hd⟩:=id hit;obtain⟨ol,J,_,nl,M⟩:=hl;unfold Builtin.SmallTypes.nextOf;refine A0 (L6 (name:=`Bi) `SA o3
  `aGq)
 show `aGr;refine `aGs;show `aGt;rw[`aGu];show `aGv;refine `aGw;show `aGx;refine A0 (N3 J M ?_);simp only[`bo,hx]
 first
  | refine A0 (L4 (A0 (An0 ho hd `aw ?_)))
  | refine A0 (L4 (A0 (An0 ho hd `aw (A0 (`__ ?_)))))
 show `r _ _ (newExc (`aj!) []>>=_) _ _ _;refine `lL;simp only[newExc,newTuple];refine A0 (`aGA);refine A0 (m:=`aGB _ _) (`aEi (a:=`mO) (by first|rfl|(simp only[`aGB];rfl)) ?_);refine `aGA;simp only[raiseNew];refine A0 (wpAny_handled ?_)
 first|rw[show `aEk from hh]|rw[hh]
 refine A0 (A1 (wpAny_throw ?_));exact hE _ _ (((P6 ..).extBut.push _).push _) `aEz
theorem nh0{h:`Q}(x:`aGC)(k:∀o,`hH it=`aj->`fl it=`aj):`aaB it l i:=`aGD
theorem Lr0{h:`Q}(x:`aGE)(k:∀o,`hH l=`aj->`fl l=`aj):h'.IsTuple l `aQ:=`aGD
theorem Zo0(hh:`eD)(it l:`e)(hne:l≠it)(items:`aI) :
  Draws `i4 w A it [it,l] `dq (λi v=>`AN=`bX) (λi h=>`aGC/\`aGE) where
 live:=λ_ _ st=>let ⟨o,ho,_⟩:=st.1;⟨o,ho⟩
 frame:=λ_ _ _ st hk=>⟨nh0 st.1 λo e=>hk it `aw o e,Lr0 st.2 λo e=>hk l `aw o e⟩
 item:=λi s Q E hi st hQ=>by
  refine kg0 st.1 st.2 (x:=items[i]) (`Sy) λh' M J=>?_
  exact hQ _ h' `a8 (`Sy) ⟨M,st.2.extBut `mN hne⟩ J
 done:=λs Q E st hE=>rz0 hh st.1 st.2 `aw hE
universe zz
set_option maxHeartbeats 1000000 in
theorem oe0(l:`e)(items:`aI)(n:Nat)(dct:`dP)(sl:`iN) :
  `A9 (Builtin.«enumerate.__new__» ⟨[`Fz,`hV],[]⟩) (λ_ R s=>`c3 l=`a { cls:=`eg,dict:=dct,data:=`E8,slots:=sl } /\
   R (.ok (`fj (`z `aGF)))
    { s with heap:=(`Fy).push `aaC }) :=
 `A' λprog w A R s h=>by
  obtain⟨hp,g,d,tk,os⟩:=s;obtain⟨hl,h⟩:=h;have J:=sub_enumerate;have hL:Heap.IsTuple (Shared.heap `aF6) l `aQ:=`aBG
  wp_walk using `uO
  refine wpAny_stack_any λst=>`gX
  split
  ·rename_i c _ _ _ _ _
   cases (c==`h7 `jc)
   ·wp_walk using `uO,k8 hL
    exact`qM
   ·wp_walk using `uO,k8 hL
    exact`qM
  ·wp_walk using `uO,k8 hL
   exact`qM
theorem oq0{prog:`ao}{w:`P}{A:`cl}{E:`aq}{s:`v}{Q:`aq}(hL:`Mg)
  (h:∀h',`Ft h' `gb `M 0 `ay->`aaB `M l 0->`rW=`M+2 ->
   `LR->Q (`ast) `gV) :
  `r `av A (`ep (`Fz) [`hV]) Q E s:=by
 obtain⟨⟨c,dct,dt,sl⟩,hl,hc,n,hd⟩:=hL
 replace hc:c=`eg := hc
 replace hd:dt=`E8:=hd
 subst hc hd;refine callType_new F.called_enumerate `p (F.typeCall_enumerate_1 _) (F.newCall_enumerate_1 _) (λobj=>`aEA) F.entry_enumerate_new
  (oe0 l `aQ n dct sl) `ZV
 have hz:`aGF=`oJ:=l5 ..;show _/\_;rw[hz];have he:`Ft ((`Fy).push
   `aaC) `gb `M 0 `ay:=by
  have:=C0 (`Fy)
   (o:=`aaC) rfl
  rw[hz] at this;exact `A
 refine⟨`aGG,h _ he ⟨_,A9 _ (`eM),rfl,rfl⟩ (by rw[`Bd,hz]) λb o x=>A9 _ (A9 _ x)⟩
theorem gi0{prog:`ao}{w:`P}{E:`aq}{s:`v}{e it l:`e}{i:Nat}{items:`aI}{old:`E}{Q:`tY}(hh:`eD)
  (he:`Ft `aE e it i old) (hit:`aaA) (hl:`Mg) (hx:`AN=`c)
  (hQ:∀h',`aGz->`aag):`r `av A (`ss `Fk) Q E s:=by
 have hT:`kT `Fk `jc := `aGG;unfold pyNext;refine A0 (Al0 (L6 (name:=`Bi) hT `aGH
  (E3 `aGH hT F.entry_enumerate_next ?_ (F.args_enumerate_next_1 _))))
 show `r _ _ (`xA `Fk 2>>=_) _ _ _;refine A0 (C9 he rfl (x:=`P7) rfl ?_);refine A0 (rz0 (A:=`bC) hh hit hl hx λh' x J M=>?_);obtain⟨o,ho,hc⟩:=M;refine `aDL;exact A1 (hQ _ J)
noncomputable def Kd0(K:`y)(a:`e):It :=
 ⟨`art,
   λi H v H'=>∃t x,v=`rO/\`Bp/\`aFp/\`aru,
   `arv⟩
theorem We0{P:`ao}{w:`P}{x1}{e:`e}(hei:e≠it)(hea:e≠a)(hai:a≠it):`oz P w K `aFq (Kd0 K a) `xH e
  (λi h=>`aFr/\`arB) where
 mem:=`aW
 obj:=λi h st c hc=>by
  obtain⟨⟨old,he⟩,⟨o1,e1,c1,d1⟩⟩:=st;simp only[`ff,`hA,`hB] at hc;rcases hc with rfl|rfl
  ·exact`aFs
  ·exact`aFt
 keep:=λi h h' st k=>by
  obtain⟨⟨old,he⟩,h1⟩:=st;exact⟨`aFu,nh0 h1 `aFv⟩
 item:=by
  intro X hP hw hK hc i pins s σ H E I hf st hg;subst hP hw hK;obtain⟨⟨old,he⟩,h1⟩:=st;obtain⟨xs,x,hq,hx⟩:=hg;obtain⟨us,rv,p1,z1⟩:=`hr;obtain⟨u,hu,ru⟩:=`Jc;have J:i<`aB1:=by
   rw[`a9];exact(`cL hu).1
  refine wpAny_pyNext_enum_itemD (Zo0 (A:=X.A.in1) `hs it a hai us.toArray) he ⟨h1,p1⟩ J hei (by simp[hei,hea]) λu2 h' tk O a1 a2 a3 a4 hk=>?_
  have e2:u2=u:=by
   have:us[i]?=`a u2:=by simpa using O
   rw[hu] at this;exact`Bq
  subst e2;refine⟨_,rfl,D70 (s:={ s with heap:=h',toks:=tk+1 }) a1 λM b1 hs=>?_⟩;have le:=A8 he;obtain⟨o1,e1,_⟩:=id h1;have l1:=A8 e1;obtain⟨I1,fr⟩:=`aFw (h':=M) (t':=tk+1) (fp:=`xH) (x:=`sx) (u:=`d i tk) hf `ae ru (λc hc=>by
   simp only[`ff,`hA,`hB] at hc;rcases hc with rfl|rfl<;>assumption) `aFx (λc o hc x=>by
   simp only[`ff,`hA,`hB,`Be] at hc;exact`aFy)
  exact⟨`fp,_,I1,rfl,⟨_,x,rfl,`Dx,rfl,`arD⟩,⟨`aFz,nh0 a2.1 `aFA⟩,fr⟩
 done:=by
  intro X hP hw hK hc i pins s σ H E I hf st hg;subst hP hw hK;obtain⟨⟨old,he⟩,h1⟩:=st;obtain⟨xs,hq,U⟩:=hg;obtain⟨us,rv,p1,z1⟩:=`hr;have l1:=`mI;refine gi0 `hs he h1 p1 `j8 `aFB
  simp only[`ff,`hA,`hB,`Be] at hc;exact `aFC
 self:=λ_ _ _ _ _ st h=>by
  obtain⟨⟨old,he⟩,_⟩:=st;exact o0 he h
noncomputable def Lj0(K:`y)(ta:TA):TI:=fun σ H R=>ta σ H λvs H1=>∃a,vs=`eU/\`arH/\R (Kd0 K a) H1
theorem Sc0{a:`H}{ta:TA}{p pos:Pos}(hg:`L!)(hm:`L?)(ha:`W9)(hs:`t6:=by rfl) :
  PI X `Ma `Mb (Lj0 X.K ta):=by
 intro pins s σ H R I h;refine Call_ (v50 I hg hm e50 (G0 (thn `rN λus s1 hq134=>?_) hs rfl));obtain⟨vs,H1,I1,r1,q1⟩:=hq134;obtain⟨qa,e,⟨xs,h1⟩,q⟩:=q1;subst e;cases r1 with
 | cons r rr =>
  cases rr;obtain rfl:=r;obtain⟨us1,v1,p1,z1⟩:=I1.tuple h1;have J:qa<`f?:=by obtain⟨o,e,_⟩:=p1;exact `dY
  refine oq0 p1 λh' hz M O hk=>?_
  refine `aFD;refine⟨_,_,_,_,H1,rfl,`aFE,We0 `aFF (C2 (Aj0 J)) (B0 J),⟨`aaq,M⟩,`gD,q⟩;simp only[`ff,`hA,`hB] at hb;rcases hb with rfl|rfl
  ·exact `aFG
  ·exact `t5
universe L2
namespace DL
open Spec PyProof.Rows L2
@[simp] noncomputable def Ui0:`Kt
 | [`b0]=>`aCM
 | _=>`c
@[simp] noncomputable def ai0(gA:GA):GA:=fun δ=>`gq Ui0
section
variable{a:`H}{p:Pos}
theorem Ul0(hm:`L?)(ha:`Zv)(hg:`L! := by rfl)(hs:`t6:=by rfl) :
  PID X `Ma `Mb (ai0 gA):=.mk λB δ=>`qE (Sc0 hg hm `a4 hs) fun σ H R hq135=>by
 obtain⟨items,en,e1,k⟩:=hq135
 unfold ai0 at e1;cases e2:`b! with
 | none=>rw[e2] at e1;cases e1
 | some ds =>
  rw[e2] at e1;simp only[`f] at e1;unfold Ui0 at e1;split at e1<;>try cases e1
  rename_i ds;refine`KW;rw[o6] at r;obtain⟨x,t,rfl,r1,r⟩:=r;rw[n6] at r;subst r;rw[V3] at r1;obtain⟨q1,us,rfl,s1,t1⟩:=r1;have J:`aFH:=`aFI
  refine`aFJ
  ·rw[J] at hi
   exact`aFK
  ·obtain⟨t,x,rfl,ht,rfl,hx⟩:=y
   rw[J,`Sw] at hi;obtain⟨x',e4,rx⟩:=`aFL;have ex:=`aFM;rw[e4] at ex;cases ex;refine`aFN;exact `aFO
  ·rw[J] at hi
   exact`aFP
universe zz
universe DL
namespace L2
open Spec PyProof.Rows
noncomputable def P90(K:`y):R2:=λx y H Q=>∃a xs k,`cY/\y=`ik/\`oA/\`z'/\`iO/\`AW/\`aGI/\∀p,`dH->Q `c7 (upd H p `aGJ)
theorem Ov0:OpR X `Jo (P90 X.K):=by
 intro pins s σ H x y v u Q I rx ry h;obtain⟨a,xs,k,rfl,rfl,ha,hx,h2,h3,hz,q⟩:=h;cases rx;obtain⟨t,rfl⟩:=ry;obtain⟨its,r1,p1,_⟩:=`ek ha;obtain⟨⟨cls,dd,data,sl⟩,ho,hc,n,hd⟩:=`qH;simp only at hc hd;subst hc hd;have hl:=`jm;have he:`Lt=`q:=by
  cases its with
  | nil=>exact `aBH
  | cons a b=>rfl
 have M:`_G<=`SB:=`aBI
 have J:(`aL (if `Lt=`b then 0 else `eu) `a6).foldl `mF #[]=`aBJ:=by
  rw[he];have:=`aBK;rw[`e?] at this;exact `A
 have Z:¬(!`aGK)=`b:=by
  have:`aGK=`b:=by unfold Builtin.List.listFitsIndex;simp;omega
  rw[`A];decide
 have Y:¬`gY*`eu > `LA/8:=`C
 have O:¬`J9 (`_G)=`b:=by
  rw[`a9] at M ⊢;unfold Builtin.List.listTooLong;simp;unfold sizeLine;omega
 refine Ca0 (T := `eh) (U := `hu) `p `j? `aBL noFill_list_mul `aBM n5 repeat_list `aBN
  (E5 n5 `aBO `aBP `aBQ (lm_int_rmul_list_any k t a `a6 n dd sl)
   ⟨ho,rfl,`j?,E5 F.slot_list_mul `j? F.entry_list_mul (F.args_list_mul_2 _ _) (lm_list_mul_any a `a6 n dd sl k t Z Y O) `aBR⟩)
 rw[J];exact⟨`z _,_,I.lnew (t':=`a8) (`aBS) (by rw[len_rep,`Bb];unfold sizeLine;omega),rfl,`azk⟩
universe L2
namespace DL
open Spec PyProof.Rows L2
noncomputable def mulL:`bs
 | `cN,`ik=>if `z'/\`iO/\`AW/\`aGI then `a `aGJ else `c
 | _,_=>`c
section
variable{a:`H}{ga gb:GE}
theorem Ry0:Op2 K (P90 K) mulL:=by
 intro H B x y dx dy d Q hb rx ry h k;unfold mulL at h;split at h
 ·split at h
  ·rename_i hz
   cases h;rw[W4] at rx;rw[j5] at ry;subst ry;obtain⟨a,xs,rfl,q1,r1⟩:=rx;refine⟨a,xs,_,rfl,rfl,`uQ,`aCr,`LF,hz.2.2.1,`aCs,λp hp=>k _ _ `es (pv0 hb hp `aCt)⟩;subst z;have hn:=`jm;simp at hn;exact `LE
  ·cases h
 ·cases h
theorem lm0(ha:`cr)(hb:`df):PD X `aCu (o2 ga gb mulL):=oo0 Ov0 Ry0 ha hb
universe zz
structure But(p:`e)(H H':Hp):Prop where
 old:`aGL
 nf:∀b o xs,`E4->`avj
instance{p:`e}{H H':Hp}:`eH (`Mh) (λ_=>`aGL):=⟨But.old⟩
section
variable{σ:St}{δ:Ds}
theorem Gr.but{p:`e}(hb:B p)(h:`Mh):`awP:=λb u n e=>⟨n,h b u (λz=>n (z▸hb)) e⟩
theorem Env.mutB(e:`bh){d:D}(hi:`A7)(hs:`jn)(hh:`Mi)(r:`axd):`aGM:=by
 obtain⟨a',h1,hb,_⟩:=`Ll;rw[hs] at h1;cases h1;refine`aAO
 ·have h0:`bB (λ(o':`dF) (s:Sl)=>SlR K H' B o' s∨`_f) σ δ:=`sj (λo' s h=>by
   cases s with
   | un=>exact `_g
   | ex c n=>obtain⟨v,e,r⟩:=h;exact `aGN
   | sh d=>obtain⟨v,e,r⟩:=h;exact `aGN
   | ow d =>
    obtain⟨b,e,J,r⟩:=h
    by_cases z:b=a
    ·subst z;exact `_h
    ·exact `o ⟨b,e,J,`cR (λo h=>hh b o z h) `akz⟩) `hY
  have h1:=`aAQ;refine `aAR;rcases h with h|⟨d',rfl,rfl⟩
  ·exact h
  ·rcases `Lm with⟨rfl,e3,_⟩|⟨M,e3⟩
   ·cases e3;exact`E1
   ·exact `aAS
 ·by_cases z':b=a
  ·subst z';exact `qB
  ·cases q:H b with
   | none=>exact `I q (`_i)
   | some o=>exact(`_i).keep λo h=>hh b o z' h
 ·have q1:`aAT:=by
   rcases `gJ with⟨rfl,_,_⟩|⟨_,h⟩
   ·exact`Ln
   ·exact`Lo
  have q2:`aAU:=by
   rcases `km with⟨rfl,_,_⟩|⟨_,h⟩
   ·exact`Ln
   ·exact`Lo
  obtain⟨d1,q1⟩:=q1;obtain⟨d2,q2⟩:=q2;exact `aAV
theorem EnvS.mutB(en:`cz)(b1:`iV)(b2:`iW){d:D}(hi:`A7)(hs:`jn)(hh:`Mi)
  (env:`aGM):`cS K `Y `S H' σ `pd:=by
 have h0:=`aAW;have J:i<`mU:=`I2;refine`aAX
 ·have:`k4:=λz=>by rw[z,h0] at h;cases h
  exact hh _ _ `A `aAY
 ·by_cases z:b=a
  ·obtain⟨a',e1,_,ro⟩:=`aAZ
   rw[hs] at e1;cases e1;rw[z] at h;exact `aA_
  ·exact `Ey b ob xs (hh.nf b ob xs z h)
 ·rcases `gJ with⟨rfl,_,_⟩|⟨_,h⟩
  ·rw[hs] at h2;cases h2;exact h0
  ·exact `aA0
universe zz
universe DL
namespace L2
open Spec PyProof.Rows PySem.W
noncomputable def Iv0(td ty tx:TE):TE:=fun σ H Q=>td σ H λx H1=>∃a,`cY/\IsD H1 a/\ty σ H1 λy H2=>tx σ H2 λz H3=>∃kvs k,H3 a=`QH/\y=kV k/\`A0 /\
 (∀v,`k2=`bX->Q v H3)/\(`aaD->Q z (upd H3 a (.dK (`mG kvs k z))))
section
variable{f:`H}{tx:TE}
theorem Kq0{σ:St}{s:`v}{k:Key}{r:`E}{A:`cl}{E:`aq}{Q:`aq}(I:`B)(e:`A_)(ry:`aAf)(rv:`di v r)(l:`A0)
  (h1:∀x,`k2=`dE->∀w' s',`z_->`di x w'->Q w' s') (h2:`aaD->∀s',Inv X `i σ (`Z5) s'->Q r s') :
  `r `an A (`ep (`cK "dict.setdefault") [`b8,u,r]) Q E s:=by
 obtain⟨z,hd,vs,rel,dd⟩:=`aAp;have hz:`aAq:=`aAr
 have hv:=`RO;refine call_meetsIn Df0 `E_ PySem.F.entry_dict_setdefault (PySem.F.args_dict_setdefault_3 _ _ _) (kt_meets_setdefault (`aAG) a `A2 hd r) ⟨vs,dd,hz,λw hw=>?_,λhn h' J hs=>?_⟩
 ·rw[hw] at hv
  cases e1:`k2 with
  | none=>rw[e1] at hv;exact hv.elim
  | some x=>rw[e1] at hv;exact h1 x e1 _ _ `EX hv
 ·rw[hn] at hv
  have e1:`aaD:=by
   cases e1:`k2 with
   | none=>rfl
   | some x=>rw[e1] at hv;exact hv.elim
  have hl:`Z':=`Z!
  have he:`Z8:=`Z?
  exact h2 e1 _ (`aAt)
theorem K90(ho:`Lj)(he:PE X e ty)(hf:PE X f tx)(m:M2 X o `Mj `em e f `b_):PE X (`aR (`c5 o `Mj `em) `sf [] `b_) (Iv0 td ty tx):=by
 intro pins s σ H Q I h;refine wpAny_Call_method m.base m.few m.line PySem.F.plainAttrs_dict Df0 PySem.F.type_dict_setdefault (thn `zO λu s1 hq136=>?_);obtain⟨x,H1,I1,rx,a,ex,d,q1⟩:=hq136;subst ex;cases (show `ED from rx);obtain⟨t1,t2,_⟩:=Lh0 I1 d;refine⟨t1,t2,?_⟩;rw[m.trees];refine Ae0 rfl (`auW (U1 (thn (he `i s1 σ H1 _ I1 q1) λiv s2 hq137=>?_)));obtain⟨y,H2,I2,ry,q2⟩:=hq137;refine U1 (thn (hf `i s2 σ H2 _ I2 q2) λfv s3 hq138=>?_);obtain⟨z,H3,I3,rz,kvs,k,ea,ey,l,q3,q4⟩:=hq138;refine Y3 ?_;subst ey;exact Kq0 I3 ea ry rz l (λx ex w' s4 I4 r4=>⟨x,H3,I4,r4,q3 x ex⟩) λen s4 I4=>⟨z,_,I4,rz,q4 en⟩
universe zz
universe L2
namespace DL
open Spec PyProof.Rows L2
noncomputable def jf0(i:Nat)(gk g:GE):GX:=fun δ=>`azI λpr=>`Mk λdk=>`cq λd=>`aGO λq=>if `_9<`L then (if `LV=`b then (vv0 pr.1 pr.2 q).map λr=>(r,δ) else `a (d,`_')) else `c
section
variable{a f:`H}{ga gb g:GE}
theorem O20(hu:`kl)(ha:`cr)(hb:`df)(hm:`Da `t! b=`q:=by first|rfl|with_unfolding_all rfl):PD X (`Db a [`t!] [b] pos) (o2 ga gb (vc0 `b)):=.mk λB δ=>(Lb0 (Tz0 hu `a4 `fc) hm).imp fun σ H Q hq139=>by
 obtain⟨t,en,h,k⟩:=hq139
 unfold o2 at h;cases e1:`c9 with
 | none=>rw[e1] at h;cases h
 | some x =>
  cases e2:`d3 with
  | none=>rw[e1,e2] at h;cases h
  | some y =>
   rw[e1,e2] at h;simp only[`f] at h;refine`uA;cases y<;>simp only[vc0] at h<;>try cases h
   rename_i ks ds;cases ks with
   | inl ks =>
    simp only at h;cases e3:yp0 x with
    | none=>rw[e3] at h;cases h
    | some q =>
     rw[e3] at h;simp only[`gH,`LD] at h;cases h;rw[jq0] at r2;obtain⟨p,xs,rfl,_,hp,hl,rr⟩:=r2;have:=p40 e3 r1;subst this;refine⟨p,_,rfl,`_7,?_⟩;rw[`LU];exact `aGP
   | inr ks =>
    simp only at h;cases e3:qg0 x with
    | none=>rw[e3] at h;cases h
    | some q =>
     rw[e3] at h;simp only[`gH,`LD] at h;cases h;rw[gt0] at r2;obtain⟨p,xs,rfl,_,hp,hl,rr⟩:=r2;obtain⟨b,rfl,hb⟩:=`aDe;refine⟨p,_,rfl,`_8,?_⟩;rw[`LU];exact `aGP
theorem Mh0(i:Nat)(h0:PD X e g0)(h:PD X f g)(hN:`b4:=by rfl)(hv:`dS:=by first|exact `a!|exact `dd|exact `de)(hd:`aJ:=by decide)(hcd:`dT:=by decide)
  (hbase:`eQ `d6 `Mj `x `sl=`sk:=by rfl)
  (hfew:(`aAH
  &&`aAI)=`b:=by rfl)
  (hline:`eF:=by rfl) (htrees:`aAJ:=by rfl) :
  PX X (`aR (`c5 `d6 `Mj `em) `sf [] `b_) (jf0 i g0 g):=.mk λH₀ B₀ δ pins s σ H Q I hq140=>by
 obtain⟨r,en,e1,k⟩:=hq140
 unfold jf0 at e1;obtain⟨B,b1,b2,env⟩:=`aK;cases e2:`EN with
 | none=>rw[e2] at e1;cases e1
 | some pr =>
  cases e4:g0 δ with
  | none=>rw[e2,e4] at e1;cases e1
  | some dk =>
   cases e3:`ar with
   | none=>rw[e2,e4,e3] at e1;cases e1
   | some d =>
    cases e5:`FC with
    | none=>rw[e2,e4,e3] at e1;simp only[`f] at e1;rw[e5] at e1;cases e1
    | some q =>
     rw[e2,e4,e3] at e1;simp only[`f] at e1;rw[e5] at e1;simp only[`f] at e1;split at e1
     ·rename_i hz
      have hi:=X70 e2;obtain⟨p,M,hb,xs,hx,hl,rx⟩:=`hz;have hl:`_9=`am:=hl;refine K90 `g4 (h0 B δ) `ck ⟨`e',`iQ,`e!,htrees⟩ `i s σ H Q I ⟨_,M,p,rfl,`o ⟨_,`o hx⟩,dk,env,e4,λiv H1 s1 r1=>⟨d,`k5,e3,λfv H2 s2 r2=>?_⟩⟩;have:=p40 e5 r1;subst this;have J:=`mB;refine⟨_,q,J _ _ hx,rfl,`aj3,λv Y=>?_,λhn=>?_⟩
      ·have hk:`LV=`b:=by
        rw[← `aGQ,Y];rfl
       rw[`zY] at e1;obtain⟨w,hw,e1⟩:=m4.mp e1;cases e1;obtain⟨v',U,rv⟩:=(xj0 rx).1 w hw;rw[Y] at U;cases U;exact k v H2 (`h4 (`o7 J) b1 b2 (`k1 J) (`E7 J))
      ·have hk:`LV=`q:=by
        rw[← `aGQ,hn];rfl
       rw[hk,`kn] at e1;cases e1;obtain⟨ys,hy,a1,a2,Z⟩:=fg0 (q:=q) (v:=fv) hl;have rr:Rps X.K H2 B `R! ys:=by
        unfold xg0;rw[hk,`kn,Z hk];exact `pf (`RY J) r2
       rw[hy];have O:Env X.K (upd H2 p `aDk) B σ (`_'):=(`k1 J).mut hi M ⟨ys,j9,a1,rr.mono `jt⟩;exact k _ _ (`h4 (`xv J b1 b2 hi M O) b1 b2 O (r2.mono `jt))
     ·cases e1
universe zz
universe DL
namespace L2
open Spec PyProof.Rows PySem.W
theorem p60:`gf X `X! `aGR:=by
 intro pins s σ H xs us Q I r h;obtain⟨p,kvs,rfl,hq,q⟩:=h;obtain⟨u,rfl,rx⟩:=`nK;cases rx;have hn:=q90;obtain⟨z,hd,vs,rel,dd⟩:=c90 `bY hq;have hl:=`ajv;exact call_len_dict hd dd `h ⟨`d `i6,H,`fs,⟨`wt,by rw[hl]⟩,q⟩
universe L2
namespace DL
open Spec PyProof.Rows L2
noncomputable def xd0:`J
 | [`cy `Ed _]=>`a (`d `gh)
 | _=>`c
theorem ka0:FnR K `aGR xd0:=by
 intro H B xs ds d Q hb r h k;unfold xd0 at h;split at h
 ·cases h
  obtain⟨v,rfl,r1⟩:=`iZ;rw[jq0] at r1;obtain⟨p,ys,rfl,_,hp,hl,rr⟩:=r1;refine⟨p,_,rfl,hp,`K5⟩;rw[j5,`h8,← hl,`pe]
 ·cases h
universe DL
namespace L2
open Spec PyProof.Rows ZipL DL
section
variable{s:`v}
theorem Inv.laidM{l:`qS}{t':Nat}(I:`B)(k:`IZ)
  (hl:∀p∈l,`aED/\∃xs,(`aEE)∨(p.2=`cN/\`ct `aZ X.w H h' p.1 `mg)):`aEF:=by
 have J:`aEG:=λb hb=>q40 λp hp z=>by
  have:=(`L8).1;rw[z] at this;exact `aEH
 refine `j5 ⟨`Wh,`Wi,`aEI,`Wj,`aEJ,
  `aEK,`aEL⟩ `IY
 rcases qu0 e with⟨p,hp,rfl,rfl⟩|e'
 ·obtain⟨_,xs,⟨ex,ok⟩|⟨ex,ok⟩⟩:=`L8
  ·rw[ex]
   exact ok
  ·rw[ex]
   exact ok
 ·exact`aEM
universe zz
universe L2
namespace DL
open Spec PyProof.Rows L2
noncomputable def cf0:`aD->`aa
 | []=>`b
 | p::K=>(match p.2.cls with
  | `bq n=>!(n == `eh)
  | _=>`b)&&cf0 K
theorem Xe0:∀{K:`aD} {a:`e} {o:Obj},`aaE->`I7->`we≠`dk
 | [],_,_,_,h=>nomatch h
 | (b,u)::K,a,o,h,e=>by
  unfold cf0 at h;rw[`a?] at h;rw[`fX] at e;split at e
  ·cases e
   intro z;rw[z] at h;exact `I h.1 `p
  ·exact Xe0 h.2 e
theorem script_at(hK:`aaE)(h:`oA):SqL' K H `uZ a xs:=by
 rcases h with h|⟨o,its,n,e,c,_⟩
 ·exact `o ⟨`wi,h⟩
 ·exact `I c (Xe0 hK e)
theorem Q10{l:`Yu}{n k:Nat}{q:`ao}{loose:`g}{XP:`Iu}{YP:`Iv}{d:DefRec}{K:`avd}{CX:CXT}{sp:`y->Sp}{x:Str}
  (hn:`Kb) (hn2:`us) (hdf:`Yn) (hr:`Yq) (hY:`ave)
  (F:∀(w:`P) (mg:`bx) (fa:`e) (h:`Q),`wV h->`Ke->`Yo ->
   ∃fd:`ho,(`Yr)/\∀base:`Q,`wV `m->`zy->`R `ag w `rY mg `m CX k fa fd [x] (sp `rY))
  (hsp:∀(w:`P) (H:Hp) (a:`e) (ns:`_),`Ag->`avf->sp `rY `eU H `Kc `lJ)
  (hCX:∀(H:Hp) (s:`v) (e:`E) (s':`v),CX [] H s (`lJ) e s'->`bR):`avg :=
 Py0 (K:=K) (CX:=λ_=>CX) (sp:=λw=>sp `rY) hn hn2 hdf hr hY F (λw H a ns h1 _ h3=>hsp w H a ns h1 h3) λ_ H s e s'=>hCX H s e s'
universe DL
namespace L2
open Spec PyProof.Rows
noncomputable def SubO.ho:`dj->HO
 | `cN=>`cN
 | `wN=>`wN
 | `kO=>`kO
theorem SubO.no_own(o:`dj)(x:`e):o.ho≠`f5 x:=by cases o<;>exact λz=>nomatch z
theorem SubO.no_tup(o:`dj)(xs:`K):o.ho≠`ei:=by cases o<;>exact λz=>nomatch z
theorem SubO.no_frz(o:`dj)(ob:Obj)(u:HO):o.ho≠`PM:=by cases o<;>exact λz=>nomatch z
theorem SubO.no_tbl(o:`dj)(ps:`aI):o.ho≠`PO:=by cases o<;>exact λz=>nomatch z
theorem wd0:∀{l:`t_} {k:`e} {v:`dj},l.lookup k=`bX->`Dr∈l
 | [],_,_,h=>by cases h
 | (k',v')::l,k,v,h=>by
  rw[`fX] at h;cases q:k==k' with
  | true =>
   rw[q] at h;cases h;rw[`um q];exact A6
  | false =>
   rw[q] at h;exact A4 _ (wd0 h)
noncomputable def opened(H:Hp)(sub:`t_):Hp:=λb=>match `jy with
 | `aj=>`a o.ho
 | `c=>H b
noncomputable def closed(H:Hp)(a:`e)(sub:`t_):Hp:=λb=>if b=a then `Br else match `jy with
 | `a _=>`mc
 | `c=>H b
section
variable{P:`ao}{w:`P}{h:`Q}
theorem HOk.opened(x:`e7)(ha:H a=`Br)(hin:`Ml)(hdx:`aGS):HOk P w (L2.opened H sub) h:=λb u e=>by
 obtain⟨_,all⟩:(`IF)/\∀p∈sub,`apJ:=x a _ ha;unfold L2.opened at e;cases l:`jy with
 | some o =>
  rw[l] at e;have e:=`lG;subst e;have m:=wd0 l;obtain⟨_,q⟩:=all _ m;cases o with
  | lst xs=>exact q
  | dK kvs=>exact q
  | ins C dx fs =>
   obtain⟨rfl,d,z,ne,e,r⟩:=q;refine⟨?_,z,ne,e,r⟩;unfold L2.opened;rw[hdx _ C dx fs m];exact d
 | none =>
  rw[l] at e;have J:`k4:=λz=>by rw[z] at l;rw[l] at hin;cases hin
  refine`V! (`rx) (λc q=>?_) (λc xs q=>?_) λc ob u' q=>?_
  ·unfold L2.opened
   cases lc:`qT with
   | none=>exact q
   | some o =>
    rcases `aaF with z|z
    ·have z:c=a:=z
     rw[z,ha] at q;cases q
    ·have z:`aaG:=z
     rw[z] at q;cases q;exact `I rfl J
  ·unfold L2.opened
   cases lc:`qT with
   | none=>exact q
   | some o =>
    rcases `aaF with z|z
    ·have z:c=a:=z
     rw[z,ha] at q;cases q
    ·have z:`aaG:=z
     rw[z] at q;cases q
  ·unfold L2.opened
   cases lc:`qT with
   | none=>exact q
   | some o =>
    rcases `aaF with z|z
    ·have z:c=a:=z
     rw[z,ha] at q;cases q
    ·have z:`aaG:=z
     rw[z] at q;cases q
theorem SubO.there{b:`e}(o:`dj)(x:`ct P w H h b o.ho):∃ob,`oo=`II:=by
 cases o with
 | lst xs=>obtain⟨_,_,_,_,e⟩:=x;exact`J0
 | dK kvs=>obtain⟨_,_,_,_,_,_,_,e,_⟩:=x;exact`J0
 | ins C dx fs=>obtain⟨_,_,_,e,_⟩:=x;exact`J0
theorem HOk.closed(x:`e7)(ha:`Ml)(hs:∀p∈sub,`rm=`a p.2.ho)(hi:∀p∈sub,`aGT):HOk P w (`FE H a sub) h:=λb u e=>by
 have J:∀{c:`e} {o:`dj},`qT=`aj->H c=`a o.ho:=λl=>hs _ `SF
 have own:∀c y,H c=`Wc->`aaH=`Wc:=λc y q=>by
  unfold L2.closed;have hc:c≠a:=λz=>by
   cases l:`sB with
   | none=>rw[l] at ha;cases ha
   | some o=>rw[z,J l] at q;exact `aGU o y `u_
  rw[`Al];cases l:`qT with
  | none=>exact q
  | some o=>rw[J l] at q;exact `I `u_ (`aGU o y)
 have tup:∀c xs,H c=`gP->`aaH=`gP:=λc xs q=>by
  unfold L2.closed;have hc:c≠a:=λz=>by
   cases l:`sB with
   | none=>rw[l] at ha;cases ha
   | some o=>rw[z,J l] at q;exact `aaI o xs `u_
  rw[`Al];cases l:`qT with
  | none=>exact q
  | some o=>rw[J l] at q;exact `I `u_ (`aaI o xs)
 have frz:∀c ob u',H c=`We->`aaH=`We:=λc ob u' q=>by
  unfold L2.closed;have hc:c≠a:=λz=>by
   cases l:`sB with
   | none=>rw[l] at ha;cases ha
   | some o=>rw[z,J l] at q;exact `aGV o ob u' `u_
  rw[`Al];cases l:`qT with
  | none=>exact q
  | some o=>rw[J l] at q;exact `I `u_ (`aGV o ob u')
 by_cases hb:b=a
 ·subst hb
  have e:`FE H b sub b=`bi:=e;unfold L2.closed at e;rw[`bm] at e;have e:=`lG;subst e;refine⟨?_,λp hp=>`Kn⟩
  ·cases l:`jy with
   | none=>rw[l] at ha;cases ha
   | some o=>exact `aGW
  ·by_cases z:p.1=b
   ·exact `fA
   ·refine `n ?_
    unfold L2.closed;rw[`iX];cases l:`xJ p.1 with
    | none =>
     exact `I l (by
      intro l;rw[List.lookup_eq_none_iff] at l;have:=l p hp;simp at this)
    | some o=>rfl
  ·have q:=x p.1 _ (hs p hp)
   obtain⟨pa,po⟩:=p;cases po with
   | lst xs=>exact q
   | dK kvs=>exact q
   | ins C dx fs =>
    have M:pa=b:=hi _ hp C dx fs rfl;subst M;obtain⟨d,z,ne,e,r⟩:=q;exact⟨rfl,own _ _ d,z,ne,e,r⟩
 ·have e:`aGX=`bi:=e
  unfold L2.closed at e;rw[`hw] at e;cases l:`jy with
  | some o =>
   rw[l] at e;have e:=`lG;subst e;exact `aGW
  | none =>
   rw[l] at e;exact`V! (`rx) (λc q=>own c b q) (λc xs q=>tup c xs q) λc ob u' q=>frz c ob u' q
universe zz
section
variable{σ:St}{s:`v}
theorem Inv.view(I:`B)(no:∀b,`ap?)(tp:`IG)(fz:`Wf)(tb:∀b ps,H b=`PP->`hJ=`PP)
  (hok:HOk `aZ X.w H' `aE):Inv X `i σ H' s :=
 ⟨I.ok,`nD,`iI,⟨`PT,`PU,λb o e n hx=>no b `IT,`ag?,λb xs e=>tp b xs (`PY b xs e),λb o u e=>fz b o u (`PZ b o u e),λb ps e=>let ⟨m,q⟩:=`aqc;⟨m,tb _ _ q⟩⟩,
  `gS,`kF,no _ `hq,λx c e=>no _ `IQ,λp hp=>let ⟨e,n,r⟩:=`zE;⟨e,no _ n,r⟩,hok,`eN⟩
universe zz
structure OpenOk(H:Hp)(a:`e)(sub:`t_):Prop where
 at':H a=`Br
 root:`Ml
 dx:`aGS
structure CloseOk(H:Hp)(a:`e)(sub:`t_):Prop where
 root:`Ml
 at':∀p∈sub,`rm=`a p.2.ho
 ins:∀p∈sub,`aGT
section
variable{σ:St}{s:`v}
theorem Inv.opened(I:`B)(o:`aGY):Inv X `i σ `aGZ s:=by
 obtain⟨_,all⟩:`aaJ/\∀p∈sub,`aaK:=`bY a _ o.at';have no:∀{b:`e} {so:`dj},`jy=`sC->H b=`Br∨`C2:=λ{b so} l=>by
  rcases (all _ `SF).1 with z|z
  ·have z:b=a:=z
   rw[z];exact `o o.at'
  ·exact `n z
 have other:∀b u,H b=u->u≠`Br->u≠`mc->L2.opened H sub b=u:=λb u q n1 n2=>by
  unfold L2.opened;cases l:`jy with
  | none=>exact q
  | some so =>
   rcases no l with z|z
   ·exact `I (`SE z) n1
   ·exact `I (`SE z) n2
 exact I.view (λb q=>`Mm) (λb xs q=>`Mm) (λb o u q=>`Mm) (λb ps q=>`Mm) (I.hok.opened o.at' o.root o.dx)
theorem Inv.closed(I:`B)(c:`lY):Inv X `i σ `lZ s:=by
 have other:∀b u,H b=u->(`aG_)->`aGX=u:=λb u q n=>by
  have nl:`aG0:=`aG1
  unfold L2.closed;have hb:`k4:=λz=>by
   cases l:`sB with
   | none=>have:=`Mn;rw[l] at this;cases `A
   | some so=>exact `aG2
  rw[`hw];cases l:`jy with
  | none=>exact q
  | some so=>exact `aG3
 exact I.view (λb q=>`xK b _ q λso z=>nomatch z) (λb xs q=>`xK b _ q `aG4) (λb o u q=>`xK b _ q `aG5) (λb ps q=>`xK b _ q `aG6) (I.hok.closed `Mn c.at' c.ins)
universe zz
noncomputable def Ends.closing(a:`e)(D:`j6):`j6 where
 nx:=fun σ H=>∃sub,`lY/\`i' σ `lZ
 bk:=fun σ H=>∃sub,`lY/\D.bk σ `lZ
 ct:=fun σ H=>∃sub,`lY/\D.ct σ `lZ
 rt:=λv H=>∃sub,`lY/\D.rt v `lZ
section
variable{st:`e6}{t:TS}
theorem SP.closing{D:`j6}{f:Flow}(h:SP X `i `aG7 f s'):`aq_:=by
 cases f with
 | next=>obtain⟨σ',H',I,sub,c,k⟩:=h;exact`aaL
 | brk=>obtain⟨σ',H',I,sub,c,k⟩:=h;exact`aaL
 | cont=>obtain⟨σ',H',I,sub,c,k⟩:=h;exact`aaL
 | ret u=>obtain⟨v,σ',H',I,r,sub,c,k⟩:=h;exact⟨v,σ',_,`FH,r,k⟩
theorem j30(h:`fV):PE X e (fun σ H Q=>∃a sub,`lY/\te σ `lZ λv H'=>∃sub',`FF H' a sub'/\Q v (`g6 H' sub')):=λpins s σ H Q I ⟨a,sub,c,q⟩ =>
 thn (h `i s σ _ _ (`FH) q) λu s' ⟨v,H',I',r,sub',o,k⟩=>`akH
universe zz
universe L2
namespace DL
open Spec PyProof.Rows L2
noncomputable def v8(p:`e)(b:D):D:=`t [`d `pF,b]
theorem mb0{p:`e}{b:D}:RpL K H B (v8 p b) a↔a=p/\RpG K H B b a:=by
 constructor
 ·rintro (⟨d',e,h⟩|⟨ks,vs,e,_⟩|⟨x,ns,e,_⟩)
  ·cases e
   exact⟨rfl,h⟩
  ·cases e
  ·cases e
 ·rintro⟨rfl,h⟩
  exact `o ⟨b,rfl,h⟩
theorem RpG.less{d:D}(l:`uy)(h:`lS):RpG K H B' d a:=`_d (λ_ e=>e) (`h3 l) h
inductive ResB where
 | nx (δ:Ds)|rt (d:D) (δ:Ds)
abbrev GSB:=Ds->`l_
noncomputable def Kr0(K:`y)(H₀:Hp)(B₀:BS)(D:`j6):ResB->Prop
 | `Q0=>`axK
 | .rt d δ=>∀v σ H,`A!->D.rt v H
variable{Ga Gb:DL.GSB}
noncomputable def tDB(K:`y)(H₀:Hp)(B₀:BS)(δ:Ds)(G:GSB):TS:=λD σ H=>∃r,`cz/\G δ=`gl/\Kr0 K `Y `S D r
structure PSB(X:Cx)(st:`bw)(G:GSB):Prop where
 mk::go:∀H₀ B₀ δ,PS X st `aG8
structure PSsB(X:Cx)(st:`e6)(G:GSB):Prop where
 mk::go:∀H₀ B₀ δ,PSs X st `aG8
noncomputable def d7(G:GS):GSB:=fun δ=>match G δ with
 | `d4=>`d4
 | _=>`c
noncomputable def nilB:GSB:=`awm
noncomputable def p8(G1 G2:GSB):GSB:=fun δ=>match `mx with
 | `d4=>`Aq
 | r=>r
noncomputable def U7(gx:GX):GSB:=fun δ=>`AU λr=>.rt r.1 r.2
noncomputable def ifB(gt:GB)(Ga Gb:GSB):GSB:=`awn
section
variable{st:`bw}{as bs:`e6}{G1 G2:GSB}{gt:GB}
theorem Z1(h:`Zk):PSB X st (d7 G):=.mk λH₀ B₀ δ pins s σ H D I hq141=>by
 obtain⟨r,en,e,k⟩:=hq141
 unfold d7 at e;split at e
 ·rename_i δ' e1
  cases e;exact h.go `Y `S δ `i s σ H D I `Ro
 ·cases e
theorem p7:`jz X [] `G:=.mk λH₀ B₀ δ pins s σ H D I hq142=>by
 obtain⟨r,en,e,k⟩:=hq142
 cases e;exact `axQ
theorem u6(h1:PSB X st G1)(h2:`jz X `a7 G2):`jz X (st::`a7) (p8 G1 G2):=.mk λH₀ B₀ δ pins s σ H D I hq143=>by
 obtain⟨r,en,e,k⟩:=hq143
 unfold p8 at e;cases e1:`mx with
 | none=>rw[e1] at e;cases e
 | some r1 =>
  rw[e1] at e;cases r1 with
  | nx δ'=>exact zv0 `aG9 (h2.go `Y `S δ') `i s σ H D I `axR
  | rt d δ'=>cases e;exact zv0 `aG9 sb0 `i s σ H D I `Ro
theorem Y5(h:`n0):PSB X `ql (U7 gx):=.mk λH₀ B₀ δ pins s σ H D I hq144=>by
 obtain⟨r,en,e1,k⟩:=hq144
 unfold U7 at e1;cases e2:`eW with
 | none=>rw[e2] at e1;cases e1
 | some q =>
  rw[e2] at e1;cases e1;exact pj0 `n2 `i s σ H D I ⟨q,en,e2,λv H' ev=>k v σ H' ev⟩
theorem Q6(hc:`KU)(ha:`aG')(hb:`aG!):PSB X `Zn (ifB gt Ga Gb):=.mk λH₀ B₀ δ pins s σ H D I hq145=>by
 obtain⟨r,en,e1,k⟩:=hq145
 unfold ifB at e1;obtain⟨B,b1,b2,env⟩:=`aK;cases e2:`fy with
 | none=>rw[e2] at e1;cases e1
 | some t =>
  rw[e2] at e1;refine Xz0 (hc B δ) `Mo `aG? `i s σ H D I `axV;cases t with
  | true=>exact`KV
  | false=>exact`KV
universe zz
noncomputable def spB(K:`y)(j:Nat)(f:`aM):Sp:=λvs H Q _=>∃(B:BS) (ds:`j) (us:`K) (p:`e) (b b' r:D),`qD/\B p/\vs=`aHa/\`Bs/\Rps K H B ds us/\RpG K H B b p/\`aaM /\
 ∀v H',`Mh->RpG K H' B b' p->Rp K H' B r v->`rA
structure FnB(P:`ao)(w:`P)(K:`y)(mg:`bx)(base:`Q)(x:Str)(k:Nat)(ps:`g)(j:Nat)(f:`aM):Prop where
 ex:∃fa fd,`R P w K mg `m CX0 k fa fd ps `aHb/\`ZP
@[simp] noncomputable def z90(N:`g)(j:Nat)(p:`e)(b:D)(ds:`j):Ds:=`aHc .sh++.ow (v8 p b)::(`aHd .sh++`aL (`z7 - (`FK)) .un)
theorem mi0{p:`e}{b:D}{d:D}(hj:`Bs)(h:`pl[i]?=`sg):i=j/\d=v8 p b:=by
 unfold z90 at h;have hl:(`aHc `lv).length=j:=`aHe
 have J:∀(l:`j) (i:Nat),(`er `lv)[i]?≠`sg:=λl i z=>by
  rw[`ca] at z;cases q:`Ek with
  | none=>rw[q] at z;cases z
  | some x=>rw[q] at z;cases z
 by_cases hi:i<j
 ·rw[`hT (by rw[hl];exact hi)] at h
  exact `aHf
 ·rw[`rM `aHg,hl] at h
  cases q:i - j with
  | zero=>rw[q] at h;cases h;exact⟨`C,rfl⟩
  | succ n =>
   rw[q,`aHh] at h
   by_cases hn:n<(`aHd `lv).length
   ·rw[`hT hn] at h
    exact `aHf
   ·rw[`Mp,`qo] at h
    split at h<;>cases h
noncomputable def EndB(G:GSB)(δ:Ds)(j:Nat)(p:`e)(r b':D):Prop:=(∃δ',G δ=`a (.rt r δ')/\`Mq)∨(r=`u/\∃δ',`aaN/\`Mq)
section
variable{P:`ao}{w:`P}
theorem okB{st:`bw}{ps:`g}{k j:Nat}{f:`aM}{G:GSB}(F:`ZD)(S:`Kg)
  (body:∀(cdv:`E) (A:`cl) (outer:`aje) (s:`v) (H:Hp) (E:XK),`ajf->`jz `ajg `wW G)
  (hf:∀b ds r b',`aaM->`FK=`ax/\`aaO) :
  `R P w K mg `m CX0 `eS fa fd ps `aHb:=by
 refine F.ok S (λvs H Q E ⟨B,ds,us,p,b,b',r,_,_,hv,_,hr,_,h,_⟩=>?_) (λcdv A outer s H vs Q E hr ⟨B,ds,us,p,b,b',r,hb,hp,hv,hj,rs,ro,h,q⟩=>?_)
 ·rw[hv,`Z,`V,`dJ,`jJ,hr.length]
  have:=(`aHi).1;omega
 ·subst hv
  refine⟨_,(`f' cdv A `cv s H E hr).go `Mr `aHj `pl,?_⟩;have sm:`c8 `Mr H:=⟨λb o e=>by
   by_cases z:b=p
   ·simp only[z,`fW] at e;cases e
   ·simp only[z,`cU] at e;exact e,λb o xs e=>by
   by_cases z:b=p
   ·exfalso
    rw[z] at e;exact `ajC o xs e
   ·simp only[z,`cU];exact e⟩
  have sb:∀{H':Hp},`c8 `Mr H'->`Mh:=λs'=>⟨λb o z e=>s' b o `aHk,λb o xs z e=>by have:=s'.nf b o xs e;simpa only [z,`cU] using `A⟩
  have O:(`FJ j).length=j:=by rw[`dJ,`Rq];omega
  have en:`cS K `Mr `aHj H (`RB N (`aHa)) `pl:=by
   refine⟨sm,⟨B,`aHl,`hZ,⟨?_,hb,λi j a U es h1 h2 _ _=>?_⟩⟩,λi U a h1 h2=>?_,`hZ⟩
   ·by_cases q:a=p
    ·exact `n (by simp only[q,`fW])
    ·exact `_n
   ·unfold L2.start z90
    rw[`aN,`T,`bp,`fa,`Z,`V,`dJ,`jJ,`Rq];refine `h_ (sd0 (N:=N) (rs.take j)) (`ah ⟨p,rfl,hp,mb0.mpr ⟨rfl,ro⟩⟩ (`h_ (sd0 (N:=N) (rs.drop j)) ?_));rw[show min j `bk+(`bk - j+1)=`FK by omega];exact le0 _
   ·rw[(mi0 hj h1).1,(mi0 hj h2).1]
   ·obtain⟨rfl,_⟩:=mi0 hj h1
    have:(`RB N (`FJ i++`fu::`SH i))[i]?=`a `RQ:=by
     unfold L2.start;rw[`aN,`bp,`rM `iw,`F,O,`l0];rfl
    rw[`A] at h2;cases h2;simp only[`fW]
   ·simp only[z.2,`cU]
    exact hb a z.1
  rcases (`aHi).2 p with⟨δ',e,e'⟩|⟨rn,δ',e,e'⟩
  ·refine⟨_,en,e,λv σ' H' ev=>?_⟩
   obtain⟨B',c1,c2,J,rv⟩:=`l1;obtain⟨a,h1,hB,rl⟩:=J.at e';obtain⟨rfl,M⟩:=mb0.mp rl;have less:`aHm:=λx z=>by
    by_cases q:x=a
    ·rw[q];exact hB
    ·exact `aaP
   exact q v H' (sb `Ms) (M.less less) (`Mt (`h3 less))
  ·refine⟨_,en,e,fun σ' H' en'=>?_⟩
   obtain⟨B',c1,c2,J⟩:=en'.ex;obtain⟨a,h1,hB,rl⟩:=J.at e';obtain⟨rfl,M⟩:=mb0.mp rl;have less:`aHm:=λx z=>by
    by_cases q:x=a
    ·rw[q];exact hB
    ·exact `aaP
   exact q `u H' (sb en'.same) (M.less less) (by rw[rn,V6])
universe zz
noncomputable def mkB(n:Nat)(N:`g)(j:Nat)(G:GSB)(b:D)(ds:`j):`akC:=by
 classical exact if h:`u0/\`aHn then `a (Classical.choose h.2) else none
theorem M5{G:GSB}{b:D}{r:D}(h:`aaQ):`u0/\`aaO:=by
 unfold mkB at h;split at h
 ·rename_i hh
  have e:=`pg;have:=Dh0 hh.2;rw[e] at this;exact⟨hh.1,`A⟩
 ·cases h
theorem EndB.one{G:GSB}{δ:Ds}{p:`e}{r b r':D}(h:EndB G δ j p r b)(h':EndB G δ j p r' b'):r=r'/\b=b':=by
 have lb:∀{δ1:Ds},δ1[j]?=`aHo->δ1[j]?=`akD->b=b':=λe1 e2=>by
  rw[e1] at e2;have e8:=A3 e2;injection e8 with e9
  unfold v8 at e9;injection e9 with e10
  exact(d5 (d5 e10).2).1
 rcases h with⟨δ1,e1,e2⟩|⟨rn,δ1,e1,e2⟩<;>rcases h' with⟨δ2,e3,e4⟩|⟨J,δ2,e3,e4⟩<;>rw[e1] at e3
 ·have e5:=A3 e3
  injection e5 with e6 e7
  subst e7;exact⟨e6,lb e2 e4⟩
 ·cases e3
 ·cases e3
 ·have e5:=A3 e3
  injection e5 with e7
  subst e7;exact⟨rn.trans J.symm,lb e2 e4⟩
theorem ik0{G:GSB}{b:D}{r:D}(hl:`u0)(h:`aaO):`aaQ:=by
 have hh:`u0/\`aHn:=⟨hl,(r,b'),h⟩;unfold mkB;rw[dif_pos hh];obtain⟨e1,e2⟩:=(Dh0 hh.2 0).one (h 0);exact C1 `a (Prod.ext e1 e2)
noncomputable def xz0:`Ks->`aT (D×(`kf))
 | `aHp=>`a (`SM,`Mu)
 | `a (.ow `yo)=>`a (`sD,`Mu)
 | `a `aHq=>`a (`xL,`Mu)
 | `a (.ow (`t [`Bt,b]))=>`a (b,λd=>`t [`Bt,d])
 | _=>`c
theorem vm0{s:`Ks}{bm:D×(`kf)}(h:xz0 s=`a bm):∃d0,s=`ajB/\∀(K:`y) (H:Hp) (B:BS) (a:`e),RpL K H B d0 a->RpG K H B `kp a/\∀(H':Hp) (B':BS) (b':D),RpG K H' B' b' a->RpL K H' B' (bm.2 b') a:=by
 unfold xz0 at h;split at h
 ·cases h
  exact`aHr
 ·cases h
  exact`aHr
 ·rename_i x ns
  cases h;refine⟨_,rfl,λK H B a r=>⟨?_,`akF⟩⟩;rcases r with⟨d',e,h⟩|⟨ks,vs,e,_⟩|h
  ·cases e
  ·cases e
  ·exact h
 ·rename_i p b
  cases h;refine⟨_,rfl,λK H B a r=>?_⟩;rcases r with⟨d',e,h⟩|⟨ks,vs,e,_⟩|⟨x,ns,e,_⟩
  ·cases e
   exact⟨h,λH' B' b' r'=>`o ⟨b',rfl,r'⟩⟩
  ·cases e
  ·cases e
 ·cases h
noncomputable def O5(i:Nat)(gA:GA)(f:`aM):GX:=fun δ=>`Bu λb=>`aHs
structure PAB(X:Cx)(i j:Nat)(es:`bI)(gA:GA):Prop where
 mk::go:∀B δ,PA X es (fun σ H Q=>∃ds a,`RG/\`lQ/\`jn/\∀vs H',`a'->Rps X.K H' B ds vs->`Bs->Q `aHt H')
section
variable{g:GE}{gA:GA}{p:Pos}
theorem pab(i:Nat)(ha:`uB)(hN:`uu:=by rfl)(hv:`Mv:=by first|exact `a!|exact `dd|exact `de)(hd:`Aw:=by decide)(hcd:`Mw:=by decide)
  (hs:`cM (`FL::es) `x=(`q,`aaR)::`rB:=by rfl):PAB X i 0 (`FL::es) gA:=.mk λB δ=>(O9 `g4 `a4 hs).imp fun σ H Q hq146=>by
 obtain⟨ds,a,en,h,hi,k⟩:=hq146
 exact⟨_,hi,ds,en,h,λvs H' s r=>k vs H' s r `qr⟩
theorem tp0(i:Nat){k:Nat}{ps:`g}{f:`aM}(C:FnB `aZ X.w X.K `b7 `dW x k ps j f)(hj:∀b ds q,`SI=`se->`Bs)(hr:`AT)(hk:k<=m)(ha:PAB X i j `gd gA)
  (hg:`cI:=by rfl) (hdb:`aJ:=by decide) (he:`d?:=by rfl) (hpl:`gF:=by rfl) :
  PX X `wC (O5 i gA f):=.mk λH₀ B₀ δ pins s σ H Q I hq147=>by
 obtain⟨r,en,e1,kk⟩:=hq147
 unfold O5 at e1;obtain⟨B,b1,b2,env⟩:=`aK;obtain⟨fa,fd,F,hm,Y,hb⟩:=C.ex;cases eb:`g7 with
 | none=>rw[eb] at e1;cases e1
 | some bm =>
 rw[eb,`f] at e1;obtain⟨d0,hi,U⟩:=`qU;cases e2:`b! with
 | none=>rw[e2] at e1;cases e1
 | some ds =>
 rw[e2,`f] at e1;cases e3:f `kp ds with
 | none=>rw[e3] at e1;cases e1
 | some q =>
 rw[e3] at e1;cases e1;obtain⟨a,J,hB,ro⟩:=`hz;obtain⟨h1,h2⟩:=`aHu;refine(k20 (E:=E0) F `qI hg hm Y hb `O n80 `Bv hdb he hpl) `i s σ H Q I ⟨ds,a,env,e2,J,λvs H1 s1 r1 _=>?_⟩;show spB X.K j f (`aHt++[]) H1 _ _;rw[`cZ];refine⟨B,ds,vs,a,`kp,q.2,q.1,`aHv,hB,rfl,hj _ _ _ e3,r1,`aHw,e3,λv H' hh Z rv=>?_⟩;have O:`Mi:=`aHx;have M:`aaS:=`u1 hi J O (h2 H' B q.2 Z);exact `aHy
universe zz
noncomputable def putL(i:Nat)(g:GE):`aS:=λv δ=>match `cj with
 | `a (.ow (`t [`Bt,`Ay]))=>`cq λd=>`K9 λk=>if `gh<`L then `a (`a0 i (.ow (`t [`Bt,`cy `aHz (xg0 ks ds k v)]))) else `c
 | _=>`c
section
variable{g:GE}
theorem Rd0(i:Nat)(hu:`kl)(h:`cc)(hN:`b4:=by rfl)(hv:`dS:=by first|exact `a!|exact `dd|exact `de)(hd:`aJ:=by decide)(hcd:`dT:=by decide)
  (ha:∀v,`_s=(do
   let ov ← `_t
   let iv ← `_u
   `I'
   `I!
   `I?):=by intro _;rfl):PTG X `E6 (putL i g):=.mk λH₀ B₀ d δ pins s σ H v u Q I r hq148=>by
 obtain⟨δ',en,e1,k⟩:=hq148
 unfold putL at e1;obtain⟨B,b1,b2,env,rv⟩:=`aK;split at e1
 ·rename_i p' ks ds hi
  cases e3:`ar with
  | none=>rw[e3] at e1;cases e1
  | some dk =>
   rw[e3] at e1;simp only[`f] at e1;cases e4:`FC with
   | none=>rw[e4] at e1;cases e1
   | some q =>
    rw[e4] at e1;simp only[`f] at e1;split at e1
    ·rename_i hz
     cases e1;obtain⟨a,J,hb,⟨d',hq,hr⟩|⟨_,_,hq,_⟩|⟨_,_,hq,_⟩⟩:=`hz
     rotate_left
     ·cases hq
     ·cases hq
     cases hq;obtain⟨xs,hx,hl,rx⟩:=hr;have hl:`r8:=hl;refine `aDf;have:=p40 e4 r1;subst this;obtain⟨ys,hy,Y,O,U⟩:=`aDg;refine`aDh;have rr:Rps X.K H1 B (xg0 ks ds q d) ys:=by
      unfold xg0;cases hk:`qK with
      | true=>rw[`bm,O hk];exact `aDi
      | false=>rw[`kn,U hk];exact `aDj
     rw[hy];have M:Env X.K (upd H1 a (.dK (`aDa))) B σ (`a0 i (.ow (`t [`GJ,`cy (`o (`R')) (xg0 ks ds q d)]))):=`Ba hi J (`o ⟨`cy (`o _) _,rfl,`aDl⟩);exact `_v
    ·cases e1
 ·cases e1
universe zz
theorem o10{G:GSB}{b:D}{q:D×D}(hn:j+1<=n)(h:`SL=`se):`Bs:=by
 have:=(M5 (r:=q.1) (b':=q.2) h).1;omega
universe DL
variable{Ga Gb:DL.GSB}
namespace L2
open Spec PyProof.Rows
section
variable{st:`bw}{t:TS}
theorem U8(h:`fV):PE X e (fun σ H Q=>te σ H λv H'=>∃a sub,`aHA/\Q v (`g6 H' sub)):=λpins s σ H Q I q =>
 thn `aaT `aHB
theorem M9(h:`fV):PE X e (fun σ H Q=>te σ H `aHC):=λpins s σ H Q I q =>
 thn `aaT λu s' ⟨v,H',I',r,a,sub,o,k⟩=>⟨v,_,I'.closed o,r,k⟩
theorem ra0(h:PS X st t):PS X st (λD σ H=>∃a,t `aG7 σ H):=λpins s σ H D I ⟨a,q⟩ =>
 thn `aaT λf s' z=>SP.closing z
universe zz
universe L2
namespace DL
open Spec PyProof.Rows L2
noncomputable def Q5(k:Nat):D:=`t `aHD
theorem w90(k:Nat):ye0 `aHD=`fz:=by
 show (if ("@" : Str) = "@" then `a (k:Int).toNat else `c)=_;rw[`bm];rfl
mutual
noncomputable def nrf:`dc
 | `b0=>(`jk).isNone&&`SN
 | _=>`b
noncomputable def vk0:`AV
 | []=>`b
 | `as=>nrf d&&`SN
end
section
theorem wg0:`kY K H B as [] xs=(`un):=by unfold RpNs;rfl
theorem G5{d:D}:`kY K H B as `jO xs=`aw6:=by conv=>lhs;unfold RpNs
theorem xn0:RpN K H B as `r2 v=(`aw5):=by conv=>lhs;unfold RpN
theorem S7:∀{ds:`j} {xs:`K},`g_↔`bB (RpN K H B as) ds xs
 | [],xs=>by
  rw[wg0];constructor
  ·rintro rfl;exact `O
  ·intro h;cases h;rfl
 | `as,xs=>by
  rw[G5];constructor
  ·rintro⟨x,r,rfl,h1,h2⟩;exact `ah h1 (`pn h2)
  ·intro h;cases h with
   | cons h1 h2=>exact⟨_,_,rfl,h1,`qV h2⟩
mutual
theorem bm0:∀{d:D} {v:V},`kq->`kh->`ci
 | `u,_,_,h=>`Mx
 | `bA,_,_,h=>`Mx
 | `b?,_,_,h=>`Mx
 | `br,_,_,h=>`Mx
 | `b0,_,n,h=>by
  unfold nrf at n;rw[`a?] at n;rw[xn0] at h;rw[V3];rcases h with⟨k,a,e,_⟩|⟨_,a,xs,e,q,r⟩
  ·rw[e] at n;cases n.1
  ·exact⟨a,xs,e,q,oj0 n.2 r⟩
 | `ch,_,_,h=>`aaU
 | `kg,_,_,h=>`aaU
 | `qA,_,_,h=>`aaU
theorem oj0:∀{ds:`j} {xs:`K},`aaV->`g_->`a1
 | [],_,_,h=>by rw[wg0] at h;rw[n6];exact h
 | `as,_,n,h=>by
  unfold vk0 at n;rw[`a?] at n;rw[G5] at h;obtain⟨x,r,e,h1,h2⟩:=h;rw[o6];exact⟨x,r,e,bm0 n.1 h1,oj0 n.2 h2⟩
end
mutual
theorem mj0:∀{d:D} {v:V},`kq->`ci->`kh
 | `u,_,_,h=>`My
 | `bA,_,_,h=>`My
 | `b?,_,_,h=>`My
 | `br,_,_,h=>`My
 | `b0,_,n,h=>by
  unfold nrf at n;rw[`a?] at n;rw[V3] at h;rw[xn0];obtain⟨a,xs,e,q,r⟩:=h;refine `n ⟨?_,a,xs,e,q,o80 n.2 r⟩;cases z:`jk with
  | none=>rfl
  | some k=>rw[z] at n;cases n.1
 | `ch,_,_,h=>`aaW
 | `kg,_,_,h=>`aaW
 | `qA,_,_,h=>`aaW
theorem o80:∀{ds:`j} {xs:`K},`aaV->`a1->`g_
 | [],_,_,h=>by rw[n6] at h;rw[wg0];exact h
 | `as,_,n,h=>by
  unfold vk0 at n;rw[`a?] at n;rw[o6] at h;obtain⟨x,r,e,h1,h2⟩:=h;rw[G5];exact⟨x,r,e,mj0 n.1 h1,o80 n.2 h2⟩
end
theorem RpN.same{d:D}(s:`a')(h:`kh):`aHE:=RpN.mono `r9 (`Eh) h
theorem RpNs.same(s:`a')(h:`g_):`kY K H' B as ds xs:=`Y0 `r9 (`Eh) h
theorem RpNs.atI{i:Int}{d:D}(r:`g_)(h:DL.atI ds i=`bd):∃v,`ZI=`bX/\`kh:=by
 have p:=`pn r;rw[Tq0];unfold DL.atI at h ⊢;rw[← `po p];cases e:ixN `bk i with
 | none=>rw[e] at h;cases h
 | some j =>
  rw[e,`f] at h;rw[`f];exact `mS p h
universe zz
theorem fk0:∀{as:`aU} {sos:`Az} {k:Nat} {c:`e} {so:`dj},`lR->`la->`mT->`aHF
 | [],_,_,_,_,_,h,_=>`hv
 | `db,[],_,_,_,_,_,h=>`hv
 | x::as,y::sos,0,c,so,_,h1,h2=>by
  simp at h1 h2;subst h1 h2;rw[`dB,`fX,`aCm]
 | x::as,y::sos,k+1,c,so,nd,h1,h2=>by
  rw[`aar] at nd;have h1':`la:=`rh
  have J:`aHG:=`mQ λz=>nd.1 (z▸C5 h1')
  rw[`dB,`fX,J];exact fk0 nd.2 h1' (`JG)
theorem y60:∀{as:`aU} {sos:`Az} {c:`e},c∉as->(`be).lookup c=`c
 | [],_,_,_=>`aW
 | `db,[],_,_=>`aW
 | x::as,y::sos,c,h=>by
  rw[`ff] at h;have hne:`aHG:=`aHH
  rw[`dB,`fX,hne];exact y60 `aHI
theorem vp0(hl:`KI){c:`e}(h:c∈as)(nd:`lR):∃so,`aHF:=by
 obtain⟨k,hk,e⟩:=Ao0.mp h;exact⟨sos[k],fk0 nd (by rw[`aaX,e]) (`aax)⟩
theorem RpW.in0(h:`fb):a∈as:=C5 h.hd
theorem RpW.openOk(h:`fb):`FF H a `d5:=by
 refine⟨`uz,?_,λb C dx fs hm=>y60 ?_⟩
 ·obtain⟨so,e⟩:=vp0 `ia h.in0 `g8
  rw[e];rfl
 ·obtain⟨k,hk,e⟩:=Ao0.mp hm
  rw[`aHJ] at e;have J:`Mz:=by rw[`h8] at hk;omega
  have e2:`aiX:=by rw[`jq J];exact C1 `a (d6 e).2
  obtain⟨n,_,hn⟩:=`w? h.all e2;unfold NodeOk at hn;split at hn
  ·obtain⟨xs,z,_⟩:=hn;cases z
  ·obtain⟨xs,z,_⟩:=hn;cases z
  ·obtain⟨C',O,M,xs,z,_,_,_,q,_⟩:=hn
   injection z with z1 z2 z3
   rw[z2];exact q
  ·exact hn.elim
theorem RpW.opAt(h:`fb){k:Nat}{c:`e}(h1:`la)(h2:`mT):`g6 H `d5 c=`FG:=by
 unfold opened;rw[fk0 `g8 h1 h2]
theorem w50{b:`e}(h:`MA):`aHK=H b:=by
 unfold opened;rw[y60 h]
theorem ei0{Ho:Hp}(off:∀b,`MA->Ho b=H b)(own:∀b∈as,`PJ)(hl:`KI)(nd:`lR)(ha:a∈as):`gp Ho a `d5=upd H a `aiW:=by
 funext b
 unfold closed upd
 by_cases hb:b=a
 ·rw[`iR,`iR]
 ·rw[`hw,`hw]
  by_cases hm:b∈as
  ·obtain⟨so,e⟩:=vp0 hl hm nd
   rw[e];rcases own b hm with z|z
   ·exact `aHL
   ·exact `oV
  ·rw[y60 hm]
   exact off b hm
theorem ri0{Ho:Hp}(hd:`aw!)(nd:`lR)(hl:`KI)(at':∀(k:Nat) c so,`la->`mT->Ho c=`FG)(ins:`aw?):`h' Ho a `d5:=by
 have ge:∀p∈`be,∃k,`Q!=`a p.1/\`Rc=`rs:=λp hp=>by
  obtain⟨k,hk,e⟩:=Ao0.mp hp;have J:=hk;rw[`h8] at J;rw[`aHJ] at e;exact⟨k,`aHM,`aHM⟩
 refine⟨?_,`fU,λp hp C dx fs e=>?_⟩
 ·obtain⟨so,e⟩:=vp0 hl (C5 hd) nd
  rw[e];rfl
 ·obtain⟨k,e1,e2⟩:=ge p hp
  exact at' k _ _ e1 e2
 ·obtain⟨k,e1,e2⟩:=ge p hp
  rw[e] at e2;rw[ins k _ _ _ e2,hd] at e1;exact(A3 e1).symm
theorem RpW.back(h:`fb):`h' `sE a `d5/\`gp `sE a `d5=H:=by
 refine⟨ri0 h.hd `g8 `ia (λk c so e1 e2=>`aHN) `AA,?_⟩;rw[ei0 (H:=H) (λb hb=>w50 hb) `aHO `ia `g8 h.in0]
 funext b
 unfold upd
 by_cases hb:b=a
 ·rw[`iR,hb,`uz]
 ·rw[`hw]
theorem RpW.same(s:`a')(h:`fb):RpW K H' B ns a as sos:=⟨h.hd,`g8,s _ _ `uz,λb hb=>`SO id λz=>⟨z.1,s _ _ z.2⟩,`ia,sy0 (λ_ _ r=>`cR `r9) h.all,`AA⟩
theorem RpW.put(h:`fb)(hB:B a){k:Nat}{c:`e}{so':`dj}(h1:`la)(h2:`mT)(r:`g0 K H B as n' so')(hi:`aHP) :
  `h' `aHQ a `SP/\`gp `aHQ a `SP=`aHR /\
   RpW K (`aHR) B `aHS a as (`FM):=by
 have hl:`g1=(`FM).length:=by rw[`uq];exact `ia
 have hk:`Mz:=(`cL h2).1;have ins:∀(j:Nat) C dx fs,(`FM)[j]?=`mi->j=0:=λj C dx fs e=>by
  rcases `g3 e with⟨rfl,e,_⟩|⟨_,e⟩
  ·exact hi C dx fs e
  ·exact `AA j C dx fs e
 refine⟨ri0 h.hd `g8 hl (λj d s e1 e2=>?_) ins,ei0 (`gD) `aHO hl `g8 h.in0,h.hd,`g8,j9,`gD,hl,?_,ins⟩
 ·rcases `Lm with⟨rfl,e,_⟩|⟨n,e⟩
  ·rw[h1] at e1
   cases e1;rw[j9,e]
  ·have:d≠c:=λz=>by
    obtain⟨g1,g2⟩:=`cL h1;obtain⟨g3,g4⟩:=`cL e1;exact n ((x8 `g8).mp (g2.trans (z▸g4.symm)))
   rw[`_j];exact h.opAt e1 e
 ·have:b≠c:=λz=>hb (z▸C5 h1)
  rw[`_j];exact w50 hb
 ·rcases `aiY with z|z
  ·exact `fA
  ·by_cases q:b=a
   ·exact `nE
   ·exact `n ⟨z.1,by rw[d9 q];exact z.2⟩
 ·exact `qC (`aHT) k (sy0 (λ_ _ r=>`aHT) h.all)
noncomputable def dpN(i:Nat)(δ:Ds):`oX:=`Bu λb=>match b.1 with
 | `t (`br::ns)=>`a ns
 | _=>`c
noncomputable def setN(i k:Nat)(n:D)(δ:Ds):Ds:=match `g7 with
 | `SW=>`a0 i (.ow (mk (`t (`bH::`SQ k n))))
 | _=>δ
structure AtN(K:`y)(H:Hp)(B:BS)(σ:St)(δ:Ds)(i:Nat)(a:`e)(ns:`j)(as:`aU)(sos:`Az):Prop where
 sl:`jn
 bad:B a
 dp:`FY
 w:`fb
section
variable{σ:St}{δ:Ds}
theorem Env.atN(e:`bh)(h:`FY):∃a as sos,`qW:=by
 have h0:=h;unfold dpN at h;cases eb:`g7 with
 | none=>rw[eb] at h;cases h
 | some bm =>
  rw[eb,`f] at h;obtain⟨d0,hi,J⟩:=`qU;obtain⟨a,M,hB,ro⟩:=`Ll;obtain⟨h1,_⟩:=J _ _ _ _ ro;split at h
  ·rename_i x ns' hbm
   cases h;rw[hbm] at h1;obtain⟨y,ms,e1,as,sos,w⟩:=h1;cases e1;exact⟨a,as,sos,M,hB,h0,w⟩
  ·cases h
theorem AtN.same(s:`a')(h:`qW):AtN K H' B σ δ i a ns as sos:=⟨h.sl,h.bad,h.dp,h.w.same s⟩
theorem Env.setN(e:`bh)(h:`qW){k:Nat}{o:HO}{sos':`Az}(w:RpW K `js B `aHS a as' sos') :
  ∃d0 d,`A7/\`aHU=`ajo/\`aAN:=by
 have dp:=h.dp;unfold dpN at dp;cases eb:`g7 with
 | none=>rw[eb] at dp;cases dp
 | some bm =>
  rw[eb,`f] at dp;obtain⟨d0,hi,O⟩:=`qU;obtain⟨a',M,hB,ro⟩:=`Ll;obtain⟨_,h2⟩:=O _ _ _ _ ro;split at dp
  ·rename_i x ns' J
   have dp:=A3 dp;subst dp;rw[h.sl] at M;cases M;obtain⟨bd,mk⟩:=bm;have J:bd=`t (`bH::ns'):=J;subst J;refine⟨d0,mk (`t (`bH::ns'.set k n')),hi,?_,e.mut hi h.sl (h2 _ _ _ ⟨x,_,rfl,as',sos',w⟩)⟩;unfold DL.setN;rw[eb]
  ·cases dp
universe zz
universe DL
namespace DL
open Spec PyProof.Rows L2
noncomputable def tN(K:`y)(B:BS)(δ:Ds)(i:Nat)(g:GE):TE:=fun σ H Q=>∃d a ns as sos,`bh/\`hx/\`qW/\∀v H',`a'->`aHE->`rA
structure PN(X:Cx)(i:Nat)(e:`H)(g:GE):Prop where
 mk::go:∀B δ,PE X e (tN X.K B δ i g)
noncomputable def oz0(ns:`j):`w2
 | `b0=>`aaY `aaZ
 | _=>`c
noncomputable def lq0(ns:`j)(d y:D):`d2:=match d,y with
 | `b0,`g9=>(match `jk with
  | `fz=>(match `h! with
   | `kr=>atI es z
   | _=>`c)
  | `c=>atI ds z)
 | _,_=>`c
noncomputable def K5(i:Nat)(ga gb:GE):GE:=fun δ=>`Ap λd=>`YM λy=>`fg λns=>lq0 ns d y
noncomputable def j8(i:Nat):GE:=fun δ=>(`dt).map λ_=>Q5 0
noncomputable def plN(g:GE):GE:=fun δ=>`cq λd=>if `kq then `bd else `c
noncomputable def zg0(i:Nat)(g:GE):GE:=fun δ=>`cq λd=>`fg λns=>match `Bw with
 | `kr=>`a (`d `gm)
 | _=>`c
section
variable{σ:St}{δ:Ds}
theorem RpW.node(w:`fb){d n:D}(r:`kh)(h:`Bw=`wO):∃(k:Nat) (c:`e) (so:`dj),v=`t0/\`la/\`mT/\`h!=`wO/\`KH:=by
 unfold oz0 at h;split at h
 ·rename_i ds
  cases e:`jk with
  | none=>rw[e] at h;cases h
  | some k =>
   rw[e,`f] at h;rw[xn0] at r;rcases r with⟨k',c,e1,e2,e3⟩|⟨e1,_⟩
   ·rw[e] at e1
    cases e1;obtain⟨so,hs,hn⟩:=`mS w.all h;exact⟨k,c,so,e3,e2,hs,h,hn⟩
   ·rw[e] at e1;cases e1
 ·cases h
theorem wc0{es:`j}(h:`g0 K H B as `FN so):∃xs,`Y2/\`kY K H B as es xs:=h
universe zz
section
variable{a:`H}{p:Pos}{g ga gb:GE}
theorem W8(i:Nat)(hN:`b4:=by rfl)(hv:`dS:=by first|exact `a!|exact `dd|exact `de)(hd:`aJ:=by decide)(hcd:`dT:=by decide) :
  PN X i `kI (j8 i):=.mk λB δ=>`axw fun σ H Q hq149=>by
 obtain⟨d,a,ns,as,sos,en,h,at',k⟩:=hq149
 unfold j8 at h;rw[`u2] at h;cases h;refine⟨_,`fE,`K5⟩;unfold Q5;rw[xn0];exact `o ⟨0,a,w90 0,`sF,rfl⟩
theorem we0(h:`MB)(hdp:∀δ d,`hx->`aa_):PD X e (plN g):=.mk λB δ=>(h.go B δ).imp fun σ H Q hq150=>by
 obtain⟨d,en,e1,k⟩:=hq150
 unfold plN at e1;cases e2:`ar with
 | none=>rw[e2] at e1;cases e1
 | some d' =>
  rw[e2,`f] at e1;split at e1
  ·rename_i hn
   cases e1;have:=hdp δ _ e2;cases e3:`dt with
   | none=>rw[e3] at this;cases `A
   | some ns =>
    obtain⟨a,as,sos,at'⟩:=en.atN e3;exact⟨d,a,ns,as,sos,en,e2,at',λv H' s r=>k v H' s (bm0 hn r)⟩
  ·cases e1
theorem ph0{δ:Ds}{d:D}(h:K5 i ga gb δ=`bd):`aa_:=by
 unfold K5 at h;cases e1:`c9 with
 | none=>rw[e1] at h;cases h
 | some x =>
  rw[e1,`f] at h;cases e2:`d3 with
  | none=>rw[e2] at h;cases h
  | some y =>
   rw[e2,`f] at h;cases e:`dt with
   | none=>rw[e] at h;cases h
   | some ns=>rfl
theorem sx0(ha:PN X i a ga)(hb:`df)(hs:`z!:=by exact `lT):PN X i `z? (K5 i ga gb):=.mk λB δ =>
 (M9 (Xv0 (Y10.or ct0) `Bv (U8 (`FI B δ)) hs)).imp fun σ H Q hq151=>by
  obtain⟨d,ad,ns,as,sos,en,h,at',k⟩:=hq151
  unfold K5 at h;cases e1:`c9 with
  | none=>rw[e1] at h;cases h
  | some dx =>
  rw[e1,`f] at h;cases e2:`d3 with
  | none=>rw[e2] at h;cases h
  | some y =>
  rw[e2,`f,`u2,`f] at h;refine⟨dx,ad,ns,as,sos,en,e1,at',`ai3⟩;have J:=(`hC).same s2;obtain⟨c1,c2⟩:=`Bx;refine`aa0;have M:=`o6;have O:=`mB;unfold lq0 at h;split at h
  ·rename_i ds z
   rw[j5] at r2;subst r2;cases e3:`jk with
   | some kk =>
    rw[e3] at h;dsimp only at h;split at h
    ·rename_i es hes
     have hn:oz0 ns `r2=`kr:=by show `aaY (`aaZ)=_;rw[e3];exact hes
     obtain⟨k',c,so,rfl,f1,f2,f3,f4⟩:=`SR M hn;obtain⟨xs,rfl,rx⟩:=`n3;obtain⟨w,w1,w2⟩:=rx.atI h;refine `o ⟨c,xs,z,w,rfl,rfl,`SS,w1,ad,`be,c1,?_⟩;rw[c2];exact `aHV
    ·cases h
   | none =>
    rw[e3] at h;dsimp only at h;rw[xn0] at M;rcases M with⟨k',c,f,_⟩|⟨_,c,xs,rfl,q,rx⟩
    ·rw[e3] at f;cases f
    ·obtain⟨w,w1,w2⟩:=rx.atI h
     have hc:c∉as:=λz=>by
      rcases J.w.own c z with z|z
      ·exact(`gj O).bad c (z▸`sG) |>.nt xs q.2
      ·rw[q.2] at z;cases z.2
     refine `n ⟨c,xs,z,w,rfl,rfl,`o (`o (by rw[w50 hc];exact q.2)),w1,ad,`be,c1,?_⟩;rw[c2];exact `aHV
  ·cases h
theorem wn0(hm:`azs)(ha:`MB)(hg:`azt := by rfl)(he:`fd:=by rfl)(hpl:`kj:=by rfl) :
  PD X `azu (zg0 i g):=.mk λB δ=>(M9 (jm0 m70 hg hm X0 (O9 (U8 `Bv) yx0 he) `p `p he hpl)).imp fun σ H Q hq152=>by
 obtain⟨d,en,h,k⟩:=hq152
 unfold zg0 at h;cases e1:`ar with
 | none=>rw[e1] at h;cases h
 | some dx =>
 rw[e1,`f] at h;cases e2:`dt with
 | none=>rw[e2] at h;cases h
 | some ns =>
 rw[e2,`f] at h;obtain⟨ad,as,sos,at'⟩:=en.atN e2;refine`aHW;have J:=`hC;obtain⟨c1,c2⟩:=`Bx;refine`aa0;split at h
 rotate_left
 ·cases h
 rename_i es hn;cases h;obtain⟨k',c,so,rfl,f1,f2,f3,f4⟩:=`aHX;obtain⟨xs,rfl,rx⟩:=`n3;refine⟨c,xs,rfl,`o (`SS),ad,`be,c1,?_⟩;rw[c2];exact k _ H1 s1 (by rw[j5,`MC])
universe zz
universe DL
namespace DL
open Spec PyProof.Rows L2
section
variable{σ σ':St}{δ:Ds}
theorem EnvS.takeL(en:`cz)(b1:`iV)(b2:`iW)(e:`bh)(i:Nat){d:D}{p:`e}(hp:`dH)(s:`a')
  (r:RpL K H' `sb d p):`aA1:=by
 have g:`aA2:=`aA3
 have J:`Zj:=`_k;have live:`aA4:=λ{j d' b} h1 h2=>by
  obtain⟨a,q1,q2,q3⟩:=e.at h1;rw[h2] at q1;cases q1;exact `aA5
 refine`aA6
 ·rcases z with z|rfl
  ·exact b2 a z
  ·exact `n J
 ·refine `qC ⟨p,rfl,`b',r⟩ i `aA7
  cases sl with
  | un=>trivial
  | ex c n=>obtain⟨v,e,r⟩:=h;exact`AO
  | sh d=>obtain⟨v,e,r⟩:=h;exact`AO
  | ow d=>obtain⟨b,e,M,r⟩:=h;exact`aA8
 ·rcases z with z|rfl
  ·exact`aA9
  ·exact `qB
 ·rcases `gJ with⟨rfl,_,_⟩|⟨n1,h1⟩
  ·rcases `km with⟨rfl,_,_⟩|⟨n2,h2⟩
   ·rfl
   ·rcases `g3 h3 with⟨_,e3,_⟩|⟨n3,_⟩
    ·cases e3
     rw[`A8] at h4;exact `aA'
    ·exact `Lp
  ·rcases `km with⟨rfl,_,_⟩|⟨n2,h2⟩
   ·rcases `g3 h4 with⟨_,e4,_⟩|⟨n4,_⟩
    ·cases e4
     rw[`n_] at h3;exact `aA!
    ·exact `aA?
   ·rw[`n_] at h3
    rw[`A8] at h4;exact `KM
 ·rcases `gJ with⟨rfl,_,_⟩|⟨n1,h1⟩
  ·rcases `km with⟨_,e3,_⟩|⟨n3,_⟩
   ·cases e3;exact J
   ·exact `Lp
  ·rw[`n_] at h2
   exact `_l
universe zz
noncomputable def vx0:D->`JW
 | `b0=>`jk
 | _=>`c
noncomputable def rw0(i:Nat)(go gv:GE):GX:=fun δ=>`u3 λd=>`u4 λdv=>`fg λns=>`By λk=>match `h! with
 | `kr=>if `aHY/\`gm<`L then `a (`u,`eI i k `aHZ δ) else `c
 | _=>`c
section
variable{σ:St}{δ:Ds}
theorem Rk0{d:D}{k:Nat}(h:`mR=`fz):`Bw=`h!:=by
 unfold vx0 at h;split at h
 ·rename_i ds
  show `aaY (`aaZ)=_;rw[h];rfl
 ·cases h
theorem RpW.nodeK(w:`fb){d n:D}{k:Nat}(r:`kh)(h:`mR=`fz)(hn:`h!=`wO):∃(c:`e) (so:`dj),v=`t0/\`la/\`mT/\`KH:=by
 unfold vx0 at h;split at h
 ·rename_i ds
  rw[xn0] at r;rcases r with⟨k',c,e1,e2,e3⟩|⟨e1,_⟩
  ·rw[h] at e1
   cases e1;obtain⟨so,hs,hn⟩:=`aH_;exact⟨c,so,e3,e2,hs,hn⟩
  ·rw[h] at e1;cases e1
 ·cases h
theorem EnvS.setN(en:`cz)(b1:`iV)(b2:`iW)(env:`bh)(s:`a')(h:`qW){k:Nat}{c:`e}{so':`dj}{n':D}(h1:`la)(h2:`mT)
  (r:`g0 K H' B as n' so') (hi:`aHP) {d:D} {v:V} (rv:`Rh) :
  ∃sub',`h' `aH0 a sub'/\EnvV K `Y `S (`gp `aH0 a sub') σ (`aHU) d v:=by
 have h':=`KK s;obtain⟨p1,p2,p3⟩:=h'.w.put h.bad h1 h2 r hi;refine⟨_,p1,?_⟩;rw[p2];obtain⟨d0,d',M,e1,J⟩:=(`k1 s).setN h' p3;rw[e1];exact `h4 (`xv s b1 b2 M h.sl J) b1 b2 J (`Mt (`xr h.bad))
universe zz
section
variable{f:`H}
theorem f00(ho:`Bz)(h1:PD X e g1)
  (hbase:`aH1:=by rfl)
  (hfew:(`nX
  &&`Lu)=`b:=by rfl)
  (hline:`eF:=by rfl) (hs:`fd:=by rfl) (hplain:`lV:=by rfl) :
  PX X (`aR `akY [e] [] `b_) (rw0 i go g1):=.mk λH₀ B₀ δ pins s σ H Q I hq153=>by
 obtain⟨r,en,e1,k⟩:=hq153
 unfold rw0 at e1;obtain⟨B,b1,b2,env⟩:=`aK;cases e2:`pp with
 | none=>rw[e2] at e1;cases e1
 | some d =>
 rw[e2,`f] at e1;cases e4:g1 δ with
 | none=>rw[e4] at e1;cases e1
 | some dv =>
 rw[e4,`f] at e1;cases e5:`dt with
 | none=>rw[e5] at e1;cases e1
 | some ns =>
 rw[e5,`f] at e1;cases e6:`mR with
 | none=>rw[e6] at e1;cases e1
 | some kk =>
 rw[e6,`f] at e1;split at e1
 rotate_left
 ·cases e1
 rename_i es hnode;split at e1
 rotate_left
 ·cases e1
 rename_i hz;cases e1;obtain⟨a,as,sos,at'⟩:=`aa1;refine M9 (rc0 L8 Af0 Ag0 qp0 `MD `aH2 `e' `iQ `e! hs `ka) `i s σ H Q I `ME;have J:=`hC;obtain⟨c,so,rfl,f1,f2,f4⟩:=`MF;obtain⟨xs,rfl,rx⟩:=`n3;refine`aH3;obtain⟨c1,c2⟩:=`Bx;refine`aH4;rw[c2];refine⟨dv,`k5,e4,`xc⟩;have O:=`mB;have M:=`pm O;have Y:=`aa2;refine⟨_,`aH5,c,xs,v2,rfl,rfl,`aH6,by rw[← `MC];exact hz.2,?_⟩;have nk:`g0 X.K H2 B as `aHZ (`l (xs++[v2])):=⟨_,rfl,`qV (`h_ (`pn Y) (`ah (mj0 hz.1 r2) `O))⟩;obtain⟨U,q1,q2⟩:=`u5 b1 b2 env O at' f1 f2 nk `MG (d:=`u) (v:=`u) `h5;exact⟨a,U,q1,k _ _ q2⟩
universe zz
universe DL
namespace L2
open Spec PyProof.Rows
section
variable{t:TA}{m:Str}{k:Nat}{f C:`e}{ps:`g}{E:XK}{ds:`ac}
theorem Zv0(h:`ue):PA X es (fun σ H Q=>t σ H λvs H'=>∃a sub,`aHA/\Q vs (`g6 H' sub)):=λpos pins s σ H Q I q =>
 thn (h pos `i s σ H _ I q) `aHB
theorem Vn0(h:`ue):PA X es (fun σ H Q=>∃a sub,`lY/\t σ `lZ Q):=λpos pins s σ H Q I ⟨a,sub,c,q⟩=>h pos `i s σ _ Q (`FH) q
theorem Vs0{pl:`ub}(he:`Jx)(c:`zZ)(hm:`as2)(F:`uf)(hr:`z3)(hb:`ug)(hd:`uh)(hx:`ui)
  (ht:`bb `aH7 `x=(do
   let ov ← `hP
   `JB
   let (f,`rJ) ← `JC
   `aH8):=by rfl) :
  PE X `aH7 (fun σ H Q=>ta σ H λx H1=>∃a dx fs,`cY/\`Jw/\`Jt/\∃a' sub,`h' H1 a' sub/\sp (x::([]++dvs)) (`gp H1 a' sub) Q E):=by
 intro pins s σ H Q I h;refine `as5 (pl:=pl) (thn `iL λu s1 hq154=>?_) ht;obtain⟨x,H1,I1,rx,a,dx,fs,ex,ea,l,a',sub,cl,q⟩:=hq154;subst ex;obtain rfl:u=`hG:=rx;refine `as6;exact `as? (first:=`eU) I1.kIn hm.kp (Z00 (us:=`eU) (vs:=`eU) F hr hb hd hx (I1.closed cl) (`ah rfl `O) q)
universe zz
universe L2
namespace DL
open Spec PyProof.Rows L2
noncomputable def u90:`j->`j->Str->`d2
 | `aH9,`as,f=>if n=f then `bd else `MH
 | _,_,_=>`c
noncomputable def od0:`j->`j->Str->D->`j
 | `aH9,`as,f,v=>if n=f then v::ds else d::od0 fs ds f v
 | _,ds,_,_=>ds
theorem mu0:∀{ns:`g} {ds:`j} {xs:`K} {f:Str} {d:D},`g_->`aH'=`bd->∃v,(`Eg).lookup f=`bX/\`kh
 | [],_,_,_,_,_,h=>by unfold u90 at h;cases h
 | `n4,[],_,_,_,_,h=>by rw[`T] at h;unfold u90 at h;cases h
 | `n4,d'::ds,xs,f,d,r,h=>by
  rw[G5] at r;obtain⟨x,r',rfl,h1,h2⟩:=r;rw[`T] at h;unfold u90 at h;rw[`dB,`fX]
  by_cases e:n=f
  ·rw[`fe] at h
   cases h;rw[show (f==n)=`b from P2.mpr e.symm];exact`KD
  ·rw[`ed] at h
   rw[show `aH! from `mQ (B4 e)];exact mu0 h2 h
theorem ic0:∀{ns:`g} {xs:`aH} {f:Str},f∉ns->(`Eg).lookup f=`c
 | [],_,_,_=>`aW
 | `db,[],_,_=>`aW
 | `n4,`lN,f,h=>by
  rw[`ff] at h;rw[`dB,`fX,show `aH! from `aHH];exact ic0 `aHI
theorem jb0{f:Str}{d:D}(rv:`kh):∀{ns:`g} {ds:`j} {xs:`K},`g_->`eP=`am->f∈ns ->
  ∃ys,yg0 f v (`Eg)=`w' ns ys/\`eP=`en/\`kY K H B as (od0 (`Rb) ds f d) ys
 | [],_,_,_,_,h=>by cases h
 | `n4,[],xs,r,hl,_=>by rw[wg0] at r;subst r;cases hl
 | `n4,d'::ds,xs,r,hl,hf=>by
  rw[G5] at r;obtain⟨x,r',rfl,h1,h2⟩:=r;rw[`dB,`T];unfold yg0 od0
  by_cases e:n=f
  ·rw[`fe,`fe]
   refine⟨v::r',rfl,hl,?_⟩;rw[G5];exact⟨v,r',rfl,rv,h2⟩
  ·rw[`ed,`ed]
   obtain⟨ys,e1,e2,e3⟩:=jb0 rv h2 `Rg ((`bZ hf).resolve_left (B4 e));refine⟨x::ys,`aH?,by rw[`V,`V,e2],?_⟩;rw[G5];exact⟨x,ys,rfl,h1,e3⟩
structure ClsN(K:`y)(c:Str)(fs:`g):Prop where
 ok:∀C,`o3->`qn/\∀f∈fs,`uc
noncomputable def j4(i:Nat)(c f:Str)(g:GE):GE:=fun δ=>`cq λd=>`fg λns=>match `Bw with
 | `a (`akM)=>if c'=c then `MH else `c
 | _=>`c
theorem tq0{c:Str}{fs:`j}(h:`g0 K H B as (`aw9) so):`aw':=h
section
variable{p:Pos}{g ga gb:GE}{c f:Str}
theorem vq0{δ:Ds}{d:D}(h:j4 i c f g δ=`bd):`aa_:=by
 unfold j4 at h;cases e1:`ar with
 | none=>rw[e1] at h;cases h
 | some x =>
  rw[e1,`f] at h;cases e:`dt with
  | none=>rw[e] at h;cases h
  | some ns=>rfl
theorem W7(ha:`MB)(hc:`BA)(hf:`BB:=by decide)(hb:`asH:=by rfl):PN X i `Xx (j4 i c f g):=.mk λB δ =>
 (M9 (Lv0 (U8 `Bv) hb)).imp fun σ H Q hq155=>by
  obtain⟨d,ad,ns,as,sos,en,h,at',k⟩:=hq155
  unfold j4 at h;cases e1:`ar with
  | none=>rw[e1] at h;cases h
  | some dx =>
  rw[e1,`f,`u2,`f] at h;refine`aHW;have J:=`hC;obtain⟨c1,c2⟩:=`Bx;refine`aa0;split at h
  rotate_left
  ·cases h
  rename_i c' fs ds hn;split at h
  rotate_left
  ·cases h
  rename_i hcc;subst hcc;obtain⟨k',a,so,rfl,f1,f2,f3,f4⟩:=`aHX;obtain⟨C,M,nm,xs,rfl,rfl,hl,hC,O,rx⟩:=tq0 f4;obtain⟨v,hv,rv⟩:=mu0 rx h;obtain⟨q1,q2⟩:=`BC;refine⟨a,C,M,_,v,rfl,`FO,q1,`FT,hv,ad,`be,c1,?_⟩;rw[c2];exact k v H1 s1 rv
universe zz
noncomputable def vw0(i:Nat)(c f:Str)(gv:GE):GS:=fun δ=>`u4 λdv=>`fg λns=>match ns with
 | `MI=>if c'=c/\`aHY/\(`MH).isSome=`b/\`xS then `a (.nx (`eI i 0 (`t [`h?,`o2,`l (od0 fs ds f dv)]) δ)) else `c
 | _=>`c
noncomputable def Z40(i:Nat)(c f:Str)(gv:GE):GS:=fun δ=>`u4 λdv=>`fg λns=>match ns with
 | `MI=>if c'=c/\`xS then (match `MH,dv with
  | `a (`nN),`it=>`a (.nx (`eI i 0 (`t [`h?,`o2,`l (od0 fs ds f (`d (a+b)))]) δ))
  | _,_=>`c) else `c
 | _=>`c
theorem mc0:∀{ns:`g} {ds:`j} {f:Str},(`aH').isSome=`b->f∈ns
 | [],_,_,h=>by unfold u90 at h;cases h
 | `n4,[],_,h=>by rw[`T] at h;unfold u90 at h;cases h
 | `n4,`as,f,h=>by
  rw[`T] at h;unfold u90 at h
  by_cases e:n=f
  ·rw[e];exact A6
  ·rw[`ed] at h
   exact A4 _ (mc0 h)
section
variable{gv:GE}{c f:Str}
theorem tw0(i:Nat)(hv:`aa3)(hc:`BA)(hf:`BB:=by decide)(hN:`b4:=by rfl)(hvis:`dS:=by first|exact `a!|exact `dd|exact `de)(hd:`aJ:=by decide)(hcd:`dT:=by decide)
  (hs:`aa4:=by rfl):PSD X `aa5 (vw0 i c f gv):=.mk λH₀ B₀ δ pins s σ H De I hq156=>by
 obtain⟨r,en,e1,kk⟩:=hq156
 unfold vw0 at e1;obtain⟨B,b1,b2,env⟩:=`aK;cases e2:`xN with
 | none=>rw[e2] at e1;cases e1
 | some dv =>
 rw[e2,`f] at e1;cases e3:`dt with
 | none=>rw[e3] at e1;cases e1
 | some ns =>
 rw[e3,`f] at e1;split at e1
 rotate_left
 ·cases e1
 rename_i c' fs ds rest;split at e1
 rotate_left
 ·cases e1
 rename_i hq;obtain⟨a2,hn,Z,M⟩:=hq;subst a2;cases e1;obtain⟨a,as,sos,at'⟩:=`MJ;refine `aIa;have J:=`hC;obtain⟨so,U,nk⟩:=`aa6;obtain⟨C,O,nm,xs,rfl,rfl,hl,hC,a1,rx⟩:=`BD;obtain⟨q1,q2⟩:=`BC;refine`aIb
 ·rw[`h8,← hl,`pe]
  rw[`F] at M;exact M
 ·obtain⟨ys,y1,y2,y3⟩:=jb0 (mj0 (as:=as) hn r1) rx hl (mc0 Z)
  rw[y1];obtain⟨Y,z1,z2⟩:=`u5 b1 b2 env s1 at' `FS U (n':=`t [`h?,`BE,`l (od0 `FV ds f dv)]) (so':=`gO C O `aIc) ⟨C,O,nm,ys,rfl,rfl,y2,hC,a1,y3⟩ `MK (d:=`u) (v:=`u) `h5;exact`aa7
theorem Sw0(i:Nat)(hv:`aa3)(hc:`BA)(hf:`BB:=by decide)(hN:`b4:=by rfl)(hvis:`dS:=by first|exact `a!|exact `dd|exact `de)(hd:`aJ:=by decide)(hcd:`dT:=by decide) :
  PSD X (`asK (`c5 `d6 f tpos) .Add `eR pos) (Z40 i c f gv):=.mk λH₀ B₀ δ pins s σ H De I hq157=>by
 obtain⟨r,en,e1,kk⟩:=hq157
 unfold Z40 at e1;obtain⟨B,b1,b2,env⟩:=`aK;cases e2:`xN with
 | none=>rw[e2] at e1;cases e1
 | some dv =>
 rw[e2,`f] at e1;cases e3:`dt with
 | none=>rw[e3] at e1;cases e1
 | some ns =>
 rw[e3,`f] at e1;split at e1
 rotate_left
 ·cases e1
 rename_i c' fs ds rest;split at e1
 rotate_left
 ·cases e1
 rename_i hq;obtain⟨a2,J⟩:=hq;subst a2;split at e1
 rotate_left
 ·cases e1
 rename_i n1 n2 hlk;cases e1;obtain⟨a,as,sos,at'⟩:=`MJ;refine ra0 (U60 `SU (j30 `SV) Lq0) `i s σ H De I ⟨a,`b8,`fE,a,`be,at'.w.openOk,?_⟩;obtain⟨so,U,nk⟩:=`mS `S6 (i:=0) rfl;obtain⟨C,M,nm,xs,rfl,rfl,hl,hC,Z,rx⟩:=`BD;obtain⟨q1,q2⟩:=`BC;obtain⟨v,a1,rv⟩:=mu0 rx hlk;unfold RpN at rv;subst rv;obtain⟨c1,c2⟩:=at'.w.back;refine⟨a,C,M,_,`d n1,rfl,at'.w.opAt `sF U,q1,`FT,a1,a,`be,c1,?_⟩;rw[c2];refine⟨`d n2,env,e2,`xc⟩;rw[j5] at r2;subst r2;have O:=`pm s2;refine⟨`be,O.w.openOk,n1,n2,rfl,rfl,M,_,O.w.opAt O.w.hd U,?_,?_⟩
 ·rw[`h8,← hl,`pe]
  rw[`F] at J;exact J
 ·obtain⟨ys,y1,y2,y3⟩:=jb0 (d:=`aa8) (v:=`aa8) (f:=f) (by unfold RpN;rfl) (`aa2) hl (mc0 (by rw[hlk];rfl))
  rw[y1];obtain⟨Y,z1,z2⟩:=`u5 b1 b2 env s2 at' `sF U (n':=`t [`h?,`BE,`l (od0 `FV ds f (`aa8))]) (so':=`gO C M `aIc) ⟨C,M,nm,ys,rfl,rfl,y2,hC,Z,y3⟩ `MK (d:=`u) (v:=`u) `h5;exact`aa7
universe zz
noncomputable def bw0(i:Nat)(go gv:GE):GX:=fun δ=>`u3 λd=>`u4 λdv=>`fg λns=>`By λk=>match `h!,dv with
 | `kr,`o2=>if vk0 fs=`b/\`gm+`CY<=`L then `a (`u,`eI i k (`l (es++fs)) δ) else `c
 | _,_=>`c
noncomputable def popS(i:Nat)(go:GE):GS:=fun δ=>`u3 λd=>`fg λns=>`By λk=>match `h! with
 | `kr=>if es=[] then `c else `a (.nx (`eI i k `aId δ))
 | _=>`c
section
variable{f:`H}
theorem Pj0(ho:`Bz)(h1:PD X e g1)
  (hbase:`eQ o `Lx `x `mq=`hP:=by rfl)
  (hfew:(`nX
  &&`Lu)=`b:=by rfl)
  (hline:`eF:=by rfl) (hs:`fd:=by rfl) (hplain:`lV:=by rfl) :
  PX X (`aR (`c5 o `Lx `em) [e] [] `b_) (bw0 i go g1):=.mk λH₀ B₀ δ pins s σ H Q I hq158=>by
 obtain⟨r,en,e1,k⟩:=hq158
 unfold bw0 at e1;obtain⟨B,b1,b2,env⟩:=`aK;cases e2:`pp with
 | none=>rw[e2] at e1;cases e1
 | some d =>
 rw[e2,`f] at e1;cases e4:g1 δ with
 | none=>rw[e4] at e1;cases e1
 | some dv =>
 rw[e4,`f] at e1;cases e5:`dt with
 | none=>rw[e5] at e1;cases e1
 | some ns =>
 rw[e5,`f] at e1;cases e6:`mR with
 | none=>rw[e6] at e1;cases e1
 | some kk =>
 rw[e6,`f] at e1;split at e1
 rotate_left
 ·cases e1
 rename_i es fs hnode;split at e1
 rotate_left
 ·cases e1
 rename_i hz;cases e1;obtain⟨a,as,sos,at'⟩:=`aa1;refine M9 (rc0 L8 C40 C50 i70 `MD `aH2 `e' `iQ `e! hs `ka) `i s σ H Q I `ME;have J:=`hC;obtain⟨c,so,rfl,f1,f2,f4⟩:=`MF;obtain⟨xs,rfl,rx⟩:=`n3;refine`aH3;obtain⟨c1,c2⟩:=`Bx;refine`aH4;rw[c2];refine⟨`o2,`k5,e4,`xc⟩;have U:=`mB;have M:=`pm U;have Z:=`aa2;rw[W4] at r2;obtain⟨b,zs,rfl,sq,rz⟩:=r2;obtain⟨nb,hb⟩:=sq.at;have O:`MA:=λz=>by
  rcases M.w.own b z with q|q
  ·exact nb (q▸`sG)
  ·rcases hb with hb|⟨ob,hb⟩
   ·rw[hb] at q;cases q.2
   ·rw[hb] at q;cases q.2
 refine⟨_,`aH5,c,b,xs,zs,rfl,rfl,`aH6,?_,by rw[← `MC,rz.length];exact hz.2,?_⟩
 ·refine `o ?_
  rcases hb with hb|⟨ob,hb⟩
  ·exact `o (`aIe)
  ·exact `n ⟨ob,`aIe⟩
 have nk:`g0 X.K H2 B as (`l (es++fs)) `K2:=⟨_,rfl,`qV (`h_ (`pn Z) (`pn (o80 hz.1 rz)))⟩;obtain⟨Y,q1,q2⟩:=`u5 b1 b2 env U at' f1 f2 nk `MG (d:=`u) (v:=`u) `h5;exact⟨a,Y,q1,k _ _ q2⟩
theorem ky0(ho:`Bz)
  (hbase:`eQ o `FW `x `mq=`hP:=by rfl) (hline:`eF:=by rfl)
  (hsw:`hO `aIf `c `i! `x=`gT:=by rfl) :
  PSD X (.Expr `aIf pos) (popS i go):=.mk λH₀ B₀ δ pins s σ H De I hq159=>by
 obtain⟨r,en,e1,k⟩:=hq159
 unfold popS at e1;obtain⟨B,b1,b2,env⟩:=`aK;cases e2:`pp with
 | none=>rw[e2] at e1;cases e1
 | some d =>
 rw[e2,`f] at e1;cases e5:`dt with
 | none=>rw[e5] at e1;cases e1
 | some ns =>
 rw[e5,`f] at e1;cases e6:`mR with
 | none=>rw[e6] at e1;cases e1
 | some kk =>
 rw[e6,`f] at e1;split at e1
 rotate_left
 ·cases e1
 rename_i es hnode;split at e1
 ·cases e1
 rename_i hne;cases e1;obtain⟨a,as,sos,at'⟩:=`aa1;refine gp0 (M9 (a80 L8 C60 C70 S10 `MD `e' `e!)) hsw `i s σ H De I `ME;have J:=`hC;obtain⟨c,so,rfl,f1,f2,f4⟩:=`MF;obtain⟨xs,rfl,rx⟩:=`n3;have pr:=`pn rx;obtain⟨dl,e7⟩:∃dl,es[`gm - 1]?=`a dl:=⟨_,C3 (by have:=`ML hne;omega)⟩;obtain⟨y,hy,ry⟩:=`mS pr e7;refine⟨a,`be,`k',`ST,c,xs,y,rfl,rfl,`FO,by rw[← `po pr];exact hy,?_⟩;have nk:`g0 X.K H1 B as `aId `Yk:=by
  refine⟨_,rfl,`qV ?_⟩;have:∀{l:`j} {m:`K},`bB `aIg l m->`bB `aIg `auZ m.dropLast:=by
   intro l m h
   induction h with
   | nil=>exact `O
   | cons r t ih =>
    cases t with
    | nil=>exact `O
    | cons r' t'=>exact `zt
  exact `A pr
 obtain⟨M,q1,q2⟩:=`u5 b1 b2 env s1 at' f1 f2 nk `MG (d:=`u) (v:=`u) `h5;exact⟨a,M,q1,k _ _ q2.s⟩
universe zz
theorem RpW.backS(h:`fb)(s:`c8 `sE H'):`h' H' a `d5/\`c8 H (`gp H' a `d5):=by
 refine⟨ri0 h.hd `g8 `ia (λk c so e1 e2=>s _ _ (`aHN)) `AA,`avb,λb o xs e=>?_⟩
 ·unfold closed
  by_cases hb:b=a
  ·rw[`iR]
   rw[hb,`uz] at e;exact e
  ·rw[`hw]
   by_cases hm:b∈as
   ·obtain⟨so,q⟩:=`aIh
    rw[q];rcases h.own b hm with z|z
    ·exact `aHL
    ·rw[z.2] at e;exact e
   ·rw[y60 hm]
    exact s b o (by rw[w50 hm];exact e)
 ·unfold closed at e
  by_cases hb:b=a
  ·rw[`iR] at e;cases e
  ·rw[`hw] at e
   by_cases hm:b∈as
   ·obtain⟨so,q⟩:=`aIh
    rw[q] at e;cases e
   ·rw[y60 hm] at e
    have:=s.nf b o xs e;rw[w50 hm] at this;exact `A
noncomputable def fnN(i:Nat)(go:GE)(gA:GA)(f:`J):GE:=fun δ=>`u3 λd=>`gq λds=>`fg λns=>match `Bw with
 | `kr=>if `MM/\`uY then (f (`jv::ds)).bind `aIi else `c
 | _=>`c
theorem rb0:∀{ds:`j},`uY->`aaV
 | [],_=>rfl
 | `as,h=>by
  unfold flats at h;rw[`lP,`a?] at h;unfold vk0;rw[`a?];refine⟨?_,rb0 h.2⟩;cases d<;>first|rfl|(cases h.1)
section
variable{p:Pos}{gA:GA}
theorem ew0{k:Nat}{ps:`g}{f:`J}(C:`azx)(hr:`AT)(hk:k<=m)(ho:`Bz)(ha:`uB)(hg:`cI:=by rfl)(hdb:`aJ:=by decide)
  (he:`cM (o::es) `x=(`q,`hP)::`rB:=by rfl) (hpl:`gF:=by rfl):PD X (`aR `Dw (o::es) [] pos) (fnN i go gA f):=by
 obtain⟨fa,fd,F,hm,kp,hb⟩:=C;exact .mk λB δ=>(M9 (k20 (E:=E0) F `qI hg hm kp hb `O n80 (O9 (ho.go B δ) (Zv0 `a4) he) hdb he hpl)).imp fun σ H Q hq160=>by
  obtain⟨r,en,h,k⟩:=hq160
  unfold fnN at h;cases e1:`pp with
  | none=>rw[e1] at h;cases h
  | some d =>
  rw[e1,`f] at h;cases e2:`b! with
  | none=>rw[e2] at h;cases h
  | some ds =>
  rw[e2,`f] at h;cases e3:`dt with
  | none=>rw[e3] at h;cases h
  | some ns =>
  rw[e3,`f] at h;split at h
  rotate_left
  ·cases h
  rename_i ls hn;split at h
  rotate_left
  ·cases h
  rename_i hfl;cases e4:f (`aIj) with
  | none=>rw[e4] at h;cases h
  | some r' =>
  rw[e4,`f] at h;split at h
  rotate_left
  ·cases h
  rename_i hfr;cases h;obtain⟨a,as,sos,at'⟩:=en.atN e3;refine⟨d,a,ns,as,sos,en,e1,at',λv1 H1 s1 r1=>⟨ds,`gk,e2,`EK⟩⟩;have M:=`mB;have J:=`pm M;obtain⟨k',c,so,rfl,f1,f2,f3,f4⟩:=`SR `Fe hn;obtain⟨xs,rfl,rx⟩:=`n3;refine⟨a,`be,`k',?_⟩;show spD X.K f ((`t0::vs)++[]) (`g6 H2 `d5) _ E0;rw[`cZ];refine⟨`FD,`aIj,r,`aIk,?_,e4,`aav⟩
  ·rw[o6]
   refine⟨`t0,vs,rfl,?_,v20 hfl.2 r2⟩;rw[W4];exact⟨c,xs,rfl,`aIl,v20 hfl.1 (oj0 (rb0 hfl.1) rx)⟩
  ·obtain⟨c1,c2⟩:=`aa9 s3
   exact⟨a,`be,c1,k v _ (M.trans c2) (rn0 hfr r3)⟩
universe zz
structure FnT(P:`ao)(w:`P)(K:`y)(mg:`bx)(base:`Q)(c m:Str)(k:Nat)(ps:`g)(F:`g)(f:`aM):Prop where
 ex:∃C fa fd,`aIm/\`o3/\`qn/\Meth K C m fa/\`xm/\m∉F
noncomputable def qe0(c:Str)(F:`g):`dc
 | `t (`br::`t [`h?,`o2,`bK]::_)=>`w (c'=c)&&fs.all λn=>match n with|`bH=>F.contains x|_=>`q
 | _=>`q
noncomputable def V8(i:Nat)(c:Str)(F:`g)(gA:GA)(f:`aM):GX:=fun δ=>`Bu λb=>if qe0 c F b.1=`b then `aHs else `c
theorem ek0{d:D}{c m:Str}(h:qe0 c F d=`b)(r:`lS)(hm:m∉F):∃x ns as sos C dx fs,d=`xL/\`fb/\`aa'/\`o3/\`Jt:=by
 unfold qe0 at h;split at h
 ·rename_i x c' fs ds rest
  rw[`a?,`MN] at h;obtain⟨hc,J⟩:=h;subst hc;obtain⟨x',ns,e,as,sos,w⟩:=r;cases e;obtain⟨so,M,nk⟩:=`mS w.all (i:=0) rfl;obtain⟨C,O,nm,xs,rfl,rfl,hl,hC,U,rx⟩:=`BD;refine⟨x,_,as,sos,C,O,_,rfl,w,M,hC,ic0 λz=>hm ?_⟩;rw[`l2] at J;have:=J (`s m) (P8 z);exact List.contains_iff_mem.mp `A
 ·cases h
section
variable{gA:GA}{c m:Str}
theorem O2(i:Nat){pl:`ub}{k:Nat}{ps:`g}{f:`aM}(C:`aIn)(hr:`MO)(hk:k<=n)(ha:`nU)(hN:`uu:=by rfl)(hv:`Mv:=by first|exact `a!|exact `dd|exact `de)(hd:`Aw:=by decide)(hcd:`Mw:=by decide)
  (hst:`d?:=by rfl) (hpl:`gF:=by rfl)
  (ht:`bb `aIo `x=(do
   let ov ← `aaR
   `JB
   let (f,`rJ) ← `JC
   `as4):=by rfl) :
  PX X `aIo (V8 i c F gA f):=.mk λH₀ B₀ δ pins s σ H Q I hq161=>by
 obtain⟨r,en,e1,kk⟩:=hq161
 unfold V8 at e1;obtain⟨B,b1,b2,env⟩:=`aK;obtain⟨Ca,fa,fd,Fo,hC,cl,a3,hb,a4⟩:=C.ex;cases eb:`g7 with
 | none=>rw[eb] at e1;cases e1
 | some bm =>
 rw[eb,`f] at e1;split at e1
 rotate_left
 ·cases e1
 rename_i hfl;obtain⟨d0,hi,Y⟩:=`qU;cases e2:`b! with
 | none=>rw[e2] at e1;cases e1
 | some ds =>
 rw[e2,`f] at e1;cases e3:f `kp ds with
 | none=>rw[e3] at e1;cases e1
 | some q =>
 rw[e3] at e1;cases e1;obtain⟨a,J,hB,ro⟩:=`hz;obtain⟨h1,h2⟩:=Y _ _ _ _ ro;obtain⟨x,ns,as,sos,C',dx,fs,a6,w,a5,U,Z⟩:=ek0 hfl h1 a4;have a1:C'=Ca:=by rw[hC] at U;cases U;rfl
 subst a1;obtain⟨c1,c2⟩:=w.back;refine(Pu0 (pl:=pl) (E:=E0) (U8 `g4) cl a3 Fo `qI hb `O n80 (Vn0 `a4) hst hpl ht) `i s σ H Q I ⟨`b8,J,a,`be,w.openOk,a,dx,fs,rfl,w.opAt w.hd a5,Z,a,`be,c1,?_⟩;rw[c2];refine⟨ds,env,e2,`ai6⟩;show spB X.K 0 f (`b8::`Zh) H1 _ _;rw[`cZ];refine⟨B,ds,vs,a,`kp,q.2,q.1,`aHv,hB,rfl,`cQ,r1,`aHw,e3,λv H' hh a2 rv=>?_⟩;have O:`Mi:=`aHx;have M:`aaS:=`u1 hi J O (h2 H' B q.2 a2);exact `aHy
theorem s60(i:Nat){pl:`ub}{k:Nat}{ps:`g}{f:`aM}(C:`aIn)(hr:`MO)(hk:k<=n)(hN:`uu:=by rfl)(hv:`Mv:=by first|exact `a!|exact `dd|exact `de)(hd:`Aw:=by decide)(hcd:`Mw:=by decide)
  (ht:`bb `aIp `x=(do
   let ov ← `aaR
   `JB
   let (f,`rJ) ← `JC
   `aH8):=by rfl) :
  PX X `aIp (V8 i c F v5 f):=.mk λH₀ B₀ δ pins s σ H Q I hq162=>by
 obtain⟨r,en,e1,kk⟩:=hq162
 unfold V8 at e1;obtain⟨B,b1,b2,env⟩:=`aK;obtain⟨Ca,fa,fd,Fo,hC,cl,a2,hb,a3⟩:=C.ex;cases eb:`g7 with
 | none=>rw[eb] at e1;cases e1
 | some bm =>
 rw[eb,`f] at e1;split at e1
 rotate_left
 ·cases e1
 rename_i hfl;obtain⟨d0,hi,U⟩:=`qU;rw[show v5 δ=`oY from rfl,`f] at e1;cases e3:f `kp [] with
 | none=>rw[e3] at e1;cases e1
 | some q =>
 rw[e3] at e1;cases e1;obtain⟨a,J,hB,ro⟩:=`hz;obtain⟨h1,h2⟩:=`aHu;obtain⟨x,ns,as,sos,C',dx,fs,a5,w,a4,O,Y⟩:=ek0 hfl h1 a3;have Z:C'=Ca:=by rw[hC] at O;cases O;rfl
 subst Z;obtain⟨c1,c2⟩:=w.back;refine(Vs0 (pl:=pl) (E:=E0) (U8 `g4) cl a2 Fo `qI hb `O n80 ht) `i s σ H Q I ⟨`b8,J,a,`be,w.openOk,a,dx,fs,rfl,w.opAt w.hd a4,Y,a,`be,c1,?_⟩;rw[c2];show spB X.K 0 f `eU H _ _;refine⟨B,[],[],a,`kp,q.2,q.1,`MP,hB,rfl,`cQ,`f_,h1,e3,λv H' hh a1 rv=>?_⟩;have M:`aaS:=`u1 hi J hh (h2 H' B q.2 a1);exact kk v H' (`h4 (`xM b1 b2 hi J hh M) b1 b2 M rv)
universe zz
theorem Env.unset{σ:St}{δ:Ds}(e:`bh)(i:Nat)(o:`dF):Env K H B (`C8 i o) `aIq:=by
 refine⟨`qC `sh i `hY,`ju,`RS⟩;rcases `gJ with⟨_,z,_⟩|⟨n1,h1⟩
 ·cases z
 rcases `km with⟨_,z,_⟩|⟨n2,h2⟩
 ·cases z
 rw[`n_] at h3;rw[`A8] at h4;exact `KM
noncomputable def ti0(i:Nat)(n:D)(δ:Ds):Ds:=match `g7 with
 | `SW=>`a0 i (.ow (mk (`t (`bH::(ns++[n])))))
 | _=>δ
structure PartAt(K:`y)(H₀:Hp)(B₀:BS)(H:Hp)(σ:St)(δ:Ds)(i j:Nat)(dp:D):Prop where
 en:`cz
 ex:∃B a ns as sos v,(`iV)/\(`iW)/\`bh/\`qW/\`YD/\RpN K H B as dp v
theorem Xl0{δ:Ds}{mk:`kf}(h:`aIr)(ms:`j):dpN i (`a0 i (.ow (mk (`t (`bH::ms)))))=`a ms:=by
 have hl:i<`mU:=by
  cases q:`cj with
  | none=>rw[q] at h;cases h
  | some s=>exact(`cL q).1
 unfold dpN;rw[`AD];unfold xz0 at h;split at h
 ·cases h
 ·cases h
 ·cases h;rfl
 ·cases h;rfl
 ·cases h
theorem Ws0{δ:Ds}(h:`FY):∃x mk,`aIr:=by
 unfold dpN at h;cases eb:`g7 with
 | none=>rw[eb] at h;cases h
 | some bm =>
  rw[eb,`f] at h;obtain⟨b,mk⟩:=bm;split at h
  ·rename_i x ns' hb
   cases h;have hb:b=_:=hb;subst hb;exact⟨x,mk,rfl⟩
  ·cases h
theorem NodeOk.ext{L:`e}(g:`ec){n:D}(hdx:∀C dx fs,so=`kO->dx≠L)(h:`KH):`g0 K H' B' `k? n so:=by
 have l:∀(k:Nat) a,`Q?->`k?[k]?=`jj:=λk a e=>by rw[`hT (`cL e).1];exact e
 unfold NodeOk at h ⊢;split at h
 ·obtain⟨xs,e,r⟩:=h;exact⟨xs,e,`aa!⟩
 ·obtain⟨xs,e,z,r⟩:=h;exact⟨xs,e,z,`aa!⟩
 ·obtain⟨C,dx,ns,xs,e,f,z,c,q,r⟩:=h
  exact⟨C,dx,ns,xs,e,f,z,c,λw=>(`dl w).elim q λw=>hdx _ _ _ e (Q1.mp w),`aa!⟩
 ·exact `lK
theorem EnvS.unset{σ:St}{δ:Ds}(e:`cz)(i:Nat)(o:`dF):`cS K `Y `S H (`C8 i o) `aIq:=by
 obtain⟨B,b1,b2,env⟩:=e.ex;refine⟨e.same,⟨B,b1,b2,env.unset i o⟩,`RT,e.b0⟩;rcases `gJ with⟨_,z,_⟩|⟨n1,h1⟩
 ·cases z
 rw[`n_] at h2;exact e.fr j ds a h1 h2
section
variable{lp:Pos}{gk:GE}
theorem Wz0{x1}(i j:Nat)(nd:`e8)(hk:`aIs)(hi:`n1:=by rfl)(hy:`kd:=by first|exact `a!|exact `gi)
  (hs:`cM `aa? `x=(`q,`bb ke `x)::`aIt:=by rfl) (hs2:`aIt=(`q,`bb (`SX) `x)::`h0:=by rfl)
  (hsw:`hO (`k7 `aa? x1 tp) `w0 `i! `x=`gT:=by rfl)
  (hf:`ke:=by first|exact `bQ|exact `b'|assumption) :
  PS X (`ja `mw (`k7 `aa? x1 tp) pos) `aIu:=by
 intro pins s σ H D I ⟨`Y,`S,δ,dk,ns,en,e1,c1,e2,c5,kk⟩;obtain⟨B,b1,b2,env⟩:=`aK;obtain⟨a,as,sos,at'⟩:=`xO e2;have jl:j<`ry:=by
  obtain⟨m,hn,hl⟩:=`IV;have h1:=`I2;have:=`eN;omega
 refine ah0 nd hi hy (M9 (U8 (az0 (O9 (hk.go B δ) (O9 (al0 yx0) yx0 hs2) hs)))) hsw hf `i s σ H D I ⟨dk,env,e1,λv1 H1 s1 r1=>⟨`cQ,λL hL=>⟨`St,λt ht=>?_⟩⟩⟩;have hH:`Y4:=at'.w.at';have U:H L=`c:=`k6 hL;obtain⟨H2,Z⟩:∃H2,H2=`aIv:=`ae;rw[← Z] at ht ⊢;have s2:`Kh:=by rw[Z];exact X4 hL
 have c3:`Bp:=`aCF ht;obtain⟨H3,a6⟩:∃H3,H3=upd H2 t (`t `S1):=`ae;rw[← a6];have s3:`aIw:=by rw[a6];exact X4 ht
 have a5:`c8 H H3:=`qP;have b0:H2 L=`a `ev:=by rw[Z,j9]
 have e4:H3 L=`a `ev:=s3 _ _ b0;have e3:H3 t=`aIx:=by rw[a6,j9]
 have c4:∀b∈as,`Yt:=λb hb z=>by
  rcases `aIy with q|q
  ·rw[q,hH] at z;cases z
  ·rw[q.2] at z;cases z
 have La:L∉as:=λz=>c4 L z U
 have ta:`L':=λz=>c4 t z c3
 have aL:a≠L:=`aIz
 have c0:=`pm a5;have M:`aIA=(`S3).length:=`aIB
 have a3:`aIC:=by
  rw[`K?];refine`aID;rw[`fC hy] at z;exact `aIE
 have Y:`aIF:=`aIG
 have e6:∀(k:Nat) c so,`k?[k]?=`dX->`F_[k]?=`sC->`aIH∨(`MQ/\c=L/\so=`mr):=λk c so q1 q2=>by
  by_cases hk':k<`g1
  ·rw[`MR] at q1
   rw[`aII] at q2;exact `o `Bc
  ·have hl1:=`aIJ
   rw[`Z] at hl1;have e0:`MQ:=`aIK
   subst e0;rw[`qX,`l0] at q1;rw[`xQ,`qX,`l0] at q2;exact `aIL
 have a7:∀(k:Nat) C dx fs,`F_[k]?=`mi->k=0:=λk C dx fs e=>by
  by_cases hk':`Mz
  ·rw[`MR] at e
   exact `aIM
  ·rw[`Mp] at e
   cases q:k - `Ei with
   | zero=>rw[q] at e;cases e
   | succ n=>rw[q] at e;cases e
 have cl:`h' `F3 a `aba:=ri0 Y a3 M (λk c so q1 q2=>by
  rcases e6 k c so q1 q2 with⟨q1,q2⟩|⟨_,rfl,rfl⟩
  ·exact c0.w.opAt q1 q2
  ·rw[w50 La];exact e4) a7
 refine⟨a,`be,c0.w.openOk,a,_,cl,kk _ _ ?_⟩;obtain⟨Hc,O⟩:∃Hc,Hc=`gp `F3 a `aba:=`ae;rw[← O];have ca:Hc a=`a (`my `aba):=`aIN
 have a1:∀b∈`k!,`aIO:=λb hb n=>by
  rw[O];unfold closed;obtain⟨so,q⟩:=vp0 M hb a3;rw[`ai n,q]
 have J:`aIP:=λb hb=>by
  rw[O];unfold closed;rw[`ai (show ¬b=a from λz=>hb (by rw[z];exact C5 Y)),y60 hb,`aIQ]
 have but:`aIR:=⟨λb u n z=>by
  by_cases hb:`MS
  ·rcases `MT with q|q
   ·rcases `S5 with w|w
    ·exact `I w n
    ·rw[`abb,← w.2,z]
   ·rw[`u6,U] at z;cases z
  ·rw[J b hb];exact a5 _ _ z,λb u xs n z=>by
  by_cases hb:`MS
  ·rw[`abb] at z;cases z
  ·rw[J b hb] at z;exact a5.nf _ _ _ z⟩
 have gr:`aIS:=`aIT;have d3:¬B L:=`BF U;have hw:RpW X.K Hc B (`F0) a `k? `F_:=by
  refine⟨Y,a3,ca,`gD,M,`h_ ?_ (`ah ⟨[],rfl,`abc⟩ `O),a7⟩
  ·by_cases n:b=a
   ·exact `o n
   ·refine `n ⟨?_,`abb⟩
    rcases `MT with q|q
    ·exact`aIU
    ·rw[`u6];exact d3
  ·refine `aIV
   intro z;subst e;have e5:=`aIW;subst e5;obtain⟨_,all⟩:`aaJ/\∀p∈`be,`aaK:=`bY a _ hH;have hm:`aIX:=by
    refine `aIY;rw[`aIZ];exact⟨`sF,q2⟩
   obtain⟨_,w,_⟩:=`aI_;rw[z,U] at w;cases w
 obtain⟨x,mk,a2⟩:=Ws0 e2;obtain⟨d0,a8,d2⟩:=vm0 a2;obtain⟨a',b3,hB,ro⟩:=`xs a8;rw[`fE] at b3;cases b3;have d1:`akR=`aI0:=by unfold ti0;rw[a2]
 have a4:Env X.K Hc B σ (`aI0):=`u1 a8 `fE but ((d2 _ _ _ _ ro).2 _ _ _ `aI1);have e7:=`xM b1 b2 a8 `fE but a4;rw[d1];have c2:=Xl0 a2 (`F0);refine⟨EnvS.unset e7 j _,B,a,`F0,`k!,`S3,`rO,b1,b2,a4.unset j _,⟨?_,hB,?_,hw⟩,Di0 jl,?_⟩
 ·rw[`aI2];exact `fE
 ·unfold dpN at c2 ⊢
  rw[`aI2];exact c2
 ·rw[xn0]
  have e8:Hc t=`aIx:=by
   rw[J t (λz=>(`dl z).elim ta λz=>by
    rw[`hD,b0] at ht;cases ht)]
   exact e3
  refine `n ⟨?_,t,`S1,rfl,⟨`BF c3,e8⟩,?_⟩
  ·cases dk<;>rfl
  ·rw[G5]
   refine⟨v1,[`xP],rfl,mj0 ?_ (rn0 c1 r1),?_⟩
   ·cases dk<;>first|rfl|(cases c1)
   ·rw[G5]
    refine⟨`xP,[],rfl,?_,`abc⟩;unfold Q5;rw[xn0];have c8:`eP=`g1:=`aI3
    exact `o ⟨`eP,L,w90 _,by rw[c8,`qX,`l0];rfl,rfl⟩
universe zz
noncomputable def so0(i:Nat)(go:GE)(dp:D)(δ:Ds):`aT Ds:=`u3 λd=>`fg λns=>`By λk=>match `h! with
 | `kr=>if `gm<`L then `a (`eI i k `MU δ) else `c
 | _=>`c
section
variable{o2:`H}{lp:Pos}{gk go2:GE}
theorem jr0(i j:Nat)(ho:`Bz)(hN:`n1:=by rfl)(hv:`Mv:=by first|exact `a!|exact `dd|exact `de)(hd:`Aw:=by decide)(hcd:`Mw:=by decide)
  (hbase:`aH1:=by rfl)
  (hfew:((`f8 `b_ (`aI4)).all `EH&&`EI
  &&`w ((`mw:`bI).length+`xk+`xl<30))=`b:=by rfl)
  (hline:`eF:=by rfl) (hs:`aI4=(`q,`bb `D7 `x)::`h0:=by rfl) (hplain:`lV:=by rfl)
  (hsw:`hO `aI5 `c `i! `x=`gT:=by rfl) :
  PS X (.Expr `aI5 pos) (λD σ H=>∃H₀ B₀ δ dp δ',`abd/\so0 i go dp δ=`o_/\`abe):=by
 intro pins s σ H De I ⟨`Y,`S,δ,dp,δ',pt,e1,kk⟩;obtain⟨en,B,a,ns,as,sos,v,b1,b2,env,at',hj,rv⟩:=pt;unfold so0 at e1;cases e2:`pp with
 | none=>rw[e2] at e1;cases e1
 | some d =>
 rw[e2,`f,`u2,`f] at e1;cases e6:`mR with
 | none=>rw[e6] at e1;cases e1
 | some k =>
 rw[e6,`f] at e1;split at e1
 rotate_left
 ·cases e1
 rename_i es hnode;split at e1
 rotate_left
 ·cases e1
 rename_i hz;cases e1;refine gp0 (M9 (rc0 L8 Af0 Ag0 qp0 `MD (O9 (K7 (i:=j) hN hv hd hcd) yx0 hs) `e' `iQ `e! hs `ka)) hsw `i s σ H De I `ME;have J:=`hC;obtain⟨c,so,rfl,f1,f2,f4⟩:=`MF;obtain⟨xs,rfl,rx⟩:=`n3;refine⟨a,`be,`k',`ST,v,hj,c,xs,v,rfl,rfl,`FO,by rw[← `MC];exact hz,?_⟩;have nk:`g0 X.K H1 B as `MU (`l `xU):=⟨_,rfl,`qV (`h_ `FQ (`ah `Fg `O))⟩;obtain⟨p1,p2,p3⟩:=J.w.put `sG f1 f2 nk `MG;refine⟨a,_,p1,kk _ ?_⟩;rw[show (`Tc `xU)=(`S2 `xU).ho from rfl,p2];obtain⟨d0,d',Y,q1,M⟩:=(`k5).setN J p3;obtain⟨x,mk,U⟩:=Ws0 `u2;have O:dpN i (DL.setN i k `MU δ)=`a (`SQ k `MU):=by
  unfold DL.setN;rw[U];exact Xl0 U _
 rw[q1] at O ⊢;exact⟨`xv s1 b1 b2 Y `fE M,B,a,_,as,_,v,b1,b2,M,⟨`fE,`sG,O,p3⟩,hj,(`E7 s1).mono (`xr `sG) `Eh⟩
noncomputable def q70(i j:Nat)(gk ga gb:GE):GSB:=fun δ=>`Mk λdk=>`fg λns=>if `S0 then
 (`aI6).bind fun δ2=>(`aI7).map fun δ3=>.nx δ3 else `c
theorem ao0{st1 st2 st3:`bw}{rest:`e6}{G:GSB}{ga gb:GE}(i j:Nat)(hij:`FX)
  (h1:PS X st1 `aIu)
  (h2:PS X st2 (λD σ H=>∃H₀ B₀ δ dp δ',`abd/\so0 i ga dp δ=`o_/\`abe))
  (h3:PS X st3 (λD σ H=>∃H₀ B₀ δ dp δ',`abd/\so0 i gb dp δ=`o_/\`abe))
  (h:`jz X `a7 G):`jz X (st1::st2::st3::`a7) (p8 (q70 i j gk ga gb) G):=.mk λH₀ B₀ δ pins s σ H D I hq163=>by
 obtain⟨r,en,e,k⟩:=hq163
 unfold p8 q70 at e;cases e1:`FB with
 | none=>rw[e1] at e;cases e
 | some dk =>
 rw[e1,`f] at e;cases e2:`dt with
 | none=>rw[e2] at e;cases e
 | some ns =>
 rw[e2,`f] at e
 by_cases hf:`S0
 rotate_left
 ·rw[`Lr] at e;cases e
 rw[`uN] at e;cases e3:`aI6 with
 | none=>rw[e3] at e;cases e
 | some δ2 =>
 rw[e3,`f] at e;cases e4:`aI7 with
 | none=>rw[e4] at e;cases e
 | some δ3 =>
 rw[e4] at e;refine zv0 h1 (zv0 h2 (zv0 h3 (h.go `Y `S δ3))) `i s σ H D I ⟨`Y,`S,δ,dk,ns,en,e1,hf,e2,hij,fun σ1 H1 p1=>⟨`Y,`S,_,_,δ2,p1,e3,λH2 p2=>⟨`Y,`S,δ2,_,δ3,p2,e4,λH3 p3=>⟨r,p3.en,e,k⟩⟩⟩⟩
universe zz
universe DL
namespace L2
open Spec PyProof.Rows
theorem V50(h:`fV):PE X e (fun σ H Q=>∃a sub,`aGY/\te σ `aGZ Q):=λpins s σ H Q I ⟨a,sub,o,q⟩=>h `i s σ _ Q (I.opened o) q
universe L2
namespace DL
open Spec PyProof.Rows L2
mutual
noncomputable def tr:`dc
 | `b0=>trs ds
 | `bK=>`q
 | `nV=>`q
 | `nW=>`q
 | _=>`b
noncomputable def trs:`AV
 | []=>`b
 | `as=>tr d&&trs ds
end
section
mutual
theorem J10(g:`aI8):∀{d:D} {v:V},`BG->`awZ
 | `u,_,_,h=>by rw[V6] at h ⊢;exact h
 | `bA,_,_,h=>by rw[X7] at h ⊢;exact h
 | `b?,_,_,h=>by rw[j5] at h ⊢;exact h
 | `br,_,_,h=>by rw[Y9] at h ⊢;exact h
 | `b0,_,n,h=>by
  unfold tr at n;rw[V3] at h ⊢;obtain⟨a,xs,e,q,r⟩:=h;exact⟨a,xs,e,g a xs q.1 q.2,lg0 g n r⟩
 | `ch,_,n,h=>by unfold tr at n;cases n
 | `kg,_,n,h=>by unfold tr at n;cases n
 | `qA,_,n,h=>by unfold tr at n;cases n
theorem lg0(g:`aI8):∀{ds:`j} {xs:`K},trs ds=`b->`YX
 | [],_,_,h=>by rw[n6] at h ⊢;exact h
 | `as,_,n,h=>by
  unfold trs at n;rw[`a?] at n;rw[o6] at h ⊢;obtain⟨x,r,e,h1,h2⟩:=h;exact⟨x,r,e,J10 g n.1 h1,lg0 g n.2 h2⟩
end
universe zz
noncomputable def u60(ns:`j):`w2
 | `t [k,`t r]=>(ye0 r).bind λn=>match ns[n]? with
  | `kr=>if `cm k=`b/\trs es=`b/\vk0 es=`b then `a (`t [k,`jv]) else `c
  | _=>`c
 | _=>`c
theorem bn0{d:D}(h:`nY):`kq:=by cases d<;>first|rfl|(cases h)
theorem RpW.off_tup(w:`fb){t:`e}(h:H t=`gP):`L':=λz=>by
 rcases w.own t z with q|q
 ·rw[q,w.at'] at h;cases h
 ·rw[q.2] at h;cases h
theorem RpW.part(w:`fb){d d':D}(r:`kh)(h:`abf=`a d'):Rp K `sE `uZ d' v:=by
 unfold u60 at h;split at h
 rotate_left
 ·cases h
 rename_i k rr;cases er:ye0 rr with
 | none=>rw[er] at h;cases h
 | some n =>
 rw[er,`f] at h;split at h
 rotate_left
 ·cases h
 rename_i es hn;split at h
 rotate_left
 ·cases h
 rename_i hq;cases h;obtain⟨h1,h2,h3⟩:=hq;rw[xn0] at r;rcases r with⟨k',c,e,_⟩|⟨_,t,xs,rfl,q,rs⟩
 ·exfalso
  cases k<;>cases e
 rw[G5] at rs;obtain⟨vk,r1,rfl,rk,rs⟩:=rs;rw[G5] at rs;obtain⟨vc,r2,rfl,rc,rs⟩:=rs;rw[wg0] at rs;subst rs;rw[xn0,er] at rc;rcases rc with⟨k',c,e,hc,rfl⟩|⟨e,_⟩
 rotate_left
 ·cases e
 cases e;obtain⟨so,J,nk⟩:=`aH_;obtain⟨ys,rfl,ry⟩:=wc0 nk;have gt:∀b xs,`r!->`PL->¬(λ_:`e=>`bR) b/\`aHK=`gP:=λb xs _ z=>⟨`wi,by rw[w50 (w.off_tup z)];exact z⟩
 rw[V3];refine⟨t,_,rfl,gt t _ q.1 q.2,?_⟩;rw[o6];refine⟨vk,_,rfl,rn0 h1 (bm0 (bn0 h1) rk),?_⟩;rw[o6];refine⟨`t0,[],rfl,?_,`f_⟩;rw[W4];exact⟨c,ys,rfl,`o ⟨`wi,`o (w.opAt hc J)⟩,lg0 gt h2 (oj0 h3 ry)⟩
theorem Env.blank{σ:St}(h:`ry=n):Env K H `uZ σ (`awt):=by
 subst h;refine⟨?_,λa z=>`si,`aBc⟩
 ·induction σ with
  | nil=>exact `O
  | cons o σ ih=>exact `ah `sh ih
 ·rw[`qo] at h1
  split at h1<;>cases h1
noncomputable def c80(i j:Nat)(g g2:GE):GSB:=fun δ=>`cq λd=>`fg λns=>(`abf).bind λd'=>(`aI9).bind λr=>match r with
 | `jv=>if `MM then `a (.rt `FN δ) else `c
 | _=>`c
section
variable{e2:`H}{g g2:GE}
theorem Wh0(i j:Nat)(nd:`e8)(he:`MB)(h2:PDF X e2 g2)(hi:`n1:=by rfl)(hy:`kd:=by first|exact `a!|exact `gi)
  (hsw:`hO e `w0 `i! `x=`gT:=by rfl)
  (hf:`ke:=by first|exact `bQ|exact `b'|assumption) :
  `jz X [`ja `mw e pos,`P6 (`a e2) `mL] (c80 i j g g2):=.mk λH₀ B₀ δ pins s σ H D I hq164=>by
 obtain⟨r,en,e1,kk⟩:=hq164
 unfold c80 at e1;obtain⟨B,b1,b2,env⟩:=`aK;cases q1:`ar with
 | none=>rw[q1] at e1;cases e1
 | some d =>
 rw[q1,`f] at e1;cases q2:`dt with
 | none=>rw[q2] at e1;cases e1
 | some ns =>
 rw[q2,`f] at e1;cases q3:`abf with
 | none=>rw[q3] at e1;cases e1
 | some d' =>
 rw[q3,`f] at e1;cases q4:`aI9 with
 | none=>rw[q4] at e1;cases e1
 | some rr =>
 rw[q4,`f] at e1;split at e1
 rotate_left
 ·cases e1
 rename_i es;split at e1
 rotate_left
 ·cases e1
 rename_i hfl;cases e1;obtain⟨a,as,sos,at'⟩:=`xO q2;refine zv0 (ah0 nd hi hy (he.go B δ) hsw hf) (zv0 (pj0 (M9 (V50 (h2.go `uZ `akZ)))) f70) `i s σ H D I `aI';have J:=`hC;refine⟨a,`be,`k',`jv,?_,q4,`aI!⟩
 ·exact(`aI?).set j (J.w.part r1 q3)
 ·obtain⟨c1,c2⟩:=`aa9 s2
  refine⟨a,`be,c1,kk _ σ _ ?_⟩;have M:p∉as:=λz=>by
   obtain⟨so,l⟩:=vp0 J.w.len z J.w.nd;unfold opened at hp;rw[l] at hp;cases hp
  have O:`XA:=by rw[w50 M] at hp;exact hp
  have sm:=`jl c2;refine `aJa;obtain⟨xs,o1,rx⟩:=ro;rw[W4];refine⟨p,xs,rfl,`o ⟨`BF (`k6 O),`o ?_⟩,`aJb⟩;unfold closed;rw[`ai (λz=>M `aJc),y60 M];exact o1
universe zz
universe DL
namespace DL
open Spec PyProof.Rows L2
noncomputable def partsOf(ns:`j):`Kt
 | []=>`oY
 | `ko=>(u60 ns p).bind λd=>(`BH).map (d::·)
noncomputable def g80(i:Nat)(go:GE)(n:Nat)(caps:`k)(f:`aS)(ge:GE):GX:=fun δ=>`u3 λd=>`fg λns=>`By λk=>match `h! with
 | `a (`l ps)=>(`BH).bind λitems=>(`aJd).bind λr=>match r with
  | `l rs=>if trs rs=`b then `a (`t rs,δ) else `c
  | _=>`c
 | _=>`c
theorem RpW.parts(w:`fb):∀{ps items:`j} {xs:`K},`kY K H B as ps xs->`BH=`Eb->Rps K `sE `uZ `aQ xs
 | [],_,_,r,h=>by
  rw[wg0] at r;cases h;rw[n6];exact r
 | `ko,_,_,r,h=>by
  rw[G5] at r;obtain⟨x,xs,rfl,r1,r2⟩:=r;unfold partsOf at h;cases e1:u60 ns p with
  | none=>rw[e1] at h;cases h
  | some d =>
  rw[e1,`f] at h;cases e2:`BH with
  | none=>rw[e2] at h;cases h
  | some ds =>
  rw[e2] at h;cases h;rw[o6];exact⟨x,xs,rfl,w.part r1 e1,w.parts r2 e2⟩
theorem R40{items:`j}(q:`w7)(rs:Rps K H B `aQ xs):ItD K B (Itl K a) `aQ H:=by
 refine`Rp
 ·have:`up:=`Ew
  exact`Zq
 ·obtain⟨e3,y⟩:=y
  obtain⟨x',e4,r'⟩:=`Zr;have:=`Zs;rw[e4] at this;cases `A;subst e3;exact`Zt
 ·exact`Zu
section
variable{p lpos:Pos}
theorem Q00(i:Nat){sc scope:`cG}{elt iter:`H}{N N':`g}{n:Nat}{caps:`k}{idx:`k}{f:`aS}{ge:GE}
  (hm:`b7 `c2=`c) (hbt:`aJe) (ok:`qJ) (hidx:∀j∈idx,j<n) (hi:PN X i `je go)
  (hg:`iY) (he:`qF)
  (hc:`bL:=by rfl) (hsc:`fY:=by rfl) (hN:`uI:=by rfl) (hs:`eC:=by intro _;rfl) (hgl:Gl X `c2 := by rfl)
  (hst:`cM [`abg] `x=(`q,`bb (`abg) `x)::`h0:=by rfl) (hpl:`kj:=by rfl) :
  PX X (`aR (`ce `c2 p) [`abg] [] pos) (g80 i go n `cg f ge):=.mk λH₀ B₀ δ pins s σ H Q I hq165=>by
 obtain⟨r,en,e1,kk⟩:=hq165
 unfold g80 at e1;obtain⟨B,b1,b2,env⟩:=`aK;cases q1:`pp with
 | none=>rw[q1] at e1;cases e1
 | some d =>
 rw[q1,`f] at e1;cases q2:`dt with
 | none=>rw[q2] at e1;cases e1
 | some ns =>
 rw[q2,`f] at e1;cases q3:`mR with
 | none=>rw[q3] at e1;cases e1
 | some k =>
 rw[q3,`f] at e1;split at e1
 rotate_left
 ·cases e1
 rename_i ps hn;cases q4:`BH with
 | none=>rw[q4] at e1;cases e1
 | some items =>
 rw[q4,`f] at e1;cases q5:`aJd with
 | none=>rw[q5] at e1;cases e1
 | some rr =>
 rw[q5,`f] at e1;split at e1
 rotate_left
 ·cases e1
 rename_i rs;split at e1
 rotate_left
 ·cases e1
 rename_i htr;cases e1;obtain⟨a,as,sos,at'⟩:=`xO q2;refine M9 (p00 R7 hgl hm hbt (O9 (gf0 hc hsc `uJ (Y50 (U8 (hi.go B δ))) (g:=`r') (tt:=`abh) (te:=`ZB)
  `AP
  `abi
  `ZC hs) yx0 hst) `p `p hst hpl) `i s σ H Q I `aI'
 have J:=`hC;obtain⟨c,so,rfl,f1,f2,f4⟩:=`akL r1 q3 hn;obtain⟨xs,rfl,rx⟩:=`n3;have sq:SqL' X.K (`aJf) `uZ c xs:=`aIl;refine⟨a,`be,`k',c,rfl,⟨xs,sq.to⟩,?_⟩;have Y:=l90 (K:=X.K) (B:=`FD) (δ:=`S7) (σ:=σ) (H:=`aJf) (n:=n) (caps:=`cg) (gi:=`ak_) (idx:=idx) (f:=f) (gt:=noT) (ge:=ge) `f0
  (Q:=λv H'=>Rz0 σ H' λxs H2=>`auM (v::xs) H2 `aHC) ⟨`l rs,`aI?,q5,`aI!⟩
 ·obtain⟨U,_,e',fk⟩:=Y
  cases e';exact fk (Itl X.K c) _ `xg (R40 sq (J.w.parts rx q4))
 ·obtain⟨zs,o1,rz⟩:=ro
  refine⟨p,zs,rfl,`o ⟨`o (`o o1),λl hl=>?_⟩⟩;obtain⟨H3,M⟩:∃H3,H3=upd H2 l (`t zs):=`ae;rw[← M];have s3:`aIw:=by rw[M];exact X4 hl
  obtain⟨c1,c2⟩:=`aa9 `abj;have sm:=`jl c2;refine⟨a,`be,c1,kk _ _ (`aJa)⟩;have O:∀b xs,`aJg->`MA:=λb xs z m=>by
   obtain⟨so,l⟩:=vp0 J.w.len m J.w.nd;have:`g6 H1 `d5 b=`FG:=by unfold opened;rw[l]
   rw[`abj _ _ `A] at z;exact `aaI so xs (A3 z)
  have gt:∀b xs,`aJg->`r!/\`aJh:=λb xs z=>by
   have hb:=O b xs z;have e:`aJh:=by
    unfold closed;rw[`ai (λz=>hb `aJc),y60 hb];exact z
   exact⟨λw=>((`k1 sm).bad b w).nt xs e,e⟩
  rw[V3];exact⟨l,zs,rfl,gt l zs (by rw[M,j9]),lg0 (λb xs _ z=>gt b xs (s3 _ _ z)) htr rz⟩
universe zz
noncomputable def zw0(f:`aS)(gx:GX)(jb:Nat)(δ0:Ds):`j->D->`aT (`j×D)
 | [],b=>`a ([],b)
 | `as,b=>(f d (δ0.set jb (.ow b))).bind fun δ1=>(gx δ1).bind λr=>match r.2[jb]? with
  | `a `S9=>(zw0 f gx jb δ0 ds b').map λq=>(r.1::q.1,q.2)
  | _=>`c
noncomputable def wy0(n:Nat)(caps:`k)(i jb:Nat)(gi:GA)(f:`aS)(gx:GX):GX:=fun δ=>`Bu λb=>`uw λitems=>if `qy then
 (zw0 f gx jb `hW `aQ b.1).bind λq=>if isL q.2=`q then `a (`l q.1,`a0 i (.ow (b.2 q.2))) else `c else `c
theorem Env.comp_own{σ:St}{δ:Ds}(en:`bh)(no:`ayI){jb:Nat}{b:D}(hs:σ[jb]?=`w!)(hb:B a)(r:RpL K H B b a):Env K H B σ (`a0 jb (.ow b)):=by
 refine⟨`RP (i:=jb) `E1 hs en.all,en.bad,λi j a' ds es h1 h2 _ _=>?_⟩;rcases `gJ with⟨q1,_,_⟩|⟨_,z⟩
 ·rcases `km with⟨q2,_,_⟩|⟨_,z⟩
  ·exact q1.symm.trans q2
  ·exact `aJi
 ·exact `aJi
theorem Rl0{σ:St}{k:Nat}(hcap:`u7)(hs:`zA):`aJj=`oq:=by
 unfold J5;rw[`av1,`ul,`av2,`ca,hcap];show `a ((`PS).join)=_;rw[hs];rfl
noncomputable def teX(K:`y)(gx:GX):TE:=fun σ H Q=>∃H₀ B₀ δ,tX K `Y `S δ gx σ H Q
theorem ip0{K:`y}{H₀:Hp}{B₀:BS}{δ:Ds}{σ:St}{H:Hp}{Q:VK}{k:Nat}{gi:GA}{f:`aS}{gx:GX}(hcap:`u7)(hidx:∀j∈idx,j<n)
  (h:tX K `Y `S δ `S! σ H Q) :
  dx0 n `cg (fun σ H R=>∃B δ,tDI K B δ gi σ H R) `ayM (fun σ H Q=>∃B δ,tDT K B δ noT σ H Q) (teX K gx) σ H Q:=by
 obtain⟨r,en,e1,kk⟩:=h;obtain⟨B,b1,b2,env⟩:=`aK;unfold wy0 at e1;cases eb:`g7 with
 | none=>rw[eb] at e1;cases e1
 | some bm =>
 rw[eb,`f] at e1;cases e2:`r5 with
 | none=>rw[e2] at e1;cases e1
 | some items =>
 rw[e2,`f] at e1;split at e1
 rotate_left
 ·cases e1
 rename_i hsz;cases e3:zw0 f gx `sI `hW `aQ `kp with
 | none=>rw[e3] at e1;cases e1
 | some q =>
 rw[e3,`f] at e1;split at e1
 rotate_left
 ·cases e1
 rename_i hq;cases e1;obtain⟨d0,b0,a8⟩:=`qU;obtain⟨a,O,hB,ro⟩:=`xs b0;refine⟨B,δ,`aQ,env,e2,`ayN⟩;have Z:=`k5;have f3:RpG K H1 B `kp a:=RpG.same s1 (`aJk).1;have c3:¬B L:=Z.free hL;have a6:a≠L:=λz=>c3 (z▸hB)
 obtain⟨Bp,a4⟩:∃Bp:BS,Bp=λx=>B x∨x=L:=`ae
 have d1:Bp L:=by rw[a4];exact `b'
 have M:∀x,B x->Bp x:=λx z=>by rw[a4];exact `fA
 have c5:∀x,Bp x->B x∨x=L:=λx z=>by rw[a4] at z;exact z
 have gr:∀{H2:Hp},`aJl->`ayP:=λ{H2} h2 x o nb hx=>⟨λz=>(c5 x z).elim nb (U6 hx hL),h2 x o (λz=>nb (z▸hB)) hx⟩
 have a1:`aJj=`w!:=Rl0 hcap O;have d2:n+k∉idx:=λz=>by have:=`f0 _ z;omega
 have e7:n+k<(`D?).length:=by
  rw[← `po (env.comp n `cg).all];exact(`cL a1).1
 have bu:But a H1 (`aIv):=⟨λx o _ e=>by rw[`aJm];exact e,λx o xs _ e=>by
  by_cases z:x=L
  ·rw[z,j9] at e;cases e
  ·rw[d9 z] at e;exact e⟩
 refine⟨λj m ys H2=>m=`cx - j/\j<=`cx/\`ayQ/\`aJl/\`en<=j/\∃pre rest b',q.1=pre++`a7/\`ayR/\RpL K H2 Bp b' a/\zw0 f gx `sI `hW (`jp j) b'=`a (`a7,q.2),
  ⟨_,rfl,`cQ,j9,bu,`jd,[],q.1,`kp,rfl,`f_,(`_d `aJn (gr bu) f3).toL,e3⟩,?_⟩
 rintro j m ys H2 ⟨rfl,f8,hD,s2,f7,pre,rest,b',ho,rp,rb,ec⟩;have U:∀x,Bp x->NB (H2 x):=λx z=>by
  by_cases xa:x=a
  ·rw[xa];exact rb.live
  rcases c5 x z with z|z
  ·exact(Z.bad x z).keep λo h=>s2 x o xa h
  ·rw[z];exact NB.of hD (λ_ _ z=>by cases z) (λ_ z=>by cases z)
 have f6:Env K H2 Bp `eV `aJo :=
  Env.comp_own ⟨Pd.impG (gr s2) `ayS (Z.comp n `cg).all,U,`Zz⟩ (λ_ _ z=>ud0 z) a1 (M a hB) rb
 by_cases hlt:j<`cx
 ·refine `n ⟨it.go j H2 `abk hlt,`ayT⟩
  obtain⟨sm,dx,c4,rx⟩:=`Rx j H2 x H3 `abk y hlt;have s3:But a H1 H3:=⟨λx o n e=>sm _ _ (s2 x o n e),λx o xs n e=>s2.nf x o xs n (sm.nf x o xs e)⟩;have f1:`ayU:=rx Bp (gr s3) U;have e8:=f6.same sm;have e0:=sm _ _ hD;have f5:=rp.same sm;have b3:`jp j=dx::`jp `qz:=by
   rw[`KX];congr 1;rw[`KY] at c4;exact A3 c4
  rw[b3] at ec;unfold zw0 at ec;cases e4:f dx `aJo with
  | none=>rw[e4] at ec;cases ec
  | some δ1 =>
  rw[e4,`f] at ec;cases e5:gx δ1 with
  | none=>rw[e5] at ec;cases ec
  | some r5 =>
  rw[e5,`f] at ec;split at ec
  rotate_left
  ·cases ec
  rename_i b2' ho5;cases e6:zw0 f gx `sI `hW (`jp `qz) b2' with
  | none=>rw[e6] at ec;cases ec
  | some q6 =>
  rw[e6,`gH] at ec;have a7:r5.1::q6.1=`a7:=(`MV).1;have a2:q6.2=q.2:=(`MV).2;refine⟨Bp,dx,_,δ1,f1,e8,e4,fun σ4 w en4=>⟨⟨w.len,λj' v z=>?_⟩,?_⟩⟩
  ·by_cases hj:j'∈idx
   ·rw[ar0 (`f0 j' hj)] at z;cases z
   ·rw[(`xd j' hj).1];exact z
  have h4:σ4[n+k]?=`w!:=by rw[(`aJp).1];exact a1
  refine⟨Bp,δ1,`b,en4,rfl,`ayV⟩;show if `b=`b then _ else _
  rw[`bm];have Y:=`ayW;refine⟨λx=>if x=a then `c else H5 x,λx=>Bp x/\x≠a,δ1,r5,⟨⟨λx o e=>?_,λx o xs e=>?_⟩,⟨Bp,`aHl,λx z=>?_,Y⟩,λi' ds a' h1 h2=>?_,λx z=>?_⟩,e5,λv H6 ev=>?_⟩
  ·by_cases z:x=a
   ·simp only[z,`fW] at e;cases e
   ·simp only[z,`cU] at e;exact e
  ·by_cases z:x=a
   ·exfalso
    obtain⟨a5,c0,_,f2⟩:=Y.at (i:=n+k) (d:=b') (by rw[(`aJp).2];exact Di0 e7);rw[h4] at c0;cases c0;rw[z] at e;exact f2.plain o xs e
   ·simp only[z,`cU];exact e
  ·by_cases z':x=a
   ·exact `n (by simp only[z',`fW])
   ·exact `o ⟨z,z'⟩
  ·have e9:i'∉idx:=λz=>w.own i' z ds h1
   rw[(`xd i' e9).2] at h1;rcases `gJ with⟨q1,_,_⟩|⟨_,z⟩
   ·rw[← q1,h4] at h2
    cases h2;simp only[`fW]
   ·exact(ud0 z).elim
  ·simp only[z.2,`cU]
   exact Y.bad x z.1
  obtain⟨B',c1,c2,d3,rv⟩:=`l1;obtain⟨a',c8,f0,rl⟩:=d3.at ho5;rw[h4] at c8;cases c8;have less:∀x,Bp x->B' x:=λx z=>by
   by_cases q:x=a
   ·rw[q];exact f0
   ·exact `aaP
  have bt:But a H5 H6:=⟨λx o z e=>`Ms x o `aHk,λx o xs z e=>by have:=ev.same.nf x o xs e;simpa only [z,`cU] using `A⟩;have f4:`ayX:=bt L _ (B4 a6) (s5 _ _ e0);have g6:Gr H6 `ajc B' Bp:=λx o nb hx=>⟨λz=>nb (less x z),by rw[d9 (λz=>nb (by rw[z];exact less L d1))];exact hx⟩
  have g5:Gr H5 H6 Bp Bp:=`FA (M a hB) bt;have g7:`ayY:=λx o nb hx=>⟨nb,by rw[d9 (λz=>nb (by rw[z];exact d1))];exact hx⟩
  refine⟨f4,`C,`cx - `qz,`C,rfl,hlt,j9,⟨λx o n e=>?_,λx o xs n e=>?_⟩,`P!,pre++[r5.1],q6.1,b2',by rw[ho,← a7];simp,?_,?_,by rw[e6,← a2]⟩
  ·rw[`aJm]
   exact bt _ _ n (s5 _ _ (s3 _ _ n e))
  ·by_cases z:x=L
   ·rw[z,j9] at e;cases e
   ·rw[d9 z] at e
    exact s3.nf _ _ _ n (s5.nf _ _ _ (bt.nf _ _ _ n e))
  ·exact `pf (((f5.same s5).mono g5).mono g7) (`Mt g6)
  ·exact RpL.mono `aJn g6 rl
 ·have e:j=`cx:=`C
  subst e;refine `o ⟨`Ry _ H2 `abk `bj,?_⟩;rw[`uC] at ec;have a7:`ayZ:=(`MV).1;have a2:b'=q.2:=(`MV).2;subst a7;subst a2;rw[`cZ] at ho;have hh:But a H H2:=⟨λx o n e=>s2 x o n (s1 x o e),λx o xs n e=>`Ez x o xs (s2.nf x o xs n e)⟩;have a3:Env K H2 B σ `akG:=`u1 b0 O hh ((`aJk).2 H2 B q.2 ((rb.toO hq).toG.less M));refine kk (`xP) H2 (`h4 (`xM b1 b2 b0 O hh a3) b1 b2 a3 ?_);rw[W4];exact⟨L,ys,rfl,`o ⟨c3,`o hD⟩,by rw[ho];exact rp.mono (`h3 M)⟩
theorem Sg0(i k:Nat){sc scope:`cG}{elt iter:`H}{N':`g}{n:Nat}{caps:`k}{gi:GA}{idx:`k}{f:`aS}{gx:GX}
  (hcap:`u7) (hc:`bL) (hsc:`fY) (ok:`nR) (hidx:∀j∈idx,j<n) (hi:`hy)
  (hg:`iY) (he:`MW)
  (hs:`eC:=by intro _;rfl) :
  `aJq:=.mk λH₀ B₀ δ =>
 (gf0 hc hsc ok (wi:=`aJr) (g:=`r') (tt:=`abh) (te:=`aJs)
  `aJt
  `AP
  `abi
  `aJu hs).imp fun σ H Q h=>ip0 hcap `f0 h
noncomputable def jj0(j:Nat)(gx:GX):GS:=fun δ=>`AU λr=>.nx (r.2.set j (.sh r.1))
theorem b60(i k j:Nat){y:Str}{py spos:Pos}{sc scope:`cG}{elt iter:`H}{N':`g}{n:Nat}{caps:`k}{gi:GA}{idx:`k}{f:`aS}{gx:GX}
  (hcap:`u7) (hN:`e8) (hc:`bL) (hsc:`fY) (ok:`nR) (hidx:∀j∈idx,j<n) (hi:`hy)
  (hg:`iY) (he:`MW)
  (hiN:`n1:=by rfl) (hy:`kd:=by first|exact `a!|exact `gi)
  (hsw:`aJv:=by rfl)
  (hs:`eC:=by intro _;rfl)
  (hf:`ke:=by first|exact `bQ|exact `b'|assumption) :
  `aJw:=.mk λH₀ B₀ δ pins s σ H D I hq166=>by
 obtain⟨r,en,e1,kk⟩:=hq166
 unfold jj0 at e1;cases e2:wy0 n `cg i `sI gi f gx δ with
 | none=>rw[e2] at e1;cases e1
 | some q =>
  rw[e2] at e1;cases e1;refine it0 (i:=j) hN hiN hy hc hsc ok (wi:=`aJr) (g:=`r') (tt:=`abh) (te:=`aJs)
   `aJt
   `AP
   `abi
   `aJu hsw hs hf `i s σ H D I (ip0 hcap `f0 `abl)
  obtain⟨B,c1,c2,env,rv⟩:=`l1;exact kk _ H' (ev.s.wr c1 c2 (`En H') ac0 (env.set j rv))
noncomputable def jk0(gx:GX):GS:=fun δ=>`AU λr=>.rt r.1
theorem aq0(h:`n0):PSD X `ql (jk0 gx):=.mk λH₀ B₀ δ pins s σ H D I hq167=>by
 obtain⟨r,en,e1,k⟩:=hq167
 unfold jk0 at e1;cases e2:`eW with
 | none=>rw[e2] at e1;cases e1
 | some q =>
  rw[e2] at e1;cases e1;refine pj0 `n2 `i s σ H D I `abl;obtain⟨B,c1,c2,env,rv⟩:=`l1;exact k v H' `Ms (`Mt (`h3 c1))
noncomputable def dgO(i:Nat)(gk:GE):GE:=fun δ=>`Bu λb=>match b.1 with
 | `Ay=>`Mk λdk=>`aGO λq=>`ZS
 | _=>`c
section
variable{a:`H}{p:Pos}{g ga gb:GE}
theorem v80(i:Nat)(hu:`kl)(hb:`df)(hN:`b4:=by rfl)(hv:`dS:=by first|exact `a!|exact `dd|exact `de)(hd:`aJ:=by decide)(hcd:`dT:=by decide)
  (hs:Xr0 b:=by exact `lT):PD X (`kJ `d6 b pos) (dgO i gb):=.mk λB δ=>(Y80 hu `g4 `fc hs).imp fun σ H Q hq168=>by
 obtain⟨d,en,h,k⟩:=hq168
 unfold dgO at h;cases eb:`g7 with
 | none=>rw[eb] at h;cases h
 | some bm =>
 rw[eb,`f] at h;obtain⟨d0,U,J⟩:=`qU;obtain⟨a,M,hB,ro⟩:=en.at U;have ro:=(J X.K H B a ro).1;split at h
 rotate_left
 ·cases h
 rename_i ks ds hbm;rw[hbm] at ro;obtain⟨xs,hx,hl,rr⟩:=ro;cases e2:`d3 with
 | none=>rw[e2] at h;cases h
 | some y =>
 rw[e2,`f] at h;cases e3:yp0 y with
 | none=>rw[e3] at h;cases h
 | some q =>
 rw[e3,`f] at h;refine⟨_,M,y,en,e2,`xc⟩;obtain⟨v,O,rv⟩:=(xj0 (rr.same s2)).1 d h;have:=p40 e3 r2;subst this;exact⟨a,v,rfl,by rw[← O];exact DGet.k (s2 _ _ hx),k v H2 s2 rv⟩
theorem S80{d:D}(h:`nY)(r:`ci):`Q7:=by
 cases d<;>simp[`cm] at h
 ·rw[V6] at r ⊢;exact r
 ·rw[X7] at r ⊢;exact r
 ·rw[j5] at r ⊢;exact r
 ·rw[Y9] at r ⊢;exact r
noncomputable def by0(ga:GE)(gx:GX):GX:=fun δ=>`Ap λd=>if `nY then `AU λr=>(`t [d,r.1],r.2) else `c
theorem EnvV.new{σ:St}{δ:Ds}{d d':D}{v':V}(ev:`A!)(s:`a')(r:∀B:BS,`qD->`ci->Rp K H' B d' v'):EnvV K `Y `S H' σ δ d' v':=by
 obtain⟨B,c1,c2,env,rv⟩:=`l1;exact⟨`aJx s,⟨B,c1,c2,`k1 s,r B `MP rv⟩,ev.fr,ev.b0⟩
theorem L60{x1}(ha:`cr)(h:`n0)(hs:`cM [a,e] `x=`Qe::`RH:=by rfl)(hs2:`fd:=by rfl):PX X (`k7 [a,e] x1 pos) (by0 ga gx):=.mk λH₀ B₀ δ pins s σ H Q I hq169=>by
 obtain⟨r,en,e1,k⟩:=hq169
 unfold by0 at e1;obtain⟨B,b1,b2,env⟩:=`aK;cases e2:`c9 with
 | none=>rw[e2] at e1;cases e1
 | some d =>
 rw[e2,`f] at e1;split at e1
 rotate_left
 ·cases e1
 rename_i hfl;cases e3:`eW with
 | none=>rw[e3] at e1;cases e1
 | some q =>
 rw[e3] at e1;cases e1;refine az0 (O9 `a4 (O9 `n2 yx0 hs2) hs) `i s σ H Q I ⟨d,env,e2,λv1 H1 s1 r1=>⟨q,`o7 s1,e3,λv2 H2 ev=>⟨`aJy,λp hp=>k _ _ (ev.new `es λB' hB rv=>?_)⟩⟩⟩;rw[V3];refine⟨p,[v1,v2],rfl,⟨λz=>hB p z hp,j9⟩,?_⟩;rw[o6];refine⟨v1,[v2],rfl,S80 hfl r1,?_⟩;rw[o6];exact⟨v2,[],rfl,`E7 `es,`f_⟩
noncomputable def bp0(f:`J)(gx:GX):GX:=fun δ=>`K7 λr=>(f [r.1]).map `aJz
theorem Vk0{T:`cH}{f:`J}(hc:`XN)(hf:`KQ)(hm:`nG)(hv:`XO)(ha:`n0)(hg:`cI:=by rfl)
  (hn:`kE := by decide) (hdb:`aJ:=by decide) (he:`fd:=by rfl) (hpl:`kj:=by rfl) :
  PX X `aCG (bp0 f gx):=.mk λH₀ B₀ δ=>(p00 hc hg hm hv (O9 `Mo yx0 he) hn hdb he hpl).imp fun σ H Q hq170=>by
 obtain⟨q,en,e1,k⟩:=hq170
 unfold bp0 at e1;cases e2:`eW with
 | none=>rw[e2] at e1;cases e1
 | some r2 =>
 rw[e2,`f] at e1;cases e3:f [r2.1] with
 | none=>rw[e3] at e1;cases e1
 | some d =>
 rw[e3] at e1;cases e1;refine⟨r2,en,e2,λv H1 ev=>?_⟩;obtain⟨B,c1,c2,env,rv⟩:=`l1;exact hf H1 B [v] [r2.1] d Q `MP (by rw[o6];exact⟨v,[],rfl,rv,`f_⟩) e3 λv' H2 s2 r'=>k v' H2 ⟨`aJx s2,⟨B,c1,c2,`k1 s2,r'⟩,ev.fr,ev.b0⟩
universe zz
theorem er0:∀(kvs acc:`go),((acc++kvs).map `bz).Nodup->s80 acc kvs=acc++kvs
 | [],acc,_=>by rw[`cZ];rfl
 | p::r,acc,h=>by
  have hn:`aJA=acc++[p]:=by
   unfold putK;rw[`ai];rw[`abm];rintro⟨q,hq,e⟩;have e:=w8 e;rw[`aN,`T,`K?] at h;exact h.2.2 q.1 (P8 hq) p.1 A6 e
  show s80 (`aJA) r=_;rw[hn,er0 r (acc++[p]) (by rw[`bp];exact h),`bp];rfl
abbrev GP:=Ds->`aT (`MX)
noncomputable def Xi0:GP:=`awl
noncomputable def ua0(gk gv:GE)(gP:GP):GP:=fun δ=>`Mk λk=>`u4 λv=>(`BI).map λps=>`Dr::ps
noncomputable def RpP(K:`y)(H:Hp)(B:BS)(ps:`MX)(vs:`k3):Prop:=Rps K H B (`gs) (`ib `bz)/\Rps K H B (`hj) (`S?)
structure PDP(X:Cx)(pos:Pos)(keys:`A5)(vals:`bI)(gP:GP):Prop where
 mk::go:∀δ,∃trs,PPs X pos `lc vals trs/\∀B σ H Q,(∃ps,`RG/\`BI=`a ps/\∀vs H',`a'->RpP X.K H' B ps vs->`WE)->`aAC
section
variable{keys:`A5}{vals:`bI}{gk gv:GE}{gP:GP}
theorem Po0:PDP X pos [] [] Xi0:=.mk fun δ=>⟨[],Ps0,λB σ H Q hq171=>by
 obtain⟨ps,en,e,k⟩:=hq171
 cases e;exact k [] H `c' ⟨`aJB,`aJB⟩⟩
theorem jl0(hk:`aIs)(hv:PD X ve gv)(hr:`aJC):PDP X pos (`a ke::`lc) (ve::vals) (ua0 gk gv gP):=.mk fun δ=>by
 obtain⟨trs,h1,h2⟩:=hr.go δ;refine ⟨_,Ri0 (tk:=fun σ H Q=>∃B,tD X.K B δ gk σ H Q) (tv:=fun σ H Q=>∃B,tD X.K B δ gv σ H Q) (λpins s σ H Q I ⟨B,h⟩=>hk B δ `i s σ H Q I h) (λpins s σ H Q I ⟨B,h⟩=>hv B δ `i s σ H Q I h) h1,λB σ H Q hq172=>?_⟩;obtain⟨ps,en,e,k⟩:=hq172;unfold ua0 at e;cases e1:`FB with
 | none=>rw[e1] at e;cases e
 | some a =>
 rw[e1,`f] at e;cases e2:`xN with
 | none=>rw[e2] at e;cases e
 | some b =>
 rw[e2,`f] at e;cases e3:`BI with
 | none=>rw[e3] at e;cases e
 | some qs =>
 rw[e3] at e;cases e;refine⟨B,a,en,e1,λv1 H1 s1 r1=>⟨B,b,`gk,e2,λv2 H2 s2 r2=>h2 B _ _ _ ⟨qs,`aJD,e3,λvs H3 s3 rr=>k _ H3 (`qP) `Kn⟩⟩⟩
 ·rw[`T,`T,o6]
  exact⟨v1,_,rfl,`Er `abj,rr.1⟩
 ·rw[`T,`T,o6]
  exact⟨v2,_,rfl,`aFV,rr.2⟩
theorem Z10:∀{ks:`fB} {vs:`k3},`ib `bz=`EW->vs=`aJE `_c
 | [],[],_=>rfl
 | [],`db,h=>by cases h
 | `db,[],h=>by cases h
 | `kk,`A6,h=>by
  rw[`T,`T] at h;have h1:=(d5 h).1;have h2:=(d5 h).2;rw[`T,`dB,`T,← Z10 h2,← h1]
noncomputable def jt0(gP:GP):GE:=fun δ=>(`BI).bind λps=>(q30 (`gs)).bind λks=>if ks.Nodup/\`gh<=15 then `a (`cy `Ed (`hj)) else `c
theorem Tl0(h:`aJC)(hall:`aAF:=by rfl)(hl:`Lk=vals.length:=by rfl)(h0:`lc≠[]:=by exact λz=>nomatch z)(h15:`Lk<=15:=by decide) :
  PDF X (.Dict `lc vals pos) (jt0 gP):=.mk λB δ pins s σ H Q I hq173=>by
 obtain⟨d,en,e,k⟩:=hq173
 unfold jt0 at e;cases e1:`BI with
 | none=>rw[e1] at e;cases e
 | some ps =>
 rw[e1,`f] at e;cases e2:q30 (`gs) with
 | none=>rw[e2] at e;cases e
 | some ks =>
 rw[e2,`f] at e;split at e
 rotate_left
 ·cases e
 rename_i hnd;cases e;obtain⟨trs,h1,h2⟩:=h.go δ;refine Oy0 h1 hall hl h0 h15 `i s σ H Q I λp hp=>h2 `sb _ _ _ ⟨ps,en.fresh hp,e1,λvs H' s' rr=>⟨s' _ _ j9,`F2,?_,?_,?_⟩⟩
 ·exact Z10 (if0 e2 rr.1)
 ·rw[`h8]
  have:=hnd.2;omega
 ·have J:`gh=(`S?).length:=by
   have:=C1 `GL (if0 e2 rr.1)
   simpa using this.symm
  have hm:s80 [] (`F2)=`F2:=by
   rw[er0 _ [] (by
    rw[`e?];have:`aJE `bz=ks:=Dj0 `h;rw[`A];exact hnd.1)]
   rfl
  rw[hm];refine k p _ hp ⟨λc o q=>?_,λc o xs q=>?_⟩ ⟨`ib (λv:V×V=>v.2),j9,J,?_⟩
  ·have hc:c≠p:=U6 q hp
   rw[d9 hc];exact s' c o (by rw[d9 hc];exact q)
  ·by_cases hc:c=p
   ·rw[hc,j9] at q;cases q
   ·rw[d9 hc] at q
    have:=s'.nf c o xs q
    rwa [d9 hc] at this
  ·exact rr.2.mono (`xr `Ad)
universe zz
theorem Pk0(i k:Nat){sc scope:`cG}{elt iter:`H}{N N':`g}{n:Nat}{caps:`k}{gi:GA}{idx:`k}{f:`aS}{gx:GX}
  (hcap:`u7) (ok:`qJ) (hidx:∀j∈idx,j<n) (hi:`hy)
  (hg:`iY) (he:`MW)
  (hc:`bL:=by rfl) (hsc:`fY:=by rfl) (hN:`uI:=by rfl) (hs:`eC:=by intro _;rfl) :
  `aJq:=Sg0 i k hcap hc hsc `uJ `f0 hi hg he hs
theorem Qe0(i k j:Nat){y:Str}{py spos:Pos}{sc scope:`cG}{elt iter:`H}{N N':`g}{n:Nat}{caps:`k}{gi:GA}{idx:`k}{f:`aS}{gx:GX}
  (hcap:`u7) (nd:`e8) (ok:`qJ) (hidx:∀j∈idx,j<n) (hi:`hy)
  (hg:`iY) (he:`MW)
  (hc:`bL:=by rfl) (hsc:`fY:=by rfl) (hN:`uI:=by rfl)
  (hiN:`n1:=by rfl) (hy:`kd:=by first|exact `a!|exact `gi)
  (hsw:`aJv:=by rfl)
  (hs:`eC:=by intro _;rfl)
  (hf:`ke:=by first|exact `bQ|exact `b'|assumption) :
  `aJw:=b60 i k j hcap nd hc hsc `uJ `f0 hi hg he hiN hy hsw hs hf
noncomputable def nl0(f:`aS)(G:GSB):`j->Ds->`l_
 | [],δ=>`w3
 | `as,δ=>`awo fun δ1=>match G δ1 with
  | `Q3=>nl0 f G ds δ2
  | r=>r
noncomputable def ci0(gi:GA)(f:`aS)(G:GSB):GSB:=fun δ=>`uw λitems=>nl0 f G `aQ δ
open Classical in
theorem Nb0{pos:Pos}{G:GSB}(hp:`zP)(hc:`bL)(hi:`hy)(hg:`AK)(hb:`jz X `f' G)
  (hs:`eC:=by intro _;rfl):PSB X `W? (ci0 gi f G):=.mk λH₀ B₀ δ pins s σ H D I hq174=>by
 obtain⟨r,en,e1,k⟩:=hq174
 unfold ci0 at e1;obtain⟨B,b1,b2,env⟩:=`aK;cases e2:`r5 with
 | none=>rw[e2] at e1;cases e1
 | some items =>
  rw[e2] at e1;simp only[`f] at e1;have a6:`axZ:=`ax_
  have a5:PSs X `f' (λD σ H=>∃H₀ B₀ δ,tDB X.K `Y `S δ G D σ H):=λpins s σ H D I ⟨`Y,`S,δ,h⟩=>`FI `Y `S δ `i s σ H D I h
  refine `ax2;obtain⟨Hh,O⟩:∃Hh:Hp,`ax3:=`ae
  have U:`ax4:=`ax5
  have Y:`ax6:=`ax7
  have a2:`ax8:=`ax9
  have a3:`ax':=⟨λb o h=>by
   by_cases z:`xe
   ·rw[`ax!] at h;cases h
   ·rw[O] at h
    have h':`ax?:=h;rw[`iX] at h';exact h',λb o xs h=>by
   by_cases z:`xe
   ·have h0:=`aya
    rw[`ayb] at h0;cases h0
   ·rw[O]
    show (`Ex)=_;rw[`iX];exact h⟩
  have hS:`ayc:=⟨λb o h=>by
   have h1:=`ayd
   by_cases z:B b
   ·rcases b2 b z with q|q
    ·rw[a2 b q];exact h1
    ·rw[h] at q;cases q
   ·rw[U b z];exact h1,`aye⟩
  have Z:=`k5;have start:`ayf:=by
   refine`ayg
   ·by_cases q:`mC
    ·exact `nE
    ·exact `ayh
   ·have hn:=`ayi
    have nb:¬`mC:=`ayj
    obtain⟨o,e3,a',e4,hB,_⟩:=`ayk;rw[h2] at e3;cases e3;cases e4;exact Y a hB nb
   ·rw[a2 a z]
    exact `ayl
  refine⟨λi m σ H=>m=`cx - i/\`Zw/\∃δi,`aym/\nl0 f G (`jp i) δi=`gl,`ayn,?_⟩;rintro i m σi Hi ⟨rfl,b3,δi,M,ei⟩;have gr:`ayo:=`ayp
  by_cases hlt:`AM
  ·refine `n ⟨`ayq,fun σ' H'=>∃δn,`ayr/\nl0 f G (`xf) δn=`gl,`ays,`ayt⟩
   obtain⟨sm,d,hd,rd⟩:=`ayu;obtain⟨B',c1,c2,env0⟩:=M.ex;have a7:`ayv:=rd B' (λb o n h=>by
    have h':Hh b=`aj:=`Rv
    refine`ayw;rcases c2 b z with q|q
    ·exact `ayx
    ·rw[h'] at q;cases q) env0.bad
   have a4:=`ayy
   replace M:=M.grow sm
   have a1:`ayz:=by
    rw[`KX];congr 1;rw[`KY] at hd;exact A3 hd
   rw[a1] at ei;unfold nl0 at ei;cases e3:f d δi with
   | none=>rw[e3] at ei;cases ei
   | some δ2 =>
    rw[e3] at ei;simp only[`f] at ei;refine`ayA;have a8:`ayB:=`ayC;cases e4:G δ2 with
    | none=>rw[e4] at ei;cases ei
    | some rb =>
     rw[e4] at ei;refine`ayD;cases rb with
     | nx δn=>exact `Zx
     | rt d' δn =>
      cases ei;exact λv σ' H' ev=>k v σ' H' ⟨`Zy `Ms,by
       obtain⟨Bx,x1,x2,ex,rx⟩:=`l1;exact(`aJF).ex.elim λBy hy=>⟨Bx,x1,λa z=>(x2 a z).imp id λq=>hS.free q,ex,rx⟩,(`aJF).fr,`jo⟩
  ·have e:i=`cx:=`C
   subst e;refine `ayE;rw[`uC] at ei;cases ei;exact `ayF
abbrev GTX:=Ds->`aT (`aa×Ds)
noncomputable def tTX(K:`y)(H₀:Hp)(B₀:BS)(δ:Ds)(gt:GTX):TT:=fun σ H Q=>∃r,`cz/\`fy=`gl/\∀H',`cS K `Y `S H' σ r.2->Q r.1 H'
structure PTX(X:Cx)(e:`H)(gt:GTX):Prop where
 mk::go:∀H₀ B₀ δ,PT X e `aJG
structure PWX(X:Cx)(e:`H)(gt:GTX):Prop where
 mk::go:∀H₀ B₀ δ,PW X e `aJG
noncomputable def liftT(gt:GB):GTX:=fun δ=>`aJH λb=>(b,δ)
noncomputable def G8(gx:GX):GTX:=fun δ=>`K7 λr=>match r.1 with
 | `dm=>`a (b,r.2)
 | _=>`c
noncomputable def ut0(gt:GTX):GTX:=fun δ=>`aJH λr=>(!r.1,r.2)
noncomputable def V30(gt gu:GTX):GTX:=fun δ=>`r3 λr=>if `abn then gu r.2 else `a (`q,r.2)
noncomputable def orT(gt gu:GTX):GTX:=fun δ=>`r3 λr=>if `abn then `a (`b,r.2) else gu r.2
noncomputable def ifX(gt:GTX)(Ga Gb:GSB):GSB:=fun δ=>`r3 λr=>if `abn then Ga r.2 else Gb r.2
noncomputable def bg0(ga:GE)(gx:GX)(f:`bs):GX:=fun δ=>`Ap λda=>if `aJI then `K7 λr=>(f da r.1).map `aJz else `c
section
variable{a:`H}{rest:`bI}{as bs:`e6}{gt gu:GTX}{gb:GB}{ga:GE}
theorem ab0(h:PTD X e gb):PTX X e (liftT gb):=.mk λH₀ B₀ δ pins s σ H Q I hq175=>by
 obtain⟨r,en,e1,k⟩:=hq175
 obtain⟨B,b1,b2,env⟩:=`aK;unfold liftT at e1;cases e2:`d3 with
 | none=>rw[e2] at e1;cases e1
 | some t =>
  rw[e2] at e1;cases e1;exact h B δ `i s σ H Q I ⟨t,env,e2,λH' s'=>k H' (`o7 s')⟩
theorem k80(h:`n0)(he:`WJ:=by intro _;rfl):PTX X e (G8 gx):=.mk λH₀ B₀ δ pins s σ H Q I hq176=>by
 obtain⟨r,en,e1,k⟩:=hq176
 unfold G8 at e1;cases e2:`eW with
 | none=>rw[e2] at e1;cases e1
 | some q =>
  rw[e2,`f] at e1;split at e1
  rotate_left
  ·cases e1
  rename_i t hq;cases e1;refine Uc0 `n2 he `i s σ H Q I `abl;obtain⟨B,c1,c2,env,rv⟩:=`l1;rw[hq,X7] at rv;exact⟨t,rv,k H' ev.s⟩
theorem gh0(h:`BJ):PTX X `zN (ut0 gt):=.mk λH₀ B₀ δ pins s σ H Q I hq177=>by
 obtain⟨r,en,e1,k⟩:=hq177
 unfold ut0 at e1;cases e2:`fy with
 | none=>rw[e2] at e1;cases e1
 | some q =>
  rw[e2] at e1;cases e1;exact Ug0 `n2 `i s σ H Q I ⟨q,en,e2,k⟩
theorem Rt0(h:`BJ):PWX X `WK gt:=.mk λH₀ B₀ δ=>Ya0 `n2
theorem Yl0(h:`BJ):PWX X `WL gt:=.mk λH₀ B₀ δ=>Ve0 `n2
theorem Ou0(ha:`BJ)(hb:PWX X `zJ gu):PWX X `zK (V30 gt gu):=.mk λH₀ B₀ δ wh pins s σ H Q I hq178=>by
 obtain⟨r,en,e1,k⟩:=hq178
 unfold V30 at e1;cases e2:`fy with
 | none=>rw[e2] at e1;cases e1
 | some q =>
  rw[e2,`f] at e1;refine T20 `Mo `abo wh `i s σ H Q I `abp;cases hq:q.1 with
  | true=>rw[hq,`bm] at e1;exact`MY
  | false=>rw[hq,`eE] at e1;cases e1;exact k H' J
theorem Uh0(ha:`BJ)(hb:PWX X `zL gu):PWX X `zM (orT gt gu):=.mk λH₀ B₀ δ wh pins s σ H Q I hq179=>by
 obtain⟨r,en,e1,k⟩:=hq179
 unfold orT at e1;cases e2:`fy with
 | none=>rw[e2] at e1;cases e1
 | some q =>
  rw[e2,`f] at e1;refine Qz0 `Mo `abo wh `i s σ H Q I `abp;cases hq:q.1 with
  | true=>rw[hq,`bm] at e1;cases e1;exact k H' J
  | false=>rw[hq,`eE] at e1;exact`MY
theorem PWX.pt(h:PWX X e gt):PTX X e gt:=.mk λH₀ B₀ δ=>L2.PW.pt `n2
theorem pu0(hc:PTX X c gt)(ha:`aG')(hb:`aG!):PSB X `Zn (ifX gt Ga Gb):=.mk λH₀ B₀ δ pins s σ H D I hq180=>by
 obtain⟨r,en,e1,k⟩:=hq180
 unfold ifX at e1;cases e2:`fy with
 | none=>rw[e2] at e1;cases e1
 | some q =>
  rw[e2,`f] at e1;refine Xz0 (hc.go `Y `S δ) (ha.go `Y `S q.2) `abo `i s σ H D I `abp;cases hq:q.1 with
  | true=>rw[hq,`bm] at e1;exact`MY
  | false=>rw[hq,`eE] at e1;exact`MY
theorem Sv0{op:`iJ}{rr:R2}{f:`bs}(ho:OpR X (`d0 op) rr)(hf:Op2 X.K rr f)(ha:`cr)(hb:PX X b gx)(hm:`nH:=by first|exact ba0 _|with_unfolding_all rfl):PTX X `qk (G8 (bg0 ga gx f)):=.mk λH₀ B₀ δ pins s σ H Q I hq181=>by
 obtain⟨r,en,e1,k⟩:=hq181
 obtain⟨B,b1,b2,env⟩:=`aK;unfold G8 bg0 at e1;cases e2:`c9 with
 | none=>rw[e2] at e1;cases e1
 | some da =>
 rw[e2,`f] at e1
 by_cases hfl:`aJI
 rotate_left
 ·rw[`ai hfl] at e1;cases e1
 rw[`N hfl] at e1;cases e3:`eW with
 | none=>rw[e3] at e1;cases e1
 | some q =>
 rw[e3,`f] at e1;cases e4:f da q.1 with
 | none=>rw[e4] at e1;cases e1
 | some d =>
 rw[e4,`gH,`f] at e1;split at e1
 rotate_left
 ·cases e1
 rename_i t hd;have hd:d=.bl t:=hd;subst hd;cases e1;refine Yi0 ho `Bv `aG? hm `i s σ H Q I ⟨da,env,e2,λx H1 s1 r1=>⟨q,`o7 s1,e3,λy H2 ev=>?_⟩⟩;obtain⟨B',c1,c2,J,rv⟩:=`l1;refine hf H2 B' x y da q.1 _ _ J.bad (rn0 hfl r1) rv e4 `aav
 rw[X7] at r3;exact⟨t,r3,k H3 (ev.s.grow s3)⟩
universe zz
universe DL
namespace L2
open Spec PyProof.Rows
theorem CloseOk.other(c:`lY){b:`e}{u:`qf}(q:H b=u)(n:`aG_):`aJJ=u:=by
 have nl:`aG0:=`aG1
 unfold closed;have hb:`k4:=λz=>by
  cases l:`sB with
  | none=>have:=`Mn;rw[l] at this;cases `A
  | some so=>exact `aG2
 rw[`hw];cases l:`jy with
 | none=>exact q
 | some so=>exact `aG3
theorem FnOk.closing{P:`ao}{w:`P}{k:Nat}{f:`e}{ps:`g}(F:`R P w K mg `m CX0 k f fd ps sp) :
  `R P w K mg `m CX0 k f fd ps (λvs H Q E=>∃a sub,`lY/\sp vs `lZ Q E):=by
 refine ⟨λvs H Q E ⟨a,sub,c,q⟩=>F.len vs _ Q E q,λA outer s H J us vs Q E hr e hb hv hq182=>?_⟩;obtain⟨a,sub,c,q⟩:=hq182;have no:∀b,`c4->`aJJ=`c:=λb z=>`MZ z λso z=>nomatch z
 refine b4 (F.run A `cv s `lZ J us vs Q E hr ⟨`XE,e.mod,λb o z=>⟨(`aJK).1,no b (`aJK).2⟩,e.bsz,e.funs,λb z=>no b (e.frf b z),e.hok.closed `Mn c.at' c.ins,e.bare⟩ hb hv q) `XF
 cases r with
 | error er=>exact hq
 | ok fl =>
  cases fl with
  | ret u =>
   obtain⟨v,H',h1,h2,un,h3,h4,h5⟩:=hq;exact⟨v,H',h1,h2,⟨λb o e1 e2=>un.keep b o e1 (no b e2),λb o e1 e2=>un.slot b o e1 (no b e2),λb o e1 e2=>un.free b o e1 (no b e2),un.there,λb xs e1=>un.tups b xs (`MZ e1 `aG4),λb o u e1=>un.frzs b o u (`MZ e1 `aG5),λb ps e1=>un.tbls b ps (`MZ e1 `aG6)⟩,h3,h4,h5⟩
  | next=>exact hq
  | brk=>exact hq
  | cont=>exact hq
universe L2
namespace DL
open Spec PyProof.Rows L2
theorem adopt{H3:Hp}{σ:St}{δ:Ds}{L:`e}{es:`j}{xs:`K}(en:`cz)(b1:`iV)(b2:`iW)(env:`bh)(at':`qW)
  (hdx:∀C dx fs,`aa'->`aJL) (s13:`c8 H H3) (hLH:H L=`c) (hL3:H3 L=`DL) (hfl:`MM) (rx:Rps K H3 B es xs) :
  `aJM/\∃Hc,`aJN/\`cS K `Y `S Hc σ `M_/\Env K Hc B σ `M_ /\
   AtN K Hc B σ `M_ i a `Tb `k? `xR/\RpN K Hc B `k? (`SY) (`xP):=by
 have hH:`Y4:=at'.w.at';have c1:∀b∈as,`Yt:=λb hb z=>by
  rcases `aIy with q|q
  ·rw[q,hH] at z;cases z
  ·rw[q.2] at z;cases z
 have La:L∉as:=λz=>c1 L z hLH
 have aL:a≠L:=`aIz
 have b3:=`pm s13;have J:`aIA=(`ak1).length:=`aIB
 have Z:`aIC:=by
  rw[`K?];refine`aID;rw[`fC hy] at z;exact `aIE
 have O:`aIF:=`aIG
 have b0:∀(k:Nat) c so,`k?[k]?=`dX->`xR[k]?=`sC->`aIH∨(`MQ/\c=L/\`Y2):=λk c so q1 q2=>by
  by_cases hk':k<`g1
  ·rw[`MR] at q1
   rw[`aII] at q2;exact `o `Bc
  ·have hl1:=`aIJ
   rw[`Z] at hl1;have c3:`MQ:=`aIK
   subst c3;rw[`qX,`l0] at q1;rw[`xQ,`qX,`l0] at q2;exact `aIL
 have U:∀(k:Nat) C dx fs,`xR[k]?=`mi->k=0:=λk C dx fs e=>by
  by_cases hk':`Mz
  ·rw[`MR] at e
   exact `aIM
  ·rw[`Mp] at e
   cases q:k - `Ei with
   | zero=>rw[q] at e;cases e
   | succ n=>rw[q] at e;cases e
 have cl:`aJM:=ri0 O Z J (λk c so q1 q2=>by
  rcases b0 k c so q1 q2 with⟨q1,q2⟩|⟨_,rfl,rfl⟩
  ·exact b3.w.opAt q1 q2
  ·rw[w50 La];exact hL3) U
 obtain⟨Hc,M⟩:∃Hc,`aJN:=`ae;refine⟨cl,Hc,M,?_⟩;have ca:Hc a=`a (`my `Ta):=by rw[M];unfold closed;rw[`bm]
 have Y:∀b∈`k!,`aIO:=λb hb n=>by
  rw[M];unfold closed;obtain⟨so,q⟩:=vp0 J hb Z;rw[`ai n,q]
 have a1:`aIP:=λb hb=>by
  rw[M];unfold closed;rw[`ai (show ¬b=a from λz=>hb (by rw[z];exact C5 O)),y60 hb,`aIQ]
 have but:`aIR:=⟨λb u n z=>by
  by_cases hb:`MS
  ·rcases `MT with q|q
   ·rcases `S5 with w|w
    ·exact `I w n
    ·rw[`abq,← w.2,z]
   ·rw[`u6,hLH] at z;cases z
  ·rw[a1 b hb];exact s13 _ _ z,λb u xs n z=>by
  by_cases hb:`MS
  ·rw[`abq] at z;cases z
  ·rw[a1 b hb] at z;exact s13.nf _ _ _ z⟩
 have gr:`aIS:=`aIT;have c4:¬B L:=`BF hLH;have hw:RpW K Hc B `Tb a `k? `xR:=by
  refine⟨O,Z,ca,`gD,J,`h_ ?_ (`ah ⟨xs,rfl,o80 (rb0 hfl) (`aJb)⟩ `O),U⟩
  ·by_cases n:b=a
   ·exact `o n
   ·refine `n ⟨?_,`abq⟩
    rcases `MT with q|q
    ·exact`aIU
    ·rw[`u6];exact c4
  ·refine `aIV
   intro z;subst e;have c0:=`aIW;subst c0;exact hdx C dx fs q2 (z▸hLH)
 obtain⟨x,mk,a3⟩:=Ws0 `u2;obtain⟨d0,a4,a7⟩:=vm0 a3;obtain⟨a',a5,hB,ro⟩:=`xs a4;rw[`fE] at a5;cases a5;have a8:`ak2=`aJO:=by unfold ti0;rw[a3]
 have a2:Env K Hc B σ (`aJO):=`u1 a4 `fE but ((a7 _ _ _ _ ro).2 _ _ _ `aI1);have c2:=`xM b1 b2 a4 `fE but a2;rw[a8];refine⟨c2,a2,⟨`fE,hB,Xl0 a3 _,hw⟩,?_⟩;unfold Q5;rw[xn0];have a6:`eP=`g1:=`aI3
 exact `o ⟨`eP,L,w90 _,by rw[a6,`qX,`l0];rfl,rfl⟩
noncomputable def dy0(f:Str)(fs:`j):`aa:=fs.all λn=>match n with
 | `bH=>`w (x≠f)
 | _=>`b
noncomputable def fd0(i:Nat)(c f:Str)(gv:GE):GS:=fun δ=>`u4 λdv=>`fg λns=>match ns with
 | `MI=>if c'=c/\`cm dv=`b/\`aJP then `a (.nx (`eI i 0 (`t [`h?,`aJQ,`l (ds++[dv])]) δ)) else `c
 | _=>`c
noncomputable def k00(i:Nat)(c f:Str)(g:GE):GS:=fun δ=>`cq λd=>`fg λns=>match d,ns with
 | `jv,`MI=>if c'=c/\`MM/\`aJP then `a (.nx (`eI i 0 (`t [`h?,`aJQ,`l (ds++[`SY])]) `M_)) else `c
 | _,_=>`c
theorem fv0{f:Str}(h:dy0 f `FV=`b):f∉nm:=λz=>by
 unfold dy0 at h;rw[`l2] at h;have:=h (`s f) (P8 z);simp at this
theorem ji0{f:Str}:∀{nm:`g} {xs:`K},`c?=`am->f∉nm->`aJR
 | [],[],_,_=>rfl
 | [],`db,h,_=>by cases h
 | `db,[],h,_=>by cases h
 | n::nm,`lN,h,hn=>by
  rw[`ff] at hn;have ih:`aJR:=ji0 `hk λz=>hn (`n z)
  show (if n=f then _ else (n,x)::`ak3)=_;rw[`ai (λz=>hn (`o `oV)),ih];rfl
theorem Mt0{σ:St}{s:`v}(I:`B)(w:RpW X.K H B ns a as sos){C:`e}{fs:`iH}(h:`aa'):`aJL:=by
 obtain⟨_,all⟩:`aaJ/\∀p∈`be,`aaK:=`bY a _ w.at';have hm:`aIX:=by
  refine `aIY;rw[`aIZ];exact⟨w.hd,h⟩
 obtain⟨_,w,_⟩:=`aI_;rw[w];exact λz=>nomatch z
section
variable{gv g:GE}{c f:Str}
theorem om0(i:Nat)(hv:`aa3)(hc:`BA)(hf:`BB:=by decide)(hN:`b4:=by rfl)(hvis:`dS:=by first|exact `a!|exact `dd|exact `de)(hd:`aJ:=by decide)(hcd:`dT:=by decide)
  (hs:`aa4:=by rfl):PSD X `aa5 (fd0 i c f gv):=.mk λH₀ B₀ δ pins s σ H De I hq183=>by
 obtain⟨r,en,e1,kk⟩:=hq183
 unfold fd0 at e1;obtain⟨B,b1,b2,env⟩:=`aK;cases e2:`xN with
 | none=>rw[e2] at e1;cases e1
 | some dv =>
 rw[e2,`f] at e1;cases e3:`dt with
 | none=>rw[e3] at e1;cases e1
 | some ns =>
 rw[e3,`f] at e1;split at e1
 rotate_left
 ·cases e1
 rename_i c' fs ds rest;split at e1
 rotate_left
 ·cases e1
 rename_i hq;obtain⟨a2,hn,Z,M⟩:=hq;subst a2;cases e1;obtain⟨a,as,sos,at'⟩:=`MJ;refine `aIa;have J:=`hC;obtain⟨so,U,nk⟩:=`aa6;obtain⟨C,O,nm,xs,rfl,rfl,hl,hC,a1,rx⟩:=`BD;obtain⟨q1,q2⟩:=`BC;refine`aIb
 ·rw[`h8,← hl,`pe]
  rw[`F] at M;exact M
 ·rw[ji0 hl (fv0 Z)]
  obtain⟨Y,z1,z2⟩:=`u5 b1 b2 env s1 at' `FS U (n':=`t [`h?,`aJS,`l (ds++[dv])]) (so':=`gO C O (`w' (`xT) (xs++[v1]))) ⟨C,O,`xT,xs++[v1],rfl,`aJT,`aJU,hC,a1,`qV (`h_ `FQ (`ah (mj0 (bn0 hn) r1) `O))⟩ `MK (d:=`u) (v:=`u) `h5;exact`aa7
theorem p10(i:Nat)(hv:PDF X `eR g)(hc:`BA)(hf:`BB:=by decide)(hN:`b4:=by rfl)(hvis:`dS:=by first|exact `a!|exact `dd|exact `de)(hd:`aJ:=by decide)(hcd:`dT:=by decide)
  (hs:`aa4:=by rfl):PSD X `aa5 (k00 i c f g):=.mk λH₀ B₀ δ pins s σ H De I hq184=>by
 obtain⟨r,en,e1,kk⟩:=hq184
 unfold k00 at e1;obtain⟨B,b1,b2,env⟩:=`aK;cases e2:`ar with
 | none=>rw[e2] at e1;cases e1
 | some d =>
 rw[e2,`f] at e1;cases e3:`dt with
 | none=>rw[e3] at e1;cases e1
 | some ns =>
 rw[e3,`f] at e1;split at e1
 rotate_left
 ·cases e1
 rename_i es c' fs ds rest;split at e1
 rotate_left
 ·cases e1
 rename_i hq;obtain⟨a5,hn,a1,M⟩:=hq;subst a5;cases e1;obtain⟨a,as,sos,at'⟩:=`MJ;refine ra0 (aw0 `SU (M9 (U8 `SV)) hs) `i s σ H De I ⟨a,`jv,env,e2,λp H1 hp s1 ro=>?_⟩;obtain⟨ys,o1,ry⟩:=ro;obtain⟨cl,Hc,a3,a4,Y,J,rn⟩:=adopt (es:=es) en b1 b2 env at' (λC dx fs h=>Mt0 I at'.w h) s1 hp o1 hn (v20 hn ry);refine⟨a,`be,(`hC).w.openOk,a,_,cl,?_⟩;rw[← a3];obtain⟨so,U,nk⟩:=`aa6;obtain⟨C,O,nm,xs,rfl,rfl,hl,hC,a2,rx⟩:=`BD;obtain⟨q1,q2⟩:=`BC;refine⟨`b8,`fE,a,_,`k',a,C,O,_,rfl,`akO,q1,`FT,?_,?_⟩
 ·rw[`h8,← hl,`pe]
  rw[`F] at M;exact M
 ·rw[ji0 hl (fv0 a1)]
  obtain⟨Z,z1,z2⟩:=a4.setN b1 b2 Y `xg J `FS U (n':=`t [`h?,`aJS,`l (ds++[Q5 (`cT [`h?,`BE,`ch]::`a7).length])]) (so':=`gO C O (`w' (`xT) (xs++[`fu]))) ⟨C,O,`xT,xs++[`fu],rfl,`aJT,`aJU,hC,a2,`qV (`h_ `FQ (`ah rn `O))⟩ `MK (d:=`u) (v:=`u) `h5;exact⟨Z,z1,`akP⟩
universe zz
noncomputable def V70(c:Str):D:=`t [`sK,`aJV]
noncomputable def h40(j:Nat)(c:Str)(f:`aM):GS:=fun δ=>match f (V70 c) [] with
 | `a (`u,`xL)=>`a (.nx (`a0 j `aHq))
 | _=>`c
section
variable{p:Pos}{c:Str}
theorem Vl0(j:Nat){k:Nat}{C:`e}{ps:`g}{f:`aM}(nd:`e8)(M:Mk X.K C fa)(F:`R `aZ X.w X.K `b7 `dW CX0 k fa fd ps (spB X.K 0 f))(hb:`axH)(hC:`bT X.K `ba c=`aiV)(hr:`MO)(hk:k+1<=n)(hm:`b7 c=`Ef)(hg:Gl X c:=by rfl)
  (hi:`n1:=by rfl) (hy:`kd:=by first|exact `a!|exact `gi) (hdb:`aJW:=by decide)
  (hf:`ke:=by first|exact `bQ|exact `b'|assumption) {spos:Pos} (hsw':`aJX:=by rfl) :
  `aJY:=.mk λH₀ B₀ δ pins s σ H De I hq185=>by
 obtain⟨r,en,e1,kk⟩:=hq185
 unfold h40 at e1;obtain⟨B,b1,b2,env⟩:=`aK;split at e1
 rotate_left
 ·cases e1
 rename_i xx ns hq;cases e1;refine ah0 nd hi hy (Q40 (E:=E0) M F.closing `qI hg hm hb `O n80 hdb) hsw' hf `i s σ H De I λx dx hx Y a1=>?_
 obtain⟨H1,J⟩:∃H1,H1=`as9:=`ae;rw[← J];have Z:H1 x=`a `Qr:=by rw[J,j9]
 have cl:`h' H1 x `abr:=ri0 rfl (`S4) rfl (λk c so e1 e2=>by
  match k with
  | 0=>cases e1;cases e2;exact Z
  | k+1=>simp at e1) (λk C dx fs e=>by
  match k with
  | 0=>rfl
  | k+1=>simp at e)
 obtain⟨Hc,O⟩:∃Hc,Hc=`gp H1 x `abr:=`ae;refine⟨x,_,cl,?_⟩;rw[← O];have cx:Hc x=`a (`my `abr):=`aIN
 have U:∀b,b≠x->Hc b=H1 b:=λb hb=>by
  rw[O];unfold closed;rw[`hw,y60 (by rw[`az2];exact hb)]
 have sm:`c8 H Hc:=⟨λb o z=>by
  have n1:b≠x:=U6 z hx;rw[U b n1,J,d9 n1,d9 (U6 z Y)];exact z,λb o xs z=>by
  by_cases n1:b=x
  ·rw[n1,cx] at z;cases z
  rw[U b n1,J,d9 n1] at z
  by_cases n2:b=dx
  ·rw[n2,j9] at z;cases z
  rw[d9 n2] at z;exact z⟩
 have a3:¬B x:=`BF hx;have w:RpW X.K Hc (`aJZ) [`aJV] x [x] `ak5:=by
  refine⟨rfl,`S4,cx,λb hb=>`o (Q1.mp hb),rfl,`ah ⟨C,dx,[],[],rfl,rfl,rfl,hC,λz=>a1 (Q1.mp z),`abc⟩ `O,λk C dx fs e=>by
   match k with
   | 0=>rfl
   | k+1=>simp at e⟩
 refine⟨`aJZ,[],[],x,V70 c,`t (`s xx::ns),`u,`E0,`b',rfl,`cQ,`f_,⟨"",_,rfl,_,_,w⟩,hq,λv H' but rg rv=>⟨by rw[V6] at rv;exact rv,kk _ _ ?_⟩⟩
 ·rcases z with z|z
  ·exact(`MP b z).same sm
  ·rw[z];exact .of cx (λ_ _ q=>nomatch q) λ_ q=>nomatch q
 ·have a2:`a':=⟨λb o z=>but b o (U6 z hx) (sm b o z),λb o xs z=>by
   by_cases n1:b=x
   ·rw[n1] at z;exact `I z (rg.plain o xs)
   ·exact sm.nf b o xs (but.nf b o xs n1 z)⟩
  exact en.takeL b1 b2 env j hx a2 rg.toL
universe zz
noncomputable def Xx0(K:`y)(C:`e)(F:`g):`aa:=`asz&&W.hasDictIn K C&&`ahQ&&(match `ahO with
 | `a (`a (`cK s))=>s == `ahP
 | _=>`q)&&F.all (λf=>match `ahV with
 | `dn=>`b
 | _=>`q)&&`ahR&&`XH
theorem J9{C:`e}(h:`aJ_):`qn/\(∀f∈F,`uc)/\`Xr/\`XH=`b:=by
 unfold Xx0 at h;simp only[`a?] at h;obtain⟨⟨⟨⟨⟨⟨h1,h2⟩,h3⟩,h4⟩,h5⟩,h6⟩,h7⟩:=h;refine⟨⟨h1,h2,h3,?_⟩,λf hf=>?_,h6,h7⟩
 ·split at h4
  ·rename_i s e
   rw[e,`um h4]
  ·cases h4
 ·have:=r9.mp h5 f hf
  split at this
  ·rename_i e;exact e
  ·cases `A
theorem Pr0{c:Str}{C:`e}(a:`o3)(h:`aJ_):ClsN K c F:=⟨λC' e=>by
 rw[a] at e;cases e;exact⟨(J9 h).1,(J9 h).2.1⟩⟩
structure FnI(P:`ao)(w:`P)(K:`y)(mg:`bx)(base:`Q)(c:Str)(k:Nat)(ps:`g)(f:`aM):Prop where
 ex:∃C fa fd,`aIm/\`o3/\Mk K C fa/\`xm/\mg c=`Ef
section
variable{p:Pos}{c:Str}
theorem Uu0(j:Nat){k:Nat}{ps:`g}{f:`aM}(nd:`e8)(M:FnI `aZ X.w X.K `b7 `dW c k ps f)(hr:`MO)(hk:k+1<=n)(hg:Gl X c:=by rfl)
  (hi:`n1:=by rfl) (hy:`kd:=by first|exact `a!|exact `gi) (hdb:`aJW:=by decide) {spos:Pos}
  (hsw:`aJX:=by rfl)
  (hf:`ke:=by first|exact `bQ|exact `b'|assumption) :
  `aJY:=by
 obtain⟨C,fa,fd,F,hC,mk,hb,hm⟩:=M.ex;exact Vl0 j nd mk F hb hC hr hk hm hg hi hy hdb (hf:=hf) (hsw':=hsw)
universe zz
universe DL
namespace ZipL
open Spec PyProof.Rows
section
variable{w:`P}{s:`v}{R:`qd}{TI TO lo S:`e}{xs:`aI}
theorem Ox0(hh:`eD)(D:`i_)(hlo:`Bl)(st:`Sj)(hn:`qR)(L:`L2)(hT:`Bh)(hI:`L5)(c0:Nat)(res:`E)
  (gS:`c3 S=`aCQ)
  (hR:∀h' tk acc c as,`aan->`aah->`uW->`aai->`aDU) :
  `r `av `bC (`xy `sJ `gn res)
   `LM `LN s:=by
 have O:S≠z:=C2 L.z;obtain⟨f0,hI⟩:=hI;unfold Builtin.List.listExtendWith;refine A0 (P3 hT ?_);have h1:`xE `sJ `gn=`q:=`aD!
 have h2:`aD?:=`X
 have h3:`aEa:=`X
 simp only[h1,h2,h3,`J_,`qu,`cU];refine A0 (`aEb hI ?_);refine `Se;unfold Builtin.List.listLengthHint;refine A0 (D6 hT ir0 ?_);show `aEc;refine A0 (D6 hT kr0 ?_);refine `gX;show `r _ `bC (`aEd>>=λ_=>`aEe `sJ>>=λ_ =>
  `wr `aDV) _ _ _
 refine `aEf;refine `lL;show `r _ `bC (`qQ S (`Fm `ay)>>=λ_=>`qQ S `Sl) _ _ _;refine A0 (L7 gS rfl ?_);have J:=E6 `L6 gS rfl;refine L7 J rfl ?_;have M:=E6 `L7 J rfl;have oth:∀b o,b≠S->`gR->((`mV S `L6).update S `L7).get? b=`aj :=
  λb o hb e=>`sp (`sp e)
 have U:lo<S:=`aak;exact A1 ⟨`aal,Qv0 (s:=s) (lo:=lo) (h₁:=`aE) hh D L hlo hn _ hR _ 0 _ `a8 _ #[] [] rfl `qr (st.keep L oth) (λb o hb e=>oth b o (B0 (D8 hb U)) e) M rfl rfl `aEg⟩
theorem Rh0(hh:`eD)(D:`i_)(hlo:`Bl)(st:`Sj)(hn:`qR)(L:`L2)(hI:`L5)
  (gS:`c3 S=`LP)
  (hR:∀h' tk acc c as,`aan->`aah->`uW->`aai->`Si->R (.ok (`fj `ay)) `pj) :
  `r `av `bC (`aCV ⟨[`z S,`ph],[]⟩)
   `LM `LN s:=by
 show `r _ `bC (do let old ← `aCW `sJ;`aCX `sJ `LQ;`aCY;`aJ0) _ _ s;have U:S≠z:=C2 L.z;have Y:lo<S:=`aak;obtain⟨f0,hI⟩:=hI;refine A0 (by
  unfold Builtin.List.listItems;refine A0 (N3 gS rfl (A1 (by
   show `r _ `bC (`qQ S `LQ>>=λ_=>`aC_>>=λ_=>`aJ0) _ _ s;have g2:=E6 `F4 gS rfl;have oth:∀b o,b≠S->`gR->(`aJ1).get? b=`aj:=`_Z
   have J:=oth z _ (B4 U) hI;refine A0 (L7 gS rfl (A0 (`__ (Ox0 (s:={ s with heap:=`aJ1 }) (lo:=lo) (xs:=xs) (ys:=ys) hh D hlo (st.keep L oth) hn L `JL ⟨f0,J⟩ _ `ay g2 λh' tk acc c as hk O hl hG M=>?_))));exact hR h' tk acc c as (λb o hb e=>hk b o hb (oth b o (B0 (D8 hb Y)) e)) O hl hG M))))
universe zz
section
variable{w:`P}{s:`v}{xs:`aI}
theorem Q90{Q:`aq}(hh:`eD)(hl1:`uT)(hl2:`uU)(hn:`qR)
  (h:∀(h':`Q) (tk c:Nat) (as:`aU) (t:`e),`LR->`uW->(∀a∈as,`zB/\t<a)->`lR->`M<=t ->
   `aEl->`fl t=`a { cls:=`dk,dict:=`c,data:=`bP `Fo c,slots:=#[] }->`aEm) :
  `r `av A `aEn `aC3 E s:=by
 have a1:l1<`M:=`aEo
 have a2:l2<`M:=`aEp
 refine `aEq hl1 hl2 λh1 hz hTI a3 a7 a4 a6 hk=>?_
 have M:`aEr:=`aEs
 have U:`aEt:=`aEu
 have H:`aEv:=λk hk=>by rw[a6];exact D30 hk _
 have D:=`aEw (n:=`M) a1 a2;have L:ZLow (`M+4) (`M+2) (`M+3) `M `gb l1 l2 `sv:=`aEy;refine Ai0 (Q₁:=λob s1=>ob=`z `sv/\s1=`aJ2) Cm0 (Cn0 _) Co0 `aC1 λob s1 Y=>?_
 obtain⟨rfl,rfl⟩:=Y;have gC:`aJ3 `sv=`LP:=`eM;have pu:∀b o,`V6 b=`aj->`aJ3 b=`aj:=`rD
 have st:ZSt h1 (`M+4) (`M+2) (`M+3) `M `gb l1 l2 `sv xs ys 0:=⟨`o ⟨rfl,hz,_,_,a3⟩,hTI,a7,a4,M,U⟩;refine⟨`aC2,Cq0 _ _,Rh0 (s:=`aJ2) (lo:=`M) (xs:=xs) (ys:=ys) (`LS) D `aEx (st.keep L λb o _ e=>pu b o e) hn L ⟨_,pu _ _ hz⟩ gC λh' tk a5 c as Z J hl hG O=>`ZH⟩;have e:a5=`Fo:=by rw[← O]
 rw[e] at J;refine h h' tk c as `sv (λb o q=>Z b o `So (pu b o (hk b o q))) hl (λa ha=>⟨?_,`aam⟩) (hG.rise.imp λh=>B0 h) (E9 `sw) (λj a hj=>`aD1) J;exact E9 (D8 `sw (`aam))
universe zz
universe ZipL
namespace DL
open Spec PyProof.Rows L2
noncomputable def Ky0(K:`y):`mm:=λvs H Q=>∃q1 q2 xs ys,`aE0/\`aE1/\`aE2 /\
 ∀(t:`e) (as:`aU),`Bo->`lR->`L'->`Bp->`aE3->Q `kS (wr0 H ((t,`l `xG)::`aas))
theorem dl0(hc:`bL:=by rfl):jo0 X `xw `su (Ky0 X.K):=by
 intro pins s σ H vs us Q I r h;obtain⟨q1,q2,xs,ys,rfl,h1,h2,k⟩:=h;cases r with
 | cons r1 r =>
  cases r with
  | cons r2 r =>
   cases r;obtain rfl:=r1;obtain rfl:=r2;obtain⟨us1,v1,p1,z1⟩:=`ek h1;obtain⟨us2,v2,p2,z2⟩:=`ek h2;have l1:=`_K;have l2:=`_L;refine ZipL.Q90 `hs `qH `K3 (`_q) λh' tk c as t hk hl ha M ht hp gt=>?_
   rw[`a9,`a9] at hl;have O:`Bo:=`aE4
   refine⟨`rO,_,Inv.laidM (t':=tk) I hk λp J=>?_,rfl,`aE5⟩;rcases `bZ J with rfl|J
   ·refine⟨ht,_,`n ⟨rfl,?_,`pi,c,mw0 as,gt⟩⟩
    rw[`F,hl];omega
   ·obtain⟨j,⟨x,y⟩,e1,e2,e3⟩:=l80 J
    obtain⟨u,w,f1,f2,f3⟩:=`aE6;have hz:=D60.mp e2;obtain⟨u',g1,g2⟩:=`aE7;obtain⟨w',g3,g4⟩:=`aE8;have eu:u'=u:=by
     have:`aE9:=`aE'
     rw[f1] at this;exact`Bq
    have ew:w'=w:=by
     have:`aE!:=`aE?
     rw[f2] at this;exact`Bq
    subst eu;subst ew;exact⟨`aFa,_,`o ⟨e3,`uX,[u',w'],`aFb,`aFc⟩⟩
noncomputable def h90:`J
 | `aCJ=>`a (`l `aCK)
 | _=>`c
section
variable{f:`H}{p:Pos}
theorem e30(hm1:`_3)(hm2:`b7 `f!=`c)(hv1:`_2)(hv2:`aJ4)(ha:PDA X `sf gA)(hc:`bL:=by rfl)(hg1:`_4 := by rfl)(hg2:Gl X `f! := by rfl)
  (e1:`cM [`abs] `x=(`q,`bb (`abs) `x)::`h0:=by rfl) (h1:`kj:=by rfl)
  (he:`ajz=`oK::`aJ5:=by rfl) (hpl:(`f8 `mL (`aJ5)).any `bz=`q:=by rfl) :
  PDF X (`aR `aj0 [`abs] [] pos) (oA gA h90):=.mk λB δ=>(em0 (dl0 hc) hg1 hg2 hm1 hm2 hv1 hv2 `a4 `p `p `p `p e1 h1 he hpl).imp fun σ H Q hq186=>by
 obtain⟨d,en,h,k⟩:=hq186
 unfold oA at h;cases e3:`b! with
 | none=>rw[e3] at h;cases h
 | some ds =>
  rw[e3] at h;simp only[`f] at h;unfold h90 at h;split at h<;>try cases h
  rename_i as bs;refine⟨_,en,e3,λvs H1 s1 r=>?_⟩;rw[o6] at r;obtain⟨x,t,rfl,r1,r⟩:=r;rw[o6] at r;obtain⟨y,t,rfl,r2,r⟩:=r;rw[n6] at r;subst r;rw[W4] at r1 r2;obtain⟨q1,us,rfl,M,t1⟩:=r1;obtain⟨q2,ws,rfl,U,t2⟩:=r2;refine⟨q1,q2,us,ws,rfl,M.to,U.to,λL as' hl O hL hf fa=>?_⟩;have J:(`aJ6)=L::as':=`aFg
  have hN:(`aJ6).Nodup:=by rw[J];exact `FZ ⟨hL,O⟩
  have fr:∀p∈(`F5),H1 p.1=`c:=λp hp=>by
   have:p.1∈L::as':=`aFh
   rcases `bZ `A with e|e
   ·rw[e];exact hf
   ·exact fa _ e
  have sm:`c8 H1 (wr0 H1 (`F5)):=⟨λb u e=>by
   rw[q40 λp hp z=>by rw[← z,`aat] at e;cases e];exact e,`aFi⟩
  have g:Gr H1 (wr0 H1 (`F5)) B (`ayO):=λb u n e=>⟨λz=>`si n (λz=>by rw[z,hf] at e;cases e),sm _ _ e⟩
  refine k L _ (`k6 hf) (`jl sm) ⟨`ak7,`aFj,?_⟩;refine mo0 (t1.mono g) (t2.mono g) hl λp hp=>⟨`aFk,`o9⟩
  have pin:p.1∈as':=by rw[← qt0 hl];exact P8 hp
  rcases z with z|z
  ·exact en.bad _ z (`k6 (fa _ pin))
  ·exact hL (z▸pin)
universe zz
universe DL
namespace L2
open Spec PyProof.Rows
noncomputable def Kk0(K:`y):`gG:=λx vs H Q=>∃(p:`e) (ys:`_) (z:Int) (j:Nat),`JX/\vs=`Hl/\SqL K H p (`M0)/\`aF7
theorem e20:∀{ys:`_} {us:`ac},`bt (`M0) us->∀(m:Nat) (y:Int),`Mc->∃t,us[m]?=`a (`d y t)
 | [],_,`O,m,y,h=>by cases h
 | `Md,_,`j1,0,y,h=>by
  cases h;obtain⟨tk,rfl⟩:=r;exact`aF2
 | `Md,_,`j1,m+1,y,h=>by
  obtain⟨tk,e⟩:=e20 t m y `hk;exact`aF3
theorem jx0:∀ys:`_,(`M0).all uc0=`b
 | []=>rfl
 | `AR=>by
  rw[`T,`lP,jx0 ys];rfl
theorem N10:MtR X "list.index" (Kk0 X.K):=by
 intro pins s σ H x vs v us Q I rx rv h;obtain⟨p,ys,z,j,rfl,rfl,hq,hj,O,q⟩:=h;cases rx;obtain⟨u,rfl,ru⟩:=`J';obtain⟨its,r,pl,hz⟩:=`gE;obtain⟨o,n,h1,h2,h3⟩:=id pl;have Z:`mo=`en:=`aF8
 have a1:j<`en:=`aF9;have at_:∀m (hm:m<`gY),∃y t,`Mc/\`aF'=`d y t:=λm hm=>by
  have J:`Me:=`aF!
  obtain⟨t,e⟩:=e20 r m ys[m] (C3 J);refine`aF?;have:`aGa:=`aax;rw[`A] at e;have e':=`lG
  simpa using e'
 obtain⟨c0,dd,dt,sl⟩:=o;obtain rfl:c0=`dk := h2;obtain⟨rfl,rfl⟩:dd=`c/\dt=`PE:=h3;obtain⟨t,rfl⟩:=ru;have M:∀(y:Int) (tk:Tok),`aJ7=`b↔y=z:=λy tk=>by
  show (eqV (`d y) `ic)=`b↔_;simp[eqV]
 have U:`bV<`R_:=by
  have h5:`Aa:=by rw[`F] at hz;exact hz
  have h6:`L<`ga:=`X
  omega
 refine E5 (T := `eh) `aJ8 (show `kT `c7 `eh from `aGd) F.entry_list_index (F.args_list_index_2 _ _) (SeqAt.list_indexAt p `a6 n `c sl (`d z t) (eqU `ic) j `pk U ?_ ?_) ⟨h1,λy hy=>uh0 (x:=`g9) `Ah rfl r (jx0 ys) y `aGe,`aGf⟩
 ·obtain⟨y,tk,e1,e2⟩:=`aGg
  rw[e2,M];rw[hj] at e1;cases e1;rfl
 ·intro m hm Y
  obtain⟨y,tk,e1,e2⟩:=at_ m hm;rw[e2];cases hb:`aJ7 with
  | false=>rfl
  | true=>exact `I `aGh (O m Y)
universe L2
namespace DL
open Spec PyProof.Rows L2
noncomputable def s40:`j->`aT (`_)
 | []=>`oY
 | `a_::ds=>(`BK).map (i::·)
 | _=>`c
noncomputable def V80:`uS
 | `ch,`Hl=>(`BK).bind λys=>`aGi
 | _,_=>`c
theorem Sk0:∀{ds:`j} {ys:`_} {xs:`K},`BK=`a ys->`a1->xs=`M0:=by
 intro ds
 induction ds with
 | nil =>
  intro ys xs h r;rw[n6] at r;subst r;simp only[s40] at h;cases h;rfl
 | cons d ds ih =>
  intro ys xs h r;rw[o6] at r;obtain⟨x,r',rfl,r1,r2⟩:=r;cases d<;>simp only[s40] at h<;>try cases h
  rename_i s;cases e1:`BK with
  | none=>rw[e1] at h;cases h
  | some zs =>
   rw[e1] at h;cases h;rw[j5] at r1;subst r1;rw[ih e1 r2];rfl
theorem Np0(ho:`ZN)(ha:`AS)(hbase:`eQ o `Mf `x `mq=`hP:=by rfl)
  (hfew:(`nX
  &&`K6)=`b:=by rfl)
  (hline:`eF:=by rfl) (hs:`fd:=by rfl) (hplain:`lV:=by rfl) :
  PD X (`aR (`c5 o `Mf `em) [e] [] `b_) (tz0 g gA V80):=.mk λB δ =>
 (rc0 F.plainAttrs_list `aJ8 F.type_list_index N10 (ho B δ) `a4 `e' `iQ `e! hs `ka).imp fun σ H Q hq187=>by
  obtain⟨d,en,h,k⟩:=hq187
  unfold tz0 at h;cases e1:`ar with
  | none=>rw[e1] at h;cases h
  | some x =>
   cases e2:`b! with
   | none=>rw[e1,e2] at h;cases h
   | some es =>
    rw[e1,e2] at h;simp only[`f] at h;unfold V80 at h;split at h
    ·rename_i ds z
     cases e3:`BK with
     | none=>rw[e3] at h;cases h
     | some ys =>
      rw[e3,`f] at h;cases e4:`aGm with
      | none=>rw[e4] at h;cases h
      | some j =>
       rw[e4] at h;cases h;refine`ZO;rw[W4] at r1;obtain⟨p,xs,rfl,hq,rx⟩:=r1;obtain rfl:=Sk0 e3 rx;refine⟨`o ⟨rfl,_,`lU⟩,_,`gk,e2,`EK⟩;rw[o6] at r2;obtain⟨y,rr,rfl,r3,r4⟩:=r2;rw[n6] at r4;subst r4;rw[j5] at r3;subst r3;obtain⟨hj,h1,h2⟩:=Db0.mp e4;refine⟨p,ys,z,j,rfl,rfl,(hq.mono `KZ).to,?_,`aGn,k _ _ `mM `xb⟩
       ·rw[`aay,`aaz h1]
       ·have J:`Me:=`C
        rw[`jq J] at he;exact `aGo
    ·cases h
noncomputable def atC(ys:`g):`w2
 | `a_=>`aJ9 `fK
 | _=>`c
section
variable{a0 ix:`H}{gi gb:GE}{gA:GA}{posg p pg p5 rp:Pos}
theorem Qs0(ys:`g)(i:Int):`RF `xj i=`aJ9 `xi:=by
 unfold L2.atI;rw[`F];cases L2.ixN `en i with
 | none=>rfl
 | some j=>simp
theorem Ln0{ys:`g}(hK:`aGj)(hb:`df)(hg:`cI:=by rfl)(hd:`aJ:=by decide)(hs:`z!:=by exact `lT) :
  PD X (`kJ `Fx b pos) (unG (atC ys) gb):=.mk λB δ=>by
 obtain⟨p,o,its,n,hm,hk,hc,O,J,M,hv⟩:=hK;refine (Xv0 ct0 `aGl `fc hs).imp fun σ H Q hq188=>?_;obtain⟨d,en,h,k⟩:=hq188
 unfold unG at h;cases e2:`d3 with
 | none=>rw[e2] at h;cases h
 | some dk =>
  rw[e2,`f] at h;unfold atC at h;split at h
  ·rename_i i
   cases e3:`ak8 with
   | none=>rw[e3] at h;cases h
   | some y =>
    rw[e3] at h;cases h;refine⟨_,en,e2,`EJ⟩;rw[j5] at r1;subst r1;exact⟨p,`RC,i,`nT,rfl,rfl,`n ⟨o,its,n,hk,hc,J,M,hv⟩,by rw[Qs0,e3];rfl,k _ H1 s1 `Eq⟩
  ·cases h
universe zz
noncomputable def zr0{α:Type}(xs:`aH)(lo hi st:`bc):`aH:=(`abt (`abu).1 (`abu).2.1 (`abu).2.2).filterMap `ak9
theorem bb0(r:`a1):∀l:`k,Rps K H B (`F6 (ds[·]?)) (`abv)
 | []=>by rw[`aJ',`aJ',n6]
 | i::l=>by
  have ih:=bb0 r l;cases e:ds[i]? with
  | none =>
   have e2:`Sh:=k7.mpr (by rw[`b9];exact k7.mp e);rw[`M1 e,`M1 e2];exact ih
  | some d =>
   obtain⟨x,ex,rx⟩:=`qp e;rw[`BL e,`BL ex,o6];exact⟨_,_,rfl,rx,ih⟩
theorem ee0(r:`da):∀l:`k,`bt (`abv) (`F6 (us[·]?))
 | []=>`O
 | i::l=>by
  have ih:=ee0 r l;cases e:`PD with
  | none =>
   rw[`M1 e,`M1 (r.none_of e)];exact ih
  | some d =>
   obtain⟨u,eu,ru⟩:=`qp e;rw[`BL e,`BL eu];exact `ah ru ih
section
variable{lo hi st:`pc}{tl th ts:TO}
noncomputable def Jg0(K:`y)(te:TE)(tl th ts:TO):TE:=fun σ H Q=>te σ H λx H1=>tl σ H1 λl H2=>th σ H2 λu H3=>ts σ H3 λc H4=>∃a xs,`cY/\SqL K H4 a xs/\c≠`a 0/\∀p,H4 p=`c->Q `c7 (upd H4 p (`aJ!))
theorem Oe0(he:`fV)(hl:`at1)(hu:`at2)(hst:PO X st ts)(hsub:`aJ?:=by intros;with_unfolding_all rfl):PE X `aKa (Jg0 X.K te tl th ts):=by
 intro pins s σ H Q I h;refine `JR (thn `iL λv s1 hq189=>?_);obtain⟨x,H1,I1,r1,q1⟩:=hq189;refine `at4 (thn `at5 λvl s2 hq190=>?_);obtain⟨l,H2,I2,pl,q2⟩:=hq190;refine thn `at6 λvu s3 hq191=>?_;obtain⟨u,H3,I3,pu,q3⟩:=hq191;refine thn (hst `i s3 σ H3 _ I3 q3) λvc s4 hq192=>?_;obtain⟨c,H4,I4,pc,a,xs,ex,hx,hc,q⟩:=hq192;subst ex;cases r1;have I5:Inv X `i σ H4 `aKb:=I4.kept (t':=s4.toks) `Qz
 obtain⟨its,r,ht,hz⟩:=I5.list hx;have M:=`b9;have hg:`r `an X.A (`ml `dZ (`aKc)) `eT `aG `aKb:=by
  refine Br0 ht.isList `at7 pl pu pc hc ?_ `X4;refine⟨`z _,_,I5.laid (t':=s4.toks) (o:=`aJ!) `z8 `bj ?_,rfl,q _ (I5.hok.fresh `bj)⟩;have hp:slicePick `a6 l u c=(`M2).toArray:=by
   unfold slicePick zr0;simp
  have O:(`M2).length<=`mo:=by
   have:=slicePick_size_le `a6 l u c;rw[hp] at this
   simpa using `A
  have J:`bt `Td (`M2):=by
   unfold zr0;rw[M];exact ee0 r _
  exact⟨by rw[`aou];omega,`M2,0,J,by rw[hp];exact `eM⟩
 exact `XV (ops:=[`b8,`aKc]) `auC `X3 hg (hsub _ _)
noncomputable def c10(g:GE)(gl gh gs:`ux):GE:=fun δ=>`cq λd=>`azT λlo=>`azU λhi=>(gs δ).bind λc=>match d with
 | `cN=>if c≠`a 0 then `a (`l (zr0 xs lo hi c)) else `c
 | _=>`c
theorem Yg0{g:GE}{gl gh gs:`ux}(he:`cc)(hl:`aCv)(hh:`aCw)(hs:PDO X st gs)(hsub:`aJ?:=by intros;with_unfolding_all rfl) :
  PD X `aKa (c10 g gl gh gs):=.mk λB δ=>(Oe0 (he B δ) (hl B δ) (hh B δ) (hs B δ) hsub).imp fun σ H Q hq193=>by
 obtain⟨d,en,h,k⟩:=hq193
 unfold c10 at h;cases e1:`ar with
 | none=>rw[e1] at h;cases h
 | some x =>
  rw[e1,`f] at h;cases e2:`EP with
  | none=>rw[e2] at h;cases h
  | some l =>
   rw[e2,`f] at h;cases e3:`xp with
   | none=>rw[e3] at h;cases h
   | some u =>
    rw[e3,`f] at h;cases e4:gs δ with
    | none=>rw[e4] at h;cases h
    | some c =>
     rw[e4,`f] at h;split at h
     ·rename_i xs
      split at h
      ·rename_i hc
       cases h;refine⟨_,en,e1,λv H1 s1 r1=>⟨l,`gk,`aCx,λH2 s2=>⟨u,`aJD,`aCy,λH3 s3=>⟨c,`gj (`qP),(by first|exact e4|rfl),λH4 s4=>?_⟩⟩⟩⟩;have r4:=((`o6).same s3).same s4;rw[W4] at r4;obtain⟨a,ys,rfl,hq,rr⟩:=r4;have J:=(`qP).trans s4;refine⟨a,ys,rfl,`lU,hc,λp hp=>k _ _ (J.trans `es) ?_⟩;rw[W4];refine⟨p,_,rfl,`o ⟨(`gj J).free hp,`Ze⟩,?_⟩;have:Rps X.K H4 B `Td (zr0 ys l u c):=by
        unfold zr0;rw[`EF];exact bb0 rr _
       exact this.same `es
      ·cases h
     ·cases h
universe zz
universe DL
namespace Bt
open DL W
section
noncomputable def y30:GS:=(v7 (ifD `aKd
 (v7 `aKe
 t6)
 t6)
 (v7 `M3
 t6))
noncomputable def xo0:`g:=`tM
noncomputable def U9:`J:=`aKf
noncomputable def t10:GS:=(v7 (b7 `bf (gc (`s `aKg)))
 (v7 (b7 `jA `qY)
 (v7 (wp0 (u80 (z7 `m_ v5)) `jB
 (v7 `aKh
 t6))
 (v7 (b7 `sM (o2 `M4 `F9 o5))
 (v7 (Q3 6 `jE)
 (v7 (wp0 (u80 `dK) (gN 7)
 (v7 `aKi
 (v7 `aKj
 (v7 (ifD `M5
 (v7 `aKk
 t6)
 (v7 (ifD `abw
 (v7 `aKl
 t6)
 (v7 `aKm
 t6))
 t6))
 t6))))
 (v7 (n70 6)
 t6)))))))
noncomputable def qh0:`g:=[`VB, `zo, `aKn, `aKo, "_law_j", `aKp, `aKq, `le, `aKr]
noncomputable def xr0:`J:=mkN 2 qh0 t10
noncomputable def u70:GS:=(v7 (ifD `aKs
 (v7 (Y6 (o2 (o2 (o2 `ab (o2 (o2 `c! `aKt V1) `aC O6) o5) `aKt O6) `aC m8))
 t6)
 t6)
 (v7 (ifD `M5
 (v7 (Y6 (o2 (o2 `M4 (gc (`d 300)) o5) (gc (`d 150)) O6))
 t6)
 t6)
 (v7 (ifD `abw
 (v7 (Y6 (o2 (o2 `M4 (gc (`d 40001)) o5) (gc (`d 20000)) O6))
 t6)
 t6)
 (v7 (Y6 (o2 (o2 (o2 `M4 (o2 (o2 `c! `aKu V1) `aC O6) o5) `aKu O6) `aC m8))
 t6))))
noncomputable def sp0:`g:=`BM
noncomputable def yj0:`J:=mkF 2 sp0 u70
noncomputable def s30:GSB:=(p8 (d7 (b7 `Ga (dgO 0 `id)))
 (p8 (d7 (Q0 (Z8 `alA) (putL 0 `id)))
 (p8 (d7 (b7 `bf (dgO 0 `alE)))
 (p8 (ifB `aKv
 (p8 `aKw
 `G)
 `G)
 (p8 `aKx
 `G)))))
noncomputable def pe0:`g:=`aKy
noncomputable def S8:`aM:=mkB 1 pe0 0 s30
noncomputable def t50:GSB:=(p8 `abx
 (p8 (ifB `aKz
 (p8 (U7 (Z8 `ig))
 `G)
 `G)
 (p8 (ifB (ob (o2 `Gb `g? ltD))
 (p8 (U7 (Z8 (oA (z7 (o2 `W `m_ o8) (z7 `alp v5)) yj0)))
 `G)
 `G)
 (p8 (U7 (Z8 (R6 (z7 `id (z7 (o2 (o2 `W `m_ o8) (dgO 0 `Tk) o5) v5)))))
 `G))))
noncomputable def uz0:`g:=`aKA
noncomputable def O1:`aM:=mkB 1 uz0 0 t50
noncomputable def tx0:GSB:=(p8 (d7 (b7 `bf (gc (`s `aby))))
 (p8 (d7 (Q0 `alk `jA))
 (p8 (U7 (Z8 (ni0 `qY (z7 (U5 1 [2,3] (u80 `dK) `bD noT (o2 `W (o2 (o2 `aKB (o2 `ab `ab V1) m8) (`aKC) o5) ixD)) v5))))
 `G)))
noncomputable def s00:`g:=[`lg, `Gg, `aKn, `lf]
noncomputable def yz0:`aM:=mkB 2 s00 0 tx0
noncomputable def u00:GSB:=(p8 `abx
 (p8 `aKD
 (p8 (d7 (ifD `M6
 (v7 `M7
 t6)
 t6))
 (p8 (ifB `aKE
 (p8 (U7 (by0 `x3 (O5 0 (z7 (o2 `x_ (gc (`d 21)) o5) v5) yz0)))
 `G)
 `G)
 (p8 `aKF
 (p8 (ifB `abz
 (p8 (U7 (Z8 (R6 (z7 `sP (z7 (oA `m1 zo0) v5)))))
 `G)
 `G)
 (p8 `aKG
 (p8 `aKH
 (p8 `aKI
 (p8 (ifB `aKJ
 (p8 (U7 (Z8 (R6 (z7 `Tx `sS))))
 `G)
 `G)
 (p8 (U7 (Z8 (R6 (z7 `To (z7 (o2 `fG (o2 (o2 `W (gc (`d 300)) o8) `Ti o5) ixD) `sS)))))
 `G)))))))))))
noncomputable def xa0:`g:=`aKK
noncomputable def M7:`aM:=mkB 1 xa0 0 u00
noncomputable def re0:GS:=(v7 (b7 `bf (oA `alR U9))
 (v7 (Q3 3 (jt0 `aKL))
 (v7 (Q0 (Z8 (o2 `aC (o2 `au `m_ o5) m8)) `aKM)
 (v7 (ifD (ob (dgO 3 `Tf))
 (v7 (Q0 (Z8 (o2 `aC (o2 (o2 `au `ale o8) `xY o5) m8)) `aKM)
 t6)
 t6)
 (v7 (Q0 (Z8 (oA (z7 (o2 (o2 `au (gc (`d 11)) o8) (o2 (o2 `xX (gc (`d 30)) nf0) `alf m8) o5) (z7 (o2 `aKN `aKO ixD) v5)) xr0)) (`x2 3 `alv))
 (v7 (jk0 (bp0 zo0 (wy0 1 [3] 3 1 (u80 (z7 (dgO 3 `Tk) v5)) `bD `abA)))
 t6))))))
noncomputable def sv0:`g:=`aKP
noncomputable def zd0:`J:=mkF 2 sv0 re0
universe zz
universe Bt
namespace Rk
open DL W
open Bt (y30 U9 t10 xr0 s30 S8 u70 yj0 t50 O1 tx0 yz0 u00 M7 re0 zd0)
section
noncomputable def xo0:`g:=`tM
noncomputable def qh0:`g:=[`VB, `zo, `VC, `aKo, "_law_j", `aKp, `aKq, `le, `aKr]
noncomputable def pe0:`g:=`aKy
noncomputable def sp0:`g:=`BM
noncomputable def uz0:`g:=`aKA
noncomputable def s00:`g:=[`lg, `Gg, `VC, `lf]
noncomputable def xa0:`g:=`aKK
noncomputable def sv0:`g:=`aKP
abbrev t8:`g:=[`x!, `jF, `sV, `pA, `sU, `lk, `hb, `m3]
noncomputable def ig0:GS:=(v7 (ifD `sR
 (v7 (Y6 (R6 (z7 `id (z7 (tz0 `W `x5 V80) v5))))
 t6)
 t6)
 (v7 `M8
 t6))
noncomputable def g60:`g:=`u8
noncomputable def uy0:`J:=mkF 2 g60 ig0
noncomputable def no0:GS:=(v7 (ifD `l3
 (v7 `n5
 t6)
 t6)
 (v7 (ifD `u9
 (v7 `M9
 t6)
 t6)
 (v7 (R5 (U5 2 [] `px `Tj noT `W))
 t6)))
noncomputable def sn0:`g:=`Ik
noncomputable def Z4:`J:=mkN 1 sn0 no0
noncomputable def qw0:GS:=(v7 `u'
 (v7 (Q3 2 `abB)
 (v7 (T5 `aKQ
 (v7 `aKR
 (v7 (ifD `aKS
 (v7 `aKT
 (v7 `aKU
 (v7 `aKV
 t6)))
 t6)
 t6)) 100000)
 (v7 `u!
 t6))))
noncomputable def ux0:`g:=[`m2, `Gh, "_law_waiting", `F?, "_law_ends"]
noncomputable def yr0:`J:=mkN 1 ux0 qw0
noncomputable def l30:GS:=(v7 (b7 `Ga (oA `ld yr0))
 (v7 (Q3 2 `jE)
 (v7 (wp0 (vu0 `W) `jA
 (v7 `aKW
 (v7 `aKX
 (v7 (ifD `aKY
 (v7 `aKZ
 t6)
 (v7 (ifD `aK_
 (v7 `aK0
 (v7 `aK1
 t6))
 t6)
 t6))
 (v7 `aK2
 t6)))))
 (v7 (Y6 (ob0 (oA `cW zo0)))
 t6))))
noncomputable def uv0:`g:=[`m2, `Gh, `abC, `F?, `sQ, `sO, `aK3]
noncomputable def zk0:`J:=mkF 1 uv0 l30
noncomputable def ko0:GS:=(v7 (ifD `u9
 (v7 `aK4
 t6)
 t6)
 (v7 (ifD `l3
 (v7 `M8
 t6)
 t6)
 (v7 (b7 `bf `aK5)
 (v7 (Y6 (o2 (zh0 `ab J8 `alU) (R6 (z7 (oA (z7 (oA (z7 `au `dK) h90) v5) zo0) v5)) m8))
 t6))))
noncomputable def pb0:`g:=[`sQ, `sO, `aK3]
noncomputable def zf0:`J:=mkF 2 pb0 ko0
noncomputable def pp0:GS:=(v7 (b7 `bf `aK6)
 (v7 (Q3 3 `aK7)
 (v7 (ifD (pa0 `aK8)
 (v7 `M8
 t6)
 t6)
 (v7 (b7 `jB (o2 (o2 `W `xY o8) (vg0 `alw) o5))
 (v7 (ifD `aK9
 (v7 `aK'
 t6)
 (v7 (ifD `aK!
 (v7 `aK?
 t6)
 (v7 `aLa
 t6))
 t6))
 (v7 (Y6 (ob0 (o2 (o2 (zh0 `ab J8 (`fI `au)) (R6 `aLb) m8) (zh0 `ab `aLc J8) m8)))
 t6))))))
noncomputable def o50:`g:=[`m2, `lf, `le, `sO, `F?]
noncomputable def vt0:`J:=mkF 2 o50 pp0
noncomputable def nt0:GS:=(v7 (b7 `bf `ps)
 (v7 (b7 `jA (o2 `abB `aLd m8))
 (v7 (Q3 4 (oA `ld zn0))
 (v7 (wp0 (ai0 `ld) (n60 5 6)
 (v7 `aLe
 (v7 (wp0 `aLf `mY
 (v7 (ifD `aLg
 (v7 `aLh
 t6)
 t6)
 (v7 `aLi
 t6)))
 (v7 `aLj
 t6))))
 (v7 (Y6 (ob0 (oA `m0 zo0)))
 t6)))))
noncomputable def sk0:`g:=[`m2, `VI, `zo, `Gh, `abC, `le, `sQ, `sO, `pw]
noncomputable def ub0:`J:=mkF 2 sk0 nt0
noncomputable def mm0:GS:=(v7 (ifD (ob (o2 `abD `bn eqD))
 (v7 (Y6 (oA `aLk ub0))
 t6)
 t6)
 (v7 (ifD (ob (o2 `abD `aC eqD))
 (v7 (Y6 (oA `aLk vt0))
 t6)
 t6)
 (v7 `M8
 t6)))
noncomputable def ms0:`g:=`qZ
noncomputable def us0:`J:=mkF 2 ms0 mm0
noncomputable def xu0:GS:=(v7 (ifD `l3
 (v7 `n5
 t6)
 t6)
 (v7 (ifD `u9
 (v7 `M9
 t6)
 t6)
 (v7 `u'
 (v7 (ifD `abE
 (v7 `abF
 t6)
 t6)
 (v7 (wp0 `px `bf
 (v7 `M'
 t6))
 (v7 `u!
 t6))))))
noncomputable def xp0:`g:=`abG
noncomputable def M4:`J:=`abH
noncomputable def nd0:GS:=(v7 `aLl
 t6)
noncomputable def tl0:`g:=`jX
noncomputable def z60:`J:=`aLm
noncomputable def tj0:GS:=(v7 (ifD `abI
 (v7 `abJ
 t6)
 t6)
 (v7 `abK
 t6))
noncomputable def tt0:`g:=`gB
noncomputable def vi0:`J:=`abL
noncomputable def uu0:GS:=(v7 (ifD `aLn
 (v7 `M3
 t6)
 t6)
 (v7 (ifD `sR
 (v7 `aLo
 t6)
 t6)
 (v7 `aLp
 t6)))
noncomputable def t60:`g:=`jX
noncomputable def zl0:`J:=`aLq
noncomputable def y50:GS:=(v7 `abM
 (v7 `abN
 (v7 (T5 `M!
 (v7 `M?
 (v7 `Na
 t6)) 100000)
 (v7 `abO
 t6))))
noncomputable def y20:`g:=`abP
noncomputable def V0:`J:=`abQ
noncomputable def xl0:GS:=(v7 `abR
 t6)
noncomputable def y70:`g:=`tJ
noncomputable def R4:`J:=`abS
noncomputable def t30:GS:=(v7 (ifD `aLr
 (v7 `aLs
 t6)
 t6)
 (v7 `aLt
 t6))
noncomputable def t40:`g:=`BN
noncomputable def xy0:`J:=`aLu
noncomputable def yo0:GS:=(v7 `abT
 t6)
noncomputable def yl0:`g:=`c_
noncomputable def G6:`J:=`abU
noncomputable def w00:GS:=(v7 (ifD `l3
 (v7 `abV
 t6)
 t6)
 (v7 `n5
 t6))
noncomputable def xq0:`g:=`c_
noncomputable def zi0:`J:=`abW
noncomputable def uq0:GS:=(v7 (ifD `abX
 (v7 `aLv
 t6)
 t6)
 (v7 (ifD `aLw
 (v7 `aLx
 (v7 `aLy
 t6))
 t6)
 (v7 `aLz
 t6)))
noncomputable def t70:`g:=`aLA
noncomputable def zm0:`J:=`aLB
noncomputable def iz0:GS:=(v7 `u'
 (v7 `aLC
 (v7 `aLD
 (v7 `aLE
 (v7 (T5 `abY
 (v7 `abZ
 (v7 `ab_
 (v7 (ifD `ab0
 (v7 `ab1
 t6)
 (v7 (ifD `ab2
 (v7 `ab3
 (v7 `ab4
 t6))
 t6)
 t6))
 t6))) 100000)
 (v7 `u!
 t6))))))
noncomputable def he0:`g:=`aLF
noncomputable def vz0:`J:=`aLG
noncomputable def sq0:GSB:=(p8 (d7 (fd0 0 `D `x! `bn))
 (p8 (d7 (k00 0 `D `jF `jE))
 (p8 (d7 (k00 0 `D `sV `jE))
 (p8 (d7 (k00 0 `D `pA `jE))
 (p8 (d7 (k00 0 `D `sU (Y7 (z7 `ab5 v5))))
 (p8 (d7 (fd0 0 `D `lk `bn))
 (p8 (d7 (fd0 0 `D `hb `bn))
 (p8 (d7 (fd0 0 `D `m3 `qY))
 `G))))))))
noncomputable def sr0:`g:=`bu
noncomputable def zx0:`aM:=mkB 1 sr0 0 sq0
noncomputable def va0:GSB:=(p8 (d7 (T5 `aLH
 (v7 `Tw
 (v7 (popS 0 `ih)
 t6)) 100000))
 `G)
noncomputable def sa0:`g:=`bu
noncomputable def K9:`aM:=mkB 1 sa0 0 va0
noncomputable def ue0:GSB:=(p8 (U7 (Z8 (orG (o2 `py `Gq eqD) (o2 (o2 `W `jG V1) `aLI leD))))
 `G)
noncomputable def rt0:`g:=`u?
noncomputable def z40:`aM:=mkB 2 rt0 0 ue0
noncomputable def sm0:GSB:=(p8 (ifB (ob `aLJ)
 (p8 (d7 (j6 (rw0 0 `aLK `W)))
 `G)
 `G)
 (p8 `aLL
 (p8 `aLM
 `G)))
noncomputable def ns0:`g:=`tT
noncomputable def W0:`aM:=mkB 2 ns0 0 sm0
noncomputable def kk0:GS:=(v7 (ifD `ab6
 (v7 (Y6 `amn)
 t6)
 t6)
 (v7 (Y6 `ala)
 t6))
noncomputable def kj0:`g:=`Nb
noncomputable def u50:`J:=mkF 1 kj0 kk0
noncomputable def o60:GS:=(v7 (ifD `ab6
 (v7 (Y6 (o2 (Y7 (z7 (gc (`s `m5)) v5)) `W mulL))
 t6)
 t6)
 (v7 (ifD `aLN
 (v7 (Y6 (o2 (Y7 `amp) `W mulL))
 t6)
 t6)
 (v7 (ifD `aLO
 (v7 (Y6 `aLP)
 t6)
 t6)
 (v7 (Y6 (o2 (Y7 (z7 (gc (`s "class")) v5)) `aLP m8))
 t6))))
noncomputable def pr0:`g:=`Nc
noncomputable def vn0:`J:=mkF 2 pr0 o60
noncomputable def wu0:GSB:=(p8 (ifB (z50 (ob `aLQ) (ob `aLR))
 (p8 `gK
 `G)
 `G)
 (p8 (d7 (j6 (V8 0 `D t8 `aLS W0)))
 (p8 (q70 0 3 `W `pz `ih)
 (p8 (d7 (j6 (rw0 0 `jH `amm)))
 (p8 (d7 (j6 (bw0 0 `jH (oA (z7 (oA `Ts vn0) v5) tr0))))
 (p8 `q_
 `G))))))
noncomputable def tb0:`g:=[`d8, `x8, `Ty, `x6]
noncomputable def z00:`aM:=mkB 3 tb0 0 wu0
noncomputable def ia0:GS:=(v7 (ifD (ob `aLT)
 (v7 (Y6 (o2 (unG U4 (o2 `ab `c! o8)) `aC O6))
 t6)
 t6)
 (v7 (Y6 (o2 `ab `c! o8))
 t6))
noncomputable def g00:`g:=`gB
noncomputable def ss0:`J:=mkF 1 g00 ia0
noncomputable def yd0:GSB:=(p8 (d7 (b7 `bf `x_))
 (p8 (ifB (ob (o2 `x0 `fH eqD))
 (p8 (U7 (V8 0 `D t8 (z7 (unG (atC `Go) (o2 `au `g? o5)) (z7 (o2 `au `g? o8) v5)) z00))
 `G)
 `G)
 (p8 (ifB (ob (o2 `py `ab5 eqD))
 (p8 `gK
 `G)
 `G)
 (p8 (ifB `abz
 (p8 (d7 (j6 (V8 0 `D t8 (z7 (oA `cW ss0) v5) W0)))
 `G)
 (p8 (ifB (ww0 `aKJ (ob (o2 `au `Gr ltD)))
 (p8 (d7 (j6 (V8 0 `D t8 (z7 (R6 (z7 `id (z7 (o2 (o2 `Gr `aC O6) `au O6) v5))) v5) W0)))
 `G)
 (p8 (ifB (ob (o2 `W `bn eqD))
 (p8 (d7 (j6 (V8 0 `D t8 (z7 `ig v5) W0)))
 `G)
 (p8 `gK
 `G))
 `G))
 `G))
 (p8 `q_
 `G)))))
noncomputable def te0:`g:=[`d8, `x7, "rest"]
noncomputable def T7:`aM:=mkB 2 te0 0 yd0
noncomputable def zz0:GSB:=(p8 (d7 (b7 `bf (o2 (o2 (plN `aLU) `jG V1) (o2 `W `jG o5) m8)))
 (p8 (ifB (ob (o2 `W `jG ltD))
 (p8 (U7 (V8 0 `D t8 `cW T7))
 `G)
 `G)
 (p8 (ifX (orT (liftT `ab7) (ut0 `aLV))
 (p8 `gK
 `G)
 `G)
 (p8 (d7 (vw0 0 `D `lk `au))
 (p8 `q_
 `G)))))
noncomputable def ur0:`g:=[`d8, `pB, `x7]
noncomputable def R0:`aM:=mkB 2 ur0 0 zz0
noncomputable def ev0:GS:=(v7 (b7 `jA `aC)
 (v7 (wp0 (u80 (z7 (o2 `W `F! O6) v5)) `jB
 (v7 `aLW
 t6))
 (v7 (Y6 (o2 (oA (z7 (U5 1 `Gl (vu0 `ab) `bD (`aLX) `ab) v5) V2) `du ltD))
 t6)))
noncomputable def lf0:`g:=[`pA, `hb, `VA, "most", "place"]
noncomputable def ys0:`J:=mkF 3 lf0 ev0
noncomputable def fy0:GS:=(v7 (wp0 (j00 `W) `bf
 (v7 (ifD `aLY
 (v7 `aLZ
 t6)
 t6)
 t6))
 (v7 (Y6 `ig)
 t6))
noncomputable def e70:`g:=[`pB, `Tr, `m5]
noncomputable def vj0:`J:=mkF 2 e70 fy0
noncomputable def zt0:GSB:=(p8 `aL_
 (p8 (ifB `aL0
 (p8 `gK
 `G)
 `G)
 (p8 `aL1
 (p8 (ifB (ob `aL2)
 (p8 (d7 (j6 `aL3))
 (p8 (d7 (j6 (V8 0 `D t8 `amz W0)))
 (p8 (d7 (vw0 0 `D `hb `bn))
 (p8 (d7 (vw0 0 `D `m3 `qY))
 `G))))
 `G)
 (p8 `q_
 `G)))))
noncomputable def un0:`g:=`aL4
noncomputable def S5:`aM:=mkB 2 un0 0 zt0
noncomputable def m20:GS:=(v7 (Y6 (oA (z7 (c10 `ab (`fI `bn) J8 `aL5) (z7 (c10 `ab `aL6 J8 `aL5) v5)) Wx0))
 t6)
noncomputable def l00:`g:=`Nd
noncomputable def vd0:`J:=mkF 1 l00 m20
noncomputable def ki0:GS:=(v7 (ifD `ab6
 (v7 (Y6 (R6 (z7 `x3 (z7 (ni0 `qY `dK) v5))))
 t6)
 t6)
 (v7 (ifD `aLN
 (v7 `aK4
 t6)
 t6)
 (v7 (ifD `aLO
 (v7 (Y6 (R6 (z7 `Tx (z7 (oA `dK vd0) v5))))
 t6)
 t6)
 (v7 (Y6 (R6 (z7 `To (z7 `amA (z7 (oA (z7 (zh0 `W `aL6 J8) v5) vd0) v5)))))
 t6))))
noncomputable def kl0:`g:=`In
noncomputable def M3:`J:=mkF 2 kl0 ki0
noncomputable def m10:GS:=(v7 (ifD (z50 `l3 `u9)
 (v7 `n5
 t6)
 t6)
 (v7 (R5 `aK5)
 t6))
noncomputable def M8:`g:=`c_
noncomputable def v40:`J:=mkN 1 M8 m10
noncomputable def yc0:GSB:=(c80 0 1 `Tv (oA `aL7 v40))
noncomputable def tc0:`g:=[`d8, `x6]
noncomputable def N8:`aM:=mkB 1 tc0 0 yc0
noncomputable def zy0:GSB:=(p8 (ifB (ob (o2 `W `TC geD))
 (p8 `gK
 `G)
 `G)
 (p8 (d7 (b7 `bf (plN (K5 0 `m4 (o2 (o2 `TC `aC O6) `W O6)))))
 (p8 (ifX (V30 (liftT `aL8) (G8 `aL9))
 (p8 `gK
 `G)
 `G)
 (p8 `aL'
 (p8 `q_
 `G)))))
noncomputable def wz0:`g:=[`d8, `apg, `sT]
noncomputable def Q7:`aM:=mkB 2 wz0 0 zy0
noncomputable def K4:GSB:=(p8 (ifB (ob (o2 (o2 `W `c! o5) `bn eqD))
 (p8 (U7 (V8 0 `D t8 (z7 (o2 `W `c! o8) v5) Q7))
 `G)
 `G)
 (p8 (d7 (b7 `bf (o2 `W `c! o8)))
 (p8 (ifB (z50 `ab7 (z50 (ob `aL!) (ob `aL?)))
 (p8 `gK
 `G)
 `G)
 (p8 (ifB (yv0 (ob (fnN 0 `m4 (z7 `au (z7 `qY v5)) ys0)))
 (p8 `gK
 `G)
 `G)
 (p8 (d7 (vw0 0 `D `hb `au))
 (p8 `q_
 `G))))))
noncomputable def wk0:`g:=[`d8, `pB, `hb]
noncomputable def V7:`aM:=mkB 2 wk0 0 K4
noncomputable def ws0:GSB:=(p8 (d7 (b7 `bf (oA (z7 `W (z7 (gc (`aMa)) v5)) vj0)))
 (p8 (ifB `amy
 (p8 `gK
 `G)
 `G)
 (p8 `aL'
 (p8 `q_
 `G))))
noncomputable def td0:`g:=`aL4
noncomputable def N5:`aM:=mkB 2 td0 0 ws0
noncomputable def tf0:GSB:=(p8 (U7 (Z8 (o2 `amk `bn eqD)))
 `G)
noncomputable def o20:`g:=`bu
noncomputable def R8:`aM:=mkB 1 o20 0 tf0
noncomputable def xm0:GSB:=(p8 (ifX `Ne
 (p8 `gK
 `G)
 `G)
 (p8 `aMb
 (p8 (ifB (z50 (ob (o2 `au `ab5 eqD)) (ob (o2 `au `Gq eqD)))
 (p8 (U7 (V8 0 `D t8 `dK R0))
 `G)
 `G)
 (p8 (ifB (ob (o2 `au (gc (`s `m5)) eqD))
 (p8 (U7 (V8 0 `D t8 `dK N5))
 `G)
 `G)
 (p8 (ifB (ob `aMc)
 (p8 (U7 (V8 0 `D t8 `dK S5))
 `G)
 `G)
 (p8 (U7 (V8 0 `D t8 `dK V7))
 `G))))))
noncomputable def o00:`g:=[`d8, `pB, "want"]
noncomputable def V9:`aM:=mkB 2 o00 0 xm0
noncomputable def h70:GS:=(v7 (Y6 (tg0 (Q4 isInt `ab) (Ql0 (Q4 `Gu `ab))))
 t6)
noncomputable def g90:`g:=`n6
noncomputable def vo0:`J:=mkF 1 g90 h70
noncomputable def d20:GS:=(v7 (Y6 (tg0 `ab8 `aMd))
 t6)
noncomputable def ed0:`g:=`n6
noncomputable def v70:`J:=mkF 1 ed0 d20
noncomputable def sj0:GSB:=(p8 (ci0 (vu0 `W) `bf
 (p8 (ifX (orT (liftT `ab9) `aMe)
 (p8 `ab'
 `G)
 `G)
 (p8 `aMf
 (p8 `aMg
 `G))))
 `G)
noncomputable def nv0:`g:=[`d8, `tK, "thing"]
noncomputable def wh0:`aM:=mkB 2 nv0 0 sj0
noncomputable def qm0:GSB:=(p8 (ifX (ut0 `Ne)
 (p8 `ab'
 `G)
 `G)
 (p8 (U7 (g80 0 `pz 1 [] `bD `Nf))
 `G))
noncomputable def qc0:`g:=`bu
noncomputable def vb0:`aM:=mkB 1 qc0 0 qm0
noncomputable def jv0:GS:=(v7 (h40 1 `D zx0)
 (v7 (j6 (V8 1 `D t8 `ld wh0))
 (v7 (jk0 (V8 1 `D t8 v5 vb0))
 t6)))
noncomputable def g50:`g:=[`tK, "reader"]
noncomputable def zb0:`J:=mkF 1 g50 jv0
noncomputable def Pe0:GS:=(v7 (b7 `Ga `amE)
 (v7 (b7 `bf (oA (z7 `W (z7 (o2 (oA (z7 `ab `Tl) U9) (o2 (o2 `xX (gc (`d 9)) nf0) `F9 m8) o5) v5)) us0))
 (v7 (b7 `jA (oA `dK vz0))
 (v7 (Q3 4 (oA `cW vz0))
 (v7 (b7 `sM (oA `dK zk0))
 (v7 (ifD (z50 (ob `aMh) (ob `aMi))
 (v7 `Ng
 t6)
 t6)
 (v7 (Q3 6 `amI)
 (v7 (b7 (gN 7) (yh0 (oA `sS zb0)))
 (v7 (ifD (z50 (yv0 `aMj) (z50 (ob `aMk) (z50 (pa0 `aMl) (ob `aMm))))
 (v7 `Ng
 t6)
 t6)
 (v7 (wp0 (tupI `mX) `mY
 (v7 (wp0 `aMn (gN 9)
 (v7 (ifD `aMo
 (v7 `Ng
 t6)
 t6)
 t6))
 t6))
 (v7 (j6 (i30 6))
 (v7 (Q3 10 (n90 (oA `m0 zn0)))
 (v7 (j6 (i30 4))
 (v7 (Y6 (ob0 (tg0 `aMp (o2 (oA (z7 (gv 10) v5) zb0) `amF wq0))))
 t6))))))))))))))
noncomputable def P50:`g:=[`mW, `m2, "_law_other_here", `alI, "_law_second", "_law_due", "_law_handed", `abC, `sQ, `pw, "_law_kept"]
noncomputable def lz0:`J:=mkF 1 P50 Pe0
universe zz
universe Rk
namespace W
open DL
noncomputable def hasAll(x s:Str):`aa:=x.cps.toList.all λc=>`w (c∈`hg)
noncomputable def nameS:Str := `x9
noncomputable def c30:Str := `x'
noncomputable def isName(x:Str):`aa:=(`w (`ab!<=8)&&hasAll x nameS)&&`w (0<`ab!)
noncomputable def isWord(x:Str):`aa:=`w (`ab!<=20)&&hasAll x c30
noncomputable def marks(x:D)(m:Str):`aa:=match x with
 | `nT=>`w (y=m)
 | _=>`q
noncomputable def je0:`dc
 | `u=>`b
 | `b?=>`b
 | `t [x,`a_]=>`GB x `sL&&`ab?
 | _=>`q
inductive Pt where
 | text (w:Str)|row (vs:`j)|table (ps:`bN)|rcd (c:Str) (ps:`bN)
variable{ps:`ad W.Pt}
noncomputable def pr(p:`x?):D:=`t `aMq
noncomputable def Pt.d:Pt->D
 | `q0=>`t [`lh,`s w]
 | `n7=>`t [`x1,`t vs]
 | `l4=>`t [`li,`GV]
 | `BO=>`t [`jC,`hX,`GV]
noncomputable def Pt.vals:`aca
 | `Nh=>[]
 | `n7=>vs
 | `l4=>`hj
 | `acb=>`hj
noncomputable def Pt.pnames:Pt->`g
 | `Nh=>[]
 | .row _=>[]
 | `l4=>`gs
 | `acb=>`gs
noncomputable def Pt.cls:Pt->`g
 | `m6 c _=>[c]
 | _=>[]
noncomputable def Pt.all(p:Pt):`g:=p.pnames++p.cls
noncomputable def lk:D->`bc
 | `t [_,`a_]=>`pr
 | _=>`c
structure PsOk(ps:`bN):Prop where
 len:`ax<=12
 names:∀p∈ps,`pH p.1=`b
 vals:∀p∈ps,je0 p.2=`b
 nd:(`gs).Nodup
noncomputable def Pt.Ok:Pt->Prop
 | `q0=>`aMr
 | `n7=>`bS<=12/\∀v∈vs,`acc
 | `l4=>`acd
 | `BO=>`pH c=`b/\`acd
theorem W70{n:Str}(h:`pH n=`b):`tf<=8:=by
 unfold isName at h;simp only[`a?,`qN] at h;omega
noncomputable def Pt.few(p:Pt):Prop:=`yQ<=`L
theorem vl0{v:D}(h:`acc):`rI∨(∃i,`Ax)∨∃i,v=`ace/\`gg:=by
 cases v with
 | non=>exact `bQ
 | int i=>exact `aMs
 | tup xs =>
  match xs,h with
  | [x,`a_],h =>
   simp only[je0,`a?,`qN] at h;cases x<;>simp[`GB] at h
   exact `n (`n ⟨i,by rw[h.1],h.2⟩)
 | _=>cases h
noncomputable def P0:Str := `aKg
noncomputable def cg(i:Int):Nat:=`Ni `eo 0
theorem fj0(i:Int)(h0:`gg)(h1:i<36):ixD (`sX) `ej=`a (`s ⟨#[cg i]⟩):=by
 have hl:P0.cps.toList.length=36:=`aP
 have hz:P0.length<=`L:=`aP
 have:=xw0 (xs:=P0.cps.toList) (i:=i) h0 `aHg 0;simp only[ixD,`N hz,`A,`gH];rfl
theorem bl0(i:Int)(h0:`gg)(h1:i<36):cg i∈`Gv:=by
 have h:∀n:Nat,n<36->`Ni n 0∈`Gv:=`aP
 exact h `eo `h
theorem cy0(i j:Int)(h0:`gg)(h1:i<36)(h2:0<=j)(h3:j<36)(e:cg i=cg j):i=j:=by
 have h:∀n:Nat,n<36->∀m:Nat,m<36->`Ni n 0=`Ni m 0->n=m:=`aP
 have:=h `eo `h `hS `h e;omega
noncomputable def strOf(l:`k):Str:=⟨l.toArray⟩
theorem U70(l:`k)(h1:0<`dL)(h2:`dL<=8)(h3:∀c∈l,`BP):`pH `ye=`b:=by
 unfold isName hasAll;have e:`aMt:=`aMu
 have e2:`aMv:=`aMw
 rw[e,e2];simp only[`a?,`qN,`l2];exact⟨`aMx,`C⟩
theorem Uf0{l m:`k}(h:`yc=`az m):l=m:=by
 unfold strOf at h;injection h with h
 simpa using C1 `ahk h
universe W
variable{ps:`ad W.Pt}
namespace W
open DL StrLaws Builtin.Str
theorem wb0(l:`k):`aMv:=`aMw
theorem zj0(l:`k):`aMt:=`aMu
noncomputable def qx0(sep:`k):`ks->`k
 | []=>[]
 | [p]=>p
 | p::q::r=>`aMy
universe W
namespace Rm
open DL W PySem.StrLaws
inductive Want where
 | root|value|sign|name|cls|fin
 deriving DecidableEq
variable{ws:`aMz}
structure RS where
 count:Nat
 begun:`acf
 un:`k
 names:`ks
 wait:`aY
 digits:Int
 length:Nat
 spelled:`k
variable{S' S1:Rm.RS}
noncomputable def start:RS:=⟨0,[],[],[],[`td],0,0,[]⟩
noncomputable def S9:`k:=(`bl 10).map (48+·)++(`bl 26).map (97+·)
noncomputable def s50:`k:=32::S9
noncomputable def RS.hold(S:RS)(d:D):RS:={ S with begun:=(match `cB with|[]=>`fN|k::_=>`q1),wait:=`l5,digits:=0 }
noncomputable def wanted:Nat->Nat->`aY
 | 0,n=>`aL n `jM
 | 1,n=>`aL n `d9
 | 2,n=>`acg
 | _,n=>.cls::`acg
noncomputable def link(k:Nat):D:=`aMA
noncomputable def uo0(n:Int):Int:=if n%2=1 then -(n/2) - 1 else n/2
noncomputable def left(names:`ks)(len:Nat)(pre:`k):`aa:=`w ((`Uw λn=>`w (`tf=len)&&`G?).length<36 ^ (len - `eZ))
noncomputable def pairsOf:`j->`MX
 | `DQ=>`ach
 | _=>[]
noncomputable def O8(p:`hc):`j:=match p.1 with
 | 2=>`aMB `bz
 | 3=>`aMC `bz
 | _=>[]
noncomputable def X8(l:`k):D:=`s0
noncomputable def W60:`aY->`k->`aY×`k
 | `b1::w,_::u=>W60 w u
 | w,u=>(w,u)
noncomputable def RS.ends(S:RS):RS:={ S with wait:=(`aMD).1,un:=(`aMD).2 }
noncomputable def codes:`j->`k
 | `bH::r=>`aF1++`Hd r
 | _=>[]
noncomputable def made(p:`hc):D:=match p.1 with
 | 0=>`t [`lh,X8 (`Hd p.2)]
 | 1=>`t [`x1,`t p.2]
 | 2=>`t [`li,`t (`aMB `p_)]
 | _=>`t [`jC,p.2.headD `u,`t (`aMC `p_)]
universe Rm
variable{ws:`aMz}{S' S1:Rm.RS}
namespace Bt
open DL W
theorem T3{G:GSB}{b:D}{r:D}(hl:`u0)(h:∀p,∃δ',G `pl=`a (.rt r δ')/\`Mq):`aaQ:=ik0 hl λp=>`o (h p)
theorem m7{G1 G2:GSB}{δ:Ds}{r:`l_}(h:`YU)(k:`Aq=r):`aME=r:=by unfold p8;rw[h];exact k
theorem W9{G1 G2:GSB}{δ:Ds}{d:D}(h:`mx=`aci):`aME=`aci:=by unfold p8;rw[h]
theorem W5{δ:Ds}(h:`aaN):d7 G δ=`d4:=by unfold d7;rw[h]
theorem yi0{g:GB}{δ:Ds}(h:`ar=`eb):`aMF=Ga δ:=`aMG
theorem J7{g:GB}{δ:Ds}(h:`ar=`aV):`aMF=Gb δ:=`aMG
theorem T8{δ:Ds}{d:D}(h:`acj):U7 gx δ=`aci:=by unfold U7;rw[h];rfl
theorem K3{g:GE}{δ:Ds}{d:D}(h:`hx):Z8 g δ=`a (d,δ):=by unfold Z8;rw[h];rfl
noncomputable def bk(k:Int)(cs:`_)(sm:`aa)(m:Int)(pool:`g):D:=`cy (`o [`ack,`acl,`acm,`n `Tg,`n "pool"]) [`ik,`m8,`q2,`d m,`s1]
theorem yn0{ga gb:GE}{δ:Ds}{i j:Int}(h1:`c9=`Gw)(h2:`d3=`a `yf)(h:0<j):o2 ga gb o5 δ=`YP:=by
 rw[p6 h1 h2];show (if 0<j then _ else _)=_;rw[`co]
theorem u40(i j:Int)(h:`ahG):`aMH:=by simp only[V1];rw[`N (`Kk)]
theorem b00{cs:`_}{g:GE}{δ:Ds}{i:Int}(s0 s1:Sl)(hδ:δ=[s0,s1,`Gx])(h:`aMI)(h0:`gg)(h1:i<`Gy):∃c:Int,o2 `au g ixD δ=`acn:=by
 refine⟨cs[i.toNat]'`h,?_⟩;have e:gv 2 δ=`aMJ:=by rw[hδ];rfl
 rw[p6 e h];show atI (`aMK) i=_;rw[xw0 h0 (by rw[`F];exact h1) `u];have:`eo<`Gy:=`C
 simp[`bg,`A]
theorem fe0(k:Int)(h0:`iO)(hk:`aco)(cs:`_)(hc:`q3)(sm:`aa)(m:Int)(pool:`g):`aML:=by
 have pos:0<`Gy:=`ML hc;have J:∀(z:Int),(∀p:`e,∀δ:Ds,δ=`BQ->(p8 (ifB `aKv (p8 `aKw `G) `G)
   (p8 `aKx `G)) δ=`a (.rt `ic δ))->0<=z->`aML:=λz h hz=>by
  refine⟨z,hz,T3 rfl λp=>⟨`BQ,?_,rfl⟩⟩;refine m7 (δ':=[`BR,`sW,.un]) `acp ?_;refine m7 (δ':=[`pD,`sW,.un]) `acp ?_;refine m7 (δ':=`BQ) `acp ?_;exact h p _ rfl
 have len:∀(s0:Sl),oA `cW V2 `BS=`a (`d `Nj):=λs0=>by
  show `a (`aX ((`aMK).length:Int))=_;rw[`F]
 have cond:∀s0:Sl,ob `ald `BS=`a (`w (k<`Nj)):=λs0=>by
  unfold ob;rw[p6 (x:=`ik) rfl (len s0)];rfl
 by_cases hlt:k<`Nj
 ·have ex:∃c:Int,∀s0:Sl,o2 `au `W ixD `BS=`acn:=by
   obtain⟨c,hc⟩:=b00 (cs:=cs) (g:=gv 1) (δ:=`aMM) _ _ rfl rfl h0 hlt;exact⟨c,λs0=>hc⟩
  obtain⟨c,hc⟩:=ex;refine J (c%(10 ^ 64+57)) `aMN `aMO;subst hδ;refine `GC;rw[yi0 (by rw[cond,`bF hlt])];refine W9 (T8 (K3 (yn0 (hc _) ?_ `p)));kernel_rfl
 ·obtain⟨c,hc⟩:∃c:Int,∀s0:Sl,o2 `au `alg ixD `BS=`acn:=by
   have em:∀s0:Sl,o2 `W `F! o5 `BS=`a (`d (k%`Nj)):=λs0=>yn0 rfl (len s0) `h
   obtain⟨c,hc⟩:=b00 (cs:=cs) (δ:=`aMM) _ _ rfl (em .un) (`va) (`vb);refine⟨c,λs0=>?_⟩;rw[p6 (x:=`m8) rfl (em .un)] at hc;rw[p6 (x:=`m8) rfl (em s0)];exact hc
  refine J ((`acq+7)*48271%2147483647) `aMN `aMO;subst hδ;refine m7 (δ':=`BQ) (by rw[J7 (by rw[cond,`b6 hlt])];rfl) ?_;refine W9 (T8 (K3 (yn0 ((p6 (x:=`d (`acq+7)) (y:=`alj) ?_ rfl).trans (u40 _ 48271 `p)) rfl `p)));have e3:o2 `ali `W V1 `BQ=`a (`aMP):=by
   rw[p6 (x:=`d (3*k)) (y:=`ik) (`aMQ (u40 3 k `h)) rfl];exact `Nk
  exact(p6 (x:=`d `acq) (y:=`d 7) ((p6 (x:=`d (`amO)) (y:=`aMP) (yn0 (hc _) rfl `p) e3).trans rfl) rfl).trans rfl
universe Bt
namespace Pn
open DL W
noncomputable def put:Pt->`j->Pt
 | `q0,_=>`q0
 | .row _,vs=>`n7
 | `l4,vs=>`ya (`UN)
 | `BO,vs=>`m6 c (`UN)
universe Pn
namespace Gw
open DL W
noncomputable def y30:GS:=(v7 (ifD `aKd
 (v7 `aKe
 t6)
 t6)
 (v7 `M3
 t6))
noncomputable def xo0:`g:=`tM
noncomputable def U9:`J:=`aKf
universe Gw
namespace Gw
open DL W StrLaws
theorem p90(i j:Int)(h:`ahF):`aMH:=by simp only[V1];rw[`N (`o h)]
theorem h50(i j:Int)(h:0<j):o5 `ej `yf=`YP:=by simp only[o5,ii];rw[`co]
theorem Mm0(i j:Int)(h:`Jn):o8 `ej `yf=`awx:=by simp only[o8,ii];rw[`co]
theorem mq0{g:GE}{δ:Ds}{l:`j}{d:D}(h1:`aMR)(h2:`hx)(h3:`dL<`L):j6 (zu0 i g) δ=`a (.nx (`a0 i (.ow (`l (l++[d]))))):=by
 unfold j6 zu0;rw[h1,h2];simp only[`f];rw[`_A];rfl
theorem Xc0(ns:`_)(k:Int)(h0:`iO):∃z,U9 [`ll,`ik]=`Nl:=by
 by_cases h:k<`eP
 ·have J:`eu<`eP:=`C
  refine⟨ns[k.toNat],`n8⟩;rw[T6 (by
   show `aMS;rw[`bF `acr])]
  refine `lp;show atI `acs k=_;rw[xw0 h0 `acr `u];simp[`bg,J]
 ·refine⟨0,Y0 rfl (u9 (δ':=[`s4,`sW]) ?_ rfl)⟩
  rw[c7 (by
   show `aMS;rw[`b6 `acr])]
  rfl
theorem My0(l:`k)(k:Int)(h0:`iO)(h1:k<=`dL):`ajm `ye `c (`fz)=`az (l.take `eu):=by
 show sliceText _ _ _=_;rw[sliceText_to ⟨h0,by rw[wb0];exact h1⟩,wb0];simp[`az]
theorem Jv0(a b:`k):`aMT:=by
 show (⟨_⟩:Str)=⟨_⟩;simp[`az]
theorem ii0(a b:`k)(h:`aMU):m8 (`s (`az a)) (`s (`az b))=`a (`s (`az `Gz)):=by
 simp only[m8];rw[`N (by rw[zj0,zj0];exact h),Jv0]
universe Gw
namespace Gw
open DL W
structure Vk(v:D)(m:Int):Prop where
 ok:`acc
 bd:∀i,`Ax->`ahE<`BT
 lk:∀k,lk v=`fz->k<m
structure Gd(p:Pt)(m:Int)(nm:`g):Prop where
 ok:p.Ok
 vk:∀v∈`gy,`vc
 nms:∀s∈`vd,s∈nm
theorem Vc0(l:`k)(h2:`dL<=20)(h3:∀c∈l,`act):isWord `ye=`b:=by
 unfold isWord hasAll;rw[zj0,wb0];simp only[`a?,`qN,`l2];exact`aMx
theorem qd0(xs:`j)(x:D):atI (`YY) (-1)=`dE:=by
 unfold atI ixN;rw[`eE,`N `aMV];rw[show ((-1:Int)+((`YY).length:Int)).toNat=`am by rw[`Z];simp only[`V,`gr];omega];simp
universe Gw
namespace Bt
open DL W
theorem Z6{g:GE}{δ:Ds}{b:`aa}(h:`aMW):`aMX:=`aMY
theorem Us0(c:Int)(sm:`aa):∃n:Int,n.natAbs<`BT/\yj0 [`d c,`q2]=`a (`iq):=by
 cases sm with
 | true=>exact⟨c%(2*10 ^ 12 - 1) - 10 ^ 12+1,`C,Y0 rfl (m9 (by rw[`ve];exact `Nm))⟩
 | false =>
  have s0:∀(Ga G:GS) (r:`w1),G `BU=r->v7 (ifD `aKs Ga t6) G `BU=r:=λGa G r h=>u9 `kt h
  have e0:∀j:Int,ob `aMZ `BU=`a (`w (c%3=j)):=`Nn
  by_cases h0:c%3=0
  ·exact⟨c/3%300 - 150,`C,Y0 rfl (s0 _ _ _ (m9 (by rw[T6 (by rw[e0,`acu])];exact `Nm)))⟩
  ·have s1:∀(Ga G:GS) (r:`w1),G `BU=r->v7 (ifD `M5 Ga t6) G `BU=r:=λGa G r h=>u9 (by rw[c7 (by rw[e0,`Vx])];rfl) h
   by_cases h1:c%3=1
   ·exact⟨c/3%40001 - 20000,`C,Y0 rfl (s0 _ _ _ (s1 _ _ _ (m9 (by rw[T6 (by rw[e0,`BV])];exact `Nm))))⟩
   ·exact⟨c/3%(2*`BT - 1) - `BT+1,`C,Y0 rfl (s0 _ _ _ (s1 _ _ _ (u9 (by rw[c7 (by rw[e0,`b6 h1])];rfl) (`Nm))))⟩
theorem r00{gA:GA}{f:`aM}{δ:Ds}{p:`e}{b r:D}(h:`cj=`aHo)(hA:`lQ)(hf:`aaM):`aM_=`a (r,`a0 i (.ow (v8 p b'))):=by
 unfold O5;rw[h];show (`gq λds=>`aM0 λr=>(r.1,`a0 i (.ow (`t [`Bt,r.2]))))=_;rw[hA];show `aM0 _=_;rw[hf];rfl
theorem ef0{gA:GA}{f:`aM}{δ:Ds}{ks:KS}{vs:`j}{r:D}(h:`cj=`aHp)(hA:`lQ)(hf:`amR=`SJ):`aM_=`a (r,`a0 i `S9):=by
 unfold O5;rw[h];show (`gq λds=>`aM1 λr=>(r.1,`a0 i (.ow r.2)))=_;rw[hA];show `aM1 _=_;rw[hf];rfl
theorem jn0{ft:`aS}{δ δ1 δ2:Ds}{d:D}(h:`eW=`a (d,δ1))(k:ft d δ1=`a δ2):Q0 gx ft δ=`Q3:=by
 unfold Q0;rw[h];show (ft d δ1).map _=_;rw[k];rfl
open Gw (Vk)
theorem Nm0(i:Int):je0 (`ace)=`ab?:=by
 show (`aM2&&`ab?)=_;rw[show `aM2=`b from `aP];rfl
theorem Sd0(k:Int)(h0:`iO)(hk:`aco)(cs:`_)(hc:`q3)(sm:`aa)(m:Int)(hm:1<=m)(pool:`g):∃v,`vc/\O1 `ij []=`a (v,`pC):=by
 obtain⟨z,hz,hn⟩:=`aM3;have call:∀p:`e,d7 `all (z90 uz0 0 p `ij [])=`a (.nx `ku):=λp =>
  `aM4
 have c8:∀(p:`e) (j:Int),ob (o2 `Gb `yh eqD) `ku=`a (`w (z%8=j)):=`aM5
 have l8:∀(p:`e) (j:Int),ob (o2 `Gb `yh ltD) `ku=`a (`w (z%8<j)):=`aM5
 by_cases q0:z%8=0
 ·refine⟨`u,⟨rfl,`aM6,λk e=>by cases e⟩,T3 rfl λp=>⟨`ku,m7 `acv `l6,rfl⟩⟩
  rw[yi0 (by rw[c8,`acw])];exact `G5
 have s1:∀(p:`e) (Ga G:GSB) (r:`l_),G `ku=r->p8 (ifB `aKz Ga `G) G `ku=r:=λp Ga G r h =>
  m7 (δ':=`ku) (by rw[J7 (by rw[c8,`acx])];rfl) h
 by_cases q4:z%8<4
 ·obtain⟨n,M,J⟩:=Us0 (z/8) sm
  refine⟨`iq,⟨rfl,(λi e=>by cases e;exact M),λk e=>by cases e⟩,T3 rfl λp=>⟨`ku,m7 `acv (s1 p _ _ _ `l6),rfl⟩⟩;rw[yi0 (by rw[l8,`bF q4])];refine `No;rw[m5 (ds:=[`d (z/8),`q2]) (`U rfl (`U `fJ rfl))];exact J
 ·refine⟨`t [`g!,`d (z/8%m)],⟨by rw[Nm0];exact M0 (`va),`aM6,λk e=>by cases e;exact `vb⟩,T3 rfl λp=>⟨`ku,m7 `acv (s1 p _ _ _ (m7 (δ':=`ku) ?_ ?_)),rfl⟩⟩
  ·rw[J7 (by rw[l8,`b6 q4])]
   rfl
  ·refine W9 (T8 (K3 (J2 (`U rfl (`U (yn0 (i:=z/8) (j:=m) rfl `fJ `h) rfl)) (`aJy))))
theorem Xa0(cs:`_)(hc:`q3)(sm:`aa)(m:Int)(hm:1<=m)(pool:`g):∀(items:`j) (k:Int),`iO->k+`cx<1000000 ->
  ∃vs:`j,`bS=`cx/\(∀v∈vs,Gw.Vk v m)/\zw0 `bD `Th 1 `pJ `aQ `ij=`a (vs,bk (k+`cx) cs sm m `aB)
 | [],k,_,_=>⟨[],rfl,`acy,by rw[show k+(([]:`j).length:Int)=k by simp];rfl⟩
 | `as,k,h0,hk=>by
  simp only[`V] at hk;obtain⟨v,hv,e⟩:=Sd0 k h0 `h cs hc sm m hm `aB;obtain⟨vs,hl,J,ih⟩:=Xa0 cs hc sm m hm `aB ds `eS `h `h;refine⟨`A6,`acz,`nS,?_⟩
  ·rcases `qt with rfl|hx
   ·exact hv
   ·exact J x hx
  ·have c:O5 1 v5 O1 `TN=`a (v,[`fx,.ow (`pC)]):=`aM7
   unfold zw0;rw[`aM8,`f,c];show ((zw0 `bD `Th 1 `pJ ds (`pC)).map λq=>(v::q.1,q.2))=_;rw[ih,show k+1+(`bk:Int)=k+(`Ku:Int) by simp only[`V];omega];rfl
universe Bt
namespace Bt
open DL W StrLaws
theorem Ti0(a b:`k):`aMT:=by
 show (⟨a.toArray++b.toArray⟩:Str)=⟨(a++b).toArray⟩;rw[List.append_toArray]
theorem Sx0(sep:`k):∀parts:`ks,`aiR (`Np) (`amS `az)=`aM9:=by
 intro parts;unfold Txt.join;rw[StrLaws.glued_eq_join]
 induction `yj with
 | nil=>rfl
 | cons p r ih =>
  cases r with
  | nil=>rfl
  | cons q r =>
   show `az p++`Np++PySem.Str.join (`Np) ((q::r).map `az)=`az (`aMy);rw[ih,Ti0,Ti0]
theorem b80{g:GE}{δ:Ds}{S:`Fu}(sep:`k)(parts:`ks)(B:Nat)(hS:S=`Np)(hg:`ar=`a (`aM'))(hB:∀p∈`yj,`aM!)(hz:parts.length*(B+`aiQ)<=16777216) :
  ni0 (gc (`s S)) `LJ δ=`a (`s (`aM9)):=by
 have J:∀l:`ks,(∀p∈l,`aM!)->((`er `az).map `aiP).sum<=`dL*B:=by
  intro l
  induction l with
  | nil=>intro _;simp
  | cons p l ih =>
   intro h;have:=ih `aEC
   have:=h p A6;rw[`T,`T,List.sum_cons,`V,zj0,Nat.add_mul];omega
 have e1:=strs_map `az `yj;rw[O50 (x:=`s S) (ds:=[`aM']) rfl (`U hg rfl)];simp only[dw0];rw[e1,`f,`N,hS,Sx0];have:=J `yj hB;rw[hS,zj0,`F];rw[Nat.mul_add] at hz;omega
theorem l60:∀l:`k,`aM?=l
 | []=>rfl
 | [c]=>rfl
 | c::d::r=>by
  show[c]++[]++qx0 [] ((d::r).map `GD)=_;rw[l60 (d::r)];rfl
noncomputable def signs:`k:=(`aby : Str).cps.toList
theorem Og0(k:Int)(h0:`iO)(hk:`aco)(cs:`_)(hc:`q3)(sm:`aa)(m:Int)(pool:`g)(n:Nat)(hn:n<=20):∃l:`k,`dL=n/\(∀c∈l,c∈`iT)/\yz0 `ij [`jg]=`a (`s0,`pC):=by
 obtain⟨z,hz,he⟩:=`aM3;obtain⟨S,hS⟩:∃S:Str,S = `aby := `ae;have O:`aNa=`iT:=`aNb
 have M:signs.length=37:=`aP
 let at':`eJ:=λj=>`aNc (`GE%37).toNat 0
 have J:∀j,at' j∈`iT:=λj=>by
  have a1:=`aNd;have a2:=`aNe;show `aNc _ 0∈`iT;rw[`bg,`akI];exact L3 _
 refine⟨`acA,`aW,`acB,T3 rfl λp=>⟨`acC,?_,rfl⟩⟩
 ·obtain⟨j,_,rfl⟩:=`ds hc
  exact J j
 ·refine m7 (δ':=[`BR,`bW,`TP,.un]) (W5 (`aNb)) ?_
  refine m7 (δ':=`acC) (W5 (jn0 (r00 (p:=p) (b:=`TG) rfl rfl he) rfl)) ?_;refine `No;have hp:`acA=qx0 [] ((`acA).map `GD):=(l60 _).symm;rw[hp];refine b80 [] _ 1 rfl ?_ `aNf `j8;have hr:u80 `dK `acC=`a (`BW):=o40 rfl `h `h;refine(xv0 hr (by rw[tn0];exact B9 (show _<=20 by omega) `p) (Ro0 (λj=>`s (`az [at' j])) λj hj=>⟨`Nq,rfl,rfl,?_⟩)).trans ?_
  ·have d1:o2 `au `alo o8 `Nq=`a (`d (z/(`bV+1))):=by
    show (if `hd<`bV+1/\`bV+1<1073741824 then `a (`aX (z/(`bV+1))) else `c)=_;rw[`q4]
   have d2:o2 `ab `ab V1 `Nq=`a (`aNg):=`aMQ (`Nk);have d0:o2 `aKB (o2 `ab `ab V1) m8 `Nq=`a (`d `GE):=(p6 d1 d2).trans rfl;have d3:=yn0 (gb:=`aKC) d0 rfl `amT;have a1:=`aNd;have a2:=`aNe;rw[p6 (x:=`s S) rfl d3];show (if `fM<=`L then (atI `aNa _).map _ else `c)=_;rw[`N (by rw[hS];decide +kernel),O,xw0 a1 (by rw[M];exact a2) 0];rfl
  ·rw[`bo,`bM,`bM]
   rfl
universe Bt
namespace Bt
theorem cl0:(∀d∈`acD,∀s∈`acD,d=0∨s=0∨d*s%13≠0)/\∀d∈`acD,∀s∈`bl 53,d=0∨s=0∨d*s%53≠0:=`aP
theorem ec0(p:Nat)(hp:`aNh)(a:Int)(s:Nat)(h1:1<=s)(h2:s<p)(i d:Nat)(hd:d<13)(h:`aNi=`amU%`pF):d=0:=by
 have e:(p:Int) ∣ ((d*s:Nat):Int):=by
  have:=Int.emod_emod_of_dvd `TQ (Int.dvd_refl `pF);have h':(`aNj)%`pF=0:=by
   rw[Int.sub_emod,h,Int.sub_self];rfl
  have e2:`aNj=((d*s:Nat):Int):=by
   rw[Int.natCast_add,Int.add_mul,`_z];omega
  rw[e2] at h';exact Int.dvd_of_emod_eq_zero h'
 have e3:d*s%p=0:=Nat.mod_eq_zero_of_dvd (Int.natCast_dvd_natCast.mp e);rcases hp with rfl|rfl
 ·rcases cl0.1 d `aNk s `aNl with z|z|z
  ·exact z
  ·omega
  ·exact `aNm
 ·rcases cl0.2 d `aNk s `aNl with z|z|z
  ·exact z
  ·omega
  ·exact `aNm
theorem unlike(p:Nat)(hp:`aNh)(a:Int)(s:Nat)(h1:1<=s)(h2:s<p)(i j:Nat)(hi:i<13)(hj:j<13)(h:`aNi=(a+`bV*`pE)%`pF):i=j:=by
 rcases `aDX i j with q|q
 ·have:=ec0 p hp a s h1 h2 i (j - i) `h (by rw[show i+(j - i)=j by omega];exact h)
  omega
 ·have:=ec0 p hp a s h1 h2 j (i - j) `h (by rw[show j+(i - j)=i by omega];exact h.symm)
  omega
universe Bt
namespace Bt
open DL W
noncomputable def NB1:GS:=(v7 `aKh
 t6)
noncomputable def NB2:GS:=(v7 `aKi
 (v7 `aKj
 (v7 (ifD `M5
 (v7 `aKk
 t6)
 (v7 (ifD `abw
 (v7 `aKl
 t6)
 (v7 `aKm
 t6))
 t6))
 t6)))
noncomputable def code(N:Int)(k:Nat):`k:=[`TR,`aNn]
noncomputable def nmF(N:Int)(w:`k)(a k:Nat):`k:=if N%3=0 then `aNo else if N%3=1 then `aNp else `acE
structure PoolB(n:Nat)(nm:`g):Prop where
 len:`c?=n
 names:∀s∈nm,`acF
 nd:nm.Nodup
theorem k90{g:GE}{gl gh:GO}{δ:Ds}{d:D}{l h:`bc}(h1:`hx)(h2:`EP=`a l)(h3:`xp=`a h):zh0 g gl gh δ=slA d l h:=by
 unfold zh0;rw[h1,`f,h2,`f,h3,`f]
theorem bi0{g:GE}{δ:Ds}{i:Int}(h:`aMI):`fI g δ=`a (`pr):=by
 unfold someO;rw[h];rfl
theorem Wy0(w:`k)(i:Int)(h0:`gg)(h1:i<=`d')(hl:`d'<=100):slA `GI `c (`pr)=`a (`s (`az (`GG `eo))):=by
 have z:`c0:=`X
 simp only[slA];rw[`N (by rw[zj0];omega),Gw.My0 _ _ h0 h1]
theorem Mj0(N:Int)(w:`k)(hw:`Nr)(a:Nat)(ha:a<7)(k:Nat)(hk:k<100)(names:`g)(hl:`aNq)(s1 s4 s8:Sl) :
  NB2 [`ex,s1,`jI,`m9,s4,`pI,`TS,`cX,s8]=`a (.nx [`ex,s1,`jI,`m9,s4,`pI,.ow (`l ((`kc++[`amY]).map `s)),`cX,`TT]):=by
 have z:`c0:=`X
 have cl:(`pG).length=2:=rfl;refine u9 (δ':=[`ex,s1,`jI,`m9,s4,`pI,`TS,`cX,.sh (`acG)]) (X3 (d:=`acG) (by
  rw[p6 (x:=`sX) (y:=`d ((N+`bU)%36)) rfl rfl];exact `acH)) ?_
 refine u9 (δ':=`ym) (X3 (d:=`s_) (by
  rw[p6 (x:=`acG) (y:=`s (`az [`aNn])) rfl (by
   rw[p6 (x:=`sX) (y:=`d `amV) rfl rfl];exact `acH)]
  exact `acI)) ?_
 have app:∀(g:GE) (l:`k),g `ym=`aNr ->
   v7 (j6 (zu0 6 g)) t6 `ym=`a (.nx [`ex,s1,`jI,`m9,s4,`pI,.ow (`l ((`kc++[`yc]).map `s)),`cX,`TT]):=λg l h=>by
  refine u9 (`BX (l:=`yl `s) (d:=`s0) rfl h `iw) ?_;rw[`aN];rfl
 refine `acJ;have c3:∀j:Int,ob `aMZ `ym=`a (`w (N%3=j)):=`Nn
 by_cases q0:N%3=0
 ·rw[T6 (by rw[c3,`acw]),show `sZ=`aNo by unfold nmF;rw[`N q0]]
  refine `acK;rw[p6 (x:=`s (`az (`GG a))) (y:=`s_) (by
   show slA `GI `c (`a `Ej)=_;rw[`aNs,`bo]) rfl]
  exact `aNt
 ·rw[c7 (by rw[c3,`acx])]
  refine `acJ
  by_cases q1:N%3=1
  ·rw[T6 (by rw[c3,`bF q1]),show `sZ=`aNp by unfold nmF;rw[`ai q0,`N q1]]
   refine `acK;rw[p6 (x:=`s (`az (`amW))) (y:=`s_) (by
    show slA `GI `c (`a (`bU%7))=_;rw[`aNs,show (`bU%7).toNat=k%7 by omega]) rfl]
   exact `aNt
  ·rw[c7 (by rw[c3,`b6 q1]),show `sZ=`acE by unfold nmF;rw[`ai q0,`ai q1]]
   refine `acK
   by_cases q3:35<k
   ·have e:`aNu=`a (`pt):=by
     rw[p6 (x:=`cV) (y:=`cV) rfl (by
      rw[m5 (ds:=[`dr]) (`U (by
       show `aNv;rw[`q5]) rfl)]
      rfl)]
     rfl
    rw[k90 (d:=`s_) (l:=`c) (h:=`a 2) rfl rfl (bi0 e)];rw[`N q3];exact Wy0 _ 2 `h `Ns `Ns
   ·have e:`aNu=`a (`cV):=by
     rw[p6 (x:=`cV) (y:=`fF) rfl (by
      rw[m5 (ds:=[`Dc]) (`U (by
       show `aNv;rw[`dM]) rfl)]
      rfl)]
     rfl
    rw[k90 (d:=`s_) (l:=`c) (h:=`a 1) rfl rfl (bi0 e)];rw[`ai q3];exact Wy0 _ 1 `h `Ns `Ns
theorem code_inj(N:Int)(i j:Nat)(hi:i<72)(hj:j<72)(e:code N i=code N j):i=j:=by
 unfold code at e;injection e with e1 e2
 injection e2 with e2 _
 have e1:=cy0 _ _ `h `h `h `h e1;have e2:=cy0 _ _ `h `h `h `h e2;omega
theorem kv0(N:Int)(k:Nat):∀c∈`pG,`BP:=λc hc=>by
 unfold code at hc;rcases `bZ hc with rfl|hc
 ·exact `acL
 ·rw[`fC hc];exact `acL
theorem to0(N:Int)(k:Nat):(`pG).length=2:=rfl
theorem Or0(N:Int)(w:`k)(hw:`Nr)(a:Nat)(ha:a<7)(k:Nat):0<`aNw/\`aNw<=8:=by
 unfold nmF;split
 ·rw[`Z,`dJ,to0];omega
 ·split
  ·rw[`Z,`dJ,to0];omega
  ·rw[`dJ,to0];split<;>omega
theorem O80(N:Int)(w:`k)(hm:∀c∈w,`BP)(a k:Nat):∀c∈`sZ,`BP:=λc hc=>by
 unfold nmF at hc;split at hc
 ·rcases `dl hc with q|q
  ·exact `aNx
  ·exact `aNy
 ·split at hc
  ·rcases `dl hc with q|q
   ·exact `aNx
   ·exact `aNy
  ·exact kv0 N k c (Ap0 hc)
theorem Pl0(N:Int)(w:`k)(hw:`Nr)(a:Nat)(ha:a<7)(i j:Nat)(hi:i<53)(hj:j<53)(e:nmF N w a i=nmF N w a j):i=j:=by
 unfold nmF at e;split at e
 ·exact code_inj N i j `h `h (List.append_cancel_left e)
 ·split at e
  ·have:=`aNz
   simp only[`Z,`dJ,to0] at this;have e2:=(List.append_inj e (by rw[`dJ,`dJ];omega)).2;exact code_inj N i j `h `h e2
  ·have hl:=`aNz
   rw[`dJ,`dJ,to0,to0] at hl;have h1:∀k,(`acE)[0]?=`a (`TR):=λk=>by
    rw[List.getElem?_take,`N (`acM)];rfl
   have e0:=h1 i;rw[e,h1 j] at e0;have e0:=A3 e0;have e0:=cy0 _ _ `h `h `h `h e0
   by_cases q1:35<i<;>by_cases q2:35<j<;>simp only[q1,q2,`fW,`cU] at hl<;>omega
theorem Sr0(N:Int)(n:Nat)(hn:n<=53):∃nm,xr0 [`GH,`jg]=`a (`BE)/\PoolB n nm:=by
 have z:`c0:=`X
 obtain⟨δ',l1,w,s4,rfl,hw,hm⟩:=tu0 (f:=gN 4) (G:=NB1) (λi δ=>∃(w:`k) (s4:Sl),δ=[`ex,`bW,`jI,`m9,s4,.un,.un,.un,.un]/\`d'=i/\∀x∈w,x∈`Gv) (J6 0 8) 0
  [`ex,`bW,`jI,.sh (`aNA),.un,.un,.un,.un,.un] (by
   rintro j d δ hj ⟨w,s4,rfl,hl,hx⟩;obtain⟨J,rfl⟩:=Yh0 hj;have J:j<8:=J;obtain⟨q,hq⟩:∃q:Int,q=N/`acN%36:=`ae;have jj:0<=`yk/\`yk<=49:=by
    have:j=0∨j=1∨j=2∨j=3∨j=4∨j=5∨j=6∨j=7:=`C
    rcases `A with rfl|rfl|rfl|rfl|rfl|rfl|rfl|rfl<;>decide
   refine⟨_,[`ex,`bW,`jI,.sh (`aNB),`im,.un,.un,.un,.un],rfl,?_,w++[cg q],_,rfl,`acz,λx M=>?_⟩
   ·refine u9 (X3 (d:=`aNB) ?_) rfl
    rw[p6 (x:=`amX) (y:=`s (`az [cg q])) rfl (by
     rw[p6 (x:=`sX) (y:=`d q) rfl (by
      rw[p6 (x:=`d (N/`acN)) (y:=`F8) (by
       rw[p6 (x:=`GH) (y:=`d `acN) rfl (by
        rw[p6 (x:=`aNg) (y:=`d 3) (by rw[p6 (x:=`eX) (y:=`eX) rfl rfl];exact `Nk) rfl];rfl)]
       exact Gw.Mm0 _ _ `h) rfl]
      rw[hq];exact `Vq _ _ `p)]
     exact `acH)]
    exact `acI
   ·rcases `dl M with q'|q'
    ·exact hx x q'
    ·rw[`fC q'];exact `acL) ⟨[],_,rfl,rfl,λx hx=>by cases hx⟩
 have hw:`Nr:=hw;obtain⟨a,ha⟩:∃a:Nat,`Ej=N/3%7:=⟨(N/3%7).toNat,`C⟩;obtain⟨U,m1,s7,s8,rfl⟩:=tu0 (f:=gN 7) (G:=NB2) (λi δ=>∃(s7 s8:Sl),δ=[`ex,`bW,`jI,`m9,s4,`pI,.ow (`l (((`bl i).map `acO).map `s)),s7,s8]) (`BW) 0
  `aNC (by
   rintro j d δ hj ⟨s7,s8,rfl⟩;obtain⟨J,rfl⟩:=Yh0 hj;rw[`bo] at J;refine⟨_,_,rfl,Mj0 N w hw a `h j `h ((`bl (0+j)).map `acO) `j8 _ _ _,`im,.sh (`s (`az (code N j))),?_⟩;rw[`jW,`acP,`aN,`aN,`aN];rfl) ⟨_,_,rfl⟩
 rw[tn0,`bo,`jW] at m1;refine⟨`TO `acO,S6 rfl (u9 (X3 (d:=`sX) rfl) (u9 (X3 (d:=`aNA) rfl) (u9 (wi0 (items:=J6 0 8) rfl l1) (u9 (X3 (d:=`GJ) (by rw[ha];rfl)) (u9 (δ':=`aNC) rfl (u9 (wi0 (items:=`BW) `aND m1) `tp)))))),?_,`aNE,?_⟩
 ·simp
 ·obtain⟨k,hk,rfl⟩:=`acQ
  obtain⟨h1,h2⟩:=Or0 N w hw a `h k;exact U70 _ h1 h2 (O80 N w hm a k)
 ·refine `Ux (`Uy (Aq0 ?_ (Dl0 (n:=n))))
  intro i j hi hj O e;have hi:=`E? hi;have hj:=`vf;exact O (Pl0 N w hw a `h i j `h `h (Uf0 e))
universe Bt
namespace Bt
open DL W
open Gw (Gd Vk)
theorem R20:∀c∈`iT,`act:=`aP
theorem Ne0(z:Int)(sm:`aa):∃n:Nat,n<=12/\∀(p:`e) (k:Int) (cs:`_) (m:Int) (pool:`g),
  d7 (ifD `M6
 (v7 `M7
 t6)
 t6) [`BR,`cD,`GM,.un,.un,.un,.un]=`a (.nx [`BR,`cD,`bW,.un,.un,.un,.un]):=by
 cases sm with
 | true =>
  refine⟨`aNF,`C,`aNG⟩;rw[`p1,show ((`aNF:Nat):Int)=z/4%4 by omega];rfl
 | false =>
  have ix:∀(s0:Sl) (t:Nat) (r:Int),`Nt=`m'->([`GN,`GN,z/4%13]:`_)[t]?=`gl->`aNH:=λs0 t r ht hr=>by
   have hl:t<3:=by
    have:=(`cL hr).1
    simpa using `A
   rw[p6 (x:=`l (`aNI `d)) (y:=`Vt) `TK (by rw[← ht];rfl)];show atI (`aNI `aX) `m'=_;rw[xw0 `h `j8 `u,`bo,`bg,`ca,hr];rfl
  have J:∀r:Int,(∀s0:Sl,`aNH)->0<=r->r<=12->∃n:Nat,n<=12/\∀(p:`e) (k:Int) (cs:`_) (m:Int) (pool:`g),
   d7 (ifD `M6
 (v7 `M7
 t6)
 t6) [`aNJ,`cD,`GM,.un,.un,.un,.un]=`a (.nx [`aNJ,`cD,`bW,.un,.un,.un,.un]):=λr h h0 h1=>by
   refine⟨r.toNat,`C,`aNG⟩;rw[`hE,show ((r.toNat:Nat):Int)=r by omega];exact u9 (X3 (h _)) rfl
  have:`Nt=0∨`Nt=1∨`Nt=2:=`C
  rcases `A with q|q|q
  ·exact J _ (λs0=>ix s0 0 _ q rfl) `h `h
  ·exact J _ (λs0=>ix s0 1 _ q rfl) `h `h
  ·exact J _ (λs0=>ix s0 2 _ q rfl) `h `h
theorem N30{δ:Ds}{p:`e}{k:Int}{cs:`_}{sm:`aa}{m:Int}{items vs:`j}{gi:GA}{f:`aM}{k':Int}(h0:δ[0]?=`a (`BR))(hi:`Kw)(hl:`qy)
  (hc:`aNK) (j:Nat) :
  jj0 j (wy0 1 [0] 0 1 gi `bD `TU) δ=`a (.nx ((`a0 0 `aNL).set j (`lm))):=by
 unfold jj0 wy0;rw[h0];show `f1 _ (`uw _)=_;rw[hi,`f,`ki];have e:ze0 1 [0] δ=`pJ:=by
  show`BY++[lw0 δ[0]?]=_;rw[h0];rfl
 rw[e];show `f1 _ ((`TV).bind _)=_;rw[hc];rfl
theorem Nq0{ga:GE}{δ:Ds}{d r:D}(h:`c9=`bd)(hf:`nY)(hx:`eW=`aNM):by0 ga gx δ=`a (`t [d,r],δ'):=by
 unfold by0;rw[h,`f,`uN,hx];rfl
theorem k60{np:Nat}(hp:`aNN)(i:Int)(h0:`gg)(h1:i<np):ixD (`BE) `ej=`a (`s (`acR))/\`acR∈nm:=by
 have hl:=hp.len;have J:`eo<`c?:=`C
 refine`Kn
 ·show atI (`FU `fK) i=_
  rw[xw0 h0 `iw `u];simp[`bg,J]
 ·rw[show `acR=nm[i.toNat] by simp[`bg,J]]
  exact L3 J
theorem getD_inj{np:Nat}(hp:`aNN)(hi:i<np)(hj:j<np)(e:`aNO=`aNP):i=j:=by
 have hl:=hp.len;have h1:i<`c?:=`C
 have h2:j<`c?:=`C
 rw[show `aNO=nm[i] by simp[`bg,h1],show `aNP=nm[j] by simp[`bg,h2]] at e;exact(x8 hp.nd).mp e
theorem Sy0{np:Nat}(hnp:`Nu)(P:`acS)(z:Int)(st:Nat)(h1:1<=st)(h2:st<np)(m:Int)(vs:`j)(hl:`bS<=12)(hv:∀v∈vs,`vc):∃ps:`bN,`acd/\(∀p∈ps,p.1∈`aB)/\`hj=vs /\
  ∀(s0 s2 s6:Sl),oA `alx zo0 [s0,`cD,s2,`lm,`yq,`GU,s6]=`a (`GV):=by
 have z1:`c0:=`X
 have U:=P.len;obtain⟨ix,O⟩:∃ix:`eJ,ix=λ(j:Nat)=>(`aNQ).toNat:=`ae
 have M:∀j,`acT=`aNQ:=λj=>by
  rw[O];have:=D0 (`GP) `aNR;show (((_:Int).toNat:Nat):Int)=_;omega
 have J:∀j,ix j<np:=λj=>by
  have:=E2 (`GP) (show `hd<np by omega);have:=M j;omega
 refine⟨`aNS,⟨by simp;exact hl,`fU,`fU,?_⟩,`fU,?_,λs0 s2 s6=>?_⟩
 ·obtain⟨j,hj,rfl⟩:=`BZ
  exact P.names _ (`acU).2
 ·obtain⟨j,hj,rfl⟩:=`BZ
  have hj:=`vf;refine(hv _ ?_).ok;rw[show `yp=vs[j] by simp[`bg,hj]];exact L3 hj
 ·rw[`bM]
  refine `Ux (`Uy (Aq0 ?_ (Dl0 (n:=`bS))));intro i j hi hj Y e;have hi:=`E? hi;have hj:=`vf;have e:=getD_inj P (J i) (J j) e;have e:((ix i:Nat):Int)=`acT:=`acV
  rw[M,M] at e;exact Y (unlike np hnp (`TY) st h1 h2 i j `h `h e)
 ·obtain⟨j,hj,rfl⟩:=`BZ
  exact(`acU).2
 ·rw[`bM]
  refine v0 `aw λi h1 h2=>?_
  have hi:i<`bS:=`rh
  simp[`bg,hi]
 ·rw[m5 (ds:=[`l ((`aNS).map pr)]) (`U (xv0 (items:=xi0 vs) (by
   show `gt (`a [`eY vs]) bq0=_;rfl) (by unfold xi0;rw[`F,`gL];omega) (by
   rw[vh0 (λd=>match d with|`t [`fr,v]=>pr (`GQ (ix `hS) "",v)|_=>`u) (λd hd=>by
    unfold xi0 at hd;obtain⟨j,hj,rfl⟩:=`c1;have hj:=`vf;refine⟨[`im,.sh (`yp),`cD,`yq,`GU],rfl,rfl,?_⟩;refine J2 (`U (d:=`s (`amZ)) ?_ (`U (d:=`yp) rfl rfl)) `s2;rw[p6 (x:=`s1) (y:=`d `acT) rfl (by
     rw[M];refine yn0 (i:=`GP) (j:=`m!) ?_ ?_ `h
     ·rw[p6 (x:=`d (`TY)) (y:=`d (`bV*`GO)) rfl (by rw[p6 (x:=`eX) (y:=`TX) rfl rfl];exact `Nk)]
      rfl
     ·show `acW
      rw[`F,U])]
    exact(`acU).1)]
   unfold xi0;rw[`bM,`bM];refine C1 `a (c6 `AL);show pr (`GQ (ix (`bV).toNat) "",`yp)=_;rw[`bo];rfl)) rfl)]
  rfl
theorem Oi0(k:Int)(h0:`iO)(hk:k<900000)(cs:`_)(hc:`q3)(sm:`aa)(m:Int)(hm:1<=m)(np:Nat)(hnp:`Nu)(pool:`g)(P:`acS):`aNT:=by
 have z1:`c0:=`X
 have Y:=P.len;obtain⟨z,hz,hn⟩:=fe0 k h0 `h cs hc sm m `aB;obtain⟨n,b3,b2⟩:=Ne0 z sm;have fin:∀(q:Pt) (k':Int),k<=k'->`am_->Gd q m `aB->(∀p:`e,∃δ',u00 `aNU=`a (.rt q.d δ')/\δ'[0]?=`a `aNL)->`aNT:=λq k' a1 a2 a3 a4=>⟨q,k',a1,a2,a3,T3 rfl a4⟩
 have head:∀(p:`e) (G:GSB) (r:`l_),G `acX=r->(p8 `abx
 (p8 `aKD
 (p8 (d7 (ifD `M6
 (v7 `M7
 t6)
 t6)) G))) `aNU=r:=λp G r h=>by
  refine m7 (δ':=[`pD,`cD,.un,.un,.un,.un,.un]) (`aM4) ?_;refine m7 (δ':=[`pD,`cD,`GM,.un,.un,.un,.un]) `acY ?_;exact m7 (b2 p _ _ _ _) h
 have c4:∀(s0 s2 s3 s4 s5 s6:Sl) (j:Int),ob `aNV [s0,`cD,s2,s3,s4,s5,s6]=`a (`w (z%4=j)):=λ_ _ _ _ _ _ j=>`yi
 by_cases q0:z%4=0
 ·obtain⟨l,hl,a6,hw⟩:=Og0 `eS `h `h cs hc sm m `aB `acZ `h
  refine fin (.text `ye) (k+1+1) `h `h ⟨Gw.Vc0 l `h λc hc=>R20 c (a6 c hc),`acy,λs hs=>by cases hs⟩ λp=>⟨[.ow (v8 p (bk (k+1+1) cs sm m `aB)),`cD,`bW,.un,.un,.un,.un],head p _ _ `l6,rfl⟩
  rw[yi0 (by rw[c4,`acw])];refine W9 (T8 (Nq0 (d:=`lh) rfl rfl (r00 (p:=p) (b:=`pC) (ds:=[`d (`acZ:Int)]) rfl (`U (by
   show `a (`aX (`T_))=_;rw[show ((`acZ:Nat):Int)=`T_ by omega]) rfl) hw)))
 obtain⟨vs,a7,hv,U⟩:=Xa0 cs hc sm m hm `aB (`BW) `eS `h (`Nv);have rl:(`BW).length=n:=`Nv
 rw[rl] at a7 U;have J:∀(p:`e) (Ga G:GSB) (r:`l_),G `Nw=r->p8 (ifB `aKE Ga `G) (p8 `aKF G) `acX=r:=λp Ga G r h=>by
  refine m7 (δ':=`acX) (by rw[J7 (by rw[c4,`acx])];rfl) ?_;exact m7 (W5 (N30 (p:=p) rfl `aND `aNW U 3)) h
 by_cases q1:z%4=1
 ·refine fin (`n7) `GR `h `h ⟨⟨`C,λv h=>(hv v h).ok⟩,hv,λs hs=>by cases hs⟩ λp=>⟨`Nw,head p _ _ (J p _ _ _ `l6),rfl⟩
  rw[yi0 (by rw[c4,`bF q1])];exact `G5
 obtain⟨st,b1⟩:∃st:Nat,`GO=1+`ac_:=⟨(1+`ac_).toNat,by have:=`aNX;omega⟩;have a5:1<=st/\st<np:=by
  have a1:=`aNX;have a2:=E2 (z/156) (show `hd<`GT by omega);omega
 obtain⟨ps,pk,pin,a8,b0⟩:=Sy0 hnp P z st a5.1 a5.2 m vs `h hv;have M:∀(p:`e) (Ga G:GSB) (r:`l_),G `Nx=r->(p8 (ifB `abz Ga `G)
 (p8 `aKG
 (p8 `aKH
 (p8 `aKI G)))) `Nw=r:=λp Ga G r h=>by
  refine m7 (δ':=`Nw) (by rw[J7 (by rw[c4,`b6 q1])];rfl) ?_;refine m7 (δ':=[`GS,`cD,`bW,`lm,`yq,.un,.un]) (W5 (X3 (d:=`s1) `fJ)) ?_;refine m7 (δ':=[`GS,`cD,`bW,`lm,`yq,`GU,.un]) (W5 (X3 (d:=`TX) ?_)) ?_
  ·rw[p6 (x:=`cV) (y:=`d (`ac_)) rfl (yn0 (i:=z/156) (j:=`GT) rfl (by
    rw[p6 (x:=`ac0) (y:=`cV) (by
     show `acW;rw[`F,Y]) rfl]
    rfl) `h),b1]
   rfl
  ·exact m7 (W5 (X3 (b0 _ _ _))) h
 have Z:∀v∈`hj,`vc:=λv h=>hv v (a8▸h)
 have O:∀s∈`gs,`q6:=λs h=>by
  obtain⟨p,hp,rfl⟩:=`ds h;exact pin p hp
 by_cases q2:z%4=2
 ·refine fin (`l4) `GR `h `h ⟨pk,Z,λs hs=>O s (by simpa [Pt.all,Pt.cls,Pt.pnames] using hs)⟩ λp=>⟨`Nx,head p _ _ (J p _ _ _ (M p _ _ _ `l6)),rfl⟩
  rw[yi0 (by rw[c4,`bF q2])];exact W9 (T8 (K3 `UD))
 ·have i0:=D0 (`GW) `aNR
  have i1:=E2 (`GW) (show `hd<`m! by omega);obtain⟨e1,e2⟩:=k60 P (`T0) i0 i1;refine fin (`m6 `aNY ps) `GR `h `h ⟨⟨P.names _ e2,pk⟩,Z,`aNE⟩ λp=>⟨`Nx,head p _ _ (J p _ _ _ (M p _ _ _ (m7 (δ':=`Nx) (by rw[J7 (by rw[c4,`b6 q2])];rfl) (`No)))),rfl⟩
  ·rcases `dl hs with q|q
   ·exact O s q
   ·rw[`u6];exact e2
  ·refine J2 (`U rfl (`U (d:=`s `aNY) ?_ `io)) `aNZ
   rw[p6 (x:=`s1) (y:=`d (`T0)) rfl (yn0 (i:=`GW) (j:=`m!) rfl (by
    show `acW;rw[`F,Y]) `h)]
   exact e1
theorem b50(cs:`_)(hc:`q3)(sm:`aa)(m:Int)(hm:1<=m)(np:Nat)(hnp:`Nu)(pool:`g)(P:`acS):∀(items:`j) (k:Int),`iO->k+14*`cx<900000 ->
  ∃(ps:`bv) (k':Int),`ax=`cx/\(∀p∈ps,`TZ)/\zw0 `bD `abA 1 `pJ `aQ `ij=`a (`T1,`yn)
 | [],k,_,_=>⟨[],k,rfl,`acy,rfl⟩
 | `as,k,h0,hk=>by
  simp only[`V] at hk;obtain⟨p,k1,a1,a2,hp,e⟩:=Oi0 k h0 `h cs hc sm m hm np hnp `aB P;obtain⟨ps,k2,hl,J,ih⟩:=b50 cs hc sm m hm np hnp `aB P ds k1 `h `h;refine⟨`ko,k2,`acz,`nS,?_⟩
  ·rcases `qt with rfl|hx
   ·exact hp
   ·exact J x hx
  ·have c:O5 1 v5 M7 `TN=`a (p.d,[`fx,.ow `aN_]):=`aM7
   unfold zw0;rw[`aM8,`f,c];show ((zw0 `bD `abA 1 `pJ ds `aN_).map λq=>(p.d::q.1,q.2))=_;rw[ih];rfl
theorem Tt0(xs:`j)(k:Nat):`pa xs (`a `bU) `c=`om k:=by
 unfold cutD sIx;simp only[];rw[`Ny,`bo]
 by_cases q:k<=`am
 ·rw[`ac1 q,`aN0]
 ·rw[`ac2,`am1 `bj,`aN1,`aN2]
theorem comp_own{δ:Ds}{k:Int}{cs:`_}{sm:`aa}{m:Int}{items vs:`j}{gi:GA}{f:`aM}{k':Int}(h0:`cj=`a (`TM))(hi:`Kw)(hl:`qy)
  (hc:`aNK) :
  wy0 1 [i] i 1 gi `bD `TU δ=`a (`sD,`a0 i (.ow (`yn))):=by
 unfold wy0;rw[h0];show (`uw _)=_;rw[hi,`f,`ki];have e:ze0 1 [i] δ=`pJ:=by
  show`BY++[lw0 `cj]=_;rw[h0];rfl
 rw[e];show ((`TV).bind _)=_;rw[hc];rfl
theorem N20{δ:Ds}{d:D}(h:`acj):jk0 gx δ=`sc:=by unfold jk0;rw[h];rfl
theorem O60{f:`J}{δ:Ds}{d r:D}(h:`acj)(hf:f [d]=`gl):bp0 f gx δ=`aNM:=by
 unfold bp0;rw[h,`f];show (f [d]).map _=_;rw[hf];rfl
noncomputable def bk3(cs:`_)(sm:`aa):D:=`cy (`o [`ack,`acl,`acm]) [`fF,`m8,`q2]
noncomputable def bk4(cs:`_)(sm:`aa)(m:Int):D:=`cy (`o [`ack,`acl,`acm,`n `Tg]) [`fF,`m8,`q2,`d m]
theorem cj0(ns:`_)(hl:`eP<=1000)(s:Nat)(hs:s<=1000):∃(ps:`bv) (pool:`g),1<=`ax/\`ac3/\`ac4<=53/\(∀p∈ps,`ac5)/\zd0 `ac6=`a (`aN3):=by
 have z1:(5000:Nat)<=`L:=`X
 obtain⟨f,hf⟩:∃z,U9 `ac6=`Nl:=Gw.Xc0 ns `pE `h;obtain⟨cs,O⟩:∃cs,cs=`aN4++[f]:=`ae;have cne:`q3:=by rw[O];simp
 obtain⟨sm,a3⟩:∃sm:`aa,sm=`w (f/8%8=3):=`ae;obtain⟨np,a2,Z⟩:∃np:Nat,(`Nu)/\∀δ:Ds,`aN5->o2 `aKN `aKO ixD δ=`a (`ac0):=by
  have ix:∀δ:Ds,`aN5->o2 `alG `c! o5 δ=`a (`d (f/5%2)):=fun δ h=>yn0 (i:=f/5) (j:=2) (by rw[p6 h rfl];rfl) rfl `p
  have:f/5%2=0∨f/5%2=1:=`C
  rcases `A with q|q
  ·exact⟨13,`bQ,fun δ h=>by rw[p6 (x:=`aN6) (y:=`fF) rfl `aN7];rfl⟩
  ·exact⟨53,`b',fun δ h=>by rw[p6 (x:=`aN6) (y:=`cV) rfl `aN7];rfl⟩
 obtain⟨pool,M,P⟩:=Sr0 (f/11%(`ac7)) np `h;obtain⟨m,U,a4⟩:∃m:Nat,`kR=(`aN8)/\1<=m/\m<=60:=⟨(`aN8).toNat,`acM,`acM⟩;obtain⟨ps,k',Y,a1,J⟩:=b50 cs cne sm `kR `h np a2 `aB P (`aN9) 0 `h (`Nv);have rl:(`aN9).length=m:=`Nv
 rw[rl] at Y;refine⟨ps,`aB,`C,`C,by have:=P.len;omega,λp hp=>by rw[Y];exact a1 p hp,Y0 rfl ?_⟩;refine u9 (δ':=`B_) (X3 (d:=`d f) (by rw[m5 (ds:=`ac6) rfl];exact hf)) ?_;refine u9 (δ':=[`s4,`yt,`yu,.ow `aN']) ?_ ?_
 ·have e1:o2 `alB `alC m8 `B_=`aMJ:=by
   rw[p6 (x:=`l ((`aN4).map `d)) (y:=`l [`d f]) (by
    rw[k90 (d:=`ll) (l:=`aN!) (h:=`c) rfl rfl rfl];show `a (`eY (`pa `acs (`aN!) `c))=_;rw[Tt0,List.map_drop]) rfl]
   simp only[m8];rw[`N (by rw[`F,`jJ];simp only[`V,`gr];omega),O,`aN];rfl
  have e2:o2 `alD `fH eqD `B_=`a (`q2):=by rw[a3];rfl
  have e3:jt0 `aKL `B_=`a `aN':=by
   unfold jt0;rw[show ua0 `id `bn `alF `B_=`a [(`g!,`fF),(`alc,`m8),(`aln,`q2)] from by
    unfold ua0;rw[e1,e2];rfl]
   kernel_rfl
  unfold Q3;rw[e3];rfl
 refine u9 (δ':=[`s4,`yt,`yu,.ow (bk4 cs sm (1+f%8))]) `fJ ?_;refine u9 (δ':=`aN?) ?_ ?_
 ·cases sm with
  | true =>
   rw[U,`bm,`hE];kernel_rfl
  | false =>
   rw[U,`eE,`p1];rfl
 refine u9 (δ':=[`s4,`yt,`yu,.ow (bk 0 cs sm `kR `aB)]) ?_ `il
 ·refine jn0 (d:=`s1) (δ1:=`aN?) (K3 ?_) `fJ
  rw[m5 (ds:=[`d (f/11%(`ac7)),`ac0]) (`U (yn0 (i:=f/11) (j:=`ac7) rfl `fJ `p) (`U (Z _ rfl) rfl))];exact M
 ·exact N20 (O60 (d:=`ao6) (comp_own (k:=0) rfl (o40 (`U (d:=`Up) `fJ rfl) `h `h) `aNW J) rfl)
universe Bt
namespace Rk
open DL W Rm
open Bt (T3 m7 W9 W5 yi0 J7 T8 K3 Z6)
noncomputable def kindS:Nat->Str
 | 0 => `Gc
 | 1 => `Gd
 | 2 => `Ge
 | _ => `sN
noncomputable def b8:`bE->Str
 | `td => `Tu
 | `d9 => `Gm
 | `jM => `m5
 | `m7 => `sT
 | .cls => "class"
 | `b1 => "end"
noncomputable def W3(S:RS)(k:Nat):D:=`t [`s (`pQ `aOa),`UG]
noncomputable def inst(S:RS):D:=`t [`s `D,`l [`s `x!,`s `jF,`s `sV,`s `pA,`s `sU,`s `lk,`s `hb,`s `m3],
 `l [`d (`pX:Int),Q5 1,Q5 2,Q5 3,Q5 4,`T5,`GZ,`s8]]
noncomputable def nodes(S:RS):`j:=`f2::`B0::`ac8::`yD::`Uc::`na λp=>`l p.2
noncomputable def R(S:RS):D:=`t (`sK::`GY)
theorem Pz0:zx0 (V70 `D) []=`a (`u,R `mk) :=
 ik0 rfl λp=>`n ⟨rfl,[.ow (v8 p (R `mk))],`cC,rfl⟩
section
variable(p:`e)(S:RS)(δ:Ds)
theorem y00:dpN 0 `aO=`a `yA:=rfl
theorem Ye0:j4 0 `D `jF `ew `aO=`aOb:=`cC
theorem p20:j4 0 `D `sV `ew `aO=`aOc:=`cC
theorem li0:j4 0 `D `pA `ew `aO=`a (Q5 3):=`cC
theorem sf0:j4 0 `D `sU `ew `aO=`a (Q5 4):=`cC
theorem R90:j4 0 `D `lk `ew `aO=`aOd:=`cC
theorem Qm0:j4 0 `D `hb `ew `aO=`aOe:=`cC
theorem Vw0:j4 0 `D `m3 `ew `aO=`aOf:=`cC
theorem kn0:zg0 0 `jH `aO=`a (`ac9):=by
 unfold zg0;rw[sf0,`f,y00];show `a (`aX (`ac':Int))=_;rw[`F,`ip]
theorem p50:zg0 0 `pz `aO=`a (`Nz):=by
 unfold zg0;rw[Ye0,`f,y00];show `a (`aX ((`s6).length:Int))=_;rw[`F,`gL]
theorem Zc0:zg0 0 `ih `aO=`a (`aOg):=by
 unfold zg0;rw[p20,`f,y00];show `a (`aX ((`m?).length:Int))=_;rw[`F,`ip]
theorem la0:zg0 0 `m4 `aO=`a (`NA):=by
 unfold zg0;rw[li0,`f,y00];show `a (`aX (`aOh:Int))=_;rw[`F]
universe zz
theorem ax0(S:RS):R8 `bJ []=`a (.bl (`w (`NB)),R S):=T3 rfl λp=>⟨`f3,show tf0 `f3=_ from W9 (T8 (K3 (by
 rw[p6 (x:=`ac9) (y:=`fF) (kn0 p S []) rfl];show `a (`a2 (`w (`T6=0)))=_;congr 2
 by_cases h:`NB
 ·rw[`ir,`bF (by rw[h];rfl)]
 ·rw[`iF,`b6 (λz=>h (Dm0 `h))]))),rfl⟩
theorem yy0(k:Nat):vx0 (Q5 k)=`fz:=by
 unfold Q5 vx0;exact w90 k
theorem nk0{es:`j}{k:Nat}{z:Int}(h:`h!=`kr):lq0 ns (Q5 k) `ic=atI es z:=by
 unfold lq0 Q5;simp only[w90,h]
theorem item_tup{z:Int}(h:`jk=`c):lq0 ns `r2 `ic=atI ds z:=by
 unfold lq0;simp only[h]
structure Ok(S:RS):Prop where
 un:∀k∈`cB,`vg
 few:`NC
 held:∀p∈`fN,p.2.length<=1000
 wait:`he<=100000
 names:`ac!
theorem th0(p:`e)(S S':RS)(δ:Ds)(k:Nat)(n:D)(h:`ac? k n=`yw S'):`eI 0 k n `aO=`pW::δ:=by
 show Sl.ow (`t [`d `pF,`t (`sK::`ac? k n)])::δ=_;rw[h];rfl
theorem Xp0{S:RS}(h:∀k:Nat,(S'.begun.getD k `pL).1=`aOa):W3 S'=W3 S:=by
 funext k
 unfold W3;rw[h]
noncomputable def put(S:RS)(k:Nat)(d:D):RS:={ S with begun:=`q1 }
theorem Q80(S:RS)(k:Nat)(d:D)(j:Nat):((`T8).begun.getD j `pL).1=(`am2 j `pL).1:=by
 show ((`q1).getD j `pL).1=_;rw[`bg,`bg,`n9];cases `fN[j]? with
 | none=>rfl
 | some a =>
  by_cases q:k=j
  ·simp[q]
  ·simp[q]
theorem Ut0(S:RS)(k:Nat)(d:D)(q:`hc)(hk:`jP):`ac? (k+5) `anb=`yw `s':=by
 show `f2::`B0::`ac8::`yD::`Uc::`aOi=_;have e1:`aOi=(`q1).map `ana:=by
  apply Dn0;intro i;rw[`ca,`n9,List.getElem?_set,`ca,`F]
  by_cases z:k=i
  ·subst z
   have hl:=`aOj;rw[`bm,`ki,hk];simp
  ·rw[`iX]
   simp[z]
 rw[e1,← Xp0 (Q80 S k d)];show _=inst `s'::`l ((`bl (`q1).length).map (W3 `s'))::_;rw[`q7];rfl
theorem Kz0(p:`e)(S:RS)(δ:Ds)(k:Nat)(u:`k)(h:`hh):K5 0 `Tv `aC `aO=`a (`UG):=by
 have e1:K5 0 `ih `ie `aO=`a (`yM):=by
  unfold K5;rw[p20,`f,`aOk,`f,y00,`f];rw[`aOl];rw[h,`eG,`aN];exact `ada
 unfold K5 at e1 ⊢;rw[e1,`f,show gc (`cV) (`pO::δ)=`a (`cV) from rfl,`f,y00,`f];unfold W3;rw[item_tup rfl];rfl
theorem Vg0{G:GSB}{b:D}(hl:`u0)(h:∀p,∃δ',G `pl=`d4/\`Mq):`SL=`a (`u,b'):=ik0 hl λp=>`n ⟨rfl,h p⟩
noncomputable def wj0(S:RS):RS:={ S with wait:=`l5 }
noncomputable def Zz0(S:RS):RS:={ S with digits:=0 }
theorem Nx0(S:RS)(d:D):`jL=Zz0 (wj0 (match `cB with|[]=>S|k::_=>`T8)):=by
 obtain⟨c,b,u,n,w,dg,l,sp⟩:=S;cases u<;>rfl
theorem co0(p:`e)(S:RS)(δ:Ds)(h:`n'):popS 0 `jH `aO=`a (.nx (.ow (v8 p (R `vh))::δ)):=by
 unfold popS;rw[sf0,`f,y00,`f,yy0,`f];show (if (`s9)=[] then `c else `a (`B1 (`eI 0 4 (`l (`s9).dropLast) _)))=_;rw[`ai `hk,th0 p S `vh];cases e:`dv with
 | nil=>exact `I e h
 | cons w ws =>
  show `f2::`B0::`ac8::`yD::`l ((`s!).reverse.map `pM).dropLast::`na _=inst `vh::`l (`am4 (W3 `vh))::`l (`am5 (W3 `vh))::`yD::`l (S.wait.tail.reverse.map `pM)::`na _;rw[e,`eG,`aN,`B2,`ND];rfl
theorem il0(p:`e)(S:RS)(δ:Ds)(g:GE)(z:Int)(hg:`vi=`Nl):vw0 0 `D `lk g `aO=`a (.nx (.ow (v8 p (R { S with digits:=z }))::δ)):=by
 unfold vw0;rw[hg,`f];kernel_rfl
theorem Rm0(p:`e)(S:RS)(δ:Ds)(k:Nat)(u:`k)(h:`hh)(hk:`vg)(g:GE)(d:D)(hg:`vi=`bd)(hn:`kq)(hl:∀q∈`fN,`HI<=1000) :
  j6 (rw0 0 `aLK g) `aO=`a (.nx (`aOm::δ)):=by
 have z:`kv:=`X
 have e:`T9=`a S.begun[k]:=C3 hk;have hq:=hl _ (L3 hk);unfold j6 rw0;rw[Kz0 p S δ k u h,`f,hg,`f,y00,`f,yy0,`f];have e2:`anA=`a (`l S.begun[k].2):=by
  show `adb;rw[`ca,e];rfl
 rw[e2];show `f1 _ (if `kq/\S.begun[k].2.length<`L then _ else `c)=_;rw[`N ⟨hn,`C⟩,th0 p S `s' δ _ _ (Ut0 S k d _ e)];rfl
theorem pl0(S:RS)(ok:`fh)(hw:`n')(d:D)(hn:`kq):W0 `bJ [d]=`a (`u,R (`jL)):=by
 refine Vg0 rfl λp=>⟨[`anl,`fx],?_,rfl⟩
 show sm0 `adc=_;have c0:ob `aLJ `adc=`a (`w (0<`hf)):=by
  refine `cs;rw[p6 (x:=`aOg) (y:=`fF) (Zc0 p S _) rfl];show `a (`a2 (`w (`hd<`am!)))=_;congr 2;exact `q8
 have rest:∀S1:RS,`vj=`dv->p8 `aLL (p8 `aLM `G) [`ano,`fx]=`a (.nx [.ow (v8 p (R (Zz0 (wj0 S1)))),`fx]):=λS1 h1=>by
  refine m7 (W5 (co0 p S1 [`fx] (by rw[h1];exact hw))) (m7 (W5 (il0 p (wj0 S1) [`fx] `bn 0 rfl)) rfl)
 rw[Nx0];cases hu:`cB with
 | nil =>
  refine m7 (δ':=`adc) ?_ (`a7 S rfl);rw[J7 `aOn];rfl
 | cons k u =>
  refine m7 (δ':=[`aOm,`fx]) ?_ (`a7 `s' rfl);rw[yi0 `aOn];exact m7 (W5 (Rm0 p S [`fx] k u hu (`aOo) `W d rfl hn `UZ)) rfl
theorem kw0{a b:`bE}:b8 a=b8 b↔a=b:=by
 constructor
 ·intro h
  cases a<;>cases b<;>first|rfl|exact `I h `d7
 ·rintro rfl;rfl
theorem lb0(p:`e)(S:RS)(δ:Ds)(w:`bE)(ws:`aY)(h:`dg):plN (K5 0 `jH `ie) `aO=`add:=by
 unfold plN K5;rw[sf0,`f,`aOk,`f,y00,`f,nk0 (es:=`s9) rfl,h,`eG,`aN];have:atI (ws.reverse.map (`pM)++[w].map `pM) (-1)=`add:=`ada;rw[`A];rfl
theorem gs0(p:`e)(S:RS)(δ:Ds)(w:`bE)(ws:`aY)(h:`dg)(v:`bE):ob (o2 `py `aOp eqD) `aO=`aOq:=by
 refine `cs;rw[p6 (x:=`yv) (y:=`and) (lb0 p S δ w ws h) rfl];show `aOr;congr 2;exact `ade
theorem Lz0(p:`e)(S:RS)(δ:Ds)(k:Nat)(u:`k)(h:`hh):popS 0 `ih `aO=`a (.nx (.ow (v8 p (R `aOs))::δ)):=by
 unfold popS;rw[p20,`f,y00,`f,yy0,`f];show (if (`m?)=[] then `c else `a (`B1 (`eI 0 2 (`aOt) _)))=_;rw[`ai (by rw[h];simp),th0 p S `aOs];show `f2::`B0::`aOt::_=`f2::`B0::`l (u.reverse.map `GX)::_;rw[h,`eG,`aN,`B2,`ND]
noncomputable def ET:GB:=`aLH
noncomputable def EB:GS:=(v7 `Tw
 (v7 (popS 0 `ih)
 t6))
theorem J60(p:`e)(S:RS):ET `f3=`a (`w (S.wait.head?=`a `b1)):=by
 have c0:ob `aml `f3=`a (`w (0<`he)):=by
  refine `cs;rw[p6 (x:=`ac9) (y:=`fF) (kn0 p S _) rfl];show `a (`a2 (`w (`hd<`T6)))=_;congr 2;exact `q8
 unfold ET ww0;rw[c0];cases h:`dv with
 | nil=>rfl
 | cons w ws =>
  show ob _ _=_;rw[show ("end" : Str)=b8 `b1 from rfl,gs0 p S [] w ws h `b1];simp
theorem en0(p:`e):∀(w:`aY) (S:RS) (n:Nat),`dv=w->`d'<n->w.count `b1<=`hf->T5 ET EB n `f3=`a (.nx `aOu)
 | w,S,0,_,h,_=>`I h `aOv
 | w,S,n+1,hw,hn,hc=>by
  unfold T5;rw[J60];cases w with
  | nil =>
   have e:`lo=S:=by
    obtain⟨c,b,u,nm,w,dg,l,sp⟩:=S;have:w=[]:=hw;subst this;rfl
   rw[hw,e];rfl
  | cons v ws =>
   rw[hw]
   by_cases hv:v=`b1
   ·subst hv
    rw[show `w ((`U').head?=`a `T?)=`b from rfl];cases hu:`cB with
    | nil =>
     rw[hu,`aOw] at hc;simp at hc
    | cons k u =>
     have hb:EB `f3=`a (.nx [.ow (v8 p (R `adf))]) :=
      u9 (co0 p S [] (`adg)) (u9 (Lz0 p `vh [] k u hu) rfl)
     simp only[hb];have ih:=en0 p ws `adf n (by show `l5=ws;rw[hw];rfl) (by simp at hn;omega) (by
      rw[hu,`aOw] at hc;show _<=`adh;simp at hc;exact hc)
     rw[ih];have e:(`adf:RS).ends=`lo:=by
      obtain⟨c,b,u',nm,w,dg,l,sp⟩:=S;have h1:w=`iB:=hw;have h2:u'=k::u:=hu;subst h1 h2;rfl
     rw[e]
   ·have e:`lo=S:=by
     obtain⟨c,b,u,nm,w,dg,l,sp⟩:=S;have:w=v::ws:=hw;subst this;cases v<;>first|rfl|exact `aOx
    rw[`b6 `XP,e]
theorem cu0(S:RS)(hl:`vk)(hc:`l7):K9 `bJ []=`a (`u,R `lo) :=
 Vg0 rfl λp=>⟨`aOu,show va0 `f3=_ from m7 (W5 (en0 p `dv S 100000 rfl hl hc)) rfl,rfl⟩
theorem yf0{f:`aM}{gA:GA}{p:`e}{S:RS}{δ:Ds}{r:D}(hA:gA `aO=`jh)(hf:`aOy):V8 0 `D t8 gA f `aO=`a (r,`pW::δ):=by
 have h:`Ub:=`cC
 unfold V8;show `aOz;rw[`co,hA,`f];show `f1 _ (`Ua)=_;rw[hf];rfl
noncomputable def ve0(S:RS)(kd:Nat):RS:={ S with begun:=`G0,un:=`aOA }
theorem jz0(S:RS)(kd:Nat):∀k,`vg->W3 `n! k=`yM:=λk hk=>by
 unfold W3;show `cT [`s (`pQ (`aOB k `pL).1),_]=_;rw[`bg,`hT hk,← `bg]
theorem Uv0(S:RS)(kd:Nat):W3 `n! `dw=`NE:=by
 unfold W3;show `cT [`s (`pQ (`aOB `dw `pL).1),_]=_;rw[`bg,`qX,`l0];rfl
theorem Zq0(S:RS)(kd:Nat)(hu:∀k∈`cB,`vg):`yw `n!=`f2::`l (`s6++[`NE])::`l (`m?++[`NE])::`aOC:=by
 show `f2::`l ((`bl (`G0).length).map (W3 `n!))::`l ((`aOA).reverse.map (W3 `n!))::`bK::`bK::(`G0).map (`anf)=_;rw[`Z,`cn,`acP,`aN,`B2,`eG,`aN,`B2,`aN,Uv0,
  `aOD (g:=W3 S) (λk hk=>jz0 S kd k (`LH)),`aOD (g:=W3 S) (l:=S.un.reverse) (λk hk=>jz0 S kd k (hu k (List.mem_reverse.mp hk)))]
 rfl
theorem R60(p:`e)(S:RS)(kd:Nat)(s2 s3:Sl)(hu:∀k∈`cB,`vg)(h1:`dw<=1000)(h2:`NF) :
  q70 0 3 `W `pz `ih `adi=`a (.nx [.ow (v8 p (R `n!)),`s?,s2,.un]):=by
 have z:`kv:=`X
 obtain⟨dp,M⟩:∃dp:D,dp=`NE:=`ae;have O:(`GY).length=`dw+5:=by
  show (`T').length+5=_;rw[`F]
 obtain⟨L,hL⟩:∃L:`j->`j->`j,L=λb u=>`f2::`l b::`l u::`aOC:=`ae
 obtain⟨N0,J⟩:∃N0:`j->`j->D,N0=λb u=>`t (`sK::L b u):=`ae
 have dN:∀(b u:`j) (δ:Ds),dpN 0 `B3=`a (L b u):=λb u δ=>`adj
 have a0:(ti0 0 `ev `adi).set 3 .un=[.ow (v8 p (N0 (`s6) (`m?))),`s?,s2,.un]:=by rw[J,hL];rfl
 have fb:∀(b u:`j) (δ:Ds),j4 0 `D `jF `ew `B3=`aOb:=`aOE
 have fu:∀(b u:`j) (δ:Ds),j4 0 `D `sV `ew `B3=`aOc:=`aOE
 have a1:∀(b u:`j) (δ:Ds),`GA<`L->so0 0 `pz dp `B3=`a (.ow (v8 p (N0 (b++`pq) u))::δ):=λb u δ hb=>by
  unfold so0;rw[fb,`f,dN,`f,yy0,`f,hL];show (if `GA<`L then `a (`eI 0 1 (`l (b++`pq)) _) else `c)=_;rw[`iR,J,hL];rfl
 have a2:∀(b u:`j) (δ:Ds),`adh<`L->so0 0 `ih dp `B3=`a (.ow (v8 p (N0 b (u++`pq)))::δ):=λb u δ hb=>by
  unfold so0;rw[fu,`f,dN,`f,yy0,`f,hL];show (if `adh<`L then `a (`eI 0 2 (`l (u++`pq)) _) else `c)=_;rw[`iR,J,hL];rfl
 unfold q70;rw[show gv 1 `adi=`a (`nb) from rfl,`f,y00,`f,`N (show `cm (`fK (`pQ kd))=`b from rfl),O,← M,a0,a1 _ _ _ (by rw[`F,`gL];omega),`f,a2 _ _ _ (`aOF)];have e:N0 (`s6++`pq) (`m?++`pq)=R `n!:=by
  rw[J,hL,M];show `cT _=`t (`sK::`yw `n!);rw[Zq0 S kd hu]
 rw[e];rfl
noncomputable def wd(w:`aY):`j:=w.map `am9
theorem Vt0(w:`aY):∀n:Nat,(`aL n (`ta)).flatten=`aOG
 | 0=>rfl
 | n+1=>by
  rw[`ea,`kb,Vt0 w n,`ea,`kb];unfold wd;rw[`aN]
theorem ft0(w:`bE):∀n:Nat,(`aL n [w]).flatten=`aL n w
 | 0=>rfl
 | n+1=>by rw[`ea,`kb,ft0 w n,`ea];rfl
theorem i00(w:`aY)(hw:w≠[])(hl:`d'<=2)(n:Nat)(hn:n<=100):mulL (`l (`ta)) `GF=`a (`l (`aOG)):=by
 show (if `ta≠[]/\0<=`cw/\`cw<`ga/\`adk*`aOH<=`SB then `a (`eY (`aL `aOH (`ta)).flatten) else `c)=_;have h1:`ta≠[]:=by unfold wd;simpa using hw
 have h2:`adk<=2:=by unfold wd;rw[`F];exact hl
 have h3:`adk*n<=2*100:=Nat.mul_le_mul h2 hn;rw[`N ⟨h1,`C,`C,by rw[`bo];omega⟩,`bo,Vt0]
theorem Up0(kd:Nat)(hk:`n?)(n:Nat)(hn:n<=100):vn0 `adl=`a (`aOI):=by
 have z:`c0:=`X
 have c:∀(a b:Str),ob `aOJ [.sh (`g5),`bW]=`aOK:=`aOL
 match kd,hk with
 | 0,_ =>
  refine `n8;show ifD _ _ _ [.sh (`lh),`bW]=_;rw[`vl];refine `lp;rw[p6 (x:=`l (wd [`jM])) (y:=`jg) rfl rfl,i00 [`jM] `aw `aw n hn,ft0];rfl
 | 1,_ =>
  refine Y0 rfl (u9 (δ':=`aOM) (by show ifD _ _ _ `aOM=_;rw[`pS];rfl) `il);rw[`vl];refine `lp;rw[p6 (x:=`l (wd [`d9])) (y:=`jg) rfl rfl,i00 [`d9] `aw `aw n hn,ft0];rfl
 | 2,_ =>
  refine Y0 rfl (u9 (δ':=`adm) (by show ifD _ _ _ `adm=_;rw[`pS];rfl) (u9 (δ':=`adm) `vm `il));rw[`vl];refine `lp;rw[`aON,`aOO];rfl
 | 3,_ =>
  refine Y0 rfl (u9 (δ':=`NG) (by show ifD _ _ _ `NG=_;rw[`pS];rfl) (u9 (δ':=`NG) `vm (u9 (δ':=`NG) `vm `jN)));rw[p6 (x:=`l (wd [.cls])) (y:=`l (wd `acg)) rfl (by
   rw[`aON];exact `aOO)]
  simp only[m8];have hl:`adn=n*2:=`aW
  rw[`N (by unfold wd;rw[`F,`F,hl];simp;omega)];rfl
theorem Px0(kd:Nat)(hk:`n?):u50 [`nb]=`a (`aOP):=by
 match kd,hk with
 | 0,_=>kernel_rfl
 | 1,_=>kernel_rfl
 | 2,_=>kernel_rfl
 | 3,_=>kernel_rfl
noncomputable def await(S:RS)(w:`aY):RS:={ S with wait:=w++`dv }
theorem Rq0(p:`e)(S:RS)(δ:Ds)(w:`bE)(hl:`vk):j6 (rw0 0 `jH (gc `yC)) `aO=`a (.nx (.ow (v8 p (R `aOQ))::δ)):=by
 have z:`aOR:=`X
 unfold j6 rw0;rw[sf0,`f,show gc `yC (`pO::δ)=`add from rfl,`f,y00,`f,yy0,`f];show `f1 _ (if nrf `yC=`b/\`ac'<`L then `a (D.non,`eI 0 4 (`aOS) _) else `c)=_;rw[`N ⟨rfl,`aOF⟩,th0 p S `aOQ]
 ·rfl
 ·show `f2::`bK::`bK::`bK::`aOS::_=`f2::`bK::`bK::`bK::`l ((w::`dv).reverse.map `pM)::_
  rw[`eG,`aN];rfl
theorem Qd0(p:`e)(S:RS)(δ:Ds)(g:GE)(ws:`aY)(hg:`vi=`a (`l `Ue))(hl:`he+`JK<100000):j6 (bw0 0 `jH g) `aO=`a (.nx (.ow (v8 p (R `aOT))::δ)):=by
 have z:`aOR:=`X
 have hf:∀ws:`aY,`aOU:=λws=>by
  refine rb0 ?_;unfold flats wd;rw[`l2];intro d hd;rw[List.mem_reverse] at hd;obtain⟨w,_,rfl⟩:=`c1;rfl
 unfold j6 bw0;rw[sf0,`f,hg,`f,y00,`f,yy0,`f];show `f1 _ (if `aOU/\`ac'+(wd ws).reverse.length<=`L then `a (D.non,`eI 0 4 (`aOV) _) else `c)=_;rw[`N ⟨hf ws,by unfold wd;rw[`F,`ip,`ip,`F];omega⟩,th0 p S `aOT]
 ·rfl
 ·show `f2::`bK::`bK::`bK::`aOV::_=`f2::`bK::`bK::`bK::`l ((ws++`dv).reverse.map `pM)::_
  rw[`ado,`aN];unfold wd;rw[← `adp];rfl
theorem j90(k:Nat):nrf (`pT k)=`b:=by
 unfold link nrf;rw[`a?];refine⟨?_,rfl⟩;show (ye0 `amK).isNone=`b;show (if (`sL : Str) = "@" then `a (`bU).toNat else `c).isNone=`b;rw[`aCU];rfl
theorem j40(S:RS)(d:D):(`jL).begun.length=`dw:=by
 unfold RS.hold;cases `cB with
 | nil=>rfl
 | cons k u=>exact `q7 ..
theorem fp0(S:RS)(d:D):(`jL).un=`cB:=rfl
theorem v60(S:RS)(d:D):(`jL).wait=`l5:=rfl
noncomputable def sz0(S:RS)(kd:Nat)(n:Nat):RS:=`G1 `aOW (`pR)
theorem nc0(kd n:Nat)(hn:n<=20):(`pR).length<=50:=by
 have hl:`adn=n*2:=`aW
 match kd with
 | 0=>show `aOX;rw[`ul];omega
 | 1=>show `aOX;rw[`ul];omega
 | 2=>show `adn<=_;rw[hl];omega
 | k+3=>show (Want.cls::`aOY).length<=_;rw[`V,hl];omega
theorem dt0(S:RS)(ok:`fh)(hw:`n')(hl:`adq)(hul:`NF)(kd:Nat)(hk:`n?)(n:Nat)(h1:`adr)(h2:`ads):z00 `bJ `adl=`aOZ:=by
 have M:n<=20:=`aO_
 refine T3 rfl λp=>⟨[`aO0,`s?,`bW,.un],?_,rfl⟩
 show wu0 `B4=_;have c1:ob `aLQ `B4=`aV:=by
  refine `cs;rw[p6 (x:=`jg) (y:=`aOP) rfl (by rw[m5 (ds:=[`nb]) rfl];exact Px0 kd hk)];show `a (`a2 (`w ((if kd=0 then (20:Int) else 12)<`cw)))=_;rw[`b6 (by split at h1<;>split<;>omega)]
 have c2:ob `aLR `B4=`aV:=by
  refine `cs;rw[p6 (x:=`Nz) (y:=`F') `NH rfl];show `a (`a2 (`w (`pN=60)))=_;rw[`dM]
 refine m7 (δ':=`B4) (by
  rw[J7 `aO1];rfl) ?_
 have hh:W0 `bJ [`Uf]=`a (`u,R `G3):=pl0 S ok hw _ (j90 _);have ca:V8 0 `D t8 `aLS W0 `B4=`a (`u,`aO2) :=
  yf0 (`U (J2 (`U rfl (`U `NH rfl)) `uX) rfl) hh
 refine m7 (δ':=`aO2) (W5 (by unfold j6;rw[ca];rfl)) ?_;have O:=`aO3;have few:=`HG;refine m7 (R60 p `G3 kd (`bW) .un (λk J=>by rw[O];exact `yB k J) `h hul) ?_;have tl:`aO4<=10000:=by
  rw[v60,`y0];omega
 refine m7 (W5 (Rq0 p `anj _ `b1 (by show `aO4<_;omega))) ?_;refine m7 (W5 (Qd0 p `aOW _ _ (`pR) (by
  rw[m5 (ds:=[`aOI]) (`U (by
   rw[m5 (ds:=`adl) rfl];exact Up0 kd hk n `h) rfl)]
  rfl) (by
  have:=nc0 kd n M;show (`T?::(`G2).wait).length+_<_;rw[`V];omega))) ?_
 exact `G5
theorem Zl0(n:Int):ss0 [`iq]=`a (`d (uo0 n)):=by
 have c:ob `aLT [`tc]=`a (`w (n%2=1)):=`yi
 by_cases h:n%2=1
 ·refine `n8
  show `aO5;rw[`aO6];unfold uo0;rw[`co];exact `oa
 ·refine Y0 rfl (u9 (δ':=[`tc]) (by show `aO5;rw[c7 (by rw[c,`iF])];rfl) ?_)
  unfold uo0;rw[`dR];exact `oa
theorem Sz0(q:Nat)(hq:q<4):atC `Go (`d (q:Int))=`a (`s (`pQ q)):=by
 match q,hq with
 | 0,_=>kernel_rfl
 | 1,_=>kernel_rfl
 | 2,_=>kernel_rfl
 | 3,_=>kernel_rfl
theorem Tu0(S:RS)(ok:`fh)(hw:`n')(hl:`adq)(hul:`NF)(kd:Nat)(hk:`n?)(n:Nat)(h1:`adr)(h2:`ads):T7 `bJ [`d `aO7]=`aOZ:=by
 obtain⟨N,hN⟩:∃N:Int,N=`aO7:=`ae;rw[← hN];refine T3 rfl λp=>⟨[`aO0,`ex,`yE],?_,rfl⟩
 show `aO8;refine m7 (δ':=`q9) `acY `l6;rw[yi0 (by
  refine `cs;show `a (`a2 (`w (N%4=3)))=_;rw[`q5])]
 refine W9 (T8 (yf0 (`U (d:=`nb) ?_ (`U (d:=`jg) ?_ rfl)) (dt0 S ok hw hl hul kd hk n h1 h2)))
 ·show atC _ (`d (N/4%4))=_
  rw[show N/4%4=((kd:Nat):Int) by omega];exact Sz0 kd hk
 ·show `a (`aX (N/4/4))=_
  rw[show N/4/4=`cw by omega]
theorem V40(S:RS)(ok:`fh)(ws:`aY)(hw:`adt)(N:Int)(d:D)(hn:`kq)
  (h:N%4=1/\d=`d (uo0 (N/4))∨N%4=2/\N/4<`pN/\0<=N/\d=`aO9∨N=0/\`mE):T7 `bJ [`GH]=`a (`dr,R (`jL)):=by
 have J:`n':=`adg
 refine T3 rfl λp=>⟨`NI,?_,rfl⟩
 show `aO8;have cm:∀j:Int,ob `aNV `q9=`a (`w (N%4=j)):=`Nn
 refine m7 (δ':=`q9) `acY ?_;refine m7 (δ':=`q9) (by rw[`adu];rfl) ?_;refine m7 (δ':=`q9) (by
  rw[J7 (by rw[`NJ,gs0 p S _ `d9 ws hw `td];rfl)];rfl) ?_
 have hold:∀(gA:GA),gA `q9=`a [d]->p8 (d7 (j6 (V8 0 `D t8 gA W0))) `G `q9=`a (.nx `NI):=λgA hA=>by
  refine m7 (W5 (δ':=`NI) ?_) rfl;unfold j6;rw[yf0 hA (pl0 S ok J d hn)];rfl
 refine m7 (δ':=`NI) ?_ `q';rcases h with⟨h1,rfl⟩|⟨h1,h2,h3,rfl⟩|⟨h1,rfl⟩
 ·rw[yi0 (by rw[cm,`BV])]
  exact hold _ (`U (by rw[m5 (ds:=[`G4]) rfl];exact Zl0 _) rfl)
 ·rw[`adu]
  refine m7 (δ':=[.ow (v8 p (R (`ln (`aO9)))),`ex,`yE]) ?_ rfl;rw[yi0 (by
   unfold ww0;rw[cm,`BV,`f,`bm];refine `cs;rw[p6 (x:=`G4) (y:=`Nz) rfl `NH];show `a (`a2 (`w (N/4<`pN)))=_;rw[`bF h2])]
  refine hold _ (`U (J2 (`U rfl (`U (d:=`d ((`ank:Nat):Int)) ?_ rfl)) `uX) rfl);rw[p6 (x:=`d (`pN - 1)) (y:=`G4) (by rw[p6 (x:=`Nz) (y:=`cV) `NH rfl];rfl) rfl];show `a (`aX (`pN - 1 - N/4))=_;congr 2;omega
 ·rw[`adu]
  refine `aO';rw[J7 (by
   unfold ww0;rw[cm,`dM];rfl)]
  refine `aO';rw[yi0 (by
   refine `cs;show `a (`a2 (`w (N=0)))=_;rw[`BV])]
  exact hold _ `io
theorem Ju0{ga gb:GE}{δ:Ds}(h:`c9=`lB):`aO!=`lB:=`aO?
theorem J50{ga gb:GE}{δ:Ds}(h:`c9=`qv):`aO!=`d3:=`aO?
theorem W40(S:RS)(w:`bE)(ws:`aY)(hw:`dg)(n:Int):z40 `bJ [`iq]=`a (.bl (`w (`iu∨`aPa)),R S):=by
 refine T3 rfl λp=>⟨`NK,?_,rfl⟩
 show ue0 `NK=_;refine `No;have c1:o2 `py `Gq eqD `NK=`a (.bl (`w (`iu))):=by
  rw[p6 (x:=`yv) (y:=`s (`Uk)) `aPb rfl];show `a (`a2 (`w (b8 w=`Uk)))=_;congr 2;exact `ade
 have c2:o2 (o2 `W `jG V1) `aLI leD `NK=`a (.bl (`w (`aPa))):=by
  rw[p6 (x:=`d (n*128)) (y:=`d 323) (by rw[p6 (x:=`iq) (y:=`Tq) rfl rfl];exact `Ui) `fJ];rfl
 by_cases hv:`iu
 ·rw[Ju0 (by rw[c1,`bF hv]),`bF (Or.inl hv)]
 ·rw[J50 (by rw[c1,`b6 hv]),c2]
  congr 2;exact `G_ ⟨`n,λz=>z.resolve_left hv⟩
theorem fu0(p:`e)(S:RS)(δ:Ds):plN `aLU `aO=`aOd:=by
 unfold plN;rw[R90];rfl
theorem Ru0(S:RS)(w:`bE)(ws:`aY)(hw:`dg)(b:Int)(hb:128<=b)(h0:`NL≠0)(hg:`iu∨(`NL)*128<=323):`anm=`a (`dr,R { S with digits:=`NL }):=by
 obtain⟨n,hn⟩:∃n,n=`NL:=`ae;rw[← hn] at h0 hg ⊢;refine T3 rfl λp=>⟨[.ow (v8 p (R { S with digits:=n })),`dN,`tc],?_,rfl⟩
 show zz0 `i0=_;refine m7 (δ':=`pV) (W5 (X3 (d:=`iq) (by
  rw[p6 (x:=`aPc) (y:=`d (b%128)) `aPd rfl,hn];rfl))) ?_
 refine m7 (δ':=`pV) (by
  rw[J7 (by
   refine `cs;show `aPe;rw[`dM])]
  rfl) ?_
 refine m7 (δ':=`pV) ?_ ?_
 ·have t1:`NM `ab7 `pV=`aPf:=by
   unfold DL.liftT;rw[show ob `Tz `pV=`aV from Z6 (by
    show `a (`a2 (`w (n=0)))=_;rw[`Vx])]
   rfl
  have t2:ut0 `aLV `pV=`aPf:=by
   unfold ut0 G8;rw[yf0 `io (W40 S w ws hw n),`bF hg];rfl
  unfold ifX orT;rw[t1,`f];show `aPg;rw[`eE,t2];rfl
 ·refine m7 (W5 (il0 p S _ `au n rfl)) `q'
theorem Tp0(S S':RS)(b:Int)(hb:0<=b/\b<128)(r:D)(h:T7 `bJ [`NN]=`pP):`aPh:=by
 refine T3 rfl λp=>⟨[`pW,`dN,.sh (`NN)],?_,rfl⟩
 show zz0 `i0=_;refine m7 (δ':=[`cE,`dN,.sh (`NN)]) (W5 (X3 (d:=`NN) (by
  rw[p6 (x:=`aPc) (y:=`it) `aPd (by
   show `a (`aX (b%128))=_;rw[Int.emod_eq_of_lt hb.1 hb.2])]
  rfl))) `l6
 rw[yi0 (by
  refine `cs;show `aPe;rw[`bF hb.2])]
 exact `B5
theorem m50(S:RS)(w:`bE)(ws:`aY)(hw:`dg)(b:Int)(p:`e)(G:GSB)(r:`l_)(h:G `NO=r) :
  p8 (ifX `Ne (p8 `gK `G) `G) (p8 `aMb G) `i0=r:=by
 refine m7 (δ':=`i0) ?_ (m7 (W5 (X3 `aPb)) h);have t:G8 `amB `i0=`a (`q,`i0):=by
  unfold G8;rw[`aPi,hw];rfl
 unfold ifX;rw[t];rfl
theorem se0(w v:`bE)(s0 s1:Sl):ob (o2 `au `aOp eqD) [s0,s1,`Uj]=`aOq:=by
 refine `cs;show `aOr;congr 2;exact `ade
theorem m90(S S':RS)(w:`bE)(ws:`aY)(hw:`dg)(hv:`B6)(b:Int)(r:D)(h:`aPh):`adv:=by
 refine `aPj
 show xm0 `i0=_;refine m50 S w ws hw b p _ _ `l6;rw[yi0 (by
  unfold z50;rw[`NJ,`adw,se0,se0];rcases hv with rfl|rfl<;>rfl)]
 exact `B5
theorem Zd0(S S':RS)(ws:`aY)(hw:`dv=`jM::ws)(b:Int)(r:D)(h:N5 `bJ `nc=`pP):`adv:=by
 refine T3 rfl λp=>⟨[`pW,`dN,`aPk],?_,rfl⟩
 show xm0 `i0=_;refine m50 S `jM ws hw b p _ _ (m7 (δ':=[`cE,`dN,`aPk]) ?_ `l6)
 ·rw[J7 (by
   unfold z50;rw[`NJ,`adw,se0,se0];rfl)]
  rfl
 ·rw[yi0 (by rw[`aPl,se0];rfl)]
  exact `B5
theorem mp0(p:`e)(S:RS)(δ:Ds):plN `amv `aO=`aOe:=by
 unfold plN;rw[Qm0];rfl
theorem P70(p:`e)(S:RS)(δ:Ds):ob `aMc `aO=`a (`w (0<`fM)):=by
 refine `cs;rw[p6 (x:=`GZ) (y:=`fF) `adx rfl];show `a (`a2 (`w (`hd<`T3)))=_;congr 2;exact `q8
theorem ty0(S S':RS)(w:`bE)(ws:`aY)(hw:`dg)(hv:`B7)(b:Int)(r:D)
  (h:0<`fM/\S5 `bJ `nc=`pP∨`NP/\V7 `bJ `nc=`pP):`adv:=by
 refine `aPj
 show xm0 `i0=_;refine m50 S w ws hw b p _ _ (m7 (δ':=`NO) ?_ (m7 (δ':=`NO) ?_ ?_))
 ·rw[J7 (by
   unfold z50;rw[`NJ,`adw,se0,se0];rcases hv with rfl|rfl<;>rfl)]
  rfl
 ·rw[J7 (by rw[`aPl,se0];rcases hv with rfl|rfl<;>rfl)]
  rfl
 ·rcases h with⟨h0,h⟩|⟨h0,h⟩
  ·refine `GC
   rw[yi0 (by rw[P70,`acu])];exact `B5
  ·refine m7 (δ':=`NO) ?_ (`B5)
   rw[J7 (by rw[P70,h0];rfl)];rfl
theorem Nv0(b:Int)(h:`NQ):v70 `nc=`lB:=by
 have w:vo0 `nc=`lB:=rfl;refine `B8;show tg0 `ab8 `aMd [`dN]=_;unfold tg0;rw[show ob `ab8 [`dN]=`eb from Z6 w,`f,`bm];have e1:leD `F7 `pU=`lB:=by show `a (`a2 (`w (0<=b)))=_;rw[`bF h.1]
 have e2:leD `pU `Gt=`lB:=by show `a (`a2 (`w (`G6)))=_;rw[`bF h.2]
 unfold pw0;simp only[show gc `F7 [`dN]=`a `F7 from rfl,show gv 0 [`lv `pU]=`a `pU from rfl,show gc `Gt [`lv `pU]=`a `Gt from rfl,`f,e1,e2];rfl
noncomputable def next(S:RS):RS:=(`NR:RS).ends
inductive Runs:RS->`_->RS->Prop
 | nil (S:RS):`b2 S [] S
 | cons {S S1 S':RS} {b:Int} {r:`_} (hb:`NQ) (ht:`ady) (hl:`adz) (hc:`NS) (hr:`b2 (next S1) r S') (hk:`Ul=`pX:=by first|rfl|(subst_vars;rfl)):`b2 S (b::r) S'
theorem Runs.app{S S2:RS}{l r:`_}(h:`b2 S l S1)(h':`b2 S1 r S2):`b2 S (l++r) S2:=by
 induction h with
 | nil=>exact h'
 | cons hb ht hl hc _ hk ih=>exact `ah hb ht hl hc (ih h') hk
theorem Vh0(p:`e)(S:RS)(δ:Ds):Z40 0 `D `x! `aC `aO=`a (.nx (.ow (v8 p (R `NR))::δ)):=`cC
noncomputable def GBy:GSB:=(p8 (ifX (orT (`NM `ab9) `aMe)
 (p8 `ab'
 `G)
 `G)
 (p8 `aMf
 (p8 `aMg
 `G)))
theorem fn0(p:`e)(S S1:RS)(b:Int)(s1:Sl)(hb:`NQ)(ht:`ady)(hl:`adz)(hc:`NS) :
  GBy `vn=`a (.nx `aPm):=by
 refine m7 (δ':=`aPn) ?_ (m7 (W5 (Vh0 p S1 _)) (m7 (W5 (δ':=`aPm) ?_) rfl))
 ·have t1:`NM `ab9 `vn=`a (`q,`vn):=by
   unfold DL.liftT yv0;rw[show ob `amC `vn=`eb from Z6 (by rw[m5 (ds:=`nc) rfl];exact Nv0 b hb)];rfl
  have t2:ut0 `amD `vn=`a (`q,`aPn):=by
   unfold ut0 G8;rw[yf0 `io ht];rfl
  unfold ifX orT;rw[t1,`f];show `aPg;rw[`eE,t2];rfl
 ·unfold j6
  rw[yf0 (S:=`aPo) (ds:=[]) rfl (cu0 `aPo hl hc)];rfl
theorem To0(p:`e)(s1:Sl){S:RS}{l:`_}(h:`aPp):∀s2,∃s2',nl0 `bf GBy `Um `aPq=`a (.nx [`pW,s1,s2']):=by
 induction h with
 | nil S=>exact λs2=>`aPr
 | cons hb ht hl hc _ _ ih =>
  rename_i S S1 S' b r _ _;intro s2;obtain⟨s2',e⟩:=ih (`dN);refine⟨s2',?_⟩;rw[`T];unfold nl0;rw[show gN 2 `pU `aPq=`a `vn from rfl,`f,fn0 p S S1 b s1 hb ht hl hc];exact e
theorem Nw0{S:RS}{l:`_}(h:`aPp):wh0 `bJ [`G7]=`a (`u,R S'):=by
 refine ik0 rfl λp=>`n `ZH
 obtain⟨J,e⟩:=To0 p (`yG) h .un;refine⟨`aPs,?_,rfl⟩;show sj0 `aPt=_;refine m7 (δ':=`aPs) ?_ rfl;show ci0 (vu0 `W) `bf GBy _=_;unfold ci0;rw[show vu0 `W `aPt=`aPu from rfl,`f];exact e
noncomputable def SB:GS:=(v7 (ifD `aLY
 (v7 `aLZ
 t6)
 t6)
 t6)
theorem fx0(b:Nat)(s1:Sl):∀(l:`k) (s2:Sl),(b∈l->`aPv=`a (.rt (`G')))/\(b∉l->∃s2',`aPv=`a (.nx [`gu,s1,s2']))
 | [],s2=>⟨(λh=>by cases h),λ_=>`aPr⟩
 | c::l,s2=>by
  obtain⟨i1,i2⟩:=fx0 b s1 l (`Uo);have cc:ob `amt `B9=`a (`w (c=b)):=by
   refine `cs;rw[p6 (x:=`d `G9) (y:=`iv) rfl rfl];show `a (`a2 (`w (`G9=`nd)))=_;congr 2;exact `q8
  by_cases h:c=b
  ·subst h
   refine⟨`_5,λn=>`I A6 n⟩;rw[`T];unfold z20;have e:`aPw=`a (.rt (`Un)):=by
    refine m9 ?_;rw[T6 (by rw[cc,`adA])];exact `oa
   show (match `aPw with|`d4=>`NT|`Kq=>`NT|`Kr=>`d4|r=>r)=_;rw[e]
  ·have e:SB `B9=`a (.nx `B9):=by
    refine `acJ;rw[c7 (by rw[cc,`iF])];rfl
   have st:z20 `bf SB ((c::l).map `anp) `anq=z20 `bf SB `G8 `B9:=by
    rw[`T]
    conv=>lhs;unfold z20
    show (match SB `B9 with|`d4=>`NT|`Kq=>`NT|`Kr=>`d4|r=>r)=_;rw[e]
   rw[st];exact⟨λhm=>i1 ((`NU).resolve_left (λz=>h `oV)),λhn=>i2 λz=>hn (A4 _ z)⟩
theorem jp0(b:Nat)(s:Str)(l:`k)(hs:`hg=l)(hl:`dL<=100):vj0 [`iv,`ey]=`a (if b∈l then `G' else `u):=by
 have it:∀δ:Ds,j00 `W (`gu::`nh::δ)=`a `G8:=fun δ=>by
  show `a (`iT s)=_;unfold signs;rw[hs];rfl
 obtain⟨i1,i2⟩:=fx0 b (`nh) l .un
 by_cases h:b∈l
 ·rw[`co]
  exact Y0 rfl (m9 (wi0 (it _) (i1 h)))
 ·rw[`dR]
  obtain⟨J,e⟩:=i2 h;exact Y0 rfl (u9 (wi0 (it _) e) (`oa))
theorem Tb0:(`x' : Str).cps.toList=s50:=`aP
theorem Th0:(`x9 : Str).cps.toList=S9:=`aP
theorem d70(S:RS)(ok:`fh)(hw:`n')(b:Nat)(hb:b∈s50):N5 `bJ [`iv]=`a (`dr,R (`G!)):=by
 refine T3 rfl λp=>⟨`aPx,?_,rfl⟩
 show ws0 `vo=_;refine m7 (δ':=`vp) (W5 (X3 (by
  rw[m5 (ds:=[`iv,`aMa]) rfl,jp0 b _ _ Tb0 `p,`iR]))) ?_
 refine m7 (δ':=`vp) (by rw[J7 `fJ];rfl) ?_;refine m7 (W5 (δ':=`aPx) ?_) `q';unfold j6;rw[yf0 `io (pl0 S ok hw (X8 [b]) rfl)];rfl
universe Rk
namespace Rk
open DL W Rm StrLaws
open Bt (T3 m7 W9 W5 yi0 J7 T8 K3 Z6)
theorem starts_pre(a b:`k):`R5 (`az a) (`az b)=`adB:=by
 unfold Txt.startswith;rw[subAt_eq,wb0,wb0,zj0,zj0,`jW,`aPy]
 by_cases h:b <+: a
 ·rw[List.isPrefixOf_iff_prefix.mpr h]
  have:=h.length_le;rw[`bF `A,List.prefix_iff_eq_take.mp h];simp
 ·have hf:`adB=`q:=by
   cases q:`adB with
   | false=>rfl
   | true=>exact `I (Dp0.mp q) h
  rw[hf,Bool.and_eq_false_iff]
  by_cases hl:`GA<=`TI
  ·right
   rw[beq_eq_false_iff_ne];intro z;exact h (z▸List.take_prefix _ _)
  ·left
   exact N4 hl
theorem n00{d:D}{δ δ1 δ2:Ds}(h1:`awG)(h2:`awH):z20 f G `jO δ=z20 f G ds δ2:=by
 conv=>lhs;unfold z20
 rw[h1,`f,h2]
noncomputable def LB:GS:=(v7 `aLW
 t6)
theorem ex0(s0 s1 s2:Sl):∀(k:Nat) (m:Nat) (s4:Sl),∃s4',z20 `jB LB ((`xI m k).map λ(j:Nat)=>`aX `bV) [s0,s1,s2,.sh (`Uq),s4]=`a (.nx [s0,s1,s2,.sh (`d ((36 ^ (m+k):Nat):Int)),s4'])
 | 0,m,s4=>⟨s4,rfl⟩
 | k+1,m,s4=>by
  obtain⟨s4',e⟩:=ex0 s0 s1 s2 k (m+1) (`Ur);refine⟨s4',?_⟩;rw[`aaw,`T];have J:oA `TA V2 `adC=`a (`F8):=`cC
  have hb:LB `adC=`a (.nx [s0,s1,s2,.sh (`aPz),`Ur]):=by
   refine u9 (X3 (d:=`aPz) ?_) rfl;rw[p6 (x:=`Uq) (y:=`F8) rfl J,`Ui,`NV];simp
  rw[n00 (δ1:=`adC) rfl hb,show m+`eS=m+1+k by omega];exact e
theorem W00(names:`ks)(hn:`aNq)(hl:∀n∈`kc,`l8)(L:Nat)(pre:`k)(hp:`eZ<=L)(hL:L<=100):ys0 [`anr,`pY,`yI]=`a (.bl (`th `kc L pre)):=by
 have z:`c0:=`X
 obtain⟨J,e⟩:=ex0 (`adD) (`pZ) (`yJ) (`Uu) 0 .un;rw[`jW] at e;refine Y0 rfl (u9 (δ':=[`adD,`pZ,`yJ,.sh (`d ((36 ^ 0:Nat):Int)),.un]) rfl (u9 (δ':=[`adD,`pZ,`yJ,.sh (`aPA),J]) (wi0 (items:=J6 0 (`adE)) (o40 (`U (d:=`d (`adE)) ?_ rfl) `h `h) ?_) `jN))
 ·rw[p6 (x:=`pY) (y:=`d `ant) rfl (by
   rw[m5 (ds:=[`yI]) rfl];show (if `aPB<=`L then `a (`aX (`aPB:Int)) else `c)=_;rw[zj0,`q4])]
  rfl
 ·rw[← e]
  unfold J6;rw[show (`adE - 0).toNat=`Uu by omega,`aPC];congr 1;refine `aPD
  rw[`LI]
 ·have c:=rs0 (f:=gN 0) (gt:=`aLX) (ge:=gv 0) (δ:=[.un,`pZ,`yJ]) (`aPE) (`Mu) (items:=`Us) (λd hd=>by
   obtain⟨n,O,rfl⟩:=`c1;have U:=hl n O;refine⟨`adF,rfl,?_,`iz⟩;show ww0 _ _ _=`a (`w ((`s7).cps.toList.length=L)&&`TF (`s7).cps.toList);rw[wb0];unfold ww0;have t1:ob `amr `adF=`a (`adG):=by
    refine `cs;rw[p6 (x:=`d `aPF) (y:=`pY) (by
     rw[m5 (ds:=[`T4]) rfl];show (if `aPG<=`L then `a (`aX (`aPG:Int)) else `c)=_;rw[zj0,`q4]) rfl]
    show `a (`a2 (`w (`aPF=`tg)))=_;congr 2;exact `q8
   have t2:ob `ams `adF=`a (`G?):=by
    refine `cs;show `a (`a2 (`R5 (`s7) (`Ut)))=_;rw[starts_pre]
   rw[t1,`f,t2];cases `adG<;>rfl)
  obtain⟨F,hF⟩:∃F:`j,F=((`aPH).filter `aPE):=`ae;have M:`anu=(`Uw λn=>`adG&&`G?).length:=by
   rw[hF,List.filter_map,`F];congr 1
  rw[p6 (x:=`d `aPI) (y:=`aPA) (by
   rw[m5 (ds:=[`l F]) (`U (xv0 (items:=`Us) rfl `iw (by rw[hF];refine c.trans ?_;rw[List.map_id'])) rfl)];rfl) rfl]
  show `a (`a2 (`w (`aPI<`ans)))=_;unfold left;congr 2;rw[M];exact `q8
universe Rk
namespace Rk
open DL W Rm
theorem sub_len'[`B']:∀{l m:`aH},`aPJ
 | [],_,_,_=>`cQ
 | a::l,m,hn,h=>by
  rw[`aar] at hn;have ha:=h a A6;have ih:=`NW (l:=l) (m:=m.erase a) hn.2 λb hb=>by
   have J:`k4:=λz=>hn.1 (z▸hb)
   exact(List.mem_erase_of_ne J).mpr (h b (`IP))
  rw[List.length_erase_of_mem ha] at ih;have:=List.length_pos_of_mem ha;rw[`V];omega
noncomputable def words(A:`k):Nat->`ks
 | 0=>[[]]
 | k+1=>A.flatMap λc=>`aPK
theorem e40(A:`k):∀k,(`Uv).length=`aPL
 | 0=>rfl
 | k+1=>by
  unfold words;rw[List.length_flatMap];have:(A.map λc=>(`aPK).length)=A.map λ_=>`aPL:=c6 λc _=>by rw[`F,e40 A k]
  rw[`A,List.map_const',List.sum_replicate_nat,`NV,`Bb]
theorem ld0(A:`k):∀(k:Nat) (w:`k),`d'=k->(∀c∈w,c∈A)->w∈`Uv
 | 0,w,h,_=>by rw[List.eq_nil_of_length_eq_zero h];exact A6
 | k+1,[],h,_=>by cases h
 | k+1,c::w,h,hA=>i3.mpr ⟨c,hA c A6,`yP ⟨w,ld0 A k w `hk λx hx=>hA x `mu,rfl⟩⟩
theorem Wm0:S9.length=36:=`X
theorem fz0(names:`ks)(hnd:names.Nodup)(hA:∀n∈`kc,∀c∈n,`ob)(w:`k)(hw:∀c∈w,`ob)(hn:w∉`kc)(pre:`k)(hp:pre <+: w):`th `kc `d' pre=`b:=by
 unfold left;refine M0 ?_;have M:((`adH).map (·.drop `eZ)).length<=(words S9 (`d' - `eZ)).length:=by
  refine `NW ?_ λa ha=>?_
  ·refine `aPM
   have nd:(`adH).Nodup:=`FZ ⟨λz=>hn (`zx z).1,hnd.filter _⟩;refine Aq0 ?_ (X2.mp nd);intro a b ha hb J e;have pf:∀x∈(`adH),pre <+: x:=λx hx=>by
    rcases `qt with rfl|hx
    ·exact hp
    ·have:=(`zx hx).2
     rw[`a?] at this;exact Dp0.mp this.2
   obtain⟨a',rfl⟩:=pf a ha;obtain⟨b',rfl⟩:=pf b hb;simp only[`B!] at e;exact J (`acV)
  ·obtain⟨x,hx,rfl⟩:=`ds ha
   rcases `qt with rfl|hx
   ·exact ld0 _ _ _ (by rw[`jJ]) λc hc=>hw c (Ar0 hc)
   ·obtain⟨h1,h2⟩:=`zx hx
    rw[`a?,`qN] at h2;exact ld0 _ _ _ (by rw[`jJ,h2.1]) λc hc=>hA x h1 c (Ar0 hc)
 rw[e40,Wm0,`F,`V] at M;omega
universe Rk
namespace Rk
open DL W Rm
open Bt (T3 m7 W9 W5 yi0 J7 T8 K3 Z6)
theorem Wf0(names:`ks):`k9 (`aPH)=`b:=by
 unfold flats;rw[`l2];intro d hd;obtain⟨n,_,rfl⟩:=`c1;rfl
theorem X60(p:`e)(S:RS)(δ:Ds)(gA:GA)(L:Nat)(pre:`k)(hA:gA `aO=`a `aPN)(hn:`y1)(hl:∀n∈`b3,`l8)(hp:`eZ<=L)(hL:L<=100) :
  ob (fnN 0 `m4 gA ys0) `aO=`a (`th `b3 L pre):=by
 refine `cs;unfold fnN;rw[li0,`f,hA,`f,y00,`f,Rk0 (yy0 3)];show (if `k9 (`yy)=`b/\`k9 `aPN=`b then (ys0 [`l (`yy),`pY,`yI]).bind (`aIi) else `c)=_;rw[`N ⟨Wf0 _,rfl⟩,W00 `b3 hn hl L pre hp hL];rfl
theorem g40(p:`e)(S:RS)(δ:Ds)(g:GE)(n:Nat)(hg:`vi=`ao_):vw0 0 `D `hb g `aO=`a (.nx (.ow (v8 p (R { S with length:=n }))::δ)):=by
 unfold vw0;rw[hg,`f];kernel_rfl
theorem km0(p:`e)(S:RS)(δ:Ds)(g:GE)(l:`k)(hg:`vi=`aNr):vw0 0 `D `m3 g `aO=`a (.nx (.ow (v8 p (R { S with spelled:=l }))::δ)):=by
 unfold vw0;rw[hg,`f];kernel_rfl
theorem W20(S:RS)(hn:`adI)(hl:∀n∈`b3,`l8)(L:Nat)(h1:1<=L)(h8:L<=8)(hleft:`th `b3 L []=`b):V7 `bJ [`d `aPO]=`a (`dr,`aPP):=by
 obtain⟨b,hb⟩:∃b:Int,b=`aPO:=`ae;have J:b/2=`tg:=`C
 rw[← hb];refine T3 rfl λp=>⟨[.ow (v8 p (`aPP)),`dN,`pZ],?_,rfl⟩
 show K4 `i0=_;refine m7 (δ':=`i0) (by
  rw[J7 (by
   refine `cs;show `a (`a2 (`w (b%2=0)))=_;rw[`dM])]
  rfl) ?_
 refine m7 (δ':=`vq) (W5 (X3 (d:=`pY) (by
  show `a (`aX (b/2))=_;rw[J]))) ?_
 refine m7 (δ':=`vq) (by
  rw[J7 (by
   have t1:ob `Tz `vq=`aV:=Z6 (by
    show `a (`a2 (`w (`tg=0)))=_;rw[`dM])
   have t2:ob `aL! `vq=`aV:=Z6 (by
    show `a (`a2 (`w ((8:Int)<`tg)))=_;rw[`dM])
   have t3:ob `aL? `vq=`aV:=Z6 (by
    rw[p6 (x:=`NA) (y:=`F') `adJ rfl];show `a (`a2 (`w (`yx=60)))=_;rw[`dM])
   unfold z50;rw[t1,`f,`eE,t2,`f,`eE,t3])]
  rfl) ?_
 refine m7 (δ':=`vq) (by
  rw[J7 (by
   unfold yv0;rw[X60 p S _ _ L [] `yr `h hl `qr `h,hleft];rfl)]
  rfl) ?_
 exact m7 (W5 (g40 p S _ `au L rfl)) `q'
theorem rd0(p:`e)(S:RS)(δ:Ds):plN `amw `aO=`aOf:=by
 unfold plN;rw[Vw0];rfl
theorem Vq0(p:`e)(S:RS)(δ:Ds)(hl:`ac!):j6 `aL3 `aO=`a (.nx (.ow (v8 p (R `aPQ))::δ)):=by
 have z:`kv:=`X
 unfold j6 rw0;rw[li0,`f,rd0,`f,y00,`f,yy0,`f];show `f1 _ (if nrf (`s8)=`b/\`aOh<`L then `a (D.non,`eI 0 3 (`aPR) _) else `c)=_;rw[`N ⟨rfl,`akE⟩,th0 p S `aPQ]
 ·rfl
 ·show `f2::`bK::`bK::`aPR::_=`f2::`bK::`bK::`l ((`anw).map `T7)::_
  rw[`aN];rfl
theorem iw0(S:RS)(b:Nat)(hb:`NX)(hn:`y1)(hl:∀n∈`b3,`l8)(hs:`tj<`fM)(hL:`adK)(hleft:`adL)(p:`e)(G:GSB)(r:`l_)
  (h:G `adM=r) :
  (p8 `aL_
 (p8 (ifB `aL0
 (p8 `gK
 `G)
 `G)
 (p8 `aL1 G))) `vo=r:=by
 have z:`kv:=`X
 have sp:o2 `Gs `au m8 `vp=`a (`s (`az `ti)):=by
  rw[p6 (x:=`s8) (y:=`G') `aPS rfl];exact `acI
 refine m7 (δ':=`vp) (W5 (X3 (by
  rw[m5 (ds:=[`iv,`amq]) rfl,jp0 b _ _ Th0 `p,`iR]))) ?_
 refine m7 (δ':=`vp) (by
  rw[J7 (by
   unfold z50;rw[show ob `amu `vp=`aV from `cC,`f,`eE];unfold yv0;rw[X60 p S _ _ `fM `ti (`U `adx (`U sp rfl)) hn hl `Bm `h,hleft];rfl)]
  rfl) ?_
 exact m7 (W5 (km0 p S _ _ `ti sp)) h
theorem Tv0(p:`e)(S:RS)(δ:Ds)(hs:`tj<=8):ob `aL2 `aO=`a (`w (`tj=`fM)):=by
 have z:`kv:=`X
 refine `cs;rw[p6 (x:=`d `aPT) (y:=`GZ) (by
  rw[m5 (ds:=[`s8]) (`U `aPS rfl)];show (if `aPU<=`L then `a (`aX (`aPU:Int)) else `c)=_;rw[zj0,`q4]) `adx]
 show `a (`a2 (`w (`aPT=`T3)))=_;congr 2;exact `q8
theorem Ua0(S:RS)(b:Nat)(hb:`NX)(hn:`y1)(hl:∀n∈`b3,`l8)(hs:`tj+1<`fM)(hL:`adK)(hleft:`adL) :
  `aPV=`a (`dr,R `Uz):=by
 refine T3 rfl λp=>⟨`adM,?_,rfl⟩
 show zt0 `vo=_;refine iw0 S b hb hn hl `h hL hleft p _ _ (m7 (δ':=`adM) ?_ `q');rw[J7 (by
  rw[Tv0 p `Uz _ (by show `aPW<=8;rw[`Z,`cn];omega),`b6];show ¬`aPW=`fM;rw[`Z,`cn];omega)]
 rfl
noncomputable def named(S:RS)(w:`k):RS:={ (({ S with names:=`UA }:RS).hold (X8 w)) with length:=0,spelled:=[] }
theorem Xm0(S:RS)(ok:`fh)(hw:`n')(b:Nat)(hb:`NX)(hn:`y1)(hl:∀n∈`b3,`l8)(hs:`tj+1=`fM)(hL:`adK)(hleft:`adL) :
  `aPV=`a (`dr,R (`tk S `ti)):=by
 obtain⟨w,J⟩:∃w,w=`Ha:=`ae;have wl:`d'=`fM:=by rw[J,`Z,`cn];exact hs
 refine T3 rfl λp=>⟨`aPX,?_,rfl⟩
 show zt0 `vo=_;refine iw0 S b hb hn hl `h hL hleft p _ _ (m7 (δ':=`aPX) ?_ `q');rw[← J];rw[yi0 (by
  rw[Tv0 p `aPY _ (by show `d'<=8;omega),`bF];exact wl)]
 refine m7 (W5 (Vq0 p `aPY _ (by show `ac!;omega))) ?_;have M:Ok `B?:=⟨`yB,`HG,`UZ,ok.wait,by show (`UA).length<=1000;rw[`Z,`cn];omega⟩;refine m7 (W5 (δ':=[.ow (v8 p (R ((`B?:RS).hold (X8 w)))),`gu,`yH]) ?_) ?_
 ·unfold j6
  rw[yf0 (S:=`B?) (`U (rd0 p `B? _) rfl) (pl0 `B? M hw (X8 w) rfl)];rfl
 ·refine m7 (W5 (g40 p _ _ `bn 0 rfl)) (m7 (W5 (km0 p _ _ `qY [] rfl)) ?_)
  rfl
universe Rk
namespace Rk
open DL W Rm StrLaws
open Bt (T3 m7 W9 W5 yi0 J7 T8 K3 Z6)
theorem Yk0:(∀n∈`bl 40,`abt (`adN).1 (`adN).2.1 (`adN).2.2=(`bl (`gM/2)).map (2*·)) /\
  ∀n∈`bl 40,`abt (`adO).1 (`adO).2.1 (`adO).2.2=(`bl (n/2)).map (2*·+1):=`aP
theorem ff0(xs:`aH)(d:α):∀l:`k,(∀i∈l,`up)->`abv=`er (`Kx · d)
 | [],_=>rfl
 | i::l,h=>by
  have hi:=h i A6;rw[`BL `Rs,ff0 xs d l λj hj=>h j (A4 _ hj),`T];simp[`bg,hi]
theorem oh0:∀xs:`j,`yK=(`bl (`am/2)).map λj=>(`Kx (2*j) `u,`Kx (2*j+1) `u)
 | []=>rfl
 | [a]=>by unfold pairsOf;simp
 | `DQ=>by
  show `ach=_;rw[oh0 r,`V,`V,show (`b9+1+1)/2=`b9/2+1 by omega,`aBW,`T,`bM];rfl
theorem Sn0(xs:`j)(h:`am<40):`aPZ=`yK:=by
 unfold zr0;rw[Yk0.1 _ (`fL h),Yk0.2 _ (`fL h),ff0 xs `u _ (λi hi=>by
  obtain⟨j,hj,rfl⟩:=`ds hi;have:=`vf;show 2*j<_;omega),ff0 xs `u _ (λi hi=>by
  obtain⟨j,hj,rfl⟩:=`ds hi;have:=`vf;show 2*j+1<_;omega),oh0]
 refine v0 `j8 λj h1 h2=>?_
 simp
theorem nr0(xs:`j)(h:`am<40):vd0 [`cN]=`a `aP_:=by
 refine `B8;rw[m5 (ds:=[`l (`anx),`l `any]) `yr];show `a (`cT ((`aPZ).map `Fa))=_;rw[Sn0 xs h]
noncomputable def Fits(kd:Nat)(held:`j):Prop:=`aP0<=30/\(kd=0->∀d∈`dx,`aP1)/\(kd=3->`dx≠[])
theorem oi0:∀l:`k,`adP=l
 | []=>rfl
 | c::l=>by
  show (`az [c]).cps.toList++`adP=_;rw[oi0 l,wb0];rfl
theorem mr0(kd:Nat)(hk:`n?)(held:`j)(h:Fits kd `dx):M3 [`nb,`UB]=`a (`fP `adQ):=by
 have z:`kv:=`X
 obtain⟨hl,h0,h3⟩:=h;have c:∀(a b:Str),ob `aOJ [.sh (`g5),`UC]=`aOK:=`aOL
 match kd,hk,h0,h3 with
 | 0,_,h0,_ =>
  obtain⟨l,rfl⟩:∃l:`k,`aP2:=by
   have:∀held:`j,(∀d∈`dx,`aP1)->∃l:`k,`aP2:=by
    intro held
    induction `dx with
    | nil=>exact λ_=>⟨[],rfl⟩
    | cons d ds ih =>
     intro hd;obtain⟨c,rfl⟩:=`adR;obtain⟨l,rfl⟩:=ih `adS
     exact⟨c::l,rfl⟩
   exact `A `dx (h0 rfl)
  refine `n8;show ifD _ _ _ [.sh (`lh),.sh (`l (`yL))]=_;rw[`vl];refine m9 (W2 (J2 (`U rfl (`U (d:=`s0) ?_ rfl)) `s2)) |>.trans ?_
  ·have hp:l=`aM?:=(Bt.l60 l).symm
   rw[`F] at hl
   conv=>rhs;rw[hp]
   refine Bt.b80 [] (`er `GD) 1 rfl ?_ `aNf `j8;show `a (`eY (`yL))=_;rw[`bM];rfl
  ·show `a (Res.rt (`cT [`lh,`s0]))=`a (Res.rt (`cT [`lh,X8 (`adP)]))
   rw[oi0];rfl
 | 1,_,_,_ =>
  refine Y0 rfl (u9 (δ':=`aP3) (by show ifD _ _ _ `aP3=_;rw[`pS];rfl) `il);rw[`vl];exact `aP4
 | 2,_,_,_ =>
  refine Y0 rfl (u9 (δ':=`adT) (by show ifD _ _ _ `adT=_;rw[`pS];rfl) (u9 (δ':=`adT) `vm `il));rw[`vl];exact m9 (W2 (J2 (`U rfl (`U (by rw[m5 (ds:=[`UB]) rfl];exact nr0 `dx `h) rfl)) `s2))
 | 3,_,_,h3 =>
  cases `dx with
  | nil=>exact `I rfl (h3 rfl)
  | cons d ds =>
   refine Y0 rfl (u9 (δ':=`NY) (by show ifD _ _ _ `NY=_;rw[`pS];rfl) (u9 (δ':=`NY) `vm (u9 (δ':=`NY) `vm `jN)));refine J2 (`U rfl (`U (d:=d) (by
    show atI `jO 0=_;rw[xw0 `p (`lt) `u];rfl) (`U (d:=`t ((`ii ds).map `p_)) ?_ rfl))) `aNZ
   rw[m5 (ds:=`As) (`U (by
    rw[Bt.k90 (d:=`l `jO) (l:=`aP5) (h:=`c) rfl rfl rfl];show `a (`eY (`pa `jO (`aP5) `c))=_;rw[Bt.Tt0];rfl) rfl)]
   exact nr0 ds `aoU
theorem ku0(xs:`j):(`yK).length<=`am:=by
 rw[oh0,`F,`gL];omega
theorem ea0(X:D)(ps:`MX)(hX:`aoN=`a (`t (`aP6)))(hl:`ax<=1000):U5 1 [] `px `bD noT `jD [.sh X]=`a (`l (`gs)):=by
 have z:`kv:=`X
 refine xv0 (items:=`aP6) ?_ `iw ?_
 ·show `aP7
  rw[`aP8,hX];rfl
 ·rw[vh0 `aP9 (λd hd=>by
   obtain⟨q,_,rfl⟩:=`c1;exact⟨[.sh (`amL)],rfl,rfl,rfl⟩),`bM]
  rfl
theorem dg0(kd:Nat)(hk:`n?)(held:`j)(h:`aP0<=1000):v40 [`fP `adQ]=`a (`l (O8 `adQ)):=by
 match kd,hk with
 | 0,_ =>
  refine `vr;rw[T6 (by unfold z50;rw[show ob `x4 (T4 M8 [`fP (0,`dx)])=`eb from `cC];rfl)];exact `NZ
 | 1,_ =>
  refine `vr;rw[T6 (by unfold z50;rw[show ob `x4 `aP'=`aV from `cC,show ob `Gi `aP'=`eb from `cC];rfl)];exact `NZ
 | 2,_ =>
  refine S6 rfl (u9 (δ':=[.sh (`adU)]) (by
   rw[c7 (by unfold z50;rw[show ob `x4 (T4 M8 [`adU])=`aV from `cC,show ob `Gi (T4 M8 [`adU])=`aV from `cC];rfl)];rfl) `oc)
  exact ea0 _ (`ii `dx) (`T! [`li] _) (B9 (ku0 _) h)
 | 3,_ =>
  refine S6 rfl (u9 (δ':=[.sh (`adV)]) (by
   rw[c7 (by unfold z50;rw[show ob `x4 (T4 M8 [`adV])=`aV from `cC,show ob `Gi (T4 M8 [`adV])=`aV from `cC];rfl)];rfl) `oc)
  exact ea0 _ (`aP!) (`T! [`jC,held.headD `u] _) (B9 (ku0 _) (by rw[`jJ];omega))
structure Held(q:`hc):Prop where
 kd:q.1<4
 fits:`aP?
 tr:trs q.2=`b
 nr:`aQa
 fl:`k9 (O8 q)=`b
theorem U00(S:RS)(k:Nat)(q:`hc)(hq:`jP)(h:`Hg):`aQb:=by
 have e2:`aQc:=by
  show `adb;rw[`ca,hq];rfl
 have e1:`aQd:=by
  unfold W3;rw[`bg,hq];rfl
 rw[e1];unfold u60 Q5;simp only[w90,`f,e2];rw[`N ⟨rfl,h.tr,h.nr⟩]
theorem de0(S:RS)(k:Nat)(u:`k)(hu:`hh)(q:`hc)(hq:`jP)(h:`Hg):N8 `bJ []=`a (`UI,R S):=by
 refine T3 rfl λp=>⟨`adW,?_,rfl⟩
 show yc0 `adW=_;have e1:K5 0 `ih `ie `adW=`a (`yM):=by
  unfold K5;rw[p20,`f,show unG U4 `aC [`pO,.un]=`a (`yz) from rfl,`f,y00,`f];rw[`aOl];rw[hu,`eG,`aN];exact `ada
 unfold yc0 c80;rw[e1,`f,y00,`f,U00 S k q hq h,`f];have e3:oA `aL7 v40 ((`aL ([`pO,`r?]:Ds).length `r?).set 1 (`adX))=`a (`UI):=by
  rw[m5 (ds:=[`fP q]) (`U (by
   rw[`aQe];exact mr0 q.1 h.kd q.2 h.fits) rfl)]
  exact dg0 q.1 h.kd q.2 (by have:=h.fits.1;omega)
 rw[e3,`f];simp only[];rw[`N h.fl]
theorem Rx0(p:`e)(S:RS)(δ:Ds)(g:GE)(i:Nat)(nm:`k)(hg:`vi=`aQf)(hn:`b3[i]?=`a nm):plN (K5 0 `m4 g) `aO=`a `ne:=by
 unfold plN K5;rw[li0,`f,hg,`f,y00,`f,nk0 (es:=`yy) rfl];have hi:=(`cL hn).1;rw[`adY,`bo,`bg,`ca,hn];rfl
theorem Rg0(S:RS)(ok:`fh)(w:`bE)(ws:`aY)(hw:`dg)(b:Nat)(hb:b<`jK)(nm:`k)(hnm:`adZ)
  (hin:`ad_):Q7 `bJ [`iv]=`aQg:=by
 refine T3 rfl λp=>⟨`aQh,?_,rfl⟩
 show zy0 `vo=_;refine m7 (δ':=`vo) (by
  rw[J7 (by
   refine `cs;rw[p6 (x:=`iv) (y:=`NA) rfl `adJ];show `a (`a2 (`w (`yx<=`nd)))=_;rw[`dM])]
  rfl) ?_
 refine m7 (δ':=`vs) (W5 (X3 (Rx0 p S _ _ (`anB) nm (by
  rw[p6 (x:=`d (`yx - 1)) (y:=`iv) (by rw[p6 (x:=`NA) (y:=`cV) `adJ rfl];rfl) rfl];show `a (`aX (`yx - 1 - `nd))=_;congr 2;omega) hnm))) ?_
 refine m7 (δ':=`vs) ?_ ?_
 ·have t1:`NM `aL8 `vs=`a (`w (`te),`vs):=by
   unfold DL.liftT;rw[show (`sT : Str)=b8 `m7 from rfl,gs0 p S _ w ws hw `m7];rfl
  unfold ifX V30;rw[t1,`f]
  by_cases hwn:`te
  ·obtain⟨k,u,q,hu,hq,hh,M⟩:=hin hwn
   have t2:G8 `aL9 `vs=`a (`q,`vs):=by
    unfold G8 bg0;rw[show gv 2 [`pO,`gu,`UH]=`a `ne from rfl,`f,`N (show `aQi from rfl),yf0 (ds:=[]) rfl (de0 S k u hu q hq hh),`f];have e:`aQj=`qv:=by
     show (if `aQi/\(O8 q).all `cm=`b then `a (`a2 (xor `q (`aQk))) else `c)=_;rw[`N ⟨rfl,hh.fl⟩];congr 2;rw[`uP];cases ha:`aQk with
     | false=>rfl
     | true =>
      exfalso;obtain⟨y,hy,he⟩:=List.any_eq_true.mp ha;have J:`cm y=`b:=r9.mp hh.fl y hy;cases y with
      | str t =>
       have:t=`az nm:=P2.mp he;rw[`A] at hy;exact M hy
      | non=>cases he
      | bl _=>cases he
      | int _=>cases he
      | tup _=>cases J
      | lst _=>cases J
      | dct _ _=>cases J
      | fn _ _=>cases J
    show `gt (`f1 _ (`aQj)) _=_;rw[e];rfl
   rw[`bF hwn];show `gt (if `b=`b then G8 _ _ else _) _=_;rw[`bm,t2];rfl
  ·rw[`b6 hwn]
   rfl
 ·refine m7 (W5 (δ':=`aQh) ?_) `q'
  unfold j6;rw[yf0 `io (pl0 S ok (`adg) `ne rfl)];rfl
theorem cx0(S:RS)(ok:`fh)(w:`bE)(ws:`aY)(hw:`dg)(b:Nat)(hb:b<`jK)(nm:`k)(hnm:`adZ)
  (hin:`ad_):V7 `bJ [`d `ad0]=`aQg:=by
 obtain⟨c,hc⟩:∃c:Int,c=`ad0:=`ae;rw[← hc];refine T3 rfl λp=>⟨[`anC,`TL,.un],?_,rfl⟩
 show K4 [`cE,`TL,.un]=_;refine `GC;rw[yi0 (by
  refine `cs;show `a (`a2 (`w (c%2=0)))=_;rw[`q5])]
 refine W9 (T8 (yf0 (`U (d:=`iv) ?_ rfl) (Rg0 S ok w ws hw b hb nm hnm hin)));show `a (`aX (c/2))=_;congr 2;omega
universe Rk
namespace Bw
open DL W
noncomputable def y50:GS:=(v7 `abM
 (v7 `abN
 (v7 (T5 `M!
 (v7 `M?
 (v7 `Na
 t6)) 100000)
 (v7 `abO
 t6))))
noncomputable def y20:`g:=`abP
noncomputable def V0:`J:=`abQ
noncomputable def tj0:GS:=(v7 (ifD `abI
 (v7 `abJ
 t6)
 t6)
 (v7 `abK
 t6))
noncomputable def tt0:`g:=`gB
noncomputable def vi0:`J:=`abL
noncomputable def xl0:GS:=(v7 `abR
 t6)
noncomputable def y70:`g:=`tJ
noncomputable def R4:`J:=`abS
noncomputable def yo0:GS:=(v7 `abT
 t6)
noncomputable def yl0:`g:=`c_
noncomputable def G6:`J:=`abU
noncomputable def w00:GS:=(v7 (ifD `l3
 (v7 `abV
 t6)
 t6)
 (v7 `n5
 t6))
noncomputable def xq0:`g:=`c_
noncomputable def zi0:`J:=`abW
noncomputable def xu0:GS:=(v7 (ifD `l3
 (v7 `n5
 t6)
 t6)
 (v7 (ifD `u9
 (v7 `M9
 t6)
 t6)
 (v7 `u'
 (v7 (ifD `abE
 (v7 `abF
 t6)
 t6)
 (v7 (wp0 `px `bf
 (v7 `M'
 t6))
 (v7 `u!
 t6))))))
noncomputable def xp0:`g:=`abG
noncomputable def M4:`J:=`abH
universe Bw
namespace Bw
open DL W
theorem jg0{g:GE}{δ:Ds}{b:`aa}(h:`aMW):`aMX:=`aMY
noncomputable def dgf:Nat->Nat->`_
 | 0,_=>[]
 | f+1,r=>`aQl
noncomputable def dg(r:Nat):`_:=dgf r r
theorem Tj0:∀(f g r:Nat),r<=f->r<=g->dgf f r=dgf g r
 | 0,0,_,_,_=>rfl
 | 0,g+1,r,h,_=>by
  have:r=0:=`aQm;subst this;rfl
 | f+1,0,r,_,h=>by
  have:r=0:=`aQm;subst this;rfl
 | f+1,g+1,r,h1,h2=>by
  show (`aQl)=if r=0 then [] else `hi::dgf g `nf
  by_cases z:r=0
  ·rw[`Ca,`Ca]
  ·rw[`iX,`iX,Tj0 f g `nf `h `h]
theorem M60:dg 0=[]:=rfl
theorem Mq0(r:Nat)(h:r≠0):dg r=`hi::dg `nf:=by
 obtain⟨n,rfl⟩:∃n,r=n+1:=⟨r - 1,`C⟩;show (if n+1=0 then [] else ((128+`gM%128:Nat):Int)::dgf n (`gM/128))=_;rw[`dR,Tj0 n (`gM/128) (`gM/128) `h `bj];rfl
noncomputable def hi(r:Nat):`_:=(dg r).reverse
theorem Wq0:hi 0=[]:=by unfold hi;rw[M60];rfl
theorem Lt0(r:Nat)(h:r≠0):hi r=hi `nf++[`hi]:=by unfold hi;rw[Mq0 r h,`eG]
noncomputable def bs(n:Nat):`_:=hi `N_++[`Cb]
theorem Lc0:∀(m r:Nat),r<`Hj->(hi r).length<=m:=by
 intro m
 induction m with
 | zero =>
  intro r h;have h2:r=0:=by
   simp at h;exact h
  subst h2;rw[Wq0];exact `jd
 | succ m ih =>
  intro r h
  by_cases h0:r=0
  ·subst h0;rw[Wq0];exact `cQ
  ·rw[Lt0 r h0,`Z]
   have:`aQn:=`NV 2 m;have:=ih `nf `h;simp only[`V,`gr];omega
theorem Tc0(n:Nat)(h:`Cc):`aQo:=by
 unfold bs;rw[`Z];have:=Lc0 300 `N_ (`aQp);simp only[`V,`gr];omega
noncomputable def WT:GB:=`M!
noncomputable def WB:GS:=(v7 `M?
 (v7 `Na
 t6))
theorem wt(a b:Sl)(r:Nat):WT [a,b,`anD]=`a (`w (0<r)):=by
 show `a (`w (`hd<`jQ))=_
 by_cases h:0<r
 ·rw[`ir,`q5]
 ·rw[`iF,`dM]
theorem wh(a:Sl):∀(m r:Nat) (o:`_) (f:Nat),r<`Hj->m<f->`ad1+m<`L ->
  ∃s,T5 WT WB f `aQq=`a (.nx [a,.ow (`l ((o++dg r).map `d)),s])
 | m,r,o,0,_,hf,_=>`I hf `aOv
 | m,r,o,f+1,hr,hf,hl=>by
  by_cases h0:r=0
  ·subst h0
   unfold T5;rw[wt,M60,`cZ];exact`ae
  ·cases m with
   | zero=>simp at hr;omega
   | succ m =>
    have hb:WB `aQq=`a (.nx [a,.ow (`l ((o++[`hi]).map `d)),.sh (`d `N0)]):=by
     have e1:(128:Int)+`jQ%128=`hi:=`C
     have e2:`jQ/128=`N0:=`C
     refine u9 (`BX (l:=o.map `d) (d:=`d (128+`jQ%128)) rfl rfl `iw) ?_;rw[`aN,← e1,← e2];rfl
    have h2:r/128<`Hj:=by
     have:`aQn:=`NV 2 m;omega
    obtain⟨s,e⟩:=wh a m `nf (o++[`hi]) f h2 `h `aMV;refine⟨s,?_⟩;unfold T5;rw[wt,`q5];simp only[hb];rw[e,Mq0 r h0,`bp];rfl
theorem qz0(n:Nat)(h:`Cc):`aQr:=by
 have z:`c0:=`X
 have h2:`Hi<`Hk:=`aQp;obtain⟨s,e⟩:=wh (`bW) 300 `N_ [`Cb] 100000 h2 `p (by show 1+300<_;omega);refine S6 rfl ?_;have e1:`cw%128=`Cb:=`C
 have e2:`cw/128=`aQs:=`C
 refine u9 (δ':=[`bW,.ow (`l [`d `Cb]),.un]) (by rw[← e1];rfl) ?_;refine u9 (X3 (d:=`d `aQs) (by rw[← e2];rfl)) ?_;refine u9 e `oc;show `a (`eY (((`Cb::dg `N_).map `aX).reverse))=_;rw[← `adp,`eG];rfl
inductive Vb:`ad2
 | non:Vb `u
 | lk (j:Nat) (h:j<1000):Vb `nj
 | int (z:Int) (h:`ad3):Vb `ic
noncomputable def fold(z:Int):Nat:=if z<0 then (-2*z - 1).toNat else (2*z).toNat
theorem fold_lt(z:Int)(h:`ad3):`yN<2 ^ 252:=by
 unfold fold;have e:`aQt=4*`UK:=`aP
 generalize (2:Nat) ^ 250=w at h e;split<;>omega
theorem me0(z:Int):`aQu:=by
 by_cases h:z<0
 ·refine `n8
  rw[T6 (by show `aQv;rw[`ir])];refine `lp;rw[p6 (x:=`d (-2*z)) (y:=`cV) (by rw[p6 (x:=`d (-2)) (y:=`g9) rfl rfl];exact `od) rfl];have:`aQw=-2*z - 1:=by unfold fold;rw[`co];omega
  rw[`A];rfl
 ·refine Y0 rfl (u9 (δ':=[`cD]) (by rw[c7 (by show `aQv;rw[`iF])];rfl) `jN)
  rw[p6 (x:=`pt) (y:=`g9) rfl rfl,`od];have:`aQw=2*z:=by unfold fold;rw[`dR];omega
  rw[`A]
noncomputable def sg(s:Str):`_:=s.cps.toList.map λ(c:Nat)=>`G9
theorem cd0(s:Str):(sg s).length=`tm:=by unfold sg;rw[`F];rfl
theorem Re0(s:Str):zs0 `bD noT `al7 [.un] (`iT s)=`a `anI:=by
 unfold signs;rw[vh0 (λd=>match d with|`bH=>`d ((x.cps.toList.headD 0:Nat):Int)|_=>`u) (λd hd=>by
  obtain⟨c,hc,rfl⟩:=`c1;exact⟨[.sh (`r6)],rfl,rfl,rfl⟩)]
 unfold sg;rw[`bM,`bM];rfl
theorem c00(s:Str)(h:`ad4):`aQx :=
 S6 rfl (V4 (N6 (xv0 (items:=`iT s) rfl (by unfold signs;rw[`F];exact h) (Re0 s))))
theorem P10(a b:`_)(h:`aMU):si0 (`l (a.map `d)) (`l (b.map `d))=`a (`l ((a++b).map `d)):=by
 simp only[si0];rw[`N (by rw[`F,`F];exact h),`aN]
theorem Lg0{g:GE}{δ:Ds}{l e:`_}(h1:`h1=`aPu)(h2:`ar=`a (`l (e.map `d)))(h3:`aQy):`aQz=`a (.nx (`a0 i (.ow (`l ((l++e).map `d))))):=by
 unfold j6 wt0;rw[h1,h2];simp only[`f];rw[`N (by rw[`F,`F];exact h3),`aN];rfl
theorem Ph0{g:GE}{δ:Ds}{l e:`j}(h1:`aMR)(h2:`ar=`a (`l e))(h3:`aQy):`aQz=`a (.nx (`a0 i (.ow (`l (l++e))))):=by
 unfold j6 wt0;rw[h1,h2];simp only[`f];rw[`_A];rfl
noncomputable def Ib(d:D):Prop:=`aQA∨Vb d
theorem small(h:n<=100000000):`Cc:=P5 h `d7
theorem eg0{g:GE}{δ:Ds}{s:Str}(h:`ar=`a `fO)(hs:`ad4):oA `LJ V2 δ=`a (`aQB):=by
 rw[m5 (ds:=`Hm) `aQC];simp only[V2];rw[`N hs]
noncomputable def cnt:Pt->Nat
 | `q0=>`d'
 | `n7=>`bS
 | `l4=>`ax
 | `acb=>`ax
noncomputable def kn:Pt->Nat
 | `Nh=>0
 | .row _=>1
 | `ya _=>2
 | `m6 _ _=>3
noncomputable def two(p:`x?):`j:=`aMq
noncomputable def its:`aca
 | `Nh=>[]
 | `n7=>vs
 | `l4=>`ix
 | `BO=>`hX::`ix
noncomputable def tx:Pt->`_
 | `q0=>sg w
 | _=>[]
structure Gp(p:Pt):Prop where
 cnt:`oe
 len:`ad5<=50
 it:∀d∈`e_,Ib d
theorem K30{p:Pt}(h:Gp p):(tx p).length<=20:=by
 cases p with
 | text w=>show (sg w).length<=20;rw[cd0];exact h.cnt
 | _=>exact `cQ
theorem Qy0(p:Pt):`e0<=3:=by cases p<;>simp[kn]
theorem Op0{p:Pt}(h:`oe)(δ:Ds):oA `al' V2 (`lA::δ)=`a (`d `ad6):=by
 have z:`c0:=`X
 cases p with
 | text w =>
  have h:`d'<=20:=h;exact eg0 rfl `h
 | row vs=>rfl
 | table ps =>
  show `aQD;rw[`F];rfl
 | rcd c ps =>
  show `aQD;rw[`F];rfl
theorem Ic0(p:Pt)(δ:Ds):oA `al! `al? (`lA::δ)=`a (`aQE):=by
 cases p<;>kernel_rfl
theorem Ja0(a b:Nat):4*`Ej+`nd=((4*a+b:Nat):Int):=`C
theorem Wj0{p:Pt}(h:`oe):`aQF:=by
 refine `B8
 change o2 _ _ _ [`lA]=_
 rw[p6 (x:=`d (4*`ad6)) (y:=`aQE) (by
  rw[p6 (x:=`xZ) (y:=`d `ad6) rfl (Op0 h _)];exact `od) (Ic0 p _),← Ja0]
 rfl
theorem Xh0{p:Pt}(h:`oe):`aQG:=by
 have z:`c0:=`X
 cases p with
 | text w =>
  have h:`d'<=20:=h;refine `vr;rw[`hE];refine `Hf;rw[m5 (ds:=[`s w]) rfl];exact c00 w `h
 | row vs=>exact S6 rfl (u9 (δ':=[`N1]) `dC `tp)
 | table ps=>exact S6 rfl (u9 (δ':=[`Hr]) `dC `tp)
 | rcd c ps=>exact S6 rfl (u9 (δ':=[`yO]) `dC `tp)
noncomputable def HB:GS:=(v7 `M'
 t6)
theorem y40:∀ps:`bN,`aQH
 | []=>rfl
 | `ko=>by rw[`Cd,`Z,y40 ps,`V];show 2+_=_;omega
theorem Rn0{ps:`bN}{p:`x?}(h:`aE_):`aQI++two p=(`UM `qz).flatMap two:=by
 rw[`aQJ,h,List.flatMap_append];simp
theorem d00(a:Sl)(pre:`j)(ps:`bN)(hl:`eZ+2*`ax<=`L)(s:Sl):∃s',z20 `bf HB (`yb) `aQK=`a (.nx [a,.ow (`l (pre++`ix)),s']):=by
 obtain⟨δ',l1,l2⟩:=tu0 (f:=gN 2) (G:=HB) (λi δ=>∃s,δ=[a,.ow (`l (pre++(`UM i).flatMap two)),s]) (`yb) 0 `aQK (by
  rintro j d δ hj ⟨s,rfl⟩;rw[`ca] at hj;cases hp:ps[j]? with
  | none=>rw[hp] at hj;cases hj
  | some p =>
   rw[hp] at hj;cases hj;have J:=(`cL hp).1;rw[`jW];refine⟨_,_,rfl,u9 (Ph0 (l:=pre++`aQI) (e:=two p) rfl rfl (by
    rw[`Z,y40,`dJ];show _+2<=_;omega)) rfl,.sh (pr p),?_⟩
   rw[`bp,Rn0 hp];rfl) ⟨s,`aW⟩
 obtain⟨s',rfl⟩:=l2;refine⟨s',?_⟩;rw[l1,`jW,`F,`ad7]
theorem Wd0{p:Pt}(h:Gp p):`aQL:=by
 have z:`c0:=`X
 have hc:=h.cnt;cases p with
 | text w=>kernel_rfl
 | row vs =>
  refine S6 rfl (u9 (δ':=[`N1,.un,.un]) `dC `He);rw[`hE];rfl
 | table ps =>
  have hc:`N2:=hc;obtain⟨s',e⟩:=d00 (`Hr) [] ps (by simp only[`gr];omega) .un;refine S6 rfl (u9 (δ':=`aQM) `dC (u9 (δ':=`aQM) `dC (u9 (δ':=`aQN) rfl (u9 (δ':=`aQN) `dC `aQO))))
 | rcd c ps =>
  have hc:`N2:=hc;obtain⟨s',e⟩:=d00 (`yO) [`hX] ps `GK .un;refine S6 rfl (u9 (δ':=`aQP) `dC (u9 (δ':=`aQP) `dC (u9 (δ':=[`yO,`fD,.un]) rfl (u9 (δ':=[`yO,.ow (`l [`hX]),.un]) (by rw[`hE];rfl) `aQO))))
structure Gq(p:Pt):Prop where
 cnt:`oe
 vals:∀v∈`gy,`hm
 names:∀s∈`vd,`p0
 few:`yQ<=12
theorem Xg0{ps:`bN}(h1:∀v∈`hj,`hm)(h2:∀s∈`gs,`p0):∀d∈ps,`aQQ:=λd hd=>⟨h2 _ `aQR,h1 _ `aQR⟩
theorem Vf0{ps:`bN}(h:∀d∈ps,`aQQ):∀d∈`ix,Ib d:=λd hd=>by
 obtain⟨p,hp,hm⟩:=i3.mp hd;obtain⟨q1,q2⟩:=h p hp;unfold two at hm;rcases `NU with rfl|hm
 ·exact `o ⟨_,rfl,q1⟩
 ·rw[`ad8];exact `n q2
theorem Gq.gp{p:Pt}(h:Gq p):Gp p:=by
 obtain⟨h1,h2,h3⟩:=h;cases p with
 | text w=>exact⟨h1,`cQ,λd hd=>by cases hd⟩
 | row vs=>exact⟨h1,by have:`bS<=20:=h1;show `bS<=50;omega,λd hd=>`n (h2 d hd)⟩
 | table ps =>
  have hp:=`aQS
  exact⟨h1,by have:`N2:=h1;show `Hq<=50;rw[y40];omega,Vf0 hp⟩
 | rcd c ps =>
  have hp:=`aQS
  refine⟨h1,by have:`N2:=h1;show `ad9<=50;rw[`V,y40];omega,`vt⟩;rcases `i1 with rfl|hd
  ·exact `o ⟨_,rfl,h3 c (D5 _ (`ad'))⟩
  ·exact Vf0 hp d hd
noncomputable def web(ps:`bv):D:=`aN3
noncomputable def Lk(m:Nat)(v:D):Prop:=∀j:Nat,v=`tl->j<m
theorem Pi0(h:i<m):Lk m `HF:=λj e=>by
 injection e with e
 injection e with _ e
 injection e with e _
 injection e with e
 omega
universe Bw
namespace K22
open DL W
theorem sub_len:∀{l m:`k},`aPJ
 | [],m,_,_=>`cQ
 | a::l,m,h,hs=>by
  obtain⟨h1,h2⟩:=D7.mp h;obtain⟨m1,m2,rfl⟩:=List.append_of_mem (hs a A6);have:=`ad! (m:=m1++m2) h2 λb hb=>by
   have:=hs b (`IP);rcases `dl `A with q|q
   ·exact B3.mpr (`nE)
   ·rcases `bZ q with rfl|q
    ·exact `I hb h1
    ·exact B3.mpr (`n q)
  simp only[`Z,`V] at this ⊢;omega
noncomputable def nd(l:`k):`j:=`er λ(i:Nat)=>`aX `rQ
noncomputable def tgs(vs:`j):`k:=vs.filterMap λv=>match v with|`Ce=>`a `hS|_=>`c
theorem md0(a b:`k):nd `Gz=nd a++nd b:=by unfold nd;rw[`aN]
theorem L40(a:`k):(nd a).reverse=nd a.reverse:=by unfold nd;rw[`adp]
theorem pq0(a:`k):(nd a).length=`TI:=by simp[nd]
theorem K50(o:`k)(x:Nat):((nd o).any λy=>eqF y (`d `Cf))=`w (x∈o):=by
 unfold nd;rw[List.any_map,`t',`abm,`qN];constructor
 ·rintro⟨y,hy,e⟩
  have e:`w ((y:Int)=`Cf)=`b:=e;have e:=w8 e;have:y=x:=`C
  subst this;exact hy
 ·intro h
  exact⟨x,h,show `w (`Cf=`Cf)=`b from M0 rfl⟩
theorem R10(o:`k):((nd o).all λd=>`cm d)=`b:=by
 unfold nd;rw[`_J,`l2];exact `lT
theorem Ko0(o:`k)(x:Nat):wm0 `b (`d `Cf) (`l (nd o))=`a (.bl (`w (x∉o))):=by
 simp only[wm0];rw[`N ⟨rfl,R10 o⟩,K50];congr 2
 by_cases h:x∈o<;>simp[h]
noncomputable def Lv(n:Nat)(v:D):Prop:=`rI∨(∃z,v=`g9)∨∃j:Nat,v=`tl/\j<n
noncomputable def lkv(f:`eJ):`kf
 | `Ce=>`t [`g!,`d (f `hS:Int)]
 | v=>v
noncomputable def rel(f:`eJ)(p:Pt):Pt:=`ng p (`yY (lkv f))
theorem Z30{vs:`j}(h:`cT `anE∈vs):j∈tgs vs:=k9.mpr ⟨_,h,by simp only[`bo]⟩
theorem j20(p:Pt)(vs:`j)(h:`ad?):(`aea).vals=vs:=by
 cases p with
 | text w=>exact(Dm0 h).symm
 | row us=>rfl
 | table ps =>
  show `aQT;refine Dt0 ?_;have h':`aQU:=h;simp only[`F] at h' ⊢;omega
 | rcd c ps =>
  show `aQT;refine Dt0 ?_;have h':`aQU:=h;simp only[`F] at h' ⊢;omega
universe K22
namespace Km
open DL W K22
noncomputable def y50:GS:=(v7 `abM
 (v7 `abN
 (v7 (T5 `M!
 (v7 `M?
 (v7 `Na
 t6)) 100000)
 (v7 `abO
 t6))))
noncomputable def y20:`g:=`abP
noncomputable def V0:`J:=`abQ
noncomputable def tj0:GS:=(v7 (ifD `abI
 (v7 `abJ
 t6)
 t6)
 (v7 `abK
 t6))
noncomputable def tt0:`g:=`gB
noncomputable def vi0:`J:=`abL
noncomputable def nd0:GS:=(v7 `aLl
 t6)
noncomputable def tl0:`g:=`jX
noncomputable def z60:`J:=`aLm
noncomputable def xl0:GS:=(v7 `abR
 t6)
noncomputable def y70:`g:=`tJ
noncomputable def R4:`J:=`abS
noncomputable def t30:GS:=(v7 (ifD `aLr
 (v7 `aLs
 t6)
 t6)
 (v7 `aLt
 t6))
noncomputable def t40:`g:=`BN
noncomputable def xy0:`J:=`aLu
noncomputable def yo0:GS:=(v7 `abT
 t6)
noncomputable def yl0:`g:=`c_
noncomputable def G6:`J:=`abU
noncomputable def w00:GS:=(v7 (ifD `l3
 (v7 `abV
 t6)
 t6)
 (v7 `n5
 t6))
noncomputable def xq0:`g:=`c_
noncomputable def zi0:`J:=`abW
noncomputable def uu0:GS:=(v7 (ifD `aLn
 (v7 `M3
 t6)
 t6)
 (v7 (ifD `sR
 (v7 `aLo
 t6)
 t6)
 (v7 `aLp
 t6)))
noncomputable def t60:`g:=`jX
noncomputable def zl0:`J:=`aLq
noncomputable def uq0:GS:=(v7 (ifD `abX
 (v7 `aLv
 t6)
 t6)
 (v7 (ifD `aLw
 (v7 `aLx
 (v7 `aLy
 t6))
 t6)
 (v7 `aLz
 t6)))
noncomputable def t70:`g:=`aLA
noncomputable def zm0:`J:=`aLB
noncomputable def xu0:GS:=(v7 (ifD `l3
 (v7 `n5
 t6)
 t6)
 (v7 (ifD `u9
 (v7 `M9
 t6)
 t6)
 (v7 `u'
 (v7 (ifD `abE
 (v7 `abF
 t6)
 t6)
 (v7 (wp0 `px `bf
 (v7 `M'
 t6))
 (v7 `u!
 t6))))))
noncomputable def xp0:`g:=`abG
noncomputable def M4:`J:=`abH
noncomputable def iz0:GS:=(v7 `u'
 (v7 `aLC
 (v7 `aLD
 (v7 `aLE
 (v7 (T5 `abY
 (v7 `abZ
 (v7 `ab_
 (v7 (ifD `ab0
 (v7 `ab1
 t6)
 (v7 (ifD `ab2
 (v7 `ab3
 (v7 `ab4
 t6))
 t6)
 t6))
 t6))) 100000)
 (v7 `u!
 t6))))))
noncomputable def he0:`g:=`aLF
noncomputable def vz0:`J:=`aLG
universe Km
namespace Km
open DL W K22
open Bw (bs sg cnt kn its tx fold Vb Gp Gq)
noncomputable def pd(ks:`fB):D:=`cy `Ed `aeb
noncomputable def ix{α:Type}[`B']:`aH->α->Nat
 | [],_=>0
 | b::l,a=>if b=a then 0 else `N3+1
theorem ol0[`B']:∀{l:`aH} {a:α},a∈l->`N3<`dL
 | [],_,h=>by cases h
 | b::l,a,h=>by
  unfold ix;rw[`V]
  by_cases e:b=a
  ·rw[`fe];omega
  ·have:=ol0 (l:=l) (a:=a) `N4
   rw[`ed];omega
theorem ga0[`B']:∀{l:`aH} {a:α},a∈l->l[`N3]?=`jj
 | [],_,h=>by cases h
 | b::l,a,h=>by
  unfold ix
  by_cases e:b=a
  ·rw[`fe,e];rfl
  ·rw[`ed,`aHh]
   exact ga0 `N4
theorem ce0:∀(ks:`fB) (s:Nat) (k:K6),`N5->vv0 ks (nd (`xI s `gh)) k=`a (`d ((s+`N6:Nat):Int))
 | [],s,k,h=>by cases h
 | a::ks,s,k,h=>by
  rw[`V,`aaw];show (if a=k then `a (`aX `pE) else vv0 ks (nd (`xI (s+1) `gh)) k)=_;unfold ix
  by_cases e:a=k
  ·rw[`fe,`fe]
   rfl
  ·have hk:`N5:=`anQ
   rw[`ed,`ed,ce0 ks (s+1) k hk,show s+1+`N6=s+(`N6+1) by omega]
theorem cm0{ks:`fB}{k:K6}(h:`N5):vv0 ks `aeb k=`a (`d (`N6:Int)):=by
 rw[`aPC,ce0 ks 0 k h,`jW]
theorem lu0(ks:`fB)(k:K6):`xo=`b↔`N5:=by
 unfold ya0;rw[`abm];constructor
 ·rintro⟨x,hx,e⟩
  rw[← `aaz e];exact hx
 ·intro h
  exact⟨k,h,M0 rfl⟩
theorem dz0{ks:`fB}{k:K6}(h:k∉ks):`xo=`q:=by
 cases e:`xo with
 | false=>rfl
 | true=>exact `I ((lu0 ks k).mp e) h
theorem T70{ks:`fB}{k:K6}(h:k∉ks):(`cy `aHz (xg0 ks `aeb k (`d (`gh:Int))):D)=pd (ks++[k]):=by
 unfold xh0 xg0 pd;rw[dz0 h,`kn,`kn,`Z,`cn,`acP,md0];rfl
theorem idx_map[`B'][`EM β](f:α->β)(a:α):∀l:`aH,(∀b∈l,f b=f a->b=a)->ix (`er f) (f a)=`N3
 | [],_=>rfl
 | b::l,h=>by
  rw[`T];unfold ix
  by_cases e:b=a
  ·rw[`fe,`N (`acV)]
  ·rw[`ed,`ai (λz=>e (h b A6 z)),`N7 f a l λc hc=>h c (A4 _ hc)]
noncomputable def kb(B:`k):`fB:=B.map `aQV
noncomputable def kt(T:`g):`fB:=T.map `aQW
theorem kb_mem(B:`k)(j:Nat):`aQX∈kb B↔`dy:=by
 unfold kb;rw[`aec];constructor
 ·rintro⟨k,hk,e⟩
  have:`bU=`bV:=`N8
  have:k=j:=`C
  rw[← `A];exact hk
 ·exact λh=>⟨j,h,rfl⟩
theorem q20(T:`g)(s:Str):`UP∈kt T↔`lq:=by
 unfold kt;rw[`aec];constructor
 ·rintro⟨k,hk,e⟩
  have:k=s:=`N8
  rw[← `A];exact hk
 ·exact λh=>⟨s,h,rfl⟩
theorem Mb0(B:`k)(j:Nat):ix `ts `aQX=`tt:=`N7 (`aQV) j B λb _ e=>by
 have:`nd=`bV:=`N8
 omega
theorem L50(T:`g)(s:Str):ix `tq `UP=`Ht:=`N7 (`aQW) s T λb _ e=>`N8
theorem Vo0(B:`k):`Cg=`bG:=by unfold kb;rw[`F]
theorem kt_len(T:`g):`yU=`jR:=by unfold kt;rw[`F]
structure Wb(ps:`bv):Prop where
 len:0<`ax/\`ac3
 it:∀p∈ps,Gq p
 lk:∀p∈ps,∀v∈`gy,Bw.Lk `ax v
noncomputable def It(n:Nat)(d:D):Prop:=`aQA∨`mE∨(∃z:Int,d=`g9/\`ad3)∨∃j:Nat,d=`tl/\j<n
theorem It.of{v:D}(h:`hm)(hl:Bw.Lk n v):It n v:=by
 cases h with
 | non=>exact `n `fm
 | lk j _=>exact `n (`n (`n ⟨j,rfl,hl j rfl⟩))
 | int z hz=>exact `n (`n (`o ⟨z,rfl,hz⟩))
noncomputable def hb(ps:`bv)(B:`k)(T:`g):D->`_
 | `ey=>`N9
 | `Ce=>if `aed then bs (4*(`bG - 1 - ix B `hS)+2) else bs (4*(4*cnt `N'+kn `N')+3)++tx `N'
 | `g9=>bs (4*`yN+1)
 | _=>bs 0
theorem qz0(n:Nat)(h:`Cc):`aQr:=Bw.qz0 n h
theorem c00(s:Str)(h:`ad4):`aQx:=Bw.c00 s h
theorem Wj0{p:Pt}(h:`oe):`aQF:=Bw.Wj0 h
theorem Xh0{p:Pt}(h:`oe):`aQG:=Bw.Xh0 h
theorem Wd0{p:Pt}(h:Gp p):`aQL:=Bw.Wd0 h
theorem me0(z:Int):`aQu:=Bw.me0 z
theorem Vv0(ks:`fB):xd0 [pd ks]=`a (`d (`gh:Int)):=rfl
theorem Oo0(T:`g)(s:Str):vc0 `q `fO `Hx=`a (.bl `aQY):=by
 show `a (`a2 (xor `q (`aQZ)))=_;rw[`uP]
 by_cases h:`lq
 ·rw[`aQ_,`ir]
 ·rw[`aQ0,`iF]
theorem Qu0(B:`k)(j:Nat):vc0 `b `sz `Hz=`aQ1:=by
 show `a (`a2 (xor `b (ya0 `ts `N!)))=_
 by_cases h:`dy
 ·rw[`anV ((`N?).mpr h),`Oa];rfl
 ·rw[dz0 (λz=>h ((`N?).mp z)),`ir];rfl
theorem R00{T:`g}{s:Str}(h:`lq):p30 `Hx `fO=`a (`aQ2):=by
 show `aQ3=_;rw[`aQ4,L50]
theorem Vr0{B:`k}(h:`dy):p30 `Hz `sz=`a (`aQ5):=by
 show vv0 `ts (nd (`bl `Cg)) `N!=_;rw[cm0 ((`N?).mpr h),Mb0]
theorem Nt0(T:`g)(hT:`Ob)(s:Str)(hs:`p0)(ps:`bv)(B:`k):xy0 `aQ6=`a (`l ((`aee).map `d)):=by
 have z:`c0:=`X
 have ht:ob `al9 `Oc=`a `aQY:=by
  unfold ob;rw[p6 (x:=`ey) (y:=`tr) rfl rfl,Oo0];rfl
 show _=`a (`eY ((`N9).map `d))
 by_cases h:`lq
 ·rw[`ir] at ht
  rw[`co];have J:=ol0 h;refine `vr;show ifD _ _ _ `Oc=_;rw[T6 ht];refine `Hf;rw[m5 (ds:=[`d ((`anS:Nat):Int)]) (`U (by
   rw[p6 (x:=`pt) (y:=`d (`aef - 1 - `anZ)) rfl (by
    rw[p6 (x:=`d (`aef - 1)) (y:=`aQ2) (by
     rw[p6 (x:=`d `aef) (y:=`cV) (by rw[m5 (ds:=[`tr]) rfl,Vv0,kt_len]) rfl];rfl) (by rw[p6 (x:=`tr) (y:=`ey) rfl rfl,R00 h])]
    rfl),`od]
   congr 2;omega) rfl)]
  exact `Od
 ·rw[`iF] at ht
  rw[`dR];refine S6 rfl (u9 (δ':=`Oc) (by
   show ifD _ _ _ `Oc=_;rw[c7 ht];rfl) `oc)
  have h1:=Bw.Tc0 `Hu `ni;have h2:=Bw.cd0 s;rw[p6 (x:=`l ((bs `Hu).map `d)) (y:=`anJ) (by
   rw[m5 (ds:=[`d ((2*`tm+1:Nat):Int)]) (`U (by
    rw[p6 (x:=`d (2*`anK)) (y:=`cV) (by
     rw[p6 (x:=`pt) (y:=`aQB) rfl (Bw.eg0 rfl `h)];exact `od) rfl]
    show `Oe;congr 2) rfl)]
   exact `Od) (by rw[m5 (ds:=`Hm) rfl];exact c00 s `h)]
  exact `aQ7
theorem cg0(B:`k)(j:Nat):z60 `HB=`aQ1:=by
 refine `B8;unfold tg0;rw[show ob `pu (T4 tl0 `HB)=`eb from rfl,`f,`bm];rw[p6 (x:=`eX) (y:=`jS) rfl rfl];exact Qu0 B j
theorem k70{d:D}(h:`lj d=`q)(B:`k):z60 [d,`jS]=`qv:=by
 refine `B8;unfold tg0;rw[show ob `pu (T4 tl0 [d,`jS])=`a (`lj d) from rfl,h];rfl
theorem Si0(X:D):zl0 [`u,X]=`a (`aQ8):=`cC
theorem R30(z:Int)(X:D):zl0 [`g9,X]=`a (`d ((4*`yN+1:Nat):Int)):=by
 refine Y0 rfl (u9 (δ':=`aQ9) `kt (u9 (δ':=`aQ9) `kt `jN));rw[p6 (x:=`d (4*`anG)) (y:=`cV) (by
  rw[p6 (x:=`xZ) (y:=`anH) rfl (by rw[m5 (ds:=`Hl) rfl,me0])];exact `od) rfl]
 show `Oe;congr 2
theorem Tn0{B:`k}(h:`dy):zl0 `HB=`a (`aQ'):=by
 have J:=ol0 h;refine Y0 rfl (u9 (δ':=[`nm,`HA]) `kt `il);rw[`ve];refine `lp;rw[p6 (x:=`d (4*`aQ!)) (y:=`pt) (by
  rw[p6 (x:=`xZ) (y:=`d `aQ!) rfl (by
   rw[p6 (x:=`d (`UR - 1)) (y:=`aQ5) (by
    rw[p6 (x:=`d `UR) (y:=`cV) (by rw[m5 (ds:=[`jS]) rfl,Vv0,Vo0]) rfl];rfl) (by rw[p6 (x:=`jS) (y:=`eX) rfl rfl,Vr0 h])]
   rfl)]
  exact `od) rfl]
 show `Oe;congr 2;omega
theorem O3(hj:`iA):ixD `p2 `sz=`a (`hl).d/\`hl∈ps:=by
 constructor
 ·show atI `pK `bV=_
  rw[`adY,`bo];simp[`bg,hj]
 ·rw[`bg,`aay]
  exact L3 hj
theorem i80(l:`_):`k9 (`er `aX)=`b:=by
 unfold flats;rw[`_J,`l2];exact `lT
theorem Y30(hw:`dD){B:`k}{T:`g}(hB:`vu)(hT:`Ob){d:D}(hd:`no):zm0 `aQ?=`a (`l ((`p3).map `d))/\(`p3).length<=400:=by
 have z:`c0:=`X
 have one:∀n:Nat,`Cc->`aQo:=Bw.Tc0;rcases hd with⟨s,rfl,hs⟩|rfl|⟨x,rfl,hx⟩|⟨j,rfl,hj⟩
 ·refine⟨`vr,?_⟩
  ·rw[`ve]
   refine `Hf;rw[m5 (ds:=`aQ6) rfl];exact Nt0 T hT s hs ps B
  ·show (`N9).length<=400
   split
   ·have:=one `anT `ni;omega
   ·have:=one `Hu `ni
    have:=Bw.cd0 s;rw[`Z];omega
 ·refine⟨S6 rfl (u9 (δ':=`aeg) `kt (u9 (δ':=`aeg) ?_ `oc)),?_⟩
  ·show ifD _ _ _ `aeg=_
   rw[c7 (`q! `aRa)];rfl
  ·rw[m5 (ds:=[`aQ8]) (`U (by rw[`an1];exact Si0 _) rfl)]
   exact qz0 0 `ni
  ·exact B9 (one 0 `ni) `h
 ·have hf:`aRb<`Hk:=by
   have:=Bw.fold_lt x hx;have e:8*`aQt<`Hk:=`aP
   generalize (2:Nat) ^ 300=w at e;omega
  refine⟨S6 rfl (u9 (δ':=`aeh) `kt (u9 (δ':=`aeh) ?_ `oc)),?_⟩
  ·show ifD _ _ _ `aeh=_
   rw[c7 (`q! `aRc)];rfl
  ·rw[m5 (ds:=[`d ((`aRb:Nat):Int)]) (`U (by rw[`an3];exact R30 x _) rfl)]
   exact qz0 _ hf
  ·exact B9 (one _ hf) `h
 ·have J:∀G:GS,ifD `abX G t6 `Of=`a (.nx `Of):=λG=>`amQ
  have ht:ob `ama `Of=`aei:=`q! `aRd;have M:`an7=`aRe:=by
   unfold hb;simp only[`bo]
  rw[M];obtain⟨w1,w2⟩:=O3 hj;have hq:=`ls
  by_cases h:`dy
  ·rw[`Oa] at ht
   rw[`co];refine⟨S6 rfl (u9 (J _) (u9 (δ':=`Of) ?_ `oc)),?_⟩
   ·rw[c7 ht];rfl
   ·rw[m5 (ds:=[`aQ']) (`U (by rw[`an4];exact Tn0 h) rfl)]
    exact `Od
   ·exact B9 (one _ `ni) `h
  ·rw[`ir] at ht
   rw[`dR];generalize `hl=p at w1 w2 hq ⊢;have hc:=hq.cnt;have O:=Bw.Qy0 p;have h1:=one (4*(`Ho)+3) `ni;have h2:=Bw.K30 hq.gp;refine⟨S6 rfl (u9 (J _) `He),`aof⟩;rw[T6 ht];refine u9 `aRf `oc
   ·rw[`an']
    exact w1
   ·rw[p6 (x:=`l ((bs (4*(`Ho)+3)).map `d)) (y:=`anN) (by
     rw[m5 (ds:=[`d ((4*(`Ho)+3:Nat):Int)]) (`U (by
      rw[p6 (x:=`d (4*`anL)) (y:=`d 3) (by
       rw[p6 (x:=`xZ) (y:=`anM) rfl (by rw[`Og];exact Wj0 hc)];exact `od) rfl]
      show `Oe;congr 2) rfl)]
     exact `Od) (by rw[`Og];exact Xh0 hc)]
    exact `aQ7
noncomputable def nB(B:`k):D->`k
 | `Ce=>if `aed then B else B++[`hS]
 | _=>B
noncomputable def nT(T:`g):D->`g
 | `ey=>`aej
 | _=>T
noncomputable def nW(ps:`bv)(B:`k)(W:`j):D->`j
 | `Ce=>if `aed then W else its `N'++W
 | _=>W
noncomputable def pk(ps:`bv):Nat->`k->`g->`j->`_
 | 0,_,_,_=>[]
 | _+1,_,_,[]=>[]
 | f+1,B,T,d::W=>`aRg
noncomputable def st(ps:`bv)(o:`_)(B:`k)(T:`g)(W:`j)(s:Sl):Ds:=[`aF,`UJ,`aek,`UT,.ow (`l `yX),s]
noncomputable def PT:GB:=`abY
noncomputable def PB:GS:=(v7 `abZ
 (v7 `ab_
 (v7 (ifD `ab0
 (v7 `ab1
 t6)
 (v7 (ifD `ab2
 (v7 `ab3
 (v7 `ab4
 t6))
 t6)
 t6))
 t6)))
theorem Wo0(ps:`bv)(o:`_)(B:`k)(T:`g)(W:`j)(s:Sl):PT `aRh=`a (`w (0<`tv)):=by
 show `a (`w (`hd<(W.reverse.length:Int)))=_;rw[`ip];congr 1
 by_cases h:0<`tv
 ·rw[`ir,`q5]
 ·rw[`iF,`dM]
theorem Mf0{T:`g}{s:Str}(hT:`Ob)(a b c e:Sl):j6 `ame `ael=`a (.nx [a,b,c,.ow (pd (kt `y3)),e,`nh]):=by
 have zs:`aem:=`X
 have e1:jf0 3 `g' `amd `ael=if `yU<`L then (if `aQZ=`b then (`aQ3).map λr=>(r,(`ael:Ds)) else `a (`aRi,[a,b,c,.ow (`cy (`o (xh0 `tq `Hw)) (xg0 `tq (nd (`bl `yU)) `Hw (`aRi))),e,`nh])) else `c:=rfl
 unfold j6;rw[e1,`N (by rw[kt_len];omega)];show `f1 _ _=`a (`B1 [a,b,c,.ow (pd (kt (`aej))),e,`nh])
 by_cases h:`lq
 ·rw[`N (`aQ_),`aQ4,`co]
  rfl
 ·rw[`aQ0,`kn,T70 `anX,`dR]
  show `a (`B1 [a,b,c,.ow (pd (kt T++[`n s])),e,`nh])=_;unfold kt;rw[`aN];rfl
theorem Lu0{B:`k}(hB:`vu)(hj:`yT)(a b c e:Sl):Q0 `amh `ami [a,b,`aek,c,e,`nm]=`a (.nx [a,b,.ow (pd (kb `iy)),c,e,`nm]):=by
 have zs:`aem:=`X
 show `f1 `B1 (if `Cg<`L then `a ([a,b,.ow (`cy (`o (xh0 `ts `N!)) (xg0 `ts (nd (`bl `Cg)) `N! (`d (`Cg:Int)))),c,e,`nm]:Ds) else `c)=_;rw[`N (by rw[Vo0];omega),T70 (λz=>hj ((`N?).mp z))];unfold kb;rw[`aN];rfl
theorem fn0(hw:`dD){o:`_}{B:`k}{T:`g}{W:`j}{d:D}(s:Sl)(hB:`vu)(hT:`Ob)(hd:`no)(ho:`ad1<=5000000)(hW:`tv<=10000) :
  PB `aRj=`a (.nx (st ps `aen (`tu) (nT T d) (`yW) `r0)):=by
 have zs:(9000000:Nat)<=`L:=`X
 obtain⟨i1,i2⟩:=Y30 hw hB hT hd;have p1:Q0 (q60 4) `sM `aRj=`a (.nx `aRk):=by
  unfold st Q0 q60;rw[`eG];show `gt (`f1 (λd'=>(d',([`aF,`UJ,`aek,`UT,.ow (`l (`aRl).dropLast),s]:Ds))) (`aRl).getLast?) _=_;rw[`aRm,`ND];rfl
 have p2:j6 `amc `aRk=`a (.nx (st ps `aen B T W `r0)) :=
  Bw.Lg0 (l:=o) (e:=`p3) rfl (X30 (by rw[m5 (ds:=`aQ?) rfl];exact i1) (i80 _)) `h
 refine u9 p1 (u9 p2 ?_);rcases hd with⟨x,rfl,hs⟩|rfl|⟨x,rfl,hx⟩|⟨j,rfl,hj⟩
 ·refine u9 (δ':=st ps (o++hb ps B T `lI) B (nT T `lI) W (.sh `lI)) ?_ rfl
  rw[`ve];exact u9 (Mf0 hT _ _ _ _) rfl
 ·refine `aRn
  rw[`yg];refine `aRn;rw[c7 (`q! (rf0 `aRa rfl))];rfl
 ·refine `aRo
  rw[`yg];refine `aRo;rw[c7 (`q! (rf0 `aRc rfl))];rfl
 ·obtain⟨w1,w2⟩:=O3 hj
  have ht:ob `amf (`an9)=`aei :=
   `q! (rf0 `aRd rfl)
  have e1:`aRp:=`aRq
  have e2:`aRr:=`aRs
  have e3:nT T `nj=T:=rfl;rw[e1,e2,e3]
  by_cases h:`dy
  ·rw[`co,`co]
   rw[`Oa] at ht;refine `aRt;rw[`yg];refine `aRt;rw[c7 ht];rfl
  ·rw[`dR,`dR]
   rw[`ir] at ht;have hq:=`ls;generalize `hl=p at w1 w2 hq ⊢;have J:=hq.gp.len;have p4:j6 `amj (st ps `UU `iy T W (`nm))=`a (.nx (`an!)):=by
    refine(Bw.Ph0 (l:=`yX) (e:=(`e_).reverse) rfl (by
     rw[m5 (ds:=[`l (`e_)]) (`U (by
      rw[`aRu];exact Wd0 hq.gp) rfl)]
     rfl) (by rw[`ip,`ip];omega)).trans ?_
    unfold st;rw[`ado];rfl
   refine `aRv;rw[`yg];refine `aRv;rw[T6 ht];exact u9 (Lu0 hB h _ _ _ _) (u9 p4 rfl)
universe Km
namespace Km
open DL W K22
open Bw (bs sg cnt kn its tx fold Vb Gp Gq two)
noncomputable def lkd(j:Nat):D:=`tl
theorem Ts0{P:`ad2}(hs:`aRw){ps:`bN}(h1:∀v∈`hj,P v)(h2:∀s∈`gs,`p0):∀d∈`ix,P d:=λd hd=>by
 obtain⟨p,hp,hm⟩:=i3.mp hd;unfold two at hm;rcases `NU with rfl|hm
 ·exact hs _ (h2 _ `aRx)
 ·rw[`ad8];exact h1 _ `aRx
theorem Xd0{P:`ad2}(hs:`aRw){p:Pt}(hn:∀s∈`vd,`p0)(hv:∀v∈`gy,P v):∀d∈`e_,P d:=by
 cases p with
 | text w=>intro d hd;cases hd
 | row vs=>exact hv
 | table ps=>exact Ts0 hs hv `aRy
 | rcd c ps =>
  intro d hd;rcases `i1 with rfl|hd
  ·exact hs c (hn c (D5 _ (`ad')))
  ·exact Ts0 hs hv (`aRy) d hd
theorem Wb.its(hw:`dD){p:Pt}(hp:p∈ps):∀d∈`e_,`no :=
 Xd0 (λs h=>`o ⟨s,rfl,h⟩) (`an?).names λv hv=>.of `aRz (hw.lk p hp v hv)
theorem Sl0(hw:`dD):∀(M f:Nat) (o:`_) (B:`k) (T:`g) (W:`j) (s:Sl),`aoc->M<f->M<=4000->`ad1+400*M<=4000000->`jR+M<=20000->`q?->(∀x∈B,`ra)->(∀d∈W,`no) ->
  (o++`aeo).length<=4000000/\∃B' T' s',T5 PT PB f `aRh=`a (.nx (st ps (o++`aeo) B' T' [] s')):=by
 intro M
 induction M with
 | zero =>
  intro f o B T W s h1 h2 _ h4 _ _ _ _;have:W=[]:=b6.mp `h;subst this;obtain⟨g,rfl⟩:∃g,f=g+1:=`aRA;rw[pk,`cZ];refine`aRB;unfold T5;rw[Wo0,`b6 `aw]
 | succ M ih =>
  intro f o B T W s h1 h2 h3 h4 h5 hn J hW;obtain⟨g,rfl⟩:∃g,f=g+1:=`aRA;cases W with
  | nil =>
   rw[pk,`cZ];refine`aRB;unfold T5;rw[Wo0,`b6 `aw]
  | cons d W =>
   rw[`V] at h1;have hd:=hW d A6;have O:∀d∈W,`no:=`aRC
   have a2:`bG<=`ax:=by
    have:=`ad! hn (m:=`nr) λy hy=>`fL (J y hy)
    rwa [i4] at this
   have a3:=hw.len.2;have sp:=fn0 hw s (o:=o) (B:=B) (T:=T) (W:=W) (d:=d) `h `h hd `h `h;obtain⟨_,i2⟩:=Y30 hw (B:=B) (T:=T) `h `h hd;have Z:(`yW).length+51*(`ax - (`tu).length)<=M/\(nT T d).length<=`jR+1/\(`tu).Nodup/\(∀x∈`tu,`ra)/\∀e∈`yW,It `ax e:=by
    rcases hd with⟨x,rfl,hs⟩|rfl|⟨x,rfl,hx⟩|⟨j,rfl,hj⟩
    ·refine⟨`aod,?_,hn,J,O⟩
     show (if x∈T then T else T++[x]).length<=_;split
     ·omega
     ·rw[`Z,`cn];omega
    ·exact`aRD
    ·exact`aRD
    ·have e1:`aRp:=`aRq
     have e2:`aRr:=`aRs
     rw[e1,e2]
     by_cases h:`dy
     ·rw[`co,`co]
      exact⟨`C,`UW,hn,J,O⟩
     ·rw[`dR,`dR]
      obtain⟨_,w2⟩:=O3 hj;have a1:=(`ls).gp.len;have Y:`aRE:=t5.mpr ⟨hn,`aW,`aRF⟩;have U:∀x∈`lr,`ra:=λx hx=>by
       rcases `nZ with z|z
       ·exact J x z
       ·rw[`hD];exact hj
      have hl2:`aRG<=`ax:=by
       have:=`ad! Y (m:=`nr) λy hy=>`fL (U y hy)
       rwa [i4] at this
      refine⟨?_,`UW,Y,U,λe he=>?_⟩
      ·rw[`Z] at hl2 ⊢
       rw[`Z];simp only[`cn] at hl2 ⊢;omega
      ·rcases `dl he with z|z
       ·exact `tw w2 e z
       ·exact O e z
   obtain⟨k1,k2,k3,k4,k5⟩:=Z;have:=ih g `aen (`tu) (nT T d) (`yW) `r0 k1 `h `h `Oh `h k3 k4 k5;rw[`bp] at this;obtain⟨q0,B',T',s',q⟩:=`A;refine⟨q0,B',T',s',?_⟩;unfold T5;rw[Wo0,`bF (`lt)];simp only[sp];exact q
noncomputable def pak(ps:`bv)(r:Nat):`_:=pk ps 100000 [] [] [lkd r]
theorem Yd0(hw:`dD):vz0 `tD=`a (`l ((pak ps 0).map `d))/\(pak ps 0).length<=4000000:=by
 have J:=hw.len.2;obtain⟨q0,B',T',s',q⟩:=Sl0 hw 3500 100000 [] [] [] `HQ .un `GK `p `p `aw `aw Q2 (λx hx=>by cases hx) (λd hd=>by
  rw[`lu];exact `n (`n (`n ⟨0,rfl,hw.len.1⟩)))
 rw[`e?] at q0 q;refine⟨S6 rfl ?_,q0⟩;refine u9 (δ':=[`aF,`fD,.un,.un,.un,.un]) rfl (u9 (δ':=[`aF,`fD,`aep,.un,.un,.un]) rfl (u9 (δ':=[`aF,`fD,`aep,`aep,.un,.un]) rfl (u9 (δ':=st ps [] [] [] `HQ .un) rfl `aRH)))
theorem pt0(f:`kf):∀ps:`bN,`TH (`aox f)=`aRI
 | []=>rfl
 | `ko=>by
  rw[`T,`T,`T,`dB,pt0 f ps,`T]
theorem rp0(f:`kf)(hf:∀s,f `fO=`ey):∀ps:`bN,(`aRI).flatMap two=`aoh f
 | []=>rfl
 | `ko=>by
  rw[`T,`Cd,rp0 f hf ps,`Cd,`aN];show[`U7,f p.2]++_=[f (`s p.1),f p.2]++_;rw[hf]
theorem kz0(π:`eJ)(p:Pt):cnt `Oi=`tn/\kn `Oi=`e0/\tx `Oi=tx p/\its `Oi=`aeq/\`aRJ/\(`HC).all=`vd:=by
 have hv:`aRJ:=j20 p _ (by rw[`F]);cases p with
 | text w=>exact⟨rfl,rfl,rfl,rfl,hv,rfl⟩
 | row vs=>exact⟨by show (`ib `gv).length=`bS;rw[`F],rfl,rfl,rfl,hv,rfl⟩
 | table ps =>
  have e:rel π (`l4)=`ya (`HD):=C1 `UL (pt0 `gv ps);refine`aRK
  ·rw[e];show `aRL;rw[`F]
  ·rw[e];exact `aRM
  ·rw[e];show `aRN++[]=`gs++[];rw[`bM];rfl
 | rcd c ps =>
  have e:rel π (`BO)=`m6 c (`HD):=C1 (`Hp c) (pt0 `gv ps);refine`aRK
  ·rw[e];show `aRL;rw[`F]
  ·rw[e]
   show `Hs::_=`Hs::`aow;rw[← `aRM]
  ·rw[e];show `aRN++[c]=`gs++[c];rw[`bM];rfl
noncomputable def OkS(S:`k)(d:D):Prop:=(∃s:Str,`Hn)∨`mE∨(`U0)∨∃j:Nat,d=`gw/\j∈S
structure Sim(ps ps':`bv)(π:`eJ)(S:`k):Prop where
 at_:∀j∈S,ps'.getD (π j) `yS=rel π `jU
 ok:∀j∈S,∀d∈`p4,`aer
 inj:∀i∈S,∀j∈S,π i=π j->i=j
theorem u20(π:`eJ)(j:Nat):lkv π `jV=`aRO:=by unfold lkd lkv;simp only[`bo]
theorem c70(B:`k)(j:Nat):`aes=`UV:=by unfold nB lkd;simp only[`bo]
theorem c20(ps:`bv)(B:`k)(W:`j)(j:Nat):nW ps B W `jV=`an8:=by unfold nW lkd;simp only[`bo]
theorem jy0(ps:`bv)(B:`k)(T:`g)(j:Nat):`Ch=`aRe:=by
 unfold hb lkd;simp only[`bo]
theorem Mz0{ps':`bv}{π:`eJ}{S:`k}(h:`aRP):∀(f:Nat) (B:`k) (T:`g) (W:`j),(∀b∈B,b∈S)->(∀d∈W,`aer)->pk ps' f `Oj T `aRQ=`aeo:=by
 intro f
 induction f with
 | zero=>intro B T W _ _;rfl
 | succ f ih =>
  intro B T W hB hW;cases W with
  | nil=>rfl
  | cons d W =>
   have M:∀d∈W,`aer:=`aRC
   rw[`T];show hb ps' `Oj T `vv++pk ps' f (nB `Oj `vv) (nT T `vv) (nW ps' `Oj `aRQ `vv)=`aRg;rcases hW d A6 with⟨s,rfl⟩|rfl|⟨z,rfl⟩|⟨j,rfl,hj⟩
   ·exact C1 _ (ih B `y3 W hB M)
   ·exact `aet
   ·exact `aet
   ·have hm:π j∈B.map π↔`dy:=by
     rw[`aec];exact⟨λ⟨b,J,e⟩=>`aRR▸J,λz=>⟨j,z,rfl⟩⟩
    rw[u20,jy0,jy0,c70,c70,c20,c20];obtain⟨r1,r2,r3,r4,_,_⟩:=kz0 π `jU
    by_cases z:`dy
    ·rw[`Ca,`Ca,`Ca,`aeu,`aeu,`aeu,`F,`N7 π j B λb J e=>`aRR]
     exact `aet
    ·rw[`iX,`iX,`iX,`aev,`aev,`aev,h.at_ j hj,r1,r2,r3,r4]
     have:=ih `iy T (`p4++W) (λb J=>by
      rcases `dl J with q|q
      ·exact hB b q
      ·rw[`u6];exact hj) (λe he=>by
      rcases `dl he with q|q
      ·exact h.ok j hj e q
      ·exact M e q)
     rw[`aN,`aN] at this;exact C1 _ `A
theorem Nr0{ps':`bv}{π:`eJ}{S:`k}(h:`aRP){r:Nat}(hr:r∈S):pak ps' (π r)=pak ps r:=by
 have:=Mz0 h 100000 [] [] [lkd r] (λb hb=>by cases hb) (λd hd=>by rw[`lu];exact `n (`n (`n ⟨r,rfl,hr⟩)));rw[`T,u20] at this;exact `A
noncomputable def laid(ps:`bv)(L:`k):`bv:=`aoJ
theorem Rp0(hw:`dD)(hL:∀k∈L,`vw)(hc:∀k∈L,∀i∈`aew,i∈L):Sim ps (`aex) `gx L:=by
 refine⟨`AL,`AL,λi hi j hj e=>?_⟩
 ·unfold laid
  rw[`bg,`ca,ga0 hj];rfl
 ·obtain⟨_,w2⟩:=O3 (hL j hj)
  refine Xd0 (λs _=>`o ⟨s,rfl⟩) (`ls).names `aRS
  have hb:=`aRT v hv;cases hb with
  | non=>exact `n `fm
  | lk i _=>exact `n (`n (`n ⟨i,rfl,hc j hj i (Z30 hv)⟩))
  | int z _=>exact `n (`n (`o `aop))
 ·have h1:=ga0 hi
  rw[e,ga0 hj] at h1;injection h1 with h1
  exact `aey
theorem Pw0(hw:`dD)(h0:`aRU)(hL:∀k∈L,`vw)(hc:∀k∈L,∀i∈`aew,i∈L):Wb (`aex):=by
 have hl:(`aex).length=`y_:=by unfold laid;rw[`F]
 refine⟨by rw[hl];exact h0,`fU,λp hp v hv=>?_⟩
 ·obtain⟨k,hk,rfl⟩:=`BZ
  obtain⟨_,w2⟩:=O3 (hL k hk);have hq:=`ls;obtain⟨r1,_,_,_,r5,r6⟩:=`aRV;refine⟨by rw[r1];exact hq.cnt,`aRS,by rw[r6];exact hq.names,by rw[r5,`F];exact hq.few⟩;rw[r5] at hv;obtain⟨u,hu,rfl⟩:=`aez;have hb:=`Ci u hu;cases hb with
  | non=>exact `u
  | lk i _ =>
   rw[`aRW];exact .lk _ (by have:=`aRX;omega)
  | int z hz=>exact `d z hz
 ·obtain⟨k,hk,rfl⟩:=`BZ
  obtain⟨_,w2⟩:=O3 (hL k hk);obtain⟨_,_,_,_,r5,_⟩:=`aRV;rw[r5] at hv;obtain⟨u,hu,rfl⟩:=`aez;have hb:=`aRT u hu;rw[hl];cases hb with
  | non=>exact λj e=>nomatch e
  | lk i _ =>
   rw[`aRW];exact Bw.Pi0 (`aRX)
  | int z hz=>exact λj e=>nomatch e
universe Km
namespace Rk
open DL W Rm StrLaws
open Bw (bs hi)
theorem rh0{S:RS}{w:`bE}(hw:`dg)(hv:`kw):`lo=S:=by
 obtain⟨c,b,u,nm,w',dg,l,sp⟩:=S;have:w'=`s!:=hw;subst this;cases w<;>first|rfl|exact `aOx
theorem gr0{S:RS}{w:`bE}(hw:`dg)(hv:`kw):next S=`NR:=rh0 (S:=`NR) hw hv
theorem Runs.one{S:RS}{b:Int}(hb:`NQ)(ht:`ady)(hl:`adz)(hc:`NS)(hk:`Ul=`pX:=by first|rfl|(subst_vars;rfl)):`b2 S [b] (next S1):=`ah hb ht hl hc (`HY) hk
theorem O30(S:RS)(w:`bE)(ws:`aY)(hw:`dg)(hv:`B6)(hd:`vx)(hl:`vk)(hc:`l7):∀r:Nat,(`iu∨r*128<=323)->∃c,`b2 S (hi r) { S with digits:=`jQ,count:=c }:=by
 intro r
 induction r using Nat.strongRecOn with
 | ind r ih =>
  intro hg
  by_cases h0:r=0
  ·subst h0
   rw[Bw.Wq0];refine`aRY;have e:({ S with digits:=`rF,count:=`pX }:RS)=S:=by
    obtain⟨c,b,u,nm,w',dg,l,sp⟩:=S;have:dg=0:=hd;subst this;rfl
   rw[e];exact `O S
  ·obtain⟨c,h⟩:=ih `nf `h `aRZ
   refine`aeA;rw[Bw.Lt0 r h0];refine h.app ?_;obtain⟨S1,J⟩:∃S1:RS,S1={ S with digits:=`N0,count:=c }:=`ae;have e1:S1.digits*128+`hi%128=`jQ:=by
    rw[J];show `N0*128+`hi%128=`jQ;omega
   have w1:`vj=`s!:=`JS
   have ht:V9 (R S1) [`d `hi]=`a (`dr,R `aeB):=by
    refine m90 S1 _ w ws w1 hv _ _ ?_;have:=Ru0 S1 w ws w1 `hi `h (by rw[e1];omega) (by rw[e1];rcases hg with z|z;exact `fA;right;omega);rw[e1] at this;exact `A
   have:=`Cj (b:=`hi) `h ht (by rw[J];exact hl) `aR_;rw[← J];have e2:next `aeB={ S with digits:=`jQ,count:=c+1 }:=(gr0 (S:=`aeB) w1 (`Ck)).trans `aR0;rw[e2] at this;exact `A
theorem ae0(S:RS)(w:`bE)(ws:`aY)(hw:`dg)(hv:`B6)(hd:`vx)(hl:`vk)(hc:`l7)(N:Nat)(hg:`iu∨N<=323)
  (S2:RS) (hl2:S2.wait.length<100000) (hc2:S2.wait.count `b1<=S2.un.length)
  (ht:∀c,T7 (R `vy) [`d `e1]=`a (`dr,R `Cl)):∃c,`b2 S (bs N) (`Cl:RS).ends:=by
 obtain⟨c,h⟩:=O30 S w ws hw hv hd hl hc (N/128) `aRZ;refine`aeA;unfold bs;refine h.app ?_;have t:=`Cj (S:=`vy) (S1:=`Cl) (b:=`Ok) `h (m90 `vy `Cl w ws hw hv _ _ (Tp0 `vy `Cl `Ok `h _ (by
  have e:((`vy:RS).digits*128+`Ok)=`e1:=by
   show `aoi*128+`Ok=`e1;omega
  rw[e];exact ht c))) hl2 hc2
 exact t
theorem Zu0(z:Int):uo0 ((`Ol:Nat):Int)=z:=by
 unfold uo0 Bw.fold
 by_cases h:z<0
 ·rw[`co,`q4]
  omega
 ·rw[`dR,`Ny]
  omega
theorem Xq0(S:RS)(ok:`fh)(ws:`aY)(hw:`adt)(hd:`vx)(hl:`Cm)(hc:`l7)(N:Nat)(d:D)(hn:`kq)
  (h:`e1%4=1/\d=`aR1∨`e1%4=2/\`aR2/\0<=`e1/\d=`aR3∨`e1=0/\`mE):∃c,`b2 S (bs N) ({ `jL with count:=c }:RS).ends:=by
 refine ae0 S `d9 ws hw `Ad hd `h hc N `fm (`jL) ?_ ?_ λc=>?_
 ·rw[v60,`y0];omega
 ·rw[v60,fp0,hw]
  rw[hw] at hc;have:(`aot::ws).count `b1=`Cn:=by rw[`rb];simp
  show `Cn<=_;omega
 ·have:=V40 `vy `aeC ws hw `e1 d hn h
  exact `A
theorem S40(S:RS)(ok:`fh)(w:`bE)(ws:`aY)(hw:`dg)(hv:`B6)(hd:`vx)(hl:`he<=9000)(hul:`NF)(hc:`l7)(kd n:Nat)(hk:`n?)(h1:`adr)(h2:`ads):∃c,`b2 S (bs (`Ug)) ({ `tb with count:=c }:RS).ends:=by
 have J:n<=20:=`aO_
 have O:=nc0 kd n J;have M:`aR4:=by
  rw[`aR5];intro z
  match kd,hk with
  | 0,_=>have:=`Om;cases `A
  | 1,_=>have:=`Om;cases `A
  | 2,_ =>
   obtain⟨l,hl,hm⟩:=`On;rw[`Oo] at hm;simp at hm
  | 3,_ =>
   rcases `bZ z with z|z
   ·cases z
   ·obtain⟨l,hl,hm⟩:=`On
    rw[`Oo] at hm;simp at hm
 have U:`Cn<=`hf:=by
  rw[hw,`rb] at hc;omega
 have e1:(`tb).wait=`pR++`iB:=by
  show `pR++([`b1]++`l5)=_;rw[hw];rfl
 refine ae0 S w ws hw hv hd `h hc _ (by rcases hv with rfl|rfl;right;split at h1<;>omega;exact `bQ) (`tb) ?_ ?_ λc=>?_
 ·rw[e1,`Z,`V]
  have:`he=`JK+1:=`aR6
  omega
 ·rw[e1,`aR7,`rb,M]
  have:(`tb).un.length=`hf+1:=rfl;rw[`A];simp;omega
 ·have:=Tu0 { S with digits:=((`Ug)/128:Nat),count:=c } `aeC (by show `n';rw[hw];simp) (by show `adq;omega) hul kd hk n h1 h2
  exact `A
universe Rk
namespace Rk
open DL W Rm StrLaws
open Bw (bs hi sg)
theorem Uo0(n:Nat)(h:n<128):bs n=[`cw]:=by
 unfold bs;rw[show `Hi=0 by omega,Bw.Wq0,show n%128=n by omega];rfl
theorem count_tail{w:`bE}(hv:`kw):(`s!).count `b1=`Cn:=by
 rw[`rb];simp[hv]
theorem Wt0(S:RS)(ok:`fh)(w:`bE)(ws:`aY)(hw:`dg)(hv:`B7)(h0:`NP)(hl:`Cm)(hc:`l7)(h60:`jK<=60)(b:Nat)(hb:b<`jK)(nm:`k)(hnm:`adZ)
  (hin:`ad_):∃c,`b2 S (bs (2*b)) ({ `Hh with count:=c }:RS).ends:=by
 have hf:`kw:=`Ck
 rw[`aR8];refine⟨`yF,?_⟩;have:=`Cj (S:=S) (S1:=`Hh) (b:=`ad0) `h (ty0 S _ w ws hw hv _ _ (`n ⟨h0,cx0 S ok w ws hw b hb nm hnm hin⟩)) `aR9 (by
  rw[v60,fp0,hw];rw[hw,`aeD] at hc;exact hc)
 exact `A
theorem ag0(S:RS)(ok:`fh)(w:`bE)(ws:`aY)(hw:`dg)(hv:`B7)(hl:`Cm)(hc:`l7)(h60:`adI)(hln:∀n∈`b3,`l8)(nm:`k)(h8:`c?<=8)(hnd:`aR')(hA:∀n∈`b3,∀c∈n,`ob)(hN:∀c∈nm,`ob)(hni:`aR!) :
  ∀(rest sp:`k) (c:Nat),sp++`a7=nm->`a7≠[]->∃c',`b2 `aR? (rest.map `HJ) ({ `p5 with count:=c' }:RS).ends:=by
 have hf:`kw:=`Ck
 have O:∀b∈S9,`G6:=`X
 intro rest
 induction `a7 with
 | nil=>intro sp c _ h;exact `Xk
 | cons b rest ih =>
  intro sp c he _;obtain⟨S1,J⟩:∃S1:RS,S1=`aR?:=`ae;rw[← J];have hb:`NX:=hN b (by rw[← he];simp);have a1:=O b hb;have U:`aeE+(`Co+1)=`c?:=by rw[← he,`Z,`V]
  have M:`th `b3 `c? `Op=`b:=fz0 `b3 hnd hA nm hN hni `Op ⟨`a7,`aol⟩;have w1:`vj=`s!:=`JS
  rw[`T]
  by_cases hr:`a7=[]
  ·subst hr
   refine`aeA;have Y:`U_=nm:=he;have ht:=Xm0 S1 (by rw[J];exact`aeC) (by rw[w1];simp) b hb `aSa `aSb (by rw[J];show `aeE+1=`c?;simpa using U) `aSc `aSd;have e1:`tk S1 (`aom)=`aeF:=by
    rw[J];show `tk _ `Op=_;rw[Y];rfl
   rw[e1] at ht;have e2:(`p5).wait=`l5:=rfl;have e3:(`p5).un=`cB:=rfl;exact `Cj (S:=S1) (S1:=`aeF) (b:=`nd) `h `aSe (by show (`p5).wait.length<100000;rw[e2,`y0];omega) (by
    show (`p5).wait.count `b1<=(`p5).un.length;rw[e2,e3,hw];rw[hw,`aeD] at hc;exact hc)
  ·obtain⟨c',h⟩:=ih `Op (c+1) `Cp hr
   refine⟨c',?_⟩;have Z:0<`Co:=`ML hr;have ht:=Ua0 S1 b hb `aSa `aSb (by rw[J];show `aeE+1<`c?;omega) `aSc `aSd;have e2:next `aSf={ S with length:=`c?,spelled:=`U_,count:=c+1 }:=(gr0 (S:=`aSf) w1 hf).trans `aR0;refine `ah `h `aSe (by rw[J];show `vk;omega) `aR_ ?_;rw[e2];exact h
theorem Qi0(S:RS)(ok:`fh)(w:`bE)(ws:`aY)(hw:`dg)(hv:`B7)(h0:`NP)(hsp:`s5=[])(hl:`Cm)(hc:`l7)(h60:`adI)(hln:∀n∈`b3,`l8)(nm:`k)(h1:1<=`c?)(h8:`c?<=8)(hnd:`aR')(hA:∀n∈`b3,∀c∈n,`ob)(hN:∀c∈nm,`ob)(hni:`aR!) :
  ∃c,`b2 S (bs (2*`c?+1)++`FU `HJ) (`aeF:RS).ends:=by
 have hf:`kw:=`Ck
 obtain⟨c,h⟩:=ag0 S ok w ws hw hv hl hc h60 hln nm h8 hnd hA hN hni nm [] (`yF) rfl (by intro z;rw[z] at h1;simp at h1);refine⟨c,Runs.app ?_ h⟩;rw[`aR8];have ht:=W20 S h60 hln `c? h1 h8 (fz0 `b3 hnd hA nm hN hni [] (List.nil_prefix));have:=`Cj (S:=S) (S1:=`aeG) (b:=((2*`c?+1:Nat):Int)) `h (ty0 S _ w ws hw hv _ _ (`n ⟨h0,ht⟩)) (by show `vk;omega) hc;have e2:next `aeG={ S with length:=`c?,spelled:=[],count:=`yF }:=(gr0 (S:=`aeG) hw hf).trans (by rw[← hsp]);rw[e2] at this;exact `A
noncomputable def wa0(S:RS)(k:Nat)(l:`k)(ws:`aY):RS:={ S with begun:=`yd k λp=>(p.1,p.2++`yL),wait:=ws,digits:=0 }
theorem modify_id(f:`vz)(hf:∀a,f a=a)(l:`aH)(k:Nat):`Oq=l:=by
 have:f=id:=funext hf;rw[`A];exact List.modify_id k l
theorem xt0(f g:`vz)(l:`aH)(k:Nat):(`Oq).modify k g=`aon k (λa=>g (f a)):=by
 apply Dn0;intro i;rw[`n9,`n9,`n9];cases `Ek with
 | none=>rfl
 | some a =>
  by_cases q:k=i
  ·simp[q]
  ·simp[q]
theorem W10:∀(l:`k) (S:RS) (k:Nat) (u:`k) (ws:`aY),`fh->`hh->`dv=`aeH->(∀q∈`fN,`aSg)->`vx->`Cm->`l7->(∀c∈l,c∈s50)->∃c,`b2 `lo (`aSh) ({ wa0 S k l ws with count:=c }:RS).ends:=by
 have O:∀b∈s50,`G6:=`X
 intro l
 induction l with
 | nil =>
  intro S k u ws ok hu hw hq hd _ _ _;refine`aRY;have e:({ wa0 S k [] ws with count:=`pX }:RS)=S:=by
   obtain⟨c,b,u',nm,w',dg,le,sp⟩:=S;have e1:w'=ws:=hw;have e2:dg=0:=hd;subst e1 e2;unfold wa0;simp only[];rw[modify_id _ (`aSi)]
  rw[e];exact `HY
 | cons b l ih =>
  intro S k u ws ok hu hw hq hd hl hc hs;have J:`dv=`jM::(`aeH):=by rw[hw,`V,`ea];rfl
  have hb:=hs b A6;have Z:=O b hb;have ht:=d70 S ok (by rw[J];simp) b hb;have hk:=`aOo;obtain⟨S1,M⟩:∃S1:RS,S1={ `G! with count:=`yF }:=`ae;have b1:`Or=`yd k λp=>(p.1,p.2++[X8 [b]]):=by
   rw[M];unfold RS.hold;rw[hu]
  have w1:`vj=`aeH:=by rw[M];show `l5=_;rw[J];rfl
  have u1:S1.un=k::u:=by rw[M];exact hu
  have U:∀q∈`Or,`aSg:=λq hm=>by
   rw[b1] at hm;obtain⟨i,hi⟩:=Am0.mp hm;rw[`n9] at hi;cases e:`fN[i]? with
   | none=>rw[e] at hi;cases hi
   | some q0 =>
    have:=hq q0 (C5 e);rw[`V] at this;rw[e] at hi
    by_cases z:k=i
    ·simp[z] at hi
     rw[← hi];simp;omega
    ·simp[z] at hi
     rw[← hi];omega
  have Y:Ok S1:=⟨λj hj=>by
   rw[b1,`q7];rw[u1,← hu] at hj;exact `yB j hj,by rw[b1,`q7];exact `HG,λq hm=>by have:=U q hm;omega,`aSj,by rw[M];exact `aoj⟩
  have c1:`NS:=by
   rw[w1,u1,← hu];rw[J,`HH `p] at hc;exact hc
  obtain⟨c,h⟩:=ih S1 k u ws Y u1 w1 U (by rw[M];rfl) (`aSj) c1 λx hx=>hs x `mu
  refine⟨c,?_⟩;have e3:({ wa0 S1 k l ws with count:=c }:RS)=`aSk:=by
   unfold wa0;rw[b1,xt0,M];simp only[`T,`bp,`fa,`e?];rfl
  rw[e3] at h;rw[rh0 J `p,`T];have:=Runs.cons (S:=S) (S1:=`G!) (b:=`nd) (r:=`aSh) (S':=(`aSk:RS).ends) `h (Zd0 S _ _ J _ _ ht) `aR9 (by
   rw[v60,fp0,J];rw[J,`HH `p] at hc;exact hc) (by
   unfold next;rw[M] at h;exact h)
  exact `A
universe Rk
namespace Rk
open DL W Rm
open Bw (bs its)
open Km (hb nB nT nW pk lkd It Wb)
inductive Pk (ps:`bv):`k->`g->`j->`k->`g->`_->Prop
 | nil (B:`k) (T:`g):Pk ps B T [] B T []
 | str {B:`k} {T:`g} {s:Str} {ds:`j} {B':`k} {T':`g} {b:`_} (h:Pk ps B `y3 ds B' T' b):Pk ps B T (`ey::ds) B' T' (`aee++b)
 | val {B:`k} {T:`g} {d:D} {ds:`j} {B':`k} {T':`g} {b:`_} (hd:`aeI) (h:`kx):Pk ps B T `jO B' T' (`p3++b)
 | old {B:`k} {T:`g} {j:Nat} {ds:`j} {B':`k} {T':`g} {b:`_} (hj:`dy) (h:`kx):Pk ps B T (`gw::ds) B' T' (`Ch++b)
 | new {B:`k} {T:`g} {j:Nat} {ds:`j} {B1 B':`k} {T1 T':`g} {b1 b:`_} (hj:`yT) (h1:Pk ps `iy T (`p4) B1 T1 b1) (h2:Pk ps B1 T1 ds B' T' b):Pk ps B T (`gw::ds) B' T' (`Ch++(b1++b))
theorem rg0{B:`k}(hn:`q?)(hj:`yT):`aRE:=t5.mpr ⟨hn,`aW,λa ha b hb e=>by rw[`UX] at e;exact hj `aoe⟩
theorem Li0{d:D}(hd:`aeI):`gw≠d:=by
 rcases hd with rfl|⟨z,rfl⟩<;>exact λz=>nomatch z
theorem f60(h:`Cq=`gw):i=j:=by
 unfold lkd at h;injection h with h
 injection h with _ h
 injection h with h _
 injection h with h
 omega
theorem Pk.pre{B B':`k}{T:`g}{b:`_}(h:`kx):∃N,B'=B++N:=by
 induction h with
 | nil B T=>exact`aSl
 | str _ ih=>exact ih
 | val _ _ ih=>exact ih
 | old _ _ ih=>exact ih
 | new _ _ _ i1 i2 =>
  obtain⟨N,rfl⟩:=i1;obtain⟨M,rfl⟩:=i2;exact⟨_,by rw[`bp,`bp]⟩
theorem Pk.nodup{B B':`k}{T:`g}{b:`_}(h:`kx):`q?->B'.Nodup:=by
 induction h with
 | nil B T=>exact id
 | str _ ih=>exact ih
 | val _ _ ih=>exact ih
 | old _ _ ih=>exact ih
 | new hj _ _ i1 i2=>exact λhn=>i2 (i1 (`aeJ))
theorem Pk.links{B B':`k}{T:`g}{b:`_}(h:`kx):(∀j,`gw∈ds->j∈B')/\∀k∈B',k∉B->∀j,`aor->j∈B':=by
 induction h with
 | nil B T=>exact⟨(λj h=>by cases h),λk hk hn=>`I hk hn⟩
 | str _ ih=>exact⟨λj hj=>ih.1 j (`aSm λz=>nomatch z),ih.2⟩
 | val hd _ ih=>exact⟨λj hj=>ih.1 j (`aSm (Li0 hd)),ih.2⟩
 | old hj h ih =>
  rename_i B T j ds B' T' b;refine⟨`aSn,ih.2⟩;rcases `bZ hi with z|z
  ·rw[f60 z]
   obtain⟨N,rfl⟩:=`Cr;exact D3 _ hj
  ·exact ih.1 i z
 | new hj h1 h2 i1 i2 =>
  rename_i B T j ds B1 B' T1 T' b1 b;obtain⟨N,e1⟩:=h1.pre;obtain⟨M,e2⟩:=h2.pre;have m1:∀x∈B1,x∈B':=λx hx=>by rw[e2];exact D3 _ hx
  have J:j∈B1:=by rw[e1];simp
  refine⟨`aSn,λk hk hn i hi=>?_⟩
  ·rcases `bZ hi with z|z
   ·rw[f60 z];exact m1 _ J
   ·exact i2.1 i z
  ·by_cases hk1:k∈B1
   ·by_cases hkj:k=j
    ·subst hkj
     exact m1 _ (i1.1 i hi)
    ·exact m1 _ (i1.2 k hk1 (λz=>by
      rcases `dl z with z|z
      ·exact hn z
      ·exact hkj (Q1.mp z)) i hi)
   ·exact i2.2 k hk hk1 i hi
theorem h80(h:It n `jV):j<n:=by
 rcases h with⟨s,e,_⟩|e|⟨z,e,_⟩|⟨i,e,hi⟩
 ·cases e
 ·cases e
 ·cases e
 ·rw[f60 (j:=i) e];exact hi
theorem Pk.range(hw:`dD){B B':`k}{T:`g}{b:`_}(h:`kx):`vA->`Os->∀j∈B',`iA:=by
 induction h with
 | nil B T=>exact λh _=>h
 | str _ ih=>exact `aeK
 | val _ _ ih=>exact `aeK
 | old _ _ ih=>exact `aeK
 | new hj _ _ i1 i2 =>
  intro h hd;have J:=`aeL;refine i2 (i1 (`nS) λd m=>`tw `HN d m) `y2
  rcases `nZ with z|z
  ·exact h x z
  ·rw[`hD];exact J
theorem Pk.steps(hw:`dD){B B':`k}{T:`g}{b:`_}(h:`kx):`vA->`Os->∃n,`aSo/\∀(f:Nat) (W:`j),pk ps `HM B T `U1=b++pk ps f B' T' W:=by
 induction h with
 | nil B T=>exact λ_ _=>⟨0,`aW,λf W=>`aeM⟩
 | str _ ih =>
  intro h hd;obtain⟨n,h1,h2⟩:=`HK
  refine`aeN;rw[`Ot,`bp,← h2 f W];rfl
 | val hd' _ ih =>
  intro h hd;obtain⟨n,h1,h2⟩:=`HK
  refine`aeN;rw[`Ot,`bp,← h2 f W];rcases hd' with rfl|⟨z,rfl⟩<;>rfl
 | old hj _ ih =>
  rename_i B T j ds B' T' b _;intro h hd;obtain⟨n,h1,h2⟩:=`HK
  refine`aeN;rw[`Ot,`bp,← h2 f W];show `Ch++pk ps `HM (`aes) T `aSp=_;rw[Km.c70,Km.c20,`Cs,`Cs]
 | new hj p1 p2 i1 i2 =>
  rename_i B T j ds B1 B' T1 T' b1 b;intro h hd;have J:=`aeL;have M:∀x∈`lr,`ra:=λx hx=>by
   rcases `nZ with z|z
   ·exact h x z
   ·rw[`hD];exact J
  have hI:=`tw `HN;obtain⟨n1,a1,a2⟩:=i1 M hI;obtain⟨n2,c1,c2⟩:=i2 (p1.range hw M hI) `y2
  have O:=`aSq;refine⟨`U2,by rw[`Z,`cn] at a1;rw[`V];omega,`aoo⟩;rw[`aSr,`bp,`bp,← c2 f W,← a2 `HO `U1];show `Ch++pk ps (n1+`HO) (`aes) T `aSp=_;rw[Km.c70,Km.c20,`Ct,`Ct]
theorem Pk.ex(hw:`dD):∀(m:Nat) (ds:`j) (B:`k) (T:`g),`aob<=m->`q?->`vA->`Os->∃B' T' b,`kx:=by
 intro m
 induction m with
 | zero =>
  intro ds
  induction ds with
  | nil=>exact `aSs
  | cons d ds ih =>
   intro B T hm hn hB hd;have J:∀d∈ds,`no:=`adS
   rcases `adR with⟨s,rfl,_⟩|rfl|⟨z,rfl,_⟩|⟨j,rfl,hj⟩
   ·obtain⟨B',T',b,h⟩:=`aSt
    exact`aSu
   ·obtain⟨B',T',b,h⟩:=`vB
    exact`aSv
   ·obtain⟨B',T',b,h⟩:=`vB
    exact`aSw
   ·by_cases hj':`dy
    ·obtain⟨B',T',b,h⟩:=`vB
     exact`aSx
    ·exfalso
     have:=`tE `aeO (m:=`nr) λy hy=>`fL (by
      rcases `dl hy with z|z
      ·exact hB y z
      ·rw[`hD];exact hj)
     rw[`gL,`Z,`cn] at this;omega
 | succ m im =>
  intro ds
  induction ds with
  | nil=>exact `aSs
  | cons d ds ih =>
   intro B T hm hn hB hd;have J:∀d∈ds,`no:=`adS
   rcases `adR with⟨s,rfl,_⟩|rfl|⟨z,rfl,_⟩|⟨j,rfl,hj⟩
   ·obtain⟨B',T',b,h⟩:=`aSt
    exact`aSu
   ·obtain⟨B',T',b,h⟩:=`vB
    exact`aSv
   ·obtain⟨B',T',b,h⟩:=`vB
    exact`aSw
   ·by_cases hj':`dy
    ·obtain⟨B',T',b,h⟩:=`vB
     exact`aSx
    ·have M:∀x∈`lr,`ra:=λx hx=>by
      rcases `nZ with z|z
      ·exact hB x z
      ·rw[`hD];exact hj
     have hI:=`tw `aeP;obtain⟨B1,T1,b1,h1⟩:=im (`p4) `iy T `Bm `aeO M hI;obtain⟨N,e1⟩:=h1.pre;obtain⟨B',T',b,h2⟩:=im ds B1 T1 (by rw[e1];simp only[`Z,`cn];omega) (h1.nodup `aeO) (h1.range hw M hI) J;exact⟨B',T',_,.new hj' h1 h2⟩
theorem Qn0(hw:`dD):∃L T b1,`aeQ/\`aSy/\L.Nodup/\(∀k∈L,`vw)/\(∀k∈L,`aSz)/\∃N,L=0::N:=by
 have J:=`Ou;have hB:∀j∈[0],`iA:=`aSA
 have hI:=`aSB;obtain⟨L,T,b1,h⟩:=Pk.ex hw 60 (`HP) [0] [] `h `aw hB hI;have hn:=`aSC;have hr:=`aeR hw hB hI;obtain⟨N,hN⟩:=`Cr;have hp:`aSD:=`aSE;obtain⟨n,a1,a2⟩:=hp.steps hw `aSF `aSG;have hl:`aSH:=by
  have:=`tE hn (m:=`nr) λy hy=>`fL (hr y hy)
  rwa [i4] at this
 have M:n<=100000:=by simp only[`V,`gr] at a1;omega
 refine⟨L,T,b1,h,?_,hn,hr,λk hk j hj=>?_,N,hN⟩
 ·have:=a2 `y5 []
  rw[`aSI,`cZ] at this;show pk ps 100000 [] [] `HQ=_;rw[`A];have e:pk ps `y5 L T []=[]:=by
   generalize `U5=m;cases m<;>rfl
  rw[e,`cZ,`cZ]
 ·by_cases z:k∈[0]
  ·rw[`hD] at hj
   exact h.links.1 j hj
  ·exact h.links.2 k hk z j hj
universe Rk
namespace Rk
open DL W Rm StrLaws
open Bw (bs its two kn cnt Vb Gq)
open Km (hb nB nT nW pk lkd It Wb)
open K22 (lkv rel)
theorem mg0:∀(ps:`bN) (pre:`j) (d:D) (rest:`j),`aSJ->∃ps1 q ps2,ps=ps1++q::ps2/\(pre=ps1.flatMap two/\d=`y9∨pre=ps1.flatMap two++[`y9]/\d=q.2)
 | [],pre,d,`a7,h=>by
  cases pre<;>cases h
 | q::ps,pre,d,`a7,h=>by
  have h:`H_::q.2::`ix=`y6:=h
  match pre,h with
  | [],h =>
   injection h with h1 h2
   exact⟨[],q,ps,rfl,`o ⟨rfl,`aey⟩⟩
  | [x],h =>
   injection h with h1 h2
   injection h2 with h2 h3
   exact⟨[],q,ps,rfl,`n ⟨by rw[← h1];rfl,h2.symm⟩⟩
  | x::y::pre,h =>
   injection h with h1 h2
   injection h2 with h2 h3
   obtain⟨ps1,q',ps2,e,hh⟩:=mg0 ps pre d `a7 h3;refine⟨q::ps1,q',ps2,`H7,?_⟩;subst h1 h2;rcases hh with⟨a,b⟩|⟨a,b⟩
   ·left
    exact`aSK
   ·right
    exact`aSK
noncomputable def pw(n:Nat):`aY:=`aOY
theorem f80(n:Nat):pw `gM=`m7::`d9::pw n:=by
 unfold pw;rw[`ea,`kb];rfl
theorem Tk0(n:Nat):(pw n).length=2*n:=by
 induction n with
 | zero=>rfl
 | succ n ih=>rw[f80,`V,`V,ih];omega
theorem pi0:∀(a b:Nat),(pw (a+b)).drop (2*a)=pw b
 | 0,b=>`aeM
 | a+1,b=>by
  rw[show a+1+b=(a+b)+1 by omega,f80,show 2*(a+1)=2*a+1+1 by omega];exact pi0 a b
theorem y40(ps:`bN):`aQH:=by
 induction ps with
 | nil=>rfl
 | cons q ps ih =>
  rw[`Cd,`Z,ih,`V];show 2+_=_;omega
theorem qv0:∀ps:`bN,`aSL=`lb λp=>(`U7,p.2)
 | []=>rfl
 | q::ps=>by
  show (`H_,q.2)::`aSL=_;rw[qv0 ps];rfl
theorem um0:∀{l:`j},(∀d∈l,`BG)->trs l=`b
 | [],_=>rfl
 | d::l,h=>by
  unfold trs;rw[`Cu,um0 `nP];rfl
theorem na0:∀{l:`j},(∀d∈l,`kq)->vk0 l=`b
 | [],_=>rfl
 | d::l,h=>by
  unfold vk0;rw[`Cu,na0 `nP];rfl
theorem fh0(π:`eJ)(s:Str):lkv π `fO=`ey:=rfl
theorem ih0{d:D}(h:It n d)(π:`eJ):tr `vv=`b/\nrf `vv=`b:=by
 rcases h with⟨s,rfl,_⟩|rfl|⟨z,rfl,_⟩|⟨j,rfl,_⟩
 ·exact`kQ
 ·exact`kQ
 ·exact`kQ
 ·rw[show lkv π `nj=`aRO from `H2 π j]
  exact⟨rfl,j90 _⟩
theorem W90(p:Pt):`e0<4:=by have:=Bw.Qy0 p;omega
theorem rq0{p:Pt}(hp:p.Ok):`ad5<=25:=by
 cases p with
 | text w=>exact `cQ
 | row vs=>have:=hp.1;show `bS<=25;omega
 | table ps=>have:=`og hp;show `Hq<=25;rw[y40];omega
 | rcd c ps=>have:=`og hp.2;show `ad9<=25;rw[`V,y40];omega
theorem stage(p:Pt)(hp:p.Ok)(hq:Gq p)(hI:∀d∈`e_,It n d)(ht:`Ov)(pre:`j)(d:D)(rest:`j)(h:`e_=`y6):∃w wr,`aeS=w::wr/\((∀s,d≠`ey)->`iu) /\
  ∀s,`Hn->w=.cls∨`te/\∀π,Held `aSM/\`tx ∉O8 `aSM:=by
 have Z:∀x∈pre,It n x:=λx hx=>hI x (by rw[h];exact D3 _ hx)
 have a3:`eZ<=24:=by
  have:=rq0 hp;rw[h,`Z,`V] at this;omega
 have hv:=`Ci;have hs:∀(s:Str),`tx=`ey:=λs=>rfl
 have U:∀(v:D),`hm->∀s,v≠`ey:=λv hv s e=>by subst e;cases hv
 have a1:∀π,trs (`y7)=`b:=fun π=>um0 λx hx=>by
  obtain⟨y,hy,rfl⟩:=`La;exact(`aSN).1
 have a2:∀π,vk0 (`y7)=`b:=fun π=>na0 λx hx=>by
  obtain⟨y,hy,rfl⟩:=`La;exact(`aSN).2
 have fl:∀ps:`bN,`k9 (`lb `aos)=`b:=λps=>by
  unfold flats;rw[`l2];intro x hx;obtain⟨y,_,rfl⟩:=`La;rfl
 have O:∀(J:`bN) (π:`eJ),(`ii ((J.flatMap two).map `gv)).map `bz=`aSO:=λJ π=>by
  rw[← `aeT,qv0,`bM,`bM];rfl
 have Y:∀(J M:`bN) (q:`x?),((J++q::M).map `bz).Nodup->`H_ ∉`aSO:=λJ M q nd z=>by
  obtain⟨y,hy,e⟩:=`ds z;injection e with e
  rw[`aN,`T] at nd;exact(t5.mp nd).2.2 y.1 (`yP ⟨y,hy,rfl⟩) q.1 A6 e
 cases p with
 | text w=>exact `aeU
 | row vs =>
  have h:vs=`y6:=h;refine⟨`d9,`aL `Co `d9,?_,`iz,λs e=>?_⟩
  ·show (`aSP).drop `eZ=_
   rw[List.drop_replicate,h,`Z,`V,show `eZ+(`Co+1) - `eZ=`Co+1 by omega,`ea]
  ·exact `I e (U d (hv d (by show d∈vs;rw[h];simp)) s)
 | table ps =>
  have h:`aSJ:=h;obtain⟨J,q,M,e,hh⟩:=mg0 ps pre d `a7 h;have hl:`aSQ:=`aSR
  rcases hh with⟨a,b⟩|⟨a,b⟩
  ·refine⟨`m7,`aSS,?_,`aST,λs es=>`n ⟨rfl,fun π=>⟨⟨by show 2<4;omega,⟨by show (`y7).length<=30;rw[`F];omega,`dI,`dI⟩,a1 π,a2 π,?_⟩,?_⟩⟩⟩
   ·show `Ow
    rw[a,y40,hl,pi0,f80]
   ·show `aSU
    rw[a,O];exact fl J
   ·show `aSV
    rw[a,O,hs,← es,b];exact Y J M q (by rw[← e];exact PsOk.nd hp)
  ·refine`aSW
   ·show `Ow
    rw[a,`Z,y40,hl,← `aeV,pi0,f80];rfl
   ·refine `aSX
    show d∈`hj;rw[b,e];simp
 | rcd c ps =>
  have h:`anO=`y6:=h;cases pre with
  | nil =>
   injection h with h1 h2
   exact⟨.cls,`HU,rfl,λz=>`I `aey (z c),λs _=>`bQ⟩
  | cons x pre =>
   injection h with h1 h2
   subst h1;obtain⟨J,q,M,e,hh⟩:=mg0 ps pre d `a7 h2;have hl:`aSQ:=`aSR
   rcases hh with⟨a,b⟩|⟨a,b⟩
   ·refine⟨`m7,`aSS,?_,`aST,λs es=>`n ⟨rfl,fun π=>⟨⟨by show 3<4;omega,⟨by show ((`Hs::pre).map `gv).length<=30;rw[`F];omega,`dI,`aqf⟩,a1 π,a2 π,?_⟩,?_⟩⟩⟩
    ·show `Ow
     rw[a,y40,hl,pi0,f80]
    ·show `aSU
     rw[a,O];exact fl J
    ·show `aSV
     rw[a,O,hs,← es,b];exact Y J M q (by rw[← e];exact PsOk.nd hp.2)
   ·refine`aSW
    ·show `Ow
     rw[a,`Z,y40,hl,← `aeV,pi0,f80];rfl
    ·refine `aSX
     show d∈`hj;rw[b,e];simp
noncomputable def hl(π:`eJ):`aca
 | `q0=>`aeW `Hc
 | p=>`aeq
noncomputable def v00(ps:`bv)(π:`eJ)(j:Nat):`hc:=(`nn,hl π `jU)
theorem Uk0(π:`eJ)(p:Pt):`fP (`e0,hl π p)=(`HC).d:=by
 cases p with
 | text w =>
  show `cT [`lh,X8 (`Hd (`aeW `Hc))]=_;rw[oi0];rfl
 | row vs=>rfl
 | table ps =>
  show `cT [`li,`aSY]=`cT [`li,`aSZ];rw[← `aeT,qv0,Km.pt0,`bM,`bM,`bM];rfl
 | rcd c ps =>
  show `cT [`jC,`hX,`aSY]=`cT [`jC,`hX,`aSZ];rw[← `aeT,qv0,Km.pt0,`bM,`bM,`bM];rfl
theorem ln0{w:Str}(h:`aMr):`Cv<=20/\∀c∈`aS_,c∈s50:=by
 unfold isWord at h;rw[`a?,`MN] at h;have e:`Cv=`d':=rfl;refine⟨`C,`acB⟩;have:=r9.mp h.2 c hc;rw[← Tb0];have h3:`act:=`aS0
 exact h3
theorem Yb0{w:Str}(h:`pH w=`b):1<=`Cv/\`Cv<=8/\∀c∈`aS_,`ob:=by
 unfold isName at h;rw[`a?,`a?,`MN,`MN] at h;have e:`Cv=`d':=rfl;refine⟨`C,`C,`acB⟩;have:=r9.mp h.1.2 c hc;rw[← Th0];have h3:`BP:=`aS0
 exact h3
universe Rk
namespace Rk
open DL W Rm StrLaws
open Bw (bs sg its two kn cnt tx Vb Gq)
open Km (hb nB nT nW pk lkd It Wb ix)
open K22 (lkv rel)
structure Wf(ps:`bv)(pool:`g):Prop where
 wb:`dD
 pl:`ac4<=60
 pn:∀s∈`aB,`acF
 ok:∀p∈ps,p.Ok
 nm:∀p∈ps,∀s∈`vd,`q6
structure Inv(pool:`g)(B:`k)(T:`g)(S:RS):Prop where
 len:`dw=`bG
 few:`vu
 nms:`b3=`aS1
 tnd:T.Nodup
 tin:∀s∈T,`q6
 d0:`vx
 l0:`NP
 s0:`s5=[]
 un:∀k∈`cB,`vg
 unl:`hf<=`dw
 held:∀q∈`fN,`U8
 wl:`he<=60*`dw+1
 wc:`ane=`hf
section
variable{B:`k}{T:`g}{S:RS}
theorem Inv.tl(W:`ky)(I:`oh):`jR<=60:=B9 (`NW `vC `vD) W.pl
theorem Inv.okS(W:`ky)(I:`oh):`fh:=by
 have h1:=`eN;have h2:=I.few;have h3:=I.wl;have h4:=I.tl W;exact⟨`j5,`C,λq hq=>by have:=`Ox q hq;omega,`C,by rw[`kz,`F];omega⟩
theorem Inv.wlen(I:`oh):`he<=4000:=by
 have h1:=`eN;have h2:=I.few;have h3:=I.wl;omega
theorem X10{l:`aH}{k:Nat}{f:`vz}{P:α->Prop}{a:α}(h:∀x∈l,P x)(ha:`aS2)(hf:P (f a)):∀x∈`Oq,P x:=λx hx=>by
 obtain⟨i,hi⟩:=Am0.mp hx;rw[`n9] at hi;cases e:`Ek with
 | none=>rw[e] at hi;cases hi
 | some y =>
  rw[e] at hi
  by_cases z:k=i
  ·subst z
   rw[ha] at e;cases e;simp at hi;rw[← hi];exact hf
  ·simp[z] at hi
   rw[← hi];exact h y (C5 e)
theorem i60{l:`aH}{k:Nat}{f:`vz}{a:α}(ha:`aS2):(`Oq)[k]?=`a (f a):=by
 rw[`n9,ha];simp
structure Aft(S S1:RS)(k:Nat)(d:D):Prop where
 bg:`Or=`q1
 un:S1.un=`cB
 wt:`vj=`l5
theorem pm0{k:Nat}{u:`k}(hu:`hh)(d:D):(`jL).begun=`q1:=by
 unfold RS.hold;rw[hu]
theorem Inv.aft(I:`oh){k:Nat}{d:D}(A:Aft S S1 k d){T1:`g}(hq:`jP)(hl:`Oy){w:`bE}(hw:`dg)(hf:`kw)
  (hn:S1.names=T1.map `aoy) (h1:T1.Nodup) (h2:∀s∈T1,`q6) (h3:S1.digits=0) (h4:S1.length=0) (h5:`aok=[]):Inv `aB B T1 S1:=by
 have bl:S1.begun.length=`dw:=by rw[`ty,`q7]
 refine⟨by rw[bl];exact `eN,I.few,hn,h1,h2,h3,h4,h5,`AL,by rw[bl,A.un];exact I.unl,?_,?_,?_⟩
 ·rw[bl]
  rw[A.un] at hj;exact `j5 j hj
 ·rw[`ty]
  exact X10 (P:=`aS3) (f:=`amJ) `Ox hq (by show (`am?).length<=30;rw[`Z,`cn];omega)
 ·rw[bl,A.wt,`y0]
  have:=I.wl;omega
 ·rw[A.wt,A.un,hw]
  have:=I.wc;rw[hw,`aeD] at this;exact `A
theorem Mn0{B M:`k}(h:`dy):ix (B++M) j=`tt:=by
 induction B with
 | nil=>cases h
 | cons a B ih =>
  rw[`fa];unfold ix
  by_cases e:a=j
  ·rw[`fe,`fe]
  ·rw[`ed,`ed,ih `N4]
theorem K10{B M:`k}(h:`yT):ix (B++j::M) j=`bG:=by
 induction B with
 | nil =>
  rw[`e?];unfold ix;rw[`bm];rfl
 | cons a B ih =>
  rw[`fa];unfold ix;have h1:a≠j:=λz=>h (z▸A6)
  rw[`XZ,ih λz=>h (A4 _ z),`V]
theorem ey0{s t:Str}(h:`hg=`HV):s=t:=by
 have:`az `hg=`az `HV:=by rw[h]
 exact `A
theorem Qq0{T:`g}(h:T.Nodup):(`aS1).Nodup:=by
 refine `aPM;exact(X2.mp h).imp λhn e=>hn (ey0 e)
theorem R50(W:`ky)(I:`oh){k:Nat}{u:`k}(hu:`hh)(hq:`jP)(hl:`Oy){w:`bE}(hw:`dg)(s:Str)(hs:`q6)
  (hv:w=.cls∨`te/\`Hg/\`tx ∉O8 q):∃S1,`b2 S (`aee) `tz/\Inv `aB B `y3 S1/\`aS4:=by
 have ok:=`aeX;have hf:`kw:=by rcases hv with rfl|⟨rfl,_⟩<;>decide
 have M:`B7:=by rcases hv with h|⟨h,_⟩;exact `Kk;exact `o h
 have a1:=I.wlen;have a2:=I.tl W;have U:`jK=`jR:=by rw[`kz,`F]
 obtain⟨n1,n8,nS⟩:=Yb0 (W.pn s hs);show ∃S1,`b2 S (`N9) `tz/\Inv `aB B (`aej) S1/\`aS4
 by_cases h:`lq
 ·rw[`co,`co]
  have Z:=Km.ol0 h;have Y:=Km.ga0 h;obtain⟨c,r⟩:=Wt0 S ok w ws hw M I.l0 `h `Oz `h `UQ `h `hg (by
   rw[U,show `anR - `UQ=`Ht by omega,`kz,`ca,Y];rfl) (λz=>by
   rcases hv with h|⟨_,h1,h2⟩
   ·rw[h] at z;cases z
   ·exact⟨k,u,q,hu,hq,h1,h2⟩)
  have A:Aft S { `ln (`tx) with count:=c } k `fO:=`aS5;exact⟨_,r,I.aft A hq hl hw hf `kz `vC `vD rfl I.l0 I.s0,A⟩
 ·rw[`dR,`dR]
  have O:`hg ∉`b3:=λz=>by
   rw[`kz] at z;obtain⟨t,ht,e⟩:=`ds z;exact h (ey0 e▸ht)
  have tnd:(`US).Nodup:=t5.mpr ⟨`vC,`aW,`aRF⟩;have tin:∀x∈`US,x∈`aB:=λx hx=>by
   rcases `nZ with z|z
   ·exact `vD x z
   ·rw[`hD];exact hs
  have Z:`jR<60:=by
   have:=`NW tnd tin;rw[`Z,`cn] at this;have:=W.pl;omega
  have J:∀n∈`b3,`l8/\∀c∈n,`ob:=λn hn=>by
   rw[`kz] at hn;obtain⟨t,ht,rfl⟩:=`ds hn;obtain⟨_,a,b⟩:=Yb0 (W.pn t (`vD t ht));exact⟨`C,b⟩
  obtain⟨c,r⟩:=Qi0 S ok w ws hw M I.l0 I.s0 `h `Oz `h (λn hn=>(J n hn).1) `hg n1 n8 (by rw[`kz];exact Qq0 `vC) (λn hn=>(J n hn).2) nS O;have A:Aft S { `tk S `hg with count:=c } k `fO:=by
   refine⟨?_,rfl,rfl⟩;show ((`aS6:RS).hold (`tx)).begun=_;exact pm0 (S:=`aS6) hu _
  refine⟨_,r,I.aft A hq hl hw hf ?_ tnd tin rfl rfl rfl,A⟩;show `aoz=_;rw[`kz,`aN];rfl
theorem bu0(W:`ky)(I:`oh){k:Nat}{u:`k}(hu:`hh)(hq:`jP)(hl:`Oy)(hw:`adt)(L:`k)(hL:∃M,L=B++M)(d:D)
  (hd:`mE∨(`U0)∨∃j:Nat,`dy/\d=`gw):∃S1,`b2 S (`p3) `tz/\`aS7/\Aft S S1 k (lkv `gx d):=by
 have ok:=`aeX;have J:=I.wlen;have fin:∀(N:Nat) (d':D),nrf d'=`b->(`e1%4=1/\d'=`aR1∨`e1%4=2/\`aR2/\0<=`e1/\d'=`aR3∨`e1=0/\d'=`u)->∃S1,`b2 S (bs N) `tz/\`aS7/\Aft S S1 k d':=λN d' hn h=>by
  obtain⟨c,r⟩:=Xq0 S ok ws hw I.d0 `h `Oz N d' hn h;have A:Aft S { `ln d' with count:=c } k d':=`aS5;exact⟨_,r,I.aft A hq hl hw `p `kz `vC `vD rfl I.l0 I.s0,A⟩
 rcases hd with rfl|⟨z,rfl⟩|⟨j,hj,rfl⟩
 ·exact fin 0 `u rfl (`n (`atr))
 ·refine fin (4*`Ol+1) `ic rfl (`o ⟨`C,?_⟩)
  rw[show ((4*`Ol+1:Nat):Int)/4=(`Ol:Int) by omega,Zu0]
 ·have O:=Km.ol0 hj
  have U:=`eN;obtain⟨M,rfl⟩:=hL;rw[`H2,Mn0 hj,Km.jy0,`Cs];refine fin `an5 (lkd (`tt)) (j90 _) (`n (`o ⟨`C,`C,`C,?_⟩));show `pT (`tt)=_;congr 1;omega
theorem fs0(A:`aH)(x:α)(f:`vz)(n:Nat)(hn:n=A.length):(A++[x]).modify n f=A++[f x]:=by
 subst hn
 induction A with
 | nil=>rfl
 | cons a A ih =>
  rw[`fa,`V,`fa,← ih];rfl
theorem Qt0(A N:`aH)(k:Nat)(f:`vz)(h:k<A.length):`aS8=A.modify k f++N:=by
 induction A generalizing k with
 | nil=>cases h
 | cons a A ih =>
  cases k with
  | zero=>rfl
  | succ k =>
   have:=ih k (by rw[`V] at h;omega);show a::`aS8=_;rw[`A];rfl
theorem Xk0(kd n:Nat)(hk:`n?):`aR4:=by
 rw[`aR5];intro z
 match kd,hk with
 | 0,_=>have:=`Om;cases `A
 | 1,_=>have:=`Om;cases `A
 | 2,_ =>
  obtain⟨l,hl,hm⟩:=`On;rw[`Oo] at hm;simp at hm
 | 3,_ =>
  rcases `bZ z with z|z
  ·cases z
  ·obtain⟨l,hl,hm⟩:=`On
   rw[`Oo] at hm;simp at hm
theorem enter(W:`ky)(I:`oh){w:`bE}(hw:`dg)(hv:`B6)(hun:∀k u,`hh->∃q,`jP/\`Oy)(j:Nat)(hj:`iA)(h60:`bG<60) :
  ∃S1,`b2 S (`an6) `tz/\Inv `aB `iy T S1/\S1.un=`aeY /\
   `Or=`OA++[(`nn,if `nn=0 then hl (λx=>x) `jU else [])] /\
   `vj=(if `nn=0 then [] else `Ud (`nn) (cnt `jU))++`iB:=by
 have ok:=`aeX;have a8:=I.wlen;have Z:=`eN;have a5:`kw:=`Ck
 have M:=W.ok _ `aeP;generalize `hl=p at M ⊢;have hc:`tn<=(if `e0=0 then 20 else 12):=by
  cases p with
  | text t =>
   have:=(`aS9).1;show t.length<=20;exact `A
  | row vs=>exact M.1
  | table ps=>exact `og M
  | rcd c ps=>exact `og M.2
 have a2:`oe:=by split at hc<;>omega
 have a7:=I.unl;obtain⟨c,r⟩:=S40 S ok w ws hw hv I.d0 `h `h `Oz `HR `HS (W90 p) hc `h;obtain⟨S0,J⟩:∃S0:RS,S0={ sz0 S `HR `HS with count:=c }:=`ae;rw[← J] at r;have a4:=`aO3;have b0:S0.begun=`OA++[(`e0,[])]:=by
  rw[J,← Z];rfl
 have u0:S0.un=`aeY:=by
  rw[J,← Z];show (`G2).begun.length::`cB=_;rw[a4]
 have w0:S0.wait=`HT++`iB:=by
  rw[J];show `HT++([`b1]++`l5)=_;rw[hw];rfl
 have a1:`Cn=`hf:=by
  have:=I.wc;rw[hw,`HH a5] at this;exact `A
 have a6:`he=`JK+1:=`aR6
 have hh:∀q∈`OA,`U8:=by
  cases hu:`cB with
  | nil =>
   unfold RS.hold;rw[hu];exact `Ox
  | cons k u =>
   obtain⟨q,q1,q2⟩:=hun k u hu;rw[pm0 hu];exact X10 (P:=`aS3) (f:=`aoC) `Ox q1 (by show (q.2++[`y8]).length<=30;rw[`Z,`cn];omega)
 have U:(`aoA).begun.length=`bG:=by rw[j40];exact Z
 have I0:Inv `aB `iy T S0:=by
  have O:S0.begun.length=`OB:=by rw[b0,`Z,U];rfl
  refine⟨by rw[O,`Z];rfl,`akd,by rw[J];exact `kz,`vC,`vD,`adj,by rw[J];exact I.l0,by rw[J];exact I.s0,`aS',?_,`_x,?_,?_⟩
  ·rw[O]
   rw[u0] at hk;rcases `bZ hk with z|z
   ·omega
   ·have:=`j5 k z
    omega
  ·rw[O,u0,`V]
   omega
  ·rw[b0] at hq
   rcases `dl hq with z|z
   ·exact hh q z
   ·rw[`hD];exact `cQ
  ·rw[O,w0,`Z,`V]
   have:=nc0 `HR `HS a2;have:=I.wl;omega
  ·rw[w0,u0,`aR7,Xk0 _ _ (W90 p),`rb,`V,a1]
   simp
 by_cases h0:`e0=0
 ·cases p with
  | text t =>
   have a3:=`aS9;obtain⟨c',r'⟩:=W10 `HV S0 `bG `cB (`iB) (I0.okS W) u0 (by
    rw[w0];rfl) (λq hq=>by have:=I0.held q hq;omega) I0.d0 (by have:=I0.wlen;omega) (H0 I0.wc) a3.2
   refine⟨{ `U9 with count:=c' },`U!,?_,u0,?_,?_⟩
   ·have bb:`aS!=`OA++[(0,`aS? `Hc)]:=by
     show `aTa;rw[b0,`aTb];rfl
    have Y:`Cw=`OB:=by rw[bb,`Z,U];rfl
    have w1:`aTc<=60*(`OB)+1:=by
     rw[`V];have:=I.wl;omega
    refine⟨by show `Cw=_;rw[Y,`Z];rfl,I0.few,I0.nms,I0.tnd,I0.tin,rfl,I0.l0,I0.s0,`aS',?_,`_x,?_,?_⟩
    ·show k<`Cw
     rw[Y];have:=I0.un k hk;have:=I0.len;rw[`Z,`cn] at this;omega
    ·show `aTd<=`Cw
     rw[Y,u0,`V];omega
    ·have hq:q∈`aS!:=hq
     rw[bb] at hq;rcases `dl hq with z|z
     ·exact hh q z
     ·rw[`hD]
      show (`aS? _).length<=30;rw[`F];omega
    ·show `aTc<=60*`Cw+1
     rw[Y];exact w1
    ·show (`U').count `b1=`aTd
     rw[u0,`rb,`V,a1];simp
   ·show `aTa
    rw[b0,`aTb];rfl
   ·rfl
  | row _=>cases h0
  | table _=>cases h0
  | rcd _ _=>cases h0
 ·have ht:tx p=[]:=by cases p with|text _=>exact `I rfl h0|_=>rfl
  rw[ht,`cZ,`X_,`X_];exact⟨S0,r,I0,u0,b0,w0⟩
universe zz
theorem Wk0{p:Pt}(h:`Ov):(`HT).length=`ad5:=by
 cases p with
 | text w=>exact `Xk
 | row vs=>show (`aSP).length=`bS;rw[`ul]
 | table ps=>show (`HU).length=`Hq;rw[Tk0,y40]
 | rcd c ps=>show (Want.cls::`HU).length=`ad9;rw[`V,Tk0,`V,y40]
theorem qq0{l:`aH}{a:α}{r:`aH}(h:l.drop n=a::r):l.drop `gM=r:=by
 rw[← `aeV,h];rfl
theorem an0(S:RS)(k:Nat)(u:`k)(ws:`aY)(hu:`hh)(hw:`dv=`iB):`lo=({ S with un:=u,wait:=ws }:RS).ends:=by
 obtain⟨c,b,u',nm,w',dg,l,sp⟩:=S;have e1:u'=k::u:=hu;have e2:w'=`iB:=hw;subst e1 e2;rfl
theorem Vj0(W:`ky){p:Pt}(hp:p∈ps):∀s:Str,`fK s∈`e_->`q6:=λs hs=>by
 have hv:=(`HX).vals;have hn:=W.nm p hp;have J:∀qs:`bN,`aTe->`fK s∈`aeZ->s∈`y':=λqs hv h=>by
  obtain⟨q,hq,hm⟩:=i3.mp h;unfold two at hm;rcases `NU with e|hm
  ·injection e with e
   exact e▸`OC
  ·have:=hv q.2 (`OC)
   rw[← `ad8] at this;cases `A
 cases p with
 | text w=>cases hs
 | row vs=>exact `I (hv _ hs) (λz=>by cases z)
 | table qs=>exact `aTf
 | rcd c qs =>
  rcases `bZ hs with e|hs
  ·injection e with e
   exact hn s (D5 _ (by rw[e];exact `ad'))
  ·exact `aTf
structure Done(ps:`bv)(pool:`g)(L:`k)(S S':RS)(k:Nat)(u:`k)(ws:`aY)(ds:`j)(B B':`k)(T':`g):Prop where
 inv:Inv `aB B' T' S'
 un:S'.un=k::u
 wt:S'.wait=`iB
 bg:S'.begun=`yd k (λq=>(q.1,q.2++ds.map `tF))++(B'.drop `bG).map `Vb
theorem sim(W:`ky)(L:`k){B B':`k}{T:`g}{b:`_}(h:`kx):∀(S:RS) (k:Nat) (u:`k) (ws:`aY) (p:Pt) (pre:`j),`oh->`q?->`vA->(∃M,L=B'++M) ->
  `hh->`T9=`a (`e0,`U6 `tF)->p∈ps->`Ov->`e_=pre++ds->`dv=`aeS++`iB ->
  ∃S',`b2 `lo b S'.ends/\Done ps `aB L S S' k u ws ds B B' T':=by
 induction h with
 | nil B T =>
  intro S k u ws p pre I hn hB hL hu hk hp h0 he hw;have e:`aeS=[]:=List.drop_eq_nil_of_le (by rw[Wk0 h0,he,`cZ];exact `jd);rw[e] at hw;refine⟨S,`HY,I,hu,hw,?_⟩;rw[`uC,`jr,`jr,`cZ,modify_id _ `aSi]
 | str h ih =>
  rename_i B T s ds B' T' b;intro S k u ws p pre I hn hB hL hu hk hp h0 he hw;obtain⟨w,wr,s1,s2,s3⟩:=stage p `HW (`HX) (`nq hp) h0 pre `fO ds he;rw[s1] at hw;have hl:`OD:=by
   have:=`OE;rw[he,`Z,`V] at this;omega
  have hs:`q6:=Vj0 W hp s `aTg;have c3:`kw:=by rcases s3 s rfl with rfl|⟨rfl,_⟩<;>decide
  obtain⟨S1,r,I1,A⟩:=R50 W I hu hk (`OF) hw s hs (by
   rcases s3 s rfl with z|⟨z,q⟩
   ·exact `fA
   ·exact `n ⟨z,q `gx⟩)
  obtain⟨S',r',D'⟩:=ih S1 k u ws p (pre++`Hm) I1 hn hB hL `ae_ `ae0 hp h0 `Cp `ae1;refine⟨S',by rw[rh0 hw c3];exact `U!,`U?,D'.un,D'.wt,?_⟩;rw[D'.bg,`ty,xt0];simp only[`T,`bp,`fa,`e?];rfl
 | val hd h ih =>
  rename_i B T d ds B' T' b;intro S k u ws p pre I hn hB hL hu hk hp h0 he hw;obtain⟨w,wr,s1,s2,s3⟩:=stage p `HW (`HX) (`nq hp) h0 pre d ds he;have U:`iu:=s2 λs e=>by rcases hd with rfl|⟨z,rfl⟩<;>cases e
  subst U;rw[s1] at hw;have hl:`OD:=by
   have:=`OE;rw[he,`Z,`V] at this;omega
  obtain⟨M,hM⟩:=hL;obtain⟨N,hN⟩:=`Cr;obtain⟨S1,r,I1,A⟩:=bu0 W I hu hk (`OF) hw L `aTh d (by rcases hd with z|z;exact `fA;exact `n (`fA));obtain⟨S',r',D'⟩:=ih S1 k u ws p (pre++[d]) I1 hn hB `ae2 `ae_ `ae0 hp h0 `Cp `ae1;refine`aTi;rw[D'.bg,`ty,xt0];simp only[`T,`bp,`fa,`e?]
 | old hj h ih =>
  rename_i B T j ds B' T' b;intro S k u ws p pre I hn hB hL hu hk hp h0 he hw;obtain⟨w,wr,s1,s2,s3⟩:=`aTj;have U:`iu:=s2 λs e=>by cases e
  subst U;rw[s1] at hw;have hl:`OD:=by
   have:=`OE;rw[he,`Z,`V] at this;omega
  obtain⟨M,hM⟩:=hL;obtain⟨N,hN⟩:=`Cr;obtain⟨S1,r,I1,A⟩:=bu0 W I hu hk (`OF) hw L `aTh `jV (`n (`n ⟨j,hj,rfl⟩));obtain⟨S',r',D'⟩:=ih S1 k u ws p (pre++[`gw]) I1 hn hB `ae2 `ae_ `ae0 hp h0 `Cp `ae1;refine`aTi;rw[D'.bg,`ty,xt0];simp only[`T,`bp,`fa,`e?]
 | new hj h1 h2 i1 i2 =>
  rename_i B T j ds B1 B' T1 T' b1 b;intro S k u ws p pre I hn hB hL hu hk hp h0 he hw;obtain⟨w,wr,s1,s2,s3⟩:=`aTj;have U:`iu:=s2 λs e=>by cases e
  subst U;rw[s1] at hw;have hw:`dv=`d9::(`vE):=hw;have hl:`OD:=by
   have:=`OE;rw[he,`Z,`V] at this;omega
  have a4:`iA:=h80 (`nq hp `jV `aTg);have a3:=`aeJ;have a1:∀x∈`lr,`ra:=λx hx=>by
   rcases `nZ with z|z
   ·exact hB x z
   ·rw[`hD];exact a4
  have c1:`bG<60:=by
   have:=`tE a3 (m:=`nr) λy hy=>`fL (a1 y hy)
   rw[`gL,`Z,`cn] at this;have:=`ae3;omega
  obtain⟨M,hM⟩:=hL;obtain⟨N1,Z⟩:=h1.pre;obtain⟨N2,Y⟩:=h2.pre;have hπ:`OG=`bG:=by
   rw[hM,Y,Z,`bp,`bp,`bp];exact K10 hj
  have a8:=(`p6 a4).2;have hI:=`nq a8;obtain⟨S1,r,I1,u1,O,w1⟩:=enter W I hw `Ad (λk' u' e=>by
   rw[hu] at e;cases e;exact⟨_,hk,`OF⟩) j a4 c1
  have a6:=pm0 hu (`y8);have a7:k<`aTk:=by
   rw[`q7];exact `j5 k `anc
  have a2:`aTk=`bG:=by rw[`q7];exact `eN
  have b2:B1.drop `bG=j::B1.drop `aRG:=by
   rw[Z,`B!,`bp,`B!];rfl
  obtain⟨S2,r2,I2,u2,w2,b0⟩:∃S2,`aTl/\Inv `aB B1 T1 S2/\S2.un=`aeY/\S2.wait=`b1::(`vE)/\`ae4=`aTm:=by
   by_cases ht:`nn=0
   ·have c4:`p4=[]:=by
     cases e:`hl with
     | text _=>rfl
     | row _=>rw[e] at ht;cases ht
     | table _=>rw[e] at ht;cases ht
     | rcd _ _=>rw[e] at ht;cases ht
    rw[`_W] at O w1;rw[c4] at h1;cases h1;refine`aTn;rw[O,a6,`B!];congr 1;show[_]=[`aTo];unfold v00;rw[ht];cases e:`hl with
    | text _=>rfl
    | row _=>rw[e] at ht;cases ht
    | table _=>rw[e] at ht;cases ht
    | rcd _ _=>rw[e] at ht;cases ht
   ·rw[`ai ht] at O w1
    rw[a6] at O;obtain⟨S2,r2,D2⟩:=i1 S1 `bG `cB (`vE) `jU [] I1 a3 a1 ⟨N2++M,by rw[hM,Y,`bp]⟩ u1 (by rw[O,`Mp,a2,`l0];rfl) a8 ht rfl w1;refine`aTp;rw[D2.bg,O,fs0 _ _ _ _ a2.symm,b2,`T,`bp];congr 1;show (`nn,[]++(`p4).map `tF)::_=`aTo::_;congr 1;unfold v00;cases e:`hl with
    | text _=>rw[e] at ht;exact `aeU
    | row _=>rfl
    | table _=>rfl
    | rcd _ _=>rfl
  obtain⟨S3,J⟩:∃S3:RS,S3={ S2 with un:=`cB,wait:=`vE }:=`ae;have e3:`Va=S3.ends:=by rw[J];exact an0 S2 `bG `cB _ u2 w2
  have c0:S3.begun.length=`ae5:=by rw[J];exact I2.len
  have I3:Inv `aB B1 T1 S3:=by
   have c2:=I2.wc;have l2:=I2.wl;have n2:=I2.unl;rw[w2,u2,`rb,`V] at c2;rw[w2,`V] at l2;rw[u2,`V] at n2;refine⟨c0,I2.few,by rw[J];exact I2.nms,I2.tnd,I2.tin,by rw[J];exact I2.d0,by rw[J];exact I2.l0,by rw[J];exact I2.s0,`nS,?_,by rw[J];exact I2.held,?_,?_⟩
   ·rw[J] at hx ⊢
    exact I2.un x (by rw[u2];exact A4 _ hx)
   ·rw[J]
    show `hf<=`ae6;omega
   ·rw[J]
    show (`vE).length<=60*`ae6+1;omega
   ·rw[J]
    show (`vE).count `b1=`hf;simp at c2 ⊢;omega
  have b3:S3.begun=`aTm:=by rw[J];exact b0
  have a5:lkv `gx `jV=`y8:=by rw[`H2,hπ];rfl
  obtain⟨S',r',D'⟩:=i2 S3 k u ws p (pre++[`gw]) I3 (h1.nodup a3) (h1.range `oi a1 hI) `ae2 (by rw[J];exact hu) (by
   rw[b3,`hT a7,i60 hk,`aN,`B2,a5]) hp h0 `Cp (by
   rw[J,`Z,`cn,qq0 s1])
  refine⟨S',?_,`U?,D'.un,D'.wt,?_⟩
  ·rw[`aoB,Km.jy0,`Ct]
   refine r.app (r2.app ?_);rw[e3];exact r'
  ·rw[D'.bg,b3,Qt0 _ _ _ _ a7,xt0,`bp]
   congr 1
   ·congr 1
    funext q
    rw[`T,a5,`bp];rfl
   ·rw[← `aN]
    congr 1;rw[Y,`B!,List.drop_append_of_le_length (by rw[Z];simp only[`Z];omega)]
universe Rk
namespace Rk
open DL W Rm StrLaws
open Bt (T3 m7 W9 W5 yi0 J7 T8 K3 Z6)
open Bw (bs sg its two kn cnt tx Vb Gq)
open Km (hb nB nT nW pk lkd It Wb ix)
open K22 (lkv rel)
structure Whl(q:`hc):Prop where
 kd:q.1<4
 fits:`aP?
 tr:∀d∈q.2,`BG
 nr:`aQa
theorem Wr0(S:RS)(k:Nat)(q:`hc)(hq:`jP)(h:`tA):`aQb:=by
 have e2:`aQc:=by
  show `adb;rw[`ca,hq];rfl
 have e1:`aQd:=by
  unfold W3;rw[`bg,hq];rfl
 rw[e1];unfold u60 Q5;simp only[w90,`f,e2];rw[`N ⟨rfl,um0 h.tr,h.nr⟩]
theorem ep0(S:RS):∀(ks:`k) (qs:`acf),`gh=`lx->(∀(i k:Nat) (q:`hc),ks[i]?=`fz->qs[i]?=`se->`jP)->`aTq->`S8 `yA (`EU `GX)=`a (`iC λq=>`UF)
 | [],[],_,_,_=>rfl
 | [],`db,h,_,_=>by cases h
 | `db,[],h,_,_=>by cases h
 | `kk,`xq,h,hat,hw=>by
  have ih:=ep0 S ks qs `hk (λi k' q' h1 h2=>hat `dG k' q' h1 h2) λx hx=>hw x `mu
  rw[`T,`T];unfold partsOf;rw[Wr0 S k q (hat 0 k q rfl rfl) (hw q A6),ih];rfl
theorem ja0:∀(xs:`j),(∀d∈xs,`BG)->∀q∈`yK,tr q.1=`b/\tr q.2=`b
 | [],_,q,hq=>by cases hq
 | [a],_,q,hq=>by cases hq
 | `DQ,h,q,hq=>by
  rcases `bZ (show q∈`ach from hq) with rfl|hq
  ·exact⟨h a A6,h b (A4 _ A6)⟩
  ·exact ja0 r (λd hd=>h d (A4 _ (A4 _ hd))) q hq
theorem ij0(a b:D)(ha:tr a=`b)(hb:tr b=`b):tr `ae7=`b:=by
 show trs `kL=`b;exact um0 λd hd=>by
  rcases `i1 with rfl|hd
  ·exact ha
  ·rw[`lu];exact hb
theorem be0(xs:`j)(h:∀d∈xs,`BG):tr `aP_=`b:=by
 show trs _=`b;exact um0 λd hd=>by
  obtain⟨q,hq,rfl⟩:=`c1;exact ij0 _ _ (`aTr).1 (`aTr).2
theorem Pm0(h:`tA):tr (`fP q)=`b:=by
 obtain⟨kd,held⟩:=q;have ht:=h.tr
 match kd,h.kd with
 | 0,_=>exact ij0 _ _ rfl rfl
 | 1,_=>exact ij0 _ _ rfl (show trs `dx=`b from um0 ht)
 | 2,_=>exact ij0 _ _ rfl (be0 `dx ht)
 | 3,_ =>
  show trs [`fK `sN,held.headD `u,`t ((`aP!).map `p_)]=`b;refine um0 `vt
  rcases `i1 with rfl|hd
  ·rfl
  rcases `i1 with rfl|hd
  ·cases `dx with
   | nil=>rfl
   | cons a r=>exact ht a A6
  ·rw[`lu]
   exact be0 _ λd hd=>ht d (Ar0 hd)
theorem Ob0(S:RS)(hl:`NC)(h:∀q∈`fN,`tA)(p:`e):g80 0 `pz 1 [] `bD `Nf `f3=`a (`ae8,`f3):=by
 have z:`c0:=`X
 unfold g80;rw[Ye0,`f,y00,`f,yy0,`f];show (`S8 `yA (`s6)).bind _=_;rw[ep0 S (`am3) `fN (by rw[`gL]) (λi k q h1 h2=>by
  obtain⟨a,b⟩:=`cL h1;rw[List.getElem_range] at b;rw[← b];exact h2) h,`f]
 have e:U5 1 [] (λ_=>`a (`na `aTs)) `bD noT `Nf (`aL ([`pO]:Ds).length .un)=`a (`l (`na `fP)):=by
  refine xv0 rfl `iw ?_;have J:∀qs:`acf,`aTq->zs0 `bD noT `Nf [.un] (`iC `aTs)=`a (`iC `fP):=by
   intro qs
   induction qs with
   | nil=>exact `iz
   | cons q qs ih =>
    intro hq;have h1:=hq q A6;rw[`T];unfold zs0;have e1:oA (z7 `jD `x5) M3 [`adX]=`a (`fP q):=by
     rw[`aQe];exact mr0 q.1 h1.kd q.2 h1.fits
    simp only[show gN 0 (`aoF) [.un]=`a [`adX] from rfl,`f,noT,e1,ih λx hx=>hq x `mu];rfl
  exact J `fN h
 rw[e,`f];simp only[];rw[`N (um0 λd hd=>by obtain⟨q,hq,rfl⟩:=`c1;exact Pm0 (h q hq))]
theorem cj0(S:RS)(hw:`NB)(hl:`NC)(h:∀q∈`fN,`tA):vb0 `bJ []=`a (`ae8,R S):=by
 refine T3 rfl λp=>⟨`f3,?_,rfl⟩
 show qm0 `f3=_;refine m7 (δ':=`f3) ?_ (W9 (T8 ?_))
 ·have t:ut0 `Ne `f3=`a (`q,`f3):=by
   unfold ut0 G8;rw[`aPi,hw];rfl
  unfold ifX;rw[t];rfl
 ·exact Ob0 S hl h p
theorem aj0{f:`aM}{gA:GA}{S:RS}{s0:Sl}{r:D}(hA:gA `aTt=`jh)(hf:`aOy):V8 1 `D t8 gA f `aTt=`a (r,[s0,.ow (R S')]):=by
 have h:`Ub:=`cC
 unfold V8;show `aOz;rw[`co,hA,`f];show `f1 _ (`Ua)=_;rw[hf];rfl
theorem Zw0(l:`_)(S:RS)(h:`b2 `mk l S)(hw:`NB)(hl:`NC)(hq:∀q∈`fN,`tA):zb0 [`G7]=`a (`ae8):=by
 refine Y0 rfl (u9 (δ':=[`yG,.ow (R `mk)]) ?_ (u9 (δ':=[`yG,.ow `bJ]) ?_ `il))
 ·unfold h40
  rw[Pz0];rfl
 ·unfold j6
  rw[aj0 `io (Nw0 h)];rfl
 ·unfold jk0
  rw[aj0 (ds:=[]) rfl (cj0 S hw hl hq)];rfl
theorem Q60(W:`ky)(hj:`iA)(π:`eJ):Whl (v00 ps π j):=by
 have hp:=`aeP;have ho:=W.ok _ hp;have hI:=`nq hp;have J:=rq0 ho;unfold v00;generalize `hl=p at ho hI J;have gen:`Ov->(`e0=3->`e_≠[])->Whl (`e0,`aeq):=λh0 h3=>by
  refine⟨W90 p,⟨by show (`aog _).length<=30;rw[`F];omega,λz=>`I z h0,λz=>by simpa using h3 z⟩,`vt,na0 `vt⟩
  ·obtain⟨x,hx,rfl⟩:=`c1
   exact(`aTu).1
  ·obtain⟨x,hx,rfl⟩:=`c1
   exact(`aTu).2
 cases p with
 | text w =>
  have hw:=`aTv;refine⟨by show 0<4;omega,⟨by show (`aeW _).length<=30;rw[`F];omega,λ_ d hd=>?_,λz=>nomatch z⟩,`vt,na0 `vt⟩
  ·obtain⟨c,_,rfl⟩:=`c1
   exact⟨c,rfl⟩
  ·obtain⟨c,_,rfl⟩:=`c1
   rfl
  ·obtain⟨c,_,rfl⟩:=`c1
   rfl
 | row vs=>exact gen `dI λz=>nomatch z
 | table qs=>exact gen `dI λz=>nomatch z
 | rcd c qs=>exact gen `dI λ_ z=>nomatch z
theorem Ow0(W:`ky){T:`g}{b1:`_}(h:`aeQ)(hp:`aSy):`aTw:=by
 have M:=`ae3;have hB:∀j∈[0],`iA:=λj hj=>by rw[`fC hj];exact M.1
 have hI:=`nq `aTx;have hr:=`aeR `oi hB hI;obtain⟨N,hN⟩:=`Cr;have I0:Inv `aB [] [] `mk:=⟨rfl,`aW,rfl,Q2,(λs hs=>by cases hs),rfl,rfl,rfl,(λk hk=>by cases hk),`X,(λq hq=>by cases hq),`X,`X⟩;obtain⟨S1,r,I1,u1,J,w1⟩:=enter W I0 (w:=`td) (ws:=[]) rfl `fm (λk u e=>by cases e) 0 M.1 `aw;have Z:(start.hold (`pT ([]:`k).length)).begun=[]:=rfl;rw[Z,`e?] at J;obtain⟨S2,r2,I2,u2,w2,O⟩:∃S2,`aTl/\Inv `aB L T S2/\S2.un=[0]/\S2.wait=[`b1]/\`ae4=`HE `Vb:=by
  by_cases ht:kn (`p7)=0
  ·have Y:`HP=[]:=by
    cases e:`p7 with
    | text _=>rfl
    | row _=>rw[e] at ht;cases ht
    | table _=>rw[e] at ht;cases ht
    | rcd _ _=>rw[e] at ht;cases ht
   rw[`_W] at J w1;rw[Y] at h;cases h;refine`aTn;rw[J];show[_]=[v00 ps (ix [0]) 0];unfold v00;rw[ht];cases e:`p7 with
   | text _=>rfl
   | row _=>rw[e] at ht;cases ht
   | table _=>rw[e] at ht;cases ht
   | rcd _ _=>rw[e] at ht;cases ht
  ·rw[`ai ht] at J w1
   obtain⟨S2,r2,D2⟩:=sim W L h S1 0 [] [] (`p7) [] I1 `aw hB `aSl u1 (`adj) `aTx ht rfl w1;refine`aTp;rw[D2.bg,J,hN];show[(kn (`p7),[]++(`HP).map (lkv (ix ([0]++N))))]++N.map _=v00 ps (ix ([0]++N)) 0::N.map _;rw[List.singleton_append];congr 1;unfold v00;cases e:`p7 with
   | text _=>rw[e] at ht;exact `aeU
   | row _=>rfl
   | table _=>rfl
   | rcd _ _=>rfl
 have e2:`Va=`aTy:=by rw[an0 S2 0 [] [] u2 w2];rfl
 rw[e2] at r2;have U:`b2 `mk (`y4) `aTy:=by
  rw[hp,Km.jy0,`kn];exact Runs.app r r2
 rw[Zw0 _ _ U rfl (by show `ae6<=60;rw[I2.len];exact I2.few) (λq hq=>by
  have hq:q∈`ae4:=hq;rw[O] at hq;obtain⟨j,hj,rfl⟩:=`ds hq;exact Q60 W (hr j hj) _)]
 show `a (`cT (S2.begun.map `fP))=`aTz;rw[O,`bM,`bM];congr 2;refine `aPD
 exact Uk0 _ _
universe Rk
namespace Km
open DL W K22
open Bw (bs sg cnt kn its tx fold Vb Gp Gq two)
theorem iq0{p:Pt}(h:Gq p):p.few/\`Cx:=by
 have z:`c0:=`X
 have hc:=h.cnt;have:`Cx:=by
  cases p with
  | text w=>exact `cQ
  | row vs=>exact hc
  | table ps=>show `UO<=20;rw[`F];exact hc
  | rcd c ps=>show `UO<=20;rw[`F];exact hc
 exact⟨B9 `A `h,`A⟩
theorem Nf0{gA:GA}{δ:Ds}{i j:Int}(h:`b!=`a `W8)(h1:`awr)(h2:`Jg):k30 gA δ=`aws:=by
 unfold k30;rw[h,`f];simp only[V90];rw[`N `Z2]
universe Km
namespace Rk
open DL W Rm StrLaws
open Bt (Z6)
open Bw (bs sg its two kn cnt tx Vb Gq)
open Km (hb nB nT nW pk lkd It Wb ix)
open K22 (lkv rel Lv tgs nd)
mutual
noncomputable def nob:`dc
 | `ei=>`OH
 | `cN=>`OH
 | `bA=>`q
 | `nV=>`q
 | `nW=>`q
 | _=>`b
noncomputable def oa0:`AV
 | []=>`b
 | `lN=>nob x&&`OH
end
mutual
theorem Td0:∀(x y:D),nob x=`b->nob y=`b->`p8=`b->x=y
 | `u,y,_,h2,h=>by cases y<;>first|rfl|(exact `Cy)
 | `nN,y,_,h2,h=>by
  cases y with
  | int b=>rw[deq] at h;rw[beq_iff_eq.mp h]
  | bl b=>simp[nob] at h2
  | _=>exact `Cy
 | `g5,y,_,h2,h=>by
  cases y with
  | str b=>rw[deq] at h;rw[beq_iff_eq.mp h]
  | _=>exact `Cy
 | `bA,_,h1,_,_=>`ae9
 | `nV,_,h1,_,_=>`ae9
 | `nW,_,h1,_,_=>`ae9
 | `ei,y,h1,h2,h=>by
  cases y with
  | tup ys =>
   rw[deq] at h;rw[nob] at h1 h2;rw[`aTA]
  | _=>exact `Cy
 | `cN,y,h1,h2,h=>by
  cases y with
  | lst ys =>
   rw[deq] at h;rw[nob] at h1 h2;rw[`aTA]
  | _=>exact `Cy
theorem fc0:∀(xs ys:`j),`OH=`b->oa0 ys=`b->`K!=`b->xs=ys
 | [],[],_,_,_=>rfl
 | [],`db,_,_,h=>`aTB
 | `db,[],_,_,h=>`aTB
 | `lN,`AR,h1,h2,h=>by
  rw[xk0,`a?] at h;rw[oa0,`a?] at h1 h2;rw[Td0 x y h1.1 h2.1 h.1,fc0 xs ys h1.2 h2.2 h.2]
end
theorem jd0:∀{l:`j},(∀d∈l,`aTC)->oa0 l=`b
 | [],_=>by rw[oa0]
 | d::l,h=>by
  rw[oa0,`Cu,jd0 `nP];rfl
theorem uk0:∀{l:`j} {n:Nat},(∀d∈l,`mH)->`h2 l n=`b
 | [],_,_=>by rw[`h2]
 | d::l,n,h=>by
  rw[`h2,`Cu,uk0 `nP];rfl
structure Sm(d:D)(n:Nat):Prop where
 nb:`aTC
 ln:`mH
theorem Sm.tup{l:`j}(h:∀d∈l,Sm d n):Sm (`t l) `gM:=`aTD
theorem Sm.lst{l:`j}(h:∀d∈l,Sm d n):Sm (`l l) `gM:=`aTD
theorem Sm.str(s:Str)(n:Nat):Sm `fO n:=`aTE
theorem Sm.int(s:Int)(n:Nat):Sm (`d s) n:=`aTE
theorem Sm.two{a b:D}(ha:Sm a n)(hb:Sm b n):Sm `ae7 `gM:=`t λd hd=>by
 rcases `i1 with rfl|hd
 ·exact ha
 ·rw[`lu];exact hb
theorem Sm.val{v:D}(h:`hm)(n:Nat):Sm v `gM:=by
 cases h with
 | non=>exact⟨`aoK,`ae'⟩
 | lk j _=>exact .two `vF (`ae!)
 | int z _=>exact `ae!
theorem Jd0{p:Pt}(hv:∀v∈`gy,`hm)(n:Nat):Sm p.d (n+4):=by
 have pairs:∀qs:`bN,`aTe->Sm `Vf (n+3):=λqs h=>`t λd hd=>by
  obtain⟨q,hq,rfl⟩:=`c1;exact .two `vF (.val (h q.2 (`OC)) n)
 cases p with
 | text w=>exact .two `vF `vF
 | row vs=>exact .two `vF (`t λd hd=>.val (hv d hd) `gM)
 | table qs=>exact .two `vF (`aTF)
 | rcd c qs =>
  exact `t λd hd=>by
   rcases `i1 with rfl|hd
   ·exact `Ve
   rcases `i1 with rfl|hd
   ·exact `Ve
   ·rw[`lu];exact `aTF
theorem a00(hw:`dD):Sm `p2 50:=Sm.tup (n:=49) λd hd=>by
 obtain⟨p,hp,rfl⟩:=`c1;exact Jd0 `aoa 45
theorem Yx0(l:`_):Sm (`G7) 50:=Sm.lst (n:=49) λd hd=>by
 obtain⟨z,_,rfl⟩:=`c1;exact `ae!
theorem Sm.eq{x y:D}(hx:`OI)(hy:Sm y 50)[`qG (x=y)]:wq0 x y=`a `ar':=by
 show `aTG;rw[`ae?]
 by_cases h:x=y
 ·rw[`ir,← h,DL.o70 x 50 hx.ln]
 ·rw[`iF]
  cases e:`p8 with
  | false=>rfl
  | true=>exact `I (Td0 x y hx.nb hy.nb e) h
theorem Sm.ne{x y:D}(hx:`OI)(hy:Sm y 50)[`qG (x=y)]:xx0 x y=`a (.bl (!`Dn)):=by
 show (if `HZ then `a (`a2 (!`p8)) else `c)=_;rw[`ae?];have:=Sm.eq hx hy;have e:wq0 x y=`aoM:=by
  show `aTG;rw[`ae?]
 rw[e] at this;injection this with this
 injection this with this
 rw[`A]
theorem ps0(p:Pt)(h:`Cx):Z4 `to=`a (`l `gy):=by
 have z:`c0:=`X
 have hc:∀(X:D) (qs:`bN),`aTH->`lx<=20->U5 2 [] `px `Tj noT `W [.sh X]=`a (`l (`np)):=λX qs hX hl=>by
  refine `aTI
  ·show `aP7
   rw[`aP8,hX];rfl
  ·rw[vh0 (λd=>match d with|`t [_,b]=>b|_=>`u) (λd hd=>by
    obtain⟨q,_,rfl⟩:=`c1;exact⟨[.sh (`y9),.sh q.2],rfl,rfl,rfl⟩),`bM]
   rfl
 cases p with
 | text w =>
  refine `vr;rw[`hE];exact `NZ
 | row vs =>
  refine S6 rfl (u9 (δ':=[`N1]) `dC `He);rw[`hE];exact `NZ
 | table qs =>
  have h:`vG:=h;rw[`F] at h;refine S6 rfl (u9 (δ':=[`H0]) `dC (u9 (δ':=[`H0]) `dC `aTJ))
 | rcd c qs =>
  have h:`vG:=h;rw[`F] at h;refine S6 rfl (u9 (δ':=`aTK) `dC (u9 (δ':=`aTK) `dC `aTJ))
theorem qo0(X:D)(s:`ad Sl)(qs:`bN)(i:Nat)(hi:gv i s=`a X)(hX:`aTH)(hl:`lx<=20):U5 1 [] (tupI (o2 `KO `ie ixD)) `bD noT `jD s=`a (`tB):=by
 have z:`c0:=`X
 refine `aTI
 ·show `gt (o2 `KO `ie ixD s) _=_
  rw[p6 (x:=X) (y:=`yz) hi rfl,hX];rfl
 ·rw[vh0 `aP9 (λd hd=>by
   obtain⟨q,_,rfl⟩:=`c1;exact⟨[.sh (pr q)],rfl,rfl,rfl⟩),`bM]
  rfl
theorem mv0:∀(qs:`bN) (vs:`j),`aoR (`aFd)=`y! pr
 | [],_=>rfl
 | `xq,[]=>rfl
 | `xq,`A6=>by
  rw[`T,`dB,`T,`T,`dB,`T,mv0 qs vs];rfl
theorem X50(p:Pt)(h:`Cx)(vs:`j)(hl:`ad?):zf0 [p.d,`sD]=`a (`aea).d:=by
 have z:`c0:=`X
 cases p with
 | text w =>
  refine Y0 rfl (u9 (δ':=[`aoV,`lm,.un]) `dC `il);rw[`hE];exact `oa
 | row us =>
  refine `n8;rw[`hE];exact `aP4
 | table qs =>
  have h:`vG:=h;rw[`F] at h;refine Y0 rfl (u9 (δ':=`aTL) `dC (u9 (δ':=`aTL) `dC `aTM));rw[p6 (x:=`aTN) (y:=`aTO) rfl (J2 (`U (by
   rw[m5 (ds:=[`l (`y! pr)]) (`U (by
    rw[`aTP];show `aTQ;rw[mv0]) rfl)]
   rfl) rfl) `Cz)]
  rfl
 | rcd c qs =>
  have h:`vG:=h;rw[`F] at h;refine Y0 rfl (u9 (δ':=`aTR) `dC (u9 (δ':=`aTR) `dC `aTM));rw[p6 (x:=`t [`jC,`hX]) (y:=`aTO) rfl (J2 (`U (by
   rw[m5 (ds:=[`l (`y! pr)]) (`U (by
    rw[`aTP];show `aTQ;rw[mv0]) rfl)]
   rfl) rfl) `Cz)]
  rfl
universe Rk
namespace Rk
open DL W Rm StrLaws
open Bt (Z6)
open Bw (bs sg its two kn cnt tx Vb Gq)
open Km (hb nB nT nW pk lkd It Wb ix)
open K22 (lkv rel Lv tgs nd)
theorem X40:∀L:`k,`afa=`a (`aTS)
 | []=>rfl
 | k::L=>by
  show (`afa).map (((k:Nat):Int)::·)=_;rw[X40 L];rfl
theorem Yo0(j:Nat):∀L:`k,j∈L->(`aTS).findIdx? (λy=>`w (y=`bV))=`a (`OG)
 | [],h=>by cases h
 | k::L,h=>by
  rw[`T,List.findIdx?_cons];unfold ix
  by_cases e:k=j
  ·rw[`fe,`q5]
   rfl
  ·rw[`ed,`dM,Yo0 j L `N4]
   rfl
theorem M70{v:D}(h:`hm)(L:`k)(hl:∀j:Nat,v=`gw->j∈L):uy0 [v,`y?]=`a (lkv `gx v):=by
 cases h with
 | non=>exact Y0 rfl (u9 (δ':=[`yV,`lw]) `kt (m9 rfl))
 | int z _=>exact Y0 rfl (u9 (δ':=[`cD,`lw]) `kt (m9 rfl))
 | lk j _ =>
  rw[show lkv `gx `nj=lkd (`OG) from `afb];refine `n8;rw[`ve];refine m9 (W2 (J2 (`U rfl (`U (d:=`d (`OG:Int)) ?_ rfl)) `uX));rw[Nu0 (d:=`y?) (ds:=[`eX]) rfl `io];show (`afa).bind _=_;rw[X40,`f,Yo0 j L (hl j rfl)];rfl
theorem Yz0(a b:`j):tgs `Gz=tgs a++tgs b:=by unfold tgs;rw[List.filterMap_append]
theorem Yc0{p:Pt}:tgs (`e_)=tgs `gy:=by
 have J:∀qs:`bN,tgs (`aeZ)=tgs (`np):=λqs=>by
  induction qs with
  | nil=>rfl
  | cons q qs ih =>
   rw[`Cd,Yz0,ih];show tgs [`y9,q.2]++tgs _=tgs ([q.2]++`np);rw[Yz0];rfl
 cases p with
 | text w=>rfl
 | row vs=>rfl
 | table qs=>exact J qs
 | rcd c qs=>exact J qs
theorem cv0(j:Nat)(ds:`j):tgs (`gw::ds)=j::`H4:=by
 unfold tgs lkd;rw[`IO];simp only[`bo]
theorem Ue0{d:D}(h:(∃s,`Hn)∨`aeI)(ds:`j):tgs `jO=`H4:=by
 rcases h with⟨s,rfl⟩|rfl|⟨z,rfl⟩<;>rfl
theorem gk0(ds:`j):(`H4).length<=`bk:=List.length_filterMap_le ..
noncomputable def NT:GB:=`aKQ
noncomputable def NB':GS:=(v7 `aKR
 (v7 (ifD `aKS
 (v7 `aKT
 (v7 `aKU
 (v7 `aKV
 t6)))
 t6)
 t6))
noncomputable def ns5(ps:`bv)(B W:`k)(s3 s4:Sl):Ds:=[`aF,.ow (`afc),.ow `za,s3,s4]
theorem Wl0(ps:`bv)(B W:`k)(d3 s4:Sl):NT `aTT=`a (`w (W≠[])):=by
 have hl:`aTU:=by
  rw[`cA];exact uk0 λd hd=>by
   obtain⟨k,_,rfl⟩:=`c1;simp[`cA]
 have he:xx0 `za `ev=`a (.bl (`w (W≠[]))):=by
  show (if `aTU/\`cA `ev 50=`b then `a (`a2 (!deq `za `ev)) else `c)=_;rw[`N ⟨hl,`aTV⟩,deq];cases W with
  | nil=>simp[K22.nd,xk0]
  | cons w W =>
   rw[`eG,`OJ];cases e:`Vh with
   | nil=>simp[xk0,K22.nd]
   | cons a r=>simp[xk0,K22.nd]
 show ob `alK (frz `aTT)=_;refine `cs;rw[p6 (x:=`Vi) (y:=`mr) rfl rfl];exact he
theorem Oj0(hw:`dD)(hj:`iA)(s1 s2 s4:Sl):U5 1 [] `alP `bD `sR `pv [`aF,s1,s2,`im,s4]=`a (`Vj):=by
 have z:`c0:=`X
 obtain⟨w1,w2⟩:=`U3;have hq:=`ls;have J:=`afd;generalize `hl=p at w1 w2 hq J;refine `aTW
 ·show `gt (oA `alO Z4 _) lp0=_
  rw[`aRu,ps0 p J];rfl
 ·have M:∀vs:`j,`aTX->zs0 `bD `sR `pv [.un] vs=`a (nd (tgs vs)):=by
   intro vs
   induction vs with
   | nil=>exact `iz
   | cons v vs ih =>
    intro hv;have ih:=ih `afe
    unfold zs0;cases `aff with
    | non =>
     simp only[show gN 0 D.non `BY=`a [`yV] from rfl,`f,show ob `pu [`lv `u]=`aV from rfl];exact ih
    | int x _ =>
     simp only[show gN 0 (`aX x) `BY=`a [`cF] from rfl,`f,show ob `pu [`lv (`nl)]=`aV from rfl];exact ih
    | lk i _ =>
     simp only[show gN 0 (`aTY) `BY=`a [.sh `HF] from rfl,`f,show ob `pu `aTZ=`eb from rfl,show o2 `ab `aC ixD `aTZ=`aQf from rfl,ih];rw[show `aTY=`Cq from rfl,cv0];rfl
  exact M `gy `Ci
theorem Y70(hw:`dD){B W:`k}(hj:`iA)(hB:`vu)(hW:`tv<=200000)(s3 s4:Sl):∃s4',NB' `aT_=`a (.nx (ns5 ps (`UV) ((if `dy then [] else `H3)++W) `tC s4')):=by
 have zs:`aem:=`X
 have p1:Q0 (q60 2) `jA `aT_=`a (.nx (`OK)):=by
  unfold ns5 Q0 q60;rw[`eG,`OJ];show `gt (`f1 (λd'=>(d',([`aF,.ow (`afc),.ow (`l (`aT0).dropLast),s3,s4]:Ds))) (`aT0).getLast?) _=_;rw[`aRm,`ND];rfl
 have c:pa0 `alM (`OK)=`aei:=by
  show ob `alL (frz (`OK))=_;refine `cs;rw[p6 (x:=`eX) (y:=`afc) rfl rfl];exact K22.Ko0 B j
 by_cases h:`dy
 ·refine⟨s4,?_⟩
  rw[`co,`co];refine u9 p1 (u9 (δ':=`OK) ?_ rfl);rw[c7 (by rw[c,`Oa])];rfl
 ·rw[`dR,`dR]
  obtain⟨_,w2⟩:=`U3;have M:=(Km.iq0 (`ls)).2;have J:=gk0 `aoS;refine⟨`aoT,u9 p1 `aT1⟩;rw[`aO6];refine u9 (δ':=ns5 ps `iy W `tC s4) ?_ (u9 (X3 (d:=`Vj) (Oj0 hw hj _ _ _)) `aT1)
  ·refine(`BX (l:=nd B) (d:=`eX) rfl rfl `aT2).trans ?_
   unfold ns5;rw[`OJ];rfl
  ·generalize `H3=E at J
   show Q3 2 `alQ [`aF,.ow (`l (nd `iy)),.sh `za,`im,.sh (`afg)]=_;unfold Q3;rw[p6 (x:=`Vi) (y:=`l (nd E).reverse) rfl (by rw[m5 (ds:=[`afg]) rfl];rfl)];simp only[si0];rw[`N (by rw[`zb,`ip,`ip,`zb];omega)];unfold ns5;rw[`ado,`OJ `yX,K22.L40];rfl
theorem io0{gt:GB}{δ:Ds}(h1:`fy=`eb)(h2:`aaN):T5 gt G `gM δ=`ZT:=by
 conv=>lhs;unfold T5
 rw[h1];simp only[h2]
theorem Pk.order(hw:`dD){B B':`k}{T:`g}{b:`_}(h:`kx):`q?->`vA->`Os->∃n,`aSo/\∀(f:Nat) (W:`k) (s3 s4:Sl),`tv+`bk+51*`HL<=51*`bG+100000->∃s3' s4',T5 NT NB' `HM (ns5 ps B (`OL) s3 s4)=T5 NT NB' f (ns5 ps B' W s3' s4'):=by
 have M:∀{B:`k},`q?->`vA->`vu:=λ{B} hn hB=>by
  have:=`tE hn (m:=`nr) λy hy=>`fL (hB y hy)
  rw[`gL] at this;have:=`Ou;omega
 induction h with
 | nil B T=>exact λ_ _ _=>⟨0,`aW,λf W s3 s4 _=>⟨s3,s4,`aeM⟩⟩
 | str _ ih =>
  intro hn hB hd;obtain⟨n,h1,h2⟩:=`afh
  exact⟨n,`lt,λf W s3 s4 hl=>by rw[Ue0 (`o `ae)];exact `aT3⟩
 | val hd' _ ih =>
  intro hn hB hd;obtain⟨n,h1,h2⟩:=`afh
  exact⟨n,`lt,λf W s3 s4 hl=>by rw[Ue0 (`n hd')];exact `aT3⟩
 | old hj p ih =>
  rename_i B T j ds B' T' b;intro hn hB hd;obtain⟨n,h1,h2⟩:=`afh
  obtain⟨N,hN⟩:=p.pre;have a7:`bG<=`HL:=by rw[hN,`Z];omega
  refine⟨n+1,`lt,`aT4⟩;rw[`V] at hl;have a3:=gk0 ds;obtain⟨s4',e⟩:=Y70 hw (B:=B) (W:=`OL) (hB j hj) (M hn hB) `Oh s3 s4;obtain⟨a,c,q⟩:=h2 f W `tC s4' `h;refine⟨a,c,?_⟩;rw[cv0,`fa,`Ot,`aT5,`Cs,`Cs,`e?];exact q
 | new hj p1 p2 i1 i2 =>
  rename_i B T j ds B1 B' T1 T' b1 b;intro hn hB hd;have J:=`aeL;have O:=`aeJ;have U:∀x∈`lr,`ra:=λx hx=>by
   rcases `nZ with z|z
   ·exact hB x z
   ·rw[`hD];exact J
  have hI:=`tw `HN;obtain⟨n1,a1,a2⟩:=i1 O U hI;obtain⟨n2,c1,c2⟩:=i2 (p1.nodup O) (p1.range hw U hI) `y2
  obtain⟨N1,Z⟩:=p1.pre;obtain⟨N2,Y⟩:=p2.pre;have a5:`OB<=`ae5:=by rw[Z,`Z,`Z,`cn];omega
  have a6:`ae5<=`HL:=by rw[Y,`Z];omega
  have a4:=`aSq;rw[`Z,`cn] at a1 a2;refine⟨`U2,`lt,`aT4⟩;rw[`V] at hl;have a3:=gk0 ds;obtain⟨s4',e⟩:=Y70 hw (B:=B) (W:=`OL) J (M hn hB) `Oh s3 s4;rw[`Ct,`Ct] at e;obtain⟨t3,t4,q1⟩:=a2 `HO (`OL) `tC s4' `Oh;obtain⟨v3,v4,q2⟩:=c2 f W t3 t4 `h;refine⟨v3,v4,?_⟩;rw[cv0,`fa,`aSr,`aT5,← Yc0,q1,q2]
theorem Zn0(hw:`dD){T:`g}{b1:`_}(h:`aeQ):`aT6:=by
 have J:=`Ou;have hp:`aSD:=`aSE;obtain⟨n,a1,a2⟩:=hp.order hw Q2 `aSF `aSG;have hB:∀j∈[0],`iA:=`aSA
 have hl:`aSH:=by
  have:=`tE (`aSC) (m:=`nr) λy hy=>`fL (`aeR hw hB (`aSB) y hy)
  rwa [i4] at this
 simp only[`V,`gr] at a1;obtain⟨s3,s4,q⟩:=a2 `y5 [] .un .un `GK;have e:T5 NT NB' `y5 `aT7=`a (.nx `aT7):=by
  rw[show `U5=(99999 - n)+1 by omega];unfold T5;rw[Wl0];rfl
 rw[`aSI,e] at q;exact S6 rfl (u9 (δ':=[`aF,`fD,.un,.un,.un]) rfl (u9 (δ':=ns5 ps [] [0] .un .un) rfl `aRH))
noncomputable def R1:GS:=(v7 `aKZ
 t6)
noncomputable def R2:GS:=(v7 `aK0
 (v7 `aK1
 t6))
noncomputable def R3:GS:=(ifD `aKY R1
 (v7 (ifD `aK_ R2 t6) t6))
theorem Je0(p:Pt)(h:`Cx)(f:`kf)(a b c d s6:Sl):∃s6',R3 [a,b,c,d,`lA,`aT8,s6]=`a (.nx [a,b,c,d,.sh (`ng p (`yY f)).d,`aT8,s6']):=by
 have z:`c0:=`X
 cases p with
 | text w =>
  refine`aT9;show ifD _ _ _ `aT'=_;rw[`p1];refine u9 (δ':=`aT') ?_ rfl;rw[`p1];rfl
 | row vs =>
  refine`aT9;show ifD _ _ _ [a,b,c,d,`N1,.sh (`l (`ib f)),s6]=_;rw[`hE];exact u9 (X3 (d:=(`ng (`n7) (`ib f)).d) `UD) rfl
 | table qs =>
  have h:`vG:=h;rw[`F] at h;refine`aT!;show ifD _ _ _ [a,b,c,d,`H0,`OM,s6]=_;rw[`p1];refine u9 (δ':=[a,b,c,d,.sh (`ng (`ya qs) `zc).d,`OM,`Vl]) ?_ rfl;rw[`hE];refine `aT?;rw[p6 (x:=`aTN) (y:=`aUa) rfl (J2 (`U (by
   rw[m5 (ds:=`aUb) (`U (by
    rw[`aUc];show `aUd;rw[mv0]) rfl)]
   rfl) rfl) `Cz)]
  rfl
 | rcd cl qs =>
  have h:`vG:=h;rw[`F] at h;refine`aT!;show ifD _ _ _ [a,b,c,d,.sh (`Hp cl qs).d,`OM,s6]=_;rw[`p1];refine u9 (δ':=[a,b,c,d,.sh (`ng (`m6 cl qs) `zc).d,`OM,`Vl]) ?_ rfl;rw[`hE];refine `aT?;rw[p6 (x:=`t [`jC,`s cl]) (y:=`aUa) rfl (J2 (`U (by
   rw[m5 (ds:=`aUb) (`U (by
    rw[`aUc];show `aUd;rw[mv0]) rfl)]
   rfl) rfl) `Cz)]
  rfl
noncomputable def DB:GS:=(v7 `aKW
 (v7 `aKX
 (v7 R3
 (v7 `aK2
 t6))))
theorem Js0{d:D}(h:`H1[j]?=`bd):∃k:Nat,L[j]?=`fz/\d=`h6:=by
 unfold K22.nd at h;rw[`ca] at h;cases e:L[j]? with
 | none=>rw[e] at h;cases h
 | some k=>rw[e] at h;exact⟨k,rfl,`_?⟩
theorem Ss0(hw:`dD)(hn:L.Nodup)(hL:∀k∈L,`vw)(hc:∀k∈L,`aSz)(hnum:`aT6):`aUe:=by
 have zs:(9000:Nat)<=`L:=`X
 have a1:`y_<=60:=by
  have:=`aUf
  rw[`gL] at this;have:=`Ou;omega
 obtain⟨δ',l3,l4⟩:=tu0 (f:=gN 3) (G:=DB) (λi δ=>∃s3 s4 s5 s6:Sl,δ=[`aF,`lw,.ow (`l ((`Vm i).map `zd)),s3,s4,s5,s6]) `H1 0 `aUg (by
  rintro j d δ hj ⟨s3,s4,s5,s6,rfl⟩;obtain⟨k,hk,rfl⟩:=Js0 hj;have O:=C5 hk;rw[`jW];obtain⟨w1,w2⟩:=`p6 (hL k O);have hq:=`ls;have U:=hc k O;have e1:(`Vm `qz).map (`zd)=`aoY (`zd)++[(`UY).d]:=by rw[`aQJ,hk,`aN];rfl
  generalize `yZ=p at w1 w2 hq U e1;have M:=`afd;have Y:∀i,`Cq∈`gy->i∈L:=λi hi=>U i (by
   have J:∀qs:`bN,`Cq∈`np->`Cq∈`aeZ:=λqs h=>by
    obtain⟨q,hq,e⟩:=`ds h;exact i3.mpr ⟨q,hq,by unfold two;rw[e];simp⟩
   cases p with
   | text w=>cases hi
   | row vs=>exact hi
   | table qs=>exact J qs hi
   | rcd c qs=>exact A4 _ (J qs hi))
  obtain⟨Z,hr⟩:=Je0 p M `tF (`aF) (`lw) (`aUh) (`cX) s6;refine⟨[`aF,`lw,`aUh,`cX,s4,s5,s6],_,rfl,u9 `aRf (u9 (X3 (d:=`aUi) ?_) (u9 hr (u9 (`BX (l:=`aoZ) (d:=`aUj) rfl rfl (`aHe)) rfl))),`cX,.sh `aUj,.sh (`aUi),Z,`aH?⟩
  ·rw[p6 (x:=`jT) (y:=`h6) rfl rfl]
   exact w1
  ·refine `aTW
   ·show `gt (oA `m0 Z4 _) lp0=_
    rw[`Og,ps0 p M];rfl
   ·exact vh0 `tF λv hv=>⟨[`zh,`lw],rfl,rfl,by
     rw[m5 (ds:=[v,`y?]) rfl];exact M70 (`Ci v hv) L λi e=>Y i (e▸hv)⟩) ⟨.un,.un,.un,.un,rfl⟩
 obtain⟨s3,s4,s5,s6,rfl⟩:=l4;rw[`zb,`jW,`ad7] at l3;refine Y0 rfl (u9 (δ':=[`aF,`lw,.un,.un,.un,.un,.un]) (X3 (by rw[`afi];exact hnum)) (u9 (δ':=`aUg) rfl (u9 (wi0 (items:=nd L) rfl l3) `jN)));show oA `cW zo0 [`aF,`lw,.sh (`aUk),wv0 s3,wv0 s4,wv0 s5,wv0 s6]=_;rw[m5 (ds:=[`aUk]) rfl];show `a (`cT _)=`aTz;rw[`bM];rfl
theorem told(W:`ky):∃L:`k,Wb `Vd/\`U4 `Vd 0=`y4/\vz0 `tD=`aUl/\vz0 [`aoG]=`aUl/\`aUe/\`aTw:=by
 obtain⟨L,T,b1,h,hp,hn,hL,hc,N,hN⟩:=Qn0 `oi;have J:∀k∈L,∀i∈`aew,i∈L:=λk hk i hi=>by
  rw[← Yc0] at hi;obtain⟨v,hv,e⟩:=k9.mp hi;obtain⟨_,w2⟩:=`p6 (hL k hk);have hI:=`nq w2 v hv;rcases hI with⟨s,rfl,_⟩|rfl|⟨z,rfl,_⟩|⟨j,rfl,_⟩
  ·cases e
  ·cases e
  ·cases e
  ·simp only[`bo] at e
   cases e;exact hc k hk i hv
 have M:`aRU:=by
  have:=`aUf
  rw[`gL] at this;have:=`ae3;exact⟨by rw[hN];simp,`C⟩
 have wl:=Km.Pw0 `oi M hL J;have hs:=Km.Nr0 (Km.Rp0 `oi hL J) (r:=0) (by rw[hN];exact A6);have h0:ix L 0=0:=by rw[hN];rfl
 rw[h0] at hs;refine⟨L,wl,hs,(Km.Yd0 `oi).1,?_,Ss0 `oi hn hL hc (Zn0 `oi h),Ow0 W h hp⟩;have:=(Km.Yd0 wl).1;rw[hs] at this;exact `A
universe Rk
namespace K22
open DL W
theorem Mc0{v:D}(h:Lv n v)(k:Nat):`cA v `eS=`b:=by
 rcases h with rfl|⟨z,rfl⟩|⟨j,rfl,_⟩<;>simp[`cA,`h2]
theorem uk0{l:`j}{k:Nat}(h:∀x∈l,`cA x k=`b):`h2 l k=`b:=by
 induction l with
 | nil=>rfl
 | cons a l ih=>rw[`h2,h a A6,ih `nP];rfl
universe K22
namespace Ta
open DL W K22
theorem Mi0(h:j<n):ixN n `bV=`uo:=by
 unfold ixN;rw[`q4,`q4,`bo]
universe Ta
namespace Ta
open DL W K22
theorem Qw0(qs:`bv)(j:Nat)(q:Pt):(`p').set j q.d=(`Vv j q).map `s3:=by rw[List.map_set]
theorem T30{g:GE}{δ:Ds}{gx:GE}{v:D}(h1:`h1=`jh)(h2:`ar=`a `sz)(h3:j<`bk)(h4:`eW=`bX):Q0 (Z8 gx) `aBu δ=`a (.nx (`azE)):=by
 unfold Q0 Z8;rw[h4];unfold setAt;rw[`gH,`f,h1,`f,h2,`f];simp only[];rw[Mi0 h3];rfl
theorem Qf0(xs:`j)(n:Nat):`pa xs `c `H5=`IA:=by
 unfold cutD;show (`om 0).take (sIx `am `am `H5 - 0)=_;rw[`aPy,Nat.sub_zero];unfold sIx;simp only[];rw[`Ny,`bo]
 by_cases h:n<=`am
 ·rw[`ac1 h]
 ·rw[`ac2,`ad7,`am0 `h]
theorem Qo0(xs:`j)(n:Nat):`pa xs `H5 `c=`om n:=by
 unfold cutD;show (`om (`aUm)).take (`am - `aUm)=_;unfold sIx;simp only[];rw[`Ny,`bo]
 by_cases h:n<=`am
 ·rw[`ac1 h,`aN0]
 ·rw[`ac2,`uC,`aN2,`aN1]
theorem Kv0{g gh:GE}{δ:Ds}{xs:`j}(h1:`aUn)(h2:`aUo):zh0 g J8 `aUp δ=`a (`t (`IA)):=by
 unfold zh0 someO;rw[h1,h2,← Qf0];rfl
theorem Os0{g gh:GE}{δ:Ds}{xs:`j}(h1:`aUn)(h2:`aUo):zh0 g `aUp J8 δ=`a (`t `VZ):=by
 unfold zh0 someO;rw[h1,h2,← Qo0];rfl
universe Ta
namespace Ta
open DL W K22
theorem Kt0{v:D}(k:Gw.Vk v `kR):Lv m v:=by
 rcases vl0 k.ok with rfl|⟨i,rfl⟩|⟨i,rfl,hi⟩
 ·exact `bQ
 ·exact `aMs
 ·have:=k.lk i rfl
  exact `n (`n ⟨`eo,by rw[`aUq hi],`C⟩)
theorem eq_nil{vs:`j}(h:∀v∈vs,Lv n v):wq0 `yo `ev=`a (.bl (`w (vs=[]))):=by
 unfold wq0;have e:`cA `yo 50=`b:=by
  rw[`cA];exact uk0 λx hx=>Mc0 (h x hx) 48
 rw[`N ⟨e,`aTV⟩];cases vs with
 | nil=>simp[deq,xk0]
 | cons a vs=>simp[deq,xk0]
theorem P80{xs ys:`j}(h:`EO):m8 `op `wM=`azR:=by
 simp only[m8];rw[`co]
universe Ta
namespace Rk
open DL W Rm StrLaws
open Bt (Z6)
open Bw (bs sg its two kn cnt tx Vb Gq)
open Km (lkd It Wb ix)
open K22 (lkv rel Lv tgs nd)
open Gw (Gd Vk)
theorem U10{p:Pt}{m:Int}(h:`TZ){vs:`j}(hl:`ad?)(hv:∀v∈vs,`vc):Gd (`aea) m `aB:=by
 have M:∀qs:`bN,PsOk qs->`bS=`aoO->PsOk (`Vg vs)/\`aUr:=λqs hq he=>by
  rw[`F] at he;have e1:`aUr:=Dj0 `iw;refine⟨⟨?_,`fU,`fU,by rw[e1];exact hq.nd⟩,e1⟩
  ·rw[`h8,`F]
   have:=hq.len;omega
  ·obtain⟨q,O,e⟩:=`ds (`aUs).1
   rw[← e];exact hq.names q O
  ·exact(hv p.2 (`aUs).2).ok
 have ev:=K22.j20 p vs hl;cases p with
 | text w=>exact h
 | row us=>exact⟨⟨by have:=h.ok.1;have e:`bS=`k8:=hl;omega,λv J=>(hv v J).ok⟩,hv,h.nms⟩
 | table qs =>
  obtain⟨k1,k2⟩:=M qs h.ok hl;refine⟨k1,`aUt,`aUu⟩;have hs:s∈`Vn++[]:=hs;rw[k2] at hs;exact hs
 | rcd c qs =>
  obtain⟨k1,k2⟩:=M qs h.ok.2 hl;refine⟨⟨h.ok.1,k1⟩,`aUt,`aUu⟩;have hs:s∈`Vn++[c]:=hs;rw[k2] at hs;exact hs
theorem Z60{p:Pt}(h:p.Ok):`yQ<=12:=by
 cases p with
 | text w=>exact `cQ
 | row vs=>exact h.1
 | table qs=>show `aUv;rw[`F];exact `og h
 | rcd c qs=>show `aUv;rw[`F];exact `og h.2
theorem Pc0{v:D}(hn:n<=60)(h:`aUw):`hm/\Bw.Lk n v:=by
 rcases vl0 h.ok with rfl|⟨i,rfl⟩|⟨i,rfl,hi⟩
 ·exact⟨`u,λj e=>nomatch e⟩
 ·refine⟨`d i ?_,λj e=>nomatch e⟩
  have h1:=h.bd i rfl;have h2:(10:Nat) ^ 60<`UK:=`aP
  exact D8 h1 h2
 ·have:=h.lk i rfl
  obtain⟨k,rfl⟩:∃k:Nat,i=`bU:=`afj;exact⟨.lk k `h,Bw.Pi0 `h⟩
structure Dw(ps:`bv)(pool:`g):Prop where
 len:1<=`ax/\`ac3
 pl:`ac4<=60
 gd:∀p∈ps,`ac5
theorem Dw.wf(h:`ON):Wf ps (pool.filter λs=>`pH s):=by
 have hl:=`ia;have J:∀p∈ps,∀s∈`vd,`acF:=λp hp s hs=>by
  have ho:=`afk;cases p with
  | text w=>cases hs
  | row vs=>cases hs
  | table qs =>
   have hs:s∈`y'++[]:=hs;rw[`cZ] at hs;obtain⟨q,hq,rfl⟩:=`acQ;exact `aUx ho q hq
  | rcd c qs =>
   have hs:s∈`y'++[c]:=hs;rcases `dl hs with hs|hs
   ·obtain⟨q,hq,rfl⟩:=`acQ
    exact `aUx ho.2 q hq
   ·rw[`fC hs];exact ho.1
 refine⟨⟨`C,`fU,λp hp v hv=>(`aUy).2⟩,B9 (List.length_filter_le _ _) h.pl,λs hs=>(`zx hs).2,λp hp=>`afk,λp hp s hs=>N9.mpr ⟨(`Vo).nms s hs,`aUz⟩⟩;have ho:=`afk;refine⟨?_,λv hv=>(`aUy).1,λs hs=>B9 (W70 (`aUz)) `h,Z60 ho⟩;cases p with
 | text w=>exact`aTv
 | row vs=>exact B9 ho.1 `h
 | table qs=>exact B9 (`og ho) `h
 | rcd c qs=>exact B9 (`og ho.2) `h
theorem J40{k:Nat}(hk:`vw):ixD `p2 `sY=`a `zj:=by
 show atI `pK `bU=_;rw[`adY,`bo];simp[`bg,hk]
theorem Wu0{δ:Ds}(h:gv i δ=`a `p2):oA (z7 `KO v5) V2 δ=`a `ao4:=by
 rw[m5 (ds:=`tD) `aQC];show `a (`aX ((`T1).length:Int))=_;rw[`F]
theorem Xf0{i:Int}(h0:`gg)(h1:i<`cw):Vk (`ace) `cw:=⟨by simp[je0,`GB,h0],`aUA,λk e=>by have:=`lG;omega⟩
theorem Z50{m:Int}:Vk `u m:=⟨rfl,`aUA,λk e=>nomatch e⟩
theorem Tw0{m:Int}{z:Int}(h:`anF<`BT):Vk `ic m:=⟨rfl,(λj e=>by injection e with e;rw[← e];exact h),λk e=>nomatch e⟩
theorem Xs0{qs:`bv}(h:Dw qs `aB)(x:Int):∃rs,vt0 [`Vp,`nl]=`afl/\`afm:=by
 have zs:`kv:=`X
 have hq:=`ia;have b1:0<=`OO:=`va;have b2:`OO<`lx:=`vb;obtain⟨k,hk⟩:∃k:Nat,`OO=`bU:=⟨(`OO).toNat,`C⟩;have M:k<`lx:=`C
 have e1:=J40 M;have pg:=h.gd qs[k] (L3 M);have pf:=Z60 pg.ok;have gk:o2 `W `ps o5 `aUB=`a `sY:=by
  rw[p6 (x:=`nl) (y:=`aUC) rfl (Wu0 rfl),`afn,hk]
 have gp:∀s2 s3:Sl,o2 `ab `au ixD [`ly,`cF,`cX,s2,s3]=`a `afo:=λs2 s3=>by
  rw[p6 (x:=`Vp) (y:=`h6) rfl rfl];exact e1
 have s1:b7 `bf `aK6 `aUB=`a (.nx `aUD):=X3 gk;have s2:Q3 3 `aK7 `aUD=`a (.nx `afp):=by
  unfold Q3;rw[m5 (ds:=[`afo]) `aUE,`aUF];rfl
 have t:pa0 `aK8 `afp=`a (`w (`tG=[])):=by
  show ob `alW [`ly,`cF,`cX,.sh (`tH),.un]=_;exact `q! (by rw[p6 (x:=`tH) (y:=`mr) rfl (U30 rfl (by show 0<=`L;omega))];exact Ta.eq_nil (n:=`lx) λv hv=>Ta.Kt0 (`CA v hv))
 by_cases hn:`tG=[]
 ·refine⟨qs,Y0 rfl (u9 s1 (u9 s2 `il)),h⟩
  rw[T6 (t.trans (by rw[`bF hn]))];exact `oa
 ·have a6:0<`ze:=`ML hn
  have c1:0<=`OP:=`va;have c2:`OP<`ze:=`vb;obtain⟨j,hj⟩:∃j:Nat,`OP=`bV:=⟨(`OP).toNat,`C⟩;have Y:j<`ze:=`C
  have m0:0<=`Vr:=`va;have m1:`Vr<`lx:=`vb;obtain⟨u,hu⟩:∃u,u=qs[k].vals[j]:=`ae;have uk:Vk u `p9:=`CA u (by rw[hu];exact L3 Y);obtain⟨σ,hσ⟩:∃σ:`j->Ds,σ=λvs=>[`ly,`cF,`cX,.ow `yo,`im]:=`ae
  have a3:∀vs,R6 `al_ (σ vs)=`a (`H6):=λvs=>by
   rw[hσ];refine J2 (`U rfl (`U (d:=`ao1) ?_ rfl)) `s2;rw[p6 (x:=`d (x/720)) (y:=`aUC) rfl (Wu0 rfl)];exact `afn
  have a2:Vk (`H6) `p9:=Xf0 m0 m1;have a1:`aUG=`bi:=by
   rw[hσ];refine rf0 ?_ ?_
   ·show o2 `du `fG ixD [`ly,`cF,`cX,.sh (`tH),`im]=_
    rw[p6 (x:=`tH) (y:=`eX) rfl rfl];show atI `tG `bV=_;rw[`aUH,`bo,hu];simp[`bg,Y]
   ·rcases `afq with e|⟨i,e⟩|⟨i,e,_⟩<;>rw[e]<;>rfl
  have U:∀(g:GE) (v':D),g `gz=`CB->v7 (Q0 (Z8 g) `Gj) t6 `gz=`aUI:=λg v' hg=>by
   refine `afr;rw[hσ] at hg ⊢;exact Ta.T30 (ds:=`tG) (j:=j) (v:=v') rfl rfl Y hg
  have J:∀(gA:GA) (gi:GE) (ds:`j) (t:Nat) (v':D),gA `gz=`jh->gi `gz=`afs->`bk<=3->ds[t]?=`CB->o2 `Zd gi ixD `gz=`CB:=λgA gi ds t v' h1 h2 h3 h4=>by
   rw[p6 (x:=`ch) (y:=`Vt) (U30 h1 `h) h2];have:=(`cL h4).1;show atI ds `m'=_;rw[`aUH,`bo,`bg,h4];rfl
  have a4:∃v',`aft/\(ifD `aK9
 (v7 `aK'
 t6)
 (v7 (ifD `aK!
 (v7 `aK?
 t6)
 (v7 `aLa
 t6))
 t6)) `gz=`aUI:=by
   have tn:∀b,qb0 u `u=`TJ->ob `alY `gz=`k0:=λb hb=>Z6 (by rw[p6 (x:=u) (y:=`u) a1 rfl];exact hb)
   have tt:ob `alZ `gz=`a (`lj u):=by
    refine `cs;show `f1 _ (`aUG)=_;rw[a1];rfl
   rcases `afq with e|⟨i,e⟩|⟨i,e,_⟩
   ·refine⟨`fF,Tw0 `d7,?_⟩
    rw[T6 (tn `b (`H7))];exact U _ _ rfl
   ·have m3:`CC=0∨`CC=1∨`CC=2:=`C
    have gi:∀t:Nat,`CC=`m'->o2 `Gk `fH o5 `gz=`afs:=`aUJ
    have gA:z7 `ig `al0 `gz=`a `aUK:=`U rfl (`U (by rw[p6 (x:=u) (y:=`pt) a1 rfl,e];rfl) `aUL);obtain⟨t,v',ht,Z,vk⟩:∃(t:Nat) (v':D),`CC=`m'/\(`aUK:`j)[t]?=`CB/\`aft:=by
     rcases m3 with q|q|q
     ·exact`aUM
     ·refine⟨1,`ao2,q,rfl,Tw0 ?_⟩
      have:=uk.bd i e;omega
     ·exact⟨2,_,q,rfl,a2⟩
    refine`aUN;rw[`aUO];refine `afr;rw[c7 `aUP];exact `aUQ
   ·have m2:`OQ=0∨`OQ=1:=`C
    have gi:∀t:Nat,`OQ=`m'->o2 `Gk `c! o5 `gz=`afs:=`aUJ
    have gA:z7 `ig `Tn `gz=`a `aUR:=`U rfl `aUL;obtain⟨t,v',ht,Z,vk⟩:∃(t:Nat) (v':D),`OQ=`m'/\(`aUR:`j)[t]?=`CB/\`aft:=by
     rcases m2 with q|q
     ·exact`aUM
     ·exact⟨1,_,q,rfl,a2⟩
    refine`aUN;rw[`aUO];refine `afr;rw[T6 `aUP];exact `aUQ
  obtain⟨v,vk,O⟩:=a4;rw[hσ] at O;have hl:(`Vu).length=`ze:=`uq;have a5:Gd (`H8) `p9 `aB:=U10 pg hl λu hu=>by
   rcases As0 hu with z|rfl
   ·exact `CA u z
   ·exact vk
  refine⟨`aUS,Y0 rfl (u9 s1 (u9 s2 (u9 (δ':=`afp) ?_ (u9 (δ':=[`ly,`cF,`cX,.ow (`tH),`im]) (X3 ?_) (u9 O `jN))))),⟨by rw[`uq];exact hq,h.pl,`fU⟩⟩
  ·rw[c7 (t.trans (by rw[`b6 hn]))];rfl
  ·rw[p6 (x:=`d (x/60)) (y:=`d `ao0) (by rw[p6 (x:=`nl) (y:=`F') rfl rfl];rfl) rfl,`afn,hj]
  ·show o2 _ _ _ `OR=_
   have g1:zh0 `ab J8 (`fI `au) `OR=`a (`t (`afu)):=Ta.Kv0 rfl rfl;have g2:R6 `aLb `OR=`a (`t [(`H8).d]):=J2 (`U (by
    rw[m5 (ds:=[`afo,`ao3]) `aUE];exact X50 _ `h _ hl) rfl) `Cz
   have g3:zh0 `ab `aLc J8 `OR=`a (`t (`afv)):=Ta.Os0 rfl (by rw[p6 (x:=`h6) (y:=`cV) rfl rfl];rfl);have l1:(`afu).length<=60:=by rw[`dJ,`F];omega
   have l2:(`afv).length<=60:=by rw[`jJ,`F];omega
   rw[p6 (p6 g1 g2 |>.trans (Ta.P80 (by rw[`cn];omega))) g3,Ta.P80 `Bm];have es:`afu++[(`H8).d]++`afv=(`aUS).map `s3:=by
    rw[← Ta.Qw0,List.set_eq_take_append_cons_drop (l:=`p'),`N (by rw[`F];exact M),`bp];rfl
   rw[es];rfl
  ·rw[`uq]
   rcases As0 hp with z|rfl
   ·exact h.gd p z
   ·exact a5
theorem atP{P:`k}{k:Nat}(hk:k<`uk):ixD (`H9) `sY=`a (`aUT):=by
 show atI (nd P) `bU=_;rw[xw0 `h `aT2 `u,`bo,`bg,`bg];unfold K22.nd;rw[`ca,`aaX];rfl
theorem L20{P:`k}(h:∀y∈P,y<n){k:Nat}(hk:k<`uk):`zf<n:=by
 rw[`bg,`aaX];exact h _ (L3 hk)
noncomputable def TB:GS:=(v7 (ifD `aLg
 (v7 `aLh
 t6)
 t6)
 (v7 `aLi
 t6))
theorem ap0{P:`k}(hP:`uk=n)(a b c d e f:Sl):∀(vs acc:`j) (s8:Sl),(∀v∈vs,`aUw)->acc.length+`bS<=1000->∃s8',z20 `mY TB vs [a,b,c,`fQ,d,e,f,`tI,s8]=`a (.nx [a,b,c,`fQ,d,e,f,.ow (`l (acc++`ib (lkv `zg))),s8'])
 | [],acc,s8,_,_=>⟨s8,by rw[`jr,`cZ];rfl⟩
 | `A6,acc,s8,hv,hl=>by
  have z:`kv:=`X
  rw[`V] at hl;obtain⟨s8',ih⟩:=ap0 hP a b c d e f vs (acc++[`OS]) (.sh (`OS)) (`afe) `Bm;refine⟨s8',?_⟩;have ap:∀w:D,j6 `al3 [a,b,c,`fQ,d,e,f,`tI,.sh w]=`a (.nx [a,b,c,`fQ,d,e,f,.ow (`l (acc++[w])),.sh w]):=λw=>`BX (l:=acc) (d:=w) rfl rfl `h
  have hb:TB `aUU=`a (.nx [a,b,c,`fQ,d,e,f,.ow (`l (acc++[`OS])),.sh (`OS)]):=by
   have vk:=`aff;rcases vl0 vk.ok with rfl|⟨i,rfl⟩|⟨i,rfl,hi⟩
   ·refine u9 (δ':=[a,b,c,`fQ,d,e,f,`tI,`yV]) `kt (u9 (ap `u) rfl)
   ·refine u9 (δ':=[a,b,c,`fQ,d,e,f,`tI,.sh `ej]) `kt (u9 (ap `ej) rfl)
   ·have J:=vk.lk i rfl
    obtain⟨k,rfl⟩:∃k:Nat,i=`bU:=`afj;have e1:lkv (`zg) (`aMA)=`afw:=`afb;rw[e1];refine u9 (δ':=[a,b,c,`fQ,d,e,f,`tI,.sh (`afw)]) ?_ (u9 (ap _) rfl);rw[`ve];refine u9 (X3 (d:=`afw) (J2 (`U rfl (`U (d:=`aUT) ?_ rfl)) `s2)) rfl;rw[`aUV];exact atP `h
  rw[n00 (δ1:=`aUU) rfl hb,ih,`T,`bp];rfl
theorem Ni0{v:D}{m:Int}(h:`vc):`OT:=by
 rcases vl0 h.ok with rfl|⟨i,rfl⟩|⟨i,rfl,_⟩<;>rfl
theorem ul0:∀{l:`j},(∀d∈l,`LK)->`so l=`b
 | [],_=>rfl
 | d::l,h=>by
  unfold trees;rw[`Cu,ul0 `nP];rfl
theorem Yt0{p:Pt}(hv:∀v∈`gy,`OT):`jw p.d=`b:=by
 have J:∀a b:D,`jw a=`b->`jw b=`b->`jw `ae7=`b:=λa b ha hb=>by
  show `so `kL=`b;exact ul0 λd hd=>by
   rcases `i1 with rfl|hd
   ·exact ha
   ·rw[`lu];exact hb
 have M:∀qs:`bN,(∀v∈`np,`OT)->`jw `Vf=`b:=λqs h=>by
  show `aUW;exact ul0 λd hd=>by
   obtain⟨q,hq,rfl⟩:=`c1;exact J _ _ rfl (h _ (`OC))
 cases p with
 | text w=>rfl
 | row vs=>exact J _ _ rfl (show `so vs=`b from ul0 hv)
 | table qs=>exact J _ _ rfl (M qs hv)
 | rcd c qs =>
  show `so [`fK `sN,`hX,`aoL]=`b;exact ul0 λd hd=>by
   rcases `i1 with rfl|hd
   ·rfl
   rcases `i1 with rfl|hd
   ·rfl
   ·rw[`lu];exact M qs hv
noncomputable def TO:GS:=(v7 `aLe
 (v7 (wp0 `aLf `mY TB)
 (v7 `aLj
 t6)))
theorem Uy0(h:`ON)(x:Int):∃rs,ub0 `aUX=`afl/\`afm:=by
 have zs:`kv:=`X
 have hq:=`ia;obtain⟨P,hP,a2,ho⟩:∃P:`k,`uk=`ax/\(∀y∈P,y<`ax)/\o2 `abB `aLd m8 `aUY=`a (`H9):=by
  obtain⟨E,hE⟩:∃E:`k,E=`aUZ `aU_:=`ae
  have rl:`aU0=`aUZ `aU1:=by
   unfold J6;rw[show (`H!).toNat=`H' by omega]
  have lt:∀k:Nat,k<`H'->0<=`zi/\`zi<`H!:=λk hk=>⟨`va,`vb⟩
  refine⟨0::E,by rw[`V,hE,`F,`gL];omega,`atq,?_⟩
  ·rcases `bZ hy with rfl|hy
   ·omega
   ·rw[hE] at hy
    obtain⟨k,hk,rfl⟩:=`ds hy;have:=lt k (`LH);omega
  ·rw[p6 (x:=`l [`fF]) (y:=`afg) rfl (xv0 (items:=`aU0) (Km.Nf0 `yr `h `h) (by rw[rl,`F,`gL];omega) (by
    rw[rl,hE];have a3:∀ks:`k,(∀k∈ks,k<`H')->zs0 `bD noT `al2 `aU2 (`EU `aU1)=`a (nd (`EU `aU_)):=by
     intro ks
     induction ks with
     | nil=>exact `iz
     | cons k ks ih =>
      intro hk;have l:=lt k (hk k A6);rw[`T];unfold zs0;have e1:o2 `aC `al1 m8 `aU3=`a (`d (1+`zi)):=by
       rw[p6 (x:=`cV) (y:=`d (`zi)) rfl (by
        rw[p6 (x:=`d (`bU+x)) (y:=`d (`H!)) (by
         show `a (`aX (1+`bU - 1+x))=_;congr 2;omega) rfl]
        exact `Vq _ _ (by have:=hk k A6;omega))]
       rfl
      simp only[show gN 0 (`aX (1+`bU)) `aU2=`a `aU3 from rfl,`f,noT,e1,ih λy hy=>hk y (A4 _ hy)];rw[`T];show `a (`db)=`a (`aX ((`ao5:Nat):Int)::_);rw[`aUq `h];rfl
    exact a3 _ λk hk=>`LH))]
   simp only[m8];rw[`N (by rw[`zb,hE,`F,`gL];simp only[`V,`gr];omega)];rfl
 obtain⟨δ',l3,l4⟩:=tu0 (f:=n60 5 6) (G:=TO) (λ_ δ=>∃(qs:`bv) (s5 s6 s7 s8:Sl),`lx=`ax/\(∀p∈qs,`ac5)/\δ=[`aF,`cF,`lz,`fQ,`OU,s5,s6,s7,s8]) (xi0 `pK) 0 `aU4 (by
  rintro k d δ hk ⟨qs,s5,s6,s7,s8,M,Y,rfl⟩;have U:`vw:=by
   have:=`aOj;unfold xi0 at this
   rwa [At0,i4,At0] at this
  have hd:d=`t [`h6,`zj]:=by
   unfold xi0 at hk;rw[`ca,`aCE (by rw[`F];exact U),`gH,`bg,`ca,`jq U] at hk;exact(A3 hk).symm
  subst hd;have pg:=h.gd ps[k] (L3 U);have pf:=Z60 pg.ok;obtain⟨a1,O⟩:=ap0 hP (`aF) (`cF) (`lz) (`OU) (`cX) (`CD) `aU5 [] s8 `CA `j8;rw[`e?] at O;have J:(`H?).length=ps[k].vals.length:=At0 ..;have Z:∀v∈`H?,Vk v `ys:=λv hv=>by
   obtain⟨u,hu,rfl⟩:=`aez;have uk:=`CA u hu;rcases `afq with rfl|⟨i,rfl⟩|⟨i,rfl,hi⟩
   ·exact Z50
   ·exact uk
   ·have O:=uk.lk i rfl
    obtain⟨m,rfl⟩:∃m:Nat,i=`kR:=`afj;rw[show lkv (`zg) (`t [`g!,`Up])=`t [`g!,`d ((`Vw m 0:Nat):Int)] from `afb];have:=L20 a2 (k:=m) `h;exact Xf0 `h `h
  have a4:=U10 pg J Z;have a5:=L20 a2 (k:=k) `h;refine⟨[`aF,`cF,`lz,`fQ,`OU,`cX,`CD,s7,s8],_,rfl,u9 (δ':=[`aF,`cF,`lz,`fQ,`OU,`cX,`CD,`fD,s8]) rfl (u9 (wi0 (items:=`aU5) ?_ O) (u9 (Ta.T30 (ds:=`p') (j:=`zf) (v:=(`aU6).d) rfl ?_ `iw ?_) rfl)),`Vv (`zf) (`aU6),`cX,`CD,.ow (`afx),a1,by rw[`uq];exact M,`fU,?_⟩
  ·show `gt (oA `sS Z4 _) lp0=_
   rw[m5 (ds:=[`zj]) rfl,`aUF];rfl
  ·rw[`aUV]
   exact atP `h
  ·refine rf0 ?_ ?_
   ·show oA `al5 zf0 [`aF,`cF,`lz,`fQ,.sh (`l (`p')),`cX,`CD,.sh (`afx),wv0 a1]=_
    rw[m5 (ds:=[`zj,`afx]) rfl];exact X50 _ `h _ J
   ·exact Yt0 λv hv=>Ni0 (Z v (by rw[K22.j20 _ _ J] at hv;exact hv))
  ·rcases As0 hp with z|rfl
   ·exact Y p z
   ·exact a4
  ·rw[← Ta.Qw0]
   rfl) ⟨ps,.un,.un,.un,.un,rfl,h.gd,rfl⟩
 obtain⟨qs,s5,s6,s7,s8,M,Y,rfl⟩:=l4;refine⟨qs,Y0 rfl (u9 (δ':=`aUY) (X3 (Wu0 rfl)) (u9 (X3 ho) (u9 (δ':=`aU4) rfl (u9 (wi0 (items:=xi0 `pK) rfl l3) (`oa))))),⟨by rw[M];exact hq,h.pl,λp hp=>by rw[M];exact Y p hp⟩⟩
theorem Qk0(h:`ON)(x:Int):∃rs,us0 `aUX=`afl/\`afm:=by
 have c:∀j:Int,ob (o2 `abD `yh eqD) `zk=`a (`w (x%3=j)):=`Nn
 by_cases h0:x%3=0
 ·obtain⟨rs,e,d⟩:=Uy0 h (x/3)
  refine⟨rs,`n8,d⟩;show `ao7;rw[T6 (by rw[c,`acu])];refine `lp;rw[`aU7];exact e
 ·by_cases h1:x%3=1
  ·obtain⟨rs,e,d⟩:=Xs0 h (x/3)
   refine⟨rs,Y0 rfl (u9 (δ':=`zk) `aU8 `il),d⟩;rw[T6 (by rw[c,`BV])];refine `lp;rw[`aU7];exact e
  ·refine⟨ps,Y0 rfl (u9 (δ':=`zk) `aU8 (u9 (δ':=`zk) (by rw[c7 (by rw[c,`b6 h1])];rfl) (`oa))),h⟩
universe Rk
namespace Rk
open DL W Rm StrLaws
open Bt (Z6 zd0 U9)
open Bw (bs sg its two kn cnt tx Vb Gq)
open Km (lkd It Wb ix)
open K22 (lkv rel Lv tgs nd)
open Gw (Gd Vk)
theorem Nh0{v:D}(h:`hm):`OT:=by cases h<;>rfl
theorem Qj0(hw:`dD):`jw `p2=`b:=by
 show `aUW;exact ul0 λd hd=>by
  obtain⟨p,hp,rfl⟩:=`c1;exact Yt0 λv hv=>Nh0 `aRz
noncomputable def LV:GS:=(v7 (ifD `aMo
 (v7 `Ng
 t6)
 t6)
 t6)
noncomputable def LP:GS:=(v7 (wp0 `aMn (gN 9) LV)
 t6)
theorem Oz0(a b c d e f g h:Sl)(s8 s10:Sl){v:D}(hv:`hm):LV `afy=`a (.nx `afy):=by
 refine u9 (δ':=`afy) ?_ rfl;rw[c7 (by cases hv<;>rfl)];rfl
theorem P20(a b c d e f g h:Sl)(s10:Sl):∀(ps:`bv),(∀p∈ps,Gq p)->∀s8 s9:Sl,∃s8' s9',z20 `mY LP `pK [a,b,c,d,e,f,g,h,s8,s9,s10]=`a (.nx [a,b,c,d,e,f,g,h,s8',s9',s10])
 | [],_,s8,s9=>⟨s8,s9,rfl⟩
 | `ko,hp,s8,s9=>by
  have hq:=hp p A6;have U:=`afd;have J:∀(vs:`j),`aTX->∀s9:Sl,∃s9',z20 (gN 9) LV vs `afz=`aU9:=by
   intro vs
   induction vs with
   | nil=>exact λ_ s9=>⟨s9,rfl⟩
   | cons v vs ih =>
    intro hv s9;obtain⟨s9',e1⟩:=ih (`afe) (`zh);exact⟨s9',by rw[n00 (δ1:=[a,b,c,d,e,f,g,h,`lA,`zh,s10]) rfl (Oz0 a b c d e f g h (`lA) s10 (`aff))];exact e1⟩
  obtain⟨s9',e1⟩:=J `gy `Ci s9;obtain⟨M,O,e2⟩:=P20 a b c d e f g h s10 ps (λx hx=>hp x `mu) (`lA) s9';refine⟨M,O,?_⟩;have hb:LP `afz=`aU9:=u9 (wi0 (items:=`gy) (by
   show `gt (oA `amH Z4 _) lp0=_;rw[`Og,ps0 p U];rfl) e1) rfl
  rw[`T,n00 (δ1:=`afz) rfl hb];exact e2
theorem Kf0(a:`aa):xx0 `vH `vH=`qv:=by
 show (if `cA `vH 50=`b/\`cA `vH 50=`b then `a (`a2 (!deq `vH `vH)) else `c)=_;rw[`N ⟨`ae',`ae'⟩,deq];simp
theorem Sa0(ns:`_)(hl:`eP<=63):`aU':=by
 classical
 have z:`c0:=`X
 obtain⟨ps,pool,h1,b3,c0,b1,M⟩:=Bt.cj0 ns `h 1 `h;have M:zd0 [`ll,`cV]=`a `p2:=M;have D1:`ON:=⟨⟨h1,b3⟩,`C,b1⟩;obtain⟨z0,hz⟩:∃z,U9 [`ll,`fF]=`Nl:=Gw.Xc0 ns 0 `h;obtain⟨rs,a8,D2⟩:=Qk0 D1 `aU!;obtain⟨L1,Y,_,a4,U,a5,O⟩:=told D1.wf;obtain⟨L2,a7,_,a6,a3,a2,Z⟩:=told D2.wf;have sW:=a00 D1.wf.wb;generalize `Vc ps L1=q1 at Y U a5 O;generalize `Vc rs L2=q2 at a7 a3 a2 Z;generalize `y4=l1 at a4 U O;generalize `U4 rs 0=l2 at a6 a3 Z;have s1:=a00 Y;have s2:=a00 a7;have i1:=Yx0 l1;have i2:=Yx0 l2;have t1:=Qj0 Y;have b0:`ao!↔(`nt=`OV):=by
  constructor
  ·intro h
   rw[h,Z] at O;exact(A3 O).symm
  ·intro h
   rw[h,a3] at U;exact(A3 U).symm
 have a1:∀{x:D},`OI->wq0 x x=`lB:=λh=>by rw[Sm.eq h h,`adA]
 have J:∀{x:D},`OI->xx0 x x=`qv:=λh=>by rw[Sm.ne h h,`adA];rfl
 obtain⟨N,hN⟩:∃N:D,N=`ll:=`ae;rw[← hN] at M hz ⊢;refine Y0 rfl ?_;refine u9 (δ':=[`e2,`aF,.un,.un,.un,.un,.un,.un,.un,.un,.un]) (X3 `aU?) ?_;refine u9 (δ':=[`e2,`aF,`fR,.un,.un,.un,.un,.un,.un,.un,.un]) (X3 (by
  rw[m5 (ds:=[`jT,`d `aU!]) (`U rfl (`U (Bt.yn0 (i:=z0) (j:=`ao8) (by rw[m5 (ds:=[N,`fF]) rfl];exact hz) `fJ `p) rfl))];exact a8)) ?_
 refine u9 (δ':=[`e2,`aF,`fR,`e3,.un,.un,.un,.un,.un,.un,.un]) (X3 (by rw[`afi];exact a4)) ?_;refine u9 (δ':=[`e2,`aF,`fR,`e3,`lC,.un,.un,.un,.un,.un,.un]) (by
  unfold Q3;rw[`ao?,a6];rfl) ?_
 refine u9 (δ':=`OW) (X3 (by rw[`afi];exact a5)) ?_;refine u9 (δ':=`OW) ?_ ?_
 ·have c1:ob `aMh `OW=`aV:=Z6 (by
   rw[p6 (x:=`jT) (y:=`jT) rfl `aU?];exact J sW)
  have c2:ob `aMi `OW=`aV:=Z6 (by
   rw[p6 (x:=`aVa) (y:=`aVa) (by
    show `gt (o2 `du `fG wq0 [`e2,`aF,`fR,`e3,`Ia,`dO,.un,.un,.un,.un,.un]) _=_;rw[p6 (x:=`ns) (y:=`zl) rfl rfl,Sm.eq i1 i2];rfl) (by
    rw[p6 (x:=`nt) (y:=`OV) rfl `aVb,Sm.eq s1 s2];congr 2;exact `G_ b0.symm)]
   exact Kf0 _)
  rw[c7 `aO1];rfl
 refine u9 (δ':=[`e2,`aF,`fR,`e3,`lC,`dO,`Vy,.un,.un,.un,.un]) rfl ?_;refine u9 (δ':=`vI) (X3 (rf0 (by
  show oA `sS zb0 [`e2,`aF,`fR,`e3,`Ia,`dO,`e3,.un,.un,.un,.un]=_;rw[`aVc];exact O) t1)) ?_
 refine u9 (δ':=`vI) ?_ ?_
 ·have c1:yv0 `aMj `vI=`aV:=rfl
  have c2:ob `aMk `vI=`aV:=Z6 (by
   rw[p6 (x:=`nt) (y:=`nt) rfl rfl];exact J s1)
  have c3:pa0 `aMl `vI=`aV:=by
   show ob `amG [`e2,`aF,`fR,`e3,`Ia,`dO,`e3,`dO,.un,.un,.un]=_;exact Z6 (by
    rw[p6 (x:=`ns) (y:=`ns) rfl rfl];exact J i1)
  have c4:ob `aMm `vI=`aV:=Z6 (by
   rw[p6 (x:=`ns) (y:=`ns) (by rw[m5 (ds:=[`nt]) rfl];exact U) rfl];exact J i1)
  rw[c7 (by
   unfold z50;rw[c1,`f,`eE,c2,`f,`eE,c3,`f,`eE,c4])]
  rfl
 obtain⟨s8,s9,b2⟩:=P20 (`e2) (`aF) (`fR) (`e3) (`lC) (`dO) (`Vy) (`dO) .un q1 Y.it .un .un;refine u9 (wi0 (items:=q1.map `s3) rfl b2) ?_;refine u9 (δ':=[`e2,`aF,`fR,`e3,`lC,`dO,`fD,`dO,s8,s9,.un]) rfl ?_;refine u9 (δ':=[`e2,`aF,`fR,`e3,`lC,`dO,`fD,`dO,s8,s9,`lC]) (by
  unfold Q3;rw[X30 (ds:=`ao') rfl (Km.i80 _)];rfl) ?_
 refine u9 (δ':=[`e2,`aF,`fR,`e3,`fD,`dO,`fD,`dO,s8,s9,`lC]) rfl `jN;show tg0 _ _ `aVd=_;unfold tg0;rw[show ob `aMp `aVd=`eb from Z6 (by
  rw[p6 (x:=`nt) (y:=`nt) (by rw[`aVc];exact O) rfl];exact a1 s1),`f,`bm]
 rw[p6 (x:=`OV) (y:=`OV) (by rw[m5 (ds:=[`zl]) rfl];exact Z) `aVb];exact a1 s2
universe Rk
namespace Rk
open L2 DL W
open Bt (y30 U9 t10 xr0 s30 S8 u70 yj0 t50 O1 tx0 yz0 u00 M7 re0 zd0)
noncomputable def top(i:Nat):`bw:=PySem.Challenge.pw_graphpack_k28_whole_packs_there_and_back.main.body.getD i `aVe
theorem b_bool:`f7 `uF=`a (`bq `uF):=`aP
theorem b_int:`f7 `hu=`a (`bq `hu):=`aP
theorem b_list:`_2:=`aP
theorem b_ord:`f7 `zW=`a (`cK `zW):=`aP
theorem b_str:`f7 `iP=`a (`bq `iP):=`aP
theorem b_tuple:`aJe:=`aP
theorem b_zip:`aJ4:=`aP
structure Txt(mg:`bx):Prop where
 b_bool:mg `uF=`c
 b_enumerate:mg `jc=`c
 b_int:mg `hu=`c
 b_isinstance:mg `uG=`c
 b_len:mg `rT=`c
 b_list:mg `eh=`c
 b_ord:mg `zW=`c
 b_range:mg `rn=`c
 b_reversed:mg `mK=`c
 b_str:mg `iP=`c
 b_tuple:mg `c2=`c
 b_zip:mg `f!=`c
 c_BASE:∃t,mg "BASE"=`a (`d 128 t)
 c_MOST_NAMES:∃t,mg `aVf=`a (`d 60 t)
 c_MOST_NAME_SIGNS:∃t,mg `aVg=`a (`d 8 t)
 c_MOST_PARTS:∃t,mg `aVh=`a (`d 60 t)
 c_MOST_VALUES:∃t,mg `aVi=`a (`d 12 t)
 c_MOST_WORD_SIGNS:∃t,mg `aVj=`a (`d 20 t)
 c_NAME_SIGNS:∃t,mg `aVk=`a (`s `x9 t)
 c_WORD_SIGNS:∃t,mg `aVl=`a (`s `x' t)
noncomputable def meth(i k:Nat):`bw:=match top i with
 | .ClassDef _ _ _ `f' _ _ _ _ _ _ _=>body.getD k `aVe
 | s=>s
theorem fsc{P:`g}(a:`ata)(b:`atb)(c:`atc)(d:N.take `uk=P)(e:`I0/\(∀x∈P,`Wn)/\∀y∈`JD,`atd):`af N P sc:=⟨a,b,c,e.1,d,e.2.1,e.2.2⟩
theorem cok(a:scope.kind=`mj)(b:`avu)(c:(∀y∈`ge,`avr)/\(∀y∈`ge,`avs)/\(∀y∈`ge,`avt)/\N'.Nodup/\∀k∈`bl `rZ,`avv):`qJ:=⟨a,c.1,c.2.1,c.2.2.1,c.2.2.2.1,b,c.2.2.2.2⟩
section
variable{P:`ao}{w:`P}
theorem v10:`af y20 `gB (t7 `afA):=`al
theorem iy0(F:Fun K `Ic `Ic `afA fa fd)(T:`ak)  : `R P w K mg `m CX0 1 fa fd `gB (spN K V0) :=
 okN (k:=0) (G:=y50) F v10 (λcdv A outer s H E hr=>(z9 (N7 1 (J1 (w6 (d8 `ap `l9) v9)) v10.nd)
   (z9 (Z5 (Z9 `ap `l9) (o4 2 v10.nd))
   (z9 (qy0 100000 C7 (o7 qs0 s90 `a3 v6)
   (z9 (X6 (s70 1 (Z2 `l9 (d8 `a3 `l9))))
   (z9 (Z5 (Z9 `a3 `l9) (o4 2 v10.nd))
   u5)))
   (z9 (Vb0 (oy0 `hn `OX `aA))
   u5))))) `i2
theorem Uq0:`af tt0 `gB (t7 `afB):=`al
theorem T60(F:Fun K `OY `OY `afB fa fd)(T:`ak)  : `R P w K mg `m CX0 1 fa fd `gB (spD K vi0) :=
 okD (k:=0) (G:=tj0) F Uq0 (λcdv A outer s H E hr=>(z9 (Z7 (o7 ow0 qn0 `ap v6)
   (z9 (Z0 (K8 (R9 `p? `ap) v6))
   u5)
   u5)
   (z9 (Z0 (R9 v6 `ap))
   u5))) `cd
theorem Zg0:`af g00 `gB (t7 `afC):=`al
theorem Zj0(F:Fun K `OZ `OZ `afC fa fd)(T:`ak)  : `R P w K mg `m CX0 1 fa fd `gB (spD K ss0) :=
 okD (k:=0) (G:=ia0) F Zg0 (λcdv A outer s H E hr=>(z9 (Z7 `CE
   (z9 (Z0 (K8 (zq0 `zp) v6))
   u5)
   u5)
   (z9 (Z0 `zp)
   u5))) `cd
theorem Zt0:`af g90 `n6 (t7 `afD):=`al
theorem Zs0(F:Fun K `O_ `O_ `afD fa fd)(T:`ak)  : `R P w K mg `m CX0 1 fa fd `n6 (spD K vo0) :=
 okD (k:=0) (G:=h70) F Zt0 (λcdv A outer s H E hr=>(z9 (Z0 (h00 (yt0 N00 b_int `iE T.b_int `ap) (m60 (Le0 (yt0 jc0 b_bool `iE `afE `ap)))))
   u5)) `cd
theorem ds0:`af M8 `c_ (t7 `O0):=`al
theorem dq0(F:Fun K `O1 `O1 `O0 fa fd)(T:`ak)  : `R P w K mg `m CX0 1 fa fd `c_ (spN K v40) :=
 okN (k:=0) (G:=m10) F ds0 (λcdv A outer s H E hr=>(z9 (Z7 (`hF (v90 `kA (uj0 `kA)))
   (z9 `O2
   u5)
   u5)
   (z9 (O7 (j80 (sc:=t7 `O0) (N:=M8) (N':=[`Tp]) (n:=1) (caps:=[]) `f4 `p `O3 (λcl s H ex=>o4 0 (`aP:([`Tp]:`g).Nodup)) `l' `O4))
   u5))) `i2
theorem W30:`af ed0 `n6 (t7 `afF):=`al
theorem V10(F:Fun K `O5 `O5 `afF fa fd)(T:`ak)(C_is_whole:FnD P w K mg `m `O_ 1 `n6 vo0):`R P w K mg `m CX0 2 fa fd `n6 (spD K v70) :=
 okD (k:=1) (G:=d20) F W30 (λcdv A outer s H E hr=>(z9 (Z0 (h00 (T9 C_is_whole hr `p `nw) (m60 (Sf0 V00 br0 V00 br0 v6 `ap v6))))
   u5)) `cd
theorem i10:`af e70 `VM (t7 `afG):=`al
theorem V60(F:Fun K `Io `Io `afG fa fd)(T:`ak)  : `R P w K mg `m CX0 1 fa fd `VM (spD K vj0) :=
 okD (k:=0) (G:=fy0) F i10 (λcdv A outer s H E hr=>(z9 (wo0 C7 rfl (X90 `aA) (o4 2 i10.nd)
   (z9 (Z7 (o7 X5 Z3 (ug0 bt0 Vi0 T.b_ord b_ord `dz) `ap)
   (z9 (Z0 `a3)
   u5)
   u5)
   u5))
   (z9 (Z0 t90)
   u5))) `cd
theorem ay0:`af kj0 `Nb (t7 `afH):=`al
theorem am0(F:Fun K `O6 `O6 `afH fa fd)(T:`ak)  : `R P w K mg `m CX0 1 fa fd `Nb (spD K u50) :=
 okD (k:=0) (G:=kk0) F ay0 (λcdv A outer s H E hr=>(z9 (Z7 `rc
   (z9 (Z0 `aVm)
   u5)
   u5)
   (z9 (Z0 (z70 T.c_MOST_VALUES))
   u5))) `cd
theorem hh0:`af pr0 `Nc (t7 `afI):=`al
theorem hf0(F:Fun K `O7 `O7 `afI fa fd)(T:`ak)  : `R P w K mg `m CX0 1 fa fd `Nc (spD K vn0) :=
 okD (k:=0) (G:=o60) F hh0 (λcdv A outer s H E hr=>(z9 (Z7 `rc
   (z9 `aVn
   u5)
   u5)
   (z9 (Z7 `rc
   (z9 `aVn
   u5)
   u5)
   (z9 (Z7 `rc
   (z9 (Z0 `aVo)
   u5)
   u5)
   (z9 (Z0 (Z2 (w40 `zm) `aVo))
   u5))))) `cd
theorem au0:`af kl0 `In (t7 `afJ):=`al
theorem cn0(F:Fun K `Im `Im `afJ fa fd)(T:`ak)(C_made_pairs:FnD P w K mg `m `O8 1 `Nd vd0):`R P w K mg `m CX0 2 fa fd `In (spD K M3) :=
 okD (k:=1) (G:=ki0) F au0 (λcdv A outer s H E hr=>(z9 (Z7 `rc
   (z9 (Z0 (M6 (w6 o9 (w6 (Yw0 o9 `d!) v9))))
   u5)
   u5)
   (z9 (Z7 `rc
   (z9 `aVp
   u5)
   u5)
   (z9 (Z7 `rc
   (z9 (Z0 (M6 (w6 o9 (w6 (T9 `aVq hr `p `d!) v9))))
   u5)
   u5)
   (z9 (Z0 (M6 (w6 o9 (w6 `O9 (w6 (T9 `aVq hr `p (w6 (yw0 `aA `Vz y90) v9)) v9)))))
   u5))))) `cd
theorem du0:`af l00 `Nd (t7 `afK):=`al
theorem df0(F:Fun K `O8 `O8 `afK fa fd)(T:`ak)  : `R P w K mg `m CX0 1 fa fd `Nd (spD K vd0) :=
 okD (k:=0) (G:=m20) F du0 (λcdv A outer s H E hr=>(z9 (Z0 (Tm0 fq0 S30 `ez `afL `eA b_zip (w6 `aVr (w6 `aVr v9))))
   u5)) `cd
theorem sw0:`af lf0 `VN (t7 `O'):=`al
theorem Wv0(F:Fun K `Ip `Ip `O' fa fd)(T:`ak)  : `R P w K mg `m CX0 1 fa fd `VN (spD K ys0) :=
 okD (k:=0) (G:=ev0) F sw0 (λcdv A outer s H E hr=>(z9 (Z5 v6 (o4 3 sw0.nd))
   (z9 (wo0 C7 rfl (vr0 `rd (w6 (K8 `aA `afM) v9)) (o4 4 sw0.nd)
   (z9 (Z5 (R9 `dA (G3 `gA `aVs)) (o4 3 sw0.nd))
   u5))
   (z9 (Z0 (u10 ow0 qn0 (G3 `gA (w6 (lv0 (sc:=t7 `O') (N:=lf0) (N':=`aVt) (n:=1) (caps:=`Gl) `f4 `p (uf0 `ap) (λcl s H ex=>o4 0 (`aP:(`aVt:`g).Nodup)) (λcl s H ex=>(Yj0 (`hF (ls0 (o7 X5 Z3 `tP `aA) (or0 (Q9 (Ra0 PySem.F.slot_str_startswith PySem.F.type_str_startswith Vd0 S00 W80 `ap `dz))))))) (λcl s H ex=>`ap)) v9)) `dA))
   u5)))) `cd
theorem rl0:`af he0 [`ha] (t7 `afN):=`al
theorem Pq0(F:Fun K `O! `O! `afN fa fd)(T:`ak)(C_held_items:FnN P w K mg `m `O? 1 `c_ M4)(C_is_new:`aVu)(C_item_bytes:FnN P w K mg `m `Pa 3 `afO zm0):`R P w K mg `m CX0 4 fa fd [`ha] (spN K vz0) :=
 okN (k:=3) (G:=iz0) F rl0 (λcdv A outer s H E hr=>(z9 (N7 1 `nv `CF)
   (z9 (N7 2 fw0 `CF)
   (z9 (N7 3 fw0 `CF)
   (z9 (N7 4 (J1 (w6 (M6 (w6 o9 `tQ)) v9)) `CF)
   (z9 (qy0 100000 C7 (o7 qs0 s90 (mx0 `afP) v6)
   (z9 (G4 (Vy0 4) (l70 (o4 5 `CF)))
   (z9 (X6 (bj0 1 (`vJ (bs0 (t00 C_item_bytes hr `p (w6 `ap (w6 `iD (w6 `a3 `l!))))))))
   (z9 (Z7 (Q9 (yt0 Y40 b_str `iE T.b_str `iD))
   (z9 (X6 (Mh0 3 `iD (mx0 (ug0 p60 ka0 `gA X0 `l!))))
   u5)
   (z9 (Z7 (Q9 (ro0 (T9 C_is_new hr `p (w6 `iD `dz))))
   (z9 (G4 (Y4 (mx0 (ug0 p60 ka0 `gA X0 `dz))) (kb0 2 `jY `aVv))
   (z9 (X6 (bj0 4 (`vJ (oy0 `hn `OX (w60 C_held_items hr `p (w6 (j7 `ap `aVv) v9))))))
   u5))
   u5)
   u5))
   u5))))
   (z9 `afQ
   u5))))))) `i2
theorem Vp0:`af tl0 `jX (t7 `afR):=`al
theorem T80(F:Fun K `Ib `Ib `afR fa fd)(T:`ak)  : `R P w K mg `m CX0 1 fa fd `jX (spD K z60) :=
 okD (k:=0) (G:=nd0) F Vp0 (λcdv A outer s H E hr=>(z9 (Z0 (h00 `apa (m60 (O20 `jY `nu `aA))))
   u5)) `cd
theorem nq0:`af t70 `afO (t7 `afS):=`al
theorem db0(F:Fun K `Pa `Pa `afS fa fd)(T:`ak)(C_is_new:`aVu)(C_known_head:FnD P w K mg `m `Pb 2 `jX zl0)(C_name_bytes:FnN P w K mg `m `Pc 2 `BN xy0)(C_number_bytes:`aVw)(C_part_number:FnD P w K mg `m `Pd 1 `c_ G6)(C_text_bytes:FnN P w K mg `m `Pe 2 `c_ zi0):`R P w K mg `m CX0 3 fa fd `afO (spN K zm0) :=
 okN (k:=2) (G:=uq0) F nq0 (λcdv A outer s H E hr=>(z9 (Z7 (Q9 (yt0 Y40 b_str `iE T.b_str `aA))
   (z9 (O7 (t00 C_name_bytes hr `p (w6 `aA `l!)))
   u5)
   u5)
   (z9 (Z7 (Q9 (T9 C_is_new hr `p `afT))
   (z9 (Z5 (j7 `ap `O9) (o4 4 nq0.nd))
   (z9 (O7 (fb0 (w60 `Pf hr `p (w6 (Z2 (R9 v6 (T9 C_part_number hr `p `zn)) v6) v9)) (w60 C_text_bytes hr `p `zn)))
   u5))
   u5)
   (z9 (O7 (t00 `Pf hr `p (w6 (T9 C_known_head hr `p `afT) v9)))
   u5)))) `i2
theorem d80:`af t40 `BN (t7 `afU):=`al
theorem dn0(F:Fun K `Pc `Pc `afU fa fd)(T:`ak)(C_number_bytes:`aVw)(C_sign_bytes:`aVx):`R P w K mg `m CX0 2 fa fd `BN (spN K xy0) :=
 okN (k:=1) (G:=t30) F d80 (λcdv A outer s H E hr=>(z9 (Z7 (Nc0 `jY `ap `aA)
   (z9 (O7 (t00 `Pf hr `p (w6 (R9 v6 (K8 `aVy (X20 `jY `aA `ap))) v9)))
   u5)
   u5)
   (z9 (O7 (fb0 (w60 `Pf hr `p (w6 (Z2 (R9 v6 `tP) v6) v9)) (w60 `aVz hr `p `nw)))
   u5))) `i2
theorem dk0:`af y70 `tJ (t7 `Pg):=`al
theorem dd0(F:Fun K `Id `Id `Pg fa fd)(T:`ak)  : `R P w K mg `m CX0 1 fa fd `tJ (spN K R4) :=
 okN (k:=0) (G:=xl0) F dk0 (λcdv A outer s H E hr=>(z9 (O7 (j80 (sc:=t7 `Pg) (N:=y70) (N':=[`m5]) (n:=1) (caps:=[]) `f4 `p (X90 `ap) (λcl s H ex=>o4 0 (`aP:([`m5]:`g).Nodup)) `l' (λcl s H ex=>(ug0 bt0 Vi0 T.b_ord b_ord `nw))))
   u5)) `i2
theorem gq0:`af yl0 `c_ (t7 `afV):=`al
theorem f90(F:Fun K `Pd `Pd `afV fa fd)(T:`ak)(K_KINDS:`afW):`R P w K mg `m CX0 1 fa fd `c_ (spD K G6) :=
 okD (k:=0) (G:=yo0) F gq0 (λcdv A outer s H E hr=>(z9 (Z0 (Z2 (R9 v6 (G3 `gA (w6 (j7 `ap `p?) v9))) (Pv0 K_KINDS `Ph)))
   u5)) `cd
theorem di0:`af xq0 `c_ (t7 `afX):=`al
theorem dh0(F:Fun K `Pe `Pe `afX fa fd)(T:`ak)(C_sign_bytes:`aVx):`R P w K mg `m CX0 2 fa fd `c_ (spN K zi0) :=
 okN (k:=1) (G:=w00) F di0 (λcdv A outer s H E hr=>(z9 (Z7 `kA
   (z9 (O7 (t00 `aVz hr `p `Ph))
   u5)
   u5)
   (z9 `O2
   u5))) `i2
theorem d60:`af t60 `jX (t7 `afY):=`al
theorem dv0(F:Fun K `Pb `Pb `afY fa fd)(T:`ak)(C_folded:FnD P w K mg `m `OY 1 `gB vi0):`R P w K mg `m CX0 2 fa fd `jX (spD K zl0) :=
 okD (k:=1) (G:=uu0) F d60 (λcdv A outer s H E hr=>(z9 (Z7 (o7 ju0 lh0 `ap t90)
   (z9 (Z0 v6)
   u5)
   u5)
   (z9 (Z7 `afZ
   (z9 (Z0 (Z2 (R9 v6 (K8 `aVy (X20 `jY `aA `nu))) v6))
   u5)
   u5)
   (z9 (Z0 (Z2 (R9 v6 (T9 C_folded hr `p `nw)) v6))
   u5)))) `cd
theorem sl0:`af xp0 `c_ (t7 `af_):=`al
theorem dj0(F:Fun K `O? `O? `af_ fa fd)(T:`ak)  : `R P w K mg `m CX0 1 fa fd `c_ (spN K M4) :=
 okN (k:=0) (G:=xu0) F sl0 (λcdv A outer s H E hr=>(z9 (Z7 `kA
   (z9 `O2
   u5)
   u5)
   (z9 (Z7 `kA
   (z9 `aVA
   u5)
   u5)
   (z9 (N7 1 `nv sl0.nd)
   (z9 (Z7 `kA
   (z9 (X6 (s70 1 `nu))
   u5)
   u5)
   (z9 (wo0 C7 rfl `O3 (o4 2 sl0.nd)
   (z9 (X6 (bj0 1 (G7 qf0 Yf0 `hn `nx `dz)))
   u5))
   (z9 `afQ
   u5))))))) `i2
theorem ks0:`af g50 [`tK] (t7 `af0):=`al
theorem Zf0(F:Fun K `Pi `Pi `af0 fa fd)(T:`ak)(M_Reader:FnI P w K mg `m `D 1 `bu zx0)(C_Reader_give:FnT P w K mg `m `D `vK 7 `CG t8 wh0)(C_Reader_web:FnT P w K mg `m `D `ha 3 `bu t8 vb0):`R P w K mg `m CX0 8 fa fd [`tK] (spD K zb0) :=
 okD (k:=7) (G:=jv0) F ks0 (λcdv A outer s H E hr=>(z9 (Uu0 1 ks0.nd M_Reader hr `p)
   (z9 (X6 (O2 1 C_Reader_give hr `p `nw))
   (z9 (aq0 (s60 1 C_Reader_web hr `p))
   u5)))) `cd
theorem g70:`af xo0 `tM (t7 `af1):=`al
theorem ix0(F:Fun K `Ih `Ih `af1 fa fd)(T:`ak)  : `R P w K mg `m CX0 1 fa fd `tM (spD K U9) :=
 okD (k:=0) (G:=y30) F g70 (λcdv A outer s H E hr=>(z9 (Z7 (o7 ow0 qn0 `aA `tP)
   (z9 (Z0 (j7 `ap `aA))
   u5)
   u5)
   (z9 (Z0 v6)
   u5))) `cd
theorem rv0:`af pe0 `e4 (t7 `af2):=`al
theorem av0(F:Fun K `zq `zq `af2 fa fd)(T:`ak)  : `R P w K mg `m CX0 1 fa fd `e4 (spB K 0 S8) :=
 okB (k:=0) (G:=s30) F rv0 (λcdv A outer s H E hr=>(u6 (Z1 (Z5 `vL (o4 1 rv0.nd)))
   (u6 (Z1 (G4 (Y4 `aVB) (Rd0 0 `jY o9)))
   (u6 (Z1 (Z5 `vL (o4 2 rv0.nd)))
   (u6 (Q6 (o7 ow0 qn0 `aA `afM)
   (u6 (Y5 (Y4 (d8 (j7 `a3 `aA) `af3)))
   p7)
   p7)
   (u6 (Y5 (Y4 (d8 (R9 (Z2 (Z2 (d8 (j7 `a3 (d8 `aA `afM)) v6) (R9 (R9 v6 `aA) `aA)) v6) v6) v6)))
   p7)))))) `dh
theorem O4:`af qh0 `af4 (t7 `af5):=`al
theorem dp0(F:Fun K `Pj `Pj `af5 fa fd)(T:`ak)  : `R P w K mg `m CX0 1 fa fd `af4 (spN K xr0) :=
 okN (k:=0) (G:=t10) F O4 (λcdv A outer s H E hr=>(z9 (Z5 o9 (o4 2 `qa))
   (z9 (Z5 o9 `aVC)
   (z9 (wo0 C7 rfl (vr0 `rd `tQ) (o4 4 `qa)
   (z9 (Z5 (Z2 `dA (j7 `a3 (d8 (Z9 `ap (Z2 (R9 `fS `fS) v6)) v6))) `aVC)
   u5))
   (z9 (Z5 `apb (o4 5 `qa))
   (z9 (N7 6 `nv `qa)
   (z9 (wo0 C7 rfl (vr0 `rd `d!) (o4 7 `qa)
   (z9 (Z5 (j7 `a3 (d8 (Z2 `ap `ny) v6)) `aVD)
   (z9 (Z5 (Z2 `oj (j7 `a3 (d8 (Z2 `zp (Z9 `ny v6)) v6))) `aVD)
   (z9 (Z7 `CE
   (z9 (X6 (s70 6 (Z2 (yw0 `dA y90 (z80 `iD)) `oj)))
   u5)
   (z9 (Z7 `CE
   (z9 (X6 (s70 6 (Z2 (yw0 `dA y90 (z80 (d8 `ny v6))) `oj)))
   u5)
   (z9 (X6 (s70 6 (yw0 `oj y90 (z80 (Z2 v6 (G7 Te0 Lk0 T.b_int b_int (w6 (u10 qs0 s90 `ny v6) v9)))))))
   u5))
   u5))
   u5))))
   (z9 (oc0 6)
   u5)))))))) `i2
theorem fo0:`af sp0 `BM (t7 `af6):=`al
theorem gg0(F:Fun K `Pk `Pk `af6 fa fd)(T:`ak)  : `R P w K mg `m CX0 1 fa fd `BM (spD K yj0) :=
 okD (k:=0) (G:=u70) F fo0 (λcdv A outer s H E hr=>(z9 (Z7 (Q9 `aA)
   (z9 (Z0 (Z2 (K8 (d8 `ap `aVE) `Ie) v6))
   u5)
   u5)
   (z9 (Z7 `CE
   (z9 `aVF
   u5)
   u5)
   (z9 (Z7 `CE
   (z9 `aVF
   u5)
   u5)
   (z9 (Z0 (Z2 (K8 (d8 `zp `aVE) `Ie) v6))
   u5))))) `cd
theorem nw0:`af uz0 `e4 (t7 `af7):=`al
theorem da0(F:Fun K `CH `CH `af7 fa fd)(T:`ak)(C__law_next:`af8)(C__law_number:FnD P w K mg `m `Pk 1 `BM yj0):`R P w K mg `m CX0 2 fa fd `e4 (spB K 0 O1) :=
 okB (k:=1) (G:=t50) F nw0 (λcdv A outer s H E hr=>(u6 (Z1 (G4 `af9 (l70 (o4 1 nw0.nd))))
   (u6 (Q6 `kB
   (u6 (Y5 (Y4 t90))
   p7)
   p7)
   (u6 (Q6 (o7 ow0 qn0 `apc v6)
   (u6 (Y5 (Y4 (T9 C__law_number hr `p (w6 `jZ (w6 `vL v9)))))
   p7)
   p7)
   (u6 (Y5 (Y4 (M6 (w6 o9 (w6 (d8 `jZ `vL) v9)))))
   p7))))) `dh
theorem ru0:`af s00 `CI (t7 `Pl):=`al
theorem bx0(F:Fun K `CJ `CJ `Pl fa fd)(T:`ak)(C__law_next:`af8):`R P w K mg `m CX0 2 fa fd `CI (spB K 0 yz0) :=
 okB (k:=1) (G:=tx0) F ru0 (λcdv A outer s H E hr=>(u6 (Z1 (Z5 o9 (o4 2 ru0.nd)))
   (u6 (Z1 (G4 `af9 (l70 (o4 3 ru0.nd))))
   (u6 (Y5 (Y4 (Yw0 o9 (w6 (lv0 (sc:=t7 `Pl) (N:=s00) (N':=`aVG) (n:=1) (caps:=[2,3]) `f4 `p (vr0 `rd `d!) (λcl s H ex=>o4 0 (`aP:(`aVG:`g).Nodup)) `l' (λcl s H ex=>(j7 `aA (d8 (Z2 (Z9 `a3 (Z2 `ap v6)) (R9 `ap `ap)) v6)))) v9))))
   p7)))) `dh
theorem zp0:`af xa0 `e4 (`af'):=`al
theorem bh0(F:Fun K `CK `CK `VD fa fd)(T:`ak)(C__law_next:`af8)(C__law_value:FnB P w K mg `m `CH 2 `e4 0 O1)(C__law_word:FnB P w K mg `m `CJ 2 `CI 0 yz0):`R P w K mg `m CX0 3 fa fd `e4 (spB K 0 M7) :=
 okB (k:=2) (G:=u00) F zp0 (λcdv A outer s H E hr=>(u6 (Z1 (G4 `af9 (l70 (o4 1 `tL))))
   (u6 (Z1 (Z5 `qb `aVH))
   (u6 (Z1 (Z7 (pg0 (Q9 `vL))
   (z9 (Z5 (j7 (w40 (w6 `qb (w6 `qb `aVI))) `qb) `aVH)
   u5)
   u5))
   (u6 (Q6 `kB
   (u6 (Y5 (L60 o9 (tp0 0 C__law_word `If hr `p (pab 0 `aVI))))
   p7)
   p7)
   (u6 (Z1 (Qe0 0 0 3 rfl `tL (sc:=`af') (N:=xa0) (N':=`VE) (n:=1) (caps:=[0]) `f4 `p (vr0 `rd `dz) `aVJ (λcl s H ex=>(tp0 1 C__law_value `If hr `p `aVK))))
   (u6 (Q6 `kB
   (u6 (Y5 (Y4 (M6 (w6 o9 (w6 (G7 R7 vy0 `ez `eA `l!) v9)))))
   p7)
   p7)
   (u6 (Z1 (Z5 `vL (o4 4 `tL)))
   (u6 (Z1 (Z5 (Z2 v6 (d8 `jZ (K8 `afP v6))) (o4 5 `tL)))
   (u6 (Z1 (Z5 (G7 R7 vy0 `ez `eA (w6 (lv0 (sc:=`af') (N:=xa0) (N':=`aVL) (n:=2) (caps:=[1,4,5]) `f4 `p (Sj0 `aVM `l!) (λcl s H ex=>j60 0 1 (`aP:(`aVL:`g).Nodup) `p) `l' (λcl s H ex=>(M6 (w6 (j7 `dA (d8 (Z2 `Ii (R9 `ap `fS)) (G3 `gA `l!))) `d!)))) v9)) (o4 6 `tL)))
   (u6 (Q6 `kB
   (u6 (Y5 (Y4 (M6 (w6 o9 `Pm))))
   p7)
   p7)
   (u6 (Y5 (Y4 (M6 (w6 o9 (w6 (j7 `fS (d8 `jZ `afP)) `Pm)))))
   p7)))))))))))) `dh
theorem pd0:`af sv0 `af! (t7 `Pn):=`al
theorem Zp0(F:Fun K `Po `Po `Pn fa fd)(T:`ak)(C__law_cell_at:`aVN)(C__law_names:FnN P w K mg `m `Pj 1 `af4 xr0)(C__law_part:FnB P w K mg `m `CK 3 `e4 0 M7):`R P w K mg `m CX0 4 fa fd `af! (spD K zd0) :=
 okD (k:=3) (G:=re0) F pd0 (λcdv A outer s H E hr=>(z9 (Z5 (T9 `aVO hr `p (w6 `ap `d!)) (o4 2 pd0.nd))
   (z9 (N7 3 (Tl0 (jl0 o9 v6 (jl0 o9 (Z2 (yw0 `ap (z80 `aVB) y90) (w40 `dz)) (jl0 o9 (u10 X5 Z3 `af? v6) Po0)))) pd0.nd)
   (z9 (G4 (Y4 (Z2 v6 `aVP)) `aga)
   (z9 (Z7 (Q9 (v80 3 `jY o9))
   (z9 (G4 (Y4 (Z2 v6 `af?)) `aga)
   u5)
   u5)
   (z9 (G4 (Y4 (w60 C__law_names hr `p (w6 (d8 `Ii `af3) (w6 (j7 (w40 (w6 v6 `tQ)) `af?) v9)))) `aga)
   (z9 (aq0 (Vk0 R7 vy0 `ez `eA (Pk0 3 0 rfl (sc:=t7 `Pn) (N:=sv0) (N':=`VE) (n:=1) (caps:=[3]) `f4 `p (vr0 `rd (w6 (v80 3 `jY o9) v9)) `aVJ (λcl s H ex=>(tp0 1 C__law_part `If hr `p `aVK)))))
   u5))))))) `cd
theorem gy0:`af sn0 `Ik (t7 `Pp):=`al
theorem fi0(F:Fun K `Ij `Ij `Pp fa fd)(T:`ak)  : `R P w K mg `m CX0 1 fa fd `Ik (spN K Z4) :=
 okN (k:=0) (G:=no0) F gy0 (λcdv A outer s H E hr=>(z9 (Z7 `kA
   (z9 `O2
   u5)
   u5)
   (z9 (Z7 `kA
   (z9 `aVA
   u5)
   u5)
   (z9 (O7 (j80 (sc:=t7 `Pp) (N:=sn0) (N':=`aVQ) (n:=2) (caps:=[]) `f4 `p `O3 (λcl s H ex=>j60 0 1 (`aP:(`aVQ:`g).Nodup) `p) `l' (λcl s H ex=>`aA)))
   u5)))) `i2
theorem z30:`af ux0 `vM (t7 `Pq):=`al
theorem j50(F:Fun K `Pr `Pr `Pq fa fd)(T:`ak)(C__law_values:`CL):`R P w K mg `m CX0 2 fa fd `vM (spN K yr0) :=
 okN (k:=1) (G:=qw0) F z30 (λcdv A outer s H E hr=>(z9 (N7 1 `nv `CM)
   (z9 (N7 2 (J1 `tQ) `CM)
   (z9 (qy0 100000 C7 (ly0 (o7 `vN rj0 `a3 (w40 v9)))
   (z9 (G4 (Vy0 2) (l70 (o4 3 `CM)))
   (z9 (Z7 (ly0 (o7 b70 (e00 `b) `dA `aA))
   (z9 (X6 (s70 1 `dA))
   (z9 (o90 4 `CM (sc:=t7 `Pq) (N:=ux0) (N':=[`pw]) (n:=1) (caps:=[]) `f4 `p (uf0 (w60 `CN hr `p (w6 (j7 `ap `dA) v9))) (λcl s H ex=>o4 0 (`aP:([`pw]:`g).Nodup)) (λcl s H ex=>(Yj0 `afZ)) `O4)
   (z9 (Q50 2 (N7 2 (fb0 `a3 (`vJ (oy0 `hn `OX `fS))) `CM))
   u5)))
   u5)
   u5)))
   (z9 `afQ
   u5))))) `i2
theorem Zm0:`af g60 `u8 (t7 `agb):=`al
theorem Zk0(F:Fun K `Ps `Ps `agb fa fd)(T:`ak)  : `R P w K mg `m CX0 1 fa fd `u8 (spD K uy0) :=
 okD (k:=0) (G:=ig0) F Zm0 (λcdv A outer s H E hr=>(z9 (Z7 `afZ
   (z9 (Z0 (M6 (w6 o9 (w6 (Np0 `aA `Ph) v9))))
   u5)
   u5)
   (z9 `Pt
   u5))) `cd
theorem K1:`af uv0 `vM (`agc):=`al
theorem do0(F:Fun K `Pu `Pu `VG fa fd)(T:`ak)(C__law_led:FnD P w K mg `m `Ps 1 `u8 uy0)(C__law_numbered:FnN P w K mg `m `Pr 2 `vM yr0)(C__law_values:`CL):`R P w K mg `m CX0 3 fa fd `vM (spD K zk0) :=
 okD (k:=2) (G:=l30) F K1 (λcdv A outer s H E hr=>(z9 (Z5 (w60 C__law_numbered hr `p `nw) (o4 1 `tN))
   (z9 (N7 2 `nv `tN)
   (z9 (wo0 C7 rfl (uf0 `aA) (o4 3 `tN)
   (z9 (Z5 (j7 `ap `dA) `agd)
   (z9 (o90 5 `tN (sc:=`agc) (N:=uv0) (N':=`u8) (n:=1) (caps:=[1]) `f4 `p (uf0 (w60 `CN hr `p `zn)) (λcl s H ex=>o4 0 (`aP:(`u8:`g).Nodup)) `l' (λcl s H ex=>(T9 C__law_led hr `p (w6 `ap `d!))))
   (z9 (Z7 (o7 X5 Z3 `aVR o9)
   (z9 (Z5 (M6 (w6 o9 (w6 (G7 R7 vy0 `ez `eA `aVS) v9))) `agd)
   u5)
   (z9 (Z7 (o7 Ku0 L70 `aVR o9)
   (z9 (o90 6 `tN (sc:=`agc) (N:=uv0) (N':=`VH) (n:=1) (caps:=[]) `f4 `p (rm0 (j7 `fS `p?)) `aVT `l' `O4)
   (z9 (Z5 (Z2 (yw0 `fS y90 (z80 `p?)) (M6 (w6 (G7 R7 vy0 `ez `eA (w6 (`vJ (e30 `hn `afL `nx b_zip (w6 `Ig `aVS))) v9)) v9))) `agd)
   u5))
   u5)
   u5))
   (z9 (X6 (s70 2 `fS))
   u5)))))
   (z9 (ox0 (G7 R7 vy0 `ez `eA `dz))
   u5))))) `cd
theorem J3:`af sk0 `age (t7 `Pv):=`al
theorem go0(F:Fun K `Pw `Pw `Pv fa fd)(T:`ak)(C__law_values:`CL)(C__law_with:`aVU):`R P w K mg `m CX0 2 fa fd `age (spD K ub0) :=
 okD (k:=1) (G:=nt0) F J3 (λcdv A outer s H E hr=>(z9 (Z5 `tP (o4 2 `tO))
   (z9 (Z5 (Z2 (w40 `tQ) (lv0 (sc:=t7 `Pv) (N:=sk0) (N':=`aVV) (n:=1) (caps:=`Gl) `f4 `p (W50 `rd (w6 v6 `dz)) (λcl s H ex=>o4 0 (`aP:(`aVV:`g).Nodup)) `l' (λcl s H ex=>(Z2 v6 (d8 (Z2 (K8 `ap v6) `aA) (K8 `a3 v6)))))) (o4 3 `tO))
   (z9 (N7 4 (qk0 `hn `nx `ap) `tO)
   (z9 (wo0 C7 rfl (Ul0 `aVM `nw) (j60 5 6 `tO `p)
   (z9 (N7 7 `nv `tO)
   (z9 (wo0 C7 rfl (uf0 (w60 `CN hr `p `Pm)) `aVW
   (z9 (Z7 (Q9 (yt0 w80 `eA `iE `ez `oj))
   (z9 (Z5 (M6 (w6 o9 (w6 (j7 `dA (j7 `oj v6)) v9))) `aVW)
   u5)
   u5)
   (z9 (X6 (s70 7 `oj))
   u5)))
   (z9 (G4 (Y4 (ro0 (T9 `aVX hr `p (w6 `Ig `aVY)))) (lx0 4 (j7 `dA `iD)))
   u5))))
   (z9 (ox0 (G7 R7 vy0 `ez `eA `zn))
   u5)))))) `cd
theorem ml0:`af pb0 `VJ (t7 `Px):=`al
theorem cc0(F:Fun K `Il `Il `Px fa fd)(T:`ak)  : `R P w K mg `m CX0 1 fa fd `VJ (spD K zf0) :=
 okD (k:=0) (G:=ko0) F ml0 (λcdv A outer s H E hr=>(z9 (Z7 `kA
   (z9 `aVp
   u5)
   u5)
   (z9 (Z7 `kA
   (z9 `Pt
   u5)
   u5)
   (z9 (o90 2 ml0.nd (sc:=t7 `Px) (N:=pb0) (N':=`VH) (n:=1) (caps:=[]) `f4 `p `O3 `aVT `l' `O4)
   (z9 (Z0 (Z2 (yw0 `ap y90 (z80 `p?)) (M6 (w6 (G7 R7 vy0 `ez `eA (w6 (`vJ (e30 `hn `afL `nx b_zip (w6 `a3 `d!))) v9)) v9))))
   u5))))) `cd
theorem wx0:`af o50 `qZ (t7 `agf):=`al
theorem iu0(F:Fun K `Py `Py `agf fa fd)(T:`ak)(C__law_values:`CL)(C__law_with:`aVU):`R P w K mg `m CX0 2 fa fd `qZ (spD K vt0) :=
 okD (k:=1) (G:=pp0) F wx0 (λcdv A outer s H E hr=>(z9 (Z5 (d8 `aA `tP) (o4 2 wx0.nd))
   (z9 (N7 3 (t00 `CN hr `p (w6 (j7 `ap `a3) v9)) wx0.nd)
   (z9 (Z7 (ly0 (o7 `CO pn0 `dA (w40 v9)))
   (z9 `Pt
   u5)
   u5)
   (z9 (Z5 (d8 `jZ (mx0 (G3 `gA `l!))) (o4 4 wx0.nd))
   (z9 (Z7 (o7 ju0 lh0 `agg t90)
   (z9 (G4 (Y4 v6) `agh)
   u5)
   (z9 (Z7 (Q9 (yt0 w80 `eA `iE `ez `agg))
   (z9 (G4 (Y4 (j7 (w40 (w6 t90 `aVZ)) `qb)) `agh)
   u5)
   (z9 (G4 (Y4 (j7 (w40 (w6 t90 (w6 (Z9 `agg v6) `aVZ))) `qb)) `agh)
   u5))
   u5))
   (z9 (ox0 (Z2 (Z2 (yw0 `ap y90 (z80 `a3)) (M6 (w6 (T9 `aVX hr `p (w6 (j7 `ap `a3) `l!)) v9))) (yw0 `ap (z80 (Z2 `a3 v6)) y90)))
   u5))))))) `cd
theorem d30:`af ms0 `qZ (t7 `agi):=`al
theorem d90(F:Fun K `Pz `Pz `agi fa fd)(T:`ak)(C__law_changed:FnD P w K mg `m `Py 2 `qZ vt0)(C__law_turned:FnD P w K mg `m `Pw 2 `age ub0):`R P w K mg `m CX0 3 fa fd `qZ (spD K us0) :=
 okD (k:=2) (G:=mm0) F d30 (λcdv A outer s H E hr=>(z9 (Z7 `kB
   (z9 (Z0 (T9 C__law_turned hr `p (w6 `ap `agj)))
   u5)
   u5)
   (z9 (Z7 `kB
   (z9 (Z0 (T9 C__law_changed hr `p (w6 `ap `agj)))
   u5)
   u5)
   (z9 `Pt
   u5)))) `cd
theorem vf0:`af P50 [`mW] (t7 `tV):=`al
theorem Mp0(F:Fun K `nB `nB `tV fa fd)(T:`ak)(C__law_cell_at:`aVN)(C__law_drawn:FnD P w K mg `m `Pu 3 `vM zk0)(C__law_other:FnD P w K mg `m `Pz 3 `qZ us0)(C__law_values:`CL)(C__law_web:FnD P w K mg `m `Po 4 `af! zd0)(C_pack:FnN P w K mg `m `O! 4 [`ha] vz0)(C_unpacked:FnD P w K mg `m `Pi 8 [`tK] zb0):`R P w K mg `m CX0 9 fa fd [`mW] `aV_ :=
 okD (k:=8) (G:=Pe0) F vf0 (λcdv A outer s H E hr=>(z9 (Z5 `aV0 (o4 1 `kC))
   (z9 (Z5 (T9 C__law_other hr `p (w6 `aA (w6 (d8 (T9 `aVO hr `p `apd) `af3) v9))) (o4 2 `kC))
   (z9 (Z5 (w60 C_pack hr `p `d!) (o4 3 `kC))
   (z9 (N7 4 (t00 C_pack hr `p `dz) `kC)
   (z9 (Z5 (T9 `ape hr `p `d!) (o4 5 `kC))
   (z9 (Z7 (`hF (v90 (o7 `vN rj0 `aA `aV0) (uj0 (o7 `vN rj0 (mx0 (u10 `CO pn0 `dA `fS)) (u10 `CO pn0 `iD `aV1)))))
   (z9 `agk
   u5)
   u5)
   (z9 (N7 6 (qk0 `hn `nx `dA) `kC)
   (z9 (Z5 (ro0 (T9 `agl hr `p `Pm)) (o4 7 `kC))
   (z9 (Z7 (`hF (v90 (pg0 (Q9 (yt0 w80 `eA `iE `ez `ny))) (v90 (o7 `vN rj0 `ny `iD) (v90 (ly0 (o7 `vN rj0 `Ig `dA)) (uj0 (o7 `vN rj0 (w60 C_pack hr `p `aVY) `dA))))))
   (z9 `agk
   u5)
   u5)
   (z9 (wo0 C7 rfl (rm0 `ny) (o4 8 `kC)
   (z9 (wo0 C7 rfl (uf0 (w60 `CN hr `p (w6 `oj v9))) (o4 9 `kC)
   (z9 (Z7 (`hF (v90 (Q9 (yt0 jc0 b_bool `iE `afE (z8 9))) (uj0 (`hF (ls0 (Q9 (yt0 w80 `eA `iE `ez (z8 9))) (or0 (Q9 (yt0 jc0 b_bool `iE `afE (j7 (z8 9) v6)))))))))
   (z9 `agk
   u5)
   u5)
   u5))
   u5))
   (z9 (X6 (bo0 6))
   (z9 (N7 10 (bs0 (qk0 `hn `nx `fS)) `kC)
   (z9 (X6 (bo0 4))
   (z9 (ox0 (h00 (u10 `CO pn0 (T9 `agl hr `p (w6 (G7 qf0 Yf0 `hn `nx `l!) v9)) `iD) (m60 (u10 `CO pn0 (T9 `agl hr `p (w6 (z8 10) v9)) `aV1))))
   u5))))))))))))))) `cd
theorem my0:`af sr0 `bu (t7 `vO):=`al
theorem mn0(F:Fun K `wx `agm `vO fa fd)(T:`ak)(CN_Reader:`eK):`R P w K mg `m CX0 1 fa fd `bu (spB K 0 zx0) :=
 okB (k:=0) (G:=sq0) F my0 (λcdv A outer s H E hr=>(u6 `agn
   (u6 `ago
   (u6 `ago
   (u6 `ago
   (u6 (Z1 (p10 0 (J1 `zm) `j_))
   (u6 `agn
   (u6 `agn
   (u6 (Z1 (om0 0 o9 `j_))
   p7))))))))) `dh
theorem pk0:`af nv0 `CG (t7 `vP):=`al
theorem gx0(F:Fun K `vK `agp `vP fa fd)(T:`ak)(CN_Reader:`eK)(C_Reader_end_parts:FnT P w K mg `m `D `vQ 1 `bu t8 K9)(C_Reader_takes:FnT P w K mg `m `D `vR 6 `b5 t8 V9)(C_is_byte:FnD P w K mg `m `O5 2 `n6 v70):`R P w K mg `m CX0 7 fa fd `CG (spB K 0 wh0) :=
 okB (k:=6) (G:=sj0) F pk0 (λcdv A outer s H E hr=>(u6 (Nb0 C7 rfl (uf0 `aA) (o4 2 pk0.nd)
   (u6 (pu0 (PWX.pt (Uh0 (ab0 (pg0 (Q9 (T9 C_is_byte hr `p `dz)))) (Yl0 (gh0 (k80 (O2 0 C_Reader_takes hr `p `dz))))))
   (u6 (Z1 eo0)
   p7)
   p7)
   (u6 (Z1 (Sw0 0 v6 `j_))
   (u6 (Z1 (X6 (s60 0 C_Reader_end_parts hr `p)))
   p7))))
   p7)) `dh
theorem ie0:`af o20 `bu (t7 `vS):=`al
theorem js0(F:Fun K `tR `agq `vS fa fd)(T:`ak)(CN_Reader:`eK):`R P w K mg `m CX0 1 fa fd `bu (spB K 0 R8) :=
 okB (k:=0) (G:=tf0) F ie0 (λcdv A outer s H E hr=>(u6 (Y5 (Y4 (u10 X5 Z3 `nz v6)))
   p7)) `dh
theorem d40:`af qc0 `bu (t7 `re):=`al
theorem dm0(F:Fun K `ha `agr `re fa fd)(T:`ak)(CN_Reader:`eK)(C_Reader_whole:`aV2)(C_made_part:`aV3):`R P w K mg `m CX0 3 fa fd `bu (spB K 0 vb0) :=
 okB (k:=2) (G:=qm0) F d40 (λcdv A outer s H E hr=>(u6 (pu0 (gh0 `aV4)
   (u6 (Z1 eo0)
   p7)
   p7)
   (u6 (Y5 (Q00 0 `ez `eA (sc:=t7 `re) (N:=qc0) (N':=`c_) (n:=1) (caps:=[]) `f4 `p `e5 (λcl s H ex=>o4 0 (`aP:(`c_:`g).Nodup)) (λcl s H ex=>(T9 `aV5 hr `p (w6 `nu `Ph)))))
   p7))) `dh
theorem p80:`af o00 `b5 (t7 `vT):=`al
theorem i20(F:Fun K `vR `ags `vT fa fd)(T:`ak)(CN_Reader:`eK)(C_Reader_takes_digit:FnT P w K mg `m `D `vU 4 `b5 t8 R0)(C_Reader_takes_letter:FnT P w K mg `m `D `vV 2 `b5 t8 S5)(C_Reader_takes_name_number:FnT P w K mg `m `D `vW 5 `b5 t8 V7)(C_Reader_takes_sign:FnT P w K mg `m `D `vX 2 `b5 t8 N5)(C_Reader_whole:`aV2):`R P w K mg `m CX0 6 fa fd `b5 (spB K 0 V9) :=
 okB (k:=5) (G:=xm0) F p80 (λcdv A outer s H E hr=>(u6 (pu0 `aV4
   (u6 `dU
   p7)
   p7)
   (u6 (Z1 (Z5 `VL (o4 2 p80.nd)))
   (u6 (Q6 (`hF (v90 `agt (uj0 `agt)))
   (u6 (Y5 (O2 0 C_Reader_takes_digit hr `p `d!))
   p7)
   p7)
   (u6 (Q6 `agt
   (u6 (Y5 (O2 0 C_Reader_takes_sign hr `p `d!))
   p7)
   p7)
   (u6 (Q6 (o7 qs0 s90 `nA v6)
   (u6 (Y5 (O2 0 C_Reader_takes_letter hr `p `d!))
   p7)
   p7)
   (u6 (Y5 (O2 0 C_Reader_takes_name_number hr `p `d!))
   p7))))))) `dh
theorem ui0:`af ur0 `b5 (t7 `vY):=`al
theorem px0(F:Fun K `vU `agu `vY fa fd)(T:`ak)(CN_Reader:`eK)(C_Reader_goes_on:FnT P w K mg `m `D `vZ 1 `u? t8 z40)(C_Reader_takes_head:FnT P w K mg `m `D `v_ 3 `CP t8 T7):`R P w K mg `m CX0 4 fa fd `b5 (spB K 0 R0) :=
 okB (k:=3) (G:=zz0) F ui0 (λcdv A outer s H E hr=>(u6 (Z1 (Z5 (Z2 (R9 `nA `l9) (d8 `aA `l9)) (o4 2 ui0.nd)))
   (u6 (Q6 (o7 ow0 qn0 `aA `l9)
   (u6 (Y5 (O2 0 C_Reader_takes_head hr `p `dz))
   p7)
   p7)
   (u6 (pu0 (PWX.pt (Uh0 (ab0 `aV6) (Yl0 (gh0 (k80 (O2 0 C_Reader_goes_on hr `p `dz))))))
   (u6 `dU
   p7)
   p7)
   (u6 `aV7
   (u6 `dU
   p7)))))) `dh
theorem kf0:`af rt0 `u? (t7 `v0):=`al
theorem kc0(F:Fun K `vZ `agv `v0 fa fd)(T:`ak)(CN_Reader:`eK):`R P w K mg `m CX0 1 fa fd `u? (spB K 0 z40) :=
 okB (k:=0) (G:=ue0) F kf0 (λcdv A outer s H E hr=>(u6 (Y5 (Y4 (Jn0 (u10 X5 Z3 `VL o9) (m60 (u10 V00 br0 (R9 `aA `l9) (Z2 (R9 v6 (R9 v6 `aVm)) v6))))))
   p7)) `dh
theorem uw0:`af te0 `CP (t7 `v1):=`al
theorem nn0(F:Fun K `v_ `agw `v1 fa fd)(T:`ak)(CN_Reader:`eK)(K_KINDS:`afW)(C_Reader_hold:`CQ)(C_Reader_takes_part:FnT P w K mg `m `D `v2 2 `CR t8 z00)(C_unfolded:FnD P w K mg `m `OZ 1 `gB ss0):`R P w K mg `m CX0 3 fa fd `CP (spB K 0 T7) :=
 okB (k:=2) (G:=yd0) F uw0 (λcdv A outer s H E hr=>(u6 (Z1 (Z5 `jZ (o4 2 uw0.nd)))
   (u6 (Q6 `kB
   (u6 (Y5 (O2 0 C_Reader_takes_part hr `p (w6 (Ln0 K_KINDS `aVP) (w6 `Ii v9))))
   p7)
   p7)
   (u6 (Q6 `agx
   (u6 `dU
   p7)
   p7)
   (u6 (Q6 `kB
   (u6 (Z1 (X6 (O2 0 `tU hr `p (w6 (T9 C_unfolded hr `p `dz) v9))))
   p7)
   (u6 (Q6 (`hF (ls0 `kB (or0 (o7 ow0 qn0 `a3 `nz))))
   (u6 (Z1 (X6 (O2 0 `tU hr `p (w6 (M6 (w6 o9 (w6 (K8 `aV8 `a3) v9))) v9))))
   p7)
   (u6 (Q6 (o7 X5 Z3 `aA v6)
   (u6 (Z1 (X6 (O2 0 `tU hr `p (w6 t90 v9))))
   p7)
   (u6 `dU
   p7))
   p7))
   p7))
   (u6 `dU
   p7)))))) `dh
theorem t20:`af tb0 `CR (t7 `v3):=`al
theorem on0(F:Fun K `v2 `agy `v3 fa fd)(T:`ak)(CN_Reader:`eK)(C_Reader_hold:`CQ)(C_most_held:FnD P w K mg `m `O6 1 `Nb u50)(C_wanted_items:FnD P w K mg `m `O7 1 `Nc vn0):`R P w K mg `m CX0 2 fa fd `CR (spB K 0 z00) :=
 okB (k:=1) (G:=wu0) F t20 (λcdv A outer s H E hr=>(u6 (Q6 (`hF (v90 (o7 qs0 s90 `a3 (T9 C_most_held hr `p `d!)) (uj0 (o7 X5 Z3 `nz (z70 T.c_MOST_PARTS)))))
   (u6 `dU
   p7)
   p7)
   (u6 (Z1 (X6 (O2 0 `tU hr `p (w6 (M6 (w6 o9 (w6 `nz v9))) v9))))
   (ao0 0 3 `p (Wz0 0 3 t20.nd `aA) (jr0 0 3 `e5) (jr0 0 3 `e5)
   (u6 (Z1 (X6 (f00 `e5 o9)))
   (u6 (Z1 (X6 (Pj0 `e5 (`vJ (oy0 `hn `OX (T9 C_wanted_items hr `p `afT))))))
   (u6 `dU
   p7))))))) `dh
theorem gl0:`af ns0 `tT (t7 `v4):=`al
theorem gv0(F:Fun K `tS `agz `v4 fa fd)(T:`ak)(CN_Reader:`eK):`R P w K mg `m CX0 1 fa fd `tT (spB K 0 W0) :=
 okB (k:=0) (G:=sm0) F gl0 (λcdv A outer s H E hr=>(u6 (Q6 `aV9
   (u6 (Z1 (X6 (f00 (sx0 `VK v6) `aA)))
   p7)
   p7)
   (u6 (Z1 (ky0 `e5))
   (u6 `aV'
   p7)))) `dh
theorem nz0:`af sa0 `bu (t7 `v5):=`al
theorem ny0(F:Fun K `vQ `agA `v5 fa fd)(T:`ak)(CN_Reader:`eK):`R P w K mg `m CX0 1 fa fd `bu (spB K 0 K9) :=
 okB (k:=0) (G:=va0) F nz0 (λcdv A outer s H E hr=>(u6 (Z1 (qy0 100000 C7 (`hF (ls0 `aV9 (or0 `agx)))
   (z9 (ky0 `e5)
   (z9 (ky0 `e5)
   u5))))
   p7)) `dh
theorem up0:`af td0 `b5 (t7 `v6):=`al
theorem nj0(F:Fun K `vX `agB `v6 fa fd)(T:`ak)(C_Reader_hold:`CQ)(C_sign_of:`aV!):`R P w K mg `m CX0 2 fa fd `b5 (spB K 0 N5) :=
 okB (k:=1) (G:=ws0) F up0 (λcdv A outer s H E hr=>(u6 (Z1 (Z5 (T9 C_sign_of hr `p (w6 `aA (w6 (gn0 T.c_WORD_SIGNS) v9))) (o4 2 up0.nd)))
   (u6 (Q6 `aV?
   (u6 `dU
   p7)
   p7)
   (u6 `aWa
   (u6 `dU
   p7))))) `dh
theorem w70:`af wk0 `b5 (t7 `v7):=`al
theorem sg0(F:Fun K `vW `agC `v7 fa fd)(T:`ak)(CN_Reader:`eK)(C_Reader_takes_known_name:FnT P w K mg `m `D `v8 4 `CS t8 Q7)(C_is_left:`aWb):`R P w K mg `m CX0 5 fa fd `b5 (spB K 0 V7) :=
 okB (k:=4) (G:=K4) F w70 (λcdv A outer s H E hr=>(u6 (Q6 `kB
   (u6 (Y5 (O2 0 C_Reader_takes_known_name hr `p `agj))
   p7)
   p7)
   (u6 (Z1 (Z5 `jZ (o4 2 w70.nd)))
   (u6 (Q6 (`hF (v90 `aV6 (v90 (o7 qs0 s90 `a3 (z70 T.c_MOST_NAME_SIGNS)) (uj0 (o7 X5 Z3 `nz (z70 T.c_MOST_NAMES))))))
   (u6 `dU
   p7)
   p7)
   (u6 (Q6 (pg0 (Q9 (ew0 C_is_left hr `p `e5 (w6 `a3 `zm))))
   (u6 `dU
   p7)
   p7)
   (u6 `aV7
   (u6 `dU
   p7))))))) `dh
theorem wl0:`af wz0 `CS (t7 `v9):=`al
theorem sh0(F:Fun K `v8 `agD `v9 fa fd)(T:`ak)(CN_Reader:`eK)(C_Reader_hold:`CQ)(C_Reader_names_here:FnT P w K mg `m `D `v' 3 `bu t8 N8):`R P w K mg `m CX0 4 fa fd `CS (spB K 0 Q7) :=
 okB (k:=3) (G:=zy0) F wl0 (λcdv A outer s H E hr=>(u6 (Q6 (o7 J20 Mx0 `aA `nz)
   (u6 `dU
   p7)
   p7)
   (u6 (Z1 (Z5 (we0 (sx0 `e5 (K8 `aV8 `aA)) `apf) (o4 2 wl0.nd)))
   (u6 (pu0 (PWX.pt (Ou0 (ab0 `agx) (Rt0 (Sv0 Ub0 (e00 `q) `a3 (s60 0 C_Reader_names_here hr `p)))))
   (u6 `dU
   p7)
   p7)
   (u6 `aWa
   (u6 `dU
   p7)))))) `dh
theorem ta0:`af tc0 `bu (t7 `v!):=`al
theorem ou0(F:Fun K `v' `agE `v! fa fd)(T:`ak)(CN_Reader:`eK)(C_made_part:`aV3)(C_pair_names:FnN P w K mg `m `O1 1 `c_ v40):`R P w K mg `m CX0 3 fa fd `bu (spB K 0 N8) :=
 okB (k:=2) (G:=yc0) F ta0 (λcdv A outer s H E hr=>(Wh0 0 1 ta0.nd `VK (t00 C_pair_names hr `p (w6 (T9 `aV5 hr `p (w6 `O9 (w6 `O9 v9))) v9)))) `dh
theorem u30:`af un0 `b5 (t7 `v?):=`al
theorem pc0(F:Fun K `vV `agF `v? fa fd)(T:`ak)(CN_Reader:`eK)(C_Reader_hold:`CQ)(C_is_left:`aWb)(C_sign_of:`aV!):`R P w K mg `m CX0 2 fa fd `b5 (spB K 0 S5) :=
 okB (k:=1) (G:=zt0) F u30 (λcdv A outer s H E hr=>(u6 (Z1 (Z5 (T9 C_sign_of hr `p (w6 `aA `aVs)) (o4 2 u30.nd)))
   (u6 (Q6 (`hF (v90 `aV? (uj0 (pg0 (Q9 (ew0 C_is_left hr `p `e5 (w6 `nA (w6 (Z2 `nA `a3) v9))))))))
   (u6 `dU
   p7)
   p7)
   (u6 (Z1 (tw0 0 (Z2 `nA `a3) `j_))
   (u6 (Q6 (o7 X5 Z3 (G3 `gA `aWc) `nA)
   (u6 (Z1 (X6 (f00 `e5 `nA)))
   (u6 (Z1 (X6 (O2 0 `tU hr `p `aWc)))
   (u6 `aV'
   (u6 (Z1 (tw0 0 o9 `j_))
   p7))))
   p7)
   (u6 `dU
   p7)))))) `dh
universe zz
theorem us1:∀{us:`aH},`k8=1->∃a,us=[a]
 | [a],_=>⟨a,rfl⟩
theorem us2:∀{us:`aH},`k8=2->∃a b,us=`kL
 | `kL,_=>⟨a,b,rfl⟩
theorem us3:∀{us:`aH},`k8=3->∃a b c,us=[a,b,c]
 | [a,b,c],_=>⟨a,b,c,rfl⟩
theorem us4:∀{us:`aH},`k8=4->∃a b c d,us=[a,b,c,d]
 | [a,b,c,d],_=>⟨a,b,c,d,rfl⟩
noncomputable def Hd(K:`y)(x:Str)(st:`bw):Prop:=∃f fd,`aWd/\`agG
theorem U0{st:`bw}{f:`e}{osl:`iN}{kV:`E}(a:`agG)(l:`JI=`a ⟨oc,od,`cp `zr,osl⟩)(c:`dp K cdv x=`b)(k:`Js):Hd K x st:=⟨f,_,z10 l c k,a⟩
section
variable(P9:`ao)(w9:`P)(b9:`Q){h:`Q}{st:`bw}{f:`e}{ps:`g}{m:`J}(X9:`ro h)(G9:`Ke)(F9:`aWd)(a9:`agG)
include X9 G9 F9 a9
theorem cD1(o:`agH)(hl:`ax=1)(b:`aWe):`agI:=`aWf
theorem cD2(o:`agH)(hl:`ax=2)(b:`aWg):`agI:=`aWh
theorem cD3(o:`agH)(hl:`ax=3)(b:∀(kV doc pm:`E) (an:`dP) (cdv ct u v w:`E),`qc `zr ⟨[u,v,w],[]⟩=`bO (`oL [u,v,w])):`agI:=⟨f,fd,o,`Iq,`Ir,`Is λ_ _ _ _ _ _ us h=>by obtain⟨u,v,w,rfl⟩:=us3 `It;exact b _ _ _ _ _ _ _ _ _⟩
theorem cN1(o:`agJ)(hl:`ax=1)(b:`aWe):`agK:=`aWf
theorem cN2(o:`agJ)(hl:`ax=2)(b:`aWg):`agK:=`aWh
theorem cN4(o:`agJ)(hl:`ax=4)(b:∀(kV doc pm:`E) (an:`dP) (cdv ct u v w y:`E),`qc `zr ⟨[u,v,w,y],[]⟩=`bO (`oL [u,v,w,y])):`agK:=⟨f,fd,o,`Iq,`Ir,`Is λ_ _ _ _ _ _ us h=>by obtain⟨u,v,w,y,rfl⟩:=us4 `It;exact b _ _ _ _ _ _ _ _ _ _⟩
universe zz
theorem all_mk{l:`Yu}{w:`P}{h:`Q}(X:`ro h)(G:`Ke)(hfa:mg `nB=`DS)
  {f38 f39 f40 f41 f42 f43 f44 f45 f46 f47 f48 f49 f50 f51 f52 f53 f54:`e}
  {od38 an38 od39 an39 od40 an40 od41 an41 od42 an42 od43 an43 od44 an44 od45 an45 od46 an46 od47 an47 od48 an48 od49 an49 od50 an50 od51 an51 od52 an52 od53 an53 od54 an54:`dP} {sl38 sl39 sl40 sl41 sl42 sl43 sl44 sl45 sl46 sl47 sl48 sl49 sl50 sl51 sl52 sl53 sl54:`iN} {oc38 kV38 dc38 pm38 cd38 ct38 oc39 kV39 dc39 pm39 cd39 ct39 oc40 kV40 dc40 pm40 cd40 ct40 oc41 kV41 dc41 pm41 cd41 ct41 oc42 kV42 dc42 pm42 cd42 ct42 oc43 kV43 dc43 pm43 cd43 ct43 oc44 kV44 dc44 pm44 cd44 ct44 oc45 kV45 dc45 pm45 cd45 ct45 oc46 kV46 dc46 pm46 cd46 ct46 oc47 kV47 dc47 pm47 cd47 ct47 oc48 kV48 dc48 pm48 cd48 ct48 oc49 kV49 dc49 pm49 cd49 ct49 oc50 kV50 dc50 pm50 cd50 ct50 oc51 kV51 dc51 pm51 cd51 ct51 oc52 kV52 dc52 pm52 cd52 ct52 oc53 kV53 dc53 pm53 cd53 ct53 oc54 kV54 dc54 pm54 cd54 ct54:`E}
  {t_BASE t_MOST_NAMES t_MOST_NAME_SIGNS t_MOST_PARTS t_MOST_VALUES t_MOST_WORD_SIGNS t_NAME_SIGNS t_WORD_SIGNS:Tok}
  {cT_Reader:`e} (aT_Reader:`bT K `ba `D=`a (`a `ee)) (bT_Reader:Xx0 K `dQ t8=`b)
  (h0:Hd K `Ic `afA)
  (h1:Hd K `OY `afB)
  (h2:Hd K `OZ `afC)
  (h3:Hd K `O_ `afD)
  (h4:Hd K `O1 `O0)
  (h5:Hd K `O5 `afF)
  (h6:Hd K `Io `afG)
  (h7:Hd K `O6 `afH)
  (h8:Hd K `O7 `afI)
  (h9:Hd K `Im `afJ)
  (h10:Hd K `O8 `afK)
  (h11:Hd K `Ip `O')
  (h12:Hd K `O! `afN)
  (h13:Hd K `Ib `afR)
  (h14:Hd K `Pa `afS)
  (h15:Hd K `Pc `afU)
  (h16:Hd K `Id `Pg)
  (h17:Hd K `Pd `afV)
  (h18:Hd K `Pe `afX)
  (h19:Hd K `Pb `afY)
  (h20:Hd K `O? `af_)
  (h21:Hd K `Pi `af0)
  (h22:Hd K `Ih `af1)
  (h23:Hd K `zq `af2)
  (h24:Hd K `Pj `af5)
  (h25:Hd K `Pk `af6)
  (h26:Hd K `CH `af7)
  (h27:Hd K `CJ `Pl)
  (h28:Hd K `CK `VD)
  (h29:Hd K `Po `Pn)
  (h30:Hd K `Ij `Pp)
  (h31:Hd K `Pr `Pq)
  (h32:Hd K `Ps `agb)
  (h33:Hd K `Pu `VG)
  (h34:Hd K `Pw `Pv)
  (h35:Hd K `Il `Px)
  (h36:Hd K `Py `agf)
  (h37:Hd K `Pz `agi)
  (a38:`bT K `ba `nB=`a (`a `aWi)) (l38:`cf f38=`a ⟨oc38,od38,`cp (`aWj),sl38⟩) (c38:`dp K cd38 `nB=`b) (k38:`cu K `aWi=`b)
  (a39:`cO K `ee `wx=`a (`a (`z f39))) (l39:`cf f39=`a ⟨oc39,od39,`cp (`c6 `wx `agm (V5 `vO) (W6 `vO) (t7 `vO) `ay kV39 dc39 pm39 an39 cd39 ct39),sl39⟩) (c39:`dp K cd39 `agm=`b) (k39:`cu K (`z f39)=`b) (i39:`d1 K (`z f39)=`b)
  (a40:`cO K `ee `vK=`a (`a (`z f40))) (l40:`cf f40=`a ⟨oc40,od40,`cp (`c6 `vK `agp (V5 `vP) (W6 `vP) (t7 `vP) `ay kV40 dc40 pm40 an40 cd40 ct40),sl40⟩) (c40:`dp K cd40 `agp=`b) (k40:`cu K (`z f40)=`b) (i40:`d1 K (`z f40)=`b)
  (a41:`cO K `ee `tR=`a (`a (`z f41))) (l41:`cf f41=`a ⟨oc41,od41,`cp (`c6 `tR `agq (V5 `vS) (W6 `vS) (t7 `vS) `ay kV41 dc41 pm41 an41 cd41 ct41),sl41⟩) (c41:`dp K cd41 `agq=`b) (k41:`cu K (`z f41)=`b) (i41:`d1 K (`z f41)=`b)
  (a42:`cO K `ee `ha=`a (`a (`z f42))) (l42:`cf f42=`a ⟨oc42,od42,`cp (`c6 `ha `agr (V5 `re) (W6 `re) (t7 `re) `ay kV42 dc42 pm42 an42 cd42 ct42),sl42⟩) (c42:`dp K cd42 `agr=`b) (k42:`cu K (`z f42)=`b) (i42:`d1 K (`z f42)=`b)
  (a43:`cO K `ee `vR=`a (`a (`z f43))) (l43:`cf f43=`a ⟨oc43,od43,`cp (`c6 `vR `ags (V5 `vT) (W6 `vT) (t7 `vT) `ay kV43 dc43 pm43 an43 cd43 ct43),sl43⟩) (c43:`dp K cd43 `ags=`b) (k43:`cu K (`z f43)=`b) (i43:`d1 K (`z f43)=`b)
  (a44:`cO K `ee `vU=`a (`a (`z f44))) (l44:`cf f44=`a ⟨oc44,od44,`cp (`c6 `vU `agu (V5 `vY) (W6 `vY) (t7 `vY) `ay kV44 dc44 pm44 an44 cd44 ct44),sl44⟩) (c44:`dp K cd44 `agu=`b) (k44:`cu K (`z f44)=`b) (i44:`d1 K (`z f44)=`b)
  (a45:`cO K `ee `vZ=`a (`a (`z f45))) (l45:`cf f45=`a ⟨oc45,od45,`cp (`c6 `vZ `agv (V5 `v0) (W6 `v0) (t7 `v0) `ay kV45 dc45 pm45 an45 cd45 ct45),sl45⟩) (c45:`dp K cd45 `agv=`b) (k45:`cu K (`z f45)=`b) (i45:`d1 K (`z f45)=`b)
  (a46:`cO K `ee `v_=`a (`a (`z f46))) (l46:`cf f46=`a ⟨oc46,od46,`cp (`c6 `v_ `agw (V5 `v1) (W6 `v1) (t7 `v1) `ay kV46 dc46 pm46 an46 cd46 ct46),sl46⟩) (c46:`dp K cd46 `agw=`b) (k46:`cu K (`z f46)=`b) (i46:`d1 K (`z f46)=`b)
  (a47:`cO K `ee `v2=`a (`a (`z f47))) (l47:`cf f47=`a ⟨oc47,od47,`cp (`c6 `v2 `agy (V5 `v3) (W6 `v3) (t7 `v3) `ay kV47 dc47 pm47 an47 cd47 ct47),sl47⟩) (c47:`dp K cd47 `agy=`b) (k47:`cu K (`z f47)=`b) (i47:`d1 K (`z f47)=`b)
  (a48:`cO K `ee `tS=`a (`a (`z f48))) (l48:`cf f48=`a ⟨oc48,od48,`cp (`c6 `tS `agz (V5 `v4) (W6 `v4) (t7 `v4) `ay kV48 dc48 pm48 an48 cd48 ct48),sl48⟩) (c48:`dp K cd48 `agz=`b) (k48:`cu K (`z f48)=`b) (i48:`d1 K (`z f48)=`b)
  (a49:`cO K `ee `vQ=`a (`a (`z f49))) (l49:`cf f49=`a ⟨oc49,od49,`cp (`c6 `vQ `agA (V5 `v5) (W6 `v5) (t7 `v5) `ay kV49 dc49 pm49 an49 cd49 ct49),sl49⟩) (c49:`dp K cd49 `agA=`b) (k49:`cu K (`z f49)=`b) (i49:`d1 K (`z f49)=`b)
  (a50:`cO K `ee `vX=`a (`a (`z f50))) (l50:`cf f50=`a ⟨oc50,od50,`cp (`c6 `vX `agB (V5 `v6) (W6 `v6) (t7 `v6) `ay kV50 dc50 pm50 an50 cd50 ct50),sl50⟩) (c50:`dp K cd50 `agB=`b) (k50:`cu K (`z f50)=`b) (i50:`d1 K (`z f50)=`b)
  (a51:`cO K `ee `vW=`a (`a (`z f51))) (l51:`cf f51=`a ⟨oc51,od51,`cp (`c6 `vW `agC (V5 `v7) (W6 `v7) (t7 `v7) `ay kV51 dc51 pm51 an51 cd51 ct51),sl51⟩) (c51:`dp K cd51 `agC=`b) (k51:`cu K (`z f51)=`b) (i51:`d1 K (`z f51)=`b)
  (a52:`cO K `ee `v8=`a (`a (`z f52))) (l52:`cf f52=`a ⟨oc52,od52,`cp (`c6 `v8 `agD (V5 `v9) (W6 `v9) (t7 `v9) `ay kV52 dc52 pm52 an52 cd52 ct52),sl52⟩) (c52:`dp K cd52 `agD=`b) (k52:`cu K (`z f52)=`b) (i52:`d1 K (`z f52)=`b)
  (a53:`cO K `ee `v'=`a (`a (`z f53))) (l53:`cf f53=`a ⟨oc53,od53,`cp (`c6 `v' `agE (V5 `v!) (W6 `v!) (t7 `v!) `ay kV53 dc53 pm53 an53 cd53 ct53),sl53⟩) (c53:`dp K cd53 `agE=`b) (k53:`cu K (`z f53)=`b) (i53:`d1 K (`z f53)=`b)
  (a54:`cO K `ee `vV=`a (`a (`z f54))) (l54:`cf f54=`a ⟨oc54,od54,`cp (`c6 `vV `agF (V5 `v?) (W6 `v?) (t7 `v?) `ay kV54 dc54 pm54 an54 cd54 ct54),sl54⟩) (c54:`dp K cd54 `agF=`b) (k54:`cu K (`z f54)=`b) (i54:`d1 K (`z f54)=`b)
  (z_bool:`bT K `ba `uF=`dn)
  (z_enumerate:`bT K `ba `jc=`dn)
  (z_int:`bT K `ba `hu=`dn)
  (z_isinstance:`bT K `ba `uG=`dn)
  (z_len:`bT K `ba `rT=`dn)
  (z_list:`bT K `ba `eh=`dn)
  (z_ord:`bT K `ba `zW=`dn)
  (z_range:`bT K `ba `rn=`dn)
  (z_reversed:`bT K `ba `mK=`dn)
  (z_str:`bT K `ba `iP=`dn)
  (z_tuple:`bT K `ba `c2=`dn)
  (z_zip:`bT K `ba `f!=`dn)
  (y_BASE:`bT K `ba "BASE"=`a (`a (`d 128 t_BASE)))
  (y_MOST_NAMES:`bT K `ba `aVf=`a (`a (`d 60 t_MOST_NAMES)))
  (y_MOST_NAME_SIGNS:`bT K `ba `aVg=`a (`a (`d 8 t_MOST_NAME_SIGNS)))
  (y_MOST_PARTS:`bT K `ba `aVh=`a (`a (`d 60 t_MOST_PARTS)))
  (y_MOST_VALUES:`bT K `ba `aVi=`a (`a (`d 12 t_MOST_VALUES)))
  (y_MOST_WORD_SIGNS:`bT K `ba `aVj=`a (`a (`d 20 t_MOST_WORD_SIGNS)))
  (y_NAME_SIGNS:`bT K `ba `aVk=`a (`a (`s `x9 t_NAME_SIGNS)))
  (y_WORD_SIGNS:`bT K `ba `aVl=`a (`a (`s `x' t_WORD_SIGNS)))
  {kA_KINDS:`e} {kn_KINDS:Nat} {ks_KINDS:`iN} {kt_KINDS_0 kt_KINDS_1 kt_KINDS_2 kt_KINDS_3:Tok}
  (kN_KINDS:`bT K `ba "KINDS"=`a (`a (`z kA_KINDS))) (kL_KINDS:`cf kA_KINDS=`a ⟨`eg,`c,`bP #[`s `Gc kt_KINDS_0,`s `Gd kt_KINDS_1,`s `Ge kt_KINDS_2,`s `sN kt_KINDS_3] kn_KINDS,ks_KINDS⟩)
  : ∃fd:`ho,(∀(s:`v) (v:`E),`DU s fd ⟨[v],[]⟩ [(`mW,v)])/\∀base:`Q,`Wl->`zy->`R `ag w K mg `m CX0 9 fa fd [`mW] `aV_:=by
 have e:=hfa.symm.trans (C4 X G a38);cases e;have T:`ak:=⟨E1 X G z_bool,E1 X G z_enumerate,E1 X G z_int,E1 X G z_isinstance,E1 X G z_len,E1 X G z_list,E1 X G z_ord,E1 X G z_range,E1 X G z_reversed,E1 X G z_str,E1 X G z_tuple,E1 X G z_zip,⟨_,C4 X G y_BASE⟩,⟨_,C4 X G y_MOST_NAMES⟩,⟨_,C4 X G y_MOST_NAME_SIGNS⟩,⟨_,C4 X G y_MOST_PARTS⟩,⟨_,C4 X G y_MOST_VALUES⟩,⟨_,C4 X G y_MOST_WORD_SIGNS⟩,⟨_,C4 X G y_NAME_SIGNS⟩,⟨_,C4 X G y_WORD_SIGNS⟩⟩;have n1:`afW:=⟨_,_,_,_,C4 X G kN_KINDS,kL_KINDS,rfl,rfl,rfl,(by show 4<=`L;decide),`ah `ae (`ah `ae (`ah `ae (`ah `ae (`O))))⟩;obtain⟨f0,g0,F0,a0⟩:=h0;obtain⟨f1,g1,F1,a1⟩:=h1;obtain⟨f2,g2,F2,a2⟩:=h2;obtain⟨f3,g3,F3,a3⟩:=h3;obtain⟨f4,g4,F4,a4⟩:=h4;obtain⟨f5,g5,F5,a5⟩:=h5;obtain⟨f6,g6,F6,a6⟩:=h6;obtain⟨f7,g7,F7,a7⟩:=h7;obtain⟨f8,g8,F8,a8⟩:=h8;obtain⟨f9,g9,F9,a9⟩:=h9;obtain⟨L1,g10,u1,z0⟩:=h10;obtain⟨f11,g11,u2,H8⟩:=h11;obtain⟨f12,S3,q9,D1⟩:=h12;obtain⟨f13,I7,r1,H7⟩:=h13;obtain⟨f14,g14,q8,y1⟩:=h14;obtain⟨f15,g15,w4,y2⟩:=h15;obtain⟨f16,g16,s5,z3⟩:=h16;obtain⟨f17,g17,s2,H3⟩:=h17;obtain⟨S0,g18,r0,I0⟩:=h18;obtain⟨f19,g19,s4,z6⟩:=h19;obtain⟨f20,g20,s8,H6⟩:=h20;obtain⟨f21,g21,u0,I4⟩:=h21;obtain⟨f22,g22,s0,I2⟩:=h22;obtain⟨z1,g23,p4,B1⟩:=h23;obtain⟨f24,g24,r2,I3⟩:=h24;obtain⟨f25,g25,v1,x9⟩:=h25;obtain⟨w7,g26,q2,y5⟩:=h26;obtain⟨z5,g27,q1,w5⟩:=h27;obtain⟨z4,g28,q0,I1⟩:=h28;obtain⟨f29,g29,w2,H5⟩:=h29;obtain⟨f30,S2,s6,x7⟩:=h30;obtain⟨I8,g31,v3,D2⟩:=h31;obtain⟨N0,g32,s7,y7⟩:=h32;obtain⟨f33,g33,s3,z2⟩:=h33;obtain⟨f34,g34,t2,y3⟩:=h34;obtain⟨N1,N2,t3,I6⟩:=h35;obtain⟨f36,g36,r7,I5⟩:=h36;obtain⟨f37,I9,r4,H9⟩:=h37;have H4:=z10 (x := `nB) (st:=`tV) l38 c38 k38;have r6:=z10 (x := `wx) (st:=`vO) l39 c39 k39;have q5:=z10 (x := `vK) (st:=`vP) l40 c40 k40;have v4:=z10 (x := `tR) (st:=`vS) l41 c41 k41;have q6:=z10 (x := `ha) (st:=`re) l42 c42 k42;have r5:=z10 (x := `vR) (st:=`vT) l43 c43 k43;have q7:=z10 (x := `vU) (st:=`vY) l44 c44 k44;have q4:=z10 (x := `vZ) (st:=`v0) l45 c45 k45;have s1:=z10 (x := `v_) (st:=`v1) l46 c46 k46;have w0:=z10 (x := `v2) (st:=`v3) l47 c47 k47;have t4:=z10 (x := `tS) (st:=`v4) l48 c48 k48;have v2:=z10 (x := `vQ) (st:=`v5) l49 c49 k49;have w1:=z10 (x := `vX) (st:=`v6) l50 c50 k50;have r3:=z10 (x := `vW) (st:=`v7) l51 c51 k51;have s9:=z10 (x := `v8) (st:=`v9) l52 c52 k52;have w3:=z10 (x := `v') (st:=`v!) l53 c53 k53;have t1:=z10 (x := `vV) (st:=`v?) l54 c54 k54;have J:`eK:=Pr0 `dV `aph;refine⟨`aWj,λs v=>.of_eq rfl,λbase _ _=>?_⟩;have b1:=cN1 `ag w `m X G F0 a0 (iy0 F0 T) rfl `a5;have p3:=cD1 `ag w `m X G F1 a1 (T60 F1 T) rfl `a5;have n8:=cD1 `ag w `m X G F2 a2 (Zj0 F2 T) rfl `a5;have n2:=cD1 `ag w `m X G F3 a3 (Zs0 F3 T) rfl `a5;have k3:=cN1 `ag w `m X G F4 a4 (dq0 F4 T) rfl `a5;have e5:=cD2 `ag w `m X G F6 a6 (V60 F6 T) rfl `a5;have m6:=cD1 `ag w `m X G F7 a7 (am0 F7 T) rfl `a5;have e3:=cD2 `ag w `m X G F8 a8 (hf0 F8 T) rfl `a5;have l9:=cD1 `ag w `m X G u1 z0 (df0 u1 T) rfl `a5;have e6:=cD3 `ag w `m X G u2 H8 (Wv0 u2 T) rfl `a5;have l4:=cD2 `ag w `m X G r1 H7 (T80 r1 T) rfl `a5;have c5:=cN1 `ag w `m X G s5 z3 (dd0 s5 T) rfl `a5;have e8:=cD1 `ag w `m X G s2 H3 (f90 s2 T n1) rfl `a5;have m0:=cN1 `ag w `m X G s8 H6 (dj0 s8 T) rfl `a5;have b3:=cD2 `ag w `m X G s0 I2 (ix0 s0 T) rfl `a5;have Z:FnB `ag w K mg `m `zq 1 `e4 0 S8:=⟨z1,_,av0 p4 T ,C4 X G B1,p4.kp,p4.binds (ps:=`e4) `ok⟩;have k5:=cN2 `ag w `m X G r2 I3 (dp0 r2 T) rfl `a5;have e9:=cD2 `ag w `m X G v1 x9 (gg0 v1 T) rfl `a5;have M:=cN1 `ag w `m X G s6 x7 (fi0 s6 T) rfl `a5;have n3:=cD2 `ag w `m X G s7 y7 (Zk0 s7 T) rfl `a5;have d2:=cD2 `ag w `m X G t3 I6 (cc0 t3 T) rfl `a5;have p1:FnI `ag w K mg `m `D 1 `bu zx0:=⟨⟨`dQ,f39,_,mn0 r6 T J,`dV,⟨(`VO).2.2.1,a39,i39,(`VO).2.2.2⟩,r6.binds (ps:=`bu) `ok,C4 X G `dV⟩⟩;have b0:FnT `ag w K mg `m `D `tR 1 `bu t8 R8:=⟨⟨`dQ,f41,_,js0 v4 T J,`dV,`fi,⟨a41,i41,k41⟩,v4.binds (ps:=`bu) `ok,`X⟩⟩;have d3:FnT `ag w K mg `m `D `vZ 1 `u? t8 z40:=⟨⟨`dQ,f45,_,kc0 q4 T J,`dV,`fi,⟨a45,i45,k45⟩,q4.binds (ps:=`u?) `i3,`X⟩⟩;have O:FnT `ag w K mg `m `D `tS 1 `tT t8 W0:=⟨⟨`dQ,f48,_,gv0 t4 T J,`dV,`fi,⟨a48,i48,k48⟩,t4.binds (ps:=`tT) `i3,`X⟩⟩;have c8:FnT `ag w K mg `m `D `vQ 1 `bu t8 K9:=⟨⟨`dQ,f49,_,ny0 v2 T J,`dV,`fi,⟨a49,i49,k49⟩,v2.binds (ps:=`bu) `ok,`X⟩⟩;have o1:=cD1 `ag w `m X G F5 a5 (V10 F5 T n2) rfl `a5;have d1:=cD2 `ag w `m X G F9 a9 (cn0 F9 T l9) rfl `a5;have l3:=cN2 `ag w `m X G w4 y2 (dn0 w4 T b1 c5) rfl `a5;have l7:=cN1 `ag w `m X G r0 I0 (dh0 r0 T c5) rfl `a5;have k4:=cD2 `ag w `m X G s4 z6 (dv0 s4 T p3) rfl `a5;have j2:FnB `ag w K mg `m `CH 2 `e4 0 O1:=⟨w7,_,da0 q2 T Z e9,C4 X G y5,q2.kp,q2.binds (ps:=`e4) `ok⟩;have m3:FnB `ag w K mg `m `CJ 2 `CI 0 yz0:=⟨z5,_,bx0 q1 T Z,C4 X G w5,q1.kp,q1.binds (ps:=`CI) `i3⟩;have e0:=cN1 `ag w `m X G v3 D2 (j50 v3 T M) rfl `a5;have e7:=cD2 `ag w `m X G t2 y3 (go0 t2 T M d2) rfl `a5;have e4:=cD2 `ag w `m X G r7 I5 (iu0 r7 T M d2) rfl `a5;have c1:FnT `ag w K mg `m `D `v2 2 `CR t8 z00:=⟨⟨`dQ,f47,_,on0 w0 T J O m6 e3,`dV,`fi,⟨a47,i47,k47⟩,w0.binds (ps:=`CR) λ_ _ _ _ _ _ us hl=>by obtain⟨_,_,_,rfl⟩:=us3 hl;rfl,`X⟩⟩;have c4:FnT `ag w K mg `m `D `vX 2 `b5 t8 N5:=⟨⟨`dQ,f50,_,nj0 w1 T O e5,`dV,`fi,⟨a50,i50,k50⟩,w1.binds (ps:=`b5) `i3,`X⟩⟩;have b2:FnT `ag w K mg `m `D `vV 2 `b5 t8 S5:=⟨⟨`dQ,f54,_,pc0 t1 T J O e6 e5,`dV,`fi,⟨a54,i54,k54⟩,t1.binds (ps:=`b5) `i3,`X⟩⟩;have j1:=cN4 `ag w `m X G q8 y1 (db0 q8 T l4 k4 l3 b1 e8 l7) rfl `a5;have m2:FnB `ag w K mg `m `CK 3 `e4 0 M7:=⟨z4,_,bh0 q0 T Z j2 m3,C4 X G I1,q0.kp,q0.binds (ps:=`e4) `ok⟩;have l0:=cD1 `ag w `m X G s3 z2 (do0 s3 T n3 e0 M) rfl `a5;have m1:=cD2 `ag w `m X G r4 H9 (d90 r4 T e4 e7) rfl `a5;have l8:FnT `ag w K mg `m `D `ha 3 `bu t8 vb0:=⟨⟨`dQ,f42,_,dm0 q6 T J b0 d1,`dV,`fi,⟨a42,i42,k42⟩,q6.binds (ps:=`bu) `ok,`X⟩⟩;have c2:FnT `ag w K mg `m `D `v_ 3 `CP t8 T7:=⟨⟨`dQ,f46,_,nn0 s1 T J n1 O c1 n8,`dV,`fi,⟨a46,i46,k46⟩,s1.binds (ps:=`CP) `i3,`X⟩⟩;have c3:FnT `ag w K mg `m `D `v' 3 `bu t8 N8:=⟨⟨`dQ,f53,_,ou0 w3 T J d1 k3,`dV,`fi,⟨a53,i53,k53⟩,w3.binds (ps:=`bu) `ok,`X⟩⟩;have q3:=cN1 `ag w `m X G q9 D1 (Pq0 q9 T m0 l4 j1) rfl `a5;have n7:=cD2 `ag w `m X G w2 H5 (Zp0 w2 T b3 k5 m2) rfl `a5;have c0:FnT `ag w K mg `m `D `vU 4 `b5 t8 R0:=⟨⟨`dQ,f44,_,px0 q7 T J d3 c2,`dV,`fi,⟨a44,i44,k44⟩,q7.binds (ps:=`b5) `i3,`X⟩⟩;have Y:FnT `ag w K mg `m `D `v8 4 `CS t8 Q7:=⟨⟨`dQ,f52,_,sh0 s9 T J O c3,`dV,`fi,⟨a52,i52,k52⟩,s9.binds (ps:=`CS) `i3,`X⟩⟩;have U:FnT `ag w K mg `m `D `vW 5 `b5 t8 V7:=⟨⟨`dQ,f51,_,sg0 r3 T J Y e6,`dV,`fi,⟨a51,i51,k51⟩,r3.binds (ps:=`b5) `i3,`X⟩⟩;have e1:FnT `ag w K mg `m `D `vR 6 `b5 t8 V9:=⟨⟨`dQ,f43,_,i20 r5 T J c0 b2 U c4 b0,`dV,`fi,⟨a43,i43,k43⟩,r5.binds (ps:=`b5) `i3,`X⟩⟩;have i0:FnT `ag w K mg `m `D `vK 7 `CG t8 wh0:=⟨⟨`dQ,f40,_,gx0 q5 T J c8 e1 o1,`dV,`fi,⟨a40,i40,k40⟩,q5.binds (ps:=`CG) `i3,`X⟩⟩;have n4:=cD1 `ag w `m X G u0 I4 (Zf0 u0 T p1 i0 l8) rfl `a5;exact Mp0 H4 T b3 l0 m1 M n7 q3 n4
theorem cq0:∀ns:`_,Rps K H B `acs `wT
 | []=>by rw[`jr,`jr,n6]
 | `n4=>by
  rw[`T,`T,o6];exact⟨_,_,rfl,`Eo,cq0 ns⟩
theorem Vx0{ns:`_}(hK:`aaE)(hS:`Ys)(hm:`aU'):spD K lz0 `eU H `Kc `lJ:=by
 refine⟨`FD,[`ll],`dr,`aIk,?_,hm,λv H' _ r=>`ai4⟩;rw[o6];refine⟨_,[],rfl,?_,`f_⟩;rw[W4];exact⟨a,`ms `wR,rfl,script_at hK hS,cq0 ns⟩
universe Rk
open PySem.W PyProof.Rows
namespace PySem.W.Fast
def tw4449668014749331906:=0
def tw9266767161274935926:=0
def tw10756223543761389125:=0
def tw7514609741073122883:=0
def tw17250569628867082843:=0
def tw17576808795372413321:=0
def tw15859431908126034736:=0
def tw2235888172721892639:=0
def tw16351286487527104313:=0
def tw4726192195612083060:=0
def tw16665434122669629277:=0
def tw2463679542345152840:=0
def tw55714912843931824:=0
def tw3774710860549870308:=0
def tw6668536001877140037:=0
def tw11261683153380444401:=0
def tw5789205781246106052:=0
def tw10326035107428545252:=0
def tw2261526044301898118:=0
def tw8448419465510412883:=0
def tw14296355107427335360:=0
def tw5324147225681115661:=0
def tw15590577746221057847:=0
def tw5708384013792424615:=0
def tw15487849293860400035:=0
def tw11542429543278918126:=0
def tw86247079612477704:=0
def tw2710659011787820092:=0
def tw8276555026217634883:=0
def tw5267447098429417399:=0
def tw12507716814339245948:=0
def tw16280756641356432038:=0
def tw7054683448177283411:=0
def tw15805695525610555060:=0
def tw2274702152216851544:=0
def tw3944626803644003634:=0
def tw10686889475653659977:=0
def tw10275103961258560015:=0
def tw2263763107597702148:=0
def tw16215163528965916136:=0
def tw17877224713710754821:=0
def tw14633676001448472919:=0
def tw17557163735456280786:=0
def tw15541944281976707651:=0
def tw15090229301676602112:=0
def tw16884740412782421150:=0
def tw162103685496430351:=0
def tw3275283692419012003:=0
def tw7157573479792593528:=0
def tw12337965597559316640:=0
def tw14943542073388797451:=0
def tw12869961708296478734:=0
def tw11919504402925919415:=0
def tw5718460835784926843:=0
def tw7558563368778488989:=0
def tw3947084314373431038:=0
def tw14264823915202420148:=0
def tw14731523827359866293:=0
def tw13822276513913983960:=0
def tw10480161657038223509:=0
def tw9002579775048924179:=0
def tw15271220187221164672:=0
def tw8432792422392823030:=0
def tw1207605866825180343:=0
def tw10075808477573772888:=0
def tw9509667858059604070:=0
def tw16110288171276924672:=0
def tw17180019739509407720:=0
def tw4496913603599114013:=0
def tw10034801908495835240:=0
def tw1548902514649679339:=0
def tw878361524845262394:=0
def tw17616784702998787928:=0
def tw15679847743577215362:=0
def tw9533531807079826562:=0
def tw5782577857167759275:=0
def tw3988797421698487608:=0
def tw17675662724320870758:=0
def tw1477933633366595763:=0
def tw9155551443205934869:=0
def tw18343554400612236370:=0
def tw15319742752602697801:=0
def tw6671937100515193483:=0
def tw15847306857637251221:=0
def tw8396161313912149343:=0
def tw7120761496731306085:=0
def tw3034619936817656551:=0
def tw1455016263541844675:=0
def tw10420008325631992062:=0
def tw3310457288904747698:=0
def tw4196610531944639405:=0
def tw4997611517416886963:=0
def tw1388575417847639268:=0
def tw3191231763638150141:=0
def tw13704337416843824272:=0
def tw17836618505596882423:=0
def tw7403899190440882684:=0
def tw15302578549106718509:=0
def tw3284076508690300664:=0
def tw6710056462306783178:=0
def tw5500154981155198468:=0
def tw2974864929263231430:=0
def tw3195914544850661692:=0
def tw17693029606903593078:=0
def tw12378939898374971454:=0
def tw17808364004634445116:=0
def tw4670270025776626138:=0
def tw6028052464476860510:=0
def tw7636810016291163242:=0
def tw4926064699487085188:=0
def tw6268485351087435332:=0
def tw3649416085632855543:=0
def tw15820569800185148502:=0
def tw14397718738023968506:=0
def tw2588888361312065279:=0
def tw16266755940052477817:=0
def tw16488965844952832637:=0
def tw9763522473512804246:=0
def tw4009581651139872213:=0
def tw4523153952496535993:=0
def tw7532946605638591345:=0
def tw13640285191176250305:=0
def tw4191924338939643691:=0
def tw6468857850963355042:=0
def tw13963026436819067667:=0
def tw15396967932794770534:=0
def tw9483167634109745281:=0
def tw1281387688679143328:=0
def tw6325179224723594738:=0
def tw17112632708394131150:=0
universe PySem.W.Fast
end
set_option maxRecDepth 100000 in
theorem PySem.Challenge.cw_graphpack_k28_whole_packs_there_and_back_holds : PySem.Challenge.rw_graphpack_k28_whole_packs_there_and_back.Holds := by
 w_on;o_law;k_head;(case hw=>w_witness2)
 k_fill
 refine DL.Q10 (l:=PySem.Challenge.rw_graphpack_k28_whole_packs_there_and_back) (n:=63) (k:=9) (x := "_law_script") (CX:=L2.CX0) (sp:=λK=>DL.spD K Rk.lz0) rfl (by decide) rfl ⟨rfl,by decide,by decide⟩ (λw h Y=>W.kIn_of Y) ?F ?S ?C
 case F =>
  intro w mg fa h KX G hmg;refine' Rk.all_mk KX G hmg ?aT_Reader ?bT_Reader ?h0 ?h1 ?h2 ?h3 ?h4 ?h5 ?h6 ?h7 ?h8 ?h9 ?h10 ?h11 ?h12 ?h13 ?h14 ?h15 ?h16 ?h17 ?h18 ?h19 ?h20 ?h21 ?h22 ?h23 ?h24 ?h25 ?h26 ?h27 ?h28 ?h29 ?h30 ?h31 ?h32 ?h33 ?h34 ?h35 ?h36 ?h37 ?a38 ?l38 ?c38 ?k38 ?a39 ?l39 ?c39 ?k39 ?i39 ?a40 ?l40 ?c40 ?k40 ?i40 ?a41 ?l41 ?c41 ?k41 ?i41 ?a42 ?l42 ?c42 ?k42 ?i42 ?a43 ?l43 ?c43 ?k43 ?i43 ?a44 ?l44 ?c44 ?k44 ?i44 ?a45 ?l45 ?c45 ?k45 ?i45 ?a46 ?l46 ?c46 ?k46 ?i46 ?a47 ?l47 ?c47 ?k47 ?i47 ?a48 ?l48 ?c48 ?k48 ?i48 ?a49 ?l49 ?c49 ?k49 ?i49 ?a50 ?l50 ?c50 ?k50 ?i50 ?a51 ?l51 ?c51 ?k51 ?i51 ?a52 ?l52 ?c52 ?k52 ?i52 ?a53 ?l53 ?c53 ?k53 ?i53 ?a54 ?l54 ?c54 ?k54 ?i54 ?z_bool ?z_enumerate ?z_int ?z_isinstance ?z_len ?z_list ?z_ord ?z_range ?z_reversed ?z_str ?z_tuple ?z_zip ?y_BASE ?y_MOST_NAMES ?y_MOST_NAME_SIGNS ?y_MOST_PARTS ?y_MOST_VALUES ?y_MOST_WORD_SIGNS ?y_NAME_SIGNS ?y_WORD_SIGNS ?kN_KINDS ?kL_KINDS
  (case aT_Reader=>k_is)
  (case bT_Reader=>kernel_rfl)
  (case h0=>exact Rk.U0 (by k_is) (by k_is) (by k_is) (by k_is))
  (case h1=>exact Rk.U0 (by k_is) (by k_is) (by k_is) (by k_is))
  (case h2=>exact Rk.U0 (by k_is) (by k_is) (by k_is) (by k_is))
  (case h3=>exact Rk.U0 (by k_is) (by k_is) (by k_is) (by k_is))
  (case h4=>exact Rk.U0 (by k_is) (by k_is) (by k_is) (by k_is))
  (case h5=>exact Rk.U0 (by k_is) (by k_is) (by k_is) (by k_is))
  (case h6=>exact Rk.U0 (by k_is) (by k_is) (by k_is) (by k_is))
  (case h7=>exact Rk.U0 (by k_is) (by k_is) (by k_is) (by k_is))
  (case h8=>exact Rk.U0 (by k_is) (by k_is) (by k_is) (by k_is))
  (case h9=>exact Rk.U0 (by k_is) (by k_is) (by k_is) (by k_is))
  (case h10=>exact Rk.U0 (by k_is) (by k_is) (by k_is) (by k_is))
  (case h11=>exact Rk.U0 (by k_is) (by k_is) (by k_is) (by k_is))
  (case h12=>exact Rk.U0 (by k_is) (by k_is) (by k_is) (by k_is))
  (case h13=>exact Rk.U0 (by k_is) (by k_is) (by k_is) (by k_is))
  (case h14=>exact Rk.U0 (by k_is) (by k_is) (by k_is) (by k_is))
  (case h15=>exact Rk.U0 (by k_is) (by k_is) (by k_is) (by k_is))
  (case h16=>exact Rk.U0 (by k_is) (by k_is) (by k_is) (by k_is))
  (case h17=>exact Rk.U0 (by k_is) (by k_is) (by k_is) (by k_is))
  (case h18=>exact Rk.U0 (by k_is) (by k_is) (by k_is) (by k_is))
  (case h19=>exact Rk.U0 (by k_is) (by k_is) (by k_is) (by k_is))
  (case h20=>exact Rk.U0 (by k_is) (by k_is) (by k_is) (by k_is))
  (case h21=>exact Rk.U0 (by k_is) (by k_is) (by k_is) (by k_is))
  (case h22=>exact Rk.U0 (by k_is) (by k_is) (by k_is) (by k_is))
  (case h23=>exact Rk.U0 (by k_is) (by k_is) (by k_is) (by k_is))
  (case h24=>exact Rk.U0 (by k_is) (by k_is) (by k_is) (by k_is))
  (case h25=>exact Rk.U0 (by k_is) (by k_is) (by k_is) (by k_is))
  (case h26=>exact Rk.U0 (by k_is) (by k_is) (by k_is) (by k_is))
  (case h27=>exact Rk.U0 (by k_is) (by k_is) (by k_is) (by k_is))
  (case h28=>exact Rk.U0 (by k_is) (by k_is) (by k_is) (by k_is))
  (case h29=>exact Rk.U0 (by k_is) (by k_is) (by k_is) (by k_is))
  (case h30=>exact Rk.U0 (by k_is) (by k_is) (by k_is) (by k_is))
  (case h31=>exact Rk.U0 (by k_is) (by k_is) (by k_is) (by k_is))
  (case h32=>exact Rk.U0 (by k_is) (by k_is) (by k_is) (by k_is))
  (case h33=>exact Rk.U0 (by k_is) (by k_is) (by k_is) (by k_is))
  (case h34=>exact Rk.U0 (by k_is) (by k_is) (by k_is) (by k_is))
  (case h35=>exact Rk.U0 (by k_is) (by k_is) (by k_is) (by k_is))
  (case h36=>exact Rk.U0 (by k_is) (by k_is) (by k_is) (by k_is))
  (case h37=>exact Rk.U0 (by k_is) (by k_is) (by k_is) (by k_is))
  (case a38=>k_is)
  (case l38=>k_is)
  (case c38=>k_is)
  (case k38=>k_is)
  (case a39=>k_is)
  (case l39=>k_is)
  (case c39=>k_is)
  (case k39=>k_is)
  (case i39=>k_is)
  (case a40=>k_is)
  (case l40=>k_is)
  (case c40=>k_is)
  (case k40=>k_is)
  (case i40=>k_is)
  (case a41=>k_is)
  (case l41=>k_is)
  (case c41=>k_is)
  (case k41=>k_is)
  (case i41=>k_is)
  (case a42=>k_is)
  (case l42=>k_is)
  (case c42=>k_is)
  (case k42=>k_is)
  (case i42=>k_is)
  (case a43=>k_is)
  (case l43=>k_is)
  (case c43=>k_is)
  (case k43=>k_is)
  (case i43=>k_is)
  (case a44=>k_is)
  (case l44=>k_is)
  (case c44=>k_is)
  (case k44=>k_is)
  (case i44=>k_is)
  (case a45=>k_is)
  (case l45=>k_is)
  (case c45=>k_is)
  (case k45=>k_is)
  (case i45=>k_is)
  (case a46=>k_is)
  (case l46=>k_is)
  (case c46=>k_is)
  (case k46=>k_is)
  (case i46=>k_is)
  (case a47=>k_is)
  (case l47=>k_is)
  (case c47=>k_is)
  (case k47=>k_is)
  (case i47=>k_is)
  (case a48=>k_is)
  (case l48=>k_is)
  (case c48=>k_is)
  (case k48=>k_is)
  (case i48=>k_is)
  (case a49=>k_is)
  (case l49=>k_is)
  (case c49=>k_is)
  (case k49=>k_is)
  (case i49=>k_is)
  (case a50=>k_is)
  (case l50=>k_is)
  (case c50=>k_is)
  (case k50=>k_is)
  (case i50=>k_is)
  (case a51=>k_is)
  (case l51=>k_is)
  (case c51=>k_is)
  (case k51=>k_is)
  (case i51=>k_is)
  (case a52=>k_is)
  (case l52=>k_is)
  (case c52=>k_is)
  (case k52=>k_is)
  (case i52=>k_is)
  (case a53=>k_is)
  (case l53=>k_is)
  (case c53=>k_is)
  (case k53=>k_is)
  (case i53=>k_is)
  (case a54=>k_is)
  (case l54=>k_is)
  (case c54=>k_is)
  (case k54=>k_is)
  (case i54=>k_is)
  (case z_bool=>k_is)
  (case z_enumerate=>k_is)
  (case z_int=>k_is)
  (case z_isinstance=>k_is)
  (case z_len=>k_is)
  (case z_list=>k_is)
  (case z_ord=>k_is)
  (case z_range=>k_is)
  (case z_reversed=>k_is)
  (case z_str=>k_is)
  (case z_tuple=>k_is)
  (case z_zip=>k_is)
  (case y_BASE=>k_is)
  (case y_MOST_NAMES=>k_is)
  (case y_MOST_NAME_SIGNS=>k_is)
  (case y_MOST_PARTS=>k_is)
  (case y_MOST_VALUES=>k_is)
  (case y_MOST_WORD_SIGNS=>k_is)
  (case y_NAME_SIGNS=>k_is)
  (case y_WORD_SIGNS=>k_is)
  (case kN_KINDS=>k_is)
  (case kL_KINDS=>k_is)
 case S=>exact λw H a ns hl hS=>Rk.Vx0 (by kernel_rfl) hS (Rk.Sa0 ns hl)
 case C=>exact λ_ _ _ _ z=>z
#print axioms PySem.Challenge.cw_graphpack_k28_whole_packs_there_and_back_holds
