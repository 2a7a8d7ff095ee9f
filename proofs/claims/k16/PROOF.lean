import PyProof.Rows.All
import Wide.All
import OpenK.AllK
import Wide.FinOn
import Lean
import PyProof.EqAt
import PyProof.EqKinds
import PyProof.TupleCall
import PyProof.NeKinds
import PyProof.Rows.SetFrom
import KE.KRevIter
import PyProof.ZipIter
import PyProof.TupleOfGen
import PyProof.Rows.ZipGen
import PyProof.EnumMake
import PyProof.EnumFor
import PyProof.ListRange
import PyProof.LayNew
import KE.KDictOf
import KE.KIntText
import KE.IntTextLaws
import PyProof.StrCalls2
import PyProof.Rows.StrNews2
import PyProof.StrLawsTight
import PyProof.ExcArgsOwn
import PyProof.ExcAttrAll.ValueError
import PyProof.IsInstanceT
import PyProof.RulesAs
import PyProof.Rows.Tup
import OpenK.KOwn
import PyProof.ExcInit
import OpenK.KCls
import OpenK.KMake
import PyProof.InstStoreFacts
import PyProof.FactsAll.object
import PyProof.IsiStr
import KE.KIsAll
import PyProof.ListMulRight
import PyProof.AttrMissHeap
import PyProof.RaisesMany
import PyProof.RulesTry
import PyProof.NsDelKeeps
import PyProof.Rows.FStr
import OpenK.KWalk
import PyProof.AutoListH
import PyProof.CallFns
import PyProof.Rows.SortStr
import KE.KDictSum
import PyProof.Draws
import PyProof.Rows.CallKwBuiltin
import PyProof.SumWalkG
import KE.KDictLaws
import PyProof.DictTruth
import PyProof.Rows.SortShellK
import PyProof.Rows.SortWalk
import KE.KDictList
import PySem.Challenge.RW_graphpack_k16_whole_alike_just_where_lea
set_option maxHeartbeats 0
set_option bootstrap.genMatcherCode false
set_option genSizeOf false
set_option compiler.postponeCompile true
set_option compiler.extract_closed false
set_option linter.all false
set_option linter.all false
open Lean in
def xi(s:List Char):Nat:=match s.map λc=>"abcdefghijklmnopqrstuvwxyzABCDEFGHIJKLMNOPQRSTUVWXYZ_0123456789'!?".toList.idxOf c with
|[a]=>a
|[a,b]=>53+a*66+b
|[a,b,c]=>3551+(a*66+b)*66+c
|_=>0
open Lean in
def xp(t:Array Syntax):Nat→Syntax→Syntax
|0,s=>s
|n+1,s=>s.rewriteBottomUp λs=>match s with
 |.node _ k a=>if k==``Lean.Parser.Term.quotedName then xp t n (t.getD (xi s[0][0].getAtomVal.toList.tail) s) else .node .none k a
 |.atom _ v=>.atom .none v
 |.ident _ r v p=>.ident .none r v p
 |s=>s
open Lean in
local macro_rules
|`(command|mutual $cs* end)=>do
 let l:=(cs.getD 0 default).raw[1]
 if l[1][0].getId != `T then Lean.Macro.throwUnsupported
 let t:=l[3][1][1].getSepArgs
 return mkNullNode ((cs.drop 1).map λc=>let c:=xp t 99 c.raw
  if c.getKind==``Lean.Parser.Command.universe then .node .none ``Lean.Parser.Command.end (List.toArray [mkAtom "end",if c[1][0].getId==`zz then mkNullNode else mkNullNode (List.toArray [c[1][0],mkNullNode])]) else c)
mutual
def T:=[some,true,none,(`h),.int,Addr,wpAny,by omega,.inr,pins,`Z Nat,(`ah),.inl,base,`Z Pt,`Z D,Shared,false,.lst,`Z Str,this,Value,Option.bind_some,.tup,cons_of,`kL `bH,.non,Inv X `j σ H s,`Z V,Web ps,World,X.env,Expr,Heap,decide,if_pos,`p->`cN,absurd,W.Frag,.str,s.heap.objs.size,ps.length,(`a!),sizeLine,.sh `cm,Around,(gv 0),if_neg,s.heap,Bool,List.length_map,List,Program,.ref,`Z `v,Nat×Nat,List.length_append,.nil,`v->`ef,FnOk,by decide,pure,`a o,(`t6 `bf X.w),List.map_cons,r.length,SortSt,(`t6 `fn w),`e i,(w6 0),l.prog,xs.length,0,.cons,FnScope,Web qs,(gv 1),`Z (`ad0),Txt mg,(`t6 P w),g δ,d::ds,fsc rfl rfl rfl rfl `go,X.xe,.none,s.toks,.sh `ok,List.mem_cons,Nat->Nat,Option,B₀,⟨_,rfl⟩,wd ps,(by intros;rfl),by decide +kernel,`a x,Int.toNat_natCast,List.not_mem_nil,or_false,`a u,(`eN),.dct,(w6 1),`J rfl,`kL `v,H₀,List.length_cons,D->Ds->`aK Ds,Met ps r,`a v,(i+1),`a d,(gN 0),`V `Q,b.size,(λds d h=>X3 h),items,by simp,(gc (`eA)),strOf,(gv 4),(gv 3),Nat.zero_add,.seq,X.prog,Rps K H B ds xs,_::_,(gv 2),qs.length,`Z Int,Nat->X,vs.length,`Z `f,lean,Array.length_toList,(x==`uj)=`r,List.map_map,.type,I.hok,b.toList,hint,a.size,`Z `bH,0,D->D->`cN,`a y,rest,Paired,.Name,A1 ?_,List.size_toArray,(k:Int),Keyed,List.map_append,(`cH),Vals,`m rfl,False,`aK Int,`x ds,(ha B δ),PD X e g,Str->`kM,decide_eq_true,.Call,A8.mp,A.in1,(gv 5),(w6 3),`bH->`bH->`X,decide_eq_false,ObjOk,mainGlobals,ds.length,(n+1),(`jQ),(w6 2),X.calm=`b,Ds->`cN,`a `r,l.length,(·.1),(`OM),leans,List.range,A0 ?_,(by rw[Z2 (`D_)];rfl),(w6 4),its.toArray,`aa `O,(k+1),δ[i]?,`eV H H',`Z `G,List.getElem?_map,List.length_take,.sh `wH,(`aN),Lv n v,`Z `AI,X.N[i]?=`aQ,.bl _,List.getD_eq_getElem?_getD,Env K H B σ δ,en.ex,cLine,X.mg,gA δ,`N _,.done,us.length,(gv 6),if_false,String,`Z α,h.elim,elem'_eq,Pw n p,`aa a,`Z Key,A7 e,B5.mp,eval,(n:Int),`aK D,Or.inl rfl,y.size,(gc (`e9)),"web",.sh `wu,wd qs,.sh (`j7),`N x,B7 _ rfl,"list",H b=`c,(·.2),outer,scope,l.map,q.to,`e `bG,List.length_zip,Int×Int,Sm st t,(gN 3),
D.int,.sh (`lM),Pn.hd,(w6 5),(by exact cok rfl rfl `go),`aK `f,B3.mp,qual,i.toNat,call,δ.set,(`nB H),H p=`c,`a r,λx hx=>?_,isTup,.sh (`id),List.range',Bw.zg0,0,T.b_tuple,b_tuple,W.nsIn,List.cons_append,PD X a ga,(λz=>nomatch z),`bs `cX,(`ap),I.list,CallR,`i rfl,caps,`s ds,`a (.nx δ'),(`ja),getElem?_pos,(z9 `bi v7),.sh (`lN),(`wD),(w6 6),(λcl s H ex=>R4),Scope,Bool.and_eq_true,`e _,A.handled=`c,`ae8=`pU::`A4,(`aB).bind,Rp K H B d v,`e_ hd,p.few,(1000:Nat)<=`R,.builtin,RelV,TrK.T,h.objs.size,cpos,.bool,s₁,elem',l1.length,List.getElem?_eq_getElem,(gN 2),p.vals,Pt.d,(`qW),[`lG],`bK xs us,`as<=`R,Gl X x,Ds->`ns,`a `c,PD X b gb,`Z (`c5),C.tr,`Z (`QO),(d7 K8 Q8 `kc Z7),`q->Prop,"tuple",v=`cH,`Z T,Value.ref,`x xs,`aK V,s.heap.get?,.bl b,`e j,I.tok _,compareOp,`C->`A7,EnvS,List.replicate,(j:Int),IsPair,D.tup,c.2.1,c.2.2.1,c.2.2.2.1,`e 1,(gN 5),FuncData,Bool.false_eq_true,HOk P w H h,CoeFun,`a k,Option.map_some,`es K `a_ `aL H σ δ,List.zip_cons_cons,`ag4 z TI TO i1 i2 l1 l2,`V `d,`bU he,A4 _,X.base,X.env.locals,starEach,I.tuple,"zip",(i:Int),z.length,Same,D4 _,h₁,ks.length,`Z V9,A9.mp,"dict",(`h3),(`ce),p1.isList,kindOf,ia+1,(`g2),Array.getElem?_toList,`e `eT,`e 0,(`lK),.ow `wy,(by rw[`Y];omega),.sh (`j0),List.append_nil,True,`Z Env,Vis `AW x,x=`cH,List.length_drop,`a `b,SortKind,(ye0 hr),.ret,(`aa f),`bs `eg,prog,bootBuiltins,`a c,hs.2,{ s with heap:=h' },s.heap.push,s1.heap.objs.size,scope.names,⟨rfl,rfl⟩,(`aeE),(`afz),List.map_nil,List.mem_singleton.mp,List.mem_singleton,Obj.mapSeq,"_law_k",List.append_assoc,.sh `wT,D×D,(`ro),a∈r,(v5 `b4 v8),(z90 `md),List.nil_append,`Z (`AO),λb hb=>?_,(x==("__classdict__" : Str))=`r,if_true,D->`X,Ds->`nr,Ds->`uV,x∈`bu,A3 (E3 ?_),(`g0),Ro b κ st o t,(d9 (gc `p!)),Stmt,Bool.eq_iff_iff,es.size,I.loc,`dV v u,`s xs,K.lookup,I.kIn,List.getElem?_append_left,(`bE),`Bs `aV,h'.objs.size,r.mono,`Z (`eZ),n.toNat,kv.1,get_set,by rw[m7],(`agB),rawInt,p2.isList,I.laid,`Z (Key×V),`h5 st,pendingOf,ib+1,`N "at",`s (`jg `e),
List.length_nil,(by show 2<=`R;omega),pN p,(`aP),.sh (`e8),s.1.length,.sh (`gk),`bZ `du,k _ _ `i8 e,`dV y u,(I.ok.hd hc),`dx hq,(`N4).any `b9=`r,(`Cc).any `b9=`r,A3 `P!,List.getElem_map,Mg.move,[`cR, "k"],`L h `go,St ps r g,`kN a,`x l,Sum.inl,.frz,X.fs,Hp->Prop,backTo,assign,`uc=`aj,2 ^ 62,`dV x u,A1 h,HT.sIx,vs.toArray,.bl `b,codeAny,.func,items.length,rv.length,xs=[`ja],cmp x y=`b,"int",λc t hI=>?_,(`Do++`Qh),nb - 1,`pZ "__next__",m.length,m_values,(gc (`e 8)),someO,.sh D',(i,j),λz=>?_,(`cl),(`rm),r.map,(j+1),.sh `Fr,`a `wh,(`alu),(O9 v8),T.b_len,`kM->`ef,is_tup,I.ok.kind,I.free,X.N.Nodup,(`Bb),(M9 I q `Q),args,λy hy=>?_,pl.isList,Gr H H' B B',`OJ (`cO),`OJ (`jn),(hb B δ),hq.to,z30 r,k::ks,`V e,v::vs,`CL l1 xs,`CL l2 ys,(`qL),(λds d h=>yl0 h),h'.get?,s.TypeIs,H' b,(a==`pz)=`r,`a `pE,.free,`ND x=`fp,`pH=`aj,X.stack,Heap.SameBut,(`cJ),St->`gK,`a `hJ,body,(`A?),"enumerate",{ s with heap:=h',toks:=tk },[a,b],Room,(`uo),0<=i,.sh d,`a b,s1.trans,(Gr.own hb),Value.type,`aa z,C3 ?_,arrOf,`jN x,es1.size,h₁.objs.size,`jJ `cZ,(o2 `U `a? ixD),(z9 `U v7),"one","other",.sh (`wx),.sh `lO,`e x,(0:Int),0,x/32%8,.sh p.d,`dk v,Res.nx,cm s,.sh `EU,`s (`xd),0,(lnk 0),∃b,`l7/\`rC,k::r,F.length,0,ix L k F,zn0.nd,`Z `fX,t::l,List.all_eq_true,`Z `dW,`s _,I.bare,`m q,`dV x v,∀x,foldedSetIterable `k4 `F x=`ai x,by simp at h,`a `p!,PDA X `hX gA,`J h,`aW _ _,.fn _ _,`agb=`pU::`js,`db hx,`e_ hx,`J e,`kR<`R,not_or,`ev `W TI `PB `PC,`PD i1 l1 k1,`PD i2 l2 k2,Array.toList_push,p::ps,IsEnum,List.getElem_zip,`bw - 1,tgs vs,tgs `d4,Option.map,`Z (`fF),`fz he,fk L F r,"met",`gF=`aj,A.units,`ej a,.fields,(`bL),`em a,xs[i]?=`aQ,binaryOp,(g i j),`aa p,False.elim,(m:Int),ys.length,its.toArray.size,[`cH],ns.map,(E5 _),f2 b hb,ga δ,(a:Int),`s vs,List.getElem?_eq_none,`OJ rfl,en.same,`jo s1,(Z5 hp),`m z,`eQ [] `F,R9 kvs k,putK,X.A.units,(`k7),e.bad,λa z=>?_,[`agB],es.length,D1.mp,(`afX),(`aa e),hend,List.length_singleton,Value.none,`X->`ef,e3.extBut,ps.map,putAll,E7.mp,v₁::v₂::r,out.push,
(by simpa using e),(`n_),`h5 t,(`eT+1),(z9 `ax v7),(gN 6),(gc `A),(gv 7),"pair",(z9 `bc v7),(gc (`n5)),"_law_some",[p.d],`s (nm.map `N),`e `eu,.sh (`q0),Pn.put,.sh (`q'),adj x,.sh W,`s `rb,j∈r,.sh (`Ew),pa ps i,v::z,([p0],[`c]),[(`e9)],(`ox).length,(o6 `aq p8),(v5 `aX v8),U4.nd,`kL (`kM),Nat->`t4,`bK xs its,`Z (`ad7),(upd H a o),Loc `AW x,`NJ∨`aex,Inv X `j σ H' s',CmpOp,PE X a ta,SqT K H a xs,λ_ _ _=>`bM,vals1 r,V->`er,(apos.endLine==cpos.line)=`b,trivial,`AW=sc,(`cw).bind,(by simpa using h),`O1 κ,`Z κ,env.at hi,`hF `e1 `eS,i<`P,List.pairwise_append,Pi ps qs p0 s,show `akr=v from rfl,(`Fy),PWD.pt,"drawn",(m9 xh0),"value_at",Array,`aK `v,h.get?,o.data,`aG+1,(`ek),kvs.length,`kR<=`R,KV kvs vs,.own,x ≠`AV,`a .local,I.cell,I.freeC,List.getElem?_set_ne,assignEach,`ai `c,Turn,SqL K H a xs,hf b hb,iter,.function,W.fnOf,`aa b,items.size,(`aa t),`N z,apos,(o5 st),W.keepIn,(`afD elt [⟨tg,`k4,ifs,0⟩] `c0 pos),(`hZ),gb δ,RpL K H B d a,e.all,t σ H Q,PSsD,C9.mp,owL i δ,(L6 ..),`aa d,True.intro,en.b0,`bo d n=`b,tree,"reversed",H b=`a (`x (k.map kV)),putAt,e1.extBut,failedOf,(`gg),PairAt,rule,`gh t,out.toList,c.1=`c,s.heap.update,"sorted",(`wb),(o2 `U `cQ ixD),(V6 v7),"part",(oA `h! Y6),"_law_script",(gc (`DR)),n8 ?_,`e c,`e t,`e `cM,(`j1),0<=k,x%10,(lkv f),λ_=>rfl,`i ks,P.vals.zip `wW,D.bl,A.map,w.length,.sh (`os),(`lY),h.len,.top,(p,q),sub_len,D1.mpr,"_law_one",lnk j,Lv m w,b∈F,(`Fg),(z9 `U `jS),ks.map,(`E9),(`fE),(`rj),T.b_isinstance,[`wi],hr.units,(w6 7),"_law_number",T.b_range,(v5 `bX v8),[`wr],(`cV),`i x,`bZ h,`Z (`cI×V),by simpa using hb,.Constant,(ha `j s σ H _ I h),PE X e te,`V C5,slice,List.forIn_cons,List.lookup_cons,(`BL),h₂,`a [],`b1<=`R,`a `BT,r1.same s2,λ_ _=>rfl,L2.PI.imp,Decidable,by assumption,{ s with toks:=`aG+knd.draws k },p.1=k,Heap.size_push,⟨_,hz,rfl⟩,(P7 _),`P7=κ,λv hv=>?_,`pw out ia ib,L.mg,`pw out na nb,Option.bind,D.str,mul_r _ _ `d,`bm=`Eh,gl1 `w2,gl1 v,x::F,fk L [] r,`t7=`fm,xs.map,K.In,X.ex,X.s₀.heap.objs.size,I.pin,
`pC=`aj,{ s with heap:=h',toks:=t' },I.len,holding,.BoolOp,.bl `r,(`f1),`m h,D.nx,Inv X `j σ' H' s',I1.hok.fresh,-(`gO),s'.heap,.BinOp,ps.zip,(`N8),(ha pos `j s σ H _ I h),getItem,ht.typeIs,typeLookup,its.length,"len",(`p1),attributeBase,.Attribute,V.int,ForInStep.yield,(`aa D),`aK `X,`aK (`p),gt δ,δ[j]?,(`afO),`a ds,¬B a,B' a,`m ks,e.own,Same.refl,`a (.rf d),(frz δ),g `nD,`Z (V×V),en.fr,EnvV.mk',r2.length,pos2,Rps.snoc,J.extBut,xs.size,hc.1,e2.extBut,g5.objs.size,`g `ao A (`Ba `e1) Q E s,(upd H `O `vO),hbase,hline,h.pm,`gh st,(`h6),(`gi),by rw[`Qk];have:=L.n;omega,(by simpa using e2),na - 1,`a z,`h5 t3,(`ly).size,`jJ `b9,"_law_cell",`e 2,(gc (`wn)),[`D3],`e k,`e z,.sh (`e c'),.sh (`wz),(`y rfl rfl),`x `ajO,rel f p,h.lv,r.idxOf,`bU h,0,ok d,j.toNat,`x [v,w],`c' p,(`cT),(p.1:Int),(p.2:Int),`wX pN,`aW (`i r.1) r.2,.sh v,(t:Int),.sh (`lL),nI k,Rch ps qs p0 x,m.lt,.sh (`e9),"_law_other",fs r g,F.map,(o6 `b4 p8),"order","_law_many",(v5 `cc v8),bindArgs,"law",typeLookup_type,builtinLookup_eq_fast,`m i,`Z (`dW×V),α->β->Prop,`Z β,Unit->`ef,`A5=`c,PE X b tb,`eR hq,`pO `aV (`pP),A0 `f5,V->`bN->`bN->`A7,y=`k7,`J h1,`Z (Str×`f),`a (.ct δ'),`a (.bk δ'),`Z `X,`aB=`a5,RpO K H B d a,`J hl,∀a,`qf->B a,∀a,B a->`qf∨`a_ a=`c,PID X tg `k4 gi,gx δ,`e b,xw0 e,`jv+1<`cu,`f? h1,`f? h2,λj=>`agG,hs.extBut,H0.mp,Cn P w A E s b κ cmp,(λx c t _ hx hI=>?_),List.take_succ,.table ps,decide_eq_true_eq,(ob (o2 `lE `QS eqD)),(ob (o2 `lE `QU eqD)),[`cR, "p", "q"],Nat->`k,p.1<`P,P.vals.length,zb0 l1 l2,Pn.y70 _,(`Fb),y40 c,z50 c,yh0 c,yt0 c,Nat->Y,vb0 _ ha hb,(yk0 _).mono `d,`H->Prop,(`AJ),done,xs.drop,`a `kQ,sysModules,q.2.1,"range",`hE b,`fo x,.cell,(`a3),`a `pF,`em b,b≠`eP,(`bD x pos),.Subscript,I.list_inj,B0 _ e,λb o e=>`pM,I1.fpOk,`m? `aV,(`NX).toNat,again,2 ^ 64,.bl k,(`r,`aeD),scope.names.lookup,List.getElem?_append_right,W.codeIn,(`bT (`bD x p) `hX [] pos),Str.ofString,s3.heap.objs.size,`eU<=`R,`aa l,(`uE),ns.length,s₁.heap,(`aft),caps.length,σ[j]?,
(X4 X `c0 cl N' s H ex),z.symm,DL.Ds,(`m7),(`bO),f d δ,Gr.less,NB (H a),`a `bJ,by rw[j9],`aL a,`NE=`afU,`f8 g,(·++·),cutD,`a q,`m e,`aK `G,z.elim,B2 h1,`cL `gb `F,s1.free,(`aa C),`bK vs us,`em c=`aj,c≠z,M.extBut,ys.size,as.map `ej,(`x `vF),.Tuple,[z,TI,TO,i1,i2],ws.length,x.length,ps.drop,(λ_ _ q=>`Bq),vs.map,StateT,ia+k,a.toList.drop,by have:=Q5 e;omega,a[ia],λi hi=>?_,y[ib],C.to,a[`n_],y[`g2],m1.length,seqObj,srt ps,.rcd,(o2 `bi `cQ ixD),(z9 `bb v7),gN 4,[`Rb],`N s,.ow (`ajB),w.take a,`e m,nm.getD,x%8<4,`x `lD,Vk v m,`s (cs.map `e),.sh (`q5),`j3 p vs,v=`A,`bm<=12,`e `RE,(`Ei),ded S,nd r,(`ra),(k2 p),pN `g9,(`ahb),[a,b,c,`hZ,.sh (`oi)],Pn.rg0,Pn.xi0,Pn.rd0,`s `wZ,(T:Int),`P*T,.sh (pN q),e.symm,zp ps qs q,j4 hp h1,prt ps qs v,E6.mpr,(ze0 7 8),h.few,¬`rq,one x hx,0,[`aN,nI p,nI q],`a `A,dr ps r,(`rz),(A6 _ ha),L b=L k,(Lg ps g),.sh `Fn,(`Fs),.sh (`Fz),(v5 `aq v8),C_values,"numbers",(o6 `bX p8),"_law_pool_here",(U9 `hg `rH),T7.nd,(d8 C__law_cell_at hr `l (v5 `aq `xz)),(top 50),vs=[],(a++b),`i5<`cu,r'.length,r.get,Bool.not_true,forIn,`Z (κ×`v),`aK HO,`V h,X.outer,s.gens,List.filterMap_cons,λp hp=>?_,spliced,`NL op b=`r,`a `ul,(he `j s σ H _ I h),V->`A7,Inv X `j σ H `fr,(ho `j s σ H _ I h),hf it `Q,p.isList,(by simpa using hu),Call_,`aeR=[`N_,`aeS],`N1=[`aeS],E6.mp,(∀b∈fp,`ur),`v->`N2,`L (show `r=`b from hs) C5,.NotIn,OpR X (`eq op) r,x::xs,`i `fv,ws.toArray,`V `l,`J `l,`a j,value,n<=`R,`av N ps `k?,`AM<`cu,`bU hx,λ_ _ h'=>h'.elim,CompOk sc `c0 X.N N' n `dA,(`aB).map,t=`b,[`dB],`aW ks ds,(`afT),(`jp).bad,λj hj=>?_,⟨_,en,e2,λvs H' s' r=>?_⟩,List.drop_eq_getElem_cons,PDF X e g,∀cl s H ex,PGD `p8 tg idx f,∀cl s H ex,PFD `p8 ifs gt,∀cl s H ex,PD `p8 elt ge,i<`b1,"isinstance",`li h,(.Dict [] [] pos),`hW m X.A,T9 ks q,`b1=n,`agm `fn w K,q.1=k,KT H kvs xs,H a=`Oi,`kZ n1,by unfold deq;simp,Bool.true_xor,U0 0 n,Nat->D,(z9 g v7),IsZ `W z TI TO a f,`f7=`Bk,List.forIn_nil,st.hTI,N4.mpr,by rw[`ad,`jF];omega,`Z (`PM),a::as,`dx O,`dx M,λh=>`Bb,Gl X `eS,
`cv `eS=`c,(`qz elts x1 tpos),List.foldl_cons,`ev `W TO a b,e5.extBut,`nr->`vP,out++`vY ia `Dl,`db hy,Lo b cmp a y n out ia ib,A2 ⟨hs,rfl,L2⟩,Q2 `d,A3 (Q1 (D2 `Ql)),(1+x),(1+x+(x'+1)),n - 1,Hi b cmp a y n out na nb,(vtr C),(`h5 s),cmp v u,`J `d,A2 ⟨rfl,S4⟩,`bS h,List.range'_succ,xo0 ts vs t,.text w,.row vs,nameS.cps.toList,(d9 `jU),vh0 hj,j7 rfl `dH,L8 _ `d,G5 `d `d `A,V3 `ajJ `gm,r.Nodup,g2 δ,yp0 `cm i,`oc v hv,List.take_length,`L hb.1 `Q,`L hb.2 `Q,⟨`g',`g'⟩,`J `e?,`a (.rt r),0<T/\T<=7,wr0 _,`aK (`AI×Nat),x∈s.1,Wy s q w,pS ps qs P s n `g? `lZ (`Sb),s.1[n]?=`qk,.sh (`Sy),q.vals,R a b,A ps qs a b,b∈r,`li e',(`SY),(top 9),M5.nd,Nat->Prop,"function",model,o.cls,`hE a,by simpa using h1,2 ^ 63,SeqAt.EqAt,decide_eq_true_iff,beq_iff_eq,Sum.inr,`kN b,b≠e,sc.names.lookup,`a p.2,λ_ _ q=>q,(`NI i `pF),AllBare,("__debug__" : Str),its.size,(`en),ok.kind,`ai `r,e::es,h.IsListIter,I1.kept,`hG=`c,(b,o),{ s with toks:=`kP },sp vs H Q E,A.deeper,`Bj `dc `c0 `O f cd,(`bs T),IsPart,IsTup,(1:Int),`gR `as 0 lo,xs[j]?,atI xs i,`s ys,sliceBounds,(`Og),(`Oh),(`aa fa),(`Bx),callerA,(`jg `no),.call,(`aft).In,(W0 st),`f2 f,cl.lookup,NameKind.cell,`s [],T.obj,(`afH).names.lookup x,`aK Res,gi δ,bools,by simpa using hj,G1 δ,H a=`aj,ks.zip,(`BY),Rp K H B d x,l[i]?,`bC F l m,(by simpa using hl),∀a,B a->`qc,(`qe),`h0 s2,r1.length,env.same,items.drop,(`af3),G `B',`a (.rt d),f ds=`a5,hf ds d h,.ow d,s70 i δ,knd.is,entryOfKey,q::qs,`Cn xs k,dd.typeIs,(`df i (`ve)),Pd.imp,en.frz,Gr.fresh,(`qp),deq d e,(`dv),`kL GenState,(`u8),Nat.min_self,(rx.same s1),field,A0 (`h4),`ev h' `O x y,(∀c o,`qu->`PH->`ag6),min `nM `qw,as.length,Around.under_plainId,(wm0 H l),V.ref,[x,y],I.turnedL,(`PK),I1.list,t1.length,(s1.mono g2).to,`a `uG,(`bs `e0),.ellipsis,(`Pd),`an->Prop,`lw h v q,(by rfl),pk `W y.1,pk `W x.1,le2 a b=`b,pos i,__s.snd.fst,`aK Nat,a.extract,`qI ia,r.toList,List.take_of_length_le,l1++l2,(`ah_ hk),this.2.1,X.size,(j - 1),hr.mem,(mirror `b3 o (o+n) ((o+n - o)/2)),(`h5 t2),
c=`aib,m.getD i 0,Array.getElem?_eq_getElem,R9 kvs t,toT d,`jJ pr,isWord,J.toArray,`ba l,`N "table",(S7 `b),(`gT),"both",(o2 `bc `a? ixD),(o2 `bi `a? ixD),(z9 `DP v7),"value",`e 3,(gN 9),(gc (`DS)),(gN 7),"_law_part_here",(gc (`gj)),(by have:`Rd<=`R:=h;simpa using `u),(`jl),`x (`D5 pr),isName,`N R0,(`uS),`N (`ba w),w.drop (a+1),`e `jk,.sh (`wB),n8 (Z4 ?_),[`dl,`j2,.sh (`e (`lQ))],[`dl,`cS,`fa,`Rn,.un,.un],A9.mpr,(`c3),`bG%l,λ_=>`h,`jJ `d5,xs++[x],List.length,`N c,A6 _ hb,(`ajW),(`j4),λe he=>?_,`x [`gj,`e8],(`gn),`c' P,`c' R,R.vals,L.map,(`P:Int),(`on),vs.zip ws,.sh (`s ws),`m hb,(v,w),qs.map,(`bj:Int),qs[k].vals,qs[k].vals.length,`w3 `d5,t%(M:Int),`e `rk,ps[k],.ow (`s (`EO)),.sh (`R3),.sh (`w9),s.1.map,`a (q,k),w.map nI,(`xb k2),s.2.length,j4 hq h2,exs q k z s,`od j,r.take,s.1[i]?,stp ps v k,`s `SD,L a=L b,`ou a ha,(`ox),gD r g,(`E5),`xp[i],.sh (`im),wd `he,q1.length,C_head,"groups","_law_turn",(v5 p8 v8),zh0.nd,(`k6 x x `Oq `uO `k? `aF kV doc pm an cdv ct),(`gG),(`t9),(`ad3),(`fm),`m k,`au _ t,H b=`aU,v=`ap,xs=[],∀b xs,H b=`py->`hG=`py,o.ExactDict,`kO=`AR es ep,by rw[`aei];exact q,b∉ex,`a ob,base.Ns `b0 mg,X.base.get? b=`aj,frs `hM,b∉ch,Model,`X->`gK,(`NM a [op] [b] pos),PT X a tA,(.Return `NR pos),I.kept,x=`ap,pyIter,A1 hQ,⟨_,`cW,rfl,rfl⟩,(`i! .Add),V.str,`hW k A,(`nd us),PA X `hX t,bindL,bindC,List.getElem?_replicate,(by simpa using hw),`a i,List.length_set,k.toNat,(`dU `nk),(by simp only[`bF]<;>omega),(`dz),"str",List.reverse_cons,H l=`Od,H `O=`c,IntsAre vs ns,`p3<=n,tn0 `p4 H,`kL `BC,`la K `fl=`b,s2.heap.objs.size,(`eW),Nat.add_sub_cancel_left,by subst M;rfl,gt δ',(`uY),D.lst,`cw=`nw,∀a,`ny->B a,by simpa using e1,Pd.set,k _ H `dg (`B4),(o2 ga gb f),Op2 X.K r f,PTD X a gt,PD X `pY `B6,⟨v,e,`qh⟩,"all",y::ys,λ_ _ _ _=>`qe,`pz<`O,Y1.mpr (B9 (B1 hb)),Nat->`X,`O1 K,`fz hx,List.nodup_append,(`ll),xv0 e,(te0 `bt eb),`dV v r,`agt<=`R,by have:=y90 kvs k v;omega,(x,y),d5 hl,⟨_,rfl,h⟩,s1 _ _ hx,λq hq=>?_,`lp d=`b,(∀b o,`CG),List.length_reverse,
T9 pr.1 q,`i9=`a oa,`CM=`aQ,ys[k2]?=`bA,`CN i1 l1 (k1+1),`CN i2 l2 (k2+1),Z.extBut,`CM=`c∨`PG,st.h1,st.h2,A0 (D2 ?_),h1.objs.size,i<`jA,ps[i],(`ahL),L4 `d `d,`bv+1,`J hge,`V hge,S.mono,E1 _ hx,List.take_append_drop,(`dj),(`e5),`v0 `Q,l2.length,`h6++(`Dn k `e6).reverse,`dE a `jP `d,`dE y `e6 `d,o.length,Nat.add_zero,(`jQ).size,show o+j - 1=o+`v5 by omega,(l+r)/2,`Z (`Qt),`Z (`bx),r::rs,List.flatten_cons,h.2.1,(d==`pz)=`r,(`cK hj).1,`a (`QG),[e,z,TI,TO,i1,i2],kyP ks,by simp[kyP] at h,(`we),(N7 3 `lF),h d A5,u90 _ _,y70 _,Pool nm,(yb0 `n? `d `d),x/16%4,L9 _ `d,(by show 1<=`R;omega),Dfs adj S c o T r,adj i,`x [_,`eo],g1 δ,Z2 `vR,T3 `vR,(by rw[y00];omega),.sh (`Eu),(st `lc),Dc L d,D->`RP,`ii=`b/\`Ev=`b,okv L v w,Z2 ht,[`S,`aH,`fE,`hZ,.un],(n8 rfl),[`aN],`oj=`c' q,[`S,`aH,`fE,`e!,`EE,`akb,.un],(s4 _),(λr:D×Ds=>`ij r.2),D.non,s.2.map cD,s.1++[x],(`akk),Lv `P v,v∈`ro,q∈s.1,Run ps qs n s s' r,(`St).2,(`E8),j<`am,(`m `bG),i∈r,z20 `rb,`E? `wR,Pg ps qs p0 n k s,`SD[k]?,a<`P,(`ip),fk M [] r,(Ua.Met.len hp m).2,A ps qs 0 0,.sh (`alb),(lS ps r n),by rw[wk0];omega,(`Fx),FnN P w K mg `n `FF 1 `d7 `g5,(top 6),(v5 `aq `kd),[`cR, "way", "k"],(top 29),(X7 `aq p8),(X7 `FP p8),[`wr, `TB],C__law_vals,(`ac),`bs `t5,⟨hh,gg,dd,tt,oo⟩,`e i t,`i5+1,Nat.add_assoc,κ×V,(V2 P w),p.1=q.1,.dict,TrK.dep,F a b,k b u q,"__name__",X.env.scope,X.pn++`j,I.base.free,λ_ _ _ q=>q,X.env.scope.names.lookup,λb o e n hb hx=>?_,I.ok.above,Q v H',isTrue,`eQ es `F,`cv x,pos.line,Hp->VK->Prop,`cL o `F,setItem,.Assign,v50 X `j H b,`aa it,pyNext,by simp;omega,s.heap.IsTuple,s1.toks,((0:Nat):Int),(`AL),r x y H Q,I1.laid,Binds,envOfC,`O+1,(start N vs),(`dU id),sIx `k8 0 lo,(`aa sl),Builtin.Tuple.tupleExact,B0 _ q,q90 xs lo hi,I.hok.fresh,(xs++ys),H l=`c,(.dT kvs),(`A8),`dZ `b,`a `uI,s₁.heap.get?,BindsTo,⟨`jf,[]⟩,DictEntry,Value.bool,`pX K cdv `dc=`b,`pV y,env.cells.lookup,(n,k),(A6 _ hx),`aeo x,.next,λ_ _=>`bM,target,`C->`gK,{ cls:=`dv,data:=`be ([]:`ab).toArray },X.env.scope.kind,X.env.kindOf x,
`bD y py,`ai `b,(`dB),`a δ',ge δ',G δ1,W5 f G `a' δ,`u0 xs,SqL' K H B a xs,`eY=`as,r.same,(SlR K H B),`a (`OF),Pd.get,by rw[X8],k H' s,(oA gA f),λi H2 g2 hi=>?_,Gr.same,(Y0 n `dA gi f gt ge),(Z9 N ds),`a (.nx δ),u=`i6,`bD Tn p2,rr.length,`gL pos (`js),yv0 d,`f9×`p,`hN d `W h',dictSet,knd.keeps,e.trans,`f!=k,valueAt,`ago e,λz=>e (`agp z),atKey,(`jt),[e,f],([]:`afq).length,(if ([]:`afq).isEmpty then 0 else 1),`a (`ve),λa z=>z.1,`u' s1,en.mut,(`pK `gb e pos),(`aeD),`b! ds n=`b,Rp X.K H B d x,Z.length,k _ H `dg `u7,(Z5 hl),ds.zip es,(`aa I),(d3 _ _ (B9 hb)).trans,`hL->`m2,(V4 pr.1 pr.2 q d),(`Cu).mut,r1.append,`ag3 `e1,s.heap.IsList,xs[k1]?,h'.IsListIter,c≠i1,c≠i2,`dZ `r,Builtin.SmallTypes.nextOf,D.i1z,D.l1z,D.i2z,D.l2z,D.l2i1,"StopIteration",⟨o,ho,hc⟩,`afF b=`aj,Prod.fst,B2 `u,(`ahj),(t,HO.tup `C1)::z00 as (us.zip ws),D.TIz,ws[i],V2 `bf X.w,D.TOz,(`C5),`fz hb,z60 a,[`a ke],"setdefault",x≠y,cmp y x,(tuples' f),pairsOf vs,(A6 _ hu),pk h v,`vV=`b,__s.snd.snd,`bv+lo,b.extract,minGallop,modify,(`qH),λx y=>`gZ,y.extract,a.toList,y.toList.drop,Q5 e2,Md cmp `g1 `v_,(1+x+x'),C.ask,(vm cmp),rt a na,L0++la,l2.getLast x2,sa+`d1,setArr,`v4 - 1,⟨`h,`h⟩,x.2.1,(pk `W),λ_=>#[],e.key,`bs `hT,h'.push,(gc (`wf)),`N "record",(gc `wh),(gc (`agc)),ze0 4 5,(z9 (`aiG) v7),(z9 (`aiH) v7),(gv 8),(z9 `cA v7),`e 4,`e 2147483647,`e 48271,`e 7,`e 60,(z9 `U `dF),(oA `jS Y6),(O1 (z9 `DX v7)),(gN 8),by kernel_rfl,T3 (`D_),Pt.table,Pt.rcd,.sh `aju,`x `QP,(`Re).map,(`ajz).length,pl.map,m4.mpr,cg ((p+4*`eu)%36),λk=>`ba (F k),2 ^ 40,s.cps.toList,[32,48],.sh (`e st),(`q3),(`bm:Int),cs.length,(`wK),(`wL).length,p.vals.length,o++[x],x∉S,(A6 _ hy),(`oa),(`RD j).map `lR,lkv f v,T.length,ms W k l U o T `wQ,(kd (U++o)),(`m `RE),.ow (`s (`RG)),(yp0 `cm),`aW (`m (kd (`q?))) (`RJ),`dk w,`x [`wS,`oa],pa ps p.1,pa qs p.2,up ps qs L p,vs[i],(`w_).take,gl (`EB i),P.vals,.sh (`s `ED),(`a `cM),(`s `w5),`j3 qs[k] `akf,Nat.one_mul,`e (M:Int),`a `cm,λj=>j/T,z*48271%2147483647,j*T+r,Ps.map `d5,
`j3 `w' us,.ow (`s us),.sh (`e z'),Pw (`rl) p,(`R4),(`ik),bk.map nI,`xb pN,w++[k],`s (`EW),h.inr,Y5 `Si,N9.mp,⟨h1,h2⟩,`x [`ik,`im],SoT.srt,[`S,`Sp,`Sq,.sh `akx],`ha f,(f i),(`ou i hi),λj=>j,`xj j,(`j').d,Pn.nb,Pn.zr0,h.imp,pa ps a,F++[k],(`Fc),map_inj,(`akO),ls ps r g,(g a),"pairs",(gc (`e 6)),(t k),`oy L,(kd ks),(L k),(`w1),(kd r),(`RL),(`xq),kd (`oy g),(nd F),(`S3),.sh u,`P+j,λj=>`Fw,bsd ps qs,wd q1,`aW (`lT) vs,[`jW],"pair_names",T.b_list,"some","values","relinked","paired_walk","are_links","head","linked_pair",(v5 (o6 `aq `oz) v8),(v5 (o6 `aX `oz) v8),(w6 8),"listed",(R3 `aq p8),"_law_value","_law_mix",[`n4, `fC],"_law_vals","_law_with",[`wr, `jZ],"_law_web_here","_law_cell_at",[`lI, `fC],"_law_head",E4 X9 G9 a9,F9.kp,F9.binds,(h.trans hl),(`bR)->`pu,`E->`pu,y.cls=`AJ,(`t6 P W),Fin->`ef,Iss h l vs,j<`b8,`i5+n<`cu,(i==j),(`N x t),`au r ih,xs.take n,o.dict=`c,H a=`py,TrHs H l xs,TrH.mono,`i7 vs,es.toList,`Z (`aea),`a (`kU a),h1.get?,Paired.mapP,H a=`c,∀b u,`NA,Un.kept,b∉`gJ,`NE=`pG,I.ok.bs b o e,`O<=a,`kX x c e,s.heap.FunFrames,λx c e=>?_,(M b o e hx),I.base.there b o e hx,`m1 p hp,I.step,s.drawn,λ_ _ e=>e,I.base,N.Nodup,λ_ _ x=>x,c=`b,(`m6 .And (`NN) pos),(`m6 .And `aeH pos),Operator,standAt pos,`m5 `aeM (`A9 ov iv v),release `aeM [],PassesOwn `ak X.A `F `aE,`gN->`m2,r=`c,It->`gK,(∃xs,SqL K H1 a xs),Gl X `pB,`cv `pB=`c,`eQ [a] `F=[`N_],by simpa using q,PA X `hV ta,(hi `j s σ H _ I h),r xs H Q,Int->Int->V,(tOp r ta tb),0<j/\`aeV,PA X es t,∀vs H Q E,`uu->`bm=`P,(vs++dvs),⟨us,[]⟩,r.append,sc.names,Str->`aK `ae9,((p,w)::`N7),N.length,λ_=>`c,i<`bm,`f4 `ne,ps.Nodup,⟨_,ho,rfl⟩,if v<0 then (v+`cM).toNat else min v.toNat n,((`afc:Nat):Int),s.heap.IsSliceOf sl vl vu `aF,`uy vl lo,`uy vu hi,λb ob q=>`Bq,`as+`jd<=`R,`V h1,i<`as,subscripted,(`pK a b pos),Y2 `d,`jd<=`R,`aa `f7,hplain,xs.dropLast,xs.reverse,x=`p1,l.most=`a n,List.Pairwise.nil,`a (`gI o `m8),(λv _=>v=`gT),`BD `b,h.Ns `b0 mg,`k6 x `dc `Oq `uO `k? `aF kV doc pm an cdv ct,`i h,pure_bind,
by rw[← hs3],(`pM),⟨?_,?_⟩,Loc `AW y,X.fn y=`b∨`A_ y=`kW,`x _,(`nt).bind,`a `p?,(`df i `lc),`p->`ns,λr=>y::r,`gW<=`R,Ds->`aK (`bN),.bl (bs.all id),`N b,v9 G1 G2 δ,(`aC),g _ _ n h,by unfold Rp at h ⊢;exact h,by unfold Rp;rfl,by conv=>lhs;unfold Rp,`aW (`nz) ds,by rw[m7] at h;subst h;simp[m7],s _ _ e,`B0 s,`e n,`u3=`a a,δ.length,`NK hl,`jm `u5,∀v H',`ch->`afW->`A2,(`u6),Rp K H B dx x,∀σ H Q,t' σ H Q->`lg,⟨x,en,e1,λv1 H1 s1 r1=>⟨y,`jp,e2,λv2 H2 s2 r2=>?_⟩⟩,PTD X c gt,PDA X es gA,Rps K H B ds vs,⟨ds,en,e1,λvs H1 s1 r1=>?_⟩,`eV `a_ H,PGD X tg idx f,t70 (i:=i) hN hi hx hf,vy0 (h1 `a_ `aL δ) ug0 `j s σ H D I ⟨_,en,e1,k⟩,i<`gW,PDA X `hV gA,`u! `a4,∀(cdv:`v) (A:`T) (outer:`Z PySem.Env) (s:`q) (H:Hp) (E:XK),`hW k (`uv (`Bj `dc `k? `O fa cdv))->`lh (u30 CX0 P w K mg `n N `dc `k? fa cdv A `c_ s H E).nox `uO G,F.ok S (λvs H Q E ⟨B,ds,d,_,r,h,_⟩=>?_) (λcdv A outer s H vs Q E hr ⟨B,ds,d,hb,r,h,q⟩=>?_),(`vd).1,⟨_,`hR cdv A `c_ s H E hr H B `B',?_⟩,`es K H B H (L2.start N vs) `B',⟨`nB H,⟨B,`af9,`af',⟨?_,hb,λi j a J es h1 _ _ _=>`af!⟩⟩,λi J a h1 _=>`af!,hb⟩,Pd.app (v10 (N:=N) r) (t30 _),`OV V.bl,bs.length,X.A.in1,(show `B? from ru),λ_ _ _ _=>`B4,L1 `l (`agd:`age),.dK [],CompOk sc `c0 N N' n `dA,(`lj).bind,q70 ds,`Z (K×`Nz),knd.room,`vg `W k a,(kvs.any `O7),List.any_cons,by simp[`Cn,`O8,e'],Rd H a `Bv,oi0 `bt e,(oy0 ry),(show u=`ej b from ry),kv0 `bt e,(w8 hu),`bm<=`R,by rw[← Paired.length rel];exact z,b7 (s40 ec e `du),PE X o td,⟨_,h⟩,`kZ n2,`L rfl n3,`i q,⟨B,`af9,`af',e⟩,`J hf,.of_wp,or0 e2,rx.length,List.all_map,Rps X.K H B ds xs,dxs.length,List.getElem?_range,(yc0 `bP we0 he),⟨x,en,e1,`Po⟩,`x `agK,(`bs `Pq),"__len__",(hT 0 _ st),Builtin.List.listSameRef,Builtin.List.listItems,updateSeq,(`uk:Int) - 1,λ_=>?_,by simp[h],(∀c o,`qu->`ag6),`g _ _ (`vw `e1 2>>=_) _ _ _,A0 (C6 hz rfl (x:=`CQ) rfl ?_),`g _ _ (`vw `e1 3>>=_) _ _ _,A0 (C6 hz rfl (x:=`PE) rfl ?_),A0 (K0 hTI rfl ?_),`g _ _ (`CK>>=_) _ _ _,
A0 (`vx),`g _ _ (`CR `PB>>=_) _ _ _,`g _ _ (`CR `PC>>=_) _ _ _,D.i1z.symm,a3.extBut,st.hl1,st.hl2,`vA<=`R,hG.above,Shared.TypeIs,(y8 a1 a2),(H 0 `l),⟨_,`cW,rfl⟩,List.nodup_cons,by simp[z00] at h,⟨_,e1,λv z=>by rw[d1] at z;cases z⟩,I.turnedNew,hk c o `nN hc.2.2.1 `ahn hc.2.2.2.2 e,(`bT (`bD `eS p) `hV [] pos),`vI h1,`pO (B4 _ 1) (`m? (B4 _ 1)),Gl X `hT,`cv `hT=`c,i<`qB,hx us `vK,pn0 z n,`bZ `d,List.replicate_succ,List.zipIdx_cons,A0 (A0 (z0 ?_)),e4.extBut,tt0 `W z TI TO,(λQ' q=>hf _ _ Q' q),`pR λE' A' Q' q=>ue0 hz q,`em a0,`pR λE' A' Q' q=>uh0 hz e q,H d=`O?,W6 ks k,_::`bh,(λx hx=>by cases hx),flats ds=`b,hv.elim,A10.mp,lt2 q r,Prs `W vs,pairsOf_toList,`jL hx,(`vS).1,(`vT).1,hv v A5,beyond,cmp x key,cmp key x,c=(`c,lo,J),lastOfA out ia ib,bcount,acount,`Dj+1,`Dk λs=>yo0 s `Dj,(la++lb),Mg b cmp T out la lb,x∈la,D3 _ hx,(C0 hi),Nat.min_eq_left,`aK (`z),`cy c,`Qj c,c.extract,c.toList.drop,c.size,Array.toList_append,T6 (a:=a) (i:=ia) `d,`Dp `nX,M.flip,M.ma A5,λl1 l2 h hb ha=>?_,λz J=>ha z ?_,M.mb A5,`dE a _ `d,(`ah0),⟨hs,rfl,L⟩,λc' t hI=>?_,J.push,`J g,A2 ⟨hs,L2.le `d⟩,`V g,⟨hs,L.le `d⟩,A2 ⟨hs,r,rfl,O⟩,Sm st t',mg - 1,λr t' h=>?_,`vY 0 na,out.reverse,firstOfB out na nb,c.toList.take,List.reverse_append,`g2 - k,na - k,M6 (c:=a) h1 J,List.mem_reverse,M6 `d `d,setPending,(sa,na,pw),(sb,nb,pq),(`jQ).toList,seg_at,(mb b0 M),na - `d1,`bU hy,hb x hx,L0++l1,`Qr=`aQ,UpO cmp `b3 o n,λc t' hI=>?_,`J `DB,Asc cmp r,Rn cmp o ps rs,A50 λi=>?_,(out.toList.map `DD).Pairwise (λx y=>lt2 x y=`b),At d es ep `W,setField,List.any_eq_true,`a kv,`I (m≠n),s.heap.DictOfH knd d xs,`wa=`a t,`li e,`eY<`R,uo0 ds es,(`ais),`qT c ps,`i (`m ⟨i,rfl⟩),R0.cps.toList.getD,(zt0 `lF),(tupI (o2 `U `QV ixD)),(d9 `U),(`DM),(ob (`aiI)),[`h?, `ia, `jW],[`cR, `wm],"_law_found",(O1 `jS),(ze0 0 1),`g5 `j_=`ajr,(`qY),nb d=`b,j7 rfl `e',a.length,nm.length,G5 `d `e? `A,`bU q,`a `wu,hp.len,0<`Ee/\`Ee<=1000,W9 `Rv=`ajN,(`wO),h.len.2,h.at hi,(∀v∈vs,`cn),`Rd<=12,
(∀d∈`a',`og),d::`a',W5 f G `a' δ',p.2<`bj,o9 (ds:=[P.d]) (`y (g1 _) rfl),o9 (ds:=[R.d]) (`y (g2 _) rfl),[`aN,`cT,`gn],`bS `d,L.length,by rw[`c4];omega,x%(`bj:Int),Gw.xn0 _ _ `d,x/60%(`w6:Int),[`aH,`dl,`cl,.sh (`R0),`ic],Gw.xn0 _ _ `l,w%(T:Int),Ps.length,U0 0 `rk,pa ps q.1,(cD b),lk s q b,by rw[`ako];exact kz0 i j,(`Sc),s.1.Nodup,hp.len.2,q.1<`P,`EZ q hm,v90 hp hq i1 i2 hv,λx hx=>hx,(mem y).mp hy,`e_ z,((`ro).take j),`a (q,j),n<`gq,p0.1<`P,p0.2<`bj,∃x,`ot/\¬`Sl,(`akz),ua0 _ _ (by rw[`Y];have:`Ss:=h;rw[`u,`Y]),I.img i hi,m.zero,(`xj i),List.length_range,s.2[i]?=`h_,`xk=`aQ,vat ps v w,a1.trans,F2 R l m,Lk R p q,(pa qs b),Un L F,(`xn↔M a=M b),cn ps r n,g a=g b,O8 g (C0 h1),s.g_at,q40 hp m s,[`cR, `Fi],(`alo),(Ua.yq0 wq n').1,[`e9],kS ns ps t q1 qs bs f w `lc `l? (.sh (`Tc)),[`gr,`S,`c9,`rG,.sh (wd q2),.un,.un,.un,.un,.un,.un],[`xu,nI 0,nI `xv],(0,`xv),(top 1),(O6 `hf),(t90 (o6 `aq `Tj)),(top 3),"with_values",(m9 `aq),T.b_zip,(top 5),"links","met_but",wb0.nd,(top 8),"look_table",(m9 zq0),"parting_way","are_parting",FnD P w K mg `n `FJ 2 `d7 V5,"way_to",(v5 `dI v8),"is_closed","are_closed","are_parts","is_upheld",(top 22),"least","look_groups",u70.nd,"grouped","values_behind","_law_pool","_law_values",(top 37),"_law_part","_law_web",(top 39),(top 40),(top 41),"_law_led",FnN P w K mg `n `FT 1 `mi Z0,"_law_unfold","_law_small","_law_changed","_law_go_on",y20.nd,C__law_head,"_law_beside","_law_part_there",`ag P9 w9 K mg b9 CX0 n f fd ps (spD K m),FnD P9 w9 K mg b9 x n ps m,"__class__",`kO=`be `a' n,`ad2 (hss w l),Is `W t v,Value.int,Value.str,{ cls:=`dv,data:=`be `cd n },`f×`v,`uc=`aU->`pC=`aU,`a (`gI o u),`ue x=`hI,X.env.cells.lookup,σ[i]?,by rw[e];simp,(λ_ q=>q),σ.length,σ.set,X.fn x=`b,List.getElem?_set_self,behindInMarks,.Compare,b::`bB,.UnaryOp,its.toList,Array.toList,(`a e),swapsWithSole,swappedStores,`as<=i,rv.get,I.turned,hi - lo,{ cls:=`bs `pB,data:=`i7 #[`e lo t,`e hi u,`e 1 v] },`cL a `F,(`r,`NZ),`cL b `F,`eQ [b] `F,`v->Sem `v,
`e (if k then 1 else 0),`gL pos (`A4),h v A5,vs[i]?,P.zip vs,by simpa using hi,sIx `k8 `k8 hi,`N9 - `Bn,(`afh==0&&`uA==1&&(`N')==`k8)=`b,(`aSt),`gR `as `as hi,r.drop,-`cM<=i,`a `m8,`a `Ny,`e `eU,`x ys,.dK kvs,`a `uH,{ cls:=`dv,data:=`be `gS },d.name,`ui s'.gens,⟨[u],[]⟩,by rw[q];simp,Params,l.row.toRowW,(U8 st),N'[n+k]?,(`p7).join,NameKind.free,k==`Ot,`a `p2,s2.toks,`Z (Str×`v),Sum Int Str,`Z DL.D,V1 f gt ge `nv `a',SqT' K H B a xs,`B_/\`bg,Rps.mono,`OD g r,.ow ds,`a `lc,(`aS2),(`aS3),Or.inr,(by rw[W4]),(`jp).same s2,h B δ,rs.length,(q.mono g2).to,by rw[`ON];exact hi,B b/\¬`aL b,(gN i),isL d=`r,`af6/\`OS,(by rw[U6]),bs.map,Txt.slice,(g' i j),k _ H `dg ?_,(λx=>!x.1),(backToKw `dY (keywordEach [] `F)).all (λx=>x.1.isSome),`Bi K fd ps [],DecidableEq,T9 ks k,`x `Bt,(`aeX)∨(`aeY),{ s with heap:=h',toks:=`aG+knd.draws k },w4 hd _,λkv=>`I (`Cj),List.find?_cons,`ju kvs k v,kvs.map,`Cn (`vi) k,`a `Bv,rel.val k,rel.length,(`aTl),.dT [],en.same.trans,(b1 a z),∃(i:Nat) (d:D),`agA,⟨v,e,`f8 (`qb `Ct)⟩,`m hx,`bD y p3,`bo e m=`b,`dV y w,A.in1.units,M.length,λv H1 s1 r1=>?_,rr.mono,"list_reverseiterator",isSubtype_type,`v->Prop,"__length_hint__",Builtin.List.listExtendWith,`bT (`bD `lq p2) [e] [] `nJ,(`aTu),W6 pr.1 q,`Pp `h1,ds++dd,(`aTe),(`aa i1),(`aa i2),s.heap.IsListIter,`aa TI,⟨_,rfl,?_⟩,ys[k2]?=`c,c≠TO,Q `c `fr,·.push,`bs `eS,`fs `BO,`f×HO,`bT (`bD x2 p2) `hX [] `nJ,z00 as ps,(`CD).map,SqL K H b ys,ys[i]?=`bA,∀xs,`k2->`i',D.TIi1,D.TIi2,{ s1 with heap:=h' },`PP λp=>`ew `agK,t2.length,(s2.mono g2).to,λB' gB hb=>?_,(`aUm),Q `e2 `fr,`aa TO,(`aUN),{ s with heap:=`fs `agv },(`vo hp),Inv X `j σ H s',H p=`Oi,`e4 st,`lu st,cmp x z=`b,(A1 `f5),(A2 ?_),H0.mpr,`qG `an Sem (`nr),`vY ia `bw,`d0 a ia,(← `d0 b ib),(← `Qc),l.Pairwise,`ahY St7,y.toList,`Dp ib,.yield,Array.size_push,⟨rfl,?_⟩,hs.gal,`d0 a `jP,`ahY Sv7,rt y nb,(sa,na+nb,pw),`b3[i]?,(`aWf),Nat×`ac,(r++J),`lB a (`fB `DE),g.get?,(`Ba `hS),"dict_keyiterator",·.setIfInBounds,(`gc `jR),deq d dx,
ds[j]?=`a5,`h7 - i,(`aWT),(`C5).is,.dX kvs,ts.zip xs,ts++[t],xs++[fv],`g `ao A (`CR `e1) Q E s,`bT (`bD `eS p2) `hV [] `nJ,λq=>`vE `pA,(`dU `lC),Str×D,(`aW4),("" : Str).cps,⟨_⟩,(gc (`aiu)),`N "row",(`aW6),(`aW7),(`aW8),(`aXx),(`aXI),(`aXL),(`aXO),(`aYy),(`aYO),(`aZN),(`aZU),`N "",(`a_a),(gv 9),(`a_C),(`a_z),(`a_1),(`a2d),(`a_F),(`a2W),(`a2_),.sh `ajs,(`a3f),(`h9).length,(`n3).zip vs,λe he=>h e (A6 _ he),`et 8 w,(`bG+1),`N ⟨#[`D9]⟩,10 ^ 60,(`a3z),.sh (`e (c:Int)),x'*48271,.sh (`e (x%8)),((st+`jk)%8).toNat,((st+(b:Int))%8).toNat,.ow (`s acc),`bG*(`bG/l),`a3J=3,`e `jc,.sh (`Rt),[p.d,`jl],`x (xs++[`q3]),.sh (`Rw),v=`oa/\j<n,`q8∨(`ajP)∨∃j:Nat,`Ry,(`aXw),`e (f j:Int),`ajR `lR,p.vals.take,(x:Int),if x∈a then a else a++[x],nd T.reverse,(`a3X),.ow (`s (nd o)),nd (`q?),`fz hy,`m `eu,λx hx=>h x `BI,(st s),x∈ks,D->Prop,(`ii&&`Ev),`a (`rd),λq=>q z,Classical.not_not.mp,[a,b,c,.ow (`s (Z.map pN)),`cS,`w0,`gp],(gN j),λ(k:Nat)=>`c8 `bG,(st i s),(`Ex).vals.zip (`Ey).vals,o2 `U `ax `wg,M.map pN,`s `akf,us++[v'],.sh `El,`e `oq,pa ps k,List.length_range',`c' (`akl),`c' (`akm),pa qs q.2,`a (p,k),.sh (cD (`R9)),e1.trans,(k2 x),`x [v,u],.sh (`Sa),pS ps qs P s n `g? `lZ (`j9),s.2++[`xc],x.1<`P,`x [v.1,v.2],pS ps qs P s n `g? b c,(`a4I),[`aN,`cT,pN p0],.sh (pN p0),K2.mpr,okp ps qs x,O4 `rx,`a (`im),(`a4R),.sh (nI p),.sh (nI q),f a=f b->a=b,`bm=`Rd,j4 hp `E7,yq0 hp m,[`aN,`e9],`a (`j7),nums r `am,`e `akE,(`a1R),"_law_way",s.1[j]?,pa ps j,(`SC).vals,.sh (`l5),lnk p0.1,lnk p0.2,a.map `b9,(`rp).2,(`xg).2,(λh=>by cases h),(`bU hb).resolve_left,(A6 _),(`akP).2,gs ps r n a,`akS=`SO,¬∀a∈r,`SP,hf i hi,(`a5n),(`aXN),(`a_B),(gN 1),(`a64),λk=>`it,gS r L F ks `g! (`rE),`e (`ir:Int),(`a7L),f a=g a,λ(i:Nat)=>`eT,(`a7U),`m `alm,(g a:Int),.sh (`aW (`m (`alp)) (nd `xp)),Ta.vq0,`s (nd ((`b? `bj).map `Fx)),.sh (`S7),`w3 (rel `Fx),(`S9).map `d5,(oA `l9 J6),hp.len.1,hq.len.1,(W6 ks `rc),`s (`R_),(`alt).length,(z9 g1 v7),(z9 g2 v7),Ta.xd0,ht'.2.1,(.sh (`FA)),(vp0 p8),[`lG, `rJ],
(`a8O),[`h?, `ia, "start"],"came",C_linked_pair,(`a87),(top 19),(top 23),o5 `Tr,(Q0 `aX),yy0.nd,(top 33),"_law_count",[`mf, `oB],(`a8?),"_law_value_here",["_law_name", `Tz],"_law_numbers","_law_pair",(top 48),C_least,Result->`ef,`dU "object.__class__",isSubtype,`ad1 `fl `t5,⟨_,e,c⟩,Classical.propDecidable,by unfold Is;rfl,Value.builtin,dep t<=n,Nat.sub_self,List.getElem_cons_zero,`bS rfl,Ag0 _ _,Ah0 _ _,Aj0 _ _,p4 _ _ _ _,p5 _ _ _ _,Al0 _ _,p9 _ _ _ _,Am0 _ _ _ _,J _ u rfl `d hi hj,Ao0 hab ?_,Q `b s,(`gH a:Key),(`ub a:Key),∃t,u=`Nw i t,by simp at e,`au r t,(`px n),⟨_,`cW,rfl,_,rfl,rfl⟩,`C->Prop,TrH H t v,by unfold TrH at h ⊢;exact h,`kS/\`hH/\∃vs,`kT/\h.DictOf `AP a vs,(`ad!),`aed P w,`b_ P w H h a o,`a (`aeg),`dX<=a,Mut (H x),e=x∨H e=`aej,∃u,`hE e=`aU,by subst z;rw[r] at mu;exact mu,k b ob q,(upd H x o),`mZ `n,builtinsNs,`aen∨`NC,X.env.globals,X.s₀.heap.get? b=`aj,`Z (`el),`aer/\`pI/\`aes,HOk `bf X.w H' h',(`kY x c e),(`aRb),(`aRc),`aeu b o e n hb hx,id `f_,Inv X `j σ H `m3,k b o (λz=>hc `aev) e,λb u e=>?_,∀b u,`aew,σ'.length=`NH,Q () s',(`cK hi).1,`i9=`aj,(`fq b (B1 (B8 `hO `A1))).trans,`kZ (B9 hj),I.ok.has,(`fq b (B1 (B8 `hO (I.ok.cab x c Z hc)))).trans,V->`gK,(`aRf),wpAny_Name,(`aRh),`f2 a=`aj,`a `dw,r.inj r',`m (`m9),⟨σ',H',`aeJ,q⟩,`m' σ H,V->V->V->Hp->(`gK)->Prop,`k_ es `F,PE X o to,(`aRr),`NS [tg] e `A6 `F=`un,`NT [tg] e `F=`k0,(`k_ [tg] `F).map `cZ=[`gM tg `F],(`aRt),Int->`aeN,v50 X `j H' b,Nat->`pu,tn i `W,J.go i H,letOwnedTupleGo,J.yld i H x H',J.stop i H,`e (lo+i),`NV hx,λb hb=>(`k3).1,λh' eb=>⟨rfl,`NW (t':=`aG) (λb o hb e=>eb b o hb e) f0 f1 f3 f4 f5⟩,Int.mul_one,(`fs `NY).objs.size,`na<=j/\j<`gO,(`aRK),(`aRL),PI X tg `k4 wi,I7.unpinned,(f v u),Int->Int->Prop,(`aRP),0<=j/\j<=1000000/\`aeW<`pS,λi j=>.bl (`I (i<j)),λi j=>`ae3,λi j=>.bl (`I (j<i)),λi j=>`ae4,(show `bM from r).elim,A.depth,(`aR'),`hW k X.A,codeAny_mono,`jb hq,P.length,`N6=`a3,`pW `ne,(`aSc),⟨_,J,rfl⟩,Builtin.Slice.slicePlaces,Subscript_,
{ s3 with heap:=s3.heap.push { cls:=`bs "slice",data:=`i7 #[vl,vu,`aF] } },q _ (`f6),IsTupN.new _ _,seqIndex_of,seqIndex_neg,operate,IxR X r,SqL K H p xs,`N `afl,Bool.or_false,H p=`Od,I.write,`uF lo hi `c n,SqL X.K H p ys,SqT X.K H p ys,`bK ys its,`bt p _ hk,(`uo).length,Builtin.List.listTooLong,I.lstM hH,⟨_,e,rfl⟩,(`aSG),OpenLaw,d.params.defaults=[],mg `Ok=`By,s₁.heap.Ns,`hW k `uK,∀(s:`q) (u:`v),`BA s fd `Om [(x,u)],SqL K H a `uL,λb z=>?_,W.OpenLaw,.FunctionDef,`eV H1 H2,`uQ y=`fp,x.2=`hJ->∃c,`uQ x.1=`fp,`BH::r,λ(n,k)=>if `afC then (n,`uR) else `BH,if (`afB&&`BJ==`hI)=`b then `uR else k,Nat->`ef,newList [],a0.extBut,(x,`hJ),(`ji).2.1,as.2.2.2.1,X.N[i]?=`bA,`aeK `lb (`a (`BR)) spos.line `F=`BS,`a (`gM (`BR) `F),`Z (`Oy),`a (`I (i=j)),sIx `as 0 lo,`qa=`BU,by simp[hp],`qa=`a δ1,`BW=`a (.nx δ2),(`aC).length,by unfold v9;rw[h],`J h2,∀o,`u_->H' a=`aj,`Z (`cI),.dK `u1,.dT `u1,.fn ks ds,⟨x,rfl,h1⟩,List.take_succ_cons,(λ_ _=>λz=>nomatch z),R6 ks=`a ts,ts.length,l.set i a,`nA j k a ds es h1 h2 h3 h4,∀ob xs,o≠`afV,(upd H p o),k _ H `dg `OK,fun σ H Q h=>ng0 hf h,⟨d,`jo s,h,λv J s'=>k v J (s.trans s')⟩,`V hl,λv H' s r=>k v H' (`h0 s) r,FnR X.K r f,fun σ H Q h=>gj0 hf h,∀a,`qf->NB (`a_ a),`a_ p=`c,`u' s',Gr H₁ H B B,λv σ H Q=>∃B d δ,tDG X.K idx f B d δ v σ H Q,if `OQ then `c else H1 b,en.same.nf,`gW - `a4,List.drop_length,by simpa using z,(`B8 s2),s2.trans,fun σ H Q=>∃B δ,tDT X.K B δ gt σ H Q,`eQ [`Ca] `F,(`aTd),SqL K H p ys,SqT K H p ys,`a bs,(`gL `dY (`agb)).all `OZ&&`O_,(`gL `dY (`js)).any `b9=`r,(`nE).bind,(zz0 s),(`Cd).bind,`O2=`b,r.1.length,mx0 i δ,`x `hV,G4 xs ys,`p->`X,deq x y,`b! xs n,⟨(`et `f' x.cps).foldl `qi #[]⟩,`qj xs lo hi,`kN d=`aj,h.DictOfH,o.isSome,Paired.snoc,Rd H a `uH,ok a _ e,upd H a (.dK (`O9)),H a=`O?,∃q,`t8=`qk,`Z (`ags),nn0 `bt (`ql),vl0 I `Pc hs `agu ⟨hl,hd,_,(rel.put k eb rv).keeps λc ys ec=>?_,q,es,ep,hq,h2,h3,h4,h5⟩,`pz<`dX,(`aTm),h _ (`f6),`Z (TE×TE),(`agw).all `OZ&&`O_,
`I ((`Cp:`ci).length+`Cq+`Cr<30),`agw=[`pU,(`r,`cL f `F)],List.set_cons_succ,Pd.impI,en.same.free hp,`nG j ds a h1 h2,DL.fz d,(λo h=>h),`V hf,Bool.and_false,List.set_cons_zero,EnvV K `a_ `aL H σ δ d v,PX X e gx,`m ⟨rfl,xs,`m (`Pi)⟩,xs++[v],`gM `Cw `F v,`m5 [v] `vp,`m5 [v,ov] `Cx,k _ _ (en.s.mut s1 b1 b2 hi J M),`k_ `agD `F,by unfold G4;simp,view I ld hx rx,view I le hy ry,by rw[in1_units];omega,`je=`b1,by rw[`bF,← `gX,`Cb],(`aTB),⟨q1,q2⟩,`bo dx 50=`b,`jv+64<`cu,`agJ s3,(`OL).same s3,`jB hk,Int.zero_add,[`dB,`s es],trees ds,`na<=n,∀i s,St i s->`hF `CE `Pq,ItemsOf P acc' n,(`aTL),`h2 `cX,`h2 `eg,its.reverse,by simp[hh],(`fs _).objs.size,(`BY).map `agX,`agY=`as,by rw[`c4,← hl,`vu];exact hz,`df i (.ow (`aW (`m (`Px)) `CH)),`k6 x `dc `Oq `uO `k? dV kV doc pm an cdv ct,IsZ h' z TI TO a `b,`g `ao A (`CK) Q E s,(`aT0),(`aT1),D.i2z.symm,h₄.get?,A1 `PF,λo e=>`pM,lo<=z/\lo<=TO/\lo<=i1/\lo<=i2,`vB=`vA,{ s with heap:=h,toks:=tk },(C2 hj),Bb0 _ _,λa ha b hb=>?_,`db ha,(·.pop),"tuple.__new__",⟨[`fm,`h3],[]⟩,wm0 H l b,A6 _ hq,by rw[J c `ahg];exact q,`vB=(xs.zip ys).length,H t=`c,(`C0).symm,k b o hc e,`ag4 z TI TO i1 i2 a b,(`aUi),(Itz K a b),⟨_,hz,λv z=>nomatch z⟩,⟨_,hTI,λv z=>nomatch z⟩,⟨_,J,λv z=>nomatch z⟩,⟨_,e2,λv z=>by rw[d2] at z;cases z⟩,k TI `Q _ hTI,⟨p,q,k TO `Q _ J⟩,h1.at λo e=>k i1 `Q o e,h2.at λo e=>k i2 `Q o e,a0.get hx,Z.get hy,∀{c o},`qt->c<`O,λe=>`cJ,(C1 lz),hk _ _ `C3 D.TITO `PT `PU hTI,a0.length,{ s with heap:=h',toks:=`kP },`e i `aG,[`cH,`k7],boot_zip,`vI h2,qa<`ft,by obtain⟨_,e,_⟩:=`e3;exact `cJ,qb<`ft,by obtain⟨_,e,_⟩:=`gd;exact `cJ,`uq (t':=`Bd) hk,`pO (B4 _ 4) (`m? (B4 _ 4)),`pO (B4 _ 2) (`m? (B4 _ 2)),`pO (B4 _ 3) (`m? (B4 _ 3)),⟨q1,q2,rfl,`ahr,⟨ws,s2.to⟩,`ahs⟩,⟨us,ws,us[i],`C4,`vK,`PY,by simp[h1],by simp[h2]⟩,t1.get (i:=i) (B6 h1),t2.get (i:=i) (B6 h2),hy ws `PY,⟨us,ws,`vK,`PY,`h⟩,`fo `e0=`a `vM,(`qq J),(`aUo),PySem.Str,`t' - 1,`eU*`f',`kL Nat,Nat.mul_comm,List.zipIdx_nil,
D.TOz.symm,w50 `W z TI TO v f,(`aUG),`aa x.b,`Z PKV,(∀x∈ps,x.ok H),(`aUS),(gk δ).bind,`jt=`c,call_meetsIn,`aU! b,`P8=`c,Go b κ st,`lv[i]?=`aQ,b.toList.Nodup,`gZ->cmp y z=`b->`P9,(X0.mp `nU).mem_iff.mp `Q,`e q.1 t,`J `vR,lt' x y,(`Dc).toList,el x hx,∃q,`ahQ,fs.map `a,(`aVj),`x `ahR,`bU hz,n - `bv,`a more,`vW+(`Dg - `vW)/2,`vX->`vP,out++lb,cmp z x=`b,(`aVo),List.getElem_take,List.getElem_drop,`qG `an Sem (`Qg),`h6++`Dn `nX (`gi+k),Mg b cmp `g1 `lz (`vZ) (`Qi),Array.toList_extract,List.take_left,List.drop_left,List.drop_eq_nil_of_le,(`aVw),T6 (a:=y) (i:=ib) `d,T6 (a:=y) (i:=ib) h2,`dE y ib h2,T6 (a:=a) (i:=ia) O,by rw[h],by have:=`Dq;omega,A3 (E8 ?_),`qG `an Sem (`Qo),out++(`vY k na).reverse,hiD a y out na nb,Mg b `Du `g1 `lz (`Dv) (`Qp),(`aVQ),M6 (c:=y) (n:=nb) `d Z,rt y `e6,`ah2 hi,mergeAt' i,L0.length,`Dw++lb++S,`X->`vP,((`nV).setIfInBounds i `Qq).eraseIdxIfInBounds `a4,λx hx y hy=>?_,(ma _ `ah6),`ah8++`ah9,(`jQ).Perm,`lu t=`c,`b3[i],`b3[o+n - 1]?=`aU,`b3[o+n]?=`a3,(`h5 t'),`Dz t `v7,rs.flatten.length,Sv b κ cmp `bB `a8 t,(`aWg),out.toList.Perm vs,listUpdate_at,seqEpoch_at,pairsOf_size,At d es ep h,j80 K=`b,es2.size,(`aWS),`eY=`g4,n.length,hm.typeIs,`AS t<=8,`v?=`c,R6 ds=`a l,(`aWX),IsEnumOut,`aa `h8,⟨`eX,g,d,tk,os⟩,(C1 a6),nm0 (s:=⟨hp,g,d,tk,os⟩) hl,⟨_,he,rfl⟩,(`qC:Int),`x [_,`ap],mm0 v=`b,PsOk ps,l.toArray,(gc (`DJ)),(`aXu),(S9 3 `cA),(l30 3),(N7 3 `DL),(J8 `bi),"number",(`a_E),(`a1t),(S9 2 `bc),(S9 6 `DP),ih `Rf,∃z,`ajy,(`a3s),(`ajz),U0 0 `cM,by simp[hl],(`b? 8).map,(O3 ?_),λs hs=>?_,(`Rg).flatten.length=8*n,by simp[wl];omega,`e_ hs,[`n',`c9,`ib,`dG,`qZ,`ic,`n!,`wC,`ajD,.sh (`Ri)],(O3 rfl),`lP/\k<=1000000,∃x,0<=x/\x<2147483647/\U7 [`lL,`n8]=`a (`id),L8 _ `l,(100:Nat)<=`R,`a (.nx `wE),(nl 6 _ h6),(x/20%2),(10000:Nat)<=`R,`e `ajG,λu hu=>?_,c∈ky0.cps.toList,`q1 `dd "",`a (.nx `wF),hp.names,`N (`ba (`D?++`Ea)),`I (`q2),0<m/\m<=1000,⟨2,rfl,`h,`wJ⟩,Z0 `j_=`ajr,(`a (-1)),this.symm,`k->Prop,l.Nodup,(A6 _ z),Wb.getD i `A,Pn.N5 p h,
Gw.t60 p h vs (`m hl),o9 (ds:=`j_) rfl,G8 D' `lO=`ajS,U3 `ajT=`ajU,(tj0 hv),[`ih,`g8,`e!,.un],.ow (`s (`Em)),.sh (`En),xq0 p _ `wP,S.length,(`a3W),decide_eq_decide,`bZ (λz=>z h),`s (nd (`j5)),[`j6,k,l,.ow (`s (nd `q!)),`aj1,`Es,`j4],c<=5000,H i hi j hj,(`a32),List.idxOf_cons,beq_false_of_ne,ih `RM,ob g δ,`a (.rt `p!),T9 ks `rc,`a (`ii),`a `RQ,`RQ=`r,T3 (t1 z),V5 `j_=`a (`oj),T3 (t1 hh),[`S,`aH,`fE],xd0 qs _ rfl,`bm=`qB,`dk q.1=`b/\`dk q.2=`b,gl (`EB `a4),G `a4c,(`lU).take,[`S,`aH,`fE,`e!,.un,.un,.un],V1 `a6 `akc `U [.un,`hZ] (`R_),`a `wH,qs[k].d,[`aH,`dl,`cl,.un,.un],[`aH,`dl,`cl,.ow `EG,.un],`a4n k,(`w7).drop `cf,A.Nodup,`lW λp=>p.1*n+p.2,Nat.div_eq_of_lt,by rw[`akg,`EI],`p3<=63,us.map (lkv `EL),uS W T C Ps K Tn us (`EM) (`op),(r:Int),`lp v=`b,yn0 `aki,ps[k].vals,ps[k].d,`bj=`rl,(`a4z),U0 0 `wY,J.length,(s.1++A,s.2++B),⟨f - 1,`h⟩,[`S,`aH,.sh (`oi),.un],prt ps qs (v,u),(9000:Nat)<=`R,.sh (`EY),`dn ?_,gl `fG,`gq=`xf,q.2<`bj,(∀v∈`ro,`ru),pS ps qs P s `b2 `g? b c,(`cK e).1,`aku=`akv,`E_=`a `akx,Pi ps qs p0 `j?,∀x,x∈[p0]->x=p0,λx hx=>`E0 hx,⟨rfl,`Sk ⟨`a!,U2⟩,λx hx=>by rw[`rv];exact`E1,`dj,λx hx=>by rw[`rv];exact hh,λx hx=>by rw[`rv];exact `l0⟩,⟨[],`l0 ?_,`a!⟩,`a4N=_,(all x hx),[`aN,`aN,pN `l1],h.len.1,List.getElem_idxOf,(`m `akE),`xj `hb=`E9++[r[j]],.sh (`Sx),`SB=`qk,La.ex1 q k v s,(`cK hb).1,La.Pi ps qs p0 s,[`S,a,b,`SE,c,`lY,.sh (`xm)],Lv `P u,vat ps `io w=`aU,gl (`w_),R y.1 y.2,λi j=>f i=g j,List.pairwise_cons,L x=L k,List.getElem_cons_succ,`m ha,λa ha b hb=>h a (up a ha) b (up b hb),M a=M b->`xn,hc b hb,(`akR).mp,wh0 hp m ha hi,wh0 hp m hb hj,λh=>?_,A ps ps a b,`xp[g a],`akU λk=>`akV,A ps qs i j,(`a5w),(`a6y),(`a6L),(`a6X),(`a6!),by unfold toT;rfl,∃b,`l7/\t b=t k,.ow (`aW (`m `Fm) (nd (`l' `SX))),a∈F∨a=k,gS r L [] [] .un .un,fk L [] `l!,neK (gD r f) `Fr,.sh `alk,∃b,`l7/\g b=g k,K1 `rF `Ft `Fu,(`gH `S4:V9),`a (`c8 `jk),T9 `rF `Fu,U0 0 `alq,p.2<`P,(`E3 (B.map c2)).map,kS ns ps t q1 qs bs f w (.ow (`aW (`i `Tb) `als)) `l? m,
o2 (oA `Te W3) (oA `Tf W3) W7 δ,kS ns ps t q1 qs `he `ma `A .un .un .un,(`a8f),(`a8g),(top 2),[`lG, `FE],(top 4),(`a8G),[`cR, "k", "left"],(top 7),(v5 `c! v8),(s60 3),(`a8N),FnD P w K mg `n `FG 3 `Tk U3,T.b_enumerate,(Q0 `b4),(top 11),(top 12),(top 13),FnD P w K mg `n `FI 1 `mc W8,[`h?, `ia, `wi],FnD P w K mg `n `FK 1 `mc Z1,[`Tn, `jW],(v5 `me v8),C_are_links,(`a88),(top 14),(top 15),(top 16),(top 17),(top 18),[`h?, `ia, `Fi],o5 `Tq,[`h?, `ia, `jW, `FO],(top 20),(top 21),(o6 `cc p8),[`cR, `oA],[`oA, "looks"],(top 24),(top 30),(top 32),[`n4, `xy],o5 `Tv,(R3 `aX p8),(v5 p8 `xz),(top 34),(top 35),[`mf, `Tw, `oB],(top 36),(`a9r),[`mf, `jZ, `rL],(`a9v),[`alF, `oB, `rL],(top 38),FnD P w K mg `n `FR 1 `FS U7,C__law_mix,(R3 `c! p8),(top 42),FnD P w K mg `n `FU 1 `FV W9,C__law_with,[`FW, `alG, `n4],(top 43),[`lI, `alH],(top 44),(v5 `rO v8),[`FW, `n4],(top 45),[`l4, `ow, `TC],(top 46),(`a9J),(`a9K),[`l4, `ow],o5 `TD,[`l4, `ow, `SA],(top 49),`dr K `b0 x=`a (`a `fl),`ag P9 w9 K mg b9 CX0 n f fd ps (spN K m),FnN P9 w9 K mg b9 x n ps m,by repeat (first|exact `ae|refine `au (by first|exact`aM|rfl) ?_),λH B=>by simp[n6,m7,j9,U6],`f×Obj,(`AK:`q).TypeIs,Builtin.Tuple.tupleHashOf,by simpa using h2,`aG+drs `pw,⟨λz=>by cases z;rfl,λz=>by rw[z]⟩,⟨_,rfl,r⟩,`cI×`Nz,`dV p.2 q.2.2,`AQ/\H `pA=`a (`x (p.1.map kV))/\`ad8,tupleKind,`ad' `AP,(`mY `b9).Nodup,`dW×`Nz,`AQ/\TrH H p.1 (`aa `pA)/\`AS p.1<=8/\`ad8,(`aQ9),TrK.kind,TabOk H h a (qOf ps),`AT->G a b,`gI ob u,W.methodObj,b7 (S6 q hn),`a (`kU x),`pC=`a o',b7 `aQ!,`aQ? b,`ue x=`kW,env.kindOf,H p.1=`c,∀x c,`hK->c≠b,(`aRa),(`aeq)/\∀p∈`AX,p.1≠b,I.base.keep,I.base.slot,(`aRd),`pH=`aU->`pC=`aU,`A_ x=`kW,storeName,λb o e hx=>?_,I.base.tups,I.base.frzs,I.base.tbls,`cL e `F,EP X `j σ Q,I.mod.glob.keeps I.bk,`A3 e `F whole,(a::`NN),`uk<=`R,I.unwish,swapsWith,Q σ' H',[v,ov,iv],Int->Int,(`aRF),`Bc a `cd,(`aRH),`eQ `hV `F,(`r,`N0),(`aRO),`g `ak X.A (f `Bf (`e j u)) Q E s,j<1073741824,i.natAbs,-(`pS)<i/\i<`pS,-(`pS)<j/\j<`pS,
`e (i+j),`e (i - j),`e (i/j),`e (i%j),`e (i ^ j.toNat),.bl (`I (i<=j)),.bl (`I (j<=i)),`I (x=`A),[op,op'],`N (i++j),`eQ `hX `F,NameKind,(N0 hv).1,cellsFrom,b∈([]:`bn),`a `Bm,hc `j s1 σ H1 vs us Q I1 r1 q1,sIx n 0 lo,sIx n n hi,(items.toList.drop (`Bn)).take (`N'),"__getitem__",Builtin.Tuple.tupleItemsOf,((`Bn:Nat):Int),(`aSv),(i+n).toNat,ixN `as i,⟨#[c]⟩,its'.toArray,(`aSA),(`aSB),(1:Int) > 0,`Z Keyword,`a `Oj,(`aSK),K w.params,(`aSL),t { nx:=λ_ H'=>Q `A H',rt:=Q } `Bl H,`pV y.1=`kW,N'.length,caps.map,K5 n `dA σ,Str×`ae9,`Ou&&env.scope.kind==`k5,(`aSN),.ListComp,s2.heap.push `BO,h₁.get?,(`ji).2.2.2.2.1,relabel `c0 `F,`BP==`k5,`BQ==`hI,PG `p8 tg g,PF `p8 ifs tt,PE `p8 elt te,(`aSY),xk0 n `dA δ,(·.length),Txt.join,Rd H a `m8,H a=`a (dOb ks xs)/\dLn ks=`as/\`bg,RpL.toO rfl h,`a (`qd),`gI ob `m8,Rp K H' B d v,yi0 (i:=i) hN hv hd hcd,by rw[X8] at r;exact r,λH' s=>?_,by rw[`u9];exact hl,`cg=`B2,(`aS4),⟨`B7,λi H2 x H3 g2 y hi=>?_,`B7⟩,λa=>B a∨a=p,RpO K H' `u? d p,(`aSZ),`va=`nC,`va=`vb,(`aTb),λ_ z=>z,λ_ z=>`jr,(zv0 h1).elim,bs.getD i `b,`je+J.toArray.size,`eQ [e] `F,`aW (`m []) [],(`aeF).lt,`b0<`O,mg x=`By,`la K `uI=`b,(ds++es),ds.dropLast,K1 ks ds k,`bo x 50=`b,`a (`e (i*j)),HeapKind,size_of_entries he,h1.symm.trans,h1.trans,(`vj).map `cZ,(.dT (`O9)),Key×`v,(`O9).length,⟨q,hq⟩,{ cls:=`bs `e0,data:=`AR #[] },`gL `dY (`eQ `Cp `F),λj k a ds es h1 h2 h3 h4=>?_,λj ds a h1 h2=>?_,`cg=`Cs,`agz/\`qg,`bD x px,`bD x p2,[`agC,`Pj],ds.getD j `A,es.getD j `A,deq (`agE) (`agF),Rp X.K H B' e y,(`aTC),(`u8).trans,[p.1,p.2],s'.heap.get?,`a `aTF,c'.quiet=`b,R (.ok f) s',.again c',.error e,{ cls:=`dv,data:=`be #[] },(`fk `aF),`fs `agR,`a `vr,(`r,`cL (`Pv) `F),`gL `nJ (`js),λp=>if p.1=q then v else p.2,pr.1.length,⟨_,J,_,env,e3,λiv H1 s1 r1=>?_⟩,(`aTP),(`aTR),(`aTT),loadIfAlive,Builtin.SmallTypes.ownedTupleIsFree,ZipApart,`hE c=`aj,`CO->`CP->`qt->`ag5,(`aTX),(`aT_),h1.extBut,hl1.extBut,h2.extBut,D.i12.symm,hl2.extBut,by show 2<=`R;decide,`bs `CX,
Q (`a `e2) `fr,(`ej `dX),(`qx).toArray,(`aUd),J b `ahg,(`r,`cL (`PN) `F),as.map `vE,{ cls:=`fm,data:=`be #[u,w] },`ev h TI `PB `PC,∃p q,`ev h TO p q,hc.2.2.2.1,λc o hc e=>?_,(`aUk),min `cz `qB,⟨us,s1.to⟩,k _ H' s' ⟨`B7,λi H2 v H3 g2 y hi=>?_,`B7⟩,(`CD)[i]?=`a (ds[i],es[i]),P8.mpr ⟨B6 h1,B6 h2⟩,`x [ds[i],es[i]],show `aht from `ahu,(λz=>hb t z ht),(`aUq),Q' `b s,(`aUt),(`aUu),D.TOi2.symm,(∃o,`hE e=`aj/\`t7=`ahc)->E `jD `fr,(`aUJ),ZipL.tt0,`ahl/\(`ahm)/\`up i1 a i/\`up i2 b i,k z `Q _ hz,λx=>`vE x.p,(`aUO),`jK [] ps,λa=>B a∨a=`O,pairTrees_length `C' [ve] `F pos rfl rfl,`e `kR,Q `aU6 H,(ltAt' i j),`lw `W v q,[`e q.1,`e q.2],i<n->`vV=`r,∀i,r<=i->`ahS,J7 left key arr `n n `bv,`bv - lo,(← get),unsupported,ForInStep,loD a y out ia ib,hs.kd.trans,Sm.refl st,`d0 a na,List.getElem?_take_of_lt,(i7.mp hx),a.setIfInBounds,arr.toList,(J _ ml),(`gg).extract,X.toList,Y.toList,List.foldl,(`aV4),r.toList.zipIdx,`ah' `ah! `b3 `ah?,(`c,()),`b3[o+i]?=`n0,(`aWe),`aWh lo,`aWi n,`v9/\Sv b κ cmp `Qu lo t,(`ej d==`aF)=`b,es[i]?=`a e,its[j]?=`a w,m.map `no,n.getD i 0,(`b? `g4).all,λi=>`v'==`ail,`e i tk,{ cls:=`fm,data:=`be #[`aio,x] },(`r,`cL (`QL) `F),(`qR `cX `gS 0),`jJ λq=>[`gH q.1,`gH q.2],λq=>`ej `pA,`N "text",(oA `h! G6),(`aXv),(`aXy),(`aXG),(`aXJ),(`aXM),o2 `U `Q_ ixD,o2 `ax `wj ixD,(`aXQ),(`aXS),(`aXX),o2 `U `qU ixD,o2 `ax `wk ixD,o2 (oA `DN V5) (oA `DO V5) W7,(`aX5),(`aYt),oA (z9 `U (z9 `ax `wl)) N6,(`aYG),(`aYM),(`aYP),(`aYQ),(`aYN),(`aYR),(`aYV),(`aY!),(`aY?),(`aZd),(oA `qV W8),(`aZk),(`aZm),o2 (o2 `bb `cQ ixD) `aiY W7,(`aZs),(`aZr),(`aZx),"abcdefghijklmnopqrstuvwxyz0123456789",(`aZR),`e 36,(`aZ2),`e 9,(`g7 `jV),(`a_q),`e 10,(`ai9),`N " 0",`N " a",`e 16,(`a_2),(`a0b),(`a0f),(z9 `a? v7),(`a1G),(`a1J),(`a17),(`a18),(`a1?),(`a2s),(`a2J),(`a2K),(`a2M),(`a2Z),(`a22),o2 `Q? `Ra W7,`a (`s `d4),(`D1 ps).d,(`a3g),(`D2 c ps).d,(`a3h),(`jg `N),[`gk,`n8],j5 `ajx=`a (`n9),`jg `c8,`e (c/8),`s (`D7 `e),((`b? j).map `D').map `N,.ow (`s (`ajC)),(`a3y),(48271+7*k),
(`Rm%2147483647),vs.getD j `A,λi h1 h2=>?_,(`a3H),[`q5,`Rt,`j0],`x `Ef,(-1:Int),`a (`q7).d,[`gj,`j1],∃z,v=`n9,(o2 `U `ax ixD),p.vals.map,`a (`RB),[p.d,D'],`a (`ob).d,`s (`RC),by rw[`Y],(`a3P),(`a3S),(`Eo:Int),kd (U++`q!),nd U++td `q!,.ow `a3Z,ms W k l U `q! (`j5++T) `wQ,by rw[e,`fD];rfl,(`a33),(`a34),[a,b,c,`hZ,`j9],(`a35),`I (`Ez),λp=>`aj8,`wX `aj9,[`gn,`gT],(`dm `a4 m).map `RW,`c' (`Ex)=`c' (`Ey),.sh (`s `wW),(`a4g),`I (p∉L),`a4m j v,(`ake),Nat.add_mul,`x [`gj,`e ((`EN:Nat):Int)],λd hd=>?_,List.getElem_append_right,ex1 q k v s,pa ps x.1,pa qs x.2,e2.trans,o9 (ds:=[`Ew]) rfl,(s.1++[`g9],`Sd),.ow (cm `akp),(v.1,v.2),itm `cf z,z.take j,`c' (pa ps p0.1),`c' (pa qs p0.2),`x `a4J,(`akw),λv hv=>⟨hv,hn v hv⟩,λj=>`xi,⟨z,rfl⟩,`x [`gj,`RB],pa qs `E6,yr0 hp `E7,(r[j]:Int),(`a4U),λds=>R7 (ds++`ka),(`a4X),(`a40),"_law_first","_law_second",`a (q,c),(u.1,u.2),(λh=>by rw[K3] at h;cases h),gs ps r n,j4 hp ha,`ou b hb,q00 hp (`xo) (`akQ) id _,gs ps r `b2 a,gs ps r (N+1) a=gs ps r N a,(`ox).map,rel g `ET,(`a5v),(`a5K),(`a5L),(`a5Q),(`a5W),(`a59),(`a6r),(`a6x),(`a_b),(`a6M),(`a6N),(`a6R),(`a6_),(`a2O),(`a63),(gv 10),(`a7h),(`a7i),(`a7t),`s (`ha L),nd `a7w,(`alc),`Fl++[L k],`alc++[`SZ],(`ha g),(`a7O),List.map,o8 (x:=`aN) (y:=`e8) rfl rfl,(`a7V),(gs ps r 0),(g k:Int),`m (g F[i]:Int),fS ps r g F `g!,kd (`akU g),(`kb:Int),(.ow (`FA)),(`a75),M.filter λp=>`akd,bsd q1 qs,(v5 `kc v8),(`a8p),C_relinked,"firsts",["k", `cR, `xx],(`a8T),C_grouped,"_law_signs","_law_word","_law_start","_law_cells","_law_times","_law_most",(`a9I),(`a9U),"_law_there","__getattribute__",(`fk `pv),codeAny_call_builtin,`N `Ns tk,hh.get? f=`bA,∃t,v=`AL,∃t,v=`N x t,∃(a:`f) (o:Obj) (items:`aZ) (n:Nat),`eh/\`i4/\`mX/\`Nt/\Iss h l items.toList,`ab->Prop,∃v r,vs=v::r/\Is h x v/\Iss h l r,hashStr w x,`ei->Nat,∀a o items n,`i4->`Nt->`t8=`aj,by simp at h1,Int->`ef,"NoneType",A0 `aQX,`V (by rw[beq_builtin_none];exact C5),callSpecialIfBoundUnlessNone?,"__hash__",`hF `bJ `eg,A0 `aQZ,Array.forIn_toList,
Iss `W J `bB,{ s with toks:=`ad4 },by rw[hl];simp,(`aQ_),`aQ4=`b,A1 `aQ6,λj=>`I (l.getD j `A=m.getD j `A),`I (l=m),i9 h2 λi a b=>?_,`Nv->Is `W u v'->`t! A s v v' (`I (t=u)),by rw[`fY,`t?,`ua];exact`ad5,SeqAt.EqAt.tuple_none,SeqAt.EqAt.tuple_int,SeqAt.EqAt.tuple_str,`v->`X,Value.isInt,Value.isStrOf,`m ⟨i,t,rfl,e⟩,Y2 `aQ7,(V2 `fn w).is,`kL UInt8,`Z (`aK L2.V),`Z (`Z L2.Key×L2.V),∃t,u=`Nx x t,by simp at e;subst e;exact`ad6,⟨u,`t9,h2⟩,`bK ys ws,`dV p.2 q.2,`Z (Str×V),cont.toList,(`aQ8),`ad?/\ep=`fZ,`bC `aec kvs xs,∀f,RelO (fs.lookup f) (mA f),∃o,`i4,(show `aee from x),∀a b,`aef,⟨z.1,ht _ _ z.2.1,z.2.2⟩,k a _ `i8 e,`a (`aeh `fl (`aa y)),(`aQ'),`b_ P w H h a u,∀b u,`ud->`NA,`gI ob u',∃sl,`pC=`a { o with slots:=sl },∃o',`aek,∀b o u,H b=`NB->`hG=`NB,∀b ps,H b=`a (.tbl ps)->∃more,`hG=`a (.tbl (ps++more)),λb u q _ _ _=>`AU,λb u q _ _ _=>⟨u.slots,`AU⟩,λb u q _=>⟨u,`AU⟩,k b u (hb b n) q,by rw[`ael];exact q,`aem=`aj,∀x:Str,`kV->mb x=`pD,Mod X.K `cv `eO,`ND y=`fp,X.H₀ b=`c,X.s₀.heap.FunFrames,s.heap.Ns `eP m,s.heap.IsCell c v,`em p.1=`uf/\`aep/\p.1≠`eP/\p.1∉`gJ/\∀v,p.2.data≠`pE v,`hL/\`cY,(I.ok.noex b o e),I.ok.funs.mem hb,Inv X `j σ H' { s with heap:=h',gens:=g',drawn:=d',toks:=t' },λz=>(hch c z).2.2.1 x c e rfl,λi x v e1 e2 e3=>?_,λz=>(hch _ z).2.1 rfl,⟨_,O,M,hL,r'⟩,(λ_ _ _ _ n=>n),(`aRe),(`bt b u e).stay (λc v hc q=>k c v ?_ q) `NG (`ug) `AZ,(`db hp).elim,Inv X `j `uh H s',`g M A (`aey `F x u) Q E s,`hN a `W h',⟨`A0,`A0,`AY,`aez,`aeA,`aeB,`aeC⟩,λj y v' e1 e2 e3=>?_,by simpa using `m4,`NK hiσ,hl j y v' e1 e2 e3,⟨u',r',?_⟩,z.sameBut hs (cne y c e),hn.sameBut,s'.os=s.os,`f0/\`A2,⟨v,H,I,r,h⟩,wpAny_loadName_local,wpAny_loadName_cell,`g `ak X.A (`cL `pJ `F) Q E s,(`aRg),wpAny_isTrue_Compare1,S2 ⟨H1,I1,q⟩,∀whole,`aeG=(do let v ← whole;standAt e.pos;`m5 [v] (truthy v)),λc H1=>Q (!c) H1,(`aRi),isTrue_and,(`aRl),(`m6 .Or [a] pos),hb wh `j s1 σ H1 Q I1 q1,⟨H1,I1,q1⟩,(`aRm),
(`m6 .Or `aeH pos),(`NO .Not a pos),tb σ H1 Q,(`m6 op [a] pos),hb `j s1 σ H1 Q I1 q1,(`aRn),(`aRo),`t7=`dv,`kO=`be its n/\`aeI/\`bK xs `NP,SqL X.K H a xs,h.ok `bt,`f3 a o hk,by simpa using hs,SqT X.K H a xs,by simpa using D9 `NQ d1,(X.wish E).Ok,⟨ok.mod,`um,ok.glob,ok.blt,ok.above,ok.inj,ok.has,ok.cab,ok.hd,ok.frames,ok.stk,ok.exf,ok.bs,ok.bsz,ok.noex,ok.exfs,ok.funs,ok.frf⟩,Inv (X.wish E) `j σ H s,{ D with nx:=u D },⟨σ,H,I,h⟩,(st::`bB),interactive,`m' σ H1,`aeK e `c `A6 `F=`un,St->Hp->(`hP)->Prop,t v σ H Q,(`aRq),wpAny_assign_Name,by simpa using rv,(`aRs),.AugAssign,`A_ x=`hQ,Nat->`hP,{ D with nx:=N,ct:=N,bk:=`m' },PSs X `hR tb,(`aRu),hN σ3 H3 n3,⟨m',hm,σ3,H3,I3,w3⟩,Nat->`gK,λx c e z=>?_,λp hp z=>?_,(`aRv),∀v,`kO≠`pE v,(∀b∈fp,`A!),Inv X `j σ H' s2,`k1 `bf X.w X.K tg J fp it tn,tn 0 s2.heap,(`aRw),`aRC n,wpAny_load,λi H=>∃xs x,`k2/\`i',λi H=>∃xs,`k2/\`NU,`up it a i,⟨o,e,λv z=>by rw[d] at z;cases z⟩,λi h h' st k=>st.at λo e=>k it `Q o e,λh' J sb=>?_,`NW (t':=`aG) `aeO f0 f1 f3 f4 f5,λys hy=>by rw[`pL hy hq];exact hx,wpAny_pyNext_list_end,(show `aeP from p),I.tuple_inj,IsRangeIter,Data.fields,Inv X `j σ H `hU,(`aRG),`uq (t':=`Bd) `pN,{ s with heap:=`fs `NY,toks:=tk },((`pQ:Nat):Int) - `Be,[`ap,`eo],PA X [a] ta,(`aRI),boot_range,(`aRJ),(`aRM),tn i `nb,I7.pin `us `aeT,`pR I7 n7,Inv X `j σ H2 s2,OpR X (`i! op) r,(`nc a op b pos),(`aRS),Q (`e `i? `aG) `ut->`aeU,λi j=>`e `i?,⟨`e `i?,H,`ep,`aM,q⟩,(`aRT),λi j=>`aeZ,λi j=>`ae_,(`i! .Mult),λi j=>`e (i*j),λi j=>`ae0,λ_ j=>0<j,λi j=>`ae1,λi j=>`ae2,`e (g i),Rb0 x y=`b,`I (x=y),(`aRV),(M9 I q ?_),(`aRY),(`aR_),`L rfl h,(`aR0),OpR X (`eq op') r',lastMarks `ae6 [b,c]=`r,(`aR1),(`R:Nat),∃i j,x=`N i/\y=`N j/\i.length+j.length<=`R/\Q (`ae7) H,`bK [x] us,∃u,us=[u]/\`gP,(`aR8),recursionLimit,by have:=r.dp;omega,by have:=r.un;omega,⟨[],H,I,`ae,h⟩,(`aR9),⟨by rw[← `am];exact z,?_⟩,H1 `ft=`c,`aa `ft,`Bh (t':=`Bd) (λb u e=>`pM) `aV ?_,CE `c_ P w H s Q u s',
Env0 P w K mg `n A `c_ s H,(us++ds).length=`P,`ag `bf X.w X.K `cv `eO CX k f fd ps sp,`Bi X.K fd ps ds,`bK dvs ds,jy0 CX X E,λr s' hq=>?_,sc.kind=`k5,sc.isCoroutine=`r,sc.isGenerator=`r,y.2≠`hJ,(`aR!),λw hw=>h w (A6 _ hw),by rintro rfl;exact `N5,P[i]?=`aQ,λv hv=>(K2.mp nd).1 `ae',`uv (`uw),W.cellsFrom_some,`av N ps `c0,(`uw).kindOf,`ae! (`Bk) `fu [],u30 CX P w K mg `n N `dc `c0 f cd A `c_ s H E,`L (show `ae? from z) `Q,λb z=>`L z (J b),e0.hok.fresh,P2 `aSa,List.length_replicate,(`aSb),λb o e=>(e0.bs b o e).1,`dy X `Bm r,`pD=`afa,PE X `pY (tCB r t),P3 `aSe,(`aSg),`dy X `ux r,`pD=`a `ux,(vs++ws).toArray,(`aSh),`bN->Nat,(`aSi),Builtin.Slice.sliceAdjust lo hi 1 `cM,((`afd:Nat):Int),slicePart_none,λ(m:Nat)=>xs[(`eT+`jc*1).toNat]?,λm=>xs[i+m]?,`uz `W t `a',`Bn=0/\`N9=`k8,`be (`afe).toArray,`g `ao A (`ng `k9 `Bo) Q E s,`hF `Bo "slice",A0 `aSj,`pZ `aff,(`aSo),`g _ _ (`afg `k9>>=_) _ _ s,A0 `aSq,A0 `aSr,`g _ _ (if `N! then _ else _) _ _ s,A0 (m:=`Bp _) (L5 `N? J),(`aSu),`bN->`gK,evalPart_none,r x lo hi H Q,`ni `ux `aff=`ai (`afa),(`aSw),subscriptTail,`aa `p_,(`uB=0/\`Oa=`as),`x (`Br),by rw[`bF];exact r.length.symm,(`aSx),C4 (p00 xs lo hi) hz,(`Ob (`uB)).take (`Oa - `uB),SqT K H b ys,by rw[`ad];exact hz,if `hY then (if i<n then `a `dd else `c) else if `Oc then `a `afj else `c,(`afk).bind λj=>`uC,(`as:Int),r x xs H Q,`g `ak X.A (`de `Bm (v::us)) `fw `aE s,`uD=`a3/\Q v H,atI z.cps.toList i,EP X `j σ Q w s,⟨z,H,I,J,q⟩,(`aSy),(`je:Int),subscriptTail_builtinR,pl.isList.typeIs,slot_list_getitem.lookup,λr s'=>r=w/\EP X `j σ Q r s',(`aSz),⟨rfl,fin⟩,-(`t':Int),`em p=`Oe,{ cls:=`dv,data:=`be `afm n' },`bK ys its',(`aSC),(`aSD),Option.getD_none,show `afp by decide,`gR `nj 0 lo,`s (`Br),Q (`e `jd) H,⟨`e `jd,H,`ep,⟨`kP,by rw[`bF,J]⟩,q⟩,∃z,xs=[`k']/\`p0/\Q (`Of) H,∀l,`Bu->Q `nl (upd H l `p2),`hE `O,call_list_seq,(`aSF),∀l,`Bu->Q `nl (upd H l `uG),ob.dict=`c,⟨o,e,ex⟩,⟨⟨o,e,ex.1⟩,λa e2=>?_⟩,⟨o,e,ex.2.1⟩,tyV K T x H1,Slot T name id,
typeOf `Bm=`ai (`bs "method_descriptor"),MtR X id r,`nm o name `F `Bw=`A8,(`nn o name `k!),Zr0 I1 r1 ty,(`gL `dY (`A4)).any `b9,(a::b::r).length,(b::r).length,`em l=`Oe,"list.append",⟨e,?_⟩,`Z WData,pre_splitW hpre,(`b==`b),WShape.has,`Bz a=`afr,s₁.gens=#[],`gU `aA `uK (`uM `uI `BB) `afs `d_,hA b (`On),λb o e=>?_,`L rfl z,`Oo->`M,∀(w:`E) (h:`H),YP w h->`uN h,SqL `p5 H a `uL,W.WalkO q loose XP YP `Op d [] `afu,`uP=`a ⟨oc,od,`gV fd,osl⟩/\`BE,Fun K x `dc st f fd,`hW k (`uv (`Bj `dc `k? `O f cdv)),∃t,PSs (u30 CX0 P w K mg `n N `dc `k? f cdv A `c_ s H E).nox `uO t/\`afv,`ag P w K mg `n CX0 `cf f fd ps sp,Ww0 lk J S len λA outer s H vs Q E hr M=>?_,hbody cdv A `c_ s H vs Q E hr M,⟨t,h.nox,q⟩,⟨⟨oc,od,kV,doc,pm,an,cdv,ct,osl,rfl,l,c⟩,k⟩,∀b o,H b=`aj->`hG=`aj,Option.none,y.2≠`pE,y.2=.local->`afw,y.2=`hJ->`ue y.1=`hI∨`ue y.1=`hQ,`afx=n+`p6,`Or=(`dA[k]?).bind (N[·]?)/\(`Or).all (λy=>`BF==`hQ)=`b,`afy λj=>`Os,(`afz).length,`Z (`afA),x.2=`hJ->∃c,`BG x.1=`fp,acc.lookup y=`fp,λy d hy=>?_,λx hx hf=>?_,h2 x hx hf,closureFor,List.lookup,`afC=`b,by simpa using hx,(.ok `BK),`ai (`np ok),`ai (`np r),(`aSQ),`p7=`pG,Nat->Nat->`BN,W i m ys H2,(`aSR),J.yld i H2 x H3,Wk `fx σ4,if b=`b then te σ4 H5 λy H6=>H6 D=`Ov/\`jd<`R/\∃m',m'<m/\W `a4 m' (ys++[y]) (upd H6 D (`s (ys++[y]))) else ∃m',m'<m/\W `a4 m' ys H5,{ s2 with heap:=`afE },s3.heap.get? b=`aj,`uT _ _ st2 b hb,(b4 b o e),`L `hO `jh,X4 X `c0 cl N' s3 H3 fp,B1 (d2 b hb),λx c e=>`afG x c (hcl1 x c e),`uU=`aSW,(`ji).2.2.2.1,`bU (I3.stkSub b hf),{ s3 with heap:=`eX,toks:=`Ow+([]:`Ox).length },(`aSX),old _ o ho,by subst M;exact e,`L hp (by simp[X4]),(k7 `p9),Ia.pin `us `aeT,∀cl s H ex,`afK,∀cl s H ex,`afL,∀cl s H ex,`afM,ok.free x hx hf,`m `afN,`i `afN,as.2.2.2.2,λv H'=>`m' `uh H',λ_ s'=>SP X `j D `BK s',`p'->`aK DL.D,`p'->`aK DL.Res,`p'->`aK (`Oz),`p'->`nr,(`jj).bind,(`ld).bind,W5 f G ds δ',(`uW).bind,`afy λj=>ks0 `nu,V1 f gt ge δ ds,(`OA).map,`a (`ae0),`a (`ae1),sIx `as `as hi,
`a (`e `as),(`uX ds).map,(ys.map `afP).sum+`jd*sep.length<=16777216,(`aS_),`BV=`a (h d),V1 f gt ge δ `a',List.filter_cons_of_neg,List.filter_cons_of_pos,rh0 `aS1,`BX=`dC,`uZ=`dC,ifD g Ga Gb δ,by unfold ifD;rw[h];rfl,Y0 n `dA gi f gt ge δ,o2 ga gb f δ,λz=>(by cases z),`nx/\`afR,g _ _ h.1 h.2,fd.scope.names.lookup,λ(i:Nat)=>`gH `eT,TelO K H B p kvs,∃a xs,`eh/\`OB/\`bg,∃a xs,`eh/\`BZ/\`bg,∃a xs,`eh/\`nx/\`afS,∃a xs,`eh/\FnAtH K H B a `u1/\`OC,∃x r,xs=x::r/\`u2/\Rps K H B ds r,Rp K H' B' d v,⟨a,xs,e,q.mono g,`OE⟩,`bg->Rps K H' B' ds xs,Rps K H B es ys,Rps.append,by simp[m7],∃xs,H a=`Od/\`bg,`f8 (`qb l),(R6 ds).map,Rps K H B vs xs,[`s ks,`jl],XcR K H B c n a,g _ _ h1 h2,g _ _ q1 q2,B a/\`le,m[i]?=`h_,`u4->`bC G l m,(m.set i b),`bC `B1 σ δ,`a (.ow es),SlR K H B o s,`cg=`OG,`B3 `lf h,⟨v,rfl,r⟩,`L (B2 e) (hz ob xs),∀B δ,PE X e (tD X.K B δ g),∀B δ,PT X e `OH,∀B δ,PW X e `OH,∀B δ,PA X es (tDA X.K B δ g),Rp K H B dy y,λpins s σ H Q I z=>h `j s σ H Q I `OI,(`OL).bad,⟨_,en,e,λv H' s r=>⟨t,`afY,`B5⟩⟩,⟨b,en,e,`afZ⟩,⟨t,`jo s,h,λJ s'=>k J (s.trans s')⟩,PTD X e gt,⟨ds,en,e1,λvs H1 s1 r1=>⟨`af_,λp hp=>k _ _ (`h0 `jq) ?_⟩⟩,(Zh0 `b').imp,∀(i:Nat) (ds:D) (a:`f),`af0->`qg->`a_ a=`c,∀H₀ B₀ δ,PS X st `af1,PSD X st G,∀H₀ B₀ δ,PSs X st `af1,Wr idx σ σ' δ δ',∀B d δ,PG X tg (tDG X.K idx f B d δ),`kZ (B9 `u),`es K `a_ `aL H' σ' δ',λi ds a h1 h2=>?_,w.oth i hi,e.fr i ds a h1 h2,⟨r,en.grow s',e1,k⟩,∀B δ,PI X tg e (tDI X.K B δ g),⟨_,en,e2,λv H' s' r=>?_⟩,⟨a,rfl,⟨xs,`c2⟩,k _ H' s' `af2⟩,⟨xs,xs[i],`OO,by simp[`u]⟩,rs.get (i:=i) (d:=_) (B6 hi),y xs `OO,⟨`nB _,_,B6 hi,λB' gB _=>r'.mono gB⟩,⟨xs,`OO,`OP⟩,PDA X [a] gA,`lh X `hR G,tDS X.K `a_ `aL δ G D σ H,hb `a_ `aL δ `j s σ H D I h,by rw[a0 b n];exact h,fun σ' H' en'=>⟨δn,en',ei⟩,∀B δ,PF X ifs `OH,`et n Sl.un,λi j a ds es h1 _ _ _=>(pt0 h1).elim,∀p H',`dh->`ch->`af4->Q `dD H',∀B δ,PE X e (tDF X.K B δ g),
PDF X `lb `B9,fun σ H Q=>∃B δ,tD X.K B δ ge σ H Q,(`aS6),(`aS8),(`aS'),PD X `lb `B9,PSD X `af5 (m5 `OR `B9),Fun K x `dc st fa fd,∀ds d,`vc->`b1=`P/\`af8,`ag P w K mg `n CX0 `cf fa fd ps (spD K f),⟨_,en,e,λv H' s' r'=>q v H' s' r'⟩,⟨_,en,e,fun σ' H' en'=>q `A H' en'.same `OU⟩,⟨_,en,e,λp H' hp s' r'=>q _ H' s' ((r'.toO hn).rp (λa z=>`jr) (λz=>hb p z hp))⟩,∀ds d,`vc->`b1=`P/\`OT,`ag P w K mg `n CX0 `cf fa fd ps (spN K f),⟨_,en,(`vd).2.1,λp H' hp s' r'=>q p H' hp s' (r'.toO (`vd).2.2)⟩,λi=>`af?,by rw[`fy] at r;cases r;exact `ae,λt' k=>⟨`cx,H,I.tok k,⟨t',rfl⟩,q⟩,(`aTc),⟨o,h1,h2,h3⟩,⟨o,h1,h2⟩,`bt a _ hq,N3 W.kitx_dict `f3 ⟨o,h1,h2.1⟩ e `du fin,Int->Int->D,∀i j H B,Rp K H B `OX `i?,k _ H `dg (hg i j H B),SqL K H b zs,`as+zs.length<=`R,`aga<=`R,`B0 (Z5 h),⟨ry,`OY⟩,L2.atI xs i,`m ⟨a,xs,_,v,rfl,rfl,`c2,hv,k _ H `dg rv⟩,∀B δ,PO X e (fun σ H Q=>∃o,Env X.K H B σ δ/\`aB=`aj/\∀H',`ch->Q o H'),by rw[j9] at r;exact r,k _ H `dg (by rw[j9,`Cb]),`cv `nk=`c,PDA X [e] gA,Gl X `nk,(`bD `nk p),Heap.DictOf.new,`ag P w K mg `n CX0 k fa fd ps (spD K f),`agf/\`agg/\`O0,flat d=`b,fun δ=>`nE,`a (.ow `BT),`df i (.ow (`s (ds++[d]))),`df i (.ow (`s `agh)),ds.getLast?,`df i (.ow (`s `agi)),`df i (.ow (`s (ds.set j v))),`Z (`Z DL.V9),K1 ks ds q,(`u0 ds).map,`eZ×`p,`a (ks,ds),(`vf).bind,(W6 r.1 k),(V4 r.1 r.2 k v),`aK (`Ce),(z60 d).bind,λk=>`agj,λk=>.bl (xor neg (`O2)),S8 gt G n δ',`agk/\`bo y 50=`b,if isL d=`b then `c else `a5,mkF n N G ds=`a5,⟨hl,?_⟩,⟨e,Ck0.mpr hn⟩,mkN n N G ds=`a5,`a (`O3),if `O4 then `agl else `c,At knd `W d xs,∀h',At knd h' d (storedH xs k a v)->`Cf->Q () `O5,`Cg d `bJ v,A0 `aTg,wpAny_dictFind_heap,atKey_none_of_get,not_mem_keys_of_get,wpAny_updateDictKeys,by have e:=`agn;omega,P4 _ ho (B50 (`O6)),hc.mapDictKeys _,by simp[he,`vh],`Ch hkey ho hd `lk,⟨hn,`a!,λx hx y hy e=>Z (by rw[`al,`fy,`fA] at hy;have e2:x=k:=`Ci hy;rw[← e2];exact hx)⟩,atKey_of_get hn hj,Obj.data_mapDict hd _,
"__setitem__",slot_dict_setitem,R9 (p::r) k,by simp[R9,`O8,e],`Ck vs k,`Ck (`vi) k,by simp[`Ck,`O8,e'],vs.any `O7,(`aTj),`au ?_ ih,`J (`Cl),`V (`Cm),r.repl k ry,`dV (kV k) u,RelO `Co (`agq),`O!=`Cn qs k,(`vj).isSome,Option.isSome_map,(`ad!).is,all r x hx,upd H a `agr,RelO.some_of,(`aTk),h w' _ (`ep) J,DGet H a y o,(`Pa).isSome_eq,o70 `bt e,by rw[← `Pb];exact z,λh' J hs=>h _ ?_,let ⟨q,_,_,hq,_⟩:=J;⟨q,hq⟩,vl0 I `Pc hs he (Zf0 hl hd (rel.put k rv) J),A1 (A0 fin),`hF `bJ `e0,⟨rfl,rfl,rfl⟩,`nF->`gK,`Z (`qm),⟨`vk,λb q=>?_,hd⟩,⟨ob,h1,h2.2.1⟩,`cg=`a (.ow d0),(`aTn),`m ⟨v,e,`f8 `h1⟩,`i ⟨d,rfl,e⟩,⟨a,rfl,hb,r⟩,⟨_,hi⟩,`es K `a_ `aL H' (`NI i (`a `dD)) `vl,Gr H H' B `u?,λb u n h=>⟨λz=>`qn n (S6 h hp),s _ _ h⟩,∀{j:Nat} {d':D} {b:`f},`nu=`a (.ow d')->`p7=`a (`a `jw)->b≠p,λz=>`jx _ q2 (by rw[z];exact hp),⟨`Pe s,⟨`af3,λa z=>`m `Pf,`jy,?_,`jy,`agx⟩,`agy,`ln⟩,(`aTo),⟨b,e,`m M,`f8 (λo h=>s _ _ h) g⟩,(`jx a z).same s,`L rfl (live h2 h4),`L rfl (live h1 h3),`L rfl n4,(DL.frz δ),λa=>B a/\¬`Pg,`m ⟨z,q⟩,(mg0 (`qo)).elim,⟨B',`jy,λa z=>b2 a (c1 a z),J⟩,c2 a `Pf,`L (`nG i d a q1 q2) (`ln a z),λb=>B b/\b≠a,λb z=>z.1,`m `Ph,(kq0 q).elim,⟨r,`vn,hq,k⟩,λp hp=>k p _ hp `jq ⟨[],j6,rfl,`ga⟩,(`k_ `jz `F).map `cZ=[`gM `gb `F],Array.size_append,by rw[`bF,`bF];omega,List.dropLast_eq_take,∀H₀ B₀ δ,PE X e (tX X.K `a_ `aL δ gx),∀H₀ B₀ d δ,PG X tg (tTG X.K `a_ `aL ft d δ),PTG X tg ft,`I `aTt,(yc0 `b' we0 hs),k _ _ (`nH (`Cv s1 b1 b2 hi M J) b1 b2 J `OU),(setAt i g),S8 gt G m δ'=`di,fun σ' H' en'=>⟨δn,en',e2⟩,(`k_ [`Pj] `F).map `cZ,`kZ (B9 h2),`kZ (B9 h1),∀(d:D) (n:Nat),`lo->deq d d=`b,by unfold deq;rfl,by unfold lean at h;unfold deq;exact q20 ds n h,∀(ds:`p) (n:Nat),`Cy->G4 ds ds=`b,by unfold G4;rfl,min `b1 `jA,`b1==`jA,List.all_cons,Rps.inj I ld le r r',`L z `l,`b! es m=`b,`b! ds m=`b,`lo->`Pk->`Cz->`agH->`gP->`Pl->`t! A s u w (`vq),`aTv _ _,SeqAt.EqAt.bool_int _ _ _,SeqAt.EqAt.int_bool _ _ _,
`aTw _,`aTx _,SeqAt.EqAt.bool_str _ _ _,SeqAt.EqAt.str_bool _ _ _,SeqAt.EqAt.none_list p' J,SeqAt.EqAt.bool_list _ p' J,SeqAt.EqAt.int_list _ _ p' J,SeqAt.EqAt.str_list _ _ p' J,SeqAt.EqAt.bool_tuple _ p' J,Ak0 _ _ p' J,An0 _ _ p' J,Rp.inj I ld le hx hy,pu0 _ _ ld,(`aTA),SeqAt.RcAt.lists,D60 (A:=A) p p' `agI J,`aTD hl,`Pm+n'<`cu,tw0 (A:=`bV) a3 a1 rr M rv Z λd e x y u w h1 h2 h3 h4 h5 h6=>gm0 I n' m' d e x y u w `bV a2 h1 h2 h3 h4 h5 h6,a0.toArray.size=`jA,by rw[`bF,← `CA,`Pn],au0 I 50 50 dx dy x y v u X.A `d lx ly hx hy rx ry,Bool.false_xor,‹`p ›,B80.mp hn.symm,by rw[`u9,`nI];exact hz,(`aTE),by rw[`am,tc0,tc0];exact hw,(ee0 r l u),⟨_,rfl,`CB⟩,λl hl=>k _ _ `CC (qn0 hb hl rr),(`b? `f').map,P5 λk _=>?_,(`cK h).1,λl hl=>k l _ (`qq hl) (`h0 `CC) ⟨_,j6,`Pp (`vo hl)⟩,`ag P w K mg `n CX0 k fa fd ps (spN K f),FnN `bf X.w X.K `cv `eO x k ps f,λp H' hp s r=>k p H' (`qq hp) (`h0 s) r,ds.reverse,(`y h rfl),by rw[`Pr];kernel_rfl,`vs->`vs->Prop,Nat->`Ps,WalksS `fn w `bV I fp wr G n P St,Moved (C::wr) G s s',`agL C=`agM,(`aTJ),`h2 `Pq,(`pZ `Pt),`a `agR,R (.ok `agS) s',`Pu `qr `CE `aF,(`aTN),λb o hb e=>`CF e,{ s with heap:=`agT },`fo `cX=`agU,`cv `cX=`c,`cv `lq=`c,Gl X `cX,Gl X `lq,`eQ [`Pv] `F=`agV::`js,(`agW).any `b9=`r,(`aTO),E9 ?_ e1 h1,λv s2 hv=>U1 hv,R9 `u1 q,λd' e'=>?_,List.zip_append,∃b,v=`k7/\`lr,k v H2 `vt rv,DGet.t hp hb,k H2 `vt,(`ls i g),he0 `jC `b' (set_dict hu) ha `j s σ H v u Q I r `agZ,qp0 (q:=q) (v:=v) hl,Rps X.K H1 B `CH ys,vc0 `Pw `vv,`nK `vv `Pw,(`aTQ),`CI hi J ⟨ys,j6,O,`Py⟩,(`aTS),FunV K x `dc st fa fd dV,`agf/\`agg/\`Bi K fd ps us/\`qs/\∀H B,Rps K H B dd vs,c60 `bf X.w X.K `cv `eO x k ps f dd,(qm0 (E:=E0) F `PA hg hm kp hb hd kx0 `bP hdb he hpl).imp,`CJ (J H1 B),PD X `pY `ag1,`aK Obj->`ef,`g `ao A (`ag2 a) Q E s,by rw[ho];exact h,λ_ _ _=>h',A0 `aTV,`g _ _ (`ag2 ((a:Int).toNat)>>=_) _ _ _,`g `ao A `ag7 `ag8 E s,List.forIn_toArray,(`aT3),(`aT5),A0 `aT7,h₄.objs.size,{ cls:=`fm,data:=`be #[x,y] },`g `ao A `ag7 Q E s,
by rcases `jE with h|h;rw[hx] at h;cases h;exact h,λh' e hk he=>?_,A0 `aT9,A1 (hQ _ hk),IsZip h z TI TO `aF,as[j]?=`a a,ys[j]?=`bA,ZG xs ys S h as,g.pairs j a hj,ZSt h z TI TO i1 i2 l1 l2 S xs ys i,ZLow z TI TO i1 i2 l1 l2 S,hk _ _ (B1 L.z) hz,ZSt `W z TI TO i1 i2 l1 l2 S xs ys i,`vy->`vz->`ahd,wpAny_pyNext_zip_item,λc o c1 _ c3 c4 e=>hk c o c1 c3 c4 e,xs[i]?=`c∨ys[i]?=`c,∀h',`vz->`PI,wpAny_pyNext_zip_end,`CZ->`m2,`a `aT',acc.toList=`qx,"list.extend.loop",(`aUc),P1 F.entry_extend_loop ?_,`vC x9 _,`g _ `bV (`Ba `e1>>=_) _ _ _,λj a hj=>?_,(`PJ `ahe),acc.push `ahe,(as++[`dX]),`ab->`ef,∀S,S≠z->S≠i1->S≠i2->ZSt `W z TI TO i1 i2 l1 l2 S xs ys 0,ZLow z TI TO i1 i2 l1 l2 `O,∃f0,IsZip `W z TI TO f0,Sn0 xs ys lo s h' as,`O<`f7,F.plain_list_iadd,{ s with heap:=`PL },(`fB (`PJ `jG)),{ cls:=`fm,data:=`be `ahf },wpAny_of_eq,F.plain_tuple_new,A.in1.handled=`c,λo e=>hk _ o e,⟨_,hz⟩,F.args_object_init_2 obj _,upd `vD p.1 p.2 b,by rw[`ahh];exact q,gn0 X (`bs T1) (`bs T2) r,`cv x1=`c,`cv x2=`c,`fo x1=`a (`bs T1),`fo x2=`a (`bs T2),x1 ≠`AV,(x1==`uj)=`r,x2 ≠`AV,(x2==`uj)=`r,`eQ [`PN] `F=`ahi::`js,(`gL `nJ (`A4)).any `b9=`r,(`aUe),(`aUf),(`PO).map `C_,z00 as (xs.zip ys),`a (`afV),(`C2).map `C_,∀b o,b∉fp->`CG,(upd H `O `qy),upd H `O `qy b=`c,{ s with heap:=`fs `ahk,toks:=t' },(`aUh),λi H=>∃xs ys x y,`k2/\`PQ/\`i'/\`PR,(`PS)/\∀ys,`PQ->`PR,λi H=>∃xs ys,`k2/\`PQ/\(`NU∨`jd<=i),λys a7=>by rw[`pL a7 O];exact hx,by rw[`pL a7 M];exact hy,λh' hk=>⟨rfl,`vG (t':=`aG) (fp:=`qA) hf `aho⟩,⟨_,he,λv z=>nomatch z⟩,⟨old,k e `Q _ he⟩,⟨_,by simpa using b1⟩,(`aUj),`fo `eS=`a `vH,y6 `e3 `gd λh' hz hTI J hi1 hi2 M hk=>?_,y4 (s:=`PV) hz ?_,⟨_,_,J⟩,(`aUl),(`PW).length=`ahq,by rw[`Y,`c4,`vJ,`PX],⟨Z5 ht,`ahv,by rw[`cj,`ahw];rfl,`PZ⟩,t80 `ahx j6 `P_ (ry.mono gB),∀a,B a->`ny∨∀ys,H a≠`vL,by rw[m7] at r ⊢;exact r,`cv `e0=`c,Gl X `e0,(`aUn),(`aUp),`ahy=`r,(c9 s x t),call_gives,Int.natCast_mul,Bool.or_eq_true,z.cps.size,Option.isNone_none,
w50 `W z TI TO v0 f,∀Q':`jH,`ahz->`g `ao A (`CK) Q' E s,`vz->`P0,A0 `aUs,w50 g1 z TI TO `vN f,A0 `aUw,`ev g2 TO a b,`nO _ _ D.TOi1 (`lt _ _ `C6 hTO),A0 (K0 a0 rfl ?_),A0 (d6 `f5),(`aUA),(`aUE),g5.get? c=`aj,g5.IsListIter,D.TOi1.symm,Builtin.SmallTypes.ownedTupleHandOut,(`aa `nP),∀h' e,`vz->`ahD,wpAny_pyIter_slot,F.slot_zip_iter,tt0 h' z TI TO,`ahE->`nQ,⟨_,_,a1,`i `aM⟩,⟨_,_,a2⟩,⟨_,_,b1,`i `aM⟩,⟨_,_,b6 _ _ `C6 D.TOi1 D.TOi2 hTO⟩,λc o c1 _ c3 c4 q=>b6 c o c1 c3 c4 q,λc o c1 _ c3 c4 q=>hk c o c1 c3 c4 q,`ahF h z TI TO/\`ahG,⟨v,f,`ahH,hv⟩,Inv X `j σ (upd H d `agr) `hU,Q () `hU,`ad' `C7,"dict.update.loop",Builtin.«dict.update.loop»,(`jJ `ahI),upd H d (.dT (`jK kvs (`qD i))),(`aUL),(`aUM),upd H d (.dT (`jK kvs [])),(`aa x.p),`a (`x us),`vC s80 _,(`aUP),by rw[b7 (s40 hl hd `du)];exact hl,(`aUR),`P<=`R,(.dT (`ahK)),Inv X `j σ `nR `P3,`ge (a:=`O) (o:=`Pd) (t':=`aG) `qE `aV (pd0 `W hb),{ s with heap:=h1,toks:=M },(`C9).bind,Q9 [] [] ds,(`u0 ws),⟨u,q,`f8 `P4⟩,.of rfl no nt,(by rw[`ahM];simp),∀w' s',`P5->`dV x w'->Q w' s',(`aUU),(Dm0 _ _ _),λw hw=>?_,λhn h' J hs=>?_,h1 x e1 _ _ (`ep) hv,M2 X o `C! `k! e f `dY,(`aUW),wpAny_Call_method,(`aUX),(`aUY),(`aUZ),(`aU0),λen s4 I4=>⟨z,_,I4,rz,q4 en⟩,`aU1=`qp,(`aU4),⟨`nS,hfew,`nT,htrees⟩,λiv H1 s1 r1=>⟨d,`Cu,e3,λfv H2 s2 r2=>?_⟩,`aU5 hl,`nK (rx.same J) r2,(`u' J).mut,(`aU'),⟨`ahN,H,`ep,⟨`kP,by rw[hl]⟩,q⟩,`a (`e `eY),`lv[j]?=`bA,Q (`a (cmp x y)) st,wpS `aA A E s `ahP Q st,`C?->`Da=`r->`gZ,h.pm.size_eq,(`aVb),lt2 a b=`b,∃q,`vQ,keyLt' `Db x y,(`aVc),(q.1==r.1),(q.2==r.2),A0 (ns0 (A1 `P')),`qF (pk h),∃q,`lw `W x.1 q,A3 `aVi,`P? λi j hi hj J e=>?_,firstOfTuple',λu hu=>hv u `Dd,λfs ns a c=>`bE,(`jM).toArray,List.mapM_toArray,(f0::fr).map λ_=>`h2 `g_,`a (`bs `g_),∀a o,`i4->`mX->`t8=`aj,pk h' v=`De,x.all v hv,List.map_congr_left,PrV H ys ps,`vE a∈ys,pk `W v,(λv h=>by cases h),PrV H zs qs,`z->`z->`qG `an Sem (`z),`d0 arr (`n+i),(← lt' key x).map (!·),min ofs maxofs,
lo+(`NX)/2,arr[`n+i]?,key∈`bu,Nat->`Qa,∀i,i<lo->`Df,∀i,hi<=i->`ahS,(`c,lo,hi),ForInStep.done,λc t=>t=st/\∃r,c=(`c,r,r)/\r<=n/\(∀i,i<r->`Df)/\`ahT,⟨rfl,lo,rfl,a2,a4,a5⟩,wpS `aA A E s (`ahU) Q st,pos (`Dh)=`b,⟨rfl,0,1,rfl,`h,`h,hp,`h⟩,A2 `aVk,A2 `aVm,A2 `aVn,⟨e1,lo,J,e2,a1,a2,a3,`m `d⟩,A2 (k r b2 b4 b5),pos (`ahV)=`r,SortSt.mk',out++`Qb,`Di ib `a8,gallopOf `ahW,`jN `Qd,`jN `Qe,`lx "list.sort.gallop",(`bw - ia),`ahX "internal:list.sort.merge-bound",h.pm.mem_iff.mp,`Qf `Dm,`u3=`a l[i],`ly=`nV,`Dn ib `cP,(`aVp),(`c,`h6,`e5,ib,mg,ac,bc),`d0 y ib,(`gi==`cP),`ai `aVv,`Dk λs=>yo0 s mg,n<=out.size,(`ahZ).toList,(loL a y out ia ib).toList,D7 a ia `d,A2 `aVx,⟨M2,`qJ,h2,`nY⟩,`qK∈`bu,A2 `aVz,⟨M2.mb hx,λz=>M2.ne A5 hx `p9⟩,List.getElem?_drop,(`i `nZ),(`v1).length,by rw[← `bp,x1,`ad,`bp,`Qk];have:=L.n;omega,`qM∈`bu,⟨M.ma hx,M.ne hx A5⟩,(`m `nZ),by rw[← `bp,x1,`ad,`bp];have:=L.n;omega,h.mg.pm.length_eq,`z->`vP,∀r t,`c6->`Dr->Q r t,by have:=Q5 e1;omega,λc t=>`c6/\∃r,c.1=`di/\`Dr,⟨`ah0,rfl,L0⟩,λx' c t=>`c6/\`lA/\Lo b cmp a y `Ds `ex `ey `ez,(`aVA),T6 (a:=a) (i:=ia) Z,A3 `aVK,bc+1 ≥ c.2.2.2.2,`qN _ m1 _ m2 (M.ne A5 A5) hc,ac+1 ≥ c.2.2.2.2,Oc b cmp a y (1+x+1) c.1 `ex `ey `ez,(1+x+x'+1),⟨h.1,h.2⟩,⟨h.1,?_⟩,go mg r t' h,A3 `aVP,`L hI.2.2.lt `d,`Di 0 nb,(← `d0 b `e6),(← `Qn),`jN (← `ah1),`jN (← `d0 b nb),l2.reverse,l1.reverse,`Dn 0 nb,(`n_==0),(`c,`n_,nb,`h6,mg,ac,bc),`d0 y `e6,(`g2==1),hiF a y out na nb,M6 (c:=y) (n:=nb) `d J,rt a `jP,hc _ _ (D7 a `jP `d) (D7 y `e6 `d),A2 `aVS,`qO∈`bu,A2 `aVU,(`aVV),l6.mp `v3,λx hx=>ha x `ah3,λx z hx O=>?_,`dE y _ `d,M6 (c:=y) (n:=nb) `d O,`qP∈`bu,λx z hx J=>?_,(rt y `cP),λx' c t=>`c6/\`lA/\Hi b cmp a y `Ds `ez `ex `ey,(`aVW),M6 (c:=a) h1 a0,Ov b cmp a y (1+x+1) c.1 `ez `ex `ey,(`h5 s).extract,(`aVX),Array.toList_setIfInBounds,`ah5=L0++l++S,`pW `d,(`gg).toList,na=la.length,nb=lb.length,Asc cmp la,Asc cmp lb,X0.mp hg.pm,λx hx=>hT x (by simp[hx]),(`aV_),(l4 s2 a4),`a (`Dx),
(`aV0),`d2 `d,`aV1 x2,N4.mp `u,`ah7 (`Dy) sb,`ah7 sb (sb+`qQ),`aV2 x2,(`lu (`Dz t (`aia))).isNone,List.Perm.of_eq,`dE X _ `d,⟨?_,?_,?_,mT,nT⟩,rt X (`DA),rt Y Y.size,rt X `v4,M6 (c:=X) (n:=`v4) `d `aV,`b3[j]?=`bA,xs[o+i]?=`aQ,xs[o+j]?=`bA,h i j x y J hjn ex ey,(`v6 ex),(`v6 eu),(`v6 ev),(`aV5),c=(`c,x),c=(`c,n),(`aV6),hr.el (i:=o+x) `d,hr.el (i:=o+x - 1) `d,A3 `aV8,`qN u mu v mv (hr.ne C.nd eu ev `d) hc,A2 `aV',A2 `aV!,UpO cmp `v8 o n,A3 `aWa,`qN u mu v mv (g2.ne C.nd eu ev `d) hc,c=(`c,l,r),(`aWd),i<x->`aic->cmp v z=`b,λc t2 hJ=>?_,⟨rfl,l,l,rfl,M,lo,hi⟩,(g2.mem ez),`Qs[i]?,by simp at hi,rs.flatten,(`ly).toList,Sv b κ cmp `bB lo t,hp.size_eq,`a8 - lo,lo+n<=`a8,`f4 `d,(`aif),(`n1).toList,(`gh t4).push (lo,n,0),⟨S4.gn.kd,S4.gn.pm,S4.gn.fa⟩,(`gh t4).modify i λx=>(x.1,`DC,pw),minRun' `a8 `a8 0,A3 `aWo,(`ly).size > 1,(`ly)[`n2 - 2]?,A3 `aWr,(`cy `agS),`a (`qR `cX #[] ep),wpAny_newList,((`Qv).push (`qR `eg `gS 0)).push (`qR `cX #[] 0),Heap.size_update,Heap.get?_push_ne,`Qw c=`aj,vs.toArray.size,Array.size_map,bne_self_eq_false,`P? λi j hi hj O=>?_,{ s with heap:=g },pairsOf (`jM),F.slot_dict_iter,s.heap.IsKeyIter it d i `fZ ep,`g `aA A `Qx Q E s,A0 `aWx,A0 (A1 (A0 (`ca))),A0 `aWF,show Builtin.Dict_items.ownsTuple `Qy=`r from `ah,`g _ _ (if `aih then _ else _) _ _ s,`V (show ¬`aih by simp),A0 `aWI,A0 `aWL,show ¬`eT<0 by omega,wpAny_isOneOf_keyiter,A0 `aWN,`lB it (Obj.mapFields (`Qz 1 `QA)),Obj.data_mapFields,firstArgMember,(`aWO),`b! ds 50=`b,ds.any λd=>`QB,∃(j:Nat) (d:D),`aij/\`QC/\`QB=`b,λ_=>`bM,KeyKind `fn w K,A0 (O0 h2 d2 ?_),A0 (l9 h1 d1 ?_),A80 i `h7,show `QD=(`h7 - `a4)+1 by omega,KV `QE vs,(`aim `ain),(`aWU),kr0 l1 r1 q1,λe=>`QF `f! `DF,(Z.map `b9),⟨t,q3.trans e⟩,(wf0 ds).map,`aW (`nz) vs,`vj=`a p,h'.DictOfH,dictSetDefault,(`aWV),`jv+12<`cu,R9 (`QH) t,`df i (.ow (`x [`s (ks++[`bO]),`s (vs++[d])])),(`QI).zip (`QJ),(`as:Nat),wpAny_mkInt,.ow `aWW,by unfold R6;rfl,`ahE->`QK,`g _ _ (`vw `jD 2>>=_) _ _ _,h₃.push `aip,`fs `aW_,(Tm0 K a b),
`hF `jD `hT,hk c o hc.2.1 `ahn hc.2.2.2.2.1 hc.2.2.2.2.2 e,`eQ [`QL] `F=`aiq::`js,`aeR=`N_::`N1,(`gL `nJ (`N1)).any `b9=`r,(`aW0),λc hc=>?_,λo q=>J _ o q,`x [`e8,`ahv],`DH `air,(`aW1),zs.map `QM,zs.map `ait,`a (`s ((`qS).map pD)),`fo `lC=`a `QN,`x [`aiu,`N w],`wc w=`b,`a (`h9),(`aW3),⟨[.sh (pr p)],rfl,rfl,rfl⟩,`a `QP,`N ⟨#[cg i]⟩,(ones l).foldl,`wd++`QQ++#[c],(`QR:Str),((ones l).map `afP).sum,(`we).length=`b8,by show l.toArray.size=_;simp,`aW5=l,by simp[`ba],⟨`h,λc hc=>by simpa using h3 c hc⟩,(`aXe),(`aXg),(`aXj),(`aXm),(J8 (oA `h! `g5)),(`aXD),(J2 (l40 5) `jT),(`aXH),(`aXK),o2 `U `cA ixD,(oA `dF W8),(`aXP),(`aXR),(N7 2 `lF),(`aXT),(`aXW),(`aXY),(`aX4),(`aX9),(`aYa),(dy0 5 `a?),(`aYu),(ob (`aiL)),(`aYL),(`aYS),(`aY_),(`aY2),(`aZa),(`aZc),(`aZe),[`cR, "p", "q", "walk"],(`aZf),(`aZi),(ob `aiW),(`aZl),(ob (`aiZ)),(`aZy),(`aZB),(`aZJ),(`aZL),(`aZM),(`aZQ),(`aZS),(N7 4 `lF),(`aZZ),(`aZ1),(`aZ!),(`a_l),(`a_y),(`a_D),"_law_kind",(`a_K),(`a_N),(`a_P),(`a__),(`a_3),(`a_5),(`a_8),(`a0k),(`a0x),(`a0S),(`a0Z),(`a1a),(`a1h),(`a1o),(`a1q),"_law_parts",(`a1O),(`a1W),(z9 `lH v7),(N7 6 `lF),(`a16),(`a1!),(`a2c),(ob `Q'),(`a2p),(`a2x),(`a2B),(`a2I),(o2 `ax `lH Z6),(`a2L),(`a2N),`e 1000000,(`a2T),(`a2U),(oA `DN Z0),(oA `DO Z0),o2 (oA `DN V8) (oA `DO V8) W7,(`a2V),(`a23),(`a3d),(ob (`ajq)),N8 rfl (p6 (δ':=[.sh (Pt.row vs).d]) `cb (O3 (by rw[`D0];rfl))),N8 rfl (p6 (δ':=`qX) `cb `ajt),V7 (items:=`wb) rfl `wt (ju0 ps),N8 rfl (p6 (δ':=`n7) `cb `ajv),V7 (items:=`wb) rfl `wt (hh0 ps),(`a3i),(`a3k),(`a3m),[`Rb,`cS,.un],(j8 (d:=`wv) ?_),[`D3,`cS,.un],by unfold lean;rfl,by unfold lean at h;unfold deq;exact rl0 ds n h,nz0 _ _ h1 h2 h,`bo d 50=`b,by unfold nb;rfl,(`x `ajw),J0 `dw (`eo)=`agl,`a3r=_,sliceText _ _ _=_,⟨h0,by rw[w40];exact h1⟩,`ww s=`b,yx0 [`lL,`lM]=`a (`j0),[.sh (`ajA),`c9,`ib,`dG,`e!,.un,.un,.un,.un,.un],l++[c'%36],[`n',`c9,`ib,`dG,`qZ,s5,`n!,.un,.un,.un],(ones w).map,(`Rg).flatten.take,`a3t=_,[.sh (`e `Rh),`n!],(`a3w),by rw[J];omega,
Bg0.mpr (`D8 (Bh0 ?_ (Bi0 (n:=8)))),a<pl.length,`q_++cg ((p+4*`bG)%36)::`wA,[`n',`c9,`ib,`dG,`qZ,s5,`n!,`wC,`e!,.un],`J (by rw[yj0,wl];omega),`N (`ba (`wA)),⟨_,_,rfl⟩,xn0 _ _ `d,(by rw[Fl];omega),`ajE*`ajF,L9 _ `l,`e (`Rj),0<=x/\x<`D!,K4 [`id,`q0]=`a3,(`a3A),(`a3B),`e (x/10%m),j7 rfl (p6 s0 `e'),(λi hi=>by cases hi),λk hk=>?_,(ne 6 _ e6),U0 0 (c:Int),[`dl,`Rl,`j2,`e!,.un],[`id,`jl,`j0],`ba `D?,s.cps.toList.length,(`a3C),`a3D=_,(st+`eu)%8,(ns j,`ajH),i9 `Q `ajI,`wG ⟨p,J,rfl⟩,`q1 `Ro "",`q1 `Rp "",[`dl,`cS,`fa,`Rn,`Eb,.un],[`dl,`cS,`fa,`Rn,`Eb,.sh `Ec],U0 0 `Ed,(`a3E),(`a3F),o8 (x:=`jl) (y:=`c3) rfl rfl,by show ∀v∈`h9,`q4;rw[snd];exact hv,`a3G=_,[`q6,`j2,`fa,`Rq,`cl,s5,s6,s7],(`wI).toNat,cs.map `c8,(`a3I),(`a3K),[0,1,2,2,3,2,3,1].getD (`ig).toNat 0,`ig=0∨`ig=1∨`ig=2∨`ig=3∨`ig=4∨`ig=5∨`ig=6∨`ig=7,⟨1,rfl,`h,`wJ⟩,⟨3,rfl,`h,`wJ⟩,`e (c+`Rr),o8 (x:=`c3) (y:=`e l) rfl (J _ _ _),`a3N=_,wg0 `ajK=`a (`ajL),Gd p `jc nm,`s `Ef,U0 0 `jc,[`q6,`Ru,`fa,`e!,.un,.un,.un,.un],by rw[`bI];rfl,V7 (items:=`wb) rfl `wt (k20 ps),(`ajM+(`Eg:Int)).toNat,[`Rx,`cS],(`n3).getD,D9 `wM e,[`Rb,`cS],(J ps rfl),[`D3,`cS],[`DJ,`wN],x∈o∨x∈S,Dfs adj S (c+1) o (x::T) r,`b8<=`g4,x<n/\`Ej,λy hy=>hT y `Ek,(`a3O),`q9/\∀v∈vs,`Rz,List.map_reverse,oA (z9 `ajQ v7) Z0,ixD `cm (`e8),ps[i].vals,V1 `a6 `RA `h' [.un] vs,λu hu=>h u `Dd,o9 (ds:=[p.d,`ajV]) rfl,ixD D' `lO=`ajS,J6 `ajT=`ajU,`Em++[`En],`e (f i:Int),`D5 `cZ=vs,(`ob).vals=`RC,S.foldl (λa x=>`RF) a,λy=>`a!,List.mem_append,(`a3V),`e `ajZ,(`RG).length,`a (.nx (`Ep)),nd (x::T).reverse,T9 `Eq `Er,(∀x∈T,P x),⟨s',?_⟩,MBg gw `RH,[`j6,k,l,`RI,`aj1,`Es,`j4],by rw[re0,`bZ J],W6 `Eq `Er,V4 `Eq (nd U++td o) `Er `wh,`a (.nx (`aj2)),nd (`j5).reverse,Dfs `Et S c [] [x] r,C4 (ej0 _) q.few,(`a30),∃s,r=o++s,`j8∨j∈S,⟨[],(i6 o).symm⟩,λi hi j hj=>?_,`i (`i (E1 _ hj)),⟨x::s,`aj3⟩,List.idxOf_cons_self,Gw.Gd p `jc nm,k.lk i rfl,`i (`i ⟨`dd,by rw[Int.toNat_of_nonneg hi],`h⟩),hv q.2 `aj4,(`oc x hx),lp ps `oc,
(h.pw p hp),W5 f G `a' `RN,λ_=>⟨s,rfl⟩,λh=>`L (λd hd=>by cases hd) h,⟨λz=>i1 λe he=>z e (A6 _ he),λz=>i2 λq=>z `wR⟩,⟨λz=>`L (z d A5) hk,`lS⟩,`RO∨∃p∈L,x=k2 p,(`dd,`oh),W8 [`oi]=`a (.bl `RQ),o9 (ds:=[`oi]) rfl,w=`oa/\j<m,Z1 [`Ew]=`RR,j7 rfl (n8 (Z4 `aj5)),p6 (δ':=`aj6) ?_ rfl,`L ⟨e1,e2⟩ hb,o8 (x:=v) (y:=w) rfl rfl,p6 (δ':=`rf) ?_ rfl,Z2 (t2 `RS),okv L q.1 q.2,Pn.xx0 p h,∀δ:Ds,o2 `U `qU ixD `aj7=`a P.d,o8 (x:=`aN) (y:=`e `ol) rfl rfl,∀δ:Ds,o2 `ax `wk ixD `aj7=`a R.d,o8 (x:=`cT) (y:=`e `om) rfl rfl,`wU≠`wV,⟨λe=>`rg (`rh P) (`rh R) e,λe=>by rw[`RT e];exact `ri (`rh R).le⟩,(`a37),(`a39),(hn _).trans,λz=>`L z.1 hh,`uX (`OV `lV),`e `wY,(`wK).length,xd0 ps _ rfl,(∀p∈L,`Ez),ys0 [`aN,`cT,`rj],(`aj').all id,`wX λp=>`ew `aj!,[`fE,`S,`aH,.sh (`oo)],(`c1 pN),`x [`D4],o9 (ds:=[`s `QP]) (`y (V7 (items:=`wb) rfl `e? (nc ps)) rfl),q.vals.length,nl (`EA,ws[i]'`d),GB `a4a,`a (.rt `A),[a,b,c,s,`cS,`w0,`gp],(`EA,`C4),[`gj,`q'],[`gj,`e (y:Int)],p6 (δ':=`RU) ?_ rfl,(`a4d),W5 `RV G ((`dm i m).map `RW) `RX,W5 `RV G (`aj?) δ',`aka/\(∀q∈`RY,nl q),R.vals.length,(∀q∈`lU,nl q),(`a4f),jj0 (lv q hq).1 (lv q hq).2 hb,show (q.1,q.2)=q from rfl,one q.1 q.2 (lv q hq).1 (lv q hq).2 hb,`a4h `d,sIx `as 0 `EF,`aB=`py,gh δ=`a (`lN),(`g7 gh),∃rs,M4 [`cT,`id]=`a (wd rs)/\Web rs/\`ON=`bj,(2000:Nat)<=`R,[`aH,`dl,.un,.un,.un],`e `w4,(`a4i),(`a4l),qs.set k (`EH),Nat.add_comm,Nat.add_mul_div_right _ _ `d,Gw.wn0 ns k h0,Gw.Pool nm,Gw.rk0 c k hk,0<M/\M<=12,∃ps,G3 [`gk,`EJ]=`EK/\`D/\`P<=M,(1+`w8).toNat,us.map `e,sIx `D6 0 (`a 9),UV `a4p,`a (.nx (uS W T C Ps K Tn (`R1) z' (.sh v'))),(`a4q),(`a4r),uS W T C Ps K Tn us w (`R2),uS W T C Ps K Tn us w (.sh (`akh)),Int.natCast_add,(`a4s),(∀u∈us,Lv (n*T) u),(`a4w),(`a4x),[`S,`xa,`or,.ow (`s (`EO++[(`EP).d])),`cl,`w?,`EQ,`ER,t8],(`a4y),tR `cm T c Ps' `g! t5 t6 t7 t8,Ps'.length,(∀p∈Ps',`ES)/\∃Q,Ps'=Ps++Q/\∀p∈Q,Un1 T `ET p,by rw[vq0,`Y,`R5],T4 [`aN,`w9,`lL]=`a `ok,tR `cm T c [] .un .un .un .un .un,
List.getElem_append_left,`akj `d,`R6≠`R7,(`R8).vals,[`il,P,.ow (`s (`EV)),`R'],.ow `a4D,`lX<=4000,[`ik,pN q],(`a4E),(`a4F),(`a4G),⟨λe=>`rg (`rh _) (`rh _) e,λe=>by rw[`RT e];exact `ri (`rh _).le⟩,N6 [`aN,`cT,`oi],[`S,`aH,`j9,.sh (`rd)],List.mem_map,⟨p,h,`rn⟩,T9 `xe `R?,`s ((`EX).map nI),`a (`I ((i,j)∉s.1)),p6 (δ':=pS ps qs P `akp n `g? `lZ (`j9)) ?_ rfl,[`S,`aH,P,`akq,.ow (`EY),`dG,`rm,`lY,`j9],(`EW).length,Rch ps qs p0 q,`Se/\x.2<`bj,x∈(`akk).1,⟨hi,hj⟩,by rw[`ad,`ad,`l_];rfl,w1.app _ _,h.way q hm,(h.rc q hm),(`a4H),x∈(`xh).1,λu hu=>hz u `Dd,`x [`os,`Sf]::`aks,List.getElem?_cons_succ,W5 `rs PB (itm k z) (`Sg),(exs q k (`akt) s),`rt hp hq,itm k (`j!),(.sh (`Sf)),W5 `rs PB (`aks) δ',exs q 0 `fG s,`fG[j]?=`a3,(`gq:Int),(itm 0 `fG),S8 PT PW f `Sh,`s ((w++[j]).map nI),[`S,`aH,`Sj,.ow (cm `j?),.un,.un,.un,.un,.un],(M _).trans,⟨A,B,rfl⟩,∀x,`ot->`Sl,vs0 hp hq `fG 0 s h (C2 e) `aky,`E_=`a (`E2),⟨p0,`l0,λz=>hh z.1⟩,`i ⟨s,⟨Q.nd,a1,a2⟩,e⟩,(`a4P),`Sm=`ry,R8 `rx=`Sn,`a (`s ((`E3 (`lW c2)).map pD)),R8 `rx=`ry,p6 `So `e',ifD _ _ _ [`S,`Sp,`Sq,.sh (`E2)],(ca _ [] e),ifD _ _ _ `E4,(∀a∈r,∀b∈r,`Sr),Ta.n00 _ `i8,Ta.n00 _ (`i `akA),lkv f `El=`akB,by unfold lkv;simp only[`aR],`x ((`D5 `b9).map `N),`akC=rel f (`j'),Iso ps qs r f,m.cl i hi j (by rw[`akD];exact hj),(`rz).length=`am,`am<=`P,`l2 m.nd (m:=`b? `P) λy hy=>`l3 (`ou y hy),λa ha b hb e=>?_,by rw[(`Su).2];exact h1,K22.zc0 h f D' hd,[`aN,`e9,`agc],wv0 `Sv=`Sw,nd (`dm 0 j),r[j]∉`E9,(`E9++`Ob j).Nodup,(A40.mp q).2.2,List.range'_concat,[`E',`Sx],j4 h `E7,wq0 `Sv=`a (wd `rA),[`S,`ov,`cU,.ow (nums r 0),.un,.un],⟨.un,.un,rfl⟩,`E! x=`b,(`a4Y),(`a41),(`a43),(`a5e),(`a5f),[`l4, `ow, `SA, `akJ, `akK],s.2[i]?=`a (`akL),`fG[k]?=`a3,h.ptr i b hi hb,(`cK hy).1,(`xl).bind,[`aN,`l5],(`dn (b:=`r) ?_),((`SC).vals.length:Int),ws0 ps j k,[nI p.1,nI p.2],(`dm 0 `lX).zip w,vat ps (`SF) a,vat qs (`SG) a,prt ps qs (u,v),(j4 hp hj).2.lv,`L h1 `l,(`a5g),`a5h h,(∀w∈ws,`l6),(`a5i),λa ha=>hw a `rB,
λh=>`Fa Eq.symm id,(cg y).mpr,Rch ps qs (a,b) x,show `akM=u from rfl,h.2.2 _ `l0,`a5j h3,r.lk hp hq,A qs rs b c,`j3 q vs,⟨`SK,λh=>by cases h⟩,⟨`SK,λh=>by rcases h with⟨i,j,e,_⟩|⟨e,_⟩<;>cases e⟩,⟨`akN,λh=>by rcases h with⟨i,j,e,_⟩|⟨e,_⟩<;>cases e⟩,⟨`akN,λh=>by rcases h with⟨i,j,_,e,_⟩|⟨e,_⟩<;>cases e⟩,key hp.lv hq.lv,fk L `Fd r,fk L F (`iq),ix L k (b::F),∃b,`l7/\L b=L a,⟨_,h,_⟩,`SL λz=>c (z▸e),∃c,c∈F/\L c=L b,exists_congr,and_congr_right,ha.imp id `SM,λz=>c (e.mpr z),`i (by rw[`fz ha];exact A5),λa ha=>h a `rB,a∈G∨`fH,a∈G∨a∈`iq,∃b,b∈G/\M b=M k,E1 _ (hs x hx),λa ha b hb=>h a (ha.resolve_left `Q) b (hb.resolve_left `Q),`Fe Z40 h,Lg ps `Ff,(LL ps r n),Lg ps g a=Lg ps g b,ou0 `SN (j4 hp hb).2 g g,(`akR).mpr,(∀a∈r,`akT)/\∀n,n<N->`SQ,cc0 (ps:=ps) (r:=r) n,W90 hp m n h,h.lk hp hp,s.eq ha hb,ix `rD a `xp,s.eq hm ha,(`Fg).length,ba0 (g:=g) hp m,pa `l8 `Fh,W60 hp m s ha,λj hj=>wh0 hp m ha hj,rs0 (ps:=ps),yr0 hp (mp.lt i hi),(`SR).2.1,I.img a ha,(`a5m),(`a5o),(`a5y),(`a5B),(`a5C),(`a5H),(o2 `DX `U Z3),(tupI `ax),(`a5M),(`a5R),(`a5'),(`a6s),(`a60),(`a67),(`a6'),(J8 `cA),(`a6?),(`a7g),(`a7u),by unfold TrK.dep;exact `eN,∀(s:Str) (d:D),Tr 3 d->Tr 8 (`x [`qY,d]),two _ _ ((yk0 w).mono `d),ac0 (n:=n) λp hp=>`oc p.2 (i5 hp),(w00 (k:=3) `wR).mono `d,by cases p<;>exact`aM,Nat->`dW,xo0 (`oy t) (nd (`dm s `ir)) `Fk,.ow `a7A,`ir<=100,(ht b `Fo).1,xo0 (`oy t) `ald `Fk,.ow `a7D,.ow `a7K,[`j7,`alb],(`a7N),.sh (L r[j]),K1 `Fp `S_ `Fq,`a (`e (g j:Int)),`V λz=>e `alh,wf0 (nd l),¬∀a∈r,`S0,(`a7Q),(`a7T),gD r (gp `rD r),(gD r `Ff),[`aN,`j7],gD r `all,⟨a,rfl⟩,K1 `rF `Ft (`aln),fS ps r g (fk g F [k]) `g!,fS ps r g [] .un,fk g [] `l!,[`S,`cU,`hc,`S5,zz0 s4],[`gp,`S,`hc,`S5],`e (`xs:Int),j4 hp (`ou _ hm),(`a7W),(Ua.yq0 wp m').1,[`aN,`cT,`im],[`S,`aH,`xt,`Fv,s4],[`S,`aH,`xt,`Fv,`op],A qs ps 0 0,λj hj=>nr0 (j4 hq ha).2 hj,(hq.pw q J),[`S,`aH,`S8],`s (`S'),V1 `a6 noT `S! [.un,`S8] (`c1 `d5),(`a7X),Ea.TV ps qs w,
mt0 ps qs hi,(`a7_),(`a72),zp ps ps q,zp ps ps (sw q),Bn0.mp hi2,`Se/\x.2<`P,(hm q).mp hq,H1 `a74,(4000:Nat)<=`R,W5 `wo H1 `wZ δ',gl `a79,(`Td:Int),qo0 [`gk]=`hd,Nat.mul_le_mul,[`gr,`S,`c9,`rG,`aH,.un,.un,.un,.un,.un,.un],(t/16%2==1),Gw.in0 _ _ `l,(`a7?),[`gr,`S,.un,.un,.un,.un,.un,.un,.un,.un,.un],[`gr,`S,`c9,.un,.un,.un,.un,.un,.un,.un,.un],[`gr,`S,`c9,`rG,.un,.un,.un,.un,.un,.un,.un],o8 (x:=`lM) (y:=`DR) rfl rfl,A q1 qs 0 0,to0 w1 wq rfl rfl,(`a8a),(`a8b),(`alu).length,(`Th p).mp ((mL p).mp hp),⟨p,O,rfl⟩,kS ns ps t q1 qs `he `ma `A `Ti t9 .un,FnN P w K mg `n `FC 1 `d7 G6,(`a8n),(`a8u),(`a8x),(Y8 (v5 Z7 `fI)),(`a8J),(`a8M),T.b_reversed,[`wm, `rJ],[`lG, `cR, `rJ],FnD P w K mg `n `FH 4 `Tm Y5,(`a80),(`a81),(`a86),(o6 `dI p8),(`a89),(o6 `kc p8),(`a8'),(`a8!),[`jW, `h?, `ia, `FO],["group", `cR, `xx, `aly],["k", `cR],(`a9a),(`a9o),(o7 3 `Tu),(`a9p),(o7 5 `ke),[`fC, `alC],[`fC, `alD],(`a9q),FnD P w K mg `n `FQ 1 `Tx K4,C__law_value,(`a9s),[`fC, `jZ, `rL, `alE],(o7 6 `xA),(`a9y),(`a9C),(`a9D),(`a9E),[`fC, `wr, `jZ],(`a9H),(v5 `rM v8),(o7 7 `rN),(o7 8 `rN),FnD P w K mg `n `FX 1 `FY j5,FnD P w K mg `n `FZ 1 `mi V8,[`fC, `l4],Cd_value_at,(`a9N),(spD K qo0),C__law_unfold,(`a9O),(o7 4 `iu),(`a9P),(`a9Q),(`a9R),(`a9V),(`a9W),(Q0 `dI),(o7 9 `iu),["_law_fresh", `alK],Fun K x x st f fd,∀(kV doc pm:`v) (an:`da) (cdv ct u:`v),`oD `xB `Om=`ai (`nd [u]),⟨f,fd,o,`F_,`F0,`F1 λ_ _ _ _ _ _ us h=>by obtain⟨u,rfl⟩:=us1 `F2;exact b _ _ _ _ _ _ _⟩,∀(kV doc pm:`v) (an:`da) (cdv ct u v:`v),`oD `xB ⟨[u,v],[]⟩=`ai (`nd [u,v]),⟨f,fd,o,`F_,`F0,`F1 λ_ _ _ _ _ _ us h=>by obtain⟨u,v,rfl⟩:=us2 `F2;exact b _ _ _ _ _ _ _ _⟩,∀(kV doc pm:`v) (an:`da) (cdv ct u v w:`v),`oD `xB ⟨[u,v,w],[]⟩=`ai (`nd [u,v,w]),⟨f,fd,o,`F_,`F0,`F1 λ_ _ _ _ _ _ us h=>by obtain⟨u,v,w,rfl⟩:=us3 `F2;exact b _ _ _ _ _ _ _ _ _⟩,`e 0 tt5_0,`e 0 tt8_0,(`aa f23),`e 0 tt23_0,(`aa f42),`k6 `oE `oE (U8 `rP) (W0 `rP) (o5 `rP) `aF kV42 dc42 pm42 an42 cd42 ct42,p80 s2 T b0,E4 X G a23,
i8 X rfl t23 rfl rfl rfl,Ze0 F5 T c7,i8 X rfl t5 rfl rfl rfl,us1 `a9Y,ij0 F8 T m0 O,i8 X rfl t8 rfl rfl rfl,L3 hT n5.lookup ?_,(`aQW),L3 hT n9.lookup ?_,(`aQY),by show `AM+n<`cu;omega,-(2:Int) ^ 63<=`Nu,(`aQ0),`I `aQ1,`aQ2&&`I (`Nu<`t'),(`aQ3),by simpa [`AN] using h,(`aQ5),(λq=>nomatch q),λ(p:`cI×V) (q:`ad7)=>`ad9,λ(p:`dW×V) (q:`aea)=>`aeb,λc v _ q=>k c v q,(hm b _ q λz=>z),(tn0 h H).get?,b∈`m_∨`m0<=b,`aet b o e n hb hx,`AY b o e n hx,by simp[z],λb ps e=>⟨#[],`NF⟩,TP X `j σ Q,by rw[I.ok.glob];exact `aeF,h `j s σ H _ I hw,`m6 .And [a] pos,ha `j s σ H Q I h,(`aRj),thn `aRk λc s1 e=>?_,`m6 .Or (`NN) pos,.IfExp c a b pos,hc `j s σ H _ I h,∃σ' H',`m!/\`aeL,λ_ s'=>`aRp,`pK o i pos,hi `j s1 σ H1 _ I1 q1,`A' [tg] e pos,.While c `hR [] pos,by rw[z];exact hb,PIE X `j σ tg R,"dict_itemiterator","dict_reverseitemiterator","odict_iterator","itertools.zip_longest","itertools.pairwise",[`hT, `eS, `aRx, `aRy, `aRz, `aRA, `aRB].contains,(sb.2 b hb).trans,`aRD e,λb o hb e=>`aRE,hl `j s σ H _ I h,`bD `pB p,`bT `aeQ [a] [] pos,`bT `aeQ `hV [] pos,by rw[hs,hs2],by rw[hs2];rfl,.For tg `k4 `hR [] pos,(D3 _ (va0 hb e)),D3 _ `aRN,hb `j s1 σ H1 _ I1 q1,ho `j s2 σ H2 x y v u Q I2 rx ry q,λv u s2 x y H2 I2 rx ry q=>`aRQ,Yv0 ha hb I h `aRR,intBits_le_64 h1 h2,y=`A/\Q (.bl (`ae5)) H,λx y H Q=>`aRU,Q (.bl (!`ae5)) H,y=`A/\`aRW,λx y H Q=>`aRX,`Bg∨r' x y H Q,λx y H Q=>`aRZ,ho `j s2 σ H2 x y v u _ I2 r1 r2 q2,`NM a `ae6 [b,c] pos,xs=[`ap]/\Q `dw H,∃i,`aR2,xs=[`pT]/\Q (`N3) H,(`aR3),∃k,`aR4,`aR5∨`aR6,λxs H Q=>`aR7,h pos `j s σ H _ I hq,.List es pos,∀v,(x,v)∉binds,x.above y c (N1 h),(`aR?),`k6 name `dc params `hR `c0 dV kV doc pm an cdv ct,u30 CX P w K mg `n N `dc `c0 f cdv A `c_ s H E,za0 I hg hm hv ?_ hn hdb,(`aSd),λus s1 ⟨vs,H1,I1,r1,q1⟩=>`afb,thn `nf `aSf,by simpa using hv,if v<0 then max (v+`cM) 0 else min v `cM,(B00 `nh `l ?_),args_tuple_getitem,`aSk _ _,entry_tuple_getitem,(`aSl),C8 Y3 `nh `aSm ?_ `aSn,tupleItemsOf_ ht ?_,(`aSp),
(u00 hs pl pu ?_),⟨_,rfl,`gQ⟩,A1 `aSs,A1 `N?,.Slice lo hi `c p2,`pK e `afi pos,by rw[J];exact hw,by rw[hj];simpa using ew,by rw[`bF]<;>omega,xs.set j v,`s `afn,upd H p `afo,by rw[hk];exact⟨_,I',q⟩,fin its r' hz h' c' kp e,λh' c' kp e=>`aSE,by rw[`bF];omega,s'.os=s₁.os/\`Ol,OldK `p4 `nb/\`aSH,r=.ok (`fk `uJ)/\`aSI,λr s'=>`aSJ,λf vs=>PySem.call f vs,`aeo n==`hI,`afB&&`aSM,⟨`BM,`k4,ifs,0⟩,[`aSO],`afD elt `aSP `c0 pos,J.stop i H2/\Q `nq H2,(`Ou&&`afI&&`afJ),`aSS=`b,if `aST then `uR else k,λk=>`aSU,(`pV x).map `aSV,by rw[hsc];exact z,by show `A_ x.1=_;rw[hsc];exact z,`A' [`BR] `lb spos,`N (`afQ sep ys),`c1 λa=>`N (h a),(`aS0),tDT X.K B δ g,q σ H Q z,tDS X.K `a_ `aL δ G,hg cl s _ ex B d δ `j s' σ H v u Q I r h,λcl s H ex pins s' σ H v u Q I r ⟨B,d,δ,h⟩=>`aS5,ht cl s _ ex B δ `j s' σ H Q I h,λcl s H ex pins s' σ H Q I ⟨B,δ,h⟩=>`aS7,he cl s _ ex B δ `j s' σ H Q I h,λcl s H ex pins s' σ H Q I ⟨B,δ,h⟩=>`aS9,d=`A/\∃δ,`va=`B!,(`aS!),`aS?∨`OT,`af7∨`aTa,`N (`OW z lo hi),`s (xs++zs),hr.mono hk,knd.pyHash hu hkey ?_,(`aTf),if `Cj then (`f!,y) else kv,λkv=>`aTh,`O' `aTi,by rw[l];exact `Pa,by rw[e];exact `lm,h.push `agv,∃d,s=`ve/\o'=`qd,`vm (λo sl h=>?_) `lf,([e]:`ci).length,`aTp+`Cq,`aTq+`Cr,`aTr<30,(`aTs),rv.same s1,SeqAt.EqAt.bool_bool,SeqAt.EqAt.none_bool,SeqAt.EqAt.bool_none,ih m' d e x y u w `bV a2 h1 h2 h3 h4 h5 h6,λd e x y u w h1 h2 h3 h4 h5 h6=>`aTy,tw0 a1 a0 rr M rv O `aTz,by rw[s1,s2,hl],by rw[s1,s2];simpa using hl,beq_eq_false_iff_ne.mpr,`nc a .Mult b pos,{ cls:=`dv,dict:=`c,data:=`be acc' c',slots:=#[] },`gU `ao A c' R s',`agN/\`aTG,match fin with|`cy f=>`agO|`agP=>`aTH,λfin s'=>`aTI,R (`agQ) s',λe s'=>`aTK,(λ_=>(#[]:`aZ)),`fB `aTM,`bT (`bD `cX p) [`Pv] [] pos,(`Px).zip ys,.dK `ag_,`aW (`i []) [],gc `ag0,oA gA λds=>f (`Pz),C6 hz rfl (x:=`gc a) rfl ?_,(`aTU),Builtin.«zip.__next__»,`aTW ⟨[`h3],[]⟩,fin=`cy (`fk v)/\Q v s',∃v,`aTY,λfin s'=>`aTZ,`ag9 `nL `CS,`ag' `nL `CT,(`ag! `nL `CU).extBut,
`aT2 `qv `ag?,(`aha `nL `CV).extBut,`aT4 `qv `CW,x5 (hsz:=`ahb) ?_,(`aT6),S1 (T := `CX) (b:=`b) `CY x8 ?_,(`aT8),{ cls:=`dv,dict:=`c,data:=`be acc c,slots:=#[] },`CP->`kN c=`aj->`ag5,`CO->`aT!,`PH->`aT?,`qu->`aUa,∀c o,`aUb,I.hok.lt q,`bT (`bD x1 p) [`PN] [] pos,ha `nJ `j s σ H _ I h,⟨fr b hb,(`k3).2⟩,λb hb=>`aUg,`qz elts x1 pos,∃ys,SqL K H1 b ys,`bD `hT p,`bT `ahp [a] [] pos,rx.mono gB,`bT (`bD `e0 p) [e] [] pos,`h0 (Z5 J),xa0 ga gb gc f f',n==1||`qC==0,C6 hz rfl (x:=`P1) rfl ?_,(`aUr),`ag9 `lt `CS,`ag' `lt `CT,i4 `ahA `ahB hx λg2 a1 e2=>`bE,(`aUv),(`ag! `lt `CU).extBut,`aUx `nO `ag?,(`aUy).extBut,`aUz `jI `ahC,(`aha `lt `CV).extBut,`aUB `nO `CW,(`aUC).extBut,`aUD `jI D.l2TO,`ev h' TO p q,∃p q,`aUF,`g `ao A' (`CK) Q' E' s,`ahz->`aUH,∀(E':`af) (A':`T) (Q':`jH),`aUI,by rw[`C8];exact hf,λb hb=>`aUK,λz=>hb `aev,`ju kvs x.k x.v,.dT `P2,upd H d `ahJ,λx:PKV=>`vE x.p,`jJ `aUQ,V4 ks vs k b,"dict.setdefault",`dU `aUT,(`nn o `C! `k!),`bT `aUV `Cp [] `dY,show `B? from rx,he `j s1 σ H1 _ I1 q1,hf `j s2 σ H2 _ I2 q2,⟨x,H3,I4,r4,q3 x ex⟩,λx ex w' s4 I4 r4=>`aU_,`nm `gb `C! `F `vp,`nn `gb `C! `k!,(`aU2),`bT `aU3 `Cp [] `dY,(xz0 (q:=q) rx).2,(`ahN),`P6/\`ahO,`gY/\`aU7,∃(p:`f) (kvs:`gf),`aU8,λxs H Q=>`aU9,(`gg).Perm,a.1=b.1/\a.2<b.2,(`aU?),a.1<b.1∨`aVa,A0 (A0 (Aq0 ?_)),op0 hq hr ⟨rfl,A2 k⟩,(`aVd),L7 `aVe,(`aVf),Q1 `aVg,(`aVh),λa b=>`vU,⟨rfl,lo,J,rfl,a1,a2,a3,`m hge⟩,`i ⟨`h,hq⟩,⟨rfl,lo,J,rfl,a1,a2,a3,`aVl⟩,⟨rfl,J,2*J+1,rfl,`h,`h,hq,`h⟩,N9.mpr rfl,`I (ac<7)&&`I (bc<7),loD a y `nW ia `nX,(`aVq),`a `aVr,(`aVs,`h6,ia,`gi,mg,ac,bc),`cy `aVt,(`aVu),Oc7 b cmp a y `b2 st,⟨hs,j10 hl M2 `jO⟩,gh0 M2 (`i `jO),⟨hs,`aVy⟩,λx' c' t _ a0 hI=>?_,`Dt _ _ _ _ `v2 m2 m1 ?_,(`aVB),A3 `aVC,(`aVD),A2 `aVE,(`aVF),A3 `aVG,(`aVH),A2 `aVI,(`aVJ),⟨`Qm _,rfl,O⟩,A2 `aVL,(`aVM),E8 `aVN,(`aVO),Ov7 b cmp a y `b2 st,g70 M2 (`m `jO),⟨hs,`aVR⟩,o40 hl M2 `jO `d,⟨hs,`aVT⟩,by rw[`ck,`bp];omega,λx' c' t _ a1 hI=>?_,λa (p,j)=>`ah4 (sa+j) p,
by rw[eb];exact hy,(`aVY),mb y `aVZ,by rw[h,hl];simp,List.getLast_eq_getElem,List.dropLast_concat_getLast,`ah4 (`Dy+x.snd) x.fst,λa x=>`aV3,h i `v5 x u `d `d ex eu,λx c t' M Z hI=>?_,qk0 C hr ev eu ?_,(`aV7),k n _ hr n1 n2 hu,(`aV9),⟨rfl,x,rfl,`h,`h,J⟩,qk0 C g2 ev eu ?_,(`aV?),`aic->cmp z v=`b,i<l->`aWb,∀i z,`aWc,o+x - (o+l),bubble `v8 (o+x) `aid,by rw[`ck];omega,(`n1).toList.drop,(`aie).take,λx c t _ _ hJ=>?_,(`aWj),D5 (I:=λx c t=>`aig) (Q:=λc t=>`aig) `aWk (λ_ _ hJ=>hJ) ⟨rfl,S3⟩,(`aWl),C7 `aWm λc t hJ=>?_,(`aWn),λt' S' _=>A2 ⟨rfl,S'⟩,sz0 C S4 `d `aWp,(`aWq),C8 m3 ti E00 ?_ (E10 _),(`aWs),D8 (name:=`g3) ti m3 `aWt,(`aWu),L7 `aWv,(`aWw),wpAny_fieldsOf eu du ?_,(`aWy),A0 `aWz,(`aWA),A1 `aWB,(`aWC),A70 ti `aWD,(`aWE),(A0 (O0 e da ?_)),A1 `aWG,(`aWH),(A0 (l9 e da ?_)),A1 `aWJ,(`aWK),wpAny_setField eu du `Q ?_,(`aWM),λi v=>∃e,`aii/\v=`DF,v1 i==v2 i,(`b? `h7).all,λi=>`aWP,`aWQ `aWR,`u0 (`aik),by rw[`e7,`v! hi],.dX (kvs++[(t,v)]),(`x [`uS,`uS]),.Dict [] [] p,#[`aF,`CQ,`h3,`gc 0,`aF,`aF],`i7 `aWY,{ cls:=`DG,data:=`aWZ },`bT `ahp [`QL] [] pos,p1.mem_iff.mp hv,match d with|`x [_,v]=>v|_=>`A,λd=>`aW2,(`n3).map `N,(`we).cps.toList,gc (`QT),unG wu0 `a?,z9 `h' v7,oA `QW Y6,(`aW9),z9 `aW' v7,(`aW!),z9 `QU `aW?,(`aXa),Z8 `aXb,(`aXc),d9 `aXd,(o2 `lE `DI eqD),ob `aXf,oA (z9 `aiv v7) Q3,(`aXh),z9 `aXi v7,oA `QW zp0,(`aXk),zt0 `aXl,(oA `jS Q3),z9 `aXn v7,(`aXo),z9 `QU `aXp,(`aXq),Z8 `aXr,(`aXs),d9 `aXt,O5 `dk `U,ob `aiw,z9 `bW v7,oA `QX Y6,v60 `aix,(`aXz),o2 `aXA `cQ gtD,(`aXB),ob `aXC,o2 `cA `bb `wg,(`aXE),ob `aXF,uv0 `aiy,z10 `DK,`ls 4 `cA,J2 `QY `aiz,o2 `ax `U ixD,z9 `QZ `dF,oA `aiA U3,o2 `bc `cQ ixD,oA (z9 (`aiB) v7) V5,z9 (`aiC) v7,oA `aiD V5,o2 `bc `jU s90,ob `aiE,o2 `U `Q_ G8,(`aXU),m5 `c7 `aXV,q30 `bi `jU,N7 3 `aiF,z9 `bc (z9 `lF v7),(`aXZ),Z8 `aX_,(`aX0),xr0 `aX1,(`aX2),d9 `aX3,oA `qV Y6,(v60 `aiJ),o2 `bW `aX6 ltD,(`aX7),ob `aX8,(o2 `bb `bW ixD),tv0 `aX',(`aX!),m5 `jT `aX?,o2 `cA `cQ ixD,(`aYb),o2 `U `aYc ixD,(`aYd),z9 `aYe v7,(`aYf),oA `aYg `g5,
o2 `cA `a? ixD,(`aYi),o2 `ax `aYj ixD,(`aYk),z9 `aYl v7,(`aYm),oA `aYn `g5,(`aYo),z9 `aYp v7,(`aYh),(`aYq),z9 `aYr `aYs,th0 `aiK,z9 `bc `DQ,(`aYv),oA `aYw wj0,z9 `jV v7,V6 `Q0,(`aYx),(`aYz),o2 `aYA `aYB Z3,(`aYC),z9 `aYD v7,(`aYE),z9 `bc `aYF,Z8 `aiM,(`aYH),xr0 `aYI,(`aYJ),d9 `aYK,oA `wl W8,ob `aiN,oA `wl Z1,o2 `Q1 `bc `wg,ob `aiO,uv0 `aiP,yd0 `aiQ `aiR,z9 `cA `Q0,(`aYT),Z8 `aYU,z10 `aiS,u40 3 `Q1,(`aYW),(`aYX),J2 `aYY `aYZ,S9 4 `Q1,(`aY0),Y7 `aY1,z9 `ax `dF,(`aY3),Z8 `aY4,(`aY5),z9 `aY6 v7,(`aY7),z9 `U `aY8,(`aY9),z9 `U `aY',oA `aiT Y5,m5 `c7 `aiU,(o2 `wj `jU s90),ob `aZb,z9 `Q_ v7,oA `aiV t40,xa0 `cQ `qU `lH leD ltD,z9 (oA `DO `g5) v7,(`aZg),z9 (oA `DN `g5) `aZh,(oA `qV Z1),o2 `aZj `bc `wg,ob `aiX,o2 `bb `a? ixD,z9 `bi `h!,(`aZn),z9 `ax `aZo,(`aZp),oA `aZq ya0,z9 `U `jX,z9 `bi `ai_,(`aZt),z9 `ax `aZu,(`aZv),oA `aZw y80,u50 `ai0 `ai1,oA `ai_ z80,(`aZz),m5 `jT `aZA,(o2 `bW `cQ ltD),ob `aZC,o2 `bW (oA `DQ Y6) geD,(`aZE),ob `aZF,(`aZD),(`aZG),zm0 `aZH `aZI,(o2 `cA `bW ixD),m5 `c7 `aZK,m5 `d3 (gc (`N `ai2)),o2 `U `g6 Z6,o2 `a? `Q2 Z3,(`aZO),m5 `c7 `aZP,o2 `U `g6 V0,m5 `a6 `ai3,(`ai4),gc `aZT,o2 `U `Q3 Z6,(`aZV),S9 4 `aZW,(`aZX),Y7 `aZY,o2 `U `Q3 V0,(`aZ_),m5 `a6 `aZ0,gc (`Q4),Y0 1 [2] (J8 `bb) `a6 noT `QZ,(`aZ3),z9 `aZ4 v7,(`aZ5),qj0 `ai5 `aZ6,(`aZ7),v60 `aZ8,(`aZ9),m5 `jT `aZ',(`ai6),gc `aZ?,z9 `Q5 v7,(o2 `bb `jV ixD),v60 `a_c,(`a_d),o2 `a_e (o2 `lJ `bW J0) Z3,(`a_f),o2 `a_g `Q3 Z6,(`a_h),o2 `bi `a_i ixD,(`a_j),m5 `wo `a_k,(J9 `cA z70 `ai7),o2 `a_m `Q6 Z3,o2 `jV `a? Z3,(`a_o),`g7 `a_p,J9 `cA `ai8 z70,(`a_n),(`a_r),o2 `a_s `a_t Z3,(`a_u),S9 8 `a_v,(`a_w),Y7 `a_x,gc (`DT),(`DU),gc `a_A,gc `ai',o2 `U `Q7 Z6,o2 `U `Q7 V0,gc (`DV),o2 `U `Q8 J0,(`a_G),o2 `a_H `wp Z6,(`a_I),m5 `a6 `a_J,S9 3 (oA `DW K4),(`a_L),Y7 `a_M,(o2 `bc `cQ eqD),ob `a_O,o2 `qU (gc (`ai!)) Z3,(`a_Q),z9 `a_R v7,(`a_S),z9 (gc (`ai?)) `a_T,(`a_U),z9 (gc (`N "a")) `a_V,(`a_W),z9 `ai5 `a_X,(`a_Y),V6 `a_Z,(`aja),gc `a_0,o2 `U `Q9 V0,o2 `ajb `lJ Z6,(o2 `bc `lJ ltD),ob `a_4,o2 `ai3 `jY Z6,(`a_6),o2 `a_7 `n6 J0,
o2 `bc `U Z3,(`a_9),o2 `a_' `g6 Z6,(`a_!),o2 `bi `a_? ixD,z9 `QZ v7,(`a0a),z9 `a0c `ajc,(`a0d),Z8 `a0e,Y0 1 [1,2,4] `DY `a6 noT `ajd,(`a0g),z9 `a0h v7,(`a0i),oA `a0j Q3,(o2 `bb `lH Z6),o2 `U `a0l ixD,(o2 `bb `lH V0),o2 `bb `a0n J0,(`a0m),(`a0o),o2 `a0p `a0q Z3,(`a0r),z9 `a0s `qV,(`a0t),oA `a0u U7,(`a0v),m5 `eB `a0w,z9 `jY (z9 `n6 `aje),(`a0y),z9 `n6 `a0z,(`a0A),z9 `jY `a0B,(`a0C),z9 `jY `a0D,(`a0E),z9 `a? `a0F,(`a0G),z9 `cQ `a0H,(`a0I),V6 `a0J,o2 `bW (gc (`e 32)) V0,(`a0L),o2 `a0M `g6 Z6,(`a0K),(`a0N),o2 `a0O `a0P ixD,(`a0Q),m5 `jT `a0R,o2 `bW (gc (`e 256)) V0,(`a0T),o2 `a0U `Q9 Z6,(`a0V),o2 `a0W `n6 eqD,(`a0X),ob `a0Y,z9 (gc (`e 12)) v7,(`a0_),z9 `g6 `a00,(`a01),V6 `a02,o2 (o2 `bW `g6 Z6) `lJ ltD,(`a04),z9 `a05 v7,(`a06),oA `a07 intOfD,(`a03),(`a08),o2 `a09 `a0' ixD,(`a0!),m5 `jT `a0?,o2 (o2 `bW `g6 V0) `a? Z3,(`a1b),z9 `a1c (z9 `cA `jS),(`a1d),oA `a1e y30,(`a1f),m5 `wq `a1g,z9 `bW (z9 `jV `dF),(`a1i),oA `a1j xb0,(`a1k),S9 3 `a1l,(`a1m),Y7 `a1n,(xr0 (oA `jX Q3)),d9 `a1p,`g7 `QV,(`a1r),J9 `U z70 `a1s,o2 `ax `QV ixD,(`a1u),o2 `a1v `U ixD,(`a1w),o2 `a1x `cQ ixD,o2 `bi `U ixD,(`a1z),z9 `a1A v7,(`a1y),(`a1B),z9 `a1C `a1D,(`a1E),Z8 `a1F,Y0 1 [0,1] `DY `a6 noT `ajf,(`a1H),z9 `a1I v7,oA `ajg Q3,(`a1K),z9 `a1L v7,(`a1M),Z8 `a1N,O5 `dk `bc,(`a1P),ob `a1Q,z9 `ws `aiD,(`a1S),Z8 `a1T,(`a1U),m5 `c7 `a1V,o2 `bi (o2 `bW `bW J0) Z3,o2 `bb (gc (`e 31)) Z3,(`a1Y),z9 `a1Z v7,(`a1X),(`a1_),z9 `a10 `a11,(`a12),oA `a13 U7,(`a14),m5 `wq `a15,o2 `U `bb ixD,z9 `ajh v7,oA `aji Z0,(`a19),J8 `a1',o2 `jV `Q8 J0,o2 `ajj `wp Z6,(`a2a),m5 `wq `a2b,O5 `dk `DP,(o2 `DP `a? ixD),o2 `a2e `ax J0,(`a2f),o2 `a2g (o2 `jV `ax Z6) Z3,(`a2h),z9 `a2i v7,(`a2j),z9 `ws `a2k,(`a2l),Z8 `a2m,(`a2n),m5 `DZ `a2o,z9 `ajh `DQ,(`a2q),oA `a2r W9,tv0 `ajk,(`a2t),S9 3 `a2u,(`a2v),Y7 `a2w,`g7 `Q5,(`a2y),(`g7 `Q!),J9 `U `a2z `a2A,z9 `U (z9 `n6 v7),(`a2C),oA `a2D j5,(`a2E),z9 `a2F v7,(`a2G),V6 `a2H,o2 `U `bi ixD,z9 `ajl v7,oA `ajm Z0,o2 `bc `lF vt0,ob `ajn,oA `jX Y6,z9 `ajl `jX,(`a2P),oA `a2Q W9,(`a2R),z9 `a2S v7,
`g7 (o2 `bi `a? Z3),z9 `aiJ v7,o2 `bb `cA ixD,O5 `dk `Q?,(`a2X),ob `a2Y,o2 `bW `cA ixD,O5 `dk `Ra,(`a20),ob `a21,yd0 `ajo `ajp,o2 `Q? `a? ixD,o2 `Ra `a? ixD,(`a25),z9 `a26 v7,(`a24),(`a27),z9 `a28 `a29,(`a2'),Z8 `a2!,(`a2?),S9 3 `a3a,(`a3b),Y7 `a3c,(zk0 ?_),O3 `a3e,p6 (δ':=`qX) `cb `Rc,p6 (δ':=`n7) `cb `Rc,`y (d:=`D4) ?_ rfl,o9 (ds:=[`ajs]) rfl,by rw[`a3j];exact e,o9 (ds:=[`aju]) rfl,by rw[`a3l];exact e,k<((`D6:Nat):Int),(`a3n),`I `a3o,(`a3p),`a `a3q,by rw[`Y];exact h,`a (`I (t/8%3=1)),`ba (`Rg).flatten,(`a3u),`N `a3v,c%2147483647,`a3x+1,gc (`n8),o2 `bi `Rk ltD,o2 `bi `Rk eqD,by simp only[`a0,`gl];omega,`a (`I (x%8=0)),by rw[vi0];omega,`y (d:=vs.getD k `A) ?_ rfl,`a (`I (x%8<6)),`y rfl `n?,show `ie<=`bG by omega,x/256%16,if `q2 then 12 else 8,`I (`Rs),(`a3L),`a `a3M,by simp only[`ad,`jF];omega,z9 gw v7,oA `ajX xy0,(`a3Q),z9 `a3R v7,oA `ajY o00,(`a3T),ny0 5 `a3U,ms W k l U o T s,ms W k l U o (x::T) s,`aW (`m (`aj_)) (`aj0),(`a3Y),by rw[`RK];exact hx,λy hy=>`a3_,(`oe).resolve_left,`a31 (B9 e),`wG ⟨q,hq,rfl⟩,V3 `ajJ `re,`S::`aH::`fE::δ,λq=>`x [q.1,q.2],(`lU).map `a36,Z2 (t2 λz=>z hh),by rw[`a38];rfl,`s ((`EC).map pN),(`a3'),.ow `a3!,[a,b,c,`a3?,`cS,`w0,`gp],st i (`gp),(`a4b),∀k,i<=k->k<n->ok k,Z2 (t2 λq=>q hh),by rw[`a4e];rfl,ob (`RZ),Nat.min_eq_right,`y (gp _ _) rfl,by show 0<=`R;omega,(`a4j),vx0 rfl `a4k,qs[k].vals.set,(`w7).take,uS W T C Ps K Tn us z (`op),(`a4o),uS W T C Ps K Tn us z' (.sh v'),p6 (app _ _) rfl,uS W T C Ps K Tn [] z s8,o8 (x:=`aN) (y:=`c3) rfl rfl,by rw[`a4t];exact hx,(`a4u),`y `a4v rfl,uS `cm T (`or) (`w!) `g! (`w?) us z' t8,tR `cm T c Ps `g! s5 s6 s7 s8,pa ps (j/T),(bk++[k]).map nI,(`a4A),`s `a4B,(`a4C),by simp only[`gl];omega,`y (`R! a1) rfl,`y (`akn b1) rfl,`rr ⟨v,hv,e⟩,pS ps qs P s n a b c,[`ik,`A],k2 p0=k2 p0,`a (cD `c),if `a4K then `a4L else _,(`a4M),Rch ps ps `l1 x/\¬okp ps ps x,∃x,`a4O,(ca _ _ e),j8 `a4Q,oA `dF zp0,(`a4S),z9 `a4T v7,z9 `U `akF,(`a4V),oA `a4W `akG,m5 `c7 `akH,z9 `ax `akF,(`a4Z),oA `a4_ `akG,m5 `d6 `akI,
(ob (O5 `dk `bb)),yd0 `Sz `a42,(o2 `U `wj ixD),z9 `a44 v7,(`a45),oA `a46 V8,o2 `ax `aiY ixD,(`a48),z9 `a49 v7,(`a4'),oA `a4! V8,(`a47),(`a4?),o2 `a5a `a5b W7,(`a5c),d9 `a5d,d9 (o2 `bc `bb W7),(`SH).zip (b.map `cZ),Int.ofNat_inj.mp,λa ha=>hv a `rB,(ja0 `SI `SJ _).mp,m60 2 `bW (me0 2),(`a5k),J2 `a5l (`ls 3 `bb),J8 `ax,oA `ajc V5,Y0 1 [0,2] `SS `a6 noT `ST,(`a5p),z9 `a5q v7,(`a5r),z9 `ax `a5s,(`a5t),oA `a5u zx0,m5 `c7 `akW,(o2 `bc `bi neK),ob `a5x,j40 3 (o2 `bi `bb G8) `bb,(`a5z),Y7 `a5A,z9 (oA `jX kw0) v7,o2 `ax (o2 `bc `U G8) ixD,(`a5D),z9 `a5E `dF,(`a5F),oA `a5G U3,z9 `SU v7,(`a5I),z9 `U `a5J,oA `akX G3,m5 `SV `akY,(z9 `lJ v7),z9 `U `a5N,(`a5O),oA `a5P j5,m5 `d3 `akZ,o2 `bi `lJ Z6,(`a5S),o2 `a? `a5T Z3,(`e 5),gc `a5V,z9 `ak_ v7,(`a5X),z9 `U `a5Y,(`a5Z),oA `a5_ j5,(`a50),z9 `a51 v7,(`a5U),(`a52),z9 `a53 `a54,(`a55),z9 `ax `a56,(`a57),oA `a58 T4,m5 `c7 `ak0,o2 `bi `lJ V0,(`a5!),o2 `a5? `lJ Z6,(`a6a),o2 `a? `a6b Z3,(z9 `Fj v7),z9 `U `a6d,(`a6e),oA `a6f j5,(`a6g),o2 `a6h `ak_ Z3,(`a6i),z9 `a6j v7,(`a6c),(`a6k),z9 `a6l `a6m,(`a6n),z9 `ax `a6o,(`a6p),oA `a6q T4,m5 `d6 `ak1,o2 `bi `Q9 V0,(`a6t),o2 `a6u `jY Z6,(`a6v),o2 `a6w `a? vt0,ob `ak2,oA `akX j5,(`a6z),z9 `a6A `ak3,(`a6B),oA `a6C U7,(`a6D),z9 `a6E v7,(`a6F),z9 `bb `a6G,(`a6H),oA `a6I M4,(`a6J),m5 `d6 `a6K,oA `jX W3,oA `jS W3,o2 `ak4 `ak5 W7,(`a6O),ob `a6P,oA `qV W3,o2 `ak6 `ak5 W7,(`a6S),ob `a6T,(`a6Q),(`a6U),zm0 `a6V `a6W,z9 `bc `qV,(`a6Y),oA `a6Z z40,m5 `eB `ak7,z9 `ak8 v7,(`a61),z9 `cQ `a62,z9 `bW `ak9,oA `SW O4,(`a65),m5 `jT `a66,oA `SW R8,(`a68),m5 `wq `a69,o2 `cA `jU rj0,J2 `QY (u40 8 `Q6),z9 `bW (z9 `Q6 v7),(`a7a),z9 `bW `a7b,(`a7c),oA `a7d zu0,(`a7e),m5 (gN 10) `a7f,o2 `ak' `jU rj0,ob `ak!,J8 `ak',(`a7j),Y0 1 [8] `a7k `a6 `akc `U,(`a7l),z9 `a7m v7,(`a7n),oA `a7o Y6,(`a7p),o2 `a7q `cQ gtD,(`a7r),ob `a7s,zm0 `ak? `ala,`dm 0 `ir,(`a7v),`s `ald,[`s (`Fl),`a7x],`x `a7y,(`a7z),[`s (`ale),`s (`alf)],`x `a7B,(`a7C),(`dm 0 F'.length),nd `a7E,(`a7F),`s `a7G,[`s (F'.map L),`a7H],`x `a7I,(`a7J),nd `alg,
λ(k:Nat)=>`ew [`c3,L k],`ha `a7M,by injection z with z;omega,`ali (`S1) `alg,`ali (`S1) `xr≠`a7P,by rw[`alj];exact(`St).1,(`a7R),`y `a7S rfl,gs ps r `b2,gD r `S2,by rw[`S6,`Y,`R5];omega,hq.pw q (h q A5),`i ⟨0,rfl,`S?⟩,(`a7Y),`i `a7Z,`i ⟨0,rfl,`Ta⟩,(`a70),`i `a71,kS ns ps t q1 qs bs f w `alr `l? m,(`a73),V4 ks vs `rc `wh,(pa bs p.1).vals.zip,(pa bs p.2).vals,`a76 `a77,(`a78),`y (`Tg q1 _ rfl) rfl,(`a7'),`y rfl `a7!,show 0<_ by omega,show `xv<_ by omega,(`FB:`t).Nodup,(`aP:`a8c),o7 0 `a8d,λcl s H ex=>`a8e,λcl s H ex=>`kc,v5 (U9 `hg `alv) v8,(`a8h),v5 Z7 `a8i,(`a8j),Y8 `a8k,(`a8l),m9 `a8m,C_pair_names,R5 `a8o hr `l `rH,v5 `alw v8,(`a8q),U5 W2 zj0 `dp `dq `a8r,(`a8s),v5 `a8t v8,is0 `FD b_list `kc,(`a8v),O6 `a8w,U5 W2 zj0 `dp `dq `kd,(`a8y),v5 `a8z v8,(`a8A),v5 Z7 `a8B,(`a8C),Y8 `a8D,(`a8E),m9 `a8F,R5 `rI hr `l `rH,(`a8H),Q0 `a8I,ym0 M8 `dq `mb `dp `aq,(`a8K),K7 `a8L,v5 `aq `fI,o6 `aX `aq,v5 `Tl `fI,(`a8P),d8 `alx hr `l `a8Q,(`a8R),λcl s H ex=>`a8S,(Y8 (v5 `aX `fI)),v5 `a8U v8,(`a8V),v5 `aq `a8W,(`a8X),v5 `aq `a8Y,(`a8Z),d8 C_paired_walk hr `l `a8_,d4 (B4 _ 64) `md,d8 `xw hr `l `FL,d8 `xw hr `l `FM,(`a82),(`a83),d7 `fJ K9 `a84 `a85,v5 `FN v8,d8 `To hr `l `Tp,ym0 M8 `dq `mb `dp `kc,v5 (o6 `aq `rK) v8,v5 (o6 `aX `rK) v8,U9 `hg `kd,v5 `Tl v8,(`alz:`t).Nodup,(`aP:`a9b),o7 0 `a9c,λcl s H ex=>`a9d,(`a9e),K6 (sc:=`Ts) (N:=y60) (N':=`alz) (n:=1) (caps:=[0,2]) `c? `l `Tt `a9f `dJ `alA,(`a9g),v5 `a9h v8,(`a9i),v5 `aX `a9j,(`a9k),R5 `alB hr `l `a9l,(`a9m),m8 `a9n (o7 3 zo0.nd),m8 `FP (o7 0 `ke),d7 wx0 yz0 `b4 p8,O2 `mg `kd,d7 wx0 yz0 `bX p8,v5 `Ty v8,(`a9t),O2 `mg `a9u,U5 W2 zj0 `dp `dq `mh,(`a9w),zf0 `a9x,(`TA:`t).Nodup,(`aP:`a9z),wp0 0 1 `a9A `l,λcl s H ex=>`a9B,zw0 `aq xt0 (zy0 `Tj),λcl s H ex=>`aq,ym0 M8 `dq `mb `dp `bX,(`a9F),K7 `a9G,U9 `hg `mh,o6 `cc `dI,o6 `c! `dI,U5 vw0 ea0 `FD b_list `fI,(`a9L),v5 `a9M v8,X7 (R3 `b4 p8) p8,d8 `TE hr `l `mh,d8 `TE hr `l `kd,d8 `TE hr `l `oC,v5 `alI v8,(`a9S),v5 p8 `a9T,v5 `c! `alJ,w90 nf0 qf0 `dI zq0,
show `cz=1 by rw[`ad] at hl;simpa using hl,(`a9X)]
noncomputable section
open PySem
noncomputable def A0:=@PySem.wpAny_bind
noncomputable def A1:=@PySem.wpAny_pure
noncomputable def A2:=@PyProof.Rows.wpS_pure
noncomputable def A3:=@PyProof.Rows.wpS_bind
noncomputable def A4:=@Nat.le_refl
noncomputable def A5:=@List.mem_cons_self
noncomputable def A6:=@List.mem_cons_of_mem
noncomputable def A7:=@PySem.Heap.lt_size
noncomputable def A8:=@List.mem_cons
noncomputable def A9:=@List.mem_map
noncomputable def B0:=@PySem.Heap.get?_push_of_some
noncomputable def B1:=@Nat.ne_of_lt
noncomputable def B2:=@Option.some.inj
noncomputable def B3:=@List.mem_append
noncomputable def B4:=@Nat.le_add_right
noncomputable def B5:=@List.getElem?_eq_some_iff
noncomputable def B6:=@List.getElem?_eq_getElem
noncomputable def B7:=@PySem.Heap.get?_push_size
noncomputable def B8:=@Nat.lt_of_lt_of_le
noncomputable def B9:=@Ne.symm
noncomputable def C0:=@List.getElem_mem
noncomputable def C1:=@Nat.ne_of_gt
noncomputable def C2:=@List.mem_of_getElem?
noncomputable def C3:=@PySem.wpAny_holding
noncomputable def C4:=@Nat.le_trans
noncomputable def C5:=@Bool.false_ne_true
noncomputable def C6:=@PySem.wpAny_field
noncomputable def C7:=@PyProof.Rows.wpS_mono
noncomputable def C8:=@PySem.wpAny_call_entry
noncomputable def C9:=@Option.map_eq_some_iff
noncomputable def D0:=@PySem.PassesOwn.never
noncomputable def D1:=@List.mem_range
noncomputable def D2:=@PySem.wpAny_rule
noncomputable def D3:=@List.mem_append_right
noncomputable def D4:=@Nat.zero_le
noncomputable def D5:=@PyProof.Rows.wpS_forRange
noncomputable def D6:=@PySem.F.slot_zip_next
noncomputable def D7:=@getElem?_pos
noncomputable def D8:=@PySem.wpAny_callSpecial?_slot
noncomputable def D9:=@congrArg
noncomputable def E1:=@List.mem_append_left
noncomputable def E2:=@PySem.wpAny_mono
noncomputable def E3:=@PyProof.Rows.wpS_get
noncomputable def E4:=@PySem.W.mg_of
noncomputable def E5:=@Nat.lt_irrefl
noncomputable def E6:=@List.mem_filterMap
noncomputable def E7:=@List.mem_iff_getElem
noncomputable def E8:=@PyProof.Rows.wpS_modify
noncomputable def E9:=@PyProof.Rows.callWith_type1
noncomputable def G0:=@PySem.wpAny_setField_rec
noncomputable def H0:=@List.pairwise_iff_getElem
noncomputable def I0:=@PySem.W.mg_none_of
noncomputable def K0:=@PySem.wpAny_seqItems
noncomputable def K2:=@List.nodup_cons
noncomputable def L1:=@Nat.lt_trans
noncomputable def L3:=@PySem.wpAny_specialOf
noncomputable def L4:=@Prod.ext
noncomputable def L5:=@PySem.wpAny_newObj_type
noncomputable def L6:=@PySem.Heap.SameBut.update
noncomputable def L7:=@PySem.wpAny_attempt
noncomputable def L8:=@Int.emod_nonneg
noncomputable def L9:=@Int.emod_lt_of_pos
noncomputable def M1:=@PySem.Calls.spliced_cons
noncomputable def N0:=@List.of_mem_zip
noncomputable def N1:=@PySem.mem_of_lookup
noncomputable def N2:=@PySem.wpAny_typeOf
noncomputable def N3:=@PySem.W.kia_one
noncomputable def N4:=@List.pairwise_append
noncomputable def N9:=@List.mem_singleton
noncomputable def O0:=@PySem.wpAny_dictEntries
noncomputable def P1:=@PySem.codeAny_builtin
noncomputable def P2:=@Nat.le_of_lt
noncomputable def P3:=@PySem.wpAny_Call_Name_kw
noncomputable def P4:=@PySem.Heap.get?_update_self
noncomputable def P5:=@List.map_congr_left
noncomputable def P6:=@PySem.F.entry_zip_next
noncomputable def P7:=@PySem.F.args_zip_next_1
noncomputable def P8:=@List.getElem?_zip_eq_some
noncomputable def Q1:=@PyProof.Rows.wpS_lift
noncomputable def Q2:=@List.eq_nil_of_length_eq_zero
noncomputable def R1:=@decide_eq_true
noncomputable def S1:=@PySem.wpAny_isInstance
noncomputable def S2:=@PySem.wpAny_truthy_bool
noncomputable def T0:=@PySem.wpAny_passesOwn
noncomputable def U1:=@PySem.Calls.spliced_nil
noncomputable def U2:=@List.nodup_nil
noncomputable def W1:=@PySem.plainId_quiet
noncomputable def X0:=@Array.perm_iff_toList_perm
noncomputable def X1:=@List.mem_of_mem_take
noncomputable def X2:=@PySem.SeqAt.EqAt.same
noncomputable def Y1:=@beq_eq_false_iff_ne
noncomputable def Y2:=@decide_eq_false
noncomputable def Y3:=@PyProof.Rows.slot_tuple_getitem
noncomputable def c9:=@PySem.typeIs_str
noncomputable def d3:=@PySem.Heap.get?_update_other
noncomputable def d4:=@Nat.lt_of_le_of_lt
noncomputable def d5:=@PySem.wpAny_loadPart'
noncomputable def d6:=@PySem.wpAny_letGo
noncomputable def i0:=@Nat.lt_succ_of_lt
noncomputable def i4:=@PySem.wpAny_nextOf_list_item
noncomputable def i5:=@List.mem_map_of_mem
noncomputable def i6:=@List.append_nil
noncomputable def i7:=@List.mem_reverse
noncomputable def i8:=@PySem.W.binds_K
noncomputable def i9:=@List.ext_getElem
noncomputable def j0:=@of_decide_eq_true
noncomputable def j3:=@List.getD_eq_getElem?_getD
noncomputable def k0:=@PySem.Paired.length
noncomputable def k4:=@LawfulBEq.eq_of_beq
noncomputable def k6:=@PySem.typeIs_int
noncomputable def k7:=@Nat.le_of_eq
noncomputable def k9:=@PySem.wpAny_notOrdered_dict
noncomputable def l0:=@PySem.wpAny_updateSeq
noncomputable def l3:=@Array.getElem?_eq_getElem
noncomputable def l4:=@List.rel_of_pairwise_cons
noncomputable def l6:=@List.pairwise_reverse
noncomputable def l9:=@PySem.wpAny_dictEpoch
noncomputable def m3:=@PySem.F.slot_dict_keyiterator_next
noncomputable def m4:=@List.pairwise_map
noncomputable def n5:=@PySem.F.slot_NoneType_hash
noncomputable def n9:=@PySem.F.slot_tuple_hash
noncomputable def p4:=@PySem.SeqAt.EqAt.int_int
noncomputable def p5:=@PySem.SeqAt.EqAt.int_str
noncomputable def p9:=@PySem.SeqAt.EqAt.str_int
noncomputable def q0:=@List.getElem_inj
noncomputable def r0:=@PySem.wpAny_standAt
noncomputable def r8:=@PySem.concat_meets
noncomputable def r9:=@PySem.Calls.callWith_builtin
noncomputable def t0:=@PySem.call_meets
noncomputable def v3:=@PySem.wpAny_Dict_empty
noncomputable def w4:=@PySem.Obj.data_mapDictKeys
noncomputable def w8:=@PySem.tupleKind_room_in1
noncomputable def x0:=@Nat.lt_succ_self
noncomputable def x5:=@PySem.wpAny_newTuple
noncomputable def x6:=@PySem.wpAny_nextOf_list_end
noncomputable def x8:=@PySem.isSubtype_stop
noncomputable def x9:=@PySem.F.plain_extend_loop
noncomputable def y4:=@PySem.wpAny_pyIter_zip
noncomputable def y6:=@PySem.call_zip_2
noncomputable def y8:=@PyProof.Rows.zipApart_new
noncomputable def y9:=@PySem.wpAny_pyIter_enum
noncomputable def z0:=@PySem.wpAny_onRaise
noncomputable def A00:=@PySem.F.slot_dict_setdefault
noncomputable def A10:=@Array.getElem?_eq_some_iff
noncomputable def A20:=@PyProof.Rows.listItems_at
noncomputable def A30:=@List.pairwise_cons
noncomputable def A40:=@List.nodup_append
noncomputable def A50:=@List.ext_getElem?
noncomputable def A60:=@List.map_snd_zip
noncomputable def A70:=@PySem.wpAny_typeNameOfWhole_keyiter
noncomputable def A80:=@Nat.lt_or_ge
noncomputable def A90:=@PySem.F.slot_enumerate_next
noncomputable def Aa0:=@List.idxOf_lt_length_of_mem
noncomputable def Ab0:=@PySem.F.typeOf_object_class
noncomputable def Ac0:=@PySem.wpAny_ret_mkInt
noncomputable def Ad0:=@PySem.wpAny_pyHash_int
noncomputable def Ae0:=@PySem.wpAny_pyHash_str
noncomputable def Af0:=@PySem.wpAny_forIn_list
noncomputable def Ag0:=@PySem.SeqAt.EqAt.none_int
noncomputable def Ah0:=@PySem.SeqAt.EqAt.none_str
noncomputable def Ai0:=@PySem.SeqAt.EqAt.none_tuple
noncomputable def Aj0:=@PySem.SeqAt.EqAt.int_none
noncomputable def Ak0:=@PySem.SeqAt.EqAt.int_tuple
noncomputable def Al0:=@PySem.SeqAt.EqAt.str_none
noncomputable def Am0:=@PySem.SeqAt.EqAt.str_str
noncomputable def An0:=@PySem.SeqAt.EqAt.str_tuple
noncomputable def Ao0:=@PySem.SeqAt.EqAt.of_refs
noncomputable def Ap0:=@PySem.SeqAt.RcAt.tuples
noncomputable def Aq0:=@PySem.wpAny_eqBool_int
noncomputable def As0:=@PySem.wpAny_execs_nil
noncomputable def At0:=@PySem.wpAny_pyIter_list
noncomputable def Av0:=@PySem.noFill_tuple_add
noncomputable def Aw0:=@PySem.seq_tuple_add
noncomputable def Ax0:=@PySem.F.slot_tuple_add
noncomputable def Ay0:=@PySem.F.entry_tuple_add
noncomputable def Az0:=@PySem.F.args_tuple_add_2
noncomputable def B00:=@PySem.wpAny_sequenceKey
noncomputable def B20:=@PySem.Calls.evalArgs_plain
noncomputable def B30:=@Nat.add_le_add_left
noncomputable def B40:=@PySem.boot_len
noncomputable def B50:=@PySem.Obj.isFreed_of_dict
noncomputable def B70:=@PySem.F.plainAttrs_list
noncomputable def B80:=@List.length_eq_zero_iff
noncomputable def B90:=@PySem.callType_codes
noncomputable def Ba0:=@List.mem_iff_getElem?
noncomputable def Bb0:=@List.pairwise_singleton
noncomputable def Bc0:=@PySem.wpAny_updateSeq_pair
noncomputable def Bg0:=@List.nodup_iff_pairwise_ne
noncomputable def Bh0:=@List.Pairwise.imp_of_mem
noncomputable def Bi0:=@List.nodup_range
noncomputable def Bj0:=@List.length_range
noncomputable def Bk0:=@Classical.not_not
noncomputable def Bl0:=@Nat.mul_le_mul_right
noncomputable def Bm0:=@List.length_map
noncomputable def Bn0:=@Nat.lt_min
noncomputable def Bp0:=@PySem.wpAny_callSpecialIfBoundUnlessNone?_slot
noncomputable def Bw0:=@PySem.Calls.Name_function_global
noncomputable def C20:=@PySem.wpAny_pyNext_list_item
noncomputable def C70:=@Nat.min_le_right
noncomputable def Cg0:=@Nat.le_of_not_lt
noncomputable def Ch0:=@PySem.wpAny_comprehension_free
noncomputable def Ck0:=@Bool.eq_false_iff
noncomputable def D60:=@PySem.SeqAt.RcAt.lists_lengths
noncomputable def D90:=@Array.getElem?_eq_none
noncomputable def Db0:=@Nat.lt_trichotomy
noncomputable def Dg0:=@PySem.wpAny_letOwnedTupleGo_enum
noncomputable def Dh0:=@PySem.F.slot_int_mul
noncomputable def Dl0:=@PySem.F.entry_dict_setdefault
noncomputable def Dm0:=@PySem.F.args_dict_setdefault_3
noncomputable def Do0:=@PySem.F.plainAttrs_dict
noncomputable def Dp0:=@PySem.F.type_dict_setdefault
noncomputable def Dq0:=@beq_self_eq_true
noncomputable def Dr0:=@List.mem_of_mem_drop
noncomputable def Ds0:=@List.Sublist.nodup
noncomputable def Dt0:=@List.sublist_append_right
noncomputable def Du0:=@List.sublist_append_left
noncomputable def Dw0:=@List.reverse_perm
noncomputable def Dy0:=@Nat.le_succ_of_le
noncomputable def E00:=@PySem.F.entry_dict_keyiterator_next
noncomputable def E10:=@PySem.F.args_dict_keyiterator_next_1
noncomputable def E50:=@PySem.F.slot_dict_ne
noncomputable def E60:=@PySem.Calls.call_function_entry
noncomputable def E70:=@PySem.F.slot_dict_len
noncomputable def E90:=@PySem.F.entry_enumerate_next
noncomputable def Ea0:=@PySem.F.args_enumerate_next_1
noncomputable def Eb0:=@List.length_filterMap_le
noncomputable def Ed0:=@List.mem_or_eq_of_mem_set
noncomputable def Ee0:=@List.Nodup.length_le_of_subset
noncomputable def Ef0:=@List.length_pos_of_mem
noncomputable def Eg0:=@Nat.eq_zero_or_pos
noncomputable def Ej0:=@Nat.zero_lt_succ
noncomputable def Em0:=@Classical.byContradiction
noncomputable def En0:=@Classical.axiomOfChoice
set_option Elab.async false
set_option linter.all false
set_option maxRecDepth 100000
variable{prog:`_}{E Q:`af}{a it dx fa I z i1 i2 l1 l2:`f}{o e b c iter value elt:`G}{tl vs us its:`ab}{od an:`da}{x name qual x2 nx root:Str}{r caps idx F:`k}{R:`TF}{y v u dV doc pm cdv ct oc vl vu:`v}{K:`M}{h' base:`H}{i m t' j n k1 x1 ia ib ac bc na:Nat}{xs items ys:`aZ}{α β κ:Type}{pins:`ay}{ch fp:`bn}{N loose N' cs rs:`t}{s':`q}{pos pos' p tpos apos p2 cpos py spos px pos2 np:Pos}{rest body:`iv}{st:`fX}{es ifs elts:`ci}{lo hi:`bN}{fd:`eC}{sc scope:`dK}{mg:`bR}{q p0:`ac}{XP:`F3}{YP:`F4}{osl:`kf}{oa:Obj}{S:`kg}{L:`co}
namespace KfT
theorem sl:Slot `t5 `alL "object.__getattribute__" := by
 refine .of (owner := "object") (n := `alL) ?_ `go `go `go ?_ ?_
 ·rw[`oF,`oG];kernel_rfl
 ·first|exact `m `go|exact `i `go
 ·rw[`Pr];kernel_rfl
theorem lk:`ni `pv `Ns=`ai (`a (`TG)):=by
 rw[`oF,`oG];kernel_rfl
theorem ow:`TH `pv (`bs (".".intercalate ("object.__class__".cutAt '.').dropLast))=`BS:=by
 rw[F.owner_object_class,`Pr];kernel_rfl
section
variable{P:`_}{W:`E}{A:`T}{X:`af}{s:`q}{f:`f}{y:Obj}
theorem gs(e:`em f=`bA)(c:`F5)(q:R (.ok `alM) s) :
  `gU `F6 A (`uM (`dU "getset_descriptor.__get__") ⟨[`TG,`aa f,`AJ],[]⟩) R s:=by
 obtain⟨hh,gg,dd,tt,oo⟩:=s;have z1:`TI := `TJ;have z2:=ow;refine `alN F.slot_gs_get.plain F.entry_gs_get (F.slot_gs_get.check _ _ _ _ _ _ _ _ Ab0 (F.args_gs_get _ _ _) ?_)
 repeat (any_goals (first|assumption|wp_step))
 refine⟨Code.quiet_builtin _ `go,P1 F.entry_object_class ?_⟩
 repeat (any_goals (first|assumption|wp_step))
theorem ga{tk:Tok}{R:`F7}(e:`em f=`bA)(c:`F5)(q:R (`cy `alM) s) :
  `g `F6 A (Builtin.«object.__getattribute__» ⟨[`aa f,`alO],[]⟩) R X s:=by
 obtain⟨hh,gg,dd,tt,oo⟩:=s;have z1:`TI := `TJ;have z2:`ad1 (`TG) "getset_descriptor" := Ab0;have z3:=lk;have z4:=Ab0;have z5:=F.slot_gs_get.lookup;have z6:=F.slot_gs_set.lookup
 repeat (any_goals (first|assumption|wp_step))
 refine gs e c ?_
 repeat (any_goals (first|assumption|wp_step))
variable{hh:`H}{gg:`vs}{dd:Drawn}{tt:Nat}{oo:OsState}
theorem by'{tk:Tok}{R:`af}(e:`alP)(c:`F5)(q:R `pv `AK):`g `F6 A (getAttrBy `fl (`alO) `r) R X `AK:=by
 have z1:`TI := `TJ;have z2:=sl.lookup;have z3:=sl.bind `fl
 repeat (any_goals (first|assumption|wp_step))
 refine `alN sl.plain F.entry_object_getattribute (sl.check _ _ _ _ _ _ _ _ z1 (F.args_object_getattribute_2 _ _) (ga e c ?_))
 repeat (any_goals (first|assumption|wp_step))
theorem at'{R:`hh}(e:`alP)(c:`F5)(q:R (`a `pv) ⟨hh,gg,dd,tt+1,oo⟩):`g `F6 A (getAttr? `fl `Ns) R X `AK:=by
 unfold getAttr? getAttrBy?
 repeat (any_goals (first|assumption|with_reducible apply by' e c|wp_step))
universe zz
theorem kit{f:`f}:W.KitX K `fl `pv (W.KitAt f `t5):=W.kitx_of W.kitAt_ty λ{_ _ _ _ _ s} p k=>by
 obtain⟨hh,gg,dd,tt,oo⟩:=s;obtain⟨_,e,c⟩:=p;exact at' e c k
universe KfT
namespace TrK
open Spec PyProof.Rows
inductive T where
 | non
 | int (i:Int)
 | str (x:Str)
 | tup (l:`ei)
instance:`O1 T:=λa b=>`TK (a=b)
mutual
noncomputable def Is(h:`H):T->`Ps
 | `A,v=>v=`aF
 | `ap,v=>`alQ
 | `cV,v=>`alR
 | `gG,v=>`alS
noncomputable def Iss(h:`H):`ei->`alT
 | [],vs=>`rQ
 | x::l,vs=>`alU
end
mutual
noncomputable def hs(w:`E):T->Int
 | `A=>0xFCA86420
 | `ap=>hashInt i
 | `cV=>`alV
 | `gG=>reduceHash (`Nu)
noncomputable def hss(w:`E):`ei->`bk
 | []=>[]
 | x::l=>hs w x::hss w l
end
mutual
noncomputable def dr:T->Nat
 | `gG=>drs l+1
 | _=>1
noncomputable def drs:`alW
 | []=>0
 | x::l=>dr x+drs l
end
mutual
noncomputable def dep:T->Nat
 | `gG=>tz0 l+1
 | _=>0
noncomputable def tz0:`alW
 | []=>0
 | x::l=>max (dep x) (tz0 l)
end
section
variable{h:`H}
theorem G7:Is h `A v=(v=`aF):=`TL
theorem J4{i:Int}:Is h `dw v=`alQ:=`TL
theorem J5:Is h `mj v=`alR:=`TL
theorem is_tup{l:`ei}:Is h `xC v=`alS:=by conv=>lhs;unfold Is
theorem wl0:Iss h [] vs=(`rQ):=by unfold Iss;rfl
theorem zd0{x:T}{l:`ei}:Iss h (x::l) vs=`alU:=by conv=>lhs;unfold Iss
mutual
theorem Is.mono(k:`alX):∀(t:T) (v:`v),Is h t v->Is h' t v
 | `A,v,x=>by rw[G7] at x ⊢;exact x
 | `ap,v,x=>by rw[J4] at x ⊢;exact x
 | `qY,v,x=>by rw[J5] at x ⊢;exact x
 | `gG,v,x=>by
  rw[`hi] at x ⊢;obtain⟨a,o,its,n,e,g,c,d,r⟩:=x;exact⟨a,o,its,n,e,k a o its n g d,c,d,Iss.mono k l _ r⟩
theorem Iss.mono(k:`alX):∀(l:`ei) (vs:`ab),`F8->Iss h' l vs
 | [],vs,x=>by rw[wl0] at x ⊢;exact x
 | `iw,vs,x=>by
  rw[zd0] at x ⊢;obtain⟨v,r,e,x1,x2⟩:=x;exact⟨v,r,e,Is.mono k t v x1,Iss.mono k l r x2⟩
end
mutual
theorem Is.inj:∀(t u:T) (v:`v),Is h t v->Is h u v->t=u
 | `A,u,v,x,y=>by
  rw[G7] at x;subst x;cases u with
  | non=>rfl
  | int i=>rw[J4] at y;obtain⟨t,e⟩:=y;cases e
  | str s=>rw[J5] at y;obtain⟨t,e⟩:=y;cases e
  | tup l=>rw[`hi] at y;obtain⟨a,o,its,n,e,_⟩:=y;cases e
 | `ap,u,v,x,y=>by
  rw[J4] at x;obtain⟨t,rfl⟩:=x;cases u with
  | non=>rw[G7] at y;cases y
  | int j=>rw[J4] at y;obtain⟨t,e⟩:=y;cases e;rfl
  | str s=>rw[J5] at y;obtain⟨t,e⟩:=y;cases e
  | tup l=>rw[`hi] at y;obtain⟨a,o,its,n,e,_⟩:=y;cases e
 | `qY,u,v,x,y=>by
  rw[J5] at x;obtain⟨t,rfl⟩:=x;cases u with
  | non=>rw[G7] at y;cases y
  | int j=>rw[J4] at y;obtain⟨t,e⟩:=y;cases e
  | str s=>rw[J5] at y;obtain⟨t,e⟩:=y;cases e;rfl
  | tup l=>rw[`hi] at y;obtain⟨a,o,its,n,e,_⟩:=y;cases e
 | `gG,u,v,x,y=>by
  rw[`hi] at x;obtain⟨a,o,its,n,rfl,g,c,d,r⟩:=x;cases u with
  | non=>rw[G7] at y;cases y
  | int j=>rw[J4] at y;obtain⟨t,e⟩:=y;cases e
  | str s=>rw[J5] at y;obtain⟨t,e⟩:=y;cases e
  | tup m =>
   rw[`hi] at y;obtain⟨a',o',J,n',e,g',c',d',r'⟩:=y;cases e;rw[g] at g';cases g';rw[d] at d';cases d';rw[Iss.inj l m _ r r']
theorem Iss.inj:∀(l m:`ei) (vs:`ab),`F8->Iss h m vs->l=m
 | [],m,vs,x,y=>by
  rw[wl0] at x;subst x;cases m with
  | nil=>rfl
  | cons t m=>rw[zd0] at y;obtain⟨v,r,e,_⟩:=y;cases e
 | `iw,m,vs,x,y=>by
  rw[zd0] at x;obtain⟨v,r,rfl,x1,x2⟩:=x;cases m with
  | nil=>rw[wl0] at y;cases y
  | cons u m =>
   rw[zd0] at y;obtain⟨v',r',e,y1,y2⟩:=y;cases e;rw[Is.inj t u v x1 y1,Iss.inj l m r x2 y2]
end
theorem Iss.length:∀{l:`ei} {vs:`ab},`F8->`bm=`b8
 | [],vs,x=>by rw[wl0] at x;subst x;rfl
 | `iw,vs,x=>by
  rw[zd0] at x;obtain⟨v,r,rfl,x1,x2⟩:=x;rw[`a0,`a0,x2.length]
theorem Iss.get:∀{l:`ei} {vs:`ab},`F8->∀(j:Nat) (h1:`F9) (h2:j<`bm),Is h l[j] vs[j]
 | [],vs,x,j,h1,_=>`alY
 | `iw,vs,x,j,h1,h2=>by
  rw[zd0] at x;obtain⟨v,r,rfl,x1,x2⟩:=x;cases j with
  | zero=>exact x1
  | succ j=>exact x2.get j `xD `xE
theorem pl0:∀{l:`ei} {j:Nat} (h1:`F9),dep l[j]<=tz0 l
 | [],j,h1=>`alY
 | `iw,j,h1=>by
  unfold tz0;cases j with
  | zero=>exact Nat.le_max_left _ _
  | succ j=>exact C4 (pl0 (l:=l) (j:=j) `xD) (Nat.le_max_right _ _)
universe zz
section
variable{w:`E}
theorem lp0{A:`T}{s:`q}{Q:`alZ}(h:Q 0xFCA86420 `ut):`g `ao A (pyHash `aF) Q E s:=by
 have hT:`hF `aF `al_ := typeIs_none s;unfold pyHash pyHashByItsType;have hv:[`jG].any Value.onHeap=`r:=rfl;refine `ca;rw[cRoomFor,`V (by rw[hv];exact C5)];refine `bE;refine `al0;show `g _ _ (if (`a (`TM "NoneType.__hash__")==`a `jG)=`b then _ else _) Q E s;rw[`al1];refine `al0;show `g _ _ (`al2 `aF `al3 _>>=_) Q E s;refine A0 (Bp0 hT n5 (C8 n5 hT F.entry_NoneType_hash ?_ (F.args_NoneType_hash_1 _)));show `g _ _ (retInt 0xFCA86420) _ _ _;refine Ac0 ?_;exact `gQ
theorem ep0:∀a b:`ei,hss w `rR=hss w a++hss w b
 | [],b=>by
  rw[`fK]
  conv=>rhs;lhs;unfold hss
  rw[`fK]
 | x::a,b=>by
  rw[`ds]
  conv=>lhs;unfold hss
  conv=>rhs;lhs;unfold hss
  rw[ep0 a b,`ds]
theorem e70:∀a b:`ei,drs `rR=drs a+drs b
 | [],b=>by
  rw[`fK]
  conv=>rhs;lhs;unfold drs
  omega
 | x::a,b=>by
  rw[`ds]
  conv=>lhs;unfold drs
  conv=>rhs;lhs;unfold drs
  rw[e70 a b];omega
theorem Uv0(x:T):hss w [x]=[hs w x]:=by unfold hss;unfold hss;rfl
theorem Vg0(x:T):drs [x]=dr x:=by unfold drs;unfold drs;rfl
theorem T10:∀(n:Nat) (t:T) {A:`T} {E:`af} {s:`q} {v:`v} {Q:`alZ},`TN->`F'->`Nv->Q (hs w t) { s with toks:=`aG+dr t }->`g `ao A (pyHash v) Q E s:=by
 intro n
 induction n with
 | zero =>
  intro t A E s v Q hd hu hi h;cases t with
  | non=>rw[G7] at hi;subst hi;exact lp0 h
  | int i=>rw[J4] at hi;obtain⟨t,rfl⟩:=hi;exact Ad0 h
  | str x=>rw[J5] at hi;obtain⟨t,rfl⟩:=hi;exact Ae0 h
  | tup l=>unfold dep at hd;omega
 | succ n ih =>
  intro t A E s v Q hd hu hi h;cases t with
  | non=>rw[G7] at hi;subst hi;exact lp0 h
  | int i=>rw[J4] at hi;obtain⟨t,rfl⟩:=hi;exact Ad0 h
  | str x=>rw[J5] at hi;obtain⟨t,rfl⟩:=hi;exact Ae0 h
  | tup l =>
   rw[`hi] at hi;obtain⟨a,o,items,nn,rfl,ho,hc,M,hi⟩:=hi;have hT:`al4 := `CY;unfold dep at hd;unfold pyHash pyHashByItsType;refine A0 (wpAny_cRoomFor_or (`i `d) ?_);refine `al5;show `g _ _ (if (`a (`TM "tuple.__hash__")==`a `jG)=`b then _ else _) Q E s;rw[`al1];refine `al5;show `g _ _ (`al2 `bJ `al3 _>>=_) Q E s;refine A0 (Bp0 hT n9 (C8 n9 hT F.entry_tuple_hash ?_ (F.args_tuple_hash_1 _)));show `g _ _ (`afg `bJ>>=_) _ _ s;refine A0 (wpAny_tupleItemsOf ho M ?_);refine `ca;rw[← `al6];refine Af0 _ (λrest (b:`kL Int) s'=>∃done J,l=`pw++J/\`al7/\`bu=hss w `pw/\s'=`al8) _ ?_ ?_ _ _ ⟨[],l,rfl,hi,by unfold hss;rfl,by unfold drs;rfl⟩
   ·rintro x rest b s' ⟨done,J,hl,hs,hb,rfl⟩
    cases J with
    | nil=>rw[wl0] at hs;cases hs
    | cons k J =>
     rw[zd0] at hs;obtain⟨v,r,e,h1,h2⟩:=hs;cases e;have hk:dep k<=n:=by
      have:=pl0 (l:=l) (j:=done.length) (`al9);simp only[hl,`akj `aV,`TO,`TP] at this;rw[← hl] at this;omega
     refine A0 (ih k hk `al' (s:=`al8) h1 ?_);have fin:∃done' left',l=done'++left'/\Iss `W left' `bB/\(b.push (hs w k)).toList=hss w done'/\({ s with toks:=`ad4+dr k }:`q)={ s with toks:=`aG+drs done' } :=
      ⟨`pw++[k],J,`al9,h2,by rw[ep0,Uv0,← hb];simp,by rw[e70,Vg0,`AN]⟩
     first
      | exact A1 fin
      | exact A0 (A1 (A1 fin))
   ·rintro b s' ⟨done,J,hl,hs,hb,rfl⟩
    cases J with
    | cons k J=>rw[zd0] at hs;obtain⟨v,r,e,_⟩:=hs;cases e
    | nil =>
     rw[`fb] at hl;subst hl;show `g _ _ (retInt (`ad2 `bu)) _ _ _;rw[hb];refine Ac0 ?_;unfold TrK.hs dr at h;show `g _ _ (if `al! then _ else _) Q E _;unfold reduceHash at h
     by_cases hr:`al!
     ·rw[`J hr]
      rw[`J hr] at h;exact `al?
     ·rw[`V hr]
      rw[`V hr] at h;exact A0 (D2 (`al?))
theorem all_eq{l m:`ei}:((`b? (min `b8 `g4)).all (`ama)&&`b8==`g4)=`amb:=by
 rw[`fY,`dL,`ix,`t?,`ua];constructor
 ·rintro⟨h1,h2⟩
  refine `amc
  have:=j0 (h1 i (`l3 `d))
  simpa [j3,a,b] using `u
 ·rintro rfl
  exact⟨λj _=>R1 rfl,rfl⟩
theorem Pg0:∀(n:Nat) (t u:T) {A:`T} {s:`q} {v v':`v},`TN->`F'->`amd:=by
 intro n;have J:∀(t u:T) {A:`T} {s:`q} {v v':`v},dep t=0->`rS->`amd:=by
  intro t u A s v v' hd hu hi hj;have tp:∀{l:`ei} {v:`v},Is `W `xC v->∃a items,`eh/\`Bc a `a':=λ{l v} x=>by
   rw[`hi] at x;obtain⟨a,o,its,nn,e,g,c,d,_⟩:=x;exact⟨a,its,e,o,g,c,nn,d⟩
  cases t with
  | tup l=>unfold dep at hd;omega
  | non =>
   rw[G7] at hi;subst hi;cases u with
   | non=>rw[G7] at hj;subst hj;rw[`TQ];exact X2 _
   | int j=>rw[J4] at hj;obtain⟨_,rfl⟩:=hj;rw[`gs];exact `TR
   | str y=>rw[J5] at hj;obtain⟨_,rfl⟩:=hj;rw[`gs];exact `TS
   | tup m=>obtain⟨a,its,rfl,p⟩:=tp hj;rw[`gs];exact Ai0 p hu
  | int i =>
   rw[J4] at hi;obtain⟨_,rfl⟩:=hi;cases u with
   | non=>rw[G7] at hj;subst hj;rw[`gs];exact `TT
   | int j =>
    rw[J4] at hj;obtain⟨_,rfl⟩:=hj;rw[show `I (T.int i=T.int j)=`F! from `ame];exact `TU
   | str y=>rw[J5] at hj;obtain⟨_,rfl⟩:=hj;rw[`gs];exact `TV
   | tup m=>obtain⟨a,its,rfl,p⟩:=tp hj;rw[`gs];exact Ak0 _ _ p hu
  | str x =>
   rw[J5] at hi;obtain⟨_,rfl⟩:=hi;cases u with
   | non=>rw[G7] at hj;subst hj;rw[`gs];exact `TW
   | int j=>rw[J4] at hj;obtain⟨_,rfl⟩:=hj;rw[`gs];exact `TX
   | str y =>
    rw[J5] at hj;obtain⟨_,rfl⟩:=hj;rw[show `I (T.str x=T.str y)=(x==y) from `ame];exact `TY
   | tup m=>obtain⟨a,its,rfl,p⟩:=tp hj;rw[`gs];exact An0 _ _ p hu
 induction n with
 | zero=>intro t u A s v v' hd hu hi hj;exact J t u `d `d hi hj
 | succ n ih =>
  intro t u A s v v' hd hu hi hj;cases t with
  | non=>exact `TZ
  | int i=>exact `TZ
  | str x=>exact `TZ
  | tup l =>
   unfold dep at hd;have O:=hi;rw[`hi] at hi;obtain⟨a,o,its,nn,rfl,g,c,d,r⟩:=hi;have p:`Bc a its:=⟨o,g,c,nn,d⟩;cases u with
   | non=>rw[G7] at hj;subst hj;rw[`gs];exact `amf p `d
   | int j=>rw[J4] at hj;obtain⟨_,rfl⟩:=hj;rw[`gs];exact `amg _ _ p `d
   | str y=>rw[J5] at hj;obtain⟨_,rfl⟩:=hj;rw[`gs];exact `amh _ _ p `d
   | tup m =>
    have Z:=hj;rw[`hi] at hj;obtain⟨a',o',M,a0,rfl,g',c',d',r'⟩:=hj;have p':`Bc a' M:=⟨o',g',c',a0,d'⟩
    by_cases hab:a=a'
    ·subst hab
     rw[Is.inj _ _ _ O Z,`TQ];exact X2 _
    ·refine `T_
     have l1:`uk=`b8:=by rw[← `bp,`am]
     have l2:M.size=`g4:=by rw[← `bp,`rT]
     have:=Ap0 (A:=A) (e:=`ama) p p' `d λj j1 j2=>by
      have q1:=`rU j `d (by rw[`bp];exact j1);have q2:=r'.get j `d (by rw[`bp];exact j2);have:=ih l[j] m[j] (A:=`bV) (C4 (pl0 _) `d) `al' q1 q2
      simpa [j3,show `F9 by omega,show j<`g4 by omega] using `u
     rw[l1,l2,all_eq] at this;rw[show `I (T.tup l=T.tup m)=`amb from by rw[`fY,`t?,`t?];exact`ad5];exact `u
theorem X10:∀(n:Nat) (t:T) {A:`T} {E:`af} {s:`q} {v:`v} {Q:`jH},`TN->`Nv->`T0->`g `ao A (eqIsQuiet n v) Q E s:=by
 intro n
 induction n with
 | zero =>
  intro t A E s v Q hd hi h;cases t with
  | tup l=>unfold dep at hd;omega
  | non=>rw[G7] at hi;subst hi;unfold eqIsQuiet;exact `gQ
  | int i=>rw[J4] at hi;obtain⟨_,rfl⟩:=hi;unfold eqIsQuiet;exact `gQ
  | str x=>rw[J5] at hi;obtain⟨_,rfl⟩:=hi;unfold eqIsQuiet;exact `gQ
 | succ n ih =>
  intro t A E s v Q hd hi h;cases t with
  | non=>rw[G7] at hi;subst hi;unfold eqIsQuiet;exact `gQ
  | int i=>rw[J4] at hi;obtain⟨_,rfl⟩:=hi;unfold eqIsQuiet;exact `gQ
  | str x=>rw[J5] at hi;obtain⟨_,rfl⟩:=hi;unfold eqIsQuiet;exact `gQ
  | tup l =>
   unfold dep at hd;rw[`hi] at hi;obtain⟨a,o,items,nn,rfl,ho,hc,M,hi⟩:=hi;have hT:`al4 := `CY;unfold eqIsQuiet;refine A0 (L3 hT F.slot_tuple_eq.lookup ?_);show `g _ _ (isInstance `bJ `xF>>=_) _ _ s;refine A0 (S1 hT isSubtype_tuple_tuple ?_);simp only[`rV,`eD,`cB];refine A0 (K0 ho M ?_);refine `ca;show `g _ _ (`rW `a' _ _) _ _ s;rw[← `al6];refine Af0 _ (λrest r s'=>r.1=`c/\s'=s/\∃J,`al7/\tz0 J<=n) _ ?_ ?_ _ _ ⟨rfl,rfl,l,hi,`h⟩
   ·rintro v rest r s' ⟨hr,rfl,J,hs,hn⟩
    cases J with
    | nil=>rw[wl0] at hs;cases hs
    | cons k J =>
     rw[zd0] at hs;obtain⟨v',r',e,h1,h2⟩:=hs;cases e;unfold tz0 at hn;refine A0 (ih k `d h1 ?_);simp only[`rV,`eD,`cB];exact A1 ⟨rfl,rfl,J,h2,`h⟩
   ·rintro⟨r1,r2⟩ s' ⟨hr,rfl,_⟩
    simp only at hr;subst hr;exact `gQ
noncomputable def kind(prog:`_)(w:`E):`agm `fn w T where
 is:=λh t a=>Is h t `bJ/\dep t<=8
 hash:=hs w
 draws:=dr
 room:=λA=>`i5+8<`cu
 inj:=λhx hy=>Is.inj _ _ _ hx.1 hy.1
 keeps:=λ{h h' k a d o es ep} x ho hd hs=>⟨Is.mono (λb u items n g e=>by
  have ne:b≠d:=λz=>by subst z;rw[ho] at g;cases g;rw[hd] at e;cases e
  rw[`fq b ne];exact g) _ _ x.1,x.2⟩
 pyHash:=λhu hk h=>T10 8 _ hk.2 hu hk.1 h
 eqBool:=λhu hx hy h=>Pg0 8 _ _ hx.2 hu hx.1 hy.1 _ _ _ _ h
 quiet:=λhk h=>X10 8 _ hk.2 hk.1 h
universe zz
universe TrK
namespace L2
open Spec PyProof.Rows
abbrev Key:=`Oy
noncomputable def qi0:Key->`ami
 | `xG,v=>`amj k v
 | `mk,v=>`amk x v
noncomputable def N40(w:`E):Key->Int
 | `xG=>hashInt k
 | `mk=>`alV
theorem M7:∀{k:Key} {v:`v},qi0 k v=`b->(∃i t,k=`gH i/\v=`Nw i t)∨(∃x t,k=`ub x/\v=`Nx x t)
 | `oH,v,h=>by
  obtain⟨t,e⟩:=Value.isInt_shape (k:=i) (v:=v) h;exact `aml
 | `mk,v,h=>by
  obtain⟨t,e⟩:=Value.isStrOf_shape (x:=x) (v:=v) h;exact `i ⟨x,t,rfl,e⟩
theorem b80(i:Int)(t:Tok):qi0 (`oH) `Bf=`b:=by simp[qi0,`amj]
theorem Z60(x:Str)(t:Tok):qi0 (`mk) `F?=`b:=by simp[qi0,`amk]
theorem Rq0(a b:Int):`I (`T1=`gH b)=(a==b):=by
 by_cases e:a=b
 ·subst e;simp
 ·have h:¬`T1=`gH b:=λq=>e (Sum.inl.inj q)
  rw[`ml];exact(Y1.mpr e).symm
theorem S00(a b:Str):`I (`T2=`ub b)=`I (a=b):=by
 by_cases e:a=b
 ·subst e;simp
 ·have h:¬`T2=`ub b:=λq=>e (Sum.inr.inj q)
  rw[`ml,`bZ e]
theorem Qv0(a:Int)(b:Str):`I (`T1=`ub b)=`r:=`amm
theorem Qo0(a:Str)(b:Int):`I (`T2=`gH b)=`r:=`amm
noncomputable def V2(prog:`_)(w:`E):PySem.KeyKind `fn w Key where
 is:=qi0
 hash:=N40 w
 inj:=λv a b ha hb=>by
  rcases M7 ha with⟨i,t,rfl,rfl⟩|⟨x,t,rfl,rfl⟩
  ·rcases M7 hb with⟨j,u,rfl,e⟩|⟨y,u,rfl,e⟩
   ·injection e with e1 _;rw[e1]
   ·exact nomatch e
  ·rcases M7 hb with⟨j,u,rfl,e⟩|⟨y,u,rfl,e⟩
   ·exact nomatch e
   ·injection e with e1 _;rw[e1]
 byValue:=λk v h=>by
  rcases M7 h with⟨i,t,rfl,rfl⟩|⟨x,t,rfl,rfl⟩<;>rfl
 pyHash:=λhv h=>by
  rcases M7 hv with⟨i,t,rfl,rfl⟩|⟨x,t,rfl,rfl⟩
  ·exact Ad0 h
  ·exact Ae0 h
 eqBool:=λhu hv h=>by
  rcases M7 hu with⟨i,t,rfl,rfl⟩|⟨x,t,rfl,rfl⟩
  ·rcases M7 hv with⟨j,u,rfl,rfl⟩|⟨y,u,rfl,rfl⟩
   ·rw[Rq0] at h;exact Aq0 h
   ·rw[Qv0] at h;exact p5 i t y u _ _ _ _ h
  ·rcases M7 hv with⟨j,u,rfl,rfl⟩|⟨y,u,rfl,rfl⟩
   ·rw[Qo0] at h;exact p9 x t j u _ _ _ _ h
   ·rw[S00] at h;exact wpAny_eqBool_str h
 «strs»:=λk x t v h=>by
  rcases M7 h with⟨i,u,rfl,e⟩|⟨y,u,rfl,e⟩
  ·exact nomatch e
  ·injection e with e1 _
   subst e1;cases v<;>rfl
theorem gv0(prog:`_)(w:`E)(i:Int)(t:Tok):`amn (`oH) `Bf=`b:=b80 i t
theorem gz0(prog:`_)(w:`E)(x:Str)(t:Tok):`amn (`mk) `F?=`b:=Z60 x t
inductive V where
 | non|bl (b:`X)|int (i:Int)|str (x:Str)|byt (b:`amo)|flt (b:UInt64)|ref (a:`f)|ty (n:`cC)
 deriving DecidableEq
variable{σ:`amp}{kvs:`amq}
noncomputable def RelV:V->`Ps
 | `A,u=>u=`jG
 | `en,u=>u=`BD b
 | `ap,u=>`T3
 | `cV,u=>`amr
 | .byt b,u=>∃t,u=Value.bytes b t
 | .flt b,u=>∃t,u=Value.float b t
 | `cH,u=>`B?
 | .ty n,u=>u=`h2 n
abbrev Vals:`C->`alT:=`bC `dV
theorem Vals.length{xs:`C}(r:`d8):`as=`cz:=k0 r
theorem Vals.get:∀{xs:`C} {us:`ab} {i:Nat} {x:V},`d8->`i'->∃u,us[i]?=`aU/\`gP
 | _,_,_,_,`ae,e=>`T4
 | _,_,0,_,`au r _,e=>`ams
 | _,_,i+1,x,`xH,e=>by
  obtain⟨u,h1,h2⟩:=Vals.get (i:=i) (x:=x) t `jO;exact`amt
theorem Vals.set{x:V}(r:`gP):∀{xs:`C} {us:`ab} (i:Nat),`d8->`bK (xs.set i x) (us.set i u)
 | _,_,_,`ae=>`ae
 | _,_,0,`xH=>`T5
 | _,_,i+1,`au q t=>`au q (Vals.set r i t)
theorem Vals.append:∀{xs ys:`C} {us ws:`ab},`d8->`amu->`bK `Bt (us++ws):=by
 intro xs ys us ws p s
 induction p with
 | nil=>exact s
 | cons r t ih=>exact `Ga
theorem Vals.take:∀{xs:`C} {us:`ab} (n:Nat),`d8->`bK (`Gb) (us.take n)
 | _,_,0,_=>`ae
 | _,_,_+1,`ae=>`ae
 | _,_,n+1,`T5=>`au r (Vals.take n t)
theorem Vals.drop:∀{xs:`C} {us:`ab} (n:Nat),`d8->`bK `T6 (us.drop n)
 | _,_,0,r=>r
 | _,_,_+1,`ae=>`ae
 | _,_,n+1,`xH=>Vals.drop n t
noncomputable def RelO:`el->`kM->Prop
 | `a3,`aU=>`f0
 | `c,`c=>`fc
 | _,_=>`bM
noncomputable def KV{κ:Type}:`fL->`rX->Prop:=`bC λ(p:`AO) (q:κ×`v)=>`AQ/\`amv
noncomputable def kV:Key->V
 | `oH=>`ap
 | `mk=>`cV
inductive HO where
 | lst (xs:`C)
 | tup (xs:`C)
 | dK (kvs:`gf)|dT (kvs:`mm)|dX (kvs:`oI)
 | set (S:Int->`X) (n:Nat)
 | ins (C dx:`f) (fs:`amw)
 | own (x:`f)
 | xd (fs:`amw)
 | met (f x:`f)
 | rng (lo hi:Int)
 | frz (o:Obj) (u:HO)
 | tbl (ps:`aZ)
 | ext (φ:`pu)
abbrev Hp:=`f->`rY
noncomputable def upd(H:Hp)(a:`f)(o:HO):Hp:=λb=>if b=a then `aj else H b
variable{H H' H₀:L2.Hp}
theorem j6{o:HO}:upd H a o a=`aj:=by unfold upd;rw[`aY]
theorem b7{b:`f}{o:HO}(h:b≠a):upd H a o b=H b:=by unfold upd;rw[`rZ]
theorem s40{b:`f}{o u:HO}(h:`u_)(h':`xI)(d:o≠u):a≠b:=by
 intro e;subst e;rw[h] at h';exact d (B2 h')
theorem S6{b:`f}{o:HO}(h:`u_)(h':`cY):a≠b:=by
 intro e;subst e;rw[h] at h';cases h'
noncomputable def IsTupN(h:`H)(a:`f)(items:`aZ):Prop:=∃o,`i4/\`mX/\∃n,`Nt/\`Gc
theorem IsTupN.tup{h:`H}(x:IsTupN h a `a'):`uz h a `a':=let ⟨o,e,c,n,d,_⟩:=x;⟨o,e,c,n,d⟩
theorem IsTupN.new(h:`H)(items:`aZ):IsTupN (h.push { cls:=`fm,data:=`be `a' }) `dX `a':=`T7
mutual
noncomputable def TrH(H:Hp):`dW->V->Prop
 | `A,v=>`q8
 | `ap,v=>`xJ
 | `cV,v=>v=`cV
 | `gG,v=>∃a xs,`eh/\`Gd/\`Ge
noncomputable def TrHs(H:Hp):`iy->`T8
 | [],xs=>`xK
 | `iw,xs=>∃x r,xs=x::r/\TrH H t x/\TrHs H l r
end
mutual
theorem TrH.mono(k:`xL):∀(t:`dW) (v:V),`T9->TrH H' t v
 | `A,v,h=>`T'
 | `ap,v,h=>`T'
 | `cV,v,h=>`T'
 | `gG,v,h=>by
  unfold TrH at h ⊢;obtain⟨a,xs,e,q,r⟩:=h;exact⟨a,xs,e,k a xs q,TrHs.mono k l xs r⟩
theorem TrHs.mono(k:`xL):∀(l:`iy) (xs:`C),`Ge->TrHs H' l xs
 | [],xs,h=>by unfold TrHs at h ⊢;exact h
 | `iw,xs,h=>by
  unfold TrHs at h ⊢;obtain⟨x,r,e,h1,h2⟩:=h;exact⟨x,r,e,`Gf k t x h1,TrHs.mono k l r h2⟩
end
noncomputable def qOf(ps:`aZ):Str:=match (ps[0]?:`kM) with
 | `a (`N q _)=>q
 | _ => ""
noncomputable def TabOk(H:Hp)(h:`H)(a:`f)(q:Str):Prop:=∃cont:`aZ,`gF=`a { cls:=`aF,data:=`i7 cont }/\TriplesOk `amx /\
 ∀pos cv,codeAmong pos `amx=`a cv->∃c oc vs tq,cv=`aa c/\H c=`a (`gI oc (`kU c))/\oc.data=`Gg/\vs[1]?=`a (`N q tq)
section
variable(P:`_)(w:`E)
noncomputable def ObjOk(H:Hp)(h:`H)(a:`f):HO->Prop
 | `f1=>`d9/\∃(its:`ab) (n:Nat),`kh/\`gF=`Oe
 | `ek=>`d9/\∃its:`ab,`kh/\IsTupN h a `cd
 | `Oh=>`T!
 | .dT kvs=>`kS/\`hH/\∃xs:`ki,
   `bC `amy kvs xs /\
   ∃o es ep,`i4/\`xM/\`xN/\`Gh=`mY (`vh `T?)/\`amz
 | `QG=>`kS/\`hH/\∃xs:`Gi,
   `amA /\
   ∃o es ep,`i4/\`xM/\`xN/\`Gh=`mY (`vh (`Ua))/\`ad?
 | .set S n=>h.SetOf (intKind P w) a S n
 | .ins C dx fs=>H dx=`Gj/\fs.length<=1000/\dx≠a/\`gF=`a (W.instObj C dx) /\
   ∃mA,h.Ns1 dx mA/\(`amB)/\PySem.Within mA (fs.map `b9)
 | `kU _=>`amC
 | .xd fs=>∃mA,h.Ns1 a mA/\`amB
 | .rng lo hi=>∃t u v,`gF=`a `NY
 | `gI o u=>`i4/\`b_ H h a u
 | .tbl ps=>`aee
 | .met f x=>`gF=`a (`aeh `fl (`aa x))
 | .ext φ=>φ h/\(`amC)/\∀h1 h2:`H,φ h1->(∀o,`Gk a=`aj->h2.get? a=`aj)->φ h2
noncomputable def HOk(H:Hp)(h:`H):Prop:=∀a o,`u_->`Ub
universe zz
section
variable{P:`_}{w:`E}{h:`H}{o:HO}
theorem ObjOk.lt(x:`Ub):a<`dX:=by
 cases o with
 | lst xs=>obtain⟨_,_,_,_,e⟩:=x;exact `cJ
 | tup xs=>obtain⟨_,_,_,p⟩:=x;exact p.tup.lt
 | dK kvs=>obtain⟨_,_,_,_,o,_,_,e,_⟩:=x;exact `cJ
 | dT kvs=>obtain⟨_,_,_,_,o,_,_,e,_⟩:=x;exact `cJ
 | dX kvs=>obtain⟨_,_,_,_,o,_,_,e,_⟩:=x;exact `cJ
 | set S n=>obtain⟨o,_,_,_,e,_⟩:=x;exact `cJ
 | ins C dx fs=>obtain⟨_,_,_,e,_⟩:=x;exact `cJ
 | own y=>obtain⟨_,e⟩:=x;exact `cJ
 | xd fs=>obtain⟨_,⟨_,_,_,e,_⟩,_⟩:=x;exact `cJ
 | rng lo hi=>obtain⟨_,_,_,e⟩:=x;exact `cJ
 | frz ob u=>obtain⟨e,_⟩:=x;exact `cJ
 | tbl ps=>obtain⟨_,e,_⟩:=`amD;exact `cJ
 | met f y=>exact A7 (show `gF=`a _ from x)
 | ext φ=>obtain⟨_,⟨_,e⟩,_⟩:=x;exact `cJ
theorem Paired.mapP{F G:`oJ}:∀{l₁:`cD} {l₂:`oK},`bC F l₁ l₂->(`amE)->`bC G l₁ l₂:=by
 intro l₁ l₂ p f
 induction p with
 | nil=>exact `ae
 | cons r t ih=>exact `au (f _ _ r) ih
theorem ObjOk.stay(x:`Ub)(k:∀b u,(b=a∨H b=`Gj)->`NA)
  (ho:∀b,H b=`Gj->`hG=`Gj) (ht:`xL) (hf:∀b ob u,H b=`Uc->`hG=`Uc):`b_ P w H' h' a o:=by
 induction o with
 | lst xs=>obtain⟨z,its,n,r,e⟩:=x;exact⟨z,its,n,r,`gt⟩
 | tup xs=>obtain⟨z,its,r,ob,e,c⟩:=x;exact⟨z,its,r,ob,`gt,c⟩
 | dK kvs=>obtain⟨z,y,vs,r,ob,es,ep,e,c⟩:=x;exact⟨z,y,vs,r,ob,es,ep,`gt,c⟩
 | dT kvs =>
  obtain⟨z,y,xs,r,ob,es,ep,e,c⟩:=x;exact⟨z,y,xs,`Gl r λp q z=>`amF,ob,es,ep,`gt,c⟩
 | dX kvs =>
  obtain⟨z,y,xs,r,ob,es,ep,e,c⟩:=x;exact⟨z,y,xs,`Gl r λp q z=>⟨z.1,`Gf ht _ _ z.2.1,z.2.2⟩,ob,es,ep,`gt,c⟩
 | set S n=>obtain⟨ob,es,ep,t,e,c⟩:=x;exact⟨ob,es,ep,t,`gt,c⟩
 | ins C dx fs =>
  obtain⟨d,z,ne,e,mA,⟨od,es,ep,e2,c⟩,r⟩:=x;exact⟨ho _ d,z,ne,`gt,mA,⟨od,es,ep,k _ _ (`i d) e2,c⟩,r⟩
 | own y=>obtain⟨ob,e⟩:=x;exact⟨ob,`gt⟩
 | xd fs=>obtain⟨mA,⟨od,es,ep,e,c⟩,r⟩:=x;exact⟨mA,⟨od,es,ep,`gt,c⟩,r⟩
 | rng lo hi=>obtain⟨t,u,v,e⟩:=x;exact⟨t,u,v,`gt⟩
 | frz ob u ih=>obtain⟨e,q⟩:=x;exact⟨`gt,ih q⟩
 | tbl ps =>
  obtain⟨cont,e,t,c⟩:=`amD;exact⟨cont,`amG,t,λpos cv q=>let ⟨c',oc,vs,tq,z1,z2,z3⟩:=c pos cv q;⟨c',oc,vs,tq,z1,hf _ _ _ z2,z3⟩⟩
 | met f y =>
  have e:`gF=`amH:=x;show `t8=`amH;exact `amG
 | ext φ=>obtain⟨p,⟨o,e⟩,st⟩:=x;exact⟨st _ _ p λo q=>k _ _ `i8 q,⟨o,`gt⟩,st⟩
theorem HOk.lt(x:`eE)(e:`u_):a<`dX:=(x a o e).lt
theorem HOk.fresh(x:`eE)(e:`Ud):`Gm:=by
 cases q:H a with
 | none=>rfl
 | some u=>exact `L (B8 (x.lt q) e) `jh
theorem HOk.kept(x:`eE)(k:`Gn):HOk P w H h':=λa o e =>
 (x a o e).stay (λb u _ q=>`AU) `NG (`ug) `AZ
theorem HOk.laid(x:`eE)(k:`Gn)(hp:`Ud)(new:`b_ P w `kj h' a o):HOk P w `kj h':=λb u e=>by
 have hn:=x.fresh hp
 by_cases hb:b=a
 ·subst hb;rw[j6] at e;cases e;exact new
 ·rw[b7 hb] at e
  exact(x b u e).stay `amI (λc q=>`xO) (λc xs q=>`xO) λc ob u' q=>`xO
universe zz
noncomputable def Rd(H:Hp)(a:`f)(u:HO):Prop:=H a=`aU∨∃o,H a=`NB
theorem Rd.ok{P:`_}{w:`E}{h:`H}{u:HO}(r:Rd H a u)(x:`eE):`amJ:=by
 rcases r with r|⟨o,r⟩
 ·exact x a u r
 ·obtain⟨_,q⟩:=x a _ r
  exact q
noncomputable def Mut:`rY->Prop
 | `a (`iz)=>`fc
 | `a (.dK _)=>`fc
 | `a (.dT _)=>`fc
 | `a (.dX _)=>`fc
 | `a (.set _ _)=>`fc
 | `a (.ins _ _ _)=>`fc
 | `a (.ext _)=>`fc
 | _=>`bM
section
variable{P:`_}{w:`E}{h:`H}{x e:`f}{o':HO}
theorem HOk.write(ok:`eE)(mu:`Ue)(he:`Uf)(k:`amK)(heo:`Ug)
  (new:`b_ P w (upd H x o') h' x o'):HOk P w (upd H x o') h':=λb u q=>by
 have J:∀c y,H c=`a (`kU y)->c≠x:=λc y r z=>`Uh
 have M:∀c xs,H c=`py->c≠x:=λc xs r z=>`Uh
 have O:∀c ob u',H c=`a (`amL)->c≠x:=λc ob u' r z=>`Uh
 by_cases hb:b=x
 ·subst hb;rw[j6] at q;cases q;exact new
 ·rw[b7 hb] at q
  by_cases hbe:b=e
  ·have q':H b=`aej:=by
    rcases he with z|z
    ·exact `L (hbe.trans z) hb
    ·rw[hbe];exact z
   rw[q] at q';cases q';obtain⟨v,hv⟩:=heo;exact⟨v,by rw[hbe];exact hv⟩
  ·refine(ok b u q).stay (λc v hc r=>k c v ?_ r) (λc r=>by rw[b7 (J c b r)];exact r) (λc xs r=>by rw[b7 (M c xs r)];exact r) λc ob u' r=>by rw[b7 (O c ob u' r)];exact r
   rcases hc with rfl|hc
   ·exact hbe
   ·rintro rfl
    rcases he with z|z
    ·exact J c b hc z
    ·rw[hc] at z;cases z;exact hb rfl
universe zz
structure Un(fs ex:`bn)(H H':Hp)(h h':`H):Prop where
 keep:∀b o,`gN->`cY->b∉fs->`xP->`m2
 slot:∀b o,`gN->`cY->b∈fs->`xP->`amM
 free:∀b o,`gN->`cY->`xP->`ur
 there:∀b o,`gN->`xP->`amN
 tups:`xL
 frzs:`amO
 tbls:`amP
section
variable{fs fs' ex ex':`bn}{H1 H2:Hp}{h h1 h2:`H}{x e:`f}{o:HO}
theorem Un.any(u:Un fs ex H H1 h h1){b:`f}{ob:Obj}(q:`uc=`xQ)(n:`cY)(hx:`xP):∃sl,`Gk b=`a { ob with slots:=sl }:=by
 by_cases hb:b∈fs
 ·exact u.slot b ob q n hb hx
 ·exact⟨ob.slots,u.keep b ob q n hb hx⟩
theorem Un.kept(k:`Gn):Un fs ex H H h h' :=
 ⟨λb ob q _ _ _=>`Ui,λb ob q _ _ _=>⟨ob.slots,`Ui⟩,λ_ _ _ n _=>n,λb ob q _=>⟨ob,`Ui⟩,`ug,`AZ,λ_ ps q=>⟨#[],`On⟩⟩
theorem Un.refl:Un fs ex H H h h:=`Go `ug
theorem Un.laid(k:`Gn)(hp:`Ud)(hn:`Gm):Un fs ex H `kj h h' where
 keep:=`amQ
 slot:=`amR
 free:=λb u q n _=>by rw[b7 (B1 (B8 (A7 q) hp))];exact n
 there:=`amS
 tups:=λb xs q=>`xO
 frzs:=λb u xs q=>`xO
 tbls:=λb ps q=>⟨#[],by rw[`aei,q];simp⟩
theorem Un.write(mu:`Ue)(he:`Uf)(k:`amK)(heo:`Ug):Un fs ex H `Uj h h':=by
 have hx:∀b,`cY->b≠x:=λb n z=>by subst z;rw[n] at mu;exact mu
 have hb:∀b,`cY->`ud:=λb n z=>by
  subst z;rcases he with r|r
  ·exact hx b n r
  ·rw[n] at r;cases r
 have hm:∀b u,`xI->¬Mut (`aU)->b≠x:=λb u q nm z=>by subst z;rw[q] at mu;exact nm mu
 refine⟨λb u q n _ _=>`amT,λb u q n _ _=>⟨u.slots,`amT⟩,λb u q n _=>by rw[b7 (hx b n)];exact n,λb u q _=>?_,
  λb xs q=>`amU,λb u xs q=>`amU,λb ps q=>⟨#[],by rw[`ael,q];simp⟩⟩
 by_cases hbe:b=e
 ·subst hbe;exact heo
 ·exact⟨u,k b u hbe q⟩
universe zz
noncomputable def trk(h:`H)(H:Hp):`bn:=(`b? `dX).filter λa=>(H a).isSome
noncomputable def tn0(h:`H)(H:Hp):`H:=W.hideAll h (trk h H)
theorem b60(h:`H)(H:Hp):(tn0 h H).objs.size=`dX:=W.hideAll_size _ _
theorem Y40{h:`H}{b:`f}{o:Obj}(e:`gN)(n:`cY):`amV :=
 W.hideAll_get _ e λhm=>by
  have q:(H b).isSome=`b:=(List.mem_filter.mp hm).2;rw[n] at q;simp at q
theorem Vf0{h:`H}{b:`f}{o:Obj}(e:`amV):`gN/\`cY:=by
 have e':`gN:=W.of_hideAll (trk h H) e;refine⟨e',?_⟩;cases q:H b with
 | none=>rfl
 | some x =>
  have hm:b∈trk h H:=List.mem_filter.mpr ⟨`l3 (A7 e'),by simp[q]⟩;have z:`aem=`c:=W.hideAll_none (trk h H) hm;rw[z] at e;cases e
universe L2
variable{H H' H₀:L2.Hp}{σ:`amp}{kvs:`amq}
namespace L2
open Spec PyProof.Rows
structure Mod(K:`M)(mg:`bR)(base:`H):Prop where
 kin:`Uk
 glob:`xR
 blt:∃mb,base.Ns `Ul mb/\`amW
 nolimit:base.NoLimit
structure Cx where
 prog:`_
 w:`E
 K:`M
 mg:`bR
 base:`H
 A:`T
 N:`t
 s₀:`q
 H₀:Hp
 env:Env
 outer:`fd
 stack:`fd
 ex:`bn
 fn:Str->`X
 calm:`X
 pn:`ay
 xe:`af
variable{X:L2.Cx}
noncomputable def frs(l:`fd):`bn:=l.filterMap (·.frame)
abbrev Cx.fs(X:Cx):`bn:=frs `r_
noncomputable def Vis(sc:`dK)(x:Str):Prop:=`aen∨`NC∨`ue x=`hQ
noncomputable def Loc(sc:`dK)(x:Str):Prop:=`Um
noncomputable def Look(env:Env)(h:`H)(m:`bR)(x:Str)(u:`v):Prop :=
 (`BJ=`kW/\m x=`aU)∨((`BJ=`hI∨`BJ=`hQ)/\∃c,`BG x=`fp/\h.IsCell c (`aU))
structure Cx.Ok(X:Cx):Prop where
 mod:`amX
 kind:`BP=`k5
 glob:`Un=`b0
 blt:X.env.builtins=`Ul
 above:`m0<=`eP
 inj:∀x y c,`hK->`amY->x=y
 has:∀x,(`BQ=`hI∨`BQ=`hQ)->∃c,`hK
 cab:∀x c,`NJ->`hK->`m0<=c
 hd:`b5->X.A.handled=`c
 frames:X.A.frames=`a `hM
 stk:`hM=`r_∨(`hM=`F::`r_/\X.env.frame=`a `eP)
 exf:∀b∈`m_,`pI/\`aeq
 bs:∀b o,`xS->`Uo/\`amZ
 bsz:X.base.objs.size<=`m0
 noex:∀b o,`xS->b∉`m_
 exfs:∀b∈`m_,`Gp
 funs:`am_ `eO `r_
 frf:∀b∈`gJ,`amZ
structure Inv(X:Cx)(pins:`ay)(σ:`Up)(H:Hp)(s:`q):Prop where
 ok:X.Ok
 os:s.os=X.s₀.os
 bare:`ui `r0
 base:Un `gJ `m_ X.H₀ H X.s₀.heap `W
 loc:∃m,`am0/\∀(i:Nat) (x:Str) (v:V),`cp->`Gq->`fe->∃u,`f0/\Look `F `W m x u
 cell:∀x c,`hK->∃v,`am1
 free:H `eP=`c
 freeC:∀x c,`hK->H c=`c
 pin:∀p∈`AX,`am2
 hok:HOk `bf X.w H `W
 len:`NH=X.N.length
section
variable{s:`q}
theorem Cx.Ok.nofr(ok:X.Ok){b:`f}{o:Obj}(e:`xS):`Gp:=λhb=>by
 have:=(ok.funs.mem hb).1;rw[e] at this;cases `u
theorem Inv.bs(I:`B):∀b o,`xS->`am3:=λb o e =>
 ⟨`aet b o (`Gr).1 (`Gr).2 (I.ok.nofr e) `am4,`AY b o (`Gr).1 (`Gr).2 `am4⟩
theorem Inv.bk(I:`B):∀b o,`xS->`hL:=λb o e=>(I.bs b o e).1
theorem Inv.mod(I:`B):`amX:=I.ok.mod
theorem Inv.kIn(I:`B):X.K.In `W:=I.ok.mod.kin.keeps I.bk
theorem Inv.lt(I:`B):`eP<`O:=let ⟨_,hn,_⟩:=`f_;hn.lt
theorem Inv.sz(I:`B):`m0<=`O:=C4 `A1 (P2 I.lt)
theorem Inv.nofs(I:`B)(h:`Gs):a∉`gJ:=λhb=>by
 obtain⟨_,o,ho,_⟩:=`am5;exact `L (B8 (A7 ho) (C4 I.sz h)) `jh
theorem Inv.cne(I:`B):∀x c,`hK->c≠`eP:=λx c e z=>by
 obtain⟨v,o,ho,hd⟩:=`Gt;obtain⟨m,⟨o',es,ep,J,M,_⟩,_⟩:=`f_;rw[z,J] at ho;cases ho;rw[M] at hd;cases hd
theorem Inv.funs(I:`B):`Gu `eO `r_:=by
 have all:∀(l:`fd),(∀b∈frs l,b∈`gJ)->`am_ `eO l->`Gu `eO l:=by
  intro l
  induction l with
  | nil=>intro _ _;trivial
  | cons env r ih =>
   intro hs hl;obtain⟨hk,⟨L,o,hf,hn,ho,hd⟩,hr⟩:=hl;have hL:L∈`gJ:=hs L (by unfold frs;rw[`r1,hf];exact A5);obtain⟨sl,e⟩:=`aeu L o ho (I.ok.frf L hL) hL λz=>I.ok.exfs L z hL
   exact⟨hk,⟨L,_,hf,hn,e,hd⟩,ih (λb hb=>hs b (by unfold frs;rw[`r1,hf];exact `wO)) hr⟩
 exact all `r_ (λ_ hb=>hb) I.ok.funs
theorem Inv.stack(I:`B):`Gu `eO `hM:=by
 rcases I.ok.stk with e|⟨e,hf⟩
 ·rw[e];exact I.funs
 ·rw[e]
  obtain⟨m,hn,_⟩:=`f_;refine `au (by rw[`hj];decide) hf hn ?_ I.funs;exact Heap.get?_none_of_le (C4 I.ok.bsz `A1)
theorem Inv.stkSub(I:`B):∀b∈`xT,b∈`eP::`gJ:=λb hb=>by
 rcases I.ok.stk with e|⟨e,hf⟩
 ·rw[e] at hb;exact `wO
 ·rw[e] at hb
  unfold frs at hb;rw[`r1,hf] at hb;exact hb
theorem Inv.stkFree(I:`B):∀b∈`xT,`cY:=λb hb=>by
 rcases `bU (I.stkSub b hb) with e|hb
 ·rw[e];exact `hk
 ·obtain⟨_,o,ho,_⟩:=`am5
  exact `AY b o ho (I.ok.frf b hb) λz=>I.ok.exfs b z hb
theorem Inv.step{g':`vs}{t':Nat}{d':Drawn}{ch:`bn}(I:`B)
  (hch:∀b∈ch,`Uq)
  (keep:∀b o,`pI->`Gp->`xU->`hL->`cY->`m2)
  (slot:∀b o,`pI->b∈`gJ->`xU->`hL->`cY->`amM) (free:∀b o,`xU->`hL->`cY->`ur)
  (there:∀b o,`xU->`hL->`amN)
  (tups:`xL) (frzs:`amO) (tbls:`amP)
  (ns:∀m,`am0->h'.Ns `eP m) (hok:`Ur) (hg:`ui g') :
  `am6:=by
 have Z:∀b o,`Uo->`pI:=λb o e=>B1 (B8 `hO `A1)
 have M:∀b o,`Uo->b∉`m_->`xU:=λb o e hx hb=>by
  rcases (hch b hb).1 with z|z
  ·exact hx z
  ·exact `L (B8 `hO z) `jh
 have O:∀x c,`hK->∀v,`am1->h'.IsCell c v:=λx c e v hq1=>by
  obtain⟨o,ho,hd⟩:=hq1
  have J:c∉ch:=`am7
  by_cases hc:c∈`gJ
  ·obtain⟨sl,q⟩:=slot c o (I.cne x c e) hc J ho `Us
   exact⟨_,q,hd⟩
  ·exact⟨o,keep c o (I.cne x c e) hc J ho `Us,hd⟩
 refine⟨I.ok,I.os,hg,⟨`A0,`A0,λb o e n hx=>?_,`aez,λb xs e=>tups b xs (`aeA b xs e),λb o xs e=>frzs b o xs (`aeB b o xs e),λb ps e=>?_⟩,?_,`Gv,?_,`Gv,`r2,hok,`m4⟩
 ·exact keep b o (Z b o e) hb `Gw `Ut `Uu
 ·obtain⟨sl,e1⟩:=`Uv
  obtain⟨a0,e2⟩:=slot b _ (Z b o e) hb `Gw e1 `Uu;exact⟨a0,e2⟩
 ·obtain⟨o',e1⟩:=`Gx
  exact free b o' `Gw e1 `Uu
 ·obtain⟨o',e1⟩:=`Gx
  exact there b o' `Gw e1
 ·obtain⟨m1,e1⟩:=`aeC b ps e
  obtain⟨m2,e2⟩:=tbls b _ e1;exact⟨m1++m2,by rw[e2,Array.append_assoc]⟩
 ·obtain⟨m,hn,hl⟩:=`f_
  refine⟨m,ns m hn,`am8⟩;obtain⟨u,r,l⟩:=hl i x v e1 e2 e3;refine⟨u,r,?_⟩;rcases l with l|⟨k,c,e,z⟩
  ·exact `m l
  ·exact `i ⟨k,c,e,O x c e _ z⟩
 ·obtain⟨v,z⟩:=`Gt
  exact⟨v,O x c e v z⟩
 ·obtain⟨m,⟨o,_,_,ho,_⟩,_⟩:=`f_
  exact free _ o (`am9) ho `hk
 ·obtain⟨v,o,ho,hd⟩:=`Gt
  exact free c o (`am7) ho `Us
 ·obtain⟨e,n,ne,nf,d⟩:=`Gy
  have J:p.1∉ch:=λz=>(hch p.1 z).2.2.2 p hp rfl
  exact⟨keep p.1 p.2 ne nf J e n,free p.1 p.2 J e n,ne,nf,d⟩
theorem Inv.un(I:`B)(u:Un `gJ [] H H' `W h')(hok:`Ur):Inv X `j σ H' `m3:=by
 obtain⟨m,⟨o,es,ep,ho,r⟩,_⟩:=`Uw;obtain⟨sl,hL⟩:=u.any ho `hk `Q;exact `Gz (g':=`r0) (d':=`GA) (ch:=[]) (λ_ z=>nomatch z) (λb o _ hb _ e n=>u.keep b o e n hb `Q) (λb o _ hb _ e n=>u.slot b o e n hb `Q) (λb o _ e n=>u.free b o e n `Q) (λb o _ e=>u.there b o e `Q) u.tups u.frzs u.tbls (λm' hm=>by
  obtain⟨o',O,M,J,r'⟩:=hm;rw[ho] at J;cases J;exact`am') hok `iA
theorem Inv.call{g':`vs}{t':Nat}{d':Drawn}(I:`B)(u:Un (`xT) ch H H' `W h')(hok:`Ur)(hg:`ui g')
  (hch:∀b∈ch,`Uq) :
  `am6:=by
 obtain⟨m,⟨o,es,ep,ho,r⟩,_⟩:=`Uw;obtain⟨sl,hL⟩:=u.any ho `hk `am9
 exact `Gz (ch:=ch) hch (λb o hL hb hc e n=>u.keep b o e n (λz=>(`bU (I.stkSub b z)).elim hL hb) hc) (λb o _ _ hc e n=>u.any e n hc) (λb o hc e n=>u.free b o e n hc) (λb o hc e=>u.there b o e hc) u.tups u.frzs u.tbls (λm' hm=>by
  obtain⟨o',O,M,J,r'⟩:=hm;rw[ho] at J;cases J;exact`am') hok hg
theorem Inv.turned{t':Nat}(I:`B)(k:∀b o,b≠it->`CG)(hn:H it=`c)(hL:it≠`eP)
  (h1:it∈`m_∨`m0<=it) (h2:∀x c,`hK->c≠it) (h3:∀p∈`AX,p.1≠it):`Ux:=by
 have J:∀b u,`xI->b≠it:=λb u e z=>by rw[z,hn] at e;cases e
 refine `Gz (g':=`r0) (d':=`GA) (ch:=[it]) (`fM) (λb o _ _ hc e _=>`Uy) (λb o _ _ hc e _=>⟨o.slots,`Uy⟩) `am!
  (λb o hc e=>⟨o,`Uy⟩) (`GB) (λ_ _ _ e=>e) `am? (λm hm=>?_) (`Uz) `iA
 ·have e:b=it:=`mn
  subst e;exact⟨h1,hL,h2,h3⟩
 ·obtain⟨o,es,ep,ho,r⟩:=hm
  exact⟨o,es,ep,k _ o (B9 hL) ho,r⟩
 ·refine`ana
  rcases hc with z|z
  ·rw[z];exact J b u e
  ·exact J c _ z
theorem Inv.tok(I:`B)(t:Nat):Inv X `j σ H { s with toks:=t }:=I.un (h':=`W) (t':=t) Un.refl `bt
theorem Inv.kept(I:`B)(k:`UA):`Ux:=I.un (`Go k) (I.hok.kept k)
theorem Inv.laid{o:HO}{t':Nat}(I:`B)(k:`UA)(hp:`Gs)(new:`b_ `bf X.w `kj h' a o) :
  Inv X `j σ `kj `m3:=I.un (Un.laid k hp (`Bs hp)) (I.hok.laid k hp new)
theorem Inv.write{x e:`f}{o:HO}{t':Nat}(I:`B)(mu:`Ue)(he:`Uf)(k:∀b u,`ud->`aew)(heo:`Ug)
  (new:`b_ `bf X.w `Uj h' x o):Inv X `j σ `Uj `m3:=I.un (Un.write mu he k heo) (I.hok.write mu he k heo new)
theorem Inv.weak{σ':`Up}(I:`B)(hl:`UB)(w:∀(i:Nat) v,σ'[i]?=`pG->`Gq):Inv X `j σ' H s :=
 ⟨I.ok,I.os,`iA,`GC,let ⟨m,hn,hl'⟩:=`f_;⟨m,hn,λi x v e1 e2 e3=>hl' i x v e1 (w i v e2) e3⟩,`kX,`hk,`kY,`m1,`bt,hl.trans `m4⟩
theorem Inv.pins_of{pins':`ay}(I:`B)(h:∀p∈pins',`am2):Inv X pins' σ H s :=
 ⟨I.ok,I.os,`iA,`GC,`f_,`kX,`hk,`kY,λp hp=>`anb (λz=>`m1 p (E1 _ z)) (h p),`bt,`m4⟩
theorem go0(hN:`GD)(a:N[i]?=`aQ)(b:N[j]?=`aQ):i=j:=by
 obtain⟨h1,e1⟩:=`cK a;obtain⟨h2,e2⟩:=`cK b;exact(q0 hN).mp (`R! e2.symm)
theorem lz0{M:`xV}{A:`T}{E:`af}{v:V}{Q:`oL}(I:`B)(hN:`hl)(hi:`cp)(hx:`kk)(r:`f0)
  (h:∀s',`anc->(∃a,`hN a `W `nb/\(a=`eP∨`ND x=`a a))->`UC) (hf:`kl:=by first|exact `bL|exact `dz|assumption):`and:=by
 obtain⟨m,hn,hl⟩:=`Uw;have a3:(`BP==.class||(`BP==.module&&`eP != `Un))=`r:=by rw[`hj];rfl
 have hiσ:i<`NH:=by rw[`m4];exact`UD
 have cne:=I.cne;have J:∀{a:`f} {h':`H},(∃o,`UE/\`Gm)->`ane->HOk `bf X.w H h':=λ{a h'} ha hs b ob e=>by
  obtain⟨_,_,O⟩:=ha;refine(`bt b ob e).stay (λc w' hc q=>(`fq c ?_).trans q) `NG (`ug) `AZ
  rintro rfl;rcases hc with rfl|hc
  ·rw[O] at e;cases e
  ·rw[O] at hc;cases hc
 rcases hx with hk|hk
 ·refine wpAny_storeName_local hk hn (λh' a4 hs=>?_) a3
  obtain⟨oL,_,_,a5,_⟩:=id hn;refine h _ ⟨I.ok,I.os,`iA,`anf,⟨_,a4,`ang⟩,λy c e=>?_,`hk,`kY,`r2,J ⟨oL,a5,`hk⟩ hs,`anh⟩ ⟨_,hs,`bL⟩
  ·exact`UF `Ut
  ·obtain⟨sl,e1⟩:=`Uv
   exact⟨sl,`UF e1⟩
  ·obtain⟨o',e1⟩:=`Gx
   exact⟨o',`UF e1⟩
  ·by_cases hj:j=i
   ·subst hj
    rw[hi] at e1;cases e1;rw[`ani] at e2;cases e2;exact⟨u,r,`m ⟨hk,`a!⟩⟩
   ·rw[`UG] at e2
    obtain⟨u',r',q⟩:=`anj;refine`ank;rcases q with⟨k,e⟩|⟨k,c,e,z⟩
    ·refine `m ⟨k,?_⟩
     have:y≠x:=λe=>hj (go0 hN e1 (e▸hi))
     simp[`u,e]
    ·exact `i ⟨k,c,e,`anl⟩
  ·obtain⟨w',z⟩:=`kX y c e
   exact⟨w',`anl⟩
  ·obtain⟨e,n,ne,nf,d⟩:=`Gy
   exact⟨(`fq p.1 ne).trans e,n,ne,nf,d⟩
 ·have Z:`NJ:=by
   rcases hf with z|z
   ·exact z
   ·rw[z] at hk;cases hk
  obtain⟨c,hc⟩:=`UH x (`m hk);obtain⟨w',z⟩:=`kX x c hc;refine wpAny_storeName_cell `hj hk hc z (λh' a0 hs=>?_);obtain⟨oc,a1,a2⟩:=id z;refine h `fr ⟨I.ok,I.os,`iA,`anf,⟨m,`anm hs (B9 (cne x c hc)),`ang⟩,λy c' e=>?_,`hk,`kY,`r2,J ⟨oc,a1,`kY x c hc⟩ hs,`anh⟩ ⟨c,hs,`i hc⟩
  ·exact`UI `Ut
  ·obtain⟨sl,e1⟩:=`Uv
   exact⟨sl,`UI e1⟩
  ·obtain⟨o',e1⟩:=`Gx
   exact⟨o',`UI e1⟩
  ·by_cases hj:j=i
   ·subst hj
    rw[hi] at e1;cases e1;rw[`ani] at e2;cases e2;exact⟨u,r,`i ⟨`m hk,c,hc,a0⟩⟩
   ·rw[`UG] at e2
    obtain⟨u',r',q⟩:=`anj;refine`ank;rcases q with q|⟨k,c',e,z'⟩
    ·exact `iB
    ·refine `i ⟨k,c',e,z'.sameBut hs ?_⟩
     rintro rfl;exact hj (go0 hN e1 (I.ok.inj _ _ _ e hc▸hi))
  ·by_cases hcc:c'=c
   ·subst hcc;exact⟨_,a0⟩
   ·obtain⟨w2,z2⟩:=`kX y c' e
    exact⟨w2,z2.sameBut hs hcc⟩
  ·obtain⟨e,n,ne,nf,d⟩:=`Gy
   refine⟨(`fq p.1 ?_).trans e,n,ne,nf,d⟩;intro q;rw[q,a1] at e;have q':oc=p.2:=B2 e;exact d w' (by rw[← q'];exact a2)
theorem ji0{M:`xV}{A:`T}{E:`af}{v:V}{Q:`oL}(I:`B)(hN:`hl)(hi:`cp)(hx:`kk)(r:`f0)
  (h:∀s',`anc->`UC) (hf:`kl:=by first|exact `bL|exact `dz|assumption):`and :=
 lz0 I hN hi hx r (λs' I' _=>h s' I') hf
theorem Inv.call'(I:`B)(ho:`ann)(u:Un (`xT) ch H H' `W `nb)(hok:HOk `bf X.w H' `nb)(hg:`Ol)
  (hch:∀b∈ch,`Uq):`km:=by
 obtain⟨h',g',d',t',o'⟩:=s';have e:o'=s.os:=ho;subst e;exact I.call (g':=g') (t':=t') (d':=d') u hok hg hch
universe zz
abbrev XK:=`v->`da->`gK
abbrev St:=`Up
abbrev VK:=`UJ
abbrev TE:=St->`A7
abbrev TT:=St->Hp->(`xW)->Prop
variable{ta tb te tv tx:L2.TE}
abbrev TA:=St->Hp->(`BN)->Prop
structure Ends where
 nx:`hP
 rt:VK
 bk:`hP:=λ_ _=>`bM
 ct:`hP:=λ_ _=>`bM
abbrev TS:=Ends->`hP
noncomputable def EP(X:Cx)(pins:`ay)(σ:St)(Q:VK)(u:`v)(s':`q):Prop:=∃v H',`km/\`ano
noncomputable def TP(X:Cx)(pins:`ay)(σ:St)(Q:`xW)(b:`X)(s':`q):Prop:=∃H',`km/\Q b H'
noncomputable def AP(X:Cx)(pins:`ay)(σ:St)(Q:`BN)(us:`ab)(s':`q):Prop:=∃vs H',`km/\`qs/\Q vs H'
noncomputable def SP(X:Cx)(pins:`ay)(D:Ends)(f:Flow)(s':`q):Prop :=
 match f with
 | `BK=>∃σ' H',`m!/\`m' σ' H'
 | .brk=>∃σ' H',`m!/\D.bk σ' H'
 | .cont=>∃σ' H',`m!/\D.ct σ' H'
 | `fk u=>∃v σ' H',`m!/\`f0/\D.rt v H'
noncomputable def PE(X:Cx)(e:`G)(t:TE):Prop :=
 ∀(pins:`ay) (s:`q) (σ:St) (H:Hp) (Q:VK),`B->`lg->`g `ak X.A `Cx `fw `aE s
noncomputable def PT(X:Cx)(e:`G)(t:TT):Prop :=
 ∀(pins:`ay) (s:`q) (σ:St) (H:Hp) (Q:`xW),`B->`lg->`g `ak X.A (`A3 e `F `Cx) `UK `aE s
noncomputable def PW(X:Cx)(e:`G)(t:TT):Prop :=
 ∀(whole:Sem `v) (pins:`ay) (s:`q) (σ:St) (H:Hp) (Q:`xW),`B->`lg->`g `ak X.A (`aeG) `UK `aE s
theorem PW.pt{t:TT}(h:PW X e t):PT X e t:=h _
noncomputable def PA(X:Cx)(es:`ci)(t:TA):Prop :=
 ∀(pos:Pos) (pins:`ay) (s:`q) (σ:St) (H:Hp) (Q:`BN),`B->`lg->`g `ak X.A (`r3 (`N4)) (AP X `j σ Q) `aE s
noncomputable def PS(X:Cx)(st:`fX)(t:TS):Prop :=
 ∀(pins:`ay) (s:`q) (σ:St) (H:Hp) (D:Ends),`B->t D σ H->`g `ak X.A (exec st `F) (SP X `j D) `aE s
noncomputable def PSs(X:Cx)(st:`iv)(t:TS):Prop :=
 ∀(pins:`ay) (s:`q) (σ:St) (H:Hp) (D:Ends),`B->t D σ H->`g `ak X.A (execs st `F) (SP X `j D) `aE s
theorem thn{t:Sem α}{Q Q':α->`ef}{M:`xV}{A:`T}{s:`q}(h:`g M A t Q E s)(hQ:∀a s,Q a s->Q' a s):`g M A t Q' E s:=E2 h hQ `GE
section
noncomputable def N80(i:Nat):TE:=fun σ H Q=>∃v,`Gq/\Q v H
noncomputable def tC(v:V):TE:=λ_ H Q=>Q v H
theorem yi0(hN:`cp)(hv:`fe)(hd:`bq:=by decide)(hcd:`fN:=by decide):PE X `pJ (N80 i):=by
 intro pins s σ H Q I h;obtain⟨v,e,h⟩:=h;obtain⟨m,hn,hl⟩:=`f_;obtain⟨u,r,l⟩:=hl i x v hN e hv;have fin:EP X `j σ Q u s:=`anp;rcases l with⟨hk,hm⟩|⟨hk,c,hc,J⟩
 ·exact `UL (`anq `hj hk hn hm fin) hd
 ·rcases hk with hk|hk
  ·exact `UL (`anr `hj hk hc J fin) hd
  ·exact `UL (wpAny_loadName_free `hj hk hc J fin hcd) hd
theorem Rv0{i j pos}:PE X (`mo `dw j pos) (tC `dw):=λ_ _ _ H _ I h=>wpAny_Constant_int ⟨`ap,H,`ep,`aM,h⟩
theorem P40{b j pos}:PE X (`mo (`dZ b) j pos) (tC `ul):=λ_ _ _ H _ I h=>Constant_bool ⟨`en,H,I,rfl,h⟩
theorem So0{j pos}:PE X (`mo `aF j pos) (tC `A):=λ_ _ _ H _ I h=>Constant_none ⟨`A,H,I,rfl,h⟩
theorem Q50{x j pos}:PE X (`mo `mj j pos) (tC `mj):=λ_ _ _ H _ I h=>Calls.Constant_str ⟨`cV,H,`ep,`aM,h⟩
noncomputable def Gl(X:Cx)(x:Str):Prop:=`BQ=`a .globalImplicit
theorem Vp0{E:`af}{s:`q}{σ:St}{pos:Pos}(I:`B)(hg:`d')(hm:`A5=`aU)(h:Q u s)
  (hd:`bq:=by decide):`ans :=
 Bw0 `hj hg (Calls.loadGlobal_global `ant hm h) hd
theorem za0{E:`af}{s:`q}{σ:St}{pos:Pos}(I:`B)(hg:`d')(hm:`oM)(hv:`pD=`aU)(h:Q u s)
  (hn:`kV := by decide) (hd:`bq:=by decide):`ans:=by
 obtain⟨mb,h1,h2⟩:=I.mod.blt;exact Bw0 `hj hg (Calls.loadGlobal_builtin `ant hm (by rw[I.ok.blt];exact h1.keeps I.bk) ((h2 x hn).trans hv) h) hd
theorem V30{v:V}(hg:`d')(hm:`oM)(hv:`pD=`aU)(r:`f0)(hn:`kV := by decide)(hd:`bq:=by decide):PE X `pJ (tC v) :=
 λ_ _ _ H _ I h=>za0 I hg hm hv `anp hn hd
variable{a:`G}
noncomputable def PC(X:Cx)(op:`kn)(a b:`G)(t:TE):Prop :=
 ∀(pins:`ay) (s:`q) (σ:St) (H:Hp) (Q:VK),`B->`lg ->
  `g `ak X.A (`NZ) (λv s₁=>`g `ak X.A (`N0) (λu s₂=>`g `ak X.A (`eq op v u) `fw `aE s₂) `aE `d_) `aE s
noncomputable def tB(t:TE):TT:=fun σ H Q=>t σ H λx H1=>∃c,x=.bl c/\Q c H1
theorem Tw0{op:`kn}{t:TE}(h:PC X op a b t)(h1:`r4:=by first|exact nobehind _ `l `l|rfl):PT X `xX (tB t):=by
 intro pins s σ H Q I hw;refine `anu (thn `UM λv s1 h1=>thn h1 λu s2 h2=>thn h2 λc s3 hq2=>?_) h1;obtain⟨x,H1,I1,r1,q1⟩:=hq2;obtain⟨d,rfl,q⟩:=q1;cases r1;exact `anv
theorem Re0{t:TE}(h:PE X e t)(he:`anw:=by intro _;rfl):PT X e (tB t):=by
 intro pins s σ H Q I hw;refine isTrue_plain (thn `UM λv s1 hq3=>?_) (he _);obtain⟨x,H1,I1,r1,q1⟩:=hq3;obtain⟨d,rfl,q⟩:=q1;cases r1;exact `anv
variable{tA tB':TT}{rest:`ci}
noncomputable def Oz0(t u:TT):TT:=fun σ H Q=>t σ H λc H1=>if `GF then u σ H1 Q else Q `r H1
noncomputable def tOr(t u:TT):TT:=fun σ H Q=>t σ H λc H1=>if `GF then Q `b H1 else u σ H1 Q
noncomputable def Ns0(t:TT):TT:=fun σ H Q=>t σ H `anx
theorem Vz0(ha:`xY):PW X `any tA:=by
 intro wh pins s σ H Q I h;refine `anz `anA;cases c with
 | true=>exact isTrue_and_nil e
 | false=>exact e
theorem Qn0(ha:`xY):PW X `anB tA:=by
 intro wh pins s σ H Q I h;refine isTrue_or `anA;cases c with
 | false=>exact isTrue_or_nil e
 | true=>exact e
theorem Rh0(ha:`xY)(hb:PW X `GG tB'):PW X `GH (Oz0 tA tB'):=by
 intro wh pins s σ H Q I h;refine `anz (thn `mp λc s1 hq4=>?_);obtain⟨H1,I1,q1⟩:=hq4;cases c with
 | true=>exact `anC
 | false=>exact`anD
theorem Og0(ha:`xY)(hb:PW X `anE tB'):PW X `anF (tOr tA tB'):=by
 intro wh pins s σ H Q I h;refine isTrue_or (thn `mp λc s1 hq5=>?_);obtain⟨H1,I1,q1⟩:=hq5;cases c with
 | true=>exact`anD
 | false=>exact `anC
theorem Qs0(ha:`xY):PT X `anG (Ns0 tA):=by
 intro pins s σ H Q I h;exact isTrue_not (ha `j s σ H (`anx) I h)
noncomputable def O20(ta tb:TE):TE:=fun σ H Q=>ta σ H λx H1=>∃c,x=.bl c/\if `GF then `anH else Q `p! H1
theorem Q70{op}{t:TE}(h:PE X a t):PE X `anI t:=λpins s σ H Q I hw=>BoolOp_one (h `j s σ H Q I hw)
theorem Qi0(ha:`ko)(hb:PE X `GG tb):PE X `GH (O20 ta tb):=by
 intro pins s σ H Q I h;refine BoolOp_and (thn `mp λv s1 hq6=>?_);obtain⟨x,H1,I1,r1,q1⟩:=hq6;obtain⟨c,rfl,q1⟩:=q1;cases r1;refine S2 ?_;cases c with
 | true=>exact `anJ
 | false=>exact⟨`m7,H1,I1,rfl,q1⟩
noncomputable def tIf(t:TT)(ta tb:TE):TE:=fun σ H Q=>t σ H λc H1=>if `GF then ta σ H1 Q else `anH
theorem Xa0(hc:PT X c tA)(ha:`ko)(hb:`oN):PE X `anK (tIf tA ta tb):=by
 intro pins s σ H Q I h;refine wpAny_IfExp (thn `anL λd s1 hq7=>?_);obtain⟨H1,I1,q1⟩:=hq7;cases d with
 | true=>exact ha `j s1 σ H1 Q I1 q1
 | false=>exact `anJ
universe zz
noncomputable def SqL(K:`M)(H:Hp)(a:`f)(xs:`C):Prop :=
 `afR ∨
  ∃(o:Obj) (its:`aZ) (n:Nat),`UN/\`anM/\`Gc/\`anN
noncomputable def SqT(K:`M)(H:Hp)(a:`f)(xs:`C):Prop :=
 Rd H a `kQ ∨
  ∃(o:Obj) (its:`aZ) (n:Nat),`UN/\`mX/\`anN
noncomputable def Ng0:`v->`el
 | `aF=>`ry
 | `dZ b=>`r5
 | `e i _=>`UO
 | `N x _=>`a `mj
 | .bytes b _=>`a (.byt b)
 | .float b _=>`a (.flt b)
 | `cH=>`qd
 | `bs n=>`a (.ty n)
 | _=>`c
theorem RelV.abs{x:V}(r:`gP):Ng0 u=`aQ:=by
 cases x with
 | non=>cases r;rfl
 | bl _=>cases r;rfl
 | int _=>obtain⟨t,rfl⟩:=r;rfl
 | str _=>obtain⟨t,rfl⟩:=r;rfl
 | byt _=>obtain⟨t,rfl⟩:=r;rfl
 | flt _=>obtain⟨t,rfl⟩:=r;rfl
 | ref _=>cases r;rfl
 | ty _=>cases r;rfl
theorem RelV.inj{x y:V}(r:`gP)(q:`gu):x=y:=B2 (r.abs.symm.trans q.abs)
theorem Vals.inj:∀{xs ys:`C} {us:`ab},`d8->`bK ys us->xs=ys:=by
 intro xs ys us h
 induction h generalizing ys with
 | nil=>intro h2;cases h2;rfl
 | cons r t ih=>intro h2;cases h2 with
  | cons r' t'=>rw[`UP,ih t']
section
variable{σ:St}{s:`q}{xs ys:`C}
theorem SqT.of(h:`Gd):`kp:=`UQ
theorem Inv.list(I:`B)(h:`anO):∃its:`ab,`kh/\PlainL `W a `cd/\`d9:=by
 rcases h with h|⟨o,its,n,hk,hc,hd,hs,hz,r⟩
 ·obtain⟨z,its,n,r,e⟩:=`anP
  exact⟨its,r,⟨_,n,e,rfl,rfl,rfl⟩,z⟩
 ·refine⟨`NP,r,⟨o,n,`anQ,hc,hd,`anR⟩,?_⟩
  have e:=`am;simp only[`bp] at e;omega
theorem Inv.tuple(I:`B)(h:`anS):∃its:`ab,`kh/\`uz `W a `cd/\`d9:=by
 rcases h with h|⟨o,its,n,hk,hc,hs,hz,r⟩
 ·obtain⟨z,its,r,p⟩:=`anP
  exact⟨its,r,p.tup,z⟩
 ·refine⟨`NP,r,⟨o,`anQ,hc,n,`anR⟩,?_⟩
  have e:=`am;simp only[`bp] at e;omega
theorem Inv.list_inj(I:`B)(h:`anO)(h':SqL X.K H a ys):xs=ys:=by
 obtain⟨its,r,⟨o,n,e,_,_,d⟩,_⟩:=`dx h;obtain⟨J,r',⟨o',n',e',_,_,d'⟩,_⟩:=`dx h';rw[e] at e';cases e';rw[d] at d';injection d' with d1 _
 have:its=J:=`anT
 subst this;exact `UP
theorem Inv.tuple_inj(I:`B)(h:`anS)(h':SqT X.K H a ys):xs=ys:=by
 obtain⟨its,r,⟨o,e,_,n,d⟩,_⟩:=`eR h;obtain⟨J,r',⟨o',e',_,n',d'⟩,_⟩:=`eR h';rw[e] at e';cases e';rw[d] at d';injection d' with d1 _
 have:its=J:=`anT
 subst this;exact `UP
universe zz
abbrev Cx.wish(X:Cx)(E:`af):Cx:={ X with xe:=E }
abbrev Cx.nox(X:Cx):Cx:=X.wish `BL
theorem Cx.Ok.wish(ok:X.Ok)(E:`af):`anU :=
 `anV
theorem Cx.Ok.unwish(ok:`anU):X.Ok :=
 `anV
section
variable{σ:St}{s:`q}
theorem Inv.wish(I:`B)(E:`af):`anW:=⟨I.ok.wish E,I.os,`iA,`GC,`f_,`kX,`hk,`kY,`m1,`bt,`m4⟩
theorem Inv.unwish(I:`anW):`B:=⟨I.ok.unwish,I.os,`iA,`GC,`f_,`kX,`hk,`kY,`m1,`bt,`m4⟩
theorem SP.unwish{D:Ends}{f:Flow}(h:SP (X.wish E) `j D f s'):SP X `j D f s':=by
 cases f with
 | next=>obtain⟨σ',H',I,q⟩:=h;exact`UR
 | brk=>obtain⟨σ',H',I,q⟩:=h;exact`UR
 | cont=>obtain⟨σ',H',I,q⟩:=h;exact`UR
 | ret u=>obtain⟨v,σ',H',I,r,q⟩:=h;exact⟨v,σ',H',`aeJ,r,q⟩
theorem PSs.nox{st:`iv}{t:TS}(h:PSs X.nox st t):PSs X st t:=λpins s σ H D I hw =>
 E2 (h `j s σ H D (I.wish _) hw) (λ_ _ q=>q.unwish) λ_ _ z=>`jb z
universe zz
section
variable{t u:TS}
noncomputable def Pa0:TS:=λD σ H=>`US
noncomputable def Np0(t u:TS):TS:=λD σ H=>t `anX σ H
theorem Vw0:PSs X [] Pa0:=λ_ _ σ H _ I h=>As0 `anY
theorem vy0(h1:PS X st t)(h2:PSs X `bB u):PSs X `anZ (Np0 t u):=by
 intro pins s σ H D I h;refine wpAny_execs_cons (thn (h1 `j s σ H `anX I h) λf s1 q=>?_);cases f with
 | next =>
  obtain⟨σ',H',I',q⟩:=q;exact h2 `j s1 σ' H' D I' q
 | ret v=>exact q
 | brk=>exact q
 | cont=>exact q
theorem Inv.quiet{σ:St}{s:`q}(I:`B):`an_ `F=`r:=by simp[`an_,`hj]
noncomputable def O90(te:TE):TS:=λD σ H=>te σ H λ_ H1=>`an0
theorem U40(he:`mq)(hs:`an1:=by rfl):PS X (.Expr e pos) (O90 te):=by
 intro pins s σ H D I h;exact wpAny_Expr_any (thn `r6 λv s1 ⟨x,H1,I1,r1,q1⟩=>⟨σ,H1,I1,q1⟩) I.quiet hs
noncomputable def Na0(te:TE):TS:=λD σ H=>te σ H D.rt
theorem ip0(he:`mq):PS X `xZ (Na0 te):=by
 intro pins s σ H D I h;exact wpAny_Return_some (thn `r6 λv s1 ⟨x,H1,I1,r1,q1⟩=>⟨x,σ,H1,I1,r1,q1⟩)
noncomputable def Nb0(c:TT)(t u:TS):TS:=λD σ H=>c σ H λb H1=>if b=`b then t D σ H1 else u D σ H1
theorem On0{a b:`iv}{tc:TT}(hc:PT X c tc)(ha:PSs X a t)(hb:PSs X b u):PS X (.If c a b pos) (Nb0 tc t u):=by
 intro pins s σ H D I h;refine wpAny_If (thn `anL λd s1 hq8=>?_);obtain⟨H1,I1,q1⟩:=hq8;cases d with
 | true=>exact ha `j s1 σ H1 D I1 q1
 | false=>exact hb `j s1 σ H1 D I1 q1
noncomputable def Ql0:TS:=`kq
theorem ug0{sts:`iv}:PSs X sts Ql0:=λ_ _ _ _ _ _ h=>`cE
universe zz
abbrev TG:=V->`an2
abbrev TGs:=`C->`an2
noncomputable def PG(X:Cx)(target:`G)(t:TG):Prop :=
 ∀(pins:`ay) (s:`q) (σ:St) (H:Hp) (v:V) (u:`v) (Q:`hP),`B->`f0->`an3 ->
  `g `ak X.A (`gM `BM `F u) `an4 `aE s
noncomputable def PGs(X:Cx)(ts:`ci)(t:TGs):Prop :=
 ∀(pins:`ay) (s:`q) (σ:St) (H:Hp) (vs:`C) (us:`ab) (Q:`hP),`B->`qs->t vs σ H Q ->
  `g `ak X.A (assignInOrder ((`k_ ts `F).map `cZ) us) `an4 `aE s
abbrev Y90:=`UT
noncomputable def Yh0(X:Cx)(t:Y90):Prop :=
 ∀(pins:`ay) (s:`q) (σ:St) (H:Hp) (o i v:V) (ov iv u:`v) (Q:`gK),`B->`dV o ov->`dV i iv->`f0->t o i v H Q ->
  `g `ak X.A (`A9 ov iv u) (λ_ s'=>∃H',`km/\Q H') `aE s
abbrev TIp:=V->`r7
noncomputable def PIp(X:Cx)(op:`GI)(t:TIp):Prop :=
 ∀(pins:`ay) (s:`q) (σ:St) (H:Hp) (x y:V) (v u:`v) (Q:VK),`B->`iC->`gu->t x y H Q ->
  `g `ak X.A (inplaceOp op v u) `fw `aE s
noncomputable def O00(i:Nat):TG:=λv σ H Q=>Q `uh H
theorem t70(hN:`hl)(hi:`cp)(hx:`kk)(hf:`kl:=by first|exact `bL|exact `dz|assumption):PG X `pJ (O00 i):=by
 intro pins s σ H v u Q I r h;exact `an5 (ji0 I hN hi hx r (λs' I'=>⟨_,H,I',h⟩) hf)
noncomputable def Nj0:TGs:=λvs σ H Q=>`rQ/\Q σ H
noncomputable def Oq0(t:TG)(u:TGs):TGs:=λvs σ H Q=>∃v r,vs=v::r/\t v σ H fun σ' H'=>u r σ' H' Q
theorem Tj0:PGs X [] Nj0:=by
 intro pins s σ H vs us Q I r h;obtain⟨e,h⟩:=h;subst e;cases r;exact assignInOrder_nil `anY
theorem j90{t:TG}{u:TGs}(h1:PG X e t)(h2:PGs X es u)
  (hs:(`k_ `hX `F).map `cZ=`gM e `F::(`UU).map `cZ:=by rfl):PGs X `hX (Oq0 t u):=by
 intro pins s σ H vs us Q I r h;obtain⟨v,vr,e1,h⟩:=h;subst e1;cases r with
 | cons r rr =>
  rw[hs];refine assignInOrder_cons (thn (h1 `j s σ H _ _ _ I r h) λ_ s1 hq9=>?_);obtain⟨σ1,H1,I1,q1⟩:=hq9;exact h2 `j s1 σ1 H1 _ _ Q I1 rr q1
noncomputable def Ne0(K:`M)(n:Nat)(t:TGs):TG:=λv σ H Q=>∃a xs,`eh/\`kp/\`as=n/\t xs σ H Q
theorem Sv0{k:Nat}{t:TGs}{n:Nat}(hc:`b5)(h:PGs X es t)
  (hn:(`UU).length=n:=by rfl) (hst:(`UU).findIdx? `b9=`c:=by rfl):PG X (`qz es k pos) (Ne0 X.K n t):=by
 intro pins s σ H v u Q I r hw;obtain⟨a,xs,e1,hq,hl,hw⟩:=hw;subst e1;cases r;obtain⟨its,rv,ht,hz⟩:=`oO;refine assign_Tuple_tuple `gv ht (by simp[hn,← hl,`gX]) hst λh' hx=>?_
 have I1:`r8:=`x_ (t':=`aG) λb o e=>hx b o (B1 `hO) e
 exact h `j _ σ H xs _ Q I1 (`an6) hw
noncomputable def Nh0(to ti:TE)(t:Y90):TG:=λv σ H Q=>to σ H λo H1=>ti σ H1 λi H2=>t o i v H2 λH3=>Q σ H3
theorem he0{i:`G}{to ti:TE}{t:Y90}(ho:`UV)(hi:PE X i ti)(hs:Yh0 X t)
  (ha:∀v,`gM `UW `F v=(do
   let ov ← `m5 [v] `Bw
   let iv ← `m5 [v,ov] (`cL i `F)
   `GJ
   `GK
   `GL):=by intro _;rfl):PG X `UW (Nh0 to ti t):=by
 intro pins s σ H v u Q I r h;rw[ha];refine A0 (C3 (thn `r9 λov s1 hq10=>?_));obtain⟨x,H1,I1,r1,q1⟩:=hq10;refine A0 (C3 (thn `an7 λiv s2 hq11=>?_));obtain⟨y,H2,I2,r2,q2⟩:=hq11;refine A0 (r0 (A0 (C3 (thn (hs `j s2 σ H2 x y v ov iv u _ I2 r1 r2 r q2) λ_ s3 hq12=>?_))));obtain⟨H3,I3,q3⟩:=hq12;exact wpAny_release ⟨σ,H3,I3,q3⟩
noncomputable def Nl0(te:TE)(g:TG):TS:=λD σ H=>te σ H λx H1=>g x σ H1 `m'
theorem oz0{tg:`G}{g:TG}(he:`mq)(hg:PG X tg g)(hs:`UX:=by rfl)(hw:`UY:=by rfl)
  (h1:`UZ:=by rfl):PS X `U_ (Nl0 te g):=by
 intro pins s σ H D I h;refine wpAny_Assign_stores (thn `r6 λv s1 hq13=>?_) hs hw;obtain⟨x,H1,I1,r1,q1⟩:=hq13;rw[h1];exact thn (hg `j s1 σ H1 x v _ I1 r1 q1) λ_ s2 q=>q
noncomputable def N00(i:Nat)(te:TE)(ti:TIp):TS:=λD σ H=>∃x,`NE=`a (`aQ)/\te σ H λy H1=>ti x y H1 λz H2=>`m' (`NI i (`n0)) H2
theorem Qr0{op:`GI}{ti:TIp}{pos':Pos}(hN:`hl)(hi:`cp)(hx:`kk)(he:`mq)(ho:PIp X op ti)(hf:`kl:=by first|exact `bL|exact `dz|assumption) :
  PS X (`an8 (`bD x pos') op e pos) (N00 i te ti):=by
 intro pins s σ H D I h;obtain⟨v,e1,h⟩:=h;obtain⟨m,hn,hl⟩:=`f_;have M:`fe:=by rcases hx with k|k;exact `xG;exact `i (`xG)
 obtain⟨u,r,l⟩:=hl i x v hi e1 M;refine wpAny_AugAssign_Name ?_;have go:`g `ak X.A `Cx (λw s₂=>`g `ak X.A (inplaceOp op u w) (λr s₃=>`g `ak X.A (`aey `F x r) (λ_=>SP X `j D `BK) `aE s₃) `aE s₂) `aE s:=by
  refine thn `r6 λw s1 hq14=>?_;obtain⟨y,H1,I1,r1,q1⟩:=hq14
  refine thn (ho `j s1 σ H1 v y u w _ I1 r r1 q1) λz s2 hq15=>?_;obtain⟨zv,H2,I2,r2,q2⟩:=hq15
  exact ji0 I2 hN hi hx r2 (λs3 I3=>⟨_,H2,I3,q2⟩) hf
 rcases l with⟨hk,hm⟩|⟨hk,c,hc,J⟩
 ·exact `anq `hj hk hn hm go
 ·rcases hk with hk|hk
  ·exact `anr `hj hk hc J go
  ·rcases hx with k|k
   ·have:`an9:=hk
    rw[k] at this;cases `u
   ·have:`an9:=hk
    rw[k] at this;cases `u
noncomputable def ipI(f:`U0):TIp:=λx y H Q=>∃i j,`x0/\y=`eo/\Q (`e (f i j)) H
theorem Sd0:PIp X .Add (ipI λi j=>i+j):=by
 intro pins s σ H x y v u Q I r1 r2 h;obtain⟨i,j,e1,e2,q⟩:=h;subst e1;subst e2;obtain⟨t,rfl⟩:=r1;obtain⟨t',rfl⟩:=r2;exact iadd_int ⟨`dM,H,`ep,`aM,q⟩
noncomputable def Qb0(c:TT)(tb:TS):TS:=λD σ H=>∃W:`an',(∃m,W m σ H)/\∀m σ H,W m σ H ->
 c σ H λb H1=>if b=`b then ∃N:`hP,(∀σ' H',N σ' H'->∃m',m'<m/\W m' σ' H')/\tb `an! σ H1 else `an0
theorem X40{tc:TT}{tb:TS}(hp:`GM)(hc:PT X c tc)(hb:`an?):PS X `aoa (Qb0 tc tb):=by
 intro pins s σ H D I h;obtain⟨W,⟨m0,w0⟩,J⟩:=h;refine wpAny_While (codeAny_whileLoop (λn s'=>∃σ' H',`m!/\W n σ' H') ?_ m0 ⟨σ,H,I,w0⟩);rintro n s1 ⟨σ1,H1,I1,w1⟩;refine T0 hp (thn (hc `j s1 σ1 H1 _ I1 (J n σ1 H1 w1)) λb s2 hq16=>?_);obtain⟨H2,I2,q2⟩:=hq16;cases b with
 | true =>
  obtain⟨N,hN,q2⟩:=q2;rw[`aY];refine T0 hp (thn (hb `j s2 σ1 H2 _ I2 q2) λf s3 q3=>?_);cases f with
  | next =>
   obtain⟨σ3,H3,I3,n3⟩:=q3;obtain⟨m',hm,w3⟩:=`aob;exact`aoc
  | cont =>
   obtain⟨σ3,H3,I3,n3⟩:=q3;obtain⟨m',hm,w3⟩:=`aob;exact`aoc
  | brk=>exact q3
  | ret v=>exact q3
 | false =>
  rw[`mr];exact As0 ⟨σ1,H2,I2,q2⟩
structure It where
 go:`aod
 yld:Nat->Hp->`UJ
 stop:`aod
noncomputable def v50(X:Cx)(pins:`ay)(H:Hp)(b:`f):Prop :=
 `cY/\`pI/\`Gp/\`aer/\`aes
theorem Inv.fpOk{σ:St}{s:`q}{b:`f}(I:`B)(hb:`O<=b)(hn:`ur):`U1:=by
 refine⟨hn,C1 (B8 I.lt hb),I.nofs hb,`i (C4 I.sz hb),`aoe,`aof⟩
 ·obtain⟨v,q⟩:=`Gt
  exact `L (B8 q.lt `aog) `jh
 ·exact `L (B8 (A7 (`Gy).1) `aog) `jh
structure Turn(P:`_)(w:`E)(K:`M)(tg:`G)(J:It)(fp:`bn)(it:`f)(tn:`U2):Prop where
 mem:it∈fp
 obj:∀i h,tn i h->∀b∈fp,∃o,`gN/\`aoh
 keep:∀i h h',tn i h->(∀b∈fp,∀o,`GN)->tn i h'
 item:∀(X:Cx),`bf=P->X.w=w->X.K=K->`b5->∀(i:Nat) (pins:`ay) (s:`q) (σ:St) (H:Hp) (E:`af),`B->`aoi->`U3->`U4 ->
  `g `aA X.A `Qx (λr s1=>∃u,r=`aU /\
   `g `aA X.A (`U5 tg `hS u) (λ_ s2=>∃x H',`aoj/\`gP/\`U6/\tn `a4 s2.heap/\∀b∈fp,`ur) E s1) E s
 done:∀(X:Cx),`bf=P->X.w=w->X.K=K->`b5->∀(i:Nat) (pins:`ay) (s:`q) (σ:St) (H:Hp) (E:`af),`B->`aoi->`U3->`U7 ->
  `g `aA X.A `Qx (λr s1=>`GO/\Inv X `j σ H s1) E s
 self:∀(A:`T) (i:Nat) (s:`q) (Q:`af) (E:`af),`U3->Q `hS s->`g `aA A (`x1 `hS) Q E s
abbrev TI:=St->Hp->(`GP)->Prop
noncomputable def PIE(X:Cx)(pins:`ay)(σ:St)(tg:`G)(R:`GP)(itv:`v)(s2:`q):Prop :=
 ∃(it:`f) (fp:`bn) (tn:`U2) (J:It) (H':Hp),itv=`A?/\`aoj/\`aok/\`aol/\(∀b∈fp,`U1)/\R J H'
noncomputable def PI(X:Cx)(tg iter:`G)(wi:TI):Prop :=
 ∀(pins:`ay) (s:`q) (σ:St) (H:Hp) (R:`GP),`B->wi σ H R ->
  `g `ak X.A (`cL `k4 `F) (λv s1=>`g `ak X.A (`x1 v) `aom `aE s1) `aE s
theorem cd0{M:`xV}{A:`T}{E:`af}{s:`q}{tg:`G}{u:`v}{o:Obj}{n:`cC}{vs:`aZ}{Q:`oL}(ho:`em it=`aj)(hc:`t7=`bs n)(hd:`kO=`Gg)
  (hn:`aon=`r) (hQ:Q () s):`g M A (`U5 tg `hS u) Q E s:=by
 unfold letOwnedTupleGo;cases tg<;>first
  | exact `x2
  | (cases u<;>first
    | exact `x2
    | (refine A0 (`aoo ho ?_)
       rw[hc,hd];show `g M A (if (`aon&&vs[0]?==`a (`gc _))=`b then _ else _) Q E s;rw[`V (by intro h;rw[hn,Bool.false_and] at h;cases h)];exact `x2))
noncomputable def Itl(K:`M)(a:`f):It :=
 ⟨`aop,λi H x H'=>H'=H/\`PS,`aoq⟩
noncomputable def Itt(K:`M)(a:`f):It :=
 ⟨λi H=>∃xs x,`kp/\`i',λi H x H'=>H'=H/\∀xs,`kp->`i',λi H=>∃xs,`kp/\`NU⟩
noncomputable def Itr(lo:Int)(n:Nat):It:=⟨λi _=>i<n,λi H x H'=>H'=H/\x=`U8,λi _=>n<=i⟩
theorem cl0{P:`_}{w:`E}{tg:`G}(a it:`f):`k1 P w K tg (Itl K a) [it] it (λi h=>`aor) where
 mem:=`a!
 obj:=λi h st b hb=>by
  have e:b=it:=`mn
  subst e;obtain⟨o,e,c,d⟩:=st;exact`aos
 keep:=`aot
 item:=by
  intro X hP hw hK hc i pins s σ H E I hf st hg;subst hP hw hK;obtain⟨xs,x,hq,hx⟩:=hg;obtain⟨its,rv,p,hz⟩:=`gw;obtain⟨u,hu,ru⟩:=`U9;obtain⟨f0,f1,f2,f3,f4,f5⟩:=`r';refine C20 st `r! (x:=u) `r? `aou
  have I1:`r8:=`aov;obtain⟨o,e,c,d⟩:=id J;exact⟨u,rfl,cd0 (s:=`fr) e c d `l ⟨x,H,I1,ru,⟨rfl,`aow⟩,J,`U'⟩⟩
 done:=by
  intro X hP hw hK hc i pins s σ H E I hf st hg;subst hP hw hK;obtain⟨xs,hq,hx⟩:=hg;obtain⟨its,rv,p,hz⟩:=`gw;obtain⟨f0,f1,f2,f3,f4,f5⟩:=`r';have hl:=`gX;exact `aox `gv st `r! `hm `U!
 self:=λ_ _ _ _ _ st h=>wpAny_pyIter_listiter st h
theorem d60{P:`_}{w:`E}{tg:`G}(a it:`f):`k1 P w K tg (Itt K a) [it] it (λi h=>h.IsTupleIter it a i) where
 mem:=`a!
 obj:=λi h st b hb=>by
  have e:b=it:=`mn
  subst e;obtain⟨o,e,c,d⟩:=st;exact`aos
 keep:=`aot
 item:=by
  intro X hP hw hK hc i pins s σ H E I hf st hg;subst hP hw hK;obtain⟨xs,x,hq,hx⟩:=hg;obtain⟨its,rv,p,hz⟩:=`oO;obtain⟨u,hu,ru⟩:=`U9;obtain⟨f0,f1,f2,f3,f4,f5⟩:=`r';refine wpAny_pyNext_tuple_item st `aoy (x:=u) `r? `aou
  have I1:`r8:=`aov;obtain⟨o,e,c,d⟩:=id J;exact⟨u,rfl,cd0 (s:=`fr) e c d `l ⟨x,H,I1,ru,⟨rfl,λys hy=>by rw[`aoz hy hq];exact hx⟩,J,`U'⟩⟩
 done:=by
  intro X hP hw hK hc i pins s σ H E I hf st hg;subst hP hw hK;obtain⟨xs,hq,hx⟩:=hg;obtain⟨its,rv,p,hz⟩:=`oO;obtain⟨f0,f1,f2,f3,f4,f5⟩:=`r';have hl:=`gX;exact wpAny_pyNext_tuple_end `gv st `aoy `hm `U!
 self:=λ_ _ _ _ _ st h=>wpAny_pyIter_tupleiter st h
theorem c40{P:`_}{w:`E}{tg:`G}(it:`f)(lo:Int)(n:Nat):`k1 P w K tg (Itr lo n) [it] it (λi h=>`aoA h it (lo+(i:Nat)*1) (`cM - (i:Nat)) 1) where
 mem:=`a!
 obj:=λi h st b hb=>by
  have e:b=it:=`mn
  subst e;exact⟨_,st,λv z=>by
   have z':`aoB _=Data.cell v:=z;cases z'⟩
 keep:=λi h h' st k=>k it `Q _ st
 item:=by
  intro X hP hw hK hc i pins s σ H E I hf st hg;subst hP hw hK;obtain⟨f0,f1,f2,f3,f4,f5⟩:=`r';have W:=Walks.range (prog:=`bf) (w:=X.w) `gv it lo 1 n;refine W.item i s _ _ hg st λv h' tk hv J kk=>?_
  obtain⟨t,rfl⟩:=hv;have I1:`aoC:=`NW (λb o hb e=>kk b o (`mn) e) f0 f1 f3 f4 f5;refine⟨_,rfl,cd0 (s:=`hU) (n := "range_iterator") J rfl rfl `l ⟨`U8,H,I1,⟨t,?_⟩,`fv,J,`U'⟩⟩;rw[`U?]
 done:=by
  intro X hP hw hK hc i pins s σ H E I hf st hg;subst hP hw hK;obtain⟨f0,f1,f2,f3,f4,f5⟩:=`r';exact wpAny_pyNext_range_end `gv st (by have:n<=i:=hg;omega) `U!
 self:=λ_ _ _ _ _ st h=>wpAny_pyIter_rangeiter st h
section
variable{tg:`G}
noncomputable def Os0(K:`M)(tl:TE):TI:=fun σ H R=>tl σ H λx H1=>∃a,`ff/\`GQ/\R (Itl K a) H1
noncomputable def N10(K:`M)(tl:TE):TI:=fun σ H R=>tl σ H λx H1=>∃a,`ff/\(∃xs,SqT K H1 a xs)/\R (Itt K a) H1
theorem T70{l:`G}{tl:TE}(hl:PE X l tl):PI X tg l (Os0 X.K tl):=by
 intro pins s σ H R I h;refine thn `aoD λv s1 hq17=>?_;obtain⟨x,H1,I1,r1,q1⟩:=hq17
 obtain⟨a,e,⟨xs,hq⟩,q⟩:=q1;subst e;cases r1;obtain⟨its,rv,p,hz⟩:=`vI hq;refine At0 `r! ?_;refine⟨`ft,[`ft],_,_,H1,rfl,`aoE,cl0 a _,`x3,`fM,q⟩;have e:b=`ft:=`mn
 subst e;exact `oP
theorem R20{l:`G}{tl:TE}(hl:PE X l tl):PI X tg l (N10 X.K tl):=by
 intro pins s σ H R I h;refine thn `aoD λv s1 hq18=>?_;obtain⟨x,H1,I1,r1,q1⟩:=hq18
 obtain⟨a,e,⟨xs,hq⟩,q⟩:=q1;subst e;cases r1;obtain⟨its,rv,p,hz⟩:=I1.tuple hq;refine wpAny_pyIter_tuple (show s1.heap.IsTuple a `cd from p) ?_;refine⟨`ft,[`ft],_,_,H1,rfl,`aoE,d60 a _,`x3,`fM,q⟩;have e:b=`ft:=`mn
 subst e;exact `oP
theorem ia0{σ:St}{s:`q}{R:`GP}{E:`af}{lo hi:Int}{t u v:Tok}{tk:Nat}(I:`B)(h1:`na<=lo)(h2:lo<`gO)(h3:`na<=hi)(h4:hi<`gO)
  (q:R (Itr lo `pQ) H):`g `ak X.A (`x1 `e2) `aom E `aoF:=by
 refine wpAny_pyIter_range (IsRange.new ..) (small_one h1 h2 h3 h4) ?_;have I1:Inv X `j σ H `aoF:=`x_ `pN
 refine⟨`Va,[`Va],_,_,H,rfl,
  `uq (t':=tk) `pN,c40 _ lo `pQ,?_,`fM,q⟩
 ·have e1:lo+`Be*1=lo:=`a!
  have e2:`aoG=Builtin.Range.rangeSize lo hi 1:=by rw[rangeSize_one];split<;>omega
  show `aoA _ _ (lo+`Be*1) (`aoG) 1;rw[e1,e2];exact `cW
 ·have e:b=`Va:=`mn
  subst e;exact `oP
noncomputable def O80(ta:TA):TI:=fun σ H R=>ta σ H λvs H1=>∃j:Int,vs=[`eo]/\`na<=j/\j<`gO/\R (Itr 0 `oh) H1
noncomputable def Ov0(ta:TA):TI:=fun σ H R=>ta σ H λvs H1=>∃i j:Int,vs=`aoH/\(`na<=i/\i<`gO/\`Vb)/\R (Itr i (j - i).toNat) H1
theorem b20{a:`G}{ta:TA}(hg:`GR)(hm:`GS)(ha:`aoI)(hs:`GT:=by rfl):PI X tg `aoJ (O80 ta):=by
 intro pins s σ H R I h;refine `sa (za0 I hg hm `aoK (E9 (thn `nf λus s1 hq19=>?_) hs rfl));obtain⟨vs,H1,I1,r1,q1⟩:=hq19;obtain⟨j,e,q1,q2,q⟩:=q1;subst e;cases r1 with
 | cons r rr =>
  cases rr;obtain⟨t,rfl⟩:=r;exact call_range_1 (ia0 I1 `d `d q1 q2 (`GU))
theorem Z50{a:`G}{ta:TA}{p pos:Pos}(hg:`GR)(hm:`GS)(ha:`GV)(hs:`sb:=by rfl)(hs2:`sc:=by rfl) :
  PI X tg `aoL (Ov0 ta):=by
 intro pins s σ H R I h;refine `sa (za0 I hg hm `aoK (E9 (thn `nf λus s1 hq20=>?_) `Vc `Vd));obtain⟨vs,H1,I1,r1,q1⟩:=hq20;obtain⟨i,j,e,⟨q1,q2,q3,q4⟩,q⟩:=q1;subst e;cases r1 with
 | cons r rr =>
  cases rr with
  | cons r' rr =>
   cases rr;obtain⟨t,rfl⟩:=r;obtain⟨t',rfl⟩:=r';exact call_range_2 (ia0 I1 q1 q2 q3 q4 q)
noncomputable def No0(wi:TI)(g:TG)(tb:TS):TS:=λD σ H=>wi σ H λJ H1=>∃W:Nat->`an',(∃m,W 0 m σ H1)/\∀i m σ H,W i m σ H ->
 (`U7/\`US)∨(`U4/\∃N:`hP,(∀σ' H',N σ' H'->∃m',m'<m/\W `a4 m' σ' H')/\∀x H',`U6->g x σ H' fun σ2 H2=>tb `an! σ2 H2)
noncomputable def rt0(fp:`bn)(h:`H):`ay:=fp.filterMap λb=>(`uc).map λo=>`us
theorem va0{h:`H}{b:`f}{o:Obj}(hb:b∈fp)(e:`gN):`us∈rt0 fp h:=`rr ⟨b,hb,by rw[e];rfl⟩
theorem ct0{h:`H}{p:`ad0}(hp:p∈rt0 fp h):p.1∈fp/\`kN p.1=`uf:=by
 obtain⟨b,hb,e⟩:=`sd hp;cases q:`uc with
 | none=>rw[q] at e;cases e
 | some o =>
  rw[q] at e;have e':`us=p:=B2 e;subst e';exact⟨hb,q⟩
theorem Inv.pinned{σ:St}{s:`q}(I:`B)(hf:∀b∈fp,`A!)(ho:∀b∈fp,∃o,`hL/\`aoh):Inv X (`j++rt0 fp `W) σ H s :=
 I.pins_of λp hp=>`anb (λz=>`m1 p (D3 _ z)) λz=>by
  obtain⟨hb,e⟩:=ct0 z;obtain⟨f0,f1,f2,_⟩:=hf p.1 hb;obtain⟨o,e',d⟩:=ho p.1 hb;rw[e] at e';cases e';exact⟨e,f0,f1,f2,d⟩
theorem Inv.unpinned{pl:`ay}{σ:St}{s:`q}(I:Inv X (`j++pl) σ H s):`B:=I.pins_of λp hp=>`m1 p (D3 _ (E1 _ hp))
theorem Sf0{wi:TI}{g:TG}{tb:TS}{pos:Pos}(hp:`GM)(hc:`b5)(hi:`Ve)(hg:PG X tg g)(hb:`an?)
  (hs:`iD:=by intro _;rfl):PS X `aoM (No0 wi g tb):=by
 intro pins s σ H D I h;refine wpAny_For (thn `GW λv s1 h1=>thn h1 λa5 s2 h2=>?_) hs;obtain⟨it,fp,tn,J,H2,e,I2,T,a4,f2,W,⟨m0,w0⟩,a1⟩:=h2;subst e;have M:∀{H':Hp},`se->∀b∈fp,`U1:=λhn b hb=>⟨hn b hb,(`ji).2⟩
 refine codeAny_forLoop_any (λn s'=>∃i σ' H',`m!/\`aoN/\`se/\W i n σ' H') ?_ m0 ⟨0,σ,H2,I2,a4,λb hb=>(`ji).1,w0⟩;rintro n s3 ⟨i,σ3,H3,I3,a0,Z,w3⟩;rcases a1 i n σ3 H3 w3 with⟨stop,qn⟩|⟨go,N,hN,step⟩
 ·refine T0 hp (thn (T.done X rfl rfl rfl hc i `j s3 σ3 H3 `aE I3 (M Z) a0 stop) λr s4 hq21=>?_);obtain⟨hr,I4⟩:=hq21
  subst hr;exact As0 ⟨σ3,H3,I4,qn⟩
 ·refine T0 hp (thn (T.item X rfl rfl rfl hc i `j s3 σ3 H3 `aE I3 (M Z) a0 go) λr s4 hq22=>?_);obtain⟨u,hr,h4⟩:=hq22
  subst hr;refine T0 hp (thn h4 λ_ s5 hq23=>?_);obtain⟨x,H5,I5,r5,y5,O,a2⟩:=hq23;have a3:=I5.pinned (M a2) (`uT _ _ O);refine T0 hp (thn (hg _ s5 σ3 H5 x u _ a3 r5 (step x H5 y5)) λ_ s6 hq24=>?_);obtain⟨σ6,H6,I6,q6⟩:=hq24;refine T0 hp (thn (hb _ s6 σ6 H6 _ I6 q6) λf s7 q7=>?_);have again:∀{σ7:St} {H7:Hp},Inv X (`j++rt0 fp s5.heap) σ7 H7 s7->N σ7 H7->∃m,m<n/\∃i σ' H',Inv X `j σ' H' s7/\tn i s7.heap/\`se/\W i m σ' H':=λ{σ7 H7} I7 n7=>by
   obtain⟨m',hm,w7⟩:=hN σ7 H7 n7;refine⟨m',hm,i+1,σ7,H7,`Vf,T.keep _ _ _ O λb hb o e=>(`aoO).1,`fM,w7⟩;obtain⟨o,e,d⟩:=`uT _ _ O b hb;exact(`aoO).2.1
  cases f with
  | next=>obtain⟨σ7,H7,I7,n7⟩:=q7;exact `aoP
  | cont=>obtain⟨σ7,H7,I7,n7⟩:=q7;exact `aoP
  | brk=>obtain⟨σ7,H7,I7,q7⟩:=q7;exact⟨σ7,H7,`Vf,q7⟩
  | ret v=>obtain⟨x7,σ7,H7,I7,r7,q7⟩:=q7;exact⟨x7,σ7,H7,`Vf,r7,q7⟩
universe zz
abbrev R2:=V->`r7
noncomputable def OpR(X:Cx)(f:`sf)(r:R2):Prop :=
 ∀(pins:`ay) (s:`q) (σ:St) (H:Hp) (x y:V) (v u:`v) (Q:VK),`B->`iC->`gu->`Bg ->
  `g `ak X.A `Vg `fw `aE s
noncomputable def UnR(X:Cx)(f:`N2)(r:`r7):Prop :=
 ∀(pins:`ay) (s:`q) (σ:St) (H:Hp) (x:V) (v:`v) (Q:VK),`B->`iC->r x H Q ->
  `g `ak X.A (f v) `fw `aE s
noncomputable def CallR(X:Cx)(f:`v)(r:`er):Prop :=
 ∀(pins:`ay) (s:`q) (σ:St) (H:Hp) (xs:`C) (us:`ab) (Q:VK),`B->`d8->`GX ->
  `g `ak X.A (`de f us) `fw `aE s
noncomputable def tOp(r:R2)(ta tb:TE):TE:=fun σ H Q=>ta σ H λx H1=>tb σ H1 λy H2=>r x y H2 Q
noncomputable def tUn(r:`r7)(ta:TE):TE:=fun σ H Q=>ta σ H λx H1=>r x H1 Q
noncomputable def rI(C:`Vh)(g:`GY):R2:=λx y H Q=>∃i j,`x0/\y=`eo/\C i j/\Q `i? H
noncomputable def rI0(g:`GY):R2:=λx y H Q=>∃i j,`x0/\y=`eo/\Q `i? H
noncomputable def rU(g:Int->V):`r7:=λx H Q=>∃i,`x0/\Q (g i) H
section
variable{a:`G}{tc:TE}
theorem Yv0(ha:`ko)(hb:`oN){s:`q}{σ:St}{R:V->`UJ}(I:`B)
  (h:ta σ H λx H1=>tb σ H1 λy H2=>R x y H2) {Q:`af} {f:`sf}
  (hf:∀v u s2 x y H2,`aoQ->`iC->`gu->R x y H2->`g `ak X.A `Vg Q `aE s2) :
  `g `ak X.A (`NZ) (λv s₁=>`g `ak X.A (`N0) (λu s₂=>`g `ak X.A `Vg Q `aE s₂) `aE `d_) `aE s:=by
 refine thn `mp λv s1 hq25=>?_;obtain⟨x,H1,I1,r1,q1⟩:=hq25
 refine thn `Vi λu s2 hq26=>?_;obtain⟨y,H2,I2,r2,q2⟩:=hq26
 exact hf v u s2 x y H2 I2 r1 r2 q2
theorem Ou0{op:`GI}{r:R2}(ho:`aoR)(ha:`ko)(hb:`oN):PE X `aoS `GZ:=by
 intro pins s σ H Q I h;exact wpAny_BinOp `aoT
theorem Px0{op:UnaryOp}{r:`r7}(ho:UnR X (unaryOp op) r)(ha:`ko):PE X (`NO op a pos) (tUn r ta):=by
 intro pins s σ H Q I h;exact UnaryOp_ (thn `mp λv s1 ⟨x,H1,I1,r1,q1⟩=>ho `j s1 σ H1 x v Q I1 r1 q1)
theorem opI{f:`sf}{C:`Vh}{g:`U0}
  (rule:∀(i j:Int) (t u:Tok) (s:`q) (Q:`af) (E:`af),C i j->`aoU) :
  OpR X f (rI C `aoV):=by
 intro pins s σ H x y v u Q I rx ry h;obtain⟨i,j,rfl,rfl,hc,q⟩:=h;obtain⟨t,rfl⟩:=rx;obtain⟨t',rfl⟩:=ry;exact `lx i j t t' s _ _ hc `aoW
theorem R60{f:`sf}{g:`U0}
  (rule:∀(i j:Int) (t u:Tok) (s:`q) (Q:`af) (E:`af),`aoU) :
  OpR X f (rI0 `aoV):=by
 intro pins s σ H x y v u Q I rx ry h;obtain⟨i,j,rfl,rfl,q⟩:=h;obtain⟨t,rfl⟩:=rx;obtain⟨t',rfl⟩:=ry;exact `lx i j t t' s _ _ `aoW
theorem eu0{f:`sf}{g:Int->Int->`X}
  (rule:∀(i j:Int) (t u:Tok) (s:`q) (Q:`af) (E:`af),Q (`dZ `i?) s->`aeU) :
  OpR X f (rI0 λi j=>.bl `i?):=by
 intro pins s σ H x y v u Q I rx ry h;obtain⟨i,j,rfl,rfl,q⟩:=h;obtain⟨t,rfl⟩:=rx;obtain⟨t',rfl⟩:=ry;exact `lx i j t t' s _ _ ⟨.bl `i?,H,I,rfl,q⟩
noncomputable def Yt0(i j:Int):Prop:=`G_
noncomputable def Xk0(i j:Int):Prop:=`Vj
noncomputable def CMul(i j:Int):Prop:=`O4
theorem CMul.ok{i j:Int}(h:CMul i j):IntMulOk i j:=by
 rcases h with⟨h1,h2⟩|⟨h1,h2⟩
 ·exact .of_left `aoX
 ·exact .of_right `aoX
theorem Ra0:OpR X `x4 (rI0 `aoY):=R60 λ_ _ _ _ _ _ _ q=>add_int q
theorem Sa0:OpR X (`i! .Sub) (rI0 `aoZ):=R60 λ_ _ _ _ _ _ _ q=>sub_int q
theorem R10:OpR X `ao_ (rI CMul `ao0):=opI λ_ _ _ _ _ _ _ hc q=>mul_int q hc.ok
theorem Vm0:OpR X (`i! .FloorDiv) (rI Yt0 `ao1):=opI λi j _ _ _ _ _ hc q=>by
 have h1:`ie<j:=`nN;have h2:`aeV:=hc.2;exact floordiv_int `d (by rw[Int.fdiv_eq_ediv_of_nonneg i `d];exact q) (`m (PyProof.noPylong_small `d))
theorem Sx0:OpR X (`i! .Mod) (rI (`ao2) `ao3):=opI λi j _ _ _ _ _ hc q=>by
 have h1:`ie<j:=hc;exact mod_int' `d (by rw[Int.fmod_eq_emod_of_nonneg i `d];exact q)
theorem Sl0:OpR X (`i! .Pow) (rI Xk0 `ao4):=opI λ_ _ _ _ _ _ _ hc q=>pow_int_small `nN hc.2.1 hc.2.2 q
theorem unI{f:`N2}{g:`aeN}
  (rule:∀(i:Int) (t:Tok) (s:`q) (Q:`af) (E:`af),Q (`e (g i) `aG) `ut->`g `ak X.A (f `Bf) Q E s) :
  UnR X f (rU λi=>`ao5):=by
 intro pins s σ H x v Q I rx h;obtain⟨i,rfl,q⟩:=h;obtain⟨t,rfl⟩:=rx;exact `lx i t s _ _ ⟨`ao5,H,`ep,`aM,q⟩
theorem Qh0:UnR X (unaryOp .USub) (rU λi=>`e (-i)):=unI λ_ _ _ _ _ q=>neg_int q
universe zz
noncomputable def Rb0:V->V->`X
 | `A,`A=>`b|`A,`dM=>`b|`dM,`A=>`b|`A,`cq=>`b|`cq,`A=>`b|`A,`cx=>`b|`cx,`A=>`b
 | `dM,`dM=>`b|`cq,`cq=>`b|`cx,`cx=>`b|.byt _,.byt _=>`b
 | `dM,`cx=>`b|`cx,`dM=>`b|`cq,`cx=>`b|`cx,`cq=>`b
 | _,_=>`r
noncomputable def rEq:R2:=λx y H Q=>`ao6/\Q (.bl (`ao7)) H
theorem U00{i j:Int}:`I (`no i=`no j)=`F!:=by
 rw[`fY];simp
theorem Ri0{i j:`X}:`I (V.bl i=V.bl j)=`F!:=by
 rw[`fY];simp
theorem T00{i j:Str}:`I (`x5 i=`x5 j)=`F!:=by
 rw[`fY];simp
theorem Vj0{i j:`amo}:`I (V.byt i=V.byt j)=(i.toList==j.toList):=by
 rw[`fY];cases i;cases j;simp
section
variable{a:`G}{tc:TE}
theorem M9{σ:St}{s:`q}{Q:VK}{k k':`X}(I:`B)(q:Q (`pT) H)(e:k=k'):EP X `j σ Q (`dZ k') s:=by
 subst e;exact⟨`pT,H,I,rfl,q⟩
theorem K8:OpR X (`eq .Eq) rEq:=by
 intro pins s σ H x y v u Q I rx ry h;obtain⟨hs,q⟩:=h;cases x with
 | non =>
  cases rx;cases y with
  | non=>cases ry;exact PySem.EqNone.eq_none_none `hn
  | bl j=>cases ry;exact PySem.EqNone.eq_none_bool `hn
  | int j=>obtain⟨t',rfl⟩:=ry;exact PySem.EqNone.eq_none_int `hn
  | str j=>obtain⟨t',rfl⟩:=ry;exact PySem.EqNone.eq_none_str `hn
  | _=>exact `sg
 | bl i =>
  cases rx;cases y with
  | non=>cases ry;exact PySem.EqNone.eq_bool_none `hn
  | bl j=>cases ry;exact eq_bool (M9 I q Ri0)
  | str j=>obtain⟨t',rfl⟩:=ry;exact PySem.EqMixed.eq_bool_str `hn
  | _=>exact `sg
 | int i =>
  obtain⟨t,rfl⟩:=rx;cases y with
  | non=>cases ry;exact PySem.EqNone.eq_int_none `hn
  | int j=>obtain⟨t',rfl⟩:=ry;exact eq_int (M9 I q U00)
  | str j=>obtain⟨t',rfl⟩:=ry;exact PySem.EqMixed.eq_int_str `hn
  | _=>exact `sg
 | str i =>
  obtain⟨t,rfl⟩:=rx;cases y with
  | non=>cases ry;exact PySem.EqNone.eq_str_none `hn
  | bl j=>cases ry;exact PySem.EqMixed.eq_str_bool `hn
  | int j=>obtain⟨t',rfl⟩:=ry;exact PySem.EqMixed.eq_str_int `hn
  | str j=>obtain⟨t',rfl⟩:=ry;exact eq_str (M9 I q T00)
  | _=>exact `sg
 | byt i =>
  obtain⟨t,rfl⟩:=rx;cases y with
  | byt j=>obtain⟨t',rfl⟩:=ry;exact W.eq_bytes (M9 I q Vj0)
  | _=>exact `sg
 | _=>cases y<;>exact `sg
theorem wx0:OpR X (`eq .Lt) (rI0 `Vk):=eu0 λ_ _ _ _ _ _ _ q=>lt_int q
theorem W40:OpR X (`eq .LtE) (rI0 `Vl):=eu0 λ_ _ _ _ _ _ _ q=>le_int q
theorem Wf0:OpR X (`eq .Gt) (rI0 `Vm):=eu0 λ_ _ _ _ _ _ _ q=>gt_int q
theorem Pf0:OpR X (`eq .GtE) (rI0 `Vn):=eu0 λ_ _ _ _ _ _ _ q=>ge_int q
theorem nf0:OpR X (`eq .Is) `ao8:=by
 intro pins s σ H x y v u Q I rx ry h;obtain⟨rfl,q⟩:=h;cases ry;refine is_none_gen `ao9;cases x<;>first
  | (cases rx;rfl)
  | (obtain⟨t,rfl⟩:=rx;rfl)
theorem ms0:OpR X (`eq .IsNot) `ao':=by
 intro pins s σ H x y v u Q I rx ry h;obtain⟨rfl,q⟩:=h;cases ry;refine isnot_none_gen `ao9;cases x<;>first
  | (cases rx;rfl)
  | (obtain⟨t,rfl⟩:=rx;rfl)
theorem OpR.or{f:`sf}{r r':R2}(h:OpR X f r)(h':OpR X f r'):OpR X f `ao!:=by
 intro pins s σ H x y v u Q I rx ry q;rcases q with q|q
 ·exact h `j s σ H x y v u Q I rx ry q
 ·exact h' `j s σ H x y v u Q I rx ry q
theorem ch0(b:`G){op:`kn}(h:op≠.In:=by decide)(h2:op≠`sh:=by decide):`r4:=by
 have e1:(op==CmpOp.In)=`r:=by cases op<;>first|rfl|exact `ao?
 have e2:(op==CmpOp.NotIn)=`r:=by cases op<;>first|rfl|exact `L rfl h2
 cases b<;>simp[`NL,e1,e2]
theorem Tf0{op:`kn}{r:R2}(ho:`si)(ha:`ko)(hb:`oN)(hm:`r4):PE X `xX `GZ:=by
 intro pins s σ H Q I h;exact wpAny_Compare1 `aoT hm
noncomputable def Pb0(t:TE):TT:=fun σ H Q=>t σ H λx H'=>∃k,x=`pT/\Q k H'
theorem Th0{op:`kn}{r:R2}(ho:`si)(ha:`ko)(hb:`oN)(hm:`r4):PT X `xX (Pb0 `GZ):=by
 intro pins s σ H Q I h;refine `anu (thn `mp λv s1 ⟨x,H1,I1,r1,q1⟩=>thn `Vi λu s2 ⟨y,H2,I2,r2,q2⟩ =>
  thn `apa λc s3 ⟨z,H3,I3,r3,k,e,q3⟩=>?_) hm
 subst e;cases r3;exact S2 ⟨H3,I3,q3⟩
noncomputable def Z70(r r':R2)(ta tb tc:TE):TE:=fun σ H Q=>ta σ H λx H1=>tb σ H1 λy H2=>r x y H2 λz H3=>∃k,z=`pT /\
 (if k=`b then tc σ H3 λw' H4=>r' y w' H4 Q else Q `p! H3)
theorem Xo0{op op':`kn}{r r':R2}(ho:`si)(ho':`apb)(ha:`ko)(hb:`oN)(hc:PE X c tc)
  (hm:`apc:=by with_unfolding_all rfl):PE X `apd (Z70 r r' ta tb tc):=by
 intro pins s σ H Q I h;refine Compare_chain (thn `mp λv s1 ⟨x,H1,I1,r1,q1⟩=>chain_link (thn `Vi λu s2 ⟨y,H2,I2,r2,q2⟩ =>
  thn `apa λd s3 ⟨z,H3,I3,r3,k,e,q3⟩=>?_)) hm
 subst e;cases r3;refine S2 ?_;cases k with
 | false=>exact ite_ff ⟨`m7,H3,I3,rfl,q3⟩
 | true=>exact ite_tt (chain_last (thn (hc `j s3 σ H3 _ I3 q3) λw' s4 ⟨z',H4,I4,r4,q4⟩=>ho' `j s4 σ H4 y z' u w' Q I4 r2 r4 q4))
theorem v00:`ape<`t':=by rw[sizeLine_eq];decide
theorem c10:OpR X `x4 (λx y H Q=>`apf):=by
 intro pins s σ H x y v u Q I rx ry h;obtain⟨i,j,rfl,rfl,hz,q⟩:=h;obtain⟨t,rfl⟩:=rx;obtain⟨t',rfl⟩:=ry;exact add_str (λt' tk=>⟨`ae7,H,`ep,`aM,q⟩) hz
theorem vals1{x:V}(r:`apg):`aph:=by
 cases r with
 | cons r1 r2=>cases r2;exact⟨_,rfl,r1⟩
theorem az0:`dy X (`bs `g_) `api:=by
 intro pins s σ H xs us Q I r h;rcases h with⟨i,rfl,q⟩|⟨k,rfl,q⟩
 ·obtain⟨u,rfl,t,rfl⟩:=`kr
  exact call_int_int ⟨`ap,H,I,`aM,q⟩
 ·obtain⟨u,rfl,r1⟩:=`kr
  cases r1;exact call_int_bool ⟨`N3,H,`ep,`aM,q⟩
universe zz
theorem RelO.some_of{v:V}{o:`kM}(r:RelO `pF o):∃u,o=`aU/\`f0:=by
 cases o with
 | none=>exact`Vo
 | some u=>exact⟨u,rfl,r⟩
structure Room(k:Nat)(A:`T):Prop where
 hd:`dN
 dp:`Vp+3*k+5<`apj
 un:`i5+16*k+200<`cu
theorem Room.mono{k:Nat}{A:`T}(r:`x6)(h:j<=k):`hW j A:=⟨r.hd,`apk,`apl⟩
theorem Room.deeper{k:Nat}{A:`T}(r:`hW `cf A)(env:Env):`hW k (`uv env) :=
 ⟨r.hd,by have:=r.dp;show `Vp+1+3*k+5<_;omega,by have:=r.un;show `i5+3+16*k+200<_;omega⟩
theorem Room.depth{k:Nat}{A:`T}(r:`x6):`Vp<`apj:=`apk
theorem Room.units{k:Nat}{A:`T}(r:`x6):`i5+64<`cu:=`apl
noncomputable def N90:TA:=λ_ H Q=>Q [] H
noncomputable def Pj0(ta:TE)(tr:TA):TA:=fun σ H Q=>ta σ H λx H1=>tr σ H1 λxs H2=>Q (`sj) H2
section
variable{t:TA}
theorem we0:PA X [] N90:=λ_ _ _ _ H Q I h=>U1 `apm
theorem yc0(ha:`mq)(hr:`G0)(hs:`dO:=by rfl):PA X `hX (Pj0 te t):=by
 intro pos pins s σ H Q I h;rw[hs];show `g _ _ (`r3 (`pU::`N4)) _ _ s;refine M1 (thn `mp λu s1 hq27=>?_);obtain⟨x,H1,I1,r1,q1⟩:=hq27;exact thn (hr pos `j s1 σ H1 _ I1 q1) λus s2 ⟨xs,H2,I2,r2,q2⟩=>⟨`sj,H2,I2,`au r1 r2,q2⟩
noncomputable def Ow0(t:TA):TE:=fun σ H Q=>t σ H λxs H1=>`d9/\∀p,H1 p=`c->Q `dD (upd H1 p `kQ)
noncomputable def N30(t:TA):TE:=fun σ H Q=>t σ H λxs H1=>`d9/\∀p,H1 p=`c->Q `dD (upd H1 p `m8)
theorem Qu0{x1}(h:`G0):PE X (`qz es x1 pos) (Ow0 t):=by
 intro pins s σ H Q I hq;refine wpAny_Tuple_spliced (thn `apn λus s1 hq28=>?_);obtain⟨xs,H1,I1,r,z,q⟩:=hq28;refine `apo;have hf:`app:=`pP;refine⟨`apq,upd H1 `ft `kQ,`apr,rfl,q _ hf⟩;exact⟨z,us,r,`T7⟩
theorem Zh0(h:`G0):PE X `Vq (N30 t):=by
 intro pins s σ H Q I hq;refine wpAny_List_spliced (thn `apn λus s1 hq29=>?_);obtain⟨xs,H1,I1,r,z,q⟩:=hq29;refine `apo;have hf:`app:=`pP;refine⟨`apq,upd H1 `ft `m8,`apr,rfl,q _ hf⟩;exact⟨z,us,0,r,`cW⟩
universe zz
abbrev Sp:=`C->Hp->VK->XK->Prop
abbrev CXT:=`fd->Hp->`q->XK->`af
variable{sp:L2.Sp}
structure Env0(P:`_)(w:`E)(K:`M)(mg:`bR)(base:`H)(A:`T)(outer:`fd)(s:`q)(H:Hp):Prop where
 frames:A.frames=`a `c_
 mod:Mod K mg `n
 bs:∀b o,base.get? b=`aj->`am3
 bsz:base.objs.size<=`O
 funs:`Gu `n `c_
 frf:∀b∈frs `c_,`cY
 hok:HOk P w H `W
 bare:`ui `r0
variable{CX:L2.CXT}
noncomputable def CE(outer:`fd)(P:`_)(w:`E)(H:Hp)(s:`q)(Q:VK)(u:`v)(s':`q):Prop :=
 ∃v H',`ann/\`Ol/\Un (frs `c_) [] H H' `W `nb/\HOk P w H' `nb/\`ano
noncomputable def CR(CX:CXT)(outer:`fd)(P:`_)(w:`E)(H:Hp)(s:`q)(Q:VK)(E:XK)(r:Result)(s':`q):Prop :=
 match r with
 | .ok (`fk u)=>`aps
 | .ok _=>`bM
 | `agQ=>CX `c_ H s E e s'
structure FnOk(P:`_)(w:`E)(K:`M)(mg:`bR)(base:`H)(CX:CXT)(k:Nat)(f:`f)(fd:`eC)(ps:`t)(sp:Sp):Prop where
 len:`G1
 run:∀(A:`T) (outer:`fd) (s:`q) (H:Hp) (args:Args) (us:`ab) (vs:`C) (Q:VK) (E:XK),`x6->`apt->`BA s fd `ho `x7->`qs->`uu ->
  `gU `aA A (`uM `fl `ho) (CR CX `c_ P w H s Q E) s
section
variable{σ:St}{s:`q}
theorem Inv.env0(I:`B):Env0 `bf X.w X.K `cv `eO X.A `hM s H :=
 ⟨I.ok.frames,I.ok.mod,I.bs,C4 I.ok.bsz I.sz,I.stack,I.stkFree,`bt,`iA⟩
theorem Inv.after{Q:VK}(I:`B)(h:CE `hM `bf X.w H s Q u s'):EP X `j σ Q u s':=by
 obtain⟨v,H',os,bare,un,hok,r,q⟩:=h;obtain⟨hh,g,d,t,J⟩:=s';obtain rfl:J=s.os:=os;exact⟨v,H',I.call (h':=hh) (g':=g) (d':=d) (t':=t) (ch:=[]) un hok bare (λb z=>`L z `Q),r,q⟩
universe zz
noncomputable def Ok0(sp:Sp)(dvs:`C)(E:XK)(t:TA):TE:=fun σ H Q=>t σ H λvs H1=>sp `G2 H1 Q E
noncomputable def Binds(K:`M)(fd:`eC)(ps:`t)(ds:`ab):Prop :=
 ∀(s:`q) (us:`ab),`mZ `W->`apu->`BA s fd `G3 (`nd (us++ds))
theorem Binds.all{ps:`t}(h:∀us:`ab,`cz=`P->`oD fd `G3=`ai `x7):`O0:=λs us _ hl=>by
 rw[`fb] at hl ⊢;exact .of_eq (h us hl)
noncomputable def jy0(CX:CXT)(X:Cx)(E:XK):Prop:=∀(pins:`ay) (σ:St) (H:Hp) (s:`q) (e:`v) (s':`q),`B->CX `hM H s E e s'->`aE e s'
section
variable{k:Nat}{f C:`f}{ps:`t}{dvs:`C}{ds:`ab}{E:XK}{m:Str}{t:TA}
theorem Rr0{pins:`ay}{σ:St}{H:Hp}{s:`q}{Q:VK}{us:`ab}{vs:`C}(F:`apv)(hr:`Vr)(hb:`apw)(hd:`apx)(hx:`apy)
  (I:`B) (r:`qs) (h:sp `G2 H Q E):`g `ak X.A (`de `fl us) `fw `aE s:=by
 have r2:`bK `G2 (us++ds):=`G4 hd;have hl:`apu:=by rw[← `nI];exact F.len _ _ _ _ h
 refine wpAny_call (`Vs (F.run X.A `hM s H `G3 (us++ds) `G2 Q E hr I.env0 (hb s us `f3 hl) r2 h) `apz);cases r with
 | error e=>exact hx `j σ H s e s' I hq
 | ok fl =>
  cases fl with
  | ret u=>exact I.after hq
  | next=>exact `Vt
  | brk=>exact `Vt
  | cont=>exact `Vt
theorem qm0(F:`apv)(hr:`Vr)(hg:`d')(hm:`A5=`a `fl)(hk:`la X.K `fl=`b)(hb:`apw)(hd:`apx)(hx:`apy)
  (ha:`x8) (hdb:`bq:=by decide) (he:`dO:=by rfl) (hpl:`gx:=by rfl) :
  PE X `pY (Ok0 sp dvs E t):=by
 intro pins s σ H Q I h;refine P3 (Vp0 I hg hm ?_ hdb);refine W.callWith_K (h₀:=`eO) I.ok.mod.kin hk (thn `nf λus s1 hq30=>?_) he hpl;obtain⟨vs,H1,I1,r,q⟩:=hq30;refine ⟨I1.kIn,?_⟩;exact Rr0 F hr hb hd hx I1 r q
universe zz
structure FnScope(N P:`t)(sc:`dK):Prop where
 kind:`apA
 co:`apB
 gen:`apC
 nd:`GD
 pre:N.take `Vu=P
 par:∀x∈P,`Um
 nofree:∀y∈`G5,`apD
theorem lt0{kindOf:`G6}:∀{binds:`Ox} {m:`bR},`apE->`x9 `e4 binds m x=m x
 | [],_,_=>rfl
 | (n,v)::r,m,h=>by
  unfold bindL;rw[lt0 `apF];split
  ·have:x≠n:=`apG
   simp[`u]
  ·rfl
theorem ls0{kindOf:`G6}:∀{binds:`Ox} {m:`bR},`apE->`x' `e4 binds m x=m x
 | [],_,_=>rfl
 | (n,v)::r,m,h=>by
  unfold bindC;rw[ls0 `apF];split
  ·rfl
  ·have:x≠n:=`apG
   simp[`u]
theorem ll0{kindOf:`G6}:∀{P:`t} {vs:`ab} {i:Nat} {m:`bR},P.Nodup->`apH->`Vv->`e4 x=`kW ->
  `x9 `e4 (`N7) m x=`a3
 | [],_,_,_,_,h,_,_=>`iE
 | `bh,[],_,_,_,_,h,_=>`iE
 | p::P,w::vs,0,m,nd,h1,h2,hk=>by
  simp at h1 h2;subst h1;subst h2;show `x9 `e4 `G7 m p=_;unfold bindL;rw[lt0 `apI,`J hk];simp
 | p::P,w::vs,i+1,m,nd,h1,h2,hk=>by
  show `x9 `e4 `G7 m x=_;unfold bindL;exact ll0 (i:=i) (K2.mp nd).2 `xD `xE hk
theorem lc0{kindOf:`G6}:∀{P:`t} {vs:`ab} {i:Nat} {m:`bR},P.Nodup->`apH->`Vv->`e4 x≠`kW ->
  `x' `e4 (`N7) m x=`a3
 | [],_,_,_,_,h,_,_=>`iE
 | `bh,[],_,_,_,_,h,_=>`iE
 | p::P,w::vs,0,m,nd,h1,h2,hk=>by
  simp at h1 h2;subst h1;subst h2;show `x' `e4 `G7 m p=_;unfold bindC;rw[ls0 `apI,`V hk];simp
 | p::P,w::vs,i+1,m,nd,h1,h2,hk=>by
  show `x' `e4 `G7 m x=_;unfold bindC;exact lc0 (i:=i) (K2.mp nd).2 `xD `xE hk
noncomputable def start(N:`t)(vs:`C):St:=`qF `a++`et (`G8 - `bm) `c
noncomputable def u30(CX:CXT)(P:`_)(w:`E)(K:`M)(mg:`bR)(base:`H)(N:`t)(qual:Str)(scope:`dK)(f:`f)(cd:`v)(A:`T)(outer:`fd)(s:`q)(H:Hp)(E:XK):Cx where
 prog:=P
 w:=w
 K:=K
 mg:=mg
 base:=`n
 A:=`apJ
 N:=N
 s₀:=s
 H₀:=H
 env:=`uw
 outer:=`c_
 stack:=`uw::`c_
 ex:=[]
 calm:=`b
 fn:=λ_=>`b
 pn:=[]
 xe:=λe s'=>`g `aA (`apJ) (leaving (`uw) e) (λ_ s''=>CX `c_ H s E e s'') (λe' s''=>CX `c_ H s E e' s'') s'
theorem gt0(h:`NC):∃c,(`ae! n `G5 []).lookup x=`fp:=by
 have q:=`apK `G5 n [] (`m9);exact Option.isSome_iff_exists.mp q
theorem Zl0{CX:CXT}{P:`_}{w:`E}{K:`M}{mg:`bR}{base:`H}{N ps:`t}{qual:Str}{scope:`dK}{f:`f}{cd:`v}{A:`T}{outer:`fd}{s s1:`q}{H:Hp}{E:XK}{us:`ab}{vs:`C}
  (S:`apL) (hd:`dN) (e0:`apt) (hl:`bm=`P) (r:`qs)
  (x:InCallC s `O (`x9 `apM `x7 `G9) (`apN) (`x' `apM `x7 `G9) s1) :
  Inv (`apO) [] `Bl H s1:=by
 have O:`P<=`G8:=by have:=D9 `wM S.pre;rw[`ck] at this;omega
 obtain⟨h1,tk,rfl,hk⟩:=x.done;have J:∀b:`f,b∉(`apO).ex:=λb z=>`apP
 refine⟨⟨e0.mod,S.kind,rfl,rfl,`eN,λy z c h1 h2=>?_,`hp,λy c _ h=>?_,λ_=>hd,Around.frames_deeper e0.frames,`sk,`apQ,e0.bs,e0.bsz,λb _ _=>J b,`apQ,e0.funs,e0.frf⟩,
  rfl,e0.bare,`Go hk,⟨_,x.toInCall.ns,λi y v h1 h2 h3=>?_⟩,λy c h=>⟨_,x.cell y c h⟩,`apR `aV,λy c h=>?_,λp hp=>`L (show p∈([]:`ay) from hp) `Q,e0.hok.kept hk,?_⟩
 ·exact name_of_addr x.apart (N1 h1) (N1 h2)
 ·have hy:`BF=`hI∨`BF=`hQ:=hy
  rcases hy with hy|hy
  ·exact gt0 hy
  ·exact `L rfl (S.nofree _ (N1 hy))
 ·exact `apS
 ·have hi:`G':=by
   unfold start at h2
   by_cases hi:`G'
   ·exact hi
   ·rw[`Vw] at h2
    rw[`x!] at h2;split at h2<;>cases h2
  have ha:`Vv:=by
   unfold start at h2;rw[`G!,`cj] at h2;cases e:`N6 with
   | none=>rw[e] at h2;cases h2
   | some a=>rw[e] at h2;cases h2;rfl
  obtain⟨u,hu,rv⟩:=`rU ha;have hp:ps[i]?=`bA:=by
   rw[← S.pre,`ah2 `d];exact h1
  have M:`G?:=by rw[← S.pre];exact S.nd.sublist (List.take_sublist _ _)
  refine⟨u,rv,?_⟩;rcases S.par y (C2 hp) with k|k
  ·exact `m ⟨k,ll0 M hp hu k⟩
  ·obtain⟨c,e⟩:=gt0 (n:=`Bk) k
   refine `i ⟨`xG,c,e,?_⟩;have q:=x.cell y c e;rw[lc0 M hp hu (by show `BF≠_;rw[k];decide)] at q;exact q
 ·exact `apR (`apS)
 ·unfold start
  show _=`G8;rw[`ad,`Y,`apT];omega
theorem Ww0{CX:CXT}{P:`_}{w:`E}{K:`M}{mg:`bR}{base:`H}{k:Nat}{f:`f}{name qual:Str}{params:Arguments}{body:`iv}{scope:`dK}{dV kV doc pm cdv ct oc:`v}{an od:`da}
  {osl:`kf} {N ps:`t} {sp:Sp} (lk:`uP=`a ⟨oc,od,`gV `apU,osl⟩) (hcd:`BE) (S:`apL)
  (len:`G1)
  (hbody:∀(A:`T) (outer:`fd) (s:`q) (H:Hp) (vs:`C) (Q:VK) (E:XK),`hW k (`uv (`Bj `dc `c0 `O f cdv))->`uu ->
   ∃t,PSs `Vx `hR t/\`afv) :
  `ag P w K mg `n CX `cf f `apU ps sp:=by
 refine⟨len,λA outer s H a0 us vs Q E hr e0 hb r O=>?_⟩;have hl:=len _ _ _ _ O;have KX:`mZ `W:=e0.mod.kin.keeps `apV
 have Z:s.heap.NoLimit:=e0.mod.nolimit.keeps `apV
 have M:∀y∈`nd us,`afw∨(`pV y.1=`hI/\((`apN).lookup y.1).isSome=`b):=λhq31 hy=>by
  obtain⟨n,v⟩:=hq31
  rcases S.par n (N0 hy).1 with q|q
  ·exact `iB
  ·exact `i ⟨q,`apK _ _ _ (`iB)⟩
 refine codeAny_call_function hr.depth (KX _ _ lk) rfl S.co S.gen rfl (W.codeRec_of KX hcd) (hb _ _ _ _ ?_);refine wpAny_newFunctionEnv_cells S.kind M λenv he s1 x=>?_
 subst he;refine⟨Z.keeps x.toInCall.keep,codeAny_func ?_⟩;obtain⟨t,ht,hq⟩:=hbody A `c_ s H vs Q E (hr.deeper _) O;have I:Inv `Vx [] `Bl H s1:=Zl0 S hr.hd e0 hl r x;refine E2 (ht [] s1 `Bl H _ I hq) (λfl s' hs=>?_) λe s' hs=>hs
 have fin:∀{σ':St} {H':Hp} {v:V} {u:`v},Inv `Vx [] σ' H' s'->`f0->`A2->`aps :=
  λ{σ' H' v u} J rv q=>⟨v,H',J.os,J.bare,J.base,J.hok,rv,q⟩
 cases fl with
 | ret u =>
  obtain⟨v,σ',H',J,rv,q⟩:=hs;exact fin J rv q
 | next =>
  obtain⟨σ',H',J,q⟩:=hs;exact fin (v:=V.non) (u:=`jG) J rfl q
 | brk =>
  obtain⟨_,_,_,q⟩:=hs;exact `jb q
 | cont =>
  obtain⟨_,_,_,q⟩:=hs;exact `jb q
section
variable{t:TA}{id T:`cC}{r:`er}
noncomputable def tCB(r:`er)(t:TA):TE:=fun σ H Q=>t σ H λvs H1=>r vs H1 Q
theorem s30(hc:`apW)(hg:`d')(hm:`oM)(hv:`apX)(ha:`x8)(hn:`kV := by decide)(hdb:`bq:=by decide)
  (he:`dO:=by rfl) (hpl:`gx:=by rfl):`apY:=by
 intro pins s σ H Q I h;refine `apZ;exact PyProof.Rows.callWith_builtin1 `ap_ he hpl
theorem ub0(hc:`ap0)(hg:`d')(hm:`oM)(hv:`ap1)(ha:`x8)(hn:`kV := by decide)(hdb:`bq:=by decide)
  (he:`dO:=by rfl) (hpl:`gx:=by rfl):`apY:=by
 intro pins s σ H Q I h;refine `apZ;exact E9 `ap_ he hpl
universe zz
universe L2
variable{X:L2.Cx}{ta tb te tv tx:L2.TE}{CX:L2.CXT}{sp:L2.Sp}
namespace HT
open PyProof.Rows
section
variable{w:`E}{A:`T}{s:`q}
theorem Tb0{t b:`f}{ws:`ab}{Q:`af}(ht:`uz `W t `gS)(hb:`uz `W b `sl)(hv:vs≠[])
  (h1:ws=[]->Q `k9 s) (h2:ws≠[]->Q `e2 { s with heap:=`fs { cls:=`fm,data:=`be `ap2 } })
  (hsz:`bm+`qB<=`R):`g `ao A (`i! .Add `k9 `jw) Q E s:=by
 obtain⟨⟨cls,dd,data,sl⟩,ho,hc,n,hd⟩:=id ht;obtain⟨⟨a1,O,data2,a0⟩,J,M,n2,Z⟩:=id hb;simp only at hc hd M Z;subst hc hd M Z;have e:`gS++`sl=`ap2:=`a!
 by_cases hw:ws=[]
 ·exact r8 `Ha `Vy Av0 Aw0 Ax0 Ay0 (Az0 _ _)
   (tuple_addW1 t b `gS `sl n n2 dd O sl a0 `ap3 (by simp[hw])) ⟨ho,J,h1 hw⟩
 ·refine r8 `Ha `Vy Av0 Aw0 Ax0 Ay0 (Az0 _ _)
   (tuple_addW2 t b `gS `sl n n2 dd O sl a0 `ap3 `x? (by rw[`bF,`bF];exact hsz)) ⟨ho,J,?_⟩
  rw[e];exact h2 hw
noncomputable def sIx(n d:Nat):`ap4
 | `c=>d
 | `a3=>`Hb
theorem Sr0(n d:Nat)(hd:d<=n)(o:`bN):sIx n d o<=n:=by
 cases o with
 | none=>exact hd
 | some v =>
  show (`Hb)<=n
  by_cases hv:v<0
  ·rw[`J hv];omega
  ·rw[`V hv];exact C70 _ _
theorem fz0(v:Int)(n d:Nat):`ap5=((sIx n d `pF:Nat):Int):=by
 show `ap5=(((`Hb):Nat):Int)
 by_cases hv:v<0
 ·simp only[`J hv];omega
 ·simp only[`V hv];omega
theorem d80(lo hi:`bN)(n:Nat):`ap6=(`Hc,`ap7):=by
 have h1:¬(`uA<0):=`h
 unfold Builtin.Slice.sliceAdjust;simp only[h1,`cB];refine L4 ?_ ?_
 ·cases lo with
  | none=>rfl
  | some v=>exact fz0 v n 0
 ·cases hi with
  | none=>rfl
  | some v=>exact fz0 v n n
theorem c30(i j:Nat):`Vz `eT `eu 1=j - i:=by
 unfold Builtin.Slice.slicePlaces;have h1:`afp:=`h
 simp only[h1,`fO,Int.ediv_one];split<;>omega
theorem nc0{o:`bN}{Q:`bN->`ef}(p:`uy v o)(h:Q o s):`g `ao A (Builtin.Slice.slicePartIndex v) Q E s:=by
 cases p with
 | none=>exact `ap8 h
 | int i t=>exact slicePart_int h
theorem u00{sl:`f}{n:Nat}{Q:Int×Int×Nat->`ef}(hs:`Hd)(pl:`He)(pu:`Hf)
  (h:Q (`Hc,1,`afd - `afc) s):`g `ao A (Builtin.Slice.sliceApplied `Bo (`ai `cM)) Q E s:=by
 obtain⟨os,J,M,hds⟩:=id hs;unfold Builtin.Slice.sliceApplied Builtin.Slice.sliceFields;refine A0 (A0 (C6 J hds (x:=vl) rfl (A0 (C6 J hds (x:=vu) rfl (A0 (C6 J hds (x:=`aF) rfl `f5))))));refine A0 (`ap8 ?_);show `g _ _ (if (`uA==0)=`b then _ else _) _ _ s;rw[`sm];refine A0 (nc0 pl (A0 (nc0 pu (`oQ))));show `g _ _ (match `ap6 with|(lo,hi)=>`ai (lo,`uA,`Vz lo hi 1)) _ _ s;rw[d80 lo hi n];show `g _ _ (`ai (`Hc,`uA,`Vz `Hc `ap7 1)) _ _ s;rw[c30];exact `gQ
theorem X90(xs:`aZ)(i k:Nat):((`b? k).filterMap `ap9).toArray=((xs.toList.drop i).take k).toArray:=by
 have e:(`ap9)=`ap':=by
  funext m
  have:(`eT+`jc*1).toNat=i+m:=`h
  rw[`u]
 rw[e];have:=pick_run xs i k;rw[List.filterMap_map] at this;have e2:((λx=>xs[x]?) ∘ λx=>i+x)=`ap':=rfl
 rw[e2] at this;rw[`u]
theorem qt0{t sl:`f}{Q:`af}(ht:`ap!)(hs:`Hd)(pl:`He)(pu:`Hf)
  (hw:¬(`ap?))
  (h:Q `e2 { s with heap:=`fs { cls:=`fm,data:=`aqa } })
  (hsz:`k8<=`R):`aqb:=by
 have J:sizeOk (`aqa):=by
  show (`afe).toArray.size<=`R;rw[`bF,`ck,`fg,`bp];omega
 have hj:`N9<=`k8:=Sr0 _ _ `aV hi;obtain⟨os,Z,O,hds⟩:=id hs;have a0:`aqc := ⟨os,Z,O⟩;unfold getItem
 try with_reducible refine `h4
 first|refine `oQ|skip
 refine `aqd;refine A0 (D8 (name:=`aqe) `nh Y3
  `aqf)
 show `aqg;refine `aqh;refine A0 (N2 a0 ?_);rw[`sn];refine `aqi;have M:¬(`N!):=by
  intro q;rw[`dL,`dL] at q;have q1:`afh=0:=k4 q.1.1;have q2:`N'=`k8:=k4 q.2;exact hw `DB
 show `aqj;rw[`V M,X90]
 first
  | exact `aqk
  | exact A0 (m:=`Bp _) (L5 (A0 `aql) J)
  | exact A0 (A0 (m:=`Bp _) (L5 `aql J))
  | exact A0 (`aqk)
universe zz
universe HT
namespace L2
open Spec PyProof.Rows
abbrev TO:=St->Hp->(`aqm)->Prop
noncomputable def PO(X:Cx)(e:`qm)(t:TO):Prop :=
 ∀(pins:`ay) (s:`q) (σ:St) (H:Hp) (Q:`aqm),`B->`lg ->
  `g `ak X.A (evalPart e `F) (λu s'=>∃o H',`km/\`uy u o/\Q o H') `aE s
noncomputable def Tk0:TO:=λ_ H Q=>Q `c H
noncomputable def P00(t:TE):TO:=fun σ H Q=>t σ H λx H1=>∃i,`x0/\Q (`ya) H1
section
variable{lo hi:`qm}{tl th:TO}
theorem T30:PO X `c Tk0:=by
 intro pins s σ H Q I h;rw[`aqn];exact A1 ⟨`c,H,I,`aF,h⟩
theorem Uy0(h:`mq):PO X `NR (P00 te):=by
 intro pins s σ H Q I hw;rw[evalPart_some];refine thn `UM λu s1 hq32=>?_;obtain⟨x,H1,I1,r1,q1⟩:=hq32
 obtain⟨i,rfl,q⟩:=q1;obtain⟨t,rfl⟩:=r1;exact⟨`ya,H1,I1,`AL,q⟩
noncomputable def SlR(X:Cx)(r:`oR):Prop :=
 ∀(pins:`ay) (s:`q) (σ:St) (H:Hp) (x:V) (v vl vu:`v) (lo hi:`bN) (sl:`f) (Q:VK),`B->`iC->`Hd->`He->`Hf->`aqo ->
  ∃T id,`aqp/\`hF v T/\`g `ak X.A (`ng v `Bo) `fw `aE s
theorem SlR.or{r r':`oR}(h:SlR X r)(h':SlR X r'):SlR X (λx lo hi H Q=>`aqo∨r' x lo hi H Q):=by
 intro pins s σ H x v vl vu lo hi sl Q I rx hs pl pu q;rcases q with q|q
 ·exact h `j s σ H x v vl vu lo hi sl Q I rx hs pl pu q
 ·exact h' `j s σ H x v vl vu lo hi sl Q I rx hs pl pu q
noncomputable def tSl(r:`oR)(te:TE)(tl th:TO):TE:=fun σ H Q=>te σ H λx H1=>tl σ H1 λl H2=>th σ H2 λu H3=>r x l u H3 Q
theorem W00{r:`oR}(hr:SlR X r)(he:`mq)(hl:PO X lo tl)(hu:PO X hi th):PE X `aqq (tSl r te tl th):=by
 intro pins s σ H Q I h;refine `VA (thn `r6 λv s1 hq33=>?_);obtain⟨x,H1,I1,r1,q1⟩:=hq33;refine wpAny_Slice (thn (hl `j s1 σ H1 _ I1 q1) λvl s2 hq34=>?_);obtain⟨l,H2,I2,pl,q2⟩:=hq34;refine thn (hu `j s2 σ H2 _ I2 q2) λvu s3 hq35=>?_;obtain⟨u,H3,I3,pu,q3⟩:=hq35;rw[`aqn];refine `bE;have I4:Inv X `j σ H3 `VB:=I3.kept (t':=s3.toks) `Hg
 obtain⟨T,id,hT,ht,hg⟩:=hr `j `VB σ H3 x v vl vu l u `p_ Q I4 r1 (Heap.IsSliceOf.new ..) pl pu q3;show `g `ak X.A (`aqr e `afi v (`aqs)) `fw `aE `VB;exact tail_any (ops:=[`aqs,v]) ht hT hg (by with_unfolding_all rfl)
noncomputable def q90(xs:`C)(lo hi:`bN):`C:=(`px (`uB)).take (`Oa - `uB)
theorem p00(xs:`C)(lo hi:`bN):(`Br).length<=`as:=by
 unfold q90;rw[`ck,`fg];omega
noncomputable def N70(K:`M):`oR:=λx lo hi H Q=>∃a xs,`ff/\`kp /\
 ¬`aqt/\∀p,`dh->Q `dD (upd H p (`aqu))
theorem Qq0:SlR X (N70 X.K):=by
 intro pins s σ H x v vl vu lo hi sl Q I rx hs pl pu h;obtain⟨a,xs,rfl,hx,hw,q⟩:=h;cases rx;obtain⟨its,r,ht,hz⟩:=`eR hx;have J:`je=`as:=`aqv
 refine⟨`eg,_,Y3.lookup,`nh,?_⟩;refine HT.qt0 ht hs pl pu `aqw ?_ (by rw[J];exact hz);rw[J];refine⟨`ce,_,`ge (t':=`aG) (o:=`aqu) (`Hg) `aV ?_,rfl,`VC⟩;exact⟨`aqx,_,`aqy,`VD⟩
noncomputable def Wd0(K:`M):R2:=λx y H Q=>∃a b xs ys,`ff/\`oS/\`kp/\`aqz/\xs≠[]/\`Hh /\
 (ys=[]->Q `bJ H)/\(ys≠[]->∀p,`dh->Q `dD (upd H p (`O3)))
theorem Vals.nil_iff{xs:`C}(r:`d8):us=[]↔`xK:=by
 cases r with
 | nil=>simp
 | cons _ _=>simp
theorem Tg0:OpR X `x4 (Wd0 X.K):=by
 intro pins s σ H x y v u Q I rx ry h;obtain⟨a,b,xs,ys,rfl,rfl,ha,hb,hx,hz,q1,q2⟩:=h;cases rx;cases ry;obtain⟨its,r1,p1,_⟩:=`eR ha;obtain⟨J,r2,p2,_⟩:=`eR hb;refine HT.Tb0 p1 p2 (λz=>hx (r1.nil_iff.mp z)) (λz=>⟨`cH,H,I,rfl,q1 (r2.nil_iff.mp z)⟩) (`g') (by rw[← `u9,← `nI];exact hz);refine⟨`ce,_,`ge (t':=`aG) (o:=`O3) (`Hg) `aV ?_,rfl,q2 (λw=>z (r2.nil_iff.mpr w)) _ (`f6)⟩;exact⟨`aqA,_,`CJ r2,`VD⟩
universe zz
noncomputable def ixN(n:Nat)(i:Int):`vX:=`aqB
noncomputable def atI{α:Type}(xs:`cD)(i:Int):`aK α:=`aqC
theorem fu0{i:Int}(h:ixN n i=`so):seqIndex? i n=`so/\j<n/\`Oc/\i<n:=by
 unfold ixN at h
 by_cases h0:`hY
 ·rw[`J h0] at h
  by_cases h1:i<n
  ·rw[`oT] at h
   have e:`dd=j:=B2 h;exact⟨by rw[`VE h0 h1,e],`h,`h,h1⟩
  ·rw[`Hi] at h;cases h
 ·rw[`V h0] at h
  by_cases h1:`Oc
  ·rw[`oT] at h
   have e:`afj=j:=B2 h;exact⟨by rw[`VF `d h1,e],`h,h1,`h⟩
  ·rw[`Hi] at h;cases h
theorem mo0{xs:`cD}{i:Int}{v:α}(h:`uD=`a3):∃j,seqIndex? i `as=`so/\`uC=`a3/\j<`as/\-`aqD<=i/\`Hj:=by
 unfold atI at h;cases e:`afk with
 | none=>rw[e] at h;cases h
 | some j =>
  rw[e] at h;obtain⟨h1,h2,h3,h4⟩:=fu0 e;exact⟨j,h1,h,h2,h3,h4⟩
noncomputable def m80(b:`G):Prop:=∀o i,`Hk b `r o i=`VG [o,i] (`ng o i)
noncomputable def IxR(X:Cx)(r:R2):Prop :=
 ∀(value slice:`G) (pins:`ay) (s:`q) (σ:St) (H:Hp) (x y:V) (v u:`v) (Q:VK),`B->`iC->`gu->`Bg ->
  `Hk `ms `r v u=`VG [v,u] (`ng v u)->`g `ak X.A (`aqr `sp `ms v u) `fw `aE s
noncomputable def MtR(X:Cx)(id:`cC)(r:`ks):Prop :=
 ∀(pins:`ay) (s:`q) (σ:St) (H:Hp) (x:V) (xs:`C) (v:`v) (us:`ab) (Q:VK),`B->`iC->`d8->`aqE ->
  `aqF
section
variable{a:`G}
theorem IxR.or{r r':R2}(h:`VH)(h':IxR X r'):IxR X `ao!:=by
 intro value slice pins s σ H x y v u Q I rx ry q hs;rcases q with q|q
 ·exact h `sp `ms `j s σ H x y v u Q I rx ry q hs
 ·exact h' `sp `ms `j s σ H x y v u Q I rx ry q hs
theorem Om0{r:R2}(hr:`VH)(ha:`ko)(hb:`oN)(hs:m80 b):PE X `Hl `GZ:=by
 intro pins s σ H Q I h;exact `VA (Yv0 ha hb I h λv u s2 x y H2 I2 rx ry q=>hr a b `j s2 σ H2 x y v u Q I2 rx ry q (hs _ _))
noncomputable def R90(K:`M):R2:=λx y H Q=>∃p xs i v,x=`ja/\y=`ap/\`VI/\`aqG
noncomputable def Tz0(K:`M):R2:=λx y H Q=>∃p xs i v,x=`ja/\y=`ap/\SqT K H p xs/\`aqG
noncomputable def Si0:R2:=λx y H Q=>∃z i c,x=`k'/\y=`ap/\`p0/\`aqH=`fp/\Q (`VJ) H
theorem Tc0:IxR X (R90 X.K):=by
 intro value slice pins s σ H x y v u Q I rx ry h hs;obtain⟨p,xs,i,z,rfl,rfl,hq,he,q⟩:=h;cases rx;obtain⟨t,rfl⟩:=ry;obtain⟨its,r,pl,hz⟩:=`gw;obtain⟨j,h1,h2,h3,h4,h5⟩:=mo0 he;obtain⟨w,ew,J⟩:=`rU h2;have hl:=`am;have hn:=v00;have fin:`aqI:=`aqJ
 by_cases h0:`hY
 ·have hj:`dd=j:=by
   rw[`VE h0 h5] at h1;exact `qo
  exact item_listR `hq h0 `d `aqK fin hs
 ·have hj:(i+`aqL).toNat=j:=by
   rw[`VF `d h4] at h1;rw[`bF,← hl];exact `qo
  exact `aqM (x:=w) `aqN `aqO
   (wpAny_getItem_list_neg (Q:=`aqP) `hq `d `aqQ `d `aqK `aqR) hs
theorem Q30:IxR X (Tz0 X.K):=by
 intro value slice pins s σ H x y v u Q I rx ry h hs;obtain⟨p,xs,i,z,rfl,rfl,hq,he,q⟩:=h;cases rx;obtain⟨t,rfl⟩:=ry;obtain⟨its,r,pl,hz⟩:=`oO;obtain⟨j,h1,h2,h3,h4,h5⟩:=mo0 he;obtain⟨w,ew,J⟩:=`rU h2;have hl:=`am;have hn:=v00;have fin:`aqI:=`aqJ;exact `aqM (x:=w) pl.typeIs slot_tuple_getitem.lookup
  (getItem_tuple (j:=j) (Q:=`aqP) pl `d `d (by rw[`bF,← hl];exact h1) (by simpa using ew) `aqR) hs
theorem Sb0:IxR X Si0:=by
 intro value slice pins s σ H x y v u Q I rx ry h hs;obtain⟨z,i,c,rfl,rfl,hz,he,q⟩:=h;obtain⟨t,rfl⟩:=rx;obtain⟨t',rfl⟩:=ry;obtain⟨j,h1,h2,h3,h4,h5⟩:=mo0 he;have hl:z.cps.toList.length=`eU:=by simp[Str.length]
 rw[hl] at h1 h4 h5;have hn:=v00;exact tail_any (c9 s z t) slot_str_getitem.lookup (getItem_str (c:=c) (by
  have e1:`I (i < `aqS)=`r:=`Hm;have e2:`I (i ≥ 2 ^ 63)=`r:=`Hm;rw[e1,e2,`VK]) (by rw[h1];simpa using h2) ⟨`VJ,H,`ep,`aM,q⟩) hs
noncomputable def rIx(K:`M):R2:=λx y H Q=>R90 K x y H Q∨Tz0 K x y H Q∨Si0 x y H Q
theorem Qw0:IxR X (rIx X.K):=Tc0.or (Q30.or Sb0)
theorem d50(its:`ab)(n j:Nat)(u:`v):`fB (`Qz j u) `Ny={ cls:=`dv,data:=`be (its.set j u).toArray n }:=by
 simp[`fB]
theorem Inv.lst{σ:St}{s:`q}{p:`f}{xs:`C}(I:`B)(h:`VL) :
  ∃(its:`ab) (n:Nat),`kh/\`aqT/\`d9:=by
 obtain⟨z,its,n,r,e⟩:=`bt p _ h;exact⟨its,n,r,e,z⟩
theorem Inv.lstUpd{σ:St}{s:`q}{p:`f}{xs ys:`C}{its its':`ab}{n n':Nat}{f:Obj->Obj}(I:`B)(h:`VL)
  (ho:`aqT) (hf:f `Ny=`aqU) (r:`aqV) (hz:`Hn) (t:Nat) :
  Inv X `j σ (upd H p `p2) { s with heap:=`lB p f,toks:=t }:=by
 have e:(`lB p f).get? p=`a `aqU:=by
  rw[Heap.get?_update_self f ho (by rw[hf]<;>rfl),hf]
 refine `VM (x:=p) (e:=p) (by rw[h];trivial) `i8 (λb u hb q=>`CF q) ⟨_,e⟩ ?_;exact⟨hz,its',n',r,e⟩
noncomputable def P70:`UT:=λo i v H Q=>∃p xs k j,o=`ja/\i=`n8/\`VL/\ixN `as k=`so/\Q `aqW
theorem set_list:Yh0 X P70:=by
 intro pins s σ H o i v ov iv u Q I ro ri rv h;obtain⟨p,xs,k,j,rfl,rfl,hp,hj,q⟩:=h;cases ro;obtain⟨t,rfl⟩:=ri;obtain⟨its,n,r,ho,hz⟩:=I.lst hp;obtain⟨h1,h2,h3,h4⟩:=fu0 hj;have hl:=`am;have hn:=v00;have I':Inv X `j σ `aqW { s with heap:=`lB p (`fB (`Qz j u)) } :=
  I.lstUpd hp ho (d50 its n j u) (r.set rv j) (by rw[`yb];exact hz) `aG
 by_cases h0:`lP
 ·have hk:`yc=j:=by
   rw[`VE h0 h4] at h1;exact `qo
  exact W.ki_setAt ho h0 `d (by rw[`bF,← hl];exact h4) `aqX
 ·have hk:(k+`aqL).toNat=j:=by
   rw[`VF `d h3] at h1;rw[`bF,← hl];exact `qo
  exact W.ki_setBack ho `d (by rw[`bF,← hl];exact h3) `d `aqX
theorem jr0(lo hi:`bN)(n:Nat):(`VN).1=((`gR n 0 lo:Nat):Int)/\(`VN).2.1=((`gR n n hi:Nat):Int)/\(`VN).2.2=1:=by
 refine⟨?_,?_,rfl⟩
 ·cases lo with
  | none=>simp[`uF,`gR]
  | some i =>
   simp only[`uF,`gR,`aqY,`aqZ,`fO]
   by_cases h:i<0
   ·simp only[h,`fO]<;>omega
   ·simp only[h,`cB]<;>omega
 ·cases hi with
  | none=>simp[`uF,`gR]
  | some i =>
   simp only[`uF,`gR,`aqY,`aqZ,`fO]
   by_cases h:i<0
   ·simp only[h,`fO]<;>omega
   ·simp only[h,`cB]<;>omega
theorem ki0(its:`ab)(lo hi:`bN):slicePick `cd lo hi `c=((its.drop (`aq_)).take (`gR `nj `nj hi - `aq_)).toArray:=by
 obtain⟨h1,h2,h3⟩:=jr0 lo hi `je;unfold slicePick;rw[h1,h2,h3];simp only[sliceRange_one,pick_run,`bF]<;>rfl
noncomputable def N20(K:`M):`oR:=λx lo hi H Q=>∃a xs,`ff/\`k2/\∀p,`dh->Q `dD (upd H p (`aq0))
theorem Td0:SlR X (N20 X.K):=by
 intro pins s σ H x v vl vu lo hi sl Q I rx hs pl pu h;obtain⟨a,xs,rfl,hx,q⟩:=h;cases rx;obtain⟨its,r,ht,hz⟩:=`dx hx;have J:=`am;refine⟨`cX,_,`aqO,ht.isList.typeIs,?_⟩;refine wpAny_getItem_list_slice ht.isList hs pl pu `aF `Q ?_ `aqQ;rw[ki0,← J];refine⟨`ce,_,`ge (t':=`aG) (o:=`aq0) (`Hg) `aV ?_,rfl,`VC⟩;exact⟨`aqx,_,0,`aqy,`cW⟩
theorem js0:`dy X `yd (λxs H Q=>∃p ys,`gY/\(`VO∨`VP)/\`aq1):=by
 intro pins s σ H xs us Q I r h;obtain⟨p,ys,rfl,hq,q⟩:=h;obtain⟨u,rfl,rx⟩:=`kr;cases rx;have hn:=v00;rcases hq with hq|hq
 ·obtain⟨its,r',pl,hz⟩:=`gw
  have J:=`rT;exact Calls.call_len_list `hq `ye `aq2
 ·obtain⟨its,r',pl,hz⟩:=`oO
  have J:=`rT;exact len_tuple pl `ye `aq2
theorem ih0:`dy X `yd (λxs H Q=>`aq3):=by
 intro pins s σ H xs us Q I r h;obtain⟨z,rfl,hz,q⟩:=h;obtain⟨u,rfl,t,rfl⟩:=`kr;have hn:=v00;exact len_str `d ⟨`Of,H,`ep,`aM,q⟩
theorem CallR.or{f:`v}{r r':`er}(h:`dy X f r)(h':`dy X f r'):`dy X f (λxs H Q=>`GX∨r' xs H Q):=by
 intro pins s σ H xs us Q I rs q;rcases q with q|q
 ·exact h `j s σ H xs us Q I rs q
 ·exact h' `j s σ H xs us Q I rs q
theorem vw0:`dy X `vr (λxs H Q=>∃p ys,`gY/\(`VO∨`VP)/\`aq4):=by
 intro pins s σ H xs us Q I r h;obtain⟨p,ys,rfl,hq,q⟩:=h;obtain⟨u,rfl,rx⟩:=`kr;cases rx;have fin:∀(its:`ab),`VQ->`Hn->∀(h':`H) (c':Nat),(∀b o',`pH=`a o'->`aek) ->
   `aq5=`a { cls:=`dv,dict:=`c,data:=`be `cd c',slots:=#[] }->EP X `j σ Q `e2 `fr:=λits r' hz h' c' kp e =>
  ⟨`ce,_,`ge (t':=`aG) kp `aV (show `b_ `bf X.w _ h' _ `p2 from ⟨hz,its,c',r',e⟩),rfl,`VC⟩
 rcases hq with hq|hq
 ·obtain⟨its,r',pl,hz⟩:=`gw
  have J:=`rT;obtain⟨o,ho,hc,n,hd⟩:=`hq;exact `aq6 p `i8 ho hc hd `aq7 `ye
 ·obtain⟨its,r',pl,hz⟩:=`oO
  have J:=`rT;obtain⟨o,ho,hc,n,hd⟩:=pl;exact `aq6 p `yf ho hc hd `aq7 `ye
theorem W2:`dy X `xF (λxs H Q=>∃p ys,`gY/\((`VO/\`aq8)∨(`VP/\Q `dD H))):=by
 intro pins s σ H xs us Q I r h;obtain⟨p,ys,rfl,h⟩:=h;obtain⟨u,rfl,rx⟩:=`kr;cases rx;rcases h with⟨hq,q⟩|⟨hq,q⟩
 ·obtain⟨its,r',pl,hz⟩:=`gw
  have J:=`rT;refine call_tuple_list `hq (λh' kp=>?_) `ye;have I1:`r8:=`x_ (t':=`aG) kp;have I2:Inv X `j σ (upd H `f7 `uG) { s with heap:=`DH { cls:=`fm,data:=`be `cd } } :=
   `Bh (t':=`aG) (`pN) `aV (show `b_ `bf X.w _ _ _ `uG from ⟨hz,its,r',`VD⟩)
  exact⟨`Ho,_,I2,rfl,q _ (`pP)⟩
 ·obtain⟨its,r',pl,hz⟩:=`oO
  exact call_tuple_same pl ⟨`ja,H,I,rfl,q⟩
noncomputable def tyV(K:`M)(T:`cC)(x:V)(H:Hp):Prop:=match x with
 | `cx=>T = `yg
 | `dM=>T = `g_
 | `ja=>(T = `cX/\∃xs,`VI)∨(T = `eg/\∃o,`f2 p=`aj/\`mX/\`Gc) ∨
   (T = `e0/\((∃kvs,`P6)∨∃kvs,H p=`O?))∨(T = "set"/\∃S n,H p=`a (.set S n))
 | _=>`bM
theorem Zr0{σ:St}{s:`q}{T:`cC}{x:V}(I:`B)(r:`iC)(ty:tyV X.K T x H) :
  `hF v T/\∀a,`eh->∃ob,`i9=`xQ/\`aq9:=by
 cases x with
 | str z =>
  obtain⟨t,rfl⟩:=r;cases (show T = `yg from ty);exact⟨c9 s z t,λ_ e=>nomatch e⟩
 | int i =>
  obtain⟨t,rfl⟩:=r;cases (show T = `g_ from ty);exact⟨k6 s i t,λ_ e=>nomatch e⟩
 | ref p =>
  cases r;rcases ty with⟨rfl,xs,hq⟩|⟨rfl,o,hk,hc,hd⟩|⟨rfl,hk⟩|⟨rfl,S,n,hk⟩
  ·obtain⟨its,_,pl,_⟩:=`gw
   refine⟨`aqN,λa e=>?_⟩;cases e;obtain⟨o,n,e,c,hd,_⟩:=pl;exact⟨o,e,hd⟩
  ·refine⟨⟨o,`f3 p o hk,hc⟩,λa e=>?_⟩
   cases e;exact⟨o,`f3 _ o hk,hd⟩
  ·have z:∃o,`em p=`aj/\`xM:=by
    rcases hk with⟨kvs,hk⟩|⟨kvs,hk⟩
    ·obtain⟨_,_,_,_,o,_,_,e,ex,_⟩:=`VR
     exact`aq'
    ·obtain⟨_,_,_,_,o,_,_,e,ex,_⟩:=`VR
     exact`aq'
   obtain⟨o,e,ex⟩:=z;refine`aq!;cases e2;exact`aq?
  ·obtain⟨o,_,_,_,e,ex,_⟩:=`VR
   refine`aq!;cases e2;exact`aq?
 | _=>exact `jb ty
noncomputable def Nc0(K:`M)(T:`cC)(r:`ks)(to:TE):TE:=fun σ H Q=>to σ H λx H1=>`ara/\r x [] H1 Q
noncomputable def tBM(K:`M)(T:`cC)(r:`ks)(to:TE)(t:TA):TE:=fun σ H Q=>to σ H λx H1=>`ara/\t σ H1 λxs H2=>r x xs H2 Q
variable{to:TE}{t:TA}{T id:`cC}{r:`ks}
theorem Rp0(pa:PlainAttrs T)(slot:`arb)(hty:`arc)(hm:`ard)(ho:`UV)
  (hbase:`are:=by rfl) (hline:`kt:=by rfl):PE X (`bT `arf [] [] `dY) (Nc0 X.K T r to):=by
 intro pins s σ H Q I h;refine wpAny_Call_method0_late `nS `nT (thn `r9 λv s1 hq36=>?_);obtain⟨x,H1,I1,r1,ty,q1⟩:=hq36;obtain⟨h1,h2⟩:=`arg;exact⟨T,id,pa,slot,hty,h1,h2,r9 rfl (PySem.evalArgs_none (hm `j s1 σ H1 x [] v [] Q I1 r1 `ae q1))⟩
theorem c20(pa:PlainAttrs T)(slot:`arb)(hty:`arc)(hm:`ard)(ho:`UV)(ha:`x8)
  (hbase:`are:=by rfl)
  (hfew:((`gL `dY (`ae8)).all `OZ&&`O_
  &&`I (`VS+`Cq+`Cr<30))=`b:=by rfl)
  (hline:`kt:=by rfl) (hs:`dO:=by rfl) (hplain:`arh=`r:=by rfl) :
  PE X (`bT `arf `hX [] `dY) (tBM X.K T r to t):=by
 intro pins s σ H Q I h;refine wpAny_Call_method_late `nS hfew `nT rfl (thn `r9 λv s1 hq37=>?_);obtain⟨x,H1,I1,r1,ty,q1⟩:=hq37;obtain⟨h1,h2⟩:=`arg;refine⟨T,id,pa,slot,hty,h1,h2,?_⟩;have hA:=ha `dY `j s1 σ H1 _ I1 q1;rw[hs] at hA ⊢;refine r9 (by show (`r||`arh)=`r;rw[`Hp]<;>rfl) (B20 ?_);exact thn hA λus s2 ⟨vs,H2,I2,r2,q2⟩=>hm `j s2 σ H2 x vs v us Q I2 r1 r2 q2
universe zz
noncomputable def MtM(X:Cx)(id:`cC)(r:`ks):Prop :=
 ∀(pins:`ay) (s:`q) (σ:St) (H:Hp) (x:V) (xs:`C) (v:`v) (us:`ab) (Q:VK),`B->`iC->`d8->`aqE ->
  `aqF
theorem Vals.one:∀{x:V} {us:`ab},`apg->`aph:=by
 intro x us h
 cases h with
 | cons r t=>cases t;exact`ad6
theorem Vals.two:∀{x y:V} {us:`ab},`bK `vF us->∃u v,us=[u,v]/\`gP/\`dV y v:=by
 intro x y us h
 cases h with
 | cons r t=>cases t with
  | cons q t=>cases t;exact⟨_,_,rfl,r,q⟩
theorem Vals.zero:∀{us:`ab},`bK [] us->us=[]
 | _,`ae=>rfl
theorem Vals.dropLast{xs:`C}(h:`d8):`bK `Hq us.dropLast:=by
 induction h with
 | nil=>exact `ae
 | cons r t ih =>
  cases t with
  | nil=>exact `ae
  | cons q t'=>exact `Ga
theorem Vals.reverse{xs:`C}(h:`d8):`bK `Hr us.reverse:=by
 induction h with
 | nil=>exact `ae
 | cons r t ih=>rw[`yh,`yh];exact Vals.append ih (`au r `ae)
theorem dw0(l:`cD):l.eraseIdx (`b8 - 1)=l.dropLast:=by
 induction l with
 | nil=>rfl
 | cons a r ih =>
  cases r with
  | nil=>rfl
  | cons b r =>
   have e:`ari - 1=(`arj - 1)+1:=by
    have h1:`ari=`am+2:=rfl;have h2:`arj=`am+1:=rfl;omega
   rw[e,List.eraseIdx_cons_succ,ih]
   all_goals rfl
section
variable{σ:St}{s:`q}{l b:`f}{xs ys zs:`C}
theorem Inv.lset{its its':`ab}{n:Nat}{f:`aZ->`aZ}{t':Nat}(I:`B)(hH:`yi)
  (e:`ark) (hf:f `cd=`afm) (hv:`aqV) (hz:`Hn) :
  Inv X `j σ (upd H l `p2) { s with heap:=`lB l (`fB f),toks:=t' }:=by
 have q:=PySem.IsL.update e f;rw[hf] at q;refine `VM (x:=l) (e:=l) (by rw[hH];exact `ku) `i8 (λb' u hb hu=>(d3 `W (`fB f) (B9 hb)).trans hu) ⟨_,q⟩ ?_;exact⟨hz,its',_,hv,q⟩
theorem Inv.lnew{t':Nat}(I:`B)(hv:`VQ)(hz:`Hn) :
  Inv X `j σ (upd H `O `p2) { s with heap:=`fs { cls:=`dv,data:=`be `cd },toks:=t' } :=
 `ge `qE `aV ⟨hz,its,0,hv,`cW⟩
theorem Inv.fresh(I:`B):`yj:=`f6
theorem Inv.lstM(I:`B)(hH:`yi):`d9/\∃(its:`ab) (n:Nat),`kh/\`as=`nj/\`ark:=by
 obtain⟨z,its,n,r,e⟩:=`bt l _ hH;exact⟨z,its,n,r,`am,e⟩
theorem X30(h:`sq):`VT n=`r:=by
 unfold Builtin.List.listTooLong;exact `Hm
universe zz
noncomputable def Vh0:`ks:=λx vs H Q=>∃l xs y,`Hs/\vs=[y]/\`yi/\`as<`R/\Q `A (upd H l (`s (xs++[y])))
theorem k00:MtM X `arl Vh0:=by
 intro pins s σ H x vs v us Q I rx rv h;obtain⟨l,xs,y,rfl,rfl,hH,hz,q⟩:=h;cases rx;obtain⟨u,rfl,ru⟩:=rv.one;obtain⟨z,its,n,r,hl,e⟩:=`VU;refine t0 F.slot_list_append `VV F.entry_list_append (F.args_list_append_2 _ _) (PySem.list_append l `cd n u `VW) `arm;refine⟨`A,_,I.lset (its':=its++[u]) hH e `Q (`G4 (`au ru `ae)) ?_,rfl,q⟩;rw[`ad,`jF];omega
noncomputable def Ni0:`ks:=λx vs H Q=>∃l xs y,`Hs/\`rQ/\`yi/\xs[`as - 1]?=`bA/\Q y (upd H l (`s `Hq))
theorem Sy0:MtM X "list.pop" Ni0:=by
 intro pins s σ H x vs v us Q I rx rv h;obtain⟨l,xs,y,rfl,rfl,hH,hy,q⟩:=h;cases rx;have M:=rv.zero;subst M;obtain⟨z,its,n,r,hl,e⟩:=`VU;obtain⟨u,hu,ru⟩:=`rU hy;have J:`cd[`je - 1]?=`aU:=by
  show `cd[`nj - 1]?=`aU;rw[← `e7,← hl];exact hu
 refine t0 F.slot_list_pop `VV F.entry_list_pop (F.args_list_pop_1 _) (MeetsSeq.list_pop_last l `cd n u J `VW) `arm;refine⟨y,_,I.lset (its':=its.dropLast) hH e ?_ r.dropLast ?_,ru,q⟩
 ·show its.toArray.eraseIdxIfInBounds (`je - 1)=its.dropLast.toArray
  rw[`bF,List.eraseIdxIfInBounds_toArray,dw0]
 ·rw[List.length_dropLast]
  omega
universe L2
namespace Att
open PySem.W PySem.Calls PyProof.Rows
theorem nv0{P:`Oo}{h:`H}:∀(ns:`bk) (vs:`ab),WellAll P h vs (`jg WData.int)->`yk:=by
 intro ns
 induction ns with
 | nil =>
  intro vs w;rw[`fy] at w;cases w;exact `ae
 | cons n ns ih =>
  intro vs w;rw[`al] at w;cases w with
  | cons a b =>
   cases a;exact `au _ _ (ih _ b)
theorem ak0{l:`VX}(hn:`Ht){P:`Oo}{h:`H}{args:`arn}{vals:`ab}
  (hpre:l.row.toRowW.claim.pre `ho=`b) (hwl:WellAll P h vals `ho) :
  ∃a vs ns,vals=[`i6]/\`ho=[WData.list (`jg WData.int)]/\`gF=`afr/\`yk/\`yl:=by
 have M:WShape.hasAll [] `ho [.list `e]=`b:=(`aro).1;have hc:l.pre.holds [] { args:=`ho }=`b:=(`aro).2;obtain⟨d,r,rfl,h1,h2⟩:=hasAllW_cons M;obtain rfl:=hasAllW_nil h2;obtain⟨xs,rfl,h3⟩:=hasW_list h1;obtain⟨ns,rfl⟩:=items_int h3;have J:`yl:=by
  unfold OpenLaw.pre at hc;have h4:(WTm.not (.lt (.lit (`lN)) (.len (.arg 0)))).holds [] { args:=[.list (`jg `e)] }=`b:=by
   have h4:=(holds_andW hc).1;rw[hn] at h4;exact h4
  have h5:=condW_of h4 (w_not (w_lt w_lit (w_len_list (w_arg rfl))));rw[`Y] at h5;refine Cg0 λq=>?_
  have q':`cM<((`p3:Nat):Int):=`h
  first
   | (rw[`bS q'] at h5;exact `L h5 `l)
   | (simp at h5;omega)
 cases hwl with
 | cons w1 w2 =>
  cases w2;cases w1 with
  | list ho hall=>exact⟨_,_,ns,rfl,rfl,ho,nv0 ns _ hall,J⟩
theorem ae0(l:`VX)(args:`arn):l.row.toRowW.claim.post `ho `uJ `ho=`b :=
 postW_of (r:=`Op) (X:=`arp)
  (show `arq [] `uJ `dZ=`b by first|rfl|decide|simp[`arq,WShape.arms,WShape.armsAll])
  (show (WTm.eq .res (.lit `uJ)).value [] { args:=`ho,res:=`a `uJ,after:=`ho }=`a (`dZ `arp) from w_eq_bool (w_res rfl) w_lit) rfl
theorem gw0{l:`VX}{n:Nat}{q:`_}{loose:`t}{XP:`F3}{YP:`F4}{d:DefRec}
  (hn:`Ht) (hdf:`VY)
  (call:∀(w:`E) (s₀ s₁:`q) (mg mb:`bR) (fa:`f) (o:Obj) (pm cd doc:`v) (a:`f) (vs:`ab) (ns:`bk),
   Ground q loose [] XP w s₀ mg mb `p4->YP w `p4 ->
   `Bz fa=`aj->`kO=`gV (docDef `Ok d.params d.body d.scope pm cd doc)->s₁.heap.CodeRec cd `Ok->`VZ ->
   `arr->`yk->`yl->`ars ->
   `gU (`t6 `ar w) `uK (`uM `uI `BB) `afs `d_) :
  WalkO q loose XP YP `Op d [] `afu:=by
 intro w s₀ s₁ mg mb G Y fa o pm cd doc dV kV ho hd a0 hD a1 hg a3 vals as O a4 a5 a2 a6;obtain rfl:dV=`aF:=Dflts.none hD hdf;obtain rfl:kV=`aF:=Dflts.noKw hD;obtain⟨a,vs,ns,rfl,rfl,M,J,Z⟩:=ak0 hn O a2;refine enter_call (`Vs (`de w s₀ `d_ mg mb fa o pm cd doc a vs ns G Y ho (fd_plain hd) a0 a1 M J Z hg) `apz);obtain⟨rfl,h2,h3,h4⟩:=hq;exact⟨`m ⟨`Bx,`Bx,[],rfl,`lS,`Bx,ae0 l _,λ_=>⟨`Hu,λ_ hm=>(nomatch hm)⟩⟩,h2,h3,h4⟩
universe Att
namespace L2
open Spec PyProof.Rows
theorem ly0:∀{vs:`ab} {ns:`bk},`yk->`bK `uL vs
 | _,_,`ae=>`ae
 | _,_,`au n t h=>`au ⟨t,rfl⟩ (ly0 h)
noncomputable def Only(H:Hp):Prop:=∀b,`cY∨∃o xs,H b=`Hv
theorem Xv0{P:`_}{w:`E}{K:`M}{mg mb:`bR}{CX:CXT}{k:Nat}{fa a:`f}{fd:`eC}{x:Str}{sp:Sp}{s₁:`q}{vs:`ab}{ns:`bk}
  (KX:`mZ `p4) (hns:`V_ `b0 mg) (hb:`V_ `Ul mb) (hbb:`amW) (hlim:s₁.heap.NoLimit) (hg:`ars)
  (ha:`arr) (hi:`yk) (hl:`p3<=`R) (hr:`V0)
  (F:∀base:`H,`Uk->`xR->`ag P w K mg `n CX k fa fd [x] sp) (hbind:`V1)
  (hsp:∀H:Hp,Only H->`V2->sp `jf H `Hw `kq)
  (hCX:∀H e s',CX [] H `d_ (`kq) e s'->`bM) :
  `art:=by
 have rv:=ly0 hi;have a1:=hi.length;have O:∀H:Hp,Only H->`V2->HOk P w H `p4->(∀b,H b≠`c->b=a)->(H a≠`c->`f2 a=`c) ->
   `art:=by
  intro H hO hS hok hA hK;have J:∀{b:`f} {o:Obj},`Bz b=`aj->`cY->(`ym).get? b=`aj:=λe n=>Y40 e n
  have a2:∀{b:`f} {o:Obj} {es:`yn} {ep:Nat},`Bz b=`aj->`xN->`cY:=λ{b o es ep} e d=>by
   cases q:H b with
   | none=>rfl
   | some u =>
    have e':b=a:=`aru;subst e';rw[ha] at e;cases e;have d':Data.seq `gS _=Data.dict es ep:=d;cases d'
  have M:∀{b:`f} {m:`bR},`V_ b m->(`ym).Ns b m:=λ{b m} ⟨o,es,ep,e,d,r⟩=>⟨o,es,ep,J e (a2 e d),d,r⟩
  have Z:`mZ (`ym):=λb o e=>J (KX b o e) (by
   cases q:H b with
   | none=>rfl
   | some u =>
    have e':b=a:=`aru;subst e';rw[hK (`On)] at e;cases e)
  have hM:Mod K mg (`ym):=⟨Z,M hns,⟨mb,M hb,hbb⟩,let ⟨mc,h1,h2⟩:=hlim;⟨mc,M h1,h2⟩⟩;have e0:Env0 P w K mg (`ym) `uK [] `d_ H:=⟨rfl,hM,λb o e=>Vf0 e,k7 (b60 _ _),`ku,λb hb=>`L (show `ae? from hb) `Q,hok,.of_eq hg⟩;refine `Vs ((F _ Z (M hns)).run `uK [] `d_ H `BB `jf `jf _ _ hr e0 (hbind `d_ `bJ) (`au rfl `ae) (hsp H hO hS)) λr s' h=>?_
  cases r with
  | error e=>exact(hCX H e s' h).elim
  | ok fl =>
   cases fl with
   | next=>exact `jb h
   | brk=>exact `jb h
   | cont=>exact `jb h
   | ret u =>
    obtain⟨v,H',os,bare,un,a0,r',q⟩:=h;have q':v=`gT:=q;subst q';obtain rfl:u=`Hx:=r';refine⟨rfl,OldK.of_keep `arv,os,bare⟩;cases q:H b with
    | none=>exact un.keep b o e q (by intro z;exact `apP) `Q
    | some u =>
     rcases hO b with z|⟨ob,xs,z⟩
     ·rw[q] at z;cases z
     ·have z2:=un.frzs b ob _ z
      obtain⟨e1,_⟩:=hok b _ z;obtain⟨e2,_⟩:=a0 b _ z2;rw[e] at e1;cases e1;exact e2
 cases hk:`f2 a with
 | some o =>
  have e:=KX a o hk;rw[ha] at e;cases e;refine O (`G9) (λ_=>`bL) (`i ⟨_,`gS,_,hk,rfl,rfl,rfl,by rw[`bF,a1];exact hl,`an6⟩) (λb u z=>by have z':(`c:`rY)=`aU:=z;cases z') (λb z=>`arw) λz=>`arw
 | none =>
  refine O (λb=>if b=a then `a (`gI `Oj (`s `uL)) else `c) (λb=>?_) (`m (`i ⟨`Oj,`aY⟩)) (λb u z=>?_) (`V3) λ_=>hk
  ·by_cases hb:b=a
   ·exact `i ⟨_,_,`J hb⟩
   ·exact `m (`V hb)
  ·by_cases hb:b=a
   ·have z':=(`J hb).symm.trans z
    cases z';subst hb;exact⟨ha,by rw[`Y];exact hl,vs,_,rv,ha⟩
   ·have z':=(`V hb).symm.trans z
    cases z'
  ·by_cases hb:b=a
   ·exact hb
   ·exact `L (`V hb) z
theorem Ui0{l:`V4}{n k:Nat}{q:`_}{loose:`t}{XP:`F3}{YP:`F4}{d:DefRec}{K:`arx}{CX:`E->CXT}{sp:`E->Sp}{x:Str}
  (hn:`Ht) (hn2:`sq) (hdf:`VY) (hr:`V0)
  (hY:`ary)
  (F:∀(w:`E) (mg:`bR) (fa:`f) (h:`H),`uN h->`Hy->`VZ ->
   ∃fd:`eC,(`V1) /\
    ∀base:`H,`uN `n->`xR->`ag `ar w `p5 mg `n (CX w) k fa fd [x] (sp w))
  (hsp:∀(w:`E) (H:Hp) (a:`f) (ns:`bk),`yl->Only H->`arz->sp w `jf H `Hw `kq)
  (hCX:∀(w:`E) (H:Hp) (s:`q) (e:`v) (s':`q),CX w [] H s (`kq) e s'->`bM) :
  `arA:=by
 refine Att.gw0 hn hdf λw s₀ s₁ mg mb fa o pm cd doc a vs ns G Y ho hd a0 Z O M J hg=>?_
 have KX:=hY w _ Y;obtain⟨fd,hb,hF⟩:=F w mg fa _ KX G.T.g Z;exact Xv0 KX G.T.g G.T.b G.T.builtins G.T.nolimit hg O M (C4 J hn2) hr hF hb (λH hO hS=>hsp w H a ns J hO hS) λH e s'=>hCX w H `d_ e s'
noncomputable def U8(s:`fX):Arguments:=match s with
 | `V5 _ a _ _ _ _ _ _ _ _=>a
 | _=>{ posonlyargs:=[],args:=[],vararg:=`c,kwonlyargs:=[],kw_defaults:=[],kwarg:=`c,defaults:=[] }
noncomputable def W0(s:`fX):`iv:=match s with
 | `V5 _ _ b _ _ _ _ _ _ _=>b
 | _=>[]
noncomputable def o5(s:`fX):`dK:=match s with
 | `V5 _ _ _ _ _ _ sc _ _ _=>sc
 | _=>{ kind:=`k5,names:=[],isGenerator:=`r,isCoroutine:=`r }
abbrev CX0:CXT:=λ_ _ _ _ _ _=>`bM
abbrev E0:XK:=`kq
theorem kx0:jy0 CX0 X E0:=λ_ _ _ _ _ _ _ h=>`cE
structure Fun(K:`M)(x qual:Str)(st:`fX)(f:`f)(fd:`eC):Prop where
 ex:∃(oc:`v) (od:`da) (kV doc pm:`v) (an:`da) (cdv ct:`v) (osl:`kf),
  fd=`Hz/\`arB
 kp:`yo
section
variable{P:`_}{w:`E}
theorem Fun.ok{f:`f}{ps:`t}{k:Nat}(F:`arC)(S:`sr)(len:`G1)
  (hbody:∀(cdv:`v) (A:`T) (outer:`fd) (s:`q) (H:Hp) (vs:`C) (Q:VK) (E:XK),`arD->`uu ->
   `arE):`arF:=by
 obtain⟨oc,od,kV,doc,pm,an,cdv,ct,osl,rfl,lk,J⟩:=F.ex;refine `arG
 obtain⟨t,h,q⟩:=`arH;exact`arI
theorem Fun.binds{f:`f}{ps:`t}(F:`arC)
  (h:∀(kV doc pm:`v) (an:`da) (cdv ct:`v) (us:`ab),`cz=`P->`oD (`Hz) `G3=`ai `x7):`O0:=by
 obtain⟨oc,od,kV,doc,pm,an,cdv,ct,osl,rfl,lk,J⟩:=F.ex;exact .all (h kV doc pm an cdv ct)
theorem bz0{f:`f}{kV:`v}(l:`uP=`a ⟨oc,od,`gV (`Hz),osl⟩)
  (c:`BE) (k:`yo):Fun K x `dc st f (`Hz):=`arJ
universe zz
theorem ye0{A:`T}{k:Nat}(hr:`x6):`ss:=d4 (B30 (`ah:1<=64) _) `md
structure Same(H H':Hp):Prop where
 old:`arK
 nf:∀b o xs,`hG=`Hv->H b=`Hv
instance{H H':Hp}:`eF (`ch) (λ_=>`arK):=⟨Same.old⟩
theorem Same.refl(H:Hp):`eV H H:=⟨λ_ _ h=>h,λ_ _ _ h=>h⟩
theorem Same.trans{H1 H2:Hp}(a:`eV H H1)(b:`V6):`eV H H2:=⟨λc o h=>b c o (a c o h),λc o xs h=>a.nf c o xs (b.nf c o xs h)⟩
theorem Same.free(e:`ch){l:`f}(h:H' l=`arL):H l=`arL:=by
 cases q:H l with
 | none=>rfl
 | some o =>
  rw[e l o q] at h;cases h
noncomputable def X4(X:Cx)(scope:`dK)(cl:`oU)(N':`t)(s:`q)(H:Hp)(ex:`bn):Cx :=
 { X with N:=N',s₀:=s,H₀:=H,env:=compEnvC `c0 cl `O `F,outer:=`hM,ex:=ex,fn:=λ_=>`r,pn:=[],xe:=`BL }
structure CompOk(sc scope:`dK)(N N':`t)(n:Nat)(caps:`k):Prop where
 kind:scope.kind=`k5
 nocell:∀y∈`fu,`arM
 loc:∀y∈`fu,`arN
 free:∀y∈`fu,`arO
 nd:N'.Nodup
 len:`arP
 cap:∀k∈`b? `p6,`arQ
noncomputable def K5(n:Nat)(caps:`k)(σ:St):St:=`et n `c++`arR
theorem ad0(n:Nat)(caps:`k)(σ:St):`arS=n+`p6:=by simp[K5]
theorem u80{env:Env}:∀(names:`arT),(∀x∈names,`arU)->∀acc:`oU,
  ∃cl:`oU,(`rW names acc (λ(x:`afA) (cs:`oU)=>if (x.2==`hJ)=`b then do let a ← cellOf env x.1;`ai (`np ((x.1,a)::cs)) else `ai (`np cs)):Sem (`oU))=`ai cl /\
   (∀y c,`V7->`BG y=`fp∨`arV)/\(∀x∈names,`V8)/\(∀y c,`arV->∃c',`uQ y=`a c')
 | [],_,acc=>⟨acc,rfl,λ_ _ h=>`HA,(λ_ h=>nomatch h),λ_ c h=>⟨c,h⟩⟩
 | `V9,h,acc=>by
  cases hk:(`Ou) with
  | true =>
   have hk':k=`hJ:=by simpa using hk
   obtain⟨c,hc⟩:=h `BH A5 hk';obtain⟨cl,e,h1,h2,h3⟩:=u80 r (`RM) ((n,c)::acc);refine⟨cl,?_,`arW,`arX,`arW⟩
   ·rw[`mt]
    simp only[hk,`fO,cellOf,hc,`HB];exact e
   ·rcases h1 y d hy with z|z
    ·exact `jr
    ·rw[`mu] at z
     cases q:(y==n) with
     | true =>
      rw[q] at z;cases z;have:y=n:=`GU
      subst this;exact `m hc
     | false =>
      rw[q] at z;exact `i z
   ·rcases `st with rfl|hx
    ·exact h3 n c (by simp[`mu])
    ·exact `arY
   ·by_cases q:y=n
    ·subst q
     exact h3 y c (by simp[`mu])
    ·refine h3 y d ?_
     have:(y==n)=`r:=`GU
     rw[`mu,`u];exact hy
  | false =>
   obtain⟨cl,e,h1,h2,h3⟩:=u80 r (`RM) acc;refine⟨cl,?_,h1,`arX,h3⟩
   ·rw[`mt]
    simp only[hk,`eD,`cB,`HB];exact e
   ·rcases `st with rfl|hx
    ·have:k=`hJ:=hf
     rw[`u] at hk;exact `L hk `l
    ·exact `arY
theorem ud0{env:Env}(h:∀x∈`fu,`arU) :
  ∃cl:`oU,`arZ `c0 env=`ai cl/\(∀y c,`V7->`BG y=`fp)/\∀x∈`fu,`V8:=by
 obtain⟨cl,e,h1,h2,_⟩:=u80 `fu h [];refine⟨cl,?_,λy c hy=>(h1 y c hy).elim id `du,h2⟩;simp only[`arZ];rw[← bind_pure (`rW _ _ _)] at e
 first
  | exact e
  | (refine Eq.trans ?_ e;rfl)
theorem wo0{env:Env}:∀(names:`arT) (x:Str),
  (names.map `V').lookup x =
   (names.lookup x).map λk=>`V!
 | [],_=>rfl
 | `V9,x=>by
  have ih:=@wo0 env r x;have l1:`ar_ x ((`V9).map `V') =
    `ar_ x ((if `ar0 then (n,`uR) else `BH)::`ha `V'):=rfl
  rw[l1,`mu (as:=r)]
  by_cases hc:`ar0
  ·rw[`J hc,`mu]
   cases hx:x==n with
   | true =>
    have e:x=n:=`ar1
    subst e;show `a `uR=`a (`V!);rw[`J hc]
   | false=>exact ih
  ·rw[`V hc,`mu]
   cases hx:x==n with
   | true =>
    have e:x=n:=`ar1
    subst e;show `eG=`a (`V!);rw[`V hc]
   | false=>exact ih
section
variable{w:`E}{A:`T}{s:`q}
theorem gg0{elt target iter:`G}{ifs:`ci}{scope:`dK}{pos:Pos}{it acc:`v}{env:Env}(I:`V?)
  (turn:∀n s,I n s->`g `ao A (`Ba it) (λr s₁=>match r with
   | `c=>R `ar2 `d_
   | `a3=>`g `ao A (`U5 `BM it v) (λ_ s₁'=>`g `ao A (`gM `BM env v) (λ_ s₂ =>
     `g `ao A (`rW ifs `b λc r=>if r=`b then do let ok ← `A3 c env (`cL c env);`ar3 else `ar4) (λok s₃ =>
      if ok=`b then `g `ao A (`cL elt env) (λx s₄ =>
       `g `ao A (`de (`dU `arl) [acc,x]) (λ_ s₅=>∃m,m<n/\I m s₅) `mv s₄) `mv s₃
      else ∃m,m<n/\I m s₃) `mv s₂) `mv s₁') `mv `d_) `mv s)
  (n:Nat) (h:I n s) :
  `gU `ao A (.compLoop `ar5 0 it acc env) R s:=by
 refine codeAny_loop rfl I (λn s hI=>?_) n h;show `g _ A ((compTurn `ar5 0 it acc env).onRaise (λx=>do noteFrame x env;theTreesLotGoes x)) _ _ s;refine wpAny_noted ?_;rw[compTurn_list];refine A0 (r0 (A0 (E2 (turn n s hI) (λr s₁ h₁=>?_) `su)));cases r with
 | none=>exact A1 `eX
 | some v =>
  refine A0 (E2 `eX (λ_ s₁' J=>?_) `su);refine A0 (E2 J (λ_ s₂ h₂=>A0 (E2 `mw (λok s₃ h₃=>?_) `su)) `su);cases ok with
  | false=>exact A1 ⟨rfl,h₃⟩
  | true =>
   exact A0 (A0 (E2 h₃ (λx s₄ h₄=>A0 (E2 h₄ (λ_ s₅ h₅=>A1 (A1 ⟨rfl,h₅⟩)) `su)) `su))
universe zz
noncomputable def PF(X:Cx)(ifs:`ci)(t:TT):Prop :=
 ∀(pins:`ay) (s:`q) (σ:St) (H:Hp) (Q:`xW),`B->`lg ->
  `g `ak X.A (`rW ifs `b λc r=>if r=`b then do let ok ← `A3 c `F (`cL c `F);`ar3 else `ar4) `UK `aE s
theorem Rt0:PF X [] λ_ H Q=>Q `b H:=λ_ _ _ H _ I h=>wpAny_tests_nil ⟨H,I,h⟩
theorem S50{t:TT}(h:PT X c t):PF X [c] t:=λpins s σ H Q I q=>wpAny_tests_one (h `j s σ H Q I q)
noncomputable def Wk(σ σ':St):Prop:=`UB/\∀(j:Nat) (v:V),`ar6->σ'[j]?=`pG
noncomputable def c70(n:Nat)(caps:`k)(wi:TI)(g:TG)(tt:TT)(te:TE):TE:=fun σ H Q=>wi σ H λJ H1=>∀D,H1 D=`c ->
 ∃W:`ar7,(∃m,W 0 m [] (upd H1 D `wy))/\∀i m ys H2,`ar8 ->
  `ar9∨(J.go i H2/\∀x H3,`ar'->g x `fx H3 fun σ4 H4=>`ar!/\tt σ4 H4 λb H5 =>
   `ar?)
section
variable{tg:`G}{wi:TI}{g:TG}{tt:TT}
noncomputable def Of0(X:Cx)(pins:`ay)(H:Hp)(C:`f):Prop :=
 H C=`c/\C≠`eP/\`m0<=C/\(∀x c,`hK->c≠C)/\∀p∈`AX,p.1≠C
theorem lg0{pins:`ay}{σ:St}{H2:Hp}{s2:`q}{it:`f}{fp:`bn}{tn:`U2}{J:It}{cl:`oU}{Q:VK}{RR:`v->`f->`TF}{E:`af}
  (hc:`b5) (hsc:`kv) (ok:`sv)
  (hcl1:∀y c,`V7->`amY) (hcl2:∀x∈`fu,`V8)
  (hg:∀s H ex,`afK) (ht:∀s H ex,`afL) (he:∀s H ex,`afM)
  (I2:`aoQ) (T:`aok) (st2:`aol) (f2:∀b∈fp,v50 X `j H2 b)
  (q:∀D,H2 D=`c->∃W:`ar7,(∃m,W 0 m [] (upd H2 D `wy))/\∀i m ys H2,`ar8 ->
   `ar9∨(J.go i H2/\∀x H3,`ar'->g x `fx H3 fun σ4 H4=>`ar!/\tt σ4 H4 λb H5 =>
    `ar?))
  (hend:∀(D C:`f) (H':Hp) (s':`q) (m:`bR),`km->Of0 X `j H' C->s'.heap.Ns C m->Q `nq H'->RR `nq C `ar2 s') :
  `g `ak X.A (`Wa) (λacc s₃=>`g `ak X.A (newFunctionEnv `c0 `Un cl [] X.env.qual `c `aF (`a `F)) (λcenv s₄ =>
   `gU `ak X.A (.compStart `lb 0 `hS acc { cenv with scope:=`afH }) (RR acc cenv.locals) s₄) E s₃) E s2:=by
 refine L5 (wpAny_newFunctionEnv ok.nocell (by intro y hy;simp at hy) (λh₁ a2 a0=>?_) `um);dsimp only at a2 a0 ⊢;obtain⟨D,hD⟩:∃D,D=`yp:=`aM;have I3:Inv X `j σ (upd H2 `yp `wy) `asa:=I2.lnew (its:=[]) (t':=`Ow) `ae `yq;have c8:H2 `yp=`c:=I2.fresh;obtain⟨W,⟨m0,w0⟩,b1⟩:=q `yp c8;generalize hs3:(`asa:`q)=s3 at *;have b3:`afE=s3.heap:=`HC
 have h3:`Ow=s3.toks:=`HC
 rw[b3] at a2 a0 ⊢;generalize hH3:upd H2 `yp (HO.lst [])=H3 at *;rw[← hD] at b1 hH3 c8 ⊢;have old:∀b o,`asb->`CZ:=λb o e=>`Wb b o (B1 `hO) `HD
 have b4:∀b o,s2.heap.get? b=`aj->`asb:=λb o e=>by rw[← b3];exact `pM
 have d2:∀b∈fp,b<`p_:=λb hb=>by
  obtain⟨o,e,_⟩:=`asc;exact A7 `asd
 have e9:∀b∈fp,b≠D:=λb hb z=>by
  obtain⟨o,e,_⟩:=`asc;rw[z,hD] at e;exact `ase
 obtain⟨X',M⟩:∃X',X'=`asf:=`aM;have f7:X'.Ok:=by
  subst M;refine⟨I3.ok.mod,`um,I3.ok.glob,I3.ok.blt,`eN,λx y c h1 h2=>I3.ok.inj x y c (hcl1 x c h1) (hcl1 y c h2),`dj,λx c h _=>`L h (by simp[X4]),I3.ok.hd,I3.ok.frames,`bL,
   λb hb=>⟨`asg,`ash⟩,λb o e=>I3.bs b o e,C4 I3.ok.bsz I3.sz,λb o e hb=>?_,λb hb hf=>?_,I3.stack,I3.stkFree⟩
  ·have a6:(`uU=`hI)∨(`uU=`hQ):=hx
   have q2:=wo0 (env:=`F) `fu x;have q3:`asi:=q2
   cases e:`pV x with
   | none =>
    rw[q3,e] at a6;rcases a6 with z|z<;>cases z
   | some k =>
    have hk:k=`hJ:=by
     rw[q3,e] at a6;have nc:=ok.nocell (x,k) (N1 e);cases k<;>first
      | rfl
      | exact `L rfl nc
      | (rcases a6 with z|z<;>simp at z)
    subst hk;exact hcl2 `Wc (N1 e) rfl
  ·rcases `asj with z|z
   ·exact I3.ok.noex b o e z
   ·exact `L (B8 (A7 (I3.ok.bs b o e).1) z) `jh
  ·rcases `ask with z|z
   ·exact`Wd z
   ·exact(`ji).2.2.1 z
 have I4:Inv X' [] `fx H3 `asl:=by
  refine⟨f7,?_,?_,?_,?_,`Gv,?_,`Gv,`r2,(by subst M;exact I3.hok.kept old),?_⟩
  ·subst M;rfl
  ·exact I3.bare
  ·subst M;exact `Go old
  ·subst M
   refine⟨_,a2,`am8⟩;have hi:n<=i:=by
    by_cases hi:i<n
    ·unfold K5 at e2
     rw[`G!,`x!,`J hi] at e2;cases e2
    ·omega
   obtain⟨k,rfl⟩:∃k,i=n+k:=⟨i - n,`h⟩;have hk:k<`p6:=by
    have:=(`cK e1).1;have e5:(`asf).N.length=n+`p6:=ok.len;omega
   obtain⟨c1,c2⟩:=ok.cap k (`l3 hk);have c7:`Or=`aQ:=e1;unfold K5 at e2;rw[`pW `Q,`apT,`yr,`cj] at e2;obtain⟨j,hj⟩:∃j,`dA[k]?=`so:=⟨`dA[k],by simp[hk]⟩;rw[hj] at e2 c1;have f5:X.N[j]?=`aQ:=by rw[← c7,c1];rfl
   have a5:`Os=`a3:=B2 e2;have e7:`ar6:=by
    cases q:`p7 with
    | none=>rw[q] at a5;cases a5
    | some o=>rw[q] at a5;rw[show o=`a3 from a5]
   rw[c7] at c2;have O:`pV x=`hQ:=by simpa using c2
   have b5:=ok.free `Wc (N1 O) rfl;obtain⟨m,hn,hl⟩:=I3.loc;obtain⟨u,ru,l⟩:=hl j x v f5 e7 (by
    rcases b5 with z|z
    ·exact `i (`m `asm)
    ·exact `i (`i `asm))
   refine⟨u,ru,`i `HE⟩
   ·have q3:`asi:=wo0 `fu x
    rw[O] at q3;show `uU=_∨`uU=_;rw[q3]
    by_cases hcc:(`Ot==`Ot&&`afI&&`afJ)=`b
    ·left;simp only[`eH,`J hcc]
    ·right;simp only[`eH,`V hcc]
   ·obtain⟨c',c0⟩:=hcl2 `Wc (N1 O) rfl
    rcases l with⟨g5,_⟩|⟨_,c,f4,b6⟩
    ·have a7:`aex:=g5
     rw[hsc] at a7;rcases b5 with z|z<;>(rw[a7] at z;cases z)
    ·have:=hcl1 x c' c0
     rw[f4] at this;cases `u;obtain⟨o,ho,hd⟩:=b6;exact⟨_,c0,o,`asn,hd⟩
  ·have e':`uQ x=`fp:=`aso
   obtain⟨v,o,ho,hd⟩:=I3.cell x c (hcl1 x c e');exact⟨v,o,`asn,hd⟩
  ·subst M;exact I3.hok.fresh `aV
  ·have e':`uQ x=`fp:=`aso
   exact I3.freeC x c (hcl1 x c e')
  ·subst M;exact `asp
  ·subst M
   show _=`afx;rw[ad0,ok.len]
 have b2:X'.calm=`b:=by subst M;exact hc
 have Z:∀{H':Hp},`se->∀b∈fp,v50 X' [] H' b:=λ{H'} hn b hb=>by
  subst M;refine⟨hn b hb,`asg,λhf=>?_,`w1,`ash,λp hp=>`asp⟩;rcases `ask with z|z
  ·exact`Wd z
  ·exact(`ji).2.2.1 z
 have f0:∀b∈fp,H3 b=`c:=λb hb=>by rw[← hH3,b7 (e9 b hb)];exact(`ji).1
 have c6:tn 0 `eX:=T.keep _ _ _ st2 λb hb o e=>old b o `asd
 have loop:∀s4:`q,s4=`asl ->
   `gU `ak X.A (.compLoop `lb 0 `hS `nq X'.env) (RR `nq `p_) s4:=by
  rintro s4 rfl;refine gg0 (λk s'=>∃i ys H',Inv X' [] `fx H' s'/\`aoN/\`se/\W i k ys H') ?_ m0 ⟨0,[],H3,I4,c6,f0,w0⟩;rintro k s5 ⟨i,ys,H5,I5,c5,c3,w5⟩;have eP:X'.prog=`bf:=`ys
  have ew:X'.w=X.w:=`ys
  have eK:X'.K=X.K:=`ys
  have eA:X'.A=X.A:=`ys
  rcases b1 i k ys H5 w5 with⟨stop,qe⟩|⟨go,step⟩
  ·have T':=T.done X' eP ew eK b2 i [] s5 `fx H5 `mv I5 (Z c3) c5 stop
   rw[eA] at T';refine thn T' λr s6 hq38=>?_;obtain⟨hr,I6⟩:=hq38
   subst hr;have g3:Un (`xT) fp H3 H5 s3.heap s6.heap:=by have:=I6.base;subst M;exact `u
   have h0:s6.os=s3.os:=by have:=I6.os;subst M;exact `u
   have e6:HOk `bf X.w H5 s6.heap:=by have:=I6.hok;subst M;exact `u
   have IX:Inv X `j σ H5 s6:=I3.call' h0 g3 e6 I6.bare λb hb=>⟨`asj,`Wd,`afG,(`ji).2.2.2.2.2⟩
   obtain⟨m6,f3,_⟩:=I6.loc;have e0:s6.heap.Ns `p_ m6:=by subst M;exact f3
   refine `jE D `p_ H5 s6 m6 IX ⟨by have:=I6.free;subst M;exact `u,C1 I3.lt,I3.sz,`aoe,`aof⟩ e0 qe
   ·obtain⟨v,qc⟩:=I3.cell x c e
    exact `L (B8 qc.lt `asq) `jh
   ·exact `L (B8 (A7 (I3.pin p hp).1) `asq) `jh
  ·have T':=T.item X' eP ew eK b2 i [] s5 `fx H5 `mv I5 (Z c3) c5 go
   rw[eA] at T';refine thn T' λr s6 hq39=>?_;obtain⟨u,hr,h6⟩:=hq39
   subst hr;refine thn h6 λ_ s7 hq40=>?_;obtain⟨x,H7,I7,r7,y7,a8,g6⟩:=hq40
   have g8:=I7.pinned (Z g6) (`uT _ _ a8);have c4:=hg s3 H3 fp;have d1:=ht s3 H3 fp;have d0:=he s3 H3 fp;rw[← M] at c4 d1 d0;have g1:=c4 _ s7 `fx H7 x u _ g8 r7 (step x H7 y7);rw[eP,ew,eA] at g1;have a3:X'.xe=`BL:=`ys
   rw[a3] at g1;refine thn g1 λ_ s8 hq41=>?_;obtain⟨σ8,H8,I8,a4,q8⟩:=hq41
   have t1:=d1 _ s8 σ8 H8 _ I8 q8;rw[eP,ew,eA,a3] at t1;refine thn t1 λb s9 hq42=>?_;obtain⟨H9,I9,q9⟩:=hq42
   have back:∀{σa:St} {Ha:Hp} {sa:`q} {b0:`C} {ma:Nat},Inv X' ([]++rt0 fp s7.heap) σa Ha sa->σa.length=`arS->(∀(j:Nat) v,`fx[j]?=`pG->σa[j]?=`pG)->W `a4 ma b0 Ha ->
     ∃i ys H',Inv X' [] `fx H' sa/\tn i sa.heap/\`se/\W i ma ys H':=λ{σa Ha sa b0 ma} Ia hl hw wa=>by
    refine⟨i+1,b0,Ha,(Ia.weak hl.symm hw).unpinned,T.keep _ _ _ a8 λb hb o e=>(`asr).1,`fM,wa⟩;obtain⟨o,e,d⟩:=`uT _ _ a8 b hb;exact(`asr).2.1
   cases b with
   | false =>
    rw[`mr];rw[`mr] at q9;obtain⟨m',hm,w9⟩:=q9;exact⟨m',hm,back I9 a4.1 a4.2 w9⟩
   | true =>
    rw[`aY];rw[`aY] at q9;have e1:=d0 _ s9 σ8 H9 _ I9 q9;rw[eP,ew,eA,a3] at e1;refine thn e1 λv g9 hq43=>?_;obtain⟨y,f8,f9,g7,e4,e8,m',hm,g4⟩:=hq43
    have a1:=k00 (X:=X') _ g9 σ8 f8 `nq [y] `nq [v] (λ_ H'=>W `a4 m' (ys++[y]) H') f9 rfl (`au g7 `ae) ⟨D,ys,y,rfl,rfl,e4,e8,g4⟩;rw[eP,ew,eA,a3] at a1;refine thn a1 λ_ h4 hq44=>?_;obtain⟨_,h5,f1,_,f6⟩:=hq44
    exact⟨m',hm,back f1 a4.1 a4.2 f6⟩
 subst M;exact codeAny_compStart_list (loop _ (`HC)) (T.self X.A 0 _ _ _ c6 (loop _ (`HC)))
theorem Un0(hc:`b5)(hsc:`kv)(ok:`sv)(hi:`Ve)
  (hg:`ass) (ht:`ast) (he:`asu)
  (hs:`iD:=by intro _;rfl) :
  PE X `lb (c70 n `dA wi g tt te):=by
 intro pins s σ H Q I h;obtain⟨cl,M,Z,O⟩:=ud0 (env:=`F) (scope:=`c0) λx hx hf=>`UH x.1 (by
  rcases `asv with z|z
  ·exact `asw
  ·exact `asx)
 rw[eval_ListComp];refine Ch0 (use:=`c) rfl hs M `um ok.loc (thn `GW λv s1 h1=>thn h1 λa2 s2 h2=>?_);obtain⟨it,fp,tn,J,H2,rfl,I2,T,a1,f2,q2⟩:=h2;refine lg0 (Q:=Q) (RR:=λa0 C=>compPost `ak X.A `aE `c `fw a0 C) hc hsc ok Z O (hg cl) (ht cl) (he cl) I2 T a1 f2 q2 ?_;intro D C H' s' m IX as hn qe;refine⟨m,hn,λh' sb=>⟨`aa D,H',IX.turned (t':=s'.toks) `aeO as.1 as.2.1 (`i as.2.2.1) `We `asy,rfl,qe⟩⟩
theorem c50{y:Str}{py spos:Pos}(hN:`hl)(hiN:`Wf)(hy:`HF)(hc:`b5)(hsc:`kv)(ok:`sv)(hi:`Ve)
  (hg:`ass) (ht:`ast) (he:`asu)
  (hsw:`Wg:=by rfl)
  (hs:`iD:=by intro _;rfl)
  (hf:`HG:=by first|exact `bL|exact `dz|assumption) :
  PS X `af5 (λD σ H=>c70 n `dA wi g tt te σ H `asz):=by
 intro pins s σ H D I h;obtain⟨cl,M,Z,O⟩:=ud0 (env:=`F) (scope:=`c0) λx hx hf=>`UH x.1 (by
  rcases `asv with z|z
  ·exact `asw
  ·exact `asx)
 rw[exec_Assign_Name_used _ _ _ _ hsw];refine A0 (r0 (`ca));show `g _ X.A (do let _ ← comprehension `lb `c0 `F _ (`Wa) `r (`cL `k4 `F) (`Wh)) _ _ s;refine A0 (E2 (Ch0 (use:=`Wh) (Q:=`asA) rfl hs M `um ok.loc
  (thn `GW λv s1 h1=>thn h1 λa6 s2 h2=>?_)) (λ_ s' hq=>A1 (A1 hq)) `GB)
 obtain⟨it,fp,tn,J,H2,rfl,I2,T,a2,f2,q2⟩:=h2;refine lg0 (Q:=`asz) (RR:=λa0 C=>compPost `ak X.A `aE (`Wh) (`asA) a0 C) hc hsc ok Z O (hg cl) (ht cl) (he cl) I2 T a2 f2 q2 ?_;intro Da C H' s' m IX as hn qe;show `g _ X.A (`gM (`BR) `F (`aa Da)) _ _ _;refine `an5 (lz0 IX hN hiN hy (v:=`aa Da) rfl (λa3 a1 hq45=>?_) hf);obtain⟨a,sb,ha⟩:=hq45;have a4:C≠a:=by
  rcases ha with z|z
  ·rw[z];exact as.2.1
  ·exact B9 (`We y a z)
 refine⟨m,`anm sb a4,λh' a5=>⟨_,H',a1.turned (t':=a3.toks) (λb o hb e=>(a5.2 b hb).trans e) as.1 as.2.1 (`i as.2.2.1) `We `asy,qe⟩⟩
universe zz
universe L2
namespace DL
open Spec PyProof.Rows
inductive D where
 | non|bl (b:`X)|int (i:Int)|str (x:Str)|tup (ds:`p)|lst (ds:`p)|dct (ks:Sum (`Wi) (`Z (`Wi))) (ds:`p)|fn (ks:`Wi) (ds:`p)
 deriving Inhabited
variable{l ds dd:`Oz}
@[simp] noncomputable def unl:D->D
 | `x [_,d]=>d
 | d=>d
@[simp] noncomputable def isL:`fP
 | `HH=>`b
 | _=>`r
inductive Sl where
 | un|sh (d:D)|ow (d:D)
 | ex (c:Str) (n:`bN)
abbrev Ds:=`Z Sl
inductive Res where
 | nx (δ:Ds)|rt (d:D)|bk (δ:Ds)|ct (δ:Ds)|rf (d:D)
variable{g ge gb:`asB}{δ δ':`p'}{G:`asC}{gi gA:`asD}{gt:`asE}
abbrev GE:=`b6
abbrev GB:=`fQ
variable{g0 g1 g2:DL.GE}
abbrev GA:=`d!
abbrev GS:=`fR
@[simp] noncomputable def asB:D->`nr
 | `en=>`h_
 | _=>`c
@[simp] noncomputable def asI:D->`bN
 | `ap=>`ya
 | _=>`c
@[simp] noncomputable def gv(i:Nat):GE:=fun δ=>match `cg with
 | `OG=>`a5
 | _=>`c
@[simp] noncomputable def gc(d:D):GE:=λ_=>`a5
@[simp] noncomputable def o2(ga gb:GE)(f:`bz):GE:=fun δ=>`asF λx=>`asG λy=>f x y
@[simp] noncomputable def ob(g:GE):GB:=fun δ=>`dP asB
@[simp] noncomputable def nt0(g:GB):GB:=fun δ=>`sw (!·)
@[simp] noncomputable def yd0(gt gu:GB):GB:=fun δ=>`HI λt=>if `sx then gu δ else `b7
@[simp] noncomputable def zm0(gt gu:GB):GB:=fun δ=>`HI λt=>if `sx then `fh else gu δ
@[simp] noncomputable def u50(ga gb:GE):GE:=fun δ=>(ob ga δ).bind λt=>if `sx then `ld else `iF
@[simp] noncomputable def ifG(gt:GB)(ga gb:GE):GE:=fun δ=>`HI λt=>if `sx then `jj else `ld
@[simp] noncomputable def v7:GA:=λ_=>`mx
@[simp] noncomputable def z9(g:GE)(gA:GA):GA:=fun δ=>`dP λd=>(`cw).map λds=>`aC
@[simp] noncomputable def Z8(gA:GA):GE:=fun δ=>`kw λds=>if `my then `HJ else `c
@[simp] noncomputable def V6(gA:GA):GE:=fun δ=>`kw λds=>if `my then `mz else `c
@[simp] noncomputable def oA(gA:GA)(f:`K):GE:=fun δ=>`kw f
@[simp] noncomputable def O5(f:`fP)(g:GE):GE:=fun δ=>`sw λd=>.bl (f d)
@[simp] noncomputable def wu0(d:D):`cN:=match d with
 | `ap=>`a (`e (-i))
 | _=>`c
@[simp] noncomputable def unG(f:D->`cN)(g:GE):GE:=fun δ=>`dP f
@[simp] noncomputable def v9(G1 G2:GS):GS:=fun δ=>match `uZ with
 | `dC=>G2 δ'
 | r=>r
@[simp] noncomputable def o4:GS:=fun δ=>`B!
@[simp] noncomputable def d9(g:GE):GS:=fun δ=>`sw .rt
@[simp] noncomputable def gN(i:Nat):`a1:=λd δ=>`a `HK
@[simp] noncomputable def m5(f:`a1)(g:GE):GS:=fun δ=>`dP λd=>(`qa).map .nx
@[simp] noncomputable def ifD(gt:GB)(Ga Gb:GS):GS:=fun δ=>`HI λt=>if `sx then Ga δ else Gb δ
noncomputable def W5(f:`a1)(G:GS):`p->`fR
 | [],δ=>`B!
 | `aC,δ=>match (`qa).bind G with
  | `dC=>`asH
  | `oV=>`asH
  | `oW=>`dC
  | r=>r
@[simp] noncomputable def J1(gi:GA)(f:`a1)(G:GS):GS:=fun δ=>`asI λitems=>`BX
@[simp] noncomputable def n80:D->`ns
 | `dB=>`nw
 | _=>`c
@[simp] noncomputable def Wq0:D->`ns
 | `bO=>`nw
 | _=>`c
@[simp] noncomputable def J8(g:GE):GA:=fun δ=>`dP n80
@[simp] noncomputable def tupI(g:GE):GA:=fun δ=>`dP Wq0
noncomputable def U0(lo hi:Int):`p:=(`b? `pQ).map λk=>`e (lo+(k:Nat))
@[simp] noncomputable def de0(ds:`p):`ns:=match ds with
 | [`eo]=>if `Vb then `a (U0 0 j) else `c
 | _=>`c
@[simp] noncomputable def We0(ds:`p):`ns:=match ds with
 | `aoH=>if (`na<=i/\i<`gO)/\`Vb then `a (U0 i j) else `c
 | _=>`c
@[simp] noncomputable def O1(gA:GA):GA:=fun δ=>`kw de0
@[simp] noncomputable def dj0(gA:GA):GA:=fun δ=>`kw We0
@[simp] noncomputable def noT:GB:=λ_=>`fh
@[simp] noncomputable def ks0:`aK Sl->Sl
 | `OG=>`hZ
 | _=>.un
@[simp] noncomputable def xk0(n:Nat)(caps:`k)(δ:Ds):Ds:=`et n .un++`asJ
noncomputable def V1(f:`a1)(gt:GB)(ge:GE)(δ:Ds):`HL
 | []=>`mx
 | `aC=>match `qa with
  | `c=>`c
  | `BU=>match `yt with
   | `c=>`c
   | `b7=>`asK
   | `fh=>match `BV with
    | `c=>`c
    | `bA=>(`asK).map `HM
@[simp] noncomputable def Y0(n:Nat)(caps:`k)(gi:GA)(f:`a1)(gt:GB)(ge:GE):GE :=
 fun δ=>`asI λitems=>if `HN then `asL `s else `c
@[simp] noncomputable def Z9(N:`t)(ds:`p):Ds:=ds.map .sh++`et (`G8 - `b1) .un
@[simp] noncomputable def isTup:`fP
 | `HH=>`b|_=>`r
@[simp] noncomputable def ii(f:Int->Int->`cN):`bz
 | `ap,`eo=>f i j
 | _,_=>`c
@[simp] noncomputable def Y80:`bz:=ii λi j=>`a (`ae_)
@[simp] noncomputable def V0:`bz:=ii λi j=>if `G_ then `asM else `c
@[simp] noncomputable def Z6:`bz:=ii λi j=>if 0<j then `asN else `c
@[simp] noncomputable def iu0:`bz:=ii λi j=>if `Vj then `a (`ae2) else `c
@[simp] noncomputable def ltD:`bz:=ii λi j=>`a (.bl (`I (i<j)))
@[simp] noncomputable def leD:`bz:=ii λi j=>`a (`ae3)
@[simp] noncomputable def gtD:`bz:=ii λi j=>`a (.bl (`I (j<i)))
@[simp] noncomputable def geD:`bz:=ii λi j=>`a (`ae4)
@[simp] noncomputable def eqS:D->D->`nr
 | `A,`A=>`fh
 | `A,`dM=>`b7|`dM,`A=>`b7|`A,`cq=>`b7|`cq,`A=>`b7|`A,`cx=>`b7|`cx,`A=>`b7
 | `ap,`eo=>`Wj
 | .bl i,.bl j=>`Wj
 | `N i,`N j=>`Wj
 | `dM,`cx=>`b7|`cx,`dM=>`b7|`cq,`cx=>`b7|`cx,`cq=>`b7
 | _,_=>`c
@[simp] noncomputable def eqD(x y:D):`cN:=(eqS x y).map .bl
@[simp] noncomputable def O30:`fP
 | `A=>`b|_=>`r
@[simp] noncomputable def rj0(x y:D):`cN:=match y with
 | `A=>`a (.bl (O30 x))
 | _=>`c
noncomputable def ixN(n:Nat)(i:Int):`vX:=`aqB
noncomputable def atI{α:Type}(xs:`cD)(i:Int):`aK α:=`aqC
@[simp] noncomputable def ixD:`bz
 | `f1,`ap=>`uD
 | `ek,`ap=>`uD
 | `k',`ap=>if `p0 then (`aqH).map λc=>`VJ else `c
 | _,_=>`c
noncomputable def sIx(n d:Nat):`ap4
 | `c=>d
 | `a3=>`Hb
noncomputable def cutD(xs:`p)(lo hi:`bN):`p:=(`px (`Wk)).take (`asO - `Wk)
abbrev GO:=`HO
@[simp] noncomputable def z70:GO:=λ_=>`d?
@[simp] noncomputable def someO(g:GE):GO:=fun δ=>`dP λd=>(asI d).map `a
@[simp] noncomputable def Y6:`K
 | [`k']=>if `p0 then `a (`Of) else `c
 | [`f1]=>`asP
 | [`ek]=>`asP
 | _=>`c
noncomputable def bools:`p->`aK (`oX)
 | []=>`mx
 | `en::ds=>`asQ λr=>b::r
 | _=>`c
@[simp] noncomputable def Ym0:`K
 | `sy=>`asQ λbs=>`HP
 | _=>`c
noncomputable def rh0:`p->`aK (`t)
 | []=>`mx
 | `HQ::ds=>(rh0 ds).map λr=>b::r
 | _=>`c
@[simp] noncomputable def ku0(d:D)(ds:`p):`cN:=match d,ds with
 | `N sep,[`f1]=>(rh0 xs).bind λys=>if `asR then `a `asS else `c
 | _,_=>`c
@[simp] noncomputable def qj0(g:GE)(gA:GA):GE:=fun δ=>`dP λd=>`kw λds=>ku0 d ds
@[simp] noncomputable def Q3:`K
 | `sy=>`HJ
 | [`bO]=>`HJ
 | _=>`c
theorem qb0{f:`a1}{gt:GB}{ge:GE}(p:`fP)(h:D->D):∀{items:`p},(∀d∈`a',∃δ',`Wl/\`yt=`a (p d)/\(p d=`b->`asT)) ->
  `asU=`a ((items.filter p).map h)
 | [],_=>rfl
 | `aC,H=>by
  obtain⟨δ',e1,e2,e3⟩:=H d A5;have ih:=qb0 p h λd hd=>H d (A6 _ hd)
  unfold V1;rw[e1];dsimp only;rw[e2];cases hp:p d with
  | false =>
   dsimp only;rw[`asV (`Wm)];exact ih
  | true =>
   dsimp only;rw[e3 hp,ih,`asW hp];rfl
theorem Q4{f:`a1}{gt:GB}{ge:GE}(h:D->D){items:`p}(H:∀d∈`a',∃δ',`Wl/\`yt=`fh/\`asT):`asU=`a (items.map h):=by
 have:=qb0 (f:=f) (gt:=gt) (ge:=ge) (δ:=δ) (λ_=>`b) h (items:=`a') λd hd=>by
  obtain⟨δ',a,b,c⟩:=H d hd;exact⟨δ',a,b,λ_=>c⟩
 rw[List.filter_eq_self.mpr `Q] at this;exact `u
theorem strs_map(h:α->Str):∀l:`cD,`asX=`a (`c1 h)
 | []=>rfl
 | a::l=>by
  show (`asX).map (λr=>h a::r)=_;rw[strs_map h l];rfl
theorem J3{f:`a1}{G:GS}(P:Nat->Ds->Prop):∀(items:`p) (i:Nat) (δ:Ds),(∀j d δ,`a'[j]?=`a5->P (i+j) δ->∃δ1 δ2,`Wn/\`Wo/\P (i+j+1) δ2)->P i δ ->
  ∃δ',`asY/\P (i+`gW) δ'
 | [],i,δ,_,h=>⟨δ,rfl,h⟩
 | `aC,i,δ,H,h=>by
  obtain⟨δ1,δ2,e1,e2,h2⟩:=H 0 d δ rfl h;obtain⟨δ',e3,h3⟩:=J3 P ds `a4 δ2 (λj d δ hj hp=>by
   have q:i+`hb=i+1+j:=`h
   obtain⟨a,b,c,d',e⟩:=H `hb d δ `yu (by rw[q];exact hp);exact⟨a,b,c,d',by rw[q] at e;exact e⟩) h2
  have q:i+`Wp=i+1+`b1:=by rw[`a0];omega
  refine⟨δ',?_,by rw[q];exact h3⟩;unfold W5;rw[e1];simp only[`w,e2];exact e3
theorem S70{G1 G2:GS}(h:`asZ):`HR=G2 δ':=`Wq
theorem n8{G1 G2:GS}{d:D}(h:`uZ=`vb):`HR=`vb:=`Wq
theorem Z4{g:GE}{d:D}(h:`oY):d9 g δ=`vb:=by unfold d9;rw[h];rfl
theorem j8{g:GE}{d:D}(h:`oY):m5 `OR g δ=`a (.nx `HK):=by unfold m5;rw[h];rfl
theorem T3{g:GB}{Ga Gb:GS}(h:`aB=`fh):`as_=Ga δ:=`as0
theorem Z2{g:GB}{Ga Gb:GS}(h:`aB=`b7):`as_=Gb δ:=`as0
theorem V7{gi:GA}{f:`a1}{gt:GB}{ge:GE}{items out:`p}(h1:`uW=`a `a')(h2:`HN)(h3:`OA=`a out):`as1=`a (`s out):=by
 unfold Y0;rw[h1];show (if `HN then `asL `yv else `c)=_;rw[`Wr,h3];rfl
theorem O7{gi:GA}{f:`a1}{G:GS}{items:`p}{r:`uV}(h1:`uW=`a `a')(h2:`BX=r):J1 gi f G δ=r:=by
 unfold J1;rw[h1];exact h2
theorem cons_of{g:GE}{gA:GA}{d:D}(h1:`oY)(h2:`yw):z9 g gA δ=`a `HS:=by unfold z9;rw[h1,h2];rfl
theorem o9{gA:GA}{f:`K}(h:`yw):oA gA f δ=f ds:=by unfold oA;rw[h];rfl
theorem o8{ga gb:GE}{x y:D}{f:`bz}(h1:`jj=`aQ)(h2:`ld=`bA):`as2=f x y:=by unfold o2;rw[h1,h2];rfl
theorem Vc0{g:GE}{gA:GA}{x:D}(h1:`aB=`aQ)(h2:`yw):qj0 g gA δ=ku0 x ds:=by unfold qj0;rw[h1,h2];rfl
theorem X50{f:`a1}{G:GS}{d:D}{δ1 δ2:Ds}(h1:`Wn)(h2:`Wo):W5 f G `HS δ=W5 f G ds δ2:=by
 conv=>lhs;unfold W5
 rw[h1];simp only[`w,h2]
theorem G5{xs:`cD}{i:Int}(h0:`hY)(h1:`Hj)(d:α):`uD=`a (xs.getD `dd d):=by
 unfold atI ixN;rw[`J h0,`oT];show xs[i.toNat]?=_;have:`dd<`as:=`h
 simp[`cr,`u]
universe DL
variable{l ds dd:`Oz}{g ge gb:`asB}{δ δ':`p'}{G:`asC}{gi gA:`asD}{gt:`asE}{g0 g1 g2:DL.GE}
namespace DL
open Spec PyProof.Rows L2
abbrev BS:=`f->Prop
abbrev St:=L2.St
variable{B B' B₀:DL.BS}
structure NB(o:`rY):Prop where
 ne:o≠`c
 nf:∀ob u,o=`Uc->∃xs,u=`f1
 nt:∀xs,o≠`py
instance{o:`rY}:`eF (NB o) (λ_=>o=`c->`bM):=⟨λh e=>h.ne e⟩
theorem NB.of{o:`rY}{u:HO}(h:o=`aU)(n:∀ob u',u≠`amL)(t:∀xs,u≠`ek):NB o:=by
 subst h;exact⟨`as3,λob u' z=>`L (B2 z) (n ob u'),λxs z=>t xs (B2 z)⟩
theorem NB.keep(q:`Ws)(h:`qc):NB (H' a):=by
 cases e:H a with
 | none=>exact `L e h.ne
 | some o=>rw[q o e,← e];exact h
theorem NB.same(q:`ch)(h:`qc):NB (H' a):=h.keep λo e=>q a o e
noncomputable def SqT'(K:`M)(H:Hp)(B:BS)(a:`f)(xs:`C):Prop:=`nx/\`Gd
noncomputable def SqL'(K:`M)(H:Hp)(B:BS)(a:`f)(xs:`C):Prop:=(`as4)∨`bM
section
variable{xs:`C}
theorem SqT'.to(h:`OB):`kp:=`m (`m h.2)
theorem SqL'.at(h:`BZ):`as4:=`cE id `jb
theorem SqL'.to(h:`BZ):`k2:=`m h.at.2
noncomputable def Gr(H H':Hp)(B B':BS):Prop:=∀b o,¬B b->H b=`aj->¬B' b/\`hG=`aj
theorem SqT'.mono(g:`hr)(h:`OB):SqT' K H' B' a xs:=`as5
theorem SqL'.mono(g:`hr)(h:`BZ):SqL' K H' B' a xs:=by
 obtain⟨n,h|⟨o,h⟩⟩:=h.at
 ·exact `m ⟨(`HT).1,`m (`HT).2⟩
 ·exact `m ⟨(`HT).1,`i ⟨o,(`HT).2⟩⟩
theorem Gr.same(s:`ch):Gr H H' B B:=λb o n h=>⟨n,s b o h⟩
theorem Gr.less(h:`yx):Gr H H B B':=λb o n e=>⟨λz=>n (h b z),e⟩
universe zz
abbrev KS:=Sum (`cI) (`Wt)
noncomputable def dOb:KS->`C->HO
 | `nz,xs=>`Wu
 | `lT,xs=>`Wv
noncomputable def dLn:KS->Nat
 | `nz=>`eY
 | `lT=>`eY
noncomputable def Ps0(fd:`eC)(x y:Str)(c cd:`f):Prop :=
 ∃p1 p2 p3,fd.body=.expr (`pK (`bD x p1) (`bD y p2) p3)/\fd.scope.isCoroutine=`r/\fd.scope.isGenerator=`r/\fd.scope.kind=`k5/\`as6 y=`kW/\`as6 x=`hQ /\
  (∀z∈fd.scope.names,z.2≠`pE)/\fd.closure=[(x,c)]/\fd.code=`aa cd/\fd.globals=`b0/\`bq/\`fN/\(y==`uj)=`r /\
  ∀u:`v,`oD fd `Om=`ai [(y,u)]
noncomputable def rk(n:Nat):`cI:=(`b? n).map `as7
noncomputable def TelO(K:`M)(H:Hp)(B:BS)(p:`f)(kvs:`gf):Prop:=(¬B p/\`P6)∨∃xs,SqL' K H B p xs/\kvs=(rk `as).zip xs
theorem TelO.mono{p:`f}{kvs:`gf}(g:`hr)(h:`as8):TelO K H' B' p kvs:=by
 rcases h with h|⟨xs,h,e⟩
 ·exact `m (`as5)
 ·exact `i ⟨xs,h.mono g,e⟩
noncomputable def FnAtH(K:`M)(H:Hp)(B:BS)(f:`f)(kvs:`gf):Prop :=
 ∃(oF oC oK:Obj) (fd:`eC) (c cd p:`f) (x y:Str),(¬B f/\H f=`a (`gI oF (`kU f)))/\(oF.cls=`AJ/\oF.data=`gV fd/\Ps0 fd x y c cd)/\(¬B c/\H c=`a (`gI oC (`kU c)))/\oC.data=`pE (`a `dD) /\
  (¬B cd/\H cd=`a (`gI oK (`kU cd)))/\(∃vs t,oK.data=`Gg/\vs[1]?=`a (`N fd.qualname t))/\`as8
theorem FnAtH.mono{f:`f}{kvs:`gf}(g:`hr)(h:FnAtH K H B f kvs):FnAtH K H' B' f kvs:=by
 obtain⟨oF,oC,oK,fd,c,cd,p,x,y,⟨b1,h1⟩,a,⟨b2,h2⟩,e,⟨b3,h3⟩,q,h4⟩:=h;exact⟨oF,oC,oK,fd,c,cd,p,x,y,g _ _ b1 h1,a,g _ _ b2 h2,e,g _ _ b3 h3,q,h4.mono g⟩
mutual
noncomputable def Rp(K:`M)(H:Hp)(B:BS):D->V->Prop
 | `A,v=>`q8
 | `en,v=>v=`en
 | `ap,v=>`xJ
 | `cV,v=>v=`cV
 | `bO,v=>`as9
 | `dB,v=>`as'
 | `sz,v=>`as!
 | `Ww,v=>`as?
noncomputable def Rps(K:`M)(H:Hp)(B:BS):`p->`T8
 | [],xs=>`xK
 | `aC,xs=>`ata
end
mutual
theorem Rp.mono(g:`hr):∀{d:D} {v:V},`dQ->`atb
 | `A,_,h=>`HU
 | `cq,_,h=>`HU
 | `dM,_,h=>`HU
 | `cx,_,h=>`HU
 | `bO,_,h=>by
  unfold Rp at h ⊢;obtain⟨a,xs,e,q,r⟩:=h;exact`atc
 | `dB,_,h=>by
  unfold Rp at h ⊢;obtain⟨a,xs,e,q,r⟩:=h;exact`atc
 | `sz,_,h=>by
  unfold Rp at h ⊢;obtain⟨a,xs,e,n,q,l,r⟩:=h;exact⟨a,xs,e,(g _ _ n q).1,(g _ _ n q).2,l,`OE⟩
 | `Ww,_,h=>by
  unfold Rp at h ⊢;obtain⟨a,xs,e,q,l,r⟩:=h;exact⟨a,xs,e,q.mono g,l,`OE⟩
theorem Rps.mono(g:`hr):∀{ds:`p} {xs:`C},`atd
 | [],_,h=>by unfold Rps at h ⊢;exact h
 | `aC,_,h=>by
  unfold Rps at h ⊢;obtain⟨x,r,e,h1,h2⟩:=h;exact⟨x,r,e,Rp.mono g h1,`OD g h2⟩
end
section
variable{v:V}
theorem U6:Rp K H B `A v=(`q8):=`HV
theorem X8{b:`X}:Rp K H B `ul v=(v=`en):=`HV
theorem j9{i:Int}:Rp K H B `dw v=(`xJ):=`HV
theorem W4:Rp K H B `mj v=(v=`cV):=`HV
theorem X6:Rp K H B `p? v=`as9:=`HW
theorem Y4:Rp K H B `BT v=`as':=`HW
theorem vm0{ks:KS}:Rp K H B (`sz) v=`as!:=`HW
theorem du0{ks:`cI}:Rp K H B (`Ww) v=`as?:=`HW
theorem uz0{ks:`cI}:Rp K H B (`HX) v=∃a xs,`eh/\`nx/\H a=`a (`Wu)/\`OC:=vm0
theorem m00{ks:`Wt}:Rp K H B (`aW (`lT) ds) v=∃a xs,`eh/\`nx/\H a=`a (`Wv)/\`OC:=vm0
theorem m7{xs:`C}:Rps K H B [] xs=(`xK):=by unfold Rps;rfl
theorem n6{d:D}{xs:`C}:Rps K H B `HS xs=`ata:=by conv=>lhs;unfold Rps
theorem Rps.length:∀{ds:`p} {xs:`C},`bg->`as=`b1
 | [],_,h=>by rw[m7] at h;subst h;rfl
 | `aC,_,h=>by
  rw[n6] at h;obtain⟨x,r,rfl,_,h2⟩:=h;simp[Rps.length h2]
theorem Rps.get:∀{ds:`p} {xs:`C} {i:Nat} {d:D},`bg->ds[i]?=`a5->∃x,`i'/\`u2
 | [],_,_,_,_,e=>`T4
 | `aC,_,0,d',h,e=>by
  rw[n6] at h;obtain⟨x,r,rfl,h1,_⟩:=h;simp at e;subst e;exact`Wx
 | `aC,_,i+1,d',h,e=>by
  rw[n6] at h;obtain⟨x,r,rfl,_,h2⟩:=h;obtain⟨y,e1,e2⟩:=Rps.get (i:=i) h2 `jO;exact⟨y,`yy,e2⟩
theorem Rps.snoc:∀{ds:`p} {xs:`C} {d:D} {x:V},`bg->`u2->Rps K H B (ds++[d]) (`wL)
 | [],_,_,_,h,r=>by
  rw[m7] at h;subst h;rw[`fK,`fK,n6];exact⟨_,[],rfl,r,`ga⟩
 | `aC,_,_,_,h,r=>by
  rw[n6] at h;obtain⟨y,t,rfl,h1,h2⟩:=h;rw[`ds,`ds,n6];exact⟨y,_,rfl,h1,`nK h2 r⟩
theorem Rps.append:∀{ds es:`p} {xs ys:`C},`bg->`ate->Rps K H B `agh `Bt
 | [],_,_,_,h,r=>by rw[m7] at h;subst h;exact r
 | `aC,_,_,_,h,r=>by
  rw[n6] at h;obtain⟨y,t,rfl,h1,h2⟩:=h;rw[`ds,`ds,n6];exact⟨y,_,rfl,h1,`atf h2 r⟩
theorem Rps.drop:∀{ds:`p} {xs:`C} (n:Nat),`bg->Rps K H B (ds.drop n) `T6
 | _,_,0,h=>h
 | [],_,n+1,h=>by rw[m7] at h;subst h;simpa [m7]
 | `aC,_,n+1,h=>by
  rw[n6] at h;obtain⟨y,t,rfl,h1,h2⟩:=h
  simpa using Rps.drop n h2
theorem Rps.take:∀{ds:`p} {xs:`C} (n:Nat),`bg->Rps K H B (ds.take n) (`Gb)
 | _,_,0,h=>`atg
 | [],_,n+1,h=>`HY
 | `aC,_,n+1,h=>by
  rw[n6] at h;obtain⟨y,t,rfl,h1,h2⟩:=h;rw[`Wy,`Wy,n6];exact⟨y,_,rfl,h1,Rps.take n h2⟩
theorem Rps.same{xs:`C}(s:`ch)(h:`bg):Rps K H' B ds xs:=`OD (`B8 s) h
theorem Rp.same{d:D}{v:V}(s:`ch)(h:`dQ):`afW:=Rp.mono (`B8 s) h
universe zz
noncomputable def RpO(K:`M)(H:Hp)(B:BS)(d:D)(a:`f):Prop:=match d with
 | `dB=>`ath
 | `sz=>∃xs,`afS
 | _=>`bM
theorem RpO.same{d:D}(s:`ch)(h:`oZ):RpO K H' B d a:=by
 cases d<;>try exact `cE
 ·obtain⟨xs,e,r⟩:=h;exact⟨xs,`HZ,`H_⟩
 ·obtain⟨xs,e,l,r⟩:=h;exact⟨xs,`HZ,l,`H_⟩
theorem RpO.rp{d:D}(l:`yx)(n:¬`ny)(h:`oZ):Rp K H B' d `bJ:=by
 cases d<;>try exact `cE
 ·obtain⟨xs,e,r⟩:=h
  rw[Y4];exact⟨a,xs,rfl,`m ⟨n,`ql⟩,`ati⟩
 ·obtain⟨xs,e,q,r⟩:=h
  rw[vm0];exact⟨a,xs,rfl,n,e,q,`ati⟩
theorem RpO.live{d:D}(h:`oZ):`qc:=by
 cases d<;>try exact `cE
 ·obtain⟨xs,e,r⟩:=h;exact .of e `Wz λ_=>λz=>nomatch z
 ·obtain⟨xs,e,q,r⟩:=h;refine .of e (λ_ _ z=>?_) λ_ z=>?_<;>(unfold dOb at z;split at z<;>cases z)
mutual
noncomputable def toT:D->`aK `dW
 | `A=>`ry
 | `ap=>`UO
 | `cV=>`a `mj
 | `bO=>`atj `x
 | _=>`c
noncomputable def R6:`p->`aK (`iy)
 | []=>`mx
 | `aC=>(`wa).bind λt=>`atj λl=>`iw
end
noncomputable def RpX(K:`M)(H:Hp)(B:BS)(ks vs:`p)(a:`f):Prop:=∃ts xs,`WA/\H a=`a (.dX (`QH))/\`WB=`as/\`atk
noncomputable def RpL(K:`M)(H:Hp)(B:BS)(d:D)(a:`f):Prop:=match d with
 | `x es=>(∃ds,es=[`wB,`dB]/\`ath)∨∃ks vs,es=`atl/\RpX K H B ks vs a
 | d=>`oZ
theorem RpO.toL{d:D}(h:`oZ):`le:=by
 cases d with
 | tup es=>exact(show `bM from h).elim
 | _=>exact h
theorem RpL.toO{d:D}(n:`OS)(h:`le):`oZ:=by
 cases d with
 | tup es=>cases n
 | _=>exact h
theorem RpL.same{d:D}(s:`ch)(h:`le):RpL K H' B d a:=by
 cases d with
 | tup es =>
  rcases h with⟨ds,q,xs,e,r⟩|⟨ks,vs,q,ts,xs,q1,e,q2,r⟩
  ·exact `m ⟨ds,q,xs,`HZ,`H_⟩
  ·exact `i ⟨ks,vs,q,ts,xs,q1,`HZ,q2,`H_⟩
 | _=>exact(RpO.same s `sA).toL
theorem RpL.live{d:D}(h:`le):`qc:=by
 cases d with
 | tup es =>
  rcases h with⟨ds,q,xs,e,r⟩|⟨ks,vs,q,ts,xs,q1,e,q2,r⟩
  ·exact .of e `Wz λ_=>λz=>nomatch z
  ·exact .of e `Wz λ_=>λz=>nomatch z
 | _=>exact RpO.live `sA
theorem RpL.plain{d:D}(h:`le):∀o xs,H a≠`Hv:=by
 intro o ys z;cases d with
 | tup es=>rcases h with⟨ds,q,xs,e,r⟩|⟨ks,vs,q,ts,xs,q1,e,q2,r⟩<;>(rw[e] at z;cases z)
 | lst ds=>obtain⟨xs,e,r⟩:=`sA;rw[e] at z;cases z
 | dct ks ds =>
  obtain⟨xs,e,r⟩:=`sA;rw[e] at z;unfold dOb at z;split at z<;>cases z
 | _=>exact(`afT).elim
noncomputable def Nq0(a C:`f)(od:`da):`pu:=λh=>∃oe,`gF=`a oe/\oe.cls=`aa C/\(∀dx,od=`a dx->oe.dict=`a dx)/\∃vs,oe.data=`Gg
noncomputable def Nd0(H:Hp)(B:BS)(od:`da):`bN->Prop
 | `c=>`fc
 | `a n=>∃dx,od=`a dx/\¬B dx/\H dx=`a (.xd [("at",`H0)])
noncomputable def XcR(K:`M)(H:Hp)(B:BS)(c:Str)(n:`bN)(a:`f):Prop:=∃C od,`nx/\H a=`a (.ext (Nq0 a C od))/\`dr K `b0 c=`a (`a `qr)/\Nd0 H B od n
theorem XcR.mono{c:Str}{n:`bN}(g:`hr)(h:`atm):XcR K H' B' c n a:=by
 obtain⟨C,od,h1,h2,h3,h4⟩:=h;refine⟨C,od,(`atn).1,(`atn).2,h3,?_⟩;cases n with
 | none=>trivial
 | some n=>obtain⟨dx,e,q1,q2⟩:=h4;exact⟨dx,e,(`ato).1,(`ato).2⟩
noncomputable def SlR(K:`M)(H:Hp)(B:BS)(o:`el):Sl->Prop
 | .un=>`fc
 | `hZ=>∃v,o=`a3/\`dQ
 | `ve=>∃a,o=`qd/\`atp
 | .ex c n=>∃a,o=`qd/\`atm
theorem Pd.get{F:`oJ}:∀{l:`cD} {m:`oK} {i:Nat} {b:β},`u4->`atq->∃a,`H1/\`AT
 | _,_,_,_,`ae,e=>`T4
 | _,_,0,_,`au r _,e=>`ams
 | _,_,i+1,b,`xH,e=>by
  obtain⟨u,h1,h2⟩:=`B3 (i:=i) (b:=b) t `jO;exact`amt
theorem Pd.imp{F G:`oJ}(h:`amE):∀{l:`cD} {m:`oK},`atr:=by
 intro l m p
 induction p with
 | nil=>exact `ae
 | cons r t ih=>exact `au (h _ _ r) ih
theorem Pd.set{F:`oJ}{a:α}{b:β}(r:`AT):∀{l:`cD} {m:`oK} (i:Nat),`u4->`bC F (`WC) `ats
 | _,_,_,`ae=>`ae
 | _,_,0,`xH=>`T5
 | _,_,i+1,`au q t=>`au q (`yz r i t)
theorem Pd.app{F:`oJ}:∀{l l':`cD} {m m':`oK},`u4->`bC F l' m'->`bC F (l++l') (m++m'):=by
 intro l l' m m' p s
 induction p with
 | nil=>exact s
 | cons r t ih=>exact `Ga
structure Env(K:`M)(H:Hp)(B:BS)(σ:St)(δ:Ds):Prop where
 all:`att
 bad:`u6
 own:∀(i j:Nat) (a:`f) (ds es:D),`af0->`nu=`atu->`qg->`p7=`afU->i=j
section
variable{σ σ':St}
theorem SlR.same{o:`el}{s:Sl}(q:`ch)(h:`atv):SlR K H' B o s:=by
 cases s with
 | un=>trivial
 | sh d=>obtain⟨v,e,r⟩:=h;exact⟨v,e,`B0 q⟩
 | ow d=>obtain⟨a,e,b,r⟩:=h;exact⟨a,e,b,`B0 q⟩
 | ex c n=>obtain⟨a,e,r⟩:=h;exact⟨a,e,`f8 (`B8 q)⟩
theorem Env.same(q:`ch)(e:`cs):Env K H' B σ δ :=
 ⟨`vm (λ_ _ h=>h.same q) `lf,(λa b=>(`jx a b).same q),`nA⟩
theorem Env.free(e:`cs){p:`f}(h:`dh):¬B p:=λz=>`jx p z h
theorem Env.get(e:`cs){d:D}(h:`atw):∃v,`Gq/\`dQ:=by
 obtain⟨o,h1,v,rfl,r⟩:=`atx;exact⟨v,h1,r⟩
theorem Env.set(e:`cs)(i:Nat){d:D}{v:V}(r:`dQ):Env K H B `uh `HK:=by
 refine⟨`yz `aty i `lf,`jx,`agx⟩;have hj:j≠i:=by
  rintro rfl
  by_cases hl:j<`H2
  ·rw[`H3] at h1;cases h1
  ·rw[`H4] at h1;cases h1
 have hk:k≠i:=by
  rintro rfl
  by_cases hl:k<`H2
  ·rw[`H3] at h2;cases h2
  ·rw[`H4] at h2;cases h2
 rw[`UG] at h1 h3;rw[`kZ (B9 hk)] at h2 h4;exact `WD
universe zz
theorem Z5{p:`f}{o:HO}(h:`dh)(hz:`WE:=by intro _ _ z;cases z):`eV H `WF:=⟨λb u e=>by rw[b7 (S6 e h)];exact e,λb ob xs e=>by
 by_cases z:b=p
 ·subst z
  rw[j6] at e;exact `atz
 ·rw[b7 z] at e;exact e⟩
noncomputable def tD(K:`M)(B:BS)(δ:Ds)(g:`b6):TE:=fun σ H Q=>∃d,`cs/\`oY/\`H5
structure PD(X:Cx)(e:`G)(g:`b6):Prop where
 mk::go:`atA
instance{X:Cx}{e:`G}{g:`b6}:`eF (`bQ) (λ_=>`atA):=⟨PD.go⟩
noncomputable def tDT(K:`M)(B:BS)(δ:Ds)(g:`fQ):TT:=fun σ H Q=>∃b,`cs/\`aB=`h_/\∀H',`ch->Q b H'
structure PTD(X:Cx)(e:`G)(g:`fQ):Prop where
 mk::go:`atB
instance{X:Cx}{e:`G}{g:`fQ}:`eF (PTD X e g) (λ_=>`atB):=⟨PTD.go⟩
structure PWD(X:Cx)(e:`G)(g:`fQ):Prop where
 mk::go:`atC
instance{X:Cx}{e:`G}{g:`fQ}:`eF (PWD X e g) (λ_=>`atC):=⟨PWD.go⟩
noncomputable def tDA(K:`M)(B:BS)(δ:Ds)(g:`d!):TA:=fun σ H Q=>∃ds,`cs/\`aB=`nw/\∀vs H',`ch->Rps K H' B ds vs->Q vs H'
structure PDA(X:Cx)(es:`ci)(g:`d!):Prop where
 mk::go:`atD
instance{X:Cx}{es:`ci}{g:`d!}:`eF (PDA X es g) (λ_=>`atD):=⟨PDA.go⟩
theorem ir0{d:D}{b:`X}(h:asB d=`h_):d=`en:=by
 cases d<;>simp[asB] at h
 subst h;rfl
noncomputable def Op2(K:`M)(r:R2)(f:`bz):Prop:=∀(H:Hp) (B:BS) (x y:V) (dx dy d:D) (Q:VK),`H6->`H7->`atE->f dx dy=`a5->(`H5)->`Bg
noncomputable def FnR(K:`M)(r:`er)(f:`K):Prop:=∀(H:Hp) (B:BS) (xs:`C) (ds:`p) (d:D) (Q:VK),`H6->`bg->`vc->(`H5)->`GX
section
variable{a:`G}{ga:`b6}{gu:`fQ}{rest:`ci}
theorem _root_.L2.PE.imp{t t':TE}(h:PE X e t)(q:`H8):PE X e t':=`atF
theorem _root_.L2.PT.imp{t t':TT}(h:PT X e t)(q:`H8):PT X e t':=`atF
theorem _root_.L2.PW.imp{t t':TT}(h:PW X e t)(q:`H8):PW X e t':=λw pins s σ H Q I z=>h w `j s σ H Q I `OI
theorem _root_.L2.PA.imp{t t':TA}(h:`G0)(q:`H8):PA X es t':=λp pins s σ H Q I z=>h p `j s σ H Q I `OI
theorem Qx0{d:D}(h:gv i δ=`a5):`atw:=by
 unfold gv at h;split at h
 ·cases h;assumption
 ·cases h
theorem w6(i:Nat)(hN:`cp:=by rfl)(hv:`fe:=by first|exact `cO|exact `hs|exact `ht)(hd:`bq:=by decide)
  (hcd:`fN:=by decide):PD X `pJ (gv i):=.mk λB δ=>(`afX).imp fun σ H Q hq46=>by
 obtain⟨d,en,h,k⟩:=hq46
 obtain⟨v,e,r⟩:=en.get (Qx0 h);exact⟨v,e,k v H `dg r⟩
theorem p8{i:Int}:PD X (`mo `dw j pos) (gc `dw):=.mk λB δ=>Rv0.imp fun σ H Q hq47=>by obtain⟨d,en,h,k⟩:=hq47;cases h;exact `CB
theorem xh0{i:`X}:PD X (`mo (`dZ i) j pos) (gc (.bl i)):=.mk λB δ=>P40.imp fun σ H Q hq48=>by obtain⟨d,en,h,k⟩:=hq48;cases h;exact `yA
theorem zq0:PD X (`mo `aF j pos) `jU:=.mk λB δ=>So0.imp fun σ H Q hq49=>by obtain⟨d,en,h,k⟩:=hq49;cases h;exact k _ H `dg `OU
theorem Z7:PD X (`mo `mj j pos) (gc `mj):=.mk λB δ=>Q50.imp fun σ H Q hq50=>by obtain⟨d,en,h,k⟩:=hq50;cases h;exact `WG
theorem ng0{r:R2}{f:`bz}(hf:Op2 K r f){σ:St}{Q:VK}(h:tD K B δ `yB σ H Q):tOp r (tD K B δ ga) (tD K B δ gb) σ H Q:=by
 obtain⟨d,en,h,k⟩:=h;unfold o2 at h;cases e1:`jj with
 | none=>rw[e1] at h;cases h
 | some x =>
  cases e2:`ld with
  | none=>rw[e1,e2] at h;cases h
  | some y =>
   rw[e1,e2] at h;refine`H9;exact hf H2 B v1 v2 x y d Q `atG (`mA) r2 h λv H' s r=>k v H' (`agJ s) r
theorem tx0{op:`GI}{r:R2}{f:`bz}(ho:`aoR)(hf:`yC)(ha:`dt)(hb:`ea):PD X `aoS `yB:=.mk λB δ=>(Ou0 ho `bP `hu).imp `WH
theorem w90{op:`kn}{r:R2}{f:`bz}(ho:`si)(hf:`yC)(ha:`dt)(hb:`ea)(hm:`r4:=by first|exact ch0 _|with_unfolding_all rfl):PD X `xX `yB :=
 .mk λB δ=>(Tf0 ho `bP `hu hm).imp `WH
theorem Py0{r:R2}{f:`bz}(ho:`VH)(hf:`yC)(ha:`dt)(hb:`ea)(hs:m80 b:=by exact `mB):PD X `Hl `yB :=
 .mk λB δ=>(Om0 ho `bP `hu hs).imp `WH
theorem d7{op:`kn}{r:R2}{f:`bz}(ho:`si)(hf:`yC)(ha:`dt)(hb:`ea)(hm:`r4:=by first|exact ch0 _|with_unfolding_all rfl):PTD X `xX (ob `yB) :=
 .mk λB δ=>(Th0 ho `bP `hu hm).imp fun σ H Q hq51=>by
  obtain⟨t,en,h,k⟩:=hq51
  unfold ob at h;cases e:`as2 with
  | none=>rw[e] at h;cases h
  | some d =>
   rw[e] at h;cases ir0 h;exact ng0 hf `atH
theorem K7(h:`bQ)(he:`anw:=by intro _;rfl):PTD X e (ob g) :=
 .mk λB δ=>(Re0 `b' he).imp fun σ H Q hq52=>by
  obtain⟨t,en,h,k⟩:=hq52
  unfold ob at h;cases e:`aB with
  | none=>rw[e] at h;cases h
  | some d =>
   rw[e] at h;cases ir0 h;exact`atH
theorem en0(h:`yD):PTD X `anG (nt0 gt) :=
 .mk λB δ=>(Qs0 `b').imp fun σ H Q hq53=>by
  obtain⟨t,en,h,k⟩:=hq53
  unfold nt0 at h;cases e:`nt with
  | none=>rw[e] at h;cases h
  | some b =>
   rw[e] at h;cases h;exact⟨b,en,e,λH' s=>`B5⟩
theorem o10(h:`yD):PWD X `any gt:=.mk λB δ=>Vz0 `b'
theorem vj0(h:`yD):PWD X `anB gt:=.mk λB δ=>Qn0 `b'
theorem m20(ha:`yD)(hb:PWD X `GG gu):PWD X `GH (yd0 gt gu) :=
 .mk λB δ=>(Rh0 `bP `hu).imp fun σ H Q hq54=>by
  obtain⟨t,en,h,k⟩:=hq54
  unfold yd0 at h;cases e:`nt with
  | none=>rw[e] at h;cases h
  | some b =>
   rw[e] at h;refine`atI;cases b with
   | true=>exact`atJ
   | false =>
    simp at h;subst h;rw[`mr];exact `B5
theorem uw0(ha:`yD)(hb:PWD X `anE gu):PWD X `anF (zm0 gt gu) :=
 .mk λB δ=>(Og0 `bP `hu).imp fun σ H Q hq55=>by
  obtain⟨t,en,h,k⟩:=hq55
  unfold zm0 at h;cases e:`nt with
  | none=>rw[e] at h;cases h
  | some b =>
   rw[e] at h;refine`atI;cases b with
   | false=>exact`atJ
   | true =>
    simp at h;subst h;rw[`aY];exact `B5
theorem PWD.pt(h:PWD X e gt):`atK:=.mk λB δ=>(`OM).pt
theorem ix0{op}(h:PD X a g):PD X `anI g:=.mk λB δ=>Q70 `b'
theorem ie0(ha:`dt)(hb:PD X `GG gb):PD X `GH (u50 ga gb) :=
 .mk λB δ=>(Qi0 `bP `hu).imp fun σ H Q hq56=>by
  obtain⟨d,en,h,k⟩:=hq56
  unfold u50 ob at h;cases e:`jj with
  | none=>rw[e] at h;cases h
  | some x =>
   rw[e] at h;refine⟨x,en,e,λv H' s r=>?_⟩;cases x with
   | bl c =>
    rw[X8] at r;refine⟨c,r,?_⟩;cases c with
    | true=>exact`WI
    | false =>
     simp[asB] at h;rw[`mr];exact k _ H' s (by rw[← h,X8])
   | _=>simp[asB] at h
theorem Qz0(hc:`H')(ha:`dt)(hb:`ea):PD X `anK (ifG gt ga gb) :=
 .mk λB δ=>(Xa0 (hc B δ) `bP `hu).imp fun σ H Q hq57=>by
  obtain⟨d,en,h,k⟩:=hq57
  unfold ifG at h;cases e:`nt with
  | none=>rw[e] at h;cases h
  | some t =>
   rw[e] at h;refine⟨t,en,e,`afZ⟩;cases t with
   | true=>exact`WI
   | false=>exact`WI
theorem v8:PDA X [] v7:=.mk λB δ=>we0.imp fun σ H Q hq58=>by obtain⟨ds,en,h,k⟩:=hq58;cases h;exact k [] H `dg (`ga)
theorem v5(ha:`bQ)(hr:`H!)(hs:`dO:=by rfl):PDA X `hX (z9 g gA) :=
 .mk λB δ=>(yc0 `bP (hr B δ) hs).imp fun σ H Q hq59=>by
  obtain⟨ds,en,h,k⟩:=hq59
  unfold z9 at h;cases e1:`aB with
  | none=>rw[e1] at h;cases h
  | some d =>
   cases e2:`cw with
   | none=>rw[e1,e2] at h;cases h
   | some es' =>
    rw[e1,e2] at h;cases h;refine⟨d,en,e1,λv H1 s1 r1=>⟨es',`jp,e2,λvs H2 s2 r2=>k _ H2 `vt ?_⟩⟩;rw[n6];exact⟨v,vs,rfl,`mA,r2⟩
theorem Y8{x1}(h:`H!):PD X (`qz es x1 pos) (Z8 gA) :=
 .mk λB δ=>(Qu0 `b').imp fun σ H Q hq60=>by
  obtain⟨d,en,h,k⟩:=hq60
  unfold Z8 at h;cases e1:`cw with
  | none=>rw[e1] at h;cases h
  | some ds =>
   rw[e1] at h
   by_cases hl:`my
   ·simp only[`w,`o_] at h
    cases h;refine`atL;rw[X6];exact⟨p,vs,rfl,⟨(`jp).free hp,j6⟩,r1.same `jq⟩
   ·simp only[`w,`WJ] at h
    cases h
theorem vv0(h:`H!):PD X `Vq (V6 gA) :=
 .mk λB δ=>`atM fun σ H Q hq61=>by
  obtain⟨d,en,h,k⟩:=hq61
  unfold V6 at h;cases e1:`cw with
  | none=>rw[e1] at h;cases h
  | some ds =>
   rw[e1] at h
   by_cases hl:`my
   ·simp only[`w,`o_] at h
    cases h;refine`atL;rw[Y4];exact⟨p,vs,rfl,`m ⟨(`jp).free hp,`m j6⟩,r1.same `jq⟩
   ·simp only[`w,`WJ] at h
    cases h
theorem gj0{r:`er}{f:`K}(hf:FnR K r f){σ:St}{Q:VK}(h:tD K B δ `B6 σ H Q):tCB r (tDA K B δ gA) σ H Q:=by
 obtain⟨d,en,h,k⟩:=h;unfold oA at h;cases e1:`cw with
 | none=>rw[e1] at h;cases h
 | some ds =>
  rw[e1] at h;exact⟨ds,en,e1,λvs H1 s1 r1=>hf H1 B vs ds d Q `sB r1 h `WK⟩
theorem pr0{id:`cC}{p:Pos}{r:`er}{f:`K}(hc:`apW)(hf:`WL)(hm:`oM)(hv:`apX)(ha:`iG)(hg:`d':=by rfl)
  (hn:`kV := by decide) (hdb:`bq:=by decide) (he:`dO:=by rfl) (hpl:`gx:=by rfl) :
  `yE:=.mk λB δ=>(s30 hc hg hm hv `bP hn hdb he hpl).imp `WM
theorem U5{T:`cC}{p:Pos}{r:`er}{f:`K}(hc:`ap0)(hf:`WL)(hm:`oM)(hv:`ap1)(ha:`iG)(hg:`d':=by rfl)
  (hn:`kV := by decide) (hdb:`bq:=by decide) (he:`dO:=by rfl) (hpl:`gx:=by rfl) :
  `yE:=.mk λB δ=>(ub0 hc hg hm hv `bP hn hdb he hpl).imp `WM
noncomputable def spD(K:`M)(f:`K):Sp:=λvs H Q _=>∃(B:BS) (ds:`p) (d:D),`H6/\`H?/\`vc/\`H5
theorem Uk0{k:Nat}{ps:`t}{p:Pos}{f:`K}(F:`ag `bf X.w X.K `cv `eO CX0 k fa fd ps (spD X.K f))(hr:`Vr)(hm:`A5=`By)(hk:`la X.K `uI=`b)(hb:`Bi X.K fd ps [])
  (ha:`iG) (hg:`d':=by rfl) (hdb:`bq:=by decide) (he:`dO:=by rfl) (hpl:`gx:=by rfl) :
  `yE:=.mk λB δ=>(qm0 (E:=E0) F hr hg hm hk hb `ae kx0 `bP hdb he hpl).imp fun σ H Q h=>by
 obtain⟨d,en,h,k⟩:=h;unfold oA at h;cases e1:`cw with
 | none=>rw[e1] at h;cases h
 | some ds =>
  rw[e1] at h;refine`Ia;show spD X.K f (vs++[]) H1 Q E0;rw[`fb];exact⟨B,ds,d,`sB,r1,h,`WK⟩
universe zz
universe DL
variable{B B' B₀:DL.BS}
namespace DL
open Spec PyProof.Rows L2
structure EnvS(K:`M)(H₀:Hp)(B₀:BS)(H:Hp)(σ:St)(δ:Ds):Prop where
 same:`Ib
 ex:∃B:BS,(`o0)/\(`o1)/\`cs
 fr:`atN
 b0:`WN
noncomputable def Nr0(K:`M)(H₀:Hp)(B₀:BS)(D:Ends):Res->Prop
 | .nx δ=>∀σ H,`eI->`US
 | .rt d=>∀v H,`Ib->Rp K H `aL d v->D.rt v H
 | .bk δ=>∀σ H,`eI->D.bk σ H
 | .ct δ=>∀σ H,`eI->D.ct σ H
 | .rf d=>∀p H,`WO->`Ib->RpL K H (λa=>`qf∨a=p) d p->D.rt `dD H
noncomputable def tDS(K:`M)(H₀:Hp)(B₀:BS)(δ:Ds)(G:`fR):TS:=λD σ H=>∃r,`eI/\G δ=`di/\Nr0 K `a_ `aL D r
structure PSD(X:Cx)(st:`fX)(G:`fR):Prop where
 mk::go:`atO
instance{X:Cx}{st:`fX}{G:`fR}:`eF (`atP) (λ_=>`atO):=⟨PSD.go⟩
structure PSsD(X:Cx)(st:`iv)(G:`fR):Prop where
 mk::go:`atQ
instance{X:Cx}{st:`iv}{G:`fR}:`eF (`lh X st G) (λ_=>`atQ):=⟨PSsD.go⟩
section
variable{σ:St}
theorem EnvS.grow(e:`eI)(s:`ch):`es K `a_ `aL H' σ δ:=⟨e.same.trans s,let ⟨B,b1,b2,en⟩:=e.ex;⟨B,b1,b2,`jo s⟩,e.fr,e.b0⟩
universe zz
structure Wr(idx:`k)(σ σ':St)(δ δ':Ds):Prop where
 len:`UB
 oth:∀j,j∉idx->σ'[j]?=`p7/\δ'[j]?=`nu
 own:∀j∈idx,∀ds,δ'[j]?≠`B2
noncomputable def tDG(K:`M)(idx:`k)(f:`a1)(B:BS)(d:D)(δ:Ds):TG:=λv σ H Q=>∃δ',`dQ/\`cs/\`Wl/\∀σ',`atR->Env K H B σ' δ'->Q σ' H
structure PGD(X:Cx)(tg:`G)(idx:`k)(f:`a1):Prop where
 mk::go:`atS
instance{X:Cx}{tg:`G}{idx:`k}{f:`a1}:`eF (`Ic) (λ_=>`atS):=⟨PGD.go⟩
theorem _root_.L2.PG.imp{tg:`G}{t t':TG}(h:PG X tg t)(q:∀v σ H Q,t' v σ H Q->`an3):PG X tg t':=λpins s σ H v u Q I r z=>h `j s σ H v u Q I r (q v σ H Q z)
theorem j30{σ:St}{v:V}{d:D}:Wr [i] σ `uh δ `HK:=by
 refine⟨`a!,`sC,λj hj ds h=>?_⟩
 ·have:j≠i:=`uY
  rw[`atT,`atT];exact`fv
 ·have:j=i:=`uY
  subst this
  by_cases hl:j<`H2
  ·rw[`H3] at h;cases h
  ·rw[`H4] at h;cases h
theorem o7(i:Nat){pos:Pos}(hN:`hl)(hi:`cp:=by rfl)(hx:`kk:=by first|exact `cO|exact `jn)
  (hf:`kl:=by first|exact `bL|exact `dz|assumption):PGD X `pJ [i] `OR:=.mk λB d δ=>(`Id).imp λv σ H Q hq62=>by
 obtain⟨δ',r,en,e,k⟩:=hq62
 cases e;exact k _ j30 (en.set i r)
section
variable{tg:`G}{G1 G2 Ga Gb:`fR}{as bs:`iv}
theorem p7:`lh X [] o4:=.mk λH₀ B₀ δ pins s σ H D I hq63=>by
 obtain⟨r,en,e,k⟩:=hq63
 cases e;exact Vw0 `j s σ H D I (k σ H en)
theorem v6(h1:PSD X st G1)(h2:`lh X `bB G2):`lh X `anZ (v9 G1 G2):=.mk λH₀ B₀ δ pins s σ H D I hq64=>by
 obtain⟨r,en,e,k⟩:=hq64
 unfold v9 at e;cases e1:`uZ with
 | none=>rw[e1] at e;cases e
 | some r1 =>
  rw[e1] at e;cases r1 with
  | nx δ'=>exact vy0 (h1 `a_ `aL δ) (h2 `a_ `aL δ') `j s σ H D I ⟨_,en,e1,fun σ' H' en'=>⟨r,en',e,k⟩⟩
  | rt d=>cases e;exact `Ie
  | bk δ'=>cases e;exact `Ie
  | ct δ'=>cases e;exact `Ie
  | rf d=>cases e;exact `Ie
theorem m9(h:`bQ):PSD X `xZ (d9 g):=.mk λH₀ B₀ δ pins s σ H D I hq65=>by
 obtain⟨r,en,e1,k⟩:=hq65
 unfold d9 at e1;obtain⟨B,b1,b2,env⟩:=`ct;cases e2:`aB with
 | none=>rw[e2] at e1;cases e1
 | some d =>
  rw[e2] at e1;cases e1;exact ip0 `b' `j s σ H D I ⟨d,env,e2,λv H' s' r=>k v H' (`Pe s') (`f8 (`qb b1))⟩
theorem EnvS.wr{σ σ':St}(e:`eI)(b1:`o0)(b2:`o1)(s:`ch)(w:`atR)(en:Env K H' B σ' δ'):`atU:=by
 refine⟨e.same.trans s,⟨B,b1,b2,en⟩,`atV,e.b0⟩
 by_cases hi:i∈idx
 ·exact `L h1 (w.own i hi ds)
 ·rw[(`atW).2] at h1
  rw[(`atW).1] at h2;exact `atX
theorem m8{f:`a1}(h:`bQ)(hg:`Ic)(hs:`UX:=by rfl)(hw:`UY:=by rfl)
  (h1:`UZ:=by rfl):PSD X `U_ (m5 f g):=.mk λH₀ B₀ δ pins s σ H D I hq66=>by
 obtain⟨r,en,e1,k⟩:=hq66
 unfold m5 at e1;obtain⟨B,b1,b2,env⟩:=`ct;cases e2:`aB with
 | none=>rw[e2] at e1;cases e1
 | some d =>
  rw[e2] at e1;simp only[`w] at e1;cases e3:`qa with
  | none=>rw[e3] at e1;cases e1
  | some δ' =>
   rw[e3] at e1;cases e1;exact oz0 `b' (hg B d δ) hs hw h1 `j s σ H D I ⟨d,env,e2,λv H' s' r=>⟨δ',r,`WP,e3,fun σ' w en'=>k σ' H' (en.wr b1 b2 s' w en')⟩⟩
theorem b8(hc:`H')(ha:`lh X as Ga)(hb:`lh X bs Gb):PSD X (.If c as bs pos) (ifD gt Ga Gb):=.mk λH₀ B₀ δ pins s σ H D I hq67=>by
 obtain⟨r,en,e1,k⟩:=hq67
 unfold ifD at e1;obtain⟨B,b1,b2,env⟩:=`ct;cases e2:`nt with
 | none=>rw[e2] at e1;cases e1
 | some t =>
  rw[e2] at e1;refine On0 (hc B δ) (ha `a_ `aL δ) (hb `a_ `aL δ) `j s σ H D I ⟨t,env,e2,λH' s'=>?_⟩;cases t with
  | true=>exact`atY
  | false=>exact`atY
structure ItD(K:`M)(B:BS)(J:It)(items:`p)(H₁:Hp):Prop where
 go:∀i H,`WQ->`If->`U4
 yld:∀i H x H',`WQ->`U6->`If->`ch/\∃d,`a'[i]?=`a5/\∀B':BS,Gr H₁ H' B B'->(∀a,`ny->`qc)->Rp K H' B' d x
 stop:∀i H,`WQ->`gW<=i->`U7
noncomputable def tDI(K:`M)(B:BS)(δ:Ds)(g:`d!):TI:=fun σ H R=>∃items,`cs/\`aB=`a `a'/\∀J H',`ch->ItD K B J `a' H'->R J H'
structure PID(X:Cx)(tg e:`G)(g:`d!):Prop where
 mk::go:`atZ
instance{X:Cx}{tg e:`G}{g:`d!}:`eF (PID X tg e g) (λ_=>`atZ):=⟨PID.go⟩
theorem _root_.L2.PI.imp{t t':TI}(h:PI X tg e t)(q:∀σ H R,t' σ H R->t σ H R):PI X tg e t':=λpins s σ H R I z=>h `j s σ H R I (q σ H R z)
theorem Q0(h:`bQ):PID X tg e (J8 g):=.mk λB δ=>`mC (T70 `b') fun σ H R hq68=>by
 obtain⟨items,en,e1,k⟩:=hq68
 unfold J8 at e1;cases e2:`aB with
 | none=>rw[e2] at e1;cases e1
 | some d =>
  rw[e2] at e1;cases d<;>simp[n80] at e1
  subst e1;refine`at_;rw[Y4] at r;obtain⟨a,xs,rfl,q,rs⟩:=r;refine`at0
  ·have:`Hj:=`OP
   exact`at1
  ·obtain⟨e3,y⟩:=y
   obtain⟨x',e4,r'⟩:=`at2;have:=`at3;rw[e4] at this;cases `u;subst e3;exact`at4
  ·exact`at5
theorem t90(h:`bQ):PID X tg e (tupI g):=.mk λB δ=>`mC (R20 `b') fun σ H R hq69=>by
 obtain⟨items,en,e1,k⟩:=hq69
 unfold tupI at e1;cases e2:`aB with
 | none=>rw[e2] at e1;cases e1
 | some d =>
  rw[e2] at e1;cases d<;>simp[Wq0] at e1
  subst e1;refine`at_;rw[X6] at r;obtain⟨a,xs,rfl,q,rs⟩:=r;refine`at0
  ·have:`Hj:=`OP
   exact`at1
  ·obtain⟨e3,y⟩:=y
   obtain⟨x',e4,r'⟩:=`at2;have:=`at3;rw[e4] at this;cases `u;subst e3;exact`at4
  ·exact`at5
theorem pm0(lo hi:Int):(U0 lo hi).length=`pQ:=by simp[U0]
theorem e20(lo hi:Int):ItD K B (Itr lo `pQ) (U0 lo hi) H:=by
 refine`af2
 ·rw[pm0] at hi;exact hi
 ·obtain⟨e3,rfl⟩:=y
  rw[pm0] at hi;subst e3;exact⟨`nB _,`U8,by simp[U0,hi],λB' gB _=>`qe⟩
 ·rw[pm0] at hi;exact hi
theorem O2{a:`G}(hm:`GS)(ha:`at6)(hg:`GR := by rfl)(hs:`GT:=by rfl):PID X tg `aoJ (O1 gA) :=
 .mk λB δ=>`mC (b20 hg hm `bP hs) fun σ H R hq70=>by
 obtain⟨items,en,e1,k⟩:=hq70
 unfold O1 at e1;cases e2:`cw with
 | none=>rw[e2] at e1;cases e1
 | some ds =>
  rw[e2] at e1;simp only[`w] at e1;unfold de0 at e1;split at e1
  ·split at e1
   ·rename_i j hj
    cases e1;refine`sD;rw[n6] at r;obtain⟨x,t,rfl,r1,r2⟩:=r;rw[m7] at r2;subst r2;rw[j9] at r1;subst r1;refine⟨j,rfl,hj.1,hj.2,k _ H' s' ?_⟩;have:=e20 (K:=X.K) (B:=B) (H:=H') 0 j;rw[Int.sub_zero] at this;exact `u
   ·cases e1
  ·cases e1
theorem c80{a:`G}{p:Pos}(hm:`GS)(ha:`Ig)(hg:`GR := by rfl)(hs:`sb:=by rfl)(hs2:`sc:=by rfl) :
  PID X tg `aoL (dj0 gA):=.mk λB δ=>`mC (Z50 hg hm `bP hs hs2) fun σ H R hq71=>by
 obtain⟨items,en,e1,k⟩:=hq71
 unfold dj0 at e1;cases e2:`cw with
 | none=>rw[e2] at e1;cases e1
 | some ds =>
  rw[e2] at e1;simp only[`w] at e1;unfold We0 at e1;split at e1
  ·split at e1
   ·rename_i i j hj
    cases e1;refine`sD;rw[n6] at r;obtain⟨x,t,rfl,r1,r2⟩:=r;rw[n6] at r2;obtain⟨y,t',rfl,r2,r3⟩:=r2;rw[m7] at r3;subst r3;rw[j9] at r1 r2;subst r1 r2;exact⟨i,j,rfl,⟨hj.1.1,hj.1.2,hj.2.1,hj.2.2⟩,k _ H' s' (e20 i j)⟩
   ·cases e1
  ·cases e1
theorem EnvS.lower{H₁:Hp}{σ:St}(e:`es K H₁ `aL H σ δ)(s:`eV `a_ H₁)(b0:`WN):`eI:=by
 obtain⟨B,b1,b2,en⟩:=e.ex;exact⟨s.trans e.same,⟨B,b1,λa z=>(b2 a z).imp id λq=>s.free q,en⟩,λi ds a h1 h2=>s.free (`atX),b0⟩
open Classical in
theorem Q6{f:`a1}(hp:`GM)(hc:`b5)(hi:`o2)(hg:`Ic)(hb:`at7)
  (hs:`iD:=by intro _;rfl):PSD X `aoM (J1 gi f G):=.mk λH₀ B₀ δ pins s σ H D I hq72=>by
 obtain⟨r,en,e1,k⟩:=hq72
 unfold J1 at e1;obtain⟨B,b1,b2,env⟩:=`ct;cases e2:`uW with
 | none=>rw[e2] at e1;cases e1
 | some items =>
  rw[e2] at e1;simp only[`w] at e1;have a7:PG X tg (`WR):=λpins s σ H v u Q I r ⟨B,d,δ,h⟩=>hg B d δ `j s σ H v u Q I r h
  have b3:PSs X `hR (λD σ H=>∃H₀ B₀ δ,`at8):=λpins s σ H D I ⟨`a_,`aL,δ,h⟩=>`at9
  refine Sf0 hp hc (hi B δ) a7 b3 hs `j s σ H D I ⟨`a',env,e2,λJ H1 s1 it=>?_⟩;obtain⟨Hh,O⟩:∃Hh:Hp,Hh=λb=>`WS:=`aM
  have a0:∀b,¬B b->Hh b=H1 b:=λb n=>by rw[O];exact `V λz=>n z.1
  have Z:∀b,B b->¬`aL b->Hh b=`c:=λb n n'=>by rw[O];exact `J ⟨n,n'⟩
  have a4:∀b,`aL b->Hh b=H1 b:=λb n=>by rw[O];exact `V λz=>z.2 n
  have a3:`eV Hh H1:=⟨λb o h=>by
   by_cases z:`OQ
   ·rw[Z b z.1 z.2] at h;cases h
   ·rw[O] at h
    have h':(`WS)=`aj:=h;rw[`V z] at h';exact h',λb o xs h=>by
   by_cases z:`OQ
   ·have h0:=`WT b o xs (s1.nf b o xs h)
    rw[(b2 b z.1).resolve_left z.2] at h0;cases h0
   ·rw[O]
    show (`WS)=_;rw[`V z];exact h⟩
  have hS:`eV `a_ Hh:=⟨λb o h=>by
   have h1:=s1 b o (`jo b o h)
   by_cases z:B b
   ·rcases b2 b z with q|q
    ·rw[a4 b q];exact h1
    ·rw[h] at q;cases q
   ·rw[a0 b z];exact h1,λb o xs h=>`WT b o xs (s1.nf b o xs (a3 b _ h))⟩
  have a1:=`Cu;have start:`es X.K Hh `aL H1 σ δ:=by
   refine⟨a3,⟨B,b1,`jy,a1⟩,`atV,`jy⟩
   ·by_cases q:`qf
    ·exact `iB
    ·exact `i (Z a z q)
   ·have hn:=`nG i ds a h1 h2
    have nb:¬`qf:=λz=>`ln a z hn
    obtain⟨o,e3,a',e4,hB,_⟩:=`B3 a1.all h1;rw[h2] at e3;cases e3;cases e4;exact Z a hB nb
   ·rw[a4 a z]
    exact a1.bad a `Pf
  refine⟨λi m σ H=>m=`gW - i/\i<=`gW/\∃δi,`es X.K Hh `aL H σ δi/\W5 f G (`u! i) δi=`di,⟨_,rfl,`eW,δ,start,e1⟩,?_⟩;rintro i m σi Hi ⟨rfl,b4,δi,M,ei⟩;have gr:Gr H1 Hi B B:=λb o n h=>⟨n,M.same b o (`at')⟩
  by_cases hlt:`If
  ·refine `i ⟨it.go i Hi gr hlt,fun σ' H'=>∃δn,`es X.K Hh `aL H' σ' δn/\W5 f G (`Ih) δn=`di,fun σ' H' ⟨δn,en',e'⟩=>⟨`WU,`h,rfl,hlt,δn,en',e'⟩,λx H' y=>?_⟩
   obtain⟨sm,d,hd,rd⟩:=it.yld i Hi x H' gr y hlt;obtain⟨B',c1,c2,env0⟩:=M.ex;have a8:Rp X.K H' B' d x:=rd B' (λb o n h=>by
    have h':Hh b=`aj:=`at'
    refine⟨`g',sm b o (M.same b o h')⟩;rcases c2 b z with q|q
    ·exact n (b1 b q)
    ·rw[h'] at q;cases q) env0.bad
   have a5:=env0.same sm
   replace M:=M.grow sm
   have a2:`u! i=d::`Ih:=by
    rw[`sE hlt];congr 1;rw[`d2 hlt] at hd;exact B2 hd
   rw[a2] at ei;unfold W5 at ei;cases e3:f d δi with
   | none=>rw[e3] at ei;cases ei
   | some δ2 =>
    rw[e3] at ei;simp only[`w] at ei;refine⟨B',d,δi,δ2,a8,a5,e3,fun σ' w en'=>?_⟩;have a6:`es X.K Hh `aL H' σ' δ2:=M.wr c1 c2 (`nB _) w en';cases e4:G δ2 with
    | none=>rw[e4] at ei;cases ei
    | some rb =>
     rw[e4] at ei;refine⟨Hh,`aL,δ2,rb,a6,e4,?_⟩;cases rb with
     | nx δn=>exact `at!
     | ct δn=>exact `at!
     | bk δn =>
      cases ei;exact fun σ' H' en'=>k σ' H' (en'.lower hS `ln)
     | rt d' =>
      cases ei;exact λv H' s' r'=>k v H' (hS.trans s') r'
     | rf d' =>
      cases ei;exact λp H' hp s' r'=>k p H' (hS.free hp) (hS.trans s') r'
  ·have e:i=`gW:=`h
   subst e;refine `m ⟨it.stop _ Hi gr `aV,?_⟩;rw[`WV] at ei;cases ei;exact k σi Hi (M.lower hS `ln)
structure PFD(X:Cx)(ifs:`ci)(g:`fQ):Prop where
 mk::go:`at?
instance{X:Cx}{ifs:`ci}{g:`fQ}:`eF (PFD X ifs g) (λ_=>`at?):=⟨PFD.go⟩
theorem R4:PFD X [] noT:=.mk λB δ pins s σ H Q I hq73=>by
 obtain⟨b,en,e,k⟩:=hq73
 cases e;exact Rt0 `j s σ H Q I (k H `dg)
theorem eg0(h:`H'):PFD X [c] gt:=.mk λB δ=>S50 `b'
theorem Yr0{σ:St}(h:j<n):`fx[j]?=`d?:=by
 unfold K5;rw[`f4 `kx,`x!,`iH]
theorem t30:∀n:Nat,`bC `B1 (`et n (`c:`el)) (`aua)
 | 0=>`ae
 | n+1=>`au `ku (t30 n)
theorem j60{σ:St}(en:`cs):∀caps:`k,`bC `B1 (`arR) (`asJ)
 | []=>`ae
 | j::`dA=>by
  refine `au ?_ (j60 en `dA);show SlR K H B `Os (ks0 `nu);cases h:`nu with
  | none=>trivial
  | some sl =>
   cases sl with
   | un=>trivial
   | ow ds=>trivial
   | ex c n=>trivial
   | sh d =>
    obtain⟨v,e,r⟩:=en.get h;rw[e];exact`aty
theorem X80{o:`aK Sl}{ds:D}(h:ks0 o=`OF):`bM:=by
 cases o with
 | none=>cases h
 | some s=>cases s<;>cases h
theorem pt0{ds:D}(h:`nv[i]?=`B2):`bM:=by
 unfold xk0 at h
 by_cases hi:i<n
 ·rw[`G!,`x!,`J hi] at h
  cases h
 ·rw[`Vw,`cj] at h
  cases q:`dA[i - (`aua).length]? with
  | none=>rw[q] at h;cases h
  | some j =>
   rw[q] at h;exact X80 (B2 h)
theorem Env.comp{σ:St}(en:`cs)(n:Nat)(caps:`k):Env K H B `fx `nv :=
 ⟨Pd.app (t30 n) (j60 en `dA),en.bad,`aub⟩
theorem SlR.gr{o:`el}{s:Sl}(g:`hr)(no:∀ds,s≠`OF)(h:`atv):SlR K H' B' o s:=by
 cases s with
 | un=>trivial
 | sh d=>obtain⟨v,e,r⟩:=h;exact`yF
 | ow ds=>exact `L rfl (no ds)
 | ex c n=>obtain⟨a,e,r⟩:=h;exact⟨a,e,`qh⟩
theorem Pd.impG(g:`hr):∀{σ:St} {δ:Ds},(∀(i:Nat) (ds:D),`cg≠`B2)->`att->`bC (SlR K H' B') σ δ:=by
 intro σ δ no p
 induction p with
 | nil=>exact `ae
 | cons r t ih=>exact `au (r.gr g λds z=>no 0 ds (by rw[← z];rfl)) (ih λi ds z=>no `a4 ds (`WW))
noncomputable def tDF(K:`M)(B:BS)(δ:Ds)(g:`b6):TE:=fun σ H Q=>∃d,`cs/\`oY/\`auc
structure PDF(X:Cx)(e:`G)(g:`b6):Prop where
 mk::go:`aud
instance{X:Cx}{e:`G}{g:`b6}:`eF (`sF) (λ_=>`aud):=⟨PDF.go⟩
theorem tD.toF{σ:St}{Q:VK}(h:tD K B δ g σ H Q):tDF K B δ g σ H Q:=by
 obtain⟨d,en,e,k⟩:=h;exact⟨d,en,e,λp H' hp s r=>k _ H' s (r.rp (λa z=>`jr) (en.free hp))⟩
theorem PDF.pd(h:`sF):`bQ:=.mk λB δ=>(`OM).imp fun σ H Q z=>z.toF
theorem k60{K:`M}{B:BS}{δ:Ds}{σ:St}{H:Hp}{Q:VK}{caps:`k}{gi:`d!}{f:`a1}{gt:`fQ}{ge:`b6}(hidx:∀j∈idx,j<n)
  (h:tDF K B δ `B9 σ H Q) :
  c70 n `dA (tDI K B δ gi) (λv σ H Q=>∃B d δ,tDG K idx f B d δ v σ H Q) (fun σ H Q=>∃B δ,tDT K B δ gt σ H Q) (fun σ H Q=>∃B δ,tD K B δ ge σ H Q) σ H Q:=by
 obtain⟨d,en,h,k⟩:=h;unfold Y0 at h;cases e1:`uW with
 | none=>rw[e1] at h;cases h
 | some items =>
  rw[e1] at h;simp only[`w] at h
  by_cases hsz:`HN
  ·rw[`J hsz] at h
   cases e2:`OA with
   | none=>rw[e2] at h;cases h
   | some out =>
    rw[e2] at h;cases h;refine⟨`a',en,e1,λJ H1 s1 it=>λL hL=>?_⟩;have Z:=`jp;have b0:¬B L:=Z.free hL;obtain⟨Bp,O⟩:∃Bp:BS,Bp=λa=>B a∨a=L:=`aM
    have a5:Bp L:=by rw[O];exact `dz
    have b1:∀a,B a->Bp a:=λa z=>by rw[O];exact `jr
    have a1:∀a,Bp a->B a∨a=L:=λa z=>by rw[O] at z;exact z
    have gr:∀{H2:Hp},`V6->Gr H1 H2 B Bp:=λ{H2} s2 b o nb hb=>⟨(λz=>by
     rcases a1 b z with q|q
     ·exact nb q
     ·subst q;rw[hL] at hb;cases hb),s2 b o hb⟩
    refine⟨λi m ys H2=>m=`gW - i/\i<=`gW/\H2 L=`Ov/\`V6/\`jd<=i/\∃pre rest,out=pre++`bB/\Rps K H2 Bp pre ys/\V1 f gt ge `nv (`u! i)=`a `bB,
     ⟨_,rfl,`eW,j6,Z5 hL,`eN,[],out,rfl,`ga,e2⟩,?_⟩
    rintro i m ys H2 ⟨rfl,b2,hD,s2,a8,pre,rest,ho,rp,ec⟩;have M:Env K H2 Bp `fx `nv:=by
     refine⟨Pd.impG (gr s2) (λi ds z=>pt0 z) (Z.comp n `dA).all,`jy,`aub⟩;rcases a1 a z with q|q
     ·exact(Z.same s2).bad a q
     ·subst q;rw[hD];exact .of rfl (λ_ _ z=>nomatch z) λ_ z=>nomatch z
    by_cases hlt:`If
    ·refine `i ⟨it.go i H2 `WX hlt,λx H3 y=>?_⟩
     obtain⟨sm,dx,a2,rx⟩:=it.yld i H2 x H3 `WX y hlt;have a7:Rp K H3 Bp dx x:=rx Bp (gr (`WY sm)) M.bad
     replace M:=M.same sm
     replace s2:=`WY sm
     replace hD:=sm _ _ hD
     replace rp:=rp.same sm
     have a0:`u! i=dx::`Ih:=by
      rw[`sE hlt];congr 1;rw[`d2 hlt] at a2;exact B2 a2
     rw[a0] at ec;unfold V1 at ec;cases e3:f dx `nv with
     | none=>rw[e3] at ec;cases ec
     | some δ' =>
      rw[e3] at ec;dsimp only at ec;refine⟨Bp,dx,`afO,δ',a7,M,e3,fun σ4 w en4=>⟨⟨w.len,λj v z=>?_⟩,?_⟩⟩
      ·by_cases hj:j∈idx
       ·rw[Yr0 (hidx j hj)] at z;cases z
       ·rw[(w.oth j hj).1];exact z
      ·cases e4:`yt with
       | none=>rw[e4] at ec;cases ec
       | some t =>
        rw[e4] at ec;refine⟨Bp,δ',t,en4,e4,λH5 s5=>?_⟩;cases t with
        | false =>
         rw[`mr];exact⟨`WU,`h,rfl,hlt,s5 _ _ hD,`WY s5,`h,pre,`bB,ho,rp.same s5,ec⟩
        | true =>
         rw[`aY];dsimp only at ec;cases e5:`BV with
         | none=>rw[e5] at ec;cases ec
         | some yd =>
          rw[e5] at ec;dsimp only at ec;cases e6:V1 f gt ge `nv (`Ih) with
          | none=>rw[e6] at ec;cases ec
          | some rest' =>
           rw[e6] at ec;cases ec;refine⟨Bp,δ',yd,en4.same s5,e5,λv H6 s6 r6=>?_⟩;have a3:H6 L=`Ov:=s6 _ _ (s5 _ _ hD);have g6:Gr H6 (upd H6 L (`s (ys++[v]))) Bp Bp:=λb o nb hb=>⟨nb,by
            rw[b7 (λz=>nb (by rw[z];exact a5))];exact hb⟩
           refine⟨a3,`h,`WU,`h,rfl,hlt,j6,⟨λb o hb=>?_,λb ob zs hb=>?_⟩,`Bb,pre++[yd],rest',by rw[ho];simp,?_,e6⟩
           ·have a4:b≠L:=λz=>by rw[z,hL] at hb;cases hb
            rw[b7 a4];exact s6 _ _ (s5 _ _ (s2 _ _ hb))
           ·by_cases z:b=L
            ·rw[z,j6] at hb;cases hb
            ·rw[b7 z] at hb
             exact s2.nf _ _ _ (s5.nf _ _ _ (s6.nf _ _ _ hb))
           ·exact(`nK ((rp.same s5).same s6) r6).mono g6
    ·have e:i=`gW:=`h
     subst e;refine `m ⟨it.stop _ H2 `WX `aV,?_⟩;rw[`WV] at ec;have a6:([]:`p)=`bB:=B2 ec;subst a6;rw[`fb] at ho;subst ho;refine k L H2 (`qq hL) `vt ⟨ys,hD,?_⟩;rw[O] at rp;exact rp
  ·rw[`V hsz] at h;cases h
theorem iw0{sc scope:`dK}{elt iter:`G}{ifs:`ci}{N':`t}{n:Nat}{caps:`k}{gi:`d!}{idx:`k}{f:`a1}{ge:`b6}
  (hc:`b5) (hsc:`kv) (ok:`sv) (hidx:∀j∈idx,j<n) (hi:`o2)
  (hg:`sG) (ht:`sH) (he:`sI)
  (hs:`iD:=by intro _;rfl) :
  `aue:=.mk λB δ =>
 (Un0 hc hsc ok (hi B δ) (g:=`WR) (tt:=`WZ) (te:=`auf)
  `aug
  `auh
  `aui hs).imp fun σ H Q h=>k60 hidx h
theorem Uq0{sc scope:`dK}{elt iter:`G}{ifs:`ci}{N':`t}{n:Nat}{caps:`k}{gi:`d!}{idx:`k}{f:`a1}{ge:`b6}
  (hc:`b5) (hsc:`kv) (ok:`sv) (hidx:∀j∈idx,j<n) (hi:`o2)
  (hg:`sG) (ht:`sH) (he:`sI)
  (hs:`iD:=by intro _;rfl) :
  `auj:=(iw0 hc hsc ok hidx hi hg ht he hs).pd
theorem f70(i:Nat){y:Str}{py spos:Pos}{sc scope:`dK}{elt iter:`G}{ifs:`ci}{N':`t}{n:Nat}{caps:`k}{gi:`d!}{idx:`k}{f:`a1}{ge:`b6}
  (hN:`hl) (hc:`b5) (hsc:`kv) (ok:`sv) (hidx:∀j∈idx,j<n) (hi:`o2)
  (hg:`sG) (ht:`sH) (he:`sI)
  (hiN:`Wf:=by rfl) (hy:`HF:=by first|exact `cO|exact `jn)
  (hsw:`Wg:=by rfl)
  (hs:`iD:=by intro _;rfl)
  (hf:`HG:=by first|exact `bL|exact `dz|assumption) :
  `auk:=.mk λH₀ B₀ δ pins s σ H D I hq74=>by
 obtain⟨r,en,e1,k⟩:=hq74
 unfold m5 at e1;obtain⟨B,b1,b2,env⟩:=`ct;cases e2:`as1 with
 | none=>rw[e2] at e1;cases e1
 | some d =>
  rw[e2] at e1;cases e1;refine c50 (i:=i) hN hiN hy hc hsc ok (hi B δ) (g:=`WR) (tt:=`WZ) (te:=`auf)
   `aug
   `auh
   `aui hsw hs hf `j s σ H D I (k60 hidx (tD.toF ⟨d,env,e2,λv H' s' r'=>k _ H' (en.wr b1 b2 s' j30 ((`WP).set i r'))⟩))
universe zz
theorem v10{N:`t}:∀{ds:`p} {vs:`C},`H?->`bC `B1 (`qF `a) (ds.map Sl.sh)
 | [],_,h=>by rw[m7] at h;subst h;exact `ae
 | `aC,_,h=>by
  rw[n6] at h;obtain⟨x,r,rfl,h1,h2⟩:=h;exact `au `Wx (v10 (N:=N) h2)
theorem zv0{es:D}(h:`B'[i]?=`atu):`bM:=by
 unfold Z9 at h
 by_cases hi:`sJ
 ·rw[`G!,`cj] at h
  cases q:ds[i]? with
  | none=>rw[q] at h;cases h
  | some d=>rw[q] at h;cases h
 ·rw[`Vw,`x!] at h
  split at h<;>cases h
section
variable{P:`_}{w:`E}
theorem okD{ps:`t}{k:Nat}{f:`K}{G:`fR}(F:`aul)(S:`sr)
  (body:`Ii)
  (hf:`aum) :
  `aun:=by
 refine `Ij
 ·rw[`am];exact`Ik
 ·refine`Il
  have en:`Im:=by
   refine`In;unfold L2.start Z9;rw[`am];exact `Io
  rcases (`vd).2 with e|⟨rfl,δ,e⟩|⟨e,hn⟩
  ·exact`auo
  ·exact`aup
  ·exact`auq
noncomputable def spN(K:`M)(f:`K):Sp:=λvs H Q _=>∃(B:BS) (ds:`p) (d:D),`H6/\`H?/\`vc/\`auc
theorem okN{ps:`t}{k:Nat}{f:`K}{G:`fR}(F:`aul)(S:`sr)
  (body:`Ii)
  (hf:`aur) :
  `aus:=by
 refine `Ij
 ·rw[`am];exact`Ik
 ·refine`Il
  have en:`Im:=by
   refine`In;unfold L2.start Z9;rw[`am];exact `Io
  exact`aut
universe zz
universe DL
namespace L2
open Spec PyProof.Rows
theorem gk0:∀{bs:`oX} {us:`ab} {i:Nat} {v:`v},`bK (`Ip) us->us[i]?=`a3->v=`dZ (`af?)
 | [],_,_,_,r,e=>by
  rw[`fy] at r;cases r;simp at e
 | b::bs,_,0,v,r,e=>by
  rw[`al] at r;cases r with
  | cons r1 r2=>simp at e;subst e;exact r1
 | b::bs,_,i+1,v,r,e=>by
  rw[`al] at r;cases r with
  | cons r1 r2=>simpa using gk0 (i:=i) r2 `jO
theorem all_range(bs:`oX):(`b? `Iq).all (`auu)=bs.all id:=by
 rw[`fY,`ix,`ix];constructor
 ·intro h b hb
  obtain⟨i,hi,rfl⟩:=`jL hb;have:=h i (`l3 hi)
  simpa [j3,hi] using `u
 ·intro h i hi
  have J:=`jB hi;have:=h bs[i] (C0 J)
  simpa [j3,J] using `u
theorem Yz0(hc:`b5):`dy X (`dU `yG) (λxs H Q=>∃(p:`f) (bs:`oX),`gY/\SqL X.K H p (`Ip)/\Q (`HP) H):=by
 intro pins s σ H xs us Q I rs h;obtain⟨p,bs,rfl,hq,q⟩:=h;obtain⟨u,rfl,ru⟩:=rs.one;cases ru;obtain⟨its,rv,pl,hz⟩:=`gw;refine call_all_walk (At0 `hq ?_);have hp:p≠`O:=by
  obtain⟨o,n,e,_⟩:=pl;exact B1 `hO
 refine⟨_,_,_,_,_,_,`auu,rfl,Walks.list (A:=`Ir) `gv `O p hp `cd,⟨`x3,pl.isList.push _⟩,?_,?_⟩
 ·intro i v s' Q' E' hP hQ
  have e:=gk0 rv (i:=i) (v:=v) (by simpa using hP);subst e;exact S2 hQ
 ·intro h' tk hk
  have e1:`je=`Iq:=by
   have:=`gX;simp at this;simp[`u]
  rw[e1,all_range];refine⟨`HP,H,`x_ (t':=tk) `arv,rfl,q⟩;refine hk b o ?_ `HD;intro z;have z':b=`O:=`WW
  subst z';exact `ase
theorem ib0:∀{ys:`t} {us:`ab},`bK (ys.map `x5) us->StrsAre us ys
 | [],_,r=>`auv
 | `yH,_,r=>by
  rw[`al] at r;cases r with
  | cons r1 r2 =>
   obtain⟨t,e⟩:=r1;subst e;exact `au y t (ib0 r2)
theorem Vv0:MtR X "str.join" (λx xs H Q=>∃(sep:Str) (p:`f) (ys:`t),x=`N sep/\`gY/\SqL X.K H p (ys.map `x5)/\`asR/\Q `asS H):=by
 intro pins s σ H x xs v us Q I rx rs h;obtain⟨sep,p,ys,rfl,rfl,hq,hz,q⟩:=h;obtain⟨t,rfl⟩:=rx;obtain⟨u,rfl,ru⟩:=rs.one;cases ru;obtain⟨its,rv,pl,_⟩:=`gw;exact join_list `hq (by simpa using ib0 rv) hz `auw
theorem part_of{o:`bN}(p:`uy u o):∃l:`aK (Int×Tok),u=partValue l/\`c1 `b9=o:=by
 cases p with
 | none=>exact⟨`c,rfl,rfl⟩
 | int i t=>exact⟨`a (i,t),rfl,rfl⟩
theorem Qp0:SlR X (λx lo hi H Q=>∃z,x=`k'/\`p0/\Q `aux H):=by
 intro pins s σ H x v vl vu lo hi sl Q I rx hs pl pu h;obtain⟨z,rfl,hz,q⟩:=h;obtain⟨t,rfl⟩:=rx;obtain⟨l,rfl,rfl⟩:=part_of pl;obtain⟨u,rfl,rfl⟩:=part_of pu;refine⟨`yg,_,F.slot_str_getitem.lookup,c9 _ _ _,wpAny_getItem_str_slice (l:=l) (u:=u) (st:=`c) ?_ rfl (post_val_or_str ⟨C4 (Txt.slice_le z _ _) hz,`auw⟩)⟩;obtain⟨o,h1,h2,h3⟩:=hs;exact`auy
universe L2
namespace DL
open Spec PyProof.Rows L2
noncomputable def tyD:D->`cC
 | `A => `al_|`cq => "bool"|`dM => `g_|`cx => `yg|`HH => `eg|`iz => `cX|`iI => `e0|`iJ => `t5
noncomputable def okT(T:`cC)(f:`fP):Prop:=∀(K:`M) (d:D),W.kitOne K (`bs (tyD d)) `ux=`a (f d)
theorem M8:okT `eg `dk:=λK d=>by cases d<;>kernel_rfl
section
theorem Yu0{T:`cC}{f:`fP}(hT:okT T f):`dy X (`dU `sK) (λxs H Q=>∃B d x,xs=[x,.ty T]/\`Cz/\Q (.bl (f d)) H):=by
 intro pins s σ H xs us Q I rs h;obtain⟨B,d,x,rfl,r,q⟩:=h;obtain⟨u,c,rfl,ru,rc⟩:=rs.two;obtain rfl:c=`h2 T:=rc;have fin:∀tk,EP X `j σ Q (`dZ (f d)) { s with toks:=tk }:=λtk=>⟨`cq,H,I.tok tk,rfl,q⟩
 have e:=hT X.K d;cases d with
 | non=>rw[U6] at r;subst r;cases (show u=`jG from ru);exact N3 W.kitx_none `f3 `lm e `du fin
 | bl y=>rw[X8] at r;subst r;cases (show u=`BD y from ru);exact N3 W.kitx_bool `f3 `lm e `du fin
 | int i=>rw[j9] at r;subst r;obtain⟨t,rfl⟩:=(show `T3 from ru);exact N3 W.kitx_int `f3 `lm e `du fin
 | str y=>rw[W4] at r;subst r;obtain⟨t,rfl⟩:=(show ∃t,u=`Nx y t from ru);exact N3 W.kitx_str `f3 `lm e `du fin
 | tup ds =>
  rw[X6] at r;obtain⟨a,xs,rfl,hq,_⟩:=r;cases `Is;obtain⟨its,_,p,_⟩:=`eR `hv;obtain⟨o,h1,h2,_⟩:=p;exact N3 W.kitx_tuple `f3 `auz e `du fin
 | lst ds =>
  rw[Y4] at r;obtain⟨a,xs,rfl,hq,_⟩:=r;cases `Is;obtain⟨its,_,p,_⟩:=`dx `hv;obtain⟨o,n,h1,h2,_⟩:=p;exact N3 W.kitx_list `f3 `auz e `du fin
 | dct ks ds =>
  rw[vm0] at r;obtain⟨a,xs,rfl,_,hq,_⟩:=r;cases `Is;cases ks with
  | inl ks =>
   obtain⟨_,_,vs,_,p⟩:=(show `b_ `bf X.w H `W a (`Wu) from `auA);obtain⟨o,es,ep,h1,h2,_⟩:=p;exact `auB
  | inr ks =>
   obtain⟨_,_,vs,_,o,es,ep,h1,h2,_⟩:=(show `b_ `bf X.w H `W a (`Wv) from `auA);exact `auB
 | fn ks ds =>
  rw[du0] at r;obtain⟨a,xs,rfl,hq,_⟩:=r;cases `Is;obtain⟨oF,_,_,_,_,_,_,_,_,⟨_,h1⟩,⟨h2,_⟩,_⟩:=hq;exact N3 KfT.kit `f3 ⟨oF,(`bt a _ h1).1,h2⟩ e `du fin
theorem ym0{T:`cC}{f:`fP}{Tn:Str}{p p2 pos:Pos}(hT:okT T f)(hb:`fo Tn=`a `ux)(hm:`cv `sK=`c)(hmT:`cv Tn=`c)(h:`bQ)(hg:Gl X `sK := by rfl)(hgT:Gl X Tn:=by rfl)
  (hn:Tn ≠`AV := by decide) (hd:(Tn==`uj)=`r:=by decide)
  (he:`eQ [e,`Ca] `F=`pU::`W_:=by rfl) (he2:`W_=(`r,`cL (`Ca) `F)::`js:=by rfl)
  (hpl:(`gL pos (`W_)).any `b9=`r:=by rfl) :
  PD X (`bT (`bD `sK p) [e,`Ca] [] pos) (O5 f g) :=
 .mk λB δ=>(s30 (Yu0 hT) hg hm PyProof.Rows.boot_isinstance (yc0 `b' (yc0 (V30 (v:=.ty T) hgT hmT hb rfl hn hd) we0 he2) he) `l `l he hpl).imp fun σ H Q hq75=>by
  obtain⟨d,en,h,k⟩:=hq75
  unfold O5 at h;cases e1:`aB with
  | none=>rw[e1] at h;cases h
  | some x =>
   rw[e1] at h;cases h;exact⟨x,en,e1,λv H1 s1 r1=>⟨B,x,v,rfl,r1,k _ H1 s1 (`B4)⟩⟩
theorem ol0{C:`Vh}[∀i j,`mD (C i j)]{g:`GY}{g':`auC}(hg:`auD):Op2 K (rI C g) (ii λi j=>if C i j then `a `OX else `c):=by
 intro H B x y dx dy d Q hb rx ry h k;cases dx<;>cases dy<;>simp only[ii] at h<;>try cases h
 rename_i i j;split at h
 ·cases h
  rw[j9] at rx ry;subst rx ry;exact⟨i,j,rfl,rfl,`mE,`auE⟩
 ·cases h
theorem rc0{g:`GY}{g':`auC}(hg:`auD):Op2 K (rI0 g) (ii λi j=>`a `OX):=by
 intro H B x y dx dy d Q hb rx ry h k;cases dx<;>cases dy<;>simp only[ii] at h<;>try cases h
 rename_i i j;rw[j9] at rx ry;subst rx ry;exact⟨i,j,rfl,rfl,`auE⟩
instance decDiv(i j:Int):`mD (Yt0 i j):=inferInstanceAs (`mD (`G_))
instance decPow(i j:Int):`mD (Xk0 i j):=inferInstanceAs (`mD (`Vj))
variable{a:`G}{ga:`b6}
theorem Z30(ha:`dt)(hb:`ea):PD X (`nc a .Sub b pos) (o2 ga gb Y80):=tx0 Sa0 (rc0 (g':=`aoZ) `yI) ha hb
theorem R3(ha:`dt)(hb:`ea):PD X (`nc a .FloorDiv b pos) (o2 ga gb V0):=tx0 Vm0 (ol0 (C:=Yt0) (g':=`ao1) `yI) ha hb
theorem X7(ha:`dt)(hb:`ea):PD X (`nc a .Mod b pos) (o2 ga gb Z6):=tx0 Sx0 (ol0 (C:=`ao2) (g':=`ao3) `yI) ha hb
theorem cg0(ha:`dt)(hb:`ea):PD X (`nc a .Pow b pos) (o2 ga gb iu0):=tx0 Sl0 (ol0 (C:=Xk0) (g':=`ao4) `yI) ha hb
universe zz
universe DL
namespace L2
open Spec PyProof.Rows
noncomputable def Wl0(K:`M):R2:=λx y H Q=>∃l b xs zs,`Hs/\`oS/\SqL K H l xs/\`auF/\`auG/\∀p,`dh->Q `dD (upd H p `W0)
theorem Ug0:OpR X `x4 (Wl0 X.K):=by
 intro pins s σ H x y v u Q I rx ry h;obtain⟨l,b,xs,zs,rfl,rfl,hH,hB,hz,q⟩:=h;cases rx;cases ry;obtain⟨its,r,p1,z1⟩:=`dx hH;obtain⟨J,r2,p2,z2⟩:=`dx hB;obtain⟨⟨cls,dd,data,sl⟩,ho,hc,n,hd⟩:=`e3;obtain⟨⟨a3,a2,data2,a1⟩,Z,O,n2,M⟩:=`gd;simp only at hc hd O M;subst hc hd O M;have e:`cd++`wd=(its++J).toArray:=`a!
 have a0:`auH:=by
  rw[`bF,`bF,← `am,← `nI];exact hz
 refine r8 `Ha ⟨_,Z,rfl⟩ noFill_list_add seq_list_add PySem.F.slot_list_add PySem.F.entry_list_add (PySem.F.args_list_add_2 _ _) (list_addW l b `cd `wd n n2 dd a2 sl a1 a0) ⟨ho,Z,?_⟩;rw[e];exact⟨`aa _,_,I.lnew (t':=`aG) (`G4 r2) (`aqA),rfl,q _ I.fresh⟩
universe L2
namespace DL
open Spec PyProof.Rows L2
section
variable{a:`G}{ga:`b6}
theorem ld0(hb:`u6){p:`f}(h:`dh):¬B p:=λz=>hb p z h
theorem qn0{p:`f}{xs:`C}(hb:`u6)(h:`dh)(r:`bg):Rp K (upd H p `m8) B `BT `dD:=by
 rw[Y4];exact⟨p,xs,rfl,`m ⟨ld0 hb h,`m j6⟩,`auI⟩
theorem ma0{p:`f}{xs:`C}(hb:`u6)(h:`dh)(r:`bg):Rp K (upd H p `kQ) B `p? `dD:=by
 rw[X6];exact⟨p,xs,rfl,⟨ld0 hb h,j6⟩,`auI⟩
theorem yz0:Op2 K (rI0 `Vk) ltD:=rc0 (g':=`Vk) `It
theorem bx0:Op2 K (rI0 `Vl) leD:=rc0 (g':=`Vl) `It
theorem br0:Op2 K (rI0 `Vm) gtD:=rc0 (g':=`Vm) `It
theorem R80:Op2 K (rI0 `Vn) geD:=rc0 (g':=`Vn) `It
theorem Ry0{x y:V}{dx dy:D}{b:`X}(rx:`H7)(ry:`atE)(h:eqS dx dy=`h_):`ao6/\`ao7=b:=by
 cases dx<;>cases dy<;>simp only[eqS] at h<;>try cases h
 all_goals
  simp only[U6,X8,j9,W4] at rx ry;subst rx ry;refine`Ql;simp
theorem Q8:Op2 K rEq eqD:=by
 intro H B x y dx dy d Q hb rx ry h k;unfold eqD at h;cases e:eqS dx dy with
 | none=>rw[e] at h;cases h
 | some b =>
  rw[e] at h;cases h;obtain⟨h1,h2⟩:=Ry0 rx ry e;exact⟨h1,by rw[h2];exact `yA⟩
theorem qf0:Op2 K `ao8 rj0:=by
 intro H B x y dx dy d Q hb rx ry h k;have hy:dy=`A:=by cases dy<;>first|rfl|cases h
 subst hy;cases h;rw[U6] at ry;refine`auJ;rw[X8];cases dx<;>simp only[U6,X8,j9,W4,X6,Y4,vm0,du0] at rx
 all_goals first
  | (subst rx;rfl)
  | (obtain⟨a,xs,rfl,_⟩:=rx;rfl)
theorem Qf0(xs:`cD)(i:Int):`auK=DL.atI xs i:=rfl
theorem tc0(n d:Nat)(o:`bN):`gR n d o=sIx n d o:=by cases o<;>rfl
theorem fo0{xs:`C}{i:Int}{d:D}(r:`bg)(h:DL.atI ds i=`a5):∃v,`auK=`a3/\`dQ:=by
 rw[Qf0];unfold DL.atI at h ⊢;rw[`am];cases e:DL.ixN `b1 i with
 | none=>rw[e] at h;cases h
 | some j =>
  rw[e] at h;exact `rU h
theorem S20:Op2 K (rIx K) ixD:=by
 intro H B x y dx dy d Q hb rx ry h k;cases dx<;>cases dy<;>simp only[ixD] at h<;>try cases h
 ·split at h
  ·rename_i hz
   rw[W4] at rx;rw[j9] at ry;subst rx ry;obtain⟨c,hc,rfl⟩:=`sL;exact `i (`i ⟨_,_,c,rfl,rfl,hz,hc,`WG⟩)
  ·cases h
 ·rw[X6] at rx
  rw[j9] at ry;subst ry;obtain⟨a,xs,rfl,q,r⟩:=rx;obtain⟨v,hv,rv⟩:=fo0 r h;exact `i (`auL)
 ·rw[Y4] at rx
  rw[j9] at ry;subst ry;obtain⟨a,xs,rfl,q,r⟩:=rx;obtain⟨v,hv,rv⟩:=fo0 r h;exact `auL
theorem o6(ha:`dt)(hb:`ea)(hs:m80 b:=by exact `mB):PD X `Hl (o2 ga gb ixD):=Py0 Qw0 S20 ha hb hs
structure PDO(X:Cx)(e:`qm)(g:`HO):Prop where
 mk::go:`auM
instance{X:Cx}{e:`qm}{g:`HO}:`eF (PDO X e g) (λ_=>`auM):=⟨PDO.go⟩
theorem xt0:PDO X `c z70:=.mk λB δ pins s σ H Q I hq76=>by
 obtain⟨o,en,h,k⟩:=hq76
 cases h;exact T30 `j s σ H Q I (k H `dg)
theorem zy0(h:`bQ):PDO X `NR (`g7 g):=.mk λB δ pins s σ H Q I hq77=>by
 obtain⟨o,en,hq,k⟩:=hq77
 unfold someO at hq;cases e1:`aB with
 | none=>rw[e1] at hq;cases hq
 | some d =>
  rw[e1] at hq;cases d<;>simp[asI] at hq
  subst hq;exact Uy0 `b' `j s σ H Q I ⟨_,en,e1,λv H' s' r=>⟨_,`auN,k H' s'⟩⟩
theorem ee0{xs:`C}(r:`bg)(lo hi:`bN):Rps K H B (`qj ds lo hi) (`Br):=by
 unfold cutD q90;rw[`am,tc0,tc0];exact(`Ob _).take _
theorem z30{d:D}{xs:`C}(h:Rps K H B [d] xs):∃v,xs=[v]/\`dQ:=by
 rw[n6] at h;obtain⟨x,r,rfl,h1,h2⟩:=h;rw[m7] at h2;subst h2;exact`Wx
theorem Sc0:FnR K (λxs H Q=>(`aq3)∨∃p ys,`gY/\(`W1∨`W2)/\`aq1) Y6:=by
 intro H B xs ds d Q hb r h k;unfold Y6 at h;split at h
 ·split at h
  ·cases h
   obtain⟨v,rfl,r1⟩:=`hw;rw[W4] at r1;subst r1;exact `m ⟨_,rfl,`mE,`CB⟩
  ·cases h
 ·cases h
  obtain⟨v,rfl,r1⟩:=`hw;rw[Y4] at r1;obtain⟨a,ys,rfl,q,rr⟩:=r1;exact `i ⟨a,ys,rfl,`m `c2,`auO⟩
 ·cases h
  obtain⟨v,rfl,r1⟩:=`hw;rw[X6] at r1;obtain⟨a,ys,rfl,q,rr⟩:=r1;exact `i ⟨a,ys,rfl,`i `c2,`auO⟩
 ·cases h
theorem U9(hm:`auP)(ha:`auQ)(hg:`auR := by rfl)(he:`iK:=by rfl)(hpl:`gy:=by rfl) :
  PD X (`bT `auS [e] [] pos) (oA gA Y6):=pr0 (ih0.or js0) Sc0 hm B40 ha hg `l `l he hpl
theorem lh0:∀{ds:`p} {xs:`C} {bs:`oX},`bg->`uX ds=`W3->xs=`Ip
 | [],_,_,r,h=>by
  cases h;rw[m7] at r;exact r
 | `aC,_,bs,r,h=>by
  rw[n6] at r;obtain⟨x,t,rfl,r1,r2⟩:=r;cases d<;>simp only[`uX] at h<;>try cases h
  obtain⟨t',e,rfl⟩:=`sL;rw[X8] at r1;rw[r1,lh0 r2 e];rfl
theorem Qd0:FnR K (λxs H Q=>∃(p:`f) (bs:`oX),`gY/\SqL K H p (`Ip)/\Q (`HP) H) Ym0:=by
 intro H B xs ds d Q hb r h k;unfold Ym0 at h;split at h
 ·obtain⟨bs,e,rfl⟩:=`sL
  obtain⟨v,rfl,r1⟩:=`hw;rw[Y4] at r1;obtain⟨a,ys,rfl,q,rr⟩:=r1;have:=lh0 rr e;subst this;exact⟨a,bs,rfl,`c2,`yA⟩
 ·cases h
theorem ik0:∀{ds:`p} {xs:`C} {bs:`t},`bg->rh0 ds=`W3->xs=`OV `x5
 | [],_,_,r,h=>by
  cases h;rw[m7] at r;exact r
 | `aC,_,bs,r,h=>by
  rw[n6] at r;obtain⟨x,t,rfl,r1,r2⟩:=r;cases d<;>simp only[rh0] at h<;>try cases h
  obtain⟨t',e,rfl⟩:=`sL;rw[W4] at r1;rw[r1,ik0 r2 e];rfl
theorem U50{apos cpos:Pos}(ho:PD X o g)(ha:`auQ)(hbase:`nm o "join" `F `Bw=`A8:=by rfl)
  (hfew:(`W4
  &&`I ([e].length+`Cq+`Cr<30))=`b:=by rfl)
  (hline:`kt:=by rfl) (hs:`iK:=by rfl) (hplain:`W5:=by rfl) :
  PD X (`bT (`nn o "join" `k!) [e] [] `dY) (qj0 g gA):=.mk λB δ =>
 (c20 F.plainAttrs_str F.slot_str_join F.type_str_join Vv0 (ho B δ) `bP `nS hfew `nT hs `Hp).imp fun σ H Q hq78=>by
  obtain⟨d,en,h,k⟩:=hq78
  unfold qj0 at h;cases e1:`aB with
  | none=>rw[e1] at h;cases h
  | some x =>
   cases e2:`cw with
   | none=>rw[e1,e2] at h;cases h
   | some ds =>
    rw[e1,e2] at h;simp only[`w] at h;unfold ku0 at h;split at h
    ·cases e3:rh0 _ with
     | none=>rw[e3] at h;cases h
     | some ys =>
      rw[e3] at h;simp only[`w] at h;split at h
      ·cases h
       refine⟨_,en,e1,`Po⟩;rw[W4] at r1;subst r1;refine⟨rfl,_,`jp,e2,λvs H2 s2 r2=>?_⟩;obtain⟨w,rfl,r3⟩:=z30 r2;rw[Y4] at r3;obtain⟨a,zs,rfl,q,rr⟩:=r3;have:=ik0 rr e3;subst this;exact⟨_,a,ys,rfl,rfl,`c2,`mE,k _ H2 `vt `OK⟩
      ·cases h
    ·cases h
theorem zj0:FnR K (λxs H Q=>∃p ys,`gY/\((`W1/\`aq8)∨(`W2/\Q `dD H))) Q3:=by
 intro H B xs ds d Q hb r h k;unfold Q3 at h;split at h
 ·cases h
  obtain⟨v,rfl,r1⟩:=`hw;rw[Y4] at r1;obtain⟨a,ys,rfl,q,rr⟩:=r1;exact⟨a,ys,rfl,`m ⟨`c2,λl hl=>k _ _ `CC (ma0 hb hl rr)⟩⟩
 ·cases h
  obtain⟨v,rfl,r1⟩:=`hw;have J:=r1;rw[X6] at r1;obtain⟨a,ys,rfl,q,rr⟩:=r1;exact⟨a,ys,rfl,`i ⟨`c2,k _ H `dg J⟩⟩
 ·cases h
universe zz
section
variable{a:`G}{ga:`b6}
theorem vp0(h:`dt):PD X (`NO .USub a pos) (unG wu0 ga):=.mk λB δ=>(Px0 Qh0 `b').imp fun σ H Q hq79=>by
 obtain⟨d,en,h,k⟩:=hq79
 unfold unG at h;cases e1:`jj with
 | none=>rw[e1] at h;cases h
 | some x =>
  rw[e1] at h;cases x<;>simp[wu0] at h
  subst h;exact⟨_,en,e1,λv H' s r=>⟨_,`auN,k _ H' s `u7⟩⟩
theorem Yp0:PD X `sM `DL:=.mk λB δ pins s σ H Q I hq80=>by
 obtain⟨d,en,h,k⟩:=hq80
 cases h;have hb:`yJ:=`Iu;have hf:`yj:=`f6;refine v3 ⟨`ce,_,`ge (a:=`O) (o:=`Iv) (t':=`aG) `qE `aV
  ⟨`eW,`yK,[],`ae,`auT `W⟩,rfl,k _ _ (Z5 hf) ?_⟩
 rw[uz0];exact⟨_,[],rfl,en.free hf,j6,rfl,`ga⟩
noncomputable def FnD(P:`_)(w:`E)(K:`M)(mg:`bR)(base:`H)(x:Str)(k:Nat)(ps:`t)(f:`K):Prop :=
 ∃(fa:`f) (fd:`eC),`auU/\`auV
theorem d8{k:Nat}{ps:`t}{f:`K}(C:FnD `bf X.w X.K `cv `eO x k ps f)(hr:`sN)(hk:k<=m)(ha:`iG)(hg:`d':=by rfl)(hdb:`bq:=by decide)
  (he:`dO:=by rfl) (hpl:`gx:=by rfl):`yE:=by
 obtain⟨fa,fd,F,hm,kp,hb⟩:=C;exact Uk0 F `PA hm kp hb ha hg hdb he hpl
theorem K6{sc scope:`dK}{elt iter tg:`G}{ifs:`ci}{N N':`t}{n:Nat}{caps:`k}{gi:`d!}{idx:`k}{f:`a1}{gt:`fQ}{ge:`b6}
  (ok:`Iw) (hidx:∀j∈idx,j<n) (hi:`o2)
  (hg:`sG) (ht:`sH) (he:`sI)
  (hc:`b5:=by rfl) (hsc:`kv:=by rfl) (hN:X.N=N:=by rfl) (hs:`iD:=by intro _;rfl) :
  `auj:=Uq0 hc hsc (hN▸ok) hidx hi hg ht he hs
theorem Yc0(i:Nat){y:Str}{py spos:Pos}{sc scope:`dK}{elt iter tg:`G}{ifs:`ci}{N N':`t}{n:Nat}{caps:`k}{gi:`d!}{idx:`k}{f:`a1}{gt:`fQ}{ge:`b6}
  (hnd:`GD) (ok:`Iw) (hidx:∀j∈idx,j<n) (hi:`o2)
  (hg:`sG) (ht:`sH) (he:`sI)
  (hc:`b5:=by rfl) (hsc:`kv:=by rfl) (hN:X.N=N:=by rfl)
  (hiN:`Wf:=by rfl) (hy:`HF:=by first|exact `cO|exact `jn)
  (hsw:`Wg:=by rfl)
  (hs:`iD:=by intro _;rfl)
  (hf:`HG:=by first|exact `bL|exact `dz|assumption) :
  `auk:=f70 i (hN▸hnd) hc hsc (hN▸ok) hidx hi hg ht he hiN hy hsw hs hf
universe zz
universe DL
namespace DL
open Spec PyProof.Rows
@[simp] noncomputable def fz:D->Sl
 | `x [`iz,`iz]=>.un
 | d=>.sh (unl d)
@[simp] noncomputable def zz0:Sl->Sl
 | `ve=>fz d
 | s=>s
@[simp] noncomputable def frz(δ:Ds):Ds:=δ.map zz0
@[simp] noncomputable def flat:`fP
 | `A=>`b|`cq=>`b|`dM=>`b|`cx=>`b|_=>`r
@[simp] noncomputable def v60(g:GE):GE:=fun δ=>`W6 λd=>if `auW then `a5 else `c
@[simp] noncomputable def uv0(g:GB):GB:=`auX
@[simp] noncomputable def xr0(g:GE):GE:=`auX
@[simp] noncomputable def frzAt(i:Nat)(δ:Ds):Ds:=match `cg with
 | `a s=>`df i `W7
 | `c=>δ
@[simp] noncomputable def Tq0(i:Nat)(G:GS):GS:=fun δ=>G (frzAt i δ)
@[simp] noncomputable def N7(i:Nat)(g:GE):GS:=fun δ=>`sw λd=>.nx `vl
abbrev GX:=Ds->`aK (D×Ds)
@[simp] noncomputable def z10(g:GE):GX:=fun δ=>`sw λd=>(d,δ)
variable{gx:DL.GX}
@[simp] noncomputable def J2(gx:GX)(ft:`a1):GS:=fun δ=>(`o3).bind λr=>(ft r.1 r.2).map .nx
@[simp] noncomputable def Y7(gx:GX):GS:=fun δ=>(`o3).map λr=>.nx r.2
@[simp] noncomputable def owL(i:Nat)(δ:Ds):`ns:=match `cg with
 | `auY=>`nw
 | _=>`c
@[simp] noncomputable def S9(i:Nat)(g:GE):GX:=fun δ=>`Ix λds=>`dP λd=>if `b1<`R then `a (`A,`auZ) else `c
@[simp] noncomputable def ny0(i:Nat)(g:GE):GX:=fun δ=>`Ix λds=>`dP λd=>match d with
 | `s es=>if `b1+`jA<=`R then `a (`A,`au_) else `c
 | _=>`c
@[simp] noncomputable def l40(i:Nat):GX:=fun δ=>`Ix λds=>(`au0).map λd=>(d,`au1)
@[simp] noncomputable def setAt(i:Nat)(g:GE):`a1:=λv δ=>`Ix λds=>`dP λd=>match d with
 | `n8=>(ixN `b1 k).map λj=>`au2
 | _=>`c
abbrev V9:=`Oy
@[simp] noncomputable def yv0:D->`aK V9
 | `ap=>`a (`oH)
 | `cV=>`a (`mk)
 | _=>`c
variable{ks:`au3}
noncomputable def q70:`p->`aK (`eZ)
 | []=>`mx
 | `aC=>`W8 λk=>(`Iy).map (k::·)
@[simp] noncomputable def z60:D->`aK (`eZ)
 | `bO=>`Iy
 | _=>`c
noncomputable def K1{κ:Type}[`ky]:`kz->`p->κ->`cN
 | `hx,`aC,q=>if k=q then `a5 else `au4
 | _,_,_=>`c
noncomputable def T9{κ:Type}[`ky](ks:`kz)(k:κ):`X:=ks.any λq=>`I (q=k)
noncomputable def W6{κ:Type}[`ky](ks:`kz)(k:κ):`kz:=if `W9 then ks else ks++[k]
noncomputable def V4{κ:Type}[`ky](ks:`kz)(ds:`p)(q:κ)(v:D):`p:=if `sO=`b then `au5 (`agX) else ds++[v]
@[simp] noncomputable def s70(i:Nat)(δ:Ds):`aK (`au6):=match `cg with
 | `a (.ow (`HX))=>`au7
 | _=>`c
@[simp] noncomputable def putAt(i:Nat)(g:GE):`a1:=λv δ=>`au8 λr=>`dP λd=>`W8 λk =>
 if `W'<`R then `a (`df i (.ow (`aW (`m `au9) `au'))) else `c
@[simp] noncomputable def mx0(i:Nat)(δ:Ds):`au!:=match `cg with
 | `a (.ow (`aW (`lT) ds))=>`au7
 | _=>`c
@[simp] noncomputable def u40(i:Nat)(g:GE):`a1:=λv δ=>(`W!).bind λr=>`dP λd=>`au? λk =>
 if `W'<`R then `a (`df i (.ow (`aW (`i `au9) `au'))) else `c
@[simp] noncomputable def G8:`bz
 | `sz,d=>match ks with
  | `nz=>`W8 `ava
  | `lT=>`au? `ava
 | _,_=>`c
@[simp] noncomputable def S7(neg:`X):`bz
 | d,`sz=>match ks with
  | `nz=>(`Cd).map `avb
  | `lT=>(z60 d).map `avb
 | _,_=>`c
noncomputable def S8(gt:GB)(G:GS):Nat->`fR
 | 0,_=>`c
 | n+1,δ=>match `nt with
  | `b7=>`B!
  | `fh=>match G δ with
   | `dC=>`avc
   | `oV=>`avc
   | `oW=>`dC
   | r=>r
  | `c=>`c
@[simp] noncomputable def ze0(i j:Nat):`a1
 | `W?,δ=>`a ((`df i (.sh a)).set j (.sh b))
 | _,_=>`c
mutual
noncomputable def deq:D->`fP
 | `A,`A=>`b
 | .bl a,`en=>a==b
 | .bl a,`o4=>(if a then 1 else 0)==b
 | `e a,`en=>a==(if b then 1 else 0)
 | `e a,`o4=>a==b
 | `N a,`HQ=>a==b
 | `ek,`Og=>`Xa
 | `f1,`uE=>`Xa
 | _,_=>`r
noncomputable def G4:`p->`Xb
 | [],[]=>`b
 | `sj,`yH=>`Xc&&`Xa
 | _,_=>`r
end
mutual
noncomputable def lean:D->`yL
 | `iI,_=>`r
 | `iJ,_=>`r
 | `ek,n+1=>`Xd
 | `f1,n+1=>`Xd
 | `HH,0=>`r
 | `iz,0=>`r
 | _,_=>`b
noncomputable def leans:`p->`yL
 | [],_=>`b
 | `sj,n=>`bo x n&&`Xd
end
@[simp] noncomputable def vt0(x y:D):`cN:=if `avd then `a (.bl (`Xc)) else `c
@[simp] noncomputable def W7(x y:D):`cN:=if `avd then `a (.bl (!`Xc)) else `c
@[simp] noncomputable def intOfD:`K
 | [`ap]=>`UO
 | [`pT]=>`a (`N3)
 | _=>`c
@[simp] noncomputable def zp0:`K
 | `sy=>`mz
 | [`bO]=>`mz
 | _=>`c
noncomputable def mkF(n:Nat)(N:`t)(G:GS)(ds:`p):`cN:=if `sP then (match `va with
 | `vb=>`a5
 | `nC=>`ave
 | `a (.nx _)=>`ry
 | _=>`c) else `c
theorem X3{G:GS}{d:D}(h:`avf):`sP/\`af8:=by
 unfold mkF at h;split at h
 ·rename_i hl
  refine`avg;split at h
  ·rename_i e;cases h;exact `ql
  ·rename_i e
   split at h
   ·cases h
   ·rename_i hn
    cases h;exact `i (`i `avh)
  ·rename_i e;cases h;exact `i (`m ⟨rfl,_,e⟩)
  ·cases h
 ·cases h
noncomputable def mkN(n:Nat)(N:`t)(G:GS)(ds:`p):`cN:=if `sP then (match `va with
 | `nC=>`ave
 | _=>`c) else `c
theorem yl0{G:GS}{d:D}(h:`avi):`sP/\`OT:=by
 unfold mkN at h;split at h
 ·rename_i hl
  refine`avg;split at h
  ·rename_i e
   split at h
   ·cases h
   ·rename_i hn
    cases h;exact`avh
  ·cases h
 ·cases h
theorem N8{G:GS}{d:D}(hl:`sP)(h:`af6)(hn:`OS:=by rfl):`avi:=by
 unfold mkN;rw[`o_,h];simp only[];rw[hn];rfl
@[simp] noncomputable def zt0(g:GE):GS:=fun δ=>`sw .rf
@[simp] noncomputable def l30(i:Nat):GS:=fun δ=>match `cg with
 | `Cs=>`nC
 | _=>`c
theorem O3{G1 G2:GS}{d:D}(h:`uZ=`nC):`HR=`nC:=`Wq
theorem zk0{g:GE}{d:D}(h:`oY):zt0 g δ=`nC:=by unfold zt0;rw[h];rfl
theorem j7{G:GS}{d:D}(hl:`sP)(h:`af7):`avf:=by
 unfold mkF;rw[`o_,h]
theorem p6{G1 G2:GS}{r:`uV}(h:`asZ)(k:G2 δ'=r):`HR=r:=(S70 h).trans k
@[simp] noncomputable def Z3:`bz
 | `ap,`eo=>`a (`aeZ)
 | `cV,`N y=>if `qC+y.length<=`R then `a (`N (x++y)) else `c
 | `f1,`uE=>if `Hh then `a (`s `Bt) else `c
 | `ek,`Og=>if `Hh then `avj else `c
 | _,_=>`c
noncomputable def Y20(x:Str)(n:Int):Str:=`Xe
@[simp] noncomputable def J0:`bz
 | `ap,`eo=>`avk
 | _,_=>`c
@[simp] noncomputable def slA(d:D)(lo hi:`bN):`cN:=match d with
 | `k'=>if `p0 then `a `aux else `c
 | `f1=>`a (`s (`Xf))
 | `ek=>`a (`x (`Xf))
 | _=>`c
@[simp] noncomputable def J9(g:GE)(gl gh:GO):GE:=fun δ=>`dP λd=>(gl δ).bind λl=>(gh δ).bind λh=>slA d l h
universe DL
variable{ks:`au3}{gx:DL.GX}
namespace Dep
open Spec PyProof.Rows
section
variable{w:`E}{K:Type}[`yM]{knd:`sQ}{A:`T}{s:`q}{d:`f}{xs:`Iz}{k:K}{Q:`oL}
noncomputable def At(knd:`sQ)(h:`H)(d:`f)(xs:`Iz):Prop :=
 ∃o es ep,`Xg/\`xM/\`xN/\`Gh=`mY (`vh knd)/\(∀x∈xs,`vg h x.1 `DC)/\`amz
theorem At.old{h:`H}(x:At knd h d xs):`Xh knd d xs:=by obtain⟨o,es,ep,a,b,c,e,f,g,_⟩:=x;exact⟨o,es,ep,a,b,c,e,f,g⟩
theorem put(hu:`IA A)(hkey:`IB)(hm:`avl)
  (hQ:`avm) (hsz:`d9) :
  `g `ao A (`avn) Q E s:=by
 obtain⟨o,es,ep,ho,hc,hd,he,J,hn,hp⟩:=hm;unfold dictSet
 try with_reducible refine `h4
 refine `avo;unfold dictSetHashed
 try with_reducible refine `h4
 refine A0 (`avp (s:=`mF) hu hkey ho hd he J hn ?_ ?_)
 ·intro O
  have M:=`avq O;have Z:k∉`mY `b9:=`avr O;refine A0 (D2 (`avs (hz:=`avt) (s:=`mF) ho hd (hQ _ ?_ `lk)));rw[storedH_new M];refine⟨_,_,ep+1,`avu,`avv,`O6,`avw,`dj,?_,`Wm⟩
  ·rcases `iL with hx|hx
   ·exact `Ch (J x hx) ho hd `lk
   ·rw[`yN];exact `avx
  ·rw[`bI,`yO]
   exact`avy
 ·intro j p hj
  have a0:=`avz;refine A0 (D2 (A0 (wpAny_updateDict (s:=`mF) ho hd (wpAny_point (hQ _ ?_ `lk)))));rw[storedH_old a0];refine⟨_,_,ep,P4 _ ho (B50 (`avA)),hc.mapDict _,`avA,?_,`dj,?_,`Wm⟩
  ·have:=modify_map_putAt (`vh knd) (λe:`BC=>{ e with val:=v }) k v (`mB) hn hj
   rw[← he] at this;obtain⟨l⟩:=es
   simpa using `u
  ·obtain⟨y,hy,rfl⟩:=`iM
   unfold putAt;split<;>exact `Ch (J y hy) ho hd `lk
  ·rw[keys_map_putAt];exact hn
theorem set(hu:`IA `bV)(hkey:`IB)(hm:`avl)
  (hQ:`avm) (hsz:`d9) :
  `g `ao A (`A9 `yP `bJ v) Q E s:=by
 have ty:=hm.old.typeIs;unfold setItem
 try with_reducible refine `h4
 refine A0 (B00 ty `l ?_);refine A0 (D8 (name:=`pZ `avB) ty `avC (C8 `avC ty entry_dict_setitem ?_ (args_dict_setitem _ _ _)));show `g _ _ (Builtin.Dict.notOrdered `avB ⟨[`ll,`cH,v],[]⟩>>=_) _ _ s;refine A0 (k9 ty ?_);show `g _ _ (`avn>>=_) _ _ s;exact A0 (put hu hkey hm (λh' M J=>A1 ⟨`aF,rfl,A1 (hQ h' M J)⟩) hsz)
universe zz
universe Dep
namespace L2
open Spec PyProof.Rows
section
variable[`ky]
noncomputable def R9(kvs:`fL)(k:κ):`el:=(kvs.find? `O7).map `cZ
noncomputable def putK(kvs:`fL)(k:κ)(v:V):`fL :=
 if `IC=`b then `O' (λkv=>if `Cj then (`f!,v) else kv) else kvs++[(k,v)]
theorem xv0{p:`AO}{r:`fL}{k:κ}(e:`mG):`avD=`uf:=`avE
theorem xw0{p:`AO}{r:`fL}{k:κ}(e:¬`mG):`avD=R9 r k:=`avE
theorem g90(k:κ):∀kvs:`fL,`IC=(`jt).isSome
 | []=>rfl
 | p::r=>by
  rw[`ID]
  by_cases e:`mG
  ·simp only[`yQ,`bS e,Bool.true_or,Option.isSome_some]
  ·rw[`o5,`bZ e,Bool.false_or];exact g90 k r
theorem y90(kvs:`fL)(k:κ)(v:V):`agt<=`kR+1:=by
 unfold putK;split
 ·rw[`Y];omega
 ·rw[`ad,`a0,`gl];omega
theorem RelO.isSome_eq{o:`el}{u:`kM}(r:RelO o u):`Xi=u.isSome:=by
 cases o with
 | none=>cases u with
  | none=>rfl
  | some _=>exact`Vo
 | some _=>cases u with
  | none=>exact`Vo
  | some _=>rfl
theorem KV.val{kvs:`fL}{vs:`rX}(r:`kT)(k:κ):RelO `Co (`avF):=by
 unfold KV at r
 induction r with
 | nil=>exact `lm
 | @cons p q ps qs h t ih =>
  obtain⟨h1,h2⟩:=h
  by_cases e:`mG
  ·have e':`sR:=`Cl
   have b:`avG=`a q.2:=`avH
   rw[`yQ,b];exact h2
  ·have e':¬`sR:=`Cm
   have b:`avG=`Ck qs k:=`avH
   rw[`o5,b];exact ih
theorem KV.any{kvs:`fL}{vs:`rX}(r:`kT)(k:κ):`IC=`avI:=by
 unfold KV at r
 induction r with
 | nil=>rfl
 | cons h t ih=>rw[`ID,`ID,ih,h.1]
theorem KV.repl{kvs:`fL}{vs:`rX}(r:`kT)(k:κ){y:V}(ry:`gu) :
  KV `avJ (`qF λkv=>if `Cj then (`f!,u) else kv):=by
 unfold KV at r ⊢
 induction r with
 | nil=>exact `ae
 | @cons p q ps qs h t ih =>
  rw[`al,`al];refine `avK;obtain⟨h1,h2⟩:=h
  by_cases e:`mG
  ·rw[`iN,`avL];exact⟨h1,ry⟩
  ·rw[`hy,`avM];exact`E1
theorem KV.put{kvs:`fL}{vs:`rX}(r:`kT)(k:κ){y:V}(ry:`gu):KV (`ju kvs k y) (stored vs k u):=by
 unfold putK stored;rw[r.any k]
 by_cases e:(`avI)=`b
 ·rw[`iN,`iN];exact `avN
 ·rw[`hy,`hy];exact `Xj r ⟨rfl,ry⟩
theorem KV.length{kvs:`fL}{vs:`rX}(r:`kT):`kR=`bm:=k0 r
universe zz
theorem oy0{P:`_}{w:`E}{k:Key}(r:`avO):(V2 P w).is k u=`b:=by
 cases k with
 | inl i=>obtain⟨t,e⟩:=(show `T3 from r);subst e;exact gv0 P w i t
 | inr x=>obtain⟨t,e⟩:=(show `amr from r);subst e;exact gz0 P w x t
theorem lv0{P:`_}{w:`E}:∀{ks:`cI} {us:`ab},`bK (`l' kV) us->ItemsAre `AP ks us
 | [],_,r=>`auv
 | `hx,_,r=>by
  rw[`al] at r;cases r with
  | cons h t=>exact `au (oy0 h) (lv0 t)
abbrev KT(H:Hp):`mm->`ki->Prop:=`bC λp q=>`ad9
theorem KT.val{xs:`ki}(r:`sS)(k:`cI):`avP:=by
 induction r with
 | nil=>exact `lm
 | @cons p q ps qs h t ih =>
  obtain⟨h1,_,h2⟩:=h
  by_cases e:`mG
  ·have e':`sR:=`Cl
   have b:`O!=`a q.2:=`IE
   rw[`yQ,b];exact h2
  ·have e':¬`sR:=`Cm
   have b:`avQ:=`IE
   rw[`o5,b];exact ih
theorem KT.repl{xs:`ki}(r:`sS)(k:`cI){y:V}(ry:`gu) :
  KT H `avJ (`mY (`ls k u)):=by
 induction r with
 | nil=>exact `ae
 | @cons p q ps qs h t ih =>
  rw[`al,`al];refine `avK;obtain⟨h1,h2,h3⟩:=h;unfold putAt
  by_cases e:`mG
  ·rw[`iN,`avL];exact⟨h1,h2,ry⟩
  ·rw[`hy,`avM];exact⟨h1,h2,h3⟩
theorem KT.put{xs:`ki}(r:`sS)(k:`cI){b:`f}{y:V}(hb:`lr)(ry:`gu) :
  KT H (`ju kvs k y) (storedH xs k b u):=by
 have e:`IC=`avR:=by
  rw[g90,(r.val k).isSome_eq,`avS]
 unfold putK storedH;rw[e]
 by_cases q:`avR=`b
 ·rw[`J q,`J q];exact `avN
 ·rw[`V q,`V q];exact `Xj r ⟨rfl,hb,ry⟩
theorem KT.keeps{xs:`ki}(r:`sS)(ht:∀b ys,H b=`vL->`hG=`vL):KT H' kvs xs :=
 `Gl r λ_ _ z=>`amF
section
variable{P:`_}{w:`E}{h:`H}
theorem V00{u:HO}(ok:`eE)(e:Rd H a u):`amJ:=e.ok ok
theorem oi0{kvs:`gf}(ok:`eE)(e:`Xk):`T! :=
 show `b_ P w H h a `uH from V00 ok e
theorem o70{kvs:`gf}(ok:`eE)(e:`sT):`T!:=oi0 ok (`ql)
theorem te0{ks:`cI}(ok:`eE)(e:H a=`a (`x (`l' kV))):`avT h ks a:=by
 obtain⟨_,its,r,o,h1,h2,n,h3,_⟩:=(show `b_ P w H h a (`x (`l' kV)) from `Xl);exact⟨o,`cd,n,h1,h2,h3,by simpa using lv0 r⟩
theorem nn0(ok:`eE)(e:`IF):`kS/\`hH /\
  ∃xs,`sS/\Dep.At `T? h a xs:=by
 obtain⟨z,y,xs,r,o,es,ep,h1,h2,h3,h4,h5,h6⟩:=(show `b_ P w H h a `Bv from V00 ok e);refine⟨z,y,xs,r,o,es,ep,h1,h2,h3,h4,`dj,h5,h6⟩;have all:∀{l:`mm} {m:`ki},KT H l m->∀x∈m,`avT h x.1 `DC:=by
  intro l m q
  induction q with
  | nil=>intro x hx;exact nomatch hx
  | @cons p q ps qs hq t ih =>
   intro x hx;rcases `st with e|hx
   ·subst e
    exact te0 ok (by rw[← hq.1];exact hq.2.1)
   ·exact ih x hx
 exact `avU
theorem kv0(ok:`eE)(e:`IF):`kS/\`hH /\
  ∃xs,`sS/\`Xh `T? a xs:=by
 obtain⟨z,y,xs,r,d⟩:=nn0 ok e;exact⟨z,y,xs,r,d.old⟩
universe zz
noncomputable def DGet(H:Hp)(a:`f)(y:V)(r:`el):Prop :=
 (∃kvs k,`Xk/\y=kV k/\r=`jt)∨∃kvs k b,`IF/\`oS/\`lr/\r=`jt
noncomputable def DPut(H:Hp)(a:`f)(y v:V)(H':Hp):Prop :=
 (∃kvs k,`sT/\y=kV k/\`iO/\H'=`Xm) ∨
 ∃kvs k b,`Xn/\`oS/\`lr/\`iO/\H'=`avV
theorem DGet.k{kvs:`gf}{k:Key}(e:`sT):DGet H a (kV k) `Co:=`m ⟨kvs,k,`ql,rfl,rfl⟩
theorem DGet.t{b:`f}{k:`cI}(e:`Xn)(eb:`lr):DGet H a `jw `Co:=`i ⟨kvs,k,b,`ql,rfl,eb,rfl⟩
theorem DPut.k{kvs:`gf}{k:Key}{v:V}(e:`sT)(hl:`iO):DPut H a (kV k) v (`Xm):=`m ⟨kvs,k,e,rfl,hl,rfl⟩
theorem DPut.t{b:`f}{k:`cI}{v:V}(e:`Xn)(eb:`lr)(hl:`iO) :
  DPut H a `jw v (`avV):=`i ⟨kvs,k,b,e,rfl,eb,hl,rfl⟩
section
variable{σ:St}{s:`q}{y v:V}{r:`v}{o:`el}{A:`T}
theorem Inv.big(I:`B):`yJ:=by
 have h:`age:=`agd;exact L1 `l h
theorem bq0(hu:`ss)(I:`B)(g:DGet H a y `pF)(ry:`gu)(h:∀w' s',`P5->`dV v w'->Q w' s') :
  `g `ak A (`ng `bJ u) Q E s:=by
 rcases g with⟨kvs,k,e,ey,l⟩|⟨kvs,k,b,e,ey,eb,l⟩
 ·subst ey
  obtain⟨z,hd,vs,rel,dd⟩:=`IG;obtain⟨w',hw,J⟩:=`avW (v:=v) (o:=`avF) `avX;exact wpAny_getItem_of `IH dd.mapOf hw (`avY)
 ·subst ey
  cases `II;obtain⟨z,hd,xs,rel,dd⟩:=`IJ;obtain⟨w',hw,J⟩:=`avW (v:=v) (o:=`agq) `avX;obtain⟨p,hp,M⟩:=`li hw;refine wpAny_getItem_heap `IK `yR dd hp ?_;rw[M];exact `avY
theorem Te0(hu:`ss)(I:`B)(g:`avZ)(ry:`gu)(h:∀s',`P5->Q (`dZ (!`Xi)) s') :
  `g `ak A (`eq `sh u `bJ) Q E s:=by
 rcases g with⟨kvs,k,e,ey,l⟩|⟨kvs,k,b,e,ey,eb,l⟩
 ·subst ey
  obtain⟨z,hd,vs,rel,dd⟩:=`IG;refine wpAny_notIn_of `IH hd dd.mapOf ?_;rw[← `av_,← l];exact h _ (`ep)
 ·subst ey
  cases `II;obtain⟨z,hd,xs,rel,dd⟩:=`IJ;refine wpAny_notIn_heap `IK `yR hd dd ?_;have q:=`av_;rw[`avS] at q;rw[← q,← l];exact h _ (`ep)
theorem vl0{t':Nat}{ob:HO}(I:`B)(mu:Mut (H a))(hs:`ane)(he:`Xo)(new:`b_ `bf X.w (upd H a ob) h' a ob) :
  Inv X `j σ (upd H a ob) `m3 :=
 `VM (x:=a) (e:=a) mu `i8 (λb q hb z=>(`fq b hb).trans z) he new
theorem Zf0{P:`_}{w:`E}{H':Hp}{kvs:`gf}{vs:`Xp}(z:`kS)(hd:`hH)(rel:`kT)(dd:h'.DictOf `AP a vs) :
  `b_ P w H' h' a `uH:=⟨z,hd,vs,rel,dd⟩
theorem by0{Q:`oL}(hu:`ss)(I:`B)(g:DPut H a y v H')(ry:`gu)(rv:`yS)(h:∀s',`km->`UC) :
  `g `ak A (`A9 `bJ u r) Q E s:=by
 rcases g with⟨kvs,k,e,ey,l,eH⟩|⟨kvs,k,b,e,ey,eb,l,eH⟩
 ·subst ey eH
  obtain⟨z,hd,vs,rel,dd⟩:=`av0;have hz:`IL:=`av1
  have hl:`yT:=`yU
  refine wpAny_setItem_pairs (hsz:=hz) `IH dd `av2
  have he:`Xo:=`av3
  exact `av4
 ·subst ey eH
  cases `II;obtain⟨z,hd,xs,rel,dd⟩:=`Xq;have hz:`d9:=`IM
  have hl:`yT:=`yU
  refine Dep.set `IK `yR dd (`av2) hz;obtain⟨q,es,ep,hq,h2,h3,h4,_,h5⟩:=J;refine `Xr;rw[`IN];exact ec
universe zz
noncomputable def Zw0(i:`G):Prop:=∀ov iv,`Hk i `r ov iv=`VG [ov,iv] (`ng ov iv)
theorem Vi0{prog:`_}{w:`E}{A:`T}{E:`af}{s:`q}{env:Env}{value slice:`G}{pos:Pos}{T id:`cC}{Q:`af}
  (hl:`aqp) (hs:Zw0 `ms)
  (h:`g `ao A (`cL `sp env) (λo s₁=>`g `ao A (`cL `ms env) (λi s₂=>s₂.TypeIs o T/\`g `ao A (`ng o i) Q E s₂) E `d_) E s) :
  `g `ao A (`cL (`pK `sp `ms pos) env) Q E s:=by
 refine `VA (E2 h (λo s₁ h₁=>E2 `eX (λi s₂ h₂=>?_) `GE) `GE);obtain⟨hT,h₂⟩:=`mw;unfold subscriptTail;refine `ca;rw[getitemInPython_of_ne hT.not_modules];refine A0 (L3 hT hl ?_);have fin:`g `ao A (`Hk `ms `r o i) (λr s₃=>`g `ao A (letTemporaryGo `sp o r>>=λ_=>`ai r) Q E s₃) E s₂:=by
  rw[hs o i];exact wpAny_operating (E2 `mw (λr s₃ h₃=>A0 (wpAny_letTemporaryGo (A1 h₃))) `GE)
 first
  | exact `av5
  | exact A0 (`av5)
  | exact A0 fin
theorem f80{σ:St}{s:`q}{y:V}{o:`el}(I:`B)(g:`avZ):`av6 := by
 rcases g with⟨kvs,k,e,_,_⟩|⟨kvs,k,b,e,_,_,_⟩
 ·obtain⟨_,_,vs,_,dd⟩:=`IG
  exact `vk
 ·obtain⟨_,_,xs,_,dd⟩:=`IJ
  exact `vk
noncomputable def Oi0(td ty:TE):TE:=fun σ H Q=>td σ H λx H1=>ty σ H1 λy H2=>∃a v,`ff/\DGet H2 a y `pF/\Q v H2
noncomputable def Tl0(ty td:TE):TE:=fun σ H Q=>ty σ H λy H1=>td σ H1 λx H2=>∃a o,`ff/\DGet H2 a y o/\Q (.bl (!`Xi)) H2
section
variable{i:`G}{td ty:TE}
theorem Vr0(hu:`o6)(ho:`IO)(hi:PE X i ty)(hs:Zw0 i):PE X `UW (Oi0 td ty):=by
 intro pins s σ H Q I h;refine Vi0 PySem.F.slot_dict_getitem.lookup hs (thn `r9 λu s1 hq81=>?_);obtain⟨x,H1,I1,rx,q1⟩:=hq81;refine thn `an7 λiv s2 hq82=>?_;obtain⟨y,H2,I2,ry,a,v,ex,g,q2⟩:=hq82;subst ex;obtain rfl:u=`i6:=rx;exact⟨f80 I2 g,bq0 hu I2 g ry λw' s3 I3 J=>⟨v,H2,I3,J,q2⟩⟩
theorem b50(hu:`o6)(hi:PE X i ty)(ho:`IO):PC X `sh i o (Tl0 ty td):=by
 intro pins s σ H Q I h;refine thn `GW λiv s1 hq83=>?_;obtain⟨y,H1,I1,ry,q1⟩:=hq83;refine thn (ho `j s1 σ H1 _ I1 q1) λu s2 hq84=>?_;obtain⟨x,H2,I2,rx,a,ov,ex,g,q2⟩:=hq84
 subst ex;obtain rfl:u=`i6:=rx;exact Te0 hu I2 g ry λs3 I3=>⟨.bl (!ov.isSome),H2,I3,rfl,q2⟩
universe zz
theorem Xb0{P:`_}{w:`E}(h:`H)(hb:`Xs):`b_ P w H `Xt `dX (`Iv) :=
 ⟨`eW,`yK,[],`ae,`auT h⟩
theorem pd0{P:`_}{w:`E}(h:`H)(hb:`Xs):`b_ P w H `Xt `dX `vO :=
 ⟨`eW,`yK,[],`ae,_,#[],0,`cW,`av7,rfl,rfl,U2,rfl⟩
noncomputable def R70:TE:=λ_ H Q=>∀p,`dh->Q `dD (upd H p (`Iv))
noncomputable def Rl0:TE:=λ_ H Q=>∀p,`dh->Q `dD (upd H p `vO)
theorem X70:PE X `sM R70:=λpins s σ H Q I h =>
 v3 ⟨`ce,_,`ge (a:=`O) (o:=`Iv) (t':=`aG) `qE `aV (Xb0 `W I.big),rfl,`Xu⟩
theorem Zy0:PE X `sM Rl0:=λpins s σ H Q I h =>
 v3 ⟨`ce,_,`ge (a:=`O) (o:=`Pd) (t':=`aG) `qE `aV (pd0 `W I.big),rfl,`Xu⟩
noncomputable def bv0:`Xv->St->Hp->(`av8)->Prop
 | [],_,H,Q=>Q [] H
 | (tk,tv)::r,σ,H,Q=>tk σ H λx H1=>tv σ H1 λy H2=>bv0 r σ H2 λps H3=>Q (`yV::ps) H3
abbrev VV:`nF->`Z (`v×`v)->Prop:=`bC λp q=>`dV p.1 q.1/\`amv
noncomputable def PPs(X:Cx)(pos:Pos)(keys:`av9)(values:`ci)(trs:`Xv):Prop :=
 ∀(pins:`ay) (s:`q) (σ:St) (H:Hp) (Q:`av8),`B->bv0 trs σ H Q ->
  `g `ak X.A (evalPairs (pairTrees keys values `F pos)) (λvs s'=>∃ps H',`km/\VV ps vs/\Q ps H') `aE s
theorem Va0:PPs X pos [] [] []:=λpins s σ H Q I h=>pairTrees_nil_walk `apm
theorem Xg0{k v:`G}{ks:`av9}{vs:`ci}{tk:TE}{trs:`Xv}(hk:PE X k tk)(hv:PE X v tv)(hr:PPs X pos ks vs trs) :
  PPs X pos (`eG::ks) (`hz) ((tk,tv)::trs):=λpins s σ H Q I h =>
 pairTrees_cons_walk (thn (hk `j s σ H _ I h) λu s1 ⟨x,H1,I1,rx,q1⟩=>thn (hv `j s1 σ H1 _ I1 q1) λw2 s2 ⟨y,H2,I2,ry,q2⟩ =>
  thn (hr `j s2 σ H2 _ I2 q2) λws s3 ⟨ps,H3,I3,rel,q3⟩=>⟨`yV::ps,H3,I3,`au ⟨rx,ry⟩ rel,q3⟩)
structure M2(X:Cx)(o:`G)(m:Str)(apos:Pos)(e f:`G)(cpos:Pos):Prop where
 base:`nm o m `F `Bw=`A8
 few:(`Xw
 &&`Xx)=`b
 line:`kt
 trees:`Xy
noncomputable def IsD(H:Hp)(a:`f):Prop:=(∃kvs,`Xk)∨∃kvs,`IF
theorem Tx0{σ:St}{s:`q}(I:`B)(d:IsD H a) :
  `av6/\(∀b,`i6=`k7->∃ob,`pH=`xQ/\`aq9)/\`hH:=by
 rcases d with⟨kvs,e⟩|⟨kvs,e⟩
 ·obtain⟨_,hd,vs,_,dd⟩:=`IG
  refine`av';cases q;obtain⟨ob,_,_,h1,h2,_⟩:=dd;exact`av!
 ·obtain⟨_,hd,xs,_,dd⟩:=`IJ
  refine`av';cases q;obtain⟨ob,_,_,h1,h2,_⟩:=dd;exact`av!
universe L2
namespace DL
open Spec PyProof.Rows L2
section
variable{σ σ':St}
theorem Gr.fresh{p:`f}{o:HO}(h:`dh):Gr H `WF B `u?:=λb u n e=>by
 have hb:b≠p:=S6 e h;exact⟨λz=>`qn n hb,by rw[b7 hb];exact e⟩
theorem Gr.own{o:HO}(h:B a):Gr H `kj B B:=λb u n e=>⟨n,by rw[b7 (λz=>n (by rw[z];exact h))];exact e⟩
theorem RpO.mono{d:D}(s:`Ws)(g:`hr)(h:`oZ):RpO K H' B' d a:=by
 cases d<;>try exact `cE
 ·obtain⟨xs,e,r⟩:=h;exact⟨xs,s _ e,`qh⟩
 ·obtain⟨xs,e,l,r⟩:=h;exact⟨xs,s _ e,l,`qh⟩
theorem RpL.mono{d:D}(s:`Ws)(g:`hr)(h:`le):RpL K H' B' d a:=by
 cases d with
 | tup es =>
  rcases h with⟨ds,q,xs,e,r⟩|⟨ks,vs,q,ts,xs,q1,e,q2,r⟩
  ·exact `m ⟨ds,q,xs,s _ e,`qh⟩
  ·exact `i ⟨ks,vs,q,ts,xs,q1,s _ e,q2,`qh⟩
 | _=>exact(RpO.mono s g `sA).toL
theorem Pd.impI{F G:`oJ}:∀{l:`cD} {m:`oK},(∀(i:Nat) a b,`H1->`atq->`aef)->`atr:=by
 intro l m h p
 induction p with
 | nil=>exact `ae
 | cons r t ih=>exact `au (h 0 _ _ rfl rfl r) (ih λi a b e1 e2=>h `a4 a b (`yy) `nZ)
theorem u20:∀{l:`cD} {i:Nat} {a:α},`H1->`WC=l
 | [],_,_,h=>`iE
 | x::l,0,a,h=>by simp at h;subst h;rfl
 | x::l,i+1,a,h=>by rw[`Xz,u20 `kx]
theorem Pd.setR{F:`oJ}{a:α}{b:β}(r:`AT){l:`cD}{m:`oK}(e:`H1)(h:`u4):`bC F l `ats:=by
 have:=`yz r i h
 rwa [u20 e] at this
theorem get_set{l:`cD}{a b:α}(h:(`WC)[j]?=`h_):(i=j/\a=b/\`F9)∨(i≠j/\l[j]?=`h_):=by
 by_cases e:i=j
 ·subst e
  by_cases hl:i<`b8
  ·rw[`H3] at h
   exact `m ⟨rfl,B2 h,hl⟩
  ·rw[`H4] at h;cases h
 ·rw[`kZ e] at h
  exact `i ⟨e,h⟩
theorem Env.at(e:`cs){d:D}(h:`agz):∃a,`qg/\`atp:=by
 obtain⟨o,h1,a,rfl,hb,r⟩:=`atx;exact⟨a,h1,hb,r⟩
theorem Env.mut(e:`cs){d0 d:D}{o:HO}(hi:`av?)(hs:`qg)(r:RpL K `kj B d a):Env K `kj B σ `vl:=by
 obtain⟨a',h1,hb,_⟩:=e.at hi;rw[hs] at h1;cases h1;refine⟨?_,`V3,λj k b ds es h1 h2 h3 h4=>?_⟩
 ·
  have h0:`bC (λ(o':`el) (s:Sl)=>SlR K `kj B o' s∨`awa) σ δ:=`vm (λo' s h=>by
   cases s with
   | un=>exact `m `ku
   | ex c n=>obtain⟨v,e,r⟩:=h;exact `awb
   | sh d=>obtain⟨v,e,r⟩:=h;exact `awb
   | ow d =>
    obtain⟨b,e,M,r⟩:=h
    by_cases z:b=a
    ·subst z;exact `awc
    ·exact `m ⟨b,e,M,`f8 (λo h=>by rw[b7 z];exact h) `h1⟩) `lf
  have h1:=Pd.setR (i:=i) (b:=Sl.ow d) (`m `awd) hs h0;refine `XA (λj o' s e1 e2 h=>?_) h1;rcases h with h|⟨d',rfl,rfl⟩
  ·exact h
  ·rcases `f? e2 with⟨rfl,e3,_⟩|⟨J,e3⟩
   ·cases e3;exact`awd
   ·exact `L (`nA i j a d0 d' hi e3 hs e1) J
 ·by_cases z':b=a
  ·subst z';exact r.live
  ·rw[b7 z'];exact `jx b z
 ·have q1:∃d,`nu=`Cs:=by
   rcases `o7 with⟨rfl,_,_⟩|⟨_,h⟩
   ·exact`awe
   ·exact`IP
  have q2:∃d,δ[k]?=`Cs:=by
   rcases `o8 with⟨rfl,_,_⟩|⟨_,h⟩
   ·exact`awe
   ·exact`IP
  obtain⟨d1,q1⟩:=q1;obtain⟨d2,q2⟩:=q2;exact `nA j k b d1 d2 q1 q2 h3 h4
theorem EnvS.mut(en:`eI)(s:`ch)(b1:`o0)(b2:`o1){d0 d:D}{o:HO}(hi:`av?)(hs:`qg)
  (env:Env K (upd H' a o) B σ `vl):`es K `a_ `aL (upd H' a o) σ `vl:=by
 have h0:=`nG i d0 a hi hs;have J:i<`H2:=`UD;refine⟨⟨λb u h=>?_,λb ob xs h=>?_⟩,⟨B,b1,b2,env⟩,λj ds b h1 h2=>?_,`ln⟩
 ·have:b≠a:=λz=>by rw[z,h0] at h;cases h
  rw[b7 `u];exact s _ _ (`jo b u h)
 ·by_cases z:b=a
  ·obtain⟨a',e1,_,ro⟩:=env.at (i:=i) (by rw[`NK J])
   rw[hs] at e1;cases e1;rw[z] at h;exact `L h (ro.plain ob xs)
  ·rw[b7 z] at h
   exact `WT b ob xs (s.nf b ob xs h)
 ·rcases `o7 with⟨rfl,_,_⟩|⟨_,h⟩
  ·rw[hs] at h2;cases h2;exact h0
  ·exact `nG j ds b h h2
theorem EnvS.take(en:`eI)(b1:`o0)(b2:`o1)(e:`cs)(i:Nat){d:D}{p:`f}(hp:`dh)(s:`ch)
  (r:`af4):`awf:=by
 have g:`awg:=`awh
 have J:`WO:=`XB;have live:`awi:=λ{j d' b} h1 h2=>by
  obtain⟨a,q1,q2,q3⟩:=e.at h1;rw[h2] at q1;cases q1;exact `awj
 refine`awk
 ·rcases z with z|rfl
  ·exact b2 a z
  ·exact `i J
 ·refine `yz ⟨p,rfl,`dz,r.toL⟩ i `awl
  cases sl with
  | un=>trivial
  | ex c n=>obtain⟨v,e,r⟩:=h;exact`yF
  | sh d=>obtain⟨v,e,r⟩:=h;exact`yF
  | ow d=>obtain⟨b,e,M,r⟩:=h;exact`awm
 ·rcases z with z|rfl
  ·exact`awn
  ·exact r.live
 ·rcases `o7 with⟨rfl,_,_⟩|⟨n1,h1⟩
  ·rcases `o8 with⟨rfl,_,_⟩|⟨n2,h2⟩
   ·rfl
   ·rcases `f? h3 with⟨_,e3,_⟩|⟨n3,_⟩
    ·cases e3
     rw[`IQ] at h4;exact `awo
    ·exact `IR
  ·rcases `o8 with⟨rfl,_,_⟩|⟨n2,h2⟩
   ·rcases `f? h4 with⟨_,e4,_⟩|⟨n4,_⟩
    ·cases e4
     rw[`sU] at h3;exact `awp
    ·exact `awq
   ·rw[`sU] at h3
    rw[`IQ] at h4;exact `WD
 ·rcases `o7 with⟨rfl,_,_⟩|⟨n1,h1⟩
  ·rcases `o8 with⟨_,e3,_⟩|⟨n3,_⟩
   ·cases e3;exact J
   ·exact `IR
  ·rw[`sU] at h2
   exact `XC
theorem kq0{d e:D}(h:`XD=.ow e):`bM:=by
 unfold DL.fz at h;split at h<;>cases h
theorem mg0{s:Sl}{e:D}(h:zz0 s=.ow e):`bM:=by
 cases s with
 | ow d=>exact kq0 h
 | un=>cases h
 | sh d=>cases h
 | ex c n=>cases h
theorem RpL.fz{d:D}(l:`yx)(n:¬`ny)(h:`le):SlR K H B' (`qd) (`XD):=by
 cases d with
 | tup es =>
  rcases h with⟨ds,rfl,xs,e,r⟩|⟨ks,vs,rfl,_⟩
  ·exact⟨_,rfl,RpO.rp (d:=`dB) l n ⟨xs,e,r⟩⟩
  ·trivial
 | _=>exact⟨_,rfl,RpO.rp l n `sA⟩
theorem Env.frz(e:`cs):∃B':BS,(`yx)/\(∀a,B a->`ny∨`Pg)/\Env K H B' σ `awr:=by
 refine⟨`aws,`Ct,`jy,?_,λa z=>`jx a z.1,λi j a ds es h1 _ _ _=>?_⟩
 ·by_cases q:`Pg
  ·exact `IS
  ·exact `awt
 ·have:`bC (λo s=>SlR K H (`aws) o `W7) σ δ:=`XA (λi o s e1 e2 h=>by
   cases s with
   | un=>trivial
   | ex c n=>obtain⟨v,e,r⟩:=h;exact`Ph
   | sh d=>obtain⟨v,e,r⟩:=h;exact`Ph
   | ow d =>
    obtain⟨a,rfl,hb,r⟩:=h;exact r.fz (`Ct) λz=>z.2 ⟨i,d,e2,e1⟩) `lf
  have mp:∀{l:St} {m:Ds} {F:`el->Sl->Prop},`bC (λo s=>F o `W7) l m->`bC F l (m.map zz0):=by
   intro l m F h
   induction h with
   | nil=>exact `ae
   | cons r t ih=>exact `Ga
  exact mp `u
 ·unfold DL.frz at h1
  rw[`cj] at h1;cases q:`cg with
  | none=>rw[q] at h1;cases h1
  | some s=>rw[q] at h1;exact`awu
theorem EnvS.frz(en:`eI):`es K `a_ `aL H σ `awr:=by
 obtain⟨B,b1,b2,env⟩:=`ct;obtain⟨B',c1,c2,J⟩:=env.frz;refine⟨`jo,`awv,λi ds a h1 _=>?_,`ln⟩
 ·rcases `aww with q|⟨i,d,q1,q2⟩
  ·exact q
  ·exact `awx
 ·unfold DL.frz at h1
  rw[`cj] at h1;cases q:`cg with
  | none=>rw[q] at h1;cases h1
  | some s=>rw[q] at h1;exact`awu
theorem Env.frzAt(e:`cs)(i:Nat):∃B':BS,(`yx)/\(∀a,B a->`ny∨∃(d:D),`agA)/\Env K H B' σ (DL.frzAt i δ):=by
 unfold DL.frzAt;cases h:`cg with
 | none=>exact`IT
 | some s =>
  cases s with
  | un=>dsimp only [zz0];rw[u20 h];exact`IT
  | ex c n=>dsimp only [zz0];rw[u20 h];exact`IT
  | sh d=>dsimp only [zz0];rw[u20 h];exact`IT
  | ow d =>
   obtain⟨a,h1,hb,r⟩:=e.at h;refine⟨`awy,`awz,`V3,?_,λb z=>`jx b z.1,λj k b ds es Z M h3 h4=>?_⟩
   ·by_cases q:b=a
    ·subst q;exact `i ⟨d,rfl,h1⟩
    ·exact `awt
   ·have h0:`bC (λ(o':`el) (s:Sl)=>SlR K H (`awy) o' s∨`awa) σ δ:=`vm (λo' s h=>by
     cases s with
     | un=>exact `m `ku
     | ex c n=>obtain⟨v,e,r⟩:=h;exact `awA
     | sh d=>obtain⟨v,e,r⟩:=h;exact `awA
     | ow d =>
      obtain⟨b,e,O,r⟩:=h
      by_cases z:b=a
      ·subst z;exact `awc
      ·exact `m ⟨b,e,⟨O,z⟩,`f8 `XE (`qb `Ct)⟩) `lf
    have h2:=Pd.setR (i:=i) (b:=`XD) (`m (r.fz (`awz) λz=>z.2 rfl)) h1 h0;refine `XA (λj o' s e1 e2 hh=>?_) h2;rcases hh with hh|⟨d',rfl,rfl⟩
    ·exact hh
    ·rcases `f? e2 with⟨rfl,e3,_⟩|⟨J,e3⟩
     ·exact(kq0 e3).elim
     ·exact `L (`nA i j a d d' h e3 h1 e1) J
   ·rcases `f? Z with⟨_,q,_⟩|⟨_,q1⟩
    ·exact`awB
    ·rcases `f? M with⟨_,q,_⟩|⟨_,q2⟩
     ·exact`awB
     ·exact `nA j k b ds es q1 q2 h3 h4
theorem EnvS.frzAt(en:`eI)(i:Nat):`es K `a_ `aL H σ (DL.frzAt i δ):=by
 obtain⟨B,b1,b2,env⟩:=`ct;obtain⟨B',c1,c2,J⟩:=env.frzAt i;refine⟨`jo,`awv,`agy,`ln⟩
 ·rcases `aww with q|⟨d,q1,q2⟩
  ·exact q
  ·exact `awx
 ·unfold DL.frzAt at h1
  cases q:`cg with
  | none=>rw[q] at h1;exact `XC
  | some s =>
   rw[q] at h1;rcases `o7 with⟨rfl,q',_⟩|⟨_,q1⟩
   ·exact(mg0 q').elim
   ·exact `nG j ds a q1 h2
theorem ft0{d:D}{v:V}(h:`auW)(r:`dQ):`atb:=by
 cases d<;>simp[flat] at h
 ·rw[U6] at r ⊢;exact r
 ·rw[X8] at r ⊢;exact r
 ·rw[j9] at r ⊢;exact r
 ·rw[W4] at r ⊢;exact r
universe zz
section
variable{tg:`G}{g:GE}{gt:GB}{G:GS}
theorem q60(h:`bQ):PD X e (v60 g):=.mk λB δ pins s σ H Q I hq85=>by
 obtain⟨d,en,hq,k⟩:=hq85
 obtain⟨B',c1,c2,J⟩:=`vn;unfold v60 at hq;cases e1:`nE with
 | none=>rw[e1] at hq;cases hq
 | some x =>
  rw[e1] at hq
  by_cases hf:flat x=`b
  ·simp only[`w,`IU] at hq
   cases hq;exact h B' `nD `j s σ H Q I ⟨_,J,e1,λv H' s' r=>k v H' s' (ft0 hf r)⟩
  ·simp only[`w,`XF] at hq
   cases hq
theorem m50(h:`atK):PTD X e (uv0 gt):=.mk λB δ pins s σ H Q I hq86=>by
 obtain⟨d,en,hq,k⟩:=hq86
 obtain⟨B',c1,c2,J⟩:=`vn;exact h B' `nD `j s σ H Q I ⟨d,J,hq,k⟩
theorem Ya0(i:Nat)(h:`atP):PSD X st (Tq0 i G):=.mk λH₀ B₀ δ pins s σ H D I ⟨r,en,hq,k⟩=>h `a_ `aL _ `j s σ H D I ⟨r,en.frzAt i,hq,k⟩
theorem zf0(h:`bQ):PSD X `xZ (d9 (xr0 g)):=.mk λH₀ B₀ δ pins s σ H D I ⟨r,en,hq,k⟩ =>
 m9 h `a_ `aL `nD `j s σ H D I `awC
theorem O9{gA:GA}(h:`H!):PDF X `Vq (V6 gA) :=
 .mk λB δ=>`atM fun σ H Q hq87=>by
  obtain⟨d,en,h,k⟩:=hq87
  unfold V6 at h;cases e1:`cw with
  | none=>rw[e1] at h;cases h
  | some ds =>
   rw[e1] at h
   by_cases hl:`my
   ·simp only[`w,`o_] at h
    cases h;refine⟨ds,en,e1,λvs H1 s1 r1=>⟨`af_,λp hp=>k _ _ (`qq hp) (`h0 `jq) ⟨vs,j6,r1.mono `P4⟩⟩⟩
   ·simp only[`w,`WJ] at h
    cases h
theorem ra0:PDF X `sM `DL:=.mk λB δ=>X70.imp fun σ H Q hq88=>by
 obtain⟨d,en,h,k⟩:=hq88
 cases h;exact `awD
theorem S5(i:Nat){px:Pos}(h:`sF)(hN:`hl)(hi:`cp:=by rfl)(hx:`kk:=by first|exact `cO|exact `jn)
  (hs:`NS `jz e `A6 `F=`un:=by rfl) (hw:`NT `jz e `F=`k0:=by rfl)
  (h1:`awE:=by rfl)
  (hf:`kl:=by first|exact `bL|exact `dz|assumption):PSD X (`A' `jz e pos) (N7 i g):=.mk λH₀ B₀ δ pins s σ H D I hq89=>by
 obtain⟨r,en,e1,k⟩:=hq89
 unfold N7 at e1;obtain⟨B,b1,b2,env⟩:=`ct;cases e2:`aB with
 | none=>rw[e2] at e1;cases e1
 | some d =>
  rw[e2] at e1;cases e1;exact oz0 `b' (`Id) hs hw h1 `j s σ H D I ⟨d,env,e2,λp H' hp s' r=>k _ H' (en.take b1 b2 env i hp s' r)⟩
universe zz
universe DL
namespace L2
open Spec PyProof.Rows
open PySem.AutoSeq1 (wpAny_loadPart')
theorem d00(p:`f)(xs:`aZ)(k:Nat)(q:`f)(ys:`aZ)(m:Nat)(dq:`da)(sq:`kf)(h0:¬(!xs.isEmpty&&`VT (`nM+`qw))=`b)(h1:`nM<=`R)(h2:`nM+`qw<=`R+1) :
  Meets (Builtin.«list.extend» ⟨[`ja,`aa q],[]⟩) (λ_ R s=>`em p=`a { cls:=`dv,dict:=`c,data:=`be xs k,slots:=#[] }/\`em q=`a { cls:=`dv,dict:=dq,data:=`be ys m,slots:=sq }/\R (.ok (`fk `jG)) { s with heap:=`lB p (`fB λz=>z++ys) }) :=
 `IV λprog w A R s h=>by
  obtain⟨hp,g,d,tk,os⟩:=s;obtain⟨hl,hb,h⟩:=h;have f1:=AutoSeq1.idx_int;have f2:=AutoSeq1.sub_tuple_tuple;have f3:=AutoSeq1.sub_list_list;have f4:=AutoSeq1.sub_tuple_list;have f5:=AutoSeq1.sub_list_tuple;have J:(xs++ys).size<=`R+1:=by rw[`awF];exact h2
  wp_walk using (l0 hl rfl (hz:=h1) (_hz':=J)),`yW,d5 hb
  exact`yX
noncomputable def X00(K:`M):`ks:=λx vs H Q=>∃l b xs zs,`Hs/\vs=[`k7]/\`yi/\`auF/\`auG/\Q `A (upd H l `W0)
theorem c00:MtM X "list.extend" (X00 X.K):=by
 intro pins s σ H x vs v us Q I rx rv h;obtain⟨l,b,xs,zs,rfl,rfl,hH,hB,hz,q⟩:=h;cases rx;obtain⟨u,rfl,ru⟩:=rv.one;cases ru;obtain⟨z,its,n,r,hl,e⟩:=`VU;obtain⟨J,r2,p2,z2⟩:=`dx hB;obtain⟨⟨a4,a2,data2,a1⟩,a3,Z,n2,O⟩:=`gd;simp only at Z O;subst Z O;have hl2:=`nI;have a0:`auH:=`awG
 have M:¬(!its.toArray.isEmpty&&`VT (`aga))=`b:=by
  rw[X30 a0,`XG];exact C5
 refine t0 F.slot_list_extend `VV F.entry_list_extend (F.args_list_extend_2 _ _)
  (d00 l `cd n b `wd n2 a2 a1 M `VW `d) ⟨e,a3,?_⟩
 refine⟨`A,_,I.lset (its':=its++J) hH e `Q (`G4 r2) ?_,rfl,q⟩;rw[`ad];omega
noncomputable def Tp0:`UT:=λo i v H Q=>∃a H',o=`cH/\DPut H a i v H'/\Q H'
theorem set_dict(hu:`o6):Yh0 X Tp0:=by
 intro pins s σ H o i v ov iv u Q I ro ri rv h;obtain⟨a,H',rfl,g,q⟩:=h;cases ro;exact by0 hu I g ri rv λs3 I3=>⟨H',I3,q⟩
universe L2
namespace DL
open Spec PyProof.Rows L2
section
variable{σ σ':St}
theorem Rps.set:∀{ds:`p} {xs:`C} {d:D} {v:V} (j:Nat),`bg->`dQ->Rps K H B (ds.set j d) `afn
 | [],_,_,_,_,h,_=>`HY
 | `aC,_,_,_,0,h,r=>by
  rw[n6] at h;obtain⟨y,t,rfl,h1,h2⟩:=h;rw[`XH,`XH,n6];exact⟨_,_,rfl,r,h2⟩
 | `aC,_,_,_,j+1,h,r=>by
  rw[n6] at h;obtain⟨y,t,rfl,h1,h2⟩:=h;rw[`Xz,`Xz,n6];exact⟨_,_,rfl,h1,Rps.set j h2 r⟩
theorem Rps.dropLast{xs:`C}(h:`bg):Rps K H B `agi `Hq:=by
 rw[`awH,`awH,h.length];exact h.take _
structure EnvV(K:`M)(H₀:Hp)(B₀:BS)(H:Hp)(σ:St)(δ:Ds)(d:D)(v:V):Prop where
 same:`Ib
 ex:∃B:BS,(`o0)/\(`o1)/\`cs/\`dQ
 fr:`atN
 b0:`WN
theorem EnvV.s{d:D}{v:V}(h:`XI):`eI:=⟨h.same,let ⟨B,b1,b2,e,_⟩:=h.ex;⟨B,b1,b2,e⟩,h.fr,h.b0⟩
theorem EnvV.mk'{d:D}{v:V}(h:`eI)(b1:`o0)(b2:`o1)(e:`cs)(r:`dQ):`XI:=⟨h.same,⟨B,b1,b2,e,r⟩,h.fr,h.b0⟩
universe zz
noncomputable def tX(K:`M)(H₀:Hp)(B₀:BS)(δ:Ds)(gx:GX):TE:=fun σ H Q=>∃r,`eI/\`o3=`di/\∀v H',EnvV K `a_ `aL H' σ r.2 r.1 v->`A2
structure PX(X:Cx)(e:`G)(gx:GX):Prop where
 mk::go:`awI
instance{X:Cx}{e:`G}{gx:GX}:`eF (`XJ) (λ_=>`awI):=⟨PX.go⟩
noncomputable def tTG(K:`M)(H₀:Hp)(B₀:BS)(ft:`a1)(d:D)(δ:Ds):TG:=λv σ H Q=>∃δ',`XI/\ft d δ=`BU/\∀σ' H',`atU->`aeL
structure PTG(X:Cx)(tg:`G)(ft:`a1):Prop where
 mk::go:`awJ
instance{X:Cx}{tg:`G}{ft:`a1}:`eF (`awK) (λ_=>`awJ):=⟨PTG.go⟩
section
variable{tg:`G}{g:GE}{gt:GB}{G:GS}
theorem tl0(h:`bQ):PX X e (z10 g):=.mk λH₀ B₀ δ pins s σ H Q I hq90=>by
 obtain⟨r,en,e1,k⟩:=hq90
 unfold z10 at e1;obtain⟨B,b1,b2,env⟩:=`ct;cases e2:`aB with
 | none=>rw[e2] at e1;cases e1
 | some d =>
  rw[e2] at e1;cases e1;exact h B δ `j s σ H Q I ⟨d,env,e2,λv H' s' r=>k v H' (`nH (en.grow s') b1 b2 (`WP) r)⟩
theorem or0(h:`lj=`nw):`cg=`auY:=by
 unfold owL at h;split at h
 ·cases h;assumption
 ·cases h
theorem e30{r:`au6}(h:`vf=`di):`cg=`a (.ow (`aW (`m r.1) r.2)):=by
 unfold s70 at h;split at h
 ·cases h;assumption
 ·cases h
theorem yg0(i:Nat)(h:`bQ)(hN:`cp:=by rfl)(hv:`fe:=by first|exact `cO|exact `hs|exact `ht)(hd:`bq:=by decide)(hcd:`fN:=by decide)
  (hbase:`nm `gb "append" `F `vp=`qp:=by rfl)
  (hfew:(`W4
  &&`awL)=`b:=by rfl)
  (hline:`kt:=by rfl) (hs:`iK:=by rfl) (hplain:`W5:=by rfl) :
  PX X (`bT (`nn `gb "append" `k!) [e] [] `dY) (S9 i g):=.mk λH₀ B₀ δ pins s σ H Q I hq91=>by
 obtain⟨r,en,e1,k⟩:=hq91
 unfold S9 at e1;obtain⟨B,b1,b2,env⟩:=`ct;cases e2:`lj with
 | none=>rw[e2] at e1;cases e1
 | some ds =>
  cases e3:`aB with
  | none=>rw[e2,e3] at e1;cases e1
  | some d =>
   rw[e2,e3] at e1;simp only[`w] at e1;split at e1
   ·rename_i hz
    cases e1;have hi:=`IW;obtain⟨a,M,hb,xs,hx,rx⟩:=`kA;refine c20 B70 PySem.F.slot_list_append PySem.F.type_list_append k00 `jC `awM `nS hfew `nT hs `Hp `j s σ H Q I
     ⟨_,M,`XK,d,env,e3,λv H1 s1 r1=>⟨a,xs,v,rfl,rfl,`yY,by rw[`IX];exact hz,?_⟩⟩
    have J:Env X.K (upd H1 a (`s (`XL))) B σ (`auZ):=`CI hi M ⟨_,j6,(`nK `vv r1).mono `h1⟩;exact `awN
   ·cases e1
theorem S40(i:Nat)(h:`bQ)(hN:`cp:=by rfl)(hv:`fe:=by first|exact `cO|exact `hs|exact `ht)(hd:`bq:=by decide)(hcd:`fN:=by decide)
  (hbase:`nm `gb "extend" `F `vp=`qp:=by rfl)
  (hfew:(`W4
  &&`awL)=`b:=by rfl)
  (hline:`kt:=by rfl) (hs:`iK:=by rfl) (hplain:`W5:=by rfl) :
  PX X (`bT (`nn `gb "extend" `k!) [e] [] `dY) (ny0 i g):=.mk λH₀ B₀ δ pins s σ H Q I hq92=>by
 obtain⟨r,en,e1,k⟩:=hq92
 unfold ny0 at e1;obtain⟨B,b1,b2,env⟩:=`ct;cases e2:`lj with
 | none=>rw[e2] at e1;cases e1
 | some ds =>
  cases e3:`aB with
  | none=>rw[e2,e3] at e1;cases e1
  | some d =>
   rw[e2,e3] at e1;simp only[`w] at e1;cases d<;>try cases e1
   rename_i es;dsimp only at e1;split at e1
   ·rename_i hz
    cases e1;have hi:=`IW;obtain⟨a,M,hb,xs,hx,rx⟩:=`kA;refine c20 B70 PySem.F.slot_list_extend PySem.F.type_list_extend c00 `jC `awM `nS hfew `nT hs `Hp `j s σ H Q I
     ⟨_,M,`XK,_,env,e3,`Po⟩
    rw[Y4] at r1;obtain⟨b,zs,rfl,hq,rz⟩:=r1;refine⟨a,b,xs,zs,rfl,rfl,`yY,`hv,by rw[`IX,rz.length];exact hz,?_⟩;have J:Env X.K (upd H1 a `W0) B σ (`au_):=`CI hi M ⟨_,j6,(`atf `vv rz).mono `h1⟩;exact `awN
   ·cases e1
theorem Rk0(i:Nat)(hN:`cp:=by rfl)(hv:`fe:=by first|exact `cO|exact `hs|exact `ht)(hd:`bq:=by decide)(hcd:`fN:=by decide)
  (hbase:`nm `gb "pop" `F `vp=`qp:=by rfl) (hline:`kt:=by rfl) :
  PX X (`bT (`nn `gb "pop" `k!) [] [] `dY) (l40 i):=.mk λH₀ B₀ δ pins s σ H Q I hq93=>by
 obtain⟨r,en,e1,k⟩:=hq93
 unfold l40 at e1;obtain⟨B,b1,b2,env⟩:=`ct;cases e2:`lj with
 | none=>rw[e2] at e1;cases e1
 | some ds =>
  rw[e2] at e1;simp only[`w] at e1;cases e3:`au0 with
  | none=>rw[e3] at e1;cases e1
  | some d =>
   rw[e3] at e1;cases e1;have hi:=`IW;obtain⟨a,M,hb,xs,hx,rx⟩:=`kA;rw[List.getLast?_eq_getElem?] at e3;obtain⟨y,hy,ry⟩:=rx.get e3;refine Rp0 B70 PySem.F.slot_list_pop PySem.F.type_list_pop Sy0 `jC `nS `nT `j s σ H Q I
    ⟨_,M,`XK,a,xs,y,rfl,rfl,hx,by rw[`IX];exact hy,?_⟩
   have J:Env X.K (upd H a (`s `Hq)) B σ (`au1):=env.mut hi M ⟨_,j6,rx.dropLast.mono `h1⟩;exact k _ _ (`nH (`Cv (`nB _) b1 b2 hi M J) b1 b2 J (ry.mono `h1))
theorem Tr0{f:`a1}(h:`Ic):PTG X tg f:=.mk λH₀ B₀ d δ pins s σ H v u Q I r hq94=>by
 obtain⟨δ',en,e1,k⟩:=hq94
 obtain⟨B,b1,b2,env,rv⟩:=`ct;exact h B d δ `j s σ H v u Q I r ⟨δ',rv,env,e1,fun σ' w en'=>k σ' H (en.s.wr b1 b2 (`nB _) w en')⟩
theorem T80(i:Nat)(h:`bQ)(hN:`cp:=by rfl)(hv:`fe:=by first|exact `cO|exact `hs|exact `ht)(hd:`bq:=by decide)(hcd:`fN:=by decide)
  (ha:∀v,`XM=(do
   let ov ← `XN
   let iv ← `XO
   `GJ
   `GK
   `GL):=by intro _;rfl):PTG X `Cw `awO:=.mk λH₀ B₀ d δ pins s σ H v u Q I r hq95=>by
 obtain⟨δ',en,e1,k⟩:=hq95
 unfold setAt at e1;obtain⟨B,b1,b2,env,rv⟩:=`ct;cases e2:`lj with
 | none=>rw[e2] at e1;cases e1
 | some ds =>
  cases e3:`aB with
  | none=>rw[e2,e3] at e1;cases e1
  | some dk =>
   rw[e2,e3] at e1;simp only[`w] at e1;cases dk<;>try cases e1
   rename_i kk;dsimp only at e1;cases e4:ixN `b1 kk with
   | none=>rw[e4] at e1;cases e1
   | some j =>
    rw[e4] at e1;cases e1;have hi:=`IW;obtain⟨a,J,hb,xs,hx,rx⟩:=`kA;refine he0 `jC `b' set_list ha `j s σ H v u Q I r `agZ;rw[j9] at r1;subst r1;refine⟨a,xs,kk,j,rfl,rfl,`yY,by rw[`IX];exact e4,?_⟩;have M:Env X.K (upd H1 a `afo) B σ (`df i (.ow (`s (ds.set j d)))):=`CI hi J ⟨_,j6,(Rps.set j `vv `Pw).mono `h1⟩;exact `XP
theorem xp0{ft:`a1}(h:`XJ)(hg:`awK)(hs:`UX:=by rfl)(hw:`UY:=by rfl)
  (h1:`UZ:=by rfl):PSD X `U_ (J2 gx ft):=.mk λH₀ B₀ δ pins s σ H D I hq96=>by
 obtain⟨r,en,e1,k⟩:=hq96
 unfold J2 at e1;cases e2:`o3 with
 | none=>rw[e2] at e1;cases e1
 | some q =>
  rw[e2] at e1;simp only[`w] at e1;cases e3:ft q.1 q.2 with
  | none=>rw[e3] at e1;cases e1
  | some δ' =>
   rw[e3] at e1;cases e1;exact oz0 (h `a_ `aL δ) (hg `a_ `aL q.1 q.2) hs hw h1 `j s σ H D I ⟨q,en,e2,λv H' J=>⟨δ',J,e3,fun σ' H'' en''=>k σ' H'' en''⟩⟩
theorem Q7(h:`XJ)(hs:`an1:=by rfl):PSD X (.Expr e pos) (Y7 gx):=.mk λH₀ B₀ δ pins s σ H D I hq97=>by
 obtain⟨r,en,e1,k⟩:=hq97
 unfold Y7 at e1;cases e2:`o3 with
 | none=>rw[e2] at e1;cases e1
 | some q =>
  rw[e2] at e1;cases e1;exact U40 (h `a_ `aL δ) hs `j s σ H D I ⟨q,en,e2,λv H' J=>k σ H' J.s⟩
theorem ul0(n:Nat)(hp:`GM)(hc:`H')(hb:`at7):PSD X `aoa (S8 gt G n):=.mk λH₀ B₀ δ pins s σ H D I hq98=>by
 obtain⟨r,en,e1,k⟩:=hq98
 have O:PT X c (`WZ):=λpins s σ H Q I ⟨B,δ,h⟩=>hc B δ `j s σ H Q I h
 have M:PSs X `hR (λD σ H=>∃δ,`at8):=λpins s σ H D I ⟨δ,h⟩=>`at9
 refine X40 hp O M `j s σ H D I ⟨λm σ H=>∃δ',`es X.K `a_ `aL H σ δ'/\`awP,⟨n,δ,en,e1⟩,?_⟩;rintro m σ1 H1 ⟨δ1,J,e2⟩;cases m with
 | zero=>cases e2
 | succ m =>
  unfold S8 at e2;obtain⟨B,b1,b2,env⟩:=J.ex;cases e3:gt δ1 with
  | none=>rw[e3] at e2;cases e2
  | some t =>
   rw[e3] at e2;refine⟨B,δ1,t,env,e3,λH2 s2=>?_⟩;cases t with
   | false =>
    rw[`mr];cases e2;exact k σ1 H2 (J.grow s2)
   | true =>
    rw[`aY];dsimp only at e2;refine⟨fun σ' H'=>∃δ',`es X.K `a_ `aL H' σ' δ'/\`awP,fun σ' H' z=>⟨m,x0 m,z⟩,δ1,?_⟩;cases e4:`BW with
    | none=>rw[e4] at e2;cases e2
    | some rb =>
     rw[e4] at e2;refine⟨rb,J.grow s2,e4,?_⟩;cases rb with
     | nx δn=>exact `awQ
     | ct δn=>exact `awQ
     | bk δn=>cases e2;exact fun σ' H' en'=>k σ' H' en'
     | rt d'=>cases e2;exact λv H' s' r'=>k v H' s' r'
     | rf d'=>cases e2;exact λp H' hp s' r'=>k p H' hp s' r'
theorem wp0(i j:Nat){y:Str}{p2 p3:Pos}{kk}(hN:`hl)(hij:i≠j)(hc:`b5:=by rfl)(hi:`cp:=by rfl)(hj:X.N[j]?=`bA:=by rfl)
  (hx:`kk:=by first|exact `cO|exact `jn) (hy:`HF:=by first|exact `cO|exact `jn)
  (hf:`kl:=by first|exact `bL|exact `dz|assumption) (hf2:`HG:=by first|exact `bL|exact `dz|assumption)
  (hs1:(`XQ).map `cZ=`gM (`agC) `F::`awR:=by rfl) (hs2:`awR=`gM (`Pj) `F::(`k_ [] `F).map `cZ:=by rfl)
  (hn:(`XQ).length=2:=by rfl) (hst:(`XQ).findIdx? `b9=`c:=by rfl) :
  PGD X (`qz `agD kk pos) [i,j] (ze0 i j):=.mk λB d δ=>(Sv0 hc (j90 (`Id) (j90 (t70 (i:=j) hN hj hy hf2) Tj0 hs2) hs1) hn hst).imp λv σ H Q hq99=>by
 obtain⟨δ',r,en,e1,k⟩:=hq99
 unfold ze0 at e1;split at e1
 ·rename_i da db
  cases e1;rw[X6] at r;obtain⟨p,xs,rfl,hq,rs⟩:=r;rw[n6] at rs;obtain⟨va,t1,rfl,ra,rs⟩:=rs;rw[n6] at rs;obtain⟨vb,t2,rfl,rb,rs⟩:=rs;rw[m7] at rs;subst rs;refine⟨p,_,rfl,`hv,rfl,va,[vb],rfl,vb,[],rfl,rfl,k _ ?_ ((en.set i ra).set j rb)⟩;refine⟨`a!,`yZ,λq hq ds h=>?_⟩
  ·have h1:q≠i:=λz=>hq (by rw[z];exact A5)
   have h2:q≠j:=λz=>hq (by rw[z];exact A6 _ A5)
   rw[`awS,`awT,`awS,`awT];exact`fv
  ·rcases `f? h with⟨rfl,e3,_⟩|⟨n1,e3⟩
   ·cases e3
   ·rcases `f? e3 with⟨rfl,e4,_⟩|⟨n2,e4⟩
    ·cases e4
    ·simp at hq
     rcases hq with z|z
     ·exact n2 `p9
     ·exact n1 `p9
 ·cases e1
universe zz
universe DL
namespace HT
open PyProof.Rows
section
variable{w:`E}{A:`T}{s:`q}
theorem sx0{t sl:`f}{Q:`af}(ht:`ap!)(hs:`Hd)(pl:`He)(pu:`Hf)
  (hw:`ap?) (h:Q `k9 s):`aqb:=by
 obtain⟨os,O,M,hds⟩:=id hs;have Z:`aqc := ⟨os,O,M⟩;unfold getItem
 try with_reducible refine `h4
 first|refine `oQ|skip
 refine `aqd;refine A0 (D8 (name:=`aqe) `nh Y3
  `aqf)
 show `aqg;refine `aqh;refine A0 (N2 Z ?_);rw[`sn];refine `aqi;have J:`N!:=by
  rw[hw.1,hw.2];simp
 show `aqj;rw[`J J];unfold Builtin.Tuple.tupleIsExact;refine A0 (A0 (N2 `nh `f5));rw[`sn];exact A0 (D2 `N?)
universe zz
universe HT
namespace L2
open Spec PyProof.Rows
noncomputable def Oh0(K:`M):`oR:=λx lo hi H Q=>∃a xs,`ff/\`kp/\`aqt/\Q `bJ H
theorem Ti0:SlR X (Oh0 X.K):=by
 intro pins s σ H x v vl vu lo hi sl Q I rx hs pl pu h;obtain⟨a,xs,rfl,hx,hw,q⟩:=h;cases rx;obtain⟨its,r,ht,hz⟩:=`eR hx;have J:`je=`as:=`aqv
 exact⟨`eg,_,Y3.lookup,`nh,HT.sx0 ht hs pl pu `aqw ⟨`cH,H,I,rfl,q⟩⟩
noncomputable def bp0(K:`M):R2:=λx y H Q=>∃a b ys,`ff/\`oS/\SqT K H a []/\`aqz/\Q `jw H
theorem Yg0:OpR X `x4 (bp0 X.K):=by
 intro pins s σ H x y v u Q I rx ry h;obtain⟨a,b,ys,rfl,rfl,ha,hb,q⟩:=h;cases rx;cases ry;obtain⟨its,r1,p1,_⟩:=`eR ha;obtain⟨Z,r2,p2,_⟩:=`eR hb;have e:its=[]:=r1.zero;subst e;obtain⟨⟨cls,dd,data,sl⟩,ho,hc,n,hd⟩:=id p1;obtain⟨⟨a2,a1,data2,a0⟩,O,M,n2,J⟩:=id p2;simp only at hc hd M J;subst hc hd M J;exact r8 `Ha ⟨_,O,rfl⟩ Av0 Aw0 Ax0 Ay0 (Az0 _ _)
  (tuple_addW0 a b _ Z.toArray n n2 dd a1 sl a0 rfl) ⟨ho,O,⟨`k7,H,I,rfl,q⟩⟩
noncomputable def pn0(x:Str)(n:Int):Str:=`Xe
universe L2
namespace DL
open Spec PyProof.Rows L2
mutual
theorem pu0:`awU
 | `A,_,_=>`awV
 | `en,_,_=>`sV
 | `o4,_,_=>`sV
 | `HQ,_,_=>`sV
 | `bO,0,h=>by unfold lean at h;cases h
 | `bO,n+1,h=>`awW
 | `dB,0,h=>by unfold lean at h;cases h
 | `dB,n+1,h=>`awW
 | `iI,n,h=>by unfold lean at h;cases h
 | `iJ,n,h=>by unfold lean at h;cases h
theorem q20:`awX
 | [],_,_=>`awY
 | `aC,n,h=>by
  unfold leans at h;rw[`dL] at h;unfold G4;rw[pu0 d n h.1,q20 ds n h.2];rfl
end
theorem w60:∀ds es:`p,G4 ds es=((`b? (`awZ)).all (`o9)&&`aw_)
 | [],[]=>`XR
 | [],`bh=>`XR
 | `bh,[]=>`XR
 | `aC,`uo=>by
  unfold G4;rw[w60 ds es];have h1:min `Wp `VS=`awZ+1:=by simp only[`a0];omega
  rw[h1,List.range_succ_eq_map,`aw0,`IY];have h2:(`Wp==`VS)=(`aw_):=by
   rw[`fY];simp
  rw[h2,Bool.and_assoc];rfl
theorem uc0:∀{ds:`p} {n j:Nat} {d:D},`Cy->`QC->`lo
 | [],_,_,_,_,h=>`iE
 | `aC,n,0,_,h,e=>by
  unfold leans at h;rw[`dL] at h;simp at e;subst e;exact h.1
 | `aC,n,j+1,_,h,e=>by
  unfold leans at h;rw[`dL] at h;exact uc0 (j:=j) h.2 `jO
section
variable{σ:St}{s:`q}
mutual
theorem Rp.inj(I:`B):∀{d e:D} {n m:Nat} {v:V},`lo->`Pk->Rp X.K H B d v->Rp X.K H B' e v->d=e
 | `A,e,_,m,v,_,le,h,h'=>by
  rw[U6] at h;subst h;cases e with
  | non=>rfl
  | bl b=>rw[X8] at h';cases h'
  | int b=>rw[j9] at h';cases h'
  | str b=>rw[W4] at h';cases h'
  | tup b=>rw[X6] at h';obtain⟨_,_,z,_⟩:=h';cases z
  | lst b=>rw[Y4] at h';obtain⟨_,_,z,_⟩:=h';cases z
  | dct a b=>unfold lean at le;cases le
  | fn a b=>unfold lean at le;cases le
 | .bl c,e,_,m,v,_,le,h,h'=>by
  rw[X8] at h;subst h;cases e with
  | non=>rw[U6] at h';cases h'
  | bl b=>rw[X8] at h';cases h';rfl
  | int b=>rw[j9] at h';cases h'
  | str b=>rw[W4] at h';cases h'
  | tup b=>rw[X6] at h';obtain⟨_,_,z,_⟩:=h';cases z
  | lst b=>rw[Y4] at h';obtain⟨_,_,z,_⟩:=h';cases z
  | dct a b=>unfold lean at le;cases le
  | fn a b=>unfold lean at le;cases le
 | `lL,e,_,m,v,_,le,h,h'=>by
  rw[j9] at h;subst h;cases e with
  | non=>rw[U6] at h';cases h'
  | bl b=>rw[X8] at h';cases h'
  | int b=>rw[j9] at h';cases h';rfl
  | str b=>rw[W4] at h';cases h'
  | tup b=>rw[X6] at h';obtain⟨_,_,z,_⟩:=h';cases z
  | lst b=>rw[Y4] at h';obtain⟨_,_,z,_⟩:=h';cases z
  | dct a b=>unfold lean at le;cases le
  | fn a b=>unfold lean at le;cases le
 | `wN,e,_,m,v,_,le,h,h'=>by
  rw[W4] at h;subst h;cases e with
  | non=>rw[U6] at h';cases h'
  | bl b=>rw[X8] at h';cases h'
  | int b=>rw[j9] at h';cases h'
  | str b=>rw[W4] at h';cases h';rfl
  | tup b=>rw[X6] at h';obtain⟨_,_,z,_⟩:=h';cases z
  | lst b=>rw[Y4] at h';obtain⟨_,_,z,_⟩:=h';cases z
  | dct a b=>unfold lean at le;cases le
  | fn a b=>unfold lean at le;cases le
 | `bO,e,0,m,v,ld,_,_,_=>by unfold lean at ld;cases ld
 | `bO,e,n+1,m,v,ld,le,h,h'=>by
  rw[X6] at h;obtain⟨a,xs,rfl,q,r⟩:=h;unfold lean at ld;cases e with
  | non=>rw[U6] at h';cases h'
  | bl b=>rw[X8] at h';cases h'
  | int b=>rw[j9] at h';cases h'
  | str b=>rw[W4] at h';cases h'
  | tup es =>
   cases m with
   | zero=>unfold lean at le;cases le
   | succ m =>
    unfold lean at le;rw[X6] at h';obtain⟨a',ys,z,q',r'⟩:=h';cases z;have:=`aoz `c2 q'.to;subst this;rw[`aw1]
  | lst es =>
   rw[Y4] at h';obtain⟨a',ys,z,q',r'⟩:=h';cases z;obtain⟨_,_,⟨o,e1,c1,_⟩,_⟩:=`eR `c2;obtain⟨_,_,p,_⟩:=`dx q'.to;obtain⟨o',e2,c2,_⟩:=`r!;rw[e1] at e2;cases e2;rw[c1] at c2;injection c2 with z
   exact `aw2
  | dct a b=>unfold lean at le;cases le
  | fn a b=>unfold lean at le;cases le
 | `dB,e,0,m,v,ld,_,_,_=>by unfold lean at ld;cases ld
 | `dB,e,n+1,m,v,ld,le,h,h'=>by
  rw[Y4] at h;obtain⟨a,xs,rfl,q,r⟩:=h;unfold lean at ld;cases e with
  | non=>rw[U6] at h';cases h'
  | bl b=>rw[X8] at h';cases h'
  | int b=>rw[j9] at h';cases h'
  | str b=>rw[W4] at h';cases h'
  | lst es =>
   cases m with
   | zero=>unfold lean at le;cases le
   | succ m =>
    unfold lean at le;rw[Y4] at h';obtain⟨a',ys,z,q',r'⟩:=h';cases z;have:=`pL `c2 q'.to;subst this;rw[`aw1]
  | tup es =>
   rw[X6] at h';obtain⟨a',ys,z,q',r'⟩:=h';cases z;obtain⟨_,_,⟨o,e1,c1,_⟩,_⟩:=`eR q'.to;obtain⟨_,_,p,_⟩:=`dx `c2;obtain⟨o',e2,c2,_⟩:=`r!;rw[e1] at e2;cases e2;rw[c1] at c2;injection c2 with z
   exact `aw2
  | dct a b=>unfold lean at le;cases le
  | fn a b=>unfold lean at le;cases le
 | `aW a b,e,n,m,v,ld,_,_,_=>by unfold lean at ld;cases ld
 | .fn a b,e,n,m,v,ld,_,_,_=>by unfold lean at ld;cases ld
theorem Rps.inj(I:`B):∀{ds es:`p} {n m:Nat} {xs:`C},`Cy->`aw3->`IZ->Rps X.K H B' es xs->ds=es
 | [],es,_,_,_,_,_,h,h'=>by
  rw[m7] at h;subst h;have:=h'.length;cases es with
  | nil=>rfl
  | cons a b=>simp at this
 | `aC,es,n,m,_,ld,le,h,h'=>by
  rw[n6] at h;obtain⟨x,r,rfl,h1,h2⟩:=h;cases es with
  | nil=>rw[m7] at h';cases h'
  | cons e es =>
   rw[n6] at h';obtain⟨x',r',z,M,J⟩:=h';cases z;unfold leans at ld le;rw[`dL] at ld le;rw[Rp.inj I ld.1 le.1 h1 M,Rps.inj I ld.2 le.2 h2 J]
end
theorem view(I:`B){d:D}{x:V}(l:`lo)(h:`Cz)(r:`gP) :
  (d=`A/\u=`aF)∨(∃b,d=`en/\u=`dZ b)∨(∃i t,d=`ap/\u=`AL)∨(∃z t,d=`k'/\u=`N z t) ∨
  (∃m ds a xs its,n=m+1/\`aw4/\d=`bO/\`ff/\u=`cH/\`IZ/\`kh/\`aeP) ∨
  (∃m ds a xs its,n=m+1/\`aw4/\d=`dB/\`ff/\u=`cH/\`IZ/\`kh/\`CL a `cd):=by
 cases d with
 | non=>rw[U6] at h;subst h;exact `m ⟨rfl,r⟩
 | bl b=>rw[X8] at h;subst h;exact `i (`m ⟨b,rfl,r⟩)
 | int i=>rw[j9] at h;subst h;obtain⟨t,e⟩:=r;exact `i (`i (`aml))
 | str z=>rw[W4] at h;subst h;obtain⟨t,e⟩:=r;exact `i (`i (`i (`m ⟨z,t,rfl,e⟩)))
 | tup ds =>
  cases n with
  | zero=>unfold lean at l;cases l
  | succ m =>
   unfold lean at l;rw[X6] at h;obtain⟨a,xs,rfl,q,rr⟩:=h;obtain⟨its,rv,p,_⟩:=`eR `c2;exact `i (`i (`i (`i (`m ⟨m,ds,a,xs,its,rfl,l,rfl,rfl,r,rr,rv,p⟩))))
 | lst ds =>
  cases n with
  | zero=>unfold lean at l;cases l
  | succ m =>
   unfold lean at l;rw[Y4] at h;obtain⟨a,xs,rfl,q,rr⟩:=h;obtain⟨its,rv,p,_⟩:=`dx `c2;exact `i (`i (`i (`i (`i ⟨m,ds,a,xs,its,rfl,l,rfl,rfl,r,rr,rv,`r!⟩))))
 | dct a b=>unfold lean at l;cases l
 | fn a b=>unfold lean at l;cases l
theorem in1_units{A:`T}:`Pm=`AM:=rfl
theorem tw0{es:`p}{xs ys:`C}{ws:`ab}{A:`T}(ld:`Cy)(le:`aw3)(r1:`IZ)(r2:Rps X.K H B' es ys)(v1:`d8)(v2:`amu)
  (ih:∀d e x y u w,`aw5) :
  ∀j (h1:j<us.toArray.size) (h2:j<ws.toArray.size),`t! A s us.toArray[j] `sl[j] (`agG):=by
 intro j h1 h2;have l1:j<`b1:=by rw[← `u9,v1.length];simpa using h1
 have l2:j<`jA:=by rw[← `nI,v2.length];simpa using h2
 obtain⟨x,ex,rx⟩:=r1.get (B6 l1);obtain⟨y,ey,ry⟩:=r2.get (B6 l2);obtain⟨u,eu,ru⟩:=v1.get ex;obtain⟨w,ew,J⟩:=v2.get ey;have hu:us.toArray[j]=u:=by
  have:us[j]?=`aU:=eu;simp at h1;rw[`d2 h1] at this
  simpa using `C0
 have hw:`sl[j]=w:=by
  have:ws[j]?=`a w:=ew;simp at h2;rw[`d2 h2] at this
  simpa using `C0
 rw[hu,hw];have e1:`agE=ds[j]:=by simp[`cr,l1]
 have e2:`agF=es[j]:=by simp[`cr,l2]
 rw[e1,e2];exact ih _ _ _ _ _ _ (uc0 ld (B6 l1)) (uc0 le (B6 l2)) rx ry ru J
theorem gm0(I:`B):∀(n m:Nat) (d e:D) (x y:V) (u w:`v) (A:`T),`F'->`aw5:=by
 intro n
 induction n with
 | zero =>
  intro m d e x y u w A hu ld le hx hy rx ry;have J:`rS:=`h
  rcases `XS with⟨rfl,rfl⟩|⟨b,rfl,rfl⟩|⟨i,t,rfl,rfl⟩|⟨z,t,rfl,rfl⟩|⟨n',_,_,_,_,hn,_⟩|⟨n',_,_,_,_,hn,_⟩<;>(try (exact `L hn `d)) <;>
  rcases `XT with⟨rfl,rfl⟩|⟨b',rfl,rfl⟩|⟨i',t',rfl,rfl⟩|⟨z',t',rfl,rfl⟩|⟨m',es,a',ys,Z,rfl,a0,rfl,rfl,rfl,M,O,p'⟩|⟨m',es,a',ys,Z,rfl,a0,rfl,rfl,rfl,M,O,p'⟩ <;>
  unfold deq <;>
  first
  | with_reducible exact X2 _|with_reducible exact `aw6|with_reducible exact `TU|with_reducible exact `TY|with_reducible exact `aw7|with_reducible exact `aw8
  | with_reducible exact `aw9|with_reducible exact `TR|with_reducible exact `TS|with_reducible exact `aw'|with_reducible exact `aw!|with_reducible exact `TT|with_reducible exact `TV
  | with_reducible exact `TW|with_reducible exact `aw?|with_reducible exact `TX
  | with_reducible exact `axa|with_reducible exact `axb|with_reducible exact `axc|with_reducible exact `axd
  | with_reducible exact Ai0 p' J|with_reducible exact `axe|with_reducible exact `axf|with_reducible exact `axg
 | succ n ih =>
  intro m d e x y u w A hu ld le hx hy rx ry;have J:`rS:=`h
  have a2:`Pm+n<`cu:=`XU
  rcases `XS with⟨rfl,rfl⟩|⟨b,rfl,rfl⟩|⟨i,t,rfl,rfl⟩|⟨z,t,rfl,rfl⟩|⟨n',ds,a,xs,its,hn,a1,rfl,rfl,rfl,rr,rv,p⟩|⟨n',ds,a,xs,its,hn,a1,rfl,rfl,rfl,rr,rv,p⟩ <;>
  rcases `XT with⟨rfl,rfl⟩|⟨b',rfl,rfl⟩|⟨i',t',rfl,rfl⟩|⟨z',t',rfl,rfl⟩|⟨m',es,a',ys,Z,rfl,a0,rfl,rfl,rfl,M,O,p'⟩|⟨m',es,a',ys,Z,rfl,a0,rfl,rfl,rfl,M,O,p'⟩
  case inr.inr.inr.inr.inl.inr.inr.inr.inr.inl =>
   cases hn
   by_cases hab:a=a'
   ·subst hab
    have e:`ew ds=`ew es:=`axh;rw[← e,`axi];exact X2 _
   ·refine `T_
    have:=Ap0 (e:=`o9) p p' J `axj;unfold deq;rw[w60]
    simpa [← `gX,← O.length,`Cb,`Pn] using `u
  case inr.inr.inr.inr.inr.inr.inr.inr.inr.inr =>
   cases hn
   by_cases hab:a=a'
   ·subst hab
    have e:`yv ds=`yv es:=`axh;rw[← e,`axi];exact X2 _
   ·refine `T_
    have s1:`XV:=`XW
    have s2:Z.toArray.size=`jA:=by rw[`bF,← O.length,`Pn]
    unfold deq;rw[w60]
    by_cases hl:`b1=`jA
    ·have:=`axk (e:=`o9) p p' `XX J `axj
     rw[s1] at this;rw[hl] at this ⊢
     simpa using `u
    ·have:=`axl
     rw[`axm,`XG];exact `u
  all_goals
   unfold deq
   first
   | with_reducible exact X2 _|with_reducible exact `aw6|with_reducible exact `TU|with_reducible exact `TY|with_reducible exact `aw7|with_reducible exact `aw8
   | with_reducible exact `aw9|with_reducible exact `TR|with_reducible exact `TS|with_reducible exact `aw'|with_reducible exact `aw!|with_reducible exact `TT|with_reducible exact `TV
   | with_reducible exact `TW|with_reducible exact `aw?|with_reducible exact `TX
   | with_reducible exact `axa|with_reducible exact `axb|with_reducible exact `axc|with_reducible exact `axd
   | with_reducible exact Ai0 p' J|with_reducible exact `axe|with_reducible exact `axf|with_reducible exact `axg
   | with_reducible exact SeqAt.EqAt.list_none p J|with_reducible exact SeqAt.EqAt.list_bool _ p J|with_reducible exact SeqAt.EqAt.list_int _ _ p J|with_reducible exact SeqAt.EqAt.list_str _ _ p J
   | with_reducible exact `amf p J|with_reducible exact SeqAt.EqAt.tuple_bool _ p J|with_reducible exact `amg _ _ p J|with_reducible exact `amh _ _ p J
   | with_reducible exact SeqAt.EqAt.list_tuple p p' J|with_reducible exact SeqAt.EqAt.tuple_list p p' J
universe zz
universe DL
namespace DL
open Spec PyProof.Rows L2
section
variable{σ:St}{s:`q}
theorem au0(I:`B)(n m:Nat)(d e:D)(x y:V)(u w:`v)(A:`T)(hu:`F')(ld:`lo)(le:`Pk)(hx:`Cz)(hy:`agH)(rx:`gP)(ry:`Pl) :
  SeqAt.RcAt A s u w (`vq)/\SeqAt.RcNeAt A s u w (!`vq):=by
 have J:`rS:=`h
 rcases `XS with⟨rfl,rfl⟩|⟨b,rfl,rfl⟩|⟨i,t,rfl,rfl⟩|⟨z,t,rfl,rfl⟩|⟨n',ds,a,xs,its,hn,a3,rfl,rfl,rfl,rr,rv,p⟩|⟨n',ds,a,xs,its,hn,a3,rfl,rfl,rfl,rr,rv,p⟩ <;>
 rcases `XT with⟨rfl,rfl⟩|⟨b',rfl,rfl⟩|⟨i',t',rfl,rfl⟩|⟨z',t',rfl,rfl⟩|⟨m',es,a',ys,a0,rfl,a1,rfl,rfl,rfl,M,Z,p'⟩|⟨m',es,a',ys,a0,rfl,a1,rfl,rfl,rfl,M,Z,p'⟩
 case inr.inr.inr.inr.inl.inr.inr.inr.inr.inl =>
  subst hn;have a2:`axn:=`XU
  have O:=`axo
  have q1:=Ap0 (e:=`o9) p p' J O;have q2:=SeqAt.RcNeAt.tuples (e:=`o9) p p' J O;unfold deq;rw[w60];have s1:`XV:=`XW
  have s2:`axp:=`axq
  rw[s1,s2] at q1 q2;exact`XY
 case inr.inr.inr.inr.inr.inr.inr.inr.inr.inr =>
  subst hn;have a2:`axn:=`XU
  have O:=`axo
  have s1:`XV:=`XW
  have s2:`axp:=`axq
  unfold deq;rw[w60]
  by_cases hl:`b1=`jA
  ·have q1:=`axk (e:=`o9) p p' `XX J O
   have q2:=SeqAt.RcNeAt.lists (e:=`o9) p p' `XX J O;rw[s1] at q1 q2;rw[hl] at q1 q2 ⊢;simp only[`vu,beq_self_eq_true,Bool.and_true];exact`XY
  ·have q1:=`axl
   have q2:=SeqAt.RcNeAt.lists_lengths (A:=A) p p' `agI J;rw[`axm,`XG];exact`XY
 all_goals
  unfold deq;constructor
  ·first
   | with_reducible exact SeqAt.RcAt.none_none|with_reducible exact SeqAt.RcAt.bool_bool _ _|with_reducible exact SeqAt.RcAt.int_int _ _ _ _|with_reducible exact SeqAt.RcAt.str_str _ _ _ _|with_reducible exact SeqAt.RcAt.bool_int _ _ _|with_reducible exact SeqAt.RcAt.int_bool _ _ _
   | with_reducible exact SeqAt.RcAt.none_bool _|with_reducible exact SeqAt.RcAt.none_int _ _|with_reducible exact SeqAt.RcAt.none_str _ _|with_reducible exact SeqAt.RcAt.bool_none _|with_reducible exact SeqAt.RcAt.bool_str _ _ _|with_reducible exact SeqAt.RcAt.int_none _ _|with_reducible exact SeqAt.RcAt.int_str _ _ _ _
   | with_reducible exact SeqAt.RcAt.str_none _ _|with_reducible exact SeqAt.RcAt.str_bool _ _ _|with_reducible exact SeqAt.RcAt.str_int _ _ _ _
   | with_reducible exact SeqAt.RcAt.none_list p' J|with_reducible exact SeqAt.RcAt.bool_list _ p' J|with_reducible exact SeqAt.RcAt.int_list _ _ p' J|with_reducible exact SeqAt.RcAt.str_list _ _ p' J
   | with_reducible exact SeqAt.RcAt.none_tuple p' J|with_reducible exact SeqAt.RcAt.bool_tuple _ p' J|with_reducible exact SeqAt.RcAt.int_tuple _ _ p' J|with_reducible exact SeqAt.RcAt.str_tuple _ _ p' J
   | with_reducible exact SeqAt.RcAt.list_none p J|with_reducible exact SeqAt.RcAt.list_bool _ p J|with_reducible exact SeqAt.RcAt.list_int _ _ p J|with_reducible exact SeqAt.RcAt.list_str _ _ p J
   | with_reducible exact SeqAt.RcAt.tuple_none p J|with_reducible exact SeqAt.RcAt.tuple_bool _ p J|with_reducible exact SeqAt.RcAt.tuple_int _ _ p J|with_reducible exact SeqAt.RcAt.tuple_str _ _ p J
   | with_reducible exact SeqAt.RcAt.list_tuple p p' J|with_reducible exact SeqAt.RcAt.tuple_list p p' J
  ·try rw[Bool.not_false]
   try rw[`rV]
   first
   | with_reducible exact SeqAt.RcNeAt.none_none|with_reducible exact SeqAt.RcNeAt.bool_bool _ _|with_reducible exact SeqAt.RcNeAt.int_int _ _ _ _|with_reducible exact SeqAt.RcNeAt.str_str _ _ _ _|with_reducible exact SeqAt.RcNeAt.bool_int _ _ _|with_reducible exact SeqAt.RcNeAt.int_bool _ _ _
   | with_reducible exact SeqAt.RcNeAt.none_bool _|with_reducible exact SeqAt.RcNeAt.none_int _ _|with_reducible exact SeqAt.RcNeAt.none_str _ _|with_reducible exact SeqAt.RcNeAt.bool_none _|with_reducible exact SeqAt.RcNeAt.bool_str _ _ _|with_reducible exact SeqAt.RcNeAt.int_none _ _|with_reducible exact SeqAt.RcNeAt.int_str _ _ _ _
   | with_reducible exact SeqAt.RcNeAt.str_none _ _|with_reducible exact SeqAt.RcNeAt.str_bool _ _ _|with_reducible exact SeqAt.RcNeAt.str_int _ _ _ _
   | with_reducible exact SeqAt.RcNeAt.none_list p' J|with_reducible exact SeqAt.RcNeAt.bool_list _ p' J|with_reducible exact SeqAt.RcNeAt.int_list _ _ p' J|with_reducible exact SeqAt.RcNeAt.str_list _ _ p' J
   | with_reducible exact SeqAt.RcNeAt.none_tuple p' J|with_reducible exact SeqAt.RcNeAt.bool_tuple _ p' J|with_reducible exact SeqAt.RcNeAt.int_tuple _ _ p' J|with_reducible exact SeqAt.RcNeAt.str_tuple _ _ p' J
   | with_reducible exact SeqAt.RcNeAt.list_none p J|with_reducible exact SeqAt.RcNeAt.list_bool _ p J|with_reducible exact SeqAt.RcNeAt.list_int _ _ p J|with_reducible exact SeqAt.RcNeAt.list_str _ _ p J
   | with_reducible exact SeqAt.RcNeAt.tuple_none p J|with_reducible exact SeqAt.RcNeAt.tuple_bool _ p J|with_reducible exact SeqAt.RcNeAt.tuple_int _ _ p J|with_reducible exact SeqAt.RcNeAt.tuple_str _ _ p J
   | with_reducible exact SeqAt.RcNeAt.list_tuple p p' J|with_reducible exact SeqAt.RcNeAt.tuple_list p p' J
universe zz
section
variable{a:`G}{ga:`b6}
noncomputable def df0(K:`M)(neg:`X):R2:=λx y H Q=>∃B B' dx dy,`H7/\Rp K H B' dy y/\`XZ/\`bo dy 50=`b/\Q (.bl (xor neg (deq dx dy))) H
theorem bg0(hu:`X_):OpR X (`eq .Eq) (df0 X.K `r):=by
 intro pins s σ H x y v u Q I rx ry h;obtain⟨B,B',dx,dy,hx,hy,lx,ly,q⟩:=h;exact(`axr).1 _ _ _ _ ⟨`cq,H,I,rfl,by rw[`axs] at q;exact q⟩
theorem z90(hu:`X_):OpR X (`eq .NotEq) (df0 X.K `b):=by
 intro pins s σ H x y v u Q I rx ry h;obtain⟨B,B',dx,dy,hx,hy,lx,ly,q⟩:=h;exact(`axr).2 _ _ _ _ ⟨`cq,H,I,rfl,by rw[`sW] at q;exact q⟩
theorem e50:Op2 K (df0 K `r) vt0:=by
 intro H B x y dx dy d Q hb rx ry h k;unfold vt0 at h;split at h
 ·rename_i hl
  cases h;exact⟨B,B,dx,dy,rx,ry,hl.1,hl.2,k _ H `dg (by rw[X8,`axs])⟩
 ·cases h
theorem K9:Op2 K (df0 K `b) W7:=by
 intro H B x y dx dy d Q hb rx ry h k;unfold W7 at h;split at h
 ·rename_i hl
  cases h;exact⟨B,B,dx,dy,rx,ry,hl.1,hl.2,k _ H `dg (by rw[X8,`sW])⟩
 ·cases h
theorem Yo0:Op2 K (λx y H Q=>rI0 (`aoY) x y H Q∨(`apf)∨Wl0 K x y H Q∨Wd0 K x y H Q∨bp0 K x y H Q) Z3:=by
 intro H B x y dx dy d Q hb rx ry h k;cases dx<;>cases dy<;>simp only[Z3] at h<;>try cases h
 ·rw[j9] at rx ry
  subst rx ry;exact `m ⟨_,_,rfl,rfl,`CB⟩
 ·split at h
  ·cases h
   rw[W4] at rx ry;subst rx ry;exact `i (`m ⟨_,_,rfl,rfl,`mE,`WG⟩)
  ·cases h
 ·split at h
  ·rename_i hz
   cases h;have O:=ry;have M:=rx;rw[X6] at rx ry;obtain⟨a,xs,rfl,q1,r1⟩:=rx;obtain⟨b,ys,rfl,q2,r2⟩:=ry
   by_cases he:`xK
   ·subst he
    have e:`axt=`axt:=rfl;have hn:=`u9;simp at hn;have J:=`axu;subst J;exact `i (`i (`i (`i ⟨a,b,ys,rfl,rfl,q1.to,q2.to,k _ H `dg (by rw[`fK];exact O)⟩)))
   ·refine `i (`i (`i (`m ⟨a,b,xs,ys,rfl,rfl,q1.to,q2.to,he,`axv,`g',λz p hp=>k _ _ `jq (ma0 hb hp (`CJ r2))⟩)))
    subst z;have hn:=`nI;simp at hn;have J:=`axu;subst J;exact k _ H `dg (by rw[`fb];exact M)
  ·cases h
 ·split at h
  ·rename_i hz
   cases h;rw[Y4] at rx ry;obtain⟨a,xs,rfl,q1,r1⟩:=rx;obtain⟨b,ys,rfl,q2,r2⟩:=ry;exact `i (`i (`m ⟨a,b,xs,ys,rfl,rfl,q1.to,q2.to,`axv,λp hp=>k _ _ `jq (qn0 hb hp (`CJ r2))⟩))
  ·cases h
theorem X5(ha:`dt)(hb:`ea):PD X (`nc a .Add b pos) (o2 ga gb Z3):=tx0 (Ra0.or (c10.or (Ug0.or (Tg0.or Yg0)))) Yo0 ha hb
instance decMul(i j:Int):`mD (CMul i j):=inferInstanceAs (`mD (`O4))
theorem zs0(ha:`dt)(hb:`ea):PD X `axw (o2 ga gb J0):=tx0 R10 ((show (ii λi j=>`avk)=J0 from by funext x y;cases x<;>cases y<;>rfl)▸ol0 (C:=CMul) (g':=`ao0) `yI) ha hb
theorem bh0{xs:`p}(h:`Wk=0/\`asO=`as):`Xf=xs:=by
 unfold cutD;rw[h.1,h.2];simp
theorem zw0{lo hi:`qm}{gl gh:`HO}{p2:Pos}(he:`bQ)(hl:PDO X lo gl)(hh:PDO X hi gh) :
  PD X `aqq (J9 g gl gh):=.mk λB δ =>
 (W00 (Qp0.or (Td0.or (Qq0.or Ti0))) (he B δ) (hl B δ) (hh B δ)).imp fun σ H Q hq100=>by
  obtain⟨d,en,h,k⟩:=hq100
  unfold J9 at h;cases e1:`aB with
  | none=>rw[e1] at h;cases h
  | some x =>
   cases e2:gl δ with
   | none=>rw[e1,e2] at h;cases h
   | some l =>
    cases e3:gh δ with
    | none=>rw[e1,e2,e3] at h;cases h
    | some u =>
     rw[e1,e2,e3] at h;simp only[`w] at h;refine⟨x,en,e1,λv H1 s1 r1=>⟨l,`jp,(by first|exact e2|rfl),λH2 s2=>⟨u,`OL,(by first|exact e3|rfl),λH3 s3=>?_⟩⟩⟩;have S:=`X0;have r3:=(`mA).same s3;have hb:=(`X1).bad;cases x<;>simp only[slA] at h<;>try cases h
     ·split at h
      ·cases h
       rw[W4] at r3;exact `m ⟨_,r3,`mE,k _ H3 S `OK⟩
      ·cases h
     ·have r4:=r3
      rw[X6] at r3;obtain⟨a,xs,rfl,q,r⟩:=r3;rename_i dxs
      by_cases hw:sIx `I_ 0 l=0/\sIx `I_ `I_ u=`I_
      ·refine `i (`i (`i ⟨a,xs,rfl,`c2,`axx,k _ _ S ?_⟩))
       rw[bh0 hw];exact r4
      ·exact `i (`i (`m ⟨a,xs,rfl,`c2,`axx,λp hp=>k _ _ (S.trans `jq) (ma0 hb hp `axy)⟩))
     ·rw[Y4] at r3
      obtain⟨a,xs,rfl,q,r⟩:=r3;exact `i (`m ⟨a,xs,rfl,`c2,λp hp=>k _ _ (S.trans `jq) (qn0 hb hp `axy)⟩)
theorem Rn0:FnR K `api intOfD:=by
 intro H B xs ds d Q hb r h k;unfold intOfD at h;split at h
 ·cases h
  obtain⟨v,rfl,r1⟩:=`hw;rw[j9] at r1;subst r1;exact `m `axz
 ·cases h
  obtain⟨v,rfl,r1⟩:=`hw;rw[X8] at r1;subst r1;exact `i `axz
 ·cases h
theorem ea0:FnR K (λxs H Q=>∃p ys,`gY/\(`W1∨`W2)/\`aq4) zp0:=by
 intro H B xs ds d Q hb r h k;unfold zp0 at h;split at h
 ·cases h
  obtain⟨v,rfl,r1⟩:=`hw;rw[Y4] at r1;obtain⟨a,ys,rfl,q,rr⟩:=r1;exact⟨a,ys,rfl,`m `c2,`axA⟩
 ·cases h
  obtain⟨v,rfl,r1⟩:=`hw;rw[X6] at r1;obtain⟨a,ys,rfl,q,rr⟩:=r1;exact⟨a,ys,rfl,`i `c2,`axA⟩
 ·cases h
universe zz
universe DL
namespace DL
open Spec PyProof.Rows
theorem V3{gA:GA}(h:`yw)(hl:`my):Z8 gA δ=`HJ:=by
 unfold Z8;rw[h,`w,`o_]
theorem vx0{gA:GA}(h:`yw)(hl:`my):V6 gA δ=`mz:=by
 unfold V6;rw[h,`w,`o_]
theorem Ve0{n:Int}{d:D}(h:d∈`sX):∃k:Nat,`bG<n/\d=`c3:=by
 obtain⟨k,hk,rfl⟩:=`e_ h;have:=`X2;exact⟨k,`h,by rw[`X3]⟩
theorem V20(f:D->α)(n:Int):(`sX).map f=`axB λ(k:Nat)=>f `wH:=by
 unfold U0;rw[`br];have:n - 0=n:=`h
 rw[`u];refine `axC
 show f (`e (0+`bG))=_;rw[`X3]
theorem vi0(n:Int):(`sX).length=`f':=by unfold U0;simp
theorem vh0{n:Int}{d:D}(h:(`sX)[j]?=`a5):j<`f'/\d=`j1:=by
 have hj:j<`f':=by
  have:=`axD
  rwa [vi0] at this
 refine⟨hj,?_⟩;unfold U0 at h;rw[`cj,`I0 `yu] at h;have:=B2 h;rw[← `u];show `c8 (0+`eu)=_;rw[`X3]
theorem pb0{gt:GB}{ge:GE}{n:Int}(h:`sY)(H:∀k:Nat,`bG<n->∃δ',gN 0 `wH δ=`BU/\`yt=`fh/\`BV=`a (h k)) :
  V1 `a6 gt ge δ (`sX)=`a (`axB h):=by
 rw[Q4 (λd=>match d with|`eo=>h `oh|_=>`A) (λd hd=>by
  obtain⟨k,hk,rfl⟩:=Ve0 hd;exact H k hk),V20]
 rfl
universe DL
namespace DL
open Spec PyProof.Rows L2
section
variable{a:`G}{ga:`b6}
theorem is0(hm:`oM)(hv:`pD=`agU)(ha:`bQ)(hg:`d':=by rfl)
  (hn:`kV := by decide) (hdb:`bq:=by decide) (he:`iK:=by rfl) (hpl:`gy:=by rfl) :
  PDF X (`bT (`bD x p) [e] [] pos) (oA `sZ zp0):=.mk λB δ=>(ub0 vw0 hg hm hv `I1 hn hdb he hpl).imp fun σ H Q hq101=>by
 obtain⟨d,en,h,k⟩:=hq101
 unfold oA z9 v7 at h;cases e1:`aB with
 | none=>rw[e1] at h;cases h
 | some x =>
  rw[e1] at h;simp only[`w,`eH] at h;refine`I2;cases x<;>simp only[zp0] at h<;>try cases h
  ·rw[X6] at r1
   obtain⟨q,xs,rfl,hq,rr⟩:=r1;exact⟨q,xs,rfl,`i `hv,`axE⟩
  ·rw[Y4] at r1
   obtain⟨q,xs,rfl,hq,rr⟩:=r1;exact⟨q,xs,rfl,`m `hv,`axE⟩
universe zz
noncomputable def FnN(P:`_)(w:`E)(K:`M)(mg:`bR)(base:`H)(x:Str)(k:Nat)(ps:`t)(f:`K):Prop :=
 ∃(fa:`f) (fd:`eC),`axF/\`auV
theorem sy0{k:Nat}{ps:`t}{f:`K}(C:`axG)(hr:`sN)(hk:k<=m)(ha:`iG)(hg:`d':=by rfl)(hdb:`bq:=by decide)
  (he:`dO:=by rfl) (hpl:`gx:=by rfl):PDF X `pY `B6:=by
 obtain⟨fa,fd,F,hm,kp,hb⟩:=C;exact .mk λB δ=>(qm0 (E:=E0) F `PA hg hm kp hb `ae kx0 `bP hdb he hpl).imp fun σ H Q h=>by
  obtain⟨d,en,h,k⟩:=h;unfold oA at h;cases e1:`cw with
  | none=>rw[e1] at h;cases h
  | some ds =>
   rw[e1] at h;refine`Ia;show spN X.K f (vs++[]) H1 Q E0;rw[`fb];exact⟨B,ds,d,`sB,r1,h,`axH⟩
theorem R5{k:Nat}{ps:`t}{f:`K}(C:`axG)(hr:`sN)(hk:k<=m)(ha:`iG)(hg:`d':=by rfl)(hdb:`bq:=by decide)
  (he:`dO:=by rfl) (hpl:`gx:=by rfl):`yE:=(sy0 C hr hk ha hg hdb he hpl).pd
theorem O6(h:`sF):PSD X `xZ (zt0 g):=.mk λH₀ B₀ δ pins s σ H D I hq102=>by
 obtain⟨r,en,e1,k⟩:=hq102
 unfold zt0 at e1;obtain⟨B,b1,b2,env⟩:=`ct;cases e2:`aB with
 | none=>rw[e2] at e1;cases e1
 | some d =>
  rw[e2] at e1;cases e1;exact ip0 `b' `j s σ H D I ⟨d,env,e2,λp H' hp s' r=>k p H' (`XB) (`Pe s') (`f8 `XE (`qb λa z=>z.imp (b1 a) id)).toL⟩
theorem s60(i:Nat){px:Pos}(hN:`cp:=by rfl)(hv:`fe:=by first|exact `cO|exact `hs|exact `ht)(hd:`bq:=by decide)(hcd:`fN:=by decide) :
  PSD X (.Return (`a `gb) pos) (l30 i):=.mk λH₀ B₀ δ pins s σ H D I hq103=>by
 obtain⟨r,en,e1,k⟩:=hq103
 unfold l30 at e1;obtain⟨B,b1,b2,env⟩:=`ct;split at e1
 ·rename_i d hi
  obtain⟨a,hs,hb,ro⟩:=`kA;cases e1;exact ip0 `jC `j s σ H D I ⟨_,hs,k a H (`nG i d a hi hs) `jo (ro.mono `XE (`qb λb z=>`qn (b1 b) λq=>by rw[q];exact hb))⟩
 ·cases e1
universe DL
namespace DL
@[simp] noncomputable def ob0:`K
 | `X4=>`a (`x (`PP λp=>`I3))
 | _=>`c
@[simp] noncomputable def o00:`K
 | `sy=>`a (`s `axI)
 | _=>`c
noncomputable def o80:`HL
 | `X4=>`a (`PP λp=>`I3)
 | _=>`c
noncomputable def sa0(gA:GA):GA:=fun δ=>`kw o80
noncomputable def z20(ds:`p):`p:=(`b? `b1).map λ(k:Nat)=>`x [`c3,ds.getD k `A]
noncomputable def aq0:`HL
 | `sy=>`a (z20 ds)
 | _=>`c
noncomputable def qh0(gA:GA):GA:=fun δ=>`kw aq0
@[simp] noncomputable def td0:`K
 | [`HX]=>`a (`HX)
 | _=>`c
mutual
noncomputable def tree:`fP
 | `iz=>`r
 | `iI=>`r
 | `iJ=>`r
 | `bO=>`X5
 | _=>`b
noncomputable def trees:`Xb
 | []=>`b
 | `aC=>`lp d&&`X5
end
noncomputable def tv0(g:GE):GE:=fun δ=>`W6 λd=>if `y_ then `a5 else `c
theorem fl0{g:GE}{d:D}(h:`nE=`a5)(ht:`y_):tv0 g δ=`a5:=by
 unfold tv0;rw[h,`w,`J ht]
noncomputable def ni0:GS:=`G9
theorem yb0{gA:GA}{n:Int}(h:`cw=`a [`H0])(h1:`X6)(h2:n<`gO):O1 gA δ=`a (`sX):=by
 unfold O1;rw[h,`w];simp only[de0];rw[`J `E1]
theorem g60{g:GE}(h:`aB=`mz):oA `sZ Y6 δ=`a (`e (`b1:Int)):=by
 rw[o9 `axJ];rfl
universe DL
namespace RevL
open Spec PyProof.Rows
theorem d70:`ni `I4 `I5=`k0:=by rw[`oF,`oG];kernel_rfl
theorem Zx0:`ni `I4 `Pt=`ai (`a (`dU "list_reverseiterator.__length_hint__")):=by rw[`oF,`oG];kernel_rfl
theorem Uo0:`TH `I4 `I4=`BS:=`axK
section
variable{w:`E}{A:`T}{s:`q}
variable{wr:`bn}{G:`axL}{P:`axM}{St:`V?}
theorem Ue0(W:`axN)(hT:`X7)(C:`f)(res:`v)(c0:Nat)(st:St 0 s)(hC:C∉fp)(hI:I∈fp)
  (gC:`em C=`a { cls:=`dv,data:=`be #[] c0 })
  (hR:∀s' acc' c',`axO->`axP->`X8->R (.ok (`fk res)) s') (hn:`sq) :
  `g `ao `bV (`Pu `qr `CE res)
   `axQ `X9 s:=by
 have ne:C≠I:=λe=>hC (e▸hI)
 unfold Builtin.List.listExtendWith;refine A0 (N2 `I6 (by
  have q1:`I7 `qr `CE=`r:=by simp[`I7,ne]
  have q2:(`axR==`X')=`r:=`ah
  have q3:(`axR==`X!)=`r:=`ah
  simp only[q1,q2,q3,`VK,`eD,`cB];refine A0 (W.self 0 _ _ _ st (A0 (C3 (by
   unfold Builtin.List.listLengthHint;refine A0 (L3 `I6 d70 (by
    show `g _ `bV (specialOf (`ej I) `axS>>=_) _ _ _;refine A0 (L3 `I6 Zx0 ?_);refine A0 (S1 `I6 Uo0 ?_);rw[`sm];dsimp only;rw[`J `go,`sm];refine `bE;rw[`V `go];refine A1 ⟨W1 PySem.F.plain_extend_loop _,?_⟩;exact codeAny_extend_loopS W hn _ hC _ n 0 _ _ _ rfl `yq st gC (ItemsOf.nil P) λs' acc' c' m e J=>hR s' acc' c' m e J))))))))
theorem Yq0(W:`axN)(hT:`X7)(C:`f)(st:St 0 s)(hC:C∉fp)(hI:I∈fp)
  (gC:`em C=`axT)
  (hR:∀s' acc' c',`axO->`axP->`X8->`axU) (hn:`sq) :
  `g `ao `bV (Builtin.«list.__init__» ⟨[`aa C,`aa I],[]⟩)
   `axQ `X9 s:=by
 show `g _ `bV (do let old ← `I8 `qr;Builtin.List.listUpdate `qr (`DE);letGo old.toList.reverse;`axV) _ _ s;refine A0 (by
  unfold Builtin.List.listItems;refine A0 (K0 gC rfl (A1 (by
   show `g _ `bV (`I9 C (`DE)>>=λ_=>letGo (#[]:`aZ).toList.reverse>>=λ_=>`axV) _ _ s;have g2:=P4 `axW gC rfl;have oth:∀b o,b≠C->`hL->(`lB C `axW).get? b=`aj:=`axX
   refine A0 (l0 gC rfl (A0 (d6 (Ue0 W hT C `aF _ (W.frame 0 s _ `aG st `aV λb hb o e=>oth b o (λh=>hC (h▸hb)) e) hC hI g2 (λs' acc' c' m e J=>?_) hn))));exact hR s' acc' c' (Moved.trans W.gtrans ((Moved.refl W.grefl).then_heap `aV λb o hb e=>oth b o (λh=>hb (h▸A5)) e) m) e J))))
universe zz
section
variable{w:`E}{A:`T}{s:`q}
variable{wr:`bn}{G:`axL}{P:`axM}{St:`V?}
theorem kh0{Q:`af}(W:WalksS `fn w A.in1.in1 I fp wr G n P St)(hT:`X7)(st:St 0 s)(hfp:∀b∈fp,b<`O)(hI:I∈fp)
  (hQ:∀s' acc' c',Moved (`O::wr) G `axY s' ->
   `agL `O=`agM->`X8->Q `e2 s') (hn:`sq) :
  `g `ao A (`de `vr [`aa I]) Q E s:=by
 have hC:s.heap.objs.size∉fp:=λz=>E5 _ (hfp _ z)
 refine B90 (Q₁:=λob s1=>ob=`ce/\s1=`axY) PySem.F.called_list (PySem.F.typeCall_list_1 _) PySem.F.entry_list_init (code_list_new _ `fv) λob s1 h1=>?_
 obtain⟨rfl,rfl⟩:=h1;have gC:(`agT).get? `O=`axT:=`cW;exact⟨⟨_,gC,rfl⟩,PySem.F.args_list_init_2 _ _,Yq0 W hT _ (W.frame 0 s _ `aG st `aV λb _ o e=>`pM) hC hI gC (λs' acc' c' m e J=>⟨rfl,hQ s' acc' c' m e J⟩) hn⟩
theorem kj0{l:`f}{its:`aZ}{Q:`af}(hh:`dN)(hl:`CL l its)(hz:`aeI)
  (h:∀(h':`H) (tk c:Nat) (a:`f),`Gs->`t8=`a { cls:=`dv,dict:=`c,data:=`be `X? c,slots:=#[] }->`y0->Q `bJ `hU) :
  `g `ao A (`de (`bs `lq) [`p1]) (λv s1=>`g `ao A (`de `vr [v]) Q E s1) E s:=by
 refine call_reversed_list hl ?_;obtain⟨ol,gl,_,_⟩:=id hl;have O:l<`O:=A7 gl;have a1:A.in1.in1.handled=`c:=`Ya
 have Wk:=(Walks.listRev (prog:=`fn) (w:=w) a1 `O l (B1 O) its).toS;refine kh0 Wk (λi s x=>x.2.1.typeIs) ⟨`eW,⟨_,`cW,rfl,by
  show `aoB #[`p1,`gc (`I')]=_;have z:`I' - `Be=`I':=`h
  rw[z]⟩,hl.push _⟩ (`fM) `Q (λs' M c' m e J=>?_) hz
 ·show b<`Yb
  rw[`mH];simp only[`aI,`aS,`aT] at hb;rcases hb with rfl|rfl
  ·exact x0 _
  ·exact i0 O
 ·obtain⟨h',g',d',Z,a0⟩:=s'
  obtain rfl:g'=`r0:=m.gens;obtain rfl:d'=`GA:=m.drawn;obtain rfl:a0=s.os:=m.os;have ea:M=`X?:=by
   apply Array.ext
   ·rw[J.1,Array.size_reverse]
   ·intro i h1 h2
    have q:its[`uk - 1 - i]?=`a M[i]:=J.2 i M[i] (l3 h1);have hi:i<`uk:=by rw[← J.1];exact h1
    rw[`v! `d] at q;rw[Array.getElem_reverse];exact(B2 q).symm
  subst ea;have a2:(`fs (revObj l (`I'))).objs.size=`Bk:=`mH ..;refine h h' Z c' _ ?_ e λb o eb=>?_
  ·show `O<=`Yb
   rw[`mH];exact Nat.le_succ _
  ·have lb:=A7 eb
   refine m.heap b o ?_ (B0 _ (B0 _ eb));simp only[`aI,`aS,`aT,`iP];refine⟨?_,B1 lb⟩;show b≠`Yb;rw[`mH];exact B1 (i0 lb)
universe zz
universe RevL
namespace DL
open Spec PyProof.Rows L2
theorem Rps.reverse:∀{ds:`p} {xs:`C},`bg->Rps K H B `axI `Hr
 | [],_,h=>`HY
 | `aC,_,h=>by
  rw[n6] at h;obtain⟨x,r,rfl,h1,h2⟩:=h;rw[`yh,`yh];exact `nK (Rps.reverse h2) h1
theorem fg0:`fo `lq=`a (`bs `lq):=`aP
theorem Vy0:`axZ:=`aP
theorem U90(hc:`b5)(hl:`ax_)(hs:`ax0)(he:`mq)(hgl:`ax1 := by rfl)(hgs:`ax2 := by rfl)
  (e1:`ax3:=by rfl) (e2:`iK:=by rfl)
  (h1:`gy:=by rfl) (h2:`ax4:=by rfl) :
  PE X `ax5 (fun σ H Q=>te σ H λv H'=>∃q xs,v=`aa q/\SqL X.K H' q xs/\∀l,H' l=`c->Q `nl (upd H' l (`s `Hr))):=by
 intro pins s σ H Q I h;refine P3 (za0 I hgl hl Vy0 ?_ `l `l);refine `ax6;rw[e1];show `g _ _ (`r3 (`agV::`Cc)) _ _ s;refine M1 ?_;refine P3 (za0 I hgs hs fg0 ?_ `l `l);refine E9 ?_ e2 h2;rw[e2];show `g _ _ (`r3 (`pU::`agW)) _ _ s;refine M1 (thn `r6 λu s1 hq104=>?_);obtain⟨v,H1,I1,r1,q,xs,ev,hq,k⟩:=hq104;refine U1 ?_;subst ev;obtain rfl:u=`ej q:=r1;obtain⟨its,rv,pl,hz⟩:=`vI hq;have J:=`gX;refine thn (RevL.kj0 (I1.ok.hd hc) `hq (by rw[`bF,← J];exact hz) (Q:=`aeE) (E:=`aE) λh' tk c a ha ga hk=>?_) `ax7
 have hf:H1 a=`c:=`m? ha;refine⟨`cH,_,`Bh (a:=a) (o:=`s `Hr) (t':=tk) hk ha ?_,rfl,k a hf⟩;exact⟨by rw[`y1];exact hz,`X?,c,rv.reverse,by rw[ga];simp⟩
theorem i90(hl:`ax_)(hs:`ax0)(he:`bQ)(hc:`b5:=by rfl)(hgl:`ax1 := by rfl)(hgs:`ax2 := by rfl)
  (e1:`ax3:=by rfl) (e2:`iK:=by rfl)
  (h1:`gy:=by rfl) (h2:`ax4:=by rfl) :
  PDF X `ax5 (oA `sZ o00):=.mk λB δ =>
 (U90 hc hl hs (he B δ) hgl hgs e1 e2 h1 h2).imp fun σ H Q hq105=>by
  obtain⟨d,en,h,k⟩:=hq105
  unfold oA z9 v7 at h;cases e3:`aB with
  | none=>rw[e3] at h;cases h
  | some x =>
   rw[e3] at h;simp only[`w,`eH] at h;cases x<;>simp only[o00] at h<;>try cases h
   refine⟨_,en,e3,λv H1 s1 r=>?_⟩;rw[Y4] at r;obtain⟨q,xs,rfl,hq,rr⟩:=r;exact⟨q,xs,rfl,`hv,λl hl=>k l _ (`qq hl) (`h0 `CC) ⟨_,j6,rr.reverse.mono (`vo hl)⟩⟩
theorem xz0[`ky]:∀{ks:`kz} {ds:`p} {xs:`C} {q:κ},`bg->(∀d,`au4=`a5->∃x,`ax8=`aQ/\`u2)/\(`B_->(`ax8).isSome=`sO)
 | [],ds,xs,q,h=>by
  refine⟨λd e=>?_,`I!⟩
  ·unfold K1 at e;cases e
  ·rfl
 | `hx,[],xs,q,h=>by
  rw[m7] at h;subst h;refine⟨λd e=>?_,`g'⟩
  ·unfold K1 at e;cases e
  ·simp at z
 | `hx,`aC,xs,q,h=>by
  rw[n6] at h;obtain⟨x,r,rfl,h1,h2⟩:=h;obtain⟨i1,i2⟩:=xz0 (ks:=ks) (q:=q) h2
  by_cases e:k=q
  ·subst e
   refine⟨`ax9,`I!⟩
   ·unfold K1 at e'
    rw[`aY] at e';cases e';exact⟨x,xv0 rfl,h1⟩
   ·rw[`eJ,xv0 rfl]
    unfold T9;simp
  ·refine⟨`ax9,`g'⟩
   ·unfold K1 at e'
    rw[`hy] at e';rw[`eJ,`o5];exact i1 d' e'
   ·rw[`eJ,`o5,i2 (`WW)]
    unfold T9;simp[e]
theorem fw0[`ky]:∀{ks:`kz} {xs:`C} {q:κ},`B_->((`BY).any λkv=>`I (`f!=q))=`sO
 | [],_,_,_=>rfl
 | `hx,[],_,h=>`iE
 | `hx,`sj,q,h=>by
  rw[`eJ,`ID,fw0 `kx];rfl
theorem qp0[`ky]{ks:`kz}{xs:`C}{q:κ}{v:V}(h:`B_):∃ys,`ju `u1 q v=(W6 ks q).zip ys/\(W6 ks q).length=`jd/\(`sO=`b->ys=`Yc)/\(`sO=`r->ys=`XL):=by
 unfold putK W6;rw[fw0 h];cases hk:`sO with
 | true =>
  rw[`aY,`aY];refine⟨`Yc,?_,`I?,`lS,λz=>by cases z⟩;clear hk
  induction ks generalizing xs with
  | nil=>rfl
  | cons k ks ih =>
   cases xs with
   | nil=>simp at h
   | cons x xs =>
    rw[`eJ,`al,`al,`eJ,ih `kx]
    by_cases e:k=q<;>simp[e]
 | false =>
  rw[`a7,`a7];refine⟨`XL,?_,`I?,`as3,`lS⟩;rw[`ax' h];rfl
theorem vc0[`ky]{q:κ}{d:D}{v:V}(hv:`dQ):∀{ks:`kz} {ds:`p} {xs:`C},`bg->Rps K H B (`au5 λp=>if p.1=q then d else p.2) (`Yc)
 | [],_,_,_=>`atg
 | `hx,[],xs,h=>`HY
 | `hx,d'::ds,xs,h=>by
  rw[n6] at h;obtain⟨x,r,rfl,h1,h2⟩:=h;rw[`eJ,`eJ,`al,`al,n6];refine⟨_,_,rfl,?_,vc0 hv h2⟩
  by_cases e:k=q
  ·simp only[e,`fO];exact hv
  ·simp only[e,`cB];exact h1
section
variable{a:`G}{ga:`b6}
theorem og0{d:D}{k:V9}{v:V}(h:`Cd=`eG)(r:`dQ):v=kV k:=by
 cases d<;>simp[yv0] at h
 ·subst h;rw[j9] at r;subst r;rfl
 ·subst h;rw[W4] at r;subst r;rfl
theorem bf0:∀{ds:`p} {ks:`eZ} {xs:`C},`Iy=`a ks->`bg->xs=`l' kV
 | [],ks,xs,h,r=>by cases h;rw[m7] at r;exact r
 | `aC,ks,xs,h,r=>by
  unfold q70 at h;rw[n6] at r;obtain⟨x,r',rfl,h1,h2⟩:=r;cases e1:`Cd with
  | none=>rw[e1] at h;cases h
  | some k =>
   cases e2:`Iy with
   | none=>rw[e1,e2] at h;cases h
   | some l =>
    rw[e1,e2] at h;cases h;rw[og0 e1 h1,bf0 e2 h2];rfl
theorem q50{d:D}{k:`eZ}{v:V}(h:z60 d=`eG)(r:`dQ):`ax!:=by
 cases d<;>simp only[z60] at h<;>try cases h
 rw[X6] at r;obtain⟨a,xs,rfl,q,rr⟩:=r;exact⟨a,rfl,by rw[← bf0 h rr];exact q.2⟩
theorem tm0(hu:`o6)(ha:`dt)(hb:`ea)(hs:Zw0 b:=by exact `mB):PD X `Hl (o2 ga gb G8):=.mk λB δ=>(Vr0 hu `bP `hu hs).imp fun σ H Q hq106=>by
 obtain⟨d,en,h,k⟩:=hq106
 unfold o2 at h;cases e1:`jj with
 | none=>rw[e1] at h;cases h
 | some x =>
  cases e2:`ld with
  | none=>rw[e1,e2] at h;cases h
  | some y =>
   rw[e1,e2] at h;simp only[`w] at h;refine`H9;cases x<;>simp only[G8] at h<;>try cases h
   rename_i ks ds;have r1:=`mA;cases ks with
   | inl ks =>
    simp only at h;cases e3:yv0 y with
    | none=>rw[e3] at h;cases h
    | some q =>
     rw[e3] at h;simp only[`w] at h;rw[uz0] at r1;obtain⟨p,xs,rfl,_,hp,hl,rr⟩:=r1;obtain⟨v,hv,rv⟩:=(xz0 rr).1 d h;have:=og0 e3 r2;subst this;exact⟨p,v,rfl,by rw[← hv];exact DGet.k hp,`ax?⟩
   | inr ks =>
    simp only at h;cases e3:z60 y with
    | none=>rw[e3] at h;cases h
    | some q =>
     rw[e3] at h;simp only[`w] at h;rw[m00] at r1;obtain⟨p,xs,rfl,_,hp,hl,rr⟩:=r1;obtain⟨v,hv,rv⟩:=(xz0 rr).1 d h;obtain⟨b,rfl,hb⟩:=q50 e3 r2;exact⟨p,v,rfl,by rw[← hv];exact `aya,`ax?⟩
theorem tu0(hu:`o6)(ha:`dt)(hb:`ea)(hm:`NL `sh b=`r:=by first|rfl|with_unfolding_all rfl):PTD X (`NM a [`sh] [b] pos) (ob (o2 ga gb `wg)):=.mk λB δ=>(Tw0 (b50 hu `bP `hu) hm).imp fun σ H Q hq107=>by
 obtain⟨t,en,h,k⟩:=hq107
 unfold ob o2 at h;cases e1:`jj with
 | none=>rw[e1] at h;cases h
 | some x =>
  cases e2:`ld with
  | none=>rw[e1,e2] at h;cases h
  | some y =>
   rw[e1,e2] at h;simp only[`w] at h;refine`H9;cases y<;>simp only[S7] at h<;>try cases h
   rename_i ks ds;cases ks with
   | inl ks =>
    simp only at h;cases e3:yv0 x with
    | none=>rw[e3] at h;cases h
    | some q =>
     rw[e3] at h;simp only[`eH,`w,asB,`sW] at h;cases h;rw[uz0] at r2;obtain⟨p,xs,rfl,_,hp,hl,rr⟩:=r2;have:=og0 e3 r1;subst this;refine⟨p,_,rfl,DGet.k hp,_,rfl,?_⟩;rw[(xz0 rr).2 hl];exact `ayb
   | inr ks =>
    simp only at h;cases e3:z60 x with
    | none=>rw[e3] at h;cases h
    | some q =>
     rw[e3] at h;simp only[`eH,`w,asB,`sW] at h;cases h;rw[m00] at r2;obtain⟨p,xs,rfl,_,hp,hl,rr⟩:=r2;obtain⟨b,rfl,hb⟩:=q50 e3 (`mA);refine⟨p,_,rfl,`aya,_,rfl,?_⟩;rw[(xz0 rr).2 hl];exact `ayb
theorem md0(i:Nat)(hu:`o6)(h:`bQ)(hN:`cp:=by rfl)(hv:`fe:=by first|exact `cO|exact `hs|exact `ht)(hd:`bq:=by decide)(hcd:`fN:=by decide)
  (ha:∀v,`XM=(do
   let ov ← `XN
   let iv ← `XO
   `GJ
   `GK
   `GL):=by intro _;rfl):PTG X `Cw `ayc:=.mk λH₀ B₀ d δ pins s σ H v u Q I r hq108=>by
 obtain⟨δ',en,e1,k⟩:=hq108
 unfold putAt at e1;obtain⟨B,b1,b2,env,rv⟩:=`ct;cases e2:`vf with
 | none=>rw[e2] at e1;cases e1
 | some pr =>
  cases e3:`aB with
  | none=>rw[e2,e3] at e1;cases e1
  | some dk =>
   rw[e2,e3] at e1;simp only[`w] at e1;cases e4:yv0 dk with
   | none=>rw[e4] at e1;cases e1
   | some q =>
    rw[e4] at e1;simp only[`w] at e1;split at e1
    ·rename_i hz
     cases e1;have hi:=e30 e2;obtain⟨a,J,hb,xs,hx,hl,rx⟩:=`kA;have hl:`Yd:=hl;refine `ayd;have:=og0 e4 r1;subst this;obtain⟨ys,hy,O,Z,a0⟩:=`aye;refine⟨a,_,rfl,DPut.k (`yY) (`Ye),?_⟩;have rr:`ayf:=by
      unfold V4;cases hk:`y2 with
      | true=>rw[`aY,Z hk];exact `ayg
      | false=>rw[`a7,a0 hk];exact `ayh
     rw[hy];have M:Env X.K (upd H1 a `ayi) B σ (`Yf):=`ayj;exact `XP
    ·cases e1
theorem T90{r:`Ce}(h:`W!=`di):`cg=`a (.ow (`oo)):=by
 unfold mx0 at h;split at h
 ·cases h;assumption
 ·cases h
theorem ew0:PDF X `sM `ayk:=.mk λB δ=>Zy0.imp fun σ H Q hq109=>by
 obtain⟨d,en,h,k⟩:=hq109
 cases h;exact `awD
theorem gr0(i:Nat)(hu:`o6)(h:`bQ)(hN:`cp:=by rfl)(hv:`fe:=by first|exact `cO|exact `hs|exact `ht)(hd:`bq:=by decide)(hcd:`fN:=by decide)
  (ha:∀v,`XM=(do
   let ov ← `XN
   let iv ← `XO
   `GJ
   `GK
   `GL):=by intro _;rfl):PTG X `Cw (u40 i g):=.mk λH₀ B₀ d δ pins s σ H v u Q I r hq110=>by
 obtain⟨δ',en,e1,k⟩:=hq110
 unfold u40 at e1;obtain⟨B,b1,b2,env,rv⟩:=`ct;cases e2:`W! with
 | none=>rw[e2] at e1;cases e1
 | some pr =>
  cases e3:`aB with
  | none=>rw[e2,e3] at e1;cases e1
  | some dk =>
   rw[e2,e3] at e1;simp only[`w] at e1;cases e4:z60 dk with
   | none=>rw[e4] at e1;cases e1
   | some q =>
    rw[e4] at e1;simp only[`w] at e1;split at e1
    ·rename_i hz
     cases e1;have hi:=T90 e2;obtain⟨a,J,hb,xs,hx,hl,rx⟩:=`kA;have hl:`Yd:=hl;refine `ayd;obtain⟨kb,rfl,a0⟩:=q50 e4 r1;obtain⟨ys,hy,O,Z,a1⟩:=`aye;refine⟨a,_,rfl,DPut.t (`yY) a0 (`Ye),?_⟩;have rr:`ayf:=by
      unfold V4;cases hk:`y2 with
      | true=>rw[`aY,Z hk];exact `ayg
      | false=>rw[`a7,a1 hk];exact `ayh
     rw[hy];have M:Env X.K (upd H1 a (.dT `ag_)) B σ (`df i (.ow (`aW (`i (`Px)) `CH))):=`ayj;exact `XP
    ·cases e1
universe zz
universe DL
namespace L2
open Spec PyProof.Rows
structure FunV(K:`M)(x qual:Str)(st:`fX)(f:`f)(fd:`eC)(dV:`v):Prop where
 ex:∃(oc:`v) (od:`da) (kV doc pm:`v) (an:`da) (cdv ct:`v) (osl:`kf),
  fd=`Yg/\`arB
 kp:`yo
section
variable{P:`_}{w:`E}
theorem FunV.ok{f:`f}{ps:`t}{k:Nat}(F:FunV K x `dc st f fd dV)(S:`sr)(len:`G1)
  (hbody:∀(cdv:`v) (A:`T) (outer:`fd) (s:`q) (H:Hp) (vs:`C) (Q:VK) (E:XK),`arD->`uu ->
   `arE):`arF:=by
 obtain⟨oc,od,kV,doc,pm,an,cdv,ct,osl,rfl,lk,J⟩:=F.ex;refine `arG
 obtain⟨t,h,q⟩:=`arH;exact`arI
theorem mv0{f:`f}{kV:`v}(l:`uP=`a ⟨oc,od,`gV (`Yg),osl⟩)
  (c:`BE) (k:`yo):FunV K x `dc st f (`Yg) dV:=`arJ
universe zz
universe L2
namespace DL
open Spec PyProof.Rows L2
section
variable{P:`_}{w:`E}
theorem Q20{ps:`t}{k:Nat}{f:`K}{G:`fR}(F:`ayl)(S:`sr)
  (body:`Ii)
  (hf:`aum) :
  `aun:=by
 refine `Ij
 ·rw[`am];exact`Ik
 ·refine`Il
  have en:`Im:=by
   refine`In;unfold L2.start Z9;rw[`am];exact `Io
  rcases (`vd).2 with e|⟨rfl,δ,e⟩|⟨e,hn⟩
  ·exact`auo
  ·exact`aup
  ·exact`auq
theorem Nm0{ps:`t}{k:Nat}{f:`K}{G:`fR}(F:`ayl)(S:`sr)
  (body:`Ii)
  (hf:`aur) :
  `aus:=by
 refine `Ij
 ·rw[`am];exact`Ik
 ·refine`Il
  have en:`Im:=by
   refine`In;unfold L2.start Z9;rw[`am];exact `Io
  exact`aut
universe zz
section
variable{a:`G}{ga:`b6}
noncomputable def c60(P:`_)(w:`E)(K:`M)(mg:`bR)(base:`H)(x:Str)(k:Nat)(ps:`t)(f:`K)(dd:`p):Prop :=
 ∃(fa:`f) (fd:`eC) (us:`ab) (vs:`C),`axF/\`aym
noncomputable def jx0(P:`_)(w:`E)(K:`M)(mg:`bR)(base:`H)(x:Str)(k:Nat)(ps:`t)(f:`K)(dd:`p):Prop :=
 ∃(fa:`f) (fd:`eC) (us:`ab) (vs:`C),`auU/\`aym
theorem Ua0{k:Nat}{ps:`t}{f:`K}(C:`ayn)(hr:`sN)(hk:k<=m)(ha:`iG)(hg:`d':=by rfl)(hdb:`bq:=by decide)
  (he:`dO:=by rfl) (hpl:`gx:=by rfl):PDF X `pY `ag1:=by
 obtain⟨fa,fd,us,dvs,F,hm,kp,hb,hd,J⟩:=C;exact .mk λB δ=>`ayo fun σ H Q h=>by
  obtain⟨d,en,h,k⟩:=h;unfold oA at h;cases e1:`cw with
  | none=>rw[e1] at h;cases h
  | some ds =>
   rw[e1] at h;refine`Ia;exact⟨B,`Pz,d,`sB,`ayp,h,`axH⟩
theorem U70{k:Nat}{ps:`t}{f:`K}(C:`ayn)(hr:`sN)(hk:k<=m)(ha:`iG)(hg:`d':=by rfl)(hdb:`bq:=by decide)
  (he:`dO:=by rfl) (hpl:`gx:=by rfl):`ayq:=(Ua0 C hr hk ha hg hdb he hpl).pd
theorem gc0{k:Nat}{ps:`t}{f:`K}(C:jx0 `bf X.w X.K `cv `eO x k ps f dd)(hr:`sN)(hk:k<=m)(ha:`iG)(hg:`d':=by rfl)(hdb:`bq:=by decide)
  (he:`dO:=by rfl) (hpl:`gx:=by rfl):`ayq:=by
 obtain⟨fa,fd,us,dvs,F,hm,kp,hb,hd,J⟩:=C;exact .mk λB δ=>`ayo fun σ H Q h=>by
  obtain⟨d,en,h,k⟩:=h;unfold oA at h;cases e1:`cw with
  | none=>rw[e1] at h;cases h
  | some ds =>
   rw[e1] at h;refine`Ia;exact⟨B,`Pz,d,`sB,`ayp,h,`WK⟩
theorem vr0{sc scope:`dK}{elt iter tg:`G}{ifs:`ci}{N N':`t}{n:Nat}{caps:`k}{gi:`d!}{idx:`k}{f:`a1}{gt:`fQ}{ge:`b6}
  (ok:`Iw) (hidx:∀j∈idx,j<n) (hi:`o2)
  (hg:`sG) (ht:`sH) (he:`sI)
  (hc:`b5:=by rfl) (hsc:`kv:=by rfl) (hN:X.N=N:=by rfl) (hs:`iD:=by intro _;rfl) :
  `aue:=iw0 hc hsc (hN▸ok) hidx hi hg ht he hs
universe zz
universe DL
namespace ZipL
open Spec PyProof.Rows
abbrev IsZ(h:`H)(z TI TO a:`f)(f:`X):Prop :=
 `kN z=`a { cls:=`PK,dict:=`c,data:=`i7 #[`gc a,`dZ f,`CQ,`PE,`P1],slots:=#[] }
section
variable{w:`E}{A:`T}{s:`q}
theorem alive{o:Obj}{Q:`ayr}(ho:`UE)(h:Q (`aj) s):`ays:=by
 have h':Q (`i9) s:=`ayt
 exact `ayu
theorem gu0{TI TO:`f}{f:`X}{Q:`jH}(hz:`s_)(ha:`y3)
  (hQ:∀h',`Yh->`hN z `W h'->Q `r `fr):`Yi:=by
 unfold Builtin.SmallTypes.ownedTupleIsFree;refine `ayv;show `ayw;rw[`aR];refine A0 (alive ha ?_);simp only[Option.isNone_some,`eD,`cB];refine A0 (C6 hz rfl (x:=`dZ f) rfl ?_);cases f with
 | true =>
  rw[`V (show ¬((`Hx != `Hx)=`b) from C5)];exact A1 (hQ _ hz (Heap.SameBut.refl _ _))
 | false =>
  rw[`J (show (`BD `r != `Hx)=`b from rfl)];exact A0 (G0 hz `Q λh3 J M=>A1 (hQ h3 J M))
theorem il0{TI TO a:`f}{f:`X}{oa:Obj}{k1 k2:Nat}{xs ys:`aZ}{x y:`v}{Q:`af}(D:`eK)
  (hz:`s_) (ha:`y3) (hTI:`iQ)
  (h1:`iR) (h2:`iS) (hl1:`hA) (hl2:`hB) (hx:`y4) (hy:`y5)
  (hQ:∀h',`Yh->`y6->`y7->`vy->`s0 ->
   `Ja->`P0) :
  `ayx:=by
 show `Jb;refine `Jc;show `Jd;refine `Je;refine `Jf;show `Jg;refine A0 (gu0 hz ha λh₁ a4 J=>?_);simp only[`eD,`cB];refine `ca;simp only[`ayy,`mt,`s1];refine `Jh;show `Ji;refine A0 (i4 `Yj `Yk hx λh₂ a3 M=>`bE);refine `bE;refine `Jh;show `Jj;refine A0 (i4 `ayz `ayA hy λh₄ a0 Z=>`bE);refine A1 `f5;refine `ayB;have O:`ayC=`O:=by rw[Z.1,M.1,J.1]
 have a2:IsZ h₄ z TI TO a `b:=`y8 _ _ `Yl (`qv _ _ `Jk a4);have a1:∀c o,`qu->`CO->`CP->`qt->`Ym c=`aj:=λc o c1 c3 c4 e=>`y8 _ _ c4 (`qv _ _ c3 (`nL _ _ c1 e))
 refine `Yn;show Q (`aa `ayC) _;have hq:=hQ (h₄.push `ayD) (B0 _ a2) ((`Jl `y8 D.i12).at `Yo) (a0.at `Yo)
  (by rw[← O];exact `cW) (by rw[`mH,O]) λc o c1 c3 c4 e=>B0 _ (a1 c o c1 c3 c4 e)
 rw[O];exact hq
theorem el0{TI TO a:`f}{f:`X}{oa:Obj}{k1 k2:Nat}{xs ys:`aZ}{Q:`F7}(hh:`dN)(D:`eK)
  (hz:`s_) (ha:`y3) (hTI:`iQ)
  (h1:`iR) (h2:`iS) (hl1:`hA) (hl2:`hB) (hend:`y9)
  (hE:∀h' e,`Ja->`ahD) :
  `ayE:=by
 show `Jb;refine `Jc;show `Jd;refine `Je;refine `Jf;show `Jg;refine A0 (gu0 hz ha λh₁ a0 J=>?_);simp only[`eD,`cB];refine `ca;simp only[`ayy,`mt,`s1];refine `Jh;show `Ji;cases hx:`CM with
 | none =>
  refine A0 (x6 hh `Yj `Yk hx λh₂ e M he=>?_);exact hE `mw e (λc o c1 c3 _ x=>M _ _ c3 (`nL _ _ c1 x)) he
 | some x =>
  have hy:`PG:=`ayF
  refine A0 (i4 `Yj `Yk hx λh₂ Z M=>`bE);refine `bE;refine `Jh;show `Jj;refine A0 (x6 hh `ayz `ayA hy λh₄ e O he=>?_);exact hE h₄ e (λc o c1 c3 c4 x=>O _ _ c4 (`qv _ _ c3 (`nL _ _ c1 x))) he
theorem oq0{TI TO a:`f}{f:`X}{oa:Obj}{k1 k2:Nat}{xs ys:`aZ}{x y:`v}{Q:`hh}(D:`eK)
  (hz:`s_) (ha:`y3) (hTI:`iQ)
  (h1:`iR) (h2:`iS) (hl1:`hA) (hl2:`hB) (hx:`y4) (hy:`y5)
  (hQ:∀h',`Yh->`y6->`y7->`vy->`s0 ->
   `Ja->`ahd) :
  `nQ:=by
 have hT:`kB := `mI;unfold pyNext;exact A0 (L7 (D8 (name:=`g3) hT D6
  (C8 D6 hT P6
   (il0 D hz ha hTI h1 h2 hl1 hl2 hx hy λh' a1 a3 a4 a5 a6 a7=>A1 (hQ h' a1 a3 a4 a5 a6 a7)) `mJ)))
theorem t50{TI TO a:`f}{f:`X}{oa:Obj}{k1 k2:Nat}{xs ys:`aZ}{Q:`hh}(hh:`dN)(D:`eK)
  (hz:`s_) (ha:`y3) (hTI:`iQ)
  (h1:`iR) (h2:`iS) (hl1:`hA) (hl2:`hB) (hend:`y9)
  (hQ:∀h',`Ja->`PI):`nQ:=by
 have hT:`kB := `mI;unfold pyNext;refine A0 (L7 (D8 (name:=`g3) hT D6
  (C8 D6 hT P6 (el0 hh D hz ha hTI h1 h2 hl1 hl2 `jE `ayG) `mJ)))
 obtain⟨o,ho,hc⟩:=he;refine `ayH;exact `ayI
universe zz
structure ZSt(h:`H)(z TI TO i1 i2 l1 l2 S:`f)(xs ys:`aZ)(i:Nat):Prop where
 own:(i=0/\`ayJ/\`ahm)∨∃a f oa,IsZ h z TI TO a f/\`gF=`a oa/\a≠z/\a≠i1/\a≠i2/\a≠S
 hTI:`ahl
 h1:`up i1 l1 i
 h2:`up i2 l2 i
 hl1:h.IsList l1 xs
 hl2:h.IsList l2 ys
structure ZLow(z TI TO i1 i2 l1 l2 S:`f):Prop where
 z:z<S
 TI:TI<S
 TO:TO<S
 i1:i1<S
 i2:i2<S
 l1:l1<S
 l2:l2<S
structure ZG(xs ys:`aZ)(S:`f)(h:`H)(as:`bn):Prop where
 rise:as.Pairwise (·<·)
 above:∀a∈as,S<a
 pairs:∀(j:Nat) (a:`f),`ayK->∃x y,`uC=`aQ/\`ayL/\`ev h a x y
section
variable{w:`E}{A:`T}{s:`q}{TI TO S:`f}{h:`H}
theorem ZG.there{as:`bn}(g:`ayM)(ha:a∈as):a<`dX:=by
 obtain⟨j,hj⟩:=Ba0.mp ha;obtain⟨_,_,_,_,e⟩:=`ayN;exact `cJ
theorem ZSt.keep(x:`ayO)(L:`ayP)(hk:∀b o,b≠S->`GN):ZSt h' z TI TO i1 i2 l1 l2 S xs ys i:=by
 refine⟨?_,hk _ _ (B1 L.TI) x.hTI,x.h1.at λo e=>hk _ o (B1 L.i1) e,x.h2.at λo e=>hk _ o (B1 L.i2) e,x.hl1.at λo e=>hk _ o (B1 L.l1) e,x.hl2.at λo e=>hk _ o (B1 L.l2) e⟩;rcases x.own with⟨e,hz,p,q,hp⟩|⟨a,f,oa,hz,ha,n1,n2,n3,n4⟩
 ·exact `m ⟨e,`ayQ,p,q,hk _ _ (B1 L.TO) hp⟩
 ·exact `i ⟨a,f,oa,`ayQ,hk _ _ n4 ha,n1,n2,n3,n4⟩
theorem Ot0{x:`v}{Q:`hh}(D:`eK)(st:`ayR)(hS:S<`O)(hx:`i')(hy:`PR)
  (hQ:∀h',ZSt h' z TI TO i1 i2 l1 l2 S xs ys `a4->`ayS) :
  `nQ:=by
 obtain⟨o1,e1,_⟩:=id `y';obtain⟨o2,e2,_⟩:=id `y!;rcases st.own with⟨rfl,hz,p,q,hp⟩|⟨a,f,oa,hz,ha,n1,n2,n3,n4⟩
 ·refine `ayT D hz `s2 hp `y' `y! `Jm `Jn hx hy λh' a1 a2 a3 a4 a5 a6 hk=>hQ h' ⟨`i ⟨_,`r,_,a1,a5,C1 (A7 hz),C1 (A7 e1),C1 (A7 e2),C1 hS⟩,hk _ _ `C3 D.TITO `PT `PU `s2,a3,a4,
   st.hl1.at λo e=>hk _ o `CT D.l1TO D.l1i1 D.l1i2 e,st.hl2.at λo e=>hk _ o `CV D.l2TO `CW D.l2i2 e⟩ a5 hk
 ·refine oq0 D hz ha `s2 `y' `y! `Jm `Jn hx hy λh' a1 a3 a4 a5 a6 hk=>hQ h' ⟨`i ⟨a,`b,oa,a1,hk _ _ n1 n2 n3 ha,n1,n2,n3,n4⟩,hk _ _ `C3 `PT `PU `s2,a3,a4,
   st.hl1.at λo e=>hk _ o `CT D.l1i1 D.l1i2 e,st.hl2.at λo e=>hk _ o `CV `CW D.l2i2 e⟩ a5 `ayU
theorem Oc0{Q:`hh}(hh:`dN)(D:`eK)(st:`ayR)(hend:`ayV)
  (hQ:`ayW):`nQ:=by
 rcases st.own with⟨rfl,hz,p,q,hp⟩|⟨a,f,oa,hz,ha,n1,n2,n3,n4⟩
 ·exact `ayX hh D hz `s2 hp `y' `y! `Jm `Jn `jE hQ
 ·exact t50 hh D hz ha `s2 `y' `y! `Jm `Jn `jE λh' hk=>hQ h' `ayU
universe zz
section
variable{w:`E}{A:`T}{s:`q}{TI TO S lo:`f}{h₁:`H}
theorem O10(hh:`dN)(D:`eK)(L:`ayP)(hlo:`Yp)(hn:`Jo)(res:`v)
  (hR:∀h' tk acc c as,(∀b o,b<lo->`ayY)->`hE S=`ayZ->`Yq->ZG xs ys S h' as ->
   `ay_->R (.ok (`fk res)) `hU) :
  ∀(k i:Nat) (h:`H) (tk c:Nat) (acc:`aZ) (as:`bn),`vA - i=k->i<=`vA->`ayO->(∀b o,b<lo->`CZ->`gN) ->
   `kN S=`ayZ->`ay_->`vB=i->`ayM ->
   `gU `ao A (`dU `ay0 ⟨[`aa S,`h3,res],[]⟩) R `Yr:=by
 have b3:=hlo.1;have b2:lo<S:=d4 hlo.1 L.z;have lk:∀(h h':`H),`ay1->∀b o,b<lo->`GN:=λh h' hk b o hb e =>
  hk b o (B1 (B8 hb hlo.1)) (B1 (B8 hb hlo.2.1)) (B1 (B8 hb hlo.2.2.1)) (B1 (B8 hb hlo.2.2.2)) e
 have Z:∀(h h':`H),`ay1->∀b o,S<=b->`GN:=λh h' hk b o hb e =>
  hk b o (C1 (B8 L.z hb)) (C1 (B8 L.TO hb)) (C1 (B8 L.i1 hb)) (C1 (B8 L.i2 hb)) e
 intro k
 induction k with
 | zero =>
  intro i h tk c acc as hk hi a3 J hS M O hG;have b1:`ayV:=by
   rcases Nat.le_total `nM `qw with q|q
   ·exact `m (D90 `d)
   ·exact `i (D90 `d)
  refine `ay2;rw[`ay3];show `ay4;refine A0 (Oc0 (s:=`Yr) (A:=`bV) hh D a3 b1 λh' he=>?_);refine A1 (hR h' tk acc c as (λb o h1 e=>lk h h' he b o h1 (J b o h1 e)) (Z h h' he S _ `aV hS) `d ⟨hG.rise,`Jp,`ay5⟩ M);obtain⟨x,y,e1,e2,e3⟩:=hG.pairs j a hj;exact⟨x,y,e1,e2,Z h h' he a _ (P2 (`Jp a `Ys)) e3⟩
 | succ k ih =>
  intro i h tk c acc as hk hi a3 J hS M O hG;have a2:i<`vA:=`h
  have a7:i<`nM:=B8 a2 (Nat.min_le_left ..);have a8:i<`qw:=B8 a2 (C70 ..);have a5:acc.size=i:=by rw[← `bp,M,`Y,O]
  have a1:S<`dX:=A7 hS;refine `ay2;rw[`ay3];show `ay4;refine A0 (Ot0 (s:=`Yr) D a3 a1 (l3 a7) (l3 a8) λh' b0 ht a0=>?_);dsimp only at ht a0 ⊢;have a6:=Z h h' a0 S _ `aV hS;have up:∀b o,b≠S->`m2->(h'.update S (`fB `ay6)).get? b=`aj:=`axX
  show `g _ `bV (`I9 S `ay6>>=_) _ _ _;refine `ca;refine l0 a6 rfl (A1 ⟨W1 x9 _,ih `a4 _ tk _ (`ay7) `ay8 `d a2 (b0.keep L up)
   (λb o h1 e=>up b o (B1 (L1 h1 b2)) (lk h h' a0 b o h1 (J b o h1 e))) (P4 _ a6 rfl) (by rw[`iT,M,`bI];rfl) (by rw[`ad,O];rfl) ⟨?_,?_,?_⟩⟩) (by rw[a5];omega) (by show (`ay7).size<=`R+1;rw[`Qk,a5];omega)
  ·refine `s3 ⟨hG.rise,`Yt,`Yu⟩
   rw[`C8];exact hG.there ha
  ·intro a ha
   rcases `Yv with ha|ha
   ·exact `Jp a ha
   ·rw[`fz ha];exact a1
  ·intro j b hj
   rcases Db0 j `vB with h1|h1|h1
   ·rw[`f4 h1] at hj
    obtain⟨x',y',e1,e2,e3⟩:=hG.pairs j b hj;have hb:=`Jp b `Ys;exact⟨x',y',e1,e2,up b _ (C1 hb) (Z h h' a0 b _ (P2 hb) e3)⟩
   ·subst h1
    have hb:`dX=b:=`uY
    subst hb;exact⟨_,_,by rw[O];exact l3 a7,by rw[O];exact l3 a8,up _ _ (C1 a1) ht⟩
   ·have a4:`ay8[j]?=`c:=`jm (`s4)
    rw[a4] at hj;cases hj
universe zz
theorem dt0:`ni `vH `I5=`k0:=by rw[`oF,`oG];kernel_rfl
theorem f50:`ni `vH `Pt=`k0:=by rw[`oF,`oG];kernel_rfl
section
variable{w:`E}{A:`T}{s:`q}{TI TO lo:`f}
noncomputable def Sn0(xs ys:`aZ)(lo:`f)(s:`q)(h':`H)(as:`bn):Prop :=
 (∀b o,b<lo->`CG)/\`Yq/\ZG xs ys `O h' as
theorem fh0{Q:`ay9}(hh:`dN)(D:`eK)(hlo:`Yp)
  (st:`ay') (hn:`Jo) (L:`ay!)
  (hT:`kB) (hI:`ay?)
  (hQ:∀h' tk as,`aza->`azb->Q (`qx) `hU):`g `ao A (collect `e1) Q E s:=by
 have Z:`O≠z:=C1 L.z;obtain⟨f0,hI⟩:=hI;unfold collect;refine A0 (wpAny_runValue (P1 F.entry_proto_collect ?_));rw[`vC F.plain_proto_collect _];show `g _ `bV (`Wa>>=λl=>`pR (`dU "list.__iadd__" ⟨[l,`h3],[]⟩)) _ _ s;refine A0 (L5 ?_);refine A1 ⟨W1 `azc _,P1 F.entry_list_iadd ?_⟩;rw[`vC `azc _];have M:(`PL).get? `O=`a `BO:=`cW;have a1:=B0 `BO hI;have J:`Jq `azd `e1 `eS := ⟨_,a1,rfl⟩;show `g _ `bV (`Pu `e2 `e1 `e2) _ _ _;unfold Builtin.List.listExtendWith;refine A0 (N2 J ?_);have h1:`I7 `e2 `e1=`r:=by simp[`I7,Z]
 have h2:(`h2 `eS==`X')=`r:=`ah
 have h3:(`h2 `eS==`X!)=`r:=`ah
 simp only[h1,h2,h3,`VK,`eD,`cB];refine A0 (y4 (s:=`azd) a1 ?_);refine `vx;unfold Builtin.List.listLengthHint;refine A0 (L3 J dt0 ?_);show `g _ `bV (specialOf (`ej z) `axS>>=_) _ _ _;refine A0 (L3 J f50 ?_);refine `bE;show `g _ `bV (`lx "list.extend.makes-room">>=λ_=>Builtin.List.listTouch `e2>>=λ_ =>
  `pR (`dU `ay0 ⟨[`ce,`h3,`ce],[]⟩)) _ _ _
 refine `y?;refine `ca;show `g _ `bV (`I9 `O (`PJ `aF)>>=λ_=>`I9 `O `Yw) _ _ _;refine A0 (l0 M rfl ?_);have a0:=P4 `aze M rfl;refine l0 a0 rfl ?_;have a3:=P4 (`fB `Yw) a0 rfl;have oth:∀b o,b≠`O->`hL ->
   (((`PL).update `O `aze).update `O (`fB `Yw)).get? b=`aj :=
  λb o hb e=>`CF (`CF `HD)
 refine A1 ⟨W1 x9 _,O10 (s:=s) (lo:=lo) (h₁:=`W) hh D L hlo hn _ (λh' tk a4 c as hk O hl hG a2=>?_) _ 0 _ `aG _ #[] [] rfl `yq
  ((st _ Z (C1 L.i1) (C1 L.i2)).keep L oth) (λb o hb e=>oth b o (B1 `hO) e) a3 rfl rfl ⟨`Hu,(λ_ ha=>nomatch ha),(λj a hj=>by simp at hj)⟩⟩
 show `g _ A (load `O>>=_) _ _ _;refine A0 (`aoo O ?_);refine `bE;have:=hQ h' tk as ⟨hk,hl,hG⟩ (A7 O);rw[← a2] at this;exact `u
universe zz
section
variable{w:`E}{A:`T}{s:`q}{TI TO lo:`f}
theorem rp0{Q₁:`af}(hh:`dN)(D:`eK)(hlo:`Yp)
  (st:`ay') (hn:`Jo) (L:`ay!)
  (hT:`kB) (hI:`ay?)
  (h:∀h' tk as,`aza->`azb->Q₁ (`Ho) { s with heap:=`DH `azf,toks:=tk }) :
  `gU `ao A (`uM (`dU `Yx) `Yy) (wants Q₁ E) s:=by
 refine codeAny_of_tree ?_;show `g _ `bV (do checkBuiltinCall `Yx `Yy;`pR (`dU `Yx `Yy)) _ _ s;refine A0 (`azg (F.newCall_tuple_1 _) (A1 ⟨W1 `azh _,P1 F.entry_tuple_new ?_⟩));rw[`vC `azh _];have Z:=sub_tuple_self;have O:=init_tuple_lookup;have a0:=madeHere_tuple;have M:`azi:=`Ya
 wp_walk using N2 hT,fh0 (lo:=lo) M D hlo st hn L hT hI
 intro h' tk as hz J;show `g _ _ (`Bp `ahf>>=λv=>ret v) _ _ _;unfold Builtin.Tuple.tupleExact;refine A0 (L5 ?_ (by show (`qx).toArray.size<=`R;rw[`bF,`Y,hz.2.1];exact hn));exact A1 (h h' tk as hz J)
theorem cv0{Q:`af}(hh:`dN)(hl1:`hA)(hl2:`hB)(hn:`Jo)
  (h:∀(h':`H) (tk:Nat) (as:`bn) (t:`f),`y0->`Yq->(∀a∈as,`Gs/\a<t)->as.Nodup->`O<=t ->
   (∀(j:Nat) (a:`f),`ayK->∃x y,`uC=`aQ/\`ayL/\`ev h' a x y)->`hE t=`a `azf->Q `k9 `hU) :
  `g `ao A (`de `vH [`aa l1,`aa l2]) (λv s1=>`g `ao A (`de `xF [v]) Q E s1) E s:=by
 have a1:l1<`O:=by obtain⟨_,e,_⟩:=hl1;exact `cJ
 have a2:l2<`O:=by obtain⟨_,e,_⟩:=hl2;exact `cJ
 refine y6 hl1 hl2 λh1 hz hTI O hi1 hi2 Z hk=>?_
 have J:h1.IsList l1 xs:=hl1.at `azj
 have M:h1.IsList l2 ys:=hl2.at `azj
 have H:∀k,k<5->`O+k<`za:=λk hk=>by rw[Z];exact Nat.add_lt_add_left hk _
 refine B90 (Q₁:=λobj s₁=>s₁.TypeIs obj `eg/\Q obj `d_) F.called_tuple (F.typeCall_tuple_1 _) F.entry_object_init
  (rp0 (lo:=`O) (xs:=xs) (ys:=ys) (`Ya) `Jr ⟨B4 _ 4,B4 _ 3,`eN,B4 _ 1⟩ (λS n1 n2 n3=>⟨`m ⟨rfl,hz,_,_,O⟩,hTI,hi1,hi2,J,M⟩) hn
   ⟨H 4 `l,H 2 `l,H 3 `l,H 0 `l,H 1 `l,L1 a1 `Js,L1 a2 `Js⟩
   `mI `azk λh' tk as ze a0=>⟨`Jt,?_⟩) λobj s₁ h₁=>?_
 ·obtain⟨k1,k2,g⟩:=ze
  refine h (`DH _) tk as `f7 (λb o e=>B0 _ (k1 b o `hO (hk b o e))) k2 (λa ha=>⟨?_,g.there ha⟩) (g.rise.imp λh=>B1 h) ?_ (`ay5) (`cW)
  ·exact P2 (L1 `Js (g.above a ha))
  ·exact P2 (L1 `Js a0)
  ·obtain⟨x,y,e1,e2,e3⟩:=`ayN
   exact⟨x,y,e1,e2,B0 _ e3⟩
 ·exact⟨h₁.1,`azl,object_init_meets F.called_tuple.init.lookup F.called_tuple.made `l `fn w `bV _ `d_ ⟨h₁.1,rfl,h₁.2⟩⟩
universe zz
universe ZipL
namespace L2
open Spec PyProof.Rows
noncomputable def wm0(H:Hp):`s5->Hp
 | []=>H
 | p::l=>upd `vD p.1 p.2
theorem pz0{b:`f}:∀{l:`s5},(∀p∈l,p.1≠b)->`Yz=H b
 | [],_=>rfl
 | p::l,h=>by
  show `azm=_;rw[b7 (B9 (h p A5)),pz0 λq hq=>h q (`YA)]
theorem qd0{b:`f}{u:HO}:∀{l:`s5},`Yz=`aU->(∃p∈l,p.1=b/\p.2=u)∨`xI
 | [],e=>`i e
 | p::l,e=>by
  by_cases h:b=p.1
  ·subst h
   have e':upd `vD p.1 p.2 p.1=`aU:=e;rw[j6] at e';exact `m ⟨p,A5,rfl,B2 e'⟩
  ·have e':`azm=`aU:=e
   rw[b7 h] at e';rcases qd0 e' with⟨q,hq,x⟩|x
   ·exact `m ⟨q,`YA,x⟩
   ·exact `mk
theorem pj0:∀{l:`s5},(`c1 `C_).Nodup->∀p∈l,wm0 H l p.1=`uf
 | [],_,p,h=>nomatch h
 | q::l,n,p,h=>by
  rw[`al,`Ju] at n;show upd `vD q.1 q.2 p.1=_;rcases `oe with rfl|h
  ·rw[j6]
  ·rw[b7 (λz=>n.1 (by rw[← z];exact i5 h)),pj0 n.2 p h]
section
variable{s:`q}
theorem Inv.laidL{l:`s5}{t':Nat}(I:`B)(k:`UA)
  (hl:∀p∈l,`O<=p.1/\∃xs,p.2=`ek/\`b_ `bf X.w H h' p.1 `kQ):Inv X `j σ `vD `m3:=by
 have J:∀b,b<`O->`Yz=H b:=λb hb=>pz0 λp hp z=>by
  have:=(hl p hp).1;rw[z] at this;exact E5 _ (B8 hb `u)
 refine I.un ⟨`amQ,`amR,λb u q n _=>by rw[J b (A7 q)];exact n,`amS,λb xs q=>`azn,
  λb u xs q=>`azn,λb ps q=>⟨#[],by rw[`ahh,q];simp⟩⟩ `Uz
 rcases qd0 e with⟨p,hp,rfl,rfl⟩|e'
 ·obtain⟨_,xs,ex,ok⟩:=hl p hp
  rw[ex];exact ok
 ·exact(`bt b u e').stay `amI (λc q=>`YB) (λc xs q=>`YB) λc ob u' q=>`YB
universe zz
noncomputable def gn0(X:Cx)(f1 f2:`v)(r:`er):Prop :=
 ∀(pins:`ay) (s:`q) (σ:St) (H:Hp) (xs:`C) (us:`ab) (Q:VK),`B->`d8->`GX ->
  `g `ak X.A (`de f2 us) (λv s1=>`g `ak X.A (`de f1 [v]) `fw `aE s1) `aE s
section
variable{x1:Str}{T1 T2:`cC}{r:`er}{t:TA}
theorem ck0(hc:`azo)(hg1:Gl X x1)(hg2:Gl X x2)(hm1:`azp)(hm2:`azq)(hv1:`azr)(hv2:`azs)(ha:`x8)
  (hn1:`azt := by decide) (hd1:`azu:=by decide) (hn2:`azv := by decide) (hd2:`azw:=by decide)
  (e1:`azx:=by rfl) (h1:`gy:=by rfl)
  (he:`dO:=by rfl) (hpl:`azy:=by rfl) :
  PE X `azz (tCB r t):=by
 intro pins s σ H Q I h;refine P3 (za0 I hg1 hm1 hv1 ?_ hn1 hd1);refine `ax6;rw[e1];show `g _ _ (`r3 (`ahi::`Cc)) _ _ s;refine M1 ?_;refine P3 (za0 I hg2 hm2 hv2 ?_ hn2 hd2);refine E9 (thn `azA λus s1 hq111=>?_) he hpl;obtain⟨vs,H1,I1,r1,q1⟩:=hq111;exact thn (`afb) `ax7
universe zz
universe L2
namespace DL
open Spec PyProof.Rows L2
section
variable{x1:Str}{T1 T2:`cC}{r:`er}{f:`K}
theorem Zi0(hc:`azo)(hf:`WL)(hm1:`azp)(hm2:`azq)(hv1:`azr)(hv2:`azs)(ha:`iG)(hg1:Gl X x1:=by rfl)(hg2:Gl X x2:=by rfl)
  (hn1:`azt := by decide) (hd1:`azu:=by decide) (hn2:`azv := by decide) (hd2:`azw:=by decide)
  (e1:`azx:=by rfl) (h1:`gy:=by rfl)
  (he:`dO:=by rfl) (hpl:`azy:=by rfl) :
  PD X `azz `B6 :=
 .mk λB δ=>(ck0 hc hg1 hg2 hm1 hm2 hv1 hv2 `bP hn1 hd1 hn2 hd2 e1 h1 he hpl).imp `WM
universe zz
noncomputable def z00:`bn->`nF->`s5
 | `s6,`iU=>(a,`I3)::`PO
 | _,_=>[]
theorem lk0:∀{as:`bn} {ps:`nF},`vB=`P->`azB=as
 | [],[],_=>rfl
 | [],`bh,h=>`iE
 | `bh,[],h=>`iE
 | `s6,`iU,h=>by
  show a::`azB=_;rw[lk0 `kx]
theorem lb0:∀{as:`bn} {ps:`nF} {q:`PM},q∈`PO->∃(j:Nat) (p:V×V),as[j]?=`a q.1/\ps[j]?=`a p/\q.2=`I3
 | [],_,q,h=>`Jv
 | `bh,[],q,h=>`Jv
 | `s6,`iU,q,h=>by
  rcases `oe with rfl|h
  ·exact⟨0,p,rfl,rfl,rfl⟩
  ·obtain⟨j,p',h1,h2,h3⟩:=lb0 h
   exact⟨j+1,p',`t9,`ad3,h3⟩
noncomputable def Wn0(K:`M):`er:=λvs H Q=>∃q1 q2 xs ys,vs=[`aa q1,`aa q2]/\SqL K H q1 xs/\SqL K H q2 ys /\
 ∀(t:`f) (as:`bn),`YC->as.Nodup->t∉as->`YD->(∀a∈as,`Gm)->Q `k9 (wm0 H ((t,`x `C1)::`azC))
theorem le0:∀as:`bn,`bK `C1 (`qx)
 | []=>`ae
 | `s6=>`au rfl (le0 as)
theorem nw0(hc:`b5:=by rfl):gn0 X `xF `vH (Wn0 X.K):=by
 intro pins s σ H vs us Q I r h;obtain⟨q1,q2,xs,ys,rfl,h1,h2,k⟩:=h;cases r with
 | cons r1 r =>
  cases r with
  | cons r2 r =>
   cases r;obtain rfl:=r1;obtain rfl:=r2;obtain⟨us1,v1,p1,z1⟩:=`dx h1;obtain⟨us2,v2,p2,z2⟩:=`dx h2;have l1:=v1.length;have l2:=v2.length;refine ZipL.cv0 `gv `e3 `gd (`awG) λh' tk as t hk hl ha O ht hp gt=>?_
   rw[`bF,`bF] at hl;have M:`YC:=by rw[`c4,hl];omega
   refine⟨`aa t,_,I.laidL (t':=tk) hk λp J=>?_,rfl,k t as M O (λz=>E5 _ (ha t z).2) (`Bs ht) λa h=>`Bs (ha a h).1⟩;rcases `bU J with rfl|J
   ·refine⟨ht,_,rfl,?_,`qx,le0 as,⟨_,gt,rfl,_,rfl,rfl⟩⟩
    rw[`Y,hl];omega
   ·obtain⟨j,⟨x,y⟩,e1,e2,e3⟩:=lb0 J
    obtain⟨u,w,f1,f2,f3⟩:=hp j p.1 e1;have hz:=P8.mp e2;obtain⟨u',g1,g2⟩:=v1.get hz.1;obtain⟨w',g3,g4⟩:=v2.get hz.2;have eu:u'=u:=by
     have:us1.toArray[j]?=`a u':=by simpa using g1
     rw[f1] at this;exact`YE
    have ew:w'=w:=by
     have:us2.toArray[j]?=`a w':=by simpa using g3
     rw[f2] at this;exact`YE
    subst eu;subst ew;exact⟨(ha p.1 (C2 e1)).1,_,e3,`re,[u',w'],`au g2 (`au g4 `ae),⟨_,f3,rfl,_,rfl,rfl⟩⟩
theorem lm0:∀{ds es:`p} {xs ys:`C} {as:`bn},`bg->`ate->`YC->(∀p∈`azC,H p.1=`uf/\¬B p.1) ->
  Rps K H B (`PW) `C1
 | [],es,xs,ys,as,r1,r2,hl,h=>by
  rw[m7] at r1;subst r1;simp at hl;subst hl;simp[m7]
 | `aC,[],xs,ys,as,r1,r2,hl,h=>by
  rw[m7] at r2;subst r2;simp at hl;subst hl;simp[m7]
 | `aC,`uo,xs,ys,as,r1,r2,hl,h=>by
  rw[n6] at r1 r2;obtain⟨x,xs',rfl,a1,a2⟩:=r1;obtain⟨y,J,rfl,b1,b2⟩:=r2;cases as with
  | nil=>simp at hl
  | cons a as =>
   have h0:=h (a,`x `vF) A5;rw[`eJ,`al,`al,n6];refine⟨_,_,rfl,?_,lm0 a2 b2 `u5 λp hp=>h p (A6 _ hp)⟩;rw[X6];refine⟨a,`vF,rfl,⟨h0.2,h0.1⟩,?_⟩;rw[n6];refine⟨_,_,rfl,a1,?_⟩;rw[n6];exact⟨_,_,rfl,b1,`ga⟩
theorem em0:∀{as:`bn} {zs:`nF} {p:`PM},p∈z00 as zs->∃xs,p.2=`ek
 | [],_,_,h=>`Jv
 | `bh,[],_,h=>`Jv
 | `s6,z::zs,p,h=>by
  unfold z00 at h;rcases `oe with rfl|h
  ·exact`aM
  ·exact em0 h
theorem U20{t b:`f}{o:HO}{as:`bn}{zs:`nF}{ob:Obj}{xs:`C}(ho:`WE)(h:wm0 H ((t,o)::z00 as zs) b=`azD):H b=`azD:=by
 rcases qd0 h with⟨p,hp,_,e⟩|h
 ·rcases `bU hp with rfl|hp
  ·exact `L e (ho _ _)
  ·obtain⟨ys,e'⟩:=em0 hp
   rw[e] at e';cases e'
 ·exact h
theorem ah0:FnR K (Wn0 K) ob0:=by
 intro H B xs ds d Q bad r h k;unfold ob0 at h;split at h<;>try cases h
 rename_i ds es;rw[n6] at r;obtain⟨x,r',rfl,r1,r⟩:=r;rw[n6] at r;obtain⟨y,r',rfl,r2,r⟩:=r;rw[m7] at r;subst r;rw[Y4] at r1 r2;obtain⟨q1,us,rfl,s1,t1⟩:=r1;obtain⟨q2,ws,rfl,s2,t2⟩:=r2;refine⟨q1,q2,us,ws,rfl,s1.to,s2.to,λt as hl M ht ft fa=>?_⟩;have J:(`azE)=t::as:=by rw[`al,lk0 hl]
 have hN:(`azE).Nodup:=by rw[J];exact `Sk ⟨ht,M⟩
 have fr:∀p∈(`C2),`aep:=λp hp=>by
  have:p.1∈t::as:=by rw[← J];exact i5 hp
  rcases `bU `u with e|e
  ·rw[e];exact ft
  ·exact fa _ e
 have sm:`eV H (wm0 H (`C2)):=⟨λb u e=>by
  rw[pz0 λp hp z=>by rw[← z,fr p hp] at e;cases e];exact e,λb ob xs e=>U20 (by intro _ _ z;cases z) e⟩
 have nb:∀p∈(`C2),¬B p.1:=λp hp z=>bad _ z (fr p hp)
 refine k _ _ sm ?_;rw[X6];refine⟨t,`ahj,rfl,⟨nb _ A5,pj0 hN _ A5⟩,lm0 (t1.same sm) (t2.same sm) hl λp hp=>⟨pj0 hN p (A6 _ hp),nb p (A6 _ hp)⟩⟩
universe DL
namespace L2
open Spec PyProof.Rows
section
variable{s:`q}
theorem Inv.turnedL(I:`B)(hf:∀b∈fp,`A!)(k:`azF):`Ux:=by
 have J:∀b u,`xI->b∉fp:=λb u e z=>by rw[(hf b z).1] at e;cases e
 refine `Gz (g':=`r0) (d':=`GA) (ch:=fp) (λb hb=>⟨(`k3).2.2.2.1,(`k3).2.1,(`k3).2.2.2.2.1,(`k3).2.2.2.2.2⟩) (λb o _ _ hc e _=>`YF) (λb o _ _ hc e _=>⟨o.slots,`YF⟩) `am!
  (λb o hc e=>⟨o,`YF⟩) (`GB) (λ_ _ _ e=>e) `am? (λm hm=>?_) (`Uz) `iA
 ·obtain⟨o,es,ep,ho,r⟩:=hm
  exact⟨o,es,ep,k _ o (λz=>(hf _ z).2.1 rfl) ho,r⟩
 ·refine`ana
  rcases hc with z|z
  ·rw[z];exact J b u e
  ·exact J c _ z
theorem Inv.turnedNew{t':Nat}{x y:V}{w:`v}(I:`B)(hf:∀b∈fp,`A!)(rx:`gP)(ry:`Pl)(hlt:∀b∈fp,b<`O)
  (hob:`aq5=`a `ahk) (k:`azF) :
  Inv X `j σ `azG `m3/\∀b∈fp,`azH:=by
 have ne:∀b∈fp,b≠`O:=λb hb=>B1 (hlt b hb)
 have fr:∀b∈fp,`azH:=λb hb=>by rw[b7 (ne b hb)];exact(`k3).1
 have I1:Inv X `j σ `azG `azI :=
  `ge (`pN) `aV ⟨`re,[u,w],`au rx (`au ry `ae),`T7⟩
 refine⟨Inv.turnedL (s:=`azI) (t':=t') (fp:=fp) I1 `azJ λb o hb e=>?_,fr⟩;rcases Heap.get?_push_cases e with⟨rfl,rfl⟩|e
 ·exact hob
 ·exact k b o hb e
universe zz
noncomputable def Itz(K:`M)(a b:`f):It :=
 ⟨`azK,
   λi H v H'=>∃t x y,v=`aa t/\`YD/\H'=upd H t `qy/\`azL,
   `azM⟩
theorem Xm0{P:`_}{w:`E}{x1}{TI TO b:`f}(D:`YG):`k1 P w K `YH `YI `qA z
  (λi h=>`ayJ/\`ahG) where
 mem:=`a!
 obj:=λi h st c hc=>by
  obtain⟨hz,hTI,⟨p,q,J⟩,⟨o1,e1,c1,d1⟩,⟨o2,e2,c2,d2⟩⟩:=st;simp only[`aI,`aS,`aT] at hc;rcases hc with rfl|rfl|rfl|rfl|rfl
  ·exact`YJ
  ·exact`YK
  ·exact`YL
  ·exact`Jw
  ·exact`YM
 keep:=λi h h' st k=>by
  obtain⟨hz,hTI,⟨p,q,J⟩,h1,h2⟩:=st;exact⟨`ahH,`YN,`YO,`YP,`YQ⟩
 item:=by
  intro X hP hw hK hc i pins s σ H E I hf st hg;subst hP hw hK;obtain⟨hz,hTI,⟨p,q,J⟩,h1,h2⟩:=st;obtain⟨xs,ys,x,y,O,M,hx,hy⟩:=hg;obtain⟨us,a0,p1,z1⟩:=`s7;obtain⟨ws,Z,p2,z2⟩:=`s8;obtain⟨u,hu,ru⟩:=`YR;obtain⟨w,hw,b2⟩:=`YS;refine `ayT D hz hTI J h1 h2 `e3 `gd (x:=u) (y:=w) `r? `x? λh' a1 a2 a3 a4 a5 a6 hk=>?_
  refine⟨_,rfl,wpAny_letOwnedTupleGo_zip (s:=`fr) a1 λb0 b1 hs=>?_⟩;have lt:`YT:=`YU
  have lz:=lt hz;have b5:=lt J;have b4:=lt hTI;obtain⟨o1,e1,_⟩:=id h1;obtain⟨o2,e2,_⟩:=id h2;have l1:=lt e1;have l2:=lt e2;obtain⟨I1,fr⟩:=`Jx (h':=b0) (t':=`aG) (fp:=`qA) hf ru b2 (λc hc=>by
   simp only[`aI,`aS,`aT] at hc;rcases hc with rfl|rfl|rfl|rfl|rfl<;>assumption) (`o' _ _ `YV a5) (λc o hc e=>by
   simp only[`aI,`aS,`aT,`iP] at hc;exact `o' _ _ `nN (`Jy))
  exact⟨`ce,_,I1,rfl,⟨_,x,y,rfl,`f6,rfl,`azN,λb3 a7=>`azO⟩,
   ⟨b1,`o' _ _ `C3 (`YW),⟨_,_,`o' _ _ `C6 a2⟩,`Jl `o' `CS,a4.extBut `o' `CU⟩,fr⟩
 done:=by
  intro X hP hw hK hc i pins s σ H E I hf st hg;subst hP hw hK;obtain⟨hz,hTI,⟨p,q,J⟩,h1,h2⟩:=st;obtain⟨xs,ys,O,M,a8⟩:=hg;obtain⟨us,a0,p1,z1⟩:=`s7;obtain⟨ws,Z,p2,z2⟩:=`s8;have l1:=`YX;have l2:=`CA;refine `ayX `gv D hz hTI J h1 h2 `e3 `gd (a8.imp (`s9) `s9) `azP
  simp only[`aI,`aS,`aT,`iP] at hc;exact `Jy
 self:=λ_ _ _ _ _ st h=>y4 st.1 h
noncomputable def Ite(K:`M)(a:`f):It :=
 ⟨`aop,
   λi H v H'=>∃t x,v=`aa t/\`YD/\H'=upd H t (`x [`e8,x])/\`PS,
   `aoq⟩
theorem bb0{P:`_}{w:`E}{x1}{e:`f}(hei:e≠it):`k1 P w K `YH (Ite K a) [e,it] e
  (λi h=>(∃old,`iV h e it i old)/\`aor) where
 mem:=`a!
 obj:=λi h st c hc=>by
  obtain⟨⟨old,he⟩,⟨o1,e1,c1,d1⟩⟩:=st;simp only[`aI,`aS,`aT] at hc;rcases hc with rfl|rfl
  ·exact`azQ
  ·exact`Jw
 keep:=λi h h' st k=>by
  obtain⟨⟨old,he⟩,h1⟩:=st;exact⟨`azR,h1.at λo x=>k it `Q o x⟩
 item:=by
  intro X hP hw hK hc i pins s σ H E I hf st hg;subst hP hw hK;obtain⟨⟨old,he⟩,h1⟩:=st;obtain⟨xs,x,hq,hx⟩:=hg;obtain⟨us,rv,p1,z1⟩:=`gw;obtain⟨u,hu,ru⟩:=`U9;refine wpAny_pyNext_enum_item he h1 `e3 (x:=u) `r? hei λh' a1 a2 a3 a4 hk=>?_
  refine⟨_,rfl,Dg0 (s:=`YY) a1 λJ b1 hs=>?_⟩;have le:=A7 he;obtain⟨o1,e1,_⟩:=id h1;have l1:=A7 e1;obtain⟨I1,fr⟩:=`Jx (h':=J) (t':=`kP) (fp:=[e,it]) (x:=`e8) (u:=`YZ) hf `aM ru (λc hc=>by
   simp only[`aI,`aS,`aT] at hc;rcases hc with rfl|rfl<;>assumption) ((`fq _ (C1 le)).trans a3) (λc o hc x=>by
   simp only[`aI,`aS,`aT,`iP] at hc;exact(`fq _ `nN).trans (hk c o `nN hc.2 x))
  exact⟨`ce,_,I1,rfl,⟨_,x,rfl,`f6,rfl,`aow⟩,⟨`azS,a2.at λo y=>(`fq it hei.symm).trans y⟩,fr⟩
 done:=by
  intro X hP hw hK hc i pins s σ H E I hf st hg;subst hP hw hK;obtain⟨⟨old,he⟩,h1⟩:=st;obtain⟨xs,hq,M⟩:=hg;obtain⟨us,rv,p1,z1⟩:=`gw;have l1:=`gX;refine wpAny_pyNext_enum_end `gv he h1 `e3 `hm λh' hk=>⟨rfl,`vG (t':=`aG) (fp:=[e,it]) hf λc o hc x=>?_⟩
  simp only[`aI,`aS,`aT,`iP] at hc;exact hk c o hc.2 x
 self:=λ_ _ _ _ _ st h=>by
  obtain⟨⟨old,he⟩,_⟩:=st;exact y9 he h
noncomputable def Qj0(K:`M)(ta:TA):TI:=fun σ H R=>ta σ H λvs H1=>∃a b,vs=`Y_/\`GQ/\`azT/\R `YI H1
theorem boot_zip:`azU:=`aP
theorem k70:`fo `hT=`a (`DG):=`aP
theorem R00{a:`G}{ta:TA}{p pos:Pos}(hg:`s')(hm:`s!)(ha:`GV)(hs:`sb:=by rfl)(hs2:`sc:=by rfl) :
  PI X `s? `Jz (Qj0 X.K ta):=by
 intro pins s σ H R I h;refine `sa (za0 I hg hm `Y0 (E9 (thn `nf λus s1 hq112=>?_) `Vc `Vd));obtain⟨vs,H1,I1,r1,q1⟩:=hq112;obtain⟨qa,qb,e,⟨xs,h1⟩,⟨ys,h2⟩,q⟩:=q1;subst e;cases r1 with
 | cons r rr =>
  cases rr with
  | cons r' rr =>
   cases rr;obtain rfl:=r;obtain rfl:=r';obtain⟨us1,v1,p1,z1⟩:=`JA;obtain⟨us2,v2,p2,z2⟩:=`Y1;have a1:`Y2:=`Y3
   have a2:`Y4:=`Y5
   refine `azV
   refine `azW;refine⟨_,_,_,_,H1,rfl,`Y6,Xm0 `Jr,⟨hz,hTI,`azX,hi1,hi2⟩,`fM,q⟩;simp only[`aI,`aS,`aT] at hb;rcases hb with rfl|rfl|rfl|rfl|rfl
   ·exact `Y7
   ·exact `Y8
   ·exact `Y9
   ·exact `oP
   ·exact `JB
noncomputable def Qy0(K:`M)(ta:TA):TI:=fun σ H R=>ta σ H λvs H1=>∃a,vs=`jf/\`GQ/\R (Ite K a) H1
theorem Uw0{a:`G}{ta:TA}{p pos:Pos}(hg:`JC)(hm:`JD)(ha:`aoI)(hs:`GT:=by rfl) :
  PI X `s? `azY (Qy0 X.K ta):=by
 intro pins s σ H R I h;refine `sa (za0 I hg hm k70 (E9 (thn `nf λus s1 hq113=>?_) hs rfl));obtain⟨vs,H1,I1,r1,q1⟩:=hq113;obtain⟨qa,e,⟨xs,h1⟩,q⟩:=q1;subst e;cases r1 with
 | cons r rr =>
  cases rr;obtain rfl:=r;obtain⟨us1,v1,p1,z1⟩:=`JA;refine call_enumerate_list `e3 λh' hz hi1 J hk=>?_
  refine y9 (s:=`PV) hz ?_;refine⟨_,_,_,_,H1,rfl,`Y6,bb0 (C1 (x0 _)),⟨`azk,hi1⟩,`fM,q⟩;simp only[`aI,`aS,`aT] at hb;rcases hb with rfl|rfl
  ·exact `JB
  ·exact `oP
universe L2
namespace DL
open Spec PyProof.Rows L2
section
variable{a:`G}
theorem t80{t:`f}{x y:V}{d e:D}(hn:¬B t)(ht:H t=`a `qy)(r1:`u2)(r2:Rp K H B e y):Rp K H B (`x [d,e]) `k9:=by
 rw[X6];refine⟨t,`vF,rfl,⟨hn,ht⟩,?_⟩;rw[n6];refine⟨_,_,rfl,r1,?_⟩;rw[n6];exact⟨_,_,rfl,r2,`ga⟩
theorem Ut0(hm:`s!)(ha:`Ig)(hg:`s' := by rfl)(hs:`sb:=by rfl)(hs2:`sc:=by rfl) :
  PID X `s? `Jz (sa0 gA):=.mk λB δ=>`mC (R00 hg hm `bP hs hs2) fun σ H R hq114=>by
 obtain⟨items,en,e1,k⟩:=hq114
 unfold sa0 at e1;cases e2:`cw with
 | none=>rw[e2] at e1;cases e1
 | some ds =>
  rw[e2] at e1;simp only[`w] at e1;unfold o80 at e1;split at e1<;>try cases e1
  rename_i ds es;refine`sD;rw[n6] at r;obtain⟨x,t,rfl,r1,r⟩:=r;rw[n6] at r;obtain⟨y,t,rfl,r2,r⟩:=r;rw[m7] at r;subst r;rw[Y4] at r1 r2;obtain⟨q1,us,rfl,s1,t1⟩:=r1;obtain⟨q2,ws,rfl,s2,t2⟩:=r2;have J:`azZ:=`az_
  refine`Y'
  ·rw[J] at hi
   have h1:i<`cz:=`h
   have h2:`JE:=`h
   exact`Y!
  ·obtain⟨t,x,y,rfl,ht,rfl,hx,hy⟩:=y
   rw[`Y,`c4] at hi;have h1:`sJ:=`h
   have h2:`zb:=`h
   obtain⟨x',e4,rx⟩:=`Y?;obtain⟨y',e5,ry⟩:=`Za;have ex:=`JF;have ey:=`Zb;rw[e4] at ex;rw[e5] at ey;cases ex;cases ey;refine`az0;exact `az1
  ·rw[J] at hi
   exact`Zc
theorem ga0(hm:`JD)(ha:`at6)(hg:`JC := by rfl)(hs:`GT:=by rfl) :
  PID X `s? `azY (qh0 gA):=.mk λB δ=>`mC (Uw0 hg hm `bP hs) fun σ H R hq115=>by
 obtain⟨items,en,e1,k⟩:=hq115
 unfold qh0 at e1;cases e2:`cw with
 | none=>rw[e2] at e1;cases e1
 | some ds =>
  rw[e2] at e1;simp only[`w] at e1;unfold aq0 at e1;split at e1<;>try cases e1
  rename_i ds;refine`sD;rw[n6] at r;obtain⟨x,t,rfl,r1,r⟩:=r;rw[m7] at r;subst r;rw[Y4] at r1;obtain⟨q1,us,rfl,s1,t1⟩:=r1;have J:(z20 ds).length=`cz:=by unfold z20;simp[`vJ]
  refine⟨q1,rfl,`ahr,`ahs⟩
  ·rw[J] at hi
   exact⟨us,us[i],`vK,by simp[hi]⟩
  ·obtain⟨t,x,rfl,ht,rfl,hx⟩:=y
   rw[J,`vJ] at hi;obtain⟨x',e4,rx⟩:=t1.get (i:=i) (B6 hi);have ex:=`JF;rw[e4] at ex;cases ex;refine⟨Z5 ht,`x [`e8,ds[i]],by unfold z20;simp[hi],`PZ⟩;exact t80 `ahx j6 `u7 `P_
  ·rw[J] at hi
   exact⟨us,`vK,hi⟩
universe zz
mutual
theorem eo0(hB:`az2):∀(d:D) (v:V),`y_->Rp K H B' d v->`dQ
 | `A,v,_,r=>by rw[U6] at r ⊢;exact r
 | `cq,v,_,r=>by rw[X8] at r ⊢;exact r
 | `dM,v,_,r=>by rw[j9] at r ⊢;exact r
 | `cx,v,_,r=>by rw[W4] at r ⊢;exact r
 | `iz,v,h,_=>by unfold tree at h;cases h
 | `iI,v,h,_=>by unfold tree at h;cases h
 | `iJ,v,h,_=>by unfold tree at h;cases h
 | `bO,v,h,r=>by
  unfold tree at h;rw[X6] at r ⊢;obtain⟨a,xs,rfl,q,rs⟩:=r;refine⟨a,xs,rfl,?_,jk0 hB ds xs h rs⟩;obtain⟨n,q⟩:=q;refine⟨`g',q⟩;exact(hB a z).elim n λz=>z _ q
theorem jk0(hB:`az2):∀(ds:`p) (vs:`C),`X5=`b->Rps K H B' ds vs->`H?
 | [],vs,_,r=>`az3
 | `aC,vs,h,r=>by
  unfold trees at h;rw[`dL] at h;rw[n6] at r ⊢;obtain⟨x,t,rfl,r1,r2⟩:=r;exact⟨x,t,rfl,eo0 hB d x h.1 r1,jk0 hB ds t h.2 r2⟩
end
theorem ec0{g:GE}(h:`bQ):PD X e (tv0 g):=.mk λB δ pins s σ H Q I hq116=>by
 obtain⟨d,en,hq,k⟩:=hq116
 obtain⟨B',c1,c2,J⟩:=`vn;unfold tv0 at hq;cases e1:`nE with
 | none=>rw[e1] at hq;cases hq
 | some x =>
  rw[e1] at hq
  by_cases hf:`lp x=`b
  ·simp only[`w,`IU] at hq
   cases hq;refine h B' `nD `j s σ H Q I ⟨_,J,e1,λv H' s' r=>k v H' s' (eo0 (`jy) _ _ hf r)⟩;rcases c2 a z with q|⟨i,d',h1,h2⟩
   ·exact `iB
   ·obtain⟨o,h3,a',e4,_,ro⟩:=`B3 en.all h1
    rw[h2] at h3;cases h3;cases e4;exact `i λys z=>(ro.live.same s').nt ys z
  ·simp only[`w,`XF] at hq
   cases hq
noncomputable def V50:`er:=λvs H Q=>∃a kvs,vs=`jf/\`sT/\∀l,`Bu->Q `nl (upd H l `uH)
theorem jn0:`dy X `vM V50:=by
 intro pins s σ H vs us Q I r h;obtain⟨a,kvs,rfl,ha,k⟩:=h;cases r with
 | cons r rr =>
  cases rr;obtain rfl:=r;obtain⟨hz,hS,ws,rv,m⟩:`kS/\`hH/\∃vs,`kT/\s.heap.DictOf `C7 a vs:=`bt a _ ha;have hl:`kR=`qB:=k0 rv;have hb:`yJ:=`Iu;refine kt_call_dict hS m (by rw[← hl];exact hz) λh' hd hs=>?_
  have hf:`yj:=`f6;refine⟨`ce,_,`ge (a:=`O) (o:=`Oh) (t':=`aG) (λb o q=>(`fq b (B1 (A7 q))).trans (`Bq)) `aV
   ⟨hz,`yK,ws,rv,hd⟩,rfl,k _ hf⟩
theorem dk0(hm:`az4)(hv:`Zd)(ha:`bQ)(hg:`az5 := by rfl)
  (he:`iK:=by rfl) (hpl:`gy:=by rfl) :
  PDF X `az6 (oA `sZ td0):=.mk λB δ=>(ub0 jn0 hg hm hv `I1 `l `l he hpl).imp fun σ H Q hq117=>by
 obtain⟨d,en,h,k⟩:=hq117
 unfold oA z9 v7 at h;cases e1:`aB with
 | none=>rw[e1] at h;cases h
 | some x =>
  rw[e1] at h;simp only[`w,`eH] at h;refine`I2;cases x<;>try (simp only[td0] at h;cases h;done)
  rename_i ks ds;cases ks with
  | inr ks=>simp only[td0] at h;cases h
  | inl ks =>
  simp only[td0] at h;cases h;rw[uz0] at r1;obtain⟨q,xs,rfl,nq,hq,hl,rr⟩:=r1;exact⟨q,_,rfl,hq,λl J=>k l _ `Ze `Zf ⟨xs,j6,hl,`Pp (`vo J)⟩⟩
universe DL
namespace DL
open Spec PyProof.Rows L2
section
variable{name:`Zg}{id:`cC}{r:`ks}{f:D->`K}
theorem ar0:PSD X st ni0:=.mk λH₀ B₀ δ pins s σ H D I hq118=>by obtain⟨r,en,hq,k⟩:=hq118;unfold ni0 at hq;cases hq
universe zz
@[simp] noncomputable def xa0(ga gb gc:GE)(f f':`bz):GE:=fun δ=>`asF λx=>`asG λy=>(f x y).bind λt=>(asB t).bind λk=>if k=`b then (gc δ).bind λz=>f' y z else `iF
@[simp] noncomputable def l60:`bz
 | `H0,`cV=>if `X6/\n<`gO/\`qC*`f'<=`R then `a (`N (Y20 x n)) else `c
 | _,_=>`c
section
variable{a:`G}{ga gc:`b6}
theorem Zs0{r r':R2}{f f':`bz}(hf:Op2 K r f)(hf':Op2 K r' f'){σ:St}{Q:VK}(h:tD K B δ `az7 σ H Q):Z70 r r' (tD K B δ ga) (tD K B δ gb) (tD K B δ gc) σ H Q:=by
 obtain⟨d,en,h,k⟩:=h;unfold xa0 at h;cases e1:`jj with
 | none=>rw[e1] at h;cases h
 | some x =>
  cases e2:`ld with
  | none=>rw[e1,e2] at h;cases h
  | some y =>
   rw[e1,e2] at h;simp only[`w] at h;cases e3:f x y with
   | none=>rw[e3] at h;cases h
   | some t =>
    rw[e3] at h;simp only[`w] at h;cases e4:asB t with
    | none=>rw[e4] at h;cases h
    | some kb =>
     rw[e4] at h;simp only[`w] at h;cases ir0 e4;refine`H9;refine hf H2 B v1 v2 x y _ _ `atG (`mA) r2 e3 λv H3 s3 r3=>?_
     rw[X8] at r3;refine⟨kb,r3,?_⟩;cases kb with
     | false =>
      rw[`mr] at h ⊢;cases h;exact k _ H3 (`X0) (`B4)
     | true =>
      rw[`aY] at h ⊢;cases e5:gc δ with
      | none=>rw[e5] at h;cases h
      | some z =>
       rw[e5] at h;simp only[`w] at h;refine⟨z,`X1,e5,λv4 H4 s4 r4=>?_⟩;exact hf' H4 B v2 v4 y z d _ ((`X1).same s4).bad ((r2.same s3).same s4) r4 h λv' H5 s5 r5=>k v' H5 (((`X0).trans s4).trans s5) r5
theorem h50{op op':`kn}{r r':R2}{f f':`bz}(ho:`si)(hf:`yC)(ho':`apb)(hf':Op2 X.K r' f')(ha:`dt)(hb:`ea)(hc:PD X c gc)
  (hm:`apc:=by with_unfolding_all rfl):PD X `apd `az7 :=
 .mk λB δ=>(Xo0 ho ho' `bP `hu (hc B δ) hm).imp fun σ H Q h=>Zs0 hf hf' h
open Builtin Builtin.Str Builtin.Int in
theorem d30{prog:`_}{w:`E}{A:`T}{E:`af}{s:`q}{x:Str}{n:Int}{t u:Tok}{Q:`af}(hr:(`I (n < `aqS)||`I (n ≥ 2 ^ 63))=`r)
  (hb:¬n<1->`az8->¬((`qC:Int) > (`Zh)/n)) (hl:¬n<1->`az8->tooLong (`qC*`f')=`r)
  (h:(if n<1 then Made.str Str.empty else if `ahy=`b then Made.val `F? else Made.str `Xe).post Q s) :
  `g `ao A (`i! .Mult (`e n u) `F?) Q E s :=
 PySem.lm_binaryOp_repeat_right (T := `yg) (U := `g_) `l (λs'=>k6 s' n u) `az9 PySem.F.fills_int_mul PySem.noFill_str_mul Dh0 PySem.lm_noRepeat_int PySem.repeat_str PySem.F.slot_int_index.lookup
  (`az' Dh0 (k6 s n u) PySem.F.entry_int_mul (PySem.F.args_int_mul_2 _ _) (PySem.AutoIntG3.int___mul___int_str_0 n u x t)
   ⟨rfl,c9 _ x t,`az' PySem.F.slot_str_mul `az9 PySem.F.entry_str_mul (PySem.F.args_str_mul_2 _ _) (gives_str_mul x n t u hr hb hl) h⟩)
noncomputable def Wv0:R2:=λx y H Q=>∃z n,y=`k'/\x=`H0/\`X6/\n<`gO/\`Zi<=`R/\Q (`N (`JG)) H
theorem Vd0:OpR X `ao_ Wv0:=by
 intro pins s σ H x y v u Q I rx ry h;obtain⟨z,n,rfl,rfl,h1,h2,hz,q⟩:=h;obtain⟨t,rfl⟩:=ry;obtain⟨t',rfl⟩:=rx;have fin:∀M k,EP X `j σ Q (`N (`JG) M) { s with toks:=k }:=λM k=>⟨`cx,H,I.tok k,⟨M,rfl⟩,q⟩
 have a1:`ape<`D!:=`ah
 have Z:¬n<1->¬((`eU:Int) > (`Zh)/n):=by
  intro hn;have a0:0<n:=`h
  have:(`eU:Int)*n<=`Zh:=by
   have e:n=(`f':Int):=`h
   rw[e];have:((`Zi:Nat):Int)<=`D!:=by exact_mod_cast (`h:`Zi<=`D!)
   rw[`az!] at this;omega
  exact Int.not_lt.mpr ((Int.le_ediv_iff_mul_le a0).mpr `u)
 refine d30 (by rw[`JH,`JH];rfl) (λhn _=>Z hn) (λ_ _=>?_) ?_
 ·show `I (`eU*`f' > sizeLine)=`r
  exact `Hm
 ·by_cases hn:n<1
  ·rw[`J hn]
   have e:`JG=Str.empty:=by
    unfold pn0;rw[show `f'=0 by omega];rfl
   refine⟨`ah,?_⟩;rw[← e];exact fin _ _
  ·rw[`V hn]
   by_cases h3:(n==1||`eU==0)=`b
   ·rw[`J h3]
    have e:`JG=z:=by
     rw[`az?] at h3;rcases h3 with h3|h3
     ·have:n=1:=k4 h3
      subst this;unfold pn0;show (⟨#[]++z.cps⟩:Str)=z;rw[Array.empty_append]
     ·have h3:`eU=0:=k4 h3
      have O:z.cps=#[]:=Array.eq_empty_of_size_eq_zero h3;have:∀k:Nat,(`et k (#[]:`Zj)).foldl `qi #[]=#[]:=by
       intro k
       induction k with
       | zero=>rfl
       | succ k ih=>rw[`JI,`ta];exact ih
      unfold pn0;rw[O,`u];cases z;simp at O;rw[O]
    have:=fin t `aG;rw[e] at this;exact `u
   ·rw[`V h3]
    have hl2:∀(k:Nat) (J:`Zj),((`et k z.cps).foldl `qi J).size=J.size+k*`aAa:=by
     intro k
     induction k with
     | zero=>intro J;simp
     | succ k ih=>intro J;rw[`JI,`ta,ih,`awF,Nat.succ_mul];omega
    refine⟨?_,fin _ _⟩;show ((`et `f' z.cps).foldl `qi #[]).size<=_;rw[hl2];have:`eU=`aAa:=rfl;rw[`u,`Zk] at hz
    simpa using hz
theorem Ye0:Op2 K Wv0 l60:=by
 intro H B x y dx dy d Q hb rx ry h k;cases dx<;>cases dy<;>simp only[l60] at h<;>try cases h
 split at h
 ·rename_i hz
  cases h;rw[W4] at ry;rw[j9] at rx;subst rx ry;exact⟨_,_,rfl,rfl,hz.1,hz.2.1,hz.2.2,k _ H `dg (by rw[W4];rfl)⟩
 ·cases h
theorem T40(ha:`dt)(hb:`ea):PD X `axw (o2 ga gb l60):=tx0 Vd0 Ye0 ha hb
universe zz
universe DL
namespace ZipL
open Spec PyProof.Rows
abbrev w50(h:`H)(z TI TO:`f)(v:`v)(f:`X):Prop :=
 `kN z=`a { cls:=`PK,dict:=`c,data:=`i7 #[v,`dZ f,`CQ,`PE,`P1],slots:=#[] }
section
variable{w:`E}{A:`T}{s:`q}
theorem dead{Q:`ayr}(ho:`i9=`c)(h:Q `c s):`ays:=by
 have h':Q (`i9) s:=`ayt
 exact `ayu
theorem uh0{TI TO:`f}{f:`X}{Q:`jH}(hz:`s_)(ha:`i9=`c)(hQ:`T0):`Yi:=by
 unfold Builtin.SmallTypes.ownedTupleIsFree;refine `ayv;show `ayw;rw[`aR];refine A0 (dead ha ?_);simp only[`aAb,`fO];exact `x2
theorem oa0{TI TO:`f}{v0:`v}{f:`X}{k1 k2:Nat}{xs ys:`aZ}{x y a b:`v}{Q:`af}(D:`eK)
  (hz:`aAc) (hfree:`aAd) (hTI:`iQ) (hTO:`tb)
  (h1:`iR) (h2:`iS) (hl1:`hA) (hl2:`hB) (hx:`y4) (hy:`y5)
  (hQ:∀h',IsZ h' z TI TO `O `r->`ev h' TO x y->`y6->`y7->`vy->`s0 ->
   `aAe) :
  `ayx:=by
 show `Jb;refine `Jc;show `Jd;refine `Je;refine `Jf;show `Jg;refine A0 (hfree _ ?_);simp only[`fO];refine `y?;refine `aAf;refine A0 (G0 hz `Q λg1 M e1=>?_)
 replace M:`aAg:=M
 refine `ca;simp only[`JJ,`Zl,`mt,`s1];refine `JK;show `Ji;refine `aAh;have a0:`aAi:=`aAj;refine `aAk;refine A0 (Bc0 a0 λg3 O e3=>?_)
 replace O:`ev g3 TO x b:=O
 refine `aAl;refine `JK;show `Jj;refine A0 (i4 `aAm `aAn hy λg4 a2 e4=>`bE);have Z:`ev g4 TO x b:=`JL _ _ D.TOi2 O;refine A0 (K0 Z rfl ?_);refine A0 (Bc0 Z λg5 J e5=>?_)
 replace J:`ev g5 TO x y:=J
 refine A0 (d6 `P');refine A0 (K0 J rfl ?_);refine `ayB;have sz:`nP=`O:=by rw[e5.1,e4.1,e3.1,e2.1,e1.1]
 have z5:w50 g5 z TI TO `vN f:=`tc _ _ `Zm (`JL _ _ `Yl (`jI _ _ `Zm (`nO _ _ `Jk M)));have keep:∀c o,`qu->`PH->`CO->`CP->`qt->`aAo:=λc o c1 c2 c3 c4 e=>`tc _ _ c2 (`JL _ _ c4 (`jI _ _ c2 (`nO _ _ c3 (`lt _ _ c1 e))))
 have j1:`aAp i1 l1 (k1+1):=((a1.extBut `jI `aAq).extBut `JL D.i12).extBut `tc `aAq;have j2:`aAp i2 l2 (k2+1):=a2.extBut `tc `ahC;have lz:z<`nP:=A7 z5;show `g _ _ (`aAr `e1 `aAs>>=_) _ _ _;refine `ca;unfold Builtin.SmallTypes.ownedTupleHandOut;have z6:w50 (g5.push `ayD) z TI TO `vN f:=B0 _ z5;refine A0 (G0 z6 `Q λg7 z7 e7=>?_)
 replace z7:w50 g7 z TI TO (`gc `nP) f:=z7
 refine G0 z7 `Q λg8 z8 e8=>?_
 replace z8:IsZ g8 z TI TO `nP `r:=z8
 have up:∀c o,`qu->`aAo->g8.get? c=`aj:=λc o c1 e=>e8.extBut _ _ c1 (e7.extBut _ _ c1 `HD)
 have t8:`ev g8 `nP x y:=e8.extBut _ _ `YV (e7.extBut _ _ `YV (`cW));have s8:g8.objs.size=`nP+1:=by rw[e8.1,e7.1,`mH]
 rw[sz] at z8 t8 s8;refine `Yn;show Q `aAs _;rw[sz];exact hQ g8 z8 (up _ _ `C6 J) (j1.at λo e=>up _ o `CS e) (j2.at λo e=>up _ o `CU e) t8 s8 λc o c1 c2 c3 c4 e=>up c o c1 (keep c o c1 c2 c3 c4 e)
theorem lq0{TI TO:`f}{v0:`v}{f:`X}{k1 k2:Nat}{xs ys:`aZ}{a b:`v}{Q:`F7}(hh:`dN)(D:`eK)
  (hz:`aAc) (hfree:`aAd) (hTI:`iQ) (hTO:`tb)
  (h1:`iR) (h2:`iS) (hl1:`hA) (hl2:`hB) (hend:`y9)
  (hE:`aAt) :
  `ayE:=by
 show `Jb;refine `Jc;show `Jd;refine `Je;refine `Jf;show `Jg;refine A0 (hfree _ ?_);simp only[`fO];refine `y?;refine `aAf;refine A0 (G0 hz `Q λg1 O e1=>?_)
 replace O:`aAg:=O
 refine `ca;simp only[`JJ,`Zl,`mt,`s1];refine `JK;show `Ji;cases hx:`CM with
 | none =>
  refine A0 (x6 hh `ahA `ahB hx λg2 e e2 he=>?_);obtain⟨oe,J,M⟩:=he;have z2:w50 g2 z TI TO `vN f:=e2 _ _ `Jk O;have Z:e≠z:=λx=>by subst x;rw[z2] at J;cases J;simp at M
  exact G0 z2 `Q λg3 _ e3=>hE g3 e (λc o c1 _ c3 _ x=>`jI _ _ c1 (e2 _ _ c3 (`lt _ _ c1 x))) ⟨oe,`jI _ _ Z J,M⟩
 | some x =>
  have hy:`PG:=`ayF
  refine `aAh;have a0:`aAi:=`aAj;refine `aAk;refine A0 (Bc0 a0 λg3 a2 e3=>?_);refine `aAl;refine `JK;show `Jj;refine A0 (x6 hh `aAm `aAn hy λg4 e e4 he=>?_);obtain⟨oe,J,M⟩:=he;have z4:w50 g4 z TI TO `vN f:=e4 _ _ `Yl (`jI _ _ `Zm (`nO _ _ `Jk O));have Z:e≠z:=λx=>by subst x;rw[z4] at J;cases J;simp at M
  exact G0 z4 `Q λg5 _ e5=>hE g5 e (λc o c1 c2 c3 c4 x=>`tc _ _ c1 (e4 _ _ c4 (`jI _ _ c2 (`nO _ _ c3 (`lt _ _ c1 x))))) ⟨oe,`tc _ _ Z J,M⟩
theorem ue0{TI TO:`f}{f:`X}{Q:`jH}(hz:w50 `W z TI TO `aF f)(hQ:`T0):`Yi:=by
 unfold Builtin.SmallTypes.ownedTupleIsFree;exact A0 (C6 hz rfl (x:=`aF) rfl (`x2))
theorem nm0{TI TO:`f}{f:`X}(hz:`Zn)(h:Q `e1 s):`g `ao A (`x1 `e1) Q E s:=by
 have hT:`kB := `mI;refine `aAu hT `aAv (C8 `aAv hT F.entry_zip_iter ?_ (F.args_zip_iter_1 _));exact A1 ⟨_,rfl, `eS,_,hT,D6.lookup,h⟩
noncomputable def tt0(h:`H)(z TI TO:`f):Prop:=∃v f,w50 h z TI TO v f/\(v=`aF∨∃a:`f,v=`gc a)
theorem ev0{TI TO:`f}{k1 k2:Nat}{xs ys:`aZ}{x y a b:`v}{Q:`hh}(D:`eK)
  (hz:`JM) (hTI:`iQ) (hTO:`tb)
  (h1:`iR) (h2:`iS) (hl1:`hA) (hl2:`hB) (hx:`y4) (hy:`y5)
  (hQ:∀h',`aAw->`Zo->`y6->`y7->`ayS) :
  `nQ:=by
 obtain⟨v,f,hz,hv⟩:=hz;have hT:`kB := `mI;have again:`aAx:=λhf=>by
  unfold pyNext;exact A0 (L7 (D8 (name:=`g3) hT D6
   (C8 D6 hT P6
    (oa0 D hz `JN hTI hTO h1 h2 hl1 hl2 hx hy λh' a1 a2 a3 a4 a5 a6 a7=>A1 (hQ h' `aAy `aAz a3 a4 a5 a7)) `mJ)))
 rcases hv with rfl|⟨a0,rfl⟩
 ·exact `JO
 ·cases e:`JP with
  | none=>exact `JQ
  | some oa =>
   exact oq0 D hz e hTI h1 h2 hl1 hl2 hx hy λh' b1 b2 b3 b4 b5 b6=>hQ h' `aAA `aAB b2 b3 b4 `aAC
theorem mk0{TI TO:`f}{k1 k2:Nat}{xs ys:`aZ}{a b:`v}{Q:`hh}(hh:`dN)(D:`eK)
  (hz:`JM) (hTI:`iQ) (hTO:`tb)
  (h1:`iR) (h2:`iS) (hl1:`hA) (hl2:`hB) (hend:`y9)
  (hQ:`ayW):`nQ:=by
 obtain⟨v,f,hz,hv⟩:=hz;have hT:`kB := `mI;have again:`aAx:=λhf=>by
  unfold pyNext;refine A0 (L7 (D8 (name:=`g3) hT D6
   (C8 D6 hT P6 (lq0 hh D hz `JN hTI hTO h1 h2 hl1 hl2 `jE `ayG) `mJ)))
  obtain⟨o,ho,hc⟩:=he;refine `ayH;exact `ayI
 rcases hv with rfl|⟨a0,rfl⟩
 ·exact `JO
 ·cases e:`JP with
  | none=>exact `JQ
  | some oa=>exact t50 hh D hz e hTI h1 h2 hl1 hl2 `jE λh' hk=>hQ h' `aAD
universe zz
universe ZipL
namespace L2
open Spec PyProof.Rows
theorem bw0{P:`_}{w:`E}{TI TO b:`f}(D:`YG):`k1 P w K (`bD nx pos) `YI `qA z
  (λi h=>`aAE) where
 mem:=`a!
 obj:=λi h st c hc=>by
  obtain⟨⟨v,f,hz,_⟩,hTI,⟨p,q,J⟩,⟨o1,e1,c1,d1⟩,⟨o2,e2,c2,d2⟩⟩:=st;simp only[`aI,`aS,`aT] at hc;rcases hc with rfl|rfl|rfl|rfl|rfl
  ·exact`YJ
  ·exact`YK
  ·exact`YL
  ·exact`Jw
  ·exact`YM
 keep:=λi h h' st k=>by
  obtain⟨⟨v,f,hz,hv⟩,hTI,⟨p,q,J⟩,h1,h2⟩:=st;exact⟨`aAF,`YN,`YO,`YP,`YQ⟩
 item:=by
  intro X hP hw hK hc i pins s σ H E I hf st hg;subst hP hw hK;obtain⟨hz,hTI,⟨p,q,J⟩,h1,h2⟩:=st;obtain⟨xs,ys,x,y,O,M,hx,hy⟩:=hg;obtain⟨us,a0,p1,z1⟩:=`s7;obtain⟨ws,Z,p2,z2⟩:=`s8;obtain⟨u,hu,ru⟩:=`YR;obtain⟨w,hw,a8⟩:=`YS;refine ZipL.ev0 D hz hTI J h1 h2 `e3 `gd (x:=u) (y:=w) `r? `x? λh' a1 a2 a3 a4 a5 hk=>?_
  refine`PF;unfold letOwnedTupleGo;refine `bE;have lt:`YT:=`YU
  obtain⟨v0,f0,b0,_⟩:=id hz;have lz:=lt b0;have b3:=lt J;have b2:=lt hTI;obtain⟨o1,e1,_⟩:=id h1;obtain⟨o2,e2,_⟩:=id h2;have l1:=lt e1;have l2:=lt e2;obtain⟨I1,fr⟩:=`Jx (h':=h') (t':=`aG) (fp:=`qA) hf ru a8 (λc hc=>by
   simp only[`aI,`aS,`aT] at hc;rcases hc with rfl|rfl|rfl|rfl|rfl<;>assumption) a5 (λc o hc e=>by
   simp only[`aI,`aS,`aT,`iP] at hc;exact `Jy)
  exact⟨`ce,_,I1,rfl,⟨_,x,y,rfl,`f6,rfl,λys a6=>by rw[`pL a6 O];exact hx,λb1 a6=>by rw[`pL a6 M];exact hy⟩,
   ⟨a1,`YW,a2,a3,a4⟩,fr⟩
 done:=by
  intro X hP hw hK hc i pins s σ H E I hf st hg;subst hP hw hK;obtain⟨hz,hTI,⟨p,q,J⟩,h1,h2⟩:=st;obtain⟨xs,ys,O,M,a7⟩:=hg;obtain⟨us,a0,p1,z1⟩:=`s7;obtain⟨ws,Z,p2,z2⟩:=`s8;have l1:=`YX;have l2:=`CA;refine ZipL.mk0 `gv D hz hTI J h1 h2 `e3 `gd (a7.imp (`s9) `s9) `azP
  simp only[`aI,`aS,`aT,`iP] at hc;exact `Jy
 self:=λ_ _ _ _ _ st h=>by
  obtain⟨⟨v,f,hz,_⟩,_⟩:=st;exact ZipL.nm0 hz h
theorem Up0{a:`G}{ta:TA}{p pos:Pos}(hg:`s')(hm:`s!)(ha:`GV)(hs:`sb:=by rfl)(hs2:`sc:=by rfl) :
  PI X (`bD nx tpos) `Jz (Qj0 X.K ta):=by
 intro pins s σ H R I h;refine `sa (za0 I hg hm `Y0 (E9 (thn `nf λus s1 hq119=>?_) `Vc `Vd));obtain⟨vs,H1,I1,r1,q1⟩:=hq119;obtain⟨qa,qb,e,⟨xs,h1⟩,⟨ys,h2⟩,q⟩:=q1;subst e;cases r1 with
 | cons r rr =>
  cases rr with
  | cons r' rr =>
   cases rr;obtain rfl:=r;obtain rfl:=r';obtain⟨us1,v1,p1,z1⟩:=`JA;obtain⟨us2,v2,p2,z2⟩:=`Y1;have a1:`Y2:=`Y3
   have a2:`Y4:=`Y5
   refine `azV
   refine `azW;refine⟨_,_,_,_,H1,rfl,`Y6,bw0 `Jr,⟨⟨_,_,hz,`bL⟩,hTI,`azX,hi1,hi2⟩,`fM,q⟩;simp only[`aI,`aS,`aT] at hb;rcases hb with rfl|rfl|rfl|rfl|rfl
   ·exact `Y7
   ·exact `Y8
   ·exact `Y9
   ·exact `oP
   ·exact `JB
universe L2
namespace DL
open Spec PyProof.Rows L2
section
variable{a:`G}
theorem Xq0(hm:`s!)(ha:`Ig)(hg:`s' := by rfl)(hs:`sb:=by rfl)(hs2:`sc:=by rfl) :
  PID X (`bD nx tpos) `Jz (sa0 gA):=.mk λB δ=>`mC (Up0 hg hm `bP hs hs2) fun σ H R hq120=>by
 obtain⟨items,en,e1,k⟩:=hq120
 unfold sa0 at e1;cases e2:`cw with
 | none=>rw[e2] at e1;cases e1
 | some ds =>
  rw[e2] at e1;simp only[`w] at e1;unfold o80 at e1;split at e1<;>try cases e1
  rename_i ds es;refine`sD;rw[n6] at r;obtain⟨x,t,rfl,r1,r⟩:=r;rw[n6] at r;obtain⟨y,t,rfl,r2,r⟩:=r;rw[m7] at r;subst r;rw[Y4] at r1 r2;obtain⟨q1,us,rfl,s1,t1⟩:=r1;obtain⟨q2,ws,rfl,s2,t2⟩:=r2;have J:`azZ:=`az_
  refine`Y'
  ·rw[J] at hi
   have h1:i<`cz:=`h
   have h2:`JE:=`h
   exact`Y!
  ·obtain⟨t,x,y,rfl,ht,rfl,hx,hy⟩:=y
   rw[`Y,`c4] at hi;have h1:`sJ:=`h
   have h2:`zb:=`h
   obtain⟨x',e4,rx⟩:=`Y?;obtain⟨y',e5,ry⟩:=`Za;have ex:=`JF;have ey:=`Zb;rw[e4] at ex;rw[e5] at ey;cases ex;cases ey;refine`az0;exact `az1
  ·rw[J] at hi
   exact`Zc
universe zz
universe DL
namespace L2
open Spec PyProof.Rows
section
variable{A:`T}
theorem W10{s:`q}{d b:`f}{k:`cI}{v:V}{r:`v}{Q:`oL}(hu:`ss)(I:`B)(e:`JR)(eb:`lr)(l:`iO)(rv:`yS)
  (h:∀h' tk,`aAG->`Cf->`aAH) :
  `g `ak `bV (`Cg d `jw r) Q E s:=by
 obtain⟨z,hd,xs,rel,dd⟩:=`Xq;have hz:`d9:=`IM
 have hl:`yT:=`yU
 refine Dep.put (knd:=`aAI) `IK `yR dd (λh' J hs=>h _ _ ?_ hs) hz;obtain⟨q,es,ep,hq,h2,h3,h4,_,h5⟩:=J;refine `Xr;rw[`IN];exact ec
structure PKV where
 p:`f
 b:`f
 k:`cI
 v:V
noncomputable def PKV.ok(H:Hp)(x:PKV):Prop:=H x.p=`a (`x [`Zp,x.v])/\H x.b=`a (`x (x.k.map kV))
noncomputable def putAll(kvs:`mm)(ps:`Zq):`mm:=ps.foldl (λacc x=>`ju acc x.k x.v) kvs
theorem s80:plainId `aAJ=`b:=`aP
theorem jq0:entryFor table `aAJ=`a `aAK:=entryFor_of_fast (`D_)
theorem be0{l d:`f}(hh:`dN)(hu:`ss){R:`TF}{ps:`Zq}(n:Nat):∀(i:Nat) (s:`q) (H:Hp) (kvs:`mm),`P - i=n->i<=`P->`B->v50 X `j H it->it≠d->it≠l->`PD it l i ->
  SqL X.K H l `aAL->`Zr->`JR->`kR+(`P - i)<=`R ->
  (∀s',Inv X `j σ (`aAM) s'->`axU) ->
  `g `ak `bV (`aAK ⟨[`ll,`A?,`gc i,`aF],[]⟩) (λfin s'=>match fin with|`cy f=>`agO|`agP=>`agN/\`gU `ak A c' R s') `X9 s:=by
 induction n with
 | zero =>
  intro i s H kvs hn hi I hf J a0 O hl hp hd hz hR;obtain⟨its,rv,pl,_⟩:=`dx hl;have a3:=`gX;rw[`Y] at a3;unfold Builtin.«dict.update.loop»;refine A0 (`aox hh O `hq `hm λh' hk=>?_);have I1:`r8:=`vG (t':=`aG) (fp:=[it]) `aAN λb o hb e=>hk _ _ `aAO e
  have e:`qD i=[]:=by rw[List.drop_eq_nil_iff];omega
  rw[e] at hR;have:=hR _ (show Inv X `j σ (`aAP) `fr from by
   rw[show `aAP=H from by funext c;by_cases q:c=d<;>simp[upd,q,`jK,hd]];exact I1)
  exact A0 (A1 (A1 `u))
 | succ n ih =>
  intro i s H kvs hn hi I hf J a0 O hl hp hd hz hR;obtain⟨its,rv,pl,_⟩:=`dx hl;have M:`kC:=`h
  obtain⟨x,hx⟩:∃x,ps[i]?=`aQ:=⟨`zc,by simp[M]⟩;have b1:x∈ps:=C2 hx;obtain⟨a8,a5⟩:=hp x b1;obtain⟨u,a6,ru⟩:=`NV (show `aAL[i]?=`a `aAQ by rw[`cj,hx];rfl);cases (show u=`ej x.p from ru);unfold Builtin.«dict.update.loop»;refine A0 (C20 O `hq (by simpa using a6) λh' a2 hs=>?_);have I1:`r8:=`vG (t':=`aG) (fp:=[it]) `aAN λb o hb e=>`o' _ _ `aAO e
  obtain⟨b2,a4,ip,_⟩:=I1.tuple (SqT.of a8);cases a4 with
  | cons r1 rr =>
   cases rr with
   | cons r2 rr =>
    cases rr;cases r1;obtain⟨o,ho,hc,nn,a1⟩:=id ip;rename_i rv0;refine `vx;refine A0 (wpAny_tryCatch ?_);unfold Builtin.Dict.pairItems;refine A0 (N2 (show `Jq _ `aAQ `eg from `CY) ?_);rw[`sn];refine A0 (K0 ho a1 `f5);show `g _ _ (`m5 [`Zp,rv0] (`Cg d (`Zp) rv0)) _ _ _;refine C3 (W10 (A:=A) hu I1 hd a5 `d r2 λh2 tk I2 a7=>?_);have Z:∀(c:`f) (us:`C),H c=`aAR->upd H d `ahJ c=`aAR:=λc us ec=>by
     rw[b7 (s40 ec hd `du)];exact ec
    have b0:`jR=((i+1:Nat):Int):=by push_cast;rfl
    refine A1 ⟨W1 s80 _,?_⟩;rw[b0];refine P1 jq0 ?_;rw[`aAS];have b3:l≠d∨`fc:=`i `ku;refine ih `a4 _ `aAT `P2 `d `d I2 ⟨by rw[b7 J];exact hf.1,hf.2⟩ J a0 (a2.extBut a7.extBut J) ?_ (λy hy=>⟨Z _ _ (hp y hy).1,Z _ _ (hp y hy).2⟩) j6 (by have:=y90 kvs x.k x.v;omega) λs' I'=>hR s' ?_
    ·rcases hl with (hl|⟨o',hl⟩)|hl
     ·exact `m (`m (`aAU))
     ·exact `m (`i ⟨o',`aAU⟩)
     ·exact `i hl
    ·have e1:upd `aAT d (.dT (`jK `P2 (`qD `a4)))=`aAM:=by
      have e2:`qD i=x::`qD `a4:=by
       rw[`sE M];have:`zc=x:=by
        have:=hx;rw[`d2 M] at this;exact `C0
       rw[`u]
      rw[e2]
      funext c
      by_cases q:c=d<;>simp[upd,q,`jK]
     rw[← e1];exact I'
universe zz
theorem Zp0:`ni `vr "keys"=`k0:=by rw[`oF,`oG];kernel_rfl
theorem Zt0{prog:`_}{w:`E}{A:`T}{E:`af}{s:`q}{a:`f}{o:Obj}{xs:`aZ}{k:Nat}{Q:`hh}
  (hx:`UE) (hc:`anM) (hdat:`kO=`be xs k) (hd:`Gc) (hA:`dN)
  (h:∀h' tk,(∀b ob,`pH=`xQ->`pC=`xQ)->Q `c `hU) :
  `g `ao A (getAttr? `bJ "keys") Q E s:=by
 obtain⟨c,dct,O,sl⟩:=o;simp only at hc hdat hd;subst hc hdat hd;obtain⟨hp,g,d,tk,os⟩:=s;have hT:∀J,(⟨hp,g,d,J,os⟩:`q).TypeIs `bJ `cX := λ_=>⟨_,hx,rfl⟩
 have f1:=sub_AttributeError;have f3:=PySem.F.slot_list_getattribute.lookup;have f4:=PySem.F.slot_list_getattribute.bind `bJ;have f5:=am_list_getattr_none;unfold getAttr? getAttrBy? getAttrBy
 repeat (any_goals (first|assumption|exact hT _|((with_reducible show `g _ _ (`de (`TM "list.__getattribute__") _ _) _ _ _);refine t0 PySem.F.slot_list_getattribute (hT _) am_entry_list_getattribute (PySem.F.args_list_getattribute_2 _ _) (meets_getattribute_miss_list a xs k sl "keys" _ Zp0 `go) ⟨hx,hA,λh' J e M=>?_⟩)|wp_step))
 obtain⟨t',u',he⟩:=M.there;show `g _ _ (getattributeRaised _ _ _ _ _ _ _) _ _ _;unfold getattributeRaised
 repeat (any_goals (first|assumption|wp_step))
 exact h _ _ M.keeps
noncomputable def To0(K:`M):`er:=λvs H Q=>∃l ps,vs=[`p1]/\SqL K H l `aAV/\`Zr/\`aAW/\∀d,H d=`c->Q `yP (upd H d `aAX)
theorem dp0(hu:`jv+2<`cu)(hcalm:`b5:=by rfl):`dy X `vM (To0 X.K):=by
 intro pins s σ H vs us Q I r h;obtain⟨l,ps,rfl,hl,hp,hz,k⟩:=h;cases r with
 | cons r rr =>
  cases rr;obtain rfl:=r;have hb:`yJ:=`Iu;have hf:`yj:=`f6;refine B90 (Q₁:=λobj s₁=>obj=`ce/\`d_=`P3) PySem.F.kt_called_dict (PySem.F.kt_typeCall_dict_1 _) PySem.F.entry_dict_init (kt_code_dict_new _ `fv) ?_;rintro obj s₁ ⟨rfl,rfl⟩;have I1:`aAY:=`aAZ;have hT:`Jq `P3 `e2 `e0 := `Jt;have J:∀(c:`f) (o:HO),H c=`aj->upd H `O `vO c=`aj:=λc o e=>by rw[b7 (S6 e hf)];exact e
  have hl1:SqL X.K `nR l `aAV:=by
   rcases hl with (hl|⟨o',hl⟩)|hl
   ·exact `m (`m (J _ _ hl))
   ·exact `m (`i ⟨o',J _ _ hl⟩)
   ·exact `i hl
  obtain⟨its,rv,⟨ol,nl,Z,O,a4,a1⟩,_⟩:=`vI hl1;refine⟨hT,PySem.F.args_dict_init_2 _ _,?_⟩;unfold Builtin.«dict.__init__»;refine `ca;unfold Builtin.Dict.selfAndRest;refine A0 (k9 hT ?_);show `g _ _ (`ai (`O,[`ej l])) _ _ _;refine `bE;show `g _ _ (Builtin.Dict.updateFrom "dict.__init__" `O `nl [] `aF) _ _ _;unfold Builtin.Dict.updateFrom;refine A0 (N2 (show `Jq _ `nl `cX from ⟨ol,Z,O⟩) ?_);rw[`sn];refine A0 (Zt0 Z O a1 a4 (I.ok.hd hcalm) λh1 M k1=>?_);simp only[`aAb,`fO];have I2:Inv X `j σ `nR `aA_:=`uq (t':=M) k1;obtain⟨a7,b0,a0,_⟩:=I2.list hl1;refine A0 (D2 (A0 (At0 (s:=`aA_) a0.isList ?_)));refine A1 ⟨W1 s80 _,P1 jq0 ?_⟩;rw[`aAS];have I3:Inv X `j σ `nR { s with heap:=h1.push { cls:=`bs "list_iterator",data:=`i7 #[`p1,`e 0 0] },toks:=M }:=I2.kept (t':=M) `pN
  have a5:`O<`za:=A7 (k1 _ _ (`cW));have a3:`za≠l:=by
   obtain⟨b1,a8,a2,_⟩:=a0;exact C1 (A7 a2)
  have a6:upd H `O `vO `za=`c:=I2.hok.fresh `aV;refine be0 (X:=X) (pins:=`j) (σ:=σ) (A:=`Ir) (it:=`za) (l:=l) (d:=`O) (ps:=ps) (I.ok.hd hcalm) (show `jv+1+1<`cu by omega) `P 0 _ _ [] `d `yq I3 (I2.fpOk `aV a6) (C1 a5) a3 ?_ hl1 (λx hx=>⟨J _ _ (hp x hx).1,J _ _ (hp x hx).2⟩) j6 (by simpa using hz) λs' I'=>`Ql
  ·exact`x3
  ·refine⟨`ce,_,I',rfl,?_⟩
   have e:upd `nR `O (.dT (`jK [] (`qD 0)))=upd H `O `aAX:=by
    funext c
    by_cases q:c=`O<;>simp[upd,q]
   rw[e];exact k _ hf
universe L2
namespace DL
open Spec PyProof.Rows L2
noncomputable def Q9:`f9->`p->`p->`au!
 | ks,vs,[]=>`a (ks,vs)
 | ks,vs,`W?::r=>`aA0 λk=>Q9 (`JS) `Zs r
 | _,_,_=>`c
noncomputable def gs0:`K
 | `sy=>if `my then (`aA1).map λr=>`oo else `c
 | _=>`c
theorem f60{vs:`p}{d:D}{r:`Ce}(e:Q9 ks vs `HS=`di):∃a b k,d=`W?/\`C9=`eG/\Q9 (`JS) `Zs ds=`di:=by
 cases d with
 | tup l =>
  match l,e with
  | [],e=>simp[Q9] at e
  | [_],e=>simp[Q9] at e
  | `hV,e =>
   unfold Q9 at e;cases h:`C9 with
   | none=>rw[h] at e;cases e
   | some k=>rw[h] at e;exact⟨a,b,k,rfl,h,e⟩
  | _::`JT,e=>simp[Q9] at e
 | non=>simp[Q9] at e
 | bl _=>simp[Q9] at e
 | int _=>simp[Q9] at e
 | str _=>simp[Q9] at e
 | lst _=>simp[Q9] at e
 | dct _ _=>simp[Q9] at e
 | fn _ _=>simp[Q9] at e
theorem n70:∀{ds:`p} {xs:`C} {ks:`f9} {vs:`p} {ws:`C} {r:`Ce},`bg->Rps K H B vs ws->`eY=`qB->Q9 ks vs ds=`di ->
  ∃ps:`Zq,xs=`jJ (`ahI)/\`Zr/\∃ws',`jK `aA2 ps=r.1.zip ws'/\`W'=ws'.length/\Rps K H B r.2 ws'
 | [],xs,ks,vs,ws,r,h1,h2,hl,e=>by
  unfold Q9 at e;cases e;rw[m7] at h1;exact⟨[],h1,`JU,ws,rfl,hl,h2⟩
 | `aC,xs,ks,vs,ws,r,h1,h2,hl,e=>by
  rw[n6] at h1;obtain⟨x,t,rfl,hx,ht⟩:=h1;obtain⟨a,b,k,rfl,e1,e⟩:=f60 e;rw[X6] at hx;obtain⟨p,ys,rfl,hq,J⟩:=hx;rw[n6] at J;obtain⟨y1,t1,rfl,a1,J⟩:=J;rw[n6] at J;obtain⟨y2,t2,rfl,M,J⟩:=J;rw[m7] at J;subst J;obtain⟨kb,rfl,a3⟩:=q50 e1 a1;obtain⟨zs,a2,O,Z,a0⟩:=qp0 (q:=k) (v:=y2) hl;have rr:Rps K H B `Zs zs:=by
   unfold V4;cases hk:`O2 with
   | true=>rw[`aY,Z hk];exact vc0 M h2
   | false=>rw[`a7,a0 hk];exact `nK h2 M
  obtain⟨ps,q1,q2,ws',q3,q4,q5⟩:=n70 ht rr O e;refine⟨⟨p,kb,k,y2⟩::ps,by rw[q1];rfl,`dj,ws',?_,q4,q5⟩
  ·rcases `st with rfl|hx
   ·exact⟨hq.2,a3⟩
   ·exact q2 x hx
  ·show `jK (`ju `aA2 k y2) ps=_
   rw[a2];exact q3
theorem cx0(hu:`jv+2<`cu)(hcalm:`b5)(hm:`az4)(hv:`Zd)(ha:`bQ)(hg:`az5 := by rfl)
  (he:`iK:=by rfl) (hpl:`gy:=by rfl) :
  PDF X `az6 (oA `sZ gs0):=.mk λB δ=>(ub0 (dp0 hu hcalm) hg hm hv `I1 `l `l he hpl).imp fun σ H Q hq121=>by
 obtain⟨d,en,h,k⟩:=hq121
 unfold oA z9 v7 at h;cases e1:`aB with
 | none=>rw[e1] at h;cases h
 | some x =>
  rw[e1] at h;simp only[`w,`eH] at h;refine`I2;unfold gs0 at h;split at h
  ·rename_i ds he1
   injection he1 with he1
   subst he1;split at h
   ·rename_i hz
    cases e2:`aA1 with
    | none=>rw[e2] at h;cases h
    | some r =>
     rw[e2] at h;cases h;rw[Y4] at r1;obtain⟨q,xs,rfl,hq,rr⟩:=r1;obtain⟨ps,q1,q2,ws,q3,q4,q5⟩:=n70 rr (ks:=[]) (vs:=[]) (ws:=[]) (`ga) rfl e2;refine⟨q,ps,rfl,by rw[← q1];exact `hv,q2,by have:=`Cb;rw[q1,`Y] at this;omega,λl J=>?_⟩;have q3:`ahK=r.1.zip ws:=q3;rw[q3];exact k l _ `Ze `Zf ⟨ws,j6,q4,q5.mono (`vo J)⟩
   ·cases h
  ·cases h
universe DL
namespace L2
open Spec PyProof.Rows
section
variable{A:`T}
theorem bt0{s:`q}{d b:`f}{k:`cI}{v:V}{r:`v}{Q:`oL}(hu:`rS)(I:`B)(e:`JR)(eb:`lr)(l:`iO)(rv:`yS)
  (h:∀h' tk,`aAG->`aAH) :
  `g `ak A (`Cg d `jw r) Q E s:=by
 obtain⟨z,hd,xs,rel,dd⟩:=`Xq;have hz:`d9:=`IM
 have hl:`yT:=`yU
 refine Dep.put (knd:=`aAI) (show `rS from hu) `yR dd (λh' J hs=>h _ _ ?_) hz;obtain⟨q,es,ep,hq,h2,h3,h4,_,h5⟩:=J;refine `Xr;rw[`IN];exact ec
universe zz
universe L2
namespace DL
open Spec PyProof.Rows L2
noncomputable def q30(gk gv:GE):GE:=fun δ=>`Zt λa=>`aA0 λk=>(gv δ).map λb=>`aW (`i [k]) [b]
section
variable{σ:St}
theorem Z00{H2:Hp}{p:`f}{o0 o:HO}(hp:`dh)(sm:`eV (upd H p o0) H2)(hz:`WE:=by intro _ _ z;cases z):`eV H (upd H2 p o):=by
 refine⟨λc u e=>?_,λb ob xs e=>?_⟩
 ·have hc:c≠p:=S6 e hp
  rw[b7 hc];exact sm c u (by rw[b7 hc];exact e)
 ·by_cases z:b=p
  ·subst z
   rw[j6] at e;exact `atz
  ·rw[b7 z] at e
   have:=sm.nf b ob xs e
   rwa [b7 z] at this
theorem Env.fresh{p:`f}{o:HO}(e:`cs)(hp:`dh)(no:∀ob u,o≠`aeg:=by exact λ_ _ z=>nomatch z)(nt:∀xs,o≠`ek:=by exact λ_ z=>nomatch z):Env K `WF `u? σ δ:=by
 refine⟨`vm (λv s h=>?_) `lf,`jy,`nA⟩
 ·cases s with
  | un=>trivial
  | ex c n=>obtain⟨u,q,r⟩:=h;exact`aA3
  | sh d=>obtain⟨u,q,r⟩:=h;exact`aA3
  | ow d =>
   obtain⟨a,q,hb,r⟩:=h;exact⟨a,q,`w1,`f8 (λo ho=>by rw[b7 (S6 ho hp)];exact ho) `P4⟩
 ·rcases z with z|z
  ·have:=`jx a z
   by_cases q:a=p
   ·rw[q,j6];exact `aA4
   ·rw[b7 q];exact `u
  ·rw[z,j6];exact `aA4
universe zz
section
variable{ke ve:`G}{gk gv:`b6}
theorem cy0(hu:`jv<`cu)(hk:PD X ke gk)(hv:PD X ve gv):PDF X (.Dict `C' [ve] pos) (q30 gk gv):=.mk λB δ pins s σ H Q I hq122=>by
 obtain⟨d,en,h,k⟩:=hq122
 unfold q30 at h;cases e1:gk δ with
 | none=>rw[e1] at h;cases h
 | some a =>
  rw[e1] at h;simp only[`w] at h;cases e2:`C9 with
  | none=>rw[e2] at h;cases h
  | some key =>
   rw[e2] at h;simp only[`w] at h;cases e3:gv δ with
   | none=>rw[e3] at h;cases h
   | some b =>
    rw[e3] at h;cases h;have hb:`yJ:=`Iu;have hp:`yj:=`f6;have I1:`aAY:=`aAZ;have J:Env X.K `nR `zd σ δ:=en.fresh hp;have pp:=Xg0 (pos:=pos) (hk `zd δ) (hv `zd δ) (Va0 (X:=X) (pos:=pos));rw[arm_eval_Dict,zip_pairTrees `C' [ve] `F pos rfl rfl,dictDisplay_pairs (pairTrees `C' [ve] `F pos) (λz=>by have hn:=`ahM;rw[z] at hn;cases hn) `aA5];refine A0 (r0 (`ca));unfold subDict;refine A0 (wpAny_alloc ?_);refine `vx;rw[`J `aA5];refine A0 (thn (pp `j _ σ _ (λps H2=>∃v1 v2,ps=[(v1,v2)]/\Rp X.K H2 `zd a v1/\Rp X.K H2 `zd b v2/\`eV `nR H2) I1
     ⟨a,J,e1,λv1 H1 s1 r1=>⟨b,J.same s1,e3,λv2 H2 s2 r2=>⟨v1,v2,rfl,`mA,r2,`u8⟩⟩⟩) λvs s2 ⟨ps,H2,I2,rel,v1,v2,a0,r1,r2,sm⟩=>?_)
    subst a0;cases rel with
    | @cons _ q _ _ rh rt =>
     cases rt;obtain⟨q1,q2⟩:=q;obtain⟨kb,rfl,Z⟩:=q50 e2 r1;obtain⟨M,O⟩:=rh;cases (show q1=`ej kb from M);refine `h4;refine `ca;simp only[`mt,`s1];refine A0 (A0 (bt0 hu I2 (sm _ _ j6) Z `l O λh' tk I3=>`bE));refine A1 (A1 (A1 (A1 ⟨`ce,_,I3,rfl,?_⟩)));refine k `O _ hp (Z00 hp sm) ⟨[v2],j6,rfl,?_⟩
     ·have:=r2.mono (Gr.own (H:=H2) (B:=`ahL) (a:=`O) (o:=.dT (`ju [] key v2)) `yf)
      rw[n6];exact⟨v2,[],rfl,`u,`ga⟩
universe zz
noncomputable def dy0(i:Nat)(g:GE):GS:=fun δ=>match `cg with
 | `a (.sh (`e a))=>`dP λd=>match d with
  | `o4=>`a (.nx (`df i (.sh (`e (a+b)))))
  | _=>`c
 | _=>`c
theorem Vq0(i:Nat)(hN:`hl)(h:`bQ)(hi:`cp:=by rfl)(hx:`kk:=by first|exact `cO|exact `jn)
  (hf:`kl:=by first|exact `bL|exact `dz|assumption):PSD X (`an8 (`bD x pos') .Add e pos) (dy0 i g):=.mk λH₀ B₀ δ pins s σ H D I hq123=>by
 obtain⟨r,en,e1,k⟩:=hq123
 unfold dy0 at e1;obtain⟨B,b1,b2,env⟩:=`ct;split at e1
 ·rename_i a ha
  cases e2:`aB with
  | none=>rw[e2] at e1;cases e1
  | some d =>
   rw[e2] at e1;simp only[`w] at e1;cases d<;>simp only at e1<;>try cases e1
   rename_i b;obtain⟨v,hv,rv⟩:=env.get ha;rw[j9] at rv;subst rv;refine Qr0 hN hi hx `b' Sd0 hf `j s σ H D I ⟨_,hv,`o4,env,e2,λv2 H1 s1 r1=>?_⟩;rw[j9] at r1;subst r1;refine⟨a,b,rfl,rfl,?_⟩;exact k _ H1 (en.wr b1 b2 s1 j30 ((`Cu).set i `u7))
 ·cases e1
noncomputable def flats(ds:`p):`X:=ds.all flat
noncomputable def hf0(g:GE):GE:=fun δ=>`W6 λd=>match d with
 | `dB=>if `JV then `mz else `c
 | _=>`c
theorem T50{g:GE}(h:`nE=`mz)(hf:`JV):hf0 g δ=`mz:=by
 unfold hf0;rw[h,`w];simp only[];rw[`IU]
section
variable{g:GE}
theorem ln0:∀{ds:`p} {xs:`C},`JV->`atd
 | [],xs,_,r=>`az3
 | `aC,xs,h,r=>by
  rw[n6] at r ⊢;obtain⟨x,r',e1,r1,r2⟩:=r;unfold flats at h;rw[`aw0,`dL] at h;exact⟨x,r',e1,ft0 h.1 r1,ln0 (ds:=ds) h.2 r2⟩
theorem b30(h:`sF):PSD X `xZ (zt0 (xr0 g)):=.mk λH₀ B₀ δ pins s σ H D I ⟨r,en,hq,k⟩ =>
 O6 h `a_ `aL `nD `j s σ H D I `awC
theorem Xt0(h:`sF):PDF X e (hf0 g):=.mk λB δ pins s σ H Q I hq124=>by
 obtain⟨d,en,hq,k⟩:=hq124
 obtain⟨B',c1,c2,J⟩:=`vn;unfold hf0 at hq;cases e1:`nE with
 | none=>rw[e1] at hq;cases hq
 | some x =>
  rw[e1,`w] at hq;cases x with
  | lst ds =>
   simp only[] at hq
   by_cases hf:`JV
   ·rw[`IU] at hq
    cases hq;exact h B' `nD `j s σ H Q I ⟨_,J,e1,λp H' hp s' r=>k p H' hp s' (by
     obtain⟨xs,e5,r5⟩:=r;exact⟨xs,e5,ln0 hf r5⟩)⟩
   ·rw[`XF] at hq;cases hq
  | non=>cases hq
  | bl _=>cases hq
  | int _=>cases hq
  | str _=>cases hq
  | tup _=>cases hq
  | dct _ _=>cases hq
  | fn _ _=>cases hq
universe zz
universe DL
namespace DL
open Spec PyProof.Rows L2
noncomputable def s90(x y:D):`cN:=match y with
 | `A=>`a (.bl (match x with|`A=>`r|_=>`b))
 | _=>`c
theorem pe0:Op2 K `ao' s90:=by
 intro H B x y dx dy d Q hb rx ry h k;have hy:dy=`A:=by cases dy<;>first|rfl|cases h
 subst hy;cases h;rw[U6] at ry;refine`auJ;rw[X8];cases dx<;>simp only[U6,X8,j9,W4,X6,Y4,vm0,du0] at rx
 all_goals first
  | (subst rx;rfl)
  | (obtain⟨a,xs,rfl,_⟩:=rx;rfl)
universe DL
namespace L2
open Spec PyProof.Rows PySem.W
noncomputable def N50(td ty tx:TE):TE:=fun σ H Q=>td σ H λx H1=>∃a,`ff/\IsD H1 a/\ty σ H1 λy H2=>tx σ H2 λz H3=>∃kvs k,H3 a=`Oi/\y=kV k/\`iO /\
 (∀v,`jt=`a3->Q v H3)/\(`Zu->Q z (upd H3 a (.dK (`ju kvs k z))))
section
variable{f:`G}{td ty:TE}
theorem P30{σ:St}{s:`q}{kvs:`gf}{k:Key}{v:V}{r:`v}{A:`T}{E:`af}{Q:`af}(I:`B)(e:`sT)(ry:`avO)(rv:`yS)(l:`iO)
  (h1:∀x,`jt=`aQ->`aA6) (h2:`Zu->∀s',Inv X `j σ (`Xm) s'->Q r s') :
  `g `ak A (`de `aA7 [`cH,u,r]) Q E s:=by
 obtain⟨z,hd,vs,rel,dd⟩:=`av0;have hz:`IL:=`av1
 have hv:=`Pa;refine `Zv A00 `vk Dl0 `aA8 (kt_meets_setdefault `C7 a `IH hd r) ⟨vs,dd,hz,`aA9,`aA'⟩
 ·rw[hw] at hv
  cases e1:`jt with
  | none=>rw[e1] at hv;exact `JW
  | some x=>rw[e1] at hv;exact `aA!
 ·rw[hn] at hv
  have e1:`Zu:=by
   cases e1:`jt with
   | none=>rfl
   | some x=>rw[e1] at hv;exact `JW
  have hl:`yT:=`yU
  have he:`Xo:=`av3
  exact h2 e1 _ (`av4)
theorem Se0(ho:`IO)(he:PE X e ty)(hf:PE X f tx)(m:`aA?):PE X `aBa (N50 td ty tx):=by
 intro pins s σ H Q I h;refine `aBb m.base m.few m.line Do0 A00 Dp0 (thn `r9 λu s1 hq125=>?_);obtain⟨x,H1,I1,rx,a,ex,d,q1⟩:=hq125;subst ex;cases `aBc;obtain⟨t1,t2,_⟩:=Tx0 I1 d;refine⟨t1,t2,?_⟩;rw[m.trees];refine r9 rfl (B20 (M1 (thn `aBd λiv s2 hq126=>?_)));obtain⟨y,H2,I2,ry,q2⟩:=hq126;refine M1 (thn `aBe λfv s3 hq127=>?_);obtain⟨z,H3,I3,rz,kvs,k,ea,ey,l,q3,q4⟩:=hq127;refine U1 ?_;subst ey;exact P30 I3 ea ry rz l `aBf `aBg
universe zz
universe L2
namespace DL
open Spec PyProof.Rows L2
noncomputable def j40(i:Nat)(gk g:GE):GX:=fun δ=>`au8 λpr=>`Zt λdk=>`dP λd=>(yv0 dk).bind λq=>if `agY<`R then (if `y2=`b then (K1 pr.1 pr.2 q).map λr=>(r,δ) else `a (d,`Yf)) else `c
section
variable{a f:`G}{ga gb g:GE}{p0:Pos}
theorem Ss0(i:Nat)(h0:PD X e g0)(h:PD X f g)(hN:`cp:=by rfl)(hv:`fe:=by first|exact `cO|exact `hs|exact `ht)(hd:`bq:=by decide)(hcd:`fN:=by decide)
  (hbase:`aBh:=by rfl)
  (hfew:(`Xw
  &&`Xx)=`b:=by rfl)
  (hline:`kt:=by rfl) (htrees:`Xy:=by rfl) :
  PX X `aBi (j40 i g0 g):=.mk λH₀ B₀ δ pins s σ H Q I hq128=>by
 obtain⟨r,en,e1,k⟩:=hq128
 unfold j40 at e1;obtain⟨B,b1,b2,env⟩:=`ct;cases e2:`vf with
 | none=>rw[e2] at e1;cases e1
 | some pr =>
  cases e4:g0 δ with
  | none=>rw[e2,e4] at e1;cases e1
  | some dk =>
   cases e3:`aB with
   | none=>rw[e2,e4,e3] at e1;cases e1
   | some d =>
    cases e5:yv0 dk with
    | none=>rw[e2,e4,e3] at e1;simp only[`w] at e1;rw[e5] at e1;cases e1
    | some q =>
     rw[e2,e4,e3] at e1;simp only[`w] at e1;rw[e5] at e1;simp only[`w] at e1;split at e1
     ·rename_i hz
      have hi:=e30 e2;obtain⟨p,O,hb,xs,hx,hl,rx⟩:=`kA;have hl:`Yd:=hl;refine Se0 `jC (h0 B δ) `b' `aBj `j s σ H Q I ⟨_,O,p,rfl,`m ⟨_,`Pi⟩,dk,env,e4,`aBk⟩;have:=og0 e5 r1;subst this;have J:=`u8;refine⟨_,q,J _ _ hx,rfl,`Ye,λv a0=>?_,λhn=>?_⟩
      ·have hk:`y2=`b:=by
        rw[← `aBl,a0];rfl
       rw[`J hk] at e1;obtain⟨w,hw,e1⟩:=`li e1;cases e1;obtain⟨v',Z,rv⟩:=(xz0 rx).1 w hw;rw[a0] at Z;cases Z;exact k v H2 (`nH (en.grow J) b1 b2 (`u' J) (rv.same J))
      ·have hk:`y2=`r:=by
        rw[← `aBl,hn];rfl
       rw[hk,`a7] at e1;cases e1;obtain⟨ys,hy,a1,a3,a2⟩:=qp0 (q:=q) (v:=fv) hl;have rr:Rps X.K H2 B `CH ys:=by
        unfold V4;rw[hk,`a7,a2 hk];exact `aBm
       rw[hy];have M:Env X.K (upd H2 p `ayi) B σ (`Yf):=`aBn hi O ⟨ys,j6,a1,`Py⟩;exact k _ _ (`nH (`Cv J b1 b2 hi O M) b1 b2 M (r2.mono `h1))
     ·cases e1
universe zz
universe DL
namespace L2
open Spec PyProof.Rows PySem.W
theorem ci0:`dy X `yd `aBo:=by
 intro pins s σ H xs us Q I r h;obtain⟨p,kvs,rfl,hq,q⟩:=h;obtain⟨u,rfl,rx⟩:=`kr;cases rx;have hn:=v00;obtain⟨z,hd,vs,rel,dd⟩:=o70 `bt hq;have hl:=`Pb;exact call_len_dict hd dd `d `aBp
universe L2
namespace DL
open Spec PyProof.Rows L2
noncomputable def kw0:`K
 | [`aW (`nz) _]=>`aBq
 | _=>`c
theorem Vk0:FnR K `aBo kw0:=by
 intro H B xs ds d Q hb r h k;unfold kw0 at h;split at h
 ·cases h
  obtain⟨v,rfl,r1⟩:=`hw;rw[uz0] at r1;obtain⟨p,ys,rfl,_,hp,hl,rr⟩:=r1;refine⟨p,_,rfl,hp,`OY⟩;rw[j9,`c4,← hl,`vu]
 ·cases h
universe DL
namespace SoT
open PyProof.Rows
section
variable{P:`_}{w:`E}{A:`T}{s:`q}{b:`z}{κ:`fi}{cmp:`bY}
structure Go(b:`z)(κ:`fi)(st:`an):Prop where
 kd:`mK
 pm:`Zw
 pe:`nV=#[]
 fa:`Zx
structure Cp(P:`_)(w:`E)(A:`T)(E:`af)(s:`q)(b:`z)(κ:`fi)(cmp:`bY):Prop where
 ask:∀(st:`an) (i j:Nat) (x y:`bH) (Q:`td),`Zy->`Zz->`aBr->`aBs->`aBt
 nd:`ZA
 tr:∀x∈`bu,∀y∈`bu,∀z∈`bu,`ZB
 to:∀x∈`bu,∀y∈`bu,`aBu
theorem Go.sz{st:`an}(h:`Zy):(`gg).size=`a8:=`aBv
theorem Go.mem{st:`an}(h:`Zy){x:`bH}(e:`Zz):`fS/\i<`a8:=by
 obtain⟨hi,rfl⟩:=`JX e;exact⟨`ZC,by rw[← h.sz];exact hi⟩
noncomputable def Up(cmp:`bY)(xs:`z)(n:Nat):Prop:=∀i j x y,i<j->j<n->`i'->`uC=`bA->`gZ
variable(C:Cp P w A E s b κ cmp)
include C
universe zz
noncomputable def PairAt(h:`H)(v:`v)(q:`c5):Prop:=∃a o n t u,`eh/\`i4/\`mX/\`kO=`be #[`ZD,`e q.2 u] n
theorem PairAt.one{h:`H}{q r:`c5}(x:`vQ)(y:`lw h v r):q=r:=by
 obtain⟨a,o,n,t,u,e,e1,_,e2⟩:=x;obtain⟨a',o',n',t',u',f,f1,_,f2⟩:=y;rw[e] at f;cases f;rw[e1] at f1;cases f1;rw[e2] at f2;injection f2 with f2 _
 have f3:=D9 `NQ f2;simp only at f3;injection f3 with g1 g2
 injection g1 with g1 _
 injection g2 with g2 _
 injection g2 with g2 _
 exact L4 g1 g2
noncomputable def lt2(a b:`c5):`X:=`I `aBw
theorem tf0{a b:`c5}:`aBx↔`aBw:=by unfold lt2;exact `t?
open Classical in
noncomputable def pk(h:`H)(v:`v):`c5:=if e:∃q,`vQ then e.choose else (0,0)
theorem tp0{h:`H}{q:`c5}(x:`vQ):`De=q:=by
 unfold pk;have e:`aBy:=⟨q,x⟩;rw[dif_pos e];exact e.choose_spec.one x
section
variable{P:`_}{w:`E}{A:`T}{s:`q}
theorem co0(f:`X)(x y:`v):`aBz=(do
  let xs ← `I8 x;let ys ← `I8 y
  for (`l1,i) in (xs.toList.zip ys.toList).zipIdx do
   if !(← eqBool p q) then return ← oneLt' (f&&i==0) p q
  return `I (`nM<`qw)):=rfl
theorem ns0{f:`X}{a c:Int}{t u:Tok}{Q:`jH}(h:Q (`I (a<c)) s):`g `aA A (oneLt' f (`e a t) (`e c u)) Q E s:=by
 cases f with
 | true=>exact oneLt_int h
 | false =>
  rw[oneLt'_eq];rw[`a7];refine A0 (wpAny_richCompare_same (k6 s a t) (k6 s c u) slot_int_lt (call_int_lt ⟨`du,?_⟩));exact S2 h
theorem op0{f:`X}{x:`v}{q r:`c5}{Q:`jH}(hx:`lw `W x q)(hy:`lw `W y r)(h:Q (`JY) s):`g `aA A (`aBz) Q E s:=by
 obtain⟨a,o,n,t,u,rfl,e1,_,e2⟩:=hx;obtain⟨a',o',n',t',u',rfl,f1,_,f2⟩:=hy;rw[co0];refine A0 (A20 e1 e2 (A0 (A20 f1 f2 ?_)));simp only[`eJ,List.zip_nil_right,`JJ,`Zl,`mt,`s1];refine A0 `aBA
 by_cases e:q.1=r.1
 ·rw[show `aBB=`b by simpa using e]
  rw[`a7];refine A1 `aBA
  by_cases e':q.2=r.2
  ·rw[show `aBC=`b by simpa using e']
   rw[`a7];refine A1 `P';have:`JY=`r:=by unfold lt2;rw[e,e'];simp
   rw[`u] at h;exact h
  ·rw[show `aBC=`r by simpa using e']
   rw[`ZE];refine `aBD;have:`JY=`I (q.2<r.2):=by unfold lt2;rw[e];simp
   rw[`u] at h;exact h
 ·rw[show `aBB=`r by simpa using e]
  rw[`ZE];refine `aBD;have:`JY=`I (q.1<r.1):=by unfold lt2;simp[e]
  rw[`u] at h;exact h
universe zz
structure Prs(h:`H)(vs:`ab):Prop where
 all:∀v∈vs,`aBy
 nd:(`aBE).Nodup
noncomputable def up0(h:`H)(x y:`bH):`X:=lt2 (pk h x.1) (pk h y.1)
section
variable{P:`_}{w:`E}{A:`T}{s:`q}
theorem Ox0{b:`z}{f:`X}(hb:∀x∈`bu,`aBF)(st:`an)(i j:Nat)(x y:`bH)(Q:`td)(hg:Go b `Db st)(ei:`Zz)(ej:`aBr)(k:Q (`a (up0 `W x y)) st):`aBt:=by
 obtain⟨q,hq⟩:=hb x (hg.mem ei).1;obtain⟨r,hr⟩:=hb y (hg.mem ej).1;unfold up0 at k;rw[tp0 hq,tp0 hr] at k;rw[ltAt'_eq];refine `fT;show wpS _ _ _ _ (`d0 `lv i>>=λx=>`d0 `lv j>>=λy=>`ZF) Q st;rw[`cF,`cF,ei,ej];refine A3 (A2 (`gz));rw[lt'_eq];refine `fT;rw[hg.kd];exact `aBG
theorem cpP(hv:`JZ)(f:`X):Cp P w A E s (`Dc) `Db (up0 `W):=by
 have el:∀x∈`ZG,x.1∈vs/\x=(x.1,x.1):=λx hx=>by
  rw[`J_] at hx;obtain⟨i,hi,e⟩:=`J0;rw[`iW] at e;have e1:x.1=vs[i]'(by rw[`c4] at hi;omega):=by rw[← e]
  rw[e1];exact⟨C0 _,`rn⟩
 have hb:∀x∈`ZG,`aBF:=λx hx=>hv.all _ (`ZH).1
 have M:vs.Nodup:=by
  refine `aBH
  have:=`o! hv.nd i j `ne `yu J;rw[`gA,`gA,e] at this;exact `u rfl
 refine⟨Ox0 hb,?_,λx _ y _ z _ h1 h2=>?_,λx hx y hy O h=>?_⟩
 ·rw[`J_]
  refine `aBH
  rw[`iW,`iW] at e;have e1:=D9 `C_ e;simp only[`c4] at hi hj;exact `o! M i j `d `d J e1
 ·unfold up0 at *
  rw[tf0] at *;omega
 ·unfold up0 at *
  have Z:`vT≠`vS:=λe=>by
   apply O;obtain⟨mx,ex⟩:=`ZH;obtain⟨my,ey⟩:=el y hy;obtain⟨i,hi,e1⟩:=`jL mx;obtain⟨j,hj,e2⟩:=`jL my;have J:i=j:=by
    rcases Db0 i j with q|q|q
    ·have:=`o! hv.nd i j `ne `yu q
     rw[`gA,`gA,e1,e2] at this;exact `L e `u
    ·exact q
    ·have:=`o! hv.nd j i `yu `ne q
     rw[`gA,`gA,e1,e2] at this;exact `L `rn `u
   subst J;rw[ex,ey,← e1,← e2]
  rw[tf0];have h':¬(`J1<`J2∨(`J1=`J2/\(`vS).2<(`vT).2)):=λz=>by
   rw[tf0.mpr z] at h;cases h
  have:`J2≠`J1∨(`vT).2≠(`vS).2:=by
   by_cases q1:`J2=`J1
   ·exact `i λq2=>Z (L4 q1 q2)
   ·exact `m q1
  omega
theorem Q60{q:`c5}{Q:`hh}(hv:`ahQ)(h:∀t,Q (`a (`ZD)) s):`g `aA A (`aBI v) Q E s:=by
 obtain⟨a,o,n,t,u,rfl,e1,e2,e3⟩:=hv;show `g _ _ (typeOf `bJ>>=λT=>if (T != `fm)=`b then `k0 else do return (← `I8 `bJ)[0]?) _ _ _;refine A0 (N2 (T := `eg) ⟨o,e1,e2⟩ ?_);rw[`a7];exact A0 (A20 e1 e3 (A1 (h t)))
theorem firstsP:∀{vs:`ab} {Q:`Z (`kM)->`ef},(∀v∈vs,`ZI)->(∀(fs:`ab) (ns:`bk),IntsAre fs ns->fs.length=`bm->Q (`ZJ) s)->`g `aA A (vs.mapM `aBI) Q E s
 | [],Q,_,h=>by
  rw[List.mapM_nil];exact A1 (h [] [] `ae rfl)
 | `hz,Q,hv,h=>by
  rw[List.mapM_cons];obtain⟨q,hq⟩:=`J3;refine A0 (Q60 hq λt=>A0 (firstsP (`aBJ) `aBK));exact h (`ZD::fs) (q.1::ns) (`au q.1 t a) (by rw[`a0,`a0,c])
theorem P10{v₁ v₂:`v}{r:`ab}{Q:`fi->`ef}(hv:∀v∈`jM,`ZI)(h:Q (tuples' `b) s):`g `aA A (keyKind' `aBL) Q E s:=by
 rw[keyKind'_eq,`aBM];refine `ca;rw[map_eq_pure_bind];refine A0 (firstsP hv `aBK);have h1:((`ZJ).toArray.all λx=>x.isSome)=`b:=`a!
 rw[`oT];have h2:(`ZJ).toArray.filterMap id=fs.toArray:=`a!
 refine `y?;rw[h2,oneTypeOnly'_eq,`aBM,mapM_typeOf_ints a];simp only[map_pure,`HB];obtain⟨f0,fr,rfl⟩:∃f0 fr,fs=f0::fr:=by
  cases fs with
  | nil=>simp at c
  | cons f0 fr=>exact⟨f0,fr,rfl⟩
 have h3:(`aBN).toArray[0]?=`aBO:=`a!
 rw[h3];have h4:((`aBN).toArray.all λx=>x==`h2 `g_)=`b:=by
  simp only[List.all_toArray,`IY,`ix];exact `mB
 simp only[h4,`fO,`HB];exact `gQ
universe zz
section
variable{P:`_}{w:`E}{A:`T}{s:`q}
theorem PairAt.to{h:`H}{q:`c5}(x:`vQ)(k:`aBP):`lw h' v q:=by
 obtain⟨a,o,n,t,u,e,e1,e2,e3⟩:=x;exact⟨a,o,n,t,u,e,k a o e1 e2,e2,e3⟩
theorem Prs.to{h:`H}(x:Prs h vs)(k:`aBP):Prs h' vs/\∀v∈vs,`aBQ:=by
 have e:∀v∈vs,`aBQ:=λv hv=>by
  obtain⟨q,hq⟩:=`aBR;rw[tp0 hq,tp0 (`hv k)]
 refine⟨⟨`mL,?_⟩,e⟩
 ·obtain⟨q,hq⟩:=`aBR
  exact⟨q,`hv k⟩
 ·rw[`aBS e]
  exact x.nd
universe zz
universe SoT
namespace SoT
noncomputable def le2(a b:`c5):`X:=!lt2 b a
noncomputable def srt(ps:`eb):`eb:=ps.mergeSort le2
theorem vg0{a b:`c5}:`vU↔¬(b.1<a.1∨(b.1=a.1/\b.2<a.2)):=by
 unfold le2 lt2;rw[Bool.not_eq_true',decide_eq_false_iff_not]
theorem Qe0(a b c:`c5)(h1:`vU)(h2:le2 b c=`b):le2 a c=`b:=by rw[vg0] at *;omega
theorem Ru0(a b:`c5):(le2 a b||le2 b a)=`b:=by rw[`az?,vg0,vg0];omega
theorem Sm0{a b:`c5}(h1:`vU)(h2:le2 b a=`b):a=b:=by
 rw[vg0] at *;exact `ze
theorem fm0:∀{l m:`eb},l.Perm m->`Qf `ZK->m.Pairwise `ZK->l=m
 | [],m,h,_,_=>by rw[List.nil_perm.mp h]
 | a::l,[],h,_,_=>by exact `L (List.perm_nil.mp h) `Q
 | a::l,b::m,h,h1,h2=>by
  have self:∀x:`c5,le2 x x=`b:=λx=>by rw[vg0];omega
  have J:`vU:=by
   rcases `bU (h.mem_iff.mpr (A5 (a:=b) (l:=m))) with e|e
   ·rw[e];exact self a
   ·exact l4 h1 e
  have M:le2 b a=`b:=by
   rcases `bU (h.mem_iff.mp (A5 (a:=a) (l:=l))) with e|e
   ·rw[e];exact self b
   ·exact l4 h2 e
  have e:=Sm0 J M;subst e;rw[fm0 (List.Perm.cons_inv h) (A30.mp h1).2 (A30.mp h2).2]
theorem o20(ps:`eb):(`qS).Perm ps:=List.mergeSort_perm ps le2
theorem Sp0(ps:`eb):(`qS).Pairwise `ZK:=List.pairwise_mergeSort Qe0 Ru0 ps
theorem Ty0{l ps:`eb}(hp:l.Perm ps)(h:`Qf (λa b=>`aBx)):l=`qS :=
 fm0 (hp.trans (o20 ps).symm) (`Fa λ{a b} z=>by rw[tf0] at z;rw[vg0];omega) (Sp0 ps)
universe SoT
namespace L2
open Spec PyProof.Rows SoT
noncomputable def PrV(H:Hp):`C->`eb->Prop
 | [],[]=>`fc
 | `hz,`vi=>(∃a,`eh/\H a=`a (`ZL))/\PrV H vs qs
 | _,_=>`bM
section
variable{s:`q}
theorem fp0(I:`B){q:`c5}(h:H a=`a (`ZL)):`lw `W `bJ q:=by
 obtain⟨its,rv,⟨o,e1,e2,n,e3⟩,_⟩:=`eR (X:=X) (xs:=`ahR) (`UQ);cases rv with
 | cons r1 rv =>
  cases rv with
  | cons r2 rv =>
   cases rv;obtain⟨t,rfl⟩:=r1;obtain⟨u,rfl⟩:=r2;exact⟨a,o,n,t,u,rfl,e1,e2,e3⟩
theorem bo0(I:`B):∀{ys:`C} {its:`ab} {ps:`eb},`VQ->`aBT->its.map `DD=ps/\(∀v∈its,`ZI)/\∀v∈its,∃a,`eh/\`aBU/\H a=`a (`x [`e (`aBV).1,`e (`aBV).2])
 | [],_,[],`ae,_=>⟨rfl,`aBW,`aBW⟩
 | [],_,`bh,`ae,h=>`cE
 | `yH,_,[],`au _ _,h=>`cE
 | `yH,_,q::ps,`au r rv,h=>by
  obtain⟨⟨a,rfl,ha⟩,h2⟩:=h;cases (show _=`i6 from r);obtain⟨i1,i2,i3⟩:=bo0 I rv h2;have e:=tp0 (fp0 I ha);refine⟨by rw[`al,i1,e],`mL,`mL⟩
  ·rcases `bU hv with rfl|hv
   ·exact⟨q,fp0 I ha⟩
   ·exact i2 v hv
  ·rcases `bU hv with rfl|hv
   ·exact⟨a,rfl,A5,by rw[e];exact ha⟩
   ·obtain⟨b,e1,e2,e3⟩:=i3 v hv
    exact⟨b,e1,A6 _ e2,e3⟩
theorem jf0{h:`H}{ys:`C}:∀{vs:`ab},(∀v∈vs,∃a,`eh/\`aBU/\H a=`a (`x [`e (`De).1,`e (`De).2]))->∃zs,`bK zs vs/\PrV H zs (`aBE)/\∀z∈zs,z∈ys
 | [],_=>⟨[],`ae,`ku,λz hz=>by cases hz⟩
 | `hz,hv=>by
  obtain⟨a,rfl,m,e⟩:=`J3;obtain⟨zs,z1,z2,z3⟩:=jf0 (vs:=vs) `aBJ
  exact⟨`cH::zs,`au rfl z1,⟨⟨a,rfl,e⟩,z2⟩,λz hz=>by
   rcases `ZM with rfl|hz
   ·exact m
   ·exact z3 z hz⟩
universe zz
universe L2
namespace DL
open Spec PyProof.Rows L2 SoT
noncomputable def pD(q:`c5):D:=`ZL
theorem bk0:∀{zs:`C} {qs:`eb},`aBX->(∀z∈zs,∃a,z=`cH/\`nx)->Rps K H B (`w3 pD) zs
 | [],[],_,_=>by rw[`fy,m7]
 | [],`bh,h,_=>`cE
 | `bh,[],h,_=>`cE
 | z::zs,`vi,h,hb=>by
  obtain⟨⟨a,rfl,ha⟩,h2⟩:=h;rw[`al,n6];refine⟨_,_,rfl,?_,bk0 h2 λy hy=>hb y `Ek⟩;obtain⟨b,e,nb⟩:=hb _ A5;cases e;unfold pD;rw[X6];refine⟨a,_,rfl,⟨nb,ha⟩,?_⟩;rw[n6];refine⟨_,_,rfl,`qe,?_⟩;rw[n6];exact⟨_,_,rfl,`qe,`ga⟩
universe DL
namespace SoT
open PyProof.Rows
noncomputable def J7:`X->`bH->`z->Nat->Nat->Nat->`qG `an Sem (`vX):=sortPriv% PySem.Builtin.gallop
noncomputable def py0:`aBY:=sortPriv% PySem.Builtin.mergeLo
noncomputable def ps0:`aBY:=sortPriv% PySem.Builtin.mergeHi
theorem dl0(left:`X)(key:`bH)(arr:`z)(base n hint:Nat):`ahU=(do
 let beyond (i:Nat):`Qa:=do
  let x ← `aBZ
  if left then lt' x key else return `aB_
 let mut lastofs:=0
 let mut ofs:=1
 let mut lo:=0
 let mut hi:=0
 let `a right ← `J4 `bv|return `c
 if right then
  let maxofs:=`ZN
  for _ in [0:n] do
   if ofs ≥ maxofs then break
   let `ZO ← `J4 (`bv+ofs)|return `c
   if !more then break
   lastofs:=ofs
   ofs:=2*ofs+1
  lo:=`bv+lastofs+1
  hi:=`bv+`aB0
 else
  let maxofs:=`zf
  for _ in [0:n] do
   if ofs ≥ maxofs then break
   let `a found ← `J4 (`bv - ofs)|return `c
   if found then break
   lastofs:=ofs
   ofs:=2*ofs+1
  lo:=`zf - `aB0
  hi:=`bv - lastofs
 for _ in [0:n] do
  if lo ≥ hi then break
  let m:=`aB1
  let `ZO ← `J4 m|return `c
  if more then lo:=m+1 else hi:=m
 return `a hi):=rfl
section
variable{P:`_}{w:`E}{A:`T}{s:`q}{b:`z}{κ:`fi}{cmp:`bY}
structure Gn(b:`z)(κ:`fi)(st:`an):Prop where
 kd:`mK
 pm:`Zw
 fa:`Zx
structure Cn(P:`_)(w:`E)(A:`T)(E:`af)(s:`q)(b:`z)(κ:`fi)(cmp:`bY):Prop where
 ask:∀(st:`an) (x y:`bH) (Q:`td),`mK->`fS->y∈`bu->`aBs->wpS `aA A E s (`ZF) Q st
 nd:`ZA
 tr:∀x∈`bu,∀y∈`bu,∀z∈`bu,`ZB
 to:∀x∈`bu,∀y∈`bu,`aBu
 as:∀x∈`bu,∀y∈`bu,`gZ->`Da=`r
noncomputable def bey(left:`X)(key:`bH)(arr:`z)(base i:Nat):`Qa:=do
 let x ← `aBZ
 if left then lt' x key else return `aB_
theorem Qg0(C:`o?){st:`an}(hk:`mK)(left:`X){key x:`bH}{arr:`z}{base:Nat}(h:`aB2=`aQ)(mx:`fS)(mk:`aB3)(hn:x≠key){Q:`td}(k:Q (`a (`J5)) st):wpS `aA A E s (bey left key arr `n i) Q st:=by
 unfold bey;rw[`cF,h];refine `gz;cases left with
 | true=>exact `Dt _ _ _ _ hk mx mk k
 | false =>
  refine A3 (`Dt _ _ _ _ hk mk mx `P!);show Q (`a (!`J6)) st;have:(!`J6)=`J5:=by
   cases e:`J6 with
   | true=>rw[C.as _ mk _ mx e];rfl
   | false=>rw[`qN _ mx _ mk hn e];rfl
  rw[`u];exact k
structure Sr(P:`_)(w:`E)(A:`T)(E:`af)(s:`q)(B:`aB4)(pos:`yL)(n:Nat)(st:`an):Prop where
 ask:∀i,i<n->∀Q:`td,Q (`a (`vV)) st->wpS `aA A E s (B i) Q st
 mono:∀i j,i<=j->j<n->pos j=`b->`Df
theorem bin{B:`aB4}{pos:`yL}{st:`an}(S:Sr P w A E s B pos n st){lo hi:Nat}(h1:lo<=hi)(h2:hi<=n)(h3:`aB5)(h4:`aB6) :
  wpS `aA A E s (`rW [:n] (`aB7:`aK (`vX)×`ac) λx __s =>
    if __s.snd.fst ≥ __s.snd.snd then `ai (`aB8 (`c,`vW,`Dg))
    else do
     let __x ← B (`ZP)
     match __x with
     | `ZO=>if more=`b then `ai (`np (`c,`ZP+1,`Dg)) else `ai (`np (`c,`vW,`ZP))
     | x=>`ai (`aB8 (`d?,`vW,`Dg))) (`aB9) st:=by
 refine(D5 (I:=λx c t=>t=st/\∃lo hi,c=`aB7/\lo<=hi/\hi<=n/\`NX<=n - x/\(`aB5)/\`aB6)
  (Q:=`aB9) `pa `fU ⟨rfl,lo,hi,rfl,h1,h2,`h,h3,h4⟩)
 ·obtain⟨e1,lo,hi,e2,a1,a2,a3,a4,a5⟩:=hI
  subst e1;subst e2;dsimp only
  by_cases hge:lo ≥ hi
  ·rw[`zg]
   have:lo=hi:=`h
   subst this;exact A2 `aB'
  ·rw[`zh]
   refine A3 (S.ask _ `d _ ?_);dsimp only;cases hp:pos (`aB1) with
   | true =>
    rw[`aY];exact A2 ⟨rfl,_,_,rfl,`h,a2,`h,λi J=>`zi i _ `d `d hp,a5⟩
   | false =>
    rw[`a7];refine A2 ⟨rfl,_,_,rfl,`h,`h,`h,a4,λi J hn=>?_⟩;cases hq:`vV with
    | false=>rfl
    | true=>rw[`zi _ i J hn hq] at hp;cases hp
 ·obtain⟨e1,lo,hi,e2,a1,a2,a3,a4,a5⟩:=hI
  subst e1;subst e2;have:lo=hi:=`h
  subst this;exact`aB'
theorem gal{left:`X}{key:`bH}{arr:`z}{base hint:Nat}{pos:`yL}{st:`an}(S:Sr P w A E s (bey left key arr `n) pos n st)(hh:`bv<n){Q:`ZQ}
  (k:∀r,r<=n->(∀i,i<r->`Df)->(`ahT)->Q (`di) st):`aB!:=by
 rw[dl0];have M:∀i j,i<=j->j<n->`vV=`r->pos j=`r:=λi j h1 h2 h3=>by
  cases hq:pos j with
  | false=>rfl
  | true=>rw[`zi i j h1 h2 hq] at h3;cases h3
 refine A3 (S.ask `bv hh _ ?_);dsimp only;cases hp:pos `bv with
 | true =>
  rw[`aY];refine A3 (C7 (D5 (I:=λx c t=>t=st/\∃lo J,`J7/\lo<J/\`Dh<n/\`aB?/\x+1<=J)
   (Q:=λc t=>t=st/\∃lo J,`J7/\lo<J/\`Dh<n/\`aB?/\(`ZN<=J∨(`bv+J<n/\pos (`bv+J)=`r))) `pa `fU `aCa) `g0)
  ·obtain⟨e1,lo,J,e2,a1,a2,a3,a4⟩:=hI
   subst e1;subst e2;dsimp only
   by_cases hge:J ≥ n - `bv
   ·rw[`zg]
    exact `aCb
   ·rw[`zh]
    refine A3 (S.ask (`bv+J) `d _ ?_);dsimp only;cases hq:pos (`bv+J) with
    | false=>exact `aCc
    | true=>exact `aCd
  ·obtain⟨e1,lo,J,e2,a1,a2,a3,a4⟩:=hI
   exact`aCe
  ·obtain⟨e1,lo,J,e2,a1,a2,a3,a4⟩:=hI
   subst e1;subst e2;dsimp only;refine A3 (C7 (bin S (lo:=`Dh+1) (hi:=`bv+min J (`ZN)) `d `d (λi hi=>`zi i _ `d a2 a3) (λi h1 h2=>by
    rcases a4 with a4|⟨a4,a5⟩
    ·omega
    ·exact M _ i `d h2 a5)) `g0)
   obtain⟨e1,r,e2,b2,b4,b5⟩:=hI;subst e1;subst e2;exact `aCf
 | false =>
  rw[`a7];refine A3 (C7 (D5 (I:=λx c t=>t=st/\∃lo J,`J7/\lo<J/\lo<=`bv/\`aCg/\x+1<=J)
   (Q:=λc t=>t=st/\∃lo J,`J7/\lo<J/\lo<=`bv/\`aCg/\(`zf<=J∨(J<=`bv/\pos (`bv - J)=`b))) `pa `fU `aCa) `g0)
  ·obtain⟨e1,lo,J,e2,a1,a2,a3,a4⟩:=hI
   subst e1;subst e2;dsimp only
   by_cases hge:J ≥ `bv+1
   ·rw[`zg]
    exact `aCb
   ·rw[`zh]
    refine A3 (S.ask (`bv - J) `d _ ?_);dsimp only;cases hq:pos (`bv - J) with
    | true=>exact `aCc
    | false=>exact `aCd
  ·obtain⟨e1,lo,J,e2,a1,a2,a3,a4⟩:=hI
   exact`aCe
  ·obtain⟨e1,lo,J,e2,a1,a2,a3,a4⟩:=hI
   subst e1;subst e2;dsimp only;refine A3 (C7 (bin S (lo:=`zf - min J (`zf)) (hi:=`ahV) `d `d (λi hi=>by
    rcases a4 with a4|⟨a4,a5⟩
    ·omega
    ·exact `zi i _ `d `d a5) (λi h1 h2=>M _ i h1 h2 a3)) `g0)
   obtain⟨e1,r,e2,b2,b4,b5⟩:=hI;subst e1;subst e2;exact `aCf
universe zz
noncomputable def yo0(st:`an)(g:Nat):`an:=`aCh (`P7) `lv (`nV) g (`P8)
theorem fd0(a b:`z):py0 a b=(do
 `lx "list.sort.merge-lo"
 let total:=`bw+`a8
 let done (out:`z) (ia ib:Nat):=`aCi++`aCj
 let lastOfA (out:`z) (ia ib:Nat):=out++`aCj++`Qb
 let mut out:`z:=#[← `d0 b 0]
 let mut ia:=0
 let mut ib:=1
 if ib==`a8 then return `mM
 if `e5==`bw then return `J8
 let mut minGallop:=`aCk
 for _ in [0:total] do
  let mut acount:=0
  let mut bcount:=0
  for _ in [0:total] do
   let `a bWins ← lt' `Qd `Qe|return `mM
   if bWins then
    out:=`aCl;ib:=`gi;bcount:=`J9+1;acount:=0
    if ib==`a8 then return `mM
    if bcount ≥ minGallop then break
   else
    out:=`aCm;ia:=`e5;acount:=`J'+1;bcount:=0
    if `e5==`bw then return `J8
    if acount ≥ minGallop then break
  `aCn
  minGallop:=`J!
  for _ in [0:total] do
   if minGallop > 1 then minGallop:=`Dj - 1
   `J?
   let `eG ← J7 `r `Qd a ia `aCo 0|return `mM
   acount:=k
   if k > 0 then
    out:=`te;ia:=`qH
    if `e5==`bw then return `J8
    if ia==`bw then return `mM
   out:=`aCl;ib:=`gi
   if ib==`a8 then return `mM
   let `eG ← J7 `b `Qe b ib (`a8 - ib) 0|return `mM
   bcount:=k
   if k > 0 then
    out:=out++`Di ib (ib+k);ib:=ib+k
    if ib==`a8 then return `mM
   out:=`aCm;ia:=`e5
   if `e5==`bw then return `J8
   if `J'<7&&`J9<7 then break
  minGallop:=`J!
  `J?
 `aCp):=rfl
section
variable{P:`_}{w:`E}{A:`T}{s:`q}{b:`z}{κ:`fi}{cmp:`bY}
structure Mg(b:`z)(cmp:`bY)(T out la lb:`bx):Prop where
 pm:(out++`Ka).Perm T
 sa:(out++la).Pairwise `Dm
 sb:(`ZR).Pairwise `Dm
 me:∀x∈T,`fS
 nd:T.Nodup
theorem Mg.flip{T out la lb:`bx}(h:`Kb):Mg b cmp T out lb la:=⟨(List.perm_append_comm.append_left _).trans `nU,h.sb,h.sa,h.me,h.nd⟩
theorem Mg.ma{T out la lb:`bx}(h:`Kb){x:`bH}(hx:`Kc):`fS:=h.me x (`aCq (D3 _ (`zj)))
theorem Mg.mb{T out la lb:`bx}(h:`Kb){x:`bH}(hx:x∈lb):`fS:=h.me x (`aCq (D3 _ (`Kd)))
theorem Mg.move(tr:∀x∈`bu,∀y∈`bu,∀z∈`bu,`ZB){T out l1 l2 lb:`bx}{y:`bH}(h:Mg b cmp T out (`v1) (y::lb))(hl:∀x∈l1,`gZ):Mg b cmp T (out++l1) l2 (y::lb):=by
 refine⟨?_,?_,?_,h.me,h.nd⟩
 ·have:=`nU
  rw[`fD] at this ⊢;exact `u
 ·have:=h.sa
  rw[`fD];exact `u
 ·have h1:=h.sa
  have h2:=h.sb;rw[`kD] at h1 h2;rw[`kD];obtain⟨o1,o2,o3⟩:=h1;obtain⟨p1,p2,p3⟩:=h2;rw[`kD] at o2;refine⟨`s3 ⟨o1,o2.1,λx hx z hz=>o3 x hx z (E1 _ hz)⟩,p2,λx hx z hz=>?_⟩;rcases `iL with hx|hx
  ·exact p3 x hx z hz
  ·rcases `ZM with rfl|J
   ·exact hl x hx
   ·exact tr x (h.ma (`zj)) y (h.mb A5) z (h.mb hz) (hl x hx) (l4 p2 J)
structure Md(cmp:`bY)(T out:`bx):Prop where
 pm:out.Perm T
 so:out.Pairwise `Dm
theorem Mg.endA{T out la:`bx}(h:Mg b cmp T out la []):Md cmp T (out++la):=⟨by have:=`nU;rwa [i6] at this,h.sa⟩
theorem Mg.endB{T out lb:`bx}(h:Mg b cmp T out [] lb):Md cmp T (`ZR):=⟨`nU,h.sb⟩
theorem Mg.last{T out lb:`bx}{x:`bH}(h:Mg b cmp T out [x] lb)(hx:∀z∈lb,`ZS):Md cmp T (`ZR++[x]):=by
 refine`HE
 ·have:=h.flip.pm
  rw[`fD];exact `u
 ·rw[`kD]
  refine⟨h.sb,`Yt,λy hy z hz=>?_⟩;rw[`fA] at hz;subst hz;rcases `tf with hy|hy
  ·have:=h.sa
   rw[`kD] at this;exact this.2.2 y hy z `ZT
  ·exact hx y hy
theorem Mg.ne{T out la lb:`bx}(h:`Kb){x y:`bH}(hx:`Kc)(hy:y∈lb):`C?:=by
 have:=h.pm.nodup_iff.mpr h.nd;rw[`yO] at this;have:=`v3;rw[`yO] at this;exact this.2.2 x hx y hy
theorem l80(C:`o?){st:`an}(hk:`mK){left:`X}{key:`bH}{arr:`z}{base hint:Nat}(mk:`aB3)(l:`bx)(hl:∀i,i<n->`aB2=`u3)(hn:`b8=n)(ml:∀x∈l,`fS/\x≠key)(sl:`aCr)(hh:`bv<n){Q:`ZQ}
  (k:∀l1 l2,l=`v1->(∀x∈l1,`J5=`b)->(∀x∈l2,`J6=`b)->Q (`a `d1) st):`aB!:=by
 subst hn;refine gal (pos:=λi=>match `u3 with|`aQ=>`J5|`c=>`r) ⟨λi hi Q' hQ=>?_,λi j J hj hp=>?_⟩ hh λr hr h1 h2=>?_
 ·have e:`aCs:=D7 l i hi
  have m:=ml l[i] `Ke;refine Qg0 C hk left (x:=l[i]) ((hl i hi).trans e) m.1 mk m.2 ?_;simp only[e] at hQ;exact hQ
 ·have e1:`aCs:=D7 l i `d
  have e2:l[j]?=`a l[j]:=D7 l j hj;simp only[e1,e2] at hp ⊢
  by_cases hij':i=j
  ·subst hij';exact hp
  ·exact `ec _ (ml _ (C0 `d)).1 _ (ml _ (C0 hj)).1 _ mk (`o! sl i j `d hj `d) hp
 ·have:=k (l.take r) (l.drop r) (`zk r l).symm `zl `zl
  ·rw[`ck,`Kf hr] at this
   exact `u
  ·obtain⟨i,hi,e⟩:=`J0
   rw[`ZU] at e;rw[`ck] at hi;have:=h1 i `d;simp only[`dE l i (show i<`b8 by omega),e] at this;exact `u
  ·obtain⟨i,hi,e⟩:=`J0
   rw[`ZV] at e;rw[`fg] at hi;have:=h2 (r+i) `d `d;simp only[`dE l (r+i) (show r+i<`b8 by omega),e] at this;have m:=ml x (e▸C0 _);exact `qN _ mk _ m.1 (λz=>m.2 `p9) `u
structure Sm(st t:`an):Prop where
 kd:`e4 t=`P7
 ar:`jQ=`gg
 pe:`aCt
 fa:`lu t=`P8
theorem Sm.refl(st:`an):Sm st st:=⟨rfl,rfl,rfl,rfl⟩
theorem Sm.gal{st t:`an}(h:`c6)(g:Nat):Sm st (yo0 t g):=⟨h.kd,h.ar,h.pe,h.fa⟩
theorem T6{a:`z}(h:i<`bw):`qI i=a[i]::`qI `a4:=by
 rw[`sE `kx];simp
abbrev St7:=`Kg×`z×Nat×Nat×`Qt
noncomputable def loD(a y out:`z)(ia ib:Nat):`z:=`aCi++`aCu
noncomputable def loL(a y out:`z)(ia ib:Nat):`z:=out++`aCu++`Qb
noncomputable def lo3(a y:`z)(mg ac bc:Nat)(out:`z)(ia ib:Nat):`ZW:=do
 let x ← `Qc
 if (`e5+1==`bw)=`b then `ai (`cy (`a (loL a y `nW `zm ib),`h6,`e5,ib,mg,ac,bc))
 else if `aCv=`b then `ai (`cy `aCw)
 else `ai (`Qj `aCw)
noncomputable def lo2(a y:`z)(mg ac bc:Nat)(out:`z)(ia ib:Nat):`ZW:=do
 let x ← `aCx
 if `aCy=`b then `aCz
 else do
  let z ← `Qc
  let __x ← J7 `b z y `nX (`cP - `nX) 0
  match __x with
  | `eG =>
   if k > 0 then
    if (`gi+k==`cP)=`b then `ai (`cy (`a (loD a y (`ZX) ia (`gi+k)),`ZX,ia,`gi+k,mg,ac,k))
    else lo3 a y mg ac k (`ZX) ia (`gi+k)
   else lo3 a y mg ac k `nW ia `nX
  | x'=>`aCz
noncomputable def lo1(a y:`z)(mg ac bc:Nat)(out:`z)(ia ib:Nat):`ZW:=do
 `aCA
 let x ← `aCx
 let __x ← J7 `r x a ia `aCo 0
 match __x with
 | `eG =>
  if k > 0 then
   if (`qH+1==`bw)=`b then `ai (`cy (`a (loL a y (`te) `Dl ib),`te,`qH,ib,mg,k,bc))
   else if (`qH==`bw)=`b then `ai (`cy (`a (loD a y (`te) `Dl ib),`te,`qH,ib,mg,k,bc))
   else lo2 a y mg k bc (`te) `Dl ib
  else lo2 a y mg k bc out ia ib
 | x'=>`ai (`cy (`a (`ahZ),out,ia,ib,mg,ac,bc))
structure Lo(b:`z)(cmp:`bY)(a y:`z)(n:Nat)(out:`z)(ia ib:Nat):Prop where
 mg:`ZY
 ia:`e5<`bw
 ib:ib<`cP
 n:`aCB
noncomputable def Oc(b:`z)(cmp:`bY)(a y:`z)(n:Nat)(o:`Kg)(out:`z)(ia ib:Nat):Prop :=
 match o with
 | `di=>`Dr
 | `c=>`tg
noncomputable def Oc7(b:`z)(cmp:`bY)(a y:`z)(n:Nat)(st:`an)(r:`Qg)(t:`an):Prop :=
 `c6/\match r with
 | `Kh=>Oc b cmp a y n c.1 `ex `ey `ez
 | `Ki=>`lA/\Lo b cmp a y n `ex `ey `ez
section
variable{a y:`z}(C:`o?){st t:`an}(hk:`mK)(hl:∀z∈`Qh,∀x,a[`bw - 1]?=`aQ->`ZS)
theorem Q5(h:¬(m==n)=`b):m≠n:=λz=>h (by rw[z];exact Dq0 n)
theorem V10(c:`z)(i k:Nat):(`Kj i (i+k)).toList=(`Kk i).take k:=by
 rw[`ZZ];simp
theorem af0(c:`z)(i:Nat):(`Kj i `Kl).toList=`Kk i:=by
 rw[`ZZ];simp;rw[`zn]
theorem Ws0{c out:`z}{l1 l2:`bx}(h:`Kk i=`v1):(out++`Kj i (i+`d1)).toList=`lz++l1/\`Kk (i+`d1)=l2:=by
 refine`HE
 ·rw[`Km,V10,h,`Z_]
 ·rw[← List.drop_drop,h,`Z0]
theorem Sk0{out:`z}:`aCC=`lz++`vZ++`Qi:=by
 unfold loD;simp only[`Km,af0]
theorem Q10{out:`z}:`aCD=`lz++`Qi++`vZ:=by
 unfold loL;simp only[`Km,af0]
include hl in
theorem j10{out:`z}(M:`ZY)(h:`e5=`bw):Md cmp `g1 `aCD:=by
 rw[Q10];have e:=`Kn;rw[`Z1 (i:=`e5) `hm] at e;rw[e] at M ⊢;refine M.last λz hz=>hl z (Dr0 hz) _ ?_
 rw[show `iX=ia by omega];exact `aCE
theorem gh0{out:`z}(M:`ZY)(h:ia=`bw∨ib=`cP):Md cmp `g1 `aCC:=by
 rw[Sk0];rcases h with h|h
 ·rw[`Z1 (as:=`Do) (i:=ia) `hm] at M ⊢
  rw[`fb];exact M.endB
 ·rw[`Z1 (as:=`Qh) (i:=ib) `hm] at M ⊢
  rw[`fb];exact M.endA
include hl C in
theorem cp0{mg:Nat}{out:`z}(hs:`c6)(L:`tg)(hc:∀z,y[ib]?=`n0->cmp (a[ia]'(by have:=L.ia;omega)) z=`b):wpS `aA A E s (lo3 a y mg ac bc out ia ib) `Z2 t:=by
 have h1:=L.ia;have h2:=L.ib;have M:=`mN;rw[`Kn,`Z3] at M;have M2:=`gB `ec (l1:=[`qK]) (l2:=`qI `zm) M λx hx=>by
  rw[`fA] at hx;subst hx;exact hc _ (D7 y ib h2)
 rw[← `Z4,← `iT] at M2;unfold lo3;rw[`cF,`dE a ia `d];refine `gz;split
 ·rename_i e
  exact `aCF
 ·rename_i e
  have L2:Lo b cmp a y `b2 (`jN `qK) `zm ib:=`aCG;split
  ·exact A2 ⟨hs,L2⟩
  ·exact `th
include hl C hk in
theorem Zj0{mg:Nat}{out:`z}(hs:`c6)(L:`tg)(hc:∀z,a[ia]?=`n0->cmp (y[ib]'L.ib) z=`b):wpS `aA A E s (lo2 a y mg ac bc out ia ib) `Z2 t:=by
 have h1:=L.ia;have h2:=L.ib;have M:=`mN;have O:ia<`bw:=`h
 rw[`Kn,`Z3] at M;have M2:=(`gB `ec (l1:=[`qM]) (l2:=`Ko) `Kp λx hx=>by
  rw[`fA] at hx;subst hx;exact hc _ (`aCE)).flip
 have mk:`aCH:=`Kq;rw[← `iT] at M2;unfold lo2;rw[`cF,`Z5];refine `gz;split
 ·rename_i e
  rw[← `Z6] at M2;exact `aCI
 ·rename_i e
  have e':`gi<`cP:=`qJ
  rw[`cF,`dE a ia O];refine A3 (A2 (A3 (l80 C `v2 mk (`Ko) `hC `Q (λx hx=>`aCJ) (by have:=M2.sb;rw[`kD] at this;exact `v3) `d `Kr)))
  ·rw[`aCK]
   simp
  ·dsimp only
   obtain⟨x1,x2⟩:=Ws0 (out:=`jN `qM) h;rw[h] at M2;have M3:=(`gB `ec M2.flip hb).flip;rw[← x1,← x2,← `Z6] at M3;split
   ·rename_i hz
    split
    ·rename_i e2
     exact A2 ⟨hs,gh0 M3 `aCL⟩
    ·rename_i e2
     have Z:(`Ko).length=`aCM:=`Z7
     rw[`fg,`ad,`bp] at Z;have e3:`gi+`d1<`cP:=`Z8
     refine cp0 C hl hs ⟨M3,h1,e3,`aCN⟩ `Ks
     rw[← x2,T6 (a:=y) e3];rw[`dE y _ e3] at J;cases J;exact A5
   ·rename_i hz
    have:l1=[]:=`ti;subst this;rw[`fK] at h;rw[`fK,← h,← `Z6] at M2;refine cp0 C hl hs ⟨M2,h1,e',`nY⟩ `Ks
    rw[← h,T6 (a:=y) e'];rw[`dE y _ e'] at J;cases J;exact A5
include hl C hk in
theorem ao0{mg:Nat}{out:`z}(hs:`c6)(L:`tg):wpS `aA A E s (lo1 a y mg ac bc out ia ib) `Z2 t:=by
 have h1:=L.ia;have h2:=L.ib;have M:=`mN;rw[`Z3] at M;have mk:`aCO:=`Kt;unfold lo1;refine `Z9;have hs:=`Qm mg;rw[`cF,`Z5];refine A3 (A2 (A3 (l80 C `v2 mk (`vZ) `hC `Q (λx hx=>`aCP) (by have:=M.sa;rw[`kD] at this;exact `v3) `d `Kr)))
 ·rw[`aCK]
  simp
 ·dsimp only
  obtain⟨x1,x2⟩:=Ws0 (out:=out) h;have M0:=M;rw[h] at M;have M3:=`gB `ec M hb;rw[← x1,← x2,← T6 (a:=y) h2] at M3;have O:(`vZ).length=`aCM:=`Z7
  rw[`fg,`ad,`bp] at O;split
  ·rename_i hz
   split
   ·rename_i e2
    exact A2 ⟨hs,j10 hl M3 `nZ⟩
   ·split
    ·rename_i e2
     exact A2 ⟨hs,gh0 M3 `aCQ⟩
    ·rename_i e1 e2
     have e3:ia+`d1+1<`bw:=by
      have:=`Dq;have:=Q5 e1;omega
     refine Zj0 C hk hl hs ⟨M3,e3,h2,`aCR⟩ `Ks
     rw[← x2,T6 (a:=a) (i:=ia+`d1) `d];rw[`Ku] at J;cases J;exact A5
  ·rename_i hz
   have:l1=[]:=`ti;subst this;rw[`fK] at h;refine Zj0 C hk hl hs L `Ks
   rw[← h,`Kn];rw[`Ku] at J;cases J;exact A5
theorem Lo.le{out:`z}(h:`tg)(k:m<=n):Lo b cmp a y m out ia ib:=⟨h.mg,h.ia,h.ib,C4 k h.n⟩
theorem Lo.lt{out:`z}(h:`tg):n<`bw+`cP:=by
 have h1:=`aCS;have h2:=h.ia;have h3:=h.ib;have h4:=h.n;simp only[`ad,`fg,`bp] at h1;omega
include hl C hk in
theorem mergeLo(h0:0<`cP)(h1:0<`bw)(M:Mg b cmp `g1 [y[0]] `Do (`Dp 1)){Q:`aCT}
  (k:`aCU):wpS `aA A E s (py0 a y) Q st:=by
 rw[fd0];refine `tj;rw[`cF,`dE y 0 h0];refine `gz;dsimp only;have M':Mg b cmp `g1 (#[y[0]]:`z).toList (`qI 0) (`Dp 1):=M
 by_cases e1:(1==`cP)=`b
 ·rw[`J e1]
  exact A2 (k _ _ `Kv (gh0 (ia:=0) (ib:=1) M' (`i (`yy))))
 rw[`V e1]
 by_cases e2:(0+1==`bw)=`b
 ·rw[`J e2]
  exact A2 (k _ _ `Kv (j10 hl (ia:=0) (ib:=1) M' `nZ))
 rw[`V e2];have L0:Lo b cmp a y (1+0) #[y[0]] 0 1:=⟨M',`Z8,`aCV,A4 1⟩;refine `fT;refine A3 (C7 (D5 (I:=λx c t=>`c6/\`lA/\Lo b cmp a y `tk `ex `ey `ez)
  (Q:=`aCW) `pa `fU `aCX) `g0)
 ·obtain⟨hs,_,L⟩:=hI
  refine A3 (C7 (D5 (I:=`aCY)
   (Q:=λc t=>`c6/\Oc b cmp a y `tk c.1 `ex `ey `ez) `aCZ `fU `Kw) `Kx)
  ·obtain⟨o,J,ia,ib,ac,bc⟩:=c'
   obtain⟨hs,_,L⟩:=hI;have L:Lo b cmp a y `Ds J ia ib:=L;dsimp only;have h1:=L.ia;have h2:=L.ib;have M:=`mN;have Z:ia<`bw:=`h
   rw[`aC_,`Z4] at M;have m1:`aCH:=`Kq;have m2:`aCO:=`Kt;rw[`cF,`Z5,`cF,`dE a ia Z];refine `aC0;dsimp only;cases hc:cmp `qM `qK with
   | true =>
    have M2:=(`gB `ec (l1:=[`qM]) (l2:=`Ko) `Kp λx hx=>by
     rw[`fA] at hx;subst hx;exact hc).flip
    rw[← `aC_,← `iT] at M2;rw[`aY];refine `gz
    by_cases e:`aCy=`b
    ·rw[`iN]
     exact `aCI
    ·rw[`hy]
     have L2:Lo b cmp a y `tl (`Ky `qM) ia `nX:=⟨M2,h1,`qJ,`nY⟩
     by_cases g:`aC1
     ·rw[`Kz]
      exact `KA
     ·rw[`KB]
      exact `th
   | false =>
    have M2:=`gB `ec (l1:=[`qK]) (l2:=`qI `zm) M λx hx=>by
     rw[`fA] at hx;subst hx;exact `aC2
    rw[← `Z4,← `iT] at M2;rw[`sm];refine `gz
    by_cases e:(`e5+1==`bw)=`b
    ·rw[`iN]
     exact `aCF
    ·rw[`hy]
     have L2:Lo b cmp a y `tl (`Ky `qK) `zm ib:=`aCG
     by_cases g:`aC3
     ·rw[`Kz]
      exact `KA
     ·rw[`KB]
      exact `th
  ·obtain⟨o,J,ia,ib,ac,bc⟩:=c
   obtain⟨hs,e,L⟩:=hI;cases e;exact`KC
  ·obtain⟨o,J,ia,ib,ac,bc⟩:=c'
   obtain⟨hs,O⟩:=hI;cases o with
   | some r=>exact `KD
   | none =>
    have L:Lo b cmp a y `tk J ia ib:=O;dsimp only;refine `tj;refine A3 (C7 (D5 (I:=`aCY)
     (Q:=λc t=>`c6/\`aC4) `aCZ `fU `Kw) `Kx)
    ·obtain⟨o,J,ia,ib,mg,ac,bc⟩:=c'
     obtain⟨hs,_,L⟩:=hI;have go:∀(mg:Nat) (r:`Qg) (t':`an),Oc7 b cmp a y `aC5 st r t'->match r with|`Kh=>`KE/\`aC4|`Ki=>`KE/\`lA/\Lo b cmp a y `tl `ex `ey `ez:=λmg r t' h=>by
      cases r with
      | yield c=>exact`aC6
      | done c =>
       obtain⟨o,J,ia,ib,mg,ac,bc⟩:=c;refine`aC7;cases o with
       | some r=>exact h.2
       | none=>exact Lo.le h.2 `d
     dsimp only
     by_cases hg:mg > 1
     ·rw[`J hg]
      show wpS `aA A E s (lo1 a y (`KF) ac bc J ia ib) _ t;refine C7 (ao0 C hk hl (mg:=`KF) (ac:=ac) (bc:=bc) hs L) `KG
      have:=`aC8;cases r<;>exact `u
     ·rw[`V hg]
      show wpS `aA A E s (lo1 a y mg ac bc J ia ib) _ t;refine C7 (ao0 C hk hl (mg:=mg) (ac:=ac) (bc:=bc) hs L) `KG
      have:=`aC8;cases r<;>exact `u
    ·obtain⟨o,J,ia,ib,mg,ac,bc⟩:=c
     obtain⟨hs,e,L⟩:=hI;cases e;exact`KC
    ·obtain⟨o,J,ia,ib,mg,ac,bc⟩:=c'
     obtain⟨hs,O⟩:=hI;cases o with
     | some r=>exact `KD
     | none=>exact `aC9
 ·exact `aC'
 ·obtain⟨o,J,ia,ib,mg⟩:=c
  obtain⟨hs,r,e,O⟩:=hI;cases e;exact A2 (k _ _ hs O)
universe zz
universe zz
theorem f90(a b:`z):ps0 a b=(do
 `lx "list.sort.merge-hi"
 let total:=`bw+`a8
 let done (out:`z) (na nb:Nat):=`KH++`aC!++`KI
 let firstOfB (out:`z) (na nb:Nat):=`aC!++`KH++`KI
 let mut na:=`iX
 let mut nb:=`a8
 let mut out:`z:=#[← `ah1]
 if na==0 then return `mO
 if nb==1 then return `KJ
 let mut minGallop:=`aCk
 for _ in [0:total] do
  let mut acount:=0
  let mut bcount:=0
  for _ in [0:total] do
   let `a aWins ← lt' `aC? `aDa|return `mO
   if aWins then
    na:=`n_;out:=`aDb;acount:=`J'+1;bcount:=0
    if na==0 then return `mO
    if acount ≥ minGallop then break
   else
    nb:=`g2;out:=`aDc;bcount:=`J9+1;acount:=0
    if nb==1 then return `KJ
    if bcount ≥ minGallop then break
  `aCn
  minGallop:=`J!
  for _ in [0:total] do
   if minGallop > 1 then minGallop:=`Dj - 1
   `J?
   let `a at_ ← J7 `r `aC? a 0 na `jP|return `mO
   let k:=na - at_
   acount:=k
   if k > 0 then
    out:=out++(`vY at_ na).reverse;na:=at_
    if na==0 then return `mO
   nb:=`g2;out:=`aDc
   if nb==1 then return `KJ
   let `a at_ ← J7 `b `aDa b 0 nb `e6|return `mO
   let k:=nb - at_
   bcount:=k
   if k > 0 then
    out:=out++(`Di at_ nb).reverse;nb:=at_
    if nb==1 then return `KJ
    if nb==0 then return `mO
   na:=`n_;out:=`aDb
   if na==0 then return `mO
   if `J'<7&&`J9<7 then break
  minGallop:=`J!
  `J?
 `aCp):=rfl
section
variable{P:`_}{w:`E}{A:`T}{s:`q}{b:`z}{κ:`fi}{cmp:`bY}
noncomputable def vm(cmp:`bY)(x y:`bH):`X:=`Da
noncomputable def rt(c:`z)(n:Nat):`bx:=(`KK n).reverse
theorem M6{c:`z}(h:0<n)(h':n<=`Kl):rt c n=c[`tm]::rt c (`tm):=by
 obtain⟨m,rfl⟩:∃m,n=m+1:=⟨`tm,`h⟩;unfold rt;rw[`pb,`KL];simp[show m<`Kl by omega]
theorem Q00{c:`z}{x:`bH}(h:x∈rt c n):x∈c.toList:=X1 (i7.mp h)
theorem Wb0{c out:`z}{l1 l2:`bx}(h:`KK n=`v1)(hn:n<=`Kl):(out++(`Kj `d1 n).reverse).toList=`lz++`aDd/\rt c `d1=`aDe/\`d1+`zo=n/\rt c n=`aDd++`aDe:=by
 have e:=D9 `wM h;rw[`ck,`ad,`bp] at e;refine⟨?_,?_,`h,?_⟩
 ·rw[`Km,Array.toList_reverse,`ZZ]
  simp only[List.extract_eq_take_drop];rw[← List.drop_take,h,`Z0]
 ·unfold rt
  have:`KK `d1=(`KK n).take `d1:=by rw[List.take_take,`Kf `d]
  rw[`u,h,`Z_]
 ·unfold rt
  rw[h,`KL]
theorem Md.rev{T r:`bx}(h:Md `Du T r.reverse):Md cmp T r:=⟨r.reverse_perm.symm.trans `nU,l6.mp h.so⟩
noncomputable def hiD(a y out:`z)(na nb:Nat):`z:=`KH++`aDf++`KI
noncomputable def hiF(a y out:`z)(na nb:Nat):`z:=`aDf++`KH++`KI
abbrev Sv7:=`Kg×Nat×Nat×`z×`Qt
noncomputable def hi3(a y:`z)(mg ac bc:Nat)(out:`z)(na nb:Nat):`Z':=do
 let x ← `Qn
 if `aDg=`b then `ai (`cy (`a (hiD a y `nW `jP nb),`n_,nb,`h6,mg,ac,bc))
 else if `aCv=`b then `ai (`cy `aDh)
 else `ai (`Qj `aDh)
noncomputable def hi2(a y:`z)(mg ac bc:Nat)(out:`z)(na nb:Nat):`Z':=do
 let x ← `aDi
 if `aDj=`b then `ai (`cy (`a (hiF a y `nW na `e6),na,`g2,`h6,mg,ac,bc))
 else do
  let z ← `Qn
  let __x ← J7 `b z y 0 `e6 (`g2 - 1)
  match __x with
  | `eG =>
   if `g2 - k > 0 then
    if (k==1)=`b then `ai (`cy (`a (hiF a y (`zp) na k),na,k,`zp,mg,ac,`KM))
    else if (k==0)=`b then `ai (`cy (`a (hiD a y (`zp) na k),na,k,`zp,mg,ac,`KM))
    else hi3 a y mg ac (`KM) (`zp) na k
   else hi3 a y mg ac (`KM) `nW na `e6
  | x'=>`ai (`cy (`a (hiD a y `nW na `e6),na,`g2,`h6,mg,ac,bc))
noncomputable def hi1(a y:`z)(mg ac bc:Nat)(out:`z)(na nb:Nat):`Z':=do
 `aCA
 let x ← `aDi
 let __x ← J7 `r x a 0 na `jP
 match __x with
 | `eG =>
  if na - k > 0 then
   if (k==0)=`b then `ai (`cy (`a (hiD a y (`Z!) k nb),k,nb,`Z!,mg,`KN,bc))
   else hi2 a y mg (`KN) bc (`Z!) k nb
  else hi2 a y mg (`KN) bc out na nb
 | x'=>`ai (`cy (`a (`Z?),na,nb,out,mg,ac,bc))
structure Hi(b:`z)(cmp:`bY)(a y:`z)(n:Nat)(out:`z)(na nb:Nat):Prop where
 mg:`_a
 na':na<=`bw
 nb':nb<=`cP
 na:0<na
 nb:1<nb
 n:`aCB
noncomputable def Ov(b:`z)(cmp:`bY)(a y:`z)(n:Nat)(o:`Kg)(out:`z)(na nb:Nat):Prop :=
 match o with
 | `di=>`Dr
 | `c=>`tn
noncomputable def Ov7(b:`z)(cmp:`bY)(a y:`z)(n:Nat)(st:`an)(r:`Qo)(t:`an):Prop :=
 `c6/\match r with
 | `Kh=>Ov b cmp a y n c.1 `ez `ex `ey
 | `Ki=>`lA/\Hi b cmp a y n `ez `ex `ey
variable{a y:`z}(C:`o?){st t:`an}(hk:`mK)(hl:∀z∈`Do,∀x,y[0]?=`aQ->`P9)
include C in
theorem vtr:∀x∈`bu,∀y∈`bu,∀z∈`bu,vm cmp x y=`b->vm cmp y z=`b->vm cmp x z=`b:=λx hx y hy z hz h1 h2=>`ec z hz y hy x hx h2 h1
theorem Tu0{out:`z}{nb:Nat}:(`Z?).toList.reverse=`lz++`Qp++`Dv:=by
 unfold hiD rt;simp
theorem S10{out:`z}{nb:Nat}:(`aDk).toList.reverse=`lz++`Dv++`Qp:=by
 unfold hiF rt;simp
include hl in
theorem o40{out:`z}{nb:Nat}(M:`_a)(h:nb=1)(hy:0<`cP):Md cmp `g1 (`aDk).toList:=by
 refine Md.rev ?_;rw[S10];subst h;have e:=M6 (c:=y) (n:=1) `d `d;rw[show rt y (1 - 1)=[] from rfl] at e;rw[e] at M ⊢;exact M.flip.last λz hz=>hl z (Q00 hz) _ (D7 y 0 hy)
theorem g70{out:`z}{nb:Nat}(M:`_a)(h:na=0∨nb=0):Md cmp `g1 (`Z?).toList:=by
 refine Md.rev ?_;rw[Tu0];rcases h with rfl|rfl
 ·rw[show rt a 0=[] from rfl] at M ⊢
  rw[`fb];exact M.endB
 ·rw[show rt y 0=[] from rfl] at M ⊢
  rw[`fb];exact M.endA
include C in
theorem aa0{mg:Nat}{out:`z}{nb:Nat}(hs:`c6)(L:`tn)(hc:∀x z,a[na - 1]?=`aQ->y[nb - 1]?=`n0->`ZS):wpS `aA A E s (hi3 a y mg ac bc out na nb) `_b t:=by
 have h1:=L.na;have O:=L.na';have h2:=L.nb;have J:=L.nb';have M:=`mN;rw[M6 (c:=a) h1 O,`aDl] at M;have M2:=`gB `to (l1:=[`qO]) (l2:=`aDm) M λx hx=>by
  rw[`fA] at hx;subst hx;exact `aDn
 rw[← `aDl,← `iT] at M2;unfold hi3;rw[`cF,`zq];refine `gz;split
 ·rename_i e
  exact `aDo
 ·rename_i e
  have L2:Hi b cmp a y `b2 (`jN `qO) `jP nb:=⟨M2,`h,J,`qJ,h2,`nY⟩;split
  ·exact A2 ⟨hs,L2⟩
  ·exact `th
include hl C hk in
theorem Zg0{mg:Nat}{out:`z}{nb:Nat}(hs:`c6)(L:`tn)(hc:∀x z,a[na - 1]?=`aQ->y[nb - 1]?=`n0->`P9):wpS `aA A E s (hi2 a y mg ac bc out na nb) `_b t:=by
 have h1:=L.na;have J:=L.na';have h2:=L.nb;have Z:=L.nb';have M:=`mN;rw[`KO,`_c] at M;have M2:=(`gB `to (l1:=[`qP]) (l2:=`_d) `Kp λx hx=>by
  rw[`fA] at hx;subst hx;exact `aDn).flip
 have mk:`aDp:=`Kq;rw[← `iT] at M2;unfold hi2;rw[`cF,`zr];refine `gz;split
 ·rename_i e
  rw[← `KO] at M2;exact `aDq
 ·rename_i e
  have e':=Q5 e;rw[`cF,`zq];refine A3 (A2 (A3 (l80 C `v2 mk (y.toList.take `e6) `hC `aDr `zl ?_ `d `Kr)))
  ·rw[`bd,`_e]
   simp
  ·have hx:x∈`_d:=i7.mpr hx
   exact`aCJ
  ·have:=M2.sb
   rw[`kD] at this;exact `aDs
  ·dsimp only
   obtain⟨x1,x2,x3,x4⟩:=Wb0 (out:=`jN `qP) h `d;rw[x4] at M2;have M3:=(`gB `to M2.flip `aDt).flip;rw[← x1,← x2,← `KO] at M3;split
   ·rename_i hz
    split
    ·rename_i e2
     exact A2 ⟨hs,o40 hl M3 `nZ `d⟩
    ·split
     ·rename_i e2
      exact A2 ⟨hs,g70 M3 `aCL⟩
     ·rename_i e2 e3
      have e2:=`Dq;have e3:=Q5 e3;refine aa0 C hs ⟨M3,J,`h,h1,`h,`aCN⟩ `aDu
      rw[`zq] at hx;cases hx;refine hb z ?_;rw[`aDv] at O;cases O;rw[← `KP,← x2,`KQ];exact A5
   ·rename_i hz
    have:l2=[]:=`ti;subst this;rw[← x4,← `KO] at M2;refine aa0 C hs ⟨M2,J,`h,h1,`h,`nY⟩ `aDu
    rw[`zq] at hx;cases hx;refine hb z ?_;rw[`aDv] at O;cases O;rw[← `KP,← x2,show `d1=`g2 from x3,`KQ];exact A5
include hl C hk in
theorem cr0{mg:Nat}{out:`z}{nb:Nat}(hs:`c6)(L:`tn):wpS `aA A E s (hi1 a y mg ac bc out na nb) `_b t:=by
 have h1:=L.na;have Z:=L.na';have h2:=L.nb;have O:=L.nb';have M:=`mN;rw[`aDw] at M;have mk:`aDx:=`Kt;unfold hi1;refine `Z9;have hs:=`Qm mg;rw[`cF,`zr];refine A3 (A2 (A3 (l80 C `v2 mk (a.toList.take na) `hC `aDr `zl ?_ `d `Kr)))
 ·rw[`bd,`_e]
  simp
 ·have hx:x∈`Dv:=i7.mpr hx
  exact`aCP
 ·have:=M.sa
  rw[`kD] at this;exact `aDs
 ·dsimp only
  obtain⟨x1,x2,x3,x4⟩:=Wb0 (out:=out) h `d;rw[x4] at M;have M3:=`gB `to M `aDt
  rw[← x1,← x2,← `aDw] at M3;split
  ·rename_i hz
   split
   ·rename_i e2
    exact A2 ⟨hs,g70 M3 `aCQ⟩
   ·rename_i e2
    have e2:=`Dq;refine Zg0 C hk hl hs ⟨M3,`h,O,`h,h2,`aCR⟩ `aDy
    rw[`zr] at J;cases J;refine hb x ?_;rw[`Ku] at hx;cases hx;rw[← `KP,← x2,`KQ];exact A5
  ·rename_i hz
   have:l2=[]:=`ti;subst this;refine Zg0 C hk hl hs L `aDy
   rw[`zr] at J;cases J;refine hb x ?_;rw[`Ku] at hx;cases hx;rw[← `KP,← x2,show `d1=na from x3,`KQ];exact A5
theorem Hi.le{out:`z}{nb:Nat}(h:`tn)(k:m<=n):Hi b cmp a y m out na nb:=⟨h.mg,h.na',h.nb',h.na,h.nb,C4 k h.n⟩
theorem Hi.lt{out:`z}{nb:Nat}(h:`tn):n<`bw+`cP:=by
 have h1:=`aCS;have h2:=h.na;have J:=h.na';have h3:=h.nb;have h4:=h.n;unfold rt at h1;simp only[`ad,`y1,`ck,`bp] at h1;omega
include hl C hk in
theorem mergeHi(h0:0<`cP)(h1:0<`bw)(M:Mg b `Du `g1 [a[`iX]] (rt a (`iX)) `aDz){Q:`aCT}
  (k:`aCU):wpS `aA A E s (ps0 a y) Q st:=by
 rw[f90];refine `tj;dsimp only;rw[`cF,`dE a (`iX) `d];refine `gz;have M':Mg b `Du `g1 (#[a[`iX]]:`z).toList (rt a (`iX)) `aDz:=M
 by_cases e1:(`iX==0)=`b
 ·rw[`J e1]
  exact A2 (k _ _ `Kv (g70 (nb:=`cP) M' (`m (`yy))))
 rw[`V e1]
 by_cases e2:(`cP==1)=`b
 ·rw[`J e2]
  exact A2 (k _ _ `Kv (o40 hl (nb:=`cP) M' `nZ h0))
 rw[`V e2];have L0:Hi b cmp a y (1+0) #[a[`iX]] (`iX) `cP:=⟨M',`h,`eN,`aCV,`Z8,A4 1⟩;refine `fT;refine A3 (C7 (D5 (I:=λx c t=>`c6/\`lA/\Hi b cmp a y `tk `ez `ex `ey)
  (Q:=`aCW) `pa `fU `aCX) `g0)
 ·obtain⟨hs,_,L⟩:=hI
  refine A3 (C7 (D5 (I:=`aDA)
   (Q:=λc t=>`c6/\Ov b cmp a y `tk c.1 `ez `ex `ey) `aDB `fU `Kw) `Kx)
  ·obtain⟨o,na,nb,J,ac,bc⟩:=c'
   obtain⟨hs,_,L⟩:=hI;have L:Hi b cmp a y `Ds J na nb:=L;dsimp only;have h1:=L.na;have a0:=L.na';have h2:=L.nb;have Z:=L.nb';have M:=`mN;rw[`aDC,`_c] at M;have m1:`aDp:=`Kq;have m2:`aDx:=`Kt;rw[`cF,`zr,`cF,`zq];refine `aC0;dsimp only;cases hc:cmp `qP `qO with
   | true =>
    have M2:=`gB `to (l1:=[`qO]) (l2:=`aDm) M λx hx=>by
     rw[`fA] at hx;subst hx;exact hc
    rw[← `_c,← `iT] at M2;rw[`aY];refine `gz
    by_cases e:`aDg=`b
    ·rw[`iN]
     exact `aDo
    ·rw[`hy]
     have L2:Hi b cmp a y `tl (`Ky `qO) `jP nb:=⟨M2,`h,Z,`qJ,h2,`nY⟩
     by_cases g:`aC3
     ·rw[`Kz]
      exact `KA
     ·rw[`KB]
      exact `th
   | false =>
    have M2:=(`gB `to (l1:=[`qP]) (l2:=`_d) `Kp λx hx=>by
     rw[`fA] at hx;subst hx;exact `aC2).flip
    rw[← `aDC,← `iT] at M2;rw[`sm];refine `gz
    by_cases e:`aDj=`b
    ·rw[`iN]
     exact `aDq
    ·rw[`hy]
     have L2:Hi b cmp a y `tl (`Ky `qP) na `e6:=⟨M2,a0,`h,h1,`qJ,`nY⟩
     by_cases g:`aC1
     ·rw[`Kz]
      exact `KA
     ·rw[`KB]
      exact `th
  ·obtain⟨o,na,nb,J,ac,bc⟩:=c
   obtain⟨hs,e,L⟩:=hI;cases e;exact`KC
  ·obtain⟨o,na,nb,J,ac,bc⟩:=c'
   obtain⟨hs,O⟩:=hI;cases o with
   | some r=>exact `KD
   | none =>
    have L:Hi b cmp a y `tk J na nb:=O;dsimp only;refine `tj;refine A3 (C7 (D5 (I:=`aDA)
     (Q:=λc t=>`c6/\`aDD) `aDB `fU `Kw) `Kx)
    ·obtain⟨o,na,nb,J,mg,ac,bc⟩:=c'
     obtain⟨hs,_,L⟩:=hI;have go:∀(r:`Qo) (t':`an),Ov7 b cmp a y `aC5 st r t'->match r with|`Kh=>`KE/\`aDD|`Ki=>`KE/\`lA/\Hi b cmp a y `tl `ez `ex `ey:=λr t' h=>by
      cases r with
      | yield c=>exact`aC6
      | done c =>
       obtain⟨o,na,nb,J,mg,ac,bc⟩:=c;refine`aC7;cases o with
       | some r=>exact h.2
       | none=>exact Hi.le h.2 `d
     dsimp only
     by_cases hg:mg > 1
     ·rw[`J hg]
      show wpS `aA A E s (hi1 a y (`KF) ac bc J na nb) _ t;refine C7 (cr0 C hk hl (mg:=`KF) (ac:=ac) (bc:=bc) hs L) `KG
      have:=go r t' h;cases r<;>exact `u
     ·rw[`V hg]
      show wpS `aA A E s (hi1 a y mg ac bc J na nb) _ t;refine C7 (cr0 C hk hl (mg:=mg) (ac:=ac) (bc:=bc) hs L) `KG
      have:=go r t' h;cases r<;>exact `u
    ·obtain⟨o,na,nb,J,mg,ac,bc⟩:=c
     obtain⟨hs,e,L⟩:=hI;cases e;exact`KC
    ·obtain⟨o,na,nb,J,mg,ac,bc⟩:=c'
     obtain⟨hs,O⟩:=hI;cases o with
     | some r=>exact `KD
     | none=>exact `aC9
 ·exact `aC'
 ·obtain⟨o,na,nb,J,mg⟩:=c
  obtain⟨hs,r,e,O⟩:=hI;cases e;exact A2 (k _ _ hs O)
universe zz
theorem fc0(i:Nat):`_f=(do
 let s ← get
 let (`a (sa,na,power),`a (sb,nb,_)):=((`gh s)[i]?,(`gh s)[i+1]?)|`ahX "internal:list.sort.pending"
 set (`KR s (((`gh s).setIfInBounds i (sa,na+nb,power)).eraseIdxIfInBounds `a4))
 let `eG ← J7 `r (← `d0 `tp sb) `tp sa na 0|return `r
 let (sa,na):=(sa+k,`KN)
 if na==0 then return `b
 let `a nb ← J7 `b (← `d0 `tp (sa+na - 1)) `tp sb nb `e6|return `r
 if nb==0 then return `b
 let x:=`aDE sa sb
 let y:=`aDE sb (sb+nb)
 let merged ← if na<=nb then py0 x y else ps0 x y
 `Dk λs=>`Dz s (merged.toList.zipIdx.foldl `aDF `tp)
 return (`lu `ahW).isNone):=rfl
theorem T60{M:`xV}{A:`T}{s:`q}{σ:Type}{u:σ}{Q:PUnit->σ->Prop}{st:σ}(h:Q ⟨⟩ u):wpS M A E s (set u:`qG σ Sem PUnit) Q st:=by
 unfold wpS;rw[StateT.run_set];exact A1 ⟨rfl,h⟩
theorem put{sa:Nat}:∀(r:`bx) (n:Nat) (arr:`z) (Pr o S:`bx),`ah5=Pr++o++S->`zs=`am->Pr.length=sa+n->((r.zipIdx n).foldl `aDF arr).toList=Pr++r++S
 | [],n,arr,Pr,o,S,h,ho,hp=>by
  rw[`gl] at ho;rw[List.eq_nil_of_length_eq_zero ho] at h;exact h
 | p::r,n,arr,Pr,[],S,h,ho,hp=>by simp at ho
 | p::r,n,arr,Pr,q::o,S,h,ho,hp=>by
  rw[`JJ,`ta];have e:(arr.setIfInBounds (sa+n) p).toList=(Pr++[p])++o++S:=by
   rw[`aDG,h,← hp];simp
  rw[put r `b2 _ (Pr++[p]) o S e (by simpa using ho) `hm];simp
section
variable{P:`_}{w:`E}{A:`T}{s:`q}{b:`z}{κ:`fi}{cmp:`bY}(C:`o?){st:`an}
noncomputable def Asc(cmp:`bY)(l:`bx):Prop:=`aCr
theorem seg_at{arr:`z}{L0 l S:`bx}(h:`aDH)(hi:i<`b8):arr[`_g+i]?=`u3:=by
 rw[← `e7,h,`fD,`aDI,`yr,`f4 hi]
theorem al0{arr:`z}{L0 l S:`bx}(h:`aDH)(hi:i=`_g)(hj:j=i+`b8):(arr.extract i j).toList=l:=by
 subst hj;rw[V10,h,hi,`fD,`Z0,`Z_]
include C in
theorem Zk0(hg:Gn b κ st){sa pw sb nb pq:Nat}{L0 la lb S:`bx}(e1:(`nV)[i]?=`a `KS)(e2:(`nV)[i+1]?=`a `KT)(h:`aDJ=`_h)
  (h0:sa=`_g) (h1:`aDK) (h2:sb=sa+na) (h3:`aDL) (p1:0<na) (p2:0<nb) (s1:`aDM) (s2:`aDN) {Q:`_i}
  (k:∀t m,Gn b κ t->`ly=`_j->`KU=L0++m++S->`g4=na+nb->Asc cmp m->Q `b t):wpS `aA A E s (`_f) Q st:=by
 rw[fc0];refine `fT;rw[e1,e2];dsimp only;refine A3 (T60 ?_);obtain⟨u,hu⟩:∃u,u=`KR st (`_j):=`aM;rw[← hu];have uk:`e4 u=κ:=by rw[hu];exact hg.kd
 have ua:`h5 u=`gg:=by rw[hu]
 have uf:`lu u=`c:=by rw[hu];exact hg.fa
 have up:`gh u=`_j:=by rw[hu]
 have hT:∀x∈`_h,`fS:=λx hx=>(`aDO).mem_iff.mp (by rw[h];exact hx)
 have hN:(`_h).Nodup:=by
  rw[← h];exact(`aDO).nodup_iff.mpr C.nd
 have ma:∀x∈la,`fS:=`aDP
 have mb:∀x∈lb,`fS:=`aDP
 have a7:(la++lb).Nodup:=by
  refine Ds0 ?_ hN;rw[`fD L0 la lb];exact(Dt0 L0 `Ka).trans (Du0 _ S)
 have ne:∀x∈la,∀y∈lb,`C?:=λx hx y hy=>(A40.mp a7).2.2 x hx y hy
 obtain⟨b0,a8,eb⟩:∃b0 a8,lb=b0::a8:=by
  cases lb with
  | nil=>simp at h3;omega
  | cons x l=>exact⟨x,l,rfl⟩
 have b4:`lv[sb]?=`a b0:=by
  have:=`KV (arr:=`gg) (L0:=`Dw) (l:=lb) (S:=S) h (i:=0) `d;rw[`ad,`zt,← h0,← h1,← h2,eb] at this;exact `u
 have M:b0∈lb:=by rw[eb];exact A5
 rw[`cF,b4];refine A3 (A2 (A3 (l80 C uk `KW la `hC h1.symm (λx hx=>⟨ma x hx,ne x hx b0 M⟩) s1 p1 λl1 l2 hl hb ha=>?_)))
 ·have:=`KV (arr:=`gg) (L0:=L0) (l:=la) (S:=lb++S) (by rw[h];simp) (i:=i) `d
  rw[← h0] at this;exact `u
 dsimp only;have b5:na=`d1+`zo:=by rw[h1,hl,`ad]
 have a1:Asc cmp `Ka->Q `b u:=λz=>k _ `Ka ⟨uk,by rw[ua];exact hg.pm,uf⟩ up (by rw[ua,h];simp) (by rw[`ad,h1,h3]) z
 by_cases z1:(`KX==0)=`b
 ·rw[`J z1]
  have c5:`KX=0:=by simpa using z1
  have:l2=[]:=`ti;subst this;rw[`fb] at hl;subst hl;refine A2 (a1 ?_);refine `s3 ⟨s1,s2,`_k⟩;rw[eb] at hy;rcases `KY with rfl|a4
  ·exact `KZ
  ·rw[eb] at s2
   exact `ec x (ma x hx) b0 `KW y `aDQ (`KZ) `aDR
 rw[`V z1];have c3:=Q5 z1;have x2:l2≠[]:=λz=>by rw[z,`gl] at b5;omega
 have ml:`Dx∈l2:=List.getLast_mem x2;have J:∀x∈l2,`Kc:=λx hx=>by rw[hl];exact `Kd
 have b3:∀x∈l1,`Kc:=λx hx=>by rw[hl];exact `zj
 have a6:`lv[`Dy+(`KX) - 1]?=`aDS:=by
  have:=`KV (arr:=`gg) (L0:=`K_) (l:=l2) (S:=lb++S) `aDT (i:=`zo - 1) `d;rw[`ad,← h0,`aDU,← `aDV] at this;rw[← `u];congr 1;omega
 have o1:Asc cmp l1/\Asc cmp l2/\∀x∈l1,∀y∈l2,`gZ:=by
  have:=s1;rw[hl] at this;exact `aDW
 rw[`cF,a6];refine A3 (A2 (A3 (l80 C uk `_l lb `hC h3.symm (λx hx=>⟨mb x hx,λz=>ne _ `ah6 x hx `p9⟩) s2 `d λm1 m2 hm b2 a3=>?_)))
 ·have:=`KV (arr:=`gg) (L0:=`Dw) (l:=lb) (S:=S) h (i:=i) `d
  rw[`ad,← h0,← h1,← h2] at this;exact `u
 dsimp only;have c4:nb=`qQ+m2.length:=by rw[h3,hm,`ad]
 have c1:cmp b0 (`Dx)=`b:=ha _ ml
 by_cases z2:(`qQ==0)=`b
 ·exfalso
  have:m1=[]:=Q2 (by simpa using z2);subst this;have:=a3 b0 (by rw[`fK] at hm;rw[← hm];exact M);rw[C.as _ `KW _ `_l c1] at this;cases `u
 rw[`V z2];have c0:=Q5 z2;have o2:Asc cmp m1/\Asc cmp m2/\∀x∈m1,∀y∈m2,`gZ:=by
  have:=s2;rw[hm] at this;exact `aDW
 have a5:∀x∈m1,x∈lb:=λx hx=>by rw[hm];exact `zj
 have a0:∀x∈m2,x∈lb:=λx hx=>by rw[hm];exact `Kd
 obtain⟨Z,em⟩:∃Z,m1=b0::Z:=by
  cases m1 with
  | nil=>exact `L rfl c0
  | cons x l =>
   rw[eb] at hm;injection hm with hm _
   exact⟨l,by rw[hm]⟩
 have ex:(`aDX).toList=l2:=al0 (L0:=`K_) (S:=lb++S) `aDT (by rw[`ad,h0]) `d;have ey:(`aDY).toList=m1:=al0 (L0:=`Dw) (S:=m2++S) (by rw[h,hm];simp) (by rw[`ad,h2,h0,h1]) rfl;obtain⟨X,eX⟩:∃X,X=`aDX:=`aM;obtain⟨Y,eY⟩:∃Y,Y=`aDY:=`aM;rw[← eX] at ex ⊢;rw[← eY] at ey ⊢;have sX:`v4=`zo:=by rw[← ex,`bp]
 have sY:Y.size=`qQ:=by rw[← ey,`bp]
 have bl:∀x∈l1,∀y∈lb,`gZ:=λx hx y hy=>by
  rw[eb] at hy;rcases `KY with rfl|a4
  ·exact `KZ
  ·rw[eb] at s2
   exact `ec x (ma x (b3 x hx)) b0 `KW y `aDQ (`KZ) `aDR
 have b6:∀x∈l2,∀y∈m2,`gZ:=λx hx y hy=>by
  rw[← `aDZ] at hx;rcases `iL with O|O
  ·have o:=o1.2.1
   rw[← `aDZ] at o;have:=(N4.mp o).2.2 x O _ `ZT;exact `ec x (ma x (J x (List.dropLast_subset l2 O))) _ `_l y (mb y (a0 y hy)) `u (a3 y hy)
  ·rw[`fA] at O
   subst O;exact a3 y hy
 have fin:∀(r:`z) (t:`an),Sm u t->Md cmp (`_m) `v_->wpS `aA A E s (do
   `Dk λs=>`Dz s (`ah' `ah! `tp `ah?)
   let __do_lift ← get
   `ai (`lu __do_lift).isNone) Q t:=λr t hs hr=>by
  refine A3 (E8 (A3 (E3 `P!)));rw[ex,ey] at hr;have b1:r.toList.length=`zo+`qQ:=by rw[hr.pm.length_eq,`ad]
  have a2:∀x,x∈`v_->x∈l2∨x∈m1:=λx hx=>`db (hr.pm.mem_iff.mp hx)
  have ep:=put (sa:=`Dy) `v_ 0 `b3 (`K_) (l2++m1) (m2++S) (by rw[hs.ar,ua,h,hl,hm];simp) (by rw[b1,`ad]) (by rw[`ad,h0];rfl);have ef:`aD_=`b:=by
   show (`lu t).isNone=`b;rw[hs.fa,uf];rfl
  show Q `aD_ _;rw[ef];refine k _ (l1++`v_++m2) ⟨`ah_ uk,?_,hs.fa.trans uf⟩ (hs.pe.trans up) ?_ ?_ ?_
  ·refine Array.Perm.trans ?_ hg.pm
   rw[Array.perm_iff_toList_perm];show (`aia).toList.Perm _;refine(`aD0 ep).trans ?_;rw[h,hl,hm];have:=(hr.pm.append_left (`K_)).append_right (m2++S);refine this.trans (`aD0 `Q)
  ·refine ep.trans `Q
  ·rw[`ad,`ad,b1];omega
  ·refine `s3 ⟨`s3 ⟨o1.1,hr.so,`_k⟩,o2.2.1,`_k⟩
   ·rcases a2 y hy with q|q
    ·exact o1.2.2 x hx y q
    ·exact bl x hx y (a5 y q)
   ·rcases `iL with q|q
    ·exact bl x q y (a0 y hy)
    ·rcases a2 x q with q|q
     ·exact b6 x q y hy
     ·exact o2.2.2 x q y hy
 have mT:∀x∈`_m,`fS:=λx hx=>by
  rw[ex,ey] at hx;rcases `iL with q|q
  ·exact ma x (J x q)
  ·exact mb x (a5 x q)
 have nT:(`_m).Nodup:=by
  rw[ex,ey];refine Ds0 ?_ a7;rw[hl,hm];exact(Dt0 l1 l2).append (Du0 m1 m2)
 have y0:Y[0]'`d=b0:=by
  have:`ah9[0]?=`a b0:=by rw[ey,em];rfl
  rw[`e7,`dE Y 0 `d] at this;injection this
 have xl:X[`DA]'`d=`Dx:=by
  have:`ah8[`v4 - 1]?=`aDS:=by rw[ex,sX,`aDU,← `aDV]
  rw[`e7,`aD1] at this;injection this
 by_cases hle:`KX<=`qQ
 ·rw[`J hle]
  refine A3 (mergeLo C uk ?_ `d `d `aD2 fin)
  ·intro z hz x hx
   rw[`aD1,xl] at hx;cases hx;rw[ey] at hz;exact b2 z hz
  ·rw[y0,ex,ey,em]
   show (b0::(l2++Z)).Perm (l2++b0::Z);exact List.perm_middle.symm
  ·rw[y0,ex]
   exact A30.mpr ⟨λx hx=>ha x hx,o1.2.1⟩
  ·rw[y0,ey,em]
   rw[em] at o2;exact o2.1
 ·rw[`V hle]
  refine A3 (mergeHi C uk ?_ `d `d `aD2 fin)
  ·intro z hz x hx
   rw[`dE Y _ `d,y0] at hx;cases hx;rw[ex] at hz;exact ha z hz
  ·have:[X[`DA]]++(`aD3++`aD4)=`aD5++`aD4:=by
    rw[`aD6];rfl
   rw[`u];unfold rt;rw[`zn,`zn];exact(Dw0 _).append (Dw0 _)
  ·have:[X[`DA]]++`aD3=`aD5:=by
    rw[`aD6];rfl
   rw[`u];unfold rt;rw[`zn,ex];exact l6.mpr o1.2.1
  ·rw[xl]
   unfold rt;rw[`zn,ey];refine A30.mpr ⟨λx hx=>b2 x `ah3,l6.mpr o2.1⟩
universe zz
section
variable{P:`_}{w:`E}{A:`T}{s:`q}{b:`z}{κ:`fi}{cmp:`bY}
structure Ro(b:`z)(κ:`fi)(st:`an)(o:Nat)(t:`an):Prop where
 kd:`e4 t=κ
 pm:`_n b
 fa:`_o
 pe:`aCt
 ke:∀i,i<o->`Qr=`lv[i]?
theorem Ro.sz{st t:`an}{o:Nat}(h:`fV):`zu=`a8:=`aBv
theorem Ro.el{st t:`an}{o:Nat}(h:`fV)(hi:i<`a8):∃x,`K0/\`fS:=by
 have J:i<`zu:=by rw[h.sz];exact hi
 exact⟨`_p,D7 _ i J,`ZC⟩
theorem Ro.mem{st t:`an}{o:Nat}(h:`fV){x:`bH}(e:`K0):`fS:=by
 obtain⟨hi,rfl⟩:=`JX e;exact`ZC
theorem Ro.ne{st t:`an}{o:Nat}(h:`fV)(hn:`ZA){x y:`bH}(e1:`K0)(e2:`aD7)(hij:i<j):`C?:=by
 have J:(`jQ).toList.Nodup:=(X0.mp `nU).nodup_iff.mpr hn;obtain⟨h1,rfl⟩:=`JX e1;obtain⟨h2,rfl⟩:=`JX e2;have:=`o! J i j `xD `xE hij
 simpa using `u
noncomputable def UpO(cmp:`bY)(xs:`z)(o n:Nat):Prop:=∀i j x y,i<j->j<n->`aD8->`aD9->`gZ
noncomputable def DnO(cmp:`bY)(xs:`z)(o n:Nat):Prop:=∀i j x y,i<j->j<n->`aD8->`aD9->`Da=`b
variable(C:`o?){st:`an}{o:Nat}
include C
theorem qk0{t:`an}(hr:`fV){x y:`bH}(ei:`K0)(ej:`aD7){Q:`td}(k:Q (`a (cmp x y)) t):wpS `aA A E s `ahP Q t:=by
 rw[ltAt'_eq];refine `fT;show wpS _ _ _ _ (`d0 `b3 i>>=λx=>`d0 `b3 j>>=λy=>`ZF) Q t;rw[`cF,`cF,ei,ej];exact A3 (A2 (A3 (A2 (`Dt _ _ _ _ hr.kd (`v6 ei) (`v6 ej) k))))
theorem ho0{t:`an}(hr:`fV)(h1:1<=n)(h:`K1){u v:`bH}(eu:`_q)(ev:`_r)(huv:cmp u v=`b):UpO cmp `b3 o `b2:=λi j x y J hj ex ey=>by
 by_cases hjn:j<n
 ·exact `aD'
 ·have:j=n:=`h
  subst this;rw[ev] at ey;cases ey;rw[`zv] at eu
  by_cases hi:i=j - 1
  ·subst hi;rw[eu] at ex;cases ex;exact huv
  ·exact `ec x `aD! u `aD? v `aEa `aEb huv
theorem W20{t:`an}(hr:`fV)(h1:1<=n)(h:DnO cmp `b3 o n){u v:`bH}(eu:`_q)(ev:`_r)(huv:`tq=`b):DnO cmp `b3 o `b2:=λi j x y J hj ex ey=>by
 by_cases hjn:j<n
 ·exact `aD'
 ·have:j=n:=`h
  subst this;rw[ev] at ey;cases ey;rw[`zv] at eu
  by_cases hi:i=j - 1
  ·subst hi;rw[eu] at ex;cases ex;exact huv
  ·exact `ec v `aEa u `aD? x `aD! huv `aEb
theorem N60{t:`an}(hr:`fV)(hm:o+m<=`a8)(h1:1<=m){Q:`ZQ}
  (k:∀r t,`fV->1<=r->r<=m->UpO cmp `b3 o r->Q (`di) t):wpS `aA A E s (countRun' o m) Q t:=by
 rw[countRun'_eq];dsimp only;refine A3 (C7 (D5 (I:=λx c t'=>t'=t/\`aEc/\UpO cmp `b3 o x)
  (Q:=λc t'=>t'=t/\∃n,`aEd/\1<=n/\n<=m/\`K1/\(n=m∨∃u v,`_q/\`_r/\`tq=`b)) `aEe (`K2) ⟨rfl,rfl,λi j x y a c _ _=>`h⟩) `K2)
 ·obtain⟨e1,e2,J⟩:=hI
  subst e1;subst e2;obtain⟨v,ev,mv⟩:=`aEf;obtain⟨u,eu,mu⟩:=`aEg;refine `aEh;cases hc:`tq with
  | true=>exact A2 ⟨rfl,x,rfl,M,`h,J,`i ⟨u,v,eu,ev,hc⟩⟩
  | false=>exact A2 ⟨rfl,rfl,ho0 C hr `d J eu ev (`aEi)⟩
 ·obtain⟨e1,e2,J⟩:=hI
  subst e1;subst e2;have e:max 1 m=m:=`h
  rw[e] at J ⊢;exact⟨rfl,m,rfl,h1,`eN,J,`bL⟩
 obtain⟨e1,n,e2,n1,n2,hu,a2⟩:=hI;subst e1;subst e2;dsimp only
 by_cases hnm:n=m
 ·rw[`J (by rw[hnm];simp)]
  exact `aEj
 rw[`V (by simpa using hnm)];obtain⟨u,v,eu,ev,hc⟩:=a2.resolve_left hnm
 by_cases hg1:n > 1
 ·rw[`J hg1]
  obtain⟨x,ex,mx⟩:=hr.el (i:=o) `d;refine A3 (qk0 C hr ex eu ?_);rw[hu 0 (`tm) x u `d `d ex (by rw[← eu];congr 1;omega)];exact `aEj
 rw[`V hg1];have:n=1:=`h
 subst this;refine `tj;have d2:DnO cmp `_s o (1+1):=λi j x y a1 hj ex ey=>by
  have hi:i=0:=`h
  have a4:j=1:=`h
  subst hi;subst a4;rw[show o+1 - 1=o+0 by omega,ex] at eu;rw[ey] at ev;cases eu;cases ev;exact hc
 refine A3 (C7 (D5 (I:=λx c t=>t=t'/\c=(`c,x,0)/\DnO cmp `_s o x)
  (Q:=λc t=>t=t'/\∃n,c=(`c,n,0)/\2<=n/\n<=m/\DnO cmp `_s o n) (λx c t M Z hI=>?_) `fU ⟨rfl,rfl,d2⟩) `g0)
 ·obtain⟨e1,e2,J⟩:=hI
  subst e1;subst e2;obtain⟨v,ev,mv⟩:=`aEf;obtain⟨u,eu,mu⟩:=`aEg;refine `aEh;cases hc:`tq with
  | true =>
   dsimp only;rw[`aY,`eL];exact A2 ⟨rfl,rfl,W20 C hr `d J eu ev hc⟩
  | false =>
   dsimp only;rw[`a7];refine A3 (qk0 C hr eu ev ?_);rw[`aEi];exact `aEk
 ·obtain⟨e1,e2,J⟩:=hI
  subst e1;subst e2;have e:max (1+1) m=m:=`h
  rw[e] at J ⊢;exact⟨rfl,m,rfl,`h,`eN,J⟩
 obtain⟨e1,n,e2,n1,n2,hd⟩:=hI;subst e1;subst e2;dsimp only;rw[`eL,reverseSlice'_eq];refine `Z9;have a0:o+n<=`zu:=by rw[hr.sz];omega
 have at_:∀i,`v7[i]?=if o<=i/\i<o+n then `b3[o+(o+n) - 1 - i]? else `Qr:=λi=>by
  rw[getElem?_mirror_all a0]
 have g2:Ro b κ st o (`_t):=⟨hr.kd,(mirror_perm _ _ _ _).trans hr.pm,hr.fa,hr.pe,λi hi=>by
  show `v7[i]?=_;rw[at_,`eL];exact hr.ke i hi⟩
 obtain⟨t2,O⟩:∃t2,t2=`_t:=`aM;show wpS _ _ _ _ _ _ (`_t);rw[← O] at g2 ⊢;have a3:`aEl:=λi j x y a1 hj ex ey=>by
  rw[O] at ex ey;have ex:`v7[o+i]?=`aQ:=ex;have ey:`v7[o+j]?=`bA:=ey;rw[at_,`tr] at ex ey;exact hd (`tm - j) (`tm - i) y x `d `d (by rw[← ey];congr 1;omega) (by rw[← ex];congr 1;omega)
 refine A3 (C7 (D5 (I:=λx c t'=>t'=t2/\`aEc/\UpO cmp `v8 o x)
  (Q:=λc t'=>t'=t2/\∃n,`aEd/\1<=n/\n<=m/\`aEl) `aEe (`K2) ⟨rfl,rfl,a3⟩) `K2)
 ·obtain⟨e1,e2,J⟩:=hI
  subst e1;subst e2;obtain⟨v,ev,mv⟩:=g2.el (i:=o+x) `d;obtain⟨u,eu,mu⟩:=g2.el (i:=o+x - 1) `d;refine `aEm;cases hc:`tq with
  | true=>exact `aEk
  | false=>exact A2 ⟨rfl,rfl,ho0 C g2 `d J eu ev (`aEn)⟩
 ·obtain⟨e1,e2,J⟩:=hI
  subst e1;subst e2;have e:max n m=m:=`h
  rw[e] at J ⊢;exact⟨rfl,m,rfl,h1,`eN,J⟩
 obtain⟨e1,n,e2,n1,n2,hu⟩:=hI;subst e1;subst e2;exact A2 (k n _ g2 n1 n2 hu)
theorem Nf0{a:Nat}{t:`an}(hr:`fV)(hn:o+n<=`a8)(ha:a<=n)(hu:UpO cmp `b3 o a){Q:`_i}
  (k:∀t,`fV->`K1->Q `b t):wpS `aA A E s (binarySort' o n a) Q t:=by
 rw[binarySort'_eq];refine A3 (C7 (D5 (I:=λx c t=>`v9/\`fV/\UpO cmp `b3 o (min x n)) (Q:=λc t=>`v9/\`fV/\`K1) (λx c t a4 a3 hI=>?_) `fU ⟨rfl,hr,?_⟩) `g0)
 ·obtain⟨e1,g2,u2⟩:=hI
  subst e1;have ex:min x n=x:=`h
  rw[ex] at u2;have hx:o+x<`a8:=`h
  obtain⟨v,ev,mv⟩:=g2.el hx;refine A3 (C7 (D5 (I:=λy c t2=>t2=t/\∃l r,`aEo/\l<=r/\r<=x/\r - l<=x - y/\`aEp/\∀i z,r<=i->`aEq)
   (Q:=λc t2=>t2=t/\∃l r,`aEo/\l<=x/\`aEp/\∀i z,l<=i->`aEq) (λy c t2 _ a1 hJ=>?_) (`aEr)
   ⟨rfl,0,x,rfl,`h,`h,`h,λi z hi=>`h,λi z h1 h2=>`h⟩) `aEr)
  ·obtain⟨e1,l,r,e2,a0,M,hm,lo,hi⟩:=hJ
   subst e1;subst e2;dsimp only
   by_cases hge:l ≥ r
   ·rw[`zg]
    have:l=r:=`h
    subst this;exact A2 `aEs
   ·rw[`zh]
    obtain⟨u,eu,mu⟩:=g2.el (i:=o+`zw) `d;refine `aEm;cases hc:`tq with
    | true =>
     refine A2 ⟨rfl,l,`zw,rfl,`h,`h,`h,lo,λi z h1 h2 ez=>?_⟩
     by_cases q:i=`zw
     ·subst q;rw[eu] at ez;cases ez;exact hc
     ·exact `ec v mv u mu z `aEt hc (u2 _ i u z `d `d eu ez)
    | false =>
     have O:=`aEn;refine A2 ⟨rfl,`zw+1,r,rfl,`h,`h,`h,λi z h1 ez=>?_,hi⟩
     by_cases q:i=`zw
     ·subst q;rw[eu] at ez;cases ez;exact O
     ·exact `ec z `aEt u mu v mv (u2 i _ z u `d `d ez eu) O
  ·obtain⟨e1,l,r,e2,a0,M,hm,lo,hi⟩:=hJ
   subst e1;subst e2;have:l=r:=`h
   subst this;exact`aEs
  ·obtain⟨e1,l,r,e2,a2,lo,hi⟩:=hJ
   subst e1;subst e2;show wpS _ _ _ _ (do moveDown' (o+x) (o+l);`ai (`np `aib)) _ _;rw[moveDown'_eq];have Z:o+x<(`h5 t2).size:=by rw[g2.sz];exact hx
   have at_:∀i,`aEu=if i=o+l then `a3 else if o+l<i/\i<=o+x then `v8[i - 1]? else `v8[i]?:=λi=>by
    rw[getElem?_bubble Z _ `d,show o+x - `aid=o+l by omega,ev]
   refine A3 (E8 (A2 ⟨rfl,⟨g2.kd,(bubble_perm _ _ _).trans g2.pm,g2.fa,g2.pe,`qL⟩,?_⟩))
   ·show `aEu=_
    rw[at_,`eL,`eL];exact g2.ke i hi
   have e3:min (x+1) n=x+1:=`h
   rw[e3];intro i j y z J hj ey ez;have ey:`Qs[o+i]?=`bA:=ey;have ez:`Qs[o+j]?=`n0:=ez;rw[at_] at ey ez
   by_cases q1:j=l
   ·rw[`tr] at ez
    rw[`eL,`eL] at ey;cases ez;exact lo i y `d ey
   ·rw[`eL] at ez
    by_cases q2:i=l
    ·rw[`tr] at ey
     rw[`K3,`zv] at ez;cases ey;exact hi `v5 z `d `d ez
    ·rw[`eL] at ey
     by_cases q3:l<i
     ·rw[`K3,show o+i - 1=o+(i - 1) by omega] at ey
      rw[`K3,`zv] at ez;exact u2 (i - 1) `v5 y z `d `d ey ez
     ·rw[`eL] at ey
      by_cases q4:l<j
      ·rw[`K3,`zv] at ez
       exact u2 i `v5 y z `d `d ey ez
      ·rw[`eL] at ez
       exact u2 i j y z J `d ey ez
 ·obtain⟨hc,g2,u2⟩:=hI
  refine⟨hc,g2,?_⟩
  rwa [show min (max (max a 1) n) n=n by omega] at u2
 ·intro i j x y J hj ex ey
  exact hu i j x y J `d ex ey
 ·obtain⟨e1,g2,u2⟩:=hI
  subst e1;exact A2 (k t g2 u2)
universe zz
noncomputable def Rn(cmp:`bY):Nat->`zx->`zy->Prop
 | _,[],[]=>`fc
 | o,`iU,`zz=>p.1=o/\p.2.1=`am/\0<`am/\`K4/\Rn cmp (o+`am) ps rs
 | _,_,_=>`bM
section
variable{cmp:`bY}
theorem Sw0{p:Prop}[`mD p]{k:Nat}(h1:m+1<k)(h2:n+1<k):(if p then m else n)+1<k:=by split<;>assumption
theorem i10:∀{ps:`zx} {rs:`zy} {o:Nat},`K5->`P=`ON/\`P<=`_u
 | [],[],_,_=>⟨rfl,`eW⟩
 | `iU,`zz,o,h=>by
  obtain⟨_,_,h3,_,h5⟩:=h;obtain⟨i1,i2⟩:=i10 h5;refine⟨by rw[`a0,`a0,i1],?_⟩;rw[`zA,`ad,`a0];omega
 | [],`bh,_,h=>`cE
 | `bh,[],_,h=>`cE
theorem ce0:∀{i:Nat} {ps:`zx} {rs:`zy} {o:Nat},`K5->i+1<`P ->
  ∃ps1 sa na pw sb nb pq ps2 rs1 la lb rs2,ps=ps1++`KS::`KT::ps2/\ps1.length=i/\rs=rs1++la::lb::rs2/\sa=o+rs1.flatten.length/\`aDK/\sb=sa+na/\`aDL/\0<na/\0<nb/\`aDM/\`aDN /\
   ∀m:`bx,Asc cmp m->`g4=na+nb->Rn cmp o (ps1++`Qq::ps2) (rs1++m::rs2)
 | 0,`KS::`KT::ps,la::lb::rs,o,h,_=>by
  obtain⟨h1,h2,h3,h4,g1,g2,g3,g4,g5⟩:=h;dsimp only at h1 h2 g1 g2;subst h1;subst h2;subst g1;subst g2;refine⟨[],_,_,pw,_,_,pq,ps,[],la,lb,rs,rfl,rfl,rfl,rfl,rfl,rfl,rfl,h3,g3,h4,g4,λm hm hl=>?_⟩;refine⟨rfl,hl.symm,`h,hm,?_⟩;rw[hl,← `AN];exact g5
 | i+1,`iU,`zz,o,h,hi=>by
  obtain⟨h1,h2,h3,h4,h5⟩:=h;obtain⟨ps1,sa,na,pw,sb,nb,pq,ps2,rs1,la,lb,rs2,e1,e2,e3,e4,e5,e6,e7,e8,e9,f1,f2,k⟩:=ce0 (i:=i) h5 `ne;subst e1;subst e3;refine⟨p::ps1,sa,na,pw,sb,nb,pq,ps2,r::rs1,la,lb,rs2,rfl,by rw[`a0,e2],rfl,?_,e5,e6,e7,e8,e9,f1,f2,λm hm hl=>⟨h1,h2,h3,h4,k m hm hl⟩⟩;rw[e4,`zA,`ad];omega
 | _,[],[],_,_,hi=>`aEv
 | _,[_],_,_,_,hi=>`aEv
 | _,[],`bh,_,h,_=>`cE
 | _,`bh,[],_,h,_=>`cE
 | 0,`JT,[_],_,h,_=>h.2.2.2.2.elim
theorem Wz0:∀{ps:`zx} {rs:`zy} {o:Nat} (k pw:Nat),`K5->Rn cmp o (ps.modify k λq=>(q.1,`pA,pw)) rs
 | [],_,_,k,pw,h=>by rw[List.modify_nil];exact h
 | `iU,`zz,o,0,pw,h=>h
 | `iU,`zz,o,k+1,pw,h=>⟨h.1,`zB,h.2.2.1,h.2.2.2.1,Wz0 k pw h.2.2.2.2⟩
 | `bh,[],_,_,_,h=>`cE
theorem fq0:∀{ps:`zx} {rs:`zy} {o:Nat} {r:`bx} {pw:Nat},`K5->0<`am->`K4->Rn cmp o (ps++[(o+`_u,`am,pw)]) (rs++[r])
 | [],[],o,r,pw,_,h1,h2=>⟨rfl,rfl,h1,h2,`ku⟩
 | `iU,q::rs,o,r,pw,h,h1,h2=>by
  have:=fq0 (pw:=pw) h.2.2.2.2 h1 h2;refine⟨h.1,`zB,h.2.2.1,h.2.2.2.1,?_⟩;rw[`zA,`ad,← `AN];exact `u
 | [],`bh,_,_,_,h,_,_=>`cE
 | `bh,[],_,_,_,h,_,_=>`cE
universe zz
section
variable{P:`_}{w:`E}{A:`T}{s:`q}{b:`z}{κ:`fi}{cmp:`bY}
structure Sv(b:`z)(κ:`fi)(cmp:`bY)(rest:`bx)(lo:Nat)(t:`an):Prop where
 gn:Gn b κ t
 rn:∃rs,`KU=`aEw++`bB/\`_u=lo/\Rn cmp 0 `aEx rs
variable(C:`o?)
include C
theorem sz0{rest:`bx}{lo:Nat}{t:`an}(h:`aEy)(hi:i+1<`n2){Q:`_i}
  (k:∀t',Sv b κ cmp `bB lo t'->(`gh t').size+1=`n2->Q `b t'):wpS `aA A E s (`_f) Q t:=by
 obtain⟨rs,e1,e2,e3⟩:=h.rn;obtain⟨O,sa,na,pw,sb,nb,pq,Z,M,la,lb,J,f1,f2,f3,f4,f5,f6,f7,f8,f9,g1,g2,kk⟩:=ce0 e3 `ne;rw[`bd] at f4;subst f3;have q1:(`ly)[i]?=`a `KS:=by
  rw[← `e7,f1,← f2];simp
 have q2:(`ly)[i+1]?=`a `KT:=by
  rw[← `e7,f1,← f2,`aDI,`yr];rfl
 refine Zk0 C h.gn q1 q2 (L0:=M.flatten) (la:=la) (lb:=lb) (S:=J.flatten++`bB) (by rw[e1];simp) f4 f5 f6 f7 f8 f9 g1 g2 λt' m gn pe ar ml ma=>?_
 have pl:(`gh t').toList=O++`Qq::Z:=by
  rw[pe,Array.toList_eraseIdxIfInBounds,`aDG,f1,← f2];simp only[List.set_append_right _ _ `aV,`TO,`XH];rw[List.eraseIdx_append_of_length_le `d,`yr];rfl
 refine k t' ⟨gn,M++m::J,by rw[ar];simp,?_,by rw[pl];exact kk m ma ml⟩ ?_
 ·rw[← e2]
  simp only[List.flatten_append,`zA,`ad];omega
 ·rw[← `bp,pl,← `bp,f1]
  simp only[`ad,`a0];omega
theorem Pz0{st:`an}{Q:Unit->`vP}(hk:`mK)(hp:`Zw)(hf:`Zx)(he:`nV=#[])(h2:2<=`a8)
  (k:∀t,`_n b->`_o->Up cmp `b3 `a8->Q () t):wpS `aA A E s sortRuns' Q st:=by
 rw[sortRuns'_eq];refine `fT;dsimp only;rw[show (`gg).size=`a8 from `aEz];have S0:Sv b κ cmp `aDJ 0 st:=⟨⟨hk,hp,hf⟩,[],rfl,rfl,by rw[he];trivial⟩;refine A3 (C7 (D5 (I:=λx c t=>∃lo rest,c=(`c,lo)/\x<=lo/\lo<=`a8/\`aEy)
  (Q:=λc t=>c=(`c,`a8)/\∃rest,`_v) `pa `fU ⟨0,_,rfl,A4 0,`eW,S0⟩) `g0)
 ·obtain⟨lo,rest,e1,a8,a7,S⟩:=hI
  subst e1;dsimp only
  by_cases hge:lo ≥ b.size
  ·rw[`zg]
   have:lo=`a8:=`h
   subst this;exact A2 ⟨rfl,`bB,S⟩
  rw[`zh];have hr:Ro b κ t lo t:=⟨S.gn.kd,S.gn.pm,S.gn.fa,rfl,λi _=>rfl⟩;refine A3 (N60 C hr (m:=`aEA) `d `d λM t2 a4 r1 r2 u2=>?_);dsimp only;have a0:∀(n:Nat) (t3:`an),Ro b κ t lo t3->UpO cmp (`n1) lo n->1<=n->`aEB->∃r J,Sv b κ cmp `Qu lo t3/\`am=n/\`K4:=λn t3 O u3 n1 n2=>by
   obtain⟨rs,e1,e2,e3⟩:=S.rn;have a3:(`n1).toList.length=`a8:=by rw[`bp];exact O.sz
   have a6:(`n1).toList.take lo=`aEw:=by
    refine `K6
    by_cases hi:i<lo
    ·rw[`_e,`e7,O.ke i hi,← `e7,e1,`aEC]
    ·rw[`jm `_w,`jm `d]
   refine⟨`aif,(`aie).drop n,⟨⟨O.kd,O.pm,O.fa⟩,rs,?_,e2,by rw[O.pe];exact e3⟩,?_,?_⟩
   ·rw[`zk,← a6,`zk]
   ·rw[`ck,`fg,a3];omega
   ·refine `P? λi j hi hj Z=>?_
    rw[`ck,`fg,a3] at hi hj;have ei:(`n1)[lo+i]?=`a `aED[i]:=by
     rw[`ZU,`ZV,← `e7];exact D7 `aEE (lo+i) _
    have ej:(`n1)[lo+j]?=`a `aED[j]:=by
     rw[`ZU,`ZV,← `e7];exact D7 `aEE (lo+j) _
    exact u3 i j _ _ Z `d ei ej
  have push:∀(n:Nat) (t4:`an) (r J:`bx),Sv b κ cmp `Qu lo t4->`am=n->`K4->1<=n->Sv b κ cmp J (lo+n) (`KR t4 (`aEF)):=λn t4 r J S4 hl ha n1=>by
   obtain⟨rs,e1,e2,e3⟩:=S4.rn;refine⟨`aEG,rs++[r],?_,?_,?_⟩
   ·show (`h5 t4).toList=_
    rw[e1];simp
   ·rw[← e2,← hl];simp
   ·show Rn cmp 0 (`aEF).toList _
    rw[`iT];have:=fq0 (pw:=0) e3 (r:=r) `d ha;rw[`bd,e2,hl] at this;exact `u
  have a5:∀(rest:`bx) (t4:`an) (i pw:Nat),Sv b κ cmp `bB lo t4->Sv b κ cmp `bB lo (`KR t4 (`aEH)):=λrest t4 i pw S4=>by
   obtain⟨rs,e1,e2,e3⟩:=S4.rn;refine⟨`aEG,rs,e1,e2,?_⟩;show Rn cmp 0 (`aEH).toList _;rw[Array.toList_modify];exact Wz0 i pw e3
  by_cases hlt:M<`aEI
  ·rw[`J hlt]
   refine `tj;refine A3 (Nf0 C a4 `d `d u2 λt3 O u3=>?_);simp only[`rV,`eD,`cB];obtain⟨n,hn⟩:∃n,n=min (`aEA) (`aEI):=`aM;rw[← hn] at u3 ⊢;have n1:1<=n:=`h
   have n2:`aEB:=`h
   clear hn;obtain⟨r,J,S3,hl,ha⟩:=a0 n t3 O u3 n1 n2;refine `fT;cases hb:(`gh t3).back? with
   | none=>exact A3 (E8 (A2 ⟨lo+n,J,rfl,`h,`h,push n t3 r J S3 hl ha n1⟩))
   | some q =>
    obtain⟨s1,n3,pw⟩:=q;dsimp only;refine `aEJ
    ·obtain⟨e1,S4⟩:=hJ
     subst e1;refine `fT
     by_cases h1:`aEK
     ·rw[`oT]
      cases hq:`aEL with
      | none=>exact `ts
      | some q =>
       obtain⟨q1,q2,a2⟩:=q;dsimp only;split
       ·exact `ts
       ·exact `aEM
     ·rw[`Hi]
      exact `ts
    ·obtain⟨e1,S4⟩:=hJ
     subst e1;exact A3 (E8 (A3 (E8 (A2 ⟨lo+n,J,rfl,`h,`h,push n _ r J (a5 _ _ _ _ S4) hl ha n1⟩))))
  ·rw[`V hlt]
   have n1:=r1;have n2:lo+M<=`a8:=`h
   obtain⟨r,J,S3,hl,ha⟩:=a0 M t2 a4 u2 n1 n2;refine `fT;cases hb:(`gh t2).back? with
   | none=>exact A3 (E8 (A2 ⟨lo+M,J,rfl,`h,`h,push M t2 r J S3 hl ha n1⟩))
   | some q =>
    obtain⟨s1,n3,pw⟩:=q;dsimp only;refine `aEJ
    ·obtain⟨e1,S4⟩:=hJ
     subst e1;refine `fT
     by_cases h1:`aEK
     ·rw[`oT]
      cases hq:`aEL with
      | none=>exact `ts
      | some q =>
       obtain⟨q1,q2,a2⟩:=q;dsimp only;split
       ·exact `ts
       ·exact `aEM
     ·rw[`Hi]
      exact `ts
    ·obtain⟨e1,S4⟩:=hJ
     subst e1;exact A3 (E8 (A3 (E8 (A2 ⟨lo+M,J,rfl,`h,`h,push M _ r J (a5 _ _ _ _ S4) hl ha n1⟩))))
 ·obtain⟨lo,rest,e1,a8,a7,S⟩:=hI
  have:lo=`a8:=`h
  subst this;exact⟨e1,`bB,S⟩
 ·obtain⟨e1,rest,S⟩:=hI
  subst e1;dsimp only;have b2:`n2<=`a8:=by
   obtain⟨rs,e1,e2,e3⟩:=S.rn;have:=i10 e3;rw[`bp,e2] at this;exact this.2
  refine A3 (C7 (D5 (I:=λx c t=>`v9/\`_v/\`n2<=max 1 (`a8 - x))
   (Q:=λc t=>`v9/\`_v/\`n2<=1) `pa `fU ⟨rfl,S,`h⟩) `g0)
  ·obtain⟨e1,S,hz⟩:=hI
   subst e1;refine `fT
   by_cases hle:`n2<=1
   ·rw[`J hle]
    exact A2 ⟨rfl,S,hle⟩
   rw[`V hle];refine A3 (sz0 C S ?_ λt' S' b3=>?_)
   ·exact Sw0 `d `d
   ·exact A2 ⟨rfl,S',`h⟩
  ·obtain⟨e1,S,hz⟩:=hI
   exact⟨e1,S,`h⟩
  ·obtain⟨e1,S,hz⟩:=hI
   subst e1;refine A2 (k t S.gn.pm S.gn.fa ?_);obtain⟨rs,e1,e2,e3⟩:=S.rn;have hl:=(i10 e3).1;rw[`bp] at hl;have a1:`bB=[]:=by
    have:=D9 `wM e1;rw[`ad,e2,`bp,S.gn.pm.size_eq] at this;exact `ti
   subst a1;rw[`fb] at e1;have ha:Asc cmp `KU:=by
    match rs,e1,e3,hl with
    | [],e1,_,_=>rw[e1];exact `Hu
    | [r],e1,e3,_ =>
     rw[e1]
     match hq:`aEx,e3 with
     | `iU,e3=>simpa using e3.2.2.2.1
     | [],e3=>exact e3.elim
    | `JT,_,_,hl=>simp at hl;omega
   intro i j x y Z hj ex ey;rw[← `e7] at ex ey;obtain⟨b0,rfl⟩:=`cK ex;obtain⟨b1,rfl⟩:=`cK ey;exact `o! ha i j b0 b1 Z
universe zz
section
variable{P:`_}{w:`E}{A:`T}{s:`q}
theorem cnP(hv:`JZ)(f:`X):Cn P w A E s (`Dc) `Db (up0 `W):=by
 have C:=cpP (P:=P) (w:=w) (A:=A) (E:=E) hv f;refine⟨λst x y Q hk hx hy k=>?_,C.nd,`ec,`qN,λx _ y _ h=>?_⟩
 ·have el:∀x∈`ZG,x.1∈vs:=λx hx=>by
   rw[`J_] at hx;obtain⟨i,hi,e⟩:=`J0;rw[`iW] at e;rw[← e];exact C0 _
  obtain⟨q,hq⟩:=hv.all _ (`ZH);obtain⟨r,hr⟩:=hv.all _ (el y hy);unfold up0 at k;rw[tp0 hq,tp0 hr] at k;rw[lt'_eq];refine `fT;rw[hk];exact `aBG
 ·unfold up0 at *
  cases e:lt2 (`vS) (`vT) with
  | false=>rfl
  | true=>rw[tf0] at *;omega
theorem Rm0{F:`F7}(ho:`i9=`a (`qR `cX `gS n))(hv:`JZ)(h64:`IL)
  (h:∀out:`aZ,`_x->`K7->F `aEN { s with heap:=sortedHeap `W a vs out }) :
  `g `aA A (Builtin.«list.sort» `BB) F E s:=by
 rw[list_sort_plain];have la:a<`O:=A7 ho;obtain⟨ep,hu⟩:∃ep,(`Qv).get? a=`aEO:=⟨_,get?_update_seq ho (`DE)⟩;refine A0 (A20 ho rfl (A0 (`_y ho rfl (A0 (`_z hu rfl (A0 (x5 (A0 (`aEP (`h4))))))))));obtain⟨g,J⟩:∃g,g=`aEQ:=`aM;have a8:a≠(`Qv).objs.size:=by rw[`aER];exact B1 la
 have h6:`Qw a=`aEO:=by
  rw[J,`aES _ _ _ (by rw[size_push',`aER];exact B1 (i0 la)),`aES _ _ _ a8];exact hu
 have kp:∀c o,`qt->`mX->`aET:=λc o e1 e2=>by
  have a7:c≠a:=λz=>by
   subst z;rw[ho] at e1;cases e1;have e3:`X'=`X! := e2;injection e3 with e3
   exact `L e3 `l
  rw[J];exact B0 _ (B0 _ (by rw[Heap.get?_update_ne _ _ _ _ a7];exact e1))
 obtain⟨Z,a5⟩:=hv.to kp;show `g `aA A _ F E { s with heap:=`aEQ };rw[← J];dsimp only;have a6:`aEU=`bm:=`a!
 have fin:∀out:`aZ,`_x->`K7->F `aEN { s with heap:=g.update a (`fB λ_=>out) }:=λout p1 p2=>by
  rw[J];exact h out p1 p2
 by_cases h2:`aEU<2
 ·rw[`Wr,`Wr]
  refine `oQ;rw[StateT.run_pure];refine `oQ;dsimp only;refine A0 (`_z h6 rfl (A0 (`_y h6 rfl ?_ (hsz2:=by rw[`aEV];show (`Dc).size<=_;rw[`_A];exact Dy0 h64))));simp only[`aEW,`eD,`cB];have e0:((vs.toArray.zip `gS).map `cZ).toList=vs:=by
   have:=A60 (A4 `bm)
   simpa using `u
  refine A1 (fin _ (by rw[e0]) ?_);rw[e0];refine `aEX
  rw[`Y] at hi hj;omega
 ·rw[`V h2,`V h2]
  obtain⟨v₁,v₂,r,rfl⟩:∃v₁ v₂ r,vs=`jM:=by
   match vs,a6,h2 with
   | [],_,h2=>simp at h2
   | [_],_,h2=>simp at h2
   | `jM,_,_=>exact⟨v₁,v₂,r,rfl⟩
  refine A0 (P10 (s:=`aEY) Z.all ?_);have C:=cnP (P:=P) (w:=w) (A:=A) (E:=E) (s:=`aEY) Z `b;refine A0 (E2 (Pz0 C (st:=`aCh (tuples' `b) ((`jM).toArray.zip `aBL) #[] 7 `c)
   (Q:=λ_ t=>`_n (`aEZ)/\`_o/\Up (up0 g) `b3 (`aEZ).size)
   rfl (Array.Perm.refl _) rfl rfl (by rw[`_A];simp) λt a1 a2 a3=>⟨a1,a2,a3⟩) ?_ `GB)
  rintro⟨⟨⟩,t⟩ s' ⟨es,hp,hf,b0⟩;subst es;dsimp only;refine A0 (`_z h6 rfl (A0 (`_y h6 rfl ?_ (hsz2:=by refine C4 (k7 ((`aEV ..).trans (hp.size_eq.trans (`_A _)))) ?_;exact Dy0 h64))));rw[hf];simp only[`aEW,`eD,`cB];have a0:(`jQ).toList.Perm ((`jM).zip (`jM)):=by
   have:=X0.mp hp
   rwa [`J_] at this
  have M:∀x∈`KU,x.1=x.2/\x.2∈`jM:=λx hx=>by
   have hm:=a0.mem_iff.mp hx;obtain⟨i,hi,e⟩:=`jL hm;rw[`iW] at e;rw[← e];exact⟨rfl,C0 _⟩
  have e2:((`jQ).map `cZ).toList=(`jQ).toList.map `cZ:=`a!
  refine A1 (fin _ ?_ ?_)
  ·rw[e2]
   have:=a0.map Prod.snd
   rwa [A60 `aV] at this
  ·rw[e2,`br]
   refine `aEX
   rw[`Y] at hi hj;rw[`gA,`gA];have b1:i<`zu:=`N8
   have a4:j<`zu:=`uY
   have:=b0 i j `_p `b3[j] O (by rw[← `aEz];exact a4) (D7 _ i b1) (D7 _ j a4);have m1:=M `_p `Q;have m2:=M `b3[j] `Q;unfold up0 at this;rw[m1.1,m2.1,a5 _ m1.2,a5 _ m2.2] at this
   simpa using `u
universe zz
universe SoT
namespace RawD
open PyProof.Rows PySem.W
noncomputable def At(d:`f)(es:`yn)(ep:Nat)(h:`H):Prop:=∃o,`Xg/\`xM/\`xN
section
variable{P:`_}{w:`E}{A:`T}{s:`q}{d:`f}{es:`yn}{ep:Nat}
theorem At.ty(x:`K8):`hF `yP `e0 := by obtain⟨o,e,c,_⟩:=x;exact⟨o,e,c.1⟩
theorem At.lt{h:`H}(x:`_B):d<`dX:=by obtain⟨o,e,_⟩:=x;exact `cJ
theorem At.to{h:`H}(x:`_B)(k:∀o,`Xg->`hE d=`aj):At d es ep h':=by obtain⟨o,e,r⟩:=x;exact⟨o,k o e,r⟩
theorem Pn0{Q:`af}(lo:`zC)(x:`K8)
  (k:Q `e2 { s with heap:=`fs { cls:=`bs `Qy,data:=`i7 #[`ll,`e 0 0,`e `fZ 0,`e ep 0] } }):`g `aA A (`x1 `yP) Q E s:=by
 have ty:=x.ty;obtain⟨o,e,c,da⟩:=x;refine `aAu ty `aE_ (C8 `aE_ ty F.entry_dict_iter ?_ (F.args_dict_iter_1 _));unfold Builtin.«dict.__iter__»;refine `ca;unfold Builtin.Dict.dictSlotNone;refine A0 (k9 ty ?_);show `g _ _ (`ai (`ej d)) _ _ s;refine `bE;show `g _ _ (Builtin.Dict.showsAll d>>=_) _ _ s;unfold Builtin.Dict.showsAll;rw[`V (by rw[lo];decide)];refine A0 (A1 (A0 (O0 e da (A0 (l9 e da (A0 (L5 (A1 ⟨_,rfl, `Qy,_,`Jt,m3.lookup,?_⟩))))))))
 simpa [`gc] using k
theorem Op0{Q:`hh}(hi:`aE0)(x:`K8)(hl:i<`fZ)
  (k:∀h',h'.IsKeyIter it d `a4 `fZ ep->`hN it `W h'->Q (`a es[i].key) `fr):`aE1:=by
 have ti:=hi.typeIs;obtain⟨u,eu,cu,du⟩:=hi;obtain⟨o,e,c,da⟩:=x;unfold pyNext;refine `aE2;refine `aE3;refine `aE4;simp only[`aE5,`eD,`cB];show `aE6;rw[`aE7];refine `aE8;rw[`a7];refine `aE9;rw[`a7];refine `bE;simp only[`aE',`cB,`aR,`v! hl];refine A0 (A0 (A70 ti (A1 (A0 (`aE! ti ?_)))));show `g _ _ (`K9 `hS 1 `QA>>=_) _ _ s;refine `aE?;have J:(`aFa).IsKeyIter it d `a4 `fZ ep :=
  ⟨_,P4 _ eu (Obj.isFreed_of_fields (`aFb du _)),(Obj.cls_mapFields ..).trans cu,by rw[`aFb du];simp[`gc]⟩
 refine A0 (C3 (A0 (`aE! (s:={ s with heap:=`aFa }) J.typeIs ?_)));show `g _ _ (`ai es[i].key) _ _ _;exact A1 (A1 ⟨_,rfl,A1 (k _ J `lk)⟩)
theorem Oy0{Q:`hh}(hh:`dN)(hi:`aE0)(x:`K8)(hl:`fZ<=i)
  (k:∀h',Heap.ExtBut it `W h'->`PI):`aE1:=by
 have ti:=hi.typeIs;obtain⟨u,eu,cu,du⟩:=hi;obtain⟨o,e,c,da⟩:=x;unfold pyNext;refine `aE2;refine `aE3;refine `aE4;simp only[`aE5,`eD,`cB];show `aE6;rw[`aE7];refine `aE8;rw[`a7];refine `aE9;rw[`a7];refine `bE;simp only[`aE',`cB,`aR,Array.getElem?_eq_none hl];refine A0 (A0 (A70 ti `f5));show `g _ _ (`K9 `hS 0 `aF>>=_) _ _ s;refine `aE?;show `g _ _ (newExc (`ahc) []>>=_) _ _ _;refine `ca;simp only[newExc,newTuple];refine A0 (L5 (A0 (m:=`aFc _ _) (`azg (a:=`jG) (by first|rfl|(simp only[`aFc];rfl)) (L5 ?_ (by size_fits)))) (by size_fits));simp only[raiseNew];refine A0 (wpAny_handled ?_);rw[show `azi from hh];refine A0 (A1 (wpAny_throw ?_));refine A0 (S1 (b:=`b) (T := `CX) `Jt x8 (A1 (k _ ?_)));exact((L6 ..).extBut.push _).push _
theorem Pv0(hh:`dN)(ne:d≠it):Walks P w A it [it,d] [it] `fZ `aFd (λi h=>h.IsKeyIter it d i `fZ ep/\`_B) where
 sub:=λb hb=>by simp at hb;simp[hb]
 frame:=λ_ _ _ st hk=>⟨st.1.at λo e=>hk it `Q o e,st.2.to λo e=>hk d `Q o e⟩
 item:=λi s Q E hi st hQ=>Op0 st.1 st.2 hi λh' J sb=>hQ _ h' `aG ⟨es[i],D7 es i hi,rfl⟩ ⟨J,st.2.to λo e=>sb.extBut d o ne e⟩ λb o hb e=>sb.extBut b o (λh=>hb (`I?)) e
 done:=λs Q E st hQ=>Oy0 hh st.1 st.2 `aV λh' M=>hQ h' `aG λb o hb e=>M b o (λh=>hb (`I?)) e
 self:=λ_ _ _ _ st hQ=>wpAny_pyIter_keyiter st.1 hQ
theorem src(lo:`zC):KdlSrc P w `e0 d d `fZ `aFd (At d es ep) where
 type:=λ_ x=>x.ty
 there:=λ_ x=>⟨x.lt,x.lt⟩
 keep:=λ_ _ x hk=>x.to λo e=>hk d `i8 o e
 notList:=`ah
 notTuple:=`ah
 hint:=λ_ _ _ _ x hq=>kdl_hint_dict x.ty hq
 iter:=λ_ _ hh x=>⟨_,_,(λ_ _ hq=>Pn0 lo x hq),Pv0 hh (B1 x.lt),⟨`x3,x.to `Yo⟩⟩
universe zz
universe RawD
namespace L2
open Spec PyProof.Rows
noncomputable def KyV(H:Hp):`Wt->`T8
 | [],[]=>`fc
 | `hx,`hz=>(`ax!)/\KyV H ks vs
 | _,_=>`bM
universe L2
namespace DL
open Spec PyProof.Rows L2
noncomputable def ge0(neg:`X):`bz
 | x,`uE=>if `agk/\`b! ys 50=`b then `a (.bl (xor neg (ys.any λy=>deq y x))) else `c
 | _,_=>`c
noncomputable def Qk0(K:`M)(neg:`X):R2:=λx y H Q=>∃(B B':BS) (dx:D) (ds:`p) (p:`f) (xs:`C),y=`ja/\`VI/\`H7/\Rps K H B' ds xs/\`XZ/\`aFe/\Q (.bl (xor neg (`aFf))) H
section
open Classical in
theorem Rw0{s:`q}{σ:L2.St}(I:`B){dx:D}{x:V}{xs:`C}{A:`T}(hu:`i5+50<`cu)(hx:Rp X.K H B dx x)(rx:`iC)(hs:Rps X.K H B' ds xs)(rv:`kh)(lx:`XZ)(ls:`aFe) :
  ∃f:`ami,(∀w∈its,`t! A s w v (f w))/\its.any f=`aFf:=by
 have at_:∀j w,`aij->∃d,`QC/\`t! A s w v (`QB):=λj w hw=>by
  have hj:j<`nj:=(`cK hw).1;have l1:=`gX;have l2:=hs.length;obtain⟨y,ey,ry⟩:=hs.get (i:=j) (B6 (`h:j<`b1));obtain⟨u,eu,ru⟩:=`NV ey;rw[hw] at eu;cases eu;exact⟨_,B6 `d,gm0 I 50 50 _ _ _ _ _ _ A hu (uc0 ls (B6 `d)) lx ry hx ru rx⟩
 refine⟨λw=>`I (`aFg),`aA9,?_⟩
 ·obtain⟨j,hj⟩:=Ba0.mp hw
  dsimp only
  by_cases h:`aFg
  ·rw[`tt]
   obtain⟨i,d,e1,e2,e3⟩:=h;obtain⟨d',e4,q⟩:=at_ i w e1;rw[e2] at e4;cases e4;rw[e3] at q;exact q
  ·rw[`ml]
   obtain⟨d',e4,q⟩:=at_ j w (`mE);cases e5:deq d' dx with
   | true=>exact `L ⟨j,d',`mE,e4,e5⟩ h
   | false=>rw[e5] at q;exact q
 ·rw[`fY,`K',`K']
  constructor
  ·rintro⟨w,_,h⟩
   obtain⟨j,d,_,e2,e3⟩:=j0 h;exact⟨d,C2 e2,e3⟩
  ·rintro⟨d,hd,h⟩
   obtain⟨j,hj⟩:=Ba0.mp hd;have l1:=`gX;have l2:=hs.length;have J:j<`nj:=by have:=`zD;omega
   exact⟨its[j],C0 J,R1 ⟨j,d,B6 J,hj,h⟩⟩
theorem Uf0(hu:`X_):OpR X (`eq `sh) (Qk0 X.K `b):=by
 intro pins s σ H x y v u Q I rx ry h;obtain⟨B,B',dx,ds,p,xs,rfl,hq,hx,hs,lx,ls,q⟩:=h;cases ry;obtain⟨its,r,pl,hz⟩:=`gw;obtain⟨f,f1,f2⟩:=Rw0 (A:=`Ir) I (by show `jv+1+50<`cu;omega) hx rx hs r lx ls;refine SeqAt.notIn_listAt f `hq (λw hw=>f1 w `x?) ⟨`cq,H,I,rfl,?_⟩;rw[show its.toArray.any f=its.any f by simp,f2];rw[`sW] at q;exact q
theorem Vn0(neg:`X):Op2 K (Qk0 K neg) (ge0 neg):=by
 intro H B x y dx dy d Q hb rx ry h k;unfold ge0 at h;split at h
 ·rename_i ds
  split at h
  ·rename_i hl
   cases h;rw[Y4] at ry;obtain⟨p,xs,rfl,hq,rr⟩:=ry;exact⟨B,B,dx,ds,p,xs,rfl,`hv,rx,rr,hl.1,hl.2,`yA⟩
  ·cases h
 ·cases h
universe zz
universe DL
namespace DL
open Spec PyProof.Rows L2
noncomputable def j80:`ay->`X
 | []=>`b
 | p::K=>(match p.2.cls with
  | `bs n=>!(n == `cX)
  | _=>`b)&&j80 K
theorem es0:∀{K:`ay} {a:`f} {o:Obj},`_C->`UN->`t7≠`dv
 | [],_,_,_,h=>nomatch h
 | (b,u)::K,a,o,h,e=>by
  unfold j80 at h;rw[`dL] at h;rw[`mu] at e;split at e
  ·cases e
   intro z;rw[z] at h;exact `L h.1 `l
  ·exact es0 h.2 e
theorem script_at{xs:`C}(hK:`_C)(h:`k2):SqL' K H (`aFh) a xs:=by
 rcases h with h|⟨o,its,n,e,c,_⟩
 ·exact `m ⟨λz=>z,h⟩
 ·exact `L c (es0 hK e)
theorem X20{l:`V4}{n k:Nat}{q:`_}{loose:`t}{XP:`F3}{YP:`F4}{d:DefRec}{K:`arx}{CX:CXT}{sp:`M->Sp}{x:Str}
  (hn:`Ht) (hn2:`sq) (hdf:`VY) (hr:`V0) (hY:`ary)
  (F:∀(w:`E) (mg:`bR) (fa:`f) (h:`H),`uN h->`Hy->`VZ ->
   ∃fd:`eC,(`V1)/\∀base:`H,`uN `n->`xR->`ag `ar w `p5 mg `n CX k fa fd [x] (sp `p5))
  (hsp:∀(w:`E) (H:Hp) (a:`f) (ns:`bk),`yl->`arz->sp `p5 `jf H `Hw `kq)
  (hCX:∀(H:Hp) (s:`q) (e:`v) (s':`q),CX [] H s (`kq) e s'->`bM):`arA :=
 Ui0 (K:=K) (CX:=λ_=>CX) (sp:=λw=>sp `p5) hn hn2 hdf hr hY F (λw H a ns h1 _ h3=>hsp w H a ns h1 h3) λ_ H s e s'=>hCX H s e s'
universe DL
namespace L2
open Spec PyProof.Rows
section
variable{w:`E}{K:Type}[`yM]{knd:`aFi}{A:`T}{s:`q}
theorem do0{b:`f}{o1 o2:Obj}{es1 es2:`yn}{ep1 ep2:Nat}{id:`cC}{Q:`jH}(ha:`hH)(hb:(b==`pz)=`r)
  (h1:`i9=`a o1) (d1:o1.data=`AR es1 ep1) (h2:`pH=`a o2) (d2:o2.data=`AR es2 ep2) (k2:KeysOf knd es2) (hn:`h7=`_D)
  (hk:∀i (hi:i<`h7),∃k,`vg k es1[i].key=`b/\es1[i].hash=knd.hash k/\(es2.findIdx? λe=>`vg k `DF)=`ya)
  (v1 v2:Nat->Int) (e1:∀i (hi:i<`h7),∃t,es1[i].val=`e (v1 i) t) (e2:∀i (hi:i<`_D),∃t,es2[i].val=`e (v2 i) t)
  (h:Q `_E s):`g `ao A (Builtin.Dict.samePairs id a b) Q E s:=by
 unfold Builtin.Dict.samePairs Builtin.Dict.showsAll;rw[`V (by rw[ha];exact C5),`V (by rw[hb];exact C5)];refine A0 (A1 (A0 (A1 (A0 (O0 h1 d1 (`aFj))))));rw[`V (by rw[hn];simp)];refine `aFk;refine `ca;rw[Std.Legacy.Range.forIn_eq_forIn_range'];refine Af0 _ (λrest (r:`nr×Unit) s'=>s'=s/\r.1=`c/\∃i,`bB=`dm i (`QD)/\i<=`h7/\∀j,j<i->(v1 j==v2 j)=`b) _ ?_ ?_ _ _ ⟨rfl,rfl,0,by simp[Std.Legacy.Range.size],`eW,λj hj=>`L hj (Nat.not_lt_zero _)⟩
 ·rintro x rest r s' ⟨rfl,hr,i,hx,hi,hp⟩
  have J:i<`h7:=by
   rcases `aFl with z|z
   ·exact z
   ·rw[show `QD=0 by omega] at hx;cases hx
  rw[`aFm,`tu] at hx;cases hx;obtain⟨k,q1,q2,q3⟩:=hk x J;obtain⟨t1,w1⟩:=e1 x J;obtain⟨t2,w2⟩:=e2 x `d;refine A0 (O0 h1 d1 ?_);rw[`v! J];dsimp only;refine `vx;rw[q2];refine A0 (wpAny_dictFind_of q1 h2 d2 k2 ?_);rw[q3];dsimp only;refine `aFj;rw[`v! (show x<`_D by omega)];dsimp only;refine `h4;rw[w1,w2];refine p4 (A:=A) (s:=s') _ _ _ _ `fn w E _ ?_;cases hq:(v1 x==v2 x) with
  | false =>
   refine `bE;show `g _ _ (`un) _ _ s';refine `bE
   rwa [show `_E=`r from by
    rw[List.all_eq_false];exact⟨x,`l3 J,by rw[hq];exact C5⟩] at h
  | true =>
   simp only[`rV,`eD,`cB];refine `aFk;rw[`a7];refine A1 ⟨rfl,rfl,x+1,rfl,J,`sC⟩;rcases Nat.lt_or_eq_of_le (Nat.le_of_lt_succ hj) with z|rfl
   ·exact hp j z
   ·exact hq
 ·rintro⟨r1,r2⟩ s' ⟨rfl,hr,i,hx,hi,hp⟩
  dsimp only at hr;subst hr;have M:i=`h7:=by
   rcases `aFl with z|z
   ·rw[`aFm,`tu] at hx;cases hx
   ·omega
  dsimp only;refine `bE
  rwa [show `_E=`b from by
   rw[`ix];exact λj hj=>hp j (by rw[M];exact `jB hj)] at h
universe zz
theorem Pairs.at_{w:`E}{K:Type}[`yM]{knd:`aFi}:∀{es:`Z `BC} {kvs:`Z (K×`v)},Pairs knd es kvs->∀(i:Nat) (e:`BC),`aii->∃kv,kvs[i]?=`K!/\`vg `f! `DF=`b/\e.val=kv.2:=by
 intro es kvs p
 induction p with
 | nil=>intro i e h;simp at h
 | cons h1 h2 t ih=>intro i e h;cases i with
  | zero=>cases h;exact⟨_,rfl,h1,h2⟩
  | succ i=>obtain⟨kv,a,b⟩:=ih i e `kx;exact⟨kv,by simpa using a,b⟩
noncomputable def Q80:R2:=λx y H Q=>∃(a b:`f) (ks:`cI) (m n:`bk),`ff/\`oS/\`_F/\`eY=`_G/\H a=`a (.dK `QE)/\H b=`a (.dK (`u0 (n.map `no)))/\Q (.bl (`K?)) H
theorem kr0{ks:`cI}{m:`bk}{vs:`Xp}(hl:`_F)(r:`aFn){kv:`ags}(h:`N6=`K!):ks[i]?=`a `f!/\∃t,kv.2=`e (`v') t:=by
 obtain⟨p,e,h1,h2⟩:=DL.Pd.get r h;obtain⟨q1,q2⟩:=P8.mp (show `QE[i]?=`a (p.1,p.2) from e);rw[`cj] at q2;cases e3:m[i]? with
 | none=>rw[e3] at q2;cases q2
 | some z =>
  rw[e3] at q2;have e4:`no z=p.2:=B2 q2;rw[← h1];refine⟨q1,?_⟩;rw[← e4] at h2;obtain⟨t,ht⟩:=(show ∃t,kv.2=`Nw z t from h2);exact⟨t,by rw[ht,`cr,e3];rfl⟩
theorem Xi0:`TH `vM `vM=`BS:=`axK
theorem Ts0{k:Nat}{m n:`bk}(h:k=`g4)(h2:`g4=`_G):(((`b? k).all `ain)==`r)=`K?:=by
 subst h
 by_cases e:m=n
 ·subst e
  rw[`bZ (λz=>z rfl),show (`aim λi=>`v'==`v')=`b from List.all_eq_true.mpr λi _=>Dq0 _];rfl
 ·rw[`bS e,show `aFo=`r from by
   cases hq:`aFo with
   | false=>rfl
   | true =>
    refine `L (`amc) e;have:=k4 (List.all_eq_true.mp hq i (`l3 a))
    simpa [j3,a,b] using `u]
  rfl
theorem Rg0(hu:`jv<`cu):OpR X (`eq .NotEq) Q80:=by
 intro pins s σ H x y v u Q I rx ry h;obtain⟨a,b,ks,m,n,rfl,rfl,l1,l2,ha,hb,q⟩:=h;cases (show v=`i6 from rx);cases `II;obtain⟨_,a5,a3,r1,a0⟩:=o70 `bt ha;obtain⟨_,a2,Z,r2,a1⟩:=o70 `bt hb;have t1:=a0.typeIs;have t2:=a1.typeIs;obtain⟨o1,O,a7,g1,c1,d1,k1,p1,n1⟩:=a0;obtain⟨o2,J,a6,g2,c2,d2,k2,p2,n2⟩:=a1;have len:∀{vs:`Xp} {m:`bk} {es:`yn},`_F->`aFn->Pairs `C7 `Gh vs->`fZ=`eY:=λ{vs m es} hl r p=>by
  have:=p.length;have h2:=k0 r;rw[`c4,`Y] at h2;rw[`bp] at this;omega
 have s1:=len l1 r1 p1;have s2:=len l2 r2 p2;have e1:∀i (hi:i<O.size),∃kv,a3[i]?=`K!/\`QF `f! O[i].key=`b/\O[i].val=kv.2:=λi hi=>Pairs.at_ p1 i _ `aFp
 have e2:∀i (hi:i<J.size),∃kv,Z[i]?=`K!/\`QF `f! J[i].key=`b/\J[i].val=kv.2:=λi hi=>Pairs.at_ p2 i _ `aFp
 show `g _ _ (richCompare .NotEq `bJ `jw) _ _ s;refine wpAny_richCompare_same_room t1 t2 E50 (C8 E50 t1 PySem.F.entry_dict_ne ?_ (PySem.F.args_dict_ne_2 _ _)) hu;show `g _ _ (Builtin.Dict.dictSlotArgs "__ne__" ⟨`Y_,[]⟩>>=_) _ _ s;unfold Builtin.Dict.dictSlotArgs;refine A0 (A0 (k9 t1 ?_));show `g _ _ (`ai (`i6,`ej b)) _ _ s;refine `bE;dsimp only;refine A0 (S1 t2 Xi0 ?_);simp only[`rV,`eD,`cB];show `g _ _ (`ai a>>=_) _ _ s;refine `oQ;show `g _ _ (`ai b>>=_) _ _ s;refine `oQ;refine A0 (do0 (knd:=`C5) a5 a2 g1 d1 g2 d2 k2 (`h0 s2.symm) `hC (λi=>`v') (λi=>`ail) `hC `hC ?_)
 ·obtain⟨kv,q1,q2,q3⟩:=e1 i hi
  obtain⟨a4,w1,w2,w3⟩:=e2 i `d;obtain⟨x1,_⟩:=`aFq;obtain⟨x2,_⟩:=kr0 l2 r2 w1;rw[x1] at x2;have ek:`f!=a4.1:=B2 x2;obtain⟨k',y1,y2⟩:=k1 O[i] (Array.getElem_mem hi);have:=(`C5).inj _ _ _ y1 q2;subst this;refine⟨`f!,q2,y2,?_⟩;have fx:(J.findIdx? `aFr)=J.toList.findIdx? `aFr:=by
   obtain⟨l⟩:=J;simp
  rw[fx,p2.findIdx];have M:=(`cK w1);rw[List.findIdx?_eq_some_iff_getElem];refine⟨M.1,by rw[M.2];exact R1 ek.symm,`sC⟩;intro z;have ez:=j0 z;have h1:`aFs[j]'(by rw[`Y];exact L1 hj M.1)=`aFs[i]'(by rw[`Y];exact M.1):=by
   rw[`gA,`gA,ez,M.2,ek]
  have:=(q0 n2).mp h1;omega
 ·obtain⟨kv,q1,q2,q3⟩:=e1 i hi
  obtain⟨_,t,e⟩:=`aFq;exact`aFt
 ·obtain⟨kv,q1,q2,q3⟩:=e2 i hi
  obtain⟨_,t,e⟩:=kr0 l2 r2 q1;exact`aFt
 ·refine A1 ⟨_,rfl,`du,`cq,H,I,rfl,?_⟩
  rw[Ts0 (`h0 l1) (l1.symm.trans l2)];exact q
universe L2
namespace DL
open Spec PyProof.Rows L2
noncomputable def wf0:`p->`aK (`bk)
 | []=>`mx
 | `ap::ds=>`aFu λl=>i::l
 | `bh=>`c
noncomputable def neK:`bz
 | `aFv,`aW (`m ls) ws=>if ks=ls then (wf0 vs).bind λm=>(wf0 ws).bind λn=>`a (.bl (`K?)) else `c
 | _,_=>`c
theorem qc0:∀{ds:`p} {m:`bk} {xs:`C},wf0 ds=`a m->`bg->xs=`aik
 | [],m,xs,h,r=>by cases h;rw[m7] at r;exact r
 | `aC,m,xs,h,r=>by
  cases d with
  | int i =>
   obtain⟨l,e1,e2⟩:=`li (show `aFu (λl=>i::l)=`a m from h);subst e2;rw[n6] at r;obtain⟨x,ys,rfl,r1,r2⟩:=r;rw[j9] at r1;subst r1;rw[qc0 e1 r2];rfl
  | _=>cases h
theorem T20:Op2 K Q80 neK:=by
 intro H B x y dx dy d Q hb rx ry h k;unfold neK at h;split at h
 ·rename_i ks vs ls ws
  split at h
  ·rename_i hk
   subst hk;cases e1:wf0 vs with
   | none=>rw[e1] at h;cases h
   | some m =>
    cases e2:wf0 ws with
    | none=>rw[e1,e2] at h;cases h
    | some n =>
     rw[e1,e2] at h;cases h;rw[uz0] at rx ry;obtain⟨a,xs,rfl,_,hx,l1,r1⟩:=rx;obtain⟨b,ys,rfl,_,hy,l2,r2⟩:=ry;have q1:=qc0 e1 r1;have q2:=qc0 e2 r2;subst q1 q2;rw[`Y] at l1 l2;exact⟨a,b,ks,m,n,rfl,rfl,l1,l2,hx,hy,`yA⟩
  ·cases h
 ·cases h
universe DL
namespace L2
open Spec PyProof.Rows
section
variable{P:`_}{w:`E}{h:`H}
mutual
theorem dh0(ok:`eE):∀(t:`dW) (v:V) (u:`v),`T9->`f0->TrK.Is h t u
 | `A,v,u,x,r=>by unfold TrH at x;subst x;rw[TrK.G7];exact r
 | `ap,v,u,x,r=>by unfold TrH at x;subst x;rw[TrK.J4];exact r
 | `N y,v,u,x,r=>by unfold TrH at x;subst x;rw[TrK.J5];exact r
 | `gG,v,u,x,r=>by
  unfold TrH at x;obtain⟨a,xs,rfl,e,q⟩:=x;cases (show `B? from r);obtain⟨_,its,rv,o,h1,h2,n,h3,_⟩:=(show `b_ P w H h a `kQ from `Xl);rw[TrK.is_tup];exact⟨a,o,`cd,n,rfl,h1,h2,h3,by simpa using bc0 ok l xs its q rv⟩
theorem bc0(ok:`eE):∀(l:`iy) (xs:`C) (us:`ab),`Ge->`d8->TrK.Iss h l us
 | [],xs,us,x,r=>by
  unfold TrHs at x;subst x;cases r;rw[TrK.wl0]
 | `iw,xs,us,x,r=>by
  unfold TrHs at x;obtain⟨y,ys,rfl,x1,x2⟩:=x;cases r with
  | cons r1 r2 =>
   rw[TrK.zd0];exact⟨_,_,rfl,dh0 ok t _ _ x1 r1,bc0 ok l _ _ x2 r2⟩
end
theorem ex0{kvs:`oI}(ok:`eE)(e:H a=`zE):`kS/\`hH /\
  ∃xs,`amA/\`Xh (`Ua) a xs:=by
 obtain⟨z,y,xs,r,o,es,ep,h1,h2,h3,h4,h5⟩:=(show `b_ P w H h a (`QG) from `Xl);refine⟨z,y,xs,r,o,es,ep,h1,h2,h3,h4,`dj,h5⟩;have all:∀{l:`oI} {m:`Gi},`bC `aec l m->∀x∈m,(`Ua).is h x.1 `DC:=by
  intro l m q
  induction q with
  | nil=>intro x hx;exact nomatch hx
  | @cons p q ps qs hq t ih =>
   intro x hx;rcases `st with e|hx
   ·subst e
    rw[← hq.1];exact⟨dh0 ok _ _ _ hq.2.1 rfl,hq.2.2.1⟩
   ·exact ih x hx
 exact `avU
theorem Zz0(h:`H)(hb:`Xs):`b_ P w H `Xt `dX (.dX []) :=
 ⟨`eW,`yK,[],`ae,_,#[],0,`cW,`av7,rfl,rfl,U2⟩
universe zz
section
variable{w:`E}{K:Type}[`yM]{knd:`sQ}{A:`T}{s:`q}{d:`f}{xs:`Iz}{k:K}
theorem Xn0(hu:`IA A)(hkey:`IB)(hm:`La)(hsz:`d9)
  (h1:∀p,`aFw->Q p.2 `mF)
  (h2:`vj=`c->∀h',`aFx knd d (xs++[(k,a,v)])->`Cf->Q v `O5) :
  `g `ao A (`aFy d `bJ v) Q E s:=by
 obtain⟨o,es,ep,ho,hc,hd,he,O,hn⟩:=hm;unfold dictSetDefault
 try with_reducible refine `h4
 refine `avo;refine A0 (`avp (s:=`mF) hu hkey ho hd he O hn ?_ ?_)
 ·intro M
  have J:=`avq M;have Z:k∉`mY `b9:=`avr M;refine A0 (D2 (A0 (`avs (hz:=`avt) (s:=`mF) ho hd (A1 (h2 J _ ?_ `lk)))));refine⟨_,_,ep+1,`avu,`avv,`O6,`avw,`dj,?_⟩
  ·rcases `iL with hx|hx
   ·exact `Ch (O x hx) ho hd `lk
   ·rw[`yN];exact `avx
  ·rw[`bI,`yO]
   exact`avy
 ·intro j p hj
  have a0:=`avz;refine A0 (O0 (s:=`mF) ho hd ?_);rw[entry_at he j,hj];exact A0 (D2 (A1 (h1 p a0)))
theorem Z10(knd:`sQ){k:K}{a:`f}(d:`f)(hd:`zC)(dflt:`v) :
  MeetsIn `fn w (Builtin.«dict.setdefault» ⟨[`ll,`cH,dflt],[]⟩) (λA R s=>`IA `bV/\`IB/\∃xs,`La/\`d9 /\
   (∀p,`aFw->R (.ok (`fk p.2)) `mF) /\
   (`vj=`c->∀h',`aFx knd d (xs++[(k,a,dflt)])->`Cf->R (.ok (`fk dflt)) `O5)) :=
 `IV λA R s hq129=>by
  obtain⟨hu,J,xs,hm,hz,h1,h2⟩:=hq129
  unfold Builtin.«dict.setdefault»;refine `ca;unfold Builtin.Dict.keyAndDefault;refine A0 (k9 `_H ?_);show `g _ _ (`ai (d,`i6,`a dflt)) _ _ s;refine `bE;show `g _ _ (if (d==`pz)=`b then _ else (`aFy d `bJ dflt>>=_)) _ _ s;rw[`V (by rw[hd];exact C5)];exact A0 (Xn0 hu J hm hz (λp hp=>A1 ⟨p.2,rfl,h1 p hp⟩) λhn h' M O=>A1 ⟨dflt,rfl,h2 hn h' M O⟩)
universe zz
abbrev KX(H:Hp):`oI->`Gi->Prop:=`bC λp q=>`aeb
theorem Rd0{kvs:`oI}{xs:`Gi}(r:KX H kvs xs)(k:`dW):`avP:=by
 induction r with
 | nil=>exact `lm
 | @cons p q ps qs h t ih =>
  obtain⟨h1,_,_,h2⟩:=h
  by_cases e:`mG
  ·have e':`sR:=`Cl
   have b:`O!=`a q.2:=`IE
   rw[`yQ,b];exact h2
  ·have e':¬`sR:=`Cm
   have b:`avQ:=`IE
   rw[`o5,b];exact ih
section
variable{σ:St}{s:`q}{b:`f}{kvs:`oI}{t:`dW}{v:V}{r:`v}{A:`T}
theorem Qm0(hu:`i5+10<`cu)(I:`B)(e:H a=`zE)(ht:TrH H t `jw)(hdp:`_I)(l:`iO)(rv:`yS)
  (h1:∀x,`v?=`aQ->`aA6) (h2:`_J->∀s',Inv X `j σ (upd H a `aFz) s'->Q r s') :
  `g `ak A (`de `aA7 [`cH,`k7,r]) Q E s:=by
 obtain⟨z,hd,xs,rel,dd⟩:=ex0 `bt e;have hz:`d9:=`IM
 have hv:=Rd0 rel t;refine `Zv A00 `vk Dl0 `aA8 (Z10 (`aed `bf X.w) (k:=t) (a:=b) a hd r)
  ⟨by show `AM+8<`cu;omega,⟨dh0 `bt t _ _ ht rfl,hdp⟩,xs,dd,hz,`r2,`aA'⟩
 ·rw[hp] at hv
  cases e1:`v? with
  | none=>rw[e1] at hv;exact `JW
  | some x=>rw[e1] at hv;exact `aA!
 ·rw[hn] at hv
  have e1:`_J:=by
   cases e1:`v? with
   | none=>rfl
   | some x=>rw[e1] at hv;exact `JW
  obtain⟨q,es,ep,hq,g2,g3,g4,_,g5⟩:=J;refine h2 e1 _ (vl0 I `Pc hs `agu ⟨`s4,hd,_,?_,q,es,ep,hq,g2,g3,g4,g5⟩);have keep:∀c ys,H c=`vL->upd H a `aFz c=`vL:=λc ys ec=>by
   rw[`IN];exact ec
  exact `Xj (`Gl rel λp q z=>⟨z.1,`Gf keep _ _ z.2.1,z.2.2⟩) ⟨rfl,`Gf keep _ _ ht,hdp,rv⟩
universe zz
noncomputable def O70(td ty tx:TE):TE:=fun σ H Q=>td σ H λx H1=>∃a,`ff/\(∃kvs,H1 a=`zE)/\ty σ H1 λy H2=>tx σ H2 λz H3=>∃kvs t b,H3 a=`zE/\`oS/\TrH H3 t y/\`_I/\`iO /\
 (∀v,`v?=`a3->Q v H3)/\(`_J->Q z (upd H3 a (.dX (kvs++[(t,z)]))))
section
variable{f:`G}{td ty:TE}
theorem Vl0(hu:`aFA)(ho:`IO)(he:PE X e ty)(hf:PE X f tx)(m:`aA?):PE X `aBa (O70 td ty tx):=by
 intro pins s σ H Q I h;refine `aBb m.base m.few m.line Do0 A00 Dp0 (thn `r9 λu s1 hq130=>?_);obtain⟨x,H1,I1,rx,a,ex,⟨M,d⟩,q1⟩:=hq130;subst ex;cases `aBc;obtain⟨_,_,O,_,J⟩:=ex0 I1.hok d;refine⟨J.typeIs,λb q=>by cases q;obtain⟨ob,_,_,g1,g2,_⟩:=J;exact⟨ob,g1,g2.2.1⟩,?_⟩;rw[m.trees];refine r9 rfl (B20 (M1 (thn `aBd λiv s2 hq131=>?_)));obtain⟨y,H2,I2,ry,q2⟩:=hq131;refine M1 (thn `aBe λfv s3 hq132=>?_);obtain⟨z,H3,I3,rz,kvs,t,b,ea,ey,ht,hd,l,q3,q4⟩:=hq132;refine U1 ?_;subst ey;cases (show iv=`ej b from ry);exact Qm0 `d I3 ea ht hd l rz `aBf `aBg
universe zz
universe L2
namespace DL
open Spec PyProof.Rows L2
mutual
theorem Wy0:∀(d:D) (v:V) (t:`dW),`dQ->`Lb->`T9
 | `A,v,t,r,e=>by unfold toT at e;cases e;rw[U6] at r;unfold TrH;exact r
 | `ap,v,t,r,e=>by unfold toT at e;cases e;rw[j9] at r;unfold TrH;exact r
 | `cV,v,t,r,e=>by unfold toT at e;cases e;rw[W4] at r;unfold TrH;exact r
 | `bO,v,t,r,e=>by
  unfold toT at e;obtain⟨l,e1,e2⟩:=`Lc;subst e2;rw[X6] at r;obtain⟨a,xs,rfl,q,rs⟩:=r;unfold TrH;exact⟨a,xs,rfl,q.2,Z20 ds xs l rs e1⟩
 | `cq,v,t,r,e=>by unfold toT at e;cases e
 | `iz,v,t,r,e=>by unfold toT at e;cases e
 | `iI,v,t,r,e=>by unfold toT at e;cases e
 | `iJ,v,t,r,e=>by unfold toT at e;cases e
theorem Z20:∀(ds:`p) (xs:`C) (l:`iy),`bg->`_K->`Ge
 | [],xs,l,r,e=>by unfold R6 at e;cases e;rw[m7] at r;unfold TrHs;exact r
 | `aC,xs,l,r,e=>by
  unfold R6 at e;cases e1:`wa with
  | none=>rw[e1] at e;cases e
  | some t =>
   rw[e1,`w] at e;obtain⟨m,e2,e3⟩:=`Lc;subst e3;rw[n6] at r;obtain⟨x,ys,rfl,r1,r2⟩:=r;unfold TrHs;exact⟨x,ys,rfl,Wy0 d x t r1 e1,Z20 ds ys m r2 e2⟩
end
theorem lo0:∀{ks:`p} {ts:`iy} {d:D} {t:`dW},`WA->`Lb->R6 (ks++[d])=`a (`QI)
 | [],ts,d,t,h,e=>by
  unfold R6 at h;cases h;rw[`fK,`fK];unfold R6;rw[e,`w];unfold R6;rfl
 | `hx,ts,d,t,h,e=>by
  unfold R6 at h;cases e1:toT k with
  | none=>rw[e1] at h;cases h
  | some u =>
   rw[e1,`w] at h;obtain⟨m,e2,e3⟩:=`sL;subst e3;rw[`ds,`ds];unfold R6;rw[e1,`w,lo0 e2 e];rfl
noncomputable def xo0:`iy->`p->`dW->`cN
 | t'::ts,`hz,t=>if t'=t then `a3 else `tv
 | _,_,_=>`c
theorem je0{t:`dW}:∀{ts:`iy} {vs:`p} {xs:`C},`WB=`as->`atk->(∀r,`tv=`di->∃v,`aFB=`a3/\Rp K H B r v)/\(`tv=`c->`aFB=`c)
 | [],vs,xs,hl,r=>by
  cases xs with
  | nil=>exact⟨(λr h=>by unfold xo0 at h;cases h),`lS⟩
  | cons=>cases hl
 | t'::ts,[],xs,hl,r=>by rw[m7] at r;subst r;cases hl
 | t'::ts,`hz,xs,hl,r=>by
  rw[n6] at r;obtain⟨x,ys,rfl,r1,r2⟩:=r;rw[`eJ];unfold xo0
  by_cases e:t'=t
  ·rw[`iN,`yQ]
   exact⟨(λr h=>by cases h;exact⟨x,rfl,r1⟩),`SK⟩
  ·rw[`hy,`o5]
   exact je0 `u5 r2
noncomputable def m60(i:Nat)(gk g:GE):GX:=fun δ=>match `cg with
 | `a (.ow (`x `atl))=>`Zt λdk=>`dP λd=>match dk with
  | `bO=>(toT `p?).bind λt=>(R6 ks).bind λts=>if `_I/\`Ld then (match `tv with
   | `di=>`a (r,δ)
   | `c=>`a (d,`aFC)) else `c
  | _=>`c
 | _=>`c
theorem pv0:∀{ks:`p} {ts:`iy},`WA->`WB=`eY
 | [],ts,h=>by unfold R6 at h;cases h;rfl
 | `hx,ts,h=>by
  unfold R6 at h;cases e1:toT k with
  | none=>rw[e1] at h;cases h
  | some u =>
   rw[e1,`w] at h;obtain⟨m,e2,e3⟩:=`sL;subst e3;rw[`a0,`a0,pv0 e2]
section
variable{f:`G}{g:GE}
theorem Ux0(i:Nat)(hu:`aFA)(h0:PD X e g0)(h:PD X f g)(hN:`cp:=by rfl)(hv:`fe:=by first|exact `cO|exact `hs|exact `ht)(hd:`bq:=by decide)(hcd:`fN:=by decide)
  (hbase:`aBh:=by rfl)
  (hfew:(`Xw
  &&`Xx)=`b:=by rfl)
  (hline:`kt:=by rfl) (htrees:`Xy:=by rfl) :
  PX X `aBi (m60 i g0 g):=.mk λH₀ B₀ δ pins s σ H Q I hq133=>by
 obtain⟨r,en,e1,k⟩:=hq133
 unfold m60 at e1;obtain⟨B,b1,b2,env⟩:=`ct;split at e1
 ·rename_i ks vs hi
  cases e4:g0 δ with
  | none=>rw[e4] at e1;cases e1
  | some dk =>
   cases e3:`aB with
   | none=>rw[e4,e3] at e1;cases e1
   | some d =>
    rw[e4,e3] at e1;simp only[`w] at e1;split at e1
    ·rename_i ds
     cases e5:toT `p? with
     | none=>rw[e5] at e1;cases e1
     | some t =>
      cases e6:R6 ks with
      | none=>rw[e5,e6] at e1;cases e1
      | some ts =>
       rw[e5,e6] at e1;simp only[`w] at e1;split at e1
       ·rename_i hz
        obtain⟨p,a0,hb,rl⟩:=`kA;obtain⟨_,q,_⟩|⟨a3,a2,q,a4,xs,q1,hx,hl,rx⟩:=rl
        ·cases q
        ·cases q
         rw[e6] at q1;cases q1;refine Vl0 hu `jC (h0 B δ) `b' `aBj `j s σ H Q I ⟨_,a0,p,rfl,⟨_,hx⟩,_,env,e4,`aBk⟩;have J:=`u8;have rk:=`mA;have ht:=Wy0 _ _ t rk e5;rw[X6] at r1;obtain⟨b,zs,rfl,_⟩:=r1;obtain⟨v1,v2⟩:=je0 (t:=t) hl (rx.same J);refine⟨_,t,b,J _ _ hx,rfl,ht,hz.1,by rw[`c4,← hl,`vu,pv0 e6];exact hz.2,λv Z=>?_,λhn=>?_⟩
         ·cases e7:`tv with
          | none=>rw[v2 e7] at Z;cases Z
          | some w =>
           rw[e7] at e1;cases e1;obtain⟨v',M,rv⟩:=v1 w e7;rw[Z] at M;cases M;exact k v H2 (`nH (en.grow J) b1 b2 (`u' J) rv)
         ·cases e7:`tv with
          | some w=>obtain⟨v',M,_⟩:=v1 w e7;rw[hn] at M;cases M
          | none =>
           rw[e7] at e1;cases e1;have a1:`QH++[(t,fv)]=`aFD:=by rw[`ax' hl];rfl
           rw[a1];have rr:Rps X.K H2 B (vs++[d]) (`QJ):=`aBm;have O:Env X.K (upd H2 p (.dX (`aFD))) B σ (`aFC) :=
            `aBn hi a0 (`i ⟨_,_,rfl,`QI,`QJ,lo0 e6 e5,j6,by rw[`ad,`ad,hl];rfl,`Py⟩)
           exact k _ _ (`nH (`Cv J b1 b2 hi a0 O) b1 b2 O (r2.mono `h1))
       ·cases e1
    ·cases e1
 ·cases e1
universe zz
universe DL
namespace L2
open Spec PyProof.Rows PySem.W
section
variable{w:`E}{K:Type}[`yM]{knd:`sQ}{A:`T}{s:`q}{d:`f}{xs:`Iz}
theorem dv0(knd:`sQ)(d:`f)(hd:`zC) :
  MeetsIn `fn w (Builtin.«dict.__len__» ⟨[`ll],[]⟩) (λ_ R s=>∃xs,`La/\R (.ok (`fk (`e `as `aG))) `ut) :=
 `IV λA R s hq134=>by
  obtain⟨xs,hm,h⟩:=hq134
  obtain⟨o,es,ep,ho,hc,J,he,M,hn⟩:=hm;show `g _ _ (dictSize d>>=_) _ _ s;unfold dictSize;refine A0 (A0 (O0 ho J `f5));show `g _ _ (Builtin.Dict.pendingCount d>>=_) _ _ s;refine A0 (wpAny_pendingCount_other hd ?_);refine Ac0 ?_;rw[`zt,`agn];exact h
theorem P20(hd:`zC)(hm:`La)(hfit:`aqD<`t')(h:Q (`e `as (`kP)) { s with toks:=`kP+1 }):`g `ao A (`de `yd [`ll]) Q E s:=by
 refine E60 kind_len plain_len entry_len (args_len1 _) ?_;unfold Builtin.«len»;refine A0 (m:=oneArg `nk _) `f5;refine A0 (m:=callSpecial? `yP (`pZ `I5)) (D8 (name:=`pZ `I5) `_H E70
  (`Zv E70 `_H PySem.F.entry_dict_len (PySem.F.args_dict_len_1 _) (dv0 knd d hd) ⟨xs,hm,?_⟩))
 show `g _ _ _ _ _ `ut;refine A0 (C3 `f5);refine A0 (d6 ?_);show `g _ _ (if (`aFE:Int)<0 then _ else _) _ _ _;rw[`eL];show `g _ _ (if (`aFE:Int) ≥ 2 ^ 63 then _ else _) _ _ _;rw[`eL];exact A0 (`aFF (A1 `yX))
universe zz
theorem bm0:`dy X `yd (λxs H Q=>∃(p:`f) (kvs:`oI),`gY/\H p=`zE/\`ahO):=by
 intro pins s σ H xs us Q I r h;obtain⟨p,kvs,rfl,hq,q⟩:=h;obtain⟨u,rfl,rx⟩:=`kr;cases rx;have hn:=v00;obtain⟨z,hd,vs,rel,dd⟩:=ex0 `bt hq;have hl:=k0 rel;exact P20 hd dd `d `aBp
noncomputable def Sg0:TE:=λ_ H Q=>∀p,`dh->Q `dD (upd H p (.dX []))
theorem Yl0:PE X `sM Sg0:=λpins s σ H Q I h =>
 v3 ⟨`ce,_,`ge (a:=`O) (o:=.dX []) (t':=`aG) `qE `aV (Zz0 `W I.big),rfl,`Xu⟩
universe L2
namespace DL
open Spec PyProof.Rows L2
section
variable{σ σ':St}
theorem EnvS.takeL(en:`eI)(b1:`o0)(b2:`o1)(e:`cs)(i:Nat){d:D}{p:`f}(hp:`dh)(s:`ch)
  (r:RpL K H' `u? d p):`awf:=by
 have g:`awg:=`awh
 have J:`WO:=`XB;have live:`awi:=λ{j d' b} h1 h2=>by
  obtain⟨a,q1,q2,q3⟩:=e.at h1;rw[h2] at q1;cases q1;exact `awj
 refine`awk
 ·rcases z with z|rfl
  ·exact b2 a z
  ·exact `i J
 ·refine `yz ⟨p,rfl,`dz,r⟩ i `awl
  cases sl with
  | un=>trivial
  | ex c n=>obtain⟨v,e,r⟩:=h;exact`yF
  | sh d=>obtain⟨v,e,r⟩:=h;exact`yF
  | ow d=>obtain⟨b,e,M,r⟩:=h;exact`awm
 ·rcases z with z|rfl
  ·exact`awn
  ·exact r.live
 ·rcases `o7 with⟨rfl,_,_⟩|⟨n1,h1⟩
  ·rcases `o8 with⟨rfl,_,_⟩|⟨n2,h2⟩
   ·rfl
   ·rcases `f? h3 with⟨_,e3,_⟩|⟨n3,_⟩
    ·cases e3
     rw[`IQ] at h4;exact `awo
    ·exact `IR
  ·rcases `o8 with⟨rfl,_,_⟩|⟨n2,h2⟩
   ·rcases `f? h4 with⟨_,e4,_⟩|⟨n4,_⟩
    ·cases e4
     rw[`sU] at h3;exact `awp
    ·exact `awq
   ·rw[`sU] at h3
    rw[`IQ] at h4;exact `WD
 ·rcases `o7 with⟨rfl,_,_⟩|⟨n1,h1⟩
  ·rcases `o8 with⟨_,e3,_⟩|⟨n3,_⟩
   ·cases e3;exact J
   ·exact `IR
  ·rw[`sU] at h2
   exact `XC
universe zz
noncomputable def me0(i:Nat):GE:=fun δ=>match `cg with
 | `a (.ow (`x [`s ks,`iz]))=>`aBq
 | _=>`c
noncomputable def Yf0(i:Nat):GS:=fun δ=>`a (.nx (`df i (`aFG)))
theorem V60(i:Nat)(hm:`auP)(hN:`cp:=by rfl)(hv:`fe:=by first|exact `cO|exact `hs|exact `ht)(hd:`bq:=by decide)(hcd:`fN:=by decide)
  (hg:`auR := by rfl) (he:`eQ `jz `F=(`r,`qp)::`js:=by rfl) (hpl:`gy:=by rfl) :
  PD X (`bT `auS `jz [] pos) (me0 i):=.mk λB δ=>(s30 bm0 hg hm B40 (yc0 `jC we0 he) `l `l he hpl).imp fun σ H Q hq135=>by
 obtain⟨d,en,h,k⟩:=hq135
 unfold me0 at h;split at h
 ·rename_i ks vs hi
  cases h;obtain⟨a,hs,hb,rl⟩:=en.at hi;obtain⟨_,q,_⟩|⟨J,M,q,ts,xs,q1,hx,hl,rx⟩:=rl
  ·cases q
  ·cases q
   refine⟨_,hs,a,_,rfl,hx,`OY⟩;rw[j9,`c4,← hl,`vu,pv0 q1]
 ·cases h
theorem Xd0(i:Nat)(hN:`hl)(hi:`cp:=by rfl)(hx:`kk:=by first|exact `cO|exact `jn)
  (hs:`NS `jz `_L `A6 `F=`un:=by rfl) (hw:`NT `jz `_L `F=`k0:=by rfl)
  (h1:`awE:=by rfl)
  (hf:`kl:=by first|exact `bL|exact `dz|assumption):PSD X (`A' `jz `_L pos) (Yf0 i):=.mk λH₀ B₀ δ pins s σ H De I hq136=>by
 obtain⟨r,en,e1,k⟩:=hq136
 unfold Yf0 at e1;obtain⟨B,b1,b2,env⟩:=`ct;cases e1;refine oz0 Yl0 (`Id) hs hw h1 `j s σ H De I λq hq=>k _ _ (en.takeL b1 b2 env i hq (Z5 hq) (`i ⟨_,_,rfl,[],[],`aFH,j6,rfl,`ga⟩))
universe DL
namespace ZipL
open Spec PyProof.Rows
section
variable{w:`E}{A:`T}{s:`q}
theorem c90{TI TO:`f}{k1 k2:Nat}{xs ys:`aZ}{x y a b:`v}{Q:`af}(D:`eK)
  (hz:`JM) (hTI:`iQ) (hTO:`tb)
  (h1:`iR) (h2:`iS) (hl1:`hA) (hl2:`hB) (hx:`y4) (hy:`y5)
  (hQ:∀h',`aAw->`Zo->`y6->`y7->`vy->`s0 ->
   `aAe) :
  `QK:=by
 obtain⟨v,f,hz,hv⟩:=hz;have hT:`kB := `mI;have again:`aFI:=λhf=>by
  unfold Builtin.SmallTypes.nextOf;exact A0 (D8 (name:=`g3) hT D6
   (C8 D6 hT P6
    (oa0 D hz `JN hTI hTO h1 h2 hl1 hl2 hx hy λh' a1 a2 a3 a4 a5 a6 a7=>A1 (hQ h' `aAy `aAz a3 a4 a5 a6 a7)) `mJ))
 rcases hv with rfl|⟨a0,rfl⟩
 ·exact `JO
 ·cases e:`JP with
  | none=>exact `JQ
  | some oa =>
   unfold Builtin.SmallTypes.nextOf;exact A0 (D8 (name:=`g3) hT D6
    (C8 D6 hT P6
     (il0 D hz e hTI h1 h2 hl1 hl2 hx hy λh' b1 b2 b3 b4 b5 b6=>A1 (hQ h' `aAA `aAB b2 b3 b4 b5 `aAC)) `mJ))
theorem mr0{TI TO:`f}{k1 k2:Nat}{xs ys:`aZ}{a b:`v}{Q:`af}(hh:`dN)(D:`eK)
  (hz:`JM) (hTI:`iQ) (hTO:`tb)
  (h1:`iR) (h2:`iS) (hl1:`hA) (hl2:`hB) (hend:`y9)
  (hE:`aAt) :
  `QK:=by
 obtain⟨v,f,hz,hv⟩:=hz;have hT:`kB := `mI;have again:`aFI:=λhf=>by
  unfold Builtin.SmallTypes.nextOf;exact A0 (D8 (name:=`g3) hT D6
   (C8 D6 hT P6 (lq0 hh D hz `JN hTI hTO h1 h2 hl1 hl2 `jE hE) `mJ))
 rcases hv with rfl|⟨a0,rfl⟩
 ·exact `JO
 ·cases e:`JP with
  | none=>exact `JQ
  | some oa =>
   unfold Builtin.SmallTypes.nextOf;exact A0 (D8 (name:=`g3) hT D6
    (C8 D6 hT P6 (el0 hh D hz e hTI h1 h2 hl1 hl2 `jE λh' e hk he=>hE h' e (`aAD) he) `mJ))
theorem b90{e:`f}{old:`v}{Q:`af}{R:`v->`pu}(he:`iV `W e it i old)
  (inner:∀(Q':`af),(∀x h₁,R x `eX->`iV `eX e it i old->Q' x { s with heap:=`eX })->`g `ao A (`CR `hS) Q' E s)
  (hQ:∀x h₁ h',R x `eX->`_M h' e it `jR x `h8->`hE `h8=`a { cls:=`fm,data:=`be #[`YZ,x] } ->
   (∀b o,`ud->`ayY)->Q (`_N) `YY) :
  `g `ao A (Builtin.«enumerate.__next__» ⟨[`aa e],[]⟩) `ag8 E s:=by
 obtain⟨hp,g,d,tk,os⟩:=s;show `aFJ;refine A0 (C6 he rfl (x:=`A?) rfl ?_);refine A0 (inner _ λx h₁ hR a2=>?_);show `g _ _ (`vw `jD 3>>=_) _ _ `_O;refine A0 (C6 a2 rfl (x:=`gc i) rfl ?_);show `g _ _ (`vw `jD 4>>=_) _ _ `_O;refine A0 (C6 a2 rfl (x:=`aF) rfl ?_);show `g _ _ (mkInt i>>=_) _ _ `_O;refine A0 (`aFF ?_);show `g _ _ (`K9 `jD 3 `QA>>=_) _ _ ⟨`eX,g,d,tk+1,os⟩;refine A0 (G0 a2 `Q λh₂ a8 O=>?_)
 replace O:`hN e `eX `mw:=O
 replace a8:`iV `mw e it `jR old:=a8
 show `g _ _ (`K9 `jD 4 `aF>>=_) _ _ ⟨`mw,g,d,tk+1,os⟩;refine A0 (G0 a8 `Q λh₃ b0 M=>?_)
 replace M:`hN e `mw h₃:=M
 replace b0:`iV h₃ e it `jR old:=b0
 show `g _ _ (newTuple [`aio,x]>>=_) _ _ ⟨h₃,g,d,tk+1,os⟩;refine A0 (x5 ?_);have a1:`iV (`aFK) e it `jR old:=B0 _ b0;generalize hh₄:`aFK=h₄ at a1;have b1:h₃.objs.size=`h8:=by rw[M.1,O.1]
 have a6:e<`h8:=A7 a2;have b3:`Ym `h8=`a `aip:=by rw[← hh₄,← b1];exact `cW
 have b2:∀b o,`ud->`CZ->`Ym b=`aj:=λb o J hb=>by
  rw[← hh₄];exact B0 _ (`qv b o J (O.extBut b o J hb))
 show `g _ _ (`ag3 `jD>>=_) _ _ ⟨h₄,g,d,tk+1,os⟩;rw[b1];refine `ca
 ·unfold Builtin.SmallTypes.ownedTupleIsFree
  refine A0 (C6 a1 rfl (x:=`aF) rfl `f5);simp only[`fO];refine `y?;refine A0 (C6 a1 rfl (x:=old) rfl ?_);refine A0 (G0 a1 `Q λh₅ a5 a0=>?_)
  replace a0:`hN e h₄ h₅:=a0
  replace a5:`iV h₅ e it `jR x:=a5
  show `g _ _ (`aAr `jD (`_N)>>=_) _ _ ⟨h₅,g,d,tk+1,os⟩;refine `ca
  ·unfold Builtin.SmallTypes.ownedTupleHandOut
   refine A0 (G0 a5 `Q λh₆ a7 a3=>?_)
   replace a3:`hN e h₅ h₆:=a3
   replace a7:`_M h₆ e it `jR x `h8:=a7
   refine G0 a7 `Q λh₇ a4 Z=>?_
   replace Z:`hN e h₆ h₇:=Z
   replace a4:`_M h₇ e it `jR x `h8:=a4
   refine A0 (d6 (A1 ⟨_,rfl,hQ x `eX h₇ hR a4 ?_ ?_⟩))
   ·exact `y8 _ _ `_P (`Jl _ _ `_P (`Wb _ _ `_P b3))
   ·exact λb o J hb=>`y8 b o J (`Jl b o J (`Wb b o J (b2 b o J hb)))
universe zz
set_option maxHeartbeats 1000000 in
theorem ml0(z TI TO:`f)(v:`v)(f:`X) :
  Meets (Builtin.«enumerate.__new__» ⟨[`DG,`h3],[]⟩) (λ_ R s=>`Zn /\
   R (.ok (`fk `e2)) { s with heap:=`aFL }) :=
 `IV λprog w A R s h=>by
  obtain⟨hp,g,d,tk,os⟩:=s;obtain⟨hl,h⟩:=h;have J:=sub_enumerate
  wp_walk using `yW
  refine wpAny_stack_any λst=>`bE
  split
  ·rename_i c _ _ _ _ _
   cases (c==`h2 `hT)
   ·wp_walk using `yW,`_Q
    exact`yX
   ·wp_walk using `yW,`_Q
    exact`yX
  ·wp_walk using `yW,`_Q
   exact`yX
theorem kn0{prog:`_}{w:`E}{A:`T}{E:`af}{s:`q}{TI TO:`f}{f:`X}{Q:`af}(hz:`Zn)
  (h:∀h',`iV h' `O z 0 `aF->`s0->`y0->`P0) :
  `g `ao A (`de (`DG) [`h3]) Q E s:=by
 refine callType_new F.called_enumerate `l (F.typeCall_enumerate_1 _) (F.newCall_enumerate_1 _) (λobj=>`azl) F.entry_enumerate_new
  (ml0 z TI TO v f) ⟨hz,?_⟩
 have he:`iV (`aFL) `O z 0 `aF:=`cW;exact⟨`_R,h _ he (by rw[`mH]) λb o x=>B0 _ x⟩
universe ZipL
namespace L2
open Spec PyProof.Rows
noncomputable def Tm0(K:`M)(a b:`f):It :=
 ⟨`azK,
   λi H v H'=>∃t u x y,v=`aa t/\H u=`c/\upd H u `qy t=`c/\H'=upd (upd H u `qy) t (`x [`e8,`aa u])/\`azL,
   `azM⟩
theorem dx0{P:`_}{w:`E}{K:`M}{elts:`ci}{x1}{pos:Pos}{e TI TO b:`f}(D:`YG)(hne:∀c∈`qA,c≠e) :
  `k1 P w K `YH `aFM `zF e
  (λi h=>(∃old,`iV h e z i old)/\`aAE) where
 mem:=`a!
 obj:=λi h st c hc=>by
  obtain⟨⟨old,he⟩,⟨v,f,hz,_⟩,hTI,⟨p,q,J⟩,⟨o1,e1,c1,d1⟩,⟨o2,e2,c2,d2⟩⟩:=st;simp only[`aI,`aS,`aT] at hc;rcases hc with rfl|rfl|rfl|rfl|rfl|rfl
  ·exact`azQ
  ·exact`YJ
  ·exact`YK
  ·exact`YL
  ·exact`Jw
  ·exact`YM
 keep:=λi h h' st k=>by
  obtain⟨⟨old,he⟩,⟨v,f,hz,hv⟩,hTI,⟨p,q,J⟩,h1,h2⟩:=st;exact⟨`azR,`aAF,`YN,`YO,`YP,`YQ⟩
 item:=by
  intro X hP hw hK hc i pins s σ H E I hf st hg;subst hP hw hK;obtain⟨⟨old,he⟩,hz,hTI,⟨p,q,J⟩,h1,h2⟩:=st;obtain⟨xs,ys,x,y,O,M,hx,hy⟩:=hg;obtain⟨us,a0,p1,z1⟩:=`s7;obtain⟨ws,Z,p2,z2⟩:=`s8;obtain⟨u,hu,ru⟩:=`YR;obtain⟨w,hw,c4⟩:=`YS;have hT:`aFN := `_R;have ez:e≠z:=(hne z `Q).symm;have b6:e≠TI:=(hne TI `Q).symm;have b4:e≠TO:=(hne TO `Q).symm;have b3:e≠i1:=(hne i1 `Q).symm;have b0:e≠i2:=(hne i2 `Q).symm;unfold pyNext;refine A0 (L7 (D8 (name:=`g3) hT A90
   (C8 A90 hT E90
    (ZipL.b90 he (R:=λv h'=>v=`ce/\`ahF h' z TI TO/\`Zo/\`CN i1 a `a4/\`CN i2 b `a4/\`ev h' `O u w/\`s0 /\
      `vz)
     (λQ' c5=>ZipL.c90 D hz hTI J h1 h2 `e3 `gd (x:=u) (y:=w) `r? `x? λh' a1 a2 a3 a4 a5 a6 hk=>c5 _ h' ⟨rfl,a1,a2,a3,a4,a5,a6,hk⟩ (hk _ _ ez b4 b3 b0 he))
     λv h₁ h' hR ho c8 c6=>`bE) (Ea0 _))))
  obtain⟨rfl,a1,a2,a3,a4,a5,a6,hk⟩:=hR;refine⟨_,rfl,Dg0 (s:=`YY) ho λa8 b1 hs=>?_⟩;have lt:`YT:=`YU
  obtain⟨v0,f0,c7,_⟩:=id hz;have le:=lt he;have lz:=lt c7;have e4:=lt J;have e3:=lt hTI;obtain⟨o1,e1,_⟩:=id h1;obtain⟨o2,e2,_⟩:=id h2;have l1:=lt e1;have l2:=lt e2;have b2:∀c∈`zF,c<`O:=λc hc=>by
   simp only[`aI,`aS,`aT] at hc;rcases hc with rfl|rfl|rfl|rfl|rfl|rfl<;>assumption
  obtain⟨I1,fr⟩:=`Jx (h':=`eX) (t':=`aG) (fp:=`zF) hf ru c4 b2 a5 (λc o hc e=>by
   simp only[`aI,`aS,`aT,`iP] at hc;exact `aFO)
  have up:∀c o,c≠e->`afF c=`aj->a8.get? c=`aj:=λc o hc q=>(`fq c hc).trans (c6 c o hc q)
  obtain⟨I2,c0⟩:=I1.turnedNew (h':=a8) (t':=`kP) (fp:=`zF) (x:=`e8) (u:=`YZ) (y:=`ce) (w:=`ce) `azJ `aM rfl
   (λc hc=>by show c<`h8;rw[a6];exact i0 (b2 c hc)) ((`fq _ (by show `h8≠e;rw[a6];exact C1 (i0 le))).trans c8) (λc o hc q=>by
   simp only[`aI,`aS,`aT,`iP] at hc;exact up c o `nN q)
  refine⟨`_N,_,I2,rfl,⟨_,`O,x,y,rfl,`f6,`pP,rfl,`azN,λe0 a7=>`azO⟩,
   ⟨`azS,?_,up _ _ b6.symm (`YW),?_,a3.at λo q=>up _ o b3.symm q,a4.at λo q=>up _ o b0.symm q⟩,c0⟩
  ·obtain⟨v,f,q1,q2⟩:=a1
   exact⟨v,f,up _ _ ez.symm q1,q2⟩
  ·obtain⟨p',q',r⟩:=a2
   exact⟨p',q',up _ _ b4.symm r⟩
 done:=by
  intro X hP hw hK hc i pins s σ H E I hf st hg;subst hP hw hK;obtain⟨⟨old,he⟩,hz,hTI,⟨p,q,J⟩,h1,h2⟩:=st;obtain⟨xs,ys,O,M,b5⟩:=hg;obtain⟨us,a0,p1,z1⟩:=`s7;obtain⟨ws,Z,p2,z2⟩:=`s8;have l1:=`YX;have l2:=`CA;have hT:`aFN := `_R;unfold pyNext;refine A0 (L7 (D8 (name:=`g3) hT A90
   (C8 A90 hT E90 ?_ (Ea0 _))))
  show `aFJ;refine A0 (C6 he rfl (x:=`h3) rfl ?_);refine A0 (ZipL.mr0 (A:=`Ir) `gv D hz hTI J h1 h2 `e3 `gd (b5.imp (`s9) `s9) λh' x hk d0=>?_);obtain⟨o,ho,c3⟩:=d0;refine A0 (S1 (T := `CX) (b:=`b) ⟨o,ho,c3⟩ x8 ?_);refine A1 ⟨rfl,`vG (t':=`aG) (fp:=`zF) hf `aho⟩;simp only[`aI,`aS,`aT,`iP] at hc;exact `aFO
 self:=λ_ _ _ _ _ st h=>by
  obtain⟨⟨old,he⟩,_⟩:=st;exact y9 he h
noncomputable def S30(K:`M)(ta:TA):TI:=fun σ H R=>ta σ H λvs H1=>∃a b,vs=`Y_/\`GQ/\`azT/\R `aFM H1
theorem Xz0{a:`G}{ta:TA}{p pos p2 pos2:Pos}(hg1:`JC)(hm1:`JD)(hg:`s')(hm:`s!)(ha:`GV)
  (e1:`aFP:=by rfl) (h1':`gy:=by rfl)
  (hs:`aFQ:=by rfl) (hs2:`aFR:=by rfl) :
  PI X `s? `aFS (S30 X.K ta):=by
 intro pins s σ H R I h;refine `sa (za0 I hg1 hm1 k70 ?_);refine E9 ?_ e1 h1';rw[e1];show `g _ _ (`r3 (`aiq::`Cc)) _ _ s;refine M1 ?_;refine P3 (za0 I hg hm `Y0 ?_);refine E9 (thn `azA λus s1 hq137=>?_) hs hs2;obtain⟨vs,H1,I1,r1,q1⟩:=hq137;obtain⟨qa,qb,e,⟨xs,h1⟩,⟨ys,h2⟩,q⟩:=q1;subst e;cases r1 with
 | cons r rr =>
  cases rr with
  | cons r' rr =>
   cases rr;obtain rfl:=r;obtain rfl:=r';obtain⟨us1,v1,p1,z1⟩:=`JA;obtain⟨us2,v2,p2,z2⟩:=`Y1;have a1:`Y2:=`Y3
   have a2:`Y4:=`Y5
   refine y6 `e3 `gd λh' hz hTI M hi1 hi2 O hk=>U1 ?_
   refine ZipL.kn0 (s:=`PV) hz λZ he a0 J=>?_
   refine y9 (s:={ s1 with heap:=Z }) he ?_;have sz:`f7=`ft+5:=O;refine⟨_,_,_,_,H1,rfl,`uq (t':=`Bd) λb o q=>J b o (hk b o q),dx0 `Jr (`aFT),⟨⟨_,he⟩,⟨_,_,J _ _ hz,`bL⟩,J _ _ hTI,⟨_,_,J _ _ M⟩,hi1.at `aFU,hi2.at `aFU⟩,`fM,q⟩
   ·simp only[`aI,`aS,`aT] at hc
    show c≠`f7;rw[sz];rcases hc with rfl|rfl|rfl|rfl|rfl<;>exact B1 `d
   ·simp only[`aI,`aS,`aT] at hb
    rcases hb with rfl|rfl|rfl|rfl|rfl|rfl
    ·show v50 X `j H1 `f7
     rw[sz];exact `pO (B4 _ 5) (`m? (B4 _ 5))
    ·exact `Y7
    ·exact `Y8
    ·exact `Y9
    ·exact `oP
    ·exact `JB
universe L2
namespace DL
open Spec PyProof.Rows L2
noncomputable def uo0(ds es:`p):`p:=z20 (`PW)
noncomputable def fk0:`HL
 | `X4=>`a (`Le)
 | _=>`c
theorem i40{es:`p}(h1:`sJ)(h2:`zb):(`Le)[i]?=`a (`aFV):=by
 have hz:`aht:=`ahu;unfold uo0 z20;rw[`cj,`I0 (by rw[`Y,`c4];omega),`eH,`cr,`cj,hz];rfl
noncomputable def th0(gA:`d!):`d!:=fun δ=>`kw fk0
section
variable{a:`G}
theorem b40(hm1:`JD)(hm:`s!)(ha:`Ig)(hg1:`JC := by rfl)(hg:`s' := by rfl)
  (e1:`aFP:=by rfl) (h1':`gy:=by rfl)
  (hs:`aFQ:=by rfl) (hs2:`aFR:=by rfl) :
  PID X `s? `aFS (th0 gA):=.mk λB δ=>`mC (Xz0 hg1 hm1 hg hm `bP e1 h1' hs hs2) fun σ H R hq138=>by
 obtain⟨items,en,e1,k⟩:=hq138
 unfold th0 at e1;cases e2:`cw with
 | none=>rw[e2] at e1;cases e1
 | some ds =>
  rw[e2] at e1;simp only[`w] at e1;unfold fk0 at e1;split at e1<;>try cases e1
  rename_i ds es;refine`sD;rw[n6] at r;obtain⟨x,t,rfl,r1,r⟩:=r;rw[n6] at r;obtain⟨y,t,rfl,r2,r⟩:=r;rw[m7] at r;subst r;rw[Y4] at r1 r2;obtain⟨q1,us,rfl,s1,t1⟩:=r1;obtain⟨q2,ws,rfl,s2,t2⟩:=r2;have J:(`Le).length=`ahq:=by unfold uo0 z20;simp[`vJ,`PX]
  refine`Y'
  ·rw[J] at hi
   have h1:i<`cz:=`h
   have h2:`JE:=`h
   exact`Y!
  ·obtain⟨t,u,x,y,rfl,hu,ht,rfl,hx,hy⟩:=y
   rw[J,`vJ,`PX] at hi;have h1:`sJ:=`h
   have h2:`zb:=`h
   obtain⟨x',e4,rx⟩:=`Y?;obtain⟨y',e5,ry⟩:=`Za;have ex:=`JF;have ey:=`Zb;rw[e4] at ex;rw[e5] at ey;cases ex;cases ey;have tu:t≠u:=λz=>by subst z;rw[j6] at ht;cases ht
   have M:H2 t=`c:=by rw[b7 tu] at ht;exact ht
   refine⟨(Z5 hu).trans (Z5 ht),`aFV,i40 h1 h2,`PZ⟩;exact t80 (λz=>hb t z M) j6 `u7 (t80 (λz=>hb u z hu) (by rw[b7 tu.symm,j6]) `P_ (ry.mono gB))
  ·rw[J] at hi
   exact`Zc
universe zz
universe DL
namespace SoT
open PyProof.Rows
section
variable{P:`_}{w:`E}{A:`T}{s:`q}
theorem W30{d:`v}{Q:`af}(col:∀(R:`ay9) (E:`af),(∀h' tk,`y0->R vs `hU)->`g `aA `bV (collect d) R E s)
  (hv:`JZ) (h64:`IL)
  (h:∀(h' h1:`H) (tk e:Nat) (out:`aZ),`y0->`_x->`K7->(∀b o,`m2->`Gk b=`aj) ->
   `Gk `f7=`a (`qR `cX out e)->Q (`Ho) { s with heap:=h1,toks:=tk }) :
  `g `aA A (`de `QN [d]) Q E s:=by
 refine E60 kind_sorted plain_sorted entry_sorted (args_sorted1 _) ?_;unfold Builtin.«sorted»;refine A0 (m:=checkCount `lC 1 1 _) (A1 (A0 (col _ _ λh' tk hk=>A0 (`aEP ?_))));obtain⟨g,hg⟩:∃g,g=`aFW:=`aM;have J:`Qw `f7=`a `air:=by rw[hg];exact `cW
 have kg:∀c o,`qt->`aET:=λc o e1=>by rw[hg];exact B0 _ (hk c o e1)
 obtain⟨M,Z⟩:=hv.to λc o e1 _=>kg c o e1
 show `g _ _ _ _ _ { s with heap:=`aFW,toks:=tk };rw[← hg];refine A0 (C3 (C8 slot_list_sort `Vy entry_list_sort (Rm0 (s:={ s with heap:=g,toks:=tk }) J M h64 λout p1 p2=>`PF) (args_list_sort _)));refine `Yn;have p3:`K7:=by
  rw[← `aBS λv hv=>Z v `aFX];exact p2
 have O:g.objs.size=`f7+1:=by rw[hg,`mH]
 obtain⟨e,he⟩:=sortedHeap_at (out:=out) J;refine h h' _ tk e out hk p1 p3 (λc o q=>?_) he;have lc:=A7 q;rw[sortedHeap_old (B1 lc) (by rw[O];exact i0 lc),hg];exact `Bq
universe zz
universe SoT
namespace L2
open Spec PyProof.Rows SoT
section
variable{s:`q}
theorem cj0:∀{ps:`eb} {ys:`C},KyV H `Lf ys->`aBT
 | [],[],_=>`ku
 | [],`bh,h=>`cE
 | `bh,[],h=>`cE
 | q::ps,`yH,h=>⟨h.1,cj0 h.2⟩
theorem ed0:∀{zs:`C} {qs:`eb} {z:V},`aBX->z∈zs->∃a,z=`cH/\∃xs,`Gd
 | [],_,_,_,hz=>by cases hz
 | `bh,[],_,h,_=>`cE
 | y::zs,`vi,z,h,hz=>by
  obtain⟨⟨b,e,hb⟩,h2⟩:=h;rcases `ZM with rfl|hz
  ·exact⟨b,e,_,hb⟩
  ·exact ed0 h2 hz
theorem ca0(hc:`b5:=by rfl):`dy X `QN (λxs H Q=>∃(d:`f) (kvs:`mm) (ps:`eb),xs=[`ll]/\`JR/\`O' `b9=`Lf/\`G? /\
  ∀l zs,`Bu->PrV H zs (`qS)->Q `nl (upd H l (`s zs))):=by
 intro pins s σ H xs us Q I r h;obtain⟨d,kvs,ps,rfl,e,a0,hn,k⟩:=h;obtain⟨u,rfl,rx⟩:=`kr;cases rx;obtain⟨z,hd,zs,rel,o,es,ep,h1,h2,h3,h4,h5⟩:=(show `b_ `bf X.w H `W d `Bv from `bt d _ e);have hl:=`Pb;have Z:`fZ=`kR:=by rw[← `bp,h4,`Y,hl]
 have ky:∀{a:`mm} {b:`ki},`bC `amy a b->KyV H (`SH) (b.map `QM):=by
  intro a b q
  induction q with
  | nil=>trivial
  | cons q t ih=>exact⟨⟨_,rfl,`pA⟩,ih⟩
 have hp:PrV H (`aFY) ps:=cj0 (by rw[← a0];exact ky rel);have rv:∀l:`ki,`bK (`c1 `QM) (`c1 `ait):=λl=>by
  induction l with
  | nil=>exact `ae
  | cons q l ih=>exact `au rfl ih
 obtain⟨i1,i2,i3⟩:=bo0 I (rv zs) hp;refine W30 (vs:=`aFZ) (λR E hR=>?_) ⟨i2,by rw[i1];exact hn⟩ (by rw[`Y,← hl];exact z) λh' a2 tk ee J hk p1 p2 a1 he=>?_
 ·refine W.kdu_collect (RawD.src (es:=es) (ep:=ep) hd) `gv `auy (by rw[Z];exact z) λh' tk O hk M=>?_
  have e1:O.toList=`aFZ:=by
   refine `K6
   cases hq:O.toList[i]? with
   | none =>
    rw[List.getElem?_eq_none_iff,`bp,M.1,Z] at hq;rw[`jm `e?]
   | some v =>
    obtain⟨en,e2,e3⟩:=M.2 i v (by rw[← `e7];exact hq);rw[← `e7,h4,`cj] at e2;rw[`cj];cases hz:zs[i]? with
    | none=>rw[hz] at e2;cases e2
    | some q=>rw[hz] at e2;cases e2;rw[e3];rfl
  rw[e1];exact hR h' tk hk
 ·have hs:J.toList.map `DD=`qS:=by
   refine Ty0 ?_ p2;have:=p1.map `DD
   rwa [i1] at this
  obtain⟨ys,y1,y2,y3⟩:=jf0 (H:=H) (h:=`W) (ys:=`aFY) (vs:=J.toList) λv hv=>i3 v `aFX
  rw[hs] at y2;have I1:`aoC:=`x_ (t':=tk) hk;refine⟨`Ho,_,`Bh (t':=tk) (a:=`f7) (o:=`uE) (λb o hb=>a1 b o hb) `aV ⟨?_,J.toList,ee,y1,he⟩,rfl,k _ ys (`pP) y2⟩;rw[y1.length,p1.length_eq,`Y,← hl];exact z
universe zz
universe L2
namespace DL
open Spec PyProof.Rows L2 SoT
noncomputable def kyP:`f9->`aK (`eb)
 | []=>`mx
 | [`oH,`m j]::ks=>(`zG).map λr=>`g9::r
 | _=>`c
noncomputable def t40:`K
 | [`aW (`lT) _]=>(`zG).bind λps=>if `G? then `aF_ else `c
 | _=>`c
theorem ab0:∀{ks:`f9} {ps:`eb},`zG=`a ps->ks=`ais
 | [],ps,h=>by unfold kyP at h;cases h;rfl
 | [`oH,`m j]::ks,ps,h=>by
  unfold kyP at h;cases e:`zG with
  | none=>rw[e] at h;cases h
  | some r=>rw[e] at h;cases h;rw[`al,← ab0 e]
 | []::_,_,h=>`zH
 | [_]::_,_,h=>`zH
 | (`i _::_)::_,_,h=>`zH
 | (_::`i _::_)::_,_,h=>`zH
 | (_::`JT)::_,_,h=>`zH
theorem b00:∀ps:`eb,kyP `Lf=`a ps
 | []=>rfl
 | q::ps=>by show (kyP (`jJ _)).map _=_;rw[b00 ps];rfl
theorem Y10{ps:`eb}(h1:`G?):t40 [`aW (`i `Lf) ds]=`aF_:=by
 show (kyP _).bind _=_;rw[b00,`w,`oT]
theorem Zc0(hc:`b5)(hm:`cv `lC=`c)(hv:`aF0)(ha:`bQ)(hg:Gl X `lC := by rfl)
  (he:`iK:=by rfl) (hpl:`gy:=by rfl) :
  PDF X (`bT (`bD `lC p) [e] [] pos) (oA `sZ t40):=.mk λB δ=>(s30 (ca0 hc) hg hm hv `I1 `l `l he hpl).imp fun σ H Q hq139=>by
 obtain⟨d,en,h,k⟩:=hq139
 unfold oA z9 v7 at h;cases e1:`aB with
 | none=>rw[e1] at h;cases h
 | some x =>
  rw[e1] at h;simp only[`w,`eH] at h;refine`I2;unfold t40 at h;split at h
  ·rename_i ks ds he1
   injection he1 with he1
   subst he1;cases e2:`zG with
   | none=>rw[e2] at h;cases h
   | some ps =>
    rw[e2] at h;simp only[`w] at h;split at h
    ·rename_i hz
     cases h;rw[m00] at r1;obtain⟨q,xs,rfl,_,hq,hl,rr⟩:=r1;refine⟨q,`BY,ps,rfl,hq,by rw[← ab0 e2];exact List.map_fst_zip (k7 hl),hz,λl zs J O=>?_⟩;refine k l _ `Ze `Zf ⟨zs,j6,?_⟩;refine Rps.same (Z5 J) (bk0 O λz hz=>?_);obtain⟨a,rfl,Z,M⟩:=ed0 O hz;exact⟨a,rfl,λw=>w.elim (λw=>(`sB a w).nt _ M) λw=>by subst w;rw[J] at M;cases M⟩
    ·cases h
  ·cases h
universe DL
namespace W
open DL
noncomputable def hasAll(x s:Str):`X:=x.cps.toList.all λc=>`I (c∈`D?)
noncomputable def nameS:Str := "0123456789abcdefghijklmnopqrstuvwxyz"
noncomputable def ky0:Str := " 0123456789abcdefghijklmnopqrstuvwxyz"
noncomputable def isName(x:Str):`X:=(`I (`_S<=8)&&hasAll x nameS)&&`I (0<`_S)
noncomputable def isWord(x:Str):`X:=`I (`_S<=20)&&hasAll x ky0
noncomputable def marks(x:D)(m:Str):`X:=match x with
 | `N y=>`I (y=m)
 | _=>`r
noncomputable def mm0:`fP
 | `A=>`b
 | `dM=>`b
 | `x [x,`ap]=>marks x "at"&&`I (`hY)
 | _=>`r
noncomputable def Nk0:D->Str
 | `x (`N n::_)=>n
 | _ => ""
inductive Pt where
 | text (w:Str)|row (vs:`p)|table (ps:`ed)|rcd (c:Str) (ps:`ed)
noncomputable def pr(p:`QO):D:=`x [`N p.1,p.2]
noncomputable def Pt.d:Pt->D
 | `tw=>`aF1
 | `tx=>`x [`QT,`x vs]
 | `pc=>`x [`wf,`q3]
 | `Lg=>`x [`DJ,`wN,`q3]
noncomputable def Pt.vals:Pt->`p
 | .text _=>[]
 | `tx=>vs
 | `pc=>`h9
 | `qT _ ps=>`h9
noncomputable def Pt.pnames:Pt->`t
 | .text _=>[]
 | .row _=>[]
 | `pc=>`n3
 | `qT _ ps=>`n3
noncomputable def Pt.cls:Pt->`t
 | `qT c _=>[c]
 | _=>[]
noncomputable def Pt.all(p:Pt):`t:=p.pnames++p.cls
noncomputable def lk:D->`bN
 | `_T=>`ya
 | _=>`c
structure PsOk(ps:`ed):Prop where
 len:`P<=12
 names:∀p∈ps,`ww p.1=`b
 vals:∀p∈ps,mm0 p.2=`b
 nd:(`n3).Nodup
noncomputable def Pt.Ok:Pt->Prop
 | `tw=>`aF2
 | `tx=>`q9/\∀v∈vs,`_U
 | `pc=>`_V
 | `Lg=>`ww c=`b/\`_V
theorem et0{n:Str}(h:`ww n=`b):`_G<=8:=by
 unfold isName at h;simp only[`dL,`pd] at h;omega
theorem ju0(ps:`ed):V1 `a6 noT `h' [.un] `lD=`aF3:=by
 rw[Q4 `aF4 (λd hd=>by
  obtain⟨p,hp,rfl⟩:=`dR;exact`aF5),`br]
 rfl
theorem hh0(ps:`ed):V1 `a6 noT `lE [.un] `lD=`aF6:=by
 rw[Q4 (λd=>`N (Nk0 d)) (λd hd=>by
  obtain⟨p,hp,rfl⟩:=`dR;exact`aF5),`br,`br]
 rfl
noncomputable def Pt.few(p:Pt):Prop:=`Eh<=`R
theorem kc0{v:D}(h:`_U):`q8∨(∃i,`xJ)∨∃i,v=`x [`gj,`ap]/\`hY:=by
 cases v with
 | non=>exact `bL
 | int i=>exact `Lh
 | tup xs =>
  match xs,h with
  | [x,`ap],h =>
   simp only[mm0,`dL,`pd] at h;cases x<;>simp[marks] at h
   exact `i (`i ⟨i,by rw[h.1],h.2⟩)
 | _=>cases h
noncomputable def R0:Str := `ai2
noncomputable def cg(i:Int):Nat:=`Li `dd 0
theorem eq0(i:Int)(h0:`hY)(h1:i<36):ixD (`wx) `dw=`a (`aF7):=by
 have hl:R0.cps.toList.length=36:=`aP
 have hz:R0.length<=`R:=`aP
 have:=G5 (xs:=R0.cps.toList) (i:=i) h0 (by rw[hl];omega) 0;simp only[ixD,`J hz,`u,`eH];rfl
theorem Zu0(i:Int)(h0:`hY)(h1:i<36):cg i∈`ty:=by
 have h:∀n:Nat,n<36->`Li n 0∈`ty:=`aP
 exact h `dd `d
theorem Sj0(i j:Int)(h0:`hY)(h1:i<36)(h2:0<=j)(h3:j<36)(e:cg i=cg j):i=j:=by
 have h:∀n:Nat,n<36->∀m:Nat,m<36->`Li n 0=`Li m 0->n=m:=`aP
 have:=h `dd `d `oh `d e;omega
noncomputable def ones(l:`k):`t:=`c1 λc=>`afl
noncomputable def strOf(l:`k):Str:=⟨`_W⟩
theorem join_ones(l:`k):`afQ "" (ones l)=`we:=by
 have key:∀(l:`k) (J:`k),`aF8 (λa p=>a++`QQ++p.cps) `wd=(J++l).toArray:=by
  intro l
  induction l with
  | nil=>intro J;simp[ones]
  | cons c l ih =>
   intro J;show `aF8 _ (`aF9)=_;have e:`aF9=(J++[c]).toArray:=by
    have:`QQ=#[]:=rfl;rw[`u];simp
   rw[e,ih];simp
 cases l with
 | nil=>rfl
 | cons c l =>
  show `aF'=_;unfold strOf;congr 1;exact key l [c]
theorem k30:∀l:`k,`aF!=`b8
 | []=>rfl
 | c::l=>by
  show 1+`aF!=`b8+1;rw[k30 l];omega
theorem k40(l:`k)(h1:0<`b8)(h2:`b8<=8)(h3:∀c∈l,c∈`ty):`ww `zI=`b:=by
 unfold isName hasAll;have e:`aF?:=`aGa
 have e2:`aGb:=`aGc
 rw[e,e2];simp only[`dL,`pd,`ix];exact⟨`aGd,`h⟩
theorem lu0{l m:`k}(h:`we=`ba m):l=m:=by
 unfold strOf at h;injection h with h
 simpa using D9 `NQ h
universe W
namespace Ka
open DL
noncomputable def q10:GS:=(v9 (ifD (zm0 `pe `pf)
 (v9 `Lj
 o4)
 o4)
 (v9 (zt0 (Y0 1 [] `Lk `a6 noT `lE))
 o4))
noncomputable def vz0:`t:=`d7
noncomputable def G6:`K:=mkN 1 vz0 q10
noncomputable def a90:GS:=(v9 (ifD `pe
 (v9 (d9 (Z8 (z9 `QS `QW)))
 o4)
 o4)
 (v9 (ifD `pf
 (v9 `aGe
 o4)
 o4)
 (v9 (ifD `aGf
 (v9 (d9 (Z8 (z9 `DI `aGg)))
 o4)
 o4)
 (v9 (d9 (Z8 (z9 `_X (z9 `h' `aGg))))
 o4))))
noncomputable def aw0:`t:=`d7
noncomputable def V5:`K:=mkF 1 aw0 a90
noncomputable def i70:GS:=(v9 (ifD `pe
 (v9 `Lj
 o4)
 o4)
 (v9 (ifD `pf
 (v9 `aGh
 o4)
 o4)
 (v9 (zt0 (Y0 1 [] `Lk `a6 noT `h'))
 o4)))
noncomputable def po0:`t:=`d7
noncomputable def m_values:`K:=mkN 1 po0 i70
noncomputable def sm0:GS:=(v9 (ifD `pe
 (v9 `Ll
 o4)
 o4)
 (v9 (ifD `pf
 (v9 `_Y
 o4)
 o4)
 (v9 (m5 `d3 (oA (z9 `aiv `jS) ob0))
 (v9 (ifD `aGf
 (v9 (d9 (Z8 (z9 `DI `dF)))
 o4)
 o4)
 (v9 (d9 (Z8 (z9 `_X (z9 `h' `dF))))
 o4)))))
noncomputable def sf0:`t:=[`lG, `FE, `Fi]
noncomputable def y50:`K:=mkF 2 sf0 sm0
noncomputable def fi0:GS:=(v9 (zt0 (Y0 1 [] `aGi `a6 `RA `h'))
 o4)
noncomputable def m70:`t:=`d7
noncomputable def xy0:`K:=mkN 1 m70 fi0
noncomputable def lj0:GS:=(v9 `zJ
 (v9 (N7 4 (oA `dF td0))
 (v9 (N7 5 (V6 `jS))
 (v9 (S8 `aGj
 (v9 `aGk
 (v9 (ifD `aGl
 (v9 `aGm
 (v9 (Y7 `_Z)
 (v9 (Y7 (ny0 5 (oA (z9 (oA (z9 (`aGn) v7) xy0) v7) o00)))
 o4)))
 o4)
 o4)) 100000)
 (v9 `__
 o4)))))
noncomputable def k50:`t:=[`cR, "k", "left", `oA, "seen", "waiting", `lG]
noncomputable def v30:`K:=mkN 3 k50 lj0
noncomputable def Wk0:GS:=(v9 (zt0 (oA (z9 `U (z9 `ax (z9 `DL v7))) v30))
 o4)
noncomputable def Wo0:`t:=`gC
noncomputable def wv0:`K:=mkN 2 Wo0 Wk0
noncomputable def o50:GS:=(v9 (m5 `d3 (Y0 1 [1] `aGi `a6 noT (ifG `RA (Z8 (z9 `ws (z9 (o2 `ax `h' G8) v7))) `U)))
 (v9 (d9 (oA `DW y50))
 o4))
noncomputable def tr0:`t:=[`lG, `rJ, `FE]
noncomputable def U3:`K:=mkF 2 tr0 o50
noncomputable def e80:GS:=(v9 (m5 `d3 (hf0 (oA `l9 wv0)))
 (v9 `_0
 (v9 (J1 (qh0 `dF) `Lm
 (v9 (J2 (z10 `bb) (`ls 3 `bW))
 o4))
 (v9 (d9 (xr0 (oA (z9 (Y0 1 [0,3] `_1 `a6 noT `ST) v7) Q3)))
 o4))))
noncomputable def m90:`t:=[`cR, "k", `oA, `rJ, `_2, `lG]
noncomputable def wq0:`K:=mkF 2 m90 e80
noncomputable def p90:GS:=(v9 (d9 (u50 (O5 `dk `lE) (O5 `dk `h')))
 o4)
noncomputable def ut0:`t:=`mc
noncomputable def W8:`K:=mkF 1 ut0 p90
noncomputable def sr0:GS:=(v9 (d9 (Z8 (z9 (o2 `lE `a? ixD) (z9 (o2 `h' `a? ixD) v7))))
 o4)
noncomputable def sg0:`t:=`mc
noncomputable def Z1:`K:=mkF 1 sg0 sr0
noncomputable def si0:GS:=(v9 (ifD (ob `aGo)
 (v9 (m5 `c7 (oA `dF Z1))
 (v9 (d9 (o2 `aGp `aGq W7))
 o4))
 o4)
 (v9 (d9 (o2 `qU `wk W7))
 o4))
noncomputable def ss0:`t:=[`h?, `ia, `wi, `jW]
noncomputable def N6:`K:=mkF 3 ss0 si0
noncomputable def jo0:GS:=(v9 `aGr
 (v9 (m5 `c7 (o2 `U `ax G8))
 (v9 (S8 `aGs
 (v9 (Y7 (S9 2 `wj))
 (v9 `aGt
 o4)) 100000)
 (v9 (zt0 (xr0 (oA `dF o00)))
 o4))))
noncomputable def gi0:`t:=[`Tn, `jW, "backward", "step"]
noncomputable def wj0:`K:=mkN 2 gi0 jo0
noncomputable def sl0:GS:=(v9 `aGu
 (v9 (ifD `Ln
 (v9 `aGv
 o4)
 o4)
 (v9 (N7 4 (V6 `dF))
 (v9 (m5 `eB `cQ)
 (v9 (S8 `aGw
 (v9 `aGx
 (v9 `aGy
 (v9 (J1 `aGz `rs
 (v9 (ifD `aGA
 (v9 `aGB
 o4)
 o4)
 (v9 (ifD `aGC
 (v9 `aGD
 (v9 `aGE
 o4))
 o4)
 o4)))
 o4))) 100000)
 (v9 (d9 (xr0 (Z8 (z9 `bc (z9 `jU v7)))))
 o4))))))
noncomputable def xj0:`t:=[`h?, `ia, "start", `Tn, "waiting", `_2, `jW, "place", `wi]
noncomputable def Y5:`K:=mkF 3 xj0 sl0
noncomputable def ru0:GS:=(v9 `aGF
 (v9 (ifD `aGG
 (v9 `tz
 o4)
 o4)
 (v9 (d9 `aGH)
 o4)))
noncomputable def rz0:`t:=`aGI
noncomputable def O4:`K:=mkF 3 rz0 ru0
noncomputable def sd0:GS:=(v9 (d9 (o2 `aiU `a? ixD))
 o4)
noncomputable def sh0:`t:=`pg
noncomputable def R8:`K:=mkF 3 sh0 sd0
noncomputable def qz0:GS:=(v9 (d9 (u50 `aGJ (xa0 `cQ `wk `DX leD ltD)))
 o4)
noncomputable def p30:`t:=`Lo
noncomputable def ya0:`K:=mkF 3 p30 qz0
noncomputable def qv0:GS:=(v9 (ifD `Ln
 (v9 `fW
 o4)
 o4)
 (v9 (J1 (sa0 `aGK) `d6
 (v9 (ifD `aGL
 (v9 (ifD `aGM
 (v9 `fW
 o4)
 o4)
 o4)
 (v9 (ifD `aGN
 (v9 `fW
 o4)
 o4)
 o4))
 o4))
 (v9 (d9 `DK)
 o4)))
noncomputable def p70:`t:=[`h?, `ia, `jW, `FO, `wi]
noncomputable def y80:`K:=mkF 4 p70 qv0
noncomputable def ri0:GS:=(v9 (m5 `c7 (oA (z9 (Y0 1 [] `_1 `a6 noT (Z8 (z9 `U (z9 `DK v7)))) v7) gs0))
 (v9 (d9 (oA (z9 (Y0 1 [0,1,3] `_1 `a6 noT `aGO) v7) Ym0))
 o4))
noncomputable def wa0:`t:=[`h?, `ia, `Fi, `FO]
noncomputable def ys0:`K:=mkF 3 wa0 ri0
noncomputable def uk0:GS:=(v9 (ifD (nt0 (ob (O5 `dk `ax)))
 (v9 `Lj
 o4)
 o4)
 (v9 (zt0 (oA (z9 (o2 `U (o2 `ax `a? ixD) ixD) v7) `g5))
 o4))
noncomputable def uf0:`t:=`Lp
noncomputable def z80:`K:=mkN 2 uf0 uk0
noncomputable def n60:GS:=(v9 (m5 `c7 (Z8 (z9 `ws `dF)))
 (v9 (J1 (qh0 `jS) `Lm
 (v9 `aGP
 (v9 (ifD `aGQ
 (v9 ni0
 o4)
 o4)
 (v9 `aGR
 o4))))
 (v9 (d9 `bc)
 o4)))
noncomputable def o30:`t:=[`cR, "way", "k", `wm, `_2, "place", `FE]
noncomputable def R7:`K:=mkF 3 o30 n60
noncomputable def uy0:GS:=(v9 (ifD (ob (o2 `ax `lH ltD))
 (v9 (d9 `ajQ)
 o4)
 o4)
 (v9 (d9 `cQ)
 o4))
noncomputable def ux0:`t:=`FY
noncomputable def j5:`K:=mkF 2 ux0 uy0
noncomputable def p50:GS:=(v9 `aGS
 (v9 `aGT
 (v9 `aGU
 (v9 `aGV
 (v9 (J1 (O1 `jX) `eB
 (v9 `aGW
 (v9 `aGX
 o4)))
 (v9 `aGY
 (v9 (ifD (ob (o2 (o2 (o2 `ax `g6 V0) `n6 Z6) `a? eqD))
 (v9 (zt0 (Y0 1 [6] (dj0 (z9 `a? `ak3)) `a6 noT (J9 (o2 `g6 `ax l60) z70 (`g7 `U))))
 o4)
 o4)
 (v9 (m5 `wq (o2 `ax `bc Z6))
 (v9 (N7 8 `lF)
 (v9 (J1 (O1 (z9 `g6 v7)) `eB
 (v9 `aGZ
 (v9 `aG_
 o4)))
 (v9 (l30 8)
 o4)))))))))))
noncomputable def wz0:`t:=[`n4, `xy, `alC, "_law_size", "_law_places", `fC, `alD, "_law_at", `Lq, "_law_sign"]
noncomputable def yx0:`K:=mkN 2 wz0 p50
noncomputable def oo0:GS:=(v9 (d9 (o2 (o2 (o2 (o2 `U `wp Z6) `a? Z3) (o2 `Q8 (o2 `SU `ax J0) Z3) J0) `wp Z6))
 o4)
noncomputable def ot0:`t:=`FS
noncomputable def U7:`K:=mkF 2 ot0 oo0
noncomputable def qe0:GS:=(v9 (m5 `d3 `aG0)
 (v9 (ifD (ob (o2 `bi `Fj ltD))
 (v9 (d9 (Z8 (z9 `ws (z9 (o2 `_3 `ax Z6) v7))))
 o4)
 o4)
 (v9 (ifD (ob (o2 `bi `Fj eqD))
 (v9 `tz
 o4)
 o4)
 (v9 (ifD (ob (o2 `bi `Q5 ltD))
 (v9 (d9 (o2 (o2 `_3 `n6 Z6) `a? Y80))
 o4)
 o4)
 (v9 (d9 (o2 (o2 (o2 `_3 `SU iu0) (o2 `Q7 `Q! iu0) Z6) (o2 `a? (o2 `jY (o2 (o2 `U (gc (`e 20)) V0) `jY Z6) J0) Y80) J0))
 o4)))))
noncomputable def rm0:`t:=[`mf, `oB, `aG1]
noncomputable def K4:`K:=mkF 2 rm0 qe0
noncomputable def sv0:GS:=(v9 `zJ
 (v9 (J1 `Lr `d6
 (v9 `aG2
 (v9 `aG3
 o4)))
 (v9 `__
 o4)))
noncomputable def se0:`t:=[`mf, `Tw, `oB, `Lq, `fC]
noncomputable def y30:`K:=mkN 3 se0 sv0
noncomputable def qy0:GS:=(v9 (m5 `c7 `Q2)
 (v9 (ifD `aG4
 (v9 (d9 (Z8 (z9 `QS (z9 (o2 `aG5 `aG6 ixD) v7))))
 o4)
 o4)
 (v9 (ifD `aG7
 (v9 `_Y
 o4)
 o4)
 (v9 (m5 `d6 `aG8)
 (v9 (m5 `eB `aG9)
 (v9 (ifD (ob (o2 `bc `Fj ltD))
 (v9 (d9 (Z8 (z9 `DI `QX)))
 o4)
 o4)
 (v9 (d9 (Z8 (z9 `_X (z9 (o2 `bi (o2 `ajb `jY Z6) ixD) `QX))))
 o4)))))))
noncomputable def us0:`t:=[`mf, `jZ, `rL, `aG1, `alE, "_law_pairs"]
noncomputable def xb0:`K:=mkF 3 us0 qy0
noncomputable def o60:GS:=(v9 `zJ
 (v9 (J1 `Lr `d6
 (v9 `aG'
 (v9 `aG!
 (v9 (ifD `aG?
 (v9 `aHa
 o4)
 o4)
 (v9 `aHb
 (v9 `aHc
 o4))))))
 (v9 `aHd
 o4)))
noncomputable def nl0:`t:=[`alF, `oB, `rL, `aHe, `fC, `mf, `Tw, `jZ]
noncomputable def wg0:`K:=mkF 3 nl0 o60
noncomputable def p10:GS:=(v9 (ifD `pe
 (v9 `Lj
 o4)
 o4)
 (v9 (ifD `pf
 (v9 `aGh
 o4)
 o4)
 (v9 (zt0 (Y0 2 [] `Lk `Ls noT `ax))
 o4)))
noncomputable def uu0:`t:=`mi
noncomputable def Z0:`K:=mkN 1 uu0 p10
noncomputable def qx0:GS:=(v9 (ifD `pf
 (v9 `aGe
 o4)
 o4)
 (v9 (ifD `pe
 (v9 `Ll
 o4)
 o4)
 (v9 (d9 (o2 `_4 (Z8 (z9 (oA (z9 (Y0 2 [] `Lk `Ls noT `U) v7) Q3) v7)) Z3))
 o4)))
noncomputable def ur0:`t:=`mi
noncomputable def V8:`K:=mkF 1 ur0 qx0
noncomputable def p40:GS:=(v9 (ifD `pe
 (v9 `Ll
 o4)
 o4)
 (v9 (ifD `pf
 (v9 `_Y
 o4)
 o4)
 (v9 (d9 (o2 `_4 `aHf Z3))
 o4)))
noncomputable def uq0:`t:=`FV
noncomputable def W9:`K:=mkF 2 uq0 p40
noncomputable def nh0:GS:=(v9 `aGr
 (v9 (J1 (J8 (oA `h! Z0)) `c7
 (v9 (ifD `Sz
 (v9 `aHg
 o4)
 o4)
 (v9 (Y7 `_5)
 o4)))
 (v9 (d9 (xr0 (oA `DW W9)))
 o4)))
noncomputable def nu0:`t:=[`wr, `TB, `jZ, `Tz]
noncomputable def J6:`K:=mkF 2 nu0 nh0
noncomputable def su0:GS:=(v9 `zJ
 (v9 (J1 (O1 `aHh) `d6
 (v9 (J1 `Lr `eB
 (v9 `aHi
 (v9 `aHj
 (v9 (J1 `aHk `DZ
 (v9 `aHl
 (v9 (ifD `aHm
 (v9 `aHn
 o4)
 o4)
 (v9 (Y7 `_6)
 o4))))
 (v9 `aHo
 o4)))))
 o4))
 (v9 `aHd
 o4)))
noncomputable def sk0:`t:=[`FW, `alG, `n4, `aHe, `fC, `xy, `jZ, `mf, `Tz]
noncomputable def T4:`K:=mkF 3 sk0 su0
noncomputable def rb0:GS:=(v9 (m5 `d3 (oA (z9 (oA (z9 `U (z9 `cQ v7)) j5) (z9 (oA (z9 `U `aje) j5) v7)) yx0))
 (v9 (m5 `c7 (oA (z9 `U (z9 `jY v7)) j5))
 (v9 (m5 `d6 (o2 `a? (o2 `bc `ax Z6) Z3))
 (v9 (d9 (oA (z9 (o2 `aHp `aHq Z3) (z9 `bb `dF)) wg0))
 o4))))
noncomputable def q80:`t:=[`lI, `alH, `rL, `xy, `oB]
noncomputable def G3:`K:=mkF 2 q80 rb0
noncomputable def ti0:GS:=(v9 (m5 `d3 `aHr)
 (v9 (N7 3 `aHs)
 (v9 (ifD (uv0 `aHt)
 (v9 `Ll
 o4)
 o4)
 (v9 (m5 `d6 (o2 (o2 `ax `Q! V0) (v60 `ak8) Z6))
 (v9 (J2 (z10 (oA (z9 (o2 (o2 `ax (gc (`e 240)) V0) (gc (`aHu)) Z6) `aHh) K4)) (setAt 3 `bb))
 (v9 (d9 (xr0 (o2 (o2 (J9 `U z70 (`g7 `bi)) (Z8 `aHv) Z3) (J9 `U `aHw z70) Z3)))
 o4))))))
noncomputable def ta0:`t:=[`FW, `n4, `fC, `jZ, "_law_at"]
noncomputable def M4:`K:=mkF 2 ta0 ti0
noncomputable def r00:GS:=(v9 `zJ
 (v9 (m5 `d6 `aHx)
 (v9 (m5 `eB `aHy)
 (v9 (ifD (ob (`aHz))
 (v9 `tz
 o4)
 o4)
 (v9 (J1 (O1 `aHA) `jT
 (v9 (ifD `aHB
 (v9 `aHC
 o4)
 (v9 (ifD `aHD
 (v9 `tz
 o4)
 o4)
 o4))
 o4))
 (v9 (d9 (xr0 `bc))
 o4))))))
noncomputable def rq0:`t:=[`l4, `ow, `TC, `Lq, `akJ, `akK, `fC]
noncomputable def zu0:`K:=mkF 3 rq0 r00
universe Ka
namespace Pn
open Ka
open DL W
theorem N5(p:Pt)(h:`dS):`Lt:=by
 cases p with
 | text w=>kernel_rfl
 | row vs =>
  refine `aHE
 | table ps =>
  refine `aHF;exact `aHG
 | rcd c ps =>
  refine `aHH;exact `aHG
theorem so0(p:Pt)(h:`dS):G6 `j_=`a (`s (p.pnames.map `N)):=by
 cases p with
 | text w=>kernel_rfl
 | row vs=>kernel_rfl
 | table ps =>
  refine N8 rfl `ajt;exact `aHI
 | rcd c ps =>
  refine N8 rfl `ajv;exact `aHI
noncomputable def hd:Pt->D
 | `tw=>`aF1
 | `tx=>`x [`QT,`e `bm]
 | `pc=>`x [`wf,`D4]
 | `Lg=>`x [`DJ,`wN,`D4]
noncomputable def put:Pt->`p->Pt
 | `tw,_=>`tw
 | .row _,vs=>`tx
 | `pc,vs=>.table (`Re)
 | `Lg,vs=>`qT c (`Re)
theorem xx0(p:Pt)(h:`dS):V5 `j_=`a (hd p):=by
 have e:=so0 p h;cases p with
 | text w=>kernel_rfl
 | row vs=>kernel_rfl
 | table ps =>
  refine j7 rfl (p6 (δ':=`qX) `cb (p6 (δ':=`qX) `cb `e'));rw[`D0];refine n8 (Z4 (V3 (`y rfl `aHJ) `re));rw[o9 (`y `aHK rfl)];rfl
 | rcd c ps =>
  refine j7 rfl (p6 (δ':=`n7) `cb (p6 (δ':=`n7) `cb (p6 (δ':=`n7) `cb ?_)));refine n8 (Z4 (V3 (`y rfl (`y (d:=`wN) rfl `aHJ)) (by show 3<=`R;decide)));rw[o9 (`y `aHL rfl)];rfl
theorem Zm0(ns:`t)(vs:`p):ob0 [`s `ajw,`jl]=`a (`x ((ns.zip vs).map pr)):=by
 simp only[ob0];rw[List.zip_map_left,`br];rfl
theorem t60(p:Pt)(h:`dS)(vs:`p):y50 `Rv=`a (put p vs).d:=by
 have e:=so0 p h;cases p with
 | text w=>kernel_rfl
 | row us=>kernel_rfl
 | table ps =>
  refine j7 rfl (p6 (δ':=`aHM) `cb (p6 (δ':=`aHM) `cb (p6 `aHN `e')))
  ·rw[o9 (`y `aHK `n?)]
   exact Zm0 _ _
  ·rw[`D0]
   rfl
 | rcd c ps =>
  refine j7 rfl (p6 (δ':=`aHO) `cb (p6 (δ':=`aHO) `cb (p6 `aHN
   (p6 (δ':=[`D3,`cS,.sh (`wv)]) `cb ?_))))
  ·rw[o9 (`y `aHL `n?)]
   exact Zm0 _ _
  ·rfl
theorem Yy0(h:∀d∈l,`lo):`b! l n=`b:=by
 induction l with
 | nil=>unfold leans;rfl
 | cons d l ih =>
  unfold leans;rw[`zK,`_7];rfl
theorem u90(s:Str)(n:Nat):`bo `Lu n=`b:=`aHP
theorem vo0(h:∀d∈l,`lo):`bo `xC `b2=`b:=by unfold lean;exact Yy0 h
mutual
theorem jp0:`awU
 | `A,_,_=>`awV
 | `en,_,_=>`sV
 | `o4,_,_=>`sV
 | `HQ,_,_=>`sV
 | `bO,0,h=>by unfold lean at h;cases h
 | `bO,n+1,h=>`aHQ
 | `dB,0,h=>by unfold lean at h;cases h
 | `dB,n+1,h=>`aHQ
 | `iI,n,h=>by unfold lean at h;cases h
 | `iJ,n,h=>by unfold lean at h;cases h
theorem rl0:`awX
 | [],_,_=>`awY
 | `aC,n,h=>by
  unfold leans at h;rw[`dL] at h;unfold G4;rw[jp0 d n h.1,rl0 ds n h.2];rfl
end
mutual
noncomputable def nb:`fP
 | `cq=>`r
 | `iI=>`r
 | `iJ=>`r
 | `ek=>nbs xs
 | `f1=>nbs xs
 | _=>`b
noncomputable def nbs:`Xb
 | []=>`b
 | `sj=>nb x&&nbs xs
end
mutual
theorem cn0:∀(d e:D),`Lv->nb e=`b->`vq=`b->d=e
 | `A,e,_,h2,h=>by cases e<;>unfold deq at h<;>first|rfl|(cases h)
 | `en,e,h1,_,_=>by unfold nb at h1;cases h1
 | `ap,e,_,h2,h=>by
  cases e<;>unfold deq at h<;>first|(cases h;done)|(unfold nb at h2;cases h2;done)|(rw[`ua] at h;rw[h])
 | `cV,e,_,h2,h=>by cases e<;>unfold deq at h<;>first|(cases h;done)|(rw[`ua] at h;rw[h])
 | `ek,e,h1,h2,h=>by
  cases e<;>unfold deq at h<;>try (cases h;done)
  unfold nb at h1 h2;rw[`aHR]
 | `f1,e,h1,h2,h=>by
  cases e<;>unfold deq at h<;>try (cases h;done)
  unfold nb at h1 h2;rw[`aHR]
 | `iI,e,h1,_,_=>by unfold nb at h1;cases h1
 | `iJ,e,h1,_,_=>by unfold nb at h1;cases h1
theorem nz0:∀(ds es:`p),nbs ds=`b->nbs es=`b->G4 ds es=`b->ds=es
 | [],[],_,_,_=>rfl
 | [],`bh,_,_,h=>by unfold G4 at h;cases h
 | `bh,[],_,_,h=>by unfold G4 at h;cases h
 | `aC,`uo,h1,h2,h=>by
  unfold nbs at h1 h2;unfold G4 at h;rw[`dL] at h1 h2 h;rw[cn0 d e h1.1 h2.1 h.1,nz0 ds es h1.2 h2.2 h.2]
end
theorem R40(h:∀d∈l,`Lv):nbs l=`b:=by
 induction l with
 | nil=>unfold nbs;rfl
 | cons d l ih =>
  unfold nbs;rw[`zK,`_7];rfl
structure Pl(d:D):Prop where
 le:`aHS
 nb:`Lv
theorem rd0{d:D}(h:`aHS):W7 d d=`iF:=by
 unfold W7;rw[`J ⟨h,h⟩,jp0 d 50 h];rfl
theorem rg0{d e:D}(h1:Pl d)(h2:Pl e)(n:d≠e):W7 d e=`hd:=by
 unfold W7;rw[`J ⟨h1.le,h2.le⟩];cases q:`vq with
 | false=>rfl
 | true=>exact `L (cn0 d e h1.nb h2.nb q) n
theorem y70(s:Str):nb `Lu=`b:=`aHT
theorem Sz0(i:Int):nb `dw=`b:=`aHT
theorem zr0(h:∀d∈l,`Lv):nb `xC=`b:=by unfold nb;exact R40 h
theorem xi0(p:Pt):Pl (hd p):=by
 have ls:∀(ns:`t) (n:Nat),`bo `aHU `b2=`b:=λns n=>vo0 λd hd=>by
  obtain⟨q,_,rfl⟩:=`dR;exact `zL
 have nn:∀(ns:`t),nb `aHU=`b:=λns=>zr0 λd hd=>by
  obtain⟨q,_,rfl⟩:=`dR;exact `zM
 have li:∀(i:Int) (n:Nat),`bo `dw n=`b:=λi n=>`aHP
 cases p with
 | text w=>exact⟨vo0 λd hd=>by simp only[`aI,`aS,`aT] at hd;rcases hd with rfl|rfl<;>exact `zL,zr0 λd hd=>by simp only[`aI,`aS,`aT] at hd;rcases hd with rfl|rfl<;>exact `zM⟩
 | row w=>exact⟨vo0 λd hd=>by simp only[`aI,`aS,`aT] at hd;rcases hd with rfl|rfl<;>first|exact `zL|exact li _ _,zr0 λd hd=>by simp only[`aI,`aS,`aT] at hd;rcases hd with rfl|rfl<;>first|exact `zM|exact Sz0 _⟩
 | table w=>exact⟨vo0 λd hd=>by simp only[`aI,`aS,`aT] at hd;rcases hd with rfl|rfl<;>first|exact `zL|exact ls _ _,zr0 λd hd=>by simp only[`aI,`aS,`aT] at hd;rcases hd with rfl|rfl<;>first|exact `zM|exact nn _⟩
 | rcd c w=>exact⟨vo0 λd hd=>by simp only[`aI,`aS,`aT] at hd;rcases hd with rfl|rfl|rfl<;>first|exact `zL|exact ls _ _,zr0 λd hd=>by simp only[`aI,`aS,`aT] at hd;rcases hd with rfl|rfl|rfl<;>first|exact `zM|exact nn _⟩
universe Pn
namespace W
open DL StrLaws Builtin.Str
theorem w40(l:`k):`aGb:=`aGc
theorem yj0(l:`k):`aF?:=`aGa
theorem Y70(x:`Zg):`ba x.cps.toList=x:=by cases x;simp[`ba]
universe W
namespace Gw
open Ka
open DL W StrLaws
theorem mul_r(i j:Int)(h:`aeY):`aHV:=by simp only[J0];rw[`J (`HA)]
theorem Wp0(i j:Int)(h:`aeX):`aHV:=by simp only[J0];rw[`J (`m9)]
theorem xn0(i j:Int)(h:0<j):Z6 `dw (`eo)=`asN:=by simp only[Z6,ii];rw[`iH]
theorem in0(i j:Int)(h:`G_):V0 `dw (`eo)=`asM:=by simp only[V0,ii];rw[`iH]
theorem u60{g:GE}{d:D}(h1:`lj=`a l)(h2:`oY)(h3:`b8<`R):Y7 (S9 i g) δ=`a (.nx (`df i (.ow (`s (l++[d]))))):=by
 unfold Y7 S9;rw[h1,h2];simp only[`w];rw[`J h3];rfl
theorem wn0(ns:`bk)(k:Int)(h0:`lP):`_8:=by
 by_cases h:k<`p3
 ·have J:`yc<`p3:=`h
  refine⟨ns[`yc],`Lw⟩;rw[T3 (by
   show `aHW;rw[`bS `_9])]
  refine `wD;show atI `_' k=_;rw[G5 h0 `_9 `A];simp[`cr,J]
 ·refine⟨0,j7 rfl (p6 (δ':=[`gr,.sh (`n8)]) ?_ rfl)⟩
  rw[Z2 (by
   show `aHW;rw[`bZ `_9])]
  rfl
theorem Yb0(l:`k)(n:Nat):Y20 `zI `cM=`ba (`et n l).flatten:=by
 have key:∀(k:Nat) (J:`Zj),(`et k `_W).foldl `qi J=J++(`et k l).flatten.toArray:=by
  intro k
  induction k with
  | zero=>intro J;simp
  | succ k ih=>intro J;rw[`JI,`ta,ih,`JI,`zA];simp
 unfold Y20;show (⟨(`et (`cM).toNat `_W).foldl `qi #[]⟩:Str)=`QR;rw[`aR,key];simp
theorem Z80(l:`k)(k:Int)(h0:`lP)(h1:k<=`b8):`OW `zI `c (`eG)=`ba (l.take `yc):=by
 show `aHX;rw[sliceText_to `aHY,w40];simp[`ba]
theorem Qa0(l:`k)(k:Int)(h0:`lP)(h1:k<=`b8):`OW `zI (`eG) `c=`ba (l.drop `yc):=by
 show `aHX;rw[sliceText_from `aHY,w40];unfold strOf;congr 2;rw[`v0];rw[`fg];omega
theorem Od0(a b:`k):`ba a++`ba b=`ba `rR:=by
 show `aF'=`QR;simp[`ba]
theorem dz0(a b:`k)(h:`Lx+b.length<=`R):Z3 (`N (`ba a)) (`N (`ba b))=`a (`N (`ba `rR)):=by
 simp only[Z3];rw[`J (by rw[yj0,yj0];exact h),Od0]
structure Pool(nm:`t):Prop where
 len:`Ly=8
 names:∀s∈nm,`aHZ
 nd:nm.Nodup
noncomputable def PB:GS:=(v9 `aGW
 (v9 `aGX
 o4))
noncomputable def PC:GS:=(v9 `aGZ
 (v9 `aG_
 o4))
theorem m30(c t:Int):∃nm,`aH_/\`zN:=by
 have z:`dT:=`ah
 obtain⟨n,hn⟩:∃n:Nat,`cM=1+c%8:=⟨(1+c%8).toNat,`h⟩;obtain⟨δ',l1,l2⟩:=J3 (f:=gN 5) (G:=PB) (λi δ=>∃(c':Int) (l:`bk) (s5:Sl),δ=[`n',`c9,`ib,`dG,.ow (`s (`c1 `e)),s5,.un,.un,.un,.un]/\`b8=i/\∀x∈l,0<=x/\x<36) (`_!) 0
  `aH0 (by
   rintro j d δ hj ⟨c',l,s5,rfl,hl,hx⟩;obtain⟨Z,rfl⟩:=`tA;rw[`aR] at Z;refine⟨_,[.sh (`e (c'/36)),`c9,`ib,`dG,.ow (`s ((`aH1).map `e)),`ic,.un,.un,.un,.un],rfl,?_,c'/36,`aH1,_,rfl,`_?,λx a4=>?_⟩
   ·refine p6 (u60 (l:=`c1 `e) (d:=`e (c'%36)) rfl rfl `e?) ?_
    rw[`bI];rfl
   ·rcases `db a4 with q|q
    ·exact hx x q
    ·rw[`fz q];omega) ⟨_,[],_,rfl,rfl,λx hx=>by cases hx⟩
 obtain⟨c',pl,s5,rfl,a2,M⟩:=l2;rw[vi0,`aR,`bd] at a2;obtain⟨w,hw⟩:∃w:`k,w=`D7 cg:=`aM;have wl:`lX=n:=by rw[hw,`Y,a2]
 have wm:∀x∈w,x∈`ty:=λx hx=>by
  rw[hw] at hx;obtain⟨i,hi,rfl⟩:=`iM;exact Zu0 i (M i hi).1 (M i hi).2
 have a0:∀(G:GS) (r:`uV),G `aH2=r ->
   (v9 `aGS
    (v9 `aGT
    (v9 `aGU
    (v9 `aGV
    (v9 (J1 (O1 `jX) `eB PB)
    (v9 `aGY G)))))) [`or,`c9,.un,.un,.un,.un,.un,.un,.un,.un]=r:=λG r hG=>by
  refine p6 (j8 (d:=`wx) rfl) (p6 (j8 (d:=`lN) (by rw[hn];rfl)) (p6 (j8 (d:=`ajA) rfl) (p6 (δ':=`aH0) rfl (p6 (O7 (items:=`_!) `zO l1) (p6 (j8 (d:=`wz) ?_) hG)))));show `mP _ _=_;rw[Vc0 (x:=`Q4) (ds:=[`s (`aH3 `N)]) rfl (`y (V7 (items:=`D7 `e) rfl `e? (by
   rw[Q4 (λd=>match d with|`ap=>`aF7|_=>`A) (λd hd=>by
    obtain⟨i,hi,rfl⟩:=`dR;refine⟨[.sh `dw,`ib],rfl,rfl,?_⟩;rw[o8 (x:=`wx) (y:=`ap) rfl rfl];exact eq0 i (M i hi).1 (M i hi).2)]
   rw[hw];unfold ones;rw[`br,`br,`br];rfl)) rfl)]
  have e1:=strs_map id (ones w);have a3:rh0 (`aH3 `mQ)=`a (ones w):=`yy
  simp only[ku0];rw[a3,`w,k30,join_ones,`J (by
   have:("" : `Zg).length=0:=`aP
   rw[`u];omega)]
  rfl
 by_cases hb:t/8%3=1
 ·refine⟨`aaa λk=>`ba (`aH4 `cf),N8 rfl (a0 _ _ `aab),`a!,`aac,?_⟩
  ·rw[T3 (by show `aH5;rw[`bS hb])]
   refine O3 (zk0 (V7 (items:=`aaa λ(k:Nat)=>`c8 `Rh) rfl `hm ?_));rw[Q4 (λd=>match d with|`ap=>`N (`ba (`aH4 `dd))|_=>`A) (λd hd=>by
    obtain⟨k,hk,rfl⟩:=`dR;have hk:=`X2;refine⟨`aH6,rfl,rfl,?_⟩;have hm:o2 `g6 `ax l60 `aH6=`a `aH7:=by
     rw[o8 (x:=`e 8) (y:=`wz) rfl rfl];simp only[l60];rw[`J ⟨`ah,`ah,by rw[yj0,wl];show n*8<=_;omega⟩];exact D9 (λs=>`a (`mQ s)) (Yb0 w 8)
    have J:`aad:=`aae
    unfold J9;rw[hm];show slA `aH7 `c (`a `Rh)=_;simp only[slA];rw[`J (by rw[yj0,J];omega),Z80 _ _ `d (`aH8)])]
   rw[`br,`br];rfl
  ·obtain⟨k,hk,rfl⟩:=`aaf
   have hk:=`X2;have J:`aad:=`aae
   refine k40 _ (by rw[`ck,J];omega) `_w `dj
   have:=X1 hx;obtain⟨l,hl,hx⟩:=List.mem_flatten.mp `u;rw[(List.mem_replicate.mp hl).2] at hx;exact wm x hx
  ·refine `aH9
   intro a b ha a1 a6 e;have ha:=`jB ha;have a1:=`jB a1;have e:=D9 `wM (lu0 e);have J:`aad:=`aae
   rw[`ck,`ck,J] at e;omega
 ·obtain⟨a,ha⟩:∃a:Nat,`jk=t%(n:Int):=⟨(t%(n:Int)).toNat,by have:=L8 t (`h:`cM≠0);omega⟩
  have b0:a<n:=by have:=L9 t (`h:`ie<n);omega
  obtain⟨p,hp⟩:∃p,p=pl.getD a 0:=`aM;have a8:0<=p/\p<36:=by
   have O:`aH':=`h
   have:p=pl[a]:=by rw[hp];simp[`cr,O]
   rw[`u];exact M _ (C0 O)
  let F:`ph:=λk=>`aH!
  have Fl:∀k,(F k).length=n:=λk=>by
   show (`aH!).length=n;rw[`ad,`a0,`ck,`fg];omega
  obtain⟨a5,m1,m2⟩:=J3 (f:=gN 5) (G:=PC) (λi δ=>∃(s5 s9:Sl),δ=[`n',`c9,`ib,`dG,`qZ,s5,`n!,`wC,.ow (`s (((`b? i).map `D').map `N)),s9]) (U0 0 8) 0
   `aH? (by
    rintro j d δ hj ⟨s5,s9,rfl⟩;obtain⟨Z,rfl⟩:=`tA;have Z:j<8:=Z;rw[`bd];refine⟨_,[`n',`c9,`ib,`dG,`qZ,`ic,`n!,`wC,.ow (`s (((`b? `hb).map `D').map `N)),.sh (`Ri)],rfl,?_,_,_,rfl⟩;refine p6 (j8 (d:=`Ri) ?_) ?_
    ·rw[o8 (x:=`wx) (y:=`e ((p+4*`eu)%36)) rfl (by
      rw[o8 (x:=`e (p+4*`eu)) (y:=`ai4) (by
       rw[o8 (x:=`e p) (y:=`e (4*`eu)) (by
        have q:o2 `bb `jV ixD (frz [`n',`c9,`ib,`dG,`qZ,`ic,`n!,`wC,`ajD,s9])=`a (`e p):=by
         rw[o8 (x:=`ajB) (y:=`wB) rfl rfl];show atI (`D7 `c8) `jk=_;have O:`aH':=`h
         rw[`Lz,hp];simp[`cr,O]
        show `mP _ _=_;exact(D9 (λo=>`mP o _) q).trans rfl) (by rw[o8 (x:=`DR) (y:=`j1) rfl rfl];exact `mR)]
       rfl) rfl]
      rfl)]
     exact eq0 _ `d `d
    ·refine p6 (u60 (l:=`ajC) (d:=`N (`ba (F j))) rfl ?_ `hm) ?_
     ·have t1:J9 `cA z70 `ai7 `aag=`a (`N (`ba (`q_))):=by
       show slA (`wz) `c (`a `jk)=_;simp only[slA];rw[`aIa,Z80 _ _ `d `d,`aR]
      have t2:J9 `cA `ai8 z70 `aag=`a (`aIb):=by
       show slA (`wz) (`a (`jk+1)) `c=_;simp only[slA];rw[`aIa,Qa0 _ _ `d `d,show (`jk+1).toNat=a+1 by omega]
      change o2 _ _ _ `aag=_
      rw[o8 (x:=`N (`ba (`q_++[`D9]))) (y:=`aIb) (by
       rw[o8 t1 rfl];exact dz0 _ [`D9] (by rw[`ck];simp;omega)) t2]
      rw[dz0 _ _ (by rw[`ad,`ck,`fg];simp;omega)];show `a (`mQ (`ba _))=`a (`mQ (`ba (`q_++`D9::`wA)));rw[`fD];rfl
     ·rw[List.range_succ,`bI,`bI]
      rfl) `aIc
  obtain⟨a7,s9,rfl⟩:=m2;refine⟨`aaa `D',N8 rfl (a0 _ _ (p6 (δ':=`aH2) ?_ (p6 (j8 (d:=`wB) ?_) (p6 (δ':=`aH?) rfl (p6 (O7 (items:=U0 0 8) rfl m1) `aah))))),`a!,`aac,?_⟩
  ·rw[Z2 (by show `aH5;rw[`bZ hb])];rfl
  ·rw[o8 (x:=`lM) (y:=`lN) rfl rfl,`aId,ha]
  ·obtain⟨k,hk,rfl⟩:=`aaf
   refine k40 _ `aIe `aIe `dj
   rcases `iL with q|q
   ·exact wm x (X1 q)
   ·rcases `LA with q|q
    ·rw[q];exact Zu0 _ `d `d
    ·exact wm x (Dr0 q)
  ·refine `aH9
   intro x y hx hy b1 e;have hx:=`jB hx;have hy:=`jB hy;have e:`q_++cg ((p+4*`RE)%36)::`wA=`q_++cg ((p+4*(y:Int))%36)::`wA:=lu0 e;have e:=List.append_cancel_left e;injection e with e _
   have:=Sj0 _ _ `d `d `d `d e;omega
universe Gw
namespace Gw
open Ka
open DL W
theorem rk0(c k:Int)(hk:`aai):`aaj:=by
 refine⟨`aIf%2147483647,`aak,`aIg,`tB⟩;rw[o8 (x:=`e (`aIf)) (y:=`DS) (by
  rw[o8 (x:=`e `ajE) (y:=`e `ajF) rfl (by
   rw[o8 (x:=`DT) (y:=`e (7*k)) rfl (by rw[o8 (x:=`DU) (y:=`n8) rfl rfl];exact `mR)];rfl)]
  exact `mR) rfl]
 rfl
structure Vk(v:D)(m:Int):Prop where
 ok:`_U
 bd:∀i,`xJ->`aeW<`Rj
 lk:∀k,lk v=`eG->k<m
theorem Pp0:iu0 `ai' (`DV)=`a (`aIh):=`D_
theorem wt0(x m:Int)(hx:`aIi)(hm:0<m):∃v,`aIj/\`q4:=by
 have z:`aal:=`ah
 have s0:m5 `d3 `aG0 [`dl,`j2,.un]=`aam:=rfl;have el:∀k:Int,ob `aIk `wE=`a (`I (`lQ<k)):=λk=>rfl
 have ee:∀k:Int,ob `aIl `wE=`a (`I (`lQ=k)):=λk=>rfl
 have nl:∀(k:Int) (A:GS),¬`lQ<k->ifD (ob `aIk) A o4 `wE=`aam:=λk A h=>by
  rw[Z2 (by rw[el,`ml])];rfl
 have ne:∀(k:Int) (A:GS),¬`lQ=k->ifD (ob `aIl) A o4 `wE=`aam:=λk A h=>by
  rw[Z2 (by rw[ee,`ml])];rfl
 by_cases h6:`lQ<6
 ·have O:0<=x/10%m:=`tC
  have a0:x/10%m<m:=L9 _ hm;refine⟨`x [`gj,`aIm],`aIn,by simp[mm0,marks,O],`aIo,`aIp⟩
  ·rw[T3 (by rw[el,`bS h6])]
   exact n8 (Z4 (V3 (`y rfl (`y (d:=`aIm) (by
    rw[o8 (x:=`e (x/10)) (y:=`q0) rfl rfl];exact xn0 _ _ hm) rfl)) `gm))
  ·have:=B2 hk
   omega
 by_cases e6:`lQ=6
 ·refine⟨`A,j7 rfl (p6 s0 (p6 `aan `e')),rfl,`aIo,λk hk=>by cases hk⟩
  rw[T3 (by rw[ee,`bS e6])];rfl
 have J:(10:Nat) ^ 60=1000000000000000000000000000000000000000000000000000000000000:=`ah
 by_cases h9:`lQ<9
 ·refine⟨`e (x/10%3 - 1),j7 rfl (p6 s0 (p6 `aan (p6 `aIq `e'))),rfl,`hC,λk hk=>by cases hk⟩
  ·rw[T3 (by rw[el,`bS h9])];rfl
  ·injection hi with hi
   rw[J];omega
 ·obtain⟨b,hb⟩:∃b:Int,b=(x/10) ^ 7%10 ^ 60:=`aM
  have M:(10:Int) ^ 60=1000000000000000000000000000000000000000000000000000000000000:=`ah
  have b0:0<=b:=by rw[hb];exact `aak
  have b1:b<`Rj:=by rw[hb];exact `aIg
  obtain⟨q,hq,Z⟩:∃q:Int,q=1 - 2*`aao/\(q=1∨q=-1):=⟨_,rfl,`h⟩;refine⟨`e (b*q),j7 rfl (p6 s0 (p6 `aan (p6 `aIq (p6 (nl 9 _ h9) `dH)))),rfl,`hC,λk hk=>by cases hk⟩
  ·rw[o8 (x:=`o4) (y:=`e q) (by
    rw[o8 (x:=`e ((x/10) ^ 7)) (y:=`aIh) (by
     rw[o8 (x:=`e (x/10)) (y:=`DU) rfl rfl];simp only[iu0,ii];rw[`J ⟨`ah,`ah,`h⟩];rfl) (by rw[o8 (x:=`ai9) (y:=`DV) rfl rfl];exact Pp0)]
    rw[xn0 _ _ `l,hb]) (by
    rw[o8 (x:=`eA) (y:=`e (2*`aao)) rfl (by rw[o8 (x:=`n5) (y:=`e `aao) rfl rfl];exact `mR),hq];rfl)]
   exact `mR
  ·injection hi with hi
   rw[← hi,J];rw[M] at b1;rcases Z with rfl|rfl
   ·rw[`U?];omega
   ·rw[Int.mul_neg,`U?,Int.natAbs_neg];omega
noncomputable def VB:GS:=(v9 `aG2
 (v9 `aG3
 o4))
theorem N5(x:Int)(c:Nat)(m:Int)(hc:c<=1000)(hm:0<m):∃vs,y30 [`id,`e (c:Int),`q0]=`LB/\`bm=c/\∀v∈vs,`q4:=by
 have z:`aap:=`ah
 obtain⟨δ',l1,l2⟩:=J3 (f:=`qW) (G:=VB) (λi δ=>∃(x':Int) (vs:`p) (s4:Sl),δ=[.sh (`e x'),`Rl,`j2,.ow `wu,s4]/\`bm=i/\∀v∈vs,`q4) (`aIr) 0
  `aIs (by
   rintro j d δ hj ⟨x',vs,s4,rfl,hl,hv⟩;obtain⟨O,rfl⟩:=`tA;rw[`aR] at O;obtain⟨v,M,J⟩:=wt0 `ajG m ⟨`aak,by have:=L9 (`Rm) (`ah:`ie<2147483647);omega⟩ hm;refine⟨_,[.sh (`aaq),`Rl,`j2,.ow (`s (vs++[v])),`ic],rfl,?_,_,vs++[v],_,rfl,`_?,`aar⟩
   ·refine p6 (j8 (d:=`aaq) (by
     rw[o8 (x:=`e (`Rm)) (y:=`DS) (by rw[o8 (x:=`e x') (y:=`DT) rfl rfl];exact `mR) rfl];rfl)) ?_
    refine p6 (u60 (l:=vs) (d:=v) rfl (by rw[o9 (ds:=[`aaq,`q0]) rfl];exact M) `d) rfl
   ·rcases `db hu with q|q
    ·exact hv u q
    ·rw[`fz q];exact J) ⟨_,[],_,rfl,rfl,λv hv=>by cases hv⟩
 obtain⟨x',vs,s4,rfl,hl,hv⟩:=l2;rw[vi0,`aR,`bd] at hl;exact⟨vs,N8 rfl (p6 (δ':=`aIs) rfl (p6 (O7 (items:=`aIr) `zO l1) `aah)),hl,hv⟩
structure Gd(p:Pt)(m:Int)(nm:`t):Prop where
 ok:p.Ok
 vk:∀v∈`d4,`q4
 nms:∀s∈p.all,s∈nm
theorem w_a:`wc ("" : Str)=`b/\`wc ("a" : Str)=`b/\`wc (" a" : Str)=`b:=`aP
theorem s_0:((" 0" : Str))=`ba `Ea:=`aP
theorem cw0(l:`k)(h2:`b8<=20)(h3:∀c∈l,`aas):`wc `zI=`b:=by
 unfold isWord hasAll;rw[yj0,w40];simp only[`dL,`pd,`ix];exact`aGd
theorem Zn0:∀c∈`ty,`aas:=`aP
theorem Ub0:∀c∈(`Ea:`k),`aas:=`aP
theorem name_mem{s:Str}(h:`aHZ):∀c∈`D?,c∈`ty:=by
 unfold isName hasAll at h;simp only[`dL,`pd,`ix] at h;intro c hc;have:=h.1.2 c hc
 simpa using `u
theorem kp0(nm:`t)(hp:`zN)(i:Int)(h0:`hY)(h1:i<8):ixD (`j0) `dw=`a (`N (`aat))/\`aat∈nm:=by
 have hl:=`LC;have J:`dd<`Ly:=`h
 refine`HE
 ·show atI (nm.map `mQ) i=_
  rw[G5 h0 `e? `A];simp[`cr,J]
 ·rw[show `aat=nm[`dd] by simp[`cr,J]]
  exact C0 J
theorem Vo0(x m:Int)(vs:`p)(nm:`t)(hp:`zN)(hv:∀v∈vs,`q4)(hl:`q9)(hl8:¬`q2->`bm<=8):∃p:Pt,xb0 `aIt=`a p.d/\Gd p m nm:=by
 have z:`aal:=`ah
 have a6:=`LC;have s0:m5 `c7 `Q2 [`dl,`cS,`fa,.un,.un,.un]=`aau:=rfl
 by_cases h0:x%8=0
 ·obtain⟨w,hw,a4⟩:∃w:Str,o2 `aG5 `aG6 ixD `wF=`a (`N w)/\`aF2:=by
   obtain⟨a1,a2⟩:=kp0 nm hp 0 `d `d;obtain⟨s,hs⟩:∃s,s=`q1 (0:Int).toNat "" := `aM;rw[← hs] at a1 a2;have hn:=`aav s a2;have a8:=et0 hn;have es:s=`aIu:=(Y70 s).symm;have b1:`aIv<=8:=by
    have:s.length=`aIv:=by show s.cps.size=_;simp
    omega
   rw[o8 (x:=`s [`Q4,`N "a",`ai?,`aaw]) (y:=`e (`zP)) (vx0 (`y rfl (`y rfl (`y rfl (`y (d:=`aaw) (by
    rw[o8 (x:=`qY) (y:=`ai!) (by rw[o8 (x:=`j0) (y:=`e9) rfl rfl];exact a1) rfl];have e:Z3 (`N (`aIu)) (`N (`ba `Ea))=`a (`aaw):=dz0 _ _ `aIw;rw[← es,← s_0] at e;exact e) rfl)))) (by show 4<=`R;omega)) rfl]
   have q:`zP=0∨`zP=1∨`zP=2∨`zP=3:=`h
   rcases q with q|q|q|q<;>rw[q]
   ·exact⟨_,rfl,w_a.1⟩
   ·exact⟨_,rfl,w_a.2.1⟩
   ·exact⟨_,rfl,w_a.2.2⟩
   ·refine⟨_,rfl,cw0 _ (by simp only[`ad,`a0,`gl];omega) `aFT⟩
    rcases `db hc with q|q
    ·exact Zn0 c (name_mem hn c q)
    ·exact Ub0 c q
  refine⟨`tw,`aIn,a4,(λv hv=>by cases hv),λs hs=>by cases hs⟩;rw[T3 (by show `aIx;rw[`bS h0])];exact n8 (Z4 (V3 (`y rfl (`y hw rfl)) `gm))
 have n0:∀A:GS,ifD `aG4 A o4 `wF=`aau:=λA=>by
  rw[Z2 (by show `aIx;rw[`bZ h0])];rfl
 by_cases h4:`q2
 ·refine⟨`tx,j7 rfl (p6 s0 (p6 (n0 _) `e')),⟨hl,λv q=>(hv v q).ok⟩,hv,λs hs=>by cases hs⟩
  rw[T3 (by show `a (`aax)=_;rw[`bS h4])];exact n8 (Z4 (V3 (`y rfl (`y (by rw[o9 (ds:=[`jl]) rfl];rfl) rfl)) `gm))
 have n4:∀A:GS,ifD `aG7 A o4 `wF=`aau:=λA=>by
  rw[Z2 (by show `a (`aax)=_;rw[`bZ h4])];rfl
 have b0:=hl8 h4;obtain⟨st,a0⟩:∃st:Int,st=x/8%2*3:=`aM;have a5:0<=st/\st<=3:=`h
 obtain⟨ns,O⟩:∃ns:Nat->Str,ns=λ(j:Nat)=>`q1 (`aIy).toNat "" := `aM
 have a3:∀j,ns j∈nm:=λj=>by rw[O];exact(kp0 nm hp (`aIy) `d `d).2
 obtain⟨ps,M⟩:∃ps:`ed,ps=(`b? `bm).map λj=>`aIz:=`aM
 have snd:`h9=vs:=by
  rw[M,`br];refine `aIA
  simp[`cr,h2]
 have fst:∀s∈`n3,s∈nm:=λs hs=>by
  obtain⟨p,J,rfl⟩:=`aaf;rw[M] at J;obtain⟨j,_,rfl⟩:=`e_ J;exact a3 j
 have Z:`_V:=by
  refine⟨by rw[M];simp;omega,λp J=>`aav _ (fst _ (`aIB)),λp J=>(hv p.2 (by rw[← snd];exact `aIB)).ok,?_⟩;rw[M,`br];refine Bg0.mpr (`D8 (Bh0 ?_ (Bi0 (n:=`bm))));intro a b ha hb a7 e;have ha:=`jB ha;have hb:=`jB hb;have e:ns a=ns b:=e;rw[O] at e;have la:`Ro<`Ly:=`h
  have lb:`Rp<`Ly:=`h
  have e:`aIC=`aID := e;rw[show `aIC=nm[`Ro] by simp[`cr,la],show `aID=nm[`Rp] by simp[`cr,lb]] at e;have:=(q0 hp.nd).mp e;omega
 have s4:m5 `d6 `aG8 `wF=`a (.nx `aIE):=j8 (d:=`e st) (by
  rw[o8 (x:=`e (x/8%2)) (y:=`wn) rfl rfl,`mR,a0])
 have s5:m5 `eB `aG9 `aIE=`a (.nx `aIF):=j8 (d:=`q3) (by
  rw[o9 (ds:=[`s `lD]) (`y (V7 (items:=`aIG) `zO `aIH (by
   rw[M,`br];have q:=pb0 (gt:=noT) (ge:=`ajd) (δ:=[.un,`cS,`fa,`Eb]) (n:=`Ed) (λj=>pr `aIz) (λk hk=>⟨[`cl,`cS,`fa,`Eb],rfl,rfl,by
    refine V3 (`y (d:=`N (ns k)) ?_ `aII) `gm
    ·rw[o8 (x:=`j0) (y:=`e ((st+`bG)%8)) rfl rfl,O]
     exact(kp0 nm hp _ `d `d).1
    ·rw[`aIJ]
     show atI vs `bG=_;rw[`tD,`aR]⟩)
   rw[`aR] at q;exact q)) rfl)]
  rfl)
 by_cases h6:x%8<6
 ·refine⟨`pc,j7 rfl (p6 s0 (p6 (n0 _) (p6 (n4 _) (p6 s4 (p6 s5 `e'))))),Z,`aIK,λs hs=>fst s (by simpa [Pt.all,Pt.pnames,Pt.cls] using hs)⟩
  rw[T3 (by show `aIL;rw[`bS h6])];exact n8 (Z4 (`tE))
 ·obtain⟨a1,a2⟩:=kp0 nm hp (x/16%2) `d `d
  refine⟨`qT (`q1 (x/16%2).toNat "") ps,j7 rfl (p6 s0 (p6 (n0 _) (p6 (n4 _) (p6 s4 (p6 s5 (p6 (δ':=`aIF) ?_ `dH)))))),⟨`aav _ a2,Z⟩,`aIK,`aac⟩
  ·rw[Z2 (by show `aIL;rw[`bZ h6])];rfl
  ·exact V3 (`y rfl (`y (by
    rw[o8 (x:=`j0) (y:=`e (x/16%2)) rfl rfl];exact a1) `n?)) (by show 3<=`R;omega)
  ·rcases `db hs with q|q
   ·exact fst s q
   ·have:=`E0 q
    rw[`u];exact a2
noncomputable def WB:GS:=(v9 `aG'
 (v9 `aG!
 (v9 (ifD `aG?
 (v9 `aHa
 o4)
 o4)
 (v9 `aHb
 (v9 `aHc
 o4)))))
theorem Pu0(cs:`bk)(hc:`LD)(m:Int)(hm:`aay)(nm:`t)(hp:`zN)(k:Nat)(hk:k<=1000)(acc:`p)(ha:acc.length<=2000)(s5 s6 s7:Sl) :
  ∃(p:Pt) (t5 t6 t7:Sl),Gd p m nm/\WB `aIM=`a (.nx [`q6,`j2,`fa,.ow (`s (acc++`j_)),`cl,t5,t6,t7]):=by
 have z:`aap:=`ah
 obtain⟨l,hl⟩:∃l:Int,l=(`Ee:Int):=`aM;have Z:0<=`wI:=`tC;have hi1:`wI<l:=`zQ;obtain⟨c,a5⟩:∃c:Int,ixD (`q5) (`e (`wI))=`a (`lL):=by
  have a2:`aIN<`Ee:=`h
  refine⟨cs[`aIN],?_⟩;show atI (`aIO) _=_;rw[G5 Z `e? `A];simp[`cr,a2]
 have b0:`bG/l<=1000/\0<=`bG/l:=by
  have h1:=Int.ediv_le_self l `aIP;have h2:=Int.ediv_nonneg `aIP (show `ie<=l by omega);omega
 obtain⟨x,a7,b1,hx⟩:=rk0 (c+`Rr) `bG `DB;obtain⟨n,hn,a6,a1⟩:∃n:Nat,`cM=(if `Rs then `aIQ else `aIR)/\n<=12/\(¬`q2->n<=8):=by
  split
  ·split
   ·exact⟨12,rfl,`h,λh=>`L (`mE) h⟩
   ·exact⟨8,rfl,`h,`wJ⟩
  ·have q:`aIS:=`h
   rcases q with q|q|q|q|q|q|q|q<;>rw[q]
   ·exact⟨0,rfl,`h,`wJ⟩
   ·exact`aIT
   ·exact`aaz
   ·exact`aaz
   ·exact`aIU
   ·exact`aaz
   ·exact`aIU
   ·exact`aIT
 obtain⟨vs,a3,a8,O⟩:=N5 (x/8+1) n m `d `d;obtain⟨p,a0,a4⟩:=Vo0 x m vs nm hp O `d (λh=>by have:=a1 h;omega);refine⟨p,`dl,`dG,`cS,a4,?_⟩;unfold WB;have J:∀(s5 s6 s7:Sl),oA `h! Y6 `aIM=`a (`e l):=λs5 s6 s7=>by
  rw[o9 (ds:=[`q5]) rfl];show `a (`c8 (((`aIO).length:Nat):Int))=_;rw[`Y,hl]
 refine p6 (j8 (d:=`id) ?_) ?_
 ·rw[o9 (ds:=[`aIV,`c3]) (`y (d:=`aIV) (by
   rw[o8 (x:=`lL) (y:=`e (`Rr)) (by
    rw[o8 (x:=`q5) (y:=`e (`wI)) rfl (by rw[`aIW];exact `aId)];exact a5) (by
    rw[o8 (x:=`c3) (y:=`e (`bG/l)) rfl (by rw[`aIW];exact in0 _ _ `DB)];exact `mR)]
   rfl) rfl)]
  exact hx
 obtain⟨n0,M⟩:∃n0:Int,n0=`aIR:=`aM;refine p6 (j8 (d:=`e n0) ?_) ?_
 ·rw[o8 (x:=`s [`e9,`eA,`n5,`n5,`wn,`n5,`wn,`eA]) (y:=`e (`ig)) (vx0 rfl (by show 8<=`R;omega)) rfl]
  rw[M];have q:`aIS:=`h
  rcases q with q|q|q|q|q|q|q|q<;>rw[q]<;>rfl
 refine p6 (δ':=[`q6,`j2,`fa,`Rq,`cl,`dl,`dG,s7]) ?_ ?_
 ·change ifD _ _ _ [`q6,`j2,`fa,`Rq,`cl,`dl,.sh (`e n0),s7]=_
  rw[hn]
  by_cases h:`Rs
  ·rw[T3 (by show `aIX;rw[`tt]),`iH]
   refine p6 (j8 (d:=`e `aIQ) ?_) rfl;rw[o8 (x:=`s [`e 8,`e 12]) (y:=`e (if `aax=`b then 1 else 0)) (vx0 rfl `gm) rfl]
   by_cases q:`q2
   ·rw[`J (R1 q),`J q];rfl
   ·rw[`V (`GU),`V q];rfl
  ·rw[Z2 (by show `aIX;rw[`ml]),`rZ,M];rfl
 refine p6 (j8 (d:=`jl) (by
  rw[o9 (ds:=[`e (x/8+1),`lN,`q0]) rfl];exact a3)) ?_
 refine p6 (u60 (l:=acc) (d:=p.d) rfl (by
  rw[o9 (ds:=`aIt) rfl];exact a0) `d) rfl
theorem io0(cs:`bk)(hc:`LD)(m:Nat)(hm:`aay)(nm:`t)(hp:`zN) :
  ∃ps:`o,`aIY/\`P=m/\∀p∈ps,`aIZ:=by
 have z:`aap:=`ah
 obtain⟨δ',l1,l2⟩:=J3 (f:=`qW) (G:=WB) (λi δ=>∃(ps:`o) (s4 s5 s6 s7:Sl),δ=[`q6,`Ru,`fa,.ow (`aI_),s4,s5,s6,s7]/\`P=i/\∀p∈ps,`aIZ) (`aI0) 0
  `aI1 (by
   rintro j d δ hj ⟨ps,s4,s5,s6,s7,rfl,hl,hg⟩;obtain⟨J,rfl⟩:=`tA;rw[`aR] at J;obtain⟨p,t5,t6,t7,h1,h2⟩:=Pu0 cs hc `jc `d nm hp j `d `Ef `e? s5 s6 s7;refine⟨_,_,rfl,h2,ps++[p],_,t5,t6,t7,`aI2,`_?,`yZ⟩;rcases `db hq with a|a
   ·exact hg q a
   ·rw[`fz a];exact h1) ⟨[],_,_,_,_,rfl,rfl,λp hp=>by cases hp⟩
 obtain⟨ps,s4,s5,s6,s7,rfl,hl,hg⟩:=l2;rw[vi0,`aR,`bd] at hl;refine⟨ps,j7 rfl (p6 (δ':=`aI1) rfl (p6 (O7 (items:=`aI0) `zO l1) `dH)),hl,hg⟩;show oA `jX Q3 (frz _)=_;rw[o9 (ds:=[`aI_]) rfl];rfl
theorem k20(ps:`ed):V1 `Ls noT `ax [.un,.un] `lD=`aF3:=by
 rw[Q4 `aF4 (λd hd=>by
  obtain⟨p,hp,rfl⟩:=`dR;exact⟨_,rfl,rfl,rfl⟩),`br]
 rfl
theorem wi0(p:Pt)(h:`dS):`aaA:=by
 cases p with
 | text w=>kernel_rfl
 | row vs =>
  refine `aHE
 | table ps =>
  refine `aHF;exact `aI3
 | rcd c ps =>
  refine `aHH;exact `aI3
theorem Xy0(xs:`p)(x:D):`qj (`wL) `c `aaB=xs:=by
 unfold cutD;have i1:sIx `Eg `Eg `aaB=`as:=by
  show (if `ajM<0 then `aI4 else min (-1:Int).toNat `Eg)=_;rw[`sn,`ad];simp only[`a0,`gl];omega
 rw[i1];show ((`wL).drop 0).take (`as - 0)=_;simp
theorem Y50(xs:`p)(x:D):atI (`wL) (-1)=`aQ:=by
 unfold atI ixN;rw[`sm,`J (by rw[`ad];simp only[`a0,`gl];omega)];rw[show `aI4=`as by rw[`ad];simp only[`a0,`gl];omega];simp
theorem t60(p:Pt)(h:`dS)(vs:`p)(hl:`mS∨`d4=[]/\`rQ):`LE:=by
 have z:`aal:=`ah
 have zz:(`R:Int)<`gO:=`ah
 have key:∀(xs:`p) (ps:`ed),`P=`bm->`aAW->`as<=10 ->
   o2 `_4 `aHf Z3 `aI5=`a (`x (xs++[`wv])):=λxs ps hp hz hx=>by
  have hc:oA `ajg Q3 `aI5=`a (`wv):=by
   rw[o9 (ds:=[`s (`D5 pr)]) (`y (V7 (items:=`aIG) `zO `aIH (by
    have q:=pb0 (gt:=noT) (ge:=`ajf) (δ:=[.un,`Rx,`cS]) (n:=`Ed) (λj=>pr (`aI6 j "",`ajH)) (λk hk=>⟨[`cl,`Rx,`cS],rfl,rfl,by
     have M:k<`P:=`h
     refine V3 (`y (d:=`N (`aI6 k "")) ?_ `aII) `gm
     ·rw[o8 (x:=pr `w') (y:=`e9) (by
       rw[o8 (x:=`q3) (y:=`c3) (by
        rw[o8 (x:=`Rw) (y:=`e (-1)) rfl rfl];exact Y50 _ _) rfl]
       show atI `lD `bG=_;rw[`Lz,`aR];simp[`cr,M]) rfl]
      simp[`cr,M];rfl
     ·rw[`aIJ]
      show atI vs `bG=_;rw[`tD,`aR]⟩)
    rw[`aR] at q;refine q.trans ?_;congr 1;refine i9 `hm `ajI
    have hi:`G':=`t9
    have hi2:`kC:=`h
    simp[`cr,hi,hi2])) rfl)]
   rfl
  rw[o8 (x:=`ek) (y:=`x [`wv]) (by
   show slA (`Rw) `c `aaB=_;simp only[slA];rw[Xy0]) (V3 (`y hc rfl) `zR)]
  simp only[Z3];rw[`J `aIw]
 have J:∀ps:`ed,`d4=`h9->`P=`bm:=λps e=>by
  rcases hl with q|⟨q1,q2⟩
  ·rw[q,e,`Y]
  ·rw[q2];rw[q1] at e;have:=`aI7;simp at this;simpa using `aaC
 cases p with
 | text w=>kernel_rfl
 | row us=>kernel_rfl
 | table ps =>
  exact j7 rfl (p6 (δ':=`aI8) `cb (p6 (δ':=`aI8) `cb (n8 (Z4 (key [`wf] ps `aI9 `wt `Q)))))
 | rcd c ps =>
  exact j7 rfl (p6 (δ':=`aI') `cb (p6 (δ':=`aI') `cb (n8 (Z4 (key `aI! ps `aI9 `wt `Q)))))
universe Gw
namespace K22
open Ka
open DL W
inductive Dfs (adj:`ph) (S:`k):Nat->`k->`k->`aaD
 | nil (o:`k):Dfs adj S 0 o [] o
 | skip {c:Nat} {o T r:`k} {x:Nat}:`aI?->`zS->`aJa
 | visit {c:Nat} {o T r:`k} {x:Nat}:x∉o->`Ej->(`j5++T).length+`zs<=10000->Dfs adj S c `q! (`j5++T) r->`aJa
theorem sub_len:∀{l m:`k},`aaE->(∀a∈l,a∈m)->`aJb
 | [],m,_,_=>`eW
 | a::l,m,h,hs=>by
  obtain⟨h1,h2⟩:=K2.mp h;obtain⟨m1,m2,rfl⟩:=List.append_of_mem (hs a A5);have:=`l2 (m:=m1++m2) h2 λb hb=>by
   have:=hs b `LF;rcases `db `u with q|q
   ·exact B3.mpr (`iB)
   ·rcases `LA with rfl|q
    ·exact `L hb h1
    ·exact B3.mpr (`IS)
  simp only[`ad,`a0] at this ⊢;omega
theorem R50(adj:`ph)(S:`k)(n:Nat)(hn:n<=60)(ha:∀i,i<n->(`zT).length<=12/\∀j∈`zT,j<n):∀(M:Nat) (o T:`k),`Eo+13*(n - `zs)<=M->M<=5000->o.Nodup->(∀x∈o,`aJc)->(∀x∈T,x<n) ->
  ∃c r,`zS/\c<=M/\`tF/\(∀x∈r,`aJc)/\`zs<=`am:=by
 intro M
 induction M with
 | zero =>
  intro o T hM a4 ho J hT;have:T=[]:=B80.mp `d;subst this;exact⟨0,o,`ae o,`eN,ho,J,`eN⟩
 | succ M ih =>
  intro o T hM a4 ho J hT;cases T with
  | nil=>exact⟨0,o,`ae o,`eW,ho,J,`eN⟩
  | cons x T =>
   rw[`a0] at hM
   by_cases hx:`aI?
   ·obtain⟨c,r,h1,h2,h3⟩:=ih o T `d `d ho J `aJd
    exact⟨c+1,r,.skip hx h1,`h,h3⟩
   ·have a0:=hT x A5
    obtain⟨hl,hj⟩:=ha x a0;have a2:x∉o:=λz=>hx (`jr)
    have O:`Ej:=λz=>hx (`i z)
    have a1:(`Ei).Nodup:=A40.mpr ⟨ho,`a!,λa ha b hb e=>by
     have:=`E0 hb;subst this;subst e;exact a2 ha⟩
    have Z:∀y∈`Ei,y<n/\y∉S:=λy hy=>by
     rcases `tf with z|z
     ·exact J y z
     ·have:=`E0 z;subst this;exact⟨a0,O⟩
    have a3:(`Ei).length<=n:=by
     have:=`l2 a1 (m:=`b? n) λy hy=>`l3 (Z y hy).1
     rwa [Bj0] at this
    rw[`ad,`jF] at a3;obtain⟨c,r,h1,h2,h3,h4,h5⟩:=ih `q! (`j5++T) `aJe `d a1 Z (λy hy=>by
     rcases `tf with z|z
     ·exact hj y z
     ·exact hT y `aaF)
    refine⟨c+1,r,.visit a2 O (by rw[`ad];omega) h1,`h,h3,h4,?_⟩;rw[`ad] at h5;omega
noncomputable def nd(l:`k):`p:=`c1 λ(i:Nat)=>`c8 `eT
structure GoodD(W:D)(n:Nat):Prop where
 few:n<=60
 ex:∃Wb,W=`x Wb/\Wb.length=n/\∀i,i<n->∃vs,Z0 [`aaG]=`LB/\`aJf
noncomputable def tgs(vs:`p):`k:=vs.filterMap λv=>match v with|`zU=>`a `oh|_=>`c
noncomputable def yp0(W:D)(i:Nat):`k:=match W with
 | `x Wb=>(match Z0 [`aaG] with
  | `LB=>`iY
  | _=>[])
 | _=>[]
theorem vu0(a b:`k):nd `rR=nd a++nd b:=by unfold nd;rw[`bI]
theorem Tv0(a:`k):(nd a).reverse=nd a.reverse:=by unfold nd;rw[`aJg]
theorem y00(a:`k):(nd a).length=`Lx:=by simp[nd]
theorem Xj0(o:`k):((nd o).all λd=>flat d)=`b:=by
 unfold nd;rw[`IY,`ix];exact `mB
theorem h70:∀{vs:`p},(∀v∈vs,`Rz)->∀j∈`iY,j<n:=by
 intro vs h j hj;obtain⟨v,hv,e⟩:=`sd hj;rcases h v hv with rfl|⟨z,rfl⟩|⟨i,rfl,hi⟩
 ·cases e
 ·cases e
 ·simp only[`aR,Option.some.injEq] at e
  omega
theorem Rs0{W:D}(hW:GoodD W n)(hi:i<n):∃vs,`aJh=`aJh/\(∃d,ixD W (`e8)=`a5/\Z0 [d]=`LB)/\yp0 W i=`iY/\`aJf:=by
 obtain⟨Wb,rfl,hl,h⟩:=hW.ex;obtain⟨vs,e,h1,h2⟩:=h i hi;refine⟨vs,rfl,⟨`aaG,?_,e⟩,?_,h1,h2⟩
 ·show atI Wb `eT=_
  rw[`tD,`aR]
 ·unfold yp0
  simp only[];rw[e]
theorem Sh0{W:D}(hW:GoodD W n):∀i,i<n->∀j∈yp0 W i,j<n:=λi hi j hj=>by
 obtain⟨vs,_,_,e,_,h⟩:=Rs0 hW hi;rw[e] at hj;exact h70 h j hj
theorem Qt0{g1 g2:GB}{b1 b2:`X}(h1:`zV=`a b1)(h2:`tG=`a b2):yd0 g1 g2 δ=`a (b1&&b2):=by
 unfold yd0;rw[h1];cases b1
 ·rfl
 ·show `tG=_
  rw[h2];rfl
theorem N5(p:Pt)(h:`dS):`Lt:=`aaH
theorem Yn0(p:Pt)(h:`dS)(vs:`p):y50 `Rv=`ajN:=Pn.t60 p h vs
theorem wi0(p:Pt)(h:`dS):`aaA:=Gw.wi0 p h
theorem Xl0(p:Pt)(h:`dS)(vs:`p)(hl:`mS):`LE:=`aaI
noncomputable def Lv(n:Nat)(v:D):Prop:=`Rz
theorem Lv.mono(h:n<=m){v:D}(x:`cn):Lv m v:=x.imp id λx=>x.imp id λ⟨j,e,q⟩=>⟨j,e,`h⟩
structure Pw(n:Nat)(p:Pt):Prop where
 few:`Eh<=12
 lv:∀v∈`d4,`cn
theorem Pw.f{p:Pt}(h:`cG):`dS:=by
 have z:(12:Nat)<=`R:=`ah
 exact C4 `rt z
structure Web(ps:`o):Prop where
 len:0<`P/\`P<=60
 pw:∀p∈ps,Pw `P p
noncomputable def wd(ps:`o):D:=`ajL
theorem Web.at{ps:`o}(h:`D)(hi:`kC):`aJi=`a ps[i].d/\(`wK).getD i `A=ps[i].d/\Pw `P `zc:=by
 refine⟨?_,?_,h.pw _ `Ke⟩
 ·show atI `Ef `eT=_
  rw[`Lz,`aR];simp[hi]
 ·simp[hi]
theorem Web.good{ps:`o}(h:`D):GoodD `cm `P:=⟨`LG,`wK,rfl,`ajW,λi hi=>by
 obtain⟨_,e,q⟩:=`LH;exact⟨`aJj,by rw[e];exact wi0 _ q.f,q.few,q.lv⟩⟩
theorem Web.adj{ps:`o}(h:`D)(hi:`kC):`tH=tgs `aJj:=by
 obtain⟨_,e,q⟩:=`LH;unfold yp0 wd;simp only[];rw[e,wi0 _ q.f]
theorem ej0(vs:`p):(`iY).length<=`bm:=Eb0 _ _
theorem nq0(j:Nat)(vs:`p):tgs (`oa::vs)=j::`iY:=by unfold tgs;rw[`r1];simp only[`aR]
theorem lw0:∀vs:`p,`LI->`aJk=`a (nd (`iY))
 | [],_=>rfl
 | `hz,h=>by
  have ih:=lw0 vs `aJl
  unfold V1;rcases `N5 with rfl|⟨z,rfl⟩|⟨j,rfl,hj⟩
  ·exact ih
  ·exact ih
  ·show (match o2 `U `a? ixD [`R2] with|`c=>`c|`bA=>(`aJk).map `HM)=_
   rw[ih,nq0];rfl
theorem Yd0{p:Pt}(h:`cG):xy0 `j_=`a (`s (nd (`iZ))) :=
 N8 rfl (O3 (zk0 (V7 (items:=`d4) (by
  show `mP (oA `h! `g5 [`ih]) n80=_;rw[`aaJ,N5 p h.f];rfl) h.f (lw0 `d4 `oc))))
noncomputable def lkv(f:`aJ):D->D
 | `zU=>`x [`gj,`e (f `oh:Int)]
 | v=>v
noncomputable def rel(f:`aJ)(p:Pt):Pt:=`j3 p (`RC)
theorem tj0{vs:`p}(h:`ew `ajO∈vs):j∈`iY:=`rr ⟨_,h,by simp only[`aR]⟩
theorem zc0{p:Pt}(h:`cG)(f:`aJ)(D':D)(hd:∀j∈`iZ,`aaK):`aaL:=by
 refine j7 rfl (p6 (δ':=[`ih,`g8,.sh (`ajV)]) (j8 (V7 (items:=`d4) (by
  show `mP (oA `h! `g5 [`ih,`g8,.un]) n80=_;rw[`aaJ,N5 p h.f];rfl) h.f ?_)) (n8 (Z4 (by rw[`aJm];exact Yn0 p h.f _))))
 refine Q4 `lR λv hv=>⟨[`op,`g8],rfl,rfl,?_⟩
 rcases `tI with rfl|⟨z,rfl⟩|⟨j,rfl,hj⟩
 ·rfl
 ·rfl
 ·unfold ifG
  rw[show ob `aiw [`R2,`g8]=`fh from rfl];show Z8 _ _=_;exact V3 (`y rfl (`y (d:=`RB) (by
   rw[o8 (x:=D') (y:=`j1) rfl rfl];exact hd j `aaM) rfl)) `re
noncomputable def EB:GS:=(v9 (ifD `Sz
 (v9 `aHg
 o4)
 o4)
 (v9 (Y7 `_5)
 o4))
theorem jc0{p:Pt}(h:`cG)(f:`aJ)(D':D)(hd:∀j∈`iZ,`aJn):`aJo:=by
 have zs:`dT:=`ah
 obtain⟨δ',l1,l2⟩:=J3 (f:=gN 3) (G:=EB) (λi δ=>∃s3:Sl,δ=[`ih,`g8,.ow (`s ((`RD i).map `lR)),s3]) `d4 0 `aaN (by
  rintro j v δ hj ⟨s3,rfl⟩;have hv:=C2 hj;have J:=`zD;have hf:=`rt;rw[`bd];have app:∀w:D,Y7 `_5 [`ih,`g8,`aaO,.sh w]=`a (.nx [`ih,`g8,.ow (`s (`Em++[w])),.sh w]):=λw=>Gw.u60 (l:=`Em) (d:=w) rfl rfl (by rw[`Y,`ck];omega)
  have tk:(`RD `hb).map `lR=`aJp:=by rw[`pb,hj,`bI];rfl
  refine⟨[`ih,`g8,`aaO,`op],[`ih,`g8,.ow (`s (`aJp)),`aaP],rfl,?_,`aaP,by rw[tk]⟩;refine p6 (δ':=[`ih,`g8,`aaO,`aaP]) ?_ (p6 (app _) rfl);rcases `tI with rfl|⟨z,rfl⟩|⟨i,rfl,hi⟩
  ·rw[`zW];rfl
  ·rw[`zW];rfl
  ·rw[`zX]
   refine p6 (j8 (d:=`x [`gj,`aJq]) (V3 (`y rfl (`y (d:=`aJq) ?_ rfl)) `re)) rfl;rw[o8 (x:=D') (y:=`e8) rfl rfl];exact hd i `aaM) `aM
 obtain⟨s3,rfl⟩:=l2;rw[`bd,`tJ] at l1;refine j7 rfl (p6 (δ':=`aaN) rfl (p6 (O7 (items:=`d4) (by
  show `mP (oA `h! Z0 `aaN) n80=_;rw[`aaJ,wi0 p h.f];rfl) l1) `dH))
 show oA `DW W9 (frz _)=_;rw[`aJm];exact Xl0 p h.f _ `wP
theorem xq0(p:Pt)(vs:`p)(h:`mS):(`q7).vals=vs:=by
 cases p with
 | text w=>exact(Q2 h).symm
 | row us=>rfl
 | table ps =>
  show `aJr;refine A60 ?_;have h':`Ss:=h;simp only[`Y] at h' ⊢;omega
 | rcd c ps =>
  show `aJr;refine A60 ?_;have h':`Ss:=h;simp only[`Y] at h' ⊢;omega
theorem nj0{p:Pt}(h:`cG)(f:`aJ)(hf:∀j∈`iZ,f j<m):Pw m (`ob):=by
 have e:`aJs:=`aaQ;refine⟨by rw[e,`Y];exact `rt,`mL⟩;rw[e] at hv;obtain⟨u,hu,rfl⟩:=`e_ hv;rcases `oc u hu with rfl|⟨z,rfl⟩|⟨i,rfl,hi⟩
 ·exact `bL
 ·exact `i (`m `akA)
 ·exact `i (`i ⟨f i,rfl,hf i (tj0 hu)⟩)
noncomputable def kd(l:`k):`eZ:=`c1 `as7
noncomputable def td(l:`k):`p:=`c1 λ_=>`gT
theorem ow0(a b:`k):kd `rR=kd a++kd b:=by unfold kd;rw[`bI]
theorem re0(o:`k)(x:Nat):T9 (kd o) `Er=`I (x∈o):=by
 unfold T9 kd;rw[List.any_map];rw[`fY,`K',`pd];constructor
 ·rintro⟨y,hy,e⟩
  have e:=j0 e;injection e with e
  have:y=x:=`h
  subst this;exact hy
 ·intro h;exact⟨x,h,R1 rfl⟩
noncomputable def ded(S:`k):`k:=S.foldl (λa x=>`RF) []
theorem im0:∀(S a:`k),(∀y,y∈`aJt↔y∈a∨y∈S)/\(`aJt).length<=`Lx+`aaR
 | [],a=>⟨`aJu,`a!⟩
 | x::S,a=>by
  obtain⟨h1,h2⟩:=im0 S (`RF);refine⟨λy=>?_,?_⟩
  ·rw[`ta,h1]
   split
   ·rename_i hx
    constructor
    ·rintro (h|h)
     ·exact `m9
     ·exact `i (A6 _ h)
    ·rintro (h|h)
     ·exact `m9
     ·rcases `oe with rfl|h
      ·exact `Pi
      ·exact `HA
   ·rw[`aJv,`fA,`aI,or_assoc]
  ·rw[`ta]
   refine C4 h2 ?_;split
   ·simp only[`a0];omega
   ·simp only[`ad,`a0,`gl];omega
theorem Uz0(S:`k)(y:Nat):y∈`q?↔y∈S:=by
 unfold ded;rw[(im0 S []).1];simp
theorem Ta0(S:`k):(`q?).length<=`aaR:=by
 have:=(im0 S []).2;rw[`gl,`bd] at this;exact `u
noncomputable def MT:GB:=`aGj
noncomputable def MBg(gw:GE):GS:=(v9 `aGk
 (v9 (ifD `aGl
 (v9 `aGm
 (v9 (Y7 `_Z)
 (v9 (Y7 `aJw)
 o4)))
 o4)
 o4))
noncomputable def ms(W:D)(k l:Sl)(U o T:`k)(s:Sl):Ds:=[`j6,k,l,`RI,.ow (`aW (`m `Eq) (nd U++td o)),`Es,s]
section
variable{W:D}{k l:Sl}{U:`k}
theorem dm0(s:Sl)(o T:`k):MT `aaS=`a (`I (0<`Eo)):=by
 have e:v60 `aix `aaS=`a (`aJx):=by
  show `a (`c8 (`aJy:Int))=_;rw[y00,`y1]
 unfold MT ob;rw[o8 (x:=`aJx) (y:=`e9) e rfl];show `a (`I (`ie<`ajZ))=_;congr 1;rw[`aaT];omega
theorem Sq0(s:Sl)(o T:`k)(x:Nat):J2 (l40 5) `jT `RH=`aJz:=by
 have e1:owL 5 `RH=`a (`aJA):=rfl;have e2:`aJA=`RG++[`q']:=by rw[`yh,vu0];rfl
 unfold J2 l40;rw[e1,`w,e2,List.getLast?_concat,List.dropLast_concat];rfl
theorem W50(o T:`k)(x:Nat):uv0 `aiy (`Ep)=`a (`I (x∉U++o)):=by
 show `a (xor `b (`aJB))=_;rw[re0,`sW];congr 1
 by_cases h:x∈U++o
 ·rw[`tt,`aaU];rfl
 ·rw[`ml,`tt];rfl
theorem a80{gw:GE}{P:`t4}{adj:`ph}{S:`k}(hS:∀y,y∈U↔y∈S)(hU:U.length<=1000)(hA:∀x,P x->∃d,(∀s1 s2 s3 s4 s5:Sl,gw [`j6,s1,s2,s3,s4,s5,`j4]=`a5)/\xy0 [d]=`a (`aaV)/\(`j5).length<=12/\∀j∈`j5,P j):∀{c:Nat} {o T r:`k},`zS->`aJC->`zs+`Eo<=10001->∀(m:Nat) (s:Sl),c<m->∃s',S8 MT (MBg gw) m `aaS=`a (.nx (ms W k l U r [] s')):=by
 intro c o T r h
 induction h with
 | nil o =>
  intro _ _ m s hm;cases m with
  | zero=>omega
  | succ m =>
   refine⟨s,?_⟩;unfold S8;rw[dm0];rfl
 | @skip c o T r x hx hd ih =>
  intro hT hl m s hm;cases m with
  | zero=>omega
  | succ m =>
   rw[`a0] at hl;obtain⟨s',e⟩:=ih (`aJd) `d m `wQ `d;refine`aJD;have J:x∈U++o:=B3.mpr (hx.symm.imp (hS x).mpr id);have eb:`aJE=`aJz :=
    p6 (Sq0 s o T x) (p6 (δ':=`Ep) (by rw[Z2 (by rw[W50,`bZ (λz=>z J)])];rfl) rfl)
   unfold S8;rw[dm0,`bS `Q];dsimp only;rw[eb];exact e
 | @visit c o T r x hx hxS hz hd ih =>
  intro hT hl m s hm;cases m with
  | zero=>omega
  | succ m =>
   have Z:=hT x A5;obtain⟨d,a0,M,a1,O⟩:=hA x Z;have zs:(20000:Nat)<=`R:=`ah
   rw[`ad] at hz;obtain⟨s',e⟩:=ih (λy hy=>by
    rcases `tf with q|q
    ·exact O y q
    ·exact hT y (A6 _ q)) `aJe m `wQ `d
   refine`aJD;have J:x∉U++o:=λz=>(`db z).elim (λq=>hxS ((hS x).mp q)) hx
   have p1:J2 `QY `aiz (`Ep)=`a (.nx `aJF):=by
    have hk:`aJB=`r:=`aJG
    have e1:`aJH=`aj_:=by
     unfold W6;rw[hk,`a7,← `fD,ow0 (U++o)];rfl
    have e2:`aJI=`aj0:=by
     unfold V4;rw[hk,`a7];unfold td;rw[`bI,`fD];rfl
    unfold J2 z10;show ((if (kd (U++o)).length<`R then `a ([`j6,k,l,`RI,Sl.ow (`aW (`m (`aJH)) (`aJI)),`Es,`j4]) else `c).map `ij)=_;rw[`J (by unfold kd;rw[`Y,`ad];omega),e1,e2];rfl
   have p2:Y7 `_Z `aJF=`a (.nx `aaW):=by
    rw[Gw.u60 (l:=nd o) (d:=`q') rfl rfl `zY,vu0];rfl
   have p3:Y7 `aJw `aaW=`aJJ:=by
    have ev:oA `ajY o00 `aaW=`a (`s (`aJK)):=by
     rw[o9 (ds:=[`aaV]) (`y (d:=`aaV) (by
      rw[o9 (ds:=[d]) (`y (d:=d) (a0 _ _ _ _ _) rfl)];exact M) rfl)]
     show `a (`yv (nd (`j5)).reverse)=_;rw[Tv0]
    unfold Y7 ny0;rw[ev];show `i_ _ (if `aJy+(`aJK).length<=`R then _ else _)=_;rw[`J (by rw[y00,y00,`y1,`y1];omega),← vu0,← `KL];rfl
   have eb:`aJE=`aJJ :=
    p6 (Sq0 s o T x) (p6 (δ':=`aj2) (by
     rw[T3 (by rw[W50,`bS J])];exact p6 p1 (p6 p2 (p6 p3 rfl))) rfl)
   unfold S8;rw[dm0,`bS `Q];dsimp only;rw[eb];exact e
universe zz
theorem s00{ps:`o}(h:`D)(S:`k)(hS:`aaR<=1000){x c:Nat}(hx:x<`P)(hd:`aJL)(hc:`aaX):v30 [`aN,`q',`Eu]=`Sw:=by
 have hl:=Ta0 S;obtain⟨s',e⟩:=a80 (W:=`aN) (k:=`j4) (l:=`zZ) (U:=`q?) (gw:=`aGn) (P:=λy=>y<`P) (Uz0 S) `d (λy hy=>by
  obtain⟨e1,_,q⟩:=h.at hy;refine⟨_,λ_ _ _ _ _=>(o8 (x:=`aN) (y:=`e (y:Int)) rfl rfl).trans e1,?_,?_,?_⟩
  ·rw[h.adj hy];exact Yd0 q
  ·rw[h.adj hy];exact `aJM
  ·exact Sh0 h.good y hy) hd `aJN `Q 100000 .un `d
 refine N8 rfl (p6 (δ':=[`S,`j4,`zZ,`e!,.un,.un,.un]) rfl (p6 (δ':=[`S,`j4,`zZ,`e!,.ow (`Eu),.un,.un]) rfl (p6 (δ':=ms `cm `wQ (`zZ) (`q?) [] [x] .un) ?_ (p6 e `aab))))
 ·unfold ms
  rw[`fb];show `a (`ij [`S,`j4,`zZ,`e!,.ow (`Eu),.ow (`s [`q']),.un])=_;have:`RJ++td []=`RJ:=i6 _;rw[`u];rfl
 ·rfl
theorem lx0{adj:`ph}{S:`k}:∀{c:Nat} {o T r:`k},`zS->(∀i∈o,∀j∈`zT,j∈o∨j∈S∨j∈T)->(`aJO)/\∀i∈r,∀j∈`zT,`aJP:=by
 intro c o T r h
 induction h with
 | nil o =>
  intro H;refine⟨`aJQ,`aJR⟩;rcases `aaY with q|q|q
  ·exact `iB
  ·exact `IS
  ·cases q
 | @skip c o T r x hx hd ih =>
  intro H;refine ih `aJR
  rcases `aaY with q|q|q
  ·exact `iB
  ·exact `i (`iB)
  ·rcases `LA with rfl|q
   ·exact hx.imp id `m
   ·exact `i (`IS)
 | @visit c o T r x hx hxS hz hd ih =>
  intro H;obtain⟨⟨s,e⟩,h2⟩:=ih λi hi j hj=>by
   rcases `db hi with hi|hi
   ·rcases `aaY with q|q|q
    ·exact `m (E1 _ q)
    ·exact `i (`iB)
    ·rcases `LA with rfl|q
     ·exact `m `Q
     ·exact `i (`i (D3 _ q))
   ·rw[`fz hi] at hj
    exact `aJS
  exact⟨`aJT,h2⟩
theorem walk{ps:`o}(h:`D)(S:`k){x:Nat}(hx:x<`P):∃c r,`aJL/\`aaX/\`tF/\(∀y∈r,y<`P/\y∉S)/\(∀i∈r,∀j∈`tH,`aJP)/\(x∈S->r=[])/\(`Ej->∃s,r=x::s):=by
 obtain⟨c,r,h1,h2,h3,h4,_⟩:=R50 `Et S `P `LG (λi hi=>by
  rw[h.adj hi];obtain⟨_,_,q⟩:=`LH;exact⟨`aJM,h70 q.lv⟩) 1000 [] [x] (by have:=`LG;simp only[`a0,`gl];omega) `l U2 (λy hy=>by cases hy) `aJN
 obtain⟨_,f2⟩:=lx0 h1 λi hi=>by cases hi
 refine⟨c,r,h1,`h,h3,h4,f2,λhS=>?_,λhS=>?_⟩
 ·cases h1 with
  | skip _ h=>cases h;rfl
  | visit _ q _ _=>exact `L hS q
 ·cases h1 with
  | skip q _=>exact `L (q.resolve_left `Q) hS
  | visit _ _ _ hd =>
   obtain⟨⟨s,e⟩,_⟩:=lx0 hd λi hi j hj=>by
    rw[show i=x from `N8] at hj;exact `aJS
   exact⟨s,e⟩
theorem e40:∀(r:`k) (m j:Nat),`j8->K1 `Fp (nd (`dm m `am)) `Fq=`a (`e ((m+`xi:Nat):Int))
 | [],_,_,h=>by cases h
 | u::r,m,j,h=>by
  rw[`a0,`tu];show (if (`gH (u:Int):V9)=`RL then `a (`c8 `jc) else K1 `Fp (nd (`dm (m+1) `am)) `Fq)=_
  by_cases e:u=j
  ·subst e;rw[`aY,`aJU];rfl
  ·rw[`V (by intro q;injection q with q;omega),e40 r (m+1) j `aaZ,show (u::r).idxOf j=`xi+1 from by rw[`aa_,`aa0 e];rfl]
   congr 2;omega
universe K22
namespace K22
open Ka
open DL W
theorem Ob0{p:Pt}{nm:`t}(h:`aJV):Pw m p:=by
 refine⟨?_,`mL⟩
 ·have ok:=h.ok
  cases p with
  | text w=>show 0<=12;decide
  | row vs=>exact ok.1
  | table ps=>show `LJ;rw[`Y];exact ok.len
  | rcd c ps=>show `LJ;rw[`Y];exact ok.2.len
 ·have k:=h.vk v hv
  rcases kc0 k.ok with rfl|⟨i,rfl⟩|⟨i,rfl,hi⟩
  ·exact `bL
  ·exact `Lh
  ·have:=`aJW
   exact `aJX
theorem ox0{v:D}(h:`cn)(k:Nat):`bo v `cf=`b:=by
 rcases h with rfl|⟨z,rfl⟩|⟨j,rfl,_⟩<;>simp[`bo,`b!]
theorem v20{k:Nat}(h:∀x∈l,`bo x k=`b):`b! l k=`b:=by
 induction l with
 | nil=>rfl
 | cons a l ih=>rw[`b!,h a A5,`aa1];rfl
theorem S80{p:Pt}(h:`cG)(k:Nat):`bo p.d (k+4)=`b:=by
 have lp:∀ps:`ed,(∀v∈`h9,`cn)->`b! `lD (k+2)=`b:=λps hv=>v20 λx hx=>by
  obtain⟨q,hq,rfl⟩:=`iM;have:=ox0 (`aJY) k;show `b! [`N q.1,q.2] `cf=`b;rw[`b!,`b!,`b!,`u];simp[`bo]
 cases p with
 | text w=>simp[`d5,`bo,`b!]
 | row vs =>
  have e:`b! vs (k+2)=`b:=v20 λx hx=>ox0 `aJZ `cf
  simp[`d5,`bo,`b!,e]
 | table ps =>
  have e:=`aJ_;simp[`d5,`bo,`b!,e]
 | rcd c ps =>
  have e:=`aJ_;simp[`d5,`bo,`b!,e]
theorem Uc0{ps:`o}(h:`D)(k:Nat):`bo `cm (k+5)=`b:=by
 unfold wd;rw[`bo];refine v20 `dj
 obtain⟨p,hp,rfl⟩:=`iM;exact S80 `aJ0 k
universe K22
namespace Bw
open DL W
theorem zg0{g:GE}{b:`X}(h:`aB=`r5):`aa2=`h_:=by
 unfold ob;rw[h];rfl
universe Bw
namespace Ta
open Ka
open DL W K22
open Classical in
theorem eh0{f:`a1}{G:GS}(st:Sl->Ds)(hf:∀d s,f d `RN=`a `z_)(ok:`RP):∀items:`p,(∀d∈`a',(`og->G `z_=`a (.nx `z_))/\(¬`og->G `z_=`aa3)) ->
  ∀s,(`LK->∃s',`aJ1=`a (.nx (st s')))/\(¬`LK->`aJ1=`aa3)
 | [],_,s=>⟨`aJ2,`aJ3⟩
 | `LL,h,s=>by
  have hd:=`zK;obtain⟨i1,i2⟩:=eh0 st hf ok `a' (`Rf) `lc;have un:W5 f G (`LL) `RN=(match G `z_ with|`dC=>`LM|`oV=>`LM|`oW=>`dC|r=>r):=by
   conv=>lhs;unfold W5
   rw[hf d s];rfl
  rw[un]
  by_cases hk:`og
  ·rw[hd.1 hk]
   refine`aJ4;rcases `eM with rfl|he
   ·exact hk
   ·exact q e he
  ·rw[hd.2 hk]
   exact`aJ5
noncomputable def pN(p:`ac):D:=`x [`e `ol,`e `om]
noncomputable def k2(p:`ac):`eZ:=[`m `ol,`m `om]
theorem w70{p:`ac}(h:k2 p=k2 q):p=q:=by
 unfold k2 at h;injection h with h1 h2
 injection h2 with h2 _
 injection h1 with h1
 injection h2 with h2
 exact `ze
theorem dq0(ks:`f9)(k:`eZ):`W9↔k∈ks:=by
 unfold T9;rw[`K'];constructor
 ·rintro⟨x,hx,e⟩
  rw[← of_decide_eq_true e];exact hx
 ·intro h
  exact⟨k,h,R1 rfl⟩
theorem ro0(ks:`f9)(k x:`eZ):x∈`JS↔`RO∨x=k:=by
 unfold W6
 by_cases h:`W9
 ·rw[`iH]
  have:=(dq0 ks k).mp h;exact⟨`m,λz=>`qn id λe=>e▸`u⟩
 ·rw[`rZ,`aJv,`fA]
theorem lf0(v:D):∀(L:`co) (ks:`f9) (vs:`p),∃r,Q9 ks vs (`wX λp=>`x [`gn,v])=`di/\∀x,x∈r.1↔`aJ6
 | [],ks,vs=>⟨(ks,vs),rfl,λx=>⟨`m,λz=>`qn id λhq140=>by obtain⟨p,hp,_⟩:=hq140;cases hp⟩⟩
 | p::L,ks,vs=>by
  obtain⟨r,h1,h2⟩:=lf0 v L `Tb (V4 ks vs `rc v);refine⟨r,?_,λx=>?_⟩
  ·rw[← h1];rfl
  ·rw[h2,ro0]
   constructor
   ·rintro ((z|z)|⟨q,hq,e⟩)
    ·exact `jr
    ·exact `i ⟨p,A5,z⟩
    ·exact `i ⟨q,`YA,e⟩
   ·rintro (z|⟨q,hq,e⟩)
    ·exact `m (`jr)
    ·rcases `bU hq with rfl|hq
     ·exact `m (`i e)
     ·exact `i ⟨q,hq,e⟩
noncomputable def Dc(L:`co)(d:D):Prop:=∃ks vs,d=`FA/\∀x,`RO↔∃p∈L,x=k2 p
theorem dr0{d:D}(h:`z0)(p:`ac):S7 `b `wT d=`a (.bl (`akd)):=by
 obtain⟨ks,vs,rfl,hk⟩:=h;show `a (`lV (xor `b (`aa4)))=_
 by_cases z:p∈L
 ·rw[(dq0 ks _).mpr ((hk _).mpr ⟨p,z,rfl⟩),`bZ (`RS)];rfl
 ·have:`aa4=`r:=by
   cases e:`aa4 with
   | false=>rfl
   | true =>
    obtain⟨q,hq,e2⟩:=(hk _).mp ((dq0 ks _).mp e);exact `L (w70 e2▸hq) z
  rw[`u,`bS z];rfl
noncomputable def okv(L:`co):`z1
 | `_T,`zU=>`aJ7∈L
 | v,w=>v=w
theorem d20{v:D}(h:`cn):Pn.Pl v:=by
 refine⟨ox0 h 49,?_⟩;rcases h with rfl|⟨z,rfl⟩|⟨j,rfl,_⟩<;>simp[`E!,Pn.nbs]
noncomputable def zl0(p:Prop)(o:`cN):Prop:=(p->o=`hd)/\(¬p->o=`iF)
theorem Su0{v w:D}(hv:`cn)(hw:`l6):zl0 (v≠w) (W7 v w) :=
 ⟨λe=>`rg (d20 hv) (d20 hw) e,λe=>by
  have:=Bk0.mp e;subst this;exact `ri (d20 hv).le⟩
theorem vk0{p:Prop}{g:GE}(h:zl0 p (`aB)):(p->`aa2=`fh)/\(¬p->`aa2=`b7) :=
 ⟨λz=>by unfold ob;rw[h.1 z];rfl,λz=>by unfold ob;rw[h.2 z];rfl⟩
theorem jj0{v w:D}(hv:`cn)(hw:`l6)(h:¬(`z2)):`z3↔v=w:=by
 rcases hv with rfl|⟨z,rfl⟩|⟨j,rfl,_⟩<;>rcases hw with rfl|⟨z',rfl⟩|⟨j',rfl,_⟩<;>first|exact Iff.rfl|exact `L `fv h
noncomputable def UB:GS:=(v9 (ifD `aGL
 (v9 (ifD `aGM
 (v9 `fW
 o4)
 o4)
 o4)
 (v9 (ifD `aGN
 (v9 `fW
 o4)
 o4)
 o4))
 o4)
theorem e60(v w:D):`aJ8:=by
 refine `tB;unfold u50;rw[show ob (O5 `dk `lE) (Z9 ut0 [`oi])=`aa5 from rfl,`w];cases `ii with
 | false=>rfl
 | true=>rw[`aY];rfl
theorem Pe0{d:D}(hd:`z0){v w:D}(hv:`cn)(hw:`l6)(a b c:Sl) :
  (`z3->UB `rf=`a (.nx `rf))/\(¬`z3->UB `rf=`aa3):=by
 have hl:ob `aiW `rf=`aa6:=by
  unfold ob;rw[`aJ9,e60];rfl
 by_cases hb:`z2
 ·rw[hb.1,hb.2] at hl
  obtain⟨i,rfl,_⟩:∃j:Nat,`Ry:=by
   rcases hv with rfl|⟨z,rfl⟩|h
   ·exact `tK
   ·exact `tK
   ·exact h
  obtain⟨j,rfl,_⟩:∃j:Nat,`aJ':=by
   rcases hw with rfl|⟨z,rfl⟩|h
   ·exact `tL
   ·exact `tL
   ·exact h
  have e:okv L (`wS) `El↔`g9∈L:=by
   unfold okv;simp only[`aR]
  have lp:`aJ! :=
   `aJ?
  have ht:ob `aiX `aj6=`a (`I ((i,j)∉L)):=by
   unfold ob;rw[o8 (x:=`rd) (y:=d) (by rw[`ako];exact lp) rfl,dr0 hd];rfl
  rw[e];refine`tM
  ·rw[`bZ (`RS)] at ht
   refine `aKa;rw[T3 hl];refine `aKa;rw[`z4];rfl
  ·rw[`bS z] at ht
   refine `lK;rw[T3 hl];refine `lK;rw[T3 ht];rfl
 ·have hl2:`aa7:=by
   cases e1:`ii with
   | false=>rfl
   | true =>
    cases e2:`Ev with
    | false=>rfl
    | true=>exact `aKb
  rw[hl2] at hl;rw[jj0 hv hw hb];obtain⟨t1,t2⟩:=vk0 (g:=`aiZ) (δ:=`rf) (p:=v≠w) (by
   rw[`aKc];exact Su0 hv hw)
  refine`tM
  ·refine `aKd
   rw[Z2 hl];refine `aKd;rw[`aKe];rfl
  ·refine `lK
   rw[Z2 hl];refine `lK;rw[`aa8];rfl
noncomputable def pa(ps:`o)(i:Nat):Pt:=ps.getD i (.row [])
noncomputable def up(ps qs:`o)(L:`co)(p:`ac):Prop:=`aka/\∀q∈`RY,`aKf
theorem j4{ps:`o}(h:`D)(hi:`kC):`aJi=`a `E'/\Pw `P (`j'):=by
 obtain⟨a,_,c⟩:=`LH;have:`j'=`zc:=by unfold pa;simp[hi]
 rw[`u];exact⟨a,c⟩
theorem xx0(p:Pt)(h:`dS):`aa9:=`aKg
theorem N5(p:Pt)(h:`dS):`Lt:=`aaH
theorem Z90{ps qs:`o}(hp:`D)(hq:`aw){d:D}(hd:`z0){p:`ac}(h1:`pi)(h2:`LN):zl0 (`Ez) (y80 [`aN,`cT,`gn,d]):=by
 obtain⟨a1,a2⟩:=`rp;obtain⟨b1,b2⟩:=`xg;unfold up;generalize `Ex=P at a1 a2;generalize `Ey=R at b1 b2;have g1:`aKh:=fun δ=>by
  rw[`aKi];exact a1
 have g2:`aKj:=fun δ=>by
  rw[`aKk];exact b1
 obtain⟨t1,t2⟩:=vk0 (g:=`aiI) (δ:=`z5) (p:=`aKl) (by
  rw[o8 (x:=`wU) (y:=`wV) (by rw[`LO];exact xx0 P a2.f) (by rw[`LP];exact xx0 R b2.f)];exact`aKm)
 by_cases hh:`wU=`wV
 ·obtain⟨f1,f2⟩:=eh0 (f:=`qW) (G:=UB) (λs=>[`S,`aH,`fE,`hZ,s]) (`mB) (λx=>∃v w,x=`oi/\`z3) `aKn (λx hx=>by
   obtain⟨q,J,rfl⟩:=`iM;obtain⟨m1,m2⟩:=N0 J;obtain⟨u1,u2⟩:=Pe0 hd (a2.lv _ m1) (b2.lv _ m2) (`S) (`aH) `l?;refine ⟨λhq141=>?_,λz=>u2 λo=>z ⟨_,_,rfl,o⟩⟩;obtain⟨v,w,e,o⟩:=hq141;injection e with e
   injection e with e1 e
   injection e with e2 _
   rw[← e1,← e2] at o;exact u1 o) .un
  have hz:sa0 `aGK `z5=`a `aKn:=by
   unfold sa0;rw[`y (d:=`s `ED) (ds:=[`s `wW]) (by rw[`LO];exact N5 P a2.f) (`y (by rw[`LP];exact N5 R b2.f) rfl)];rfl
  have hn:∀rest:GS,v9 (ifD `Ln (v9 `fW o4) o4) `bB `z5=`bB `z5:=λrest=>p6 `aKo rfl
  refine⟨λM=>?_,λM=>?_⟩
  ·obtain⟨s',hs⟩:=f1 λx hx=>by
    obtain⟨q,J,rfl⟩:=`iM;exact⟨_,_,rfl,M.2 q J⟩
   refine j7 rfl ?_;refine`aKp (p6 (O7 hz hs) `z6)
  ·refine j7 rfl ?_
   refine`aKp (n8 (O7 hz (f2 λz=>M ⟨hh,λq J=>?_⟩)));obtain⟨v,w,e,o⟩:=z _ (`wG ⟨q,J,rfl⟩);injection e with e
   injection e with e1 e
   injection e with e2 _
   rw[e1,e2];exact o
 ·refine⟨`aKq,λ_=>`Lw⟩
  show ifD _ _ _ `z5=_;rw[`aa'];rfl
theorem Ro0(p q:`ac):deq `wT (pN q)=`I (p=q):=by
 unfold pN;rw[deq,G4,G4,G4,deq,deq]
 by_cases h:p=q
 ·subst h;simp
 ·rw[`ml]
  cases e:`ol==(q.1:Int) with
  | false=>rfl
  | true =>
   cases e2:`om==(q.2:Int) with
   | false=>rfl
   | true =>
    exfalso;apply h;rw[`ua] at e e2;exact `ze
theorem mc0(p:`ac)(k:Nat):`bo `wT `cf=`b:=by simp[pN,`bo,`b!]
theorem fy0(L:`co)(k:Nat):`b! `wZ `cf=`b:=v20 λx hx=>by
 obtain⟨p,_,rfl⟩:=`iM;exact mc0 p k
theorem l90:∀bs:`oX,`aKr=`W3
 | []=>rfl
 | b::bs=>by show (`aKr).map _=_;rw[l90 bs];rfl
theorem xd0(ps:`o)(δ:Ds)(h:gv i δ=`EK):oA (z9 (gv i) v7) Y6 δ=`a (`aKs):=by
 rw[o9 (ds:=`z7) `axJ];show `a (`c8 (`aKt:Int))=_;rw[`Y]
theorem Yw0{ps qs:`o}{p:`ac}(h1:`pi)(h2:`LN):ya0 `LQ=`hd:=by
 refine `tB;have c1:xa0 `cQ `qU `lH leD ltD `aa!=`hd:=by
  unfold xa0;rw[`aKu];show (if `I (`ie<=`ol)=`b then `a (`lV (`I (`ol<`wY))) else `iF)=_;rw[`LR,`aY,`LR]
 have c2:xa0 `cQ `wk `DX leD ltD `aa!=`hd:=by
  unfold xa0;rw[`aa?];show (if `I (`ie<=`om)=`b then `a (`lV (`I (`om<`w4))) else `iF)=_;rw[`LR,`aY,`LR]
 unfold u50
 change `mP (ob `aGJ `aa!) _=_
 rw[`dn c1,`w,`aY];exact c2
open Classical in
theorem dn0{ps qs:`o}(hp:`D)(hq:`aw)(hir:∀p∈L,`pi/\`LN)(hl:`LS<=`R):zl0 `aKv (`aKw):=by
 have zs:`dT:=`ah
 obtain⟨r,r1,r2⟩:=lf0 `wh L [] [];have hd:Dc L (`oo):=⟨r.1,r.2,rfl,λx=>by rw[r2];simp⟩;have key:`aKw=`a (.bl (`aKx)):=by
  refine j7 rfl (p6 (j8 (d:=`oo) ?_) `dH)
  ·rw[o9 (ds:=[`s (`wX λp=>`x `aj!)]) (`y (V7 (items:=`on) rfl `e? (by
    rw[Q4 (λd=>`x [d,`gT]) (λd hd=>⟨[`hZ],rfl,rfl,`tE⟩),`br];rfl)) rfl)]
   show (if (`aKy).length<=`R then (Q9 [] [] (`aKy)).map (λr=>D.dct (`i r.1) r.2) else `c)=_;rw[`tN,r1];rfl
  ·rw[o9 (ds:=[`s ((`aj').map .bl)]) (`y (V7 (items:=`on) rfl `e? (by
    have:∀p∈L,u50 `ai0 `ai1 `aKz=`a (.bl (`aj8)):=λp J=>by
     obtain⟨i1,i2⟩:=hir p J;unfold u50;rw[`dn (b:=`b) (by rw[o9 (ds:=`LQ) rfl];exact Yw0 i1 i2),`w,`aY,o9 (ds:=[`aN,`cT,`gn,`oo]) rfl];obtain⟨u1,u2⟩:=Z90 hp hq hd i1 i2
     by_cases hu:`Ez
     ·rw[`bS hu];exact u1 hu
     ·rw[`bZ hu];exact u2 hu
    have go:∀l:`co,(∀p∈l,p∈L)->V1 `a6 noT `aGO [.un,`S,`aH,.sh (`oo)] `aKA=`a ((`c1 `aj9).map .bl):=by
     intro l
     induction l with
     | nil=>intro _;rfl
     | cons p l ih =>
      intro M;rw[`al];unfold V1;show (match u50 _ _ `aKz with|`c=>`c|`bA=>(V1 _ _ _ _ `aKA).map `HM)=_;rw[`u p (M p A5),ih λq O=>M q (A6 _ O)];rfl
    exact go L λp J=>J)) rfl)]
   show (`uX _).map _=_;rw[l90];rfl
 rw[key];have e:`aKx=`I `aKv:=by
  rw[`fY,`IY,`ix,`pd];exact⟨λz p J=>j0 (z p J),λz p J=>R1 (z p J)⟩
 rw[e];exact⟨λz=>by rw[`bS z],λz=>by rw[`bZ z]⟩
universe Ta
namespace Ta
open Ka
open DL W K22
theorem pp0{f:`a1}{G:GS}(P:Ds->Prop)(ok:`RP)(r:D):∀items:`p,(∀d∈`a',∀δ,P δ->∃δ1,`Wn/\(`og->∃δ2,`Wo/\P δ2)/\(¬`og->`BW=`tO)) ->
  ∀δ,P δ->(`LK->∃δ',`asY/\P δ')/\(¬`LK->`BX=`tO)
 | [],_,δ,hP=>⟨λ_=>⟨δ,rfl,hP⟩,`aJ3⟩
 | `LL,h,δ,hP=>by
  obtain⟨δ1,e1,g1,g2⟩:=h d A5 δ hP;have un:W5 f G (`LL) δ=(match `BW with|`dC=>`LM|`oV=>`LM|`oW=>`dC|r=>r):=by
   conv=>lhs;unfold W5
   rw[e1];rfl
  rw[un]
  by_cases hk:`og
  ·obtain⟨δ2,e2,p2⟩:=g1 hk
   obtain⟨i1,i2⟩:=pp0 P ok r `a' (`Rf) δ2 p2;rw[e2];refine`aJ4;rcases `eM with rfl|he
   ·exact hk
   ·exact q e he
  ·rw[g2 hk]
   exact`aJ5
theorem s20{p:Pt}(h:`cG):V8 `j_=`a (`oj):=by
 have zs:`dT:=`ah
 have hf:=`rt;have nc:∀ps:`ed,V1 `Ls noT `U [.un,.un] `lD=`aF6:=λps=>by
  rw[Q4 (λd=>match d with|`x [a,_]=>a|_=>`A) (λd hd=>by
   obtain⟨q,_,rfl⟩:=`dR;exact⟨[.sh (`N q.1),.sh q.2],rfl,rfl,rfl⟩),`br,`br]
  rfl
 cases p with
 | text w=>kernel_rfl
 | row vs =>
  have hf:`q9:=hf;refine `Lw;rw[`D0];exact n8 (Z4 (`tE))
 | table ps =>
  have hf:`LJ:=hf;rw[`Y] at hf;refine j7 rfl (p6 (δ':=`qX) `cb (p6 (δ':=`qX) `cb `dH));rw[o8 (x:=`x [`wf]) (y:=`aKB) rfl (V3 (`y (by
   rw[`aKC];rfl) rfl) `zR)]
  rfl
 | rcd c ps =>
  have hf:`LJ:=hf;rw[`Y] at hf;refine j7 rfl (p6 (δ':=`n7) `cb (p6 (δ':=`n7) `cb `dH));rw[o8 (x:=`x `aI!) (y:=`aKB) rfl (V3 (`y (by
   rw[`aKC];rfl) rfl) `zR)]
  rfl
theorem pc0{p q:Pt}(h:`z8):`Eh=`aKD:=by
 have inj:∀{a b:`ed},`ew ((`SH).map `N)=`ew ((b.map `b9).map `N)->(a.map `cZ).length=(b.map `cZ).length:=λ{a b} e=>by
  injection e with e
  have:=`aI7
  simpa using `u
 cases p with
 | text w =>
  cases q with
  | text w'=>rfl
  | row vs=>injection h with h;injection h with h _;injection h with h;exact `gD
  | table ps=>injection h with h;injection h with h _;injection h with h;exact `gD
  | rcd c ps=>injection h with h;injection h with h _;injection h with h;exact `gD
 | row vs =>
  cases q with
  | text w'=>injection h with h;injection h with h _;injection h with h;exact `gD
  | row ws =>
   injection h with h
   injection h with _ h
   injection h with h _
   injection h with h
   show `aba;omega
  | table ps=>injection h with h;injection h with h _;injection h with h;exact `gD
  | rcd c ps=>injection h with h;injection h with h _;injection h with h;exact `gD
 | table as =>
  cases q with
  | text w'=>injection h with h;injection h with h _;injection h with h;exact `gD
  | row vs=>injection h with h;injection h with h _;injection h with h;exact `gD
  | table ps =>
   injection h with h
   injection h with _ h
   injection h with h _
   exact inj h
  | rcd c ps=>injection h with h;injection h with h _;injection h with h;exact `gD
 | rcd c as =>
  cases q with
  | text w'=>injection h with h;injection h with h _;injection h with h;exact `gD
  | row vs=>injection h with h;injection h with h _;injection h with h;exact `gD
  | table ps=>injection h with h;injection h with h _;injection h with h;exact `gD
  | rcd c' ps =>
   injection h with h
   injection h with _ h
   injection h with _ h
   injection h with h _
   exact inj h
noncomputable def gl1:`fF->`aK `AI
 | (`_T,`zU)=>`a `aJ7
 | _=>`c
noncomputable def gl(z:`i0):`co:=z.filterMap gl1
noncomputable def nl(q:`fF):Prop:=(`abb)∨q.1=q.2
noncomputable def GB:GS:=(v9 (ifD `aHB
 (v9 `aHC
 o4)
 (v9 (ifD `aHD
 (v9 `tz
 o4)
 o4)
 o4))
 o4)
theorem iz0(z:`i0):(gl z).length<=`eU:=Eb0 _ _
theorem ds0{vs ws:`p}(hv:∀v∈vs,`cn)(hw:∀w∈ws,`l6)(hl:`aba)(h12:`q9)(a b c:Sl)(i:Nat)(hi:`G') :
  (`aKE->`aKF=`a (.nx [a,b,c,.ow (`s ((`abc).map pN)),`cS,`w0,`gp])) /\
  (¬`aKE->`aKF=`aKG):=by
 have zs:`dT:=`ah
 have a0:`JE:=`h
 have g4:∀s:Sl,o2 `bb `cA ixD `aKH=`a `EA:=λs=>by
  rw[o8 (x:=`jl) (y:=`e8) rfl rfl];show atI vs `eT=_;rw[`tD,`aR];simp[`cr,hi]
 have g5:∀s:Sl,o2 `bW `cA ixD `aKH=`a `C4:=λs=>by
  rw[o8 (x:=`s ws) (y:=`e8) rfl rfl];show atI ws `eT=_;rw[`tD,`aR];simp[`cr,a0]
 have tk:`EB `a4=`EB i++[`aKI]:=by
  rw[`pb,`d2 (`LT),`iW];rfl
 have J:`abc=`EC++(gl1 `aKI).toList:=by
  rw[tk];unfold gl;rw[List.filterMap_append];congr 1
 have O:=hv _ `Ke;have M:=hw _ (C0 a0);have a1:(`EC).length<=12:=C4 (iz0 _) (by rw[`ck,`c4];omega);generalize `abc=Z' at J ⊢;generalize `EC=Z at J a1 ⊢;generalize `EA=v at g4 J O ⊢;generalize `C4=w at g5 J M ⊢;have ht:yd0 `ajo `ajp `RU=`aa6:=by
  refine Qt0 ?_ ?_
  ·unfold ob O5;rw[g4];rfl
  ·unfold ob O5;rw[g5];rfl
 by_cases hb:`z2
 ·refine⟨`I!,λz=>`L `Fo z⟩
  rw[hb.1,hb.2] at ht;obtain⟨x,rfl,_⟩:∃j:Nat,`Ry:=by
   rcases O with rfl|⟨z,rfl⟩|h
   ·exact `tK
   ·exact `tK
   ·exact h
  obtain⟨y,rfl,_⟩:∃j:Nat,`aJ':=by
   rcases M with rfl|⟨z,rfl⟩|h
   ·exact `tL
   ·exact `tL
   ·exact h
  have e:gl1 (`ew `aKJ,`ew `aKK)=`a `yV:=by
   unfold gl1;simp only[`aR]
  rw[e] at J;rw[J];refine p6 (δ':=[a,b,c,.ow (`s ((Z++[`yV]).map pN)),`cS,`w0,`gp]) ?_ rfl;rw[T3 ht];refine p6 ((Gw.u60 (l:=Z.map pN) (d:=pN `yV) rfl ?_ `e?).trans ?_) rfl
  ·exact V3 (`y (by rw[o8 (x:=`x `aKJ) (y:=`eA) (g4 _) rfl];rfl) (`y (by rw[o8 (x:=`x `aKK) (y:=`eA) (g5 _) rfl];rfl) rfl)) `gm
  ·rw[`bI];rfl
 ·have hl2:`aa7:=by
   cases e1:`ii with
   | false=>rfl
   | true =>
    cases e2:`Ev with
    | false=>rfl
    | true=>exact `aKb
  rw[hl2] at ht;have en:`mT=`c:=by
   rcases O with rfl|⟨z,rfl⟩|⟨j,rfl,_⟩<;>rcases M with rfl|⟨z',rfl⟩|⟨j',rfl,_⟩<;>first|rfl|exact `L `fv hb
  rw[en] at J;have J:Z'=Z:=by rw[J];simp
  rw[J];have a2:nl `w2↔v=w:=⟨λz=>z.resolve_left hb,`i⟩;rw[a2];obtain⟨t1,t2⟩:=vk0 (g:=`ajq) (δ:=`RU) (p:=v≠w) (by
   rw[o8 (x:=v) (y:=w) (g4 _) (g5 _)];exact Su0 O M)
  refine`tM
  ·refine `aKL
   rw[`z4];refine `aKL;rw[`aKe];rfl
  ·refine `lK
   rw[`z4];refine `lK;rw[`aa8];rfl
theorem vq0(n:Nat):`_!=(`dm 0 n).map `RW:=by
 unfold U0;rw[List.range_eq_range',show (`cM - 0).toNat=n by omega];refine `axC
 congr 1;omega
theorem fn0{G:GS}(n:Nat)(st:Nat->Sl->Ds)(hf:∀i s d,gN j d `RX=`a (st i `lc))(ok:`t4)(r:D)(hG:∀i,i<n->(ok i->`abd=`a (.nx (st `a4 (`gp))))/\(¬ok i->`abd=`tO)) :
  ∀(m i:Nat) (s:Sl),i+m=n->(`aKM->∃s',`aKN=`a (.nx (st n s')))/\(¬`aKM->`aKN=`tO)
 | 0,i,s,h=>by
  have:i=n:=`h
  subst this;exact⟨`aJ2,λz=>`L (λk h1 h2=>`h) z⟩
 | m+1,i,s,h=>by
  obtain⟨g1,g2⟩:=hG i `d;rw[`tu,`al];have un:W5 `RV G (`c8 `eT::`aj?) `RX=(match `abd with|`dC=>`aKO|`oV=>`aKO|`oW=>`dC|r=>r):=by
   conv=>lhs;unfold W5
   rw[hf];rfl
  rw[un]
  by_cases hk:ok i
  ·rw[g1 hk]
   obtain⟨i1,i2⟩:=fn0 n st hf ok r hG m `a4 (`gp) `d;refine⟨λz=>i1 λk h1 h2=>z k `d h2,λz=>i2 λq=>z λk h1 h2=>?_⟩
   by_cases e:k=i
   ·subst e;exact hk
   ·exact q k `d h2
  ·rw[g2 hk]
   exact⟨λz=>`L (z i `aV `d) hk,`lS⟩
theorem ph0{p:Pt}(h:`cG):`aaA:=Gw.wi0 p h.f
theorem Wt0{ps qs:`o}(hp:`D)(hq:`aw){p:`ac}(h1:`pi)(h2:`LN) :
  (`aKP->zu0 `LQ=`a (`s ((gl (`RY)).map pN))) /\
  (¬(`aKP)->zu0 `LQ=`ry):=by
 obtain⟨a1,a2⟩:=`rp;obtain⟨b1,b2⟩:=`xg;generalize `Ex=P at a1 a2 ⊢;generalize `Ey=R at b1 b2 ⊢;have g1:`aKh:=fun δ=>by
  rw[`aKi];exact a1
 have g2:`aKj:=fun δ=>by
  rw[`aKk];exact b1
 obtain⟨t1,t2⟩:=vk0 (g:=`aHz) (δ:=`z9) (p:=`aKl) (by
  rw[o8 (x:=`wU) (y:=`wV) (by rw[`LO];exact s20 a2) (by rw[`LP];exact s20 b2)];exact`aKm)
 have s4:∀s:Sl,m5 `d6 `aHx [`S,`aH,`fE,`e!,s,.un,.un]=`a (.nx [`S,`aH,`fE,`e!,`EE,.un,.un]):=λs=>j8 (by
  rw[`LO];exact ph0 a2)
 have s5:∀s:Sl,m5 `eB `aHy [`S,`aH,`fE,`e!,`EE,s,.un]=`a (.nx `z9):=λs=>j8 (by
  rw[`LP];exact ph0 b2)
 by_cases hh:`wU=`wV
 ·have hl:=pc0 hh
  have M:=a2.few;obtain⟨f1,f2⟩:=fn0 (G:=GB) (j:=6) `pj (λi s=>[`S,`aH,`fE,.ow (`s ((gl (`abe i)).map pN)),`EE,`akb,s]) (λ_ _ _=>rfl)
   (λi=>∀(h:i<`pj) (h':i<`aKQ),nl (`ED[i],`wW[i])) `A (λi hi=>by
    obtain⟨u1,u2⟩:=ds0 a2.lv b2.lv hl M (`S) (`aH) `l? i hi;exact⟨λz=>u1 (z hi `d),λz=>u2 λq=>z λ_ _=>q⟩) `pj 0 .un (`bd _)
  rw[← vq0] at f1 f2;have e0:gl (`abe 0)=[]:=rfl;have en:`abe `pj=`lU:=`v0 (`LT);simp only[e0,en,`fy] at f1 f2;have hr:O1 `aHA `z9=`a (U0 0 (`pj:Int)):=yb0 (`y (g60 rfl) rfl) `d `d;have J:`aKR↔∀k,`lP->k<`pj->∀(h:k<`pj) (h':k<`aKQ),nl (`ED[k],`wW[k]):=by
   constructor
   ·intro z k _ _ h h'
    refine z _ ?_;have:k<(`lU).length:=`LT
    have e:=C0 `u
    rwa [`iW] at e
   ·intro z q O
    obtain⟨k,hk,e⟩:=`jL O;rw[`c4] at hk;rw[`iW] at e;rw[← e];exact z k `yq `d `d `d
  refine`tM
  ·obtain⟨s',hs⟩:=f1 (J.mp z.2)
   refine j7 rfl (p6 (δ':=`abf) rfl (p6 `z' (p6 (s5 _) (p6 (δ':=`z9) `aKS (p6 (O7 hr hs) `z6)))))
  ·refine j7 rfl (p6 (δ':=`abf) rfl (p6 `z' (p6 (s5 _) (p6 (δ':=`z9) `aKS (n8 (O7 hr (f2 λq=>z ⟨hh,J.mpr q⟩)))))))
 ·refine⟨`aKq,`I!⟩
  refine j7 rfl (p6 (δ':=`abf) rfl (p6 `z' (p6 (s5 _) `e')));rw[`aa'];rfl
theorem gl0{P R:Pt}(hP:Pw n P)(hR:Pw m R)(L:`co):(∀q∈`lU,`aKf)↔`aKR/\∀x∈gl (`lU),x∈L:=by
 have lv:∀q∈`lU,Lv n q.1/\Lv m q.2:=λq hq=>⟨hP.lv _ (N0 hq).1,hR.lv _ (N0 hq).2⟩
 have one:∀v w,`cn->`l6->(`z2->∃x,`mT=`aQ/\(`z3↔x∈L)):=λv w hv hw hb=>by
  rcases hv with rfl|⟨z,rfl⟩|⟨i,rfl,_⟩
  ·exact `tK
  ·exact `tK
  ·rcases hw with rfl|⟨z,rfl⟩|⟨j,rfl,_⟩
   ·exact `tL
   ·exact `tL
   ·refine⟨`g9,?_,?_⟩
    ·unfold gl1;simp only[`aR]
    ·unfold okv;simp only[`aR]
 have J:∀v w,`mT≠`c->`z2:=λv w h=>by
  unfold gl1 at h;split at h
  ·rename_i e
   injection e with e1 e2
   subst e1;subst e2;exact`fv
  ·exact `ao?
 constructor
 ·intro z
  refine⟨`yZ,`dj⟩
  ·by_cases hb:`abb
   ·exact `w1
   ·exact `i ((`aKT).mp (z q hq))
  ·obtain⟨q,hq,e⟩:=`sd hx
   have hb:=J q.1 q.2 (by rw[`aKU,e];exact λz=>nomatch z);obtain⟨y,e2,e3⟩:=`aKV;rw[`aKU,e] at e2;cases e2;exact e3.mp (z q hq)
 ·rintro⟨z1,z2⟩ q hq
  by_cases hb:`abb
  ·obtain⟨y,e2,e3⟩:=`aKV
   exact e3.mpr (z2 y (`rr ⟨q,hq,e2⟩))
  ·exact(`aKT).mpr ((z1 q hq).resolve_left hb)
theorem V90{l:`cD}{a:α}:(l++[a]).Nodup↔`aaE/\a∉l:=by
 rw[`yO];constructor
 ·rintro⟨h1,_,h3⟩
  exact⟨h1,λz=>h3 a z a `ZT rfl⟩
 ·rintro⟨h1,h2⟩
  exact⟨h1,`a!,λx hx y hy e=>by rw[`RK] at e;exact h2 (e▸hx)⟩
theorem pk0{d:D}(hd:`z0):∀M:`co,`abg=`a ((`alt).map pN)
 | []=>rfl
 | p::M=>by
  have ih:=pk0 hd M;rw[`al];unfold V1;show (match ob (`RZ) [`fE,`hZ] with|`c=>`c|`b7=>`abg|`fh=>(`abg).map λr=>`gn::r)=_;rw[`dn (g:=`RZ) (by rw[o8 (x:=`gn) (y:=d) rfl rfl];exact dr0 hd p),ih]
  by_cases h:p∈L
  ·rw[`aaU,`asV `kx]
  ·rw[`tt,`asW `kx]
   rfl
universe Ta
namespace Ta
open Ka
open DL W K22
theorem bi0(h:j<n):ixN n `eu=`so:=by
 unfold ixN;rw[`tr,`tr,`aR]
theorem da0(P:`k)(h:j<`Vu):ixD (`s (nd P)) `lO=`a (`e ((P.getD j 0:Nat):Int)):=by
 show atI (nd P) `eu=_;rw[G5 `d `zY `A,`aR];unfold nd;simp[h]
universe Ta
namespace Ta
open Ka
open DL W K22
theorem Wi0(qs:`o)(j:Nat)(q:Pt):(`w7).set j q.d=(qs.set j q).map `d5:=by rw[List.map_set]
theorem bl0{g:GE}{gx:GE}{v:D}(h1:`lj=`nw)(h2:`aB=`a `lO)(h3:j<`b1)(h4:`o3=`a3):J2 (z10 gx) `awO δ=`a (.nx (`au2)):=by
 unfold J2 z10;rw[h4];unfold setAt;rw[`eH,`w,h1,`w,h2,`w];simp only[];rw[bi0 h3];rfl
theorem Y30(xs:`p)(n:Nat):`qj xs `c `EF=`Gb:=by
 unfold cutD;show (`px 0).take (sIx `as `as `EF - 0)=_;rw[List.drop_zero,Nat.sub_zero];unfold sIx;simp only[];rw[`eL,`aR]
 by_cases h:n<=`as
 ·rw[`Kf h]
 ·rw[`aKW,`tJ,`v0 `d]
theorem Xs0(xs:`p)(n:Nat):`qj xs `EF `c=`px n:=by
 unfold cutD;show (`px (`aKX)).take (`as - `aKX)=_;unfold sIx;simp only[];rw[`eL,`aR]
 by_cases h:n<=`as
 ·rw[`Kf h,`v0 (by rw[`fg];exact `eN)]
 ·rw[`aKW,`WV,List.take_nil,List.drop_of_length_le `d]
theorem O50{g gh:GE}{xs:`p}(h1:`aKY)(h2:`aKZ):J9 g z70 `aK_ δ=`a (`x (`Gb)):=by
 unfold J9 someO;rw[h1,h2,← Y30];rfl
theorem Vb0{g gh:GE}{xs:`p}(h1:`aKY)(h2:`aKZ):J9 g `aK_ z70 δ=`a (`x `T6):=by
 unfold J9 someO;rw[h1,h2,← Xs0];rfl
universe Ta
namespace Ta
open Ka
open DL W K22
theorem a70(x m:Int)(hx:`aIi)(hm:0<m):∃v,`aIj/\Gw.Vk v m:=Gw.wt0 x m hx hm
theorem Zo0(p:Pt)(h:`dS)(vs:`p)(hl:`mS):`LE:=`aaI
theorem P90{v:D}(k:Gw.Vk v `jc):Lv m v:=by
 rcases kc0 k.ok with rfl|⟨i,rfl⟩|⟨i,rfl,hi⟩
 ·exact `bL
 ·exact `Lh
 ·have:=`aJW
  exact `aJX
theorem Rz0{p:Pt}(h:`cG){vs:`p}(hl:`mS)(hv:∀v∈vs,`cn):Pw n (`q7):=by
 have e:=xq0 p vs hl;exact⟨by rw[e,hl];exact `rt,λv J=>by rw[e] at J;exact hv v J⟩
theorem eq_nil{vs:`p}(h:∀v∈vs,`cn):vt0 `wu `wy=`a (.bl (`I (`rQ))):=by
 unfold vt0;have e:`bo `wu 50=`b:=by
  rw[`bo];exact v20 λx hx=>ox0 (h x hx) 48
 rw[`J ⟨e,by simp[`bo,`b!]⟩];cases vs with
 | nil=>simp[deq,G4]
 | cons a vs=>simp[deq,G4]
theorem Wr0{xs ys:`p}(h:`Hh):Z3 `kQ `uG=`avj:=by
 simp only[Z3];rw[`iH]
theorem d40{qs:`o}(h:`aw)(x:Int):`aK0:=by
 have zs:`aK1:=`ah
 have hq:=`l_;have b1:0<=`LU:=`tC;have b2:`LU<`bj:=`zQ;obtain⟨k,hk⟩:∃k:Nat,`LU=`bG:=⟨(`LU).toNat,`h⟩;have J:k<`bj:=`h
 obtain⟨e1,_,pw⟩:=h.at J;have gk:o2 `ax `lH Z6 `aK2=`abh:=by
  rw[o8 (x:=`id) (y:=`aK3) rfl (`aa?),`LV,hk]
 have gp:∀s2 s3:Sl,o2 `U `bi ixD [`aH,`dl,`cl,s2,s3]=`a `abi:=λs2 s3=>by
  rw[o8 (x:=`cT) (y:=`c3) rfl rfl];exact e1
 have M:oA `ajm Z0 `abj=`a `EG:=by
  rw[o9 (ds:=[`abi]) `aK4];exact ph0 pw
 have s1:m5 `d3 `aHr `aK2=`a (.nx `abj):=j8 gk;have s2:N7 3 `aHs `abj=`a (.nx `abk):=by
  unfold N7;rw[M];rfl
 have t:uv0 `aHt `abk=`a (`I (`w5=[])):=by
  show ob `ajn [`aH,`dl,`cl,.sh `EG,.un]=_;exact `dn (by rw[o8 (x:=`s `w5) (y:=`uS) rfl `aK5];exact eq_nil pw.lv)
 by_cases hn:`w5=[]
 ·refine⟨qs,j7 rfl (p6 s1 (p6 s2 `e')),h,rfl⟩
  rw[T3 (t.trans (by rw[`bS hn]))];exact n8 (Z4 rfl)
 ·have Z:0<`w6:=List.length_pos_iff.mpr hn
  have c1:0<=`LW:=`tC;have c2:`LW<`w6:=`zQ;obtain⟨j,hj⟩:∃j:Nat,`LW=`eu:=⟨(`LW).toNat,`h⟩;obtain⟨v,hv,vk⟩:=a70 (x/240%1000000) `w4 `d `d;have hl:(`ake).length=`w6:=`yb;have O:Pw `bj (`EH):=Rz0 pw hl λu hu=>by
   rcases Ed0 hu with z|rfl
   ·exact pw.lv u z
   ·exact P90 vk
  refine⟨`aK6,j7 rfl (p6 s1 (p6 s2 (p6 (δ':=`abk) ?_ (p6 (δ':=[`aH,`dl,`cl,.ow `EG,`ic]) (j8 ?_) (p6 (δ':=[`aH,`dl,`cl,.ow (`R0),`ic]) ?_ `dH))))),⟨by rw[`yb];exact hq,`r2⟩,`yb⟩
  ·rw[Z2 (t.trans (by rw[`bZ hn]))];rfl
  ·rw[o8 (x:=`e (x/60)) (y:=`e (`w6:Int)) (by rw[o8 (x:=`id) (y:=`DV) rfl rfl];rfl) rfl,`LV,hj]
  ·rw[bl0 (ds:=`w5) (j:=j) (v:=v) rfl rfl `d (by
    rw[o9 (ds:=[`e (x/240%1000000),`aK3]) (`y (by
     rw[o8 (x:=`e (x/240)) (y:=`aHu) (by rw[o8 (x:=`id) (y:=`e 240) rfl rfl];rfl) rfl];rfl) (`y (`aa?) rfl))]
    exact hv)]
   rfl
  ·show o2 _ _ _ `LX=_
   have g1:J9 `U z70 (`g7 `bi) `LX=`a (`x (`abl)):=O50 rfl rfl;have g2:Z8 `aHv `LX=`a (`x [(`EH).d]):=V3 (`y (by
    rw[o9 (ds:=[`abi,`R0]) `aK4];exact Zo0 _ pw.f _ hl) rfl) `zR
   have g3:J9 `U `aHw z70 `LX=`a (`x (`abm)):=Vb0 rfl (by rw[o8 (x:=`c3) (y:=`eA) rfl rfl];rfl);have l1:(`abl).length<=60:=by rw[`ck,`Y];omega
   have l2:(`abm).length<=60:=by rw[`fg,`Y];omega
   rw[o8 (o8 g1 g2 |>.trans (Wr0 (by rw[`jF];omega))) g3,Wr0 (`s4)];have es:`abl++[(`EH).d]++`abm=(`aK6).map `d5:=by
    rw[← Wi0,List.set_eq_take_append_cons_drop (l:=`w7),`J (by rw[`Y];exact J),`fD];rfl
   rw[es];rfl
  ·rw[`yb]
   rcases Ed0 hp with z|rfl
   ·exact h.pw p z
   ·exact O
theorem n00{v:D}(vs:`p)(h:`q8∨`ajP):tgs (`hz)=`iY:=by
 unfold tgs;rw[`r1];rcases h with rfl|⟨z,rfl⟩<;>rfl
universe Ta
namespace Ta
open Ka
open DL W K22 SoT
theorem Wh0{g1 g2:DL.GB}(h1:`zV=`b7)(h2:`tG=`b7):zm0 g1 g2 δ=`b7:=by unfold zm0;rw[h1];exact h2
universe Ta
namespace Fa
open Ka
open DL W K22 Ta
theorem li0(ks:`f9)(k:`eZ):(`JS).length<=`eY+1:=by
 unfold W6;split
 ·omega
 ·simp
noncomputable def ir(n:Nat)(L:`co):Prop:=∀p∈L,p.1<n/\p.2<n
theorem Wu0{A:`co}(h:`abn)(hA:ir n A):A.length<=n*n:=by
 have h2:(`abo).Nodup:=by
  refine `D8 (h.imp_of_mem λ{p q} hp hq J z=>J ?_);have a1:=hA p hp;have a2:=hA q hq;have e1:`AQ:=by
   have:=D9 (·/n) z;rw[`aK7,`aK8,`abp a1.2,`aK7 (q.1*n),`aK8,`abp a2.2] at this;omega
  refine L4 e1 ?_;rw[e1] at z;omega
 have h3:(`abo).length<=n*n:=by
  have sub:(`abo) ⊆ `b? (n*n):=λx hx=>by
   obtain⟨p,hp,rfl⟩:=`iM;have:=hA p hp;rw[List.mem_range]
   calc p.1*n+p.2<p.1*n+n:=by omega
    _=(p.1+1)*n:=`abq
    _<=n*n:=Bl0 n `d
  have:=Ee0 h2 sub
  rwa [Bj0] at this
 rwa [Bm0] at h3
noncomputable def c2(p:`ac):`c5:=(`ol,`om)
theorem Oa0{A:`co}(h:`abn):(`lW c2).Nodup:=`D8 (`Fa λ{p q} J z=>J (by
 unfold c2 at z;injection z with z1 z2
 exact `ze))
theorem wn0(ns:`bk)(k:Int)(h0:`lP):`_8:=`aK9
theorem m30(c t:Int):∃nm,`aH_/\`aK':=Gw.m30 c t
theorem rk0(c k:Int)(hk:`aai):`aaj:=`aK!
theorem io0(cs:`bk)(hc:`LD)(m:Nat)(hm:`aay)(nm:`t)(hp:`aK') :
  ∃ps:`o,`aIY/\`P=m/\∀p∈ps,`aJV:=Gw.io0 cs hc m hm nm hp
theorem Oj0(p:Pt)(h:`dS)(vs:`p)(hl:`mS):`LE:=`aaI
theorem bn0(ns:`bk)(hl:`abr){M:Nat}(hM:`aK?):`aLa:=by
 have tm:∀t:Int,0<=`w8/\`w8<M:=λt=>⟨`tC,`zQ⟩
 have z:`dT:=`ah
 obtain⟨c0,h0⟩:=wn0 ns 0 `l;obtain⟨c1,h1⟩:=wn0 ns 1 `l;obtain⟨t,ht⟩:=wn0 ns 2 `l;obtain⟨c3,h3⟩:=wn0 ns 3 `l;obtain⟨nm,a1,O⟩:=m30 c0 c1;obtain⟨m,hm,a2⟩:∃m:Nat,(0<m/\m<=M)/\∀s4:Sl,o2 `a? (o2 `bc `ax Z6) Z3 [`gr,.sh (`EJ),`fa,`c9,s4]=`a (`Rt):=by
  obtain⟨y1,y2⟩:=tm t;refine⟨`aLb,`h,λs4=>?_⟩;have e:((`aLb:Nat):Int)=1+`w8:=`h
  rw[e,o8 (x:=`eA) (y:=`e (`w8)) rfl (by
   rw[o8 (x:=`lM) (y:=`EJ) rfl rfl];exact `LV)]
  rfl
 obtain⟨cs,a3,a4⟩:∃cs:`bk,(`LD)/\o2 `aHp `aHq Z3 [`gr,.sh (`EJ),`fa,`c9,`Ru]=`a (`q5):=by
  obtain⟨us,hu,Z⟩:∃us:`bk,`cz<=63/\`qj `_' (`a 9) (`a 60)=`aLc:=by
   refine⟨(ns.drop (`aLd)).take (sIx `D6 `D6 (`a 60) - `aLd),?_,?_⟩
   ·rw[`ck,`fg];omega
   ·unfold cutD
    rw[List.map_take,List.map_drop]
  refine⟨us++[c3],`Bb,?_⟩;rw[o8 (x:=`s (`aLc)) (y:=`s [`e c3]) (by rw[← Z];rfl) (vx0 (`y (by rw[o9 (ds:=[`gk,`wn]) rfl];exact h3) rfl) (by show (1:Nat)<=_;omega))];simp only[Z3];rw[`J (by rw[`Y];show `cz+1<=_;omega),`bI];rfl
 obtain⟨ps,a0,J,hg⟩:=io0 cs a3 m ⟨hm.1,`h⟩ nm O;refine⟨ps,j7 rfl (p6 (j8 (d:=`j0) ?_) (p6 (j8 (d:=`lM) ?_) (p6 (j8 (a2 _)) `dH))),⟨`aH8,λp hp=>by rw[J];exact Ob0 (hg p hp)⟩,by rw[J];exact hm.2⟩
 ·rw[o9 (ds:=[`e c0,`e c1]) (`y (by rw[o9 (ds:=[`gk,`e9]) rfl];exact h0) (`y (by rw[o9 (ds:=[`gk,`eA]) rfl];exact h1) rfl))]
  exact a1
 ·rw[o9 (ds:=[`gk,`n5]) rfl]
  exact ht
 ·rw[o9 (ds:=`ajK) (`y (by exact a4) rfl)]
  exact a0
noncomputable def UV:GS:=(v9 `aHl
 (v9 (ifD `aHm
 (v9 `aHn
 o4)
 o4)
 (v9 (Y7 `_6)
 o4)))
noncomputable def uS(W:D)(T:Nat)(C Ps K Tn:Sl)(us:`p)(z:Int)(s8:Sl):Ds:=[`j6,`xa,C,Ps,K,Tn,`EQ,.sh (`n9),s8]
noncomputable def Un1(T:Nat)(p0 p:Pt):Prop:=∃us:`p,p=`j3 p0 us/\`cz=p0.vals.length/\`abs=p0.vals
theorem Pm0(W:D){T:Nat}(hT:`tP)(hn:n<=60)(C Ps K Tn:Sl)(us:`p)(z:Int){v:D}(hv:`cn)(hl:`cz<=100) :
  ∃z' v',`aLe=`aLf/\Lv (n*T) v'/\lkv (`EL) v'=v:=by
 have zs:`dT:=`ah
 have e7:∀s8,o2 `ajj `wp Z6 (uS W T C Ps K Tn us z s8)=`a (`e (`EM)):=λs8=>by
  rw[o8 (x:=`e (z*48271)) (y:=`DS) (by rw[o8 (x:=`n9) (y:=`DT) rfl rfl];exact Gw.mul_r _ _ `l) rfl];exact `LY
 have app:∀(z':Int) (v':D),Y7 `_6 `aLg=`aLf:=λz' v'=>by
  unfold Y7 S9;rw[show owL 6 `aLg=`a us from rfl,`w];show `i_ `z! (if `cz<`R then `a (`z?,([`j6,`xa,C,Ps,K,Tn,.ow (`s (`R1)),`ER,.sh v']:Ds)) else `c)=_;rw[`tr];rfl
 have plain:`ii=`r->`aLe=`a (.nx (uS W T C Ps K Tn (us++[v]) (`EM) (`op))):=λhi=>by
  refine p6 (δ':=`abt) (j8 (e7 _)) (p6 (δ':=`abt) ?_ `aLh);rw[Z2 (show ob `Q' (`abt)=`b7 from by
   show `aa5=_;rw[hi])]
  rfl
 rcases hv with rfl|⟨i,rfl⟩|⟨j,rfl,hj⟩
 ·exact⟨_,_,plain rfl,`bL,rfl⟩
 ·exact⟨_,_,plain rfl,`Lh,rfl⟩
 ·obtain⟨w,hw⟩:∃w,w=`EM:=`aM
  have b1:0<=`LZ:=`tC;have b2:`LZ<T:=`zQ;obtain⟨r,hr⟩:∃r:Nat,`LZ=`abu:=⟨(`LZ).toNat,`h⟩;have M:`EN<n*T:=by
   calc `EN<j*T+T:=by omega
    _=`hb*T:=`abq
    _<=n*T:=Bl0 T `d
  refine⟨w,`akh,p6 (δ':=`aLi) (by rw[hw];exact j8 (e7 _)) (p6 (δ':=`aLj) ?_ `aLh),`i (`i ⟨_,rfl,M⟩),by
   unfold lkv;simp only[`aR];rw[show (`EN)/T=j from by rw[`Zk,Nat.mul_add_div `d,`abp `d,`zt]]⟩
  rw[T3 (show ob `Q' (`aLi)=`fh from rfl)];refine p6 (δ':=`aLj) (j8 ?_) rfl;have O:`cM<=60:=`h
  have J:`eu<`pS:=`h
  refine V3 (`y rfl (`y ?_ rfl)) `gm;rw[o8 (x:=`e (`eu*`rk)) (y:=`e `abu) (by
   rw[o8 (x:=`j1) (y:=`w9) rfl rfl];exact Gw.Wp0 _ _ ⟨`h,J⟩) (by
   rw[o8 (x:=`e w) (y:=`w9) rfl rfl,`LV,hr])]
  show `a (`c8 (`eu*`rk+`abu))=_;rw[`aLk,`az!]
theorem Yx0(h:∀d∈l,`y_):trees l=`b:=by
 induction l with
 | nil=>unfold trees;rfl
 | cons d l ih =>
  unfold trees;rw[`zK,`_7];rfl
theorem yn0(h:∀d∈l,`y_):`lp `xC=`b:=by unfold tree;exact Yx0 h
theorem wr0(s:Str):`lp `Lu=`b:=by unfold tree;rfl
theorem V70{v:D}(h:`cn):`abv:=by
 rcases h with rfl|⟨i,rfl⟩|⟨i,rfl,_⟩
 ·unfold tree;rfl
 ·unfold tree;rfl
 ·exact yn0 λd hd=>by
   simp only[`aI,`aS,`aT] at hd;rcases hd with rfl|rfl<;>(unfold tree;rfl)
theorem Vx0(p:Pt)(h:∀v∈`d4,`abv):`lp p.d=`b:=by
 have J:∀ps:`ed,(∀v∈`h9,`abv)->`lp `Ec=`b:=λps hv=>yn0 λd hd=>by
  obtain⟨q,hq,rfl⟩:=`dR;refine yn0 `wR
  simp only[`aI,`aS,`aT] at he;rcases he with rfl|rfl
  ·exact `tQ
  ·exact `aJY
 cases p with
 | text w=>exact yn0 λd hd=>by simp only[`aI,`aS,`aT] at hd;rcases hd with rfl|rfl<;>exact `tQ
 | row vs =>
   refine `abw
   simp only[`aI,`aS,`aT] at hd;rcases hd with rfl|rfl
   ·exact `tQ
   ·exact yn0 λv hv=>(h v hv)
 | table ps =>
   refine `abw
   simp only[`aI,`aS,`aT] at hd;rcases hd with rfl|rfl
   ·exact `tQ
   ·exact J ps h
 | rcd c ps =>
   refine `abw
   simp only[`aI,`aS,`aT] at hd;rcases hd with rfl|rfl|rfl
   ·exact `tQ
   ·exact `tQ
   ·exact J ps h
theorem Uh0(W:D){T:Nat}(hT:`tP)(hn:n<=60)(C Ps K Tn:Sl)(z:Int)(s8:Sl)(vs:`p)(hv:∀v∈vs,`cn)(hl:`q9) :
  ∃us z' t8,W5 `DZ UV vs `aLl=`a (.nx (uS W T C Ps K Tn us z' t8))/\`cz=`bm/\`aLm/\`abs=vs:=by
 obtain⟨δ',e,us,z',t8,rfl,h1,h2,h9⟩:=J3 (f:=gN 8) (G:=UV) (λi δ=>∃us z t8,δ=uS W T C Ps K Tn us z t8/\`cz=i/\`aLm/\`abs=vs.take i) vs 0 `aLl (by
  rintro j d δ hj ⟨us,z,t8,rfl,h1,h2,h9⟩;have J:j<`bm:=`zD;obtain⟨z',v',e,h3,h8⟩:=Pm0 W hT hn C Ps K Tn us z (hv d `Ys) `d;refine⟨_,_,rfl,e,`R1,z',_,rfl,by rw[`ad,`jF,h1],`aar,by rw[`bI,h9,`pb,`bd,hj,`al,h8];rfl⟩;rcases `db hu with hu|hu
  ·exact h2 u hu
  ·rw[`fz hu];exact h3) ⟨[],z,s8,rfl,rfl,(λu hu=>by cases hu),rfl⟩
 exact⟨us,z',t8,e,`h,h2,by rw[h9,`bd,`tJ]⟩
noncomputable def UT:GS:=(v9 `aHi
 (v9 `aHj
 (v9 (J1 `aHk `DZ
 UV)
 (v9 `aHo
 o4))))
noncomputable def tS(W:D)(T:Nat)(c:Int)(Ps:`o)(k t:Nat)(s6 s7 s8:Sl):Ds:=[`j6,`xa,`or,`w!,`cl,`w?,s6,s7,s8]
theorem Pd0{ps:`o}(hp:`D){T:Nat}(hT:`tP)(c:Int)(Ps:`o){k t:Nat}(hk:k<`P)(ht:t<T)(hl:`L_<=500)(s6 s7 s8:Sl) :
  ∃p t6 t7 t8,UT (tS `cm T c Ps k t s6 s7 s8)=`a (.nx (tS `cm T c (Ps++[p]) k t t6 t7 t8))/\`ES/\Un1 T `w' p:=by
 have zs:`dT:=`ah
 have J:=`LC;obtain⟨hx,_,pw⟩:=hp.at hk;obtain⟨z,_,_,hz⟩:=rk0 (c+`oq*`oq) (`bG+31) `d;obtain⟨us,z',t8,e,h1,h2,h9⟩:=Uh0 `cm hT J.2 (`or) (`w!) `g! (`w?) z s8 `abx pw.lv pw.few;have q1:=xq0 `w' us h1;refine⟨`EP,`EQ,`ER,t8,?_,⟨by rw[q1,h1];exact pw.few,by rw[q1];exact h2⟩,us,rfl,h1,h9⟩;refine p6 (δ':=tS `cm T c Ps k t (`e!) s7 s8) rfl (p6 (δ':=uS `cm T (`or) (`w!) `g! (`w?) [] z s8) (j8 (d:=`n9) ?_) (p6 (O7 (items:=`abx) ?_ e) (p6 (δ':=tS `cm T c (Ps++[`EP]) k t (`EQ) (`ER) t8) ?_ rfl)))
 ·rw[o9 (ds:=[`e (c+`oq*`oq),`e (`bG+31)]) (`y (by
   rw[o8 (x:=`lL) (y:=`e (`oq*`oq)) rfl (by
    rw[o8 (x:=`R3) (y:=`R3) rfl rfl];exact Gw.Wp0 _ _ `d)]
   rfl) `n?)]
  exact hz
 ·show (oA `aji Z0 _).bind _=_
  rw[o9 (ds:=[`aby]) `aLn,show Z0 [`aby]=`a (`s `abx) from Gw.wi0 _ pw.f];rfl
 ·have eb:tv0 `ajk `aLo=`a (`EP).d:=by
   refine fl0 ?_ (Vx0 _ (by rw[q1];exact λv hv=>V70 (h2 v hv)));rw[o9 (ds:=[`aby,`s us]) `aLn];exact Oj0 _ pw.f us h1
  unfold Y7 S9;rw[show owL 3 `aLo=`a (`EO) from rfl,`w,eb];show `i_ `z! (if (`EO).length<`R then `a (`z?,(`aLp:Ds)) else `c)=_;rw[`tN];show `a (`ij `aLp)=_;unfold tS;rw[`bI];rfl
noncomputable def tR(W:D)(T:Nat)(c:Int)(Ps:`o)(s4 s5 s6 s7 s8:Sl):Ds:=[`j6,`xa,`or,`w!,s4,s5,s6,s7,s8]
theorem Oo0{ps:`o}(hp:`D){T:Nat}(hT:`tP)(c:Int)(Ps:`o){k:Nat}(hk:k<`P)(hl:`L_<=400)(hw:∀p∈Ps,`ES)(s5 s6 s7 s8:Sl) :
  ∃Ps' t5 t6 t7 t8,W5 `eB UT (`L0) `aLq=`a (.nx (`aLr))/\`aLs=`L_+T/\`aLt:=by
 have J:(`L0).length=T:=`aLu
 obtain⟨δ',e,Ps',t5,t6,t7,t8,rfl,h1,h2,h9⟩:=J3 (f:=gN 5) (G:=UT) (λi δ=>∃Ps' t5 t6 t7 t8,δ=`aLr/\`aLs=`L_+i/\`aLt) (`L0) 0 `aLq (by
  rintro j d δ hj ⟨Ps',t5,t6,t7,t8,rfl,h1,h2,Q,eQ,hQ⟩;obtain⟨O,rfl⟩:=`tA;obtain⟨p,u6,u7,u8,e,h3,h8⟩:=Pd0 hp hT c Ps' hk (t:=j) `d `d t6 t7 t8;refine⟨_,_,rfl,e,Ps'++[p],_,u6,u7,u8,rfl,`s4,`dj,Q++[p],by rw[eQ,`fD],`dj⟩
  ·rcases `iL with hx|hx
   ·exact h2 x hx
   ·rw[`yN];exact h3
  ·rcases `iL with hx|hx
   ·exact hQ x hx
   ·rw[`yN,show `R4=`w' from by unfold pa;simp[hk]];exact h8) ⟨Ps,s5,s6,s7,s8,rfl,rfl,hw,[],(i6 Ps).symm,λp M=>by cases M⟩
 exact⟨Ps',t5,t6,t7,t8,e,by rw[J] at h1;omega,h2,h9⟩
noncomputable def UK:GS:=(v9 (J1 `Lr `eB
 UT)
 o4)
theorem ez0{ps:`o}(hp:`D){T:Nat}(h32:`rl<=60)(hT:`tP)(c:Int):∃qs,`aLv/\`aw/\`abz/\∀j (h:j<`bj),Un1 T `abA qs[j]:=by
 have zs:`dT:=`ah
 have Z:=`LC;have O:(`abB).length=`P:=`aLu
 have a1:0<`rl:=Nat.mul_pos Z.1 hT.1;obtain⟨δ',e,J,t4,t5,t6,t7,t8,rfl,h1,h2,h9⟩:=J3 (f:=`qW) (G:=UK) (λi δ=>∃J t4 t5 t6 t7 t8,δ=tR `cm T c J t4 t5 t6 t7 t8/\`abC=i*T/\(∀p∈J,`ES)/\∀j (h:j<`abC),Un1 T `abA J[j]) (`abB) 0 (`aLw) (by
  rintro j d δ hj ⟨J,t4,t5,t6,t7,t8,rfl,h1,h2,h9⟩;obtain⟨a3,rfl⟩:=`tA;have M:j<`P:=`h
  have a2:j*T<=60:=C4 (Bl0 T (P2 M)) h32;rw[`bd] at h1;obtain⟨Q,u5,u6,u7,u8,e,h3,h4,Q',eQ,hQ⟩:=Oo0 hp hT c J M `d h2 t5 t6 t7 t8;refine⟨_,_,rfl,p6 (O7 (items:=`L0) (yb0 (n:=`rk) rfl `d `d) e) rfl,Q,_,u5,u6,u7,u8,rfl,?_,h4,`qL⟩
  ·rw[h3,h1,`bd,`akg,`EI]
  ·subst eQ
   by_cases hc:i<`abC
   ·rw[`aLx hc];exact h9 i hc
   ·rw[`aLy]
    have:i/T=j:=by
     rw[`ad] at h3 hi;have h5:`hb*T=j*T+T:=`abq
     have h6:i<`hb*T:=`h
     have h7:i/T<j+1:=(Nat.div_lt_iff_lt_mul hT.1).mpr h6;have h8:j<=i/T:=(Nat.le_div_iff_mul_le hT.1).mpr `d;omega
    rw[`u];exact hQ _ (C0 _)) ⟨[],.un,.un,.un,.un,.un,rfl,`Q,(λp a0=>by cases a0),λj h=>by cases h⟩
 rw[`bd,O] at h1;refine⟨J,j7 rfl (p6 (δ':=`aLw) rfl (p6 (O7 (items:=`abB) (yb0 (n:=`wY) (`y (`aKu) rfl) `d `d) e) `dH)),⟨`h,by rw[h1];exact h2⟩,h1,h9⟩;rfl
universe Fa
namespace La
open Ka
open DL W
noncomputable def ui0:GS:=(v9 `aGF
 (v9 (ifD `aGG
 (v9 `tz
 o4)
 o4)
 (v9 (zt0 `aGH)
 o4)))
noncomputable def un0:`t:=`aGI
noncomputable def wc0:`K:=mkN 3 un0 ui0
universe La
namespace La
open Ka
open DL W K22 Ta
abbrev Bk:=`tR
abbrev Cs:=`co×`Z Bk
noncomputable def cD:Bk->D
 | `c=>`A
 | `R9=>`x [`gn,`c3]
noncomputable def cm(s:Cs):D:=`aW (`i `xe) (`Aa)
noncomputable def nI(k:Nat):D:=`c3
noncomputable def ex1(q:`ac)(k:Nat)(v:`fF)(s:Cs):Cs:=match `mU with
 | `aQ=>if `tS then s else (`Ab,`Sd)
 | `c=>s
noncomputable def exs(q:`ac):Nat->`i0->Cs->Cs
 | _,[],s=>s
 | k,`j!,s=>exs q `cf z `Ac
noncomputable def prt(ps qs:`o)(v:`fF):Prop:=match `mU with
 | `aQ=>`aLz
 | `c=>v.1≠v.2
noncomputable def zp(ps qs:`o)(q:`ac):`i0:=(`L1).vals.zip `aLA
noncomputable def lk(s:Cs)(q:`ac)(b:Bk):Prop:=K1 `xe (`Aa) (k2 q)=`a `L2
inductive Wy (s:Cs):`AI->`aaD
 | top {q:`ac}:lk s q `c->Wy s q []
 | go {q:`ac} {p:`ac} {k:Nat} {w:`k}:lk s q (`R9)->Wy s p w->Wy s q (`EX)
theorem Wy.lk{s:Cs}{w:`k}(h:`tT):∃b,`L3:=by
 cases h with
 | top h=>exact`IP
 | go h _=>exact`IP
theorem Us0{k:`eZ}{d:D}(ks':`f9)(ds':`p)(h:`agj=`a5):K1 (ks++ks') (ds++ds') k=`a5:=by
 induction ks generalizing ds with
 | nil=>cases ds<;>exact nomatch h
 | cons q ks ih =>
  cases ds with
  | nil=>exact nomatch h
  | cons x ds =>
   rw[`ds,`ds];unfold K1 at h ⊢;split at h
   ·rename_i e;rw[`iN];exact h
   ·rename_i e;rw[`hy];exact ih h
theorem Um0{k:`eZ}{d:D}(hl:`eY=`b1)(h:k∉ks):K1 (ks++[k]) (ds++[d]) k=`a5:=by
 induction ks generalizing ds with
 | nil =>
  cases ds with
  | nil=>show (if k=k then `a5 else _)=_;rw[`aY]
  | cons=>cases hl
 | cons q ks ih =>
  cases ds with
  | nil=>cases hl
  | cons x ds =>
   rw[`ds,`ds];unfold K1;rw[`V (λe=>h (by rw[e];exact A5))];exact ih `u5 λz=>h `aaF
theorem Wy.app{s:Cs}{w:`k}(A:`co)(B:`Z Bk)(h:`tT):Wy `abD q w:=by
 have up:∀{q b},La.lk s q b->La.lk `abD q b:=λ{q b} e=>by
  unfold La.lk;rw[`bI,`bI];exact Us0 _ _ e
 induction h with
 | top e=>exact `l0 (up e)
 | go e _ ih=>exact .go (up e) ih
noncomputable def WW:GS:=(v9 (Y7 (S9 2 `wj))
 (v9 `aGt
 o4))
theorem St0(p:`ac):z60 `wT=`a `rc:=rfl
theorem ay0{s:Cs}{b:Bk}(h:`L3):G8 `EU (pN q)=`a `L2:=h
theorem Xp0{s:Cs}(P:Sl):∀{q:`ac} {w:`k},`tT->∀(b:Bk),`L3->∀(f:Nat) (bk:`k),`lX<f->bk.length+`lX<=5000 ->
  S8 `aGs WW f [`il,P,.ow (`s (`EV)),.sh `L2]=`a (.nx [`il,P,.ow (`s ((bk++w.reverse).map nI)),.sh `A]):=by
 intro q w h;have one:∀{q:`ac} {b c:Bk},`L3->lk s q c->cD b=cD c:=λh1 h2=>B2 (`ago h2)
 have zs:(5000:Nat)<=`R:=`ah
 induction h with
 | top e =>
  intro b hb f bk hf _;rw[one hb e];obtain⟨f,rfl⟩:∃g,f=g+1:=⟨f - 1,by simp at hf;omega⟩;rw[List.reverse_nil,`fb];rfl
 | @go q p k w e hw ih =>
  intro b hb f bk hf hl;rw[one hb e];rw[`ad,`jF] at hf hl;obtain⟨f,rfl⟩:∃g,f=g+1:=`abE;obtain⟨c,hc⟩:=hw.lk;have body:WW `aLB=`a (.nx [`il,P,`aLC,.sh (cD c)]):=by
   refine p6 (δ':=[`il,P,`aLC,`R']) ?_ (p6 (j8 (d:=cD c) ?_) rfl)
   ·unfold Y7 S9
    show `i_ `z! (if (`EV).length<`R then `a (`z?,([`il,P,.ow (`s (`EV++[`os])),`R']:Ds)) else `c)=_;rw[`tN,`bI];rfl
   ·rw[o8 (x:=`ik) (y:=`gn) rfl rfl]
    exact ay0 hc
  have:=ih c hc f (bk++[k]) `d (`s4);unfold S8;rw[show ob `aiE `aLB=`fh from rfl];dsimp only;rw[`hR];dsimp only;rw[`u,`KL,`fD];rfl
theorem S60{s:Cs}{w:`k}(h:`tT)(hl:`aLD):wj0 `aLE=`Sn:=by
 obtain⟨b,hb⟩:=h.lk;refine N8 rfl (p6 (δ':=[`il,`rm,.ow (`s ([].map nI)),.un]) rfl (p6 (j8 (d:=cD b) ?_) (p6 (Xp0 `g? h b hb 100000 [] `d `aLF) `aab)))
 ·rw[o8 (x:=`ik) (y:=pN q) rfl rfl]
  exact ay0 hb
 ·show `a (Res.rf (`s ((([]++w.reverse).map nI).reverse)))=_
  rw[`fK,← `aJg,List.reverse_reverse]
theorem Wg0(p:Pt)(h:`dS):`aa9:=`aKg
theorem er0(p:Pt)(h:`dS):`Lt:=`aaH
theorem cq0(v w:D):`aJ8:=Ta.e60 v w
theorem kz0(i j:Nat):`aJ!:=`aJ?
theorem nd0{v:D}(h:`cn):Pn.Pl v:=by
 rcases h with rfl|⟨z,rfl⟩|⟨j,rfl,_⟩<;>exact`fv
theorem zb0{v w:D}(hv:`cn)(hw:`l6):(∃i j:Nat,i<n/\j<m/\v=`wS/\w=`oa/\`mT=`a `g9)∨(`mT=`c/\`aa7):=by
 rcases hv with rfl|⟨z,rfl⟩|⟨i,rfl,hi⟩
 ·exact `sk
 ·exact `sk
 ·rcases hw with rfl|⟨z,rfl⟩|⟨j,rfl,hj⟩
  ·exact `sk
  ·exact `sk
  ·exact `m ⟨i,j,hi,hj,rfl,rfl,rfl⟩
theorem oj0{ps qs:`o}(hp:`D)(hq:`aw){x:`ac}(h1:`Se)(h2:x.2<`bj)(e1:`zV=ixD `cm (`e (x.1:Int)))(e2:`tG=ixD `ok (`e (x.2:Int))) :
  zl0 (`aLz) (o2 (oA `Te V5) (oA `Tf V5) W7 δ):=by
 obtain⟨a1,a2⟩:=`rp;obtain⟨b1,b2⟩:=`xg;rw[o8 (x:=`R6) (y:=`R7) (by rw[o9 (ds:=[(`akl).d]) `aLG];exact Wg0 _ a2.f) (by rw[o9 (ds:=[(`akm).d]) `aLH];exact Wg0 _ b2.f)];exact`aLI
theorem dg0{ps qs:`o}(hp:`D)(hq:`aw){v w:D}(hv:`Ad)(hw:Lv `bj w):zl0 (prt ps qs `w2) (`aLJ):=by
 have hl:ob `aGo `abF=`aa6:=`dn (by rw[`aJ9];exact cq0 v w);rcases zb0 hv hw with⟨i,j,hi,hj,rfl,rfl,e⟩|⟨e,e2⟩
 ·unfold prt
  rw[e];dsimp only;obtain⟨t1,t2⟩:=oj0 hp hq (x:=`g9) hi hj (g1:=`aiB) (g2:=`aiC) (δ:=`aLK) rfl rfl;have k:∀b,o2 `aGp `aGq W7 `aLK=`r5->N6 [`aN,`cT,`Ew]=`r5:=λb hb=>by
   refine `Lw
   change ifD _ _ _ [`S,`aH,`j9,.un]=_
   rw[T3 hl];refine p6 (j8 (d:=`rd) (`L4)) (n8 (Z4 hb))
  exact⟨λz=>k _ (t1 z),λz=>k _ (t2 z)⟩
 ·unfold prt
  rw[e];dsimp only;rw[e2] at hl;have k:∀b,W7 v w=`r5->`aLJ=`r5:=λb hb=>by
   refine j7 rfl (p6 (δ':=`abF) ?_ `dH)
   ·change ifD _ _ _ `abF=_
    rw[Z2 hl];rfl
   ·rw[`aKc]
    exact hb
  exact⟨λz=>k _ (`rg (nd0 hv) (nd0 hw) z),λz=>k _ (by rw[`RT z];exact `ri (nd0 hw).le)⟩
noncomputable def PB:GS:=(v9 (ifD `aGA
 (v9 `aGB
 o4)
 o4)
 (v9 (ifD `aGC
 (v9 `aGD
 (v9 `aGE
 o4))
 o4)
 o4))
noncomputable def pS(ps qs:`o)(P:Sl)(s:Cs)(n:Nat)(a b c:Sl):Ds:=[`S,`aH,P,.ow `EU,.ow (`EY),`dG,a,b,c]
theorem Pc0(s:Cs):Dc s.1 `EU:=⟨_,_,rfl,λx=>by
 rw[`aLL];constructor
 ·rintro⟨p,h,e⟩;exact`aLM
 ·rintro⟨p,h,e⟩;exact`aLM⟩
theorem Uu0{s:Cs}{x:`ac}(h:x∉s.1)(b:Bk):W6 `xe `R?=(`Ab).map k2/\V4 `xe (`Aa) `R? `L2=(s.2++[b]).map cD:=by
 have hf:`aLN=`r:=by
  cases e:`aLN with
  | false=>rfl
  | true =>
   obtain⟨q,hq,e2⟩:=`e_ ((dq0 _ _).mp e);exact `L (w70 e2▸hq) h
 unfold W6 V4;rw[hf];simp
theorem P50{ps qs:`o}(hp:`D)(hq:`aw)(P:Sl){s:Cs}(n:Nat){w:`k}(hw:`tT)(hwl:`aLD)(hs:`gq<=4000)(k:Nat){v u:D}(hv:`Ad)(hu:Lv `bj u) :
  (`abG->PB (`tU)=`a (.rt (`x [`ik,`aLO]))) /\
  (¬`abG->PB (`tU)=`a (.nx (pS ps qs P (ex1 q k (v,u) s) n `g? `lZ (`Sb)))):=by
 have zs:`abH:=`ah
 obtain⟨t1,t2⟩:=vk0 (g:=`aiL) (δ:=`tU) (p:=`abG) (by
  rw[o9 (ds:=[`aN,`cT,`Sa]) rfl];exact dg0 hp hq hv hu)
 refine`tM
 ·refine `lK
  rw[`aa8];refine `wD;show Z8 `aiM [`S,`aH,zz0 P,`il,`abI,`dG,`rm,`lY,`Sb]=_;refine V3 (`y rfl (`y (d:=`aLO) ?_ rfl)) `gm;rw[o8 (x:=`im) (y:=`s [`os]) (by rw[o9 (ds:=`aLE) rfl];exact S60 hw hwl) (vx0 rfl `zR)];show (if (`xd).length+1<=`R then `a (`yv (`xd++[`os])) else `c)=_;rw[`tN,`bI];rfl
 ·refine p6 (δ':=`tU) (by rw[Z2 (t2 z)];rfl) ?_
  have hl:ob `aiN (`tU)=`a (`ii&&`dk u):=`dn (by rw[o9 (ds:=[`Sa]) rfl];exact cq0 v u);unfold ex1;rcases zb0 hv hu with⟨i,j,hi,hj,rfl,rfl,e⟩|⟨e,e2⟩
  ·rw[e]
   dsimp only;have lp:∀s':Cs,oA `wl Z1 (pS ps qs P s' n `g? `lZ (`j9))=`RR:=λs'=>`L4
   have J:uv0 `aiP `L5=`aLP:=by
    show ob `aiO [`S,`aH,zz0 P,`il,`abI,`dG,`rm,`lY,`j9]=_;refine `abJ;rw[o8 (x:=`rd) (y:=`ik) (`L4) rfl];exact dr0 (Pc0 s) `g9
   have ht:yd0 `aiQ `aiR `L5=`aLP:=by
    unfold yd0;rw[hl,`w];exact J
   by_cases h:`g9∈s.1
   ·rw[`iH]
    rw[`aaU] at ht;refine p6 (δ':=`Sc) ?_ rfl;rw[`z4];rfl
   ·rw[`rZ]
    rw[`tt] at ht;obtain⟨k1,O⟩:=Uu0 h (`xc);refine `aLQ;rw[T3 ht];refine p6 (δ':=`aLR) ?_ (`aLQ)
    ·unfold J2
     rw[show z10 `aiS `L5=`a (cD (`xc),`Sc) from rfl,`w];unfold u40;show `i_ `ij ((mx0 3 _).bind _)=_;rw[lp s,show mx0 3 `L5=`a (`xb k2,`Aa) from rfl,`w,`w,St0,`w];dsimp only;rw[`tN,k1,O];rfl
    ·unfold Y7 S9
     have M:oA `wl Z1 `aLR=`RR:=`L4
     rw[M];show `i_ `z! (if `aLS<`R then `a (`z?,([`S,`aH,P,`akq,.ow (`s (`EW++[`rd])),`dG,`rm,`lY,`j9]:Ds)) else `c)=_;rw[`tN];unfold pS;rw[`bI];rfl
  ·rw[e]
   dsimp only;rw[e2] at hl;refine p6 (δ':=`tU) ?_ rfl;rw[Z2 (by unfold yd0;rw[hl];rfl)];rfl
inductive Rch (ps qs:`o) (p0:`ac):`ac->Prop
 | top:Rch ps qs p0 p0
 | go {q x:`ac}:`aLT->x∈`abK->`ot
structure Pi(ps qs:`o)(p0:`ac)(s:Cs):Prop where
 len:`abL
 nd:`L6
 inr:∀x∈s.1,`aLU
 way:∀x∈s.1,∃w,Wy s x w/\`lX<`gq
 hds:∀x∈s.1,`R6=`R7
 rc:∀x∈s.1,`ot
theorem Pi.few{ps qs:`o}(hp:`D)(hq:`aw){s:Cs}(h:`kE):`gq<=3600 :=
 Fa.Wu0 (n:=60) h.nd λx hx=>by
  have:=`EZ x hx;have:=`L7;have:=hq.len.2;omega
theorem v90{ps qs:`o}(hp:`D)(hq:`aw)(h1:`L8)(h2:`abM){v:`fF}(hv:`Ae):Lv `P v.1/\Lv `bj v.2 :=
 ⟨(`rp).2.lv _ `ae',(`xg).2.lv _ (N0 hv).2⟩
theorem i00{ps qs:`o}(hp:`D)(hq:`aw){s:Cs}(h:`kE)(hm:`Af)(k:Nat){v:`fF}(hv:`Ae)(hn:`ru) :
  Pi ps qs p0 `Ac/\(∀x∈s.1,`aLV)/\∀x,`mU=`aQ->`aLV:=by
 obtain⟨i1,i2⟩:=`L9;obtain⟨l1,l2⟩:=`L';unfold ex1;unfold prt at hn;cases e:`mU with
 | none=>exact⟨h,`L!,λx hx=>nomatch hx⟩
 | some x =>
  rw[e] at hn;dsimp only at hn ⊢
  by_cases hx:`tS
  ·rw[`J hx]
   exact⟨h,λy hy=>hy,λy hy=>by cases hy;exact hx⟩
  ·rw[`V hx]
   have M:`aLU:=by
    rcases `pk with⟨i,j,hi,hj,_,_,e2⟩|⟨e2,_⟩
    ·rw[`kF,e] at e2
     cases e2;exact`aLW
    ·rw[`kF,e] at e2
     cases e2
   have mem:∀y,y∈`Ab↔y∈s.1∨y=x:=`aJu
   refine⟨⟨`aLX,V90.mpr ⟨h.nd,hx⟩,`hp,`hp,`hp,`hp⟩,λy hy=>(mem y).mpr (`m hy),λy hy=>by cases hy;exact(mem x).mpr `yf⟩
   ·rcases `L? with hy|rfl
    ·exact `EZ y hy
    ·exact M
   ·rw[`ad,`jF]
    rcases `L? with hy|rfl
    ·obtain⟨w,w1,w2⟩:=h.way y hy
     exact⟨w,`aLY,`h⟩
    ·obtain⟨w,w1,w2⟩:=`aLZ
     refine⟨`EX,.go ?_ (`aLY),`s4⟩;unfold lk;rw[`bI,`bI];refine Um0 (by rw[`Y,`Y,`l_]) λz=>hx ?_
     obtain⟨y',J,e2⟩:=`Ma;exact w70 e2▸J
   ·rcases `L? with hy|rfl
    ·exact h.hds y hy
    ·exact Bk0.mp hn
   ·rcases `L? with hy|rfl
    ·exact h.rc y hy
    ·exact .go `aL_ `aL0
theorem vs0{ps qs:`o}(hp:`D)(hq:`aw):∀(z:`i0) (k:Nat) (s:Cs),`kE->`Af->(∀v∈z,`Ae/\`ru) ->
  Pi ps qs p0 (`xh)/\(∀x∈s.1,`aL1)/\∀x∈gl z,`aL1
 | [],k,s,h,hm,_=>⟨h,`L!,λx hx=>by cases hx⟩
 | `j!,k,s,h,hm,hz=>by
  obtain⟨h1,h2⟩:=hz v A5;obtain⟨a1,a2,a3⟩:=i00 hp hq h hm k h1 h2;obtain⟨b1,b2,b3⟩:=vs0 hp hq z `cf `Ac a1 (a2 q hm) `aL2
  refine⟨b1,λx hx=>b2 x (a2 x hx),`dj⟩;obtain⟨u,hu,e⟩:=`sd hx;rcases `bU hu with rfl|hu
  ·exact b2 x (a3 x e)
  ·exact b3 x (`rr ⟨u,hu,e⟩)
noncomputable def itm:Nat->`i0->`p
 | _,[]=>[]
 | k,`j!=>`aL3
theorem Zb0:∀(z:`i0) (k i:Nat),(itm k z)[i]?=z[i]?.map λv=>`x [nI (k+i),`Sf]
 | [],k,i=>by simp[itm]
 | `j!,k,0=>rfl
 | `j!,k,i+1=>by
  unfold itm;rw[`aL4,`aL4,Zb0 z `cf i,show k+1+i=k+`a4 by omega]
theorem Y60(ds es:`p):`Le=itm 0 (`CD):=by
 refine `K6
 rw[Zb0,`bd]
 by_cases h:i<(`CD).length
 ·have h':=h
  rw[`c4] at h';have h1:`sJ:=`h
  have h2:`zb:=`h
  rw[i40 h1 h2,`ahw];rfl
 ·rw[`jm (Cg0 h),`jm (by unfold uo0 z20;simp at h ⊢;omega)]
  rfl
theorem aj0{ps qs:`o}(hp:`D)(hq:`aw)(P:Sl)(n:Nat):∀(z:`i0) (k:Nat) (s:Cs) (b c:Sl),(∀v∈z,`Ae)->`kE->`Af ->
  (∃b' c',`aL5=`a (.nx (pS ps qs P (`xh) n `g? b' c'))/\∀v∈z,`ru) ∨
  (∃j v w,z[j]?=`a3/\(∀u∈`akt,¬prt ps qs u)/\`rq/\Wy `aL6 q w/\`aL5=`a (.rt (`x [cm `aL6,`s ((w++[k+j]).map nI)])))
 | [],k,s,b,c,_,h,hm=>`m ⟨b,c,rfl,λv hv=>by cases hv⟩
 | `j!,k,s,b,c,hz,h,hm=>by
  have hv:=hz v A5;obtain⟨i1,i2⟩:=`L9;obtain⟨l1,l2⟩:=`L';obtain⟨w,w1,w2⟩:=`aLZ;have few:=`aL7;obtain⟨t1,t2⟩:=P50 hp hq P n w1 `d `d k l1 l2;have un:W5 `rs PB (`aL8) (`Sg)=(match PB (pS ps qs P s n `g? `lZ `aL9) with|`dC=>`aL'|`oV=>`aL'|`oW=>`dC|r=>r):=by
   rw[show `aL8=`aL3 from rfl]
   conv=>lhs;unfold W5
   rfl
  rw[un]
  by_cases hc:`rq
  ·refine `i ⟨0,v,w,rfl,(λu hu=>`L hu `Q),hc,w1,?_⟩
   rw[t1 hc];rfl
  ·rw[t2 hc]
   obtain⟨a1,a2,a3⟩:=i00 hp hq h hm k hv hc;rcases aj0 hp hq P n z `cf `Ac `lZ `aL9 (`aL2) a1 (a2 q hm) with⟨b',c',e,f⟩|⟨j,u,w',e1,e2,e3,e4,e5⟩
   ·refine `m ⟨b',c',e,`aar⟩
    rcases `bU hu with rfl|hu
    ·exact hc
    ·exact f u hu
   ·refine `i ⟨j+1,u,w',e1,`hp,e3,e4,?_⟩
    ·rw[`Wy] at hy
     rcases `KY with rfl|hy
     ·exact hc
     ·exact e2 y hy
    ·rw[show k+`hb=k+1+j by omega]
     exact e5
inductive Run (ps qs:`o):Nat->Cs->Cs->`tR->Prop
 | fin {n:Nat} {s:Cs}:`gq=n->Run ps qs n s s `c
 | go {n:Nat} {s s':Cs} {r:`tR} {q:`ac}:`tV->`abN->Run ps qs `b2 (`aL!) s' r->`Ag
 | prt {n:Nat} {s:Cs} {q:`ac} {j:Nat} {v:`fF}:`tV->`aL?->(∀u∈(`ro).take j,¬prt ps qs u)->`rq->Run ps qs n s (exs q 0 `Mb s) (`Mc)
noncomputable def PT:DL.GB:=`aGw
noncomputable def PW:GS:=(v9 `aGx
 (v9 `aGy
 (v9 (J1 `aGz `rs
 PB)
 o4)))
theorem Oe0(ps qs:`o)(P:Sl)(s:Cs)(n:Nat)(a b c:Sl):PT `Sh=`a (`I (`Md)):=by
 unfold PT ob;rw[o8 (x:=`lN) (y:=`e `aMa) rfl (by
  show `a (`c8 (`aLS:Int))=_;rw[`Y])]
 show `a (`I (`cM<`aMa))=_;congr 1;rw[`aaT];omega
theorem Wa0{ps qs:`o}(hp:`D)(hq:`aw)(P:Sl){s:Cs}(e:`tV)(i1:`L8)(i2:`abM)(a b c:Sl){r:`uV}(hr:W5 `rs PB `aMb (`abO)=r) :
  PW `Sh=r:=by
 have hn:`Md:=`abP;obtain⟨a1,a2⟩:=j4 hp i1;obtain⟨b1,b2⟩:=j4 hq i2;refine p6 (δ':=`Sg) (j8 (d:=pN q) ?_) (p6 (δ':=`abO) ?_ ?_)
 ·refine fl0 ?_ rfl
  show o2 `bb `bW ixD [`S,`aH,zz0 P,`il,`abI,`dG,zz0 a,zz0 b,zz0 c]=_;rw[o8 (x:=`EY) (y:=`lN) rfl rfl];show atI (`EW) `cM=_;rw[`Lz,`aR,`cr,`cj,e];rfl
 ·rfl
 ·have hz:th0 `aiK (`abO)=`a `aMb:=by
   unfold th0;rw[`y (d:=`s (`L1).vals) (ds:=[`s `aLA]) (by
    rw[o9 (ds:=[(`L1).d]) (`y (by rw[o8 (x:=`aN) (y:=`e (q.1:Int)) rfl rfl];exact a1) rfl)];exact er0 _ a2.f) (`y (by
    rw[o9 (ds:=[(`R8).d]) (`y (by rw[o8 (x:=`cT) (y:=`e (q.2:Int)) rfl rfl];exact b1) rfl)];exact er0 _ b2.f) rfl)]
   show `a (uo0 _ _)=_;rw[Y60];rfl
  unfold v9;rw[O7 hz hr];rcases r with _|r
  ·rfl
  ·cases r<;>rfl
theorem Xf0{ps qs:`o}(hp:`D)(hq:`aw)(P:Sl):∀(f n:Nat) (s:Cs) (a b c:Sl),`kE->n<=`gq->3600 - n<f ->
  ∃s' r,`Ag/\Pi ps qs p0 s'/\((`GO/\∃n' a' b' c',`aMc=`a (.nx (pS ps qs P s' n' a' b' c'))) ∨
   ∃q j w,r=`Mc/\Wy s' q w/\`aMc=`a (.rt (`x [cm s',`aMd]))):=by
 intro f
 induction f with
 | zero=>intro n s a b c _ _ h;omega
 | succ f ih =>
  intro n s a b c h hn hf;have few:=`aL7;unfold S8;rw[Oe0]
  by_cases h0:`Md
  ·rw[`bS h0]
   dsimp only;obtain⟨q,e⟩:∃q,`tV:=⟨_,B6 h0⟩;have hm:`Af:=C2 e;obtain⟨i1,i2⟩:=`L9;rcases aj0 hp hq P `b2 `fG 0 s b c (λv hv=>hv) h hm with⟨b',c',e1,e2⟩|⟨j,v,w,e1,e2,e3,e4,e5⟩
   ·obtain⟨p1,p2,_⟩:=vs0 hp hq `fG 0 s h hm λv hv=>⟨hv,e2 v hv⟩
    have hl:`gq<=(`aL!).1.length:=Ee0 h.nd p2;obtain⟨s',r,R,Q,k⟩:=ih `b2 _ `g? b' c' p1 `d `d;rw[Wa0 hp hq P e i1 i2 a b c e1];exact⟨s',r,.go e e2 R,Q,k⟩
   ·rw[`bd] at e5
    rw[Wa0 hp hq P e i1 i2 a b c e5];obtain⟨p1,_,_⟩:=vs0 hp hq `Mb 0 s h hm λv hv=>⟨X1 hv,e2 v hv⟩
    exact⟨_,_,.prt e e1 e2 e3,p1,`i ⟨q,j,w,rfl,e4,rfl⟩⟩
  ·rw[`bZ h0]
   exact⟨s,`c,.fin `d,h,`m ⟨rfl,n,a,b,c,rfl⟩⟩
theorem e00{ps qs:`o}(hp:`D)(hq:`aw)(h1:`Me)(h2:`Mf) :
  (`aku≠`akv/\`E_=`a (`x [cm `j?,`uS])) ∨
  (`abQ/\∃s r,Run ps qs 0 `j? s r/\`kE/\((`GO/\`abR) ∨
   ∃q j w,r=`Mc/\`tT/\`E_=`a (`x [`ik,`aMd]))):=by
 have zs:`abH:=`ah
 obtain⟨t1,t2⟩:=vk0 (oj0 hp hq (x:=p0) h1 h2 (g1:=`aiG) (g2:=`aiH) (δ:=`aMe) rfl rfl);have J:N7 3 `aiF (Z9 xj0 `Si)=`a (.nx `aMe):=rfl
 by_cases hh:`abQ
 ·refine `i ⟨hh,?_⟩
  have O:`abS:=by
   have one:`abT:=`abU
   refine`abV;rw[`rv];refine`abW;show `abX;rw[`aY]
  obtain⟨s,r,R,Q,k⟩:=Xf0 hp hq (`Sj) 100000 0 `j? .un .un .un O `Q `l;have M:∀rest:GS,v9 `aGu (v9 (ifD `Ln (v9 `aGv o4) o4) (v9 (N7 4 (V6 `dF)) (v9 (m5 `eB `cQ) `bB))) (Z9 xj0 `Si)=`bB (pS ps qs (`Sj) `j? 0 .un .un .un):=λrest =>
   p6 J (p6 `aKo (p6 `vR (p6 `vR rfl)))
  refine⟨s,r,R,Q,?_⟩;rcases k with⟨rfl,n',a',b',c',e⟩|⟨q,j,w,rfl,hw,e⟩
  ·refine `m ⟨rfl,j7 rfl (`aMf (p6 e `dH))⟩
   exact `tE
  ·exact `i ⟨q,j,w,rfl,hw,j7 rfl (`aMf (n8 e))⟩
 ·refine `m ⟨hh,j7 rfl (p6 J `e')⟩
  rw[`aa'];refine `wD;exact V3 (`y rfl (`y `aK5 rfl)) `gm
universe La
namespace La
open Ka
open DL W K22 Ta Fa
noncomputable def okp(ps qs:`o)(q:`ac):Prop:=`c' (`L1)=`c' (`R8)/\∀v∈`ro,nl v
theorem fr0(q:`ac):∀(z:`i0) (k:Nat) (s:Cs),∃A B,`xh=`abD
 | [],k,s=>⟨[],[],by simp[exs]⟩
 | `j!,k,s=>by
  obtain⟨A,B,e⟩:=fr0 q z `cf `Ac;unfold exs;rw[e];unfold ex1;cases `mU with
  | none=>exact`aMg
  | some x =>
   dsimp only;split
   ·exact`aMg
   ·exact⟨x::A,`xc::B,`a!⟩
theorem O40{ps qs:`o}{v:`fF}(l1:Lv n v.1)(l2:Lv m v.2)(h:`ru):nl v:=by
 unfold prt at h;rcases `pk with⟨i,j,_,_,e1,e2,e⟩|⟨e,_⟩
 ·exact `m ⟨by rw[e1];rfl,by rw[e2];rfl⟩
 ·rw[`kF] at e
  rw[e] at h;exact `i (Bk0.mp h)
theorem Xh0{ps qs:`o}(hp:`D)(hq:`aw){s s':Cs}{r:`tR}(R:`Ag):`GO->`kE->(∀i q,i<n->`xk=`qk->`abN/\∀x∈`abK,`tS) ->
  (∀x∈s.1,x∈s'.1)/\∀q∈s'.1,`abN/\∀x∈`abK,x∈s'.1:=by
 induction R with
 | @fin n s hl =>
  intro _ h hc;refine⟨`L!,`yZ⟩;obtain⟨i,hi,e⟩:=`jL hq;exact hc i q `d (by rw[`d2 hi,e])
 | @go n s s' r q e hn R ih =>
  intro hr h hc;have hm:=C2 e;obtain⟨p1,p2,p3⟩:=vs0 hp hq `fG 0 s h hm `aky
  have J:=`abP;obtain⟨A,B,ee⟩:=fr0 q `fG 0 s;obtain⟨i1,i2⟩:=ih hr p1 λi q' hi e'=>by
   by_cases hin:i=n
   ·subst hin
    rw[ee,`f4 J,e] at e';cases e';exact⟨hn,p3⟩
   ·have M:i<n:=`h
    rw[ee,`aEC] at e';obtain⟨c1,c2⟩:=hc i q' M e';exact⟨c1,λx hx=>p2 x (c2 x hx)⟩
  exact⟨λx hx=>i1 x (p2 x hx),i2⟩
 | prt=>intro hr;cases hr
theorem fj0{ps qs:`o}(hp:`D)(hq:`aw){s:Cs}(R:Run ps qs 0 `j? s `c)(h0:`abS)(h:`kE):(∀x,`tS↔`ot)/\`aMh:=by
 obtain⟨c1,c2⟩:=Xh0 hp hq R rfl h0 λi q hi=>`h
 have all:∀x,`ot->`tS:=λx hx=>by
  induction hx with
  | top=>exact c1 _ `Q
  | go _ hg ih=>exact(c2 _ ih).2 _ hg
 refine⟨λx=>⟨h.rc x,all x⟩,λx hx=>⟨h.hds x `abY,`mL⟩⟩;obtain⟨i1,i2⟩:=`EZ x `abY;obtain⟨l1,l2⟩:=`L';exact O40 l1 l2 ((c2 x `abY).1 v hv)
theorem R30{ps qs:`o}(hp:`D)(hq:`aw)(hr:`aLT)(i1:`L8)(i2:`abM){v:`fF}(hv:`Ae)(h:`rq):`Mg:=by
 obtain⟨l1,l2⟩:=`L';unfold prt at h;rcases `pk with⟨i,j,_,_,e1,e2,e⟩|⟨e,e2⟩
 ·rw[`kF] at e
  rw[e] at h;exact⟨`g9,.go hr `aL0,λz=>h z.1⟩
 ·rw[`kF] at e
  rw[e] at h;refine⟨q,hr,`g'⟩;rcases z.2 v hv with⟨a,b⟩|z
  ·rw[a,b] at e2
   cases e2
  ·exact h z
theorem eb0{ps qs:`o}(hp:`D)(hq:`aw){s s':Cs}{r:`tR}(R:`Ag):r≠`c->`kE->`Mg:=by
 induction R with
 | fin=>intro hr;exact `L rfl hr
 | @go n s s' r q e hn R ih =>
  intro hr h;obtain⟨p1,_,_⟩:=`aMi
  exact ih hr p1
 | @prt n s q j v e e1 e2 e3 =>
  intro _ h;have hm:=C2 e;obtain⟨i1,i2⟩:=`L9;exact R30 hp hq `aL_ i1 i2 (C2 e1) e3
noncomputable def Tab(ps qs:`o)(p0:`ac)(A:`co):Prop:=`abn/\(∀x,x∈A↔`ot)/\`aMh
theorem Y00{ps qs:`o}(hp:`D)(hq:`aw)(h1:`Me)(h2:`Mf) :
  ((`Mg)/\∃(s:Cs) (w:`k),`aMj) ∨
  ∃s:Cs,Tab ps qs p0 s.1/\`abR:=by
 rcases e00 hp hq h1 h2 with⟨hh,e⟩|⟨hh,s,r,R,Q,k⟩
 ·exact `m ⟨`aMk,_,[],e⟩
 ·have J:`abS:=by
   have one:`abT:=`abU
   refine`abV;rw[`rv];refine`abW;show `abX;rw[`aY]
  rcases k with⟨rfl,e⟩|⟨q,j,w,rfl,_,e⟩
  ·obtain⟨a1,a2⟩:=fj0 hp hq R J Q
   exact `aMl
  ·exact `m ⟨eb0 hp hq R `du J,s,_,e⟩
theorem g80{ps:`o}(hp:`D){p q:Nat}(h1:p<`P)(h2:q<`P) :
  (`aMm/\`aMn/\wc0 `rx=`c/\∃w:`k,`aMo) ∨
  ∃A,Tab ps ps `l1 A/\`Sm=`aMp/\wc0 `rx=`aMp/\`aMq:=by
 have zs:`abH:=`ah
 have ca:∀(d:D) (δ:Ds),Y5 `abZ=`a5->oA `aiT Y5 (`S::`Sp::`Sq::δ)=`a5:=λd δ e=>by
  rw[o9 (ds:=`abZ) (`y rfl (`y rfl (`y (`tE) rfl)))];exact e
 rcases Y00 hp hp (p0:=`l1) h1 h2 with⟨hb,s,w,e⟩|⟨s,ht,e⟩
 ·refine `m ⟨hb,j7 rfl (`aMr),?_,w,`tB⟩
  ·change `aMs=_
   rw[`zX];rfl
  ·have:ui0 (Z9 un0 `rx)=`aKG:=by
    refine `aMr
    change `aMs=_
    rw[`zX];rfl
   unfold wc0 mkN;rw[`ZE,`u]
  ·exact(o8 (x:=`E2) (y:=`eA) `aMt rfl).trans rfl
 ·have so:oA `aiV t40 `E4=`a (`s ((`E3 (`xb c2)).map pD)):=by
   rw[o9 (ds:=[`ik]) `n?];have:=Y10 (ps:=`xb c2) (ds:=`Aa) (Oa0 ht.1);rw[`br] at this;exact `u
  refine `i ⟨s.1,ht,j7 rfl (p6 `So (p6 (δ':=`E4) ?_ (n8 (Z4 so)))),N8 rfl (p6 `So (p6 (δ':=`E4) ?_ (O3 (zk0 so)))),`tB⟩
  ·change `aMu=_
   rw[`zW];rfl
  ·change `aMu=_
   rw[`zW];rfl
  ·exact(o8 (x:=`akw) (y:=`eA) `aMt rfl).trans rfl
universe La
namespace Ua
open Ka
open DL W K22
open Ta (pa j4)
noncomputable def dr(ps:`o)(r:`k):`o:=`ha λk=>rel `Mh `ET
structure Met(ps:`o)(r:`k):Prop where
 ex:∃c,Dfs `Et [] c [] [0] r/\`aaX
 nd:`tF
 lt:∀y∈r,y<`P
 cl:∀i∈r,∀j∈`tH,`j8
 hd:∃s,r=0::s
theorem j70{ps:`o}(h:`D):∃r,`a2:=by
 obtain⟨c,r,h1,h2,h3,h4,h5,_,h7⟩:=walk h [] `ab_;exact⟨r,⟨c,h1,h2⟩,h3,λy hy=>(h4 y hy).1,λi hi j hj=>(h5 i hi j hj).resolve_right `Q,h7 `Q⟩
theorem Met.zero{ps:`o}(m:`a2):0∈r:=by obtain⟨s,rfl⟩:=m.hd;exact A5
theorem yr0{ps:`o}(h:`D)(hi:`kC):`tH=tgs (`j').vals:=by
 rw[h.adj hi];unfold pa;simp[hi]
theorem ei0{adj:`ph}{S:`k}{c:Nat}{o T:`k}(h:`zS):`aJO:=by
 induction h with
 | nil o=>exact`aJQ
 | skip _ _ ih=>exact ih
 | @visit c o T r x _ _ _ _ ih =>
  obtain⟨s,e⟩:=ih;exact`aJT
theorem Uj0{adj adj':`ph}(f:`aJ){c:Nat}{o T:`k}(h:Dfs adj [] c o T r):`aMv->(∀i∈r,adj' `E6=(`zT).map f)->Dfs adj' [] c (o.map f) (T.map f) `xr:=by
 induction h with
 | nil o=>intro _ _;exact `ae _
 | @skip c o T r x hx hd ih =>
  intro hi ha;exact .skip (`m (i5 (hx.resolve_right `Q))) (ih hi ha)
 | @visit c o T r x hx hS hz hd ih =>
  intro hi ha;obtain⟨s,e⟩:=ei0 hd;have J:x∈r:=`NF
  have M:∀y∈o,y∈r:=λy hy=>by rw[e];simp[hy]
  have k:=ih hi ha;refine .visit (`g') `Q ?_ ?_
  ·obtain⟨y,hy,e2⟩:=`Ma
   exact hx (hi y (M y hy) x J e2▸hy)
  ·rw[ha x J]
   simp only[`ad,`Y] at hz ⊢;exact hz
  ·rw[ha x J]
   rw[`bI,`bI] at k;exact k
theorem qq0(f:`aJ):∀{vs:`p},`LI->tgs (`qF `lR)=(`iY).map f
 | [],_=>rfl
 | `hz,h=>by
  have ih:=qq0 f (vs:=vs) `aJl
  rw[`al];rcases `N5 with rfl|⟨z,rfl⟩|⟨j,rfl,hj⟩
  ·rw[`aMw,show lkv f `z?=`A from rfl,`aMw,ih]
  ·rw[`aMx,show lkv f (`c8 z)=`n9 from rfl,`aMx,ih]
  ·rw[show `aMy from `aMz,nq0,nq0,ih]
   rfl
theorem xu0(f:`aJ)(p:Pt):`aJs:=`aaQ
theorem ua0:∀(a:`t) (b:`p),`Lx=b.length->(a.zip b).map `b9=a
 | [],_,_=>`a!
 | `bh,[],h=>`iE
 | `s6,b::bs,h=>by simp at h;simp[ua0 as bs h]
theorem l00(p:Pt)(vs us:`p)(h:`mS):`j3 (`q7) us=`j3 p us:=by
 cases p with
 | text w=>rfl
 | row us=>rfl
 | table ps =>
  show `D1 _=`D1 _;rw[`Mi]
 | rcd c ps =>
  show `D2 _ _=`D2 _ _;rw[`Mi]
theorem oc0(p:Pt)(vs:`p)(h:`mS):`c' (`q7)=`oj:=by
 cases p with
 | text w=>rfl
 | row us=>show `ew [_,`e `Ed]=_;rw[h];rfl
 | table ps =>
  show `ew [_,`aMA]=_;rw[`Mi];rfl
 | rcd c ps =>
  show `ew [_,_,`aMA]=_;rw[`Mi];rfl
theorem tb0(f:`aJ)(p:Pt):`c' (`ob)=`oj:=oc0 p _ `wP
theorem K3(f:`aJ)(j:Nat):`aMy:=`aMz
theorem qg0{p:Pt}(h:`cG)(f g:`aJ):rel g (`ob)=rel (λj=>g (f j)) p:=by
 unfold rel;rw[`aaQ,l00 _ _ _ `wP,`br];congr 1;refine P5 `mL
 rcases `tI with rfl|⟨z,rfl⟩|⟨j,rfl,hj⟩
 ·rfl
 ·rfl
 ·show lkv g (lkv f _)=_
  rw[K3,K3,K3]
theorem uj0{p:Pt}(h:`cG){f g:`aJ}(e:∀j∈`iZ,f j=g j):`ob=rel g p:=by
 unfold rel;congr 1;refine P5 `mL
 rcases `tI with rfl|⟨z,rfl⟩|⟨j,rfl,hj⟩
 ·rfl
 ·rfl
 ·rw[K3,K3,e j `aaM]
theorem Wx0{f:`aJ}:∀{r:`k},`aMv->`tF->(`E5).Nodup
 | [],_,_=>U2
 | a::r,hi,h=>by
  rw[`Ju] at h;rw[`al,`Ju];refine⟨`g',Wx0 (λx hx y hy=>hi x `BI y `Ek) h.2⟩;obtain⟨b,hb,e⟩:=`Ma;exact h.1 (hi b `LF a A5 e▸hb)
structure Iso(ps qs:`o)(r:`k)(f:`aJ):Prop where
 img:∀i∈r,f i<`bj/\`aMB
 inj:∀a∈r,∀b∈r,`Sr
 zero:f 0=0
theorem idx_map(f:`aJ):∀(r:`k) (j:Nat),`j8->(∀a∈r,f a=f j->a=j)->(`E5).idxOf (f j)=`xi
 | [],_,h,_=>by cases h
 | a::r,j,h,hi=>by
  rw[`al,`aa_,`aa_]
  by_cases e:a=j
  ·subst e;simp
  ·have ne:f a≠f j:=λz=>e (hi a A5 z)
   rw[`aa0 e,`aa0 ne];show _+1=_+1;rw[idx_map f r j `aaZ λb hb=>hi b `LF]
theorem fx0{ps qs:`o}{f:`aJ}(hp:`D)(hq:`aw)(m:`a2)(I:`aMC):Met qs `xr/\dr qs `xr=`rz:=by
 have adj:∀i∈r,yp0 `ok `E6=(`tH).map f:=λi hi=>by
  rw[yr0 hq (`Mj).1,`akD,(`Mj).2,xu0];exact qq0 f (`St).2.lv
 refine⟨⟨?_,Wx0 I.inj m.nd,`hp,λy hy j hj=>?_,?_⟩,?_⟩
 ·obtain⟨c,h1,h2⟩:=m.ex
  refine⟨c,?_,h2⟩;have:=Uj0 (adj':=yp0 `ok) f h1 I.inj adj;rw[`fy,`al,`fy,I.zero] at this;exact `u
 ·obtain⟨i,hi,rfl⟩:=`e_ hy
  exact(`Mj).1
 ·obtain⟨i,hi,rfl⟩:=`e_ hy
  rw[adj i hi] at hj;obtain⟨k,hk,rfl⟩:=`e_ hj;exact i5 (m.cl i hi k hk)
 ·obtain⟨s,rfl⟩:=m.hd
  exact⟨s.map f,by rw[`al,I.zero]⟩
 ·unfold dr
  rw[`br];refine P5 `qL
  show rel _ (`akC)=_;rw[(`Mj).2,qg0 `Ah];refine uj0 `Ah `sC
  have J:`j8:=`aMD;exact idx_map f r j J λa ha e=>I.inj a ha j J e
theorem yq0{ps:`o}(hp:`D)(m:`a2):Web `rA/\`aME:=by
 have hl:`aMF:=by
  have:=`aMG
  rwa [Bj0] at this
 have e:`aME:=by unfold dr;rw[`Y]
 refine⟨⟨?_,λp J=>?_⟩,e⟩
 ·rw[e]
  have:=`L7;exact⟨Ef0 `Mk,`h⟩
 ·rw[e]
  obtain⟨i,hi,rfl⟩:=`e_ J;refine nj0 `Ah _ `sC
  exact Aa0 (`aMD)
theorem cf0{ps:`o}(hp:`D)(m:`a2):Iso ps `rA r `akz:=by
 refine⟨`qL,`aMH,?_⟩
 ·have h1:`od i<`am:=Aa0 hi
  refine⟨`aMI,?_⟩;have:pa `rA (`od i)=`rA[`od i]'(`aMI):=by unfold pa;simp[(`Su).2,h1]
  rw[`u];unfold dr;rw[`gA,`ab0 h1]
 ·have h1:`od a<`am:=Aa0 ha
  have h2:`od b<`am:=Aa0 hb;rw[← `ab0 h1,← `ab0 h2];congr 1
 ·obtain⟨s,rfl⟩:=m.hd
  exact `aJU
theorem na0(v:D)(h:`cn):lkv `Ai v=v:=by
 rcases h with rfl|⟨z,rfl⟩|⟨j,rfl,hj⟩
 ·rfl
 ·rfl
 ·rw[K3]
universe Ua
namespace Ua
open Ka
open DL W K22
open Ta (pa j4 zl0)
theorem zc0{p:Pt}(h:`cG)(f:`aJ)(D':D)(hd:∀j∈`iZ,`aaK):`aaL:=`aMJ
theorem s00{ps:`o}(h:`D)(m:`a2):v30 `aMK=`Sw:=by
 obtain⟨c,h1,h2⟩:=m.ex;exact K22.s00 h [] `l `ab_ h1 h2
theorem ov0{ps:`o}(h:`D)(m:`a2):`aML :=
 N8 rfl (O3 (zk0 (by rw[o9 (ds:=`aMK) rfl];exact s00 h m)))
noncomputable def nums(r:`k)(i:Nat):D:=`aW (`m (kd `Ml)) (nd (`dm 0 i))
theorem U30(hn:`tF)(hj:`Aj):W6 (kd `l!) `ab1=kd (`xj `hb)/\V4 (kd `l!) (`aMM) `ab1 `lO=nd (`dm 0 `hb):=by
 have J:`aMN:=λz=>by
  have q:`aMO:=by rw[`zk];exact hn
  exact`aMP _ z _ (by rw[`sE hj];exact A5) rfl
 have hk:T9 (kd `l!) `ab1=`r:=`aJG
 have tk:`ab2:=by rw[`pb,`d2 hj];rfl
 constructor
 ·unfold W6;rw[hk,`a7,tk,ow0];rfl
 ·unfold V4;rw[hk,`a7,`aMQ,vu0,`EI,`bd];rfl
theorem U80(hj:`j8):G8 (`Sx) `lO=`a (`e ((`xi:Nat):Int)):=by
 show K1 (kd (`xj `am)) (nd (`dm 0 `am)) `Fq=_;rw[`tJ,e40 r 0 j hj,`bd]
theorem Rx0{ks:`eZ}{vs:`p}{k:Nat}{v:D}{g:GE}{gx:GE}(h1:`cg=`a (.ow (`aFv)))(h2:`o3=`a3)(h3:`aB=`abh)(h4:`Ld) :
  J2 (z10 gx) `ayc δ=`a (.nx (`df i (.ow (`aW (`m (W6 ks `Ak)) (V4 ks vs `Ak v))))):=by
 have e:`vf=`a (ks,vs):=by unfold s70;rw[h1]
 unfold J2 z10;rw[h2,`eH,`w];unfold DL.putAt;rw[e,`w,h3,`w];simp only[yv0,`w];rw[`J h4];rfl
theorem U60{ps:`o}(h:`D)(m:`a2){mf:`K}(hm:∀i∈r,mf `aMR=`a (rel `Mh (`j')).d) :
  V1 `a6 noT (oA `aiA mf) [.un,`S,`ab3] `rb=`a ((`rz).map `d5):=by
 rw[Q4 (λd=>match d with|`ap=>(rel `Mh (pa ps `dd)).d|_=>`A) (λd hd=>by
  obtain⟨i,hi,rfl⟩:=`dR;refine⟨[`gp,`S,`ab3],rfl,rfl,?_⟩;rw[o9 (ds:=`aMR) (`y (by rw[`alj];exact(`aMS).1) rfl),hm i hi];rfl)]
 unfold nd dr;rw[`br,`br];rfl
theorem Met.len{ps:`o}(h:`D)(m:`a2):`aMF/\`am<=60:=by
 have:=`aMG
 rw[`Mm] at this;exact⟨`u,C4 `u `LG⟩
theorem Met.tg{ps:`o}(h:`D)(m:`a2)(hi:`Al)(hj:j∈tgs (`j').vals):`j8:=m.cl i hi j (by rw[yr0 h `E7];exact hj)
theorem gp0(r:`k):(`Am).length=`am:=by unfold z20;rw[`Y,`Mm,y00]
theorem Xe0{d:D}(h:(`Am)[j]?=`a5):∃hj:`Aj,d=`x [`j1,`Sy]:=by
 have J:`Aj:=by
  have:=`axD
  rwa [gp0] at this
 refine⟨J,?_⟩;unfold z20 at h;rw[`cj,`I0 (by rw[y00];exact J)] at h;have e:(`ra).getD j `A=`Sy:=by unfold nd;simp[J]
 rw[← e];exact(B2 h).symm
theorem Vu0{gA:GA}(δ:Ds)(r:`k)(h:`cw=`a [`j7]):qh0 gA δ=`a (`Am):=by
 unfold qh0;rw[h];rfl
noncomputable def NB:GS:=(v9 (J2 (z10 `bb) (DL.putAt 3 `bW)) o4)
theorem vn0{ps:`o}(h:`D)(m:`a2):`aMT:=by
 have zs:`aK1:=`ah
 obtain⟨_,M⟩:=m.len h;obtain⟨δ',l1,s4,s5,rfl⟩:=J3 (f:=`DM) (G:=NB) (λi δ=>∃s4 s5:Sl,δ=[`S,`ov,`cU,.ow (nums r i),s4,s5]) (`Am) 0 `aMU (by
  rintro j d δ hj ⟨s4,s5,rfl⟩;rw[`bd];obtain⟨J,rfl⟩:=Xe0 hj;obtain⟨e1,e2⟩:=U30 m.nd J;refine⟨[`S,`ov,`cU,.ow (nums r j),`ic,`tW],_,rfl,p6 (Rx0 (ks:=kd `l!) (vs:=`aMM) (k:=r[j]) (v:=`j1) rfl rfl rfl (by unfold kd;rw[`Y,`ck];omega)) rfl,`ic,`tW,?_⟩;rw[e1,e2];rfl) `aMV
 rw[`bd,gp0] at l1;refine j7 rfl (p6 (j8 (d:=`j7) (T50 ?_ (Xj0 r))) (p6 (δ':=`aMU) rfl (p6 (O7 (items:=`Am) ?_ l1) `dH)))
 ·show oA `l9 wv0 [`S,`ov,.un,.un,.un,.un]=_
  rw[o9 (ds:=`Sv) rfl];exact ov0 h m
 ·exact Vu0 _ r rfl
 ·show oA _ Q3 [`S,`ov,`cU,`ab3,zz0 s4,zz0 s5]=_
  rw[o9 (ds:=[`s ((`rz).map `d5)]) (`y (V7 (items:=`ra) rfl `zY (U60 h m λi hi=>zc0 (`aMS).2 _ _ λj hj=>U80 (m.tg h hi hj))) rfl)];rfl
universe Ua
namespace Ua
open Ka
open DL W K22 SoT
open Ta (pa j4 zl0 pN up okv)
theorem V40{p:Pt}(h:`cG):`E! p.d=`b:=by
 have v:∀x∈`d4,`aMW:=λx hx=>(Ta.d20 `aJZ).nb
 have J:∀ps:`ed,(∀x∈`h9,`aMW)->`E! `Ec=`b:=λps hv=>`E? λd hd=>by
  obtain⟨q,hq,rfl⟩:=`dR;refine `An
  rcases `eM with rfl|he
  ·exact `pl
  ·rw[`i1]
   exact hv _ `aj4
 cases p with
 | text w=>refine `An;rcases `eM with rfl|he;exact `pl;rw[`i1];exact `pl
 | row vs=>refine `An;rcases `eM with rfl|he;exact `pl;rw[`i1];exact `E? v
 | table ps=>refine `An;rcases `eM with rfl|he;exact `pl;rw[`i1];exact J ps v
 | rcd c ps =>
  refine `An
  rcases `eM with rfl|he
  ·exact `pl
  ·rcases `eM with rfl|he
   ·exact `pl
   ·rw[`i1];exact J ps v
theorem g00{ps:`o}(h:`D):Pn.Pl `cm:=⟨Uc0 h 45,`E? λd hd=>by
 obtain⟨p,hp,rfl⟩:=`dR;exact V40 `aJ0⟩
universe Ua
namespace Ea
open Ka
open DL W
noncomputable def qs0:GS:=(v9 `aMX
 (v9 `aMY
 (v9 (ifD `aMZ
 (v9 `aM_
 o4)
 o4)
 (v9 `aM0
 o4))))
noncomputable def qr0:`t:=`aM1
noncomputable def qu0:`K:=mkF 3 qr0 qs0
universe Ea
namespace Ea
open Ka
open DL W K22
open Ta (pa j4 zl0 gl gl1 nl pN k2 w70)
open La
structure Pg(ps qs:`o)(p0:`ac)(n:Nat)(k:Nat)(s:Cs):Prop where
 len:`abL
 top:s.1[0]?=`a p0/\s.2[0]?=`d?
 ptr:∀i b,0<i->`Mn->∃j q c v,b=`akL/\j<i/\`ab4/\`fG[c]?=`a3/\`mU=`xk/\(j<n∨j=n/\c<k)
 up:∀(i i':Nat) (q:`ac) (c:Nat) (q':`ac) (c' j j':Nat),0<i->i<i'->`aM2->s.2[i']?=`a (`a (q',c'))->`ab4->s.1[j']?=`a q'->j<j'∨j=j'/\c<c'
theorem db0{s:`co}(h:s.Nodup){x:`ac}(hi:s[i]?=`aQ)(hj:s[j]?=`aQ):i=j:=by
 obtain⟨h1,e1⟩:=`cK hi;obtain⟨h2,e2⟩:=`cK hj;exact(q0 h).mp (`R! e2.symm)
theorem Pg.ex1{ps qs:`o}{k:Nat}{s:Cs}(hnd:`L6)(h:`Ao)(hq:`tV){v:`fF}(hv:`aM3):Pg ps qs p0 n `cf (`ab5):=by
 have weak:Pg ps qs p0 n `cf s:=⟨`l_,h.top,λi b hi hb=>by
  obtain⟨j,q',c,v',e1,e2,e3,e4,e5,e6⟩:=`aM4;exact⟨j,q',c,v',e1,e2,e3,e4,e5,e6.imp id λz=>⟨z.1,`h⟩⟩,h.up⟩
 unfold La.ex1;cases e:`mU with
 | none=>exact weak
 | some x =>
  dsimp only
  by_cases hx:`tS
  ·rw[`J hx];exact weak
  ·rw[`V hx]
   have a0:`Md:=(`cK hq).1;have a1:∀{i:Nat} {y:`ac},`xk=`bA->(`Ab)[i]?=`bA:=λ{i y} hy=>by rw[`f4 `aM5];exact hy
   have b1:∀{i:Nat} {b:Bk},(`Sd)[i]?=`h_->(`Mn)∨(i=`xf/\b=`xc):=λ{i b} hb=>by
    rcases A80 i `xf with z|z
    ·rw[`f4 z] at hb;exact `w1
    ·rw[`pW z] at hb
     have:i - `xf=0:=by
      have:=`ab6;simp at this;exact `u
     rw[`u] at hb;simp at hb;exact `i ⟨`h,hb.symm⟩
   have a2:∀{j:Nat} {y:`ac},(`Ab)[j]?=`bA->y∈s.1->`SB=`bA:=λ{j y} hy hm=>by
    rcases A80 j `gq with z|z
    ·rw[`f4 z] at hy;exact hy
    ·rw[`pW z] at hy
     have:j - `gq=0:=by
      have:=`aM5;simp at this;exact `u
     rw[`u] at hy;simp at hy;exact `L (hy▸hm) hx
   have M:`Af:=C2 hq;refine⟨`aLX,⟨a1 h.top.1,?_⟩,λi b hi hb=>?_,λi i' q1 c1 q2 c2 j j' hi a3 h1 h2 h3 h4=>?_⟩
   ·rw[`f4 (`cK h.top.2).1];exact h.top.2
   ·rcases b1 hb with hb|⟨rfl,rfl⟩
    ·obtain⟨j,q',c,v',e1,e2,e3,e4,e5,e6⟩:=weak.ptr i b hi hb
     have Z:i<`gq:=by rw[`l_];exact`ab6
     exact⟨j,q',c,v',e1,e2,a1 e3,e4,by rw[e5,`f4 Z],e6⟩
    ·refine⟨n,q,k,v,rfl,by rw[← `l_];exact a0,a1 hq,hv,?_,`i ⟨rfl,x0 _⟩⟩
     rw[e,← `l_,`pW `aV,`TO];rfl
   ·rcases b1 h1 with h1|⟨e1,e2⟩
    ·obtain⟨j1,a5,d1,v1,g1,g2,g3,g4,g5,g6⟩:=h.ptr i _ hi h1
     cases g1;have hj:`SB=`a q1:=a2 h3 (C2 g3);have ej:=db0 hnd hj g3;rcases b1 h2 with h2|⟨e1,e2⟩
     ·obtain⟨j2,a4,d2,v2,k1,_,k3,_⟩:=h.ptr i' _ `d h2
      cases k1;exact h.up i i' q1 c1 q2 c2 j j' hi a3 h1 h2 hj (a2 h4 (C2 k3))
     ·cases e2
      have O:=db0 hnd (a2 h4 M) hq;rw[ej,O];exact g6
    ·have J:=b1 h2
     rcases J with J|⟨e3,_⟩
     ·have:=(`cK J).1
      omega
     ·omega
theorem i60{ps qs:`o}(hp:`D)(hq:`aw):∀(z:`i0) (k:Nat) (s:Cs),`ab7->`Ao->`tV->(∀i v,z[i]?=`a3->`fG[k+i]?=`a3)->(∀v∈z,`ru)->Pg ps qs p0 n (k+`eU) (`xh)
 | [],k,s,_,g,_,_,_=>g
 | `j!,k,s,h,g,e,hz,hn=>by
  have hv:`aM3:=hz 0 v rfl;obtain⟨a1,a2,_⟩:=i00 hp hq h (C2 e) k (C2 hv) (hn v A5);have e':(`ab5).1[n]?=`qk:=by
   unfold La.ex1;cases `mU with
   | none=>exact e
   | some x =>
    dsimp only;split
    ·exact e
    ·rw[`f4 `abP];exact e
  have:=i60 hp hq z `cf (`ab5) a1 (g.ex1 h.nd e hv) e' (λi u hu=>by have:=hz `a4 u hu;rwa [show k+`a4=k+1+i by omega] at this) λu hu=>hn u `Dd
  rw[`a0,show k+(`eU+1)=k+1+`eU by omega];exact `u
theorem Pg.next{ps qs:`o}{k:Nat}{s:Cs}(h:`Ao):Pg ps qs p0 `b2 0 s:=⟨`l_,h.top,λi b hi hb=>by
 obtain⟨j,q',c,v',e1,e2,e3,e4,e5,e6⟩:=`aM4;exact⟨j,q',c,v',e1,e2,e3,e4,e5,`m `d⟩,h.up⟩
theorem cz0{ps qs:`o}(hp:`D)(hq:`aw){s s':Cs}{r:`tR}(R:`Ag):`ab7->Pg ps qs p0 n 0 s->∃n' k',Pg ps qs p0 n' k' s'/\∀q j,r=`Mc->∃v,`aL?/\`rq/\q∈s'.1:=by
 induction R with
 | fin _=>intro _ g;exact⟨_,_,g,λq j h=>nomatch h⟩
 | @go n s s' r q e hn R ih =>
  intro h g;obtain⟨p1,_,_⟩:=`aMi
  exact ih p1 (i60 hp hq `fG 0 s h g e (λi v hv=>by rw[`bd];exact hv) hn).next
 | @prt n s q j v e e1 e2 e3 =>
  intro h g;have hm:=C2 e;obtain⟨_,p2,_⟩:=vs0 hp hq `Mb 0 s h hm λu hu=>⟨X1 hu,e2 u hu⟩
  refine⟨_,_,i60 hp hq `Mb 0 s h g e (λi u hu=>?_) e2,λq' j' he=>?_⟩
  ·rw[`bd]
   rw[List.getElem?_take] at hu;split at hu
   ·exact hu
   ·cases hu
  ·cases he
   exact⟨v,e1,e3,p2 q hm⟩
theorem pg0{ps qs:`o}:Pg ps qs p0 0 0 `j?:=⟨rfl,`fv,λi b hi hb=>by
 have:=`ab6;simp at this;omega,λi i' q c q' c' j j' hi J h1 h2=>by
 have:=(`cK h2).1;simp at this;omega⟩
theorem Ol0{s:Cs}(hl:`abL)(hnd:`L6){x:`ac}{b:Bk}(h1:`Mo)(h2:`Mn):lk s x b:=by
 unfold La.lk;obtain⟨A,B⟩:=s;dsimp only at *;clear hl
 induction A generalizing B i with
 | nil=>simp at h1
 | cons a A ih =>
  cases B with
  | nil=>simp at h2
  | cons c B =>
   rw[`al,`al];unfold K1;cases i with
   | zero =>
    simp at h1 h2;subst h1 h2;rw[`aY]
   | succ i =>
    rw[`Ju] at hnd;have J:A[i]?=`aQ:=`t9
    rw[`V (λz=>hnd.1 (by have z':a=x:=w70 z;rw[z'];exact C2 J))];exact ih B hnd.2 J `xE
theorem Q40{a b:Bk}(h:cD a=cD b):a=b:=by
 cases a with
 | none=>cases b with
  | none=>rfl
  | some q=>obtain⟨p,c⟩:=q;cases h
 | some p =>
  obtain⟨p,c⟩:=p;cases b with
  | none=>cases h
  | some q =>
   obtain⟨q,d⟩:=q;unfold cD at h;injection h with h
   injection h with h1 h
   injection h with h2 _
   injection h2 with h2
   have e:p=q:=by
    unfold pN at h1;injection h1 with h1
    injection h1 with h3 h1
    injection h1 with h4 _
    injection h3 with h3
    injection h4 with h4
    exact `ze
   rw[e,show c=d by omega]
inductive Wi' (s:Cs):Nat->`aaD
 | top:Wi' s 0 []
 | go {i j:Nat} {q:`ac} {c:Nat} {w:`k}:0<i->`aM2->`ab4->j<i->Wi' s j w->Wi' s i (w++[c])
theorem iq0{ps qs:`o}{k:Nat}{s:Cs}(hnd:`L6)(g:`Ao):∀{x:`ac} {w:`k},Wy s x w->∀i,`Mo->Wi' s i w:=by
 have one:∀{x:`ac} {i:Nat} {b:Bk},`Mo->lk s x b->`Mn:=λ{x i b} hi hb=>by
  have J:i<`xf:=by rw[← g.len];exact`UD
  have e:=Ol0 g.len hnd hi (B6 J);rw[`d2 J];congr 1;exact Q40 (B2 (e.symm.trans hb))
 intro x w h
 induction h with
 | @top q hb =>
  intro i hi;rcases Eg0 i with rfl|z
  ·exact `l0
  ·obtain⟨_,_,_,_,e,_⟩:=g.ptr i `c z (one hi hb)
   cases e
 | @go q p c w hb hw ih =>
  intro i hi;have e2:=one hi hb;rcases Eg0 i with rfl|z
  ·rw[g.top.2] at e2
   cases e2
  ·obtain⟨j,q',c',v,e,hj,e3,_⟩:=g.ptr i _ z e2
   cases e;exact .go z e2 e3 hj (ih j e3)
universe Ea
namespace Ea
open Ka
open DL W K22
open Ta (pa j4 zl0 gl gl1 nl pN k2 w70)
open La
noncomputable def lnk(j:Nat):D:=`oa
noncomputable def stp(ps:`o)(v:D)(k:Nat):`cN:=match v with
 | `zU=>(pa ps `oh).vals[k]?
 | _=>`c
noncomputable def vat(ps:`o)(v:D):`k->`cN
 | []=>`a3
 | k::w=>`aM6 λu=>vat ps u w
theorem ws0(ps:`o)(j k:Nat):stp ps (`l5) k=`Ap:=by
 unfold stp lnk;simp only[`aR]
theorem ql0(ps:`o):∀(w:`k) (v:D) (k:Nat),vat ps v (`EX)=(`Mp).bind λu=>stp ps u k
 | [],v,k=>by
  show `aM6 (λu=>`aU)=_;unfold vat;rw[`w];cases `xl<;>rfl
 | x::w,v,k=>by
  rw[`ds];unfold vat;cases stp ps v x with
  | none=>rfl
  | some u =>
   rw[`w,`w];exact ql0 ps w u k
noncomputable def VB:GS:=(v9 `aGP
 (v9 (ifD `aGQ
 (v9 ni0
 o4)
 o4)
 (v9 `aGR
 o4)))
theorem Pi0{ps:`o}(h:`D)(a b c:Sl){k:Nat}(hj:j<`P){u:D}(hu:`Ap=`aU)(s6:Sl) :
  ∃t6,VB [`S,a,b,`SE,c,`lY,s6]=`a (.nx [`S,a,b,`Fv,c,`lY,t6]):=by
 obtain⟨a1,a2⟩:=j4 h hj;obtain⟨hk,ek⟩:=`cK hu;have e6:z80 `aM7=`a (`xm):=by
  refine N8 rfl (p6 (δ':=[`S,`SE]) rfl `Rc);rw[o9 (ds:=[(`SC).d]) (`y (by rw[o8 (x:=`aN) (y:=`j1) rfl rfl];exact a1) rfl)];exact Pn.N5 _ a2.f
 refine⟨.sh (`xm),p6 (j8 (d:=`xm) (by rw[o9 (ds:=`aM7) rfl];exact e6)) (p6 (δ':=`ab8) ?_ (p6 (j8 (d:=u) ?_) rfl))⟩
 ·change ifD _ _ _ `ab8=_
  rw[Z2 (Ta.Wh0 `aM8 `aM8)]
  ·rfl
  ·rw[o8 (x:=`os) (y:=`e9) rfl rfl]
   show `a (`lV (`I (`bG<0)))=_;rw[`JH]
  ·rw[o8 (x:=`os) (y:=`e `aM9) rfl (g60 rfl)]
   show `a (`lV (`I (`aM9<=`bG)))=_;rw[`JH]
 ·change o2 _ _ _ `ab8=_
  rw[o8 (x:=`xm) (y:=`c3) rfl rfl];show atI `SD `bG=_;rw[`tD,`aR,`cr,hu];rfl
theorem jt0{v:D}(h:`cn){ps:`o}{k:Nat}{u:D}(hs:`xl=`aU):∃j,j<n/\v=`l5/\`Ap=`aU:=by
 rcases h with rfl|⟨z,rfl⟩|⟨j,rfl,hj⟩
 ·cases hs
 ·cases hs
 ·refine⟨j,hj,rfl,?_⟩
  have:=`aM';unfold lnk at this;rw[`u] at hs;exact hs
theorem Za0{ps:`o}(h:`D)(a b:Sl):∀(w:`k) (m:Nat) (v u:D) (s4 s5 s6:Sl),`Ad->`Mp=`aU ->
  ∃t4 t5 t6,W5 `Lm VB ((`dm m `lX).zip w |>.map λp=>`x `aM!) [`S,a,b,`op,s4,s5,s6]=`a (.nx [`S,a,b,`Fv,t4,t5,t6])/\`ab9
 | [],m,v,u,s4,s5,s6,hv,e=>by
  unfold vat at e;cases e;exact⟨s4,s5,s6,rfl,hv⟩
 | k::w,m,v,u,s4,s5,s6,hv,e=>by
  unfold vat at e;cases e1:`xl with
  | none=>rw[e1] at e;cases e
  | some x =>
   rw[e1,`w] at e;obtain⟨j,hj,rfl,hk⟩:=jt0 hv e1;have hx:Lv `P x:=(j4 h hj).2.lv x (C2 hk);obtain⟨t6,e2⟩:=Pi0 h a b (.sh (nI m)) hj hk s6;obtain⟨u4,u5,u6,e3,hu⟩:=Za0 h a b w (m+1) x u (.sh (nI m)) `lZ t6 hx e;refine⟨u4,u5,u6,?_,hu⟩;rw[`a0,`tu,`eJ,`al];exact(X50 (f:=`DM) rfl e2).trans e3
theorem enum_zip(w:`k):z20 (`xd)=(`aM?).map λp=>`ew `aM!:=by
 refine `K6
 unfold z20;rw[`Y,`cj,`cj]
 by_cases h:i<`lX
 ·rw[`I0 h,show (`aM?)[i]?=`a (i,w[i]) from P8.mpr ⟨by rw[List.getElem?_range' h];simp,B6 h⟩]
  rw[`eH,`eH,`cr,`cj,`d2 h];rfl
 ·rw[`jm (by rw[`Mm];omega),`jm (by rw[`c4,`R5];omega)]
  rfl
theorem wt0{ps:`o}(h:`D){w:`k}{u:D}(e:`ab'):R7 [`aN,`im,`e9]=`aU/\`ab9:=by
 have zs:(9:Nat)<=`R:=`ah
 obtain⟨t4,t5,t6,lo,hu⟩:=Za0 h (`xt) (`ov) w 0 `io u .un .un .un (`i (`i ⟨0,rfl,`ab_⟩)) e;rw[← enum_zip] at lo;refine⟨j7 rfl (p6 (δ':=[`S,`xt,`ov,.sh `io,.un,.un,.un]) (j8 (d:=lnk 0) (`tE)) (p6 (O7 (items:=z20 (`xd)) rfl lo) `z6)),hu⟩
universe Ea
namespace Ma
open DL W K22
open Ta (pa j4 zl0 gl gl1 nl pN k2 w70)
open La
open Ea (Pg Wi' db0 iq0 cz0 pg0 lnk stp vat ws0 ql0 jt0)
noncomputable def lds(ps qs:`o)(p0:`ac)(a:`k)(x:`ac):Prop:=`aNa=`a (lnk x.1)/\`aNb=`a (lnk x.2)
noncomputable def PWy(ps qs:`o)(p0:`ac)(a:`k):Prop:=∃u v,`aNa=`aU/\`aNb=`a3/\`aNc
theorem jh0{ps:`o}(hp:`D):∀(w:`k) (v u:D),`Ad->`Mp=`aU->`ab9
 | [],v,u,hv,e=>by unfold vat at e;cases e;exact hv
 | k::w,v,u,hv,e=>by
  unfold vat at e;cases e1:`xl with
  | none=>rw[e1] at e;cases e
  | some x =>
   rw[e1,`w] at e;obtain⟨j,hj,rfl,hk⟩:=jt0 hv e1;exact jh0 hp w x u (`aNd x (C2 hk)) e
theorem it0{ps qs:`o}{y:`ac}{b:`k}{c:Nat}{v:`fF}(h:lds ps qs p0 b y)(e:(zp ps qs y)[c]?=`a3):vat ps (`SF) (b++[c])=`a v.1/\vat qs (`SG) (b++[c])=`a v.2:=by
 obtain⟨z1,z2⟩:=P8.mp (show ((pa ps y.1).vals.zip (pa qs y.2).vals)[c]?=`a `akr from e);exact⟨by rw[ql0,h.1,`w,ws0,z1],by rw[ql0,h.2,`w,ws0,z2]⟩
theorem rn0(i j:Nat):gl1 (lnk i,`l5)=`a `g9:=rfl
theorem U10{ps qs:`o}(hp:`D)(hq:`aw){k:Nat}{s:Cs}(P:`ab7)(g:`Ao):∀{i:Nat} {w:`k},Wi' s i w->∀x,`Mo->lds ps qs p0 w x:=by
 intro i w h
 induction h with
 | top =>
  intro x hx;rw[g.top.1] at hx;cases hx;exact`fv
 | @go i j q c w z e1 e2 e3 hw ih =>
  intro x hx;obtain⟨j',q',c',v,f1,_,f3,f4,f5,_⟩:=g.ptr i _ z e1;cases f1;rw[hx] at f5;obtain⟨r1,r2⟩:=P.inr q (C2 e2);obtain⟨l1,l2⟩:=v90 hp hq r1 r2 (C2 f4);obtain⟨a1,a2⟩:=it0 (ih q e2) f4;rcases `pk with⟨a,b,_,_,h1,h2,h3⟩|⟨h3,_⟩
  ·rw[`kF,f5] at h3
   cases h3;exact⟨`Mq (by rw[h1];rfl),a2.trans (by rw[h2];rfl)⟩
  ·rw[`kF,f5] at h3
   cases h3
theorem pi0{ps qs:`o}(h1:`Me)(h2:`Mf)(hh:`abQ):La.Pi ps qs p0 `j?:=by
 have one:`abT:=`abU
 refine`abV;rw[`rv];refine`abW;show `abX;rw[`aY]
universe Ma
namespace Ea
open Ka
open DL W K22
open Ta (pa j4 zl0 gl gl1 nl pN k2 w70 up okv)
open La
open Ua (Met dr)
noncomputable def TV(ps qs:`o)(w:`k):Prop:=∃u v,`ab'/\vat qs `io w=`a3/\`aNc
theorem rr0{p q:Pt}(h:`z8):`j3 p `tX=q:=by
 have key:∀qs:`ed,∀ns:`t,`jg `mQ=(`w3 `b9).map `mQ->ns.zip (`w3 `cZ)=qs:=λqs=>by
  induction qs with
  | nil=>intro ns _;simp
  | cons a qs ih =>
   intro ns hn;cases ns with
   | nil=>simp at hn
   | cons n ns =>
    rw[`al,`al,`al] at hn;injection hn with h1 h2
    injection h1 with h1
    rw[`al,`eJ,ih ns h2,h1]
 cases p<;>cases q<;>unfold Pn.hd at h<;>injection h with h<;>first
  | (injection h with h1 _;injection h1 with h1;exact `aNe)
  | skip
 ·injection h with _ h;injection h with h _;injection h with h;rw[h];rfl
 ·rfl
 ·rename_i a b
  injection h with _ h;injection h with h _;injection h with h
  show `D1 `aNf=_;rw[key b _ h]
 ·rename_i c a c' b
  injection h with _ h;injection h with h1 h;injection h with h _;injection h with h;injection h1 with h1
  show `D2 c `aNf=_;rw[key b _ h,h1]
universe Ea
namespace Ka
open DL W K22
open Ta (pa j4 zl0 gl gl1 nl pN up)
open La (zp nI Rch okp zb0 v90)
open Ea (lnk rr0)
open Ma (rn0)
open Ua (yr0 xu0 tb0 K3 na0 qq0 qg0 uj0 oc0)
inductive F2 (R:`z1):`p->`p->Prop
 | nil:F2 R [] []
 | cons {a b:D} {l m:`p}:`tY->`Mr->F2 R (a::l) (b::m)
theorem F2.mono{R S:`z1}{m:`p}(h:`Mr):(∀a∈l,∀b∈m,`tY->S a b)->F2 S l m:=by
 induction h with
 | nil=>intro _;exact `ae
 | cons h1 _ ih=>intro k;exact `au (k _ A5 _ A5 h1) (ih λa ha b hb=>k a `rB b `LF)
theorem F2.symm{R S:`z1}{m:`p}(h:`Mr)(k:∀a b,`tY->S b a):F2 S m l:=by
 induction h with
 | nil=>exact `ae
 | cons h1 _ ih=>exact `au (k _ _ h1) ih
theorem F2.trans{R S T:`z1}{m:`p}(h:`Mr)(k:∀a b c,`tY->S b c->T a c):∀{o:`p},F2 S m o->F2 T l o:=by
 induction h with
 | nil=>intro o h2;cases h2;exact `ae
 | cons h1 _ ih=>intro o h2;cases h2 with|cons a b=>exact `au (k _ _ _ h1 a) (ih b)
noncomputable def Mv(R:`kg)(v w:D):Prop:=(∃i j,v=lnk i/\w=`l5/\R i j)∨(v=w/\`ii=`r)
structure Lk(R:`kg)(p q:Pt):Prop where
 hd:`z8
 vs:F2 (Mv R) `d4 `tX
theorem vf0(h:lnk i=`l5):i=j:=by
 unfold lnk at h;injection h with h;injection h with _ h;injection h with h _;injection h with h
 exact `aNg
theorem gb0(R:`kg):∀{vs ws:`p},`aba->`LI->`aNh ->
  (F2 (Mv R) vs ws↔(∀x∈`w_,nl x)/\∀y∈`ab!,`ab?)
 | [],[],_,_,_=>⟨λ_=>⟨`JU,λy hy=>by cases hy⟩,λ_=>`ae⟩
 | [],`bh,h,_,_=>by cases h
 | `bh,[],h,_,_=>by cases h
 | `hz,w::ws,hl,hv,hw=>by
  have ih:=gb0 R (vs:=vs) (ws:=ws) `u5 `aNi (`aNj);have key:Mv R v w↔nl `w2/\∀y,`mT=`bA->`ab?:=by
   rcases zb0 (`J3) (hw w A5) with⟨i,j,_,_,rfl,rfl,e⟩|⟨e,t⟩
   ·constructor
    ·rintro (⟨i',j',e1,e2,r⟩|⟨_,z⟩)
     ·have:=vf0 (i:=i) (j:=i') e1
      have:=vf0 (i:=j) (j:=j') e2
      subst_vars;exact⟨`m `fv,λy hy=>by rw[e] at hy;cases hy;exact r⟩
     ·cases z
    ·rintro⟨_,r⟩
     exact `m ⟨i,j,rfl,rfl,r _ e⟩
   ·constructor
    ·rintro (⟨i',j',rfl,rfl,r⟩|⟨z,z2⟩)
     ·rw[rn0] at e;cases e
     ·exact⟨`i z,λy hy=>by rw[e] at hy;cases hy⟩
    ·rintro⟨q|q,_⟩
     ·dsimp only at q;rw[q.1,q.2] at t;cases t
     ·dsimp only at q
      subst q;exact `i ⟨rfl,by cases h:`ii with|false=>rfl|true=>rw[h] at t;cases t⟩
  have cg:∀y,y∈gl (`w2::`w_)↔`mT=`bA∨y∈`ab!:=λy=>by
   unfold gl;rw[`r1];cases `mT with
   | none=>simp
   | some z =>
    rw[`aI,Option.some_inj];exact⟨`aNk,`aNk⟩
  rw[`eJ];constructor
  ·intro h
   cases h with
   | cons h1 h2 =>
    obtain⟨k1,k2⟩:=key.mp h1;obtain⟨i1,i2⟩:=ih.mp h2;refine⟨`dj,`hp⟩
    ·rcases `st with rfl|hx
     ·exact k1
     ·exact i1 x hx
    ·rcases (cg y).mp hy with hy|hy
     ·exact k2 y hy
     ·exact i2 y hy
  ·rintro⟨h1,h2⟩
   exact `au (key.mpr ⟨h1 _ A5,λy hy=>h2 y (`aNl (`m hy))⟩) (ih.mpr ⟨λx hx=>h1 x `BI,λy hy=>h2 y (`aNl (`i hy))⟩)
theorem ja0{p q:Pt}(hp:`cG)(hq:Pw m q)(R:`kg):`Ms↔`z8/\(∀x∈p.vals.zip `tX,nl x)/\∀y∈gl (p.vals.zip `tX),`ab? :=
 ⟨λh=>⟨h.hd,(gb0 R (Ta.pc0 h.hd) hp.lv hq.lv).mp h.vs⟩,λh=>⟨h.1,(gb0 R (Ta.pc0 h.1) hp.lv hq.lv).mpr h.2⟩⟩
theorem Lk.mono{R:`kg}{p q:Pt}(h:`Ms)(k:∀i j,i∈`iZ->j∈tgs `tX->R i j->S i j):Lk S p q :=
 ⟨h.hd,h.vs.mono λa ha b hb r=>r.imp (λ⟨i,j,e1,e2,r⟩=>⟨i,j,e1,e2,k i j (tj0 (show lnk i∈`d4 from e1▸ha)) (tj0 (show `l5∈`tX from e2▸hb)) r⟩) id⟩
theorem Lk.symm{R:`kg}{p q:Pt}(h:`Ms)(k:∀i j,R i j->S j i):Lk S q p :=
 ⟨h.hd.symm,h.vs.symm λa b r=>r.imp (λ⟨i,j,e1,e2,r⟩=>⟨j,i,e2,e1,k i j r⟩) λ⟨e,t⟩=>⟨`rn,e▸t⟩⟩
theorem Lk.trans{R T:`kg}{p q r:Pt}(h:`Ms)(h':Lk S q r)(k:∀i j l,R i j->S j l->T i l):Lk T p r :=
 ⟨h.hd.trans h'.hd,h.vs.trans (λa b c x y=>by
  rcases x with⟨i,j,rfl,rfl,x⟩|⟨rfl,t⟩
  ·rcases y with⟨j',l,e,rfl,y⟩|⟨_,t⟩
   ·have:=vf0 e;subst this
    exact `m ⟨i,l,rfl,rfl,k _ _ _ x y⟩
   ·cases t
  ·rcases y with⟨j',l,rfl,rfl,y⟩|⟨rfl,_⟩
   ·cases t
   ·exact `i ⟨rfl,t⟩) h'.vs⟩
noncomputable def A(ps qs:`o)(a b:Nat):Prop:=`Aq/\b<`bj/\∀x,`aNm->`Sl
theorem ai0{ps qs:`o}{x y z:`ac}(h:Rch ps qs x y)(h':Rch ps qs y z):Rch ps qs x z:=by
 induction h' with
 | top=>exact h
 | go _ g ih=>exact .go ih g
theorem Pt0{vs ws:`p}(hv:∀v∈vs,`cn)(hw:∀w∈ws,`l6){y:`ac}(hy:y∈`ab!):y.1<n/\y.2<m:=by
 obtain⟨u,hu,e⟩:=`sd hy;obtain⟨h1,h2⟩:=N0 (show `akM∈`w_ from hu);rcases zb0 (hv _ h1) (hw _ h2) with⟨i,j,hi,hj,_,_,e2⟩|⟨e2,_⟩
 ·rw[`aNn,e] at e2;cases e2;exact`aLW
 ·rw[`aNn,e] at e2;cases e2
theorem A.lk{ps qs:`o}(hp:`D)(hq:`aw){a b:Nat}(h:`tZ):Lk (A ps qs) `pm `Mt:=by
 have p1:=(j4 hp h.1).2;have p2:=(j4 hq `zB).2;refine(ja0 p1 p2 _).mpr ⟨(`aNo).1,(`aNo).2,`hp⟩;obtain⟨i1,i2⟩:=Pt0 p1.lv p2.lv hy;exact⟨i1,i2,λx hx=>h.2.2 x (ai0 (.go `l0 hy) hx)⟩
theorem A.of{ps qs:`o}(hp:`D)(hq:`aw)(R:`kg)(h:∀a b,`tY->`Aq/\b<`bj/\Lk R `pm `Mt){a b:Nat}(r:`tY):`tZ:=by
 have go:∀x,`aNm->R x.1 x.2:=λx hx=>by
  induction hx with
  | top=>exact r
  | @go q x _ g ih =>
   obtain⟨h1,h2,h3⟩:=h _ _ ih;exact(`aNp).2.2 x g
 refine⟨(h a b r).1,(h a b r).2.1,`dj⟩;obtain⟨h1,h2,h3⟩:=h _ _ (go x hx);have:=`aNp;exact⟨this.1,`v3⟩
theorem A.symm{ps qs:`o}(hp:`D)(hq:`aw){a b:Nat}(h:`tZ):A qs ps b a :=
 A.of hq hp (λb a=>`tZ) (λb a r=>⟨r.2.1,r.1,(`aNq).symm λi j z=>z⟩) h
theorem A.trans{ps qs rs:`o}(hp:`D)(hq:`aw)(hr:Web rs){a b c:Nat}(h:`tZ)(h':`aNr):A ps rs a c :=
 A.of hp hr (λa c=>∃b,`tZ/\`aNr) (λa c ⟨b,r,s⟩=>⟨r.1,s.2.1,(`aNq).trans (s.lk hq hr) λi j l z z'=>⟨j,z,z'⟩⟩) ⟨b,h,h'⟩
theorem nr0{p:Pt}(h:`cG)(hj:j∈`iZ):j<n:=h70 `oc j hj
theorem Tn0{p q:Pt}(h:`z8){vs:`p}(hl:`bm=`aKD):`q7=`aNs:=by
 have:=rr0 (p:=p) (q:=`aNs) (by rw[oc0 q vs hl];exact h)
 rwa [xq0 q vs hl] at this
theorem ou0{p q:Pt}(hp:`cG)(hq:Pw m q)(f g:`aJ):`ob=rel g q↔Lk (`aca) p q:=by
 have key:∀{vs ws:`p},`LI->`aNh->(`qF `lR=ws.map (lkv g)↔F2 (Mv `aca) vs ws):=λ{vs}=>by
  induction vs with
  | nil =>
   intro ws _ _;cases ws with
   | nil=>exact⟨λ_=>`ae,`lS⟩
   | cons=>exact`aNt
  | cons v vs ih =>
   intro ws hv hw;cases ws with
   | nil=>exact`aNt
   | cons w ws =>
    have i:=ih (ws:=ws) `aNi `aNj
    have k:`En=lkv g w↔Mv (`aca) v w:=by
     rcases `J3 with rfl|⟨z,rfl⟩|⟨a,rfl,_⟩<;>rcases hw w A5 with rfl|⟨y,rfl⟩|⟨b,rfl,_⟩
     ·exact⟨λ_=>`sk,`lS⟩
     ·exact`aNu
     ·exact`aNv
     ·exact`aNu
     ·exact⟨λh=>`i ⟨h,rfl⟩,λh=>by rcases h with⟨i,j,e,_⟩|⟨e,_⟩;cases e;exact e⟩
     ·exact`aNv
     ·exact`aNw
     ·exact`aNw
     ·rw[K3,K3]
      constructor
      ·intro h;exact `m ⟨a,b,rfl,rfl,vf0 h⟩
      ·rintro (⟨i,j,e1,e2,r⟩|⟨_,z⟩)
       ·have:=vf0 (i:=a) (j:=i) e1
        have:=vf0 (i:=b) (j:=j) e2
        subst_vars;rw[r]
       ·cases z
    rw[`al,`al,List.cons_eq_cons,k,i];exact⟨λh=>`au h.1 h.2,λh=>by cases h with|cons a b=>exact⟨a,b⟩⟩
 constructor
 ·intro h
  have h1:=tb0 f p;have h2:=xu0 f p;rw[h,tb0] at h1;rw[h,xu0] at h2;exact⟨h1.symm,(`aNx).mp h2.symm⟩
 ·intro h
  have:=(`aNx).mpr h.vs;unfold rel;rw[`u];exact Tn0 h.hd `wP
theorem oh0{p:Pt}(h:`cG):rel `Ai p=p:=by
 unfold rel;rw[show `ajR (lkv `E8)=`d4 from (P5 (g:=id) λv hv=>na0 v (`tI)).trans (List.map_id _)];exact rr0 rfl
theorem A.map{ps qs:`o}(hp:`D)(hq:`aw)(r:`t4)(f:`aJ)(h:∀a,r a->`Aq/\f a<`bj/\pa qs (f a)=rel f `pm/\∀j∈tgs (`Fb).vals,r j){a:Nat}(ha:r a):A ps qs a (f a):=by
 refine A.of hp hq (λa b=>r a/\b=f a) (λa b hq142=>?_) ⟨ha,rfl⟩;obtain⟨ra,e⟩:=hq142;subst e;obtain⟨h1,h2,h3,h4⟩:=h a ra;refine⟨h1,h2,?_⟩;have:=(ou0 `SI `SJ f `E8).mp (by rw[oh0 `SJ];exact h3.symm);exact this.mono λi j hi _ e=>⟨h4 i hi,`rn⟩
universe Ka
namespace Ka
open DL W K22
open Ta (pa j4)
section
variable{X Y:Type}
noncomputable def fk(L:`bl):`k->`k->`k
 | F,[]=>F
 | F,`iq=>@ite _ `Ar (`TK _) (`i2) (`aNy)
noncomputable def ix(L:`bl)(k:Nat):`k->Nat
 | []=>0
 | b::F=>@ite _ (`rC) (`TK _) 0 (`it+1)
theorem y40{L:`bl}{k:Nat}(h:`ip):`aNz=`i2:=by
 rw[fk];exact `iH
theorem z50{L:`bl}{k:Nat}(h:¬`ip):`aNz=`aNy:=by
 rw[fk];exact `rZ
theorem yh0{L:`bl}{k b:Nat}(h:`rC):`aNA=0:=by
 rw[ix];exact `iH
theorem yt0{L:`bl}{k b:Nat}(h:L b≠L k):`aNA=`it+1:=by
 rw[ix];exact `rZ
theorem n90(L:`bl):∀(r s F:`k),fk L F (r++s)=fk L (`i2) s
 | [],s,F=>rfl
 | `iq,s,F=>by
  by_cases h:`ip
  ·rw[`ds,y40 h,y40 h];exact n90 L r s F
  ·rw[`ds,z50 h,z50 h];exact n90 L r s _
theorem om0(L:`bl):∀(r F:`k),∃s,`i2=F++s
 | [],F=>⟨[],(i6 F).symm⟩
 | `iq,F=>by
  by_cases h:`ip
  ·rw[y40 h];exact om0 L r F
  ·rw[z50 h]
   obtain⟨s,e⟩:=om0 L r `Fd;exact⟨k::s,`aj3⟩
theorem jd0(L:`bl):∀(r F:`k) (x:Nat),x∈`i2->x∈F∨x∈r
 | [],F,x,h=>`m9
 | `iq,F,x,h=>by
  by_cases c:`ip
  ·rw[`pn] at h;exact(jd0 L r F x h).imp id `SM
  ·rw[`po] at h
   rcases jd0 L r _ x h with z|z
   ·rcases `db z with z|z
    ·exact `jr
    ·exact `i (by rw[`fz z];exact A5)
   ·exact `i `aaF
theorem cm0(L:`bl)(r F:`k){x:Nat}(h:x∈F):x∈`i2:=by
 obtain⟨s,e⟩:=om0 L r F;rw[e];exact E1 _ h
theorem wd0(L:`bl):∀(r F:`k) (k:Nat),k∈r->∃b,b∈`i2/\`rC
 | [],F,k,h=>by cases h
 | a::r,F,k,h=>by
  by_cases c:`aNB
  ·rw[`pn]
   rcases `oe with rfl|h
   ·obtain⟨b,hb,e⟩:=c;exact⟨b,cm0 L r F hb,e⟩
   ·exact wd0 L r F k h
  ·rw[`po]
   rcases `oe with rfl|h
   ·exact⟨k,cm0 L r _ `Q,rfl⟩
   ·exact wd0 L r _ k h
noncomputable def Un(L:`bl)(F:`k):Prop:=F.Pairwise λa b=>L a≠L b
theorem dc0(L:`bl):∀(r F:`k),`Mu->Un L (`i2)
 | [],F,h=>h
 | `iq,F,h=>by
  by_cases c:`ip
  ·rw[`pn];exact dc0 L r F h
  ·rw[`po]
   refine dc0 L r _ (`s3 ⟨h,`Yt,`Yu⟩);rw[`C8];exact λe=>c ⟨a,ha,e⟩
theorem o90{L:`bl}(h:`Mu):F.Nodup:=`Fa λz e=>z (by rw[e])
theorem ag0{L:`bl}:∀{F:`k},`Mu->∀a∈F,∀b∈F,`xn->a=b
 | [],_,a,ha,_,_,_=>by cases ha
 | `mV,h,a,ha,b,hb,e=>by
  rw[Un,`acb] at h;rcases `bU ha with q1|q1<;>rcases `bU hb with q2|q2
  ·rw[q1,q2]
  ·exact `L (q1▸e) (h.1 b q2)
  ·exact `L (q2▸`rn) (h.1 a q1)
  ·exact ag0 h.2 a q1 b q2 e
theorem ko0{L:`bl}{k:Nat}:∀{F:`k},`Ar->∃h:`it<`ir,L F[`it]=L k
 | [],`aNC=>by cases h
 | `mV,h=>by
  by_cases c:`acc
  ·refine⟨by rw[`pp];exact Ej0 _,?_⟩
   simp only[`pp,`TP];exact c
  ·obtain⟨b,hb,e⟩:=h
   have J:`l7:=`aND
   obtain⟨i1,i2⟩:=ko0 (L:=L) (k:=k) (F:=F) ⟨b,J,e⟩;refine⟨by rw[`pq,`a0];omega,?_⟩;simp only[`pq,`acd];exact i2
theorem W70{L:`bl}:∀{F:`k} (h:`Mu) {i:Nat} (hi:i<`ir),ix L F[i] F=i
 | [],_,i,hi=>by cases hi
 | `mV,h,0,hi=>yh0 rfl
 | `mV,h,i+1,hi=>by
  rw[Un,`acb] at h;rw[`acd,yt0 (h.1 _ (C0 _)),W70 h.2]
theorem an0{L:`bl}{k:Nat}(s:`k):∀{F:`k},`Ar->ix L k (F++s)=`it
 | [],`aNC=>by cases h
 | `mV,h=>by
  rw[`ds]
  by_cases c:`acc
  ·rw[`pp,`pp]
  ·obtain⟨b,hb,e⟩:=h
   rw[`pq,`pq,an0 s ⟨b,`aND,e⟩]
theorem Po0{L:`bl}{a b:Nat}:∀{F:`k},(∃c,c∈F/\L c=L a)->(`aNE)->(ix L a F=ix L b F↔`xn):=by
 intro F ha hb;constructor
 ·intro h
  obtain⟨h1,e1⟩:=ko0 ha;obtain⟨h2,e2⟩:=ko0 hb;rw[← e1,← e2];simp only[h]
 ·intro h
  clear ha hb
  induction F with
  | nil=>rfl
  | cons x F ih =>
   by_cases c:L x=L a
   ·rw[`pp,yh0 (c.trans h)]
   ·rw[`pq,yt0 λz=>c (z.trans h.symm),ih]
theorem pq0{L:`bl}{M:`pr}:∀(r F:`k),(∀a,a∈F∨`fH->∀b,`l7∨`t_->`Mv)->`i2=fk M F r
 | [],F,_=>rfl
 | `iq,F,h=>by
  have e:`Ar↔∃b,`l7/\M b=M k:=`aNF λb=>`aNG λhb=>h b `Fo k (`i A5)
  by_cases c:`ip
  ·rw[`pn,y40 (e.mp c)]
   exact pq0 r F λa ha b hb=>h a (`aNH) b (hb.imp id `SM)
  ·rw[`po,z50 `aNI]
   have up:∀a,a∈`Fc∨`fH->a∈F∨a∈`iq:=λa ha=>by
    rcases ha with ha|ha
    ·rcases `Yv with ha|ha
     ·exact `ace
     ·exact `aNJ
    ·exact `i `rB
   exact pq0 r _ `acf
theorem pw0{L:`bl}{M:`pr}{k:Nat}:∀{F:`k},(∀a∈F,L a=L k↔M a=M k)->`it=ix M k F
 | [],_=>rfl
 | `mV,h=>by
  have e:=h x A5
  by_cases c:`acc
  ·rw[`pp,yh0 (e.mp c)]
  ·rw[`pq,yt0 `aNI,pw0 `aNK]
theorem tq0{L:`bl}{M:`pr}:∀(r F G:`k),(∀a,`aNL->∀b,b∈G∨`t_->`acg)->(∀x∈F,x∈G)->(∀b∈G,`aNE)->∀x∈`i2,x∈fk M G r
 | [],F,G,_,hs,_=>hs
 | `iq,F,G,h,hs,hc=>by
  have tail:∀a,`aNL->`aNM:=λa ha=>`aNH
  have up:∀a,a∈G++[k]∨`fH->`aNM:=λa ha=>by
   rcases ha with ha|ha
   ·rcases `Yv with ha|ha
    ·exact `ace
    ·exact `aNJ
   ·exact `i `rB
  by_cases c:`ip
  ·rw[`pn]
   by_cases d:`aNN
   ·rw[y40 d]
    exact tq0 r F G (λa ha b hb=>h a (tail a ha) b (tail b hb)) hs hc
   ·rw[z50 d]
    refine tq0 r F _ (`acf) (λx hx=>`aNO) `fM
    rcases `db hb with hb|hb
    ·exact `ach
    ·rw[`C8];exact c
  ·have d:¬`aNN:=λ⟨b,hb,e⟩=>c (by
    obtain⟨x,hx,e2⟩:=`ach;exact⟨x,hx,`akn (h b `Fo k (`i A5) e)⟩)
   rw[`po,z50 d];refine tq0 r _ _ (`acf) `zl `fM
   ·rcases `iL with hx|hx
    ·exact `aNO
    ·exact `Kd
   ·rcases `db hb with hb|hb
    ·obtain⟨x,hx,e⟩:=`ach;exact⟨x,`zj,e⟩
    ·exact⟨b,D3 _ hb,rfl⟩
noncomputable def gp(L:`bl)(r:`k)(k:Nat):Nat:=ix L k (`mW)
theorem vb0(L:`bl){a b:Nat}(ha:`fH)(hb:`t_):gp L r a=gp L r b↔`xn:=Po0 (wd0 L r [] a ha) (wd0 L r [] b hb)
theorem v40(L:`bl)(r:`k):Un L (`mW):=dc0 L r [] `Hu
theorem O8(L:`bl){x:Nat}(h:x∈`mW):x∈r:=(jd0 L r [] x h).resolve_left `Q
theorem k90{L:`bl}{M:`pr}(h:∀a∈r,∀b∈r,`Mv):`mW=`As:=pq0 r [] `aNP
theorem Yj0{L:`bl}{M:`pr}(h:∀a∈r,∀b∈r,`Mv){k:Nat}(hk:k∈r):gp L r k=gp M r k:=by
 unfold gp;rw[k90 h];exact pw0 λa ha=>h a (O8 M ha) k hk
theorem ap0{L:`bl}{M:`pr}(h:∀a∈r,∀b∈r,`acg):∀x∈`mW,x∈`As :=
 tq0 r [] [] (`aNP) `JU λx hx=>by cases hx
theorem sub_len'{l m:`k}(hn:`aaE)(hs:∀x∈l,x∈m):`aJb:=`l2 hn hs
theorem gx0{L:`bl}{M:`pr}(h:∀a∈r,∀b∈r,`acg)(hl:(`As).length<=(`mW).length):∀a∈r,∀b∈r,`Mv:=by
 have sub:=ap0 h;have back:∀x∈`As,x∈`mW:=λx hx=>Em0 λhn=>by
  have nd:(x::`mW).Nodup:=`Sk ⟨hn,o90 (v40 L r)⟩;have:=sub_len' nd (m:=`As) λy hy=>by
   rcases `KY with rfl|hy
   ·exact hx
   ·exact sub y hy
  rw[`a0] at this;omega
 intro a ha b hb;refine⟨λe=>?_,h a ha b hb⟩;obtain⟨a',J,ea⟩:=wd0 M r [] a ha;obtain⟨b',O,eb⟩:=wd0 M r [] b hb;have i1:=h a' (O8 M J) a ha ea;have i2:=h b' (O8 M O) b hb eb;have:=ag0 (v40 L r) a' (back a' J) b' (back b' O) (i1.trans (`Ci i2.symm));rw[← ea,← eb,`u]
universe zz
universe Ka
namespace Ka
open DL W K22
open Ta (pa j4)
open La (zp nI Rch okp)
open Ua (Met dr Iso yr0 xu0 tb0 qg0 uj0 fx0 cf0 yq0 j70)
theorem map_inj{X Y:Type}{f:X->Y}(h:∀a b,`Sr):∀{l m:`Z X},`c1 f=m.map f->l=m
 | [],[],_=>rfl
 | [],`bh,e=>by cases e
 | `bh,[],e=>by cases e
 | a::l,b::m,e=>by
  rw[`al,`al] at e;injection e with e1 e2
  rw[h a b e1,`Fe h e2]
theorem Z40(a b:`QO)(h:pr a=pr b):a=b:=by
 unfold pr at h;injection h with h;injection h with h1 h;injection h with h2 _;injection h1 with h1
 exact L4 h1 h2
theorem dd0(p q:Pt)(h:p.d=q.d):p=q:=by
 cases p<;>cases q<;>unfold Pt.d at h<;>injection h with h<;>first
  | (injection h with h1 _;injection h1 with h1;exact `aNe)
  | skip
 ·injection h with _ h;injection h with h _;injection h with h;rw[h]
 ·injection h with _ h;injection h with h _;injection h with h;rw[h]
 ·injection h with _ h;injection h with h _;injection h with h;rw[`aNQ]
 ·injection h with _ h;injection h with h1 h;injection h with h _;injection h with h;injection h1 with h1;rw[`aNQ,h1]
theorem bj0{ps qs:`o}(h:`aN=`cT):ps=qs:=by
 unfold wd at h;injection h with h
 exact `Fe dd0 h
noncomputable def L0(ps:`o)(k:Nat):D:=`c' `ET
noncomputable def Lg(ps:`o)(g:`aJ)(k:Nat):D:=(`akV).d
noncomputable def gs(ps:`o)(r:`k):Nat->`aJ
 | 0=>gp (L0 ps) r
 | n+1=>gp (`aNR) r
noncomputable def LL(ps:`o)(r:`k):Nat->`sY
 | 0=>L0 ps
 | n+1=>`aNR
theorem ve0(ps:`o)(r:`k)(n:Nat):`akO=gp `aNS r:=by cases n<;>rfl
theorem q00{ps:`o}(hp:`D){a b:Nat}(ha:`Aq)(hb:b<`P)(f g:`aJ):`aNT↔Lk (λi j=>g i=g j) `pm (pa ps b) :=
 ⟨λh=>(`aNU).mp (dd0 _ _ h),λh=>by unfold Lg;rw[(`aNU).mpr h]⟩
section
variable{ps:`o}
theorem wh0(hp:`D)(m:`a2){a:Nat}(ha:`fH)(hi:i∈tgs (`Fb).vals):`Al:=m.cl a ha i (by rw[yr0 hp (`xo)];exact hi)
theorem jg0(hp:`D)(m:`a2):∀(n:Nat),∀a∈r,∀b∈r,`akS=gs ps r `b2 b->`SO=gs ps r n b
 | 0,a,ha,b,hb,h=>by
  rw[ve0,`ps] at h;rw[ve0,`ps];exact(`aci h).hd
 | n+1,a,ha,b,hb,h=>by
  rw[ve0,`ps] at h;rw[ve0,`ps];refine`aNV ((`aci h).mono λi j hi hj e=>jg0 hp m n i (`acj) j (`ack) e)
noncomputable def cn(ps:`o)(r:`k)(n:Nat):Nat:=(fk `Ff [] r).length
theorem W90(hp:`D)(m:`a2)(n:Nat)(h:`SQ):`Mw<cn ps r `b2:=by
 refine Nat.lt_of_not_le λhl=>h `aIp
 have:=gx0 (jg0 hp m n) hl;rw[ve0 ps r `b2,ve0 ps r n];refine Yj0 (`Yu) hk;have h1:=vb0 (LL ps r `b2) ha hb;have h2:=vb0 `aNS ha hb;rw[← ve0] at h1 h2;rw[← h1,← h2];exact(`u a ha b hb).symm
theorem cc0(n:Nat):`Mw<=`am:=`l2 (o90 (v40 _ r)) λx hx=>O8 _ hx
theorem rounds(hp:`D)(m:`a2):∃N,N<=60/\`aNW:=by
 have key:∀d n,`am - `Mw<=d->n<=`Mw->(∀i,i<n->¬∀a∈r,gs ps r `a4 a=gs ps r i a)->∃N,N<=`am/\`aNW:=λd=>by
  induction d with
  | zero =>
   intro n h1 h2 h3;have:=`aNX;refine⟨n,`h,Em0 `acl,h3⟩;have:=`aNY;have:=cc0 (ps:=ps) (r:=r) `b2;omega
  | succ d ih =>
   intro n h1 h2 h3;have:=`aNX
   by_cases h:∀a∈r,`SP
   ·exact⟨n,`h,h,h3⟩
   ·have:=`aNY
    refine ih `b2 `d `d `qL
    by_cases e:i=n
    ·rw[e];exact h
    ·exact h3 i `d
 obtain⟨N,h1,h2⟩:=key `am 0 `d `d λi hi=>`L hi `d
 have:=`At;exact⟨N,`h,h2⟩
structure St(ps:`o)(r:`k)(g:`aJ):Prop where
 st:∀a∈r,gp `rD r a=g a
 co:∀a∈r,∀b∈r,`acm->`Mx
theorem Wc0(hp:`D)(m:`a2):∀(n:Nat),∀a∈r,∀b∈r,`acm->`SO=gs ps r n b
 | 0,a,ha,b,hb,h=>by rw[ve0,`ps];exact(`aNZ).hd
 | n+1,a,ha,b,hb,h=>by
  rw[ve0,`ps];exact`aNV ((`aNZ).mono λi j hi hj e=>Wc0 hp m n i (`acj) j (`ack) e)
theorem Pq0(hp:`D)(m:`a2){N:Nat}(h:∀a∈r,`akT):St ps r (gs ps r N):=⟨h,Wc0 hp m N⟩
variable{g:`aJ}
theorem St.eq(s:`gE){a b:Nat}(ha:`fH)(hb:`t_):`Mx↔`aNT:=by
 rw[← s.st a ha,← s.st b hb];exact `ps
theorem St.alike(hp:`D)(m:`a2)(s:`gE){a b:Nat}(ha:`fH)(hb:`t_):`Mx↔`acm:=by
 refine ⟨λh=>A.of hp hp (λa b=>`fH/\`t_/\`Mx) (λa b hq143=>?_) ⟨ha,hb,h⟩,s.co a ha b hb⟩;obtain⟨ha,hb,e⟩:=hq143;refine ⟨`xo,`akQ,?_⟩;exact(`aci ((`aN_).mp e)).mono λi j hi hj e=>⟨`acj,`ack,e⟩
noncomputable def fs(r:`k)(g:`aJ):`k:=fk g [] r
theorem St.fse(s:`gE):`ox=fk `rD [] r:=k90 λa ha b hb=>`aN_
theorem St.g_lt(s:`gE){a:Nat}(ha:`fH):∃h:g a<`kb,g `acn=g a:=by
 have:g a=`aN0:=by rw[s.fse];exact(s.st a ha).symm
 obtain⟨h1,h2⟩:=ko0 (L:=Lg ps g) (k:=a) (F:=`ox) (by rw[s.fse];exact wd0 _ r [] a ha);have hm:`xp[`aN0]∈r:=`My;refine⟨by rw[`u];exact h1,?_⟩;have e:=(`aN1).mpr h2;simp only[← `u] at e;exact e
theorem St.g_at(s:`gE)(hi:i<`kb):g `xs=i:=by
 have hm:`xs∈r:=O8 g `Ke;have:=s.st _ hm;unfold gp at this;rw[← s.fse,W70 (by rw[s.fse];exact v40 _ r) hi] at this;exact `aaC
noncomputable def ls(ps:`o)(r:`k)(g:`aJ):`o:=`aco
theorem rs0:`aN2=`kb:=Bm0 _
theorem ba0(hp:`D)(m:`a2):0<`kb/\`kb<=`am:=by
 refine⟨?_,`l2 (o90 (v40 g r)) λx hx=>O8 g hx⟩;obtain⟨b,hb,_⟩:=wd0 g r [] 0 `Mk;exact Ef0 hb
theorem q40(hp:`D)(m:`a2)(s:`gE):Web `l8:=by
 have l1:=`aN3;have l2:=`At;refine⟨by rw[rs0];omega,λp M=>?_⟩;rw[rs0];obtain⟨i,hi,rfl⟩:=`e_ M;have J:=O8 g hi;exact nj0 (j4 hp (`ou i J)).2 _ λj hj=>(s.g_lt (wh0 hp m J hj)).1
theorem W60(hp:`D)(m:`a2)(s:`gE){a:Nat}(ha:`fH):g a<`aN2/\`aN4=rel g `pm:=by
 obtain⟨h1,h2⟩:=s.g_lt ha;have hm:`acn∈r:=`My;refine⟨by rw[rs0];exact h1,?_⟩;have e:`aN4=rel g (pa ps `acn):=by
  unfold ls;rw[show pa (`aco) `Fh=(`aco).getD `Fh (.row []) from rfl];simp[h1]
 rw[e];exact dd0 _ _ ((`aN1).mp h2)
theorem ef0(m:`a2)(s:`gE):g 0=0:=by
 obtain⟨t,e⟩:=m.hd;have hn:¬∃b,b∈([]:`k)/\g b=g 0:=λhq144=>by obtain⟨b,hb,_⟩:=hq144;cases hb
 obtain⟨u,eu⟩:=om0 g t [0];have:`ox=0::u:=by
  unfold fs;rw[e,z50 hn];exact eu
 have k:=`Mz (i:=0) (by rw[`u];exact Ej0 _);simp only[`u,`TP] at k;exact k
theorem s50(hp:`D)(m:`a2)(s:`gE){a:Nat}(ha:`fH):A ps `l8 a `Fh :=
 `lW hp (`MA) (·∈r) g (λa ha=>⟨`xo,(`aN5).1,(`aN5).2,`aN6⟩) ha
theorem la0(hp:`D)(m:`a2)(s:`gE)(h:A `l8 `l8 i j):i=j:=by
 have wl:=`MA;have h1:i<`kb:=by rw[← `aN7];exact h.1
 have h2:j<`kb:=by rw[← `aN7];exact `zB
 have a1:=s50 hp m s (`My);have a2:=s50 hp m s (O8 g (C0 h2));have e1:=`Mz h1;have e2:=`Mz h2;rw[e1] at a1;rw[e2] at a2;have:=(s.alike hp m (`My) (O8 g (C0 h2))).mpr ((`Mq hp wl wl h).trans hp wl hp (a2.symm hp wl));rw[e1,e2] at this;exact `u
universe zz
theorem Vt0{ps:`o}(m:`a2)(P:`t4)(h0:P 0)(h:∀i∈r,P i->∀j∈`tH,P j):∀i∈r,P i:=by
 obtain⟨c,d,_⟩:=m.ex;have key:∀{c:Nat} {o T s:`k},Dfs `Et [] c o T s->(∀x∈s,x∈r)->(∀x∈o,P x)->`aJC->∀x∈s,P x:=λ{c o T s} d=>by
  induction d with
  | nil o=>intro _ h1 _;exact h1
  | skip _ _ ih=>intro hs h1 h2;exact ih hs h1 λx hx=>h2 x `BI
  | @visit c o T s x hx _ _ hd ih =>
   intro hs h1 h2;obtain⟨u,e⟩:=Ua.ei0 hd;have px:=h2 x A5;refine ih hs (`hp) `hp
   ·rcases `tf with hy|hy
    ·exact h1 y hy
    ·rw[`RK];exact px
   ·rcases `tf with hy|hy
    ·exact h x (hs x (`NF)) px y hy
    ·exact h2 y `Ek
 exact key d (`L!) `JU λx hx=>by rw[`yN];exact h0
theorem d90{ps qs:`o}(hp:`D)(hq:`aw)(up:∀i j,A ps ps i j->i=j)(uq:∀i j,A qs qs i j->i=j)(h:`Au){s:`k}(mp:`a2)(mq:Met qs s)(hs:∀s',Met qs s'->dr qs s'=dr qs s):`rz=dr qs s:=by
 have ex:∀i∈r,∃j,`acp:=Vt0 mp _ ⟨0,h⟩ λi hi hq145 k hk=>by
  obtain⟨j,a⟩:=hq145
  rw[`aN8] at hk;have l:=(a.lk hp hq).vs;have key:∀{vs ws:`p},F2 (Mv (A ps qs)) vs ws->∀k∈`iY,∃j,A ps qs k j:=λ{vs ws} f=>by
   induction f with
   | nil=>intro k hk;cases hk
   | @cons a b l m h1 _ ih =>
    intro k hk;rcases h1 with⟨i,j,rfl,rfl,q⟩|⟨rfl,t⟩
    ·rw[show Ea.lnk i=`wS from rfl,nq0] at hk
     rcases `bU hk with rfl|hk
     ·exact⟨j,q⟩
     ·exact ih k hk
    ·refine ih k ?_
     cases a with
     | tup l=>cases t
     | _=>exact hk
  exact key l k hk
 obtain⟨f,hf⟩:=En0 (r:=λi j=>`Al->`acp) λi=>by
  by_cases hi:`Al
  ·obtain⟨j,a⟩:=ex i hi;exact⟨j,λ_=>a⟩
  ·exact⟨0,λz=>`L z hi⟩
 have one:∀{i j:Nat},`Al->`acp->j=f i:=λ{i j} hi a=>uq j `E6 ((a.symm hp hq).trans hq hp hq (`SR))
 have I:`aMC:=by
  refine⟨λi hi=>⟨`aN9,?_⟩,`aMH,(one mp.zero h).symm⟩
  ·have pw:=j4 hq `aN9
   have:=(ou0 (j4 hp (mp.lt i hi)).2 pw.2 f `E8).mpr (((`SR).lk hp hq).mono λk j hk _ a=>(one (mp.cl i hi k (by rw[`aN8];exact hk)) a).symm);rw[oh0 pw.2] at this;exact `aaC
  ·have h1:=hf a ha
   rw[e] at h1;exact up a b (`agp hp hq hp ((`k3).symm hp hq))
 obtain⟨i1,i2⟩:=fx0 hp hq mp I;rw[← i2];exact hs _ i1
theorem gq0{ps:`o}(hp:`D)(m:`a2):A ps `rA 0 0:=by
 have I:=cf0 hp m;have:=`lW hp (`Su).1 (·∈r) `Mh (λa ha=>⟨`xo,(`aN').1,(`aN').2,`aN6⟩) `Mk;have z:`od 0=0:=I.zero;rw[z] at this;exact `u
universe Ka
namespace Ka
open DL W
section
noncomputable def p20:GS:=(v9 (d9 (oA (z9 `U `l9) ys0))
 o4)
noncomputable def pa0:`t:=`MB
noncomputable def ww0:`K:=mkF 2 pa0 p20
noncomputable def lr0:GS:=(v9 (Yf0 2)
 (v9 `_0
 (v9 (J1 (sa0 `l9) `Lm
 (v9 `aN!
 o4))
 (v9 `__
 o4))))
noncomputable def k80:`t:=[`oA, "looks", `rJ, `xx, "k", "look"]
noncomputable def zx0:`K:=mkN 2 k80 lr0
noncomputable def sn0:GS:=(v9 (m5 `d3 (oA (z9 `ax (z9 (Y0 1 [0] `SS `a6 noT `aN?) v7)) zx0))
 (v9 `acq
 (v9 (S8 `aOa
 (v9 (m5 `d3 `bc)
 (v9 `acq
 o4)) 100000)
 (v9 (d9 `bi)
 o4))))
noncomputable def y60:`t:=[`cR, `oA, `xx, "finer"]
noncomputable def xm0:`K:=mkF 2 y60 sn0
noncomputable def fs0:GS:=(v9 (m5 `SV (oA `h! λds=>wv0 (ds++`ka)))
 (v9 (m5 `d3 (oA `l9 xm0))
 (v9 `_0
 (v9 (J1 `SS `d6
 (v9 `aOb
 o4))
 (v9 (d9 (xr0 (oA (z9 (oA (z9 (Y0 1 [0,2,3] (O1 `aOc) `a6 noT `aOd) v7) Q3) v7) λds=>wq0 (ds++`ka))))
 o4)))))
noncomputable def mp0:`t:=[`cR, `oA, `xx, `aly, "k"]
noncomputable def W3:`K:=mkF 1 mp0 fs0
noncomputable def sp0:GS:=(v9 (m5 `d3 (Y0 1 [0] `DY `a6 noT `aOe))
 (v9 (d9 (o2 `U (oA (z9 (Y0 1 [2] `aOf `a6 noT `S!) v7) Q3) Z3))
 o4))
noncomputable def xg0:`t:=[`l4, `ow, `TB]
noncomputable def z40:`K:=mkF 2 xg0 sp0
noncomputable def v80:GS:=(v9 `aMX
 (v9 `aMY
 (v9 (ifD `aMZ
 (v9 `aM_
 o4)
 o4)
 (v9 `aM0
 o4))))
noncomputable def v70:`t:=`aM1
noncomputable def zi0:`K:=mkF 3 v70 v80
noncomputable def Wm0:GS:=(v9 `aOg
 (v9 `aOh
 (v9 `aOi
 (v9 `aOj
 (v9 (ifD `acr
 (v9 `acs
 o4)
 (v9 (ifD `act
 (v9 `fW
 o4)
 o4)
 o4))
 (v9 `aOk
 (v9 `aOl
 (v9 `aOm
 (v9 (ifD (zm0 (ob (o2 `acu (o2 `ak4 `ak6 W7) W7)) (ob (o2 `acu (o2 `jV `jU s90) W7)))
 (v9 `fW
 o4)
 o4)
 (v9 (ifD (ob `acu)
 (v9 (d9 (oA (z9 `bc (z9 `bb `Q0)) zi0))
 o4)
 o4)
 (v9 (ifD (zm0 (nt0 (ob (oA (z9 `bW `DQ) ww0))) (ob (o2 (Z8 `ak9) `cA (ge0 `b))))
 (v9 `fW
 o4)
 o4)
 (v9 (N7 8 `ayk)
 (v9 (J1 `aOn `wo
 (v9 `aOo
 o4))
 (v9 (Tq0 8 (J1 `aOn `wo
 (v9 `aOp
 (v9 (ifD `aOq
 (v9 `fW
 o4)
 o4)
 o4))))
 (v9 (d9 `DK)
 o4)))))))))))))))
noncomputable def od0:`t:=[`lI, "_law_base", `xy, `l4, `ow, "_law_beside_here", `Lq, `SA, `alK, `TC, "_law_more"]
noncomputable def qo0:`K:=mkF 1 od0 Wm0
universe zz
universe Ka
namespace Ka
open DL W K22
open Ta (pa j4)
open La (nI)
open Ua (Met dr)
mutual
theorem e90:∀(d d':D) (t:`dW),`Lb->toT d'=`a t->d=d'
 | `A,d',t,e,e'=>by
  unfold toT at e;cases e;cases d'<;>unfold toT at e'<;>first|rfl|cases e'|skip
  obtain⟨_,_,z⟩:=`t0;cases z
 | `ap,d',t,e,e'=>by
  unfold toT at e;cases e;cases d'<;>unfold toT at e'<;>first|(cases e';rfl)|cases e'|skip
  obtain⟨_,_,z⟩:=`t0;cases z
 | `cV,d',t,e,e'=>by
  unfold toT at e;cases e;cases d'<;>unfold toT at e'<;>first|(cases e';rfl)|cases e'|skip
  obtain⟨_,_,z⟩:=`t0;cases z
 | `bO,d',t,e,e'=>by
  unfold toT at e;obtain⟨l,e1,e2⟩:=`Lc;subst e2;cases d' with
  | tup es =>
   unfold toT at e';obtain⟨l',e3,e4⟩:=`t0;cases e4;rw[ii0 ds es l e1 e3]
  | _=>unfold toT at e';cases e'
 | `cq,d',t,e,_=>by unfold toT at e;cases e
 | `iz,d',t,e,_=>by unfold toT at e;cases e
 | `iI,d',t,e,_=>by unfold toT at e;cases e
 | `iJ,d',t,e,_=>by unfold toT at e;cases e
theorem ii0:∀(ds es:`p) (l:`iy),`_K->R6 es=`a l->ds=es
 | [],es,l,e,e'=>by
  unfold R6 at e;cases e;cases es with
  | nil=>rfl
  | cons d es =>
   unfold R6 at e';cases e1:`wa with
   | none=>rw[e1] at e';cases e'
   | some t =>
    rw[e1,`w] at e';obtain⟨_,_,z⟩:=`t0;cases z
 | `aC,es,l,e,e'=>by
  unfold R6 at e;cases e1:`wa with
  | none=>rw[e1] at e;cases e
  | some t =>
   rw[e1,`w] at e;obtain⟨m,e2,e3⟩:=`Lc;subst e3;cases es with
   | nil=>unfold R6 at e';cases e'
   | cons d' es =>
    unfold R6 at e';cases e4:toT d' with
    | none=>rw[e4] at e';cases e'
    | some t' =>
     rw[e4,`w] at e';obtain⟨m',e5,e6⟩:=`t0;cases e6;rw[e90 d d' t e1 e4,ii0 ds es m e2 e5]
end
noncomputable def Tr(k:Nat)(d:D):Prop:=∃t,`Lb/\`AS t<=k
theorem Tr.mono{k l:Nat}(h:k<=l){d:D}(x:Tr k d):Tr l d:=let ⟨t,e,q⟩:=x;⟨t,e,C4 q h⟩
theorem yk0(s:Str):Tr 0 `Lu:=⟨`qY,`acv,`aOr⟩
theorem iy0(i:Int):Tr 0 `dw:=⟨`ap,`acv,`aOr⟩
theorem w00{k:Nat}(h:∀d∈ds,Tr k d):Tr `cf `p?:=by
 have key:∀ds:`p,(∀d∈ds,Tr k d)->∃l,`_K/\TrK.tz0 l<=k:=λds=>by
  induction ds with
  | nil=>intro _;exact⟨[],`aFH,by unfold TrK.tz0;exact `eW⟩
  | cons d ds ih =>
   intro h;obtain⟨t,e1,q1⟩:=`zK;obtain⟨l,e2,q2⟩:=`aa1
   refine⟨`iw,by unfold R6;rw[e1,`w,e2];rfl,?_⟩;unfold TrK.tz0;omega
 obtain⟨l,e,q⟩:=key ds h;refine⟨`gG,by unfold toT;rw[e];rfl,?_⟩;unfold TrK.dep;omega
theorem Wj0{v:D}(h:`cn):Tr 1 v:=by
 rcases h with rfl|⟨z,rfl⟩|⟨j,rfl,_⟩
 ·exact⟨`A,`acv,by unfold TrK.dep;omega⟩
 ·exact(iy0 z).mono `d
 ·refine w00 (k:=0) `aki
  rcases `bU hd with rfl|hd
  ·exact yk0 _
  ·rw[`fz hd];exact iy0 _
theorem ac0{ps:`ed}(h:∀p∈ps,Lv n p.2):Tr 3 `Ec:=w00 (k:=2) λd hd=>by
 obtain⟨p,hp,rfl⟩:=`dR;refine w00 (k:=1) `wR
 rcases `eM with rfl|he
 ·exact`pt
 ·rw[`i1];exact Wj0 (h p hp)
theorem Or0{p:Pt}(h:`cG):Tr 8 p.d:=by
 have two:`aOs:=λs d x=>(w00 (k:=3) λe he=>by
  rcases `eM with rfl|he
  ·exact`pt
  ·rw[`i1];exact x).mono `d
 cases p with
 | text w=>exact `aOt
 | row vs=>exact two _ _ ((w00 (k:=1) λv hv=>Wj0 (`tI)).mono `d)
 | table ps=>exact two _ _ (`aOu)
 | rcd c ps =>
  refine`aOv;rcases `eM with rfl|he
  ·exact`pt
  ·rcases `eM with rfl|he
   ·exact`pt
   ·rw[`i1];exact `aOu
theorem P80(p:Pt):Tr 8 (`oj):=by
 have nm:∀l:`t,Tr 3 (`x (`c1 `mQ)):=λl=>(w00 (k:=0) λd hd=>by obtain⟨s,_,rfl⟩:=`dR;exact yk0 s).mono `d
 have two:`aOs:=λs d x=>(w00 (k:=3) λe he=>by
  rcases `eM with rfl|he
  ·exact`pt
  ·rw[`i1];exact x).mono `d
 cases p with
 | text w=>exact `aOt
 | row vs=>exact two _ _ ((iy0 _).mono `d)
 | table ps=>exact two _ _ (nm _)
 | rcd c ps =>
  refine`aOv;rcases `eM with rfl|he
  ·exact`pt
  ·rcases `eM with rfl|he
   ·exact`pt
   ·rw[`i1];exact nm _
theorem S90(p:Pt):∃ds,`oj=`bO:=`aOw
theorem Q90(p:Pt):∃ds,p.d=`bO:=`aOw
theorem jb0{L:`sY}{t:`aOx}:∀{F:`k},(∀k∈F,toT `Fn=`a `Fk)->R6 (`Fl)=`a (`oy t)
 | [],_=>by rw[`fy,`fy];unfold R6;rfl
 | k::F,h=>by
  rw[`al,`al];unfold R6;rw[h k A5,`w,jb0 `aNK];rfl
theorem l20{t:`aOx}{k:Nat}:∀(F:`k) (s:Nat),((`acw)->`aOy=`a (`e ((s+ix t k F:Nat):Int)))/\((¬`acw)->`aOy=`c)
 | [],s=>⟨(λhq146=>by obtain⟨_,h,_⟩:=hq146;cases h),λ_=>by rw[`fy];unfold xo0;rfl⟩
 | `mV,s=>by
  have ih:=l20 (t:=t) (k:=k) F (s+1);have e:nd (`dm s (`mV).length)=`e (s:Int)::nd (`dm (s+1) `ir):=by
   rw[`a0,`tu];rfl
  rw[e,`al];constructor
  ·rintro⟨b,hb,eb⟩
   unfold xo0
   by_cases c:t x=t k
   ·rw[`J c,`pp];rfl
   ·rw[`V c,`pq,ih.1 ⟨b,`SL λz=>c (z▸eb),eb⟩]
    congr 3;omega
  ·intro h
   unfold xo0;rw[`V λc=>h ⟨x,A5,c⟩];exact ih.2 λ⟨b,hb,eb⟩=>h ⟨b,`wO,eb⟩
noncomputable def gS(r:`k)(L:`sY)(F:`k)(ks:`k)(s4 s5:Sl):Ds:=[`cU,`Av,`aOz,`acx,s4,s5]
noncomputable def GB:GS:=(v9 `aN!
 o4)
theorem ds0{r:`k}{L:`sY}{ks:`k}{k:Nat}(hL:∀a,`acy->Tr 8 (L a)/\∃ds,L a=`bO)(hk:k∉ks)(hF:∀a∈ks,`aNB)(l1:`aOA)(l2:`eY<=100) :
  GB `t1=`a (.nx (gS r L (fk L F [k]) (ks++[k]) `g! (`rE))):=by
 have zs:`dT:=`ah
 obtain⟨t,ht⟩:=En0 (r:=λa u=>(`acy)->toT (L a)=`aU/\`AS u<=8) λa=>by
  by_cases ha:`acy
  ·obtain⟨u,e,q⟩:=(hL a ha).1;exact⟨u,λ_=>⟨e,q⟩⟩
  ·exact⟨`A,λz=>`L z ha⟩
 obtain⟨tk,td⟩:=ht k `yf;obtain⟨ds,ed⟩:=(hL k `yf).2;have tl:∀b,`l7->(t b=t k↔`rC):=λb hb=>⟨λe=>e90 _ _ `Fk (by rw[← e];exact`aOB) tk,λe=>by
  have:=`aOB;rw[e,tk] at this;exact`YE⟩
 have hc:`Ar↔`acw:=`aNF λb=>`aNG λhb=>(tl b hb).symm
 have O:=jb0 (L:=L) (t:=t) (F:=F) λa ha=>(ht a (`ace)).1
 have M:ix t k F=`it:=pw0 tl;have sd:m60 2 `bW (me0 2) `t1=(match `aOC with
   | `aQ=>`a (x,`SY)
   | `c=>`a (`SZ,(`SY).set 2 (`aOD))):=by
  unfold m60;rw[show `t1[2]?=`a (`aOz) from rfl];dsimp only;rw[show gv 5 `t1=`a `Fn from rfl,`w,show me0 2 `t1=`a (`e ((`Fl).length:Int)) from rfl,`w,`Y];rw[ed] at tk ⊢;dsimp only;rw[tk,`w,O,`w,`J ⟨td,`h⟩]
  all_goals (cases `aOC<;>rfl)
 have J:T9 `Fm `Ak=`r:=by rw[re0,`bZ hk]
 have put:∀(F':`k) (v:Nat),(∀a∈ks,ix L a F'=ix L a F)->ix L k F'=v->`ls 3 `bb (`e (v:Int)) [`cU,`Av,`aOE,`acx,`cl,`rE]=`a (gS r L F' (ks++[k]) `g! (`rE)):=λF' v h1 h2=>by
  show (if (kd ks).length<`R then `a ([`cU,`Av,`aOE,.ow (`aW (`m (W6 `Fm `Ak)) (V4 `Fm (nd (`l' `SX)) `Ak (`e (v:Int)))),`cl,`rE]:Ds) else `c)=_;rw[`J (by unfold kd;rw[`Y];omega)];unfold W6 V4 gS;rw[J,`a7,`a7,ow0,`bI,vu0,← h2];rw[show `l' (λk=>ix L k F')=`l' (`SX) from P5 h1];rfl
 refine p6 ?_ rfl;unfold J2;rw[sd]
 by_cases c:`ip
 ·rw[(l20 F 0).1 (hc.mp c)]
  rw[`pn,`bd,M];show `i_ `ij (`ls 3 `bb (`e ((`it:Nat):Int)) `t1)=_;unfold gS;rw[put F (`it) (`mB) rfl];rfl
 ·rw[(l20 F 0).2 λz=>c (hc.mpr z)]
  rw[`po];have e2:`alf=nd (`dm 0 (`Fc).length):=by
   rw[`ad,`jF,`aMQ,vu0,`EI,`bd];rfl
  have e1:`ale=(`Fc).map L:=`aI2
  show `i_ `ij (`ls 3 `bb (`SZ) [`cU,`Av,`aOD,`acx,`cl,`rE])=_;rw[e1,e2,put `Fd `ir (λa ha=>an0 [k] (hF a ha)) ?_]
  ·rfl
  ·have key:∀G:`k,(¬∃b,b∈G/\`rC)->ix L k (G++[k])=G.length:=λG=>by
    induction G with
    | nil=>intro _;exact yh0 rfl
    | cons x G ih =>
     intro h;rw[`ds,yt0 λz=>h ⟨x,A5,z⟩,ih λ⟨b,hb,e⟩=>h ⟨b,`wO,e⟩,`a0]
   exact key F c
noncomputable def gD(r:`k)(g:`aJ):D:=`aW (`m `Fp) `S_
theorem nk0(hr:`tF)(hl:`am<=60){L:`sY}(hL:∀k∈r,Tr 8 `Fn/\∃ds,L k=`bO):zx0 `aOF=`a (gD r (gp L r)):=by
 have zs:`dT:=`ah
 have items:sa0 `l9 (`acz)=`a `aOG:=by
  show o80 `aOF=_;unfold o80 nd;simp only[];congr 1
  induction r with
  | nil=>rfl
  | cons a r ih =>
   rw[`al,`al,`al,`eJ,`al];rw[ih (K2.mp hr).2 (by rw[`a0] at hl;omega) λk hk=>hL k (A6 _ hk)]
 obtain⟨δ',l1,s4,s5,rfl⟩:=J3 (f:=`DM) (G:=GB) (λi δ=>∃s4 s5:Sl,δ=gS r L (fk L [] `Ml) `Ml s4 s5) `aOG 0 (`acz) (by
  rintro j d δ hj ⟨s4,s5,rfl⟩;rw[`bd];have J:`Aj:=by
   have:=`zD
   rwa [Bm0] at this
  rw[`cj,`d2 J] at hj;cases hj;have tk:`ab2:=by rw[`pb,`d2 J];rfl
  have M:`aMN:=λz=>by
   have q:`aMO:=by rw[`zk];exact hr
   exact`aMP _ z _ (by rw[`sE J];exact A5) rfl
  have sub:∀a∈`acA,`fH:=λa ha=>X1 (O8 L ha)
  have lf:(`acA).length<=`am:=`l2 (o90 (v40 L _)) sub;refine⟨gS r L (`acA) `l! (`tW) (`aOH),_,rfl,ds0 (r:=r) (L:=L) (k:=r[j]) (λa ha=>?_) M (λa ha=>wd0 L `l! [] a ha) `d `_w,`tW,`aOH,?_⟩
  ·rcases ha with ha|rfl
   ·exact hL a (sub a ha)
   ·exact hL _ (C0 J)
  ·rw[tk,n90]) `aMV
 rw[`bd,`Y,`tJ] at l1;exact N8 rfl (p6 (δ':=[`cU,`Av,`aFG,.un,.un,.un]) rfl (p6 (δ':=`acz) rfl (p6 (O7 `a' l1) `aah)))
universe Ka
namespace Ka
open DL W K22
open Ta (pa j4)
open La (nI)
open Ua (Met dr)
theorem xx0{p:Pt}(h:`cG):`aa9:=Pn.xx0 p h.f
theorem zc0{p:Pt}(h:`cG)(f:`aJ)(D':D)(hd:∀j∈`iZ,`aaK):`aaL:=`aMJ
theorem ov0{ps:`o}(h:`D)(m:`a2):`aML:=Ua.ov0 h m
theorem vn0{ps:`o}(h:`D)(m:`a2):`aMT:=Ua.vn0 h m
theorem get_map(g:`aJ):∀{r:`k} {j:Nat},`j8->`aOI=`aOJ
 | [],j,h=>by cases h
 | a::r,j,h=>by
  show (if (`gH `jk:V9)=`RL then `a (`c8 `S4) else `aOI)=_
  by_cases e:a=j
  ·rw[e,`aY]
  ·rw[`aOK]
   exact get_map g `aaZ
theorem jm0(g:`aJ)(h:`j8):G8 `Fr `lO=`aOJ:=get_map g h
theorem l50:∀l:`k,`aOL=`a (`c1 `S1)
 | []=>rfl
 | a::l=>by
  show (`aOL).map _=_;rw[l50 l];rfl
theorem map_eq_iff(f g:`aJ):∀r:`k,(`E5=`ha g↔∀a∈r,`S0):=λr=>List.map_inj_left
theorem am0(f g:`aJ)(r:`k):((∀a∈r,`S0)->`acB=`iF)/\((`aOM)->`acB=`hd):=by
 have e:`acB=`a (.bl (`I `aON)):=by
  show (if kd r=kd r then (wf0 (nd `xr)).bind λm=>(wf0 `S_).bind λn=>`a (`lV (`K?)) else `c)=_;rw[`aY,l50,l50,`w,`w]
 have:`aON↔`aOM:=by
  rw[← map_eq_iff f g r];exact not_congr ⟨`Fe λa b h=>`aNg,λh=>`Z7⟩
 rw[e];exact⟨λc=>by rw[`bZ (λz=>this.mp z c)],λc=>by rw[`bS (this.mpr c)]⟩
section
variable{ps:`o}
theorem Vs0(hp:`D)(m:`a2):V1 `a6 noT `aN? [.un,`S] `rb=`a (`ha (L0 ps)):=by
 rw[Q4 (λd=>match d with|`ap=>L0 ps `dd|_=>`A) (λd hd=>by
  obtain⟨i,hi,rfl⟩:=`dR;refine⟨[`gp,`S],rfl,rfl,?_⟩;rw[o9 (ds:=[`E']) `aOO,xx0 `Ah];rfl)]
 unfold nd;rw[`br];rfl
theorem Yk0(hp:`D)(m:`a2)(g:`aJ):V1 `a6 noT `ST [.un,`S,`hc] `rb=`a (`ha `rD):=by
 rw[Q4 (λd=>match d with|`ap=>Lg ps g `dd|_=>`A) (λd hd=>by
  obtain⟨i,hi,rfl⟩:=`dR;refine⟨[`gp,`S,`hc],rfl,rfl,?_⟩;rw[o9 (ds:=[`E',`xq]) `aOO,zc0 `Ah g _ λj hj=>jm0 g (wh0 hp m hi hj)];rfl)]
 unfold nd;rw[`br];rfl
theorem Rc0(hp:`D)(m:`a2)(g:`aJ):∀k∈r,Tr 8 (Lg ps g k)/\∃ds,Lg ps g k=`bO:=λk hk=>by
 refine⟨?_,Q90 _⟩;have pw:=(j4 hp (`ou k hk)).2;have hx:∃n,∀j∈tgs (`R4).vals,g j<n:=by
  have:∀l:`k,∃n,∀j∈l,g j<n:=λl=>by
   induction l with
   | nil=>exact⟨0,λj hj=>by cases hj⟩
   | cons a l ih =>
    obtain⟨n,h⟩:=ih;refine⟨max n (g a+1),`sC⟩;rcases `bU hj with rfl|hj
    ·omega
    ·have:=h j hj;omega
  exact `u _
 obtain⟨n,h⟩:=hx;exact Or0 (nj0 (m:=n) pw g h)
theorem g50(hp:`D)(m:`a2)(g:`aJ)(s3:Sl):m5 `c7 `akW [`S,`cU,`hc,s3]=`a (.nx [`S,`cU,`hc,.sh (`aOP)]):=by
 have zs:`dT:=`ah
 have J:=`At;refine j8 (d:=`aOP) ?_;rw[o9 (ds:=[`j7,`s (`ha `rD)]) (`y rfl (`y (V7 (items:=`ra) rfl `zY (Yk0 hp m g)) rfl))];exact nk0 m.nd J (Rc0 hp m g)
noncomputable def LT:DL.GB:=`aOa
noncomputable def LW:GS:=(v9 (m5 `d3 `bc)
 (v9 `acq
 o4))
noncomputable def lS(ps:`o)(r:`k)(n:Nat):Ds:=[`S,`cU,.sh `aOQ,`acC]
theorem W80(n:Nat):((∀a∈r,`SP)->LT `Aw=`b7)/\((`SQ)->LT `Aw=`fh):=by
 have e:o2 `bc `bi neK `Aw=neK `alk `aOQ:=o8 rfl rfl;have k:=am0 `S2 `Ff r;exact⟨λh=>`dn (`Ci (k.1 h)),λh=>`dn (`Ci (k.2 h))⟩
theorem Pw0(hp:`D)(m:`a2)(n:Nat):LW `Aw=`a (.nx (lS ps r `b2)) :=
 p6 (δ':=[`S,`cU,`acC,`acC]) rfl (p6 (g50 hp m `S2 _) rfl)
theorem a00(hp:`D)(m:`a2):∃g,`gE/\xm0 `aOR=`a `Fr:=by
 have zs:`dT:=`ah
 have J:=`At;obtain⟨N,hN,h1,h2⟩:=rounds hp m;refine⟨gs ps r N,Pq0 hp m h1,?_⟩;have loop:∀d n f,n+d=N->d<f->S8 LT LW f `Aw=`a (.nx (lS ps r N)):=λd=>by
  induction d with
  | zero =>
   intro n f hn hf;obtain⟨f,rfl⟩:∃e,f=e+1:=`abE;have:n=N:=`h
   subst this;unfold S8;rw[(W80 n).1 h1]
  | succ d ih =>
   intro n f hn hf;obtain⟨f,rfl⟩:∃e,f=e+1:=`abE;unfold S8;rw[(W80 n).2 (h2 n `d)];dsimp only;rw[Pw0 hp m];exact ih `b2 f `d `d
 refine j7 rfl (p6 (δ':=[`S,`cU,.sh (`aOS),.un]) (j8 (d:=`aOS) ?_) (p6 (δ':=lS ps r 0) (g50 hp m `all .un) (p6 (loop N 0 100000 `d `d) `z6)));rw[o9 (ds:=[`j7,`s (`ha (L0 ps))]) (`y rfl (`y (V7 (items:=`ra) rfl `zY (Vs0 hp m)) rfl))];exact nk0 m.nd J λk hk=>⟨P80 _,S90 _⟩
variable{g:`aJ}
noncomputable def fS(ps:`o)(r:`k)(g:`aJ)(F:`k)(s4:Sl):Ds:=[`S,`cU,`hc,.ow (`aW (`m `rF) `Ft),s4]
noncomputable def FB:GS:=(v9 `aOb
 o4)
theorem Qc0(g:`aJ){k:Nat}(h:`acD):∃b,`acE=`a (`e ((b:Nat):Int)):=by
 induction F with
 | nil=>obtain⟨_,h,_⟩:=h;cases h
 | cons a F ih =>
  show ∃b:Nat,(if `acF=`S3 then `acG else `acE)=_
  by_cases e:g a=g k
  ·rw[e,`aY];exact`aOT
  ·rw[`aOK]
   obtain⟨b,hb,eb⟩:=h;exact ih ⟨b,`SL λz=>e (z▸eb),eb⟩
theorem ka0(g:`aJ):∀{F:`k} (h:Un g F) {i:Nat} (hi:i<`ir),`aOU=`a (`e (F[i]:Int))
 | [],_,i,hi=>by cases hi
 | a::F,h,0,hi=>by
  show (if `acF=`m `S4 then `acG else _)=_;rw[`aY];rfl
 | a::F,h,i+1,hi=>by
  rw[Un,`acb] at h;have hi':i<`ir:=by rw[`a0] at hi;omega
  have ne:=h.1 F[i] (C0 hi');rw[`acd];show (if `acF=`aln then `acG else `aOU)=_;rw[`V λz=>ne `alh];exact ka0 g h.2 hi'
theorem Pr0(F:`k)(hF:`aOA){k:Nat}(hk:k∈r):FB `MC=`a (.nx (`aOV)):=by
 have zs:`dT:=`ah
 have e1:o2 `bi `bb G8 `MC=`a (`e `alm):=by
  rw[o8 (x:=`xq) (y:=`c3) rfl rfl];exact jm0 g hk
 have hh:`acH=`I (g k∈`oy g):=re0 _ _;refine p6 (δ':=`aOV) ?_ rfl;unfold Y7 j40;rw[show s70 3 `MC=`a (`Fs,nd F) from rfl,`w,e1,`w,show gv 4 `MC=`abh from rfl,`w];show `i_ `z! (if (`Fs).length<`R then (if `acH=`b then (`acE).map λx=>(x,`alo) else `a (`c3,[`S,`cU,`hc,.ow (`aW (`m (W6 `rF `Fu)) (V4 `rF `Ft `Fu `wH)),`cl])) else `c)=_;rw[`J (by unfold kd;rw[`Y,`Y];omega)];have hm:(g k∈`oy g)↔`acD:=A9
 by_cases c:`acD
 ·rw[hh,`bS (hm.mpr c),`aY,`pn]
  obtain⟨b,hb⟩:=Qc0 g c;rw[hb];rfl
 ·have hf:`acH=`r:=by rw[hh,`bZ λz=>c (hm.mp z)]
  rw[hf,`a7,`po];unfold W6 V4;rw[hf,`a7,`a7];show `a (`ij [`S,`cU,`hc,.ow (`aW (`m (`Fs++[`S3])) (nd F++[`c3])),`cl])=`a (`ij (fS ps r g `Fd `g!));unfold fS;rw[`bI,ow0,vu0];rfl
theorem iv0(hp:`D):∃r g,`a2/\`gE/\∃r',Met `l8 r'/\W3 `z7=`a (wd (dr `l8 r')):=by
 have zs:`dT:=`ah
 obtain⟨r,m⟩:=Ua.j70 hp;obtain⟨g,s,hg⟩:=a00 hp m;have wl:=`MA;obtain⟨r',m'⟩:=Ua.j70 wl;have Z:=`At;have fl:=`aN3;refine⟨r,g,m,s,r',m',?_⟩;obtain⟨δ',l1,s4,rfl⟩:=J3 (f:=`qW) (G:=FB) (λi δ=>∃s4:Sl,δ=fS ps r g (fk g [] `Ml) s4) `rb 0 (`aOW) (by
  rintro j d δ hj ⟨s4,rfl⟩;rw[`bd];have M:`Aj:=by
   have:=`zD
   rwa [y00] at this
  unfold nd at hj;rw[`cj,`d2 M] at hj;cases hj;have tk:`ab2:=by rw[`pb,`d2 M];rfl
  have lf:(`aOX).length<=`am:=`l2 (o90 (v40 g _)) λa ha=>X1 (O8 g ha)
  refine⟨fS ps r g (`aOX) (`tW),_,rfl,Pr0 _ `d (C0 M),`tW,?_⟩;rw[tk,n90]) ⟨.un,rfl⟩
 rw[`bd,y00,`tJ] at l1;have O:O1 `aOc `aOY=`a (`acI):=by
  refine yb0 (n:=`alq) (`y ?_ rfl) `d `d;show `a (`c8 ((`alp).length:Int))=_;unfold kd;rw[`Y,`Y]
 have cm:V1 `a6 noT `aOd [.un,`S,`hc,`S5] (`acI)=`a ((`Fg).map `d5):=by
  rw[Q4 (λd=>match d with|`ap=>(rel g (pa ps ((`ox).getD `dd 0))).d|_=>`A) (λd hd=>by
   rw[`S6] at hd;obtain⟨i,hi,rfl⟩:=`dR;have J:i<`kb:=by
    have:=List.mem_range'_1.mp hi;omega
   have hm:`xs∈r:=O8 g (C0 J);refine⟨`aOZ,rfl,rfl,?_⟩;have e3:o2 `bc `U G8 `aOZ=`a (`aO_):=by
    have:=ka0 g (v40 g r) (i:=i) J;have e:=`Mz J;unfold fs at e J ⊢;rw[e] at this;exact `u
   rw[o9 (ds:=[(pa ps `xs).d,`xq]) (`y (by rw[o8 (x:=`aN) (y:=`aO_) rfl e3];exact(`aO0).1) rfl),zc0 (`aO0).2 g _ λj hj=>jm0 g (wh0 hp m hm hj)];simp[J])]
  refine D9 `a ?_;rw[`S6,`br];unfold ls;rw[`br];refine `aIA
  rw[`Y] at h2;simp[h2]
 refine j7 rfl (p6 (δ':=[`S,`cU,.un,.un,.un]) (j8 (d:=`j7) ?_) (p6 (δ':=[`S,`cU,`hc,.un,.un]) (j8 (d:=`xq) ?_) (p6 (δ':=`aOW) rfl (p6 (O7 (items:=`ra) rfl l1) `dH))))
 ·rw[o9 (ds:=`z7) rfl]
  exact ov0 hp m
 ·rw[o9 (ds:=`aOR) rfl]
  exact hg
 ·show oA _ _ `aOY=_
  rw[o9 (ds:=[wd `l8]) (`y (by
   rw[o9 (ds:=[`s ((`Fg).map `d5)]) (`y (V7 (items:=`acI) O `aO1 cm) rfl)];rfl) rfl)]
  exact vn0 wl m'
universe zz
theorem bu0{ps qs:`o}(hp:`D)(hq:`aw):∃W W':`o,W3 `z7=`a (wd W)/\W3 [`cT]=`a (wd W')/\(W=W'↔`Au)/\Web W/\Web W'/\A ps W 0 0:=by
 obtain⟨r,g,m,s,r',m',e⟩:=iv0 hp;obtain⟨t,h,n,u,t',n',e'⟩:=iv0 hq;have wp:=`MA;have wq:=q40 hq n u;have a1:=s50 hp m s `Mk;have a2:=s50 hq n u n.zero;rw[ef0 m s] at a1;rw[ef0 n u] at a2;have b1:=`Mq hp wp `aO2 (gq0 wp m');have b2:=a2.trans hq wq `MD (gq0 wq n');refine⟨_,_,e,e',`tM,`aO2,`MD,b1⟩
 ·rw[z] at b1
  exact b1.trans hp `MD hq (b2.symm hq `MD)
 ·refine d90 wp wq (λi j=>la0 hp m s) (λi j=>la0 hq n u) (((a1.symm hp wp).trans wp hp hq z).trans wp hq wq a2) m' n' λs' ms=>?_
  have h1:=vn0 wq ms;rw[vn0 wq n'] at h1;exact bj0 (`qo).symm
universe Ka
namespace Ea
open Ka
open DL W K22
open Ta (pa j4 zl0 gl gl1 nl pN Wh0)
open La
open Ua (Met dr)
theorem Pl0{ps qs:`o}(hp:`D)(hq:`aw){a b:Nat}(ha:`Aq)(hb:b<`bj)(e1:`zV=ixD `cm (`wB))(e2:`tG=ixD `ok (`e (b:Int))) :
  zl0 (`c' `pm≠`c' `Mt) (o2 (oA `Te V8) (oA `Tf V8) W7 δ):=by
 obtain⟨a1,a2⟩:=`akP;obtain⟨b1,b2⟩:=j4 hq hb;rw[o8 (x:=`c' `pm) (y:=`c' `Mt) (by rw[o9 (ds:=[(`Fb).d]) `aLG];exact Ta.s20 a2) (by rw[o9 (ds:=[(pa qs b).d]) `aLH];exact Ta.s20 b2)];exact`aLI
theorem at0{ps:`o}(h:`D){w:`k}{u:D}(e:`ab'){g:GE}{gw:GE}(h1:`aB=`EK)(h2:gw δ=`Sn):oA (z9 g (z9 (oA `ajX zp0) v7)) (λds=>R7 (ds++`ME)) δ=`aU:=by
 rw[o9 (ds:=[`aN,`im]) (`y h1 (`y (by rw[o9 (ds:=[`im]) (`y h2 rfl)];rfl) rfl))];exact(wt0 h e).1
theorem Xw0{ps qs:`o}(hp:`D)(hq:`aw){w:`k}(h:TV ps qs w):qu0 `aO3=`hd:=by
 obtain⟨u,v,e1,e2,J⟩:=h;have l1:=(wt0 hp e1).2;have l2:=(wt0 hq e2).2;unfold prt at J;have s3:∀s3 s4:Sl,m5 `c7 `akH [`S,`aH,`xt,s3,s4]=`a (.nx `aO4):=λs3 s4=>j8 (at0 hp e1 rfl rfl)
 have s4:∀s4:Sl,m5 `d6 `akI `aO4=`a (.nx `aO5):=λs4=>j8 (at0 hq e2 rfl rfl)
 rcases `pk with⟨i,j,hi,hj,rfl,rfl,e⟩|⟨e,e3⟩
 ·rw[e] at J
  refine j7 rfl (p6 (s3 _ _) (p6 `z' `e'));rw[`zX];exact n8 (Z4 ((Pl0 hp hq hi hj rfl rfl).1 J))
 ·rw[e] at J
  dsimp only at J;refine j7 rfl (p6 (s3 _ _) (p6 `z' (p6 (δ':=`aO5) ?_ `dH)))
  ·rw[Z2]
   ·rfl
   ·show ((`a (`dk u)).bind λt=>if `sx then `aa5 else `b7)=_
    rw[`w];cases h1:`dk u with
    | false=>rfl
    | true =>
     rw[h1,Bool.true_and] at e3;rw[`aY,e3]
  ·rw[o8 (x:=u) (y:=v) rfl rfl]
   exact `rg (nd0 l1) (nd0 l2) J
universe Ea
namespace Ka
open DL W K22
open Ta (pa j4 zl0 gl gl1 nl pN up)
open La (zp nI Rch okp zb0 v90 prt Cs cm)
open Ea (lnk rr0 vat stp ws0 Pg Wi')
open Ma (rn0 PWy lds)
open Ua (yr0 xu0 tb0 K3 na0 qq0 qg0 uj0 oc0 l00)
theorem Rf0{T:Nat}{p0 p:Pt}(h:Fa.Un1 T p0 p):rel (`EL) p=p0:=by
 obtain⟨us,rfl,h1,h2⟩:=h;unfold rel;rw[xq0 p0 us h1,h2,l00 _ _ _ h1];exact rr0 rfl
theorem rf0{ps:`o}(h:`kC):`j'=`zc:=by unfold pa;simp[h]
theorem i80{ps qs:`o}(hp:`D)(hq:`aw){T:Nat}(hT:0<T)(hl:`abz)(h:∀j (h:j<`bj),Fa.Un1 T `abA qs[j]):`aO6:=by
 have:=`lW hq hp (·<`bj) (`EL) (λa ha=>⟨ha,Nat.div_lt_of_lt_mul (by rw[`Zk,← hl];exact ha),by rw[rf0 ha];exact(Rf0 (h a ha)).symm,`aO7⟩) `Ta
 rwa [Nat.zero_div] at this
theorem kb0{ps:`o}(hp:`D){T:Nat}(h:`rl<=60)(hT:`tP)(c:Int):∃qs,`aLv/\`aw/\`abz/\`aO6:=by
 obtain⟨qs,e,w,l,u⟩:=Fa.ez0 hp h hT c;exact⟨qs,e,w,l,i80 hp w hT.1 l u⟩
noncomputable def bsd(ps qs:`o):`o:=ps++`S9
theorem wk0(ps qs:`o):(`Fy).length=`P+`bj:=by unfold bsd;rw[`ad,`Y]
theorem Ul0{ps qs:`o}(hp:`D)(hq:`aw)(h:`P+`bj<=60):Web `kG:=by
 have h1:=`S?;refine⟨`Ax,λp M=>?_⟩;rw[wk0];rcases `db M with z|z
 ·exact⟨(hp.pw p z).few,λv hv=>((hp.pw p z).lv v hv).mono `d⟩
 ·obtain⟨q,J,rfl⟩:=`Ma
  exact nj0 `aO8 _ λj hj=>by have:=nr0 `aO8 hj;omega
theorem mt0(ps qs:`o)(h:`kC):pa `kG i=`j':=by
 rw[rf0 (`Ax),rf0 h];unfold bsd;rw[`aLx h]
theorem mj0(ps qs:`o)(h:j<`bj):pa `kG (`Fw)=rel `Ay (pa qs j):=by
 rw[rf0 (`Ax),rf0 h];unfold bsd;rw[`aLy,`gA];simp only[`yr]
theorem ax0{ps qs:`o}(hp:`D)(hq:`aw)(hb:Web `kG):A `kG `kG 0 `P↔`Au:=by
 have a1:=`lW hp hb (·<`P) `Ai (λa ha=>⟨ha,`Ax,by rw[oh0 `SN];exact mt0 ps qs ha,λj hj=>nr0 `SN hj⟩) `S?;have a2:=`lW hq hb (·<`bj) `Ay (λa ha=>⟨ha,`Ax,mj0 ps qs ha,`aO7⟩) `Ta;rw[`zt] at a2;exact⟨λz=>(`Mq hp hb hb z).trans hp hb hq (a2.symm hq hb),λz=>((a1.symm hp hb).trans hb hp hq z).trans hb hq hb a2⟩
theorem jc0{p:Pt}(h:`cG)(f:`aJ)(D':D)(hd:∀j∈`iZ,`aJn):`aJo:=K22.jc0 h f D' hd
theorem bs0{ps qs:`o}(hp:`D)(hq:`aw):z40 [`aN,`cT]=`a (wd `kG):=by
 have zs:`dT:=`ah
 have l1:=`L7;have l2:=hq.len.2;have c1:Y0 1 [0] `DY `a6 noT `aOe [`S,`aH,.un]=`a (`S7):=by
  refine V7 (items:=U0 0 `w4) (yb0 (n:=`w4) (`y (`Tg qs _ rfl) rfl) `d `d) `aO1 ?_;rw[pb0 (λk=>`e ((`P+k:Nat):Int)) (λk hk=>⟨[`cl,`S],rfl,rfl,by
   rw[o8 (x:=`aKs) (y:=`c3) (`Tg ps _ rfl) rfl];show `a (`c8 (`wY+`bG))=_;rw[← `aLk]⟩)]
  unfold nd;rw[`br,`aR];rfl
 have c2:Y0 1 [2] `aOf `a6 noT `S! `aO9=`a (`aO'):=by
  refine V7 (items:=`w7) rfl `e? ?_;have key:∀l:`o,(∀q∈l,q∈qs)->`aO!=`a ((`c1 (rel `Fx)).map `d5):=λl=>by
   induction l with
   | nil=>intro _;rfl
   | cons q l ih =>
    intro h;rw[`al,`al,`al];unfold V1;show (match oA `l9 J6 [.sh q.d,`S8] with|`c=>`c|`bA=>(`aO!).map `HM)=_;rw[o9 (ds:=[q.d,`S7]) rfl,jc0 `aO? `Ay _ λj hj=>by
     have J:=nr0 `aO? hj;rw[Ta.da0 _ (by rw[`Y,`Mm];exact J)];simp[J],`aa1]
    rfl
  exact key qs λq hq=>hq
 refine j7 rfl (p6 (j8 c1) `dH);show o2 `U _ Z3 `aO9=_;rw[o8 (x:=`aN) (y:=wd (`S9)) rfl (by rw[o9 (ds:=[`aO']) (`y c2 rfl)];rfl)];show (if `aKt+(`S').length<=`R then `a (`ew (`wK++`S')) else `c)=_;rw[`J (by simp only[`Y];omega),← `bI];rfl
theorem m40{ps qs:`o}(hp:`D)(f:`aJ)(h:∀i,`kC->`aMB):∀(w:`k) (v:D),`Ad->vat qs (`En) w=(`Mp).map `lR
 | [],v,_=>rfl
 | k::w,v,hv=>by
  unfold vat;rcases hv with rfl|⟨z,rfl⟩|⟨j,rfl,hj⟩
  ·rfl
  ·rfl
  ·rw[K3,show stp qs (`akB) k=(pa qs (f j)).vals[k]? from ws0 qs (f j) k,show stp ps `El k=`Ap from `aM',h j hj,xu0,`cj]
   cases e:`Ap with
   | none=>rfl
   | some u=>exact m40 hp f h w u (`aNd u (C2 e))
theorem Xr0{ps qs:`o}(hp:`D)(hq:`aw){w:`k}(h:PWy `kG `kG (0,`P) w):`aPa:=by
 obtain⟨u,v,e1,e2,h3⟩:=h;have f1:=m40 (qs:=`Fy) hp `Ai (λi hi=>by rw[oh0 (j4 hp hi).2];exact `aPb) w `io `aPc;have f2:=m40 (qs:=`Fy) hq `Ay (λi hi=>mj0 ps qs hi) w `io `aPd;rw[show lkv `Ai `io=lnk 0 from rfl,e1] at f1;rw[show lkv `Ay `io=lnk (`P+0) from K3 _ 0,`zt,e2] at f2;obtain⟨u',g1,rfl⟩:=`li f1.symm;obtain⟨v',g2,rfl⟩:=`li f2.symm;have l1:=Ma.jh0 hp w `io u' `aPc g1;have l2:=Ma.jh0 hq w `io v' `aPd g2;rw[na0 u' l1] at h3;refine⟨u',v',g1,g2,?_⟩;unfold prt at h3 ⊢;rcases `pk with⟨i,j,hi,hj,rfl,rfl,e⟩|⟨e,t⟩
 ·rw[e]
  rw[K3,show gl1 (`wS,`x [`gj,`e ((`Fw:Nat):Int)])=`a (i,`Fw) from rn0 i _] at h3;dsimp only at h3 ⊢;rw[`aPb,mj0 ps qs hj,tb0] at h3;exact h3
 ·rw[e]
  dsimp only;rcases l1 with rfl|⟨z,rfl⟩|⟨i,rfl,hi⟩
  ·rcases l2 with rfl|⟨y,rfl⟩|⟨j,rfl,hj⟩
   ·exact h3
   ·exact h3
   ·exact λz=>by cases z
  ·rcases l2 with rfl|⟨y,rfl⟩|⟨j,rfl,hj⟩
   ·exact h3
   ·exact h3
   ·exact λz=>by cases z
  ·rcases l2 with rfl|⟨y,rfl⟩|⟨j,rfl,hj⟩
   ·exact λz=>by cases z
   ·exact λz=>by cases z
   ·cases t
theorem di0{ps qs:`o}(hp:`D)(hq:`aw)(h1:`Me)(h2:`Mf) :
  ((`Mg)/\∃(s:Cs) (w:`k),PWy ps qs p0 w/\`aMj) ∨
  ∃s:Cs,La.Tab ps qs p0 s.1/\`abR:=by
 rcases La.e00 hp hq h1 h2 with⟨hh,e⟩|⟨hh,s,r,R,Q,k⟩
 ·refine `m ⟨`aMk,_,[],⟨`SF,`SG,rfl,rfl,?_⟩,e⟩
  unfold prt;rw[rn0];exact hh
 ·have P0:=Ma.pi0 h1 h2 hh
  rcases k with⟨rfl,e⟩|⟨q,j,w,rfl,hw,e⟩
  ·obtain⟨a1,a2⟩:=La.fj0 hp hq R P0 Q
   exact `aMl
  ·obtain⟨n',k',g,hg⟩:=Ea.cz0 hp hq R P0 Ea.pg0
   obtain⟨v,e1,e2,e3⟩:=hg q j rfl;obtain⟨i,hi,ei⟩:=`jL e3;have J:`xk=`qk:=by rw[`d2 hi,ei]
   have l:=Ma.U10 hp hq Q g (Ea.iq0 Q.nd g hw i J) q J;obtain⟨v1,v2⟩:=Ma.it0 l e1;exact `m ⟨La.eb0 hp hq R `du P0,s,_,⟨v.1,v.2,v1,v2,e2⟩,e⟩
universe Ka
namespace La
open Ka
open DL W K22 Ta Fa
noncomputable def sw(p:`ac):`ac:=(p.2,p.1)
theorem Ph0{ps:`o}{v:`fF}(h:v∈`aPe):(v.2,v.1)∈`aPf:=by
 unfold zp sw at *;obtain⟨i,hi,e⟩:=`jL h;rw[`iW] at e;subst e;have hi2:=hi;rw[`c4] at hi2;refine E7.mpr ⟨i,by rw[`c4];exact Bn0.mpr ⟨(`aPg).2,(`aPg).1⟩,?_⟩;rw[`iW]
theorem O60{ps:`o}(hp:`D){x:`ac}(h1:`L8)(h2:q.2<`P)(h:x∈gl (`aPe)):sw x∈gl (`aPf)/\`aPh:=by
 obtain⟨v,hv,e⟩:=`sd h;obtain⟨l1,l2⟩:=v90 hp hp h1 h2 hv;rcases `pk with⟨i,j,hi,hj,e1,e2,e3⟩|⟨e3,_⟩
 ·rw[`kF,e] at e3
  cases e3;refine⟨`rr ⟨_,Ph0 hv,?_⟩,hi,hj⟩;rw[e1,e2];rfl
 ·rw[`kF,e] at e3
  cases e3
theorem h90{ps:`o}(hp:`D){p x:`ac}(h1:`pi)(h2:`acJ)(h:Rch ps ps p x):`aPh:=by
 induction h with
 | top=>exact`E1
 | go _ hg ih=>exact(O60 hp ih.1 ih.2 hg).2
theorem fv0{ps:`o}(hp:`D){p:`ac}(h1:`pi)(h2:`acJ){A:`co}(h:Tab ps ps p A):A.length<=3600:=Wu0 (n:=60) h.1 λx hx=>by
 have:=h90 hp h1 h2 ((`zB x).mp hx);have:=`L7;omega
universe La
namespace Ka
open DL W K22
open Ta (pa j4 zl0 gl gl1 nl pN k2 up gl0 Wt0 iz0 pp0 ro0 pk0 Dc)
open La (zp nI Rch okp zb0 v90 prt Cs cm Tab g80 fv0 h90)
open Ma (PWy)
open Fa (c2 li0 ir)
theorem ty0(ns:`bk)(k:Int)(h0:`lP):`_8:=`aK9
theorem Ud0(c k:Int)(hk:`aai):`aaj:=`aK!
theorem fa0{qs:`o}(h:`aw)(x:Int):`aK0:=Ta.d40 h x
theorem cu0(ns:`bk)(hl:`abr){M:Nat}(hM:`aK?):`aLa:=Fa.bn0 ns hl hM
theorem Xc0{ps qs:`o}(hp:`D)(hq:`aw){w:`k}(h:`aPa):zi0 `aO3=`hd:=Ea.Xw0 hp hq h
theorem Zq0{ps:`o}(hp:`D)(hir:∀p∈L,`pi/\`acJ)(hl:`LS<=3600)(h:∀p∈L,up ps ps L p):ww0 [`aN,`rj]=`hd:=by
 have zs:(3600:Nat)<=`R:=`ah
 exact j7 rfl (n8 (Z4 (by rw[o9 (ds:=[`aN,`aN,`rj]) rfl];exact(Ta.dn0 hp hp hir `d).1 h)))
theorem Xu0{ps:`o}(hp:`D){p q:Nat}(h1:p<`P)(h2:q<`P) :
  (`aMm/\`aMn/\∃w:`k,PWy ps ps `l1 w/\`aMo) ∨
  ∃B,Tab ps ps `l1 B/\`Sm=`a (`s (`acK pD))/\`aMq:=by
 rcases g80 hp h1 h2 with⟨⟨x,r,n⟩,e1,_,_,_⟩|⟨B,ht,e1,_,e2⟩
 ·rcases di0 hp hp (p0:=`l1) h1 h2 with⟨_,s,w,hw,e⟩|⟨s,ht,_⟩
  ·refine `m ⟨⟨x,r,n⟩,e1,w,hw,`tB⟩
   refine(o8 (x:=`E2) (y:=`eA) ?_ rfl).trans rfl;rw[o9 (ds:=`abZ) (`y rfl (`y rfl (`y `aj5 rfl)))];exact e
  ·exact `L (ht.2.2 x r) n
 ·exact `i ⟨B,ht,e1,e2⟩
theorem Nn0(x:`ac)(L:`co)(h:x∈L):ge0 `b (pN x) `ma=`iF:=by
 unfold ge0;simp only[];rw[`J ⟨Ta.mc0 _ 49,Ta.fy0 L 49⟩];have e:((`on).any λy=>deq y (pN x))=`b:=List.any_eq_true.mpr ⟨_,`wG ⟨_,h,rfl⟩,by rw[Ta.Ro0,`TQ]⟩;rw[e];rfl
theorem Xx0{B:`co}:∃L:`co,`acK pD=`on/\(∀x,x∈L↔x∈B)/\`LS=B.length:=by
 have hm:∀q,q∈`E3 (B.map c2)↔∃p∈B,c2 p=q:=λq=>by rw[(SoT.o20 _).mem_iff,`aLL]
 refine⟨`acK λq=>(q.1.toNat,q.2.toNat),?_,λx=>⟨`acl,`acl⟩,by rw[`Y,(SoT.o20 _).length_eq,`Y]⟩
 ·rw[`br]
  refine P5 `yZ
  obtain⟨p,hp,rfl⟩:=`aPi;rfl
 ·obtain⟨q,hq,rfl⟩:=`e_ h
  obtain⟨p',J,rfl⟩:=`aPi;exact J
 ·exact `wG ⟨c2 x,(hm _).mpr ⟨x,h,rfl⟩,rfl⟩
noncomputable def kS(ns:`bk)(ps:`o)(t:Int)(q1 qs bs:`o)(f w:D)(s8 s9 s10:Sl):Ds:=[`gr,`S,`c9,`rG,`aH,.sh (wd bs),.sh f,.sh w,s8,s9,s10]
section
variable(ns:`bk)(ps:`o)(t:Int)(q1 qs bs:`o)(f w:D)
noncomputable def H1:GS:=(v9 `aOo
 o4)
theorem Pk0(ks:`f9)(vs:`p)(p:`ac)(m:Sl)(h:`Ld) :
  `aPj=`a (.nx (`acL)):=by
 refine p6 (δ':=`acL) ?_ rfl;show `i_ `ij (if `Ld then `a (`acL) else `c)=_;rw[`iH];rfl
theorem ek0(m:Sl):∀(L:`co) (ks:`f9) (vs:`p) (s9:Sl),`eY+`LS<=4000 ->
  ∃ks' vs' t9,W5 `wo H1 `wZ (kS ns ps t q1 qs bs f w `alr s9 m)=`a (.nx (kS ns ps t q1 qs bs f w (.ow (`aW (`i ks') vs')) t9 m))/\∀x,x∈ks'↔`aJ6
 | [],ks,vs,s9,_=>⟨ks,vs,s9,rfl,λx=>`a!⟩
 | p::L,ks,vs,s9,h=>by
  have zs:`aPk:=`ah
  rw[`a0] at h;have hn:=li0 ks `rc;obtain⟨ks',vs',t9,e,hm⟩:=ek0 m L `Tb `als `l? `d;refine⟨ks',vs',t9,?_,λx=>?_⟩
  ·rw[`al]
   conv=>lhs;unfold W5
   show (match `aPj with|`dC=>`aPl|`oV=>`aPl|`oW=>`dC|r=>r)=_;rw[Pk0 ns ps t q1 qs bs f w ks vs p m `d];exact e
  ·rw[hm,ro0]
   simp only[`aI];constructor
   ·rintro ((h|h)|⟨q,hq,h⟩)
    ·exact `m9
    ·exact `i ⟨p,`bL,h⟩
    ·exact `i ⟨q,`i hq,h⟩
   ·rintro (h|⟨q,rfl|hq,h⟩)
    ·exact `UQ
    ·exact `m (`HA)
    ·exact `i ⟨q,hq,h⟩
noncomputable def H2:GS:=(v9 `aOp
 (v9 (ifD `aOq
 (v9 `fW
 o4)
 o4)
 o4))
variable{bs}
theorem P60(hp:Web bs){d:D}(hd:`z0){p:`ac}(h1:p.1<`Iq)(h2:p.2<`Iq)(b9:Sl)(hu:up bs bs L p) :
  ∃s9,H2 (kS ns ps t q1 qs bs f w `lc `l? b9)=`a (.nx (kS ns ps t q1 qs bs f w `lc `l? s9)):=by
 have zs:`dT:=`ah
 obtain⟨g1,g2⟩:=Wt0 hp hp h1 h2;have J:=gl0 `SI (j4 hp h2).2 L;have Z:=(`rp).2.few;unfold up at hu;obtain⟨u1,u2,u3⟩:_/\_/\_:=⟨hu.1,(J.mp hu.2).1,(J.mp hu.2).2⟩;have e:=g1 ⟨u1,u2⟩;have O:(`aPm).length<=12:=C4 (iz0 _) (`LT);generalize `aPm=M at e O u3;have ht:zm0 `ak? `ala (`MF)=`a (`I (0<`Td)):=by
  unfold zm0;rw[show ob `ak! (`MF)=`b7 from rfl,`w,`a7];refine `abJ;rw[o8 (x:=`e `aPn) (y:=`e9) (by rw[g60 (V7 (items:=`R_) rfl `e? (pk0 hd M)),`Y]) rfl];show `a (`lV (`I (`ie<`aPn)))=_;congr 2;rw[`aaT];omega
 have hz:¬0<`Td:=by
  rw[Nat.not_lt,Nat.le_zero,List.length_eq_zero_iff,List.filter_eq_nil_iff];intro x hx;simp[u3 x hx]
 refine⟨.sh (`Tc),p6 (j8 (d:=`Tc) (by rw[o9 (ds:=[wd bs,wd bs,`gn]) rfl];exact e)) (p6 (δ':=`MF) ?_ rfl)⟩;rw[`bZ hz] at ht
 change ifD _ _ _ (`MF)=_
 rw[`z4];rfl
universe zz
theorem j00(b:`X):W7 `ul `ul=`iF:=`ri (by simp[`bo])
theorem to0{ps qs:`o}(hp:`D)(hq:`aw)(e1:`zV=`EK)(e2:`tG=`a `ok):(`Au->`acM=`iF)/\(¬`Au->`acM=`hd):=by
 obtain⟨W,W',h1,h2,h3,w1,w2,_⟩:=bu0 hp hq;have e:`acM=W7 (wd W) (wd W'):=o8 (by rw[o9 (ds:=`z7) (`y e1 rfl)];exact h1) (by rw[o9 (ds:=[`cT]) (`y e2 rfl)];exact h2);rw[e];exact⟨λa=>by rw[h3.mpr a];exact `ri (Ua.g00 w2).le,λa=>`rg (Ua.g00 w1) (Ua.g00 w2) λz=>a (h3.mp (bj0 z))⟩
theorem Ys0(ns:`bk)(hl:`abr):`aPo:=by
 have zs:`aPk:=`ah
 obtain⟨ps,b1,Z,l7⟩:=cu0 ns hl (M:=7) `l;obtain⟨t,ht⟩:=ty0 ns 4 `l;obtain⟨c5,h5⟩:=ty0 ns 5 `l;obtain⟨c6,h6⟩:=ty0 ns 6 `l;obtain⟨c7,h7⟩:=ty0 ns 7 `l;obtain⟨x7,_,_,b0⟩:=Ud0 c7 9 `l;obtain⟨T,hT,eT⟩:∃T:Nat,(0<T/\T<=4)/\1+t%4=`rk:=⟨(1+t%4).toNat,`h,`h⟩;obtain⟨U,hU,eU⟩:∃U:Nat,(0<U/\U<=4)/\1+t/4%4=(U:Int):=⟨(1+t/4%4).toNat,`h,`h⟩;have lT:`rl<=28:=`aPp l7 hT.2;have lU:`P*U<=28:=`aPp l7 hU.2;obtain⟨q1,b3,w1,n1,a1⟩:=kb0 Z (T:=T) `d ⟨hT.1,`h⟩ c5;obtain⟨q2,b2,w2,n2,a2⟩:=kb0 Z (T:=U) `d ⟨hU.1,`h⟩ (c6+5);obtain⟨q3,a8,w3,n3⟩:=fa0 w2 x7;have ce:∀(k z:Int) (δ:Ds),`ajy->oA (z9 `U (z9 `Rk v7)) j5 (`gr::δ)=`a (`n9):=λk z δ h=>by rw[o9 (ds:=`ajx) rfl];exact h
 obtain⟨qs,wq,nq,e5⟩:∃qs:`o,`aw/\`bj=q2.length/\ifD `acr
   (v9 `acs o4)
   (v9 (ifD `act (v9 `fW o4) o4) o4)
   `MG=`a (.nx `aPq):=by
  have hb:ob `ak2 `MG=`a `aPr:=`dn (by
   rw[o8 (x:=`e (t/16%2)) (y:=`eA) (by rw[o8 (x:=`e (t/16)) (y:=`n5) (by rw[o8 (x:=`lM) (y:=`aja) rfl rfl];exact `aPs) rfl];exact `LY) rfl];rfl)
  cases hc:`aPr with
  | true =>
   rw[hc] at hb;refine⟨q3,w3,n3,?_⟩;rw[T3 hb];refine p6 (j8 (d:=wd q3) ?_) rfl;rw[o9 (ds:=[wd q2,`e x7]) (`y rfl (`y (by
    rw[o9 (ds:=[`e c7,`ai6]) (`y (ce 7 c7 _ h7) rfl)];exact b0) rfl))]
   exact a8
  | false =>
   rw[hc] at hb;refine⟨q2,w2,rfl,?_⟩;rw[Z2 hb];refine p6 (δ':=`MG) ?_ rfl;rw[Z2 (by
    unfold zm0;rw[`dn ((to0 w1 Z rfl rfl).1 a1),`w,`a7];exact `dn ((to0 w2 Z rfl rfl).1 a2))]
   rfl
 have a6:`xv+`bj<=60:=`h
 have wb:=Ul0 w1 wq a6;have nb:=wk0 q1 qs;have l1:=w1.len;have lq:=wq.len;have al:=ax0 w1 wq wb;have s5:m5 `eB `ak7 `aPq=`a (.nx [`gr,`S,`c9,`rG,`aH,.sh (`xu),.un,.un,.un,.un,.un]):=j8 (d:=`xu) (by
  rw[o9 (ds:=[`Fz,`cT]) rfl];exact bs0 w1 wq)
 have a3:∀(s6 s7 s8 s9 J:Sl) (m:`K) (d:D),m `MH=`a5->oA `SW m [`gr,`S,`c9,`rG,`aH,.sh (`xu),s6,s7,s8,s9,J]=`a5:=λs6 s7 s8 s9 J m d h=>by
  rw[o9 (ds:=`MH) (`y rfl `aPt)];exact h
 have t1:m5 `SV `akY (Z9 od0 [`gk])=`a (.nx `aPu):=j8 (d:=`aN) (by rw[o9 (ds:=[`gk,`DU]) rfl];exact b1);have t2:m5 `d3 `akZ `aPu=`a (.nx `aPv):=j8 (d:=`lM) (ce 4 t _ ht);have t3:m5 `c7 `ak0 `aPv=`a (.nx `aPw):=j8 (d:=`Fz) (by
  rw[o9 (ds:=[`aN,`w9,`e c5]) (`y rfl (`y (by
   rw[o8 (x:=`eA) (y:=`e (t%4)) rfl (by rw[`aPx];exact `LY),← eT];rfl) (`y (ce 5 c5 _ h5) rfl)))]
  exact b3)
 have t4:m5 `d6 `ak1 `aPw=`a (.nx `MG):=j8 (d:=wd q2) (by
  rw[o9 (ds:=[`aN,`e (U:Int),`e (c6+5)]) (`y rfl (`y (by
   rw[o8 (x:=`eA) (y:=`e (t/4%4)) rfl (by rw[o8 (x:=`e (t/4)) (y:=`DR) (by rw[`aPx];exact `aPs) rfl];exact `LY),← eU];rfl) (`y (by rw[o8 (x:=`e c6) (y:=`e 5) (ce 6 c6 _ h6) rfl];rfl) rfl)))]
  exact b2)
 have a0:∀(fd wy:D),O4 `MH=`a fd->R8 `MH=`a wy->∀(rest:GS) (r:D),`bB (kS ns ps t q1 qs `he fd wy .un .un .un)=`tO ->
   v9 `aOg (v9 `aOh (v9 `aOi (v9 `aOj
   (v9 (ifD `acr
   (v9 `acs o4)
   (v9 (ifD `act (v9 `fW o4) o4) o4))
   (v9 `aOk (v9 `aOl (v9 `aOm `bB))))))) (Z9 od0 [`gk])=`tO:=λfd wy e6 e7 rest r hr =>
  p6 t1 (p6 t2 (p6 t3 (p6 t4 (p6 e5 (p6 s5 (p6 (j8 (a3 _ _ _ _ _ _ _ e6)) (p6 (j8 (a3 _ _ _ _ _ _ _ e7)) hr)))))))
 rcases Xu0 wb (p:=0) (q:=`xv) `d `d with⟨⟨x,r1,r2⟩,e6,w,hw,e7⟩|⟨B,ht',e6,e7⟩
 ·have na:¬`aPy:=λz=>r2 ((al.mpr z).2.2 x r1)
  refine j7 rfl (a0 _ _ e6 e7 _ _ (p6 (δ':=kS ns ps t q1 qs `he `A (`im) .un .un .un) ?_ `e'))
  ·rw[Z2 (by
    unfold zm0;rw[`dn (b:=`r) (by rw[o8 (x:=`gT) (y:=`gT) rfl ((`aPz).2 na)];exact j00 `b),`w,`a7];exact `dn (by rw[o8 (x:=`gT) (y:=`gT) rfl rfl];exact j00 `b))]
   rfl
  ·rw[`zX]
   refine `wD;rw[o9 (ds:=[`Fz,`cT,`im]) rfl];exact Xc0 w1 wq (Xr0 w1 wq hw)
 ·have ya:`aPy:=al.mp ⟨`h,`h,ht'.2.2⟩
  have few:=fv0 wb (p:=`MI) `aPA `aPB ht';obtain⟨L,eL,mL,lL⟩:=Xx0 (B:=B);rw[eL] at e6;have a4:∀p∈L,p.1<`aPC/\p.2<`aPC:=λp hp=>h90 wb (p:=`MI) `aPA `aPB (`aPD)
  have a5:∀p∈L,up `he `he L p:=λp hp=>by
   obtain⟨i1,i2⟩:=a4 p hp;have rp:=`aPD;have op:=ht'.2.2 p rp;exact⟨op.1,(gl0 (j4 wb i1).2 (j4 wb i2).2 L).mpr ⟨op.2,λy hy=>(mL y).mpr ((`Th y).mpr (.go rp hy))⟩⟩
  have h0:`MI∈L:=(mL _).mpr ((`Th _).mpr `l0);obtain⟨ks,vs,t9,f1,hm⟩:=ek0 ns ps t q1 qs `he `ma `A .un L [] [] .un `aLF;have hd:Dc L (`FA):=⟨ks,vs,rfl,λx=>by rw[hm];simp⟩;obtain⟨c1,_⟩:=pp0 (f:=gN 9) (G:=H2) (fun δ=>∃s9 J:Sl,δ=kS ns ps t q1 qs `he `ma `A `Ti s9 J) (λx=>∃p∈L,x=`gn) `p! `wZ (λx hx δ hδ=>by
   obtain⟨s9,J,rfl⟩:=hδ;obtain⟨p,O,rfl⟩:=`iM;obtain⟨i1,i2⟩:=a4 p O;obtain⟨b4,e⟩:=P60 ns ps t q1 qs `ma `A wb hd i1 i2 J (a5 p O);exact⟨_,rfl,λ_=>⟨_,e,_,_,rfl⟩,λz=>`L `aPE z⟩) (`aPF) `aIc
  obtain⟨δ',f2,u9,a7,rfl⟩:=c1 λx hx=>by
   obtain⟨p,O,rfl⟩:=`iM;exact`aPE
  refine j7 rfl (a0 _ _ e6 e7 _ _ (p6 (δ':=`acN) ?_ (p6 (δ':=`acN) ?_ (p6 (δ':=`acN) ?_ (p6 (δ':=kS ns ps t q1 qs `he `ma `A (.ow `ag0) .un .un) rfl (p6 (O7 (items:=`on) rfl f1) (p6 (δ':=kS ns ps t q1 qs `he `ma `A `Ti u9 a7) ?_ `z6)))))))
  ·rw[Z2 (by
    unfold zm0;rw[`dn (b:=`r) (by rw[o8 (x:=`m7) (y:=`m7) rfl ((`aPz).1 ya)];exact j00 `r),`w,`a7];exact `dn (by rw[o8 (x:=`m7) (y:=`m7) rfl rfl];exact j00 `r))]
   rfl
  ·rw[`zW];rfl
  ·rw[Z2 (by
    unfold zm0 nt0;rw[`dn (b:=`b) (by rw[o9 (ds:=[`xu,`rj]) rfl];exact Zq0 wb a4 `d a5)];show `mP (`b7) _=_;rw[`w,`a7];refine `abJ;rw[o8 (x:=pN `MI) (y:=`rj) (V3 `aPt `gm) rfl];exact Nn0 _ L h0)]
   rfl
  ·exact O7 (δ:=`aPF) (items:=`on) rfl f2
universe Ka
namespace Ka
open L2 DL W
noncomputable def top(i:Nat):`fX:=PySem.Challenge.pw_graphpack_k16_whole_alike_just_where_lea.main.body.getD i (.Pass ⟨0,0,0,0⟩)
theorem b_all:`fo `yG=`a (`dU `yG):=`aP
theorem b_dict:`Zd:=`aP
theorem b_int:`fo `g_=`aBO:=`aP
theorem b_list:`axZ:=`aP
theorem b_sorted:`aF0:=`aP
theorem b_tuple:`fo `eg=`a `xF:=`aP
theorem b_zip:`azU:=`aP
structure Txt(mg:`bR):Prop where
 b_all:mg `yG=`c
 b_dict:mg `e0=`c
 b_enumerate:mg `hT=`c
 b_int:mg `g_=`c
 b_isinstance:mg `sK=`c
 b_len:mg `nk=`c
 b_list:mg `cX=`c
 b_range:mg `pB=`c
 b_reversed:mg `lq=`c
 b_sorted:mg `lC=`c
 b_tuple:mg `eg=`c
 b_zip:mg `eS=`c
theorem fsc{P:`t}(a:`apA)(b:`apB)(c:`apC)(d:N.take `Vu=P)(e:`GD/\(∀x∈P,`Um)/\∀y∈`G5,`apD):`av N P sc:=⟨a,b,c,e.1,d,e.2.1,e.2.2⟩
theorem cok(a:scope.kind=`k5)(b:`arP)(c:(∀y∈`fu,`arM)/\(∀y∈`fu,`arN)/\(∀y∈`fu,`arO)/\N'.Nodup/\∀k∈`b? `p6,`arQ):`Iw:=⟨a,c.1,`ex,`ey,`ez,b,c.2.2.2.2⟩
section
variable{P:`_}{w:`E}
theorem kk0:`av vz0 `d7 (o5 `MJ):=`aD
theorem kg0(F:Fun K `FC `FC `MJ fa fd)(T:`az)  : `ag P w K mg `n CX0 1 fa fd `d7 (spN K G6) :=
 okN (k:=0) (G:=q10) F kk0 (λcdv A outer s H E hr=>(v6 (b8 (`kH (uw0 `ee (vj0 `ee)))
   (v6 `MK
   p7)
   p7)
   (v6 (O6 (vr0 (sc:=o5 `MJ) (N:=vz0) (N':=`FB) (n:=1) (caps:=[]) `c? `l `ML `acO `dJ `acP))
   p7))) `hD
theorem Ur0:`av aw0 `d7 (o5 `acQ):=`aD
theorem V80(F:Fun K `FJ `FJ `acQ fa fd)(T:`az)(C_pair_names:`aPG):`ag P w K mg `n CX0 2 fa fd `d7 (spD K V5) :=
 okD (k:=1) (G:=a90) F Ur0 (λcdv A outer s H E hr=>(v6 (b8 `ee
   (v6 (m9 (Y8 (v5 Z7 `alv)))
   p7)
   p7)
   (v6 (b8 `ee
   (v6 `aPH
   p7)
   p7)
   (v6 (b8 `ee
   (v6 (m9 (Y8 (v5 Z7 `aPI)))
   p7)
   p7)
   (v6 (m9 (Y8 (v5 Z7 (v5 `kc `aPI))))
   p7))))) `a9
theorem Zd0:`av po0 `d7 (o5 `MM):=`aD
theorem b70(F:Fun K `FF `FF `MM fa fd)(T:`az)  : `ag P w K mg `n CX0 1 fa fd `d7 (spN K `g5) :=
 okN (k:=0) (G:=i70) F Zd0 (λcdv A outer s H E hr=>(v6 (b8 `ee
   (v6 `MK
   p7)
   p7)
   (v6 (b8 `ee
   (v6 `aPJ
   p7)
   p7)
   (v6 (O6 (vr0 (sc:=o5 `MM) (N:=po0) (N':=`FB) (n:=1) (caps:=[]) `c? `l `ML `acO `dJ `acP))
   p7)))) `hD
theorem t20:`av sf0 `acR (o5 `acS):=`aD
theorem mz0(F:Fun K `MN `MN `acS fa fd)(T:`az)(C_pair_names:`aPG):`ag P w K mg `n CX0 2 fa fd `acR (spD K y50) :=
 okD (k:=1) (G:=sm0) F t20 (λcdv A outer s H E hr=>(v6 (b8 `ee
   (v6 `MO
   p7)
   p7)
   (v6 (b8 `ee
   (v6 `acT
   p7)
   p7)
   (v6 (m8 (Zi0 nw0 ah0 `dp `MP `dq b_zip (v5 `alw `kd)) (o7 2 t20.nd))
   (v6 (b8 `ee
   (v6 (m9 `aPK)
   p7)
   p7)
   (v6 (m9 (Y8 (v5 Z7 (v5 `kc `fI))))
   p7)))))) `a9
theorem X60:`av m70 `d7 (o5 `MQ):=`aD
theorem Yi0(F:Fun K `MR `MR `MQ fa fd)(T:`az)(C_values:`Az):`ag P w K mg `n CX0 2 fa fd `d7 (spN K xy0) :=
 okN (k:=1) (G:=fi0) F X60 (λcdv A outer s H E hr=>(v6 (O6 (vr0 (sc:=o5 `MQ) (N:=m70) (N':=[`wm]) (n:=1) (caps:=[]) `c? `l `aPL (λcl s H ex=>o7 0 (`aP:([`wm]:`t).Nodup)) (λcl s H ex=>(eg0 `aPM)) `acP))
   p7)) `hD
theorem Rj0:`av Wo0 `gC (o5 `AA):=`aD
theorem Ze0(F:FunV K `i3 `i3 `AA fa fd dV)(T:`az)(C_met_but:FnN P w K mg `n `MS 3 `acU v30):`ag P w K mg `n CX0 4 fa fd `gC (spN K wv0) :=
 Nm0 (k:=3) (G:=Wk0) F Rj0 (λcdv A outer s H E hr=>(v6 (O6 (sy0 C_met_but hr `l (v5 `aq (v5 `aX (v5 Yp0 v8)))))
   p7)) `hD
theorem wb0:`av k50 `acU (o5 `acV):=`aD
theorem d10(F:Fun K `MS `MS `acV fa fd)(T:`az)(C_links:FnN P w K mg `n `MR 2 `d7 xy0):`ag P w K mg `n CX0 3 fa fd `acU (spN K v30) :=
 okN (k:=2) (G:=lj0) F wb0 (λcdv A outer s H E hr=>(v6 (S5 3 `hf `MT)
   (v6 (S5 4 (dk0 T.b_dict b_dict `b4) `MT)
   (v6 (S5 5 (O9 `kd) `MT)
   (v6 (ul0 100000 D0 (d7 Wf0 br0 (q60 (U9 `hg `acW)) p8)
   (v6 (xp0 (Rk0 5) (Tr0 (o7 6 `MT)))
   (v6 (b8 (m50 (tu0 `fj `dI `cc))
   (v6 (xp0 (tl0 xh0) (md0 4 `fj `dI))
   (v6 (Q7 (yg0 3 `dI))
   (v6 (Q7 (S40 5 (PDF.pd (i90 `FD `aPN (R5 C_links hr `l (v5 (o6 `aq `dI) v8))))))
   p7)))
   p7)
   p7)))
   (v6 `acX
   p7)))))) `hD
theorem qw0:`av tr0 `Tk (o5 `MU):=`aD
theorem gy0(F:Fun K `FG `FG `MU fa fd)(T:`az)(C_values:`Az)(C_with_values:FnD P w K mg `n `MN 2 `acR y50):`ag P w K mg `n CX0 3 fa fd `Tk (spD K U3) :=
 okD (k:=2) (G:=o50) F qw0 (λcdv A outer s H E hr=>(v6 (Yc0 2 qw0.nd (sc:=o5 `MU) (N:=tr0) (N':=`aPO) (n:=1) (caps:=[1]) `c? `l `aPL (λcl s H ex=>o7 0 (`aP:(`aPO:`t).Nodup)) `dJ (λcl s H ex=>(Qz0 `aPM (Y8 (v5 Z7 (v5 (tm0 `fj `aX `kc) v8))) `aq)))
   (v6 (m9 (d8 C_with_values hr `l `acY))
   p7))) `a9
theorem sb0:`av m90 `gC (o5 `t2):=`aD
theorem ij0(F:FunV K `kI `kI `t2 fa fd dV)(T:`az)(C_met:FnN P w K mg `n `i3 4 `gC wv0)(C_relinked:`acZ):`ag P w K mg `n CX0 5 fa fd `gC (spD K wq0) :=
 Q20 (k:=4) (G:=e80) F sb0 (λcdv A outer s H E hr=>(v6 (m8 (Xt0 (sy0 C_met hr `l `AB)).pd (o7 2 sb0.nd))
   (v6 (S5 3 ra0 sb0.nd)
   (v6 (Q6 D0 rfl (ga0 `ac_ `fI) (wp0 4 5 sb0.nd `l)
   (v6 (xp0 (tl0 `cc) (md0 3 `fj `c!))
   p7))
   (v6 (zf0 (U5 W2 zj0 `dp `dq (v5 (K6 (sc:=o5 `t2) (N:=m90) (N':=`aPP) (n:=1) (caps:=[0,3]) `c? `l `ac0 (λcl s H ex=>o7 0 (`aP:(`aPP:`t).Nodup)) `dJ `alA) v8)))
   p7))))) `a9
theorem sq0:`av rz0 `pg (o5 `ac1):=`aD
theorem kf0(F:Fun K `MV `MV `ac1 fa fd)(T:`az)(C_paired_walk:`aPQ):`ag P w K mg `n CX0 5 fa fd `pg (spD K O4) :=
 okD (k:=4) (G:=ru0) F sq0 (λcdv A outer s H E hr=>(v6 (m8 `aPR (o7 3 sq0.nd))
   (v6 (b8 (d7 ms0 pe0 `rK zq0)
   (v6 `MW
   p7)
   p7)
   (v6 (m9 (PDF.pd (Zc0 rfl T.b_sorted b_sorted `rK)))
   p7)))) `a9
theorem mf0:`av sh0 `pg (o5 `ac2):=`aD
theorem mu0(F:Fun K `MX `MX `ac2 fa fd)(T:`az)(C_paired_walk:`aPQ):`ag P w K mg `n CX0 5 fa fd `pg (spD K R8) :=
 okD (k:=4) (G:=sd0) F mf0 (λcdv A outer s H E hr=>(v6 (m9 (o6 `aPR p8))
   p7)) `a9
theorem M5:`av xj0 `Tm (o5 `ac3):=`aD
theorem l70(F:Fun K `FH `FH `ac3 fa fd)(T:`az)(C_are_links:`ac4)(C_are_parting:FnD P w K mg `n `MY 3 `ac5 N6)(C_head:`MZ)(C_linked_pair:`ac6)(C_values:`Az)(C_way_to:FnN P w K mg `n `M_ 1 `ac7 wj0):`ag P w K mg `n CX0 4 fa fd `Tm (spD K Y5) :=
 okD (k:=3) (G:=sl0) F M5 (λcdv A outer s H E hr=>(v6 (S5 3 (cy0 `aPS `b4 zq0) `t3)
   (v6 (b8 `aPT
   (v6 (zf0 (Y8 (v5 `bX (v5 (vv0 v8) v8))))
   p7)
   p7)
   (v6 (S5 4 (O9 `fI) `t3)
   (v6 (m8 p8 (o7 5 `t3))
   (v6 (ul0 100000 D0 (d7 wx0 yz0 `c! (q60 (U9 `hg `oC)))
   (v6 (m8 (ec0 (o6 `cc `c!)) (o7 6 `t3))
   (v6 (Vq0 5 `t3 p8)
   (v6 (Q6 D0 rfl (b40 `ac_ `MP (v5 (R5 `rI hr `l (v5 (o6 `aq `aPU) v8)) (v5 (R5 `rI hr `l (v5 (o6 `aX `aPU) v8)) v8))) (wp0 7 8 `t3 `l)
   (v6 (b8 (K7 (d8 C_are_parting hr `l (v5 `aq (v5 `aX `Tp))))
   (v6 (zf0 (Y8 (v5 `bX (v5 (X5 (R5 C_way_to hr `l (v5 `bX `M0)) (vv0 `ac8)) v8))))
   p7)
   p7)
   (v6 (b8 (`kH (m20 (K7 (d8 `ac9 hr `l `Tp)) (o10 (m50 (tu0 `fj `ac' `bX)))))
   (v6 (xp0 (tl0 (Y8 (v5 `dI `ac8))) (gr0 3 `fj `ac'))
   (v6 (Q7 (yg0 4 `ac'))
   p7))
   p7)
   p7)))
   p7))))
   (v6 (zf0 (Y8 (v5 `bX (v5 zq0 v8))))
   p7))))))) `a9
theorem um0:`av gi0 `ac7 (o5 `ac!):=`aD
theorem cs0(F:Fun K `M_ `M_ `ac! fa fd)(T:`az)  : `ag P w K mg `n CX0 1 fa fd `ac7 (spN K wj0) :=
 okN (k:=0) (G:=jo0) F um0 (λcdv A outer s H E hr=>(v6 (S5 2 `hf um0.nd)
   (v6 (m8 (tm0 `fj `aq `aX) (o7 3 um0.nd))
   (v6 (ul0 100000 D0 (d7 ms0 pe0 `bX zq0)
   (v6 (Q7 (yg0 2 `rK))
   (v6 (m8 (tm0 `fj `aq `rK) (o7 3 um0.nd))
   p7)))
   (v6 (b30 (i90 `FD `aPN `b4))
   p7))))) `hD
theorem if0:`av ut0 `mc (o5 `ac?):=`aD
theorem ig0(F:Fun K `FI `FI `ac? fa fd)(T:`az)  : `ag P w K mg `n CX0 1 fa fd `mc (spD K W8) :=
 okD (k:=0) (G:=p90) F if0 (λcdv A outer s H E hr=>(v6 (m9 (ie0 `aPV (ix0 `aPV)))
   p7)) `a9
theorem mq0:`av sg0 `mc (o5 `ada):=`aD
theorem mw0(F:Fun K `FK `FK `ada fa fd)(T:`az)  : `ag P w K mg `n CX0 1 fa fd `mc (spD K Z1) :=
 okD (k:=0) (G:=sr0) F mq0 (λcdv A outer s H E hr=>(v6 (m9 (Y8 (v5 `aPW (v5 `aPW v8))))
   p7)) `a9
theorem tg0:`av ss0 `ac5 (o5 `adb):=`aD
theorem mi0(F:Fun K `MY `MY `adb fa fd)(T:`az)(C_are_links:`ac4)(C_head:`MZ)(C_linked_pair:`ac6):`ag P w K mg `n CX0 3 fa fd `ac5 (spD K N6) :=
 okD (k:=2) (G:=si0) F tg0 (λcdv A outer s H E hr=>(v6 (b8 (K7 (d8 `ac9 hr `l `fI))
   (v6 (m8 (d8 `To hr `l `fI) (o7 3 tg0.nd))
   (v6 (m9 (w90 `fJ K9 (d8 `xw hr `l `aPX) (d8 `xw hr `l `aPY)))
   p7))
   p7)
   (v6 (m9 (w90 `fJ K9 `oz `oz))
   p7))) `a9
theorem h80:`av pa0 `MB (o5 `adc):=`aD
theorem j20(F:Fun K `M1 `M1 `adc fa fd)(T:`az)(C_are_closed:FnD P w K mg `n `M2 4 `add ys0):`ag P w K mg `n CX0 5 fa fd `MB (spD K ww0) :=
 okD (k:=4) (G:=p20) F h80 (λcdv A outer s H E hr=>(v6 (m9 (d8 C_are_closed hr `l (v5 `aq `AB)))
   p7)) `a9
theorem sw0:`av wa0 `add (`ade):=`aD
theorem km0(F:Fun K `M2 `M2 `Tq fa fd)(T:`az)(C_are_parts:FnD P w K mg `n `M3 1 `Lo ya0)(C_is_upheld:FnD P w K mg `n `M4 3 `adf y80):`ag P w K mg `n CX0 4 fa fd `add (spD K ys0) :=
 okD (k:=3) (G:=ri0) F sw0 (λcdv A outer s H E hr=>(v6 (m8 (PDF.pd (cx0 (d4 (B30 (`ah:2<=64) _) `md) rfl T.b_dict b_dict (K6 (sc:=`ade) (N:=wa0) (N':=`FB) (n:=1) (caps:=[]) `c? `l `ac0 `acO `dJ (λcl s H ex=>(Y8 (v5 `aq (v5 xh0 v8))))))) (o7 3 sw0.nd))
   (v6 (m9 (pr0 (Yz0 rfl) Qd0 T.b_all b_all (v5 (K6 (sc:=`ade) (N:=wa0) (N':=`aPZ) (n:=1) (caps:=[0,1,3]) `c? `l `ac0 (λcl s H ex=>o7 0 (`aP:(`aPZ:`t).Nodup)) `dJ (λcl s H ex=>(ie0 (d8 C_are_parts hr `l (v5 `aX (v5 `b4 `rH))) (ix0 (d8 C_is_upheld hr `l (v5 `aX (v5 `b4 (v5 `aq `mh)))))))) v8)))
   p7))) `a9
theorem h00:`av p30 `Lo (o5 `adg):=`aD
theorem jv0(F:Fun K `M3 `M3 `adg fa fd)(T:`az)  : `ag P w K mg `n CX0 1 fa fd `Lo (spD K ya0) :=
 okD (k:=0) (G:=qz0) F h00 (λcdv A outer s H E hr=>(v6 (m9 (ie0 (h50 W40 bx0 wx0 yz0 p8 `oz `rM) (ix0 (h50 W40 bx0 wx0 yz0 p8 `oz `Ty))))
   p7)) `a9
theorem rw0:`av p70 `adf (o5 `adh):=`aD
theorem i30(F:Fun K `M4 `M4 `adh fa fd)(T:`az)(C_are_links:`ac4)(C_head:`MZ)(C_linked_pair:`ac6)(C_values:`Az):`ag P w K mg `n CX0 3 fa fd `adf (spD K y80) :=
 okD (k:=2) (G:=qv0) F rw0 (λcdv A outer s H E hr=>(v6 (b8 `aPT
   (v6 `kJ
   p7)
   p7)
   (v6 (Q6 D0 rfl (Xq0 `MP (v5 (R5 `rI hr `l `FL) (v5 (R5 `rI hr `l `FM) v8))) (o7 4 rw0.nd)
   (v6 (b8 (K7 (d8 `ac9 hr `l `oC))
   (v6 (b8 (tu0 `fj (d8 `To hr `l `oC) `bX)
   (v6 `kJ
   p7)
   p7)
   p7)
   (v6 (b8 (d7 `fJ K9 `adi `adi)
   (v6 `kJ
   p7)
   p7)
   p7))
   p7))
   (v6 `kJ
   p7)))) `a9
theorem u70:`av mp0 [`cR] (o5 `M5):=`aD
theorem Zv0(F:Fun K `M6 `M6 `M5 fa fd)(T:`az)(C_look_groups:FnD P w K mg `n `M7 4 `adj xm0)(C_relinked:`acZ)(Cd_drawn:jx0 P w K mg `n `kI 5 `gC wq0 `ka)(Cd_met:c60 P w K mg `n `i3 4 `gC wv0 `ka):`ag P w K mg `n CX0 6 fa fd [`cR] (spD K W3) :=
 okD (k:=5) (G:=fs0) F u70 (λcdv A outer s H E hr=>(v6 (m8 (U70 Cd_met hr `l `rH) (o7 1 `M8))
   (v6 (m8 (d8 C_look_groups hr `l `AB) (o7 2 `M8))
   (v6 (S5 3 ra0 `M8)
   (v6 (Q6 D0 rfl `Tt (o7 4 `M8)
   (v6 (Q7 (Ss0 3 (tm0 `fj `b4 `cc) `cc))
   p7))
   (v6 (zf0 (gc0 Cd_drawn hr `l (v5 (U5 W2 zj0 `dp `dq (v5 (K6 (sc:=o5 `M5) (N:=mp0) (N':=`aP_) (n:=1) (caps:=[0,2,3]) `c? `l (O2 `mg (v5 (pr0 ci0 Vk0 `hg B40 `mh) v8)) (λcl s H ex=>o7 0 (`aP:(`aP_:`t).Nodup)) `dJ (λcl s H ex=>(d8 `alx hr `l (v5 (o6 `aX (tm0 `fj `bX `aq)) `fI)))) v8)) v8)))
   p7)))))) `a9
theorem zo0:`av y60 `adj (`Ts):=`aD
theorem my0(F:Fun K `M7 `M7 `Tr fa fd)(T:`az)(C_grouped:FnN P w K mg `n `M9 1 `adk zx0)(C_head:`MZ)(C_relinked:`acZ):`ag P w K mg `n CX0 4 fa fd `adj (spD K xm0) :=
 okD (k:=3) (G:=sn0) F zo0 (λcdv A outer s H E hr=>(v6 (m8 (R5 `alB hr `l (v5 `aX (v5 (K6 (sc:=`Ts) (N:=y60) (N':=`aP0) (n:=1) (caps:=[0]) `c? `l `Tt (λcl s H ex=>o7 0 (`aP:(`aP0:`t).Nodup)) `dJ (λcl s H ex=>(d8 `xw hr `l `aP1))) v8))) (o7 2 zo0.nd))
   (v6 `aP2
   (v6 (ul0 100000 D0 (d7 (Rg0 `aPS) T20 `bX `b4)
   (v6 (m8 `bX (o7 2 zo0.nd))
   (v6 `aP2
   p7)))
   (v6 (m9 `b4)
   p7))))) `a9
theorem vd0:`av k80 `adk (o5 `adl):=`aD
theorem ey0(F:Fun K `M9 `M9 `adl fa fd)(T:`az)  : `ag P w K mg `n CX0 1 fa fd `adk (spN K zx0) :=
 okN (k:=0) (G:=lr0) F vd0 (λcdv A outer s H E hr=>(v6 (Xd0 2 vd0.nd)
   (v6 (S5 3 ra0 vd0.nd)
   (v6 (Q6 D0 rfl (Ut0 `MP `AB) (wp0 4 5 vd0.nd `l)
   (v6 (xp0 (Ux0 2 (d4 (B30 (`ah:12<=64) _) `md) `c! (V60 2 `hg)) (md0 3 `fj `cc))
   p7))
   (v6 `acX
   p7))))) `hD
theorem yy0:`av o30 `AC (o5 `AD):=`aD
theorem p80(F:FunV K `kK `kK `AD fa fd dV)(T:`az)(C_values_behind:FnN P w K mg `n `M' 2 `Lp z80):`ag P w K mg `n CX0 3 fa fd `AC (spD K R7) :=
 Q20 (k:=2) (G:=n60) F yy0 (λcdv A outer s H E hr=>(v6 (m8 `aPK `aP3)
   (v6 (Q6 D0 rfl (ga0 `ac_ `kd) (wp0 4 5 `Tu `l)
   (v6 (m8 (R5 C_values_behind hr `l (v5 `aq `mh)) (o7 6 `Tu))
   (v6 (b8 (`kH (uw0 (d7 wx0 yz0 `c! p8) (vj0 (d7 Pf0 R80 `c! (U9 `hg `M0)))))
   (v6 ar0
   p7)
   p7)
   (v6 (m8 (o6 `dI `c!) `aP3)
   p7))))
   (v6 (m9 `bX)
   p7)))) `a9
theorem pf0:`av uf0 `Lp (o5 `adm):=`aD
theorem px0(F:Fun K `M' `M' `adm fa fd)(T:`az)(C_values:`Az):`ag P w K mg `n CX0 2 fa fd `Lp (spN K z80) :=
 okN (k:=1) (G:=uk0) F pf0 (λcdv A outer s H E hr=>(v6 (b8 (en0 (K7 (ym0 M8 `dq `mb `dp `aX)))
   (v6 `MK
   p7)
   p7)
   (v6 (O6 (sy0 `rI hr `l (v5 (o6 `aq (o6 `aX p8)) v8)))
   p7))) `hD
theorem no0:`av ux0 `FY (o5 `adn):=`aD
theorem on0(F:Fun K `FX `FX `adn fa fd)(T:`az)  : `ag P w K mg `n CX0 1 fa fd `FY (spD K j5) :=
 okD (k:=0) (G:=uy0) F no0 (λcdv A outer s H E hr=>(v6 (b8 (d7 wx0 yz0 `aX `rM)
   (v6 (m9 (o6 `aq `aX))
   p7)
   p7)
   (v6 (m9 p8)
   p7))) `a9
theorem U4:`av wz0 `ado (`adp):=`aD
theorem jz0(F:Fun K `M! `M! `Tv fa fd)(T:`az)  : `ag P w K mg `n CX0 1 fa fd `ado (spN K yx0) :=
 okN (k:=0) (G:=p50) F U4 (λcdv A outer s H E hr=>(v6 (m8 Z7 (o7 2 `ke))
   (v6 (m8 (X5 p8 `AE) (o7 3 `ke))
   (v6 `aP4
   (v6 (S5 4 `hf `ke)
   (v6 (Q6 D0 rfl (O2 `mg `mh) `aP5
   (v6 (Q7 (yg0 4 `AE))
   (v6 `aP4
   p7)))
   (v6 (m8 (q60 (U50 Z7 (v5 (K6 (sc:=`adp) (N:=wz0) (N':=`aP6) (n:=1) (caps:=[2]) `c? `l (Q0 `cc) (λcl s H ex=>o7 0 (`aP:(`aP6:`t).Nodup)) `dJ (λcl s H ex=>`Tl)) v8))) (o7 6 `ke))
   (v6 (b8 (d7 K8 Q8 (X7 `adq p8) p8)
   (v6 (O6 (vr0 (sc:=`adp) (N:=wz0) (N':=`aP7) (n:=1) (caps:=[6]) `c? `l (c80 `mg `adr) (λcl s H ex=>o7 0 (`aP:(`aP7:`t).Nodup)) `dJ (λcl s H ex=>(zw0 (T40 p8 `aX) xt0 (zy0 `aq)))))
   p7)
   p7)
   (v6 (m8 (X7 `aX `bX) (o7 7 `ke))
   (v6 (S5 8 `hf `ke)
   (v6 (Q6 D0 rfl (O2 `mg `xz) `aP5
   (v6 (m8 (o6 `b4 (X7 (X5 (q60 (o6 `cc `me)) (zs0 p8 `c!)) p8)) (o7 9 `ke))
   (v6 (Q7 (yg0 8 (X5 (X5 (zw0 `dI xt0 (zy0 `me)) (w6 9)) (zw0 `dI (zy0 (X5 `me p8)) xt0))))
   p7)))
   (v6 (s60 8)
   p7)))))))))))) `hD
theorem fe0:`av ot0 `FS (o5 `ads):=`aD
theorem fb0(F:Fun K `FR `FR `ads fa fd)(T:`az)  : `ag P w K mg `n CX0 1 fa fd `FS (spD K U7) :=
 okD (k:=0) (G:=oo0) F fe0 (λcdv A outer s H E hr=>(v6 (m9 (X7 (zs0 (X5 `AE p8) (X5 p8 (zs0 p8 `aX))) p8))
   p7)) `a9
theorem sj0:`av rm0 `Tx (o5 `adt):=`aD
theorem kd0(F:Fun K `FQ `FQ `adt fa fd)(T:`az)  : `ag P w K mg `n CX0 1 fa fd `Tx (spD K K4) :=
 okD (k:=0) (G:=qe0) F sj0 (λcdv A outer s H E hr=>(v6 (m8 `AE (o7 2 sj0.nd))
   (v6 (b8 `aP8
   (v6 (m9 (Y8 (v5 Z7 (v5 (X7 `FP `aX) v8))))
   p7)
   p7)
   (v6 (b8 (d7 K8 Q8 `b4 p8)
   (v6 `MW
   p7)
   p7)
   (v6 (b8 `aP8
   (v6 (m9 (Z30 `AF p8))
   p7)
   p7)
   (v6 (m9 (zs0 (X7 (cg0 `FP p8) (cg0 p8 p8)) (Z30 p8 (zs0 p8 `AF))))
   p7)))))) `a9
theorem yw0:`av se0 `adu (o5 `adv):=`aD
theorem mn0(F:Fun K `M? `M? `adv fa fd)(T:`az)(C__law_value:`aP9):`ag P w K mg `n CX0 2 fa fd `adu (spN K y30) :=
 okN (k:=1) (G:=sv0) F yw0 (λcdv A outer s H E hr=>(v6 (S5 3 `hf yw0.nd)
   (v6 (Q6 D0 rfl `adw (o7 4 yw0.nd)
   (v6 (m8 (X7 (zs0 `aq p8) p8) (o7 0 yw0.nd))
   (v6 (Q7 (yg0 3 (d8 `aP' hr `l `acY)))
   p7)))
   (v6 `acX
   p7)))) `hD
theorem w80:`av us0 `adx (o5 `Na):=`aD
theorem i50(F:Fun K `Nb `Nb `Na fa fd)(T:`az)  : `ag P w K mg `n CX0 1 fa fd `adx (spD K xb0) :=
 okD (k:=0) (G:=qy0) F w80 (λcdv A outer s H E hr=>(v6 (m8 `AE (o7 3 w80.nd))
   (v6 (b8 (d7 K8 Q8 `bX p8)
   (v6 (m9 (Y8 (v5 Z7 (v5 (o6 (vv0 (v5 Z7 (v5 Z7 (v5 Z7 (v5 (X5 `oz Z7) v8))))) `AF) v8))))
   p7)
   p7)
   (v6 (b8 `aP!
   (v6 `acT
   p7)
   p7)
   (v6 (m8 (zs0 `AF p8) (o7 4 w80.nd))
   (v6 (m8 (U5 W2 zj0 `dp `dq (v5 (K6 (sc:=o5 `Na) (N:=us0) (N':=`aP?) (n:=1) (caps:=[1,2,4]) `c? `l `ady (λcl s H ex=>o7 0 (`aP:(`aP?:`t).Nodup)) `dJ (λcl s H ex=>(Y8 (v5 (o6 `b4 (X7 (X5 `bX `aq) p8)) `aP1)))) v8)) (o7 5 w80.nd))
   (v6 (b8 `aP!
   (v6 (m9 (Y8 (v5 Z7 `acW)))
   p7)
   p7)
   (v6 (m9 (Y8 (v5 Z7 (v5 (o6 `b4 `AF) `acW))))
   p7)))))))) `a9
theorem zh0:`av nl0 `adz (o5 `adA):=`aD
theorem f00(F:Fun K `Nc `Nc `adA fa fd)(T:`az)(C__law_mix:`adB)(C__law_part:FnD P w K mg `n `Nb 1 `adx xb0)(C__law_values:FnN P w K mg `n `M? 2 `adu y30):`ag P w K mg `n CX0 3 fa fd `adz (spD K wg0) :=
 okD (k:=2) (G:=o60) F zh0 (λcdv A outer s H E hr=>(v6 (S5 3 `hf `xA)
   (v6 (Q6 D0 rfl `adw (o7 4 `xA)
   (v6 (m8 (d8 `adC hr `l (v5 (X5 (o6 `aq (X7 `cc `rM)) (zs0 `cc (R3 `cc `rM))) `oC)) (o7 5 `xA))
   (v6 (m8 (o6 (vv0 (v5 p8 (v5 p8 (v5 p8 (v5 p8 (v5 p8 (v5 p8 `adr))))))) (X7 `adD p8)) `aQa)
   (v6 (b8 (d7 K8 Q8 (X7 `adD p8) p8)
   (v6 (m8 (o6 (vv0 `adr) (U5 az0 Rn0 T.b_int b_int (v5 (w90 wx0 yz0 (X7 `c! p8) p8) v8))) `aQa)
   p7)
   p7)
   (v6 (m8 (R5 C__law_values hr `l (v5 (X5 `adD p8) (v5 `dI `kd))) (o7 7 `xA))
   (v6 (Q7 (yg0 3 (d8 C__law_part hr `l (v5 `c! (v5 `me `fI)))))
   p7))))))
   (v6 `aQb
   p7)))) `a9
theorem ic0:`av uu0 `mi (o5 `Nd):=`aD
theorem jw0(F:Fun K `FT `FT `Nd fa fd)(T:`az)  : `ag P w K mg `n CX0 1 fa fd `mi (spN K Z0) :=
 okN (k:=0) (G:=p10) F ic0 (λcdv A outer s H E hr=>(v6 (b8 `ee
   (v6 `MK
   p7)
   p7)
   (v6 (b8 `ee
   (v6 `aPJ
   p7)
   p7)
   (v6 (O6 (vr0 (sc:=o5 `Nd) (N:=uu0) (N':=`TA) (n:=2) (caps:=[]) `c? `l `ML `aQc `dJ (λcl s H ex=>`aX)))
   p7)))) `hD
theorem j50:`av ur0 `mi (o5 `Ne):=`aD
theorem gd0(F:Fun K `FZ `FZ `Ne fa fd)(T:`az)  : `ag P w K mg `n CX0 1 fa fd `mi (spD K V8) :=
 okD (k:=0) (G:=qx0) F j50 (λcdv A outer s H E hr=>(v6 (b8 `ee
   (v6 `aPH
   p7)
   p7)
   (v6 (b8 `ee
   (v6 `MO
   p7)
   p7)
   (v6 (m9 (X5 `aQd (Y8 (v5 (U5 W2 zj0 `dp `dq (v5 (K6 (sc:=o5 `Ne) (N:=ur0) (N':=`TA) (n:=2) (caps:=[]) `c? `l `ML `aQc `dJ `aQe) v8)) v8))))
   p7)))) `a9
theorem jl0:`av uq0 `FV (o5 `Nf):=`aD
theorem gf0(F:Fun K `FU `FU `Nf fa fd)(T:`az)  : `ag P w K mg `n CX0 1 fa fd `FV (spD K W9) :=
 okD (k:=0) (G:=p40) F jl0 (λcdv A outer s H E hr=>(v6 (b8 `ee
   (v6 `MO
   p7)
   p7)
   (v6 (b8 `ee
   (v6 `acT
   p7)
   p7)
   (v6 (m9 (X5 `aQd (Y8 (v5 (U5 W2 zj0 `dp `dq (v5 (K6 (sc:=o5 `Nf) (N:=uq0) (N':=`aQf) (n:=1) (caps:=[0,1]) `c? `l `ady (λcl s H ex=>o7 0 (`aP:(`aQf:`t).Nodup)) `dJ (λcl s H ex=>(Y8 (v5 (o6 (o6 (o6 `aX `Tj) `aq) p8) (v5 (o6 `b4 `aq) v8))))) v8)) v8))))
   p7)))) `a9
theorem wy0:`av nu0 `AG (o5 `adE):=`aD
theorem ff0(F:Fun K `Ng `Ng `adE fa fd)(T:`az)(C__law_vals:`Nh)(C__law_with:`adF):`ag P w K mg `n CX0 2 fa fd `AG (spD K J6) :=
 okD (k:=1) (G:=nh0) F wy0 (λcdv A outer s H E hr=>(v6 (S5 2 `hf wy0.nd)
   (v6 (Q6 D0 rfl (Q0 (R5 `AH hr `l `rH)) (o7 3 wy0.nd)
   (v6 (b8 `aQg
   (v6 (m8 (Y8 (v5 Z7 `aPY)) (o7 3 wy0.nd))
   p7)
   p7)
   (v6 (Q7 (yg0 2 `bX))
   p7)))
   (v6 (zf0 (d8 `adG hr `l `acY))
   p7)))) `a9
theorem T7:`av sk0 `adH (o5 `adI):=`aD
theorem mh0(F:Fun K `Ni `Ni `adI fa fd)(T:`az)(C__law_mix:`adB)(C__law_vals:`Nh)(C__law_with:`adF):`ag P w K mg `n CX0 2 fa fd `adH (spD K T4) :=
 okD (k:=1) (G:=su0) F T7 (λcdv A outer s H E hr=>(v6 (S5 3 `hf `rN)
   (v6 (Q6 D0 rfl (O2 `mg `aQh) (o7 4 `rN)
   (v6 (Q6 D0 rfl `adw (o7 5 `rN)
   (v6 (S5 6 `hf `rN)
   (v6 (m8 (d8 `adC hr `l (v5 (X5 `b4 (zs0 `c! `c!)) (v5 (X5 `cc p8) v8))) `aQi)
   (v6 (Q6 D0 rfl (Q0 (R5 `AH hr `l (v5 (o6 `aq `cc) v8))) `aQj
   (v6 (m8 (X7 (zs0 `me p8) p8) `aQi)
   (v6 (b8 (K7 (ym0 M8 `dq `mb `dp `FN))
   (v6 (m8 (Y8 (v5 Z7 (v5 (X5 (zs0 (o6 `FN p8) `aX) (X7 `me `aX)) v8))) `aQj)
   p7)
   p7)
   (v6 (Q7 (yg0 6 `FN))
   p7))))
   (v6 (Q7 (yg0 3 (ec0 (d8 `adG hr `l (v5 (o6 `aq `cc) `M0)))))
   p7)))))
   p7))
   (v6 `aQb
   p7)))) `a9
theorem xl0:`av q80 `adJ (o5 `adK):=`aD
theorem ke0(F:Fun K `Nj `Nj `adK fa fd)(T:`az)(C__law_cell_at:`aQk)(C__law_pool:FnN P w K mg `n `M! 1 `ado yx0)(C__law_web:FnD P w K mg `n `Nc 3 `adz wg0):`ag P w K mg `n CX0 4 fa fd `adJ (spD K G3) :=
 okD (k:=3) (G:=rb0) F xl0 (λcdv A outer s H E hr=>(v6 (m8 (R5 C__law_pool hr `l (v5 `rO `adL)) (o7 2 xl0.nd))
   (v6 (m8 `rO (o7 3 xl0.nd))
   (v6 (m8 (X5 p8 (X7 `bX `aX)) (o7 4 xl0.nd))
   (v6 (m9 (d8 C__law_web hr `l (v5 (X5 (zw0 `aq (zy0 p8) (zy0 p8)) (vv0 `adL)) (v5 `cc `fI))))
   p7))))) `a9
theorem yf0:`av ta0 `adM (o5 `adN):=`aD
theorem oe0(F:Fun K `Nk `Nk `adN fa fd)(T:`az)(C__law_vals:`Nh)(C__law_value:`aP9)(C__law_with:`adF):`ag P w K mg `n CX0 2 fa fd `adM (spD K M4) :=
 okD (k:=1) (G:=ti0) F yf0 (λcdv A outer s H E hr=>(v6 (m8 (X7 `aX `rM) (o7 2 yf0.nd))
   (v6 (S5 3 (sy0 `AH hr `l (v5 (o6 `aq `b4) v8)) yf0.nd)
   (v6 (b8 (m50 (d7 (bg0 `md) e50 `bX (vv0 v8)))
   (v6 `MO
   p7)
   p7)
   (v6 (m8 (X7 `adq (q60 `alI)) (o7 4 yf0.nd))
   (v6 (xp0 (tl0 (d8 `aP' hr `l (v5 (X7 `adq p8) `aQh))) (T80 3 `cc))
   (v6 (zf0 (X5 (X5 (zw0 `aq xt0 (zy0 `b4)) (Y8 (v5 (d8 `adG hr `l (v5 (o6 `aq `b4) `mh)) v8))) (zw0 `aq (zy0 (X5 `b4 p8)) xt0)))
   p7))))))) `a9
theorem y20:`av rq0 `adO (o5 `adP):=`aD
theorem kl0(F:Fun K `Nl `Nl `adP fa fd)(T:`az)(C__law_head:`aQl)(C__law_vals:`Nh):`ag P w K mg `n CX0 2 fa fd `adO (spD K zu0) :=
 okD (k:=1) (G:=r00) F y20 (λcdv A outer s H E hr=>(v6 (S5 3 `hf `Nm)
   (v6 (m8 (R5 `AH hr `l `FL) (o7 4 `Nm))
   (v6 (m8 (R5 `AH hr `l `FM) (o7 5 `Nm))
   (v6 (b8 (d7 `fJ K9 (d8 `Nn hr `l `FL) (d8 `Nn hr `l `FM))
   (v6 `MW
   p7)
   p7)
   (v6 (Q6 D0 rfl (O2 `mg (v5 (U9 `hg `oC) v8)) (o7 6 `Nm)
   (v6 (b8 (`kH (m20 (K7 (ym0 M8 `dq `mb `dp `adQ)) (o10 (K7 (ym0 M8 `dq `mb `dp `adR)))))
   (v6 (Q7 (yg0 3 (Y8 (v5 (o6 `adQ p8) (v5 (o6 `adR p8) v8)))))
   p7)
   (v6 (b8 (d7 `fJ K9 `adQ `adR)
   (v6 `MW
   p7)
   p7)
   p7))
   p7))
   (v6 (zf0 `bX)
   p7))))))) `a9
theorem t00:`av xg0 `adS (`adT):=`aD
theorem m10(F:Fun K `No `No `TD fa fd)(T:`az)(C__law_led:FnD P w K mg `n `Ng 2 `AG J6):`ag P w K mg `n CX0 3 fa fd `adS (spD K z40) :=
 okD (k:=2) (G:=sp0) F t00 (λcdv A outer s H E hr=>(v6 (m8 (K6 (sc:=`adT) (N:=xg0) (N':=`aQm) (n:=1) (caps:=[0]) `c? `l `ady (λcl s H ex=>o7 0 (`aP:(`aQm:`t).Nodup)) `dJ (λcl s H ex=>(X5 `Ty `aq))) (o7 2 t00.nd))
   (v6 (m9 (X5 `aq (U5 W2 zj0 `dp `dq (v5 (K6 (sc:=`adT) (N:=xg0) (N':=`AG) (n:=1) (caps:=[2]) `c? `l (t90 `aX) (λcl s H ex=>o7 0 (`aP:(`AG:`t).Nodup)) `dJ (λcl s H ex=>(d8 C__law_led hr `l `AB))) v8))))
   p7))) `a9
theorem yu0:`av v70 `adU (o5 `adV):=`aD
theorem qa0(F:Fun K `Np `Np `adV fa fd)(T:`az)(C__law_head:`aQl)(Cd_value_at:jx0 P w K mg `n `kK 3 `AC R7 `ka):`ag P w K mg `n CX0 4 fa fd `adU (spD K zi0) :=
 okD (k:=3) (G:=v80) F yu0 (λcdv A outer s H E hr=>(v6 (m8 (gc0 `aQn hr `l (v5 `aq `aQo)) (o7 3 yu0.nd))
   (v6 (m8 (gc0 `aQn hr `l (v5 `aX `aQo)) (o7 4 yu0.nd))
   (v6 (b8 (`kH (m20 `aQg (o10 (K7 (ym0 M8 `dq `mb `dp `cc)))))
   (v6 (m9 (w90 `fJ K9 (d8 `Nn hr `l `aPX) (d8 `Nn hr `l (v5 (o6 `aX `adi) v8))))
   p7)
   p7)
   (v6 (m9 (w90 `fJ K9 `bX `cc))
   p7))))) `a9
theorem zn0:`av od0 [`lI] (o5 `rP):=`aD
theorem Tt0(F:Fun K `oE `oE `rP fa fd)(T:`az)(C__law_beside:FnD P w K mg `n `No 3 `adS z40)(C__law_cell_at:`aQk)(C__law_changed:FnD P w K mg `n `Nk 2 `adM M4)(C__law_go_on:FnD P w K mg `n `Nl 2 `adO zu0)(C__law_mix:`adB)(C__law_part_there:FnD P w K mg `n `Np 4 `adU zi0)(C__law_small:FnD P w K mg `n `Nj 4 `adJ G3)(C__law_unfold:FnD P w K mg `n `Ni 2 `adH T4)(C_is_closed:FnD P w K mg `n `M1 5 `MB ww0)(C_least:FnD P w K mg `n `M6 6 [`cR] W3)(C_look_table:FnD P w K mg `n `MV 5 `pg O4)(C_parting_way:FnD P w K mg `n `MX 5 `pg R8):`ag P w K mg `n CX0 7 fa fd [`lI] `aQp :=
 okD (k:=6) (G:=Wm0) F zn0 (λcdv A outer s H E hr=>(v6 (m8 (d8 C__law_small hr `l (v5 `aq `xz)) (o7 1 `iu))
   (v6 (m8 `rO (o7 2 `iu))
   (v6 (m8 (d8 `aQq hr `l (v5 `aX (v5 (X5 p8 (X7 `b4 p8)) `adL))) (o7 3 `iu))
   (v6 (m8 (d8 `aQq hr `l (v5 `aX (v5 (X5 p8 `aQr) (v5 (X5 `rO p8) v8)))) `aQs)
   (v6 (b8 (d7 (bg0 `md) e50 `aQr p8)
   (v6 (m8 (d8 C__law_changed hr `l (v5 `cc (v5 (d8 `adC hr `l (v5 `rO `xz)) v8))) `aQs)
   p7)
   (v6 (b8 (`kH (uw0 (d7 `fJ K9 `aQt `aQu) (vj0 (d7 `fJ K9 `aQv `aQu))))
   (v6 `kJ
   p7)
   p7)
   p7))
   (v6 (m8 (d8 C__law_beside hr `l (v5 `bX `oC)) (o7 5 `iu))
   (v6 (m8 (d8 C_look_table hr `l `aQw) (o7 6 `iu))
   (v6 (m8 (d8 C_parting_way hr `l `aQw) (o7 7 `iu))
   (v6 (b8 (`kH (uw0 (d7 `fJ K9 `aQx (w90 `fJ K9 `aQt `aQv)) (vj0 (d7 `fJ K9 `aQx (w90 ms0 pe0 `me zq0)))))
   (v6 `kJ
   p7)
   p7)
   (v6 (b8 (d7 nf0 qf0 `dI zq0)
   (v6 (m9 (d8 C__law_part_there hr `l (v5 `bX (v5 `cc `ac8))))
   p7)
   p7)
   (v6 (b8 (`kH (uw0 (en0 (K7 (d8 C_is_closed hr `l (v5 `c! `M0)))) (vj0 (d7 (Uf0 `md) (Vn0 `b) (Y8 `alJ) `dI))))
   (v6 `kJ
   p7)
   p7)
   (v6 (S5 8 ew0 `iu)
   (v6 (Q6 D0 rfl `aQy `aQz
   (v6 (xp0 (tl0 xh0) (gr0 8 `fj (w6 9)))
   p7))
   (v6 (Ya0 8 (Q6 D0 rfl `aQy `aQz
   (v6 (m8 (d8 C__law_go_on hr `l (v5 `c! (v5 `c! (v5 (w6 9) v8)))) (o7 10 `iu))
   (v6 (b8 (`kH (uw0 (d7 nf0 qf0 (w6 10) zq0) (vj0 (d7 Wf0 br0 (U9 `hg (v5 (K6 (sc:=o5 `rP) (N:=od0) (N':=`aQA) (n:=1) (caps:=[8]) `c? `l (Q0 (w6 10)) (λcl s H ex=>o7 0 (`aP:(`aQA:`t).Nodup)) (λcl s H ex=>(eg0 (tu0 `fj `aq `aX))) `aQe) v8)) p8))))
   (v6 `kJ
   p7)
   p7)
   p7))))
   (v6 `kJ
   p7)))))))))))))))) `a9
universe zz
theorem us1:∀{us:`cD},`cz=1->∃a,us=[a]
 | [a],_=>`aOT
theorem us2:∀{us:`cD},`cz=2->∃a b,us=`hV
 | `hV,_=>⟨a,b,rfl⟩
theorem us3:∀{us:`cD},`cz=3->∃a b c,us=[a,b,c]
 | [a,b,c],_=>⟨a,b,c,rfl⟩
theorem us4:∀{us:`cD},`cz=4->∃a b c d,us=[a,b,c,d]
 | [a,b,c,d],_=>⟨a,b,c,d,rfl⟩
noncomputable def Hd(K:`M)(x:Str)(st:`fX):Prop:=∃f fd,`aQB/\`adW
theorem Y9{f:`f}{kV:`v}(a:`adW)(l:`uP=`a ⟨oc,od,`gV `xB,osl⟩)(c:`pX K cdv x=`b)(k:`yo):Hd K x st:=⟨f,_,bz0 l c k,a⟩
section
variable(P9:`_)(w9:`E)(b9:`H){h:`H}{f:`f}{ps:`t}{m:`K}(X9:`mZ h)(G9:`Hy)(F9:`aQB)(a9:`adW)
include X9 G9 F9 a9
theorem cD1(o:`Nq)(hl:`P=1)(b:`aQC):`Nr:=`aQD
theorem cD2(o:`Nq)(hl:`P=2)(b:`aQE):`Nr:=`aQF
theorem cD3(o:`Nq)(hl:`P=3)(b:`aQG):`Nr:=`aQH
theorem cD4(o:`Nq)(hl:`P=4)(b:∀(kV doc pm:`v) (an:`da) (cdv ct u v w y:`v),`oD `xB ⟨[u,v,w,y],[]⟩=`ai (`nd [u,v,w,y])):`Nr:=⟨f,fd,o,`F_,`F0,`F1 λ_ _ _ _ _ _ us h=>by obtain⟨u,v,w,y,rfl⟩:=us4 `F2;exact b _ _ _ _ _ _ _ _ _ _⟩
theorem cN1(o:`adX)(hl:`P=1)(b:`aQC):`adY:=`aQD
theorem cN2(o:`adX)(hl:`P=2)(b:`aQE):`adY:=`aQF
theorem cN3(o:`adX)(hl:`P=3)(b:`aQG):`adY:=`aQH
universe zz
theorem all_mk{l:`V4}{w:`E}{h:`H}(X:`mZ h)(G:`Hy)(hfa:mg `oE=`By)
  {f5 f8 f23 f42:`f}
  {od5 an5 od8 an8 od23 an23 od42 an42:`da} {sl5 sl8 sl23 sl42:`kf} {oc5 kV5 dc5 pm5 cd5 ct5 oc8 kV8 dc8 pm8 cd8 ct8 oc23 kV23 dc23 pm23 cd23 ct23 oc42 kV42 dc42 pm42 cd42 ct42:`v}
  (h0:Hd K `FC `MJ)
  (h1:Hd K `FJ `acQ)
  (h2:Hd K `FF `MM)
  (h3:Hd K `MN `acS)
  (h4:Hd K `MR `MQ)
  {T5:`f} {tc5:`v} {td5:`da} {tn5:Nat} {ts5:`kf} {tt5_0:Tok}
  (a5:`dr K `b0 `i3=`a (`a (`aa f5))) (l5:`f2 f5=`a ⟨oc5,od5,`gV (`k6 `i3 `i3 (U8 `AA) (W0 `AA) (o5 `AA) (`aa T5) kV5 dc5 pm5 an5 cd5 ct5),sl5⟩) (c5:`pX K cd5 `i3=`b) (k5:`la K (`aa f5)=`b)
  (t5:`f2 T5=`a ⟨tc5,td5,`be #[`aQI] tn5,ts5⟩)
  (h6:Hd K `MS `acV)
  (h7:Hd K `FG `MU)
  {T8:`f} {tc8:`v} {td8:`da} {tn8:Nat} {ts8:`kf} {tt8_0:Tok}
  (a8:`dr K `b0 `kI=`a (`a (`aa f8))) (l8:`f2 f8=`a ⟨oc8,od8,`gV (`k6 `kI `kI (U8 `t2) (W0 `t2) (o5 `t2) (`aa T8) kV8 dc8 pm8 an8 cd8 ct8),sl8⟩) (c8:`pX K cd8 `kI=`b) (k8:`la K (`aa f8)=`b)
  (t8:`f2 T8=`a ⟨tc8,td8,`be #[`aQJ] tn8,ts8⟩)
  (h9:Hd K `MV `ac1)
  (h10:Hd K `MX `ac2)
  (h11:Hd K `FH `ac3)
  (h12:Hd K `M_ `ac!)
  (h13:Hd K `FI `ac?)
  (h14:Hd K `FK `ada)
  (h15:Hd K `MY `adb)
  (h16:Hd K `M1 `adc)
  (h17:Hd K `M2 `Tq)
  (h18:Hd K `M3 `adg)
  (h19:Hd K `M4 `adh)
  (h20:Hd K `M6 `M5)
  (h21:Hd K `M7 `Tr)
  (h22:Hd K `M9 `adl)
  {T23:`f} {tc23:`v} {td23:`da} {tn23:Nat} {ts23:`kf} {tt23_0:Tok}
  (a23:`dr K `b0 `kK=`a (`a `aQK)) (l23:`f2 f23=`a ⟨oc23,od23,`gV (`k6 `kK `kK (U8 `AD) (W0 `AD) (o5 `AD) (`aa T23) kV23 dc23 pm23 an23 cd23 ct23),sl23⟩) (c23:`pX K cd23 `kK=`b) (k23:`la K `aQK=`b)
  (t23:`f2 T23=`a ⟨tc23,td23,`be #[`aQL] tn23,ts23⟩)
  (h24:Hd K `M' `adm)
  (h25:Hd K `FX `adn)
  (h26:Hd K `M! `Tv)
  (h27:Hd K `FR `ads)
  (h28:Hd K `FQ `adt)
  (h29:Hd K `M? `adv)
  (h30:Hd K `Nb `Na)
  (h31:Hd K `Nc `adA)
  (h32:Hd K `FT `Nd)
  (h33:Hd K `FZ `Ne)
  (h34:Hd K `FU `Nf)
  (h35:Hd K `Ng `adE)
  (h36:Hd K `Ni `adI)
  (h37:Hd K `Nj `adK)
  (h38:Hd K `Nk `adN)
  (h39:Hd K `Nl `adP)
  (h40:Hd K `No `TD)
  (h41:Hd K `Np `adV)
  (a42:`dr K `b0 `oE=`a (`a `aQM)) (l42:`f2 f42=`a ⟨oc42,od42,`gV (`aQN),sl42⟩) (c42:`pX K cd42 `oE=`b) (k42:`la K `aQM=`b)
  (z_all:`dr K `b0 `yG=`d?)
  (z_dict:`dr K `b0 `e0=`d?)
  (z_enumerate:`dr K `b0 `hT=`d?)
  (z_int:`dr K `b0 `g_=`d?)
  (z_isinstance:`dr K `b0 `sK=`d?)
  (z_len:`dr K `b0 `nk=`d?)
  (z_list:`dr K `b0 `cX=`d?)
  (z_range:`dr K `b0 `pB=`d?)
  (z_reversed:`dr K `b0 `lq=`d?)
  (z_sorted:`dr K `b0 `lC=`d?)
  (z_tuple:`dr K `b0 `eg=`d?)
  (z_zip:`dr K `b0 `eS=`d?)
  : ∃fd:`eC,(∀(s:`q) (v:`v),`BA s fd ⟨[v],[]⟩ [(`lI,v)])/\∀base:`H,`Uk->`xR->`ag `ar w K mg `n CX0 7 fa fd [`lI] `aQp:=by
 have e:=hfa.symm.trans (E4 X G a42);cases e;have T:`az:=⟨I0 X G z_all,I0 X G z_dict,I0 X G z_enumerate,I0 X G z_int,I0 X G z_isinstance,I0 X G z_len,I0 X G z_list,I0 X G z_range,I0 X G z_reversed,I0 X G z_sorted,I0 X G z_tuple,I0 X G z_zip⟩;obtain⟨f0,g0,F0,a0⟩:=h0;obtain⟨f1,g1,F1,a1⟩:=h1;obtain⟨f2,g2,F2,a2⟩:=h2;obtain⟨f3,g3,F3,a3⟩:=h3;obtain⟨f4,g4,F4,a4⟩:=h4;have F5:=mv0 (st:=top 6) l5 c5 k5;obtain⟨f6,g6,F6,a6⟩:=h6;obtain⟨f7,g7,F7,a7⟩:=h7;have F8:=mv0 (st:=top 9) l8 c8 k8;obtain⟨f9,g9,F9,a9⟩:=h9;obtain⟨f10,g10,s5,v4⟩:=h10;obtain⟨M3,z5,n7,w1⟩:=h11;obtain⟨f12,g12,o1,u9⟩:=h12;obtain⟨f13,y3,q4,w5⟩:=h13;obtain⟨P0,z2,o3,u3⟩:=h14;obtain⟨f15,z8,r4,x3⟩:=h15;obtain⟨z6,g16,n4,u7⟩:=h16;obtain⟨f17,I7,q5,s8⟩:=h17;obtain⟨f18,g18,n1,u8⟩:=h18;obtain⟨y7,g19,p1,u5⟩:=h19;obtain⟨f20,M0,q2,t2⟩:=h20;obtain⟨I3,S0,s6,u4⟩:=h21;obtain⟨I5,g22,r2,x4⟩:=h22;have s2:=mv0 (st:=top 29) l23 c23 k23;obtain⟨z7,S3,n2,u6⟩:=h24;obtain⟨f25,g25,n3,y1⟩:=h25;obtain⟨H3,H6,s0,s9⟩:=h26;obtain⟨y5,H4,p3,x7⟩:=h27;obtain⟨z1,H5,q3,t9⟩:=h28;obtain⟨f29,S4,r5,y0⟩:=h29;obtain⟨I8,g30,s3,v0⟩:=h30;obtain⟨H7,g31,q9,w7⟩:=h31;obtain⟨I9,z3,r3,v2⟩:=h32;obtain⟨H9,g33,r7,u2⟩:=h33;obtain⟨f34,I1,o0,t3⟩:=h34;obtain⟨f35,H8,q7,v1⟩:=h35;obtain⟨f36,g36,r1,t7⟩:=h36;obtain⟨I6,g37,q6,t4⟩:=h37;obtain⟨z4,g38,q8,t6⟩:=h38;obtain⟨y2,g39,s4,t1⟩:=h39;obtain⟨f40,g40,r6,w3⟩:=h40;obtain⟨I2,I4,s1,w2⟩:=h41;have w0:=bz0 (st:=top 50) l42 c42 k42;refine⟨`aQN,λs v=>.of_eq rfl,λbase _ _=>?_⟩;have b6:=cN1 `ar w `n X G F0 a0 (kg0 F0 T) rfl `aO;have Z:=cN1 `ar w `n X G F2 a2 (b70 F2 T) rfl `aO;have l7:=cN2 `ar w `n X G o1 u9 (cs0 o1 T) rfl `aO;have b2:=cD1 `ar w `n X G q4 w5 (ig0 q4 T) rfl `aO;have M:=cD1 `ar w `n X G o3 u3 (mw0 o3 T) rfl `aO;have g8:=cD3 `ar w `n X G n1 u8 (jv0 n1 T) rfl `aO;have j2:=cN2 `ar w `n X G r2 x4 (ey0 r2 T) rfl `aO;have b3:=cD2 `ar w `n X G n3 y1 (on0 n3 T) rfl `aO;have e9:=cN2 `ar w `n X G s0 s9 (jz0 s0 T) rfl `aO;have b4:=cD2 `ar w `n X G p3 x7 (fb0 p3 T) rfl `aO;have c0:=cD2 `ar w `n X G q3 t9 (kd0 q3 T) rfl `aO;have e8:=cD3 `ar w `n X G s3 v0 (i50 s3 T) rfl `aO;have J:=cN1 `ar w `n X G r3 v2 (jw0 r3 T) rfl `aO;have c3:=cD1 `ar w `n X G r7 u2 (gd0 r7 T) rfl `aO;have b1:=cD2 `ar w `n X G o0 t3 (gf0 o0 T) rfl `aO;have c4:=cD1 `ar w `n X G F1 a1 (V80 F1 T b6) rfl `aO;have e0:=cD2 `ar w `n X G F3 a3 (mz0 F3 T b6) rfl `aO;have m2:=cN1 `ar w `n X G F4 a4 (Yi0 F4 T Z) rfl `aO;have b0:=cN2 `ar w `n X G n2 u6 (px0 n2 T Z) rfl `aO;have d1:=cN3 `ar w `n X G r5 y0 (mn0 r5 T c0) rfl `aO;have i3:=cD2 `ar w `n X G q7 v1 (ff0 q7 T J b1) rfl `aO;have e2:=cD3 `ar w `n X G r1 t7 (mh0 r1 T b4 J b1) rfl `aO;have c6:=cD2 `ar w `n X G q8 t6 (oe0 q8 T J c0 b1) rfl `aO;have e7:=cD3 `ar w `n X G s4 t1 (kl0 s4 T c3 J) rfl `aO;have c7:=cN3 `ar w `n X G F6 a6 (d10 F6 T m2) rfl `aO;have O:=cD2 `ar w `n X G F7 a7 (gy0 F7 T Z e0) rfl `aO;have d0:=cD3 `ar w `n X G r4 x3 (mi0 r4 T b2 c4 M) rfl `aO;have h8:=cD4 `ar w `n X G p1 u5 (i30 p1 T b2 c4 M Z) rfl `aO;have n0:FnD `ar w K mg `n `kK 3 `AC R7:=⟨f23,_,`aQO,`aQP,k23,λs us X hl=>match us,hl with|[_,_,_],_=>`aQQ⟩;have g5:jx0 `ar w K mg `n `kK 3 `AC R7 `ka:=⟨f23,_,[`aQL],`ME,`aQO,`aQP,k23,λs us X hl=>by obtain⟨u0,u1,rfl⟩:=us2 (show `cz=2 by rw[`ad] at hl;simpa using hl);exact `aQQ,`adZ,`ad_⟩;have j1:=cD3 `ar w `n X G q9 w7 (f00 q9 T b4 e8 d1) rfl `aO;have e1:=cD2 `ar w `n X G r6 w3 (m10 r6 T i3) rfl `aO;have m0:FnN `ar w K mg `n `i3 4 `gC wv0:=⟨f5,_,`aQR,E4 X G a5,k5,λs us X hl=>match us,hl with|[_,_],_=>`aQS⟩;have m6:c60 `ar w K mg `n `i3 4 `gC wv0 `ka:=⟨f5,_,[`aQI],`ME,`aQR,E4 X G a5,k5,λs us X hl=>by obtain⟨u0,rfl⟩:=`aQT;exact `aQS,`adZ,`ad_⟩;have b5:=cD3 `ar w `n X G n7 w1 (l70 n7 T b2 d0 c4 M Z l7) rfl `aO;have e5:=cD3 `ar w `n X G q5 s8 (km0 q5 T g8 h8) rfl `aO;have e3:=cD2 `ar w `n X G s6 u4 (my0 s6 T j2 c4 O) rfl `aO;have e4:=cD2 `ar w `n X G q6 t4 (ke0 q6 T b3 e9 j1) rfl `aO;have c1:=cD3 `ar w `n X G s1 w2 (qa0 s1 T c3 g5) rfl `aO;have s7:FnD `ar w K mg `n `kI 5 `gC wq0:=⟨f8,_,`aQU,E4 X G a8,k8,λs us X hl=>match us,hl with|[_,_],_=>`aQV⟩;have k3:jx0 `ar w K mg `n `kI 5 `gC wq0 `ka:=⟨f8,_,[`aQJ],`ME,`aQU,E4 X G a8,k8,λs us X hl=>by obtain⟨u0,rfl⟩:=`aQT;exact `aQV,`adZ,`ad_⟩;have e6:=cD3 `ar w `n X G F9 a9 (kf0 F9 T b5) rfl `aO;have d2:=cD3 `ar w `n X G s5 v4 (mu0 s5 T b5) rfl `aO;have h5:=cD2 `ar w `n X G n4 u7 (j20 n4 T e5) rfl `aO;have m1:=cD1 `ar w `n X G q2 t2 (Zv0 q2 T e3 O k3 m6) rfl `aO;exact Tt0 w0 T e1 b3 c6 e7 b4 c1 e4 e2 h5 m1 e6 d2
theorem i20:∀ns:`bk,Rps K H B `_' `uL
 | []=>by rw[`fy,`fy,m7]
 | n::ns=>by
  rw[`al,`al,n6];exact⟨_,_,rfl,`qe,i20 ns⟩
theorem av0{ns:`bk}(hK:`_C)(hS:`V2)(hm:`aPo):spD K qo0 `jf H `Hw `kq:=by
 refine⟨`aFh,[`gk],`gT,λ_ z=>`qn,?_,hm,λv H' _ r=>`afY⟩;rw[n6];refine⟨_,[],rfl,?_,`ga⟩;rw[Y4];exact⟨a,`jg `no,rfl,script_at hK hS,i20 ns⟩
universe Ka
open PySem.W PyProof.Rows
namespace PySem.W.Fast
def tw717072153968402366:=0
def tw7834562926284538105:=0
def tw7163025261620979572:=0
def tw10512939836157933123:=0
def tw1983125015534172762:=0
def tw15209450622593616890:=0
def tw7907629270996951028:=0
def tw10878112805070075173:=0
def tw17114937814176058412:=0
def tw7670254821281760928:=0
def tw7521307110013227519:=0
def tw3489414844245653059:=0
def tw8853092354075715161:=0
def tw11360093483730389761:=0
def tw6683346059374562374:=0
def tw14813802886518896292:=0
def tw8311611784239415274:=0
def tw15135894947590415746:=0
def tw13624050681308296956:=0
def tw3045801041136904716:=0
def tw5513943285670246373:=0
def tw4193245285831374923:=0
def tw13119787880281885876:=0
def tw17776892102377606623:=0
def tw4661575287060318775:=0
def tw198880997768987180:=0
def tw4422690910959513531:=0
def tw13240093119186779763:=0
def tw6930528781177596830:=0
def tw4561613215291731017:=0
def tw13904862683830429012:=0
def tw1084691667984122682:=0
def tw16812027646896930285:=0
def tw6825650406764845281:=0
def tw18368926285630401215:=0
def tw9369375838905683835:=0
def tw3908493325796209666:=0
def tw12569067765165367250:=0
def tw18305816696014418720:=0
def tw10689857293978691968:=0
def tw15277959778741975291:=0
def tw6388299536971423273:=0
def tw8687601430683493434:=0
def tw16346913306505859842:=0
def tw13411749701770940459:=0
def tw6242780671940764237:=0
def tw12518964683100863653:=0
def tw6500512274945778508:=0
def tw328309172144664202:=0
def tw3292519678911864055:=0
def tw6206735862528014477:=0
def tw12182657732174467021:=0
def tw15374420939207144249:=0
def tw10247862447842104894:=0
def tw17158799669805179523:=0
def tw318460070283389036:=0
def tw4366301770474988003:=0
def tw2229250007191166305:=0
def tw13849710233842524075:=0
def tw17946548764370392970:=0
def tw6924810447062467514:=0
def tw18280174469740326331:=0
def tw1716481833098062190:=0
def tw8802164388583821888:=0
def tw2781784954474227356:=0
def tw6490813779645481137:=0
def tw18352990986001007627:=0
def tw13239918407918632416:=0
def tw14167818764816277558:=0
def tw13646231046585002901:=0
def tw3159387136459358673:=0
def tw10724588768344552134:=0
def tw13210707286999582161:=0
def tw12274367750318169535:=0
def tw1586836341423626731:=0
def tw193388711339282309:=0
def tw4806238445195732654:=0
def tw328334614982265654:=0
def tw15714453355139583098:=0
def tw13404934473297985753:=0
def tw5960584049953637628:=0
def tw3107876737242762314:=0
def tw102223053353275069:=0
def tw6563546755406478312:=0
def tw6062018620899387635:=0
def tw3615566382151910885:=0
def tw14001744349758384678:=0
def tw2236769248771121719:=0
def tw17598462190629866274:=0
def tw1133602899988443504:=0
def tw10057855209570795168:=0
def tw1304023378078191746:=0
def tw10434919220917997061:=0
def tw13603278895569628394:=0
def tw6263335570834757531:=0
def tw12776997041545994702:=0
def tw9078586744540072787:=0
def tw15897753664006565316:=0
def tw15155318104300108237:=0
def tw4125520169720430950:=0
def tw9512282683907766868:=0
def tw9719731915922656712:=0
def tw16182342893901920619:=0
def tw9252107761682633168:=0
def tw949354790073507802:=0
def tw17734041405963054853:=0
def tw11480503616137244635:=0
def tw7687264873691778529:=0
def tw5368714241210811571:=0
def tw6503224191691376171:=0
def tw17873490677865711451:=0
def tw15448798640294823414:=0
def tw16685964111326243537:=0
def tw80604752892482489:=0
def tw15101065950746245714:=0
def tw5180358265096209561:=0
def tw3203711685870195066:=0
def tw8378729677728541263:=0
def tw10609618487253130:=0
def tw15472134679505012370:=0
def tw2409121424224950316:=0
def tw9033826381403532925:=0
def tw11077917361336721736:=0
def tw16260633461016637022:=0
def tw3370555716018183886:=0
def tw14980142223975438233:=0
def tw8007661899127152959:=0
def tw16431639617277601048:=0
def tw4286709908645435031:=0
def tw8148941641707142358:=0
def tw523543810894569006:=0
def tw10564856167078101229:=0
def tw17748488912006592733:=0
def tw11615222774026609112:=0
def tw15258703842298663843:=0
def tw630010374310385404:=0
def tw3938861784464466208:=0
def tw5351798907138206050:=0
def tw15272785427956088953:=0
def tw12314222743691079126:=0
def tw6162232039791733018:=0
def tw7874696033804992680:=0
def tw11638832816197278581:=0
def tw13486396471580495497:=0
def tw15117408507134802591:=0
def tw7805714477626790021:=0
def tw3444173476951775951:=0
def tw11444274974241081805:=0
def tw5243161253776113664:=0
def tw17785300627745336358:=0
def tw10370623549579818336:=0
def tw15398587708248039418:=0
def tw14073507413039940544:=0
def tw4421400814995091714:=0
def tw16956495628331815498:=0
def tw6232477990315003749:=0
def tw13370540388352857310:=0
def tw4325201963570590787:=0
def tw16171788911503631289:=0
def tw8545874256481955458:=0
def tw14891882405083294828:=0
def tw13641137814643423178:=0
def tw7077623250332159037:=0
def tw2699678621146233723:=0
def tw4750750586675304430:=0
def tw13557937796305685809:=0
def tw17699682514957719633:=0
def tw13230339844848307198:=0
def tw10956745632575178954:=0
def tw12429587444393880205:=0
def tw11024123305590334104:=0
def tw14714105548348401196:=0
def tw9052555488353260195:=0
def tw1809215460389008816:=0
def tw7123648122233488446:=0
def tw16931405028595797162:=0
def tw2010712180333743712:=0
def tw7800530594546367700:=0
def tw10409465808817888577:=0
def tw977854864664767478:=0
def tw16185938163336467035:=0
def tw9519925279455955940:=0
def tw2518570696430467634:=0
def tw14210248061912911987:=0
def tw16798362752431125730:=0
def tw12066428001731599957:=0
def tw9800399731623480950:=0
def tw6850923531060829287:=0
def tw4478423725365314094:=0
def tw9475023076745500934:=0
def tw17308584944240106084:=0
def tw6371494596777773405:=0
def tw5956392130850440010:=0
def tw5252607545253234219:=0
def tw6671244147601823607:=0
def tw7826852735058252396:=0
def tw8102256064734048697:=0
def tw14078128468253678704:=0
def tw8088546964998416322:=0
def tw13330453393213058494:=0
universe PySem.W.Fast
end
set_option maxRecDepth 100000 in
theorem PySem.Challenge.cw_graphpack_k16_whole_alike_just_where_lea_holds : PySem.Challenge.rw_graphpack_k16_whole_alike_just_where_lea.Holds := by
 w_on;o_law;k_head;(case hw=>w_witness2)
 k_fill
 refine DL.X20 (l:=PySem.Challenge.rw_graphpack_k16_whole_alike_just_where_lea) (n:=63) (k:=7) (x := "_law_script") (CX:=L2.CX0) (sp:=λK=>DL.spD K Ka.qo0) rfl (by decide) rfl ⟨rfl,by decide,by decide⟩ (λw h Y=>W.kIn_of Y) ?F ?S ?C
 case F =>
  intro w mg fa h KX G hmg;refine' Ka.all_mk KX G hmg ?h0 ?h1 ?h2 ?h3 ?h4 ?a5 ?l5 ?c5 ?k5 ?t5 ?h6 ?h7 ?a8 ?l8 ?c8 ?k8 ?t8 ?h9 ?h10 ?h11 ?h12 ?h13 ?h14 ?h15 ?h16 ?h17 ?h18 ?h19 ?h20 ?h21 ?h22 ?a23 ?l23 ?c23 ?k23 ?t23 ?h24 ?h25 ?h26 ?h27 ?h28 ?h29 ?h30 ?h31 ?h32 ?h33 ?h34 ?h35 ?h36 ?h37 ?h38 ?h39 ?h40 ?h41 ?a42 ?l42 ?c42 ?k42 ?z_all ?z_dict ?z_enumerate ?z_int ?z_isinstance ?z_len ?z_list ?z_range ?z_reversed ?z_sorted ?z_tuple ?z_zip
  (case h0=>exact Ka.Y9 (by k_is) (by k_is) (by k_is) (by k_is))
  (case h1=>exact Ka.Y9 (by k_is) (by k_is) (by k_is) (by k_is))
  (case h2=>exact Ka.Y9 (by k_is) (by k_is) (by k_is) (by k_is))
  (case h3=>exact Ka.Y9 (by k_is) (by k_is) (by k_is) (by k_is))
  (case h4=>exact Ka.Y9 (by k_is) (by k_is) (by k_is) (by k_is))
  (case a5=>k_is)
  (case l5=>k_is)
  (case c5=>k_is)
  (case k5=>k_is)
  (case t5=>k_is)
  (case h6=>exact Ka.Y9 (by k_is) (by k_is) (by k_is) (by k_is))
  (case h7=>exact Ka.Y9 (by k_is) (by k_is) (by k_is) (by k_is))
  (case a8=>k_is)
  (case l8=>k_is)
  (case c8=>k_is)
  (case k8=>k_is)
  (case t8=>k_is)
  (case h9=>exact Ka.Y9 (by k_is) (by k_is) (by k_is) (by k_is))
  (case h10=>exact Ka.Y9 (by k_is) (by k_is) (by k_is) (by k_is))
  (case h11=>exact Ka.Y9 (by k_is) (by k_is) (by k_is) (by k_is))
  (case h12=>exact Ka.Y9 (by k_is) (by k_is) (by k_is) (by k_is))
  (case h13=>exact Ka.Y9 (by k_is) (by k_is) (by k_is) (by k_is))
  (case h14=>exact Ka.Y9 (by k_is) (by k_is) (by k_is) (by k_is))
  (case h15=>exact Ka.Y9 (by k_is) (by k_is) (by k_is) (by k_is))
  (case h16=>exact Ka.Y9 (by k_is) (by k_is) (by k_is) (by k_is))
  (case h17=>exact Ka.Y9 (by k_is) (by k_is) (by k_is) (by k_is))
  (case h18=>exact Ka.Y9 (by k_is) (by k_is) (by k_is) (by k_is))
  (case h19=>exact Ka.Y9 (by k_is) (by k_is) (by k_is) (by k_is))
  (case h20=>exact Ka.Y9 (by k_is) (by k_is) (by k_is) (by k_is))
  (case h21=>exact Ka.Y9 (by k_is) (by k_is) (by k_is) (by k_is))
  (case h22=>exact Ka.Y9 (by k_is) (by k_is) (by k_is) (by k_is))
  (case a23=>k_is)
  (case l23=>k_is)
  (case c23=>k_is)
  (case k23=>k_is)
  (case t23=>k_is)
  (case h24=>exact Ka.Y9 (by k_is) (by k_is) (by k_is) (by k_is))
  (case h25=>exact Ka.Y9 (by k_is) (by k_is) (by k_is) (by k_is))
  (case h26=>exact Ka.Y9 (by k_is) (by k_is) (by k_is) (by k_is))
  (case h27=>exact Ka.Y9 (by k_is) (by k_is) (by k_is) (by k_is))
  (case h28=>exact Ka.Y9 (by k_is) (by k_is) (by k_is) (by k_is))
  (case h29=>exact Ka.Y9 (by k_is) (by k_is) (by k_is) (by k_is))
  (case h30=>exact Ka.Y9 (by k_is) (by k_is) (by k_is) (by k_is))
  (case h31=>exact Ka.Y9 (by k_is) (by k_is) (by k_is) (by k_is))
  (case h32=>exact Ka.Y9 (by k_is) (by k_is) (by k_is) (by k_is))
  (case h33=>exact Ka.Y9 (by k_is) (by k_is) (by k_is) (by k_is))
  (case h34=>exact Ka.Y9 (by k_is) (by k_is) (by k_is) (by k_is))
  (case h35=>exact Ka.Y9 (by k_is) (by k_is) (by k_is) (by k_is))
  (case h36=>exact Ka.Y9 (by k_is) (by k_is) (by k_is) (by k_is))
  (case h37=>exact Ka.Y9 (by k_is) (by k_is) (by k_is) (by k_is))
  (case h38=>exact Ka.Y9 (by k_is) (by k_is) (by k_is) (by k_is))
  (case h39=>exact Ka.Y9 (by k_is) (by k_is) (by k_is) (by k_is))
  (case h40=>exact Ka.Y9 (by k_is) (by k_is) (by k_is) (by k_is))
  (case h41=>exact Ka.Y9 (by k_is) (by k_is) (by k_is) (by k_is))
  (case a42=>k_is)
  (case l42=>k_is)
  (case c42=>k_is)
  (case k42=>k_is)
  (case z_all=>k_is)
  (case z_dict=>k_is)
  (case z_enumerate=>k_is)
  (case z_int=>k_is)
  (case z_isinstance=>k_is)
  (case z_len=>k_is)
  (case z_list=>k_is)
  (case z_range=>k_is)
  (case z_reversed=>k_is)
  (case z_sorted=>k_is)
  (case z_tuple=>k_is)
  (case z_zip=>k_is)
 case S=>exact λw H a ns hl hS=>Ka.av0 (by kernel_rfl) hS (Ka.Ys0 ns hl)
 case C=>exact λ_ _ _ _ z=>z
#print axioms PySem.Challenge.cw_graphpack_k16_whole_alike_just_where_lea_holds
