import PyProof.Rows.All
import Wide.All
import OpenK.AllK
import Wide.FinOn
import Lean
import PyProof.EqAt
import PyProof.EqKinds
import PyProof.TupleCall
import PyProof.NeKinds
import PyProof.Rows.SetFrom
import KE.KRevIter
import PyProof.ZipIter
import PyProof.TupleOfGen
import PyProof.Rows.ZipGen
import PyProof.EnumMake
import PyProof.EnumFor
import PyProof.ListRange
import PyProof.LayNew
import KE.KDictOf
import KE.KIntText
import KE.IntTextLaws
import PyProof.StrCalls2
import PyProof.Rows.StrNews2
import PyProof.StrLawsTight
import PyProof.ExcArgsOwn
import PyProof.ExcAttrAll.ValueError
import PyProof.IsInstanceT
import PyProof.RulesAs
import PyProof.Rows.Tup
import OpenK.KOwn
import PyProof.ExcInit
import OpenK.KCls
import OpenK.KMake
import PyProof.InstStoreFacts
import PyProof.FactsAll.object
import PyProof.IsiStr
import KE.KIsAll
import PyProof.ListMulRight
import PyProof.AttrMissHeap
import PyProof.RaisesMany
import PyProof.RulesTry
import PyProof.NsDelKeeps
import PyProof.Rows.FStr
import OpenK.KWalk
import PyProof.AutoListH
import PyProof.CallFns
import PyProof.Rows.SortStr
import KE.KDictSum
import PyProof.Draws
import PyProof.Rows.CallKwBuiltin
import PyProof.SumWalkG
import KE.KDictLaws
import PyProof.DictTruth
import PyProof.Rows.SortShellK
import PyProof.Rows.SortWalk
import KE.KDictList
import PyProof.SliceList
import PySem.Challenge.RW_graphpack_k27_packs_read_by_hand
set_option maxHeartbeats 0
set_option bootstrap.genMatcherCode false
set_option genSizeOf false
set_option compiler.postponeCompile true
set_option compiler.extract_closed false
set_option linter.all false
set_option linter.all false
open Lean in
def xi(s:List Char):Nat:=match s.map λc=>"abcdefghijklmnopqrstuvwxyzABCDEFGHIJKLMNOPQRSTUVWXYZ_0123456789'!?".toList.idxOf c with
|[a]=>a
|[a,b]=>53+a*66+b
|[a,b,c]=>3551+(a*66+b)*66+c
|_=>0
open Lean in
def xp(t:Array Syntax):Nat→Syntax→Syntax
|0,s=>s
|n+1,s=>s.rewriteBottomUp λs=>match s with
 |.node _ k a=>if k==``Lean.Parser.Term.quotedName then xp t n (t.getD (xi s[0][0].getAtomVal.toList.tail) s) else .node .none k a
 |.atom _ v=>.atom .none v
 |.ident _ r v p=>.ident .none r v p
 |s=>s
open Lean in
local macro_rules
|`(command|mutual $cs* end)=>do
 let l:=(cs.getD 0 default).raw[1]
 if l[1][0].getId != `T then Lean.Macro.throwUnsupported
 let t:=l[3][1][1].getSepArgs
 return mkNullNode ((cs.drop 1).map λc=>let c:=xp t 99 c.raw
  if c.getKind==``Lean.Parser.Command.universe then .node .none ``Lean.Parser.Command.end (List.toArray [mkAtom "end",if c[1][0].getId==`zz then mkNullNode else mkNullNode (List.toArray [c[1][0],mkNullNode])]) else c)
mutual
def T:=[some,true,none,.int,Addr,`O D,`O Str,pins,(`F),`O Nat,Option.bind_some,.inr,.inl,false,wpAny,Shared,.lst,base,.str,(`aq),`O Int,nilB,Inv X `h σ H s,.ref,W.Frag,.non,X.env,.tup,this,decide,Value,by omega,Expr,if_pos,absurd,.nil,`O V,List.map_cons,Bool,`f->`cL,List,sizeLine,Heap,World,B₀,H₀,List.length_map,(gv 1),List.length_append,.cons,`O `E,.none,s.heap.objs.size,mainGlobals,`a o,(`rl `aU X.w),if_neg,d::ds,by decide +kernel,⟨_,rfl⟩,FnOk,W.nsIn,(gv 2),Program,g δ,cons_of,`O (`U0),`E->`dD,items,by decide,ps.length,strOf,0,Option,xs.length,s.heap,rest,(gv 0),D->`f->`au (D×D),X.xe,`O `e,K.lookup,`cU H H',(z8 1),D->Ds->`au Ds,(`rl `jG w),List.length_cons,pool,`a `n,`ri `E,.func,l.prog,List.append_assoc,(`bs),W.keepIn,(z8 0),`d i,(gc (`dN)),[`dy],X.prog,FnScope,W.fnOf,`au Int,(x==`rB)=`n,D->`HG,(`hD),W.codeIn,δ.set,`a d,Rps K H B ds xs,Paired,`O α,`O `G,.sh `tC,(z8 2),Env K H B σ δ,Txt mg,`a u,Bool.and_eq_true,en.ex,⟨rfl,rfl,rfl,`af,rfl,`af,`af⟩,List.append_nil,List.size_toArray,A7.mp,ds.length,`s _,.type,decide_eq_false,(·.1),.bl _,D.int,decide_eq_true,(ha B δ),`O (`zF),Stmt,Str->`lh,Vals,by simp,False,s.toks,.dct,δ[i]?,`H rfl,0,X.calm=`b,`l rfl,.seq,.Call,List.map_map,(i+1),`B ds,items.length,(j:Int),(gv 3),(gN 0),`s s,`d _,Ds->`cL,Rp K H B d v,[`JM],its.toArray,I.hok,eval,outer,(`H0),Around,.sh `km,Int.toNat_natCast,(z8 3),`O `bp,(X3 I q `aO),PD X e g,List.map_append,`O Pt,pure,ObjOk,`m rfl,.Name,List.range,r.mono,Or.inl rfl,(`sp H),`cf K `T `S H σ δ,A.in1,if_false,Scope,`a v,`s x,scope,caps,EnvS,(k:Int),(gc (`el)),(gc (`ko)),B.length,String,D->`M,List.getD_eq_getElem?_getD,`a x,SubO,`bh `c9,X.mg,`au V,H b=`c,.bl b,`q xs,(·.2),r.length,vs.length,cpos,`q ds,`a (.nx δ'),l.length,D.bl,X.N[i]?=`cn,Gl X x,PD X a ga,PD X b gb,List.zip_cons_cons,RelV,s.heap.get?,compareOp,`au D,gA δ,PSsD,H p=`c,flat,.sh (`ku),(`iu::r),`tV i,(`al).bind,Same,ga δ,`a `b,(`eT),as.zip sos,`O T7,List.length_take,(gN 3),(gN 5),(ix L),P.length,`br xs us,`X r t,
Gr H H' B B',`e4 hd,Wb ps,"list",`B xs,`a c,A8 e,(n:Int),C1 _,gb δ,q.to,get_set,(gN 2),w.length,j∈B,["value", `zC],λ_ _ _ _ _ _ us hl=>by obtain⟨_,rfl⟩:=us1 hl;rfl,CoeFun,`ad e,`a y,starEach,0,`x a,I.tok _,i.toNat,(`Wu),gt δ,(λz=>nomatch z),lean,List.length_singleton,D.tup,"_law_book",∀x,foldedSetIterable `hF `A x=`b2 x,if_true,List.nil_append,`H e,`p->Prop,X.env.locals,.bool,(`aR),qual,items.size,ys.length,`a r,`d `bH,`d z,`d 1,(gc (`fX)),List.length_nil,(`q []),(`bK),`s c,[`Y9],HOk P w H h,`cI y u,`V0=`lD::`rA,_::_,Ds->`ok,`a `c,`H h,(by rw[`my];rfl),"tuple",h.objs.size,bootBuiltins,X.base,C0.mp,(`dp),I.tuple,body,I.list,CallR,call,s₁,l.map,ks.length,(`cY),en.same,`ed s1,en.b0,gx δ,(`Xs),tree,`O (Key×V),dpN i δ,`d 0,D.str,B9.mpr,(`X6),j<`ar,s∈`aI,S.length,(X5 hr),`O (`w1),`O Env,`d9 hq,x=`dp,List.getElem?_map,List.length_drop,`ru=sc,Ds->`x3,(hb B δ),hidx,Decidable,`Ig=`lD::`hU,k::ks,PWD.pt,(`x f),`O Key,`bh `d1,H' b,k _ _ `gt e,I.loc,C2.mp,`cI v u,I.kIn,assign,"zip",s1.heap.objs.size,`x p,(i:Int),0<=i,(`Vr),Gr.less,RpNs,`a k,`eY K H B as ds xs,(Y8 hp),λa z=>?_,List.map_nil,List.mem_singleton.mp,A2.mp,h.nd,vs.map,`mh `bj,(gv 4),(z7 `aj v5),`d j,qs.map,p.vals,(n+1),`bi `i,(z8 4),T.b_len,`au `e,FuncData,`ad h,`av<=`P,Vis `ru x,I.free,X.N.Nodup,(x==`Vs)=`n,PE X e te,`I (show `xn from hs) A9,by simp at h,List.lookup_cons,`al=`a2,List.cons_append,PID X tg `hF gi,`Xi+1<`hK,`de h1,Nat->Nat,Option.bind,.builtin,.ret,`lk a,.frz,X.fs,`w8=`ab,Hp->Prop,backTo,`lm=`ab,j.toNat,`cI x u,(`xg),False.elim,HT.sIx,apos,(`x8),NodeOk,as.length,e.all,List.replicate,`m z,keys,es.length,Obj.mapSeq,someO,(gv 5),`s `oV,(gc `z),(gc (`s7)),(gN 4),(`JR),(`Zq),(0:Int),its p,It `ar d,(v7 `a8 u0),"_law_told_value",True,I.bare,λb hb=>?_,CmpOp,2 ^ 62,args,List.any_cons,(apos.endLine==cpos.line)=`b,Option.map_some,Ds->`ol,(`cM).bind,RpO K H B d a,RpW K H B ns a as sos,`HZ (`b8),`HZ (`gJ),zb0 r,Option.map,`bm h,(100000:Nat)<=`P,Pk ps B T ds B' T' b,(o7 V6 Y9 `aaM w6),C5 _ rfl,
kvs.length,.own,h'.get?,(`b4),x ≠`w7,`a `nM,.free,`GM x=`c!,X.stack,St->`fD,{ s with heap:=h' },s.heap.push,Room,scope.names,its.toArray.size,attributeBase,.Attribute,v=`dp,`a b,`HZ rfl,`GN=`sn,items.drop,List.getElem?_eq_getElem,(upd H a o),e.bad,⟨rfl,rfl⟩,vals,(z7 `V v5),(k+1),.sh (`d N),.sh (`o2),.sh `zN,.sh `zP,T.length,pd `pb,D.lst,`a s,(j9 rfl),b_tuple,T.b_tuple,["signs"],[`dy, `oW],⟨rfl,`af,`af,`af,`af,rfl,`af⟩,"_law_told_part",a==b,`O (`eI×V),α->β->Prop,λp hp=>?_,by simpa using hb,`m q,`d7 hq,`ad A9,`cI x v,"int",A.handled=`c,(`Ha).any `bj=`n,kindOf,V->`lH,"str",hbase,hline,`ad hb,signs,by rw[m5],∀cl s H ex,PGD `lP tg idx f,`yD κ,`O κ,`ad `aO,[`mp,`bV],N6 `f1,B.Nodup,(λds d h=>xo0 h),(λds d h=>xm0 h),[`zB],λ_ _ _ _ _ _ us hl=>by obtain⟨_,_,rfl⟩:=us2 hl;rfl,KV kvs vs,I.cell,hs.2,List.getElem?_set_ne,A4 _,`x `_,iter,binaryOp,(g i j),A1 ?_,codeAny,cLine,f2 b hb,G1 δ,O7 ds,`O β,RpL K H B d a,NB (H a),e.own,s1.trans,(`W0),`dn [] `A,K4 kvs k,`O (V×V),`a (`sB),(`yQ hb),Pd.imp,`j2 s1,s1.free,Value.type,(`af),(`y2),G δ,closed,h.len,`mh `cv,(gc (`d 3)),`s `JF,(o2 `ay `aS ixD),(gc (`d 128)),.rcd,List.length,((128+r%128:Nat):Int),(`z4),s.length,s∈T,0,(by simpa using h),.sh `dR,Bw.web ps,`Ag j `Ah,B++[j],(`ik),(lkv π),0,lkd j,Nat.zero_add,Vb v,`b6 `ar,0,.sh (`tM),lb p S i P T,`d b,"is_new",(z8 5),"number_bytes","sign_bytes",(v7 `aE u0),"_law_next",(λb ds q h=>y70 `t h),(Z7 `aE w6),"_law_values","_law_digits","_law_signs",`bi h,`br xs its,(D0 _),`q _,`a `gw,I.ok.kind,Inv X `h σ H' s',(`cc),`nU=`c,λ_ _ _=>`bt,(I.ok.hd hc),pl.isList,0<=k,List.all_cons,List.reverse_cons,λx hx=>?_,D->D,`cM=`oq,`bv ks ds,RpN K H B as d v,λ_ _=>rfl,∀a,`j1->B a,∀a,B a->`j1∨`T a=`c,(`Ih).any `bj=`n,`de h2,`Iv hi,List.mem_cons,ZipApart z TI TO i1 i2 l1 l2,`sX b,(Y6 (j5 `fY)),[`oX, `JH],.row vs,`s? ps,(1000:Nat)<=`P,List.flatMap_cons,`e3 z,hb ps B T `pe,Wf ps `aI,Z9 ?_,[lb p S (i+(bs (2*k)).length) P T,.sh (`aaa),.un],`O (`t0),
(s8 p S i P T kd sz c acc a b d),`e4 ha,"folded","pack","held_items","item_bytes","known_head","name_bytes","part_number","text_bytes","_law_cell_at",(λb ds r b' h=>xk0 h),"_law_names","_law_number","_law_value","_law_word","_law_part","_law_web","_law_numbered","_law_led","_law_drawn",(wd0 `mO `aaN),"_law_told_name",Sum.inl,prog,`a .local,I.freeC,I.len,(`b5 x pos),(`cu),assignEach,.Subscript,"enumerate",(`x t),s.TypeIs,`s z,`x l,ns.length,[`dp],ns.map,(`HA elt [⟨tg,`hF,ifs,0⟩] `cd pos),δ[j]?,`a a,`a4 F l m,t σ H Q,`hS s2,`S a,env.same,en.fr,λz=>?_,`b7 g,`li a,leans,putK,True.intro,b≠a,EnvV.mk',`dv d n=`b,`d `cg,trees,"reversed",K3 ks q,(`j0),(`WR),List.length_zip,xs=[`eT],CloseOk,opened,gP δ,s.heap.update,(`dM),"_law_script",`d 2,(gc (`d 8)),`s "row",`s `zy,(o2 `ay `ch ixD),`q (cs.map `d),`d `da,isName,.ow `dQ,(np:Int),.sh (`mq),2 ^ 2600,ps.flatMap two,(Bw.small `i),(`tr),.sh `kC,`e3 hd,`e! `cv,Sl.sh,p::ls,T.b_list,[`YZ],"law",`l x,us.length,`X _ t,I.os,A3 e,.Constant,`rC op b=`n,PE X a ta,h.elim,SqT K H a xs,hf it `aO,vals1 r,List.getElem?_replicate,I.laid,slice,hfew,(`xX),CompOk sc `cd X.N N' n `ce,RpG K H B d a,`H hl,`bv _ _,.fn _ _,hq.to,`d5 hx,ev.ex,`yd=`c!,`HQ=`zd,(`ek).bind,[`kn, `oS],["name", `zD],(`Zu),(`Ka),Gw.uo0 _ _ `t,`be hd,hw.it _ w2,(v7 `bX u0),`au `E,Value.ref,by simpa using h1,h.get?,`a (`gr a),`lk b,`a `nL,`d3 x,`a `nN,X.ex,X.s₀.heap.objs.size,I.pin,{ s with heap:=h',toks:=t' },Q v H',.BoolOp,Inv X `h σ' H' s',`bR o `A,(`x it),xs[i]?=`cn,hf b hb,s'.heap,.BinOp,(`n,`xp),(m:Int),getItem,ht.typeIs,`K->`xl,its.length,(eqU x),vs.toArray,(`rl P w),A.units,.function,(`x D),(Z3 X `cd cl N' s H ex),DL.Ds,.sh d,`a (`x5),B' a,.ins C dx fs,`a `d6,`a (.rt d),`a (.rf d),Pd.app,(frz δ),g `lZ,owL i δ,kv.1,(`Xa),Pd.impI,rv.length,r2.length,pos2,rv.same,Rps.snoc,A3 h,C7 ?_,J.extBut,(`hE),as.map,.Tuple,inS l,`au ResB,vb0 `bw,ns[k]?,`a i,ps.map,PSsB,(gN 1),(z7 `e8 v5),(z7 `bI v5),(N7 `zz `ay),(W9 v5),bk `gS cs sm m `aI,.ow (j8 p (`mo)),`q (`jV `d),
.sh `oK,(s:Int),code N k,.sh (`zO),[.un,.un],(r:Int),`id<=20,Y5 `f1,hb ps B T d,Km.U5,by rw[`aH];omega,deq x y,K22.sub_len,(`z5),`s w,T.map `em,(`tU),(F:Int),(R:Int),W.nm,(d9 `aQ w6),(z90 u0),S7.nd,(O6 `es (R8 0) o4),(λcl s H ex=>ya0),`O (`U8),Loc `ru x,`GT∨`Vp,(`rD a [op] [b] pos),(.Return `GZ pos),(`G1),x::xs,`ri (`lh),V->`aX->`aX->`xl,`d a,hplain,(by rw[`bd];omega),`H hb,`O (Str×`e),Loc `ru y,X.fn y=`b∨`GS y=`jH,`bG<=`P,(j+1),∀a,`lT->B a,`m e,as.Nodup,r.live,Pd.set,`ad z,List.drop_length,`cP d=`b,p.1=k,PX X e gx,λj=>`Xx,List.not_mem_nil,or_false,p::ps,(`oL).bind,List.all_eq_true,`sX c,`a (`s_),[`oU, "_law_small"],(ob (o2 `ks `zA eqD)),(T4 `mn),.bl sm,cs≠[],p.all,`bm `i,`z'<=20,(∀j∈B,`ep),(Y6 (j5 `_O)),(V5 `_I),(top 10),(Z6 (d8 z10)),(top 21),(top 23),(top 24),(top 25),`au `G,(`wZ),Sum.inr,`gq<=`P,(a==`w2)=`n,(Q4 P w),o.data,"range",(`c'),.cell,(`cb),`a p.2,b≠`dE,`eK=`c,`rs=`ab,λ_ _ _ q=>q,(`c?),`cq x,holding,(ha `h s σ H _ I h),D.nx,(`lx),.Assign,(he `h s σ H _ I h),SqL K H a xs,B7 _ e,λb o e=>`n1,(hi - lo).toNat,.bl k,x.length,`_+1,scope.names.lookup,List.getElem?_append_right,`x b,(1:Int),typeLookup,s3.heap.objs.size,"len",`Hl<=`P,(`r0),s₁.heap,.bl `b,0,(`Wp),(t7 st),σ[j]?,`b5 y py,`au (`f),`au Res,(`lR),f d δ,gi δ,`s `Wd,`a ds,¬B a,`eb=`av,.dK `sh,(`x C),.deep,(`HN s),Pd.get,`yk s2,`sp _,cutD,DGet,[e,f],z.elim,n.toNat,IsPair,xs.size,{ s with heap:=h',toks:=tk },flats,forIn,(`dL),gk δ,(K8 N j p b ds),J.w.openOk,go δ,(n+k),hb.go,(`x S),"_law_k",(gv 7),"_law_cell","at","_law_size","_law_value_here",(unG zi0 `aS),(ob `mm),`d k,.sh (`o_),(p:Int),`s T6,nmF N w a k,`s (`as (`mt)),`q (`Zp `s),.sh (`tm),((n%128:Nat):Int),fold z,[p.d],(W3 rfl),`d `eU,(kt T),pd `o?,(kb B),W.length,λ_=>rfl,(`io),(`mA J).2,hw.its,(`mr),(lkv `c2),`l q,(R7 0),`d `AV,.sh (`pl),(o2 `V `ci o8),(N:Int),((`AZ:Nat):Int),acc.map,o.isSome,(.sh (oD o)),Res.nx,.ow `A6,T.b_isinstance,K6.nd,R9.nd,(top 31),(top 33),[`dy, `_1, `oW],typeLookup_type,builtinLookup_eq_fast,(`U4),
xs.drop,`O (κ×`E),`O (`e×`co),`au HO,X.outer,s.gens,Model,PassesOwn `ac X.A `A `aA,p.isList,(∀b∈fp,`nQ),`E->`G9,PE X b tb,Bool.eq_iff_iff,.NotIn,OpR X (`cK op) r,`ad `t,xs=[],value,(`jN a b pos),.bl a,n<=`P,λx hx=>h x `xT,`l z,Bool.false_eq_true,λ_ _ h'=>h'.elim,A0 ?_,(`al).map,`a `sb,`bf<=`P,`a `x4,(`oo).bind,(`ae),.fn ks ds,`O `co,h.at',(`so),⟨x,en,e1,`WT⟩,PDA X `fI gA,PDF X e g,∀cl s H ex,PFD `lP ifs gt,∀cl s H ex,PD `lP elt ge,"bool","isinstance",(`fE `cy (`Ig)).all `Ii&&`Ij,(`fE `cy (`hU)).any `bj=`n,`bf=n,KT H kvs xs,.dK [],`hC n1,Bool.false_xor,M9 0 n,List.length_reverse,st.hTI,`O (`I2),a::as,(A3 q),`zi s1,ws0 f4,`Jl=`mg,(`h7),h1.objs.size,(Q9 1 `mn),(tl0 1),.text w,(Z2 ?_),List.length_range,n<`kz,(`z7),(1000000:Nat)<=`P,Pn.put,hb ps B T `dR,Bw.nm0,nB B d,x<`ar,ih B T hm hn hB J,(`KG),Bw.web (Km.laid ps L),`O (`cL),RQ K H B q vs ls,(j9 ?_),Bt.Q5,i<=`er,`bm rfl,[lb p S j P T,`K!,.un],[lb p S (j+`id) P T,`K!,`ih],(P++[`z]),(top 2),(top 3),(top 6),(top 7),(top 8),(top 9),(v7 `aQ u0),(top 11),(top 12),(o7 V6 Y9 `mL o4),(top 13),(top 14),(top 16),(top 17),(yu0 0 `es o4),(top 18),T.b_range,(z8 7),(top 19),(top 20),(top 26),(top 28),(top 29),(top 30),Array,`Q->Prop,"function",model,L2.SubO,o.cls,.fields,xs.map,H p.1,F a b,`gs b,sc.names.lookup,X.env.scope,λ_ _ q=>q,0,(σ.set i `nN),Heap.SameBut,AllBare,`dn es `A,("__debug__" : Str),behindInMarks,.Compare,λv s1 ⟨x,H1,I1,r1,q1⟩=>?_,ok.kind,swapsWith,pos.line,`b2 `n,`b2 `c,((0:Nat):Int),(b,o),`bu+1,(`GB),2 ^ 64,A.deeper,`xr `dH `cd `_ f cd,List.getElem?_append_left,(`bC `Hb `fI [] pos),(`bh T),IsPart,IsTup,Str.ofString,`fK `av 0 lo,I.hok.fresh,`rY `a_,atI xs i,`q ys,sliceBounds,.dK kvs,`a n,(`xJ),V.int,callerA,(`jV `r5),(`Wp).In,cl.lookup,NameKind.cell,T.obj,(`WA).names.lookup x,z.symm,(`xd),`a [],(`bF),(`dt).bind,H a=`ab,ks.zip,(`HJ),Rp K H B d x,`m ks,(`sj),sos.length,(a:Int),`a (`lV),∀a,B a->`hQ,Same.refl,(`yg),λv2 H2 s2 r2=>?_,r1.length,w.oth,en.grow,
λv σ H Q=>∃B d δ,tDG X.K idx f B d δ v σ H Q,`S b,B b/\¬`sw,`gL `bE,G `yu,V.str,.ow d,K3 ks k,λb z=>?_,trivial,Pd.setR,b≠p,A3 h1,en.frz,`bR `eh `A,(by rw[V4]),(`cp),`ri GenState,(`oy),(`sJ),M.extBut,pyNext,ys.size,min `oG `sR,(we0 H l),`fC->`nR,M6 dk,(`q l),sub.lookup,`sX a,`a (r,b'),`q es,s2.trans,Value.none,(`bh `eR),(z7 `ay v5),(gc (`d 36)),"_law_number_here",(oA `e9 W8),`d 4,(o2 `V `fZ o8),(gv 6),putAt,(gc (`kq)),.table,`mh pr,`as l,(`e'),`as a,(a++b),(`ct),Y5 `JV,parts,(`tb),`bH*`bH,[`gT,s1,`gU,`gV,s4,`mu,`J4,`gW,`J5],bk k' cs sm m `aI,`q vs,vs.getD j `z,.sh (`o5),.sh (`d `ms),.sh (`d f),`B `ZK,U4 (z50 ?_),[`bK],`ea `d,.sh (`Ab c ps).d,(x:Int),2*`id+1,j∉B,(kt T).length,ix B j,`Ko - `tA,(`ii),.sh `z,.sh `Kr,W.reverse,p.vals.map,L.length,λd m=>hd d (A5 _ m),(`KE),p.vals.length,`e! `bj,`q `AJ,(`KM),[`ii],(`KP f),λk=>(`Ky).d,.Dict,(`_C),(ob `YF),bk S i P T,S.drop,(hi `mE).length,(.sh (`_6)),`d `K5,.sh (`d `po),((4*F+1:Nat):Int),`A2×D,`pq prD,(full ps `c2),(`_l),.sh `A6,(v7 w6 u0),(v7 `fc u0),b_list,(pab 0 u0),(top 22),(j6 `iD w6),(z8 6),(Z7 `a8 w6),(top 27),(top 32),U7.nd,`O (`nD),`lh->`dD,O0.mpr,H b=`a!,by rw[`Vb];exact q,b∉ex,base.Ns `aa mg,X.base.get? b=`ab,`GN=`lp,frs `gy,b∉ch,`ls p hp,Unit->`dD,`M->`fD,`br vs us,spliced,PT X a tA,standAt pos,`nV `VC (`xh ov iv v),release `VC [],λh' eb=>⟨rfl,`xj (t':=`bu) (λb o hb e=>eb b o hb e) f0 f1 f3 f4 f5⟩,[`eS],I1.fpOk `a_ (`xk),V->`xl,(`hG .Add),"ord",`gC k A,(ps.zip us),PA X `fI t,bindL,bindC,N.length,r.get,y=`n9,`a j,`dJ<=`P,`s b,r'.length,(by simp only[`bd]<;>omega),H l=`xB,IntsAre vs ns,`jT<=n,tn0 `od H,`lM+1<`hK,x.cps.size,caps.length,names,`be hx,`ad hc,s2.heap.objs.size,(`db),by subst M;rfl,X.N[i]?=`dm,`B _,(`cV).bind,G2 δ',`a (.ct δ'),`a (.bk δ'),gt δ',by simpa using hj,`al=`aJ,∀o,`sf->H' a=`ab,`l ks,v=`aR,h.ins,(RpL.toO rfl h),`d n,l[i]?=`jY,δ.length,f ds=`a2,(o2 ga gb f),Op2 X.K r f,PTD X a gt,PDA X es gA,PD X `rS (oA gA f),PGD X tg idx f,PTD X c gt,i<`bG,L2.PI.imp,
⟨v,e,`j5⟩,hf ds d h,y::ys,λK d=>by cases d<;>kernel_rfl,by assumption,λ_ _ _ _=>`yg,p1.isList,CompOk sc `cd N N' n `ce,X.N=N,(hN▸ok),(`eg).map,`f->`M,(P8 ..),`e4 hx,vv0 e,H b=`a (`B (k.map kV)),H a=`Ho,`gq<`P,qd0 `bQ e,(ty0 ry),o00 `bQ e,`O (TE×TE),v::vs,`bw=`Xl,`H hf,EnvV K `T `S H σ δ d v,updateSeq,Heap.size_push,IsZ `aw z TI TO a f,`w!=`a oa,`y3 l1 xs,`y3 l2 ys,st.h1,st.h2,(by rw[`W,`dw];omega),(`XY),`oI ds=`b,(`a1 i (.sh `sW)),`a (`ov sub),(h.go `T `S δ),j<=`bf,List.getElem?_cons_succ,`zb=n,`d p,ux0 eb,AtN K H B σ δ i a ns as sos,th0 ns d,(`oO).bind,PN X i o go,v10 ds,(tupI `YY),`h? c ps,decide_eq_true_eq,c∈`zG,`a (.rt d δ'),[`mp,`o0,`zI],.ow (j8 p `f0),[s0,`o0,`zI],N6 `JV,[.sh (`d c),.sh `sb],M9 0 `da,`H `i,`kv s=`b,Gw.s60,[`ys],`e4 hp,[`ky,`tp,`tq,.un],`yD α,z.natAbs<`Kd,`B [_,`e'],(kb B).length,if `ie then bs (`Kk) else `Af++sg s,`cj<=60,if `ie then T else `Ar,nW ps B W d,lkd i,T.Nodup,`H hj,`ad hj,`_d<=m,Km.vm0,w.cps.toList,c∈zy0,qs.flatMap two,`I h (by simp[deq]),D.non,(S2 `t `t),mkB 1 U8 0 (W5 f) `mH [],`aaj<=1000,by rw[`bc],(LB f),(t60 T.c_BASE),[`zE],[`zE, `JN, `zC, `zD],vh0.nd,[`s5, `Jw],[`kn, `YW],M4.nd,(sa0 `A9),(o7 V6 Y9 `aE w6),t40.nd,`bh `rk,⟨hh,gg,dd,tt,oo⟩,Value.str,κ×V,sysModules,`fz=`ab,SubOk,H b=`ll,k b u q,"__name__",`cJ b,X.pn++`h,I.base.free,`cJ a,λb o e n hb hx=>?_,I.ok.above,List.getElem?_set_self,isTrue,.bl `n,its.size,its.toList,e::es,setItem,ua0 X `h H b,I.turned,`G4 `a_,Hp->VK->Prop,`D (x=y),`n=`b,r x y H Q,`bR e `A,sp vs H Q E,envOfC,(start N vs),(`fx id),(`hI),sIx `dI 0 lo,(`x sl),se0 xs lo hi,(xs++ys),xs[j]?,2 ^ 63,`a `jL,`a `GD,[`jR],H l=`c,`B ys,(`xF),(`r2),(ho `h s σ H _ I h),`dF `b,(`x fa),`a `xK,s₁.heap.get?,BindsTo,Value.bool,(g8 st),`a (`fA o `jL),env.cells.lookup,(n,k),(A5 _ hx),`Vi x,.next,ForInStep.yield,λ_ _=>`bt,target,`K->`fD,`a `oc,X.env.scope.kind,X.env.kindOf x,`b2 `b,`au `M,(`cz),.nx δ,t=`b,Ga δ,M7 n `ce δ,ys.map,`a δ',ge δ',SqT' K H B a xs,SqL' K H B a xs,`bv `sk ds,r.same,
as[k]?,(SlR K H B),`a (`HS),by rw[m8],k _ H `b9 `sq,(`WS),by rw[Y0],r1.same,k H' s,(h1 `T `S δ),⟨_,en,e1,k⟩,λi H2 g2 hi=>?_,if `sx then `c else H1 b,en.same.nf,s1.nf,Sl.un,(X6 n `ce gi f gt ge),(R4 N ds),d=`z,isL d=`n,λ_ z=>`fR,(`x9 `sA),`b5 Tn p2,Env X.K H B σ δ,([]:`Wj).length,(if ([]:`Wj).isEmpty then 0 else 1),DecidableEq,oj0 i δ,[a,b],`l1=k,List.find?_cons,valueAt,kvs.map,atKey,ks.map kV,`a q,"dict",keys.length,dd.typeIs,Gr.own,⟨a,rfl,hb,r⟩,(`n9),λa z=>z.1,en.mut,Rp X.K H B d x,SeqAt.EqAt,(`x I),.done,Builtin.List.listExtendWith,(G0 _ _ (B6 hb)).trans,Nat.min_self,(`IC s1),`x z,s.heap.IsList,c≠z,xs[k1]?,`ma `li,hG.above,[x,y],(`IB hp),List.range',(`jR),L2.closed,us.take,`bf+1,`B (`cc::ns),`a so,(`kj H `ec),sos.set k so',(`yb),zk0 ks ds q,at'.same,`X! f1 f2,J4.mp,Pd.len,`sg `Jp,(`fU (λ_=>(#[]:`aK))),(L,HO.lst (`Yg))::z70 as' (us.zip ws),`s "",(gv 8),"_law_signs_here",(gc (`d 10)),(o2 `V `kp p8),(o2 `V `fZ p8),"text",`s `zv,(gN 6),"record",isTup,(gc (`zw)),"_law_web_here","begun","told","web",Str×D,nameS.cps.toList,`a `dG,.sh (`kt),cs.length,(gc `tc),(z/(`bH+1)+`tj),w.take,(`J1),`d `sm,(`ka),(by simp only[`aH,`dP];omega),(`am rfl rfl),B9.mp,.sh (`d (z/4%4)),z/4%5,(st:Int),`J'+`bH*`zV,pool.getD,(k+1+n),.ow (j8 p (bk `zY cs sm m `aI)),`kx - 1,.sh (`J9),`B (`ta),z/300,(`mh Pt.d),r/128,n/128,2 ^ m,W3 (J0 ?_),[`dM],(z7 g v5),cnt p,4*`z'+kn p,(`ts),(W3 ?_),Pt.rcd,.sh (`Ke ps).d,A2.mpr,`be h,bs (`tx),ps.getD,(.row []),4*`o8+1,`D (`ie),(`l s),(`pa),.sh `Al,(`gY),.sh `An,[`tr,`gY],(`ij),T++[s],its `Aq,rel π p,`mh λp=>(p.1,lkv π p.2),(`Kx),L.map,(`B `ZV),ih h `tI,hd _ A6,`em s,B'.length,(n+f),(n2+f),(`Kt),[lkd 0],w.cps.toList.length,(`tu),`dv x 50=`b/\`dv y 50=`b,(nd L),tgs `_q,tgs ds,`q (`e! λq=>`KK),(`tL).zip,pre.length,(`_M),(ob `YJ),(z40 `e8),(ob `_T),`l `oV,(.sh (`iv)),(`dg:Int),(i+`dg),`eU+`AV,Z2 (V1 (W7 rfl)),4*k+2,.sh `aaf,`d `Le,.sh (`d `mJ),`au Str,(`dS),λa=>(a.1,lkv `c2 a.2),rp0 _,(`KH),(t10 w6),(t50 w6 w6),hr.units,z80.nd,(`bq)->`rj,
`R->`rj,y.cls=`wZ,(`rl P W),(`s x t),`bi e,by simp at e,`rn=`eJ,o.dict=`c,`x c,`ro vs,entryOfKey,∃o,`w3,∀b xs,H b=`ln->`eK=`ln,H a=`c,∀b u,`GF,`a ob,Un.kept,b∉`fB,I.ok.bs b o e,`_<=a,`hA x c e,s.heap.FunFrames,List.filterMap_cons,A5 _ hb,(`jI x c e),λx c e=>?_,(M b o e hx),(`w' b o e n hx),`Vm b o e hx,I.step,s.drawn,I.base,Q vs H',λ_ _ x=>x,`dF b,(`lv .And `Vw pos),(`lv .And `Vx pos),`aC a=`ab,Array.length_toList,Inv X `h σ H `gA,`fF->`nR,It->`fD,rawInt,λb hb=>(`lA).1,`G2 (t':=`G3) `n2,⟨_,`gp,rfl,rfl⟩,`dn [a] `A=[`VJ],L4.mpr,r xs H Q,Int->Int->V,x=`aR,(tOp r ta tb),0<j/\`VO,PA X es t,(vs++dvs),⟨us,[]⟩,r.append,Str->`au `V1,((p,w)::`Hc),by simpa using h2,`n7 y,`rR `V4,List.length_replicate,ws.toArray,⟨_,ho,rfl⟩,if v<0 then (v+`da).toNat else min v.toNat n,((`V7:Nat):Int),s.heap.IsSliceOf sl vl vu `Z,`rU vl lo,`rU vu hi,λb ob q=>B7 _ q,r1.append r2,`au Nat,`H h1,`ad h1,i<`av,subscripted,x=`eT,SqL K H p xs,Bool.or_false,⟨_,e⟩,`s a,`I (show `xn from fx) A9,xs.all xr0=`b,(λw hw=>xw0 rx fx r fs w `Wh),⟨`bk,H,I,rfl,?_⟩,show its.toArray.any `lJ=its.any `lJ by simp,uz0 r fs,xs.dropLast,xs.reverse,x=`jS,rv.one,l.most=`r3,⟨t,rfl⟩,(λv _=>v=`oe),`xO `b,`aW x `dH (Z0 st) `xP `oh `Z kV doc pm an cdv ct,`aV N ps `oh,{ s with heap:=h',toks:=`rM },v=`cc,List.forIn_cons,by rw[← hs3],U.extBut,⟨?_,?_⟩,(`dc).bind,`a `sd,(`a1 i `om),`au Sl,`s y,Ds->`au (`aX),[`cz],(`ae).length,v6 G1 G2 δ,`al=`cW,`oo=`a `ap,g _ _ n h,v=`z,by unfold Rp at h ⊢;exact h,by unfold Rp;rfl,by conv=>lhs;unfold Rp,⟨x,rfl,h1⟩,s _ _ e,`yc s,by unfold RpN at h ⊢;exact h,`fO=`sl,(λ_ _ z=>nomatch z),(RpG.toO rfl h),h.same,`xb hl,`HU `HV,∀v H',`aD->`HW->`lu,∀σ H Q,t' σ H Q->`j_,(`ee).bad,Rps K H B ds vs,`cU `T H,`T p=`c,xu0 `ym zh0 `h s σ H D I `yn,⟨r,`su s',e1,k⟩,List.drop_eq_getElem_cons hlt,`gM hlt,(`HN s2),(λcl s H ex pins s' σ H v u Q I r ⟨B,d,δ,h⟩=>hg cl s _ ex B d δ `h s' σ H v u Q I r h),(show u=`j6 from ru),λ_ _ _ _=>`WS,k _ H `b9 ?_,
PDA X [e] gA,`gC m X.A,(`eg).bind,(M6 d).bind,wl0 ds,ye0 xs ys,(kvs.any `Ip),(`hV),Rd H a `Hp,Inv X `h σ H s',(show u=`li b from ry),(Y3 hu),(ra0 `bQ eb),(`It).isSome_eq,h _ (`dq),PE X o td,Pd.get',e.at hi,`de e2,⟨_,hi⟩,⟨_,h⟩,`hC n2,`I rfl n3,⟨B,`Id,`yx,e⟩,[`Xs],"append",(`h_).mut,`j7 ds n=`b,Rps X.K H B ds xs,Bool.true_xor,dxs.length,`ei d=`b,(`bh `IL),(λfin s'=>match fin with|`yY f=>R (.ok f) s'|.again c'=>c'.quiet=`b/\`hJ `aG A c' R s'),(λe s'=>R (.error e) s'),(hT 0 _ st),Builtin.List.listSameRef,`a `IN,(λ_=>#[]),(`xe:Int) - 1,not_or,(`HJ).map `XI,(zt0 rr).2 hl,`nV [v,ov] (`xp),K3 pr.1 q,⟨rfl,λe u he ru=>?_⟩,`oF `aw TI `IV `IW,`XM i1 l1 k1,`XM i2 l2 k2,(∀c o,`y4->`XP),A0 (A0 (`l')),`o `aG A (`sQ `h3) Q E s,ZLow z TI TO i1 i2 l1 l2 S,st.hl1,st.hl2,`sS<=`P,`fO=`sS,`e3 hb,List.nodup_cons,by simp[z70] at h,(`I8),ys[m]?=`dm,y'::ys,m<`dJ,"index",But p H H',"setdefault",isLs H p,.ow `sW,(`sY).isSome=`b,OpenOk,J b _ q `du `du,`a so.ho,(ha.go `T `S δ),`h4=`cA,(λa=>if a=p then `c else H a),ev.same,rv.mono,(`me).bind,(ha.go B δ),J4.mpr,nrf d=`b,by unfold RpN at h;unfold Rp;exact h,by unfold Rp at h;unfold RpN;exact h,J.w.back,`m (`X?),λv1 H1 s1 r1=>?_,Q2 (A3 ec),∀cl s H ex,PX `lP elt gx,env.bad,(H 0 `t),`x9 `r5,(V5 `ch),(o2 `ay `h8 o8),(ob (o2 `Ju `ch eqD)),(yy0 (ob `Yz)),(j7 `df (o2 `YD `YE ixD)),[`dy, `oU, `oW, `YL, `YM, `YN, `YO],(ob (o2 `ks `s! eqD)),(T4 (oA `JI zc0)),[`zB, `JH, `Y8, `Jx, `YZ, `YL, "_law_fields"],(d7 (yd0 1 `JL)),[`JM, "items", "pair"],(ob (o2 `aj `ch gtD)),(d7 (K5 1 (o2 `h! (o2 `aj `h! p8) m7))),(j7 `df (o2 `aj `h! o8)),[`Y9, "out", "rest"],.text _,T6.cps.toList.getD,`O (`j),`eg=`a (d,δ'),(`zJ:Int),vr0 _ _ `i,10 ^ 60,Vk v m,U4 (z50 `f1),`as sep,λc hc=>?_,[`mr,`J_,`bV],nm.length,`dg=8,t6 ?_ rfl,(by rw[cl];omega),`zS hj,z/52%3,np=13∨np=53,by rw[wq0];omega,[`zZ,`bV,`cQ,`o6,.un,.un,.un],[`zZ,`bV,`cQ,`o6,`to,`z0,.sh (`z1)],`ad `i,((`z4:Nat):Int),((`z5:Nat):Int),.sh p.d,S5 rfl `Aa,.sh (Pt.row vs).d,`ar<=20,ix l a,(`ZX),
k∈ks,ix ks k,by injection e,(`Ag `fG `Ah),(`m `bH),kb_mem B j,`bi `ig,`gX<=100000,[`ih,`Am],ui0 _ `kB,`a (`bl _)=_,[`a7,`kD,`Ao,`Am,.un],(`_g),(`At),k<`ar,(hL k hk),(∀d∈ds,`f4),show n+1+f=`AC+1 by omega,hw.len,h d A6,(lkv π d),`AG=`dg,`tK<=20,te0 xs,(`kF).length<=20,ix L j,K22.rb0,ns5 ps B W `ph s4,K22.pn0,`AL++W,.sh (`_s),b7 (ds:=`tO) rfl,nrf v=`b,`c::q,t20 `ym zh0 `h s σ H D I `yn,`a1 j .un,(p00 js),J.same,(putN 0 `pk `dO),Q8 0 `pk `KZ,`q (S.map `d),S1.mpr `i,ds p S `bE P T (n*128+b%128) `n `AU,(i+`JU),Nat.add_assoc,R5 rfl λp=>?_,IB `K2,(`AY),2 ^ 10,(`K?).trans,gv 1 δ=`a (`d N),[lb p S (i+(bs (4*F+1)).length) P T,.sh (`d `t_),.sh (`d `mI),.un],[`aag,.sh (`d `pp),`gW,`A_],PsOk.len,(by rw[gt1,← hk];rfl),(`J _ _),`c3=`cj,(P++(B'.drop `cj).map `t2),`ma `A4,Pk.split,i1+b2.length,hb ps B1 T `A3,[a,b,c,`tE,d,e],.isTrue rfl,[.un,`a7,`t4,s3,.ow (bk l `cB `Lw T),.un],PDF.pd,C_number_bytes,(zs0 `fd `f5),(z8 8),(o7 V6 Y9 (j6 `aQ w6) w6),t7 `t9,t7 `ua,(Z6 (d8 o4)),(T5 rv0),"__class__",`d i t,`bB `bP n,{ cls:=`cp,data:=`GC },b=a∨`w5,`lm=`a!->`rs=`a!,`fA ob u,`a (`fA o u),.tbl ps,`a (`GI),λz=>z,`rt x=`gv,X.env.cells.lookup,σ[i]?,I.base.keep,I.base.slot,(λ_ q=>q),σ.length,X.env.scope.names.lookup,X.fn x=`b,I.base.tups,I.base.frzs,`O L2.V,.UnaryOp,`xe<=`P,(`a e),h.IsListIter,(`aBu),by simp;omega,I1.kept,s1.toks,I1.hok.fresh,{ cls:=`bh `nK,data:=`ro #[`d lo t,`d hi u,`d 1 v] },`bR a `A,(`aBx),(`aBC),`E->Sem `E,{ s with toks:=`rM },`d (if k then 1 else 0),I1.laid,`fE pos (`rA),(`b5 x p),P.zip vs,E2.mp nd,sIx `dI `dI hi,`He - `xv,(`V?==0&&`n'==1&&(`Hf)==`dI)=`b,`aCJ _,(`aCL),`fK `av `av hi,-`da<=i,z.length,eqV y x,`d `Hl,`a `xH,(`Wi),{ cls:=`cp,data:=`bB `lK },d.name,`rz s'.gens,by rw[q];simp,Params,l.row.toRowW,H b=`ab,(`oi).join,NameKind.free,k==`Hy,.ListComp,s2.toks,`O (Str×`E),(`aDi),Sum Int Str,`O DL.D,D->`cL,zm0 f gt ge `fM `ap,Rd H a `jL,`sg xs,`os/\`a3,Rps.mono,`HL g r,Gr.same,Rp.mono,λ_ _ z=>z,sos[k]?,RpD K H B ns a,.ow ds,`a `om,List.getElem?_eq_none,
(`aDn),Rp K H' B d v,(`aDo),(`aDp),Or.inr,(`ee).same s2,h B δ,`nX σ H,en.same.trans,rs.length,(q.mono g2).to,by rw[`H3];exact hi,λi ds a h1 h2=>?_,(b1 a z),by rw[U b n];exact h,`bG - `bE,it.yld,it.stop,(gN i),PySem.Env,`W7/\`yw,L2.start,λ_ z=>z,(g' i j),rr.length,`dn [e] `A,`fE pos (`hU),(λx=>!x.1),(backToKw `cy (keywordEach [] `A)).all (λx=>x.1.isSome),λv H1 s1 r1=>?_,Binds K fd ps [],`cP x=`b,`av+`dJ<=`P,(`VQ)∨(`VR),λkv=>`D (`yG),`j8 kvs k v,`aDK e,λz=>e (h1.trans z),rel.val k,(`aDP),env.at,(`a `cX),`bw=`hX,∃(i:Nat) (d:D),`Xq,⟨z,q⟩,⟨v,e,`b7 (`eX `yT)⟩,Gr.fresh,rx.same,fun σ H Q=>∃B δ,tDT X.K B δ gt σ H Q,`b5 y p3,`dv e m=`b,`cI y w,deq d e,A.in1.units,M.length,(`j0).trans,"list_reverseiterator","__length_hint__",{ cls:=`cp,data:=`bB #[] },`bC (`b5 `kc p2) [e] [] `l6,K4 `sh q,J8 ks q,DGet.k,(`aEi),s1 _ _ hx,(`aEj),(`x i1),(`x i2),h'.objs.size,c≠i1,c≠i2,D.l2i1,acc.toList=`y6,·.push,`e×HO,`bC (`b5 x2 p2) `fI [] `l6,z70 as ps,Prod.fst,(`XW),`a `xG,`IK s3,(`b5 x p0),Gr.but,H p=`Ho,restOk,us.drop,f b ds,δ'[j]?,`a (.ow (j8 p b')),`bv ks vs,xv0 ds,(`WP).imp,(`aE9),J.w.node,(`zk rx),(`aE!),`ce[k]?,(.ow b'),(`aFg),(`aFa),(`Ya),wl0 (`e7),A3 `C,`B `XV,(`aFA),(`aF2),(`aFO),"_law_many","_law_at",(`aHj),"many","abcdefghijklmnopqrstuvwxyz 0123456789",(y30 `e9),(`aHR),(`aH5),(`aId),"table",(`aHn),"_law_order",(`aI3),(`aJA),(`aIF),(`aKb),"part","item",(`aD2),(`aI5),(`aL'),bk k cs sm m `aI,(U4 ?_),a.length,b.length,(by rfl),Z9 rfl,.ow `f0,[`lR,`JX],(`b6 n).map,.sh (`s S),(`aNg),`s (`as w),names.map,cg ((N+`cg)%36),.ow (`q (`J2 `s)),.sh (`o4),(Y4 1 v5 f),J6 `bJ `J6 1 `mv `ap `f0,nm.getD,`d `zV,z/1000,z/4%21,`z2%`kx,Z2 (V1 (W7 ?_)),(bs n).length,.ow (`q (o.map `d)),2 ^ 2500,Pt.table,ps.take,`Zs vs,(`h7).length,(`nF s:T7),ix T s,2*(`ZY),(`Kj:Int),`Z5 - 1,((`tx:Nat):Int),`cj - 1,(`cj:Int),`ea `bl,(`d x),.ow `Al,nT T `dR,(o++`Z'),if `dh then B else `ik,by show `gX<=_;omega,`Ag k `Ah,rel `c2 `Av,λs m=>h3 s (A5 _ m),(ds++W),n1+n2+1,`mA hj,(lkd 0),
100000 - n,W.wb.it,`s _ _,`q `AH,`d (-1),(`_n),`s q.1,nd `tF,`q (`KL),`q (nd (`AK)),.sh (`AM),(`kF).map,L.take,(`aOE),`j'/\(B b∨isLs H b),(B6 ne),"_law_byte",(`aO'),"_law_name",(`aHQ),(`aPi),(`aPF),ResB.nx,zq0 gt G n δ',λc=>`s (`as [c]),(`aR6),(`ea `K1),(w++[x]),(c:Int),(`ea `_7),lb p S `AW P T,`a `dR,((2*k:Nat):Int),`d `Kn,.sh (`K'),xq0 rfl,by rw[p6 h rfl];rfl,(`aSj),lb p S `Lb P T,bs (`Ai),(kd:Int),h.gd p hp,`pq λx=>oD x.1,`D (1<kd),`g_ ∉`pq `bj,bk S i1 P T1,(`KC).2,lkv `c2 v,(`fO:Int),(`aao),lkv π v,[`bK,`Lo],`aaq v hv,`e6 `im,`B ((`aas).map pr),(`c,v),(`a q.1,q.2),`aav `A4,(`Aw `t2),(`aSL),[`oS, `dy],[`aSZ],t7 `ub,[`dy, `_1, `oW, `KW, `YO, `oS, "_law_field", `oX],(`aSY),isSubtype_type,`fx "object.__class__",`U1 `eH `rk,⟨_,e,c⟩,(`jF a:Key),(`nF a:Key),∃t,u=`U2,Paired.length,`X r _,by simp at e;subst e;exact`U3,⟨u,`lj,h2⟩,`O (Str×V),⟨_,`gp,rfl,_,rfl,rfl⟩,`nG/\`nH/\∃vs,`hz/\`U6 `nI a vs,o.ExactDict,`nJ=.dict es ep,(`U9),h1.get?,`b3 P w H h a o,∀a b,`U?,Paired.mapP,`a (`GG),`d2<=a,(x b u e).stay,Mut (H x),e=x∨H e=`Vc,∃u,`gs e=`a!,`a (`gr y),by subst z;rw[r] at mu;exact mu,`a (`Vd),∀b o u,H b=`GH->`eK=`GH,k b ob q,(upd H x o),K.In `r,builtinsNs,X.env.globals,X.s₀.heap.get? b=`ab,`O (`cr),`Vk/\`nP/\`Vl,HOk `aU X.w H' h',(`aAZ),`GP b o e n hb hx,id `eM,Inv X `h σ H `lt,k b o (λz=>hc (by simp[z])) e,λ_ _ e=>e,λb u e=>?_,∀b u,`Vo,σ'.length=`GR,N.Nodup,Q () s',(`eN hi).1,`w!=`ab,(`hB b (B3 (B0 `nT `xa))).trans,`hC (B6 hj),I.ok.has,(`hB b (B3 (B0 `nT (I.ok.cab x c U hc)))).trans,V->`fD,(`aA1),PT X e t,⟨v,H,I,r,h⟩,wpAny_Name,(`aA4),(`aA9),(`aBa),(`aBb),r.inj r',⟨σ',H',`VA,q⟩,{ D with nx:=u D },V->V->V->Hp->(`fD)->Prop,`jM es `A,PE X o to,(`aBe),`nV [v] `nY,`VD [tg] e `rH `A=`rI,`VE [tg] e `A=`rJ,(`jM [tg] `A).map `cv=[`eQ tg `A],(`aBg),(`aBh),ua0 X `h H' b,Nat->`rj,tn i `aw,J.go i H,(`aBj),Inv X `h σ H' s2,J.yld i H x H',J.stop i H,`d (lo+i),⟨o,e,λv z=>by rw[d] at z;cases z⟩,rv.get hx,(`aBr),(`gB `G5).objs.size,
by simpa using q,PI X tg `hF wi,(`aBB),I7.unpinned,(f v u),Int->Int->Prop,(`aBI),0<=j/\j<=1000000/\`VP<`rO,b30 x y=`b,λi j=>.bl (`D (i<j)),λi j=>`VV,λi j=>.bl (`D (j<i)),λi j=>`VW,(show `bt from r).elim,A.depth,(`aCn),∀vs H Q E,`xq->`cx=`ar,bindArgs,`gC k X.A,`fJ hq,sc.names,vs[i]?=`cb,λ_=>`c,`n8 `V4,`a0 K cdv `dH=`b,(`aCt),`d' X `rT r,`lo=`a `rT,⟨_,J,rfl⟩,(u3 _ _),`H hv,Builtin.Slice.slicePlaces,A0 `xu,`H `t,eq_of_beq,Subscript_,{ s3 with heap:=s3.heap.push { cls:=`bh "slice",data:=`ro #[vl,vu,`Z] } },q _ (`rZ),IsTupN.new _ _,`B `xy,seqIndex_of,seqIndex_neg,operate,IxR X r,SqT K H p xs,P1 `i,H p=`xB,I.write,k.toNat,`r1 lo hi `c n,(if a then 1 else 0)==b,a==(if b then 1 else 0),xr0 x=`b,(`fx `oa),SqL X.K H p ys,SqT X.K H p ys,`gs `_,typeIs_int,`bQ p _ hk,(`xg).length,(`aC2),Builtin.List.listTooLong,I.lstM hH,⟨_,e,rfl⟩,OpenLaw,d.params.defaults=[],mg `Hr=`xL,s₁.heap.Ns,`gC k `r6,∀(s:`p) (u:`E),`xN s fd `Wm [(x,u)],SqL K H a `r7,W.OpenLaw,h.Ns `aa mg,.FunctionDef,`cU H1 H2,x.cps[i]?,N'[n+k]?,`r9 y=`c!,x.2=`gw->∃c,`r9 x.1=`c!,`xS::r,λ(n,k)=>if `Wx then (n,`r') else `xS,if (`Ww&&`xU==`gv)=`b then `r' else k,Nat->`dD,h₁.get? b=`ab,(x,`gw),(`hL).2.1,(`eN e1).1,Nat.add_sub_cancel_left,`m hb,as.2.2.2.1,`rG `jW `HD `WH `A=`x2,`a (`eQ (`oj) `A),`O (`HE),`O Sl,λ_=>`sc,J3 f G `ap δ,D->`ok,`a (`d (i%j)),`a (`D (i=j)),sIx `av 0 lo,`on=`x',by simp[hp],`a (.nx δ2),`hM=`cA,by unfold v6;rw[h],.dT `sh,Rp K H' B' d v,by rw[m5] at h;subst h;simp[m5],`b7 (`eX l),(λ_ _=>λz=>nomatch z),RpNs.mono,by unfold RpN at h ⊢;exact `HO g h,`fN K H B as n so,`b7 g `HP,∀(k:Nat) C dx fs,`WO->k=0,`B es,(show `bt from h).elim,∀o xs,H a≠`xQ,Sl->Prop,m[i]?=`gI,l.set i a,`hR j k a ds es h1 h2 h3 h4,(upd H p o),Rp K H B dx x,k _ H `b9 (`yj),fun σ H Q h=>o50 hf h,⟨_,en,e,λv H' s r=>⟨t,`WU,`yl⟩⟩,`ad hl,FnR X.K r f,∀a,`j1->NB (`T a),PSD X st G,qe0 (i:=i) hN hi hx hf,⟨_,en,e1,fun σ' H' en'=>⟨r,en',e,k⟩⟩,(`H2 s'),`j2 s',(`aDr),Gr H₁ H B B,
⟨_,en,e2,λv H' s' r=>?_⟩,i<=`bG,fun σ' H' en'=>⟨δn,en',ei⟩,hS.trans,λi j a ds es h1 _ _ _=>(w60 h1).elim,Pd.impG,Fun K x `dH st fa fd,`dn [`yz] `A,(`aDH),p2.isList,J.toArray,eqS dx dy,L2.atI xs i,SqL K H p ys,SqT K H p ys,`m `dd,`l `dd,`D ([e].length+`yB+`yC<30),λvs H2 s2 r2=>?_,mg x=`xL/\`aP K `xK=`b/\`Il,(`aDJ),(`l_).bind,(wx0 s),(`l0).bind,V8 gt G n δ',`B `yF,`j7 xs n,`oA xs lo hi,{ s with toks:=`bu+knd.draws k },knd.keeps,`e3 hx,List.nodup_append,Bool.false_or,⟨h1,h2⟩,Option.isSome_map,Rd H a `xH,upd H a (.dK (`Iq)),dd.mapOf,`oB H a y o,∃q,`gs a=`yM,`O (Key×`E),`Xh<=`P,by have:=v20 kvs k v;omega,let ⟨q,_,_,hq,_⟩:=J;⟨q,hq⟩,PE X i ty,ss0 trs σ H Q,(`aDQ),λkv=>(kV `l1,kv.2),keys.all (·.isSome)=`b,`fS≠[],`yO<=15,RpG.mono,(`aDX),`m `sE,`l ⟨d,rfl,e⟩,`gO b z,m9 `C,Gr H H' B `hT,λb u n h=>⟨λz=>`oD n (V0 h hp),s _ _ h⟩,`Xn hp,`aDZ s,`j3 j ds a h1 h2,DL.fz d,`m `Iz,(λo h=>h),`ad hf,Bool.and_false,`D (([e]:`a6).length+`yB+`yC<30),`m ⟨rfl,xs,`m (`m hx)⟩,rx.length,xs++[v],fun σ' H' en'=>⟨δn,en',e2⟩,X.N[j]?=`dm,`jM `Xu `A,by unfold deq;simp,by unfold ye0;simp,List.all_map,`lM<`hK,view I ld hx rx,view I le hy ry,by rw[in1_units];omega,`gE=`bf,by rw[`bd,← `l4,`If],(`aD6),beq_eq_false_iff_ne.mpr,⟨q1,q2⟩,beq_self_eq_true,by rw[`ss,`l5];exact hz,(`H_).same s3,Int.zero_add,`kb ds,D->`N,∀i s,St i s->`jQ `yX `IL,ItemsOf P acc' n,λb o hb e=>`y_ e,its.reverse,(`gB _).objs.size,`d3 `c9=`XE,`cq `c9=`c,Gl X `c9,(`IQ).zip ys,v00 e3 r2,`IR hp,k v H2 `ke rv,DGet.t hp hb,pr.1.length,rt0 (q:=q) (v:=v) hl,`a1 i (.ow (`bv (`m (`XL)) `IU)),ds.all `cP,(`l9).symm,IsZ h' z TI TO a `b,`oF h' `_ x y,(`aEr),(`aEt),`jQ `h3 `eR,lo<=z/\lo<=TO/\lo<=i1/\lo<=i2,`gs S=`XS,ZG xs ys S h' as,{ s with heap:=h,toks:=tk },I0 hlo.1 L.z,`y7 a ha,we0 H l b,(`ma V.ref),`fO=(xs.zip ys).length,k b o hc e,(s1.mono g2).to,C3 `i,`gM hj,of_decide_eq_true,But a H H',`hV=`c,(`sV).bind,by rw[J c `X3];exact q,k90 K=`b,λ_=>`bt,(all _ (yt0 lc)).1,H c=`ll,(yt0 l),
`y? H a sub c,q.symm.trans,(A3 z).symm,Ds->`md,`Jb=`sZ,`a (.rt r δ'),`Jc=`Jd,∀p,EndB G `oM j p r b',Nat.sub_self,c1 x `Iz,`X7=`sZ,`b5 y px,(`aE5),`ki H' a sub,(`aE6),I'.closed,by unfold RpN at h;exact h,`Jf=`b,by unfold RpN;exact h,(`ek).isSome=`b,⟨ad,`cY,`oN,?_⟩,`Ji r1 hn,`zl `Jj,(gv δ).bind,(sj0 d).bind,env.atN e5,(`aE?),(`I' hB s2),by rw[`bc];rfl,List.any_eq_true,(`kk).map,`e6 `bj,by rw[`e2,m5];rfl,PD X ke gk,(`aFo),hr.go δ,`yk (`s0 s3),⟨r,J,e1,k⟩,(·.pop),`bC (`b5 `eR p2) `oC [] `l6,(`aF?),(`aHf),[`dy, `oW, `zr, `oU],(`aI2),[`kn, `YW, `YX, `dy],[`zB, `JH, "_law_waiting", `Jx, "_law_ends"],(`aJ!),(`aKa),mkN 1 yr0 zv0,(`aKj),(`aKq),(`aKt),mkF 1 u80 wr0,(`aKS),(`aKV),(`aK_),mkN 1 zr0 G7,(`aK3),mkN 1 yk0 zo0,(`aLy),mkF 1 y90 za0,(`aLB),mkN 1 yq0 zp0,(`aLE),[`zE, `JN, `zC, `zD, `JM],(`aMh),(`aMi),(`aMu),(`aMx),(`aMC),(`aMI),(`aMQ),(`aM1),[`zE, "out", `zC, `zD, "waiting", `JN],(`n5:Int),`D (`eV),`h? _ ps,`cx<=12,oz0 v=`b,PsOk ps,ifB g Ga Gb δ,`l `Yk,`l `Yv,`a (`d c),k<1000000,(j9 `f1),(`Zr+3*k*k),(p6 rfl rfl).trans,O1 rfl `JS,(`aM!),(`Zt),`td++`as b=`as `te,c∈la0.cps.toList,(`d! p),`bm q0,`bi q0,(λv hv=>by cases hv),by simp[hl],λc=>[c],`s `ti,`JZ at',[`mp,`cQ,`J_,`bV],`b6 13,(`mt).take (if 35<k then 2 else 1),`s (`as [`J3]),nf0 _ `i `i,app _ _ ?_,k60 _ `i `i,by split<;>omega,(`tj+3),λk=>`ZD,`e4 hs,(t:Int),`a (r,δ'),`J8 `dr "",PoolB np `aI,((ix j:Nat):Int),ru0 P (ix j) `i (by have:=J j;omega),`aNE=_,δ'[0]?,[`mp,`bV,`cQ,.un,.un,.un,.un],(`J!).toNat,z/156%(`z_),`d `kx,Nat.min_eq_left,`ar<=60,pool.length,[`mq,`d `ms],10 ^ 30+57,sub_len',(hi r).length,o.length,D->Prop,`id<=`P,(sg w).length,(`z':Int),`dg<=20,(b:Int),O1 rfl `z?,⟨s',?_⟩,`be hm,`e3 hm,λd hd=>?_,L1.mpr rfl,sub_len,`d `tw,(`aNV),idx_map,`fG∈B,`d `rK,`ij∈ps,wi0 `i `eo `z,`oI (`Kq)=`b,[`a7,`tD,`Ao,`Am,.un],[`a7,`tE,`Ao,`Am,.un],`a `Z2,b7 (ds:=`o9) rfl,.ow `An,[a,b,c,`Ks,e,`ih],(o++`mz),(e▸ha),.ow `Xr,nB B `pe,hq.vals,`yv∨∃z:Int,d=`dM,λh hd=>`Ay,sq0 (`Az),(∀s∈T,`eq),
⟨n+1,`mB,`_h⟩,(`aN'),Pk ps [] [] `AF L T (`_k++(b1++[])),.new `aO h (`J L T),decide_eq_true_iff,by simp[nob] at h1,`d _ _,`H ⟨hx.ln,hy.ln⟩,qs.length,v10 `AJ,`q (nd B),`dt=`cW,ih hn hB `tI,`a2::q,ls.length,(`aOG),b∉`kH,(Y b hb),(as++bs),(λb=>`KS),(`q l'),λ_ _=>`c,(`_F),(`aO7),(`aPl),(`aQx),(`aQN),(`aQQ),(`aQ0),(`aQ9),(`aRa),[`l `_D,`AT,`l `_R,`l "names"],S.map `bl,ds p S `bE P T n f `AU,Bw.gg0 r z,(hi `ic).length,100000 - `tW,l.filter (λx=>`_5),List.filter_cons,(w++[c]),[`K7,`pm,xz0,.sh (`mF),s4,s5],[`iu,`pm,xz0,`_8,.un,.un],`cP `dR=`b,(`aSc),Z9 (`La),[`Lc,`tZ,.un,.un],(`Lf).ok,`kb _=`b,.sh `A3,s8 p S i2 P2 T2 kd sz c acc a `ps (.sh v),VOk ps `aI L S m f,∃M,L=B'++M,(λs z=>nomatch z),un0 W `Lk s hs,`HU `i,L1.mp ht,(`aSo),(.sh x),`B (`t1),Bool.true_and,`e! λq=>(q.1,lkv π q.2),`B (`Lr),Y1 t1 ?_,⟨q - 1,`F⟩,λhd=>`aaC (ih `aaD),`ei `tC,[.un,`a7,`t4,s3,.ow (bk l 0 [] []),.un],T.b_reversed,(`aSA),(tc0 1),(v7 `mL u0),(O4 `mM),(`aSG),FnB P w K mg `r `iB 1 `aT 0 W6,(`aSS),(j6 `t? w6),(j6 `a8 w6),(`aSX),(p7 4 `px),(v7 `ix u0),(`aS8),(`aS'),(`aS!),`e×Obj,(`w_:`p).TypeIs,Value.int i t,⟨_,rfl,r⟩,by simpa using e,∀f,RelO (fs.lookup f) (mA f),h.DictOf,`e×`E,`eI×`U7,`aAV `nI,(p.1=a∨`rq=`ll),TabOk H h a (qOf ps),`rr->G a b,W.methodObj,m9 (V0 q hn),`a (`gr x),`fA ob u',`rs=`a o',m9 (hm b _ q `GK),`aAX b,`rt x=`jH,env.kindOf,∀x c,`gx->c≠b,(`aAY),(`Vj)/\∀p∈`w9,p.1≠b,I.base.there,I.base.tbls,`w8=`a!->`rs=`a!,`GS x=`jH,λb o e hx=>?_,EP X `h σ Q,("__classdict__" : Str),I.mod.glob.keeps I.bk,`xc e `A whole,b::`ax,(`Vv),(`aA'),`nJ=`bB its n,Array.toList,I.unwish,Q σ' H',[v,ov,iv],swapsWithSole,swappedStores,letOwnedTupleGo,k it `aO o e,I.list_inj,s.heap.IsTuple a `bP,(`n,`G6),λus s1 ⟨vs,H1,I1,r1,q1⟩=>?_,(`aBH),Int->Int,`o `ac X.A (f `rN (`d j u)) Q E s,j<1073741824,i.natAbs,-(`rO)<i/\i<`rO,-(`rO)<j/\j<`rO,`d (i+j),`d (i/j),`d (i ^ `fG),.bl (`D (i<=j)),.bl (`D (j<=i)),Builtin.Str.occurrences,j.length,[op,op'],`s (i++j),`dn `fI `A,NameKind,
cellsFrom,b∈([]:`aB),(`aCr),`a `xt,hc `h s1 σ H1 vs us Q I1 r1 q1,sIx n 0 lo,sIx n n hi,(`eU+`lE*1).toNat,(items.toList.drop (`xv)).take (`Hf),"__getitem__",((`xv:Nat):Int),(`aCN),(i+n).toNat,ixN `av i,⟨#[c]⟩,its'.toArray,(`aCW),(1:Int) > 0,(`aCz),.dT kvs,`O Keyword,`a `Hq,⟨`jU,[]⟩,⟨[u],[]⟩,(.call `xK `Wl),(`aC6),K w.params,(`aC7),`Hw->`eK=`ab,x.cps[i],caps.map,Q7 n `ce σ,Str×`V1,`Hz&&env.scope.kind==`lN,(`aC9),s2.heap.push { cls:=`cp,data:=`bB ([]:`Y).toArray },(`hL).2.2.2.2.1,relabel `cd `A,`x0==`lN,`x1==`gv,PG `lP tg g,PF `lP ifs tt,PE `lP elt te,(`aDh),spos.line,(·.length),sep.length,Txt.join,H a=`a (dOb ks xs)/\dLn ks=`av/\`a3,`jZ->`a4 G l m,`a (`lU),`HQ=`WN,h.own b hb,`fA ob `jL,ym0 (i:=i) hN hv hd hcd,by rw[Z8],λv1 H1 s1 r1=>⟨y,`ee,e2,`sr⟩,by rw[Z8] at r;exact r,by rw[`ss];exact hl,`bw=`yf,(`aDq),⟨`yo,λi H2 x H3 g2 y hi=>?_,`yo⟩,k _ H' s' `WY,B a∨a=p,λa=>`W_,RpO K H' `hT d p,B a∨a=L,(`aDx),(`aDj),`gC k (`rP (`xr `dH `oh `_ fa cdv)),(tj0 CX0 P w K mg `r N `dH `oh fa cdv A `bS s H E).nox,`sz=`lX,`sz=`lW,(uj0 h1).elim,Txt.slice,`gE+J.toArray.size,k _ H `b9 `yi,`a1 i (`sB),(ds++es),ds.dropLast,`a (`d (i*j)),`yK xs k,`a `Hp,rel.length,(`Iq).length,X.A.units,`dn `oC `A,`fE `cy (`Xj),`a (.ow d0),ro.plain,en.same.free,λj k a ds es h1 h2 h3 h4=>?_,λj ds a h1 h2=>?_,`Ix/\`gK,(`aD1),`b5 x px,`b5 x p2,[`Xt,`IE],ds.getD j `z,es.getD j `z,deq (`Xv) (`Xw),Rp X.K H B' e y,(`aD7),`E->Prop,s'.heap.get?,`a `aD',`gB `IN,`a `sL,(`n,`bR (`IO) `A),`fE `l6 (`hU),(`aEb),λp=>if p.1=q then v else p.2,(`sg ds).map,by rw[`kg,← hl,`y0];exact hz,J8 pr.1 q,s.heap.IsListIter,h'.IsListIter,`gs c=`ab,`IY->`IZ->`cJ c=`ab->`XO,Builtin.SmallTypes.ownedTupleIsFree `h3,Builtin.SmallTypes.nextOf,`a `aEE,hG.pairs,(`li `d2),[p.1,p.2],`B `y8,{ cls:=`eJ,data:=`bB #[u,w] },by show 2<=`P;decide,∀ys,H a≠`I7,(`aER),ys.findIdx?,λy=>`D (y=z),(`I' hb hh),(`aEZ),J b `X3,`I? i δ=`b,by rw[`U];omega,mkB n N j G b ds,λH' B' b' r'=>r'.toL,(`m (`IQ)),`gM `i,J.w.opAt,
`m (`zj),`e6 `cv,fun σ H Q=>∃B,tD X.K B δ gk σ H Q,(`aFq),λB σ H Q ⟨ps,en,e,k⟩=>?_,(`zm).map,h1.push `IN,as'.map V.ref,(`aFu),(`aGr),(`aGC),"cells",`s `Yk,(`aGH),(`aGJ),(`aGL),(`aGV),(`aGZ),(`aG1),`d 48271,(`aHd),(`aHe),"small",`s `Yv,(`s `JA),(`aHr),(`aHk),(`aHy),(`aHB),(`aHz),(`aHK),(`aHN),(o2 `zu `aS eqD),(`aHZ),(`aIm),(`aIy),(o2 `zu `ci eqD),(`kr),"_law_some","_law_pool","_law_step","_law_pairs",(`aGE),(`aIJ),(W9 `e9),(`aIN),(`aGG),(`aIT),(`aI0),"_law_start","_law_first",(`aI4),"_law_part_here",(`aI6),(`aI!),(`aI?),(`aJb),(`aJc),(`aJf),(`aJl),(`aIG),(`aJw),"_law_found","number",(`aKy),(`aK0),(yn0 `n),(`aK4),(`aLo),[`zv, "row", `JF, `zy],(`aLs),(na0 `Zc),(`aLI),(`aLJ),(`aMt),(`aMA),(`aMB),(`aMH),(`aMO),(`aMN),(`aMP),(`aM0),pool.map,by kernel_rfl,c%2147483647,(`e7).zip,`jV `bl,by rw[`tg];rfl,Y4 i gA f δ,f (`Je) ds,parts.map,(`aNe),(`aNi),(`aNl),`zM (k%7),`s (`as []),`as (`o3),`zX (ix j) "",k'<=k+14,Gd p m `aI,(`aNz),m.length,.sh (`d `mw),[`fX,`dL],-2*z - 1,(`o8:Int),`d `ZM,((sg s).map `d),`q `ZO,(`id:Int),`d `ZQ,((`z!:Nat):Int),`d `ZS,`q ((tx p).map `d),[`fX,`o!],λz=>e `sa,(`Ae).resolve_left `ZW,`gX - 1 - `Kj,vt0 T s,(rj0 _ _).mpr,(`aNX),(`aN1),(`D (`ty)),`d `Kl,(`tA:Int),(`gX:Int),b7 (ds:=[`z,`gY]) rfl,q50 rfl B,b7 (ds:=[`d x,`gY]) rfl,b7 (ds:=`Ap) rfl,hb ps B T `kC,if `dh then W else `As++W,st ps `Ku B T W (`kD),p6 (x:=`ii) (y:=`dL) rfl rfl,st ps `Ku `il T (`f3++W) (`kD),hw.it p hp,`ar - `cj,`pc+51*(`_d)<=M,by show `_e;omega,by rw[`W];omega,λf W=>?_,(its (`Ag 0 `Ah)),`io∈its `Av,hb ps [] [] `KD,`Ad ⟨q,hq,rfl⟩,by simp[nob],`B `aOf,`a (`cC (`mC)),.sh `aOi,(`ij).vals,.sh (`KN),`q `tP,(`aOu),(`e! λq=>`em q.1).zip,λp=>`Js,(`KQ j).map,`_w `tQ,`Aw λk=>`Ky,h.go B δ,J.w.nodeK,(λ_ _ _ z=>nomatch z),plN (Q8 0 `pk `dO),"some",(`aOJ),plN `aOL,(ob `aj),(`aOO),(gc `sb),(`aOV),(`aOZ),(`aPb),Q8 0 `pk `_L,(`aPe),(`aPj),(`aPk),(`aPp),"parts",(`aPG),(o2 `V `aS gtD),(`aP2),(`aP'),(`aQd),(`aQk),(`aQC),(`aQR),(`aIE),(`aQU),"_law_kind",(`aRk),(`aRD),(`aRL),
`D (x=n),`s (`as [x]),λ(c:Nat)=>`tY,.sh (`ZC),((i+`dg:Nat):Int),(`c3:Int),λy=>eqF y `dR,`mG++`tt,`d `K9,(`aSf),(`aSg),bs (`AZ),(i+(`aad).length),(`d `_'),lb p S `aae P T,m4 (N:=`pp) rfl,(`aSk),acc.length,V9 `mH [],`aSm itm,(`aal),B2.drop `cj,.sh `aSq,s8 p S i P T kd `Ln c [] s5 s6 s7,(`KF p hp).vals,Km.It.of,`AN (`KP `im),`e6 λv=>(`Lt:`t0),`e! λq=>(`Lu:`t0),(`aau).map,`AN (`KP `pi),(O2 rfl),(`aat).map,(`aSr),(`Lv).map prD,(`aaw).map pr,(ll0 (n:=0) W _ _ (`Az).2 (`Az).1).app,λd h=>hd d (A5 _ h),f (`zc) ds,[`mq,`el],(`cB:Int),[.un,`a7,`pu,.un,.un,.un],[.un,`a7,`t4,s3,.un,.un],(`aSB),(`aSF),(`aSM),(j6 `aE w6),fun δ d h=>yb0 h,(`aS2),Result->`dD,"__getattribute__",(`fy `nE),Fin->`dD,`s `GA tk,hh.get? f=`dm,`E->`M,Value.isInt,Value.isStrOf,`O L2.Key,`m ⟨i,t,rfl,e⟩,P1 `aAU,(Q4 `jG w).is,`ri UInt8,`O (`au L2.V),`O (L2.Key×L2.V),∃t,u=`w0 x t,`br ys ws,Vals.append,(xs.take n),`cI p.2 q.2,`O (`e×`rm),`bB `ap n,cont.toList,H dx=`ll,fs.length<=1000,`fz=`a (W.instObj C dx),∃mA,h.Ns1 dx mA/\(`U5)/\PySem.Within mA (fs.map `bj),p.1=q.1/\H q.2.1=`a (`B (p.1.map kV))/\`cI p.2 q.2.2,(`rp `bj).Nodup/\ep=es.size,`U'/\`w4 P w H h a p.1 p.2,(show `U! from x),∀b u,(`GE)->`GF,∀b,`w5->`eK=`ll,k _ _ hb e,⟨od,es,ep,k _ _ (`l d) e2,c⟩,⟨z.1,ht _ _ z.2.1,z.2.2⟩,k a _ `gt e,`a (`Va `eH (`x y)),⟨o,`eL⟩,(`aAW),`b3 P w H h a u,∀b u,b≠e->`GF,∃sl,`rs=`a { o with slots:=sl },∃o',`Ve,∀b ps,H b=`GJ->∃more,`eK=`a (.tbl (ps++more)),λb u q _ _ _=>`w6,λb u q _ _ _=>⟨u.slots,`w6⟩,λb u q _=>⟨u,`w6⟩,k b u (hb b n) q,by rw[`Vf];exact q,`Vg=`ab,∀x:Str,`gu->mb x=`lo,`Vh∨`GL,Mod X.K `cq `d4,`GM y=`c!,X.H₀ b=`c,X.s₀.heap.FunFrames,s.heap.Ns `dE m,s.heap.IsCell c v,`cJ p.1=`nO/\`rq=`c/\p.1≠`dE/\p.1∉`fB/\∀v,p.2.data≠`nM v,`fC/\`cs,(I.ok.noex b o e),I.ok.funs.mem hb,`cs->`nQ,Inv X `h σ H' { s with heap:=h',gens:=g',drawn:=d',toks:=t' },λz=>(hch c z).2.2.1 x c e rfl,`Vn b ps e,λi x v e1 e2 e3=>?_,λz=>(hch _ z).2.1 rfl,⟨_,O,M,hL,r'⟩,
(λ_ _ _ _ n=>n),(`aA0),(`bQ b u e).stay (λc v hc q=>k c v ?_ q) `GQ (`rv) `nS,(`d5 hp).elim,Inv X `h `rx H s',`o M A (storeName `A x u) Q E s,`ry a `aw h',⟨`w?,`w?,`w',`Vq,`GU,`GV,`Vn⟩,λj y v' e1 e2 e3=>?_,by simpa using `jJ,`xb hiσ,hl j y v' e1 e2 e3,⟨u',r',?_⟩,z.sameBut hs (cne y c e),hn.sameBut,s'.os=s.os,`GW->L2.Hp->L2.VK->Prop,`eO/\`lu,`o `ac X.A (`bR `jK `A) Q E s,(`aA2),PE X `jK (tC v),(`bR b `A),PC X op a b t,nobehind _ `t `t,wpAny_Compare1,(`aA3),wpAny_isTrue_Compare1,L3 ⟨H1,I1,q⟩,∀whole,`Vu=(do let v ← whole;standAt e.pos;`nV [v] (truthy v)),λc H1=>Q (!c) H1,(`aA5),isTrue_and,(`aA8),(`aA?),hb wh `h s1 σ H1 Q I1 q1,⟨H1,I1,q1⟩,(`GX .Not a pos),(`lv op [a] pos),thn `nW `rE,`Vy/\`GY/\`br xs `xf,SqL X.K H a xs,h.ok `bQ,`eP a o hk,by simpa using hs,SqT X.K H a xs,by simpa using B8 `Vz d1,(X.wish E).Ok,⟨ok.mod,`rF,ok.glob,ok.blt,ok.above,ok.inj,ok.has,ok.cab,ok.hd,ok.frames,ok.stk,ok.exf,ok.bs,ok.bsz,ok.noex,ok.exfs,ok.funs,ok.frf⟩,Inv (X.wish E) `h σ H s,⟨σ,H,I,h⟩,interactive,`nX σ H1,`rG e `c `rH `A=`rI,St->Hp->(`gz)->Prop,t v σ H Q,(`aBd),wpAny_assign_Name,(B3 `nT),by simpa using rv,(`aBf),`b5 x pos',thn `n_ λv s1 ⟨y,H1,I1,r1,q1⟩=>?_,Nat->`gz,{ D with nx:=N,ct:=N,bk:=`nX },PSs X `d8 tb,hN σ3 H3 n3,⟨m',hm,σ3,H3,I3,w3⟩,Nat->`fD,λx c e z=>?_,λp hp z=>?_,(`aBi),∀v,`nJ≠`nM v,(∀b∈fp,`xi),Turn `aU X.w X.K tg J fp it tn,tn 0 s2.heap,(`aBk),`aBq n,λi H=>∃xs x,`n0/\`lz,∀xs,`n0->`lz,λi H=>∃xs,`n0/\`av<=i,`G_ it a i,λi h h' st k=>st.at λo e=>`VG,λh' J sb=>?_,`xj (t':=`bu) `G0 f0 f1 f3 f4 f5,λys hy=>by rw[`VH hy hq];exact hx,(show `VI from p),I.tuple_inj,IsRangeIter,Data.fields,(`aBv),thn (hl `h s σ H _ I h) `rE,{ s with heap:=`gB `G5,toks:=tk },((`n3:Nat):Int) - `rK,Gl X `nK,`cq `nK=`c,PA X [a] ta,(`aBw),(`aBA),(`aBF),tn i `lB,I7.pin `rL `VL,again I7 n7,Inv X `h σ H2 s2,OpR X (`hG op) r,(`lC a op b pos),(`aBL),Int->`VM,Q (`d `hH `bu) `G'->`VN,λi j=>`d `hH,⟨`d `hH,H,`dq,`ag,q⟩,(`aBM),λi j=>`VS,
λi j=>`d (i - j),λi j=>`d (i*j),λi j=>`VT,λ_ j=>0<j,λi j=>`d (i%j),λi j=>`VU,`d (g i),(.bl (`xm)),(`aBW),(`aB0),(`aB2),(`aB3),OpR X (`cK op') r',lastMarks `VZ [b,c]=`n,(`aB4),sizeLine_eq,∃i j,x=`s i/\y=`s j/\i.length+`VY<=`P/\Q (`V_) H,`br [x] us,∃u,us=[u]/\`fH,(`aB!),(`aCg),recursionLimit,by have:=r.dp;omega,by have:=r.un;omega,⟨[],H,I,`J,h⟩,λu s1 ⟨x,H1,I1,r1,q1⟩=>?_,(`aCm),H1 `eS=`c,`x `eS,`G? (t':=`G3) (λb u e=>`n1) `a_ ?_,CE `bS P w H s Q u s',Env0 P w K mg `r A `bS s H,(us++ds).length=`ar,`ah `aU X.w X.K `cq `d4 CX k f fd ps sp,Binds X.K fd ps ds,`br dvs ds,j30 CX X E,λr s' hq=>?_,(`aCo),λw hw=>h w (A5 _ hw),by rintro rfl;exact h v A6,P[i]?=`cn,λv hv=>(`Hd).1 (r9 hv).1,`rP (`rQ),W.cellsFrom_some,`aV N ps `cd,(`rQ).kindOf,`V2 (`n6) `gD [],tj0 CX P w K mg `r N `dH `cd f cd A `bS s H E,`I (show `V3 from z) `aO,λb z=>`I z (J b),e0.hok.fresh,E6 `aCq,(`aCs),t { nx:=λ_ H'=>Q `z H',rt:=Q } `xs H,λb o e=>(e0.bs b o e).1,`n7 y.1=`jH,`d' X `xt r,`lo=`V5,PE X `rS (tCB r t),E9 `aCv,(`aCx),(vs++ws).toArray,(`aCy),`aX->Nat,(`aCA),Builtin.Slice.sliceAdjust lo hi 1 `da,((`V8:Nat):Int),slicePart_none,λ(m:Nat)=>xs[`V9]?,λm=>xs[i+m]?,`rV `aw t `ap,`xv=0/\`He=`dI,`bB (`V').toArray,`o `aG A (`lF `jP `xw) Q E s,`jQ `xw "slice",A0 (u4 `lG `t ?_),`rW `V!,(`aCF),`o _ _ (Builtin.Tuple.tupleItemsOf `jP>>=_) _ _ s,A0 `aCH,A0 `aCI,`o _ _ (if `Hg then _ else _) _ _ s,A0 (m:=`Hh) (P6 `Hi J),(`aCM),`aX->`fD,evalPart_none,r x lo hi H Q,`n! `rT `V!=`b2 (`V5),(`aCO),subscriptTail,`x `n?,(`rX=0/\`Hj=`av),`B (`xx),by rw[`bd];exact r.length.symm,(`aCP),B5 (ql0 xs lo hi) hz,(r.drop (`rX)).take (`Hj - `rX),SqT K H b ys,by rw[`W];exact hz,if `eV then (if i<n then `a `dr else `c) else if `Hk then `a `Wb else `c,(`Wc).bind λj=>`xz,r x xs H Q,`o `ac X.A (`d! `xt (v::us)) `eW `aA s,`r_=`cb/\Q v H,atI z.cps.toList i,EP X `h σ Q w s,⟨z,H,I,M,q⟩,(`aCQ),(`gE:Int),subscriptTail_builtinR,pl.isList.typeIs,slot_list_getitem.lookup,λr s'=>r=w/\EP X `h σ Q r s',(`aCR),⟨rfl,J⟩,
-(`xA:Int),(`aCT),`cJ p=`xC,{ cls:=`cp,data:=`bB `We n' },`br ys its',(`aCX),List.length_set,(`aCY),Option.getD_none,show `Wg by decide,`fK `lI 0 lo,`q (`xx),xr0 y=`b,xs.any λy=>`Hm,Q (`d `dJ) H,⟨`d `dJ,H,`dq,⟨`rM,by rw[`bd,J]⟩,q⟩,∃z,xs=`xD/\`ob/\Q (`Hn) H,∀l,`xE->Q (`jS) (upd H l `oc),`br ys its,call_list_seq,(`aC_),∀l,`xE->Q (`jS) (upd H l `xG),ob.dict=`c,⟨o,e,ex⟩,⟨⟨o,e,ex.1⟩,λa e2=>?_⟩,⟨o,e,ex.2.1⟩,tyV K T x H1,Slot T name id,typeOf `xt=`b2 (`bh "method_descriptor"),MtR X id r,`gF o name `A `nY=`lx,(`gG o name `fL),(`aC1),e00 I1 r1 ty,(`fE `cy (`rA)).any `bj,Calls.evalArgs_plain,`X r `J,`X r ih,(a::b::r).length,(b::r).length,`cJ l=`xC,"list.append",⟨e,?_⟩,Array.getElem?_toList,`O WData,pre_splitW hpre,(`b==`b),WShape.has,`xM a=`Wk,s₁.gens=#[],List.Pairwise.nil,`hJ `lL `r6 `Wn `Wo `d?,hA b (`Ht),λb o e=>?_,`I rfl z,`Hu->`y,∀(w:`R) (h:`Q),YP w h->`r8 h,SqL `og H a `r7,W.WalkO q loose XP YP `Hv d [] `Wq,`aP K `eH=`b,Fun K x `dH st f fd,∀b o,`Wr,`eK=`xQ->H b=`xQ,Option.none,"str_ascii_iterator","str_iterator",⟨#[`Ws]⟩,λh' J sb=>M h' J sb,fp default,`Wt λj=>`Hx,(`Wu).length,`O (`Wv),x.2=`gw->∃c,`xR x.1=`c!,acc.lookup y=`c!,λy d hy=>?_,λx hx hf=>?_,h2 x hx hf,closureFor,List.lookup,`Wx=`b,by simpa using hx,(.ok `xV),`b2 (`xW ok),`b2 (`xW r),(`aC?),`oi=`lp,Nat->Nat->`xZ,W i m ys H2,(`aDa),J.yld i H2 x H3,Wk `ds σ4,if b=`b then te σ4 H5 λy H6=>H6 D=`x_/\`dJ<`P/\∃m',m'<m/\W `bE m' (ys++[y]) (upd H6 D (`q (ys++[y]))) else ∃m',m'<m/\W `bE m' ys H5,{ s2 with heap:=`Wy },s3.heap.get? b=`ab,`r! _ _ st2 b hb,(b2 b o e),Z3 X `cd cl N' s3 H3 fp,B3 (d1 b hb),λx c e=>`Wz x c (hcl1 x c e),`r?=`aDf,(`hL).2.2.2.1,`be (I3.stkSub b hf),{ s3 with heap:=h₁,toks:=`HB+([]:`HC).length },`n8 `aO,(`aDg),old _ o ho,by subst M;exact e,`I hp (by simp[Z3]),(y0 `sa),Ia.pin `rL `VL,∀cl s H ex,`WD,∀cl s H ex,`WE,∀cl s H ex,`WF,ok.free x hx hf,`m `WG,`l `WG,as.2.2.2.2,λv H'=>`nX `rx H',λ_ s'=>SP X `h D `xV s',`O (`au DL.D),
DL.D->`lQ->`au `lQ,`lQ->`au DL.D,`lQ->`x3,`lQ->`au (`HF),fun δ=>`lS,fun δ=>`se λt=>if `x6 then `x7 else Gb δ,(`on).bind,J3 f G ds δ',λc=>`op,`Wt λj=>q30 `jX,`f->`ok,zm0 f gt ge δ ds,(`HH).map,`a (`VT),(eqS x y).map,sIx `av `av hi,`a (`d `av),(`x9 `WI).sum+`dJ*`WJ<=16777216,(`aDk),`x!=`a (h d),zm0 f gt ge δ `ap,pa0 `aDm,ifD g Ga Gb δ,by unfold ifD;rw[h];rfl,X6 n `ce gi f gt ge δ,o2 ga gb f δ,λz=>(by cases z),`or/\`HI,g _ _ h.1 h.2,Gr H H' B B,fd.scope.names.lookup,(y==`rB)=`n,TelO K H B p kvs,D->V->Prop,∃a xs,`gH/\`x?/\`a3,∃a xs,`gH/\`ya/\`a3,∃a xs,`gH/\`or/\`WL,∃a xs,`gH/\FnAtH K H B a `sh/\`HK,`f->`K->Prop,∃x r,xs=x::r/\`si/\Rps K H B ds r,⟨a,xs,e,q.mono g,`HM⟩,`a3->Rps K H' B' ds xs,by simpa using e1,Rps K H B es ys,Rps.append,by simp[m5],List.take_succ_cons,(∃k a,`hN=`eZ/\`yd=`jY/\`gH)∨`hN=`c/\∃a xs,`gH/\`x?/\`e_,∃x r,xs=x::r/\RpN K H B as d x/\`eY K H B as ds r,∀(k:Nat) a,`yd=`jY->as'[k]?=`jY,∀{l:`a5} {m:`hO},`WM,∃xs,so=`ot/\`os/\`e_,`ai K `aa c=`a (`a `ou),as[0]?=`jY,(`ov `ec),∃x ns,es=`cc::ns/\`HR,⟨x,ns,e,`b7 (λo z=>s _ _ z) `ow⟩,RpL K H' B d a,XcR K H B c n a,g _ _ h1 h2,g _ _ q1 q2,B a/\`hP,(m.set i b),`a4 `ye σ δ,`a (.ow es),SlR K H B o s,`bw=`HT,`ox `fP h,⟨v,rfl,r⟩,∀ob xs,o≠`WQ,∀B δ,PE X e (tD X.K B δ g),∀B δ,PT X e `HX,∀B δ,PW X e `HX,∀B δ,PA X es (tDA X.K B δ g),Rp K H B dy y,λpins s σ H Q I z=>h `h s σ H Q I `HY,(`WR).imp,fun σ H Q ⟨d,en,h,k⟩=>by cases h;exact `yh,(`H_).bad,⟨b,en,e,λH' s=>?_⟩,⟨t,`ed s,h,λJ s'=>k J (s.trans s')⟩,PTD X e gt,⟨ds,en,e1,λvs H1 s1 r1=>⟨`WV,λp hp=>k _ _ (`hS `e0) ?_⟩⟩,(ji0 `bT).imp,λv H' s r=>k v H' (`hS s) r,fun σ H Q h=>fl0 hf h,⟨ds,en,e1,λvs H1 s1 r1=>?_⟩,∀(i:Nat) (ds:D) (a:`e),`WW->`gK->`T a=`c,∀σ H,`b'->`H1,∀H₀ B₀ δ,PS X st `WX,∀H₀ B₀ δ,PSs X st `WX,`cN X st G,Wr idx σ σ' δ δ',∀B d δ,PG X tg (tDG X.K idx f B d δ),λj hj=>?_,`hC (B6 `C),og0 `h s σ H D I (k σ H en),(v6 G1 G2),(h2 `T `S δ'),
`cf K `T `S H' σ' δ',`st i hi,e.fr i ds a h1 h2,`cN X as Ga,`cN X bs Gb,⟨t,env,e2,λH' s'=>?_⟩,∀B δ,PI X tg e (tDI X.K B δ g),⟨a,rfl,⟨xs,`dd⟩,`WZ⟩,⟨xs,xs[i],`H4,by simp[`C]⟩,rs.get (i:=i) (d:=_) (C3 hi),y xs `H4,⟨`oz,_,C3 hi,λB' gB _=>r'.mono gB⟩,⟨xs,`H4,`H5⟩,PDA X [a] gA,⟨_,en,e2,λvs H' s' r=>?_⟩,`cN X `d8 G,PG X tg (`sv),λpins s σ H v u Q I r ⟨B,d,δ,h⟩=>hg B d δ `h s σ H v u Q I r h,tDS X.K `T `S δ G D σ H,hb `T `S δ `h s σ H D I h,ek0 hp hc (hi B δ) a5 a6 hs `h s σ H D I ⟨`ap,env,e2,λJ H1 s1 it=>?_⟩,Hh=λb=>`yp,∀b,¬B b->Hh b=H1 b,λb n=>by rw[O];exact `ad λz=>n z.1,∀b,B b->¬`sw->Hh b=`c,λb n n'=>by rw[O];exact `H ⟨n,n'⟩,∀b,`sw->Hh b=H1 b,λb n=>by rw[O];exact `ad λz=>z.2 n,`cU Hh H1,Z b z.1 z.2,(`yp)=`ab,`yq b o xs (`yr b o xs h),`aDs z.2,`cU `T Hh,s1 b o (`ed b o h),λb o xs h=>`yq b o xs (`yr b o xs (a1 b _ h)),`cf X.K Hh `S H1 σ δ,⟨a1,⟨B,b1,`e1,Y⟩,`H6,`e1⟩,`l (Z a z q),`j3 i ds a h1 h2,λz=>`ef a z hn,`ox Y.all h1,Y.bad a `H7,`cf X.K Hh `S H σ δi,⟨_,rfl,`db,δ,start,e1⟩,Gr H1 Hi B B,λb o n h=>⟨n,M.same b o (`H8)⟩,it.go i Hi gr hlt,`cf X.K Hh `S H' σ' δn,fun σ' H' ⟨δn,en',e'⟩=>⟨`H9,`F,rfl,hlt,δn,en',e'⟩,λx H' y=>?_,`H' i Hi x H' gr y hlt,Rp X.K H' B' d x,⟨`j4,sm b o (M.same b o h')⟩,n (b1 b q),env0.same sm,`gL i=d::`sy,⟨B',d,δi,δ2,a4,a3,e3,fun σ' w en'=>?_⟩,`cf X.K Hh `S H' σ' δ2,M.wr c1 c2 (`oz) w en',⟨Hh,`S,δ2,rb,a7,e4,?_⟩,`m ⟨`H! _ Hi gr `a_,?_⟩,k σi Hi (M.lower hS `ef),∀B δ,PF X ifs `HX,`fQ n `ys,∀(i:Nat) (ds:D),`bw≠`yf,(`aDt),∀p H',`cO->`aD->`W1->Q `cX H',∀B δ,PE X e (tDF X.K B δ g),(`aDw),λJ H1 s1 it=>λL hL=>?_,λa=>`W2,Gr H1 H2 B Bp,H2 L=`x_,Rps K H2 Bp pre ys,(λi ds z=>w60 z),λx H3 y=>?_,Rp K H3 Bp dx x,λH5 s5=>?_,en4.same s5,H6 L=`x_,Gr H6 `W3 Bp Bp,([]:`f)=`ax,PDF X `jW `yt,fun σ H Q=>∃B δ,tD X.K B δ ge σ H Q,(`aDz),(`aDB),PD X `jW `yt,PSD X `W4 (j7 `H? `yt),
∀(cdv:`E) (A:`bU) (outer:`O `Ia) (s:`p) (H:Hp) (E:XK),`W5->`cN `W6 `xP G,(`aDF),F.ok S (λvs H Q E ⟨B,ds,d,_,r,h,_⟩=>?_) (λcdv A outer s H vs Q E hr ⟨B,ds,d,hb,r,h,q⟩=>?_),⟨_,`d8 cdv A `bS s H E hr H B `yu,?_⟩,`cf K H B H (`Ic N vs) `yu,⟨`sp H,⟨B,`Id,`yx,⟨?_,hb,λi j a J es h1 _ _ _=>`W9⟩⟩,λi J a h1 _=>`W9,hb⟩,`lY (v40 (N:=N) r) (sh0 _),`br `yy us,by rw[`e2] at r;cases r;exact `J,λt' k=>⟨`bg,H,I.tok k,⟨t',rfl⟩,q⟩,(`aDG),⟨o,h1,h2⟩,`bQ a _ hq,E1 W.kitx_dict `eP ⟨o,h1,h2.1⟩ e `du J,Int->Int->D,∀i j H B,Rp K H B `Ie `hH,k _ H `b9 (hg i j H B),SqL K H b zs,`av+zs.length<=`P,`W!<=`P,`yc (Y8 h),⟨rfl,?_⟩,dg0 rx ry e,⟨h1,by rw[h2];exact `W?⟩,`m ⟨a,xs,_,v,rfl,rfl,`dd,hv,k _ H `b9 rv⟩,∀B δ,PO X e (fun σ H Q=>∃o,`yA/\`al=`ab/\∀H',`aD->Q o H'),by rw[m8] at r;exact r,k _ H `b9 (by rw[m8,`If]),`cq `oa=`c,Gl X `oa,(`aDI),⟨_,en,e1,`Ik⟩,fun δ=>`l_,`a (.ow `x4),`a1 i (.ow (`q (ds++[d]))),`a1 i (.ow (`q `Xb)),ds.getLast?,`a1 i (.ow (`q `Xc)),`au (`cZ),`cZ×`f,(`yE).bind,λk=>zk0 ks ds k,λk=>.bl (xor neg (`sC)),if `Im/\ys.all `cP=`b then `a (.bl (xor neg (ys.any λy=>eqF y x))) else `c,if isL d=`b then `c else `a2,mkF n N G ds=`a2,⟨hl,?_⟩,⟨e,Av0.mpr hn⟩,mkN n N G ds=`a2,if `In then `a (`q `xy) else `c,if `Io then `Xd else `c,HeapKind `jG w K,`O (K×`U7),knd.is `aw k a,At knd `aw d xs,∀h',At knd h' d (storedH xs k a v)->`ry d `aw h'->Q () { s with heap:=h',toks:=`bu+knd.draws k },dictSet d `d6 v,Obj.isFreed_of_dict,Obj.data_mapDictKeys hd _,Obj.data_mapDict hd _,"__setitem__",slot_dict_setitem,K4 (p::r) k,by simp[K4,`yH,e],Bool.true_or,`yI vs k,`yI (q::qs) k,by simp[`yI,`yH,e'],vs.any `Ip,(`aDN),`X ?_ ih,`H (`Ir),`ad (`Is),r.repl k ry,Paired.snoc,`cI (kV k) u,(`Xe).map `cv,`yK (q::qs) k,by simp[`yK,`yH,e'],(`Xe).isSome,(`B (`yL)),(`U9).is,H a=`Xf,RelO.some_of,(`aDO),h w' _ (`dq) J,lg0 `bQ e,`cx<=`P,by rw[← `Xg];exact z,λh' J hs=>h _ ?_,rm0 I `Iu hs he (lt0 hl hd (rel.put k rv) J),`jQ `d6 `yN,
`oB H2 a y o,thn `G8 λiv s1 ⟨y,H1,I1,ry,q1⟩=>thn (ho `h s1 σ H1 _ I1 q1) λu s2 ⟨x,H2,I2,rx,a,ov,ex,g,q2⟩=>?_,{ cls:=`bh `yN,data:=.dict #[] },`hW->`fD,`O (`E×`E),wm0 kvs more,wm0 [] kvs,Q4 `aU X.w,(`Xk).all `Ii&&`Ij,`D `aDV,`Xk=[`lD,(`n,`bR f `A)],⟨`yP,λb q=>?_,hd⟩,⟨ob,h1,h2.2.1⟩,⟨x,ns,e,`b7 s g⟩,Env K `gN B σ `l2,⟨?_,`sD,λj k b ds es h1 h2 h3 h4=>?_⟩,`m ⟨v,e,`b7 `hY⟩,`sF (i:=i) (b:=Sl.ow d) (`m `yR) hs h0,`l3 (λj o' s e1 e2 h=>?_) h1,`I (`hR i j a d0 d' hi e3 hs e1) J,∃d,`jX=`hX,∃d,δ[k]?=`hX,`hR j k b d1 d2 q1 q2 h3 h4,`j3 i d0 a hi hs,⟨⟨λb u h=>?_,λb ob xs h=>?_⟩,⟨B,b1,b2,env⟩,λj ds b h1 h2=>?_,`ef⟩,(`ed b u h),`Iv (i:=i) (by rw[`xb J]),`I h (`Xm ob xs),`j3 j ds b h h2,`cf K `T `S H' (σ.set i `Iw) `l2,∀{j:Nat} {d':D} {b:`e},`jX=`a (.ow d')->`oi=`a (`a `yS)->`sG,λz=>`gO _ q2 (by rw[z];exact hp),⟨`H2 s,⟨`W0,λa z=>`m `H7,`e1,?_,`e1,`Xo⟩,`Xp,`ef⟩,(`aDY),⟨b,e,`m M,`b7 (λo h=>s _ _ h) g⟩,`I rfl (live h2 h4),`I rfl (live h1 h3),`I rfl n4,(DL.frz δ),λa=>B a/\¬`Iy,(or0 (`sH)).elim,⟨B',`e1,λa z=>b2 a (c1 a z),J⟩,c2 a `H7,`I (`j3 i d a q1 q2) (`ef a z),λb=>B b/\`j',λb z=>z.1,`m `IA,(le0 q).elim,⟨r,`sI,hq,k⟩,⟨_,rfl,h⟩,by rw[`bd,`bd];omega,List.dropLast_eq_take,∀H₀ B₀ δ,PE X e (tX X.K `T `S δ gx),∀H₀ B₀ d δ,PG X tg (tTG X.K `T `S ft d δ),PTG X tg ft,k _ _ (`j! (`yU s1 b1 b2 hi J M) b1 b2 M `sK),PT X c (`ID),λpins s σ H Q I ⟨B,δ,h⟩=>hc B δ `h s σ H Q I h,`cf X.K `T `S H σ δ',V8 gt G m δ'=`dK,⟨n,δ,en,e1⟩,⟨B,δ1,t,env,e3,λH2 s2=>?_⟩,k σ1 H2 (J.grow s2),`cf X.K `T `S H' σ' δ',fun σ' H' z=>⟨m,b6 m,z⟩,⟨rb,J.grow s2,e4,?_⟩,(`jM [`IE] `A).map `cv,`hC (B6 h2),`hC (B6 h1),by unfold lean at h;unfold deq;exact su0 ds n h,min `bf `fT,`bf==`fT,Rps.inj I ld le r r',`I z `t,`j7 es m=`b,`j7 ds m=`b,`j?->`IF->`yV->`Xy->`fH->`IG->`yW A s u w (`IH),us.toArray[j],ws.toArray[j],`lM+n<`hK,W1 _ _ _ _,X1 _ _ _ _,N0 _ _ _ _,N4 _ _ _ _,SeqAt.EqAt.none_list p' J,
SeqAt.EqAt.bool_list _ p' J,SeqAt.EqAt.int_list _ _ p' J,SeqAt.EqAt.str_list _ _ p' J,SeqAt.EqAt.bool_tuple _ p' J,j0 _ _ p' J,j3 _ _ p' J,Rp.inj I ld le hx hy,tm0 _ _ ld,(`aD5),SeqAt.RcAt.lists,B90 (A:=A) p p' `Xz J,`II+n'<`hK,tp0 (A:=`b!) a0 a1 rr M rv U λd e x y u w h1 h2 h3 h4 h5 h6=>ef0 I n' m' d e x y u w `b! Z h1 h2 h3 h4 h5 h6,Y.toArray.size=`fT,by rw[`bd,← U.length,`IJ],`Xi+64<`hK,e40 I 50 50 dx dy x y v u X.A `i lx ly hx hy rx ry,‹`f ›,b9.mp hn.symm,(`aD8),by rw[`cw,ut0,ut0];exact hw,(h80 r l u),⟨_,rfl,`yh⟩,λl hl=>k _ _ (Y8 hl) (rw0 hb hl rr),(`b6 `oE).map,by unfold M9;simp,(`eN h).1,(`j0).free,(`aD9),λl hl=>k l _ (`h0 hl) (`hS (Y8 hl)) ⟨_,n6,rr.mono (`IB hl)⟩,FnN `aU X.w X.K `cq `d4 x k ps f,ds.reverse,`sM->`sM->Prop,Nat->`XA,WalksS `jG w `b! I fp wr G n P St,`a { cls:=`cp,data:=`bB #[] c0 },Moved (C::wr) G s s',`XB C=`XC,`h1 `IL,(`rW `IM),`ad `h2,Builtin.«list.__init__»,Builtin.List.listItems,Builtin.List.listUpdate,letGo old.toList.reverse,`yZ `ou `yX `Z,letGo (#[]:`aK).toList.reverse,wpAny_letGo,{ s with heap:=`XD },callType_codes,(`aD!),⟨_,gC,rfl⟩,(`aEa),by simp[hh],`cq `kc=`c,Gl X `kc,`dn [`IO] `A=`XF::`hU,(`XG).any `bj=`n,(`aEc),E8 ?_ e1 h1,λv s2 hv=>P3 hv,(`aEe),λd' e'=>?_,by simp[h],(`aEh),k H2 `ke,lz0 e3 `sN,`eQ `IS `A v,`nV [v] `sO,pd0 `kf `bT (set_dict hu) ha `h s σ H v u Q I r ⟨_,J,_,env,e3,λiv H1 s1 r1=>?_⟩,⟨a,_,rfl,DPut.k (`IT) (`XK),?_⟩,tt0 (`l7 s1) `y1,`l8 `y1 (`l7 s1),(`aEk),⟨ys,n6,Y,rr.mono `hY⟩,k _ _ (en.s.mut s1 b1 b2 hi J M),loadIfAlive,`XN i1 l1 (k1+1),`XN i2 l2 (k2+1),`IX=`n6,(`aEm),`o _ _ (field `h3 2>>=_) _ _ _,A0 `aEo,`o _ _ (field `h3 3>>=_) _ _ _,A0 `aEq,A0 (N9 hTI rfl ?_),`o _ _ (`XQ>>=_) _ _ _,List.forIn_toArray,List.forIn_nil,`o _ _ (`XR `IV>>=_) _ _ _,`o _ _ (`XR `IW>>=_) _ _ _,(`aEw),(`aEz),h₄.objs.size,λo e=>`n1,`y5=`c∨ys[k2]?=`c,"StopIteration",wpAny_nextOf_list_end,Q (`a `l?) `gA,⟨_,hz,rfl⟩,wpAny_attempt,F.entry_zip_next,(`aEB),Q `c `gA,as[j]?=`jY,ys[j]?=`dm,
ZG xs ys S h as,ZSt h z TI TO i1 i2 l1 l2 S xs ys i,hk _ _ (B3 L.z) hz,ZSt `aw z TI TO i1 i2 l1 l2 S xs ys i,(`aED),λc o c1 _ c3 c4 e=>hk c o c1 c3 c4 e,xs[i]?=`c∨ys[i]?=`c,`I0->R (.ok (`fy res)) `oH,(`aEH),(`aEM),Nat.le_total,i5 F.entry_extend_loop ?_,Around.under_plainId d6 _,`o _ `b! (`sQ `h3>>=_) _ _ _,`XT j a hj,(`I1 `XU),acc.push `XU,(as++[`d2]),upd `sT p.1 p.2 b,λq hq=>h q (A5 _ hq),(`bh T1),(`bh T2),(`n,`bR (`I3) `A),(`I4).map `I5,ps[j]?=`a p,z70 as (xs.zip ys),(ds.zip es).map,λp=>`dx `XV,`a (`WQ),∀b o,b∉fp->`sU,(`aEN),upd H `_ `I6 b=`c,{ s with heap:=`gB `XX,toks:=t' },wpAny_pyIter_enum,Gl X `jO,`cq `jO=`c,(`aEO),(`aEP),∀a,B a->`lT∨`XZ,by rw[m5] at r ⊢;exact r,(`aEQ),λv H3 s3 r3=>?_,r2.same s3,`X_=`n,(L7 s x t),call_gives,⟨u,q,`b7 `y9⟩,.of rfl no nt,⟨tk,rfl⟩,⟨tk,`U4⟩,(`aES),`oJ [lo:hi] b f,List.range'_succ,ys[j]?=`a z/\(∀m,m<j->ys[m]?≠`a z)/\Q `oK H,by rw[← `cw,`U],(`eN hj).1,its.toArray[m],by rw[`bd] at hm;omega,⟨ys[m],t,C3 J,?_⟩,its[m]?=`a its[m],eqU `y! (`s y tk),F.slot_tuple_index,⟨_,h1,rfl⟩,(`aET),⟨`dL,H,`dq,`ag,q⟩,`I ((O y tk).mp hb▸e1) (U m Y),(`X0 `X1).map λj=>`dL,`bR `I9 `A,`X0 (`X1),λm hm he=>?_,h2 m hm (D7 (A3 he)),∀b o,`sG->`Wr,Env K H' B σ `l2,`m ⟨v,e,`b7 `X2⟩,k _ H2 `ke `yi,`aEU hl,(`aEY),by rw[`X4];exact q,p20 s=`b,`oI l=`b/\`X5,∀b C dx fs,(b,SubO.ins C dx fs)∈sub->`sX dx=`c,∀C dx fs,p.2=`lU->p.1=a,SubO.no_own,SubO.no_tup,SubO.no_frz,o.there (x b _ (`mc)),`y? H a sub b,`ki H a sub,⟨v,_,I'.opened o,r,k⟩,(`aE_),(`aE0),`za j++`eT::`Ja j,(spB K j f),(ds.take j).map,(ds.drop j).map,by rw[`U,`c_];omega,`I h (J _ _),(by rw[hl];omega),hf b ds r b' h,(λa=>B a/\a≠p),(`aE1),λ_ z=>z.1,∀x,B x->B' x,∃q:D×D,∀p,EndB G `oM j p q.1 q.2,`a (.ow (j8 p b)),`a (.ow (`Je)),`a (.ow (`zc)),⟨_,rfl,λK H B a r=>⟨r,`X8⟩⟩,(`aE2),(`aE4),`bv `X9 (J9 ks ds q d),[`s "@",`ka],RpN K H' B as d v,(`cY).lookup c=`zd,(c==x)=`n,List.getElem_zip,`I z hb,by rw[`X',← e],h.opAt e1 e2,(`aE7),
∀C dx fs,so'=`lU->k=0,(`aE8),upd H a (`ov `Jh),`b7 (`yQ hB),`ek=`a ns,DL.setN i k n' δ,(`hN).bind,λk=>`mf,`a `zg,λq=>`zh,(λd h=>by unfold zk0 at h;cases h),PN X i e g,PN X i a ga,⟨dx,ad,ns,as,sos,en,e1,at',`WT⟩,k w H2 M w2,(`q (es++[dv])),(`aE'),⟨u,q,`j5⟩,vi0 `h6 hm `e5,`I z (no _ _),`ds[n+k]?,a6 K H B a ro,But a H1 H2,m9 (V0 e hL),(`aFc),(`aFd),`st _ b3,PX X `Jn `Jo,fun σ H R=>∃B δ,tDI X.K B δ gi σ H R,fun σ H Q=>∃B δ,tDT X.K B δ noT σ H Q,teX X.K gx,(`aFi),(`aFk),(`aFm),`aFn=`x2,PSD X (`nZ [`oj] `Jn spos) (p80 j `Jo),⟨q,en,e2,λv H' ev=>?_⟩,ev.same.trans,by show (2:Nat)<=_;decide,λd=>(d,r.2),λv H1 ev=>?_,`j8 acc p.1 p.2,PPs X pos `fS `gQ trs,`kk=`a ps,PD X ve gv,PDP X pos `fS `gQ gP,(ve::`gQ),⟨_,p10 (tk:=`Yb) (tv:=fun σ H Q=>∃B,tD X.K B δ gv σ H Q) `Yc (λpins s σ H Q I ⟨B,h⟩=>hv B δ `h s σ H Q I h) h1,`Yd⟩,`ed `ke,(`kk).bind,(`Jq).bind,ks.Nodup/\`eb<=15,⟨s' _ _ n6,`zm,?_,?_,?_⟩,`eb=(`Ya).length,wm0 [] (`zm)=`zm,`Ye `bj=ks,`e6 (λv:V×V=>v.2),`mi X `d8 G,tDB X.K `T `S δ G D σ H,`oQ `T `S δ `h s σ H D I h,zq0 gt G m δ'=`dK,ev.s.lower hS `ef,(`aFr),PTX X a gt,(`aFs),⟨q,en,e2,λH' J=>?_⟩,ZSt `aw z TI TO i1 i2 l1 l2 S xs ys 0,∃f0,IsZip `aw z TI TO f0,(`aFt),(`fU (`I1 `s1)),`yZ `oR `h3 `Z,`kl S `zn,(`y6).toArray,λo e=>hk _ o e,{ s with heap:=`Yf },(`Yf).get?,(`Jr).symm,`d3 `eR=`a `s2,`dn [f] `A,(`zo).map `I5,eqU `km (`d y tk),F.slot_list_index,(`aFx),(`aFz),mkF 2 wo0 N8,"abcdefghijklmnopqrstuvwxyz0123456789",(`aFB),(`aFM),(`aFT),(`aF1),(`aF9),(`aGk),(`aGA),[`s5, `Jw, `zr, "_law_base", "_law_j", "_law_long", "_law_names_here", `oS, "_law_code"],(ob `V),(`aGB),(`aGD),(`aGI),(`aGU),(`aHc),[`dy, `Jx, "_law_cells"],(`aHh),[`dy, `oU],(`aHq),(`aHs),gc (`d 37),(`aHw),(`aHW),(`aH3),(`aIc),(`aID),(z7 `s9 v5),(`aIU),(`aIV),(`aI_),(`aI1),(`aI9),(V7 (u70 2) `c0),(`aJa),(`aJi),(`aJo),(`aJp),(`aJv),(`aJz),(`aJJ),(`aJM),(`aJS),(`aJ8),(`aKg),mkF 2 vo0 tf0,(`aKv),(`aKG),(`aKL),mkF 2 uc0 wc0,(`aK5),(`aLc),(`aLn),
mkN 2 vw0 wn0,(`aLH),(`aLK),(`aLO),(`aLZ),(`aL5),mkN 4 u20 wa0,(`aL6),(`aL7),(`aMc),mkN 1 ke0 pf0,s.cps.toList,"0123456789abcdefghijklmnopqrstuvwxyz"," 0123456789abcdefghijklmnopqrstuvwxyz",[`s p.1,p.2],isWord w=`b,`B [`fX,`aR],(`tb).length=`cB,by show l.toArray.size=_;simp,`aM2=l,by simp[`as],⟨`F,λc hc=>by simpa using h3 c hc⟩,p++sep++tb0 sep (q::r),[`fX,`ka],t8 G1 G2 δ,by unfold ifB;rw[h];rfl,W2 `dG `tc=`Xd,`al=`zH,`a (`kt),cs.map `bl,∃z,0<=z/\W6 `f0 []=`a (`dM,`mo),[.un,`o0,`zI],(λp δ hδ=>?_),(D6 _ `t),(D6 _ `i),L0 _ `i,`d (3*k*k),`l0=`a l,`aM'=_,`JT+`JU<=`P,`al=`a `tf,by unfold ob;rw[h];rfl,(`aM?),λj=>`JW,(`Jb).map,`Zv=`a (r,`a1 i `Jm),(`Zw).map,λr=>(r.1,`a1 i (.ow r.2)),marks (`fX) `oV,nj0 k h0 hk cs hc sm m `aI,j9 `aNd,λp j=>`JW,(λi e=>by cases e),ma0 rfl rfl e,show gN 0 d (([`ys,`ys]:Ds).set 1 (`JX))=`a `JY from rfl,`as (tb0 sep `th),`q (`Zx λp=>`em (`as p)),p.length<=B,(`JA : Str).cps.toList,S.cps.toList,by rw[hS];rfl,signs.getD,D6 `zL (show (37:Int)≠0 by decide),L0 `zL `Zy,`d (`tj),p=13∨p=53,`J0%`o1,`Zz - `J0,(`en hd),(`en h2),`I e3 z,cg `ZA,`zM a++`mt,`ZB++`mt,Gw.lj0 _ _ `zQ,ga0 w _ `i `i `i,Gw.lj0 _ _ (by rw[`c_];omega),o2 `aS `Yi m7 `tk,`aNq=_,(`o3).length,hm c (y8 q),p50 N k c q,B8 `ia e,(`aNr),`s (`as (w++[cg q])),[`gT,`cQ,`gU,`gV,s4,`mu,`kw,.un,.un],List.range_succ,(`aNs),λs hs=>?_,(z/4%4).toNat,λp k cs m pool=>j9 ?_,o2 `YD `YE ixD [s0,`bV,`zT,.un,.un,.un,.un]=`a (`d r),[`zU,`zU,z/4%13].map,.ow `aNw,`J7=`a (vs,`tl),(`aNx),PoolB np nm,`J8 i "",`J8 j "",(`zW)%`kx,(`aNy),(`b6 `cx).map λj=>(`ZE,`tn),∃(p:Pt) (k':Int),k<=k'/\`ZF/\`ZG/\S8 `f0 []=`a (p.d,`tl),(`aNF),(o2 `zu `zK eqD),(by rw[rl];omega),D6 (z/156) (show `z_≠0 by omega),(`aNG),(`aNH),(`aNI),List.drop_of_length_le,Gd p (`ar:Int) `aI,`B `z3,ns.drop (s+1),gv 2 δ=`a (`d f),`q [`d 13,`d 53],(`aNJ),if sm=`b then 1+f/64%60 else 1+f%8,M9 0 `lE,(bk3 cs sm),`a ((s+1:Nat):Int),List.map_drop,[`ky,`tp,`tq,.ow (bk4 cs sm `lE)],l.Nodup->(∀a∈l,a∈m)->`cB<=`ZI,
if r=0 then [] else `ib::dgf f `ic,Nat.le_zero.mp h,2 ^ (m+1)=`z6*2,Nat.pow_succ 2 m,ih `ic `i,`Kb<=2601,I0 (Nat.div_le_self _ _) h,[a,`Kc,`ZJ],Z4 [`ku]=`a (`q ((bs n).map `d)),`d `o7,List.map_reverse,if z<0 then (`ZL).toNat else (2*z).toNat,(2:Nat) ^ 2502,y20 `z8=`a (`ZN),`a (`D (z<0))=_,((`o8:Nat):Int),(sg s).length=`id,V3 `tt=`a (`ZP),`cB+e.length<=`P,d7 (yd0 i g) δ,(`aNK),oA `z9 W8 δ,`a (`ZR),`am h rfl,`aNP=_,Q0 `o9=`a (`ZT),O3 `o9=`a (`ZU),(`kA).length,(`Kf j).flatMap two,List.take_succ,[a,.ow (`q pre),s],List.take_length,S6 `o9=`a (`q (`f3)),[`Ac,.un,.un],[`Ac,`kw,.un],(`aNS),[`tv,.un,.un],d.1.length<=20/\Vb d.2,(`aNT),iz0 h2 λs hs=>h3 s (C6 _ hs),(`Kg).map `cv=vs,`cx=`Kh,λ(k:Nat)=>(`jF `cg:T7),λs=>`Ki,(`jF `bH:T7),List.mem_map,`a (.bl (`Aj)),K3 `o? `Ak,`Z_ `Z0,lh0 `Z1,`a (.bl `Z2),`a (`Z3),zk0 `o? (nd (`b6 `tz)) `Ak,j00 `Z0,`d `Z4,[`bK,`pa],`d (`Km),`d `Z5,Bw.ak0 _ _ `i,[`bV,.sh X],`d ((4*(`tB)+2:Nat):Int),(`Kp - 1 - `Z4),[`ii,d,`gY,`pa],(`aN2),4*fold x+1,Bw.fold_lt,(`aN3),(`aN4),if `dh then bs (4*(`tB)+2) else bs (4*(4*cnt `Aq+kn `Aq)+3)++tx `Aq,(X7 (d:=p.d) ?_),(st ps o B T W s),`d (`tz:Int),(`aN5),(16000000:Nat)<=`P,(`aN6),`tF++[d],List.getLast?_concat,List.dropLast_concat,t6 (δ':=st ps (o++hb ps B T `z) B T W (`tD)) ?_ rfl,t6 (δ':=st ps (o++hb ps B T `Kr) B T W (`tE)) ?_ rfl,nB B `kC=`Kv,by unfold nB;simp only[`bW],nW ps B W `kC=`Z!,by unfold nW;simp only[`bW],t6 (δ':=`Z?) ?_ rfl,b7 (ds:=`o9) (`am (by rw[`_a];exact w1) rfl),List.reverse_append,t6 (δ':=`_b) ?_ rfl,∀s:Str,`mx->P `dR,(`aN7),λs h=>hn s (C6 _ h),(`_c).vals,o++pk ps f B T W,⟨f - 1,`F⟩,⟨`F,B,T,s,?_⟩,`cj<=`ar,⟨`_f,`Kw,hn,J,O⟩,(`ik).Nodup,(`ik).length,List.nodup_nil,(t6 q `o'),`mh λp=>(p.1,f p.2),(`kA).map,(`At).vals=`tG `im,⟨?_,rfl,rfl,?_,hv,?_⟩,(`Au).length=`ar,n80 `im (`pd) ps,(`Au).map `bj,lkd (π j),0<`tH/\`tH<=60,(`Kx).vals,ly0 `c2 `Av,show lkv `c2 `Ax=lkd (ix L i) from vm0 _ _,tw0 `aN9,(`be hj).resolve_left,λi hi=>?_,`AA∈`As->`eq,λh1 h2 h3=>ih h1 h2 `Kz,
n+51*`cj<=`bf+51*`AB,by rw[`ip];rfl,(nW ps B `KA `pe),(hw.it _ `pf).gp.len,show `KB+f=(n1+`AD)+1 by omega,λB T _ _ _ _=>⟨B,T,[],`J B T⟩,λx hx=>hd x `xT,ih B `AE hm hn hB J,⟨B',T',_,`s h⟩,⟨B',T',_,.val `gt h⟩,⟨B',T',_,.val (`l ⟨z,rfl⟩) h⟩,⟨B',T',_,.old hj' h⟩,Pk ps [0] [] `_i L T b1,Km.pak ps 0,∀j,`_j->j∈L,λj hj=>by rw[`e3 hj];exact J.1,`pg (`mA J.1).2,h.nodup `aO,(λj hj=>by cases hj),(`aOe),`tH<=`ar,show n+`tJ=100000 by omega,by simpa using `C,(∀v∈`kF,`iq),hn s (C6 _ (J qs hv hs)),nd0 xs ys h1 h2 h,by simp[ye0] at h,nob d=`b,⟨by rw[nob];exact qn0 λd hd=>(h d hd).nb,by rw[`dv];exact ue0 λd hd=>(h d hd).ln⟩,⟨`_m,by cases n<;>simp[`dv]⟩,pairs qs hv,`aOh=_,ixD X (`KI)=`a `KJ,yz0 (items:=`e! pr) ?_ `eo ?_,W3 (J0 rfl),[`_p],(`aOl),[`aOm],`Aw λ(k:Nat)=>`cg,List.filterMap_append,(`aOn),`dv `tN 50=`b,(Km.kv0 hq).2,yz0 (items:=`e?) ?_ `i ?_,`dx `ZV,[`kG `Ax],`a (`o!),(`aOo),`KL++[`bl `bH],(`aOq),`q (nd E),h2 f W s3 s4 (by rw[`aH] at hl;omega),λf W s3 s4 hl=>?_,px0 (by rw[gi0,`bm `aO]) e,J1 `tO=`a (`tM),(`aOr),.sh (`q (`tG f)),⟨s6,?_⟩,[a,b,c,d,.sh (Pt.text w).d,.sh `dQ,s6],⟨`KO,?_⟩,(`s? qs),t6 (X7 (d:=`AM) (nu0 _ _ qs 4 rfl rfl h)) (t6 (X7 ?_) rfl),`B `aOw,[`aOx],b7 (ds:=[`AM,`_s]) rfl,`aOC=_,(`aOD),`mD hn (m:=`ir) λy hy=>`en (hL y hy),[`a7,`it,`kw,.un,.un,.un,.un],.ow (`q (`_x)),`q (`tG `pi),(rel `c2 p).d,`q (`Aw `tQ),`dx ((`_y).map Pt.d),ixN `fT z,`eQ `KR `A v,(G4 (`_z)),`_A `sN e6 hnode,RpN X.K H2 B as d v,en.s.setN b1 b2 env M at' f1 f2 nk `_B (d:=`z) (v:=`z) `sK,k _ _ q2.s,λ_ z=>`oD,`a (`eJ),λl hl=>?_,H l=`a `dQ,dsQ `AO q,PDQ X pos `fS `gQ gP,(`fQ n `dQ),(`aOF),(uy0 e3 rk),(a7 b o z),Pos->`dD,execs_cons,Sem.wp_bind',Sem.wp_mono,(λ_ _ _ h'=>h'),`cN X bs G2,(fgt js δ),`cN X as G,`l3 (λj o sl q1 q2 q=>?_) h1,λq=>nb (c1 p ⟨z,`pj⟩),ta0 O `KT e,λb=>`sw∨b=p,[s1,s2,s3,s4],(by cases h),(`aOP),(j4 (j7 `df `_I)),(`aOU),(`aOW),[`dy, `s5, `YX, `KU],(o2 `tS `V m7),(`aO_),(`aO0),(`aO1),
[`dy, `oW, `zr, "_law_word_here", `KU, "_law_sign"],(`aO4),(`aO!),(va0 0 `AP),(`aPc),(`aPd),(o2 `s6 `kp gtD),[`dy, `s5, `KW],(`aPh),(`aPm),(`aPs),(`aPz),(`aPC),(`aPJ),(`aPU),(`aPX),(`aP1),[`dy, `s5, "_law_rest", `Jw],(j4 (j7 `zx `fY)),(`aP3),(`aQj),(`aQl),(`aQu),(`aQ?),(`aRd),(`aRt),(`aRC),(`aRR),(`aRY),[`kn, `zB, `Y8, `KU, `dy, "_law_kept"],`q (T.map `s),S[i]?=`gI,(`aRZ),p6 lc0 rfl,(z7 sG v5),(`er:Int),(`aR_),`d (n*128+b%128),(`aR0),List.drop_drop,zq0 gt G `fa δ,`aR4=_,ir0 (b:=[]) h2,(`aR5),(is a b c w n s),(`aR7),J3 `c1 IB `K3 δ',is a b c `K4 n `tX,OB `aR9,J3 `f_ OB `K6 δ',B8 `ia h,by unfold sg;rw[`U,J],(`fV aG),(`aR'),show `AX=`_9 by omega,G3 g g' δ,by unfold G3;rw[h];rfl,(`mG).length,((`mG).any `_!),g `cR=`K8,setN 0 2 (`q (`_?)) `cR,`a `zP,Z9 `aSe,(`aSh),¬(N%4=0/\N > 0),`cS=bs 0++`ax,`cS=`Ld++`ax,(by rw[`aah,`fb]),DL.ixN `c3 `cg,bs (4*(4*c+kd)+3),[`A0,`tY],[lb p S j (P'.set `c3 v) T',`tZ,`A1,`A_],o6 (O2 (t00 `aai)) ?_,o6 (O2 `aai) ?_,(`e! _).length<=12,λs=>`kv s,PsOk.names,by0 hl.2 ((`Lf).vk v hv),J p hp s hs,`ei v=`b,yz0 (items:=`t1) rfl `eo ?_,⟨_,rfl,rfl,rfl⟩,`q (`pq `cv),((`Lg).any `_!),(`Lg).all `cP=`b,`pr=`Lh,(`aSl),∀s,o=`g_->`Li/\`aak=`a (`bK,`Lj),o=`c->i1=i/\T1=T,s8 p S i2 P2 T2 kd sz c (acc++[(o,v)]) a `ps (.sh v),`a (`pt _),Pk ps B T [d] B1 T1 b1,∀s,d≠`bK,i+b1.length,a.1.isSome=`Lh,It `ar a.2/\Bw.Vb a.2,∀s,a.1=`g_->`eq,Pk ps B T `aam B' T' b,`cS=b++`ax,(`aSn),b1++(b2++b3),v::`aal,B8 `ia hS,(b3++`ax),P++(`aan).map `t2,(.sh (`Ll)),`B (`ma prD),`B (`pq `cv),show `n'=((1:Nat):Int) from rfl,show (2:Int)=((2:Nat):Int) from rfl,`am rfl (`am t2 rfl),(M9 0 `Lm),y30 `e9 (`aap),(O7 `Lp).isNone,It `ar v/\Bw.Vb v,`aar (`Lq) (W.wb.lk p hp v hv),(O7 (`Lr)).isNone,(nrf (`Ls)&&`b),J qs (λq hq=>W.pn _ (`mK _ hp q.1 (by unfold Pt.all Pt.pnames;exact C6 _ `t3))) (λq hq=>hI q.2 `t3),(`KF pt hpt).vals v hv,(B.drop `cj).map,Nat.add_zero,⟨δ',?_,t2⟩,o6 `aax (o6 `g0 (o6 (j9 (Y5 rfl)) ?_)),(`aay `A4),hI v.2 `aaz,
`mK _ hpt v.1 (by unfold Pt.all Pt.pnames;exact C6 _ `aaz),(`aSs),`B (`aaA),`B (`aaB),bs `aSw,by rw[eN];simp,∀s,d=`bK->`eq,(`A5).app,J3 `c0 CB `AH δ',(`aaE).map,q80 [`mq]=`a (`oe),`a `A6,`dx `Lw,(`aSy),`d `aaG,`bl `aaG,Sm.int _ 50,`I? 2 `aaH=`b,(`aSz),`I? 2 `aaI=`b,`gZ (`Kq),FnD P w K mg `r `iw 1 `di O8,(J7 (v7 o4 `t5)),(d9 `ix w6),FnN P w K mg `r `iy 1 `dT Z4,FnN P w K mg `r `iz 1 `g3 V3,(`aSE),C_sign_bytes,ch0 K mg "KINDS" `Zc,(`aSJ),(`aSK),(b8 `aE w6),(b8 `A8 w6),(p7 3 `mN),(p7 8 `mN),(`aSN),(`aSQ),[`oS, `zr, `oU],(p7 2 `pw),(v7 `t' u0),(`aSW),(pab 1 u0),[`oS, `oX, `oU, `YM, `YN],(v7 `t! u0),[`KW, `oX],FnN P w K mg `r `iE 1 `kJ V2,C__law_values,(d9 `fc w6),(`aS5),(`aS6),(p7 3 `A'),FnB P w K mg `r `iF 1 `aT 0 J2,FnB P w K mg `r `iG 1 `g4 0 z60,C__law_digits,(`aS7),C__law_signs,(`aS9),(p7 3 `uc),(`aTc),(p7 6 `uc),(`aTd),C__law_told_value,(`aTi),(spD K q80),(`aTj),(`aTk),(`x f10),(`x f11),(`x f12),(`x f13),(`x f14),(`x f15),(`x f16),(`x f17),(`x f18),(`x f19),(`x f20),(`x f21),(`x f22),(`x f23),(`x f24),(`x f25),(`x f26),`aW `f6 `f6 (Z0 `py) (g8 `py) (t7 `py) `Z kV26 dc26 pm26 an26 cd26 ct26,(`x f27),`aW `g6 `g6 (Z0 `ub) (g8 `ub) (`LA) `Z kV27 dc27 pm27 an27 cd27 ct27,(`x f28),`aW `kK `kK (Z0 `pz) (g8 `pz) (t7 `pz) `Z kV28 dc28 pm28 an28 cd28 ct28,B4 X G a26,h0.binds (ps:=`aT) `dj,B4 X G a27,g7.binds (ps:=`pA) λ_ _ _ _ _ _ us hl=>by obtain⟨_,_,_,rfl⟩:=us3 hl;rfl,(λq=>nomatch q),tupleKind,λc v _ q=>k c v q,(tn0 h H).get?,b∈`lq∨`lr<=b,`GO b o e n hb hx,⟨#[],by rw[e];simp⟩,λb ps e=>`aA_,TP X `h σ Q,by rw[I.ok.glob];exact `Vt,h `h s σ H Q I hw,h `h s σ H _ I hw,`lv .And [a] pos,ha `h s σ H Q I h,(`aA6),thn `aA7 λc s1 e=>?_,`lv .Or [a] pos,a::`Vv,λc s1 ⟨H1,I1,q1⟩=>?_,thn `nW `aA!,`lv .Or `Vw pos,`lv .Or `Vx pos,∃σ' H',`lw/\`VB,λ_ s'=>`aBc,`jN o i pos,hi `h s1 σ H1 _ I1 q1,`nZ [tg] e pos,.While c `d8 [] pos,by rw[z];exact hb,`VF tg `ly u,PIE X `h σ tg R,"dict_itemiterator","dict_reverseitemiterator","odict_iterator",
"itertools.zip_longest","itertools.pairwise",[`jO, `eR, `aBl, `aBm, `aBn, `aBo, `aBp].contains,by simpa using hu,(sb.2 b hb).trans,`aBs e,λb o hb e=>`aBt,∃xs,SqL K H1 a xs,`bC (`b5 `nK p) [a] [] pos,ha pos `h s σ H _ I h,thn `G7 `VK,(`aBy),E8 `aBz hs rfl,.For tg `hF `d8 [] pos,hi `h s σ H _ I h,thn h1 λa3 s2 h2=>?_,λv s1 h1=>`aBD,thn `G8 `aBE,(C8 _ (ve0 hb e)),C8 _ `aBG,hb `h s1 σ H1 _ I1 q1,ho `h s2 σ H2 x y v u Q I2 rx ry q,λv u s2 x y H2 I2 rx ry q=>`aBJ,bj0 ha hb I h `aBK,intBits_le_64 h1 h2,(`VX j i 0 `VY 1).isEmpty,!`aBN,(`aBO),.bl `aBP,(`aBQ),Q `aBR H,y=`s j/\`aBS,x=`s i/\`aBT,∃i j,`aBU,λx y H Q=>`aBV,.bl (`D (x=`z)),(`aBX),Q `aBY H,y=`z/\`aBZ,λx y H Q=>`aB_,`xo∨r' x y H Q,λx y H Q=>`aB1,ho `h s2 σ H2 x y v u _ I2 r1 r2 q2,`rD a `VZ [b,c] pos,xs=[`aR]/\Q `dG H,∃i,`aB5,xs=[`n4]/\Q (`G!) H,(`aB6),∃k,`aB7,`aB8∨`aB9,λxs H Q=>`aB',(x.cps.getD 0 0:Nat),`d `aB?,(`aCa),Q `aCb H,`n5=1/\`aCc,xs=[`cc]/\`aCd,∃x,`aCe,λxs H Q=>`aCf,h pos `h s σ H _ I hq,by rw[← `cw];exact z,⟨`aCi,?_⟩,(`aCh),λus s1 ⟨xs,H1,I1,r,z,q⟩=>`aCj,thn `aCk `aCl,.List es pos,∀v,(x,v)∉binds,x.above y c (D8 h),(`aCp),by simpa using hi,`aW name `dH params `d8 `cd dV kV doc pm an cdv ct,tj0 CX P w K mg `r N `dH `cd f cdv A `bS s H E,wh0 I hg hm hv ?_ hn hdb,(`aCu),λus s1 ⟨vs,H1,I1,r1,q1⟩=>`V6,thn `G7 `aCw,by simpa using hv,by simpa using hw,if v<0 then max (v+`da) 0 else min v `da,args_tuple_getitem,`aCB _ _,entry_tuple_getitem,(`aCC),E4 L6 `lG `aCD ?_ `aCE,tupleItemsOf_ ht ?_,(`aCG),(u40 hs pl pu ?_),Builtin.Tuple.tupleExact,⟨_,rfl,A1 h⟩,A1 `aCK,A1 `Hi,.Slice lo hi `c p2,`jN e `Wa pos,by rw[J];exact hw,by rw[hj];simpa using ew,by rw[`bd]<;>omega,·.setIfInBounds,`aCS j u,xs.set j v,(`aCU),`q `aCV,upd H p `Wf,by rw[hk];exact⟨_,I',q⟩,J its r' hz h' c' kp e,λh' c' kp e=>`aCZ,λv s1 ⟨x,H1,I1,r1,ty,q1⟩=>?_,thn `xI `aC0,λ_ _ q=>B7 _ q,s'.os=s₁.os/\`Hs,OldK `od `lB/\`aC3,r=.ok (`fy `r4)/\`aC4,λr s'=>`aC5,λf vs=>PySem.call f vs,`Vi n==`gv,
`Ww&&`aC8,⟨`xY,`hF,ifs,0⟩,[`aC'],`HA elt `aC! `cd pos,J.stop i H2/\Q `lO H2,(`Hz&&`WB&&`WC),`aDb=`b,if `aDc then `r' else k,λk=>`aDd,(`n7 x).map `aDe,by rw[hsc];exact z,by show `GS x.1=_;rw[hsc];exact z,`a (`oj),`nZ [`oj] `jW spos,`s (`WK sep ys),`ea λa=>`s (h a),(`aDl),by simpa using hl,tDT X.K B δ g,q σ H Q z,tDS X.K `T `S δ G,.If c as bs pos,(b2 b z.1).resolve_left,by simpa using z,tDG K idx f B d δ v σ H Q,∃B d δ,`aDu,λv σ H Q=>`aDv,upd H6 L (`q (ys++[v])),ht cl s _ ex B δ `h s' σ H Q I h,λcl s H ex pins s' σ H Q I ⟨B,δ,h⟩=>`aDy,he cl s _ ex B δ `h s' σ H Q I h,λcl s H ex pins s' σ H Q I ⟨B,δ,h⟩=>`aDA,`yv/\∃δ,`sz=`lS,(`aDC),`aDD∨`Ib,`W8∨`aDE,`s (`W' z lo hi),`q (xs++zs),`bC (`b5 `oa p) [e] [] pos,hr.mono hk,h1.symm.trans,if `yG then (`l1,y) else kv,λkv=>`aDL,`yJ `aDM,by rw[l];exact `It,by rw[e];exact `j9,`j8 kvs p.1 p.2,(`oC:`a6).length,`aDR+`yB,`aDS+`yC,`aDT<30,(`aDU),s=`sB/\o'=`lV,∃d,`aDW,`hZ (λo sl h=>?_) `fP,(`gO a z).same,`m [],(`aD_),`bv `aD0 [],gc `Xr,ih m' d e x y u w `b! a0 h1 h2 h3 h4 h5 h6,λd e x y u w h1 h2 h3 h4 h5 h6=>`aD3,tp0 Z Y rr M rv O `aD4,by rw[s1,s2,hl],by rw[s1,s2];simpa using hl,`lC a .Add b pos,`bC `Hb [e] [] pos,{ cls:=`cp,dict:=`c,data:=`bB acc' c',slots:=#[] },code_list_new _ `gP,`o `aG A (`d! `sL [v]) Q E s1,λv s1=>`aD?,`b5 `c9 p,`bC `XH [`IO] [] pos,(`IP).isSome=`kd,`os->`aEd,if p.1=q then d else p.2,λp=>`aEf,`XJ `aEg,`jN `eh e pos,J9 pr.1 pr.2 q d,.dK ((`XL).zip ys),Builtin.«zip.__next__»,`aEl ⟨[`y2],[]⟩,D9 hz rfl (x:=`dF `n) rfl ?_,(`aEn),D9 hz rfl (x:=`x TI) rfl ?_,(`aEp),h1.extBut `l! D.i1z,hl1.extBut,`aEs `l! D.l1z,h2.extBut `l! D.i2z,(`aEu).extBut,`aEv `sP D.i12.symm,hl2.extBut `l! D.l2z,(`aEx).extBut,`aEy `sP `I_,F.args_zip_next_1,`aEA _,`y4->c≠TO->`XP,∀c o,`aEC,{ cls:=`cp,dict:=`c,data:=`bB acc c,slots:=#[] },"list.extend.loop",⟨[`x S,`y2,res],[]⟩,`fx `aEF `aEG,`IZ->`lk c=`ab->`XO,`IY->`aEI,c≠TO->`aEJ,`y4->`aEK,∀c o,`aEL,upd H `_ `I6,`mb elts x1 tpos,
`bC (`b5 `jO p) [a] [] pos,u60 ga gb gc f f',n==1||`n5==0,`y' lo (hi - lo),by simpa using hy,(zt0 (q:=q) rx).2,`I!/\Q (`d `gq) H,`kh/\`aEV,∃(p:`e) (kvs:`ej),`aEW,λxs H Q=>`aEX,I.hok.lt q,tDB X.K `T `S δ G,h1.go `T `S δ,by simp only[z,`b?];exact e,vs.take j++`dp::vs.drop j,(.ow (bm.2 q.2)),`a1 i `aE3,h `h s σ H _ I q,`h5 H' a sub,λb hb=>`Jg id `cv,upd `ze c so'.ho,as.zip (`zf),upd (`kj H' `ec) c so'.ho,ho.go B δ,G4 `Jk,yg0 n `ce i `oP gi f gx,by rw[m9 Y];exact e,λo e=>`aFb,(`x8).set `oP `Jm,⟨tg,`hF,[],0⟩,[`aFe],`HA elt `aFf `cd pos,hi B δ `h s σ H R I h,λpins s σ H R I ⟨B,δ,h⟩=>`aFh,ya0 B δ `h s' σ H Q I h,λcl s H ex pins s' σ H Q I ⟨B,δ,h⟩=>`aFj,he cl s _ ex `T `S δ `h s' σ H Q I h,λcl s H ex pins s' σ H Q I ⟨`T,`S,δ,h⟩=>`aFl,`rG `Jn `HD `WH `A,`a ke::`fS,hk B δ `h s σ H Q I h,λpins s σ H Q I ⟨B,h⟩=>`aFp,tTX X.K `T `S δ gt,`oQ `T `S q.2,∀b o,b<lo->`sU,oA `s3 W8,o2 `V `Yh ltD,(`aFv),ob `aFw,(o2 `ay `V ixD),V5 `aFy,gc (`zp),j7 `c0 `Jt,o2 (o2 `e8 `e8 W2) `h8 m7,(`aFC),o2 `ay `aFD o8,(`aFE),o2 `aFF `s4 p8,(`aFG),o2 `aj `aFH ixD,(`aFI),o2 `bI `aFJ m7,(`aFK),j7 `c0 `aFL,(`d 7),gc `aFN,o2 (o2 `ay `oT m7) `s4 p8,(`aFP),o2 `aj `aFQ ixD,(`aFR),j7 (gN 8) `aFS,o2 (o2 `ay `s4 o8) (o2 `oT `s4 o8) m7,(`aFU),o2 `aFV `s4 p8,(`aFW),o2 `aj `aFX ixD,(`aFY),o2 `zq `aFZ m7,(`aF_),j7 (gN 8) `aF0,o2 `ay `h8 p8,y00 `bI xa0 (`fV `fW),(`aF3),o2 `aF4 `zq m7,(`aF5),K5 6 `aF6,(`aF7),d7 `aF8,o2 `Ju `aS eqD,(`aF'),ob `aF!,o2 `oT `Jv p8,(`aGa),`fV `aGb,(`aGc),y00 `bI xa0 `aGd,(`aGe),o2 `aGf `zq m7,(`aGg),K5 6 `aGh,(`aGi),d7 `aGj,gc (`d 35),(`aGl),o2 `oT `aGm gtD,(`aGn),z7 `aGo v5,(`aGp),oA `aGq intOfD,o2 `aS `Yi m7,(`aGs),`fV `aGt,(`aGu),y00 `zq xa0 `aGv,(`aGw),K5 6 `aGx,(`aGy),d7 `aGz,o2 `zs (gc (`d 12)) s80,gc (`d 60),o2 `zs `Yj s80,o2 `V `aS m7,(`Yl),gc `aGF,o2 `V `s6 ltD,ob `Ym,gc (`d 64),o2 `zs `Yn s80,gc (`d 57),(`aGK),o2 `aGM `Yo m7,(o2 `aj `V ixD),(`aGN),o2 `aGO `aGP p8,(`aGQ),j5 `aGR,(`aGS),Y6 `aGT,o2 `V `s6 p8,o2 `aj `Yp ixD,`d 2147483647,
(`aGX),gc `aGY,(`aGW),o2 `aG_ `Yq p8,o2 `h8 `V W2,o2 `Yr `V W2,(`aG0),(`aG2),o2 `aG3 `aG4 m7,(`aG5),o2 `aG6 `Jv m7,(`aG7),o2 `aG8 (gc (`Ys)) W2,(`aG9),o2 `aG' `Yq p8,(`aG!),j5 `aG?,(`aHa),Y6 `aHb,Y4 0 v5 W6,V7 `Yt `mj,j4 `Yu,(o2 `zt `ch eqD),ob `aHg,(`Yw),gc `aHi,dgO 0 `Jy,`s `Jz,(`aHl),gc `aHm,j7 `df (gc `Yx),(`aHo),j4 `aHp,o2 `ay `aS m7,o2 `aj `Yy o8,(o2 `s8 `fZ p8),j7 `df `aHt,(`aHu),j4 `aHv,(`d 5),gc `aHx,o2 `s8 `YA p8,(`d 13),gc `aHA,o2 `s8 `YB p8,(`aHC),z7 `aHD v5,(`aHE),z7 `YC `aHF,(`aHG),z7 `YC `aHH,(`aHI),W9 `aHJ,o2 `V (gc (`d 52)) o8,(`aHL),o2 `aHM `h8 p8,o2 `zu `ch eqD,(`aHO),ob `aHP,Y4 1 v5 U3,yg0 1 [0] 0 1 `JB `bJ `JC,(`aHS),p80 3 `aHT,(`aHU),j4 `aHV,`s "pool",(`aHX),gc `aHY,dgO 0 `YG,(`aH_),j7 `f_ `aH0,(`aH1),j4 `aH2,o2 `V (gc (`d 156)) o8,oA `mk W8,o2 `JD `aS R0,(`aH4),(`aH6),o2 `aH7 `aH8 p8,(`aH9),o2 `aS `aH' m7,(`aH!),j7 `c1 `aH?,(`aIa),j4 `aIb,qz0 0 1,(`d 1000),gc `aIe,(`aIf),o2 `aj `aIg o8,o2 `ay `e8 W2,(`aIh),(`aIi),o2 `aIj `aIk m7,oA `ml W8,(`aIl),o2 `aIn `YH p8,(`aIo),o2 `bI `aIp ixD,(`aIq),z7 `aIr `gR,(`aIs),T3 `aIt,(`aIu),X6 2 [1,4,5] (ph0 `ml) `JE noT `aIv,(`aIw),z7 `aIx v5,oA `YI U9,(`aIz),j7 `zx `aIA,(`aIB),j4 `aIC,gc (`h9),gc `YK,z7 `ay `gR,`fV `YP,(`aIH),y00 `ay `aII xa0,o2 `YQ `YR m7,o2 `aj `kp o8,(`aIL),o2 `aIM `kp p8,o2 `YS `h8 eqD,(`aIO),xp0 `Jy `aIP g80,(`aIK),(`aIQ),xp0 `YT `aIR `aIS,xp0 `dO `ch `YU,`s' 3 `JG,z7 (gc (`d 53)) v5,(`aIW),z7 `YB `aIX,(`aIY),W9 `aIZ,o2 `aj `YA o8,o2 `YV `ci p8,Y4 1 v5 S8,z7 `h' v5,o2 `ay `oY ixD,z7 `ch v5,o2 `aj `mn xh0,ob `Y_,(`aI7),tg0 `aI8,(zd0 `b),o2 `bI `V `aI',ob `Y0,tg0 `Y1,o2 `ay `bI ixD,z7 `Y2 v5,oA `Y3 V2,(`aJd),z40 `aJe,X6 1 [] `Y4 `bJ `oZ `h',(`aJg),j7 `f_ `aJh,oA `mk v90,(`aJj),o2 `aj `aJk v80,Q9 2 `Y5,(`aJm),bi0 2 `aJn,j7 `f_ `Y2,oA `Y6 yx0,(z40 (oA `mk V2)),(`aJq),X6 1 [1] `aJr `bJ noT `aJs,(`aJt),j7 `c1 `aJu,o2 `e8 `ch ixD,o2 `Y7 `s! eqD,(`aJx),ob `aJy,z7 `fW v5,oA `JJ U9,(`aJB),z7 `aJC v5,(`aJD),z7 `s! `aJE,(`aJF),T3 `aJG,(`aJH),j7 `f_ `aJI,o2 `Y7 `zA neD,(`aJK),ob `aJL,(o2 `e8 `oY ixD),
tupI `aJN,(`aJO),X6 1 [] `aJP `bJ noT `ks,(`aJQ),j7 `zx `aJR,y00 `e8 xa0 (`fV `oY),z7 `s9 `JJ,(`aJU),oA `aJV l90,(`aJW),z7 `aJX v5,(`aJY),oA `aJZ U9,(`aJ_),z7 `aJ0 v5,(`aJ1),T3 `aJ2,(`aJT),(`aJ3),o2 `aJ4 `aJ5 m7,(`aJ6),j7 `f_ `aJ7,o2 `ks `JK eqD,(`aJ9),ob `aJ',(K5 1 `h'),d7 `aJ?,oA `e9 zc0,o2 `h' `V (yn0 `b),(`aKc),ov0 `mm `aKd,(`aKe),V5 `aKf,o2 `ay `ch ltD,(`aKh),ob `aKi,unG zi0 `ci,(`aKk),o2 `aKl `ay W2,(`aKm),o2 `aKn `aS R0,(`aKo),V5 `aKp,o2 `ci `ay W2,(`aKr),V5 `aKs,(o2 `ay `fY v70),ob `aKu,oA `gR zl0,(`aKw),o2 `aKx `aS R0,(o2 `V `h' uf0),o2 `Y' `aKz R0,(`aKA),o2 `fZ `aKB W2,(`aKC),o2 `aKD `ci m7,(`aKE),V5 `aKF,o2 `fZ (oA `s3 y20) W2,(`aKH),o2 `aKI `aS m7,(`aKJ),V5 `aKK,o2 `ay `h! p8,(`aKM),z7 `aKN v5,(`aKO),W9 `aKP,(`aKQ),Q9 1 `aKR,o2 `ay `h! o8,(`aKT),j7 `df `aKU,oA `gR v90,(`aKW),pb0 `aKX,(`aKY),T4 `aKZ,oA `s3 to0,X6 1 [] (qo0 `ay) `bJ noT `Y!,(`aK1),T4 `aK2,o2 `ay `V `Y?,ob `Za,(o2 `V `ay uf0),o2 `Y' `aK6 R0,(`aK7),o2 `ci `aK8 W2,(`aK9),z7 `aK' v5,(`aK!),oA `aK? Z4,(`aLa),T4 `aLb,o2 `ci `Yh W2,(`aLd),o2 `aLe `aS m7,(`aLf),z7 `aLg v5,(`aLh),oA `aLi Z4,(`aLj),o2 `aLk (oA `s3 V3) v80,(`aLl),T4 `aLm,z7 `YY v5,oA `Zb W8,(`aLp),o2 `fZ `aLq W2,z7 `ks v5,oA `Zd `Ze,(`aLr),(`aLt),o2 `aLu `aLv m7,(`aLw),V5 `aLx,oA `JI V3,(`aLz),T4 `aLA,N7 isStr `V,(`aLC),ob `aLD,oA (z7 `V `ml) z00,(`aLF),T4 `aLG,z7 `V `e9,oA `Zf O8,ob `Zg,(o2 `V `aS ixD),o2 `ay `aLL ixD,(`aLM),j7 `f_ `aLN,o2 `fZ (oA `mk Q0) W2,(`aLP),o2 `aLQ `h8 m7,(`aLR),z7 `aLS v5,(`aLT),oA `aLU Z4,(`aLV),o2 `aLW (oA `mk O3) v80,(`aLX),T4 `aLY,oA `Zf O9,(`aL_),z7 `aL0 v5,(`aL1),oA `aL2 Z4,(`aL3),T4 `aL4,Q9 2 `JO,Q9 3 `JO,z7 `dO `JP,(`aL8),T3 `aL9,z7 `JQ v5,(`aL!),W9 `aL?,(`aMa),Q9 4 `aMb,xd0 `JD,(`aMd),o2 `aMe `ch gtD,(`aMf),ob `aMg,V7 (u70 4) `c1,z7 `aj `ml,(`aMj),z7 `fW `aMk,(`aMl),z7 `ay `aMm,(`aMn),oA `aMo O5,(`aMp),up0 `aMq,(`aMr),yd0 1 `aMs,d7 `Zh,N7 isStr `fW,(`aMv),ob `aMw,oA `ml zl0,(`aMy),xd0 `aMz,p60 3 `fW `Zi,d7 `Zj,z7 `fW `e9,(`aMD),oA `aME O8,(`aMF),zz0 `aMG,ob `Zk,oA `e9 zl0,(`aMJ),xd0 `aMK,(`aML),
j5 `aMM,o2 `fW `aS ixD,`s' 2 `Zl,V7 `Zm `Zn,o2 `ay `Zl ixD,(`aMR),z7 `aMS v5,(`aMT),oA `aMU S6,(`aMV),z7 `aMW v5,(`aMX),oA `aMY v90,(`aMZ),yd0 4 `aM_,d7 `Zo,(`tb).cps.toList,(`Zt).length,(`aM3:Nat),(`aM4:Int),k<`aM5,(`aM6),`D `aM7,(`aM8),`a `aM9,by rw[`U];exact h,o2 `Ju `zK eqD,X8 (p:=p) (b:=`JR) rfl rfl hn,(`aNa),P0 `aNb rfl,(`aNc),show `f2<37 by decide,`eU*`ms,a+`aNf,((i+d:Nat):Int)*`ms,a+`aNh,N/36+`cg/36,(`aNj),`aNk%36,`D ((35:Int)<`cg),(`aNm),`cC `aNn,(`aNo),`a `aNp,`q (nm.map `s),uw0 `zR `i `i,bk k cs `n m `aI,(`aNt),j8 p `aNu,(`aNv),.ow (j8 p (`tl)),show `kx≠0 by omega,by show 2<=`P;omega,(`Zp `em).length,(`aNA:Int),`bl `aNB,(`aNC),`a `aND,K8 ur0 0 p `f0 [],ys0 (`am rfl `zR) `ZH,`zX (`J?).toNat "",bk k1 cs sm m `aI,by rw[ix δ h,q],∃s:Str,d=`bK/\`mx,((`ta).length:Nat),(`aNL:Int),`bl `aNM,(`aNN),`a `aNO,v60 (items:=`ta) rfl e,(`aNQ),t6 `aNR `o',`Ad ⟨d,hd,rfl⟩,(`b6 `eb),nd `aNU,(`ZZ).mpr,`aNW h,(`ZZ).mp,`aNY z,(`aNZ),h `aN_,λz=>`aN0,by rw[`Z6];exact `Z7,by rw[`Z8];exact `Z7,by rw[`Z9];exact ks0 B j,st ps o B T (d::W) s,st ps o B T W `om,`Ad ⟨p,hp,rfl⟩,hc k hk i (e60 hu),(`aN8),vg0 hn hj',`l ⟨0,rfl,J.1⟩,(`aN!),`l `aN?,(`aOa),`l `aOb,by rw[`kE];exact `aOc,λd hd=>`aOd,(`e! pr),if `AI then `_o else `c,(`aOg),(`Ke qs).d,J0 (hc _ qs rfl h),(`aOj),W3 `aOk,.sh (`Ab c qs).d,ns5 ps B W d3 s4,ns5 ps B (j::W) s3 s4,ns5 ps `il (`AK++W) `ph (`_r),t6 (δ':=`aOp) ?_ rfl,ns5 ps L [] s3 s4,`AN `tP,(`aOs).map,`aOt pr,`B `_t,[`aOv],`q `_t,(`_u `tP).map `_v,(`aOy),`gZ `aOz,(`aOA),`a `aOB,by show 1<=`P;omega,`jN o e pos,`tR `fS `gQ dpos,(`kH).zip sos,`s `_D,(`aOH),gc `aOI,Q8 0 `pk `_E,(`aOK),o2 `bI `h! eqD,(`aOM),ob `aON,G3 `_G `_H,o2 (o2 `V `h! W2) (o2 `bI `h! p8) m7,(`aOQ),j7 `mj `aOR,(`aOS),j4 `aOT,o2 `bI `h! ltD,ob `_J,oA `JJ to0,(`aOX),o2 `aOY `e8 eqD,ob `_K,j7 `c0 (o2 `bI `fW m7),o2 `YH `V neD,V7 (Y4 0 v5 J2) `mj,(`aO2),j4 `aO3,o2 `V `fY v70,(`aO5),ob `aO6,o2 `V `ci p8,(`aO8),o2 `aO9 `ch eqD,ob `KV,`s "names",(`aO?),gc `aPa,o2 `aj `Jt eqD,
o2 (gc (`s " ")) `aj inD,o2 `V `ch gtD,ob `_N,(`aPf),G3 `KX `aPg,`s "bad",gc `KY,o2 `V `ch eqD,ob `_P,j4 (j7 `df `s8),o2 `aj `ci p8,(`aPn),o2 `aPo `aS eqD,ob `_Q,(`aPq),G3 `tT `aPr,o2 (o2 `aj `aS m7) `ci o8,(`aPt),o2 `ch `aPu R0,(`aPv),j5 `aPw,(`aPx),Y6 `aPy,j5 (o2 `aj `ci o8),(`aPA),Y6 `aPB,`s `_R,(`aPD),gc `aPE,o2 `aj `bI geD,ob `_S,(`aPH),G3 `AQ `aPI,o2 (o2 `bI `aS R0) `aj R0,(`aPK),z7 `aPL v5,(`aPM),z7 `dO `aPN,(`aPO),T3 `aPP,(`aPQ),j5 `aPR,(`aPS),Y6 `aPT,z7 (o2 `aj `fZ o8) v5,(`aPV),z7 (o2 `aj `fZ p8) `aPW,T3 (z7 `dO `ml),(`aPY),j5 `aPZ,(`aP_),Y6 `aP0,Y4 0 v5 V9,V7 `_U `zx,o2 `s9 `fY v70,(`aP4),ob `aP5,X6 1 [] `AR `bJ noT `ks,(`aP7),(zd0 `n),o2 `s9 `aP8 `aP9,ob `_V,(`aP!),tg0 `aP?,(`aP6),(`aQa),zj0 `aQb `aQc,G3 `AS `_W,(o2 `bI `fY v70),ob `aQf,(`aQe),(`aQg),zj0 `aQh `aQi,o2 `oT `_O u10,ob `_X,z7 `s9 (z7 `oT v5),(`aQm),T3 `aQn,(`aQo),K5 4 `aQp,(`aQq),d7 `aQr,(`aQs),j4 `aQt,o2 `V `aS eqD,(`aQv),ob `aQw,X6 1 [] `AR `bJ noT `h',(`aQy),z7 `aQz v5,(`aQA),oA `aQB U9,zz0 `_Y,(`aQD),z7 `aQE v5,(`aQF),z7 `s! `aQG,(`aQH),T3 `aQI,(`aQJ),j5 `aQK,(`aQL),Y6 `aQM,o2 `V `ci eqD,(`aQO),ob `aQP,oA `mk U9,zz0 `_Z,(`aQS),z7 `aQT v5,z7 `__ `_0,(`aQV),T3 `aQW,(`aQX),j5 `aQY,(`aQZ),Y6 `aQ_,z7 `bI `_0,(`aQ1),z7 `JK `aQ2,(`aQ3),T3 `aQ4,(`aQ5),j5 `aQ6,(`aQ7),Y6 `aQ8,z7 `ay `JP,(`aQ'),oA `aQ! M5,oA `gR xl0,xd0 (N7 f60 `aj),(`aRb),ob `aRc,ob (N7 isInt `bI),(`aRe),yy0 `aRf,ob (N7 isBool `bI),gc (`d 256),(`aRi),u60 `ch `bI `aRj leD ltD,ob `_2,(`aRl),yy0 `aRm,(`aRh),(`aRn),zj0 `aRo `aRp,(`aRg),(`aRq),zj0 `aRr `aRs,rq0 `_L c60,(`aRu),rq0 `KZ `aRv,(`aRw),qc0 `dO `ch `aRx,(`aRy),qc0 `_E `aj `aRz,(`aRA),gq0 4 `aRB,Y4 4 v5 R6,p40 `_3 `JQ xh0,(`aRE),pw0 `aRF,Q8 4 (R7 4) `dO,(`aRH),plN `aRI,(`aRJ),o2 `aRK `s6 xh0,ob `_4,(`aRM),liftT `aRN,(`aRG),(`aRO),orT `aRP `aRQ,Q8 4 (R7 4) `KZ,(`aRS),f40 4 `aRT,(`aRU),o2 `aRV (oA `gR zu0) xh0,(`aRW),ob `aRX,j5 (o2 aG `aS m7),ds p S i P T n f s,by rw[zn0 c];rfl,match `h4 with|`a (`K_ δ')=>`K0|r=>r,(`aR1),match `dt with|`aJ=>`a (`K_ δ)|`cW=>`aR2|`c=>`c,(`aR3),
by rw[bz0,`bm J],is a b c w n `tX,is a b c w' n `tX,is a b xz0 w c s5,(`aR8),`fV (o2 aG `V m7),X8 (p:=p) (b:=`tU) rfl rfl hd,(`aR!),P0 `aR? rfl,(`aSa),j9 `aSb,by rw[p6 m2 rfl];rfl,(`aSd),va0 0 nG,o2 `aab `aS R0,o2 `aac `pn R0,(bs N).length,i+`aSi,by rw[m4 (N:=`po) rfl,`fb],s8 p S i P T kd sz c acc a `ps d,as.flatMap,s8 p S i P T kd sz c acc s5 s6 s7,acc++[(o,`Ll)],`d `Lm,(`aSp),`Ad ⟨v,hv,rfl⟩,by rw[ku0];exact pk.nd,(4*cnt pt+kn pt),4*`aSt,`aSu+3,(`aSv),b7 (ds:=`aaF) rfl,by rw[`aSx];exact J,`b&&(`b&&`b),zs0 `fd `t6,wk0 ul0 `g1 `pv `g2 `aQ,xt0 uh0 rk0 `fd L8 `iA,(`aSC),K7 `aSD w6,d9 `aQ `A7,K9 `aaJ,qq0 `kI `t7 `mL,(`aSH),O4 `aSI,oh0 `aaK,Z7 `aQ w6,j6 `Lx w6,K7 (Q6 w6 `A8) w6,K7 `aaL w6,(`aSO),T5 `aSP,C__law_next,Q3 0 `aSR `iC hr `t `t8,(`Ly:`g).Nodup,(`af:`aST),p7 0 `aSU,λcl s H ex=>`aSV,rn0 3 `es o4,λcl s H ex=>`mL,"_law_pair",(`Lz:`g).Nodup,(`af:`aS_),p7 0 `aS0,λcl s H ex=>`aS1,Z1 rv0 (p7 2 G9.nd),(`aS3),Z5 `aS4,kp0 `es (R8 0) o4,o7 us0 vj0 `aE z10,no0 `fd `mO,B5 (`aq:1<=2) hkk,o7 ti0 vx0 `aE w6,λ_ _ _ _=>`db,B5 (`aq:2<=2) hkk,C__law_told_name,(`aS?),Q3 0 `aTa `iC hr `aTb `t8,rl0 (sc:=`LA) (N:=`LB) (N':=`Lz) (n:=1) (caps:=[]) `g5 `t (w00 `fc) `aaO `mP `LC,G5 S9 wf0 `g2 `g1 `t6,(`aTe),rr0 `aTf,(`aTg),v7 `aTh u0,wj0 C__law_web hr `t (v7 `aQ `t5),O6 `es (R8 4) o4]
noncomputable section
open PySem
noncomputable def A0:=@PySem.wpAny_bind
noncomputable def A1:=@PySem.wpAny_pure
noncomputable def A2:=@List.mem_map
noncomputable def A3:=@Option.some.inj
noncomputable def A4:=@Nat.le_refl
noncomputable def A5:=@List.mem_cons_of_mem
noncomputable def A6:=@List.mem_cons_self
noncomputable def A7:=@List.mem_cons
noncomputable def A8:=@PySem.Heap.lt_size
noncomputable def A9:=@Bool.false_ne_true
noncomputable def B0:=@Nat.lt_of_lt_of_le
noncomputable def B3:=@Nat.ne_of_lt
noncomputable def B4:=@PySem.W.mg_of
noncomputable def B5:=@Nat.le_trans
noncomputable def B6:=@Ne.symm
noncomputable def B7:=@PySem.Heap.get?_push_of_some
noncomputable def B8:=@congrArg
noncomputable def B9:=@List.mem_range
noncomputable def C0:=@List.mem_append
noncomputable def C1:=@Nat.zero_le
noncomputable def C2:=@List.getElem?_eq_some_iff
noncomputable def C3:=@List.getElem?_eq_getElem
noncomputable def C4:=@Nat.ne_of_gt
noncomputable def C5:=@PySem.Heap.get?_push_size
noncomputable def C6:=@List.mem_append_left
noncomputable def C7:=@PySem.wpAny_holding
noncomputable def C8:=@List.mem_append_right
noncomputable def C9:=@PySem.wpAny_mono
noncomputable def D0:=@Nat.lt_irrefl
noncomputable def D2:=@PySem.PassesOwn.never
noncomputable def D3:=@PySem.W.mg_none_of
noncomputable def D4:=@List.mem_of_getElem?
noncomputable def D5:=@PySem.wpAny_specialOf
noncomputable def D6:=@Int.emod_nonneg
noncomputable def D7:=@decide_eq_true
noncomputable def D8:=@PySem.mem_of_lookup
noncomputable def D9:=@PySem.wpAny_field
noncomputable def E1:=@PySem.W.kia_one
noncomputable def E2:=@List.nodup_cons
noncomputable def E3:=@Nat.lt_trans
noncomputable def E4:=@PySem.wpAny_call_entry
noncomputable def E5:=@PySem.SeqAt.EqAt.same
noncomputable def E6:=@Nat.le_of_lt
noncomputable def E7:=@PySem.wpAny_passesOwn
noncomputable def E8:=@PyProof.Rows.callWith_type1
noncomputable def E9:=@PySem.wpAny_Call_Name_kw
noncomputable def G0:=@PySem.Heap.get?_update_other
noncomputable def I0:=@Nat.lt_of_le_of_lt
noncomputable def K0:=@PySem.Heap.get?_update_self
noncomputable def K2:=@Nat.le_add_right
noncomputable def L0:=@Int.emod_lt_of_pos
noncomputable def L1:=@List.mem_singleton
noncomputable def L3:=@PySem.wpAny_truthy_bool
noncomputable def L4:=@List.mem_filterMap
noncomputable def L5:=@PySem.Calls.spliced_cons
noncomputable def L6:=@PyProof.Rows.slot_tuple_getitem
noncomputable def L7:=@PySem.typeIs_str
noncomputable def L8:=@PySem.boot_len
noncomputable def L9:=@PySem.wpAny_updateSeq
noncomputable def M0:=@PySem.wpAny_rule
noncomputable def M1:=@of_decide_eq_true
noncomputable def N0:=@PySem.SeqAt.EqAt.int_str
noncomputable def N4:=@PySem.SeqAt.EqAt.str_int
noncomputable def N9:=@PySem.wpAny_seqItems
noncomputable def O0:=@beq_eq_false_iff_ne
noncomputable def P1:=@decide_eq_false
noncomputable def P3:=@PySem.Calls.spliced_nil
noncomputable def P4:=@PySem.wpAny_callSpecial?_slot
noncomputable def P5:=@PySem.wpAny_typeOf
noncomputable def P6:=@PySem.wpAny_newObj_type
noncomputable def P7:=@PySem.call_meets
noncomputable def P8:=@PySem.Heap.SameBut.update
noncomputable def P9:=@Array.getElem?_eq_getElem
noncomputable def Q1:=@List.cons.inj
noncomputable def Q2:=@Prod.mk.inj
noncomputable def S0:=@List.length_range
noncomputable def S1:=@decide_eq_decide
noncomputable def S2:=@Nat.pow_le_pow_right
noncomputable def S3:=@PySem.F.slot_NoneType_hash
noncomputable def S4:=@PySem.F.slot_tuple_hash
noncomputable def T0:=@PySem.SeqAt.EqAt.none_int
noncomputable def U1:=@PySem.SeqAt.EqAt.none_str
noncomputable def U2:=@PySem.SeqAt.EqAt.int_none
noncomputable def W1:=@PySem.SeqAt.EqAt.int_int
noncomputable def X0:=@PySem.SeqAt.EqAt.str_none
noncomputable def X1:=@PySem.SeqAt.EqAt.str_str
noncomputable def X2:=@List.mem_filter
noncomputable def X9:=@PySem.concat_meets
noncomputable def Y1:=@Eq.trans
noncomputable def Y2:=@Option.map_eq_some_iff
noncomputable def Y3:=@PySem.tupleKind_room_in1
noncomputable def b5:=@PySem.F.plainAttrs_list
noncomputable def b6:=@Nat.lt_succ_self
noncomputable def b9:=@List.length_eq_zero_iff
noncomputable def d5:=@PySem.F.slot_zip_next
noncomputable def d6:=@PySem.F.plain_extend_loop
noncomputable def g9:=@List.mem_map_of_mem
noncomputable def h7:=@List.mem_iff_getElem
noncomputable def h8:=@List.getElem_mem
noncomputable def h9:=@List.mem_flatMap
noncomputable def i3:=@Array.length_toList
noncomputable def i4:=@PySem.F.typeOf_object_class
noncomputable def i5:=@PySem.codeAny_builtin
noncomputable def i6:=@PySem.wpAny_pyHash_int
noncomputable def i7:=@PySem.wpAny_pyHash_str
noncomputable def i8:=@PySem.wpAny_forIn_list
noncomputable def i9:=@PySem.SeqAt.EqAt.none_tuple
noncomputable def j0:=@PySem.SeqAt.EqAt.int_tuple
noncomputable def j3:=@PySem.SeqAt.EqAt.str_tuple
noncomputable def m3:=@PySem.SeqAt.EqAt.of_refs
noncomputable def n0:=@PySem.SeqAt.RcAt.tuples
noncomputable def n5:=@PySem.wpAny_isInstance
noncomputable def n9:=@List.getElem_inj
noncomputable def o3:=@PySem.wpAny_execs_nil
noncomputable def p9:=@PySem.wpAny_standAt
noncomputable def r8:=@PySem.codeAny_mono
noncomputable def r9:=@List.of_mem_zip
noncomputable def t0:=@PySem.noFill_tuple_add
noncomputable def t9:=@PySem.seq_tuple_add
noncomputable def u1:=@PySem.F.slot_tuple_add
noncomputable def u2:=@PySem.F.entry_tuple_add
noncomputable def u3:=@PySem.F.args_tuple_add_2
noncomputable def u4:=@PySem.wpAny_sequenceKey
noncomputable def w4:=@PySem.SeqAt.EqAt.none_bool
noncomputable def w8:=@PySem.SeqAt.EqAt.bool_none
noncomputable def x0:=@PySem.SeqAt.EqAt.bool_bool
noncomputable def x3:=@PySem.SeqAt.EqAt.bool_int
noncomputable def x4:=@PySem.SeqAt.EqAt.bool_str
noncomputable def x5:=@PySem.SeqAt.EqAt.int_bool
noncomputable def x6:=@PySem.SeqAt.EqAt.str_bool
noncomputable def x9:=@PySem.Calls.callWith_builtin
noncomputable def y0:=@Nat.le_of_eq
noncomputable def y3:=@PySem.wpAny_loadPart'
noncomputable def y4:=@PySem.plainId_quiet
noncomputable def y6:=@PySem.wpAny_nextOf_list_item
noncomputable def y8:=@List.mem_of_mem_take
noncomputable def y9:=@List.nodup_append
noncomputable def z0:=@PySem.codeAny_call_builtin
noncomputable def A00:=@PySem.wpAny_callSpecialIfBoundUnlessNone?_slot
noncomputable def A30:=@List.ext_getElem
noncomputable def A40:=@List.getD_eq_getElem?_getD
noncomputable def A90:=@PySem.Calls.Name_function_global
noncomputable def Ah0:=@Nat.min_le_right
noncomputable def At0:=@PySem.wpAny_comprehension_free
noncomputable def Av0:=@Bool.eq_false_iff
noncomputable def B10:=@PySem.F.slot_list_append
noncomputable def B20:=@PySem.F.type_list_append
noncomputable def B90:=@PySem.SeqAt.RcAt.lists_lengths
noncomputable def Ba0:=@List.map_congr_left
noncomputable def Bd0:=@PySem.F.called_list
noncomputable def Be0:=@PySem.F.typeCall_list_1
noncomputable def Bf0:=@PySem.F.entry_list_init
noncomputable def Bh0:=@PySem.F.args_list_init_2
noncomputable def Bi0:=@Nat.lt_succ_of_lt
noncomputable def Bo0:=@Array.getElem?_eq_none
noncomputable def Br0:=@PySem.F.slot_int_mul
noncomputable def Bu0:=@List.findIdx?_eq_some_iff_getElem
noncomputable def Bv0:=@PySem.F.slot_dict_setdefault
noncomputable def Bx0:=@Classical.choose_spec
noncomputable def By0:=@List.map_fst_zip
noncomputable def C00:=@List.nodup_iff_pairwise_ne
noncomputable def C10:=@List.pairwise_map
noncomputable def C20:=@List.Pairwise.imp_of_mem
noncomputable def C30:=@List.nodup_range
noncomputable def C70:=@List.map_snd_zip
noncomputable def C90:=@List.all_eq_true
set_option Elab.async false
set_option linter.all false
set_option maxRecDepth 100000
variable{prog:`ak}{A:`bU}{E Q:`ao}{a it dx fa I z i1 i2 l1 l2:`e}{o e b c tg iter value elt ke ve:`G}{tl us:`Y}{od:`fe}{x y name qual x2 root:Str}{R:`aaP}{K:`y}{h' base:`Q}{i m t' j n k1 k2 x1 kd:Nat}{u vl vu:`E}{α β κ:Type}{pins:`an}{ch fp as as' ls:`aB}{N loose N' cs rs F pool T':`g}{s':`p}{pos pos' tpos apos p2 cpos py spos px pos2 np hp tp p0 lpos:Pos}{rest:`u}{ys:`aK}{es ifs elts:`a6}{body suite:`bY}{lo:`aX}{fd:`ff}{sc scope:`ca}{mg:`bq}{XP:`A!}{YP:`A?}{caps idx L:`j}{keys:`ud}{oa:Obj}{b₀:`bp}
namespace KfT
theorem sl:Slot `rk `aaQ "object.__getattribute__" := by
 refine .of (owner := "object") (n := `aaQ) ?_ `h2 `h2 `h2 ?_ ?_
 ·rw[`pB,`pC];kernel_rfl
 ·first|exact `m `h2|exact `l `h2
 ·rw[`LD];kernel_rfl
theorem lk:`n! `nE `GA=`b2 (`a (`LE)):=by
 rw[`pB,`pC];kernel_rfl
theorem ow:isSubtype `nE (`bh (".".intercalate ("object.__class__".cutAt '.').dropLast))=`x2:=by
 rw[F.owner_object_class,`LD];kernel_rfl
section
variable{P:`ak}{W:`R}{X:`ao}{s:`p}{f:`e}{y:Obj}
theorem gs(e:`cJ f=`dm)(c:`Ba)(q:R (.ok `aaR) s) :
  `hJ `Bb A (.call (`fx "getset_descriptor.__get__") ⟨[`LE,`x f,`wZ],[]⟩) R s:=by
 obtain⟨hh,gg,dd,tt,oo⟩:=s;have z1:`LF := `LG;have z2:=ow;refine z0 F.slot_gs_get.plain F.entry_gs_get (F.slot_gs_get.check _ _ _ _ _ _ _ _ i4 (F.args_gs_get _ _ _) ?_)
 repeat (any_goals (first|assumption|wp_step))
 refine⟨Code.quiet_builtin _ `h2,i5 F.entry_object_class ?_⟩
 repeat (any_goals (first|assumption|wp_step))
theorem ga{tk:Tok}{R:`aaS}(e:`cJ f=`dm)(c:`Ba)(q:R (`yY `aaR) s) :
  `o `Bb A (Builtin.«object.__getattribute__» ⟨[`x f,`aaT],[]⟩) R X s:=by
 obtain⟨hh,gg,dd,tt,oo⟩:=s;have z1:`LF := `LG;have z2:`U1 (`LE) "getset_descriptor" := i4;have z3:=lk;have z4:=i4;have z5:=F.slot_gs_get.lookup;have z6:=F.slot_gs_set.lookup
 repeat (any_goals (first|assumption|wp_step))
 refine gs e c ?_
 repeat (any_goals (first|assumption|wp_step))
variable{hh:`Q}{gg:`sM}{dd:Drawn}{tt:Nat}{oo:OsState}
theorem by'{tk:Tok}{R:`ao}(e:`aaU)(c:`Ba)(q:R `nE `w_):`o `Bb A (getAttrBy `eH (`aaT) `n) R X `w_:=by
 have z1:`LF := `LG;have z2:=sl.lookup;have z3:=sl.bind `eH
 repeat (any_goals (first|assumption|wp_step))
 refine z0 sl.plain F.entry_object_getattribute (sl.check _ _ _ _ _ _ _ _ z1 (F.args_object_getattribute_2 _ _) (ga e c ?_))
 repeat (any_goals (first|assumption|wp_step))
theorem at'{R:`ue}(e:`aaU)(c:`Ba)(q:R (`a `nE) ⟨hh,gg,dd,tt+1,oo⟩):`o `Bb A (getAttr? `eH `GA) R X `w_:=by
 unfold getAttr? getAttrBy?
 repeat (any_goals (first|assumption|with_reducible apply by' e c|wp_step))
universe zz
theorem kit{f:`e}:W.KitX K `eH `nE (W.KitAt f `rk):=W.kitx_of W.kitAt_ty λ{_ _ _ _ _ s} p k=>by
 obtain⟨hh,gg,dd,tt,oo⟩:=s;obtain⟨_,e,c⟩:=p;exact at' e c k
universe KfT
namespace L2
open Spec PyProof.Rows
abbrev Key:=`HE
noncomputable def q00:Key->`aaV
 | `m k,v=>`aaW k v
 | `kL,v=>`aaX x v
variable{ks:`aaY}
noncomputable def S10(w:`R):Key->Int
 | `m k=>hashInt k
 | `kL=>hashStr w x
theorem M8:∀{k:Key} {v:`E},q00 k v=`b->(∃i t,k=`jF i/\v=`U2)∨(∃x t,k=`nF x/\v=`w0 x t)
 | `m i,v,h=>by
  obtain⟨t,e⟩:=Value.isInt_shape (k:=i) (v:=v) h;exact `aaZ
 | `kL,v,h=>by
  obtain⟨t,e⟩:=Value.isStrOf_shape (x:=x) (v:=v) h;exact `l ⟨x,t,rfl,e⟩
theorem ff0(i:Int)(t:Tok):q00 (`m i) `rN=`b:=by simp[q00,`aaW]
theorem d30(x:Str)(t:Tok):q00 (`kL) `Bc=`b:=by simp[q00,`aaX]
theorem Vh0(a b:Int):`D (`LH=`jF b)=(`g7):=by
 by_cases e:a=b
 ·subst e;simp
 ·have h:¬`LH=`jF b:=λq=>e (Sum.inl.inj q)
  rw[`iH];exact(`uf e).symm
theorem Vk0(a b:Str):`D (`LI=`nF b)=`D (a=b):=by
 by_cases e:a=b
 ·subst e;simp
 ·have h:¬`LI=`nF b:=λq=>e (Sum.inr.inj q)
  rw[`iH,`Bd]
theorem Xy0(a:Int)(b:Str):`D (`LH=`nF b)=`n:=`aa_
theorem W40(a:Str)(b:Int):`D (`LI=`jF b)=`n:=`aa_
noncomputable def Q4(prog:`ak)(w:`R):PySem.KeyKind `jG w Key where
 is:=q00
 hash:=S10 w
 inj:=λv a b ha hb=>by
  rcases M8 ha with⟨i,t,rfl,rfl⟩|⟨x,t,rfl,rfl⟩
  ·rcases M8 hb with⟨j,u,rfl,e⟩|⟨y,u,rfl,e⟩
   ·injection e with e1 _;rw[e1]
   ·exact nomatch e
  ·rcases M8 hb with⟨j,u,rfl,e⟩|⟨y,u,rfl,e⟩
   ·exact nomatch e
   ·injection e with e1 _;rw[e1]
 byValue:=λk v h=>by
  rcases M8 h with⟨i,t,rfl,rfl⟩|⟨x,t,rfl,rfl⟩<;>rfl
 pyHash:=λhv h=>by
  rcases M8 hv with⟨i,t,rfl,rfl⟩|⟨x,t,rfl,rfl⟩
  ·exact i6 h
  ·exact i7 h
 eqBool:=λhu hv h=>by
  rcases M8 hu with⟨i,t,rfl,rfl⟩|⟨x,t,rfl,rfl⟩
  ·rcases M8 hv with⟨j,u,rfl,rfl⟩|⟨y,u,rfl,rfl⟩
   ·rw[Vh0] at h;exact wpAny_eqBool_int h
   ·rw[Xy0] at h;exact N0 i t y u _ _ _ _ h
  ·rcases M8 hv with⟨j,u,rfl,rfl⟩|⟨y,u,rfl,rfl⟩
   ·rw[W40] at h;exact N4 x t j u _ _ _ _ h
   ·rw[Vk0] at h;exact wpAny_eqBool_str h
 «strs»:=λk x t v h=>by
  rcases M8 h with⟨i,u,rfl,e⟩|⟨y,u,rfl,e⟩
  ·exact nomatch e
  ·injection e with e1 _
   subst e1;cases v<;>rfl
theorem jr0(prog:`ak)(w:`R)(i:Int)(t:Tok):`aa0 (`m i) `rN=`b:=ff0 i t
theorem jw0(prog:`ak)(w:`R)(x:Str)(t:Tok):`aa0 (`kL) `Bc=`b:=d30 x t
inductive V where
 | non|bl (b:`M)|int (i:Int)|str (x:Str)|byt (b:`aa1)|flt (b:UInt64)|ref (a:`e)|ty (n:`ck)
 deriving DecidableEq
variable{v:L2.V}{vs xs dvs:`GW}{σ:`aa2}{kvs:`aa3}
noncomputable def RelV:V->`XA
 | `z,u=>u=`s1
 | `ct,u=>u=`xO b
 | `aR,u=>`LJ
 | `cc,u=>`aa4
 | .byt b,u=>∃t,u=Value.bytes b t
 | .flt b,u=>∃t,u=Value.float b t
 | `dp,u=>u=`j6
 | .ty n,u=>u=`h1 n
abbrev Vals:`K->`Y->Prop:=`a4 `cI
theorem Vals.length(r:`c4):`av=`kM:=`LK r
theorem Vals.get:∀{xs:`K} {us:`Y} {i:Nat} {x:V},`c4->`lz->∃u,us[i]?=`a!/\`fH
 | _,_,_,_,`J,e=>`Be
 | _,_,0,_,`LL,e=>`LM
 | _,_,i+1,x,`kN,e=>by
  obtain⟨u,h1,h2⟩:=Vals.get (i:=i) (x:=x) t `pD;exact`LN
theorem Vals.set{x:V}(r:`fH):∀{xs:`K} {us:`Y} (i:Nat),`c4->`br (xs.set i x) (us.set i u)
 | _,_,_,`J=>`J
 | _,_,0,`kN=>`c5
 | _,_,i+1,`X q t=>`X q (Vals.set r i t)
theorem Vals.append:∀{xs ys:`K} {us ws:`Y},`c4->`aa5->`br `xy (us++ws)
 | _,_,_,_,`J,s=>s
 | _,_,_,_,`c5,s=>`X r (`aa6 t s)
theorem Vals.take:∀{xs:`K} {us:`Y} (n:Nat),`c4->`br `aa7 (`za n)
 | _,_,0,_=>`J
 | _,_,_+1,`J=>`J
 | _,_,n+1,`c5=>`X r (Vals.take n t)
theorem Vals.drop:∀{xs:`K} {us:`Y} (n:Nat),`c4->`br (`pE n) (`Ja n)
 | _,_,0,r=>r
 | _,_,_+1,`J=>`J
 | _,_,n+1,`kN=>Vals.drop n t
noncomputable def RelO:`cr->`lh->Prop
 | `cb,`a!=>`eO
 | `c,`c=>`f7
 | _,_=>`bt
noncomputable def KV{κ:Type}:`et->`pF->Prop:=`a4 λ(p:`w1) (q:κ×`E)=>p.1=q.1/\`aa8
noncomputable def kV:Key->V
 | `m i=>`aR
 | `kL=>`cc
inductive SubO where
 | lst (xs:`K)|dK (kvs:`ej)|ins (C dx:`e) (fs:`LO)
variable{so:`rm}{sub:`aa9}{sos:`O `rm}
inductive HO where
 | deep (sub:`pG)
 | lst (xs:`K)
 | tup (xs:`K)
 | dK (kvs:`ej)|dT (kvs:`g8)|dX (kvs:`O (Nat×V))
 | set (S:Int->`M) (n:Nat)
 | ins (C dx:`e) (fs:`LO)
 | own (x:`e)
 | xd (fs:`LO)
 | met (f x:`e)
 | rng (lo hi:Int)
 | frz (o:Obj) (u:HO)
 | tbl (ps:`aK)
 | ext (φ:`rj)
abbrev Hp:=`e->`pH
noncomputable def upd(H:Hp)(a:`e)(o:HO):Hp:=λb=>if b=a then `ab else H b
variable{H H' H2 H₀:L2.Hp}
theorem n6{o:HO}:upd H a o a=`ab:=by unfold upd;rw[`bx]
theorem m9{b:`e}{o:HO}(h:`j'):upd H a o b=H b:=by unfold upd;rw[`fg]
theorem Vx0{b:`e}{o u:HO}(h:`sf)(h':`ug)(d:o≠u):a≠b:=by
 intro e;subst e;rw[h] at h';exact d (A3 h')
theorem V0{b:`e}{o:HO}(h:`sf)(h':`cs):a≠b:=by
 intro e;subst e;rw[h] at h';cases h'
noncomputable def IsTupN(h:`Q)(a:`e)(items:`aK):Prop:=∃o,`w3/\`Bf/\∃n,`nJ=`aa'/\`Bg
theorem IsTupN.tup{h:`Q}{items:`aK}(x:IsTupN h a `ap):`rV h a `ap:=let ⟨o,e,c,n,d,_⟩:=x;⟨o,e,c,n,d⟩
theorem IsTupN.new(h:`Q)(items:`aK):IsTupN (h.push { cls:=`eJ,data:=`bB `ap }) `d2 `ap:=`LP
noncomputable def qOf(ps:`aK):Str:=match (ps[0]?:`lh) with
 | `a (`s q _)=>q
 | _ => ""
noncomputable def TabOk(H:Hp)(h:`Q)(a:`e)(q:Str):Prop:=∃cont:`aK,`fz=`a { cls:=`Z,data:=`ro cont }/\TriplesOk `aa! /\
 ∀pos cv,codeAmong pos `aa!=`a cv->∃c oc vs tq,cv=`Bh/\H c=`a (`fA oc (`gr c))/\oc.data=`Bi/\vs[1]?=`a (`s q tq)
section
variable(P:`ak)(w:`R)
noncomputable def SubOk(H:Hp)(h:`Q)(a b:`e):`co->Prop
 | `cu=>`fh/\∃(its:`Y) (n:Nat),`iI/\`lm=`xC
 | `r2=>`nG/\(b==`w2)=`n/\∃vs,`hz/\`U6 `nI b vs
 | `lU=>b=a/\`aa?/\`aba/\dx≠a/\`abb /\
   `abc
noncomputable def ObjOk(H:Hp)(h:`Q)(a:`e):HO->Prop
 | `cu=>`fh/\∃(its:`Y) (n:Nat),`iI/\`fz=`xC
 | `c'=>`fh/\∃its:`Y,`iI/\IsTupN h a `bP
 | `r2=>`LQ
 | `Wi=>`nG/\`nH/\∃xs:`mQ,
   `a4 (λ(p:`eI×V) (q:`U8)=>`abd) kvs xs /\
   ∃o es ep,`w3/\`LR/\`LS/\es.toList=`rp (`Bj `LT)/\`abe
 | .dX _=>`bt
 | .set S n=>h.SetOf (intKind P w) a S n
 | `lU=>`aa?/\`aba/\dx≠a/\`abb /\
   `abc
 | `ov sub=>(`Bk)/\∀p∈sub,`abf
 | `gr _=>`Bk
 | .xd fs=>∃mA,h.Ns1 a mA/\`U5
 | .rng lo hi=>∃t u v,`fz=`a `G5
 | `fA o u=>`w3/\`b3 H h a u
 | `GI=>`U!
 | .met f x=>`fz=`a (`Va `eH (`x x))
 | .ext φ=>φ h/\(`Bk)/\∀h1 h2:`Q,φ h1->(∀o,`LU a=`ab->h2.get? a=`ab)->φ h2
noncomputable def HOk(H:Hp)(h:`Q):Prop:=∀a o,`sf->`LV
universe zz
section
variable{P:`ak}{w:`R}{h:`Q}{o:HO}
theorem ObjOk.lt(x:`LV):a<`d2:=by
 cases o with
 | lst xs=>obtain⟨_,_,_,_,e⟩:=x;exact `c?
 | tup xs=>obtain⟨_,_,_,p⟩:=x;exact p.tup.lt
 | dK kvs=>obtain⟨_,_,_,_,o,_,_,e,_⟩:=x;exact `c?
 | dT kvs=>obtain⟨_,_,_,_,o,_,_,e,_⟩:=x;exact `c?
 | dX kvs=>exact `fJ x
 | set S n=>obtain⟨o,_,_,_,e,_⟩:=x;exact `c?
 | ins C dx fs=>obtain⟨_,_,_,e,_⟩:=x;exact `c?
 | own y=>obtain⟨_,e⟩:=x;exact `c?
 | xd fs=>obtain⟨_,⟨_,_,_,e,_⟩,_⟩:=x;exact `c?
 | rng lo hi=>obtain⟨_,_,_,e⟩:=x;exact `c?
 | frz ob u=>obtain⟨e,_⟩:=x;exact `c?
 | tbl ps=>obtain⟨_,e,_⟩:=`abg;exact `c?
 | met f y=>exact A8 (show `fz=`a _ from x)
 | ext φ=>obtain⟨_,⟨_,e⟩,_⟩:=x;exact `c?
 | deep sub=>obtain⟨⟨_,e⟩,_⟩:=x;exact `c?
theorem Paired.mapP{F G:`g9}:∀{l₁:`a5} {l₂:`hO},`a4 F l₁ l₂->(`LW)->`a4 G l₁ l₂
 | _,_,`J,_=>`J
 | _,_,`c5,f=>`X (f _ _ r) (`LX t f)
theorem SubOk.stay{b:`e}(x:`w4 P w H h a b so)(hb:`GE)(k:`abh)
  (ho:`abi):`w4 P w H' h' a b so:=by
 cases so with
 | lst xs=>obtain⟨z,its,n,r,e⟩:=x;exact⟨z,its,n,r,`abj⟩
 | dK kvs=>obtain⟨z,y,vs,r,ob,es,ep,e,c⟩:=x;exact⟨z,y,vs,r,ob,es,ep,`abj,c⟩
 | ins C dx fs =>
  obtain⟨rfl,d,z,ne,e,mA,⟨od,es,ep,e2,c⟩,r⟩:=x;exact⟨rfl,ho _ d,z,ne,`eL,mA,`abk,r⟩
theorem ObjOk.stay(x:`LV)(k:`abh)
  (ho:`abi) (ht:`Bl) (hf:∀b ob u,H b=`LY->`eK=`LY):`b3 P w H' h' a o:=by
 induction o with
 | lst xs=>obtain⟨z,its,n,r,e⟩:=x;exact⟨z,its,n,r,`eL⟩
 | tup xs=>obtain⟨z,its,r,ob,e,c⟩:=x;exact⟨z,its,r,ob,`eL,c⟩
 | dK kvs=>obtain⟨z,y,vs,r,ob,es,ep,e,c⟩:=x;exact⟨z,y,vs,r,ob,es,ep,`eL,c⟩
 | dT kvs =>
  obtain⟨z,y,xs,r,ob,es,ep,e,c⟩:=x;exact⟨z,y,xs,`LX r λp q z=>`abl,ob,es,ep,`eL,c⟩
 | dX kvs=>exact `fJ x
 | set S n=>obtain⟨ob,es,ep,t,e,c⟩:=x;exact⟨ob,es,ep,t,`eL,c⟩
 | ins C dx fs =>
  obtain⟨d,z,ne,e,mA,⟨od,es,ep,e2,c⟩,r⟩:=x;exact⟨ho _ d,z,ne,`eL,mA,`abk,r⟩
 | own y=>obtain⟨ob,e⟩:=x;exact⟨ob,`eL⟩
 | xd fs=>obtain⟨mA,⟨od,es,ep,e,c⟩,r⟩:=x;exact⟨mA,⟨od,es,ep,`eL,c⟩,r⟩
 | rng lo hi=>obtain⟨t,u,v,e⟩:=x;exact⟨t,u,v,`eL⟩
 | frz ob u ih=>obtain⟨e,q⟩:=x;exact⟨`eL,ih q⟩
 | tbl ps =>
  obtain⟨cont,e,t,c⟩:=`abg;exact⟨cont,`abm,t,λpos cv q=>let ⟨c',oc,vs,tq,z1,z2,z3⟩:=c pos cv q;⟨c',oc,vs,tq,z1,hf _ _ _ z2,z3⟩⟩
 | met f y =>
  have e:`fz=`abn:=x;show `gs a=`abn;exact `abm
 | ext φ=>obtain⟨p,⟨o,e⟩,st⟩:=x;exact⟨st _ _ p λo q=>k _ _ `gt q,`abo,st⟩
 | deep sub=>obtain⟨⟨o,e⟩,q⟩:=x;exact⟨`abo,λp hp=>⟨(q p hp).1.imp id (ho _),(q p hp).2.stay (q p hp).1 k ho⟩⟩
theorem HOk.lt(x:`dU)(e:`sf):a<`d2:=(x a o e).lt
theorem HOk.fresh(x:`dU)(e:`LZ):`Bm:=by
 cases q:H a with
 | none=>rfl
 | some u=>exact `I (B0 (x.lt q) e) `iJ
theorem HOk.kept(x:`dU)(k:`Bn):HOk P w H h':=λa o e =>
 (x a o e).stay (λb u _ q=>`w6) `GQ (`rv) `nS
theorem HOk.laid(x:`dU)(k:`Bn)(hp:`LZ)(new:`b3 P w `gN h' a o):HOk P w `gN h':=λb u e=>by
 have hn:=x.fresh hp
 by_cases hb:b=a
 ·subst hb;rw[n6] at e;cases e;exact new
 ·rw[m9 hb] at e
  exact`L_ `abp (λc q=>`uh) (λc xs q=>`uh) λc ob u' q=>`uh
universe zz
noncomputable def Rd(H:Hp)(a:`e)(u:HO):Prop:=H a=`a!∨∃o,H a=`GH
theorem Rd.ok{P:`ak}{w:`R}{h:`Q}{u:HO}(r:Rd H a u)(x:`dU):`abq:=by
 rcases r with r|⟨o,r⟩
 ·exact x a u r
 ·obtain⟨_,q⟩:=x a _ r
  exact q
noncomputable def Mut:`pH->Prop
 | `a (`iK)=>`f7
 | `a (.dK _)=>`f7
 | `a (.dT _)=>`f7
 | `a (.dX _)=>`f7
 | `a (.set _ _)=>`f7
 | `a (.ins _ _ _)=>`f7
 | `a (.ext _)=>`f7
 | `a (`ov _)=>`f7
 | _=>`bt
section
variable{P:`ak}{w:`R}{h:`Q}{x e:`e}{o':HO}
theorem HOk.write(ok:`dU)(mu:`L0)(he:`L1)(k:`abr)(heo:`L2)
  (new:`b3 P w (upd H x o') h' x o'):HOk P w (upd H x o') h':=λb u q=>by
 have J:∀c y,H c=`L3->c≠x:=λc y r z=>`L4
 have M:∀c xs,H c=`ln->c≠x:=λc xs r z=>`L4
 have O:∀c ob u',H c=`L5->c≠x:=λc ob u' r z=>`L4
 by_cases hb:b=x
 ·subst hb;rw[n6] at q;cases q;exact new
 ·rw[m9 hb] at q
  by_cases hbe:b=e
  ·have q':H b=`Vc:=by
    rcases he with z|z
    ·exact `I (hbe.trans z) hb
    ·rw[hbe];exact z
   rw[q] at q';cases q';obtain⟨v,hv⟩:=heo;exact⟨v,by rw[hbe];exact hv⟩
  ·refine(ok b u q).stay (λc v hc r=>k c v ?_ r) (λc r=>by rw[m9 (J c b r)];exact r) (λc xs r=>by rw[m9 (M c xs r)];exact r) λc ob u' r=>by rw[m9 (O c ob u' r)];exact r
   rcases hc with rfl|hc
   ·exact hbe
   ·rintro rfl
    rcases he with z|z
    ·exact J c b hc z
    ·rw[hc] at z;cases z;exact hb rfl
universe zz
structure Un(fs ex:`aB)(H H':Hp)(h h':`Q):Prop where
 keep:∀b o,`fF->`cs->b∉fs->`ui->`nR
 slot:∀b o,`fF->`cs->b∈fs->`ui->`abs
 free:∀b o,`fF->`cs->`ui->`nQ
 there:∀b o,`fF->`ui->`abt
 tups:`Bl
 frzs:`L6
 tbls:`abu
section
variable{fs fs' ex ex':`aB}{H1:Hp}{h h1 h2:`Q}{x e:`e}{o:HO}
theorem Un.any(u:Un fs ex H H1 h h1){b:`e}{ob:Obj}(q:`lm=`Bo)(n:`cs)(hx:`ui):∃sl,`LU b=`a { ob with slots:=sl }:=by
 by_cases hb:b∈fs
 ·exact u.slot b ob q n hb hx
 ·exact⟨ob.slots,u.keep b ob q n hb hx⟩
theorem Un.kept(k:`Bn):Un fs ex H H h h' :=
 ⟨λb ob q _ _ _=>`L7,λb ob q _ _ _=>⟨ob.slots,`L7⟩,λ_ _ _ n _=>n,λb ob q _=>⟨ob,`L7⟩,`rv,`nS,λ_ ps q=>⟨#[],`Ht⟩⟩
theorem Un.refl:Un fs ex H H h h:=`Bp `rv
theorem Un.laid(k:`Bn)(hp:`LZ)(hn:`Bm):Un fs ex H `gN h h' where
 keep:=`abv
 slot:=`abw
 free:=λb u q n _=>by rw[m9 (B3 (B0 (A8 q) hp))];exact n
 there:=`abx
 tups:=λb xs q=>`uh
 frzs:=λb u xs q=>`uh
 tbls:=λb ps q=>⟨#[],by rw[`Vb,q];simp⟩
theorem Un.write(mu:`L0)(he:`L1)(k:`abr)(heo:`L2):Un fs ex H `L8 h h':=by
 have hx:∀b,`cs->b≠x:=λb n z=>by subst z;rw[n] at mu;exact mu
 have hb:∀b,`cs->b≠e:=λb n z=>by
  subst z;rcases he with r|r
  ·exact hx b n r
  ·rw[n] at r;cases r
 have hm:∀b u,`ug->¬Mut (`a!)->b≠x:=λb u q nm z=>by subst z;rw[q] at mu;exact nm mu
 refine⟨λb u q n _ _=>`aby,λb u q n _ _=>⟨u.slots,`aby⟩,λb u q n _=>by rw[m9 (hx b n)];exact n,λb u q _=>?_,
  λb xs q=>`abz,λb u xs q=>`abz,λb ps q=>⟨#[],by rw[`Vf,q];simp⟩⟩
 by_cases hbe:b=e
 ·subst hbe;exact heo
 ·exact⟨u,k b u hbe q⟩
universe zz
noncomputable def trk(h:`Q)(H:Hp):`aB:=(`b6 `d2).filter λa=>(H a).isSome
noncomputable def tn0(h:`Q)(H:Hp):`Q:=W.hideAll h (trk h H)
theorem fa0(h:`Q)(H:Hp):(tn0 h H).objs.size=`d2:=W.hideAll_size _ _
theorem cn0{h:`Q}{b:`e}{o:Obj}(e:`fF)(n:`cs):`abA :=
 W.hideAll_get _ e λhm=>by
  have q:(H b).isSome=`b:=(X2.mp hm).2;rw[n] at q;simp at q
theorem X50{h:`Q}{b:`e}{o:Obj}(e:`abA):`fF/\`cs:=by
 have e':`fF:=W.of_hideAll (trk h H) e;refine⟨e',?_⟩;cases q:H b with
 | none=>rfl
 | some x =>
  have hm:b∈trk h H:=X2.mpr ⟨`en (A8 e'),by simp[q]⟩;have z:`Vg=`c:=W.hideAll_none (trk h H) hm;rw[z] at e;cases e
universe L2
variable{v:L2.V}{vs xs dvs:`GW}{H H' H2 H₀:L2.Hp}{so:`rm}{σ:`aa2}{ks:`aaY}{kvs:`aa3}{sub:`aa9}{sos:`O `rm}
namespace L2
open Spec PyProof.Rows
structure Mod(K:`y)(mg:`bq)(base:`Q):Prop where
 kin:`L9
 glob:`uj
 blt:∃mb,base.Ns `L' mb/\`abB
 nolimit:base.NoLimit
structure Cx where
 prog:`ak
 w:`R
 K:`y
 mg:`bq
 base:`Q
 A:`bU
 N:`g
 s₀:`p
 H₀:Hp
 env:Env
 outer:`eu
 stack:`eu
 ex:`aB
 fn:Str->`M
 calm:`M
 pn:`an
 xe:`ao
variable{X:L2.Cx}
noncomputable def frs(l:`eu):`aB:=l.filterMap (·.frame)
abbrev Cx.fs(X:Cx):`aB:=frs `pI
noncomputable def Vis(sc:`ca)(x:Str):Prop:=`Vh∨`GL∨`rt x=`iL
noncomputable def Loc(sc:`ca)(x:Str):Prop:=`abC
noncomputable def Look(env:Env)(h:`Q)(m:`bq)(x:Str)(u:`E):Prop :=
 (`xU=`jH/\m x=`a!)∨((`xU=`gv∨`xU=`iL)/\∃c,`xR x=`c!/\h.IsCell c (`a!))
structure Cx.Ok(X:Cx):Prop where
 mod:`abD
 kind:`x0=`lN
 glob:`L!=`aa
 blt:X.env.builtins=`L'
 above:`lr<=`dE
 inj:∀x y c,`gx->`abE->x=y
 has:∀x,(`x1=`gv∨`x1=`iL)->∃c,`gx
 cab:∀x c,`GT->`gx->`lr<=c
 hd:`bz->X.A.handled=`c
 frames:X.A.frames=`a `gy
 stk:`gy=`pI∨(`gy=`A::`pI/\X.env.frame=`a `dE)
 exf:∀b∈`lq,`nP/\`Vj
 bs:∀b o,`uk->`L?/\`abF
 bsz:X.base.objs.size<=`lr
 noex:∀b o,`uk->b∉`lq
 exfs:∀b∈`lq,`Bq
 funs:`abG `d4 `pI
 frf:∀b∈`fB,`abF
structure Inv(X:Cx)(pins:`an)(σ:`Ma)(H:Hp)(s:`p):Prop where
 ok:X.Ok
 os:s.os=X.s₀.os
 bare:`rz `pJ
 base:Un `fB `lq X.H₀ H X.s₀.heap `aw
 loc:∃m,`abH/\∀(i:Nat) (x:Str) (v:V),`cD->`ul->`fi->∃u,`eO/\Look `A `aw m x u
 cell:∀x c,`gx->∃v,`abI
 free:H `dE=`c
 freeC:∀x c,`gx->H c=`c
 pin:∀p∈`w9,`abJ
 hok:HOk `aU X.w H `aw
 len:`GR=X.N.length
section
variable{s:`p}
theorem Cx.Ok.nofr(ok:X.Ok){b:`e}{o:Obj}(e:`uk):`Bq:=λhb=>by
 have:=(ok.funs.mem hb).1;rw[e] at this;cases `C
theorem Inv.bs(I:`w):∀b o,`uk->`abK:=λb o e =>
 ⟨`GO b o (`Br).1 (`Br).2 (I.ok.nofr e) `abL,`w' b o (`Br).1 (`Br).2 `abL⟩
theorem Inv.bk(I:`w):∀b o,`uk->`fC:=λb o e=>(I.bs b o e).1
theorem Inv.mod(I:`w):`abD:=I.ok.mod
theorem Inv.kIn(I:`w):X.K.In `aw:=I.ok.mod.kin.keeps I.bk
theorem Inv.lt(I:`w):`dE<`_:=let ⟨_,hn,_⟩:=`eM;hn.lt
theorem Inv.sz(I:`w):`lr<=`_:=B5 `xa (E6 I.lt)
theorem Inv.nofs(I:`w)(h:`Bs):a∉`fB:=λhb=>by
 obtain⟨_,o,ho,_⟩:=`abM;exact `I (B0 (A8 ho) (B5 I.sz h)) `iJ
theorem Inv.cne(I:`w):∀x c,`gx->c≠`dE:=λx c e z=>by
 obtain⟨v,o,ho,hd⟩:=`Bt;obtain⟨m,⟨o',es,ep,M,J,_⟩,_⟩:=`eM;rw[z,M] at ho;cases ho;rw[J] at hd;cases hd
theorem Inv.funs(I:`w):`Bu `d4 `pI:=by
 have all:∀(l:`eu),(∀b∈frs l,b∈`fB)->`abG `d4 l->`Bu `d4 l:=by
  intro l
  induction l with
  | nil=>intro _ _;trivial
  | cons env r ih =>
   intro hs hl;obtain⟨hk,⟨L,o,hf,hn,ho,hd⟩,hr⟩:=hl;have hL:L∈`fB:=hs L (by unfold frs;rw[`Bv,hf];exact A6);obtain⟨sl,e⟩:=`GP L o ho (I.ok.frf L hL) hL λz=>I.ok.exfs L z hL
   exact⟨hk,⟨L,_,hf,hn,e,hd⟩,ih (λb hb=>hs b (by unfold frs;rw[`Bv,hf];exact `Bw)) hr⟩
 exact all `pI (λ_ hb=>hb) I.ok.funs
theorem Inv.stack(I:`w):`Bu `d4 `gy:=by
 rcases I.ok.stk with e|⟨e,hf⟩
 ·rw[e];exact I.funs
 ·rw[e]
  obtain⟨m,hn,_⟩:=`eM;refine `X (by rw[`iM];decide) hf hn ?_ I.funs;exact Heap.get?_none_of_le (B5 I.ok.bsz `xa)
theorem Inv.stkSub(I:`w):∀b∈`um,b∈`dE::`fB:=λb hb=>by
 rcases I.ok.stk with e|⟨e,hf⟩
 ·rw[e] at hb;exact `Bw
 ·rw[e] at hb
  unfold frs at hb;rw[`Bv,hf] at hb;exact hb
theorem Inv.stkFree(I:`w):∀b∈`um,`cs:=λb hb=>by
 rcases `be (I.stkSub b hb) with e|hb
 ·rw[e];exact `fj
 ·obtain⟨_,o,ho,_⟩:=`abM
  exact `w' b o ho (I.ok.frf b hb) λz=>I.ok.exfs b z hb
theorem Inv.step{g':`sM}{t':Nat}{d':Drawn}{ch:`aB}(I:`w)
  (hch:∀b∈ch,`Mb)
  (keep:∀b o,`nP->`Bq->`un->`fC->`cs->`nR)
  (slot:∀b o,`nP->b∈`fB->`un->`fC->`cs->`abs) (free:∀b o,`un->`fC->`abN)
  (there:∀b o,`un->`fC->`abt)
  (tups:`Bl) (frzs:`L6) (tbls:`abu)
  (ns:∀m,`abH->h'.Ns `dE m) (hok:`Mc) (hg:`rz g') :
  `abO:=by
 have U:∀b o,`L?->`nP:=λb o e=>B3 (B0 `nT `xa)
 have M:∀b o,`L?->b∉`lq->`un:=λb o e hx hb=>by
  rcases (hch b hb).1 with z|z
  ·exact hx z
  ·exact `I (B0 `nT z) `iJ
 have O:∀x c,`gx->∀v,`abI->h'.IsCell c v:=λx c e v ⟨o,ho,hd⟩=>by
  have J:c∉ch:=`abP
  by_cases hc:c∈`fB
  ·obtain⟨sl,q⟩:=slot c o (I.cne x c e) hc J ho `Bx
   exact⟨_,q,hd⟩
  ·exact⟨o,keep c o (I.cne x c e) hc J ho `Bx,hd⟩
 refine⟨I.ok,`kO,hg,⟨`w?,`w?,λb o e n hx=>?_,`Vq,λb xs e=>tups b xs (`GU b xs e),λb o xs e=>frzs b o xs (`GV b o xs e),λb ps e=>?_⟩,?_,`By,?_,`By,`g',hok,`jJ⟩
 ·exact keep b o (U b o e) hb `Bz `Md `BA
 ·obtain⟨sl,e1⟩:=`Me
  obtain⟨Y,e2⟩:=slot b _ (U b o e) hb `Bz e1 `BA;exact⟨Y,e2⟩
 ·obtain⟨o',e1⟩:=`BB
  exact free b o' `Bz e1 `BA
 ·obtain⟨o',e1⟩:=`BB
  exact there b o' `Bz e1
 ·obtain⟨m1,e1⟩:=`abQ
  obtain⟨m2,e2⟩:=tbls b _ e1;exact⟨m1++m2,by rw[e2,Array.append_assoc]⟩
 ·obtain⟨m,hn,hl⟩:=`eM
  refine⟨m,ns m hn,`abR⟩;obtain⟨u,r,l⟩:=hl i x v e1 e2 e3;refine⟨u,r,?_⟩;rcases l with l|⟨k,c,e,z⟩
  ·exact `m l
  ·exact `l ⟨k,c,e,O x c e _ z⟩
 ·obtain⟨v,z⟩:=`Bt
  exact⟨v,O x c e v z⟩
 ·obtain⟨m,⟨o,_,_,ho,_⟩,_⟩:=`eM
  exact free _ o (`abS) ho `fj
 ·obtain⟨v,o,ho,hd⟩:=`Bt
  exact free c o (`abP) ho `Bx
 ·obtain⟨e,n,ne,nf,d⟩:=`uo
  have J:p.1∉ch:=λz=>(hch p.1 z).2.2.2 p hp rfl
  exact⟨keep p.1 p.2 ne nf J e n,free p.1 p.2 J e n,ne,nf,d⟩
theorem Inv.un(I:`w)(u:Un `fB [] H H' `aw h')(hok:`Mc):Inv X `h σ H' `lt:=by
 obtain⟨m,⟨o,es,ep,ho,r⟩,_⟩:=`Mf;obtain⟨sl,hL⟩:=u.any ho `fj `aO;exact `BC (g':=`pJ) (d':=`BD) (ch:=[]) (λ_ z=>nomatch z) (λb o _ hb _ e n=>u.keep b o e n hb `aO) (λb o _ hb _ e n=>u.slot b o e n hb `aO) (λb o _ e n=>u.free b o e n `aO) (λb o _ e=>u.there b o e `aO) u.tups u.frzs u.tbls (λm' hm=>by
  obtain⟨o',O,M,J,r'⟩:=hm;rw[ho] at J;cases J;exact`abT) hok `f8
theorem Inv.call{g':`sM}{t':Nat}{d':Drawn}(I:`w)(u:Un (`um) ch H H' `aw h')(hok:`Mc)(hg:`rz g')
  (hch:∀b∈ch,`Mb) :
  `abO:=by
 obtain⟨m,⟨o,es,ep,ho,r⟩,_⟩:=`Mf;obtain⟨sl,hL⟩:=u.any ho `fj `abS
 exact `BC (ch:=ch) hch (λb o hL hb hc e n=>u.keep b o e n (λz=>(`be (I.stkSub b z)).elim hL hb) hc) (λb o _ _ hc e n=>u.any e n hc) (λb o hc e n=>u.free b o e n hc) (λb o hc e=>u.there b o e hc) u.tups u.frzs u.tbls (λm' hm=>by
  obtain⟨o',O,M,J,r'⟩:=hm;rw[ho] at J;cases J;exact`abT) hok hg
theorem Inv.turned{t':Nat}(I:`w)(k:∀b o,b≠it->`sU)(hn:H it=`c)(hL:it≠`dE)
  (h1:it∈`lq∨`lr<=it) (h2:∀x c,`gx->c≠it) (h3:∀p∈`w9,p.1≠it):`Mg:=by
 have J:∀b u,`ug->b≠it:=λb u e z=>by rw[z,hn] at e;cases e
 refine `BC (g':=`pJ) (d':=`BD) (ch:=[it]) (`f9) (λb o _ _ hc e _=>`Mh) (λb o _ _ hc e _=>⟨o.slots,`Mh⟩) `abU
  (λb o hc e=>⟨o,`Mh⟩) (`Mi) (λ_ _ _ e=>e) `abV (λm hm=>?_) (`Mj) `f8
 ·have e:b=it:=`g!
  subst e;exact⟨h1,hL,h2,h3⟩
 ·obtain⟨o,es,ep,ho,r⟩:=hm
  exact⟨o,es,ep,k _ o (B6 hL) ho,r⟩
 ·refine`abW
  rcases hc with z|z
  ·rw[z];exact J b u e
  ·exact J c _ z
theorem Inv.tok(I:`w)(t:Nat):Inv X `h σ H { s with toks:=t }:=I.un (h':=`aw) (t':=t) Un.refl `bQ
theorem Inv.kept(I:`w)(k:`Mk):`Mg:=I.un (`Bp k) (I.hok.kept k)
theorem Inv.laid{o:HO}{t':Nat}(I:`w)(k:`Mk)(hp:`Bs)(new:`b3 `aU X.w `gN h' a o) :
  Inv X `h σ `gN `lt:=I.un (Un.laid k hp (`rY hp)) (I.hok.laid k hp new)
theorem Inv.write{x e:`e}{o:HO}{t':Nat}(I:`w)(mu:`L0)(he:`L1)(k:∀b u,b≠e->`Vo)(heo:`L2)
  (new:`b3 `aU X.w `L8 h' x o):Inv X `h σ `L8 `lt:=I.un (Un.write mu he k heo) (I.hok.write mu he k heo new)
theorem Inv.weak{σ':`Ma}(I:`w)(hl:`Ml)(w:∀(i:Nat) v,σ'[i]?=`lp->`ul):Inv X `h σ' H s :=
 ⟨I.ok,`kO,`f8,`BE,let ⟨m,hn,hl'⟩:=`eM;⟨m,hn,λi x v e1 e2 e3=>hl' i x v e1 (w i v e2) e3⟩,`hA,`fj,`jI,`ls,`bQ,hl.trans `jJ⟩
theorem Inv.pins_of{pins':`an}(I:`w)(h:∀p∈pins',`abJ):Inv X pins' σ H s :=
 ⟨I.ok,`kO,`f8,`BE,`eM,`hA,`fj,`jI,λp hp=>`abX (λz=>`ls p (C6 _ z)) (h p),`bQ,`jJ⟩
theorem lx0(hN:`Mm)(a:N[i]?=`cn)(b:N[j]?=`cn):i=j:=by
 obtain⟨h1,e1⟩:=`eN a;obtain⟨h2,e2⟩:=`eN b;exact(n9 hN).mp (e1.trans e2.symm)
theorem me0{M:`pK}{A:`bU}{E:`ao}{Q:`up}(I:`w)(hN:`fk)(hi:`cD)(hx:`mR)(r:`eO)
  (h:∀s',`abY->(∃a,`ry a `aw `lB/\(a=`dE∨`GM x=`jY))->`Mn) (hf:`mS:=by first|exact `b4|exact `bA|assumption):`abZ:=by
 obtain⟨m,hn,hl⟩:=`Mf;have a1:(`x0==.class||(`x0==.module&&`dE != `L!))=`n:=by rw[`iM];rfl
 have hiσ:i<`GR:=by rw[`jJ];exact`Mo
 have cne:=I.cne;have J:∀{a:`e} {h':`Q},(∃o,`Mp/\`Bm)->`ab_->HOk `aU X.w H h':=λ{a h'} ha hs b ob e=>by
  obtain⟨_,_,O⟩:=ha;refine(`bQ b ob e).stay (λc w' hc q=>(`hB c ?_).trans q) `GQ (`rv) `nS
  rintro rfl;rcases hc with rfl|hc
  ·rw[O] at e;cases e
  ·rw[O] at hc;cases hc
 rcases hx with hk|hk
 ·refine wpAny_storeName_local hk hn (λh' a2 hs=>?_) a1
  obtain⟨oL,_,_,a3,_⟩:=id hn;refine h _ ⟨I.ok,`kO,`f8,`ab0,⟨_,a2,`ab1⟩,λy c e=>?_,`fj,`jI,`g',J ⟨oL,a3,`fj⟩ hs,`ab2⟩ ⟨_,hs,`b4⟩
  ·exact`Mq `Md
  ·obtain⟨sl,e1⟩:=`Me
   exact⟨sl,`Mq e1⟩
  ·obtain⟨o',e1⟩:=`BB
   exact⟨o',`Mq e1⟩
  ·by_cases hj:j=i
   ·subst hj
    rw[hi] at e1;cases e1;rw[`ab3] at e2;cases e2;exact⟨u,r,`m ⟨hk,`bs⟩⟩
   ·rw[`Mr] at e2
    obtain⟨u',r',q⟩:=`ab4;refine`ab5;rcases q with⟨k,e⟩|⟨k,c,e,z⟩
    ·refine `m ⟨k,?_⟩
     have:y≠x:=λe=>hj (lx0 hN e1 (e▸hi))
     simp[`C,e]
    ·exact `l ⟨k,c,e,`ab6⟩
  ·obtain⟨w',z⟩:=`hA y c e
   exact⟨w',`ab6⟩
  ·obtain⟨e,n,ne,nf,d⟩:=`uo
   exact⟨(`hB p.1 ne).trans e,n,ne,nf,d⟩
 ·have U:`GT:=by
   rcases hf with z|z
   ·exact z
   ·rw[z] at hk;cases hk
  obtain⟨c,hc⟩:=`Ms x (`m hk);obtain⟨w',z⟩:=`hA x c hc;refine wpAny_storeName_cell `iM hk hc z (λh' Z hs=>?_);obtain⟨oc,Y,a0⟩:=id z;refine h `gA ⟨I.ok,`kO,`f8,`ab0,⟨m,`ab7 hs (B6 (cne x c hc)),`ab1⟩,λy c' e=>?_,`fj,`jI,`g',J ⟨oc,Y,`jI x c hc⟩ hs,`ab2⟩ ⟨c,hs,`l hc⟩
  ·exact`Mt `Md
  ·obtain⟨sl,e1⟩:=`Me
   exact⟨sl,`Mt e1⟩
  ·obtain⟨o',e1⟩:=`BB
   exact⟨o',`Mt e1⟩
  ·by_cases hj:j=i
   ·subst hj
    rw[hi] at e1;cases e1;rw[`ab3] at e2;cases e2;exact⟨u,r,`l ⟨`m hk,c,hc,Z⟩⟩
   ·rw[`Mr] at e2
    obtain⟨u',r',q⟩:=`ab4;refine`ab5;rcases q with q|⟨k,c',e,z'⟩
    ·exact `g?
    ·refine `l ⟨k,c',e,z'.sameBut hs ?_⟩
     rintro rfl;exact hj (lx0 hN e1 (I.ok.inj _ _ _ e hc▸hi))
  ·by_cases hcc:c'=c
   ·subst hcc;exact⟨_,Z⟩
   ·obtain⟨w2,z2⟩:=`hA y c' e
    exact⟨w2,z2.sameBut hs hcc⟩
  ·obtain⟨e,n,ne,nf,d⟩:=`uo
   refine⟨(`hB p.1 ?_).trans e,n,ne,nf,d⟩;intro q;rw[q,Y] at e;have q':oc=p.2:=`kP;exact d w' (by rw[← q'];exact a0)
theorem j60{M:`pK}{A:`bU}{E:`ao}{Q:`up}(I:`w)(hN:`fk)(hi:`cD)(hx:`mR)(r:`eO)
  (h:∀s',`abY->`Mn) (hf:`mS:=by first|exact `b4|exact `bA|assumption):`abZ :=
 me0 I hN hi hx r (λs' I' _=>h s' I') hf
theorem Inv.call'(I:`w)(ho:`ab8)(u:Un (`um) ch H H' `aw `lB)(hok:HOk `aU X.w H' `lB)(hg:`Hs)
  (hch:∀b∈ch,`Mb):`iN:=by
 obtain⟨h',g',d',t',o'⟩:=s';have e:o'=s.os:=ho;subst e;exact I.call (g':=g') (t':=t') (d':=d') u hok hg hch
universe zz
abbrev XK:=`E->`fe->`fD
abbrev St:=`Ma
abbrev VK:=`Mu
abbrev TE:=St->`xl
variable{r:`ab9}
abbrev TT:=St->Hp->(`uq)->Prop
variable{ta tb te tv td ty:L2.TE}
abbrev TA:=St->Hp->(`xZ)->Prop
structure Ends where
 nx:`gz
 rt:VK
 bk:`gz:=λ_ _=>`bt
 ct:`gz:=λ_ _=>`bt
abbrev TS:=Ends->`gz
noncomputable def EP(X:Cx)(pins:`an)(σ:St)(Q:VK)(u:`E)(s':`p):Prop:=∃v H',`iN/\`ab'
noncomputable def TP(X:Cx)(pins:`an)(σ:St)(Q:`uq)(b:`M)(s':`p):Prop:=∃H',`iN/\Q b H'
noncomputable def AP(X:Cx)(pins:`an)(σ:St)(Q:`xZ)(us:`Y)(s':`p):Prop:=∃vs H',`iN/\`ur/\`BF
noncomputable def SP(X:Cx)(pins:`an)(D:Ends)(f:Flow)(s':`p):Prop :=
 match f with
 | `xV=>∃σ' H',`lw/\`nX σ' H'
 | .brk=>∃σ' H',`lw/\D.bk σ' H'
 | .cont=>∃σ' H',`lw/\D.ct σ' H'
 | `fy u=>∃v σ' H',`lw/\`eO/\D.rt v H'
noncomputable def PE(X:Cx)(e:`G)(t:TE):Prop :=
 ∀(pins:`an) (s:`p) (σ:St) (H:Hp) (Q:VK),`w->`j_->`o `ac X.A (`xp) `eW `aA s
noncomputable def PT(X:Cx)(e:`G)(t:TT):Prop :=
 ∀(pins:`an) (s:`p) (σ:St) (H:Hp) (Q:`uq),`w->`j_->`o `ac X.A (`xc e `A (`xp)) `Mv `aA s
noncomputable def PW(X:Cx)(e:`G)(t:TT):Prop :=
 ∀(whole:Sem `E) (pins:`an) (s:`p) (σ:St) (H:Hp) (Q:`uq),`w->`j_->`o `ac X.A (`Vu) `Mv `aA s
theorem PW.pt{t:TT}(h:PW X e t):`Mw:=h _
noncomputable def PA(X:Cx)(es:`a6)(t:TA):Prop :=
 ∀(pos:Pos) (pins:`an) (s:`p) (σ:St) (H:Hp) (Q:`xZ),`w->`j_->`o `ac X.A (`us (`Ha)) (AP X `h σ Q) `aA s
noncomputable def PS(X:Cx)(st:`bp)(t:TS):Prop :=
 ∀(pins:`an) (s:`p) (σ:St) (H:Hp) (D:Ends),`w->t D σ H->`o `ac X.A (exec st `A) (SP X `h D) `aA s
noncomputable def PSs(X:Cx)(st:`bY)(t:TS):Prop :=
 ∀(pins:`an) (s:`p) (σ:St) (H:Hp) (D:Ends),`w->t D σ H->`o `ac X.A (execs st `A) (SP X `h D) `aA s
theorem thn{t:Sem α}{Q Q':α->`dD}{M:`pK}{s:`p}(h:`o M A t Q E s)(hQ:∀a s,Q a s->Q' a s):`o M A t Q' E s:=C9 h hQ `BG
section
noncomputable def Tv0(i:Nat):TE:=fun σ H Q=>∃v,`ul/\Q v H
noncomputable def tC(v:V):TE:=λ_ H Q=>Q v H
theorem ym0(hN:`cD)(hv:`fi)(hd:`aY:=by decide)(hcd:`fl:=by decide):PE X `jK (Tv0 i):=by
 intro pins s σ H Q I h;obtain⟨v,e,h⟩:=h;obtain⟨m,hn,hl⟩:=`eM;obtain⟨u,r,l⟩:=hl i x v hN e hv;have M:EP X `h σ Q u s:=`Mx;rcases l with⟨hk,hm⟩|⟨hk,c,hc,J⟩
 ·exact `My (wpAny_loadName_local `iM hk hn hm M) hd
 ·rcases hk with hk|hk
  ·exact `My (wpAny_loadName_cell `iM hk hc J M) hd
  ·exact `My (wpAny_loadName_free `iM hk hc J M hcd) hd
theorem Vl0{i j pos}:PE X (`kQ `dG j pos) (tC `dG):=λ_ _ _ H _ I h=>wpAny_Constant_int ⟨`aR,H,`dq,`ag,h⟩
theorem Ux0{b j pos}:PE X (`kQ (`BH) j pos) (tC `tf):=λ_ _ _ H _ I h=>Constant_bool ⟨`ct,H,I,rfl,h⟩
theorem Wy0{j pos}:PE X (`kQ `Z j pos) (tC `z):=λ_ _ _ H _ I h=>Constant_none ⟨`z,H,I,rfl,h⟩
theorem Wo0{x j pos}:PE X (`kQ `iO j pos) (tC `iO):=λ_ _ _ H _ I h=>Calls.Constant_str ⟨`cc,H,`dq,`ag,h⟩
noncomputable def Gl(X:Cx)(x:Str):Prop:=`x1=`a .globalImplicit
theorem g10{E:`ao}{s:`p}{σ:St}{pos:Pos}(I:`w)(hg:`cE)(hm:`nU=`a!)(h:Q u s)
  (hd:`aY:=by decide):`ab! :=
 A90 `iM hg (Calls.loadGlobal_global `ab? hm h) hd
theorem wh0{E:`ao}{s:`p}{σ:St}{pos:Pos}(I:`w)(hg:`cE)(hm:`iP)(hv:`lo=`a!)(h:Q u s)
  (hn:`gu := by decide) (hd:`aY:=by decide):`ab!:=by
 obtain⟨mb,h1,h2⟩:=I.mod.blt;exact A90 `iM hg (Calls.loadGlobal_builtin `ab? hm (by rw[I.ok.blt];exact h1.keeps I.bk) ((h2 x hn).trans hv) h) hd
theorem h40(hg:`cE)(hm:`nU=`a!)(r:`eO)(hd:`aY:=by decide):`aca :=
 λ_ _ _ H _ I h=>g10 I hg hm `Mx hd
theorem Zr0(hg:`cE)(hm:`iP)(hv:`lo=`a!)(r:`eO)(hn:`gu := by decide)(hd:`aY:=by decide):`aca :=
 λ_ _ _ H _ I h=>wh0 I hg hm hv `Mx hn hd
variable{a:`G}
noncomputable def PC(X:Cx)(op:`f')(a b:`G)(t:TE):Prop :=
 ∀(pins:`an) (s:`p) (σ:St) (H:Hp) (Q:VK),`w->`j_ ->
  `o `ac X.A (`G6) (λv s₁=>`o `ac X.A `acb (λu s₂=>`o `ac X.A (`cK op v u) `eW `aA s₂) `aA `d?) `aA s
noncomputable def tB(t:TE):TT:=fun σ H Q=>t σ H λx H1=>∃c,x=.bl c/\Q c H1
theorem Xx0{op:`f'}{t:TE}(h:`acc)(h1:`kR:=by first|exact `acd|rfl):PE X `mT t:=λpins s σ H Q I hw=>`ace `acf h1
theorem Ve0{op:`f'}{t:TE}(h:`acc)(h1:`kR:=by first|exact `acd|rfl):PT X `mT (tB t):=by
 intro pins s σ H Q I hw;refine `acg (thn `Mz λv s1 h1=>thn h1 λu s2 h2=>thn h2 λc s3 ⟨x,H1,I1,r1,q1⟩=>?_) h1;obtain⟨d,rfl,q⟩:=q1;cases r1;exact `ach
theorem V80{t:TE}(h:PE X e t)(he:`aci:=by intro _;rfl):PT X e (tB t):=by
 intro pins s σ H Q I hw;refine isTrue_plain (thn `Mz `rE) (he _);obtain⟨d,rfl,q⟩:=q1;cases r1;exact `ach
variable{tA tB':TT}{rest:`a6}
noncomputable def Td0(t u:TT):TT:=fun σ H Q=>t σ H λc H1=>if c=`b then u σ H1 Q else Q `n H1
noncomputable def tOr(t u:TT):TT:=fun σ H Q=>t σ H λc H1=>if c=`b then Q `b H1 else u σ H1 Q
noncomputable def Tw0(t:TT):TT:=fun σ H Q=>t σ H `acj
theorem Y40(ha:`ut):PW X `ack tA:=by
 intro wh pins s σ H Q I h;refine `acl `acm;cases c with
 | true=>exact isTrue_and_nil e
 | false=>exact e
theorem ee0(ha:`ut):PW X `MA tA:=by
 intro wh pins s σ H Q I h;refine isTrue_or `acm;cases c with
 | false=>exact isTrue_or_nil e
 | true=>exact e
theorem Wj0(ha:`ut)(hb:PW X `BI tB'):PW X `BJ (Td0 tA tB'):=by
 intro wh pins s σ H Q I h;refine `acl `acn;cases c with
 | true=>exact `aco
 | false=>exact`acp
theorem ag0(ha:`ut)(hb:PW X `MB tB'):PW X `MC (tOr tA tB'):=by
 intro wh pins s σ H Q I h;refine isTrue_or `acn;cases c with
 | true=>exact`acp
 | false=>exact `aco
theorem Xw0(ha:`ut):PT X `acq (Tw0 tA):=by
 intro pins s σ H Q I h;exact isTrue_not (ha `h s σ H (`acj) I h)
noncomputable def U60(ta tb:TE):TE:=fun σ H Q=>ta σ H λx H1=>∃c,x=.bl c/\if c=`b then tb σ H1 Q else Q `sb H1
theorem W80{op}{t:TE}(h:PE X a t):PE X `acr t:=λpins s σ H Q I hw=>BoolOp_one `acf
theorem X90(ha:`kS)(hb:PE X `BI tb):PE X `BJ (U60 ta tb):=by
 intro pins s σ H Q I h;refine BoolOp_and (`acs);obtain⟨c,rfl,q1⟩:=q1;cases r1;refine L3 ?_;cases c with
 | true=>exact hb `h s1 σ H1 Q I1 q1
 | false=>exact⟨`xd,H1,I1,rfl,q1⟩
universe zz
noncomputable def SqL(K:`y)(H:Hp)(a:`e)(xs:`K):Prop :=
 `HI ∨
  ∃(o:Obj) (its:`aK) (n:Nat),`BK/\`rn=`cp/\`Bg/\`act
noncomputable def SqT(K:`y)(H:Hp)(a:`e)(xs:`K):Prop :=
 Rd H a `nL ∨
  ∃(o:Obj) (its:`aK) (n:Nat),`BK/\`Bf/\`act
noncomputable def S40:`E->`cr
 | `Z=>`a `z
 | `BH=>`a `tf
 | `d i _=>`zH
 | `s x _=>`a `iO
 | .bytes b _=>`a (.byt b)
 | .float b _=>`a (.flt b)
 | `dp=>`lV
 | `bh n=>`a (.ty n)
 | _=>`c
theorem RelV.abs{x:V}(r:`fH):S40 u=`cn:=by
 cases x with
 | non=>cases r;rfl
 | bl _=>cases r;rfl
 | int _=>obtain⟨t,rfl⟩:=r;rfl
 | str _=>obtain⟨t,rfl⟩:=r;rfl
 | byt _=>obtain⟨t,rfl⟩:=r;rfl
 | flt _=>obtain⟨t,rfl⟩:=r;rfl
 | ref _=>cases r;rfl
 | ty _=>cases r;rfl
theorem RelV.inj{x y:V}(r:`fH)(q:`dV):x=y:=A3 (r.abs.symm.trans q.abs)
theorem Vals.inj:∀{xs ys:`K} {us:`Y},`c4->`br ys us->xs=ys
 | _,_,_,`J,`J=>rfl
 | _,_,_,`c5,`X r' t'=>by rw[`MD,Vals.inj t t']
section
variable{σ:St}{s:`p}{ys:`K}
theorem Inv.list(I:`w)(h:`acu):∃its:`Y,`iI/\PlainL `aw a `bP/\`fh:=by
 rcases h with h|⟨o,its,n,hk,hc,hd,hs,hz,r⟩
 ·obtain⟨z,its,n,r,e⟩:=`acv
  exact⟨its,r,⟨_,n,e,rfl,rfl,rfl⟩,z⟩
 ·refine⟨`xf,r,⟨o,n,`acw,hc,hd,`acx⟩,?_⟩
  have e:=`cw;simp only[`BL] at e;omega
theorem Inv.tuple(I:`w)(h:`acy):∃its:`Y,`iI/\`rV `aw a `bP/\`fh:=by
 rcases h with h|⟨o,its,n,hk,hc,hs,hz,r⟩
 ·obtain⟨z,its,r,p⟩:=`acv
  exact⟨its,r,p.tup,z⟩
 ·refine⟨`xf,r,⟨o,`acw,hc,n,`acx⟩,?_⟩
  have e:=`cw;simp only[`BL] at e;omega
theorem Inv.list_inj(I:`w)(h:`acu)(h':SqL X.K H a ys):xs=ys:=by
 obtain⟨its,r,⟨o,n,e,_,_,d⟩,_⟩:=`d9 h;obtain⟨J,r',⟨o',n',e',_,_,d'⟩,_⟩:=`d9 h';rw[e] at e';cases e';rw[d] at d';injection d' with d1 _
 have:its=J:=`acz
 subst this;exact `MD
theorem Inv.tuple_inj(I:`w)(h:`acy)(h':SqT X.K H a ys):xs=ys:=by
 obtain⟨its,r,⟨o,e,_,n,d⟩,_⟩:=`d7 h;obtain⟨J,r',⟨o',e',_,n',d'⟩,_⟩:=`d7 h';rw[e] at e';cases e';rw[d] at d';injection d' with d1 _
 have:its=J:=`acz
 subst this;exact `MD
universe zz
abbrev Cx.wish(X:Cx)(E:`ao):Cx:={ X with xe:=E }
abbrev Cx.nox(X:Cx):Cx:=X.wish `xX
theorem Cx.Ok.wish(ok:X.Ok)(E:`ao):`acA :=
 `acB
theorem Cx.Ok.unwish(ok:`acA):X.Ok :=
 `acB
section
variable{σ:St}{s:`p}
theorem Inv.wish(I:`w)(E:`ao):`acC:=⟨I.ok.wish E,`kO,`f8,`BE,`eM,`hA,`fj,`jI,`ls,`bQ,`jJ⟩
theorem Inv.unwish(I:`acC):`w:=⟨I.ok.unwish,`kO,`f8,`BE,`eM,`hA,`fj,`jI,`ls,`bQ,`jJ⟩
theorem SP.unwish{D:Ends}{f:Flow}(h:SP (X.wish E) `h D f s'):SP X `h D f s':=by
 cases f with
 | next=>obtain⟨σ',H',I,q⟩:=h;exact`ME
 | brk=>obtain⟨σ',H',I,q⟩:=h;exact`ME
 | cont=>obtain⟨σ',H',I,q⟩:=h;exact`ME
 | ret u=>obtain⟨v,σ',H',I,r,q⟩:=h;exact⟨v,σ',H',`VA,r,q⟩
theorem PSs.nox{st:`bY}{t:TS}(h:PSs X.nox st t):PSs X st t:=λpins s σ H D I hw =>
 C9 (h `h s σ H D (I.wish _) hw) (λ_ _ q=>q.unwish) λ_ _ z=>`fJ z
universe zz
section
variable{st:`bp}{rest:`bY}{t u:TS}
noncomputable def Ug0:TS:=λD σ H=>`H1
noncomputable def Xt0(t u:TS):TS:=λD σ H=>t `MF σ H
theorem og0:PSs X [] Ug0:=λ_ _ σ H _ I h=>o3 `acD
theorem xu0(h1:PS X st t)(h2:PSs X `ax u):PSs X (st::`ax) (Xt0 t u):=by
 intro pins s σ H D I h;refine wpAny_execs_cons (thn (h1 `h s σ H `MF I h) λf s1 q=>?_);cases f with
 | next =>
  obtain⟨σ',H',I',q⟩:=q;exact h2 `h s1 σ' H' D I' q
 | ret v=>exact q
 | brk=>exact q
 | cont=>exact q
theorem Inv.quiet{σ:St}{s:`p}(I:`w):`acE `A=`n:=by simp[`acE,`iM]
noncomputable def Uv0(te:TE):TS:=λD σ H=>te σ H λ_ H1=>`acF
theorem Zy0(he:`fm)(hs:`acG:=by rfl):PS X (.Expr e pos) (Uv0 te):=by
 intro pins s σ H D I h;exact wpAny_Expr_any (thn `n_ λv s1 ⟨x,H1,I1,r1,q1⟩=>⟨σ,H1,I1,q1⟩) I.quiet hs
noncomputable def Tl0(te:TE):TS:=λD σ H=>te σ H D.rt
theorem si0(he:`fm):PS X `mU (Tl0 te):=by
 intro pins s σ H D I h;exact wpAny_Return_some (thn `n_ λv s1 ⟨x,H1,I1,r1,q1⟩=>⟨x,σ,H1,I1,r1,q1⟩)
noncomputable def Ty0(c:TT)(t u:TS):TS:=λD σ H=>c σ H λb H1=>if b=`b then t D σ H1 else u D σ H1
theorem gy0{a b:`bY}{tc:TT}(hc:PT X c tc)(ha:PSs X a t)(hb:PSs X b u):PS X (.If c a b pos) (Ty0 tc t u):=by
 intro pins s σ H D I h;refine wpAny_If (thn (hc `h s σ H _ I h) λd s1 ⟨H1,I1,q1⟩=>?_);cases d with
 | true=>exact ha `h s1 σ H1 D I1 q1
 | false=>exact hb `h s1 σ H1 D I1 q1
noncomputable def Xm0:TS:=`iQ
theorem zh0{sts:`bY}:PSs X sts Xm0:=λ_ _ _ _ _ _ h=>`kT
universe zz
abbrev TG:=V->`acH
abbrev TGs:=`K->`acH
noncomputable def PG(X:Cx)(target:`G)(t:TG):Prop :=
 ∀(pins:`an) (s:`p) (σ:St) (H:Hp) (v:V) (u:`E) (Q:`gz),`w->`eO->`acI ->
  `o `ac X.A (`eQ `xY `A u) `acJ `aA s
noncomputable def PGs(X:Cx)(ts:`a6)(t:TGs):Prop :=
 ∀(pins:`an) (s:`p) (σ:St) (H:Hp) (vs:`K) (us:`Y) (Q:`gz),`w->`ur->t vs σ H Q ->
  `o `ac X.A (assignInOrder ((`jM ts `A).map `cv) us) `acJ `aA s
abbrev gs0:=`MG
noncomputable def j80(X:Cx)(t:gs0):Prop :=
 ∀(pins:`an) (s:`p) (σ:St) (H:Hp) (o i v:V) (ov iv u:`E) (Q:`fD),`w->`cI o ov->`cI i iv->`eO->t o i v H Q ->
  `o `ac X.A (`xh ov iv u) (λ_ s'=>∃H',`iN/\Q H') `aA s
noncomputable def a70(i:Nat):TG:=λv σ H Q=>Q `rx H
theorem qe0(hN:`fk)(hi:`cD)(hx:`mR)(hf:`mS:=by first|exact `b4|exact `bA|assumption):PG X `jK (a70 i):=by
 intro pins s σ H v u Q I r h;exact `acK (j60 I hN hi hx r (λs' I'=>⟨_,H,I',h⟩) hf)
noncomputable def Ti0:TGs:=λvs σ H Q=>vs=[]/\Q σ H
noncomputable def Uo0(t:TG)(u:TGs):TGs:=λvs σ H Q=>∃v r,vs=v::r/\t v σ H fun σ' H'=>u r σ' H' Q
theorem Yf0:PGs X [] Ti0:=by
 intro pins s σ H vs us Q I r h;obtain⟨e,h⟩:=h;subst e;cases r;exact assignInOrder_nil `acD
theorem jp0{t:TG}{u:TGs}(h1:PG X e t)(h2:PGs X es u)
  (hs:(`jM `fI `A).map `cv=`eQ e `A::(`MH).map `cv:=by rfl):PGs X `fI (Uo0 t u):=by
 intro pins s σ H vs us Q I r h;obtain⟨v,vr,e1,h⟩:=h;subst e1;cases r with
 | cons r rr =>
  rw[hs];refine assignInOrder_cons (thn (h1 `h s σ H _ _ _ I r h) λ_ s1 ⟨σ1,H1,I1,q1⟩=>?_);exact h2 `h s1 σ1 H1 _ _ Q I1 rr q1
noncomputable def Tq0(K:`y)(n:Nat)(t:TGs):TG:=λv σ H Q=>∃a xs,`gH/\`kU/\`av=n/\t xs σ H Q
theorem V40{k:Nat}{t:TGs}{n:Nat}(hc:`bz)(h:PGs X es t)
  (hn:(`MH).length=n:=by rfl) (hst:(`MH).findIdx? `bj=`c:=by rfl):PG X (`mb es k pos) (Tq0 X.K n t):=by
 intro pins s σ H v u Q I r hw;obtain⟨a,xs,e1,hq,hl,hw⟩:=hw;subst e1;cases r;obtain⟨its,rv,ht,hz⟩:=`ha;refine assign_Tuple_tuple `iR ht (by simp[hn,← hl,`l4]) hst λh' hx=>?_
 have I1:`BM:=I.kept (t':=`bu) λb o e=>hx b o `acL e
 exact h `h _ σ H xs _ Q I1 (`acM) hw
noncomputable def Tu0(to ti:TE)(t:gs0):TG:=λv σ H Q=>to σ H λo H1=>ti σ H1 λi H2=>t o i v H2 λH3=>Q σ H3
theorem pd0{i:`G}{to ti:TE}{t:gs0}(ho:`MI)(hi:PE X i ti)(hs:j80 X t)
  (ha:∀v,`eQ `MJ `A v=(do
   let ov ← `MK
   let iv ← `nV [v,ov] (`bR i `A)
   `uu
   `uv
   `uw):=by intro _;rfl):PG X `MJ (Tu0 to ti t):=by
 intro pins s σ H v u Q I r h;rw[ha];refine A0 (C7 (thn `xI λov s1 ⟨x,H1,I1,r1,q1⟩=>?_));refine A0 (C7 (thn `acN λiv s2 ⟨y,H2,I2,r2,q2⟩=>?_));refine A0 (p9 (A0 (C7 (thn (hs `h s2 σ H2 x y v ov iv u _ I2 r1 r2 r q2) λ_ s3 ⟨H3,I3,q3⟩=>?_))));exact wpAny_release ⟨σ,H3,I3,q3⟩
noncomputable def Xs0(te:TE)(g:TG):TS:=λD σ H=>te σ H λx H1=>g x σ H1 `nX
theorem kn0{g:TG}(he:`fm)(hg:PG X tg g)(hs:`ML:=by rfl)(hw:`MM:=by rfl)
  (h1:`MN:=by rfl):PS X `MO (Xs0 te g):=by
 intro pins s σ H D I h;refine wpAny_Assign_stores (thn `n_ `rE) hs hw;rw[h1];exact thn (hg `h s1 σ H1 x v _ I1 r1 q1) λ_ s2 q=>q
theorem Vi0(hN:`fk)(hi:`cD)(hx:`mR)(he:`fm)(hs:`rG e (`a (`acO)) `rH `A=`rI:=by rfl)(hf:`mS:=by first|exact `b4|exact `bA|assumption) :
  PS X (`nZ [`acO] e pos) (Xs0 te (a70 i)):=by
 intro pins s σ H D I h;refine wpAny_Assign_Name (`acP) hs;exact j60 I1 hN hi hx r1 (λs2 I2=>⟨_,H1,I2,q1⟩) hf
noncomputable def W30(c:TT)(tb:TS):TS:=λD σ H=>∃W:`acQ,(∃m,W m σ H)/\∀m σ H,W m σ H ->
 c σ H λb H1=>if b=`b then ∃N:`gz,(∀σ' H',N σ' H'->∃m',m'<m/\W m' σ' H')/\tb `acR σ H1 else `acF
theorem jg0{tc:TT}{tb:TS}(hp:`pL)(hc:PT X c tc)(hb:`acS):PS X `MP (W30 tc tb):=by
 intro pins s σ H D I h;obtain⟨W,⟨m0,w0⟩,J⟩:=h;refine wpAny_While (codeAny_whileLoop (λn s'=>∃σ' H',`lw/\W n σ' H') ?_ m0 ⟨σ,H,I,w0⟩);rintro n s1 ⟨σ1,H1,I1,w1⟩;refine E7 hp (thn (hc `h s1 σ1 H1 _ I1 (J n σ1 H1 w1)) λb s2 ⟨H2,I2,q2⟩=>?_);cases b with
 | true =>
  obtain⟨N,hN,q2⟩:=q2;rw[`bx];refine E7 hp (thn (hb `h s2 σ1 H2 _ I2 q2) λf s3 q3=>?_);cases f with
  | next =>
   obtain⟨σ3,H3,I3,n3⟩:=q3;obtain⟨m',hm,w3⟩:=`acT;exact`acU
  | cont =>
   obtain⟨σ3,H3,I3,n3⟩:=q3;obtain⟨m',hm,w3⟩:=`acT;exact`acU
  | brk=>exact q3
  | ret v=>exact q3
 | false =>
  rw[`hb];exact o3 ⟨σ1,H2,I2,q2⟩
structure It where
 go:`acV
 yld:Nat->Hp->`Mu
 stop:`acV
noncomputable def ua0(X:Cx)(pins:`an)(H:Hp)(b:`e):Prop :=
 `cs/\`nP/\`Bq/\`Vk/\`Vl
theorem Inv.fpOk{σ:St}{s:`p}{b:`e}(I:`w)(hb:`_<=b)(hn:`nQ):`MQ:=by
 refine⟨hn,C4 (B0 I.lt hb),I.nofs hb,`l (B5 I.sz hb),`acW,`acX⟩
 ·obtain⟨v,q⟩:=`Bt
  exact `I (B0 q.lt `acY) `iJ
 ·exact `I (B0 (A8 (`uo).1) `acY) `iJ
structure Turn(P:`ak)(w:`R)(K:`y)(tg:`G)(J:It)(fp:`aB)(it:`e)(tn:`MR):Prop where
 mem:it∈fp
 obj:∀i h,tn i h->∀b∈fp,∃o,`fF/\`acZ
 keep:∀i h h',tn i h->(∀b∈fp,∀o,`BN)->tn i h'
 item:∀(X:Cx),`aU=P->X.w=w->X.K=K->`bz->∀(i:Nat) (pins:`an) (s:`p) (σ:St) (H:Hp) (E:`ao),`w->`ac_->`MS->`MT ->
  `o `lL X.A (`sQ `ly) (λr s1=>∃u,r=`a! /\
   `o `lL X.A `MU (λ_ s2=>∃x H',`MV/\`fH/\`MW/\tn `bE s2.heap/\∀b∈fp,`nQ) E s1) E s
 done:∀(X:Cx),`aU=P->X.w=w->X.K=K->`bz->∀(i:Nat) (pins:`an) (s:`p) (σ:St) (H:Hp) (E:`ao),`w->`ac_->`MS->`MX ->
  `o `lL X.A (`sQ `ly) (λr s1=>r=`c/\Inv X `h σ H s1) E s
 self:∀(A:`bU) (i:Nat) (s:`p) (Q:`ao) (E:`ao),`MS->Q `ly s->`o `lL A (pyIter `ly) Q E s
abbrev TI:=St->Hp->(`BO)->Prop
noncomputable def PIE(X:Cx)(pins:`an)(σ:St)(tg:`G)(R:`BO)(itv:`E)(s2:`p):Prop :=
 ∃(it:`e) (fp:`aB) (tn:`MR) (J:It) (H':Hp),itv=`x it/\`MV/\`ac0/\`ac1/\(∀b∈fp,`MQ)/\R J H'
noncomputable def PI(X:Cx)(tg iter:`G)(wi:TI):Prop :=
 ∀(pins:`an) (s:`p) (σ:St) (H:Hp) (R:`BO),`w->wi σ H R ->
  `o `ac X.A (`bR `hF `A) (λv s1=>`o `ac X.A (pyIter v) `ac2 `aA s1) `aA s
theorem lb0{M:`pK}{A:`bU}{E:`ao}{s:`p}{tg:`G}{u:`E}{o:Obj}{n:`ck}{vs:`aK}{Q:`up}(ho:`cJ it=`ab)(hc:`rn=`bh n)(hd:`nJ=`Bi)
  (hn:`ac3=`n) (hQ:Q () s):`o M A `MU Q E s:=by
 unfold letOwnedTupleGo;cases tg<;>first
  | exact A1 hQ
  | (cases u<;>first
    | exact A1 hQ
    | (refine A0 (wpAny_load ho ?_)
       rw[hc,hd];show `o M A (if (`ac3&&vs[0]?==`a (`BP _))=`b then _ else _) Q E s;rw[`ad (by intro h;rw[hn,Bool.false_and] at h;cases h)];exact A1 hQ))
noncomputable def Itl(K:`y)(a:`e):It :=
 ⟨`ac4,λi H x H'=>H'=H/\`ac5,`ac6⟩
noncomputable def Itt(K:`y)(a:`e):It :=
 ⟨λi H=>∃xs x,`kU/\`lz,λi H x H'=>H'=H/\∀xs,`kU->`lz,λi H=>∃xs,`kU/\`av<=i⟩
noncomputable def Itr(lo:Int)(n:Nat):It:=⟨λi _=>i<n,λi H x H'=>H'=H/\x=`MY,λi _=>n<=i⟩
theorem eo0{P:`ak}{w:`R}(a it:`e):Turn P w K tg (Itl K a) [it] it (λi h=>`ac7) where
 mem:=`bs
 obj:=λi h st b hb=>by
  have e:b=it:=`g!
  subst e;obtain⟨o,e,c,d⟩:=st;exact`MZ
 keep:=`ac8
 item:=by
  intro X hP hw hK hc i pins s σ H E I hf st hg;subst hP hw hK;obtain⟨xs,x,hq,hx⟩:=hg;obtain⟨its,rv,p,hz⟩:=`ev;obtain⟨u,hu,ru⟩:=`M_;obtain⟨f0,f1,f2,f3,f4,f5⟩:=`kV;refine wpAny_pyNext_list_item st `pM (x:=u) `M0 `ac9
  have I1:`BM:=`ac';obtain⟨o,e,c,d⟩:=id J;exact⟨u,rfl,lb0 (s:=`gA) e c d `t ⟨x,H,I1,ru,⟨rfl,`ac!⟩,J,`BQ⟩⟩
 done:=by
  intro X hP hw hK hc i pins s σ H E I hf st hg;subst hP hw hK;obtain⟨xs,hq,hx⟩:=hg;obtain⟨its,rv,p,hz⟩:=`ev;obtain⟨f0,f1,f2,f3,f4,f5⟩:=`kV;have hl:=`l4;exact wpAny_pyNext_list_end `iR st `pM `mV `ux
 self:=λ_ _ _ _ _ st h=>wpAny_pyIter_listiter st h
theorem gu0{P:`ak}{w:`R}(a it:`e):Turn P w K tg (Itt K a) [it] it (λi h=>h.IsTupleIter it a i) where
 mem:=`bs
 obj:=λi h st b hb=>by
  have e:b=it:=`g!
  subst e;obtain⟨o,e,c,d⟩:=st;exact`MZ
 keep:=`ac8
 item:=by
  intro X hP hw hK hc i pins s σ H E I hf st hg;subst hP hw hK;obtain⟨xs,x,hq,hx⟩:=hg;obtain⟨its,rv,p,hz⟩:=`ha;obtain⟨u,hu,ru⟩:=`M_;obtain⟨f0,f1,f2,f3,f4,f5⟩:=`kV;refine wpAny_pyNext_tuple_item st `ac? (x:=u) `M0 `ac9
  have I1:`BM:=`ac';obtain⟨o,e,c,d⟩:=id J;exact⟨u,rfl,lb0 (s:=`gA) e c d `t ⟨x,H,I1,ru,⟨rfl,λys hy=>by rw[`ada hy hq];exact hx⟩,J,`BQ⟩⟩
 done:=by
  intro X hP hw hK hc i pins s σ H E I hf st hg;subst hP hw hK;obtain⟨xs,hq,hx⟩:=hg;obtain⟨its,rv,p,hz⟩:=`ha;obtain⟨f0,f1,f2,f3,f4,f5⟩:=`kV;have hl:=`l4;exact wpAny_pyNext_tuple_end `iR st `ac? `mV `ux
 self:=λ_ _ _ _ _ st h=>wpAny_pyIter_tupleiter st h
theorem gh0{P:`ak}{w:`R}(it:`e)(lo:Int)(n:Nat):Turn P w K tg (Itr lo n) [it] it (λi h=>`adb h it (lo+(i:Nat)*1) (`da - (i:Nat)) 1) where
 mem:=`bs
 obj:=λi h st b hb=>by
  have e:b=it:=`g!
  subst e;exact⟨_,st,λv z=>by
   have z':`adc _=Data.cell v:=z;cases z'⟩
 keep:=λi h h' st k=>k it `aO _ st
 item:=by
  intro X hP hw hK hc i pins s σ H E I hf st hg;subst hP hw hK;obtain⟨f0,f1,f2,f3,f4,f5⟩:=`kV;have W:=Walks.range (prog:=`aU) (w:=X.w) `iR it lo 1 n;refine W.item i s _ _ hg st λv h' tk hv J kk=>?_
  obtain⟨t,rfl⟩:=hv;have I1:Inv X `h σ H `oH:=`xj (λb o hb e=>kk b o (`g!) e) f0 f1 f3 f4 f5;refine⟨_,rfl,lb0 (s:=`oH) (n := "range_iterator") J rfl rfl `t ⟨`MY,H,I1,⟨t,?_⟩,`gP,J,`BQ⟩⟩;rw[Int.mul_one]
 done:=by
  intro X hP hw hK hc i pins s σ H E I hf st hg;subst hP hw hK;obtain⟨f0,f1,f2,f3,f4,f5⟩:=`kV;exact wpAny_pyNext_range_end `iR st (by have:n<=i:=hg;omega) `ux
 self:=λ_ _ _ _ _ st h=>wpAny_pyIter_rangeiter st h
noncomputable def Un0(K:`y)(tl:TE):TI:=fun σ H R=>tl σ H λx H1=>∃a,`ew/\`add/\R (Itl K a) H1
noncomputable def S20(K:`y)(tl:TE):TI:=fun σ H R=>tl σ H λx H1=>∃a,`ew/\(∃xs,SqT K H1 a xs)/\R (Itt K a) H1
theorem Zv0{l:`G}{tl:TE}(hl:PE X l tl):PI X tg l (Un0 X.K tl):=by
 intro pins s σ H R I h;refine `ade
 obtain⟨a,e,⟨xs,hq⟩,q⟩:=q1;subst e;cases r1;obtain⟨its,rv,p,hz⟩:=I1.list hq;refine wpAny_pyIter_list `pM ?_;refine⟨`eS,`uy,_,_,H1,rfl,`BR,eo0 a _,`BS,`f9,q⟩;have e:b=`eS:=`g!
 subst e;exact `uz
theorem Wd0{l:`G}{tl:TE}(hl:PE X l tl):PI X tg l (S20 X.K tl):=by
 intro pins s σ H R I h;refine `ade
 obtain⟨a,e,⟨xs,hq⟩,q⟩:=q1;subst e;cases r1;obtain⟨its,rv,p,hz⟩:=I1.tuple hq;refine wpAny_pyIter_tuple (show s1.heap.IsTuple a `bP from p) ?_;refine⟨`eS,`uy,_,_,H1,rfl,`BR,gu0 a _,`BS,`f9,q⟩;have e:b=`eS:=`g!
 subst e;exact `uz
theorem ds0{σ:St}{s:`p}{R:`BO}{E:`ao}{lo hi:Int}{t u v:Tok}{tk:Nat}(I:`w)(h1:-(`f!)<=lo)(h2:lo<`f!)(h3:-(`f!)<=hi)(h4:hi<`f!)
  (q:R (Itr lo `n3) H):`o `ac X.A (pyIter `l?) `ac2 E `adf:=by
 refine wpAny_pyIter_range (IsRange.new ..) (small_one h1 h2 h3 h4) ?_;have I1:Inv X `h σ H `adf:=I.kept `n2
 refine⟨`M1,[`M1],_,_,H,rfl,
  `G2 (t':=tk) `n2,gh0 _ lo `n3,?_,`f9,q⟩
 ·have e1:lo+`rK*1=lo:=`bs
  have e2:`adg=Builtin.Range.rangeSize lo hi 1:=by rw[rangeSize_one];split<;>omega
  show `adb _ _ (lo+`rK*1) (`adg) 1;rw[e1,e2];exact `gp
 ·have e:b=`M1:=`g!
  subst e;exact `uz
noncomputable def Vy0(ta:TA):TI:=fun σ H R=>ta σ H λvs H1=>∃j:Int,vs=[`e']/\-(`f!)<=j/\j<`f!/\R (Itr 0 `fG) H1
theorem dl0{a:`G}{ta:TA}{p:Pos}(hg:`adh)(hm:`adi)(ha:`adj)(hs:`BT:=by rfl):PI X tg `adk (Vy0 ta):=by
 intro pins s σ H R I h;refine Call_ (wh0 I hg hm boot_range `adl);obtain⟨j,e,q1,q2,q⟩:=q1;subst e;cases r1 with
 | cons r rr =>
  cases rr;obtain⟨t,rfl⟩:=r;exact call_range_1 (ds0 I1 `i `i q1 q2 (`M2))
noncomputable def Tt0(wi:TI)(g:TG)(tb:TS):TS:=λD σ H=>wi σ H λJ H1=>∃W:Nat->`acQ,(∃m,W 0 m σ H1)/\∀i m σ H,W i m σ H ->
 (`MX/\`H1)∨(`MT/\∃N:`gz,(∀σ' H',N σ' H'->∃m',m'<m/\W `bE m' σ' H')/\∀x H',`MW->g x σ H' fun σ2 H2=>tb `acR σ2 H2)
noncomputable def rg0(fp:`aB)(h:`Q):`an:=fp.filterMap λb=>(`lm).map λo=>`rL
theorem ve0{h:`Q}{b:`e}{o:Obj}(hb:b∈fp)(e:`fF):`rL∈rg0 fp h:=`BU ⟨b,hb,by rw[e];rfl⟩
theorem ed0{h:`Q}{p:`U0}(hp:p∈rg0 fp h):p.1∈fp/\`lk p.1=`nO:=by
 obtain⟨b,hb,e⟩:=L4.mp hp;cases q:`lm with
 | none=>rw[q] at e;cases e
 | some o =>
  rw[q] at e;have e':`rL=p:=`kP;subst e';exact⟨hb,q⟩
theorem Inv.pinned{σ:St}{s:`p}(I:`w)(hf:∀b∈fp,`xi)(ho:∀b∈fp,∃o,`fC/\`acZ):Inv X (`h++rg0 fp `aw) σ H s :=
 I.pins_of λp hp=>`abX (λz=>`ls p (C8 _ z)) λz=>by
  obtain⟨hb,e⟩:=ed0 z;obtain⟨f0,f1,f2,_⟩:=hf p.1 hb;obtain⟨o,e',d⟩:=ho p.1 hb;rw[e] at e';cases e';exact⟨e,f0,f1,f2,d⟩
theorem Inv.unpinned{pl:`an}{σ:St}{s:`p}(I:Inv X (`h++pl) σ H s):`w:=I.pins_of λp hp=>`ls p (C8 _ (C6 _ hp))
theorem ek0{wi:TI}{g:TG}{tb:TS}{pos:Pos}(hp:`pL)(hc:`bz)(hi:`M3)(hg:PG X tg g)(hb:`acS)
  (hs:`dz:=by intro _;rfl):PS X `M4 (Tt0 wi g tb):=by
 intro pins s σ H D I h;refine wpAny_For `adm hs;obtain⟨it,fp,tn,J,H2,e,I2,T,a1,f2,W,⟨m0,w0⟩,Z⟩:=h2;subst e;have M:∀{H':Hp},`pN->∀b∈fp,`MQ:=λhn b hb=>⟨hn b hb,(`hL).2⟩
 refine codeAny_forLoop_any (λn s'=>∃i σ' H',`lw/\`adn/\`pN/\W i n σ' H') ?_ m0 ⟨0,σ,H2,I2,a1,λb hb=>(`hL).1,w0⟩;rintro n s3 ⟨i,σ3,H3,I3,U,Y,w3⟩;rcases Z i n σ3 H3 w3 with⟨stop,qn⟩|⟨go,N,hN,step⟩
 ·refine E7 hp (thn (T.done X rfl rfl rfl hc i `h s3 σ3 H3 `aA I3 (M Y) U stop) λr s4 ⟨hr,I4⟩=>?_)
  subst hr;exact o3 ⟨σ3,H3,I4,qn⟩
 ·refine E7 hp (thn (T.item X rfl rfl rfl hc i `h s3 σ3 H3 `aA I3 (M Y) U go) λr s4 ⟨u,hr,h4⟩=>?_)
  subst hr;refine E7 hp (thn h4 λ_ s5 ⟨x,H5,I5,r5,y5,O,a0⟩=>?_);have a2:=I5.pinned (M a0) (`r! _ _ O);refine E7 hp (thn (hg _ s5 σ3 H5 x u _ a2 r5 (step x H5 y5)) λ_ s6 ⟨σ6,H6,I6,q6⟩=>?_);refine E7 hp (thn (hb _ s6 σ6 H6 _ I6 q6) λf s7 q7=>?_);have again:∀{σ7:St} {H7:Hp},Inv X (`h++rg0 fp s5.heap) σ7 H7 s7->N σ7 H7->∃m,m<n/\∃i σ' H',Inv X `h σ' H' s7/\tn i s7.heap/\`pN/\W i m σ' H':=λ{σ7 H7} I7 n7=>by
   obtain⟨m',hm,w7⟩:=hN σ7 H7 n7;refine⟨m',hm,i+1,σ7,H7,`M5,T.keep _ _ _ O λb hb o e=>(`ado).1,`f9,w7⟩;obtain⟨o,e,d⟩:=`r! _ _ O b hb;exact(`ado).2.1
  cases f with
  | next=>obtain⟨σ7,H7,I7,n7⟩:=q7;exact `adp
  | cont=>obtain⟨σ7,H7,I7,n7⟩:=q7;exact `adp
  | brk=>obtain⟨σ7,H7,I7,q7⟩:=q7;exact⟨σ7,H7,`M5,q7⟩
  | ret v=>obtain⟨x7,σ7,H7,I7,r7,q7⟩:=q7;exact⟨x7,σ7,H7,`M5,r7,q7⟩
abbrev R2:=V->`uA
noncomputable def OpR(X:Cx)(f:`pO)(r:R2):Prop :=
 ∀(pins:`an) (s:`p) (σ:St) (H:Hp) (x y:V) (v u:`E) (Q:VK),`w->`hc->`dV->`xo ->
  `o `ac X.A `M6 `eW `aA s
noncomputable def UnR(X:Cx)(f:`G9)(r:`uA):Prop :=
 ∀(pins:`an) (s:`p) (σ:St) (H:Hp) (x:V) (v:`E) (Q:VK),`w->`hc->r x H Q ->
  `o `ac X.A (f v) `eW `aA s
noncomputable def CallR(X:Cx)(f:`E)(r:`lH):Prop :=
 ∀(pins:`an) (s:`p) (σ:St) (H:Hp) (xs:`K) (us:`Y) (Q:VK),`w->`c4->`BV ->
  `o `ac X.A (`d! f us) `eW `aA s
noncomputable def tOp(r:R2)(ta tb:TE):TE:=fun σ H Q=>ta σ H λx H1=>tb σ H1 λy H2=>r x y H2 Q
noncomputable def tUn(r:`uA)(ta:TE):TE:=fun σ H Q=>ta σ H λx H1=>r x H1 Q
noncomputable def rI(C:`M7)(g:`BW):R2:=λx y H Q=>∃i j,`BX/\y=`e'/\C i j/\Q `hH H
noncomputable def rI0(g:`BW):R2:=λx y H Q=>∃i j,`BX/\y=`e'/\Q `hH H
noncomputable def rU(g:Int->V):`uA:=λx H Q=>∃i,`BX/\Q (g i) H
section
variable{a:`G}{tc:TE}
theorem bj0(ha:`kS)(hb:`pP){s:`p}{σ:St}{R:V->`Mu}(I:`w)
  (h:ta σ H λx H1=>tb σ H1 λy H2=>R x y H2) {Q:`ao} {f:`pO}
  (hf:∀v u s2 x y H2,`adq->`hc->`dV->R x y H2->`o `ac X.A `M6 Q `aA s2) :
  `o `ac X.A (`G6) (λv s₁=>`o `ac X.A `acb (λu s₂=>`o `ac X.A `M6 Q `aA s₂) `aA `d?) `aA s:=by
 refine `acs
 refine thn `M8 λu s2 ⟨y,H2,I2,r2,q2⟩=>?_
 exact hf v u s2 x y H2 I2 r1 r2 q2
theorem bv0{op:Operator}{r:R2}(ho:`adr)(ha:`kS)(hb:`pP):PE X `ads `BY:=by
 intro pins s σ H Q I h;exact wpAny_BinOp `adt
theorem T30{op:UnaryOp}{r:`uA}(ho:UnR X (unaryOp op) r)(ha:`kS):PE X (`GX op a pos) (tUn r ta):=by
 intro pins s σ H Q I h;exact UnaryOp_ (thn `nW λv s1 ⟨x,H1,I1,r1,q1⟩=>ho `h s1 σ H1 x v Q I1 r1 q1)
theorem opI{f:`pO}{C:`M7}{g:`adu}
  (rule:∀(i j:Int) (t u:Tok) (s:`p) (Q:`ao) (E:`ao),C i j->`adv) :
  OpR X f (rI C `adw):=by
 intro pins s σ H x y v u Q I rx ry h;obtain⟨i,j,rfl,rfl,hc,q⟩:=h;obtain⟨t,rfl⟩:=rx;obtain⟨t',rfl⟩:=ry;exact rule i j t t' s _ _ hc `adx
theorem Ws0{f:`pO}{g:`adu}
  (rule:∀(i j:Int) (t u:Tok) (s:`p) (Q:`ao) (E:`ao),`adv) :
  OpR X f (rI0 `adw):=by
 intro pins s σ H x y v u Q I rx ry h;obtain⟨i,j,rfl,rfl,q⟩:=h;obtain⟨t,rfl⟩:=rx;obtain⟨t',rfl⟩:=ry;exact rule i j t t' s _ _ `adx
theorem f80{f:`pO}{g:Int->Int->`M}
  (rule:∀(i j:Int) (t u:Tok) (s:`p) (Q:`ao) (E:`ao),Q (`dF `hH) s->`VN) :
  OpR X f (rI0 λi j=>.bl `hH):=by
 intro pins s σ H x y v u Q I rx ry h;obtain⟨i,j,rfl,rfl,q⟩:=h;obtain⟨t,rfl⟩:=rx;obtain⟨t',rfl⟩:=ry;exact rule i j t t' s _ _ ⟨.bl `hH,H,I,rfl,q⟩
noncomputable def c70(i j:Int):Prop:=`BZ
noncomputable def cg0(i j:Int):Prop:=`M9
noncomputable def CMul(i j:Int):Prop:=`Io
theorem CMul.ok{i j:Int}(h:CMul i j):IntMulOk i j:=by
 rcases h with⟨h1,h2⟩|⟨h1,h2⟩
 ·exact .of_left `ady
 ·exact .of_right `ady
theorem Wq0:OpR X `uB (rI0 `adz):=Ws0 λ_ _ _ _ _ _ _ q=>add_int q
theorem Xi0:OpR X (`hG .Sub) (rI0 `adA):=Ws0 λ_ _ _ _ _ _ _ q=>sub_int q
theorem Xd0:OpR X (`hG .Mult) (rI CMul `adB):=opI λ_ _ _ _ _ _ _ hc q=>mul_int q hc.ok
theorem Yv0:OpR X (`hG .FloorDiv) (rI c70 `adC):=opI λi j _ _ _ _ _ hc q=>by
 have h1:`f2<j:=hc.1;have h2:`VO:=hc.2;exact floordiv_int `i (by rw[Int.fdiv_eq_ediv_of_nonneg i `i];exact q) (`m (PyProof.noPylong_small `i))
theorem Xo0:OpR X (`hG .Mod) (rI (`adD) `adE):=opI λi j _ _ _ _ _ hc q=>by
 have h1:`f2<j:=hc;exact mod_int' `i (by rw[Int.fmod_eq_emod_of_nonneg i `i];exact q)
theorem V90:OpR X (`hG .Pow) (rI cg0 `adF):=opI λ_ _ _ _ _ _ _ hc q=>pow_int_small hc.1 hc.2.1 hc.2.2 q
theorem unI{f:`G9}{g:`VM}
  (rule:∀(i:Int) (t:Tok) (s:`p) (Q:`ao) (E:`ao),Q (`d (g i) `bu) `G'->`o `ac X.A (f `rN) Q E s) :
  UnR X f (rU λi=>`adG):=by
 intro pins s σ H x v Q I rx h;obtain⟨i,rfl,q⟩:=h;obtain⟨t,rfl⟩:=rx;exact rule i t s _ _ ⟨`adG,H,`dq,`ag,q⟩
theorem W90:UnR X (unaryOp .USub) (rU λi=>`d (-i)):=unI λ_ _ _ _ _ q=>neg_int q
universe zz
noncomputable def b30:V->V->`M
 | `z,`z=>`b|`z,`bL=>`b|`bL,`z=>`b|`z,`bk=>`b|`bk,`z=>`b|`z,`bg=>`b|`bg,`z=>`b
 | `bL,`bL=>`b|`bk,`bk=>`b|`bg,`bg=>`b|.byt _,.byt _=>`b
 | `bL,`bg=>`b|`bg,`bL=>`b|`bk,`bg=>`b|`bg,`bk=>`b
 | _,_=>`n
noncomputable def rEq:R2:=λx y H Q=>`M'/\Q `adH H
noncomputable def rNe:R2:=λx y H Q=>`M'/\Q (.bl (!`xm)) H
theorem iu0{i j:Int}:`D (`r5 i=`r5 j)=(i==j):=by
 rw[`pQ];simp
theorem eb0{i j:`M}:`D (V.bl i=V.bl j)=(i==j):=by
 rw[`pQ];simp
theorem ie0{i j:Str}:`D (`sA i=`sA j)=(i==j):=by
 rw[`pQ];simp
theorem g20{i j:`aa1}:`D (V.byt i=V.byt j)=(i.toList==j.toList):=by
 rw[`pQ];cases i;cases j;simp
section
variable{a:`G}{tc:TE}
theorem X3{σ:St}{s:`p}{Q:VK}{k k':`M}(I:`w)(q:Q (`n4) H)(e:k=k'):EP X `h σ Q (`dF k') s:=by
 subst e;exact⟨`n4,H,I,rfl,q⟩
theorem V6:OpR X (`cK .Eq) rEq:=by
 intro pins s σ H x y v u Q I rx ry h;obtain⟨hs,q⟩:=h;cases x with
 | non =>
  cases rx;cases y with
  | non=>cases ry;exact PySem.EqNone.eq_none_none `bZ
  | bl j=>cases ry;exact PySem.EqNone.eq_none_bool `bZ
  | int j=>obtain⟨t',rfl⟩:=ry;exact PySem.EqNone.eq_none_int `bZ
  | str j=>obtain⟨t',rfl⟩:=ry;exact PySem.EqNone.eq_none_str `bZ
  | _=>exact `fn
 | bl i =>
  cases rx;cases y with
  | non=>cases ry;exact PySem.EqNone.eq_bool_none `bZ
  | bl j=>cases ry;exact eq_bool (X3 I q eb0)
  | str j=>obtain⟨t',rfl⟩:=ry;exact PySem.EqMixed.eq_bool_str `bZ
  | _=>exact `fn
 | int i =>
  obtain⟨t,rfl⟩:=rx;cases y with
  | non=>cases ry;exact PySem.EqNone.eq_int_none `bZ
  | int j=>obtain⟨t',rfl⟩:=ry;exact eq_int (X3 I q iu0)
  | str j=>obtain⟨t',rfl⟩:=ry;exact PySem.EqMixed.eq_int_str `bZ
  | _=>exact `fn
 | str i =>
  obtain⟨t,rfl⟩:=rx;cases y with
  | non=>cases ry;exact PySem.EqNone.eq_str_none `bZ
  | bl j=>cases ry;exact PySem.EqMixed.eq_str_bool `bZ
  | int j=>obtain⟨t',rfl⟩:=ry;exact PySem.EqMixed.eq_str_int `bZ
  | str j=>obtain⟨t',rfl⟩:=ry;exact eq_str (X3 I q ie0)
  | _=>exact `fn
 | byt i =>
  obtain⟨t,rfl⟩:=rx;cases y with
  | byt j=>obtain⟨t',rfl⟩:=ry;exact W.eq_bytes (X3 I q g20)
  | _=>exact `fn
 | _=>cases y<;>exact `fn
theorem al0:OpR X (`cK .NotEq) rNe:=by
 intro pins s σ H x y v u Q I rx ry h;obtain⟨hs,q⟩:=h;cases x with
 | non =>
  cases rx;cases y with
  | non=>cases ry;exact PySem.EqNone.ne_none_none `bZ
  | bl j=>cases ry;exact PySem.EqNone.ne_none_bool `bZ
  | int j=>obtain⟨t',rfl⟩:=ry;exact PySem.EqNone.ne_none_int `bZ
  | str j=>obtain⟨t',rfl⟩:=ry;exact PySem.EqNone.ne_none_str `bZ
  | _=>exact `fn
 | bl i =>
  cases rx;cases y with
  | non=>cases ry;exact PySem.EqNone.ne_bool_none `bZ
  | bl j=>cases ry;exact ne_bool (X3 I q (B8 not eb0))
  | str j=>obtain⟨t',rfl⟩:=ry;exact PySem.EqMixed.ne_bool_str `bZ
  | _=>exact `fn
 | int i =>
  obtain⟨t,rfl⟩:=rx;cases y with
  | non=>cases ry;exact PySem.EqNone.ne_int_none `bZ
  | int j=>obtain⟨t',rfl⟩:=ry;exact ne_int (X3 I q (B8 not iu0))
  | str j=>obtain⟨t',rfl⟩:=ry;exact PySem.EqMixed.ne_int_str `bZ
  | _=>exact `fn
 | str i =>
  obtain⟨t,rfl⟩:=rx;cases y with
  | non=>cases ry;exact PySem.EqNone.ne_str_none `bZ
  | bl j=>cases ry;exact PySem.EqMixed.ne_str_bool `bZ
  | int j=>obtain⟨t',rfl⟩:=ry;exact PySem.EqMixed.ne_str_int `bZ
  | str j=>obtain⟨t',rfl⟩:=ry;exact ne_str (X3 I q (B8 not ie0))
  | _=>exact `fn
 | byt i =>
  obtain⟨t,rfl⟩:=rx;cases y with
  | byt j=>obtain⟨t',rfl⟩:=ry;exact W.ne_bytes (X3 I q (B8 not g20))
  | _=>exact `fn
 | _=>cases y<;>exact `fn
theorem tv0:OpR X (`cK .Lt) (rI0 `M!):=f80 λ_ _ _ _ _ _ _ q=>lt_int q
theorem Vs0:OpR X (`cK .LtE) (rI0 `M?):=f80 λ_ _ _ _ _ _ _ q=>le_int q
theorem ti0:OpR X (`cK .Gt) (rI0 `Na):=f80 λ_ _ _ _ _ _ _ q=>gt_int q
theorem af0:OpR X (`cK .GtE) (rI0 `Nb):=f80 λ_ _ _ _ _ _ _ q=>ge_int q
theorem fm0:OpR X (`cK .In) `adI:=by
 intro pins s σ H x y v u Q I rx ry h;obtain⟨i,j,rfl,rfl,q⟩:=h;obtain⟨t,rfl⟩:=rx;obtain⟨t',rfl⟩:=ry;exact in_str (X3 I q rfl)
theorem us0:OpR X (`cK .Is) `adJ:=by
 intro pins s σ H x y v u Q I rx ry h;obtain⟨rfl,q⟩:=h;cases ry;refine is_none_gen (X3 I q ?_);cases x<;>first
  | (cases rx;rfl)
  | (obtain⟨t,rfl⟩:=rx;rfl)
theorem OpR.or{f:`pO}{r r':R2}(h:OpR X f r)(h':OpR X f r'):OpR X f `adK:=by
 intro pins s σ H x y v u Q I rx ry q;rcases q with q|q
 ·exact h `h s σ H x y v u Q I rx ry q
 ·exact h' `h s σ H x y v u Q I rx ry q
theorem o20(b:`G){op:`f'}(h:op≠.In:=by decide)(h2:op≠`pR:=by decide):`kR:=by
 have e1:(op==CmpOp.In)=`n:=by cases op<;>first|rfl|exact `I rfl h
 have e2:(op==CmpOp.NotIn)=`n:=by cases op<;>first|rfl|exact `I rfl h2
 cases b<;>simp[`rC,e1,e2]
theorem Yi0{op:`f'}{r:R2}(ho:`pS)(ha:`kS)(hb:`pP)(hm:`kR):PE X `mT `BY:=by
 intro pins s σ H Q I h;exact `ace `adt hm
noncomputable def ae0(t:TE):TT:=fun σ H Q=>t σ H λx H'=>∃k,x=`n4/\Q k H'
theorem oo0{op:`f'}{r:R2}(ho:`pS)(ha:`kS)(hb:`pP)(hm:`kR):PT X `mT (ae0 `BY):=by
 intro pins s σ H Q I h;refine `acg (thn `nW λv s1 ⟨x,H1,I1,r1,q1⟩=>thn `M8 λu s2 ⟨y,H2,I2,r2,q2⟩ =>
  thn `adL λc s3 ⟨z,H3,I3,r3,k,e,q3⟩=>?_) hm
 subst e;cases r3;exact L3 ⟨H3,I3,q3⟩
noncomputable def fo0(r r':R2)(ta tb tc:TE):TE:=fun σ H Q=>ta σ H λx H1=>tb σ H1 λy H2=>r x y H2 λz H3=>∃k,z=`n4 /\
 (if k=`b then tc σ H3 λw' H4=>r' y w' H4 Q else Q `sb H3)
theorem b60{op op':`f'}{r r':R2}(ho:`pS)(ho':`adM)(ha:`kS)(hb:`pP)(hc:PE X c tc)
  (hm:`adN:=by with_unfolding_all rfl):PT X `adO (ae0 (fo0 r r' ta tb tc)):=by
 intro pins s σ H Q I h;refine isTrue_chain (thn `nW λv s1 ⟨x,H1,I1,r1,q1⟩=>test_link (thn `M8 λu s2 ⟨y,H2,I2,r2,q2⟩ =>
  thn `adL λd s3 ⟨z,H3,I3,r3,k,e,q3⟩=>?_)) hm
 subst e;cases r3;refine L3 ?_;cases k with
 | false =>
  obtain⟨k',e',q'⟩:=q3;cases e';exact ite_ff ⟨H3,I3,q'⟩
 | true =>
  refine ite_tt (test_last (thn (hc `h s3 σ H3 _ I3 q3) λw' s4 ⟨z',H4,I4,r4,q4⟩=>thn (ho' `h s4 σ H4 y z' u w' _ I4 r2 r4 q4) λd' s5 ⟨z2,H5,I5,r5,k2,e2,q5⟩=>?_));subst e2;cases r5;exact L3 ⟨H5,I5,q5⟩
theorem vu0:(`P:Nat)<`xA:=by rw[`adP];decide
theorem ge0:OpR X `uB (λx y H Q=>`adQ):=by
 intro pins s σ H x y v u Q I rx ry h;obtain⟨i,j,rfl,rfl,hz,q⟩:=h;obtain⟨t,rfl⟩:=rx;obtain⟨t',rfl⟩:=ry;exact add_str (λt' tk=>⟨`V_,H,`dq,`ag,q⟩) hz
theorem vals1{x:V}(r:`adR):`adS:=by
 cases r with
 | cons r1 r2=>cases r2;exact⟨_,rfl,r1⟩
theorem et0:`d' X (`bh `hd) `adT:=by
 intro pins s σ H xs us Q I r h;rcases h with⟨i,rfl,q⟩|⟨k,rfl,q⟩
 ·obtain⟨u,rfl,t,rfl⟩:=`kW
  exact call_int_int ⟨`aR,H,I,`ag,q⟩
 ·obtain⟨u,rfl,r1⟩:=`kW
  cases r1;exact call_int_bool ⟨`G!,H,`dq,`ag,q⟩
theorem kr0:`d' X (`fx `uC) `adU:=by
 intro pins s σ H xs us Q I r h;obtain⟨x,rfl,hz,q⟩:=h;obtain⟨u,rfl,t,rfl⟩:=`kW;exact ord_of_one hz ⟨`bL,H,`dq,`ag,q⟩
universe zz
theorem RelO.some_of{o:`lh}(r:RelO `nN o):∃u,o=`a!/\`eO:=by
 cases o with
 | none=>exact`Nc
 | some u=>exact⟨u,rfl,r⟩
structure Room(k:Nat)(A:`bU):Prop where
 hd:`he
 dp:`Nd+3*k+5<`adV
 un:`lM+16*k+200<`hK
theorem Room.mono{k:Nat}(r:`uD)(h:j<=k):`gC j A:=⟨r.hd,`adW,`adX⟩
theorem Room.deeper{k:Nat}(r:`gC `gS A)(env:Env):`gC k (`rP env) :=
 ⟨r.hd,by have:=r.dp;show `Nd+1+3*k+5<_;omega,by have:=r.un;show `lM+3+16*k+200<_;omega⟩
theorem Room.depth{k:Nat}(r:`uD):`Nd<`adV:=`adW
theorem Room.units{k:Nat}(r:`uD):`lM+64<`hK:=`adX
noncomputable def Th0:TA:=λ_ H Q=>Q [] H
noncomputable def Ue0(ta:TE)(tr:TA):TA:=fun σ H Q=>ta σ H λx H1=>tr σ H1 λxs H2=>Q (`mW) H2
section
variable{t:TA}
theorem yo0:PA X [] Th0:=λ_ _ _ _ H Q I h=>P3 `adY
theorem G8(ha:`fm)(hr:`B_)(hs:`dW:=by rfl):PA X `fI (Ue0 te t):=by
 intro pos pins s σ H Q I h;rw[hs];show `o _ _ (`us (`lD::`Ha)) _ _ s;refine L5 (thn `nW `adZ);exact thn (hr pos `h s1 σ H1 _ I1 q1) λus s2 ⟨xs,H2,I2,r2,q2⟩=>⟨`mW,H2,I2,`X r1 r2,q2⟩
noncomputable def Tm0(t:TA):TE:=fun σ H Q=>t σ H λxs H1=>`fh/\∀p,H1 p=`c->Q `cX (upd H1 p `nL)
noncomputable def Tf0(t:TA):TE:=fun σ H Q=>t σ H λxs H1=>`fh/\∀p,H1 p=`c->Q `cX (upd H1 p `jL)
theorem fn0{x1}(h:`B_):PE X (`mb es x1 pos) (Tm0 t):=by
 intro pins s σ H Q I hq;refine wpAny_Tuple_spliced `ad_;have hf:`ad0:=`xk;refine⟨`ad1,upd H1 `eS `nL,`ad2,rfl,q _ hf⟩;exact⟨z,us,r,`LP⟩
theorem ji0(h:`B_):PE X `Ne (Tf0 t):=by
 intro pins s σ H Q I hq;refine wpAny_List_spliced `ad_;have hf:`ad0:=`xk;refine⟨`ad1,upd H1 `eS `jL,`ad2,rfl,q _ hf⟩;exact⟨z,us,0,r,`gp⟩
universe zz
abbrev Sp:=`K->Hp->VK->XK->Prop
abbrev CXT:=`eu->Hp->`p->XK->`ao
variable{sp:L2.Sp}
structure Env0(P:`ak)(w:`R)(K:`y)(mg:`bq)(base:`Q)(A:`bU)(outer:`eu)(s:`p)(H:Hp):Prop where
 frames:A.frames=`a `bS
 mod:Mod K mg `r
 bs:∀b o,base.get? b=`ab->`abK
 bsz:base.objs.size<=`_
 funs:`Bu `r `bS
 frf:∀b∈frs `bS,`cs
 hok:HOk P w H `aw
 bare:`rz `pJ
variable{CX:L2.CXT}
noncomputable def CE(outer:`eu)(P:`ak)(w:`R)(H:Hp)(s:`p)(Q:VK)(u:`E)(s':`p):Prop :=
 ∃v H',`ab8/\`Hs/\Un (frs `bS) [] H H' `aw `lB/\HOk P w H' `lB/\`ab'
noncomputable def CR(CX:CXT)(outer:`eu)(P:`ak)(w:`R)(H:Hp)(s:`p)(Q:VK)(E:XK)(r:Result)(s':`p):Prop :=
 match r with
 | .ok (`fy u)=>`ad3
 | .ok _=>`bt
 | .error e=>CX `bS H s E e s'
structure FnOk(P:`ak)(w:`R)(K:`y)(mg:`bq)(base:`Q)(CX:CXT)(k:Nat)(f:`e)(fd:`ff)(ps:`g)(sp:Sp):Prop where
 len:`Nf
 run:∀(A:`bU) (outer:`eu) (s:`p) (H:Hp) (args:Args) (us:`Y) (vs:`K) (Q:VK) (E:XK),`uD->`ad4->`xN s fd `f? `uE->`ur->`xq ->
  `hJ `lL A (.call `eH `f?) (CR CX `bS P w H s Q E) s
section
variable{σ:St}{s:`p}
theorem Inv.env0(I:`w):Env0 `aU X.w X.K `cq `d4 X.A `gy s H :=
 ⟨I.ok.frames,I.ok.mod,I.bs,B5 I.ok.bsz I.sz,I.stack,I.stkFree,`bQ,`f8⟩
theorem Inv.after{Q:VK}(I:`w)(h:CE `gy `aU X.w H s Q u s'):EP X `h σ Q u s':=by
 obtain⟨v,H',os,bare,un,hok,r,q⟩:=h;obtain⟨hh,g,d,t,J⟩:=s';obtain rfl:J=s.os:=os;exact⟨v,H',I.call (h':=hh) (g':=g) (d':=d) (t':=t) (ch:=[]) un hok bare (λb z=>`I z `aO),r,q⟩
universe zz
noncomputable def U90(sp:Sp)(dvs:`K)(E:XK)(t:TA):TE:=fun σ H Q=>t σ H λvs H1=>sp `B0 H1 Q E
noncomputable def Binds(K:`y)(fd:`ff)(ps:`g)(ds:`Y):Prop :=
 ∀(s:`p) (us:`Y),K.In `aw->`ad5->`xN s fd `B1 (ps.zip (us++ds))
theorem Binds.all{ps:`g}(h:∀us:`Y,`kM=`ar->`Ng fd `B1=`b2 `uE):`Il:=λs us _ hl=>by
 rw[`bc] at hl ⊢;exact .of_eq (h us hl)
noncomputable def j30(CX:CXT)(X:Cx)(E:XK):Prop:=∀(pins:`an) (σ:St) (H:Hp) (s:`p) (e:`E) (s':`p),`w->CX `gy H s E e s'->`aA e s'
section
variable{k:Nat}{f C:`e}{ps:`g}{ds:`Y}{E:XK}{m:Str}{p:Pos}{t:TA}
theorem Vr0{pins:`an}{σ:St}{H:Hp}{s:`p}{Q:VK}{us:`Y}{vs:`K}(F:`ad6)(hr:`Nh)(hb:`ad7)(hd:`ad8)(hx:`ad9)
  (I:`w) (r:`ur) (h:sp `B0 H Q E):`o `ac X.A (`d! `eH us) `eW `aA s:=by
 have r2:`br `B0 (us++ds):=`B2 hd;have hl:`ad5:=by rw[← `l5];exact F.len _ _ _ _ h
 refine wpAny_call (r8 (F.run X.A `gy s H `B1 (us++ds) `B0 Q E hr I.env0 (hb s us `eP hl) r2 h) `ad');cases r with
 | error e=>exact hx `h σ H s e s' I hq
 | ok fl =>
  cases fl with
  | ret u=>exact I.after hq
  | next=>exact `Ni
  | brk=>exact `Ni
  | cont=>exact `Ni
theorem om0(F:`ad6)(hr:`Nh)(hg:`cE)(hm:`nU=`a `eH)(hk:`aP X.K `eH=`b)(hb:`ad7)(hd:`ad8)(hx:`ad9)
  (ha:`uF) (hdb:`aY:=by decide) (he:`dW:=by rfl) (hpl:`hf:=by rfl) :
  PE X `rS (U90 sp dvs E t):=by
 intro pins s σ H Q I h;refine E9 (g10 I hg hm ?_ hdb);refine W.callWith_K (h₀:=`d4) I.ok.mod.kin hk (thn `G7 λus s1 ⟨vs,H1,I1,r,q⟩=>⟨I1.kIn,?_⟩) he hpl;exact Vr0 F hr hb hd hx I1 r q
universe zz
structure FnScope(N P:`g)(sc:`ca):Prop where
 kind:sc.kind=`lN
 co:sc.isCoroutine=`n
 gen:sc.isGenerator=`n
 nd:`Mm
 pre:N.take `c3=P
 par:∀x∈P,`abC
 nofree:∀y∈`Nj,y.2≠`gw
theorem m80{kindOf:`B3}:∀{binds:`HC} {m:`bq},`ad!->`uG `hg binds m x=m x
 | [],_,_=>rfl
 | (n,v)::r,m,h=>by
  unfold bindL;rw[m80 `ad?];split
  ·have:x≠n:=`aea
   simp[`C]
  ·rfl
theorem ml0{kindOf:`B3}:∀{binds:`HC} {m:`bq},`ad!->`uH `hg binds m x=m x
 | [],_,_=>rfl
 | (n,v)::r,m,h=>by
  unfold bindC;rw[ml0 `ad?];split
  ·rfl
  ·have:x≠n:=`aea
   simp[`C]
theorem m10{kindOf:`B3}{v:`E}:∀{P:`g} {vs:`Y} {i:Nat} {m:`bq},P.Nodup->`aeb->`Nk->`hg x=`jH ->
  `uG `hg (`Hc) m x=`cb
 | [],_,_,_,_,h,_,_=>`fo
 | `dX,[],_,_,_,_,h,_=>`fo
 | p::P,w::vs,0,m,nd,h1,h2,hk=>by
  simp at h1 h2;subst h1;subst h2;show `uG `hg `B4 m p=_;unfold bindL;rw[m80 `aec,`H hk];simp
 | p::P,w::vs,i+1,m,nd,h1,h2,hk=>by
  show `uG `hg `B4 m x=_;unfold bindL;exact m10 (i:=i) (`Hd).2 (`lj) (`B5) hk
theorem mi0{kindOf:`B3}{v:`E}:∀{P:`g} {vs:`Y} {i:Nat} {m:`bq},P.Nodup->`aeb->`Nk->`hg x≠`jH ->
  `uH `hg (`Hc) m x=`cb
 | [],_,_,_,_,h,_,_=>`fo
 | `dX,[],_,_,_,_,h,_=>`fo
 | p::P,w::vs,0,m,nd,h1,h2,hk=>by
  simp at h1 h2;subst h1;subst h2;show `uH `hg `B4 m p=_;unfold bindC;rw[ml0 `aec,`ad hk];simp
 | p::P,w::vs,i+1,m,nd,h1,h2,hk=>by
  show `uH `hg `B4 m x=_;unfold bindC;exact mi0 (i:=i) (`Hd).2 (`lj) (`B5) hk
noncomputable def start(N:`g)(vs:`K):St:=`e6 `a++`fQ (`uI - `cx) `c
noncomputable def tj0(CX:CXT)(P:`ak)(w:`R)(K:`y)(mg:`bq)(base:`Q)(N:`g)(qual:Str)(scope:`ca)(f:`e)(cd:`E)(A:`bU)(outer:`eu)(s:`p)(H:Hp)(E:XK):Cx where
 prog:=P
 w:=w
 K:=K
 mg:=mg
 base:=`r
 A:=`aed
 N:=N
 s₀:=s
 H₀:=H
 env:=`rQ
 outer:=`bS
 stack:=`rQ::`bS
 ex:=[]
 calm:=`b
 fn:=λ_=>`b
 pn:=[]
 xe:=λe s'=>`o `lL (`aed) (leaving (`rQ) e) (λ_ s''=>CX `bS H s E e s'') (λe' s''=>CX `bS H s E e' s'') s'
theorem k40(h:`GL):∃c,(`V2 n `Nj []).lookup x=`c!:=by
 have q:=`aee `Nj n [] (`m h);exact Option.isSome_iff_exists.mp q
theorem eh0{CX:CXT}{P:`ak}{w:`R}{K:`y}{mg:`bq}{base:`Q}{N ps:`g}{qual:Str}{scope:`ca}{f:`e}{cd:`E}{A:`bU}{outer:`eu}{s s1:`p}{H:Hp}{E:XK}{us:`Y}{vs:`K}
  (S:`aef) (hd:`he) (e0:`ad4) (hl:`cx=`ar) (r:`ur)
  (x:InCallC s `_ (`uG `aeg `uE `Nl) (`aeh) (`uH `aeg `uE `Nl) s1) :
  Inv (`aei) [] `xs H s1:=by
 have O:`ar<=`uI:=by have:=B8 `ia S.pre;rw[`c_] at this;omega
 obtain⟨h1,tk,rfl,hk⟩:=x.done;have J:∀b:`e,b∉(`aei).ex:=λb z=>`aej
 refine⟨⟨e0.mod,S.kind,rfl,rfl,`hD,λy z c h1 h2=>?_,λy hy=>?_,λy c _ h=>?_,λ_=>hd,Around.frames_deeper e0.frames,`l `gP,`aek,e0.bs,e0.bsz,λb _ _=>J b,`aek,e0.funs,e0.frf⟩,
  rfl,e0.bare,`Bp hk,⟨_,x.toInCall.ns,λi y v h1 h2 h3=>?_⟩,λy c h=>⟨_,x.cell y c h⟩,`ael `a_,λy c h=>?_,λp hp=>`I (show p∈([]:`an) from hp) `aO,e0.hok.kept hk,?_⟩
 ·exact name_of_addr x.apart (D8 h1) (D8 h2)
 ·have hy:`B6=`gv∨`B6=`iL:=hy
  rcases hy with hy|hy
  ·exact k40 hy
  ·exact `I rfl (S.nofree _ (D8 hy))
 ·exact `aem
 ·have hi:i<`cx:=by
   unfold start at h2
   by_cases hi:i<`cx
   ·exact hi
   ·rw[`Nm] at h2
    rw[`kX] at h2;split at h2<;>cases h2
  have ha:`Nk:=by
   unfold start at h2;rw[`B7,`ex] at h2;cases e:vs[i]? with
   | none=>rw[e] at h2;cases h2
   | some a=>rw[e] at h2;cases h2;rfl
  obtain⟨u,hu,rv⟩:=`uJ ha;have hp:ps[i]?=`dm:=by
   rw[← S.pre,List.getElem?_take_of_lt `i];exact h1
  have M:ps.Nodup:=by rw[← S.pre];exact S.nd.sublist (List.take_sublist _ _)
  refine⟨u,rv,?_⟩;rcases S.par y (D4 hp) with k|k
  ·exact `m ⟨k,m10 M hp hu k⟩
  ·obtain⟨c,e⟩:=k40 (n:=`n6) k
   refine `l ⟨`m k,c,e,?_⟩;have q:=x.cell y c e;rw[mi0 M hp hu (by show `B6≠_;rw[k];decide)] at q;exact q
 ·exact `ael (`aem)
 ·unfold start
  show _=`uI;rw[`W,`U,`B8];omega
theorem Vt0{CX:CXT}{P:`ak}{w:`R}{K:`y}{mg:`bq}{base:`Q}{k:Nat}{f:`e}{name qual:Str}{params:Arguments}{body:`bY}{scope:`ca}{dV kV doc pm cdv ct oc:`E}{an od:`fe}
  {osl:`mX} {N ps:`g} {sp:Sp} (lk:`aC f=`a ⟨oc,od,`aL `aen,osl⟩) (hcd:`Nn) (S:`aef)
  (len:`Nf)
  (hbody:∀(A:`bU) (outer:`eu) (s:`p) (H:Hp) (vs:`K) (Q:VK) (E:XK),`gC k (`rP (`xr `dH `cd `_ f cdv))->`xq ->
   ∃t,PSs `No `d8 t/\`aeo) :
  `ah P w K mg `r CX `gS f `aen ps sp:=by
 refine⟨len,λA outer s H Z us vs Q E hr e0 hb r U=>?_⟩;have hl:=len _ _ _ _ U;have KX:K.In `aw:=e0.mod.kin.keeps `aep
 have Y:s.heap.NoLimit:=e0.mod.nolimit.keeps `aep
 have M:∀y∈ps.zip us,`aeq∨(`n7 y.1=`gv/\((`aeh).lookup y.1).isSome=`b):=λ⟨n,v⟩ hy=>by
  rcases S.par n (r9 hy).1 with q|q
  ·exact `g?
  ·exact `l ⟨q,`aee _ _ _ (`g?)⟩
 refine codeAny_call_function hr.depth (KX _ _ lk) rfl S.co S.gen rfl (W.codeRec_of KX hcd) (hb _ _ _ _ ?_);refine wpAny_newFunctionEnv_cells S.kind M λenv he s1 x=>?_
 subst he;refine⟨Y.keeps x.toInCall.keep,codeAny_func ?_⟩;obtain⟨t,ht,hq⟩:=hbody A `bS s H vs Q E (hr.deeper _) U;have I:Inv `No [] `xs H s1:=eh0 S hr.hd e0 hl r x;refine C9 (ht [] s1 `xs H _ I hq) (λfl s' hs=>?_) λe s' hs=>hs
 have O:∀{σ':St} {H':Hp} {v:V} {u:`E},Inv `No [] σ' H' s'->`eO->`lu->`ad3 :=
  λ{σ' H' v u} J rv q=>⟨v,H',J.os,J.bare,J.base,J.hok,rv,q⟩
 cases fl with
 | ret u =>
  obtain⟨v,σ',H',J,rv,q⟩:=hs;exact O J rv q
 | next =>
  obtain⟨σ',H',J,q⟩:=hs;exact O (v:=V.non) (u:=`s1) J rfl q
 | brk =>
  obtain⟨_,_,_,q⟩:=hs;exact `fJ q
 | cont =>
  obtain⟨_,_,_,q⟩:=hs;exact `fJ q
section
variable{p:Pos}{t:TA}{id T:`ck}
noncomputable def tCB(r:`lH)(t:TA):TE:=fun σ H Q=>t σ H λvs H1=>r vs H1 Q
theorem p90(hc:`aer)(hg:`cE)(hm:`iP)(hv:`aes)(ha:`uF)(hn:`gu := by decide)(hdb:`aY:=by decide)
  (he:`dW:=by rfl) (hpl:`hf:=by rfl):`aet:=by
 intro pins s σ H Q I h;refine `aeu;exact PyProof.Rows.callWith_builtin1 `aev he hpl
theorem um0(hc:`Np)(hg:`cE)(hm:`iP)(hv:`Nq)(ha:`uF)(hn:`gu := by decide)(hdb:`aY:=by decide)
  (he:`dW:=by rfl) (hpl:`hf:=by rfl):`aet:=by
 intro pins s σ H Q I h;refine `aeu;exact E8 `aev he hpl
universe zz
universe L2
variable{r:`ab9}{X:L2.Cx}{ta tb te tv td ty:L2.TE}{CX:L2.CXT}{sp:L2.Sp}
namespace HT
open PyProof.Rows
section
variable{w:`R}{s:`p}
theorem Y30{t b:`e}{vs ws:`Y}{Q:`ao}(ht:`rV `aw t `lK)(hb:`rV `aw b `B9)(hv:vs≠[])
  (h1:ws=[]->Q `jP s) (h2:ws≠[]->Q `l? { s with heap:=`gB { cls:=`eJ,data:=`bB `aew } })
  (hsz:`cx+ws.length<=`P):`o `aG A (`hG .Add `jP `yS) Q E s:=by
 obtain⟨⟨cls,dd,data,sl⟩,ho,hc,n,hd⟩:=id ht;obtain⟨⟨Z,U,data2,Y⟩,J,O,n2,M⟩:=id hb;simp only at hc hd O M;subst hc hd O M;have e:`lK++`B9=`aew:=`bs
 by_cases hw:ws=[]
 ·exact X9 `B' `Nr t0 t9 u1 u2 `Ns
   (tuple_addW1 t b `lK `B9 n n2 dd U sl Y `aex (by simp[hw])) ⟨ho,J,h1 hw⟩
 ·refine X9 `B' `Nr t0 t9 u1 u2 `Ns
   (tuple_addW2 t b `lK `B9 n n2 dd U sl Y `aex `Wh (by rw[`bd,`bd];exact hsz)) ⟨ho,J,?_⟩
  rw[e];exact h2 hw
noncomputable def sIx(n d:Nat):`aey
 | `c=>d
 | `cb=>`B!
theorem Wi0(n d:Nat)(hd:d<=n)(o:`aX):sIx n d o<=n:=by
 cases o with
 | none=>exact hd
 | some v =>
  show (`B!)<=n
  by_cases hv:v<0
  ·rw[`Nt];omega
  ·rw[`ad hv];exact Ah0 _ _
theorem ia0(v:Int)(n d:Nat):`aez=((sIx n d `nN:Nat):Int):=by
 show `aez=(((`B!):Nat):Int)
 by_cases hv:v<0
 ·simp only[`Nt];omega
 ·simp only[`ad hv];omega
theorem gf0(lo hi:`aX)(n:Nat):`aeA=(`B?,`aeB):=by
 have h1:¬(`n'<0):=`F
 unfold Builtin.Slice.sliceAdjust;simp only[h1,`b?];refine Prod.ext ?_ ?_
 ·cases lo with
  | none=>rfl
  | some v=>exact ia0 v n 0
 ·cases hi with
  | none=>rfl
  | some v=>exact ia0 v n n
theorem gr0(i j:Nat):`Nu `eU `bH 1=j - i:=by
 unfold Builtin.Slice.slicePlaces;have h1:`Wg:=`F
 simp only[h1,`dA,Int.ediv_one];split<;>omega
theorem o30{v:`E}{o:`aX}{Q:`aX->`dD}(p:`rU v o)(h:Q o s):`o `aG A (Builtin.Slice.slicePartIndex v) Q E s:=by
 cases p with
 | none=>exact `aeC h
 | int i t=>exact slicePart_int h
theorem u40{sl:`e}{hi:`aX}{n:Nat}{Q:Int×Int×Nat->`dD}(hs:`Ca)(pl:`Cb)(pu:`Cc)
  (h:Q (`B?,1,`V8 - `V7) s):`o `aG A (Builtin.Slice.sliceApplied `xw (`b2 `da)) Q E s:=by
 obtain⟨os,M,O,J⟩:=id hs;unfold Builtin.Slice.sliceApplied Builtin.Slice.sliceFields;refine A0 (A0 (D9 M J (x:=vl) rfl (A0 (D9 M J (x:=vu) rfl (A0 (D9 M J (x:=`Z) rfl `xu))))));refine A0 (`aeC ?_);show `o _ _ (if (`n'==0)=`b then _ else _) _ _ s;rw[`pT];refine A0 (o30 pl (A0 (o30 pu (`Nv))));show `o _ _ (match `aeA with|(lo,hi)=>`b2 (lo,`n',`Nu lo hi 1)) _ _ s;rw[gf0 lo hi n];show `o _ _ (`b2 (`B?,`n',`Nu `B? `aeB 1)) _ _ s;rw[gr0];exact A1 h
theorem cw0(xs:`aK)(i k:Nat):((`b6 k).filterMap `aeD).toArray=((xs.toList.drop i).take k).toArray:=by
 have e:(`aeD)=`aeE:=by
  funext m
  have:`V9=i+m:=`F
  rw[`C]
 rw[e];have:=pick_run xs i k;rw[List.filterMap_map] at this;have e2:((λx=>xs[x]?) ∘ λx=>i+x)=`aeE:=rfl
 rw[e2] at this;rw[`C]
theorem qg0{t sl:`e}{items:`aK}{hi:`aX}{Q:`ao}(ht:`aeF)(hs:`Ca)(pl:`Cb)(pu:`Cc)
  (hw:¬(`aeG))
  (h:Q `l? { s with heap:=`gB { cls:=`eJ,data:=`aeH } })
  (hsz:`dI<=`P):`aeI:=by
 have J:sizeOk (`aeH):=by
  show (`V').toArray.size<=`P;rw[`bd,`c_,`ey,`BL];omega
 have hj:`He<=`dI:=Wi0 _ _ `a_ hi;obtain⟨os,U,Y,Z⟩:=id hs;have O:`aeJ := ⟨os,U,Y⟩;unfold getItem
 try with_reducible refine `l'
 first|refine `Nv|skip
 refine `aeK;refine A0 (P4 (name:=`aeL) `lG L6
  `aeM)
 show `aeN;refine `aeO;refine A0 (P5 O ?_);rw[`Nw];refine `aeP;have M:¬(`Hg):=by
  intro q;rw[`a?,`a?] at q;have q1:`V?=0:=`Nx q.1.1;have q2:`Hf=`dI:=`Nx q.2;exact hw ⟨`F,`F⟩
 show `aeQ;rw[`ad M,cw0]
 first
  | exact `aeR
  | exact A0 (m:=`Hh) (P6 (A0 `aeS) J)
  | exact A0 (A0 (m:=`Hh) (P6 `aeS J))
  | exact A0 (`aeR)
universe zz
universe HT
namespace L2
open Spec PyProof.Rows
abbrev TO:=St->Hp->(`aeT)->Prop
noncomputable def PO(X:Cx)(e:`nD)(t:TO):Prop :=
 ∀(pins:`an) (s:`p) (σ:St) (H:Hp) (Q:`aeT),`w->`j_ ->
  `o `ac X.A (evalPart e `A) (λu s'=>∃o H',`iN/\`rU u o/\Q o H') `aA s
noncomputable def Ym0:TO:=λ_ H Q=>Q `c H
noncomputable def Ub0(t:TE):TO:=fun σ H Q=>t σ H λx H1=>∃i,`BX/\Q (`mg) H1
section
variable{lo hi:`nD}{tl th:TO}
theorem Zp0:PO X `c Ym0:=by
 intro pins s σ H Q I h;rw[`aeU];exact A1 ⟨`c,H,I,`Z,h⟩
theorem Y20(h:`fm):PO X `GZ (Ub0 te):=by
 intro pins s σ H Q I hw;rw[evalPart_some];refine thn `Mz `adZ
 obtain⟨i,rfl,q⟩:=q1;obtain⟨t,rfl⟩:=r1;exact⟨`mg,H1,I1,`GB,q⟩
noncomputable def SlR(X:Cx)(r:`mY):Prop :=
 ∀(pins:`an) (s:`p) (σ:St) (H:Hp) (x:V) (v vl vu:`E) (lo hi:`aX) (sl:`e) (Q:VK),`w->`hc->`Ca->`Cb->`Cc->`aeV ->
  ∃T id,`aeW/\`jQ v T/\`o `ac X.A (`lF v `xw) `eW `aA s
theorem SlR.or{r r':`mY}(h:SlR X r)(h':SlR X r'):SlR X (λx lo hi H Q=>`aeV∨r' x lo hi H Q):=by
 intro pins s σ H x v vl vu lo hi sl Q I rx hs pl pu q;rcases q with q|q
 ·exact h `h s σ H x v vl vu lo hi sl Q I rx hs pl pu q
 ·exact h' `h s σ H x v vl vu lo hi sl Q I rx hs pl pu q
noncomputable def tSl(r:`mY)(te:TE)(tl th:TO):TE:=fun σ H Q=>te σ H λx H1=>tl σ H1 λl H2=>th σ H2 λu H3=>r x l u H3 Q
theorem cr0{r:`mY}(hr:SlR X r)(he:`fm)(hl:PO X lo tl)(hu:PO X hi th):PE X `aeX (tSl r te tl th):=by
 intro pins s σ H Q I h;refine `Ny (thn `n_ `rE);refine wpAny_Slice (thn (hl `h s1 σ H1 _ I1 q1) λvl s2 ⟨l,H2,I2,pl,q2⟩=>thn (hu `h s2 σ H2 _ I2 q2) λvu s3 ⟨u,H3,I3,pu,q3⟩=>?_);rw[`aeU];refine `hI;have I4:Inv X `h σ H3 `Nz:=I3.kept (t':=s3.toks) `Cd
 obtain⟨T,id,hT,ht,hg⟩:=hr `h `Nz σ H3 x v vl vu l u `n? Q I4 r1 (Heap.IsSliceOf.new ..) pl pu q3;show `o `ac X.A (`aeY e `Wa v (`aeZ)) `eW `aA `Nz;exact tail_any (ops:=[`aeZ,v]) ht hT hg (by with_unfolding_all rfl)
noncomputable def se0(xs:`K)(lo hi:`aX):`K:=(`pE (`rX)).take (`Hj - `rX)
theorem ql0(xs:`K)(lo hi:`aX):(`xx).length<=`av:=by
 unfold se0;rw[`c_,`ey];omega
noncomputable def Tp0(K:`y):`mY:=λx lo hi H Q=>∃a xs,`ew/\`kU /\
 ¬`ae_/\∀p,`cO->Q `cX (upd H p (`ae0))
theorem Wb0:SlR X (Tp0 X.K):=by
 intro pins s σ H x v vl vu lo hi sl Q I rx hs pl pu h;obtain⟨a,xs,rfl,hx,hw,q⟩:=h;cases rx;obtain⟨its,r,ht,hz⟩:=`d7 hx;have J:`gE=`av:=`ae1
 refine⟨`d1,_,L6.lookup,`lG,?_⟩;refine HT.qg0 ht hs pl pu `ae2 ?_ (by rw[J];exact hz);rw[J];refine⟨`hE,_,`kY (t':=`bu) (o:=`ae0) (`Cd) `a_ ?_,rfl,`NA⟩;exact⟨`ae3,_,`ae4,`NB⟩
noncomputable def ac0(K:`y):R2:=λx y H Q=>∃a b xs ys,`ew/\`uK/\`kU/\`ae5/\xs≠[]/\`In /\
 (ys=[]->Q `d6 H)/\(ys≠[]->∀p,`cO->Q `cX (upd H p (`NC)))
theorem Vals.nil_iff(r:`c4):us=[]↔`pU:=by
 cases r with
 | nil=>simp
 | cons _ _=>simp
theorem Zk0:OpR X `uB (ac0 X.K):=by
 intro pins s σ H x y v u Q I rx ry h;obtain⟨a,b,xs,ys,rfl,rfl,ha,hb,hx,hz,q1,q2⟩:=h;cases rx;cases ry;obtain⟨its,r1,p1,_⟩:=`d7 ha;obtain⟨J,r2,p2,_⟩:=`d7 hb;refine HT.Y30 p1 p2 (λz=>hx (r1.nil_iff.mp z)) (λz=>⟨`dp,H,I,rfl,q1 (r2.nil_iff.mp z)⟩) (`j4) (by rw[← `ss,← `l5];exact hz);refine⟨`hE,_,`kY (t':=`bu) (o:=`NC) (`Cd) `a_ ?_,rfl,q2 (λw=>z (r2.nil_iff.mpr w)) _ (`rZ)⟩;exact⟨`ae6,_,`Ce,`NB⟩
universe zz
noncomputable def ixN(n:Nat)(i:Int):`Cf:=`ae7
noncomputable def atI{α:Type}(xs:`a5)(i:Int):`au α:=`ae8
theorem ig0{i:Int}(h:ixN n i=`uL):seqIndex? i n=`uL/\j<n/\`Hk/\i<n:=by
 unfold ixN at h
 by_cases h0:`eV
 ·rw[`H h0] at h
  by_cases h1:i<n
  ·rw[`Cg] at h
   have e:`dr=j:=`l9;exact⟨by rw[`ND h0 h1,e],`F,`F,h1⟩
  ·rw[`Ch] at h;cases h
 ·rw[`ad h0] at h
  by_cases h1:`Hk
  ·rw[`Cg] at h
   have e:`Wb=j:=`l9;exact⟨by rw[`NE `i h1,e],`F,h1,`F⟩
  ·rw[`Ch] at h;cases h
theorem oe0{xs:`a5}{i:Int}{v:α}(h:`r_=`cb):∃j,seqIndex? i `av=`uL/\`xz=`cb/\j<`av/\-(`av:Int)<=i/\`Ci:=by
 unfold atI at h;cases e:`Wc with
 | none=>rw[e] at h;cases h
 | some j =>
  rw[e] at h;obtain⟨h1,h2,h3,h4⟩:=ig0 e;exact⟨j,h1,h,h2,h3,h4⟩
noncomputable def rz0(b:`G):Prop:=∀o i,`Cj b `n o i=`NF [o,i] (`lF o i)
noncomputable def IxR(X:Cx)(r:R2):Prop :=
 ∀(value slice:`G) (pins:`an) (s:`p) (σ:St) (H:Hp) (x y:V) (v u:`E) (Q:VK),`w->`hc->`dV->`xo ->
  `Cj `kZ `n v u=`NF [v,u] (`lF v u)->`o `ac X.A (`aeY `pV `kZ v u) `eW `aA s
noncomputable def MtR(X:Cx)(id:`ck)(r:`hh):Prop :=
 ∀(pins:`an) (s:`p) (σ:St) (H:Hp) (x:V) (xs:`K) (v:`E) (us:`Y) (Q:VK),`w->`hc->`c4->`ae9 ->
  `ae'
section
variable{a:`G}
theorem IxR.or{r r':R2}(h:`NG)(h':IxR X r'):IxR X `adK:=by
 intro value slice pins s σ H x y v u Q I rx ry q hs;rcases q with q|q
 ·exact h `pV `kZ `h s σ H x y v u Q I rx ry q hs
 ·exact h' `pV `kZ `h s σ H x y v u Q I rx ry q hs
theorem ad0{r:R2}(hr:`NG)(ha:`kS)(hb:`pP)(hs:rz0 b):PE X `pW `BY:=by
 intro pins s σ H Q I h;exact `Ny (bj0 ha hb I h λv u s2 x y H2 I2 rx ry q=>hr a b `h s2 σ H2 x y v u Q I2 rx ry q (hs _ _))
noncomputable def Wz0(K:`y):R2:=λx y H Q=>∃p xs i v,`Ck/\y=`aR/\`Cl/\`ae!
noncomputable def Xa0(K:`y):R2:=λx y H Q=>∃p xs i v,`Ck/\y=`aR/\`NH/\`ae!
noncomputable def Xj0:R2:=λx y H Q=>∃z i c,x=`jR/\y=`aR/\`ob/\`ae?=`c!/\Q (`op) H
theorem io0:IxR X (Wz0 X.K):=by
 intro value slice pins s σ H x y v u Q I rx ry h hs;obtain⟨p,xs,i,z,rfl,rfl,hq,he,q⟩:=h;cases rx;obtain⟨t,rfl⟩:=ry;obtain⟨its,r,pl,hz⟩:=`ev;obtain⟨j,h1,h2,h3,h4,h5⟩:=oe0 he;obtain⟨w,ew,M⟩:=`uJ h2;have hl:=`cw;have hn:=vu0;have J:`afa:=`afb
 by_cases h0:`eV
 ·have hj:`dr=j:=by
   rw[`ND h0 h5] at h1;exact `sH
  exact item_listR `iS h0 `i `afc J hs
 ·have hj:(i+`afd).toNat=j:=by
   rw[`NE `i h4] at h1;rw[`bd,← hl];exact `sH
  exact `afe (x:=w) `aff `afg
   (wpAny_getItem_list_neg (Q:=`afh) `iS `i `afi `i `afc `afj) hs
theorem er0:IxR X (Xa0 X.K):=by
 intro value slice pins s σ H x y v u Q I rx ry h hs;obtain⟨p,xs,i,z,rfl,rfl,hq,he,q⟩:=h;cases rx;obtain⟨t,rfl⟩:=ry;obtain⟨its,r,pl,hz⟩:=`ha;obtain⟨j,h1,h2,h3,h4,h5⟩:=oe0 he;obtain⟨w,ew,M⟩:=`uJ h2;have hl:=`cw;have hn:=vu0;have J:`afa:=`afb;exact `afe (x:=w) pl.typeIs slot_tuple_getitem.lookup
  (getItem_tuple (j:=j) (Q:=`afh) pl `i `i (by rw[`bd,← hl];exact h1) (by simpa using ew) `afj) hs
theorem Wp0:IxR X Xj0:=by
 intro value slice pins s σ H x y v u Q I rx ry h hs;obtain⟨z,i,c,rfl,rfl,hz,he,q⟩:=h;obtain⟨t,rfl⟩:=rx;obtain⟨t',rfl⟩:=ry;obtain⟨j,h1,h2,h3,h4,h5⟩:=oe0 he;have hl:z.cps.toList.length=`Hl:=by simp[Str.length]
 rw[hl] at h1 h4 h5;have hn:=vu0;exact tail_any (L7 s z t) slot_str_getitem.lookup (getItem_str (c:=c) (by
  have e1:`D (i < `afk)=`n:=`NI;have e2:`D (i ≥ 2 ^ 63)=`n:=`NI;rw[e1,e2,`Cm]) (by rw[h1];simpa using h2) ⟨`op,H,`dq,`ag,q⟩) hs
noncomputable def rIx(K:`y):R2:=λx y H Q=>Wz0 K x y H Q∨Xa0 K x y H Q∨Xj0 x y H Q
theorem Vf0:IxR X (rIx X.K):=io0.or (er0.or Wp0)
theorem gc0(its:`Y)(n j:Nat)(u:`E):`fU `afl `GD={ cls:=`cp,data:=`bB (its.set j u).toArray n }:=by
 simp[`fU]
theorem Inv.lst{σ:St}{s:`p}{p:`e}(I:`w)(h:`NJ) :
  ∃(its:`Y) (n:Nat),`iI/\`afm/\`fh:=by
 obtain⟨z,its,n,r,e⟩:=`bQ p _ h;exact⟨its,n,r,e,z⟩
theorem Inv.lstUpd{σ:St}{s:`p}{p:`e}{ys:`K}{its its':`Y}{n n':Nat}{f:Obj->Obj}(I:`w)(h:`NJ)
  (ho:`afm) (hf:f `GD=`afn) (r:`afo) (hz:`uM) (t:Nat) :
  Inv X `h σ (upd H p `oc) { s with heap:=`kl p f,toks:=t }:=by
 have e:(`kl p f).get? p=`a `afn:=by
  rw[Heap.get?_update_self f ho (by rw[hf]<;>rfl),hf]
 refine `NK (x:=p) (e:=p) (by rw[h];trivial) `gt (λb u hb q=>`y_ q) `Cn ?_;exact⟨hz,its',n',r,e⟩
noncomputable def U10:`MG:=λo i v H Q=>∃p xs k j,o=`eT/\i=`o_/\`NJ/\ixN `av k=`uL/\Q `afp
theorem set_list:j80 X U10:=by
 intro pins s σ H o i v ov iv u Q I ro ri rv h;obtain⟨p,xs,k,j,rfl,rfl,hp,hj,q⟩:=h;cases ro;obtain⟨t,rfl⟩:=ri;obtain⟨its,n,r,ho,hz⟩:=I.lst hp;obtain⟨h1,h2,h3,h4⟩:=ig0 hj;have hl:=`cw;have hn:=vu0;have I':Inv X `h σ `afp { s with heap:=`kl p (`fU `afl) } :=
  I.lstUpd hp ho (gc0 its n j u) (r.set rv j) (by rw[`afq];exact hz) `bu
 by_cases h0:`iT
 ·have hk:`NL=j:=by
   rw[`ND h0 h4] at h1;exact `sH
  exact W.ki_setAt ho h0 `i (by rw[`bd,← hl];exact h4) `afr
 ·have hk:(k+`afd).toNat=j:=by
   rw[`NE `i h3] at h1;rw[`bd,← hl];exact `sH
  exact W.ki_setBack ho `i (by rw[`bd,← hl];exact h3) `i `afr
theorem j40(lo hi:`aX)(n:Nat):(`NM).1=((`fK n 0 lo:Nat):Int)/\(`NM).2.1=((`fK n n hi:Nat):Int)/\(`NM).2.2=1:=by
 refine⟨?_,?_,rfl⟩
 ·cases lo with
  | none=>simp[`r1,`fK]
  | some i =>
   simp only[`r1,`fK,`afs,`aft,`dA]
   by_cases h:i<0
   ·simp only[h,`dA]<;>omega
   ·simp only[h,`b?]<;>omega
 ·cases hi with
  | none=>simp[`r1,`fK]
  | some i =>
   simp only[`r1,`fK,`afs,`aft,`dA]
   by_cases h:i<0
   ·simp only[h,`dA]<;>omega
   ·simp only[h,`b?]<;>omega
theorem mq0(its:`Y)(lo hi:`aX):slicePick `bP lo hi `c=((its.drop (`afu)).take (`fK `lI `lI hi - `afu)).toArray:=by
 obtain⟨h1,h2,h3⟩:=j40 lo hi `gE;unfold slicePick;rw[h1,h2,h3];simp only[sliceRange_one,pick_run,`bd]<;>rfl
noncomputable def Tj0(K:`y):`mY:=λx lo hi H Q=>∃a xs,`ew/\`n0/\∀p,`cO->Q `cX (upd H p (`afv))
theorem Z90:SlR X (Tj0 X.K):=by
 intro pins s σ H x v vl vu lo hi sl Q I rx hs pl pu h;obtain⟨a,xs,rfl,hx,q⟩:=h;cases rx;obtain⟨its,r,ht,hz⟩:=`d9 hx;have J:=`cw;refine⟨`c9,_,`afg,ht.isList.typeIs,?_⟩;refine wpAny_getItem_list_slice ht.isList hs pl pu `Z `aO ?_ `afi;rw[mq0,← J];refine⟨`hE,_,`kY (t':=`bu) (o:=`afv) (`Cd) `a_ ?_,rfl,`NA⟩;exact⟨`ae3,_,0,`ae4,`gp⟩
noncomputable def xr0:V->`M
 | `z=>`b
 | `bk=>`b
 | `bL=>`b
 | `bg=>`b
 | _=>`n
noncomputable def eqV:V->V->`M
 | `z,`z=>`b
 | `pX,`ct=>`g7
 | `pX,`iv=>`NN
 | `mZ,`ct=>`NO
 | `mZ,`iv=>`g7
 | `Co,`uN=>`g7
 | _,_=>`n
theorem Wh0{s:`p}{y x:V}{v:`E}(ry:`dV)(rx:`hc)(fy:`afw)(fx:`NP):`yW A s u v (`Hm):=by
 cases y with
 | non =>
  cases ry;cases x with
  | non=>cases rx;exact E5 _
  | bl b=>cases rx;exact w4 b
  | int b=>obtain⟨t,rfl⟩:=rx;exact T0 b t
  | str b=>obtain⟨t,rfl⟩:=rx;exact U1 b t
  | _=>exact `Cp
 | bl a =>
  cases ry;cases x with
  | non=>cases rx;exact w8 a
  | bl b=>cases rx;exact x0 a b
  | int b=>obtain⟨t,rfl⟩:=rx;exact x3 a b t
  | str b=>obtain⟨t,rfl⟩:=rx;exact x4 a b t
  | _=>exact `Cp
 | int a =>
  obtain⟨t',rfl⟩:=ry;cases x with
  | non=>cases rx;exact U2 a t'
  | bl b=>cases rx;exact x5 a t' b
  | int b=>obtain⟨t,rfl⟩:=rx;exact W1 a t' b t
  | str b=>obtain⟨t,rfl⟩:=rx;exact N0 a t' b t
  | _=>exact `Cp
 | str a =>
  obtain⟨t',rfl⟩:=ry;cases x with
  | non=>cases rx;exact X0 a t'
  | bl b=>cases rx;exact x6 a t' b
  | int b=>obtain⟨t,rfl⟩:=rx;exact N4 a t' b t
  | str b=>obtain⟨t,rfl⟩:=rx;exact X1 a t' b t
  | _=>exact `Cp
 | _=>exact `I (show `xn from fy) A9
noncomputable def eqU(x:V)(u:`E):`M:=match u with
 | `Z=>eqV `z x
 | `BH=>eqV `tf x
 | `d i _=>eqV `dG x
 | `s z _=>eqV `y! x
 | _=>`n
theorem fx0{x y:V}(r:`dV)(f:`afw):eqU x u=`Hm:=by
 cases y with
 | non=>cases r;rfl
 | bl b=>cases r;rfl
 | int i=>obtain⟨t,rfl⟩:=r;rfl
 | str z=>obtain⟨t,rfl⟩:=r;rfl
 | _=>exact `I (show `xn from f) A9
theorem uz0{x:V}:∀{xs:`K} {us:`Y},`c4->`Cq->us.any `lJ=`afx
 | _,_,`J,_=>rfl
 | y::xs,u::us,`c5,f=>by
  rw[`iU,`a?] at f;rw[`ga,`ga,fx0 r f.1,uz0 t f.2]
theorem xw0{s:`p}{x:V}{v:`E}(rx:`hc)(fx:`NP):∀{xs:`K} {us:`Y},`c4->`Cq->∀u∈us,`yW A s u v (eqU x u)
 | _,_,`J,_=>λu hu=>by cases hu
 | y::xs,u::us,`c5,f=>λu' hu=>by
  rw[`iU,`a?] at f;rcases `be hu with rfl|hu
  ·rw[fx0 r f.1];exact Wh0 r rx f.1 fx
  ·exact xw0 rx fx t f.2 u' hu
noncomputable def inV(x:V)(xs:`K):`M:=`afx
noncomputable def rIn(K:`y)(neg:`M):R2:=λx y H Q=>∃p xs,y=`eT/\(`Cl∨`NH)/\`NP/\`Cq/\Q (.bl (if neg then !inV x xs else inV x xs)) H
theorem mg0:OpR X (`cK .In) (rIn X.K `n):=by
 intro pins s σ H x y v u Q I rx ry h;obtain⟨p,xs,rfl,hq,fx,fs,q⟩:=h;cases ry;rcases hq with hq|hq
 ·obtain⟨its,r,pl,hz⟩:=`ev
  refine SeqAt.in_listAt `lJ `iS `Cr `Cs;rw[`Ct,`Cu];exact q
 ·obtain⟨its,r,pl,hz⟩:=`ha
  refine SeqAt.in_tupleAt `lJ pl `Cr `Cs;rw[`Ct,`Cu];exact q
theorem lr0:OpR X (`cK `pR) (rIn X.K `b):=by
 intro pins s σ H x y v u Q I rx ry h;obtain⟨p,xs,rfl,hq,fx,fs,q⟩:=h;cases ry;rcases hq with hq|hq
 ·obtain⟨its,r,pl,hz⟩:=`ev
  refine SeqAt.notIn_listAt `lJ `iS `Cr `Cs;rw[`Ct,`Cu];exact q
 ·obtain⟨its,r,pl,hz⟩:=`ha
  refine SeqAt.notIn_tupleAt `lJ pl `Cr `Cs;rw[`Ct,`Cu];exact q
theorem so0:`d' X `NQ (λxs H Q=>∃p ys,`kh/\(`NR∨`NS)/\`afy):=by
 intro pins s σ H xs us Q I r h;obtain⟨p,ys,rfl,hq,q⟩:=h;obtain⟨u,rfl,rx⟩:=`kW;cases rx;have hn:=vu0;rcases hq with hq|hq
 ·obtain⟨its,r',pl,hz⟩:=`ev
  have J:=`uO;exact Calls.call_len_list `iS `uP `afz
 ·obtain⟨its,r',pl,hz⟩:=`ha
  have J:=`uO;exact len_tuple pl `uP `afz
theorem ki0:`d' X `NQ (λxs H Q=>`afA):=by
 intro pins s σ H xs us Q I r h;obtain⟨z,rfl,hz,q⟩:=h;obtain⟨u,rfl,t,rfl⟩:=`kW;have hn:=vu0;exact len_str `i ⟨`Hn,H,`dq,`ag,q⟩
theorem CallR.or{f:`E}{r':`lH}(h:`d' X f r)(h':`d' X f r'):`d' X f (λxs H Q=>`BV∨r' xs H Q):=by
 intro pins s σ H xs us Q I rs q;rcases q with q|q
 ·exact h `h s σ H xs us Q I rs q
 ·exact h' `h s σ H xs us Q I rs q
theorem rh0:`d' X `sL (λxs H Q=>∃p ys,`kh/\(`NR∨`NS)/\`afB):=by
 intro pins s σ H xs us Q I r h;obtain⟨p,ys,rfl,hq,q⟩:=h;obtain⟨u,rfl,rx⟩:=`kW;cases rx;have J:∀(its:`Y),`afC->`uM->∀(h':`Q) (c':Nat),(∀b o',`w8=`a o'->`Ve) ->
   `NT=`a { cls:=`cp,dict:=`c,data:=`bB `bP c',slots:=#[] }->EP X `h σ Q `l? `gA:=λits r' hz h' c' kp e =>
  ⟨`hE,_,`kY (t':=`bu) kp `a_ (show `b3 `aU X.w _ h' _ `oc from ⟨hz,its,c',r',e⟩),rfl,`NA⟩
 rcases hq with hq|hq
 ·obtain⟨its,r',pl,hz⟩:=`ev
  have M:=`uO;obtain⟨o,ho,hc,n,hd⟩:=`iS;exact `afD p `gt ho hc hd `afE `uP
 ·obtain⟨its,r',pl,hz⟩:=`ha
  have M:=`uO;obtain⟨o,ho,hc,n,hd⟩:=pl;exact `afD p (`bA) ho hc hd `afE `uP
theorem S9:`d' X (`eJ) (λxs H Q=>∃p ys,`kh/\((`NR/\`afF)∨(`NS/\Q `cX H))):=by
 intro pins s σ H xs us Q I r h;obtain⟨p,ys,rfl,h⟩:=h;obtain⟨u,rfl,rx⟩:=`kW;cases rx;rcases h with⟨hq,q⟩|⟨hq,q⟩
 ·obtain⟨its,r',pl,hz⟩:=`ev
  have J:=`uO;refine call_tuple_list `iS (λh' kp=>?_) `uP;have I1:`BM:=I.kept (t':=`bu) kp;have I2:Inv X `h σ (upd H `IX `xG) { s with heap:=h'.push { cls:=`eJ,data:=`bB `bP } } :=
   `G? (t':=`bu) (`n2) `a_ (show `b3 `aU X.w _ _ _ `xG from ⟨hz,its,r',`NB⟩)
  exact⟨`x `IX,_,I2,rfl,q _ (`xk)⟩
 ·obtain⟨its,r',pl,hz⟩:=`ha
  exact call_tuple_same pl ⟨`eT,H,I,rfl,q⟩
noncomputable def tyV(K:`y)(T:`ck)(x:V)(H:Hp):Prop:=match x with
 | `bg=>T = `hi
 | `bL=>T = `hd
 | `eT=>(T = `c9/\∃xs,`Cl)∨(T = `d1/\∃o,`aC p=`ab/\`Bf/\`Bg) ∨
   (T = `yN/\((∃kvs,`I!)∨∃kvs,H p=`Xf))∨(T = "set"/\∃S n,H p=`a (.set S n))
 | _=>`bt
theorem e00{σ:St}{s:`p}{T:`ck}{x:V}{v:`E}(I:`w)(r:`hc)(ty:tyV X.K T x H) :
  `jQ v T/\∀a,`gH->∃ob,`w!=`Bo/\`afG:=by
 cases x with
 | str z =>
  obtain⟨t,rfl⟩:=r;cases (show T = `hi from ty);exact⟨L7 s z t,λ_ e=>nomatch e⟩
 | int i =>
  obtain⟨t,rfl⟩:=r;cases (show T = `hd from ty);exact⟨`NU s i t,λ_ e=>nomatch e⟩
 | ref p =>
  cases r;rcases ty with⟨rfl,xs,hq⟩|⟨rfl,o,hk,hc,hd⟩|⟨rfl,hk⟩|⟨rfl,S,n,hk⟩
  ·obtain⟨its,_,pl,_⟩:=`ev
   refine⟨`aff,λa e=>?_⟩;cases e;obtain⟨o,n,e,c,hd,_⟩:=pl;exact⟨o,e,hd⟩
  ·refine⟨⟨o,`eP p o hk,hc⟩,λa e=>?_⟩
   cases e;exact⟨o,`eP _ o hk,hd⟩
  ·have z:∃o,`cJ p=`ab/\`LR:=by
    rcases hk with⟨kvs,hk⟩|⟨kvs,hk⟩
    ·obtain⟨_,_,_,_,o,_,_,e,ex,_⟩:=`NV
     exact`afH
    ·obtain⟨_,_,_,_,o,_,_,e,ex,_⟩:=`NV
     exact`afH
   obtain⟨o,e,ex⟩:=z;refine`afI;cases e2;exact`afJ
  ·obtain⟨o,_,_,_,e,ex,_⟩:=`NV
   refine`afI;cases e2;exact`afJ
 | _=>exact `fJ ty
noncomputable def Tr0(K:`y)(T:`ck)(r:`hh)(to:TE):TE:=fun σ H Q=>to σ H λx H1=>`afK/\r x [] H1 Q
noncomputable def tBM(K:`y)(T:`ck)(r:`hh)(to:TE)(t:TA):TE:=fun σ H Q=>to σ H λx H1=>`afK/\t σ H1 λxs H2=>r x xs H2 Q
variable{to:TE}{t:TA}{T id:`ck}{r:`hh}
theorem W10(pa:PlainAttrs T)(slot:`afL)(hty:`afM)(hm:`afN)(ho:`MI)
  (hbase:`afO:=by rfl) (hline:`gb:=by rfl):PE X (`bC `afP [] [] `cy) (Tr0 X.K T r to):=by
 intro pins s σ H Q I h;refine wpAny_Call_method0_late `hj `hk `afQ;obtain⟨h1,h2⟩:=`afR;exact⟨T,id,pa,slot,hty,h1,h2,x9 rfl (PySem.evalArgs_none (hm `h s1 σ H1 x [] v [] Q I1 r1 `J q1))⟩
theorem q60(pa:PlainAttrs T)(slot:`afL)(hty:`afM)(hm:`afN)(ho:`MI)(ha:`uF)
  (hbase:`afO:=by rfl)
  (hfew:((`fE `cy (`V0)).all `Ii&&`Ij
  &&`D (`NW+`yB+`yC<30))=`b:=by rfl)
  (hline:`gb:=by rfl) (hs:`dW:=by rfl) (hplain:`afS=`n:=by rfl) :
  PE X (`bC `afP `fI [] `cy) (tBM X.K T r to t):=by
 intro pins s σ H Q I h;refine wpAny_Call_method_late `hj `k_ `hk rfl `afQ;obtain⟨h1,h2⟩:=`afR;refine⟨T,id,pa,slot,hty,h1,h2,?_⟩;have hA:=ha `cy `h s1 σ H1 _ I1 q1;rw[hs] at hA ⊢;refine x9 (by show (`n||`afS)=`n;rw[`m_]<;>rfl) (`afT ?_);exact thn hA λus s2 ⟨vs,H2,I2,r2,q2⟩=>hm `h s2 σ H2 x vs v us Q I2 r1 r2 q2
universe zz
noncomputable def MtM(X:Cx)(id:`ck)(r:`hh):Prop :=
 ∀(pins:`an) (s:`p) (σ:St) (H:Hp) (x:V) (xs:`K) (v:`E) (us:`Y) (Q:VK),`w->`hc->`c4->`ae9 ->
  `ae'
theorem Vals.one:∀{x:V} {us:`Y},`adR->`adS
 | _,_,`afU=>`U3
theorem Vals.two:∀{x y:V} {us:`Y},`br `y8 us->∃u v,us=[u,v]/\`fH/\`cI y v
 | _,_,_,`X r (`X q `J)=>⟨_,_,rfl,r,q⟩
theorem Vals.zero:∀{us:`Y},`br [] us->us=[]
 | _,`J=>rfl
theorem Vals.dropLast(h:`c4):`br `Cv us.dropLast:=by
 induction h with
 | nil=>exact `J
 | cons r t ih =>
  cases t with
  | nil=>exact `J
  | cons q t'=>exact `afV
theorem Vals.reverse(h:`c4):`br `Cw us.reverse:=by
 induction h with
 | nil=>exact `J
 | cons r t ih=>rw[`iV,`iV];exact `aa6 ih (`afU)
theorem gb0(l:`a5):l.eraseIdx (`cB - 1)=l.dropLast:=by
 induction l with
 | nil=>rfl
 | cons a r ih =>
  cases r with
  | nil=>rfl
  | cons b r =>
   have e:`afW - 1=(`afX - 1)+1:=by
    have h1:`afW=`cw+2:=rfl;have h2:`afX=`cw+1:=rfl;omega
   rw[e,List.eraseIdx_cons_succ,ih]
   all_goals rfl
section
variable{σ:St}{s:`p}{l b:`e}{ys zs:`K}
theorem Inv.lset{its its':`Y}{n:Nat}{f:`aK->`aK}{t':Nat}(I:`w)(hH:`uQ)
  (e:`afY) (hf:f `bP=`We) (hv:`afo) (hz:`uM) :
  Inv X `h σ (upd H l `oc) { s with heap:=`kl l (`fU f),toks:=t' }:=by
 have q:=PySem.IsL.update e f;rw[hf] at q;refine `NK (x:=l) (e:=l) (by rw[hH];exact `sE) `gt (λb' u hb hu=>(G0 `aw (`fU f) (B6 hb)).trans hu) ⟨_,q⟩ ?_;exact⟨hz,its',_,hv,q⟩
theorem Inv.lnew{its:`Y}{t':Nat}(I:`w)(hv:`afC)(hz:`uM) :
  Inv X `h σ (upd H `_ `oc) { s with heap:=`gB { cls:=`cp,data:=`bB `bP },toks:=t' } :=
 `kY `NX `a_ ⟨hz,its,0,hv,`gp⟩
theorem Inv.fresh(I:`w):H `_=`c:=`rZ
theorem Inv.lstM(I:`w)(hH:`uQ):`fh/\∃(its:`Y) (n:Nat),`iI/\`av=`lI/\`afY:=by
 obtain⟨z,its,n,r,e⟩:=`bQ l _ hH;exact⟨z,its,n,r,`cw,e⟩
theorem bb0(h:`pY):`NY n=`n:=by
 unfold Builtin.List.listTooLong;exact `NI
universe zz
noncomputable def Zx0:`hh:=λx vs H Q=>∃l xs y,`Cx/\vs=[y]/\`uQ/\`av<`P/\Q `z (upd H l (`q (xs++[y])))
theorem sv0:MtM X `afZ Zx0:=by
 intro pins s σ H x vs v us Q I rx rv h;obtain⟨l,xs,y,rfl,rfl,hH,hz,q⟩:=h;cases rx;obtain⟨u,rfl,ru⟩:=`Cy;obtain⟨z,its,n,r,hl,e⟩:=`NZ;refine P7 F.slot_list_append `N_ F.entry_list_append (F.args_list_append_2 _ _) (PySem.list_append l `bP n u `m0) `af_;refine⟨`z,_,I.lset (its':=its++[u]) hH e `aO (`B2 (`X ru `J)) ?_,rfl,q⟩;rw[`W,`dw];omega
noncomputable def Tn0:`hh:=λx vs H Q=>∃l xs y,`Cx/\vs=[]/\`uQ/\xs[`av - 1]?=`dm/\Q y (upd H l (`q `Cv))
theorem Wg0:MtM X "list.pop" Tn0:=by
 intro pins s σ H x vs v us Q I rx rv h;obtain⟨l,xs,y,rfl,rfl,hH,hy,q⟩:=h;cases rx;have J:=rv.zero;subst J;obtain⟨z,its,n,r,hl,e⟩:=`NZ;obtain⟨u,hu,ru⟩:=`uJ hy;have M:`bP[`gE - 1]?=`a!:=by
  show `bP[`lI - 1]?=`a!;rw[← `af0,← hl];exact hu
 refine P7 F.slot_list_pop `N_ F.entry_list_pop (F.args_list_pop_1 _) (MeetsSeq.list_pop_last l `bP n u M `m0) `af_;refine⟨y,_,I.lset (its':=its.dropLast) hH e ?_ r.dropLast ?_,ru,q⟩
 ·show its.toArray.eraseIdxIfInBounds (`gE - 1)=its.dropLast.toArray
  rw[`bd,List.eraseIdxIfInBounds_toArray,gb0]
 ·rw[List.length_dropLast]
  omega
universe L2
namespace Att
open PySem.W PySem.Calls PyProof.Rows
theorem pz0{P:`Hu}{h:`Q}:∀(ns:`u) (vs:`Y),WellAll P h vs (`jV WData.int)->`uR:=by
 intro ns
 induction ns with
 | nil =>
  intro vs w;rw[`e2] at w;cases w;exact `J
 | cons n ns ih =>
  intro vs w;rw[`L] at w;cases w with
  | cons a b =>
   cases a;exact `X _ _ (ih _ b)
theorem dk0{l:`N0}(hn:`Cz){P:`Hu}{h:`Q}{args:`af1}{vals:`Y}
  (hpre:l.row.toRowW.claim.pre `f?=`b) (hwl:WellAll P h `gQ `f?) :
  ∃a vs ns,`gQ=[`j6]/\`f?=[WData.list (`jV WData.int)]/\`fz=`Wk/\`uR/\`uS:=by
 have M:WShape.hasAll [] `f? [.list `d]=`b:=(`af2).1;have hc:l.pre.holds [] { args:=`f? }=`b:=(`af2).2;obtain⟨d,r,rfl,h1,h2⟩:=hasAllW_cons M;obtain rfl:=hasAllW_nil h2;obtain⟨xs,rfl,h3⟩:=hasW_list h1;obtain⟨ns,rfl⟩:=items_int h3;have J:`uS:=by
  unfold OpenLaw.pre at hc;have h4:(WTm.not (.lt (.lit (`ku)) (.len (.arg 0)))).holds [] { args:=[.list (`jV `d)] }=`b:=by
   have h4:=(holds_andW hc).1;rw[hn] at h4;exact h4
  have h5:=condW_of h4 (w_not (w_lt w_lit (w_len_list (w_arg rfl))));rw[`U] at h5;refine Nat.le_of_not_lt λq=>?_
  have q':`da<((`jT:Nat):Int):=`F
  first
   | (rw[`bm q'] at h5;exact `I h5 `t)
   | (simp at h5;omega)
 cases hwl with
 | cons w1 w2 =>
  cases w2;cases w1 with
  | list ho hall=>exact⟨_,_,ns,rfl,rfl,ho,pz0 ns _ hall,J⟩
theorem ep0(l:`N0)(args:`af1):l.row.toRowW.claim.post `f? `r4 `f?=`b :=
 postW_of (r:=`Hv) (X:=`af3)
  (show `af4 [] `r4 `dF=`b by first|rfl|decide|simp[`af4,WShape.arms,WShape.armsAll])
  (show (WTm.eq .res (.lit `r4)).value [] { args:=`f?,res:=`a `r4,after:=`f? }=`a (`dF `af3) from w_eq_bool (w_res rfl) w_lit) rfl
theorem jx0{l:`N0}{n:Nat}{q:`ak}{loose:`g}{XP:`A!}{YP:`A?}{d:DefRec}
  (hn:`Cz) (hdf:`N1)
  (call:∀(w:`R) (s₀ s₁:`p) (mg mb:`bq) (fa:`e) (o:Obj) (pm cd doc:`E) (a:`e) (vs:`Y) (ns:`u),
   Ground q loose [] XP w s₀ mg mb `od->YP w `od ->
   `xM fa=`ab->`nJ=`aL (docDef `Hr d.params d.body d.scope pm cd doc)->s₁.heap.CodeRec cd `Hr->`N2 ->
   `af5->`uR->`uS->`af6 ->
   `hJ (`rl `aM w) `r6 `Wn `Wo `d?) :
  WalkO q loose XP YP `Hv d [] `Wq:=by
 intro w s₀ s₁ mg mb G Y fa o pm cd doc dV kV ho hd a1 hD a0 hg a2 vals as U a3 a5 Z a4;obtain rfl:dV=`Z:=Dflts.none hD hdf;obtain rfl:kV=`Z:=Dflts.noKw hD;obtain⟨a,vs,ns,rfl,rfl,M,J,O⟩:=dk0 hn U Z;refine enter_call (r8 (`d! w s₀ `d? mg mb fa o pm cd doc a vs ns G Y ho (fd_plain hd) a1 a0 M J O hg) `ad');obtain⟨rfl,h2,h3,h4⟩:=hq;exact⟨`m ⟨`xJ,`xJ,[],rfl,`pd,`xJ,ep0 l _,λ_=>⟨`af7,λ_ hm=>(nomatch hm)⟩⟩,h2,h3,h4⟩
universe Att
namespace L2
open Spec PyProof.Rows
theorem nv0:∀{vs:`Y} {ns:`u},`uR->`br `r7 vs
 | _,_,`J=>`J
 | _,_,`X n t h=>`X `CA (nv0 h)
noncomputable def Only(H:Hp):Prop:=∀b,`cs∨∃o xs,H b=`xQ
theorem cv0{P:`ak}{w:`R}{K:`y}{mg mb:`bq}{CX:CXT}{k:Nat}{fa a:`e}{fd:`ff}{x:Str}{sp:Sp}{s₁:`p}{vs:`Y}{ns:`u}
  (KX:K.In `od) (hns:`N3 `aa mg) (hb:`N3 `L' mb) (hbb:`abB) (hlim:s₁.heap.NoLimit) (hg:`af6)
  (ha:`af5) (hi:`uR) (hl:`jT<=`P) (hr:`N4)
  (F:∀base:`Q,`L9->`uj->`ah P w K mg `r CX k fa fd [x] sp) (hbind:`N5)
  (hsp:∀H:Hp,Only H->`N6->sp `jU H `CB `iQ)
  (hCX:∀H e s',CX [] H `d? (`iQ) e s'->`bt) :
  `af8:=by
 have rv:=nv0 hi;have Z:=hi.length;have O:∀H:Hp,Only H->`N6->HOk P w H `od->(∀b,H b≠`c->b=a)->(H a≠`c->`aC a=`c) ->
   `af8:=by
  intro H hO hS hok hA hK;have J:∀{b:`e} {o:Obj},`xM b=`ab->`cs->(`uT).get? b=`ab:=λe n=>cn0 e n
  have a0:∀{b:`e} {o:Obj} {es:`ri DictEntry} {ep:Nat},`xM b=`ab->`LS->`cs:=λ{b o es ep} e d=>by
   cases q:H b with
   | none=>rfl
   | some u =>
    have e':b=a:=`af9;subst e';rw[ha] at e;cases e;have d':Data.seq `lK _=Data.dict es ep:=d;cases d'
  have M:∀{b:`e} {m:`bq},`N3 b m->(`uT).Ns b m:=λ{b m} ⟨o,es,ep,e,d,r⟩=>⟨o,es,ep,J e (a0 e d),d,r⟩
  have U:K.In (`uT):=λb o e=>J (KX b o e) (by
   cases q:H b with
   | none=>rfl
   | some u =>
    have e':b=a:=`af9;subst e';rw[hK (`Ht)] at e;cases e)
  have hM:Mod K mg (`uT):=⟨U,M hns,⟨mb,M hb,hbb⟩,let ⟨mc,h1,h2⟩:=hlim;⟨mc,M h1,h2⟩⟩;have e0:Env0 P w K mg (`uT) `r6 [] `d? H:=⟨rfl,hM,λb o e=>X50 e,y0 (fa0 _ _),`sE,λb hb=>`I (show `V3 from hb) `aO,hok,.of_eq hg⟩;refine r8 ((F _ U (M hns)).run `r6 [] `d? H `Wl `jU `jU _ _ hr e0 (hbind `d? `d6) (`X rfl `J) (hsp H hO hS)) λr s' h=>?_
  cases r with
  | error e=>exact(hCX H e s' h).elim
  | ok fl =>
   cases fl with
   | next=>exact `fJ h
   | brk=>exact `fJ h
   | cont=>exact `fJ h
   | ret u =>
    obtain⟨v,H',os,bare,un,Y,r',q⟩:=h;have q':v=`oe:=q;subst q';obtain rfl:u=`CC:=r';refine⟨rfl,OldK.of_keep `af',os,bare⟩;cases q:H b with
    | none=>exact un.keep b o e q (by intro z;exact `aej) `aO
    | some u =>
     rcases hO b with z|⟨ob,xs,z⟩
     ·rw[q] at z;cases z
     ·have z2:=un.frzs b ob _ z
      obtain⟨e1,_⟩:=hok b _ z;obtain⟨e2,_⟩:=Y b _ z2;rw[e] at e1;cases e1;exact e2
 cases hk:`aC a with
 | some o =>
  have e:=KX a o hk;rw[ha] at e;cases e;refine O (`Nl) (λ_=>`b4) (`l ⟨_,`lK,_,hk,rfl,rfl,rfl,by rw[`bd,Z];exact hl,`acM⟩) (λb u z=>by have z':(`c:`pH)=`a!:=z;cases z') (λb z=>`af!) λz=>`af!
 | none =>
  refine O (λb=>if b=a then `a (`fA `Hq (`q `r7)) else `c) (λb=>?_) (`m (`l ⟨`Hq,`bx⟩)) (λb u z=>?_) (`sD) λ_=>hk
  ·by_cases hb:b=a
   ·exact `l ⟨_,_,`m1⟩
   ·exact `m (`hl)
  ·by_cases hb:b=a
   ·have z':=(`m1).symm.trans z
    cases z';subst hb;exact⟨ha,by rw[`U];exact hl,vs,_,rv,ha⟩
   ·have z':=(`hl).symm.trans z
    cases z'
  ·by_cases hb:b=a
   ·exact hb
   ·exact `I (`hl) z
theorem Yt0{l:`N7}{n k:Nat}{q:`ak}{loose:`g}{XP:`A!}{YP:`A?}{d:DefRec}{K:`af?}{CX:`R->CXT}{sp:`R->Sp}{x:Str}
  (hn:`Cz) (hn2:`pY) (hdf:`N1) (hr:`N4)
  (hY:`aga)
  (F:∀(w:`R) (mg:`bq) (fa:`e) (h:`Q),`r8 h->`N8->`N2 ->
   ∃fd:`ff,(`N5) /\
    ∀base:`Q,`r8 `r->`uj->`ah `aM w `og mg `r (CX w) k fa fd [x] (sp w))
  (hsp:∀(w:`R) (H:Hp) (a:`e) (ns:`u),`uS->Only H->`agb->sp w `jU H `CB `iQ)
  (hCX:∀(w:`R) (H:Hp) (s:`p) (e:`E) (s':`p),CX w [] H s (`iQ) e s'->`bt) :
  `agc:=by
 refine Att.jx0 hn hdf λw s₀ s₁ mg mb fa o pm cd Z a vs ns G Y ho hd a0 U O M J hg=>?_
 have KX:=hY w _ Y;obtain⟨fd,hb,hF⟩:=F w mg fa _ KX G.T.g U;exact cv0 KX G.T.g G.T.b G.T.builtins G.T.nolimit hg O M (B5 J hn2) hr hF hb (λH hO hS=>hsp w H a ns J hO hS) λH e s'=>hCX w H `d? e s'
noncomputable def Z0(s:`bp):Arguments:=match s with
 | `N9 _ a _ _ _ _ _ _ _ _=>a
 | _=>{ posonlyargs:=[],args:=[],vararg:=`c,kwonlyargs:=[],kw_defaults:=[],kwarg:=`c,defaults:=[] }
noncomputable def g8(s:`bp):`bY:=match s with
 | `N9 _ _ b _ _ _ _ _ _ _=>b
 | _=>[]
noncomputable def t7(s:`bp):`ca:=match s with
 | `N9 _ _ _ _ _ _ sc _ _ _=>sc
 | _=>{ kind:=`lN,names:=[],isGenerator:=`n,isCoroutine:=`n }
abbrev CX0:CXT:=λ_ _ _ _ _ _=>`bt
abbrev E0:XK:=`iQ
theorem gm0:j30 CX0 X E0:=λ_ _ _ _ _ _ _ h=>`kT
structure Fun(K:`y)(x qual:Str)(st:`bp)(f:`e)(fd:`ff):Prop where
 ex:∃(oc:`E) (od:`fe) (kV doc pm:`E) (an:`fe) (cdv ct:`E) (osl:`mX),
  fd=`CD/\`aC f=`a ⟨oc,od,`aL fd,osl⟩/\`Nn
 kp:`agd
section
variable{P:`ak}{w:`R}
theorem Fun.ok{st:`bp}{f:`e}{ps:`g}{k:Nat}(F:`age)(S:`CE)(len:`Nf)
  (hbody:∀(cdv:`E) (A:`bU) (outer:`eu) (s:`p) (H:Hp) (vs:`K) (Q:VK) (E:XK),`gC k (`rP (`xr `dH `oh `_ f cdv))->`xq ->
   ∃t,PSs (tj0 CX0 P w K mg `r N `dH `oh f cdv A `bS s H E).nox `xP t/\`aeo):`ah P w K mg `r CX0 `gS f fd ps sp:=by
 obtain⟨oc,od,kV,O,pm,an,cdv,ct,U,rfl,lk,M⟩:=F.ex;refine Vt0 lk M S len λA outer s H vs Q E hr J=>?_
 obtain⟨t,h,q⟩:=hbody cdv A `bS s H vs Q E hr J;exact⟨t,h.nox,q⟩
theorem Fun.binds{st:`bp}{f:`e}{ps:`g}(F:`age)
  (h:∀(kV doc pm:`E) (an:`fe) (cdv ct:`E) (us:`Y),`kM=`ar->`Ng (`CD) `B1=`b2 `uE):`Il:=by
 obtain⟨oc,od,kV,doc,pm,an,cdv,ct,M,rfl,lk,J⟩:=F.ex;exact .all (h kV doc pm an cdv ct)
theorem W4{st:`bp}{f:`e}{oc:`E}{an:`fe}{osl:`mX}{kV doc pm cdv ct:`E}(l:`aC f=`a ⟨oc,od,`aL (`CD),osl⟩)
  (c:`Nn) (k:`agd):Fun K x `dH st f (`CD):=⟨⟨oc,od,kV,doc,pm,an,cdv,ct,osl,rfl,l,c⟩,k⟩
universe zz
theorem X5{k:Nat}(hr:`uD):`uU:=I0 (Nat.add_le_add_left (`aq:1<=64) _) `A9
structure Same(H H':Hp):Prop where
 old:`agf
 nf:∀b o xs,`agg
instance{H H':Hp}:`dk (`aD) (λ_=>`agf):=⟨Same.old⟩
theorem Same.refl(H:Hp):`cU H H:=⟨λ_ _ h=>h,λ_ _ _ h=>h⟩
theorem Same.trans{H1:Hp}(a:`cU H H1)(b:`N'):`cU H H2:=⟨λc o h=>b c o (a c o h),λc o xs h=>a.nf c o xs (b.nf c o xs h)⟩
theorem Same.free(e:`aD){l:`e}(h:H' l=`agh):H l=`agh:=by
 cases q:H l with
 | none=>rfl
 | some o =>
  rw[e l o q] at h;cases h
noncomputable def Its(x:Str):It:=⟨λi _=>i<`uV,λi H v H'=>H'=H/\∃c,`N!=`c!/\v=`op,λi _=>`uV<=i⟩
theorem lu0{P:`ak}{w:`R}{K:`y}{tg:`G}(it:`e)(T:`ck)(hT:T = `agi∨T = `agj)(x:Str)(t:Tok) :
  Turn P w K tg (Its x) [it] it (λi h=>h.IsStrIter it T x t i) where
 mem:=`bs
 obj:=λi h st b hb=>by
  have e:b=it:=`g!
  subst e;obtain⟨o,e,c,d⟩:=st;exact`MZ
 keep:=λi h h' st k=>by
  obtain⟨o,e,r⟩:=st;exact⟨o,`VG,r⟩
 item:=by
  intro X hP hw hK hc i pins s σ H E I hf st hg;subst hP hw hK;have U:i<`uV:=hg;have hx:`N!=`a `Ws:=by simp[U]
  obtain⟨f0,f1,f2,f3,f4,f5⟩:=`kV;have M:∀h',h'.IsStrIter it T x t `bE->`ry it `aw h' ->
    ∃u,(`a (`w0 `agk `bu))=`a!/\`o `ac X.A `MU (λ_ s2=>∃x_1 H',`MV/\`cI x_1 u/\(Its x).yld i H x_1 H'/\s2.heap.IsStrIter it T x t `bE/\∀b∈[it],`nQ) E `CF:=by
   intro h' J sb;have I1:Inv X `h σ H `CF:=`xj `G0 f0 f1 f3 f4 f5;obtain⟨o,e,c,d⟩:=id J;refine⟨_,rfl,lb0 (s:=`CF) (n:=T) e c d (by rcases hT with rfl|rfl<;>decide) ⟨`s `agk,H,I1,`ag,⟨rfl,_,hx,rfl⟩,J,`BQ⟩⟩
  rcases hT with rfl|rfl
  ·exact wpAny_pyNext_ascii_item st hx `agl
  ·exact wpAny_pyNext_wide_item st hx `agl
 done:=by
  intro X hP hw hK hc i pins s σ H E I hf st hg;subst hP hw hK;have O:`uV<=i:=hg;have hx:`N!=`c:=by simp[O]
  obtain⟨f0,f1,f2,f3,f4,f5⟩:=`kV;rcases hT with rfl|rfl
  ·exact wpAny_pyNext_ascii_end `iR st hx `ux
  ·exact wpAny_pyNext_wide_end `iR st hx `ux
 self:=λ_ _ _ _ _ st h=>by
  rcases hT with rfl|rfl
  ·exact wpAny_pyIter_striter_ascii st h
  ·exact wpAny_pyIter_striter_wide st h
noncomputable def Ts0(te:TE):TI:=fun σ H R=>te σ H λv H1=>∃x,`CG/\R (Its x) H1
theorem Vd0(he:`fm):PI X tg e (Ts0 te):=by
 intro pins s σ H R I h;refine `acP
 obtain⟨x,rfl,q⟩:=q1;obtain⟨t,rfl⟩:=r1;have fp:∀(o:Obj),∀b∈`uy,ua0 X `h H1 b:=λo b hb=>by
  have e:b=`eS:=`g!
  subst e;exact `uz
 cases ha:x.cps.all (·<128) with
 | true =>
  exact wpAny_pyIter_ascii ha ⟨`eS,`uy,_,_,H1,rfl,`BR,lu0 _ `agi `gt x t,`BS,`agm,q⟩
 | false =>
  exact wpAny_pyIter_wide ha ⟨`eS,`uy,_,_,H1,rfl,`BR,lu0 _ `agj (`bA) x t,`BS,`agm,q⟩
noncomputable def Z3(X:Cx)(scope:`ca)(cl:`m2)(N':`g)(s:`p)(H:Hp)(ex:`aB):Cx :=
 { X with N:=N',s₀:=s,H₀:=H,env:=compEnvC `cd cl `_ `A,outer:=`gy,ex:=ex,fn:=λ_=>`n,pn:=[],xe:=`xX }
structure CompOk(sc scope:`ca)(N N':`g)(n:Nat)(caps:`j):Prop where
 kind:scope.kind=`lN
 nocell:∀y∈`gD,y.2≠`nM
 loc:∀y∈`gD,y.2=.local->`aeq
 free:∀y∈`gD,y.2=`gw->`rt y.1=`gv∨`rt y.1=`iL
 nd:N'.Nodup
 len:N'.length=n+`uW
 cap:∀k∈`b6 `uW,`N?=(`Jl).bind (N[·]?)/\(`N?).all (λy=>`B6==`iL)=`b
noncomputable def Q7(n:Nat)(caps:`j)(σ:St):St:=`fQ n `c++`agn
theorem e70(n:Nat)(caps:`j)(σ:St):`ago=n+`uW:=by simp[Q7]
theorem vy0{env:Env}:∀(names:`agp),(∀x∈`uX,`agq)->∀acc:`m2,
  ∃cl:`m2,(`oJ `uX acc (λ(x:`Wv) (cs:`m2)=>if (x.2==`gw)=`b then do let a ← cellOf env x.1;`b2 (`xW ((x.1,a)::cs)) else `b2 (`xW cs)):Sem (`m2))=`b2 cl /\
   (∀y c,`Oa->`xR y=`c!∨`agr)/\(∀x∈`uX,`Ob)/\(∀y c,`agr->∃c',`r9 y=`a c')
 | [],_,acc=>⟨acc,rfl,λ_ _ h=>`l h,(λ_ h=>nomatch h),λ_ c h=>⟨c,h⟩⟩
 | `Oc,h,acc=>by
  cases hk:(`Hz) with
  | true =>
   have hk':k=`gw:=by simpa using hk
   obtain⟨c,hc⟩:=h `xS A6 hk';obtain⟨cl,e,h1,h2,h3⟩:=vy0 r (`pZ) ((n,c)::acc);refine⟨cl,?_,`ags,`agt,`ags⟩
   ·rw[`CH]
    simp only[hk,`dA,cellOf,hc,pure_bind];exact e
   ·rcases h1 y d hy with z|z
    ·exact `fR
    ·rw[`fp] at z
     cases q:(y==n) with
     | true =>
      rw[q] at z;cases z;have:y=n:=`M2
      subst this;exact `m hc
     | false =>
      rw[q] at z;exact `p_
   ·rcases `uY with rfl|hx
    ·exact h3 n c (by simp[`fp])
    ·exact `agu
   ·by_cases q:y=n
    ·subst q
     exact h3 y c (by simp[`fp])
    ·refine h3 y d ?_
     have:(y==n)=`n:=`M2
     rw[`fp,`C];exact hy
  | false =>
   obtain⟨cl,e,h1,h2,h3⟩:=vy0 r (`pZ) acc;refine⟨cl,?_,h1,`agt,h3⟩
   ·rw[`CH]
    simp only[hk,`p0,`b?,pure_bind];exact e
   ·rcases `uY with rfl|hx
    ·have:k=`gw:=hf
     rw[`C] at hk;exact `I hk `t
    ·exact `agu
theorem uk0{env:Env}(h:∀x∈`gD,`agq) :
  ∃cl:`m2,`agv `cd env=`b2 cl/\(∀y c,`Oa->`xR y=`c!)/\∀x∈`gD,`Ob:=by
 obtain⟨cl,e,h1,h2,_⟩:=vy0 `gD h [];refine⟨cl,?_,λy c hy=>(h1 y c hy).elim id `du,h2⟩;simp only[`agv];rw[← bind_pure (`oJ _ _ _)] at e
 first
  | exact e
  | (refine Y1 ?_ e;rfl)
theorem wv0{env:Env}:∀(names:`agp) (x:Str),
  (`J2 `Od).lookup x =
   (names.lookup x).map λk=>`Oe
 | [],_=>rfl
 | `Oc,x=>by
  have ih:=@wv0 env r x;have l1:`agw x ((`Oc).map `Od) =
    `agw x ((if `agx then (n,`r') else `xS)::r.map `Od):=rfl
  rw[l1,`fp (as:=r)]
  by_cases hc:`agx
  ·rw[`H hc,`fp]
   cases hx:x==n with
   | true =>
    have e:x=n:=`agy
    subst e;show `a `r'=`a (`Oe);rw[`H hc]
   | false=>exact ih
  ·rw[`uZ,`fp]
   cases hx:x==n with
   | true =>
    have e:x=n:=`agy
    subst e;show `eZ=`a (`Oe);rw[`uZ]
   | false=>exact ih
section
variable{w:`R}{s:`p}
theorem ka0{elt target iter:`G}{ifs:`a6}{scope:`ca}{pos:Pos}{it acc:`E}{env:Env}(I:`Of)
  (turn:∀n s,I n s->`o `aG A (`sQ it) (λr s₁=>match r with
   | `c=>R `agz `d?
   | `cb=>`o `aG A (`VF `xY it v) (λ_ s₁'=>`o `aG A (`eQ `xY env v) (λ_ s₂ =>
     `o `aG A (`oJ ifs `b λc r=>if r=`b then do let ok ← `xc c env (`bR c env);`agA else `agB) (λok s₃ =>
      if ok=`b then `o `aG A (`bR elt env) (λx s₄ =>
       `o `aG A (`d! (`fx `afZ) [acc,x]) (λ_ s₅=>∃m,m<n/\I m s₅) `k0 s₄) `k0 s₃
      else ∃m,m<n/\I m s₃) `k0 s₂) `k0 s₁') `k0 `d?) `k0 s)
  (n:Nat) (h:I n s) :
  `hJ `aG A (.compLoop `agC 0 it acc env) R s:=by
 refine codeAny_loop rfl I (λn s hI=>?_) n h;show `o _ A ((compTurn `agC 0 it acc env).onRaise (λx=>do noteFrame x env;theTreesLotGoes x)) _ _ s;refine wpAny_noted ?_;rw[compTurn_list];refine A0 (p9 (A0 (C9 (turn n s hI) (λr s₁ h₁=>?_) `p1)));cases r with
 | none=>exact A1 h₁
 | some v =>
  refine A0 (C9 h₁ (λ_ s₁' J=>?_) `p1);refine A0 (C9 J (λ_ s₂ h₂=>A0 (C9 h₂ (λok s₃ h₃=>?_) `p1)) `p1);cases ok with
  | false=>exact A1 ⟨rfl,h₃⟩
  | true =>
   exact A0 (A0 (C9 h₃ (λx s₄ h₄=>A0 (C9 h₄ (λ_ s₅ h₅=>A1 (A1 ⟨rfl,h₅⟩)) `p1)) `p1))
universe zz
noncomputable def PF(X:Cx)(ifs:`a6)(t:TT):Prop :=
 ∀(pins:`an) (s:`p) (σ:St) (H:Hp) (Q:`uq),`w->`j_ ->
  `o `ac X.A (`oJ ifs `b λc r=>if r=`b then do let ok ← `xc c `A (`bR c `A);`agA else `agB) `Mv `aA s
theorem Wn0:PF X [] λ_ H Q=>Q `b H:=λ_ _ _ H _ I h=>wpAny_tests_nil ⟨H,I,h⟩
theorem Xf0{t:TT}(h:PT X c t):PF X [c] t:=λpins s σ H Q I q=>wpAny_tests_one (h `h s σ H Q I q)
noncomputable def Wk(σ σ':St):Prop:=`Ml/\∀(j:Nat) (v:V),`agD->σ'[j]?=`lp
noncomputable def lm0(n:Nat)(caps:`j)(wi:TI)(g:TG)(tt:TT)(te:TE):TE:=fun σ H Q=>wi σ H λJ H1=>∀D,H1 D=`c ->
 ∃W:`agE,(∃m,W 0 m [] (upd H1 D `dQ))/\∀i m ys H2,`agF ->
  `agG∨(J.go i H2/\∀x H3,`agH->g x `ds H3 fun σ4 H4=>`agI/\tt σ4 H4 λb H5 =>
   `agJ)
section
variable{wi:TI}{g:TG}{tt:TT}
noncomputable def T20(X:Cx)(pins:`an)(H:Hp)(C:`e):Prop :=
 H C=`c/\C≠`dE/\`lr<=C/\(∀x c,`gx->c≠C)/\∀p∈`w9,p.1≠C
theorem ny0{pins:`an}{σ:St}{H2:Hp}{s2:`p}{it:`e}{fp:`aB}{tn:`MR}{J:It}{cl:`m2}{Q:VK}{RR:`E->`e->`aaP}{E:`ao}
  (hc:`bz) (hsc:`ez) (ok:`k1)
  (hcl1:∀y c,`Oa->`abE) (hcl2:∀x∈`gD,`Ob)
  (hg:∀s H ex,`WD) (ht:∀s H ex,`WE) (he:∀s H ex,`WF)
  (I2:`adq) (T:`ac0) (st2:`ac1) (f2:∀b∈fp,ua0 X `h H2 b)
  (q:∀D,H2 D=`c->∃W:`agE,(∃m,W 0 m [] (upd H2 D `dQ))/\∀i m ys H2,`agF ->
   `agG∨(J.go i H2/\∀x H3,`agH->g x `ds H3 fun σ4 H4=>`agI/\tt σ4 H4 λb H5 =>
    `agJ))
  (hend:∀(D C:`e) (H':Hp) (s':`p) (m:`bq),`iN->T20 X `h H' C->s'.heap.Ns C m->Q `lO H'->RR `lO C `agz s') :
  `o `ac X.A (newList []) (λacc s₃=>`o `ac X.A (newFunctionEnv `cd `L! cl [] X.env.qual `c `Z (`a `A)) (λcenv s₄ =>
   `hJ `ac X.A (.compStart `jW 0 `ly acc { cenv with scope:=`WA }) (RR acc cenv.locals) s₄) E s₃) E s2:=by
 refine P6 (wpAny_newFunctionEnv ok.nocell (by intro y hy;simp at hy) (λh₁ Y U=>?_) `rF);dsimp only at Y U ⊢;obtain⟨D,hD⟩:∃D,D=`u_:=`ag;have I3:Inv X `h σ (upd H2 `u_ `dQ) `agK:=I2.lnew (its:=[]) (t':=`HB) `J `u0;have c5:H2 `u_=`c:=I2.fresh;obtain⟨W,⟨m0,w0⟩,b1⟩:=q `u_ c5;generalize hs3:(`agK:`p)=s3 at *;have a6:`Wy=s3.heap:=`CI
 have h0:`HB=s3.toks:=`CI
 rw[a6] at Y U ⊢;generalize hH3:upd H2 `u_ (HO.lst [])=H3 at *;rw[← hD] at b1 hH3 c5 ⊢;have old:∀b o,`agL->`Og:=λb o e=>`CJ b o `acL (`n1)
 have b2:∀b o,s2.heap.get? b=`ab->`agL:=λb o e=>by rw[← a6];exact `n1
 have d1:∀b∈fp,b<`n?:=λb hb=>by
  obtain⟨o,e,_⟩:=`agM;exact A8 `agN
 have f1:∀b∈fp,b≠D:=λb hb z=>by
  obtain⟨o,e,_⟩:=`agM;rw[z,hD] at e;exact `I `nT `iJ
 obtain⟨X',M⟩:∃X',X'=`agO:=`ag;have g6:X'.Ok:=by
  subst M;refine⟨I3.ok.mod,`rF,I3.ok.glob,I3.ok.blt,`hD,λx y c h1 h2=>I3.ok.inj x y c (hcl1 x c h1) (hcl1 y c h2),`iW,λx c h _=>`I h (by simp[Z3]),I3.ok.hd,I3.ok.frames,`b4,
   λb hb=>⟨`agP,`agQ⟩,λb o e=>I3.bs b o e,B5 I3.ok.bsz I3.sz,λb o e hb=>?_,λb hb hf=>?_,I3.stack,I3.stkFree⟩
  ·have a2:(`r?=`gv)∨(`r?=`iL):=hx
   have q2:=wv0 (env:=`A) `gD x;have q3:`agR:=q2
   cases e:`n7 x with
   | none =>
    rw[q3,e] at a2;rcases a2 with z|z<;>cases z
   | some k =>
    have hk:k=`gw:=by
     rw[q3,e] at a2;have nc:=ok.nocell (x,k) (D8 e);cases k<;>first
      | rfl
      | exact `I rfl nc
      | (rcases a2 with z|z<;>simp at z)
    subst hk;exact hcl2 `Oh (D8 e) rfl
  ·rcases `agS with z|z
   ·exact I3.ok.noex b o e z
   ·exact `I (B0 (A8 (I3.ok.bs b o e).1) z) `iJ
  ·rcases `agT with z|z
   ·exact`Oi z
   ·exact(`hL).2.2.1 z
 have I4:Inv X' [] `ds H3 `agU:=by
  refine⟨g6,?_,?_,?_,?_,`By,?_,`By,`g',(by subst M;exact I3.hok.kept old),?_⟩
  ·subst M;rfl
  ·exact I3.bare
  ·subst M;exact `Bp old
  ·subst M
   refine⟨_,Y,`abR⟩;have hi:n<=i:=by
    by_cases hi:i<n
    ·unfold Q7 at e2
     rw[`B7,`kX,`H hi] at e2;cases e2
    ·omega
   obtain⟨k,rfl⟩:∃k,i=n+k:=⟨i - n,`F⟩;have hk:k<`uW:=by
    have:=`Oj;have e5:(`agO).N.length=n+`uW:=ok.len;omega
   obtain⟨c1,c2⟩:=ok.cap k (`en hk);have c9:`N?=`cn:=e1;unfold Q7 at e2;rw[`agV,`B8,`Ok,`ex] at e2;obtain⟨j,hj⟩:∃j,`Jl=`uL:=⟨caps[k],by simp[hk]⟩;rw[hj] at e2 c1;have g7:X.N[j]?=`cn:=by rw[← c9,c1];rfl
   have a0:`Hx=`cb:=A3 e2;have e0:`agD:=by
    cases q:`oi with
    | none=>rw[q] at a0;cases a0
    | some o=>rw[q] at a0;rw[show o=`cb from a0]
   rw[c9] at c2;have O:`n7 x=`iL:=by simpa using c2
   have b0:=ok.free `Oh (D8 O) rfl;obtain⟨m,hn,hl⟩:=I3.loc;obtain⟨u,ru,l⟩:=hl j x v g7 e0 (by
    rcases b0 with z|z
    ·exact `l (`m `agW)
    ·exact `l (`l `agW))
   refine⟨u,ru,`l `CK⟩
   ·have q3:`agR:=wv0 `gD x
    rw[O] at q3;show `r?=_∨`r?=_;rw[q3]
    by_cases hcc:(`Hy==`Hy&&`WB&&`WC)=`b
    ·left;simp only[`gc,`H hcc]
    ·right;simp only[`gc,`ad hcc]
   ·obtain⟨c',c7⟩:=hcl2 `Oh (D8 O) rfl
    rcases l with⟨e7,_⟩|⟨_,c,f3,b3⟩
    ·have a9:`Vp:=e7
     rw[hsc] at a9;rcases b0 with z|z<;>(rw[a9] at z;cases z)
    ·have:=hcl1 x c' c7
     rw[f3] at this;cases `C;obtain⟨o,ho,hd⟩:=b3;exact⟨_,c7,o,`agX,hd⟩
  ·have e':`r9 x=`c!:=`agY
   obtain⟨v,o,ho,hd⟩:=I3.cell x c (hcl1 x c e');exact⟨v,o,`agX,hd⟩
  ·subst M;exact I3.hok.fresh `a_
  ·have e':`r9 x=`c!:=`agY
   exact I3.freeC x c (hcl1 x c e')
  ·subst M;exact `agZ
  ·subst M
   show _=N'.length;rw[e70,ok.len]
 have a5:X'.calm=`b:=by subst M;exact hc
 have Z:∀{H':Hp},`pN->∀b∈fp,ua0 X' [] H' b:=λ{H'} hn b hb=>by
  subst M;refine⟨hn b hb,`agP,λhf=>?_,`Ol,`agQ,λp hp=>`agZ⟩;rcases `agT with z|z
  ·exact`Oi z
  ·exact(`hL).2.2.1 z
 have f6:∀b∈fp,H3 b=`c:=λb hb=>by rw[← hH3,m9 (f1 b hb)];exact(`hL).1
 have c0:tn 0 h₁:=T.keep _ _ _ st2 λb hb o e=>old b o `agN
 have loop:∀s4:`p,s4=`agU ->
   `hJ `ac X.A (.compLoop `jW 0 `ly `lO X'.env) (RR `lO `n?) s4:=by
  rintro s4 rfl;refine ka0 (λk s'=>∃i ys H',Inv X' [] `ds H' s'/\`adn/\`pN/\W i k ys H') ?_ m0 ⟨0,[],H3,I4,c0,f6,w0⟩;rintro k s5 ⟨i,ys,H5,I5,b4,c8,w5⟩;have eP:X'.prog=`aU:=`u1
  have ew:X'.w=X.w:=`u1
  have eK:X'.K=X.K:=`u1
  have eA:X'.A=X.A:=`u1
  rcases b1 i k ys H5 w5 with⟨stop,qe⟩|⟨go,step⟩
  ·have T':=T.done X' eP ew eK a5 i [] s5 `ds H5 `k0 I5 (Z c8) b4 stop
   rw[eA] at T';refine thn T' λr s6 ⟨hr,I6⟩=>?_
   subst hr;have e8:Un (`um) fp H3 H5 s3.heap s6.heap:=by have:=I6.base;subst M;exact `C
   have f5:s6.os=s3.os:=by have:=I6.os;subst M;exact `C
   have d3:HOk `aU X.w H5 s6.heap:=by have:=I6.hok;subst M;exact `C
   have IX:Inv X `h σ H5 s6:=I3.call' f5 e8 d3 I6.bare λb hb=>⟨`agS,`Oi,`Wz,(`hL).2.2.2.2.2⟩
   obtain⟨m6,g2,_⟩:=I6.loc;have e6:s6.heap.Ns `n? m6:=by subst M;exact g2
   refine hend D `n? H5 s6 m6 IX ⟨by have:=I6.free;subst M;exact `C,C4 I3.lt,I3.sz,`acW,`acX⟩ e6 qe
   ·obtain⟨v,qc⟩:=I3.cell x c e
    exact `I (B0 qc.lt `ag_) `iJ
   ·exact `I (B0 (A8 (I3.pin p hp).1) `ag_) `iJ
  ·have T':=T.item X' eP ew eK a5 i [] s5 `ds H5 `k0 I5 (Z c8) b4 go
   rw[eA] at T';refine thn T' λr s6 ⟨u,hr,h6⟩=>?_
   subst hr;refine thn h6 λ_ s7 ⟨x,H7,I7,r7,y7,a8,f4⟩=>?_
   have e9:=I7.pinned (Z f4) (`r! _ _ a8);have c6:=hg s3 H3 fp;have c4:=ht s3 H3 fp;have c3:=he s3 H3 fp;rw[← M] at c6 c4 c3;have g1:=c6 _ s7 `ds H7 x u _ e9 r7 (step x H7 y7);rw[eP,ew,eA] at g1;have a3:X'.xe=`xX:=`u1
   rw[a3] at g1;refine thn g1 λ_ s8 ⟨σ8,H8,I8,a4,q8⟩=>?_
   have t1:=c4 _ s8 σ8 H8 _ I8 q8;rw[eP,ew,eA,a3] at t1;refine thn t1 λb s9 ⟨H9,I9,q9⟩=>?_
   have back:∀{σa:St} {Ha:Hp} {sa:`p} {a7:`K} {ma:Nat},Inv X' ([]++rg0 fp s7.heap) σa Ha sa->σa.length=`ago->(∀(j:Nat) v,`ds[j]?=`lp->σa[j]?=`lp)->W `bE ma a7 Ha ->
     ∃i ys H',Inv X' [] `ds H' sa/\tn i sa.heap/\`pN/\W i ma ys H':=λ{σa Ha sa a7 ma} Ia hl hw wa=>by
    refine⟨i+1,a7,Ha,(Ia.weak hl.symm hw).unpinned,T.keep _ _ _ a8 λb hb o e=>(`ag0).1,`f9,wa⟩;obtain⟨o,e,d⟩:=`r! _ _ a8 b hb;exact(`ag0).2.1
   cases b with
   | false =>
    rw[`hb];rw[`hb] at q9;obtain⟨m',hm,w9⟩:=q9;exact⟨m',hm,back I9 a4.1 a4.2 w9⟩
   | true =>
    rw[`bx];rw[`bx] at q9;have e1:=c3 _ s9 σ8 H9 _ I9 q9;rw[eP,ew,eA,a3] at e1;refine thn e1 λv f0 ⟨y,g3,f8,f9,e4,d2,m',hm,g4⟩=>?_
    have a1:=sv0 (X:=X') _ f0 σ8 g3 `lO [y] `lO [v] (λ_ H'=>W `bE m' (ys++[y]) H') f8 rfl (`X f9 `J) ⟨D,ys,y,rfl,rfl,e4,d2,g4⟩;rw[eP,ew,eA,a3] at a1;refine thn a1 λ_ h4 ⟨_,h3,g5,_,f7⟩=>?_
    exact⟨m',hm,back g5 a4.1 a4.2 f7⟩
 subst M;exact codeAny_compStart_list (loop _ (`CI)) (T.self X.A 0 _ _ _ c0 (loop _ (`CI)))
theorem iq0(hc:`bz)(hsc:`ez)(ok:`k1)(hi:`M3)
  (hg:`ag1) (ht:`ag2) (he:`ag3)
  (hs:`dz:=by intro _;rfl) :
  PE X `jW (lm0 n `ce wi g tt te):=by
 intro pins s σ H Q I h;obtain⟨cl,M,U,O⟩:=uk0 (env:=`A) (scope:=`cd) λx hx hf=>`Ms x.1 (by
  rcases `ag4 with z|z
  ·exact `ag5
  ·exact `ag6)
 rw[eval_ListComp];refine At0 (use:=`c) rfl hs M `rF ok.loc (thn `G8 λv s1 h1=>thn h1 λZ s2 h2=>?_);obtain⟨it,fp,tn,J,H2,rfl,I2,T,Y,f2,q2⟩:=h2;refine ny0 (Q:=Q) (RR:=λacc C=>compPost `ac X.A `aA `c `eW acc C) hc hsc ok U O (hg cl) (ht cl) (he cl) I2 T Y f2 q2 ?_;intro D C H' s' m IX as hn qe;refine⟨m,hn,λh' sb=>⟨`x D,H',IX.turned (t':=s'.toks) `G0 as.1 as.2.1 (`l as.2.2.1) `Om `ag7,rfl,qe⟩⟩
theorem pe0{py spos:Pos}(hN:`fk)(hiN:`u2)(hy:`m3)(hc:`bz)(hsc:`ez)(ok:`k1)(hi:`M3)
  (hg:`ag1) (ht:`ag2) (he:`ag3)
  (hsw:`On:=by rfl)
  (hs:`dz:=by intro _;rfl)
  (hf:`m4:=by first|exact `b4|exact `bA|assumption) :
  PS X `W4 (λD σ H=>lm0 n `ce wi g tt te σ H `ag8):=by
 intro pins s σ H D I h;obtain⟨cl,M,U,O⟩:=uk0 (env:=`A) (scope:=`cd) λx hx hf=>`Ms x.1 (by
  rcases `ag4 with z|z
  ·exact `ag5
  ·exact `ag6)
 rw[exec_Assign_Name_used _ _ _ _ hsw];refine A0 (p9 (`p2));show `o _ X.A (do let _ ← comprehension `jW `cd `A _ (newList []) `n (`bR `hF `A) (`Oo)) _ _ s;refine A0 (C9 (At0 (use:=`Oo) (Q:=`ag9) rfl hs M `rF ok.loc
  `adm) (λ_ s' hq=>A1 (A1 hq)) `Mi)
 obtain⟨it,fp,tn,J,H2,rfl,I2,T,Y,f2,q2⟩:=h2;refine ny0 (Q:=`ag8) (RR:=λacc C=>compPost `ac X.A `aA (`Oo) (`ag9) acc C) hc hsc ok U O (hg cl) (ht cl) (he cl) I2 T Y f2 q2 ?_;intro Da C H' s' m IX as hn qe;show `o _ X.A (`eQ (`oj) `A (`x Da)) _ _ _;refine `acK (me0 IX hN hiN hy (v:=`x Da) rfl (λZ a1 ⟨a,sb,ha⟩=>?_) hf);have a2:C≠a:=by
  rcases ha with z|z
  ·rw[z];exact as.2.1
  ·exact B6 (`Om y a z)
 refine⟨m,`ab7 sb a2,λh' a0=>⟨_,H',a1.turned (t':=Z.toks) (λb o hb e=>(a0.2 b hb).trans e) as.1 as.2.1 (`l as.2.2.1) `Om `ag7,qe⟩⟩
universe zz
universe L2
namespace DL
open Spec PyProof.Rows
inductive D where
 | non|bl (b:`M)|int (i:Int)|str (x:Str)|tup (ds:`f)|lst (ds:`f)|dct (ks:Sum (`Op) (`O (`Op))) (ds:`f)|fn (ks:`Op) (ds:`f)
 deriving Inhabited
variable{l items ns:`HF}{n' d0 b':DL.D}{q:`ag'}
@[simp] noncomputable def unl:`iX
 | `B [_,d]=>d
 | d=>d
@[simp] noncomputable def isL:`cl
 | `u3=>`b
 | _=>`n
inductive Sl where
 | un|sh (d:D)|ow (d:D)
 | ex (c:Str) (n:`aX)
abbrev Ds:=`Oq
inductive Res where
 | nx (δ:Ds)|rt (d:D)|bk (δ:Ds)|ct (δ:Ds)|rf (d:D)
variable{f:`ag!}{g ge gb:`ag?}{gt:`aha}{δ':`lQ}{gi gA:`ahb}
abbrev GE:=`bM
abbrev GB:=`eA
variable{gk g0 go g1:DL.GE}
abbrev GA:=`dY
abbrev GS:=`gd
@[simp] noncomputable def asB:D->`x3
 | `ct=>`gI
 | _=>`c
variable{G Gh:DL.GS}
@[simp] noncomputable def asI:D->`aX
 | `aR=>`mg
 | _=>`c
@[simp] noncomputable def gv(i:Nat):GE:=fun δ=>match `bw with
 | `HT=>`a2
 | _=>`c
@[simp] noncomputable def gc(d:D):GE:=λ_=>`a2
@[simp] noncomputable def o2(ga gb:GE)(f:`aZ):GE:=fun δ=>`u4 λx=>`CL λy=>f x y
@[simp] noncomputable def ob(g:GE):GB:=fun δ=>`cT asB
@[simp] noncomputable def yy0(g:GB):GB:=fun δ=>`p3 (!·)
@[simp] noncomputable def G3(gt gu:GB):GB:=fun δ=>`se λt=>if `x6 then gu δ else `aJ
@[simp] noncomputable def zj0(gt gu:GB):GB:=fun δ=>`se λt=>if `x6 then `cW else gu δ
@[simp] noncomputable def ov0(ga gb:GE):GE:=fun δ=>(ob ga δ).bind λt=>if `x6 then `dc else `p4
@[simp] noncomputable def v5:GA:=`Or
@[simp] noncomputable def z7(g:GE)(gA:GA):GA:=fun δ=>`cT λd=>(`cM).map λds=>`ae
@[simp] noncomputable def T3(gA:GA):GE:=fun δ=>`ge λds=>if `p5 then `CM else `c
@[simp] noncomputable def W9(gA:GA):GE:=fun δ=>`ge λds=>if `p5 then `p6 else `c
@[simp] noncomputable def oA(gA:GA)(f:`N):GE:=fun δ=>`ge f
@[simp] noncomputable def N7(f:`cl)(g:GE):GE:=fun δ=>`p3 λd=>.bl (f d)
@[simp] noncomputable def zi0(d:D):`cL:=match d with
 | `aR=>`a (`d (-i))
 | _=>`c
@[simp] noncomputable def unG(f:`HG)(g:GE):GE:=fun δ=>`cT f
@[simp] noncomputable def v6(G1 G2:GS):GS:=fun δ=>match `hM with
 | `cA=>`u5
 | r=>r
@[simp] noncomputable def v9:GS:=`ahc
@[simp] noncomputable def V5(g:GE):GS:=fun δ=>`p3 .rt
@[simp] noncomputable def gN(i:Nat):`aF:=λd δ=>`a `CN
@[simp] noncomputable def j7(f:`aF)(g:GE):GS:=fun δ=>`cT λd=>(`on).map .nx
@[simp] noncomputable def ifD(gt:GB)(Ga Gb:GS):GS:=`ahd
noncomputable def J3(f:`aF)(G:GS):`f->`gd
 | [],δ=>`lS
 | `ae,δ=>match `ahe G with
  | `cA=>`ahf
  | `u6=>`ahf
  | `u7=>`cA
  | r=>r
@[simp] noncomputable def w40(gi:GA)(f:`aF)(G:GS):GS:=fun δ=>`p7 λitems=>`Os
@[simp] noncomputable def lf0:`Ot
 | `cz=>`oq
 | _=>`c
@[simp] noncomputable def a00:`Ot
 | `bF=>`oq
 | _=>`c
noncomputable def signs(x:Str):`f:=x.cps.toList.map `ahg
@[simp] noncomputable def i80:`Ot
 | `cc=>`a (`hm x)
 | _=>`c
@[simp] noncomputable def z40(g:GE):GA:=fun δ=>`cT lf0
@[simp] noncomputable def tupI(g:GE):GA:=fun δ=>`cT a00
@[simp] noncomputable def qo0(g:GE):GA:=fun δ=>`cT i80
noncomputable def M9(lo hi:Int):`f:=(`b6 `n3).map λk=>`d (lo+(k:Nat))
@[simp] noncomputable def gn0(ds:`f):`ok:=match ds with
 | [`e']=>if -(`f!)<=j/\j<`f! then `a (M9 0 j) else `c
 | _=>`c
@[simp] noncomputable def y30(gA:GA):GA:=fun δ=>`ge gn0
@[simp] noncomputable def noT:GB:=λ_=>`cW
@[simp] noncomputable def q30:`CO->Sl
 | `HT=>`lR
 | _=>.un
@[simp] noncomputable def M7(n:Nat)(caps:`j)(δ:Ds):Ds:=`fQ n .un++`ahh
noncomputable def zm0(f:`aF)(gt:GB)(ge:GE)(δ:Ds):`ahi
 | []=>`sc
 | `ae=>match `on with
  | `c=>`c
  | `x'=>match `u8 with
   | `c=>`c
   | `aJ=>`ahj
   | `cW=>match `x! with
    | `c=>`c
    | `dm=>(`ahj).map λr=>y::r
@[simp] noncomputable def X6(n:Nat)(caps:`j)(gi:GA)(f:`aF)(gt:GB)(ge:GE):GE :=
 fun δ=>`p7 λitems=>if `m5 then `ahk `q else `c
@[simp] noncomputable def R4(N:`g)(ds:`f):Ds:=ds.map .sh++`fQ (`uI - `bf) .un
@[simp] noncomputable def isInt:`cl
 | `bL=>`b|`bk=>`b|_=>`n
@[simp] noncomputable def isStr:`cl
 | `bg=>`b|_=>`n
@[simp] noncomputable def isBool:`cl
 | `bk=>`b|_=>`n
@[simp] noncomputable def isTup:`cl
 | `u3=>`b|_=>`n
@[simp] noncomputable def f60:`cl
 | `iK=>`b|_=>`n
@[simp] noncomputable def ii(f:Int->Int->`cL):`aZ
 | `aR,`e'=>f i j
 | _,_=>`c
@[simp] noncomputable def R0:`aZ:=ii λi j=>`a (`d (i - j))
@[simp] noncomputable def o8:`aZ:=ii λi j=>if `BZ then `ahl else `c
@[simp] noncomputable def p8:`aZ:=ii λi j=>if 0<j then `Ou else `c
@[simp] noncomputable def s80:`aZ:=ii λi j=>if `M9 then `a (`VU) else `c
@[simp] noncomputable def ltD:`aZ:=ii λi j=>`a (.bl (`D (i<j)))
@[simp] noncomputable def leD:`aZ:=ii λi j=>`a (`VV)
@[simp] noncomputable def gtD:`aZ:=ii λi j=>`a (.bl (`D (j<i)))
@[simp] noncomputable def geD:`aZ:=ii λi j=>`a (`VW)
@[simp] noncomputable def eqS:D->D->`x3
 | `z,`z=>`cW
 | `z,`bL=>`aJ|`bL,`z=>`aJ|`z,`bk=>`aJ|`bk,`z=>`aJ|`z,`bg=>`aJ|`bg,`z=>`aJ
 | `aR,`e'=>`Ov
 | .bl i,.bl j=>`Ov
 | `s i,`s j=>`Ov
 | `bL,`bg=>`aJ|`bg,`bL=>`aJ|`bk,`bg=>`aJ|`bg,`bk=>`aJ
 | _,_=>`c
@[simp] noncomputable def eqD(x y:D):`cL:=`ahm .bl
@[simp] noncomputable def neD(x y:D):`cL:=`ahm λb=>.bl (!b)
noncomputable def inS(x y:Str):`M:=!(`VX y x 0 y.length 1).isEmpty
@[simp] noncomputable def inD:`aZ
 | `cc,`CP=>`a (.bl (inS x y))
 | _,_=>`c
@[simp] noncomputable def U80:`cl
 | `z=>`b|_=>`n
@[simp] noncomputable def v70(x y:D):`cL:=match y with
 | `z=>`a (.bl (U80 x))
 | _=>`c
noncomputable def ixN(n:Nat)(i:Int):`Cf:=`ae7
noncomputable def atI{α:Type}(xs:`a5)(i:Int):`au α:=`ae8
@[simp] noncomputable def ixD:`aZ
 | `cu,`aR=>`r_
 | `c',`aR=>`r_
 | `jR,`aR=>if `ob then (`ae?).map `ahg else `c
 | _,_=>`c
noncomputable def sIx(n d:Nat):`aey
 | `c=>d
 | `cb=>`B!
noncomputable def cutD(xs:`f)(lo hi:`aX):`f:=(`pE (`Ow)).take (`ahn - `Ow)
abbrev GO:=`CQ
@[simp] noncomputable def xa0:GO:=λ_=>`dZ
@[simp] noncomputable def someO(g:GE):GO:=fun δ=>`cT λd=>(asI d).map `a
@[simp] noncomputable def W8:`N
 | `xD=>if `ob then `a (`Hn) else `c
 | [`cu]=>`aho
 | [`c']=>`aho
 | _=>`c
noncomputable def pa0:`f->`au (`g)
 | []=>`sc
 | `uN::ds=>(pa0 ds).map λr=>b::r
 | _=>`c
@[simp] noncomputable def ld0(d:D)(ds:`f):`cL:=match d,ds with
 | `s sep,[`cu]=>(pa0 xs).bind λys=>if `ahp then `a `ahq else `c
 | _,_=>`c
@[simp] noncomputable def qb0(g:GE)(gA:GA):GE:=fun δ=>`cT λd=>`ge λds=>ld0 d ds
@[simp] noncomputable def U9:`N
 | `CR=>`CM
 | [`bF]=>`CM
 | _=>`c
theorem sr0{gt:GB}{ge:GE}{δ:Ds}(p:`cl)(h:`iX):∀{items:`f},(∀d∈`ap,∃δ',`Ox/\`u8=`a (p d)/\(p d=`b->`ahr)) ->
  `ahs=`a ((items.filter p).map h)
 | [],_=>rfl
 | `ae,H=>by
  obtain⟨δ',e1,e2,e3⟩:=H d A6;have ih:=sr0 p h λd hd=>H d (A5 _ hd)
  unfold zm0;rw[e1];dsimp only;rw[e2];cases hp:p d with
  | false =>
   dsimp only;rw[List.filter_cons_of_neg (`Oy)];exact ih
  | true =>
   dsimp only;rw[e3 hp,ih,List.filter_cons_of_pos hp];rfl
theorem zw0{gt:GB}{ge:GE}{δ:Ds}(h:`iX)(H:∀d∈`ap,∃δ',`Ox/\`u8=`cW/\`ahr):`ahs=`a (items.map h):=by
 have:=sr0 (f:=f) (gt:=gt) (ge:=ge) (δ:=δ) (λ_=>`b) h (items:=`ap) λd hd=>by
  obtain⟨δ',a,b,c⟩:=H d hd;exact⟨δ',a,b,λ_=>c⟩
 rw[List.filter_eq_self.mpr `aO] at this;exact `C
theorem strs_map(h:α->Str):∀l:`a5,`aht=`a (`ea h)
 | []=>rfl
 | a::l=>by
  show (`aht).map (λr=>h a::r)=_;rw[strs_map h l];rfl
theorem vq0(P:Nat->Ds->Prop):∀(items:`f) (i:Nat) (δ:Ds),(∀j d δ,`ap[j]?=`a2->P (i+j) δ->∃δ1 δ2,`on=`a δ1/\G δ1=`Oz/\P (i+j+1) δ2)->P i δ ->
  ∃δ',`Os=`cA/\P (i+`bG) δ'
 | [],i,δ,_,h=>⟨δ,rfl,h⟩
 | `ae,i,δ,H,h=>by
  obtain⟨δ1,δ2,e1,e2,h2⟩:=H 0 d δ rfl h;obtain⟨δ',e3,h3⟩:=vq0 P ds `bE δ2 (λj d δ hj hp=>by
   have q:i+`m6=i+1+j:=`F
   obtain⟨a,b,c,d',e⟩:=H `m6 d δ (`u9) (by rw[q];exact hp);exact⟨a,b,c,d',by rw[q] at e;exact e⟩) h2
  have q:i+`CS=i+1+`bf:=`mB
  refine⟨δ',?_,by rw[q];exact h3⟩;unfold J3;rw[e1];simp only[`k,e2];exact e3
theorem Xp0{G1 G2:GS}{δ:Ds}(h:`OA):`CT=`u5:=`OB
theorem U4{G1 G2:GS}{δ:Ds}{d:D}(h:`hM=`lW):`CT=`lW:=`OB
theorem z50{g:GE}{δ:Ds}{d:D}(h:`fq):V5 g δ=`lW:=by unfold V5;rw[h];rfl
theorem X7{g:GE}{δ:Ds}{d:D}(h:`fq):j7 `H? g δ=`a (.nx `CN):=by unfold j7;rw[h];rfl
theorem N6{g:GB}{Ga Gb:GS}{δ:Ds}(h:`CU):`ahu=`x7:=`ahv
theorem Y5{g:GB}{Ga Gb:GS}{δ:Ds}(h:`u'):`ahu=Gb δ:=`ahv
theorem yz0{gi:GA}{gt:GB}{ge:GE}{δ:Ds}{out:`f}(h1:`CV)(h2:`m5)(h3:`HH=`a out):`ahw=`a (`q out):=by
 unfold X6;rw[h1];show (if `m5 then `ahk `gZ else `c)=_;rw[`H h2,h3];rfl
theorem v60{gi:GA}{δ:Ds}{r:`ol}(h1:`CV)(h2:`Os=r):w40 gi f G δ=r:=by
 unfold w40;rw[h1];exact h2
theorem cons_of{g:GE}{gA:GA}{δ:Ds}{d:D}{ds:`f}(h1:`fq)(h2:`iY):z7 g gA δ=`a `p8:=by unfold z7;rw[h1,h2];rfl
theorem b7{gA:GA}{δ:Ds}{ds:`f}{f:`N}(h:`iY):oA gA f δ=f ds:=by unfold oA;rw[h];rfl
theorem p6{ga gb:GE}{δ:Ds}{x y:D}{f:`aZ}(h1:`cV=`cn)(h2:`dc=`dm):`ahx=f x y:=by unfold o2;rw[h1,h2];rfl
theorem az0{g:GE}{gA:GA}{δ:Ds}{x:D}{ds:`f}(h1:`al=`cn)(h2:`iY):qb0 g gA δ=ld0 x ds:=by unfold qb0;rw[h1,h2];rfl
theorem wi0{xs:`a5}{i:Int}(h0:`eV)(h1:`Ci)(d:α):`r_=`a (xs.getD `dr d):=by
 unfold atI ixN;rw[`H h0,`Cg];show xs[`dr]?=_;have:`dr<`av:=`F
 simp[`cm,`C]
theorem Z80(c:Nat)(y:Str):inS `Wd y=`D (c∈y.cps.toList):=PySem.StrLaws.found_one y c
universe DL
variable{f:`ag!}{l items ns:`HF}{g ge gb:`ag?}{n' d0 b':DL.D}{q:`ag'}{gt:`aha}{G Gh:DL.GS}{δ':`lQ}{gi gA:`ahb}{gk g0 go g1:DL.GE}
namespace DL
open Spec PyProof.Rows L2
abbrev BS:=`e->Prop
abbrev St:=L2.St
variable{B B' B₀:DL.BS}
structure NB(o:`pH):Prop where
 ne:o≠`c
 nf:∀ob u,o=`LY->∃xs,u=`cu
 nt:∀xs,o≠`ln
instance{o:`pH}:`dk (NB o) (λ_=>o=`c->`bt):=⟨λh e=>h.ne e⟩
theorem NB.of{o:`pH}{u:HO}(h:o=`a!)(n:∀ob u',u≠`Vd)(t:∀xs,u≠`c'):NB o:=by
 subst h;exact⟨`ahy,λob u' z=>`I (A3 z) (n ob u'),λxs z=>t xs (A3 z)⟩
theorem NB.keep(q:`u!)(h:`hQ):NB (H' a):=by
 cases e:H a with
 | none=>exact `I e h.ne
 | some o=>rw[q o e,← e];exact h
theorem NB.same(q:`aD)(h:`hQ):NB (H' a):=h.keep λo e=>q a o e
noncomputable def SqT'(K:`y)(H:Hp)(B:BS)(a:`e)(xs:`K):Prop:=`or/\H a=`ln
noncomputable def SqL'(K:`y)(H:Hp)(B:BS)(a:`e)(xs:`K):Prop:=(`ahz)∨`bt
theorem SqT'.to(h:`x?):`kU:=`m (`m h.2)
theorem SqL'.at(h:`ya):`ahz:=`kT id `fJ
theorem SqL'.to(h:`ya):`n0:=`m h.at.2
noncomputable def Gr(H H':Hp)(B B':BS):Prop:=∀b o,¬B b->`Hw->¬B' b/\`eK=`ab
theorem SqT'.mono(g:`c6)(h:`x?):SqT' K H' B' a xs:=`ahA
theorem SqL'.mono(g:`c6)(h:`ya):SqL' K H' B' a xs:=by
 obtain⟨n,h|⟨o,h⟩⟩:=h.at
 ·exact `m ⟨(`CW).1,`m (`CW).2⟩
 ·exact `m ⟨(`CW).1,`l ⟨o,(`CW).2⟩⟩
theorem Gr.same(s:`aD):`ahB:=λb o n h=>⟨n,s b o h⟩
theorem Gr.less(h:`m7):Gr H H B B':=λb o n e=>⟨λz=>n (h b z),e⟩
abbrev KS:=Sum (`eI) (`O (`eI))
noncomputable def dOb:KS->`K->HO
 | `sj,xs=>`ot
 | `u?,xs=>`OC
noncomputable def dLn:KS->Nat
 | `sj=>`eb
 | `u?=>`eb
noncomputable def Vv0(fd:`ff)(x y:Str)(c cd:`e):Prop :=
 ∃p1 p2 p3,fd.body=.expr (`jN (`b5 x p1) (`b5 y p2) p3)/\fd.scope.isCoroutine=`n/\fd.scope.isGenerator=`n/\fd.scope.kind=`lN/\`ahC y=`jH/\`ahC x=`iL /\
  (∀z∈fd.scope.names,z.2≠`nM)/\fd.closure=[(x,c)]/\fd.code=`x cd/\fd.globals=`aa/\`aY/\`fl/\`ahD /\
  ∀u:`E,`Ng fd `Wm=`b2 [(y,u)]
noncomputable def rk(n:Nat):`eI:=`JZ λ(i:Nat)=>`jF `eU
noncomputable def TelO(K:`y)(H:Hp)(B:BS)(p:`e)(kvs:`ej):Prop:=(¬B p/\`I!)∨∃xs,SqL' K H B p xs/\kvs=(rk `av).zip xs
theorem TelO.mono{p:`e}(g:`c6)(h:`ahE):TelO K H' B' p kvs:=by
 rcases h with h|⟨xs,h,e⟩
 ·exact `m (`ahA)
 ·exact `l ⟨xs,h.mono g,e⟩
noncomputable def FnAtH(K:`y)(H:Hp)(B:BS)(f:`e)(kvs:`ej):Prop :=
 ∃(oF oC oK:Obj) (fd:`ff) (c cd p:`e) (x y:Str),(¬B f/\H f=`a (`fA oF (`gr f)))/\(oF.cls=`wZ/\oF.data=`aL fd/\Vv0 fd x y c cd)/\(¬B c/\H c=`a (`fA oC (`gr c)))/\oC.data=`nM `Iw /\
  (¬B cd/\H cd=`a (`fA oK (`gr cd)))/\(∃vs t,oK.data=`Bi/\vs[1]?=`a (`s fd.qualname t))/\`ahE
theorem FnAtH.mono{f:`e}(g:`c6)(h:FnAtH K H B f kvs):FnAtH K H' B' f kvs:=by
 obtain⟨oF,oC,oK,fd,c,cd,p,x,y,⟨b1,h1⟩,a,⟨b2,h2⟩,e,⟨b3,h3⟩,q,h4⟩:=h;exact⟨oF,oC,oK,fd,c,cd,p,x,y,g _ _ b1 h1,a,g _ _ b2 h2,e,g _ _ b3 h3,q,h4.mono g⟩
mutual
noncomputable def Rp(K:`y)(H:Hp)(B:BS):`ahF
 | `z,v=>`CX
 | `ct,v=>v=`ct
 | `aR,v=>`va
 | `cc,v=>`CG
 | `bF,v=>`ahG
 | `cz,v=>`ahH
 | `iZ,v=>`ahI
 | `p9,v=>`ahJ
noncomputable def Rps(K:`y)(H:Hp)(B:BS):`ahK
 | [],xs=>`pU
 | `ae,xs=>`ahL
end
mutual
theorem Rp.mono(g:`c6):∀{d:D} {v:V},`bN->`OD
 | `z,_,h=>`CY
 | `bk,_,h=>`CY
 | `bL,_,h=>`CY
 | `bg,_,h=>`CY
 | `bF,_,h=>by
  unfold Rp at h ⊢;obtain⟨a,xs,e,q,r⟩:=h;exact`ahM
 | `cz,_,h=>by
  unfold Rp at h ⊢;obtain⟨a,xs,e,q,r⟩:=h;exact`ahM
 | `iZ,_,h=>by
  unfold Rp at h ⊢;obtain⟨a,xs,e,n,q,l,r⟩:=h;exact⟨a,xs,e,(g _ _ n q).1,(g _ _ n q).2,l,`HM⟩
 | `p9,_,h=>by
  unfold Rp at h ⊢;obtain⟨a,xs,e,q,l,r⟩:=h;exact⟨a,xs,e,q.mono g,l,`HM⟩
theorem Rps.mono(g:`c6):∀{ds:`f} {xs:`K},`ahN
 | [],_,h=>by unfold Rps at h ⊢;exact h
 | `ae,_,h=>by
  unfold Rps at h ⊢;obtain⟨x,r,e,h1,h2⟩:=h;exact⟨x,r,e,`HO g h1,`HL g h2⟩
end
theorem V4:Rp K H B `z v=(`CX):=`CZ
theorem Z8{b:`M}:Rp K H B `tf v=(v=`ct):=`CZ
theorem m8{i:Int}:Rp K H B `dG v=(`va):=`CZ
theorem Y0:Rp K H B `iO v=(`CG):=`CZ
theorem W0{ds:`f}:Rp K H B `sd v=`ahG:=`C_
theorem Y7{ds:`f}:Rp K H B `x4 v=`ahH:=`C_
theorem t90{ks:KS}{ds:`f}:Rp K H B (`iZ) v=`ahI:=`C_
theorem am0{ds:`f}:Rp K H B (`p9) v=`ahJ:=`C_
theorem o40{ds:`f}:Rp K H B `zg v=∃a xs,`gH/\`or/\H a=`a (`ot)/\`HK:=t90
theorem nc0{ks:`O (`eI)}{ds:`f}:Rp K H B (`bv (`u?) ds) v=∃a xs,`gH/\`or/\H a=`a (`OC)/\`HK:=t90
theorem m5:Rps K H B [] xs=(`pU):=by unfold Rps;rfl
theorem o9{d:D}{ds:`f}:Rps K H B `p8 xs=`ahL:=by conv=>lhs;unfold Rps
theorem Rps.length:∀{ds:`f} {xs:`K},`a3->`av=`bf
 | [],_,h=>by rw[m5] at h;subst h;rfl
 | `ae,_,h=>by
  rw[o9] at h;obtain⟨x,r,rfl,_,h2⟩:=h;simp[Rps.length h2]
theorem Rps.get:∀{ds:`f} {xs:`K} {i:Nat} {d:D},`a3->ds[i]?=`a2->∃x,`lz/\`si
 | [],_,_,_,_,e=>`Be
 | `ae,_,0,d',h,e=>by
  rw[o9] at h;obtain⟨x,r,rfl,h1,_⟩:=h;simp at e;subst e;exact`C0
 | `ae,_,i+1,d',h,e=>by
  rw[o9] at h;obtain⟨x,r,rfl,_,h2⟩:=h;obtain⟨y,e1,e2⟩:=Rps.get (i:=i) h2 `pD;exact⟨y,`ahO,e2⟩
theorem Rps.snoc:∀{ds:`f} {xs:`K} {d:D} {x:V},`a3->`si->Rps K H B (ds++[d]) (xs++[x])
 | [],_,_,_,h,r=>by
  rw[m5] at h;subst h;rw[`dB,`dB,o9];exact⟨_,[],rfl,r,`hn⟩
 | `ae,_,_,_,h,r=>by
  rw[o9] at h;obtain⟨y,t,rfl,h1,h2⟩:=h;rw[`fr,`fr,o9];exact⟨y,_,rfl,h1,`l8 h2 r⟩
theorem Rps.append:∀{ds es:`f} {xs ys:`K},`a3->`ahP->Rps K H B `Xb `xy
 | [],_,_,_,h,r=>by rw[m5] at h;subst h;exact r
 | `ae,_,_,_,h,r=>by
  rw[o9] at h;obtain⟨y,t,rfl,h1,h2⟩:=h;rw[`fr,`fr,o9];exact⟨y,_,rfl,h1,`ahQ h2 r⟩
theorem Rps.drop:∀{ds:`f} {xs:`K} (n:Nat),`a3->Rps K H B (ds.drop n) (`pE n)
 | _,_,0,h=>h
 | [],_,n+1,h=>by rw[m5] at h;subst h;simpa [m5]
 | `ae,_,n+1,h=>by
  rw[o9] at h;obtain⟨y,t,rfl,h1,h2⟩:=h
  simpa using Rps.drop n h2
theorem Rps.take:∀{ds:`f} {xs:`K} (n:Nat),`a3->Rps K H B (ds.take n) `aa7
 | _,_,0,h=>`ahR
 | [],_,n+1,h=>`OE
 | `ae,_,n+1,h=>by
  rw[o9] at h;obtain⟨y,t,rfl,h1,h2⟩:=h;rw[`ahS,`ahS,o9];exact⟨y,_,rfl,h1,Rps.take n h2⟩
theorem Rps.same{ds:`f}(s:`aD)(h:`a3):Rps K H' B ds xs:=`HL `ow h
theorem Rp.same{d:D}(s:`aD)(h:`bN):`HW:=`HO `ow h
noncomputable def RpO(K:`y)(H:Hp)(B:BS)(d:D)(a:`e):Prop:=match d with
 | `cz=>∃xs,H a=`xB/\`a3
 | `iZ=>∃xs,`WL
 | _=>`bt
theorem RpO.same{d:D}(s:`aD)(h:`gf):RpO K H' B d a:=by
 cases d<;>try exact `kT
 ·obtain⟨xs,e,r⟩:=h;exact⟨xs,`C1,`C2⟩
 ·obtain⟨xs,e,l,r⟩:=h;exact⟨xs,`C1,l,`C2⟩
theorem RpO.rp{d:D}(l:`m7)(n:¬`lT)(h:`gf):Rp K H B' d `d6:=by
 cases d<;>try exact `kT
 ·obtain⟨xs,e,r⟩:=h
  rw[Y7];exact⟨a,xs,rfl,`m ⟨n,`m8⟩,`OF⟩
 ·obtain⟨xs,e,q,r⟩:=h
  rw[t90];exact⟨a,xs,rfl,n,e,q,`OF⟩
theorem RpO.live{d:D}(h:`gf):`hQ:=by
 cases d<;>try exact `kT
 ·obtain⟨xs,e,r⟩:=h;exact .of e `OG λ_=>λz=>nomatch z
 ·obtain⟨xs,e,q,r⟩:=h;refine .of e (λ_ _ z=>?_) λ_ z=>?_<;>(unfold dOb at z;split at z<;>cases z)
noncomputable def RpX(K:`y)(H:Hp)(B:BS)(ks vs:`f)(a:`e):Prop:=∃(ts:`j)(xs:`K),ks=[]/\H a=`a (.dX (ts.zip xs))/\ts.length=`av/\Rps K H B vs xs
noncomputable def O7:`f->`Cf
 | [`cc,`aR]=>if x = "@" then `a `dr else `c
 | _=>`c
mutual
noncomputable def RpN(K:`y)(H:Hp)(B:BS)(as:`aB):`ahF
 | `z,v=>`CX
 | `ct,v=>v=`ct
 | `aR,v=>`va
 | `cc,v=>`CG
 | `bF,v=>`ahT
 | d,v=>`bN
noncomputable def RpNs(K:`y)(H:Hp)(B:BS)(as:`aB):`ahK
 | [],xs=>`pU
 | `ae,xs=>`ahU
end
mutual
theorem RpN.mono(g:`c6)(l:`ahV):∀{d:D} {v:V},`i_->RpN K H' B' as' d v
 | `z,_,h=>`C3
 | `bk,_,h=>`C3
 | `bL,_,h=>`C3
 | `bg,_,h=>`C3
 | `bF,_,h=>by
  unfold RpN at h ⊢;rcases h with⟨k,a,e,q,r⟩|⟨n,a,xs,e,q,r⟩
  ·exact `m ⟨k,a,e,l k a q,r⟩
  ·exact `l ⟨n,a,xs,e,q.mono g,`OH g l r⟩
 | `cz,_,h=>`OI
 | `iZ,_,h=>`OI
 | `p9,_,h=>`OI
theorem RpNs.mono(g:`c6)(l:`ahV):∀{ds:`f} {xs:`K},`e_->`eY K H' B' as' ds xs
 | [],_,h=>by unfold RpNs at h ⊢;exact h
 | `ae,_,h=>by
  unfold RpNs at h ⊢;obtain⟨x,r,e,h1,h2⟩:=h;exact⟨x,r,e,RpN.mono g l h1,`OH g l h2⟩
end
theorem vd0{F G:`g9}(h:`LW):`ahW
 | _,_,`J=>`J
 | _,_,`c5=>`X (h _ _ r) (vd0 h t)
noncomputable def NodeOk(K:`y)(H:Hp)(B:BS)(as:`aB)(n:D)(so:`co):Prop:=match n with
 | `cz=>∃xs,so=`cu/\`e_
 | `yb=>`ahX
 | `B [`dS,`q fs,`cz]=>∃C dx ns xs,so=.ins C dx (List.zip ns xs)/\fs=`jV `s/\`jT=`av/\`ahY/\dx∉as/\`e_
 | _=>`bt
theorem NodeOk.mono(g:`c6){n:D}(h:`OJ):`fN K H' B' as n so:=by
 unfold NodeOk at h ⊢;split at h
 ·obtain⟨xs,e,r⟩:=h;exact⟨xs,e,`OK⟩
 ·obtain⟨xs,e,l,r⟩:=h;exact⟨xs,e,l,`OK⟩
 ·obtain⟨C,dx,ns,xs,e,f,l,c,q,r⟩:=h;exact⟨C,dx,ns,xs,e,f,l,c,q,`OK⟩
 ·exact `kT
structure RpW(K:`y)(H:Hp)(B:BS)(ns:`f)(a:`e)(as:`aB)(sos:`p'):Prop where
 hd:`ahZ
 nd:`m9
 at':H a=`a `ah_
 own:∀b∈as,b=a∨(¬B b/\`w5)
 len:`C4
 all:`a4 (`fN K H B as) ns sos
 ins:`OL
noncomputable def RpD(K:`y)(H:Hp)(B:BS)(ns:`f)(a:`e):Prop:=∃as sos,`gg
theorem RpD.mono(s:`u!)(g:`c6)(h:`HR):RpD K H' B' ns a:=by
 obtain⟨as,sos,h⟩:=h;exact⟨as,sos,h.hd,`e5,s _ `p!,λb hb=>`Jg id λz=>g b _ z.1 z.2,`h6,vd0 (λ_ _ r=>`j5) h.all,`vb⟩
theorem RpD.live(h:`HR):`hQ:=by
 obtain⟨as,sos,h⟩:=h;exact .of `p! `C5 λ_ z=>nomatch z
noncomputable def RpG(K:`y)(H:Hp)(B:BS)(d:D)(a:`e):Prop:=match d with
 | `OM=>`ah0
 | d=>`gf
theorem RpO.toG{d:D}(h:`gf):`k2:=by
 cases d with
 | tup es=>exact`ON
 | _=>exact h
theorem RpG.toO{d:D}(n:`yw)(h:`k2):`gf:=by
 cases d with
 | tup es=>cases n
 | _=>exact h
theorem RpG.same{d:D}(s:`aD)(h:`k2):RpG K H' B d a:=by
 cases d with
 | tup es=>obtain⟨x,ns,e,r⟩:=h;exact`ah1
 | _=>exact(RpO.same s `C6).toG
theorem RpG.live{d:D}(h:`k2):`hQ:=by
 cases d with
 | tup es=>obtain⟨x,ns,e,r⟩:=h;exact `m'
 | _=>exact RpO.live `C6
theorem RpO.plain{d:D}(h:`gf):`OO:=by
 intro o ys z;cases d with
 | lst ds=>obtain⟨xs,e,r⟩:=h;rw[e] at z;cases z
 | dct ks ds =>
  obtain⟨xs,e,r⟩:=h;rw[e] at z;unfold dOb at z;split at z<;>cases z
 | _=>exact`ON
theorem RpG.plain{d:D}(h:`k2):`OO:=by
 cases d with
 | tup es=>obtain⟨x,ns,e,as,sos,r⟩:=h;intro o xs z;rw[r.at'] at z;cases z
 | _=>exact RpO.plain `C6
noncomputable def RpL(K:`y)(H:Hp)(B:BS)(d:D)(a:`e):Prop:=match d with
 | `OM=>(∃d',es=[`zO,d']/\RpG K H B d' a)∨(∃ks vs,es=[`q ks,`tm]/\RpX K H B ks vs a)∨`ah0
 | d=>`gf
theorem RpO.toL{d:D}(h:`gf):`hP:=by
 cases d with
 | tup es=>exact`ON
 | _=>exact h
theorem RpL.toO{d:D}(n:`yw)(h:`hP):`gf:=by
 cases d with
 | tup es=>cases n
 | _=>exact h
theorem RpG.toL{d:D}(h:`k2):`hP:=by
 cases d with
 | tup es=>exact `l (`l h)
 | _=>exact h
theorem RpL.same{d:D}(s:`aD)(h:`hP):`ah2:=by
 cases d with
 | tup es =>
  rcases h with⟨d',q,r⟩|⟨ks,vs,q,ts,xs,q1,e,q2,r⟩|⟨x,ns,e,r⟩
  ·exact `m ⟨d',q,`C2⟩
  ·exact `l (`m ⟨ks,vs,q,ts,xs,q1,`C1,q2,`C2⟩)
  ·exact `l (`l `ah1)
 | _=>exact(RpO.same s `vc).toL
theorem RpL.live{d:D}(h:`hP):`hQ:=by
 cases d with
 | tup es =>
  rcases h with⟨d',q,r⟩|⟨ks,vs,q,ts,xs,q1,e,q2,r⟩|⟨x,ns,e,r⟩
  ·exact `m'
  ·exact .of e `OG λ_=>λz=>nomatch z
  ·exact `m'
 | _=>exact RpO.live `vc
theorem RpL.plain{d:D}(h:`hP):`OO:=by
 cases d with
 | tup es =>
  rcases h with⟨d',q,r⟩|⟨ks,vs,q,ts,xs,q1,e,q2,r⟩|⟨x,ns,_,as,sos,r⟩
  ·exact r.plain
  ·intro o ys z;rw[e] at z;cases z
  ·intro o xs z;rw[r.at'] at z;cases z
 | _=>exact RpO.plain `vc
noncomputable def Tg0(a C:`e)(od:`fe):`rj:=λh=>∃oe,`fz=`a oe/\oe.cls=`x C/\(∀dx,od=`a dx->oe.dict=`a dx)/\∃vs,oe.data=`Bi
noncomputable def S00(H:Hp)(B:BS)(od:`fe):`aX->Prop
 | `c=>`f7
 | `r3=>∃dx,od=`a dx/\¬B dx/\H dx=`a (.xd [(`oV,`vd)])
noncomputable def XcR(K:`y)(H:Hp)(B:BS)(c:Str)(n:`aX)(a:`e):Prop:=∃C od,`or/\H a=`a (.ext (Tg0 a C od))/\`ahY/\S00 H B od n
theorem XcR.mono{c:Str}{n:`aX}(g:`c6)(h:`ah3):XcR K H' B' c n a:=by
 obtain⟨C,od,h1,h2,h3,h4⟩:=h;refine⟨C,od,(`ah4).1,(`ah4).2,h3,?_⟩;cases n with
 | none=>trivial
 | some n=>obtain⟨dx,e,q1,q2⟩:=h4;exact⟨dx,e,(`ah5).1,(`ah5).2⟩
noncomputable def SlR(K:`y)(H:Hp)(B:BS)(o:`cr):`OP
 | .un=>`f7
 | `lR=>∃v,o=`cb/\`bN
 | `sB=>∃a,o=`lV/\`ah6
 | .ex c n=>∃a,o=`lV/\`ah3
theorem Pd.get{F:`g9}:∀{l:`a5} {m:`hO} {i:Nat} {b:β},`jZ->`OQ->∃a,`ve/\`rr
 | _,_,_,_,`J,e=>`Be
 | _,_,0,_,`LL,e=>`LM
 | _,_,i+1,b,`kN,e=>by
  obtain⟨u,h1,h2⟩:=`ox (i:=i) (b:=b) t `pD;exact`LN
theorem Pd.imp{F G:`g9}(h:`LW):`ahW
 | _,_,`J=>`J
 | _,_,`c5=>`X (h _ _ r) (`hZ h t)
theorem Pd.set{F:`g9}{a:α}{b:β}(r:`rr):∀{l:`a5} {m:`hO} (i:Nat),`jZ->`a4 F (`OR) `ah7
 | _,_,_,`J=>`J
 | _,_,0,`kN=>`c5
 | _,_,i+1,`X q t=>`X q (`m! r i t)
theorem Pd.len{F:`g9}:∀{l:`a5} {m:`hO},`jZ->`cB=`ZI
 | _,_,`J=>rfl
 | _,_,`kN=>by simp[`zl t]
theorem Pd.app{F:`g9}:∀{l l':`a5} {m m':`hO},`jZ->`a4 F l' m'->`a4 F (l++l') (m++m')
 | _,_,_,_,`J,s=>s
 | _,_,_,_,`c5,s=>`X r (`lY t s)
structure Env(K:`y)(H:Hp)(B:BS)(σ:St)(δ:Ds):Prop where
 all:`ah8
 bad:`so
 own:∀(i j:Nat) (a:`e) (ds es:D),`WW->`jX=`ah9->`gK->`oi=`sn->i=j
section
variable{σ σ':St}{δ:Ds}
theorem SlR.same{o:`cr}{s:Sl}(q:`aD)(h:`ah'):SlR K H' B o s:=by
 cases s with
 | un=>trivial
 | sh d=>obtain⟨v,e,r⟩:=h;exact⟨v,e,`yc q⟩
 | ow d=>obtain⟨a,e,b,r⟩:=h;exact⟨a,e,b,`yc q⟩
 | ex c n=>obtain⟨a,e,r⟩:=h;exact⟨a,e,`b7 (`HN q)⟩
theorem Env.same(q:`aD)(e:`a9):Env K H' B σ δ :=
 ⟨`hZ (λ_ _ h=>`C7 q) `fP,(λa b=>(`gO a b).same q),`hR⟩
theorem Env.free(e:`a9){p:`e}(h:`cO):¬B p:=λz=>`gO p z h
theorem Env.get(e:`a9){d:D}(h:`ah!):∃v,`ul/\`bN:=by
 obtain⟨o,h1,v,rfl,r⟩:=`ah?;exact⟨v,h1,r⟩
theorem Env.set(e:`a9)(i:Nat){d:D}(r:`bN):Env K H B `rx `CN:=by
 refine⟨`m! `aia i `fP,`gO,`Xo⟩;have hj:j≠i:=by
  rintro rfl
  by_cases hl:j<`vf
  ·rw[`C8] at h1;cases h1
  ·rw[`C9] at h1;cases h1
 have hk:k≠i:=by
  rintro rfl
  by_cases hl:k<`vf
  ·rw[`C8] at h2;cases h2
  ·rw[`C9] at h2;cases h2
 rw[`Mr] at h1 h3;rw[`hC (B6 hk)] at h2 h4;exact `OS
universe zz
theorem Y8{p:`e}{o:HO}(h:`cO)(hz:`aib:=by intro _ _ z;cases z):`cU H `OT:=⟨λb u e=>by rw[m9 (V0 e h)];exact e,λb ob xs e=>by
 by_cases z:b=p
 ·subst z
  rw[n6] at e;exact `I (`kP) (hz ob xs)
 ·rw[m9 z] at e;exact e⟩
noncomputable def tD(K:`y)(B:BS)(δ:Ds)(g:`bM):TE:=fun σ H Q=>∃d,`a9/\`fq/\`C'
structure PD(X:Cx)(e:`G)(g:`bM):Prop where
 mk::go:`aic
instance{X:Cx}{e:`G}{g:`bM}:`dk (`b_) (λ_=>`aic):=⟨PD.go⟩
noncomputable def tDT(K:`y)(B:BS)(δ:Ds)(g:`eA):TT:=fun σ H Q=>∃b,`a9/\`al=`gI/\∀H',`aD->Q b H'
structure PTD(X:Cx)(e:`G)(g:`eA):Prop where
 mk::go:`aid
instance{X:Cx}{e:`G}{g:`eA}:`dk (PTD X e g) (λ_=>`aid):=⟨PTD.go⟩
structure PWD(X:Cx)(e:`G)(g:`eA):Prop where
 mk::go:`aie
instance{X:Cx}{e:`G}{g:`eA}:`dk (PWD X e g) (λ_=>`aie):=⟨PWD.go⟩
noncomputable def tDA(K:`y)(B:BS)(δ:Ds)(g:`dY):TA:=fun σ H Q=>∃ds,`a9/\`al=`oq/\∀vs H',`aD->Rps K H' B ds vs->`BF
structure PDA(X:Cx)(es:`a6)(g:`dY):Prop where
 mk::go:`aif
instance{X:Cx}{es:`a6}{g:`dY}:`dk (PDA X es g) (λ_=>`aif):=⟨PDA.go⟩
theorem pi0{d:D}{b:`M}(h:asB d=`gI):d=`ct:=by
 cases d<;>simp[asB] at h
 subst h;rfl
noncomputable def Op2(K:`y)(r:R2)(f:`aZ):Prop:=∀(H:Hp) (B:BS) (x y:V) (dx dy d:D) (Q:VK),`p?->`OU->`aig->f dx dy=`a2->(`C')->`xo
noncomputable def FnR(K:`y)(r:`lH)(f:`N):Prop:=∀(H:Hp) (B:BS) (xs:`K) (ds:`f) (d:D) (Q:VK),`p?->`a3->`vg->(`C')->`BV
section
variable{a:`G}{ga:`bM}{gu:`eA}{rest:`a6}
theorem _root_.L2.PE.imp{t t':TE}(h:PE X e t)(q:`C!):PE X e t':=`aih
theorem _root_.L2.PT.imp{t t':TT}(h:`Mw)(q:`C!):PT X e t':=`aih
theorem _root_.L2.PW.imp{t t':TT}(h:PW X e t)(q:`C!):PW X e t':=λw pins s σ H Q I z=>h w `h s σ H Q I `HY
theorem _root_.L2.PA.imp{t t':TA}(h:`B_)(q:`C!):PA X es t':=λp pins s σ H Q I z=>h p `h s σ H Q I `HY
theorem U30{δ:Ds}{d:D}(h:gv i δ=`a2):`ah!:=by
 unfold gv at h;split at h
 ·cases h;assumption
 ·cases h
theorem z8(i:Nat)(hN:`cD:=by rfl)(hv:`fi:=by first|exact `b8|exact `gh|exact `gi)(hd:`aY:=by decide)
  (hcd:`fl:=by decide):PD X `jK (gv i):=.mk λB δ=>`aii fun σ H Q ⟨d,en,h,k⟩=>by
 obtain⟨v,e,r⟩:=en.get (U30 h);exact⟨v,e,k v H `b9 r⟩
theorem w6{i:Int}:PD X (`kQ `dG j pos) (gc `dG):=.mk λB δ=>Vl0.imp `aij
theorem rv0{i:`M}:PD X (`kQ (`dF i) j pos) (gc (.bl i)):=.mk λB δ=>Ux0.imp fun σ H Q ⟨d,en,h,k⟩=>by cases h;exact `W?
theorem z10:PD X (`kQ `Z j pos) `fY:=.mk λB δ=>Wy0.imp fun σ H Q ⟨d,en,h,k⟩=>by cases h;exact k _ H `b9 `sK
theorem o4:PD X (`kQ `iO j pos) (gc `iO):=.mk λB δ=>Wo0.imp fun σ H Q ⟨d,en,h,k⟩=>by cases h;exact `OV
theorem t60{i:Int}(hm:∃t,`nU=`a `rN)(hg:`cE:=by rfl)(hd:`aY:=by decide):PD X `jK (gc `dG):=.mk λB δ=>by
 obtain⟨t,hm⟩:=hm;exact(h40 (v:=`aR) hg hm `CA hd).imp `aij
theorem o50{r:R2}{f:`aZ}(hf:Op2 K r f){δ:Ds}{σ:St}{Q:VK}(h:tD K B δ `vh σ H Q):tOp r (tD K B δ ga) (tD K B δ gb) σ H Q:=by
 obtain⟨d,en,h,k⟩:=h;unfold o2 at h;cases e1:`cV with
 | none=>rw[e1] at h;cases h
 | some x =>
  cases e2:`dc with
  | none=>rw[e1,e2] at h;cases h
  | some y =>
   rw[e1,e2] at h;refine`qa;exact hf H2 B v1 v2 x y d Q `aik `sN r2 h λv H' s r=>k v H' (`IK s) r
theorem q90{op:Operator}{r:R2}{f:`aZ}(ho:`adr)(hf:`vi)(ha:`cF)(hb:`cG):PD X `ads `vh:=.mk λB δ=>(bv0 ho `bn `eB).imp `OW
theorem kk0{op:`f'}{r:R2}{f:`aZ}(ho:`pS)(hf:`vi)(ha:`cF)(hb:`cG)(hm:`kR:=by first|exact o20 _|with_unfolding_all rfl):PD X `mT `vh :=
 .mk λB δ=>(Yi0 ho `bn `eB hm).imp `OW
theorem Vu0{r:R2}{f:`aZ}(ho:`NG)(hf:`vi)(ha:`cF)(hb:`cG)(hs:rz0 b:=by exact `i0):PD X `pW `vh :=
 .mk λB δ=>(ad0 ho `bn `eB hs).imp `OW
theorem o7{op:`f'}{r:R2}{f:`aZ}(ho:`pS)(hf:`vi)(ha:`cF)(hb:`cG)(hm:`kR:=by first|exact o20 _|with_unfolding_all rfl):PTD X `mT (ob `vh) :=
 .mk λB δ=>(oo0 ho `bn `eB hm).imp fun σ H Q ⟨t,en,h,k⟩=>by
  unfold ob at h;cases e:`ahx with
  | none=>rw[e] at h;cases h
  | some d =>
   rw[e] at h;cases pi0 h;exact o50 hf `OX
theorem K9(h:`b_)(he:`aci:=by intro _;rfl):PTD X e (ob g) :=
 .mk λB δ=>(V80 `bT he).imp fun σ H Q ⟨t,en,h,k⟩=>by
  unfold ob at h;cases e:`al with
  | none=>rw[e] at h;cases h
  | some d =>
   rw[e] at h;cases pi0 h;exact`OX
theorem qa0(h:`vj):PTD X `acq (yy0 gt) :=
 .mk λB δ=>(Xw0 `bT).imp fun σ H Q ⟨t,en,h,k⟩=>by
  unfold yy0 at h;cases e:`dt with
  | none=>rw[e] at h;cases h
  | some b =>
   rw[e] at h;cases h;exact⟨b,en,e,λH' s=>`yl⟩
theorem wu0(h:`vj):PWD X `ack gt:=.mk λB δ=>Y40 `bT
theorem wt0(h:`vj):PWD X `MA gt:=.mk λB δ=>ee0 `bT
theorem vf0(ha:`vj)(hb:PWD X `BI gu):PWD X `BJ (G3 gt gu) :=
 .mk λB δ=>(Wj0 `bn `eB).imp fun σ H Q ⟨t,en,h,k⟩=>by
  unfold G3 at h;cases e:`dt with
  | none=>rw[e] at h;cases h
  | some b =>
   rw[e] at h;refine`ail;cases b with
   | true=>exact`aim
   | false =>
    simp at h;subst h;rw[`hb];exact `yl
theorem yl0(ha:`vj)(hb:PWD X `MB gu):PWD X `MC (zj0 gt gu) :=
 .mk λB δ=>(ag0 `bn `eB).imp fun σ H Q ⟨t,en,h,k⟩=>by
  unfold zj0 at h;cases e:`dt with
  | none=>rw[e] at h;cases h
  | some b =>
   rw[e] at h;refine`ail;cases b with
   | false=>exact`aim
   | true =>
    simp at h;subst h;rw[`bx];exact `yl
theorem PWD.pt(h:PWD X e gt):`ain:=.mk λB δ=>(`H0).pt
theorem Wu0{op}(h:PD X a g):PD X `acr g:=.mk λB δ=>W80 `bT
theorem Xe0(ha:`cF)(hb:PD X `BI gb):PD X `BJ (ov0 ga gb) :=
 .mk λB δ=>(X90 `bn `eB).imp fun σ H Q ⟨d,en,h,k⟩=>by
  unfold ov0 ob at h;cases e:`cV with
  | none=>rw[e] at h;cases h
  | some x =>
   rw[e] at h;refine⟨x,en,e,λv H' s r=>?_⟩;cases x with
   | bl c =>
    rw[Z8] at r;refine⟨c,r,?_⟩;cases c with
    | true=>exact⟨d,`ed s,h,λv J s'=>k v J (s.trans s')⟩
    | false =>
     simp[asB] at h;rw[`hb];exact k _ H' s (by rw[← h,Z8])
   | _=>simp[asB] at h
theorem u0:PDA X [] v5:=.mk λB δ=>yo0.imp fun σ H Q ⟨ds,en,h,k⟩=>by cases h;exact k [] H `b9 (`hn)
theorem v7(ha:`b_)(hr:`vk)(hs:`dW:=by rfl):PDA X `fI (z7 g gA) :=
 .mk λB δ=>(G8 `bn (hr B δ) hs).imp fun σ H Q ⟨ds,en,h,k⟩=>by
  unfold z7 at h;cases e1:`al with
  | none=>rw[e1] at h;cases h
  | some d =>
   cases e2:`cM with
   | none=>rw[e1,e2] at h;cases h
   | some es' =>
    rw[e1,e2] at h;cases h;refine⟨d,en,e1,λv H1 s1 r1=>⟨es',`ee,e2,λvs H2 s2 r2=>k _ H2 `ke ?_⟩⟩;rw[o9];exact⟨v,vs,rfl,`oy,r2⟩
theorem J7{x1}(h:`vk):PD X (`mb es x1 pos) (T3 gA) :=
 .mk λB δ=>(fn0 `bT).imp fun σ H Q ⟨d,en,h,k⟩=>by
  unfold T3 at h;cases e1:`cM with
  | none=>rw[e1] at h;cases h
  | some ds =>
   rw[e1] at h
   by_cases hl:`p5
   ·simp only[`k,`k3] at h
    cases h;refine`aio;rw[W0];exact⟨p,vs,rfl,⟨(`ee).free hp,n6⟩,`yk `e0⟩
   ·simp only[`k,`OY] at h
    cases h
theorem o10(h:`vk):PD X `Ne (W9 gA) :=
 .mk λB δ=>`aip fun σ H Q ⟨d,en,h,k⟩=>by
  unfold W9 at h;cases e1:`cM with
  | none=>rw[e1] at h;cases h
  | some ds =>
   rw[e1] at h
   by_cases hl:`p5
   ·simp only[`k,`k3] at h
    cases h;refine`aio;rw[Y7];exact⟨p,vs,rfl,`m ⟨(`ee).free hp,`m n6⟩,`yk `e0⟩
   ·simp only[`k,`OY] at h
    cases h
theorem fl0{f:`N}(hf:FnR K r f){δ:Ds}{σ:St}{Q:VK}(h:tD K B δ (oA gA f) σ H Q):tCB r (tDA K B δ gA) σ H Q:=by
 obtain⟨d,en,h,k⟩:=h;unfold oA at h;cases e1:`cM with
 | none=>rw[e1] at h;cases h
 | some ds =>
  rw[e1] at h;exact⟨ds,en,e1,λvs H1 s1 r1=>hf H1 B vs ds d Q `C? r1 h `aiq⟩
theorem xt0{id:`ck}{p:Pos}{f:`N}(hc:`aer)(hf:`OZ)(hm:`iP)(hv:`aes)(ha:`qb)(hg:`cE:=by rfl)
  (hn:`gu := by decide) (hdb:`aY:=by decide) (he:`dW:=by rfl) (hpl:`hf:=by rfl) :
  `vl:=.mk λB δ=>(p90 hc hg hm hv `bn hn hdb he hpl).imp `air
theorem G5{T:`ck}{p:Pos}{f:`N}(hc:`Np)(hf:`OZ)(hm:`iP)(hv:`Nq)(ha:`qb)(hg:`cE:=by rfl)
  (hn:`gu := by decide) (hdb:`aY:=by decide) (he:`dW:=by rfl) (hpl:`hf:=by rfl) :
  `vl:=.mk λB δ=>(um0 hc hg hm hv `bn hn hdb he hpl).imp `air
noncomputable def spD(K:`y)(f:`N):Sp:=λvs H Q _=>∃(B:BS) (ds:`f) (d:D),`p?/\`Da/\`vg/\`C'
theorem Y60{k:Nat}{ps:`g}{p:Pos}{f:`N}(F:`ah `aU X.w X.K `cq `d4 CX0 k fa fd ps (spD X.K f))(hr:`Nh)(hm:`nU=`xL)(hk:`aP X.K `xK=`b)(hb:Binds X.K fd ps [])
  (ha:`qb) (hg:`cE:=by rfl) (hdb:`aY:=by decide) (he:`dW:=by rfl) (hpl:`hf:=by rfl) :
  `vl:=.mk λB δ=>(om0 (E:=E0) F hr hg hm hk hb `J gm0 `bn hdb he hpl).imp fun σ H Q h=>by
 obtain⟨d,en,h,k⟩:=h;unfold oA at h;cases e1:`cM with
 | none=>rw[e1] at h;cases h
 | some ds =>
  rw[e1] at h;refine`ais;show spD X.K f (vs++[]) H1 Q E0;rw[`bc];exact⟨B,ds,d,`C?,r1,h,`aiq⟩
universe zz
universe DL
variable{B B' B₀:DL.BS}
namespace DL
open Spec PyProof.Rows L2
structure EnvS(K:`y)(H₀:Hp)(B₀:BS)(H:Hp)(σ:St)(δ:Ds):Prop where
 same:`Db
 ex:∃B:BS,(`i1)/\(`i2)/\`a9
 fr:`ait
 b0:`O_
noncomputable def To0(K:`y)(H₀:Hp)(B₀:BS)(D:Ends):Res->Prop
 | `x5=>`aiu
 | .rt d=>∀v H,`Db->Rp K H `S d v->D.rt v H
 | .bk δ=>∀σ H,`b'->D.bk σ H
 | .ct δ=>∀σ H,`b'->D.ct σ H
 | .rf d=>∀p H,`Dc->`Db->RpL K H (λa=>`j1∨a=p) d p->D.rt `cX H
noncomputable def tDS(K:`y)(H₀:Hp)(B₀:BS)(δ:Ds)(G:`gd):TS:=λD σ H=>∃r,`b'/\`h4=`dK/\To0 K `T `S D r
structure PSD(X:Cx)(st:`bp)(G:`gd):Prop where
 mk::go:`aiv
instance{X:Cx}{st:`bp}{G:`gd}:`dk (`O0) (λ_=>`aiv):=⟨PSD.go⟩
structure PSsD(X:Cx)(st:`bY)(G:`gd):Prop where
 mk::go:`aiw
instance{X:Cx}{st:`bY}{G:`gd}:`dk (`aix) (λ_=>`aiw):=⟨PSsD.go⟩
section
variable{σ:St}{δ:Ds}
theorem EnvS.grow(e:`b')(s:`aD):`cf K `T `S H' σ δ:=⟨e.same.trans s,let ⟨B,b1,b2,en⟩:=e.ex;⟨B,b1,b2,`ed s⟩,e.fr,e.b0⟩
universe zz
structure Wr(idx:`j)(σ σ':St)(δ δ':Ds):Prop where
 len:`Ml
 oth:∀j,j∉idx->σ'[j]?=`oi/\`Jc=`jX
 own:∀j∈idx,∀ds,`Jc≠`yf
noncomputable def tDG(K:`y)(idx:`j)(f:`aF)(B:BS)(d:D)(δ:Ds):TG:=λv σ H Q=>∃δ',`bN/\`a9/\`Ox/\∀σ',`aiy->Env K H B σ' δ'->Q σ' H
structure PGD(X:Cx)(tg:`G)(idx:`j)(f:`aF):Prop where
 mk::go:`aiz
instance{X:Cx}{tg:`G}{idx:`j}{f:`aF}:`dk (`vm) (λ_=>`aiz):=⟨PGD.go⟩
theorem _root_.L2.PG.imp{t t':TG}(h:PG X tg t)(q:∀v σ H Q,t' v σ H Q->`acI):PG X tg t':=λpins s σ H v u Q I r z=>h `h s σ H v u Q I r (q v σ H Q z)
theorem lo0{σ:St}{δ:Ds}{d:D}:Wr [i] σ `rx δ `CN:=by
 refine⟨`bs,`aiA,λj hj ds h=>?_⟩
 ·have:j≠i:=`u9
  rw[`aiB,`aiB];exact`gP
 ·have:j=i:=`u9
  subst this
  by_cases hl:j<`vf
  ·rw[`C8] at h;cases h
  ·rw[`C9] at h;cases h
theorem p7(i:Nat){pos:Pos}(hN:`fk)(hi:`cD:=by rfl)(hx:`mR:=by first|exact `b8|exact `gJ)
  (hf:`mS:=by first|exact `b4|exact `bA|assumption):PGD X `jK [i] `H?:=.mk λB d δ=>(`O1).imp λv σ H Q ⟨δ',r,en,e,k⟩=>by
 cases e;exact k _ lo0 (en.set i r)
section
variable{st:`bp}{rest:`bY}{G G1 G2 Ga Gb:`gd}{as bs:`bY}
theorem u9:`cN X [] v9:=.mk λH₀ B₀ δ pins s σ H D I ⟨r,en,e,k⟩=>by
 cases e;exact `aiC
theorem z9(h1:PSD X st G1)(h2:`cN X `ax G2):`cN X (st::`ax) `aiD:=.mk λH₀ B₀ δ pins s σ H D I ⟨r,en,e,k⟩=>by
 unfold v6 at e;cases e1:`hM with
 | none=>rw[e1] at e;cases e
 | some r1 =>
  rw[e1] at e;cases r1 with
  | nx δ'=>exact xu0 `ym `aiE `h s σ H D I `O2
  | rt d=>cases e;exact `Dd
  | bk δ'=>cases e;exact `Dd
  | ct δ'=>cases e;exact `Dd
  | rf d=>cases e;exact `Dd
theorem T5(h:`b_):PSD X `mU (V5 g):=.mk λH₀ B₀ δ pins s σ H D I ⟨r,en,e1,k⟩=>by
 unfold V5 at e1;obtain⟨B,b1,b2,env⟩:=`ba;cases e2:`al with
 | none=>rw[e2] at e1;cases e1
 | some d =>
  rw[e2] at e1;cases e1;exact si0 `bT `h s σ H D I ⟨d,env,e2,λv H' s' r=>k v H' `O3 (`b7 (`eX b1))⟩
theorem EnvS.wr{σ σ':St}{δ:Ds}(e:`b')(b1:`i1)(b2:`i2)(s:`aD)(w:`aiy)(en:Env K H' B σ' δ'):`aiF:=by
 refine⟨e.same.trans s,⟨B,b1,b2,en⟩,`H6,e.b0⟩
 by_cases hi:i∈idx
 ·exact `I h1 (w.own i hi ds)
 ·rw[(`aiG).2] at h1
  rw[(`aiG).1] at h2;exact `aiH
theorem Z1(h:`b_)(hg:`vm)(hs:`ML:=by rfl)(hw:`MM:=by rfl)
  (h1:`MN:=by rfl):PSD X `MO (j7 f g):=.mk λH₀ B₀ δ pins s σ H D I ⟨r,en,e1,k⟩=>by
 unfold j7 at e1;obtain⟨B,b1,b2,env⟩:=`ba;cases e2:`al with
 | none=>rw[e2] at e1;cases e1
 | some d =>
  rw[e2] at e1;simp only[`k] at e1;cases e3:`on with
  | none=>rw[e3] at e1;cases e1
  | some δ' =>
   rw[e3] at e1;cases e1;exact kn0 `bT (hg B d δ) hs hw h1 `h s σ H D I ⟨d,env,e2,λv H' s' r=>⟨δ',r,`O4,e3,fun σ' w en'=>k σ' H' (en.wr b1 b2 s' w en')⟩⟩
theorem X4(hc:`vn)(ha:`aiI)(hb:`aiJ):PSD X `O5 (ifD gt Ga Gb):=.mk λH₀ B₀ δ pins s σ H D I ⟨r,en,e1,k⟩=>by
 unfold ifD at e1;obtain⟨B,b1,b2,env⟩:=`ba;cases e2:`dt with
 | none=>rw[e2] at e1;cases e1
 | some t =>
  rw[e2] at e1;refine gy0 (hc B δ) (ha `T `S δ) (hb `T `S δ) `h s σ H D I `aiK;cases t with
  | true=>exact`De
  | false=>exact`De
structure ItD(K:`y)(B:BS)(J:It)(items:`f)(H₁:Hp):Prop where
 go:∀i H,`O6->`vo->`MT
 yld:∀i H x H',`O6->`MW->`vo->`aD/\∃d,`ap[i]?=`a2/\∀B':BS,Gr H₁ H' B B'->(∀a,`lT->`hQ)->Rp K H' B' d x
 stop:∀i H,`O6->`bG<=i->`MX
noncomputable def tDI(K:`y)(B:BS)(δ:Ds)(g:`dY):TI:=fun σ H R=>∃items,`a9/\`al=`a `ap/\∀J H',`aD->ItD K B J `ap H'->R J H'
structure PID(X:Cx)(tg e:`G)(g:`dY):Prop where
 mk::go:`aiL
instance{X:Cx}{tg e:`G}{g:`dY}:`dk (PID X tg e g) (λ_=>`aiL):=⟨PID.go⟩
theorem _root_.L2.PI.imp{t t':TI}(h:PI X tg e t)(q:∀σ H R,t' σ H R->t σ H R):PI X tg e t':=λpins s σ H R I z=>h `h s σ H R I (q σ H R z)
theorem w00(h:`b_):PID X tg e (z40 g):=.mk λB δ=>`vp (Zv0 `bT) fun σ H R ⟨`ap,en,e1,k⟩=>by
 unfold z40 at e1;cases e2:`al with
 | none=>rw[e2] at e1;cases e1
 | some d =>
  rw[e2] at e1;cases d<;>simp[lf0] at e1
  subst e1;refine`O7;rw[Y7] at r;obtain⟨a,xs,rfl,q,rs⟩:=r;refine`aiM
  ·have:`Ci:=`H5
   exact`aiN
  ·obtain⟨e3,y⟩:=y
   obtain⟨x',e4,r'⟩:=`aiO;have:=`aiP;rw[e4] at this;cases `C;subst e3;exact`aiQ
  ·exact`aiR
theorem oh0(h:`b_):PID X tg e (tupI g):=.mk λB δ=>`vp (Wd0 `bT) fun σ H R ⟨`ap,en,e1,k⟩=>by
 unfold tupI at e1;cases e2:`al with
 | none=>rw[e2] at e1;cases e1
 | some d =>
  rw[e2] at e1;cases d<;>simp[a00] at e1
  subst e1;refine`O7;rw[W0] at r;obtain⟨a,xs,rfl,q,rs⟩:=r;refine`aiM
  ·have:`Ci:=`H5
   exact`aiN
  ·obtain⟨e3,y⟩:=y
   obtain⟨x',e4,r'⟩:=`aiO;have:=`aiP;rw[e4] at this;cases `C;subst e3;exact`aiQ
  ·exact`aiR
theorem nt0(x:Str):(`hm x).length=`uV:=by simp[`hm]
theorem i90(h:`b_):PID X tg e (qo0 g):=.mk λB δ=>`vp (Vd0 `bT) fun σ H R ⟨`ap,en,e1,k⟩=>by
 unfold qo0 at e1;cases e2:`al with
 | none=>rw[e2] at e1;cases e1
 | some d =>
  rw[e2] at e1;cases d<;>simp[i80] at e1
  subst e1;refine`O7;rw[Y0] at r;refine⟨_,r,`WZ⟩
  ·rw[nt0] at hi;exact hi
  ·obtain⟨e3,c,hc,rfl⟩:=y
   subst e3;refine⟨`oz,`op,?_,λB' gB _=>`yj⟩;unfold signs;rw[`ex,`af0,hc];rfl
  ·rw[nt0] at hi;exact hi
theorem p70(lo hi:Int):(M9 lo hi).length=`n3:=by simp[M9]
theorem Yk0(lo hi:Int):ItD K B (Itr lo `n3) (M9 lo hi) H:=by
 refine`WY
 ·rw[p70] at hi;exact hi
 ·obtain⟨e3,rfl⟩:=y
  rw[p70] at hi;subst e3;exact⟨`oz,`MY,by simp[M9,hi],λB' gB _=>`yg⟩
 ·rw[p70] at hi;exact hi
theorem yw0{a:`G}{p:Pos}(hm:`adi)(ha:`aiS)(hg:`adh := by rfl)(hs:`BT:=by rfl):PID X tg `adk (y30 gA) :=
 .mk λB δ=>`vp (dl0 hg hm `bn hs) fun σ H R ⟨`ap,en,e1,k⟩=>by
 unfold y30 at e1;cases e2:`cM with
 | none=>rw[e2] at e1;cases e1
 | some ds =>
  rw[e2] at e1;simp only[`k] at e1;unfold gn0 at e1;split at e1
  ·split at e1
   ·rename_i j hj
    cases e1;refine`aiT;rw[o9] at r;obtain⟨x,t,rfl,r1,r2⟩:=r;rw[m5] at r2;subst r2;rw[m8] at r1;subst r1;refine⟨j,rfl,hj.1,hj.2,k _ H' s' ?_⟩;have:=Yk0 (K:=X.K) (B:=B) (H:=H') 0 j;rw[Int.sub_zero] at this;exact `C
   ·cases e1
  ·cases e1
theorem EnvS.lower{H₁:Hp}{σ:St}{δ:Ds}(e:`cf K H₁ `S H σ δ)(s:`cU `T H₁)(b0:`O_):`b':=by
 obtain⟨B,b1,b2,en⟩:=e.ex;exact⟨s.trans e.same,⟨B,b1,λa z=>(b2 a z).imp id λq=>s.free q,en⟩,λi ds a h1 h2=>s.free (`aiH),b0⟩
open Classical in
theorem wp0(hp:`pL)(hc:`bz)(hi:`fs)(hg:`vm)(hb:`aiU)
  (hs:`dz:=by intro _;rfl):PSD X `M4 (w40 gi f G):=.mk λH₀ B₀ δ pins s σ H D I ⟨r,en,e1,k⟩=>by
 unfold w40 at e1;obtain⟨B,b1,b2,env⟩:=`ba;cases e2:`oo with
 | none=>rw[e2] at e1;cases e1
 | some items =>
  rw[e2] at e1;simp only[`k] at e1;have a5:`aiV:=`aiW
  have a6:PSs X `d8 (λD σ H=>∃H₀ B₀ δ,`aiX):=λpins s σ H D I ⟨`T,`S,δ,h⟩=>`aiY
  refine `aiZ;obtain⟨Hh,O⟩:∃Hh:Hp,`ai_:=`ag
  have U:`ai0:=`ai1
  have Z:`ai2:=`ai3
  have a2:`ai4:=`ai5
  have a1:`ai6:=⟨λb o h=>by
   by_cases z:`sx
   ·rw[`ai7] at h;cases h
   ·rw[O] at h
    have h':`ai8:=h;rw[`m?] at h';exact h',λb o xs h=>by
   by_cases z:`sx
   ·have h0:=`ai9
    rw[`ai'] at h0;cases h0
   ·rw[O]
    show (`yp)=_;rw[`m?];exact h⟩
  have hS:`ai!:=⟨λb o h=>by
   have h1:=`ai?
   by_cases z:B b
   ·rcases b2 b z with q|q
    ·rw[a2 b q];exact h1
    ·rw[h] at q;cases q
   ·rw[U b z];exact h1,`aja⟩
  have Y:=`h_;have start:`ajb:=by
   refine`ajc
   ·by_cases q:`j1
    ·exact `g?
    ·exact `ajd
   ·have hn:=`aje
    have nb:¬`j1:=`ajf
    obtain⟨o,e3,a',e4,hB,_⟩:=`ajg;rw[h2] at e3;cases e3;cases e4;exact Z a hB nb
   ·rw[a2 a z]
    exact `ajh
  refine⟨λi m σ H=>m=`bG - i/\`O8/\∃δi,`aji/\J3 f G (`gL i) δi=`dK,`ajj,?_⟩;rintro i m σi Hi ⟨rfl,a8,δi,M,ei⟩;have gr:`ajk:=`ajl
  by_cases hlt:`vo
  ·refine `l ⟨`ajm,fun σ' H'=>∃δn,`ajn/\J3 f G (`sy) δn=`dK,`ajo,`ajp⟩
   obtain⟨sm,d,hd,rd⟩:=`ajq;obtain⟨B',c1,c2,env0⟩:=M.ex;have a4:`ajr:=rd B' (λb o n h=>by
    have h':Hh b=`ab:=`H8
    refine`ajs;rcases c2 b z with q|q
    ·exact `ajt
    ·rw[h'] at q;cases q) env0.bad
   have a3:=`aju
   replace M:=M.grow sm
   have a0:`ajv:=by
    rw[`Df];congr 1;rw[`Dg] at hd;exact A3 hd
   rw[a0] at ei;unfold J3 at ei;cases e3:f d δi with
   | none=>rw[e3] at ei;cases ei
   | some δ2 =>
    rw[e3] at ei;simp only[`k] at ei;refine`ajw;have a7:`ajx:=`ajy;cases e4:G δ2 with
    | none=>rw[e4] at ei;cases ei
    | some rb =>
     rw[e4] at ei;refine`ajz;cases rb with
     | nx δn=>exact `O9
     | ct δn=>exact `O9
     | bk δn =>
      cases ei;exact fun σ' H' en'=>k σ' H' (en'.lower hS `ef)
     | rt d' =>
      cases ei;exact λv H' s' r'=>k v H' (`O' s') r'
     | rf d' =>
      cases ei;exact λp H' hp s' r'=>k p H' (hS.free hp) (`O' s') r'
  ·have e:i=`bG:=`F
   subst e;refine `ajA;rw[`na] at ei;cases ei;exact `ajB
structure PFD(X:Cx)(ifs:`a6)(g:`eA):Prop where
 mk::go:`ajC
instance{X:Cx}{ifs:`a6}{g:`eA}:`dk (PFD X ifs g) (λ_=>`ajC):=⟨PFD.go⟩
theorem ya0:PFD X [] noT:=.mk λB δ pins s σ H Q I ⟨b,en,e,k⟩=>by
 cases e;exact Wn0 `h s σ H Q I (k H `b9)
theorem Z60(h:`vn):PFD X [c] gt:=.mk λB δ=>Xf0 `bT
theorem k00{σ:St}(h:j<n):`ds[j]?=`dZ:=by
 unfold Q7;rw[`rR `ig,`kX,`d_]
theorem sh0:∀n:Nat,`a4 `ye (`fQ n (`c:`cr)) (`ajD)
 | 0=>`J
 | n+1=>`X `sE (sh0 n)
theorem jk0{σ:St}{δ:Ds}(en:`a9):∀caps:`j,`a4 `ye (`agn) (`ahh)
 | []=>`J
 | j::`ce=>by
  refine `X ?_ (jk0 en `ce);show SlR K H B `Hx (q30 `jX);cases h:`jX with
  | none=>trivial
  | some sl =>
   cases sl with
   | un=>trivial
   | ow ds=>trivial
   | ex c n=>trivial
   | sh d =>
    obtain⟨v,e,r⟩:=en.get h;rw[e];exact`aia
theorem dp0{o:`CO}{ds:D}(h:q30 o=`HS):`bt:=by
 cases o with
 | none=>cases h
 | some s=>cases s<;>cases h
theorem w60{δ:Ds}{ds:D}(h:`fM[i]?=`yf):`bt:=by
 unfold M7 at h
 by_cases hi:i<n
 ·rw[`B7,`kX,`H hi] at h
  cases h
 ·rw[`Nm,`ex] at h
  cases q:`ce[i - (`ajD).length]? with
  | none=>rw[q] at h;cases h
  | some j =>
   rw[q] at h;exact dp0 (`l9)
theorem Env.comp{σ:St}{δ:Ds}(en:`a9)(n:Nat)(caps:`j):Env K H B `ds `fM :=
 ⟨`lY (sh0 n) (jk0 en `ce),en.bad,`O!⟩
theorem SlR.gr{o:`cr}{s:Sl}(g:`c6)(no:∀ds,s≠`HS)(h:`ah'):SlR K H' B' o s:=by
 cases s with
 | un=>trivial
 | sh d=>obtain⟨v,e,r⟩:=h;exact`vq
 | ow ds=>exact `I rfl (no ds)
 | ex c n=>obtain⟨a,e,r⟩:=h;exact⟨a,e,`j5⟩
theorem Pd.impG(g:`c6):∀{σ:St} {δ:Ds},(`ajE)->`ah8->`a4 (SlR K H' B') σ δ
 | _,_,_,`J=>`J
 | _,_,no,`c5=>`X (r.gr g λds z=>no 0 ds (by rw[← z];rfl)) (`O? g (λi ds z=>no `bE ds `ajF) t)
noncomputable def tDF(K:`y)(B:BS)(δ:Ds)(g:`bM):TE:=fun σ H Q=>∃d,`a9/\`fq/\`ajG
structure PDF(X:Cx)(e:`G)(g:`bM):Prop where
 mk::go:`ajH
instance{X:Cx}{e:`G}{g:`bM}:`dk (`qc) (λ_=>`ajH):=⟨PDF.go⟩
theorem tD.toF{δ:Ds}{σ:St}{Q:VK}(h:tD K B δ g σ H Q):tDF K B δ g σ H Q:=by
 obtain⟨d,en,e,k⟩:=h;exact⟨d,en,e,λp H' hp s r=>k _ H' s (r.rp (λa z=>`fR) (en.free hp))⟩
theorem PDF.pd(h:`qc):`b_:=.mk λB δ=>(`H0).imp fun σ H Q z=>z.toF
theorem m40{K:`y}{B:BS}{δ:Ds}{σ:St}{H:Hp}{Q:VK}{caps:`j}{gi:`dY}{f:`aF}{gt:`eA}{ge:`bM}(hidx:∀j∈idx,j<n)
  (h:tDF K B δ `yt σ H Q) :
  lm0 n `ce (tDI K B δ gi) `ajI (fun σ H Q=>∃B δ,tDT K B δ gt σ H Q) (fun σ H Q=>∃B δ,tD K B δ ge σ H Q) σ H Q:=by
 obtain⟨d,en,h,k⟩:=h;unfold X6 at h;cases e1:`oo with
 | none=>rw[e1] at h;cases h
 | some items =>
  rw[e1] at h;simp only[`k] at h
  by_cases hsz:`m5
  ·rw[`H hsz] at h
   cases e2:`HH with
   | none=>rw[e2] at h;cases h
   | some out =>
    rw[e2] at h;cases h;refine⟨`ap,en,e1,`ajJ⟩;have U:=`ee;have a7:¬B L:=U.free hL;obtain⟨Bp,M⟩:∃Bp:BS,Bp=`ajK:=`ag
    have a5:Bp L:=by rw[M];exact `bA
    have a9:∀a,B a->Bp a:=λa z=>by rw[M];exact `fR
    have a0:∀a,Bp a->`W2:=λa z=>by rw[M] at z;exact z
    have gr:∀{H2:Hp},`N'->`ajL:=λ{H2} s2 b o nb hb=>⟨(λz=>by
     rcases a0 b z with q|q
     ·exact nb q
     ·subst q;rw[hL] at hb;cases hb),s2 b o hb⟩
    refine⟨λi m ys H2=>m=`bG - i/\`O8/\`ajM/\`N'/\`dJ<=i/\∃pre rest,out=pre++`ax/\`ajN/\zm0 f gt ge `fM (`gL i)=`a `ax,
     ⟨_,rfl,`db,n6,Y8 hL,`hD,[],out,rfl,`hn,e2⟩,?_⟩
    rintro i m ys H2 ⟨rfl,a8,hD,s2,a6,pre,rest,ho,rp,ec⟩;have O:Env K H2 Bp `ds `fM:=by
     refine⟨`O? (gr s2) `ajO (U.comp n `ce).all,`e1,`O!⟩;rcases a0 a z with q|q
     ·exact(U.same s2).bad a q
     ·subst q;rw[hD];exact .of rfl `C5 λ_ z=>nomatch z
    by_cases hlt:`vo
    ·refine `l ⟨it.go i H2 `Dh hlt,`ajP⟩
     obtain⟨sm,dx,Z,rx⟩:=`H' i H2 x H3 `Dh y hlt;have a3:`ajQ:=rx Bp (gr (`s0 sm)) O.bad
     replace O:=O.same sm
     replace s2:=`s0 sm
     replace hD:=sm _ _ hD
     replace rp:=rp.same sm
     have Y:`gL i=dx::`sy:=by
      rw[`Df];congr 1;rw[`Dg] at Z;exact A3 Z
     rw[Y] at ec;unfold zm0 at ec;cases e3:f dx `fM with
     | none=>rw[e3] at ec;cases ec
     | some δ' =>
      rw[e3] at ec;dsimp only at ec;refine⟨Bp,dx,`x8,δ',a3,O,e3,fun σ4 w en4=>⟨⟨w.len,λj v z=>?_⟩,?_⟩⟩
      ·by_cases hj:j∈idx
       ·rw[k00 (`eC j hj)] at z;cases z
       ·rw[(`st j hj).1];exact z
      ·cases e4:`u8 with
       | none=>rw[e4] at ec;cases ec
       | some t =>
        rw[e4] at ec;refine⟨Bp,δ',t,en4,e4,`ajR⟩;cases t with
        | false =>
         rw[`hb];exact⟨`H9,`F,rfl,hlt,s5 _ _ hD,`s0 s5,`F,pre,`ax,ho,rp.same s5,ec⟩
        | true =>
         rw[`bx];dsimp only at ec;cases e5:`x! with
         | none=>rw[e5] at ec;cases ec
         | some yd =>
          rw[e5] at ec;dsimp only at ec;cases e6:zm0 f gt ge `fM (`sy) with
          | none=>rw[e6] at ec;cases ec
          | some rest' =>
           rw[e6] at ec;cases ec;refine⟨Bp,δ',yd,`ajS,e5,λv H6 s6 r6=>?_⟩;have a2:`ajT:=s6 _ _ (s5 _ _ hD);have g6:`ajU:=λb o nb hb=>⟨nb,by
            rw[m9 (λz=>nb (by rw[z];exact a5))];exact hb⟩
           refine⟨a2,`F,`H9,`F,rfl,hlt,n6,⟨λb o hb=>?_,λb ob zs hb=>?_⟩,`G1,pre++[yd],rest',by rw[ho];simp,?_,e6⟩
           ·have a4:b≠L:=λz=>by rw[z,hL] at hb;cases hb
            rw[m9 a4];exact s6 _ _ (s5 _ _ (s2 _ _ hb))
           ·by_cases z:b=L
            ·rw[z,n6] at hb;cases hb
            ·rw[m9 z] at hb
             exact s2.nf _ _ _ (s5.nf _ _ _ (s6.nf _ _ _ hb))
           ·exact(`l8 ((rp.same s5).same s6) r6).mono g6
    ·have e:i=`bG:=`F
     subst e;refine `m ⟨`H! _ H2 `Dh `a_,?_⟩;rw[`na] at ec;have a1:`ajV:=A3 ec;subst a1;rw[`bc] at ho;subst ho;refine k L H2 (`h0 hL) `ke ⟨ys,hD,?_⟩;rw[M] at rp;exact rp
  ·rw[`ad hsz] at h;cases h
theorem j90{sc scope:`ca}{elt iter:`G}{ifs:`a6}{N':`g}{n:Nat}{caps:`j}{gi:`dY}{idx:`j}{f:`aF}{ge:`bM}
  (hc:`bz) (hsc:`ez) (ok:`k1) (hidx:∀j∈idx,j<n) (hi:`fs)
  (hg:`ho) (ht:`qd) (he:`qe)
  (hs:`dz:=by intro _;rfl) :
  `ajW:=.mk λB δ =>
 (iq0 hc hsc ok (hi B δ) (g:=`sv) (tt:=`ID) (te:=`ajX)
  `Di
  `ajY
  `ajZ hs).imp fun σ H Q h=>m40 `eC h
theorem Z30{sc scope:`ca}{elt iter:`G}{ifs:`a6}{N':`g}{n:Nat}{caps:`j}{gi:`dY}{idx:`j}{f:`aF}{ge:`bM}
  (hc:`bz) (hsc:`ez) (ok:`k1) (hidx:∀j∈idx,j<n) (hi:`fs)
  (hg:`ho) (ht:`qd) (he:`qe)
  (hs:`dz:=by intro _;rfl) :
  `aj_:=(j90 hc hsc ok `eC hi hg ht he hs).pd
theorem i30(i:Nat){y:Str}{py spos:Pos}{sc scope:`ca}{elt iter:`G}{ifs:`a6}{N':`g}{n:Nat}{caps:`j}{gi:`dY}{idx:`j}{f:`aF}{ge:`bM}
  (hN:`fk) (hc:`bz) (hsc:`ez) (ok:`k1) (hidx:∀j∈idx,j<n) (hi:`fs)
  (hg:`ho) (ht:`qd) (he:`qe)
  (hiN:`u2:=by rfl) (hy:`m3:=by first|exact `b8|exact `gJ)
  (hsw:`On:=by rfl)
  (hs:`dz:=by intro _;rfl)
  (hf:`m4:=by first|exact `b4|exact `bA|assumption) :
  `aj0:=.mk λH₀ B₀ δ pins s σ H D I ⟨r,en,e1,k⟩=>by
 unfold j7 at e1;obtain⟨B,b1,b2,env⟩:=`ba;cases e2:`ahw with
 | none=>rw[e2] at e1;cases e1
 | some d =>
  rw[e2] at e1;cases e1;refine pe0 (i:=i) hN hiN hy hc hsc ok (hi B δ) (g:=`sv) (tt:=`ID) (te:=`ajX)
   `Di
   `ajY
   `ajZ hsw hs hf `h s σ H D I (m40 `eC (tD.toF ⟨d,env,e2,λv H' s' r'=>k _ H' (en.wr b1 b2 s' lo0 ((`O4).set i r'))⟩))
universe zz
theorem v40{N:`g}:∀{ds:`f} {vs:`K},`Da->`a4 `ye (`e6 `a) (ds.map `kG)
 | [],_,h=>by rw[m5] at h;subst h;exact `J
 | `ae,_,h=>by
  rw[o9] at h;obtain⟨x,r,rfl,h1,h2⟩:=h;exact `X `C0 (v40 (N:=N) h2)
theorem uj0{ds:`f}{es:D}(h:`yu[i]?=`ah9):`bt:=by
 unfold R4 at h
 by_cases hi:i<`bf
 ·rw[`B7,`ex] at h
  cases q:ds[i]? with
  | none=>rw[q] at h;cases h
  | some d=>rw[q] at h;cases h
 ·rw[`Nm,`kX] at h
  split at h<;>cases h
section
variable{P:`ak}{w:`R}
theorem okD{st:`bp}{ps:`g}{k:Nat}{f:`N}{G:`gd}(F:`Pa)(S:`CE)
  (body:`aj1)
  (hf:∀ds d,`vg->`bf=`ar/\`aj2) :
  `ah P w K mg `r CX0 `gS fa fd ps (spD K f):=by
 refine `aj3
 ·rw[`cw];exact(`vr).1
 ·refine`aj4
  have en:`aj5:=by
   refine`aj6;unfold L2.start R4;rw[`cw];exact `aj7
  rcases (`vr).2 with e|⟨rfl,δ,e⟩|⟨e,hn⟩
  ·exact⟨_,en,e,λv H' s' r'=>q v H' s' r'⟩
  ·exact⟨_,en,e,fun σ' H' en'=>q `z H' en'.same `sK⟩
  ·exact⟨_,en,e,λp H' hp s' r'=>q _ H' s' ((r'.toO hn).rp (λa z=>`fR) (λz=>hb p z hp))⟩
noncomputable def spN(K:`y)(f:`N):Sp:=λvs H Q _=>∃(B:BS) (ds:`f) (d:D),`p?/\`Da/\`vg/\`ajG
theorem okN{st:`bp}{ps:`g}{k:Nat}{f:`N}{G:`gd}(F:`Pa)(S:`CE)
  (body:`aj1)
  (hf:∀ds d,`vg->`bf=`ar/\`Ib) :
  `ah P w K mg `r CX0 `gS fa fd ps (spN K f):=by
 refine `aj3
 ·rw[`cw];exact(`vr).1
 ·refine`aj4
  have en:`aj5:=by
   refine`aj6;unfold L2.start R4;rw[`cw];exact `aj7
  exact⟨_,en,(`vr).2.1,λp H' hp s' r'=>q p H' hp s' (r'.toO (`vr).2.2)⟩
universe zz
universe DL
namespace L2
open Spec PyProof.Rows
theorem jq0:∀{ys:`g} {us:`Y},`aj8->StrsAre us ys
 | [],_,r=>`aj9
 | `vs,_,r=>by
  rw[`L] at r;cases r with
  | cons r1 r2 =>
   obtain⟨t,e⟩:=r1;subst e;exact `X y t (jq0 r2)
theorem Ze0:MtR X "str.join" (λx xs H Q=>∃(sep:Str) (p:`e) (ys:`g),x=`s sep/\`kh/\SqL X.K H p `yy/\`ahp/\Q `ahq H):=by
 intro pins s σ H x xs v us Q I rx rs h;obtain⟨sep,p,ys,rfl,rfl,hq,hz,q⟩:=h;obtain⟨t,rfl⟩:=rx;obtain⟨u,rfl,ru⟩:=rs.one;cases ru;obtain⟨its,rv,pl,_⟩:=`ev;exact join_list `iS (by simpa using jq0 rv) hz `aj'
theorem part_of{o:`aX}(p:`rU u o):∃l:`au (Int×Tok),u=partValue l/\`ea `bj=o:=by
 cases p with
 | none=>exact⟨`c,rfl,rfl⟩
 | int i t=>exact⟨`a (i,t),rfl,rfl⟩
theorem Xb0:SlR X (λx lo hi H Q=>∃z,x=`jR/\`ob/\Q `aj! H):=by
 intro pins s σ H x v vl vu lo hi sl Q I rx hs pl pu h;obtain⟨z,rfl,hz,q⟩:=h;obtain⟨t,rfl⟩:=rx;obtain⟨l,rfl,rfl⟩:=part_of pl;obtain⟨u,rfl,rfl⟩:=part_of pu;refine⟨`hi,_,F.slot_str_getitem.lookup,L7 _ _ _,wpAny_getItem_str_slice (l:=l) (u:=u) (st:=`c) ?_ rfl (post_val_or_str ⟨B5 (Txt.slice_le z _ _) hz,`aj'⟩)⟩;obtain⟨o,h1,h2,h3⟩:=hs;exact⟨o,h1,h2,h3⟩
universe L2
namespace DL
open Spec PyProof.Rows L2
noncomputable def tyD:D->`ck
 | `z => "NoneType"|`bk => `qf|`bL => `hd|`bg => `hi|`u3 => `d1|`iK => `c9|`k4 => `yN|`k5 => `rk
noncomputable def okT(T:`ck)(f:`cl):Prop:=∀(K:`y) (d:D),W.kitOne K (`bh (tyD d)) `rT=`a (f d)
theorem Y80:okT `hd isInt:=`vt
theorem g30:okT `hi isStr:=`vt
theorem c50:okT `qf isBool:=`vt
theorem ul0:okT `d1 `zz:=`vt
theorem cx0:okT `c9 f60:=`vt
section
theorem dv0{T:`ck}{f:`cl}(hT:okT T f):`d' X (`fx `qg) (λxs H Q=>∃B d x,xs=[x,.ty T]/\`yV/\Q (.bl (f d)) H):=by
 intro pins s σ H xs us Q I rs h;obtain⟨B,d,x,rfl,r,q⟩:=h;obtain⟨u,c,rfl,ru,rc⟩:=rs.two;obtain rfl:c=`h1 T:=rc;have J:∀tk,EP X `h σ Q (`dF (f d)) { s with toks:=tk }:=λtk=>⟨`bk,H,I.tok tk,rfl,q⟩
 have e:=hT X.K d;cases d with
 | non=>rw[V4] at r;subst r;cases (show u=`s1 from ru);exact E1 W.kitx_none `eP `j9 e `du J
 | bl y=>rw[Z8] at r;subst r;cases (show u=`xO y from ru);exact E1 W.kitx_bool `eP `j9 e `du J
 | int i=>rw[m8] at r;subst r;obtain⟨t,rfl⟩:=(show `LJ from ru);exact E1 W.kitx_int `eP `j9 e `du J
 | str y=>rw[Y0] at r;subst r;obtain⟨t,rfl⟩:=(show ∃t,u=`w0 y t from ru);exact E1 W.kitx_str `eP `j9 e `du J
 | tup ds =>
  rw[W0] at r;obtain⟨a,xs,rfl,hq,_⟩:=r;cases `Dj;obtain⟨its,_,p,_⟩:=`d7 `k6;obtain⟨o,h1,h2,_⟩:=p;exact E1 W.kitx_tuple `eP `aj? e `du J
 | lst ds =>
  rw[Y7] at r;obtain⟨a,xs,rfl,hq,_⟩:=r;cases `Dj;obtain⟨its,_,p,_⟩:=`d9 `k6;obtain⟨o,n,h1,h2,_⟩:=p;exact E1 W.kitx_list `eP `aj? e `du J
 | dct ks ds =>
  rw[t90] at r;obtain⟨a,xs,rfl,_,hq,_⟩:=r;cases `Dj;cases ks with
  | inl ks =>
   obtain⟨_,_,vs,_,p⟩:=(show `b3 `aU X.w H `aw a (`ot) from `aka);obtain⟨o,es,ep,h1,h2,_⟩:=p;exact `akb
  | inr ks =>
   obtain⟨_,_,vs,_,o,es,ep,h1,h2,_⟩:=(show `b3 `aU X.w H `aw a (`OC) from `aka);exact `akb
 | fn ks ds =>
  rw[am0] at r;obtain⟨a,xs,rfl,hq,_⟩:=r;cases `Dj;obtain⟨oF,_,_,_,_,_,_,_,_,⟨_,h1⟩,⟨h2,_⟩,_⟩:=hq;exact E1 KfT.kit `eP ⟨oF,(`bQ a _ h1).1,h2⟩ e `du J
theorem wk0{T:`ck}{f:`cl}{Tn:Str}{p p2 pos:Pos}(hT:okT T f)(hb:`d3 Tn=`a `rT)(hm:`cq `qg=`c)(hmT:`cq Tn=`c)(h:`b_)(hg:Gl X `qg := by rfl)(hgT:Gl X Tn:=by rfl)
  (hn:Tn ≠`w7 := by decide) (hd:(Tn==`rB)=`n:=by decide)
  (he:`dn [e,`yz] `A=`lD::`Pb:=by rfl) (he2:`Pb=(`n,`bR (`yz) `A)::`hU:=by rfl)
  (hpl:(`fE pos (`Pb)).any `bj=`n:=by rfl) :
  PD X (`bC (`b5 `qg p) [e,`yz] [] pos) (N7 f g) :=
 .mk λB δ=>(p90 (dv0 hT) hg hm PyProof.Rows.boot_isinstance (G8 `bT (G8 (Zr0 (v:=.ty T) hgT hmT hb rfl hn hd) yo0 he2) he) `t `t he hpl).imp fun σ H Q ⟨d,en,h,k⟩=>by
  unfold N7 at h;cases e1:`al with
  | none=>rw[e1] at h;cases h
  | some x =>
   rw[e1] at h;cases h;exact⟨x,en,e1,λv H1 s1 r1=>⟨B,x,v,rfl,r1,k _ H1 s1 `yi⟩⟩
theorem pj0{C:`M7}[∀i j,`eD (C i j)]{g:`BW}{g':`akc}(hg:`akd):Op2 K (rI C g) (ii λi j=>if C i j then `a `Ie else `c):=by
 intro H B x y dx dy d Q hb rx ry h k;cases dx<;>cases dy<;>simp only[ii] at h<;>try cases h
 rename_i i j;split at h
 ·cases h
  rw[m8] at rx ry;subst rx ry;exact⟨i,j,rfl,rfl,`vu,`ake⟩
 ·cases h
theorem r00{g:`BW}{g':`akc}(hg:`akd):Op2 K (rI0 g) (ii λi j=>`a `Ie):=by
 intro H B x y dx dy d Q hb rx ry h k;cases dx<;>cases dy<;>simp only[ii] at h<;>try cases h
 rename_i i j;rw[m8] at rx ry;subst rx ry;exact⟨i,j,rfl,rfl,`ake⟩
instance decDiv(i j:Int):`eD (c70 i j):=inferInstanceAs (`eD (`BZ))
instance decPow(i j:Int):`eD (cg0 i j):=inferInstanceAs (`eD (`M9))
variable{a:`G}{ga:`bM}
theorem K7(ha:`cF)(hb:`cG):PD X (`lC a .Sub b pos) (o2 ga gb R0):=q90 Xi0 (r00 (g':=`adA) `vv) ha hb
theorem Z7(ha:`cF)(hb:`cG):PD X (`lC a .FloorDiv b pos) (o2 ga gb o8):=q90 Yv0 (pj0 (C:=c70) (g':=`adC) `vv) ha hb
theorem j6(ha:`cF)(hb:`cG):PD X (`lC a .Mod b pos) (o2 ga gb p8):=q90 Xo0 (pj0 (C:=`adD) (g':=`adE) `vv) ha hb
theorem t50(ha:`cF)(hb:`cG):PD X (`lC a .Pow b pos) (o2 ga gb s80):=q90 V90 (pj0 (C:=cg0) (g':=`adF) `vv) ha hb
universe zz
universe DL
namespace L2
open Spec PyProof.Rows
noncomputable def ap0(K:`y):R2:=λx y H Q=>∃l b xs zs,`Cx/\`uK/\SqL K H l xs/\`akf/\`akg/\∀p,`cO->Q `cX (upd H p `Pc)
theorem i60:OpR X `uB (ap0 X.K):=by
 intro pins s σ H x y v u Q I rx ry h;obtain⟨l,b,xs,zs,rfl,rfl,hH,hB,hz,q⟩:=h;cases rx;cases ry;obtain⟨its,r,p1,z1⟩:=`d9 hH;obtain⟨J,r2,p2,z2⟩:=`d9 hB;obtain⟨⟨cls,dd,data,sl⟩,ho,hc,n,hd⟩:=`vw;obtain⟨⟨a1,Y,data2,a0⟩,U,O,n2,M⟩:=`Pd;simp only at hc hd O M;subst hc hd O M;have e:`bP++`Pe=(its++J).toArray:=`bs
 have Z:`akh:=by
  rw[`bd,`bd,← `cw,← `l5];exact hz
 refine X9 `B' ⟨_,U,rfl⟩ noFill_list_add seq_list_add PySem.F.slot_list_add PySem.F.entry_list_add (PySem.F.args_list_add_2 _ _) (list_addW l b `bP `Pe n n2 dd Y sl a0 Z) ⟨ho,U,?_⟩;rw[e];exact⟨`x _,_,I.lnew (t':=`bu) (`B2 r2) (`ae6),rfl,q _ I.fresh⟩
universe L2
namespace DL
open Spec PyProof.Rows L2
section
variable{a:`G}{p:Pos}{ga:`bM}
theorem m70(hb:`so){p:`e}(h:`cO):¬B p:=λz=>hb p z h
theorem rw0{p:`e}{ds:`f}(hb:`so)(h:`cO)(r:`a3):Rp K (upd H p `jL) B `x4 `cX:=by
 rw[Y7];exact⟨p,xs,rfl,`m ⟨m70 hb h,`m n6⟩,`aki⟩
theorem on0{p:`e}{ds:`f}(hb:`so)(h:`cO)(r:`a3):Rp K (upd H p `nL) B `sd `cX:=by
 rw[W0];exact⟨p,xs,rfl,⟨m70 hb h,n6⟩,`aki⟩
theorem u00:Op2 K (rI0 `M!) ltD:=r00 (g':=`M!) `Dk
theorem Vg0:Op2 K (rI0 `M?) leD:=r00 (g':=`M?) `Dk
theorem vx0:Op2 K (rI0 `Na) gtD:=r00 (g':=`Na) `Dk
theorem db0:Op2 K (rI0 `Nb) geD:=r00 (g':=`Nb) `Dk
theorem dg0{x y:V}{dx dy:D}{b:`M}(rx:`OU)(ry:`aig)(h:`Pf=`gI):`M'/\`xm=b:=by
 cases dx<;>cases dy<;>simp only[eqS] at h<;>try cases h
 all_goals
  simp only[V4,Z8,m8,Y0] at rx ry;subst rx ry;refine`akj;simp
theorem Y9:Op2 K rEq eqD:=by
 intro H B x y dx dy d Q hb rx ry h k;unfold eqD at h;cases e:`Pf with
 | none=>rw[e] at h;cases h
 | some b =>
  rw[e] at h;cases h;obtain⟨h1,h2⟩:=`akk;exact`akl
theorem fj0:Op2 K rNe neD:=by
 intro H B x y dx dy d Q hb rx ry h k;unfold neD at h;cases e:`Pf with
 | none=>rw[e] at h;cases h
 | some b =>
  rw[e] at h;cases h;obtain⟨h1,h2⟩:=`akk;exact`akl
theorem Wf0:Op2 K `adI inD:=by
 intro H B x y dx dy d Q hb rx ry h k;cases dx<;>cases dy<;>simp only[inD] at h<;>try cases h
 rw[Y0] at rx ry;subst rx ry;exact⟨_,_,rfl,rfl,k _ H `b9 (by rw[Z8];rfl)⟩
theorem vj0:Op2 K `adJ v70:=by
 intro H B x y dx dy d Q hb rx ry h k;have hy:dy=`z:=by cases dy<;>first|rfl|cases h
 subst hy;cases h;rw[V4] at ry;refine⟨ry,`Dl⟩;rw[Z8];cases dx<;>simp only[V4,Z8,m8,Y0,W0,Y7,t90,am0] at rx
 all_goals first
  | (subst rx;rfl)
  | (obtain⟨a,xs,rfl,_⟩:=rx;rfl)
theorem dj0(xs:`a5)(i:Int):`Pg=DL.atI xs i:=rfl
theorem ut0(n d:Nat)(o:`aX):`fK n d o=sIx n d o:=by cases o<;>rfl
theorem if0{ds:`f}{i:Int}{d:D}(r:`a3)(h:DL.atI ds i=`a2):∃v,`Pg=`cb/\`bN:=by
 rw[dj0];unfold DL.atI at h ⊢;rw[`cw];cases e:DL.ixN `bf i with
 | none=>rw[e] at h;cases h
 | some j =>
  rw[e] at h;exact `uJ h
theorem Ww0:Op2 K (rIx K) ixD:=by
 intro H B x y dx dy d Q hb rx ry h k;cases dx<;>cases dy<;>simp only[ixD] at h<;>try cases h
 ·split at h
  ·rename_i hz
   rw[Y0] at rx;rw[m8] at ry;subst rx ry;obtain⟨c,hc,rfl⟩:=Y2.mp h;exact `l (`l ⟨_,_,c,rfl,rfl,hz,hc,`OV⟩)
  ·cases h
 ·rw[W0] at rx
  rw[m8] at ry;subst ry;obtain⟨a,xs,rfl,q,r⟩:=rx;obtain⟨v,hv,rv⟩:=if0 r h;exact `l (`akm)
 ·rw[Y7] at rx
  rw[m8] at ry;subst ry;obtain⟨a,xs,rfl,q,r⟩:=rx;obtain⟨v,hv,rv⟩:=if0 r h;exact `akm
theorem d9(ha:`cF)(hb:`cG)(hs:rz0 b:=by exact `i0):PD X `pW (o2 ga gb ixD):=Vu0 Vf0 Ww0 ha hb hs
structure PDO(X:Cx)(e:`nD)(g:`CQ):Prop where
 mk::go:`akn
instance{X:Cx}{e:`nD}{g:`CQ}:`dk (PDO X e g) (λ_=>`akn):=⟨PDO.go⟩
theorem vp0:PDO X `c xa0:=.mk λB δ pins s σ H Q I ⟨o,en,h,k⟩=>by
 cases h;exact Zp0 `h s σ H Q I (k H `b9)
theorem xx0(h:`b_):PDO X `GZ (`fV g):=.mk λB δ pins s σ H Q I ⟨o,en,hq,k⟩=>by
 unfold someO at hq;cases e1:`al with
 | none=>rw[e1] at hq;cases hq
 | some d =>
  rw[e1] at hq;cases d<;>simp[asI] at hq
  subst hq;exact Y20 `bT `h s σ H Q I ⟨_,en,e1,λv H' s' r=>⟨_,`ako,k H' s'⟩⟩
theorem h80{ds:`f}(r:`a3)(lo hi:`aX):Rps K H B (`oA ds lo hi) (`xx):=by
 unfold cutD se0;rw[`cw,ut0,ut0];exact(r.drop _).take _
theorem zb0{d:D}(h:Rps K H B [d] xs):∃v,xs=[v]/\`bN:=by
 rw[o9] at h;obtain⟨x,r,rfl,h1,h2⟩:=h;rw[m5] at h2;subst h2;exact`C0
theorem Vn0:FnR K (λxs H Q=>(`afA)∨∃p ys,`kh/\(`Ph∨`Pi)/\`afy) W8:=by
 intro H B xs ds d Q hb r h k;unfold W8 at h;split at h
 ·split at h
  ·cases h
   obtain⟨v,rfl,r1⟩:=`gj;rw[Y0] at r1;subst r1;exact `m ⟨_,rfl,`vu,`yh⟩
  ·cases h
 ·cases h
  obtain⟨v,rfl,r1⟩:=`gj;rw[Y7] at r1;obtain⟨a,ys,rfl,q,rr⟩:=r1;exact `l ⟨a,ys,rfl,`Pj,`akp⟩
 ·cases h
  obtain⟨v,rfl,r1⟩:=`gj;rw[W0] at r1;obtain⟨a,ys,rfl,q,rr⟩:=r1;exact `l ⟨a,ys,rfl,`Pk,`akp⟩
 ·cases h
theorem zs0(hm:`akq)(ha:`Dm)(hg:`akr := by rfl)(he:`eE:=by rfl)(hpl:`i3:=by rfl) :
  PD X `aks (oA gA W8):=xt0 (ki0.or so0) Vn0 hm L8 ha hg `t `t he hpl
theorem j70:∀{ds:`f} {xs:`K} {bs:`g},`a3->pa0 ds=`a bs->xs=bs.map `sA
 | [],_,_,r,h=>by
  cases h;rw[m5] at r;exact r
 | `ae,_,bs,r,h=>by
  rw[o9] at r;obtain⟨x,t,rfl,r1,r2⟩:=r;cases d<;>simp only[pa0] at h<;>try cases h
  obtain⟨t',e,rfl⟩:=Y2.mp h;rw[Y0] at r1;rw[r1,j70 r2 e];rfl
theorem Yh0{apos cpos:Pos}(ho:PD X o g)(ha:`Dm)(hbase:`gF o "join" `A `nY=`lx:=by rfl)
  (hfew:(`qh
  &&`Pl)=`b:=by rfl)
  (hline:`gb:=by rfl) (hs:`eE:=by rfl) (hplain:`qi:=by rfl) :
  PD X (`bC (`gG o "join" `fL) [e] [] `cy) (qb0 g gA):=.mk λB δ =>
 (q60 F.plainAttrs_str F.slot_str_join F.type_str_join Ze0 (ho B δ) `bn `hj `k_ `hk hs `m_).imp fun σ H Q ⟨d,en,h,k⟩=>by
  unfold qb0 at h;cases e1:`al with
  | none=>rw[e1] at h;cases h
  | some x =>
   cases e2:`cM with
   | none=>rw[e1,e2] at h;cases h
   | some ds =>
    rw[e1,e2] at h;simp only[`k] at h;unfold ld0 at h;split at h
    ·cases e3:pa0 _ with
     | none=>rw[e3] at h;cases h
     | some ys =>
      rw[e3] at h;simp only[`k] at h;split at h
      ·cases h
       refine`akt;rw[Y0] at r1;subst r1;refine⟨rfl,_,`ee,e2,`Pm⟩;obtain⟨w,rfl,r3⟩:=zb0 r2;rw[Y7] at r3;obtain⟨a,zs,rfl,q,rr⟩:=r3;have:=j70 rr e3;subst this;exact⟨_,a,ys,rfl,rfl,`dd,`vu,k _ H2 `ke (`yj)⟩
      ·cases h
    ·cases h
theorem wf0:FnR K (λxs H Q=>∃p ys,`kh/\((`Ph/\`afF)∨(`Pi/\Q `cX H))) U9:=by
 intro H B xs ds d Q hb r h k;unfold U9 at h;split at h
 ·cases h
  obtain⟨v,rfl,r1⟩:=`gj;rw[Y7] at r1;obtain⟨a,ys,rfl,q,rr⟩:=r1;exact⟨a,ys,rfl,`m ⟨`dd,λl hl=>k _ _ (Y8 hl) (on0 hb hl rr)⟩⟩
 ·cases h
  obtain⟨v,rfl,r1⟩:=`gj;have J:=r1;rw[W0] at r1;obtain⟨a,ys,rfl,q,rr⟩:=r1;exact⟨a,ys,rfl,`l ⟨`dd,k _ H `b9 J⟩⟩
 ·cases h
universe zz
section
variable{a:`G}{p:Pos}{ga:`bM}
theorem t10(h:`cF):PD X (`GX .USub a pos) (unG zi0 ga):=.mk λB δ=>(T30 W90 `bT).imp fun σ H Q ⟨d,en,h,k⟩=>by
 unfold unG at h;cases e1:`cV with
 | none=>rw[e1] at h;cases h
 | some x =>
  rw[e1] at h;cases x<;>simp[zi0] at h
  subst h;exact⟨_,en,e1,λv H' s r=>⟨_,`ako,k _ H' s `sq⟩⟩
noncomputable def FnD(P:`ak)(w:`R)(K:`y)(mg:`bq)(base:`Q)(x:Str)(k:Nat)(ps:`g)(f:`N):Prop :=
 ∃(fa:`e) (fd:`ff),`ah P w K mg `r CX0 k fa fd ps (spD K f)/\`Pn
theorem wj0{k:Nat}{ps:`g}{f:`N}(C:FnD `aU X.w X.K `cq `d4 x k ps f)(hr:`Dn)(hk:k<=m)(ha:`qb)(hg:`cE:=by rfl)(hdb:`aY:=by decide)
  (he:`dW:=by rfl) (hpl:`hf:=by rfl):`vl:=by
 obtain⟨fa,fd,F,hm,kp,hb⟩:=C;exact Y60 F `Po hm kp hb ha hg hdb he hpl
theorem rl0{sc scope:`ca}{elt iter tg:`G}{ifs:`a6}{N N':`g}{n:Nat}{caps:`j}{gi:`dY}{idx:`j}{f:`aF}{gt:`eA}{ge:`bM}
  (ok:`vx) (hidx:∀j∈idx,j<n) (hi:`fs)
  (hg:`ho) (ht:`qd) (he:`qe)
  (hc:`bz:=by rfl) (hsc:`ez:=by rfl) (hN:`vy:=by rfl) (hs:`dz:=by intro _;rfl) :
  `aj_:=Z30 hc hsc `vz `eC hi hg ht he hs
theorem qs0(i:Nat){y:Str}{py spos:Pos}{sc scope:`ca}{elt iter tg:`G}{ifs:`a6}{N N':`g}{n:Nat}{caps:`j}{gi:`dY}{idx:`j}{f:`aF}{gt:`eA}{ge:`bM}
  (hnd:`Mm) (ok:`vx) (hidx:∀j∈idx,j<n) (hi:`fs)
  (hg:`ho) (ht:`qd) (he:`qe)
  (hc:`bz:=by rfl) (hsc:`ez:=by rfl) (hN:`vy:=by rfl)
  (hiN:`u2:=by rfl) (hy:`m3:=by first|exact `b8|exact `gJ)
  (hsw:`On:=by rfl)
  (hs:`dz:=by intro _;rfl)
  (hf:`m4:=by first|exact `b4|exact `bA|assumption) :
  `aj0:=i30 i (hN▸hnd) hc hsc `vz `eC hi hg ht he hiN hy hsw hs hf
universe zz
universe DL
namespace DL
open Spec PyProof.Rows
@[simp] noncomputable def fz:D->Sl
 | `B [`iK,`iK]=>.un
 | `B (`bg::_)=>.un
 | `B [`bL,`u3]=>.un
 | d=>.sh (unl d)
@[simp] noncomputable def wx0:Sl->Sl
 | `sB=>fz d
 | s=>s
@[simp] noncomputable def frz(δ:Ds):Ds:=δ.map wx0
@[simp] noncomputable def flat:`cl
 | `z=>`b|`bk=>`b|`bL=>`b|`bg=>`b|_=>`n
@[simp] noncomputable def xd0(g:GE):GE:=fun δ=>`Pp λd=>if `nb then `a2 else `c
@[simp] noncomputable def tg0(g:GB):GB:=`aku
@[simp] noncomputable def pb0(g:GE):GE:=`aku
@[simp] noncomputable def frzAt(i:Nat)(δ:Ds):Ds:=match `bw with
 | `g_=>`a1 i `Pq
 | `c=>δ
@[simp] noncomputable def bi0(i:Nat)(G:GS):GS:=fun δ=>G (frzAt i δ)
@[simp] noncomputable def Q9(i:Nat)(g:GE):GS:=fun δ=>`p3 λd=>.nx `l2
abbrev GX:=Ds->`au (D×Ds)
@[simp] noncomputable def j5(g:GE):GX:=fun δ=>`p3 λd=>(d,δ)
variable{gx:DL.GX}
@[simp] noncomputable def V7(gx:GX)(ft:`aF):GS:=fun δ=>`Do λr=>(ft r.1 r.2).map .nx
@[simp] noncomputable def d7(gx:GX):GS:=fun δ=>`vA λr=>.nx r.2
@[simp] noncomputable def owL(i:Nat)(δ:Ds):`ok:=match `bw with
 | `akv=>`oq
 | _=>`c
@[simp] noncomputable def K5(i:Nat)(g:GE):GX:=fun δ=>`Pr λds=>`cT λd=>if `bf<`P then `a (`z,`akw) else `c
@[simp] noncomputable def yd0(i:Nat)(g:GE):GX:=fun δ=>`Pr λds=>`cT λd=>match d with
 | `s_=>if `bf+`fT<=`P then `a (`z,`akx) else `c
 | _=>`c
@[simp] noncomputable def u70(i:Nat):GX:=fun δ=>`Pr λds=>(`aky).map λd=>(d,`akz)
abbrev T7:=`HE
@[simp] noncomputable def M6:D->`au T7
 | `aR=>`a (`m i)
 | `cc=>`a (`kL)
 | _=>`c
noncomputable def wl0:`f->`akA
 | []=>`sc
 | `ae=>`Dp λk=>(`Dq).map (k::·)
@[simp] noncomputable def u50:D->`akA
 | `bF=>`Dq
 | _=>`c
noncomputable def zk0{κ:Type}[`hp]:`hq->`f->κ->`cL
 | `eF,`ae,q=>if k=q then `a2 else `zh
 | _,_,_=>`c
noncomputable def K3{κ:Type}[`hp](ks:`hq)(k:κ):`M:=ks.any λq=>`D (q=k)
noncomputable def J8{κ:Type}[`hp](ks:`hq)(k:κ):`hq:=if `sC=`b then ks else ks++[k]
noncomputable def J9{κ:Type}[`hp](ks:`hq)(ds:`f)(q:κ)(v:D):`f:=if `kd=`b then `XJ (`XI) else ds++[v]
@[simp] noncomputable def oj0(i:Nat)(δ:Ds):`au (`akB):=match `bw with
 | `a (.ow `zg)=>`a (ks,ds)
 | _=>`c
@[simp] noncomputable def putAt(i:Nat)(g:GE):`aF:=λv δ=>`akC λr=>`cT λd=>`Dp λk =>
 if r.1.length<`P then `a (`a1 i (.ow (`bv (`m (J8 r.1 k)) (J9 r.1 r.2 k v)))) else `c
@[simp] noncomputable def uf0:`aZ
 | `iZ,d=>match ks with
  | `sj=>`Dp `akD
  | `u?=>(u50 d).bind `akD
 | _,_=>`c
@[simp] noncomputable def yn0(neg:`M):`aZ
 | d,`iZ=>match ks with
  | `sj=>(M6 d).map `akE
  | `u?=>(u50 d).map `akE
 | _,_=>`c
noncomputable def V8(gt:GB)(G:GS):Nat->`gd
 | 0,_=>`c
 | n+1,δ=>match `dt with
  | `aJ=>`lS
  | `cW=>match `h4 with
   | `cA=>`Ps
   | `u6=>`Ps
   | `u7=>`cA
   | r=>r
  | `c=>`c
@[simp] noncomputable def qz0(i j:Nat):`aF
 | `Pt,δ=>`a ((`a1 i (.sh a)).set j (.sh b))
 | _,_=>`c
mutual
noncomputable def deq:D->`cl
 | `z,`z=>`b
 | `pX,`ct=>`g7
 | `pX,`iv=>`NN
 | `mZ,`ct=>`NO
 | `mZ,`iv=>`g7
 | `Co,`uN=>`g7
 | `c',`xF=>`Dr
 | `cu,`r0=>`Dr
 | _,_=>`n
noncomputable def ye0:`f->`vB
 | [],[]=>`b
 | `mW,`vs=>`mC&&`Dr
 | _,_=>`n
end
mutual
noncomputable def lean:D->Nat->`M
 | `k4,_=>`n
 | `k5,_=>`n
 | `c',n+1=>`Pu
 | `cu,n+1=>`Pu
 | `u3,0=>`n
 | `iK,0=>`n
 | _,_=>`b
noncomputable def leans:`f->Nat->`M
 | [],_=>`b
 | `mW,n=>`dv x n&&`Pu
end
@[simp] noncomputable def u10(x y:D):`cL:=if `AI then `a (.bl (`mC)) else `c
@[simp] noncomputable def xh0(x y:D):`cL:=if `AI then `a (.bl (!`mC)) else `c
@[simp] noncomputable def eqF:D->`cl
 | `z,`z=>`b
 | `pX,`ct=>`g7
 | `pX,`iv=>`NN
 | `mZ,`ct=>`NO
 | `mZ,`iv=>`g7
 | `Co,`uN=>`g7
 | _,_=>`n
@[simp] noncomputable def zd0(neg:`M):`aZ
 | x,`r0=>`akF
 | x,`xF=>`akF
 | _,_=>`c
@[simp] noncomputable def intOfD:`N
 | [`aR]=>`zH
 | [`n4]=>`a (`G!)
 | _=>`c
@[simp] noncomputable def zc0:`N
 | `CR=>`p6
 | [`bF]=>`p6
 | _=>`c
noncomputable def mkF(n:Nat)(N:`g)(G:GS)(ds:`f):`cL:=if `qj then (match `sz with
 | `lW=>`a2
 | `lX=>`akG
 | `a (.nx _)=>`a `z
 | _=>`c) else `c
theorem xm0{ds:`f}{d:D}(h:`akH):`qj/\`aj2:=by
 unfold mkF at h;split at h
 ·rename_i hl
  refine`akI;split at h
  ·rename_i e;cases h;exact `m8
  ·rename_i e
   split at h
   ·cases h
   ·rename_i hn
    cases h;exact `l (`l `akJ)
  ·rename_i e;cases h;exact `l (`m ⟨rfl,_,e⟩)
  ·cases h
 ·cases h
noncomputable def mkN(n:Nat)(N:`g)(G:GS)(ds:`f):`cL:=if `qj then (match `sz with
 | `lX=>`akG
 | _=>`c) else `c
theorem xo0{ds:`f}{d:D}(h:`akK):`qj/\`Ib:=by
 unfold mkN at h;split at h
 ·rename_i hl
  refine`akI;split at h
  ·rename_i e
   split at h
   ·cases h
   ·rename_i hn
    cases h;exact`akJ
  ·cases h
 ·cases h
theorem S5{ds:`f}{d:D}(hl:`qj)(h:`W7)(hn:`yw:=by rfl):`akK:=by
 unfold mkN;rw[`k3,h];simp only[];rw[hn];rfl
@[simp] noncomputable def T4(g:GE):GS:=fun δ=>`p3 .rf
@[simp] noncomputable def tl0(i:Nat):GS:=fun δ=>match `bw with
 | `hX=>`lX
 | _=>`c
theorem W3{G1 G2:GS}{δ:Ds}{d:D}(h:`hM=`lX):`CT=`lX:=`OB
theorem J0{g:GE}{δ:Ds}{d:D}(h:`fq):T4 g δ=`lX:=by unfold T4;rw[h];rfl
theorem O1{ds:`f}{d:D}(hl:`qj)(h:`W8):`akH:=by
 unfold mkF;rw[`k3,h]
theorem t6{G1 G2:GS}{δ:Ds}{r:`ol}(h:`OA)(k:`u5=r):`CT=r:=(Xp0 h).trans k
@[simp] noncomputable def m7:`aZ
 | `aR,`e'=>`a (`VS)
 | `cc,`CP=>if `n5+y.length<=`P then `a (`s (x++y)) else `c
 | `cu,`r0=>`akL
 | `c',`xF=>if `In then `a (`NC) else `c
 | _,_=>`c
@[simp] noncomputable def W2:`aZ
 | `aR,`e'=>`akM
 | _,_=>`c
@[simp] noncomputable def slA(d:D)(lo hi:`aX):`cL:=match d with
 | `jR=>if `ob then `a `aj! else `c
 | `cu=>`a (`q (`Pv))
 | `c'=>`a (`B (`Pv))
 | _=>`c
@[simp] noncomputable def y00(g:GE)(gl gh:GO):GE:=fun δ=>`cT λd=>(gl δ).bind λl=>(gh δ).bind λh=>slA d l h
universe DL
variable{gx:DL.GX}
namespace Dep
open Spec PyProof.Rows
section
variable{w:`R}{K:Type}[`yD K]{knd:`akN}{s:`p}{d:`e}{xs:`akO}{k:K}{v:`E}{Q:`up}
noncomputable def At(knd:`akN)(h:`Q)(d:`e)(xs:`akO):Prop :=
 ∃o es ep,`lk d=`ab/\`LR/\`LS/\es.toList=`rp (`Bj knd)/\(∀x∈xs,knd.is h x.1 x.2.1)/\`abe
theorem At.old{h:`Q}(x:At knd h d xs):h.DictOfH knd d xs:=by obtain⟨o,es,ep,a,b,c,e,f,g,_⟩:=x;exact⟨o,es,ep,a,b,c,e,f,g⟩
theorem put(hu:knd.room A)(hkey:`akP)(hm:`akQ)
  (hQ:`akR) (hsz:`fh) :
  `o `aG A (`akS) Q E s:=by
 obtain⟨o,es,ep,ho,hc,hd,he,J,hn,hp⟩:=hm;unfold dictSet
 try with_reducible refine `l'
 refine A0 (knd.pyHash hu hkey ?_);unfold dictSetHashed
 try with_reducible refine `l'
 refine A0 (wpAny_dictFind_heap (s:=`Pw) hu hkey ho hd he J hn ?_ ?_)
 ·intro O
  have M:=atKey_none_of_get O;have U:k∉`rp `bj:=not_mem_keys_of_get O;refine A0 (M0 (wpAny_updateDictKeys (hz:=by have e:=size_of_entries he;omega) (s:=`Pw) ho hd (hQ _ ?_ `vC)));rw[storedH_new M];refine⟨_,_,ep+1,K0 _ ho (`akT (`akU)),hc.mapDictKeys _,`akU,by simp[he,`Bj],`iW,?_,`Oy⟩
  ·rcases `k7 with hx|hx
   ·exact `Px (J x hx) ho hd `vC
   ·rw[`Py];exact `Px hkey ho hd `vC
  ·rw[`b0,`Pz]
   exact⟨hn,`bs,λx hx y hy e=>U (by rw[`L,`e2,List.mem_singleton] at hy;have e2:x=k:=e.trans hy;rw[← e2];exact hx)⟩
 ·intro j p hj
  have Y:=atKey_of_get hn hj;refine A0 (M0 (A0 (wpAny_updateDict (s:=`Pw) ho hd (wpAny_point (hQ _ ?_ `vC)))));rw[storedH_old Y];refine⟨_,_,ep,K0 _ ho (`akT (`akV)),hc.mapDict _,`akV,?_,`iW,?_,`Oy⟩
  ·have:=modify_map_putAt (`Bj knd) (λe:DictEntry=>{ e with val:=v }) k v (`i0) hn hj
   rw[← he] at this;obtain⟨l⟩:=es
   simpa using `C
  ·obtain⟨y,hy,rfl⟩:=`vD
   unfold putAt;split<;>exact `Px (J y hy) ho hd `vC
  ·rw[keys_map_putAt];exact hn
theorem set(hu:knd.room `b!)(hkey:`akP)(hm:`akQ)
  (hQ:`akR) (hsz:`fh) :
  `o `aG A (`xh (`x d) `d6 v) Q E s:=by
 have ty:=hm.old.typeIs;unfold setItem
 try with_reducible refine `l'
 refine A0 (u4 ty `t ?_);refine A0 (P4 (name:=`rW `akW) ty `akX (E4 `akX ty entry_dict_setitem ?_ (args_dict_setitem _ _ _)));show `o _ _ (Builtin.Dict.notOrdered `akW ⟨[`x d,`dp,v],[]⟩>>=_) _ _ s;refine A0 (wpAny_notOrdered_dict ty ?_);show `o _ _ (`akS>>=_) _ _ s;exact A0 (put hu hkey hm (λh' M J=>A1 ⟨`Z,rfl,A1 (hQ h' M J)⟩) hsz)
universe zz
universe Dep
namespace L2
open Spec PyProof.Rows
section
variable[`hp]
noncomputable def K4(kvs:`et)(k:κ):`cr:=(kvs.find? `Ip).map `cv
noncomputable def putK(kvs:`et)(k:κ)(v:V):`et :=
 if `Ds=`b then `yJ (λkv=>if `yG then (`l1,v) else kv) else kvs++[(k,v)]
theorem u30{p:`w1}{r:`et}{k:κ}(e:`nc):`akY=`nO:=`akZ
theorem vv0{p:`w1}{r:`et}{k:κ}(e:¬`nc):`akY=K4 r k:=`akZ
theorem k70(k:κ):∀kvs:`et,`Ds=(`hV).isSome
 | []=>rfl
 | p::r=>by
  rw[`ga]
  by_cases e:`nc
  ·simp only[u30 e,`bm e,`ak_,Option.isSome_some]
  ·rw[`vE,`Bd,`PA];exact k70 k r
theorem v20(kvs:`et)(k:κ)(v:V):`Xh<=`gq+1:=by
 unfold putK;split
 ·rw[`U];omega
 ·rw[`W,`aH,`dP];omega
theorem RelO.isSome_eq{o:`cr}{u:`lh}(r:RelO o u):`pr=u.isSome:=by
 cases o with
 | none=>cases u with
  | none=>rfl
  | some _=>exact`Nc
 | some _=>cases u with
  | none=>exact`Nc
  | some _=>rfl
theorem KV.val{kvs:`et}{vs:`pF}(r:`hz)(k:κ):RelO `Dt (`ak0):=by
 unfold KV at r
 induction r with
 | nil=>exact `j9
 | @cons p q ps qs h t ih =>
  obtain⟨h1,h2⟩:=h
  by_cases e:`nc
  ·have e':q.1=k:=`Ir
   have b:`ak1=`a q.2:=`ak2
   rw[u30 e,b];exact h2
  ·have e':¬q.1=k:=`Is
   have b:`ak1=`yI qs k:=`ak2
   rw[`vE,b];exact ih
theorem KV.any{kvs:`et}{vs:`pF}(r:`hz)(k:κ):`Ds=`ak3:=by
 unfold KV at r
 induction r with
 | nil=>rfl
 | cons h t ih=>rw[`ga,`ga,ih,h.1]
theorem KV.repl{kvs:`et}{vs:`pF}(r:`hz)(k:κ){y:V}(ry:`dV) :
  KV `ak4 (`e6 λkv=>if `yG then (`l1,u) else kv):=by
 unfold KV at r ⊢
 induction r with
 | nil=>exact `J
 | @cons p q ps qs h t ih =>
  rw[`L,`L];refine `ak5;obtain⟨h1,h2⟩:=h
  by_cases e:`nc
  ·rw[`dC,`ak6];exact⟨h1,ry⟩
  ·rw[`dl,`ak7];exact`PB
theorem KV.put{kvs:`et}{vs:`pF}(r:`hz)(k:κ){y:V}(ry:`dV):KV (`j8 kvs k y) (stored vs k u):=by
 unfold putK stored;rw[r.any k]
 by_cases e:(`ak3)=`b
 ·rw[`dC,`dC];exact `ak8
 ·rw[`dl,`dl];exact `ak9 r ⟨rfl,ry⟩
theorem KV.length{kvs:`et}{vs:`pF}(r:`hz):`gq=`cx:=`LK r
universe zz
theorem ty0{P:`ak}{w:`R}{k:Key}(r:`ak'):(Q4 P w).is k u=`b:=by
 cases k with
 | inl i=>obtain⟨t,e⟩:=(show `LJ from r);subst e;exact jr0 P w i t
 | inr x=>obtain⟨t,e⟩:=(show `aa4 from r);subst e;exact jw0 P w x t
theorem nz0{P:`ak}{w:`R}:∀{ks:`eI} {us:`Y},`br (`yL) us->ItemsAre `nI ks us
 | [],_,r=>`aj9
 | `eF,_,r=>by
  rw[`L] at r;cases r with
  | cons h t=>exact `X (ty0 h) (nz0 t)
abbrev KT(H:Hp):`g8->`mQ->Prop:=`a4 λp q=>`abd
theorem KT.val{kvs:`g8}{xs:`mQ}(r:`qk)(k:`eI):RelO `Dt (`ak!):=by
 induction r with
 | nil=>exact `j9
 | @cons p q ps qs h t ih =>
  obtain⟨h1,_,h2⟩:=h
  by_cases e:`nc
  ·have e':q.1=k:=`Ir
   have b:`ak?=`a q.2:=`ala
   rw[u30 e,b];exact h2
  ·have e':¬q.1=k:=`Is
   have b:`ak?=`yK qs k:=`ala
   rw[`vE,b];exact ih
theorem KT.repl{kvs:`g8}{xs:`mQ}(r:`qk)(k:`eI){y:V}(ry:`dV) :
  KT H `ak4 (`rp (`s' k u)):=by
 induction r with
 | nil=>exact `J
 | @cons p q ps qs h t ih =>
  rw[`L,`L];refine `ak5;obtain⟨h1,h2,h3⟩:=h;unfold putAt
  by_cases e:`nc
  ·rw[`dC,`ak6];exact⟨h1,h2,ry⟩
  ·rw[`dl,`ak7];exact⟨h1,h2,h3⟩
theorem KT.put{kvs:`g8}{xs:`mQ}(r:`qk)(k:`eI){b:`e}{y:V}(hb:`vF)(ry:`dV) :
  KT H (`j8 kvs k y) (storedH xs k b u):=by
 have e:`Ds=`alb:=by
  rw[k70,(r.val k).isSome_eq,`PC]
 unfold putK storedH;rw[e]
 by_cases q:`alb=`b
 ·rw[`H q,`H q];exact `ak8
 ·rw[`ad q,`ad q];exact `ak9 r ⟨rfl,hb,ry⟩
theorem KT.keeps{kvs:`g8}{xs:`mQ}(r:`qk)(ht:∀b ys,H b=`I7->`eK=`I7):KT H' kvs xs :=
 `LX r λ_ _ z=>`abl
section
variable{P:`ak}{w:`R}{h:`Q}
theorem ai0{u:HO}(ok:`dU)(e:Rd H a u):`abq:=e.ok ok
theorem qd0(ok:`dU)(e:`PD):`LQ :=
 show `b3 P w H h a `xH from ai0 ok e
theorem lg0(ok:`dU)(e:`vG):`LQ:=qd0 ok (`m8)
theorem ra0(ok:`dU)(e:H a=`a `alc):`ald h ks a:=by
 obtain⟨_,its,r,o,h1,h2,n,h3,_⟩:=(show `b3 P w H h a `alc from ok a _ e);exact⟨o,`bP,n,h1,h2,h3,by simpa using nz0 r⟩
theorem d40{kvs:`g8}(ok:`dU)(e:`Du):`nG/\`nH /\
  ∃xs,`qk/\Dep.At `LT h a xs:=by
 obtain⟨z,y,xs,r,o,es,ep,h1,h2,h3,h4,h5,h6⟩:=(show `b3 P w H h a `Hp from ai0 ok e);refine⟨z,y,xs,r,o,es,ep,h1,h2,h3,h4,`iW,h5,h6⟩;have all:∀{l:`g8} {m:`mQ},KT H l m->∀x∈m,`ald h x.1 x.2.1:=by
  intro l m q
  induction q with
  | nil=>intro x hx;exact nomatch hx
  | @cons p q ps qs hq t ih =>
   intro x hx;rcases `uY with e|hx
   ·subst e
    exact ra0 ok (by rw[← hq.1];exact hq.2.1)
   ·exact ih x hx
 exact all r x hx
theorem o00{kvs:`g8}(ok:`dU)(e:`Du):`nG/\`nH /\
  ∃xs,`qk/\h.DictOfH `LT a xs:=by
 obtain⟨z,y,xs,r,d⟩:=d40 ok e;exact⟨z,y,xs,r,d.old⟩
universe zz
noncomputable def DGet(H:Hp)(a:`e)(y:V)(r:`cr):Prop :=
 (∃kvs k,`PD/\y=kV k/\r=`hV)∨∃kvs k b,`Du/\`uK/\`vF/\r=`hV
noncomputable def DPut(H:Hp)(a:`e)(y v:V)(H':Hp):Prop :=
 (∃kvs k,`vG/\y=kV k/\`vH/\H'=`PE) ∨
 ∃kvs k b,`ale/\`uK/\`vF/\`vH/\H'=upd H a (.dT (`Iq))
theorem DGet.k{k:Key}(e:`vG):`oB H a (kV k) `Dt:=`m ⟨kvs,k,`m8,rfl,rfl⟩
theorem DGet.t{b:`e}{kvs:`g8}{k:`eI}(e:`ale)(eb:`vF):`oB H a `yS `Dt:=`l ⟨kvs,k,b,`m8,rfl,eb,rfl⟩
theorem DPut.k{k:Key}(e:`vG)(hl:`vH):DPut H a (kV k) v (`PE):=`m ⟨kvs,k,e,rfl,hl,rfl⟩
section
variable{σ:St}{s:`p}{y:V}{r:`E}{o:`cr}
theorem Inv.big(I:`w):`w2<`_:=by
 have h:`aa<`_:=(`Vt).lt;exact E3 `t h
theorem ei0(hu:`uU)(I:`w)(g:`oB H a y `nN)(ry:`dV)(h:∀w' s',`Dv->`cI v w'->Q w' s') :
  `o `ac A (`lF `d6 u) Q E s:=by
 rcases g with⟨kvs,k,e,ey,l⟩|⟨kvs,k,b,e,ey,eb,l⟩
 ·subst ey
  obtain⟨z,hd,vs,rel,dd⟩:=`vI;obtain⟨w',hw,J⟩:=`alf (v:=v) (o:=`ak0) `alg;exact wpAny_getItem_of `vJ `PF hw (`alh)
 ·subst ey
  cases `Dw;obtain⟨z,hd,xs,rel,dd⟩:=`vK;obtain⟨w',hw,J⟩:=`alf (v:=v) (o:=`ak!) `alg;obtain⟨p,hp,M⟩:=Y2.mp hw;refine wpAny_getItem_heap `Dx `Dy dd hp ?_;rw[M];exact `alh
theorem Tz0(hu:`uU)(I:`w)(g:`PG)(ry:`dV)(h:∀s',`Dv->Q (`dF `pr) s') :
  `o `ac A (`cK .In u `d6) Q E s:=by
 rcases g with⟨kvs,k,e,ey,l⟩|⟨kvs,k,b,e,ey,eb,l⟩
 ·subst ey
  obtain⟨z,hd,vs,rel,dd⟩:=`vI;refine wpAny_in_of `vJ hd `PF ?_;rw[← `Dz,← l];exact `DA
 ·subst ey
  cases `Dw;obtain⟨z,hd,xs,rel,dd⟩:=`vK;refine wpAny_in_heap `Dx `Dy hd dd ?_;have q:=`Dz;rw[`PC] at q;rw[← q,← l];exact `DA
theorem Yj0(hu:`uU)(I:`w)(g:`PG)(ry:`dV)(h:∀s',`Dv->Q (`dF (!`pr)) s') :
  `o `ac A (`cK `pR u `d6) Q E s:=by
 rcases g with⟨kvs,k,e,ey,l⟩|⟨kvs,k,b,e,ey,eb,l⟩
 ·subst ey
  obtain⟨z,hd,vs,rel,dd⟩:=`vI;refine wpAny_notIn_of `vJ hd `PF ?_;rw[← `Dz,← l];exact `DA
 ·subst ey
  cases `Dw;obtain⟨z,hd,xs,rel,dd⟩:=`vK;refine wpAny_notIn_heap `Dx `Dy hd dd ?_;have q:=`Dz;rw[`PC] at q;rw[← q,← l];exact `DA
theorem rm0{t':Nat}{ob:HO}(I:`w)(mu:Mut (H a))(hs:`ab_)(he:`PH)(new:`b3 `aU X.w (upd H a ob) h' a ob) :
  Inv X `h σ (upd H a ob) `lt :=
 `NK (x:=a) (e:=a) mu `gt (λb q hb z=>(`hB b hb).trans z) he new
theorem lt0{P:`ak}{w:`R}{H':Hp}{vs:`PI}(z:`nG)(hd:`nH)(rel:`hz)(dd:h'.DictOf `nI a vs) :
  `b3 P w H' h' a `xH:=⟨z,hd,vs,rel,dd⟩
theorem e30{Q:`up}(hu:`uU)(I:`w)(g:DPut H a y v H')(ry:`dV)(rv:`cI v r)(h:∀s',`iN->`Mn) :
  `o `ac A (`xh `d6 u r) Q E s:=by
 rcases g with⟨kvs,k,e,ey,l,eH⟩|⟨kvs,k,b,e,ey,eb,l,eH⟩
 ·subst ey eH
  obtain⟨z,hd,vs,rel,dd⟩:=`ali;have hz:`alj:=`alk
  have hl:`PJ:=`PK
  refine wpAny_setItem_pairs (hsz:=hz) `vJ dd `all
  have he:`PH:=`PL
  exact `alm
 ·subst ey eH
  cases `Dw;obtain⟨z,hd,xs,rel,dd⟩:=d40 `bQ (`m8);have hz:`fh:=by rw[← `LK rel];exact z
  have hl:`PJ:=`PK
  refine Dep.set `Dx `Dy dd (`all) hz;obtain⟨q,es,ep,hq,h2,h3,h4,_,h5⟩:=J;refine rm0 I `Iu hs ⟨q,hq⟩ ⟨hl,hd,_,(rel.put k eb rv).keeps λc ys ec=>?_,q,es,ep,hq,h2,h3,h4,h5⟩;rw[m9 (Vx0 ec e `du)];exact ec
universe zz
noncomputable def ky0(i:`G):Prop:=∀ov iv,`Cj i `n ov iv=`NF [ov,iv] (`lF ov iv)
theorem Ys0{prog:`ak}{w:`R}{A:`bU}{E:`ao}{s:`p}{env:Env}{value slice:`G}{pos:Pos}{T id:`ck}{Q:`ao}
  (hl:`aeW) (hs:ky0 `kZ)
  (h:`o `aG A (`bR `pV env) (λo s₁=>`o `aG A (`bR `kZ env) (λi s₂=>s₂.TypeIs o T/\`o `aG A (`lF o i) Q E s₂) E `d?) E s) :
  `o `aG A (`bR (`jN `pV `kZ pos) env) Q E s:=by
 refine `Ny (C9 h (λo s₁ h₁=>C9 h₁ (λi s₂ h₂=>?_) `BG) `BG);obtain⟨hT,h₂⟩:=h₂;unfold subscriptTail;refine `p2;rw[getitemInPython_of_ne hT.not_modules];refine A0 (D5 hT hl ?_);have J:`o `aG A (`Cj `kZ `n o i) (λr s₃=>`o `aG A (letTemporaryGo `pV o r>>=λ_=>`b2 r) Q E s₃) E s₂:=by
  rw[hs o i];exact wpAny_operating (C9 h₂ (λr s₃ h₃=>A0 (wpAny_letTemporaryGo (A1 h₃))) `BG)
 first
  | exact A1 (A0 J)
  | exact A0 (A1 (A0 J))
  | exact A0 J
theorem jy0{σ:St}{s:`p}{y:V}{o:`cr}(I:`w)(g:`PG):`aln := by
 rcases g with⟨kvs,k,e,_,_⟩|⟨kvs,k,b,e,_,_,_⟩
 ·obtain⟨_,_,vs,_,dd⟩:=`vI
  exact `yP
 ·obtain⟨_,_,xs,_,dd⟩:=`vK
  exact `yP
noncomputable def Ua0(td ty:TE):TE:=fun σ H Q=>td σ H λx H1=>ty σ H1 λy H2=>∃a v,`ew/\`oB H2 a y `nN/\Q v H2
noncomputable def Tx0(ty td:TE):TE:=fun σ H Q=>ty σ H λy H1=>td σ H1 λx H2=>∃a o,`ew/\`alo/\Q (.bl `pr) H2
noncomputable def Zf0(ty td:TE):TE:=fun σ H Q=>ty σ H λy H1=>td σ H1 λx H2=>∃a o,`ew/\`alo/\Q (.bl (!`pr)) H2
section
variable{i:`G}
theorem o90(hu:`ft)(ho:`DB)(hi:`PM)(hs:ky0 i):PE X `MJ (Ua0 td ty):=by
 intro pins s σ H Q I h;refine Ys0 PySem.F.slot_dict_getitem.lookup hs (thn `xI λu s1 ⟨x,H1,I1,rx,q1⟩=>thn `acN λiv s2 ⟨y,H2,I2,ry,a,v,ex,g,q2⟩=>?_);subst ex;obtain rfl:u=`j6:=rx;exact⟨jy0 I2 g,ei0 hu I2 g ry λw' s3 I3 J=>⟨v,H2,I3,J,q2⟩⟩
theorem Wr0(hu:`ft)(hi:`PM)(ho:`DB):PC X .In i o (Tx0 ty td):=by
 intro pins s σ H Q I h;refine `alp
 subst ex;obtain rfl:u=`j6:=rx;exact Tz0 hu I2 g ry λs3 I3=>⟨.bl ov.isSome,H2,I3,rfl,q2⟩
theorem d20(hu:`ft)(hi:`PM)(ho:`DB):PC X `pR i o (Zf0 ty td):=by
 intro pins s σ H Q I h;refine `alp
 subst ex;obtain rfl:u=`j6:=rx;exact Yj0 hu I2 g ry λs3 I3=>⟨.bl (!ov.isSome),H2,I3,rfl,q2⟩
universe zz
theorem kf0{P:`ak}{w:`R}(h:`Q)(hb:`w2<`d2):`b3 P w H (h.push `alq) `d2 (`ql) :=
 ⟨`db,`uf (B6 (B3 hb)),[],`J,Heap.DictOf.new h⟩
noncomputable def V10:TE:=λ_ H Q=>∀p,`cO->Q `cX (upd H p (`ql))
theorem cc0:PE X (`tR [] [] pos) V10:=λpins s σ H Q I h =>
 wpAny_Dict_empty ⟨`hE,_,`kY (a:=`_) (o:=`ql) (t':=`bu) `NX `a_ (kf0 `aw I.big),rfl,h _ (`rZ)⟩
noncomputable def ss0:`vL->St->Hp->(`alr)->Prop
 | [],_,H,Q=>Q [] H
 | (tk,tv)::r,σ,H,Q=>tk σ H λx H1=>tv σ H1 λy H2=>ss0 r σ H2 λps H3=>Q ((x,y)::ps) H3
abbrev VV:`hW->`als->Prop:=`a4 λp q=>`cI p.1 q.1/\`aa8
noncomputable def PPs(X:Cx)(pos:Pos)(keys:`ud)(values:`a6)(trs:`vL):Prop :=
 ∀(pins:`an) (s:`p) (σ:St) (H:Hp) (Q:`alr),`w->`PN ->
  `o `ac X.A (evalPairs (pairTrees `fS values `A pos)) (λvs s'=>∃ps H',`iN/\VV ps vs/\Q ps H') `aA s
theorem hf0:PPs X pos [] [] []:=λpins s σ H Q I h=>pairTrees_nil_walk `adY
theorem p10{k v:`G}{ks:`ud}{vs:`a6}{tk:TE}{trs:`vL}(hk:PE X k tk)(hv:PE X v tv)(hr:PPs X pos ks vs trs) :
  PPs X pos (`eZ::ks) (`vM) ((tk,tv)::trs):=λpins s σ H Q I h =>
 pairTrees_cons_walk (thn (hk `h s σ H _ I h) λu s1 ⟨x,H1,I1,rx,q1⟩=>thn (hv `h s1 σ H1 _ I1 q1) λw2 s2 ⟨y,H2,I2,ry,q2⟩ =>
  thn (hr `h s2 σ H2 _ I2 q2) λws s3 ⟨ps,H3,I3,rel,q3⟩=>⟨(x,y)::ps,H3,I3,`X ⟨rx,ry⟩ rel,q3⟩)
noncomputable def wm0(kvs more:`ej):`ej:=more.foldl (λacc kv=>`j8 acc `l1 kv.2) kvs
theorem KV.merge:∀{more:`ej} {rs:`PI} {kvs:`ej} {vs:`PI},KV more rs->`hz->KV (`alt) (merged vs rs):=by
 intro more rs kvs vs r;unfold KV at r
 induction r generalizing kvs vs with
 | nil=>intro q;exact q
 | @cons p q ps qs h t ih =>
  intro r0;have e:KV `PO (stored vs q.1 q.2):=by
   have:=r0.put p.1 h.2;rw[← h.1];exact `C
  exact ih e
theorem s30:∀(more kvs:`ej),(`alt).length<=`gq+more.length
 | [],kvs=>by show `gq<=`gq+0;omega
 | p::r,kvs=>by
  have h1:=s30 r `PO;have h2:=v20 kvs p.1 p.2;show (wm0 `PO r).length<=_;rw[`aH];omega
theorem pg0{P:`ak}{w:`R}:∀{kvs:`ej} {ws:`als},VV (`yJ `PP) ws->∃rs,Carries `nI ws rs/\KV kvs rs
 | [],_,r=>by rw[`e2] at r;cases r;exact⟨[],`j9,`J⟩
 | p::kvs,_,r=>by
  rw[`L] at r;cases r with
  | @cons a b as bs h t =>
   obtain⟨rs,c,q⟩:=pg0 (P:=P) (w:=w) t;obtain⟨b1,b2⟩:=b;exact⟨(p.1,b2)::rs,⟨ty0 h.1,rfl,c⟩,`X ⟨rfl,h.2⟩ q⟩
noncomputable def T90(trs:`vL):TE:=fun σ H Q=>∀p,`cO->ss0 trs σ (upd H p (`ql)) λps H2=>H2 p=`a (`ql)/\∃kvs:`ej,ps=`yJ (`PP)/\`gq<=15/\Q `cX (upd H2 p (.dK (`alu)))
theorem ib0{values:`a6}{trs:`vL}(h:PPs X pos `fS values trs)(hall:`PQ)(hl:`yO=values.length)(h0:`PR)
  (h15:`PS):PE X (`tR `fS values pos) (T90 trs):=by
 intro pins s σ H Q I q;have hn:=`rY (A4 `_);have I1:=`kY (a:=`_) (o:=`ql) (h':=`gB `alq) (t':=`bu) `NX `a_ (kf0 `aw I.big);refine wpAny_Dict_walk (knd:=`alv) hall hl h0 h15 (thn (h `h _ σ _ _ I1 (q _ hn)) λws s2 ⟨ps,H2,I2,rel,e,kvs,ep,lk,q2⟩=>?_);subst ep;obtain⟨rs,c,rk⟩:=pg0 (P:=`aU) (w:=X.w) rel;obtain⟨z,hd,M,r0,dd⟩:=lg0 I2.hok e;cases r0;refine⟨rs,c,dd,λh' J hs=>⟨`hE,_,?_,rfl,q2⟩⟩;have hz:(`alu).length<=`P:=by
  have h1:=s30 kvs [];rw[`dP] at h1;rw[`adP];omega
 have he:∃q,`NT=`yM:=`PL
 exact rm0 I2 `Iu hs he (lt0 hz hd (rk.merge `J) J)
structure M2(X:Cx)(o:`G)(m:Str)(apos:Pos)(e f:`G)(cpos:Pos):Prop where
 base:`gF o m `A `nY=`lx
 few:(`alw
 &&`alx)=`b
 line:`gb
 trees:`aly
noncomputable def IsD(H:Hp)(a:`e):Prop:=(∃kvs,`PD)∨∃kvs,`Du
theorem Wv0{σ:St}{s:`p}(I:`w)(d:IsD H a) :
  `aln/\(∀b,`j6=`n9->∃ob,`w8=`Bo/\`afG)/\`nH:=by
 rcases d with⟨kvs,e⟩|⟨kvs,e⟩
 ·obtain⟨_,hd,vs,_,dd⟩:=`vI
  refine`alz;cases q;obtain⟨ob,_,_,h1,h2,_⟩:=dd;exact`alA
 ·obtain⟨_,hd,xs,_,dd⟩:=`vK
  refine`alz;cases q;obtain⟨ob,_,_,h1,h2,_⟩:=dd;exact`alA
universe L2
namespace DL
open Spec PyProof.Rows L2
section
variable{σ σ':St}{δ:Ds}
theorem Gr.fresh{p:`e}{o:HO}(h:`cO):Gr H `OT B `hT:=λb u n e=>by
 have hb:`sG:=V0 e h;exact⟨λz=>`oD n hb,by rw[m9 hb];exact e⟩
theorem Gr.own{o:HO}(h:B a):Gr H `gN B B:=λb u n e=>⟨n,by rw[m9 (λz=>n (by rw[z];exact h))];exact e⟩
theorem RpO.mono{d:D}(s:`u!)(g:`c6)(h:`gf):RpO K H' B' d a:=by
 cases d<;>try exact `kT
 ·obtain⟨xs,e,r⟩:=h;exact⟨xs,s _ e,`j5⟩
 ·obtain⟨xs,e,l,r⟩:=h;exact⟨xs,s _ e,l,`j5⟩
theorem RpG.mono{d:D}(s:`u!)(g:`c6)(h:`k2):RpG K H' B' d a:=by
 cases d with
 | tup es=>obtain⟨x,ns,e,r⟩:=h;exact`alB
 | _=>exact(RpO.mono s g `C6).toG
theorem RpL.mono{d:D}(s:`u!)(g:`c6)(h:`hP):RpL K H' B' d a:=by
 cases d with
 | tup es =>
  rcases h with⟨d',q,r⟩|⟨ks,vs,q,ts,xs,q1,e,q2,r⟩|⟨x,ns,e,r⟩
  ·exact `m ⟨d',q,`PT s g r⟩
  ·exact `l (`m ⟨ks,vs,q,ts,xs,q1,s _ e,q2,`j5⟩)
  ·exact `l (`l `alB)
 | _=>exact(RpO.mono s g `vc).toL
theorem Pd.get'{F:`g9}:∀{l:`a5} {m:`hO} {i:Nat} {a:α},`jZ->`ve->∃b,`OQ/\`rr
 | _,_,_,_,`J,e=>`Be
 | _,_,0,_,`LL,e=>`LM
 | _,_,i+1,a,`kN,e=>by
  obtain⟨u,h1,h2⟩:=`DC (i:=i) (a:=a) t `pD;exact`LN
theorem Pd.impI{F G:`g9}:∀{l:`a5} {m:`hO},(∀(i:Nat) a b,`ve->`OQ->`U?)->`WM
 | _,_,_,`J=>`J
 | _,_,h,`c5=>`X (h 0 _ _ rfl rfl r) (`l3 (λi a b e1 e2=>h `bE a b (`ahO) (by simpa using e2)) t)
theorem vz0:∀{l:`a5} {i:Nat} {a:α},`ve->`OR=l
 | [],_,_,h=>`fo
 | x::l,0,a,h=>by simp at h;subst h;rfl
 | x::l,i+1,a,h=>by rw[List.set_cons_succ,vz0 `ig]
theorem Pd.setR{F:`g9}{a:α}{b:β}(r:`rr){l:`a5}{m:`hO}(e:`ve)(h:`jZ):`a4 F l `ah7:=by
 have:=`m! r i h
 rwa [vz0 e] at this
theorem get_set{l:`a5}{a b:α}(h:(`OR)[j]?=`gI):(i=j/\a=b/\j<`cB)∨(i≠j/\l[j]?=`gI):=by
 by_cases e:i=j
 ·subst e
  by_cases hl:i<`cB
  ·rw[`C8] at h
   exact `m ⟨rfl,`l9,hl⟩
  ·rw[`C9] at h;cases h
 ·rw[`hC e] at h
  exact `l ⟨e,h⟩
theorem Env.at(e:`a9){d:D}(h:`Ix):∃a,`gK/\`ah6:=by
 obtain⟨o,h1,a,rfl,hb,r⟩:=`ah?;exact⟨a,h1,hb,r⟩
theorem Env.mut(e:`a9){d:D}{o:HO}(hi:`vN)(hs:`gK)(r:RpL K `gN B d a):`alC:=by
 obtain⟨a',h1,hb,_⟩:=`DD;rw[hs] at h1;cases h1;refine`alD
 ·
  have h0:`a4 (λ(o':`cr) (s:Sl)=>SlR K `gN B o' s∨`PU) σ δ:=`hZ (λo' s h=>by
   cases s with
   | un=>exact `PV
   | ex c n=>obtain⟨v,e,r⟩:=h;exact `alE
   | sh d=>obtain⟨v,e,r⟩:=h;exact `alE
   | ow d =>
    obtain⟨b,e,M,r⟩:=h
    by_cases z:b=a
    ·subst z;exact `PW
    ·exact `m ⟨b,e,M,`b7 (λo h=>by rw[m9 z];exact h) `hY⟩) `fP
  have h1:=`alF;refine `alG;rcases h with h|⟨d',rfl,rfl⟩
  ·exact h
  ·rcases `DE with⟨rfl,e3,_⟩|⟨J,e3⟩
   ·cases e3;exact`yR
   ·exact `alH
 ·by_cases z':b=a
  ·subst z';exact `m'
  ·rw[m9 z'];exact `PX
 ·have q1:`alI:=by
   rcases `fu with⟨rfl,_,_⟩|⟨_,h⟩
   ·exact`DF
   ·exact`DG
  have q2:`alJ:=by
   rcases `i4 with⟨rfl,_,_⟩|⟨_,h⟩
   ·exact`DF
   ·exact`DG
  obtain⟨d1,q1⟩:=q1;obtain⟨d2,q2⟩:=q2;exact `alK
theorem EnvS.mut(en:`b')(s:`aD)(b1:`i1)(b2:`i2){d:D}{o:HO}(hi:`vN)(hs:`gK)
  (env:Env K (upd H' a o) B σ `l2):`cf K `T `S (upd H' a o) σ `l2:=by
 have h0:=`alL;have J:i<`vf:=`Mo;refine`alM
 ·have:`j':=λz=>by rw[z,h0] at h;cases h
  rw[`PY];exact s _ _ `alN
 ·by_cases z:b=a
  ·obtain⟨a',e1,_,ro⟩:=`alO
   rw[hs] at e1;cases e1;rw[z] at h;exact `alP
  ·rw[m9 z] at h
   exact `yq b ob xs (s.nf b ob xs h)
 ·rcases `fu with⟨rfl,_,_⟩|⟨_,h⟩
  ·rw[hs] at h2;cases h2;exact h0
  ·exact `alQ
theorem EnvS.take(en:`b')(b1:`i1)(b2:`i2)(e:`a9)(i:Nat){d:D}{p:`e}(hp:`cO)(s:`aD)
  (r:`W1):`alR:=by
 have g:`PZ:=`P_
 have J:`Dc:=`P0;have live:`alS:=λ{j d' b} h1 h2=>by
  obtain⟨a,q1,q2,q3⟩:=e.at h1;rw[h2] at q1;cases q1;exact `alT
 refine`alU
 ·rcases z with z|rfl
  ·exact b2 a z
  ·exact `l J
 ·refine `m! ⟨p,rfl,`bA,r.toL⟩ i `alV
  cases sl with
  | un=>trivial
  | ex c n=>obtain⟨v,e,r⟩:=h;exact`vq
  | sh d=>obtain⟨v,e,r⟩:=h;exact`vq
  | ow d=>obtain⟨b,e,M,r⟩:=h;exact`alW
 ·rcases z with z|rfl
  ·exact`P1
  ·exact `m'
 ·rcases `fu with⟨rfl,_,_⟩|⟨n1,h1⟩
  ·rcases `i4 with⟨rfl,_,_⟩|⟨n2,h2⟩
   ·rfl
   ·rcases `de h3 with⟨_,e3,_⟩|⟨n3,_⟩
    ·cases e3
     rw[`DH] at h4;exact `alX
    ·exact `DI
  ·rcases `i4 with⟨rfl,_,_⟩|⟨n2,h2⟩
   ·rcases `de h4 with⟨_,e4,_⟩|⟨n4,_⟩
    ·cases e4
     rw[`qm] at h3;exact `alY
    ·exact `alZ
   ·rw[`qm] at h3
    rw[`DH] at h4;exact `OS
 ·rcases `fu with⟨rfl,_,_⟩|⟨n1,h1⟩
  ·rcases `i4 with⟨_,e3,_⟩|⟨n3,_⟩
   ·cases e3;exact J
   ·exact `DI
  ·rw[`qm] at h2
   exact `P2
theorem le0{d e:D}(h:`P3=.ow e):`bt:=by
 unfold DL.fz at h;split at h<;>cases h
theorem or0{s:Sl}{e:D}(h:wx0 s=.ow e):`bt:=by
 cases s with
 | ow d=>exact le0 h
 | un=>cases h
 | sh d=>cases h
 | ex c n=>cases h
theorem RpL.fz{d:D}(l:`m7)(n:¬`lT)(h:`hP):SlR K H B' (`lV) (`P3):=by
 cases d with
 | tup es =>
  rcases h with⟨d',rfl,r⟩|⟨ks,vs,rfl,_⟩|⟨x,ns,rfl,_⟩
  ·cases d' with
   | tup es=>trivial
   | _=>exact⟨_,rfl,RpO.rp l n (RpG.toO rfl r)⟩
  ·trivial
  ·trivial
 | _=>exact⟨_,rfl,RpO.rp l n `vc⟩
theorem Env.frz(e:`a9):∃B':BS,(`m7)/\(∀a,B a->`lT∨`Iy)/\Env K H B' σ `al_:=by
 refine⟨`al0,`yT,`e1,?_,λa z=>`gO a z.1,λi j a ds es h1 _ _ _=>?_⟩
 ·by_cases q:`Iy
  ·exact `pj
  ·exact `P4
 ·have:`a4 (λo s=>SlR K H (`al0) o `Pq) σ δ:=`l3 (λi o s e1 e2 h=>by
   cases s with
   | un=>trivial
   | ex c n=>obtain⟨v,e,r⟩:=h;exact`IA
   | sh d=>obtain⟨v,e,r⟩:=h;exact`IA
   | ow d =>
    obtain⟨a,rfl,hb,r⟩:=h;exact r.fz (`yT) λz=>z.2 ⟨i,d,e2,e1⟩) `fP
  have mp:∀{l:St} {m:Ds} {F:`cr->`OP},`a4 (λo s=>F o `Pq) l m->`a4 F l (m.map wx0):=by
   intro l m F h
   induction h with
   | nil=>exact `J
   | cons r t ih=>exact `afV
  exact mp `C
 ·unfold DL.frz at h1
  rw[`ex] at h1;cases q:`bw with
  | none=>rw[q] at h1;cases h1
  | some s=>rw[q] at h1;exact`al1
theorem EnvS.frz(en:`b'):`cf K `T `S H σ `al_:=by
 obtain⟨B,b1,b2,env⟩:=`ba;obtain⟨B',c1,c2,J⟩:=env.frz;refine⟨`ed,`al2,λi ds a h1 _=>?_,`ef⟩
 ·rcases `al3 with q|⟨i,d,q1,q2⟩
  ·exact q
  ·exact `al4
 ·unfold DL.frz at h1
  rw[`ex] at h1;cases q:`bw with
  | none=>rw[q] at h1;cases h1
  | some s=>rw[q] at h1;exact`al1
theorem Env.frzAt(e:`a9)(i:Nat):∃B':BS,(`m7)/\(∀a,B a->`lT∨∃(d:D),`Xq)/\Env K H B' σ (DL.frzAt i δ):=by
 unfold DL.frzAt;cases h:`bw with
 | none=>exact`DJ
 | some s =>
  cases s with
  | un=>dsimp only [wx0];rw[vz0 h];exact`DJ
  | ex c n=>dsimp only [wx0];rw[vz0 h];exact`DJ
  | sh d=>dsimp only [wx0];rw[vz0 h];exact`DJ
  | ow d =>
   obtain⟨a,h1,hb,r⟩:=e.at h;refine⟨`al5,`al6,`sD,?_,λb z=>`gO b z.1,λj k b ds es O M h3 h4=>?_⟩
   ·by_cases q:b=a
    ·subst q;exact `l ⟨d,rfl,h1⟩
    ·exact `P4
   ·have h0:`a4 (λ(o':`cr) (s:Sl)=>SlR K H (`al5) o' s∨`PU) σ δ:=`hZ (λo' s h=>by
     cases s with
     | un=>exact `PV
     | ex c n=>obtain⟨v,e,r⟩:=h;exact `al7
     | sh d=>obtain⟨v,e,r⟩:=h;exact `al7
     | ow d =>
      obtain⟨b,e,U,r⟩:=h
      by_cases z:b=a
      ·subst z;exact `PW
      ·exact `m ⟨b,e,⟨U,z⟩,`b7 `P5 (`eX `yT)⟩) `fP
    have h2:=`sF (i:=i) (b:=`P3) (`m (r.fz (`al6) λz=>z.2 rfl)) h1 h0;refine `l3 (λj o' s e1 e2 hh=>?_) h2;rcases hh with hh|⟨d',rfl,rfl⟩
    ·exact hh
    ·rcases `DE with⟨rfl,e3,_⟩|⟨J,e3⟩
     ·exact(le0 e3).elim
     ·exact `I (`hR i j a d d' h e3 h1 e1) J
   ·rcases `de O with⟨_,q,_⟩|⟨_,q1⟩
    ·exact`al8
    ·rcases `de M with⟨_,q,_⟩|⟨_,q2⟩
     ·exact`al8
     ·exact `hR j k b ds es q1 q2 h3 h4
theorem EnvS.frzAt(en:`b')(i:Nat):`cf K `T `S H σ (DL.frzAt i δ):=by
 obtain⟨B,b1,b2,env⟩:=`ba;obtain⟨B',c1,c2,J⟩:=env.frzAt i;refine⟨`ed,`al2,`Xp,`ef⟩
 ·rcases `al3 with q|⟨d,q1,q2⟩
  ·exact q
  ·exact `al4
 ·unfold DL.frzAt at h1
  cases q:`bw with
  | none=>rw[q] at h1;exact `P2
  | some s =>
   rw[q] at h1;rcases `fu with⟨rfl,q',_⟩|⟨_,q1⟩
   ·exact(or0 q').elim
   ·exact `j3 j ds a q1 h2
theorem ou0{d:D}(h:`nb)(r:`bN):`OD:=by
 cases d<;>simp[`cP] at h
 ·rw[V4] at r ⊢;exact r
 ·rw[Z8] at r ⊢;exact r
 ·rw[m8] at r ⊢;exact r
 ·rw[Y0] at r ⊢;exact r
universe zz
section
variable{st:`bp}{g:GE}{gt:GB}
theorem pq0(h:`b_):PD X e (xd0 g):=.mk λB δ pins s σ H Q I ⟨d,en,hq,k⟩=>by
 obtain⟨B',c1,c2,J⟩:=`sI;unfold xd0 at hq;cases e1:`l_ with
 | none=>rw[e1] at hq;cases hq
 | some x =>
  rw[e1] at hq
  by_cases hf:`Im
  ·simp only[`k,`vO] at hq
   cases hq;exact h B' `lZ `h s σ H Q I ⟨_,J,e1,λv H' s' r=>k v H' s' (ou0 hf r)⟩
  ·simp only[`k,`P6] at hq
   cases hq
theorem ow0(h:`ain):PTD X e (tg0 gt):=.mk λB δ pins s σ H Q I ⟨d,en,hq,k⟩=>by
 obtain⟨B',c1,c2,J⟩:=`sI;exact h B' `lZ `h s σ H Q I ⟨d,J,hq,k⟩
theorem bf0(i:Nat)(h:`O0):PSD X st (bi0 i G):=.mk λH₀ B₀ δ pins s σ H D I ⟨r,en,hq,k⟩=>h `T `S _ `h s σ H D I ⟨r,en.frzAt i,hq,k⟩
theorem kh0(h:`b_):PSD X `mU (V5 (pb0 g)):=.mk λH₀ B₀ δ pins s σ H D I ⟨r,en,hq,k⟩ =>
 T5 h `T `S `lZ `h s σ H D I `al9
theorem z90{gA:GA}(h:`vk):PDF X `Ne (W9 gA) :=
 .mk λB δ=>`aip fun σ H Q ⟨d,en,h,k⟩=>by
  unfold W9 at h;cases e1:`cM with
  | none=>rw[e1] at h;cases h
  | some ds =>
   rw[e1] at h
   by_cases hl:`p5
   ·simp only[`k,`k3] at h
    cases h;refine⟨ds,en,e1,λvs H1 s1 r1=>⟨`WV,λp hp=>k _ _ (`h0 hp) (`hS `e0) ⟨vs,n6,r1.mono `y9⟩⟩⟩
   ·simp only[`k,`OY] at h
    cases h
theorem mk0:PDF X (`tR [] [] pos) `JO:=.mk λB δ=>cc0.imp fun σ H Q ⟨d,en,h,k⟩=>by
 cases h;exact λp hp=>k p _ hp `e0 ⟨[],n6,rfl,`hn⟩
theorem M3(i:Nat){px:Pos}(h:`qc)(hN:`fk)(hi:`cD:=by rfl)(hx:`mR:=by first|exact `b8|exact `gJ)
  (hs:`VD `DK e `rH `A=`rI:=by rfl) (hw:`VE `DK e `A=`rJ:=by rfl)
  (h1:(`jM `DK `A).map `cv=[`eQ `eh `A]:=by rfl)
  (hf:`mS:=by first|exact `b4|exact `bA|assumption):PSD X (`nZ `DK e pos) (Q9 i g):=.mk λH₀ B₀ δ pins s σ H D I ⟨r,en,e1,k⟩=>by
 unfold Q9 at e1;obtain⟨B,b1,b2,env⟩:=`ba;cases e2:`al with
 | none=>rw[e2] at e1;cases e1
 | some d =>
  rw[e2] at e1;cases e1;exact kn0 `bT (`O1) hs hw h1 `h s σ H D I ⟨d,env,e2,λp H' hp s' r=>k _ H' (en.take b1 b2 env i hp s' r)⟩
universe zz
universe DL
namespace L2
open Spec PyProof.Rows
open PySem.AutoSeq1 (wpAny_loadPart')
theorem gd0(p:`e)(xs:`aK)(k:Nat)(q:`e)(ys:`aK)(m:Nat)(dq:`fe)(sq:`mX)(h0:¬(!xs.isEmpty&&`NY (`oG+`sR))=`b)(h1:`oG<=`P)(h2:`oG+`sR<=`P+1) :
  Meets (Builtin.«list.extend» ⟨[`eT,`x q],[]⟩) (λ_ R s=>`cJ p=`a { cls:=`cp,dict:=`c,data:=`bB xs k,slots:=#[] }/\`cJ q=`a { cls:=`cp,dict:=dq,data:=`bB ys m,slots:=sq }/\R (.ok (`fy `s1)) { s with heap:=`kl p (`fU λz=>z++ys) }) :=
 .of_wp λprog w A R s h=>by
  obtain⟨hp,g,d,tk,os⟩:=s;obtain⟨hl,hb,h⟩:=h;have f1:=AutoSeq1.idx_int;have f2:=AutoSeq1.sub_tuple_tuple;have f3:=AutoSeq1.sub_list_list;have f4:=AutoSeq1.sub_tuple_list;have f5:=AutoSeq1.sub_list_tuple;have J:(xs++ys).size<=`P+1:=by rw[Array.size_append];exact h2
  wp_walk using (L9 hl rfl (hz:=h1) (_hz':=J)),y3 hl,y3 hb
  exact`al'
noncomputable def ck0(K:`y):`hh:=λx vs H Q=>∃l b xs zs,`Cx/\vs=[`n9]/\`uQ/\`akf/\`akg/\Q `z (upd H l `Pc)
theorem gw0:MtM X "list.extend" (ck0 X.K):=by
 intro pins s σ H x vs v us Q I rx rv h;obtain⟨l,b,xs,zs,rfl,rfl,hH,hB,hz,q⟩:=h;cases rx;obtain⟨u,rfl,ru⟩:=`Cy;cases ru;obtain⟨z,its,n,r,hl,e⟩:=`NZ;obtain⟨J,r2,p2,z2⟩:=`d9 hB;obtain⟨⟨a2,Y,data2,a0⟩,a1,U,n2,O⟩:=`Pd;simp only at U O;subst U O;have hl2:=`l5;have Z:`akh:=`al!
 have M:¬(!its.toArray.isEmpty&&`NY (`W!))=`b:=by
  rw[bb0 Z,`P7];exact A9
 refine P7 F.slot_list_extend `N_ F.entry_list_extend (F.args_list_extend_2 _ _)
  (gd0 l `bP n b `Pe n2 Y a0 M `m0 `i) ⟨e,a1,?_⟩
 refine⟨`z,_,I.lset (its':=its++J) hH e `aO (`B2 r2) ?_,rfl,q⟩;rw[`W];omega
noncomputable def X70:`MG:=λo i v H Q=>∃a H',o=`dp/\DPut H a i v H'/\Q H'
theorem set_dict(hu:`ft):j80 X X70:=by
 intro pins s σ H o i v ov iv u Q I ro ri rv h;obtain⟨a,H',rfl,g,q⟩:=h;cases ro;exact e30 hu I g ri rv λs3 I3=>⟨H',I3,q⟩
universe L2
namespace DL
open Spec PyProof.Rows L2
section
variable{σ σ':St}{δ:Ds}
theorem Rps.dropLast{ds:`f}(h:`a3):Rps K H B `Xc `Cv:=by
 rw[`al?,`al?,h.length];exact h.take _
structure EnvV(K:`y)(H₀:Hp)(B₀:BS)(H:Hp)(σ:St)(δ:Ds)(d:D)(v:V):Prop where
 same:`Db
 ex:∃B:BS,(`i1)/\(`i2)/\`a9/\`bN
 fr:`ait
 b0:`O_
theorem EnvV.s{d:D}(h:`vP):`b':=⟨`C7,let ⟨B,b1,b2,e,_⟩:=h.ex;⟨B,b1,b2,e⟩,h.fr,h.b0⟩
theorem EnvV.mk'{d:D}(h:`b')(b1:`i1)(b2:`i2)(e:`a9)(r:`bN):`vP:=⟨`C7,⟨B,b1,b2,e,r⟩,h.fr,h.b0⟩
universe zz
noncomputable def tX(K:`y)(H₀:Hp)(B₀:BS)(δ:Ds)(gx:GX):TE:=fun σ H Q=>∃r,`b'/\`eg=`dK/\∀v H',EnvV K `T `S H' σ r.2 r.1 v->`lu
structure PX(X:Cx)(e:`G)(gx:GX):Prop where
 mk::go:`ama
instance{X:Cx}{e:`G}{gx:GX}:`dk (`nd) (λ_=>`ama):=⟨PX.go⟩
noncomputable def tTG(K:`y)(H₀:Hp)(B₀:BS)(ft:`aF)(d:D)(δ:Ds):TG:=λv σ H Q=>∃δ',`vP/\ft d δ=`x'/\∀σ' H',`aiF->`VB
structure PTG(X:Cx)(tg:`G)(ft:`aF):Prop where
 mk::go:`amb
instance{X:Cx}{tg:`G}{ft:`aF}:`dk (`amc) (λ_=>`amb):=⟨PTG.go⟩
section
variable{st:`bp}{g:GE}{gt:GB}
theorem d8(h:`b_):PX X e (j5 g):=.mk λH₀ B₀ δ pins s σ H Q I ⟨r,en,e1,k⟩=>by
 unfold j5 at e1;obtain⟨B,b1,b2,env⟩:=`ba;cases e2:`al with
 | none=>rw[e2] at e1;cases e1
 | some d =>
  rw[e2] at e1;cases e1;exact h B δ `h s σ H Q I ⟨d,env,e2,λv H' s' r=>k v H' (`j! (`su s') b1 b2 (`O4) r)⟩
theorem k30{δ:Ds}{ds:`f}(h:`l0=`oq):`bw=`akv:=by
 unfold owL at h;split at h
 ·cases h;assumption
 ·cases h
theorem ix0{δ:Ds}{r:`akB}(h:`yE=`dK):`bw=`a (.ow (`bv (`m r.1) r.2)):=by
 unfold oj0 at h;split at h
 ·cases h;assumption
 ·cases h
theorem wb0(i:Nat)(h:`b_)(hN:`cD:=by rfl)(hv:`fi:=by first|exact `b8|exact `gh|exact `gi)(hd:`aY:=by decide)(hcd:`fl:=by decide)
  (hbase:`gF `eh `DL `A `sO=`sJ:=by rfl)
  (hfew:(`qh
  &&`P8)=`b:=by rfl)
  (hline:`gb:=by rfl) (hs:`eE:=by rfl) (hplain:`qi:=by rfl) :
  PX X (`bC (`gG `eh `DL `fL) [e] [] `cy) (K5 i g):=.mk λH₀ B₀ δ pins s σ H Q I ⟨r,en,e1,k⟩=>by
 unfold K5 at e1;obtain⟨B,b1,b2,env⟩:=`ba;cases e2:`l0 with
 | none=>rw[e2] at e1;cases e1
 | some ds =>
  cases e3:`al with
  | none=>rw[e2,e3] at e1;cases e1
  | some d =>
   rw[e2,e3] at e1;simp only[`k] at e1;split at e1
   ·rename_i hz
    cases e1;have hi:=k30 e2;obtain⟨a,J,hb,xs,hx,rx⟩:=`i5;refine q60 b5 B10 B20 sv0 `kf (G8 `bT yo0 hs) `hj `k_ `hk hs `m_ `h s σ H Q I
     ⟨_,J,`P9,d,env,e3,λv H1 s1 r1=>⟨a,xs,v,rfl,rfl,`IT,by rw[`P'];exact hz,?_⟩⟩
    have M:Env X.K (upd H1 a (`q (`P!))) B σ (`akw):=`DM hi J ⟨_,n6,(`l8 `y1 r1).mono `hY⟩;exact `amd
   ·cases e1
theorem kl0(i:Nat)(h:`b_)(hN:`cD:=by rfl)(hv:`fi:=by first|exact `b8|exact `gh|exact `gi)(hd:`aY:=by decide)(hcd:`fl:=by decide)
  (hbase:`gF `eh "extend" `A `sO=`sJ:=by rfl)
  (hfew:(`qh
  &&`P8)=`b:=by rfl)
  (hline:`gb:=by rfl) (hs:`eE:=by rfl) (hplain:`qi:=by rfl) :
  PX X (`bC (`gG `eh "extend" `fL) [e] [] `cy) (yd0 i g):=.mk λH₀ B₀ δ pins s σ H Q I ⟨r,en,e1,k⟩=>by
 unfold yd0 at e1;obtain⟨B,b1,b2,env⟩:=`ba;cases e2:`l0 with
 | none=>rw[e2] at e1;cases e1
 | some ds =>
  cases e3:`al with
  | none=>rw[e2,e3] at e1;cases e1
  | some d =>
   rw[e2,e3] at e1;simp only[`k] at e1;cases d<;>try cases e1
   rename_i es;dsimp only at e1;split at e1
   ·rename_i hz
    cases e1;have hi:=k30 e2;obtain⟨a,J,hb,xs,hx,rx⟩:=`i5;refine q60 b5 PySem.F.slot_list_extend PySem.F.type_list_extend gw0 `kf (G8 `bT yo0 hs) `hj `k_ `hk hs `m_ `h s σ H Q I
     ⟨_,J,`P9,_,env,e3,`Ik⟩
    rw[Y7] at r1;obtain⟨b,zs,rfl,hq,rz⟩:=r1;refine⟨a,b,xs,zs,rfl,rfl,`IT,`k6,by rw[`P',rz.length];exact hz,?_⟩;have M:Env X.K (upd H1 a `Pc) B σ (`akx):=`DM hi J ⟨_,n6,(`ahQ `y1 rz).mono `hY⟩;exact `amd
   ·cases e1
theorem e90(i:Nat)(hN:`cD:=by rfl)(hv:`fi:=by first|exact `b8|exact `gh|exact `gi)(hd:`aY:=by decide)(hcd:`fl:=by decide)
  (hbase:`gF `eh "pop" `A `sO=`sJ:=by rfl) (hline:`gb:=by rfl) :
  PX X (`bC (`gG `eh "pop" `fL) [] [] `cy) (u70 i):=.mk λH₀ B₀ δ pins s σ H Q I ⟨r,en,e1,k⟩=>by
 unfold u70 at e1;obtain⟨B,b1,b2,env⟩:=`ba;cases e2:`l0 with
 | none=>rw[e2] at e1;cases e1
 | some ds =>
  rw[e2] at e1;simp only[`k] at e1;cases e3:`aky with
  | none=>rw[e3] at e1;cases e1
  | some d =>
   rw[e3] at e1;cases e1;have hi:=k30 e2;obtain⟨a,J,hb,xs,hx,rx⟩:=`i5;rw[List.getLast?_eq_getElem?] at e3;obtain⟨y,hy,ry⟩:=rx.get e3;refine W10 b5 PySem.F.slot_list_pop PySem.F.type_list_pop Wg0 `kf `hj `hk `h s σ H Q I
    ⟨_,J,`P9,a,xs,y,rfl,rfl,hx,by rw[`P'];exact hy,?_⟩
   have M:Env X.K (upd H a (`q `Cv)) B σ (`akz):=env.mut hi J ⟨_,n6,rx.dropLast.mono `hY⟩;exact k _ _ (`j! (`yU (`oz) b1 b2 hi J M) b1 b2 M (ry.mono `hY))
theorem yp0(h:`vm):PTG X tg f:=.mk λH₀ B₀ d δ pins s σ H v u Q I r ⟨δ',en,e1,k⟩=>by
 obtain⟨B,b1,b2,env,rv⟩:=`ba;exact h B d δ `h s σ H v u Q I r ⟨δ',rv,env,e1,fun σ' w en'=>k σ' H (en.s.wr b1 b2 (`oz) w en')⟩
theorem U0{ft:`aF}(h:`nd)(hg:`amc)(hs:`ML:=by rfl)(hw:`MM:=by rfl)
  (h1:`MN:=by rfl):PSD X `MO (V7 gx ft):=.mk λH₀ B₀ δ pins s σ H D I ⟨r,en,e1,k⟩=>by
 unfold V7 at e1;cases e2:`eg with
 | none=>rw[e2] at e1;cases e1
 | some q =>
  rw[e2] at e1;simp only[`k] at e1;cases e3:ft q.1 q.2 with
  | none=>rw[e3] at e1;cases e1
  | some δ' =>
   rw[e3] at e1;cases e1;exact kn0 (h `T `S δ) (hg `T `S q.1 q.2) hs hw h1 `h s σ H D I ⟨q,en,e2,λv H' J=>⟨δ',J,e3,fun σ' H'' en''=>k σ' H'' en''⟩⟩
theorem T9(h:`nd)(hs:`acG:=by rfl):PSD X (.Expr e pos) (d7 gx):=.mk λH₀ B₀ δ pins s σ H D I ⟨r,en,e1,k⟩=>by
 unfold d7 at e1;cases e2:`eg with
 | none=>rw[e2] at e1;cases e1
 | some q =>
  rw[e2] at e1;cases e1;exact Zy0 (h `T `S δ) hs `h s σ H D I ⟨q,en,e2,λv H' J=>k σ H' J.s⟩
theorem re0(n:Nat)(hp:`pL)(hc:`vn)(hb:`aiU):PSD X `MP (V8 gt G n):=.mk λH₀ B₀ δ pins s σ H D I ⟨r,en,e1,k⟩=>by
 have M:`ame:=`amf
 have O:PSs X `d8 (λD σ H=>∃δ,`aiX):=λpins s σ H D I ⟨δ,h⟩=>`aiY
 refine jg0 hp M O `h s σ H D I ⟨λm σ H=>∃δ',`amg/\`amh,`ami,?_⟩;rintro m σ1 H1 ⟨δ1,J,e2⟩;cases m with
 | zero=>cases e2
 | succ m =>
  unfold V8 at e2;obtain⟨B,b1,b2,env⟩:=J.ex;cases e3:gt δ1 with
  | none=>rw[e3] at e2;cases e2
  | some t =>
   rw[e3] at e2;refine`amj;cases t with
   | false =>
    rw[`hb];cases e2;exact `amk
   | true =>
    rw[`bx];dsimp only at e2;refine⟨fun σ' H'=>∃δ',`aml/\`amh,`amm,δ1,?_⟩;cases e4:G δ1 with
    | none=>rw[e4] at e2;cases e2
    | some rb =>
     rw[e4] at e2;refine`amn;cases rb with
     | nx δn=>exact `P?
     | ct δn=>exact `P?
     | bk δn=>cases e2;exact fun σ' H' en'=>k σ' H' en'
     | rt d'=>cases e2;exact λv H' s' r'=>k v H' s' r'
     | rf d'=>cases e2;exact λp H' hp s' r'=>k p H' hp s' r'
theorem ja0(i j:Nat){p2 p3:Pos}{kk}(hN:`fk)(hij:i≠j)(hc:`bz:=by rfl)(hi:`cD:=by rfl)(hj:`Qa:=by rfl)
  (hx:`mR:=by first|exact `b8|exact `gJ) (hy:`m3:=by first|exact `b8|exact `gJ)
  (hf:`mS:=by first|exact `b4|exact `bA|assumption) (hf2:`m4:=by first|exact `b4|exact `bA|assumption)
  (hs1:(`Qb).map `cv=`eQ (`Xt) `A::`amo:=by rfl) (hs2:`amo=`eQ (`IE) `A::(`jM [] `A).map `cv:=by rfl)
  (hn:(`Qb).length=2:=by rfl) (hst:(`Qb).findIdx? `bj=`c:=by rfl) :
  PGD X (`mb `Xu kk pos) [i,j] (qz0 i j):=.mk λB d δ=>(V40 hc (jp0 (`O1) (jp0 (qe0 (i:=j) hN hj hy hf2) Yf0 hs2) hs1) hn hst).imp λv σ H Q ⟨δ',r,en,e1,k⟩=>by
 unfold qz0 at e1;split at e1
 ·rename_i da db
  cases e1;rw[W0] at r;obtain⟨p,xs,rfl,hq,rs⟩:=r;rw[o9] at rs;obtain⟨va,t1,rfl,ra,rs⟩:=rs;rw[o9] at rs;obtain⟨vb,t2,rfl,rb,rs⟩:=rs;rw[m5] at rs;subst rs;refine⟨p,_,rfl,`k6,rfl,va,[vb],rfl,vb,[],rfl,rfl,k _ ?_ ((en.set i ra).set j rb)⟩;refine⟨`bs,λq hq=>?_,λq hq ds h=>?_⟩
  ·have h1:q≠i:=λz=>hq (by rw[z];exact A6)
   have h2:q≠j:=λz=>hq (by rw[z];exact A5 _ A6)
   rw[`amp,`amq,`amp,`amq];exact`gP
  ·rcases `de h with⟨rfl,e3,_⟩|⟨n1,e3⟩
   ·cases e3
   ·rcases `de e3 with⟨rfl,e4,_⟩|⟨n2,e4⟩
    ·cases e4
    ·simp at hq
     rcases hq with z|z
     ·exact n2 `sa
     ·exact n1 `sa
 ·cases e1
universe zz
universe DL
namespace HT
open PyProof.Rows
section
variable{w:`R}{s:`p}
theorem s50{t sl:`e}{items:`aK}{hi:`aX}{Q:`ao}(ht:`aeF)(hs:`Ca)(pl:`Cb)(pu:`Cc)
  (hw:`aeG) (h:Q `jP s):`aeI:=by
 obtain⟨os,O,U,Y⟩:=id hs;have M:`aeJ := ⟨os,O,U⟩;unfold getItem
 try with_reducible refine `l'
 first|refine `Nv|skip
 refine `aeK;refine A0 (P4 (name:=`aeL) `lG L6
  `aeM)
 show `aeN;refine `aeO;refine A0 (P5 M ?_);rw[`Nw];refine `aeP;have J:`Hg:=by
  rw[hw.1,hw.2];simp
 show `aeQ;rw[`H J];unfold Builtin.Tuple.tupleIsExact;refine A0 (A0 (P5 `lG `xu));rw[`Nw];exact A0 (M0 `Hi)
universe zz
universe HT
namespace L2
open Spec PyProof.Rows
noncomputable def U70(K:`y):`mY:=λx lo hi H Q=>∃a xs,`ew/\`kU/\`ae_/\Q `d6 H
theorem Yr0:SlR X (U70 X.K):=by
 intro pins s σ H x v vl vu lo hi sl Q I rx hs pl pu h;obtain⟨a,xs,rfl,hx,hw,q⟩:=h;cases rx;obtain⟨its,r,ht,hz⟩:=`d7 hx;have J:`gE=`av:=`ae1
 exact⟨`d1,_,L6.lookup,`lG,HT.s50 ht hs pl pu `ae2 ⟨`dp,H,I,rfl,q⟩⟩
noncomputable def em0(K:`y):R2:=λx y H Q=>∃a b ys,`ew/\`uK/\SqT K H a []/\`ae5/\Q `yS H
theorem b00:OpR X `uB (em0 X.K):=by
 intro pins s σ H x y v u Q I rx ry h;obtain⟨a,b,ys,rfl,rfl,ha,hb,q⟩:=h;cases rx;cases ry;obtain⟨its,r1,p1,_⟩:=`d7 ha;obtain⟨U,r2,p2,_⟩:=`d7 hb;have e:its=[]:=r1.zero;subst e;obtain⟨⟨cls,dd,data,sl⟩,ho,hc,n,hd⟩:=id p1;obtain⟨⟨a0,Y,data2,Z⟩,O,M,n2,J⟩:=id p2;simp only at hc hd M J;subst hc hd M J;exact X9 `B' ⟨_,O,rfl⟩ t0 t9 u1 u2 `Ns
  (tuple_addW0 a b _ U.toArray n n2 dd Y sl Z rfl) ⟨ho,O,⟨`n9,H,I,rfl,q⟩⟩
universe L2
namespace DL
open Spec PyProof.Rows L2
mutual
theorem tm0:∀(d:D) (n:Nat),`j?->deq d d=`b
 | `z,_,_=>by unfold deq;rfl
 | `ct,_,_=>`Qc
 | `iv,_,_=>`Qc
 | `uN,_,_=>`Qc
 | `bF,0,h=>by unfold lean at h;cases h
 | `bF,n+1,h=>`amr
 | `cz,0,h=>by unfold lean at h;cases h
 | `cz,n+1,h=>`amr
 | `k4,n,h=>by unfold lean at h;cases h
 | `k5,n,h=>by unfold lean at h;cases h
theorem su0:∀(ds:`f) (n:Nat),`DN->ye0 ds ds=`b
 | [],_,_=>by unfold ye0;rfl
 | `ae,n,h=>by
  unfold leans at h;rw[`a?] at h;unfold ye0;rw[tm0 d n h.1,su0 ds n h.2];rfl
end
theorem w90:∀ds es:`f,ye0 ds es=((`b6 (`ams)).all (`ne)&&`amt)
 | [],[]=>`Qd
 | [],`dX=>`Qd
 | `dX,[]=>`Qd
 | `ae,`xg=>by
  unfold ye0;rw[w90 ds es];have h1:min `CS `NW=`ams+1:=by simp only[`aH];omega
  rw[h1,List.range_succ_eq_map,`iU,`Qe];have h2:(`CS==`NW)=(`amt):=by
   rw[`pQ];simp
  rw[h2,Bool.and_assoc];rfl
theorem sb0:∀{ds:`f} {n j:Nat} {d:D},`DN->ds[j]?=`a2->`j?
 | [],_,_,_,_,h=>`fo
 | `ae,n,0,_,h,e=>by
  unfold leans at h;rw[`a?] at h;simp at e;subst e;exact h.1
 | `ae,n,j+1,_,h,e=>by
  unfold leans at h;rw[`a?] at h;exact sb0 (j:=j) h.2 `pD
section
variable{σ:St}{s:`p}
mutual
theorem Rp.inj(I:`w):∀{d e:D} {n m:Nat} {v:V},`j?->`IF->Rp X.K H B d v->Rp X.K H B' e v->d=e
 | `z,e,_,m,v,_,le,h,h'=>by
  rw[V4] at h;subst h;cases e with
  | non=>rfl
  | bl b=>rw[Z8] at h';cases h'
  | int b=>rw[m8] at h';cases h'
  | str b=>rw[Y0] at h';cases h'
  | tup b=>rw[W0] at h';obtain⟨_,_,z,_⟩:=h';cases z
  | lst b=>rw[Y7] at h';obtain⟨_,_,z,_⟩:=h';cases z
  | dct a b=>unfold lean at le;cases le
  | fn a b=>unfold lean at le;cases le
 | .bl c,e,_,m,v,_,le,h,h'=>by
  rw[Z8] at h;subst h;cases e with
  | non=>rw[V4] at h';cases h'
  | bl b=>rw[Z8] at h';cases h';rfl
  | int b=>rw[m8] at h';cases h'
  | str b=>rw[Y0] at h';cases h'
  | tup b=>rw[W0] at h';obtain⟨_,_,z,_⟩:=h';cases z
  | lst b=>rw[Y7] at h';obtain⟨_,_,z,_⟩:=h';cases z
  | dct a b=>unfold lean at le;cases le
  | fn a b=>unfold lean at le;cases le
 | `d c,e,_,m,v,_,le,h,h'=>by
  rw[m8] at h;subst h;cases e with
  | non=>rw[V4] at h';cases h'
  | bl b=>rw[Z8] at h';cases h'
  | int b=>rw[m8] at h';cases h';rfl
  | str b=>rw[Y0] at h';cases h'
  | tup b=>rw[W0] at h';obtain⟨_,_,z,_⟩:=h';cases z
  | lst b=>rw[Y7] at h';obtain⟨_,_,z,_⟩:=h';cases z
  | dct a b=>unfold lean at le;cases le
  | fn a b=>unfold lean at le;cases le
 | `dS,e,_,m,v,_,le,h,h'=>by
  rw[Y0] at h;subst h;cases e with
  | non=>rw[V4] at h';cases h'
  | bl b=>rw[Z8] at h';cases h'
  | int b=>rw[m8] at h';cases h'
  | str b=>rw[Y0] at h';cases h';rfl
  | tup b=>rw[W0] at h';obtain⟨_,_,z,_⟩:=h';cases z
  | lst b=>rw[Y7] at h';obtain⟨_,_,z,_⟩:=h';cases z
  | dct a b=>unfold lean at le;cases le
  | fn a b=>unfold lean at le;cases le
 | `bF,e,0,m,v,ld,_,_,_=>by unfold lean at ld;cases ld
 | `bF,e,n+1,m,v,ld,le,h,h'=>by
  rw[W0] at h;obtain⟨a,xs,rfl,q,r⟩:=h;unfold lean at ld;cases e with
  | non=>rw[V4] at h';cases h'
  | bl b=>rw[Z8] at h';cases h'
  | int b=>rw[m8] at h';cases h'
  | str b=>rw[Y0] at h';cases h'
  | tup es =>
   cases m with
   | zero=>unfold lean at le;cases le
   | succ m =>
    unfold lean at le;rw[W0] at h';obtain⟨a',ys,z,q',r'⟩:=h';cases z;have:=`ada `dd q'.to;subst this;rw[`amu]
  | lst es =>
   rw[Y7] at h';obtain⟨a',ys,z,q',r'⟩:=h';cases z;obtain⟨_,_,⟨o,e1,c1,_⟩,_⟩:=`d7 `dd;obtain⟨_,_,p,_⟩:=`d9 q'.to;obtain⟨o',e2,c2,_⟩:=`pM;rw[e1] at e2;cases e2;rw[c1] at c2;injection c2 with z
   exact `amv
  | dct a b=>unfold lean at le;cases le
  | fn a b=>unfold lean at le;cases le
 | `cz,e,0,m,v,ld,_,_,_=>by unfold lean at ld;cases ld
 | `cz,e,n+1,m,v,ld,le,h,h'=>by
  rw[Y7] at h;obtain⟨a,xs,rfl,q,r⟩:=h;unfold lean at ld;cases e with
  | non=>rw[V4] at h';cases h'
  | bl b=>rw[Z8] at h';cases h'
  | int b=>rw[m8] at h';cases h'
  | str b=>rw[Y0] at h';cases h'
  | lst es =>
   cases m with
   | zero=>unfold lean at le;cases le
   | succ m =>
    unfold lean at le;rw[Y7] at h';obtain⟨a',ys,z,q',r'⟩:=h';cases z;have:=`VH `dd q'.to;subst this;rw[`amu]
  | tup es =>
   rw[W0] at h';obtain⟨a',ys,z,q',r'⟩:=h';cases z;obtain⟨_,_,⟨o,e1,c1,_⟩,_⟩:=`d7 q'.to;obtain⟨_,_,p,_⟩:=`d9 `dd;obtain⟨o',e2,c2,_⟩:=`pM;rw[e1] at e2;cases e2;rw[c1] at c2;injection c2 with z
   exact `amv
  | dct a b=>unfold lean at le;cases le
  | fn a b=>unfold lean at le;cases le
 | `bv a b,e,n,m,v,ld,_,_,_=>by unfold lean at ld;cases ld
 | .fn a b,e,n,m,v,ld,_,_,_=>by unfold lean at ld;cases ld
theorem Rps.inj(I:`w):∀{ds es:`f} {n m:Nat} {xs:`K},`DN->`amw->`DO->Rps X.K H B' es xs->ds=es
 | [],es,_,_,_,_,_,h,h'=>by
  rw[m5] at h;subst h;have:=h'.length;cases es with
  | nil=>rfl
  | cons a b=>simp at this
 | `ae,es,n,m,_,ld,le,h,h'=>by
  rw[o9] at h;obtain⟨x,r,rfl,h1,h2⟩:=h;cases es with
  | nil=>rw[m5] at h';cases h'
  | cons e es =>
   rw[o9] at h';obtain⟨x',r',z,M,J⟩:=h';cases z;unfold leans at ld le;rw[`a?] at ld le;rw[Rp.inj I ld.1 le.1 h1 M,Rps.inj I ld.2 le.2 h2 J]
end
theorem view(I:`w){d:D}{x:V}(l:`j?)(h:`yV)(r:`fH) :
  (`yv/\u=`Z)∨(∃b,d=`ct/\u=`BH)∨(∃i t,d=`aR/\u=`GB)∨(∃z t,d=`jR/\u=`s z t) ∨
  (∃m ds a xs its,n=m+1/\`amx/\d=`bF/\`ew/\u=`dp/\`DO/\`iI/\`VI) ∨
  (∃m ds a xs its,n=m+1/\`amx/\d=`cz/\`ew/\u=`dp/\`DO/\`iI/\`y3 a `bP):=by
 cases d with
 | non=>rw[V4] at h;subst h;exact `m ⟨rfl,r⟩
 | bl b=>rw[Z8] at h;subst h;exact `l (`m ⟨b,rfl,r⟩)
 | int i=>rw[m8] at h;subst h;obtain⟨t,e⟩:=r;exact `l (`l (`aaZ))
 | str z=>rw[Y0] at h;subst h;obtain⟨t,e⟩:=r;exact `l (`l (`l (`m ⟨z,t,rfl,e⟩)))
 | tup ds =>
  cases n with
  | zero=>unfold lean at l;cases l
  | succ m =>
   unfold lean at l;rw[W0] at h;obtain⟨a,xs,rfl,q,rr⟩:=h;obtain⟨its,rv,p,_⟩:=`d7 `dd;exact `l (`l (`l (`l (`m ⟨m,ds,a,xs,its,rfl,l,rfl,rfl,r,rr,rv,p⟩))))
 | lst ds =>
  cases n with
  | zero=>unfold lean at l;cases l
  | succ m =>
   unfold lean at l;rw[Y7] at h;obtain⟨a,xs,rfl,q,rr⟩:=h;obtain⟨its,rv,p,_⟩:=`d9 `dd;exact `l (`l (`l (`l (`l ⟨m,ds,a,xs,its,rfl,l,rfl,rfl,r,rr,rv,`pM⟩))))
 | dct a b=>unfold lean at l;cases l
 | fn a b=>unfold lean at l;cases l
theorem in1_units:`II=`lM+1:=rfl
theorem tp0{ds es:`f}{ys:`K}{ws:`Y}{A:`bU}(ld:`DN)(le:`amw)(r1:`DO)(r2:Rps X.K H B' es ys)(v1:`c4)(v2:`aa5)
  (ih:∀d e x y u w,`amy) :
  ∀j (h1:j<us.toArray.size) (h2:j<ws.toArray.size),`yW A s `amz `amA (`Xx):=by
 intro j h1 h2;have l1:j<`bf:=by rw[← `ss,v1.length];simpa using h1
 have l2:j<`fT:=by rw[← `l5,v2.length];simpa using h2
 obtain⟨x,ex,rx⟩:=r1.get (C3 l1);obtain⟨y,ey,ry⟩:=r2.get (C3 l2);obtain⟨u,eu,ru⟩:=v1.get ex;obtain⟨w,ew,J⟩:=v2.get ey;have hu:`amz=u:=by
  have:us[j]?=`a!:=eu;simp at h1;rw[`gM h1] at this
  simpa using `Jr
 have hw:`amA=w:=by
  have:ws[j]?=`a w:=ew;simp at h2;rw[`gM h2] at this
  simpa using `Jr
 rw[hu,hw];have e1:`Xv=ds[j]:=by simp[`cm,l1]
 have e2:`Xw=es[j]:=by simp[`cm,l2]
 rw[e1,e2];exact ih _ _ _ _ _ _ (sb0 ld (C3 l1)) (sb0 le (C3 l2)) rx ry ru J
theorem ef0(I:`w):∀(n m:Nat) (d e:D) (x y:V) (u w:`E) (A:`bU),`amB->`amy:=by
 intro n
 induction n with
 | zero =>
  intro m d e x y u w A hu ld le hx hy rx ry;have J:`Qf:=`F
  rcases `Qg with⟨rfl,rfl⟩|⟨b,rfl,rfl⟩|⟨i,t,rfl,rfl⟩|⟨z,t,rfl,rfl⟩|⟨n',_,_,_,_,hn,_⟩|⟨n',_,_,_,_,hn,_⟩<;>(try (exact `I hn `i)) <;>
  rcases `Qh with⟨rfl,rfl⟩|⟨b',rfl,rfl⟩|⟨i',t',rfl,rfl⟩|⟨z',t',rfl,rfl⟩|⟨m',es,a',ys,U,rfl,Y,rfl,rfl,rfl,M,O,p'⟩|⟨m',es,a',ys,U,rfl,Y,rfl,rfl,rfl,M,O,p'⟩ <;>
  unfold deq <;>
  first
  | with_reducible exact E5 _|with_reducible exact x0 _ _|with_reducible exact `amC|with_reducible exact `amD|with_reducible exact x3 _ _ _|with_reducible exact x5 _ _ _
  | with_reducible exact w4 _|with_reducible exact T0 _ _|with_reducible exact U1 _ _|with_reducible exact w8 _|with_reducible exact x4 _ _ _|with_reducible exact U2 _ _|with_reducible exact `amE
  | with_reducible exact X0 _ _|with_reducible exact x6 _ _ _|with_reducible exact `amF
  | with_reducible exact `amG|with_reducible exact `amH|with_reducible exact `amI|with_reducible exact `amJ
  | with_reducible exact i9 p' J|with_reducible exact `amK|with_reducible exact `amL|with_reducible exact `amM
 | succ n ih =>
  intro m d e x y u w A hu ld le hx hy rx ry;have J:`Qf:=`F
  have a0:`II+n<`hK:=`Qi
  rcases `Qg with⟨rfl,rfl⟩|⟨b,rfl,rfl⟩|⟨i,t,rfl,rfl⟩|⟨z,t,rfl,rfl⟩|⟨n',ds,a,xs,its,hn,Z,rfl,rfl,rfl,rr,rv,p⟩|⟨n',ds,a,xs,its,hn,Z,rfl,rfl,rfl,rr,rv,p⟩ <;>
  rcases `Qh with⟨rfl,rfl⟩|⟨b',rfl,rfl⟩|⟨i',t',rfl,rfl⟩|⟨z',t',rfl,rfl⟩|⟨m',es,a',ys,U,rfl,Y,rfl,rfl,rfl,M,O,p'⟩|⟨m',es,a',ys,U,rfl,Y,rfl,rfl,rfl,M,O,p'⟩
  case inr.inr.inr.inr.inl.inr.inr.inr.inr.inl =>
   cases hn
   by_cases hab:a=a'
   ·subst hab
    have e:`dx ds=`dx es:=`amN;rw[← e,`amO];exact E5 _
   ·refine m3 hab ?_
    have:=n0 (e:=`ne) p p' J `amP;unfold deq;rw[w90]
    simpa [← `l4,← O.length,`If,`IJ] using `C
  case inr.inr.inr.inr.inr.inr.inr.inr.inr.inr =>
   cases hn
   by_cases hab:a=a'
   ·subst hab
    have e:`gZ ds=`gZ es:=`amN;rw[← e,`amO];exact E5 _
   ·refine m3 hab ?_
    have s1:`Qj:=`Qk
    have s2:U.toArray.size=`fT:=by rw[`bd,← O.length,`IJ]
    unfold deq;rw[w90]
    by_cases hl:`bf=`fT
    ·have:=`amQ (e:=`ne) p p' `Ql J `amP
     rw[s1] at this;rw[hl] at this ⊢
     simpa using `C
    ·have:=`amR
     rw[`Qm hl,`P7];exact `C
  all_goals
   unfold deq
   first
   | with_reducible exact E5 _|with_reducible exact x0 _ _|with_reducible exact `amC|with_reducible exact `amD|with_reducible exact x3 _ _ _|with_reducible exact x5 _ _ _
   | with_reducible exact w4 _|with_reducible exact T0 _ _|with_reducible exact U1 _ _|with_reducible exact w8 _|with_reducible exact x4 _ _ _|with_reducible exact U2 _ _|with_reducible exact `amE
   | with_reducible exact X0 _ _|with_reducible exact x6 _ _ _|with_reducible exact `amF
   | with_reducible exact `amG|with_reducible exact `amH|with_reducible exact `amI|with_reducible exact `amJ
   | with_reducible exact i9 p' J|with_reducible exact `amK|with_reducible exact `amL|with_reducible exact `amM
   | with_reducible exact SeqAt.EqAt.list_none p J|with_reducible exact SeqAt.EqAt.list_bool _ p J|with_reducible exact SeqAt.EqAt.list_int _ _ p J|with_reducible exact SeqAt.EqAt.list_str _ _ p J
   | with_reducible exact SeqAt.EqAt.tuple_none p J|with_reducible exact SeqAt.EqAt.tuple_bool _ p J|with_reducible exact SeqAt.EqAt.tuple_int _ _ p J|with_reducible exact SeqAt.EqAt.tuple_str _ _ p J
   | with_reducible exact SeqAt.EqAt.list_tuple p p' J|with_reducible exact SeqAt.EqAt.tuple_list p p' J
universe zz
universe DL
namespace DL
open Spec PyProof.Rows L2
section
variable{σ:St}{s:`p}
theorem e40(I:`w)(n m:Nat)(d e:D)(x y:V)(u w:`E)(A:`bU)(hu:`amB)(ld:`j?)(le:`IF)(hx:`yV)(hy:`Xy)(rx:`fH)(ry:`IG) :
  SeqAt.RcAt A s u w (`IH)/\SeqAt.RcNeAt A s u w (!`IH):=by
 have J:`Qf:=`F
 rcases `Qg with⟨rfl,rfl⟩|⟨b,rfl,rfl⟩|⟨i,t,rfl,rfl⟩|⟨z,t,rfl,rfl⟩|⟨n',ds,a,xs,its,hn,a0,rfl,rfl,rfl,rr,rv,p⟩|⟨n',ds,a,xs,its,hn,a0,rfl,rfl,rfl,rr,rv,p⟩ <;>
 rcases `Qh with⟨rfl,rfl⟩|⟨b',rfl,rfl⟩|⟨i',t',rfl,rfl⟩|⟨z',t',rfl,rfl⟩|⟨m',es,a',ys,Y,rfl,a1,rfl,rfl,rfl,M,U,p'⟩|⟨m',es,a',ys,Y,rfl,a1,rfl,rfl,rfl,M,U,p'⟩
 case inr.inr.inr.inr.inl.inr.inr.inr.inr.inl =>
  subst hn;have Z:`amS:=`Qi
  have O:=`amT
  have q1:=n0 (e:=`ne) p p' J O;have q2:=SeqAt.RcNeAt.tuples (e:=`ne) p p' J O;unfold deq;rw[w90];have s1:`Qj:=`Qk
  have s2:`amU:=`amV
  rw[s1,s2] at q1 q2;exact`Qn
 case inr.inr.inr.inr.inr.inr.inr.inr.inr.inr =>
  subst hn;have Z:`amS:=`Qi
  have O:=`amT
  have s1:`Qj:=`Qk
  have s2:`amU:=`amV
  unfold deq;rw[w90]
  by_cases hl:`bf=`fT
  ·have q1:=`amQ (e:=`ne) p p' `Ql J O
   have q2:=SeqAt.RcNeAt.lists (e:=`ne) p p' `Ql J O;rw[s1] at q1 q2;rw[hl] at q1 q2 ⊢;simp only[`y0,`Qo,Bool.and_true];exact`Qn
  ·have q1:=`amR
   have q2:=SeqAt.RcNeAt.lists_lengths (A:=A) p p' `Xz J;rw[`Qm hl,`P7];exact`Qn
 all_goals
  unfold deq;constructor
  ·first
   | with_reducible exact SeqAt.RcAt.none_none|with_reducible exact SeqAt.RcAt.bool_bool _ _|with_reducible exact SeqAt.RcAt.int_int _ _ _ _|with_reducible exact SeqAt.RcAt.str_str _ _ _ _|with_reducible exact SeqAt.RcAt.bool_int _ _ _|with_reducible exact SeqAt.RcAt.int_bool _ _ _
   | with_reducible exact SeqAt.RcAt.none_bool _|with_reducible exact SeqAt.RcAt.none_int _ _|with_reducible exact SeqAt.RcAt.none_str _ _|with_reducible exact SeqAt.RcAt.bool_none _|with_reducible exact SeqAt.RcAt.bool_str _ _ _|with_reducible exact SeqAt.RcAt.int_none _ _|with_reducible exact SeqAt.RcAt.int_str _ _ _ _
   | with_reducible exact SeqAt.RcAt.str_none _ _|with_reducible exact SeqAt.RcAt.str_bool _ _ _|with_reducible exact SeqAt.RcAt.str_int _ _ _ _
   | with_reducible exact SeqAt.RcAt.none_list p' J|with_reducible exact SeqAt.RcAt.bool_list _ p' J|with_reducible exact SeqAt.RcAt.int_list _ _ p' J|with_reducible exact SeqAt.RcAt.str_list _ _ p' J
   | with_reducible exact SeqAt.RcAt.none_tuple p' J|with_reducible exact SeqAt.RcAt.bool_tuple _ p' J|with_reducible exact SeqAt.RcAt.int_tuple _ _ p' J|with_reducible exact SeqAt.RcAt.str_tuple _ _ p' J
   | with_reducible exact SeqAt.RcAt.list_none p J|with_reducible exact SeqAt.RcAt.list_bool _ p J|with_reducible exact SeqAt.RcAt.list_int _ _ p J|with_reducible exact SeqAt.RcAt.list_str _ _ p J
   | with_reducible exact SeqAt.RcAt.tuple_none p J|with_reducible exact SeqAt.RcAt.tuple_bool _ p J|with_reducible exact SeqAt.RcAt.tuple_int _ _ p J|with_reducible exact SeqAt.RcAt.tuple_str _ _ p J
   | with_reducible exact SeqAt.RcAt.list_tuple p p' J|with_reducible exact SeqAt.RcAt.tuple_list p p' J
  ·try rw[Bool.not_false]
   try rw[Bool.not_true]
   first
   | with_reducible exact SeqAt.RcNeAt.none_none|with_reducible exact SeqAt.RcNeAt.bool_bool _ _|with_reducible exact SeqAt.RcNeAt.int_int _ _ _ _|with_reducible exact SeqAt.RcNeAt.str_str _ _ _ _|with_reducible exact SeqAt.RcNeAt.bool_int _ _ _|with_reducible exact SeqAt.RcNeAt.int_bool _ _ _
   | with_reducible exact SeqAt.RcNeAt.none_bool _|with_reducible exact SeqAt.RcNeAt.none_int _ _|with_reducible exact SeqAt.RcNeAt.none_str _ _|with_reducible exact SeqAt.RcNeAt.bool_none _|with_reducible exact SeqAt.RcNeAt.bool_str _ _ _|with_reducible exact SeqAt.RcNeAt.int_none _ _|with_reducible exact SeqAt.RcNeAt.int_str _ _ _ _
   | with_reducible exact SeqAt.RcNeAt.str_none _ _|with_reducible exact SeqAt.RcNeAt.str_bool _ _ _|with_reducible exact SeqAt.RcNeAt.str_int _ _ _ _
   | with_reducible exact SeqAt.RcNeAt.none_list p' J|with_reducible exact SeqAt.RcNeAt.bool_list _ p' J|with_reducible exact SeqAt.RcNeAt.int_list _ _ p' J|with_reducible exact SeqAt.RcNeAt.str_list _ _ p' J
   | with_reducible exact SeqAt.RcNeAt.none_tuple p' J|with_reducible exact SeqAt.RcNeAt.bool_tuple _ p' J|with_reducible exact SeqAt.RcNeAt.int_tuple _ _ p' J|with_reducible exact SeqAt.RcNeAt.str_tuple _ _ p' J
   | with_reducible exact SeqAt.RcNeAt.list_none p J|with_reducible exact SeqAt.RcNeAt.list_bool _ p J|with_reducible exact SeqAt.RcNeAt.list_int _ _ p J|with_reducible exact SeqAt.RcNeAt.list_str _ _ p J
   | with_reducible exact SeqAt.RcNeAt.tuple_none p J|with_reducible exact SeqAt.RcNeAt.tuple_bool _ p J|with_reducible exact SeqAt.RcNeAt.tuple_int _ _ p J|with_reducible exact SeqAt.RcNeAt.tuple_str _ _ p J
   | with_reducible exact SeqAt.RcNeAt.list_tuple p p' J|with_reducible exact SeqAt.RcNeAt.tuple_list p p' J
universe zz
section
variable{a:`G}{p:Pos}{ga:`bM}
noncomputable def g40(K:`y)(neg:`M):R2:=λx y H Q=>∃B B' dx dy,`OU/\Rp K H B' dy y/\`dv dx 50=`b/\`dv dy 50=`b/\Q (.bl (xor neg (deq dx dy))) H
theorem e80(hu:`amW):OpR X (`cK .Eq) (g40 X.K `n):=by
 intro pins s σ H x y v u Q I rx ry h;obtain⟨B,B',dx,dy,hx,hy,lx,ly,q⟩:=h;exact(`amX).1 _ _ _ _ ⟨`bk,H,I,rfl,by rw[`qn] at q;exact q⟩
theorem sa0(hu:`amW):OpR X (`cK .NotEq) (g40 X.K `b):=by
 intro pins s σ H x y v u Q I rx ry h;obtain⟨B,B',dx,dy,hx,hy,lx,ly,q⟩:=h;exact(`amX).2 _ _ _ _ ⟨`bk,H,I,rfl,by rw[`DP] at q;exact q⟩
theorem h50:Op2 K (g40 K `n) u10:=by
 intro H B x y dx dy d Q hb rx ry h k;unfold u10 at h;split at h
 ·rename_i hl
  cases h;exact⟨B,B,dx,dy,rx,ry,hl.1,hl.2,k _ H `b9 (by rw[Z8,`qn])⟩
 ·cases h
theorem uu0:Op2 K (g40 K `b) xh0:=by
 intro H B x y dx dy d Q hb rx ry h k;unfold xh0 at h;split at h
 ·rename_i hl
  cases h;exact⟨B,B,dx,dy,rx,ry,hl.1,hl.2,k _ H `b9 (by rw[Z8,`DP])⟩
 ·cases h
theorem c30:Op2 K (λx y H Q=>rI0 (`adz) x y H Q∨(`adQ)∨ap0 K x y H Q∨ac0 K x y H Q∨em0 K x y H Q) m7:=by
 intro H B x y dx dy d Q hb rx ry h k;cases dx<;>cases dy<;>simp only[m7] at h<;>try cases h
 ·rw[m8] at rx ry
  subst rx ry;exact `m ⟨_,_,rfl,rfl,`yh⟩
 ·split at h
  ·cases h
   rw[Y0] at rx ry;subst rx ry;exact `l (`m ⟨_,_,rfl,rfl,`vu,`OV⟩)
  ·cases h
 ·split at h
  ·rename_i hz
   cases h;have M:=ry;have O:=rx;rw[W0] at rx ry;obtain⟨a,xs,rfl,q1,r1⟩:=rx;obtain⟨b,ys,rfl,q2,r2⟩:=ry
   by_cases he:`pU
   ·subst he
    have e:`amY=`amY:=rfl;have hn:=`ss;simp at hn;have J:=`amZ;subst J;exact `l (`l (`l (`l ⟨a,b,ys,rfl,rfl,q1.to,q2.to,k _ H `b9 (by rw[`dB];exact M)⟩)))
   ·refine `l (`l (`l (`m ⟨a,b,xs,ys,rfl,rfl,q1.to,q2.to,he,`Qp,`j4,λz p hp=>k _ _ `e0 (on0 hb hp (`Ce))⟩)))
    subst z;have hn:=`l5;simp at hn;have J:=`amZ;subst J;exact k _ H `b9 (by rw[`bc];exact O)
  ·cases h
 ·split at h
  ·rename_i hz
   cases h;rw[Y7] at rx ry;obtain⟨a,xs,rfl,q1,r1⟩:=rx;obtain⟨b,ys,rfl,q2,r2⟩:=ry;exact `l (`l (`m ⟨a,b,xs,ys,rfl,rfl,q1.to,q2.to,`Qp,λp hp=>k _ _ `e0 (rw0 hb hp (`Ce))⟩))
  ·cases h
theorem b8(ha:`cF)(hb:`cG):PD X `am_ (o2 ga gb m7):=q90 (Wq0.or (ge0.or (i60.or (Zk0.or b00)))) c30 ha hb
instance decMul(i j:Int):`eD (CMul i j):=inferInstanceAs (`eD (`Io))
theorem Q6(ha:`cF)(hb:`cG):PD X (`lC a .Mult b pos) (o2 ga gb W2):=q90 Xd0 ((show (ii λi j=>`akM)=W2 from by funext x y;cases x<;>cases y<;>rfl)▸pj0 (C:=CMul) (g':=`adB) `vv) ha hb
theorem dm0{xs:`f}{hi:`aX}(h:`Ow=0/\`ahn=`av):`Pv=xs:=by
 unfold cutD;rw[h.1,h.2];simp
theorem w80{lo hi:`nD}{gl gh:`CQ}{p2:Pos}(he:`b_)(hl:PDO X lo gl)(hh:PDO X hi gh) :
  PD X `aeX (y00 g gl gh):=.mk λB δ =>
 (cr0 (Xb0.or (Z90.or (Wb0.or Yr0))) (he B δ) (hl B δ) (hh B δ)).imp fun σ H Q ⟨d,en,h,k⟩=>by
  unfold y00 at h;cases e1:`al with
  | none=>rw[e1] at h;cases h
  | some x =>
   cases e2:gl δ with
   | none=>rw[e1,e2] at h;cases h
   | some l =>
    cases e3:gh δ with
    | none=>rw[e1,e2,e3] at h;cases h
    | some u =>
     rw[e1,e2,e3] at h;simp only[`k] at h;refine⟨x,en,e1,λv H1 s1 r1=>⟨l,`ee,(by first|exact e2|rfl),λH2 s2=>⟨u,`H_,(by first|exact e3|rfl),λH3 s3=>?_⟩⟩⟩;have S:=`I8;have r3:=(`oy).same s3;have hb:=(`Qq).bad;cases x<;>simp only[slA] at h<;>try cases h
     ·split at h
      ·cases h
       rw[Y0] at r3;exact `m ⟨_,r3,`vu,k _ H3 S (`yj)⟩
      ·cases h
     ·have r4:=r3
      rw[W0] at r3;obtain⟨a,xs,rfl,q,r⟩:=r3;rename_i dxs
      by_cases hw:sIx `DQ 0 l=0/\sIx `DQ `DQ u=`DQ
      ·refine `l (`l (`l ⟨a,xs,rfl,`dd,`am0,k _ _ S ?_⟩))
       rw[dm0 hw];exact r4
      ·exact `l (`l (`m ⟨a,xs,rfl,`dd,`am0,λp hp=>k _ _ (S.trans `e0) (on0 hb hp `am1)⟩))
     ·rw[Y7] at r3
      obtain⟨a,xs,rfl,q,r⟩:=r3;exact `l (`m ⟨a,xs,rfl,`dd,λp hp=>k _ _ (S.trans `e0) (rw0 hb hp `am1)⟩)
theorem W70:FnR K `adT intOfD:=by
 intro H B xs ds d Q hb r h k;unfold intOfD at h;split at h
 ·cases h
  obtain⟨v,rfl,r1⟩:=`gj;rw[m8] at r1;subst r1;exact `m `am2
 ·cases h
  obtain⟨v,rfl,r1⟩:=`gj;rw[Z8] at r1;subst r1;exact `l `am2
 ·cases h
theorem X40:FnR K (λxs H Q=>∃p ys,`kh/\(`Ph∨`Pi)/\`afB) zc0:=by
 intro H B xs ds d Q hb r h k;unfold zc0 at h;split at h
 ·cases h
  obtain⟨v,rfl,r1⟩:=`gj;rw[Y7] at r1;obtain⟨a,ys,rfl,q,rr⟩:=r1;exact⟨a,ys,rfl,`Pj,`am3⟩
 ·cases h
  obtain⟨v,rfl,r1⟩:=`gj;rw[W0] at r1;obtain⟨a,ys,rfl,q,rr⟩:=r1;exact⟨a,ys,rfl,`Pk,`am3⟩
 ·cases h
universe zz
universe DL
namespace DL
open Spec PyProof.Rows
@[simp] noncomputable def v80:`aZ
 | `cu,`r0=>`akL
 | _,_=>`c
theorem ys0{gA:GA}{δ:Ds}{ds:`f}(h:`iY)(hl:`p5):T3 gA δ=`CM:=by
 unfold T3;rw[h,`k,`k3]
theorem Z70{n:Int}{d:D}(h:d∈`qo):∃k:Nat,`cg<n/\d=`ka:=by
 obtain⟨k,hk,rfl⟩:=`e4 h;have:=`zS hk;exact⟨k,`F,by rw[`Qr]⟩
theorem X20(f:D->α)(n:Int):(`qo).map f=`am4 λ(k:Nat)=>f `zP:=by
 unfold M9;rw[`bD];have:n - 0=n:=`F
 rw[`C];refine Ba0 λk _=>?_
 show f (`d (0+`cg))=_;rw[`Qr]
theorem wq0(n:Int):(`qo).length=`oE:=`am5
theorem ij0{n:Int}{d:D}(h:(`qo)[j]?=`a2):j<`oE/\d=`dL:=by
 have hj:j<`oE:=by
  have:=`am6
  rwa [wq0] at this
 refine⟨hj,?_⟩;unfold M9 at h;rw[`ex,List.getElem?_range (`u9)] at h;have:=`l9;rw[← `C];show `bl (0+`bH)=_;rw[`Qr]
theorem cm0{gt:GB}{ge:GE}{δ:Ds}{n:Int}(h:Nat->D)(H:∀k:Nat,`cg<n->∃δ',gN 0 `zP δ=`x'/\`u8=`cW/\`x!=`a (h k)) :
  zm0 `bJ gt ge δ (`qo)=`a (`am4 h):=by
 rw[zw0 (λd=>match d with|`e'=>h `fG|_=>`z) (λd hd=>by
  obtain⟨k,hk,rfl⟩:=Z70 hd;exact H k hk),X20]
 rfl
universe DL
namespace DL
open Spec PyProof.Rows L2
section
variable{a:`G}{p:Pos}{ga:`bM}
theorem ng0(ha:`cF)(hb:`cG):PDF X `am_ (o2 ga gb v80):=.mk λB δ=>(bv0 i60 `bn `eB).imp fun σ H Q ⟨d,en,h,k⟩=>by
 unfold o2 at h;cases e1:`cV with
 | none=>rw[e1] at h;cases h
 | some x =>
  cases e2:`dc with
  | none=>rw[e1,e2] at h;cases h
  | some y =>
   rw[e1,e2] at h;simp only[`k] at h;refine`qa;cases x<;>cases y<;>simp only[v80] at h<;>try cases h
   split at h
   ·rename_i hz
    cases h;have r1:=`oy;rw[Y7] at r1 r2;obtain⟨a,xs,rfl,q1,r1⟩:=r1;obtain⟨b,ys,rfl,q2,r2⟩:=r2;exact⟨a,b,xs,ys,rfl,rfl,q1.to,q2.to,`Qp,λp hp=>k p _ (`am7 hp) (`IK `e0) ⟨_,n6,(`Ce).mono `y9⟩⟩
   ·cases h
theorem qq0(hm:`iP)(hv:`lo=`XE)(ha:`b_)(hg:`cE:=by rfl)
  (hn:`gu := by decide) (hdb:`aY:=by decide) (he:`eE:=by rfl) (hpl:`i3:=by rfl) :
  PDF X `am8 (oA `z9 zc0):=.mk λB δ=>(um0 rh0 hg hm hv (G8 `bn yo0 he) hn hdb he hpl).imp fun σ H Q ⟨d,en,h,k⟩=>by
 unfold oA z7 v5 at h;cases e1:`al with
 | none=>rw[e1] at h;cases h
 | some x =>
  rw[e1] at h;simp only[`k,`gc] at h;refine⟨x,en,e1,`Ik⟩;cases x<;>simp only[zc0] at h<;>try cases h
  ·rw[W0] at r1
   obtain⟨q,xs,rfl,hq,rr⟩:=r1;exact⟨q,xs,rfl,`l `k6,`am9⟩
  ·rw[Y7] at r1
   obtain⟨q,xs,rfl,hq,rr⟩:=r1;exact⟨q,xs,rfl,`m `k6,`am9⟩
universe zz
section
variable{p:Pos}
noncomputable def FnN(P:`ak)(w:`R)(K:`y)(mg:`bq)(base:`Q)(x:Str)(k:Nat)(ps:`g)(f:`N):Prop :=
 ∃(fa:`e) (fd:`ff),`ah P w K mg `r CX0 k fa fd ps (spN K f)/\`Pn
theorem vl0{k:Nat}{ps:`g}{f:`N}(C:`am')(hr:`Dn)(hk:k<=m)(ha:`qb)(hg:`cE:=by rfl)(hdb:`aY:=by decide)
  (he:`dW:=by rfl) (hpl:`hf:=by rfl):PDF X `rS (oA gA f):=by
 obtain⟨fa,fd,F,hm,kp,hb⟩:=C;exact .mk λB δ=>(om0 (E:=E0) F `Po hg hm kp hb `J gm0 `bn hdb he hpl).imp fun σ H Q h=>by
  obtain⟨d,en,h,k⟩:=h;unfold oA at h;cases e1:`cM with
  | none=>rw[e1] at h;cases h
  | some ds =>
   rw[e1] at h;refine`ais;show spN X.K f (vs++[]) H1 Q E0;rw[`bc];exact⟨B,ds,d,`C?,r1,h,λp H' hp s r=>k p H' (`h0 hp) (`hS s) r⟩
theorem xn0{k:Nat}{ps:`g}{f:`N}(C:`am')(hr:`Dn)(hk:k<=m)(ha:`qb)(hg:`cE:=by rfl)(hdb:`aY:=by decide)
  (he:`dW:=by rfl) (hpl:`hf:=by rfl):`vl:=(vl0 C hr hk ha hg hdb he hpl).pd
theorem O4(h:`qc):PSD X `mU (T4 g):=.mk λH₀ B₀ δ pins s σ H D I ⟨r,en,e1,k⟩=>by
 unfold T4 at e1;obtain⟨B,b1,b2,env⟩:=`ba;cases e2:`al with
 | none=>rw[e2] at e1;cases e1
 | some d =>
  rw[e2] at e1;cases e1;exact si0 `bT `h s σ H D I ⟨d,env,e2,λp H' hp s' r=>k p H' (`P0) `O3 (`b7 `P5 (`eX λa z=>z.imp (b1 a) id)).toL⟩
theorem tc0(i:Nat){px:Pos}(hN:`cD:=by rfl)(hv:`fi:=by first|exact `b8|exact `gh|exact `gi)(hd:`aY:=by decide)(hcd:`fl:=by decide) :
  PSD X (.Return (`a `eh) pos) (tl0 i):=.mk λH₀ B₀ δ pins s σ H D I ⟨r,en,e1,k⟩=>by
 unfold tl0 at e1;obtain⟨B,b1,b2,env⟩:=`ba;split at e1
 ·rename_i d hi
  obtain⟨a,hs,hb,ro⟩:=`i5;cases e1;exact si0 `kf `h s σ H D I ⟨_,hs,k a H (`j3 i d a hi hs) `ed (ro.mono `P5 (`eX λb z=>`oD (b1 b) λq=>by rw[q];exact hb))⟩
 ·cases e1
universe zz
universe DL
namespace DL
@[simp] noncomputable def v90:`N
 | `CR=>`a (`q `am!)
 | _=>`c
noncomputable def ud0(ds:`f):`f:=(`b6 `bf).map λ(k:Nat)=>`B [`ka,ds.getD k `z]
noncomputable def jj0:`ahi
 | `CR=>`a (ud0 ds)
 | _=>`c
noncomputable def ph0(gA:GA):GA:=fun δ=>`ge jj0
mutual
noncomputable def tree:`cl
 | `iK=>`n
 | `k4=>`n
 | `k5=>`n
 | `bF=>`Qs
 | _=>`b
noncomputable def trees:`vB
 | []=>`b
 | `ae=>`ei d&&`Qs
end
noncomputable def zz0(g:GE):GE:=fun δ=>`Pp λd=>if `DR then `a2 else `c
theorem uv0{g:GE}{δ:Ds}{d:D}(h:`l_=`a2)(ht:`DR):zz0 g δ=`a2:=by
 unfold zz0;rw[h,`k,`H ht]
noncomputable def pv0(g:GE)(gA:GA)(f:`Qt):GE:=fun δ=>`cT λd=>`ge λds=>f d ds
theorem Y50{g:GE}{gA:GA}{f:`Qt}{δ:Ds}{d:D}{ds:`f}(h1:`fq)(h2:`iY):pv0 g gA f δ=f d ds:=by
 unfold pv0;rw[h1,h2];rfl
theorem uw0{gA:GA}{δ:Ds}{n:Int}(h:`cM=`a [`vd])(h1:-(`f!)<=n)(h2:n<`f!):y30 gA δ=`a (`qo):=by
 unfold y30;rw[h,`k];simp only[gn0];rw[`H `PB]
universe DL
namespace RevL
open Spec PyProof.Rows
theorem g50:`n! `DS "__len__"=`rJ:=by rw[`pB,`pC];kernel_rfl
theorem cj0:`n! `DS `IM=`b2 (`a (`fx "list_reverseiterator.__length_hint__")):=by rw[`pB,`pC];kernel_rfl
theorem Zu0:isSubtype `DS `DS=`x2:=by rw[`LD];kernel_rfl
section
variable{w:`R}{s:`p}
variable{wr:`aB}{G:`am?}{P:`ana}{St:`Of}
theorem Yy0(W:`anb)(hT:`Qu)(C:`e)(res:`E)(c0:Nat)(st:St 0 s)(hC:C∉fp)(hI:I∈fp)
  (gC:`cJ C=`anc)
  (hR:∀s' acc' c',`and->`ane->`Qv->R (.ok (`fy res)) s') (hn:`pY) :
  `o `aG `b! (`yZ `ou `yX res)
   `DT `DU s:=by
 have ne:C≠I:=λe=>hC (e▸hI)
 unfold Builtin.List.listExtendWith;refine A0 (P5 `DV (by
  have q1:`DW `ou `yX=`n:=by simp[`DW,ne]
  have q2:(`anf==`h1 `c9)=`n:=`aq
  have q3:(`anf==`h1 `d1)=`n:=`aq
  simp only[q1,q2,q3,`Cm,`p0,`b?];refine A0 (W.self 0 _ _ _ st (A0 (C7 (by
   unfold Builtin.List.listLengthHint;refine A0 (D5 `DV g50 (by
    show `o _ `b! (specialOf (`li I) `ang>>=_) _ _ _;refine A0 (D5 `DV cj0 ?_);refine A0 (n5 `DV Zu0 ?_);rw[`pT];dsimp only;rw[`H `h2,`pT];refine `hI;rw[`anh];refine A1 ⟨y4 PySem.F.plain_extend_loop _,?_⟩;exact codeAny_extend_loopS W hn _ hC _ n 0 _ _ _ rfl `u0 st gC (ItemsOf.nil P) λs' acc' c' m e J=>hR s' acc' c' m e J))))))))
theorem cq0(W:`anb)(hT:`Qu)(C:`e)(st:St 0 s)(hC:C∉fp)(hI:I∈fp)
  (gC:`cJ C=`DX)
  (hR:∀s' acc' c',`and->`ane->`Qv->R (.ok (`fy `Z)) s') (hn:`pY) :
  `o `aG `b! (`ani ⟨[`x C,`x I],[]⟩)
   `DT `DU s:=by
 show `o _ `b! (do let old ← `anj `ou;`ank `ou `DY;`anl;`anm) _ _ s;refine A0 (by
  unfold Builtin.List.listItems;refine A0 (N9 gC rfl (A1 (by
   show `o _ `b! (`vQ C `DY>>=λ_=>`ann>>=λ_=>`anm) _ _ s;have g2:=K0 `zn gC rfl;have oth:∀b o,b≠C->`fC->(`kl C `zn).get? b=`ab:=`Qw
   refine A0 (L9 gC rfl (A0 (`ano (Yy0 W hT C `Z _ (W.frame 0 s _ `bu st `a_ λb hb o e=>oth b o (λh=>hC (h▸hb)) e) hC hI g2 (λs' acc' c' m e J=>?_) hn))));exact hR s' acc' c' (Moved.trans W.gtrans ((Moved.refl W.grefl).then_heap `a_ λb o hb e=>oth b o (λh=>hb (h▸A6)) e) m) e J))))
universe zz
section
variable{w:`R}{s:`p}
variable{wr:`aB}{G:`am?}{P:`ana}{St:`Of}
theorem mn0{Q:`ao}(W:WalksS `jG w A.in1.in1 I fp wr G n P St)(hT:`Qu)(st:St 0 s)(hfp:∀b∈fp,b<`_)(hI:I∈fp)
  (hQ:∀s' acc' c',Moved (`_::wr) G `anp s' ->
   `XB `_=`XC->`Qv->Q `l? s') (hn:`pY) :
  `o `aG A (`d! `sL [`x I]) Q E s:=by
 have hC:`_ ∉fp:=λz=>D0 _ (hfp _ z)
 refine `anq (Q₁:=λob s1=>ob=`hE/\s1=`anp) Bd0 (Be0 _) Bf0 `anr λob s1 h1=>?_
 obtain⟨rfl,rfl⟩:=h1;have gC:(`XD).get? `_=`DX:=`gp;exact⟨`ans,Bh0 _ _,cq0 W hT _ (W.frame 0 s _ `bu st `a_ λb _ o e=>`n1) hC hI gC (λs' acc' c' m e J=>⟨rfl,hQ s' acc' c' m e J⟩) hn⟩
theorem my0{l:`e}{its:`aK}{Q:`ao}(hh:`he)(hl:`y3 l its)(hz:`GY)
  (h:∀(h':`Q) (tk c:Nat) (a:`e),`Bs->`gs a=`a { cls:=`cp,dict:=`c,data:=`bB `Qx c,slots:=#[] }->(∀b o,`sU)->Q `d6 `oH) :
  `o `aG A (`d! (`bh `kc) [`jS]) `ant E s:=by
 refine call_reversed_list hl ?_;obtain⟨ol,gl,_,_⟩:=id hl;have O:l<`_:=A8 gl;have Y:A.in1.in1.handled=`c:=`anu
 have Wk:=(Walks.listRev (prog:=`jG) (w:=w) Y `_ l (B3 O) its).toS;refine mn0 Wk (λi s x=>x.2.1.typeIs) ⟨`db,⟨_,`gp,rfl,by
  show `adc #[`jS,`BP (`DZ)]=_;have z:`DZ - `rK=`DZ:=`F
  rw[z]⟩,hl.push _⟩ (`f9) `aO (λs' J c' m e M=>?_) hz
 ·show b<`Qy
  rw[`vR];simp only[`i6,`nf,`ng] at hb;rcases hb with rfl|rfl
  ·exact b6 _
  ·exact Bi0 O
 ·obtain⟨h',g',d',Z,U⟩:=s'
  obtain rfl:g'=`pJ:=m.gens;obtain rfl:d'=`BD:=m.drawn;obtain rfl:U=s.os:=m.os;have ea:J=`Qx:=by
   apply Array.ext
   ·rw[M.1,Array.size_reverse]
   ·intro i h1 h2
    have q:its[`xe - 1 - i]?=`a J[i]:=M.2 i J[i] (P9 h1);have hi:i<`xe:=by rw[← M.1];exact h1
    rw[Array.getElem?_eq_getElem `i] at q;rw[Array.getElem_reverse];exact(A3 q).symm
  subst ea;have a0:(`gB (revObj l (`DZ))).objs.size=`n6:=`vR ..;refine h h' Z c' _ ?_ e λb o eb=>?_
  ·show `_<=`Qy
   rw[`vR];exact Nat.le_succ _
  ·have lb:=A8 eb
   refine m.heap b o ?_ (B7 _ (B7 _ eb));simp only[`i6,`nf,`ng,`D_];refine⟨?_,B3 lb⟩;show b≠`Qy;rw[`vR];exact B3 (Bi0 lb)
universe zz
universe RevL
namespace DL
open Spec PyProof.Rows L2
theorem Rps.reverse:∀{ds:`f} {xs:`K},`a3->Rps K H B `am! `Cw
 | [],_,h=>`OE
 | `ae,_,h=>by
  rw[o9] at h;obtain⟨x,r,rfl,h1,h2⟩:=h;rw[`iV,`iV];exact `l8 (Rps.reverse h2) h1
section
variable{p:Pos}
theorem jt0:`d3 `kc=`a (`bh `kc):=`af
theorem Zc0:`Qz:=`af
theorem X10(hc:`bz)(hl:`QA)(hs:`anv)(he:`fm)(hgl:`QB := by rfl)(hgs:`anw := by rfl)
  (e1:`anx:=by rfl) (e2:`eE:=by rfl)
  (h1:`i3:=by rfl) (h2:`any:=by rfl) :
  PE X `anz (fun σ H Q=>te σ H λv H'=>∃q xs,v=`x q/\SqL X.K H' q xs/\∀l,H' l=`c->Q (`jS) (upd H' l (`q `Cw))):=by
 intro pins s σ H Q I h;refine E9 (wh0 I hgl hl Zc0 ?_ `t `t);refine `anA;rw[e1];show `o _ _ (`us (`XF::`Ih)) _ _ s;refine L5 ?_;refine E9 (wh0 I hgs hs jt0 ?_ `t `t);refine E8 ?_ e2 h2;rw[e2];show `o _ _ (`us (`lD::`XG)) _ _ s;refine L5 (thn `n_ λu s1 ⟨v,H1,I1,r1,q,xs,ev,hq,k⟩=>P3 ?_);subst ev;obtain rfl:u=`li q:=r1;obtain⟨its,rv,pl,hz⟩:=I1.list hq;have J:=`l4;refine thn (RevL.my0 (I1.ok.hd hc) `iS (by rw[`bd,← J];exact hz) (Q:=`Vr) (E:=`aA) λh' tk c a ha ga hk=>?_) `anB
 have hf:H1 a=`c:=`G4 ha;refine⟨`dp,_,`G? (a:=a) (o:=`q `Cw) (t':=tk) hk ha ?_,rfl,k a hf⟩;exact⟨by rw[`qp];exact hz,`Qx,c,rv.reverse,by rw[ga];simp⟩
theorem qr0(hl:`QA)(hs:`anv)(he:`b_)(hc:`bz:=by rfl)(hgl:`QB := by rfl)(hgs:`anw := by rfl)
  (e1:`anx:=by rfl) (e2:`eE:=by rfl)
  (h1:`i3:=by rfl) (h2:`any:=by rfl) :
  PDF X `anz (oA `z9 v90):=.mk λB δ =>
 (X10 hc hl hs (he B δ) hgl hgs e1 e2 h1 h2).imp fun σ H Q ⟨d,en,h,k⟩=>by
  unfold oA z7 v5 at h;cases e3:`al with
  | none=>rw[e3] at h;cases h
  | some x =>
   rw[e3] at h;simp only[`k,`gc] at h;cases x<;>simp only[v90] at h<;>try cases h
   refine⟨_,en,e3,λv H1 s1 r=>?_⟩;rw[Y7] at r;obtain⟨q,xs,rfl,hq,rr⟩:=r;exact⟨q,xs,rfl,`k6,λl hl=>k l _ (`h0 hl) (`hS (Y8 hl)) ⟨_,n6,rr.reverse.mono (`IB hl)⟩⟩
universe zz
theorem zt0[`hp]:∀{ks:`hq} {ds:`f} {xs:`K} {q:κ},`a3->(∀d,`zh=`a2->∃x,`IP=`cn/\`si)/\`anC
 | [],ds,xs,q,h=>by
  refine⟨λd e=>?_,λ_=>?_⟩
  ·unfold zk0 at e;cases e
  ·rfl
 | `eF,[],xs,q,h=>by
  rw[m5] at h;subst h;refine⟨λd e=>?_,`j4⟩
  ·unfold zk0 at e;cases e
  ·simp at z
 | `eF,`ae,xs,q,h=>by
  rw[o9] at h;obtain⟨x,r,rfl,h1,h2⟩:=h;obtain⟨i1,i2⟩:=zt0 (ks:=ks) (q:=q) h2
  by_cases e:k=q
  ·subst e
   refine⟨`anD,λ_=>?_⟩
   ·unfold zk0 at e'
    rw[`bx] at e';cases e';exact⟨x,u30 rfl,h1⟩
   ·rw[`cH,u30 rfl]
    unfold K3;simp
  ·refine⟨`anD,`j4⟩
   ·unfold zk0 at e'
    rw[`dl] at e';rw[`cH,`vE];exact i1 d' e'
   ·rw[`cH,`vE,i2 `ajF]
    unfold K3;simp[e]
theorem ho0[`hp]:∀{ks:`hq} {xs:`K} {q:κ},`os->((`HJ).any λkv=>`D (`l1=q))=`kd
 | [],_,_,_=>rfl
 | `eF,[],_,h=>`fo
 | `eF,`mW,q,h=>by
  rw[`cH,`ga,ho0 `ig];rfl
theorem rt0[`hp]{ks:`hq}{q:κ}(h:`os):∃ys,`j8 `sh q v=`QC/\(`IQ).length=`dJ/\(`kd=`b->ys=`D0)/\(`kd=`n->ys=`P!):=by
 unfold putK J8;rw[ho0 h];cases hk:`kd with
 | true =>
  rw[`bx,`bx];refine⟨`D0,?_,`anE,`pd,λz=>by cases z⟩;clear hk
  induction ks generalizing xs with
  | nil=>rfl
  | cons k ks ih =>
   cases xs with
   | nil=>simp at h
   | cons x xs =>
    rw[`cH,`L,`L,`cH,ih `ig]
    by_cases e:k=q<;>simp[e]
 | false =>
  rw[`hr,`hr];refine⟨`P!,?_,`anE,`ahy,`pd⟩;rw[List.zip_append h];rfl
theorem tt0[`hp]{q:κ}{d:D}(hv:`bN):∀{ks:`hq} {ds:`f} {xs:`K},`a3->Rps K H B `anF (`D0)
 | [],_,_,_=>`ahR
 | `eF,[],xs,h=>`OE
 | `eF,d'::ds,xs,h=>by
  rw[o9] at h;obtain⟨x,r,rfl,h1,h2⟩:=h;rw[`cH,`cH,`L,`L,o9];refine⟨_,_,rfl,?_,tt0 hv h2⟩
  by_cases e:k=q
  ·simp only[e,`dA];exact hv
  ·simp only[e,`b?];exact h1
section
variable{a:`G}{p:Pos}{ga:`bM}
theorem v00{d:D}{k:T7}(h:M6 d=`eZ)(r:`bN):v=kV k:=by
 cases d<;>simp[M6] at h
 ·subst h;rw[m8] at r;subst r;rfl
 ·subst h;rw[Y0] at r;subst r;rfl
theorem uy0:∀{ds:`f} {ks:`cZ} {xs:`K},`Dq=`a ks->`a3->xs=`yL
 | [],ks,xs,h,r=>by cases h;rw[m5] at r;exact r
 | `ae,ks,xs,h,r=>by
  unfold wl0 at h;rw[o9] at r;obtain⟨x,r',rfl,h1,h2⟩:=r;cases e1:M6 d with
  | none=>rw[e1] at h;cases h
  | some k =>
   cases e2:`Dq with
   | none=>rw[e1,e2] at h;cases h
   | some l =>
    rw[e1,e2] at h;cases h;rw[v00 e1 h1,uy0 e2 h2];rfl
theorem lz0{d:D}{k:`cZ}(h:u50 d=`eZ)(r:`bN):∃b,v=`n9/\`vF:=by
 cases d<;>simp only[u50] at h<;>try cases h
 rw[W0] at r;obtain⟨a,xs,rfl,q,rr⟩:=r;exact⟨a,rfl,by rw[← uy0 h rr];exact q.2⟩
theorem ik0(hu:`ft)(ha:`cF)(hb:`cG)(hs:ky0 b:=by exact `i0):PD X `pW (o2 ga gb uf0):=.mk λB δ=>(o90 hu `bn `eB hs).imp fun σ H Q ⟨d,en,h,k⟩=>by
 unfold o2 at h;cases e1:`cV with
 | none=>rw[e1] at h;cases h
 | some x =>
  cases e2:`dc with
  | none=>rw[e1,e2] at h;cases h
  | some y =>
   rw[e1,e2] at h;simp only[`k] at h;refine`qa;cases x<;>simp only[uf0] at h<;>try cases h
   rename_i ks ds;have r1:=`oy;cases ks with
   | inl ks =>
    simp only at h;cases e3:M6 y with
    | none=>rw[e3] at h;cases h
    | some q =>
     rw[e3] at h;simp only[`k] at h;rw[o40] at r1;obtain⟨p,xs,rfl,_,hp,hl,rr⟩:=r1;obtain⟨v,hv,rv⟩:=(zt0 rr).1 d h;have:=`QD;subst this;exact⟨p,v,rfl,by rw[← hv];exact `QE,`QF⟩
   | inr ks =>
    simp only at h;cases e3:u50 y with
    | none=>rw[e3] at h;cases h
    | some q =>
     rw[e3] at h;simp only[`k] at h;rw[nc0] at r1;obtain⟨p,xs,rfl,_,hp,hl,rr⟩:=r1;obtain⟨v,hv,rv⟩:=(zt0 rr).1 d h;obtain⟨b,rfl,hb⟩:=lz0 e3 r2;exact⟨p,v,rfl,by rw[← hv];exact `QG,`QF⟩
theorem Ye0(hu:`ft)(ha:`cF)(hb:`cG)(hm:`rC .In b=`n:=by first|rfl|with_unfolding_all rfl):PTD X (`rD a [.In] [b] pos) (ob (o2 ga gb `Y?)):=.mk λB δ=>(Ve0 (Wr0 hu `bn `eB) hm).imp fun σ H Q ⟨t,en,h,k⟩=>by
 unfold ob o2 at h;cases e1:`cV with
 | none=>rw[e1] at h;cases h
 | some x =>
  cases e2:`dc with
  | none=>rw[e1,e2] at h;cases h
  | some y =>
   rw[e1,e2] at h;simp only[`k] at h;refine`qa;cases y<;>simp only[yn0] at h<;>try cases h
   rename_i ks ds;cases ks with
   | inl ks =>
    simp only at h;cases e3:M6 x with
    | none=>rw[e3] at h;cases h
    | some q =>
     rw[e3] at h;simp only[`gc,`k,asB,`qn] at h;cases h;rw[o40] at r2;obtain⟨p,xs,rfl,_,hp,hl,rr⟩:=r2;have:=v00 e3 r1;subst this;refine⟨p,_,rfl,`QE,_,rfl,?_⟩;rw[`D1];exact `anG
   | inr ks =>
    simp only at h;cases e3:u50 x with
    | none=>rw[e3] at h;cases h
    | some q =>
     rw[e3] at h;simp only[`gc,`k,asB,`qn] at h;cases h;rw[nc0] at r2;obtain⟨p,xs,rfl,_,hp,hl,rr⟩:=r2;obtain⟨b,rfl,hb⟩:=`anH;refine⟨p,_,rfl,`QG,_,rfl,?_⟩;rw[`D1];exact `anG
theorem rn0(i:Nat)(hu:`ft)(h:`b_)(hN:`cD:=by rfl)(hv:`fi:=by first|exact `b8|exact `gh|exact `gi)(hd:`aY:=by decide)(hcd:`fl:=by decide)
  (ha:∀v,`anI=(do
   let ov ← `anJ
   let iv ← `D2
   `uu
   `uv
   `uw):=by intro _;rfl):PTG X `IS (`s' i g):=.mk λH₀ B₀ d δ pins s σ H v u Q I r ⟨δ',en,e1,k⟩=>by
 unfold putAt at e1;obtain⟨B,b1,b2,env,rv⟩:=`ba;cases e2:`yE with
 | none=>rw[e2] at e1;cases e1
 | some pr =>
  cases e3:`al with
  | none=>rw[e2,e3] at e1;cases e1
  | some dk =>
   rw[e2,e3] at e1;simp only[`k] at e1;cases e4:`sV with
   | none=>rw[e4] at e1;cases e1
   | some q =>
    rw[e4] at e1;simp only[`k] at e1;split at e1
    ·rename_i hz
     cases e1;have hi:=ix0 e2;obtain⟨a,J,hb,xs,hx,hl,rx⟩:=`i5;have hl:`QH=`av:=hl;refine `anK;have:=v00 e4 r1;subst this;obtain⟨ys,hy,Y,O,U⟩:=`QI;refine`anL;have rr:Rps X.K H1 B `IU ys:=by
      unfold J9;cases hk:`D3 with
      | true=>rw[`bx,O hk];exact `anM
      | false=>rw[`hr,U hk];exact `anN
     rw[hy];have M:Env X.K (upd H1 a `anO) B σ (`QJ):=`DM hi J `anP;exact `anQ
    ·cases e1
universe zz
universe DL
namespace DL
open Spec PyProof.Rows L2
section
variable{a:`G}{p:Pos}{ga:`bM}
theorem ls0{sc scope:`ca}{elt iter tg:`G}{ifs:`a6}{N N':`g}{n:Nat}{caps:`j}{gi:`dY}{idx:`j}{f:`aF}{gt:`eA}{ge:`bM}
  (ok:`vx) (hidx:∀j∈idx,j<n) (hi:`fs)
  (hg:`ho) (ht:`qd) (he:`qe)
  (hc:`bz:=by rfl) (hsc:`ez:=by rfl) (hN:`vy:=by rfl) (hs:`dz:=by intro _;rfl) :
  `ajW:=j90 hc hsc `vz `eC hi hg ht he hs
theorem fz0{d:D}(h:`nb)(r:`bN):xr0 v=`b/\∀e u,`cP e=`b->Rp K H B e u->eqV v u=eqF d e:=by
 cases d<;>simp[`cP] at h
 ·rw[V4] at r;subst r
  refine`D4;cases e<;>simp[`cP] at he<;>simp only[V4,Z8,m8,Y0] at ru<;>subst ru<;>rfl
 ·rw[Z8] at r;subst r
  refine`D4;cases e<;>simp[`cP] at he<;>simp only[V4,Z8,m8,Y0] at ru<;>subst ru<;>rfl
 ·rw[m8] at r;subst r
  refine`D4;cases e<;>simp[`cP] at he<;>simp only[V4,Z8,m8,Y0] at ru<;>subst ru<;>rfl
 ·rw[Y0] at r;subst r
  refine`D4;cases e<;>simp[`cP] at he<;>simp only[V4,Z8,m8,Y0] at ru<;>subst ru<;>rfl
theorem da0{d:D}(h:`nb)(r:`bN):∀{ds:`f} {xs:`K},`QK=`b->`a3->`Cq/\inV v xs=ds.any λy=>eqF y d
 | [],_,_,rs=>by rw[m5] at rs;subst rs;exact`gP
 | e::ds,_,ha,rs=>by
  rw[o9] at rs;obtain⟨x,t,rfl,r1,r2⟩:=rs;rw[`iU,`a?] at ha;obtain⟨i1,i2⟩:=da0 h r ha.2 r2;obtain⟨f1,f2⟩:=fz0 ha.1 r1;refine⟨by rw[`iU,f1,i1];rfl,?_⟩;unfold inV at i2 ⊢;rw[`ga,`ga,f2 d v h r,i2]
theorem sk0(neg:`M):Op2 K (rIn K neg) (zd0 neg):=by
 intro H B x y dx dy d Q hb rx ry h k;have J:∀(ds:`f) (xs:`K),`a3->`cP dx=`b/\`QK=`b->d=.bl (xor neg (ds.any λy=>eqF y dx))->∀p,y=`eT->(`Cl∨`NH)->rIn K neg x y H Q:=by
  intro ds xs rs hf hd p hp hq;obtain⟨f1,f2⟩:=da0 hf.1 rx hf.2 rs;refine⟨p,xs,hp,hq,(fz0 hf.1 rx).1,f1,`Dl⟩;rw[hd,Z8,f2];cases neg<;>simp
 cases dy<;>simp only[zd0] at h<;>try cases h
 ·split at h
  ·rename_i hf
   have hd:=`QL;rw[W0] at ry;obtain⟨p,xs,e,q,rs⟩:=ry;exact J _ xs rs hf hd p e (`Pk)
  ·cases h
 ·split at h
  ·rename_i hf
   have hd:=`QL;rw[Y7] at ry;obtain⟨p,xs,e,q,rs⟩:=ry;exact J _ xs rs hf hd p e (`Pj)
  ·cases h
universe zz
universe DL
namespace ZipL
open Spec PyProof.Rows
abbrev IsZ(h:`Q)(z TI TO a:`e)(f:`M):Prop :=
 `lk z=`a { cls:=`bh `eR,dict:=`c,data:=`ro #[`BP a,`dF f,`dF `n,`x TI,`x TO],slots:=#[] }
section
variable{w:`R}{s:`p}
theorem alive{o:Obj}{Q:`au Obj->`dD}(ho:`Mp)(h:Q (`ab) s):`o `aG A (`anR a) Q E s:=by
 have h':Q (`w!) s:=by rw[ho];exact h
 exact λ_ _ _=>h'
theorem lw0{TI TO:`e}{f:`M}{Q:`M->`dD}(hz:`vS)(ha:`vT)
  (hQ:∀h',`QM->`ry z `aw h'->Q `n `gA):`o `aG A (`XQ) Q E s:=by
 unfold Builtin.SmallTypes.ownedTupleIsFree;refine A0 (D9 hz rfl (x:=`BP a) rfl ?_);show `o _ _ (`anR ((a:Int).toNat)>>=_) _ _ _;rw[`bW];refine A0 (alive ha ?_);simp only[Option.isNone_some,`p0,`b?];refine A0 (D9 hz rfl (x:=`dF f) rfl ?_);cases f with
 | true =>
  rw[`ad (show ¬((`CC != `CC)=`b) from A9)];exact A1 (hQ _ hz (Heap.SameBut.refl _ _))
 | false =>
  rw[`H (show (`xO `n != `CC)=`b from rfl)];exact A0 (wpAny_setField_rec hz `aO λh3 M J=>A1 (hQ h3 M J))
theorem cs0{TI TO a:`e}{f:`M}{oa:Obj}{k1 k2:Nat}{xs ys:`aK}{x y:`E}{Q:`ao}(D:`i7)
  (hz:`vS) (ha:`vT) (hTI:`D5)
  (h1:`D6) (h2:`D7) (hl1:`vU) (hl2:`vV) (hx:`y5=`cn) (hy:ys[k2]?=`dm)
  (hQ:∀h',`QM->`anS->`anT->`QN->`anU ->
   `D8->Q `l? `gA) :
  `o `aG A `anV (λfin s'=>∃v,fin=`yY (`fy v)/\Q v s') E s:=by
 show `anW;refine `anX;show `anY;refine `anZ;refine `an_;show `an0;refine A0 (lw0 hz ha λh₁ a1 J=>?_);simp only[`p0,`b?];refine `p2;simp only[`an1,`CH,`an2];refine `D9;show `an3;refine A0 (y6 `QO `QP hx λh₂ a2 M=>`hI);refine `hI;refine `D9;show `an4;refine A0 (y6 `an5 `an6 hy λh₄ Z U=>`hI);refine A1 `xu;refine A0 (wpAny_newTuple (hsz:=`XY) ?_);have O:`an7=`_:=by rw[U.1,M.1,J.1]
 have a0:IsZ h₄ z TI TO a `b:=`CJ _ _ D.i2z.symm (`sP _ _ D.i1z.symm a1);have Y:∀c o,`y4->`IY->`IZ->`cJ c=`ab->h₄.get? c=`ab:=λc o c1 c3 c4 e=>`CJ _ _ c4 (`sP _ _ c3 (`l! _ _ c1 e))
 refine A1 ⟨_,rfl,?_⟩;show Q (`x `an7) _;have hq:=hQ (h₄.push { cls:=`eJ,data:=`bB #[x,y] }) (B7 _ a0) ((a2.extBut `CJ D.i12).at `an8) (Z.at `an8)
  (by rw[← O];exact `gp) (by rw[`vR,O]) λc o c1 c3 c4 e=>B7 _ (Y c o c1 c3 c4 e)
 rw[O];exact hq
theorem Zo0{TI TO a:`e}{f:`M}{oa:Obj}{k1 k2:Nat}{xs ys:`aK}{Q:`aaS}(hh:`he)(D:`i7)
  (hz:`vS) (ha:`vT) (hTI:`D5)
  (h1:`D6) (h2:`D7) (hl1:`vU) (hl2:`vV) (hend:`an9)
  (hE:∀h' e,`D8->(∃o,`gs e=`ab/\`rn=`bh `an')->E (`x e) `gA) :
  `o `aG A `anV Q E s:=by
 show `anW;refine `anX;show `anY;refine `anZ;refine `an_;show `an0;refine A0 (lw0 hz ha λh₁ U J=>?_);simp only[`p0,`b?];refine `p2;simp only[`an1,`CH,`an2];refine `D9;show `an3;cases hx:`y5 with
 | none =>
  refine A0 (`an! hh `QO `QP hx λh₂ e M he=>?_);exact hE h₂ e (λc o c1 c3 _ x=>M _ _ c3 (`l! _ _ c1 x)) he
 | some x =>
  have hy:ys[k2]?=`c:=by rcases hend with h|h;rw[hx] at h;cases h;exact h
  refine A0 (y6 `QO `QP hx λh₂ Y M=>`hI);refine `hI;refine `D9;show `an4;refine A0 (`an! hh `an5 `an6 hy λh₄ e O he=>?_);exact hE h₄ e (λc o c1 c3 c4 x=>O _ _ c4 (`sP _ _ c3 (`l! _ _ c1 x))) he
theorem f30{TI TO a:`e}{f:`M}{oa:Obj}{k1 k2:Nat}{xs ys:`aK}{x y:`E}{Q:`ue}(D:`i7)
  (hz:`vS) (ha:`vT) (hTI:`D5)
  (h1:`D6) (h2:`D7) (hl1:`vU) (hl2:`vV) (hx:`y5=`cn) (hy:ys[k2]?=`dm)
  (hQ:∀h',`QM->`anS->`anT->`QN->`anU ->
   `D8->`an?) :
  `D':=by
 have hT:`QQ := `aoa;unfold pyNext;exact A0 (`aob (P4 (name:=`rW "__next__") hT d5
  (E4 d5 hT `aoc
   (cs0 D hz ha hTI h1 h2 hl1 hl2 hx hy λh' a1 a3 a4 a5 a6 a7=>A1 (hQ h' a1 a3 a4 a5 a6 a7)) `aod)))
theorem op0{TI TO a:`e}{f:`M}{oa:Obj}{k1 k2:Nat}{xs ys:`aK}{Q:`ue}(hh:`he)(D:`i7)
  (hz:`vS) (ha:`vT) (hTI:`D5)
  (h1:`D6) (h2:`D7) (hl1:`vU) (hl2:`vV) (hend:`an9)
  (hQ:∀h',`D8->`aoe):`D':=by
 have hT:`QQ := `aoa;unfold pyNext;refine A0 (`aob (P4 (name:=`rW "__next__") hT d5
  (E4 d5 hT `aoc (Zo0 hh D hz ha hTI h1 h2 hl1 hl2 hend λh' e hk he=>?_) `aod)))
 obtain⟨o,ho,hc⟩:=he;refine A0 (n5 (T := `an') (b:=`b) ⟨o,ho,hc⟩ isSubtype_stop ?_);exact A1 (hQ _ hk)
universe zz
structure ZSt(h:`Q)(z TI TO i1 i2 l1 l2 S:`e)(xs ys:`aK)(i:Nat):Prop where
 own:(i=0/\IsZip h z TI TO `Z/\∃p q,`oF h TO p q)∨∃a f oa,IsZ h z TI TO a f/\`fz=`a oa/\a≠z/\a≠i1/\a≠i2/\a≠S
 hTI:`oF h TI `IV `IW
 h1:`G_ i1 l1 i
 h2:`G_ i2 l2 i
 hl1:h.IsList l1 xs
 hl2:h.IsList l2 ys
structure ZLow(z TI TO i1 i2 l1 l2 S:`e):Prop where
 z:z<S
 TI:TI<S
 TO:TO<S
 i1:i1<S
 i2:i2<S
 l1:l1<S
 l2:l2<S
structure ZG(xs ys:`aK)(S:`e)(h:`Q)(as:`aB):Prop where
 rise:as.Pairwise (·<·)
 above:∀a∈as,S<a
 pairs:∀(j:Nat) (a:`e),`aof->∃x y,`xz=`cn/\`aog/\`oF h a x y
section
variable{w:`R}{s:`p}{TI TO S:`e}{xs:`aK}{h:`Q}
theorem ZG.there(g:`aoh)(ha:a∈as):a<`d2:=by
 obtain⟨j,hj⟩:=List.mem_iff_getElem?.mp ha;obtain⟨_,_,_,_,e⟩:=g.pairs j a hj;exact `c?
theorem ZSt.keep(x:`aoi)(L:`D!)(hk:∀b o,b≠S->`BN):ZSt h' z TI TO i1 i2 l1 l2 S xs ys i:=by
 refine⟨?_,hk _ _ (B3 L.TI) x.hTI,x.h1.at λo e=>hk _ o (B3 L.i1) e,x.h2.at λo e=>hk _ o (B3 L.i2) e,x.hl1.at λo e=>hk _ o (B3 L.l1) e,x.hl2.at λo e=>hk _ o (B3 L.l2) e⟩;rcases x.own with⟨e,hz,p,q,hp⟩|⟨a,f,oa,hz,ha,n1,n2,n3,n4⟩
 ·exact `m ⟨e,`aoj,p,q,hk _ _ (B3 L.TO) hp⟩
 ·exact `l ⟨a,f,oa,`aoj,hk _ _ n4 ha,n1,n2,n3,n4⟩
theorem T80{x y:`E}{Q:`ue}(D:`i7)(st:`aok)(hS:S<`_)(hx:`lz)(hy:ys[i]?=`dm)
  (hQ:∀h',ZSt h' z TI TO i1 i2 l1 l2 S xs ys `bE->`QN->`aol->`an?) :
  `D':=by
 obtain⟨o1,e1,_⟩:=id `vW;obtain⟨o2,e2,_⟩:=id `vX;rcases st.own with⟨rfl,hz,p,q,hp⟩|⟨a,f,oa,hz,ha,n1,n2,n3,n4⟩
 ·refine wpAny_pyNext_zip_item D hz `qq hp `vW `vX `D? `Ea hx hy λh' a1 a2 a3 a4 a5 a6 hk=>hQ h' ⟨`l ⟨_,`n,_,a1,a5,C4 (A8 hz),C4 (A8 e1),C4 (A8 e2),C4 hS⟩,hk _ _ D.TIz D.TITO D.TIi1 D.TIi2 `qq,a3,a4,
   st.hl1.at λo e=>hk _ o D.l1z D.l1TO D.l1i1 D.l1i2 e,st.hl2.at λo e=>hk _ o D.l2z D.l2TO `I_ D.l2i2 e⟩ a5 hk
 ·refine f30 D hz ha `qq `vW `vX `D? `Ea hx hy λh' a1 a3 a4 a5 a6 hk=>hQ h' ⟨`l ⟨a,`b,oa,a1,hk _ _ n1 n2 n3 ha,n1,n2,n3,n4⟩,hk _ _ D.TIz D.TIi1 D.TIi2 `qq,a3,a4,
   st.hl1.at λo e=>hk _ o D.l1z D.l1i1 D.l1i2 e,st.hl2.at λo e=>hk _ o D.l2z `I_ D.l2i2 e⟩ a5 `aom
theorem Uu0{Q:`ue}(hh:`he)(D:`i7)(st:`aok)(hend:`aon)
  (hQ:∀h',`aol->`aoe):`D':=by
 rcases st.own with⟨rfl,hz,p,q,hp⟩|⟨a,f,oa,hz,ha,n1,n2,n3,n4⟩
 ·exact wpAny_pyNext_zip_end hh D hz `qq hp `vW `vX `D? `Ea hend hQ
 ·exact op0 hh D hz ha `qq `vW `vX `D? `Ea hend λh' hk=>hQ h' `aom
universe zz
section
variable{w:`R}{s:`p}{TI TO S lo:`e}{xs:`aK}{h₁:`Q}
theorem U40(hh:`he)(D:`i7)(L:`D!)(hlo:`QR)(hn:`Eb)(res:`E)
  (hR:∀h' tk acc c as,(∀b o,b<lo->`Og->`nR)->`QS->`Ec->`QT ->
   `aoo) :
  ∀(k i:Nat) (h:`Q) (tk c:Nat) (acc:`aK) (as:`aB),`sS - i=k->i<=`sS->`aoi->(∀b o,b<lo->`Og->`fF) ->
   `lk S=`XS->`I0->`fO=i->`aoh ->
   `hJ `aG A `aop R `QU:=by
 have b0:=hlo.1;have a9:lo<S:=`QV;have lk:∀(h h':`Q),`aoq->∀b o,b<lo->`BN:=λh h' hk b o hb e =>
  hk b o (B3 (B0 hb hlo.1)) (B3 (B0 hb hlo.2.1)) (B3 (B0 hb hlo.2.2.1)) (B3 (B0 hb hlo.2.2.2)) e
 have U:∀(h h':`Q),`aoq->∀b o,S<=b->`BN:=λh h' hk b o hb e =>
  hk b o (C4 (B0 L.z hb)) (C4 (B0 L.TO hb)) (C4 (B0 L.i1 hb)) (C4 (B0 L.i2 hb)) e
 intro k
 induction k with
 | zero =>
  intro i h tk c acc as hk hi a1 J hS M O hG;have a7:`aon:=by
   rcases `aor `oG `sR with q|q
   ·exact `m (Bo0 `i)
   ·exact `l (Bo0 `i)
  refine `aos;rw[`aot];show `aou;refine A0 (Uu0 (s:=`QU) (A:=`b!) hh D a1 a7 λh' he=>?_);refine A1 (hR h' tk acc c as (λb o h1 e=>lk h h' he b o h1 (J b o h1 e)) (U h h' he S _ `a_ hS) `i ⟨hG.rise,`y7,λj a hj=>?_⟩ M);obtain⟨x,y,e1,e2,e3⟩:=`aov;exact⟨x,y,e1,e2,U h h' he a _ (E6 (`y7 a (D4 hj))) e3⟩
 | succ k ih =>
  intro i h tk c acc as hk hi a1 J hS M O hG;have a0:i<`sS:=`F
  have a3:i<`oG:=B0 a0 (Nat.min_le_left ..);have a4:i<`sR:=B0 a0 (Ah0 ..);have a5:acc.size=i:=by rw[← `BL,M,`U,O]
  have Z:S<`d2:=A8 hS;refine `aos;rw[`aot];show `aou;refine A0 (T80 (s:=`QU) D a1 Z (P9 a3) (P9 a4) λh' a8 ht Y=>?_);dsimp only at ht Y ⊢;have a6:=U h h' Y S _ `a_ hS;have up:∀b o,b≠S->`nR->(h'.update S (`fU `aow)).get? b=`ab:=`Qw
  show `o _ `b! (`vQ S `aow>>=_) _ _ _;refine `p2;refine L9 a6 rfl (A1 ⟨y4 d6 _,ih `bE _ tk _ (`aox) `aoy `i a0 (a8.keep L up)
   (λb o h1 e=>up b o (B3 (E3 h1 a9)) (lk h h' Y b o h1 (J b o h1 e))) (K0 _ a6 rfl) (by rw[Array.toList_push,M,`b0];rfl) (by rw[`W,O];rfl) ⟨?_,?_,?_⟩⟩) (by rw[a5];omega) (by show (`aox).size<=`P+1;rw[Array.size_push,a5];omega)
  ·refine List.pairwise_append.mpr ⟨hG.rise,List.pairwise_singleton _ _,λa ha b hb=>?_⟩
   rw[`Ed];exact hG.there ha
  ·intro a ha
   rcases `d5 ha with ha|ha
   ·exact `QW
   ·rw[`e3 ha];exact Z
  ·intro j b hj
   rcases Nat.lt_trichotomy j `fO with h1|h1|h1
   ·rw[`rR h1] at hj
    obtain⟨x',y',e1,e2,e3⟩:=`XT j b hj;have hb:=`y7 b (D4 hj);exact⟨x',y',e1,e2,up b _ (C4 hb) (U h h' Y b _ (E6 hb) e3)⟩
   ·subst h1
    have hb:`d2=b:=`u9
    subst hb;exact⟨_,_,by rw[O];exact P9 a3,by rw[O];exact P9 a4,up _ _ (C4 Z) ht⟩
   ·have a2:`aoy[j]?=`c:=`HU `vY
    rw[a2] at hj;cases hj
universe zz
theorem go0:`n! `s2 "__len__"=`rJ:=by rw[`pB,`pC];kernel_rfl
theorem i40:`n! `s2 `IM=`rJ:=by rw[`pB,`pC];kernel_rfl
universe ZipL
namespace L2
open Spec PyProof.Rows
noncomputable def we0(H:Hp):`qr->Hp
 | []=>H
 | p::l=>upd `sT p.1 p.2
theorem qv0{b:`e}:∀{l:`qr},(∀p∈l,p.1≠b)->`QX=H b
 | [],_=>rfl
 | p::l,h=>by
  show `aoz=_;rw[m9 (B6 (h p A6)),qv0 `aoA]
theorem sz0{b:`e}{u:HO}:∀{l:`qr},`QX=`a!->(∃p∈l,p.1=b/\p.2=u)∨`ug
 | [],e=>`l e
 | p::l,e=>by
  by_cases h:b=p.1
  ·subst h
   have e':upd `sT p.1 p.2 p.1=`a!:=e;rw[n6] at e';exact `m ⟨p,A6,rfl,A3 e'⟩
  ·have e':`aoz=`a!:=e
   rw[m9 h] at e';rcases sz0 e' with⟨q,hq,x⟩|x
   ·exact `m ⟨q,A5 _ hq,x⟩
   ·exact `kL
theorem pc0:∀{l:`qr},(`ea `I5).Nodup->∀p∈l,we0 H l p.1=`nO
 | [],_,p,h=>nomatch h
 | q::l,n,p,h=>by
  rw[`L,`Ee] at n;show upd `sT q.1 q.2 p.1=_;rcases `Ae with rfl|h
  ·rw[n6]
  ·rw[m9 (λz=>n.1 (by rw[← z];exact g9 h)),pc0 n.2 p h]
noncomputable def fr0(X:Cx)(f1 f2:`E)(r:`lH):Prop :=
 ∀(pins:`an) (s:`p) (σ:St) (H:Hp) (xs:`K) (us:`Y) (Q:VK),`w->`c4->`BV ->
  `o `ac X.A (`d! f2 us) (λv s1=>`o `ac X.A (`d! f1 [v]) `eW `aA s1) `aA s
section
variable{p:Pos}{x1:Str}{T1 T2:`ck}{t:TA}
theorem fp0(hc:fr0 X `aoB `aoC r)(hg1:Gl X x1)(hg2:Gl X x2)(hm1:`cq x1=`c)(hm2:`cq x2=`c)(hv1:`d3 x1=`a `aoB)(hv2:`d3 x2=`a `aoC)(ha:`uF)
  (hn1:x1 ≠`w7 := by decide) (hd1:(x1==`rB)=`n:=by decide) (hn2:x2 ≠`w7 := by decide) (hd2:(x2==`rB)=`n:=by decide)
  (e1:`dn [`I3] `A=`aoD::`hU:=by rfl) (h1:`i3:=by rfl)
  (he:`dW:=by rfl) (hpl:(`fE `l6 (`rA)).any `bj=`n:=by rfl) :
  PE X (`bC (`b5 x1 p) [`I3] [] pos) (tCB r t):=by
 intro pins s σ H Q I h;refine E9 (wh0 I hg1 hm1 hv1 ?_ hn1 hd1);refine `anA;rw[e1];show `o _ _ (`us (`aoD::`Ih)) _ _ s;refine L5 ?_;refine E9 (wh0 I hg2 hm2 hv2 ?_ hn2 hd2);refine E8 (thn (ha `l6 `h s σ H _ I h) `VK) he hpl;exact thn (`V6) `anB
universe zz
universe L2
namespace DL
open Spec PyProof.Rows L2
noncomputable def z70:`aB->`hW->`qr
 | `qs,`nh=>(a,`Js)::`I4
 | _,_=>[]
theorem sn0:∀{as:`aB} {ps:`hW},`fO=`ar->`aoE=as
 | [],[],_=>rfl
 | [],`dX,h=>`fo
 | `dX,[],h=>`fo
 | `qs,`nh,h=>by
  show a::`aoE=_;rw[sn0 `ig]
theorem mh0:∀{as:`aB} {ps:`hW} {q:`I2},q∈`I4->∃(j:Nat) (p:V×V),as[j]?=`a q.1/\`aoF/\q.2=`Js
 | [],_,q,h=>`Ef
 | `dX,[],q,h=>`Ef
 | `qs,`nh,q,h=>by
  rcases `Ae with rfl|h
  ·exact⟨0,p,rfl,rfl,rfl⟩
  ·obtain⟨j,p',h1,h2,h3⟩:=mh0 h
   exact⟨j+1,p',`lj,`B5,h3⟩
theorem m50:∀as:`aB,`br `QY (`y6)
 | []=>`J
 | `qs=>`X rfl (m50 as)
theorem m60:∀{ds es:`f} {xs ys:`K} {as:`aB},`a3->`ahP->`QZ->(∀p∈`aoG,`rq=`nO/\¬B p.1) ->
  Rps K H B (`aoH `aoI) `QY
 | [],es,xs,ys,as,r1,r2,hl,h=>by
  rw[m5] at r1;subst r1;simp at hl;subst hl;simp[m5]
 | `ae,[],xs,ys,as,r1,r2,hl,h=>by
  rw[m5] at r2;subst r2;simp at hl;subst hl;simp[m5]
 | `ae,`xg,xs,ys,as,r1,r2,hl,h=>by
  rw[o9] at r1 r2;obtain⟨x,xs',rfl,a1,a2⟩:=r1;obtain⟨y,J,rfl,b1,b2⟩:=r2;cases as with
  | nil=>simp at hl
  | cons a as =>
   have h0:=h (a,`XW) A6;rw[`cH,`L,`L,o9];refine⟨_,_,rfl,?_,m60 a2 b2 `HV λp hp=>h p (A5 _ hp)⟩;rw[W0];refine⟨a,`y8,rfl,⟨h0.2,h0.1⟩,?_⟩;rw[o9];refine⟨_,_,rfl,a1,?_⟩;rw[o9];exact⟨_,_,rfl,b1,`hn⟩
theorem i50:∀{as:`aB} {zs:`hW} {p:`I2},p∈z70 as zs->∃xs,p.2=`c'
 | [],_,_,h=>`Ef
 | `dX,[],_,h=>`Ef
 | `qs,z::zs,p,h=>by
  unfold z70 at h;rcases `Ae with rfl|h
  ·exact`ag
  ·exact i50 h
theorem Z00{t b:`e}{o:HO}{zs:`hW}{ob:Obj}(ho:`aib)(h:we0 H ((t,o)::z70 as zs) b=`aoJ):H b=`aoJ:=by
 rcases sz0 h with⟨p,hp,_,e⟩|h
 ·rcases `be hp with rfl|hp
  ·exact `I e (ho _ _)
  ·obtain⟨ys,e'⟩:=i50 hp
   rw[e] at e';cases e'
 ·exact h
universe DL
namespace L2
open Spec PyProof.Rows
section
variable{s:`p}
theorem Inv.turnedL(I:`w)(hf:∀b∈fp,`xi)(k:`aoK):`Mg:=by
 have J:∀b u,`ug->b∉fp:=λb u e z=>by rw[(hf b z).1] at e;cases e
 refine `BC (g':=`pJ) (d':=`BD) (ch:=fp) (λb hb=>⟨(`lA).2.2.2.1,(`lA).2.1,(`lA).2.2.2.2.1,(`lA).2.2.2.2.2⟩) (λb o _ _ hc e _=>`Q_) (λb o _ _ hc e _=>⟨o.slots,`Q_⟩) `abU
  (λb o hc e=>⟨o,`Q_⟩) (`Mi) (λ_ _ _ e=>e) `abV (λm hm=>?_) (`Mj) `f8
 ·obtain⟨o,es,ep,ho,r⟩:=hm
  exact⟨o,es,ep,k _ o (λz=>(hf _ z).2.1 rfl) ho,r⟩
 ·refine`abW
  rcases hc with z|z
  ·rw[z];exact J b u e
  ·exact J c _ z
theorem Inv.turnedNew{t':Nat}{x y:V}{w:`E}(I:`w)(hf:∀b∈fp,`xi)(rx:`fH)(ry:`IG)(hlt:∀b∈fp,b<`_)
  (hob:`NT=`a `XX) (k:`aoK) :
  Inv X `h σ `aoL `lt/\∀b∈fp,`aoM:=by
 have ne:∀b∈fp,b≠`_:=λb hb=>B3 (hlt b hb)
 have fr:∀b∈fp,`aoM:=λb hb=>by rw[m9 (ne b hb)];exact(`lA).1
 have I1:Inv X `h σ `aoL `aoN :=
  `kY (`n2) `a_ ⟨`vZ,[u,w],`X rx (`X ry `J),`LP⟩
 refine⟨Inv.turnedL (s:=`aoN) (t':=t') (fp:=fp) I1 (λb hb=>⟨fr b hb,(`lA).2⟩) λb o hb e=>?_,fr⟩;rcases Heap.get?_push_cases e with⟨rfl,rfl⟩|e
 ·exact hob
 ·exact k b o hb e
universe zz
noncomputable def Ite(K:`y)(a:`e):It :=
 ⟨`ac4,
   λi H v H'=>∃t x,v=`x t/\H t=`c/\H'=upd H t (`B [`o!,x])/\`ac5,
   `ac6⟩
theorem ew0{P:`ak}{w:`R}{x1}{e:`e}(hei:e≠it):Turn P w K (`mb elts x1 pos) (Ite K a) [e,it] e
  (λi h=>(∃old,IsEnum h e it i old)/\`ac7) where
 mem:=`bs
 obj:=λi h st c hc=>by
  obtain⟨⟨old,he⟩,⟨o1,e1,c1,d1⟩⟩:=st;simp only[`i6,`nf,`ng] at hc;rcases hc with rfl|rfl
  ·exact⟨_,he,λv z=>nomatch z⟩
  ·exact⟨_,e1,λv z=>by rw[d1] at z;cases z⟩
 keep:=λi h h' st k=>by
  obtain⟨⟨old,he⟩,h1⟩:=st;exact⟨⟨old,k e `aO _ he⟩,h1.at λo x=>k it `aO o x⟩
 item:=by
  intro X hP hw hK hc i pins s σ H E I hf st hg;subst hP hw hK;obtain⟨⟨old,he⟩,h1⟩:=st;obtain⟨xs,x,hq,hx⟩:=hg;obtain⟨us,rv,p1,z1⟩:=`ev;obtain⟨u,hu,ru⟩:=`M_;refine wpAny_pyNext_enum_item he h1 `vw (x:=u) `M0 hei λh' a1 a2 a3 a4 hk=>?_
  refine⟨_,rfl,wpAny_letOwnedTupleGo_enum (s:=`CF) a1 λJ b1 hs=>?_⟩;have le:=A8 he;obtain⟨o1,e1,_⟩:=id h1;have l1:=A8 e1;obtain⟨I1,fr⟩:=I.turnedNew (h':=J) (t':=`rM) (fp:=[e,it]) (x:=`o!) (u:=`d i `bu) hf `ag ru (λc hc=>by
   simp only[`i6,`nf,`ng] at hc;rcases hc with rfl|rfl<;>assumption) ((`hB _ (C4 le)).trans a3) (λc o hc x=>by
   simp only[`i6,`nf,`ng,`D_] at hc;exact(`hB _ hc.1).trans (hk c o hc.1 hc.2 x))
  exact⟨`hE,_,I1,rfl,⟨_,x,rfl,`rZ,rfl,`ac!⟩,⟨⟨_,by simpa using b1⟩,a2.at λo y=>(`hB it hei.symm).trans y⟩,fr⟩
 done:=by
  intro X hP hw hK hc i pins s σ H E I hf st hg;subst hP hw hK;obtain⟨⟨old,he⟩,h1⟩:=st;obtain⟨xs,hq,M⟩:=hg;obtain⟨us,rv,p1,z1⟩:=`ev;have l1:=`l4;refine wpAny_pyNext_enum_end `iR he h1 `vw `mV λh' hk=>⟨rfl,I.turnedL (t':=`bu) (fp:=[e,it]) hf λc o hc x=>?_⟩
  simp only[`i6,`nf,`ng,`D_] at hc;exact hk c o hc.2 x
 self:=λ_ _ _ _ _ st h=>by
  obtain⟨⟨old,he⟩,_⟩:=st;exact `aoO he h
theorem fh0:`d3 `jO=`a (`bh `jO):=`af
noncomputable def Uh0(K:`y)(ta:TA):TI:=fun σ H R=>ta σ H λvs H1=>∃a,vs=`jU/\`add/\R (Ite K a) H1
theorem Zl0{a:`G}{ta:TA}{p pos:Pos}(hg:`aoP)(hm:`aoQ)(ha:`adj)(hs:`BT:=by rfl) :
  PI X `aoR `aoS (Uh0 X.K ta):=by
 intro pins s σ H R I h;refine Call_ (wh0 I hg hm fh0 `adl);obtain⟨qa,e,⟨xs,h1⟩,q⟩:=q1;subst e;cases r1 with
 | cons r rr =>
  cases rr;obtain rfl:=r;obtain⟨us1,v1,p1,z1⟩:=I1.list h1;refine call_enumerate_list `vw λh' hz J M hk=>?_
  refine `aoO (s:={ s1 with heap:=h' }) hz ?_;refine⟨_,_,_,_,H1,rfl,`G2 (t':=`G3) hk,ew0 (C4 (b6 _)),⟨⟨_,hz⟩,J⟩,`f9,q⟩;simp only[`i6,`nf,`ng] at hb;rcases hb with rfl|rfl
  ·exact I1.fpOk (K2 _ 1) (`G4 (K2 _ 1))
  ·exact `uz
universe L2
namespace DL
open Spec PyProof.Rows L2
section
variable{a:`G}{p:Pos}
theorem Zz0{t:`e}{x y:V}{d e:D}(hn:¬B t)(ht:H t=`a `I6)(r1:`si)(r2:Rp K H B e y):Rp K H B (`B [d,e]) `jP:=by
 rw[W0];refine⟨t,`y8,rfl,⟨hn,ht⟩,?_⟩;rw[o9];refine⟨_,_,rfl,r1,?_⟩;rw[o9];exact⟨_,_,rfl,r2,`hn⟩
theorem c90(hm:`aoQ)(ha:`aiS)(hg:`aoP := by rfl)(hs:`BT:=by rfl) :
  PID X `aoR `aoS (ph0 gA):=.mk λB δ=>`vp (Zl0 hg hm `bn hs) fun σ H R ⟨`ap,en,e1,k⟩=>by
 unfold ph0 at e1;cases e2:`cM with
 | none=>rw[e2] at e1;cases e1
 | some ds =>
  rw[e2] at e1;simp only[`k] at e1;unfold jj0 at e1;split at e1<;>try cases e1
  rename_i ds;refine`aiT;rw[o9] at r;obtain⟨x,t,rfl,r1,r⟩:=r;rw[m5] at r;subst r;rw[Y7] at r1;obtain⟨q1,us,rfl,s1,t1⟩:=r1;have J:(ud0 ds).length=`kM:=by unfold ud0;simp[t1.length]
  refine⟨q1,rfl,⟨us,s1.to⟩,k _ H' s' ⟨`yo,λi H2 v H3 g2 y hi=>?_,`yo⟩⟩
  ·rw[J] at hi
   exact⟨us,us[i],`Q0,by simp[hi]⟩
  ·obtain⟨t,x,rfl,ht,rfl,hx⟩:=y
   rw[J,t1.length] at hi;obtain⟨x',e4,rx⟩:=t1.get (i:=i) (C3 hi);have ex:=hx us `Q0;rw[e4] at ex;cases ex;refine⟨Y8 ht,`B [`o!,ds[i]],by unfold ud0;simp[hi],λB' gB hb=>?_⟩;exact Zz0 (λz=>hb t z ht) n6 `sq (rx.mono gB)
  ·rw[J] at hi
   exact⟨us,`Q0,hi⟩
universe zz
section
mutual
theorem q10(hB:`aoT):∀(d:D) (v:V),`DR->Rp K H B' d v->`bN
 | `z,v,_,r=>by rw[V4] at r ⊢;exact r
 | `bk,v,_,r=>by rw[Z8] at r ⊢;exact r
 | `bL,v,_,r=>by rw[m8] at r ⊢;exact r
 | `bg,v,_,r=>by rw[Y0] at r ⊢;exact r
 | `iK,v,h,_=>by unfold tree at h;cases h
 | `k4,v,h,_=>by unfold tree at h;cases h
 | `k5,v,h,_=>by unfold tree at h;cases h
 | `bF,v,h,r=>by
  unfold tree at h;rw[W0] at r ⊢;obtain⟨a,xs,rfl,q,rs⟩:=r;refine⟨a,xs,rfl,?_,k80 hB ds xs h rs⟩;obtain⟨n,q⟩:=q;refine⟨`j4,q⟩;exact(hB a z).elim n λz=>z _ q
theorem k80(hB:`aoT):∀(ds:`f) (vs:`K),`Qs=`b->Rps K H B' ds vs->`Da
 | [],vs,_,r=>`aoU
 | `ae,vs,h,r=>by
  unfold trees at h;rw[`a?] at h;rw[o9] at r ⊢;obtain⟨x,t,rfl,r1,r2⟩:=r;exact⟨x,t,rfl,q10 hB d x h.1 r1,k80 hB ds t h.2 r2⟩
end
universe zz
theorem rr0{g:GE}(h:`b_):PD X e (zz0 g):=.mk λB δ pins s σ H Q I ⟨d,en,hq,k⟩=>by
 obtain⟨B',c1,c2,J⟩:=`sI;unfold zz0 at hq;cases e1:`l_ with
 | none=>rw[e1] at hq;cases hq
 | some x =>
  rw[e1] at hq
  by_cases hf:`ei x=`b
  ·simp only[`k,`vO] at hq
   cases hq;refine h B' `lZ `h s σ H Q I ⟨_,J,e1,λv H' s' r=>k v H' s' (q10 (`e1) _ _ hf r)⟩;rcases c2 a z with q|⟨i,d',h1,h2⟩
   ·exact `g?
   ·obtain⟨o,h3,a',e4,_,ro⟩:=`ox en.all h1
    rw[h2] at h3;cases h3;cases e4;exact `l λys z=>(ro.live.same s').nt ys z
  ·simp only[`k,`P6] at hq
   cases hq
universe DL
namespace DL
open Spec PyProof.Rows L2
@[simp] noncomputable def u60(ga gb gc:GE)(f f':`aZ):GE:=fun δ=>`u4 λx=>`CL λy=>(f x y).bind λt=>(asB t).bind λk=>if k=`b then (gc δ).bind λz=>f' y z else `p4
section
variable{a:`G}{ga gc:`bM}
theorem eu0{r r':R2}{f f':`aZ}(hf:Op2 K r f)(hf':Op2 K r' f'){δ:Ds}{σ:St}{Q:VK}(h:tD K B δ `aoV σ H Q):fo0 r r' (tD K B δ ga) (tD K B δ gb) (tD K B δ gc) σ H Q:=by
 obtain⟨d,en,h,k⟩:=h;unfold u60 at h;cases e1:`cV with
 | none=>rw[e1] at h;cases h
 | some x =>
  cases e2:`dc with
  | none=>rw[e1,e2] at h;cases h
  | some y =>
   rw[e1,e2] at h;simp only[`k] at h;cases e3:f x y with
   | none=>rw[e3] at h;cases h
   | some t =>
    rw[e3] at h;simp only[`k] at h;cases e4:asB t with
    | none=>rw[e4] at h;cases h
    | some kb =>
     rw[e4] at h;simp only[`k] at h;cases pi0 e4;refine`qa;refine hf H2 B v1 v2 x y _ _ `aik `sN r2 e3 `aoW
     rw[Z8] at r3;refine⟨kb,r3,?_⟩;cases kb with
     | false =>
      rw[`hb] at h ⊢;cases h;exact k _ H3 `Eg `yi
     | true =>
      rw[`bx] at h ⊢;cases e5:gc δ with
      | none=>rw[e5] at h;cases h
      | some z =>
       rw[e5] at h;simp only[`k] at h;refine⟨z,`Qq,e5,λv4 H4 s4 r4=>?_⟩;exact hf' H4 B v2 v4 y z d _ ((`Qq).same s4).bad ((`aoX).same s4) r4 h λv' H5 s5 r5=>k v' H5 (((`I8).trans s4).trans s5) r5
theorem do0{op op':`f'}{r r':R2}{f f':`aZ}(ho:`pS)(hf:`vi)(ho':`adM)(hf':Op2 X.K r' f')(ha:`cF)(hb:`cG)(hc:PD X c gc)
  (hm:`adN:=by with_unfolding_all rfl):PTD X `adO (ob `aoV) :=
 .mk λB δ=>(b60 ho ho' `bn `eB (hc B δ) hm).imp fun σ H Q ⟨t,en,h,k⟩=>by
  unfold ob at h;cases e:u60 ga gb gc f f' δ with
  | none=>rw[e] at h;cases h
  | some d =>
   rw[e] at h;cases pi0 h;exact eu0 hf hf' `OX
open Builtin Builtin.Str Builtin.Int in
theorem U50{prog:`ak}{w:`R}{A:`bU}{E:`ao}{s:`p}{x:Str}{n:Int}{t u:Tok}{Q:`ao}(hr:(`D (n < `afk)||`D (n ≥ 2 ^ 63))=`n)
  (hb:¬n<1->`aoY->¬((`n5:Int) > (`xA - 1)/n)) (hl:¬n<1->`aoY->tooLong (`n5*`oE)=`n)
  (h:(if n<1 then Made.str Str.empty else if `X_=`b then Made.val `Bc else Made.str ⟨(`fQ `oE x.cps).foldl (·++·) #[]⟩).post Q s) :
  `o `aG A (`hG .Mult (`d n u) `Bc) Q E s :=
 PySem.lm_binaryOp_repeat_right (T := `hi) (U := `hd) `t (λs'=>`NU s' n u) `aoZ PySem.F.fills_int_mul PySem.noFill_str_mul Br0 PySem.lm_noRepeat_int PySem.repeat_str PySem.F.slot_int_index.lookup
  (`ao_ Br0 (`NU s n u) PySem.F.entry_int_mul (PySem.F.args_int_mul_2 _ _) (PySem.AutoIntG3.int___mul___int_str_0 n u x t)
   ⟨rfl,L7 _ x t,`ao_ PySem.F.slot_str_mul `aoZ PySem.F.entry_str_mul (PySem.F.args_str_mul_2 _ _) (gives_str_mul x n t u hr hb hl) h⟩)
universe zz
universe DL
namespace DL
open Spec PyProof.Rows L2
section
variable{σ:St}{δ:Ds}
theorem Env.fresh{p:`e}{o:HO}(e:`a9)(hp:`cO)(no:∀ob u,o≠`GG:=by exact λ_ _ z=>nomatch z)(nt:∀xs,o≠`c':=by exact λ_ z=>nomatch z):Env K `OT `hT σ δ:=by
 refine⟨`hZ (λv s h=>?_) `fP,`e1,`hR⟩
 ·cases s with
  | un=>trivial
  | ex c n=>obtain⟨u,q,r⟩:=h;exact`ao0
  | sh d=>obtain⟨u,q,r⟩:=h;exact`ao0
  | ow d =>
   obtain⟨a,q,hb,r⟩:=h;exact⟨a,q,`Ol,`b7 (λo ho=>by rw[m9 (V0 ho hp)];exact ho) `y9⟩
 ·rcases z with z|z
  ·have:=`gO a z
   by_cases q:a=p
   ·rw[q,n6];exact `ao1
   ·rw[m9 q];exact `C
  ·rw[z,n6];exact `ao1
universe zz
noncomputable def flats(ds:`f):`M:=`QK
noncomputable def up0(g:GE):GE:=fun δ=>`Pp λd=>match d with
 | `cz=>if `v_ then `p6 else `c
 | _=>`c
theorem ic0{g:GE}{δ:Ds}{ds:`f}(h:`l_=`p6)(hf:`v_):up0 g δ=`p6:=by
 unfold up0;rw[h,`k];simp only[];rw[`vO]
section
variable{g:GE}
theorem v30:∀{ds:`f} {xs:`K},`v_->`ahN
 | [],xs,_,r=>`aoU
 | `ae,xs,h,r=>by
  rw[o9] at r ⊢;obtain⟨x,r',e1,r1,r2⟩:=r;unfold flats at h;rw[`iU,`a?] at h;exact⟨x,r',e1,ou0 h.1 r1,v30 (ds:=ds) h.2 r2⟩
theorem fs0(h:`qc):PSD X `mU (T4 (pb0 g)):=.mk λH₀ B₀ δ pins s σ H D I ⟨r,en,hq,k⟩ =>
 O4 h `T `S `lZ `h s σ H D I `al9
theorem kd0(h:`qc):PDF X e (up0 g):=.mk λB δ pins s σ H Q I ⟨d,en,hq,k⟩=>by
 obtain⟨B',c1,c2,J⟩:=`sI;unfold up0 at hq;cases e1:`l_ with
 | none=>rw[e1] at hq;cases hq
 | some x =>
  rw[e1,`k] at hq;cases x with
  | lst ds =>
   simp only[] at hq
   by_cases hf:`v_
   ·rw[`vO] at hq
    cases hq;exact h B' `lZ `h s σ H Q I ⟨_,J,e1,λp H' hp s' r=>k p H' hp s' (by
     obtain⟨xs,e5,r5⟩:=r;exact⟨xs,e5,v30 hf r5⟩)⟩
   ·rw[`P6] at hq;cases hq
  | non=>cases hq
  | bl _=>cases hq
  | int _=>cases hq
  | str _=>cases hq
  | tup _=>cases hq
  | dct _ _=>cases hq
  | fn _ _=>cases hq
universe zz
universe DL
namespace DL
open Spec PyProof.Rows L2
@[simp] noncomputable def to0:`N
 | [`cc]=>match x.cps.toList with
  | [c]=>`a (`d (c:Nat))
  | _=>`c
 | _=>`c
theorem fu0:FnR K `adU to0:=by
 intro H B xs ds d Q hb r h k;unfold to0 at h;split at h
 ·rename_i x
  split at h
  ·rename_i c hc
   cases h;obtain⟨v,rfl,r1⟩:=`gj;rw[Y0] at r1;subst r1;obtain⟨⟨l⟩⟩:=x;have:l=[c]:=hc;subst this;exact⟨_,rfl,rfl,k _ H `b9 (by rw[m8];rfl)⟩
  ·cases h
 ·cases h
universe DL
namespace L2
open Spec PyProof.Rows
theorem m30:∀{ys:`g} {us:`Y},`aj8->∀(m:Nat) (y:Str),`Eh->∃t,us[m]?=`a (`s y t)
 | [],_,`J,m,y,h=>by cases h
 | `Ei,_,`c5,0,y,h=>by
  cases h;obtain⟨tk,rfl⟩:=r;exact`ao2
 | `Ei,_,`c5,m+1,y,h=>by
  obtain⟨tk,e⟩:=m30 t m y `ig;exact`ao3
theorem m00:∀ys:`g,(`x9 `sA).all xr0=`b
 | []=>rfl
 | `vs=>by
  rw[`L,`iU,m00 ys];rfl
universe L2
namespace PySem.SeqAt
open PySem.AutoSeq1 (wpAny_loadPart')
open MeetsSeq MeetsSeq2 MeetsSeq3 SeqRoads2
theorem qh0{M:`pK}{A:`bU}{E:`ao}{s:`p}(f:Nat->β->Sem (ForInStep β))(I:`j->β->`dD)(Q:β->`dD)
  (turn:∀x rest b s,I (x::`ax) b s->`o M A (f x b) (λr s'=>match r with|.yield b'=>I `ax b' s'|`yY b'=>Q b' s') E s)
  (fin:∀b s,I [] b s->Q b s) (lo hi:Nat) (b:β) (h:I `ao4 b s):`o M A (`ao5) Q E s:=by
 have e:(`ao5:Sem β)=`oJ `ao4 b f:=`bs
 rw[e];exact i8 f I Q turn fin _ b h
theorem tuple_indexAt(l:`e)(items:`aK)(n:Nat)(dd:`fe)(sl:`mX)(x:`E)(e:`aaV)(j:Nat)(hj:j<`dI)
  (hit:e items[j]=`b) (hno:∀m (hm:m<`dI),m<j->e items[m]=`n) :
  Meets (Builtin.«tuple.index» ⟨[`jS,x],[]⟩)
   (λA R s=>`cJ l=`a { cls:=`eJ,dict:=dd,data:=`aa',slots:=sl }/\(∀y,y∈`ap->EqAt `b! s y x (e y))/\R (.ok (`fy (`d j `bu))) `G') :=
 .of_wp λprog w A R s h=>by
  obtain⟨hp,g,d,tk,os⟩:=s;obtain⟨hl,he,h⟩:=h
  wp_walk using y3 hl,qh0 _ (λrest b s'=>b.1=`c/\s'=⟨hp,g,d,tk,os⟩/\∃i,i<=j/\`ax=`y' i (`dI - i)) _
  case turn =>
   rintro y rest b s' ⟨hb,rfl,i,hi,hr⟩;have J:i<`dI:=`F
   have e1:`dI - i=(`dI - `bE)+1:=`F
   rw[e1,`ao6] at hr;obtain⟨rfl,rfl⟩:=Q1 hr;have hy:`ap[y]?=`a items[y]:=by simp[J]
   rw[hy];refine A0 (he items[y] (Array.getElem_mem J) `jG w _ _ ?_)
   by_cases hyj:y=j
   ·subst hyj
    rw[hit]
    wp_walk
    exact`al'
   ·rw[hno y J `i]
    wp_walk
    exact⟨rfl,rfl,y+1,`F,rfl⟩
  case fin =>
   rintro b s' ⟨hb,rfl,i,hi,hr⟩;have:=B8 `ia hr;simp at this;omega
  case h =>
   exact⟨rfl,rfl,0,`db,`bs⟩
universe PySem.SeqAt
namespace L2
open Spec PyProof.Rows
noncomputable def Uk0(K:`y):`hh:=λx vs H Q=>∃(p:`e) (ys:`g) (z:Str) (j:Nat),`Ck/\vs=`xD/\SqT K H p `yy/\`ao7
theorem Zt0:MtR X "tuple.index" (Uk0 X.K):=by
 intro pins s σ H x vs v us Q I rx rv h;obtain⟨p,ys,z,j,rfl,rfl,hq,hj,U,q⟩:=h;cases rx;obtain⟨u,rfl,ru⟩:=`Cy;obtain⟨its,r,pl,hz⟩:=`ha;obtain⟨o,h1,h2,n,h3⟩:=id pl;have Z:`lI=`dJ:=`ao8
 have a0:j<`dJ:=`ao9;have M:∀m (hm:m<`gE),∃y t,`Eh/\`ao'=`s y t:=λm hm=>by
  have J:`Ej:=`ao!
  obtain⟨t,e⟩:=m30 r m ys[m] (C3 J);refine`ao?;have:`apa:=`Q1;rw[`C] at e;have e':=`kP
  simpa using e'
 obtain⟨c0,dd,dt,sl⟩:=o;obtain rfl:c0=`eJ := h2;obtain rfl:dt=`GC:=h3;obtain⟨t,rfl⟩:=ru;have O:∀(y:Str) (tk:Tok),`apb=`b↔y=z:=λy tk=>by
  show (eqV (`CP) `y!)=`b↔_;simp[eqV]
 refine P7 (T := `d1) `apc (show `jQ `cX `d1 from `apd) F.entry_tuple_index (F.args_tuple_index_2 _ _) (SeqAt.tuple_indexAt p `bP n dd sl (`s z t) (eqU `y!) j `m0 ?_ ?_) ⟨h1,λy hy=>xw0 (x:=`jR) `CA rfl r (m00 ys) y `ape,`apf⟩
 ·obtain⟨y,tk,e1,e2⟩:=M j `m0
  rw[e2,O];rw[hj] at e1;cases e1;rfl
 ·intro m hm Y
  obtain⟨y,tk,e1,e2⟩:=M m hm;rw[e2];cases hb:`apb with
  | false=>rfl
  | true=>exact `apg
noncomputable def ch0(K:`y)(mg:`bq)(x:Str)(ys:`g):Prop :=
 ∃(a:`e) (o:Obj) (its:`aK) (n:Nat),mg x=`lV/\`BK/\`Bf/\`Bg/\`Vy/\`GY/\`br `yy `xf
universe L2
namespace DL
open Spec PyProof.Rows L2
noncomputable def na0(ys:`g):`N
 | `xD=>`aph
 | _=>`c
section
variable{a:`G}{ga gb:GE}{gA:GA}{ys:`g}
theorem X30(hK:ch0 X.K `cq x ys)(ha:`Dm)(hg:`cE:=by rfl)(hd:`aY:=by decide)
  (hbase:`gF `I9 `Ek `A (`api)=`api:=by rfl)
  (hfew:(`qh
  &&`Pl)=`b:=by rfl)
  (hline:`gb:=by rfl) (hs:`eE:=by rfl) (hplain:`qi:=by rfl) :
  PD X (`bC (`gG `I9 `Ek `fL) [e] [] `cy) (oA gA (na0 ys)):=.mk λB δ=>by
 obtain⟨p,o,its,n,hm,hk,hc,M,J,O,hv⟩:=hK;refine(q60 F.plainAttrs_tuple `apc F.type_tuple_index Zt0 (h40 (v:=`eT) hg hm rfl hd) `bn `hj `k_ `hk hs `m_).imp fun σ H Q ⟨d,en,h,k⟩=>?_
 unfold oA at h;cases e2:`cM with
 | none=>rw[e2] at h;cases h
 | some es =>
  rw[e2,`k] at h;unfold na0 at h;split at h
  ·rename_i z
   cases e4:`apj with
   | none=>rw[e4] at h;cases h
   | some j =>
    rw[e4] at h;cases h;refine⟨`l (`m ⟨rfl,o,hk,hc,M⟩),_,en,e2,`Pm⟩;rw[o9] at r2;obtain⟨y,rr,rfl,r3,r4⟩:=r2;rw[m5] at r4;subst r4;rw[Y0] at r3;subst r3;obtain⟨hj,h1,h2⟩:=Bu0.mp e4;refine⟨p,ys,z,j,rfl,rfl,`l ⟨o,its,n,hk,hc,J,O,hv⟩,?_,`apk,k _ _ s2 `sq⟩
    ·rw[`Q2,`Q3 h1]
    ·have U:`Ej:=`F
     rw[`gM U] at he;exact `apl
  ·cases h
universe zz
universe DL
namespace DL
open Spec PyProof.Rows L2
structure But(p:`e)(H H':Hp):Prop where
 old:`apm
 nf:∀b o xs,`sG->`agg
instance{p:`e}{H H':Hp}:`dk (`El) (λ_=>`apm):=⟨But.old⟩
section
variable{σ:St}{δ:Ds}
theorem Gr.but{p:`e}(hb:B p)(h:`El):`ahB:=λb u n e=>⟨n,h b u (λz=>n (z▸hb)) e⟩
theorem Env.mutB(e:`a9){d:D}(hi:`vN)(hs:`gK)(hh:`Q4)(r:`ah2):`apn:=by
 obtain⟨a',h1,hb,_⟩:=`DD;rw[hs] at h1;cases h1;refine`alD
 ·have h0:`a4 (λ(o':`cr) (s:Sl)=>SlR K H' B o' s∨`PU) σ δ:=`hZ (λo' s h=>by
   cases s with
   | un=>exact `PV
   | ex c n=>obtain⟨v,e,r⟩:=h;exact `apo
   | sh d=>obtain⟨v,e,r⟩:=h;exact `apo
   | ow d =>
    obtain⟨b,e,M,r⟩:=h
    by_cases z:b=a
    ·subst z;exact `PW
    ·exact `m ⟨b,e,M,`b7 (λo h=>hh b o z h) `X2⟩) `fP
  have h1:=`alF;refine `alG;rcases h with h|⟨d',rfl,rfl⟩
  ·exact h
  ·rcases `DE with⟨rfl,e3,_⟩|⟨J,e3⟩
   ·cases e3;exact`yR
   ·exact `alH
 ·by_cases z':b=a
  ·subst z';exact `m'
  ·cases q:H b with
   | none=>exact `I q (`PX)
   | some o=>exact(`PX).keep λo h=>hh b o z' h
 ·have q1:`alI:=by
   rcases `fu with⟨rfl,_,_⟩|⟨_,h⟩
   ·exact`DF
   ·exact`DG
  have q2:`alJ:=by
   rcases `i4 with⟨rfl,_,_⟩|⟨_,h⟩
   ·exact`DF
   ·exact`DG
  obtain⟨d1,q1⟩:=q1;obtain⟨d2,q2⟩:=q2;exact `alK
theorem EnvS.mutB(en:`b')(b1:`i1)(b2:`i2){d:D}(hi:`vN)(hs:`gK)(hh:`Q4)
  (env:`apn):`cf K `T `S H' σ `l2:=by
 have h0:=`alL;have J:i<`vf:=`Mo;refine`alM
 ·have:`j':=λz=>by rw[z,h0] at h;cases h
  exact hh _ _ `C `alN
 ·by_cases z:b=a
  ·obtain⟨a',e1,_,ro⟩:=`alO
   rw[hs] at e1;cases e1;rw[z] at h;exact `alP
  ·exact `yq b ob xs (hh.nf b ob xs z h)
 ·rcases `fu with⟨rfl,_,_⟩|⟨_,h⟩
  ·rw[hs] at h2;cases h2;exact h0
  ·exact `alQ
universe zz
universe DL
namespace L2
open Spec PyProof.Rows PySem.W
noncomputable def Te0(td ty tx:TE):TE:=fun σ H Q=>td σ H λx H1=>∃a,`ew/\IsD H1 a/\ty σ H1 λy H2=>tx σ H2 λz H3=>∃kvs k,H3 a=`Ho/\y=kV k/\`vH /\
 (∀v,`hV=`cb->Q v H3)/\(`Q5->Q z (upd H3 a (.dK (`j8 kvs k z))))
section
variable{f:`G}{tx:TE}
theorem Uz0{σ:St}{s:`p}{k:Key}{r:`E}{A:`bU}{E:`ao}{Q:`ao}(I:`w)(e:`vG)(ry:`ak')(rv:`cI v r)(l:`vH)
  (h1:∀x,`hV=`cn->∀w' s',`Dv->`cI x w'->Q w' s') (h2:`Q5->∀s',Inv X `h σ (`PE) s'->Q r s') :
  `o `ac A (`d! (`fx "dict.setdefault") [`dp,u,r]) Q E s:=by
 obtain⟨z,hd,vs,rel,dd⟩:=`ali;have hz:`alj:=`alk
 have hv:=`It;refine call_meetsIn Bv0 `yP PySem.F.entry_dict_setdefault (PySem.F.args_dict_setdefault_3 _ _ _) (kt_meets_setdefault (`alv) a `vJ hd r) ⟨vs,dd,hz,λw hw=>?_,λhn h' J hs=>?_⟩
 ·rw[hw] at hv
  cases e1:`hV with
  | none=>rw[e1] at hv;exact hv.elim
  | some x=>rw[e1] at hv;exact h1 x e1 _ _ (`dq) hv
 ·rw[hn] at hv
  have e1:`Q5:=by
   cases e1:`hV with
   | none=>rfl
   | some x=>rw[e1] at hv;exact hv.elim
  have hl:`PJ:=`PK
  have he:`PH:=`PL
  exact h2 e1 _ (`alm)
theorem X80(ho:`DB)(he:PE X e ty)(hf:PE X f tx)(m:M2 X o `Em `fL e f `cy):PE X (`bC (`gG o `Em `fL) `oC [] `cy) (Te0 td ty tx):=by
 intro pins s σ H Q I h;refine wpAny_Call_method m.base m.few m.line PySem.F.plainAttrs_dict Bv0 PySem.F.type_dict_setdefault (thn `xI λu s1 ⟨x,H1,I1,rx,a,ex,d,q1⟩=>?_);subst ex;cases (show u=`j6 from rx);obtain⟨t1,t2,_⟩:=Wv0 I1 d;refine⟨t1,t2,?_⟩;rw[m.trees];refine x9 rfl (`afT (L5 (thn (he `h s1 σ H1 _ I1 q1) λiv s2 ⟨y,H2,I2,ry,q2⟩=>L5 (thn (hf `h s2 σ H2 _ I2 q2) λfv s3 ⟨z,H3,I3,rz,kvs,k,ea,ey,l,q3,q4⟩=>P3 ?_))));subst ey;exact Uz0 I3 ea ry rz l (λx ex w' s4 I4 r4=>⟨x,H3,I4,r4,q3 x ex⟩) λen s4 I4=>⟨z,_,I4,rz,q4 en⟩
universe zz
universe L2
namespace DL
open Spec PyProof.Rows L2
noncomputable def p60(i:Nat)(gk g:GE):GX:=fun δ=>`akC λpr=>`ni λdk=>`cT λd=>`Q6 λq=>if `QH<`P then (if `D3=`b then (zk0 pr.1 pr.2 q).map λr=>(r,δ) else `a (d,`QJ)) else `c
section
variable{a f:`G}{ga gb g:GE}
theorem Zj0(hu:`ft)(ha:`cF)(hb:`cG)(hm:`rC `pR b=`n:=by first|rfl|with_unfolding_all rfl):PD X (`rD a [`pR] [b] pos) (o2 ga gb (yn0 `b)):=.mk λB δ=>(Xx0 (d20 hu `bn `eB) hm).imp fun σ H Q ⟨t,en,h,k⟩=>by
 unfold o2 at h;cases e1:`cV with
 | none=>rw[e1] at h;cases h
 | some x =>
  cases e2:`dc with
  | none=>rw[e1,e2] at h;cases h
  | some y =>
   rw[e1,e2] at h;simp only[`k] at h;refine`qa;cases y<;>simp only[yn0] at h<;>try cases h
   rename_i ks ds;cases ks with
   | inl ks =>
    simp only at h;cases e3:M6 x with
    | none=>rw[e3] at h;cases h
    | some q =>
     rw[e3] at h;simp only[`gc,`DP] at h;cases h;rw[o40] at r2;obtain⟨p,xs,rfl,_,hp,hl,rr⟩:=r2;have:=v00 e3 r1;subst this;refine⟨p,_,rfl,`QE,?_⟩;rw[`D1];exact `app
   | inr ks =>
    simp only at h;cases e3:u50 x with
    | none=>rw[e3] at h;cases h
    | some q =>
     rw[e3] at h;simp only[`gc,`DP] at h;cases h;rw[nc0] at r2;obtain⟨p,xs,rfl,_,hp,hl,rr⟩:=r2;obtain⟨b,rfl,hb⟩:=`anH;refine⟨p,_,rfl,`QG,?_⟩;rw[`D1];exact `app
theorem Vm0(i:Nat)(h0:PD X e g0)(h:PD X f g)(hN:`cD:=by rfl)(hv:`fi:=by first|exact `b8|exact `gh|exact `gi)(hd:`aY:=by decide)(hcd:`fl:=by decide)
  (hbase:`gF `eh `Em `A `sO=`sJ:=by rfl)
  (hfew:(`alw
  &&`alx)=`b:=by rfl)
  (hline:`gb:=by rfl) (htrees:`aly:=by rfl) :
  PX X (`bC (`gG `eh `Em `fL) `oC [] `cy) (p60 i g0 g):=.mk λH₀ B₀ δ pins s σ H Q I ⟨r,en,e1,k⟩=>by
 unfold p60 at e1;obtain⟨B,b1,b2,env⟩:=`ba;cases e2:`yE with
 | none=>rw[e2] at e1;cases e1
 | some pr =>
  cases e4:g0 δ with
  | none=>rw[e2,e4] at e1;cases e1
  | some dk =>
   cases e3:`al with
   | none=>rw[e2,e4,e3] at e1;cases e1
   | some d =>
    cases e5:`sV with
    | none=>rw[e2,e4,e3] at e1;simp only[`k] at e1;rw[e5] at e1;cases e1
    | some q =>
     rw[e2,e4,e3] at e1;simp only[`k] at e1;rw[e5] at e1;simp only[`k] at e1;split at e1
     ·rename_i hz
      have hi:=ix0 e2;obtain⟨p,M,hb,xs,hx,hl,rx⟩:=`i5;have hl:`QH=`av:=hl;refine X80 `kf (h0 B δ) `bT ⟨`hj,`k_,`hk,htrees⟩ `h s σ H Q I ⟨_,M,p,rfl,`m ⟨_,`m hx⟩,dk,env,e4,λiv H1 s1 r1=>⟨d,`h_,e3,λfv H2 s2 r2=>?_⟩⟩;have:=v00 e5 r1;subst this;have J:=`j0;refine⟨_,q,J _ _ hx,rfl,`XK,λv U=>?_,λhn=>?_⟩
      ·have hk:`D3=`b:=by
        rw[← `apq,U];rfl
       rw[`H hk] at e1;obtain⟨w,hw,e1⟩:=Y2.mp e1;cases e1;obtain⟨v',Y,rv⟩:=(zt0 rx).1 w hw;rw[U] at Y;cases Y;exact k v H2 (`j! (`su J) b1 b2 (`j2 J) (`l7 J))
      ·have hk:`D3=`n:=by
        rw[← `apq,hn];rfl
       rw[hk,`hr] at e1;cases e1;obtain⟨ys,hy,a0,a1,Z⟩:=rt0 (q:=q) (v:=fv) hl;have rr:Rps X.K H2 B `IU ys:=by
        unfold J9;rw[hk,`hr,Z hk];exact `l8 (`IC J) r2
       rw[hy];have O:Env X.K (upd H2 p `anO) B σ (`QJ):=(`j2 J).mut hi M ⟨ys,n6,a0,rr.mono `hY⟩;exact k _ _ (`j! (`yU J b1 b2 hi M O) b1 b2 O (r2.mono `hY))
     ·cases e1
universe zz
universe DL
namespace L2
open Spec PyProof.Rows PySem.W
theorem uh0:`d' X `NQ `apr:=by
 intro pins s σ H xs us Q I r h;obtain⟨p,kvs,rfl,hq,q⟩:=h;obtain⟨u,rfl,rx⟩:=`kW;cases rx;have hn:=vu0;obtain⟨z,hd,vs,rel,dd⟩:=lg0 `bQ hq;have hl:=`Xg;exact call_len_dict hd dd `i ⟨`d `gq,H,`dq,⟨`rM,by rw[hl]⟩,q⟩
universe L2
namespace DL
open Spec PyProof.Rows L2
noncomputable def zl0:`N
 | [`bv `sk _]=>`a (`d `eb)
 | _=>`c
theorem rk0:FnR K `apr zl0:=by
 intro H B xs ds d Q hb r h k;unfold zl0 at h;split at h
 ·cases h
  obtain⟨v,rfl,r1⟩:=`gj;rw[o40] at r1;obtain⟨p,ys,rfl,_,hp,hl,rr⟩:=r1;refine⟨p,_,rfl,hp,`Dl⟩;rw[m8,`kg,← hl,`y0]
 ·cases h
universe DL
namespace L2
open Spec PyProof.Rows ZipL DL
section
variable{s:`p}
theorem Inv.laidM{l:`qr}{t':Nat}(I:`w)(k:`Mk)
  (hl:∀p∈l,`_<=p.1/\∃xs,(p.2=`c'/\`b3 `aU X.w H h' p.1 `nL)∨(p.2=`cu/\`b3 `aU X.w H h' p.1 `jL)):Inv X `h σ `sT `lt:=by
 have J:∀b,b<`_->`QX=H b:=λb hb=>qv0 λp hp z=>by
  have:=(hl p hp).1;rw[z] at this;exact D0 _ (B0 hb `C)
 refine I.un ⟨`abv,`abw,λb u q n _=>by rw[J b (A8 q)];exact n,`abx,λb xs q=>`aps,
  λb u xs q=>`aps,λb ps q=>⟨#[],by rw[`X4,q];simp⟩⟩ `Mj
 rcases sz0 e with⟨p,hp,rfl,rfl⟩|e'
 ·obtain⟨_,xs,⟨ex,ok⟩|⟨ex,ok⟩⟩:=hl p hp
  ·rw[ex]
   exact ok
  ·rw[ex]
   exact ok
 ·exact(`bQ b u e').stay `abp (λc q=>`Q7) (λc xs q=>`Q7) λc ob u' q=>`Q7
universe zz
universe L2
namespace DL
open Spec PyProof.Rows L2
noncomputable def isLs(H:Hp)(a:`e):Prop:=∃xs,`HI
theorem isLs.nt(h:isLs H a):`XZ:=by
 obtain⟨xs,h|⟨o,h⟩⟩:=h<;>intro ys z<;>rw[h] at z<;>cases z
theorem isLs.nb(h:isLs H a):`hQ:=by
 obtain⟨xs,h|⟨o,h⟩⟩:=h<;>rw[h]
 ·exact⟨`du,`C5,λ_ z=>nomatch z⟩
 ·exact⟨`du,(λ_ _ z=>by cases z;exact`ag),λ_ z=>nomatch z⟩
theorem isLs.new{p:`e}(s:`aD)(sq:SqL' K H' B p xs)(_:`En->B p∨`En):(H' p=`xB∨`En)/\(`cO∨`En):=by
 obtain⟨nb,h⟩:=sq.at;refine⟨h.imp id λ⟨o,h⟩=>⟨xs,`l ⟨o,s.nf _ _ _ h⟩⟩,?_⟩;cases e:H p with
 | none=>exact `b4
 | some u =>
  right;have:=`C1;rcases h with h|⟨o,h⟩
  ·rw[h] at this;cases `C;exact⟨xs,`m8⟩
  ·rw[h] at this;cases `C;exact⟨xs,`l ⟨o,e⟩⟩
noncomputable def p20:Sl->`M
 | .un=>`b
 | `lR=>`ei d
 | _=>`n
noncomputable def restOk(i:Nat)(δ:Ds):`M:=(`a1 i .un).all p20
theorem ta0{δ:Ds}{s:Sl}(h:`X5)(ne:j≠i)(e:`jX=`g_):`apt:=by
 unfold restOk at h;rw[`nj] at h;refine h s (D4 (i:=j) ?_);rw[`hC `KT];exact e
noncomputable def f00(i:Nat):Res->`ol
 | `x5=>match `bw with
  | `a (.sh `sW)=>if `apu then `a (.nx (`a1 i (`Eo))) else `c
  | _=>`c
 | .rt d=>`lW
 | _=>`c
noncomputable def li0(i:Nat)(G:GS):GS:=fun δ=>match `bw with
 | `a (`Eo)=>if `apu then (G `v0).bind (f00 i) else `c
 | _=>`c
noncomputable def k90:`an->`M
 | []=>`b
 | p::K=>(match p.2.cls with
  | `bh n=>!(n == `c9)
  | _=>`b)&&k90 K
theorem it0:∀{K:`an} {a:`e} {o:Obj},`Q8->`BK->`rn≠`cp
 | [],_,_,_,h=>nomatch h
 | (b,u)::K,a,o,h,e=>by
  unfold k90 at h;rw[`a?] at h;rw[`fp] at e;split at e
  ·cases e
   intro z;rw[z] at h;exact `I h.1 `t
  ·exact it0 h.2 e
theorem script_at(hK:`Q8)(h:`n0):SqL' K H (`Q9) a xs:=by
 rcases h with h|⟨o,its,n,e,c,_⟩
 ·exact `m ⟨`GK,h⟩
 ·exact `I c (it0 hK e)
theorem co0{l:`N7}{n k:Nat}{q:`ak}{loose:`g}{XP:`A!}{YP:`A?}{d:DefRec}{K:`af?}{CX:CXT}{sp:`y->Sp}{x:Str}
  (hn:`Cz) (hn2:`pY) (hdf:`N1) (hr:`N4) (hY:`aga)
  (F:∀(w:`R) (mg:`bq) (fa:`e) (h:`Q),`r8 h->`N8->`N2 ->
   ∃fd:`ff,(`N5)/\∀base:`Q,`r8 `r->`uj->`ah `aM w `og mg `r CX k fa fd [x] (sp `og))
  (hsp:∀(w:`R) (H:Hp) (a:`e) (ns:`u),`uS->`agb->sp `og `jU H `CB `iQ)
  (hCX:∀(H:Hp) (s:`p) (e:`E) (s':`p),CX [] H s (`iQ) e s'->`bt):`agc :=
 Yt0 (K:=K) (CX:=λ_=>CX) (sp:=λw=>sp `og) hn hn2 hdf hr hY F (λw H a ns h1 _ h3=>hsp w H a ns h1 h3) λ_ H s e s'=>hCX H s e s'
universe DL
namespace L2
open Spec PyProof.Rows
noncomputable def SubO.ho:`co->HO
 | `cu=>`cu
 | `r2=>`r2
 | `lU=>`lU
theorem SubO.no_own(o:`co)(x:`e):o.ho≠`gr x:=by cases o<;>exact λz=>nomatch z
theorem SubO.no_tup(o:`co)(xs:`K):o.ho≠`c':=by cases o<;>exact λz=>nomatch z
theorem SubO.no_frz(o:`co)(ob:Obj)(u:HO):o.ho≠`GG:=by cases o<;>exact λz=>nomatch z
theorem SubO.no_tbl(o:`co)(ps:`aK):o.ho≠`GI:=by cases o<;>exact λz=>nomatch z
theorem yt0:∀{l:`pG} {k:`e} {v:`co},l.lookup k=`cb->(k,v)∈l
 | [],_,_,h=>by cases h
 | (k',v')::l,k,v,h=>by
  rw[`fp] at h;cases q:k==k' with
  | true =>
   rw[q] at h;cases h;rw[`Nx q];exact A6
  | false =>
   rw[q] at h;exact A5 _ (yt0 h)
noncomputable def opened(H:Hp)(sub:`pG):Hp:=λb=>match `i8 with
 | `ab=>`a o.ho
 | `c=>H b
noncomputable def closed(H:Hp)(a:`e)(sub:`pG):Hp:=λb=>if b=a then `v1 else match `i8 with
 | `a _=>`ll
 | `c=>H b
section
variable{P:`ak}{w:`R}{h:`Q}
theorem HOk.opened(x:`dU)(ha:H a=`v1)(hin:`Ep)(hdx:`apv):HOk P w (L2.opened H sub) h:=λb u e=>by
 obtain⟨_,all⟩:(`Bk)/\∀p∈sub,`abf:=x a _ ha;unfold L2.opened at e;cases l:`i8 with
 | some o =>
  rw[l] at e;have e:=`kP;subst e;have m:=yt0 l;obtain⟨_,q⟩:=all _ m;cases o with
  | lst xs=>exact q
  | dK kvs=>exact q
  | ins C dx fs =>
   obtain⟨rfl,d,z,ne,e,r⟩:=q;refine⟨?_,z,ne,e,r⟩;unfold L2.opened;rw[hdx _ C dx fs m];exact d
 | none =>
  rw[l] at e;have J:`j':=λz=>by rw[z] at l;rw[l] at hin;cases hin
  refine`L_ (`nS) (λc q=>?_) (λc xs q=>?_) λc ob u' q=>?_
  ·unfold L2.opened
   cases lc:`nk with
   | none=>exact q
   | some o =>
    rcases `Q' with z|z
    ·have z:c=a:=z
     rw[z,ha] at q;cases q
    ·have z:`Q!:=z
     rw[z] at q;cases q;exact `I rfl J
  ·unfold L2.opened
   cases lc:`nk with
   | none=>exact q
   | some o =>
    rcases `Q' with z|z
    ·have z:c=a:=z
     rw[z,ha] at q;cases q
    ·have z:`Q!:=z
     rw[z] at q;cases q
  ·unfold L2.opened
   cases lc:`nk with
   | none=>exact q
   | some o =>
    rcases `Q' with z|z
    ·have z:c=a:=z
     rw[z,ha] at q;cases q
    ·have z:`Q!:=z
     rw[z] at q;cases q
theorem SubO.there{b:`e}(o:`co)(x:`b3 P w H h b o.ho):∃ob,`lm=`Bo:=by
 cases o with
 | lst xs=>obtain⟨_,_,_,_,e⟩:=x;exact`Cn
 | dK kvs=>obtain⟨_,_,_,_,_,_,_,e,_⟩:=x;exact`Cn
 | ins C dx fs=>obtain⟨_,_,_,e,_⟩:=x;exact`Cn
theorem HOk.closed(x:`dU)(ha:`Ep)(hs:∀p∈sub,`rq=`a p.2.ho)(hi:∀p∈sub,`apw):HOk P w (`y? H a sub) h:=λb u e=>by
 have inS:∀{c:`e} {o:`co},`nk=`ab->H c=`a o.ho:=λl=>hs _ `Q?
 have own:∀c y,H c=`L3->`Ra=`L3:=λc y q=>by
  unfold L2.closed;have hc:c≠a:=λz=>by
   cases l:`sY with
   | none=>rw[l] at ha;cases ha
   | some o=>rw[z,`mc] at q;exact `apx o y `qt
  rw[`uZ];cases l:`nk with
  | none=>exact q
  | some o=>rw[`mc] at q;exact `I `qt (`apx o y)
 have tup:∀c xs,H c=`ln->`Ra=`ln:=λc xs q=>by
  unfold L2.closed;have hc:c≠a:=λz=>by
   cases l:`sY with
   | none=>rw[l] at ha;cases ha
   | some o=>rw[z,`mc] at q;exact `apy o xs `qt
  rw[`uZ];cases l:`nk with
  | none=>exact q
  | some o=>rw[`mc] at q;exact `I `qt (`apy o xs)
 have frz:∀c ob u',H c=`L5->`Ra=`L5:=λc ob u' q=>by
  unfold L2.closed;have hc:c≠a:=λz=>by
   cases l:`sY with
   | none=>rw[l] at ha;cases ha
   | some o=>rw[z,`mc] at q;exact `apz o ob u' `qt
  rw[`uZ];cases l:`nk with
  | none=>exact q
  | some o=>rw[`mc] at q;exact `I `qt (`apz o ob u')
 by_cases hb:b=a
 ·subst hb
  have e:`y? H b sub b=`a!:=e;unfold L2.closed at e;rw[`bx] at e;have e:=`kP;subst e;refine⟨?_,λp hp=>`CK⟩
  ·cases l:`i8 with
   | none=>rw[l] at ha;cases ha
   | some o=>exact `apA
  ·by_cases z:p.1=b
   ·exact `fR
   ·refine `l ?_
    unfold L2.closed;rw[`m?];cases l:`sX p.1 with
    | none =>
     exact `I l (by
      intro l;rw[List.lookup_eq_none_iff] at l;have:=l p hp;simp at this)
    | some o=>rfl
  ·have q:=x p.1 _ (hs p hp)
   obtain⟨pa,po⟩:=p;cases po with
   | lst xs=>exact q
   | dK kvs=>exact q
   | ins C dx fs =>
    have J:pa=b:=hi _ hp C dx fs rfl;subst J;obtain⟨d,z,ne,e,r⟩:=q;exact⟨rfl,own _ _ d,z,ne,e,r⟩
 ·have e:`apB=`a!:=e
  unfold L2.closed at e;rw[`hl] at e;cases l:`i8 with
  | some o =>
   rw[l] at e;have e:=`kP;subst e;exact `apA
  | none =>
   rw[l] at e;exact`L_ (`nS) (λc q=>own c b q) (λc xs q=>tup c xs q) λc ob u' q=>frz c ob u' q
universe zz
section
variable{σ:St}{s:`p}
theorem Inv.view(I:`w)(no:∀b,`abN)(tp:`Bl)(fz:`L6)(tb:∀b ps,H b=`GJ->`eK=`GJ)
  (hok:HOk `aU X.w H' `aw):Inv X `h σ H' s :=
 ⟨I.ok,`kO,`f8,⟨`GO,`GP,λb o e n hx=>no b `BA,`Vm,λb xs e=>tp b xs (`GU b xs e),λb o u e=>fz b o u (`GV b o u e),λb ps e=>let ⟨m,q⟩:=`abQ;⟨m,tb _ _ q⟩⟩,
  `eM,`hA,no _ `fj,λx c e=>no _ `Bx,λp hp=>let ⟨e,n,r⟩:=`uo;⟨e,no _ n,r⟩,hok,`jJ⟩
universe zz
structure OpenOk(H:Hp)(a:`e)(sub:`pG):Prop where
 at':H a=`v1
 root:`Ep
 dx:`apv
structure CloseOk(H:Hp)(a:`e)(sub:`pG):Prop where
 root:`Ep
 at':∀p∈sub,`rq=`a p.2.ho
 ins:∀p∈sub,`apw
section
variable{σ:St}{s:`p}
theorem Inv.opened(I:`w)(o:`Eq H a sub):Inv X `h σ (`kj H sub) s:=by
 obtain⟨_,all⟩:(∃o,`Mp)/\∀p∈sub,`U'/\`w4 `aU X.w H `aw a p.1 p.2:=`bQ a _ o.at';have no:∀{b:`e} {so:`co},`i8=`zd->H b=`v1∨`w5:=λ{b so} l=>by
  rcases (all _ `Q?).1 with z|z
  ·have z:b=a:=z
   rw[z];exact `m o.at'
  ·exact `p_
 have J:∀b u,H b=u->u≠`v1->u≠`ll->L2.opened H sub b=u:=λb u q n1 n2=>by
  unfold L2.opened;cases l:`i8 with
  | none=>exact q
  | some so =>
   rcases no l with z|z
   ·exact `I (`Rb z) n1
   ·exact `I (`Rb z) n2
 exact I.view (λb q=>`Er) (λb xs q=>`Er) (λb o u q=>`Er) (λb ps q=>`Er) (I.hok.opened o.at' o.root o.dx)
theorem Inv.closed(I:`w)(c:`apC):Inv X `h σ (`h5 H a sub) s:=by
 have J:∀b u,H b=u->(∀so:`co,u≠`Es)->`apB=u:=λb u q n=>by
  have nl:∀so,`i8≠`zd:=λso l=>n so (`Rb (c.at' _ `Q?))
  unfold L2.closed;have hb:`j':=λz=>by
   cases l:`sY with
   | none=>have:=c.root;rw[l] at this;cases `C
   | some so=>exact nl so (z▸l)
  rw[`hl];cases l:`i8 with
  | none=>exact q
  | some so=>exact `I l (nl so)
 exact I.view (λb q=>J b _ q λso z=>nomatch z) (λb xs q=>J b _ q λso z=>so.no_tup xs `Rc) (λb o u q=>J b _ q λso z=>so.no_frz o u `Rc) (λb ps q=>J b _ q λso z=>so.no_tbl ps `Rc) (I.hok.closed c.root c.at' c.ins)
universe zz
section
variable{st:`bY}{t:TS}
theorem bg0(h:`fm):PE X e (fun σ H Q=>∃a sub,`apC/\te σ (`h5 H a sub) λv H'=>∃sub',`Eq H' a sub'/\Q v (`kj H' sub')):=λpins s σ H Q I ⟨a,sub,c,q⟩ =>
 thn (h `h s σ _ _ (I.closed c) q) λu s' ⟨v,H',I',r,sub',o,k⟩=>`apD
universe zz
universe L2
namespace DL
open Spec PyProof.Rows L2
noncomputable def j8(p:`e)(b:D):D:=`B [`d `o1,b]
theorem sx0{p:`e}{b:D}:RpL K H B (j8 p b) a↔a=p/\RpG K H B b a:=by
 constructor
 ·rintro (⟨d',e,h⟩|⟨ks,vs,e,_⟩|⟨x,ns,e,_⟩)
  ·cases e
   exact⟨rfl,h⟩
  ·cases e
  ·cases e
 ·rintro⟨rfl,h⟩
  exact `m ⟨b,rfl,h⟩
theorem RpG.less{d:D}(l:`m7)(h:`k2):RpG K H B' d a:=`PT (λ_ e=>e) (`eX l) h
inductive ResB where
 | nx (δ:Ds)|rt (d:D) (δ:Ds)
abbrev GSB:=`Rd
noncomputable def Uc0(K:`y)(H₀:Hp)(B₀:BS)(D:Ends):ResB->Prop
 | `x5=>`aiu
 | .rt d δ=>∀v σ H,`vP->D.rt v H
variable{Ga Gb:DL.GSB}
noncomputable def tDB(K:`y)(H₀:Hp)(B₀:BS)(δ:Ds)(G:GSB):TS:=λD σ H=>∃r,`b'/\`h4=`dK/\Uc0 K `T `S D r
structure PSB(X:Cx)(st:`bp)(G:GSB):Prop where
 mk::go:∀H₀ B₀ δ,PS X st `apE
structure PSsB(X:Cx)(st:`bY)(G:GSB):Prop where
 mk::go:∀H₀ B₀ δ,PSs X st `apE
noncomputable def j4(G:GS):GSB:=fun δ=>match `h4 with
 | `cA=>`cA
 | _=>`c
noncomputable def nilB:GSB:=`ahc
noncomputable def t8(G1 G2:GSB):GSB:=fun δ=>match `hM with
 | `cA=>`u5
 | r=>r
noncomputable def Y6(gx:GX):GSB:=fun δ=>`vA λr=>.rt r.1 r.2
noncomputable def ifB(gt:GB)(Ga Gb:GSB):GSB:=`ahd
section
variable{st:`bp}{as bs rest:`bY}{G1 G2:GSB}{gt:GB}
theorem Z5(h:`O0):PSB X st (j4 G):=.mk λH₀ B₀ δ pins s σ H D I ⟨r,en,e,k⟩=>by
 unfold j4 at e;split at e
 ·rename_i δ' e1
  cases e;exact h.go `T `S δ `h s σ H D I `yn
 ·cases e
theorem o5:`mi X [] `v:=.mk λH₀ B₀ δ pins s σ H D I ⟨r,en,e,k⟩=>by
 cases e;exact `aiC
theorem v8(h1:PSB X st G1)(h2:`mi X `ax G2):`mi X (st::`ax) (t8 G1 G2):=.mk λH₀ B₀ δ pins s σ H D I ⟨r,en,e,k⟩=>by
 unfold t8 at e;cases e1:`hM with
 | none=>rw[e1] at e;cases e
 | some r1 =>
  rw[e1] at e;cases r1 with
  | nx δ'=>exact xu0 `apF (h2.go `T `S δ') `h s σ H D I `O2
  | rt d δ'=>cases e;exact xu0 `apF zh0 `h s σ H D I `yn
theorem Z6(h:`nd):PSB X `mU (Y6 gx):=.mk λH₀ B₀ δ pins s σ H D I ⟨r,en,e1,k⟩=>by
 unfold Y6 at e1;cases e2:`eg with
 | none=>rw[e2] at e1;cases e1
 | some q =>
  rw[e2] at e1;cases e1;exact si0 `v2 `h s σ H D I ⟨q,en,e2,λv H' ev=>k v σ H' ev⟩
theorem T8(hc:`vn)(ha:`mi X as Ga)(hb:`mi X bs Gb):PSB X `O5 (ifB gt Ga Gb):=.mk λH₀ B₀ δ pins s σ H D I ⟨r,en,e1,k⟩=>by
 unfold ifB at e1;obtain⟨B,b1,b2,env⟩:=`ba;cases e2:`dt with
 | none=>rw[e2] at e1;cases e1
 | some t =>
  rw[e2] at e1;refine gy0 (hc B δ) `Et (`oQ `T `S δ) `h s σ H D I `aiK;cases t with
  | true=>exact`De
  | false=>exact`De
universe zz
noncomputable def spB(K:`y)(j:Nat)(f:`az):Sp:=λvs H Q _=>∃(B:BS) (ds:`f) (us:`K) (p:`e) (b b' r:D),`p?/\B p/\vs=`apG/\`v3/\Rps K H B ds us/\RpG K H B b p/\`Re /\
 ∀v H',`El->RpG K H' B b' p->Rp K H' B r v->`lu
structure FnB(P:`ak)(w:`R)(K:`y)(mg:`bq)(base:`Q)(x:Str)(k:Nat)(ps:`g)(j:Nat)(f:`az):Prop where
 ex:∃fa fd,`ah P w K mg `r CX0 k fa fd ps `apH/\`Pn
@[simp] noncomputable def K8(N:`g)(j:Nat)(p:`e)(b:D)(ds:`f):Ds:=`apI .sh++.ow (j8 p b)::(`apJ .sh++`fQ (`uI - (`zb)) .un)
theorem sd0{ds:`f}{p:`e}{b:D}{d:D}(hj:`v3)(h:`oM[i]?=`hX):i=j/\d=j8 p b:=by
 unfold K8 at h;have hl:(`apI `kG).length=j:=`apK
 have J:∀(l:`f) (i:Nat),(`ea `kG)[i]?≠`hX:=λl i z=>by
  rw[`ex] at z;cases q:l[i]? with
  | none=>rw[q] at z;cases z
  | some x=>rw[q] at z;cases z
 by_cases hi:i<j
 ·rw[`rR (by rw[hl];exact hi)] at h
  exact `apL
 ·rw[`n8 `apM,hl] at h
  cases q:i - j with
  | zero=>rw[q] at h;cases h;exact⟨`F,rfl⟩
  | succ n =>
   rw[q,`v4] at h
   by_cases hn:n<(`apJ `kG).length
   ·rw[`rR hn] at h
    exact `apL
   ·rw[`n8 `i,`kX] at h
    split at h<;>cases h
noncomputable def EndB(G:GSB)(δ:Ds)(j:Nat)(p:`e)(r b':D):Prop:=(∃δ',`h4=`Rf/\`Rg)∨(r=`z/\∃δ',`Eu/\`Rg)
section
variable{P:`ak}{w:`R}
theorem okB{st:`bp}{ps:`g}{k j:Nat}{f:`az}{G:GSB}(F:`Pa)(S:`CE)
  (body:∀(cdv:`E) (A:`bU) (outer:`O `Ia) (s:`p) (H:Hp) (E:XK),`W5->`mi `W6 `xP G)
  (hf:∀b ds r b',`Re->`zb=`ar/\`Rh) :
  `ah P w K mg `r CX0 `gS fa fd ps `apH:=by
 refine F.ok S (λvs H Q E ⟨B,ds,us,p,b,b',r,_,_,hv,_,hr,_,h,_⟩=>?_) (λcdv A outer s H vs Q E hr ⟨B,ds,us,p,b,b',r,hb,hp,hv,hj,rs,ro,h,q⟩=>?_)
 ·rw[hv,`W,`aH,`c_,`ey,hr.length]
  have:=(`apN).1;omega
 ·subst hv
  refine⟨_,(`d8 cdv A `bS s H E hr).go `Ev `apO `oM,?_⟩;have sm:`cU `Ev H:=⟨λb o e=>by
   by_cases z:b=p
   ·simp only[z,`dA] at e;cases e
   ·simp only[z,`b?] at e;exact e,λb o xs e=>by
   by_cases z:b=p
   ·exfalso
    rw[z] at e;exact `Xm o xs e
   ·simp only[z,`b?];exact e⟩
  have sb:∀{H':Hp},`cU `Ev H'->`El:=λs'=>⟨λb o z e=>s' b o `apP,λb o xs z e=>by have:=s'.nf b o xs e;simpa only [z,`b?] using `C⟩
  have U:(`za j).length=j:=by rw[`c_,`H3];omega
  have en:`cf K `Ev `apO H (`Ic N (`apG)) `oM:=by
   refine⟨sm,⟨B,`apQ,`e1,⟨?_,hb,λi j a O es h1 h2 _ _=>?_⟩⟩,λi O a h1 h2=>?_,`e1⟩
   ·by_cases q:a=p
    ·exact `l (by simp only[q,`dA])
    ·exact `P4
   ·unfold L2.start K8
    rw[`b0,`L,`aN,`fr,`W,`aH,`c_,`ey,`H3];refine `lY (v40 (N:=N) (rs.take j)) (`X ⟨p,rfl,hp,sx0.mpr ⟨rfl,ro⟩⟩ (`lY (v40 (N:=N) (rs.drop j)) ?_));rw[show min j `bf+(`bf - j+1)=`zb by omega];exact sh0 _
   ·rw[(sd0 hj h1).1,(sd0 hj h2).1]
   ·obtain⟨rfl,_⟩:=sd0 hj h1
    have:(`Ic N (`za i++`eT::`Ja i))[i]?=`a `Iw:=by
     unfold L2.start;rw[`b0,`aN,`n8 `eo,`U,U,`Ri];rfl
    rw[`C] at h2;cases h2;simp only[`dA]
   ·simp only[z.2,`b?]
    exact hb a z.1
  rcases (`apN).2 p with⟨δ',e,e'⟩|⟨rn,δ',e,e'⟩
  ·refine⟨_,en,e,λv σ' H' ev=>?_⟩
   obtain⟨B',c1,c2,J,rv⟩:=`k8;obtain⟨a,h1,hB,rl⟩:=J.at e';obtain⟨rfl,M⟩:=sx0.mp rl;have less:`apR:=λx z=>by
    by_cases q:x=a
    ·rw[q];exact hB
    ·exact `Rj
   exact q v H' (sb `Ew) (M.less less) (`Ex (`eX less))
  ·refine⟨_,en,e,fun σ' H' en'=>?_⟩
   obtain⟨B',c1,c2,J⟩:=en'.ex;obtain⟨a,h1,hB,rl⟩:=J.at e';obtain⟨rfl,M⟩:=sx0.mp rl;have less:`apR:=λx z=>by
    by_cases q:x=a
    ·rw[q];exact hB
    ·exact `Rj
   exact q `z H' (sb en'.same) (M.less less) (by rw[rn,V4])
universe zz
noncomputable def mkB(n:Nat)(N:`g)(j:Nat)(G:GSB)(b:D)(ds:`f):`au (D×D):=by
 classical exact if h:`v5/\`apS then `a (Classical.choose h.2) else none
theorem xk0{G:GSB}{b:D}{ds:`f}{r:D}(h:`Rk):`v5/\`Rh:=by
 unfold mkB at h;split at h
 ·rename_i hh
  have e:=`l9;have:=Bx0 hh.2;rw[e] at this;exact⟨hh.1,`C⟩
 ·cases h
theorem EndB.one{G:GSB}{δ:Ds}{p:`e}{r b r':D}(h:EndB G δ j p r b)(h':EndB G δ j p r' b'):r=r'/\b=b':=by
 have lb:∀{δ1:Ds},δ1[j]?=`apT->δ1[j]?=`Jd->b=b':=λe1 e2=>by
  rw[e1] at e2;have e8:=A3 e2;injection e8 with e9
  unfold j8 at e9;injection e9 with e10
  exact(Q1 (Q1 e10).2).1
 rcases h with⟨δ1,e1,e2⟩|⟨rn,δ1,e1,e2⟩<;>rcases h' with⟨δ2,e3,e4⟩|⟨J,δ2,e3,e4⟩<;>rw[e1] at e3
 ·have e5:=A3 e3
  injection e5 with e6 e7
  subst e7;exact⟨e6,lb e2 e4⟩
 ·cases e3
 ·cases e3
 ·have e5:=A3 e3
  injection e5 with e7
  subst e7;exact⟨rn.trans J.symm,lb e2 e4⟩
theorem Xl0{G:GSB}{b:D}{ds:`f}{r:D}(hl:`v5)(h:`Rh):`Rk:=by
 have hh:`v5/\`apS:=⟨hl,(r,b'),h⟩;unfold mkB;rw[dif_pos hh];obtain⟨e1,e2⟩:=(Bx0 hh.2 0).one (h 0);exact B8 `a (Prod.ext e1 e2)
noncomputable def vb0:`CO->`au (D×(`iX))
 | `apU=>`a (`Je,λd=>d)
 | `a (.ow (`tm))=>`a (`tm,λd=>d)
 | `apV=>`a (`zc,λd=>d)
 | `a (.ow (`B [`v6,b]))=>`a (b,λd=>`B [`v6,d])
 | _=>`c
theorem ux0{s:`CO}{bm:D×(`iX)}(h:vb0 s=`a bm):∃d0,s=`Xl/\∀(K:`y) (H:Hp) (B:BS) (a:`e),RpL K H B d0 a->RpG K H B bm.1 a/\∀(H':Hp) (B':BS) (b':D),RpG K H' B' b' a->RpL K H' B' (bm.2 b') a:=by
 unfold vb0 at h;split at h
 ·cases h
  exact`apW
 ·cases h
  exact`apW
 ·rename_i x ns
  cases h;refine⟨_,rfl,λK H B a r=>⟨?_,`X8⟩⟩;rcases r with⟨d',e,h⟩|⟨ks,vs,e,_⟩|h
  ·cases e
  ·cases e
  ·exact h
 ·rename_i p b
  cases h;refine⟨_,rfl,λK H B a r=>?_⟩;rcases r with⟨d',e,h⟩|⟨ks,vs,e,_⟩|⟨x,ns,e,_⟩
  ·cases e
   exact⟨h,λH' B' b' r'=>`m ⟨b',rfl,r'⟩⟩
  ·cases e
  ·cases e
 ·cases h
noncomputable def Y4(i:Nat)(gA:GA)(f:`az):GX:=fun δ=>`Ey λb=>`ge λds=>(f b.1 ds).map λr=>(r.1,`a1 i (.ow (b.2 r.2)))
structure PAB(X:Cx)(i j:Nat)(es:`a6)(gA:GA):Prop where
 mk::go:∀B δ,PA X es (fun σ H Q=>∃ds a,`yA/\`iY/\`gK/\∀vs H',`aD->Rps X.K H' B ds vs->`v3->Q `apX H')
section
variable{g:GE}{gA:GA}{p:Pos}
theorem pab(i:Nat)(ha:`vk)(hN:`u2:=by rfl)(hv:Vis `ru y:=by first|exact `b8|exact `gh|exact `gi)(hd:`ahD:=by decide)(hcd:(y==`Vs)=`n:=by decide)
  (hs:`dn (`Rl::es) `A=(`n,`bR (`Rl) `A)::`rA:=by rfl):PAB X i 0 (`Rl::es) gA:=.mk λB δ=>(G8 `kf `bn hs).imp fun σ H Q ⟨ds,a,en,h,hi,k⟩=>by
 exact⟨_,hi,ds,en,h,λvs H' s r=>k vs H' s r `u0⟩
theorem Q3(i:Nat){k:Nat}{ps:`g}{f:`az}(C:FnB `aU X.w X.K `cq `d4 x k ps j f)(hj:∀b ds q,`Jb=`yM->`v3)(hr:`Dn)(hk:k<=m)(ha:PAB X i j `fI gA)
  (hg:`cE:=by rfl) (hdb:`aY:=by decide) (he:`dW:=by rfl) (hpl:`hf:=by rfl) :
  PX X `rS (Y4 i gA f):=.mk λH₀ B₀ δ pins s σ H Q I ⟨r,en,e1,kk⟩=>by
 unfold Y4 at e1;obtain⟨B,b1,b2,env⟩:=`ba;obtain⟨fa,fd,F,hm,Z,hb⟩:=C.ex;cases eb:`me with
 | none=>rw[eb] at e1;cases e1
 | some bm =>
 rw[eb,`k] at e1;obtain⟨d0,hi,U⟩:=`v7;cases e2:`cM with
 | none=>rw[e2] at e1;cases e1
 | some ds =>
 rw[e2,`k] at e1;cases e3:f bm.1 ds with
 | none=>rw[e3] at e1;cases e1
 | some q =>
 rw[e3] at e1;cases e1;obtain⟨a,J,hB,ro⟩:=`i5;obtain⟨h1,h2⟩:=U _ _ _ _ ro;refine(om0 (E:=E0) F `Po hg hm Z hb `J gm0 `Ez hdb he hpl) `h s σ H Q I ⟨ds,a,env,e2,J,λvs H1 s1 r1 _=>?_⟩;show spB X.K j f (`apX++[]) H1 _ _;rw[`bc];refine⟨B,ds,vs,a,bm.1,q.2,q.1,(`h_).bad,hB,rfl,hj _ _ _ e3,r1,h1.same s1,e3,λv H' hh Y rv=>?_⟩;have O:`Q4:=⟨λb o n e=>hh b o n (s1 b o e),λb o xs n e=>`yr b o xs (hh.nf b o xs n e)⟩;have M:Env X.K H' B σ `apY:=env.mutB hi J O (h2 H' B q.2 Y);exact kk v H' (`j! (en.mutB b1 b2 hi J O M) b1 b2 M rv)
universe zz
noncomputable def putL(i:Nat)(g:GE):`aF:=λv δ=>match `bw with
 | `a (.ow (`B [`v6,`yb]))=>`cT λd=>`Dp λk=>if `eb<`P then `a (`a1 i (.ow (`B [`v6,`bv (`m (J8 ks k)) (J9 ks ds k v)]))) else `c
 | _=>`c
section
variable{g:GE}
theorem dw0(i:Nat)(hu:`ft)(h:`b_)(hN:`cD:=by rfl)(hv:`fi:=by first|exact `b8|exact `gh|exact `gi)(hd:`aY:=by decide)(hcd:`fl:=by decide)
  (ha:∀v,`anI=(do
   let ov ← `anJ
   let iv ← `D2
   `uu
   `uv
   `uw):=by intro _;rfl):PTG X `IS (putL i g):=.mk λH₀ B₀ d δ pins s σ H v u Q I r ⟨δ',en,e1,k⟩=>by
 unfold putL at e1;obtain⟨B,b1,b2,env,rv⟩:=`ba;split at e1
 ·rename_i p' ks ds hi
  cases e3:`al with
  | none=>rw[e3] at e1;cases e1
  | some dk =>
   rw[e3] at e1;simp only[`k] at e1;cases e4:`sV with
   | none=>rw[e4] at e1;cases e1
   | some q =>
    rw[e4] at e1;simp only[`k] at e1;split at e1
    ·rename_i hz
     cases e1;obtain⟨a,J,hb,⟨d',hq,hr⟩|⟨_,_,hq,_⟩|⟨_,_,hq,_⟩⟩:=`i5
     rotate_left
     ·cases hq
     ·cases hq
     cases hq;obtain⟨xs,hx,hl,rx⟩:=hr;have hl:`os:=hl;refine `anK;have:=v00 e4 r1;subst this;obtain⟨ys,hy,Y,O,U⟩:=`QI;refine`anL;have rr:Rps X.K H1 B (J9 ks ds q d) ys:=by
      unfold J9;cases hk:`kd with
      | true=>rw[`bx,O hk];exact `anM
      | false=>rw[`hr,U hk];exact `anN
     rw[hy];have M:Env X.K (upd H1 a (.dK (`QC))) B σ (`a1 i (.ow (`B [`zO,`apZ]))):=`DM hi J (`m ⟨`bv (`m _) _,rfl,`anP⟩);exact `anQ
    ·cases e1
 ·cases e1
universe zz
theorem y70{G:GSB}{b:D}{ds:`f}{q:D×D}(hn:j+1<=n)(h:`X7=`yM):`v3:=by
 have:=(xk0 (r:=q.1) (b':=q.2) h).1;omega
universe DL
variable{Ga Gb:DL.GSB}
namespace L2
open Spec PyProof.Rows
section
variable{st:`bp}{t:TS}
theorem G4(h:`fm):PE X e (fun σ H Q=>te σ H λv H'=>∃a sub,`Eq H' a sub/\Q v (`kj H' sub)):=λpins s σ H Q I q =>
 thn `Rm λu s' ⟨v,H',I',r,a,sub,o,k⟩=>`apD
theorem xb0(h:`fm):PE X e (fun σ H Q=>te σ H λv H'=>∃a sub,`Rn/\Q v `Ro):=λpins s σ H Q I q =>
 thn `Rm λu s' ⟨v,H',I',r,a,sub,o,k⟩=>⟨v,_,`Rp o,r,k⟩
universe zz
universe L2
namespace DL
open Spec PyProof.Rows L2
noncomputable def tq0(k:Nat):D:=`B `ap_
theorem pt0(k:Nat):O7 `ap_=`eZ:=by
 show (if ("@" : Str) = "@" then `a (k:Int).toNat else `c)=_;rw[`bx];rfl
mutual
noncomputable def nrf:`cl
 | `bF=>(`hN).isNone&&`Jf
 | _=>`b
noncomputable def xv0:`vB
 | []=>`b
 | `ae=>nrf d&&`Jf
end
section
theorem y50:`eY K H B as [] xs=(`pU):=by unfold RpNs;rfl
theorem zx0{d:D}{ds:`f}:`eY K H B as `p8 xs=`ahU:=by conv=>lhs;unfold RpNs
theorem ww0{ds:`f}:RpN K H B as `sd v=(`ahT):=by conv=>lhs;unfold RpN
theorem J4:∀{ds:`f} {xs:`K},`e_↔`a4 (RpN K H B as) ds xs
 | [],xs=>by
  rw[y50];constructor
  ·rintro rfl;exact `J
  ·intro h;cases h;rfl
 | `ae,xs=>by
  rw[zx0];constructor
  ·rintro⟨x,r,rfl,h1,h2⟩;exact `X h1 (`zk h2)
  ·intro h;cases h with
   | cons h1 h2=>exact⟨_,_,rfl,h1,`EA h2⟩
mutual
theorem fy0:∀{d:D} {v:V},`EB->`i_->`bN
 | `z,_,_,h=>`EC
 | `bk,_,_,h=>`EC
 | `bL,_,_,h=>`EC
 | `bg,_,_,h=>`EC
 | `bF,_,n,h=>by
  unfold nrf at n;rw[`a?] at n;rw[ww0] at h;rw[W0];rcases h with⟨k,a,e,_⟩|⟨_,a,xs,e,q,r⟩
  ·rw[e] at n;cases n.1
  ·exact⟨a,xs,e,q,td0 n.2 r⟩
 | `cz,_,_,h=>`Rq
 | `iZ,_,_,h=>`Rq
 | `p9,_,_,h=>`Rq
theorem td0:∀{ds:`f} {xs:`K},`Rr->`e_->`a3
 | [],_,_,h=>by rw[y50] at h;rw[m5];exact h
 | `ae,_,n,h=>by
  unfold xv0 at n;rw[`a?] at n;rw[zx0] at h;obtain⟨x,r,e,h1,h2⟩:=h;rw[o9];exact⟨x,r,e,fy0 n.1 h1,td0 n.2 h2⟩
end
mutual
theorem ri0:∀{d:D} {v:V},`EB->`bN->`i_
 | `z,_,_,h=>`ED
 | `bk,_,_,h=>`ED
 | `bL,_,_,h=>`ED
 | `bg,_,_,h=>`ED
 | `bF,_,n,h=>by
  unfold nrf at n;rw[`a?] at n;rw[W0] at h;rw[ww0];obtain⟨a,xs,e,q,r⟩:=h;refine `l ⟨?_,a,xs,e,q,jd0 n.2 r⟩;cases z:`hN with
  | none=>rfl
  | some k=>rw[z] at n;cases n.1
 | `cz,_,_,h=>`Rs
 | `iZ,_,_,h=>`Rs
 | `p9,_,_,h=>`Rs
theorem jd0:∀{ds:`f} {xs:`K},`Rr->`a3->`e_
 | [],_,_,h=>by rw[m5] at h;rw[y50];exact h
 | `ae,_,n,h=>by
  unfold xv0 at n;rw[`a?] at n;rw[o9] at h;obtain⟨x,r,e,h1,h2⟩:=h;rw[zx0];exact⟨x,r,e,ri0 n.1 h1,jd0 n.2 h2⟩
end
theorem RpN.same{d:D}(s:`aD)(h:`i_):`ap0:=RpN.mono `ow (`HP) h
theorem RpNs.same{ds:`f}(s:`aD)(h:`e_):`eY K H' B as ds xs:=`OH `ow (`HP) h
theorem RpNs.atI{ds:`f}{i:Int}{d:D}(r:`e_)(h:DL.atI ds i=`a2):∃v,`Pg=`cb/\`i_:=by
 have p:=`zk r;rw[dj0];unfold DL.atI at h ⊢;rw[← `zl p];cases e:ixN `bf i with
 | none=>rw[e] at h;cases h
 | some j =>
  rw[e,`k] at h;rw[`k];exact `DC p h
universe zz
theorem ol0:∀{as:`aB} {sos:`p'} {k:Nat} {c:`e} {so:`co},`m9->`k9->`k'->`ap1
 | [],_,_,_,_,_,h,_=>`fo
 | `dX,[],_,_,_,_,_,h=>`fo
 | x::as,y::sos,0,c,so,_,h1,h2=>by
  simp at h1 h2;subst h1 h2;rw[`cH,`fp,`Qo]
 | x::as,y::sos,k+1,c,so,nd,h1,h2=>by
  rw[`Ee] at nd;have h1':`k9:=`lj
  have J:`ap2:=`uf λz=>nd.1 (z▸D4 h1')
  rw[`cH,`fp,J];exact ol0 nd.2 h1' (`B5)
theorem yi0:∀{as:`aB} {sos:`p'} {c:`e},c∉as->(`cY).lookup c=`c
 | [],_,_,_=>`bs
 | `dX,[],_,_=>`bs
 | x::as,y::sos,c,h=>by
  rw[`i6] at h;have hne:`ap2:=`uf λz=>h (`fR)
  rw[`cH,`fp,hne];exact yi0 λz=>h (`p_)
theorem vi0(hl:`C4){c:`e}(h:c∈as)(nd:`m9):∃so,`ap1:=by
 obtain⟨k,hk,e⟩:=h7.mp h;exact⟨sos[k],ol0 nd (by rw[`gM hk,e]) (`Q1)⟩
theorem RpW.in0(h:`gg):a∈as:=D4 h.hd
theorem RpW.openOk(h:`gg):`Eq H a `ec:=by
 refine⟨`p!,?_,λb C dx fs hm=>yi0 ?_⟩
 ·obtain⟨so,e⟩:=vi0 `h6 h.in0 `e5
  rw[e];rfl
 ·obtain⟨k,hk,e⟩:=h7.mp hm
  rw[`ap3] at e;have J:k<`sl:=by rw[`kg] at hk;omega
  have e2:`WO:=by rw[`gM J];exact B8 `a (Q2 e).2
  obtain⟨n,_,hn⟩:=`ox h.all e2;unfold NodeOk at hn;split at hn
  ·obtain⟨xs,z,_⟩:=hn;cases z
  ·obtain⟨xs,z,_⟩:=hn;cases z
  ·obtain⟨C',M,O,xs,z,_,_,_,q,_⟩:=hn
   injection z with z1 z2 z3
   rw[z2];exact q
  ·exact hn.elim
theorem RpW.opAt(h:`gg){k:Nat}{c:`e}(h1:`k9)(h2:`k'):`kj H `ec c=`Es:=by
 unfold opened;rw[ol0 `e5 h1 h2]
theorem t30{b:`e}(h:b∉as):`kj H `ec b=H b:=by
 unfold opened;rw[yi0 h]
theorem mc0{Ho:Hp}(off:∀b,b∉as->Ho b=H b)(own:∀b∈as,`GE)(hl:`C4)(nd:`m9)(ha:a∈as):`h5 Ho a `ec=upd H a `ah_:=by
 funext b
 unfold closed upd
 by_cases hb:b=a
 ·rw[`m1,`m1]
 ·rw[`hl,`hl]
  by_cases hm:b∈as
  ·obtain⟨so,e⟩:=vi0 hl hm nd
   rw[e];rcases own b hm with z|z
   ·exact `ap4
   ·exact `sa
  ·rw[yi0 hm]
   exact off b hm
theorem qf0{Ho:Hp}(hd:`ahZ)(nd:`m9)(hl:`C4)(at':∀(k:Nat) c so,`k9->`k'->Ho c=`Es)(ins:`OL):`ki Ho a `ec:=by
 have ge:∀p∈`cY,∃k,`yd=`a p.1/\`HQ=`nO:=λp hp=>by
  obtain⟨k,hk,e⟩:=h7.mp hp;have J:=hk;rw[`kg] at J;rw[`ap3] at e;exact⟨k,`ap5,`ap5⟩
 refine⟨?_,`g',λp hp C dx fs e=>?_⟩
 ·obtain⟨so,e⟩:=vi0 hl (D4 hd) nd
  rw[e];rfl
 ·obtain⟨k,e1,e2⟩:=ge p hp
  exact at' k _ _ e1 e2
 ·obtain⟨k,e1,e2⟩:=ge p hp
  rw[e] at e2;rw[ins k _ _ _ e2,hd] at e1;exact(A3 e1).symm
theorem RpW.back(h:`gg):`ki `ze a `ec/\`h5 `ze a `ec=H:=by
 refine⟨qf0 h.hd `e5 `h6 (λk c so e1 e2=>`ap6) `vb,?_⟩;rw[mc0 (H:=H) (λb hb=>t30 hb) `ap7 `h6 `e5 h.in0]
 funext b
 unfold upd
 by_cases hb:b=a
 ·rw[`m1,hb,`p!]
 ·rw[`hl]
theorem RpW.same(s:`aD)(h:`gg):RpW K H' B ns a as sos:=⟨h.hd,`e5,s _ _ `p!,λb hb=>`Jg id λz=>⟨z.1,s _ _ z.2⟩,`h6,vd0 (λ_ _ r=>`b7 `ow) h.all,`vb⟩
theorem RpW.put(h:`gg)(hB:B a){k:Nat}{c:`e}{so':`co}(h1:`k9)(h2:`k')(r:`fN K H B as n' so')(hi:`ap8) :
  `ki `ap9 a `Jh/\`h5 `ap9 a `Jh=`ap' /\
   RpW K (`ap') B (ns.set k n') a as (`zf):=by
 have hl:`fO=(`zf).length:=by rw[`afq];exact `h6
 have hk:k<`sl:=(`eN h2).1;have ins:∀(j:Nat) C dx fs,(`zf)[j]?=`WN->j=0:=λj C dx fs e=>by
  rcases `de e with⟨rfl,e,_⟩|⟨_,e⟩
  ·exact hi C dx fs e
  ·exact `vb j C dx fs e
 refine⟨qf0 h.hd `e5 hl (λj d s e1 e2=>?_) ins,mc0 (`f9) `ap7 hl `e5 h.in0,h.hd,`e5,n6,`f9,hl,?_,ins⟩
 ·rcases `DE with⟨rfl,e,_⟩|⟨n,e⟩
  ·rw[h1] at e1
   cases e1;rw[n6,e]
  ·have:d≠c:=λz=>by
    obtain⟨g1,g2⟩:=`eN h1;obtain⟨g3,g4⟩:=`eN e1;exact n ((n9 `e5).mp (g2.trans (z▸g4.symm)))
   rw[`PY];exact h.opAt e1 e
 ·have:b≠c:=λz=>hb (z▸D4 h1)
  rw[`PY];exact t30 hb
 ·rcases `WP with z|z
  ·exact `fR
  ·by_cases q:b=a
   ·exact `g?
   ·exact `l ⟨z.1,by rw[m9 q];exact z.2⟩
 ·exact `m! (`ap!) k (vd0 (λ_ _ r=>`ap!) h.all)
noncomputable def dpN(i:Nat)(δ:Ds):`ok:=`Ey λb=>match b.1 with
 | `B (`bg::ns)=>`a ns
 | _=>`c
noncomputable def setN(i k:Nat)(n:D)(δ:Ds):Ds:=match `me with
 | `a (`zc,mk)=>`a1 i (.ow (mk (`B (`cc::ns.set k n))))
 | _=>δ
structure AtN(K:`y)(H:Hp)(B:BS)(σ:St)(δ:Ds)(i:Nat)(a:`e)(ns:`f)(as:`aB)(sos:`p'):Prop where
 sl:`gK
 bad:B a
 dp:`ap?
 w:`gg
section
variable{σ:St}{δ:Ds}
theorem Env.atN(e:`a9)(h:`ap?):∃a as sos,`v8:=by
 have h0:=h;unfold dpN at h;cases eb:`me with
 | none=>rw[eb] at h;cases h
 | some bm =>
  rw[eb,`k] at h;obtain⟨d0,hi,J⟩:=`v7;obtain⟨a,M,hB,ro⟩:=`DD;obtain⟨h1,_⟩:=J _ _ _ _ ro;split at h
  ·rename_i x ns' hbm
   cases h;rw[hbm] at h1;obtain⟨y,ms,e1,as,sos,w⟩:=h1;cases e1;exact⟨a,as,sos,M,hB,h0,w⟩
  ·cases h
theorem AtN.same(s:`aD)(h:`v8):AtN K H' B σ δ i a ns as sos:=⟨h.sl,h.bad,h.dp,h.w.same s⟩
theorem Env.setN(e:`a9)(h:`v8){k:Nat}{o:HO}{sos':`p'}(w:RpW K `gN B (ns.set k n') a as' sos') :
  ∃d0 d,`vN/\`aqa=`Xa/\`alC:=by
 have dp:=h.dp;unfold dpN at dp;cases eb:`me with
 | none=>rw[eb] at dp;cases dp
 | some bm =>
  rw[eb,`k] at dp;obtain⟨d0,hi,O⟩:=`v7;obtain⟨a',M,hB,ro⟩:=`DD;obtain⟨_,h2⟩:=O _ _ _ _ ro;split at dp
  ·rename_i x ns' J
   have dp:=A3 dp;subst dp;rw[h.sl] at M;cases M;obtain⟨bd,mk⟩:=bm;have J:bd=`B (`cc::ns'):=J;subst J;refine⟨d0,mk (`B (`cc::ns'.set k n')),hi,?_,e.mut hi h.sl (h2 _ _ _ ⟨x,_,rfl,as',sos',w⟩)⟩;unfold DL.setN;rw[eb]
  ·cases dp
universe zz
universe DL
namespace DL
open Spec PyProof.Rows L2
noncomputable def tN(K:`y)(B:BS)(δ:Ds)(i:Nat)(g:GE):TE:=fun σ H Q=>∃d a ns as sos,`a9/\`fq/\`v8/\∀v H',`aD->`ap0->`lu
structure PN(X:Cx)(i:Nat)(e:`G)(g:GE):Prop where
 mk::go:∀B δ,PE X e (tN X.K B δ i g)
noncomputable def th0(ns:`f):`HG
 | `bF=>`aqb `aqc
 | _=>`c
noncomputable def a80(ns:`f)(d y:D):`cL:=match d,y with
 | `bF,`dM=>(match `hN with
  | `eZ=>(match `mf with
   | `nl=>atI es z
   | _=>`c)
  | `c=>atI ds z)
 | _,_=>`c
noncomputable def s70(i:Nat)(ga gb:GE):GE:=fun δ=>`u4 λd=>`CL λy=>`k! λns=>a80 ns d y
noncomputable def Q8(i:Nat)(ga gb:GE):GE:=fun δ=>`u4 λd=>`CL λy=>`k! λns=>match `v9 with
 | `aqd=>(M6 y).bind `aqe
 | _=>`c
noncomputable def R7(i:Nat):GE:=fun δ=>(`ek).map λ_=>tq0 0
noncomputable def plN(g:GE):GE:=fun δ=>`cT λd=>if `EB then `a2 else `c
noncomputable def va0(i:Nat)(g:GE):GE:=fun δ=>`cT λd=>`k! λns=>match `v9 with
 | `nl=>`a (`d `fT)
 | _=>`c
section
variable{σ:St}{δ:Ds}
theorem RpW.node(w:`gg){d n:D}(r:`i_)(h:`v9=`r3):∃(k:Nat) (c:`e) (so:`co),v=`Bh/\`k9/\`k'/\`mf=`r3/\`OJ:=by
 unfold th0 at h;split at h
 ·rename_i ds
  cases e:`hN with
  | none=>rw[e] at h;cases h
  | some k =>
   rw[e,`k] at h;rw[ww0] at r;rcases r with⟨k',c,e1,e2,e3⟩|⟨e1,_⟩
   ·rw[e] at e1
    cases e1;obtain⟨so,hs,hn⟩:=`DC w.all h;exact⟨k,c,so,e3,e2,hs,h,hn⟩
   ·rw[e] at e1;cases e1
 ·cases h
theorem ws0{es:`f}(h:`fN K H B as (`s_) so):∃xs,so=`cu/\`eY K H B as es xs:=h
theorem km0{ds:`f}(h:`fN K H B as `zg so):`ahX:=h
universe zz
theorem jc0:∀{ks:`cZ} {ds:`f} {xs:`K} {q:T7},`e_->(∀d,`zh=`a2->∃v,`IP=`cb/\`i_)/\`anC
 | [],ds,xs,q,r=>⟨`aqf,`pd⟩
 | `eF,[],xs,q,r=>by
  rw[y50] at r;subst r;exact⟨`aqf,λh=>`fo⟩
 | `eF,`ae,xs,q,r=>by
  rw[zx0] at r;obtain⟨x,r',rfl,h1,h2⟩:=r;obtain⟨i1,i2⟩:=jc0 (ks:=ks) (q:=q) h2;rw[`cH];have hv:K4 ((k,x)::`sg r') q=if k=q then `cn else K4 (`sg r') q:=by
   unfold K4;rw[`yH]
   by_cases e:k=q
   ·rw[`dC,`bm e];rfl
   ·rw[`dl,`Bd]
  constructor
  ·intro d' h
   unfold zk0 at h;rw[hv]
   by_cases e:k=q
   ·rw[`dC] at h ⊢
    cases h;exact`C0
   ·rw[`dl] at h ⊢
    exact i1 d' h
  ·intro hl
   rw[hv];unfold K3;rw[`ga]
   by_cases e:k=q
   ·rw[`dC,`bm e];rfl
   ·rw[`dl,`Bd,`PA]
    exact i2 `HV
section
variable{a:`G}{p:Pos}{g ga gb:GE}
theorem R8(i:Nat)(hN:`cD:=by rfl)(hv:`fi:=by first|exact `b8|exact `gh|exact `gi)(hd:`aY:=by decide)(hcd:`fl:=by decide) :
  PN X i `jK (R7 i):=.mk λB δ=>`aii fun σ H Q ⟨d,a,ns,as,sos,en,h,at',k⟩=>by
 unfold R7 at h;rw[at'.dp] at h;cases h;refine⟨_,at'.sl,`Dl⟩;unfold tq0;rw[ww0];exact `m ⟨0,a,pt0 0,at'.w.hd,rfl⟩
theorem wd0(h:`aqg)(hdp:∀δ d,`fq->`Rt):PD X e (plN g):=.mk λB δ=>(`_z).imp fun σ H Q ⟨d,en,e1,k⟩=>by
 unfold plN at e1;cases e2:`al with
 | none=>rw[e2] at e1;cases e1
 | some d' =>
  rw[e2,`k] at e1;split at e1
  ·rename_i hn
   cases e1;have:=hdp δ _ e2;cases e3:`ek with
   | none=>rw[e3] at this;cases `C
   | some ns =>
    obtain⟨a,as,sos,at'⟩:=en.atN e3;exact⟨d,a,ns,as,sos,en,e2,at',λv H' s r=>k v H' s (fy0 hn r)⟩
  ·cases e1
theorem Xg0{δ:Ds}{d:D}(h:s70 i ga gb δ=`a2):`Rt:=by
 unfold s70 at h;cases e1:`cV with
 | none=>rw[e1] at h;cases h
 | some x =>
  rw[e1,`k] at h;cases e2:`dc with
  | none=>rw[e2] at h;cases h
  | some y =>
   rw[e2,`k] at h;cases e:`ek with
   | none=>rw[e] at h;cases h
   | some ns=>rfl
theorem yb0{δ:Ds}{d:D}(h:Q8 i ga gb δ=`a2):`Rt:=by
 unfold Q8 at h;cases e1:`cV with
 | none=>rw[e1] at h;cases h
 | some x =>
  rw[e1,`k] at h;cases e2:`dc with
  | none=>rw[e2] at h;cases h
  | some y =>
   rw[e2,`k] at h;cases e:`ek with
   | none=>rw[e] at h;cases h
   | some ns=>rfl
theorem Ut0(ha:`aqh)(hb:`cG)(hs:rz0 b:=by exact `i0):PN X i `pW (s70 i ga gb):=.mk λB δ =>
 (xb0 (ad0 (io0.or er0) `Ez (G4 (`oQ B δ)) hs)).imp fun σ H Q ⟨d,ad,ns,as,sos,en,h,at',k⟩=>by
  unfold s70 at h;cases e1:`cV with
  | none=>rw[e1] at h;cases h
  | some dx =>
  rw[e1,`k] at h;cases e2:`dc with
  | none=>rw[e2] at h;cases h
  | some y =>
  rw[e2,`k,at'.dp,`k] at h;refine`aqi;have J:=(`qu).same s2;obtain⟨c1,c2⟩:=`EE;refine`Ru;have O:=`oy;have M:=`j0;unfold a80 at h;split at h
  ·rename_i ds z
   rw[m8] at r2;subst r2;cases e3:`hN with
   | some kk =>
    rw[e3] at h;dsimp only at h;split at h
    ·rename_i es hes
     have hn:th0 ns `sd=`nl:=by show `aqb (`aqc)=_;rw[e3];exact hes
     obtain⟨k',c,so,rfl,f1,f2,f3,f4⟩:=`Ji O hn;obtain⟨xs,rfl,rx⟩:=`qv;obtain⟨w,w1,w2⟩:=rx.atI h;refine `m ⟨c,xs,z,w,rfl,rfl,`EF,w1,ad,`cY,c1,?_⟩;rw[c2];exact `aqj
    ·cases h
   | none =>
    rw[e3] at h;dsimp only at h;rw[ww0] at O;rcases O with⟨k',c,f,_⟩|⟨_,c,xs,rfl,q,rx⟩
    ·rw[e3] at f;cases f
    ·obtain⟨w,w1,w2⟩:=rx.atI h
     have hc:c∉as:=λz=>by
      rcases J.w.own c z with z|z
      ·exact(`ed M).bad c (z▸at'.bad) |>.nt xs q.2
      ·rw[q.2] at z;cases z.2
     refine `l ⟨c,xs,z,w,rfl,rfl,`m (`m (by rw[t30 hc];exact q.2)),w1,ad,`cY,c1,?_⟩;rw[c2];exact `aqj
  ·cases h
theorem O6(hu:`ft)(ha:`aqh)(hb:`cG)(hs:ky0 b:=by exact `i0):PN X i `pW (Q8 i ga gb):=.mk λB δ =>
 (xb0 (o90 hu `Ez (G4 (`oQ B δ)) hs)).imp fun σ H Q ⟨d,ad,ns,as,sos,en,h,at',k⟩=>by
  unfold Q8 at h;cases e1:`cV with
  | none=>rw[e1] at h;cases h
  | some dx =>
  rw[e1,`k] at h;cases e2:`dc with
  | none=>rw[e2] at h;cases h
  | some y =>
  rw[e2,`k,at'.dp,`k] at h;refine`aqi;have J:=(`qu).same s2;obtain⟨c1,c2⟩:=`EE;refine`Ru;split at h
  rotate_left
  ·cases h
  rename_i ks ds hn;cases e3:M6 y with
  | none=>rw[e3] at h;cases h
  | some q =>
  rw[e3,`k] at h;obtain⟨k',c,so,rfl,f1,f2,f3,f4⟩:=`Ji `sN hn;obtain⟨xs,rfl,hl,rx⟩:=km0 f4;obtain⟨v,M,rv⟩:=(jc0 rx).1 d h;have:=`QD;subst this;refine⟨c,v,rfl,by rw[← M];exact `IR (`zj),ad,`cY,c1,?_⟩;rw[c2];exact `QF
theorem no0(hm:`akq)(ha:`aqg)(hg:`akr := by rfl)(he:`eE:=by rfl)(hpl:`i3:=by rfl) :
  PD X `aks (va0 i g):=.mk λB δ=>(xb0 (p90 so0 hg hm L8 (G8 (G4 `Ez) yo0 he) `t `t he hpl)).imp fun σ H Q ⟨d,en,h,k⟩=>by
 unfold va0 at h;cases e1:`al with
 | none=>rw[e1] at h;cases h
 | some dx =>
 rw[e1,`k] at h;cases e2:`ek with
 | none=>rw[e2] at h;cases h
 | some ns =>
 rw[e2,`k] at h;obtain⟨ad,as,sos,at'⟩:=en.atN e2;refine⟨dx,ad,ns,as,sos,en,e1,at',`EG⟩;have J:=`qu;obtain⟨c1,c2⟩:=`EE;refine`Ru;split at h
 rotate_left
 ·cases h
 rename_i es hn;cases h;obtain⟨k',c,so,rfl,f1,f2,f3,f4⟩:=`Rv;obtain⟨xs,rfl,rx⟩:=`qv;refine⟨c,xs,rfl,`m (`EF),ad,`cY,c1,?_⟩;rw[c2];exact k _ H1 s1 (by rw[m8,`Rw])
universe zz
universe DL
namespace DL
open Spec PyProof.Rows L2
section
variable{σ σ':St}{δ:Ds}
theorem EnvS.takeL(en:`b')(b1:`i1)(b2:`i2)(e:`a9)(i:Nat){d:D}{p:`e}(hp:`cO)(s:`aD)
  (r:RpL K H' `hT d p):`alR:=by
 have g:`PZ:=`P_
 have J:`Dc:=`P0;have live:`alS:=λ{j d' b} h1 h2=>by
  obtain⟨a,q1,q2,q3⟩:=e.at h1;rw[h2] at q1;cases q1;exact `alT
 refine`alU
 ·rcases z with z|rfl
  ·exact b2 a z
  ·exact `l J
 ·refine `m! ⟨p,rfl,`bA,r⟩ i `alV
  cases sl with
  | un=>trivial
  | ex c n=>obtain⟨v,e,r⟩:=h;exact`vq
  | sh d=>obtain⟨v,e,r⟩:=h;exact`vq
  | ow d=>obtain⟨b,e,M,r⟩:=h;exact`alW
 ·rcases z with z|rfl
  ·exact`P1
  ·exact `m'
 ·rcases `fu with⟨rfl,_,_⟩|⟨n1,h1⟩
  ·rcases `i4 with⟨rfl,_,_⟩|⟨n2,h2⟩
   ·rfl
   ·rcases `de h3 with⟨_,e3,_⟩|⟨n3,_⟩
    ·cases e3
     rw[`DH] at h4;exact `alX
    ·exact `DI
  ·rcases `i4 with⟨rfl,_,_⟩|⟨n2,h2⟩
   ·rcases `de h4 with⟨_,e4,_⟩|⟨n4,_⟩
    ·cases e4
     rw[`qm] at h3;exact `alY
    ·exact `alZ
   ·rw[`qm] at h3
    rw[`DH] at h4;exact `OS
 ·rcases `fu with⟨rfl,_,_⟩|⟨n1,h1⟩
  ·rcases `i4 with⟨_,e3,_⟩|⟨n3,_⟩
   ·cases e3;exact J
   ·exact `DI
  ·rw[`qm] at h2
   exact `P2
universe zz
noncomputable def sj0:D->`Cf
 | `bF=>`hN
 | _=>`c
noncomputable def tu0(i:Nat)(go gv:GE):GX:=fun δ=>`v' λd=>`Rx λdv=>`k! λns=>`Ry λk=>match `mf with
 | `nl=>if nrf dv=`b/\`fT<`P then `a (`z,setN i k `aqk δ) else `c
 | _=>`c
section
variable{σ:St}{δ:Ds}
theorem RpW.nodeK(w:`gg){d n:D}{k:Nat}(r:`i_)(h:sj0 d=`eZ)(hn:`mf=`r3):∃(c:`e) (so:`co),v=`Bh/\`k9/\`k'/\`OJ:=by
 unfold sj0 at h;split at h
 ·rename_i ds
  rw[ww0] at r;rcases r with⟨k',c,e1,e2,e3⟩|⟨e1,_⟩
  ·rw[h] at e1
   cases e1;obtain⟨so,hs,hn⟩:=`DC w.all hn;exact⟨c,so,e3,e2,hs,hn⟩
  ·rw[h] at e1;cases e1
 ·cases h
theorem EnvS.setN(en:`b')(b1:`i1)(b2:`i2)(env:`a9)(s:`aD)(h:`v8){k:Nat}{c:`e}{so':`co}{n':D}(h1:`k9)(h2:`k')
  (r:`fN K H' B as n' so') (hi:`ap8) {d:D} {v:V} (rv:`HW) :
  ∃sub',`ki `aql a sub'/\EnvV K `T `S (`h5 `aql a sub') σ (`aqa) d v:=by
 have h':=`C7 s;obtain⟨p1,p2,p3⟩:=h'.w.put h.bad h1 h2 r hi;refine⟨_,p1,?_⟩;rw[p2];obtain⟨d0,d',M,e1,J⟩:=(`j2 s).setN h' p3;rw[e1];exact `j! (`yU s b1 b2 M h.sl J) b1 b2 J (`Ex (`yQ h.bad))
universe zz
section
variable{f:`G}
theorem is0(ho:`v!)(h1:PD X e g1)
  (hbase:`gF o `DL `A `nY=`lx:=by rfl)
  (hfew:(`qh
  &&`P8)=`b:=by rfl)
  (hline:`gb:=by rfl) (hs:`eE:=by rfl) (hplain:`qi:=by rfl) :
  PX X (`bC (`gG o `DL `fL) [e] [] `cy) (tu0 i go g1):=.mk λH₀ B₀ δ pins s σ H Q I ⟨r,en,e1,k⟩=>by
 unfold tu0 at e1;obtain⟨B,b1,b2,env⟩:=`ba;cases e2:`oO with
 | none=>rw[e2] at e1;cases e1
 | some d =>
 rw[e2,`k] at e1;cases e4:g1 δ with
 | none=>rw[e4] at e1;cases e1
 | some dv =>
 rw[e4,`k] at e1;cases e5:`ek with
 | none=>rw[e5] at e1;cases e1
 | some ns =>
 rw[e5,`k] at e1;cases e6:sj0 d with
 | none=>rw[e6] at e1;cases e1
 | some kk =>
 rw[e6,`k] at e1;split at e1
 rotate_left
 ·cases e1
 rename_i es hnode;split at e1
 rotate_left
 ·cases e1
 rename_i hz;cases e1;obtain⟨a,as,sos,at'⟩:=`Rz;refine xb0 (q60 b5 B10 B20 sv0 `RA (G8 (bg0 (h1.go B δ)) yo0 hs) `hj `k_ `hk hs `m_) `h s σ H Q I ⟨d,a,ns,as,sos,env,e2,at',`EG⟩;have J:=`qu;obtain⟨c,so,rfl,f1,f2,f4⟩:=`_A r1 e6 hnode;obtain⟨xs,rfl,rx⟩:=`qv;refine⟨a,`cY,`oN,`m ⟨rfl,xs,`EF⟩,?_⟩;obtain⟨c1,c2⟩:=`EE;refine⟨a,`cY,c1,?_⟩;rw[c2];refine⟨dv,`h_,e4,`sr⟩;have O:=`j0;have M:=`zi O;have Y:=`IC s2;refine⟨_,M.w.openOk,c,xs,v2,rfl,rfl,M.w.opAt f1 f2,by rw[← `Rw];exact hz.2,?_⟩;have nk:`fN X.K H2 B as `aqk (`q (xs++[v2])):=⟨_,rfl,`EA (`lY (`zk Y) (`X (ri0 hz.1 r2) `J))⟩;obtain⟨U,q1,q2⟩:=en.setN b1 b2 env O at' f1 f2 nk `_B (d:=`z) (v:=`z) `sK;exact⟨a,U,q1,k _ _ q2⟩
universe zz
theorem Env.freshS{σ:St}{δ:Ds}{p:`e}(e:`a9)(hp:`cO)(s:`aD)(nb:NB (H' p)):Env K H' `hT σ δ:=by
 have g:`PZ:=`P_
 refine⟨`hZ (λv sl h=>?_) `fP,`e1,`hR⟩
 ·cases sl with
  | un=>trivial
  | ex c n=>obtain⟨u,q,r⟩:=h;exact`aqm
  | sh d=>obtain⟨u,q,r⟩:=h;exact`aqm
  | ow d=>obtain⟨a,q,hb,r⟩:=h;exact⟨a,q,`Ol,`b7 (λo ho=>s _ _ ho) g⟩
 ·rcases z with z|z
  ·exact`P1
  ·rw[z];exact nb
universe DL
namespace DL
open Spec PyProof.Rows L2
theorem RpW.backS(h:`gg)(s:`cU `ze H'):`ki H' a `ec/\`cU H (`h5 H' a `ec):=by
 refine⟨qf0 h.hd `e5 `h6 (λk c so e1 e2=>s _ _ (`ap6)) `vb,`af',λb o xs e=>?_⟩
 ·unfold closed
  by_cases hb:b=a
  ·rw[`m1]
   rw[hb,`p!] at e;exact e
  ·rw[`hl]
   by_cases hm:b∈as
   ·obtain⟨so,q⟩:=`aqn
    rw[q];rcases h.own b hm with z|z
    ·exact `ap4
    ·rw[z.2] at e;exact e
   ·rw[yi0 hm]
    exact s b o (by rw[t30 hm];exact e)
 ·unfold closed at e
  by_cases hb:b=a
  ·rw[`m1] at e;cases e
  ·rw[`hl] at e
   by_cases hm:b∈as
   ·obtain⟨so,q⟩:=`aqn
    rw[q] at e;cases e
   ·rw[yi0 hm] at e
    have:=s.nf b o xs e;rw[t30 hm] at this;exact `C
theorem ps0:∀{ds:`f},`v_->`Rr
 | [],_=>rfl
 | `ae,h=>by
  unfold flats at h;rw[`iU,`a?] at h;unfold xv0;rw[`a?];refine⟨?_,ps0 h.2⟩;cases d<;>first|rfl|(cases h.1)
universe DL
namespace DL
open Spec PyProof.Rows L2
mutual
noncomputable def tr:`cl
 | `bF=>trs ds
 | `iK=>`n
 | `k4=>`n
 | `k5=>`n
 | _=>`b
noncomputable def trs:`vB
 | []=>`b
 | `ae=>tr d&&trs ds
end
universe DL
namespace DL
open Spec PyProof.Rows L2
noncomputable def J6(f:`aF)(gx:GX)(jb:Nat)(δ0:Ds):`f->D->`au (`f×D)
 | [],b=>`a ([],b)
 | `ae,b=>(f d (δ0.set jb (.ow b))).bind fun δ1=>(gx δ1).bind λr=>match r.2[jb]? with
  | `a `Jm=>(J6 f gx jb δ0 ds b').map λq=>(r.1::q.1,q.2)
  | _=>`c
noncomputable def yg0(n:Nat)(caps:`j)(i jb:Nat)(gi:GA)(f:`aF)(gx:GX):GX:=fun δ=>`Ey λb=>`p7 λitems=>if `m5 then
 (J6 f gx jb `fM `ap b.1).bind λq=>if isL q.2=`n then `a (`q q.1,`a1 i (.ow (b.2 q.2))) else `c else `c
theorem Env.comp_own{σ:St}{δ:Ds}(en:`a9)(no:`ajE){jb:Nat}{b:D}(hs:σ[jb]?=`sn)(hb:B a)(r:RpL K H B b a):Env K H B σ (`a1 jb (.ow b)):=by
 refine⟨`sF (i:=jb) `yR hs en.all,en.bad,λi j a' ds es h1 h2 _ _=>?_⟩;rcases `fu with⟨q1,_,_⟩|⟨_,z⟩
 ·rcases `i4 with⟨q2,_,_⟩|⟨_,z⟩
  ·exact q1.symm.trans q2
  ·exact `aqo
 ·exact `aqo
theorem cz0{σ:St}{k:Nat}(hcap:`qw)(hs:`ul):`aqp=`lp:=by
 unfold Q7;rw[`agV,`B8,`Ok,`ex,hcap];show `a ((`GN).join)=_;rw[hs];rfl
noncomputable def teX(K:`y)(gx:GX):TE:=fun σ H Q=>∃H₀ B₀ δ,tX K `T `S δ gx σ H Q
theorem pp0{K:`y}{H₀:Hp}{B₀:BS}{δ:Ds}{σ:St}{H:Hp}{Q:VK}{k:Nat}{gi:GA}{f:`aF}{gx:GX}(hcap:`qw)(hidx:∀j∈idx,j<n)
  (h:tX K `T `S δ `Jo σ H Q) :
  lm0 n `ce (fun σ H R=>∃B δ,tDI K B δ gi σ H R) `ajI (fun σ H Q=>∃B δ,tDT K B δ noT σ H Q) (teX K gx) σ H Q:=by
 obtain⟨r,en,e1,kk⟩:=h;obtain⟨B,b1,b2,env⟩:=`ba;unfold yg0 at e1;cases eb:`me with
 | none=>rw[eb] at e1;cases e1
 | some bm =>
 rw[eb,`k] at e1;cases e2:`oo with
 | none=>rw[e2] at e1;cases e1
 | some items =>
 rw[e2,`k] at e1;split at e1
 rotate_left
 ·cases e1
 rename_i hsz;cases e3:J6 f gx `oP `fM `ap bm.1 with
 | none=>rw[e3] at e1;cases e1
 | some q =>
 rw[e3,`k] at e1;split at e1
 rotate_left
 ·cases e1
 rename_i hq;cases e1;obtain⟨d0,a3,a6⟩:=`v7;obtain⟨a,a1,hB,ro⟩:=`Iv a3;refine⟨B,δ,`ap,env,e2,`ajJ⟩;have a7:=`h_;have d2:RpG K H1 B bm.1 a:=RpG.same s1 (`aqq).1;have c3:¬B L:=a7.free hL;have Y:a≠L:=λz=>c3 (z▸hB)
 obtain⟨Bp,a0⟩:∃Bp:BS,Bp=λx=>B x∨x=L:=`ag
 have c4:Bp L:=by rw[a0];exact `bA
 have M:∀x,B x->Bp x:=λx z=>by rw[a0];exact `fR
 have c0:∀x,Bp x->B x∨x=L:=λx z=>by rw[a0] at z;exact z
 have gr:∀{H2:Hp},`aqr->`ajL:=λ{H2} h2 x o nb hx=>⟨λz=>(c0 x z).elim nb (V0 hx hL),h2 x o (λz=>nb (z▸hB)) hx⟩
 have a8:`aqp=`sn:=cz0 hcap a1;have b3:n+k∉idx:=λz=>by have:=`eC _ z;omega
 have d3:n+k<(`x8).length:=by
  rw[← `zl (env.comp n `ce).all];exact(`eN a8).1
 have bu:But a H1 (upd H1 L `dQ):=⟨λx o _ e=>by rw[`aqs];exact e,λx o xs _ e=>by
  by_cases z:x=L
  ·rw[z,n6] at e;cases e
  ·rw[m9 z] at e;exact e⟩
 refine⟨λj m ys H2=>m=`bG - j/\j<=`bG/\`ajM/\`aqr/\`dJ<=j/\∃pre rest b',q.1=pre++`ax/\`ajN/\RpL K H2 Bp b' a/\J6 f gx `oP `fM (`gL j) b'=`a (`ax,q.2),
  ⟨_,rfl,`db,n6,bu,`hD,[],q.1,bm.1,rfl,`hn,(`PT `aqt (gr bu) d2).toL,e3⟩,?_⟩
 rintro j m ys H2 ⟨rfl,f1,hD,s2,f2,pre,rest,b',ho,rp,rb,ec⟩;have Z:∀x,Bp x->NB (H2 x):=λx z=>by
  by_cases xa:x=a
  ·rw[xa];exact rb.live
  rcases c0 x z with z|z
  ·exact(a7.bad x z).keep λo h=>s2 x o xa h
  ·rw[z];exact NB.of hD (λ_ _ z=>by cases z) (λ_ z=>by cases z)
 have e8:Env K H2 Bp `ds `aqu :=
  Env.comp_own ⟨`O? (gr s2) `ajO (a7.comp n `ce).all,Z,`O!⟩ (λ_ _ z=>w60 z) a8 (M a hB) rb
 by_cases hlt:j<`bG
 ·refine `l ⟨it.go j H2 `RB hlt,`ajP⟩
  obtain⟨sm,dx,b4,rx⟩:=`H' j H2 x H3 `RB y hlt;have s3:But a H1 H3:=⟨λx o n e=>sm _ _ (s2 x o n e),λx o xs n e=>s2.nf x o xs n (sm.nf x o xs e)⟩;have c9:`ajQ:=rx Bp (gr s3) Z;have c7:=e8.same sm;have f0:=sm _ _ hD;have c8:=rp.same sm;have a9:`gL j=dx::`gL `m6:=by
   rw[`Df];congr 1;rw[`Dg] at b4;exact A3 b4
  rw[a9] at ec;unfold J6 at ec;cases e4:f dx `aqu with
  | none=>rw[e4] at ec;cases ec
  | some δ1 =>
  rw[e4,`k] at ec;cases e5:gx δ1 with
  | none=>rw[e5] at ec;cases ec
  | some r5 =>
  rw[e5,`k] at ec;split at ec
  rotate_left
  ·cases ec
  rename_i b2' ho5;cases e6:J6 f gx `oP `fM (`gL `m6) b2' with
  | none=>rw[e6] at ec;cases ec
  | some q6 =>
  rw[e6,`gc] at ec;have U:r5.1::q6.1=`ax:=(`EH).1;have O:q6.2=q.2:=(`EH).2;refine⟨Bp,dx,_,δ1,c9,c7,e4,fun σ4 w en4=>⟨⟨w.len,λj' v z=>?_⟩,?_⟩⟩
  ·by_cases hj:j'∈idx
   ·rw[k00 (`eC j' hj)] at z;cases z
   ·rw[(`st j' hj).1];exact z
  have h4:σ4[n+k]?=`sn:=by rw[(`aqv).1];exact a8
  refine⟨Bp,δ1,`b,en4,rfl,`ajR⟩;show if `b=`b then _ else _
  rw[`bx];have a2:=`ajS;refine⟨λx=>if x=a then `c else H5 x,λx=>Bp x/\x≠a,δ1,r5,⟨⟨λx o e=>?_,λx o xs e=>?_⟩,⟨Bp,`apQ,λx z=>?_,a2⟩,λi' ds a' h1 h2=>?_,λx z=>?_⟩,e5,λv H6 ev=>?_⟩
  ·by_cases z:x=a
   ·simp only[z,`dA] at e;cases e
   ·simp only[z,`b?] at e;exact e
  ·by_cases z:x=a
   ·exfalso
    obtain⟨a5,b0,_,e7⟩:=a2.at (i:=n+k) (d:=b') (by rw[(`aqv).2];exact `xb d3);rw[h4] at b0;cases b0;rw[z] at e;exact e7.plain o xs e
   ·simp only[z,`b?];exact e
  ·by_cases z':x=a
   ·exact `l (by simp only[z',`dA])
   ·exact `m ⟨z,z'⟩
  ·have e0:i'∉idx:=λz=>w.own i' z ds h1
   rw[(`st i' e0).2] at h1;rcases `fu with⟨q1,_,_⟩|⟨_,z⟩
   ·rw[← q1,h4] at h2
    cases h2;simp only[`dA]
   ·exact(w60 z).elim
  ·simp only[z.2,`b?]
   exact a2.bad x z.1
  obtain⟨B',c1,c2,c6,rv⟩:=`k8;obtain⟨a',c5,e9,rl⟩:=c6.at ho5;rw[h4] at c5;cases c5;have less:∀x,Bp x->B' x:=λx z=>by
   by_cases q:x=a
   ·rw[q];exact e9
   ·exact `Rj
  have bt:But a H5 H6:=⟨λx o z e=>`Ew x o `apP,λx o xs z e=>by have:=ev.same.nf x o xs e;simpa only [z,`b?] using `C⟩;have d1:`ajT:=bt L _ (B6 Y) (s5 _ _ f0);have g6:Gr H6 `W3 B' Bp:=λx o nb hx=>⟨λz=>nb (less x z),by rw[m9 (λz=>nb (by rw[z];exact less L c4))];exact hx⟩
  have g5:Gr H5 H6 Bp Bp:=`I' (M a hB) bt;have g7:`ajU:=λx o nb hx=>⟨nb,by rw[m9 (λz=>nb (by rw[z];exact c4))];exact hx⟩
  refine⟨d1,`F,`bG - `m6,`F,rfl,hlt,n6,⟨λx o n e=>?_,λx o xs n e=>?_⟩,`G1,pre++[r5.1],q6.1,b2',by rw[ho,← U];simp,?_,?_,by rw[e6,← O]⟩
  ·rw[`aqs]
   exact bt _ _ n (s5 _ _ (s3 _ _ n e))
  ·by_cases z:x=L
   ·rw[z,n6] at e;cases e
   ·rw[m9 z] at e
    exact s3.nf _ _ _ n (s5.nf _ _ _ (bt.nf _ _ _ n e))
  ·exact `l8 (((c8.same s5).mono g5).mono g7) (`Ex g6)
  ·exact RpL.mono `aqt g6 rl
 ·have e:j=`bG:=`F
  subst e;refine `m ⟨`H! _ H2 `RB `a_,?_⟩;rw[`na] at ec;have U:`ajV:=(`EH).1;have O:b'=q.2:=(`EH).2;subst U;subst O;rw[`bc] at ho;have hh:But a H H2:=⟨λx o n e=>s2 x o n (s1 x o e),λx o xs n e=>`yr x o xs (s2.nf x o xs n e)⟩;have a4:Env K H2 B σ `apY:=env.mutB a3 a1 hh ((`aqq).2 H2 B q.2 ((rb.toO hq).toG.less M));refine kk (`x L) H2 (`j! (en.mutB b1 b2 a3 a1 hh a4) b1 b2 a4 ?_);rw[Y7];exact⟨L,ys,rfl,`m ⟨c3,`m hD⟩,by rw[ho];exact rp.mono (`eX M)⟩
theorem ba0(i k:Nat){sc scope:`ca}{elt iter:`G}{N':`g}{n:Nat}{caps:`j}{gi:GA}{idx:`j}{f:`aF}{gx:GX}
  (hcap:`qw) (hc:`bz) (hsc:`ez) (ok:`k1) (hidx:∀j∈idx,j<n) (hi:`fs)
  (hg:`ho) (he:`EI)
  (hs:`dz:=by intro _;rfl) :
  `aqw:=.mk λH₀ B₀ δ =>
 (iq0 hc hsc ok (wi:=`aqx) (g:=`sv) (tt:=`aqy) (te:=`aqz)
  `aqA
  `Di
  `aqB
  `aqC hs).imp fun σ H Q h=>pp0 hcap `eC h
noncomputable def p80(j:Nat)(gx:GX):GS:=fun δ=>`vA λr=>.nx (r.2.set j (.sh r.1))
theorem lv0(i k j:Nat){y:Str}{py spos:Pos}{sc scope:`ca}{elt iter:`G}{N':`g}{n:Nat}{caps:`j}{gi:GA}{idx:`j}{f:`aF}{gx:GX}
  (hcap:`qw) (hN:`fk) (hc:`bz) (hsc:`ez) (ok:`k1) (hidx:∀j∈idx,j<n) (hi:`fs)
  (hg:`ho) (he:`EI)
  (hiN:`Qa:=by rfl) (hy:`m3:=by first|exact `b8|exact `gJ)
  (hsw:`aqD:=by rfl)
  (hs:`dz:=by intro _;rfl)
  (hf:`m4:=by first|exact `b4|exact `bA|assumption) :
  `aqE:=.mk λH₀ B₀ δ pins s σ H D I ⟨r,en,e1,kk⟩=>by
 unfold p80 at e1;cases e2:yg0 n `ce i `oP gi f gx δ with
 | none=>rw[e2] at e1;cases e1
 | some q =>
  rw[e2] at e1;cases e1;refine pe0 (i:=j) hN hiN hy hc hsc ok (wi:=`aqx) (g:=`sv) (tt:=`aqy) (te:=`aqz)
   `aqA
   `Di
   `aqB
   `aqC hsw hs hf `h s σ H D I (pp0 hcap `eC `aqF)
  obtain⟨B,c1,c2,env,rv⟩:=`k8;exact kk _ H' (ev.s.wr c1 c2 (`sp H') lo0 (env.set j rv))
noncomputable def kx0(gx:GX):GS:=fun δ=>`vA λr=>.rt r.1
theorem be0(h:`nd):PSD X `mU (kx0 gx):=.mk λH₀ B₀ δ pins s σ H D I ⟨r,en,e1,k⟩=>by
 unfold kx0 at e1;cases e2:`eg with
 | none=>rw[e2] at e1;cases e1
 | some q =>
  rw[e2] at e1;cases e1;refine si0 `v2 `h s σ H D I `aqF;obtain⟨B,c1,c2,env,rv⟩:=`k8;exact k v H' `Ew (`Ex (`eX c1))
noncomputable def dgO(i:Nat)(gk:GE):GE:=fun δ=>`Ey λb=>match b.1 with
 | `yb=>`ni λdk=>`Q6 `aqe
 | _=>`c
section
variable{a:`G}{p:Pos}{g ga gb:GE}
theorem yu0(i:Nat)(hu:`ft)(hb:`cG)(hN:`cD:=by rfl)(hv:`fi:=by first|exact `b8|exact `gh|exact `gi)(hd:`aY:=by decide)(hcd:`fl:=by decide)
  (hs:ky0 b:=by exact `i0):PD X (`jN `eh b pos) (dgO i gb):=.mk λB δ=>(o90 hu `kf `eB hs).imp fun σ H Q ⟨d,en,h,k⟩=>by
 unfold dgO at h;cases eb:`me with
 | none=>rw[eb] at h;cases h
 | some bm =>
 rw[eb,`k] at h;obtain⟨d0,U,J⟩:=`v7;obtain⟨a,M,hB,ro⟩:=en.at U;have ro:=(J X.K H B a ro).1;split at h
 rotate_left
 ·cases h
 rename_i ks ds hbm;rw[hbm] at ro;obtain⟨xs,hx,hl,rr⟩:=ro;cases e2:`dc with
 | none=>rw[e2] at h;cases h
 | some y =>
 rw[e2,`k] at h;cases e3:M6 y with
 | none=>rw[e3] at h;cases h
 | some q =>
 rw[e3,`k] at h;refine⟨_,M,y,en,e2,`sr⟩;obtain⟨v,O,rv⟩:=(zt0 (rr.same s2)).1 d h;have:=`QD;subst this;exact⟨a,v,rfl,by rw[← O];exact `IR (s2 _ _ hx),k v H2 s2 rv⟩
theorem b40{d:D}(h:`nb)(r:`bN):`OD:=by
 cases d<;>simp[`cP] at h
 ·rw[V4] at r ⊢;exact r
 ·rw[Z8] at r ⊢;exact r
 ·rw[m8] at r ⊢;exact r
 ·rw[Y0] at r ⊢;exact r
noncomputable def p30(ga:GE)(gx:GX):GX:=fun δ=>`u4 λd=>if `nb then `vA λr=>(`B [d,r.1],r.2) else `c
theorem EnvV.new{σ:St}{δ:Ds}{d d':D}{v':V}(ev:`vP)(s:`aD)(r:∀B:BS,`p?->`bN->Rp K H' B d' v'):EnvV K `T `S H' σ δ d' v':=by
 obtain⟨B,c1,c2,env,rv⟩:=`k8;exact⟨`aqG s,⟨B,c1,c2,`j2 s,r B `EJ rv⟩,ev.fr,ev.b0⟩
theorem d70{x1}(ha:`cF)(h:`nd)(hs:`dn [a,e] `A=`VJ::`Ig:=by rfl)(hs2:`eE:=by rfl):PX X (`mb [a,e] x1 pos) (p30 ga gx):=.mk λH₀ B₀ δ pins s σ H Q I ⟨r,en,e1,k⟩=>by
 unfold p30 at e1;obtain⟨B,b1,b2,env⟩:=`ba;cases e2:`cV with
 | none=>rw[e2] at e1;cases e1
 | some d =>
 rw[e2,`k] at e1;split at e1
 rotate_left
 ·cases e1
 rename_i hfl;cases e3:`eg with
 | none=>rw[e3] at e1;cases e1
 | some q =>
 rw[e3] at e1;cases e1;refine fn0 (G8 `bn (G8 `v2 yo0 hs2) hs) `h s σ H Q I ⟨d,env,e2,λv1 H1 s1 r1=>⟨q,`su s1,e3,λv2 H2 ev=>⟨`aqH,λp hp=>k _ _ (ev.new `e0 λB' hB rv=>?_)⟩⟩⟩;rw[W0];refine⟨p,[v1,v2],rfl,⟨λz=>hB p z hp,n6⟩,?_⟩;rw[o9];refine⟨v1,[v2],rfl,b40 hfl r1,?_⟩;rw[o9];exact⟨v2,[],rfl,`l7 `e0,`hn⟩
noncomputable def lp0(f:`N)(gx:GX):GX:=fun δ=>`Do λr=>(f [r.1]).map `aqI
theorem fe0{T:`ck}{f:`N}(hc:`Np)(hf:`OZ)(hm:`iP)(hv:`Nq)(ha:`nd)(hg:`cE:=by rfl)
  (hn:`gu := by decide) (hdb:`aY:=by decide) (he:`eE:=by rfl) (hpl:`i3:=by rfl) :
  PX X `am8 (lp0 f gx):=.mk λH₀ B₀ δ=>(um0 hc hg hm hv (G8 `Et yo0 he) hn hdb he hpl).imp fun σ H Q ⟨q,en,e1,k⟩=>by
 unfold lp0 at e1;cases e2:`eg with
 | none=>rw[e2] at e1;cases e1
 | some r2 =>
 rw[e2,`k] at e1;cases e3:f [r2.1] with
 | none=>rw[e3] at e1;cases e1
 | some d =>
 rw[e3] at e1;cases e1;refine⟨r2,en,e2,`aqJ⟩;obtain⟨B,c1,c2,env,rv⟩:=`k8;exact hf H1 B [v] [r2.1] d Q `EJ (by rw[o9];exact⟨v,[],rfl,rv,`hn⟩) e3 λv' H2 s2 r'=>k v' H2 ⟨`aqG s2,⟨B,c1,c2,`j2 s2,r'⟩,ev.fr,ev.b0⟩
universe zz
theorem sp0:∀(kvs acc:`ej),((acc++kvs).map `bj).Nodup->wm0 acc kvs=acc++kvs
 | [],acc,_=>`RC
 | p::r,acc,h=>by
  have hn:`aqK=acc++[p]:=by
   unfold putK;rw[`ad];rw[`RD];rintro⟨q,hq,e⟩;have e:=M1 e;rw[`b0,`L,`Pz] at h;exact h.2.2 q.1 (g9 hq) p.1 A6 e
  show wm0 (`aqK) r=_;rw[hn,sp0 r (acc++[p]) (by rw[`aN];exact h),`aN];rfl
abbrev GP:=Ds->`au (`O (D×D))
noncomputable def g80:GP:=`Or
noncomputable def xp0(gk gv:GE)(gP:GP):GP:=fun δ=>`ni λk=>`Rx λv=>`RE λps=>(k,v)::ps
noncomputable def RpP(K:`y)(H:Hp)(B:BS)(ps:`O (D×D))(vs:`hW):Prop:=Rps K H B (`e7) (`RF)/\Rps K H B `qx `Jp
structure PDP(X:Cx)(pos:Pos)(keys:`ud)(vals:`a6)(gP:GP):Prop where
 mk::go:∀δ,∃trs,`aqL/\∀B σ H Q,(∃ps,`yA/\`aqM/\∀vs H',`aD->RpP X.K H' B ps vs->`BF)->`PN
section
variable{vals:`a6}{gv:GE}{gP:GP}
theorem X00:PDP X pos [] [] g80:=.mk fun δ=>⟨[],hf0,λB σ H Q ⟨ps,en,e,k⟩=>by
 cases e;exact k [] H `b9 ⟨`RG,`RG⟩⟩
theorem qu0(hk:`RH)(hv:`aqN)(hr:`aqO):PDP X pos `RI `aqP (xp0 gk gv gP):=.mk fun δ=>by
 obtain⟨trs,h1,h2⟩:=`RJ;refine`aqQ;unfold xp0 at e;cases e1:`oL with
 | none=>rw[e1] at e;cases e
 | some a =>
 rw[e1,`k] at e;cases e2:gv δ with
 | none=>rw[e2] at e;cases e
 | some b =>
 rw[e2,`k] at e;cases e3:`kk with
 | none=>rw[e3] at e;cases e
 | some qs =>
 rw[e3] at e;cases e;refine⟨B,a,en,e1,λv1 H1 s1 r1=>⟨B,b,`ee,e2,λv2 H2 s2 r2=>h2 B _ _ _ ⟨qs,`aqR,e3,λvs H3 s3 rr=>k _ H3 `Eg `CK⟩⟩⟩
 ·rw[`L,`L,o9]
  exact⟨v1,_,rfl,`RK,rr.1⟩
 ·rw[`L,`L,o9]
  exact⟨v2,_,rfl,`aoX,rr.2⟩
theorem qw0:∀{ks:`cZ} {vs:`hW},`RF=`yL->vs=`Ye `PP
 | [],[],_=>rfl
 | [],`dX,h=>by cases h
 | `dX,[],h=>by cases h
 | `eF,`vM,h=>by
  rw[`L,`L] at h;have h1:=(Q1 h).1;have h2:=(Q1 h).2;rw[`L,`cH,`L,← qw0 h2,← h1]
noncomputable def pr0(gP:GP):GE:=fun δ=>`aqS λps=>`aqT λks=>if `aqU then `a (`bv `sk `qx) else `c
theorem fg0(h:`aqO)(hall:`PQ:=by rfl)(hl:`yO=vals.length:=by rfl)(h0:`PR:=by exact λz=>nomatch z)(h15:`PS:=by decide) :
  PDF X (`tR `fS `gQ pos) (pr0 gP):=.mk λB δ pins s σ H Q I ⟨d,en,e,k⟩=>by
 unfold pr0 at e;cases e1:`kk with
 | none=>rw[e1] at e;cases e
 | some ps =>
 rw[e1,`k] at e;cases e2:`Jq with
 | none=>rw[e2] at e;cases e
 | some ks =>
 rw[e2,`k] at e;split at e
 rotate_left
 ·cases e
 rename_i hnd;cases e;obtain⟨trs,h1,h2⟩:=h.go δ;refine ib0 h1 hall hl h0 h15 `h s σ H Q I λp hp=>h2 `hT _ _ _ ⟨ps,en.fresh hp,e1,λvs H' s' rr=>`aqV⟩
 ·exact qw0 (uy0 e2 rr.1)
 ·rw[`kg]
  have:=hnd.2;omega
 ·have J:`aqW:=by
   have:=B8 `ia (uy0 e2 rr.1)
   simpa using this.symm
  have hm:`aqX:=by
   rw[sp0 _ [] (by
    rw[`dB];have:`aqY:=By0 `i;rw[`C];exact hnd.1)]
   rfl
  rw[hm];refine k p _ hp ⟨λc o q=>?_,λc o xs q=>?_⟩ ⟨`aqZ,n6,J,?_⟩
  ·have hc:c≠p:=V0 q hp
   rw[m9 hc];exact s' c o (by rw[m9 hc];exact q)
  ·by_cases hc:c=p
   ·rw[hc,n6] at q;cases q
   ·rw[m9 hc] at q
    have:=s'.nf c o xs q
    rwa [m9 hc] at this
  ·exact rr.2.mono (`yQ (`bA))
universe zz
theorem Za0(i k:Nat){sc scope:`ca}{elt iter:`G}{N N':`g}{n:Nat}{caps:`j}{gi:GA}{idx:`j}{f:`aF}{gx:GX}
  (hcap:`qw) (ok:`vx) (hidx:∀j∈idx,j<n) (hi:`fs)
  (hg:`ho) (he:`EI)
  (hc:`bz:=by rfl) (hsc:`ez:=by rfl) (hN:`vy:=by rfl) (hs:`dz:=by intro _;rfl) :
  `aqw:=ba0 i k hcap hc hsc `vz `eC hi hg he hs
theorem du0(i k j:Nat){y:Str}{py spos:Pos}{sc scope:`ca}{elt iter:`G}{N N':`g}{n:Nat}{caps:`j}{gi:GA}{idx:`j}{f:`aF}{gx:GX}
  (hcap:`qw) (nd:`fk) (ok:`vx) (hidx:∀j∈idx,j<n) (hi:`fs)
  (hg:`ho) (he:`EI)
  (hc:`bz:=by rfl) (hsc:`ez:=by rfl) (hN:`vy:=by rfl)
  (hiN:`Qa:=by rfl) (hy:`m3:=by first|exact `b8|exact `gJ)
  (hsw:`aqD:=by rfl)
  (hs:`dz:=by intro _;rfl)
  (hf:`m4:=by first|exact `b4|exact `bA|assumption) :
  `aqE:=lv0 i k j hcap nd hc hsc `vz `eC hi hg he hiN hy hsw hs hf
noncomputable def zq0(gt:GB)(G:GSB):Nat->`Rd
 | 0,_=>`c
 | n+1,δ=>match `dt with
  | `aJ=>`lS
  | `cW=>match `h4 with
   | `cA=>`K0
   | r=>r
  | `c=>`c
theorem ec0{gt:GB}{G:GSB}(n:Nat)(hp:`pL)(hc:`vn)(hb:`aq_):PSB X `MP (zq0 gt G n):=.mk λH₀ B₀ δ pins s σ H D I ⟨r,en,e1,k⟩=>by
 have M:`ame:=`amf
 have O:PSs X `d8 (λD σ H=>∃δ,`aq0):=λpins s σ H D I ⟨δ,h⟩=>`aq1
 refine jg0 hp M O `h s σ H D I ⟨λm σ H=>∃δ',`amg/\`aq2,`ami,?_⟩;rintro m σ1 H1 ⟨δ1,J,e2⟩;cases m with
 | zero=>cases e2
 | succ m =>
  unfold zq0 at e2;obtain⟨B,b1,b2,env⟩:=J.ex;cases e3:gt δ1 with
  | none=>rw[e3] at e2;cases e2
  | some t =>
   rw[e3] at e2;refine`amj;cases t with
   | false =>
    rw[`hb];cases e2;exact `amk
   | true =>
    rw[`bx];dsimp only at e2;refine⟨fun σ' H'=>∃δ',`aml/\`aq2,`amm,δ1,?_⟩;cases e4:G δ1 with
    | none=>rw[e4] at e2;cases e2
    | some rb =>
     rw[e4] at e2;refine`amn;cases rb with
     | nx δn=>exact `P?
     | rt d' δn=>cases e2;exact λv σ' H' ev=>k v σ' H' ev
noncomputable def wz0(f:`aF)(G:GSB):`f->`Rd
 | [],δ=>`lS
 | `ae,δ=>`ahe fun δ1=>match G δ1 with
  | `Oz=>wz0 f G ds δ2
  | r=>r
noncomputable def gj0(gi:GA)(f:`aF)(G:GSB):GSB:=fun δ=>`p7 λitems=>wz0 f G `ap δ
open Classical in
theorem Y10{pos:Pos}{G:GSB}(hp:`pL)(hc:`bz)(hi:`fs)(hg:`vm)(hb:`aq_)
  (hs:`dz:=by intro _;rfl):PSB X `M4 (gj0 gi f G):=.mk λH₀ B₀ δ pins s σ H D I ⟨r,en,e1,k⟩=>by
 unfold gj0 at e1;obtain⟨B,b1,b2,env⟩:=`ba;cases e2:`oo with
 | none=>rw[e2] at e1;cases e1
 | some items =>
  rw[e2] at e1;simp only[`k] at e1;have a5:`aiV:=`aiW
  have a6:PSs X `d8 (λD σ H=>∃H₀ B₀ δ,`aq0):=λpins s σ H D I ⟨`T,`S,δ,h⟩=>`aq1
  refine `aiZ;obtain⟨Hh,O⟩:∃Hh:Hp,`ai_:=`ag
  have U:`ai0:=`ai1
  have Z:`ai2:=`ai3
  have a2:`ai4:=`ai5
  have a1:`ai6:=⟨λb o h=>by
   by_cases z:`sx
   ·rw[`ai7] at h;cases h
   ·rw[O] at h
    have h':`ai8:=h;rw[`m?] at h';exact h',λb o xs h=>by
   by_cases z:`sx
   ·have h0:=`ai9
    rw[`ai'] at h0;cases h0
   ·rw[O]
    show (`yp)=_;rw[`m?];exact h⟩
  have hS:`ai!:=⟨λb o h=>by
   have h1:=`ai?
   by_cases z:B b
   ·rcases b2 b z with q|q
    ·rw[a2 b q];exact h1
    ·rw[h] at q;cases q
   ·rw[U b z];exact h1,`aja⟩
  have Y:=`h_;have start:`ajb:=by
   refine`ajc
   ·by_cases q:`j1
    ·exact `g?
    ·exact `ajd
   ·have hn:=`aje
    have nb:¬`j1:=`ajf
    obtain⟨o,e3,a',e4,hB,_⟩:=`ajg;rw[h2] at e3;cases e3;cases e4;exact Z a hB nb
   ·rw[a2 a z]
    exact `ajh
  refine⟨λi m σ H=>m=`bG - i/\`O8/\∃δi,`aji/\wz0 f G (`gL i) δi=`dK,`ajj,?_⟩;rintro i m σi Hi ⟨rfl,a8,δi,M,ei⟩;have gr:`ajk:=`ajl
  by_cases hlt:`vo
  ·refine `l ⟨`ajm,fun σ' H'=>∃δn,`ajn/\wz0 f G (`sy) δn=`dK,`ajo,`ajp⟩
   obtain⟨sm,d,hd,rd⟩:=`ajq;obtain⟨B',c1,c2,env0⟩:=M.ex;have a4:`ajr:=rd B' (λb o n h=>by
    have h':Hh b=`ab:=`H8
    refine`ajs;rcases c2 b z with q|q
    ·exact `ajt
    ·rw[h'] at q;cases q) env0.bad
   have a3:=`aju
   replace M:=M.grow sm
   have a0:`ajv:=by
    rw[`Df];congr 1;rw[`Dg] at hd;exact A3 hd
   rw[a0] at ei;unfold wz0 at ei;cases e3:f d δi with
   | none=>rw[e3] at ei;cases ei
   | some δ2 =>
    rw[e3] at ei;simp only[`k] at ei;refine`ajw;have a7:`ajx:=`ajy;cases e4:G δ2 with
    | none=>rw[e4] at ei;cases ei
    | some rb =>
     rw[e4] at ei;refine`ajz;cases rb with
     | nx δn=>exact `O9
     | rt d' δn =>
      cases ei;exact λv σ' H' ev=>k v σ' H' ⟨`O' `Ew,by
       obtain⟨Bx,x1,x2,ex,rx⟩:=`k8;exact(`aq3).ex.elim λBy hy=>⟨Bx,x1,λa z=>(x2 a z).imp id λq=>hS.free q,ex,rx⟩,(`aq3).fr,`ef⟩
  ·have e:i=`bG:=`F
   subst e;refine `ajA;rw[`na] at ei;cases ei;exact `ajB
abbrev GTX:=Ds->`au (`M×Ds)
noncomputable def tTX(K:`y)(H₀:Hp)(B₀:BS)(δ:Ds)(gt:GTX):TT:=fun σ H Q=>∃r,`b'/\`dt=`dK/\∀H',`cf K `T `S H' σ r.2->Q r.1 H'
structure PTX(X:Cx)(e:`G)(gt:GTX):Prop where
 mk::go:∀H₀ B₀ δ,PT X e `aq4
structure PWX(X:Cx)(e:`G)(gt:GTX):Prop where
 mk::go:∀H₀ B₀ δ,PW X e `aq4
noncomputable def liftT(gt:GB):GTX:=fun δ=>(`dt).map λb=>(b,δ)
noncomputable def pw0(gx:GX):GTX:=fun δ=>`Do λr=>match r.1 with
 | `ct=>`a (b,r.2)
 | _=>`c
noncomputable def orT(gt gu:GTX):GTX:=fun δ=>`se λr=>if r.1=`b then `a (`b,r.2) else gu r.2
section
variable{a:`G}{rest:`a6}{as bs:`bY}{gt gu:GTX}{gb:GB}{ga:GE}
theorem Wk0(h:PTD X e gb):PTX X e (liftT gb):=.mk λH₀ B₀ δ pins s σ H Q I ⟨r,en,e1,k⟩=>by
 obtain⟨B,b1,b2,env⟩:=`ba;unfold liftT at e1;cases e2:`dc with
 | none=>rw[e2] at e1;cases e1
 | some t =>
  rw[e2] at e1;cases e1;exact h B δ `h s σ H Q I ⟨t,env,e2,λH' s'=>k H' (`su s')⟩
theorem av0(h:`aq5):PWX X `MA gt:=.mk λH₀ B₀ δ=>ee0 `v2
theorem W50(ha:`aq5)(hb:PWX X `MB gu):PWX X `MC (orT gt gu):=.mk λH₀ B₀ δ wh pins s σ H Q I ⟨r,en,e1,k⟩=>by
 unfold orT at e1;cases e2:`dt with
 | none=>rw[e2] at e1;cases e1
 | some q =>
  rw[e2,`k] at e1;refine ag0 `Et `aq6 wh `h s σ H Q I `aq7;cases hq:q.1 with
  | true=>rw[hq,`bx] at e1;cases e1;exact k H' J
  | false=>rw[hq,`pT] at e1;exact`RL
theorem PWX.pt(h:PWX X e gt):PTX X e gt:=.mk λH₀ B₀ δ=>L2.PW.pt `v2
universe zz
universe DL
namespace ZipL
open Spec PyProof.Rows
section
variable{w:`R}{s:`p}{TI TO lo S:`e}{xs:`aK}
theorem Zw0(hh:`he)(D:`i7)(hlo:`QR)(st:`aq8)(hn:`Eb)(L:`D!)(hT:`QQ)(hI:`aq9)(c0:Nat)(res:`E)
  (gS:`cJ S=`anc)
  (hR:∀h' tk acc c as,`aq'->`QS->`Ec->`QT->`aoo) :
  `o `aG `b! (`yZ `oR `h3 res)
   `DT `DU s:=by
 have M:S≠z:=C4 L.z;obtain⟨f0,hI⟩:=hI;unfold Builtin.List.listExtendWith;refine A0 (P5 hT ?_);have h1:`DW `oR `h3=`n:=by simp[`DW,M]
 have h2:(`h1 `eR==`h1 `c9)=`n:=`aq
 have h3:(`h1 `eR==`h1 `d1)=`n:=`aq
 simp only[h1,h2,h3,`Cm,`p0,`b?];refine A0 (wpAny_pyIter_zip hI ?_);refine A0 (`l');unfold Builtin.List.listLengthHint;refine A0 (D5 hT go0 ?_);show `o _ `b! (specialOf (`li z) `ang>>=_) _ _ _;refine A0 (D5 hT i40 ?_);refine `hI;show `o _ `b! (rule "list.extend.makes-room">>=λ_=>Builtin.List.listTouch `oR>>=λ_ =>
  again `aop) _ _ _
 refine A0 (M0 ?_);refine `p2;show `o _ `b! (`vQ S (`I1 `Z)>>=λ_=>`vQ S `RM) _ _ _;refine A0 (L9 gS rfl ?_);have J:=K0 `aq! gS rfl;refine L9 J rfl ?_;have U:=K0 (`fU `RM) J rfl;have oth:∀b o,b≠S->`fC->((`kl S `aq!).update S (`fU `RM)).get? b=`ab :=
  λb o hb e=>`y_ (`y_ e)
 have O:lo<S:=`QV;exact A1 ⟨y4 d6 _,U40 (s:=s) (lo:=lo) (h₁:=`aw) hh D L hlo hn _ hR _ 0 _ `bu _ #[] [] rfl `u0 (st.keep L oth) (λb o hb e=>oth b o (B3 (E3 hb O)) e) U rfl rfl ⟨`af7,(λ_ ha=>nomatch ha),(λj a hj=>by simp at hj)⟩⟩
theorem dq0(hh:`he)(D:`i7)(hlo:`QR)(st:`aq8)(hn:`Eb)(L:`D!)(hI:`aq9)
  (gS:`cJ S=`DX)
  (hR:∀h' tk acc c as,`aq'->`QS->`Ec->`QT->`I0->R (.ok (`fy `Z)) `oH) :
  `o `aG `b! (`ani ⟨[`x S,`y2],[]⟩)
   `DT `DU s:=by
 show `o _ `b! (do let old ← `anj `oR;`ank `oR `DY;`anl;`aq?) _ _ s;have O:S≠z:=C4 L.z;have Y:lo<S:=`QV;obtain⟨f0,hI⟩:=hI;refine A0 (by
  unfold Builtin.List.listItems;refine A0 (N9 gS rfl (A1 (by
   show `o _ `b! (`vQ S `DY>>=λ_=>`ann>>=λ_=>`aq?) _ _ s;have g2:=K0 `zn gS rfl;have oth:∀b o,b≠S->`fC->(`ara).get? b=`ab:=`Qw
   have J:=oth z _ (B6 O) hI;refine A0 (L9 gS rfl (A0 (`ano (Zw0 (s:={ s with heap:=`ara }) (lo:=lo) (xs:=xs) (ys:=ys) hh D hlo (st.keep L oth) hn L `Nr ⟨f0,J⟩ _ `Z g2 λh' tk acc c as hk U hl hG M=>?_))));exact hR h' tk acc c as (λb o hb e=>hk b o hb (oth b o (B3 (E3 hb Y)) e)) U hl hG M))))
universe zz
section
variable{w:`R}{s:`p}{xs:`aK}
theorem b50{Q:`ao}(hh:`he)(hl1:`vU)(hl2:`vV)(hn:`Eb)
  (h:∀(h':`Q) (tk c:Nat) (as:`aB) (t:`e),(∀b o,`sU)->`Ec->(∀a∈as,`Bs/\t<a)->`m9->`_<=t ->
   (∀(j:Nat) (a:`e),`aof->∃x y,`xz=`cn/\`aog/\`oF h' a x y)->`gs t=`a { cls:=`cp,dict:=`c,data:=`bB `arb c,slots:=#[] }->Q `jP `oH) :
  `o `aG A (`d! `s2 [`x l1,`x l2]) `ant E s:=by
 have a1:l1<`_:=by obtain⟨_,e,_⟩:=hl1;exact `c?
 have a2:l2<`_:=by obtain⟨_,e,_⟩:=hl2;exact `c?
 refine call_zip_2 hl1 hl2 λh1 hz hTI a4 Y a0 a3 hk=>?_
 have O:h1.IsList l1 xs:=hl1.at `arc
 have M:h1.IsList l2 ys:=hl2.at `arc
 have H:∀k,k<5->`_+k<`qy:=λk hk=>by rw[a3];exact Nat.add_lt_add_left hk _
 have D:=zipApart_new (n:=`_) a1 a2;have L:ZLow (`_+4) (`_+2) (`_+3) `_ (`n6) l1 l2 `qy:=⟨H 4 `t,H 2 `t,H 3 `t,H 0 `t,H 1 `t,E3 a1 `EK,E3 a2 `EK⟩;refine `anq (Q₁:=λob s1=>ob=`x `qy/\s1=`ard) Bd0 (Be0 _) Bf0 `anr λob s1 a5=>?_
 obtain⟨rfl,rfl⟩:=a5;have gC:`are `qy=`DX:=`gp;have pu:∀b o,`LU b=`ab->`are b=`ab:=`n2
 have st:ZSt h1 (`_+4) (`_+2) (`_+3) `_ (`n6) l1 l2 `qy xs ys 0:=⟨`m ⟨rfl,hz,_,_,a4⟩,hTI,Y,a0,O,M⟩;refine⟨`ans,Bh0 _ _,dq0 (s:=`ard) (lo:=`_) (xs:=xs) (ys:=ys) (`anu) D ⟨K2 _ 4,K2 _ 3,`hD,K2 _ 1⟩ (st.keep L λb o _ e=>pu b o e) hn L ⟨_,pu _ _ hz⟩ gC λh' tk acc c as Z J hl hG U=>`akj⟩;have e:acc=`arb:=by rw[← U]
 rw[e] at J;refine h h' tk c as `qy (λb o q=>Z b o (A8 q) (pu b o (hk b o q))) hl (λa ha=>⟨?_,`QW⟩) (hG.rise.imp λh=>B3 h) (E6 `EK) (λj a hj=>`aov) J;exact E6 (E3 `EK (`QW))
universe zz
universe ZipL
namespace DL
open Spec PyProof.Rows L2
noncomputable def Uy0(K:`y):`lH:=λvs H Q=>∃q1 q2 xs ys,vs=[`x q1,`x q2]/\SqL K H q1 xs/\SqL K H q2 ys /\
 ∀(t:`e) (as:`aB),`QZ->`m9->t∉as->H t=`c->(∀a∈as,`Bm)->Q `jP (we0 H ((t,`q `QY)::`aoG))
theorem mt0(hc:`bz:=by rfl):fr0 X `sL `s2 (Uy0 X.K):=by
 intro pins s σ H vs us Q I r h;obtain⟨q1,q2,xs,ys,rfl,h1,h2,k⟩:=h;cases r with
 | cons r1 r =>
  cases r with
  | cons r2 r =>
   cases r;obtain rfl:=r1;obtain rfl:=r2;obtain⟨us1,v1,p1,z1⟩:=`d9 h1;obtain⟨us2,v2,p2,z2⟩:=`d9 h2;have l1:=v1.length;have l2:=v2.length;refine ZipL.b50 `iR `vw `Pd (`al!) λh' tk c as t hk hl ha O ht hp gt=>?_
   rw[`bd,`bd] at hl;have M:`QZ:=by rw[`kg,hl];omega
   refine⟨`x t,_,Inv.laidM (t':=tk) I hk λp J=>?_,rfl,k t as M O (λz=>D0 _ (ha t z).2) (`rY ht) λa h=>`rY (ha a h).1⟩;rcases `be J with rfl|J
   ·refine⟨ht,_,`l ⟨rfl,?_,`y6,c,m50 as,gt⟩⟩
    rw[`U,hl];omega
   ·obtain⟨j,⟨x,y⟩,e1,e2,e3⟩:=mh0 J
    obtain⟨u,w,f1,f2,f3⟩:=hp j p.1 e1;have hz:=List.getElem?_zip_eq_some.mp e2;obtain⟨u',g1,g2⟩:=v1.get hz.1;obtain⟨w',g3,g4⟩:=v2.get hz.2;have eu:u'=u:=by
     have:us1.toArray[j]?=`a u':=by simpa using g1
     rw[f1] at this;exact`arf
    have ew:w'=w:=by
     have:us2.toArray[j]?=`a w':=by simpa using g3
     rw[f2] at this;exact`arf
    subst eu;subst ew;exact⟨(ha p.1 (D4 e1)).1,_,`m ⟨e3,`vZ,[u',w'],`X g2 (`X g4 `J),⟨_,f3,rfl,_,rfl,rfl⟩⟩⟩
noncomputable def l90:`N
 | [`cz,`s_]=>`a (`q (`aoH `_v))
 | _=>`c
section
variable{f:`G}{p:Pos}
theorem eg0(hm1:`QA)(hm2:`cq `eR=`c)(hv1:`Qz)(hv2:`arg)(ha:PDA X `oC gA)(hc:`bz:=by rfl)(hg1:`QB := by rfl)(hg2:Gl X `eR := by rfl)
  (e1:`dn [`RN] `A=(`n,`bR (`RN) `A)::`hU:=by rfl) (h1:`i3:=by rfl)
  (he:`Xj=`lD::`arh:=by rfl) (hpl:(`fE `l6 (`arh)).any `bj=`n:=by rfl) :
  PDF X (`bC `XH [`RN] [] pos) (oA gA l90):=.mk λB δ=>(fp0 (mt0 hc) hg1 hg2 hm1 hm2 hv1 hv2 `bn `t `t `t `t e1 h1 he hpl).imp fun σ H Q ⟨d,en,h,k⟩=>by
 unfold oA at h;cases e3:`cM with
 | none=>rw[e3] at h;cases h
 | some ds =>
  rw[e3] at h;simp only[`k] at h;unfold l90 at h;split at h<;>try cases h
  rename_i as bs;refine⟨_,en,e3,λvs H1 s1 r=>?_⟩;rw[o9] at r;obtain⟨x,t,rfl,r1,r⟩:=r;rw[o9] at r;obtain⟨y,t,rfl,r2,r⟩:=r;rw[m5] at r;subst r;rw[Y7] at r1 r2;obtain⟨q1,us,rfl,U,t1⟩:=r1;obtain⟨q2,ws,rfl,M,t2⟩:=r2;refine⟨q1,q2,us,ws,rfl,U.to,M.to,λL as' hl O hL hf fa=>?_⟩;have J:(`ari)=L::as':=by rw[`L,sn0 hl]
  have hN:(`ari).Nodup:=by rw[J];exact E2.mpr ⟨hL,O⟩
  have fr:∀p∈(`zo),H1 p.1=`c:=λp hp=>by
   have:p.1∈L::as':=by rw[← J];exact g9 hp
   rcases `be `C with e|e
   ·rw[e];exact hf
   ·exact fa _ e
  have sm:`cU H1 (we0 H1 (`zo)):=⟨λb u e=>by
   rw[qv0 λp hp z=>by rw[← z,fr p hp] at e;cases e];exact e,λb ob xs e=>Z00 (by intro _ _ z;cases z) e⟩
  have g:Gr H1 (we0 H1 (`zo)) B (`ajK):=λb u n e=>⟨λz=>`oD n (λz=>by rw[z,hf] at e;cases e),sm _ _ e⟩
  refine k L _ (`h0 hf) (`hS sm) ⟨`Yg,pc0 hN _ A6,?_⟩;refine m60 (t1.mono g) (t2.mono g) hl λp hp=>⟨pc0 hN p (A5 _ hp),`j4⟩
  have pin:p.1∈as':=by rw[← sn0 hl];exact g9 hp
  rcases z with z|z
  ·exact en.bad _ z (`h0 (fa _ pin))
  ·exact hL (z▸pin)
universe zz
universe DL
namespace L2
open Spec PyProof.Rows
noncomputable def Ud0(K:`y):`hh:=λx vs H Q=>∃(p:`e) (ys:`u) (z:Int) (j:Nat),`Ck/\vs=`z8/\SqL K H p (`EL)/\`ao7
theorem ns0:∀{ys:`u} {us:`Y},`br (`EL) us->∀(m:Nat) (y:Int),`Eh->∃t,us[m]?=`a (`d y t)
 | [],_,`J,m,y,h=>by cases h
 | `Ei,_,`c5,0,y,h=>by
  cases h;obtain⟨tk,rfl⟩:=r;exact`ao2
 | `Ei,_,`c5,m+1,y,h=>by
  obtain⟨tk,e⟩:=ns0 t m y `ig;exact`ao3
theorem po0:∀ys:`u,(`EL).all xr0=`b
 | []=>rfl
 | `vs=>by
  rw[`L,`iU,po0 ys];rfl
theorem Yb0:MtR X "list.index" (Ud0 X.K):=by
 intro pins s σ H x vs v us Q I rx rv h;obtain⟨p,ys,z,j,rfl,rfl,hq,hj,U,q⟩:=h;cases rx;obtain⟨u,rfl,ru⟩:=`Cy;obtain⟨its,r,pl,hz⟩:=`ev;obtain⟨o,n,h1,h2,h3⟩:=id pl;have a0:`lI=`dJ:=`ao8
 have a1:j<`dJ:=`ao9;have M:∀m (hm:m<`gE),∃y t,`Eh/\`ao'=`d y t:=λm hm=>by
  have J:`Ej:=`ao!
  obtain⟨t,e⟩:=ns0 r m ys[m] (C3 J);refine`ao?;have:`apa:=`Q1;rw[`C] at e;have e':=`kP
  simpa using e'
 obtain⟨c0,dd,dt,sl⟩:=o;obtain rfl:c0=`cp := h2;obtain⟨rfl,rfl⟩:dd=`c/\dt=`GC:=h3;obtain⟨t,rfl⟩:=ru;have O:∀(y:Int) (tk:Tok),`arj=`b↔y=z:=λy tk=>by
  show (eqV (`d y) `km)=`b↔_;simp[eqV]
 have Z:`bH<`xA - 1:=by
  have h5:`uM:=by rw[`U] at hz;exact hz
  have h6:`P<`f!:=`aq
  omega
 refine P7 (T := `c9) `ark (show `jQ `cX `c9 from `apd) F.entry_list_index (F.args_list_index_2 _ _) (SeqAt.list_indexAt p `bP n `c sl (`d z t) (eqU `km) j `m0 Z ?_ ?_) ⟨h1,λy hy=>xw0 (x:=`dM) `CA rfl r (po0 ys) y `ape,`apf⟩
 ·obtain⟨y,tk,e1,e2⟩:=M j `m0
  rw[e2,O];rw[hj] at e1;cases e1;rfl
 ·intro m hm Y
  obtain⟨y,tk,e1,e2⟩:=M m hm;rw[e2];cases hb:`arj with
  | false=>rfl
  | true=>exact `apg
universe L2
namespace DL
open Spec PyProof.Rows L2
noncomputable def v10:`f->`au (`u)
 | []=>`sc
 | `aR::ds=>(`v?).map (i::·)
 | _=>`c
noncomputable def f70:`Qt
 | `cz,`z8=>(`v?).bind λys=>`aph
 | _,_=>`c
theorem ca0:∀{ds:`f} {ys:`u} {xs:`K},`v?=`a ys->`a3->xs=`EL:=by
 intro ds
 induction ds with
 | nil =>
  intro ys xs h r;rw[m5] at r;subst r;simp only[v10] at h;cases h;rfl
 | cons d ds ih =>
  intro ys xs h r;rw[o9] at r;obtain⟨x,r',rfl,r1,r2⟩:=r;cases d<;>simp only[v10] at h<;>try cases h
  rename_i s;cases e1:`v? with
  | none=>rw[e1] at h;cases h
  | some zs =>
   rw[e1] at h;cases h;rw[m8] at r1;subst r1;rw[ih e1 r2];rfl
theorem Zb0(ho:PD X o g)(ha:`Dm)(hbase:`gF o `Ek `A `nY=`lx:=by rfl)
  (hfew:(`qh
  &&`Pl)=`b:=by rfl)
  (hline:`gb:=by rfl) (hs:`eE:=by rfl) (hplain:`qi:=by rfl) :
  PD X (`bC (`gG o `Ek `fL) [e] [] `cy) (pv0 g gA f70):=.mk λB δ =>
 (q60 F.plainAttrs_list `ark F.type_list_index Yb0 (ho B δ) `bn `hj `k_ `hk hs `m_).imp fun σ H Q ⟨d,en,h,k⟩=>by
  unfold pv0 at h;cases e1:`al with
  | none=>rw[e1] at h;cases h
  | some x =>
   cases e2:`cM with
   | none=>rw[e1,e2] at h;cases h
   | some es =>
    rw[e1,e2] at h;simp only[`k] at h;unfold f70 at h;split at h
    ·rename_i ds z
     cases e3:`v? with
     | none=>rw[e3] at h;cases h
     | some ys =>
      rw[e3,`k] at h;cases e4:`apj with
      | none=>rw[e4] at h;cases h
      | some j =>
       rw[e4] at h;cases h;refine`akt;rw[Y7] at r1;obtain⟨p,xs,rfl,hq,rx⟩:=r1;obtain rfl:=ca0 e3 rx;refine⟨`m ⟨rfl,_,`k6⟩,_,`ee,e2,`Pm⟩;rw[o9] at r2;obtain⟨y,rr,rfl,r3,r4⟩:=r2;rw[m5] at r4;subst r4;rw[m8] at r3;subst r3;obtain⟨hj,h1,h2⟩:=Bu0.mp e4;refine⟨p,ys,z,j,rfl,rfl,(hq.mono `Dh).to,?_,`apk,k _ _ `ke `sq⟩
       ·rw[`Q2,`Q3 h1]
       ·have J:`Ej:=`F
        rw[`gM J] at he;exact `apl
    ·cases h
universe DL
namespace Bt
open DL W
section
noncomputable def N8:GS:=(v6 (ifD `arl
 (v6 `arm
 v9)
 v9)
 (v6 `EM
 v9))
noncomputable def wo0:`g:=`k?
noncomputable def U6:`N:=`arn
noncomputable def yv0:GS:=(v6 (j7 `df (gc (`s `aro)))
 (v6 `arp
 (v6 (w40 (y30 (z7 `kp v5)) `f_
 (v6 `arq
 v9))
 (v6 (j7 `c1 (o2 `EN `Jv p8))
 (v6 (Q9 6 `mn)
 (v6 (w40 (y30 `gR) (gN 7)
 (v6 `arr
 (v6 `ars
 (v6 (ifD `EO
 (v6 `art
 v9)
 (v6 (ifD `RO
 (v6 `aru
 v9)
 (v6 `arv
 v9))
 v9))
 v9))))
 (v6 (tl0 6)
 v9)))))))
noncomputable def je0:`g:=`arw
noncomputable def K1:`N:=mkN 2 je0 yv0
noncomputable def y80:GS:=(v6 (ifD `arx
 (v6 (V5 (o2 (o2 (o2 `ay (o2 (o2 `ci `ary W2) `aS R0) p8) `ary R0) `aS m7))
 v9)
 v9)
 (v6 (ifD `EO
 (v6 (V5 (o2 (o2 `EN (gc (`d 300)) p8) (gc (`d 150)) R0))
 v9)
 v9)
 (v6 (ifD `RO
 (v6 (V5 (o2 (o2 `EN (gc (`d 40001)) p8) (gc (`d 20000)) R0))
 v9)
 v9)
 (v6 (V5 (o2 (o2 (o2 `EN (o2 (o2 `ci `arz W2) `aS R0) p8) `arz R0) `aS m7))
 v9))))
noncomputable def l40:`g:=`nm
noncomputable def N5:`N:=mkF 2 l40 y80
noncomputable def xi0:GSB:=(t8 (j4 (j7 `mj (dgO 0 `dO)))
 (t8 (j4 (V7 (j5 `YP) (putL 0 `dO)))
 (t8 (j4 (j7 `df (dgO 0 `YT)))
 (t8 (ifB `arA
 (t8 `arB
 `v)
 `v)
 (t8 `arC
 `v)))))
noncomputable def jv0:`g:=`arD
noncomputable def W6:`az:=mkB 1 jv0 0 xi0
noncomputable def yj0:GSB:=(t8 `RP
 (t8 (ifB `arE
 (t8 `i9
 `v)
 `v)
 (t8 (ifB (ob (o2 `zt `fZ ltD))
 (t8 (Y6 (j5 (oA (z7 (o2 `V `kp o8) (z7 `Yz v5)) N5)))
 `v)
 `v)
 (t8 (Y6 (j5 (T3 (z7 `dO (z7 (o2 (o2 `V `kp o8) (dgO 0 `JG) p8) v5)))))
 `v))))
noncomputable def sy0:`g:=`arF
noncomputable def U3:`az:=mkB 1 sy0 0 yj0
noncomputable def xj0:GSB:=(t8 `arG
 (t8 (j4 (V7 `Yt `c0))
 (t8 (Y6 (j5 (qb0 `Jt (z7 (X6 1 [2,3] (y30 `gR) `bJ noT (o2 `V (o2 (o2 `arH (o2 `ay `ay W2) m7) (`arI) p8) ixD)) v5))))
 `v)))
noncomputable def jz0:`g:=`RQ
noncomputable def G6:`az:=mkB 2 jz0 0 xj0
noncomputable def yc0:GSB:=(t8 `RP
 (t8 `arJ
 (t8 (j4 (ifD `EP
 (v6 `EQ
 v9)
 v9))
 (t8 (ifB `KX
 (t8 (Y6 (p30 `zA (Y4 0 (z7 (o2 `s8 (gc (`d 21)) p8) v5) G6)))
 `v)
 `v)
 (t8 `arK
 (t8 (ifB `tT
 (t8 (Y6 (j5 (T3 (z7 `s! (z7 (oA `ml U9) v5)))))
 `v)
 `v)
 (t8 `arL
 (t8 `arM
 (t8 `arN
 (t8 (ifB `AQ
 (t8 (Y6 (j5 (T3 (z7 `__ `arO))))
 `v)
 `v)
 (t8 (Y6 (j5 (T3 (z7 `JK (z7 (o2 `e8 (o2 (o2 `V (gc (`d 300)) o8) `JD p8) ixD) `arO)))))
 `v)))))))))))
noncomputable def ur0:`g:=`ER
noncomputable def S8:`az:=mkB 1 ur0 0 yc0
noncomputable def wg0:GS:=(v6 (j7 `df (oA `Y6 U6))
 (v6 (Q9 3 (pr0 `arP))
 (v6 (V7 (j5 (o2 `aS (o2 `aj `kp p8) m7)) `arQ)
 (v6 (ifD (ob (dgO 3 `Jy))
 (v6 (V7 (j5 (o2 `aS (o2 (o2 `aj `Yn o8) `Yj p8) m7)) `arQ)
 v9)
 v9)
 (v6 (V7 (j5 (oA (z7 (o2 (o2 `aj (gc (`d 11)) o8) (o2 (o2 `zs (gc (`d 30)) s80) `Yo m7) p8) (z7 (o2 `arR `arS ixD) v5)) K1)) (`s' 3 `YG))
 (v6 (kx0 (lp0 U9 (yg0 1 [3] 3 1 (y30 (z7 (dgO 3 `JG) v5)) `bJ `RR)))
 v9))))))
noncomputable def gk0:`g:=`RS
noncomputable def M5:`N:=mkF 2 gk0 wg0
universe zz
universe Bt
namespace Rk
open DL W
open Bt (N8 U6 yv0 K1 xi0 W6 y80 N5 yj0 U3 xj0 G6 yc0 S8 wg0 M5)
section
noncomputable def py0:GS:=(v6 (ifD `oZ
 (v6 (V5 (T3 (z7 `dO (z7 (pv0 `V `JI f70) v5))))
 v9)
 v9)
 (v6 (V5 `ay)
 v9))
noncomputable def gl0:`g:=`i'
noncomputable def yx0:`N:=mkF 2 gl0 py0
noncomputable def tz0:GS:=(v6 (ifD `nn
 (v6 `no
 v9)
 v9)
 (v6 (ifD `ES
 (v6 `ET
 v9)
 v9)
 (v6 (T4 (X6 2 [] `wa `JE noT `V))
 v9)))
noncomputable def mw0:`g:=`kJ
noncomputable def V2:`N:=mkN 1 mw0 tz0
noncomputable def ug0:GS:=(v6 `qz
 (v6 (Q9 2 (W9 `JP))
 (v6 (V8 `arT
 (v6 `arU
 (v6 (ifD `arV
 (v6 (d7 (K5 1 `bI))
 (v6 `arW
 (v6 `arX
 v9)))
 v9)
 v9)) 100000)
 (v6 `qA
 v9))))
noncomputable def o80:`g:=`RT
noncomputable def J1:`N:=mkN 1 o80 ug0
noncomputable def sw0:GS:=(v6 (j7 `mj (oA `s3 J1))
 (v6 (Q9 2 `mn)
 (v6 (w40 (z40 `V) `c0
 (v6 `arY
 (v6 `arZ
 (v6 (ifD `ar_
 (v6 `ar0
 v9)
 (v6 (ifD `ar1
 (v6 `ar2
 (v6 `ar3
 v9))
 v9)
 v9))
 (v6 (d7 (K5 2 `e8))
 v9)))))
 (v6 (V5 (pb0 (oA `e9 U9)))
 v9))))
noncomputable def j10:`g:=`EU
noncomputable def zu0:`N:=mkF 1 j10 sw0
noncomputable def zv0:GS:=(v6 (ifD `nn
 (v6 `no
 v9)
 v9)
 (v6 (ifD `ES
 (v6 `ET
 v9)
 v9)
 (v6 `qz
 (v6 (ifD `RU
 (v6 `RV
 v9)
 v9)
 (v6 (w40 `wa `df
 (v6 `EV
 v9))
 (v6 `qA
 v9))))))
noncomputable def yr0:`g:=`EW
noncomputable def S6:`N:=`RW
noncomputable def tf0:GS:=(v6 `ar4
 v9)
noncomputable def vo0:`g:=`di
noncomputable def O8:`N:=`ar5
noncomputable def wr0:GS:=(v6 (ifD `RX
 (v6 `RY
 v9)
 v9)
 (v6 `RZ
 v9))
noncomputable def u80:`g:=`dT
noncomputable def y20:`N:=`R_
noncomputable def wc0:GS:=(v6 (ifD `ar6
 (v6 `EM
 v9)
 v9)
 (v6 (ifD `oZ
 (v6 `ar7
 v9)
 v9)
 (v6 `ar8
 v9)))
noncomputable def uc0:`g:=`di
noncomputable def O9:`N:=`ar9
noncomputable def G7:GS:=(v6 `R0
 (v6 `R1
 (v6 (V8 `EX
 (v6 `EY
 (v6 `EZ
 v9)) 100000)
 (v6 `R2
 v9))))
noncomputable def zr0:`g:=`E_
noncomputable def Z4:`N:=`R3
noncomputable def zo0:GS:=(v6 `R4
 v9)
noncomputable def yk0:`g:=`g3
noncomputable def V3:`N:=`R5
noncomputable def wn0:GS:=(v6 (ifD `ar'
 (v6 `ar!
 v9)
 v9)
 (v6 `ar?
 v9))
noncomputable def vw0:`g:=`la
noncomputable def z00:`N:=`asa
noncomputable def za0:GS:=(v6 `R6
 v9)
noncomputable def y90:`g:=`bO
noncomputable def Q0:`N:=`R7
noncomputable def zp0:GS:=(v6 (ifD `nn
 (v6 `R8
 v9)
 v9)
 (v6 `no
 v9))
noncomputable def yq0:`g:=`bO
noncomputable def O3:`N:=`R9
noncomputable def wa0:GS:=(v6 (ifD `R'
 (v6 `asb
 v9)
 v9)
 (v6 (ifD `asc
 (v6 `asd
 (v6 `ase
 v9))
 v9)
 (v6 `asf
 v9)))
noncomputable def u20:`g:=`R!
noncomputable def O5:`N:=`asg
noncomputable def pf0:GS:=(v6 `qz
 (v6 `ash
 (v6 `asi
 (v6 `asj
 (v6 (V8 `R?
 (v6 `Sa
 (v6 `Sb
 (v6 (ifD `Sc
 (v6 `Sd
 v9)
 (v6 (ifD `Se
 (v6 `Sf
 (v6 `Sg
 v9))
 v9)
 v9))
 v9))) 100000)
 (v6 `qA
 v9))))))
noncomputable def ke0:`g:=`Sh
noncomputable def xl0:`N:=`ask
universe zz
universe Rk
namespace W
open DL
noncomputable def hasAll(x s:Str):`M:=x.cps.toList.all λc=>`D (c∈`asl)
noncomputable def nameS:Str := `asm
noncomputable def la0:Str := `asn
noncomputable def isName(x:Str):`M:=(`D (`Si<=8)&&hasAll x nameS)&&`D (0<`Si)
noncomputable def isWord(x:Str):`M:=`D (`Si<=20)&&hasAll x la0
noncomputable def marks(x:D)(m:Str):`M:=match x with
 | `CP=>`D (y=m)
 | _=>`n
noncomputable def oz0:`cl
 | `z=>`b
 | `bL=>`b
 | `B [x,`aR]=>marks x `oV&&`Sj
 | _=>`n
inductive Pt where
 | text (w:Str)|row (vs:`f)|table (ps:`bo)|rcd (c:Str) (ps:`bo)
variable{ps:`O W.Pt}
noncomputable def pr(p:`zF):D:=`B `aso
noncomputable def Pt.d:Pt->D
 | `qB=>`B [`zw,`mF]
 | `i!=>`B [`kq,`B vs]
 | `i?=>`B [`h9,`z1]
 | `wb=>`B [`kr,`dS,`z1]
noncomputable def Pt.vals:Pt->`f
 | `E0=>[]
 | `i!=>vs
 | `i?=>`h7
 | `Sk=>`h7
noncomputable def Pt.pnames:Pt->`g
 | `E0=>[]
 | .row _=>[]
 | `i?=>`e7
 | `Sk=>`e7
noncomputable def Pt.cls:Pt->`g
 | `h? c _=>[c]
 | _=>[]
noncomputable def Pt.all(p:Pt):`g:=p.pnames++p.cls
noncomputable def lk:D->`aX
 | `B [_,`aR]=>`mg
 | _=>`c
structure PsOk(ps:`bo):Prop where
 len:`ar<=12
 names:∀p∈ps,`kv p.1=`b
 vals:∀p∈ps,oz0 p.2=`b
 nd:(`e7).Nodup
noncomputable def Pt.Ok:Pt->Prop
 | `qB=>`asp
 | `i!=>`Sl/\∀v∈vs,`Sm
 | `i?=>`Sn
 | `wb=>`kv c=`b/\`Sn
theorem f50{n:Str}(h:`kv n=`b):n.length<=8:=by
 unfold isName at h;simp only[`a?,`wc] at h;omega
noncomputable def Pt.few(p:Pt):Prop:=`tK<=`P
theorem ft0{v:D}(h:`Sm):`CX∨(∃i,`va)∨∃i,v=`asq/\`eV:=by
 cases v with
 | non=>exact `b4
 | int i=>exact `l (`m ⟨i,rfl⟩)
 | tup xs =>
  match xs,h with
  | [x,`aR],h =>
   simp only[oz0,`a?,`wc] at h;cases x<;>simp[marks] at h
   exact `l (`l ⟨i,by rw[h.1],h.2⟩)
 | _=>cases h
noncomputable def T6:Str := `aro
noncomputable def cg(i:Int):Nat:=`E1 `dr 0
theorem nf0(i:Int)(h0:`eV)(h1:i<36):ixD (`o2) `dG=`a (`s ⟨#[cg i]⟩):=by
 have hl:T6.cps.toList.length=36:=`af
 have hz:T6.length<=`P:=`af
 have:=wi0 (xs:=T6.cps.toList) (i:=i) h0 `apM 0;simp only[ixD,`H hz,`C,`gc];rfl
theorem k60(i:Int)(h0:`eV)(h1:i<36):cg i∈`zG:=by
 have h:∀n:Nat,n<36->`E1 n 0∈`zG:=`af
 exact h `dr `i
theorem kg0(i j:Int)(h0:`eV)(h1:i<36)(h2:0<=j)(h3:j<36)(e:cg i=cg j):i=j:=by
 have h:∀n:Nat,n<36->∀m:Nat,m<36->`E1 n 0=`E1 m 0->n=m:=`af
 have:=h `dr `i `fG `i e;omega
noncomputable def strOf(l:`j):Str:=⟨l.toArray⟩
theorem d10(l:`j)(h1:0<`cB)(h2:`cB<=8)(h3:∀c∈l,`wd):`kv `ti=`b:=by
 unfold isName hasAll;have e:`asr:=`ass
 have e2:`ast:=`asu
 rw[e,e2];simp only[`a?,`wc,`nj];exact⟨`asv,`F⟩
theorem el0{l m:`j}(h:`tb=`as m):l=m:=by
 unfold strOf at h;injection h with h
 simpa using B8 `Vz h
universe W
variable{ps:`O W.Pt}
namespace W
open DL StrLaws Builtin.Str
theorem tx0(l:`j):`ast:=`asu
theorem w70(l:`j):`asr:=`ass
noncomputable def tb0(sep:`j):`E2->`j
 | []=>[]
 | [p]=>p
 | p::q::r=>`asw
universe W
namespace Rm
open DL W PySem.StrLaws
noncomputable def sg0:`j:=(`b6 10).map (48+·)++(`b6 26).map (97+·)
noncomputable def zy0:`j:=32::sg0
noncomputable def link(k:Nat):D:=`B `asx
universe Rm
namespace Bt
open DL W
theorem R5{G:GSB}{b:D}{ds:`f}{r:D}(hl:`v5)(h:∀p,∃δ',G `oM=`Rf/\`Rg):`Rk:=Xl0 hl λp=>`m (h p)
theorem o6{G1 G2:GSB}{δ:Ds}{r:`md}(h:`OA)(k:`u5=r):`asy=r:=by unfold t8;rw[h];exact k
theorem Z2{G1 G2:GSB}{δ:Ds}{d:D}(h:`hM=`we):`asy=`we:=by unfold t8;rw[h]
theorem j9{δ:Ds}(h:`Eu):j4 G δ=`cA:=by unfold j4;rw[h]
theorem yf0{g:GB}{δ:Ds}(h:`CU):`So=`x7:=`asz
theorem zn0{g:GB}{δ:Ds}(h:`u'):`So=Gb δ:=`asz
theorem V1{δ:Ds}{d:D}(h:`E3):Y6 gx δ=`we:=by unfold Y6;rw[h];rfl
theorem W7{g:GE}{δ:Ds}{d:D}(h:`fq):j5 g δ=`a (d,δ):=by unfold j5;rw[h];rfl
noncomputable def bk(k:Int)(cs:`u)(sm:`M)(m:Int)(pool:`g):D:=`bv (`m [`AT,`Sp,`Sq,`l `Jz,`l "pool"]) [`o_,`kt,`np,`d m,`o5]
theorem Q5{ga gb:GE}{δ:Ds}{i j:Int}(h1:`cV=`zH)(h2:`dc=`a `tc)(h:0<j):o2 ga gb p8 δ=`Ou:=by
 rw[p6 h1 h2];show (if 0<j then _ else _)=_;rw[`d_]
theorem vr0(i j:Int)(h:`VR):`asA:=by simp only[W2];rw[`H (`l h)]
theorem jo0{cs:`u}{g:GE}{δ:Ds}{i:Int}(s0 s1:Sl)(hδ:δ=[s0,s1,`zI])(h:`asB)(h0:`eV)(h1:i<`zJ):∃c:Int,o2 `aj g ixD δ=`Sr:=by
 refine⟨cs[i.toNat]'`i,?_⟩;have e:gv 2 δ=`asC:=by rw[hδ];rfl
 rw[p6 e h];show atI (`asD) i=_;rw[wi0 h0 (by rw[`U];exact h1) `z];have:`dr<`zJ:=`F
 simp[`cm,`C]
theorem nj0(k:Int)(h0:`iT)(hk:`Ss)(cs:`u)(hc:`nq)(sm:`M)(m:Int)(pool:`g):`asE:=by
 have pos:0<`zJ:=List.length_pos_iff.mpr hc;have J:∀(z:Int),(∀p:`e,∀δ:Ds,δ=`wf->(t8 (ifB `arA (t8 `arB `v) `v)
   (t8 `arC `v)) δ=`a (.rt `km δ))->0<=z->`asE:=λz h hz=>by
  refine⟨z,hz,R5 rfl λp=>⟨`wf,?_,rfl⟩⟩;refine o6 (δ':=[`wg,`o0,.un]) `St ?_;refine o6 (δ':=[`mp,`o0,.un]) `St ?_;refine o6 (δ':=`wf) `St ?_;exact h p _ rfl
 have len:∀(s0:Sl),oA `e9 W8 `wh=`a (`d `E4):=λs0=>by
  show `a (`bl ((`asD).length:Int))=_;rw[`U]
 have cond:∀s0:Sl,ob `Ym `wh=`a (`D (k<`E4)):=λs0=>by
  unfold ob;rw[p6 (x:=`o_) rfl (len s0)];rfl
 by_cases hlt:k<`E4
 ·have ex:∃c:Int,∀s0:Sl,o2 `aj `V ixD `wh=`Sr:=by
   obtain⟨c,hc⟩:=jo0 (cs:=cs) (g:=gv 1) (δ:=`asF) _ _ rfl rfl h0 hlt;exact⟨c,λs0=>hc⟩
  obtain⟨c,hc⟩:=ex;refine J (c%(10 ^ 64+57)) `asG `asH;subst hδ;refine Z2 ?_;rw[yf0 (by rw[cond,`bm hlt])];refine Z2 (V1 (W7 (Q5 (hc _) ?_ `t)));kernel_rfl
 ·obtain⟨c,hc⟩:∃c:Int,∀s0:Sl,o2 `aj `Yp ixD `wh=`Sr:=by
   have em:∀s0:Sl,o2 `V `s6 p8 `wh=`a (`d (k%`E4)):=λs0=>Q5 rfl (len s0) `i
   obtain⟨c,hc⟩:=jo0 (cs:=cs) (δ:=`asF) _ _ rfl (em .un) `asI (`asJ);refine⟨c,λs0=>?_⟩;rw[p6 (x:=`kt) rfl (em .un)] at hc;rw[p6 (x:=`kt) rfl (em s0)];exact hc
  refine J ((`Su+7)*48271%2147483647) `asG `asH;subst hδ;refine o6 (δ':=`wf) (by rw[zn0 (by rw[cond,`bi hlt])];rfl) ?_;refine Z2 (V1 (W7 (Q5 ((p6 (x:=`d (`Su+7)) (y:=`Ys) ?_ rfl).trans (vr0 _ 48271 `t)) rfl `t)));have e3:o2 `Yr `V W2 `wf=`a (`asK):=by
   rw[p6 (x:=`d (3*k)) (y:=`o_) (`Sv (vr0 3 k `i)) rfl];exact `E5
  exact(p6 (x:=`d `Su) (y:=`d 7) ((p6 (x:=`d (`Zr)) (y:=`asK) (Q5 (hc _) rfl `t) e3).trans rfl) rfl).trans rfl
universe Bt
namespace Pn
open DL W
noncomputable def put:Pt->`f->Pt
 | `qB,_=>`qB
 | .row _,vs=>`i!
 | `i?,vs=>`s? (`Kg)
 | `wb,vs=>`h? c (`Kg)
universe Pn
namespace Gw
open DL W
noncomputable def N8:GS:=(v6 (ifD `arl
 (v6 `arm
 v9)
 v9)
 (v6 `EM
 v9))
noncomputable def wo0:`g:=`k?
noncomputable def U6:`N:=`arn
universe Gw
namespace Gw
open DL W StrLaws
theorem uo0(i j:Int)(h:`VQ):`asA:=by simp only[W2];rw[`H (`m h)]
theorem T10(i j:Int)(h:0<j):p8 `dG `tc=`Ou:=by simp only[p8,ii];rw[`d_]
theorem Vp0(i j:Int)(h:`BZ):o8 `dG `tc=`ahl:=by simp only[o8,ii];rw[`d_]
theorem s60{g:GE}{δ:Ds}{d:D}(h1:`asL)(h2:`fq)(h3:`cB<`P):d7 (K5 i g) δ=`a (.nx (`a1 i (.ow (`q (l++[d]))))):=by
 unfold d7 K5;rw[h1,h2];simp only[`k];rw[`H h3];rfl
theorem Yu0(ns:`u)(k:Int)(h0:`iT):∃z,U6 [`mq,`o_]=`a `km:=by
 by_cases h:k<`jT
 ·have J:`NL<`jT:=`F
  refine⟨ns[k.toNat],`Sw⟩;rw[N6 (by
   show `asM;rw[`bm `Sx])]
  refine `ts;show atI `Sy k=_;rw[wi0 h0 `Sx `z];simp[`cm,J]
 ·refine⟨0,O1 rfl (t6 (δ':=[`ky,`o0]) ?_ rfl)⟩
  rw[Y5 (by
   show `asM;rw[`bi `Sx])]
  rfl
theorem Vb0(l:`j)(k:Int)(h0:`iT)(h1:k<=`cB):`W' `ti `c (`eZ)=`as (l.take `NL):=by
 show sliceText _ _ _=_;rw[sliceText_to ⟨h0,by rw[tx0];exact h1⟩,tx0];simp[`as]
theorem Ul0(a b:`j):`Sz:=by
 show (⟨_⟩:Str)=⟨_⟩;simp[`as]
theorem lj0(a b:`j)(h:`asN):m7 (`s (`td)) (`s (`as b))=`a (`s (`as `te)):=by
 simp only[m7];rw[`H (by rw[w70,w70];exact h),Ul0]
universe Gw
namespace Gw
open DL W
structure Vk(v:D)(m:Int):Prop where
 ok:`Sm
 bd:∀i,`va->`VP<`E6
 lk:∀k,lk v=`eZ->k<m
structure Gd(p:Pt)(m:Int)(nm:`g):Prop where
 ok:p.Ok
 vk:∀v∈`e?,`E7
 nms:∀s∈`nr,s∈nm
theorem e50(l:`j)(h2:`cB<=20)(h3:∀c∈l,`SA):isWord `ti=`b:=by
 unfold isWord hasAll;rw[w70,tx0];simp only[`a?,`wc,`nj];exact`asv
universe Gw
namespace Bt
open DL W
theorem Z9{g:GE}{δ:Ds}{b:`M}(h:`asO):ob g δ=`gI:=`asP
theorem fv0(c:Int)(sm:`M):∃n:Int,n.natAbs<`E6/\N5 [`d c,`np]=`a (`vd):=by
 cases sm with
 | true=>exact⟨c%(2*10 ^ 12 - 1) - 10 ^ 12+1,`F,O1 rfl (U4 (by rw[`wi];exact `E8))⟩
 | false =>
  have s0:∀(Ga G:GS) (r:`ol),G `wj=r->v6 (ifD `arx Ga v9) G `wj=r:=λGa G r h=>t6 `lb h
  have e0:∀j:Int,ob `asQ `wj=`a (`D (c%3=j)):=`asR
  by_cases h0:c%3=0
  ·exact⟨c/3%300 - 150,`F,O1 rfl (s0 _ _ _ (U4 (by rw[N6 (by rw[e0,`bm h0])];exact `E8)))⟩
  ·have s1:∀(Ga G:GS) (r:`ol),G `wj=r->v6 (ifD `EO Ga v9) G `wj=r:=λGa G r h=>t6 (by rw[Y5 (by rw[e0,`bi h0])];rfl) h
   by_cases h1:c%3=1
   ·exact⟨c/3%40001 - 20000,`F,O1 rfl (s0 _ _ _ (s1 _ _ _ (U4 (by rw[N6 (by rw[e0,`bm h1])];exact `E8))))⟩
   ·exact⟨c/3%(2*`E6 - 1) - `E6+1,`F,O1 rfl (s0 _ _ _ (s1 _ _ _ (t6 (by rw[Y5 (by rw[e0,`bi h1])];rfl) (`E8))))⟩
theorem X8{gA:GA}{f:`az}{δ:Ds}{p:`e}{b r:D}{ds:`f}(h:`bw=`apT)(hA:`iY)(hf:`Re):`Zv=`a (r,`a1 i (.ow (j8 p b'))):=by
 unfold Y4;rw[h];show (`ge λds=>`asS λr=>(r.1,`a1 i (.ow (`B [`v6,r.2]))))=_;rw[hA];show `asS _=_;rw[hf];rfl
theorem ma0{gA:GA}{f:`az}{δ:Ds}{ks:KS}{vs:`f}{r:D}{ds:`f}(h:`bw=`apU)(hA:`iY)(hf:`Zw=`sZ):`asT:=by
 unfold Y4;rw[h];show (`ge λds=>`asU `asV)=_;rw[hA];show `asU _=_;rw[hf];rfl
theorem P0{ft:`aF}{δ δ1 δ2:Ds}{d:D}(h:`eg=`a (d,δ1))(k:ft d δ1=`a δ2):V7 gx ft δ=`Oz:=by
 unfold V7;rw[h];show (ft d δ1).map _=_;rw[k];rfl
open Gw (Vk)
theorem Yg0(i:Int):oz0 (`asq)=`Sj:=by
 show (`asW&&`Sj)=_;rw[show `asW=`b from `af];rfl
theorem ce0(k:Int)(h0:`iT)(hk:`Ss)(cs:`u)(hc:`nq)(sm:`M)(m:Int)(hm:1<=m)(pool:`g):∃v,`E7/\U3 `f0 []=`a (v,`mo):=by
 obtain⟨z,hz,hn⟩:=`asX;have call:∀p:`e,j4 `Yu (K8 sy0 0 p `f0 [])=`a (.nx `hs):=λp =>
  `asY
 have c8:∀(p:`e) (j:Int),ob (o2 `zt `zK eqD) `hs=`a (`D (z%8=j)):=`asZ
 have l8:∀(p:`e) (j:Int),ob (o2 `zt `zK ltD) `hs=`a (`D (z%8<j)):=`asZ
 by_cases q0:z%8=0
 ·refine⟨`z,⟨rfl,`as_,λk e=>by cases e⟩,R5 rfl λp=>⟨`hs,o6 `SB `qC,rfl⟩⟩
  rw[yf0 (by rw[c8,`SC])];exact `AY
 have s1:∀(p:`e) (Ga G:GSB) (r:`md),G `hs=r->t8 (ifB `arE Ga `v) G `hs=r:=λp Ga G r h =>
  o6 (δ':=`hs) (by rw[zn0 (by rw[c8,`SD])];rfl) h
 by_cases q4:z%8<4
 ·obtain⟨n,M,J⟩:=fv0 (z/8) sm
  refine⟨`vd,⟨rfl,(λi e=>by cases e;exact M),λk e=>by cases e⟩,R5 rfl λp=>⟨`hs,o6 `SB (s1 p _ _ _ `qC),rfl⟩⟩;rw[yf0 (by rw[l8,`bm q4])];refine `Ka;rw[b7 (ds:=[`d (z/8),`np]) (`am rfl (`am `f1 rfl))];exact J
 ·refine⟨`B [`fX,`d (z/8%m)],⟨by rw[Yg0];exact D7 `asI,`as_,λk e=>by cases e;exact `asJ⟩,R5 rfl λp=>⟨`hs,o6 `SB (s1 p _ _ _ (o6 (δ':=`hs) ?_ ?_)),rfl⟩⟩
  ·rw[zn0 (by rw[l8,`bi q4])]
   rfl
  ·refine Z2 (V1 (W7 (ys0 (`am rfl (`am (Q5 (i:=z/8) (j:=m) rfl `f1 `i) rfl)) (`aqH))))
theorem h00(cs:`u)(hc:`nq)(sm:`M)(m:Int)(hm:1<=m)(pool:`g):∀(items:`f) (k:Int),`iT->k+`bG<1000000 ->
  ∃vs:`f,`cx=`bG/\(∀v∈vs,Gw.Vk v m)/\J6 `bJ `JC 1 `mv `ap `f0=`a (vs,bk (k+`bG) cs sm m `aI)
 | [],k,_,_=>⟨[],rfl,`SE,by rw[show k+(([]:`f).length:Int)=k by simp];rfl⟩
 | `ae,k,h0,hk=>by
  simp only[`aH] at hk;obtain⟨v,hv,e⟩:=ce0 k h0 `i cs hc sm m hm `aI;obtain⟨vs,hl,J,ih⟩:=h00 cs hc sm m hm `aI ds `gS `i `i;refine⟨`vM,`SF,`iW,?_⟩
  ·rcases `uY with rfl|hx
   ·exact hv
   ·exact J x hx
  ·have c:Y4 1 v5 U3 `JY=`a (v,[`lR,.ow (`mo)]):=`as0
   unfold J6;rw[`as1,`k,c];show ((J6 `bJ `JC 1 `mv ds (`mo)).map λq=>(v::q.1,q.2))=_;rw[ih,show k+1+(`bf:Int)=k+(`CS:Int) by simp only[`aH];omega];rfl
universe Bt
namespace Bt
open DL W StrLaws
theorem ea0(a b:`j):`Sz:=by
 show (⟨a.toArray++b.toArray⟩:Str)=⟨(a++b).toArray⟩;rw[List.append_toArray]
theorem bq0(sep:`j):∀parts:`E2,`WK (`E9) (`Zx `as)=`as2:=by
 intro parts;unfold Txt.join;rw[StrLaws.glued_eq_join]
 induction `th with
 | nil=>rfl
 | cons p r ih =>
  cases r with
  | nil=>rfl
  | cons q r =>
   show `as p++`E9++PySem.Str.join (`E9) ((q::r).map `as)=`as (`asw);rw[ih,ea0,ea0]
theorem cl0{g:GE}{δ:Ds}{S:PySem.Str}(sep:`j)(parts:`E2)(B:Nat)(hS:S=`E9)(hg:`al=`a (`as3))(hB:∀p∈`th,`as4)(hz:parts.length*(B+`WJ)<=16777216) :
  qb0 (gc (`s S)) `z9 δ=`a (`s (`as2)):=by
 have J:∀l:`E2,(∀p∈l,`as4)->((`ea `as).map `WI).sum<=`cB*B:=by
  intro l
  induction l with
  | nil=>intro _;simp
  | cons p l ih =>
   intro h;have:=ih `aoA
   have:=h p A6;rw[`L,`L,List.sum_cons,`aH,w70,Nat.add_mul];omega
 have e1:=strs_map `as `th;rw[az0 (x:=`s S) (ds:=[`as3]) rfl (`am hg rfl)];simp only[ld0];rw[e1,`k,`H,hS,bq0];have:=J `th hB;rw[hS,w70,`U];rw[Nat.mul_add] at hz;omega
theorem nr0:∀l:`j,tb0 [] (`ea `SG)=l
 | []=>rfl
 | [c]=>rfl
 | c::d::r=>by
  show[c]++[]++tb0 [] ((d::r).map `SG)=_;rw[nr0 (d::r)];rfl
noncomputable def signs:`j:=`as5
theorem Zq0(k:Int)(h0:`iT)(hk:`Ss)(cs:`u)(hc:`nq)(sm:`M)(m:Int)(pool:`g)(n:Nat)(hn:n<=20):∃l:`j,`cB=n/\(∀c∈l,c∈`hm)/\G6 `f0 [`ku]=`a (`SH,`mo):=by
 obtain⟨z,hz,he⟩:=`asX;obtain⟨S,hS⟩:∃S:Str,S = `JA := `ag;have J:`as6=`hm:=`as7
 have O:signs.length=37:=`af
 let at':`fv:=λj=>`as8 (`zL%37).toNat 0
 have M:∀j,at' j∈`hm:=λj=>by
  have a1:=`as9;have a2:=`as';show `as8 _ 0∈`hm;rw[`cm,`X'];exact h8 _
 refine⟨`SI,`bs,`E',R5 rfl λp=>⟨`SJ,?_,rfl⟩⟩
 ·obtain⟨j,_,rfl⟩:=`e4 hc
  exact M j
 ·refine o6 (δ':=[`wg,`cQ,`J_,.un]) (j9 (`as7)) ?_
  refine o6 (δ':=`SJ) (j9 (P0 (X8 (p:=p) (b:=`JR) rfl rfl he) rfl)) ?_;refine `Ka;have hp:`SI=tb0 [] ((`SI).map `SG):=(nr0 _).symm;rw[hp];refine cl0 [] _ 1 rfl ?_ (λq hq=>by obtain⟨c,_,rfl⟩:=`e4 hq;exact `hD) `mV;have hr:y30 `gR `SJ=`a (`wk):=uw0 rfl `i `i;refine(yz0 hr (by rw[wq0];exact B5 (show _<=20 by omega) `t) (cm0 (λj=>`s (`as [at' j])) λj hj=>⟨`E!,rfl,rfl,?_⟩)).trans ?_
  ·have d1:o2 `aj `Yy o8 `E!=`a (`d (z/(`bH+1))):=by
    show (if `f2<`bH+1/\`bH+1<1073741824 then `a (`bl (z/(`bH+1))) else `c)=_;rw[`wl]
   have d2:o2 `ay `ay W2 `E!=`a (`as!):=`Sv (`E5);have d0:o2 `arH (o2 `ay `ay W2) m7 `E!=`a (`d `zL):=(p6 d1 d2).trans rfl;have d3:=Q5 (gb:=`arI) d0 rfl `Zy;have a1:=`as9;have a2:=`as';rw[p6 (x:=`s S) rfl d3];show (if `er<=`P then (atI `as6 _).map _ else `c)=_;rw[`H (by rw[hS];decide +kernel),J,wi0 a1 (by rw[O];exact a2) 0];rfl
  ·rw[`bW,`bD,`bD]
   rfl
universe Bt
namespace Bt
theorem jm0:(∀d∈`SK,∀s∈`SK,d=0∨s=0∨d*s%13≠0)/\∀d∈`SK,∀s∈`b6 53,d=0∨s=0∨d*s%53≠0:=`af
theorem md0(p:Nat)(hp:`as?)(a:Int)(s:Nat)(h1:1<=s)(h2:s<p)(i d:Nat)(hd:d<13)(h:`ata=`Zz%`o1):d=0:=by
 have e:(p:Int) ∣ ((d*s:Nat):Int):=by
  have:=Int.emod_emod_of_dvd `J0 (Int.dvd_refl `o1);have h':(`atb)%`o1=0:=by
   rw[Int.sub_emod,h,Int.sub_self];rfl
  have e2:`atb=((d*s:Nat):Int):=by
   rw[Int.natCast_add,Int.add_mul,Int.natCast_mul];omega
  rw[e2] at h';exact Int.dvd_of_emod_eq_zero h'
 have e3:d*s%p=0:=Nat.mod_eq_zero_of_dvd (Int.natCast_dvd_natCast.mp e);rcases hp with rfl|rfl
 ·rcases jm0.1 d `atc s `atd with z|z|z
  ·exact z
  ·omega
  ·exact `ate
 ·rcases jm0.2 d `atc s `atd with z|z|z
  ·exact z
  ·omega
  ·exact `ate
theorem unlike(p:Nat)(hp:`as?)(a:Int)(s:Nat)(h1:1<=s)(h2:s<p)(i j:Nat)(hi:i<13)(hj:j<13)(h:`ata=(a+`bH*`ms)%`o1):i=j:=by
 rcases `aor i j with q|q
 ·have:=md0 p hp a s h1 h2 i (j - i) `i (by rw[show i+(j - i)=j by omega];exact h)
  omega
 ·have:=md0 p hp a s h1 h2 j (i - j) `i (by rw[show j+(i - j)=i by omega];exact h.symm)
  omega
universe Bt
namespace Bt
open DL W
noncomputable def NB1:GS:=(v6 `arq
 v9)
noncomputable def NB2:GS:=(v6 `arr
 (v6 `ars
 (v6 (ifD `EO
 (v6 `art
 v9)
 (v6 (ifD `RO
 (v6 `aru
 v9)
 (v6 `arv
 v9))
 v9))
 v9)))
noncomputable def code(N:Int)(k:Nat):`j:=[`J3,`atf]
noncomputable def nmF(N:Int)(w:`j)(a k:Nat):`j:=if N%3=0 then `atg else if N%3=1 then `ath else `SL
structure PoolB(n:Nat)(nm:`g):Prop where
 len:`E?=n
 names:∀s∈nm,`wm
 nd:nm.Nodup
theorem ox0{g:GE}{gl gh:GO}{δ:Ds}{d:D}{l h:`aX}(h1:`fq)(h2:gl δ=`a l)(h3:gh δ=`a h):y00 g gl gh δ=slA d l h:=by
 unfold y00;rw[h1,`k,h2,`k,h3,`k]
theorem kj0{g:GE}{δ:Ds}{i:Int}(h:`asB):`fV g δ=`a (`mg):=by
 unfold someO;rw[h];rfl
theorem ga0(w:`j)(i:Int)(h0:`eV)(h1:i<=`dg)(hl:`dg<=100):slA `zN `c (`mg)=`a (`s (`as (`zM `dr))):=by
 have z:`ja:=`aq
 simp only[slA];rw[`H (by rw[w70];omega),Gw.Vb0 _ _ h0 h1]
theorem Xc0(N:Int)(w:`j)(hw:`Fa)(a:Nat)(ha:a<7)(k:Nat)(hk:k<100)(names:`g)(hl:names.length<=100)(s1 s4 s8:Sl) :
  NB2 [`gT,s1,`gU,`gV,s4,`mu,`J4,`gW,s8]=`a (.nx [`gT,s1,`gU,`gV,s4,`mu,.ow (`q ((`uX++[`ZD]).map `s)),`gW,`J5]):=by
 have z:`ja:=`aq
 have cl:(`mt).length=2:=rfl;refine t6 (δ':=[`gT,s1,`gU,`gV,s4,`mu,`J4,`gW,.sh (`SM)]) (X7 (d:=`SM) (by
  rw[p6 (x:=`o2) (y:=`d ((N+`cg)%36)) rfl rfl];exact `SN)) ?_
 refine t6 (δ':=`tk) (X7 (d:=`o4) (by
  rw[p6 (x:=`SM) (y:=`s (`as [`atf])) rfl (by
   rw[p6 (x:=`o2) (y:=`d `ZA) rfl rfl];exact `SN)]
  exact `ati)) ?_
 have app:∀(g:GE) (l:`j),g `tk=`a (`SH) ->
   v6 (d7 (K5 6 g)) v9 `tk=`a (.nx [`gT,s1,`gU,`gV,s4,`mu,.ow (`q ((`uX++[`tb]).map `s)),`gW,`J5]):=λg l h=>by
  refine t6 (`wn (l:=`J2 `s) (d:=`SH) rfl h `eo) ?_;rw[`b0];rfl
 refine `Fb;have c3:∀j:Int,ob `asQ `tk=`a (`D (N%3=j)):=`asR
 by_cases q0:N%3=0
 ·rw[N6 (by rw[c3,`SC]),show `o3=`atg by unfold nmF;rw[`H q0]]
  refine `SO;rw[p6 (x:=`s (`as (`zM a))) (y:=`o4) (by
   show slA `zN `c (`a `sm)=_;rw[`atj,`bW]) rfl]
  exact `atk
 ·rw[Y5 (by rw[c3,`SD])]
  refine `Fb
  by_cases q1:N%3=1
  ·rw[N6 (by rw[c3,`bm q1]),show `o3=`ath by unfold nmF;rw[`ad q0,`H q1]]
   refine `SO;rw[p6 (x:=`s (`as (`ZB))) (y:=`o4) (by
    show slA `zN `c (`a (`cg%7))=_;rw[`atj,show (`cg%7).toNat=k%7 by omega]) rfl]
   exact `atk
  ·rw[Y5 (by rw[c3,`bi q1]),show `o3=`SL by unfold nmF;rw[`ad q0,`ad q1]]
   refine `SO
   by_cases q3:35<k
   ·have e:`atl=`a (`ko):=by
     rw[p6 (x:=`dN) (y:=`dN) rfl (by
      rw[b7 (ds:=[`oe]) (`am (by
       show `atm;rw[`ns]) rfl)]
      rfl)]
     rfl
    rw[ox0 (d:=`o4) (l:=`c) (h:=`a 2) rfl rfl (kj0 e)];rw[`H q3];exact ga0 _ 2 `i `Fc `Fc
   ·have e:`atl=`a (`dN):=by
     rw[p6 (x:=`dN) (y:=`el) rfl (by
      rw[b7 (ds:=[`xd]) (`am (by
       show `atm;rw[`fb]) rfl)]
      rfl)]
     rfl
    rw[ox0 (d:=`o4) (l:=`c) (h:=`a 1) rfl rfl (kj0 e)];rw[`ad q3];exact ga0 _ 1 `i `Fc `Fc
theorem code_inj(N:Int)(i j:Nat)(hi:i<72)(hj:j<72)(e:code N i=code N j):i=j:=by
 unfold code at e;injection e with e1 e2
 injection e2 with e2 _
 have e1:=kg0 _ _ `i `i `i `i e1;have e2:=kg0 _ _ `i `i `i `i e2;omega
theorem p50(N:Int)(k:Nat):∀c∈`mt,`wd:=λc hc=>by
 unfold code at hc;rcases `be hc with rfl|hc
 ·exact `SP
 ·rw[`e3 hc];exact `SP
theorem wy0(N:Int)(k:Nat):(`mt).length=2:=rfl
theorem Yl0(N:Int)(w:`j)(hw:`Fa)(a:Nat)(ha:a<7)(k:Nat):0<`atn/\`atn<=8:=by
 unfold nmF;split
 ·rw[`W,`c_,wy0];omega
 ·split
  ·rw[`W,`c_,wy0];omega
  ·rw[`c_,wy0];split<;>omega
theorem Yz0(N:Int)(w:`j)(hm:∀c∈w,`wd)(a k:Nat):∀c∈`o3,`wd:=λc hc=>by
 unfold nmF at hc;split at hc
 ·rcases `d5 hc with q|q
  ·exact `ato
  ·exact `atp
 ·split at hc
  ·rcases `d5 hc with q|q
   ·exact `ato
   ·exact `atp
  ·exact p50 N k c (y8 hc)
theorem Z50(N:Int)(w:`j)(hw:`Fa)(a:Nat)(ha:a<7)(i j:Nat)(hi:i<53)(hj:j<53)(e:nmF N w a i=nmF N w a j):i=j:=by
 unfold nmF at e;split at e
 ·exact code_inj N i j `i `i (List.append_cancel_left e)
 ·split at e
  ·have:=`atq
   simp only[`W,`c_,wy0] at this;have e2:=(List.append_inj e (by rw[`c_,`c_];omega)).2;exact code_inj N i j `i `i e2
  ·have hl:=`atq
   rw[`c_,`c_,wy0,wy0] at hl;have h1:∀k,(`SL)[0]?=`a (`J3):=λk=>by
    rw[List.getElem?_take,`H (`SQ)];rfl
   have e0:=h1 i;rw[e,h1 j] at e0;have e0:=A3 e0;have e0:=kg0 _ _ `i `i `i `i e0
   by_cases q1:35<i<;>by_cases q2:35<j<;>simp only[q1,q2,`dA,`b?] at hl<;>omega
theorem bp0(N:Int)(n:Nat)(hn:n<=53):∃nm,K1 [`d N,`ku]=`a `atr/\PoolB n nm:=by
 have z:`ja:=`aq
 obtain⟨δ',l1,w,s4,rfl,hw,hm⟩:=vq0 (f:=gN 4) (G:=NB1) (λi δ=>∃(w:`j) (s4:Sl),δ=[`gT,`cQ,`gU,`gV,s4,.un,.un,.un,.un]/\`dg=i/\∀x∈w,x∈`zG) (M9 0 8) 0
  [`gT,`cQ,`gU,`_8,.un,.un,.un,.un,.un] (by
   rintro j d δ hj ⟨w,s4,rfl,hl,hx⟩;obtain⟨J,rfl⟩:=ij0 hj;have J:j<8:=J;obtain⟨q,hq⟩:∃q:Int,q=N/`SR%36:=`ag;have jj:0<=`tj/\`tj<=49:=by
    have:j=0∨j=1∨j=2∨j=3∨j=4∨j=5∨j=6∨j=7:=`F
    rcases `C with rfl|rfl|rfl|rfl|rfl|rfl|rfl|rfl<;>decide
   refine⟨_,[`gT,`cQ,`gU,.sh (`ats),`mr,.un,.un,.un,.un],rfl,?_,w++[cg q],_,rfl,`SF,λx M=>?_⟩
   ·refine t6 (X7 (d:=`ats) ?_) rfl
    rw[p6 (x:=`J1) (y:=`s (`as [cg q])) rfl (by
     rw[p6 (x:=`o2) (y:=`d q) rfl (by
      rw[p6 (x:=`d (N/`SR)) (y:=`d 36) (by
       rw[p6 (x:=`d N) (y:=`d `SR) rfl (by
        rw[p6 (x:=`as!) (y:=`d 3) (by rw[p6 (x:=`dL) (y:=`dL) rfl rfl];exact `E5) rfl];rfl)]
       exact Gw.Vp0 _ _ `i) rfl]
      rw[hq];exact Gw.T10 _ _ `t)]
     exact `SN)]
    exact `ati
   ·rcases `d5 M with q'|q'
    ·exact hx x q'
    ·rw[`e3 q'];exact `SP) ⟨[],_,rfl,rfl,λx hx=>by cases hx⟩
 have hw:`Fa:=hw;obtain⟨a,ha⟩:∃a:Nat,`sm=N/3%7:=⟨(N/3%7).toNat,`F⟩;obtain⟨U,m1,s7,s8,rfl⟩:=vq0 (f:=gN 7) (G:=NB2) (λi δ=>∃(s7 s8:Sl),δ=[`gT,`cQ,`gU,`gV,s4,`mu,.ow (`q (((`b6 i).map `SS).map `s)),s7,s8]) (`wk) 0
  `att (by
   rintro j d δ hj ⟨s7,s8,rfl⟩;obtain⟨J,rfl⟩:=ij0 hj;rw[`bW] at J;refine⟨_,_,rfl,Xc0 N w hw a `i j `i ((`b6 (0+j)).map `SS) `mV _ _ _,`mr,.sh (`s (`as (code N j))),?_⟩;rw[`ip,`atu,`b0,`b0,`b0];rfl) ⟨_,_,rfl⟩
 rw[wq0,`bW,`ip] at m1;refine⟨`JZ `SS,S5 rfl (t6 (X7 (d:=`o2) rfl) (t6 (X7 (d:=`ZC) rfl) (t6 (v60 (items:=M9 0 8) rfl l1) (t6 (X7 (d:=`zO) (by rw[ha];rfl)) (t6 (δ':=`att) rfl (t6 (v60 (items:=`wk) `atv m1) `o')))))),?_,`atw,?_⟩
 ·simp
 ·obtain⟨k,hk,rfl⟩:=`ST
  obtain⟨h1,h2⟩:=Yl0 N w hw a `i k;exact d10 _ h1 h2 (Yz0 N w hm a k)
 ·refine C00.mpr (C10.mpr (C20 ?_ (C30 (n:=n))))
  intro i j hi hj O e;have hi:=`zS hi;have hj:=`Fd;exact O (Z50 N w hw a `i i j `i `i (el0 e))
universe Bt
namespace Bt
open DL W
open Gw (Gd Vk)
theorem c40:∀c∈`hm,`SA:=`af
theorem Y00(z:Int)(sm:`M):∃n:Nat,n<=12/\∀(p:`e) (k:Int) (cs:`u) (m:Int) (pool:`g),
  j4 (ifD `EP
 (v6 `EQ
 v9)
 v9) [`wg,`bV,`zT,.un,.un,.un,.un]=`a (.nx [`wg,`bV,`cQ,.un,.un,.un,.un]):=by
 cases sm with
 | true =>
  refine⟨`atx,`F,`aty⟩;rw[`my,show ((`atx:Nat):Int)=z/4%4 by omega];rfl
 | false =>
  have ix:∀(s0:Sl) (t:Nat) (r:Int),`Fe=`SU->([`zU,`zU,z/4%13]:`u)[t]?=`dK->`atz:=λs0 t r ht hr=>by
   have hl:t<3:=by
    have:=(`eN hr).1
    simpa using `C
   rw[p6 (x:=`q (`atA `d)) (y:=`d `SU) `JV (by rw[← ht];rfl)];show atI (`atA `bl) `SU=_;rw[wi0 `i `mV `z,`bW,`cm,`ex,hr];rfl
  have J:∀r:Int,(∀s0:Sl,`atz)->0<=r->r<=12->∃n:Nat,n<=12/\∀(p:`e) (k:Int) (cs:`u) (m:Int) (pool:`g),
   j4 (ifD `EP
 (v6 `EQ
 v9)
 v9) [`atB,`bV,`zT,.un,.un,.un,.un]=`a (.nx [`atB,`bV,`cQ,.un,.un,.un,.un]):=λr h h0 h1=>by
   refine⟨r.toNat,`F,`aty⟩;rw[`ht,show ((r.toNat:Nat):Int)=r by omega];exact t6 (X7 (h _)) rfl
  have:`Fe=0∨`Fe=1∨`Fe=2:=`F
  rcases `C with q|q|q
  ·exact J _ (λs0=>ix s0 0 _ q rfl) `i `i
  ·exact J _ (λs0=>ix s0 1 _ q rfl) `i `i
  ·exact J _ (λs0=>ix s0 2 _ q rfl) `i `i
theorem Yd0{δ:Ds}{p:`e}{k:Int}{cs:`u}{sm:`M}{m:Int}{vs:`f}{gi:GA}{f:`az}{k':Int}(h0:δ[0]?=`a (`wg))(hi:`CV)(hl:`m5)
  (hc:`atC) (j:Nat) :
  p80 j (yg0 1 [0] 0 1 gi `bJ `J6) δ=`a (.nx ((`a1 0 `atD).set j (`o6))):=by
 unfold p80 yg0;rw[h0];show `gk _ (`p7 _)=_;rw[hi,`k,`k3];have e:M7 1 [0] δ=`mv:=by
  show`wo++[q30 δ[0]?]=_;rw[h0];rfl
 rw[e];show `gk _ ((`J7).bind _)=_;rw[hc];rfl
theorem Y90{ga:GE}{δ:Ds}{d r:D}(h:`cV=`a2)(hf:`nb)(hx:`eg=`SV):p30 ga gx δ=`a (`B [d,r],δ'):=by
 unfold p30;rw[h,`k,`vO,hx];rfl
theorem ru0{np:Nat}{nm:`g}(hp:`atE)(i:Int)(h0:`eV)(h1:i<np):ixD `atr `dG=`a (`s (`SW))/\`SW∈nm:=by
 have hl:=hp.len;have J:`dr<`E?:=`F
 refine`CK
 ·show atI (nm.map `em) i=_
  rw[wi0 h0 `eo `z];simp[`cm,J]
 ·rw[show `SW=nm[i.toNat] by simp[`cm,J]]
  exact h8 J
theorem getD_inj{np:Nat}{nm:`g}(hp:`atE)(hi:i<np)(hj:j<np)(e:`atF=`atG):i=j:=by
 have hl:=hp.len;have h1:i<`E?:=`F
 have h2:j<`E?:=`F
 rw[show `atF=nm[i] by simp[`cm,h1],show `atG=nm[j] by simp[`cm,h2]] at e;exact(n9 hp.nd).mp e
theorem c00{np:Nat}(hnp:`Ff)(P:`SX)(z:Int)(st:Nat)(h1:1<=st)(h2:st<np)(m:Int)(vs:`f)(hl:`Sl)(hv:∀v∈vs,`E7):∃ps:`bo,`Sn/\(∀p∈ps,p.1∈`aI)/\`h7=vs /\
  ∀(s0 s2 s6:Sl),oA `YI U9 [s0,`bV,s2,`o6,`to,`z0,s6]=`a (`z1):=by
 have z1:`ja:=`aq
 have U:=P.len;obtain⟨ix,O⟩:∃ix:`fv,ix=λ(j:Nat)=>(`atH).toNat:=`ag
 have M:∀j,`SY=`atH:=λj=>by
  rw[O];have:=D6 (`zW) `atI;show (((_:Int).toNat:Nat):Int)=_;omega
 have J:∀j,ix j<np:=λj=>by
  have:=L0 (`zW) (show `f2<np by omega);have:=M j;omega
 refine⟨`atJ,⟨by simp;exact hl,`g',`g',?_⟩,`g',?_,λs0 s2 s6=>?_⟩
 ·obtain⟨j,hj,rfl⟩:=`wp
  exact P.names _ (`SZ).2
 ·obtain⟨j,hj,rfl⟩:=`wp
  have hj:=`Fd;refine(hv _ ?_).ok;rw[show `tn=vs[j] by simp[`cm,hj]];exact h8 hj
 ·rw[`bD]
  refine C00.mpr (C10.mpr (C20 ?_ (C30 (n:=`cx))));intro i j hi hj Y e;have hi:=`zS hi;have hj:=`Fd;have e:=getD_inj P (J i) (J j) e;have e:((ix i:Nat):Int)=`SY:=by rw[e]
  rw[M,M] at e;exact Y (unlike np hnp (`J') st h1 h2 i j `i `i e)
 ·obtain⟨j,hj,rfl⟩:=`wp
  exact(`SZ).2
 ·rw[`bD]
  refine A30 `aO λi h1 h2=>?_
  have hi:i<`cx:=`lj
  simp[`cm,hi]
 ·rw[b7 (ds:=[`q ((`atJ).map pr)]) (`am (yz0 (items:=ud0 vs) (by
   show `fw (`a [`gZ vs]) jj0=_;rfl) (by unfold ud0;rw[`U,`qD];omega) (by
   rw[zw0 (λd=>match d with|`B [`e',v]=>pr (`zX (ix `fG) "",v)|_=>`z) (λd hd=>by
    unfold ud0 at hd;obtain⟨j,hj,rfl⟩:=`c7;have hj:=`Fd;refine⟨[`mr,.sh (`tn),`bV,`to,`z0],rfl,rfl,?_⟩;refine ys0 (`am (d:=`s (`ZE)) ?_ (`am (d:=`tn) rfl rfl)) `ZH;rw[p6 (x:=`o5) (y:=`d `SY) rfl (by
     rw[M];refine Q5 (i:=`zW) (j:=`kx) ?_ ?_ `i
     ·rw[p6 (x:=`d (`J')) (y:=`d (`bH*`zV)) rfl (by rw[p6 (x:=`dL) (y:=`J9) rfl rfl];exact `E5)]
      rfl
     ·show `S_
      rw[`U,U])]
    exact(`SZ).1)]
   unfold ud0;rw[`bD,`bD];refine B8 `a (Ba0 `aiA);show pr (`zX (ix (`bH).toNat) "",`tn)=_;rw[`bW];rfl)) rfl)]
  rfl
theorem n90(k:Int)(h0:`iT)(hk:k<900000)(cs:`u)(hc:`nq)(sm:`M)(m:Int)(hm:1<=m)(np:Nat)(hnp:`Ff)(pool:`g)(P:`SX):`atK:=by
 have z1:`ja:=`aq
 have Y:=P.len;obtain⟨z,hz,hn⟩:=nj0 k h0 `i cs hc sm m `aI;obtain⟨n,b3,a9⟩:=Y00 z sm;have U:∀(q:Pt) (k':Int),k<=k'->`ZF->Gd q m `aI->(∀p:`e,∃δ',yc0 `atL=`a (.rt q.d δ')/\`S0=`a `atD)->`atK:=λq k' a1 a2 a3 a4=>⟨q,k',a1,a2,a3,R5 rfl a4⟩
 have M:∀(p:`e) (G:GSB) (r:`md),G `S1=r->(t8 `RP
 (t8 `arJ
 (t8 (j4 (ifD `EP
 (v6 `EQ
 v9)
 v9)) G))) `atL=r:=λp G r h=>by
  refine o6 (δ':=[`mp,`bV,.un,.un,.un,.un,.un]) (`asY) ?_;refine o6 (δ':=[`mp,`bV,`zT,.un,.un,.un,.un]) `g0 ?_;exact o6 (a9 p _ _ _ _) h
 have c4:∀(s0 s2 s3 s4 s5 s6:Sl) (j:Int),ob `atM [s0,`bV,s2,s3,s4,s5,s6]=`a (`D (z%4=j)):=λ_ _ _ _ _ _ j=>`JW
 by_cases q0:z%4=0
 ·obtain⟨l,hl,b1,hw⟩:=Zq0 `gS `i `i cs hc sm m `aI `S2 `i
  refine U (.text `ti) (k+1+1) `i `i ⟨Gw.e50 l `i λc hc=>c40 c (b1 c hc),`SE,λs hs=>by cases hs⟩ λp=>⟨[.ow (j8 p (bk (k+1+1) cs sm m `aI)),`bV,`cQ,.un,.un,.un,.un],M p _ _ `qC,rfl⟩
  rw[yf0 (by rw[c4,`SC])];refine Z2 (V1 (Y90 (d:=`zw) rfl rfl (X8 (p:=p) (b:=`mo) (ds:=[`d (`S2:Int)]) rfl (`am (by
   show `a (`bl (`J!))=_;rw[show ((`S2:Nat):Int)=`J! by omega]) rfl) hw)))
 obtain⟨vs,a7,hv,a6⟩:=h00 cs hc sm m hm `aI (`wk) `gS `i (`Fg);have rl:(`wk).length=n:=`Fg
 rw[rl] at a7 a6;have J:∀(p:`e) (Ga G:GSB) (r:`md),G `Fh=r->t8 (ifB `KX Ga `v) (t8 `arK G) `S1=r:=λp Ga G r h=>by
  refine o6 (δ':=`S1) (by rw[zn0 (by rw[c4,`SD])];rfl) ?_;exact o6 (j9 (Yd0 (p:=p) rfl `atv `atN a6 3)) h
 by_cases q1:z%4=1
 ·refine U (`i!) `zY `i `i ⟨⟨`F,λv h=>(hv v h).ok⟩,hv,λs hs=>by cases hs⟩ λp=>⟨`Fh,M p _ _ (J p _ _ _ `qC),rfl⟩
  rw[yf0 (by rw[c4,`bm q1])];exact `AY
 obtain⟨st,a8⟩:∃st:Nat,`zV=1+`S3:=⟨(1+`S3).toNat,by have:=`atO;omega⟩;have Z:1<=st/\st<np:=by
  have a1:=`atO;have a2:=L0 (z/156) (show `f2<`z_ by omega);omega
 obtain⟨ps,pk,pin,b0,b2⟩:=c00 hnp P z st Z.1 Z.2 m vs `i hv;have O:∀(p:`e) (Ga G:GSB) (r:`md),G `Fi=r->(t8 (ifB `tT Ga `v)
 (t8 `arL
 (t8 `arM
 (t8 `arN G)))) `Fh=r:=λp Ga G r h=>by
  refine o6 (δ':=`Fh) (by rw[zn0 (by rw[c4,`bi q1])];rfl) ?_;refine o6 (δ':=[`zZ,`bV,`cQ,`o6,`to,.un,.un]) (j9 (X7 (d:=`o5) `f1)) ?_;refine o6 (δ':=[`zZ,`bV,`cQ,`o6,`to,`z0,.un]) (j9 (X7 (d:=`J9) ?_)) ?_
  ·rw[p6 (x:=`dN) (y:=`d (`S3)) rfl (Q5 (i:=z/156) (j:=`z_) rfl (by
    rw[p6 (x:=`S4) (y:=`dN) (by
     show `S_;rw[`U,Y]) rfl]
    rfl) `i),a8]
   rfl
  ·exact o6 (j9 (X7 (b2 _ _ _))) h
 have a5:∀v∈`h7,`E7:=λv h=>hv v (b0▸h)
 have a0:∀s∈`e7,`eq:=λs h=>by
  obtain⟨p,hp,rfl⟩:=`e4 h;exact pin p hp
 by_cases q2:z%4=2
 ·refine U (`i?) `zY `i `i ⟨pk,a5,λs hs=>a0 s (by simpa [Pt.all,Pt.cls,Pt.pnames] using hs)⟩ λp=>⟨`Fi,M p _ _ (J p _ _ _ (O p _ _ _ `qC)),rfl⟩
  rw[yf0 (by rw[c4,`bm q2])];exact Z2 (V1 (W7 `atP))
 ·have i0:=D6 (`z2) `atI
  have i1:=L0 (`z2) (show `f2<`kx by omega);obtain⟨e1,e2⟩:=ru0 P (`J?) i0 i1;refine U (`h? `atQ ps) `zY `i `i ⟨⟨P.names _ e2,pk⟩,a5,`atw⟩ λp=>⟨`Fi,M p _ _ (J p _ _ _ (O p _ _ _ (o6 (δ':=`Fi) (by rw[zn0 (by rw[c4,`bi q2])];rfl) `lc))),rfl⟩
  ·rcases `d5 hs with q|q
   ·exact a0 s q
   ·rw[`e3 q];exact e2
  ·refine ys0 (`am rfl (`am (d:=`s `atQ) ?_ `zR)) (by show 3<=`P;omega)
   rw[p6 (x:=`o5) (y:=`d (`J?)) rfl (Q5 (i:=`z2) (j:=`kx) rfl (by
    show `S_;rw[`U,Y]) `i)]
   exact e1
theorem jn0(cs:`u)(hc:`nq)(sm:`M)(m:Int)(hm:1<=m)(np:Nat)(hnp:`Ff)(pool:`g)(P:`SX):∀(items:`f) (k:Int),`iT->k+14*`bG<900000 ->
  ∃(ps:`b1) (k':Int),`ar=`bG/\(∀p∈ps,`ZG)/\J6 `bJ `RR 1 `mv `ap `f0=`a (`mh Pt.d,`tl)
 | [],k,_,_=>⟨[],k,rfl,`SE,rfl⟩
 | `ae,k,h0,hk=>by
  simp only[`aH] at hk;obtain⟨p,k1,a1,a2,hp,e⟩:=n90 k h0 `i cs hc sm m hm np hnp `aI P;obtain⟨ps,k2,hl,J,ih⟩:=jn0 cs hc sm m hm np hnp `aI P ds k1 `i `i;refine⟨`nh,k2,`SF,`iW,?_⟩
  ·rcases `uY with rfl|hx
   ·exact hp
   ·exact J x hx
  ·have c:Y4 1 v5 S8 `JY=`a (p.d,[`lR,.ow `atR]):=`as0
   unfold J6;rw[`as1,`k,c];show ((J6 `bJ `RR 1 `mv ds `atR).map λq=>(p.d::q.1,q.2))=_;rw[ih];rfl
theorem V70(xs:`f)(k:Nat):`oA xs (`a `cg) `c=`pE k:=by
 unfold cutD sIx;simp only[];rw[`Fj,`bW]
 by_cases q:k<=`av
 ·rw[`S5 q,List.take_of_length_le (by rw[`ey];exact `hD)]
 ·rw[Nat.min_eq_right `i,`atS `a_,`atS `i,List.take_nil]
theorem comp_own{δ:Ds}{k:Int}{cs:`u}{sm:`M}{m:Int}{vs:`f}{gi:GA}{f:`az}{k':Int}(h0:`bw=`a (`JX))(hi:`CV)(hl:`m5)
  (hc:`atC) :
  yg0 1 [i] i 1 gi `bJ `J6 δ=`a (`tm,`a1 i (.ow (`tl))):=by
 unfold yg0;rw[h0];show (`p7 _)=_;rw[hi,`k,`k3];have e:M7 1 [i] δ=`mv:=by
  show`wo++[q30 `bw]=_;rw[h0];rfl
 rw[e];show ((`J7).bind _)=_;rw[hc];rfl
theorem Zi0{δ:Ds}{d:D}(h:`E3):kx0 gx δ=`lW:=by unfold kx0;rw[h];rfl
theorem Yw0{f:`N}{δ:Ds}{d r:D}(h:`E3)(hf:f [d]=`dK):lp0 f gx δ=`SV:=by
 unfold lp0;rw[h,`k];show (f [d]).map _=_;rw[hf];rfl
noncomputable def bk3(cs:`u)(sm:`M):D:=`bv (`m [`AT,`Sp,`Sq]) [`el,`kt,`np]
noncomputable def bk4(cs:`u)(sm:`M)(m:Int):D:=`bv (`m [`AT,`Sp,`Sq,`l `Jz]) [`el,`kt,`np,`d m]
theorem Va0(ns:`u)(hl:`jT<=1000)(s:Nat)(hs:s<=1000):∃(ps:`b1) (pool:`g),1<=`ar/\`S6/\`S7<=53/\(∀p∈ps,`atT)/\M5 `S8=`a (`atU):=by
 have z1:(5000:Nat)<=`P:=`aq
 obtain⟨f,hf⟩:∃z,U6 `S8=`a `km:=Gw.Yu0 ns `ms `i;obtain⟨cs,Y⟩:∃cs,cs=`atV++[f]:=`ag;have cne:`nq:=by rw[Y];simp
 obtain⟨sm,a0⟩:∃sm:`M,sm=`D (f/8%8=3):=`ag;obtain⟨np,a2,Z⟩:∃np:Nat,(`Ff)/\∀δ:Ds,`atW->o2 `arR `arS ixD δ=`a (`S4):=by
  have ix:∀δ:Ds,`atW->o2 `YV `ci p8 δ=`a (`d (f/5%2)):=fun δ h=>Q5 (i:=f/5) (j:=2) (`La) rfl `t
  have:f/5%2=0∨f/5%2=1:=`F
  rcases `C with q|q
  ·exact⟨13,`b4,fun δ h=>by rw[p6 (x:=`atX) (y:=`el) rfl `atY];rfl⟩
  ·exact⟨53,`bA,fun δ h=>by rw[p6 (x:=`atX) (y:=`dN) rfl `atY];rfl⟩
 obtain⟨pool,J,P⟩:=bp0 (f/11%(`S9)) np `i;obtain⟨m,U,a3⟩:∃m:Nat,`lE=(`atZ)/\1<=m/\m<=60:=⟨(`atZ).toNat,`SQ,`SQ⟩;obtain⟨ps,k',O,a1,M⟩:=jn0 cs cne sm `lE `i np a2 `aI P (`at_) 0 `i (`Fg);have rl:(`at_).length=m:=`Fg
 rw[rl] at O;refine⟨ps,`aI,`F,`F,by have:=P.len;omega,λp hp=>by rw[O];exact a1 p hp,O1 rfl ?_⟩;refine t6 (δ':=`wq) (X7 (d:=`d f) (by rw[b7 (ds:=`S8) rfl];exact hf)) ?_;refine t6 (δ':=[`ky,`tp,`tq,.ow `at0]) ?_ ?_
 ·have e1:o2 `YQ `YR m7 `wq=`asC:=by
   rw[p6 (x:=`q ((`atV).map `d)) (y:=`q [`d f]) (by
    rw[ox0 (d:=`mq) (l:=`at1) (h:=`c) rfl rfl rfl];show `a (`gZ (`oA `Sy (`at1) `c))=_;rw[V70,`at2]) rfl]
   simp only[m7];rw[`H (by rw[`U,`ey];simp only[`aH,`dP];omega),Y,`b0];rfl
  have e2:o2 `YS `h8 eqD `wq=`a (`np):=by rw[a0];rfl
  have e3:pr0 `arP `wq=`a `at0:=by
   unfold pr0;rw[show xp0 `dO `ch `YU `wq=`a [(`fX,`el),(`Yl,`kt),(`Yw,`np)] from by
    unfold xp0;rw[e1,e2];rfl]
   kernel_rfl
  unfold Q9;rw[e3];rfl
 refine t6 (δ':=[`ky,`tp,`tq,.ow (bk4 cs sm (1+f%8))]) `f1 ?_;refine t6 (δ':=`at3) ?_ ?_
 ·cases sm with
  | true =>
   rw[U,`bx,`ht];kernel_rfl
  | false =>
   rw[U,`pT,`my];rfl
 refine t6 (δ':=[`ky,`tp,`tq,.ow (bk 0 cs sm `lE `aI)]) ?_ `JS
 ·refine P0 (d:=`o5) (δ1:=`at3) (W7 ?_) `f1
  rw[b7 (ds:=[`d (f/11%(`S9)),`S4]) (`am (Q5 (i:=f/11) (j:=`S9) rfl `f1 `t) (`am (Z _ rfl) rfl))];exact J
 ·exact Zi0 (Yw0 (d:=`q `z3) (comp_own (k:=0) rfl (uw0 (`am (d:=`d `lE) `f1 rfl) `i `i) `atN M) rfl)
universe Bt
namespace Rk
open DL W Rm
open Bt (R5 o6 Z2 j9 yf0 zn0 V1 W7 Z9)
theorem c80(k:Nat):nrf (link k)=`b:=by
 unfold link nrf;rw[`a?];refine⟨?_,rfl⟩;show (O7 `asx).isNone=`b;show (if (`oV : Str) = "@" then `a (`cg).toNat else `c).isNone=`b;rw[`anh];rfl
theorem Xr0:(`asn : Str).cps.toList=zy0:=`af
theorem Vj0:(`asm : Str).cps.toList=sg0:=`af
universe Rk
namespace Rk
open DL W Rm
theorem sub_len'[`wr]:∀{l m:`a5},`at4
 | [],_,_,_=>`db
 | a::l,m,hn,h=>by
  rw[`Ee] at hn;have ha:=h a A6;have ih:=`S' (l:=l) (m:=m.erase a) hn.2 λb hb=>by
   have J:`j':=λz=>hn.1 (z▸hb)
   exact(List.mem_erase_of_ne J).mpr (h b (`Bw))
  rw[List.length_erase_of_mem ha] at ih;have:=List.length_pos_of_mem ha;rw[`aH];omega
universe Rk
namespace Bw
open DL W
noncomputable def G7:GS:=(v6 `R0
 (v6 `R1
 (v6 (V8 `EX
 (v6 `EY
 (v6 `EZ
 v9)) 100000)
 (v6 `R2
 v9))))
noncomputable def zr0:`g:=`E_
noncomputable def Z4:`N:=`R3
noncomputable def wr0:GS:=(v6 (ifD `RX
 (v6 `RY
 v9)
 v9)
 (v6 `RZ
 v9))
noncomputable def u80:`g:=`dT
noncomputable def y20:`N:=`R_
noncomputable def zo0:GS:=(v6 `R4
 v9)
noncomputable def yk0:`g:=`g3
noncomputable def V3:`N:=`R5
noncomputable def za0:GS:=(v6 `R6
 v9)
noncomputable def y90:`g:=`bO
noncomputable def Q0:`N:=`R7
noncomputable def zp0:GS:=(v6 (ifD `nn
 (v6 `R8
 v9)
 v9)
 (v6 `no
 v9))
noncomputable def yq0:`g:=`bO
noncomputable def O3:`N:=`R9
noncomputable def zv0:GS:=(v6 (ifD `nn
 (v6 `no
 v9)
 v9)
 (v6 (ifD `ES
 (v6 `ET
 v9)
 v9)
 (v6 `qz
 (v6 (ifD `RU
 (v6 `RV
 v9)
 v9)
 (v6 (w40 `wa `df
 (v6 `EV
 v9))
 (v6 `qA
 v9))))))
noncomputable def yr0:`g:=`EW
noncomputable def S6:`N:=`RW
universe Bw
namespace Bw
open DL W
theorem nm0{g:GE}{δ:Ds}{b:`M}(h:`asO):ob g δ=`gI:=`asP
noncomputable def dgf:Nat->Nat->`u
 | 0,_=>[]
 | f+1,r=>`at5
noncomputable def dg(r:Nat):`u:=dgf r r
theorem df0:∀(f g r:Nat),r<=f->r<=g->dgf f r=dgf g r
 | 0,0,_,_,_=>rfl
 | 0,g+1,r,h,_=>by
  have:r=0:=`at6;subst this;rfl
 | f+1,0,r,_,h=>by
  have:r=0:=`at6;subst this;rfl
 | f+1,g+1,r,h1,h2=>by
  show (`at5)=if r=0 then [] else `ib::dgf g `ic
  by_cases z:r=0
  ·rw[`H z,`H z]
  ·rw[`m?,`m?,df0 f g `ic `i `i]
theorem Xh0:dg 0=[]:=rfl
theorem Vq0(r:Nat)(h:r≠0):dg r=`ib::dg `ic:=by
 obtain⟨n,rfl⟩:∃n,r=n+1:=⟨r - 1,`F⟩;show (if n+1=0 then [] else ((128+`fa%128:Nat):Int)::dgf n (`fa/128))=_;rw[`fg,df0 n (`fa/128) (`fa/128) `i `a_];rfl
noncomputable def hi(r:Nat):`u:=(dg r).reverse
theorem gz0:hi 0=[]:=by unfold hi;rw[Xh0];rfl
theorem gg0(r:Nat)(h:r≠0):hi r=hi `ic++[`ib]:=by unfold hi;rw[Vq0 r h,`iV]
noncomputable def bs(n:Nat):`u:=hi `mE++[`o7]
theorem ey0:∀(m r:Nat),r<`z6->`S!<=m:=by
 intro m
 induction m with
 | zero =>
  intro r h;have h2:r=0:=by
   simp at h;exact h
  subst h2;rw[gz0];exact `hD
 | succ m ih =>
  intro r h
  by_cases h0:r=0
  ·subst h0;rw[gz0];exact `db
  ·rw[gg0 r h0,`W]
   have:`at7:=`at8;have:=`at9;simp only[`aH,`dP];omega
theorem d50(n:Nat)(h:`qE):`at':=by
 unfold bs;rw[`W];have:=ey0 2600 `mE (`at!);simp only[`aH,`dP];omega
noncomputable def WT:GB:=`EX
noncomputable def WB:GS:=(v6 `EY
 (v6 `EZ
 v9))
theorem wt(a b:Sl)(r:Nat):WT [a,b,`ZJ]=`a (`D (0<r)):=by
 show `a (`D (`f2<`mw))=_
 by_cases h:0<r
 ·rw[`gl,`ns]
 ·rw[`iH,`fb]
theorem wh(a:Sl):∀(m r:Nat) (o:`u) (f:Nat),r<`z6->m<f->`S?+m<`P ->
  ∃s,V8 WT WB f `at?=`a (.nx [a,.ow (`q ((o++dg r).map `d)),s])
 | m,r,o,0,_,hf,_=>`I hf (Nat.not_lt_zero _)
 | m,r,o,f+1,hr,hf,hl=>by
  by_cases h0:r=0
  ·subst h0
   unfold V8;rw[wt,Xh0,`bc];exact`ag
  ·cases m with
   | zero=>simp at hr;omega
   | succ m =>
    have hb:WB `at?=`a (.nx [a,.ow (`q ((o++[`ib]).map `d)),.sh (`d `Fk)]):=by
     have e1:(128:Int)+`mw%128=`ib:=`F
     have e2:`mw/128=`Fk:=`F
     refine t6 (`wn (l:=o.map `d) (d:=`d (128+`mw%128)) rfl rfl `eo) ?_;rw[`b0,← e1,← e2];rfl
    have h2:`z4<`z6:=by
     have:`at7:=`at8;omega
    obtain⟨s,e⟩:=wh a m `ic (o++[`ib]) f h2 `i (by rw[`W];simp only[`aH,`dP];omega);refine⟨s,?_⟩;unfold V8;rw[wt,`ns];simp only[hb];rw[e,Vq0 r h0,`aN];rfl
theorem ui0(n:Nat)(h:`qE):`aua:=by
 have z:`gm:=`aq
 have h2:`z5<`kz:=`at!;obtain⟨s,e⟩:=wh (`cQ) 2600 `mE [`o7] 100000 h2 `t (by show 1+2600<_;omega);refine S5 rfl ?_;have e1:`da%128=`o7:=`F
 have e2:`da/128=`Fl:=`F
 refine t6 (δ':=[`cQ,.ow (`q [`aub]),.un]) (by rw[← e1];rfl) ?_;refine t6 (X7 (d:=`d `Fl) (by rw[← e2];rfl)) ?_;refine t6 e `qF;show `a (`gZ (((`o7::dg `mE).map `bl).reverse))=_;rw[← `auc,`iV];rfl
inductive Vb:`Ta
 | non:Vb `z
 | lk (j:Nat) (h:j<1000):Vb `kC
 | int (z:Int) (h:`ws):Vb `km
noncomputable def fold(z:Int):Nat:=`aud
theorem fold_lt(z:Int)(h:`ws):`o8<2 ^ 2502:=by
 unfold fold;have e:`aue=4*`Kd:=`af
 generalize (2:Nat) ^ 250=w at h e;split<;>omega
theorem rd0(z:Int):`auf:=by
 by_cases h:z<0
 ·refine `Sw
  rw[N6 (by show `aug;rw[`gl])];refine `ts;rw[p6 (x:=`d (-2*z)) (y:=`dN) (by rw[p6 (x:=`d (-2)) (y:=`dM) rfl rfl];exact `ld) rfl];have:`auh=`ZL:=by unfold fold;rw[`d_];omega
  rw[`C];rfl
 ·refine O1 rfl (t6 (δ':=[`bV]) (by rw[Y5 (by show `aug;rw[`iH])];rfl) `z?)
  rw[p6 (x:=`ko) (y:=`dM) rfl rfl,`ld];have:`auh=2*z:=by unfold fold;rw[`fg];omega
  rw[`C]
noncomputable def sg(s:Str):`u:=s.cps.toList.map λ(c:Nat)=>`K5
theorem kz0(s:Str):`aui:=by unfold sg;rw[`U];rfl
theorem cu0(s:Str):zm0 `bJ noT `Y! [.un] (`hm s)=`a `ZO:=by
 unfold signs;rw[zw0 (λd=>match d with|`cc=>`d ((x.cps.toList.headD 0:Nat):Int)|_=>`z) (λd hd=>by
  obtain⟨c,hc,rfl⟩:=`c7;exact⟨[.sh (`op)],rfl,rfl,rfl⟩)]
 unfold sg;rw[`bD,`bD];rfl
theorem lk0(s:Str)(h:`Tb):`auj :=
 S5 rfl (W3 (J0 (yz0 (items:=`hm s) rfl (by unfold signs;rw[`U];exact h) (cu0 s))))
theorem ak0(a b:`u)(h:`asN):v80 (`q (a.map `d)) (`q (b.map `d))=`a (`q ((a++b).map `d)):=by
 simp only[v80];rw[`H (by rw[`U,`U];exact h),`b0]
theorem Wm0{g:GE}{δ:Ds}{l e:`u}(h1:`l0=`a `AH)(h2:`al=`a (`q (e.map `d)))(h3:`auk):`aul=`a (.nx (`a1 i (.ow (`q ((l++e).map `d))))):=by
 unfold d7 yd0;rw[h1,h2];simp only[`k];rw[`H (by rw[`U,`U];exact h3),`b0];rfl
theorem ab0{g:GE}{δ:Ds}{e:`f}(h1:`asL)(h2:`al=`a (`q e))(h3:`auk):`aul=`a (.nx (`a1 i (.ow (`q (l++e))))):=by
 unfold d7 yd0;rw[h1,h2];simp only[`k];rw[`H h3];rfl
noncomputable def Ib(d:D):Prop:=`aum∨Vb d
theorem small(h:n<=100000000):`qE:=I0 h `h2
theorem m90{g:GE}{δ:Ds}{s:Str}(h:`al=`K8)(hs:`Tb):`aun=`auo:=by
 rw[b7 (ds:=`tt) (`aup)];simp only[W8];rw[`H hs]
noncomputable def cnt:Pt->Nat
 | `qB=>`dg
 | `i!=>`cx
 | `i?=>`ar
 | `Sk=>`ar
noncomputable def kn:Pt->Nat
 | `E0=>0
 | .row _=>1
 | `s? _=>2
 | `h? _ _=>3
noncomputable def two(p:`zF):`f:=`aso
noncomputable def its:Pt->`f
 | `E0=>[]
 | `i!=>vs
 | `i?=>`kA
 | `wb=>`dS::`kA
noncomputable def tx:Pt->`u
 | `qB=>sg w
 | _=>[]
structure Gp(p:Pt):Prop where
 cnt:`nt
 len:(`f3).length<=50
 it:∀d∈`f3,Ib d
theorem V60{p:Pt}(h:Gp p):(tx p).length<=20:=by
 cases p with
 | text w=>show `Tc<=20;rw[kz0];exact h.cnt
 | _=>exact `db
theorem aj0(p:Pt):kn p<=3:=by cases p<;>simp[kn]
theorem au0{p:Pt}(h:`nt)(δ:Ds):oA `Zb W8 (`Fm::δ)=`a (`d `Td):=by
 have z:`qG:=`aq
 cases p with
 | text w =>
  have h:`Te:=h;exact m90 rfl `i
 | row vs=>rfl
 | table ps =>
  show `auq;rw[`U];rfl
 | rcd c ps =>
  show `auq;rw[`U];rfl
theorem Tk0(p:Pt)(δ:Ds):oA `Zd `Ze (`Fm::δ)=`a (`d (kn p:Int)):=by
 cases p<;>kernel_rfl
theorem T40(a b:Nat):4*`sm+`Tf=((4*a+b:Nat):Int):=`F
theorem g70{p:Pt}(h:`nt):`aur:=by
 refine `Tg
 change o2 _ _ _ [`Fm]=_
 rw[p6 (x:=`d (4*`Td)) (y:=`d (kn p:Int)) (by
  rw[p6 (x:=`s7) (y:=`d `Td) rfl (au0 h _)];exact `ld) (Tk0 p _),← T40]
 rfl
theorem gv0{p:Pt}(h:`nt):`aus:=by
 have z:`qG:=`aq
 cases p with
 | text w =>
  have h:`Te:=h;refine `Fn;rw[`ht];refine `z7;rw[b7 (ds:=[`mF]) rfl];exact lk0 w `i
 | row vs=>exact S5 rfl (t6 (δ':=[`Fo]) `d0 `o')
 | table ps=>exact S5 rfl (t6 (δ':=[`Ac]) `d0 `o')
 | rcd c ps=>exact S5 rfl (t6 (δ':=[`tv]) `d0 `o')
noncomputable def HB:GS:=(v6 `EV
 v9)
theorem q40:∀ps:`bo,`aut=2*`ar
 | []=>rfl
 | `nh=>by rw[`jb,`W,q40 ps,`aH];show 2+_=_;omega
theorem bt0{ps:`bo}{p:`zF}(h:`aoF):`auu++two p=(`Kf `m6).flatMap two:=by
 rw[`auv,h,List.flatMap_append];simp
theorem nw0(a:Sl)(pre:`f)(ps:`bo)(hl:`AO+2*`ar<=`P)(s:Sl):∃s',J3 `df HB (`ta) `auw=`a (.nx [a,.ow (`q (pre++`kA)),s']):=by
 obtain⟨δ',l1,l2⟩:=vq0 (f:=gN 2) (G:=HB) (λi δ=>∃s,δ=[a,.ow (`q (pre++(`Kf i).flatMap two)),s]) (`ta) 0 `auw (by
  rintro j d δ hj ⟨s,rfl⟩;rw[`ex] at hj;cases hp:ps[j]? with
  | none=>rw[hp] at hj;cases hj
  | some p =>
   rw[hp] at hj;cases hj;have J:=(`eN hp).1;rw[`ip];refine⟨_,_,rfl,t6 (ab0 (l:=pre++`auu) (e:=two p) rfl rfl (by
    rw[`W,q40,`c_];show _+2<=_;omega)) rfl,.sh (pr p),?_⟩
   rw[`aN,bt0 hp];rfl) ⟨s,`bs⟩
 obtain⟨s',rfl⟩:=l2;refine`Th;rw[l1,`ip,`U,`aux]
theorem gx0{p:Pt}(h:Gp p):`auy:=by
 have z:`qG:=`aq
 have hc:=h.cnt;cases p with
 | text w=>kernel_rfl
 | row vs =>
  refine S5 rfl (t6 (δ':=[`Fo,.un,.un]) `d0 `Aa);rw[`ht];rfl
 | table ps =>
  have hc:`Fp:=hc;obtain⟨s',e⟩:=nw0 (`Ac) [] ps (by simp only[`dP];omega) .un;refine S5 rfl (t6 (δ':=`auz) `d0 (t6 (δ':=`auz) `d0 (t6 (δ':=`auA) rfl (t6 (δ':=`auA) `d0 `auB))))
 | rcd c ps =>
  have hc:`Fp:=hc;obtain⟨s',e⟩:=nw0 (`tv) [`dS] ps `zQ .un;refine S5 rfl (t6 (δ':=`auC) `d0 (t6 (δ':=`auC) `d0 (t6 (δ':=[`tv,`kw,.un]) rfl (t6 (δ':=[`tv,.ow (`q [`dS]),.un]) (by rw[`ht];rfl) `auB))))
structure Gq(p:Pt):Prop where
 cnt:`nt
 vals:∀v∈`e?,`iq
 names:∀s∈`nr,`mx
 few:`tK<=12
theorem iz0{ps:`bo}(h1:∀v∈`h7,`iq)(h2:∀s∈`e7,`mx):∀d∈ps,`auD:=λd hd=>⟨h2 _ `auE,h1 _ `auE⟩
theorem fd0{ps:`bo}(h:∀d∈ps,`auD):∀d∈`kA,Ib d:=λd hd=>by
 obtain⟨p,hp,hm⟩:=h9.mp hd;obtain⟨q1,q2⟩:=h p hp;unfold two at hm;rcases `Ti with rfl|hm
 ·exact `m ⟨_,rfl,q1⟩
 ·rw[`Tj];exact `l q2
theorem Gq.gp{p:Pt}(h:Gq p):Gp p:=by
 obtain⟨h1,h2,h3⟩:=h;cases p with
 | text w=>exact⟨h1,`db,λd hd=>by cases hd⟩
 | row vs=>exact⟨h1,by have:`cx<=20:=h1;show `cx<=50;omega,λd hd=>`l (h2 d hd)⟩
 | table ps =>
  have hp:=`auF
  exact⟨h1,by have:`Fp:=h1;show `aut<=50;rw[q40];omega,fd0 hp⟩
 | rcd c ps =>
  have hp:=`auF
  refine⟨h1,by have:`Fp:=h1;show (`em c::`kA).length<=50;rw[`aH,q40];omega,`Tk⟩;rcases `le with rfl|hd
  ·exact `m ⟨_,rfl,h3 c (C8 _ (`Tl))⟩
  ·exact fd0 hp d hd
noncomputable def web(ps:`b1):D:=`atU
noncomputable def Lk(m:Nat)(v:D):Prop:=∀j:Nat,v=`tr->j<m
theorem a90(h:i<m):Lk m `Ax:=λj e=>by
 injection e with e
 injection e with _ e
 injection e with e _
 injection e with e
 omega
universe Bw
namespace K22
open DL W
theorem sub_len:∀{l m:`j},`at4
 | [],m,_,_=>`db
 | a::l,m,h,hs=>by
  obtain⟨h1,h2⟩:=E2.mp h;obtain⟨m1,m2,rfl⟩:=List.append_of_mem (hs a A6);have:=`Tm (m:=m1++m2) h2 λb hb=>by
   have:=hs b (`Bw);rcases `d5 `C with q|q
   ·exact C0.mpr (`g?)
   ·rcases `be q with rfl|q
    ·exact `I hb h1
    ·exact C0.mpr (`pj)
  simp only[`W,`aH] at this ⊢;omega
noncomputable def nd(l:`j):`f:=`ea λ(i:Nat)=>`bl `eU
noncomputable def tgs(vs:`f):`j:=vs.filterMap λv=>match v with|`wt=>`a `fG|_=>`c
theorem rb0(a b:`j):nd `te=nd a++nd b:=by unfold nd;rw[`b0]
theorem Wa0(a:`j):(nd a).reverse=nd a.reverse:=by unfold nd;rw[`auc]
theorem pn0(a:`j):(nd a).length=`JT:=by simp[nd]
theorem W00(o:`j)(x:Nat):((nd o).any λy=>eqF y (`Tn))=`D (x∈o):=by
 unfold nd;rw[List.any_map,`pQ,`RD,`wc];constructor
 ·rintro⟨y,hy,e⟩
  have e:`D ((y:Int)=`tw)=`b:=e;have e:=M1 e;have:y=x:=`F
  subst this;exact hy
 ·intro h
  exact⟨x,h,show `D (`tw=`tw)=`b from D7 rfl⟩
theorem ci0(o:`j):((nd o).all λd=>`cP d)=`b:=by
 unfold nd;rw[`Qe,`nj];exact `i0
theorem U20(o:`j)(x:Nat):zd0 `b (`Tn) (`q (nd o))=`a (.bl (`D (x∉o))):=by
 simp only[zd0];rw[`H ⟨rfl,ci0 o⟩,W00];congr 2
 by_cases h:x∈o<;>simp[h]
noncomputable def lkv(f:`fv):`iX
 | `wt=>`B [`fX,`d (f `fG:Int)]
 | v=>v
noncomputable def rel(f:`fv)(p:Pt):Pt:=`qH p (`tG (lkv f))
theorem e60{vs:`f}(h:`dx `ZK∈vs):j∈tgs vs:=`BU ⟨_,h,by simp only[`bW]⟩
theorem cp0(p:Pt)(vs:`f)(h:`cx=`tK):(`qH p vs).vals=vs:=by
 cases p with
 | text w=>exact(List.eq_nil_of_length_eq_zero h).symm
 | row us=>rfl
 | table ps =>
  show `auG;refine C70 ?_;have h':`auH:=h;simp only[`U] at h' ⊢;omega
 | rcd c ps =>
  show `auG;refine C70 ?_;have h':`auH:=h;simp only[`U] at h' ⊢;omega
universe K22
namespace Km
open DL W K22
noncomputable def G7:GS:=(v6 `R0
 (v6 `R1
 (v6 (V8 `EX
 (v6 `EY
 (v6 `EZ
 v9)) 100000)
 (v6 `R2
 v9))))
noncomputable def zr0:`g:=`E_
noncomputable def Z4:`N:=`R3
noncomputable def wr0:GS:=(v6 (ifD `RX
 (v6 `RY
 v9)
 v9)
 (v6 `RZ
 v9))
noncomputable def u80:`g:=`dT
noncomputable def y20:`N:=`R_
noncomputable def tf0:GS:=(v6 `ar4
 v9)
noncomputable def vo0:`g:=`di
noncomputable def O8:`N:=`ar5
noncomputable def zo0:GS:=(v6 `R4
 v9)
noncomputable def yk0:`g:=`g3
noncomputable def V3:`N:=`R5
noncomputable def wn0:GS:=(v6 (ifD `ar'
 (v6 `ar!
 v9)
 v9)
 (v6 `ar?
 v9))
noncomputable def vw0:`g:=`la
noncomputable def z00:`N:=`asa
noncomputable def za0:GS:=(v6 `R6
 v9)
noncomputable def y90:`g:=`bO
noncomputable def Q0:`N:=`R7
noncomputable def zp0:GS:=(v6 (ifD `nn
 (v6 `R8
 v9)
 v9)
 (v6 `no
 v9))
noncomputable def yq0:`g:=`bO
noncomputable def O3:`N:=`R9
noncomputable def wc0:GS:=(v6 (ifD `ar6
 (v6 `EM
 v9)
 v9)
 (v6 (ifD `oZ
 (v6 `ar7
 v9)
 v9)
 (v6 `ar8
 v9)))
noncomputable def uc0:`g:=`di
noncomputable def O9:`N:=`ar9
noncomputable def wa0:GS:=(v6 (ifD `R'
 (v6 `asb
 v9)
 v9)
 (v6 (ifD `asc
 (v6 `asd
 (v6 `ase
 v9))
 v9)
 (v6 `asf
 v9)))
noncomputable def u20:`g:=`R!
noncomputable def O5:`N:=`asg
noncomputable def zv0:GS:=(v6 (ifD `nn
 (v6 `no
 v9)
 v9)
 (v6 (ifD `ES
 (v6 `ET
 v9)
 v9)
 (v6 `qz
 (v6 (ifD `RU
 (v6 `RV
 v9)
 v9)
 (v6 (w40 `wa `df
 (v6 `EV
 v9))
 (v6 `qA
 v9))))))
noncomputable def yr0:`g:=`EW
noncomputable def S6:`N:=`RW
noncomputable def pf0:GS:=(v6 `qz
 (v6 `ash
 (v6 `asi
 (v6 `asj
 (v6 (V8 `R?
 (v6 `Sa
 (v6 `Sb
 (v6 (ifD `Sc
 (v6 `Sd
 v9)
 (v6 (ifD `Se
 (v6 `Sf
 (v6 `Sg
 v9))
 v9)
 v9))
 v9))) 100000)
 (v6 `qA
 v9))))))
noncomputable def ke0:`g:=`Sh
noncomputable def xl0:`N:=`ask
universe Km
namespace Km
open DL W K22
open Bw (bs sg cnt kn its tx fold Vb Gp Gq)
noncomputable def pd(ks:`cZ):D:=`bv `sk `To
noncomputable def ix{α:Type}[`wr]:`a5->α->Nat
 | [],_=>0
 | b::l,a=>if b=a then 0 else `Fq+1
theorem tw0[`wr]:∀{l:`a5} {a:α},a∈l->`Fq<`cB
 | [],_,h=>by cases h
 | b::l,a,h=>by
  unfold ix;rw[`aH]
  by_cases e:b=a
  ·rw[`dC];omega
  ·have:=tw0 (l:=l) (a:=a) `Fr
   rw[`dl];omega
theorem bu0[`wr]:∀{l:`a5} {a:α},a∈l->l[`Fq]?=`jY
 | [],_,h=>by cases h
 | b::l,a,h=>by
  unfold ix
  by_cases e:b=a
  ·rw[`dC,e];rfl
  ·rw[`dl,`v4]
   exact bu0 `Fr
theorem ln0:∀(ks:`cZ) (s:Nat) (k:T7),`Fs->zk0 ks (nd (`y' s `eb)) k=`a (`d ((s+`Ft:Nat):Int))
 | [],s,k,h=>by cases h
 | a::ks,s,k,h=>by
  rw[`aH,`ao6];show (if a=k then `a (`bl `ms) else zk0 ks (nd (`y' (s+1) `eb)) k)=_;unfold ix
  by_cases e:a=k
  ·rw[`dC,`dC]
   rfl
  ·have hk:`Fs:=`ZX
   rw[`dl,`dl,ln0 ks (s+1) k hk,show s+1+`Ft=s+(`Ft+1) by omega]
theorem j00{ks:`cZ}{k:T7}(h:`Fs):zk0 ks `To k=`a (`d (`Ft:Int)):=by
 rw[List.range_eq_range',ln0 ks 0 k h,`ip]
theorem rj0(ks:`cZ)(k:T7):`sC=`b↔`Fs:=by
 unfold K3;rw[`RD];constructor
 ·rintro⟨x,hx,e⟩
  rw[← `Q3 e];exact hx
 ·intro h
  exact⟨k,h,D7 rfl⟩
theorem lh0{ks:`cZ}{k:T7}(h:k∉ks):`sC=`n:=by
 cases e:`sC with
 | false=>rfl
 | true=>exact `I ((rj0 ks k).mp e) h
theorem de0{ks:`cZ}{k:T7}(h:k∉ks):(`bv (`m (J8 ks k)) (J9 ks `To k (`d (`eb:Int))):D)=pd (ks++[k]):=by
 unfold J8 J9 pd;rw[lh0 h,`hr,`hr,`W,`dw,`atu,rb0];rfl
theorem idx_map[`wr][`yD β](f:α->β)(a:α):∀l:`a5,(∀b∈l,f b=f a->b=a)->ix (`ea f) (f a)=`Fq
 | [],_=>rfl
 | b::l,h=>by
  rw[`L];unfold ix
  by_cases e:b=a
  ·rw[`dC,`H (by rw[e])]
  ·rw[`dl,`ad (λz=>e (h b A6 z)),`Tp f a l λc hc=>h c (A5 _ hc)]
noncomputable def kb(B:`j):`cZ:=B.map `auI
noncomputable def kt(T:`g):`cZ:=T.map `auJ
theorem kb_mem(B:`j)(j:Nat):`auK∈kb B↔`dh:=by
 unfold kb;rw[`auL];constructor
 ·rintro⟨k,hk,e⟩
  have:`cg=`bH:=`Fu
  have:k=j:=`F
  rw[← `C];exact hk
 ·exact λh=>⟨j,h,rfl⟩
theorem vt0(T:`g)(s:Str):`Ki∈kt T↔`ie:=by
 unfold kt;rw[`auL];constructor
 ·rintro⟨k,hk,e⟩
  have:k=s:=`Fu
  rw[← `C];exact hk
 ·exact λh=>⟨s,h,rfl⟩
theorem V30(B:`j)(j:Nat):ix `pb `auK=`tA:=`Tp (`auI) j B λb _ e=>by
 have:`Tf=`bH:=`Fu
 omega
theorem Wl0(T:`g)(s:Str):ix `o? `Ki=`Kj:=`Tp (`auJ) s T λb _ e=>`Fu
theorem d90(B:`j):`wu=`cj:=by unfold kb;rw[`U]
theorem kt_len(T:`g):`tz=`gX:=by unfold kt;rw[`U]
structure Wb(ps:`b1):Prop where
 len:0<`ar/\`S6
 it:∀p∈ps,Gq p
 lk:∀p∈ps,∀v∈`e?,Bw.Lk `ar v
noncomputable def It(n:Nat)(d:D):Prop:=`aum∨`yv∨(∃z:Int,d=`dM/\`ws)∨∃j:Nat,d=`tr/\j<n
theorem It.of{v:D}(h:`iq)(hl:Bw.Lk n v):It n v:=by
 cases h with
 | non=>exact `l `gt
 | lk j _=>exact `l (`l (`l ⟨j,rfl,hl j rfl⟩))
 | int z hz=>exact `l (`l (`m ⟨z,rfl,hz⟩))
noncomputable def hb(ps:`b1)(B:`j)(T:`g):D->`u
 | `bK=>`wv
 | `wt=>if `Tq then bs (4*(`Ko - ix B `fG)+2) else bs (4*(4*cnt `Fv+kn `Fv)+3)++tx `Fv
 | `dM=>`Ld
 | _=>bs 0
theorem ui0(n:Nat)(h:`qE):`aua:=Bw.ui0 n h
theorem lk0(s:Str)(h:`Tb):`auj:=Bw.lk0 s h
theorem g70{p:Pt}(h:`nt):`aur:=Bw.g70 h
theorem gv0{p:Pt}(h:`nt):`aus:=Bw.gv0 h
theorem gx0{p:Pt}(h:Gp p):`auy:=Bw.gx0 h
theorem rd0(z:Int):`auf:=Bw.rd0 z
theorem fk0(ks:`cZ):zl0 [pd ks]=`a (`d (`eb:Int)):=rfl
theorem Yc0(T:`g)(s:Str):yn0 `n `dR `Al=`auM:=by
 show `a (`cC (xor `n (`auN)))=_;rw[`qn]
 by_cases h:`ie
 ·rw[`auO,`gl]
 ·rw[`auP,`iH]
theorem bh0(B:`j)(j:Nat):yn0 `b `oK `An=`auQ:=by
 show `a (`cC (xor `b (K3 `pb `Fw)))=_
 by_cases h:`dh
 ·rw[`Z_ ((`Fx).mpr h),`Fy];rfl
 ·rw[lh0 (λz=>h ((`Fx).mp z)),`gl];rfl
theorem bc0{T:`g}{s:Str}(h:`ie):uf0 `Al `dR=`auR:=by
 show `auS=_;rw[`auT,Wl0]
theorem di0{B:`j}(h:`dh):uf0 `An `oK=`a (`auU):=by
 show zk0 `pb (nd (`b6 `wu)) `Fw=_;rw[j00 ((`Fx).mpr h),V30]
theorem ro0(T:`g)(hT:`Fz)(s:Str)(hs:`mx)(ps:`b1)(B:`j):z00 `auV=`a (`q ((`qI).map `d)):=by
 have z:`gm:=`aq
 have ht:ob `Za `FA=`a (`Aj):=by
  unfold ob;rw[p6 (x:=`bK) (y:=`pa) rfl rfl,Yc0];rfl
 show _=`a (`gZ ((`wv).map `d))
 by_cases h:`ie
 ·rw[`gl] at ht
  rw[`d_];have J:=tw0 h;refine `Fn;show ifD _ _ _ `FA=_;rw[N6 ht];refine `z7;rw[b7 (ds:=[`d ((`Kk:Nat):Int)]) (`am (by
   rw[p6 (x:=`ko) (y:=`d (`Km - `Kl)) rfl (by
    rw[p6 (x:=`auW) (y:=`Z3) (by
     rw[p6 (x:=`auX) (y:=`dN) (by rw[b7 (ds:=[`pa]) rfl,fk0,kt_len]) rfl];rfl) (by rw[p6 (x:=`pa) (y:=`bK) rfl rfl,bc0 h])]
    rfl),`ld]
   congr 2;omega) rfl)]
  exact `FB
 ·rw[`iH] at ht
  rw[`fg];refine S5 rfl (t6 (δ':=`FA) (by
   show ifD _ _ _ `FA=_;rw[Y5 ht];rfl) `qF)
  have h1:=Bw.d50 (`tx) `kB;have h2:=Bw.kz0 s;rw[p6 (x:=`q ((`Af).map `d)) (y:=`ZP) (by
   rw[b7 (ds:=[`K']) (`am (by
    rw[p6 (x:=`d (2*`ZQ)) (y:=`dN) (by
     rw[p6 (x:=`ko) (y:=`ZR) rfl (Bw.m90 rfl `i)];exact `ld) rfl]
    show `FC;congr 2) rfl)]
   exact `FB) (by rw[b7 (ds:=`tt) rfl];exact lk0 s `i)]
  exact `auY
theorem ks0(B:`j)(j:Nat):O8 `Ap=`auQ:=by
 refine `Tg;unfold ov0;rw[show ob `mm (R4 vo0 `Ap)=`cW from rfl,`k,`bx];rw[p6 (x:=`dL) (y:=`gY) rfl rfl];exact bh0 B j
theorem q50{d:D}(h:`zz d=`n)(B:`j):O8 [d,`gY]=`p4:=by
 refine `Tg;unfold ov0;rw[show ob `mm (R4 vo0 [d,`gY])=`a (`zz d) from rfl,h];rfl
theorem cy0(X:D):O9 [`z,X]=`a (`Tr):=`Zq
theorem bm0(z:Int)(X:D):O9 [`dM,X]=`a (`d ((`Ai:Nat):Int)):=by
 refine O1 rfl (t6 (δ':=`auZ) `lb (t6 (δ':=`auZ) `lb `z?));rw[p6 (x:=`d (4*`ZM)) (y:=`dN) (by
  rw[p6 (x:=`s7) (y:=`ZN) rfl (by rw[b7 (ds:=`z8) rfl,rd0])];exact `ld) rfl]
 show `FC;congr 2
theorem d00{B:`j}(h:`dh):O9 `Ap=`a (`au_):=by
 have J:=tw0 h;refine O1 rfl (t6 (δ':=[`kD,`Ao]) `lb `JS);rw[`wi];refine `ts;rw[p6 (x:=`d (4*`au0)) (y:=`ko) (by
  rw[p6 (x:=`s7) (y:=`d `au0) rfl (by
   rw[p6 (x:=`d (`Kp - 1)) (y:=`auU) (by
    rw[p6 (x:=`d `Kp) (y:=`dN) (by rw[b7 (ds:=[`gY]) rfl,fk0,d90]) rfl];rfl) (by rw[p6 (x:=`gY) (y:=`dL) rfl rfl,di0 h])]
   rfl)]
  exact `ld) rfl]
 show `FC;congr 2;omega
theorem U5(hj:`ep):ixD `tC `oK=`a (`ij).d/\`Ts:=by
 constructor
 ·show atI `z3 `bH=_
  rw[`Tt,`bW];simp[`cm,hj]
 ·rw[`cm,`Q2]
  exact h8 hj
theorem o60(l:`u):`Tu:=by
 unfold flats;rw[`Qe,`nj];exact `i0
theorem i70(hw:`c8){B:`j}{T:`g}(hB:`ww)(hT:`Fz){d:D}(hd:`f4):O5 `au1=`a (`q ((`mz).map `d))/\(`mz).length<=2700:=by
 have z:`gm:=`aq
 have one:∀n:Nat,`qE->`at':=Bw.d50;rcases hd with⟨s,rfl,hs⟩|rfl|⟨x,rfl,hx⟩|⟨j,rfl,hj⟩
 ·refine⟨`Fn,?_⟩
  ·rw[`wi]
   refine `z7;rw[b7 (ds:=`auV) rfl];exact ro0 T hT s hs ps B
  ·show (`wv).length<=2700
   split
   ·have:=one (`Kk) `kB;omega
   ·have:=one (`tx) `kB
    have:=Bw.kz0 s;rw[`W];omega
 ·refine⟨S5 rfl (t6 (δ':=`Tv) `lb (t6 (δ':=`Tv) ?_ `qF)),?_⟩
  ·show ifD _ _ _ `Tv=_
   rw[Y5 (`qJ `au2)];rfl
  ·rw[b7 (ds:=[`Tr]) (`am (by rw[`Z6];exact cy0 _) rfl)]
   exact ui0 0 `kB
  ·exact B5 (one 0 `kB) `i
 ·have hf:`au3<`kz:=by
   have:=`au4 x hx;have e:8*`aue<`kz:=`af
   generalize (2:Nat) ^ 300=w at e;omega
  refine⟨S5 rfl (t6 (δ':=`Tw) `lb (t6 (δ':=`Tw) ?_ `qF)),?_⟩
  ·show ifD _ _ _ `Tw=_
   rw[Y5 (`qJ `au5)];rfl
  ·rw[b7 (ds:=[`d ((`au3:Nat):Int)]) (`am (by rw[`Z8];exact bm0 x _) rfl)]
   exact ui0 _ hf
  ·exact B5 (one _ hf) `i
 ·have J:∀G:GS,ifD `R' G v9 `FD=`a (.nx `FD):=λG=>`Zu
  have ht:ob `Zg `FD=`Tx:=`qJ `au6;have M:`Z'=`au7:=by
   unfold hb;simp only[`bW]
  rw[M];obtain⟨w1,w2⟩:=U5 hj;have hq:=`lf
  by_cases h:`dh
  ·rw[`Fy] at ht
   rw[`d_];refine⟨S5 rfl (t6 (J _) (t6 (δ':=`FD) ?_ `qF)),?_⟩
   ·rw[Y5 ht];rfl
   ·rw[b7 (ds:=[`au_]) (`am (by rw[`Z9];exact d00 h) rfl)]
    exact `FB
   ·exact B5 (one _ `kB) `i
  ·rw[`gl] at ht
   rw[`fg];generalize `ij=p at w1 w2 hq ⊢;have hc:=hq.cnt;have O:=Bw.aj0 p;have h1:=one (4*(`z!)+3) `kB;have h2:=Bw.V60 hq.gp;refine⟨S5 rfl (t6 (J _) `Aa),`_g⟩;rw[N6 ht];refine t6 `au8 `qF
   ·rw[`_a]
    exact w1
   ·rw[p6 (x:=`q ((bs (4*(`z!)+3)).map `d)) (y:=`ZU) (by
     rw[b7 (ds:=[`d ((4*(`z!)+3:Nat):Int)]) (`am (by
      rw[p6 (x:=`d (4*`ZS)) (y:=`d 3) (by
       rw[p6 (x:=`s7) (y:=`ZT) rfl (by rw[`Ty];exact g70 hc)];exact `ld) rfl]
      show `FC;congr 2) rfl)]
     exact `FB) (by rw[`Ty];exact gv0 hc)]
    exact `auY
noncomputable def nB(B:`j):D->`j
 | `wt=>if `Tq then B else B++[`fG]
 | _=>B
noncomputable def nT(T:`g):D->`g
 | `bK=>`wx
 | _=>T
noncomputable def nW(ps:`b1)(B:`j)(W:`f):D->`f
 | `wt=>if `Tq then W else its `Fv++W
 | _=>W
noncomputable def pk(ps:`b1):Nat->`j->`g->`f->`u
 | 0,_,_,_=>[]
 | _+1,_,_,[]=>[]
 | f+1,B,T,d::W=>`mz++pk ps f (`qK) (nT T d) (`wy)
noncomputable def st(ps:`b1)(o:`u)(B:`j)(T:`g)(W:`f)(s:Sl):Ds:=[`a7,`Kc,`Tz,`Ks,.ow (`q `tF),s]
noncomputable def PT:GB:=`R?
noncomputable def PB:GS:=(v6 `Sa
 (v6 `Sb
 (v6 (ifD `Sc
 (v6 `Sd
 v9)
 (v6 (ifD `Se
 (v6 `Sf
 (v6 `Sg
 v9))
 v9)
 v9))
 v9)))
theorem g60(ps:`b1)(o:`u)(B:`j)(T:`g)(W:`f)(s:Sl):PT `au9=`a (`D (0<`pc)):=by
 show `a (`D (`f2<(W.reverse.length:Int)))=_;rw[`qp];congr 1
 by_cases h:0<`pc
 ·rw[`gl,`ns]
 ·rw[`iH,`fb]
theorem Xu0{T:`g}{s:Str}(hT:`Fz)(a b c e:Sl):d7 `Zj `TA=`a (.nx [a,b,c,.ow (pd (kt `AE)),e,`ih]):=by
 have zs:`qG:=`aq
 have e1:p60 3 `fW `Zi `TA=if `tz<`P then (if `auN=`b then (`auS).map λr=>(r,(`TA:Ds)) else `a (`au',[a,b,c,.ow (`bv (`m (J8 `o? `Ak)) (J9 `o? (nd (`b6 `tz)) `Ak (`au'))),e,`ih])) else `c:=rfl
 unfold d7;rw[e1,`H (by rw[kt_len];omega)];show `gk _ _=`a (`pt [a,b,c,.ow (pd (kt (`wx))),e,`ih])
 by_cases h:`ie
 ·rw[`H (`auO),`auT,`d_]
  rfl
 ·rw[`auP,`hr,de0 `Z1,`fg]
  show `a (`pt [a,b,c,.ow (pd (kt T++[`l s])),e,`ih])=_;unfold kt;rw[`b0];rfl
theorem Xq0{B:`j}(hB:`ww)(hj:`ty)(a b c e:Sl):V7 `Zm `Zn [a,b,`Tz,c,e,`kD]=`a (.nx [a,b,.ow (pd (kb `il)),c,e,`kD]):=by
 have zs:`qG:=`aq
 show `gk `pt (if `wu<`P then `a ([a,b,.ow (`bv (`m (J8 `pb `Fw)) (J9 `pb (nd (`b6 `wu)) `Fw (`d (`wu:Int)))),c,e,`kD]:Ds) else `c)=_;rw[`H (by rw[d90];omega),de0 (λz=>hj ((`Fx).mp z))];unfold kb;rw[`b0];rfl
theorem Yo0(hw:`c8){o:`u}{B:`j}{T:`g}{W:`f}{d:D}(s:Sl)(hB:`ww)(hT:`Fz)(hd:`f4)(ho:`S?<=12000000)(hW:`pc<=10000) :
  PB `au!=`a (.nx (st ps `TB (`qK) (nT T d) (`wy) `om)):=by
 have zs:`au?:=`aq
 obtain⟨i1,i2⟩:=i70 hw hB hT hd;have p1:V7 (u70 4) `c1 `au!=`a (.nx `ava):=by
  unfold st V7 u70;rw[`iV];show `fw (`gk (λd'=>(d',([`a7,`Kc,`Tz,`Ks,.ow (`q (`avb).dropLast),s]:Ds))) (`avb).getLast?) _=_;rw[`avc,`avd];rfl
 have p2:d7 `Zh `ava=`a (.nx (st ps `TB B T W `om)) :=
  Bw.Wm0 (l:=o) (e:=`mz) rfl (ic0 (by rw[b7 (ds:=`au1) rfl];exact i1) (o60 _)) `i
 refine t6 p1 (t6 p2 ?_);rcases hd with⟨x,rfl,hs⟩|rfl|⟨x,rfl,hx⟩|⟨j,rfl,hj⟩
 ·refine t6 (δ':=st ps (o++hb ps B T `iO) B (nT T `iO) W (.sh `iO)) ?_ rfl
  rw[`wi];exact t6 (Xu0 hT _ _ _ _) rfl
 ·refine `ave
  rw[`tg];refine `ave;rw[Y5 (`qJ (uv0 `au2 rfl))];rfl
 ·refine `avf
  rw[`tg];refine `avf;rw[Y5 (`qJ (uv0 `au5 rfl))];rfl
 ·obtain⟨w1,w2⟩:=U5 hj
  have ht:ob `Zk (`Z?)=`Tx :=
   `qJ (uv0 `au6 rfl)
  have e1:`avg:=`avh
  have e2:`avi:=`avj
  have e3:nT T `kC=T:=rfl;rw[e1,e2,e3]
  by_cases h:`dh
  ·rw[`d_,`d_]
   rw[`Fy] at ht;refine `avk;rw[`tg];refine `avk;rw[Y5 ht];rfl
  ·rw[`fg,`fg]
   rw[`gl] at ht;have hq:=`lf;generalize `ij=p at w1 w2 hq ⊢;have J:=hq.gp.len;have p4:d7 `Zo (st ps `Ku `il T W (`kD))=`a (.nx (`_b)):=by
    refine(Bw.ab0 (l:=`tF) (e:=(`f3).reverse) rfl (by
     rw[b7 (ds:=[`q (`f3)]) (`am (by
      rw[`avl];exact gx0 hq.gp) rfl)]
     rfl) (by rw[`qp,`qp];omega)).trans ?_
    unfold st;rw[`avm];rfl
   refine `avn;rw[`tg];refine `avn;rw[N6 ht];exact t6 (Xq0 hB h _ _ _ _) (t6 p4 rfl)
universe Km
namespace Km
open DL W K22
open Bw (bs sg cnt kn its tx fold Vb Gp Gq two)
noncomputable def lkd(j:Nat):D:=`tr
theorem f90{P:`Ta}(hs:`avo){ps:`bo}(h1:∀v∈`h7,P v)(h2:∀s∈`e7,`mx):∀d∈`kA,P d:=λd hd=>by
 obtain⟨p,hp,hm⟩:=h9.mp hd;unfold two at hm;rcases `Ti with rfl|hm
 ·exact hs _ (h2 _ `avp)
 ·rw[`Tj];exact h1 _ `avp
theorem Z10{P:`Ta}(hs:`avo){p:Pt}(hn:∀s∈`nr,`mx)(hv:∀v∈`e?,P v):∀d∈`f3,P d:=by
 cases p with
 | text w=>intro d hd;cases hd
 | row vs=>exact hv
 | table ps=>exact f90 hs hv `avq
 | rcd c ps =>
  intro d hd;rcases `le with rfl|hd
  ·exact hs c (hn c (C8 _ (`Tl)))
  ·exact f90 hs hv (`avq) d hd
theorem Wb.its(hw:`c8){p:Pt}(hp:p∈ps):∀d∈`f3,`f4 :=
 Z10 (λs h=>`m ⟨s,rfl,h⟩) (`_c).names λv hv=>.of (`avr v hv) (hw.lk p hp v hv)
theorem dt0(hw:`c8):∀(M f:Nat) (o:`u) (B:`j) (T:`g) (W:`f) (s:Sl),`_e->M<f->M<=4000->`S?+2700*M<=11000000->`gX+M<=20000->`hu->(∀x∈B,`qL)->(∀d∈W,`f4) ->
  (`avs).length<=11000000/\∃B' T' s',V8 PT PB f `au9=`a (.nx (st ps (`avs) B' T' [] s')):=by
 intro M
 induction M with
 | zero =>
  intro f o B T W s h1 h2 _ h4 _ _ _ _;have:W=[]:=b9.mp `i;subst this;obtain⟨g,rfl⟩:∃g,f=g+1:=`avt;rw[pk,`bc];refine`avu;unfold V8;rw[g60,`bi `aO]
 | succ M ih =>
  intro f o B T W s h1 h2 h3 h4 h5 hn J hW;obtain⟨g,rfl⟩:∃g,f=g+1:=`avt;cases W with
  | nil =>
   rw[pk,`bc];refine`avu;unfold V8;rw[g60,`bi `aO]
  | cons d W =>
   rw[`aH] at h1;have hd:=hW d A6;have O:∀d∈W,`f4:=λe he=>hW e (A5 _ he)
   have a2:`avv:=by
    have:=`Tm hn (m:=`ir) λy hy=>`en (J y hy)
    rwa [S0] at this
   have a0:=hw.len.2;have sp:=Yo0 hw s (o:=o) (B:=B) (T:=T) (W:=W) (d:=d) `i `i hd `i `i;obtain⟨_,i2⟩:=i70 hw (B:=B) (T:=T) `i `i hd;have Z:(`wy).length+51*(`ar - (`qK).length)<=M/\(nT T d).length<=`gX+1/\(`qK).Nodup/\(∀x∈`qK,`qL)/\∀e∈`wy,It `ar e:=by
    rcases hd with⟨x,rfl,hs⟩|rfl|⟨x,rfl,hx⟩|⟨j,rfl,hj⟩
    ·refine⟨`_f,?_,hn,J,O⟩
     show (if x∈T then T else T++[x]).length<=_;split
     ·omega
     ·rw[`W,`dw];omega
    ·exact`avw
    ·exact`avw
    ·have e1:`avg:=`avh
     have e2:`avi:=`avj
     rw[e1,e2]
     by_cases h:`dh
     ·rw[`d_,`d_]
      exact⟨`F,`Kw,hn,J,O⟩
     ·rw[`fg,`fg]
      obtain⟨_,w2⟩:=U5 hj;have a1:=(`lf).gp.len;have Y:`avx:=y9.mpr ⟨hn,`bs,λa ha b hb e=>by rw[`Ed] at e;exact h `TC⟩;have U:∀x∈`ik,`qL:=λx hx=>by
       rcases `k7 with z|z
       ·exact J x z
       ·rw[`jc];exact hj
      have hl2:`avy<=`ar:=by
       have:=`Tm Y (m:=`ir) λy hy=>`en (U y hy)
       rwa [S0] at this
      refine⟨?_,`Kw,Y,U,λe he=>?_⟩
      ·rw[`W] at hl2 ⊢
       rw[`W];simp only[`dw] at hl2 ⊢;omega
      ·rcases `d5 he with z|z
       ·exact `pg w2 e z
       ·exact O e z
   obtain⟨k1,k2,k3,k4,k5⟩:=Z;have:=ih g `TB (`qK) (nT T d) (`wy) `om k1 `i `i `FE `i k3 k4 k5;rw[`aN] at this;obtain⟨q0,B',T',s',q⟩:=`C;refine⟨q0,B',T',s',?_⟩;unfold V8;rw[g60,`bm (`mB)];simp only[sp];exact q
noncomputable def pak(ps:`b1)(r:Nat):`u:=pk ps 100000 [] [] [lkd r]
theorem Zh0(hw:`c8):xl0 `tO=`a (`q ((pak ps 0).map `d))/\(pak ps 0).length<=11000000:=by
 have J:=hw.len.2;obtain⟨q0,B',T',s',q⟩:=dt0 hw 3500 100000 [] [] [] `AF .un `zQ `t `t `aO `aO `avz (λx hx=>by cases hx) (λd hd=>by
  rw[`kE];exact `l (`l (`l ⟨0,rfl,hw.len.1⟩)))
 rw[`dB] at q0 q;refine⟨S5 rfl ?_,q0⟩;refine t6 (δ':=[`a7,`kw,.un,.un,.un,.un]) rfl (t6 (δ':=[`a7,`kw,`TD,.un,.un,.un]) rfl (t6 (δ':=[`a7,`kw,`TD,`TD,.un,.un]) rfl (t6 (δ':=st ps [] [] [] `AF .un) rfl `avA)))
theorem t80(f:`iX):∀ps:`bo,`Zs ((`h7).map f)=`avB
 | []=>rfl
 | `nh=>by
  rw[`L,`L,`L,`cH,t80 f ps,`L]
theorem n80(f:`iX)(hf:∀s,f `dR=`bK):∀ps:`bo,(`avB).flatMap two=`avC f
 | []=>rfl
 | `nh=>by
  rw[`L,`jb,n80 f hf ps,`jb,`b0];show[`em p.1,f p.2]++_=[f (`s p.1),f p.2]++_;rw[hf]
theorem ly0(π:`fv)(p:Pt):cnt `FF=`z'/\kn `FF=kn p/\tx `FF=tx p/\its `FF=(`f3).map `im/\`avD/\(`At).all=`nr:=by
 have hv:`avD:=cp0 p _ (by rw[`U]);cases p with
 | text w=>exact⟨rfl,rfl,rfl,rfl,hv,rfl⟩
 | row vs=>exact⟨by show (`Lr).length=`cx;rw[`U],rfl,rfl,rfl,hv,rfl⟩
 | table ps =>
  have e:rel π (`i?)=`s? (`Au):=B8 `Ke (t80 `im ps);refine`avE
  ·rw[e];show `avF;rw[`U]
  ·rw[e];exact `avG
  ·rw[e];show `avH++[]=`e7++[];rw[`bD];rfl
 | rcd c ps =>
  have e:rel π (`wb)=`h? c (`Au):=B8 (`Ab c) (t80 `im ps);refine`avE
  ·rw[e];show `avF;rw[`U]
  ·rw[e]
   show `em c::_=`em c::`avC `im;rw[← `avG]
  ·rw[e];show `avH++[c]=`e7++[c];rw[`bD];rfl
theorem vm0(π:`fv)(j:Nat):lkv π `pe=`avI:=by unfold lkd lkv;simp only[`bW]
theorem bx0(B:`j)(j:Nat):`TE=`Kv:=by unfold nB lkd;simp only[`bW]
theorem ao0(ps:`b1)(B:`j)(W:`f)(j:Nat):nW ps B W `pe=`Z!:=by unfold nW lkd;simp only[`bW]
theorem gp0(ps:`b1)(B:`j)(T:`g)(j:Nat):`jd=`au7:=by
 unfold hb lkd;simp only[`bW]
noncomputable def laid(ps:`b1)(L:`j):`b1:=`_y
theorem Zn0(hw:`c8)(h0:`avJ)(hL:∀k∈L,`FG)(hc:∀k∈L,∀i∈tgs `avK,i∈L):Wb (laid ps L):=by
 have hl:(laid ps L).length=`tH:=by unfold laid;rw[`U]
 refine⟨by rw[hl];exact h0,`g',λp hp v hv=>?_⟩
 ·obtain⟨k,hk,rfl⟩:=`wp
  obtain⟨_,w2⟩:=U5 `FH;have hq:=`lf;obtain⟨r1,_,_,_,r5,r6⟩:=`avL;refine⟨by rw[r1];exact hq.cnt,λv hv=>?_,by rw[r6];exact hq.names,by rw[r5,`U];exact hq.few⟩;rw[r5] at hv;obtain⟨u,hu,rfl⟩:=`e4 hv;have hb:=`TF u hu;cases hb with
  | non=>exact `z
  | lk i _ =>
   rw[`avM];exact .lk _ (by have:=`avN;omega)
  | int z hz=>exact `d z hz
 ·obtain⟨k,hk,rfl⟩:=`wp
  obtain⟨_,w2⟩:=U5 `FH;obtain⟨_,_,_,_,r5,_⟩:=`avL;rw[r5] at hv;obtain⟨u,hu,rfl⟩:=`e4 hv;have hb:=(`lf).vals u hu;rw[hl];cases hb with
  | non=>exact λj e=>nomatch e
  | lk i _ =>
   rw[`avM];exact Bw.a90 (`avN)
  | int z hz=>exact λj e=>nomatch e
universe Km
namespace Rk
open DL W Rm
open Bw (bs its)
open Km (hb nB nT nW pk lkd It Wb)
inductive Pk (ps:`b1):`j->`g->`f->`j->`g->`u->Prop
 | nil (B:`j) (T:`g):Pk ps B T [] B T []
 | str {B:`j} {T:`g} {s:Str} {ds:`f} {B':`j} {T':`g} {b:`u} (h:Pk ps B `AE ds B' T' b):Pk ps B T (`bK::ds) B' T' (`qI++b)
 | val {B:`j} {T:`g} {d:D} {ds:`f} {B':`j} {T':`g} {b:`u} (hd:`TG) (h:`gn):Pk ps B T `p8 B' T' (`mz++b)
 | old {B:`j} {T:`g} {j:Nat} {ds:`f} {B':`j} {T':`g} {b:`u} (hj:`dh) (h:`gn):Pk ps B T (`io::ds) B' T' (`jd++b)
 | new {B:`j} {T:`g} {j:Nat} {ds:`f} {B1 B':`j} {T1 T':`g} {b1 b:`u} (hj:`ty) (h1:Pk ps `il T (`As) B1 T1 b1) (h2:Pk ps B1 T1 ds B' T' b):Pk ps B T (`io::ds) B' T' (`jd++(b1++b))
theorem vg0{B:`j}(hn:`hu)(hj:`ty):`avx:=y9.mpr ⟨hn,`bs,λa ha b hb e=>by rw[`Ed] at e;exact hj `TC⟩
theorem W20{d:D}(hd:`TG):`io≠d:=by
 rcases hd with rfl|⟨z,rfl⟩<;>exact λz=>nomatch z
theorem nk0(h:`wz=`io):i=j:=by
 unfold lkd at h;injection h with h
 injection h with _ h
 injection h with h _
 injection h with h
 omega
theorem Pk.pre{B B':`j}{T:`g}{ds:`f}{b:`u}(h:`gn):∃N,B'=B++N:=by
 induction h with
 | nil B T=>exact⟨[],`bs⟩
 | str _ ih=>exact ih
 | val _ _ ih=>exact ih
 | old _ _ ih=>exact ih
 | new _ _ _ i1 i2 =>
  obtain⟨N,rfl⟩:=i1;obtain⟨M,rfl⟩:=i2;exact⟨_,by rw[`aN,`aN]⟩
theorem Pk.nodup{B B':`j}{T:`g}{ds:`f}{b:`u}(h:`gn):`hu->B'.Nodup:=by
 induction h with
 | nil B T=>exact id
 | str _ ih=>exact ih
 | val _ _ ih=>exact ih
 | old _ _ ih=>exact ih
 | new hj _ _ i1 i2=>exact λhn=>i2 (i1 (vg0 hn hj))
theorem Pk.links{B B':`j}{T:`g}{ds:`f}{b:`u}(h:`gn):(∀j,`io∈ds->j∈B')/\∀k∈B',k∉B->∀j,`_j->j∈B':=by
 induction h with
 | nil B T=>exact⟨(λj h=>by cases h),λk hk hn=>`I hk hn⟩
 | str _ ih=>exact⟨λj hj=>ih.1 j (`avO λz=>nomatch z),ih.2⟩
 | val hd _ ih=>exact⟨λj hj=>ih.1 j (`avO (W20 hd)),ih.2⟩
 | old hj h ih =>
  rename_i B T j ds B' T' b;refine⟨`avP,ih.2⟩;rcases `be hi with z|z
  ·rw[nk0 z]
   obtain⟨N,rfl⟩:=h.pre;exact C6 _ hj
  ·exact ih.1 i z
 | new hj h1 h2 i1 i2 =>
  rename_i B T j ds B1 B' T1 T' b1 b;obtain⟨N,e1⟩:=h1.pre;obtain⟨M,e2⟩:=h2.pre;have m1:∀x∈B1,x∈B':=λx hx=>by rw[e2];exact C6 _ hx
  have J:j∈B1:=by rw[e1];simp
  refine⟨`avP,λk hk hn i hi=>?_⟩
  ·rcases `be hi with z|z
   ·rw[nk0 z];exact m1 _ J
   ·exact i2.1 i z
  ·by_cases hk1:k∈B1
   ·by_cases hkj:k=j
    ·subst hkj
     exact m1 _ (i1.1 i hi)
    ·exact m1 _ (i1.2 k hk1 (λz=>by
      rcases `d5 z with z|z
      ·exact hn z
      ·exact hkj (L1.mp z)) i hi)
   ·exact i2.2 k hk hk1 i hi
theorem sq0(h:It n `pe):j<n:=by
 rcases h with⟨s,e,_⟩|e|⟨z,e,_⟩|⟨i,e,hi⟩
 ·cases e
 ·cases e
 ·cases e
 ·rw[nk0 (j:=i) e];exact hi
theorem Pk.range(hw:`c8){B B':`j}{T:`g}{ds:`f}{b:`u}(h:`gn):`nu->`FI->∀j∈B',`ep:=by
 induction h with
 | nil B T=>exact λh _=>h
 | str _ ih=>exact `TH
 | val _ _ ih=>exact `TH
 | old _ _ ih=>exact `TH
 | new hj _ _ i1 i2 =>
  intro h hd;have J:=`TI;refine i2 (i1 (`iW) λd m=>`pg `pf d m) `tI
  rcases `k7 with z|z
  ·exact h x z
  ·rw[`jc];exact J
theorem Pk.told(hp:∀p∈ps,∀s∈`nr,`eq)(hit:∀j:Nat,∀s:Str,`avQ){B B':`j}{T:`g}{ds:`f}{b:`u}(h:`gn):`wA->`TJ->(∀s:Str,`AA∈ds->`eq)->T'.Nodup/\∀s∈T',`eq:=by
 induction h with
 | nil B T=>exact λh1 h2 _=>`PB
 | str _ ih =>
  rename_i B T s ds B' T' b _;intro h1 h2 h3;refine ih ?_ ?_ `Kz
  ·show (`wx).Nodup
   split
   ·exact h1
   ·rename_i hs
    exact y9.mpr ⟨h1,`bs,λa ha b hb e=>by rw[`Ed] at e;exact hs `TC⟩
  ·show ∀x∈(`wx),x∈`aI
   split
   ·exact h2
   ·intro x hx
    rcases `k7 with z|z
    ·exact h2 x z
    ·rw[`jc];exact h3 s A6
 | val _ _ ih=>exact `avR
 | old _ _ ih=>exact `avR
 | new hj _ _ i1 i2 =>
  intro h1 h2 h3;obtain⟨a,b⟩:=i1 h1 h2 (hit _);exact i2 a b `Kz
theorem Pk.steps(hw:`c8){B B':`j}{T:`g}{ds:`f}{b:`u}(h:`gn):`nu->`FI->∃n,`avS/\∀(f:Nat) (W:`f),pk ps `AC B T `KA=b++pk ps f B' T' W:=by
 induction h with
 | nil B T=>exact λ_ _=>⟨0,`bs,λf W=>`avT⟩
 | str _ ih =>
  intro h hd;obtain⟨n,h1,h2⟩:=`Ay
  refine`TK;rw[`FJ,`aN,← h2 f W];rfl
 | val hd' _ ih =>
  intro h hd;obtain⟨n,h1,h2⟩:=`Ay
  refine`TK;rw[`FJ,`aN,← h2 f W];rcases hd' with rfl|⟨z,rfl⟩<;>rfl
 | old hj _ ih =>
  rename_i B T j ds B' T' b _;intro h hd;obtain⟨n,h1,h2⟩:=`Ay
  refine`TK;rw[`FJ,`aN,← h2 f W];show `jd++pk ps `AC (`TE) T `avU=_;rw[Km.bx0,Km.ao0,`wB,`wB]
 | new hj p1 p2 i1 i2 =>
  rename_i B T j ds B1 B' T1 T' b1 b;intro h hd;have J:=`TI;have M:∀x∈`ik,`qL:=λx hx=>by
   rcases `k7 with z|z
   ·exact h x z
   ·rw[`jc];exact J
  have hI:=`pg `pf;obtain⟨n1,a1,a2⟩:=i1 M hI;obtain⟨n2,c1,c2⟩:=i2 (p1.range hw M hI) `tI
  have O:=`avV;refine⟨`KB,by rw[`W,`dw] at a1;rw[`aH];omega,`_h⟩;rw[`avW,`aN,`aN,← c2 f W,← a2 `AD `KA];show `jd++pk ps (n1+`AD) (`TE) T `avU=_;rw[Km.bx0,Km.ao0,`wC,`wC]
theorem Pk.ex(hw:`c8):∀(m:Nat) (ds:`f) (B:`j) (T:`g),`wD->`hu->`nu->`FI->∃B' T' b,`gn:=by
 intro m
 induction m with
 | zero =>
  intro ds
  induction ds with
  | nil=>exact `avX
  | cons d ds ih =>
   intro B T hm hn hB hd;have J:∀d∈ds,`f4:=`avY
   rcases hd d A6 with⟨s,rfl,_⟩|rfl|⟨z,rfl,_⟩|⟨j,rfl,hj⟩
   ·obtain⟨B',T',b,h⟩:=`avZ
    exact`av_
   ·obtain⟨B',T',b,h⟩:=`qM
    exact`av0
   ·obtain⟨B',T',b,h⟩:=`qM
    exact`av1
   ·by_cases hj':`dh
    ·obtain⟨B',T',b,h⟩:=`qM
     exact`av2
    ·exfalso
     have:=`mD `TL (m:=`ir) λy hy=>`en (by
      rcases `d5 hy with z|z
      ·exact hB y z
      ·rw[`jc];exact hj)
     rw[`qD,`W,`dw] at this;omega
 | succ m im =>
  intro ds
  induction ds with
  | nil=>exact `avX
  | cons d ds ih =>
   intro B T hm hn hB hd;have J:∀d∈ds,`f4:=`avY
   rcases hd d A6 with⟨s,rfl,_⟩|rfl|⟨z,rfl,_⟩|⟨j,rfl,hj⟩
   ·obtain⟨B',T',b,h⟩:=`avZ
    exact`av_
   ·obtain⟨B',T',b,h⟩:=`qM
    exact`av0
   ·obtain⟨B',T',b,h⟩:=`qM
    exact`av1
   ·by_cases hj':`dh
    ·obtain⟨B',T',b,h⟩:=`qM
     exact`av2
    ·have M:∀x∈`ik,`qL:=λx hx=>by
      rcases `k7 with z|z
      ·exact hB x z
      ·rw[`jc];exact hj
     have hI:=`pg `Lk;obtain⟨B1,T1,b1,h1⟩:=im (`As) `il T `vY `TL M hI;obtain⟨N,e1⟩:=h1.pre;obtain⟨B',T',b,h2⟩:=im ds B1 T1 (by rw[e1];simp only[`W,`dw];omega) (h1.nodup `TL) (h1.range hw M hI) J;exact⟨B',T',_,.new hj' h1 h2⟩
theorem bn0(hw:`c8):∃L T b1,`av3/\`av4=`_k++b1/\L.Nodup/\(∀k∈L,`FG)/\(∀k∈L,`av5)/\∃N,L=0::N:=by
 have J:=`FK;have hB:∀j∈[0],`ep:=`av6
 have hI:=`av7;obtain⟨L,T,b1,h⟩:=Pk.ex hw 60 `_i [0] [] `i `aO hB hI;have hn:=`av8;have hr:=h.range hw hB hI;obtain⟨N,hN⟩:=h.pre;have hp:`TM:=`TN;obtain⟨n,a1,a2⟩:=hp.steps hw `av9 `av';have hl:`av!:=by
  have:=`mD hn (m:=`ir) λy hy=>`en (hr y hy)
  rwa [S0] at this
 have M:n<=100000:=by simp only[`aH,`dP] at a1;omega
 refine⟨L,T,b1,h,?_,hn,hr,λk hk j hj=>?_,N,hN⟩
 ·have:=a2 `tJ []
  rw[`av?,`bc] at this;show pk ps 100000 [] [] `AF=_;rw[`C];have e:pk ps `tJ L T []=[]:=by
   generalize `KE=m;cases m<;>rfl
  rw[e,`bc,`bc]
 ·by_cases z:k∈[0]
  ·rw[`jc] at hj
   exact h.links.1 j hj
  ·exact h.links.2 k hk z j hj
universe Rk
namespace Rk
open DL W Rm StrLaws
open Bw (bs its two kn cnt Vb Gq)
open Km (hb nB nT nW pk lkd It Wb)
open K22 (lkv rel)
theorem tr0:∀{l:`f},(∀d∈l,`EB)->xv0 l=`b
 | [],_=>rfl
 | d::l,h=>by
  unfold xv0;rw[`FL,tr0 `pZ];rfl
theorem dn0{d:D}(h:It n d)(π:`fv):tr `FM=`b/\nrf `FM=`b:=by
 rcases h with⟨s,rfl,_⟩|rfl|⟨z,rfl,_⟩|⟨j,rfl,_⟩
 ·exact`gP
 ·exact`gP
 ·exact`gP
 ·rw[show lkv π `kC=`avI from `wE π j]
  exact⟨rfl,c80 _⟩
theorem Ur0(p:Pt):kn p<4:=by have:=Bw.aj0 p;omega
theorem oy0{w:Str}(h:`asp):`AG<=20/\∀c∈`wF,`wG:=by
 unfold isWord at h;rw[`a?,`TO] at h;have e:`FN:=rfl;refine⟨`F,`E'⟩;have:=C90.mp h.2 c hc;rw[← Xr0];have h3:`SA:=`awa
 exact h3
theorem oa0{w:Str}(h:`kv w=`b):1<=`AG/\`AG<=8/\∀c∈`wF,c∈sg0:=by
 unfold isName at h;rw[`a?,`a?,`TO,`TO] at h;have e:`FN:=rfl;refine⟨`F,`F,`E'⟩;have:=C90.mp h.1.2 c hc;rw[← Vj0];have h3:`wd:=`awa
 exact h3
universe Rk
namespace Rk
open DL W Rm StrLaws
open Bw (bs sg its two kn cnt tx Vb Gq)
open Km (hb nB nT nW pk lkd It Wb ix)
open K22 (lkv rel)
structure Wf(ps:`b1)(pool:`g):Prop where
 wb:`c8
 pl:`S7<=60
 pn:∀s∈`aI,`wm
 ok:∀p∈ps,p.Ok
 nm:∀p∈ps,∀s∈`nr,`eq
section
variable{B:`j}{T:`g}{S:RS}
theorem V00{B M:`j}(h:`dh):ix (B++M) j=`tA:=by
 induction B with
 | nil=>cases h
 | cons a B ih =>
  rw[`fr];unfold ix
  by_cases e:a=j
  ·rw[`dC,`dC]
  ·rw[`dl,`dl,ih `Fr]
theorem Wt0{B M:`j}(h:`ty):ix (B++j::M) j=`cj:=by
 induction B with
 | nil =>
  rw[`dB];unfold ix;rw[`bx];rfl
 | cons a B ih =>
  rw[`fr];unfold ix;have h1:a≠j:=λz=>h (z▸A6)
  rw[`Ch,ih λz=>h (A5 _ z),`aH]
universe zz
theorem un0(W:`je){p:Pt}(hp:p∈ps):∀s:Str,`AA∈`f3->`eq:=λs hs=>by
 have hv:=`aaq;have hn:=`mK p hp;have J:∀qs:`bo,`awb->`AA∈`wH->s∈`tL:=λqs hv h=>by
  obtain⟨q,hq,hm⟩:=h9.mp h;unfold two at hm;rcases `Ti with e|hm
  ·injection e with e
   exact e▸`_l
  ·have:=hv q.2 `t3
   rw[← `Tj] at this;cases `C
 cases p with
 | text w=>cases hs
 | row vs=>exact `I (hv _ hs) (λz=>by cases z)
 | table qs=>exact `awc
 | rcd c qs =>
  rcases `be hs with e|hs
  ·injection e with e
   exact hn s (C8 _ (by rw[e];exact `Tl))
  ·exact `awc
universe Rk
namespace Km
open DL W K22
open Bw (bs sg cnt kn its tx fold Vb Gp Gq two)
theorem kv0{p:Pt}(h:Gq p):p.few/\`FO:=by
 have z:`gm:=`aq
 have hc:=h.cnt;have:`FO:=by
  cases p with
  | text w=>exact `db
  | row vs=>exact hc
  | table ps=>show `Kh<=20;rw[`U];exact hc
  | rcd c ps=>show `Kh<=20;rw[`U];exact hc
 exact⟨B5 `C `i,`C⟩
universe Km
namespace Rk
open DL W Rm StrLaws
open Bt (Z9)
open Bw (bs sg its two kn cnt tx Vb Gq)
open Km (hb nB nT nW pk lkd It Wb ix)
open K22 (lkv rel tgs nd)
mutual
noncomputable def nob:`cl
 | `c'=>`FP
 | `cu=>`FP
 | `bk=>`n
 | `k4=>`n
 | `k5=>`n
 | _=>`b
noncomputable def te0:`vB
 | []=>`b
 | `mW=>nob x&&`FP
end
mutual
theorem es0:∀(x y:D),nob x=`b->nob y=`b->`mC=`b->x=y
 | `z,y,_,h2,h=>by cases y<;>first|rfl|(exact `wI)
 | `mZ,y,_,h2,h=>by
  cases y with
  | int b=>rw[deq] at h;rw[beq_iff_eq.mp h]
  | bl b=>simp[nob] at h2
  | _=>exact `wI
 | `Co,y,_,h2,h=>by
  cases y with
  | str b=>rw[deq] at h;rw[beq_iff_eq.mp h]
  | _=>exact `wI
 | `bk,_,h1,_,_=>`TP
 | `k4,_,h1,_,_=>`TP
 | `k5,_,h1,_,_=>`TP
 | `c',y,h1,h2,h=>by
  cases y with
  | tup ys =>
   rw[deq] at h;rw[nob] at h1 h2;rw[`awd]
  | _=>exact `wI
 | `cu,y,h1,h2,h=>by
  cases y with
  | lst ys =>
   rw[deq] at h;rw[nob] at h1 h2;rw[`awd]
  | _=>exact `wI
theorem nd0:∀(xs ys:`f),`FP=`b->te0 ys=`b->`Dr=`b->xs=ys
 | [],[],_,_,_=>rfl
 | [],`dX,_,_,h=>`awe
 | `dX,[],_,_,h=>`awe
 | `mW,`vs,h1,h2,h=>by
  rw[ye0,`a?] at h;rw[te0,`a?] at h1 h2;rw[es0 x y h1.1 h2.1 h.1,nd0 xs ys h1.2 h2.2 h.2]
end
theorem qn0:∀{l:`f},(∀d∈l,`awf)->te0 l=`b
 | [],_=>by rw[te0]
 | d::l,h=>by
  rw[te0,`FL,qn0 `pZ];rfl
theorem ue0:∀{l:`f} {n:Nat},(∀d∈l,`j?)->`j7 l n=`b
 | [],_,_=>by rw[`j7]
 | d::l,n,h=>by
  rw[`j7,`FL,ue0 `pZ];rfl
structure Sm(d:D)(n:Nat):Prop where
 nb:`awf
 ln:`j?
theorem Sm.tup(h:∀d∈l,Sm d n):Sm (`B l) `fa:=`awg
theorem Sm.lst(h:∀d∈l,Sm d n):Sm `sW `fa:=`awg
theorem Sm.str(s:Str)(n:Nat):Sm `dR n:=`awh
theorem Sm.int(s:Int)(n:Nat):Sm (`d s) n:=`awh
theorem Sm.two{a b:D}(ha:Sm a n)(hb:Sm b n):Sm (`Pt) `fa:=`B λd hd=>by
 rcases `le with rfl|hd
 ·exact ha
 ·rw[`kE];exact hb
theorem Sm.val{v:D}(h:`iq)(n:Nat):Sm v `fa:=by
 cases h with
 | non=>exact⟨`_m,by simp[`dv]⟩
 | lk j _=>exact .two `qN (`TQ)
 | int z _=>exact `TQ
theorem Uq0{p:Pt}(hv:∀v∈`e?,`iq)(n:Nat):Sm p.d (n+4):=by
 have pairs:∀qs:`bo,`awb->Sm `KJ (n+3):=λqs h=>`B λd hd=>by
  obtain⟨q,hq,rfl⟩:=`c7;exact .two `qN (.val (h q.2 `t3) n)
 cases p with
 | text w=>exact .two `qN `qN
 | row vs=>exact .two `qN (`B λd hd=>.val (hv d hd) `fa)
 | table qs=>exact .two `qN (`awi)
 | rcd c qs =>
  exact `B λd hd=>by
   rcases `le with rfl|hd
   ·exact `KG
   rcases `le with rfl|hd
   ·exact `KG
   ·rw[`kE];exact `awi
theorem ej0(hw:`c8):Sm `tC 50:=Sm.tup (n:=49) λd hd=>by
 obtain⟨p,hp,rfl⟩:=`c7;exact Uq0 `avr 45
theorem he0(l:`u):Sm `A6 50:=Sm.lst (n:=49) λd hd=>by
 obtain⟨z,_,rfl⟩:=`c7;exact `TQ
theorem Sm.eq{x y:D}(hx:Sm x 50)(hy:Sm y 50)[`eD (x=y)]:u10 x y=`a `adH:=by
 show `awj;rw[`TR]
 by_cases h:x=y
 ·rw[`gl,← h,DL.tm0 x 50 hx.ln]
 ·rw[`iH]
  cases e:`mC with
  | false=>rfl
  | true=>exact `I (es0 x y hx.nb hy.nb e) h
theorem Sm.ne{x y:D}(hx:Sm x 50)(hy:Sm y 50)[`eD (x=y)]:xh0 x y=`a (.bl (!`xm)):=by
 show (if `AI then `a (`cC (!`mC)) else `c)=_;rw[`TR];have:=Sm.eq hx hy;have e:u10 x y=`_o:=by
  show `awj;rw[`TR]
 rw[e] at this;injection this with this
 injection this with this
 rw[`C]
theorem iy0(p:Pt)(h:`FO):V2 `o9=`a (`q `e?):=by
 have z:`ja:=`aq
 have hc:∀(X:D) (qs:`bo),`awk->`TS<=20->X6 2 [] `wa `JE noT `V [.sh X]=`a (`q (`kF)):=λX qs hX hl=>by
  refine `awl
  ·show `fw (o2 `ay `oY ixD [.sh X]) _=_
   rw[p6 (x:=X) (y:=`KI) rfl rfl,hX];rfl
  ·rw[zw0 (λd=>match d with|`B [_,b]=>b|_=>`z) (λd hd=>by
    obtain⟨q,_,rfl⟩:=`c7;exact⟨[.sh (`KK),.sh q.2],rfl,rfl,rfl⟩),`bD]
   rfl
 cases p with
 | text w =>
  refine `Fn;rw[`ht];exact `awm
 | row vs =>
  refine S5 rfl (t6 (δ':=[`Fo]) `d0 `Aa);rw[`ht];exact `awm
 | table qs =>
  have h:`FQ:=h;rw[`U] at h;refine S5 rfl (t6 (δ':=`awn) `d0 (t6 (δ':=`awn) `d0 `awo))
 | rcd c qs =>
  have h:`FQ:=h;rw[`U] at h;refine S5 rfl (t6 (δ':=`awp) `d0 (t6 (δ':=`awp) `d0 `awo))
theorem nu0(X:D)(s:`Oq)(qs:`bo)(i:Nat)(hi:gv i s=`a X)(hX:`awk)(hl:`TS<=20):X6 1 [] (tupI (o2 (gv i) `oY ixD)) `bJ noT `ks s=`a (`AM):=by
 have z:`ja:=`aq
 refine `awl
 ·show `fw (o2 (gv i) `oY ixD s) _=_
  rw[p6 (x:=X) (y:=`KI) hi rfl,hX];rfl
 ·rw[zw0 (λd=>match d with|`B [a,_]=>a|_=>`z) (λd hd=>by
   obtain⟨q,_,rfl⟩:=`c7;exact⟨[.sh (pr q)],rfl,rfl,rfl⟩),`bD]
  rfl
theorem j50:∀(qs:`bo) (vs:`f),(`_u vs).map (`aoI)=(`AN vs).map pr
 | [],_=>rfl
 | q::qs,[]=>rfl
 | q::qs,`vM=>by
  rw[`L,`cH,`L,`L,`cH,`L,j50 qs vs];rfl
universe Rk
namespace Rk
open DL W Rm StrLaws
open Bt (Z9)
open Bw (bs sg its two kn cnt tx Vb Gq)
open Km (hb nB nT nW pk lkd It Wb ix)
open K22 (lkv rel tgs nd)
theorem h70:∀L:`j,`TT=`a (`awq)
 | []=>rfl
 | k::L=>by
  show (`TT).map (((k:Nat):Int)::·)=_;rw[h70 L];rfl
theorem il0(j:Nat):∀L:`j,j∈L->(`awq).findIdx? (λy=>`D (y=`bH))=`a (`FR)
 | [],h=>by cases h
 | k::L,h=>by
  rw[`L,List.findIdx?_cons];unfold ix
  by_cases e:k=j
  ·rw[`dC,`ns]
   rfl
  ·rw[`dl,`fb,il0 j L `Fr]
   rfl
theorem Xk0{v:D}(h:`iq)(L:`j)(hl:∀j:Nat,v=`io->j∈L):yx0 [v,`tM]=`a (`Ll):=by
 cases h with
 | non=>exact O1 rfl (t6 (δ':=[`tD,`it]) `lb (U4 rfl))
 | int z _=>exact O1 rfl (t6 (δ':=[`bV,`it]) `lb (U4 rfl))
 | lk j _ =>
  rw[show lkv `c2 `kC=lkd (`FR) from `wE _ _];refine `Sw;rw[`wi];refine U4 (z50 (ys0 (`am rfl (`am (d:=`d (`FR:Int)) ?_ rfl)) `vZ));rw[Y50 (d:=`tM) (ds:=[`dL]) rfl `zR];show (`TT).bind _=_;rw[h70,`k,il0 j L (hl j rfl)];rfl
theorem im0(a b:`f):tgs `te=tgs a++tgs b:=by unfold tgs;rw[`awr]
theorem ii0{p:Pt}:tgs (`f3)=tgs `e?:=by
 have J:∀qs:`bo,tgs (`wH)=tgs (`kF):=λqs=>by
  induction qs with
  | nil=>rfl
  | cons q qs ih =>
   rw[`jb,im0,ih];show tgs [`KK,q.2]++tgs _=tgs ([q.2]++`kF);rw[im0];rfl
 cases p with
 | text w=>rfl
 | row vs=>rfl
 | table qs=>exact J qs
 | rcd c qs=>exact J qs
theorem jf0(j:Nat)(ds:`f):tgs (`io::ds)=j::`AL:=by
 unfold tgs lkd;rw[`Bv];simp only[`bW]
theorem fb0{d:D}(h:(∃s,d=`bK)∨`TG)(ds:`f):tgs `p8=`AL:=by
 rcases h with⟨s,rfl⟩|rfl|⟨z,rfl⟩<;>rfl
theorem n70(ds:`f):(`AL).length<=`bf:=List.length_filterMap_le ..
noncomputable def NT:GB:=`arT
noncomputable def NB':GS:=(v6 `arU
 (v6 (ifD `arV
 (v6 (d7 (K5 1 `bI))
 (v6 `arW
 (v6 `arX
 v9)))
 v9)
 v9))
noncomputable def ns5(ps:`b1)(B W:`j)(s3 s4:Sl):Ds:=[`a7,.ow (`TU),.ow `tN,s3,s4]
theorem gi0(ps:`b1)(B W:`j)(d3 s4:Sl):NT `aws=`a (`D (W≠[])):=by
 have hl:`awt:=by
  rw[`dv];exact ue0 λd hd=>by
   obtain⟨k,_,rfl⟩:=`c7;simp[`dv]
 have he:xh0 `tN `dQ=`a (.bl (`D (W≠[]))):=by
  show (if `awt/\`dv `dQ 50=`b then `a (`cC (!deq `tN `dQ)) else `c)=_;rw[`H ⟨hl,by simp[`dv,`j7]⟩,deq];cases W with
  | nil=>simp[K22.nd,ye0]
  | cons w W =>
   rw[`iV,`FS];cases e:`KL with
   | nil=>simp[ye0,K22.nd]
   | cons a r=>simp[ye0,K22.nd]
 show ob `Y_ (frz `aws)=_;refine `jf;rw[p6 (x:=`KM) (y:=`q []) rfl rfl];exact he
theorem Yq0(hw:`c8)(hj:`ep)(s1 s2 s4:Sl):X6 1 [] `Y4 `bJ `oZ `h' [`a7,s1,s2,`mr,s4]=`a (`KN):=by
 have z:`ja:=`aq
 obtain⟨w1,w2⟩:=`KC;have hq:=`lf;have J:=`awu;generalize `ij=p at w1 w2 hq J;refine `awv
 ·show `fw (oA `Y3 V2 _) lf0=_
  rw[`avl,iy0 p J];rfl
 ·have M:∀vs:`f,(∀v∈vs,`iq)->zm0 `bJ `oZ `h' [.un] vs=`a (nd (tgs vs)):=by
   intro vs
   induction vs with
   | nil=>exact `pd
   | cons v vs ih =>
    intro hv;have ih:=ih λx hx=>hv x `xT
    unfold zm0;cases hv v A6 with
    | non =>
     simp only[show gN 0 `wJ `wo=`a [`tD] from rfl,`k,show ob `mm [`kG `z]=`aJ from rfl];exact ih
    | int x _ =>
     simp only[show gN 0 (`bl x) `wo=`a [`tE] from rfl,`k,show ob `mm [`kG `Kr]=`aJ from rfl];exact ih
    | lk i _ =>
     simp only[show gN 0 (`aww) `wo=`a [.sh `Ax] from rfl,`k,show ob `mm `awx=`cW from rfl,show o2 `ay `aS ixD `awx=`awy from rfl,ih];rw[show `aww=`wz from rfl,jf0];rfl
  exact M `e? `TF
theorem iv0(hw:`c8){B W:`j}(hj:`ep)(hB:`ww)(hW:`pc<=200000)(s3 s4:Sl):∃s4',NB' `awz=`a (.nx (ns5 ps (`Kv) ((if `dh then [] else `AK)++W) `ph s4')):=by
 have zs:`qG:=`aq
 have p1:V7 (u70 2) `c0 `awz=`a (.nx (`FT)):=by
  unfold ns5 V7 u70;rw[`iV,`FS];show `fw (`gk (λd'=>(d',([`a7,.ow (`TU),.ow (`q (`awA).dropLast),s3,s4]:Ds))) (`awA).getLast?) _=_;rw[`avc,`avd];rfl
 have c:tg0 `Y1 (`FT)=`Tx:=by
  show ob `Y0 (frz (`FT))=_;refine `jf;rw[p6 (x:=`dL) (y:=`TU) rfl rfl];exact K22.U20 B j
 by_cases h:`dh
 ·refine⟨s4,?_⟩
  rw[`d_,`d_];refine t6 p1 (t6 (δ':=`FT) ?_ rfl);rw[Y5 (by rw[c,`Fy])];rfl
 ·rw[`fg,`fg]
  obtain⟨_,w2⟩:=`KC;have M:=(Km.kv0 (`lf)).2;have J:=n70 `_q;refine⟨`_r,t6 p1 `awB⟩;rw[N6 (by rw[c,`gl])];refine t6 (δ':=ns5 ps `il W `ph s4) ?_ (t6 (X7 (d:=`KN) (Yq0 hw hj _ _ _)) `awB)
  ·refine(`wn (l:=nd B) (d:=`dL) rfl rfl (by rw[`FU];omega)).trans ?_
   unfold ns5;rw[`FS];rfl
  ·generalize `AK=E at J
   show Q9 2 `Y5 [`a7,.ow (`q (nd `il)),.sh `tN,`mr,.sh (`awC)]=_;unfold Q9;rw[p6 (x:=`KM) (y:=`q (nd E).reverse) rfl (by rw[b7 (ds:=[`awC]) rfl];rfl)];simp only[v80];rw[`H (by rw[`FU,`qp,`qp,`FU];omega)];unfold ns5;rw[`avm,`FS `tF,K22.Wa0];rfl
theorem px0{gt:GB}{δ:Ds}(h1:`TV)(h2:`Eu):V8 gt G `fa δ=`Ps:=by
 conv=>lhs;unfold V8
 rw[h1];simp only[h2]
theorem Pk.order(hw:`c8){B B':`j}{T:`g}{ds:`f}{b:`u}(h:`gn):`hu->`nu->`FI->∃n,`avS/\∀(f:Nat) (W:`j) (s3 s4:Sl),`pc+`bf+51*`AB<=51*`cj+100000->∃s3' s4',V8 NT NB' `AC (ns5 ps B (`FV) s3 s4)=V8 NT NB' f (ns5 ps B' W s3' s4'):=by
 have M:∀{B:`j},`hu->`nu->`ww:=λ{B} hn hB=>by
  have:=`mD hn (m:=`ir) λy hy=>`en (hB y hy)
  rw[`qD] at this;have:=`FK;omega
 induction h with
 | nil B T=>exact λ_ _ _=>⟨0,`bs,λf W s3 s4 _=>⟨s3,s4,`avT⟩⟩
 | str _ ih =>
  intro hn hB hd;obtain⟨n,h1,h2⟩:=`TW
  exact⟨n,`mB,λf W s3 s4 hl=>by rw[fb0 (`m `ag)];exact `awD⟩
 | val hd' _ ih =>
  intro hn hB hd;obtain⟨n,h1,h2⟩:=`TW
  exact⟨n,`mB,λf W s3 s4 hl=>by rw[fb0 (`l hd')];exact `awD⟩
 | old hj p ih =>
  rename_i B T j ds B' T' b;intro hn hB hd;obtain⟨n,h1,h2⟩:=`TW
  obtain⟨N,hN⟩:=p.pre;have a3:`cj<=`AB:=by rw[hN,`W];omega
  refine⟨n+1,`mB,`awE⟩;rw[`aH] at hl;have Y:=n70 ds;obtain⟨s4',e⟩:=iv0 hw (B:=B) (W:=`FV) (hB j hj) (M hn hB) `FE s3 s4;obtain⟨a,c,q⟩:=h2 f W `ph s4' `i;refine⟨a,c,?_⟩;rw[jf0,`fr,`FJ,`awF,`wB,`wB,`dB];exact q
 | new hj p1 p2 i1 i2 =>
  rename_i B T j ds B1 B' T1 T' b1 b;intro hn hB hd;have J:=`TI;have U:=vg0 hn hj;have O:∀x∈`ik,`qL:=λx hx=>by
   rcases `k7 with z|z
   ·exact hB x z
   ·rw[`jc];exact J
  have hI:=`pg `pf;obtain⟨n1,a1,a2⟩:=i1 U O hI;obtain⟨n2,c1,c2⟩:=i2 (p1.nodup U) (p1.range hw O hI) `tI
  obtain⟨N1,Z⟩:=p1.pre;obtain⟨N2,a0⟩:=p2.pre;have a6:`cj+1<=B1.length:=by rw[Z,`W,`W,`dw];omega
  have a5:B1.length<=`AB:=by rw[a0,`W];omega
  have a4:=`avV;rw[`W,`dw] at a1 a2;refine⟨`KB,`mB,`awE⟩;rw[`aH] at hl;have Y:=n70 ds;obtain⟨s4',e⟩:=iv0 hw (B:=B) (W:=`FV) J (M hn hB) `FE s3 s4;rw[`wC,`wC] at e;obtain⟨t3,t4,q1⟩:=a2 `AD (`FV) `ph s4' `FE;obtain⟨v3,v4,q2⟩:=c2 f W t3 t4 `i;refine⟨v3,v4,?_⟩;rw[jf0,`fr,`avW,`awF,← ii0,q1,q2]
theorem js0(hw:`c8){T:`g}{b1:`u}(h:`av3):`awG:=by
 have J:=`FK;have hp:`TM:=`TN;obtain⟨n,a1,a2⟩:=hp.order hw `avz `av9 `av';have hB:∀j∈[0],`ep:=`av6
 have hl:`av!:=by
  have:=`mD (`av8) (m:=`ir) λy hy=>`en (h.range hw hB (`av7) y hy)
  rwa [S0] at this
 simp only[`aH,`dP] at a1;obtain⟨s3,s4,q⟩:=a2 `tJ [] .un .un `zQ;have e:V8 NT NB' `tJ `awH=`a (.nx `awH):=by
  rw[show `KE=(99999 - n)+1 by omega];unfold V8;rw[gi0];rfl
 rw[`av?,e] at q;exact S5 rfl (t6 (δ':=[`a7,`kw,.un,.un,.un]) rfl (t6 (δ':=ns5 ps [] [0] .un .un) rfl `avA))
noncomputable def R1:GS:=(v6 `ar0
 v9)
noncomputable def R2:GS:=(v6 `ar2
 (v6 `ar3
 v9))
noncomputable def R3:GS:=(ifD `ar_ R1
 (v6 (ifD `ar1 R2 v9) v9))
theorem Uw0(p:Pt)(h:`FO)(f:`iX)(a b c d s6:Sl):∃s6',R3 [a,b,c,d,`Fm,`awI,s6]=`a (.nx [a,b,c,d,.sh (`qH p (`tG f)).d,`awI,s6']):=by
 have z:`ja:=`aq
 cases p with
 | text w =>
  refine`awJ;show ifD _ _ _ `awK=_;rw[`my];refine t6 (δ':=`awK) ?_ rfl;rw[`my];rfl
 | row vs =>
  refine`awJ;show ifD _ _ _ [a,b,c,d,`Fo,.sh (`q (`e6 f)),s6]=_;rw[`ht];exact t6 (X7 (d:=(`qH (`i!) (`e6 f)).d) `atP) rfl
 | table qs =>
  have h:`FQ:=h;rw[`U] at h;refine`awL;show ifD _ _ _ [a,b,c,d,`_p,`FW,s6]=_;rw[`my];refine t6 (δ':=[a,b,c,d,.sh (`qH `awM `tP).d,`FW,`KO]) ?_ rfl;rw[`ht];refine `awN;rw[p6 (x:=`B [`h9]) (y:=`awO) rfl (ys0 (`am (by
   rw[b7 (ds:=`awP) (`am (by
    rw[`awQ];show `awR;rw[j50]) rfl)]
   rfl) rfl) `awS)]
  rfl
 | rcd cl qs =>
  have h:`FQ:=h;rw[`U] at h;refine`awL;show ifD _ _ _ [a,b,c,d,.sh (`Ab cl qs).d,`FW,s6]=_;rw[`my];refine t6 (δ':=[a,b,c,d,.sh (`qH (`h? cl qs) `tP).d,`FW,`KO]) ?_ rfl;rw[`ht];refine `awN;rw[p6 (x:=`B [`kr,`s cl]) (y:=`awO) rfl (ys0 (`am (by
   rw[b7 (ds:=`awP) (`am (by
    rw[`awQ];show `awR;rw[j50]) rfl)]
   rfl) rfl) `awS)]
  rfl
noncomputable def DB:GS:=(v6 `arY
 (v6 `arZ
 (v6 R3
 (v6 (d7 (K5 2 `e8))
 v9))))
theorem T50{d:D}(h:`AJ[j]?=`a2):∃k:Nat,L[j]?=`eZ/\d=`ka:=by
 unfold K22.nd at h;rw[`ex] at h;cases e:L[j]? with
 | none=>rw[e] at h;cases h
 | some k=>rw[e] at h;exact⟨k,rfl,`QL⟩
theorem br0(hw:`c8)(hn:L.Nodup)(hL:∀k∈L,`FG)(hc:∀k∈L,`av5)(hnum:`awG):zu0 `tO=`a (`qO):=by
 have zs:(9000:Nat)<=`P:=`aq
 have a0:`tH<=60:=by
  have:=`awT
  rw[`qD] at this;have:=`FK;omega
 obtain⟨δ',l3,l4⟩:=vq0 (f:=gN 3) (G:=DB) (λi δ=>∃s3 s4 s5 s6:Sl,δ=[`a7,`it,.ow (`q ((`KQ i).map `tQ)),s3,s4,s5,s6]) `AJ 0 `awU (by
  rintro j d δ hj ⟨s3,s4,s5,s6,rfl⟩;obtain⟨k,hk,rfl⟩:=T50 hj;have M:=D4 hk;rw[`ip];obtain⟨w1,w2⟩:=`mA (hL k M);have hq:=`lf;have U:=hc k M;have e1:(`KQ `m6).map (`tQ)=`_w (`tQ)++[(`Ky).d]:=by rw[`auv,hk,`b0];rfl
  generalize `Kx=p at w1 w2 hq U e1;have O:=`awu;have Y:∀i,`wz∈`e?->i∈L:=λi hi=>U i (by
   have J:∀qs:`bo,`wz∈`kF->`wz∈`wH:=λqs h=>by
    obtain⟨q,hq,e⟩:=`e4 h;exact h9.mpr ⟨q,hq,by unfold two;rw[e];simp⟩
   cases p with
   | text w=>cases hi
   | row vs=>exact hi
   | table qs=>exact J qs hi
   | rcd c qs=>exact A5 _ (J qs hi))
  obtain⟨Z,hr⟩:=Uw0 p O `pi (`a7) (`it) (`awV) (`gW) s6;refine⟨[`a7,`it,`awV,`gW,s4,s5,s6],_,rfl,t6 `au8 (t6 (X7 (d:=`awW) ?_) (t6 hr (t6 (`wn (l:=`_x) (d:=`awX) rfl rfl (`apK)) rfl))),`gW,.sh `awX,.sh (`awW),Z,by rw[e1];rfl⟩
  ·rw[p6 (x:=`ii) (y:=`ka) rfl rfl]
   exact w1
  ·refine `awv
   ·show `fw (oA `mk V2 _) lf0=_
    rw[`Ty,iy0 p O];rfl
   ·exact zw0 `pi λv hv=>⟨[.sh v,`it],rfl,rfl,by
     rw[b7 (ds:=[v,`tM]) rfl];exact Xk0 (`TF v hv) L λi e=>Y i (e▸hv)⟩) ⟨.un,.un,.un,.un,rfl⟩
 obtain⟨s3,s4,s5,s6,rfl⟩:=l4;rw[`FU,`ip,`aux] at l3;refine O1 rfl (t6 (δ':=[`a7,`it,.un,.un,.un,.un,.un]) (X7 (by rw[`FX];exact hnum)) (t6 (δ':=`awU) rfl (t6 (v60 (items:=nd L) rfl l3) `z?)));show oA `e9 U9 [`a7,`it,.sh (`awY),wx0 s3,wx0 s4,wx0 s5,wx0 s6]=_;rw[b7 (ds:=[`awY]) rfl];show `a (`dx _)=`a (`awZ);rw[`bD];rfl
universe Rk
namespace L2
open Spec PyProof.Rows
theorem rc0{t:gs0}(h:j80 X t):j80 X (λo i v H Q=>t o i v H λH'=>∃a sub,`Rn/\Q `Ro):=λpins s σ H o i v ov iv u Q I ro ri rv q =>
 thn (h `h s σ H o i v ov iv u _ I ro ri rv q) λ_ s' ⟨H',I',a,sub,c,k⟩=>⟨_,`Rp c,k⟩
universe L2
namespace DL
open Spec PyProof.Rows L2
noncomputable def putN(i:Nat)(go gk:GE):`aF:=λv δ=>`v' λd=>`ni λdk=>`k! λns=>`Ry λk=>match `mf with
 | `aqd=>`Q6 λq=>if `FY/\`eb<`P then `a (setN i k (`bv `X9 (J9 ks ds q v)) δ) else `c
 | _=>`c
noncomputable def rs0(i:Nat)(go gk:GE):`aF:=λv δ=>`v' λd=>`ni λdk=>`k! λns=>`Ry λk=>match `mf,dk with
 | `nl,`dM=>(`aw_).bind λj=>if `FY then `a (setN i k (`q (es.set j v)) δ) else `c
 | _,_=>`c
theorem qm0[`hp]{q:κ}{d:D}(hv:`i_):∀{ks:`hq} {ds:`f} {xs:`K},`e_->`eY K H B as `anF (`D0)
 | [],_,_,_=>by simp[y50]
 | `eF,[],xs,h=>by rw[y50] at h;subst h;simp[y50]
 | `eF,d'::ds,xs,h=>by
  rw[zx0] at h;obtain⟨x,r,rfl,h1,h2⟩:=h;rw[`cH,`cH,`L,`L,zx0];refine⟨_,_,rfl,?_,qm0 hv h2⟩
  by_cases e:k=q
  ·simp only[e,`dA];exact hv
  ·simp only[e,`b?];exact h1
theorem kp0(hu:`ft)(ho:`v!)(h:PD X e gk)
  (ha:∀v,`aw0=(do
   let ov ← `MK
   let iv ← `D2
   `uu
   `uv
   `uw):=by intro _;rfl):PTG X `KR (putN i go gk):=.mk λH₀ B₀ d δ pins s σ H v u Q I r ⟨δ',en,e1,k⟩=>by
 unfold putN at e1;obtain⟨B,b1,b2,env,rv⟩:=`ba;cases e2:`oO with
 | none=>rw[e2] at e1;cases e1
 | some dx =>
 rw[e2,`k] at e1;cases e3:`oL with
 | none=>rw[e3] at e1;cases e1
 | some dk =>
 rw[e3,`k] at e1;cases e5:`ek with
 | none=>rw[e5] at e1;cases e1
 | some ns =>
 rw[e5,`k] at e1;cases e6:sj0 dx with
 | none=>rw[e6] at e1;cases e1
 | some kk =>
 rw[e6,`k] at e1;split at e1
 rotate_left
 ·cases e1
 rename_i ks ds hnode;cases e4:`sV with
 | none=>rw[e4] at e1;cases e1
 | some q =>
 rw[e4,`k] at e1;split at e1
 rotate_left
 ·cases e1
 rename_i hz;cases e1;obtain⟨a,as,sos,at'⟩:=`Rz;refine pd0 `Jk `aw1 (rc0 (set_dict hu)) ha `h s σ H v u Q I r ⟨dx,a,ns,as,sos,env,e2,at',λv1 H1 s1 r1=>⟨dk,`h_,e3,`sr⟩⟩;have M:=`j0;have J:=`zi M;obtain⟨c,so,rfl,f1,f2,f4⟩:=`aw2;obtain⟨xs,rfl,hl,rx⟩:=km0 f4;have:=v00 e4 r2;subst this;obtain⟨ys,hy,a0,Y,Z⟩:=`QI;refine⟨a,`cY,`oN,c,_,rfl,DPut.k (`zj) (by rw[`kg,← hl,`y0];exact hz.2),?_⟩;have O:`aw3:=ri0 hz.1 (`l7 M);have nk:`fN X.K H2 B as (`apZ) (.dK (`QC)):=by
  refine⟨ys,rfl,a0,?_⟩;unfold J9;cases hk:`kd with
  | true=>rw[`bx,Y hk];exact qm0 O rx
  | false=>rw[`hr,Z hk];exact `EA (`lY `Jj (`X O `J))
 rw[hy];obtain⟨U,q1,q2⟩:=`aw4;exact⟨a,U,q1,`aw5⟩
theorem fq0(ho:`v!)(h:PD X e gk)
  (ha:∀v,`aw0=(do
   let ov ← `MK
   let iv ← `D2
   `uu
   `uv
   `uw):=by intro _;rfl):PTG X `KR (rs0 i go gk):=.mk λH₀ B₀ d δ pins s σ H v u Q I r ⟨δ',en,e1,k⟩=>by
 unfold rs0 at e1;obtain⟨B,b1,b2,env,rv⟩:=`ba;cases e2:`oO with
 | none=>rw[e2] at e1;cases e1
 | some dx =>
 rw[e2,`k] at e1;cases e3:`oL with
 | none=>rw[e3] at e1;cases e1
 | some dk =>
 rw[e3,`k] at e1;cases e5:`ek with
 | none=>rw[e5] at e1;cases e1
 | some ns =>
 rw[e5,`k] at e1;cases e6:sj0 dx with
 | none=>rw[e6] at e1;cases e1
 | some kk =>
 rw[e6,`k] at e1;split at e1
 rotate_left
 ·cases e1
 rename_i es z hnode;cases e4:`aw_ with
 | none=>rw[e4] at e1;cases e1
 | some j =>
 rw[e4,`k] at e1;split at e1
 rotate_left
 ·cases e1
 rename_i hz;cases e1;obtain⟨a,as,sos,at'⟩:=`Rz;refine pd0 `Jk `aw1 (rc0 set_list) ha `h s σ H v u Q I r ⟨dx,a,ns,as,sos,env,e2,at',λv1 H1 s1 r1=>⟨`dM,`h_,e3,`sr⟩⟩;have M:=`j0;have J:=`zi M;obtain⟨c,so,rfl,f1,f2,f4⟩:=`aw2;obtain⟨xs,rfl,rx⟩:=`qv;rw[m8] at r2;subst r2;refine⟨a,`cY,`oN,c,xs,z,j,rfl,rfl,`zj,by rw[← `Rw];exact e4,?_⟩;have U:`aw3:=ri0 hz (`l7 M);have nk:`fN X.K H2 B as (`q (es.set j d)) `Wf:=⟨_,rfl,`EA (`m! U j `Jj)⟩;obtain⟨O,q1,q2⟩:=`aw4;exact⟨a,O,q1,`aw5⟩
universe DL
namespace L2
open Spec PyProof.Rows
theorem g90{t:TT}(h:`Mw):PT X e (fun σ H Q=>t σ H λk H'=>∃a sub,`Rn/\Q k `Ro):=λpins s σ H Q I q =>
 thn `Rm λk s' ⟨H',I',a,sub,c,z⟩=>⟨_,`Rp c,z⟩
universe L2
namespace DL
open Spec PyProof.Rows L2
noncomputable def inN(i:Nat)(ge go:GE):GE:=fun δ=>(ge δ).bind λx=>`v' λd=>`k! λns=>match `v9 with
 | `nl=>if `oI es=`b/\`Im then zd0 `n x (`s_) else `c
 | _=>`c
noncomputable def f40(i:Nat)(go:GE):GE:=fun δ=>`v' λd=>`k! λns=>match `v9 with
 | `nl=>if xv0 es=`b then `a (`OM) else `c
 | _=>`c
section
variable{p:Pos}{ge:GE}
theorem Us0{g:GE}{δ:Ds}{t:`M}(h:ob g δ=`a t):`al=`a (.bl t):=by
 unfold ob at h;cases e:`al with
 | none=>rw[e] at h;cases h
 | some d =>
  rw[e] at h;cases d<;>first|(cases h;rfl)|cases h
theorem Zm0(he:PD X e ge)(ho:`v!)(hm:`rC .In o=`n:=by first|exact o20 _|with_unfolding_all rfl):PTD X (`rD e [.In] [o] pos) (ob (inN i ge go)):=.mk λB δ =>
 (g90 (oo0 mg0 (he B δ) `RA hm)).imp fun σ H Q ⟨r,en,h,k⟩=>by
  have h:=Us0 h;unfold inN at h;cases e0:ge δ with
  | none=>rw[e0] at h;cases h
  | some x =>
  rw[e0,`k] at h;cases e1:`oO with
  | none=>rw[e1] at h;cases h
  | some d =>
  rw[e1,`k] at h;cases e3:`ek with
  | none=>rw[e3] at h;cases h
  | some ns =>
  rw[e3,`k] at h;split at h
  rotate_left
  ·cases h
  rename_i ls hn;split at h
  rotate_left
  ·cases h
  rename_i hfl;refine⟨x,en,e0,λv0 H0 s0 r0=>?_⟩;have M:=`ed s0;obtain⟨a,as,sos,at'⟩:=M.atN e3;refine⟨d,a,ns,as,sos,M,e1,at',`EG⟩;have J:=`qu;obtain⟨k',c,so,rfl,f1,f2,f3,f4⟩:=`Rv;obtain⟨xs,rfl,rx⟩:=`qv;refine⟨a,`cY,`oN,?_⟩;refine sk0 `n (`kj H1 `ec) (`Q9) v0 (`Bh) x (`q ls) (.bl r) _ (`aw6) (ou0 hfl.2 r0) ?_ h `aoW
  ·rw[Y7]
   exact⟨c,xs,rfl,`m ⟨`GK,`X?⟩,v30 hfl.1 (td0 (ps0 hfl.1) rx)⟩
  ·obtain⟨c1,c2⟩:=J.w.backS s3
   rw[Z8] at r3;exact⟨r,r3,a,`cY,c1,k _ ((s0.trans s1).trans c2)⟩
theorem Zs0(hm:`iP)(hv:`lo=`aw7)(ho:`v!)(hg:`cE:=by rfl)(hn:`gu := by decide)(hdb:`aY:=by decide)
  (he:`dn [o] `A=(`n,`lx)::`hU:=by rfl) (hpl:`i3:=by rfl):PD X (`bC `Hb [o] [] pos) (f40 i go):=.mk λB δ =>
 (xb0 (um0 S9 hg hm hv (G8 `RA yo0 he) hn hdb he hpl)).imp fun σ H Q ⟨r,en,h,k⟩=>by
  unfold f40 at h;cases e1:`oO with
  | none=>rw[e1] at h;cases h
  | some d =>
  rw[e1,`k] at h;cases e3:`ek with
  | none=>rw[e3] at h;cases h
  | some ns =>
  rw[e3,`k] at h;split at h
  rotate_left
  ·cases h
  rename_i ls hn;split at h
  rotate_left
  ·cases h
  rename_i hfl;cases h;obtain⟨a,as,sos,at'⟩:=en.atN e3;refine⟨d,a,ns,as,sos,en,e1,at',`EG⟩;have J:=`qu;obtain⟨k',c,so,rfl,f1,f2,f3,f4⟩:=`Rv;obtain⟨xs,rfl,rx⟩:=`qv;refine⟨a,`cY,`oN,c,xs,rfl,`m ⟨`EF,`aw8⟩⟩;obtain⟨c1,c2⟩:=J.w.backS (Y8 (o:=`c') hl);refine⟨a,`cY,c1,k _ _ (`hS c2) ?_⟩;have M:l∉as:=λz=>by
   obtain⟨q,hq,e⟩:=h7.mp z;have U:q<`sl:=by rw[← J.w.len];exact hq
   have:=`X! (k:=q) (c:=l) (so:=sos[q]) (by rw[`gM hq,e]) (C3 U);rw[hl] at this;cases `C
  have hl1:H1 l=`c:=by rw[t30 M] at hl;exact hl
  have O:l≠a:=λz=>M (z▸J.w.in0)
  rw[W0];refine⟨l,xs,rfl,⟨λz=>`C? l z hl1,?_⟩,(td0 hfl rx).same c2⟩;unfold closed;rw[`ad O,yi0 M,n6]
universe zz
abbrev GQ':=Ds->`au (`O (D×`cL))
noncomputable def c60:GQ':=`Or
noncomputable def qc0(gk gv:GE)(gP:GQ'):GQ':=fun δ=>`ni λk=>`Rx λv=>`RE λps=>(k,`cb)::ps
noncomputable def rq0(gk:GE)(gP:GQ'):GQ':=fun δ=>`ni λk=>`RE λps=>(k,`c)::ps
inductive RQ (K:`y) (H:Hp) (B:BS):`qP->`K->`aB->Prop
 | nil:RQ K H B [] [] []
 | dat {d:D} {q:`qP} {v:V} {vs:`K} {ls:`aB}:`bN->`qQ->RQ K H B (`TX) (`vM) ls
 | new {l:`e} {q:`qP} {vs:`K} {ls:`aB}:`aw9->`qQ->RQ K H B (`FZ) (`jS::vs) (l::ls)
theorem RQ.mono(l:`m7)(h:`qQ):RQ K H B' q vs ls:=by
 induction h with
 | nil=>exact `J
 | dat r _ ih=>exact .dat (`OF) ih
 | new e _ ih=>exact .new e ih
theorem RQ.at(h:`qQ):∀l∈ls,`aw9:=by
 induction h with
 | nil=>intro l hl;cases hl
 | dat _ _ ih=>exact ih
 | new e _ ih =>
  intro l hl;rcases `be hl with rfl|hl
  ·exact e
  ·exact ih l hl
noncomputable def dsQ:Nat->`qP->`f
 | _,[]=>[]
 | n,`TX=>d::dsQ n q
 | n,`FZ=>tq0 n::dsQ `fa q
noncomputable def nrQ:`qP->`M
 | []=>`b
 | `TX=>nrf d&&nrQ q
 | `FZ=>nrQ q
noncomputable def noQ:`qP->Nat
 | []=>0
 | `a _::q=>noQ q
 | `FZ=>noQ q+1
theorem RQ.no(h:`qQ):noQ q=`TY:=by
 induction h with
 | nil=>rfl
 | dat _ _ ih=>exact ih
 | new _ _ ih=>show noQ _+1=_;rw[ih];rfl
theorem RQ.rpns(h:`qQ)(g:`c6)(as:`aB):∀pre:`aB,as=pre++ls->nrQ q=`b->`eY K H' B' as (`aw') vs:=by
 induction h with
 | nil=>intro pre _ _;show `eY K H' B' as [] [];rw[y50]
 | @dat d q v vs ls r _ ih =>
  intro pre e n;unfold nrQ at n;rw[`a?] at n;show `eY K H' B' as (d::`aw') _;rw[zx0];exact⟨_,_,rfl,ri0 n.1 (`j5),ih pre e n.2⟩
 | @new l q vs ls r _ ih =>
  intro pre e n;show `eY K H' B' as (tq0 `AO::dsQ (`AO+1) q) _;rw[zx0];refine⟨_,_,rfl,?_,?_⟩
  ·unfold tq0
   rw[ww0];refine `m ⟨_,l,pt0 _,?_,rfl⟩;rw[e,`n8 `a_,`Ri];rfl
  ·have:=ih (pre++[l]) (by rw[e,`aN];rfl) n
   rw[`W] at this;exact `C
structure PDQ(X:Cx)(pos:Pos)(keys:`ud)(vals:`a6)(gP:GQ'):Prop where
 mk::go:∀δ,∃trs,`aqL/\∀B σ H Q,(∃ps,`yA/\`aqM/\∀vs H' ls,`aD->(∀l∈ls,`xE)->ls.Nodup->Rps X.K H' B (`e7) (`RF)->RQ X.K H' (λa=>B a∨a∈ls) `qx `Jp ls->`BF)->`PN
section
variable{vals:`a6}{gv:GE}{gP:GQ'}
theorem Z40:PDQ X pos [] [] c60:=.mk fun δ=>⟨[],hf0,λB σ H Q ⟨ps,en,e,k⟩=>by
 cases e;exact k [] H [] `b9 (λl z=>nomatch z) `J (`RG) `J⟩
theorem jh0(hk:`RH)(hv:`aqN)(hr:`aw!):PDQ X pos `RI `aqP (qc0 gk gv gP):=.mk fun δ=>by
 obtain⟨trs,h1,h2⟩:=`RJ;refine`aqQ;unfold qc0 at e;cases e1:`oL with
 | none=>rw[e1] at e;cases e
 | some a =>
 rw[e1,`k] at e;cases e2:gv δ with
 | none=>rw[e2] at e;cases e
 | some b =>
 rw[e2,`k] at e;cases e3:`kk with
 | none=>rw[e3] at e;cases e
 | some qs =>
 rw[e3] at e;cases e;refine⟨B,a,en,e1,λv1 H1 s1 r1=>⟨B,b,`ee,e2,λv2 H2 s2 r2=>h2 B _ _ _ ⟨qs,`aqR,e3,λvs H3 ls s3 fr nd rk rq=>k _ H3 ls `Eg (λl hl=>`am7 (fr l hl)) nd ?_ ?_⟩⟩⟩
 ·rw[`L,`L,o9]
  exact⟨v1,_,rfl,`RK,rk⟩
 ·rw[`L,`L]
  exact .dat (r2.mono λc o n z=>⟨λq=>q.elim n (λq=>by rw[fr c q] at z;exact nomatch z),s3 _ _ z⟩) rq
theorem hh0(hk:`RH)(hr:`aw!):PDQ X pos `RI (.List [] lpos::`gQ) (rq0 gk gP):=.mk fun δ=>by
 obtain⟨trs,h1,h2⟩:=`RJ;refine⟨_,p10 (tk:=`Yb) `Yc (ji0 yo0) h1,`Yd⟩;unfold rq0 at e;cases e1:`oL with
 | none=>rw[e1] at e;cases e
 | some a =>
 rw[e1,`k] at e;cases e3:`kk with
 | none=>rw[e3] at e;cases e
 | some qs =>
 rw[e3] at e;cases e;refine⟨B,a,en,e1,λv1 H1 s1 r1=>⟨by show 0<=`P;exact `db,`aw8⟩⟩;have s2:`cU H1 (upd H1 l `dQ):=Y8 hl;have O:=`ee;refine h2 (λa=>B a∨a=l) _ _ _ ⟨qs,O.freshS hl s2 (.of n6 `C5 λ_ z=>nomatch z),e3,λvs H3 ls s3 fr nd rk rq=>?_⟩;have J:∀c∈ls,c≠l:=λc hc z=>by
  have:=fr c hc;rw[z,n6] at this;cases `C
 have M:∀c∈ls,H1 c=`c:=λc hc=>by
  have:=fr c hc
  rwa [m9 (J c hc)] at this
 refine k _ H3 (l::ls) `Eg (`E') (E2.mpr ⟨λz=>J l z rfl,nd⟩) ?_ ?_
 ·rcases `be hc with rfl|hc
  ·exact `h0 hl
  ·exact `h0 (M c hc)
 ·rw[`L,`L,o9]
  exact⟨v1,_,rfl,`RK,rk.mono (`eX `yx)⟩
 ·rw[`L,`L]
  refine .new (s3 _ _ n6) (rq.mono λc z=>?_);rcases z with z|z
  ·exact `m (`fR)
  ·rcases `be z with z|z
   ·exact `m (`p_)
   ·exact `p_
universe zz
noncomputable def gq0(i:Nat)(gP:GQ'):GS:=fun δ=>`aqS λps=>`aqT λks=>if (`aqU)/\nrQ `qx=`b then `a (.nx (`a1 i (.ow (`B (`zp::`bv `sk (dsQ 1 `qx)::`fQ (noQ `qx) `dQ))))) else `c
theorem ko0:∀n:Nat,`a4 (`fN K H B as) `aw? `aw?
 | 0=>`J
 | n+1=>`X ⟨[],rfl,by rw[y50]⟩ (ko0 n)
section
variable{dpos:Pos}{vals:`a6}{gP:GQ'}
theorem cf0(i:Nat)(nd:`fk)(h:PDQ X dpos `fS `gQ gP)(hi:`u2:=by rfl)(hy:`m3:=by first|exact `b8|exact `gJ)
  (hall:`PQ:=by rfl) (hl:`yO=vals.length:=by rfl) (h0:`PR:=by exact λz=>nomatch z) (h15:`PS:=by decide)
  (hsw:`rG `axa `HD `rH `A=`rI:=by rfl)
  (hf:`m4:=by first|exact `b4|exact `bA|assumption) :
  PSD X (`nZ [`oj] `axa pos) (gq0 i gP):=.mk λH₀ B₀ δ pins s σ H De I ⟨r,en,e1,kk⟩=>by
 unfold gq0 at e1;obtain⟨B,b1,b2,env⟩:=`ba;cases e2:`kk with
 | none=>rw[e2] at e1;cases e1
 | some ps =>
 rw[e2,`k] at e1;cases e3:`Jq with
 | none=>rw[e3] at e1;cases e1
 | some ks =>
 rw[e3,`k] at e1;split at e1
 rotate_left
 ·cases e1
 rename_i hnd;cases e1;obtain⟨trs,h1,h2⟩:=h.go δ;refine Vi0 nd hi hy (xb0 (ib0 h1 hall hl h0 h15)) hsw hf `h s σ H De I λp hp=>h2 `hT _ _ _ ⟨ps,env.fresh hp,e2,λvs H' ls s' fr a9 rk rq=>`aqV⟩
 ·exact qw0 `axb
 ·rw[`kg]
  have:=hnd.1.2;omega
 have a0:`aqW:=by
  have:=B8 `ia `axb
  simpa using this.symm
 have hm:`aqX:=by
  rw[sp0 _ [] (by
   rw[`dB];have:`aqY:=By0 `i;rw[`C];exact hnd.1.1)]
  rfl
 rw[hm];obtain⟨xs,b0⟩:∃xs,xs=`aqZ:=`ag;rw[← b0] at a0 rq ⊢;have a5:p∉ls:=λz=>by
  have:=fr p z;rw[n6] at this;cases `C
 have O:∀l∈ls,l≠p:=λl z q=>by rw[q] at z;exact a5 z
 have a3:(`kH).Nodup:=E2.mpr ⟨a5,a9⟩;have a1:∀l∈ls,`xE:=λl z=>by
  have:=fr l z
  rwa [m9 (O l z)] at this
 obtain⟨Hl,U⟩:∃Hl,Hl=upd H' p (`ot):=`ag;obtain⟨sos,J⟩:∃sos:`p',sos=`ot::`fQ `TY `dQ:=`ag;have M:(`kH).length=`sl:=by rw[J,`aH,`aH,`B8]
 have ins:`OL:=λk C dx fs e=>by
  rw[J] at e;cases k with
  | zero=>rfl
  | succ k =>
   rw[`v4,`kX] at e;split at e<;>cases e
 have a8:∀(k:Nat) c so,(`kH)[k]?=`c!->`k'->Hl c=`Es:=λk c so f1 f2=>by
  rw[J] at f2;cases k with
  | zero=>cases f1;cases f2;rw[U,n6];rfl
  | succ k =>
   rw[`v4] at f1;rw[`v4,`kX] at f2;split at f2
   ·cases f2
    have hc:=D4 f1;rw[U,m9 (O c hc)];exact rq.at c hc
   ·cases f2
 have cl:`ki Hl p `TZ:=qf0 rfl a3 M a8 ins;rw[← U];refine⟨p,_,cl,kk _ _ ?_⟩;obtain⟨Hc,Z⟩:∃Hc,Hc=`h5 Hl p `TZ:=`ag;have a4:Hc p=`a (`ov `TZ):=by rw[Z];unfold closed;rw[`bx]
 have a6:∀l∈ls,Hc l=`a (`gr p):=λl hl=>by
  obtain⟨so,q⟩:=vi0 M (A5 p hl) a3;rw[Z];unfold closed;rw[`ad (O l hl),q]
 have Y:∀b,`T_->`sG:=λb z q=>z (by rw[q];exact A6)
 have a2:∀b,`T_->Hc b=`eK:=λb hb=>by
  rw[Z];unfold closed;rw[`ad `T0,yi0 hb,U,m9 `T0]
 have a7:∀b o,`Hw->`T_:=λb o z q=>by
  rcases `be q with q|q
  ·rw[q,hp] at z;cases z
  ·rw[a1 b q] at z;cases z
 have sm:`cU H Hc:=⟨λb o z=>by
  rw[a2 b `axc];exact s' b o (by rw[m9 (Y b `axc)];exact z),λb o ys z=>by
  by_cases hb:b∈`kH
  ·rcases `be hb with q|q
   ·rw[q,a4] at z;cases z
   ·rw[a6 b q] at z;cases z
  ·rw[a2 b hb] at z
   have:=s'.nf b o ys z
   rwa [m9 `T0] at this⟩
 rw[← Z];refine en.takeL b1 b2 env i hp sm (`l (`l ⟨_,_,rfl,`kH,sos,rfl,a3,a4,`f9,M,?_,ins⟩))
 ·rcases `be hb with q|q
  ·exact `g?
  ·exact `l ⟨λz=>`oD (λz=>`EJ _ z (a1 b q)) (O b q),a6 b q⟩
 ·have g:Gr H' Hc (λa=>(`W_)∨a∈ls) `hT:=λb o n z=>⟨λq=>n (`g?),by
   rw[a2 b (λq=>by
    rcases `be q with q|q
    ·exact n (`m (`pj))
    ·exact n (`pj))]
   exact z⟩
  rw[J];refine `X ⟨xs,rfl,a0,rq.rpns g (`kH) [p] rfl hnd.2⟩ ?_;rw[rq.no];exact ko0 `TY
universe zz
universe DL
namespace L2
open Spec PyProof.Rows
theorem sf0{M:`pK}{Γ:PySem.Ctx}{env:`Ia}{bs:`bY}{Q:Flow->`axd}{E:`E->`axd}:∀(as:`bY) (p:Pos) (s:`p),Sem.wp M Γ (execs as env) (λf p' s'=>match f with|`xV=>Sem.wp M Γ (execs bs env) Q E p' s'|f=>Q f p' s') E p s->Sem.wp M Γ (execs `T1 env) Q E p s
 | [],p,s,h=>by
  rw[execs_nil,Sem.wp_pure'] at h;exact h
 | `qs,p,s,h=>by
  rw[`fr,`axe,`axf];rw[`axe,`axf] at h;refine `axg M Γ _ (λf p' s' h'=>?_) `axh _ _ h;cases f with
  | next=>exact sf0 as p' s' h'
  | ret v=>exact h'
  | brk=>exact h'
  | cont=>exact h'
theorem t20{as bs:`bY}{t u:TS}(h1:PSs X as t)(h2:PSs X bs u):PSs X `T1 (Xt0 t u):=by
 intro pins s σ H D I h Γ p hΓ;refine sf0 as p s (`axg `ac Γ _ (λf p' s' q=>?_) `axh _ _ (h1 `h s σ H `MF I h Γ p hΓ));cases f with
 | next =>
  obtain⟨σ',H',I',q⟩:=q;exact h2 `h s' σ' H' D I' q Γ p' hΓ
 | ret v=>exact q
 | brk=>exact q
 | cont=>exact q
universe L2
namespace DL
open Spec PyProof.Rows L2
section
variable{as bs:`bY}{s1 s2 s3:`bp}{G1 G2:GS}
theorem qt0(h1:`cN X as G1)(h2:`axi):`cN X `T1 `aiD:=.mk λH₀ B₀ δ pins s σ H D I ⟨r,en,e,k⟩=>by
 unfold v6 at e;cases e1:`hM with
 | none=>rw[e1] at e;cases e
 | some r1 =>
  rw[e1] at e;cases r1 with
  | nx δ'=>exact t20 `ym `aiE `h s σ H D I `O2
  | rt d=>cases e;exact `F_
  | bk δ'=>cases e;exact `F_
  | ct δ'=>cases e;exact `F_
  | rf d=>cases e;exact `F_
noncomputable def fgt(js:`j)(δ:Ds):Ds:=js.foldl (fun δ j=>`F0) δ
theorem Pd.setU{F:α->`OP}(u:∀a,F a .un):∀{l:`a5} {m:`Oq},`jZ->∀j:Nat,`a4 F l (m.set j .un)
 | _,_,`J,_=>`J
 | _,_,`kN,0=>`X (u _) t
 | _,_,`X h t,j+1=>`X h (Pd.setU u t j)
theorem Env.fgt1{σ:St}{δ:Ds}(e:`a9)(j:Nat):Env K H B σ (`F0):=by
 refine⟨Pd.setU (λ_=>`sE) `fP j,`gO,λi k a ds es h1 h2 q1 q2=>?_⟩;have g:∀{i:Nat} {d:D},(`F0)[i]?=`hX->`Ix:=λh=>by
  rcases `de h with⟨_,z,_⟩|⟨_,z⟩
  ·cases z
  ·exact z
 exact `hR i k a ds es (g h1) (g h2) q1 q2
theorem EnvS.fgt1{σ:St}{δ:Ds}(e:`b')(j:Nat):`cf K `T `S H σ (`F0):=by
 obtain⟨B,b1,b2,env⟩:=e.ex;refine⟨e.same,⟨B,b1,b2,env.fgt1 j⟩,`H6,e.b0⟩;rcases `fu with⟨_,z,_⟩|⟨_,z⟩
 ·cases z
 ·exact e.fr i ds a z h2
theorem EnvS.fgt{σ:St}:∀(js:`j) {δ:Ds},`b'->`cf K `T `S H σ `axj
 | [],_,e=>e
 | j::js,_,e=>EnvS.fgt js (e.fgt1 j)
noncomputable def p00(js:`j):GS:=fun δ=>`a (.nx `axj)
theorem kw0(js:`j):`cN X [] `F1:=.mk λH₀ B₀ δ pins s σ H D I ⟨r,en,e,k⟩=>by
 cases e;exact og0 `h s σ H D I (k σ H (en.fgt js))
theorem bk0(js:`j)(h:`axk):`cN X as (v6 `F1 G):=qt0 (as:=[]) (kw0 js) h
theorem ex0(js:`j)(h:`axk):`cN X as (v6 G `F1):=by
 have:=qt0 h (kw0 (X:=X) js)
 rwa [`bc] at this
theorem dh0{st:`bY}(i:Nat)(h:`aix):`cN X st (li0 i G):=.mk λH₀ B₀ δ pins s σ H De I ⟨r',en,hq,k⟩=>by
 unfold li0 at hq;split at hq
 ·rename_i l hi
  split at hq
  ·rename_i hc
   obtain⟨hf,a1⟩:=hc;cases e1:G `v0 with
   | none=>rw[e1] at hq;cases hq
   | some r =>
    rw[e1] at hq;simp only[`k] at hq;obtain⟨B,b1,b2,env⟩:=`ba;obtain⟨a,hs,a9,xs,ha,a8⟩:=`i5;have Y:=`j3 i _ a hi hs;have a3:∀b,`sw->`KS:=λb z=>⟨λq=>`ef b z (by rw[q];exact Y),`m (b1 b z)⟩
    have a0:∀b,(`KS)->NB (H b):=λb z=>by
     exact z.2.elim (`EJ b) isLs.nb
    have M:∀(j:Nat) (d:D),`v0[j]?≠`hX:=λj d z=>by
     rcases `de z with⟨_,e,_⟩|⟨ne,e⟩
     ·cases e
     ·have:=ta0 a1 `KT e;cases `C
    have a4:Env X.K H `T2 σ `v0:=by
     refine⟨?_,a0,λj k b ds es h1 _ _ _=>`I h1 (M j ds)⟩;have h0:`a4 (λ(o':`cr) (sl:Sl)=>(p20 sl=`b/\SlR X.K H B o' sl)∨sl=`Eo) σ δ:=`l3 (λj o sl q1 q2 q=>by
      by_cases ne:j=i
      ·subst ne;rw[hi] at q2;cases q2;exact `bA
      ·exact `m ⟨ta0 a1 ne q2,q⟩) env.all
     have h1:=`sF (i:=i) (b:=`kG `sW) (F:=λ(o':`cr) (sl:Sl)=>SlR X.K H `T2 o' sl∨sl=`Eo) (`m ⟨_,rfl,by rw[Y7];exact⟨a,xs,rfl,`m ⟨λz=>z.1 rfl,`m ha⟩,v30 hf a8⟩⟩) hs (`hZ (λo sl q=>by
      rcases q with⟨q1,q2⟩|q
      ·left
       cases sl with
       | un=>trivial
       | sh d=>obtain⟨v,e,r⟩:=q2;exact⟨v,e,q10 (λb z=>z.2.imp id isLs.nt) _ _ q1 r⟩
       | ow d=>cases q1
       | ex c n=>cases q1
      ·exact `pj) h0)
     refine `axl;rcases q with q|q
     ·exact q
     ·subst q;exact `I q2 (M j _)
    refine h H `T2 `v0 `h s σ H De I ⟨r,⟨`sp H,⟨_,`Id,`yx,a4⟩,λj ds b q1 _=>`I q1 (M j ds),a0⟩,e1,?_⟩;cases r with
    | bk δ'=>cases hq
    | ct δ'=>cases hq
    | rf d=>cases hq
    | rt d=>cases hq;exact λv H' s' r=>k v H' `O3 (`b7 (`eX a3))
    | nx δ' =>
     unfold f00 at hq;dsimp only at hq;split at hq
     ·rename_i l' hi'
      split at hq
      ·rename_i hc'
       obtain⟨a6,O⟩:=hc';cases hq;intro σ' H' J;obtain⟨B1,c1,c2,U⟩:=J.ex;obtain⟨o,Z,v,rfl,rv⟩:=`ox U.all hi';rw[Y7] at rv;obtain⟨p,ys,rfl,sq,rr⟩:=rv;have nb:=sq.at.1;obtain⟨a5,a7⟩:=isLs.new `F2 sq λz=>`p_
       have a2:`Dc:=by
        by_cases z:p=a
        ·rw[z];exact Y
        ·exact `Xn (a7.resolve_right `axm)
       have hp:H' p=`x_:=by
        by_cases z:p=a
        ·rcases sq.at.2 with q|⟨o,q⟩
         ·exact q
         ·have:=`F2 _ _ ha;rw[← z,q] at this;cases `C
        ·exact a5.resolve_right `axm
       have ow:∀(j:Nat) (d:D),(δ'.set i (.ow `T3))[j]?=`hX->j=i:=λj d z=>by
        rcases `de z with⟨e,_,_⟩|⟨ne,e⟩
        ·exact e.symm
        ·have:=`axn;cases `C
       refine k σ' H' ⟨`H2 `F2,⟨`axo,λb z=>`fR,λb z=>z.imp id λq=>by rw[q];exact a2,?_,`sD,λj k b ds es h1 h2 _ _=>(ow j ds h1).trans (ow k es h2).symm⟩,λj ds b q1 q2=>?_,`ef⟩
       ·have h0:`a4 (λ(o':`cr) (sl:Sl)=>SlR X.K H' (`axo) o' sl∨sl=.sh `T3) σ' δ':=`l3 (λj o sl q1 q2 q=>by
         by_cases ne:j=i
         ·subst ne;rw[hi'] at q2;cases q2;exact `bA
         ·left
          have ok:=ta0 O ne q2;cases sl with
          | un=>trivial
          | sh d =>
           obtain⟨v,e,r⟩:=q;refine⟨v,e,q10 (`sD) _ _ ok r⟩;rcases z with z|rfl
           ·exact `m (c1 b (a3 b z))
           ·exact `l λys z=>by rw[hp] at z;cases z
          | ow d=>cases ok
          | ex c n=>cases ok) U.all
        have h1:=`sF (i:=i) (b:=Sl.ow `T3) (`m ⟨p,rfl,`bA,ys,hp,v30 a6 rr⟩) Z h0;refine `axl;rcases q with q|q
        ·exact q
        ·subst q
         rcases `de q2 with⟨_,e,_⟩|⟨ne,e⟩
         ·cases e
         ·have:=`axn;unfold p20 tree at this;cases `C
       ·rcases z with z|rfl
        ·exact((`ef b z).same `ed).same `F2
        ·exact .of hp `OG λ_=>λz=>nomatch z
       ·have:=ow j ds q1
        subst this;rw[Z] at q2;cases q2;exact a2
      ·cases hq
     ·cases hq
  ·cases hq
 ·cases hq
theorem gt0{s4:`bp}(i:Nat)(js:`j)(h:`cN X `axp G1)(hr:`axi):`cN X (s1::s2::s3::s4::bs) (v6 (li0 i (v6 G1 `F1)) G2):=qt0 (as:=`axp) (dh0 i (ex0 js h)) hr
theorem qk0{P:`ak}{w:`R}{k:Nat}{ps:`g}:`ah P w K mg `r CX0 k fa fd ps (spB K j `T4) :=
 ⟨λvs H Q E ⟨_,_,_,_,_,_,_,_,_,_,_,_,_,h,_⟩=>`axq,λA outer s H J us vs Q E _ _ _ _ ⟨_,_,_,_,_,_,_,_,_,_,_,_,_,h,_⟩=>`axq⟩
universe zz
universe DL
namespace DL
open Spec PyProof.Rows L2
noncomputable def nn0(gt:GTX)(Ga Gb:GS):GS:=fun δ=>`se λr=>if r.1=`b then Ga r.2 else Gb r.2
noncomputable def p40(gx:GX)(gb:GE)(f:`aZ):GX:=fun δ=>`Do λr=>(gb r.2).bind λy=>(f r.1 y).map `aqI
section
variable{a:`G}{rest:`a6}{as bs:`bY}{gt:GTX}{ga gb:GX}{g:GE}{Ga Gb:GS}
theorem ay0(hc:PTX X c gt)(ha:`aiI)(hb:`aiJ):PSD X `O5 (nn0 gt Ga Gb):=.mk λH₀ B₀ δ pins s σ H D I ⟨r,en,e1,k⟩=>by
 unfold nn0 at e1;cases e2:`dt with
 | none=>rw[e2] at e1;cases e1
 | some q =>
  rw[e2,`k] at e1;refine gy0 (hc.go `T `S δ) (ha.go `T `S q.2) `aq6 `h s σ H D I `aq7;cases hq:q.1 with
  | true=>rw[hq,`bx] at e1;exact`RL
  | false=>rw[hq,`pT] at e1;exact`RL
theorem b70{op:`f'}{rr:R2}{f:`aZ}(ho:OpR X (`cK op) rr)(hf:Op2 X.K rr f)(ha:PX X a gx)(hb:PD X b g)(hm:`kR:=by first|exact o20 _|with_unfolding_all rfl):PTX X `mT (pw0 (p40 gx g f)):=.mk λH₀ B₀ δ pins s σ H Q I ⟨r,en,e1,k⟩=>by
 unfold pw0 p40 at e1;cases e2:`eg with
 | none=>rw[e2] at e1;cases e1
 | some q =>
 rw[e2,`k] at e1;cases e3:g q.2 with
 | none=>rw[e3] at e1;cases e1
 | some y =>
 rw[e3,`k] at e1;cases e4:f q.1 y with
 | none=>rw[e4] at e1;cases e1
 | some d =>
 rw[e4,`gc,`k] at e1;split at e1
 rotate_left
 ·cases e1
 rename_i t hd;have hd:d=.bl t:=hd;subst hd;cases e1;refine oo0 ho `Et (λpins s σ H Q I (h:∃B,Env X.K H B σ q.2/\∀v H',`aD->Rp X.K H' B y v->`lu)=>?_) hm `h s σ H Q I ⟨q,en,e2,`aqJ⟩
 ·obtain⟨B,env,kk⟩:=h
  exact `oQ B q.2 `h s σ H Q I ⟨y,env,e3,kk⟩
 ·obtain⟨B,c1,c2,env,rv⟩:=`k8
  refine⟨B,env,λu H2 s2 ru=>?_⟩;refine hf H2 B v u q.1 y _ _ (`j2 s2).bad (`l7 s2) ru e4 λw H3 s3 J=>?_
  rw[Z8] at J;exact⟨t,J,k H3 (ev.s.grow (`s0 s3))⟩
universe zz
universe DL
namespace Nk
open DL W Rk
open Bt (N8 U6 yv0 K1 xi0 W6 y80 N5 yj0 U3 xj0 G6 yc0 S8 wg0 M5)
section
noncomputable def s20:GSB:=(t8 (j4 (j7 `mj `ch))
 (t8 (j4 (j7 `df (gc (`oe))))
 (t8 (zq0 (ob (o2 `tS (oA (z7 `T5 v5) W8) ltD))
 (t8 (j4 (j7 `c0 (o2 `T5 `tS ixD)))
 (t8 (j4 (V7 (j5 (o2 `tS `aS m7)) `F3))
 (t8 (ifB `axr
 (t8 `i9
 `v)
 `v)
 (t8 `axs
 (t8 `axt
 (t8 (ifB `axu
 (t8 (Y6 (j5 `V))
 `v)
 `v)
 `v)))))) 100000)
 (t8 `i9
 `v))))
noncomputable def l30:`g:=`axv
noncomputable def J2:`az:=mkB 1 l30 0 s20
noncomputable def rf0:GSB:=(t8 `arG
 (t8 (j4 `arp)
 (t8 (j4 (w40 (z40 (y00 `T5 (`fV `tS) (`fV `axw))) `f_
 (v6 (w40 (qo0 `aj) `c1
 (v6 (ifD `axx
 (v6 `axy
 v9)
 v9)
 v9))
 v9)))
 (t8 (j4 (V7 (j5 `axw) `F3))
 (t8 (ifB (ob `axz)
 (t8 `i9
 `v)
 `v)
 (t8 (Y6 (j5 `bI))
 `v))))))
noncomputable def jb0:`g:=`axA
noncomputable def z60:`az:=mkB 2 jb0 0 rf0
noncomputable def ub0:GSB:=(t8 `axB
 (t8 (ifB (zj0 `T6 (G3 `axC (ob (o2 `pn `axD geD))))
 (t8 `i9
 `v)
 `v)
 (t8 (ifB `axC
 (t8 (Y6 (j5 (plN (s70 0 `AP (o2 (o2 `axD `aS R0) `pn R0)))))
 `v)
 `v)
 (t8 (j4 (V7 (Y4 0 (z7 `pn v5) z60) `df))
 (t8 (ifB (zj0 (ob (o2 `aj `fY v70)) (zj0 (ob `axE) (zj0 (ob (inN 0 `aj `AP)) (zj0 (ob `axF) (ob `axG)))))
 (t8 `i9
 `v)
 `v)
 (t8 (j4 (d7 (tu0 0 `AP `aj)))
 (t8 (Y6 (j5 `aj))
 `v)))))))
noncomputable def qp0:`g:=`axH
noncomputable def V9:`az:=mkB 1 qp0 0 ub0
noncomputable def W5(xy0:`az):GSB:=(t8 `axB
 (t8 (ifB (zj0 `T6 `axI)
 (t8 `nv
 `v)
 `v)
 (t8 (ifB `T7
 (t8 `i9
 `v)
 `v)
 (t8 `axJ
 (t8 (ifB `axK
 (t8 `axL
 `v)
 `v)
 (t8 (ifB `tT
 (t8 `axM
 `v)
 `v)
 (t8 (j4 (j7 `c0 (va0 0 (`F4))))
 (t8 (ifB `axN
 (t8 `nv
 `v)
 `v)
 (t8 (ifB `AQ
 (t8 `axO
 `v)
 `v)
 (t8 (j4 (d7 (tu0 0 (`F4) `fY)))
 (t8 (j4 (V7 (Y4 0 `axP xy0) (rs0 0 (`F4) `bI)))
 (t8 `axQ
 `v))))))))))))
noncomputable def U8:`g:=`axR
noncomputable def J5(R6:`az):GSB:=(t8 (ifB `T7
 (t8 (Y6 (p30 `zA (Y4 0 `e9 z60)))
 `v)
 `v)
 (t8 (j4 (j7 `c0 (gc (`s "a"))))
 (t8 (j4 (ifD (ob (o2 `V `h8 eqD))
 (v6 (V7 `_U `c0)
 v9)
 v9))
 (t8 (j4 (Q9 4 `mn))
 (t8 (gj0 `JB `c1
 (t8 `axS
 (t8 (j4 (ifD `AS
 (v6 `axT
 v9)
 v9))
 (t8 (ifB `axU
 (t8 `nv
 `v)
 `v)
 (t8 (j4 (V7 (Y4 0 v5 R6) (gN 7)))
 (t8 (ifB `axV
 (t8 `nv
 `v)
 `v)
 (t8 `axW
 `v)))))))
 (t8 (ifB `T8
 (t8 `T9
 `v)
 `v)
 (t8 (ifB `T'
 (t8 `T!
 `v)
 `v)
 (t8 `T?
 `v))))))))
noncomputable def y60:`g:=`LB
noncomputable def mR2:Nat->(`az)×(`az)
 | 0=>(`T4,`T4)
 | k+1=>(mkB 1 U8 0 (W5 (mR2 k).2),mkB 3 y60 0 (J5 (mR2 k).1))
noncomputable def R6:`az:=(mR2 124).1
noncomputable def xy0:`az:=(mR2 124).2
noncomputable def aa0:GS:=(v6 (j7 `mj `axX)
 (v6 (Q9 2 `Ua)
 (v6 (ifD (zj0 (yy0 `axY) (ob (o2 `V `axX xh0)))
 (v6 `nw
 v9)
 v9)
 (v6 (p00 [0])
 (v6 (li0 2 (v6 (v6 (w40 (z40 `aj) `c0
 (v6 (ifD `axZ
 (v6 `nw
 v9)
 v9)
 v9))
 (v6 `ax_
 (v6 (nn0 `ax0
 (v6 `nw
 v9)
 v9)
 (v6 (ifD `ax1
 (v6 `nw
 v9)
 v9)
 v9)))) (p00 [4])))
 (v6 (Q9 5 (up0 `JL))
 (v6 (d7 (K5 2 `ch))
 (v6 (V5 (pb0 (o2 `Ua `fW u10)))
 v9))))))))
noncomputable def Tb0:`g:=`ax2
noncomputable def q80:`N:=mkF 1 Tb0 aa0
universe zz
universe Nk
namespace Nk
open DL W Rk Rm
open Bt (R5 o6 Z2 j9 yf0 zn0 V1 W7 Z9 X8 P0)
open Bw (bs hi its)
noncomputable def bk(S:`u)(i:Nat)(P:`f)(T:`g):D:=`B [`zp,`bv (`m `Ub) [`F5,`o!,tq0 1,tq0 2],`q P,`ax3]
noncomputable def lb(p:`e)(S:`u)(i:Nat)(P:`f)(T:`g):Sl:=.ow (j8 p `mH)
noncomputable def aG:GE:=`_C
noncomputable def sG:GE:=`_F
section
variable{p:`e}{S:`u}{P:`f}{T:`g}{r:Ds}
theorem lc0:aG `cR=`awy:=rfl
theorem iw0:sG `cR=`a (`F5):=rfl
theorem ev0(n:Nat):putN 0 `pk `dO (`ku) `cR=`a (lb p S n P T::r):=rfl
theorem byte_at{b:Int}(h:`ax4):o2 sG aG ixD `cR=`a (`iv):=by
 rw[p6 iw0 lc0];have hi:i<`er:=`am6;show atI (`Uc) `eU=_;rw[`Tt];simp[`cm,h]
theorem Zg0:V7 `ax5 `F3 `cR=`a (.nx (lb p S `bE P T::r)):=by
 refine P0 (W7 (d:=`d (`eU+1)) ?_) (ev0 `bE);rw[`ax6];rfl
theorem b80:oA `ax7 W8 `cR=`a (`d `ax8):=by
 rw[b7 (ds:=[`F5]) (by rw[`am iw0 rfl])];show `a (`bl ((`Uc).length:Int))=_;rw[`U]
universe zz
noncomputable def DT:GB:=(ob (o2 aG (oA `ax7 W8) ltD))
noncomputable def DB:GSB:=(t8 (j4 (j7 `c0 (o2 sG aG ixD)))
 (t8 (j4 (V7 `ax5 `F3))
 (t8 (ifB `axr
 (t8 `i9
 `v)
 `v)
 (t8 `axs
 (t8 `axt
 (t8 (ifB `axu
 (t8 (Y6 (j5 `V))
 `v)
 `v)
 `v))))))
noncomputable def ds(p:`e)(S:`u)(i:Nat)(P:`f)(T:`g)(n:Int)(f:`M)(s:Sl):Ds:=[`iu,.sh (`vd),.sh (.bl f),s]
theorem bz0{p:`e}{S:`u}{P:`f}{T:`g}{n:Int}{f:`M}{s:Sl}:DT `ax9=`a (`D (i<`er)):=by
 unfold DT ds;refine `jf;rw[p6 lc0 b80];show `a (`cC (`D (`eU<`ax8)))=_;congr 2;exact `F6
theorem bw0{p:`e}{S:`u}{P:`f}{T:`g}{n:Int}{f:`M}{s:Sl}{b:Int}(h:`ax4)(hb:0<=b)(hf:f=`b->b≠128) :
  DB `ax9=if b<128 then `a (.rt (`ax') (`F7)) else `a (.nx (`F7)):=by
 unfold DB;refine o6 (δ':=ds p S i P T n f `AU) (j9 (by unfold ds;rw[X7 (byte_at h)];rfl)) ?_;refine o6 (δ':=`Ud) (j9 Zg0) ?_;have c:G3 `_G `_H (`Ud)=`aJ:=by
  cases f with
  | false=>rfl
  | true =>
   show `a (`D (b=128))=_;rw[`bi (hf rfl)]
 refine o6 (δ':=`Ud) `ax! ?_;refine o6 (δ':=ds p S `bE P T n `n `AU) `g0 ?_;refine o6 (δ':=`F7) `qR ?_
 ·unfold ds
  rw[X7 (d:=`ax') ((p6 (x:=`d (n*128)) (y:=`d (b%128)) (`Sv (Bt.vr0 n 128 `t)) (`qS rfl rfl `t)).trans rfl)];rfl
 ·have c:ob `_J (`F7)=`a (`D (b<128)):=rfl
  by_cases q:b<128
  ·rw[`H q]
   refine Z2 ?_;rw[yf0 (by rw[c,`bm q])];exact `AY
  ·rw[`ad q]
   exact o6 (by rw[zn0 (by rw[c,`bi q])];rfl) rfl
theorem ir0{S b r:`a5}{x:α}(h:`cS=x::r):S[i]?=`cn/\`tV `bE=r:=by
 have h1:(`cS)[0]?=`cn:=by rw[h];rfl
 rw[List.getElem?_drop] at h1;refine⟨`lj,?_⟩;have:`tV `bE=(`cS).drop 1:=by rw[`ax?]
 rw[`C,h];rfl
theorem w50{S b r:`a5}(h:`cS=b++r):`tV `F8=r:=by
 rw[← `ax?,h,List.drop_left]
theorem dz0{gt:GB}{G:GSB}{δ:Ds}(h1:`TV)(h2:`Eu):`aya=`K0:=by
 show `ayb;rw[h1];dsimp only;rw[h2]
theorem V20{gt:GB}{G:GSB}{δ:Ds}{d:D}(h1:`TV)(h2:`h4=`we):`aya=`we:=by
 show `ayb;rw[h1];dsimp only;rw[h2]
theorem dr0(p:`e)(S:`u)(P:`f)(T:`g):∀(r i:Nat) (rest:`u) (s:Sl),`cS=hi r++`ax->∃s',∀f,zq0 DT DB (f+`S!) (ds p S i P T 0 `b s)=zq0 DT DB f (ds p S (i+`S!) P T `mw (`D (r=0)) s'):=by
 intro r
 induction r using Nat.strongRecOn with
 | _ r ih =>
  intro i rest s h
  by_cases z:r=0
  ·subst z
   exact⟨s,λf=>by rw[Bw.gz0];rfl⟩
  ·rw[`Ue,`aN] at h
   obtain⟨s1,h1⟩:=ih `ic `i i _ s h;have h2:=w50 h;rw[`fr,`dB] at h2;obtain⟨e1,e2⟩:=`ayc;refine⟨.sh (`d `ib),λf=>?_⟩;rw[`Ue,`W,`dw,show f+(`Uf+1)=(f+1)+`Uf by omega,h1 (f+1)];have J:i+`Uf<`er:=`Oj;have hd:=bw0 (p:=p) (P:=P) (T:=T) (n:=`Fk) (f:=`D (`z4=0)) (s:=s1) e1 `i (λq=>by have:=M1 q;omega);rw[`Fj] at hd;rw[dz0 `ayd hd];have e3:`Fk*128+`ib%128=`mw:=`F
   rw[e3,`bi z,`F9]
theorem s90{S:`u}{P:`f}{T:`g}(h:`cS=bs n++`ax)(hn:`qE):J2 `mH []=`a (`ku,bk S (i+`Kb) P T):=by
 refine `F'
 unfold bs at h;rw[`aN] at h;obtain⟨s1,h1⟩:=dr0 p S P T `mE i _ .un h;have h2:=w50 h;rw[`fr,`dB] at h2;obtain⟨e1,e2⟩:=`ayc;have hl:`tW<=2600:=Bw.ey0 2600 `mE `i;have J:i+`tW<`er:=`Oj;have hd:=bw0 (p:=p) (P:=P) (T:=T) (n:=`Fl) (f:=`D (`z5=0)) (s:=s1) e1 `i (λq=>`F);rw[`wl] at hd;have e3:`Fl*128+`o7%128=`da:=`F
 rw[e3] at hd;have hw:=h1 (`Ug);rw[show `Ug+`tW=100000 by omega,show `Ug=(99999 - `tW)+1 by omega,V20 `ayd hd] at hw;refine⟨ds p S (i+`Kb) P T `da `n (.sh (`aub)),?_,rfl⟩;refine o6 (δ':=[`iu,.sh (`el),.un,.un]) `g0 (o6 (δ':=ds p S i P T 0 `b .un) `g0 `qC);refine hw.trans ?_;unfold bs;rw[`W,`dw,`F9]
universe Nk
namespace Nk
open DL W Rk Rm
open Bt (R5 o6 Z2 j9 yf0 zn0 V1 W7 Z9 X8 P0)
open Bw (bs hi its sg)
noncomputable def WL:`j:=`as5
theorem Ta0:WL.Nodup:=`af
theorem W60:WL.length=37:=`af
theorem Up0{c:Nat}(h:`wG):c∈WL:=by
 have:∀c∈zy0,c∈WL:=`af
 exact `C c h
theorem Yx0(a b:`j):`Sz:=by
 show (⟨(`td).cps++(`as b).cps⟩:Str)=_;unfold strOf;simp
theorem str_len(a:`j):(`td).length=`JT:=by
 show (`td).cps.size=_;unfold strOf;simp
noncomputable def IB:GS:=(v6 (ifD `axx
 (v6 `axy
 v9)
 v9)
 v9)
noncomputable def is(a b c:Sl)(w:`j)(n:Nat)(s:Sl):Ds:=[a,b,c,`gV,`cQ,s]
theorem inner(a b c:Sl)(n:Nat):∀(l w:`j) (s:Sl),`cB+`dg<=1000->∃s',J3 `c1 IB `K3 `aye=`a (.nx (is a b c (w++`Uh) n s'))
 | [],w,s,_=>⟨s,by rw[List.filter_nil,`bc];rfl⟩
 | x::l,w,s,hl=>by
  rw[`aH] at hl;have hz:`gm:=`aq
  have cc:ob `_K `K2=`a (`_5):=by
   refine `jf;rw[p6 (x:=`Tn) (y:=`ku) rfl rfl];show `a (`cC (`D (`tw=`da)))=_;congr 2;exact `F6
  have st:∀w',`F!=`a (.nx `ayf)->J3 `c1 IB ((x::l).map `K1) `aye=J3 `c1 IB `K3 `ayf:=λw' e=>by
   rw[`L]
   conv=>lhs;unfold J3
   show (match `F! with|`cA=>`ayg|`u6=>`ayg|`u7=>`cA|r=>r)=_;rw[e]
  by_cases h:x=n
  ·have e:`F!=`a (.nx (`ayh)):=by
    refine `Fb;rw[N6 (by rw[cc,`gl])];refine t6 (δ':=`ayh) ?_ rfl;rw[X7 (d:=`s (`as `K4)) (by
     rw[p6 (x:=`J1) (y:=`_6) rfl rfl];simp only[m7];rw[`H (by rw[str_len,str_len];simp only[`aH,`dP];omega),Yx0])]
    rfl
   obtain⟨s',h'⟩:=inner a b c n l `K4 `tX `vY;refine`Th;rw[st _ e,h',`Ui,`H (D7 h),`aN];rfl
  ·have e:`F!=`a (.nx `K2):=by
    refine `Fb;rw[Y5 (by rw[cc,`iH])];rfl
   obtain⟨s',h'⟩:=inner a b c n l w `tX `i;refine`Th;rw[st _ e,h',`Ui,`ad `ig]
theorem Yn0{l:`j}(h:l.Nodup)(hn:n∈l):`Uh=[n]:=by
 induction l with
 | nil=>cases hn
 | cons a l ih =>
  rw[`Ee] at h;rw[`Ui]
  by_cases e:a=n
  ·rw[`H (D7 e),e]
   have:`Uh=[]:=by
    rw[List.filter_eq_nil_iff];intro x hx z;have:=M1 z;exact h.1 (e▸`C▸hx)
   rw[`C]
  ·rw[`ad `pD]
   exact ih h.2 ((`be hn).resolve_left `ZW)
noncomputable def OB:GS:=(v6 (w40 (qo0 `aj) `c1 IB)
 v9)
noncomputable def xz0:Sl:=.sh `Yx
theorem outer(a b:Sl):∀(l w:`j) (s4 s5:Sl),(∀c∈l,`wG)->`cB+`dg<=100->∃s4' s5',J3 `f_ OB `K6 [a,b,xz0,`gV,s4,s5]=`a (.nx [a,b,xz0,.sh (`s (`as (w++l))),s4',s5'])
 | [],w,s4,s5,_,_=>⟨s4,s5,`RC⟩
 | c::l,w,s4,s5,hc,hl=>by
  rw[`aH] at hl;obtain⟨s',h'⟩:=inner a b xz0 c WL w s5 (by rw[W60];omega);have e:`ayi=`a (.nx (is a b xz0 `Uj c s')):=by
   refine t6 (v60 (items:=WL.map `K1) rfl ?_) rfl;rw[h',Yn0 Ta0 (Up0 (hc c A6))]
  obtain⟨t4,t5,h2⟩:=`bS a b l `Uj (.sh (`tY)) s' (λx hx=>hc x `xT) `vY;refine⟨t4,t5,?_⟩;rw[`L]
  conv=>lhs;unfold J3
  show (match `ayi with|`cA=>`ayj|`u6=>`ayj|`u7=>`cA|r=>r)=_;rw[e];show J3 `f_ OB `K6 [a,b,xz0,.sh (`s (`as `Uj)),.sh (`tY),s']=_;rw[h2,`aN];rfl
theorem Zd0(xs:`f)(a b:Nat)(h:a<=b)(hb:b<=`av):`oA xs (`a `sm) (`a `Tf)=(`pE a).take (b - a):=by
 unfold cutD sIx;simp only[];rw[`Fj,`Fj,`bW,`bW,`S5 hb,`S5 (B5 h hb)]
theorem Vo0{g:GE}{δ:Ds}{w:Str}(h:`al=`a (`mF))(hl:`dg<=1000):`aun=`a (`pl):=by
 rw[b7 (ds:=[`mF]) (by rw[`aup])];have:`gm:=`aq
 simp only[W8];rw[`wl]
theorem j20{S:`u}{P:`f}{T:`g}{w:Str}(hi:`qT)(h:`cS=sg w++`ax)(hw:∀c∈`wF,`wG)(hl:`Te):z60 `mH [`pl]=`a (`mF,bk S `AW P T):=by
 refine `F'
 have J:`FN:=i3;obtain⟨s4,s5,h2⟩:=`bS (`iu) (`pm) `wF [] .un .un hw (by rw[J,`dP];omega);have hS:i+`dg<=`er:=by
  have:=`ayk;rw[`ey,`W] at this;unfold sg at this;rw[`U,J] at this;omega
 have M:(`cS).take `dg=sg w:=by
  rw[h,List.take_left' (`ayl)]
 have ew:`as `wF=w:=by unfold strOf;simp
 refine⟨`Uk,?_,rfl⟩;refine o6 (δ':=[`iu,`pm,xz0,.un,.un,.un]) `g0 ?_;refine o6 (δ':=`Ul) `g0 ?_;refine o6 (δ':=[`iu,`pm,xz0,.sh (`mF),s4,s5]) (j9 (v60 (items:=w.cps.toList.map `_7) ?_ ?_)) ?_
 ·have e:y00 sG `aym `ayn `Ul=`a (`q ((sg w).map `d)):=by
   show slA (`F5) (`a `eU) (`a (`AX))=_;show `a (`gZ (`oA (`Uc) (`a `eU) (`a (`AX))))=_;rw[`ayo,Zd0 _ i `AW `i (by rw[`U];exact hS),`Ok,← `at2,← List.map_take,M]
  refine(show z40 (y00 sG `aym `ayn) `Ul=_ from ?_);unfold z40;rw[e];unfold sg;rw[`bD];rfl
 ·rw[`dB,ew] at h2
  exact h2
 refine o6 (δ':=`Uk) (j9 (P0 (W7 (d:=`d `_9) ?_) (ev0 `AW))) ?_
 ·refine(show o2 aG `V m7 _=_ from ?_)
  rw[`ax6];show `a (`bl (`AX))=_;rw[`ayo]
 have c:ob `axz `Uk=`aJ:=by
  refine `jf;rw[p6 (x:=`pl) (y:=`pl) (Vo0 rfl `i) rfl];show `a (`cC (!`D (`AV=`AV)))=_;rw[`qU];rfl
 exact o6 `ax! `F?
universe Nk
namespace Nk
open DL W Rk Rm
open Bt (R5 o6 Z2 j9 yf0 zn0 V1 W7 Z9 X8 P0)
open Bw (bs hi its sg)
open Km (hb nT ix)
theorem xq0{g g':GB}{δ:Ds}(h:`u'):zj0 g g' δ=g' δ:=by unfold zj0;rw[h];rfl
theorem t70{g g':GB}{δ:Ds}(h:`CU):`ayp=g' δ:=`ayq
theorem t00{g g':GB}{δ:Ds}(h:`u'):`ayp=`aJ:=`ayq
theorem O2{g:GB}{δ:Ds}(h:`u'):ifB g Ga `v δ=`lS:=by rw[zn0 h];rfl
theorem v50{g:GB}{δ:Ds}{r:`md}(h:`CU)(k:`x7=r):`So=r:=by rw[yf0 h];exact k
noncomputable def nG:GE:=`_M
noncomputable def pG:GE:=`F4
section
variable{p:`e}{S:`u}{P:`f}{T:`g}{r:Ds}
theorem bo0:nG `cR=`a (tq0 2):=rfl
theorem Vc0:pG `cR=`a (tq0 1):=rfl
theorem m20:va0 0 nG `cR=`a (`auX):=by
 show `a (`bl (`ayr:Int))=_;rw[`U]
theorem mb0:va0 0 pG `cR=`a `aaf:=rfl
theorem o70:`oI (`mG)=`b:=by
 unfold flats;rw[`nj];intro d hd;obtain⟨s,_,rfl⟩:=`c7;rfl
theorem b20(T:`g)(s:Str):`ays=`Aj:=by
 induction T with
 | nil=>rfl
 | cons t T ih =>
  rw[`L,`ga,ih];show ((t==s)||`Aj)=_
  by_cases h:t=s
  ·rw[h,`Qo,`ak_,`bm A6]
  ·rw[`Qm h,`PA]
   exact S1.mpr ⟨A5 _,λz=>(`be z).resolve_left λq=>h q.symm⟩
theorem dx0{g:GE}{s:Str}(h:`ayt):inN 0 g nG `cR=`auM:=by
 unfold inN;rw[h,`k,bo0,`k];show (if `oI (`mG)=`b/\`Um then zd0 `n `dR (`ax3) else `c)=_;rw[`H ⟨o70,rfl⟩];show (if `Um/\(`mG).all `cP=`b then `a (`cC (xor `n `ays)) else `c)=_;rw[`H ⟨rfl,o70⟩,b20,`qn]
theorem dd0{g:GE}{s:Str}(h:`ayt)(hT:`gX<=1000):d7 (tu0 0 nG g) `cR=`a (.nx (lb p S i P (`Ar)::r)):=by
 unfold d7 tu0;rw[bo0,`k,h,`k];have hz:`gm:=`aq
 show `gk _ (if nrf `dR=`b/\`ayr<`P then `a (`wJ,`ayu) else `c)=_;rw[`H ⟨rfl,`X6⟩];show `a (`pt (`ayu))=_;have e:`_?=(`Ar).map `em:=by rw[`b0];rfl
 rw[e];rfl
universe zz
theorem ro0{S:`u}{P:`f}{T:`g}{s:Str}{B:`j}(hi:`qT)(h:`cS=`qI++`ax)(hs:`wm)(hT:`gX<=60) :
  `aak=`a (`bK,bk S (i+(`qI).length) P `AE):=by
 obtain⟨n1,n8,nc⟩:=oa0 hs;have J:s.cps.toList.length=`id:=i3;rw[J] at n1 n8;have e1:`qI=`wv:=rfl;have e2:`Kt=`wx:=rfl;rw[e1,e2];rw[e1] at h
 by_cases hm:`ie
 ·rw[`H hm] at h ⊢
  rw[`H hm];have Y:=Km.tw0 hm;obtain⟨k,hk⟩:∃k,k=`ZY:=`ag;rw[← hk] at h ⊢;have hd:=s90 (P:=P) (T:=T) h (B0 (show 2*k<`Ga by omega) `wK);refine R5 rfl λp=>⟨`jg,?_,rfl⟩
  refine o6 (δ':=`jg) `Un ?_;have m2:o2 `V `ci p8 `jg=`a (`el):=by
   rw[`qS (i:=`K9) (j:=2) rfl rfl `t];congr 2;omega
  have d2:o2 `V `ci o8 `jg=`ayv:=by
   rw[p6 (x:=`aaa) (y:=`ko) rfl rfl];show `a (`bl (`K9/2))=_;congr 2;omega
  have c0:ob `KV `jg=`cW:=`ayw;have c1:ob (o2 `pn `aab geD) `jg=`aJ:=Z9 (by
   rw[p6 d2 m20];show `a (`cC (`D ((k:Int) ≥ (`gX:Int))))=_;rw[`fb])
  refine o6 (δ':=`jg) (O2 (by rw[`K?,t70 c0];exact c1)) ?_;refine Z2 (v50 c0 `lc);have hx:o2 `aac `pn R0 `jg=`auR:=by
   rw[p6 (x:=`auW) (y:=`ka) ((p6 m20 rfl).trans rfl) d2];show `a (`bl (`Km - `cg))=_;congr 2;omega
  have M:s70 0 nG `ayx `jg=`K8:=by
   unfold s70;rw[bo0,`k,hx,`k];show atI (`mG) `Kl=_;rw[`Tt];have:=Km.bu0 hm;simp[`cm,`C]
  refine(show plN (s70 0 nG `ayx) _=_ from ?_);unfold plN;rw[M];rfl
 ·rw[`ad hm] at h ⊢
  rw[`ad hm];rw[`aN] at h;have hd:=s90 (P:=P) (T:=T) h (B0 (show `tx<`Ga by omega) `wK);have h2:=w50 h;have O:i+(`Af).length<=`er:=by
   have:=`ayk;rw[`ey,`W] at this;omega
  have hw:=j20 (P:=P) (T:=T) O h2 (λc hc=>A5 _ (nc c hc)) `i;obtain⟨j,hj⟩:∃j,j=i+(`Af).length:=`ag;rw[← hj] at hd hw;have U:`aui:=`ayl
  rw[`W,← `F9,← hj,U];refine R5 rfl λp=>⟨[lb p S (j+`id) P (`Ar),`K!,`ih],?_,rfl⟩
  refine o6 (δ':=`qV) `Un ?_;have m2:o2 `V `ci p8 `qV=`a (`dN):=by
   rw[`qS (i:=`Kn) (j:=2) rfl rfl `t];congr 2;omega
  have d2:o2 `V `ci o8 `qV=`auo:=by
   rw[p6 (x:=`K') (y:=`ko) rfl rfl];show `a (`bl (`Kn/2))=_;congr 2;omega
  have c0:ob `KV `qV=`aJ:=`ayw;refine o6 (δ':=`qV) (O2 (by rw[`K?];exact t00 c0)) ?_;refine o6 (δ':=`qV) (O2 c0) ?_;refine o6 (δ':=`qW) (j9 (P0 (X8 (p:=p) (b:=bk S j P T) rfl (`am d2 rfl) hw) rfl)) ?_;have t1:ob `axE `qW=`aJ:=Z9 (by
   rw[p6 (x:=`bK) (y:=`zp) rfl rfl];show `a (`cC (`D (s=("" : Str))))=_;rw[`bi (λz=>by rw[z] at n1;exact `I n1 `t)])
  have t2:ob (inN 0 `aj nG) `qW=`aJ:=Z9 (by
   rw[dx0 (s:=s) rfl,`bi hm])
  have t3:ob `axF `qW=`aJ:=Z9 (by
   rw[p6 (x:=`s " ") (y:=`bK) rfl rfl];show `a (`cC (inS " " s))=_;rw[show (" " : Str)=⟨#[32]⟩ from `af,Z80,`bi (λz=>by
    have:=nc 32 z;exact `I `C `t)])
  have t4:ob `axG `qW=`aJ:=Z9 (by
   rw[p6 (Vo0 (w:=s) rfl `i) rfl];show `a (`cC (`D ((`id:Int) > 8)))=_;rw[`fb])
  refine o6 (δ':=`qW) (O2 (`Gb ((xq0 t1).trans ((xq0 t2).trans ((xq0 t3).trans t4))))) ?_;exact o6 (j9 (dd0 (s:=s) rfl `i)) `F?
universe Nk
namespace Nk
open DL W Rk Rm
open Bt (R5 o6 Z2 j9 yf0 zn0 V1 W7 Z9 X8 P0)
open Bw (bs hi its sg kn cnt tx fold)
open Km (hb nT ix lkd It Wb)
open K22 (lkv rel)
section
variable{δ:Ds}{N:Int}
theorem m4(h:`Gc)(j:Int):ob `atM δ=`a (`D (N%4=j)):=by
 refine `jf;rw[p6 (`qS h rfl `t) rfl];rfl
theorem d4(h:`Gc):o2 `V `fZ o8 δ=`a (`d (N/4)):=`La
theorem We0(h:`Gc)(hb:`ayy):zj0 `T6 `axI δ=`aJ:=by
 refine(xq0 (`Uo)).trans ?_;have g:ob `_N δ=`a (`D (N > 0)):=`Uo
 by_cases z:N%4=0
 ·rw[t70 (by rw[m4 h,`bm z]),g,`bi (λq=>hb `Iz)]
 ·rw[t00 (by rw[m4 h,`bi z])]
theorem q70(h:`Gc):ob `_P δ=`a (`D (N=0)):=`Uo
universe zz
theorem q20{S:`u}{N:Nat}{P:`f}{T:`g}(h:`cS=bs N++`ax)(hN:N<`kz)(hb:`ayy)(f:`az)(r b':D)
  (k:∀p,∃δ',(t8 (ifB `T7
 (t8 `i9
 `v)
 `v)
 (t8 `axJ
 (t8 (ifB `axK
 (t8 `axL
 `v)
 `v)
 (t8 (ifB `tT
 (t8 `axM
 `v)
 `v)
 (t8 (j4 (j7 `c0 (va0 0 pG)))
 (t8 (ifB `axN
 (t8 `nv
 `v)
 `v)
 (t8 (ifB `AQ
 (t8 `axO
 `v)
 `v)
 (t8 (j4 (d7 (tu0 0 pG `fY)))
 (t8 (j4 (V7 (Y4 0 `axP f) (rs0 0 pG `bI)))
 (t8 `axQ
 `v)))))))))) `Up=`Rf/\`S0=`Jd) :
  `wL=`sZ:=by
 have hd:=s90 (P:=P) (T:=T) h hN;refine `F'
 obtain⟨δ',k1,k2⟩:=k p;refine⟨δ',?_,k2⟩;refine o6 (δ':=`Up) `Un ?_;refine o6 (δ':=`Up) (O2 (We0 (N:=`po) rfl `i)) k1
theorem Vz0{S:`u}{P:`f}{T:`g}(h:`ayz)(f:`az):`wL=`a (`z,bk S (i+(bs 0).length) P T):=by
 refine q20 h `t `i f _ _ λp=>⟨_,Z2 (v50 (by rw[q70 (N:=0) rfl,`qU]) `F?),rfl⟩
theorem T00{S:`u}{P:`f}{T:`g}{z:Int}(hz:`ws)(h:`ayA)(f:`az):`wL=`a (`dM,bk S (i+(`Ld).length) P T):=by
 have J:=`au4 z hz;have hN:`Ai<`kz:=B0 (show `Ai<2 ^ 2505 by
  have:(2:Nat) ^ 2505=2 ^ 2502*8:=by rw[show 2505=2502+3 from rfl,Nat.pow_add]
  omega) `wK
 obtain⟨F,hF⟩:∃F,F=`o8:=`ag;have hu:`o8=`aud:=rfl;rw[← hF] at h hN hu ⊢;refine q20 h hN `i f _ _ λp=>⟨`Gd,?_,rfl⟩
 refine o6 (O2 (by rw[q70 (N:=`t_) rfl,`fb])) ?_;refine o6 (δ':=`Gd) `qR ?_
 ·rw[X7 (d4 (N:=`t_) rfl),show `t_/4=`mI by omega]
  rfl
 have c1:ob `YF `Gd=`cW:=by
  rw[m4 (N:=`t_) rfl,`ns]
 have c2:ob `_Q `Gd=`a (`D (`mI%2=1)):=Z9 (by
  rw[p6 (`qS (i:=`mI) rfl rfl `t) rfl];rfl)
 by_cases q:`mI%2=1
 ·refine Z2 (v50 (by rw[t70 c1,c2,`bm q]) `lc)
  have e:`f2 - (`mI+1)/2=z:=by
   by_cases y:z<0
   ·rw[`H y] at hu;omega
   ·rw[`ad y] at hu;omega
  rw[← e];rfl
 ·refine o6 (O2 (by rw[t70 c1,c2,`bi q])) (Z2 (v50 c1 `lc))
  have e:`mI/2=z:=by
   by_cases y:z<0
   ·rw[`H y] at hu;omega
   ·rw[`ad y] at hu;omega
  rw[← e];rfl
theorem U00{S:`u}{P:`f}{T:`g}{k:Nat}(hk:k<`c3)(hP:`c3<=60)(h:`cS=`aad++`ax)(f:`az):`wL=`a (lkd (`c3 - 1 - k),bk S `aae P T):=by
 have hN:`AZ<`kz:=B0 (show `AZ<`Ga by omega) `wK;refine q20 h hN `i f _ _ λp=>⟨`Ge,?_,rfl⟩
 refine o6 (O2 (by rw[q70 (N:=`pp) rfl,`fb])) ?_;refine o6 (δ':=[`aag,.sh (`d `pp),`gW,.un]) `qR ?_
 ·rw[X7 (d4 (N:=`pp) rfl),show `pp/4=`cg by omega]
  rfl
 refine o6 (O2 (t00 `ayB)) ?_;refine o6 (O2 `ayB) ?_;refine o6 (δ':=`Ge) (j9 (X7 mb0)) ?_;have c2:ob `YJ `Ge=`cW:=by
  rw[`aah,`ns]
 have c3:ob `_S `Ge=`aJ:=Z9 (by
  show `a (`cC (`D ((k:Int) ≥ (`c3:Int))))=_;rw[`fb])
 refine o6 (O2 ((t70 c2).trans c3)) ?_;refine Z2 (v50 c2 `lc);show `a (`dx [`fX,`d (`_' - 1 - `cg)])=_;unfold lkd;congr 5;omega
theorem fc0{p:`e}{S:`u}{P:`f}{T:`g}{r:Ds}(hP:`c3<=60):d7 (tu0 0 pG `fY) `cR=`a (.nx (lb p S i `qX T::r)):=by
 unfold d7 tu0;rw[Vc0,`k];have hz:`gm:=`aq
 show `gk _ (if nrf `z=`b/\`c3<`P then `a (`wJ,setN 0 1 (`q `qX) `cR) else `c)=_;rw[`H ⟨rfl,`F⟩];rfl
theorem ez0{p:`e}{S:`u}{k:Nat}{P:`f}{T:`g}{r:Ds}{g:GE}{v:D}(h:g `cR=`ayv)(hk:k<`c3)(hv:`FY):rs0 0 pG g v `cR=`a (lb p S i (P.set k v) T::r):=by
 unfold rs0;rw[Vc0,`k,h,`k];show (`ayC).bind _=_;have e:`ayC=`eZ:=by unfold DL.ixN;rw[`wl,`wl,`bW]
 rw[e,`k];rw[`Nt];rfl
theorem Ui0{S:`u}{P P':`f}{T T':`g}{c j:Nat}(hc:c<=20)(hk:kd<4)(hP:`c3<60)(h:`cS=`ayD++`ax)(f:`az){v:D}
  (hf:f (bk S (i+(`ayD).length) `qX T) `ayE=`a (v,bk S j P' T')) (hP':`c3<P'.length) (hv:`FY) :
  `wL=`a (lkd `c3,bk S j (P'.set `c3 v) T'):=by
 obtain⟨N,eN⟩:∃N,N=4*(4*c+kd)+3:=`ag;obtain⟨R,eR⟩:∃R,R=4*c+kd:=`ag;rw[← eN] at h hf;have hN:N<`kz:=B0 (show N<`Ga by omega) `wK;refine q20 h hN `i f _ _ λp=>⟨`ayF,?_,rfl⟩
 refine o6 (O2 (by rw[q70 (N:=`po) rfl,`fb])) ?_;refine o6 (δ':=[`Lc,`tZ,`A1,.un]) `qR ?_
 ·rw[X7 (d4 (N:=`po) rfl),show `po/4=`mJ by omega]
  rfl
 refine `ayG;refine `ayH;refine o6 (δ':=[`Lc,`tZ,`A1,`A_]) (j9 (X7 mb0)) ?_;refine `ayG;refine `ayH;refine o6 (δ':=[lb p S `Lb `qX T,`tZ,`A1,`A_]) (j9 (fc0 `i)) ?_;refine o6 (δ':=`ayF) (j9 (P0 (X8 (p:=p) (b:=bk S `Lb `qX T) rfl (ds:=`ayE) ?_ hf) (ez0 rfl hP' hv))) `F?;refine `am (d:=`A0) ?_ (`am (d:=`tY) ?_ rfl)
 ·rw[`qS (i:=`mJ) rfl rfl `t,show `mJ%4=`Le by omega]
 ·rw[p6 (x:=`d `mJ) rfl rfl]
  show `a (`bl (`mJ/4))=_;rw[show `mJ/4=`K5 by omega]
universe Nk
namespace Rk
open DL W Rm StrLaws
open Bt (Z9)
open Bw (bs sg its two kn cnt tx Vb Gq)
open Km (lkd It Wb ix)
open K22 (lkv rel tgs nd)
open Gw (Gd Vk)
theorem Xn0{p:Pt}(h:p.Ok):`tK<=12:=by
 cases p with
 | text w=>exact `db
 | row vs=>exact h.1
 | table qs=>show `ayI;rw[`U];exact `Gf h
 | rcd c qs=>show `ayI;rw[`U];exact `Gf h.2
theorem by0{v:D}(hn:n<=60)(h:Vk v `da):`iq/\Bw.Lk n v:=by
 rcases ft0 h.ok with rfl|⟨i,rfl⟩|⟨i,rfl,hi⟩
 ·exact⟨`z,λj e=>nomatch e⟩
 ·refine⟨`d i ?_,λj e=>nomatch e⟩
  have h1:=h.bd i rfl;have h2:(10:Nat) ^ 60<`Kd:=`af
  exact E3 h1 h2
 ·have:=h.lk i rfl
  obtain⟨k,rfl⟩:∃k:Nat,i=`cg:=⟨`dr,`F⟩;exact⟨.lk k `i,Bw.a90 `i⟩
structure Dw(ps:`b1)(pool:`g):Prop where
 len:1<=`ar/\`S6
 pl:`S7<=60
 gd:∀p∈ps,`atT
theorem Dw.wf(h:Dw ps `aI):Wf ps (pool.filter `ayJ):=by
 have hl:=`h6;have J:∀p∈ps,∀s∈`nr,`wm:=λp hp s hs=>by
  have ho:=`Uq;cases p with
  | text w=>cases hs
  | row vs=>cases hs
  | table qs =>
   have hs:s∈`tL++[]:=hs;rw[`bc] at hs;obtain⟨q,hq,rfl⟩:=`ST;exact `ayK ho q hq
  | rcd c qs =>
   have hs:s∈`tL++[c]:=hs;rcases `d5 hs with hs|hs
   ·obtain⟨q,hq,rfl⟩:=`ST
    exact `ayK ho.2 q hq
   ·rw[`e3 hs];exact ho.1
 refine⟨⟨`F,`g',λp hp v hv=>(`ayL).2⟩,B5 (List.length_filter_le _ _) h.pl,λs hs=>(X2.mp hs).2,λp hp=>`Uq,λp hp s hs=>X2.mpr ⟨(`Lf).nms s hs,`ayM⟩⟩;have ho:=`Uq;refine⟨?_,λv hv=>(`ayL).1,λs hs=>B5 (f50 (`ayM)) `i,Xn0 ho⟩;cases p with
 | text w=>exact(oy0 (w:=w) ho).1
 | row vs=>exact B5 ho.1 `i
 | table qs=>exact B5 (`Gf ho) `i
 | rcd c qs=>exact B5 (`Gf ho.2) `i
theorem zf0:∀{l:`f},(∀d∈l,`DR)->`kb l=`b
 | [],_=>rfl
 | d::l,h=>by
  unfold trees;rw[`FL,zf0 `pZ];rfl
theorem Y70{p:Pt}(hv:∀v∈`e?,`ayN):`ei p.d=`b:=by
 have J:∀a b:D,`ei a=`b->`ei b=`b->`ei (`Pt)=`b:=λa b ha hb=>by
  show `kb `yF=`b;exact zf0 λd hd=>by
   rcases `le with rfl|hd
   ·exact ha
   ·rw[`kE];exact hb
 have M:∀qs:`bo,(∀v∈`kF,`ayN)->`ei `KJ=`b:=λqs h=>by
  show `Ur;exact zf0 λd hd=>by
   obtain⟨q,hq,rfl⟩:=`c7;exact J _ _ rfl (h _ `t3)
 cases p with
 | text w=>rfl
 | row vs=>exact J _ _ rfl (show `kb vs=`b from zf0 hv)
 | table qs=>exact J _ _ rfl (M qs hv)
 | rcd c qs =>
  show `kb [`em `zy,`dS,`_n]=`b;exact zf0 λd hd=>by
   rcases `le with rfl|hd
   ·rfl
   rcases `le with rfl|hd
   ·rfl
   ·rw[`kE];exact M qs hv
universe Rk
namespace Nk
open DL W Rk Rm
open Bt (R5 o6 Z2 j9 yf0 zn0 V1 W7 Z9 X8 P0)
open Bw (bs hi its sg kn cnt tx fold two)
open Km (hb nT ix lkd It Wb)
open K22 (lkv rel)
noncomputable def oD:`A2->D
 | `c=>`z
 | `g_=>`bK
noncomputable def prD(a:`t0):D:=`B [oD a.1,a.2]
noncomputable def LT:GB:=`axU
noncomputable def LB(f:`az):GSB:=(t8 `axS
 (t8 (j4 (ifD `AS
 (v6 `axT
 v9)
 v9))
 (t8 (ifB LT
 (t8 `nv
 `v)
 `v)
 (t8 (j4 (V7 (Y4 0 v5 f) (gN 7)))
 (t8 (ifB `axV
 (t8 `nv
 `v)
 `v)
 (t8 `axW
 `v))))))
noncomputable def s8(p:`e)(S:`u)(i:Nat)(P:`f)(T:`g)(kd:Nat)(sz:Sl)(c:Str)(acc:`jh)(a b d:Sl):Ds:=[`iu,.sh (`A0),sz,`Us,.ow (`q (`t1)),a,b,d]
section
variable{p:`e}{S:`u}{P:`f}{T:`g}{sz:Sl}{c:Str}{acc:`jh}{a b d:Sl}
theorem gt1:ob `_T `ji=`a (`Lh):=Z9 (by
 show `a (`cC (`D ((kd:Int) > 1)))=_;congr 2;exact `F6)
theorem k_is(j:Nat):ob (o2 `V (gc `oK) eqD) `ji=`a (`D (kd=j)):=Z9 (by
 show `a (`cC (`D (`Le=`bH)))=_;congr 2;exact `F6)
theorem Uj0(ha:`wM):X6 1 [] `AR `bJ noT `ks (frz `ji)=`a (`q (`Lg)):=by
 have hz:`gm:=`aq
 refine `ayO;rw[zw0 (λd=>match d with|`B (x::_)=>x|d=>d) (λd hd=>by
  obtain⟨x,_,rfl⟩:=`c7;exact`ayP),`bD]
 rfl
theorem T70(ha:`wM):X6 1 [] `AR `bJ noT `h' (frz `ji)=`a (`ayQ):=by
 have hz:`gm:=`aq
 refine `ayO;rw[zw0 (λd=>match d with|`B [_,y]=>y|d=>d) (λd hd=>by
  obtain⟨x,_,rfl⟩:=`c7;exact`ayP),`bD]
 rfl
theorem ah0{s:Str}:∀{acc:`jh},`Li->`ayR=`n
 | [],_=>rfl
 | x::acc,h=>by
  rw[`L,`i6,`D_] at h;rw[`L,`ga,ah0 h.2,`Cm];rcases x with⟨_|t,v⟩
  ·rfl
  ·show (t==s)=`n
   exact `uf λz=>h.1 (by rw[z])
theorem V50(acc:`jh):`ayS:=by
 rw[`nj];intro d hd;obtain⟨x,_,rfl⟩:=`c7;rcases x with⟨_|t,v⟩<;>rfl
theorem Uf0{o:`A2}(hk:`ayT)(hn:∀s,o=`g_->`Li)(ha:`wM):LT `ayU=`aJ:=by
 unfold LT;have e:G3 `AS `_W `ayU=`aJ:=by
  cases o with
  | none=>exact t00 `Gg
  | some s =>
   refine(t70 `Gg).trans (`Gb ?_);show ob `_V (frz (s8 p S i P T kd sz c acc a (`ih) d))=_;refine `jf;rw[p6 (x:=`bK) rfl (Uj0 ha)];show (if `Um/\`ayS then `a (`cC (xor `n `ayR)) else `c)=_;rw[`H ⟨rfl,V50 acc⟩,ah0 (hn s rfl)];rfl
 exact(xq0 e).trans rfl
theorem Um0{f:`az}{o:`A2}{v:D}{i1 i2:Nat}{P2:`f}{T1 T2:`g}(hk:`ayT)(hn:`ayV)(h0:`ayW)
  (hv:f (`Lj) []=`a (v,bk S i2 P2 T2)) (hb:u10 v `KY=`p4) (ha:`wM) :
  LB f `ji=`a (.nx (`ayX)):=by
 unfold LB;refine o6 (δ':=s8 p S i P T kd sz c acc a (`tD) d) `g0 ?_;refine o6 (δ':=s8 p S i1 P T1 kd sz c acc a `ps d) `qR ?_
 ·cases o with
  | none =>
   obtain⟨rfl,rfl⟩:=h0 rfl;rw[Y5 `Gg];rfl
  | some s =>
   rw[N6 `Gg];exact t6 (P0 (X8 (p:=p) (b:=`tU) rfl rfl (hn s rfl).2) rfl) rfl
 refine o6 (O2 (Uf0 hk (λs e=>(hn s e).1) ha)) ?_;refine o6 (δ':=`Ut) (j9 (P0 (X8 (p:=p) (b:=`Lj) rfl rfl hv) rfl)) ?_;have e:ob `_X (`Ut)=`aJ:=Z9 (by rw[p6 (x:=v) rfl rfl];exact hb);refine o6 (O2 e) ?_;refine o6 (j9 (δ':=`ayX) ?_) rfl;have hz:`gm:=`aq
 unfold d7 K5;show `gk _ (if (`t1).length<`P then `a (`wJ,(`Ut).set 4 (.ow (`q (`t1++[`B [oD o,v]])))) else `c)=_;rw[`H `eo];show `ayY=_;unfold s8;rw[`b0];rfl
universe zz
theorem Pk.split{B B':`j}{T:`g}{d:D}{ds:`f}{b:`u}(h:Pk ps B T `p8 B' T' b):∃B1 T1 b1 b2,`ayZ/\Pk ps B1 T1 ds B' T' b2/\b=b1++b2:=by
 cases h with
 | str h=>exact⟨_,_,_,_,`s `Gh,h,`wN⟩
 | val hd h=>exact⟨_,_,_,_,.val hd `Gh,h,`wN⟩
 | old hj h=>exact⟨_,_,_,_,.old hj `Gh,h,`wN⟩
 | new hj h1 h2=>exact⟨_,_,_,_,.new hj h1 `Gh,h2,by rw[`bc,`aN]⟩
theorem Pk.str_inv{B B':`j}{T:`g}{s:Str}{b:`u}(h:Pk ps B T `tt B' T' b):B'=B/\T'=`Kt/\b=`qI:=by
 cases h with
 | str h=>cases h;exact⟨rfl,rfl,`wN⟩
 | val hd h=>rcases hd with z|⟨_,z⟩<;>cases z
noncomputable def full(ps:`b1)(π:`fv)(k:Nat):D:=(rel π `Av).d
noncomputable def VOk(ps:`b1)(pool:`g)(L:`j)(S:`u)(m:Nat)(f:`az):Prop :=
 ∀(B B1:`j) (T T1:`g) (d:D) (b1 rest:`u) (i:Nat) (P:`f),`wD->`hu->`nu->`wA->`TJ->`f4->(`ay_)->`ayZ->(∃M,L=B1++M)->`Gi->`qT->`cS=b1++`ax ->
  f `mH []=`a (lkv `c2 d,bk S (`ay0) (P++(B1.drop `cj).map `t2) T1)
noncomputable def itm:`t0->`f
 | `Lt=>[v]
 | (`g_,v)=>[`bK,v]
theorem Z20{d:D}(h:It n d)(hs:`ay_)(π:`fv):u10 `FM `KY=`p4:=by
 rcases h with⟨s,rfl,_⟩|rfl|⟨z,rfl,_⟩|⟨j,rfl,_⟩
 ·exact `I rfl (hs s)
 ·rfl
 ·rfl
 ·rfl
theorem h90{v:D}(h:It n v)(hv:Bw.Vb v):∀s,v≠`bK:=by
 cases hv with
 | non=>exact λs z=>nomatch z
 | lk j _=>exact λs z=>nomatch z
 | int z _=>exact λs z=>nomatch z
section
variable{S:`u}{f:`az}
theorem loop(W:`je)(hf:`Uu)(p:`e)(kd:Nat)(sz:Sl)(c:Str):∀(as:`jh) (items:`f) (acc:`jh) (B B':`j) (T T':`g) (b rest:`u) (i:Nat) (P:`f) (s5 s6 s7:Sl),`bG=`fO->(∀a∈as,`ay1)->(∀a∈as,`ay2)->(∀a∈as,`ay3)->((`pq `bj++`ma `bj).filterMap id).Nodup->`aaj+`fO<=100 ->
  `wD->`hu->`nu->`wA->`TJ->`ay4->(`Uv)->`Gi->`qT->`ay5 ->
  ∃s5' s6' s7',wz0 `c1 `wO `ap `ay6=`a (.nx (s8 p S `F8 `Gj T' kd sz c (acc++`Gk) s5' s6' s7')):=by
 intro as
 induction as with
 | nil =>
  intro items acc B B' T T' b rest i P s5 s6 s7 O _ _ _ _ _ _ _ _ _ _ h _ hP hi hS;cases h;have:`ap=[]:=b9.mp O;subst this;refine⟨s5,s6,s7,?_⟩;rw[`na,`e2,`e2,`bc,`bc];rfl
 | cons a as ih =>
  intro items acc B B' T T' b rest i P s5 s6 s7 O hk hI hp a2 c4 hm hB a6 hT Z h hL hP hi hS;obtain⟨x,items,rfl⟩:∃x r,`ap=x::r:=by
   cases `ap with
   | nil=>cases O
   | cons x r=>exact⟨x,r,rfl⟩
  obtain⟨o,v⟩:=a;obtain⟨J,c5⟩:=hI _ A6;have a0:=h90 J c5;have c6:=hk _ A6;obtain⟨T1,b1,b2,B2,T2,b3,hv,hr,hb,i1,a4,e1,c0,h0,a7,Y⟩:∃T1 b1 b2 B2 T2 b3,Pk ps B T1 [v] B2 T2 b2/\Pk ps B2 T2 `aam B' T' b3/\b=`ay7/\∃i1,i1=`ay0/\i1<=`er/\(`ayV)/\(`ayW)/\T1.Nodup/\∀s∈T1,`eq:=by
   cases o with
   | none =>
    rw[`jb] at h;obtain⟨B1,T1,b1,b2,h1,h2,e⟩:=`Gl (show Pk ps B T (`ay8) B' T' b from h);exact⟨T,[],b1,B1,T1,b2,h1,h2,e,i,rfl,hi,`Uw,λ_=>`gP,hT,Z⟩
   | some s =>
    rw[`jb] at h;obtain⟨B1,T1,b1,b2,h1,h2,e⟩:=`Gl (show Pk ps B T (`bK::`ay8) B' T' b from h);obtain⟨rfl,rfl,rfl⟩:=Pk.str_inv h1;obtain⟨B2,T2,b3,b4,h3,h4,e'⟩:=`Gl h2;subst e';subst e;have a5:=hp _ A6 s rfl;have hn:=ro0 (P:=P) (ps:=ps) (B:=B1) hi (by rw[hS,`aN]) (W.pn s a5) (B5 (`S' hT Z) W.pl);obtain⟨t1,t2⟩:=h1.told `mK (λj s hs=>by
     by_cases hj:`ep
     ·exact `Ux
     ·rw[`cm,`Uy] at hs
      cases hs) hT Z (λt ht=>by
     have:=`Uz;injection this with this
     rw[`C];exact a5)
    refine⟨_,_,b3,B2,T2,b4,h3,h4,rfl,_,rfl,?_,λt ht=>?_,`du,t1,t2⟩
    ·have:=`ay9
     rw[`ey,`W,`W] at this;omega
    ·cases ht
     refine⟨`j4,hn⟩;rw[`awr,`Pz] at a2;exact a2.2.2 s (`BU ⟨`g_,z,rfl⟩) s (`BU ⟨`g_,by rw[`L];exact A6,rfl⟩) rfl
  subst hb;have c1:∃M,L=B2++M:=by
   obtain⟨N,e⟩:=hr.pre;obtain⟨M,e'⟩:=hL;exact⟨N++M,by rw[e',e,`aN]⟩
  have a1:`tV i1=b2++`ay':=by
   rw[a4,← `aN];exact w50 (by rw[hS];simp only[`aN])
  have a8:=hf B B2 T1 T2 v b2 `ay' i1 P hm hB a6 a7 Y J a0 hv c1 hP e1 a1;have a3:=Um0 (p:=p) (kd:=kd) (sz:=sz) (c:=c) (a:=.sh x) (b:=s6) (d:=s7) c6 c0 h0 a8 (Z20 J a0 _) `i;obtain⟨N2,U⟩:=hv.pre;have hl2:(`ay!).length=B2.length:=by
   rw[`W,`U,`ey,hP,U,`W];omega
  have c2:=hv.nodup hB;have a9:=hv.range W.wb a6 (λd hd=>by rw[`kE];exact J);obtain⟨t3,t4⟩:=hv.told `mK (λj s hs=>by
     by_cases hj:`ep
     ·exact `Ux
     ·rw[`cm,`Uy] at hs
      cases hs) a7 Y (λt ht=>`I (`Uz).symm (a0 t))
  have b0:`Gm<=`er:=by
   have:=B8 `ia a1;rw[`ey,`W] at this;omega
  obtain⟨u5,u6,u7,hu⟩:=ih `ap `UA B2 B' T2 T' b3 `ax (`Gm) _ `UB `ps `ay? (by simpa using O) (λa ha=>hk a (A5 _ ha)) (λa ha=>hI a (A5 _ ha)) (λa ha=>hp a (A5 _ ha))
   (by rw[`b0,`aN];exact a2) (by rw[`W,`dw];rw[`aH] at c4;omega) (by rw[U,`W];omega) c2 a9 t3 t4 hr hL hl2 b0 (w50 a1)
  refine⟨u5,u6,u7,?_⟩;have st:wz0 `c1 `wO (x::`ap) `ay6=wz0 `c1 `wO `ap (s8 p S (`Gm) (`ay!) T2 kd sz c `UA `UB `ps `ay?):=by
   conv=>lhs;unfold wz0
   show (match LB f (s8 p S i P T kd sz c acc `UB s6 s7) with|`a (`K_ δ2)=>wz0 `c1 `wO `ap δ2|r=>r)=_;rw[a3]
  obtain⟨N3,c3⟩:=hr.pre;have e4:B'.drop `cj=`aan++B'.drop B2.length:=by
   rw[c3,U];simp
  have ei:`Gm+b3.length=i+(`ay7).length:=by
   rw[a4,`W,`W];omega
  have ea:acc++((o,v)::as).map (`A4)=`UA++`Gk:=by
   rw[`L,`aN];rfl
  rw[st,hu,ei,ea,e4,`b0,`aN P]
universe zz
noncomputable def TL(f:`az):GSB:=(t8 (j4 (Q9 4 `mn))
 (t8 (gj0 `JB `c1 `wO)
 (t8 (ifB `T8
 (t8 `T9
 `v)
 `v)
 (t8 (ifB `T'
 (t8 `T!
 `v)
 `v)
 (t8 `T?
 `v)))))
noncomputable def n60(kd:Nat)(c:Str)(as:`jh):D:=if kd=1 then `B [`kq,`B (`ma `cv)] else if kd=2 then `B [`h9,`aza] else `B [`kr,`dS,`aza]
theorem Wc0(f:`az){p:`e}{S:`u}{i:Nat}{P:`f}{T:`g}{kd:Nat}{sz:Sl}{c:Str}{acc:`jh}{a b d:Sl}(ha:`wM)(ht:∀x∈acc,`ei x.2=`b) :
  (t8 (ifB `T8
 (t8 `T9
 `v)
 `v)
 (t8 (ifB `T'
 (t8 `T!
 `v)
 `v)
 (t8 `T?
 `v))) `ji=`a (.rt (n60 kd c acc) `ji):=by
 have t2:zz0 `_Z `ji=`a (`UC):=uv0 rfl (show `Ur from zf0 λx hx=>by
  obtain⟨y,hy,rfl⟩:=`vD;show `kb [oD y.1,y.2]=`b;refine zf0 λz hz=>?_
  rcases `be hz with rfl|hz
  ·rcases y with⟨_|t,v⟩<;>rfl
  ·rw[`e3 hz];exact ht y hy)
 have t1:zz0 `_Y `ji=`a (`azb):=uv0 (by
  rw[b7 (ds:=[`ayQ]) (`am (T70 ha) rfl)];rfl) (show `Ur from zf0 λx hx=>by
  obtain⟨y,hy,rfl⟩:=`vD;exact ht y hy)
 unfold n60
 by_cases h1:kd=1
 ·rw[`Cg]
  refine Z2 (v50 (by rw[`azc,k_is 1,`bm h1]) `lc);refine ys0 (ds:=[`kq,`azb]) ?_ `vZ;exact `am rfl (`am t1 rfl)
 ·rw[`Ch]
  refine o6 (O2 (by rw[`azc,k_is 1,`bi h1])) ?_
  by_cases h2:kd=2
  ·rw[`H h2]
   refine Z2 (v50 (by rw[`azd,k_is 2,`bm h2]) `lc);refine ys0 (ds:=[`h9,`UC]) ?_ `vZ;exact `aze
  ·rw[`ad h2]
   refine o6 (O2 (by rw[`azd,k_is 2,`bi h2])) `lc;refine ys0 (ds:=[`kr,`dS,`UC]) ?_ (by show 3<=`P;decide);exact `am rfl (`aze)
theorem kq0{d:D}(h:It n d)(π:`fv):`ei `FM=`b:=by
 rcases h with⟨s,rfl,_⟩|rfl|⟨z,rfl,_⟩|⟨j,rfl,_⟩<;>rfl
section
variable{S:`u}{f:`az}
theorem ni0(W:`je)(hf:`Uu)(p:`e)(kd:Nat)(c:Str)(as:`jh)(B B':`j)(T T':`g)(b rest:`u)(i:Nat)(P:`f)(s4 s5 s6 s7:Sl)(hk:∀a∈as,`ay1)(hI:∀a∈as,`ay2)(hp:∀a∈as,`ay3)(hnd:((`ma `bj).filterMap id).Nodup)(hal:`fO<=20)
  (hm:`wD) (hB:`hu) (hBr:∀j∈B,`ep) (hT:`wA) (hTp:∀s∈T,`eq) (h:`ay4) (hL:`Uv) (hP:`Gi) (hi:`qT) (hS:`ay5) :
  ∃δ',TL f [`iu,.sh (`A0),`aao,`Us,s4,s5,s6,s7]=`a (.rt (n60 kd c (`Gk)) δ')/\`S0=`a (lb p S `F8 `Gj T'):=by
 obtain⟨u5,u6,u7,hu⟩:=loop W hf p kd `Ln c as `azf [] B B' T T' b `ax i P s5 s6 s7 (`am5) hk hI hp (by rw[`e2,`dB];exact hnd) (by rw[`dP];omega) hm hB hBr hT hTp h hL hP hi hS;rw[`dB] at hu;refine⟨s8 p S `F8 `Gj T' kd `Ln c (`Gk) u5 u6 u7,?_,rfl⟩
 ·unfold TL
  refine o6 (δ':=`aap) `g0 (o6 ?_ (Wc0 f `eo (λx hx=>by
   obtain⟨a,ha,rfl⟩:=`vD;exact kq0 (hI a ha).1 _)))
  show `fw (`azg) _=_;have e:`azg=`a `azf:=uw0 (n:=`Lm) rfl `i `i;rw[e];exact hu
theorem Wx0{s:Str}{v:D}(hs:`wm)(h:It n v)(hv:∀t,v≠`s t)(π:`fv):nrf (`B `Lp)=`b:=by
 have h1:=(dn0 h π).2;have h2:`azh=`b:=by
  have ne:s ≠"@" := λz=>by
   obtain⟨_,_,hc⟩:=oa0 hs;rw[z] at hc;exact `I (hc 64 `t) `t
  cases e:`Lo with
  | int z=>show (if s = "@" then `a z.toNat else `c).isNone=`b;rw[`ad ne];rfl
  | _=>rfl
 show (`azh&&xv0 `Lp)=`b;rw[h2,`UD];show (nrf `dR&&(nrf (`Lo)&&`b))=`b;rw[h1];rfl
theorem kc0(W:`je){p:Pt}(hp:p∈ps)(π:`fv):nrf (`At).d=`b:=by
 have ok:=W.ok p hp;have hI:∀v∈`e?,`azi:=λv hv=>⟨`azj,`Lq⟩
 have J:∀qs:`bo,(∀q∈qs,`kv q.1=`b)->(∀q∈qs,It `ar q.2/\Bw.Vb q.2)->nrf (`B ((`UE).map pr))=`b:=λqs h1 h2=>by
  show ((O7 _).isNone&&xv0 _)=`b;have e1:(O7 ((`UE).map pr)).isNone=`b:=by
   cases qs with
   | nil=>rfl
   | cons q r=>cases r<;>rfl
  rw[e1,`UD];refine tr0 `Tk
  rw[`bD] at hd;obtain⟨q,hq,rfl⟩:=`c7;exact Wx0 (h1 q hq) (h2 q hq).1 (h90 (h2 q hq).1 (h2 q hq).2) π
 have zs:∀qs:`bo,`aas=`UE:=Km.t80 `im
 cases p with
 | text w=>rfl
 | row vs =>
  show ((O7 [`kq,`UF]).isNone&&(nrf (`kq)&&(nrf (`UF)&&`b)))=`b;have e2:nrf (`UF)=`b:=by
   show (`azk&&xv0 _)=`b;have:`azk=`b:=by
    cases vs with
    | nil=>rfl
    | cons v r =>
     obtain⟨h1,h2⟩:=hI v A6;rcases h1 with⟨s,rfl,_⟩|rfl|⟨z,rfl,_⟩|⟨j,rfl,_⟩
     ·cases h2
     ·rfl
     ·rfl
     ·rfl
   rw[`C,`UD];refine tr0 `Tk
   obtain⟨v,hv,rfl⟩:=`c7;exact(dn0 (hI v hv).1 π).2
  rw[e2];rfl
 | table qs =>
  show ((O7 [`h9,`Ls]).isNone&&(nrf (`h9)&&`azl))=`b;rw[zs,`azm];rfl
 | rcd c qs =>
  show ((O7 [`kr,`dS,`Ls]).isNone&&(nrf `YK&&(nrf `A3&&`azl)))=`b;rw[zs,`azm];rfl
universe zz
theorem d80(vs:`f):(`aat).flatMap itm=vs:=by
 induction vs with
 | nil=>rfl
 | cons v vs ih=>rw[`L,`jb,ih];rfl
theorem mj0(qs:`bo):(`aau).flatMap itm=`wH:=by
 induction qs with
 | nil=>rfl
 | cons v vs ih=>rw[`L,`jb,`jb,ih];rfl
theorem bl0(vs:`f):(`aay `bj).filterMap id=[]:=by
 induction vs with
 | nil=>rfl
 | cons v vs ih=>rw[`L,`L];exact ih
theorem ku0(qs:`bo):(`aav `bj).filterMap id=`tL:=by
 induction qs with
 | nil=>rfl
 | cons v vs ih=>rw[`L,`L,`L,← ih];rfl
section
variable{S:`u}{f:`az}
theorem n90(W:`je)(hf:`Uu)(pt:Pt)(hpt:pt∈ps)(B B':`j)(T T':`g)(b rest:`u)(i:Nat)(P:`f)
  (hm:`wD) (hB:`hu) (hBr:∀j∈B,`ep) (hT:`wA) (hTp:∀s∈T,`eq) (h:Pk ps B T (its pt) B' T' b) (hL:`Uv) (hP:`Gi) (hi:`qT) (hS:`cS=tx pt++(b++`ax)) :
  mkB 3 y60 0 (J5 f) `mH [`d (kn pt:Int),`d (cnt pt:Int)]=`a ((rel `c2 pt).d,bk S (i+(tx pt).length+`JU) `Gj T'):=by
 have ok:=W.ok pt hpt;have hI:∀v∈pt.vals,`azi:=λv hv=>⟨`aar (`azn) (W.wb.lk pt hpt v hv),`azn⟩
 have zs:∀qs:`bo,`aaw=`e! λq=>(q.1,lkv `c2 q.2):=Km.t80 `pi
 have J:∀qs:`bo,`aaA=`aaB:=λqs=>by
  rw[zs,`bD,`bD,`bD];rfl
 have Y:∀(j:Nat) (s:Str),`avQ:=λj s hs=>by
  by_cases hj:`ep
  ·exact `Ux
  ·rw[`cm,`Uy] at hs
   cases hs
 refine `F'
 cases pt with
 | text w =>
  cases h;obtain⟨w1,w2⟩:=oy0 ok;have hw:=j20 (P:=P) (T:=T) hi hS w2 (by rw[← show `FN from i3];exact w1);have Z:`Tc=`dg:=by unfold sg;rw[`U];exact i3
  refine⟨[`K7,.sh (`Tr),`pm,.un,.un,.un,.un,.un],?_,?_⟩
  ·refine Z2 (v50 rfl (Z2 (V1 ?_)))
   unfold p30;show `fw (`a (`em `zv)) _=_;rw[`k,`H (show `cP (`zw)=`b from rfl),X8 (p:=p) (b:=`tU) (ds:=[`pl]) rfl rfl hw];rfl
  ·show `a (`K7)=`a (lb p S (i+`Tc+0) (P++`azo _) T)
   rw[Z,`na,`e2,`bc,`azp]
 | row vs =>
  have hl:`Sl:=ok.1;obtain⟨δ',t1,t2⟩:=ni0 W hf p 1 "a" (`e6 λv=>`Lt) B B' T T' b `ax i P .un .un .un .un (λa ha=>by
   obtain⟨v,_,rfl⟩:=`jj;rfl) (λa ha=>by
   obtain⟨v,hv,rfl⟩:=`jj;exact hI v hv) (λa ha s e=>by
   obtain⟨v,hv,rfl⟩:=`jj;cases e) (by rw[bl0];exact `J) `eo hm hB hBr hT hTp (by rw[d80];exact h) hL hP hi hS
  refine`azq;refine `azr;rw[`U] at t1;refine `UG;have e:n60 1 "a" `azs=(rel `c2 (`i!)).d:=by
   show `dx [`kq,`B ((`azs).map `cv)]=`dx [`kq,`B (`e6 `pi)];rw[`bD,`bD];rfl
  rw[e]
 | table qs =>
  have pk:PsOk qs:=ok;have hl:=pk.len;obtain⟨δ',t1,t2⟩:=ni0 W hf p 2 "a" (`e! λq=>`Lu) B B' T T' b `ax i P .un .un .un .un (λa ha=>by
   obtain⟨v,_,rfl⟩:=`jj;rfl) (λa ha=>by
   obtain⟨v,hv,rfl⟩:=`jj;exact `azt) (λa ha s e=>by
   obtain⟨v,hv,rfl⟩:=`jj;cases e;exact `azu) `azv `eo hm hB hBr hT hTp (by rw[mj0];exact h) hL hP hi hS
  refine`azq;refine `azr;rw[`U] at t1;refine `UG;have e:n60 2 "a" (`Lv)=(rel `c2 `awM).d:=by
   show `dx [`h9,`azw]=`dx [`h9,`azx];rw[J]
  rw[e]
 | rcd c qs =>
  have pk:PsOk qs:=ok.2;have hl:=pk.len;have hc:c∈`aI:=`mK _ hpt c (by unfold Pt.all Pt.cls;exact C8 _ A6);obtain⟨B1,T1,b1,b2,h1,h2,e⟩:=`Gl (show Pk ps B T (`dS::`wH) B' T' b from h);obtain⟨rfl,rfl,rfl⟩:=Pk.str_inv h1;subst e;have O:`cS=`Gn++(b2++`ax):=by rw[hS];show[]++_=_;rw[`dB,`aN]
  have hn:=ro0 (P:=P) (ps:=ps) (B:=B1) hi O (W.pn c hc) (B5 (`S' hT hTp) W.pl);obtain⟨t3,t4⟩:=h1.told `mK Y hT hTp (λt ht=>by
   have:=`Uz;injection this with this
   rw[`C];exact hc)
  have U:i+(`Gn).length<=`er:=by
   have:=B8 `ia O;rw[`ey,`W] at this;omega
  obtain⟨δ',t1,t2⟩:=ni0 W hf p 3 c (`e! λq=>`Lu) B1 B' _ T' b2 `ax _ P .un .un .un .un (λa ha=>by
   obtain⟨v,_,rfl⟩:=`jj;rfl) (λa ha=>by
   obtain⟨v,hv,rfl⟩:=`jj;exact `azt) (λa ha s e=>by
   obtain⟨v,hv,rfl⟩:=`jj;cases e;exact `azu) `azv `eo hm hB hBr t3 t4 (by rw[mj0];exact h2) hL hP U (w50 O)
  refine⟨δ',?_,?_⟩
  ·refine o6 `aax (o6 `g0 (o6 (δ':=[lb p S (i+(`Gn).length) P (nT T `A3),.sh (`d ((3:Nat):Int)),.sh (`d (`TS:Int)),`Us,.un,.un,.un,.un]) `qR ?_))
   ·rw[N6 rfl]
    exact t6 (P0 (X8 (p:=p) (b:=`tU) rfl rfl hn) rfl) rfl
   ·rw[`U] at t1
    refine `UG;have e:n60 3 c (`Lv)=(rel `c2 (`h? c qs)).d:=by
     show `dx [`kr,`dS,`azw]=`dx [`kr,`dS,`azx];rw[J]
    rw[e]
  ·rw[t2]
   show `a (lb p S _ _ T')=`a (lb p S (i+0+(`Gn++b2).length) _ T');rw[`W,`azp,`F9]
universe zz
theorem aw0(P:`f)(v:D)(N:`f):((P++[`wJ])++N).set `c3 v=P++v::N:=by
 rw[`aN,List.set_append_right _ _ `a_,`Ri];rfl
theorem step{S:`u}(W:`je){g:`az}(hg:∀m',m=m'+1->∃f,g=mkB 3 y60 0 (J5 f)/\VOk ps `aI L S m' f):VOk ps `aI L S m (mkB 1 U8 0 (W5 g)):=by
 intro B B1 T T1 d b1 rest i P hm hB a4 hT a8 hI hs h hL hP hi hS;have a9:`avv:=by
  have:=`mD hB (m:=`ir) λy hy=>`en (a4 y hy)
  rwa [S0] at this
 have b0:=W.wb.len.2;have J:`azo `t2=[]:=by rw[`na,`e2]
 cases h with
 | str h=>exact `I rfl (hs _)
 | val hd h =>
  cases h;rw[`bc] at hS ⊢;rw[J,`bc];rcases hd with rfl|⟨z,rfl⟩
  ·exact Vz0 (hS:`ayz) g
  ·have hz:`ws:=by
    rcases hI with⟨s,e,_⟩|e|⟨z',e,hz⟩|⟨j,e,_⟩
    ·cases e
    ·cases e
    ·cases e;exact hz
    ·cases e
   exact T00 hz (hS:`ayA) g
 | @old _ _ j _ _ _ _ hj h =>
  cases h;rw[`bc] at hS ⊢;rw[J,`bc,`wE];have b3:=Km.tw0 hj;have e1:`jd=bs (4*(`tB)+2):=by rw[Km.gp0,`wB]
  rw[e1] at hS ⊢;have:=U00 (P:=P) (T:=T) (k:=`tB) `i `i hS g;rw[`C,hP,show `Ko - (`tB)=`tA by omega];obtain⟨M,rfl⟩:=hL;rw[V00 hj]
 | @new _ _ j _ B2 _ T2 _ bb b2 hj h1 h2 =>
  cases h2;rw[`bc] at hS ⊢;have a3:`ep:=sq0 hI;have a1:=vg0 hB hj;have Z:∀k∈`ik,`FG:=λk hk=>by
   rcases `d5 hk with z|z
   ·exact a4 k z
   ·rw[`jc];exact a3
  have b4:`cj<`ar:=by
   have:=`mD a1 (m:=`ir) λy hy=>`en (Z y hy)
   rw[`qD,`W,`dw] at this;omega
  obtain⟨m',rfl⟩:∃k,m=k+1:=⟨m - 1,`F⟩;obtain⟨f,rfl,hf⟩:=hg m' rfl;have U:`Ts:=(`mA a3).2;obtain⟨pt,Y⟩:∃pt,pt=`ij:=`ag;have e1:`jd=`azy++tx pt:=by rw[Km.gp0,`wC,← Y]
  rw[← Y] at U h1;rw[e1,`aN,`aN] at hS;have a2:=w50 hS;obtain⟨i1,a0⟩:∃k,k=i+(`azy).length:=`ag;rw[← a0] at a2;have a6:i1<=`er:=by
   have:=`ay9;rw[`ey,`W] at this;omega
  have O:=n90 W hf pt U `il B1 T T1 bb `ax i1 `qX `vY a1 Z hT a8 h1 hL (by rw[`W,`W,hP];rfl) a6 a2;have a5:=(`KF pt U).cnt;have a7:=Ur0 pt;rw[a0] at O;have hv:=Ui0 (P:=P) a5 a7 `i hS _ O (by rw[`W,`W,`dw];omega) (kc0 W U _);rw[hv,aw0];obtain⟨N,eN⟩:=h1.pre;have e2:B1.drop `cj=j::N:=`azz
  have e3:B1.drop `avy=N:=`azz
  obtain⟨M,eM⟩:=hL;have e4:`FR=`cj:=by
   rw[eM,eN,`aN,`aN];exact Wt0 hj
  rw[e2,e3,`L,`wE,e4,hP,e1];have e5:full ps `c2 j=(rel `c2 pt).d:=by unfold full;rw[← Y]
  rw[e5];congr 3;simp only[`W];omega
theorem S30{S:`u}(W:`je):∀(m q:Nat),2*m+1<=q->VOk ps `aI L S m (mR2 q).1:=by
 intro m
 induction m with
 | zero =>
  intro q hq B B1 T T1 d b1 rest i P hm hB M hT J hI hs h hL hP hi hS;obtain⟨q,rfl⟩:∃k,q=k+1:=`UH;exact step W (λq' e=>`I e `i) B B1 T T1 d b1 `ax i P hm hB M hT J hI hs h hL hP hi hS
 | succ m ih =>
  intro q hq B B1 T T1 d b1 rest i P hm hB M hT J hI hs h hL hP hi hS;obtain⟨q,rfl⟩:∃k,q=k+1:=`UH;exact step W (λm' e=>by
   cases e;obtain⟨q',rfl⟩:∃k,q=k+1:=`UH;exact⟨_,rfl,ih q' `i⟩) B B1 T T1 d b1 `ax i P hm hB M hT J hI hs h hL hP hi hS
noncomputable def By(l:`u):Prop:=∀x∈l,0<=x/\x<256
theorem By.app{a b:`u}(ha:By a)(hb:By b):By `te:=λx hx=>(`k7).elim (ha x) (hb x)
theorem Vw0:∀r:Nat,By (hi r):=by
 intro r
 induction r using Nat.strongRecOn with
 | _ r ih =>
  by_cases z:r=0
  ·subst z;rw[Bw.gz0];exact λx hx=>by cases hx
  ·rw[`Ue]
   refine(`at9).app `iW
   rw[`Py];omega
theorem rp0(n:Nat):By (bs n):=by
 unfold bs;refine(Vw0 _).app `iW
 rw[`Py];omega
theorem aq0{s:Str}(h:∀c∈`asl,`wG):By (sg s):=λx hx=>by
 unfold sg at hx;obtain⟨c,hc,rfl⟩:=`vD;have:∀c∈zy0,c<256:=`aq
 have:=`C c (h c hc);omega
theorem ll0(W:`je){n:Nat}(B:`j)(T:`g){d:D}(hs:`azA)(hI:`f4):By (`mz):=by
 rcases hI with⟨s,rfl,_⟩|rfl|⟨z,rfl,_⟩|⟨j,rfl,hj⟩
 ·show By (`wv)
  split
  ·exact `A5
  ·exact`azB (aq0 λc hc=>A5 _ ((oa0 (W.pn s (hs s rfl))).2.2 c hc))
 ·exact rp0 0
 ·exact `A5
 ·have:`jd=_:=Km.gp0 ps B T j
  show By (`jd);rw[`C];split
  ·exact `A5
  ·refine`azB ?_
   have J:`Ts:=`Lk;have ok:=W.ok _ J;cases e:`ij with
   | text w=>rw[e] at ok;exact aq0 (oy0 ok).2
   | row vs=>exact λx hx=>by cases hx
   | table qs=>exact λx hx=>by cases hx
   | rcd c qs=>exact λx hx=>by cases hx
theorem Tc0(W:`je){B B':`j}{T:`g}{ds:`f}{b:`u}(h:`gn):(∀d∈ds,`f4/\`azA)->By b:=by
 induction h with
 | nil=>exact λ_ x hx=>by cases hx
 | str _ ih=>exact `UI
 | val _ _ ih=>exact `UI
 | old _ _ ih=>exact `UI
 | new hj _ _ i1 i2 =>
  intro hd;have J:=sq0 (`Az).1;refine`aaC (.app (i1 λd h=>⟨W.wb.its `pf d h,λs e=>un0 W `pf s (e▸h)⟩) (i2 `aaD))
theorem Xv0{gt:GTX}{Ga Gb:GS}{δ:Ds}(h:`dt=`a (`n,δ')):nn0 gt Ga Gb δ=Gb δ':=by unfold nn0;rw[h];rfl
theorem ar0{gb:GE}{f:`aZ}{δ:Ds}{d y r:D}(h1:`E3)(h2:gb δ'=`dm)(h3:f d y=`dK):p40 gx gb f δ=`SV:=by
 unfold p40;rw[h1,`k,h2,`k,h3];rfl
noncomputable def CB:GS:=(v6 (ifD `axZ
 (v6 `nw
 v9)
 v9)
 v9)
theorem ip0(a b c d e:Sl):∀(l:`u) (s:Sl),By l->`apt->∃s',p20 s'=`b/\J3 `c0 CB `AH [a,b,c,s,d,e]=`a (.nx [a,b,c,s',d,e])
 | [],s,_,hs=>⟨s,hs,rfl⟩
 | x::l,s,hb,hs=>by
  have hx:=hb x A6;obtain⟨s',h1,h2⟩:=ip0 a b c d e l (`tE) (λy hy=>hb y (A5 _ hy)) rfl;refine⟨s',h1,?_⟩;have ec:CB `Go=`a (.nx `Go):=by
   refine t6 (Y5 (`Gb (`Gb ?_))) rfl;have:ob `_2 `Go=`cW:=Z9 (by
    show (if `D (`f2<=x)=`b then `a (`cC (`D (x<256))) else `p4)=_;rw[`H (D7 hx.1),`bm hx.2])
   unfold yy0;rw[`C];rfl
  rw[`L]
  conv=>lhs;unfold J3
  show (match CB `Go with|`cA=>`azC|`u6=>`azC|`u7=>`cA|r=>r)=_;rw[ec];exact h2
theorem i20{gA:GA}{f:`az}{δ:Ds}{r:D}{ds:`f}(h:`bw=`apV)(hA:`iY)(hf:`aaE=`sZ):`asT:=by
 unfold Y4;rw[h];show (`ge λds=>`azD `asV)=_;rw[hA];show `azD _=_;rw[hf];rfl
theorem b90(ns:`u)(hl:`jT<=63):`azE:=by
 have zs:`au?:=`aq
 obtain⟨ps,O,h1,a1,b0,a3,J⟩:=Bt.Va0 ns `i 0 `i;have J:Bt.M5 `aaF=`a `tC:=J;have D1:Dw ps O:=⟨⟨h1,a1⟩,`F,a3⟩;have W:=D1.wf;obtain⟨pool,Y⟩:∃pool,`aI=O.filter `ayJ:=`ag
 rw[← Y] at W;obtain⟨L,T,b1,h,hp,hn,hL,hc,N,hN⟩:=bn0 W.wb;have a7:∀k∈L,∀i∈K22.tgs `avK,i∈L:=λk hk i hi=>by
  rw[← ii0] at hi;obtain⟨v,hv,e⟩:=L4.mp hi;obtain⟨_,w2⟩:=`mA `FH;have hI:=W.wb.its w2 v hv;rcases hI with⟨s,rfl,_⟩|rfl|⟨z,rfl,_⟩|⟨j,rfl,_⟩
  ·cases e
  ·cases e
  ·cases e
  ·simp only[`bW] at e
   cases e;exact hc k hk i hv
 have a0:`avJ:=by
  have:=`awT
  rw[`qD] at this;have:=W.wb.len;exact⟨by rw[hN];simp,`F⟩
 have wl:=Km.Zn0 W.wb a0 hL a7;have a9:=br0 W.wb hn hL hc (js0 W.wb h);obtain⟨M,a5⟩:=Km.Zh0 W.wb;have h0:It `ar `KD:=`l (`l (`l ⟨0,rfl,W.wb.len.1⟩));have hP:`TM:=`TN;rw[`bc,← hp] at hP;obtain⟨l,el⟩:∃l,l=`av4:=`ag;rw[← el] at hP M a5;have M:xl0 `tO=`azF:=M;have a8:By l:=Tc0 W hP λd hd=>by
  rw[`kE];exact⟨h0,λs e=>nomatch e⟩
 have U:=S30 (L:=L) (S:=l) W 60 124 `i [] L [] T `KD l [] 0 [] `mV `J (λj z=>nomatch z) `J `Uw h0 `Uw hP ⟨[],`wN⟩ rfl `u0 (`RC);have a2:ix L 0=0:=by rw[hN];rfl
 rw[`wE,a2,`ip,`dP,List.drop_zero,`dB] at U;have sw:=ej0 W.wb;have sl:=ej0 wl;have eL:`azG=`qO:=by
  show _=`awZ;rw[`bD];rfl
 have tw:`UJ=`b:=by
  show `kb `z3=`b;exact zf0 λd hd=>by
   obtain⟨p,hp,rfl⟩:=`c7;exact Y70 λv hv=>kq0 (n:=`ar) (`azj) id |> λz=>by
    cases `Lq<;>rfl
 obtain⟨s3,a4,Z⟩:=ip0 .un (`a7) (`t4) .un .un l .un a8 rfl;have fl:=Km.o60 l;refine O1 rfl ?_;refine t6 (δ':=[`ky,`a7,.un,.un,.un,.un]) (X7 `azH) ?_;refine t6 (δ':=[`ky,`a7,`pu,.un,.un,.un]) (by
  show `gk _ (oA `gR xl0 _)=_;rw[`FX,M];rfl) ?_
 refine t6 (Y5 ((xq0 (show yy0 `axY _=`aJ from rfl)).trans (`jf))) ?_
 ·rw[p6 (x:=`ii) (y:=`ii) rfl `azH]
  haveI:`eD (`ii=`ii):=`Gp
  rw[sw.ne sw,`qU];rfl
 refine t6 (δ':=`aaH) rfl ?_;have a6:(v6 (v6 (w40 (z40 `aj) `c0 CB)
 (v6 `ax_
 (v6 (nn0 `ax0
 (v6 `nw
 v9)
 v9)
 (v6 (ifD `ax1
 (v6 `nw
 v9)
 v9)
 v9)))) (p00 [4])) [.un,`a7,`t4,.un,.un,.un]=`a (.nx `aaI):=by
  refine t6 (δ':=`Gq) ?_ rfl;refine t6 (v60 (items:=`tu) rfl Z) ?_;refine t6 (δ':=`UK) ?_ ?_
  ·show (if ((`Ub:`cZ).Nodup/\(`Ub:`cZ).length<=15)/\nrQ [`azF,`a (`el),`c,`c]=`b then `a (`pt `UK) else `c)=_
   rw[`H ⟨⟨`af,`aq⟩,rfl⟩]
  refine t6 (δ':=`Gq) ?_ ?_
  ·refine Xv0 ?_
   unfold orT pw0;have e1:p40 `_3 `JQ xh0 `UK=`a (`xd,`Gq):=ar0 (i20 (ds:=[]) rfl rfl U) (y:=`B [`fX,`el]) rfl rfl;rw[e1];show `fw (`a (`n,_)) _=_;rw[`k,`hb];unfold DL.liftT;have e2:ob `_4 `Gq=`aJ:=Z9 (by
    rw[p6 (x:=`azI) (y:=`azI) rfl (by
     show `a (`bl ((`Kq).length:Int))=_;rw[`U])]
    haveI:`eD (`azJ=`azJ):=`Gp
    rw[(`azK).ne (`azK),`qU];rfl)
   rw[e2];rfl
  refine t6 (Y5 (`jf)) rfl;rw[p6 (x:=`qO) (y:=`qO) (by
   show (if xv0 `Lw=`b then `a (`azG) else `c)=_;rw[`H (tr0 λd hd=>by
    obtain⟨k,hk,rfl⟩:=`c7;exact kc0 W (`mA `FH).2 _),eL]) (by rw[`FX];exact a9)]
  haveI:`eD (`qO=`qO):=`Gp
  rw[sl.ne sl,`qU];rfl
 refine t6 (δ':=[.un,`a7,`pu,s3,.un,.un]) ?_ ?_
 ·have r1:`azL:=by
   show (`b&&(`UJ&&(`b&&(`b&&`azM))))=`b;rw[tw];rfl
  have r2:`azN:=by
   show (`b&&(`UJ&&(`b&&(p20 s3&&`azM))))=`b;rw[tw,a4];rfl
  show (if `Tu/\`azL then `fw _ _ else `c)=_;rw[`H ⟨fl,r1⟩];refine(B8 (λz=>`fw z (f00 2)) a6).trans ?_;show (if `Tu/\`azN then `ayY else `c)=_;rw[`H ⟨fl,r2⟩];rfl
 refine t6 (δ':=[.un,`a7,`pu,s3,.un,`pu]) (by
  show `gk _ (up0 `JL _)=_;rw[ic0 (ds:=`tu) rfl fl];rfl) ?_
 refine t6 (`wn (i:=2) (l:=`tu) (d:=`el) rfl rfl `eo) ?_;refine `ts;show o2 `Ua `fW u10 (frz [.un,`a7,.ow (`q (`tu++[`el])),s3,.un,`pu])=_;rw[p6 (x:=`KH) (y:=`KH) (by rw[`FX];exact M) rfl]
 haveI:`eD (`azO=`azO):=`Gp
 rw[(he0 l).eq (he0 l),`qU]
universe Nk
namespace Nk
open L2 DL Rk
open Bt (N8 U6 yv0 K1 xi0 W6 y80 N5 yj0 U3 xj0 G6 yc0 S8 wg0 M5)
noncomputable def top(i:Nat):`bp:=PySem.Challenge.pw_graphpack_k27_packs_read_by_hand.main.body.getD i (.Pass ⟨0,0,0,0⟩)
theorem b_bool:`d3 `qf=`a (`bh `qf):=`af
theorem b_int:`d3 `hd=`a (`bh `hd):=`af
theorem b_list:`Qz:=`af
theorem b_ord:`d3 `uC=`a (`fx `uC):=`af
theorem b_str:`d3 `hi=`a (`bh `hi):=`af
theorem b_tuple:`d3 `d1=`aw7:=`af
theorem b_zip:`arg:=`af
structure Txt(mg:`bq):Prop where
 b_bool:mg `qf=`c
 b_enumerate:mg `jO=`c
 b_int:mg `hd=`c
 b_isinstance:mg `qg=`c
 b_len:mg `oa=`c
 b_list:mg `c9=`c
 b_ord:mg `uC=`c
 b_range:mg `nK=`c
 b_reversed:mg `kc=`c
 b_str:mg `hi=`c
 b_tuple:mg `d1=`c
 b_zip:mg `eR=`c
 c_BASE:∃t,mg "BASE"=`a (`d 128 t)
section
variable{P:`ak}{w:`R}
theorem yh0:`aV `E_ `dT (t7 `qY):=`bb
theorem pu0(F:Fun K `iy `iy `qY fa fd)(T:`a')  : `ah P w K mg `r CX0 1 fa fd `dT (spN K Z4) :=
 okN (k:=0) (G:=G7) F yh0 (λJ A outer s H E hr=>(z9 (M3 1 (z90 (v7 (j6 `aQ `wP) u0)) yh0.nd)
   (z9 (Z1 (Z7 `aQ `wP) (p7 2 yh0.nd))
   (z9 (re0 100000 D2 (o7 ti0 vx0 `a8 w6)
   (z9 (T9 (wb0 1 (b8 `wP (j6 `a8 `wP))))
   (z9 (Z1 (Z7 `a8 `wP) (p7 2 yh0.nd))
   u9)))
   (z9 (fs0 (qr0 `kI `UL `aE))
   u9))))) `hv
theorem e20:`aV `dT `dT (t7 `qZ):=`bb
theorem d60(F:Fun K `jk `jk `qZ fa fd)(T:`a')  : `ah P w K mg `r CX0 1 fa fd `dT (spD K y20) :=
 okD (k:=0) (G:=wr0) F e20 (λJ A outer s H E hr=>(z9 (X4 (o7 tv0 u00 `aQ w6)
   (z9 (T5 (K7 (Q6 `A7 `aQ) w6))
   u9)
   u9)
   (z9 (T5 (Q6 w6 `aQ))
   u9))) `hw
theorem vh0:`aV `Sh `wQ (t7 `q_):=`bb
theorem X60(F:Fun K `jl `jl `q_ fa fd)(T:`a')(C_held_items:FnN P w K mg `r `jm 1 `bO S6)(C_is_new:`azP)(C_item_bytes:FnN P w K mg `r `jn 3 `wR O5):`ah P w K mg `r CX0 4 fa fd `wQ (spN K xl0) :=
 okN (k:=3) (G:=pf0) F vh0 (λJ A outer s H E hr=>(z9 (M3 1 `mM `wS)
   (z9 (M3 2 mk0 `wS)
   (z9 (M3 3 mk0 `wS)
   (z9 (M3 4 (z90 (v7 `azQ u0)) `wS)
   (z9 (re0 100000 D2 (o7 ti0 vx0 (pq0 `UM) w6)
   (z9 (U0 (e90 4) (yp0 (p7 5 `wS)))
   (z9 (T9 (kl0 1 (`Gr (kd0 (vl0 C_item_bytes hr `t (v7 `aQ (v7 `ix (v7 `a8 `lg))))))))
   (z9 (X4 (K9 (wk0 g30 b_str `pv T.b_str `ix))
   (z9 (T9 (Vm0 3 `ix (pq0 (xt0 uh0 rk0 `fd L8 `lg))))
   u9)
   (z9 (X4 (K9 (rr0 (wj0 C_is_new hr `t (v7 `ix `f5))))
   (z9 (U0 (d8 (pq0 (xt0 uh0 rk0 `fd L8 `f5))) (rn0 2 `es `azR))
   (z9 (T9 (kl0 4 (`Gr (qr0 `kI `UL (xn0 C_held_items hr `t (v7 (d9 `aQ `azR) u0))))))
   u9))
   u9)
   u9))
   u9))))
   (z9 `UN
   u9))))))) `hv
theorem eq0:`aV `di `di (t7 `q0):=`bb
theorem fw0(F:Fun K `iw `iw `q0 fa fd)(T:`a')  : `ah P w K mg `r CX0 1 fa fd `di (spD K O8) :=
 okD (k:=0) (G:=tf0) F eq0 (λJ A outer s H E hr=>(z9 (T5 (Xe0 `aaJ (Wu0 (Zj0 `es `mL `aE))))
   u9)) `hw
theorem s00:`aV `R! `wR (t7 `q1):=`bb
theorem mp0(F:Fun K `jn `jn `q1 fa fd)(T:`a')(C_is_new:`azP)(C_known_head:FnD P w K mg `r `jo 2 `di O9)(C_name_bytes:FnN P w K mg `r `jp 2 `la z00)(C_number_bytes:`azS)(C_part_number:FnD P w K mg `r `jq 1 `bO Q0)(C_text_bytes:FnN P w K mg `r `jr 2 `bO O3):`ah P w K mg `r CX0 3 fa fd `wR (spN K O5) :=
 okN (k:=2) (G:=wa0) F s00 (λJ A outer s H E hr=>(z9 (X4 (K9 (wk0 g30 b_str `pv T.b_str `aE))
   (z9 (O4 (vl0 C_name_bytes hr `t (v7 `aE `lg)))
   u9)
   u9)
   (z9 (X4 (K9 (wj0 C_is_new hr `t (v7 `aE `f5)))
   (z9 (Z1 (d9 `aQ (d9 `aE w6)) (p7 4 s00.nd))
   (z9 (O4 (ng0 (xn0 `Gs hr `t (v7 (b8 (Q6 w6 (wj0 C_part_number hr `t `t6)) w6) u0)) (xn0 C_text_bytes hr `t `t6)))
   u9))
   u9)
   (z9 (O4 (vl0 `Gs hr `t (v7 (wj0 C_known_head hr `t (v7 `aE `f5)) u0)))
   u9)))) `hv
theorem ms0:`aV `la `la (t7 `q2):=`bb
theorem l70(F:Fun K `jp `jp `q2 fa fd)(T:`a')(C_number_bytes:`azS)(C_sign_bytes:`azT):`ah P w K mg `r CX0 2 fa fd `la (spN K z00) :=
 okN (k:=1) (G:=wn0) F ms0 (λJ A outer s H E hr=>(z9 (X4 (Ye0 `es `aQ `aE)
   (z9 (O4 (vl0 `Gs hr `t (v7 (Q6 w6 (K7 `azU (ik0 `es `aE `aQ))) u0)))
   u9)
   u9)
   (z9 (O4 (ng0 (xn0 `Gs hr `t (v7 (b8 (Q6 w6 (zs0 `fd `q3)) w6) u0)) (xn0 `azV hr `t `q3)))
   u9))) `hv
theorem mm0:`aV `g3 `g3 (t7 `nx):=`bb
theorem l80(F:Fun K `iz `iz `nx fa fd)(T:`a')  : `ah P w K mg `r CX0 1 fa fd `g3 (spN K V3) :=
 okN (k:=0) (G:=zo0) F mm0 (λJ A outer s H E hr=>(z9 (O4 (ls0 (sc:=t7 `nx) (N:=`g3) (N':=["sign"]) (n:=1) (caps:=[]) `g5 `t (i90 `aQ) (λcl s H ex=>p7 0 (`af:(["sign"]:`g).Nodup)) `mP (λcl s H ex=>(xt0 kr0 fu0 T.b_ord b_ord `q3))))
   u9)) `hv
theorem n00:`aV `bO `bO (t7 `q4):=`bb
theorem ob0(F:Fun K `jq `jq `q4 fa fd)(T:`a')(K_KINDS:`azW):`ah P w K mg `r CX0 1 fa fd `bO (spD K Q0) :=
 okD (k:=0) (G:=za0) F n00 (λJ A outer s H E hr=>(z9 (T5 (b8 (Q6 w6 (zs0 `fd (v7 `aaK u0))) (X30 K_KINDS `UO)))
   u9)) `hw
theorem mx0:`aV `bO `bO (t7 `q5):=`bb
theorem mo0(F:Fun K `jr `jr `q5 fa fd)(T:`a')(C_sign_bytes:`azT):`ah P w K mg `r CX0 2 fa fd `bO (spN K O3) :=
 okN (k:=1) (G:=zp0) F mx0 (λJ A outer s H E hr=>(z9 (X4 `q6
   (z9 (O4 (vl0 `azV hr `t `UO))
   u9)
   u9)
   (z9 `UP
   u9))) `hv
theorem mv0:`aV `di `di (t7 `q7):=`bb
theorem mr0(F:Fun K `jo `jo `q7 fa fd)(T:`a')(C_folded:FnD P w K mg `r `jk 1 `dT y20):`ah P w K mg `r CX0 2 fa fd `di (spD K O9) :=
 okD (k:=1) (G:=wc0) F mv0 (λJ A outer s H E hr=>(z9 (X4 (o7 us0 vj0 `aQ z10)
   (z9 (T5 w6)
   u9)
   u9)
   (z9 (X4 `UQ
   (z9 (T5 (b8 (Q6 w6 (K7 `azU (ik0 `es `aE `mL))) w6))
   u9)
   u9)
   (z9 (T5 (b8 (Q6 w6 (wj0 C_folded hr `t `q3)) w6))
   u9)))) `hw
theorem vc0:`aV `EW `bO (t7 `q8):=`bb
theorem mz0(F:Fun K `jm `jm `q8 fa fd)(T:`a')  : `ah P w K mg `r CX0 1 fa fd `bO (spN K S6) :=
 okN (k:=0) (G:=zv0) F vc0 (λJ A outer s H E hr=>(z9 (X4 `q6
   (z9 `UP
   u9)
   u9)
   (z9 (X4 `q6
   (z9 `azX
   u9)
   u9)
   (z9 (M3 1 `mM vc0.nd)
   (z9 (X4 `q6
   (z9 (T9 (wb0 1 `mL))
   u9)
   u9)
   (z9 (wp0 D2 rfl `azY (p7 2 vc0.nd)
   (z9 (T9 (kl0 1 (G5 rh0 X40 `kI `t7 `f5)))
   u9))
   (z9 `UN
   u9))))))) `hv
theorem pl0:`aV `k? `k? (t7 `q9):=`bb
theorem pk0(F:Fun K `js `js `q9 fa fd)(T:`a')  : `ah P w K mg `r CX0 1 fa fd `k? (spD K U6) :=
 okD (k:=0) (G:=N8) F pl0 (λJ A outer s H E hr=>(z9 (X4 (o7 tv0 u00 `aE (zs0 `fd `q3))
   (z9 (T5 (d9 `aQ `aE))
   u9)
   u9)
   (z9 (T5 w6)
   u9))) `hw
theorem vn0:`aV `arD `aT (t7 `q'):=`bb
theorem lq0(F:Fun K `iB `iB `q' fa fd)(T:`a')  : `ah P w K mg `r CX0 1 fa fd `aT (spB K 0 W6) :=
 okB (k:=0) (G:=xi0) F vn0 (λJ A outer s H E hr=>(v8 (Z5 (Z1 `q! (p7 1 vn0.nd)))
   (v8 (Z5 (U0 (d8 `azZ) (dw0 0 `es o4)))
   (v8 (Z5 (Z1 `q! (p7 2 vn0.nd)))
   (v8 (T8 (o7 tv0 u00 `aE `Gt)
   (v8 (Z6 (d8 (j6 (d9 `a8 `aE) `az_)))
   o5)
   o5)
   (v8 (Z6 (d8 (j6 (Q6 (b8 (b8 (j6 (d9 `a8 (j6 `aE `Gt)) w6) (Q6 (Q6 w6 `aE) `aE)) w6) w6) w6)))
   o5)))))) `jt
theorem S7:`aV `arw `wT (t7 `q?):=`bb
theorem l00(F:Fun K `ju `ju `q? fa fd)(T:`a')  : `ah P w K mg `r CX0 1 fa fd `wT (spN K K1) :=
 okN (k:=0) (G:=yv0) F S7 (λJ A outer s H E hr=>(z9 (Z1 o4 (p7 2 `mN))
   (z9 (Z1 o4 `az0)
   (z9 (wp0 D2 rfl (yw0 `ra `t5) (p7 4 `mN)
   (z9 (Z1 (b8 `bX (d9 `a8 (j6 (Z7 `aQ (b8 (Q6 `fc `fc) w6)) w6))) `az0)
   u9))
   (z9 (Z1 `aaL (p7 5 `mN))
   (z9 (M3 6 `mM `mN)
   (z9 (wp0 D2 rfl (yw0 `ra `iA) (p7 7 `mN)
   (z9 (Z1 (d9 `a8 (j6 (b8 `aQ `rb) w6)) `az1)
   (z9 (Z1 (b8 `Gu (d9 `a8 (j6 (b8 `Lx (Z7 `rb w6)) w6))) `az1)
   (z9 (X4 `Gv
   (z9 (T9 (wb0 6 (b8 (w80 `bX vp0 (xx0 `ix)) `Gu)))
   u9)
   (z9 (X4 `Gv
   (z9 (T9 (wb0 6 (b8 (w80 `bX vp0 (xx0 (j6 `rb w6))) `Gu)))
   u9)
   (z9 (T9 (wb0 6 (w80 `Gu vp0 (xx0 (b8 w6 (G5 et0 W70 T.b_int b_int (v7 (kk0 ti0 vx0 `rb w6) u0)))))))
   u9))
   u9))
   u9))))
   (z9 (tc0 6)
   u9)))))))) `hv
theorem oq0:`aV `nm `nm (t7 `rc):=`bb
theorem nl0(F:Fun K `jv `jv `rc fa fd)(T:`a')  : `ah P w K mg `r CX0 1 fa fd `nm (spD K N5) :=
 okD (k:=0) (G:=y80) F oq0 (λJ A outer s H E hr=>(z9 (X4 (K9 `aE)
   (z9 (T5 (b8 (K7 (j6 `aQ `az2) `A8) w6))
   u9)
   u9)
   (z9 (X4 `Gv
   (z9 `az3
   u9)
   u9)
   (z9 (X4 `Gv
   (z9 `az3
   u9)
   u9)
   (z9 (T5 (b8 (K7 (j6 `Lx `az2) `A8) w6))
   u9))))) `hw
theorem s40:`aV `arF `aT (t7 `rd):=`bb
theorem l60(F:Fun K `jw `jw `rd fa fd)(T:`a')(C__law_next:`UR)(C__law_number:FnD P w K mg `r `jv 1 `nm N5):`ah P w K mg `r CX0 2 fa fd `aT (spB K 0 U3) :=
 okB (k:=1) (G:=yj0) F s40 (λJ A outer s H E hr=>(v8 (Z5 (U0 `US (yp0 (p7 1 s40.nd))))
   (v8 (T8 `go
   (v8 `ny
   o5)
   o5)
   (v8 (T8 (o7 tv0 u00 `aaM w6)
   (v8 (Z6 (d8 (wj0 C__law_number hr `t (v7 `iD (v7 `q! u0)))))
   o5)
   o5)
   (v8 (Z6 (d8 (J7 (v7 o4 (v7 (j6 `iD `q!) u0)))))
   o5))))) `jt
theorem u90:`aV `RQ `g4 (t7 `nz):=`bb
theorem jl0(F:Fun K `jx `jx `nz fa fd)(T:`a')(C__law_next:`UR):`ah P w K mg `r CX0 2 fa fd `g4 (spB K 0 G6) :=
 okB (k:=1) (G:=xj0) F u90 (λJ A outer s H E hr=>(v8 (Z5 (Z1 o4 (p7 2 u90.nd)))
   (v8 (Z5 (U0 `US (yp0 (p7 3 u90.nd))))
   (v8 (Z6 (d8 (Yh0 o4 (v7 (rl0 (sc:=t7 `nz) (N:=`RQ) (N':=`az4) (n:=1) (caps:=[2,3]) `g5 `t (yw0 `ra `iA) (λcl s H ex=>p7 0 (`af:(`az4:`g).Nodup)) `mP (λcl s H ex=>(d9 `aE (j6 (b8 (Z7 `a8 (b8 `aQ w6)) (Q6 `aQ `aQ)) w6)))) u0))))
   o5)))) `jt
theorem K6:`aV `ER `aT (`Gw):=`bb
theorem kb0(F:Fun K `jy `jy `t9 fa fd)(T:`a')(C__law_next:`UR)(C__law_value:FnB P w K mg `r `jw 2 `aT 0 U3)(C__law_word:FnB P w K mg `r `jx 2 `g4 0 G6):`ah P w K mg `r CX0 3 fa fd `aT (spB K 0 S8) :=
 okB (k:=2) (G:=yc0) F K6 (λJ A outer s H E hr=>(v8 (Z5 (U0 `US (yp0 (p7 1 `pw))))
   (v8 (Z5 (Z1 `t' `az5))
   (v8 (Z5 (X4 (qa0 (K9 `q!))
   (z9 (Z1 (d9 (o10 (v7 `t' (v7 `t' `az6))) `t') `az5)
   u9)
   u9))
   (v8 (T8 `go
   (v8 (Z6 (d70 o4 (Q3 0 C__law_word `iC hr `t (pab 0 `az6))))
   o5)
   o5)
   (v8 (Z5 (du0 0 0 3 rfl `pw (sc:=`Gw) (N:=`ER) (N':=`Ly) (n:=1) (caps:=[0]) `g5 `t (yw0 `ra `f5) `az7 (λcl s H ex=>(Q3 1 C__law_value `iC hr `t `az8))))
   (v8 (T8 `go
   (v8 (Z6 (d8 (J7 (v7 o4 (v7 (G5 S9 wf0 `g2 `g1 `lg) u0)))))
   o5)
   o5)
   (v8 (Z5 (Z1 `q! (p7 4 `pw)))
   (v8 (Z5 (Z1 (b8 w6 (j6 `iD (K7 `UM w6))) (p7 5 `pw)))
   (v8 (Z5 (Z1 (G5 S9 wf0 `g2 `g1 (v7 (rl0 (sc:=`Gw) (N:=`ER) (N':=`az9) (n:=2) (caps:=[1,4,5]) `g5 `t (c90 T.b_enumerate `lg) (λcl s H ex=>ja0 0 1 (`af:(`az9:`g).Nodup) `t) `mP (λcl s H ex=>(J7 (v7 (d9 `bX (j6 (b8 `t? (Q6 `aQ `fc)) (zs0 `fd `lg))) `iA)))) u0)) (p7 6 `pw)))
   (v8 (T8 `go
   (v8 (Z6 (d8 (J7 (v7 o4 `az'))))
   o5)
   o5)
   (v8 (Z6 (d8 (J7 (v7 o4 (v7 (d9 `fc (j6 `iD `UM)) `az')))))
   o5)))))))))))) `jt
theorem uq0:`aV `RS `wU (t7 `nA):=`bb
theorem i00(F:Fun K `jz `jz `nA fa fd)(T:`a')(C__law_cell_at:FnD P w K mg `r `js 1 `k? U6)(C__law_names:FnN P w K mg `r `ju 1 `wT K1)(C__law_part:FnB P w K mg `r `jy 3 `aT 0 S8):`ah P w K mg `r CX0 4 fa fd `wU (spD K M5) :=
 okD (k:=3) (G:=wg0) F uq0 (λJ A outer s H E hr=>(z9 (Z1 (wj0 C__law_cell_at hr `t (v7 `aQ `iA)) (p7 2 uq0.nd))
   (z9 (M3 3 (fg0 (qu0 o4 w6 (qu0 o4 (b8 (w80 `aQ (xx0 `azZ) vp0) (o10 `f5)) (qu0 o4 (kk0 V6 Y9 `UT w6) X00)))) uq0.nd)
   (z9 (U0 (d8 (b8 w6 `UU)) `UV)
   (z9 (X4 (K9 (yu0 3 `es o4))
   (z9 (U0 (d8 (b8 w6 `UT)) `UV)
   u9)
   u9)
   (z9 (U0 (d8 (xn0 C__law_names hr `t (v7 (j6 `t? `az_) (v7 (d9 (o10 (v7 w6 `t5)) `UT) u0)))) `UV)
   (z9 (be0 (fe0 S9 wf0 `g2 `g1 (Za0 3 0 rfl (sc:=t7 `nA) (N:=`RS) (N':=`Ly) (n:=1) (caps:=[3]) `g5 `t (yw0 `ra (v7 (yu0 3 `es o4) u0)) `az7 (λcl s H ex=>(Q3 1 C__law_part `iC hr `t `az8)))))
   u9))))))) `hw
theorem nh0:`aV `kJ `kJ (t7 `nB):=`bb
theorem oi0(F:Fun K `iE `iE `nB fa fd)(T:`a')  : `ah P w K mg `r CX0 1 fa fd `kJ (spN K V2) :=
 okN (k:=0) (G:=tz0) F nh0 (λJ A outer s H E hr=>(z9 (X4 `q6
   (z9 `UP
   u9)
   u9)
   (z9 (X4 `q6
   (z9 `azX
   u9)
   u9)
   (z9 (O4 (ls0 (sc:=t7 `nB) (N:=`kJ) (N':=`az!) (n:=2) (caps:=[]) `g5 `t `azY (λcl s H ex=>ja0 0 1 (`af:(`az!:`g).Nodup) `t) `mP (λcl s H ex=>`aE)))
   u9)))) `hv
theorem M4:`aV `RT `hx (t7 `nC):=`bb
theorem qy0(F:Fun K `jA `jA `nC fa fd)(T:`a')(C__law_values:`az?):`ah P w K mg `r CX0 2 fa fd `hx (spN K J1) :=
 okN (k:=1) (G:=ug0) F M4 (λJ A outer s H E hr=>(z9 (M3 1 `mM `wV)
   (z9 (M3 2 (z90 `t5) `wV)
   (z9 (re0 100000 D2 (ow0 (o7 `wW uu0 `a8 (o10 u0)))
   (z9 (U0 (e90 2) (yp0 (p7 3 `wV)))
   (z9 (X4 (ow0 (o7 lr0 (sk0 `b) `bX `aE))
   (z9 (T9 (wb0 1 `bX))
   (z9 (qs0 4 `wV (sc:=t7 `nC) (N:=`RT) (N':=[`oX]) (n:=1) (caps:=[]) `g5 `t (w00 (xn0 `aAa hr `t (v7 (d9 `aQ `bX) u0))) (λcl s H ex=>p7 0 (`af:([`oX]:`g).Nodup)) (λcl s H ex=>(Z60 `UQ)) `LC)
   (z9 (bf0 2 (M3 2 (ng0 `a8 (`Gr (qr0 `kI `UL `fc))) `wV))
   u9)))
   u9)
   u9)))
   (z9 `UN
   u9))))) `hv
theorem i10:`aV `i' `i' (t7 `re):=`bb
theorem ju0(F:Fun K `jB `jB `re fa fd)(T:`a')  : `ah P w K mg `r CX0 1 fa fd `i' (spD K yx0) :=
 okD (k:=0) (G:=py0) F i10 (λJ A outer s H E hr=>(z9 (X4 `UQ
   (z9 (T5 (J7 (v7 o4 (v7 (Zb0 `aE `UO) u0))))
   u9)
   u9)
   (z9 (T5 `aQ)
   u9))) `hw
theorem R9:`aV `EU `hx (`Gx):=`bb
theorem l50(F:Fun K `jC `jC `ua fa fd)(T:`a')(C__law_led:FnD P w K mg `r `jB 1 `i' yx0)(C__law_numbered:FnN P w K mg `r `jA 2 `hx J1)(C__law_values:`az?):`ah P w K mg `r CX0 3 fa fd `hx (spD K zu0) :=
 okD (k:=2) (G:=sw0) F R9 (λJ A outer s H E hr=>(z9 (Z1 (xn0 C__law_numbered hr `t `q3) (p7 1 `px))
   (z9 (M3 2 `mM `px)
   (z9 (wp0 D2 rfl (w00 `aE) (p7 3 `px)
   (z9 (Z1 (d9 `aQ `bX) `UW)
   (z9 (qs0 5 `px (sc:=`Gx) (N:=`EU) (N':=`i') (n:=1) (caps:=[1]) `g5 `t (w00 (xn0 `aAa hr `t `t6)) (λcl s H ex=>p7 0 (`af:(`i':`g).Nodup)) `mP (λcl s H ex=>(wj0 C__law_led hr `t (v7 `aQ `iA))))
   (z9 (X4 (o7 V6 Y9 `aAb o4)
   (z9 (Z1 (J7 (v7 o4 (v7 (G5 S9 wf0 `g2 `g1 `UX) u0))) `UW)
   u9)
   (z9 (X4 (o7 al0 fj0 `aAb o4)
   (z9 (qs0 6 `px (sc:=`Gx) (N:=`EU) (N':=`Lz) (n:=1) (caps:=[]) `g5 `t (oh0 (d9 `fc `A7)) `aaO `mP `LC)
   (z9 (Z1 (b8 (w80 `fc vp0 (xx0 `A7)) (J7 (v7 (G5 S9 wf0 `g2 `g1 (v7 (`Gr (eg0 `kI T.b_zip `t7 b_zip (v7 `t! `UX))) u0)) u0))) `UW)
   u9))
   u9)
   u9))
   (z9 (T9 (wb0 2 `fc))
   u9)))))
   (z9 (kh0 (G5 S9 wf0 `g2 `g1 `f5))
   u9))))) `hw
theorem G9:`aV `axv `aT (t7 `rf):=`bb
theorem ot0(F:Fun K `iF `iF `rf fa fd)(T:`a')  : `ah P w K mg `r CX0 1 fa fd `aT (spB K 0 J2) :=
 okB (k:=0) (G:=s20) F G9 (λJ A outer s H E hr=>(v8 (Z5 (Z1 w6 (p7 1 G9.nd)))
   (v8 `aAc
   (v8 (ec0 100000 D2 (o7 tv0 u00 `jD (zs0 `fd (v7 `jD u0)))
   (v8 (Z5 (Z1 (d9 `jD `jD) (p7 3 G9.nd)))
   (v8 (Z5 (U0 (d8 (b8 `jD w6)) `aAd))
   (v8 (T8 (`eG (vf0 (K9 `a8) (wu0 (o7 V6 Y9 `bX w6))))
   (v8 `ny
   o5)
   o5)
   (v8 `aAc
   (v8 (Z5 (Z1 (b8 (Q6 `aE w6) (j6 `bX w6)) (p7 1 G9.nd)))
   (v8 (T8 (o7 tv0 u00 `bX w6)
   (v8 (Z6 (d8 `aE))
   o5)
   o5)
   o5)))))))
   (v8 `ny
   o5))))) `jt
theorem z80:`aV `axA `g4 (t7 `rg):=`bb
theorem mu0(F:Fun K `iG `iG `rg fa fd)(T:`a')  : `ah P w K mg `r CX0 1 fa fd `g4 (spB K 0 z60) :=
 okB (k:=0) (G:=rf0) F z80 (λJ A outer s H E hr=>(v8 (Z5 (Z1 o4 (p7 2 `A')))
   (v8 (Z5 (Z1 o4 `aAe))
   (v8 (Z5 (wp0 D2 rfl (w00 (w80 `jD (xx0 `jD) (xx0 (b8 `jD `aE)))) (p7 4 `A')
   (z9 (wp0 D2 rfl (i90 `a8) (p7 5 `A')
   (z9 (X4 (o7 V6 Y9 (xt0 kr0 fu0 T.b_ord b_ord `UX) `fc)
   (z9 (Z1 (b8 `bX `ix) `aAe)
   u9)
   u9)
   u9))
   u9)))
   (v8 (Z5 (U0 (d8 (b8 `jD `aE)) `aAd))
   (v8 (T8 (o7 al0 fj0 (zs0 `fd `lg) `aE)
   (v8 `ny
   o5)
   o5)
   (v8 (Z6 (d8 `bX))
   o5))))))) `jt
theorem xg0:`aV `axH `aT (t7 `rh):=`bb
theorem qj0(F:Fun K `jE `jE `rh fa fd)(T:`a')(C__law_digits:`aAf)(C__law_signs:`aAg):`ah P w K mg `r CX0 2 fa fd `aT (spB K 0 V9) :=
 okB (k:=1) (G:=ub0) F xg0 (λJ A outer s H E hr=>(v8 (Z5 (U0 (Q3 0 `aAh `iC hr `t `t8) (yp0 (p7 1 xg0.nd))))
   (v8 (T8 (`eG (yl0 `aAi (wt0 (`eG (vf0 `go (wu0 (o7 af0 db0 `iD `UY)))))))
   (v8 `ny
   o5)
   o5)
   (v8 (T8 `go
   (v8 (Z6 (d8 (wd0 (Ut0 `mO (K7 (K7 `UY w6) `iD)) fun δ d h=>Xg0 h)))
   o5)
   o5)
   (v8 (Z5 (U0 (Q3 0 `aAj `iC hr `t (pab 0 (v7 `iD u0))) (yp0 (p7 2 xg0.nd))))
   (v8 (T8 (`eG (yl0 (o7 us0 vj0 `a8 z10) (yl0 (o7 V6 Y9 `a8 o4) (yl0 (Zm0 `a8 `mO) (yl0 (o7 fm0 Wf0 o4 `a8) (wt0 (o7 ti0 vx0 `Gt w6)))))))
   (v8 `ny
   o5)
   o5)
   (v8 (Z5 (T9 (is0 `mO `a8)))
   (v8 (Z6 (d8 `a8))
   o5)))))))) `jt
theorem ze0:`aV `axR `aT (t7 `py):=`bb
theorem sm0(F:Fun K `f6 `f6 `py fa fd)(T:`a')(mp:`az)(kk:Nat)(hkk:2<=kk)(C__law_told_part:FnB P w K mg `r `g6 kk `pA 0 mp)(C__law_digits:`aAf):`ah P w K mg `r CX0 (kk+1) fa fd `aT (spB K 0 (mkB 1 U8 0 (W5 mp))) :=
 okB (k:=kk) (G:=W5 mp) F ze0 (λJ A outer s H E hr=>(v8 (Z5 (U0 (Q3 0 `aAh `iC hr `aAk `t8) (yp0 (p7 1 ze0.nd))))
   (v8 (T8 (`eG (yl0 `aAi (wt0 (`eG (vf0 `go (wu0 `UZ))))))
   (v8 `Gy
   o5)
   o5)
   (v8 (T8 `wX
   (v8 `ny
   o5)
   o5)
   (v8 (Z5 (Z1 `iD (p7 2 ze0.nd)))
   (v8 (T8 (`eG (vf0 `go (wu0 (o7 V6 Y9 `UU w6))))
   (v8 (Z6 (d8 (K7 w6 (Z7 (b8 `a8 w6) w6))))
   o5)
   o5)
   (v8 (T8 `go
   (v8 (Z6 (d8 `t?))
   o5)
   o5)
   (v8 (Z5 (Z1 `UY (p7 3 ze0.nd)))
   (v8 (T8 (`eG (vf0 `go (wu0 (o7 af0 db0 `a8 `bX))))
   (v8 `Gy
   o5)
   o5)
   (v8 (T8 `go
   (v8 (Z6 (d8 (J7 (v7 o4 (v7 (K7 (K7 `bX w6) `a8) u0)))))
   o5)
   o5)
   (v8 (Z5 (T9 (is0 `mO z10)))
   (v8 (Z5 (U0 (Q3 0 C__law_told_part `U_ hr `a_ (pab 0 (v7 `UU (v7 `t? u0)))) (fq0 `mO `bX)))
   (v8 (Z6 (d8 (J7 (v7 o4 `lg))))
   o5))))))))))))) `jt
theorem U7:`aV `LB `pA (`LA):=`bb
theorem qi0(F:Fun K `g6 `g6 `ub fa fd)(T:`a')(mp:`az)(kk:Nat)(hkk:2<=kk)(C__law_told_value:FnB P w K mg `r `f6 kk `aT 0 mp)(C__law_signs:`aAg)(C__law_told_name:FnB P w K mg `r `jE 2 `aT 0 V9):`ah P w K mg `r CX0 (kk+1) fa fd `pA (spB K 0 (mkB 3 y60 0 (J5 mp))) :=
 okB (k:=kk) (G:=J5 mp) F U7 (λJ A outer s H E hr=>(v8 (T8 `wX
   (v8 (Z6 (d70 o4 (Q3 0 `aAj `iC hr `aAk (pab 0 `f5))))
   o5)
   o5)
   (v8 (Z5 (Z1 o4 `aAl))
   (v8 (Z5 (X4 `wX
   (z9 (U0 `aAm (yp0 `aAl))
   u9)
   u9))
   (v8 (Z5 (M3 4 `mM `uc))
   (v8 (Y10 D2 rfl (yw0 `ra `f5) (p7 5 `uc)
   (v8 (Z5 (Z1 z10 `aAn))
   (v8 (Z5 (X4 `UZ
   (z9 (U0 `aAm (yp0 `aAn))
   u9)
   u9))
   (v8 (T8 (`eG (yl0 (`eG (vf0 `UZ (wu0 (`eG (yl0 (o7 us0 vj0 `t! z10) (wt0 (ow0 (o7 mg0 (sk0 `n) `t! `aAo)))))))) (wt0 (o7 us0 vj0 `bX z10))))
   (v8 `Gy
   o5)
   o5)
   (v8 (Z5 (U0 (Q3 0 `aAp `U_ hr `a_ `t8) (yp0 (p7 7 `uc))))
   (v8 (T8 (o7 (e80 `A9) h50 `rb o4)
   (v8 `Gy
   o5)
   o5)
   (v8 (Z5 (T9 (wb0 4 (J7 (v7 `t! (v7 `rb u0))))))
   o5)))))))
   (v8 (T8 `wX
   (v8 (Z6 (d8 (J7 (v7 o4 (v7 (rr0 (G5 S9 wf0 `g2 `g1 (v7 `aAo u0))) u0)))))
   o5)
   o5)
   (v8 (T8 `wX
   (v8 (Z6 (d8 (J7 (v7 o4 `aAq))))
   o5)
   o5)
   (v8 (Z6 (d8 (J7 (v7 o4 (v7 `bX `aAq)))))
   o5))))))))) `jt
theorem t40:`aV `ax2 [`kn] (t7 `pz):=`bb
theorem Xz0(F:Fun K `kK `kK `pz fa fd)(T:`a')(C__law_drawn:FnD P w K mg `r `jC 3 `hx zu0)(C__law_told_value:FnB P w K mg `r `f6 126 `aT 0 R6)(C__law_web:FnD P w K mg `r `jz 4 `wU M5)(C_pack:FnN P w K mg `r `jl 4 `wQ xl0):`ah P w K mg `r CX0 127 fa fd [`kn] `aAr :=
 okD (k:=126) (G:=aa0) F t40 (λJ A outer s H E hr=>(z9 (Z1 `aAs (p7 1 `wY))
   (z9 (M3 2 (vl0 C_pack hr `t `iA) `wY)
   (z9 (X4 (`eG (yl0 (qa0 (K9 (pq0 (wk0 cx0 `t7 `pv `kI `a8)))) (wt0 (o7 `wW uu0 `aE `aAs))))
   (z9 `Gz
   u9)
   u9)
   (bk0 [0] (gt0 2 [4] (z9 (wp0 D2 rfl (w00 `a8) (p7 3 `wY)
   (z9 (X4 (`eG (yl0 (qa0 (K9 (wk0 Y80 b_int `pv T.b_int `bX))) (yl0 (K9 (wk0 c50 b_bool `pv T.b_bool `bX)) (wt0 (qa0 (do0 Vs0 Vg0 tv0 u00 w6 `bX w6))))))
   (z9 `Gz
   u9)
   u9)
   u9))
   (z9 (cf0 4 `wY (jh0 o4 `a8 (jh0 o4 w6 (hh0 o4 (hh0 o4 Z40)))))
   (z9 (ay0 (PWX.pt (W50 (b70 `wW uu0 (Q3 4 `aAp `U_ hr `t (pab 4 u0)) `azQ) (av0 (Wk0 (o7 `wW uu0 (wd0 `aAt `aaN) `Gt)))))
   (z9 `Gz
   u9)
   u9)
   (z9 (X4 (o7 `wW uu0 (Zs0 `g2 `g1 `aAt) (wj0 C__law_drawn hr `t `iA))
   (z9 `Gz
   u9)
   u9)
   u9))))
   (z9 (M3 5 (kd0 (qq0 `kI `t7 `a8)) `wY)
   (z9 (T9 (wb0 2 w6))
   (z9 (kh0 (kk0 (e80 `A9) h50 (xn0 C_pack hr `t `iA) `ix))
   u9))))))))) `hw
universe zz
theorem us1:∀{us:`a5},`kM=1->∃a,us=[a]
 | [a],_=>⟨a,rfl⟩
theorem us2:∀{us:`a5},`kM=2->∃a b,us=`yF
 | `yF,_=>⟨a,b,rfl⟩
theorem us3:∀{us:`a5},`kM=3->∃a b c,us=[a,b,c]
 | [a,b,c],_=>⟨a,b,c,rfl⟩
theorem us4:∀{us:`a5},`kM=4->∃a b c d,us=[a,b,c,d]
 | [a,b,c,d],_=>⟨a,b,c,d,rfl⟩
theorem all_mk{l:`N7}{w:`R}{h:`Q}(X:K.In h)(G:`N8)(hfa:mg `kK=`xL)
  {f0 f1 f2 f3 f4 f5 f6 f7 f8 f9 f10 f11 f12 f13 f14 f15 f16 f17 f18 f19 f20 f21 f22 f23 f24 f25 f26 f27 f28:`e}
  {od0 an0 od1 an1 od2 an2 od3 an3 od4 an4 od5 an5 od6 an6 od7 an7 od8 an8 od9 an9 od10 an10 od11 an11 od12 an12 od13 an13 od14 an14 od15 an15 od16 an16 od17 an17 od18 an18 od19 an19 od20 an20 od21 an21 od22 an22 od23 an23 od24 an24 od25 an25 od26 an26 od27 an27 od28 an28:`fe} {sl0 sl1 sl2 sl3 sl4 sl5 sl6 sl7 sl8 sl9 sl10 sl11 sl12 sl13 sl14 sl15 sl16 sl17 sl18 sl19 sl20 sl21 sl22 sl23 sl24 sl25 sl26 sl27 sl28:`mX} {oc0 kV0 dc0 pm0 cd0 ct0 oc1 kV1 dc1 pm1 cd1 ct1 oc2 kV2 dc2 pm2 cd2 ct2 oc3 kV3 dc3 pm3 cd3 ct3 oc4 kV4 dc4 pm4 cd4 ct4 oc5 kV5 dc5 pm5 cd5 ct5 oc6 kV6 dc6 pm6 cd6 ct6 oc7 kV7 dc7 pm7 cd7 ct7 oc8 kV8 dc8 pm8 cd8 ct8 oc9 kV9 dc9 pm9 cd9 ct9 oc10 kV10 dc10 pm10 cd10 ct10 oc11 kV11 dc11 pm11 cd11 ct11 oc12 kV12 dc12 pm12 cd12 ct12 oc13 kV13 dc13 pm13 cd13 ct13 oc14 kV14 dc14 pm14 cd14 ct14 oc15 kV15 dc15 pm15 cd15 ct15 oc16 kV16 dc16 pm16 cd16 ct16 oc17 kV17 dc17 pm17 cd17 ct17 oc18 kV18 dc18 pm18 cd18 ct18 oc19 kV19 dc19 pm19 cd19 ct19 oc20 kV20 dc20 pm20 cd20 ct20 oc21 kV21 dc21 pm21 cd21 ct21 oc22 kV22 dc22 pm22 cd22 ct22 oc23 kV23 dc23 pm23 cd23 ct23 oc24 kV24 dc24 pm24 cd24 ct24 oc25 kV25 dc25 pm25 cd25 ct25 oc26 kV26 dc26 pm26 cd26 ct26 oc27 kV27 dc27 pm27 cd27 ct27 oc28 kV28 dc28 pm28 cd28 ct28:`E}
  {t_BASE:Tok}
  (a0:`ai K `aa `iy=`a (`a (`x f0))) (l0:`aC f0=`a ⟨oc0,od0,`aL (`aW `iy `iy (Z0 `qY) (g8 `qY) (t7 `qY) `Z kV0 dc0 pm0 an0 cd0 ct0),sl0⟩) (c0:`a0 K cd0 `iy=`b) (k0:`aP K (`x f0)=`b)
  (a1:`ai K `aa `jk=`a (`a (`x f1))) (l1:`aC f1=`a ⟨oc1,od1,`aL (`aW `jk `jk (Z0 `qZ) (g8 `qZ) (t7 `qZ) `Z kV1 dc1 pm1 an1 cd1 ct1),sl1⟩) (c1:`a0 K cd1 `jk=`b) (k1:`aP K (`x f1)=`b)
  (a2:`ai K `aa `jl=`a (`a (`x f2))) (l2:`aC f2=`a ⟨oc2,od2,`aL (`aW `jl `jl (Z0 `q_) (g8 `q_) (t7 `q_) `Z kV2 dc2 pm2 an2 cd2 ct2),sl2⟩) (c2:`a0 K cd2 `jl=`b) (k2:`aP K (`x f2)=`b)
  (a3:`ai K `aa `iw=`a (`a (`x f3))) (l3:`aC f3=`a ⟨oc3,od3,`aL (`aW `iw `iw (Z0 `q0) (g8 `q0) (t7 `q0) `Z kV3 dc3 pm3 an3 cd3 ct3),sl3⟩) (c3:`a0 K cd3 `iw=`b) (k3:`aP K (`x f3)=`b)
  (a4:`ai K `aa `jn=`a (`a (`x f4))) (l4:`aC f4=`a ⟨oc4,od4,`aL (`aW `jn `jn (Z0 `q1) (g8 `q1) (t7 `q1) `Z kV4 dc4 pm4 an4 cd4 ct4),sl4⟩) (c4:`a0 K cd4 `jn=`b) (k4:`aP K (`x f4)=`b)
  (a5:`ai K `aa `jp=`a (`a (`x f5))) (l5:`aC f5=`a ⟨oc5,od5,`aL (`aW `jp `jp (Z0 `q2) (g8 `q2) (t7 `q2) `Z kV5 dc5 pm5 an5 cd5 ct5),sl5⟩) (c5:`a0 K cd5 `jp=`b) (k5:`aP K (`x f5)=`b)
  (a6:`ai K `aa `iz=`a (`a (`x f6))) (l6:`aC f6=`a ⟨oc6,od6,`aL (`aW `iz `iz (Z0 `nx) (g8 `nx) (t7 `nx) `Z kV6 dc6 pm6 an6 cd6 ct6),sl6⟩) (c6:`a0 K cd6 `iz=`b) (k6:`aP K (`x f6)=`b)
  (a7:`ai K `aa `jq=`a (`a (`x f7))) (l7:`aC f7=`a ⟨oc7,od7,`aL (`aW `jq `jq (Z0 `q4) (g8 `q4) (t7 `q4) `Z kV7 dc7 pm7 an7 cd7 ct7),sl7⟩) (c7:`a0 K cd7 `jq=`b) (k7:`aP K (`x f7)=`b)
  (a8:`ai K `aa `jr=`a (`a (`x f8))) (l8:`aC f8=`a ⟨oc8,od8,`aL (`aW `jr `jr (Z0 `q5) (g8 `q5) (t7 `q5) `Z kV8 dc8 pm8 an8 cd8 ct8),sl8⟩) (c8:`a0 K cd8 `jr=`b) (k8:`aP K (`x f8)=`b)
  (a9:`ai K `aa `jo=`a (`a (`x f9))) (l9:`aC f9=`a ⟨oc9,od9,`aL (`aW `jo `jo (Z0 `q7) (g8 `q7) (t7 `q7) `Z kV9 dc9 pm9 an9 cd9 ct9),sl9⟩) (c9:`a0 K cd9 `jo=`b) (k9:`aP K (`x f9)=`b)
  (a10:`ai K `aa `jm=`a (`a `aAu)) (l10:`aC f10=`a ⟨oc10,od10,`aL (`aW `jm `jm (Z0 `q8) (g8 `q8) (t7 `q8) `Z kV10 dc10 pm10 an10 cd10 ct10),sl10⟩) (c10:`a0 K cd10 `jm=`b) (k10:`aP K `aAu=`b)
  (a11:`ai K `aa `js=`a (`a `aAv)) (l11:`aC f11=`a ⟨oc11,od11,`aL (`aW `js `js (Z0 `q9) (g8 `q9) (t7 `q9) `Z kV11 dc11 pm11 an11 cd11 ct11),sl11⟩) (c11:`a0 K cd11 `js=`b) (k11:`aP K `aAv=`b)
  (a12:`ai K `aa `iB=`a (`a `aAw)) (l12:`aC f12=`a ⟨oc12,od12,`aL (`aW `iB `iB (Z0 `q') (g8 `q') (t7 `q') `Z kV12 dc12 pm12 an12 cd12 ct12),sl12⟩) (c12:`a0 K cd12 `iB=`b) (k12:`aP K `aAw=`b)
  (a13:`ai K `aa `ju=`a (`a `aAx)) (l13:`aC f13=`a ⟨oc13,od13,`aL (`aW `ju `ju (Z0 `q?) (g8 `q?) (t7 `q?) `Z kV13 dc13 pm13 an13 cd13 ct13),sl13⟩) (c13:`a0 K cd13 `ju=`b) (k13:`aP K `aAx=`b)
  (a14:`ai K `aa `jv=`a (`a `aAy)) (l14:`aC f14=`a ⟨oc14,od14,`aL (`aW `jv `jv (Z0 `rc) (g8 `rc) (t7 `rc) `Z kV14 dc14 pm14 an14 cd14 ct14),sl14⟩) (c14:`a0 K cd14 `jv=`b) (k14:`aP K `aAy=`b)
  (a15:`ai K `aa `jw=`a (`a `aAz)) (l15:`aC f15=`a ⟨oc15,od15,`aL (`aW `jw `jw (Z0 `rd) (g8 `rd) (t7 `rd) `Z kV15 dc15 pm15 an15 cd15 ct15),sl15⟩) (c15:`a0 K cd15 `jw=`b) (k15:`aP K `aAz=`b)
  (a16:`ai K `aa `jx=`a (`a `aAA)) (l16:`aC f16=`a ⟨oc16,od16,`aL (`aW `jx `jx (Z0 `nz) (g8 `nz) (t7 `nz) `Z kV16 dc16 pm16 an16 cd16 ct16),sl16⟩) (c16:`a0 K cd16 `jx=`b) (k16:`aP K `aAA=`b)
  (a17:`ai K `aa `jy=`a (`a `aAB)) (l17:`aC f17=`a ⟨oc17,od17,`aL (`aW `jy `jy (Z0 `t9) (g8 `t9) (`Gw) `Z kV17 dc17 pm17 an17 cd17 ct17),sl17⟩) (c17:`a0 K cd17 `jy=`b) (k17:`aP K `aAB=`b)
  (a18:`ai K `aa `jz=`a (`a `aAC)) (l18:`aC f18=`a ⟨oc18,od18,`aL (`aW `jz `jz (Z0 `nA) (g8 `nA) (t7 `nA) `Z kV18 dc18 pm18 an18 cd18 ct18),sl18⟩) (c18:`a0 K cd18 `jz=`b) (k18:`aP K `aAC=`b)
  (a19:`ai K `aa `iE=`a (`a `aAD)) (l19:`aC f19=`a ⟨oc19,od19,`aL (`aW `iE `iE (Z0 `nB) (g8 `nB) (t7 `nB) `Z kV19 dc19 pm19 an19 cd19 ct19),sl19⟩) (c19:`a0 K cd19 `iE=`b) (k19:`aP K `aAD=`b)
  (a20:`ai K `aa `jA=`a (`a `aAE)) (l20:`aC f20=`a ⟨oc20,od20,`aL (`aW `jA `jA (Z0 `nC) (g8 `nC) (t7 `nC) `Z kV20 dc20 pm20 an20 cd20 ct20),sl20⟩) (c20:`a0 K cd20 `jA=`b) (k20:`aP K `aAE=`b)
  (a21:`ai K `aa `jB=`a (`a `aAF)) (l21:`aC f21=`a ⟨oc21,od21,`aL (`aW `jB `jB (Z0 `re) (g8 `re) (t7 `re) `Z kV21 dc21 pm21 an21 cd21 ct21),sl21⟩) (c21:`a0 K cd21 `jB=`b) (k21:`aP K `aAF=`b)
  (a22:`ai K `aa `jC=`a (`a `aAG)) (l22:`aC f22=`a ⟨oc22,od22,`aL (`aW `jC `jC (Z0 `ua) (g8 `ua) (`Gx) `Z kV22 dc22 pm22 an22 cd22 ct22),sl22⟩) (c22:`a0 K cd22 `jC=`b) (k22:`aP K `aAG=`b)
  (a23:`ai K `aa `iF=`a (`a `aAH)) (l23:`aC f23=`a ⟨oc23,od23,`aL (`aW `iF `iF (Z0 `rf) (g8 `rf) (t7 `rf) `Z kV23 dc23 pm23 an23 cd23 ct23),sl23⟩) (c23:`a0 K cd23 `iF=`b) (k23:`aP K `aAH=`b)
  (a24:`ai K `aa `iG=`a (`a `aAI)) (l24:`aC f24=`a ⟨oc24,od24,`aL (`aW `iG `iG (Z0 `rg) (g8 `rg) (t7 `rg) `Z kV24 dc24 pm24 an24 cd24 ct24),sl24⟩) (c24:`a0 K cd24 `iG=`b) (k24:`aP K `aAI=`b)
  (a25:`ai K `aa `jE=`a (`a `aAJ)) (l25:`aC f25=`a ⟨oc25,od25,`aL (`aW `jE `jE (Z0 `rh) (g8 `rh) (t7 `rh) `Z kV25 dc25 pm25 an25 cd25 ct25),sl25⟩) (c25:`a0 K cd25 `jE=`b) (k25:`aP K `aAJ=`b)
  (a26:`ai K `aa `f6=`a (`a `aAK)) (l26:`aC f26=`a ⟨oc26,od26,`aL (`aAL),sl26⟩) (c26:`a0 K cd26 `f6=`b) (k26:`aP K `aAK=`b)
  (a27:`ai K `aa `g6=`a (`a `aAM)) (l27:`aC f27=`a ⟨oc27,od27,`aL (`aAN),sl27⟩) (c27:`a0 K cd27 `g6=`b) (k27:`aP K `aAM=`b)
  (a28:`ai K `aa `kK=`a (`a `aAO)) (l28:`aC f28=`a ⟨oc28,od28,`aL (`aAP),sl28⟩) (c28:`a0 K cd28 `kK=`b) (k28:`aP K `aAO=`b)
  (z_bool:`ai K `aa `qf=`dZ)
  (z_enumerate:`ai K `aa `jO=`dZ)
  (z_int:`ai K `aa `hd=`dZ)
  (z_isinstance:`ai K `aa `qg=`dZ)
  (z_len:`ai K `aa `oa=`dZ)
  (z_list:`ai K `aa `c9=`dZ)
  (z_ord:`ai K `aa `uC=`dZ)
  (z_range:`ai K `aa `nK=`dZ)
  (z_reversed:`ai K `aa `kc=`dZ)
  (z_str:`ai K `aa `hi=`dZ)
  (z_tuple:`ai K `aa `d1=`dZ)
  (z_zip:`ai K `aa `eR=`dZ)
  (y_BASE:`ai K `aa "BASE"=`a (`a (`d 128 t_BASE)))
  {kA_KINDS:`e} {kn_KINDS:Nat} {ks_KINDS:`mX} {kt_KINDS_0 kt_KINDS_1 kt_KINDS_2 kt_KINDS_3:Tok}
  (kN_KINDS:`ai K `aa "KINDS"=`a (`a (`x kA_KINDS))) (kL_KINDS:`aC kA_KINDS=`a ⟨`eJ,`c,`bB #[`s `zv kt_KINDS_0,`s "row" kt_KINDS_1,`s `JF kt_KINDS_2,`s `zy kt_KINDS_3] kn_KINDS,ks_KINDS⟩)
  : ∃fd:`ff,(∀(s:`p) (v:`E),`xN s fd ⟨[v],[]⟩ [(`kn,v)])/\∀base:`Q,`L9->`uj->`ah `aM w K mg `r CX0 127 fa fd [`kn] `aAr:=by
 have e:=hfa.symm.trans (B4 X G a28);cases e;have T:`a':=⟨D3 X G z_bool,D3 X G z_enumerate,D3 X G z_int,D3 X G z_isinstance,D3 X G z_len,D3 X G z_list,D3 X G z_ord,D3 X G z_range,D3 X G z_reversed,D3 X G z_str,D3 X G z_tuple,D3 X G z_zip,⟨_,B4 X G y_BASE⟩⟩;have g5:`azW:=⟨_,_,_,_,B4 X G kN_KINDS,kL_KINDS,rfl,rfl,rfl,(by show 4<=`P;decide),`X `ag (`X `ag (`X `ag (`X `ag (`J))))⟩;have F0:=W4 (x := `iy) (st:=`qY) l0 c0 k0;have F1:=W4 (x := `jk) (st:=`qZ) l1 c1 k1;have F2:=W4 (x := `jl) (st:=`q_) l2 c2 k2;have F3:=W4 (x := `iw) (st:=`q0) l3 c3 k3;have F4:=W4 (x := `jn) (st:=`q1) l4 c4 k4;have F5:=W4 (x := `jp) (st:=`q2) l5 c5 k5;have F6:=W4 (x := `iz) (st:=`nx) l6 c6 k6;have F7:=W4 (x := `jq) (st:=`q4) l7 c7 k7;have F8:=W4 (x := `jr) (st:=`q5) l8 c8 k8;have F9:=W4 (x := `jo) (st:=`q7) l9 c9 k9;have i0:=W4 (x := `jm) (st:=`q8) l10 c10 k10;have h4:=W4 (x := `js) (st:=`q9) l11 c11 k11;have h6:=W4 (x := `iB) (st:=`q') l12 c12 k12;have m2:=W4 (x := `ju) (st:=`q?) l13 c13 k13;have n7:=W4 (x := `jv) (st:=`rc) l14 c14 k14;have h5:=W4 (x := `jw) (st:=`rd) l15 c15 k15;have h3:=W4 (x := `jx) (st:=`nz) l16 c16 k16;have m0:=W4 (x := `jy) (st:=`t9) l17 c17 k17;have n3:=W4 (x := `jz) (st:=`nA) l18 c18 k18;have n1:=W4 (x := `iE) (st:=`nB) l19 c19 k19;have m6:=W4 (x := `jA) (st:=`nC) l20 c20 k20;have j1:=W4 (x := `jB) (st:=`re) l21 c21 k21;have m1:=W4 (x := `jC) (st:=`ua) l22 c22 k22;have n4:=W4 (x := `iF) (st:=`rf) l23 c23 k23;have j2:=W4 (x := `iG) (st:=`rg) l24 c24 k24;have n2:=W4 (x := `jE) (st:=`rh) l25 c25 k25;have h0:=W4 (x := `f6) (st:=`py) l26 c26 k26;have g7:=W4 (x := `g6) (st:=`ub) l27 c27 k27;have n8:=W4 (x := `kK) (st:=`pz) l28 c28 k28;refine⟨`aAP,λs v=>.of_eq rfl,λbase _ _=>?_⟩;have M:FnN `aM w K mg `r `iy 1 `dT Z4:=⟨f0,_,pu0 F0 T ,B4 X G a0,k0,F0.binds (ps:=`dT) `dj⟩;have g4:FnD `aM w K mg `r `jk 1 `dT y20:=⟨f1,_,d60 F1 T ,B4 X G a1,k1,F1.binds (ps:=`dT) `dj⟩;have e5:FnD `aM w K mg `r `iw 1 `di O8:=⟨f3,_,fw0 F3 T ,B4 X G a3,k3,F3.binds (ps:=`di) `hy⟩;have Y:FnN `aM w K mg `r `iz 1 `g3 V3:=⟨f6,_,l80 F6 T ,B4 X G a6,k6,F6.binds (ps:=`g3) `dj⟩;have b4:FnD `aM w K mg `r `jq 1 `bO Q0:=⟨f7,_,ob0 F7 T g5,B4 X G a7,k7,F7.binds (ps:=`bO) `dj⟩;have d2:FnN `aM w K mg `r `jm 1 `bO S6:=⟨f10,_,mz0 i0 T ,B4 X G a10,k10,i0.binds (ps:=`bO) `dj⟩;have b3:FnD `aM w K mg `r `js 1 `k? U6:=⟨f11,_,pk0 h4 T ,B4 X G a11,k11,h4.binds (ps:=`k?) `hy⟩;have J:FnB `aM w K mg `r `iB 1 `aT 0 W6:=⟨f12,_,lq0 h6 T ,B4 X G a12,k12,h6.binds (ps:=`aT) `dj⟩;have d3:FnN `aM w K mg `r `ju 1 `wT K1:=⟨f13,_,l00 m2 T ,B4 X G a13,k13,m2.binds (ps:=`wT) `hy⟩;have d1:FnD `aM w K mg `r `jv 1 `nm N5:=⟨f14,_,nl0 n7 T ,B4 X G a14,k14,n7.binds (ps:=`nm) `hy⟩;have O:FnN `aM w K mg `r `iE 1 `kJ V2:=⟨f19,_,oi0 n1 T ,B4 X G a19,k19,n1.binds (ps:=`kJ) `dj⟩;have g2:FnD `aM w K mg `r `jB 1 `i' yx0:=⟨f21,_,ju0 j1 T ,B4 X G a21,k21,j1.binds (ps:=`i') `hy⟩;have U:FnB `aM w K mg `r `iF 1 `aT 0 J2:=⟨f23,_,ot0 n4 T ,B4 X G a23,k23,n4.binds (ps:=`aT) `dj⟩;have Z:FnB `aM w K mg `r `iG 1 `g4 0 z60:=⟨f24,_,mu0 j2 T ,B4 X G a24,k24,j2.binds (ps:=`g4) `hy⟩;have e3:FnN `aM w K mg `r `jp 2 `la z00:=⟨f5,_,l70 F5 T M Y,B4 X G a5,k5,F5.binds (ps:=`la) `hy⟩;have e6:FnN `aM w K mg `r `jr 2 `bO O3:=⟨f8,_,mo0 F8 T Y,B4 X G a8,k8,F8.binds (ps:=`bO) `dj⟩;have e2:FnD `aM w K mg `r `jo 2 `di O9:=⟨f9,_,mr0 F9 T g4,B4 X G a9,k9,F9.binds (ps:=`di) `hy⟩;have e0:FnB `aM w K mg `r `jw 2 `aT 0 U3:=⟨f15,_,l60 h5 T J d1,B4 X G a15,k15,h5.binds (ps:=`aT) `dj⟩;have e8:FnB `aM w K mg `r `jx 2 `g4 0 G6:=⟨f16,_,jl0 h3 T J,B4 X G a16,k16,h3.binds (ps:=`g4) `hy⟩;have b2:FnN `aM w K mg `r `jA 2 `hx J1:=⟨f20,_,qy0 m6 T O,B4 X G a20,k20,m6.binds (ps:=`hx) `dj⟩;have b1:FnB `aM w K mg `r `jE 2 `aT 0 V9:=⟨f25,_,qj0 n2 T U Z,B4 X G a25,k25,n2.binds (ps:=`aT) `dj⟩;have e1:FnN `aM w K mg `r `jn 3 `wR O5:=⟨f4,_,mp0 F4 T e5 e2 e3 M b4 e6,B4 X G a4,k4,F4.binds (ps:=`wR) λ_ _ _ _ _ _ us hl=>by obtain⟨_,_,_,_,rfl⟩:=us4 hl;rfl⟩;have e7:FnB `aM w K mg `r `jy 3 `aT 0 S8:=⟨f17,_,kb0 m0 T J e0 e8,B4 X G a17,k17,m0.binds (ps:=`aT) `dj⟩;have e4:FnD `aM w K mg `r `jC 3 `hx zu0:=⟨f22,_,l50 m1 T g2 b2 O,B4 X G a22,k22,m1.binds (ps:=`hx) `dj⟩;have g6:FnN `aM w K mg `r `jl 4 `wQ xl0:=⟨f2,_,X60 F2 T d2 e5 e1,B4 X G a2,k2,F2.binds (ps:=`wQ) `dj⟩;have e9:FnD `aM w K mg `r `jz 4 `wU M5:=⟨f18,_,i00 n3 T b3 d3 e7,B4 X G a18,k18,n3.binds (ps:=`wU) `hy⟩;have CR:∀q,FnB `aM w K mg `r `f6 (2+q) `aT 0 (mR2 q).1/\FnB `aM w K mg `r `g6 (2+q) `pA 0 (mR2 q).2:=by
  intro q
  induction q with
  | zero=>exact⟨⟨⟨f26,`aAL,qk0,`aAQ,k26,`aAR⟩⟩,⟨⟨f27,`aAN,qk0,`aAS,k27,`aAT⟩⟩⟩
  | succ q ih=>exact⟨⟨⟨f26,_,sm0 h0 T _ (2+q) (K2 _ _) ih.2 U,`aAQ,k26,`aAR⟩⟩,⟨⟨f27,_,qi0 g7 T _ (2+q) (K2 _ _) ih.1 Z b1,`aAS,k27,`aAT⟩⟩⟩
 have b0:FnB `aM w K mg `r `f6 126 `aT 0 R6:=(CR 124).1;have g3:FnB `aM w K mg `r `g6 126 `pA 0 xy0:=(CR 124).2;exact Xz0 n8 T e4 b0 e9 g6
theorem k50:∀ns:`u,Rps K H B `Sy `r7
 | []=>by rw[`e2,`e2,m5]
 | n::ns=>by
  rw[`L,`L,o9];exact⟨_,_,rfl,`yg,k50 ns⟩
theorem fi0{ns:`u}(hK:`Q8)(hS:`N6)(hm:`azE):spD K q80 `jU H `CB `iQ:=by
 refine⟨`Q9,[`mq],`oe,`aw6,?_,hm,λv H' _ r=>`WU⟩;rw[o9];refine⟨_,[],rfl,?_,`hn⟩;rw[Y7];exact⟨a,`jV `r5,rfl,script_at hK hS,k50 ns⟩
universe Nk
open PySem.W PyProof.Rows
namespace PySem.W.Fast
def tw15688937490546441302:=0
def tw13234633397375542011:=0
def tw15607112282291182785:=0
def tw4652299022948550852:=0
def tw14955247239354879190:=0
def tw9021807912308155153:=0
def tw7839815151717850592:=0
def tw16846594283649804160:=0
def tw6954011055058626199:=0
def tw13352354167556557380:=0
def tw8061968005801493109:=0
def tw15389262149739538277:=0
def tw2339816113075729133:=0
def tw6711396652165406993:=0
def tw12138140181494396337:=0
def tw14345939897240611587:=0
def tw18100041869602739721:=0
def tw7017407106175259959:=0
def tw7143402211596374932:=0
def tw2203807691195110005:=0
def tw9751685834092922553:=0
def tw14601956987283183262:=0
def tw15232060924547368330:=0
def tw6465208025382724693:=0
def tw801796816257345598:=0
def tw1872880158225161735:=0
def tw18311879331012271290:=0
def tw16879366935040013030:=0
def tw5921804816408418668:=0
def tw327255794043442825:=0
def tw7833860132674182620:=0
def tw12457750789763921458:=0
def tw5200091347177263292:=0
def tw5514114044754485570:=0
def tw1440760400841127020:=0
def tw3070425044038453230:=0
def tw4720873980068676237:=0
def tw12839625189837301151:=0
def tw4500804202648139579:=0
def tw1810808627868861880:=0
def tw12267844274877864413:=0
def tw18423887374566982830:=0
def tw3945747838529545208:=0
def tw16288070917166135719:=0
def tw12208157559815766259:=0
def tw16996000017220717512:=0
def tw8631787069829692723:=0
def tw17769709141283138979:=0
def tw11284739489708826083:=0
def tw12878668004551644144:=0
def tw1491562913343321498:=0
def tw4790279627892068386:=0
def tw698591580122053998:=0
def tw13762282275381386321:=0
def tw6860205311239027664:=0
def tw5690386897892595027:=0
def tw6724116652409618586:=0
def tw5770807676723681413:=0
def tw11425771554592452676:=0
def tw18253061542086205085:=0
def tw6416988033162592221:=0
def tw6875989076097554210:=0
def tw18431982894403021670:=0
def tw9193809092445463045:=0
def tw13571919716991834479:=0
def tw13791157775453020277:=0
def tw3074725244899571240:=0
def tw447532846169186022:=0
def tw14127041477622134576:=0
def tw16743983188757513162:=0
def tw2789289059638115165:=0
def tw5531186933492218987:=0
def tw8535034915725697055:=0
def tw5318667978177375408:=0
def tw1844210471605224612:=0
def tw14355848846200211149:=0
def tw14030104866607731169:=0
def tw12455019601746791255:=0
def tw11798612183562191814:=0
def tw7922934722433658734:=0
def tw15883398038217236707:=0
def tw2390515252780082288:=0
def tw18293530691440455768:=0
def tw1725214932134066580:=0
def tw14155638104705975465:=0
def tw16041875806058157911:=0
def tw2204701853337102968:=0
def tw12403222491266337460:=0
def tw7936976501873498430:=0
def tw11577831995915910328:=0
def tw5431578667470322186:=0
def tw1021370884155085425:=0
def tw6906467666542526147:=0
def tw5583218136737975367:=0
def tw13627504258554759885:=0
def tw12982976943123780787:=0
def tw1599248180523419318:=0
def tw1011747437333897430:=0
def tw10570456065208409076:=0
def tw16630750362236036944:=0
def tw15843116119273874204:=0
def tw13387862807556884686:=0
def tw13953669970617552773:=0
def tw13875352299656613094:=0
def tw6032868999433714992:=0
def tw15512017316842087659:=0
def tw16331922012585994975:=0
def tw3824585817483562986:=0
def tw2371382466044903593:=0
def tw10983448881777660909:=0
def tw13432968533042653204:=0
def tw4214380861742465410:=0
def tw11659040846391568787:=0
def tw14866801022763259678:=0
def tw13304726561028117656:=0
def tw11440819160601115449:=0
def tw7476352860989630867:=0
def tw18146784536446985374:=0
def tw10376918999612141286:=0
def tw5262571506952117469:=0
def tw2139035571885203869:=0
def tw212610358261920239:=0
def tw2910209805834928726:=0
def tw8933677317715181516:=0
def tw6699663496275734573:=0
def tw9416708390472067824:=0
def tw7196799993250744267:=0
def tw1025720592826235024:=0
def tw10576317142996385305:=0
def tw1240603178131528715:=0
universe PySem.W.Fast
end
set_option maxRecDepth 100000 in
theorem PySem.Challenge.cw_graphpack_k27_packs_read_by_hand_holds : PySem.Challenge.rw_graphpack_k27_packs_read_by_hand.Holds := by
 w_on;o_law;k_head;(case hw=>w_witness2)
 k_fill
 refine DL.co0 (l:=PySem.Challenge.rw_graphpack_k27_packs_read_by_hand) (n:=63) (k:=127) (x := "_law_script") (CX:=L2.CX0) (sp:=λK=>DL.spD K Nk.q80) rfl (by decide) rfl ⟨rfl,by decide,by decide⟩ (λw h Y=>W.kIn_of Y) ?F ?S ?C
 case F =>
  intro w mg fa h KX G hmg;refine' Nk.all_mk KX G hmg ?a0 ?l0 ?c0 ?k0 ?a1 ?l1 ?c1 ?k1 ?a2 ?l2 ?c2 ?k2 ?a3 ?l3 ?c3 ?k3 ?a4 ?l4 ?c4 ?k4 ?a5 ?l5 ?c5 ?k5 ?a6 ?l6 ?c6 ?k6 ?a7 ?l7 ?c7 ?k7 ?a8 ?l8 ?c8 ?k8 ?a9 ?l9 ?c9 ?k9 ?a10 ?l10 ?c10 ?k10 ?a11 ?l11 ?c11 ?k11 ?a12 ?l12 ?c12 ?k12 ?a13 ?l13 ?c13 ?k13 ?a14 ?l14 ?c14 ?k14 ?a15 ?l15 ?c15 ?k15 ?a16 ?l16 ?c16 ?k16 ?a17 ?l17 ?c17 ?k17 ?a18 ?l18 ?c18 ?k18 ?a19 ?l19 ?c19 ?k19 ?a20 ?l20 ?c20 ?k20 ?a21 ?l21 ?c21 ?k21 ?a22 ?l22 ?c22 ?k22 ?a23 ?l23 ?c23 ?k23 ?a24 ?l24 ?c24 ?k24 ?a25 ?l25 ?c25 ?k25 ?a26 ?l26 ?c26 ?k26 ?a27 ?l27 ?c27 ?k27 ?a28 ?l28 ?c28 ?k28 ?z_bool ?z_enumerate ?z_int ?z_isinstance ?z_len ?z_list ?z_ord ?z_range ?z_reversed ?z_str ?z_tuple ?z_zip ?y_BASE ?kN_KINDS ?kL_KINDS
  (case a0=>k_is)
  (case l0=>k_is)
  (case c0=>k_is)
  (case k0=>k_is)
  (case a1=>k_is)
  (case l1=>k_is)
  (case c1=>k_is)
  (case k1=>k_is)
  (case a2=>k_is)
  (case l2=>k_is)
  (case c2=>k_is)
  (case k2=>k_is)
  (case a3=>k_is)
  (case l3=>k_is)
  (case c3=>k_is)
  (case k3=>k_is)
  (case a4=>k_is)
  (case l4=>k_is)
  (case c4=>k_is)
  (case k4=>k_is)
  (case a5=>k_is)
  (case l5=>k_is)
  (case c5=>k_is)
  (case k5=>k_is)
  (case a6=>k_is)
  (case l6=>k_is)
  (case c6=>k_is)
  (case k6=>k_is)
  (case a7=>k_is)
  (case l7=>k_is)
  (case c7=>k_is)
  (case k7=>k_is)
  (case a8=>k_is)
  (case l8=>k_is)
  (case c8=>k_is)
  (case k8=>k_is)
  (case a9=>k_is)
  (case l9=>k_is)
  (case c9=>k_is)
  (case k9=>k_is)
  (case a10=>k_is)
  (case l10=>k_is)
  (case c10=>k_is)
  (case k10=>k_is)
  (case a11=>k_is)
  (case l11=>k_is)
  (case c11=>k_is)
  (case k11=>k_is)
  (case a12=>k_is)
  (case l12=>k_is)
  (case c12=>k_is)
  (case k12=>k_is)
  (case a13=>k_is)
  (case l13=>k_is)
  (case c13=>k_is)
  (case k13=>k_is)
  (case a14=>k_is)
  (case l14=>k_is)
  (case c14=>k_is)
  (case k14=>k_is)
  (case a15=>k_is)
  (case l15=>k_is)
  (case c15=>k_is)
  (case k15=>k_is)
  (case a16=>k_is)
  (case l16=>k_is)
  (case c16=>k_is)
  (case k16=>k_is)
  (case a17=>k_is)
  (case l17=>k_is)
  (case c17=>k_is)
  (case k17=>k_is)
  (case a18=>k_is)
  (case l18=>k_is)
  (case c18=>k_is)
  (case k18=>k_is)
  (case a19=>k_is)
  (case l19=>k_is)
  (case c19=>k_is)
  (case k19=>k_is)
  (case a20=>k_is)
  (case l20=>k_is)
  (case c20=>k_is)
  (case k20=>k_is)
  (case a21=>k_is)
  (case l21=>k_is)
  (case c21=>k_is)
  (case k21=>k_is)
  (case a22=>k_is)
  (case l22=>k_is)
  (case c22=>k_is)
  (case k22=>k_is)
  (case a23=>k_is)
  (case l23=>k_is)
  (case c23=>k_is)
  (case k23=>k_is)
  (case a24=>k_is)
  (case l24=>k_is)
  (case c24=>k_is)
  (case k24=>k_is)
  (case a25=>k_is)
  (case l25=>k_is)
  (case c25=>k_is)
  (case k25=>k_is)
  (case a26=>k_is)
  (case l26=>k_is)
  (case c26=>k_is)
  (case k26=>k_is)
  (case a27=>k_is)
  (case l27=>k_is)
  (case c27=>k_is)
  (case k27=>k_is)
  (case a28=>k_is)
  (case l28=>k_is)
  (case c28=>k_is)
  (case k28=>k_is)
  (case z_bool=>k_is)
  (case z_enumerate=>k_is)
  (case z_int=>k_is)
  (case z_isinstance=>k_is)
  (case z_len=>k_is)
  (case z_list=>k_is)
  (case z_ord=>k_is)
  (case z_range=>k_is)
  (case z_reversed=>k_is)
  (case z_str=>k_is)
  (case z_tuple=>k_is)
  (case z_zip=>k_is)
  (case y_BASE=>k_is)
  (case kN_KINDS=>k_is)
  (case kL_KINDS=>k_is)
 case S=>exact λw H a ns hl hS=>Nk.fi0 (by kernel_rfl) hS (Nk.b90 ns hl)
 case C=>exact λ_ _ _ _ z=>z
#print axioms PySem.Challenge.cw_graphpack_k27_packs_read_by_hand_holds
