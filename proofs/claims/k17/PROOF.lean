import PyProof.Rows.All
import Wide.All
import OpenK.AllK
import Wide.FinOn
import Lean
import PyProof.EqAt
import PyProof.EqKinds
import PyProof.TupleCall
import PyProof.NeKinds
import PyProof.Rows.SetFrom
import KE.KRevIter
import PyProof.ZipIter
import PyProof.TupleOfGen
import PyProof.Rows.ZipGen
import PyProof.EnumMake
import PyProof.EnumFor
import PyProof.ListRange
import PyProof.LayNew
import KE.KDictOf
import KE.KIntText
import KE.IntTextLaws
import PyProof.StrCalls2
import PyProof.Rows.StrNews2
import PyProof.StrLawsTight
import PyProof.ExcArgsOwn
import PyProof.ExcAttrAll.ValueError
import PyProof.IsInstanceT
import PyProof.RulesAs
import PyProof.Rows.Tup
import OpenK.KOwn
import PyProof.ExcInit
import OpenK.KCls
import OpenK.KMake
import PyProof.InstStoreFacts
import PyProof.ListMulRight
import PyProof.AttrMissHeap
import PyProof.RaisesMany
import PyProof.RulesTry
import PyProof.NsDelKeeps
import PyProof.Rows.FStr
import OpenK.KWalk
import PyProof.AutoListH
import PyProof.CallFns
import PyProof.Rows.SortStr
import KE.KDictSum
import PyProof.Draws
import PyProof.Rows.CallKwBuiltin
import PyProof.SumWalkG
import KE.KDictLaws
import PyProof.DictTruth
import PyProof.Rows.SortShellK
import PyProof.Rows.SortWalk
import PySem.Challenge.RW_graphpack_k17_pairings_told
set_option maxHeartbeats 0
set_option Elab.async false
set_option linter.all false
set_option maxRecDepth 100000
namespace XC
open PySem
section
variable{prog:Program}{w:World}{A:Around}{E:Value->Shared->Prop}{h:Heap}{g:Array GenState}{d:Drawn}{t:Nat}{os:OsState}{a C:Addr}{o:Obj}{tl:List Value}
end
section
variable{prog:Program}{w:World}{A:Around}{E:Value->Shared->Prop}{h:Heap}{g:Array GenState}{d:Drawn}{t:Nat}{os:OsState}{a C W:Addr}{o:Obj}{tl tw:List Value}
end
section
variable{prog:Program}{w:World}{A:Around}{E:Value->Shared->Prop}{s:Shared}{a C W:Addr}{o:Obj}{tl tw:List Value}
end
end XC
namespace XC
open PySem PySem.W
end XC
namespace XC
open PySem
section
variable{prog:Program}{w:World}{A:Around}{E:Value->Shared->Prop}{h:Heap}{g:Array GenState}{d:Drawn}{t:Nat}{os:OsState}{C f:Addr}{tl:List Value}
end
section
variable{prog:Program}{w:World}{A:Around}{E:Value->Shared->Prop}{h:Heap}{g:Array GenState}{d:Drawn}{t:Nat}{os:OsState}{C e:Addr}{tl:List Value}{od:Option Addr}
end
end XC
namespace XC
open PySem PySem.W Builtin Builtin.ObjectAttr
section
variable{prog:Program}{w:World}{A:Around}{E:Value->Shared->Prop}{s:Shared}{K:Frag}{x C r:Addr}{cd:ClassData}{R:Result->Shared->Prop}
end
end XC
namespace L2
open PySem PySem.Spec PyProof.Rows
abbrev Key:=Sum Int Str
def sq0:Key->Value->Bool
 | .inl k,v=>Value.isInt k v
 | .inr x,v=>Value.isStrOf x v
def Ud0(w:World):Key->Int
 | .inl k=>hashInt k
 | .inr x=>hashStr w x
theorem O2:∀{k:Key} {v:Value},sq0 k v=true->(∃i t,k=Sum.inl i/\v=Value.int i t)∨(∃x t,k=Sum.inr x/\v=Value.str x t)
 | .inl i,v,h=>by
  obtain⟨t,e⟩:=Value.isInt_shape (k:=i) (v:=v) h;exact .inl ⟨i,t,rfl,e⟩
 | .inr x,v,h=>by
  obtain⟨t,e⟩:=Value.isStrOf_shape (x:=x) (v:=v) h;exact .inr ⟨x,t,rfl,e⟩
theorem g90(i:Int)(t:Tok):sq0 (.inl i) (.int i t)=true:=by simp[sq0,Value.isInt]
theorem ge0(x:Str)(t:Tok):sq0 (.inr x) (.str x t)=true:=by simp[sq0,Value.isStrOf]
theorem W10(a b:Int):decide ((Sum.inl a:Key)=Sum.inl b)=(a==b):=by
 by_cases e:a=b
 ·subst e; simp
 ·have h:¬(Sum.inl a:Key)=Sum.inl b:=fun q=>e (Sum.inl.inj q)
  rw[decide_eq_false h];exact(beq_eq_false_iff_ne.mpr e).symm
theorem Xz0(a b:Str):decide ((Sum.inr a:Key)=Sum.inr b)=decide (a=b):=by
 by_cases e:a=b
 ·subst e; simp
 ·have h:¬(Sum.inr a:Key)=Sum.inr b:=fun q=>e (Sum.inr.inj q)
  rw[decide_eq_false h,decide_eq_false e]
theorem Xm0(a:Int)(b:Str):decide ((Sum.inl a:Key)=Sum.inr b)=false:=decide_eq_false (fun q=>nomatch q)
theorem W60(a:Str)(b:Int):decide ((Sum.inr a:Key)=Sum.inl b)=false:=decide_eq_false (fun q=>nomatch q)
def P0(prog:Program)(w:World):PySem.KeyKind prog w Key where
 is:=sq0
 hash:=Ud0 w
 inj:=fun v a b ha hb=>by
  rcases O2 ha with⟨i,t,rfl,rfl⟩|⟨x,t,rfl,rfl⟩
  ·rcases O2 hb with⟨j,u,rfl,e⟩|⟨y,u,rfl,e⟩
   ·injection e with e1 _; rw[e1]
   ·exact nomatch e
  ·rcases O2 hb with⟨j,u,rfl,e⟩|⟨y,u,rfl,e⟩
   ·exact nomatch e
   ·injection e with e1 _; rw[e1]
 byValue:=fun k v h=>by
  rcases O2 h with⟨i,t,rfl,rfl⟩|⟨x,t,rfl,rfl⟩<;>rfl
 pyHash:=fun hv h=>by
  rcases O2 hv with⟨i,t,rfl,rfl⟩|⟨x,t,rfl,rfl⟩
  ·exact wpAny_pyHash_int h
  ·exact wpAny_pyHash_str h
 eqBool:=fun hu hv h=>by
  rcases O2 hu with⟨i,t,rfl,rfl⟩|⟨x,t,rfl,rfl⟩
  ·rcases O2 hv with⟨j,u,rfl,rfl⟩|⟨y,u,rfl,rfl⟩
   ·rw[W10] at h; exact wpAny_eqBool_int h
   ·rw[Xm0] at h; exact SeqAt.EqAt.int_str i t y u _ _ _ _ h
  ·rcases O2 hv with⟨j,u,rfl,rfl⟩|⟨y,u,rfl,rfl⟩
   ·rw[W60] at h; exact SeqAt.EqAt.str_int x t j u _ _ _ _ h
   ·rw[Xz0] at h; exact wpAny_eqBool_str h
 «strs»:=fun k x t v h=>by
  rcases O2 h with⟨i,u,rfl,e⟩|⟨y,u,rfl,e⟩
  ·exact nomatch e
  ·injection e with e1 _
   subst e1;cases v<;>rfl
theorem ks0(prog:Program)(w:World)(i:Int)(t:Tok):(P0 prog w).is (.inl i) (.int i t)=true:=g90 i t
theorem kk0(prog:Program)(w:World)(x:Str)(t:Tok):(P0 prog w).is (.inr x) (.str x t)=true:=ge0 x t
inductive V where
 | non|bl (b:Bool)|int (i:Int)|str (x:Str)|byt (b:Array UInt8)|flt (b:UInt64)|ref (a:Addr)|ty (n:String)
 deriving DecidableEq
def RelV:V->Value->Prop
 | .non,u=>u=Value.none
 | .bl b,u=>u=Value.bool b
 | .int i,u=>∃t,u=Value.int i t
 | .str x,u=>∃t,u=Value.str x t
 | .byt b,u=>∃t,u=Value.bytes b t
 | .flt b,u=>∃t,u=Value.float b t
 | .ref a,u=>u=Value.ref a
 | .ty n,u=>u=Value.type n
abbrev Vals:List V->List Value->Prop:=Paired RelV
theorem Vals.length{xs:List V}{us:List Value}(r:Vals xs us):xs.length=us.length:=Paired.length r
theorem Vals.get:∀{xs:List V} {us:List Value} {i:Nat} {x:V},Vals xs us->xs[i]?=some x->∃u,us[i]?=some u/\RelV x u
 | _,_,_,_,.nil,e=>by simp at e
 | _,_,0,_,.cons r _,e=>by simp at e; subst e; exact⟨_,rfl,r⟩
 | _,_,i+1,x,.cons _ t,e=>by
  obtain⟨u,h1,h2⟩:=Vals.get (i:=i) (x:=x) t (by simpa using e)
  exact⟨u,by simpa using h1,h2⟩
theorem Vals.set{x:V}{u:Value}(r:RelV x u):∀{xs:List V} {us:List Value} (i:Nat),Vals xs us->Vals (xs.set i x) (us.set i u)
 | _,_,_,.nil=>.nil
 | _,_,0,.cons _ t=>.cons r t
 | _,_,i+1,.cons q t=>.cons q (Vals.set r i t)
theorem Vals.append:∀{xs ys:List V} {us ws:List Value},Vals xs us->Vals ys ws->Vals (xs++ys) (us++ws)
 | _,_,_,_,.nil,s=>s
 | _,_,_,_,.cons r t,s=>.cons r (Vals.append t s)
theorem Vals.take:∀{xs:List V} {us:List Value} (n:Nat),Vals xs us->Vals (xs.take n) (us.take n)
 | _,_,0,_=>.nil
 | _,_,_+1,.nil=>.nil
 | _,_,n+1,.cons r t=>.cons r (Vals.take n t)
theorem Vals.drop:∀{xs:List V} {us:List Value} (n:Nat),Vals xs us->Vals (xs.drop n) (us.drop n)
 | _,_,0,r=>r
 | _,_,_+1,.nil=>.nil
 | _,_,n+1,.cons _ t=>Vals.drop n t
def RelO:Option V->Option Value->Prop
 | some v,some u=>RelV v u
 | none,none=>True
 | _,_=>False
def KV{κ:Type}:List (κ×V)->List (κ×Value)->Prop:=Paired fun (p:κ×V) (q:κ×Value)=>p.1=q.1/\RelV p.2 q.2
def kV:Key->V
 | .inl i=>.int i
 | .inr x=>.str x
inductive HO where
 | lst (xs:List V)
 | tup (xs:List V)
 | dK (kvs:List (Key×V))|dT (kvs:List (List Key×V))
 | set (S:Int->Bool) (n:Nat)
 | ins (C dx:Addr) (fs:List (Str×V))
 | own (x:Addr)
 | xd (fs:List (Str×V))
 | met (f x:Addr)
 | rng (lo hi:Int)
 | frz (o:Obj) (u:HO)
 | tbl (ps:Array Value)
 | ext (φ:Heap->Prop)
abbrev Hp:=Addr->Option HO
def upd(H:Hp)(a:Addr)(o:HO):Hp:=fun b=>if b=a then some o else H b
theorem j7{H:Hp}{a:Addr}{o:HO}:upd H a o a=some o:=by unfold upd; rw[if_pos rfl]
theorem Y5{H:Hp}{a b:Addr}{o:HO}(h:b≠a):upd H a o b=H b:=by unfold upd; rw[if_neg h]
theorem qk0{H:Hp}{a b:Addr}{o u:HO}(h:H a=some o)(h':H b=some u)(d:o≠u):a≠b:=by
 intro e; subst e; rw[h] at h'; exact d (Option.some.inj h')
theorem M8{H:Hp}{a b:Addr}{o:HO}(h:H a=some o)(h':H b=none):a≠b:=by
 intro e; subst e; rw[h] at h'; cases h'
def IsTupN(h:Heap)(a:Addr)(items:Array Value):Prop:=∃o,h.get? a=some o/\o.cls=.type "tuple"/\∃n,o.data=.seq items n/\o.dict=none
theorem IsTupN.tup{h:Heap}{a:Addr}{items:Array Value}(x:IsTupN h a items):IsTup h a items:=let ⟨o,e,c,n,d,_⟩:=x; ⟨o,e,c,n,d⟩
theorem IsTupN.new(h:Heap)(items:Array Value):IsTupN (h.push { cls:=.type "tuple",data:=.seq items }) h.objs.size items:=⟨_,Heap.get?_push_size _ rfl,rfl,_,rfl,rfl⟩
section
variable(P:Program)(w:World)
def ObjOk(H:Hp)(h:Heap)(a:Addr):HO->Prop
 | .lst xs=>xs.length<=sizeLine/\∃(its:List Value) (n:Nat),Vals xs its/\h.get? a=some { cls:=.type "list",data:=.seq its.toArray n }
 | .tup xs=>xs.length<=sizeLine/\∃its:List Value,Vals xs its/\IsTupN h a its.toArray
 | .dK kvs=>kvs.length<=sizeLine/\(a==sysModules)=false/\∃vs,KV kvs vs/\h.DictOf (P0 P w) a vs
 | .dT kvs=>kvs.length<=sizeLine/\(a==sysModules)=false/\∃xs:List (List Key×Addr×Value),
   Paired (fun (p:List Key×V) (q:List Key×Addr×Value)=>p.1=q.1/\H q.2.1=some (.tup (p.1.map kV))/\RelV p.2 q.2.2) kvs xs /\
   ∃o es ep,h.get? a=some o/\o.ExactDict/\o.data=.dict es ep/\es.toList=xs.map (entryOfKey (tupleKind (P0 P w)))/\(xs.map (·.1)).Nodup
 | .set S n=>h.SetOf (intKind P w) a S n
 | .ins C dx fs=>H dx=some (.own a)/\fs.length<=1000/\dx≠a/\h.get? a=some (W.instObj C dx) /\
   ∃mA,h.Ns1 dx mA/\(∀f,RelO (fs.lookup f) (mA f))/\PySem.Within mA (fs.map (·.1))
 | .own _=>∃o,h.get? a=some o
 | .xd fs=>∃mA,h.Ns1 a mA/\∀f,RelO (fs.lookup f) (mA f)
 | .rng lo hi=>∃t u v,h.get? a=some { cls:=.type "range",data:=.fields #[.int lo t,.int hi u,.int 1 v] }
 | .frz o u=>h.get? a=some o/\ObjOk H h a u
 | .tbl ps=>h.get? a=some { cls:=.none,data:=.fields ps }
 | .met f x=>h.get? a=some (W.methodObj (.ref f) (.ref x))
 | .ext φ=>φ h/\(∃o,h.get? a=some o)/\∀h1 h2:Heap,φ h1->(∀o,h1.get? a=some o->h2.get? a=some o)->φ h2
def HOk(H:Hp)(h:Heap):Prop:=∀a o,H a=some o->ObjOk P w H h a o
end
section
variable{P:Program}{w:World}{H H':Hp}{h h':Heap}{a:Addr}{o:HO}
theorem ObjOk.lt(x:ObjOk P w H h a o):a<h.objs.size:=by
 cases o with
 | lst xs=>obtain⟨_,_,_,_,e⟩:=x; exact Heap.lt_size e
 | tup xs=>obtain⟨_,_,_,p⟩:=x; exact p.tup.lt
 | dK kvs=>obtain⟨_,_,_,_,o,_,_,e,_⟩:=x; exact Heap.lt_size e
 | dT kvs=>obtain⟨_,_,_,_,o,_,_,e,_⟩:=x; exact Heap.lt_size e
 | set S n=>obtain⟨o,_,_,_,e,_⟩:=x; exact Heap.lt_size e
 | ins C dx fs=>obtain⟨_,_,_,e,_⟩:=x; exact Heap.lt_size e
 | own y=>obtain⟨_,e⟩:=x; exact Heap.lt_size e
 | xd fs=>obtain⟨_,⟨_,_,_,e,_⟩,_⟩:=x; exact Heap.lt_size e
 | rng lo hi=>obtain⟨_,_,_,e⟩:=x; exact Heap.lt_size e
 | frz ob u=>obtain⟨e,_⟩:=x; exact Heap.lt_size e
 | tbl ps=>exact Heap.lt_size (show h.get? a=some _ from x)
 | met f y=>exact Heap.lt_size (show h.get? a=some _ from x)
 | ext φ=>obtain⟨_,⟨_,e⟩,_⟩:=x; exact Heap.lt_size e
theorem Paired.mapP{α β:Type}{F G:α->β->Prop}:∀{l₁:List α} {l₂:List β},Paired F l₁ l₂->(∀a b,F a b->G a b)->Paired G l₁ l₂
 | _,_,.nil,_=>.nil
 | _,_,.cons r t,f=>.cons (f _ _ r) (Paired.mapP t f)
theorem ObjOk.stay(x:ObjOk P w H h a o)(k:∀b u,(b=a∨H b=some (.own a))->h.get? b=some u->h'.get? b=some u)
  (ho:∀b,H b=some (.own a)->H' b=some (.own a)) (ht:∀b xs,H b=some (.tup xs)->H' b=some (.tup xs)):ObjOk P w H' h' a o:=by
 induction o with
 | lst xs=>obtain⟨z,its,n,r,e⟩:=x; exact⟨z,its,n,r,k _ _ (.inl rfl) e⟩
 | tup xs=>obtain⟨z,its,r,ob,e,c⟩:=x; exact⟨z,its,r,ob,k _ _ (.inl rfl) e,c⟩
 | dK kvs=>obtain⟨z,y,vs,r,ob,es,ep,e,c⟩:=x; exact⟨z,y,vs,r,ob,es,ep,k _ _ (.inl rfl) e,c⟩
 | dT kvs =>
  obtain⟨z,y,xs,r,ob,es,ep,e,c⟩:=x;exact⟨z,y,xs,Paired.mapP r fun p q z=>⟨z.1,ht _ _ z.2.1,z.2.2⟩,ob,es,ep,k _ _ (.inl rfl) e,c⟩
 | set S n=>obtain⟨ob,es,ep,t,e,c⟩:=x; exact⟨ob,es,ep,t,k _ _ (.inl rfl) e,c⟩
 | ins C dx fs =>
  obtain⟨d,z,ne,e,mA,⟨od,es,ep,e2,c⟩,r⟩:=x;exact⟨ho _ d,z,ne,k _ _ (.inl rfl) e,mA,⟨od,es,ep,k _ _ (.inr d) e2,c⟩,r⟩
 | own y=>obtain⟨ob,e⟩:=x; exact⟨ob,k _ _ (.inl rfl) e⟩
 | xd fs=>obtain⟨mA,⟨od,es,ep,e,c⟩,r⟩:=x; exact⟨mA,⟨od,es,ep,k _ _ (.inl rfl) e,c⟩,r⟩
 | rng lo hi=>obtain⟨t,u,v,e⟩:=x; exact⟨t,u,v,k _ _ (.inl rfl) e⟩
 | frz ob u ih=>obtain⟨e,q⟩:=x; exact⟨k _ _ (.inl rfl) e,ih q⟩
 | tbl ps =>
  have e:h.get? a=some { cls:=.none,data:=.fields ps }:=x
  show h'.get? a=some { cls:=.none,data:=.fields ps }
  exact k a _ (.inl rfl) e
 | met f y =>
  have e:h.get? a=some (W.methodObj (.ref f) (.ref y)):=x
  show h'.get? a=some (W.methodObj (.ref f) (.ref y))
  exact k a _ (.inl rfl) e
 | ext φ=>obtain⟨p,⟨o,e⟩,st⟩:=x; exact⟨st _ _ p fun o q=>k _ _ (.inl rfl) q,⟨o,k _ _ (.inl rfl) e⟩,st⟩
theorem HOk.lt(x:HOk P w H h)(e:H a=some o):a<h.objs.size:=(x a o e).lt
theorem HOk.fresh(x:HOk P w H h)(e:h.objs.size<=a):H a=none:=by
 cases q:H a with
 | none=>rfl
 | some u=>exact absurd (Nat.lt_of_lt_of_le (x.lt q) e) (Nat.lt_irrefl _)
theorem HOk.kept(x:HOk P w H h)(k:∀b u,h.get? b=some u->h'.get? b=some u):HOk P w H h':=fun a o e =>
 (x a o e).stay (fun b u _ q=>k b u q) (fun _ q=>q) fun _ _ q=>q
theorem HOk.laid(x:HOk P w H h)(k:∀b u,h.get? b=some u->h'.get? b=some u)(hp:h.objs.size<=a)(new:ObjOk P w (upd H a o) h' a o):HOk P w (upd H a o) h':=fun b u e=>by
 have hn:=x.fresh hp
 by_cases hb:b=a
 ·subst hb; rw[j7] at e; cases e; exact new
 ·rw[Y5 hb] at e
  exact(x b u e).stay (fun c v _ q=>k c v q) (fun c q=>by rw[Y5 (M8 q hn)]; exact q) fun c xs q=>by rw[Y5 (M8 q hn)]; exact q
end
def Rd(H:Hp)(a:Addr)(u:HO):Prop:=H a=some u∨∃o,H a=some (.frz o u)
theorem Rd.ok{P:Program}{w:World}{H:Hp}{h:Heap}{a:Addr}{u:HO}(r:Rd H a u)(x:HOk P w H h):ObjOk P w H h a u:=by
 rcases r with r|⟨o,r⟩
 ·exact x a u r
 ·obtain⟨_,q⟩:=x a _ r
  exact q
def Mut:Option HO->Prop
 | some (.lst _)=>True
 | some (.dK _)=>True
 | some (.dT _)=>True
 | some (.set _ _)=>True
 | some (.ins _ _ _)=>True
 | some (.ext _)=>True
 | _=>False
section
variable{P:Program}{w:World}{H:Hp}{h h':Heap}{x e:Addr}{o':HO}
theorem HOk.write(ok:HOk P w H h)(mu:Mut (H x))(he:e=x∨H e=some (.own x))(k:∀b u,b≠e->h.get? b=some u->h'.get? b=some u)(heo:∃u,h'.get? e=some u)
  (new:ObjOk P w (upd H x o') h' x o'):HOk P w (upd H x o') h':=fun b u q=>by
 have nown:∀c y,H c=some (.own y)->c≠x:=fun c y r z=>by subst z; rw[r] at mu; exact mu
 have ntup:∀c xs,H c=some (.tup xs)->c≠x:=fun c xs r z=>by subst z; rw[r] at mu; exact mu
 by_cases hb:b=x
 ·subst hb; rw[j7] at q; cases q; exact new
 ·rw[Y5 hb] at q
  by_cases hbe:b=e
  ·have q':H b=some (.own x):=by
    rcases he with z|z
    ·exact absurd (hbe.trans z) hb
    ·rw[hbe]; exact z
   rw[q] at q'; cases q';obtain⟨v,hv⟩:=heo;exact⟨v,by rw[hbe]; exact hv⟩
  ·refine(ok b u q).stay (fun c v hc r=>k c v ?_ r) (fun c r=>by rw[Y5 (nown c b r)]; exact r) fun c xs r=>by rw[Y5 (ntup c xs r)]; exact r
   rcases hc with rfl|hc
   ·exact hbe
   ·rintro rfl
    rcases he with z|z
    ·exact nown c b hc z
    ·rw[hc] at z; cases z; exact hb rfl
end
structure Un(fs ex:List Addr)(H H':Hp)(h h':Heap):Prop where
 keep:∀b o,h.get? b=some o->H b=none->b∉fs->b∉ex->h'.get? b=some o
 slot:∀b o,h.get? b=some o->H b=none->b∈fs->b∉ex->∃sl,h'.get? b=some { o with slots:=sl }
 free:∀b o,h.get? b=some o->H b=none->b∉ex->H' b=none
 there:∀b o,h.get? b=some o->b∉ex->∃o',h'.get? b=some o'
 tups:∀b xs,H b=some (.tup xs)->H' b=some (.tup xs)
 frzs:∀b o u,H b=some (.frz o u)->H' b=some (.frz o u)
 tbls:∀b ps,H b=some (.tbl ps)->∃more,H' b=some (.tbl (ps++more))
section
variable{fs fs' ex ex':List Addr}{H H1 H2:Hp}{h h1 h2 h':Heap}{a x e:Addr}{o:HO}
theorem Un.any(u:Un fs ex H H1 h h1){b:Addr}{ob:Obj}(q:h.get? b=some ob)(n:H b=none)(hx:b∉ex):∃sl,h1.get? b=some { ob with slots:=sl }:=by
 by_cases hb:b∈fs
 ·exact u.slot b ob q n hb hx
 ·exact⟨ob.slots,u.keep b ob q n hb hx⟩
theorem Un.kept(k:∀b u,h.get? b=some u->h'.get? b=some u):Un fs ex H H h h' :=
 ⟨fun b ob q _ _ _=>k b ob q,fun b ob q _ _ _=>⟨ob.slots,k b ob q⟩,fun _ _ _ n _=>n,fun b ob q _=>⟨ob,k b ob q⟩,fun _ _ q=>q,fun _ _ _ q=>q,fun _ ps q=>⟨#[],by rw[q]; simp⟩⟩
theorem Un.refl:Un fs ex H H h h:=Un.kept fun _ _ q=>q
theorem Un.laid(k:∀b u,h.get? b=some u->h'.get? b=some u)(hp:h.objs.size<=a)(hn:H a=none):Un fs ex H (upd H a o) h h' where
 keep:=fun b u q _ _ _=>k b u q
 slot:=fun b u q _ _ _=>⟨u.slots,k b u q⟩
 free:=fun b u q n _=>by rw[Y5 (Nat.ne_of_lt (Nat.lt_of_lt_of_le (Heap.lt_size q) hp))]; exact n
 there:=fun b u q _=>⟨u,k b u q⟩
 tups:=fun b xs q=>by rw[Y5 (M8 q hn)]; exact q
 frzs:=fun b u xs q=>by rw[Y5 (M8 q hn)]; exact q
 tbls:=fun b ps q=>⟨#[],by rw[Y5 (M8 q hn),q]; simp⟩
theorem Un.write(mu:Mut (H x))(he:e=x∨H e=some (.own x))(k:∀b u,b≠e->h.get? b=some u->h'.get? b=some u)(heo:∃u,h'.get? e=some u):Un fs ex H (upd H x o) h h':=by
 have hx:∀b,H b=none->b≠x:=fun b n z=>by subst z; rw[n] at mu; exact mu
 have hb:∀b,H b=none->b≠e:=fun b n z=>by
  subst z;rcases he with r|r
  ·exact hx b n r
  ·rw[n] at r; cases r
 have hm:∀b u,H b=some u->¬Mut (some u)->b≠x:=fun b u q nm z=>by subst z; rw[q] at mu; exact nm mu
 refine⟨fun b u q n _ _=>k b u (hb b n) q,fun b u q n _ _=>⟨u.slots,k b u (hb b n) q⟩,fun b u q n _=>by rw[Y5 (hx b n)]; exact n,fun b u q _=>?_,
  fun b xs q=>by rw[Y5 (hm b _ q fun z=>z)]; exact q,fun b u xs q=>by rw[Y5 (hm b _ q fun z=>z)]; exact q,fun b ps q=>⟨#[],by rw[Y5 (hm b _ q fun z=>z),q]; simp⟩⟩
 by_cases hbe:b=e
 ·subst hbe; exact heo
 ·exact⟨u,k b u hbe q⟩
end
def trk(h:Heap)(H:Hp):List Addr:=(List.range h.objs.size).filter fun a=>(H a).isSome
def t20(h:Heap)(H:Hp):Heap:=W.hideAll h (trk h H)
theorem ee0(h:Heap)(H:Hp):(t20 h H).objs.size=h.objs.size:=W.hideAll_size _ _
theorem cl0{h:Heap}{H:Hp}{b:Addr}{o:Obj}(e:h.get? b=some o)(n:H b=none):(t20 h H).get? b=some o :=
 W.hideAll_get _ e fun hm=>by
  have q:(H b).isSome=true:=(List.mem_filter.mp hm).2
  rw[n] at q; simp at q
theorem ah0{h:Heap}{H:Hp}{b:Addr}{o:Obj}(e:(t20 h H).get? b=some o):h.get? b=some o/\H b=none:=by
 have e':h.get? b=some o:=W.of_hideAll (trk h H) e
 refine⟨e',?_⟩
 cases q:H b with
 | none=>rfl
 | some x =>
  have hm:b∈trk h H:=List.mem_filter.mpr ⟨List.mem_range.mpr (Heap.lt_size e'),by simp[q]⟩
  have z:(t20 h H).get? b=none:=W.hideAll_none (trk h H) hm
  rw[z] at e; cases e
structure Mod(K:W.Frag)(mg:Str->Option Value)(base:Heap):Prop where
 kin:K.In base
 glob:base.Ns mainGlobals mg
 blt:∃mb,base.Ns builtinsNs mb/\∀x:Str,x ≠"__name__"->mb x=bootBuiltins x
 nolimit:base.NoLimit
structure Cx where
 prog:Program
 w:World
 K:W.Frag
 mg:Str->Option Value
 base:Heap
 A:Around
 N:List Str
 s₀:Shared
 H₀:Hp
 env:Env
 outer:List Env
 stack:List Env
 ex:List Addr
 fn:Str->Bool
 calm:Bool
 pn:List (Addr×Obj)
 xe:Value->Shared->Prop
def frs(l:List Env):List Addr:=l.filterMap (·.frame)
abbrev Cx.fs(X:Cx):List Addr:=frs X.outer
def Vis(sc:Scope)(x:Str):Prop:=sc.names.lookup x=some .local∨sc.names.lookup x=some .cell∨sc.names.lookup x=some .free
def Loc(sc:Scope)(x:Str):Prop:=sc.names.lookup x=some .local∨sc.names.lookup x=some .cell
def Look(env:Env)(h:Heap)(m:Str->Option Value)(x:Str)(u:Value):Prop :=
 (env.kindOf x=some .local/\m x=some u)∨((env.kindOf x=some .cell∨env.kindOf x=some .free)/\∃c,env.cells.lookup x=some c/\h.IsCell c (some u))
structure Cx.Ok(X:Cx):Prop where
 mod:Mod X.K X.mg X.base
 kind:X.env.scope.kind=.function
 glob:X.env.globals=mainGlobals
 blt:X.env.builtins=builtinsNs
 above:X.s₀.heap.objs.size<=X.env.locals
 inj:∀x y c,X.env.cells.lookup x=some c->X.env.cells.lookup y=some c->x=y
 has:∀x,(X.env.kindOf x=some .cell∨X.env.kindOf x=some .free)->∃c,X.env.cells.lookup x=some c
 cab:∀x c,X.fn x=true->X.env.cells.lookup x=some c->X.s₀.heap.objs.size<=c
 hd:X.calm=true->X.A.handled=none
 frames:X.A.frames=some X.stack
 stk:X.stack=X.outer∨(X.stack=X.env::X.outer/\X.env.frame=some X.env.locals)
 exf:∀b∈X.ex,b≠X.env.locals/\∀x c,X.env.cells.lookup x=some c->c≠b
 bs:∀b o,X.base.get? b=some o->X.s₀.heap.get? b=some o/\X.H₀ b=none
 bsz:X.base.objs.size<=X.s₀.heap.objs.size
 noex:∀b o,X.base.get? b=some o->b∉X.ex
 exfs:∀b∈X.ex,b∉X.fs
 funs:X.s₀.heap.FunFrames X.base X.outer
 frf:∀b∈X.fs,X.H₀ b=none
structure Inv(X:Cx)(pins:List (Addr×Obj))(σ:List (Option V))(H:Hp)(s:Shared):Prop where
 ok:X.Ok
 os:s.os=X.s₀.os
 bare:AllBare s.gens
 base:Un X.fs X.ex X.H₀ H X.s₀.heap s.heap
 loc:∃m,s.heap.Ns X.env.locals m/\∀(i:Nat) (x:Str) (v:V),X.N[i]?=some x->σ[i]?=some (some v)->Vis X.env.scope x->∃u,RelV v u/\Look X.env s.heap m x u
 cell:∀x c,X.env.cells.lookup x=some c->∃v,s.heap.IsCell c v
 free:H X.env.locals=none
 freeC:∀x c,X.env.cells.lookup x=some c->H c=none
 pin:∀p∈X.pn++pins,s.heap.get? p.1=some p.2/\H p.1=none/\p.1≠X.env.locals/\p.1∉X.fs/\∀v,p.2.data≠.cell v
 hok:HOk X.prog X.w H s.heap
 len:σ.length=X.N.length
section
variable{X:Cx}{pins:List (Addr×Obj)}{σ:List (Option V)}{H H':Hp}{s:Shared}{h':Heap}
theorem Cx.Ok.nofr(ok:X.Ok){b:Addr}{o:Obj}(e:X.base.get? b=some o):b∉X.fs:=fun hb=>by
 have:=(ok.funs.mem hb).1
 rw[e] at this; cases this
theorem Inv.bs(I:Inv X pins σ H s):∀b o,X.base.get? b=some o->s.heap.get? b=some o/\H b=none:=fun b o e =>
 ⟨I.base.keep b o (I.ok.bs b o e).1 (I.ok.bs b o e).2 (I.ok.nofr e) (I.ok.noex b o e),I.base.free b o (I.ok.bs b o e).1 (I.ok.bs b o e).2 (I.ok.noex b o e)⟩
theorem Inv.bk(I:Inv X pins σ H s):∀b o,X.base.get? b=some o->s.heap.get? b=some o:=fun b o e=>(I.bs b o e).1
theorem Inv.mod(I:Inv X pins σ H s):Mod X.K X.mg X.base:=I.ok.mod
theorem Inv.kIn(I:Inv X pins σ H s):X.K.In s.heap:=I.ok.mod.kin.keeps I.bk
theorem Inv.lt(I:Inv X pins σ H s):X.env.locals<s.heap.objs.size:=let ⟨_,hn,_⟩:=I.loc; hn.lt
theorem Inv.sz(I:Inv X pins σ H s):X.s₀.heap.objs.size<=s.heap.objs.size:=Nat.le_trans I.ok.above (Nat.le_of_lt I.lt)
theorem Inv.nofs(I:Inv X pins σ H s){a:Addr}(h:s.heap.objs.size<=a):a∉X.fs:=fun hb=>by
 obtain⟨_,o,ho,_⟩:=I.ok.funs.mem hb;exact absurd (Nat.lt_of_lt_of_le (Heap.lt_size ho) (Nat.le_trans I.sz h)) (Nat.lt_irrefl _)
theorem Inv.cne(I:Inv X pins σ H s):∀x c,X.env.cells.lookup x=some c->c≠X.env.locals:=fun x c e z=>by
 obtain⟨v,o,ho,hd⟩:=I.cell x c e;obtain⟨m,⟨o',es,ep,ho',hd',_⟩,_⟩:=I.loc;rw[z,ho'] at ho; cases ho; rw[hd'] at hd; cases hd
theorem Inv.funs(I:Inv X pins σ H s):s.heap.FunFrames X.base X.outer:=by
 have all:∀(l:List Env),(∀b∈frs l,b∈X.fs)->X.s₀.heap.FunFrames X.base l->s.heap.FunFrames X.base l:=by
  intro l
  induction l with
  | nil=>intro _ _; trivial
  | cons env r ih =>
   intro hs hl;obtain⟨hk,⟨L,o,hf,hn,ho,hd⟩,hr⟩:=hl;have hL:L∈X.fs:=hs L (by unfold frs; rw[List.filterMap_cons,hf]; exact List.mem_cons_self)
   obtain⟨sl,e⟩:=I.base.slot L o ho (I.ok.frf L hL) hL fun z=>I.ok.exfs L z hL
   exact⟨hk,⟨L,_,hf,hn,e,hd⟩,ih (fun b hb=>hs b (by unfold frs; rw[List.filterMap_cons,hf]; exact List.mem_cons_of_mem _ hb)) hr⟩
 exact all X.outer (fun _ hb=>hb) I.ok.funs
theorem Inv.stack(I:Inv X pins σ H s):s.heap.FunFrames X.base X.stack:=by
 rcases I.ok.stk with e|⟨e,hf⟩
 ·rw[e]; exact I.funs
 ·rw[e]
  obtain⟨m,hn,_⟩:=I.loc;refine .cons (by rw[I.ok.kind]; decide) hf hn ?_ I.funs
  exact Heap.get?_none_of_le (Nat.le_trans I.ok.bsz I.ok.above)
theorem Inv.stkSub(I:Inv X pins σ H s):∀b∈frs X.stack,b∈X.env.locals::X.fs:=fun b hb=>by
 rcases I.ok.stk with e|⟨e,hf⟩
 ·rw[e] at hb; exact List.mem_cons_of_mem _ hb
 ·rw[e] at hb
  unfold frs at hb;rw[List.filterMap_cons,hf] at hb;exact hb
theorem Inv.stkFree(I:Inv X pins σ H s):∀b∈frs X.stack,H b=none:=fun b hb=>by
 rcases List.mem_cons.mp (I.stkSub b hb) with e|hb
 ·rw[e]; exact I.free
 ·obtain⟨_,o,ho,_⟩:=I.ok.funs.mem hb
  exact I.base.free b o ho (I.ok.frf b hb) fun z=>I.ok.exfs b z hb
theorem Inv.step{g':Array GenState}{t':Nat}{d':Drawn}{ch:List Addr}(I:Inv X pins σ H s)
  (hch:∀b∈ch,(b∈X.ex∨X.s₀.heap.objs.size<=b)/\b≠X.env.locals/\(∀x c,X.env.cells.lookup x=some c->c≠b)/\∀p∈X.pn++pins,p.1≠b)
  (keep:∀b o,b≠X.env.locals->b∉X.fs->b∉ch->s.heap.get? b=some o->H b=none->h'.get? b=some o)
  (slot:∀b o,b≠X.env.locals->b∈X.fs->b∉ch->s.heap.get? b=some o->H b=none->∃sl,h'.get? b=some { o with slots:=sl }) (free:∀b o,b∉ch->s.heap.get? b=some o->H b=none->H' b=none)
  (there:∀b o,b∉ch->s.heap.get? b=some o->∃o',h'.get? b=some o')
  (tups:∀b xs,H b=some (.tup xs)->H' b=some (.tup xs)) (frzs:∀b o u,H b=some (.frz o u)->H' b=some (.frz o u)) (tbls:∀b ps,H b=some (.tbl ps)->∃more,H' b=some (.tbl (ps++more)))
  (ns:∀m,s.heap.Ns X.env.locals m->h'.Ns X.env.locals m) (hok:HOk X.prog X.w H' h') (hg:AllBare g') :
  Inv X pins σ H' { s with heap:=h',gens:=g',drawn:=d',toks:=t' }:=by
 have neL:∀b o,X.s₀.heap.get? b=some o->b≠X.env.locals:=fun b o e=>Nat.ne_of_lt (Nat.lt_of_lt_of_le (Heap.lt_size e) I.ok.above)
 have neC:∀b o,X.s₀.heap.get? b=some o->b∉X.ex->b∉ch:=fun b o e hx hb=>by
  rcases (hch b hb).1 with z|z
  ·exact hx z
  ·exact absurd (Nat.lt_of_lt_of_le (Heap.lt_size e) z) (Nat.lt_irrefl _)
 have cellK:∀x c,X.env.cells.lookup x=some c->∀v,s.heap.IsCell c v->h'.IsCell c v:=fun x c e v ⟨o,ho,hd⟩=>by
  have nch:c∉ch:=fun z=>(hch c z).2.2.1 x c e rfl
  by_cases hc:c∈X.fs
  ·obtain⟨sl,q⟩:=slot c o (I.cne x c e) hc nch ho (I.freeC x c e)
   exact⟨_,q,hd⟩
  ·exact⟨o,keep c o (I.cne x c e) hc nch ho (I.freeC x c e),hd⟩
 refine⟨I.ok,I.os,hg,⟨fun b o e n hb hx=>?_,fun b o e n hb hx=>?_,fun b o e n hx=>?_,fun b o e hx=>?_,fun b xs e=>tups b xs (I.base.tups b xs e),fun b o xs e=>frzs b o xs (I.base.frzs b o xs e),fun b ps e=>?_⟩,?_,fun x c e=>?_,?_,fun x c e=>?_,fun p hp=>?_,hok,I.len⟩
 ·exact keep b o (neL b o e) hb (neC b o e hx) (I.base.keep b o e n hb hx) (I.base.free b o e n hx)
 ·obtain⟨sl,e1⟩:=I.base.slot b o e n hb hx
  obtain⟨sl',e2⟩:=slot b _ (neL b o e) hb (neC b o e hx) e1 (I.base.free b o e n hx);exact⟨sl',e2⟩
 ·obtain⟨o',e1⟩:=I.base.there b o e hx
  exact free b o' (neC b o e hx) e1 (I.base.free b o e n hx)
 ·obtain⟨o',e1⟩:=I.base.there b o e hx
  exact there b o' (neC b o e hx) e1
 ·obtain⟨m1,e1⟩:=I.base.tbls b ps e
  obtain⟨m2,e2⟩:=tbls b _ e1;exact⟨m1++m2,by rw[e2,Array.append_assoc]⟩
 ·obtain⟨m,hn,hl⟩:=I.loc
  refine⟨m,ns m hn,fun i x v e1 e2 e3=>?_⟩
  obtain⟨u,r,l⟩:=hl i x v e1 e2 e3;refine⟨u,r,?_⟩
  rcases l with l|⟨k,c,e,z⟩
  ·exact .inl l
  ·exact .inr ⟨k,c,e,cellK x c e _ z⟩
 ·obtain⟨v,z⟩:=I.cell x c e
  exact⟨v,cellK x c e v z⟩
 ·obtain⟨m,⟨o,_,_,ho,_⟩,_⟩:=I.loc
  exact free _ o (fun z=>(hch _ z).2.1 rfl) ho I.free
 ·obtain⟨v,o,ho,hd⟩:=I.cell x c e
  exact free c o (fun z=>(hch c z).2.2.1 x c e rfl) ho (I.freeC x c e)
 ·obtain⟨e,n,ne,nf,d⟩:=I.pin p hp
  have nch:p.1∉ch:=fun z=>(hch p.1 z).2.2.2 p hp rfl
  exact⟨keep p.1 p.2 ne nf nch e n,free p.1 p.2 nch e n,ne,nf,d⟩
theorem Inv.un{t':Nat}(I:Inv X pins σ H s)(u:Un X.fs [] H H' s.heap h')(hok:HOk X.prog X.w H' h'):Inv X pins σ H' { s with heap:=h',toks:=t' }:=by
 obtain⟨m,⟨o,es,ep,ho,r⟩,_⟩:=id I.loc;obtain⟨sl,hL⟩:=u.any ho I.free (by simp)
 exact I.step (g':=s.gens) (d':=s.drawn) (ch:=[]) (fun _ z=>nomatch z) (fun b o _ hb _ e n=>u.keep b o e n hb (by simp)) (fun b o _ hb _ e n=>u.slot b o e n hb (by simp)) (fun b o _ e n=>u.free b o e n (by simp)) (fun b o _ e=>u.there b o e (by simp)) u.tups u.frzs u.tbls (fun m' hm=>by
  obtain⟨o',es',ep',ho',r'⟩:=hm;rw[ho] at ho'; cases ho';exact⟨_,es',ep',hL,r'⟩) hok I.bare
theorem Inv.call{g':Array GenState}{t':Nat}{d':Drawn}{ch:List Addr}(I:Inv X pins σ H s)(u:Un (frs X.stack) ch H H' s.heap h')(hok:HOk X.prog X.w H' h')(hg:AllBare g')
  (hch:∀b∈ch,(b∈X.ex∨X.s₀.heap.objs.size<=b)/\b≠X.env.locals/\(∀x c,X.env.cells.lookup x=some c->c≠b)/\∀p∈X.pn++pins,p.1≠b) :
  Inv X pins σ H' { s with heap:=h',gens:=g',drawn:=d',toks:=t' }:=by
 obtain⟨m,⟨o,es,ep,ho,r⟩,_⟩:=id I.loc;obtain⟨sl,hL⟩:=u.any ho I.free fun z=>(hch _ z).2.1 rfl
 exact I.step (ch:=ch) hch (fun b o hL hb hc e n=>u.keep b o e n (fun z=>(List.mem_cons.mp (I.stkSub b z)).elim hL hb) hc) (fun b o _ _ hc e n=>u.any e n hc) (fun b o hc e n=>u.free b o e n hc) (fun b o hc e=>u.there b o e hc) u.tups u.frzs u.tbls (fun m' hm=>by
  obtain⟨o',es',ep',ho',r'⟩:=hm;rw[ho] at ho'; cases ho';exact⟨_,es',ep',hL,r'⟩) hok hg
theorem Inv.turned{t':Nat}{it:Addr}(I:Inv X pins σ H s)(k:∀b o,b≠it->s.heap.get? b=some o->h'.get? b=some o)(hn:H it=none)(hL:it≠X.env.locals)
  (h1:it∈X.ex∨X.s₀.heap.objs.size<=it) (h2:∀x c,X.env.cells.lookup x=some c->c≠it) (h3:∀p∈X.pn++pins,p.1≠it):Inv X pins σ H { s with heap:=h',toks:=t' }:=by
 have nit:∀b u,H b=some u->b≠it:=fun b u e z=>by rw[z,hn] at e; cases e
 refine I.step (g':=s.gens) (d':=s.drawn) (ch:=[it]) (fun b hb=>?_) (fun b o _ _ hc e _=>k b o (fun z=>hc (by simp[z])) e) (fun b o _ _ hc e _=>⟨o.slots,k b o (fun z=>hc (by simp[z])) e⟩) (fun _ _ _ _ n=>n)
  (fun b o hc e=>⟨o,k b o (fun z=>hc (by simp[z])) e⟩) (fun _ _ e=>e) (fun _ _ _ e=>e) (fun b ps e=>⟨#[],by rw[e]; simp⟩) (fun m hm=>?_) (fun b u e=>?_) I.bare
 ·have e:b=it:=by simpa using hb
  subst e;exact⟨h1,hL,h2,h3⟩
 ·obtain⟨o,es,ep,ho,r⟩:=hm
  exact⟨o,es,ep,k _ o (Ne.symm hL) ho,r⟩
 ·refine(I.hok b u e).stay (fun c v hc q=>k c v ?_ q) (fun _ q=>q) fun _ _ q=>q
  rcases hc with z|z
  ·rw[z]; exact nit b u e
  ·exact nit c _ z
theorem Inv.tok(I:Inv X pins σ H s)(t:Nat):Inv X pins σ H { s with toks:=t }:=I.un (h':=s.heap) (t':=t) Un.refl I.hok
theorem Inv.kept{t':Nat}(I:Inv X pins σ H s)(k:∀b u,s.heap.get? b=some u->h'.get? b=some u):Inv X pins σ H { s with heap:=h',toks:=t' }:=I.un (Un.kept k) (I.hok.kept k)
theorem Inv.laid{a:Addr}{o:HO}{t':Nat}(I:Inv X pins σ H s)(k:∀b u,s.heap.get? b=some u->h'.get? b=some u)(hp:s.heap.objs.size<=a)(new:ObjOk X.prog X.w (upd H a o) h' a o) :
  Inv X pins σ (upd H a o) { s with heap:=h',toks:=t' }:=I.un (Un.laid k hp (I.hok.fresh hp)) (I.hok.laid k hp new)
theorem Inv.write{x e:Addr}{o:HO}{t':Nat}(I:Inv X pins σ H s)(mu:Mut (H x))(he:e=x∨H e=some (.own x))(k:∀b u,b≠e->s.heap.get? b=some u->h'.get? b=some u)(heo:∃u,h'.get? e=some u)
  (new:ObjOk X.prog X.w (upd H x o) h' x o):Inv X pins σ (upd H x o) { s with heap:=h',toks:=t' }:=I.un (Un.write mu he k heo) (I.hok.write mu he k heo new)
theorem Inv.weak{σ':List (Option V)}(I:Inv X pins σ H s)(hl:σ'.length=σ.length)(w:∀(i:Nat) v,σ'[i]?=some (some v)->σ[i]?=some (some v)):Inv X pins σ' H s :=
 ⟨I.ok,I.os,I.bare,I.base,let ⟨m,hn,hl'⟩:=I.loc; ⟨m,hn,fun i x v e1 e2 e3=>hl' i x v e1 (w i v e2) e3⟩,I.cell,I.free,I.freeC,I.pin,I.hok,hl.trans I.len⟩
theorem Inv.pins_of{pins':List (Addr×Obj)}(I:Inv X pins σ H s)(h:∀p∈pins',s.heap.get? p.1=some p.2/\H p.1=none/\p.1≠X.env.locals/\p.1∉X.fs/\∀v,p.2.data≠.cell v):Inv X pins' σ H s :=
 ⟨I.ok,I.os,I.bare,I.base,I.loc,I.cell,I.free,I.freeC,fun p hp=>(List.mem_append.mp hp).elim (fun z=>I.pin p (List.mem_append_left _ z)) (h p),I.hok,I.len⟩
theorem lh0{N:List Str}(hN:N.Nodup){i j:Nat}{x:Str}(a:N[i]?=some x)(b:N[j]?=some x):i=j:=by
 obtain⟨h1,e1⟩:=List.getElem?_eq_some_iff.mp a
 obtain⟨h2,e2⟩:=List.getElem?_eq_some_iff.mp b
 exact(List.getElem_inj hN).mp (e1.trans e2.symm)
theorem pq0{M:Model}{A:Around}{E:Value->Shared->Prop}{i:Nat}{x:Str}{v:V}{u:Value}{Q:Unit->Shared->Prop}(I:Inv X pins σ H s)(hN:X.N.Nodup)(hi:X.N[i]?=some x)(hx:Loc X.env.scope x)(r:RelV v u)
  (h:∀s',Inv X pins (σ.set i (some v)) H s'->(∃a,Heap.SameBut a s.heap s'.heap/\(a=X.env.locals∨X.env.cells.lookup x=some a))->Q () s') (hf:X.fn x=true∨X.env.scope.names.lookup x=some .local:=by first|exact .inl rfl|exact .inr rfl|assumption):wpAny M A (storeName X.env x u) Q E s:=by
 obtain⟨m,hn,hl⟩:=id I.loc;have hcls:(X.env.scope.kind==.class||(X.env.scope.kind==.module&&X.env.locals != X.env.globals))=false:=by rw[I.ok.kind]; rfl
 have hiσ:i<σ.length:=by rw[I.len]; exact(List.getElem?_eq_some_iff.mp hi).1
 have cne:=I.cne
 have tracked:∀{a:Addr} {h':Heap},(∃o,s.heap.get? a=some o/\H a=none)->Heap.SameBut a s.heap h'->HOk X.prog X.w H h':=fun {a h'} ha hs b ob e=>by
  obtain⟨_,_,hfree⟩:=ha;refine(I.hok b ob e).stay (fun c w' hc q=>(hs.2 c ?_).trans q) (fun _ q=>q) fun _ _ q=>q
  rintro rfl
  rcases hc with rfl|hc
  ·rw[hfree] at e; cases e
  ·rw[hfree] at hc; cases hc
 rcases hx with hk|hk
 ·refine wpAny_storeName_local hk hn (fun h' hn' hs=>?_) hcls
  obtain⟨oL,_,_,hoL,_⟩:=id hn;refine h _ ⟨I.ok,I.os,I.bare,⟨fun b o e n hb hx=>?_,fun b o e n hb hx=>?_,I.base.free,fun b o e hx=>?_,I.base.tups,I.base.frzs,I.base.tbls⟩,⟨_,hn',fun j y v' e1 e2 e3=>?_⟩,fun y c e=>?_,I.free,I.freeC,fun p hp=>?_,tracked ⟨oL,hoL,I.free⟩ hs,by simpa using I.len⟩ ⟨_,hs,.inl rfl⟩
  ·exact(hs.2 b (Nat.ne_of_lt (Nat.lt_of_lt_of_le (Heap.lt_size e) I.ok.above))).trans (I.base.keep b o e n hb hx)
  ·obtain⟨sl,e1⟩:=I.base.slot b o e n hb hx
   exact⟨sl,(hs.2 b (Nat.ne_of_lt (Nat.lt_of_lt_of_le (Heap.lt_size e) I.ok.above))).trans e1⟩
  ·obtain⟨o',e1⟩:=I.base.there b o e hx
   exact⟨o',(hs.2 b (Nat.ne_of_lt (Nat.lt_of_lt_of_le (Heap.lt_size e) I.ok.above))).trans e1⟩
  ·by_cases hj:j=i
   ·subst hj
    rw[hi] at e1; cases e1;rw[List.getElem?_set_self hiσ] at e2
    cases e2;exact⟨u,r,.inl ⟨hk,by simp⟩⟩
   ·rw[List.getElem?_set_ne (Ne.symm hj)] at e2
    obtain⟨u',r',q⟩:=hl j y v' e1 e2 e3;refine⟨u',r',?_⟩
    rcases q with⟨k,e⟩|⟨k,c,e,z⟩
    ·refine .inl ⟨k,?_⟩
     have:y≠x:=fun e=>hj (lh0 hN e1 (e▸hi))
     simp[this,e]
    ·exact .inr ⟨k,c,e,z.sameBut hs (cne y c e)⟩
  ·obtain⟨w',z⟩:=I.cell y c e
   exact⟨w',z.sameBut hs (cne y c e)⟩
  ·obtain⟨e,n,ne,nf,d⟩:=I.pin p hp
   exact⟨(hs.2 p.1 ne).trans e,n,ne,nf,d⟩
 ·have hfn:X.fn x=true:=by
   rcases hf with z|z
   ·exact z
   ·rw[z] at hk; cases hk
  obtain⟨c,hc⟩:=I.ok.has x (.inl hk);obtain⟨w',z⟩:=I.cell x c hc;refine wpAny_storeName_cell I.ok.kind hk hc z (fun h' hc' hs=>?_)
  obtain⟨oc,hoc,hocd⟩:=id z;refine h { s with heap:=h' } ⟨I.ok,I.os,I.bare,⟨fun b o e n hb hx=>?_,fun b o e n hb hx=>?_,I.base.free,fun b o e hx=>?_,I.base.tups,I.base.frzs,I.base.tbls⟩,⟨m,hn.sameBut hs (Ne.symm (cne x c hc)),fun j y v' e1 e2 e3=>?_⟩,fun y c' e=>?_,I.free,I.freeC,fun p hp=>?_,tracked ⟨oc,hoc,I.freeC x c hc⟩ hs,by simpa using I.len⟩ ⟨c,hs,.inr hc⟩
  ·exact(hs.2 b (Nat.ne_of_lt (Nat.lt_of_lt_of_le (Heap.lt_size e) (I.ok.cab x c hfn hc)))).trans (I.base.keep b o e n hb hx)
  ·obtain⟨sl,e1⟩:=I.base.slot b o e n hb hx
   exact⟨sl,(hs.2 b (Nat.ne_of_lt (Nat.lt_of_lt_of_le (Heap.lt_size e) (I.ok.cab x c hfn hc)))).trans e1⟩
  ·obtain⟨o',e1⟩:=I.base.there b o e hx
   exact⟨o',(hs.2 b (Nat.ne_of_lt (Nat.lt_of_lt_of_le (Heap.lt_size e) (I.ok.cab x c hfn hc)))).trans e1⟩
  ·by_cases hj:j=i
   ·subst hj
    rw[hi] at e1; cases e1;rw[List.getElem?_set_self hiσ] at e2
    cases e2;exact⟨u,r,.inr ⟨.inl hk,c,hc,hc'⟩⟩
   ·rw[List.getElem?_set_ne (Ne.symm hj)] at e2
    obtain⟨u',r',q⟩:=hl j y v' e1 e2 e3;refine⟨u',r',?_⟩
    rcases q with q|⟨k,c',e,z'⟩
    ·exact .inl q
    ·refine .inr ⟨k,c',e,z'.sameBut hs ?_⟩
     rintro rfl
     exact hj (lh0 hN e1 (I.ok.inj _ _ _ e hc▸hi))
  ·by_cases hcc:c'=c
   ·subst hcc; exact⟨_,hc'⟩
   ·obtain⟨w2,z2⟩:=I.cell y c' e
    exact⟨w2,z2.sameBut hs hcc⟩
  ·obtain⟨e,n,ne,nf,d⟩:=I.pin p hp
   refine⟨(hs.2 p.1 ?_).trans e,n,ne,nf,d⟩
   intro q;rw[q,hoc] at e;have q':oc=p.2:=Option.some.inj e;exact d w' (by rw[← q']; exact hocd)
theorem dq0{M:Model}{A:Around}{E:Value->Shared->Prop}{i:Nat}{x:Str}{v:V}{u:Value}{Q:Unit->Shared->Prop}(I:Inv X pins σ H s)(hN:X.N.Nodup)(hi:X.N[i]?=some x)(hx:Loc X.env.scope x)(r:RelV v u)
  (h:∀s',Inv X pins (σ.set i (some v)) H s'->Q () s') (hf:X.fn x=true∨X.env.scope.names.lookup x=some .local:=by first|exact .inl rfl|exact .inr rfl|assumption):wpAny M A (storeName X.env x u) Q E s :=
 pq0 I hN hi hx r (fun s' I' _=>h s' I') hf
theorem Inv.call'{s':Shared}{ch:List Addr}(I:Inv X pins σ H s)(ho:s'.os=s.os)(u:Un (frs X.stack) ch H H' s.heap s'.heap)(hok:HOk X.prog X.w H' s'.heap)(hg:AllBare s'.gens)
  (hch:∀b∈ch,(b∈X.ex∨X.s₀.heap.objs.size<=b)/\b≠X.env.locals/\(∀x c,X.env.cells.lookup x=some c->c≠b)/\∀p∈X.pn++pins,p.1≠b):Inv X pins σ H' s':=by
 obtain⟨h',g',d',t',o'⟩:=s';have e:o'=s.os:=ho;subst e;exact I.call (g':=g') (t':=t') (d':=d') u hok hg hch
end
abbrev XK:=Value->Option Addr->Hp->Prop
abbrev St:=List (Option V)
abbrev VK:=V->Hp->Prop
abbrev TE:=St->Hp->VK->Prop
abbrev TT:=St->Hp->(Bool->Hp->Prop)->Prop
abbrev TA:=St->Hp->(List V->Hp->Prop)->Prop
structure Ends where
 nx:St->Hp->Prop
 rt:VK
 bk:St->Hp->Prop:=fun _ _=>False
 ct:St->Hp->Prop:=fun _ _=>False
abbrev TS:=Ends->St->Hp->Prop
def EP(X:Cx)(pins:List (Addr×Obj))(σ:St)(Q:VK)(u:Value)(s':Shared):Prop:=∃v H',Inv X pins σ H' s'/\RelV v u/\Q v H'
def TP(X:Cx)(pins:List (Addr×Obj))(σ:St)(Q:Bool->Hp->Prop)(b:Bool)(s':Shared):Prop:=∃H',Inv X pins σ H' s'/\Q b H'
def AP(X:Cx)(pins:List (Addr×Obj))(σ:St)(Q:List V->Hp->Prop)(us:List Value)(s':Shared):Prop:=∃vs H',Inv X pins σ H' s'/\Vals vs us/\Q vs H'
def SP(X:Cx)(pins:List (Addr×Obj))(D:Ends)(f:Flow)(s':Shared):Prop :=
 match f with
 | .next=>∃σ' H',Inv X pins σ' H' s'/\D.nx σ' H'
 | .brk=>∃σ' H',Inv X pins σ' H' s'/\D.bk σ' H'
 | .cont=>∃σ' H',Inv X pins σ' H' s'/\D.ct σ' H'
 | .ret u=>∃v σ' H',Inv X pins σ' H' s'/\RelV v u/\D.rt v H'
def PE(X:Cx)(e:Expr)(t:TE):Prop :=
 ∀(pins:List (Addr×Obj)) (s:Shared) (σ:St) (H:Hp) (Q:VK),Inv X pins σ H s->t σ H Q->wpAny (model X.prog X.w) X.A (eval e X.env) (EP X pins σ Q) X.xe s
def PT(X:Cx)(e:Expr)(t:TT):Prop :=
 ∀(pins:List (Addr×Obj)) (s:Shared) (σ:St) (H:Hp) (Q:Bool->Hp->Prop),Inv X pins σ H s->t σ H Q->wpAny (model X.prog X.w) X.A (isTrue e X.env (eval e X.env)) (TP X pins σ Q) X.xe s
def PW(X:Cx)(e:Expr)(t:TT):Prop :=
 ∀(whole:Sem Value) (pins:List (Addr×Obj)) (s:Shared) (σ:St) (H:Hp) (Q:Bool->Hp->Prop),Inv X pins σ H s->t σ H Q->wpAny (model X.prog X.w) X.A (isTrue e X.env whole) (TP X pins σ Q) X.xe s
theorem PW.pt{X:Cx}{e:Expr}{t:TT}(h:PW X e t):PT X e t:=h _
def PA(X:Cx)(es:List Expr)(t:TA):Prop :=
 ∀(pos:Pos) (pins:List (Addr×Obj)) (s:Shared) (σ:St) (H:Hp) (Q:List V->Hp->Prop),Inv X pins σ H s->t σ H Q->wpAny (model X.prog X.w) X.A (spliced (backTo pos (starEach es X.env))) (AP X pins σ Q) X.xe s
def PS(X:Cx)(st:Stmt)(t:TS):Prop :=
 ∀(pins:List (Addr×Obj)) (s:Shared) (σ:St) (H:Hp) (D:Ends),Inv X pins σ H s->t D σ H->wpAny (model X.prog X.w) X.A (exec st X.env) (SP X pins D) X.xe s
def PSs(X:Cx)(st:List Stmt)(t:TS):Prop :=
 ∀(pins:List (Addr×Obj)) (s:Shared) (σ:St) (H:Hp) (D:Ends),Inv X pins σ H s->t D σ H->wpAny (model X.prog X.w) X.A (execs st X.env) (SP X pins D) X.xe s
theorem thn{α:Type}{t:Sem α}{Q Q':α->Shared->Prop}{M:Model}{A:Around}{E:Value->Shared->Prop}{s:Shared}(h:wpAny M A t Q E s)(hQ:∀a s,Q a s->Q' a s):wpAny M A t Q' E s:=wpAny_mono h hQ fun _ _ x=>x
section
variable{X:Cx}
def Uv0(i:Nat):TE:=fun σ H Q=>∃v,σ[i]?=some (some v)/\Q v H
def tC(v:V):TE:=fun _ H Q=>Q v H
theorem yl0{i:Nat}{x:Str}{pos:Pos}(hN:X.N[i]?=some x)(hv:Vis X.env.scope x)(hd:(x==("__debug__" : Str))=false:=by decide)(hcd:(x==("__classdict__" : Str))=false:=by decide):PE X (.Name x pos) (Uv0 i):=by
 intro pins s σ H Q I h;obtain⟨v,e,h⟩:=h;obtain⟨m,hn,hl⟩:=I.loc;obtain⟨u,r,l⟩:=hl i x v hN e hv;have fin:EP X pins σ Q u s:=⟨v,H,I,r,h⟩;rcases l with⟨hk,hm⟩|⟨hk,c,hc,hcell⟩
 ·exact wpAny_Name (wpAny_loadName_local I.ok.kind hk hn hm fin) hd
 ·rcases hk with hk|hk
  ·exact wpAny_Name (wpAny_loadName_cell I.ok.kind hk hc hcell fin) hd
  ·exact wpAny_Name (wpAny_loadName_free I.ok.kind hk hc hcell fin hcd) hd
theorem W80{i j pos}:PE X (.Constant (.int i) j pos) (tC (.int i)):=fun _ _ _ H _ I h=>wpAny_Constant_int ⟨.int i,H,I.tok _,⟨_,rfl⟩,h⟩
theorem V30{b j pos}:PE X (.Constant (.bool b) j pos) (tC (.bl b)):=fun _ _ _ H _ I h=>Constant_bool ⟨.bl b,H,I,rfl,h⟩
theorem Xq0{j pos}:PE X (.Constant .none j pos) (tC .non):=fun _ _ _ H _ I h=>Constant_none ⟨.non,H,I,rfl,h⟩
theorem Yr0{x j pos}:PE X (.Constant (.str x) j pos) (tC (.str x)):=fun _ _ _ H _ I h=>Calls.Constant_str ⟨.str x,H,I.tok _,⟨_,rfl⟩,h⟩
def Gl(X:Cx)(x:Str):Prop:=X.env.kindOf x=some .globalImplicit
theorem Y30{E:Value->Shared->Prop}{pins:List (Addr×Obj)}{s:Shared}{σ:St}{H:Hp}{x:Str}{u:Value}{pos:Pos}{Q:Value->Shared->Prop}(I:Inv X pins σ H s)(hg:Gl X x)(hm:X.mg x=some u)(h:Q u s)
  (hd:(x==("__debug__" : Str))=false:=by decide):wpAny (model X.prog X.w) X.A (eval (.Name x pos) X.env) Q E s :=
 Calls.Name_function_global I.ok.kind hg (Calls.loadGlobal_global (by rw[I.ok.glob]; exact I.mod.glob.keeps I.bk) hm h) hd
theorem N5{E:Value->Shared->Prop}{pins:List (Addr×Obj)}{s:Shared}{σ:St}{H:Hp}{x:Str}{u:Value}{pos:Pos}{Q:Value->Shared->Prop}(I:Inv X pins σ H s)(hg:Gl X x)(hm:X.mg x=none)(hv:bootBuiltins x=some u)(h:Q u s)
  (hn:x ≠"__name__" := by decide) (hd:(x==("__debug__" : Str))=false:=by decide):wpAny (model X.prog X.w) X.A (eval (.Name x pos) X.env) Q E s:=by
 obtain⟨mb,h1,h2⟩:=I.mod.blt;exact Calls.Name_function_global I.ok.kind hg (Calls.loadGlobal_builtin (by rw[I.ok.glob]; exact I.mod.glob.keeps I.bk) hm (by rw[I.ok.blt]; exact h1.keeps I.bk) ((h2 x hn).trans hv) h) hd
theorem Zo0{x:Str}{v:V}{u:Value}{pos:Pos}(hg:Gl X x)(hm:X.mg x=none)(hv:bootBuiltins x=some u)(r:RelV v u)(hn:x ≠"__name__" := by decide)(hd:(x==("__debug__" : Str))=false:=by decide):PE X (.Name x pos) (tC v) :=
 fun _ _ _ H _ I h=>N5 I hg hm hv ⟨v,H,I,r,h⟩ hn hd
variable{a b:Expr}{ta tb:TE}{pos:Pos}
def PC(X:Cx)(op:CmpOp)(a b:Expr)(t:TE):Prop :=
 ∀(pins:List (Addr×Obj)) (s:Shared) (σ:St) (H:Hp) (Q:VK),Inv X pins σ H s->t σ H Q ->
  wpAny (model X.prog X.w) X.A (eval a X.env) (fun v s₁=>wpAny (model X.prog X.w) X.A (eval b X.env) (fun u s₂=>wpAny (model X.prog X.w) X.A (compareOp op v u) (EP X pins σ Q) X.xe s₂) X.xe s₁) X.xe s
def tB(t:TE):TT:=fun σ H Q=>t σ H fun x H1=>∃c,x=.bl c/\Q c H1
theorem Yt0{op:CmpOp}{t:TE}(h:PC X op a b t)(h1:behindInMarks op b=false:=by first|exact nobehind _ (by decide) (by decide)|rfl):PT X (.Compare a [op] [b] pos) (tB t):=by
 intro pins s σ H Q I hw;refine wpAny_isTrue_Compare1 (thn (h pins s σ H _ I hw) fun v s1 h1=>thn h1 fun u s2 h2=>thn h2 fun c s3 ⟨x,H1,I1,r1,q1⟩=>?_) h1
 obtain⟨d,rfl,q⟩:=q1;cases r1;exact wpAny_truthy_bool ⟨H1,I1,q⟩
theorem Wn0{e:Expr}{t:TE}(h:PE X e t)(he:∀whole,isTrue e X.env whole=(do let v ← whole; standAt e.pos; holding [v] (truthy v)):=by intro _; rfl):PT X e (tB t):=by
 intro pins s σ H Q I hw;refine isTrue_plain (thn (h pins s σ H _ I hw) fun v s1 ⟨x,H1,I1,r1,q1⟩=>?_) (he _)
 obtain⟨d,rfl,q⟩:=q1;cases r1;exact wpAny_truthy_bool ⟨H1,I1,q⟩
variable{tA tB':TT}{rest:List Expr}
def tOr(t u:TT):TT:=fun σ H Q=>t σ H fun c H1=>if c=true then Q true H1 else u σ H1 Q
def T00(t:TT):TT:=fun σ H Q=>t σ H fun c H1=>Q (!c) H1
theorem Xp0(ha:PT X a tA):PW X (.BoolOp .Or [a] pos) tA:=by
 intro wh pins s σ H Q I h;refine isTrue_or (thn (ha pins s σ H Q I h) fun c s1 e=>?_)
 cases c with
 | false=>exact isTrue_or_nil e
 | true=>exact e
theorem Vi0(ha:PT X a tA)(hb:PW X (.BoolOp .Or (b::rest) pos) tB'):PW X (.BoolOp .Or (a::b::rest) pos) (tOr tA tB'):=by
 intro wh pins s σ H Q I h;refine isTrue_or (thn (ha pins s σ H _ I h) fun c s1 ⟨H1,I1,q1⟩=>?_)
 cases c with
 | true=>exact⟨H1,I1,q1⟩
 | false=>exact hb wh pins s1 σ H1 Q I1 q1
theorem X20(ha:PT X a tA):PT X (.UnaryOp .Not a pos) (T00 tA):=by
 intro pins s σ H Q I h;exact isTrue_not (ha pins s σ H (fun c H1=>Q (!c) H1) I h)
def Vf0(ta tb:TE):TE:=fun σ H Q=>ta σ H fun x H1=>∃c,x=.bl c/\if c=true then tb σ H1 Q else Q (.bl false) H1
theorem X90{op}{t:TE}(h:PE X a t):PE X (.BoolOp op [a] pos) t:=fun pins s σ H Q I hw=>BoolOp_one (h pins s σ H Q I hw)
theorem W50(ha:PE X a ta)(hb:PE X (.BoolOp .And (b::rest) pos) tb):PE X (.BoolOp .And (a::b::rest) pos) (Vf0 ta tb):=by
 intro pins s σ H Q I h;refine BoolOp_and (thn (ha pins s σ H _ I h) fun v s1 ⟨x,H1,I1,r1,q1⟩=>?_)
 obtain⟨c,rfl,q1⟩:=q1;cases r1;refine wpAny_truthy_bool ?_
 cases c with
 | true=>exact hb pins s1 σ H1 Q I1 q1
 | false=>exact⟨.bl false,H1,I1,rfl,q1⟩
def tIf(t:TT)(ta tb:TE):TE:=fun σ H Q=>t σ H fun c H1=>if c=true then ta σ H1 Q else tb σ H1 Q
theorem dp0{c:Expr}(hc:PT X c tA)(ha:PE X a ta)(hb:PE X b tb):PE X (.IfExp c a b pos) (tIf tA ta tb):=by
 intro pins s σ H Q I h;refine wpAny_IfExp (thn (hc pins s σ H _ I h) fun d s1 ⟨H1,I1,q1⟩=>?_)
 cases d with
 | true=>exact ha pins s1 σ H1 Q I1 q1
 | false=>exact hb pins s1 σ H1 Q I1 q1
end
def SqL(K:W.Frag)(H:Hp)(a:Addr)(xs:List V):Prop :=
 Rd H a (.lst xs) ∨
  ∃(o:Obj) (its:Array Value) (n:Nat),K.lookup a=some o/\o.cls=.type "list"/\o.dict=none/\o.data=.seq its n/\its.size<=sizeLine/\Vals xs its.toList
def SqT(K:W.Frag)(H:Hp)(a:Addr)(xs:List V):Prop :=
 Rd H a (.tup xs) ∨
  ∃(o:Obj) (its:Array Value) (n:Nat),K.lookup a=some o/\o.cls=.type "tuple"/\o.data=.seq its n/\its.size<=sizeLine/\Vals xs its.toList
def T10:Value->Option V
 | .none=>some .non
 | .bool b=>some (.bl b)
 | .int i _=>some (.int i)
 | .str x _=>some (.str x)
 | .bytes b _=>some (.byt b)
 | .float b _=>some (.flt b)
 | .ref a=>some (.ref a)
 | .type n=>some (.ty n)
 | _=>none
theorem RelV.abs{x:V}{u:Value}(r:RelV x u):T10 u=some x:=by
 cases x with
 | non=>cases r; rfl
 | bl _=>cases r; rfl
 | int _=>obtain⟨t,rfl⟩:=r; rfl
 | str _=>obtain⟨t,rfl⟩:=r; rfl
 | byt _=>obtain⟨t,rfl⟩:=r; rfl
 | flt _=>obtain⟨t,rfl⟩:=r; rfl
 | ref _=>cases r; rfl
 | ty _=>cases r; rfl
theorem RelV.inj{x y:V}{u:Value}(r:RelV x u)(q:RelV y u):x=y:=Option.some.inj (r.abs.symm.trans q.abs)
theorem Vals.inj:∀{xs ys:List V} {us:List Value},Vals xs us->Vals ys us->xs=ys
 | _,_,_,.nil,.nil=>rfl
 | _,_,_,.cons r t,.cons r' t'=>by rw[r.inj r',Vals.inj t t']
section
variable{X:Cx}{pins:List (Addr×Obj)}{σ:St}{H:Hp}{s:Shared}{a:Addr}{xs ys:List V}
theorem SqT.of{K:W.Frag}(h:H a=some (.tup xs)):SqT K H a xs:=.inl (.inl h)
theorem Inv.list(I:Inv X pins σ H s)(h:SqL X.K H a xs):∃its:List Value,Vals xs its/\PlainL s.heap a its.toArray/\xs.length<=sizeLine:=by
 rcases h with h|⟨o,its,n,hk,hc,hd,hs,hz,r⟩
 ·obtain⟨z,its,n,r,e⟩:=h.ok I.hok
  exact⟨its,r,⟨_,n,e,rfl,rfl,rfl⟩,z⟩
 ·refine⟨its.toList,r,⟨o,n,I.kIn a o hk,hc,hd,by simpa using hs⟩,?_⟩
  have e:=r.length
  simp only[Array.length_toList] at e;omega
theorem Inv.tuple(I:Inv X pins σ H s)(h:SqT X.K H a xs):∃its:List Value,Vals xs its/\IsTup s.heap a its.toArray/\xs.length<=sizeLine:=by
 rcases h with h|⟨o,its,n,hk,hc,hs,hz,r⟩
 ·obtain⟨z,its,r,p⟩:=h.ok I.hok
  exact⟨its,r,p.tup,z⟩
 ·refine⟨its.toList,r,⟨o,I.kIn a o hk,hc,n,by simpa using hs⟩,?_⟩
  have e:=r.length
  simp only[Array.length_toList] at e;omega
theorem Inv.list_inj(I:Inv X pins σ H s)(h:SqL X.K H a xs)(h':SqL X.K H a ys):xs=ys:=by
 obtain⟨its,r,⟨o,n,e,_,_,d⟩,_⟩:=I.list h;obtain⟨its',r',⟨o',n',e',_,_,d'⟩,_⟩:=I.list h';rw[e] at e'; cases e';rw[d] at d';injection d' with d1 _
 have:its=its':=by simpa using congrArg Array.toList d1
 subst this;exact r.inj r'
theorem Inv.tuple_inj(I:Inv X pins σ H s)(h:SqT X.K H a xs)(h':SqT X.K H a ys):xs=ys:=by
 obtain⟨its,r,⟨o,e,_,n,d⟩,_⟩:=I.tuple h;obtain⟨its',r',⟨o',e',_,n',d'⟩,_⟩:=I.tuple h';rw[e] at e'; cases e';rw[d] at d';injection d' with d1 _
 have:its=its':=by simpa using congrArg Array.toList d1
 subst this;exact r.inj r'
end
abbrev Cx.wish(X:Cx)(E:Value->Shared->Prop):Cx:={ X with xe:=E }
abbrev Cx.nox(X:Cx):Cx:=X.wish fun _ _=>False
theorem Cx.Ok.wish{X:Cx}(ok:X.Ok)(E:Value->Shared->Prop):(X.wish E).Ok :=
 ⟨ok.mod,ok.kind,ok.glob,ok.blt,ok.above,ok.inj,ok.has,ok.cab,ok.hd,ok.frames,ok.stk,ok.exf,ok.bs,ok.bsz,ok.noex,ok.exfs,ok.funs,ok.frf⟩
theorem Cx.Ok.unwish{X:Cx}{E:Value->Shared->Prop}(ok:(X.wish E).Ok):X.Ok :=
 ⟨ok.mod,ok.kind,ok.glob,ok.blt,ok.above,ok.inj,ok.has,ok.cab,ok.hd,ok.frames,ok.stk,ok.exf,ok.bs,ok.bsz,ok.noex,ok.exfs,ok.funs,ok.frf⟩
section
variable{X:Cx}{pins:List (Addr×Obj)}{σ:St}{H:Hp}{s:Shared}{E:Value->Shared->Prop}
theorem Inv.wish(I:Inv X pins σ H s)(E:Value->Shared->Prop):Inv (X.wish E) pins σ H s:=⟨I.ok.wish E,I.os,I.bare,I.base,I.loc,I.cell,I.free,I.freeC,I.pin,I.hok,I.len⟩
theorem Inv.unwish(I:Inv (X.wish E) pins σ H s):Inv X pins σ H s:=⟨I.ok.unwish,I.os,I.bare,I.base,I.loc,I.cell,I.free,I.freeC,I.pin,I.hok,I.len⟩
theorem SP.unwish{D:Ends}{f:Flow}{s':Shared}(h:SP (X.wish E) pins D f s'):SP X pins D f s':=by
 cases f with
 | next=>obtain⟨σ',H',I,q⟩:=h; exact⟨σ',H',I.unwish,q⟩
 | brk=>obtain⟨σ',H',I,q⟩:=h; exact⟨σ',H',I.unwish,q⟩
 | cont=>obtain⟨σ',H',I,q⟩:=h; exact⟨σ',H',I.unwish,q⟩
 | ret u=>obtain⟨v,σ',H',I,r,q⟩:=h; exact⟨v,σ',H',I.unwish,r,q⟩
theorem PSs.nox{st:List Stmt}{t:TS}(h:PSs X.nox st t):PSs X st t:=fun pins s σ H D I hw =>
 wpAny_mono (h pins s σ H D (I.wish _) hw) (fun _ _ q=>q.unwish) fun _ _ z=>False.elim z
end
section
variable{X:Cx}{st:Stmt}{rest:List Stmt}{t u:TS}{e:Expr}{te:TE}{pos:Pos}
def U50:TS:=fun D σ H=>D.nx σ H
def Um0(t u:TS):TS:=fun D σ H=>t { D with nx:=u D } σ H
theorem aq0:PSs X [] U50:=fun _ _ σ H _ I h=>wpAny_execs_nil ⟨σ,H,I,h⟩
theorem v90(h1:PS X st t)(h2:PSs X rest u):PSs X (st::rest) (Um0 t u):=by
 intro pins s σ H D I h;refine wpAny_execs_cons (thn (h1 pins s σ H { D with nx:=u D } I h) fun f s1 q=>?_)
 cases f with
 | next =>
  obtain⟨σ',H',I',q⟩:=q;exact h2 pins s1 σ' H' D I' q
 | ret v=>exact q
 | brk=>exact q
 | cont=>exact q
theorem Inv.quiet{pins:List (Addr×Obj)}{σ:St}{H:Hp}{s:Shared}(I:Inv X pins σ H s):interactive X.env=false:=by simp[interactive,I.ok.kind]
def Vu0(te:TE):TS:=fun D σ H=>te σ H fun _ H1=>D.nx σ H1
theorem Zl0(he:PE X e te)(hs:swapsWith e none pos.line X.env=pure false:=by rfl):PS X (.Expr e pos) (Vu0 te):=by
 intro pins s σ H D I h;exact wpAny_Expr_any (thn (he pins s σ H _ I h) fun v s1 ⟨x,H1,I1,r1,q1⟩=>⟨σ,H1,I1,q1⟩) I.quiet hs
def Ug0(te:TE):TS:=fun D σ H=>te σ H D.rt
theorem ls0(he:PE X e te):PS X (.Return (some e) pos) (Ug0 te):=by
 intro pins s σ H D I h;exact wpAny_Return_some (thn (he pins s σ H _ I h) fun v s1 ⟨x,H1,I1,r1,q1⟩=>⟨x,σ,H1,I1,r1,q1⟩)
def Ut0(c:TT)(t u:TS):TS:=fun D σ H=>c σ H fun b H1=>if b=true then t D σ H1 else u D σ H1
theorem V70{c:Expr}{a b:List Stmt}{tc:TT}(hc:PT X c tc)(ha:PSs X a t)(hb:PSs X b u):PS X (.If c a b pos) (Ut0 tc t u):=by
 intro pins s σ H D I h;refine wpAny_If (thn (hc pins s σ H _ I h) fun d s1 ⟨H1,I1,q1⟩=>?_)
 cases d with
 | true=>exact ha pins s1 σ H1 D I1 q1
 | false=>exact hb pins s1 σ H1 D I1 q1
def Yu0:TS:=fun _ _ _=>False
theorem u20{sts:List Stmt}:PSs X sts Yu0:=fun _ _ _ _ _ _ h=>h.elim
end
abbrev TG:=V->St->Hp->(St->Hp->Prop)->Prop
abbrev TGs:=List V->St->Hp->(St->Hp->Prop)->Prop
def PG(X:Cx)(target:Expr)(t:TG):Prop :=
 ∀(pins:List (Addr×Obj)) (s:Shared) (σ:St) (H:Hp) (v:V) (u:Value) (Q:St->Hp->Prop),Inv X pins σ H s->RelV v u->t v σ H Q ->
  wpAny (model X.prog X.w) X.A (assign target X.env u) (fun _ s'=>∃σ' H',Inv X pins σ' H' s'/\Q σ' H') X.xe s
def PGs(X:Cx)(ts:List Expr)(t:TGs):Prop :=
 ∀(pins:List (Addr×Obj)) (s:Shared) (σ:St) (H:Hp) (vs:List V) (us:List Value) (Q:St->Hp->Prop),Inv X pins σ H s->Vals vs us->t vs σ H Q ->
  wpAny (model X.prog X.w) X.A (assignInOrder ((assignEach ts X.env).map (·.2)) us) (fun _ s'=>∃σ' H',Inv X pins σ' H' s'/\Q σ' H') X.xe s
abbrev do0:=V->V->V->Hp->(Hp->Prop)->Prop
def ch0(X:Cx)(t:do0):Prop :=
 ∀(pins:List (Addr×Obj)) (s:Shared) (σ:St) (H:Hp) (o i v:V) (ov iv u:Value) (Q:Hp->Prop),Inv X pins σ H s->RelV o ov->RelV i iv->RelV v u->t o i v H Q ->
  wpAny (model X.prog X.w) X.A (setItem ov iv u) (fun _ s'=>∃H',Inv X pins σ H' s'/\Q H') X.xe s
section
variable{X:Cx}{pos:Pos}
def Vv0(i:Nat):TG:=fun v σ H Q=>Q (σ.set i (some v)) H
theorem sw0{i:Nat}{x:Str}(hN:X.N.Nodup)(hi:X.N[i]?=some x)(hx:Loc X.env.scope x)(hf:X.fn x=true∨X.env.scope.names.lookup x=some .local:=by first|exact .inl rfl|exact .inr rfl|assumption):PG X (.Name x pos) (Vv0 i):=by
 intro pins s σ H v u Q I r h;exact wpAny_assign_Name (dq0 I hN hi hx r (fun s' I'=>⟨_,H,I',h⟩) hf)
def Uz0:TGs:=fun vs σ H Q=>vs=[]/\Q σ H
def Vd0(t:TG)(u:TGs):TGs:=fun vs σ H Q=>∃v r,vs=v::r/\t v σ H fun σ' H'=>u r σ' H' Q
theorem Y90:PGs X [] Uz0:=by
 intro pins s σ H vs us Q I r h;obtain⟨e,h⟩:=h;subst e;cases r;exact assignInOrder_nil ⟨σ,H,I,h⟩
theorem mv0{e:Expr}{es:List Expr}{t:TG}{u:TGs}(h1:PG X e t)(h2:PGs X es u)
  (hs:(assignEach (e::es) X.env).map (·.2)=assign e X.env::(assignEach es X.env).map (·.2):=by rfl):PGs X (e::es) (Vd0 t u):=by
 intro pins s σ H vs us Q I r h;obtain⟨v,vr,e1,h⟩:=h;subst e1
 cases r with
 | cons r rr =>
  rw[hs];refine assignInOrder_cons (thn (h1 pins s σ H _ _ _ I r h) fun _ s1 ⟨σ1,H1,I1,q1⟩=>?_)
  exact h2 pins s1 σ1 H1 _ _ Q I1 rr q1
def Uh0(K:W.Frag)(n:Nat)(t:TGs):TG:=fun v σ H Q=>∃a xs,v=.ref a/\SqT K H a xs/\xs.length=n/\t xs σ H Q
theorem X10{es:List Expr}{k:Nat}{t:TGs}{n:Nat}(hc:X.calm=true)(h:PGs X es t)
  (hn:(assignEach es X.env).length=n:=by rfl) (hst:(assignEach es X.env).findIdx? (·.1)=none:=by rfl):PG X (.Tuple es k pos) (Uh0 X.K n t):=by
 intro pins s σ H v u Q I r hw;obtain⟨a,xs,e1,hq,hl,hw⟩:=hw;subst e1;cases r;obtain⟨its,rv,ht,hz⟩:=I.tuple hq;refine assign_Tuple_tuple (I.ok.hd hc) ht (by simp[hn,← hl,rv.length]) hst fun h' hx=>?_
 have I1:Inv X pins σ H { s with heap:=h' }:=I.kept (t':=s.toks) fun b o e=>hx b o (Nat.ne_of_lt (Heap.lt_size e)) e
 exact h pins _ σ H xs _ Q I1 (by simpa using rv) hw
def Uy0(to ti:TE)(t:do0):TG:=fun v σ H Q=>to σ H fun o H1=>ti σ H1 fun i H2=>t o i v H2 fun H3=>Q σ H3
theorem e60{o i:Expr}{to ti:TE}{t:do0}(ho:PE X o to)(hi:PE X i ti)(hs:ch0 X t)
  (ha:∀v,assign (.Subscript o i pos) X.env v=(do
   let ov ← holding [v] (eval o X.env)
   let iv ← holding [v,ov] (eval i X.env)
   standAt pos
   holding [v,ov,iv] (setItem ov iv v)
   release [v,ov,iv] []):=by intro _; rfl):PG X (.Subscript o i pos) (Uy0 to ti t):=by
 intro pins s σ H v u Q I r h;rw[ha];refine wpAny_bind (wpAny_holding (thn (ho pins s σ H _ I h) fun ov s1 ⟨x,H1,I1,r1,q1⟩=>?_))
 refine wpAny_bind (wpAny_holding (thn (hi pins s1 σ H1 _ I1 q1) fun iv s2 ⟨y,H2,I2,r2,q2⟩=>?_))
 refine wpAny_bind (wpAny_standAt (wpAny_bind (wpAny_holding (thn (hs pins s2 σ H2 x y v ov iv u _ I2 r1 r2 r q2) fun _ s3 ⟨H3,I3,q3⟩=>?_))))
 exact wpAny_release ⟨σ,H3,I3,q3⟩
def T20(te:TE)(g:TG):TS:=fun D σ H=>te σ H fun x H1=>g x σ H1 D.nx
theorem l70{tg e:Expr}{te:TE}{g:TG}(he:PE X e te)(hg:PG X tg g)(hs:swapsWithSole [tg] e pos.line X.env=pure false:=by rfl)(hw:swappedStores [tg] e X.env=pure none:=by rfl)
  (h1:(assignEach [tg] X.env).map (·.2)=[assign tg X.env]:=by rfl):PS X (.Assign [tg] e pos) (T20 te g):=by
 intro pins s σ H D I h;refine wpAny_Assign_stores (thn (he pins s σ H _ I h) fun v s1 ⟨x,H1,I1,r1,q1⟩=>?_) hs hw
 rw[h1];exact thn (hg pins s1 σ H1 x v _ I1 r1 q1) fun _ s2 q=>q
end
section
variable{X:Cx}{pos:Pos}
def X60(c:TT)(tb:TS):TS:=fun D σ H=>∃W:Nat->St->Hp->Prop,(∃m,W m σ H)/\∀m σ H,W m σ H ->
 c σ H fun b H1=>if b=true then ∃N:St->Hp->Prop,(∀σ' H',N σ' H'->∃m',m'<m/\W m' σ' H')/\tb { D with nx:=N,ct:=N,bk:=D.nx } σ H1 else D.nx σ H1
theorem d10{c:Expr}{body:List Stmt}{tc:TT}{tb:TS}(hp:PassesOwn (model X.prog X.w) X.A X.env X.xe)(hc:PT X c tc)(hb:PSs X body tb):PS X (.While c body [] pos) (X60 tc tb):=by
 intro pins s σ H D I h;obtain⟨W,⟨m0,w0⟩,turn⟩:=h;refine wpAny_While (codeAny_whileLoop (fun n s'=>∃σ' H',Inv X pins σ' H' s'/\W n σ' H') ?_ m0 ⟨σ,H,I,w0⟩)
 rintro n s1 ⟨σ1,H1,I1,w1⟩
 refine wpAny_passesOwn hp (thn (hc pins s1 σ1 H1 _ I1 (turn n σ1 H1 w1)) fun b s2 ⟨H2,I2,q2⟩=>?_)
 cases b with
 | true =>
  obtain⟨N,hN,q2⟩:=q2;rw[if_pos rfl];refine wpAny_passesOwn hp (thn (hb pins s2 σ1 H2 _ I2 q2) fun f s3 q3=>?_)
  cases f with
  | next =>
   obtain⟨σ3,H3,I3,n3⟩:=q3;obtain⟨m',hm,w3⟩:=hN σ3 H3 n3;exact⟨m',hm,σ3,H3,I3,w3⟩
  | cont =>
   obtain⟨σ3,H3,I3,n3⟩:=q3;obtain⟨m',hm,w3⟩:=hN σ3 H3 n3;exact⟨m',hm,σ3,H3,I3,w3⟩
  | brk=>exact q3
  | ret v=>exact q3
 | false =>
  rw[if_neg Bool.false_ne_true];exact wpAny_execs_nil ⟨σ1,H2,I2,q2⟩
end
structure It where
 go:Nat->Hp->Prop
 yld:Nat->Hp->V->Hp->Prop
 stop:Nat->Hp->Prop
def vl0(X:Cx)(pins:List (Addr×Obj))(H:Hp)(b:Addr):Prop :=
 H b=none/\b≠X.env.locals/\b∉X.fs/\(b∈X.ex∨X.s₀.heap.objs.size<=b)/\(∀x c,X.env.cells.lookup x=some c->c≠b)/\∀p∈X.pn++pins,p.1≠b
theorem Inv.fpOk{X:Cx}{pins:List (Addr×Obj)}{σ:St}{H H':Hp}{s:Shared}{b:Addr}(I:Inv X pins σ H s)(hb:s.heap.objs.size<=b)(hn:H' b=none):vl0 X pins H' b:=by
 refine⟨hn,Nat.ne_of_gt (Nat.lt_of_lt_of_le I.lt hb),I.nofs hb,.inr (Nat.le_trans I.sz hb),fun x c e z=>?_,fun p hp z=>?_⟩
 ·obtain⟨v,q⟩:=I.cell x c e
  exact absurd (Nat.lt_of_lt_of_le q.lt (by rw[z]; exact hb)) (Nat.lt_irrefl _)
 ·exact absurd (Nat.lt_of_lt_of_le (Heap.lt_size (I.pin p hp).1) (by rw[z]; exact hb)) (Nat.lt_irrefl _)
structure Turn(P:Program)(w:World)(K:W.Frag)(tg:Expr)(J:It)(fp:List Addr)(it:Addr)(tn:Nat->Heap->Prop):Prop where
 mem:it∈fp
 obj:∀i h,tn i h->∀b∈fp,∃o,h.get? b=some o/\∀v,o.data≠.cell v
 keep:∀i h h',tn i h->(∀b∈fp,∀o,h.get? b=some o->h'.get? b=some o)->tn i h'
 item:∀(X:Cx),X.prog=P->X.w=w->X.K=K->X.calm=true->∀(i:Nat) (pins:List (Addr×Obj)) (s:Shared) (σ:St) (H:Hp) (E:Value->Shared->Prop),Inv X pins σ H s->(∀b∈fp,vl0 X pins H b)->tn i s.heap->J.go i H ->
  wpAny (model P w) X.A (pyNext (.ref it)) (fun r s1=>∃u,r=some u /\
   wpAny (model P w) X.A (letOwnedTupleGo tg (.ref it) u) (fun _ s2=>∃x H',Inv X pins σ H' s2/\RelV x u/\J.yld i H x H'/\tn (i+1) s2.heap/\∀b∈fp,H' b=none) E s1) E s
 done:∀(X:Cx),X.prog=P->X.w=w->X.K=K->X.calm=true->∀(i:Nat) (pins:List (Addr×Obj)) (s:Shared) (σ:St) (H:Hp) (E:Value->Shared->Prop),Inv X pins σ H s->(∀b∈fp,vl0 X pins H b)->tn i s.heap->J.stop i H ->
  wpAny (model P w) X.A (pyNext (.ref it)) (fun r s1=>r=none/\Inv X pins σ H s1) E s
 self:∀(A:Around) (i:Nat) (s:Shared) (Q:Value->Shared->Prop) (E:Value->Shared->Prop),tn i s.heap->Q (.ref it) s->wpAny (model P w) A (pyIter (.ref it)) Q E s
abbrev TI:=St->Hp->(It->Hp->Prop)->Prop
def PIE(X:Cx)(pins:List (Addr×Obj))(σ:St)(tg:Expr)(R:It->Hp->Prop)(itv:Value)(s2:Shared):Prop :=
 ∃(it:Addr) (fp:List Addr) (tn:Nat->Heap->Prop) (J:It) (H':Hp),itv=.ref it/\Inv X pins σ H' s2/\Turn X.prog X.w X.K tg J fp it tn/\tn 0 s2.heap/\(∀b∈fp,vl0 X pins H' b)/\R J H'
def PI(X:Cx)(tg iter:Expr)(wi:TI):Prop :=
 ∀(pins:List (Addr×Obj)) (s:Shared) (σ:St) (H:Hp) (R:It->Hp->Prop),Inv X pins σ H s->wi σ H R ->
  wpAny (model X.prog X.w) X.A (eval iter X.env) (fun v s1=>wpAny (model X.prog X.w) X.A (pyIter v) (PIE X pins σ tg R) X.xe s1) X.xe s
theorem ns0{M:Model}{A:Around}{E:Value->Shared->Prop}{s:Shared}{tg:Expr}{it:Addr}{u:Value}{o:Obj}{n:String}{vs:Array Value}{Q:Unit->Shared->Prop}(ho:s.heap.get? it=some o)(hc:o.cls=.type n)(hd:o.data=.fields vs)
  (hn:["enumerate", "zip", "dict_itemiterator", "dict_reverseitemiterator", "odict_iterator", "itertools.zip_longest", "itertools.pairwise"].contains n=false) (hQ:Q () s):wpAny M A (letOwnedTupleGo tg (.ref it) u) Q E s:=by
 unfold letOwnedTupleGo;cases tg<;>first
  | exact wpAny_pure hQ
  | (cases u<;>first
    | exact wpAny_pure hQ
    | (refine wpAny_bind (wpAny_load ho ?_)
       rw[hc,hd];show wpAny M A (if (["enumerate", "zip", "dict_itemiterator", "dict_reverseitemiterator", "odict_iterator", "itertools.zip_longest", "itertools.pairwise"].contains n&&vs[0]?==some (rawInt _))=true then _ else _) Q E s;rw[if_neg (by intro h; rw[hn,Bool.false_and] at h; cases h)]
       exact wpAny_pure hQ))
def Itl(K:W.Frag)(a:Addr):It :=
 ⟨fun i H=>∃xs x,SqL K H a xs/\xs[i]?=some x,fun i H x H'=>H'=H/\∀xs,SqL K H a xs->xs[i]?=some x,fun i H=>∃xs,SqL K H a xs/\xs.length<=i⟩
def Itt(K:W.Frag)(a:Addr):It :=
 ⟨fun i H=>∃xs x,SqT K H a xs/\xs[i]?=some x,fun i H x H'=>H'=H/\∀xs,SqT K H a xs->xs[i]?=some x,fun i H=>∃xs,SqT K H a xs/\xs.length<=i⟩
def Itr(lo:Int)(n:Nat):It:=⟨fun i _=>i<n,fun i H x H'=>H'=H/\x=.int (lo+i),fun i _=>n<=i⟩
theorem gh0{P:Program}{w:World}{K:W.Frag}{tg:Expr}(a it:Addr):Turn P w K tg (Itl K a) [it] it (fun i h=>h.IsListIter it a i) where
 mem:=by simp
 obj:=fun i h st b hb=>by
  have e:b=it:=by simpa using hb
  subst e;obtain⟨o,e,c,d⟩:=st;exact⟨o,e,fun v z=>by rw[d] at z; cases z⟩
 keep:=fun i h h' st k=>st.at fun o e=>k it (by simp) o e
 item:=by
  intro X hP hw hK hc i pins s σ H E I hf st hg;subst hP hw hK;obtain⟨xs,x,hq,hx⟩:=hg;obtain⟨its,rv,p,hz⟩:=I.list hq;obtain⟨u,hu,ru⟩:=rv.get hx;obtain⟨f0,f1,f2,f3,f4,f5⟩:=hf it (by simp)
  refine wpAny_pyNext_list_item st p.isList (x:=u) (by simpa using hu) fun h' st' sb=>?_
  have I1:Inv X pins σ H { s with heap:=h' }:=I.turned (t':=s.toks) (fun b o hb e=>(sb.2 b hb).trans e) f0 f1 f3 f4 f5
  obtain⟨o,e,c,d⟩:=id st';exact⟨u,rfl,ns0 (s:={ s with heap:=h' }) e c d (by decide) ⟨x,H,I1,ru,⟨rfl,fun ys hy=>by rw[I.list_inj hy hq]; exact hx⟩,st',fun b hb=>(hf b hb).1⟩⟩
 done:=by
  intro X hP hw hK hc i pins s σ H E I hf st hg;subst hP hw hK;obtain⟨xs,hq,hx⟩:=hg;obtain⟨its,rv,p,hz⟩:=I.list hq;obtain⟨f0,f1,f2,f3,f4,f5⟩:=hf it (by simp)
  have hl:=rv.length
  exact wpAny_pyNext_list_end (I.ok.hd hc) st p.isList (by simp; omega) fun h' eb=>⟨rfl,I.turned (t':=s.toks) (fun b o hb e=>eb b o hb e) f0 f1 f3 f4 f5⟩
 self:=fun _ _ _ _ _ st h=>wpAny_pyIter_listiter st h
theorem ik0{P:Program}{w:World}{K:W.Frag}{tg:Expr}(a it:Addr):Turn P w K tg (Itt K a) [it] it (fun i h=>h.IsTupleIter it a i) where
 mem:=by simp
 obj:=fun i h st b hb=>by
  have e:b=it:=by simpa using hb
  subst e;obtain⟨o,e,c,d⟩:=st;exact⟨o,e,fun v z=>by rw[d] at z; cases z⟩
 keep:=fun i h h' st k=>st.at fun o e=>k it (by simp) o e
 item:=by
  intro X hP hw hK hc i pins s σ H E I hf st hg;subst hP hw hK;obtain⟨xs,x,hq,hx⟩:=hg;obtain⟨its,rv,p,hz⟩:=I.tuple hq;obtain⟨u,hu,ru⟩:=rv.get hx;obtain⟨f0,f1,f2,f3,f4,f5⟩:=hf it (by simp)
  refine wpAny_pyNext_tuple_item st (show s.heap.IsTuple a its.toArray from p) (x:=u) (by simpa using hu) fun h' st' sb=>?_
  have I1:Inv X pins σ H { s with heap:=h' }:=I.turned (t':=s.toks) (fun b o hb e=>(sb.2 b hb).trans e) f0 f1 f3 f4 f5
  obtain⟨o,e,c,d⟩:=id st';exact⟨u,rfl,ns0 (s:={ s with heap:=h' }) e c d (by decide) ⟨x,H,I1,ru,⟨rfl,fun ys hy=>by rw[I.tuple_inj hy hq]; exact hx⟩,st',fun b hb=>(hf b hb).1⟩⟩
 done:=by
  intro X hP hw hK hc i pins s σ H E I hf st hg;subst hP hw hK;obtain⟨xs,hq,hx⟩:=hg;obtain⟨its,rv,p,hz⟩:=I.tuple hq;obtain⟨f0,f1,f2,f3,f4,f5⟩:=hf it (by simp)
  have hl:=rv.length
  exact wpAny_pyNext_tuple_end (I.ok.hd hc) st (show s.heap.IsTuple a its.toArray from p) (by simp; omega) fun h' eb=>⟨rfl,I.turned (t':=s.toks) (fun b o hb e=>eb b o hb e) f0 f1 f3 f4 f5⟩
 self:=fun _ _ _ _ _ st h=>wpAny_pyIter_tupleiter st h
theorem in0{P:Program}{w:World}{K:W.Frag}{tg:Expr}(it:Addr)(lo:Int)(n:Nat):Turn P w K tg (Itr lo n) [it] it (fun i h=>IsRangeIter h it (lo+(i:Nat)*1) ((n:Int) - (i:Nat)) 1) where
 mem:=by simp
 obj:=fun i h st b hb=>by
  have e:b=it:=by simpa using hb
  subst e;exact⟨_,st,fun v z=>by
   have z':Data.fields _=Data.cell v:=z
   cases z'⟩
 keep:=fun i h h' st k=>k it (by simp) _ st
 item:=by
  intro X hP hw hK hc i pins s σ H E I hf st hg;subst hP hw hK;obtain⟨f0,f1,f2,f3,f4,f5⟩:=hf it (by simp)
  have W:=Walks.range (prog:=X.prog) (w:=X.w) (I.ok.hd hc) it lo 1 n
  refine W.item i s _ _ hg st fun v h' tk hv st' kk=>?_
  obtain⟨t,rfl⟩:=hv;have I1:Inv X pins σ H { s with heap:=h',toks:=tk }:=I.turned (fun b o hb e=>kk b o (by simpa using hb) e) f0 f1 f3 f4 f5
  refine⟨_,rfl,ns0 (s:={ s with heap:=h',toks:=tk }) (n := "range_iterator") st' rfl rfl (by decide) ⟨.int (lo+i),H,I1,⟨t,?_⟩,⟨rfl,rfl⟩,st',fun b hb=>(hf b hb).1⟩⟩
  rw[Int.mul_one]
 done:=by
  intro X hP hw hK hc i pins s σ H E I hf st hg;subst hP hw hK;obtain⟨f0,f1,f2,f3,f4,f5⟩:=hf it (by simp)
  exact wpAny_pyNext_range_end (I.ok.hd hc) st (by have:n<=i:=hg; omega) fun h' eb=>⟨rfl,I.turned (t':=s.toks) (fun b o hb e=>eb b o hb e) f0 f1 f3 f4 f5⟩
 self:=fun _ _ _ _ _ st h=>wpAny_pyIter_rangeiter st h
section
variable{X:Cx}{tg:Expr}
def Vs0(K:W.Frag)(tl:TE):TI:=fun σ H R=>tl σ H fun x H1=>∃a,x=.ref a/\(∃xs,SqL K H1 a xs)/\R (Itl K a) H1
def Ux0(K:W.Frag)(tl:TE):TI:=fun σ H R=>tl σ H fun x H1=>∃a,x=.ref a/\(∃xs,SqT K H1 a xs)/\R (Itt K a) H1
theorem bt0{l:Expr}{tl:TE}(hl:PE X l tl):PI X tg l (Vs0 X.K tl):=by
 intro pins s σ H R I h;refine thn (hl pins s σ H _ I h) fun v s1 ⟨x,H1,I1,r1,q1⟩=>?_
 obtain⟨a,e,⟨xs,hq⟩,q⟩:=q1;subst e;cases r1;obtain⟨its,rv,p,hz⟩:=I1.list hq;refine wpAny_pyIter_list p.isList ?_
 refine⟨s1.heap.objs.size,[s1.heap.objs.size],_,_,H1,rfl,I1.kept (t':=s1.toks) fun b o e=>Heap.get?_push_of_some _ e,gh0 a _,⟨_,Heap.get?_push_size _ rfl,rfl,rfl⟩,fun b hb=>?_,q⟩
 have e:b=s1.heap.objs.size:=by simpa using hb
 subst e;exact I1.fpOk (Nat.le_refl _) (I1.hok.fresh (Nat.le_refl _))
theorem Yg0{l:Expr}{tl:TE}(hl:PE X l tl):PI X tg l (Ux0 X.K tl):=by
 intro pins s σ H R I h;refine thn (hl pins s σ H _ I h) fun v s1 ⟨x,H1,I1,r1,q1⟩=>?_
 obtain⟨a,e,⟨xs,hq⟩,q⟩:=q1;subst e;cases r1;obtain⟨its,rv,p,hz⟩:=I1.tuple hq;refine wpAny_pyIter_tuple (show s1.heap.IsTuple a its.toArray from p) ?_
 refine⟨s1.heap.objs.size,[s1.heap.objs.size],_,_,H1,rfl,I1.kept (t':=s1.toks) fun b o e=>Heap.get?_push_of_some _ e,ik0 a _,⟨_,Heap.get?_push_size _ rfl,rfl,rfl⟩,fun b hb=>?_,q⟩
 have e:b=s1.heap.objs.size:=by simpa using hb
 subst e;exact I1.fpOk (Nat.le_refl _) (I1.hok.fresh (Nat.le_refl _))
theorem lz0{pins:List (Addr×Obj)}{σ:St}{H:Hp}{s:Shared}{R:It->Hp->Prop}{E:Value->Shared->Prop}{lo hi:Int}{t u v:Tok}{tk:Nat}(I:Inv X pins σ H s)(h1:-(2 ^ 62)<=lo)(h2:lo<2 ^ 62)(h3:-(2 ^ 62)<=hi)(h4:hi<2 ^ 62)
  (q:R (Itr lo (hi - lo).toNat) H):wpAny (model X.prog X.w) X.A (pyIter (.ref s.heap.objs.size)) (PIE X pins σ tg R) E { s with heap:=s.heap.push { cls:=.type "range",data:=.fields #[.int lo t,.int hi u,.int 1 v] },toks:=tk }:=by
 refine wpAny_pyIter_range (IsRange.new ..) (small_one h1 h2 h3 h4) ?_
 have I1:Inv X pins σ H { s with heap:=s.heap.push { cls:=.type "range",data:=.fields #[.int lo t,.int hi u,.int 1 v] },toks:=tk }:=I.kept fun b o e=>Heap.get?_push_of_some _ e
 refine⟨(s.heap.push { cls:=.type "range",data:=.fields #[.int lo t,.int hi u,.int 1 v] }).objs.size,[(s.heap.push { cls:=.type "range",data:=.fields #[.int lo t,.int hi u,.int 1 v] }).objs.size],_,_,H,rfl,
  I1.kept (t':=tk) fun b o e=>Heap.get?_push_of_some _ e,in0 _ lo (hi - lo).toNat,?_,fun b hb=>?_,q⟩
 ·have e1:lo+((0:Nat):Int)*1=lo:=by simp
  have e2:(((hi - lo).toNat:Nat):Int) - ((0:Nat):Int)=Builtin.Range.rangeSize lo hi 1:=by rw[rangeSize_one]; split<;>omega
  show IsRangeIter _ _ (lo+((0:Nat):Int)*1) ((((hi - lo).toNat:Nat):Int) - ((0:Nat):Int)) 1
  rw[e1,e2];exact Heap.get?_push_size _ rfl
 ·have e:b=(s.heap.push { cls:=.type "range",data:=.fields #[.int lo t,.int hi u,.int 1 v] }).objs.size:=by simpa using hb
  subst e;exact I1.fpOk (Nat.le_refl _) (I1.hok.fresh (Nat.le_refl _))
def Vo0(ta:TA):TI:=fun σ H R=>ta σ H fun vs H1=>∃j:Int,vs=[.int j]/\-(2 ^ 62)<=j/\j<2 ^ 62/\R (Itr 0 j.toNat) H1
def V80(ta:TA):TI:=fun σ H R=>ta σ H fun vs H1=>∃i j:Int,vs=[.int i,.int j]/\(-(2 ^ 62)<=i/\i<2 ^ 62/\-(2 ^ 62)<=j/\j<2 ^ 62)/\R (Itr i (j - i).toNat) H1
theorem g20{a:Expr}{ta:TA}{p pos:Pos}(hg:Gl X "range")(hm:X.mg "range"=none)(ha:PA X [a] ta)(hs:starEach [a] X.env=[(false,eval a X.env)]:=by rfl):PI X tg (.Call (.Name "range" p) [a] [] pos) (Vo0 ta):=by
 intro pins s σ H R I h;refine Call_ (N5 I hg hm boot_range (PyProof.Rows.callWith_type1 (thn (ha pos pins s σ H _ I h) fun us s1 ⟨vs,H1,I1,r1,q1⟩=>?_) hs rfl))
 obtain⟨j,e,q1,q2,q⟩:=q1;subst e
 cases r1 with
 | cons r rr =>
  cases rr;obtain⟨t,rfl⟩:=r;exact call_range_1 (lz0 I1 (by omega) (by omega) q1 q2 (by simpa using q))
theorem gd0{a b:Expr}{ta:TA}{p pos:Pos}(hg:Gl X "range")(hm:X.mg "range"=none)(ha:PA X [a,b] ta)(hs:starEach [a,b] X.env=[(false,eval a X.env),(false,eval b X.env)]:=by rfl)(hs2:starEach [b] X.env=[(false,eval b X.env)]:=by rfl) :
  PI X tg (.Call (.Name "range" p) [a,b] [] pos) (V80 ta):=by
 intro pins s σ H R I h;refine Call_ (N5 I hg hm boot_range (PyProof.Rows.callWith_type1 (thn (ha pos pins s σ H _ I h) fun us s1 ⟨vs,H1,I1,r1,q1⟩=>?_) (by rw[hs,hs2]) (by rw[hs2]; rfl)))
 obtain⟨i,j,e,⟨q1,q2,q3,q4⟩,q⟩:=q1;subst e
 cases r1 with
 | cons r rr =>
  cases rr with
  | cons r' rr =>
   cases rr;obtain⟨t,rfl⟩:=r;obtain⟨t',rfl⟩:=r';exact call_range_2 (lz0 I1 q1 q2 q3 q4 q)
def Uf0(wi:TI)(g:TG)(tb:TS):TS:=fun D σ H=>wi σ H fun J H1=>∃W:Nat->Nat->St->Hp->Prop,(∃m,W 0 m σ H1)/\∀i m σ H,W i m σ H ->
 (J.stop i H/\D.nx σ H)∨(J.go i H/\∃N:St->Hp->Prop,(∀σ' H',N σ' H'->∃m',m'<m/\W (i+1) m' σ' H')/\∀x H',J.yld i H x H'->g x σ H' fun σ2 H2=>tb { D with nx:=N,ct:=N,bk:=D.nx } σ2 H2)
def s30(fp:List Addr)(h:Heap):List (Addr×Obj):=fp.filterMap fun b=>(h.get? b).map fun o=>(b,o)
theorem wp0{fp:List Addr}{h:Heap}{b:Addr}{o:Obj}(hb:b∈fp)(e:h.get? b=some o):(b,o)∈s30 fp h:=List.mem_filterMap.mpr ⟨b,hb,by rw[e]; rfl⟩
theorem fk0{fp:List Addr}{h:Heap}{p:Addr×Obj}(hp:p∈s30 fp h):p.1∈fp/\h.get? p.1=some p.2:=by
 obtain⟨b,hb,e⟩:=List.mem_filterMap.mp hp
 cases q:h.get? b with
 | none=>rw[q] at e; cases e
 | some o =>
  rw[q] at e;have e':(b,o)=p:=Option.some.inj e;subst e';exact⟨hb,q⟩
theorem Inv.pinned{pins:List (Addr×Obj)}{σ:St}{H:Hp}{s:Shared}{fp:List Addr}(I:Inv X pins σ H s)(hf:∀b∈fp,vl0 X pins H b)(ho:∀b∈fp,∃o,s.heap.get? b=some o/\∀v,o.data≠.cell v):Inv X (pins++s30 fp s.heap) σ H s :=
 I.pins_of fun p hp=>(List.mem_append.mp hp).elim (fun z=>I.pin p (List.mem_append_right _ z)) fun z=>by
  obtain⟨hb,e⟩:=fk0 z;obtain⟨f0,f1,f2,_⟩:=hf p.1 hb;obtain⟨o,e',d⟩:=ho p.1 hb;rw[e] at e'; cases e';exact⟨e,f0,f1,f2,d⟩
theorem Inv.unpinned{pins pl:List (Addr×Obj)}{σ:St}{H:Hp}{s:Shared}(I:Inv X (pins++pl) σ H s):Inv X pins σ H s:=I.pins_of fun p hp=>I.pin p (List.mem_append_right _ (List.mem_append_left _ hp))
theorem Yi0{iter:Expr}{body:List Stmt}{wi:TI}{g:TG}{tb:TS}{pos:Pos}(hp:PassesOwn (model X.prog X.w) X.A X.env X.xe)(hc:X.calm=true)(hi:PI X tg iter wi)(hg:PG X tg g)(hb:PSs X body tb)
  (hs:∀x,foldedSetIterable iter X.env x=pure x:=by intro _; rfl):PS X (.For tg iter body [] pos) (Uf0 wi g tb):=by
 intro pins s σ H D I h;refine wpAny_For (thn (hi pins s σ H _ I h) fun v s1 h1=>thn h1 fun itv s2 h2=>?_) hs
 obtain⟨it,fp,tn,J,H2,e,I2,T,st2,f2,W,⟨m0,w0⟩,turn⟩:=h2;subst e;have stat:∀{H':Hp},(∀b∈fp,H' b=none)->∀b∈fp,vl0 X pins H' b:=fun hn b hb=>⟨hn b hb,(f2 b hb).2⟩
 refine codeAny_forLoop_any (fun n s'=>∃i σ' H',Inv X pins σ' H' s'/\tn i s'.heap/\(∀b∈fp,H' b=none)/\W i n σ' H') ?_ m0 ⟨0,σ,H2,I2,st2,fun b hb=>(f2 b hb).1,w0⟩
 rintro n s3 ⟨i,σ3,H3,I3,st3,fr3,w3⟩
 rcases turn i n σ3 H3 w3 with⟨stop,qn⟩|⟨go,N,hN,step⟩
 ·refine wpAny_passesOwn hp (thn (T.done X rfl rfl rfl hc i pins s3 σ3 H3 X.xe I3 (stat fr3) st3 stop) fun r s4 ⟨hr,I4⟩=>?_)
  subst hr;exact wpAny_execs_nil ⟨σ3,H3,I4,qn⟩
 ·refine wpAny_passesOwn hp (thn (T.item X rfl rfl rfl hc i pins s3 σ3 H3 X.xe I3 (stat fr3) st3 go) fun r s4 ⟨u,hr,h4⟩=>?_)
  subst hr;refine wpAny_passesOwn hp (thn h4 fun _ s5 ⟨x,H5,I5,r5,y5,st5,fr5⟩=>?_)
  have I5':=I5.pinned (stat fr5) (T.obj _ _ st5)
  refine wpAny_passesOwn hp (thn (hg _ s5 σ3 H5 x u _ I5' r5 (step x H5 y5)) fun _ s6 ⟨σ6,H6,I6,q6⟩=>?_)
  refine wpAny_passesOwn hp (thn (hb _ s6 σ6 H6 _ I6 q6) fun f s7 q7=>?_)
  have again:∀{σ7:St} {H7:Hp},Inv X (pins++s30 fp s5.heap) σ7 H7 s7->N σ7 H7->∃m,m<n/\∃i σ' H',Inv X pins σ' H' s7/\tn i s7.heap/\(∀b∈fp,H' b=none)/\W i m σ' H':=fun {σ7 H7} I7 n7=>by
   obtain⟨m',hm,w7⟩:=hN σ7 H7 n7;refine⟨m',hm,i+1,σ7,H7,I7.unpinned,T.keep _ _ _ st5 fun b hb o e=>(I7.pin (b,o) (List.mem_append_right _ (List.mem_append_right _ (wp0 hb e)))).1,fun b hb=>?_,w7⟩
   obtain⟨o,e,d⟩:=T.obj _ _ st5 b hb;exact(I7.pin (b,o) (List.mem_append_right _ (List.mem_append_right _ (wp0 hb e)))).2.1
  cases f with
  | next=>obtain⟨σ7,H7,I7,n7⟩:=q7; exact again I7 n7
  | cont=>obtain⟨σ7,H7,I7,n7⟩:=q7; exact again I7 n7
  | brk=>obtain⟨σ7,H7,I7,q7⟩:=q7; exact⟨σ7,H7,I7.unpinned,q7⟩
  | ret v=>obtain⟨x7,σ7,H7,I7,r7,q7⟩:=q7; exact⟨x7,σ7,H7,I7.unpinned,r7,q7⟩
end
abbrev R2:=V->V->Hp->VK->Prop
def OpR(X:Cx)(f:Value->Value->Sem Value)(r:R2):Prop :=
 ∀(pins:List (Addr×Obj)) (s:Shared) (σ:St) (H:Hp) (x y:V) (v u:Value) (Q:VK),Inv X pins σ H s->RelV x v->RelV y u->r x y H Q ->
  wpAny (model X.prog X.w) X.A (f v u) (EP X pins σ Q) X.xe s
def UnR(X:Cx)(f:Value->Sem Value)(r:V->Hp->VK->Prop):Prop :=
 ∀(pins:List (Addr×Obj)) (s:Shared) (σ:St) (H:Hp) (x:V) (v:Value) (Q:VK),Inv X pins σ H s->RelV x v->r x H Q ->
  wpAny (model X.prog X.w) X.A (f v) (EP X pins σ Q) X.xe s
def CallR(X:Cx)(f:Value)(r:List V->Hp->VK->Prop):Prop :=
 ∀(pins:List (Addr×Obj)) (s:Shared) (σ:St) (H:Hp) (xs:List V) (us:List Value) (Q:VK),Inv X pins σ H s->Vals xs us->r xs H Q ->
  wpAny (model X.prog X.w) X.A (call f us) (EP X pins σ Q) X.xe s
def tOp(r:R2)(ta tb:TE):TE:=fun σ H Q=>ta σ H fun x H1=>tb σ H1 fun y H2=>r x y H2 Q
def tUn(r:V->Hp->VK->Prop)(ta:TE):TE:=fun σ H Q=>ta σ H fun x H1=>r x H1 Q
def rI(C:Int->Int->Prop)(g:Int->Int->V):R2:=fun x y H Q=>∃i j,x=.int i/\y=.int j/\C i j/\Q (g i j) H
def rI0(g:Int->Int->V):R2:=fun x y H Q=>∃i j,x=.int i/\y=.int j/\Q (g i j) H
def rU(g:Int->V):V->Hp->VK->Prop:=fun x H Q=>∃i,x=.int i/\Q (g i) H
section
variable{X:Cx}{a b c:Expr}{ta tb tc:TE}{pos:Pos}
theorem ez0(ha:PE X a ta)(hb:PE X b tb){pins:List (Addr×Obj)}{s:Shared}{σ:St}{H:Hp}{R:V->V->Hp->Prop}(I:Inv X pins σ H s)
  (h:ta σ H fun x H1=>tb σ H1 fun y H2=>R x y H2) {Q:Value->Shared->Prop} {f:Value->Value->Sem Value}
  (hf:∀v u s2 x y H2,Inv X pins σ H2 s2->RelV x v->RelV y u->R x y H2->wpAny (model X.prog X.w) X.A (f v u) Q X.xe s2) :
  wpAny (model X.prog X.w) X.A (eval a X.env) (fun v s₁=>wpAny (model X.prog X.w) X.A (eval b X.env) (fun u s₂=>wpAny (model X.prog X.w) X.A (f v u) Q X.xe s₂) X.xe s₁) X.xe s:=by
 refine thn (ha pins s σ H _ I h) fun v s1 ⟨x,H1,I1,r1,q1⟩=>?_
 refine thn (hb pins s1 σ H1 _ I1 q1) fun u s2 ⟨y,H2,I2,r2,q2⟩=>?_
 exact hf v u s2 x y H2 I2 r1 r2 q2
theorem cm0{op:Operator}{r:R2}(ho:OpR X (binaryOp op) r)(ha:PE X a ta)(hb:PE X b tb):PE X (.BinOp a op b pos) (tOp r ta tb):=by
 intro pins s σ H Q I h;exact wpAny_BinOp (ez0 ha hb I h fun v u s2 x y H2 I2 rx ry q=>ho pins s2 σ H2 x y v u Q I2 rx ry q)
theorem Vj0{op:UnaryOp}{r:V->Hp->VK->Prop}(ho:UnR X (unaryOp op) r)(ha:PE X a ta):PE X (.UnaryOp op a pos) (tUn r ta):=by
 intro pins s σ H Q I h;exact UnaryOp_ (thn (ha pins s σ H _ I h) fun v s1 ⟨x,H1,I1,r1,q1⟩=>ho pins s1 σ H1 x v Q I1 r1 q1)
theorem opI{f:Value->Value->Sem Value}{C:Int->Int->Prop}{g:Int->Int->Int}
  (rule:∀(i j:Int) (t u:Tok) (s:Shared) (Q:Value->Shared->Prop) (E:Value->Shared->Prop),C i j->Q (.int (g i j) s.toks) { s with toks:=s.toks+1 }->wpAny (model X.prog X.w) X.A (f (.int i t) (.int j u)) Q E s) :
  OpR X f (rI C fun i j=>.int (g i j)):=by
 intro pins s σ H x y v u Q I rx ry h;obtain⟨i,j,rfl,rfl,hc,q⟩:=h;obtain⟨t,rfl⟩:=rx;obtain⟨t',rfl⟩:=ry;exact rule i j t t' s _ _ hc ⟨.int (g i j),H,I.tok _,⟨_,rfl⟩,q⟩
theorem Xn0{f:Value->Value->Sem Value}{g:Int->Int->Int}
  (rule:∀(i j:Int) (t u:Tok) (s:Shared) (Q:Value->Shared->Prop) (E:Value->Shared->Prop),Q (.int (g i j) s.toks) { s with toks:=s.toks+1 }->wpAny (model X.prog X.w) X.A (f (.int i t) (.int j u)) Q E s) :
  OpR X f (rI0 fun i j=>.int (g i j)):=by
 intro pins s σ H x y v u Q I rx ry h;obtain⟨i,j,rfl,rfl,q⟩:=h;obtain⟨t,rfl⟩:=rx;obtain⟨t',rfl⟩:=ry;exact rule i j t t' s _ _ ⟨.int (g i j),H,I.tok _,⟨_,rfl⟩,q⟩
theorem d20{f:Value->Value->Sem Value}{g:Int->Int->Bool}
  (rule:∀(i j:Int) (t u:Tok) (s:Shared) (Q:Value->Shared->Prop) (E:Value->Shared->Prop),Q (.bool (g i j)) s->wpAny (model X.prog X.w) X.A (f (.int i t) (.int j u)) Q E s) :
  OpR X f (rI0 fun i j=>.bl (g i j)):=by
 intro pins s σ H x y v u Q I rx ry h;obtain⟨i,j,rfl,rfl,q⟩:=h;obtain⟨t,rfl⟩:=rx;obtain⟨t',rfl⟩:=ry;exact rule i j t t' s _ _ ⟨.bl (g i j),H,I,rfl,q⟩
def dn0(i j:Int):Prop:=0<j/\j<1073741824
def da0(i j:Int):Prop:=0<=j/\j<=1000000/\i.natAbs<2 ^ 64
def CMul(i j:Int):Prop:=(-(2 ^ 64)<i/\i<2 ^ 64)∨(-(2 ^ 64)<j/\j<2 ^ 64)
theorem CMul.ok{i j:Int}(h:CMul i j):IntMulOk i j:=by
 rcases h with⟨h1,h2⟩|⟨h1,h2⟩
 ·exact .of_left (intBits_le_64 h1 h2)
 ·exact .of_right (intBits_le_64 h1 h2)
theorem Wp0:OpR X (binaryOp .Add) (rI0 fun i j=>.int (i+j)):=Xn0 fun _ _ _ _ _ _ _ q=>add_int q
theorem Xb0:OpR X (binaryOp .Sub) (rI0 fun i j=>.int (i - j)):=Xn0 fun _ _ _ _ _ _ _ q=>sub_int q
theorem W90:OpR X (binaryOp .Mult) (rI CMul fun i j=>.int (i*j)):=opI fun _ _ _ _ _ _ _ hc q=>mul_int q hc.ok
theorem bn0:OpR X (binaryOp .FloorDiv) (rI dn0 fun i j=>.int (i/j)):=opI fun i j _ _ _ _ _ hc q=>by
 have h1:(0:Int)<j:=hc.1
 have h2:j<1073741824:=hc.2
 exact floordiv_int (by omega) (by rw[Int.fdiv_eq_ediv_of_nonneg i (by omega)]; exact q) (.inl (PyProof.noPylong_small (by omega)))
theorem Yk0:OpR X (binaryOp .Mod) (rI (fun _ j=>0<j) fun i j=>.int (i%j)):=opI fun i j _ _ _ _ _ hc q=>by
 have h1:(0:Int)<j:=hc
 exact mod_int' (by omega) (by rw[Int.fmod_eq_emod_of_nonneg i (by omega)]; exact q)
theorem Xj0:OpR X (binaryOp .Pow) (rI da0 fun i j=>.int (i ^ j.toNat)):=opI fun _ _ _ _ _ _ _ hc q=>pow_int_small hc.1 hc.2.1 hc.2.2 q
theorem unI{f:Value->Sem Value}{g:Int->Int}
  (rule:∀(i:Int) (t:Tok) (s:Shared) (Q:Value->Shared->Prop) (E:Value->Shared->Prop),Q (.int (g i) s.toks) { s with toks:=s.toks+1 }->wpAny (model X.prog X.w) X.A (f (.int i t)) Q E s) :
  UnR X f (rU fun i=>.int (g i)):=by
 intro pins s σ H x v Q I rx h;obtain⟨i,rfl,q⟩:=h;obtain⟨t,rfl⟩:=rx;exact rule i t s _ _ ⟨.int (g i),H,I.tok _,⟨_,rfl⟩,q⟩
theorem Yp0:UnR X (unaryOp .USub) (rU fun i=>.int (-i)):=unI fun _ _ _ _ _ q=>neg_int q
end
def ew0:V->V->Bool
 | .non,.non=>true|.non,.int _=>true|.int _,.non=>true|.non,.bl _=>true|.bl _,.non=>true|.non,.str _=>true|.str _,.non=>true
 | .int _,.int _=>true|.bl _,.bl _=>true|.str _,.str _=>true|.byt _,.byt _=>true
 | .int _,.str _=>true|.str _,.int _=>true|.bl _,.str _=>true|.str _,.bl _=>true
 | _,_=>false
def rEq:R2:=fun x y H Q=>ew0 x y=true/\Q (.bl (decide (x=y))) H
def rNe:R2:=fun x y H Q=>ew0 x y=true/\Q (.bl (!decide (x=y))) H
theorem j60{i j:Int}:decide (V.int i=V.int j)=(i==j):=by
 rw[Bool.eq_iff_iff]
 simp
theorem fu0{i j:Bool}:decide (V.bl i=V.bl j)=(i==j):=by
 rw[Bool.eq_iff_iff]
 simp
theorem j70{i j:Str}:decide (V.str i=V.str j)=(i==j):=by
 rw[Bool.eq_iff_iff]
 simp
theorem ja0{i j:Array UInt8}:decide (V.byt i=V.byt j)=(i.toList==j.toList):=by
 rw[Bool.eq_iff_iff];cases i;cases j
 simp
section
variable{X:Cx}{a b c:Expr}{ta tb tc:TE}{pos:Pos}
theorem Y8{pins:List (Addr×Obj)}{σ:St}{H:Hp}{s:Shared}{Q:VK}{k k':Bool}(I:Inv X pins σ H s)(q:Q (.bl k) H)(e:k=k'):EP X pins σ Q (.bool k') s:=by
 subst e;exact⟨.bl k,H,I,rfl,q⟩
theorem M3:OpR X (compareOp .Eq) rEq:=by
 intro pins s σ H x y v u Q I rx ry h;obtain⟨hs,q⟩:=h
 cases x with
 | non =>
  cases rx
  cases y with
  | non=>cases ry; exact PySem.EqNone.eq_none_none (Y8 I q (by simp))
  | bl j=>cases ry; exact PySem.EqNone.eq_none_bool (Y8 I q (by simp))
  | int j=>obtain⟨t',rfl⟩:=ry; exact PySem.EqNone.eq_none_int (Y8 I q (by simp))
  | str j=>obtain⟨t',rfl⟩:=ry; exact PySem.EqNone.eq_none_str (Y8 I q (by simp))
  | _=>exact absurd (show false=true from hs) Bool.false_ne_true
 | bl i =>
  cases rx
  cases y with
  | non=>cases ry; exact PySem.EqNone.eq_bool_none (Y8 I q (by simp))
  | bl j=>cases ry; exact eq_bool (Y8 I q fu0)
  | str j=>obtain⟨t',rfl⟩:=ry; exact PySem.EqMixed.eq_bool_str (Y8 I q (by simp))
  | _=>exact absurd (show false=true from hs) Bool.false_ne_true
 | int i =>
  obtain⟨t,rfl⟩:=rx
  cases y with
  | non=>cases ry; exact PySem.EqNone.eq_int_none (Y8 I q (by simp))
  | int j=>obtain⟨t',rfl⟩:=ry; exact eq_int (Y8 I q j60)
  | str j=>obtain⟨t',rfl⟩:=ry; exact PySem.EqMixed.eq_int_str (Y8 I q (by simp))
  | _=>exact absurd (show false=true from hs) Bool.false_ne_true
 | str i =>
  obtain⟨t,rfl⟩:=rx
  cases y with
  | non=>cases ry; exact PySem.EqNone.eq_str_none (Y8 I q (by simp))
  | bl j=>cases ry; exact PySem.EqMixed.eq_str_bool (Y8 I q (by simp))
  | int j=>obtain⟨t',rfl⟩:=ry; exact PySem.EqMixed.eq_str_int (Y8 I q (by simp))
  | str j=>obtain⟨t',rfl⟩:=ry; exact eq_str (Y8 I q j70)
  | _=>exact absurd (show false=true from hs) Bool.false_ne_true
 | byt i =>
  obtain⟨t,rfl⟩:=rx
  cases y with
  | byt j=>obtain⟨t',rfl⟩:=ry; exact W.eq_bytes (Y8 I q ja0)
  | _=>exact absurd (show false=true from hs) Bool.false_ne_true
 | _=>cases y<;>exact absurd (show false=true from hs) Bool.false_ne_true
theorem Vl0:OpR X (compareOp .NotEq) rNe:=by
 intro pins s σ H x y v u Q I rx ry h;obtain⟨hs,q⟩:=h
 cases x with
 | non =>
  cases rx
  cases y with
  | non=>cases ry; exact PySem.EqNone.ne_none_none (Y8 I q (by simp))
  | bl j=>cases ry; exact PySem.EqNone.ne_none_bool (Y8 I q (by simp))
  | int j=>obtain⟨t',rfl⟩:=ry; exact PySem.EqNone.ne_none_int (Y8 I q (by simp))
  | str j=>obtain⟨t',rfl⟩:=ry; exact PySem.EqNone.ne_none_str (Y8 I q (by simp))
  | _=>exact absurd (show false=true from hs) Bool.false_ne_true
 | bl i =>
  cases rx
  cases y with
  | non=>cases ry; exact PySem.EqNone.ne_bool_none (Y8 I q (by simp))
  | bl j=>cases ry; exact ne_bool (Y8 I q (congrArg not fu0))
  | str j=>obtain⟨t',rfl⟩:=ry; exact PySem.EqMixed.ne_bool_str (Y8 I q (by simp))
  | _=>exact absurd (show false=true from hs) Bool.false_ne_true
 | int i =>
  obtain⟨t,rfl⟩:=rx
  cases y with
  | non=>cases ry; exact PySem.EqNone.ne_int_none (Y8 I q (by simp))
  | int j=>obtain⟨t',rfl⟩:=ry; exact ne_int (Y8 I q (congrArg not j60))
  | str j=>obtain⟨t',rfl⟩:=ry; exact PySem.EqMixed.ne_int_str (Y8 I q (by simp))
  | _=>exact absurd (show false=true from hs) Bool.false_ne_true
 | str i =>
  obtain⟨t,rfl⟩:=rx
  cases y with
  | non=>cases ry; exact PySem.EqNone.ne_str_none (Y8 I q (by simp))
  | bl j=>cases ry; exact PySem.EqMixed.ne_str_bool (Y8 I q (by simp))
  | int j=>obtain⟨t',rfl⟩:=ry; exact PySem.EqMixed.ne_str_int (Y8 I q (by simp))
  | str j=>obtain⟨t',rfl⟩:=ry; exact ne_str (Y8 I q (congrArg not j70))
  | _=>exact absurd (show false=true from hs) Bool.false_ne_true
 | byt i =>
  obtain⟨t,rfl⟩:=rx
  cases y with
  | byt j=>obtain⟨t',rfl⟩:=ry; exact W.ne_bytes (Y8 I q (congrArg not ja0))
  | _=>exact absurd (show false=true from hs) Bool.false_ne_true
 | _=>cases y<;>exact absurd (show false=true from hs) Bool.false_ne_true
theorem u50:OpR X (compareOp .Lt) (rI0 fun i j=>.bl (decide (i<j))):=d20 fun _ _ _ _ _ _ _ q=>lt_int q
theorem b20:OpR X (compareOp .LtE) (rI0 fun i j=>.bl (decide (i<=j))):=d20 fun _ _ _ _ _ _ _ q=>le_int q
theorem ix0:OpR X (compareOp .Gt) (rI0 fun i j=>.bl (decide (j<i))):=d20 fun _ _ _ _ _ _ _ q=>gt_int q
theorem e30:OpR X (compareOp .Is) (fun x y H Q=>y=.non/\Q (.bl (decide (x=.non))) H):=by
 intro pins s σ H x y v u Q I rx ry h;obtain⟨rfl,q⟩:=h;cases ry;refine is_none_gen (Y8 I q ?_)
 cases x<;>first
  | (cases rx; rfl)
  | (obtain⟨t,rfl⟩:=rx; rfl)
theorem jv0:OpR X (compareOp .IsNot) (fun x y H Q=>y=.non/\Q (.bl (!decide (x=.non))) H):=by
 intro pins s σ H x y v u Q I rx ry h;obtain⟨rfl,q⟩:=h;cases ry;refine isnot_none_gen (Y8 I q ?_)
 cases x<;>first
  | (cases rx; rfl)
  | (obtain⟨t,rfl⟩:=rx; rfl)
theorem OpR.or{f:Value->Value->Sem Value}{r r':R2}(h:OpR X f r)(h':OpR X f r'):OpR X f (fun x y H Q=>r x y H Q∨r' x y H Q):=by
 intro pins s σ H x y v u Q I rx ry q;rcases q with q|q
 ·exact h pins s σ H x y v u Q I rx ry q
 ·exact h' pins s σ H x y v u Q I rx ry q
theorem f00(b:Expr){op:CmpOp}(h:op≠.In:=by decide)(h2:op≠.NotIn:=by decide):behindInMarks op b=false:=by
 have e1:(op==CmpOp.In)=false:=by cases op<;>first|rfl|exact absurd rfl h
 have e2:(op==CmpOp.NotIn)=false:=by cases op<;>first|rfl|exact absurd rfl h2
 cases b<;>simp[behindInMarks,e1,e2]
theorem bx0{op:CmpOp}{r:R2}(ho:OpR X (compareOp op) r)(ha:PE X a ta)(hb:PE X b tb)(hm:behindInMarks op b=false):PE X (.Compare a [op] [b] pos) (tOp r ta tb):=by
 intro pins s σ H Q I h;exact wpAny_Compare1 (ez0 ha hb I h fun v u s2 x y H2 I2 rx ry q=>ho pins s2 σ H2 x y v u Q I2 rx ry q) hm
def V10(t:TE):TT:=fun σ H Q=>t σ H fun x H'=>∃k,x=.bl k/\Q k H'
theorem Zi0{op:CmpOp}{r:R2}(ho:OpR X (compareOp op) r)(ha:PE X a ta)(hb:PE X b tb)(hm:behindInMarks op b=false):PT X (.Compare a [op] [b] pos) (V10 (tOp r ta tb)):=by
 intro pins s σ H Q I h;refine wpAny_isTrue_Compare1 (thn (ha pins s σ H _ I h) fun v s1 ⟨x,H1,I1,r1,q1⟩=>thn (hb pins s1 σ H1 _ I1 q1) fun u s2 ⟨y,H2,I2,r2,q2⟩ =>
  thn (ho pins s2 σ H2 x y v u _ I2 r1 r2 q2) fun c s3 ⟨z,H3,I3,r3,k,e,q3⟩=>?_) hm
 subst e;cases r3;exact wpAny_truthy_bool ⟨H3,I3,q3⟩
def fd0(r r':R2)(ta tb tc:TE):TE:=fun σ H Q=>ta σ H fun x H1=>tb σ H1 fun y H2=>r x y H2 fun z H3=>∃k,z=.bl k /\
 (if k=true then tc σ H3 fun w' H4=>r' y w' H4 Q else Q (.bl false) H3)
theorem c60{op op':CmpOp}{r r':R2}(ho:OpR X (compareOp op) r)(ho':OpR X (compareOp op') r')(ha:PE X a ta)(hb:PE X b tb)(hc:PE X c tc)
  (hm:lastMarks [op,op'] [b,c]=false:=by with_unfolding_all rfl):PE X (.Compare a [op,op'] [b,c] pos) (fd0 r r' ta tb tc):=by
 intro pins s σ H Q I h;refine Compare_chain (thn (ha pins s σ H _ I h) fun v s1 ⟨x,H1,I1,r1,q1⟩=>chain_link (thn (hb pins s1 σ H1 _ I1 q1) fun u s2 ⟨y,H2,I2,r2,q2⟩ =>
  thn (ho pins s2 σ H2 x y v u _ I2 r1 r2 q2) fun d s3 ⟨z,H3,I3,r3,k,e,q3⟩=>?_)) hm
 subst e;cases r3;refine wpAny_truthy_bool ?_
 cases k with
 | false=>exact ite_ff ⟨.bl false,H3,I3,rfl,q3⟩
 | true=>exact ite_tt (chain_last (thn (hc pins s3 σ H3 _ I3 q3) fun w' s4 ⟨z',H4,I4,r4,q4⟩=>ho' pins s4 σ H4 y z' u w' Q I4 r2 r4 q4))
theorem w90:(sizeLine:Nat)<2 ^ 63:=by rw[sizeLine_eq]; decide
theorem im0:OpR X (binaryOp .Add) (fun x y H Q=>∃i j,x=.str i/\y=.str j/\i.length+j.length<=sizeLine/\Q (.str (i++j)) H):=by
 intro pins s σ H x y v u Q I rx ry h;obtain⟨i,j,rfl,rfl,hz,q⟩:=h;obtain⟨t,rfl⟩:=rx;obtain⟨t',rfl⟩:=ry;exact add_str (fun t' tk=>⟨.str (i++j),H,I.tok _,⟨_,rfl⟩,q⟩) hz
theorem vals1{x:V}{us:List Value}(r:Vals [x] us):∃u,us=[u]/\RelV x u:=by
 cases r with
 | cons r1 r2=>cases r2; exact⟨_,rfl,r1⟩
theorem fx0:CallR X (.type "int") (fun xs H Q=>(∃i,xs=[.int i]/\Q (.int i) H)∨∃k,xs=[.bl k]/\Q (.int (if k then 1 else 0)) H):=by
 intro pins s σ H xs us Q I r h;rcases h with⟨i,rfl,q⟩|⟨k,rfl,q⟩
 ·obtain⟨u,rfl,t,rfl⟩:=vals1 r
  exact call_int_int ⟨.int i,H,I,⟨_,rfl⟩,q⟩
 ·obtain⟨u,rfl,r1⟩:=vals1 r
  cases r1;exact call_int_bool ⟨.int (if k then 1 else 0),H,I.tok _,⟨_,rfl⟩,q⟩
end
section
variable{prog:Program}{w:World}{A:Around}{E:Value->Shared->Prop}{s:Shared}{K:W.Frag}{x dx C f:Addr}{mA:Str->Option Value}{name:Str}{v:Value}
end
theorem RelO.some_of{v:V}{o:Option Value}(r:RelO (some v) o):∃u,o=some u/\RelV v u:=by
 cases o with
 | none=>exact(show False from r).elim
 | some u=>exact⟨u,rfl,r⟩
section
variable{P:Program}{w:World}{H H':Hp}{h h':Heap}{a C dx:Addr}{fs fs':List (Str×V)}
end
section
variable{X:Cx}{pins:List (Addr×Obj)}{σ:St}{H:Hp}{s:Shared}{a C dx:Addr}{fs:List (Str×V)}{f:Str}{v:V}{A:Around}{E:Value->Shared->Prop}
end
section
variable{X:Cx}{o e value:Expr}{f:Str}{pos pos' tpos:Pos}{ta tv:TE}
end
section
variable{X:Cx}{pins:List (Addr×Obj)}{σ:St}{H:Hp}{s:Shared}{A:Around}{E:Value->Shared->Prop}{Q:Value->Shared->Prop}{c:Value}{b:Bool}
end
structure Room(k:Nat)(A:Around):Prop where
 hd:A.handled=none
 dp:A.depth+3*k+5<recursionLimit
 un:A.units+16*k+200<cLine
theorem Room.mono{j k:Nat}{A:Around}(r:Room k A)(h:j<=k):Room j A:=⟨r.hd,by have:=r.dp; omega,by have:=r.un; omega⟩
theorem Room.deeper{k:Nat}{A:Around}(r:Room (k+1) A)(env:Env):Room k (A.deeper env) :=
 ⟨r.hd,by have:=r.dp; show A.depth+1+3*k+5<_; omega,by have:=r.un; show A.units+3+16*k+200<_; omega⟩
theorem Room.depth{k:Nat}{A:Around}(r:Room k A):A.depth<recursionLimit:=by have:=r.dp; omega
theorem Room.units{k:Nat}{A:Around}(r:Room k A):A.units+64<cLine:=by have:=r.un; omega
def T30:TA:=fun _ H Q=>Q [] H
def Ve0(ta:TE)(tr:TA):TA:=fun σ H Q=>ta σ H fun x H1=>tr σ H1 fun xs H2=>Q (x::xs) H2
section
variable{X:Cx}{e:Expr}{es:List Expr}{te:TE}{t:TA}{pos:Pos}
theorem yj0:PA X [] T30:=fun _ _ _ _ H Q I h=>Calls.spliced_nil ⟨[],H,I,.nil,h⟩
theorem z00(ha:PE X e te)(hr:PA X es t)(hs:starEach (e::es) X.env=(false,eval e X.env)::starEach es X.env:=by rfl):PA X (e::es) (Ve0 te t):=by
 intro pos pins s σ H Q I h;rw[hs];show wpAny _ _ (spliced ((false,eval e X.env)::backTo pos (starEach es X.env))) _ _ s;refine Calls.spliced_cons (thn (ha pins s σ H _ I h) fun u s1 ⟨x,H1,I1,r1,q1⟩=>?_)
 exact thn (hr pos pins s1 σ H1 _ I1 q1) fun us s2 ⟨xs,H2,I2,r2,q2⟩=>⟨x::xs,H2,I2,.cons r1 r2,q2⟩
def Uw0(t:TA):TE:=fun σ H Q=>t σ H fun xs H1=>xs.length<=sizeLine/\∀p,H1 p=none->Q (.ref p) (upd H1 p (.tup xs))
def Uq0(t:TA):TE:=fun σ H Q=>t σ H fun xs H1=>xs.length<=sizeLine/\∀p,H1 p=none->Q (.ref p) (upd H1 p (.lst xs))
theorem Wi0{x1}(h:PA X es t):PE X (.Tuple es x1 pos) (Uw0 t):=by
 intro pins s σ H Q I hq;refine wpAny_Tuple_spliced (thn (h pos pins s σ H _ I hq) fun us s1 ⟨xs,H1,I1,r,z,q⟩=>⟨by rw[← r.length]; exact z,?_⟩)
 have hf:H1 s1.heap.objs.size=none:=I1.hok.fresh (Nat.le_refl _)
 refine⟨.ref s1.heap.objs.size,upd H1 s1.heap.objs.size (.tup xs),I1.laid (t':=s1.toks) (fun b u e=>Heap.get?_push_of_some _ e) (Nat.le_refl _) ?_,rfl,q _ hf⟩
 exact⟨z,us,r,⟨_,Heap.get?_push_size _ rfl,rfl,_,rfl,rfl⟩⟩
theorem fh0(h:PA X es t):PE X (.List es pos) (Uq0 t):=by
 intro pins s σ H Q I hq;refine wpAny_List_spliced (thn (h pos pins s σ H _ I hq) fun us s1 ⟨xs,H1,I1,r,z,q⟩=>⟨by rw[← r.length]; exact z,?_⟩)
 have hf:H1 s1.heap.objs.size=none:=I1.hok.fresh (Nat.le_refl _)
 refine⟨.ref s1.heap.objs.size,upd H1 s1.heap.objs.size (.lst xs),I1.laid (t':=s1.toks) (fun b u e=>Heap.get?_push_of_some _ e) (Nat.le_refl _) ?_,rfl,q _ hf⟩
 exact⟨z,us,0,r,Heap.get?_push_size _ rfl⟩
end
abbrev Sp:=List V->Hp->VK->XK->Prop
abbrev CXT:=List Env->Hp->Shared->XK->Value->Shared->Prop
structure Env0(P:Program)(w:World)(K:W.Frag)(mg:Str->Option Value)(base:Heap)(A:Around)(outer:List Env)(s:Shared)(H:Hp):Prop where
 frames:A.frames=some outer
 mod:Mod K mg base
 bs:∀b o,base.get? b=some o->s.heap.get? b=some o/\H b=none
 bsz:base.objs.size<=s.heap.objs.size
 funs:s.heap.FunFrames base outer
 frf:∀b∈frs outer,H b=none
 hok:HOk P w H s.heap
 bare:AllBare s.gens
def CE(outer:List Env)(P:Program)(w:World)(H:Hp)(s:Shared)(Q:VK)(u:Value)(s':Shared):Prop :=
 ∃v H',s'.os=s.os/\AllBare s'.gens/\Un (frs outer) [] H H' s.heap s'.heap/\HOk P w H' s'.heap/\RelV v u/\Q v H'
def CR(CX:CXT)(outer:List Env)(P:Program)(w:World)(H:Hp)(s:Shared)(Q:VK)(E:XK)(r:Result)(s':Shared):Prop :=
 match r with
 | .ok (.ret u)=>CE outer P w H s Q u s'
 | .ok _=>False
 | .error e=>CX outer H s E e s'
structure FnOk(P:Program)(w:World)(K:W.Frag)(mg:Str->Option Value)(base:Heap)(CX:CXT)(k:Nat)(f:Addr)(fd:FuncData)(ps:List Str)(sp:Sp):Prop where
 len:∀vs H Q E,sp vs H Q E->vs.length=ps.length
 run:∀(A:Around) (outer:List Env) (s:Shared) (H:Hp) (args:Args) (us:List Value) (vs:List V) (Q:VK) (E:XK),Room k A->Env0 P w K mg base A outer s H->BindsTo s fd args (ps.zip us)->Vals vs us->sp vs H Q E ->
  codeAny (model P w) A (.call (.ref f) args) (CR CX outer P w H s Q E) s
section
variable{X:Cx}{pins:List (Addr×Obj)}{σ:St}{H:Hp}{s s':Shared}
theorem Inv.env0(I:Inv X pins σ H s):Env0 X.prog X.w X.K X.mg X.base X.A X.stack s H :=
 ⟨I.ok.frames,I.ok.mod,I.bs,Nat.le_trans I.ok.bsz I.sz,I.stack,I.stkFree,I.hok,I.bare⟩
theorem Inv.after{Q:VK}{u:Value}(I:Inv X pins σ H s)(h:CE X.stack X.prog X.w H s Q u s'):EP X pins σ Q u s':=by
 obtain⟨v,H',os,bare,un,hok,r,q⟩:=h;obtain⟨hh,g,d,t,os'⟩:=s';obtain rfl:os'=s.os:=os;exact⟨v,H',I.call (h':=hh) (g':=g) (d':=d) (t':=t) (ch:=[]) un hok bare (fun b z=>absurd z (by simp)),r,q⟩
end
def V90(sp:Sp)(dvs:List V)(E:XK)(t:TA):TE:=fun σ H Q=>t σ H fun vs H1=>sp (vs++dvs) H1 Q E
def Binds(K:W.Frag)(fd:FuncData)(ps:List Str)(ds:List Value):Prop :=
 ∀(s:Shared) (us:List Value),K.In s.heap->(us++ds).length=ps.length->BindsTo s fd ⟨us,[]⟩ (ps.zip (us++ds))
theorem Binds.all{K:W.Frag}{fd:FuncData}{ps:List Str}(h:∀us:List Value,us.length=ps.length->bindArgs fd ⟨us,[]⟩=pure (ps.zip us)):Binds K fd ps []:=fun s us _ hl=>by
 rw[List.append_nil] at hl ⊢;exact .of_eq (h us hl)
def mm0(CX:CXT)(X:Cx)(E:XK):Prop:=∀(pins:List (Addr×Obj)) (σ:St) (H:Hp) (s:Shared) (e:Value) (s':Shared),Inv X pins σ H s->CX X.stack H s E e s'->X.xe e s'
section
variable{X:Cx}{CX:CXT}{k:Nat}{f C:Addr}{fd:FuncData}{ps:List Str}{sp:Sp}{dvs:List V}{ds:List Value}{E:XK}{x m:Str}{p pos apos:Pos}{e o:Expr}{es:List Expr}{ta:TE}{t:TA}
theorem X30{pins:List (Addr×Obj)}{σ:St}{H:Hp}{s:Shared}{Q:VK}{us:List Value}{vs:List V}(F:FnOk X.prog X.w X.K X.mg X.base CX k f fd ps sp)(hr:Room k X.A)(hb:Binds X.K fd ps ds)(hd:Vals dvs ds)(hx:mm0 CX X E)
  (I:Inv X pins σ H s) (r:Vals vs us) (h:sp (vs++dvs) H Q E):wpAny (model X.prog X.w) X.A (call (.ref f) us) (EP X pins σ Q) X.xe s:=by
 have r2:Vals (vs++dvs) (us++ds):=r.append hd
 have hl:(us++ds).length=ps.length:=by rw[← r2.length]; exact F.len _ _ _ _ h
 refine wpAny_call (codeAny_mono (F.run X.A X.stack s H ⟨us,[]⟩ (us++ds) (vs++dvs) Q E hr I.env0 (hb s us I.kIn hl) r2 h) fun r s' hq=>?_)
 cases r with
 | error e=>exact hx pins σ H s e s' I hq
 | ok fl =>
  cases fl with
  | ret u=>exact I.after hq
  | next=>exact False.elim hq
  | brk=>exact False.elim hq
  | cont=>exact False.elim hq
theorem sp0(F:FnOk X.prog X.w X.K X.mg X.base CX k f fd ps sp)(hr:Room k X.A)(hg:Gl X x)(hm:X.mg x=some (.ref f))(hk:W.keepIn X.K (.ref f)=true)(hb:Binds X.K fd ps ds)(hd:Vals dvs ds)(hx:mm0 CX X E)
  (ha:PA X (e::es) t) (hdb:(x==("__debug__" : Str))=false:=by decide) (he:starEach (e::es) X.env=(false,eval e X.env)::starEach es X.env:=by rfl) (hpl:(backTo pos (starEach es X.env)).any (·.1)=false:=by rfl) :
  PE X (.Call (.Name x p) (e::es) [] pos) (V90 sp dvs E t):=by
 intro pins s σ H Q I h;refine wpAny_Call_Name_kw (Y30 I hg hm ?_ hdb)
 refine W.callWith_K (h₀:=X.base) I.ok.mod.kin hk (thn (ha pos pins s σ H _ I h) fun us s1 ⟨vs,H1,I1,r,q⟩=>⟨I1.kIn,?_⟩) he hpl
 exact X30 F hr hb hd hx I1 r q
end
section
variable{X:Cx}{CX:CXT}{k:Nat}{f C:Addr}{fd:FuncData}{ps ks:List Str}{sp:Sp}{E:XK}{x m:Str}{p pos apos kpos:Pos}{e o:Expr}{es:List Expr}{kws:List Keyword}{te ta:TE}{t tk:TA}{nm:Option Str}
variable{g:List Value->List Value->List Value}{gV:List V->List V->List V}
end
structure FnScope(N P:List Str)(sc:Scope):Prop where
 kind:sc.kind=.function
 co:sc.isCoroutine=false
 gen:sc.isGenerator=false
 nd:N.Nodup
 pre:N.take P.length=P
 par:∀x∈P,sc.names.lookup x=some .local∨sc.names.lookup x=some .cell
 nofree:∀y∈sc.names,y.2≠.free
theorem o70{kindOf:Str->Option NameKind}{x:Str}:∀{binds:List (Str×Value)} {m:Str->Option Value},(∀v,(x,v)∉binds)->bindL kindOf binds m x=m x
 | [],_,_=>rfl
 | (n,v)::r,m,h=>by
  unfold bindL;rw[o70 fun w hw=>h w (List.mem_cons_of_mem _ hw)]
  split
  ·have:x≠n:=by rintro rfl; exact h v List.mem_cons_self
   simp[this]
  ·rfl
theorem ol0{kindOf:Str->Option NameKind}{x:Str}:∀{binds:List (Str×Value)} {m:Str->Option Value},(∀v,(x,v)∉binds)->bindC kindOf binds m x=m x
 | [],_,_=>rfl
 | (n,v)::r,m,h=>by
  unfold bindC;rw[ol0 fun w hw=>h w (List.mem_cons_of_mem _ hw)]
  split
  ·rfl
  ·have:x≠n:=by rintro rfl; exact h v List.mem_cons_self
   simp[this]
theorem pt0{kindOf:Str->Option NameKind}{x:Str}{v:Value}:∀{P:List Str} {vs:List Value} {i:Nat} {m:Str->Option Value},P.Nodup->P[i]?=some x->vs[i]?=some v->kindOf x=some .local ->
  bindL kindOf (P.zip vs) m x=some v
 | [],_,_,_,_,h,_,_=>by simp at h
 | _::_,[],_,_,_,_,h,_=>by simp at h
 | p::P,w::vs,0,m,nd,h1,h2,hk=>by
  simp at h1 h2; subst h1; subst h2
  show bindL kindOf ((p,w)::P.zip vs) m p=_
  unfold bindL;rw[o70 fun v hv=>(List.nodup_cons.mp nd).1 (List.of_mem_zip hv).1,if_pos hk]
  simp
 | p::P,w::vs,i+1,m,nd,h1,h2,hk=>by
  show bindL kindOf ((p,w)::P.zip vs) m x=_
  unfold bindL;exact pt0 (i:=i) (List.nodup_cons.mp nd).2 (by simpa using h1) (by simpa using h2) hk
theorem oj0{kindOf:Str->Option NameKind}{x:Str}{v:Value}:∀{P:List Str} {vs:List Value} {i:Nat} {m:Str->Option Value},P.Nodup->P[i]?=some x->vs[i]?=some v->kindOf x≠some .local ->
  bindC kindOf (P.zip vs) m x=some v
 | [],_,_,_,_,h,_,_=>by simp at h
 | _::_,[],_,_,_,_,h,_=>by simp at h
 | p::P,w::vs,0,m,nd,h1,h2,hk=>by
  simp at h1 h2; subst h1; subst h2
  show bindC kindOf ((p,w)::P.zip vs) m p=_
  unfold bindC;rw[ol0 fun v hv=>(List.nodup_cons.mp nd).1 (List.of_mem_zip hv).1,if_neg hk]
  simp
 | p::P,w::vs,i+1,m,nd,h1,h2,hk=>by
  show bindC kindOf ((p,w)::P.zip vs) m x=_
  unfold bindC;exact oj0 (i:=i) (List.nodup_cons.mp nd).2 (by simpa using h1) (by simpa using h2) hk
def start(N:List Str)(vs:List V):St:=vs.map some++List.replicate (N.length - vs.length) none
def v50(CX:CXT)(P:Program)(w:World)(K:W.Frag)(mg:Str->Option Value)(base:Heap)(N:List Str)(qual:Str)(scope:Scope)(f:Addr)(cd:Value)(A:Around)(outer:List Env)(s:Shared)(H:Hp)(E:XK):Cx where
 prog:=P
 w:=w
 K:=K
 mg:=mg
 base:=base
 A:=A.deeper (envOfC qual scope s.heap.objs.size f cd)
 N:=N
 s₀:=s
 H₀:=H
 env:=envOfC qual scope s.heap.objs.size f cd
 outer:=outer
 stack:=envOfC qual scope s.heap.objs.size f cd::outer
 ex:=[]
 calm:=true
 fn:=fun _=>true
 pn:=[]
 xe:=fun e s'=>wpAny (model P w) (A.deeper (envOfC qual scope s.heap.objs.size f cd)) (leaving (envOfC qual scope s.heap.objs.size f cd) e) (fun _ s''=>CX outer H s E e s'') (fun e' s''=>CX outer H s E e' s'') s'
theorem m20{sc:Scope}{n:Nat}{x:Str}(h:sc.names.lookup x=some .cell):∃c,(cellsFrom n sc.names []).lookup x=some c:=by
 have q:=W.cellsFrom_some sc.names n [] (.inl h)
 exact Option.isSome_iff_exists.mp q
theorem fv0{CX:CXT}{P:Program}{w:World}{K:W.Frag}{mg:Str->Option Value}{base:Heap}{N ps:List Str}{qual:Str}{scope:Scope}{f:Addr}{cd:Value}{A:Around}{outer:List Env}{s s1:Shared}{H:Hp}{E:XK}{us:List Value}{vs:List V}
  (S:FnScope N ps scope) (hd:A.handled=none) (e0:Env0 P w K mg base A outer s H) (hl:vs.length=ps.length) (r:Vals vs us)
  (x:InCallC s s.heap.objs.size (bindL (envOfC qual scope s.heap.objs.size f cd).kindOf (ps.zip us) fun _=>none) (cellsFrom (s.heap.objs.size+1) scope.names []) (bindC (envOfC qual scope s.heap.objs.size f cd).kindOf (ps.zip us) fun _=>none) s1) :
  Inv (v50 CX P w K mg base N qual scope f cd A outer s H E) [] (start N vs) H s1:=by
 have hpl:ps.length<=N.length:=by have:=congrArg List.length S.pre; rw[List.length_take] at this; omega
 obtain⟨h1,tk,rfl,hk⟩:=x.done;have noA:∀b:Addr,b∉(v50 CX P w K mg base N qual scope f cd A outer s H E).ex:=fun b z=>absurd (show b∈([]:List Addr) from z) (by simp)
 refine⟨⟨e0.mod,S.kind,rfl,rfl,Nat.le_refl _,fun y z c h1 h2=>?_,fun y hy=>?_,fun y c _ h=>?_,fun _=>hd,Around.frames_deeper e0.frames,.inr ⟨rfl,rfl⟩,fun b z=>absurd z (noA b),e0.bs,e0.bsz,fun b _ _=>noA b,fun b z=>absurd z (noA b),e0.funs,e0.frf⟩,
  rfl,e0.bare,Un.kept hk,⟨_,x.toInCall.ns,fun i y v h1 h2 h3=>?_⟩,fun y c h=>⟨_,x.cell y c h⟩,e0.hok.fresh (Nat.le_refl _),fun y c h=>?_,fun p hp=>absurd (show p∈([]:List (Addr×Obj)) from hp) (by simp),e0.hok.kept hk,?_⟩
 ·exact name_of_addr x.apart (PySem.mem_of_lookup h1) (PySem.mem_of_lookup h2)
 ·have hy:scope.names.lookup y=some .cell∨scope.names.lookup y=some .free:=hy
  rcases hy with hy|hy
  ·exact m20 hy
  ·exact absurd rfl (S.nofree _ (PySem.mem_of_lookup hy))
 ·exact Nat.le_of_lt (x.above y c (PySem.mem_of_lookup h))
 ·have hi:i<vs.length:=by
   unfold start at h2
   by_cases hi:i<vs.length
   ·exact hi
   ·rw[List.getElem?_append_right (by simpa using hi)] at h2
    rw[List.getElem?_replicate] at h2
    split at h2<;>cases h2
  have ha:vs[i]?=some v:=by
   unfold start at h2;rw[List.getElem?_append_left (by simpa using hi),List.getElem?_map] at h2
   cases e:vs[i]? with
   | none=>rw[e] at h2; cases h2
   | some a=>rw[e] at h2; cases h2; rfl
  obtain⟨u,hu,rv⟩:=r.get ha;have hp:ps[i]?=some y:=by
   rw[← S.pre,List.getElem?_take_of_lt (by omega)]; exact h1
  have ndP:ps.Nodup:=by rw[← S.pre]; exact S.nd.sublist (List.take_sublist _ _)
  refine⟨u,rv,?_⟩
  rcases S.par y (List.mem_of_getElem? hp) with k|k
  ·exact .inl ⟨k,pt0 ndP hp hu k⟩
  ·obtain⟨c,e⟩:=m20 (n:=s.heap.objs.size+1) k
   refine .inr ⟨.inl k,c,e,?_⟩
   have q:=x.cell y c e
   rw[oj0 ndP hp hu (by show scope.names.lookup y≠_; rw[k]; decide)] at q
   exact q
 ·exact e0.hok.fresh (Nat.le_of_lt (x.above y c (PySem.mem_of_lookup h)))
 ·unfold start
  show _=N.length
  rw[List.length_append,List.length_map,List.length_replicate];omega
theorem cq0{CX:CXT}{P:Program}{w:World}{K:W.Frag}{mg:Str->Option Value}{base:Heap}{k:Nat}{f:Addr}{name qual:Str}{params:Arguments}{body:List Stmt}{scope:Scope}{dV kV doc pm cdv ct oc:Value}{an od:Option Addr}
  {osl:Array (Option Value)} {N ps:List Str} {sp:Sp} (lk:K.lookup f=some ⟨oc,od,.func (W.fnOf name qual params body scope dV kV doc pm an cdv ct),osl⟩) (hcd:W.codeIn K cdv qual=true) (S:FnScope N ps scope)
  (len:∀vs H Q E,sp vs H Q E->vs.length=ps.length)
  (hbody:∀(A:Around) (outer:List Env) (s:Shared) (H:Hp) (vs:List V) (Q:VK) (E:XK),Room k (A.deeper (envOfC qual scope s.heap.objs.size f cdv))->sp vs H Q E ->
   ∃t,PSs (v50 CX P w K mg base N qual scope f cdv A outer s H E) body t/\t { nx:=fun _ H'=>Q .non H',rt:=Q } (start N vs) H) :
  FnOk P w K mg base CX (k+1) f (W.fnOf name qual params body scope dV kV doc pm an cdv ct) ps sp:=by
 refine⟨len,fun A outer s H args us vs Q E hr e0 hb r hsp=>?_⟩
 have hl:=len _ _ _ _ hsp
 have KX:K.In s.heap:=e0.mod.kin.keeps fun b o e=>(e0.bs b o e).1
 have lim:s.heap.NoLimit:=e0.mod.nolimit.keeps fun b o e=>(e0.bs b o e).1
 have hkind:∀y∈ps.zip us,scope.names.lookup y.1=some .local∨(scope.names.lookup y.1=some .cell/\((cellsFrom (s.heap.objs.size+1) scope.names []).lookup y.1).isSome=true):=fun⟨n,v⟩ hy=>by
  rcases S.par n (List.of_mem_zip hy).1 with q|q
  ·exact .inl q
  ·exact .inr ⟨q,W.cellsFrom_some _ _ _ (.inl q)⟩
 refine codeAny_call_function hr.depth (KX _ _ lk) rfl S.co S.gen rfl (W.codeRec_of KX hcd) (hb _ _ _ _ ?_)
 refine wpAny_newFunctionEnv_cells S.kind hkind fun env he s1 x=>?_
 subst he;refine⟨lim.keeps x.toInCall.keep,codeAny_func ?_⟩
 obtain⟨t,ht,hq⟩:=hbody A outer s H vs Q E (hr.deeper _) hsp;have I:Inv (v50 CX P w K mg base N qual scope f cdv A outer s H E) [] (start N vs) H s1:=fv0 S hr.hd e0 hl r x;refine wpAny_mono (ht [] s1 (start N vs) H _ I hq) (fun fl s' hs=>?_) fun e s' hs=>hs
 have fin:∀{σ':St} {H':Hp} {v:V} {u:Value},Inv (v50 CX P w K mg base N qual scope f cdv A outer s H E) [] σ' H' s'->RelV v u->Q v H'->CE outer P w H s Q u s' :=
  fun {σ' H' v u} J rv q=>⟨v,H',J.os,J.bare,J.base,J.hok,rv,q⟩
 cases fl with
 | ret u =>
  obtain⟨v,σ',H',J,rv,q⟩:=hs;exact fin J rv q
 | next =>
  obtain⟨σ',H',J,q⟩:=hs;exact fin (v:=V.non) (u:=Value.none) J rfl q
 | brk =>
  obtain⟨_,_,_,q⟩:=hs;exact False.elim q
 | cont =>
  obtain⟨_,_,_,q⟩:=hs;exact False.elim q
section
variable{X:Cx}{x:Str}{p pos:Pos}{e:Expr}{es:List Expr}{t:TA}{id T:String}{r:List V->Hp->VK->Prop}
def tCB(r:List V->Hp->VK->Prop)(t:TA):TE:=fun σ H Q=>t σ H fun vs H1=>r vs H1 Q
theorem rt0(hc:CallR X (.builtin id) r)(hg:Gl X x)(hm:X.mg x=none)(hv:bootBuiltins x=some (.builtin id))(ha:PA X (e::es) t)(hn:x ≠"__name__" := by decide)(hdb:(x==("__debug__" : Str))=false:=by decide)
  (he:starEach (e::es) X.env=(false,eval e X.env)::starEach es X.env:=by rfl) (hpl:(backTo pos (starEach es X.env)).any (·.1)=false:=by rfl):PE X (.Call (.Name x p) (e::es) [] pos) (tCB r t):=by
 intro pins s σ H Q I h;refine wpAny_Call_Name_kw (N5 I hg hm hv ?_ hn hdb)
 exact PyProof.Rows.callWith_builtin1 (thn (ha pos pins s σ H _ I h) fun us s1 ⟨vs,H1,I1,r1,q1⟩=>hc pins s1 σ H1 vs us Q I1 r1 q1) he hpl
theorem u40(hc:CallR X (.type T) r)(hg:Gl X x)(hm:X.mg x=none)(hv:bootBuiltins x=some (.type T))(ha:PA X (e::es) t)(hn:x ≠"__name__" := by decide)(hdb:(x==("__debug__" : Str))=false:=by decide)
  (he:starEach (e::es) X.env=(false,eval e X.env)::starEach es X.env:=by rfl) (hpl:(backTo pos (starEach es X.env)).any (·.1)=false:=by rfl):PE X (.Call (.Name x p) (e::es) [] pos) (tCB r t):=by
 intro pins s σ H Q I h;refine wpAny_Call_Name_kw (N5 I hg hm hv ?_ hn hdb)
 exact PyProof.Rows.callWith_type1 (thn (ha pos pins s σ H _ I h) fun us s1 ⟨vs,H1,I1,r1,q1⟩=>hc pins s1 σ H1 vs us Q I1 r1 q1) he hpl
end
end L2
namespace HT
open PySem PyProof.Rows
section
open PySem.SeqAt
open PySem.AutoSeq1 (wpAny_loadPart')
open PySem.MeetsSeq PySem.MeetsSeq2 PySem.MeetsSeq3
end
section
variable{prog:Program}{w:World}{A:Around}{E:Value->Shared->Prop}{s:Shared}
theorem ad0{t b:Addr}{vs ws:List Value}{Q:Value->Shared->Prop}(ht:IsTup s.heap t vs.toArray)(hb:IsTup s.heap b ws.toArray)(hv:vs≠[])
  (h1:ws=[]->Q (.ref t) s) (h2:ws≠[]->Q (.ref s.heap.objs.size) { s with heap:=s.heap.push { cls:=.type "tuple",data:=.seq (vs++ws).toArray } })
  (hsz:vs.length+ws.length<=sizeLine):wpAny (model prog w) A (binaryOp .Add (.ref t) (.ref b)) Q E s:=by
 obtain⟨⟨cls,dd,data,sl⟩,ho,hc,n,hd⟩:=id ht;obtain⟨⟨cls2,dd2,data2,sl2⟩,ho2,hc2,n2,hd2⟩:=id hb;simp only at hc hd hc2 hd2;subst hc hd hc2 hd2;have e:vs.toArray++ws.toArray=(vs++ws).toArray:=by simp
 by_cases hw:ws=[]
 ·exact concat_meets ⟨_,ho,rfl⟩ ⟨_,ho2,rfl⟩ noFill_tuple_add seq_tuple_add PySem.F.slot_tuple_add PySem.F.entry_tuple_add (PySem.F.args_tuple_add_2 _ _)
   (tuple_addW1 t b vs.toArray ws.toArray n n2 dd dd2 sl sl2 (by simpa using hv) (by simp[hw])) ⟨ho,ho2,h1 hw⟩
 ·refine concat_meets ⟨_,ho,rfl⟩ ⟨_,ho2,rfl⟩ noFill_tuple_add seq_tuple_add PySem.F.slot_tuple_add PySem.F.entry_tuple_add (PySem.F.args_tuple_add_2 _ _)
   (tuple_addW2 t b vs.toArray ws.toArray n n2 dd dd2 sl sl2 (by simpa using hv) (by simpa using hw) (by rw[List.size_toArray,List.size_toArray]; exact hsz)) ⟨ho,ho2,?_⟩
  rw[e];exact h2 hw
def sIx(n d:Nat):Option Int->Nat
 | none=>d
 | some v=>if v<0 then (v+(n:Int)).toNat else min v.toNat n
theorem Wc0(n d:Nat)(hd:d<=n)(o:Option Int):sIx n d o<=n:=by
 cases o with
 | none=>exact hd
 | some v =>
  show (if v<0 then (v+(n:Int)).toNat else min v.toNat n)<=n
  by_cases hv:v<0
  ·rw[if_pos hv]; omega
  ·rw[if_neg hv]; exact Nat.min_le_right _ _
theorem j50(v:Int)(n d:Nat):(if v<0 then max (v+(n:Int)) 0 else min v (n:Int))=((sIx n d (some v):Nat):Int):=by
 show (if v<0 then max (v+(n:Int)) 0 else min v (n:Int))=(((if v<0 then (v+(n:Int)).toNat else min v.toNat n):Nat):Int)
 by_cases hv:v<0
 ·simp only[if_pos hv]; omega
 ·simp only[if_neg hv]; omega
theorem iy0(lo hi:Option Int)(n:Nat):Builtin.Slice.sliceAdjust lo hi 1 (n:Int)=(((sIx n 0 lo:Nat):Int),((sIx n n hi:Nat):Int)):=by
 have h1:¬((1:Int)<0):=by omega
 unfold Builtin.Slice.sliceAdjust;simp only[h1,if_false];refine Prod.ext ?_ ?_
 ·cases lo with
  | none=>rfl
  | some v=>exact j50 v n 0
 ·cases hi with
  | none=>rfl
  | some v=>exact j50 v n n
theorem h00(i j:Nat):Builtin.Slice.slicePlaces (i:Int) (j:Int) 1=j - i:=by
 unfold Builtin.Slice.slicePlaces;have h1:(1:Int) > 0:=by omega
 simp only[h1,if_true,Int.ediv_one];split<;>omega
theorem qh0{v:Value}{o:Option Int}{Q:Option Int->Shared->Prop}(p:IsPart v o)(h:Q o s):wpAny (model prog w) A (Builtin.Slice.slicePartIndex v) Q E s:=by
 cases p with
 | none=>exact slicePart_none h
 | int i t=>exact slicePart_int h
theorem vf0{sl:Addr}{vl vu:Value}{lo hi:Option Int}{n:Nat}{Q:Int×Int×Nat->Shared->Prop}(hs:s.heap.IsSliceOf sl vl vu .none)(pl:IsPart vl lo)(pu:IsPart vu hi)
  (h:Q (((sIx n 0 lo:Nat):Int),1,sIx n n hi - sIx n 0 lo) s):wpAny (model prog w) A (Builtin.Slice.sliceApplied (.ref sl) (pure (n:Int))) Q E s:=by
 obtain⟨os,hos,hcs,hds⟩:=id hs;unfold Builtin.Slice.sliceApplied Builtin.Slice.sliceFields;refine wpAny_bind (wpAny_bind (wpAny_field hos hds (x:=vl) rfl (wpAny_bind (wpAny_field hos hds (x:=vu) rfl (wpAny_bind (wpAny_field hos hds (x:=.none) rfl (wpAny_pure ?_)))))))
 refine wpAny_bind (slicePart_none ?_)
 show wpAny _ _ (if ((1:Int)==0)=true then _ else _) _ _ s
 rw[if_neg (by decide)]
 refine wpAny_bind (qh0 pl (wpAny_bind (qh0 pu (wpAny_bind (wpAny_pure ?_)))))
 show wpAny _ _ (match Builtin.Slice.sliceAdjust lo hi 1 (n:Int) with|(lo,hi)=>pure (lo,(1:Int),Builtin.Slice.slicePlaces lo hi 1)) _ _ s
 rw[iy0 lo hi n];show wpAny _ _ (pure (((sIx n 0 lo:Nat):Int),(1:Int),Builtin.Slice.slicePlaces ((sIx n 0 lo:Nat):Int) ((sIx n n hi:Nat):Int) 1)) _ _ s;rw[h00];exact wpAny_pure h
theorem dk0(xs:Array Value)(i k:Nat):((List.range k).filterMap fun (m:Nat)=>xs[((i:Int)+(m:Int)*1).toNat]?).toArray=((xs.toList.drop i).take k).toArray:=by
 have e:(fun (m:Nat)=>xs[((i:Int)+(m:Int)*1).toNat]?)=fun m=>xs[i+m]?:=by
  funext m
  have:((i:Int)+(m:Int)*1).toNat=i+m:=by omega
  rw[this]
 rw[e];have:=pick_run xs i k;rw[List.filterMap_map] at this;have e2:((fun x=>xs[x]?) ∘ fun x=>i+x)=fun m=>xs[i+m]?:=rfl
 rw[e2] at this;rw[this]
theorem rc0{t sl:Addr}{items:Array Value}{vl vu:Value}{lo hi:Option Int}{Q:Value->Shared->Prop}(ht:IsTup s.heap t items)(hs:s.heap.IsSliceOf sl vl vu .none)(pl:IsPart vl lo)(pu:IsPart vu hi)
  (hw:¬(sIx items.size 0 lo=0/\sIx items.size items.size hi=items.size))
  (h:Q (.ref s.heap.objs.size) { s with heap:=s.heap.push { cls:=.type "tuple",data:=.seq ((items.toList.drop (sIx items.size 0 lo)).take (sIx items.size items.size hi - sIx items.size 0 lo)).toArray } })
  (hsz:items.size<=sizeLine):wpAny (model prog w) A (getItem (.ref t) (.ref sl)) Q E s:=by
 have htake:sizeOk (.seq ((items.toList.drop (sIx items.size 0 lo)).take (sIx items.size items.size hi - sIx items.size 0 lo)).toArray):=by
  show ((items.toList.drop (sIx items.size 0 lo)).take (sIx items.size items.size hi - sIx items.size 0 lo)).toArray.size<=sizeLine
  rw[List.size_toArray,List.length_take,List.length_drop,Array.length_toList];omega
 have hj:sIx items.size items.size hi<=items.size:=Wc0 _ _ (Nat.le_refl _) hi
 obtain⟨os,hos,hcs,hds⟩:=id hs;have hTs:s.TypeIs (.ref sl) "slice" := ⟨os,hos,hcs⟩;unfold getItem
 try with_reducible refine wpAny_holding ?_
 first|refine wpAny_bind (wpAny_pure ?_)|skip
 refine wpAny_bind (wpAny_sequenceKey ht.typeIs (by decide) ?_)
 refine wpAny_bind (wpAny_callSpecial?_slot (name:=Str.ofString "__getitem__") ht.typeIs PyProof.Rows.slot_tuple_getitem
  (wpAny_call_entry PyProof.Rows.slot_tuple_getitem ht.typeIs entry_tuple_getitem ?_ (args_tuple_getitem _ _)))
 show wpAny _ _ (Builtin.Tuple.tupleItemsOf (.ref t)>>=_) _ _ s
 refine wpAny_bind (tupleItemsOf_ ht ?_)
 refine wpAny_bind (wpAny_typeOf hTs ?_)
 rw[if_pos (by decide)]
 refine wpAny_bind (vf0 hs pl pu ?_)
 have hno:¬((((sIx items.size 0 lo:Nat):Int)==0&&(1:Int)==1&&(sIx items.size items.size hi - sIx items.size 0 lo)==items.size)=true):=by
  intro q;rw[Bool.and_eq_true,Bool.and_eq_true] at q;have q1:((sIx items.size 0 lo:Nat):Int)=0:=eq_of_beq q.1.1;have q2:sIx items.size items.size hi - sIx items.size 0 lo=items.size:=eq_of_beq q.2;exact hw ⟨by omega,by omega⟩
 show wpAny _ _ (if (((sIx items.size 0 lo:Nat):Int)==0&&(1:Int)==1&&(sIx items.size items.size hi - sIx items.size 0 lo)==items.size)=true then _ else _) _ _ s
 rw[if_neg hno,dk0]
 first
  | exact wpAny_bind (m:=Builtin.Tuple.tupleExact _) (wpAny_newObj_type (wpAny_pure ⟨_,rfl,wpAny_pure h⟩) htake)
  | exact wpAny_bind (m:=Builtin.Tuple.tupleExact _) (wpAny_newObj_type (wpAny_bind (wpAny_pure (wpAny_pure ⟨_,rfl,wpAny_pure h⟩))) htake)
  | exact wpAny_bind (wpAny_bind (m:=Builtin.Tuple.tupleExact _) (wpAny_newObj_type (wpAny_pure (wpAny_pure ⟨_,rfl,wpAny_pure h⟩)) htake))
  | exact wpAny_bind (wpAny_bind (m:=Builtin.Tuple.tupleExact _) (wpAny_newObj_type (wpAny_pure ⟨_,rfl,wpAny_pure h⟩) htake))
end
end HT
namespace L2
open PySem PySem.Spec PyProof.Rows
abbrev TO:=St->Hp->(Option Int->Hp->Prop)->Prop
def PO(X:Cx)(e:Option Expr)(t:TO):Prop :=
 ∀(pins:List (Addr×Obj)) (s:Shared) (σ:St) (H:Hp) (Q:Option Int->Hp->Prop),Inv X pins σ H s->t σ H Q ->
  wpAny (model X.prog X.w) X.A (evalPart e X.env) (fun u s'=>∃o H',Inv X pins σ H' s'/\IsPart u o/\Q o H') X.xe s
def br0:TO:=fun _ H Q=>Q none H
def Vk0(t:TE):TO:=fun σ H Q=>t σ H fun x H1=>∃i,x=.int i/\Q (some i) H1
section
variable{X:Cx}{e:Expr}{te:TE}{lo hi:Option Expr}{tl th:TO}{pos p2:Pos}
theorem ao0:PO X none br0:=by
 intro pins s σ H Q I h;rw[evalPart_none];exact wpAny_pure ⟨none,H,I,.none,h⟩
theorem Z70(h:PE X e te):PO X (some e) (Vk0 te):=by
 intro pins s σ H Q I hw;rw[evalPart_some];refine thn (h pins s σ H _ I hw) fun u s1 ⟨x,H1,I1,r1,q1⟩=>?_
 obtain⟨i,rfl,q⟩:=q1;obtain⟨t,rfl⟩:=r1;exact⟨some i,H1,I1,.int i t,q⟩
def SlR(X:Cx)(r:V->Option Int->Option Int->Hp->VK->Prop):Prop :=
 ∀(pins:List (Addr×Obj)) (s:Shared) (σ:St) (H:Hp) (x:V) (v vl vu:Value) (lo hi:Option Int) (sl:Addr) (Q:VK),Inv X pins σ H s->RelV x v->s.heap.IsSliceOf sl vl vu .none->IsPart vl lo->IsPart vu hi->r x lo hi H Q ->
  ∃T id,typeLookup (.type T) "__getitem__"=pure (some (.builtin id))/\s.TypeIs v T/\wpAny (model X.prog X.w) X.A (getItem v (.ref sl)) (EP X pins σ Q) X.xe s
theorem SlR.or{r r':V->Option Int->Option Int->Hp->VK->Prop}(h:SlR X r)(h':SlR X r'):SlR X (fun x lo hi H Q=>r x lo hi H Q∨r' x lo hi H Q):=by
 intro pins s σ H x v vl vu lo hi sl Q I rx hs pl pu q;rcases q with q|q
 ·exact h pins s σ H x v vl vu lo hi sl Q I rx hs pl pu q
 ·exact h' pins s σ H x v vl vu lo hi sl Q I rx hs pl pu q
def tSl(r:V->Option Int->Option Int->Hp->VK->Prop)(te:TE)(tl th:TO):TE:=fun σ H Q=>te σ H fun x H1=>tl σ H1 fun l H2=>th σ H2 fun u H3=>r x l u H3 Q
theorem dl0{r:V->Option Int->Option Int->Hp->VK->Prop}(hr:SlR X r)(he:PE X e te)(hl:PO X lo tl)(hu:PO X hi th):PE X (.Subscript e (.Slice lo hi none p2) pos) (tSl r te tl th):=by
 intro pins s σ H Q I h;refine Subscript_ (thn (he pins s σ H _ I h) fun v s1 ⟨x,H1,I1,r1,q1⟩=>?_)
 refine wpAny_Slice (thn (hl pins s1 σ H1 _ I1 q1) fun vl s2 ⟨l,H2,I2,pl,q2⟩=>thn (hu pins s2 σ H2 _ I2 q2) fun vu s3 ⟨u,H3,I3,pu,q3⟩=>?_)
 rw[evalPart_none];refine wpAny_pure ?_
 have I4:Inv X pins σ H3 { s3 with heap:=s3.heap.push { cls:=.type "slice",data:=.fields #[vl,vu,.none] } }:=I3.kept (t':=s3.toks) fun b ob q=>Heap.get?_push_of_some _ q
 obtain⟨T,id,hT,ht,hg⟩:=hr pins { s3 with heap:=s3.heap.push { cls:=.type "slice",data:=.fields #[vl,vu,.none] } } σ H3 x v vl vu l u s3.heap.objs.size Q I4 r1 (Heap.IsSliceOf.new ..) pl pu q3
 show wpAny (model X.prog X.w) X.A (subscriptTail e (.Slice lo hi none p2) v (.ref s3.heap.objs.size)) (EP X pins σ Q) X.xe { s3 with heap:=s3.heap.push { cls:=.type "slice",data:=.fields #[vl,vu,.none] } }
 exact tail_any (ops:=[.ref s3.heap.objs.size,v]) ht hT hg (by with_unfolding_all rfl)
def sg0(xs:List V)(lo hi:Option Int):List V:=(xs.drop (HT.sIx xs.length 0 lo)).take (HT.sIx xs.length xs.length hi - HT.sIx xs.length 0 lo)
theorem rd0(xs:List V)(lo hi:Option Int):(sg0 xs lo hi).length<=xs.length:=by
 unfold sg0;rw[List.length_take,List.length_drop];omega
def Ua0(K:W.Frag):V->Option Int->Option Int->Hp->VK->Prop:=fun x lo hi H Q=>∃a xs,x=.ref a/\SqT K H a xs /\
 ¬(HT.sIx xs.length 0 lo=0/\HT.sIx xs.length xs.length hi=xs.length)/\∀p,H p=none->Q (.ref p) (upd H p (.tup (sg0 xs lo hi)))
theorem Xi0:SlR X (Ua0 X.K):=by
 intro pins s σ H x v vl vu lo hi sl Q I rx hs pl pu h;obtain⟨a,xs,rfl,hx,hw,q⟩:=h;cases rx;obtain⟨its,r,ht,hz⟩:=I.tuple hx;have hlen:its.toArray.size=xs.length:=by rw[List.size_toArray]; exact r.length.symm
 refine⟨"tuple",_,PyProof.Rows.slot_tuple_getitem.lookup,ht.typeIs,?_⟩
 refine HT.rc0 ht hs pl pu (by rw[hlen]; exact hw) ?_ (by rw[hlen]; exact hz)
 rw[hlen];refine⟨.ref s.heap.objs.size,_,I.laid (t':=s.toks) (o:=.tup (sg0 xs lo hi)) (fun b ob q=>Heap.get?_push_of_some _ q) (Nat.le_refl _) ?_,rfl,q _ (I.hok.fresh (Nat.le_refl _))⟩
 exact⟨Nat.le_trans (rd0 xs lo hi) hz,_,(r.drop (HT.sIx xs.length 0 lo)).take (HT.sIx xs.length xs.length hi - HT.sIx xs.length 0 lo),IsTupN.new _ _⟩
def cw0(K:W.Frag):R2:=fun x y H Q=>∃a b xs ys,x=.ref a/\y=.ref b/\SqT K H a xs/\SqT K H b ys/\xs≠[]/\xs.length+ys.length<=sizeLine /\
 (ys=[]->Q (.ref a) H)/\(ys≠[]->∀p,H p=none->Q (.ref p) (upd H p (.tup (xs++ys))))
theorem Vals.nil_iff{xs:List V}{us:List Value}(r:Vals xs us):us=[]↔xs=[]:=by
 cases r with
 | nil=>simp
 | cons _ _=>simp
theorem a90:OpR X (binaryOp .Add) (cw0 X.K):=by
 intro pins s σ H x y v u Q I rx ry h;obtain⟨a,b,xs,ys,rfl,rfl,ha,hb,hx,hz,q1,q2⟩:=h;cases rx;cases ry;obtain⟨its,r1,p1,_⟩:=I.tuple ha;obtain⟨its2,r2,p2,_⟩:=I.tuple hb;refine HT.ad0 p1 p2 (fun z=>hx (r1.nil_iff.mp z)) (fun z=>⟨.ref a,H,I,rfl,q1 (r2.nil_iff.mp z)⟩) (fun z=>?_) (by rw[← r1.length,← r2.length]; exact hz)
 refine⟨.ref s.heap.objs.size,_,I.laid (t':=s.toks) (o:=.tup (xs++ys)) (fun b ob q=>Heap.get?_push_of_some _ q) (Nat.le_refl _) ?_,rfl,q2 (fun w=>z (r2.nil_iff.mpr w)) _ (I.hok.fresh (Nat.le_refl _))⟩
 exact⟨by rw[List.length_append]; exact hz,_,r1.append r2,IsTupN.new _ _⟩
end
def ixN(n:Nat)(i:Int):Option Nat:=if 0<=i then (if i<n then some i.toNat else none) else if -(n:Int)<=i then some (i+n).toNat else none
def atI{α:Type}(xs:List α)(i:Int):Option α:=(ixN xs.length i).bind fun j=>xs[j]?
theorem jr0{n:Nat}{i:Int}{j:Nat}(h:ixN n i=some j):seqIndex? i n=some j/\j<n/\-(n:Int)<=i/\i<n:=by
 unfold ixN at h
 by_cases h0:0<=i
 ·rw[if_pos h0] at h
  by_cases h1:i<n
  ·rw[if_pos h1] at h
   have e:i.toNat=j:=Option.some.inj h
   exact⟨by rw[seqIndex_of h0 h1,e],by omega,by omega,h1⟩
  ·rw[if_neg h1] at h; cases h
 ·rw[if_neg h0] at h
  by_cases h1:-(n:Int)<=i
  ·rw[if_pos h1] at h
   have e:(i+n).toNat=j:=Option.some.inj h
   exact⟨by rw[seqIndex_neg (by omega) h1,e],by omega,h1,by omega⟩
  ·rw[if_neg h1] at h; cases h
theorem qx0{α:Type}{xs:List α}{i:Int}{v:α}(h:atI xs i=some v):∃j,seqIndex? i xs.length=some j/\xs[j]?=some v/\j<xs.length/\-(xs.length:Int)<=i/\i<xs.length:=by
 unfold atI at h
 cases e:ixN xs.length i with
 | none=>rw[e] at h; cases h
 | some j =>
  rw[e] at h;obtain⟨h1,h2,h3,h4⟩:=jr0 e;exact⟨j,h1,h,h2,h3,h4⟩
def pd0(b:Expr):Prop:=∀o i,subscripted b false o i=operate [o,i] (getItem o i)
def IxR(X:Cx)(r:R2):Prop :=
 ∀(value slice:Expr) (pins:List (Addr×Obj)) (s:Shared) (σ:St) (H:Hp) (x y:V) (v u:Value) (Q:VK),Inv X pins σ H s->RelV x v->RelV y u->r x y H Q ->
  subscripted slice false v u=operate [v,u] (getItem v u)->wpAny (model X.prog X.w) X.A (subscriptTail value slice v u) (EP X pins σ Q) X.xe s
def MtR(X:Cx)(id:String)(r:V->List V->Hp->VK->Prop):Prop :=
 ∀(pins:List (Addr×Obj)) (s:Shared) (σ:St) (H:Hp) (x:V) (xs:List V) (v:Value) (us:List Value) (Q:VK),Inv X pins σ H s->RelV x v->Vals xs us->r x xs H Q ->
  wpAny (model X.prog X.w) X.A (call (.builtin id) (v::us)) (EP X pins σ Q) X.xe s
section
variable{X:Cx}{a b:Expr}{ta tb:TE}{pos:Pos}
theorem IxR.or{r r':R2}(h:IxR X r)(h':IxR X r'):IxR X (fun x y H Q=>r x y H Q∨r' x y H Q):=by
 intro value slice pins s σ H x y v u Q I rx ry q hs;rcases q with q|q
 ·exact h value slice pins s σ H x y v u Q I rx ry q hs
 ·exact h' value slice pins s σ H x y v u Q I rx ry q hs
theorem Vm0{r:R2}(hr:IxR X r)(ha:PE X a ta)(hb:PE X b tb)(hs:pd0 b):PE X (.Subscript a b pos) (tOp r ta tb):=by
 intro pins s σ H Q I h;exact Subscript_ (ez0 ha hb I h fun v u s2 x y H2 I2 rx ry q=>hr a b pins s2 σ H2 x y v u Q I2 rx ry q (hs _ _))
def Wt0(K:W.Frag):R2:=fun x y H Q=>∃p xs i v,x=.ref p/\y=.int i/\SqL K H p xs/\atI xs i=some v/\Q v H
def Wa0(K:W.Frag):R2:=fun x y H Q=>∃p xs i v,x=.ref p/\y=.int i/\SqT K H p xs/\atI xs i=some v/\Q v H
def Yj0:R2:=fun x y H Q=>∃z i c,x=.str z/\y=.int i/\z.length<=sizeLine/\atI z.cps.toList i=some c/\Q (.str ⟨#[c]⟩) H
theorem Z40:IxR X (Wt0 X.K):=by
 intro value slice pins s σ H x y v u Q I rx ry h hs;obtain⟨p,xs,i,z,rfl,rfl,hq,he,q⟩:=h;cases rx;obtain⟨t,rfl⟩:=ry;obtain⟨its,r,pl,hz⟩:=I.list hq;obtain⟨j,h1,h2,h3,h4,h5⟩:=qx0 he;obtain⟨w,ew,rw'⟩:=r.get h2;have hl:=r.length;have hn:=w90;have fin:EP X pins σ Q w s:=⟨z,H,I,rw',q⟩
 by_cases h0:0<=i
 ·have hj:i.toNat=j:=by
   rw[seqIndex_of h0 h5] at h1;exact Option.some.inj h1
  exact item_listR pl.isList h0 (by omega) (by rw[hj]; simpa using ew) fin hs
 ·have hj:(i+(its.toArray.size:Int)).toNat=j:=by
   rw[seqIndex_neg (by omega) h4] at h1
   rw[List.size_toArray,← hl];exact Option.some.inj h1
  exact subscriptTail_builtinR (x:=w) pl.isList.typeIs slot_list_getitem.lookup
   (wpAny_getItem_list_neg (Q:=fun r s'=>r=w/\EP X pins σ Q r s') pl.isList (by omega) (by rw[List.size_toArray]<;>omega) (by omega) (by rw[hj]; simpa using ew) ⟨rfl,fin⟩) hs
theorem Wb0:IxR X (Wa0 X.K):=by
 intro value slice pins s σ H x y v u Q I rx ry h hs;obtain⟨p,xs,i,z,rfl,rfl,hq,he,q⟩:=h;cases rx;obtain⟨t,rfl⟩:=ry;obtain⟨its,r,pl,hz⟩:=I.tuple hq;obtain⟨j,h1,h2,h3,h4,h5⟩:=qx0 he;obtain⟨w,ew,rw'⟩:=r.get h2;have hl:=r.length;have hn:=w90;have fin:EP X pins σ Q w s:=⟨z,H,I,rw',q⟩;exact subscriptTail_builtinR (x:=w) pl.typeIs slot_tuple_getitem.lookup
  (getItem_tuple (j:=j) (Q:=fun r s'=>r=w/\EP X pins σ Q r s') pl (by omega) (by omega) (by rw[List.size_toArray,← hl]; exact h1) (by simpa using ew) ⟨rfl,fin⟩) hs
theorem Xa0:IxR X Yj0:=by
 intro value slice pins s σ H x y v u Q I rx ry h hs;obtain⟨z,i,c,rfl,rfl,hz,he,q⟩:=h;obtain⟨t,rfl⟩:=rx;obtain⟨t',rfl⟩:=ry;obtain⟨j,h1,h2,h3,h4,h5⟩:=qx0 he;have hl:z.cps.toList.length=z.length:=by simp[Str.length]
 rw[hl] at h1 h4 h5;have hn:=w90;exact tail_any (typeIs_str s z t) slot_str_getitem.lookup (getItem_str (c:=c) (by
  have e1:decide (i < -(2 ^ 63:Int))=false:=decide_eq_false (by omega)
  have e2:decide (i ≥ 2 ^ 63)=false:=decide_eq_false (by omega)
  rw[e1,e2,Bool.or_false]) (by rw[h1]; simpa using h2) ⟨.str ⟨#[c]⟩,H,I.tok _,⟨_,rfl⟩,q⟩) hs
def rIx(K:W.Frag):R2:=fun x y H Q=>Wt0 K x y H Q∨Wa0 K x y H Q∨Yj0 x y H Q
theorem Yn0:IxR X (rIx X.K):=Z40.or (Wb0.or Xa0)
theorem ir0(its:List Value)(n j:Nat)(u:Value):Obj.mapSeq (·.setIfInBounds j u) { cls:=.type "list",data:=.seq its.toArray n }={ cls:=.type "list",data:=.seq (its.set j u).toArray n }:=by
 simp[Obj.mapSeq]
theorem Inv.lst{pins:List (Addr×Obj)}{σ:St}{H:Hp}{s:Shared}{p:Addr}{xs:List V}(I:Inv X pins σ H s)(h:H p=some (.lst xs)) :
  ∃(its:List Value) (n:Nat),Vals xs its/\s.heap.get? p=some { cls:=.type "list",data:=.seq its.toArray n }/\xs.length<=sizeLine:=by
 obtain⟨z,its,n,r,e⟩:=I.hok p _ h;exact⟨its,n,r,e,z⟩
theorem Inv.lstUpd{pins:List (Addr×Obj)}{σ:St}{H:Hp}{s:Shared}{p:Addr}{xs ys:List V}{its its':List Value}{n n':Nat}{f:Obj->Obj}(I:Inv X pins σ H s)(h:H p=some (.lst xs))
  (ho:s.heap.get? p=some { cls:=.type "list",data:=.seq its.toArray n }) (hf:f { cls:=.type "list",data:=.seq its.toArray n }={ cls:=.type "list",data:=.seq its'.toArray n' }) (r:Vals ys its') (hz:ys.length<=sizeLine) (t:Nat) :
  Inv X pins σ (upd H p (.lst ys)) { s with heap:=s.heap.update p f,toks:=t }:=by
 have e:(s.heap.update p f).get? p=some { cls:=.type "list",data:=.seq its'.toArray n' }:=by
  rw[Heap.get?_update_self f ho (by rw[hf]<;>rfl),hf]
 refine I.write (x:=p) (e:=p) (by rw[h]; trivial) (.inl rfl) (fun b u hb q=>(Heap.get?_update_other _ _ (Ne.symm hb)).trans q) ⟨_,e⟩ ?_
 exact⟨hz,its',n',r,e⟩
def U60:V->V->V->Hp->(Hp->Prop)->Prop:=fun o i v H Q=>∃p xs k j,o=.ref p/\i=.int k/\H p=some (.lst xs)/\ixN xs.length k=some j/\Q (upd H p (.lst (xs.set j v)))
theorem set_list:ch0 X U60:=by
 intro pins s σ H o i v ov iv u Q I ro ri rv h;obtain⟨p,xs,k,j,rfl,rfl,hp,hj,q⟩:=h;cases ro;obtain⟨t,rfl⟩:=ri;obtain⟨its,n,r,ho,hz⟩:=I.lst hp;obtain⟨h1,h2,h3,h4⟩:=jr0 hj;have hl:=r.length;have hn:=w90;have I':Inv X pins σ (upd H p (.lst (xs.set j v))) { s with heap:=s.heap.update p (Obj.mapSeq (·.setIfInBounds j u)) } :=
  I.lstUpd hp ho (ir0 its n j u) (r.set rv j) (by rw[List.length_set]; exact hz) s.toks
 by_cases h0:0<=k
 ·have hk:k.toNat=j:=by
   rw[seqIndex_of h0 h4] at h1;exact Option.some.inj h1
  exact W.ki_setAt ho h0 (by omega) (by rw[List.size_toArray,← hl]; exact h4) (by rw[hk]; exact⟨_,I',q⟩)
 ·have hk:(k+(its.toArray.size:Int)).toNat=j:=by
   rw[seqIndex_neg (by omega) h3] at h1
   rw[List.size_toArray,← hl];exact Option.some.inj h1
  exact W.ki_setBack ho (by omega) (by rw[List.size_toArray,← hl]; exact h3) (by omega) (by rw[hk]; exact⟨_,I',q⟩)
theorem nv0(lo hi:Option Int)(n:Nat):(sliceBounds lo hi none n).1=((HT.sIx n 0 lo:Nat):Int)/\(sliceBounds lo hi none n).2.1=((HT.sIx n n hi:Nat):Int)/\(sliceBounds lo hi none n).2.2=1:=by
 refine⟨?_,?_,rfl⟩
 ·cases lo with
  | none=>simp[sliceBounds,HT.sIx]
  | some i =>
   simp only[sliceBounds,HT.sIx,Option.getD_none,show (1:Int) > 0 by decide,if_true]
   by_cases h:i<0
   ·simp only[h,if_true]<;>omega
   ·simp only[h,if_false]<;>omega
 ·cases hi with
  | none=>simp[sliceBounds,HT.sIx]
  | some i =>
   simp only[sliceBounds,HT.sIx,Option.getD_none,show (1:Int) > 0 by decide,if_true]
   by_cases h:i<0
   ·simp only[h,if_true]<;>omega
   ·simp only[h,if_false]<;>omega
theorem n70(its:List Value)(lo hi:Option Int):slicePick its.toArray lo hi none=((its.drop (HT.sIx its.length 0 lo)).take (HT.sIx its.length its.length hi - HT.sIx its.length 0 lo)).toArray:=by
 obtain⟨h1,h2,h3⟩:=nv0 lo hi its.toArray.size;unfold slicePick;rw[h1,h2,h3];simp only[sliceRange_one,pick_run,List.size_toArray]<;>rfl
def Uj0(K:W.Frag):V->Option Int->Option Int->Hp->VK->Prop:=fun x lo hi H Q=>∃a xs,x=.ref a/\SqL K H a xs/\∀p,H p=none->Q (.ref p) (upd H p (.lst (sg0 xs lo hi)))
theorem Z10:SlR X (Uj0 X.K):=by
 intro pins s σ H x v vl vu lo hi sl Q I rx hs pl pu h;obtain⟨a,xs,rfl,hx,q⟩:=h;cases rx;obtain⟨its,r,ht,hz⟩:=I.list hx;have hlen:=r.length;refine⟨"list",_,slot_list_getitem.lookup,ht.isList.typeIs,?_⟩
 refine wpAny_getItem_list_slice ht.isList hs pl pu .none (by simp) ?_ (by rw[List.size_toArray]<;>omega)
 rw[n70,← hlen];refine⟨.ref s.heap.objs.size,_,I.laid (t':=s.toks) (o:=.lst (sg0 xs lo hi)) (fun b ob q=>Heap.get?_push_of_some _ q) (Nat.le_refl _) ?_,rfl,q _ (I.hok.fresh (Nat.le_refl _))⟩
 exact⟨Nat.le_trans (rd0 xs lo hi) hz,_,0,(r.drop (HT.sIx xs.length 0 lo)).take (HT.sIx xs.length xs.length hi - HT.sIx xs.length 0 lo),Heap.get?_push_size _ rfl⟩
def w50:V->Bool
 | .non=>true
 | .bl _=>true
 | .int _=>true
 | .str _=>true
 | _=>false
def eqV:V->V->Bool
 | .non,.non=>true
 | .bl a,.bl b=>a==b
 | .bl a,.int b=>(if a then 1 else 0)==b
 | .int a,.bl b=>a==(if b then 1 else 0)
 | .int a,.int b=>a==b
 | .str a,.str b=>a==b
 | _,_=>false
theorem Wo0{A:Around}{s:Shared}{y x:V}{u v:Value}(ry:RelV y u)(rx:RelV x v)(fy:w50 y=true)(fx:w50 x=true):SeqAt.EqAt A s u v (eqV y x):=by
 cases y with
 | non =>
  cases ry
  cases x with
  | non=>cases rx; exact SeqAt.EqAt.same _
  | bl b=>cases rx; exact SeqAt.EqAt.none_bool b
  | int b=>obtain⟨t,rfl⟩:=rx; exact SeqAt.EqAt.none_int b t
  | str b=>obtain⟨t,rfl⟩:=rx; exact SeqAt.EqAt.none_str b t
  | _=>exact absurd (show false=true from fx) Bool.false_ne_true
 | bl a =>
  cases ry
  cases x with
  | non=>cases rx; exact SeqAt.EqAt.bool_none a
  | bl b=>cases rx; exact SeqAt.EqAt.bool_bool a b
  | int b=>obtain⟨t,rfl⟩:=rx; exact SeqAt.EqAt.bool_int a b t
  | str b=>obtain⟨t,rfl⟩:=rx; exact SeqAt.EqAt.bool_str a b t
  | _=>exact absurd (show false=true from fx) Bool.false_ne_true
 | int a =>
  obtain⟨t',rfl⟩:=ry
  cases x with
  | non=>cases rx; exact SeqAt.EqAt.int_none a t'
  | bl b=>cases rx; exact SeqAt.EqAt.int_bool a t' b
  | int b=>obtain⟨t,rfl⟩:=rx; exact SeqAt.EqAt.int_int a t' b t
  | str b=>obtain⟨t,rfl⟩:=rx; exact SeqAt.EqAt.int_str a t' b t
  | _=>exact absurd (show false=true from fx) Bool.false_ne_true
 | str a =>
  obtain⟨t',rfl⟩:=ry
  cases x with
  | non=>cases rx; exact SeqAt.EqAt.str_none a t'
  | bl b=>cases rx; exact SeqAt.EqAt.str_bool a t' b
  | int b=>obtain⟨t,rfl⟩:=rx; exact SeqAt.EqAt.str_int a t' b t
  | str b=>obtain⟨t,rfl⟩:=rx; exact SeqAt.EqAt.str_str a t' b t
  | _=>exact absurd (show false=true from fx) Bool.false_ne_true
 | _=>exact absurd (show false=true from fy) Bool.false_ne_true
def eqU(x:V)(u:Value):Bool:=match u with
 | .none=>eqV .non x
 | .bool b=>eqV (.bl b) x
 | .int i _=>eqV (.int i) x
 | .str z _=>eqV (.str z) x
 | _=>false
theorem gr0{x y:V}{u:Value}(r:RelV y u)(f:w50 y=true):eqU x u=eqV y x:=by
 cases y with
 | non=>cases r; rfl
 | bl b=>cases r; rfl
 | int i=>obtain⟨t,rfl⟩:=r; rfl
 | str z=>obtain⟨t,rfl⟩:=r; rfl
 | _=>exact absurd (show false=true from f) Bool.false_ne_true
theorem pf0{x:V}:∀{xs:List V} {us:List Value},Vals xs us->xs.all w50=true->us.any (eqU x)=xs.any fun y=>eqV y x
 | _,_,.nil,_=>rfl
 | y::xs,u::us,.cons r t,f=>by
  rw[List.all_cons,Bool.and_eq_true] at f;rw[List.any_cons,List.any_cons,gr0 r f.1,pf0 t f.2]
theorem rz0{A:Around}{s:Shared}{x:V}{v:Value}(rx:RelV x v)(fx:w50 x=true):∀{xs:List V} {us:List Value},Vals xs us->xs.all w50=true->∀u∈us,SeqAt.EqAt A s u v (eqU x u)
 | _,_,.nil,_=>fun u hu=>by cases hu
 | y::xs,u::us,.cons r t,f=>fun u' hu=>by
  rw[List.all_cons,Bool.and_eq_true] at f;rcases List.mem_cons.mp hu with rfl|hu
  ·rw[gr0 r f.1]; exact Wo0 r rx f.1 fx
  ·exact rz0 rx fx t f.2 u' hu
def inV(x:V)(xs:List V):Bool:=xs.any fun y=>eqV y x
def rIn(K:W.Frag)(neg:Bool):R2:=fun x y H Q=>∃p xs,y=.ref p/\(SqL K H p xs∨SqT K H p xs)/\w50 x=true/\xs.all w50=true/\Q (.bl (if neg then !inV x xs else inV x xs)) H
theorem l90:OpR X (compareOp .NotIn) (rIn X.K true):=by
 intro pins s σ H x y v u Q I rx ry h;obtain⟨p,xs,rfl,hq,fx,fs,q⟩:=h;cases ry;rcases hq with hq|hq
 ·obtain⟨its,r,pl,hz⟩:=I.list hq
  refine SeqAt.notIn_listAt (eqU x) pl.isList (fun w hw=>rz0 rx fx r fs w (by simpa using hw)) ⟨.bl _,H,I,rfl,?_⟩
  rw[show its.toArray.any (eqU x)=its.any (eqU x) by simp,pf0 r fs]
  exact q
 ·obtain⟨its,r,pl,hz⟩:=I.tuple hq
  refine SeqAt.notIn_tupleAt (eqU x) pl (fun w hw=>rz0 rx fx r fs w (by simpa using hw)) ⟨.bl _,H,I,rfl,?_⟩
  rw[show its.toArray.any (eqU x)=its.any (eqU x) by simp,pf0 r fs]
  exact q
theorem lu0:CallR X (.builtin "len") (fun xs H Q=>∃p ys,xs=[.ref p]/\(SqL X.K H p ys∨SqT X.K H p ys)/\Q (.int ys.length) H):=by
 intro pins s σ H xs us Q I r h;obtain⟨p,ys,rfl,hq,q⟩:=h;obtain⟨u,rfl,rx⟩:=vals1 r;cases rx;have hn:=w90;rcases hq with hq|hq
 ·obtain⟨its,r',pl,hz⟩:=I.list hq
  have hlen:=r'.length
  exact Calls.call_len_list pl.isList (by simp only[List.size_toArray]<;>omega) ⟨.int ys.length,H,I.tok _,⟨s.toks+1,by rw[List.size_toArray,hlen]⟩,q⟩
 ·obtain⟨its,r',pl,hz⟩:=I.tuple hq
  have hlen:=r'.length
  exact len_tuple pl (by simp only[List.size_toArray]<;>omega) ⟨.int ys.length,H,I.tok _,⟨s.toks+1,by rw[List.size_toArray,hlen]⟩,q⟩
theorem la0:CallR X (.builtin "len") (fun xs H Q=>∃z,xs=[.str z]/\z.length<=sizeLine/\Q (.int z.length) H):=by
 intro pins s σ H xs us Q I r h;obtain⟨z,rfl,hz,q⟩:=h;obtain⟨u,rfl,t,rfl⟩:=vals1 r;have hn:=w90;exact len_str (by omega) ⟨.int z.length,H,I.tok _,⟨_,rfl⟩,q⟩
theorem CallR.or{f:Value}{r r':List V->Hp->VK->Prop}(h:CallR X f r)(h':CallR X f r'):CallR X f (fun xs H Q=>r xs H Q∨r' xs H Q):=by
 intro pins s σ H xs us Q I rs q;rcases q with q|q
 ·exact h pins s σ H xs us Q I rs q
 ·exact h' pins s σ H xs us Q I rs q
theorem s60:CallR X (.type "list") (fun xs H Q=>∃p ys,xs=[.ref p]/\(SqL X.K H p ys∨SqT X.K H p ys)/\∀l,H l=none->Q (.ref l) (upd H l (.lst ys))):=by
 intro pins s σ H xs us Q I r h;obtain⟨p,ys,rfl,hq,q⟩:=h;obtain⟨u,rfl,rx⟩:=vals1 r;cases rx;have fin:∀(its:List Value),Vals ys its->ys.length<=sizeLine->∀(h':Heap) (c':Nat),(∀b o',s.heap.get? b=some o'->h'.get? b=some o') ->
   h'.get? s.heap.objs.size=some { cls:=.type "list",dict:=none,data:=.seq its.toArray c',slots:=#[] }->EP X pins σ Q (.ref s.heap.objs.size) { s with heap:=h' }:=fun its r' hz h' c' kp e =>
  ⟨.ref s.heap.objs.size,_,I.laid (t':=s.toks) kp (Nat.le_refl _) (show ObjOk X.prog X.w _ h' _ (.lst ys) from ⟨hz,its,c',r',e⟩),rfl,q _ (I.hok.fresh (Nat.le_refl _))⟩
 rcases hq with hq|hq
 ·obtain⟨its,r',pl,hz⟩:=I.list hq
  have hlen:=r'.length
  obtain⟨o,ho,hc,n,hd⟩:=pl.isList;exact call_list_seq p (.inl rfl) ho hc hd (fun h' c' kp e=>fin its r' hz h' c' kp e) (by simp only[List.size_toArray]<;>omega)
 ·obtain⟨its,r',pl,hz⟩:=I.tuple hq
  have hlen:=r'.length
  obtain⟨o,ho,hc,n,hd⟩:=pl;exact call_list_seq p (.inr rfl) ho hc hd (fun h' c' kp e=>fin its r' hz h' c' kp e) (by simp only[List.size_toArray]<;>omega)
theorem V2:CallR X (.type "tuple") (fun xs H Q=>∃p ys,xs=[.ref p]/\((SqL X.K H p ys/\∀l,H l=none->Q (.ref l) (upd H l (.tup ys)))∨(SqT X.K H p ys/\Q (.ref p) H))):=by
 intro pins s σ H xs us Q I r h;obtain⟨p,ys,rfl,h⟩:=h;obtain⟨u,rfl,rx⟩:=vals1 r;cases rx;rcases h with⟨hq,q⟩|⟨hq,q⟩
 ·obtain⟨its,r',pl,hz⟩:=I.list hq
  have hlen:=r'.length
  refine call_tuple_list pl.isList (fun h' kp=>?_) (by simp only[List.size_toArray]<;>omega)
  have I1:Inv X pins σ H { s with heap:=h' }:=I.kept (t':=s.toks) kp
  have I2:Inv X pins σ (upd H h'.objs.size (.tup ys)) { s with heap:=h'.push { cls:=.type "tuple",data:=.seq its.toArray } } :=
   I1.laid (t':=s.toks) (fun b o e=>Heap.get?_push_of_some _ e) (Nat.le_refl _) (show ObjOk X.prog X.w _ _ _ (.tup ys) from ⟨hz,its,r',IsTupN.new _ _⟩)
  exact⟨.ref h'.objs.size,_,I2,rfl,q _ (I1.hok.fresh (Nat.le_refl _))⟩
 ·obtain⟨its,r',pl,hz⟩:=I.tuple hq
  exact call_tuple_same pl ⟨.ref p,H,I,rfl,q⟩
def tyV(K:W.Frag)(T:String)(x:V)(H:Hp):Prop:=match x with
 | .str _=>T = "str"
 | .int _=>T = "int"
 | .ref p=>(T = "list"/\∃xs,SqL K H p xs)∨(T = "tuple"/\∃o,K.lookup p=some o/\o.cls=.type "tuple"/\o.dict=none) ∨
   (T = "dict"/\((∃kvs,H p=some (.dK kvs))∨∃kvs,H p=some (.dT kvs)))∨(T = "set"/\∃S n,H p=some (.set S n))
 | _=>False
theorem gq0{pins:List (Addr×Obj)}{σ:St}{H:Hp}{s:Shared}{T:String}{x:V}{v:Value}(I:Inv X pins σ H s)(r:RelV x v)(ty:tyV X.K T x H) :
  s.TypeIs v T/\∀a,v=.ref a->∃ob,s.heap.get? a=some ob/\ob.dict=none:=by
 cases x with
 | str z =>
  obtain⟨t,rfl⟩:=r;cases (show T = "str" from ty);exact⟨typeIs_str s z t,fun _ e=>nomatch e⟩
 | int i =>
  obtain⟨t,rfl⟩:=r;cases (show T = "int" from ty);exact⟨typeIs_int s i t,fun _ e=>nomatch e⟩
 | ref p =>
  cases r;rcases ty with⟨rfl,xs,hq⟩|⟨rfl,o,hk,hc,hd⟩|⟨rfl,hk⟩|⟨rfl,S,n,hk⟩
  ·obtain⟨its,_,pl,_⟩:=I.list hq
   refine⟨pl.isList.typeIs,fun a e=>?_⟩
   cases e;obtain⟨o,n,e,c,hd,_⟩:=pl;exact⟨o,e,hd⟩
  ·refine⟨⟨o,I.kIn p o hk,hc⟩,fun a e=>?_⟩
   cases e;exact⟨o,I.kIn _ o hk,hd⟩
  ·have z:∃o,s.heap.get? p=some o/\o.ExactDict:=by
    rcases hk with⟨kvs,hk⟩|⟨kvs,hk⟩
    ·obtain⟨_,_,_,_,o,_,_,e,ex,_⟩:=I.hok p _ hk
     exact⟨o,e,ex⟩
    ·obtain⟨_,_,_,_,o,_,_,e,ex,_⟩:=I.hok p _ hk
     exact⟨o,e,ex⟩
   obtain⟨o,e,ex⟩:=z;refine⟨⟨o,e,ex.1⟩,fun a e2=>?_⟩
   cases e2;exact⟨o,e,ex.2.1⟩
  ·obtain⟨o,_,_,_,e,ex,_⟩:=I.hok p _ hk
   refine⟨⟨o,e,ex.1⟩,fun a e2=>?_⟩
   cases e2;exact⟨o,e,ex.2.1⟩
 | _=>exact False.elim ty
def Ul0(K:W.Frag)(T:String)(r:V->List V->Hp->VK->Prop)(to:TE):TE:=fun σ H Q=>to σ H fun x H1=>tyV K T x H1/\r x [] H1 Q
def tBM(K:W.Frag)(T:String)(r:V->List V->Hp->VK->Prop)(to:TE)(t:TA):TE:=fun σ H Q=>to σ H fun x H1=>tyV K T x H1/\t σ H1 fun xs H2=>r x xs H2 Q
variable{o e:Expr}{es:List Expr}{to:TE}{t:TA}{name:Str}{apos cpos:Pos}{T id:String}{r:V->List V->Hp->VK->Prop}
theorem g80(pa:PlainAttrs T)(slot:Slot T name id)(hty:typeOf (.builtin id)=pure (.type "method_descriptor"))(hm:MtR X id r)(ho:PE X o to)
  (hbase:attributeBase o name X.env (eval o X.env)=eval o X.env:=by rfl) (hline:(apos.endLine==cpos.line)=true:=by rfl):PE X (.Call (.Attribute o name apos) [] [] cpos) (Ul0 X.K T r to):=by
 intro pins s σ H Q I h;refine wpAny_Call_method0_late hbase hline (thn (ho pins s σ H _ I h) fun v s1 ⟨x,H1,I1,r1,ty,q1⟩=>?_)
 obtain⟨h1,h2⟩:=gq0 I1 r1 ty;exact⟨T,id,pa,slot,hty,h1,h2,Calls.callWith_builtin rfl (PySem.evalArgs_none (hm pins s1 σ H1 x [] v [] Q I1 r1 .nil q1))⟩
theorem qf0(pa:PlainAttrs T)(slot:Slot T name id)(hty:typeOf (.builtin id)=pure (.type "method_descriptor"))(hm:MtR X id r)(ho:PE X o to)(ha:PA X (e::es) t)
  (hbase:attributeBase o name X.env (eval o X.env)=eval o X.env:=by rfl)
  (hfew:((backTo cpos (starEach (e::es) X.env)).all (fun x=>!x.1)&&(backToKw cpos (keywordEach [] X.env)).all (fun x=>x.1.isSome)
  &&decide ((e::es).length+([]:List Keyword).length+(if ([]:List Keyword).isEmpty then 0 else 1)<30))=true:=by rfl)
  (hline:(apos.endLine==cpos.line)=true:=by rfl) (hs:starEach (e::es) X.env=(false,eval e X.env)::starEach es X.env:=by rfl) (hplain:(backTo cpos (starEach es X.env)).any (·.1)=false:=by rfl) :
  PE X (.Call (.Attribute o name apos) (e::es) [] cpos) (tBM X.K T r to t):=by
 intro pins s σ H Q I h;refine wpAny_Call_method_late hbase hfew hline rfl (thn (ho pins s σ H _ I h) fun v s1 ⟨x,H1,I1,r1,ty,q1⟩=>?_)
 obtain⟨h1,h2⟩:=gq0 I1 r1 ty;refine⟨T,id,pa,slot,hty,h1,h2,?_⟩
 have hA:=ha cpos pins s1 σ H1 _ I1 q1
 rw[hs] at hA ⊢;refine Calls.callWith_builtin (by show (false||(backTo cpos (starEach es X.env)).any (·.1))=false; rw[hplain]<;>rfl) (Calls.evalArgs_plain ?_)
 exact thn hA fun us s2 ⟨vs,H2,I2,r2,q2⟩=>hm pins s2 σ H2 x vs v us Q I2 r1 r2 q2
end
def MtM(X:Cx)(id:String)(r:V->List V->Hp->VK->Prop):Prop :=
 ∀(pins:List (Addr×Obj)) (s:Shared) (σ:St) (H:Hp) (x:V) (xs:List V) (v:Value) (us:List Value) (Q:VK),Inv X pins σ H s->RelV x v->Vals xs us->r x xs H Q ->
  wpAny (model X.prog X.w) X.A (call (.builtin id) (v::us)) (EP X pins σ Q) X.xe s
theorem Vals.one:∀{x:V} {us:List Value},Vals [x] us->∃u,us=[u]/\RelV x u
 | _,_,.cons r .nil=>⟨_,rfl,r⟩
theorem Vals.two:∀{x y:V} {us:List Value},Vals [x,y] us->∃u v,us=[u,v]/\RelV x u/\RelV y v
 | _,_,_,.cons r (.cons q .nil)=>⟨_,_,rfl,r,q⟩
theorem Vals.zero:∀{us:List Value},Vals [] us->us=[]
 | _,.nil=>rfl
theorem Vals.dropLast{xs:List V}{us:List Value}(h:Vals xs us):Vals xs.dropLast us.dropLast:=by
 induction h with
 | nil=>exact .nil
 | cons r t ih =>
  cases t with
  | nil=>exact .nil
  | cons q t'=>exact .cons r ih
theorem Vals.eraseIdx:∀{xs:List V} {us:List Value} (i:Nat),Vals xs us->Vals (xs.eraseIdx i) (us.eraseIdx i)
 | _,_,_,.nil=>.nil
 | _,_,0,.cons _ t=>t
 | _,_,i+1,.cons r t=>.cons r (Vals.eraseIdx i t)
theorem Vals.reverse{xs:List V}{us:List Value}(h:Vals xs us):Vals xs.reverse us.reverse:=by
 induction h with
 | nil=>exact .nil
 | cons r t ih=>rw[List.reverse_cons,List.reverse_cons]; exact Vals.append ih (.cons r .nil)
theorem Vals.rep{xs:List V}{us:List Value}(h:Vals xs us):∀k:Nat,Vals (List.replicate k xs).flatten (List.replicate k us).flatten
 | 0=>.nil
 | k+1=>by
  rw[List.replicate_succ,List.replicate_succ,List.flatten_cons,List.flatten_cons];exact Vals.append h (Vals.rep h k)
theorem i80{α:Type}(l:List α):l.eraseIdx (l.length - 1)=l.dropLast:=by
 induction l with
 | nil=>rfl
 | cons a r ih =>
  cases r with
  | nil=>rfl
  | cons b r =>
   have e:(a::b::r).length - 1=((b::r).length - 1)+1:=by
    have h1:(a::b::r).length=r.length+2:=rfl
    have h2:(b::r).length=r.length+1:=rfl
    omega
   rw[e,List.eraseIdx_cons_succ,ih]
   all_goals rfl
theorem og0{α:Type}:∀(l:List α) (i:Nat),(l.eraseIdx i).length<=l.length
 | [],_=>Nat.le_refl _
 | _::_,0=>Nat.le_succ _
 | _::r,i+1=>Nat.succ_le_succ (og0 r i)
theorem foldl_rep(its:List Value):∀(k:Nat) (acc:List Value),
  List.foldl (fun x1 x2=>x1++x2) acc.toArray (List.replicate k its.toArray)=(acc++(List.replicate k its).flatten).toArray
 | 0,acc=>by simp
 | k+1,acc=>by
  have e:acc.toArray++its.toArray=(acc++its).toArray:=by simp
  have e2:(acc++its)++(List.replicate k its).flatten=acc++(List.replicate (k+1) its).flatten:=by
   rw[List.replicate_succ,List.flatten_cons,List.append_assoc]
  rw[← e2,← foldl_rep its k (acc++its),← e,List.replicate_succ,List.foldl_cons]
section
variable{X:Cx}{pins:List (Addr×Obj)}{σ:St}{H:Hp}{s:Shared}{l b:Addr}{xs ys zs:List V}
theorem Inv.lset{its its':List Value}{n:Nat}{f:Array Value->Array Value}{t':Nat}(I:Inv X pins σ H s)(hH:H l=some (.lst xs))
  (e:s.heap.get? l=some { cls:=.type "list",data:=.seq its.toArray n }) (hf:f its.toArray=its'.toArray) (hv:Vals ys its') (hz:ys.length<=sizeLine) :
  Inv X pins σ (upd H l (.lst ys)) { s with heap:=s.heap.update l (Obj.mapSeq f),toks:=t' }:=by
 have q:=PySem.IsL.update e f
 rw[hf] at q;refine I.write (x:=l) (e:=l) (by rw[hH]; exact trivial) (.inl rfl) (fun b' u hb hu=>(Heap.get?_update_other s.heap (Obj.mapSeq f) (Ne.symm hb)).trans hu) ⟨_,q⟩ ?_
 exact⟨hz,its',_,hv,q⟩
theorem Inv.lnew{its:List Value}{t':Nat}(I:Inv X pins σ H s)(hv:Vals ys its)(hz:ys.length<=sizeLine) :
  Inv X pins σ (upd H s.heap.objs.size (.lst ys)) { s with heap:=s.heap.push { cls:=.type "list",data:=.seq its.toArray },toks:=t' } :=
 I.laid (fun _ _ q=>Heap.get?_push_of_some _ q) (Nat.le_refl _) ⟨hz,its,0,hv,Heap.get?_push_size _ rfl⟩
theorem Inv.fresh(I:Inv X pins σ H s):H s.heap.objs.size=none:=I.hok.fresh (Nat.le_refl _)
theorem Inv.lstM(I:Inv X pins σ H s)(hH:H l=some (.lst xs)):xs.length<=sizeLine/\∃(its:List Value) (n:Nat),Vals xs its/\xs.length=its.length/\s.heap.get? l=some { cls:=.type "list",data:=.seq its.toArray n }:=by
 obtain⟨z,its,n,r,e⟩:=I.hok l _ hH;exact⟨z,its,n,r,r.length,e⟩
theorem du0{n:Nat}(h:n<=sizeLine):Builtin.List.listTooLong n=false:=by
 unfold Builtin.List.listTooLong;exact decide_eq_false (by omega)
end
section
variable{X:Cx}
def Zv0:V->List V->Hp->VK->Prop:=fun x vs H Q=>∃l xs y,x=.ref l/\vs=[y]/\H l=some (.lst xs)/\xs.length<sizeLine/\Q .non (upd H l (.lst (xs++[y])))
theorem s50:MtM X "list.append" Zv0:=by
 intro pins s σ H x vs v us Q I rx rv h;obtain⟨l,xs,y,rfl,rfl,hH,hz,q⟩:=h;cases rx;obtain⟨u,rfl,ru⟩:=rv.one;obtain⟨z,its,n,r,hl,e⟩:=I.lstM hH;refine call_meets F.slot_list_append ⟨_,e,rfl⟩ F.entry_list_append (F.args_list_append_2 _ _) (PySem.list_append l its.toArray n u (by rw[List.size_toArray]; omega)) ⟨e,?_⟩
 refine⟨.non,_,I.lset (its':=its++[u]) hH e (by simp) (r.append (.cons ru .nil)) ?_,rfl,q⟩
 rw[List.length_append,List.length_singleton];omega
def Uo0:V->List V->Hp->VK->Prop:=fun x vs H Q=>∃l xs y,x=.ref l/\vs=[]/\H l=some (.lst xs)/\xs[xs.length - 1]?=some y/\Q y (upd H l (.lst xs.dropLast))
theorem Xd0:MtM X "list.pop" Uo0:=by
 intro pins s σ H x vs v us Q I rx rv h;obtain⟨l,xs,y,rfl,rfl,hH,hy,q⟩:=h;cases rx;have hus:=rv.zero;subst hus;obtain⟨z,its,n,r,hl,e⟩:=I.lstM hH;obtain⟨u,hu,ru⟩:=r.get hy;have hy':its.toArray[its.toArray.size - 1]?=some u:=by
  show its.toArray[its.length - 1]?=some u
  rw[← Array.getElem?_toList,← hl]
  exact hu
 refine call_meets F.slot_list_pop ⟨_,e,rfl⟩ F.entry_list_pop (F.args_list_pop_1 _) (MeetsSeq.list_pop_last l its.toArray n u hy' (by rw[List.size_toArray]; omega)) ⟨e,?_⟩
 refine⟨y,_,I.lset (its':=its.dropLast) hH e ?_ r.dropLast ?_,ru,q⟩
 ·show its.toArray.eraseIdxIfInBounds (its.toArray.size - 1)=its.dropLast.toArray
  rw[List.size_toArray,List.eraseIdxIfInBounds_toArray,i80]
 ·rw[List.length_dropLast]
  omega
def Xe0:V->List V->Hp->VK->Prop:=fun x vs H Q=>∃l xs i k y,x=.ref l/\vs=[.int i]/\H l=some (.lst xs)/\-(2 ^ 63)<=i/\i<2 ^ 63/\seqIndex? i xs.length=some k/\xs[k]?=some y/\Q y (upd H l (.lst (xs.eraseIdx k)))
theorem em0:MtM X "list.pop" Xe0:=by
 intro pins s σ H x vs v us Q I rx rv h;obtain⟨l,xs,i,k,y,rfl,rfl,hH,h1,h2,hk,hy,q⟩:=h;cases rx;obtain⟨u,rfl,ru⟩:=rv.one;obtain⟨t,rfl⟩:=ru;obtain⟨z,its,n,r,hl,e⟩:=I.lstM hH;obtain⟨w,hw,rw'⟩:=r.get hy;refine call_meets F.slot_list_pop ⟨_,e,rfl⟩ F.entry_list_pop (F.args_list_pop_2 _ _)
  (MeetsSeq.list_pop_at l its.toArray n i t k w (fitsIndex_both h1 h2) (by rw[List.size_toArray,← hl]; exact hk) (by rw[← Array.getElem?_toList]; exact hw) (by rw[List.size_toArray]; omega)) ⟨e,?_⟩
 refine⟨y,_,I.lset (its':=its.eraseIdx k) hH e ?_ (r.eraseIdx k) ?_,rw',q⟩
 ·show its.toArray.eraseIdxIfInBounds k=(its.eraseIdx k).toArray
  rw[List.eraseIdxIfInBounds_toArray]
 ·have:=og0 xs k
  omega
def Xs0:V->List V->Hp->VK->Prop:=fun x vs H Q=>∃l xs,x=.ref l/\vs=[]/\H l=some (.lst xs)/\Q .non (upd H l (.lst []))
theorem et0:MtM X "list.clear" Xs0:=by
 intro pins s σ H x vs v us Q I rx rv h;obtain⟨l,xs,rfl,rfl,hH,q⟩:=h;cases rx;have hus:=rv.zero;subst hus;obtain⟨z,its,n,r,hl,e⟩:=I.lstM hH;refine call_meets F.slot_list_clear ⟨_,e,rfl⟩ F.entry_list_clear (F.args_list_clear_1 _) (AutoSeq1.list_clear_list_0 l its.toArray n (by rw[List.size_toArray]; omega)) ⟨e,?_⟩
 exact⟨.non,_,I.lset (its':=[]) (ys:=[]) hH e rfl .nil (Nat.zero_le _),rfl,q⟩
theorem len_rep{α:Type}(xs:List α)(k:Nat):(List.replicate k xs).flatten.length=k*xs.length:=by
 induction k with
 | zero=>simp
 | succ k ih=>rw[List.replicate_succ,List.flatten_cons,List.length_append,ih,Nat.succ_mul,Nat.add_comm]
end
section
variable{prog:Program}{w:World}{A:Around}{E:Value->Shared->Prop}{s:Shared}
end
section
variable{X:Cx}
end
end L2
namespace Att
open PySem PySem.W PySem.Calls PyProof.Rows
theorem qi0{P:Params}{h:Heap}:∀(ns:List Int) (vs:List Value),WellAll P h vs (ns.map WData.int)->IntsAre vs ns:=by
 intro ns
 induction ns with
 | nil =>
  intro vs w;rw[List.map_nil] at w;cases w;exact .nil
 | cons n ns ih =>
  intro vs w;rw[List.map_cons] at w
  cases w with
  | cons a b =>
   cases a;exact .cons _ _ (ih _ b)
theorem hh0{l:OpenLaw}{n:Nat}(hn:l.most=some n){P:Params}{h:Heap}{args:List WData}{vals:List Value}
  (hpre:l.row.toRowW.claim.pre args=true) (hwl:WellAll P h vals args) :
  ∃a vs ns,vals=[Value.ref a]/\args=[WData.list (ns.map WData.int)]/\h.get? a=some { cls:=.type "list",data:=.seq vs.toArray }/\IntsAre vs ns/\ns.length<=n:=by
 have hsh:WShape.hasAll [] args [.list .int]=true:=(pre_splitW hpre).1
 have hc:l.pre.holds [] { args:=args }=true:=(pre_splitW hpre).2
 obtain⟨d,r,rfl,h1,h2⟩:=hasAllW_cons hsh;obtain rfl:=hasAllW_nil h2;obtain⟨xs,rfl,h3⟩:=hasW_list h1;obtain⟨ns,rfl⟩:=items_int h3;have hlen:ns.length<=n:=by
  unfold OpenLaw.pre at hc;have h4:(WTm.not (.lt (.lit (.int (n:Int))) (.len (.arg 0)))).holds [] { args:=[.list (ns.map .int)] }=true:=by
   have h4:=(holds_andW hc).1
   rw[hn] at h4;exact h4
  have h5:=condW_of h4 (w_not (w_lt w_lit (w_len_list (w_arg rfl))))
  rw[List.length_map] at h5;refine Nat.le_of_not_lt fun q=>?_
  have q':(n:Int)<((ns.length:Nat):Int):=by omega
  first
   | (rw[decide_eq_true q'] at h5; exact absurd h5 (by decide))
   | (simp at h5; omega)
 cases hwl with
 | cons w1 w2 =>
  cases w2
  cases w1 with
  | list ho hall=>exact⟨_,_,ns,rfl,rfl,ho,qi0 ns _ hall,hlen⟩
theorem gw0(l:OpenLaw)(args:List WData):l.row.toRowW.claim.post args (.bool true) args=true :=
 postW_of (r:=l.row.toRowW) (X:=(true==true))
  (show WShape.has [] (.bool true) .bool=true by first|rfl|decide|simp[WShape.has,WShape.arms,WShape.armsAll])
  (show (WTm.eq .res (.lit (.bool true))).value [] { args:=args,res:=some (.bool true),after:=args }=some (.bool (true==true)) from w_eq_bool (w_res rfl) w_lit) rfl
theorem kh0{l:OpenLaw}{n:Nat}{q:Program}{loose:List Str}{XP:(Str->Option Value)->Heap->Prop}{YP:World->Heap->Prop}{d:DefRec}
  (hn:l.most=some n) (hdf:d.params.defaults=[])
  (call:∀(w:World) (s₀ s₁:Shared) (mg mb:Str->Option Value) (fa:Addr) (o:Obj) (pm cd doc:Value) (a:Addr) (vs:List Value) (ns:List Int),
   Ground q loose [] XP w s₀ mg mb s₁.heap->YP w s₁.heap ->
   s₁.heap.get? fa=some o->o.data=.func (docDef d.name d.params d.body d.scope pm cd doc)->s₁.heap.CodeRec cd d.name->mg d.name=some (.ref fa) ->
   s₁.heap.get? a=some { cls:=.type "list",data:=.seq vs.toArray }->IntsAre vs ns->ns.length<=n->s₁.gens=#[] ->
   codeAny (model l.prog w) callerA (.call (.ref fa) ⟨[.ref a],[]⟩) (fun r s'=>r=.ok (.ret (.bool true))/\OldK s₁.heap s'.heap/\s'.os=s₁.os/\AllBare s'.gens) s₁) :
  WalkO q loose XP YP l.row.toRowW d [] (fun f vs=>PySem.call f vs):=by
 intro w s₀ s₁ mg mb G Y fa o pm cd doc dV kV ho hd hcd hD hmg hg args vals as hpre hlay hrd hwl hlo;obtain rfl:dV=.none:=Dflts.none hD hdf;obtain rfl:kV=.none:=Dflts.noKw hD;obtain⟨a,vs,ns,rfl,rfl,hobj,hints,hlen⟩:=hh0 hn hpre hwl;refine enter_call (codeAny_mono (call w s₀ s₁ mg mb fa o pm cd doc a vs ns G Y ho (fd_plain hd) hcd hmg hobj hints hlen hg) fun r s' hq=>?_)
 obtain⟨rfl,h2,h3,h4⟩:=hq;exact⟨.inl ⟨.bool true,.bool true,[],rfl,fun _=>rfl,.bool true,gw0 l _,fun _=>⟨List.Pairwise.nil,fun _ hm=>(nomatch hm)⟩⟩,h2,h3,h4⟩
section
variable{prog:Program}{w:World}{A:Around}{E:Value->Shared->Prop}{s:Shared}{K:Frag}
end
end Att
namespace L2
open PySem PySem.Spec PyProof.Rows
theorem o20:∀{vs:List Value} {ns:List Int},IntsAre vs ns->Vals (ns.map V.int) vs
 | _,_,.nil=>.nil
 | _,_,.cons n t h=>.cons ⟨t,rfl⟩ (o20 h)
def Only(H:Hp):Prop:=∀b,H b=none∨∃o xs,H b=some (.frz o (.lst xs))
theorem ei0{P:Program}{w:World}{K:W.Frag}{mg mb:Str->Option Value}{CX:CXT}{k:Nat}{fa a:Addr}{fd:FuncData}{x:Str}{sp:Sp}{s₁:Shared}{vs:List Value}{ns:List Int}
  (KX:K.In s₁.heap) (hns:s₁.heap.Ns mainGlobals mg) (hb:s₁.heap.Ns builtinsNs mb) (hbb:∀x:Str,x ≠"__name__"->mb x=bootBuiltins x) (hlim:s₁.heap.NoLimit) (hg:s₁.gens=#[])
  (ha:s₁.heap.get? a=some { cls:=.type "list",data:=.seq vs.toArray }) (hi:IntsAre vs ns) (hl:ns.length<=sizeLine) (hr:Room k callerA)
  (F:∀base:Heap,K.In base->base.Ns mainGlobals mg->FnOk P w K mg base CX k fa fd [x] sp) (hbind:∀(s:Shared) (u:Value),BindsTo s fd ⟨[u],[]⟩ [(x,u)])
  (hsp:∀H:Hp,Only H->SqL K H a (ns.map V.int)->sp [.ref a] H (fun v _=>v=.bl true) fun _ _ _=>False)
  (hCX:∀H e s',CX [] H s₁ (fun _ _ _=>False) e s'->False) :
  codeAny (model P w) callerA (.call (.ref fa) ⟨[.ref a],[]⟩) (fun r s'=>r=.ok (.ret (.bool true))/\OldK s₁.heap s'.heap/\s'.os=s₁.os/\AllBare s'.gens) s₁:=by
 have rv:=o20 hi
 have lenV:=hi.length
 have core:∀H:Hp,Only H->SqL K H a (ns.map V.int)->HOk P w H s₁.heap->(∀b,H b≠none->b=a)->(H a≠none->K.lookup a=none) ->
   codeAny (model P w) callerA (.call (.ref fa) ⟨[.ref a],[]⟩) (fun r s'=>r=.ok (.ret (.bool true))/\OldK s₁.heap s'.heap/\s'.os=s₁.os/\AllBare s'.gens) s₁:=by
  intro H hO hS hok hA hK;have base_of:∀{b:Addr} {o:Obj},s₁.heap.get? b=some o->H b=none->(t20 s₁.heap H).get? b=some o:=fun e n=>cl0 e n
  have noA:∀{b:Addr} {o:Obj} {es:Array DictEntry} {ep:Nat},s₁.heap.get? b=some o->o.data=.dict es ep->H b=none:=fun {b o es ep} e d=>by
   cases q:H b with
   | none=>rfl
   | some u =>
    have e':b=a:=hA b (by rw[q]; simp)
    subst e';rw[ha] at e; cases e;have d':Data.seq vs.toArray _=Data.dict es ep:=d;cases d'
  have nsK:∀{b:Addr} {m:Str->Option Value},s₁.heap.Ns b m->(t20 s₁.heap H).Ns b m:=fun {b m} ⟨o,es,ep,e,d,r⟩=>⟨o,es,ep,base_of e (noA e d),d,r⟩
  have hKb:K.In (t20 s₁.heap H):=fun b o e=>base_of (KX b o e) (by
   cases q:H b with
   | none=>rfl
   | some u =>
    have e':b=a:=hA b (by rw[q]; simp)
    subst e';rw[hK (by rw[q]; simp)] at e; cases e)
  have hM:Mod K mg (t20 s₁.heap H):=⟨hKb,nsK hns,⟨mb,nsK hb,hbb⟩,let ⟨mc,h1,h2⟩:=hlim; ⟨mc,nsK h1,h2⟩⟩
  have e0:Env0 P w K mg (t20 s₁.heap H) callerA [] s₁ H:=⟨rfl,hM,fun b o e=>ah0 e,Nat.le_of_eq (ee0 _ _),trivial,fun b hb=>absurd (show b∈([]:List Addr) from hb) (by simp),hok,.of_eq hg⟩
  refine codeAny_mono ((F _ hKb (nsK hns)).run callerA [] s₁ H ⟨[.ref a],[]⟩ [.ref a] [.ref a] _ _ hr e0 (hbind s₁ (.ref a)) (.cons rfl .nil) (hsp H hO hS)) fun r s' h=>?_
  cases r with
  | error e=>exact(hCX H e s' h).elim
  | ok fl =>
   cases fl with
   | next=>exact False.elim h
   | brk=>exact False.elim h
   | cont=>exact False.elim h
   | ret u =>
    obtain⟨v,H',os,bare,un,hok',r',q⟩:=h;have q':v=.bl true:=q;subst q';obtain rfl:u=Value.bool true:=r';refine⟨rfl,OldK.of_keep fun b o e=>?_,os,bare⟩
    cases q:H b with
    | none=>exact un.keep b o e q (by intro z; exact absurd (show b∈([]:List Addr) from z) (by simp)) (by simp)
    | some u =>
     rcases hO b with z|⟨ob,xs,z⟩
     ·rw[q] at z; cases z
     ·have z2:=un.frzs b ob _ z
      obtain⟨e1,_⟩:=hok b _ z;obtain⟨e2,_⟩:=hok' b _ z2;rw[e] at e1; cases e1;exact e2
 cases hk:K.lookup a with
 | some o =>
  have e:=KX a o hk
  rw[ha] at e;cases e;refine core (fun _=>none) (fun _=>.inl rfl) (.inr ⟨_,vs.toArray,_,hk,rfl,rfl,rfl,by rw[List.size_toArray,lenV]; exact hl,by simpa using rv⟩) (fun b u z=>by have z':(none:Option HO)=some u:=z; cases z') (fun b z=>absurd rfl z) fun z=>absurd rfl z
 | none =>
  refine core (fun b=>if b=a then some (.frz { cls:=.type "list",data:=.seq vs.toArray } (.lst (ns.map V.int))) else none) (fun b=>?_) (.inl (.inr ⟨{ cls:=.type "list",data:=.seq vs.toArray },if_pos rfl⟩)) (fun b u z=>?_) (fun b z=>?_) fun _=>hk
  ·by_cases hb:b=a
   ·exact .inr ⟨_,_,if_pos hb⟩
   ·exact .inl (if_neg hb)
  ·by_cases hb:b=a
   ·have z':=(if_pos hb).symm.trans z
    cases z';subst hb;exact⟨ha,by rw[List.length_map]; exact hl,vs,_,rv,ha⟩
   ·have z':=(if_neg hb).symm.trans z
    cases z'
  ·by_cases hb:b=a
   ·exact hb
   ·exact absurd (if_neg hb) z
theorem Z50{l:W.OpenLaw}{n k:Nat}{q:Program}{loose:List Str}{XP:(Str->Option Value)->Heap->Prop}{YP:World->Heap->Prop}{d:DefRec}{K:Params->W.Frag}{CX:World->CXT}{sp:World->Sp}{x:Str}
  (hn:l.most=some n) (hn2:n<=sizeLine) (hdf:d.params.defaults=[]) (hr:Room k callerA)
  (hY:∀(w:World) (h:Heap),YP w h->(K w.params).In h)
  (F:∀(w:World) (mg:Str->Option Value) (fa:Addr) (h:Heap),(K w.params).In h->h.Ns mainGlobals mg->mg d.name=some (.ref fa) ->
   ∃fd:FuncData,(∀(s:Shared) (u:Value),BindsTo s fd ⟨[u],[]⟩ [(x,u)]) /\
    ∀base:Heap,(K w.params).In base->base.Ns mainGlobals mg->FnOk l.prog w (K w.params) mg base (CX w) k fa fd [x] (sp w))
  (hsp:∀(w:World) (H:Hp) (a:Addr) (ns:List Int),ns.length<=n->Only H->SqL (K w.params) H a (ns.map V.int)->sp w [.ref a] H (fun v _=>v=.bl true) fun _ _ _=>False)
  (hCX:∀(w:World) (H:Hp) (s:Shared) (e:Value) (s':Shared),CX w [] H s (fun _ _ _=>False) e s'->False) :
  W.WalkO q loose XP YP l.row.toRowW d [] (fun f vs=>PySem.call f vs):=by
 refine Att.kh0 hn hdf fun w s₀ s₁ mg mb fa o pm cd doc a vs ns G Y ho hd hcd hmg hobj hints hlen hg=>?_
 have KX:=hY w _ Y
 obtain⟨fd,hb,hF⟩:=F w mg fa _ KX G.T.g hmg;exact ei0 KX G.T.g G.T.b G.T.builtins G.T.nolimit hg hobj hints (Nat.le_trans hlen hn2) hr hF hb (fun H hO hS=>hsp w H a ns hlen hO hS) fun H e s'=>hCX w H s₁ e s'
theorem d90{l:W.OpenLaw}{n k:Nat}{q:Program}{loose:List Str}{XP:(Str->Option Value)->Heap->Prop}{YP:World->Heap->Prop}{d:DefRec}{K:Params->W.Frag}{CX:CXT}{sp:W.Frag->Sp}{x:Str}
  (hn:l.most=some n) (hn2:n<=sizeLine) (hdf:d.params.defaults=[]) (hr:Room k callerA)
  (hY:∀(w:World) (h:Heap),YP w h->(K w.params).In h)
  (F:∀(w:World) (mg:Str->Option Value) (fa:Addr) (h:Heap),(K w.params).In h->h.Ns mainGlobals mg->mg d.name=some (.ref fa) ->
   ∃fd:FuncData,(∀(s:Shared) (u:Value),BindsTo s fd ⟨[u],[]⟩ [(x,u)]) /\
    ∀base:Heap,(K w.params).In base->base.Ns mainGlobals mg->FnOk l.prog w (K w.params) mg base CX k fa fd [x] (sp (K w.params)))
  (hsp:∀(K:W.Frag) (H:Hp) (a:Addr) (ns:List Int),ns.length<=n->Only H->SqL K H a (ns.map V.int)->sp K [.ref a] H (fun v _=>v=.bl true) fun _ _ _=>False)
  (hCX:∀(H:Hp) (s:Shared) (e:Value) (s':Shared),CX [] H s (fun _ _ _=>False) e s'->False) :
  W.WalkO q loose XP YP l.row.toRowW d [] (fun f vs=>PySem.call f vs) :=
 Z50 (K:=K) (CX:=fun _=>CX) (sp:=fun w=>sp (K w.params)) hn hn2 hdf hr hY F (fun w H a ns h1 h2 h3=>hsp (K w.params) H a ns h1 h2 h3) fun _ H s e s'=>hCX H s e s'
def j4(s:Stmt):Arguments:=match s with
 | .FunctionDef _ a _ _ _ _ _ _ _ _=>a
 | _=>{ posonlyargs:=[],args:=[],vararg:=none,kwonlyargs:=[],kw_defaults:=[],kwarg:=none,defaults:=[] }
def m5(s:Stmt):List Stmt:=match s with
 | .FunctionDef _ _ b _ _ _ _ _ _ _=>b
 | _=>[]
def p6(s:Stmt):Scope:=match s with
 | .FunctionDef _ _ _ _ _ _ sc _ _ _=>sc
 | _=>{ kind:=.function,names:=[],isGenerator:=false,isCoroutine:=false }
abbrev CX0:CXT:=fun _ _ _ _ _ _=>False
abbrev E0:XK:=fun _ _ _=>False
theorem nl0{X:Cx}:mm0 CX0 X E0:=fun _ _ _ _ _ _ _ h=>h.elim
structure Fun(K:W.Frag)(x qual:Str)(st:Stmt)(f:Addr)(fd:FuncData):Prop where
 ex:∃(oc:Value) (od:Option Addr) (kV doc pm:Value) (an:Option Addr) (cdv ct:Value) (osl:Array (Option Value)),
  fd=W.fnOf x qual (j4 st) (m5 st) (p6 st) .none kV doc pm an cdv ct/\K.lookup f=some ⟨oc,od,.func fd,osl⟩/\W.codeIn K cdv qual=true
 kp:W.keepIn K (.ref f)=true
section
variable{P:Program}{w:World}{K:W.Frag}{mg:Str->Option Value}{base:Heap}
theorem Fun.ok{x qual:Str}{st:Stmt}{f:Addr}{fd:FuncData}{N ps:List Str}{k:Nat}{sp:Sp}(F:Fun K x qual st f fd)(S:FnScope N ps (p6 st))(len:∀vs H Q E,sp vs H Q E->vs.length=ps.length)
  (hbody:∀(cdv:Value) (A:Around) (outer:List Env) (s:Shared) (H:Hp) (vs:List V) (Q:VK) (E:XK),Room k (A.deeper (envOfC qual (p6 st) s.heap.objs.size f cdv))->sp vs H Q E ->
   ∃t,PSs (v50 CX0 P w K mg base N qual (p6 st) f cdv A outer s H E).nox (m5 st) t/\t { nx:=fun _ H'=>Q .non H',rt:=Q } (start N vs) H):FnOk P w K mg base CX0 (k+1) f fd ps sp:=by
 obtain⟨oc,od,kV,doc,pm,an,cdv,ct,osl,rfl,lk,hcd⟩:=F.ex;refine cq0 lk hcd S len fun A outer s H vs Q E hr hsp=>?_
 obtain⟨t,h,q⟩:=hbody cdv A outer s H vs Q E hr hsp;exact⟨t,h.nox,q⟩
theorem Fun.binds{x qual:Str}{st:Stmt}{f:Addr}{fd:FuncData}{ps:List Str}(F:Fun K x qual st f fd)
  (h:∀(kV doc pm:Value) (an:Option Addr) (cdv ct:Value) (us:List Value),us.length=ps.length->bindArgs (W.fnOf x qual (j4 st) (m5 st) (p6 st) .none kV doc pm an cdv ct) ⟨us,[]⟩=pure (ps.zip us)):Binds K fd ps []:=by
 obtain⟨oc,od,kV,doc,pm,an,cdv,ct,osl,rfl,lk,hcd⟩:=F.ex;exact .all (h kV doc pm an cdv ct)
theorem Z8{x qual:Str}{st:Stmt}{f:Addr}{oc:Value}{od an:Option Addr}{osl:Array (Option Value)}{kV doc pm cdv ct:Value}(l:K.lookup f=some ⟨oc,od,.func (W.fnOf x qual (j4 st) (m5 st) (p6 st) .none kV doc pm an cdv ct),osl⟩)
  (c:W.codeIn K cdv qual=true) (k:W.keepIn K (.ref f)=true):Fun K x qual st f (W.fnOf x qual (j4 st) (m5 st) (p6 st) .none kV doc pm an cdv ct):=⟨⟨oc,od,kV,doc,pm,an,cdv,ct,osl,rfl,l,c⟩,k⟩
end
theorem ta0{A:Around}{k:Nat}(hr:Room k A):A.units+1<cLine:=Nat.lt_of_le_of_lt (Nat.add_le_add_left (by decide:1<=64) _) hr.units
section
variable{X:Cx}
end
def Same(H H':Hp):Prop:=∀b o,H b=some o->H' b=some o
theorem Same.refl(H:Hp):Same H H:=fun _ _ h=>h
theorem Same.trans{H H1 H2:Hp}(a:Same H H1)(b:Same H1 H2):Same H H2:=fun c o h=>b c o (a c o h)
theorem Same.free{H H':Hp}(e:Same H H'){l:Addr}(h:H' l=Option.none):H l=Option.none:=by
 cases q:H l with
 | none=>rfl
 | some o =>
  rw[e l o q] at h;cases h
def X3(X:Cx)(scope:Scope)(cl:List (Str×Addr))(N':List Str)(s:Shared)(H:Hp)(ex:List Addr):Cx :=
 { X with N:=N',s₀:=s,H₀:=H,env:=compEnvC scope cl s.heap.objs.size X.env,outer:=X.stack,ex:=ex,fn:=fun _=>false,pn:=[],xe:=fun _ _=>False }
structure CompOk(sc scope:Scope)(N N':List Str)(n:Nat)(caps:List Nat):Prop where
 kind:scope.kind=.function
 nocell:∀y∈scope.names,y.2≠.cell
 loc:∀y∈scope.names,y.2=.local->scope.names.lookup y.1=some .local
 free:∀y∈scope.names,y.2=.free->sc.names.lookup y.1=some .cell∨sc.names.lookup y.1=some .free
 nd:N'.Nodup
 len:N'.length=n+caps.length
 cap:∀k∈List.range caps.length,N'[n+k]?=(caps[k]?).bind (N[·]?)/\(N'[n+k]?).all (fun y=>scope.names.lookup y==some .free)=true
def N8(n:Nat)(caps:List Nat)(σ:St):St:=List.replicate n none++caps.map fun j=>(σ[j]?).join
theorem fy0(n:Nat)(caps:List Nat)(σ:St):(N8 n caps σ).length=n+caps.length:=by simp[N8]
theorem vw0{env:Env}:∀(names:List (Str×NameKind)),(∀x∈names,x.2=.free->∃c,env.cells.lookup x.1=some c)->∀acc:List (Str×Addr),
  ∃cl:List (Str×Addr),(forIn names acc (fun (x:Str×NameKind) (cs:List (Str×Addr))=>if (x.2==.free)=true then do let a ← cellOf env x.1; pure (ForInStep.yield ((x.1,a)::cs)) else pure (ForInStep.yield cs)):Sem (List (Str×Addr)))=pure cl /\
   (∀y c,cl.lookup y=some c->env.cells.lookup y=some c∨acc.lookup y=some c)/\(∀x∈names,x.2=.free->∃c,cl.lookup x.1=some c)/\(∀y c,acc.lookup y=some c->∃c',cl.lookup y=some c')
 | [],_,acc=>⟨acc,rfl,fun _ _ h=>.inr h,(fun _ h=>nomatch h),fun _ c h=>⟨c,h⟩⟩
 | (n,k)::r,h,acc=>by
  cases hk:(k==NameKind.free) with
  | true =>
   have hk':k=.free:=by simpa using hk
   obtain⟨c,hc⟩:=h (n,k) List.mem_cons_self hk';obtain⟨cl,e,h1,h2,h3⟩:=vw0 r (fun x hx=>h x (List.mem_cons_of_mem _ hx)) ((n,c)::acc)
   refine⟨cl,?_,fun y d hy=>?_,fun x hx hf=>?_,fun y d hy=>?_⟩
   ·rw[List.forIn_cons]
    simp only[hk,if_true,cellOf,hc,pure_bind];exact e
   ·rcases h1 y d hy with z|z
    ·exact .inl z
    ·rw[List.lookup_cons] at z
     cases q:(y==n) with
     | true =>
      rw[q] at z;cases z;have:y=n:=by simpa using q
      subst this;exact .inl hc
     | false =>
      rw[q] at z;exact .inr z
   ·rcases List.mem_cons.mp hx with rfl|hx
    ·exact h3 n c (by simp[List.lookup_cons])
    ·exact h2 x hx hf
   ·by_cases q:y=n
    ·subst q
     exact h3 y c (by simp[List.lookup_cons])
    ·refine h3 y d ?_
     have:(y==n)=false:=by simpa using q
     rw[List.lookup_cons,this];exact hy
  | false =>
   obtain⟨cl,e,h1,h2,h3⟩:=vw0 r (fun x hx=>h x (List.mem_cons_of_mem _ hx)) acc
   refine⟨cl,?_,h1,fun x hx hf=>?_,h3⟩
   ·rw[List.forIn_cons]
    simp only[hk,Bool.false_eq_true,if_false,pure_bind];exact e
   ·rcases List.mem_cons.mp hx with rfl|hx
    ·have:k=.free:=hf
     rw[this] at hk;exact absurd hk (by decide)
    ·exact h2 x hx hf
theorem u10{env:Env}{scope:Scope}(h:∀x∈scope.names,x.2=.free->∃c,env.cells.lookup x.1=some c) :
  ∃cl:List (Str×Addr),closureFor scope env=pure cl/\(∀y c,cl.lookup y=some c->env.cells.lookup y=some c)/\∀x∈scope.names,x.2=.free->∃c,cl.lookup x.1=some c:=by
 obtain⟨cl,e,h1,h2,_⟩:=vw0 scope.names h [];refine⟨cl,?_,fun y c hy=>(h1 y c hy).elim id (fun z=>nomatch z),h2⟩
 simp only[closureFor];rw[← bind_pure (forIn _ _ _)] at e
 first
  | exact e
  | (refine Eq.trans ?_ e; rfl)
theorem xm0{env:Env}:∀(names:List (Str×NameKind)) (x:Str),
  (names.map fun (n,k)=>if (k==NameKind.free&&env.scope.kind==.function&&env.kindOf n==some .cell) then (n,NameKind.cell) else (n,k)).lookup x =
   (names.lookup x).map fun k=>if (k==NameKind.free&&env.scope.kind==.function&&env.kindOf x==some .cell)=true then NameKind.cell else k
 | [],_=>rfl
 | (n,k)::r,x=>by
  have ih:=@xm0 env r x
  have l1:List.lookup x (((n,k)::r).map fun (n,k)=>if (k==NameKind.free&&env.scope.kind==.function&&env.kindOf n==some .cell) then (n,NameKind.cell) else (n,k)) =
    List.lookup x ((if (k==NameKind.free&&env.scope.kind==.function&&env.kindOf n==some .cell)=true then (n,NameKind.cell) else (n,k))::r.map fun (n,k)=>if (k==NameKind.free&&env.scope.kind==.function&&env.kindOf n==some .cell) then (n,NameKind.cell) else (n,k)):=rfl
  rw[l1,List.lookup_cons (as:=r)]
  by_cases hc:(k==NameKind.free&&env.scope.kind==.function&&env.kindOf n==some .cell)=true
  ·rw[if_pos hc,List.lookup_cons]
   cases hx:x==n with
   | true =>
    have e:x=n:=by simpa using hx
    subst e;show some NameKind.cell=some (if (k==NameKind.free&&env.scope.kind==.function&&env.kindOf x==some .cell)=true then NameKind.cell else k);rw[if_pos hc]
   | false=>exact ih
  ·rw[if_neg hc,List.lookup_cons]
   cases hx:x==n with
   | true =>
    have e:x=n:=by simpa using hx
    subst e;show some k=some (if (k==NameKind.free&&env.scope.kind==.function&&env.kindOf x==some .cell)=true then NameKind.cell else k);rw[if_neg hc]
   | false=>exact ih
section
variable{prog:Program}{w:World}{A:Around}{R:Result->Shared->Prop}{s:Shared}
theorem l60{elt target iter:Expr}{ifs:List Expr}{scope:Scope}{pos:Pos}{it acc:Value}{env:Env}(I:Nat->Shared->Prop)
  (turn:∀n s,I n s->wpAny (model prog w) A (pyNext it) (fun r s₁=>match r with
   | none=>R (.ok .next) s₁
   | some v=>wpAny (model prog w) A (letOwnedTupleGo target it v) (fun _ s₁'=>wpAny (model prog w) A (assign target env v) (fun _ s₂ =>
     wpAny (model prog w) A (forIn ifs true fun c r=>if r=true then do let ok ← isTrue c env (eval c env); pure (ForInStep.yield ok) else pure (ForInStep.yield r)) (fun ok s₃ =>
      if ok=true then wpAny (model prog w) A (eval elt env) (fun x s₄ =>
       wpAny (model prog w) A (call (.builtin "list.append") [acc,x]) (fun _ s₅=>∃m,m<n/\I m s₅) (fun _ _=>False) s₄) (fun _ _=>False) s₃
      else ∃m,m<n/\I m s₃) (fun _ _=>False) s₂) (fun _ _=>False) s₁') (fun _ _=>False) s₁) (fun _ _=>False) s)
  (n:Nat) (h:I n s) :
  codeAny (model prog w) A (.compLoop (.ListComp elt [⟨target,iter,ifs,0⟩] scope pos) 0 it acc env) R s:=by
 refine codeAny_loop rfl I (fun n s hI=>?_) n h
 show wpAny _ A ((compTurn (.ListComp elt [⟨target,iter,ifs,0⟩] scope pos) 0 it acc env).onRaise (fun x=>do noteFrame x env; theTreesLotGoes x)) _ _ s
 refine wpAny_noted ?_
 rw[compTurn_list];refine wpAny_bind (wpAny_standAt (wpAny_bind (wpAny_mono (turn n s hI) (fun r s₁ h₁=>?_) fun _ _ h'=>h'.elim)))
 cases r with
 | none=>exact wpAny_pure h₁
 | some v =>
  refine wpAny_bind (wpAny_mono h₁ (fun _ s₁' h₁'=>?_) fun _ _ h'=>h'.elim)
  refine wpAny_bind (wpAny_mono h₁' (fun _ s₂ h₂=>wpAny_bind (wpAny_mono h₂ (fun ok s₃ h₃=>?_) fun _ _ h'=>h'.elim)) fun _ _ h'=>h'.elim)
  cases ok with
  | false=>exact wpAny_pure ⟨rfl,h₃⟩
  | true =>
   exact wpAny_bind (wpAny_bind (wpAny_mono h₃ (fun x s₄ h₄=>wpAny_bind (wpAny_mono h₄ (fun _ s₅ h₅=>wpAny_pure (wpAny_pure ⟨rfl,h₅⟩)) fun _ _ h'=>h'.elim)) fun _ _ h'=>h'.elim))
end
def PF(X:Cx)(ifs:List Expr)(t:TT):Prop :=
 ∀(pins:List (Addr×Obj)) (s:Shared) (σ:St) (H:Hp) (Q:Bool->Hp->Prop),Inv X pins σ H s->t σ H Q ->
  wpAny (model X.prog X.w) X.A (forIn ifs true fun c r=>if r=true then do let ok ← isTrue c X.env (eval c X.env); pure (ForInStep.yield ok) else pure (ForInStep.yield r)) (TP X pins σ Q) X.xe s
theorem Yy0{X:Cx}:PF X [] fun _ H Q=>Q true H:=fun _ _ _ H _ I h=>wpAny_tests_nil ⟨H,I,h⟩
theorem Yq0{X:Cx}{c:Expr}{t:TT}(h:PT X c t):PF X [c] t:=fun pins s σ H Q I q=>wpAny_tests_one (h pins s σ H Q I q)
def Wk(σ σ':St):Prop:=σ'.length=σ.length/\∀(j:Nat) (v:V),σ[j]?=some (some v)->σ'[j]?=some (some v)
def ii0(n:Nat)(caps:List Nat)(wi:TI)(g:TG)(tt:TT)(te:TE):TE:=fun σ H Q=>wi σ H fun J H1=>∀D,H1 D=none ->
 ∃W:Nat->Nat->List V->Hp->Prop,(∃m,W 0 m [] (upd H1 D (.lst [])))/\∀i m ys H2,W i m ys H2 ->
  (J.stop i H2/\Q (.ref D) H2)∨(J.go i H2/\∀x H3,J.yld i H2 x H3->g x (N8 n caps σ) H3 fun σ4 H4=>Wk (N8 n caps σ) σ4/\tt σ4 H4 fun b H5 =>
   if b=true then te σ4 H5 fun y H6=>H6 D=some (.lst ys)/\ys.length<sizeLine/\∃m',m'<m/\W (i+1) m' (ys++[y]) (upd H6 D (.lst (ys++[y]))) else ∃m',m'<m/\W (i+1) m' ys H5)
section
variable{X:Cx}{sc:Scope}{elt iter tg:Expr}{ifs:List Expr}{scope:Scope}{pos:Pos}{N':List Str}{n:Nat}{caps:List Nat}{wi:TI}{g:TG}{tt:TT}{te:TE}
def Vg0(X:Cx)(pins:List (Addr×Obj))(H:Hp)(C:Addr):Prop :=
 H C=none/\C≠X.env.locals/\X.s₀.heap.objs.size<=C/\(∀x c,X.env.cells.lookup x=some c->c≠C)/\∀p∈X.pn++pins,p.1≠C
theorem pu0{pins:List (Addr×Obj)}{σ:St}{H2:Hp}{s2:Shared}{it:Addr}{fp:List Addr}{tn:Nat->Heap->Prop}{J:It}{cl:List (Str×Addr)}{Q:VK}{RR:Value->Addr->Result->Shared->Prop}{E:Value->Shared->Prop}
  (hc:X.calm=true) (hsc:X.env.scope=sc) (ok:CompOk sc scope X.N N' n caps)
  (hcl1:∀y c,cl.lookup y=some c->X.env.cells.lookup y=some c) (hcl2:∀x∈scope.names,x.2=.free->∃c,cl.lookup x.1=some c)
  (hg:∀s H ex,PG (X3 X scope cl N' s H ex) tg g) (ht:∀s H ex,PF (X3 X scope cl N' s H ex) ifs tt) (he:∀s H ex,PE (X3 X scope cl N' s H ex) elt te)
  (I2:Inv X pins σ H2 s2) (T:Turn X.prog X.w X.K tg J fp it tn) (st2:tn 0 s2.heap) (f2:∀b∈fp,vl0 X pins H2 b)
  (q:∀D,H2 D=none->∃W:Nat->Nat->List V->Hp->Prop,(∃m,W 0 m [] (upd H2 D (.lst [])))/\∀i m ys H2,W i m ys H2 ->
   (J.stop i H2/\Q (.ref D) H2)∨(J.go i H2/\∀x H3,J.yld i H2 x H3->g x (N8 n caps σ) H3 fun σ4 H4=>Wk (N8 n caps σ) σ4/\tt σ4 H4 fun b H5 =>
    if b=true then te σ4 H5 fun y H6=>H6 D=some (.lst ys)/\ys.length<sizeLine/\∃m',m'<m/\W (i+1) m' (ys++[y]) (upd H6 D (.lst (ys++[y]))) else ∃m',m'<m/\W (i+1) m' ys H5))
  (hend:∀(D C:Addr) (H':Hp) (s':Shared) (m:Str->Option Value),Inv X pins σ H' s'->Vg0 X pins H' C->s'.heap.Ns C m->Q (.ref D) H'->RR (.ref D) C (.ok .next) s') :
  wpAny (model X.prog X.w) X.A (newList []) (fun acc s₃=>wpAny (model X.prog X.w) X.A (newFunctionEnv scope X.env.globals cl [] X.env.qual none .none (some X.env)) (fun cenv s₄ =>
   codeAny (model X.prog X.w) X.A (.compStart (.ListComp elt [⟨tg,iter,ifs,0⟩] scope pos) 0 (.ref it) acc { cenv with scope:=relabel scope X.env }) (RR acc cenv.locals) s₄) E s₃) E s2:=by
 refine wpAny_newObj_type (wpAny_newFunctionEnv ok.nocell (by intro y hy; simp at hy) (fun h₁ hns₁ hsb₁=>?_) ok.kind)
 dsimp only at hns₁ hsb₁ ⊢
 obtain⟨D,hD⟩:∃D,D=s2.heap.objs.size:=⟨_,rfl⟩;have I3:Inv X pins σ (upd H2 s2.heap.objs.size (.lst [])) { s2 with heap:=s2.heap.push { cls:=.type "list",data:=.seq ([]:List Value).toArray } }:=I2.lnew (its:=[]) (t':=s2.toks) .nil (Nat.zero_le _)
 have hfD:H2 s2.heap.objs.size=none:=I2.fresh
 obtain⟨W,⟨m0,w0⟩,turn⟩:=q s2.heap.objs.size hfD
 generalize hs3:({ s2 with heap:=s2.heap.push { cls:=.type "list",data:=.seq ([]:List Value).toArray } }:Shared)=s3 at *
 have hs3h:s2.heap.push { cls:=.type "list",data:=.seq ([]:List Value).toArray }=s3.heap:=by rw[← hs3]
 have hs3t:s2.toks=s3.toks:=by rw[← hs3]
 rw[hs3h] at hns₁ hsb₁ ⊢
 generalize hH3:upd H2 s2.heap.objs.size (HO.lst [])=H3 at *
 rw[← hD] at turn hH3 hfD ⊢;have old:∀b o,s3.heap.get? b=some o->h₁.get? b=some o:=fun b o e=>hsb₁.extBut b o (Nat.ne_of_lt (Heap.lt_size e)) (Heap.get?_push_of_some _ e)
 have old2:∀b o,s2.heap.get? b=some o->s3.heap.get? b=some o:=fun b o e=>by rw[← hs3h]; exact Heap.get?_push_of_some _ e
 have fpl:∀b∈fp,b<s3.heap.objs.size:=fun b hb=>by
  obtain⟨o,e,_⟩:=T.obj _ _ st2 b hb;exact Heap.lt_size (old2 b o e)
 have fpD:∀b∈fp,b≠D:=fun b hb z=>by
  obtain⟨o,e,_⟩:=T.obj _ _ st2 b hb;rw[z,hD] at e;exact absurd (Heap.lt_size e) (Nat.lt_irrefl _)
 obtain⟨X',hX'⟩:∃X',X'=X3 X scope cl N' s3 H3 fp:=⟨_,rfl⟩;have okX:X'.Ok:=by
  subst hX';refine⟨I3.ok.mod,ok.kind,I3.ok.glob,I3.ok.blt,Nat.le_refl _,fun x y c h1 h2=>I3.ok.inj x y c (hcl1 x c h1) (hcl1 y c h2),fun x hx=>?_,fun x c h _=>absurd h (by simp[X3]),I3.ok.hd,I3.ok.frames,.inl rfl,
   fun b hb=>⟨Nat.ne_of_lt (fpl b hb),fun x c e=>(f2 b hb).2.2.2.2.1 x c (hcl1 x c e)⟩,fun b o e=>I3.bs b o e,Nat.le_trans I3.ok.bsz I3.sz,fun b o e hb=>?_,fun b hb hf=>?_,I3.stack,I3.stkFree⟩
  ·have hx':((relabel scope X.env).names.lookup x=some .cell)∨((relabel scope X.env).names.lookup x=some .free):=hx
   have q2:=xm0 (env:=X.env) scope.names x
   have q3:(relabel scope X.env).names.lookup x=(scope.names.lookup x).map fun k=>if (k==NameKind.free&&X.env.scope.kind==.function&&X.env.kindOf x==some .cell)=true then NameKind.cell else k:=q2
   cases e:scope.names.lookup x with
   | none =>
    rw[q3,e] at hx';rcases hx' with z|z<;>cases z
   | some k =>
    have hk:k=.free:=by
     rw[q3,e] at hx';have nc:=ok.nocell (x,k) (PySem.mem_of_lookup e);cases k<;>first
      | rfl
      | exact absurd rfl nc
      | (rcases hx' with z|z<;>simp at z)
    subst hk;exact hcl2 (x,.free) (PySem.mem_of_lookup e) rfl
  ·rcases (f2 b hb).2.2.2.1 with z|z
   ·exact I3.ok.noex b o e z
   ·exact absurd (Nat.lt_of_lt_of_le (Heap.lt_size (I3.ok.bs b o e).1) z) (Nat.lt_irrefl _)
  ·rcases List.mem_cons.mp (I3.stkSub b hf) with z|z
   ·exact(f2 b hb).2.1 z
   ·exact(f2 b hb).2.2.1 z
 have I4:Inv X' [] (N8 n caps σ) H3 { s3 with heap:=h₁,toks:=s2.toks+([]:List (Str×Value)).length }:=by
  refine⟨okX,?_,?_,?_,?_,fun x c e=>?_,?_,fun x c e=>?_,fun p hp=>?_,(by subst hX'; exact I3.hok.kept old),?_⟩
  ·subst hX'; rfl
  ·exact I3.bare
  ·subst hX'; exact Un.kept old
  ·subst hX'
   refine⟨_,hns₁,fun i x v e1 e2 e3=>?_⟩
   have hi:n<=i:=by
    by_cases hi:i<n
    ·unfold N8 at e2
     rw[List.getElem?_append_left (by simpa using hi),List.getElem?_replicate,if_pos hi] at e2
     cases e2
    ·omega
   obtain⟨k,rfl⟩:∃k,i=n+k:=⟨i - n,by omega⟩
   have hk:k<caps.length:=by
    have:=(List.getElem?_eq_some_iff.mp e1).1
    have e5:(X3 X scope cl N' s3 H3 fp).N.length=n+caps.length:=ok.len
    omega
   obtain⟨c1,c2⟩:=ok.cap k (List.mem_range.mpr hk);have e1':N'[n+k]?=some x:=e1;unfold N8 at e2;rw[List.getElem?_append_right (by simp),List.length_replicate,Nat.add_sub_cancel_left,List.getElem?_map] at e2
   obtain⟨j,hj⟩:∃j,caps[k]?=some j:=⟨caps[k],by simp[hk]⟩
   rw[hj] at e2 c1;have hj2:X.N[j]?=some x:=by rw[← e1',c1]; rfl
   have e2':(σ[j]?).join=some v:=Option.some.inj e2
   have e2'':σ[j]?=some (some v):=by
    cases q:σ[j]? with
    | none=>rw[q] at e2'; cases e2'
    | some o=>rw[q] at e2'; rw[show o=some v from e2']
   rw[e1'] at c2;have hfree:scope.names.lookup x=some .free:=by simpa using c2
   have hvis:=ok.free (x,.free) (PySem.mem_of_lookup hfree) rfl
   obtain⟨m,hn,hl⟩:=I3.loc;obtain⟨u,ru,l⟩:=hl j x v hj2 e2'' (by
    rcases hvis with z|z
    ·exact .inr (.inl (by rw[hsc]; exact z))
    ·exact .inr (.inr (by rw[hsc]; exact z)))
   refine⟨u,ru,.inr ⟨?_,?_⟩⟩
   ·have q3:(relabel scope X.env).names.lookup x=(scope.names.lookup x).map fun k=>if (k==NameKind.free&&X.env.scope.kind==.function&&X.env.kindOf x==some .cell)=true then NameKind.cell else k:=xm0 scope.names x
    rw[hfree] at q3;show (relabel scope X.env).names.lookup x=_∨(relabel scope X.env).names.lookup x=_;rw[q3]
    by_cases hcc:(NameKind.free==NameKind.free&&X.env.scope.kind==.function&&X.env.kindOf x==some .cell)=true
    ·left; simp only[Option.map_some,if_pos hcc]
    ·right; simp only[Option.map_some,if_neg hcc]
   ·obtain⟨c',hc'⟩:=hcl2 (x,.free) (PySem.mem_of_lookup hfree) rfl
    rcases l with⟨hkk,_⟩|⟨_,c,hc2,hcell⟩
    ·have hkk':X.env.scope.names.lookup x=some .local:=hkk
     rw[hsc] at hkk';rcases hvis with z|z<;>(rw[hkk'] at z; cases z)
    ·have:=hcl1 x c' hc'
     rw[hc2] at this;cases this;obtain⟨o,ho,hd⟩:=hcell;exact⟨_,hc',o,old _ o ho,hd⟩
  ·have e':cl.lookup x=some c:=by subst hX'; exact e
   obtain⟨v,o,ho,hd⟩:=I3.cell x c (hcl1 x c e');exact⟨v,o,old _ o ho,hd⟩
  ·subst hX'; exact I3.hok.fresh (Nat.le_refl _)
  ·have e':cl.lookup x=some c:=by subst hX'; exact e
   exact I3.freeC x c (hcl1 x c e')
  ·subst hX'; exact absurd hp (by simp[X3])
  ·subst hX'
   show _=N'.length
   rw[fy0,ok.len]
 have hX'c:X'.calm=true:=by subst hX'; exact hc
 have hfpX:∀{H':Hp},(∀b∈fp,H' b=none)->∀b∈fp,vl0 X' [] H' b:=fun {H'} hn b hb=>by
  subst hX';refine⟨hn b hb,Nat.ne_of_lt (fpl b hb),fun hf=>?_,.inl hb,fun x c e=>(f2 b hb).2.2.2.2.1 x c (hcl1 x c e),fun p hp=>absurd hp (by simp[X3])⟩
  rcases List.mem_cons.mp (I3.stkSub b hf) with z|z
  ·exact(f2 b hb).2.1 z
  ·exact(f2 b hb).2.2.1 z
 have fr3:∀b∈fp,H3 b=none:=fun b hb=>by rw[← hH3,Y5 (fpD b hb)]; exact(f2 b hb).1
 have st4:tn 0 h₁:=T.keep _ _ _ st2 fun b hb o e=>old b o (old2 b o e)
 have loop:∀s4:Shared,s4={ s3 with heap:=h₁,toks:=s2.toks+([]:List (Str×Value)).length } ->
   codeAny (model X.prog X.w) X.A (.compLoop (.ListComp elt [⟨tg,iter,ifs,0⟩] scope pos) 0 (.ref it) (.ref D) X'.env) (RR (.ref D) s3.heap.objs.size) s4:=by
  rintro s4 rfl
  refine l60 (fun k s'=>∃i ys H',Inv X' [] (N8 n caps σ) H' s'/\tn i s'.heap/\(∀b∈fp,H' b=none)/\W i k ys H') ?_ m0 ⟨0,[],H3,I4,st4,fr3,w0⟩
  rintro k s5 ⟨i,ys,H5,I5,st5,fr5,w5⟩
  have eP:X'.prog=X.prog:=by subst hX'; rfl
  have ew:X'.w=X.w:=by subst hX'; rfl
  have eK:X'.K=X.K:=by subst hX'; rfl
  have eA:X'.A=X.A:=by subst hX'; rfl
  rcases turn i k ys H5 w5 with⟨stop,qe⟩|⟨go,step⟩
  ·have T':=T.done X' eP ew eK hX'c i [] s5 (N8 n caps σ) H5 (fun _ _=>False) I5 (hfpX fr5) st5 stop
   rw[eA] at T';refine thn T' fun r s6 ⟨hr,I6⟩=>?_
   subst hr;have un6:Un (frs X.stack) fp H3 H5 s3.heap s6.heap:=by have:=I6.base; subst hX'; exact this
   have hos:s6.os=s3.os:=by have:=I6.os; subst hX'; exact this
   have hok6:HOk X.prog X.w H5 s6.heap:=by have:=I6.hok; subst hX'; exact this
   have IX:Inv X pins σ H5 s6:=I3.call' hos un6 hok6 I6.bare fun b hb=>⟨(f2 b hb).2.2.2.1,(f2 b hb).2.1,(f2 b hb).2.2.2.2.1,(f2 b hb).2.2.2.2.2⟩
   obtain⟨m6,hn6,_⟩:=I6.loc;have hn6':s6.heap.Ns s3.heap.objs.size m6:=by subst hX'; exact hn6
   refine hend D s3.heap.objs.size H5 s6 m6 IX ⟨by have:=I6.free; subst hX'; exact this,Nat.ne_of_gt I3.lt,I3.sz,fun x c e z=>?_,fun p hp z=>?_⟩ hn6' qe
   ·obtain⟨v,qc⟩:=I3.cell x c e
    exact absurd (Nat.lt_of_lt_of_le qc.lt (Nat.le_of_eq z.symm)) (Nat.lt_irrefl _)
   ·exact absurd (Nat.lt_of_lt_of_le (Heap.lt_size (I3.pin p hp).1) (Nat.le_of_eq z.symm)) (Nat.lt_irrefl _)
  ·have T':=T.item X' eP ew eK hX'c i [] s5 (N8 n caps σ) H5 (fun _ _=>False) I5 (hfpX fr5) st5 go
   rw[eA] at T';refine thn T' fun r s6 ⟨u,hr,h6⟩=>?_
   subst hr;refine thn h6 fun _ s7 ⟨x,H7,I7,r7,y7,st7,fr7⟩=>?_
   have I7':=I7.pinned (hfpX fr7) (T.obj _ _ st7)
   have hg':=hg s3 H3 fp
   have ht':=ht s3 H3 fp
   have he':=he s3 H3 fp
   rw[← hX'] at hg' ht' he';have g1:=hg' _ s7 (N8 n caps σ) H7 x u _ I7' r7 (step x H7 y7);rw[eP,ew,eA] at g1;have exe:X'.xe=fun _ _=>False:=by subst hX'; rfl
   rw[exe] at g1;refine thn g1 fun _ s8 ⟨σ8,H8,I8,wk8,q8⟩=>?_
   have t1:=ht' _ s8 σ8 H8 _ I8 q8
   rw[eP,ew,eA,exe] at t1;refine thn t1 fun b s9 ⟨H9,I9,q9⟩=>?_
   have back:∀{σa:St} {Ha:Hp} {sa:Shared} {ysa:List V} {ma:Nat},Inv X' ([]++s30 fp s7.heap) σa Ha sa->σa.length=(N8 n caps σ).length->(∀(j:Nat) v,(N8 n caps σ)[j]?=some (some v)->σa[j]?=some (some v))->W (i+1) ma ysa Ha ->
     ∃i ys H',Inv X' [] (N8 n caps σ) H' sa/\tn i sa.heap/\(∀b∈fp,H' b=none)/\W i ma ys H':=fun {σa Ha sa ysa ma} Ia hl hw wa=>by
    refine⟨i+1,ysa,Ha,(Ia.weak hl.symm hw).unpinned,T.keep _ _ _ st7 fun b hb o e=>(Ia.pin (b,o) (List.mem_append_right _ (List.mem_append_right _ (wp0 hb e)))).1,fun b hb=>?_,wa⟩
    obtain⟨o,e,d⟩:=T.obj _ _ st7 b hb;exact(Ia.pin (b,o) (List.mem_append_right _ (List.mem_append_right _ (wp0 hb e)))).2.1
   cases b with
   | false =>
    rw[if_neg Bool.false_ne_true];rw[if_neg Bool.false_ne_true] at q9;obtain⟨m',hm,w9⟩:=q9;exact⟨m',hm,back I9 wk8.1 wk8.2 w9⟩
   | true =>
    rw[if_pos rfl];rw[if_pos rfl] at q9;have e1:=he' _ s9 σ8 H9 _ I9 q9;rw[eP,ew,eA,exe] at e1;refine thn e1 fun v s10 ⟨y,H10,I10,r10,hD10,hlen,m',hm,w10⟩=>?_
    have a1:=s50 (X:=X') _ s10 σ8 H10 (.ref D) [y] (.ref D) [v] (fun _ H'=>W (i+1) m' (ys++[y]) H') I10 rfl (.cons r10 .nil) ⟨D,ys,y,rfl,rfl,hD10,hlen,w10⟩
    rw[eP,ew,eA,exe] at a1;refine thn a1 fun _ s11 ⟨_,H11,I11,_,w11⟩=>?_
    exact⟨m',hm,back I11 wk8.1 wk8.2 w11⟩
 subst hX';exact codeAny_compStart_list (loop _ (by rw[← hs3])) (T.self X.A 0 _ _ _ st4 (loop _ (by rw[← hs3])))
theorem Z00(hc:X.calm=true)(hsc:X.env.scope=sc)(ok:CompOk sc scope X.N N' n caps)(hi:PI X tg iter wi)
  (hg:∀cl s H ex,PG (X3 X scope cl N' s H ex) tg g) (ht:∀cl s H ex,PF (X3 X scope cl N' s H ex) ifs tt) (he:∀cl s H ex,PE (X3 X scope cl N' s H ex) elt te)
  (hs:∀x,foldedSetIterable iter X.env x=pure x:=by intro _; rfl) :
  PE X (.ListComp elt [⟨tg,iter,ifs,0⟩] scope pos) (ii0 n caps wi g tt te):=by
 intro pins s σ H Q I h;obtain⟨cl,hclos,hcl1,hcl2⟩:=u10 (env:=X.env) (scope:=scope) fun x hx hf=>I.ok.has x.1 (by
  rcases ok.free x hx hf with z|z
  ·exact .inl (by show X.env.scope.names.lookup x.1=_; rw[hsc]; exact z)
  ·exact .inr (by show X.env.scope.names.lookup x.1=_; rw[hsc]; exact z))
 rw[eval_ListComp];refine wpAny_comprehension_free (use:=none) rfl hs hclos ok.kind ok.loc (thn (hi pins s σ H _ I h) fun v s1 h1=>thn h1 fun itv s2 h2=>?_)
 obtain⟨it,fp,tn,J,H2,rfl,I2,T,st2,f2,q2⟩:=h2;refine pu0 (Q:=Q) (RR:=fun acc C=>compPost (model X.prog X.w) X.A X.xe none (EP X pins σ Q) acc C) hc hsc ok hcl1 hcl2 (hg cl) (ht cl) (he cl) I2 T st2 f2 q2 ?_
 intro D C H' s' m IX as hn qe;refine⟨m,hn,fun h' sb=>⟨.ref D,H',IX.turned (t':=s'.toks) (fun b o hb e=>(sb.2 b hb).trans e) as.1 as.2.1 (.inr as.2.2.1) as.2.2.2.1 as.2.2.2.2,rfl,qe⟩⟩
theorem jx0{i:Nat}{y:Str}{py spos:Pos}(hN:X.N.Nodup)(hiN:X.N[i]?=some y)(hy:Loc X.env.scope y)(hc:X.calm=true)(hsc:X.env.scope=sc)(ok:CompOk sc scope X.N N' n caps)(hi:PI X tg iter wi)
  (hg:∀cl s H ex,PG (X3 X scope cl N' s H ex) tg g) (ht:∀cl s H ex,PF (X3 X scope cl N' s H ex) ifs tt) (he:∀cl s H ex,PE (X3 X scope cl N' s H ex) elt te)
  (hsw:swapsWith (.ListComp elt [⟨tg,iter,ifs,0⟩] scope pos) (some (.Name y py)) spos.line X.env=pure true:=by rfl)
  (hs:∀x,foldedSetIterable iter X.env x=pure x:=by intro _; rfl)
  (hf:X.fn y=true∨X.env.scope.names.lookup y=some .local:=by first|exact .inl rfl|exact .inr rfl|assumption) :
  PS X (.Assign [.Name y py] (.ListComp elt [⟨tg,iter,ifs,0⟩] scope pos) spos) (fun D σ H=>ii0 n caps wi g tt te σ H fun v H'=>D.nx (σ.set i (some v)) H'):=by
 intro pins s σ H D I h;obtain⟨cl,hclos,hcl1,hcl2⟩:=u10 (env:=X.env) (scope:=scope) fun x hx hf=>I.ok.has x.1 (by
  rcases ok.free x hx hf with z|z
  ·exact .inl (by show X.env.scope.names.lookup x.1=_; rw[hsc]; exact z)
  ·exact .inr (by show X.env.scope.names.lookup x.1=_; rw[hsc]; exact z))
 rw[exec_Assign_Name_used _ _ _ _ hsw];refine wpAny_bind (wpAny_standAt (wpAny_bind ?_))
 show wpAny _ X.A (do let _ ← comprehension (.ListComp elt [⟨tg,iter,ifs,0⟩] scope pos) scope X.env _ (newList []) false (eval iter X.env) (some (assign (.Name y py) X.env))) _ _ s
 refine wpAny_bind (wpAny_mono (wpAny_comprehension_free (use:=some (assign (.Name y py) X.env)) (Q:=fun _ s'=>SP X pins D .next s') rfl hs hclos ok.kind ok.loc
  (thn (hi pins s σ H _ I h) fun v s1 h1=>thn h1 fun itv s2 h2=>?_)) (fun _ s' hq=>wpAny_pure (wpAny_pure hq)) fun _ _ e=>e)
 obtain⟨it,fp,tn,J,H2,rfl,I2,T,st2,f2,q2⟩:=h2;refine pu0 (Q:=fun v H'=>D.nx (σ.set i (some v)) H') (RR:=fun acc C=>compPost (model X.prog X.w) X.A X.xe (some (assign (.Name y py) X.env)) (fun _ s'=>SP X pins D .next s') acc C) hc hsc ok hcl1 hcl2 (hg cl) (ht cl) (he cl) I2 T st2 f2 q2 ?_
 intro Da C H' s' m IX as hn qe;show wpAny _ X.A (assign (.Name y py) X.env (.ref Da)) _ _ _;refine wpAny_assign_Name (pq0 IX hN hiN hy (v:=.ref Da) rfl (fun s'' I'' ⟨a,sb,ha⟩=>?_) hf)
 have hCa:C≠a:=by
  rcases ha with z|z
  ·rw[z]; exact as.2.1
  ·exact Ne.symm (as.2.2.2.1 y a z)
 refine⟨m,hn.sameBut sb hCa,fun h' sb'=>⟨_,H',I''.turned (t':=s''.toks) (fun b o hb e=>(sb'.2 b hb).trans e) as.1 as.2.1 (.inr as.2.2.1) as.2.2.2.1 as.2.2.2.2,qe⟩⟩
end
end L2
namespace DL
open PySem PySem.Spec PyProof.Rows
inductive D where
 | non|bl (b:Bool)|int (i:Int)|str (x:Str)|tup (ds:List D)|lst (ds:List D)|dct (ks:Sum (List (Sum Int Str)) (List (List (Sum Int Str)))) (ds:List D)
 deriving Inhabited
@[simp] def unl:D->D
 | .tup [_,d]=>d
 | d=>d
@[simp] def isL:D->Bool
 | .tup _=>true
 | _=>false
inductive Sl where
 | un|sh (d:D)|ow (d:D)
 | ex (c:Str) (n:Option Int)
abbrev Ds:=List Sl
inductive Res where
 | nx (δ:Ds)|rt (d:D)|bk (δ:Ds)|ct (δ:Ds)|rf (d:D)
abbrev GE:=Ds->Option D
abbrev GB:=Ds->Option Bool
abbrev GA:=Ds->Option (List D)
abbrev GS:=Ds->Option Res
@[simp] def asB:D->Option Bool
 | .bl b=>some b
 | _=>none
@[simp] def asI:D->Option Int
 | .int i=>some i
 | _=>none
@[simp] def gv(i:Nat):GE:=fun δ=>match δ[i]? with
 | some (.sh d)=>some d
 | _=>none
@[simp] def gc(d:D):GE:=fun _=>some d
@[simp] def o2(ga gb:GE)(f:D->D->Option D):GE:=fun δ=>(ga δ).bind fun x=>(gb δ).bind fun y=>f x y
@[simp] def ob(g:GE):GB:=fun δ=>(g δ).bind asB
@[simp] def Q7(g:GB):GB:=fun δ=>(g δ).map (!·)
@[simp] def zv0(gt gu:GB):GB:=fun δ=>(gt δ).bind fun t=>if t=true then some true else gu δ
@[simp] def J1(ga gb:GE):GE:=fun δ=>(ob ga δ).bind fun t=>if t=true then gb δ else some (.bl false)
@[simp] def ifG(gt:GB)(ga gb:GE):GE:=fun δ=>(gt δ).bind fun t=>if t=true then ga δ else gb δ
@[simp] def v7:GA:=fun _=>some []
@[simp] def z9(g:GE)(gA:GA):GA:=fun δ=>(g δ).bind fun d=>(gA δ).map fun ds=>d::ds
@[simp] def m9(gA:GA):GE:=fun δ=>(gA δ).bind fun ds=>if ds.length<=sizeLine then some (.tup ds) else none
@[simp] def X5(gA:GA):GE:=fun δ=>(gA δ).bind fun ds=>if ds.length<=sizeLine then some (.lst ds) else none
@[simp] def oA(gA:GA)(f:List D->Option D):GE:=fun δ=>(gA δ).bind f
@[simp] def Q4(f:D->Bool)(g:GE):GE:=fun δ=>(g δ).map fun d=>.bl (f d)
@[simp] def yg0(d:D):Option D:=match d with
 | .int i=>some (.int (-i))
 | _=>none
@[simp] def unG(f:D->Option D)(g:GE):GE:=fun δ=>(g δ).bind f
@[simp] def v8(G1 G2:GS):GS:=fun δ=>match G1 δ with
 | some (.nx δ')=>G2 δ'
 | r=>r
@[simp] def u6:GS:=fun δ=>some (.nx δ)
@[simp] def o9(g:GE):GS:=fun δ=>(g δ).map .rt
@[simp] def gN(i:Nat):D->Ds->Option Ds:=fun d δ=>some (δ.set i (.sh d))
@[simp] def n8(f:D->Ds->Option Ds)(g:GE):GS:=fun δ=>(g δ).bind fun d=>(f d δ).map .nx
@[simp] def ifD(gt:GB)(Ga Gb:GS):GS:=fun δ=>(gt δ).bind fun t=>if t=true then Ga δ else Gb δ
def G8(f:D->Ds->Option Ds)(G:GS):List D->Ds->Option Res
 | [],δ=>some (.nx δ)
 | d::ds,δ=>match (f d δ).bind G with
  | some (.nx δ')=>G8 f G ds δ'
  | some (.ct δ')=>G8 f G ds δ'
  | some (.bk δ')=>some (.nx δ')
  | r=>r
@[simp] def M4(gi:GA)(f:D->Ds->Option Ds)(G:GS):GS:=fun δ=>(gi δ).bind fun items=>G8 f G items δ
@[simp] def qg0:D->Option (List D)
 | .lst ds=>some ds
 | _=>none
@[simp] def be0:D->Option (List D)
 | .tup ds=>some ds
 | _=>none
@[simp] def R0(g:GE):GA:=fun δ=>(g δ).bind qg0
@[simp] def tupI(g:GE):GA:=fun δ=>(g δ).bind be0
def U7(lo hi:Int):List D:=(List.range (hi - lo).toNat).map fun k=>.int (lo+(k:Nat))
@[simp] def i20(ds:List D):Option (List D):=match ds with
 | [.int j]=>if -(2 ^ 62)<=j/\j<2 ^ 62 then some (U7 0 j) else none
 | _=>none
@[simp] def cv0(ds:List D):Option (List D):=match ds with
 | [.int i,.int j]=>if (-(2 ^ 62)<=i/\i<2 ^ 62)/\-(2 ^ 62)<=j/\j<2 ^ 62 then some (U7 i j) else none
 | _=>none
@[simp] def Q8(gA:GA):GA:=fun δ=>(gA δ).bind i20
@[simp] def nk0(gA:GA):GA:=fun δ=>(gA δ).bind cv0
@[simp] def noT:GB:=fun _=>some true
@[simp] def nr0:Option Sl->Sl
 | some (.sh d)=>.sh d
 | _=>.un
@[simp] def yo0(n:Nat)(caps:List Nat)(δ:Ds):Ds:=List.replicate n .un++caps.map fun j=>nr0 δ[j]?
def W6(f:D->Ds->Option Ds)(gt:GB)(ge:GE)(δ:Ds):List D->Option (List D)
 | []=>some []
 | d::ds=>match f d δ with
  | none=>none
  | some δ'=>match gt δ' with
   | none=>none
   | some false=>W6 f gt ge δ ds
   | some true=>match ge δ' with
    | none=>none
    | some y=>(W6 f gt ge δ ds).map fun r=>y::r
@[simp] def Z0(n:Nat)(caps:List Nat)(gi:GA)(f:D->Ds->Option Ds)(gt:GB)(ge:GE):GE :=
 fun δ=>(gi δ).bind fun items=>if items.length<=sizeLine then (W6 f gt ge (yo0 n caps δ) items).map .lst else none
@[simp] def Y9(N:List Str)(ds:List D):Ds:=ds.map .sh++List.replicate (N.length - ds.length) .un
@[simp] def isInt:D->Bool
 | .int _=>true|.bl _=>true|_=>false
@[simp] def isBool:D->Bool
 | .bl _=>true|_=>false
@[simp] def isTup:D->Bool
 | .tup _=>true|_=>false
@[simp] def b00:D->Bool
 | .lst _=>true|_=>false
@[simp] def ii(f:Int->Int->Option D):D->D->Option D
 | .int i,.int j=>f i j
 | _,_=>none
@[simp] def m00:D->D->Option D:=ii fun i j=>some (.int (i - j))
@[simp] def b7:D->D->Option D:=ii fun i j=>if 0<j/\j<1073741824 then some (.int (i/j)) else none
@[simp] def j5:D->D->Option D:=ii fun i j=>if 0<j then some (.int (i%j)) else none
@[simp] def rm0:D->D->Option D:=ii fun i j=>if 0<=j/\j<=1000000/\i.natAbs<2 ^ 64 then some (.int (i ^ j.toNat)) else none
@[simp] def ltD:D->D->Option D:=ii fun i j=>some (.bl (decide (i<j)))
@[simp] def leD:D->D->Option D:=ii fun i j=>some (.bl (decide (i<=j)))
@[simp] def gtD:D->D->Option D:=ii fun i j=>some (.bl (decide (j<i)))
@[simp] def eqS:D->D->Option Bool
 | .non,.non=>some true
 | .non,.int _=>some false|.int _,.non=>some false|.non,.bl _=>some false|.bl _,.non=>some false|.non,.str _=>some false|.str _,.non=>some false
 | .int i,.int j=>some (decide (i=j))
 | .bl i,.bl j=>some (decide (i=j))
 | .str i,.str j=>some (decide (i=j))
 | .int _,.str _=>some false|.str _,.int _=>some false|.bl _,.str _=>some false|.str _,.bl _=>some false
 | _,_=>none
@[simp] def eqD(x y:D):Option D:=(eqS x y).map .bl
@[simp] def neD(x y:D):Option D:=(eqS x y).map fun b=>.bl (!b)
@[simp] def V50:D->Bool
 | .non=>true|_=>false
@[simp] def ey0(x y:D):Option D:=match y with
 | .non=>some (.bl (V50 x))
 | _=>none
def ixN(n:Nat)(i:Int):Option Nat:=if 0<=i then (if i<n then some i.toNat else none) else if -(n:Int)<=i then some (i+n).toNat else none
def atI{α:Type}(xs:List α)(i:Int):Option α:=(ixN xs.length i).bind fun j=>xs[j]?
@[simp] def ixD:D->D->Option D
 | .lst xs,.int i=>atI xs i
 | .tup xs,.int i=>atI xs i
 | .str z,.int i=>if z.length<=sizeLine then (atI z.cps.toList i).map fun c=>.str ⟨#[c]⟩ else none
 | _,_=>none
def sIx(n d:Nat):Option Int->Nat
 | none=>d
 | some v=>if v<0 then (v+(n:Int)).toNat else min v.toNat n
def cutD(xs:List D)(lo hi:Option Int):List D:=(xs.drop (sIx xs.length 0 lo)).take (sIx xs.length xs.length hi - sIx xs.length 0 lo)
abbrev GO:=Ds->Option (Option Int)
@[simp] def S7:GO:=fun _=>some none
@[simp] def someO(g:GE):GO:=fun δ=>(g δ).bind fun d=>(asI d).map some
@[simp] def j8:List D->Option D
 | [.str z]=>if z.length<=sizeLine then some (.int z.length) else none
 | [.lst xs]=>some (.int xs.length)
 | [.tup xs]=>some (.int xs.length)
 | _=>none
def bools:List D->Option (List Bool)
 | []=>some []
 | .bl b::ds=>(bools ds).map fun r=>b::r
 | _=>none
@[simp] def ih0:List D->Option D
 | [.lst ds]=>(bools ds).map fun bs=>.bl (bs.all id)
 | _=>none
def s20:List D->Option (List Str)
 | []=>some []
 | .str b::ds=>(s20 ds).map fun r=>b::r
 | _=>none
@[simp] def nd0(d:D)(ds:List D):Option D:=match d,ds with
 | .str sep,[.lst xs]=>(s20 xs).bind fun ys=>if (ys.map (·.length)).sum+ys.length*sep.length<=16777216 then some (.str (Txt.join sep ys)) else none
 | _,_=>none
@[simp] def te0(g:GE)(gA:GA):GE:=fun δ=>(g δ).bind fun d=>(gA δ).bind fun ds=>nd0 d ds
@[simp] def W8:List D->Option D
 | [.lst ds]=>some (.tup ds)
 | [.tup ds]=>some (.tup ds)
 | _=>none
theorem tw0{f:D->Ds->Option Ds}{gt:GB}{ge:GE}{δ:Ds}(p:D->Bool)(h:D->D):∀{items:List D},(∀d∈items,∃δ',f d δ=some δ'/\gt δ'=some (p d)/\(p d=true->ge δ'=some (h d))) ->
  W6 f gt ge δ items=some ((items.filter p).map h)
 | [],_=>rfl
 | d::ds,H=>by
  obtain⟨δ',e1,e2,e3⟩:=H d List.mem_cons_self;have ih:=tw0 p h fun d hd=>H d (List.mem_cons_of_mem _ hd)
  unfold W6;rw[e1]
  dsimp only
  rw[e2]
  cases hp:p d with
  | false =>
   dsimp only
   rw[List.filter_cons_of_neg (by simp[hp])]
   exact ih
  | true =>
   dsimp only
   rw[e3 hp,ih,List.filter_cons_of_pos hp];rfl
theorem S5{f:D->Ds->Option Ds}{gt:GB}{ge:GE}{δ:Ds}(h:D->D){items:List D}(H:∀d∈items,∃δ',f d δ=some δ'/\gt δ'=some true/\ge δ'=some (h d)):W6 f gt ge δ items=some (items.map h):=by
 have:=tw0 (f:=f) (gt:=gt) (ge:=ge) (δ:=δ) (fun _=>true) h (items:=items) fun d hd=>by
  obtain⟨δ',a,b,c⟩:=H d hd;exact⟨δ',a,b,fun _=>c⟩
 rw[List.filter_eq_self.mpr (by simp)] at this
 exact this
theorem strs_map{α:Type}(h:α->Str):∀l:List α,s20 (l.map fun a=>.str (h a))=some (l.map h)
 | []=>rfl
 | a::l=>by
  show (s20 (l.map fun a=>.str (h a))).map (fun r=>h a::r)=_
  rw[strs_map h l];rfl
theorem z70{f:D->Ds->Option Ds}{G:GS}(P:Nat->Ds->Prop):∀(items:List D) (i:Nat) (δ:Ds),(∀j d δ,items[j]?=some d->P (i+j) δ->∃δ1 δ2,f d δ=some δ1/\G δ1=some (.nx δ2)/\P (i+j+1) δ2)->P i δ ->
  ∃δ',G8 f G items δ=some (.nx δ')/\P (i+items.length) δ'
 | [],i,δ,_,h=>⟨δ,rfl,h⟩
 | d::ds,i,δ,H,h=>by
  obtain⟨δ1,δ2,e1,e2,h2⟩:=H 0 d δ rfl h;obtain⟨δ',e3,h3⟩:=z70 P ds (i+1) δ2 (fun j d δ hj hp=>by
   have q:i+(j+1)=i+1+j:=by omega
   obtain⟨a,b,c,d',e⟩:=H (j+1) d δ (by simpa using hj) (by rw[q]; exact hp)
   exact⟨a,b,c,d',by rw[q] at e; exact e⟩) h2
  have q:i+(d::ds).length=i+1+ds.length:=by rw[List.length_cons]; omega
  refine⟨δ',?_,by rw[q]; exact h3⟩
  unfold G8;rw[e1];simp only[Option.bind_some,e2];exact e3
theorem Xl0{G1 G2:GS}{δ δ':Ds}(h:G1 δ=some (.nx δ')):v8 G1 G2 δ=G2 δ':=by unfold v8; rw[h]
theorem m8{G1 G2:GS}{δ:Ds}{d:D}(h:G1 δ=some (.rt d)):v8 G1 G2 δ=some (.rt d):=by unfold v8; rw[h]
theorem Z9{g:GE}{δ:Ds}{d:D}(h:g δ=some d):o9 g δ=some (.rt d):=by unfold o9; rw[h]; rfl
theorem Z3{g:GE}{i:Nat}{δ:Ds}{d:D}(h:g δ=some d):n8 (gN i) g δ=some (.nx (δ.set i (.sh d))):=by unfold n8; rw[h]; rfl
theorem S8{g:GB}{Ga Gb:GS}{δ:Ds}(h:g δ=some true):ifD g Ga Gb δ=Ga δ:=by unfold ifD; rw[h]; rfl
theorem Z7{g:GB}{Ga Gb:GS}{δ:Ds}(h:g δ=some false):ifD g Ga Gb δ=Gb δ:=by unfold ifD; rw[h]; rfl
theorem W7{n:Nat}{caps:List Nat}{gi:GA}{f:D->Ds->Option Ds}{gt:GB}{ge:GE}{δ:Ds}{items out:List D}(h1:gi δ=some items)(h2:items.length<=sizeLine)(h3:W6 f gt ge (yo0 n caps δ) items=some out):Z0 n caps gi f gt ge δ=some (.lst out):=by
 unfold Z0;rw[h1];show (if items.length<=sizeLine then (W6 f gt ge (yo0 n caps δ) items).map D.lst else none)=_;rw[if_pos h2,h3];rfl
theorem J6{gi:GA}{f:D->Ds->Option Ds}{G:GS}{δ:Ds}{items:List D}{r:Option Res}(h1:gi δ=some items)(h2:G8 f G items δ=r):M4 gi f G δ=r:=by
 unfold M4;rw[h1];exact h2
theorem cons_of{g:GE}{gA:GA}{δ:Ds}{d:D}{ds:List D}(h1:g δ=some d)(h2:gA δ=some ds):z9 g gA δ=some (d::ds):=by unfold z9; rw[h1,h2]; rfl
theorem o7{gA:GA}{δ:Ds}{ds:List D}{f:List D->Option D}(h:gA δ=some ds):oA gA f δ=f ds:=by unfold oA; rw[h]; rfl
theorem o5{ga gb:GE}{δ:Ds}{x y:D}{f:D->D->Option D}(h1:ga δ=some x)(h2:gb δ=some y):o2 ga gb f δ=f x y:=by unfold o2; rw[h1,h2]; rfl
theorem Zh0{g:GE}{gA:GA}{δ:Ds}{x:D}{ds:List D}(h1:g δ=some x)(h2:gA δ=some ds):te0 g gA δ=nd0 x ds:=by unfold te0; rw[h1,h2]; rfl
theorem zz0{α:Type}{xs:List α}{i:Int}(h0:0<=i)(h1:i<xs.length)(d:α):atI xs i=some (xs.getD i.toNat d):=by
 unfold atI ixN;rw[if_pos h0,if_pos h1];show xs[i.toNat]?=_;have:i.toNat<xs.length:=by omega
 simp[List.getD_eq_getElem?_getD,this]
end DL
namespace DL
open PySem PySem.Spec PyProof.Rows L2
abbrev BS:=Addr->Prop
abbrev St:=L2.St
abbrev noH:Hp:=fun _=>none
def SqT'(K:W.Frag)(H:Hp)(B:BS)(a:Addr)(xs:List V):Prop:=¬B a/\H a=some (.tup xs)
def SqL'(K:W.Frag)(H:Hp)(B:BS)(a:Addr)(xs:List V):Prop:=(¬B a/\Rd H a (.lst xs))∨SqL K noH a xs
section
variable{K:W.Frag}{H H':Hp}{B B':BS}{a:Addr}{xs:List V}
theorem Va0{a:Addr}{u:HO}(h:Rd noH a u):False:=by
 rcases h with h|⟨o,h⟩<;>cases h
theorem SqT'.to(h:SqT' K H B a xs):SqT K H a xs:=.inl (.inl h.2)
theorem SqL'.to(h:SqL' K H B a xs):SqL K H a xs:=by
 rcases h with h|h|h
 ·exact .inl h.2
 ·exact(Va0 h).elim
 ·exact .inr h
def Gr(H H':Hp)(B B':BS):Prop:=∀b o,¬B b->H b=some o->¬B' b/\H' b=some o
theorem SqT'.mono(g:Gr H H' B B')(h:SqT' K H B a xs):SqT' K H' B' a xs:=g _ _ h.1 h.2
theorem SqL'.mono(g:Gr H H' B B')(h:SqL' K H B a xs):SqL' K H' B' a xs:=by
 rcases h with⟨n,h|⟨o,h⟩⟩|h
 ·exact .inl ⟨(g _ _ n h).1,.inl (g _ _ n h).2⟩
 ·exact .inl ⟨(g _ _ n h).1,.inr ⟨o,(g _ _ n h).2⟩⟩
 ·exact .inr h
theorem Gr.same(s:Same H H'):Gr H H' B B:=fun b o n h=>⟨n,s b o h⟩
theorem Gr.less(h:∀a,B' a->B a):Gr H H B B':=fun b o n e=>⟨fun z=>n (h b z),e⟩
end
abbrev KS:=Sum (List Key) (List (List Key))
def dOb:KS->List V->HO
 | .inl ks,xs=>.dK (ks.zip xs)
 | .inr ks,xs=>.dT (ks.zip xs)
def dLn:KS->Nat
 | .inl ks=>ks.length
 | .inr ks=>ks.length
mutual
def Rp(K:W.Frag)(H:Hp)(B:BS):D->V->Prop
 | .non,v=>v=.non
 | .bl b,v=>v=.bl b
 | .int i,v=>v=.int i
 | .str x,v=>v=.str x
 | .tup ds,v=>∃a xs,v=.ref a/\SqT' K H B a xs/\Rps K H B ds xs
 | .lst ds,v=>∃a xs,v=.ref a/\SqL' K H B a xs/\Rps K H B ds xs
 | .dct ks ds,v=>∃a xs,v=.ref a/\¬B a/\H a=some (dOb ks xs)/\dLn ks=xs.length/\Rps K H B ds xs
def Rps(K:W.Frag)(H:Hp)(B:BS):List D->List V->Prop
 | [],xs=>xs=[]
 | d::ds,xs=>∃x r,xs=x::r/\Rp K H B d x/\Rps K H B ds r
end
mutual
theorem Rp.mono{K:W.Frag}{H H':Hp}{B B':BS}(g:Gr H H' B B'):∀{d:D} {v:V},Rp K H B d v->Rp K H' B' d v
 | .non,_,h=>by unfold Rp at h ⊢; exact h
 | .bl _,_,h=>by unfold Rp at h ⊢; exact h
 | .int _,_,h=>by unfold Rp at h ⊢; exact h
 | .str _,_,h=>by unfold Rp at h ⊢; exact h
 | .tup ds,_,h=>by
  unfold Rp at h ⊢;obtain⟨a,xs,e,q,r⟩:=h;exact⟨a,xs,e,q.mono g,Rps.mono g r⟩
 | .lst ds,_,h=>by
  unfold Rp at h ⊢;obtain⟨a,xs,e,q,r⟩:=h;exact⟨a,xs,e,q.mono g,Rps.mono g r⟩
 | .dct ks ds,_,h=>by
  unfold Rp at h ⊢;obtain⟨a,xs,e,n,q,l,r⟩:=h;exact⟨a,xs,e,(g _ _ n q).1,(g _ _ n q).2,l,Rps.mono g r⟩
theorem Rps.mono{K:W.Frag}{H H':Hp}{B B':BS}(g:Gr H H' B B'):∀{ds:List D} {xs:List V},Rps K H B ds xs->Rps K H' B' ds xs
 | [],_,h=>by unfold Rps at h ⊢; exact h
 | d::ds,_,h=>by
  unfold Rps at h ⊢;obtain⟨x,r,e,h1,h2⟩:=h;exact⟨x,r,e,Rp.mono g h1,Rps.mono g h2⟩
end
section
variable{K:W.Frag}{H H':Hp}{B B':BS}{v:V}
theorem W0:Rp K H B .non v=(v=.non):=by unfold Rp; rfl
theorem Y4{b:Bool}:Rp K H B (.bl b) v=(v=.bl b):=by unfold Rp; rfl
theorem n6{i:Int}:Rp K H B (.int i) v=(v=.int i):=by unfold Rp; rfl
theorem Y0{x:Str}:Rp K H B (.str x) v=(v=.str x):=by unfold Rp; rfl
theorem X4{ds:List D}:Rp K H B (.tup ds) v=∃a xs,v=.ref a/\SqT' K H B a xs/\Rps K H B ds xs:=by conv=>lhs; unfold Rp
theorem Z5{ds:List D}:Rp K H B (.lst ds) v=∃a xs,v=.ref a/\SqL' K H B a xs/\Rps K H B ds xs:=by conv=>lhs; unfold Rp
theorem wv0{ks:KS}{ds:List D}:Rp K H B (.dct ks ds) v=∃a xs,v=.ref a/\¬B a/\H a=some (dOb ks xs)/\dLn ks=xs.length/\Rps K H B ds xs:=by conv=>lhs; unfold Rp
theorem sb0{ks:List Key}{ds:List D}:Rp K H B (.dct (.inl ks) ds) v=∃a xs,v=.ref a/\¬B a/\H a=some (.dK (ks.zip xs))/\ks.length=xs.length/\Rps K H B ds xs:=wv0
theorem jq0{ks:List (List Key)}{ds:List D}:Rp K H B (.dct (.inr ks) ds) v=∃a xs,v=.ref a/\¬B a/\H a=some (.dT (ks.zip xs))/\ks.length=xs.length/\Rps K H B ds xs:=wv0
theorem o8{xs:List V}:Rps K H B [] xs=(xs=[]):=by unfold Rps; rfl
theorem o4{d:D}{ds:List D}{xs:List V}:Rps K H B (d::ds) xs=∃x r,xs=x::r/\Rp K H B d x/\Rps K H B ds r:=by conv=>lhs; unfold Rps
theorem Rps.length:∀{ds:List D} {xs:List V},Rps K H B ds xs->xs.length=ds.length
 | [],_,h=>by rw[o8] at h; subst h; rfl
 | d::ds,_,h=>by
  rw[o4] at h;obtain⟨x,r,rfl,_,h2⟩:=h
  simp[Rps.length h2]
theorem Rps.get:∀{ds:List D} {xs:List V} {i:Nat} {d:D},Rps K H B ds xs->ds[i]?=some d->∃x,xs[i]?=some x/\Rp K H B d x
 | [],_,_,_,_,e=>by simp at e
 | d::ds,_,0,d',h,e=>by
  rw[o4] at h;obtain⟨x,r,rfl,h1,_⟩:=h
  simp at e; subst e
  exact⟨x,rfl,h1⟩
 | d::ds,_,i+1,d',h,e=>by
  rw[o4] at h;obtain⟨x,r,rfl,_,h2⟩:=h;obtain⟨y,e1,e2⟩:=Rps.get (i:=i) h2 (by simpa using e)
  exact⟨y,by simpa using e1,e2⟩
theorem Rps.snoc:∀{ds:List D} {xs:List V} {d:D} {x:V},Rps K H B ds xs->Rp K H B d x->Rps K H B (ds++[d]) (xs++[x])
 | [],_,_,_,h,r=>by
  rw[o8] at h; subst h;rw[List.nil_append,List.nil_append,o4];exact⟨_,[],rfl,r,by rw[o8]⟩
 | d::ds,_,_,_,h,r=>by
  rw[o4] at h;obtain⟨y,t,rfl,h1,h2⟩:=h;rw[List.cons_append,List.cons_append,o4];exact⟨y,_,rfl,h1,Rps.snoc h2 r⟩
theorem Rps.append:∀{ds es:List D} {xs ys:List V},Rps K H B ds xs->Rps K H B es ys->Rps K H B (ds++es) (xs++ys)
 | [],_,_,_,h,r=>by rw[o8] at h; subst h; exact r
 | d::ds,_,_,_,h,r=>by
  rw[o4] at h;obtain⟨y,t,rfl,h1,h2⟩:=h;rw[List.cons_append,List.cons_append,o4];exact⟨y,_,rfl,h1,Rps.append h2 r⟩
theorem Rps.drop:∀{ds:List D} {xs:List V} (n:Nat),Rps K H B ds xs->Rps K H B (ds.drop n) (xs.drop n)
 | _,_,0,h=>h
 | [],_,n+1,h=>by rw[o8] at h; subst h; simpa [o8]
 | d::ds,_,n+1,h=>by
  rw[o4] at h;obtain⟨y,t,rfl,h1,h2⟩:=h
  simpa using Rps.drop n h2
theorem Rps.take:∀{ds:List D} {xs:List V} (n:Nat),Rps K H B ds xs->Rps K H B (ds.take n) (xs.take n)
 | _,_,0,h=>by simp[o8]
 | [],_,n+1,h=>by rw[o8] at h; subst h; simp[o8]
 | d::ds,_,n+1,h=>by
  rw[o4] at h;obtain⟨y,t,rfl,h1,h2⟩:=h;rw[List.take_succ_cons,List.take_succ_cons,o4];exact⟨y,_,rfl,h1,Rps.take n h2⟩
theorem Rps.same{ds:List D}{xs:List V}(s:Same H H')(h:Rps K H B ds xs):Rps K H' B ds xs:=Rps.mono (Gr.same s) h
theorem Rp.same{d:D}{v:V}(s:Same H H')(h:Rp K H B d v):Rp K H' B d v:=Rp.mono (Gr.same s) h
end
def RpO(K:W.Frag)(H:Hp)(B:BS)(d:D)(a:Addr):Prop:=match d with
 | .lst ds=>∃xs,H a=some (.lst xs)/\Rps K H B ds xs
 | .dct ks ds=>∃xs,H a=some (dOb ks xs)/\dLn ks=xs.length/\Rps K H B ds xs
 | _=>False
theorem RpO.same{K:W.Frag}{H H':Hp}{B:BS}{d:D}{a:Addr}(s:Same H H')(h:RpO K H B d a):RpO K H' B d a:=by
 cases d<;>try exact h.elim
 ·obtain⟨xs,e,r⟩:=h; exact⟨xs,s _ _ e,r.same s⟩
 ·obtain⟨xs,e,l,r⟩:=h; exact⟨xs,s _ _ e,l,r.same s⟩
theorem RpO.rp{K:W.Frag}{H:Hp}{B B':BS}{d:D}{a:Addr}(l:∀a,B' a->B a)(n:¬B' a)(h:RpO K H B d a):Rp K H B' d (.ref a):=by
 cases d<;>try exact h.elim
 ·obtain⟨xs,e,r⟩:=h
  rw[Z5];exact⟨a,xs,rfl,.inl ⟨n,.inl e⟩,r.mono (Gr.less l)⟩
 ·obtain⟨xs,e,q,r⟩:=h
  rw[wv0];exact⟨a,xs,rfl,n,e,q,r.mono (Gr.less l)⟩
theorem RpO.live{K:W.Frag}{H:Hp}{B:BS}{d:D}{a:Addr}(h:RpO K H B d a):H a≠none:=by
 cases d<;>try exact h.elim
 ·obtain⟨xs,e,r⟩:=h; rw[e]; exact fun z=>nomatch z
 ·obtain⟨xs,e,q,r⟩:=h; rw[e]; exact fun z=>nomatch z
def RpL(K:W.Frag)(H:Hp)(B:BS)(d:D)(a:Addr):Prop:=match d with
 | .tup es=>∃ds,es=[.int (a:Int),.lst ds]/\∃xs,H a=some (.lst xs)/\Rps K H B ds xs
 | d=>RpO K H B d a
theorem RpO.toL{K:W.Frag}{H:Hp}{B:BS}{d:D}{a:Addr}(h:RpO K H B d a):RpL K H B d a:=by
 cases d with
 | tup es=>exact(show False from h).elim
 | _=>exact h
theorem RpL.toO{K:W.Frag}{H:Hp}{B:BS}{d:D}{a:Addr}(n:isL d=false)(h:RpL K H B d a):RpO K H B d a:=by
 cases d with
 | tup es=>cases n
 | _=>exact h
theorem RpL.same{K:W.Frag}{H H':Hp}{B:BS}{d:D}{a:Addr}(s:Same H H')(h:RpL K H B d a):RpL K H' B d a:=by
 cases d with
 | tup es=>obtain⟨ds,q,xs,e,r⟩:=h; exact⟨ds,q,xs,s _ _ e,r.same s⟩
 | _=>exact(RpO.same s (RpL.toO rfl h)).toL
theorem RpL.rp{K:W.Frag}{H:Hp}{B B':BS}{d:D}{a:Addr}(l:∀a,B' a->B a)(n:¬B' a)(h:RpL K H B d a):Rp K H B' (unl d) (.ref a):=by
 cases d with
 | tup es=>obtain⟨ds,rfl,xs,e,r⟩:=h; exact RpO.rp (d:=.lst ds) l n ⟨xs,e,r⟩
 | _=>exact RpO.rp l n (RpL.toO rfl h)
def Un0(a C:Addr)(od:Option Addr):Heap->Prop:=fun h=>∃oe,h.get? a=some oe/\oe.cls=.ref C/\(∀dx,od=some dx->oe.dict=some dx)/\∃vs,oe.data=.fields vs
def Uc0(H:Hp)(B:BS)(od:Option Addr):Option Int->Prop
 | none=>True
 | some n=>∃dx,od=some dx/\¬B dx/\H dx=some (.xd [("at",.int n)])
def XcR(K:W.Frag)(H:Hp)(B:BS)(c:Str)(n:Option Int)(a:Addr):Prop:=∃C od,¬B a/\H a=some (.ext (Un0 a C od))/\W.nsIn K mainGlobals c=some (some (.ref C))/\Uc0 H B od n
theorem XcR.mono{K:W.Frag}{H H':Hp}{B B':BS}{c:Str}{n:Option Int}{a:Addr}(g:Gr H H' B B')(h:XcR K H B c n a):XcR K H' B' c n a:=by
 obtain⟨C,od,h1,h2,h3,h4⟩:=h;refine⟨C,od,(g _ _ h1 h2).1,(g _ _ h1 h2).2,h3,?_⟩
 cases n with
 | none=>trivial
 | some n=>obtain⟨dx,e,q1,q2⟩:=h4; exact⟨dx,e,(g _ _ q1 q2).1,(g _ _ q1 q2).2⟩
def SlR(K:W.Frag)(H:Hp)(B:BS)(o:Option V):Sl->Prop
 | .un=>True
 | .sh d=>∃v,o=some v/\Rp K H B d v
 | .ow d=>∃a,o=some (.ref a)/\B a/\RpL K H B d a
 | .ex c n=>∃a,o=some (.ref a)/\XcR K H B c n a
theorem Pd.get{α β:Type}{F:α->β->Prop}:∀{l:List α} {m:List β} {i:Nat} {b:β},Paired F l m->m[i]?=some b->∃a,l[i]?=some a/\F a b
 | _,_,_,_,.nil,e=>by simp at e
 | _,_,0,_,.cons r _,e=>by simp at e; subst e; exact⟨_,rfl,r⟩
 | _,_,i+1,b,.cons _ t,e=>by
  obtain⟨u,h1,h2⟩:=Pd.get (i:=i) (b:=b) t (by simpa using e)
  exact⟨u,by simpa using h1,h2⟩
theorem Pd.imp{α β:Type}{F G:α->β->Prop}(h:∀a b,F a b->G a b):∀{l:List α} {m:List β},Paired F l m->Paired G l m
 | _,_,.nil=>.nil
 | _,_,.cons r t=>.cons (h _ _ r) (Pd.imp h t)
theorem Pd.set{α β:Type}{F:α->β->Prop}{a:α}{b:β}(r:F a b):∀{l:List α} {m:List β} (i:Nat),Paired F l m->Paired F (l.set i a) (m.set i b)
 | _,_,_,.nil=>.nil
 | _,_,0,.cons _ t=>.cons r t
 | _,_,i+1,.cons q t=>.cons q (Pd.set r i t)
theorem Pd.app{α β:Type}{F:α->β->Prop}:∀{l l':List α} {m m':List β},Paired F l m->Paired F l' m'->Paired F (l++l') (m++m')
 | _,_,_,_,.nil,s=>s
 | _,_,_,_,.cons r t,s=>.cons r (Pd.app t s)
structure Env(K:W.Frag)(H:Hp)(B:BS)(σ:St)(δ:Ds):Prop where
 all:Paired (SlR K H B) σ δ
 bad:∀a,B a->H a≠none
 own:∀(i j:Nat) (a:Addr) (ds es:D),δ[i]?=some (.ow ds)->δ[j]?=some (.ow es)->σ[i]?=some (some (.ref a))->σ[j]?=some (some (.ref a))->i=j
section
variable{K:W.Frag}{H H':Hp}{B:BS}{σ σ':St}{δ δ':Ds}
theorem SlR.same{o:Option V}{s:Sl}(q:Same H H')(h:SlR K H B o s):SlR K H' B o s:=by
 cases s with
 | un=>trivial
 | sh d=>obtain⟨v,e,r⟩:=h; exact⟨v,e,r.same q⟩
 | ow d=>obtain⟨a,e,b,r⟩:=h; exact⟨a,e,b,r.same q⟩
 | ex c n=>obtain⟨a,e,r⟩:=h; exact⟨a,e,r.mono (Gr.same q)⟩
theorem Env.same(q:Same H H')(e:Env K H B σ δ):Env K H' B σ δ :=
 ⟨Pd.imp (fun _ _ h=>h.same q) e.all,(fun a b z=>by
  cases h:H a with
  | none=>exact e.bad a b h
  | some o=>rw[q a o h] at z; cases z),e.own⟩
theorem Env.free(e:Env K H B σ δ){p:Addr}(h:H p=none):¬B p:=fun z=>e.bad p z h
theorem Env.get(e:Env K H B σ δ){i:Nat}{d:D}(h:δ[i]?=some (.sh d)):∃v,σ[i]?=some (some v)/\Rp K H B d v:=by
 obtain⟨o,h1,v,rfl,r⟩:=Pd.get e.all h;exact⟨v,h1,r⟩
theorem Env.set(e:Env K H B σ δ)(i:Nat){d:D}{v:V}(r:Rp K H B d v):Env K H B (σ.set i (some v)) (δ.set i (.sh d)):=by
 refine⟨Pd.set ⟨v,rfl,r⟩ i e.all,e.bad,fun j k a ds es h1 h2 h3 h4=>?_⟩
 have hj:j≠i:=by
  rintro rfl
  by_cases hl:j<δ.length
  ·rw[List.getElem?_set_self hl] at h1; cases h1
  ·rw[List.getElem?_eq_none (by simpa using hl)] at h1; cases h1
 have hk:k≠i:=by
  rintro rfl
  by_cases hl:k<δ.length
  ·rw[List.getElem?_set_self hl] at h2; cases h2
  ·rw[List.getElem?_eq_none (by simpa using hl)] at h2; cases h2
 rw[List.getElem?_set_ne (Ne.symm hj)] at h1 h3
 rw[List.getElem?_set_ne (Ne.symm hk)] at h2 h4
 exact e.own j k a ds es h1 h2 h3 h4
end
theorem Z1{H:Hp}{p:Addr}{o:HO}(h:H p=none):Same H (upd H p o):=fun b u e=>by rw[Y5 (M8 e h)]; exact e
def tD(K:W.Frag)(B:BS)(δ:Ds)(g:Ds->Option D):TE:=fun σ H Q=>∃d,Env K H B σ δ/\g δ=some d/\∀v H',Same H H'->Rp K H' B d v->Q v H'
structure PD(X:Cx)(e:Expr)(g:Ds->Option D):Prop where
 mk::go:∀B δ,PE X e (tD X.K B δ g)
instance{X:Cx}{e:Expr}{g:Ds->Option D}:CoeFun (PD X e g) (fun _=>∀B δ,PE X e (tD X.K B δ g)):=⟨PD.go⟩
def tDT(K:W.Frag)(B:BS)(δ:Ds)(g:Ds->Option Bool):TT:=fun σ H Q=>∃b,Env K H B σ δ/\g δ=some b/\∀H',Same H H'->Q b H'
structure PTD(X:Cx)(e:Expr)(g:Ds->Option Bool):Prop where
 mk::go:∀B δ,PT X e (tDT X.K B δ g)
instance{X:Cx}{e:Expr}{g:Ds->Option Bool}:CoeFun (PTD X e g) (fun _=>∀B δ,PT X e (tDT X.K B δ g)):=⟨PTD.go⟩
structure PWD(X:Cx)(e:Expr)(g:Ds->Option Bool):Prop where
 mk::go:∀B δ,PW X e (tDT X.K B δ g)
instance{X:Cx}{e:Expr}{g:Ds->Option Bool}:CoeFun (PWD X e g) (fun _=>∀B δ,PW X e (tDT X.K B δ g)):=⟨PWD.go⟩
def tDA(K:W.Frag)(B:BS)(δ:Ds)(g:Ds->Option (List D)):TA:=fun σ H Q=>∃ds,Env K H B σ δ/\g δ=some ds/\∀vs H',Same H H'->Rps K H' B ds vs->Q vs H'
structure PDA(X:Cx)(es:List Expr)(g:Ds->Option (List D)):Prop where
 mk::go:∀B δ,PA X es (tDA X.K B δ g)
instance{X:Cx}{es:List Expr}{g:Ds->Option (List D)}:CoeFun (PDA X es g) (fun _=>∀B δ,PA X es (tDA X.K B δ g)):=⟨PDA.go⟩
theorem kb0{d:D}{b:Bool}(h:asB d=some b):d=.bl b:=by
 cases d<;>simp[asB] at h
 subst h; rfl
def Op2(K:W.Frag)(r:R2)(f:D->D->Option D):Prop:=∀(H:Hp) (B:BS) (x y:V) (dx dy d:D) (Q:VK),(∀a,B a->H a≠none)->Rp K H B dx x->Rp K H B dy y->f dx dy=some d->(∀v H',Same H H'->Rp K H' B d v->Q v H')->r x y H Q
def FnR(K:W.Frag)(r:List V->Hp->VK->Prop)(f:List D->Option D):Prop:=∀(H:Hp) (B:BS) (xs:List V) (ds:List D) (d:D) (Q:VK),(∀a,B a->H a≠none)->Rps K H B ds xs->f ds=some d->(∀v H',Same H H'->Rp K H' B d v->Q v H')->r xs H Q
section
variable{X:Cx}{e a b c:Expr}{es:List Expr}{pos:Pos}{g ga gb:Ds->Option D}{gA:Ds->Option (List D)}{gt gu:Ds->Option Bool}{rest:List Expr}
theorem _root_.L2.PE.imp{t t':TE}(h:PE X e t)(q:∀σ H Q,t' σ H Q->t σ H Q):PE X e t':=fun pins s σ H Q I z=>h pins s σ H Q I (q σ H Q z)
theorem _root_.L2.PT.imp{t t':TT}(h:PT X e t)(q:∀σ H Q,t' σ H Q->t σ H Q):PT X e t':=fun pins s σ H Q I z=>h pins s σ H Q I (q σ H Q z)
theorem _root_.L2.PW.imp{t t':TT}(h:PW X e t)(q:∀σ H Q,t' σ H Q->t σ H Q):PW X e t':=fun w pins s σ H Q I z=>h w pins s σ H Q I (q σ H Q z)
theorem _root_.L2.PA.imp{t t':TA}(h:PA X es t)(q:∀σ H Q,t' σ H Q->t σ H Q):PA X es t':=fun p pins s σ H Q I z=>h p pins s σ H Q I (q σ H Q z)
theorem Vy0{i:Nat}{δ:Ds}{d:D}(h:gv i δ=some d):δ[i]?=some (.sh d):=by
 unfold gv at h;split at h
 ·cases h; assumption
 ·cases h
theorem v5(i:Nat){x:Str}(hN:X.N[i]?=some x:=by rfl)(hv:Vis X.env.scope x:=by first|exact Or.inl rfl|exact Or.inr (Or.inl rfl)|exact Or.inr (Or.inr rfl))(hd:(x==("__debug__" : Str))=false:=by decide)
  (hcd:(x==("__classdict__" : Str))=false:=by decide):PD X (.Name x pos) (gv i):=.mk fun B δ=>(yl0 (i:=i) hN hv hd hcd).imp fun σ H Q ⟨d,en,h,k⟩=>by
 obtain⟨v,e,r⟩:=en.get (Vy0 h);exact⟨v,e,k v H (Same.refl H) r⟩
theorem p7{i:Int}{j:Nat}:PD X (.Constant (.int i) j pos) (gc (.int i)):=.mk fun B δ=>W80.imp fun σ H Q ⟨d,en,h,k⟩=>by cases h; exact k _ H (Same.refl H) (by rw[n6])
theorem za0{i:Bool}{j:Nat}:PD X (.Constant (.bool i) j pos) (gc (.bl i)):=.mk fun B δ=>V30.imp fun σ H Q ⟨d,en,h,k⟩=>by cases h; exact k _ H (Same.refl H) (by rw[Y4])
theorem xa0{j:Nat}:PD X (.Constant .none j pos) (gc .non):=.mk fun B δ=>Xq0.imp fun σ H Q ⟨d,en,h,k⟩=>by cases h; exact k _ H (Same.refl H) (by rw[W0])
theorem Z2{x:Str}{j:Nat}:PD X (.Constant (.str x) j pos) (gc (.str x)):=.mk fun B δ=>Yr0.imp fun σ H Q ⟨d,en,h,k⟩=>by cases h; exact k _ H (Same.refl H) (by rw[Y0])
theorem q80{K:W.Frag}{r:R2}{f:D->D->Option D}(hf:Op2 K r f){B:BS}{δ:Ds}{σ:St}{H:Hp}{Q:VK}(h:tD K B δ (o2 ga gb f) σ H Q):tOp r (tD K B δ ga) (tD K B δ gb) σ H Q:=by
 obtain⟨d,en,h,k⟩:=h;unfold o2 at h
 cases e1:ga δ with
 | none=>rw[e1] at h; cases h
 | some x =>
  cases e2:gb δ with
  | none=>rw[e1,e2] at h; cases h
  | some y =>
   rw[e1,e2] at h;refine⟨x,en,e1,fun v1 H1 s1 r1=>⟨y,en.same s1,e2,fun v2 H2 s2 r2=>?_⟩⟩
   exact hf H2 B v1 v2 x y d Q ((en.same s1).same s2).bad (r1.same s2) r2 h fun v H' s r=>k v H' ((s1.trans s2).trans s) r
theorem t70{op:Operator}{r:R2}{f:D->D->Option D}(ho:OpR X (binaryOp op) r)(hf:Op2 X.K r f)(ha:PD X a ga)(hb:PD X b gb):PD X (.BinOp a op b pos) (o2 ga gb f):=.mk fun B δ=>(cm0 ho (ha B δ) (hb B δ)).imp fun σ H Q h=>q80 hf h
theorem wa0{op:CmpOp}{r:R2}{f:D->D->Option D}(ho:OpR X (compareOp op) r)(hf:Op2 X.K r f)(ha:PD X a ga)(hb:PD X b gb)(hm:behindInMarks op b=false:=by first|exact f00 _|with_unfolding_all rfl):PD X (.Compare a [op] [b] pos) (o2 ga gb f) :=
 .mk fun B δ=>(bx0 ho (ha B δ) (hb B δ) hm).imp fun σ H Q h=>q80 hf h
theorem U30{r:R2}{f:D->D->Option D}(ho:IxR X r)(hf:Op2 X.K r f)(ha:PD X a ga)(hb:PD X b gb)(hs:pd0 b:=by exact fun _ _=>rfl):PD X (.Subscript a b pos) (o2 ga gb f) :=
 .mk fun B δ=>(Vm0 ho (ha B δ) (hb B δ) hs).imp fun σ H Q h=>q80 hf h
theorem d9{op:CmpOp}{r:R2}{f:D->D->Option D}(ho:OpR X (compareOp op) r)(hf:Op2 X.K r f)(ha:PD X a ga)(hb:PD X b gb)(hm:behindInMarks op b=false:=by first|exact f00 _|with_unfolding_all rfl):PTD X (.Compare a [op] [b] pos) (ob (o2 ga gb f)) :=
 .mk fun B δ=>(Zi0 ho (ha B δ) (hb B δ) hm).imp fun σ H Q ⟨t,en,h,k⟩=>by
  unfold ob at h
  cases e:o2 ga gb f δ with
  | none=>rw[e] at h; cases h
  | some d =>
   rw[e] at h;cases kb0 h;exact q80 hf ⟨_,en,e,fun v H' s r=>⟨t,by rw[Y4] at r; exact r,k H' s⟩⟩
theorem U9(h:PD X e g)(he:∀whole,isTrue e X.env whole=(do let v ← whole; standAt e.pos; holding [v] (truthy v)):=by intro _; rfl):PTD X e (ob g) :=
 .mk fun B δ=>(Wn0 (h B δ) he).imp fun σ H Q ⟨t,en,h,k⟩=>by
  unfold ob at h
  cases e:g δ with
  | none=>rw[e] at h; cases h
  | some d =>
   rw[e] at h;cases kb0 h;exact⟨_,en,e,fun v H' s r=>⟨t,by rw[Y4] at r; exact r,k H' s⟩⟩
theorem z20(h:PTD X a gt):PTD X (.UnaryOp .Not a pos) (Q7 gt) :=
 .mk fun B δ=>(X20 (h B δ)).imp fun σ H Q ⟨t,en,h,k⟩=>by
  unfold Q7 at h
  cases e:gt δ with
  | none=>rw[e] at h; cases h
  | some b =>
   rw[e] at h;cases h;exact⟨b,en,e,fun H' s=>k H' s⟩
theorem wx0(h:PTD X a gt):PWD X (.BoolOp .Or [a] pos) gt:=.mk fun B δ=>Xp0 (h B δ)
theorem vs0(ha:PTD X a gt)(hb:PWD X (.BoolOp .Or (b::rest) pos) gu):PWD X (.BoolOp .Or (a::b::rest) pos) (zv0 gt gu) :=
 .mk fun B δ=>(Vi0 (ha B δ) (hb B δ)).imp fun σ H Q ⟨t,en,h,k⟩=>by
  unfold zv0 at h
  cases e:gt δ with
  | none=>rw[e] at h; cases h
  | some b =>
   rw[e] at h;refine⟨b,en,e,fun H' s=>?_⟩
   cases b with
   | false=>exact⟨t,en.same s,h,fun H'' s'=>k H'' (s.trans s')⟩
   | true =>
    simp at h
    subst h;rw[if_pos rfl];exact k H' s
theorem PWD.pt(h:PWD X e gt):PTD X e gt:=.mk fun B δ=>(h B δ).pt
theorem uv0{op}(h:PD X a g):PD X (.BoolOp op [a] pos) g:=.mk fun B δ=>X90 (h B δ)
theorem uo0(ha:PD X a ga)(hb:PD X (.BoolOp .And (b::rest) pos) gb):PD X (.BoolOp .And (a::b::rest) pos) (J1 ga gb) :=
 .mk fun B δ=>(W50 (ha B δ) (hb B δ)).imp fun σ H Q ⟨d,en,h,k⟩=>by
  unfold J1 ob at h
  cases e:ga δ with
  | none=>rw[e] at h; cases h
  | some x =>
   rw[e] at h;refine⟨x,en,e,fun v H' s r=>?_⟩
   cases x with
   | bl c =>
    rw[Y4] at r;refine⟨c,r,?_⟩
    cases c with
    | true=>exact⟨d,en.same s,h,fun v H'' s'=>k v H'' (s.trans s')⟩
    | false =>
     simp[asB] at h
     rw[if_neg Bool.false_ne_true];exact k _ H' s (by rw[← h,Y4])
   | _=>simp[asB] at h
theorem Wx0(hc:PTD X c gt)(ha:PD X a ga)(hb:PD X b gb):PD X (.IfExp c a b pos) (ifG gt ga gb) :=
 .mk fun B δ=>(dp0 (hc B δ) (ha B δ) (hb B δ)).imp fun σ H Q ⟨d,en,h,k⟩=>by
  unfold ifG at h
  cases e:gt δ with
  | none=>rw[e] at h; cases h
  | some t =>
   rw[e] at h;refine⟨t,en,e,fun H' s=>?_⟩
   cases t with
   | true=>exact⟨d,en.same s,h,fun v H'' s'=>k v H'' (s.trans s')⟩
   | false=>exact⟨d,en.same s,h,fun v H'' s'=>k v H'' (s.trans s')⟩
theorem v9:PDA X [] v7:=.mk fun B δ=>yj0.imp fun σ H Q ⟨ds,en,h,k⟩=>by cases h; exact k [] H (Same.refl H) (by rw[o8])
theorem w6(ha:PD X e g)(hr:PDA X es gA)(hs:starEach (e::es) X.env=(false,eval e X.env)::starEach es X.env:=by rfl):PDA X (e::es) (z9 g gA) :=
 .mk fun B δ=>(z00 (ha B δ) (hr B δ) hs).imp fun σ H Q ⟨ds,en,h,k⟩=>by
  unfold z9 at h
  cases e1:g δ with
  | none=>rw[e1] at h; cases h
  | some d =>
   cases e2:gA δ with
   | none=>rw[e1,e2] at h; cases h
   | some es' =>
    rw[e1,e2] at h;cases h;refine⟨d,en,e1,fun v H1 s1 r1=>⟨es',en.same s1,e2,fun vs H2 s2 r2=>k _ H2 (s1.trans s2) ?_⟩⟩
    rw[o4];exact⟨v,vs,rfl,r1.same s2,r2⟩
theorem Y6{x1}(h:PDA X es gA):PD X (.Tuple es x1 pos) (m9 gA) :=
 .mk fun B δ=>(Wi0 (h B δ)).imp fun σ H Q ⟨d,en,h,k⟩=>by
  unfold m9 at h
  cases e1:gA δ with
  | none=>rw[e1] at h; cases h
  | some ds =>
   rw[e1] at h
   by_cases hl:ds.length<=sizeLine
   ·simp only[Option.bind_some,if_pos hl] at h
    cases h;refine⟨ds,en,e1,fun vs H1 s1 r1=>⟨by rw[r1.length]; exact hl,fun p hp=>k _ _ (s1.trans (Z1 hp)) ?_⟩⟩
    rw[X4];exact⟨p,vs,rfl,⟨(en.same s1).free hp,j7⟩,r1.same (Z1 hp)⟩
   ·simp only[Option.bind_some,if_neg hl] at h
    cases h
theorem vq0(h:PDA X es gA):PD X (.List es pos) (X5 gA) :=
 .mk fun B δ=>(fh0 (h B δ)).imp fun σ H Q ⟨d,en,h,k⟩=>by
  unfold X5 at h
  cases e1:gA δ with
  | none=>rw[e1] at h; cases h
  | some ds =>
   rw[e1] at h
   by_cases hl:ds.length<=sizeLine
   ·simp only[Option.bind_some,if_pos hl] at h
    cases h;refine⟨ds,en,e1,fun vs H1 s1 r1=>⟨by rw[r1.length]; exact hl,fun p hp=>k _ _ (s1.trans (Z1 hp)) ?_⟩⟩
    rw[Z5];exact⟨p,vs,rfl,.inl ⟨(en.same s1).free hp,.inl j7⟩,r1.same (Z1 hp)⟩
   ·simp only[Option.bind_some,if_neg hl] at h
    cases h
theorem m30{K:W.Frag}{r:List V->Hp->VK->Prop}{f:List D->Option D}(hf:FnR K r f){B:BS}{δ:Ds}{σ:St}{H:Hp}{Q:VK}(h:tD K B δ (oA gA f) σ H Q):tCB r (tDA K B δ gA) σ H Q:=by
 obtain⟨d,en,h,k⟩:=h;unfold oA at h
 cases e1:gA δ with
 | none=>rw[e1] at h; cases h
 | some ds =>
  rw[e1] at h;exact⟨ds,en,e1,fun vs H1 s1 r1=>hf H1 B vs ds d Q (en.same s1).bad r1 h fun v H' s r=>k v H' (s1.trans s) r⟩
theorem rs0{id:String}{x:Str}{p:Pos}{r:List V->Hp->VK->Prop}{f:List D->Option D}(hc:CallR X (.builtin id) r)(hf:FnR X.K r f)(hm:X.mg x=none)(hv:bootBuiltins x=some (.builtin id))(ha:PDA X (e::es) gA)(hg:Gl X x:=by rfl)
  (hn:x ≠"__name__" := by decide) (hdb:(x==("__debug__" : Str))=false:=by decide) (he:starEach (e::es) X.env=(false,eval e X.env)::starEach es X.env:=by rfl) (hpl:(backTo pos (starEach es X.env)).any (·.1)=false:=by rfl) :
  PD X (.Call (.Name x p) (e::es) [] pos) (oA gA f):=.mk fun B δ=>(rt0 hc hg hm hv (ha B δ) hn hdb he hpl).imp fun σ H Q h=>m30 hf h
theorem T4{T:String}{x:Str}{p:Pos}{r:List V->Hp->VK->Prop}{f:List D->Option D}(hc:CallR X (.type T) r)(hf:FnR X.K r f)(hm:X.mg x=none)(hv:bootBuiltins x=some (.type T))(ha:PDA X (e::es) gA)(hg:Gl X x:=by rfl)
  (hn:x ≠"__name__" := by decide) (hdb:(x==("__debug__" : Str))=false:=by decide) (he:starEach (e::es) X.env=(false,eval e X.env)::starEach es X.env:=by rfl) (hpl:(backTo pos (starEach es X.env)).any (·.1)=false:=by rfl) :
  PD X (.Call (.Name x p) (e::es) [] pos) (oA gA f):=.mk fun B δ=>(u40 hc hg hm hv (ha B δ) hn hdb he hpl).imp fun σ H Q h=>m30 hf h
def spD(K:W.Frag)(f:List D->Option D):Sp:=fun vs H Q _=>∃(B:BS) (ds:List D) (d:D),(∀a,B a->H a≠none)/\Rps K H B ds vs/\f ds=some d/\∀v H',Same H H'->Rp K H' B d v->Q v H'
theorem bh0{k:Nat}{fa:Addr}{fd:FuncData}{ps:List Str}{x:Str}{p:Pos}{f:List D->Option D}(F:FnOk X.prog X.w X.K X.mg X.base CX0 k fa fd ps (spD X.K f))(hr:Room k X.A)(hm:X.mg x=some (.ref fa))(hk:W.keepIn X.K (.ref fa)=true)(hb:Binds X.K fd ps [])
  (ha:PDA X (e::es) gA) (hg:Gl X x:=by rfl) (hdb:(x==("__debug__" : Str))=false:=by decide) (he:starEach (e::es) X.env=(false,eval e X.env)::starEach es X.env:=by rfl) (hpl:(backTo pos (starEach es X.env)).any (·.1)=false:=by rfl) :
  PD X (.Call (.Name x p) (e::es) [] pos) (oA gA f):=.mk fun B δ=>(sp0 (E:=E0) F hr hg hm hk hb .nil nl0 (ha B δ) hdb he hpl).imp fun σ H Q h=>by
 obtain⟨d,en,h,k⟩:=h;unfold oA at h
 cases e1:gA δ with
 | none=>rw[e1] at h; cases h
 | some ds =>
  rw[e1] at h;refine⟨ds,en,e1,fun vs H1 s1 r1=>?_⟩
  show spD X.K f (vs++[]) H1 Q E0
  rw[List.append_nil];exact⟨B,ds,d,(en.same s1).bad,r1,h,fun v H' s r=>k v H' (s1.trans s) r⟩
end
end DL
namespace DL
open PySem PySem.Spec PyProof.Rows L2
structure EnvS(K:W.Frag)(H₀:Hp)(B₀:BS)(H:Hp)(σ:St)(δ:Ds):Prop where
 same:Same H₀ H
 ex:∃B:BS,(∀a,B₀ a->B a)/\(∀a,B a->B₀ a∨H₀ a=none)/\Env K H B σ δ
 fr:∀(i:Nat) (ds:D) (a:Addr),δ[i]?=some (.ow ds)->σ[i]?=some (some (.ref a))->H₀ a=none
 b0:∀a,B₀ a->H₀ a≠none
def Ui0(K:W.Frag)(H₀:Hp)(B₀:BS)(D:Ends):Res->Prop
 | .nx δ=>∀σ H,EnvS K H₀ B₀ H σ δ->D.nx σ H
 | .rt d=>∀v H,Same H₀ H->Rp K H B₀ d v->D.rt v H
 | .bk δ=>∀σ H,EnvS K H₀ B₀ H σ δ->D.bk σ H
 | .ct δ=>∀σ H,EnvS K H₀ B₀ H σ δ->D.ct σ H
 | .rf d=>∀p H,H₀ p=none->Same H₀ H->RpL K H (fun a=>B₀ a∨a=p) d p->D.rt (.ref p) H
def tDS(K:W.Frag)(H₀:Hp)(B₀:BS)(δ:Ds)(G:Ds->Option Res):TS:=fun D σ H=>∃r,EnvS K H₀ B₀ H σ δ/\G δ=some r/\Ui0 K H₀ B₀ D r
structure PSD(X:Cx)(st:Stmt)(G:Ds->Option Res):Prop where
 mk::go:∀H₀ B₀ δ,PS X st (tDS X.K H₀ B₀ δ G)
instance{X:Cx}{st:Stmt}{G:Ds->Option Res}:CoeFun (PSD X st G) (fun _=>∀H₀ B₀ δ,PS X st (tDS X.K H₀ B₀ δ G)):=⟨PSD.go⟩
structure PSsD(X:Cx)(st:List Stmt)(G:Ds->Option Res):Prop where
 mk::go:∀H₀ B₀ δ,PSs X st (tDS X.K H₀ B₀ δ G)
instance{X:Cx}{st:List Stmt}{G:Ds->Option Res}:CoeFun (PSsD X st G) (fun _=>∀H₀ B₀ δ,PSs X st (tDS X.K H₀ B₀ δ G)):=⟨PSsD.go⟩
section
variable{K:W.Frag}{H₀ H H':Hp}{B₀:BS}{σ:St}{δ:Ds}
theorem EnvS.grow(e:EnvS K H₀ B₀ H σ δ)(s:Same H H'):EnvS K H₀ B₀ H' σ δ:=⟨e.same.trans s,let ⟨B,b1,b2,en⟩:=e.ex; ⟨B,b1,b2,en.same s⟩,e.fr,e.b0⟩
end
structure Wr(idx:List Nat)(σ σ':St)(δ δ':Ds):Prop where
 len:σ'.length=σ.length
 oth:∀j,j∉idx->σ'[j]?=σ[j]?/\δ'[j]?=δ[j]?
 own:∀j∈idx,∀ds,δ'[j]?≠some (.ow ds)
def tDG(K:W.Frag)(idx:List Nat)(f:D->Ds->Option Ds)(B:BS)(d:D)(δ:Ds):TG:=fun v σ H Q=>∃δ',Rp K H B d v/\Env K H B σ δ/\f d δ=some δ'/\∀σ',Wr idx σ σ' δ δ'->Env K H B σ' δ'->Q σ' H
structure PGD(X:Cx)(tg:Expr)(idx:List Nat)(f:D->Ds->Option Ds):Prop where
 mk::go:∀B d δ,PG X tg (tDG X.K idx f B d δ)
instance{X:Cx}{tg:Expr}{idx:List Nat}{f:D->Ds->Option Ds}:CoeFun (PGD X tg idx f) (fun _=>∀B d δ,PG X tg (tDG X.K idx f B d δ)):=⟨PGD.go⟩
theorem _root_.L2.PG.imp{X:Cx}{tg:Expr}{t t':TG}(h:PG X tg t)(q:∀v σ H Q,t' v σ H Q->t v σ H Q):PG X tg t':=fun pins s σ H v u Q I r z=>h pins s σ H v u Q I r (q v σ H Q z)
theorem e50{σ:St}{δ:Ds}{i:Nat}{v:V}{d:D}:Wr [i] σ (σ.set i (some v)) δ (δ.set i (.sh d)):=by
 refine⟨by simp,fun j hj=>?_,fun j hj ds h=>?_⟩
 ·have:j≠i:=by simpa using hj
  rw[List.getElem?_set_ne (Ne.symm this),List.getElem?_set_ne (Ne.symm this)]
  exact⟨rfl,rfl⟩
 ·have:j=i:=by simpa using hj
  subst this
  by_cases hl:j<δ.length
  ·rw[List.getElem?_set_self hl] at h; cases h
  ·rw[List.getElem?_eq_none (by simpa using hl)] at h; cases h
theorem p8(i:Nat){X:Cx}{x:Str}{pos:Pos}(hN:X.N.Nodup)(hi:X.N[i]?=some x:=by rfl)(hx:Loc X.env.scope x:=by first|exact Or.inl rfl|exact Or.inr rfl)
  (hf:X.fn x=true∨X.env.scope.names.lookup x=some .local:=by first|exact .inl rfl|exact .inr rfl|assumption):PGD X (.Name x pos) [i] (gN i):=.mk fun B d δ=>(sw0 (i:=i) hN hi hx hf).imp fun v σ H Q ⟨δ',r,en,e,k⟩=>by
 cases e;exact k _ e50 (en.set i r)
section
variable{X:Cx}{e tg:Expr}{st:Stmt}{rest:List Stmt}{pos:Pos}{g:Ds->Option D}{G G1 G2 Ga Gb:Ds->Option Res}{gt:Ds->Option Bool}{c:Expr}{as bs body:List Stmt}
theorem u5:PSsD X [] u6:=.mk fun H₀ B₀ δ pins s σ H D I ⟨r,en,e,k⟩=>by
 cases e;exact aq0 pins s σ H D I (k σ H en)
theorem v6(h1:PSD X st G1)(h2:PSsD X rest G2):PSsD X (st::rest) (v8 G1 G2):=.mk fun H₀ B₀ δ pins s σ H D I ⟨r,en,e,k⟩=>by
 unfold v8 at e
 cases e1:G1 δ with
 | none=>rw[e1] at e; cases e
 | some r1 =>
  rw[e1] at e
  cases r1 with
  | nx δ'=>exact v90 (h1 H₀ B₀ δ) (h2 H₀ B₀ δ') pins s σ H D I ⟨_,en,e1,fun σ' H' en'=>⟨r,en',e,k⟩⟩
  | rt d=>cases e; exact v90 (h1 H₀ B₀ δ) u20 pins s σ H D I ⟨_,en,e1,k⟩
  | bk δ'=>cases e; exact v90 (h1 H₀ B₀ δ) u20 pins s σ H D I ⟨_,en,e1,k⟩
  | ct δ'=>cases e; exact v90 (h1 H₀ B₀ δ) u20 pins s σ H D I ⟨_,en,e1,k⟩
  | rf d=>cases e; exact v90 (h1 H₀ B₀ δ) u20 pins s σ H D I ⟨_,en,e1,k⟩
theorem m7(h:PD X e g):PSD X (.Return (some e) pos) (o9 g):=.mk fun H₀ B₀ δ pins s σ H D I ⟨r,en,e1,k⟩=>by
 unfold o9 at e1;obtain⟨B,b1,b2,env⟩:=en.ex
 cases e2:g δ with
 | none=>rw[e2] at e1; cases e1
 | some d =>
  rw[e2] at e1;cases e1;exact ls0 (h B δ) pins s σ H D I ⟨d,env,e2,fun v H' s' r=>k v H' (en.same.trans s') (r.mono (Gr.less b1))⟩
theorem EnvS.wr{K:W.Frag}{H₀ H H':Hp}{B₀ B:BS}{σ σ':St}{δ δ':Ds}{idx:List Nat}(e:EnvS K H₀ B₀ H σ δ)(b1:∀a,B₀ a->B a)(b2:∀a,B a->B₀ a∨H₀ a=none)(s:Same H H')(w:Wr idx σ σ' δ δ')(en:Env K H' B σ' δ'):EnvS K H₀ B₀ H' σ' δ':=by
 refine⟨e.same.trans s,⟨B,b1,b2,en⟩,fun i ds a h1 h2=>?_,e.b0⟩
 by_cases hi:i∈idx
 ·exact absurd h1 (w.own i hi ds)
 ·rw[(w.oth i hi).2] at h1
  rw[(w.oth i hi).1] at h2;exact e.fr i ds a h1 h2
theorem j9{idx:List Nat}{f:D->Ds->Option Ds}(h:PD X e g)(hg:PGD X tg idx f)(hs:swapsWithSole [tg] e pos.line X.env=pure false:=by rfl)(hw:swappedStores [tg] e X.env=pure none:=by rfl)
  (h1:(assignEach [tg] X.env).map (·.2)=[assign tg X.env]:=by rfl):PSD X (.Assign [tg] e pos) (n8 f g):=.mk fun H₀ B₀ δ pins s σ H D I ⟨r,en,e1,k⟩=>by
 unfold n8 at e1;obtain⟨B,b1,b2,env⟩:=en.ex
 cases e2:g δ with
 | none=>rw[e2] at e1; cases e1
 | some d =>
  rw[e2] at e1;simp only[Option.bind_some] at e1
  cases e3:f d δ with
  | none=>rw[e3] at e1; cases e1
  | some δ' =>
   rw[e3] at e1;cases e1;exact l70 (h B δ) (hg B d δ) hs hw h1 pins s σ H D I ⟨d,env,e2,fun v H' s' r=>⟨δ',r,env.same s',e3,fun σ' w en'=>k σ' H' (en.wr b1 b2 s' w en')⟩⟩
theorem d8(hc:PTD X c gt)(ha:PSsD X as Ga)(hb:PSsD X bs Gb):PSD X (.If c as bs pos) (ifD gt Ga Gb):=.mk fun H₀ B₀ δ pins s σ H D I ⟨r,en,e1,k⟩=>by
 unfold ifD at e1;obtain⟨B,b1,b2,env⟩:=en.ex
 cases e2:gt δ with
 | none=>rw[e2] at e1; cases e1
 | some t =>
  rw[e2] at e1;refine V70 (hc B δ) (ha H₀ B₀ δ) (hb H₀ B₀ δ) pins s σ H D I ⟨t,env,e2,fun H' s'=>?_⟩
  cases t with
  | true=>exact⟨r,en.grow s',e1,k⟩
  | false=>exact⟨r,en.grow s',e1,k⟩
structure ItD(K:W.Frag)(B:BS)(J:It)(items:List D)(H₁:Hp):Prop where
 go:∀i H,Gr H₁ H B B->i<items.length->J.go i H
 yld:∀i H x H',Gr H₁ H B B->J.yld i H x H'->i<items.length->Same H H'/\∃d,items[i]?=some d/\∀B':BS,Gr H₁ H' B B'->(∀a,B' a->H a≠none)->Rp K H' B' d x
 stop:∀i H,Gr H₁ H B B->items.length<=i->J.stop i H
def tDI(K:W.Frag)(B:BS)(δ:Ds)(g:Ds->Option (List D)):TI:=fun σ H R=>∃items,Env K H B σ δ/\g δ=some items/\∀J H',Same H H'->ItD K B J items H'->R J H'
structure PID(X:Cx)(tg e:Expr)(g:Ds->Option (List D)):Prop where
 mk::go:∀B δ,PI X tg e (tDI X.K B δ g)
instance{X:Cx}{tg e:Expr}{g:Ds->Option (List D)}:CoeFun (PID X tg e g) (fun _=>∀B δ,PI X tg e (tDI X.K B δ g)):=⟨PID.go⟩
theorem _root_.L2.PI.imp{t t':TI}(h:PI X tg e t)(q:∀σ H R,t' σ H R->t σ H R):PI X tg e t':=fun pins s σ H R I z=>h pins s σ H R I (q σ H R z)
theorem U8(h:PD X e g):PID X tg e (R0 g):=.mk fun B δ=>L2.PI.imp (bt0 (h B δ)) fun σ H R ⟨items,en,e1,k⟩=>by
 unfold R0 at e1
 cases e2:g δ with
 | none=>rw[e2] at e1; cases e1
 | some d =>
  rw[e2] at e1;cases d<;>simp[qg0] at e1
  subst e1;refine⟨_,en,e2,fun v H' s' r=>?_⟩
  rw[Z5] at r;obtain⟨a,xs,rfl,q,rs⟩:=r;refine⟨a,rfl,⟨xs,q.to⟩,k _ H' s' ⟨fun i H2 g2 hi=>?_,fun i H2 x H3 g2 y hi=>?_,fun i H2 g2 hi=>?_⟩⟩
  ·have:i<xs.length:=by rw[rs.length]; exact hi
   exact⟨xs,xs[i],(q.mono g2).to,by simp[this]⟩
  ·obtain⟨e3,y⟩:=y
   obtain⟨x',e4,r'⟩:=rs.get (i:=i) (d:=_) (List.getElem?_eq_getElem hi)
   have:=y xs (q.mono g2).to
   rw[e4] at this;cases this;subst e3;exact⟨Same.refl _,_,List.getElem?_eq_getElem hi,fun B' gB _=>r'.mono gB⟩
  ·exact⟨xs,(q.mono g2).to,by rw[rs.length]; exact hi⟩
theorem sk0(h:PD X e g):PID X tg e (tupI g):=.mk fun B δ=>L2.PI.imp (Yg0 (h B δ)) fun σ H R ⟨items,en,e1,k⟩=>by
 unfold tupI at e1
 cases e2:g δ with
 | none=>rw[e2] at e1; cases e1
 | some d =>
  rw[e2] at e1;cases d<;>simp[be0] at e1
  subst e1;refine⟨_,en,e2,fun v H' s' r=>?_⟩
  rw[X4] at r;obtain⟨a,xs,rfl,q,rs⟩:=r;refine⟨a,rfl,⟨xs,q.to⟩,k _ H' s' ⟨fun i H2 g2 hi=>?_,fun i H2 x H3 g2 y hi=>?_,fun i H2 g2 hi=>?_⟩⟩
  ·have:i<xs.length:=by rw[rs.length]; exact hi
   exact⟨xs,xs[i],(q.mono g2).to,by simp[this]⟩
  ·obtain⟨e3,y⟩:=y
   obtain⟨x',e4,r'⟩:=rs.get (i:=i) (d:=_) (List.getElem?_eq_getElem hi)
   have:=y xs (q.mono g2).to
   rw[e4] at this;cases this;subst e3;exact⟨Same.refl _,_,List.getElem?_eq_getElem hi,fun B' gB _=>r'.mono gB⟩
  ·exact⟨xs,(q.mono g2).to,by rw[rs.length]; exact hi⟩
theorem ru0(lo hi:Int):(U7 lo hi).length=(hi - lo).toNat:=by simp[U7]
theorem j10{K:W.Frag}{B:BS}{H:Hp}(lo hi:Int):ItD K B (Itr lo (hi - lo).toNat) (U7 lo hi) H:=by
 refine⟨fun i H2 g2 hi=>?_,fun i H2 x H3 g2 y hi=>?_,fun i H2 g2 hi=>?_⟩
 ·rw[ru0] at hi; exact hi
 ·obtain⟨e3,rfl⟩:=y
  rw[ru0] at hi;subst e3;exact⟨Same.refl _,.int (lo+i),by simp[U7,hi],fun B' gB _=>by rw[n6]⟩
 ·rw[ru0] at hi; exact hi
theorem J8{a:Expr}{gA:Ds->Option (List D)}{p:Pos}(hm:X.mg "range"=none)(ha:PDA X [a] gA)(hg:Gl X "range" := by rfl)(hs:starEach [a] X.env=[(false,eval a X.env)]:=by rfl):PID X tg (.Call (.Name "range" p) [a] [] pos) (Q8 gA) :=
 .mk fun B δ=>L2.PI.imp (g20 hg hm (ha B δ) hs) fun σ H R ⟨items,en,e1,k⟩=>by
 unfold Q8 at e1
 cases e2:gA δ with
 | none=>rw[e2] at e1; cases e1
 | some ds =>
  rw[e2] at e1;simp only[Option.bind_some] at e1;unfold i20 at e1;split at e1
  ·split at e1
   ·rename_i j hj
    cases e1;refine⟨_,en,e2,fun vs H' s' r=>?_⟩
    rw[o4] at r;obtain⟨x,t,rfl,r1,r2⟩:=r;rw[o8] at r2;subst r2;rw[n6] at r1;subst r1;refine⟨j,rfl,hj.1,hj.2,k _ H' s' ?_⟩
    have:=j10 (K:=X.K) (B:=B) (H:=H') 0 j
    rw[Int.sub_zero] at this;exact this
   ·cases e1
  ·cases e1
theorem i30{a b:Expr}{gA:Ds->Option (List D)}{p:Pos}(hm:X.mg "range"=none)(ha:PDA X [a,b] gA)(hg:Gl X "range" := by rfl)(hs:starEach [a,b] X.env=[(false,eval a X.env),(false,eval b X.env)]:=by rfl)(hs2:starEach [b] X.env=[(false,eval b X.env)]:=by rfl) :
  PID X tg (.Call (.Name "range" p) [a,b] [] pos) (nk0 gA):=.mk fun B δ=>L2.PI.imp (gd0 hg hm (ha B δ) hs hs2) fun σ H R ⟨items,en,e1,k⟩=>by
 unfold nk0 at e1
 cases e2:gA δ with
 | none=>rw[e2] at e1; cases e1
 | some ds =>
  rw[e2] at e1;simp only[Option.bind_some] at e1;unfold cv0 at e1;split at e1
  ·split at e1
   ·rename_i i j hj
    cases e1;refine⟨_,en,e2,fun vs H' s' r=>?_⟩
    rw[o4] at r;obtain⟨x,t,rfl,r1,r2⟩:=r;rw[o4] at r2;obtain⟨y,t',rfl,r2,r3⟩:=r2;rw[o8] at r3;subst r3;rw[n6] at r1 r2;subst r1 r2;exact⟨i,j,rfl,⟨hj.1.1,hj.1.2,hj.2.1,hj.2.2⟩,k _ H' s' (j10 i j)⟩
   ·cases e1
  ·cases e1
theorem EnvS.lower{K:W.Frag}{H₀ H₁ H:Hp}{B₀:BS}{σ:St}{δ:Ds}(e:EnvS K H₁ B₀ H σ δ)(s:Same H₀ H₁)(b0:∀a,B₀ a->H₀ a≠none):EnvS K H₀ B₀ H σ δ:=by
 obtain⟨B,b1,b2,en⟩:=e.ex;exact⟨s.trans e.same,⟨B,b1,fun a z=>(b2 a z).imp id fun q=>s.free q,en⟩,fun i ds a h1 h2=>s.free (e.fr i ds a h1 h2),b0⟩
open Classical in
theorem K5{iter:Expr}{gi:Ds->Option (List D)}{idx:List Nat}{f:D->Ds->Option Ds}(hp:PassesOwn (model X.prog X.w) X.A X.env X.xe)(hc:X.calm=true)(hi:PID X tg iter gi)(hg:PGD X tg idx f)(hb:PSsD X body G)
  (hs:∀x,foldedSetIterable iter X.env x=pure x:=by intro _; rfl):PSD X (.For tg iter body [] pos) (M4 gi f G):=.mk fun H₀ B₀ δ pins s σ H D I ⟨r,en,e1,k⟩=>by
 unfold M4 at e1;obtain⟨B,b1,b2,env⟩:=en.ex
 cases e2:gi δ with
 | none=>rw[e2] at e1; cases e1
 | some items =>
  rw[e2] at e1;simp only[Option.bind_some] at e1;have hg':PG X tg (fun v σ H Q=>∃B d δ,tDG X.K idx f B d δ v σ H Q):=fun pins s σ H v u Q I r ⟨B,d,δ,h⟩=>hg B d δ pins s σ H v u Q I r h
  have hb':PSs X body (fun D σ H=>∃H₀ B₀ δ,tDS X.K H₀ B₀ δ G D σ H):=fun pins s σ H D I ⟨H₀,B₀,δ,h⟩=>hb H₀ B₀ δ pins s σ H D I h
  refine Yi0 hp hc (hi B δ) hg' hb' hs pins s σ H D I ⟨items,env,e2,fun J H1 s1 it=>?_⟩
  obtain⟨Hh,hHh⟩:∃Hh:Hp,Hh=fun b=>if B b/\¬B₀ b then none else H1 b:=⟨_,rfl⟩
  have hoff:∀b,¬B b->Hh b=H1 b:=fun b n=>by rw[hHh]; exact if_neg fun z=>n z.1
  have hown:∀b,B b->¬B₀ b->Hh b=none:=fun b n n'=>by rw[hHh]; exact if_pos ⟨n,n'⟩
  have hin:∀b,B₀ b->Hh b=H1 b:=fun b n=>by rw[hHh]; exact if_neg fun z=>z.2 n
  have hle:Same Hh H1:=fun b o h=>by
   by_cases z:B b/\¬B₀ b
   ·rw[hown b z.1 z.2] at h; cases h
   ·rw[hHh] at h
    have h':(if B b/\¬B₀ b then none else H1 b)=some o:=h
    rw[if_neg z] at h';exact h'
  have hS:Same H₀ Hh:=fun b o h=>by
   have h1:=s1 b o (en.same b o h)
   by_cases z:B b
   ·rcases b2 b z with q|q
    ·rw[hin b q]; exact h1
    ·rw[h] at q; cases q
   ·rw[hoff b z]; exact h1
  have env1:=env.same s1
  have start:EnvS X.K Hh B₀ H1 σ δ:=by
   refine⟨hle,⟨B,b1,fun a z=>?_,env1⟩,fun i ds a h1 h2=>?_,fun a z=>?_⟩
   ·by_cases q:B₀ a
    ·exact .inl q
    ·exact .inr (hown a z q)
   ·have hn:=en.fr i ds a h1 h2
    have nb:¬B₀ a:=fun z=>en.b0 a z hn
    obtain⟨o,e3,a',e4,hB,_⟩:=Pd.get env1.all h1;rw[h2] at e3;cases e3;cases e4;exact hown a hB nb
   ·rw[hin a z]
    exact env1.bad a (b1 a z)
  refine⟨fun i m σ H=>m=items.length - i/\i<=items.length/\∃δi,EnvS X.K Hh B₀ H σ δi/\G8 f G (items.drop i) δi=some r,⟨_,rfl,Nat.zero_le _,δ,start,e1⟩,?_⟩
  rintro i m σi Hi ⟨rfl,hil,δi,eni,ei⟩
  have gr:Gr H1 Hi B B:=fun b o n h=>⟨n,eni.same b o (by rw[hoff b n]; exact h)⟩
  by_cases hlt:i<items.length
  ·refine .inr ⟨it.go i Hi gr hlt,fun σ' H'=>∃δn,EnvS X.K Hh B₀ H' σ' δn/\G8 f G (items.drop (i+1)) δn=some r,fun σ' H' ⟨δn,en',e'⟩=>⟨items.length - (i+1),by omega,rfl,hlt,δn,en',e'⟩,fun x H' y=>?_⟩
   obtain⟨sm,d,hd,rd⟩:=it.yld i Hi x H' gr y hlt;obtain⟨B',c1,c2,env0⟩:=eni.ex;have rd':Rp X.K H' B' d x:=rd B' (fun b o n h=>by
    have h':Hh b=some o:=by rw[hoff b n]; exact h
    refine⟨fun z=>?_,sm b o (eni.same b o h')⟩
    rcases c2 b z with q|q
    ·exact n (b1 b q)
    ·rw[h'] at q; cases q) env0.bad
   have env':=env0.same sm
   replace eni:=eni.grow sm
   have hdrop:items.drop i=d::items.drop (i+1):=by
    rw[List.drop_eq_getElem_cons hlt]
    congr 1
    rw[List.getElem?_eq_getElem hlt] at hd
    exact Option.some.inj hd
   rw[hdrop] at ei;unfold G8 at ei
   cases e3:f d δi with
   | none=>rw[e3] at ei; cases ei
   | some δ2 =>
    rw[e3] at ei;simp only[Option.bind_some] at ei;refine⟨B',d,δi,δ2,rd',env',e3,fun σ' w en'=>?_⟩
    have enb:EnvS X.K Hh B₀ H' σ' δ2:=eni.wr c1 c2 (Same.refl _) w en'
    cases e4:G δ2 with
    | none=>rw[e4] at ei; cases ei
    | some rb =>
     rw[e4] at ei;refine⟨Hh,B₀,δ2,rb,enb,e4,?_⟩
     cases rb with
     | nx δn=>exact fun σ' H' en'=>⟨δn,en',ei⟩
     | ct δn=>exact fun σ' H' en'=>⟨δn,en',ei⟩
     | bk δn =>
      cases ei;exact fun σ' H' en'=>k σ' H' (en'.lower hS en.b0)
     | rt d' =>
      cases ei;exact fun v H' s' r'=>k v H' (hS.trans s') r'
     | rf d' =>
      cases ei;exact fun p H' hp s' r'=>k p H' (hS.free hp) (hS.trans s') r'
  ·have e:i=items.length:=by omega
   subst e;refine .inl ⟨it.stop _ Hi gr (Nat.le_refl _),?_⟩
   rw[List.drop_length] at ei;cases ei;exact k σi Hi (eni.lower hS en.b0)
structure PFD(X:Cx)(ifs:List Expr)(g:Ds->Option Bool):Prop where
 mk::go:∀B δ,PF X ifs (tDT X.K B δ g)
instance{X:Cx}{ifs:List Expr}{g:Ds->Option Bool}:CoeFun (PFD X ifs g) (fun _=>∀B δ,PF X ifs (tDT X.K B δ g)):=⟨PFD.go⟩
theorem V8:PFD X [] noT:=.mk fun B δ pins s σ H Q I ⟨b,en,e,k⟩=>by
 cases e;exact Yy0 pins s σ H Q I (k H (Same.refl H))
theorem Y80(h:PTD X c gt):PFD X [c] gt:=.mk fun B δ=>Yq0 (h B δ)
theorem c40{n:Nat}{caps:List Nat}{σ:St}{j:Nat}(h:j<n):(N8 n caps σ)[j]?=some none:=by
 unfold N8;rw[List.getElem?_append_left (by simpa using h),List.getElem?_replicate,if_pos h]
theorem uq0{K:W.Frag}{H:Hp}{B:BS}:∀n:Nat,Paired (SlR K H B) (List.replicate n (none:Option V)) (List.replicate n Sl.un)
 | 0=>.nil
 | n+1=>.cons trivial (uq0 n)
theorem mh0{K:W.Frag}{H:Hp}{B:BS}{σ:St}{δ:Ds}(en:Env K H B σ δ):∀caps:List Nat,Paired (SlR K H B) (caps.map fun j=>(σ[j]?).join) (caps.map fun j=>nr0 δ[j]?)
 | []=>.nil
 | j::caps=>by
  refine .cons ?_ (mh0 en caps)
  show SlR K H B (σ[j]?).join (nr0 δ[j]?)
  cases h:δ[j]? with
  | none=>trivial
  | some sl =>
   cases sl with
   | un=>trivial
   | ow ds=>trivial
   | ex c n=>trivial
   | sh d =>
    obtain⟨v,e,r⟩:=en.get h;rw[e];exact⟨v,rfl,r⟩
theorem eu0{o:Option Sl}{ds:D}(h:nr0 o=.ow ds):False:=by
 cases o with
 | none=>cases h
 | some s=>cases s<;>cases h
theorem rj0{n:Nat}{caps:List Nat}{δ:Ds}{i:Nat}{ds:D}(h:(yo0 n caps δ)[i]?=some (.ow ds)):False:=by
 unfold yo0 at h
 by_cases hi:i<n
 ·rw[List.getElem?_append_left (by simpa using hi),List.getElem?_replicate,if_pos hi] at h
  cases h
 ·rw[List.getElem?_append_right (by simpa using hi),List.getElem?_map] at h
  cases q:caps[i - (List.replicate n Sl.un).length]? with
  | none=>rw[q] at h; cases h
  | some j =>
   rw[q] at h;exact eu0 (Option.some.inj h)
theorem Env.comp{K:W.Frag}{H:Hp}{B:BS}{σ:St}{δ:Ds}(en:Env K H B σ δ)(n:Nat)(caps:List Nat):Env K H B (N8 n caps σ) (yo0 n caps δ) :=
 ⟨Pd.app (uq0 n) (mh0 en caps),en.bad,fun i j a ds es h1 _ _ _=>(rj0 h1).elim⟩
theorem SlR.gr{K:W.Frag}{H H':Hp}{B B':BS}{o:Option V}{s:Sl}(g:Gr H H' B B')(no:∀ds,s≠.ow ds)(h:SlR K H B o s):SlR K H' B' o s:=by
 cases s with
 | un=>trivial
 | sh d=>obtain⟨v,e,r⟩:=h; exact⟨v,e,r.mono g⟩
 | ow ds=>exact absurd rfl (no ds)
 | ex c n=>obtain⟨a,e,r⟩:=h; exact⟨a,e,r.mono g⟩
theorem Pd.impG{K:W.Frag}{H H':Hp}{B B':BS}(g:Gr H H' B B'):∀{σ:St} {δ:Ds},(∀(i:Nat) (ds:D),δ[i]?≠some (.ow ds))->Paired (SlR K H B) σ δ->Paired (SlR K H' B') σ δ
 | _,_,_,.nil=>.nil
 | _,_,no,.cons r t=>.cons (r.gr g fun ds z=>no 0 ds (by rw[← z]; rfl)) (Pd.impG g (fun i ds z=>no (i+1) ds (by simpa using z)) t)
def tDF(K:W.Frag)(B:BS)(δ:Ds)(g:Ds->Option D):TE:=fun σ H Q=>∃d,Env K H B σ δ/\g δ=some d/\∀p H',H p=none->Same H H'->RpO K H' (fun a=>B a∨a=p) d p->Q (.ref p) H'
structure PDF(X:Cx)(e:Expr)(g:Ds->Option D):Prop where
 mk::go:∀B δ,PE X e (tDF X.K B δ g)
instance{X:Cx}{e:Expr}{g:Ds->Option D}:CoeFun (PDF X e g) (fun _=>∀B δ,PE X e (tDF X.K B δ g)):=⟨PDF.go⟩
theorem tD.toF{K:W.Frag}{B:BS}{δ:Ds}{g:Ds->Option D}{σ:St}{H:Hp}{Q:VK}(h:tD K B δ g σ H Q):tDF K B δ g σ H Q:=by
 obtain⟨d,en,e,k⟩:=h;exact⟨d,en,e,fun p H' hp s r=>k _ H' s (r.rp (fun a z=>.inl z) (en.free hp))⟩
theorem PDF.pd{X:Cx}{e:Expr}{g:Ds->Option D}(h:PDF X e g):PD X e g:=.mk fun B δ=>(h B δ).imp fun σ H Q z=>z.toF
theorem pr0{K:W.Frag}{B:BS}{δ:Ds}{σ:St}{H:Hp}{Q:VK}{n:Nat}{caps:List Nat}{gi:Ds->Option (List D)}{idx:List Nat}{f:D->Ds->Option Ds}{gt:Ds->Option Bool}{ge:Ds->Option D}(hidx:∀j∈idx,j<n)
  (h:tDF K B δ (Z0 n caps gi f gt ge) σ H Q) :
  ii0 n caps (tDI K B δ gi) (fun v σ H Q=>∃B d δ,tDG K idx f B d δ v σ H Q) (fun σ H Q=>∃B δ,tDT K B δ gt σ H Q) (fun σ H Q=>∃B δ,tD K B δ ge σ H Q) σ H Q:=by
 obtain⟨d,en,h,k⟩:=h;unfold Z0 at h
 cases e1:gi δ with
 | none=>rw[e1] at h; cases h
 | some items =>
  rw[e1] at h;simp only[Option.bind_some] at h
  by_cases hsz:items.length<=sizeLine
  ·rw[if_pos hsz] at h
   cases e2:W6 f gt ge (yo0 n caps δ) items with
   | none=>rw[e2] at h; cases h
   | some out =>
    rw[e2] at h;cases h;refine⟨items,en,e1,fun J H1 s1 it=>fun L hL=>?_⟩
    have en1:=en.same s1
    have nBL:¬B L:=en1.free hL
    obtain⟨Bp,hBp⟩:∃Bp:BS,Bp=fun a=>B a∨a=L:=⟨_,rfl⟩
    have bpL:Bp L:=by rw[hBp]; exact .inr rfl
    have bpB:∀a,B a->Bp a:=fun a z=>by rw[hBp]; exact .inl z
    have bpI:∀a,Bp a->B a∨a=L:=fun a z=>by rw[hBp] at z; exact z
    have gr:∀{H2:Hp},Same H1 H2->Gr H1 H2 B Bp:=fun {H2} s2 b o nb hb=>⟨(fun z=>by
     rcases bpI b z with q|q
     ·exact nb q
     ·subst q; rw[hL] at hb; cases hb),s2 b o hb⟩
    refine⟨fun i m ys H2=>m=items.length - i/\i<=items.length/\H2 L=some (.lst ys)/\Same H1 H2/\ys.length<=i/\∃pre rest,out=pre++rest/\Rps K H2 Bp pre ys/\W6 f gt ge (yo0 n caps δ) (items.drop i)=some rest,
     ⟨_,rfl,Nat.zero_le _,j7,Z1 hL,Nat.le_refl _,[],out,rfl,by rw[o8],e2⟩,?_⟩
    rintro i m ys H2 ⟨rfl,hil,hD,s2,hyl,pre,rest,ho,rp,ec⟩
    have en2:Env K H2 Bp (N8 n caps σ) (yo0 n caps δ):=by
     refine⟨Pd.impG (gr s2) (fun i ds z=>rj0 z) (en1.comp n caps).all,fun a z=>?_,fun i j a ds es h1 _ _ _=>(rj0 h1).elim⟩
     rcases bpI a z with q|q
     ·exact(en1.same s2).bad a q
     ·subst q; rw[hD]; exact fun z=>nomatch z
    by_cases hlt:i<items.length
    ·refine .inr ⟨it.go i H2 (Gr.same s2) hlt,fun x H3 y=>?_⟩
     obtain⟨sm,dx,hdx,rx⟩:=it.yld i H2 x H3 (Gr.same s2) y hlt;have rx':Rp K H3 Bp dx x:=rx Bp (gr (s2.trans sm)) en2.bad
     replace en2:=en2.same sm
     replace s2:=s2.trans sm
     replace hD:=sm _ _ hD
     replace rp:=rp.same sm
     have hdrop:items.drop i=dx::items.drop (i+1):=by
      rw[List.drop_eq_getElem_cons hlt]
      congr 1
      rw[List.getElem?_eq_getElem hlt] at hdx
      exact Option.some.inj hdx
     rw[hdrop] at ec;unfold W6 at ec
     cases e3:f dx (yo0 n caps δ) with
     | none=>rw[e3] at ec; cases ec
     | some δ' =>
      rw[e3] at ec
      dsimp only at ec
      refine⟨Bp,dx,yo0 n caps δ,δ',rx',en2,e3,fun σ4 w en4=>⟨⟨w.len,fun j v z=>?_⟩,?_⟩⟩
      ·by_cases hj:j∈idx
       ·rw[c40 (hidx j hj)] at z; cases z
       ·rw[(w.oth j hj).1]; exact z
      ·cases e4:gt δ' with
       | none=>rw[e4] at ec; cases ec
       | some t =>
        rw[e4] at ec;refine⟨Bp,δ',t,en4,e4,fun H5 s5=>?_⟩
        cases t with
        | false =>
         rw[if_neg Bool.false_ne_true];exact⟨items.length - (i+1),by omega,rfl,hlt,s5 _ _ hD,s2.trans s5,by omega,pre,rest,ho,rp.same s5,ec⟩
        | true =>
         rw[if_pos rfl]
         dsimp only at ec
         cases e5:ge δ' with
         | none=>rw[e5] at ec; cases ec
         | some yd =>
          rw[e5] at ec
          dsimp only at ec
          cases e6:W6 f gt ge (yo0 n caps δ) (items.drop (i+1)) with
          | none=>rw[e6] at ec; cases ec
          | some rest' =>
           rw[e6] at ec;cases ec;refine⟨Bp,δ',yd,en4.same s5,e5,fun v H6 s6 r6=>?_⟩
           have hD6:H6 L=some (.lst ys):=s6 _ _ (s5 _ _ hD)
           have g6:Gr H6 (upd H6 L (.lst (ys++[v]))) Bp Bp:=fun b o nb hb=>⟨nb,by
            rw[Y5 (fun z=>nb (by rw[z]; exact bpL))]; exact hb⟩
           refine⟨hD6,by omega,items.length - (i+1),by omega,rfl,hlt,j7,fun b o hb=>?_,by simp; omega,pre++[yd],rest',by rw[ho]; simp,?_,e6⟩
           ·have nbL:b≠L:=fun z=>by rw[z,hL] at hb; cases hb
            rw[Y5 nbL];exact s6 _ _ (s5 _ _ (s2 _ _ hb))
           ·exact(Rps.snoc ((rp.same s5).same s6) r6).mono g6
    ·have e:i=items.length:=by omega
     subst e;refine .inl ⟨it.stop _ H2 (Gr.same s2) (Nat.le_refl _),?_⟩
     rw[List.drop_length] at ec;have ec':([]:List D)=rest:=Option.some.inj ec;subst ec';rw[List.append_nil] at ho;subst ho;refine k L H2 (s1.free hL) (s1.trans s2) ⟨ys,hD,?_⟩
     rw[hBp] at rp;exact rp
  ·rw[if_neg hsz] at h; cases h
theorem nu0{sc scope:Scope}{elt iter:Expr}{ifs:List Expr}{N':List Str}{n:Nat}{caps:List Nat}{gi:Ds->Option (List D)}{idx:List Nat}{f:D->Ds->Option Ds}{ge:Ds->Option D}
  (hc:X.calm=true) (hsc:X.env.scope=sc) (ok:CompOk sc scope X.N N' n caps) (hidx:∀j∈idx,j<n) (hi:PID X tg iter gi)
  (hg:∀cl s H ex,PGD (X3 X scope cl N' s H ex) tg idx f) (ht:∀cl s H ex,PFD (X3 X scope cl N' s H ex) ifs gt) (he:∀cl s H ex,PD (X3 X scope cl N' s H ex) elt ge)
  (hs:∀x,foldedSetIterable iter X.env x=pure x:=by intro _; rfl) :
  PDF X (.ListComp elt [⟨tg,iter,ifs,0⟩] scope pos) (Z0 n caps gi f gt ge):=.mk fun B δ =>
 (Z00 hc hsc ok (hi B δ) (g:=fun v σ H Q=>∃B d δ,tDG X.K idx f B d δ v σ H Q) (tt:=fun σ H Q=>∃B δ,tDT X.K B δ gt σ H Q) (te:=fun σ H Q=>∃B δ,tD X.K B δ ge σ H Q)
  (fun cl s H ex pins s' σ H v u Q I r ⟨B,d,δ,h⟩=>hg cl s _ ex B d δ pins s' σ H v u Q I r h)
  (fun cl s H ex pins s' σ H Q I ⟨B,δ,h⟩=>ht cl s _ ex B δ pins s' σ H Q I h)
  (fun cl s H ex pins s' σ H Q I ⟨B,δ,h⟩=>he cl s _ ex B δ pins s' σ H Q I h) hs).imp fun σ H Q h=>pr0 hidx h
theorem ae0{sc scope:Scope}{elt iter:Expr}{ifs:List Expr}{N':List Str}{n:Nat}{caps:List Nat}{gi:Ds->Option (List D)}{idx:List Nat}{f:D->Ds->Option Ds}{ge:Ds->Option D}
  (hc:X.calm=true) (hsc:X.env.scope=sc) (ok:CompOk sc scope X.N N' n caps) (hidx:∀j∈idx,j<n) (hi:PID X tg iter gi)
  (hg:∀cl s H ex,PGD (X3 X scope cl N' s H ex) tg idx f) (ht:∀cl s H ex,PFD (X3 X scope cl N' s H ex) ifs gt) (he:∀cl s H ex,PD (X3 X scope cl N' s H ex) elt ge)
  (hs:∀x,foldedSetIterable iter X.env x=pure x:=by intro _; rfl) :
  PD X (.ListComp elt [⟨tg,iter,ifs,0⟩] scope pos) (Z0 n caps gi f gt ge):=(nu0 hc hsc ok hidx hi hg ht he hs).pd
theorem kf0(i:Nat){y:Str}{py spos:Pos}{sc scope:Scope}{elt iter:Expr}{ifs:List Expr}{N':List Str}{n:Nat}{caps:List Nat}{gi:Ds->Option (List D)}{idx:List Nat}{f:D->Ds->Option Ds}{ge:Ds->Option D}
  (hN:X.N.Nodup) (hc:X.calm=true) (hsc:X.env.scope=sc) (ok:CompOk sc scope X.N N' n caps) (hidx:∀j∈idx,j<n) (hi:PID X tg iter gi)
  (hg:∀cl s H ex,PGD (X3 X scope cl N' s H ex) tg idx f) (ht:∀cl s H ex,PFD (X3 X scope cl N' s H ex) ifs gt) (he:∀cl s H ex,PD (X3 X scope cl N' s H ex) elt ge)
  (hiN:X.N[i]?=some y:=by rfl) (hy:Loc X.env.scope y:=by first|exact Or.inl rfl|exact Or.inr rfl)
  (hsw:swapsWith (.ListComp elt [⟨tg,iter,ifs,0⟩] scope pos) (some (.Name y py)) spos.line X.env=pure true:=by rfl)
  (hs:∀x,foldedSetIterable iter X.env x=pure x:=by intro _; rfl)
  (hf:X.fn y=true∨X.env.scope.names.lookup y=some .local:=by first|exact .inl rfl|exact .inr rfl|assumption) :
  PSD X (.Assign [.Name y py] (.ListComp elt [⟨tg,iter,ifs,0⟩] scope pos) spos) (n8 (gN i) (Z0 n caps gi f gt ge)):=.mk fun H₀ B₀ δ pins s σ H D I ⟨r,en,e1,k⟩=>by
 unfold n8 at e1;obtain⟨B,b1,b2,env⟩:=en.ex
 cases e2:Z0 n caps gi f gt ge δ with
 | none=>rw[e2] at e1; cases e1
 | some d =>
  rw[e2] at e1;cases e1;refine jx0 (i:=i) hN hiN hy hc hsc ok (hi B δ) (g:=fun v σ H Q=>∃B d δ,tDG X.K idx f B d δ v σ H Q) (tt:=fun σ H Q=>∃B δ,tDT X.K B δ gt σ H Q) (te:=fun σ H Q=>∃B δ,tD X.K B δ ge σ H Q)
   (fun cl s H ex pins s' σ H v u Q I r ⟨B,d,δ,h⟩=>hg cl s _ ex B d δ pins s' σ H v u Q I r h)
   (fun cl s H ex pins s' σ H Q I ⟨B,δ,h⟩=>ht cl s _ ex B δ pins s' σ H Q I h)
   (fun cl s H ex pins s' σ H Q I ⟨B,δ,h⟩=>he cl s _ ex B δ pins s' σ H Q I h) hsw hs hf pins s σ H D I (pr0 hidx (tD.toF ⟨d,env,e2,fun v H' s' r'=>k _ H' (en.wr b1 b2 s' e50 ((env.same s').set i r'))⟩))
end
theorem we0{K:W.Frag}{H:Hp}{B:BS}{N:List Str}:∀{ds:List D} {vs:List V},Rps K H B ds vs->Paired (SlR K H B) (vs.map some) (ds.map Sl.sh)
 | [],_,h=>by rw[o8] at h; subst h; exact .nil
 | d::ds,_,h=>by
  rw[o4] at h;obtain⟨x,r,rfl,h1,h2⟩:=h;exact .cons ⟨x,rfl,h1⟩ (we0 (N:=N) h2)
theorem z40{N:List Str}{ds:List D}{i:Nat}{es:D}(h:(Y9 N ds)[i]?=some (.ow es)):False:=by
 unfold Y9 at h
 by_cases hi:i<ds.length
 ·rw[List.getElem?_append_left (by simpa using hi),List.getElem?_map] at h
  cases q:ds[i]? with
  | none=>rw[q] at h; cases h
  | some d=>rw[q] at h; cases h
 ·rw[List.getElem?_append_right (by simpa using hi),List.getElem?_replicate] at h
  split at h<;>cases h
section
variable{P:Program}{w:World}{K:W.Frag}{mg:Str->Option Value}{base:Heap}
theorem okD{x qual:Str}{st:Stmt}{fa:Addr}{fd:FuncData}{N ps:List Str}{k:Nat}{f:List D->Option D}{G:Ds->Option Res}(F:Fun K x qual st fa fd)(S:FnScope N ps (p6 st))
  (body:∀(cdv:Value) (A:Around) (outer:List PySem.Env) (s:Shared) (H:Hp) (E:XK),Room k (A.deeper (envOfC qual (p6 st) s.heap.objs.size fa cdv))->PSsD (v50 CX0 P w K mg base N qual (p6 st) fa cdv A outer s H E).nox (m5 st) G)
  (hf:∀ds d,f ds=some d->ds.length=ps.length/\(G (Y9 N ds)=some (.rt d)∨(d=.non/\∃δ,G (Y9 N ds)=some (.nx δ))∨G (Y9 N ds)=some (.rf d)/\isL d=false)) :
  FnOk P w K mg base CX0 (k+1) fa fd ps (spD K f):=by
 refine F.ok S (fun vs H Q E ⟨B,ds,d,_,r,h,_⟩=>?_) (fun cdv A outer s H vs Q E hr ⟨B,ds,d,hb,r,h,q⟩=>?_)
 ·rw[r.length]; exact(hf ds d h).1
 ·refine⟨_,body cdv A outer s H E hr H B (Y9 N ds),?_⟩
  have en:EnvS K H B H (L2.start N vs) (Y9 N ds):=by
   refine⟨Same.refl H,⟨B,fun _ z=>z,fun _ z=>.inl z,⟨?_,hb,fun i j a ds' es h1 _ _ _=>(z40 h1).elim⟩⟩,fun i ds' a h1 _=>(z40 h1).elim,hb⟩
   unfold L2.start Y9;rw[r.length];exact Pd.app (we0 (N:=N) r) (uq0 _)
  rcases (hf ds d h).2 with e|⟨rfl,δ,e⟩|⟨e,hn⟩
  ·exact⟨_,en,e,fun v H' s' r'=>q v H' s' r'⟩
  ·exact⟨_,en,e,fun σ' H' en'=>q .non H' en'.same (by rw[W0])⟩
  ·exact⟨_,en,e,fun p H' hp s' r'=>q _ H' s' ((r'.toO hn).rp (fun a z=>.inl z) (fun z=>hb p z hp))⟩
def spN(K:W.Frag)(f:List D->Option D):Sp:=fun vs H Q _=>∃(B:BS) (ds:List D) (d:D),(∀a,B a->H a≠none)/\Rps K H B ds vs/\f ds=some d/\∀p H',H p=none->Same H H'->RpO K H' (fun a=>B a∨a=p) d p->Q (.ref p) H'
theorem okN{x qual:Str}{st:Stmt}{fa:Addr}{fd:FuncData}{N ps:List Str}{k:Nat}{f:List D->Option D}{G:Ds->Option Res}(F:Fun K x qual st fa fd)(S:FnScope N ps (p6 st))
  (body:∀(cdv:Value) (A:Around) (outer:List PySem.Env) (s:Shared) (H:Hp) (E:XK),Room k (A.deeper (envOfC qual (p6 st) s.heap.objs.size fa cdv))->PSsD (v50 CX0 P w K mg base N qual (p6 st) fa cdv A outer s H E).nox (m5 st) G)
  (hf:∀ds d,f ds=some d->ds.length=ps.length/\G (Y9 N ds)=some (.rf d)/\isL d=false) :
  FnOk P w K mg base CX0 (k+1) fa fd ps (spN K f):=by
 refine F.ok S (fun vs H Q E ⟨B,ds,d,_,r,h,_⟩=>?_) (fun cdv A outer s H vs Q E hr ⟨B,ds,d,hb,r,h,q⟩=>?_)
 ·rw[r.length]; exact(hf ds d h).1
 ·refine⟨_,body cdv A outer s H E hr H B (Y9 N ds),?_⟩
  have en:EnvS K H B H (L2.start N vs) (Y9 N ds):=by
   refine⟨Same.refl H,⟨B,fun _ z=>z,fun _ z=>.inl z,⟨?_,hb,fun i j a ds' es h1 _ _ _=>(z40 h1).elim⟩⟩,fun i ds' a h1 _=>(z40 h1).elim,hb⟩
   unfold L2.start Y9;rw[r.length];exact Pd.app (we0 (N:=N) r) (uq0 _)
  exact⟨_,en,(hf ds d h).2.1,fun p H' hp s' r'=>q p H' hp s' (r'.toO (hf ds d h).2.2)⟩
end
end DL
namespace L2
open PySem PySem.Spec PyProof.Rows
section
variable{X:Cx}
theorem ma0:∀{bs:List Bool} {us:List Value} {i:Nat} {v:Value},Vals (bs.map V.bl) us->us[i]?=some v->v=.bool (bs.getD i true)
 | [],_,_,_,r,e=>by
  rw[List.map_nil] at r;cases r
  simp at e
 | b::bs,_,0,v,r,e=>by
  rw[List.map_cons] at r
  cases r with
  | cons r1 r2=>simp at e; subst e; exact r1
 | b::bs,_,i+1,v,r,e=>by
  rw[List.map_cons] at r
  cases r with
  | cons r1 r2=>simpa using ma0 (i:=i) r2 (by simpa using e)
theorem all_range(bs:List Bool):(List.range bs.length).all (fun i=>bs.getD i true)=bs.all id:=by
 rw[Bool.eq_iff_iff,List.all_eq_true,List.all_eq_true]
 constructor
 ·intro h b hb
  obtain⟨i,hi,rfl⟩:=List.mem_iff_getElem.mp hb;have:=h i (List.mem_range.mpr hi)
  simpa [List.getD_eq_getElem?_getD,hi] using this
 ·intro h i hi
  have hi':=List.mem_range.mp hi
  have:=h bs[i] (List.getElem_mem hi')
  simpa [List.getD_eq_getElem?_getD,hi'] using this
theorem db0(hc:X.calm=true):CallR X (.builtin "all") (fun xs H Q=>∃(p:Addr) (bs:List Bool),xs=[.ref p]/\SqL X.K H p (bs.map V.bl)/\Q (.bl (bs.all id)) H):=by
 intro pins s σ H xs us Q I rs h;obtain⟨p,bs,rfl,hq,q⟩:=h;obtain⟨u,rfl,ru⟩:=rs.one;cases ru;obtain⟨its,rv,pl,hz⟩:=I.list hq;refine call_all_walk (wpAny_pyIter_list pl.isList ?_)
 have hp:p≠s.heap.objs.size:=by
  obtain⟨o,n,e,_⟩:=pl;exact Nat.ne_of_lt (Heap.lt_size e)
 refine⟨_,_,_,_,_,_,fun i=>bs.getD i true,rfl,Walks.list (A:=X.A.in1) (I.ok.hd hc) s.heap.objs.size p hp its.toArray,⟨⟨_,Heap.get?_push_size _ rfl,rfl,rfl⟩,pl.isList.push _⟩,?_,?_⟩
 ·intro i v s' Q' E' hP hQ
  have e:=ma0 rv (i:=i) (v:=v) (by simpa using hP)
  subst e;exact wpAny_truthy_bool hQ
 ·intro h' tk hk
  have e1:its.toArray.size=bs.length:=by
   have:=rv.length
   simp at this
   simp[this]
  rw[e1,all_range];refine⟨.bl (bs.all id),H,I.kept (t':=tk) fun b o e=>?_,rfl,q⟩
  refine hk b o ?_ (Heap.get?_push_of_some _ e)
  intro z;have z':b=s.heap.objs.size:=by simpa using z
  subst z';exact absurd (Heap.lt_size e) (Nat.lt_irrefl _)
theorem mo0:∀{ys:List Str} {us:List Value},Vals (ys.map V.str) us->StrsAre us ys
 | [],_,r=>by rw[List.map_nil] at r; cases r; exact .nil
 | y::ys,_,r=>by
  rw[List.map_cons] at r
  cases r with
  | cons r1 r2 =>
   obtain⟨t,e⟩:=r1;subst e;exact .cons y t (mo0 r2)
theorem ag0:MtR X "str.join" (fun x xs H Q=>∃(sep:Str) (p:Addr) (ys:List Str),x=.str sep/\xs=[.ref p]/\SqL X.K H p (ys.map V.str)/\(ys.map (·.length)).sum+ys.length*sep.length<=16777216/\Q (.str (Txt.join sep ys)) H):=by
 intro pins s σ H x xs v us Q I rx rs h;obtain⟨sep,p,ys,rfl,rfl,hq,hz,q⟩:=h;obtain⟨t,rfl⟩:=rx;obtain⟨u,rfl,ru⟩:=rs.one;cases ru;obtain⟨its,rv,pl,_⟩:=I.list hq;exact join_list pl.isList (by simpa using mo0 rv) hz fun t' k=>⟨.str _,H,I.tok k,⟨t',rfl⟩,q⟩
theorem part_of{u:Value}{o:Option Int}(p:IsPart u o):∃l:Option (Int×Tok),u=partValue l/\l.map (·.1)=o:=by
 cases p with
 | none=>exact⟨none,rfl,rfl⟩
 | int i t=>exact⟨some (i,t),rfl,rfl⟩
theorem Xu0:SlR X (fun x lo hi H Q=>∃z,x=.str z/\z.length<=sizeLine/\Q (.str (Txt.slice z lo hi)) H):=by
 intro pins s σ H x v vl vu lo hi sl Q I rx hs pl pu h;obtain⟨z,rfl,hz,q⟩:=h;obtain⟨t,rfl⟩:=rx;obtain⟨l,rfl,rfl⟩:=part_of pl;obtain⟨u,rfl,rfl⟩:=part_of pu;refine⟨"str",_,F.slot_str_getitem.lookup,typeIs_str _ _ _,wpAny_getItem_str_slice (l:=l) (u:=u) (st:=none) ?_ rfl (post_val_or_str ⟨Nat.le_trans (Txt.slice_le z _ _) hz,fun t' k=>⟨.str _,H,I.tok k,⟨t',rfl⟩,q⟩⟩)⟩
 obtain⟨o,h1,h2,h3⟩:=hs;exact⟨o,h1,h2,h3⟩
end
end L2
namespace DL
open PySem PySem.Spec PyProof.Rows L2
def tyD:D->String
 | .non => "NoneType"|.bl _ => "bool"|.int _ => "int"|.str _ => "str"|.tup _ => "tuple"|.lst _ => "list"|.dct _ _ => "dict"
def okT(T:String)(f:D->Bool):Prop:=∀(K:W.Frag) (d:D),W.kitOne K (.type (tyD d)) (.type T)=some (f d)
theorem bv0:okT "int" isInt:=fun K d=>by cases d<;>kernel_rfl
theorem ln0:okT "bool" isBool:=fun K d=>by cases d<;>kernel_rfl
theorem zt0:okT "tuple" isTup:=fun K d=>by cases d<;>kernel_rfl
theorem d30:okT "list" b00:=fun K d=>by cases d<;>kernel_rfl
section
variable{X:Cx}
theorem cf0{T:String}{f:D->Bool}(hT:okT T f):CallR X (.builtin "isinstance") (fun xs H Q=>∃B d x,xs=[x,.ty T]/\Rp X.K H B d x/\Q (.bl (f d)) H):=by
 intro pins s σ H xs us Q I rs h;obtain⟨B,d,x,rfl,r,q⟩:=h;obtain⟨u,c,rfl,ru,rc⟩:=rs.two;obtain rfl:c=Value.type T:=rc;have fin:∀tk,EP X pins σ Q (.bool (f d)) { s with toks:=tk }:=fun tk=>⟨.bl _,H,I.tok tk,rfl,q⟩
 have e:=hT X.K d
 cases d with
 | non=>rw[W0] at r; subst r; cases (show u=Value.none from ru); exact W.kia_one W.kitx_none I.kIn True.intro e (fun z=>nomatch z) fin
 | bl y=>rw[Y4] at r; subst r; cases (show u=Value.bool y from ru); exact W.kia_one W.kitx_bool I.kIn True.intro e (fun z=>nomatch z) fin
 | int i=>rw[n6] at r; subst r; obtain⟨t,rfl⟩:=(show ∃t,u=Value.int i t from ru); exact W.kia_one W.kitx_int I.kIn True.intro e (fun z=>nomatch z) fin
 | str y=>rw[Y0] at r; subst r; obtain⟨t,rfl⟩:=(show ∃t,u=Value.str y t from ru); exact W.kia_one W.kitx_str I.kIn True.intro e (fun z=>nomatch z) fin
 | tup ds =>
  rw[X4] at r;obtain⟨a,xs,rfl,hq,_⟩:=r;cases (show u=Value.ref a from ru);obtain⟨its,_,p,_⟩:=I.tuple hq.to;obtain⟨o,h1,h2,_⟩:=p;exact W.kia_one W.kitx_tuple I.kIn ⟨o,h1,h2⟩ e (fun z=>nomatch z) fin
 | lst ds =>
  rw[Z5] at r;obtain⟨a,xs,rfl,hq,_⟩:=r;cases (show u=Value.ref a from ru);obtain⟨its,_,p,_⟩:=I.list hq.to;obtain⟨o,n,h1,h2,_⟩:=p;exact W.kia_one W.kitx_list I.kIn ⟨o,h1,h2⟩ e (fun z=>nomatch z) fin
 | dct ks ds =>
  rw[wv0] at r;obtain⟨a,xs,rfl,_,hq,_⟩:=r;cases (show u=Value.ref a from ru)
  cases ks with
  | inl ks =>
   obtain⟨_,_,vs,_,p⟩:=(show ObjOk X.prog X.w H s.heap a (.dK (ks.zip xs)) from I.hok a _ hq);obtain⟨o,es,ep,h1,h2,_⟩:=p;exact W.kia_one W.kitx_dict I.kIn ⟨o,h1,h2.1⟩ e (fun z=>nomatch z) fin
  | inr ks =>
   obtain⟨_,_,vs,_,o,es,ep,h1,h2,_⟩:=(show ObjOk X.prog X.w H s.heap a (.dT (ks.zip xs)) from I.hok a _ hq);exact W.kia_one W.kitx_dict I.kIn ⟨o,h1,h2.1⟩ e (fun z=>nomatch z) fin
theorem y30{T:String}{f:D->Bool}{Tn:Str}{e:Expr}{g:Ds->Option D}{p p2 pos:Pos}(hT:okT T f)(hb:bootBuiltins Tn=some (.type T))(hm:X.mg "isinstance"=none)(hmT:X.mg Tn=none)(h:PD X e g)(hg:Gl X "isinstance" := by rfl)(hgT:Gl X Tn:=by rfl)
  (hn:Tn ≠"__name__" := by decide) (hd:(Tn==("__debug__" : Str))=false:=by decide)
  (he:starEach [e,.Name Tn p2] X.env=(false,eval e X.env)::starEach [.Name Tn p2] X.env:=by rfl) (he2:starEach [.Name Tn p2] X.env=(false,eval (.Name Tn p2) X.env)::starEach [] X.env:=by rfl)
  (hpl:(backTo pos (starEach [.Name Tn p2] X.env)).any (·.1)=false:=by rfl) :
  PD X (.Call (.Name "isinstance" p) [e,.Name Tn p2] [] pos) (Q4 f g) :=
 .mk fun B δ=>(rt0 (cf0 hT) hg hm PyProof.Rows.boot_isinstance (z00 (h B δ) (z00 (Zo0 (v:=.ty T) hgT hmT hb rfl hn hd) yj0 he2) he) (by decide) (by decide) he hpl).imp fun σ H Q ⟨d,en,h,k⟩=>by
  unfold Q4 at h
  cases e1:g δ with
  | none=>rw[e1] at h; cases h
  | some x =>
   rw[e1] at h;cases h;exact⟨x,en,e1,fun v H1 s1 r1=>⟨B,x,v,rfl,r1,k _ H1 s1 (by rw[Y4])⟩⟩
theorem k40{K:W.Frag}{C:Int->Int->Prop}[∀i j,Decidable (C i j)]{g:Int->Int->V}{g':Int->Int->D}(hg:∀i j H B,Rp K H B (g' i j) (g i j)):Op2 K (rI C g) (ii fun i j=>if C i j then some (g' i j) else none):=by
 intro H B x y dx dy d Q hb rx ry h k;cases dx<;>cases dy<;>simp only[ii] at h<;>try cases h
 rename_i i j;split at h
 ·cases h
  rw[n6] at rx ry;subst rx ry;exact⟨i,j,rfl,rfl,by assumption,k _ H (Same.refl H) (hg i j H B)⟩
 ·cases h
theorem qj0{K:W.Frag}{g:Int->Int->V}{g':Int->Int->D}(hg:∀i j H B,Rp K H B (g' i j) (g i j)):Op2 K (rI0 g) (ii fun i j=>some (g' i j)):=by
 intro H B x y dx dy d Q hb rx ry h k;cases dx<;>cases dy<;>simp only[ii] at h<;>try cases h
 rename_i i j;rw[n6] at rx ry;subst rx ry;exact⟨i,j,rfl,rfl,k _ H (Same.refl H) (hg i j H B)⟩
instance decDiv(i j:Int):Decidable (dn0 i j):=inferInstanceAs (Decidable (0<j/\j<1073741824))
instance decPow(i j:Int):Decidable (da0 i j):=inferInstanceAs (Decidable (0<=j/\j<=1000000/\i.natAbs<2 ^ 64))
variable{e a b:Expr}{pos:Pos}{g ga gb:Ds->Option D}
theorem ft0(ha:PD X a ga)(hb:PD X b gb):PD X (.BinOp a .Sub b pos) (o2 ga gb m00):=t70 Xb0 (qj0 (g':=fun i j=>.int (i - j)) fun _ _ _ _=>by rw[n6]) ha hb
theorem V5(ha:PD X a ga)(hb:PD X b gb):PD X (.BinOp a .FloorDiv b pos) (o2 ga gb b7):=t70 bn0 (k40 (C:=dn0) (g':=fun i j=>.int (i/j)) fun _ _ _ _=>by rw[n6]) ha hb
theorem X6(ha:PD X a ga)(hb:PD X b gb):PD X (.BinOp a .Mod b pos) (o2 ga gb j5):=t70 Yk0 (k40 (C:=fun _ j=>0<j) (g':=fun i j=>.int (i%j)) fun _ _ _ _=>by rw[n6]) ha hb
theorem f70(ha:PD X a ga)(hb:PD X b gb):PD X (.BinOp a .Pow b pos) (o2 ga gb rm0):=t70 Xj0 (k40 (C:=da0) (g':=fun i j=>.int (i ^ j.toNat)) fun _ _ _ _=>by rw[n6]) ha hb
end
end DL
namespace L2
open PySem PySem.Spec PyProof.Rows
section
variable{X:Cx}
def cz0(K:W.Frag):R2:=fun x y H Q=>∃l b xs zs,x=.ref l/\y=.ref b/\SqL K H l xs/\SqL K H b zs/\xs.length+zs.length<=sizeLine/\∀p,H p=none->Q (.ref p) (upd H p (.lst (xs++zs)))
theorem aa0:OpR X (binaryOp .Add) (cz0 X.K):=by
 intro pins s σ H x y v u Q I rx ry h;obtain⟨l,b,xs,zs,rfl,rfl,hH,hB,hz,q⟩:=h;cases rx;cases ry;obtain⟨its,r,p1,z1⟩:=I.list hH;obtain⟨its2,r2,p2,z2⟩:=I.list hB;obtain⟨⟨cls,dd,data,sl⟩,ho,hc,n,hd⟩:=p1.isList;obtain⟨⟨cls2,dd2,data2,sl2⟩,ho2,hc2,n2,hd2⟩:=p2.isList;simp only at hc hd hc2 hd2;subst hc hd hc2 hd2;have e:its.toArray++its2.toArray=(its++its2).toArray:=by simp
 have hsz:its.toArray.size+its2.toArray.size<=sizeLine:=by
  rw[List.size_toArray,List.size_toArray,← r.length,← r2.length]; exact hz
 refine concat_meets ⟨_,ho,rfl⟩ ⟨_,ho2,rfl⟩ noFill_list_add seq_list_add PySem.F.slot_list_add PySem.F.entry_list_add (PySem.F.args_list_add_2 _ _) (list_addW l b its.toArray its2.toArray n n2 dd dd2 sl sl2 hsz) ⟨ho,ho2,?_⟩
 rw[e];exact⟨.ref _,_,I.lnew (t':=s.toks) (r.append r2) (by rw[List.length_append]; exact hz),rfl,q _ I.fresh⟩
end
end L2
namespace DL
open PySem PySem.Spec PyProof.Rows L2
section
variable{X:Cx}{K:W.Frag}{e a b:Expr}{es:List Expr}{pos p:Pos}{g ga gb:Ds->Option D}{gA:Ds->Option (List D)}
theorem o10{H:Hp}{B:BS}(hb:∀a,B a->H a≠none){p:Addr}(h:H p=none):¬B p:=fun z=>hb p z h
theorem si0{H:Hp}{B:BS}{p:Addr}{ds:List D}{xs:List V}(hb:∀a,B a->H a≠none)(h:H p=none)(r:Rps K H B ds xs):Rp K (upd H p (.lst xs)) B (.lst ds) (.ref p):=by
 rw[Z5];exact⟨p,xs,rfl,.inl ⟨o10 hb h,.inl j7⟩,r.same (Z1 h)⟩
theorem sy0{H:Hp}{B:BS}{p:Addr}{ds:List D}{xs:List V}(hb:∀a,B a->H a≠none)(h:H p=none)(r:Rps K H B ds xs):Rp K (upd H p (.tup xs)) B (.tup ds) (.ref p):=by
 rw[X4];exact⟨p,xs,rfl,⟨o10 hb h,j7⟩,r.same (Z1 h)⟩
theorem wd0:Op2 K (rI0 fun i j=>.bl (decide (i<j))) ltD:=qj0 (g':=fun i j=>.bl (decide (i<j))) fun _ _ _ _=>by rw[Y4]
theorem gv0:Op2 K (rI0 fun i j=>.bl (decide (i<=j))) leD:=qj0 (g':=fun i j=>.bl (decide (i<=j))) fun _ _ _ _=>by rw[Y4]
theorem ll0:Op2 K (rI0 fun i j=>.bl (decide (j<i))) gtD:=qj0 (g':=fun i j=>.bl (decide (j<i))) fun _ _ _ _=>by rw[Y4]
theorem gg0{H:Hp}{B:BS}{x y:V}{dx dy:D}{b:Bool}(rx:Rp K H B dx x)(ry:Rp K H B dy y)(h:eqS dx dy=some b):ew0 x y=true/\decide (x=y)=b:=by
 cases dx<;>cases dy<;>simp only[eqS] at h<;>try cases h
 all_goals
  simp only[W0,Y4,n6,Y0] at rx ry;subst rx ry;refine⟨rfl,?_⟩
  simp
theorem T7:Op2 K rEq eqD:=by
 intro H B x y dx dy d Q hb rx ry h k;unfold eqD at h
 cases e:eqS dx dy with
 | none=>rw[e] at h; cases h
 | some b =>
  rw[e] at h;cases h;obtain⟨h1,h2⟩:=gg0 rx ry e;exact⟨h1,by rw[h2]; exact k _ H (Same.refl H) (by rw[Y4])⟩
theorem Wu0:Op2 K rNe neD:=by
 intro H B x y dx dy d Q hb rx ry h k;unfold neD at h
 cases e:eqS dx dy with
 | none=>rw[e] at h; cases h
 | some b =>
  rw[e] at h;cases h;obtain⟨h1,h2⟩:=gg0 rx ry e;exact⟨h1,by rw[h2]; exact k _ H (Same.refl H) (by rw[Y4])⟩
theorem ky0:Op2 K (fun x y H Q=>y=.non/\Q (.bl (decide (x=.non))) H) ey0:=by
 intro H B x y dx dy d Q hb rx ry h k;have hy:dy=.non:=by cases dy<;>first|rfl|cases h
 subst hy;cases h;rw[W0] at ry;refine⟨ry,k _ H (Same.refl H) ?_⟩
 rw[Y4];cases dx<;>simp only[W0,Y4,n6,Y0,X4,Z5,wv0] at rx
 all_goals first
  | (subst rx; rfl)
  | (obtain⟨a,xs,rfl,_⟩:=rx; rfl)
theorem Xh0{α:Type}(xs:List α)(i:Int):L2.atI xs i=DL.atI xs i:=rfl
theorem ut0(n d:Nat)(o:Option Int):HT.sIx n d o=sIx n d o:=by cases o<;>rfl
theorem kw0{H:Hp}{B:BS}{ds:List D}{xs:List V}{i:Int}{d:D}(r:Rps K H B ds xs)(h:DL.atI ds i=some d):∃v,L2.atI xs i=some v/\Rp K H B d v:=by
 rw[Xh0];unfold DL.atI at h ⊢;rw[r.length]
 cases e:DL.ixN ds.length i with
 | none=>rw[e] at h; cases h
 | some j =>
  rw[e] at h;exact r.get h
theorem Yc0:Op2 K (rIx K) ixD:=by
 intro H B x y dx dy d Q hb rx ry h k;cases dx<;>cases dy<;>simp only[ixD] at h<;>try cases h
 ·split at h
  ·rename_i hz
   rw[Y0] at rx;rw[n6] at ry;subst rx ry;obtain⟨c,hc,rfl⟩:=Option.map_eq_some_iff.mp h;exact .inr (.inr ⟨_,_,c,rfl,rfl,hz,hc,k _ H (Same.refl H) (by rw[Y0])⟩)
  ·cases h
 ·rw[X4] at rx
  rw[n6] at ry;subst ry;obtain⟨a,xs,rfl,q,r⟩:=rx;obtain⟨v,hv,rv⟩:=kw0 r h;exact .inr (.inl ⟨a,xs,_,v,rfl,rfl,q.to,hv,k _ H (Same.refl H) rv⟩)
 ·rw[Z5] at rx
  rw[n6] at ry;subst ry;obtain⟨a,xs,rfl,q,r⟩:=rx;obtain⟨v,hv,rv⟩:=kw0 r h;exact .inl ⟨a,xs,_,v,rfl,rfl,q.to,hv,k _ H (Same.refl H) rv⟩
theorem o6(ha:PD X a ga)(hb:PD X b gb)(hs:pd0 b:=by exact fun _ _=>rfl):PD X (.Subscript a b pos) (o2 ga gb ixD):=U30 Yn0 Yc0 ha hb hs
structure PDO(X:Cx)(e:Option Expr)(g:Ds->Option (Option Int)):Prop where
 mk::go:∀B δ,PO X e (fun σ H Q=>∃o,Env X.K H B σ δ/\g δ=some o/\∀H',Same H H'->Q o H')
instance{X:Cx}{e:Option Expr}{g:Ds->Option (Option Int)}:CoeFun (PDO X e g) (fun _=>∀B δ,PO X e (fun σ H Q=>∃o,Env X.K H B σ δ/\g δ=some o/\∀H',Same H H'->Q o H')):=⟨PDO.go⟩
theorem ys0:PDO X none S7:=.mk fun B δ pins s σ H Q I ⟨o,en,h,k⟩=>by
 cases h;exact ao0 pins s σ H Q I (k H (Same.refl H))
theorem z60(h:PD X e g):PDO X (some e) (someO g):=.mk fun B δ pins s σ H Q I ⟨o,en,hq,k⟩=>by
 unfold someO at hq
 cases e1:g δ with
 | none=>rw[e1] at hq; cases hq
 | some d =>
  rw[e1] at hq;cases d<;>simp[asI] at hq
  subst hq;exact Z70 (h B δ) pins s σ H Q I ⟨_,en,e1,fun v H' s' r=>⟨_,by rw[n6] at r; exact r,k H' s'⟩⟩
theorem jb0{H:Hp}{B:BS}{ds:List D}{xs:List V}(r:Rps K H B ds xs)(lo hi:Option Int):Rps K H B (cutD ds lo hi) (sg0 xs lo hi):=by
 unfold cutD sg0;rw[r.length,ut0,ut0];exact(r.drop _).take _
theorem J4{H:Hp}{B:BS}{d:D}{xs:List V}(h:Rps K H B [d] xs):∃v,xs=[v]/\Rp K H B d v:=by
 rw[o4] at h;obtain⟨x,r,rfl,h1,h2⟩:=h;rw[o8] at h2;subst h2;exact⟨x,rfl,h1⟩
theorem Yd0:FnR K (fun xs H Q=>(∃z,xs=[.str z]/\z.length<=sizeLine/\Q (.int z.length) H)∨∃p ys,xs=[.ref p]/\(SqL K H p ys∨SqT K H p ys)/\Q (.int ys.length) H) j8:=by
 intro H B xs ds d Q hb r h k;unfold j8 at h;split at h
 ·split at h
  ·cases h
   obtain⟨v,rfl,r1⟩:=J4 r;rw[Y0] at r1;subst r1;exact .inl ⟨_,rfl,by assumption,k _ H (Same.refl H) (by rw[n6])⟩
  ·cases h
 ·cases h
  obtain⟨v,rfl,r1⟩:=J4 r;rw[Z5] at r1;obtain⟨a,ys,rfl,q,rr⟩:=r1;exact .inr ⟨a,ys,rfl,.inl q.to,k _ H (Same.refl H) (by rw[n6,rr.length])⟩
 ·cases h
  obtain⟨v,rfl,r1⟩:=J4 r;rw[X4] at r1;obtain⟨a,ys,rfl,q,rr⟩:=r1;exact .inr ⟨a,ys,rfl,.inr q.to,k _ H (Same.refl H) (by rw[n6,rr.length])⟩
 ·cases h
theorem V3(hm:X.mg "len"=none)(ha:PDA X [e] gA)(hg:Gl X "len" := by rfl)(he:starEach [e] X.env=(false,eval e X.env)::starEach [] X.env:=by rfl)(hpl:(backTo pos (starEach [] X.env)).any (·.1)=false:=by rfl) :
  PD X (.Call (.Name "len" p) [e] [] pos) (oA gA j8):=rs0 (la0.or lu0) Yd0 hm PySem.boot_len ha hg (by decide) (by decide) he hpl
theorem po0{H:Hp}{B:BS}:∀{ds:List D} {xs:List V} {bs:List Bool},Rps K H B ds xs->bools ds=some bs->xs=bs.map V.bl
 | [],_,_,r,h=>by
  cases h;rw[o8] at r;exact r
 | d::ds,_,bs,r,h=>by
  rw[o4] at r;obtain⟨x,t,rfl,r1,r2⟩:=r;cases d<;>simp only[bools] at h<;>try cases h
  obtain⟨t',e,rfl⟩:=Option.map_eq_some_iff.mp h;rw[Y4] at r1;rw[r1,po0 r2 e];rfl
theorem Xr0:FnR K (fun xs H Q=>∃(p:Addr) (bs:List Bool),xs=[.ref p]/\SqL K H p (bs.map V.bl)/\Q (.bl (bs.all id)) H) ih0:=by
 intro H B xs ds d Q hb r h k;unfold ih0 at h;split at h
 ·obtain⟨bs,e,rfl⟩:=Option.map_eq_some_iff.mp h
  obtain⟨v,rfl,r1⟩:=J4 r;rw[Z5] at r1;obtain⟨a,ys,rfl,q,rr⟩:=r1;have:=po0 rr e;subst this;exact⟨a,bs,rfl,q.to,k _ H (Same.refl H) (by rw[Y4])⟩
 ·cases h
theorem mq0{H:Hp}{B:BS}:∀{ds:List D} {xs:List V} {bs:List Str},Rps K H B ds xs->s20 ds=some bs->xs=bs.map V.str
 | [],_,_,r,h=>by
  cases h;rw[o8] at r;exact r
 | d::ds,_,bs,r,h=>by
  rw[o4] at r;obtain⟨x,t,rfl,r1,r2⟩:=r;cases d<;>simp only[s20] at h<;>try cases h
  obtain⟨t',e,rfl⟩:=Option.map_eq_some_iff.mp h;rw[Y0] at r1;rw[r1,mq0 r2 e];rfl
theorem Z80{o:Expr}{apos cpos:Pos}(ho:PD X o g)(ha:PDA X [e] gA)(hbase:attributeBase o "join" X.env (eval o X.env)=eval o X.env:=by rfl)
  (hfew:((backTo cpos (starEach [e] X.env)).all (fun x=>!x.1)&&(backToKw cpos (keywordEach [] X.env)).all (fun x=>x.1.isSome)
  &&decide ([e].length+([]:List Keyword).length+(if ([]:List Keyword).isEmpty then 0 else 1)<30))=true:=by rfl)
  (hline:(apos.endLine==cpos.line)=true:=by rfl) (hs:starEach [e] X.env=(false,eval e X.env)::starEach [] X.env:=by rfl) (hplain:(backTo cpos (starEach [] X.env)).any (·.1)=false:=by rfl) :
  PD X (.Call (.Attribute o "join" apos) [e] [] cpos) (te0 g gA):=.mk fun B δ =>
 (qf0 F.plainAttrs_str F.slot_str_join F.type_str_join ag0 (ho B δ) (ha B δ) hbase hfew hline hs hplain).imp fun σ H Q ⟨d,en,h,k⟩=>by
  unfold te0 at h
  cases e1:g δ with
  | none=>rw[e1] at h; cases h
  | some x =>
   cases e2:gA δ with
   | none=>rw[e1,e2] at h; cases h
   | some ds =>
    rw[e1,e2] at h;simp only[Option.bind_some] at h;unfold nd0 at h;split at h
    ·cases e3:s20 _ with
     | none=>rw[e3] at h; cases h
     | some ys =>
      rw[e3] at h;simp only[Option.bind_some] at h;split at h
      ·cases h
       refine⟨_,en,e1,fun v H1 s1 r1=>?_⟩
       rw[Y0] at r1;subst r1;refine⟨rfl,_,en.same s1,e2,fun vs H2 s2 r2=>?_⟩
       obtain⟨w,rfl,r3⟩:=J4 r2;rw[Z5] at r3;obtain⟨a,zs,rfl,q,rr⟩:=r3;have:=mq0 rr e3;subst this;exact⟨_,a,ys,rfl,rfl,q.to,by assumption,k _ H2 (s1.trans s2) (by rw[Y0])⟩
      ·cases h
    ·cases h
theorem zw0:FnR K (fun xs H Q=>∃p ys,xs=[.ref p]/\((SqL K H p ys/\∀l,H l=none->Q (.ref l) (upd H l (.tup ys)))∨(SqT K H p ys/\Q (.ref p) H))) W8:=by
 intro H B xs ds d Q hb r h k;unfold W8 at h;split at h
 ·cases h
  obtain⟨v,rfl,r1⟩:=J4 r;rw[Z5] at r1;obtain⟨a,ys,rfl,q,rr⟩:=r1;exact⟨a,ys,rfl,.inl ⟨q.to,fun l hl=>k _ _ (Z1 hl) (sy0 hb hl rr)⟩⟩
 ·cases h
  obtain⟨v,rfl,r1⟩:=J4 r;have r1':=r1;rw[X4] at r1;obtain⟨a,ys,rfl,q,rr⟩:=r1;exact⟨a,ys,rfl,.inr ⟨q.to,k _ H (Same.refl H) r1'⟩⟩
 ·cases h
end
section
variable{X:Cx}{K:W.Frag}{e a b:Expr}{es:List Expr}{pos p:Pos}{g ga gb:Ds->Option D}{gA:Ds->Option (List D)}
theorem tt0(h:PD X a ga):PD X (.UnaryOp .USub a pos) (unG yg0 ga):=.mk fun B δ=>(Vj0 Yp0 (h B δ)).imp fun σ H Q ⟨d,en,h,k⟩=>by
 unfold unG at h
 cases e1:ga δ with
 | none=>rw[e1] at h; cases h
 | some x =>
  rw[e1] at h;cases x<;>simp[yg0] at h
  subst h;exact⟨_,en,e1,fun v H' s r=>⟨_,by rw[n6] at r; exact r,k _ H' s (by rw[n6])⟩⟩
theorem dh0:PD X (.Dict [] [] pos) (gc (.dct (.inl []) [])):=.mk fun B δ pins s σ H Q I ⟨d,en,h,k⟩=>by
 cases h;have hb:sysModules<s.heap.objs.size:=Nat.lt_trans (by decide) ((I.mod.glob.keeps I.bk).lt:mainGlobals<s.heap.objs.size)
 have hf:H s.heap.objs.size=none:=I.hok.fresh (Nat.le_refl _)
 refine wpAny_Dict_empty ⟨.ref s.heap.objs.size,_,I.laid (a:=s.heap.objs.size) (o:=.dK []) (t':=s.toks) (fun _ _ q=>Heap.get?_push_of_some _ q) (Nat.le_refl _)
  ⟨Nat.zero_le _,beq_eq_false_iff_ne.mpr (Ne.symm (Nat.ne_of_lt hb)),[],.nil,Heap.DictOf.new s.heap⟩,rfl,k _ _ (Z1 hf) ?_⟩
 rw[sb0];exact⟨_,[],rfl,en.free hf,j7,rfl,by rw[o8]⟩
def FnD(P:Program)(w:World)(K:W.Frag)(mg:Str->Option Value)(base:Heap)(x:Str)(k:Nat)(ps:List Str)(f:List D->Option D):Prop :=
 ∃(fa:Addr) (fd:FuncData),FnOk P w K mg base CX0 k fa fd ps (spD K f)/\mg x=some (.ref fa)/\W.keepIn K (.ref fa)=true/\Binds K fd ps []
theorem Z4{k m:Nat}{ps:List Str}{x:Str}{f:List D->Option D}(C:FnD X.prog X.w X.K X.mg X.base x k ps f)(hr:Room m X.A)(hk:k<=m)(ha:PDA X (e::es) gA)(hg:Gl X x:=by rfl)(hdb:(x==("__debug__" : Str))=false:=by decide)
  (he:starEach (e::es) X.env=(false,eval e X.env)::starEach es X.env:=by rfl) (hpl:(backTo pos (starEach es X.env)).any (·.1)=false:=by rfl):PD X (.Call (.Name x p) (e::es) [] pos) (oA gA f):=by
 obtain⟨fa,fd,F,hm,kp,hb⟩:=C;exact bh0 F (hr.mono hk) hm kp hb ha hg hdb he hpl
theorem J3{sc scope:Scope}{elt iter tg:Expr}{ifs:List Expr}{N N':List Str}{n:Nat}{caps:List Nat}{gi:Ds->Option (List D)}{idx:List Nat}{f:D->Ds->Option Ds}{gt:Ds->Option Bool}{ge:Ds->Option D}
  (ok:CompOk sc scope N N' n caps) (hidx:∀j∈idx,j<n) (hi:PID X tg iter gi)
  (hg:∀cl s H ex,PGD (X3 X scope cl N' s H ex) tg idx f) (ht:∀cl s H ex,PFD (X3 X scope cl N' s H ex) ifs gt) (he:∀cl s H ex,PD (X3 X scope cl N' s H ex) elt ge)
  (hc:X.calm=true:=by rfl) (hsc:X.env.scope=sc:=by rfl) (hN:X.N=N:=by rfl) (hs:∀x,foldedSetIterable iter X.env x=pure x:=by intro _; rfl) :
  PD X (.ListComp elt [⟨tg,iter,ifs,0⟩] scope pos) (Z0 n caps gi f gt ge):=ae0 hc hsc (hN▸ok) hidx hi hg ht he hs
theorem rp0(i:Nat){y:Str}{py spos:Pos}{sc scope:Scope}{elt iter tg:Expr}{ifs:List Expr}{N N':List Str}{n:Nat}{caps:List Nat}{gi:Ds->Option (List D)}{idx:List Nat}{f:D->Ds->Option Ds}{gt:Ds->Option Bool}{ge:Ds->Option D}
  (hnd:N.Nodup) (ok:CompOk sc scope N N' n caps) (hidx:∀j∈idx,j<n) (hi:PID X tg iter gi)
  (hg:∀cl s H ex,PGD (X3 X scope cl N' s H ex) tg idx f) (ht:∀cl s H ex,PFD (X3 X scope cl N' s H ex) ifs gt) (he:∀cl s H ex,PD (X3 X scope cl N' s H ex) elt ge)
  (hc:X.calm=true:=by rfl) (hsc:X.env.scope=sc:=by rfl) (hN:X.N=N:=by rfl)
  (hiN:X.N[i]?=some y:=by rfl) (hy:Loc X.env.scope y:=by first|exact Or.inl rfl|exact Or.inr rfl)
  (hsw:swapsWith (.ListComp elt [⟨tg,iter,ifs,0⟩] scope pos) (some (.Name y py)) spos.line X.env=pure true:=by rfl)
  (hs:∀x,foldedSetIterable iter X.env x=pure x:=by intro _; rfl)
  (hf:X.fn y=true∨X.env.scope.names.lookup y=some .local:=by first|exact .inl rfl|exact .inr rfl|assumption) :
  PSD X (.Assign [.Name y py] (.ListComp elt [⟨tg,iter,ifs,0⟩] scope pos) spos) (n8 (gN i) (Z0 n caps gi f gt ge)):=kf0 i (hN▸hnd) hc hsc (hN▸ok) hidx hi hg ht he hiN hy hsw hs hf
end
end DL
namespace DL
open PySem PySem.Spec PyProof.Rows
@[simp] def sh0:Sl->Sl
 | .ow d=>.sh (unl d)
 | s=>s
@[simp] def frz(δ:Ds):Ds:=δ.map sh0
@[simp] def flat:D->Bool
 | .non=>true|.bl _=>true|.int _=>true|.str _=>true|_=>false
@[simp] def U3(g:GE):GE:=fun δ=>(g (frz δ)).bind fun d=>if flat d=true then some d else none
@[simp] def wj0(g:GB):GB:=fun δ=>g (frz δ)
@[simp] def ub0(g:GE):GE:=fun δ=>g (frz δ)
@[simp] def V4(i:Nat)(g:GE):GS:=fun δ=>(g δ).map fun d=>.nx (δ.set i (.ow d))
abbrev GX:=Ds->Option (D×Ds)
@[simp] def R5(g:GE):GX:=fun δ=>(g δ).map fun d=>(d,δ)
@[simp] def U4(gx:GX)(ft:D->Ds->Option Ds):GS:=fun δ=>(gx δ).bind fun r=>(ft r.1 r.2).map .nx
@[simp] def X8(gx:GX):GS:=fun δ=>(gx δ).map fun r=>.nx r.2
@[simp] def owL(i:Nat)(δ:Ds):Option (List D):=match δ[i]? with
 | some (.ow (.lst ds))=>some ds
 | _=>none
@[simp] def Q5(i:Nat)(g:GE):GX:=fun δ=>(owL i δ).bind fun ds=>(g δ).bind fun d=>if ds.length<sizeLine then some (.non,δ.set i (.ow (.lst (ds++[d])))) else none
@[simp] def rq0(i:Nat)(g:GE):GX:=fun δ=>(owL i δ).bind fun ds=>(g δ).bind fun d=>match d with
 | .lst es=>if ds.length+es.length<=sizeLine then some (.non,δ.set i (.ow (.lst (ds++es)))) else none
 | _=>none
@[simp] def vk0(i:Nat):GX:=fun δ=>(owL i δ).bind fun ds=>(ds.getLast?).map fun d=>(d,δ.set i (.ow (.lst ds.dropLast)))
@[simp] def ur0(i:Nat)(g:GE):GX:=fun δ=>(owL i δ).bind fun ds=>(g δ).bind fun d=>match d with
 | .int k=>if 0<=k/\k<ds.length then (ds[k.toNat]?).map fun d=>(d,δ.set i (.ow (.lst (ds.eraseIdx k.toNat)))) else none
 | _=>none
@[simp] def setAt(i:Nat)(g:GE):D->Ds->Option Ds:=fun v δ=>(owL i δ).bind fun ds=>(g δ).bind fun d=>match d with
 | .int k=>(ixN ds.length k).map fun j=>δ.set i (.ow (.lst (ds.set j v)))
 | _=>none
abbrev K9:=Sum Int Str
@[simp] def xd0:D->Option K9
 | .int i=>some (.inl i)
 | .str x=>some (.inr x)
 | _=>none
def sa0:List D->Option (List K9)
 | []=>some []
 | d::ds=>(xd0 d).bind fun k=>(sa0 ds).map (k::·)
@[simp] def yy0:D->Option (List K9)
 | .tup ds=>sa0 ds
 | _=>none
def va0{κ:Type}[DecidableEq κ]:List κ->List D->κ->Option D
 | k::ks,d::ds,q=>if k=q then some d else va0 ks ds q
 | _,_,_=>none
def M9{κ:Type}[DecidableEq κ](ks:List κ)(k:κ):Bool:=ks.any fun q=>decide (q=k)
def J5{κ:Type}[DecidableEq κ](ks:List κ)(k:κ):List κ:=if M9 ks k=true then ks else ks++[k]
def z80{κ:Type}[DecidableEq κ](ks:List κ)(ds:List D)(q:κ)(v:D):List D:=if M9 ks q=true then (ks.zip ds).map (fun p=>if p.1=q then v else p.2) else ds++[v]
@[simp] def ph0(i:Nat)(δ:Ds):Option (List K9×List D):=match δ[i]? with
 | some (.ow (.dct (.inl ks) ds))=>some (ks,ds)
 | _=>none
@[simp] def putAt(i:Nat)(g:GE):D->Ds->Option Ds:=fun v δ=>(ph0 i δ).bind fun r=>(g δ).bind fun d=>(xd0 d).bind fun k =>
 if r.1.length<sizeLine then some (δ.set i (.ow (.dct (.inl (J5 r.1 k)) (z80 r.1 r.2 k v)))) else none
@[simp] def xt0:D->D->Option D
 | .dct ks ds,d=>match ks with
  | .inl ks=>(xd0 d).bind fun k=>va0 ks ds k
  | .inr ks=>(yy0 d).bind fun k=>va0 ks ds k
 | _,_=>none
@[simp] def y00(neg:Bool):D->D->Option D
 | d,.dct ks ds=>match ks with
  | .inl ks=>(xd0 d).map fun k=>.bl (xor neg (M9 ks k))
  | .inr ks=>(yy0 d).map fun k=>.bl (xor neg (M9 ks k))
 | _,_=>none
def T9(gt:GB)(G:GS):Nat->Ds->Option Res
 | 0,_=>none
 | n+1,δ=>match gt δ with
  | some false=>some (.nx δ)
  | some true=>match G δ with
   | some (.nx δ')=>T9 gt G n δ'
   | some (.ct δ')=>T9 gt G n δ'
   | some (.bk δ')=>some (.nx δ')
   | r=>r
  | none=>none
@[simp] def ze0(i j:Nat):D->Ds->Option Ds
 | .tup [a,b],δ=>some ((δ.set i (.sh a)).set j (.sh b))
 | _,_=>none
mutual
def deq:D->D->Bool
 | .non,.non=>true
 | .bl a,.bl b=>a==b
 | .bl a,.int b=>(if a then 1 else 0)==b
 | .int a,.bl b=>a==(if b then 1 else 0)
 | .int a,.int b=>a==b
 | .str a,.str b=>a==b
 | .tup xs,.tup ys=>K8 xs ys
 | .lst xs,.lst ys=>K8 xs ys
 | _,_=>false
def K8:List D->List D->Bool
 | [],[]=>true
 | x::xs,y::ys=>deq x y&&K8 xs ys
 | _,_=>false
end
mutual
def lean:D->Nat->Bool
 | .dct _ _,_=>false
 | .tup xs,n+1=>leans xs n
 | .lst xs,n+1=>leans xs n
 | .tup _,0=>false
 | .lst _,0=>false
 | _,_=>true
def leans:List D->Nat->Bool
 | [],_=>true
 | x::xs,n=>lean x n&&leans xs n
end
@[simp] def Q6(x y:D):Option D:=if lean x 50=true/\lean y 50=true then some (.bl (deq x y)) else none
@[simp] def y60(x y:D):Option D:=if lean x 50=true/\lean y 50=true then some (.bl (!deq x y)) else none
@[simp] def eqF:D->D->Bool
 | .non,.non=>true
 | .bl a,.bl b=>a==b
 | .bl a,.int b=>(if a then 1 else 0)==b
 | .int a,.bl b=>a==(if b then 1 else 0)
 | .int a,.int b=>a==b
 | .str a,.str b=>a==b
 | _,_=>false
@[simp] def vp0(neg:Bool):D->D->Option D
 | x,.lst ys=>if flat x=true/\ys.all flat=true then some (.bl (xor neg (ys.any fun y=>eqF y x))) else none
 | x,.tup ys=>if flat x=true/\ys.all flat=true then some (.bl (xor neg (ys.any fun y=>eqF y x))) else none
 | _,_=>none
@[simp] def intOfD:List D->Option D
 | [.int i]=>some (.int i)
 | [.bl k]=>some (.int (if k then 1 else 0))
 | _=>none
@[simp] def yk0:List D->Option D
 | [.lst ds]=>some (.lst ds)
 | [.tup ds]=>some (.lst ds)
 | _=>none
def mkF(n:Nat)(N:List Str)(G:GS)(ds:List D):Option D:=if ds.length=n then (match G (Y9 N ds) with
 | some (.rt d)=>some d
 | some (.rf d)=>if isL d=true then none else some d
 | some (.nx _)=>some .non
 | _=>none) else none
theorem W5{n:Nat}{N:List Str}{G:GS}{ds:List D}{d:D}(h:mkF n N G ds=some d):ds.length=n/\(G (Y9 N ds)=some (.rt d)∨(d=.non/\∃δ,G (Y9 N ds)=some (.nx δ))∨G (Y9 N ds)=some (.rf d)/\isL d=false):=by
 unfold mkF at h;split at h
 ·rename_i hl
  refine⟨hl,?_⟩
  split at h
  ·rename_i e; cases h; exact .inl e
  ·rename_i e
   split at h
   ·cases h
   ·rename_i hn
    cases h;exact .inr (.inr ⟨e,Bool.eq_false_iff.mpr hn⟩)
  ·rename_i e; cases h; exact .inr (.inl ⟨rfl,_,e⟩)
  ·cases h
 ·cases h
def mkN(n:Nat)(N:List Str)(G:GS)(ds:List D):Option D:=if ds.length=n then (match G (Y9 N ds) with
 | some (.rf d)=>if isL d=true then none else some d
 | _=>none) else none
theorem zy0{n:Nat}{N:List Str}{G:GS}{ds:List D}{d:D}(h:mkN n N G ds=some d):ds.length=n/\G (Y9 N ds)=some (.rf d)/\isL d=false:=by
 unfold mkN at h;split at h
 ·rename_i hl
  refine⟨hl,?_⟩
  split at h
  ·rename_i e
   split at h
   ·cases h
   ·rename_i hn
    cases h;exact⟨e,Bool.eq_false_iff.mpr hn⟩
  ·cases h
 ·cases h
theorem O6{n:Nat}{N:List Str}{G:GS}{ds:List D}{d:D}(hl:ds.length=n)(h:G (Y9 N ds)=some (.rf d))(hn:isL d=false:=by rfl):mkN n N G ds=some d:=by
 unfold mkN;rw[if_pos hl,h];simp only[];rw[hn];rfl
@[simp] def N7(g:GE):GS:=fun δ=>(g δ).map .rf
@[simp] def uc0(i:Nat):GS:=fun δ=>match δ[i]? with
 | some (.ow d)=>some (.rf d)
 | _=>none
theorem Q9{G1 G2:GS}{δ:Ds}{d:D}(h:G1 δ=some (.rf d)):v8 G1 G2 δ=some (.rf d):=by unfold v8; rw[h]
theorem zo0{g:GE}{δ:Ds}{d:D}(h:g δ=some d):N7 g δ=some (.rf d):=by unfold N7; rw[h]; rfl
theorem d7{n:Nat}{N:List Str}{G:GS}{ds:List D}{d:D}(hl:ds.length=n)(h:G (Y9 N ds)=some (.rt d)):mkF n N G ds=some d:=by
 unfold mkF;rw[if_pos hl,h]
theorem u9{G1 G2:GS}{δ δ':Ds}{r:Option Res}(h:G1 δ=some (.nx δ'))(k:G2 δ'=r):v8 G1 G2 δ=r:=(Xl0 h).trans k
@[simp] def b8:D->D->Option D
 | .int i,.int j=>some (.int (i+j))
 | .str x,.str y=>if x.length+y.length<=sizeLine then some (.str (x++y)) else none
 | .lst xs,.lst ys=>if xs.length+ys.length<=sizeLine then some (.lst (xs++ys)) else none
 | .tup xs,.tup ys=>if xs.length+ys.length<=sizeLine then some (.tup (xs++ys)) else none
 | _,_=>none
def io0(x:Str)(n:Int):Str:=⟨(List.replicate n.toNat x.cps).foldl (·++·) #[]⟩
@[simp] def S9:D->D->Option D
 | .int i,.int j=>if (-(2 ^ 64)<i/\i<2 ^ 64)∨(-(2 ^ 64)<j/\j<2 ^ 64) then some (.int (i*j)) else none
 | .str x,.int n=>if -(2 ^ 62)<=n/\n<2 ^ 62/\x.length*n.toNat<=sizeLine then some (.str (io0 x n)) else none
 | .tup xs,.int k=>if xs≠[]/\2<=k/\k<2 ^ 62/\xs.length*k.toNat<=sizeLine then some (.tup (List.replicate k.toNat xs).flatten) else none
 | _,_=>none
@[simp] def slA(d:D)(lo hi:Option Int):Option D:=match d with
 | .str z=>if z.length<=sizeLine then some (.str (Txt.slice z lo hi)) else none
 | .lst xs=>some (.lst (cutD xs lo hi))
 | .tup xs=>some (.tup (cutD xs lo hi))
 | _=>none
@[simp] def U6(g:GE)(gl gh:GO):GE:=fun δ=>(g δ).bind fun d=>(gl δ).bind fun l=>(gh δ).bind fun h=>slA d l h
end DL
namespace L2
open PySem PySem.Spec PyProof.Rows
section
variable{κ:Type}[DecidableEq κ]
def yw0(kvs:List (κ×V))(k:κ):Option V:=(kvs.find? fun kv=>decide (kv.1=k)).map (·.2)
def putK(kvs:List (κ×V))(k:κ)(v:V):List (κ×V) :=
 if (kvs.any fun kv=>decide (kv.1=k))=true then kvs.map (fun kv=>if kv.1=k then (kv.1,v) else kv) else kvs++[(k,v)]
theorem vd0{p:κ×V}{r:List (κ×V)}{k:κ}(e:p.1=k):yw0 (p::r) k=some p.2:=by simp[yw0,List.find?_cons,e]
theorem vb0{p:κ×V}{r:List (κ×V)}{k:κ}(e:¬p.1=k):yw0 (p::r) k=yw0 r k:=by simp[yw0,List.find?_cons,e]
theorem lw0(k:κ):∀kvs:List (κ×V),(kvs.any fun kv=>decide (kv.1=k))=(yw0 kvs k).isSome
 | []=>rfl
 | p::r=>by
  rw[List.any_cons]
  by_cases e:p.1=k
  ·simp only[vd0 e,decide_eq_true e,Bool.true_or,Option.isSome_some]
  ·rw[vb0 e,decide_eq_false e,Bool.false_or]; exact lw0 k r
theorem w00(kvs:List (κ×V))(k:κ)(v:V):(putK kvs k v).length<=kvs.length+1:=by
 unfold putK;split
 ·rw[List.length_map]; omega
 ·rw[List.length_append,List.length_cons,List.length_nil]; omega
theorem RelO.isSome_eq{o:Option V}{u:Option Value}(r:RelO o u):o.isSome=u.isSome:=by
 cases o with
 | none=>cases u with
  | none=>rfl
  | some _=>exact(show False from r).elim
 | some _=>cases u with
  | none=>exact(show False from r).elim
  | some _=>rfl
theorem KV.val{kvs:List (κ×V)}{vs:List (κ×Value)}(r:KV kvs vs)(k:κ):RelO (yw0 kvs k) (valueAt vs k):=by
 unfold KV at r
 induction r with
 | nil=>exact True.intro
 | @cons p q ps qs h t ih =>
  obtain⟨h1,h2⟩:=h
  by_cases e:p.1=k
  ·have e':q.1=k:=h1.symm.trans e
   have b:valueAt (q::qs) k=some q.2:=by simp[valueAt,List.find?_cons,e']
   rw[vd0 e,b]; exact h2
  ·have e':¬q.1=k:=fun z=>e (h1.trans z)
   have b:valueAt (q::qs) k=valueAt qs k:=by simp[valueAt,List.find?_cons,e']
   rw[vb0 e,b]; exact ih
theorem KV.any{kvs:List (κ×V)}{vs:List (κ×Value)}(r:KV kvs vs)(k:κ):(kvs.any fun kv=>decide (kv.1=k))=vs.any fun kv=>decide (kv.1=k):=by
 unfold KV at r
 induction r with
 | nil=>rfl
 | cons h t ih=>rw[List.any_cons,List.any_cons,ih,h.1]
theorem KV.repl{kvs:List (κ×V)}{vs:List (κ×Value)}(r:KV kvs vs)(k:κ){y:V}{u:Value}(ry:RelV y u) :
  KV (kvs.map fun kv=>if kv.1=k then (kv.1,y) else kv) (vs.map fun kv=>if kv.1=k then (kv.1,u) else kv):=by
 unfold KV at r ⊢
 induction r with
 | nil=>exact .nil
 | @cons p q ps qs h t ih =>
  rw[List.map_cons,List.map_cons];refine .cons ?_ ih
  obtain⟨h1,h2⟩:=h
  by_cases e:p.1=k
  ·rw[if_pos e,if_pos (h1.symm.trans e)]; exact⟨h1,ry⟩
  ·rw[if_neg e,if_neg (fun z=>e (h1.trans z))]; exact⟨h1,h2⟩
theorem KV.put{kvs:List (κ×V)}{vs:List (κ×Value)}(r:KV kvs vs)(k:κ){y:V}{u:Value}(ry:RelV y u):KV (putK kvs k y) (stored vs k u):=by
 unfold putK stored;rw[r.any k]
 by_cases e:(vs.any fun kv=>decide (kv.1=k))=true
 ·rw[if_pos e,if_pos e]; exact r.repl k ry
 ·rw[if_neg e,if_neg e]; exact Paired.snoc r ⟨rfl,ry⟩
theorem KV.length{kvs:List (κ×V)}{vs:List (κ×Value)}(r:KV kvs vs):kvs.length=vs.length:=Paired.length r
end
theorem nf0{P:Program}{w:World}{k:Key}{u:Value}(r:RelV (kV k) u):(P0 P w).is k u=true:=by
 cases k with
 | inl i=>obtain⟨t,e⟩:=(show ∃t,u=Value.int i t from r); subst e; exact ks0 P w i t
 | inr x=>obtain⟨t,e⟩:=(show ∃t,u=Value.str x t from r); subst e; exact kk0 P w x t
theorem px0{P:Program}{w:World}:∀{ks:List Key} {us:List Value},Vals (ks.map kV) us->ItemsAre (P0 P w) ks us
 | [],_,r=>by rw[List.map_nil] at r; cases r; exact .nil
 | k::ks,_,r=>by
  rw[List.map_cons] at r
  cases r with
  | cons h t=>exact .cons (nf0 h) (px0 t)
abbrev KT(H:Hp):List (List Key×V)->List (List Key×Addr×Value)->Prop:=Paired fun p q=>p.1=q.1/\H q.2.1=some (.tup (p.1.map kV))/\RelV p.2 q.2.2
theorem KT.val{H:Hp}{kvs:List (List Key×V)}{xs:List (List Key×Addr×Value)}(r:KT H kvs xs)(k:List Key):RelO (yw0 kvs k) ((atKey xs k).map (·.2)):=by
 induction r with
 | nil=>exact True.intro
 | @cons p q ps qs h t ih =>
  obtain⟨h1,_,h2⟩:=h
  by_cases e:p.1=k
  ·have e':q.1=k:=h1.symm.trans e
   have b:atKey (q::qs) k=some q.2:=by simp[atKey,List.find?_cons,e']
   rw[vd0 e,b]; exact h2
  ·have e':¬q.1=k:=fun z=>e (h1.trans z)
   have b:atKey (q::qs) k=atKey qs k:=by simp[atKey,List.find?_cons,e']
   rw[vb0 e,b]; exact ih
theorem KT.repl{H:Hp}{kvs:List (List Key×V)}{xs:List (List Key×Addr×Value)}(r:KT H kvs xs)(k:List Key){y:V}{u:Value}(ry:RelV y u) :
  KT H (kvs.map fun kv=>if kv.1=k then (kv.1,y) else kv) (xs.map (putAt k u)):=by
 induction r with
 | nil=>exact .nil
 | @cons p q ps qs h t ih =>
  rw[List.map_cons,List.map_cons];refine .cons ?_ ih
  obtain⟨h1,h2,h3⟩:=h;unfold putAt
  by_cases e:p.1=k
  ·rw[if_pos e,if_pos (h1.symm.trans e)]; exact⟨h1,h2,ry⟩
  ·rw[if_neg e,if_neg (fun z=>e (h1.trans z))]; exact⟨h1,h2,h3⟩
theorem KT.put{H:Hp}{kvs:List (List Key×V)}{xs:List (List Key×Addr×Value)}(r:KT H kvs xs)(k:List Key){b:Addr}{y:V}{u:Value}(hb:H b=some (.tup (k.map kV)))(ry:RelV y u) :
  KT H (putK kvs k y) (storedH xs k b u):=by
 have e:(kvs.any fun kv=>decide (kv.1=k))=(atKey xs k).isSome:=by
  rw[lw0,(r.val k).isSome_eq,Option.isSome_map]
 unfold putK storedH;rw[e]
 by_cases q:(atKey xs k).isSome=true
 ·rw[if_pos q,if_pos q]; exact r.repl k ry
 ·rw[if_neg q,if_neg q]; exact Paired.snoc r ⟨rfl,hb,ry⟩
theorem KT.keeps{H H':Hp}{kvs:List (List Key×V)}{xs:List (List Key×Addr×Value)}(r:KT H kvs xs)(ht:∀b ys,H b=some (.tup ys)->H' b=some (.tup ys)):KT H' kvs xs :=
 Paired.mapP r fun _ _ z=>⟨z.1,ht _ _ z.2.1,z.2.2⟩
section
variable{P:Program}{w:World}{H:Hp}{h:Heap}{a:Addr}
theorem cu0{u:HO}(ok:HOk P w H h)(e:Rd H a u):ObjOk P w H h a u:=e.ok ok
theorem nm0{kvs:List (Key×V)}(ok:HOk P w H h)(e:Rd H a (.dK kvs)):kvs.length<=sizeLine/\(a==sysModules)=false/\∃vs,KV kvs vs/\h.DictOf (P0 P w) a vs :=
 show ObjOk P w H h a (.dK kvs) from cu0 ok e
theorem b80{kvs:List (Key×V)}(ok:HOk P w H h)(e:H a=some (.dK kvs)):kvs.length<=sizeLine/\(a==sysModules)=false/\∃vs,KV kvs vs/\h.DictOf (P0 P w) a vs:=nm0 ok (.inl e)
theorem tu0{ks:List Key}(ok:HOk P w H h)(e:H a=some (.tup (ks.map kV))):(tupleKind (P0 P w)).is h ks a:=by
 obtain⟨_,its,r,o,h1,h2,n,h3,_⟩:=(show ObjOk P w H h a (.tup (ks.map kV)) from ok a _ e);exact⟨o,its.toArray,n,h1,h2,h3,by simpa using px0 r⟩
theorem nn0{kvs:List (List Key×V)}(ok:HOk P w H h)(e:Rd H a (.dT kvs)):kvs.length<=sizeLine/\(a==sysModules)=false /\
  ∃xs,KT H kvs xs/\h.DictOfH (tupleKind (P0 P w)) a xs:=by
 obtain⟨z,y,xs,r,o,es,ep,h1,h2,h3,h4,h5⟩:=(show ObjOk P w H h a (.dT kvs) from cu0 ok e);refine⟨z,y,xs,r,o,es,ep,h1,h2,h3,h4,fun x hx=>?_,h5⟩
 have all:∀{l:List (List Key×V)} {m:List (List Key×Addr×Value)},KT H l m->∀x∈m,(tupleKind (P0 P w)).is h x.1 x.2.1:=by
  intro l m q
  induction q with
  | nil=>intro x hx; exact nomatch hx
  | @cons p q ps qs hq t ih =>
   intro x hx;rcases List.mem_cons.mp hx with e|hx
   ·subst e
    exact tu0 ok (by rw[← hq.1]; exact hq.2.1)
   ·exact ih x hx
 exact all r x hx
theorem cr0{kvs:List (List Key×V)}(ok:HOk P w H h)(e:H a=some (.dT kvs)):kvs.length<=sizeLine/\(a==sysModules)=false /\
  ∃xs,KT H kvs xs/\h.DictOfH (tupleKind (P0 P w)) a xs:=nn0 ok (.inl e)
end
def DGet(H:Hp)(a:Addr)(y:V)(r:Option V):Prop :=
 (∃kvs k,Rd H a (.dK kvs)/\y=kV k/\r=yw0 kvs k)∨∃kvs k b,Rd H a (.dT kvs)/\y=.ref b/\H b=some (.tup (k.map kV))/\r=yw0 kvs k
def DPut(H:Hp)(a:Addr)(y v:V)(H':Hp):Prop :=
 (∃kvs k,H a=some (.dK kvs)/\y=kV k/\kvs.length<sizeLine/\H'=upd H a (.dK (putK kvs k v))) ∨
 ∃kvs k b,H a=some (.dT kvs)/\y=.ref b/\H b=some (.tup (k.map kV))/\kvs.length<sizeLine/\H'=upd H a (.dT (putK kvs k v))
theorem DGet.k{H:Hp}{a:Addr}{kvs:List (Key×V)}{k:Key}(e:H a=some (.dK kvs)):DGet H a (kV k) (yw0 kvs k):=.inl ⟨kvs,k,.inl e,rfl,rfl⟩
theorem DGet.t{H:Hp}{a b:Addr}{kvs:List (List Key×V)}{k:List Key}(e:H a=some (.dT kvs))(eb:H b=some (.tup (k.map kV))):DGet H a (.ref b) (yw0 kvs k):=.inr ⟨kvs,k,b,.inl e,rfl,eb,rfl⟩
theorem DPut.k{H:Hp}{a:Addr}{kvs:List (Key×V)}{k:Key}{v:V}(e:H a=some (.dK kvs))(hl:kvs.length<sizeLine):DPut H a (kV k) v (upd H a (.dK (putK kvs k v))):=.inl ⟨kvs,k,e,rfl,hl,rfl⟩
section
variable{X:Cx}{pins:List (Addr×Obj)}{σ:St}{H:Hp}{s:Shared}{a:Addr}{y v:V}{u r:Value}{o:Option V}{A:Around}{E:Value->Shared->Prop}
theorem Inv.big(I:Inv X pins σ H s):sysModules<s.heap.objs.size:=by
 have h:mainGlobals<s.heap.objs.size:=(I.mod.glob.keeps I.bk).lt
 exact Nat.lt_trans (by decide) h
theorem he0{Q:Value->Shared->Prop}(hu:A.units+1<cLine)(I:Inv X pins σ H s)(g:DGet H a y (some v))(ry:RelV y u)(h:∀w' s',Inv X pins σ H s'->RelV v w'->Q w' s') :
  wpAny (model X.prog X.w) A (getItem (.ref a) u) Q E s:=by
 rcases g with⟨kvs,k,e,ey,l⟩|⟨kvs,k,b,e,ey,eb,l⟩
 ·subst ey
  obtain⟨z,hd,vs,rel,dd⟩:=nm0 I.hok e;obtain⟨w',hw,rw'⟩:=RelO.some_of (v:=v) (o:=valueAt vs k) (by rw[l]; exact rel.val k)
  exact wpAny_getItem_of (nf0 ry) dd.mapOf hw (h w' _ (I.tok _) rw')
 ·subst ey
  cases (show u=Value.ref b from ry);obtain⟨z,hd,xs,rel,dd⟩:=nn0 I.hok e;obtain⟨w',hw,rw'⟩:=RelO.some_of (v:=v) (o:=(atKey xs k).map (·.2)) (by rw[l]; exact rel.val k)
  obtain⟨p,hp,hp2⟩:=Option.map_eq_some_iff.mp hw;refine wpAny_getItem_heap (tupleKind_room_in1 hu) (tu0 I.hok eb) dd hp ?_
  rw[hp2];exact h w' _ (I.tok _) rw'
theorem by0{Q:Value->Shared->Prop}(hu:A.units+1<cLine)(I:Inv X pins σ H s)(g:DGet H a y o)(ry:RelV y u)(h:∀s',Inv X pins σ H s'->Q (.bool (!o.isSome)) s') :
  wpAny (model X.prog X.w) A (compareOp .NotIn u (.ref a)) Q E s:=by
 rcases g with⟨kvs,k,e,ey,l⟩|⟨kvs,k,b,e,ey,eb,l⟩
 ·subst ey
  obtain⟨z,hd,vs,rel,dd⟩:=nm0 I.hok e;refine wpAny_notIn_of (nf0 ry) hd dd.mapOf ?_
  rw[← (rel.val k).isSome_eq,← l];exact h _ (I.tok _)
 ·subst ey
  cases (show u=Value.ref b from ry);obtain⟨z,hd,xs,rel,dd⟩:=nn0 I.hok e;refine wpAny_notIn_heap (tupleKind_room_in1 hu) (tu0 I.hok eb) hd dd ?_
  have q:=(rel.val k).isSome_eq
  rw[Option.isSome_map] at q;rw[← q,← l];exact h _ (I.tok _)
theorem qt0{h':Heap}{t':Nat}{ob:HO}(I:Inv X pins σ H s)(mu:Mut (H a))(hs:Heap.SameBut a s.heap h')(he:∃q,h'.get? a=some q)(new:ObjOk X.prog X.w (upd H a ob) h' a ob) :
  Inv X pins σ (upd H a ob) { s with heap:=h',toks:=t' } :=
 I.write (x:=a) (e:=a) mu (.inl rfl) (fun b q hb z=>(hs.2 b hb).trans z) he new
theorem W70{P:Program}{w:World}{H':Hp}{h':Heap}{kvs:List (Key×V)}{vs:List (Key×Value)}(z:kvs.length<=sizeLine)(hd:(a==sysModules)=false)(rel:KV kvs vs)(dd:h'.DictOf (P0 P w) a vs) :
  ObjOk P w H' h' a (.dK kvs):=⟨z,hd,vs,rel,dd⟩
theorem g30{H':Hp}{Q:Unit->Shared->Prop}(hu:A.units+1<cLine)(I:Inv X pins σ H s)(g:DPut H a y v H')(ry:RelV y u)(rv:RelV v r)(h:∀s',Inv X pins σ H' s'->Q () s') :
  wpAny (model X.prog X.w) A (setItem (.ref a) u r) Q E s:=by
 rcases g with⟨kvs,k,e,ey,l,eH⟩|⟨kvs,k,b,e,ey,eb,l,eH⟩
 ·subst ey eH
  obtain⟨z,hd,vs,rel,dd⟩:=b80 I.hok e;have hz:vs.length<=sizeLine:=by rw[← rel.length]; exact z
  have hl:(putK kvs k v).length<=sizeLine:=by have:=w00 kvs k v; omega
  refine wpAny_setItem_pairs (hsz:=hz) (nf0 ry) dd fun h' dd' hs=>h _ ?_
  have he:∃q,h'.get? a=some q:=let ⟨q,_,_,hq,_⟩:=dd'; ⟨q,hq⟩
  exact qt0 I (by rw[e]; exact True.intro) hs he (W70 hl hd (rel.put k rv) dd')
 ·subst ey eH
  cases (show u=Value.ref b from ry);obtain⟨z,hd,xs,rel,dd⟩:=cr0 I.hok e;have hz:xs.length<=sizeLine:=by rw[← Paired.length rel]; exact z
  have hl:(putK kvs k v).length<=sizeLine:=by have:=w00 kvs k v; omega
  refine wpAny_setItem_heap (hsz:=hz) (tupleKind_room_in1 hu) (tu0 I.hok eb) dd fun h' dd' hs=>h _ ?_
  obtain⟨q,es,ep,hq,h2,h3,h4,_,h5⟩:=dd';refine qt0 I (by rw[e]; exact True.intro) hs ⟨q,hq⟩ ⟨hl,hd,_,(rel.put k eb rv).keeps fun c ys ec=>?_,q,es,ep,hq,h2,h3,h4,h5⟩
  rw[Y5 (qk0 ec e (fun z=>nomatch z))]
  exact ec
end
section
variable{X:Cx}{pins:List (Addr×Obj)}{σ:St}{H:Hp}{s:Shared}{a:Addr}{kvs:List (Key×V)}{k:Key}{u:Value}{A:Around}{E:Value->Shared->Prop}
end
def ef0(i:Expr):Prop:=∀ov iv,subscripted i false ov iv=operate [ov,iv] (getItem ov iv)
theorem ak0{prog:Program}{w:World}{A:Around}{E:Value->Shared->Prop}{s:Shared}{env:Env}{value slice:Expr}{pos:Pos}{T id:String}{Q:Value->Shared->Prop}
  (hl:typeLookup (.type T) "__getitem__"=pure (some (.builtin id))) (hs:ef0 slice)
  (h:wpAny (model prog w) A (eval value env) (fun o s₁=>wpAny (model prog w) A (eval slice env) (fun i s₂=>s₂.TypeIs o T/\wpAny (model prog w) A (getItem o i) Q E s₂) E s₁) E s) :
  wpAny (model prog w) A (eval (.Subscript value slice pos) env) Q E s:=by
 refine Subscript_ (wpAny_mono h (fun o s₁ h₁=>wpAny_mono h₁ (fun i s₂ h₂=>?_) fun _ _ x=>x) fun _ _ x=>x)
 obtain⟨hT,h₂⟩:=h₂;unfold subscriptTail;refine wpAny_bind ?_
 rw[getitemInPython_of_ne hT.not_modules];refine wpAny_bind (wpAny_specialOf hT hl ?_)
 have fin:wpAny (model prog w) A (subscripted slice false o i) (fun r s₃=>wpAny (model prog w) A (letTemporaryGo value o r>>=fun _=>pure r) Q E s₃) E s₂:=by
  rw[hs o i];exact wpAny_operating (wpAny_mono h₂ (fun r s₃ h₃=>wpAny_bind (wpAny_letTemporaryGo (wpAny_pure h₃))) fun _ _ x=>x)
 first
  | exact wpAny_pure (wpAny_bind fin)
  | exact wpAny_bind (wpAny_pure (wpAny_bind fin))
  | exact wpAny_bind fin
theorem kq0{X:Cx}{pins:List (Addr×Obj)}{σ:St}{H:Hp}{s:Shared}{a:Addr}{y:V}{o:Option V}(I:Inv X pins σ H s)(g:DGet H a y o):s.TypeIs (.ref a) "dict" := by
 rcases g with⟨kvs,k,e,_,_⟩|⟨kvs,k,b,e,_,_,_⟩
 ·obtain⟨_,_,vs,_,dd⟩:=nm0 I.hok e
  exact dd.typeIs
 ·obtain⟨_,_,xs,_,dd⟩:=nn0 I.hok e
  exact dd.typeIs
def Vq0(td ty:TE):TE:=fun σ H Q=>td σ H fun x H1=>ty σ H1 fun y H2=>∃a v,x=.ref a/\DGet H2 a y (some v)/\Q v H2
def Zd0(ty td:TE):TE:=fun σ H Q=>ty σ H fun y H1=>td σ H1 fun x H2=>∃a o,x=.ref a/\DGet H2 a y o/\Q (.bl (!o.isSome)) H2
section
variable{X:Cx}{o i e value:Expr}{pos pos' tpos:Pos}{td ty tv:TE}
theorem Zk0(hu:X.A.units+1<cLine)(ho:PE X o td)(hi:PE X i ty)(hs:ef0 i):PE X (.Subscript o i pos) (Vq0 td ty):=by
 intro pins s σ H Q I h;refine ak0 PySem.F.slot_dict_getitem.lookup hs (thn (ho pins s σ H _ I h) fun u s1 ⟨x,H1,I1,rx,q1⟩=>thn (hi pins s1 σ H1 _ I1 q1) fun iv s2 ⟨y,H2,I2,ry,a,v,ex,g,q2⟩=>?_)
 subst ex;obtain rfl:u=Value.ref a:=rx;exact⟨kq0 I2 g,he0 hu I2 g ry fun w' s3 I3 rw'=>⟨v,H2,I3,rw',q2⟩⟩
theorem e00(hu:X.A.units+1<cLine)(hi:PE X i ty)(ho:PE X o td):PC X .NotIn i o (Zd0 ty td):=by
 intro pins s σ H Q I h;refine thn (hi pins s σ H _ I h) fun iv s1 ⟨y,H1,I1,ry,q1⟩=>thn (ho pins s1 σ H1 _ I1 q1) fun u s2 ⟨x,H2,I2,rx,a,ov,ex,g,q2⟩=>?_
 subst ex;obtain rfl:u=Value.ref a:=rx;exact by0 hu I2 g ry fun s3 I3=>⟨.bl (!ov.isSome),H2,I3,rfl,q2⟩
end
theorem es0{P:Program}{w:World}{H:Hp}(h:Heap)(hb:sysModules<h.objs.size):ObjOk P w H (h.push { cls:=.type "dict",data:=.dict #[] }) h.objs.size (.dK []) :=
 ⟨Nat.zero_le _,beq_eq_false_iff_ne.mpr (Ne.symm (Nat.ne_of_lt hb)),[],.nil,Heap.DictOf.new h⟩
theorem ek0{P:Program}{w:World}{H:Hp}(h:Heap)(hb:sysModules<h.objs.size):ObjOk P w H (h.push { cls:=.type "dict",data:=.dict #[] }) h.objs.size (.dT []) :=
 ⟨Nat.zero_le _,beq_eq_false_iff_ne.mpr (Ne.symm (Nat.ne_of_lt hb)),[],.nil,_,#[],0,Heap.get?_push_size _ rfl,⟨rfl,rfl,rfl⟩,rfl,rfl,List.nodup_nil⟩
def Yz0:TE:=fun _ H Q=>∀p,H p=none->Q (.ref p) (upd H p (.dK []))
section
variable{X:Cx}{pos:Pos}
theorem d40:PE X (.Dict [] [] pos) Yz0:=fun pins s σ H Q I h =>
 wpAny_Dict_empty ⟨.ref s.heap.objs.size,_,I.laid (a:=s.heap.objs.size) (o:=.dK []) (t':=s.toks) (fun _ _ q=>Heap.get?_push_of_some _ q) (Nat.le_refl _) (es0 s.heap I.big),rfl,h _ (I.hok.fresh (Nat.le_refl _))⟩
end
section
variable{X:Cx}{pins:List (Addr×Obj)}{σ:St}{H:Hp}{s:Shared}{a:Addr}{y d:V}{u r:Value}{o:Option V}{A:Around}{E:Value->Shared->Prop}
end
section
variable{X:Cx}{o e f:Expr}{apos cpos:Pos}{td ty tx:TE}
end
section
variable{X:Cx}{pins:List (Addr×Obj)}{σ:St}{H:Hp}{s:Shared}{a:Addr}{kvs:List (Key×V)}{A:Around}{E:Value->Shared->Prop}
end
section
variable{X:Cx}{pins:List (Addr×Obj)}{σ:St}{H:Hp}{s:Shared}{a:Addr}{y:V}{u:Value}{A:Around}{E:Value->Shared->Prop}
end
end L2
namespace DL
open PySem PySem.Spec PyProof.Rows L2
section
variable{K:W.Frag}{H H':Hp}{B B':BS}{σ σ':St}{δ δ':Ds}
theorem Gr.fresh{p:Addr}{o:HO}(h:H p=none):Gr H (upd H p o) B (fun a=>B a∨a=p):=fun b u n e=>by
 have hb:b≠p:=M8 e h
 exact⟨fun z=>z.elim n hb,by rw[Y5 hb]; exact e⟩
theorem Gr.own{a:Addr}{o:HO}(h:B a):Gr H (upd H a o) B B:=fun b u n e=>⟨n,by rw[Y5 (fun z=>n (by rw[z]; exact h))]; exact e⟩
theorem RpO.mono{d:D}{a:Addr}(s:∀o,H a=some o->H' a=some o)(g:Gr H H' B B')(h:RpO K H B d a):RpO K H' B' d a:=by
 cases d<;>try exact h.elim
 ·obtain⟨xs,e,r⟩:=h; exact⟨xs,s _ e,r.mono g⟩
 ·obtain⟨xs,e,l,r⟩:=h; exact⟨xs,s _ e,l,r.mono g⟩
theorem RpL.mono{d:D}{a:Addr}(s:∀o,H a=some o->H' a=some o)(g:Gr H H' B B')(h:RpL K H B d a):RpL K H' B' d a:=by
 cases d with
 | tup es=>obtain⟨ds,q,xs,e,r⟩:=h; exact⟨ds,q,xs,s _ e,r.mono g⟩
 | _=>exact(RpO.mono s g (RpL.toO rfl h)).toL
theorem Pd.impI{α β:Type}{F G:α->β->Prop}:∀{l:List α} {m:List β},(∀(i:Nat) a b,l[i]?=some a->m[i]?=some b->F a b->G a b)->Paired F l m->Paired G l m
 | _,_,_,.nil=>.nil
 | _,_,h,.cons r t=>.cons (h 0 _ _ rfl rfl r) (Pd.impI (fun i a b e1 e2=>h (i+1) a b (by simpa using e1) (by simpa using e2)) t)
theorem mu0{α:Type}:∀{l:List α} {i:Nat} {a:α},l[i]?=some a->l.set i a=l
 | [],_,_,h=>by simp at h
 | x::l,0,a,h=>by simp at h; subst h; rfl
 | x::l,i+1,a,h=>by rw[List.set_cons_succ,mu0 (by simpa using h)]
theorem Pd.setR{α β:Type}{F:α->β->Prop}{a:α}{b:β}{i:Nat}(r:F a b){l:List α}{m:List β}(e:l[i]?=some a)(h:Paired F l m):Paired F l (m.set i b):=by
 have:=Pd.set r i h
 rwa [mu0 e] at this
theorem get_set{α:Type}{l:List α}{i j:Nat}{a b:α}(h:(l.set i a)[j]?=some b):(i=j/\a=b/\j<l.length)∨(i≠j/\l[j]?=some b):=by
 by_cases e:i=j
 ·subst e
  by_cases hl:i<l.length
  ·rw[List.getElem?_set_self hl] at h
   exact .inl ⟨rfl,Option.some.inj h,hl⟩
  ·rw[List.getElem?_eq_none (by simpa using hl)] at h; cases h
 ·rw[List.getElem?_set_ne e] at h
  exact .inr ⟨e,h⟩
theorem Env.at(e:Env K H B σ δ){i:Nat}{d:D}(h:δ[i]?=some (.ow d)):∃a,σ[i]?=some (some (.ref a))/\B a/\RpL K H B d a:=by
 obtain⟨o,h1,a,rfl,hb,r⟩:=Pd.get e.all h;exact⟨a,h1,hb,r⟩
theorem Env.mut(e:Env K H B σ δ){i:Nat}{d0 d:D}{a:Addr}{o:HO}(hi:δ[i]?=some (.ow d0))(hs:σ[i]?=some (some (.ref a)))(r:RpL K (upd H a o) B d a):Env K (upd H a o) B σ (δ.set i (.ow d)):=by
 obtain⟨a',h1,hb,_⟩:=e.at hi;rw[hs] at h1;cases h1;refine⟨?_,fun b z=>?_,fun j k b ds es h1 h2 h3 h4=>?_⟩
 ·
  have h0:Paired (fun (o':Option V) (s:Sl)=>SlR K (upd H a o) B o' s∨(∃d,s=.ow d/\o'=some (.ref a))) σ δ:=Pd.imp (fun o' s h=>by
   cases s with
   | un=>exact .inl trivial
   | ex c n=>obtain⟨v,e,r⟩:=h; exact .inl ⟨v,e,r.mono (Gr.own hb)⟩
   | sh d=>obtain⟨v,e,r⟩:=h; exact .inl ⟨v,e,r.mono (Gr.own hb)⟩
   | ow d =>
    obtain⟨b,e,hb',r⟩:=h
    by_cases z:b=a
    ·subst z; exact .inr ⟨d,rfl,e⟩
    ·exact .inl ⟨b,e,hb',r.mono (fun o h=>by rw[Y5 z]; exact h) (Gr.own hb)⟩) e.all
  have h1:=Pd.setR (i:=i) (b:=Sl.ow d) (.inl ⟨a,rfl,hb,r⟩) hs h0
  refine Pd.impI (fun j o' s e1 e2 h=>?_) h1
  rcases h with h|⟨d',rfl,rfl⟩
  ·exact h
  ·rcases get_set e2 with⟨rfl,e3,_⟩|⟨hne,e3⟩
   ·cases e3; exact⟨a,rfl,hb,r⟩
   ·exact absurd (e.own i j a d0 d' hi e3 hs e1) hne
 ·by_cases z':b=a
  ·subst z'; rw[j7]; exact fun z=>nomatch z
  ·rw[Y5 z']; exact e.bad b z
 ·have q1:∃d,δ[j]?=some (.ow d):=by
   rcases get_set h1 with⟨rfl,_,_⟩|⟨_,h⟩
   ·exact⟨_,hi⟩
   ·exact⟨_,h⟩
  have q2:∃d,δ[k]?=some (.ow d):=by
   rcases get_set h2 with⟨rfl,_,_⟩|⟨_,h⟩
   ·exact⟨_,hi⟩
   ·exact⟨_,h⟩
  obtain⟨d1,q1⟩:=q1;obtain⟨d2,q2⟩:=q2;exact e.own j k b d1 d2 q1 q2 h3 h4
theorem EnvS.mut{H₀:Hp}{B₀:BS}(en:EnvS K H₀ B₀ H σ δ)(s:Same H H')(b1:∀a,B₀ a->B a)(b2:∀a,B a->B₀ a∨H₀ a=none){i:Nat}{d0 d:D}{a:Addr}{o:HO}(hi:δ[i]?=some (.ow d0))(hs:σ[i]?=some (some (.ref a)))
  (env:Env K (upd H' a o) B σ (δ.set i (.ow d))):EnvS K H₀ B₀ (upd H' a o) σ (δ.set i (.ow d)):=by
 have h0:=en.fr i d0 a hi hs
 refine⟨fun b u h=>?_,⟨B,b1,b2,env⟩,fun j ds b h1 h2=>?_,en.b0⟩
 ·have:b≠a:=fun z=>by rw[z,h0] at h; cases h
  rw[Y5 this];exact s _ _ (en.same b u h)
 ·rcases get_set h1 with⟨rfl,_,_⟩|⟨_,h⟩
  ·rw[hs] at h2; cases h2; exact h0
  ·exact en.fr j ds b h h2
theorem EnvS.take{H₀:Hp}{B₀:BS}(en:EnvS K H₀ B₀ H σ δ)(b1:∀a,B₀ a->B a)(b2:∀a,B a->B₀ a∨H₀ a=none)(e:Env K H B σ δ)(i:Nat){d:D}{p:Addr}(hp:H p=none)(s:Same H H')
  (r:RpO K H' (fun a=>B a∨a=p) d p):EnvS K H₀ B₀ H' (σ.set i (some (.ref p))) (δ.set i (.ow d)):=by
 have g:Gr H H' B (fun a=>B a∨a=p):=fun b u n h=>⟨fun z=>z.elim n (M8 h hp),s _ _ h⟩
 have h0p:H₀ p=none:=en.same.free hp
 have live:∀{j:Nat} {d':D} {b:Addr},δ[j]?=some (.ow d')->σ[j]?=some (some (.ref b))->b≠p:=fun {j d' b} h1 h2=>by
  obtain⟨a,q1,q2,q3⟩:=e.at h1;rw[h2] at q1; cases q1;exact fun z=>e.bad _ q2 (by rw[z]; exact hp)
 refine⟨en.same.trans s,⟨fun a=>B a∨a=p,fun a z=>.inl (b1 a z),fun a z=>?_,?_,fun a z=>?_,fun j k a ds es h1 h2 h3 h4=>?_⟩,fun j ds a h1 h2=>?_,en.b0⟩
 ·rcases z with z|rfl
  ·exact b2 a z
  ·exact .inr h0p
 ·refine Pd.set ⟨p,rfl,.inr rfl,r.toL⟩ i (Pd.imp (fun o sl h=>?_) e.all)
  cases sl with
  | un=>trivial
  | ex c n=>obtain⟨v,e,r⟩:=h; exact⟨v,e,r.mono g⟩
  | sh d=>obtain⟨v,e,r⟩:=h; exact⟨v,e,r.mono g⟩
  | ow d=>obtain⟨b,e,hb',r⟩:=h; exact⟨b,e,.inl hb',r.mono (fun o h=>s _ _ h) g⟩
 ·rcases z with z|rfl
  ·intro q
   cases h:H a with
   | none=>exact e.bad a z h
   | some u=>rw[s _ _ h] at q; cases q
  ·exact r.live
 ·rcases get_set h1 with⟨rfl,_,_⟩|⟨n1,h1⟩
  ·rcases get_set h2 with⟨rfl,_,_⟩|⟨n2,h2⟩
   ·rfl
   ·rcases get_set h3 with⟨_,e3,_⟩|⟨n3,_⟩
    ·cases e3
     rw[List.getElem?_set_ne n2] at h4
     exact absurd rfl (live h2 h4)
    ·exact absurd rfl n3
  ·rcases get_set h2 with⟨rfl,_,_⟩|⟨n2,h2⟩
   ·rcases get_set h4 with⟨_,e4,_⟩|⟨n4,_⟩
    ·cases e4
     rw[List.getElem?_set_ne n1] at h3
     exact absurd rfl (live h1 h3)
    ·exact absurd rfl n4
   ·rw[List.getElem?_set_ne n1] at h3
    rw[List.getElem?_set_ne n2] at h4
    exact e.own j k a ds es h1 h2 h3 h4
 ·rcases get_set h1 with⟨rfl,_,_⟩|⟨n1,h1⟩
  ·rcases get_set h2 with⟨_,e3,_⟩|⟨n3,_⟩
   ·cases e3; exact h0p
   ·exact absurd rfl n3
  ·rw[List.getElem?_set_ne n1] at h2
   exact en.fr j ds a h1 h2
theorem Env.frz(e:Env K H B σ δ):∃B':BS,(∀a,B' a->B a)/\(∀a,B a->B' a∨∃(i:Nat) (d:D),δ[i]?=some (.ow d)/\σ[i]?=some (some (.ref a)))/\Env K H B' σ (DL.frz δ):=by
 refine⟨fun a=>B a/\¬∃(i:Nat) (d:D),δ[i]?=some (.ow d)/\σ[i]?=some (some (.ref a)),fun a z=>z.1,fun a z=>?_,?_,fun a z=>e.bad a z.1,fun i j a ds es h1 _ _ _=>?_⟩
 ·by_cases q:∃(i:Nat) (d:D),δ[i]?=some (.ow d)/\σ[i]?=some (some (.ref a))
  ·exact .inr q
  ·exact .inl ⟨z,q⟩
 ·have:Paired (fun o s=>SlR K H (fun a=>B a/\¬∃(i:Nat) (d:D),δ[i]?=some (.ow d)/\σ[i]?=some (some (.ref a))) o (sh0 s)) σ δ:=Pd.impI (fun i o s e1 e2 h=>by
   cases s with
   | un=>trivial
   | ex c n=>obtain⟨v,e,r⟩:=h; exact⟨v,e,r.mono (Gr.less fun a z=>z.1)⟩
   | sh d=>obtain⟨v,e,r⟩:=h; exact⟨v,e,r.mono (Gr.less fun a z=>z.1)⟩
   | ow d =>
    obtain⟨a,rfl,hb,r⟩:=h;exact⟨_,rfl,r.rp (fun a z=>z.1) fun z=>z.2 ⟨i,d,e2,e1⟩⟩) e.all
  have mp:∀{l:St} {m:Ds} {F:Option V->Sl->Prop},Paired (fun o s=>F o (sh0 s)) l m->Paired F l (m.map sh0):=by
   intro l m F h
   induction h with
   | nil=>exact .nil
   | cons r t ih=>exact .cons r ih
  exact mp this
 ·unfold DL.frz at h1
  rw[List.getElem?_map] at h1
  cases q:δ[i]? with
  | none=>rw[q] at h1; cases h1
  | some s=>rw[q] at h1; cases s<;>cases h1
theorem EnvS.frz{H₀:Hp}{B₀:BS}(en:EnvS K H₀ B₀ H σ δ):EnvS K H₀ B₀ H σ (DL.frz δ):=by
 obtain⟨B,b1,b2,env⟩:=en.ex;obtain⟨B',c1,c2,env'⟩:=env.frz;refine⟨en.same,⟨B',fun a z=>?_,fun a z=>b2 a (c1 a z),env'⟩,fun i ds a h1 _=>?_,en.b0⟩
 ·rcases c2 a (b1 a z) with q|⟨i,d,q1,q2⟩
  ·exact q
  ·exact absurd (en.fr i d a q1 q2) (en.b0 a z)
 ·unfold DL.frz at h1
  rw[List.getElem?_map] at h1
  cases q:δ[i]? with
  | none=>rw[q] at h1; cases h1
  | some s=>rw[q] at h1; cases s<;>cases h1
theorem jt0{d:D}{v:V}(h:flat d=true)(r:Rp K H B d v):Rp K H' B' d v:=by
 cases d<;>simp[flat] at h
 ·rw[W0] at r ⊢; exact r
 ·rw[Y4] at r ⊢; exact r
 ·rw[n6] at r ⊢; exact r
 ·rw[Y0] at r ⊢; exact r
end
section
variable{X:Cx}{e tg:Expr}{st:Stmt}{pos:Pos}{g:GE}{gt:GB}{G:GS}
theorem zu0(h:PD X e g):PD X e (U3 g):=.mk fun B δ pins s σ H Q I ⟨d,en,hq,k⟩=>by
 obtain⟨B',c1,c2,en'⟩:=en.frz;unfold U3 at hq
 cases e1:g (frz δ) with
 | none=>rw[e1] at hq; cases hq
 | some x =>
  rw[e1] at hq
  by_cases hf:flat x=true
  ·simp only[Option.bind_some,if_pos hf] at hq
   cases hq;exact h B' (frz δ) pins s σ H Q I ⟨_,en',e1,fun v H' s' r=>k v H' s' (jt0 hf r)⟩
  ·simp only[Option.bind_some,if_neg hf] at hq
   cases hq
theorem sr0(h:PTD X e gt):PTD X e (wj0 gt):=.mk fun B δ pins s σ H Q I ⟨d,en,hq,k⟩=>by
 obtain⟨B',c1,c2,en'⟩:=en.frz;exact h B' (frz δ) pins s σ H Q I ⟨d,en',hq,k⟩
theorem yr0(h:PD X e g):PSD X (.Return (some e) pos) (o9 (ub0 g)):=.mk fun H₀ B₀ δ pins s σ H D I ⟨r,en,hq,k⟩ =>
 m7 h H₀ B₀ (frz δ) pins s σ H D I ⟨r,en.frz,hq,k⟩
theorem K6{es:List Expr}{gA:GA}(h:PDA X es gA):PDF X (.List es pos) (X5 gA) :=
 .mk fun B δ=>(fh0 (h B δ)).imp fun σ H Q ⟨d,en,h,k⟩=>by
  unfold X5 at h
  cases e1:gA δ with
  | none=>rw[e1] at h; cases h
  | some ds =>
   rw[e1] at h
   by_cases hl:ds.length<=sizeLine
   ·simp only[Option.bind_some,if_pos hl] at h
    cases h;refine⟨ds,en,e1,fun vs H1 s1 r1=>⟨by rw[r1.length]; exact hl,fun p hp=>k _ _ (s1.free hp) (s1.trans (Z1 hp)) ⟨vs,j7,r1.mono (Gr.fresh hp)⟩⟩⟩
   ·simp only[Option.bind_some,if_neg hl] at h
    cases h
theorem ob0:PDF X (.Dict [] [] pos) (gc (.dct (.inl []) [])):=.mk fun B δ=>d40.imp fun σ H Q ⟨d,en,h,k⟩=>by
 cases h;exact fun p hp=>k p _ hp (Z1 hp) ⟨[],j7,rfl,by rw[o8]⟩
theorem T3(i:Nat){x:Str}{px:Pos}(h:PDF X e g)(hN:X.N.Nodup)(hi:X.N[i]?=some x:=by rfl)(hx:Loc X.env.scope x:=by first|exact Or.inl rfl|exact Or.inr rfl)
  (hs:swapsWithSole [.Name x px] e pos.line X.env=pure false:=by rfl) (hw:swappedStores [.Name x px] e X.env=pure none:=by rfl)
  (h1:(assignEach [.Name x px] X.env).map (·.2)=[assign (.Name x px) X.env]:=by rfl)
  (hf:X.fn x=true∨X.env.scope.names.lookup x=some .local:=by first|exact .inl rfl|exact .inr rfl|assumption):PSD X (.Assign [.Name x px] e pos) (V4 i g):=.mk fun H₀ B₀ δ pins s σ H D I ⟨r,en,e1,k⟩=>by
 unfold V4 at e1;obtain⟨B,b1,b2,env⟩:=en.ex
 cases e2:g δ with
 | none=>rw[e2] at e1; cases e1
 | some d =>
  rw[e2] at e1;cases e1;exact l70 (h B δ) (sw0 (i:=i) hN hi hx hf) hs hw h1 pins s σ H D I ⟨d,env,e2,fun p H' hp s' r=>k _ H' (en.take b1 b2 env i hp s' r)⟩
end
end DL
namespace L2
open PySem PySem.Spec PyProof.Rows
open PySem.AutoSeq1 (wpAny_loadPart')
theorem ip0(p:Addr)(xs:Array Value)(k:Nat)(q:Addr)(ys:Array Value)(m:Nat)(dq:Option Addr)(sq:Array (Option Value))(h0:¬(!xs.isEmpty&&Builtin.List.listTooLong (xs.size+ys.size))=true)(h1:xs.size<=sizeLine)(h2:xs.size+ys.size<=sizeLine+1) :
  Meets (Builtin.«list.extend» ⟨[.ref p,.ref q],[]⟩) (fun _ R s=>s.heap.get? p=some { cls:=.type "list",dict:=none,data:=.seq xs k,slots:=#[] }/\s.heap.get? q=some { cls:=.type "list",dict:=dq,data:=.seq ys m,slots:=sq }/\R (.ok (.ret Value.none)) { s with heap:=s.heap.update p (Obj.mapSeq fun z=>z++ys) }) :=
 .of_wp fun prog w A R s h=>by
  obtain⟨hp,g,d,tk,os⟩:=s;obtain⟨hl,hb,h⟩:=h;have f1:=AutoSeq1.idx_int;have f2:=AutoSeq1.sub_tuple_tuple;have f3:=AutoSeq1.sub_list_list;have f4:=AutoSeq1.sub_tuple_list;have f5:=AutoSeq1.sub_list_tuple;have hz':(xs++ys).size<=sizeLine+1:=by rw[Array.size_append]; exact h2
  wp_walk using (wpAny_updateSeq hl rfl (hz:=h1) (_hz':=hz')),wpAny_loadPart' hl,wpAny_loadPart' hb
  exact⟨_,rfl,h⟩
section
variable{X:Cx}
def d60(K:W.Frag):V->List V->Hp->VK->Prop:=fun x vs H Q=>∃l b xs zs,x=.ref l/\vs=[.ref b]/\H l=some (.lst xs)/\SqL K H b zs/\xs.length+zs.length<=sizeLine/\Q .non (upd H l (.lst (xs++zs)))
theorem h50:MtM X "list.extend" (d60 X.K):=by
 intro pins s σ H x vs v us Q I rx rv h;obtain⟨l,b,xs,zs,rfl,rfl,hH,hB,hz,q⟩:=h;cases rx;obtain⟨u,rfl,ru⟩:=rv.one;cases ru;obtain⟨z,its,n,r,hl,e⟩:=I.lstM hH;obtain⟨its2,r2,p2,z2⟩:=I.list hB;obtain⟨⟨cls2,dd2,data2,sl2⟩,ho2,hc2,n2,hd2⟩:=p2.isList;simp only at hc2 hd2;subst hc2 hd2;have hl2:=r2.length;have hsz:its.toArray.size+its2.toArray.size<=sizeLine:=by rw[List.size_toArray,List.size_toArray]; omega
 have hlong:¬(!its.toArray.isEmpty&&Builtin.List.listTooLong (its.toArray.size+its2.toArray.size))=true:=by
  rw[du0 hsz,Bool.and_false];exact Bool.false_ne_true
 refine call_meets F.slot_list_extend ⟨_,e,rfl⟩ F.entry_list_extend (F.args_list_extend_2 _ _)
  (ip0 l its.toArray n b its2.toArray n2 dd2 sl2 hlong (by rw[List.size_toArray]; omega) (by omega)) ⟨e,ho2,?_⟩
 refine⟨.non,_,I.lset (its':=its++its2) hH e (by simp) (r.append r2) ?_,rfl,q⟩
 rw[List.length_append];omega
def Wg0:V->V->V->Hp->(Hp->Prop)->Prop:=fun o i v H Q=>∃a H',o=.ref a/\DPut H a i v H'/\Q H'
theorem set_dict(hu:X.A.units+1<cLine):ch0 X Wg0:=by
 intro pins s σ H o i v ov iv u Q I ro ri rv h;obtain⟨a,H',rfl,g,q⟩:=h;cases ro;exact g30 hu I g ri rv fun s3 I3=>⟨H',I3,q⟩
end
end L2
namespace DL
open PySem PySem.Spec PyProof.Rows L2
section
variable{K:W.Frag}{H H':Hp}{B B':BS}{σ σ':St}{δ δ':Ds}
theorem Rps.set:∀{ds:List D} {xs:List V} {d:D} {v:V} (j:Nat),Rps K H B ds xs->Rp K H B d v->Rps K H B (ds.set j d) (xs.set j v)
 | [],_,_,_,_,h,_=>by rw[o8] at h; subst h; simp[o8]
 | d::ds,_,_,_,0,h,r=>by
  rw[o4] at h;obtain⟨y,t,rfl,h1,h2⟩:=h;rw[List.set_cons_zero,List.set_cons_zero,o4];exact⟨_,_,rfl,r,h2⟩
 | d::ds,_,_,_,j+1,h,r=>by
  rw[o4] at h;obtain⟨y,t,rfl,h1,h2⟩:=h;rw[List.set_cons_succ,List.set_cons_succ,o4];exact⟨_,_,rfl,h1,Rps.set j h2 r⟩
theorem Rps.dropLast{ds:List D}{xs:List V}(h:Rps K H B ds xs):Rps K H B ds.dropLast xs.dropLast:=by
 rw[List.dropLast_eq_take,List.dropLast_eq_take,h.length];exact h.take _
theorem Rps.erase{ds:List D}{xs:List V}(j:Nat)(h:Rps K H B ds xs):Rps K H B (ds.eraseIdx j) (xs.eraseIdx j):=by
 rw[List.eraseIdx_eq_take_drop_succ,List.eraseIdx_eq_take_drop_succ];exact Rps.append (h.take _) (h.drop _)
structure EnvV(K:W.Frag)(H₀:Hp)(B₀:BS)(H:Hp)(σ:St)(δ:Ds)(d:D)(v:V):Prop where
 same:Same H₀ H
 ex:∃B:BS,(∀a,B₀ a->B a)/\(∀a,B a->B₀ a∨H₀ a=none)/\Env K H B σ δ/\Rp K H B d v
 fr:∀(i:Nat) (ds:D) (a:Addr),δ[i]?=some (.ow ds)->σ[i]?=some (some (.ref a))->H₀ a=none
 b0:∀a,B₀ a->H₀ a≠none
theorem EnvV.s{H₀:Hp}{B₀:BS}{d:D}{v:V}(h:EnvV K H₀ B₀ H σ δ d v):EnvS K H₀ B₀ H σ δ:=⟨h.same,let ⟨B,b1,b2,e,_⟩:=h.ex; ⟨B,b1,b2,e⟩,h.fr,h.b0⟩
theorem EnvV.mk'{H₀:Hp}{B₀:BS}{d:D}{v:V}(h:EnvS K H₀ B₀ H σ δ)(b1:∀a,B₀ a->B a)(b2:∀a,B a->B₀ a∨H₀ a=none)(e:Env K H B σ δ)(r:Rp K H B d v):EnvV K H₀ B₀ H σ δ d v:=⟨h.same,⟨B,b1,b2,e,r⟩,h.fr,h.b0⟩
end
def tX(K:W.Frag)(H₀:Hp)(B₀:BS)(δ:Ds)(gx:GX):TE:=fun σ H Q=>∃r,EnvS K H₀ B₀ H σ δ/\gx δ=some r/\∀v H',EnvV K H₀ B₀ H' σ r.2 r.1 v->Q v H'
structure PX(X:Cx)(e:Expr)(gx:GX):Prop where
 mk::go:∀H₀ B₀ δ,PE X e (tX X.K H₀ B₀ δ gx)
instance{X:Cx}{e:Expr}{gx:GX}:CoeFun (PX X e gx) (fun _=>∀H₀ B₀ δ,PE X e (tX X.K H₀ B₀ δ gx)):=⟨PX.go⟩
def tTG(K:W.Frag)(H₀:Hp)(B₀:BS)(ft:D->Ds->Option Ds)(d:D)(δ:Ds):TG:=fun v σ H Q=>∃δ',EnvV K H₀ B₀ H σ δ d v/\ft d δ=some δ'/\∀σ' H',EnvS K H₀ B₀ H' σ' δ'->Q σ' H'
structure PTG(X:Cx)(tg:Expr)(ft:D->Ds->Option Ds):Prop where
 mk::go:∀H₀ B₀ d δ,PG X tg (tTG X.K H₀ B₀ ft d δ)
instance{X:Cx}{tg:Expr}{ft:D->Ds->Option Ds}:CoeFun (PTG X tg ft) (fun _=>∀H₀ B₀ d δ,PG X tg (tTG X.K H₀ B₀ ft d δ)):=⟨PTG.go⟩
section
variable{X:Cx}{e tg:Expr}{st:Stmt}{pos apos cpos px:Pos}{g:GE}{gt:GB}{G:GS}{x:Str}
theorem xp0(h:PD X e g):PX X e (R5 g):=.mk fun H₀ B₀ δ pins s σ H Q I ⟨r,en,e1,k⟩=>by
 unfold R5 at e1;obtain⟨B,b1,b2,env⟩:=en.ex
 cases e2:g δ with
 | none=>rw[e2] at e1; cases e1
 | some d =>
  rw[e2] at e1;cases e1;exact h B δ pins s σ H Q I ⟨d,env,e2,fun v H' s' r=>k v H' (EnvV.mk' (en.grow s') b1 b2 (env.same s') r)⟩
theorem w80{i:Nat}{δ:Ds}{ds:List D}(h:owL i δ=some ds):δ[i]?=some (.ow (.lst ds)):=by
 unfold owL at h;split at h
 ·cases h; assumption
 ·cases h
theorem bm0{i:Nat}{δ:Ds}{r:List K9×List D}(h:ph0 i δ=some r):δ[i]?=some (.ow (.dct (.inl r.1) r.2)):=by
 unfold ph0 at h;split at h
 ·cases h; assumption
 ·cases h
theorem wg0(i:Nat)(h:PD X e g)(hN:X.N[i]?=some x:=by rfl)(hv:Vis X.env.scope x:=by first|exact Or.inl rfl|exact Or.inr (Or.inl rfl)|exact Or.inr (Or.inr rfl))(hd:(x==("__debug__" : Str))=false:=by decide)(hcd:(x==("__classdict__" : Str))=false:=by decide)
  (hbase:attributeBase (.Name x px) "append" X.env (eval (.Name x px) X.env)=eval (.Name x px) X.env:=by rfl)
  (hfew:((backTo cpos (starEach [e] X.env)).all (fun x=>!x.1)&&(backToKw cpos (keywordEach [] X.env)).all (fun x=>x.1.isSome)
  &&decide (([e]:List Expr).length+([]:List Keyword).length+(if ([]:List Keyword).isEmpty then 0 else 1)<30))=true:=by rfl)
  (hline:(apos.endLine==cpos.line)=true:=by rfl) (hs:starEach [e] X.env=(false,eval e X.env)::starEach [] X.env:=by rfl) (hplain:(backTo cpos (starEach [] X.env)).any (·.1)=false:=by rfl) :
  PX X (.Call (.Attribute (.Name x px) "append" apos) [e] [] cpos) (Q5 i g):=.mk fun H₀ B₀ δ pins s σ H Q I ⟨r,en,e1,k⟩=>by
 unfold Q5 at e1;obtain⟨B,b1,b2,env⟩:=en.ex
 cases e2:owL i δ with
 | none=>rw[e2] at e1; cases e1
 | some ds =>
  cases e3:g δ with
  | none=>rw[e2,e3] at e1; cases e1
  | some d =>
   rw[e2,e3] at e1;simp only[Option.bind_some] at e1;split at e1
   ·rename_i hz
    cases e1;have hi:=w80 e2;obtain⟨a,hs',hb,xs,hx,rx⟩:=env.at hi;refine qf0 PySem.F.plainAttrs_list PySem.F.slot_list_append PySem.F.type_list_append s50 (yl0 (i:=i) hN hv hd hcd) (z00 (h B δ) yj0 hs) hbase hfew hline hs hplain pins s σ H Q I
     ⟨_,hs',.inl ⟨rfl,xs,.inl (.inl hx)⟩,d,env,e3,fun v H1 s1 r1=>⟨a,xs,v,rfl,rfl,s1 _ _ hx,by rw[rx.length]; exact hz,?_⟩⟩
    have env2:Env X.K (upd H1 a (.lst (xs++[v]))) B σ (δ.set i (.ow (.lst (ds++[d])))):=(env.same s1).mut hi hs' ⟨_,j7,(Rps.snoc (rx.same s1) r1).mono (Gr.own hb)⟩
    exact k _ _ (EnvV.mk' (en.mut s1 b1 b2 hi hs' env2) b1 b2 env2 (by rw[W0]))
   ·cases e1
theorem Xo0(i:Nat)(h:PD X e g)(hN:X.N[i]?=some x:=by rfl)(hv:Vis X.env.scope x:=by first|exact Or.inl rfl|exact Or.inr (Or.inl rfl)|exact Or.inr (Or.inr rfl))(hd:(x==("__debug__" : Str))=false:=by decide)(hcd:(x==("__classdict__" : Str))=false:=by decide)
  (hbase:attributeBase (.Name x px) "extend" X.env (eval (.Name x px) X.env)=eval (.Name x px) X.env:=by rfl)
  (hfew:((backTo cpos (starEach [e] X.env)).all (fun x=>!x.1)&&(backToKw cpos (keywordEach [] X.env)).all (fun x=>x.1.isSome)
  &&decide (([e]:List Expr).length+([]:List Keyword).length+(if ([]:List Keyword).isEmpty then 0 else 1)<30))=true:=by rfl)
  (hline:(apos.endLine==cpos.line)=true:=by rfl) (hs:starEach [e] X.env=(false,eval e X.env)::starEach [] X.env:=by rfl) (hplain:(backTo cpos (starEach [] X.env)).any (·.1)=false:=by rfl) :
  PX X (.Call (.Attribute (.Name x px) "extend" apos) [e] [] cpos) (rq0 i g):=.mk fun H₀ B₀ δ pins s σ H Q I ⟨r,en,e1,k⟩=>by
 unfold rq0 at e1;obtain⟨B,b1,b2,env⟩:=en.ex
 cases e2:owL i δ with
 | none=>rw[e2] at e1; cases e1
 | some ds =>
  cases e3:g δ with
  | none=>rw[e2,e3] at e1; cases e1
  | some d =>
   rw[e2,e3] at e1;simp only[Option.bind_some] at e1;cases d<;>try cases e1
   rename_i es
   dsimp only at e1
   split at e1
   ·rename_i hz
    cases e1;have hi:=w80 e2;obtain⟨a,hs',hb,xs,hx,rx⟩:=env.at hi;refine qf0 PySem.F.plainAttrs_list PySem.F.slot_list_extend PySem.F.type_list_extend h50 (yl0 (i:=i) hN hv hd hcd) (z00 (h B δ) yj0 hs) hbase hfew hline hs hplain pins s σ H Q I
     ⟨_,hs',.inl ⟨rfl,xs,.inl (.inl hx)⟩,_,env,e3,fun v H1 s1 r1=>?_⟩
    rw[Z5] at r1;obtain⟨b,zs,rfl,hq,rz⟩:=r1;refine⟨a,b,xs,zs,rfl,rfl,s1 _ _ hx,hq.to,by rw[rx.length,rz.length]; exact hz,?_⟩
    have env2:Env X.K (upd H1 a (.lst (xs++zs))) B σ (δ.set i (.ow (.lst (ds++es)))):=(env.same s1).mut hi hs' ⟨_,j7,(Rps.append (rx.same s1) rz).mono (Gr.own hb)⟩
    exact k _ _ (EnvV.mk' (en.mut s1 b1 b2 hi hs' env2) b1 b2 env2 (by rw[W0]))
   ·cases e1
theorem ff0(i:Nat)(hN:X.N[i]?=some x:=by rfl)(hv:Vis X.env.scope x:=by first|exact Or.inl rfl|exact Or.inr (Or.inl rfl)|exact Or.inr (Or.inr rfl))(hd:(x==("__debug__" : Str))=false:=by decide)(hcd:(x==("__classdict__" : Str))=false:=by decide)
  (hbase:attributeBase (.Name x px) "pop" X.env (eval (.Name x px) X.env)=eval (.Name x px) X.env:=by rfl) (hline:(apos.endLine==cpos.line)=true:=by rfl) :
  PX X (.Call (.Attribute (.Name x px) "pop" apos) [] [] cpos) (vk0 i):=.mk fun H₀ B₀ δ pins s σ H Q I ⟨r,en,e1,k⟩=>by
 unfold vk0 at e1;obtain⟨B,b1,b2,env⟩:=en.ex
 cases e2:owL i δ with
 | none=>rw[e2] at e1; cases e1
 | some ds =>
  rw[e2] at e1;simp only[Option.bind_some] at e1
  cases e3:ds.getLast? with
  | none=>rw[e3] at e1; cases e1
  | some d =>
   rw[e3] at e1;cases e1;have hi:=w80 e2;obtain⟨a,hs',hb,xs,hx,rx⟩:=env.at hi;rw[List.getLast?_eq_getElem?] at e3
   obtain⟨y,hy,ry⟩:=rx.get e3;refine g80 PySem.F.plainAttrs_list PySem.F.slot_list_pop PySem.F.type_list_pop Xd0 (yl0 (i:=i) hN hv hd hcd) hbase hline pins s σ H Q I
    ⟨_,hs',.inl ⟨rfl,xs,.inl (.inl hx)⟩,a,xs,y,rfl,rfl,hx,by rw[rx.length]; exact hy,?_⟩
   have env2:Env X.K (upd H a (.lst xs.dropLast)) B σ (δ.set i (.ow (.lst ds.dropLast))):=env.mut hi hs' ⟨_,j7,rx.dropLast.mono (Gr.own hb)⟩
   exact k _ _ (EnvV.mk' (en.mut (Same.refl _) b1 b2 hi hs' env2) b1 b2 env2 (ry.mono (Gr.own hb)))
theorem eq0(i:Nat)(h:PD X e g)(hN:X.N[i]?=some x:=by rfl)(hv:Vis X.env.scope x:=by first|exact Or.inl rfl|exact Or.inr (Or.inl rfl)|exact Or.inr (Or.inr rfl))(hd:(x==("__debug__" : Str))=false:=by decide)(hcd:(x==("__classdict__" : Str))=false:=by decide)
  (hbase:attributeBase (.Name x px) "pop" X.env (eval (.Name x px) X.env)=eval (.Name x px) X.env:=by rfl)
  (hfew:((backTo cpos (starEach [e] X.env)).all (fun x=>!x.1)&&(backToKw cpos (keywordEach [] X.env)).all (fun x=>x.1.isSome)
  &&decide (([e]:List Expr).length+([]:List Keyword).length+(if ([]:List Keyword).isEmpty then 0 else 1)<30))=true:=by rfl)
  (hline:(apos.endLine==cpos.line)=true:=by rfl) (hs:starEach [e] X.env=(false,eval e X.env)::starEach [] X.env:=by rfl) (hplain:(backTo cpos (starEach [] X.env)).any (·.1)=false:=by rfl) :
  PX X (.Call (.Attribute (.Name x px) "pop" apos) [e] [] cpos) (ur0 i g):=.mk fun H₀ B₀ δ pins s σ H Q I ⟨r,en,e1,k⟩=>by
 unfold ur0 at e1;obtain⟨B,b1,b2,env⟩:=en.ex
 cases e2:owL i δ with
 | none=>rw[e2] at e1; cases e1
 | some ds =>
  cases e3:g δ with
  | none=>rw[e2,e3] at e1; cases e1
  | some d =>
   rw[e2,e3] at e1;simp only[Option.bind_some] at e1;cases d<;>try cases e1
   rename_i kk
   dsimp only at e1
   split at e1
   ·rename_i hz
    cases e4:ds[kk.toNat]? with
    | none=>rw[e4] at e1; cases e1
    | some dy =>
     rw[e4] at e1;cases e1;have hi:=w80 e2;obtain⟨a,hs',hb,xs,hx,rx⟩:=env.at hi;obtain⟨y,hy,ry⟩:=rx.get e4;have hn:xs.length<=sizeLine:=(I.lstM hx).1;have hl:=w90;have hxl:=rx.length;refine qf0 PySem.F.plainAttrs_list PySem.F.slot_list_pop PySem.F.type_list_pop em0 (yl0 (i:=i) hN hv hd hcd) (z00 (h B δ) yj0 hs) hbase hfew hline hs hplain pins s σ H Q I
      ⟨_,hs',.inl ⟨rfl,xs,.inl (.inl hx)⟩,_,env,e3,fun v H1 s1 r1=>?_⟩
     rw[n6] at r1;subst r1;refine⟨a,xs,kk,kk.toNat,y,rfl,rfl,s1 _ _ hx,by omega,by omega,seqIndex_of hz.1 (by rw[hxl]; exact hz.2),hy,?_⟩
     have env2:Env X.K (upd H1 a (.lst (xs.eraseIdx kk.toNat))) B σ (δ.set i (.ow (.lst (ds.eraseIdx kk.toNat)))):=(env.same s1).mut hi hs' ⟨_,j7,((rx.same s1).erase _).mono (Gr.own hb)⟩
     exact k _ _ (EnvV.mk' (en.mut s1 b1 b2 hi hs' env2) b1 b2 env2 ((ry.same s1).mono (Gr.own hb)))
   ·cases e1
theorem k60{idx:List Nat}{f:D->Ds->Option Ds}(h:PGD X tg idx f):PTG X tg f:=.mk fun H₀ B₀ d δ pins s σ H v u Q I r ⟨δ',en,e1,k⟩=>by
 obtain⟨B,b1,b2,env,rv⟩:=en.ex;exact h B d δ pins s σ H v u Q I r ⟨δ',rv,env,e1,fun σ' w en'=>k σ' H (en.s.wr b1 b2 (Same.refl _) w en')⟩
theorem p80(i:Nat)(h:PD X e g)(hN:X.N[i]?=some x:=by rfl)(hv:Vis X.env.scope x:=by first|exact Or.inl rfl|exact Or.inr (Or.inl rfl)|exact Or.inr (Or.inr rfl))(hd:(x==("__debug__" : Str))=false:=by decide)(hcd:(x==("__classdict__" : Str))=false:=by decide)
  (ha:∀v,assign (.Subscript (.Name x px) e pos) X.env v=(do
   let ov ← holding [v] (eval (.Name x px) X.env)
   let iv ← holding [v,ov] (eval e X.env)
   standAt pos
   holding [v,ov,iv] (setItem ov iv v)
   release [v,ov,iv] []):=by intro _; rfl):PTG X (.Subscript (.Name x px) e pos) (setAt i g):=.mk fun H₀ B₀ d δ pins s σ H v u Q I r ⟨δ',en,e1,k⟩=>by
 unfold setAt at e1;obtain⟨B,b1,b2,env,rv⟩:=en.ex
 cases e2:owL i δ with
 | none=>rw[e2] at e1; cases e1
 | some ds =>
  cases e3:g δ with
  | none=>rw[e2,e3] at e1; cases e1
  | some dk =>
   rw[e2,e3] at e1;simp only[Option.bind_some] at e1;cases dk<;>try cases e1
   rename_i kk
   dsimp only at e1
   cases e4:ixN ds.length kk with
   | none=>rw[e4] at e1; cases e1
   | some j =>
    rw[e4] at e1;cases e1;have hi:=w80 e2;obtain⟨a,hs',hb,xs,hx,rx⟩:=env.at hi;refine e60 (yl0 (i:=i) hN hv hd hcd) (h B δ) set_list ha pins s σ H v u Q I r ⟨_,hs',_,env,e3,fun iv H1 s1 r1=>?_⟩
    rw[n6] at r1;subst r1;refine⟨a,xs,kk,j,rfl,rfl,s1 _ _ hx,by rw[rx.length]; exact e4,?_⟩
    have env2:Env X.K (upd H1 a (.lst (xs.set j v))) B σ (δ.set i (.ow (.lst (ds.set j d)))):=(env.same s1).mut hi hs' ⟨_,j7,(Rps.set j (rx.same s1) (rv.same s1)).mono (Gr.own hb)⟩
    exact k _ _ (en.s.mut s1 b1 b2 hi hs' env2)
theorem zf0{gx:GX}{ft:D->Ds->Option Ds}(h:PX X e gx)(hg:PTG X tg ft)(hs:swapsWithSole [tg] e pos.line X.env=pure false:=by rfl)(hw:swappedStores [tg] e X.env=pure none:=by rfl)
  (h1:(assignEach [tg] X.env).map (·.2)=[assign tg X.env]:=by rfl):PSD X (.Assign [tg] e pos) (U4 gx ft):=.mk fun H₀ B₀ δ pins s σ H D I ⟨r,en,e1,k⟩=>by
 unfold U4 at e1
 cases e2:gx δ with
 | none=>rw[e2] at e1; cases e1
 | some q =>
  rw[e2] at e1;simp only[Option.bind_some] at e1
  cases e3:ft q.1 q.2 with
  | none=>rw[e3] at e1; cases e1
  | some δ' =>
   rw[e3] at e1;cases e1;exact l70 (h H₀ B₀ δ) (hg H₀ B₀ q.1 q.2) hs hw h1 pins s σ H D I ⟨q,en,e2,fun v H' en'=>⟨δ',en',e3,fun σ' H'' en''=>k σ' H'' en''⟩⟩
theorem N6{gx:GX}(h:PX X e gx)(hs:swapsWith e none pos.line X.env=pure false:=by rfl):PSD X (.Expr e pos) (X8 gx):=.mk fun H₀ B₀ δ pins s σ H D I ⟨r,en,e1,k⟩=>by
 unfold X8 at e1
 cases e2:gx δ with
 | none=>rw[e2] at e1; cases e1
 | some q =>
  rw[e2] at e1;cases e1;exact Zl0 (h H₀ B₀ δ) hs pins s σ H D I ⟨q,en,e2,fun v H' en'=>k σ H' en'.s⟩
theorem tv0(n:Nat){c:Expr}{body:List Stmt}(hp:PassesOwn (model X.prog X.w) X.A X.env X.xe)(hc:PTD X c gt)(hb:PSsD X body G):PSD X (.While c body [] pos) (T9 gt G n):=.mk fun H₀ B₀ δ pins s σ H D I ⟨r,en,e1,k⟩=>by
 have hc':PT X c (fun σ H Q=>∃B δ,tDT X.K B δ gt σ H Q):=fun pins s σ H Q I ⟨B,δ,h⟩=>hc B δ pins s σ H Q I h
 have hb':PSs X body (fun D σ H=>∃δ,tDS X.K H₀ B₀ δ G D σ H):=fun pins s σ H D I ⟨δ,h⟩=>hb H₀ B₀ δ pins s σ H D I h
 refine d10 hp hc' hb' pins s σ H D I ⟨fun m σ H=>∃δ',EnvS X.K H₀ B₀ H σ δ'/\T9 gt G m δ'=some r,⟨n,δ,en,e1⟩,?_⟩
 rintro m σ1 H1 ⟨δ1,en1,e2⟩
 cases m with
 | zero=>cases e2
 | succ m =>
  unfold T9 at e2;obtain⟨B,b1,b2,env⟩:=en1.ex
  cases e3:gt δ1 with
  | none=>rw[e3] at e2; cases e2
  | some t =>
   rw[e3] at e2;refine⟨B,δ1,t,env,e3,fun H2 s2=>?_⟩
   cases t with
   | false =>
    rw[if_neg Bool.false_ne_true];cases e2;exact k σ1 H2 (en1.grow s2)
   | true =>
    rw[if_pos rfl]
    dsimp only at e2
    refine⟨fun σ' H'=>∃δ',EnvS X.K H₀ B₀ H' σ' δ'/\T9 gt G m δ'=some r,fun σ' H' z=>⟨m,Nat.lt_succ_self m,z⟩,δ1,?_⟩
    cases e4:G δ1 with
    | none=>rw[e4] at e2; cases e2
    | some rb =>
     rw[e4] at e2;refine⟨rb,en1.grow s2,e4,?_⟩
     cases rb with
     | nx δn=>exact fun σ' H' en'=>⟨δn,en',e2⟩
     | ct δn=>exact fun σ' H' en'=>⟨δn,en',e2⟩
     | bk δn=>cases e2; exact fun σ' H' en'=>k σ' H' en'
     | rt d'=>cases e2; exact fun v H' s' r'=>k v H' s' r'
     | rf d'=>cases e2; exact fun p H' hp s' r'=>k p H' hp s' r'
theorem xk0(i j:Nat){y:Str}{p2 p3:Pos}{kk}(hN:X.N.Nodup)(hij:i≠j)(hc:X.calm=true:=by rfl)(hi:X.N[i]?=some x:=by rfl)(hj:X.N[j]?=some y:=by rfl)
  (hx:Loc X.env.scope x:=by first|exact Or.inl rfl|exact Or.inr rfl) (hy:Loc X.env.scope y:=by first|exact Or.inl rfl|exact Or.inr rfl)
  (hf:X.fn x=true∨X.env.scope.names.lookup x=some .local:=by first|exact .inl rfl|exact .inr rfl|assumption) (hf2:X.fn y=true∨X.env.scope.names.lookup y=some .local:=by first|exact .inl rfl|exact .inr rfl|assumption)
  (hs1:(assignEach [.Name x p2,.Name y p3] X.env).map (·.2)=assign (.Name x p2) X.env::(assignEach [.Name y p3] X.env).map (·.2):=by rfl) (hs2:(assignEach [.Name y p3] X.env).map (·.2)=assign (.Name y p3) X.env::(assignEach [] X.env).map (·.2):=by rfl)
  (hn:(assignEach [.Name x p2,.Name y p3] X.env).length=2:=by rfl) (hst:(assignEach [.Name x p2,.Name y p3] X.env).findIdx? (·.1)=none:=by rfl) :
  PGD X (.Tuple [.Name x p2,.Name y p3] kk pos) [i,j] (ze0 i j):=.mk fun B d δ=>(X10 hc (mv0 (sw0 (i:=i) hN hi hx hf) (mv0 (sw0 (i:=j) hN hj hy hf2) Y90 hs2) hs1) hn hst).imp fun v σ H Q ⟨δ',r,en,e1,k⟩=>by
 unfold ze0 at e1;split at e1
 ·rename_i da db
  cases e1;rw[X4] at r;obtain⟨p,xs,rfl,hq,rs⟩:=r;rw[o4] at rs;obtain⟨va,t1,rfl,ra,rs⟩:=rs;rw[o4] at rs;obtain⟨vb,t2,rfl,rb,rs⟩:=rs;rw[o8] at rs;subst rs;refine⟨p,_,rfl,hq.to,rfl,va,[vb],rfl,vb,[],rfl,rfl,k _ ?_ ((en.set i ra).set j rb)⟩
  refine⟨by simp,fun q hq=>?_,fun q hq ds h=>?_⟩
  ·have h1:q≠i:=fun z=>hq (by rw[z]; exact List.mem_cons_self)
   have h2:q≠j:=fun z=>hq (by rw[z]; exact List.mem_cons_of_mem _ List.mem_cons_self)
   rw[List.getElem?_set_ne (Ne.symm h2),List.getElem?_set_ne (Ne.symm h1),List.getElem?_set_ne (Ne.symm h2),List.getElem?_set_ne (Ne.symm h1)]
   exact⟨rfl,rfl⟩
  ·rcases get_set h with⟨rfl,e3,_⟩|⟨n1,e3⟩
   ·cases e3
   ·rcases get_set e3 with⟨rfl,e4,_⟩|⟨n2,e4⟩
    ·cases e4
    ·simp at hq
     rcases hq with z|z
     ·exact n2 z.symm
     ·exact n1 z.symm
 ·cases e1
end
end DL
namespace HT
open PySem PyProof.Rows
section
variable{prog:Program}{w:World}{A:Around}{E:Value->Shared->Prop}{s:Shared}
theorem tj0{t sl:Addr}{items:Array Value}{vl vu:Value}{lo hi:Option Int}{Q:Value->Shared->Prop}(ht:IsTup s.heap t items)(hs:s.heap.IsSliceOf sl vl vu .none)(pl:IsPart vl lo)(pu:IsPart vu hi)
  (hw:sIx items.size 0 lo=0/\sIx items.size items.size hi=items.size) (h:Q (.ref t) s):wpAny (model prog w) A (getItem (.ref t) (.ref sl)) Q E s:=by
 obtain⟨os,hos,hcs,hds⟩:=id hs;have hTs:s.TypeIs (.ref sl) "slice" := ⟨os,hos,hcs⟩;unfold getItem
 try with_reducible refine wpAny_holding ?_
 first|refine wpAny_bind (wpAny_pure ?_)|skip
 refine wpAny_bind (wpAny_sequenceKey ht.typeIs (by decide) ?_)
 refine wpAny_bind (wpAny_callSpecial?_slot (name:=Str.ofString "__getitem__") ht.typeIs PyProof.Rows.slot_tuple_getitem
  (wpAny_call_entry PyProof.Rows.slot_tuple_getitem ht.typeIs entry_tuple_getitem ?_ (args_tuple_getitem _ _)))
 show wpAny _ _ (Builtin.Tuple.tupleItemsOf (.ref t)>>=_) _ _ s
 refine wpAny_bind (tupleItemsOf_ ht ?_)
 refine wpAny_bind (wpAny_typeOf hTs ?_)
 rw[if_pos (by decide)]
 refine wpAny_bind (vf0 hs pl pu ?_)
 have hyes:(((sIx items.size 0 lo:Nat):Int)==0&&(1:Int)==1&&(sIx items.size items.size hi - sIx items.size 0 lo)==items.size)=true:=by
  rw[hw.1,hw.2]
  simp
 show wpAny _ _ (if (((sIx items.size 0 lo:Nat):Int)==0&&(1:Int)==1&&(sIx items.size items.size hi - sIx items.size 0 lo)==items.size)=true then _ else _) _ _ s
 rw[if_pos hyes];unfold Builtin.Tuple.tupleIsExact;refine wpAny_bind (wpAny_bind (wpAny_typeOf ht.typeIs (wpAny_pure ?_)))
 rw[if_pos (by decide)]
 exact wpAny_bind (wpAny_rule (wpAny_pure ⟨_,rfl,wpAny_pure h⟩))
end
end HT
namespace L2
open PySem PySem.Spec PyProof.Rows
section
variable{X:Cx}
def Vb0(K:W.Frag):V->Option Int->Option Int->Hp->VK->Prop:=fun x lo hi H Q=>∃a xs,x=.ref a/\SqT K H a xs/\(HT.sIx xs.length 0 lo=0/\HT.sIx xs.length xs.length hi=xs.length)/\Q (.ref a) H
theorem ax0:SlR X (Vb0 X.K):=by
 intro pins s σ H x v vl vu lo hi sl Q I rx hs pl pu h;obtain⟨a,xs,rfl,hx,hw,q⟩:=h;cases rx;obtain⟨its,r,ht,hz⟩:=I.tuple hx;have hlen:its.toArray.size=xs.length:=by rw[List.size_toArray]; exact r.length.symm
 exact⟨"tuple",_,PyProof.Rows.slot_tuple_getitem.lookup,ht.typeIs,HT.tj0 ht hs pl pu (by rw[hlen]; exact hw) ⟨.ref a,H,I,rfl,q⟩⟩
def fz0(K:W.Frag):R2:=fun x y H Q=>∃a b ys,x=.ref a/\y=.ref b/\SqT K H a []/\SqT K H b ys/\Q (.ref b) H
theorem d80:OpR X (binaryOp .Add) (fz0 X.K):=by
 intro pins s σ H x y v u Q I rx ry h;obtain⟨a,b,ys,rfl,rfl,ha,hb,q⟩:=h;cases rx;cases ry;obtain⟨its,r1,p1,_⟩:=I.tuple ha;obtain⟨its2,r2,p2,_⟩:=I.tuple hb;have e:its=[]:=r1.zero;subst e;obtain⟨⟨cls,dd,data,sl⟩,ho,hc,n,hd⟩:=id p1;obtain⟨⟨cls2,dd2,data2,sl2⟩,ho2,hc2,n2,hd2⟩:=id p2;simp only at hc hd hc2 hd2;subst hc hd hc2 hd2;exact concat_meets ⟨_,ho,rfl⟩ ⟨_,ho2,rfl⟩ noFill_tuple_add seq_tuple_add PySem.F.slot_tuple_add PySem.F.entry_tuple_add (PySem.F.args_tuple_add_2 _ _)
  (tuple_addW0 a b _ its2.toArray n n2 dd dd2 sl sl2 rfl) ⟨ho,ho2,⟨.ref b,H,I,rfl,q⟩⟩
def xi0(x:Str)(n:Int):Str:=⟨(List.replicate n.toNat x.cps).foldl (·++·) #[]⟩
def bb0:R2:=fun x y H Q=>∃z n,x=.str z/\y=.int n/\-(2 ^ 62)<=n/\n<2 ^ 62/\z.length*n.toNat<=sizeLine/\Q (.str (xi0 z n)) H
theorem bo0:OpR X (binaryOp .Mult) bb0:=by
 intro pins s σ H x y v u Q I rx ry h;obtain⟨z,n,rfl,rfl,h1,h2,hz,q⟩:=h;obtain⟨t,rfl⟩:=rx;obtain⟨t',rfl⟩:=ry;have fin:∀t'' k,EP X pins σ Q (.str (xi0 z n) t'') { s with toks:=k }:=fun t'' k=>⟨.str _,H,I.tok k,⟨t'',rfl⟩,q⟩
 have hsl:(sizeLine:Nat)<2 ^ 40:=by decide
 have hdiv:¬n<1->¬((z.length:Int) > (2 ^ 63 - 1)/n):=by
  intro hn;have hn':0<n:=by omega
  have:(z.length:Int)*n<=2 ^ 63 - 1:=by
   have e:n=(n.toNat:Int):=by omega
   rw[e];have:((z.length*n.toNat:Nat):Int)<=2 ^ 40:=by exact_mod_cast (by omega:z.length*n.toNat<=2 ^ 40)
   rw[Int.natCast_mul] at this;omega
  exact Int.not_lt.mpr ((Int.le_ediv_iff_mul_le hn').mpr this)
 refine PySem.P.mul_str (by rw[decide_eq_false (by omega),decide_eq_false (by omega)]; rfl) (fun hn _=>hdiv hn) (fun _ _=>?_) ?_
 ·show decide (z.length*n.toNat > sizeLine)=false
  exact decide_eq_false (by omega)
 ·by_cases hn:n<1
  ·rw[if_pos hn]
   have e:xi0 z n=Str.empty:=by
    unfold xi0;rw[show n.toNat=0 by omega]
    rfl
   refine⟨by decide,?_⟩
   rw[← e];exact fin _ _
  ·rw[if_neg hn]
   by_cases h3:(n==1||z.length==0)=true
   ·rw[if_pos h3]
    have e:xi0 z n=z:=by
     rw[Bool.or_eq_true] at h3;rcases h3 with h3|h3
     ·have:n=1:=eq_of_beq h3
      subst this;unfold xi0;show (⟨#[]++z.cps⟩:Str)=z;rw[Array.empty_append]
     ·have h3:z.length=0:=eq_of_beq h3
      have hz0:z.cps=#[]:=Array.eq_empty_of_size_eq_zero h3
      have:∀k:Nat,(List.replicate k (#[]:Array Nat)).foldl (·++·) #[]=#[]:=by
       intro k
       induction k with
       | zero=>rfl
       | succ k ih=>rw[List.replicate_succ,List.foldl_cons]; exact ih
      unfold xi0;rw[hz0,this];cases z
      simp at hz0
      rw[hz0]
    have:=fin t s.toks
    rw[e] at this;exact this
   ·rw[if_neg h3]
    have hl2:∀(k:Nat) (acc:Array Nat),((List.replicate k z.cps).foldl (·++·) acc).size=acc.size+k*z.cps.size:=by
     intro k
     induction k with
     | zero=>intro acc; simp
     | succ k ih=>intro acc; rw[List.replicate_succ,List.foldl_cons,ih,Array.size_append,Nat.succ_mul]; omega
    refine⟨?_,fin _ _⟩
    show ((List.replicate n.toNat z.cps).foldl (·++·) #[]).size<=_
    rw[hl2];have:z.length=z.cps.size:=rfl;rw[this,Nat.mul_comm] at hz
    simpa using hz
theorem pe0:fillsNumberSlot (.type "tuple") "mul"=pure false :=
 PySem.fillsNumberSlot_seq (id := "tuple.__mul__") (r:=some (.builtin "tuple.__rmul__")) PySem.F.slot_tuple_mul.lookup (by decide +kernel) PySem.F.slot_tuple_rmul.lookup (by decide +kernel)
theorem if0:seqRepeat? (.type "tuple")=pure (some (.builtin "tuple.__mul__")):=by
 unfold seqRepeat?;rw[PySem.seqSlot_of (T := "tuple") (name := "__mul__") (id := "tuple.__mul__") PySem.F.slot_tuple_mul.lookup (by decide +kernel),PySem.seqSlot_of (T := "tuple") (name := "__rmul__") (id := "tuple.__rmul__") PySem.F.slot_tuple_rmul.lookup (by decide +kernel)]
 rfl
theorem le0(a:Int)(t:Tok)(l:Addr)(items:Array Value)(n:Nat)(dd:Option Addr)(sl:Array (Option Value)) :
  Meets (Builtin.«int.__rmul__» ⟨[.int a t,.ref l],[]⟩) (fun _ R s=>s.heap.get? l=some { cls:=.type "tuple",dict:=dd,data:=.seq items n,slots:=sl }/\R (.ok (.ret Value.notImplemented)) s) :=
 .of_wp fun prog w A R s h=>by
  obtain⟨hp,g,d,tk,os⟩:=s;obtain⟨hl,h⟩:=h
  wp_walk
  exact⟨_,rfl,h⟩
theorem eg0(l:Addr)(items:Array Value)(n:Nat)(dd:Option Addr)(sl:Array (Option Value))(k:Int)(t:Tok)(h2:2<=k)(h3:k<2 ^ 62)(he:items.isEmpty=false)(hsz:items.size*k.toNat<=sizeLine) :
  Meets (Builtin.«tuple.__mul__» ⟨[.ref l,.int k t],[]⟩) (fun _ R s=>s.heap.get? l=some { cls:=.type "tuple",dict:=dd,data:=.seq items n,slots:=sl }/\R (.ok (.ret (Value.ref s.heap.objs.size))) { s with heap:=s.heap.push { cls:=.type "tuple",data:=.seq ((List.replicate k.toNat items).foldl (·++·) #[]) } }) :=
 .of_wp fun prog w A R s h=>by
  obtain⟨hp,g,d,tk,os⟩:=s;obtain⟨hl,h⟩:=h;have f1:=AutoSeq1.idx_int;have c1:¬((decide (k < -(2 ^ 63:Int))||decide (k ≥ 2 ^ 63))=true):=by
   rw[decide_eq_false (by omega),decide_eq_false (by omega)]; exact Bool.false_ne_true
  have c2:¬((items.isEmpty||k==1)=true):=by
   rw[he,beq_eq_false_iff_ne.mpr (by omega)]; exact Bool.false_ne_true
  have c3:¬((decide (k<=0)||items.isEmpty)=true):=by
   rw[he,decide_eq_false (by omega)]; exact Bool.false_ne_true
  have hk:((items.size:Int)*k)=((items.size*k.toNat:Nat):Int):=by
   rw[Int.natCast_mul]; congr 1; omega
  have hb:(sizeLine:Nat)<2 ^ 40:=by decide
  have c4:¬((items.size:Int)*k > (2 ^ 63 - 1)/8):=by
   rw[hk]; omega
  have c5:¬(Builtin.Tuple.tupleTooMany ((items.size:Int)*k)=true):=by
   rw[hk];unfold Builtin.Tuple.tupleTooMany;simp only[decide_eq_true_eq];omega
  have hsz2:∀(m:Nat) (acc:Array Value),((List.replicate m items).foldl (·++·) acc).size=acc.size+m*items.size:=by
   intro m
   induction m with
   | zero=>intro acc; simp
   | succ m ih=>intro acc; rw[List.replicate_succ,List.foldl_cons,ih,Array.size_append,Nat.succ_mul]; omega
  have htake:sizeOk (.seq ((List.replicate k.toNat items).foldl (·++·) #[])):=by
   show ((List.replicate k.toNat items).foldl (·++·) #[]).size<=sizeLine
   rw[hsz2,Nat.mul_comm]
   simpa using hsz
  wp_walk
  rw[if_neg c1];show wpAny _ _ (Builtin.Tuple.tupleItemsOf (.ref l)>>=_) _ _ _;refine wpAny_bind (tupleItemsOf_ ⟨_,hl,rfl,n,rfl⟩ ?_)
  dsimp only
  rw[if_neg c2,if_neg c3];rw[if_neg c4,if_neg c5];exact wpAny_bind (m:=Builtin.Tuple.tupleExact _) (wpAny_newObj_type (wpAny_pure ⟨_,rfl,h⟩) htake)
def bg0(K:W.Frag):R2:=fun x y H Q=>∃a xs k,x=.ref a/\y=.int k/\SqT K H a xs/\xs≠[]/\2<=k/\k<2 ^ 62/\xs.length*k.toNat<=sizeLine/\∀p,H p=none->Q (.ref p) (upd H p (.tup (List.replicate k.toNat xs).flatten))
theorem Za0:OpR X (binaryOp .Mult) (bg0 X.K):=by
 intro pins s σ H x y v u Q I rx ry h;obtain⟨a,xs,k,rfl,rfl,ha,hx,h2,h3,hz,q⟩:=h;cases rx;obtain⟨t,rfl⟩:=ry;obtain⟨its,r1,p1,_⟩:=I.tuple ha;obtain⟨⟨cls,dd,data,sl⟩,ho,hc,n,hd⟩:=id p1;simp only at hc hd;subst hc hd;have hl:=r1.length;have he:its.toArray.isEmpty=false:=by
  cases its with
  | nil=>exact absurd (r1.nil_iff.mp rfl) hx
  | cons a b=>rfl
 have hlen:its.toArray.size*k.toNat<=sizeLine:=by rw[List.size_toArray,← hl]; exact hz
 have hnew:(List.replicate k.toNat its.toArray).foldl (·++·) #[]=(List.replicate k.toNat its).flatten.toArray:=by
  have:=foldl_rep its k.toNat []
  rw[List.nil_append] at this;exact this
 refine wpAny_binaryOp_repeat_ref (T := "tuple") (U := "int") (by decide) ⟨_,ho,rfl⟩ (fun s'=>typeIs_int s' k t) pe0 F.fills_int_mul F.slot_int_rmul if0 F.slot_int_index.lookup
  (call_meets F.slot_int_rmul (typeIs_int s k t) F.entry_int_rmul (F.args_int_rmul_2 _ _) (le0 k t a its.toArray n dd sl)
   ⟨ho,rfl,⟨_,ho,rfl⟩,call_meets F.slot_tuple_mul ⟨_,ho,rfl⟩ F.entry_tuple_mul (F.args_tuple_mul_2 _ _) (eg0 a its.toArray n dd sl k t h2 h3 he hlen) ⟨ho,?_⟩⟩)
 rw[hnew];refine⟨.ref s.heap.objs.size,_,I.laid (t':=s.toks) (o:=.tup (List.replicate k.toNat xs).flatten) (fun b ob q=>Heap.get?_push_of_some _ q) (Nat.le_refl _) ?_,rfl,q _ (I.hok.fresh (Nat.le_refl _))⟩
 exact⟨by rw[len_rep,Nat.mul_comm]; exact hz,_,r1.rep k.toNat,IsTupN.new _ _⟩
end
end L2
namespace DL
open PySem PySem.Spec PyProof.Rows L2
mutual
theorem rh0:∀(d:D) (n:Nat),lean d n=true->deq d d=true
 | .non,_,_=>by unfold deq; rfl
 | .bl b,_,_=>by unfold deq; simp
 | .int b,_,_=>by unfold deq; simp
 | .str b,_,_=>by unfold deq; simp
 | .tup ds,0,h=>by unfold lean at h; cases h
 | .tup ds,n+1,h=>by unfold lean at h; unfold deq; exact sf0 ds n h
 | .lst ds,0,h=>by unfold lean at h; cases h
 | .lst ds,n+1,h=>by unfold lean at h; unfold deq; exact sf0 ds n h
 | .dct _ _,n,h=>by unfold lean at h; cases h
theorem sf0:∀(ds:List D) (n:Nat),leans ds n=true->K8 ds ds=true
 | [],_,_=>by unfold K8; rfl
 | d::ds,n,h=>by
  unfold leans at h;rw[Bool.and_eq_true] at h;unfold K8;rw[rh0 d n h.1,sf0 ds n h.2];rfl
end
theorem xh0:∀ds es:List D,K8 ds es=((List.range (min ds.length es.length)).all (fun j=>deq (ds.getD j .non) (es.getD j .non))&&ds.length==es.length)
 | [],[]=>by unfold K8; simp
 | [],_::_=>by unfold K8; simp
 | _::_,[]=>by unfold K8; simp
 | d::ds,e::es=>by
  unfold K8;rw[xh0 ds es];have h1:min (d::ds).length (e::es).length=min ds.length es.length+1:=by simp only[List.length_cons]; omega
  rw[h1,List.range_succ_eq_map,List.all_cons,List.all_map];have h2:((d::ds).length==(e::es).length)=(ds.length==es.length):=by
   rw[Bool.eq_iff_iff]
   simp
  rw[h2,Bool.and_assoc];rfl
theorem vz0:∀{ds:List D} {n j:Nat} {d:D},leans ds n=true->ds[j]?=some d->lean d n=true
 | [],_,_,_,_,h=>by simp at h
 | d::ds,n,0,_,h,e=>by
  unfold leans at h;rw[Bool.and_eq_true] at h
  simp at e; subst e; exact h.1
 | d::ds,n,j+1,_,h,e=>by
  unfold leans at h;rw[Bool.and_eq_true] at h;exact vz0 (j:=j) h.2 (by simpa using e)
section
variable{X:Cx}{pins:List (Addr×Obj)}{σ:St}{H:Hp}{s:Shared}
mutual
theorem Rp.inj(I:Inv X pins σ H s){B B':BS}:∀{d e:D} {n m:Nat} {v:V},lean d n=true->lean e m=true->Rp X.K H B d v->Rp X.K H B' e v->d=e
 | .non,e,_,m,v,_,le,h,h'=>by
  rw[W0] at h; subst h
  cases e with
  | non=>rfl
  | bl b=>rw[Y4] at h'; cases h'
  | int b=>rw[n6] at h'; cases h'
  | str b=>rw[Y0] at h'; cases h'
  | tup b=>rw[X4] at h'; obtain⟨_,_,z,_⟩:=h'; cases z
  | lst b=>rw[Z5] at h'; obtain⟨_,_,z,_⟩:=h'; cases z
  | dct a b=>unfold lean at le; cases le
 | .bl c,e,_,m,v,_,le,h,h'=>by
  rw[Y4] at h; subst h
  cases e with
  | non=>rw[W0] at h'; cases h'
  | bl b=>rw[Y4] at h'; cases h'; rfl
  | int b=>rw[n6] at h'; cases h'
  | str b=>rw[Y0] at h'; cases h'
  | tup b=>rw[X4] at h'; obtain⟨_,_,z,_⟩:=h'; cases z
  | lst b=>rw[Z5] at h'; obtain⟨_,_,z,_⟩:=h'; cases z
  | dct a b=>unfold lean at le; cases le
 | .int c,e,_,m,v,_,le,h,h'=>by
  rw[n6] at h; subst h
  cases e with
  | non=>rw[W0] at h'; cases h'
  | bl b=>rw[Y4] at h'; cases h'
  | int b=>rw[n6] at h'; cases h'; rfl
  | str b=>rw[Y0] at h'; cases h'
  | tup b=>rw[X4] at h'; obtain⟨_,_,z,_⟩:=h'; cases z
  | lst b=>rw[Z5] at h'; obtain⟨_,_,z,_⟩:=h'; cases z
  | dct a b=>unfold lean at le; cases le
 | .str c,e,_,m,v,_,le,h,h'=>by
  rw[Y0] at h; subst h
  cases e with
  | non=>rw[W0] at h'; cases h'
  | bl b=>rw[Y4] at h'; cases h'
  | int b=>rw[n6] at h'; cases h'
  | str b=>rw[Y0] at h'; cases h'; rfl
  | tup b=>rw[X4] at h'; obtain⟨_,_,z,_⟩:=h'; cases z
  | lst b=>rw[Z5] at h'; obtain⟨_,_,z,_⟩:=h'; cases z
  | dct a b=>unfold lean at le; cases le
 | .tup ds,e,0,m,v,ld,_,_,_=>by unfold lean at ld; cases ld
 | .tup ds,e,n+1,m,v,ld,le,h,h'=>by
  rw[X4] at h;obtain⟨a,xs,rfl,q,r⟩:=h;unfold lean at ld
  cases e with
  | non=>rw[W0] at h'; cases h'
  | bl b=>rw[Y4] at h'; cases h'
  | int b=>rw[n6] at h'; cases h'
  | str b=>rw[Y0] at h'; cases h'
  | tup es =>
   cases m with
   | zero=>unfold lean at le; cases le
   | succ m =>
    unfold lean at le;rw[X4] at h';obtain⟨a',ys,z,q',r'⟩:=h';cases z;have:=I.tuple_inj q.to q'.to;subst this;rw[Rps.inj I ld le r r']
  | lst es =>
   rw[Z5] at h';obtain⟨a',ys,z,q',r'⟩:=h';cases z;obtain⟨_,_,⟨o,e1,c1,_⟩,_⟩:=I.tuple q.to;obtain⟨_,_,p,_⟩:=I.list q'.to;obtain⟨o',e2,c2,_⟩:=p.isList;rw[e1] at e2; cases e2;rw[c1] at c2;injection c2 with z
   exact absurd z (by decide)
  | dct a b=>unfold lean at le; cases le
 | .lst ds,e,0,m,v,ld,_,_,_=>by unfold lean at ld; cases ld
 | .lst ds,e,n+1,m,v,ld,le,h,h'=>by
  rw[Z5] at h;obtain⟨a,xs,rfl,q,r⟩:=h;unfold lean at ld
  cases e with
  | non=>rw[W0] at h'; cases h'
  | bl b=>rw[Y4] at h'; cases h'
  | int b=>rw[n6] at h'; cases h'
  | str b=>rw[Y0] at h'; cases h'
  | lst es =>
   cases m with
   | zero=>unfold lean at le; cases le
   | succ m =>
    unfold lean at le;rw[Z5] at h';obtain⟨a',ys,z,q',r'⟩:=h';cases z;have:=I.list_inj q.to q'.to;subst this;rw[Rps.inj I ld le r r']
  | tup es =>
   rw[X4] at h';obtain⟨a',ys,z,q',r'⟩:=h';cases z;obtain⟨_,_,⟨o,e1,c1,_⟩,_⟩:=I.tuple q'.to;obtain⟨_,_,p,_⟩:=I.list q.to;obtain⟨o',e2,c2,_⟩:=p.isList;rw[e1] at e2; cases e2;rw[c1] at c2;injection c2 with z
   exact absurd z (by decide)
  | dct a b=>unfold lean at le; cases le
 | .dct a b,e,n,m,v,ld,_,_,_=>by unfold lean at ld; cases ld
theorem Rps.inj(I:Inv X pins σ H s){B B':BS}:∀{ds es:List D} {n m:Nat} {xs:List V},leans ds n=true->leans es m=true->Rps X.K H B ds xs->Rps X.K H B' es xs->ds=es
 | [],es,_,_,_,_,_,h,h'=>by
  rw[o8] at h; subst h;have:=h'.length
  cases es with
  | nil=>rfl
  | cons a b=>simp at this
 | d::ds,es,n,m,_,ld,le,h,h'=>by
  rw[o4] at h;obtain⟨x,r,rfl,h1,h2⟩:=h
  cases es with
  | nil=>rw[o8] at h'; cases h'
  | cons e es =>
   rw[o4] at h';obtain⟨x',r',z,h1',h2'⟩:=h';cases z;unfold leans at ld le;rw[Bool.and_eq_true] at ld le;rw[Rp.inj I ld.1 le.1 h1 h1',Rps.inj I ld.2 le.2 h2 h2']
end
theorem view(I:Inv X pins σ H s){B:BS}{d:D}{n:Nat}{x:V}{u:Value}(l:lean d n=true)(h:Rp X.K H B d x)(r:RelV x u) :
  (d=.non/\u=.none)∨(∃b,d=.bl b/\u=.bool b)∨(∃i t,d=.int i/\u=.int i t)∨(∃z t,d=.str z/\u=.str z t) ∨
  (∃m ds a xs its,n=m+1/\leans ds m=true/\d=.tup ds/\x=.ref a/\u=.ref a/\Rps X.K H B ds xs/\Vals xs its/\s.heap.IsTuple a its.toArray) ∨
  (∃m ds a xs its,n=m+1/\leans ds m=true/\d=.lst ds/\x=.ref a/\u=.ref a/\Rps X.K H B ds xs/\Vals xs its/\s.heap.IsList a its.toArray):=by
 cases d with
 | non=>rw[W0] at h; subst h; exact .inl ⟨rfl,r⟩
 | bl b=>rw[Y4] at h; subst h; exact .inr (.inl ⟨b,rfl,r⟩)
 | int i=>rw[n6] at h; subst h; obtain⟨t,e⟩:=r; exact .inr (.inr (.inl ⟨i,t,rfl,e⟩))
 | str z=>rw[Y0] at h; subst h; obtain⟨t,e⟩:=r; exact .inr (.inr (.inr (.inl ⟨z,t,rfl,e⟩)))
 | tup ds =>
  cases n with
  | zero=>unfold lean at l; cases l
  | succ m =>
   unfold lean at l;rw[X4] at h;obtain⟨a,xs,rfl,q,rr⟩:=h;obtain⟨its,rv,p,_⟩:=I.tuple q.to;exact .inr (.inr (.inr (.inr (.inl ⟨m,ds,a,xs,its,rfl,l,rfl,rfl,r,rr,rv,p⟩))))
 | lst ds =>
  cases n with
  | zero=>unfold lean at l; cases l
  | succ m =>
   unfold lean at l;rw[Z5] at h;obtain⟨a,xs,rfl,q,rr⟩:=h;obtain⟨its,rv,p,_⟩:=I.list q.to;exact .inr (.inr (.inr (.inr (.inr ⟨m,ds,a,xs,its,rfl,l,rfl,rfl,r,rr,rv,p.isList⟩))))
 | dct a b=>unfold lean at l; cases l
theorem in1_units{A:Around}:A.in1.units=A.units+1:=rfl
theorem uy0{ds es:List D}{xs ys:List V}{us ws:List Value}{n m:Nat}{B B':BS}{A:Around}(ld:leans ds n=true)(le:leans es m=true)(r1:Rps X.K H B ds xs)(r2:Rps X.K H B' es ys)(v1:Vals xs us)(v2:Vals ys ws)
  (ih:∀d e x y u w,lean d n=true->lean e m=true->Rp X.K H B d x->Rp X.K H B' e y->RelV x u->RelV y w->SeqAt.EqAt A s u w (deq d e)) :
  ∀j (h1:j<us.toArray.size) (h2:j<ws.toArray.size),SeqAt.EqAt A s us.toArray[j] ws.toArray[j] (deq (ds.getD j .non) (es.getD j .non)):=by
 intro j h1 h2;have l1:j<ds.length:=by rw[← r1.length,v1.length]; simpa using h1
 have l2:j<es.length:=by rw[← r2.length,v2.length]; simpa using h2
 obtain⟨x,ex,rx⟩:=r1.get (List.getElem?_eq_getElem l1)
 obtain⟨y,ey,ry⟩:=r2.get (List.getElem?_eq_getElem l2)
 obtain⟨u,eu,ru⟩:=v1.get ex;obtain⟨w,ew,rw'⟩:=v2.get ey;have hu:us.toArray[j]=u:=by
  have:us[j]?=some u:=eu
  simp at h1
  rw[List.getElem?_eq_getElem h1] at this
  simpa using Option.some.inj this
 have hw:ws.toArray[j]=w:=by
  have:ws[j]?=some w:=ew
  simp at h2
  rw[List.getElem?_eq_getElem h2] at this
  simpa using Option.some.inj this
 rw[hu,hw];have e1:ds.getD j .non=ds[j]:=by simp[List.getD_eq_getElem?_getD,l1]
 have e2:es.getD j .non=es[j]:=by simp[List.getD_eq_getElem?_getD,l2]
 rw[e1,e2];exact ih _ _ _ _ _ _ (vz0 ld (List.getElem?_eq_getElem l1)) (vz0 le (List.getElem?_eq_getElem l2)) rx ry ru rw'
theorem mn0(I:Inv X pins σ H s){B B':BS}:∀(n m:Nat) (d e:D) (x y:V) (u w:Value) (A:Around),A.units+n<cLine->lean d n=true->lean e m=true->Rp X.K H B d x->Rp X.K H B' e y->RelV x u->RelV y w->SeqAt.EqAt A s u w (deq d e):=by
 intro n
 induction n with
 | zero =>
  intro m d e x y u w A hu ld le hx hy rx ry;have hu':A.units<cLine:=by omega
  rcases view I ld hx rx with⟨rfl,rfl⟩|⟨b,rfl,rfl⟩|⟨i,t,rfl,rfl⟩|⟨z,t,rfl,rfl⟩|⟨n',_,_,_,_,hn,_⟩|⟨n',_,_,_,_,hn,_⟩<;>(try (exact absurd hn (by omega))) <;>
  rcases view I le hy ry with⟨rfl,rfl⟩|⟨b',rfl,rfl⟩|⟨i',t',rfl,rfl⟩|⟨z',t',rfl,rfl⟩|⟨m',es,a',ys,its',rfl,le',rfl,rfl,rfl,rr',rv',p'⟩|⟨m',es,a',ys,its',rfl,le',rfl,rfl,rfl,rr',rv',p'⟩ <;>
  unfold deq <;>
  first
  | with_reducible exact SeqAt.EqAt.same _|with_reducible exact SeqAt.EqAt.bool_bool _ _|with_reducible exact SeqAt.EqAt.int_int _ _ _ _|with_reducible exact SeqAt.EqAt.str_str _ _ _ _|with_reducible exact SeqAt.EqAt.bool_int _ _ _|with_reducible exact SeqAt.EqAt.int_bool _ _ _
  | with_reducible exact SeqAt.EqAt.none_bool _|with_reducible exact SeqAt.EqAt.none_int _ _|with_reducible exact SeqAt.EqAt.none_str _ _|with_reducible exact SeqAt.EqAt.bool_none _|with_reducible exact SeqAt.EqAt.bool_str _ _ _|with_reducible exact SeqAt.EqAt.int_none _ _|with_reducible exact SeqAt.EqAt.int_str _ _ _ _
  | with_reducible exact SeqAt.EqAt.str_none _ _|with_reducible exact SeqAt.EqAt.str_bool _ _ _|with_reducible exact SeqAt.EqAt.str_int _ _ _ _
  | with_reducible exact SeqAt.EqAt.none_list p' hu'|with_reducible exact SeqAt.EqAt.bool_list _ p' hu'|with_reducible exact SeqAt.EqAt.int_list _ _ p' hu'|with_reducible exact SeqAt.EqAt.str_list _ _ p' hu'
  | with_reducible exact SeqAt.EqAt.none_tuple p' hu'|with_reducible exact SeqAt.EqAt.bool_tuple _ p' hu'|with_reducible exact SeqAt.EqAt.int_tuple _ _ p' hu'|with_reducible exact SeqAt.EqAt.str_tuple _ _ p' hu'
 | succ n ih =>
  intro m d e x y u w A hu ld le hx hy rx ry;have hu':A.units<cLine:=by omega
  have hin:A.in1.units+n<cLine:=by rw[in1_units]; omega
  rcases view I ld hx rx with⟨rfl,rfl⟩|⟨b,rfl,rfl⟩|⟨i,t,rfl,rfl⟩|⟨z,t,rfl,rfl⟩|⟨n',ds,a,xs,its,hn,ld',rfl,rfl,rfl,rr,rv,p⟩|⟨n',ds,a,xs,its,hn,ld',rfl,rfl,rfl,rr,rv,p⟩ <;>
  rcases view I le hy ry with⟨rfl,rfl⟩|⟨b',rfl,rfl⟩|⟨i',t',rfl,rfl⟩|⟨z',t',rfl,rfl⟩|⟨m',es,a',ys,its',rfl,le',rfl,rfl,rfl,rr',rv',p'⟩|⟨m',es,a',ys,its',rfl,le',rfl,rfl,rfl,rr',rv',p'⟩
  case inr.inr.inr.inr.inl.inr.inr.inr.inr.inl =>
   cases hn
   by_cases hab:a=a'
   ·subst hab
    have e:D.tup ds=D.tup es:=Rp.inj I ld le hx hy
    rw[← e,rh0 _ _ ld];exact SeqAt.EqAt.same _
   ·refine SeqAt.EqAt.of_refs hab ?_
    have:=SeqAt.RcAt.tuples (e:=fun j=>deq (ds.getD j .non) (es.getD j .non)) p p' hu' (uy0 ld' le' rr rr' rv rv' fun d e x y u w h1 h2 h3 h4 h5 h6=>ih m' d e x y u w A.in1 hin h1 h2 h3 h4 h5 h6)
    unfold deq;rw[xh0]
    simpa [← rv.length,← rv'.length,rr.length,rr'.length] using this
  case inr.inr.inr.inr.inr.inr.inr.inr.inr.inr =>
   cases hn
   by_cases hab:a=a'
   ·subst hab
    have e:D.lst ds=D.lst es:=Rp.inj I ld le hx hy
    rw[← e,rh0 _ _ ld];exact SeqAt.EqAt.same _
   ·refine SeqAt.EqAt.of_refs hab ?_
    have s1:its.toArray.size=ds.length:=by rw[List.size_toArray,← rv.length,rr.length]
    have s2:its'.toArray.size=es.length:=by rw[List.size_toArray,← rv'.length,rr'.length]
    unfold deq;rw[xh0]
    by_cases hl:ds.length=es.length
    ·have:=SeqAt.RcAt.lists (e:=fun j=>deq (ds.getD j .non) (es.getD j .non)) p p' (by rw[s1,s2,hl]) hu' (uy0 ld' le' rr rr' rv rv' fun d e x y u w h1 h2 h3 h4 h5 h6=>ih m' d e x y u w A.in1 hin h1 h2 h3 h4 h5 h6)
     rw[s1] at this;rw[hl] at this ⊢
     simpa using this
    ·have:=SeqAt.RcAt.lists_lengths (A:=A) p p' (by rw[s1,s2]; simpa using hl) hu'
     rw[beq_eq_false_iff_ne.mpr hl,Bool.and_false];exact this
  all_goals
   unfold deq
   first
   | with_reducible exact SeqAt.EqAt.same _|with_reducible exact SeqAt.EqAt.bool_bool _ _|with_reducible exact SeqAt.EqAt.int_int _ _ _ _|with_reducible exact SeqAt.EqAt.str_str _ _ _ _|with_reducible exact SeqAt.EqAt.bool_int _ _ _|with_reducible exact SeqAt.EqAt.int_bool _ _ _
   | with_reducible exact SeqAt.EqAt.none_bool _|with_reducible exact SeqAt.EqAt.none_int _ _|with_reducible exact SeqAt.EqAt.none_str _ _|with_reducible exact SeqAt.EqAt.bool_none _|with_reducible exact SeqAt.EqAt.bool_str _ _ _|with_reducible exact SeqAt.EqAt.int_none _ _|with_reducible exact SeqAt.EqAt.int_str _ _ _ _
   | with_reducible exact SeqAt.EqAt.str_none _ _|with_reducible exact SeqAt.EqAt.str_bool _ _ _|with_reducible exact SeqAt.EqAt.str_int _ _ _ _
   | with_reducible exact SeqAt.EqAt.none_list p' hu'|with_reducible exact SeqAt.EqAt.bool_list _ p' hu'|with_reducible exact SeqAt.EqAt.int_list _ _ p' hu'|with_reducible exact SeqAt.EqAt.str_list _ _ p' hu'
   | with_reducible exact SeqAt.EqAt.none_tuple p' hu'|with_reducible exact SeqAt.EqAt.bool_tuple _ p' hu'|with_reducible exact SeqAt.EqAt.int_tuple _ _ p' hu'|with_reducible exact SeqAt.EqAt.str_tuple _ _ p' hu'
   | with_reducible exact SeqAt.EqAt.list_none p hu'|with_reducible exact SeqAt.EqAt.list_bool _ p hu'|with_reducible exact SeqAt.EqAt.list_int _ _ p hu'|with_reducible exact SeqAt.EqAt.list_str _ _ p hu'
   | with_reducible exact SeqAt.EqAt.tuple_none p hu'|with_reducible exact SeqAt.EqAt.tuple_bool _ p hu'|with_reducible exact SeqAt.EqAt.tuple_int _ _ p hu'|with_reducible exact SeqAt.EqAt.tuple_str _ _ p hu'
   | with_reducible exact SeqAt.EqAt.list_tuple p p' hu'|with_reducible exact SeqAt.EqAt.tuple_list p p' hu'
end
end DL
namespace DL
open PySem PySem.Spec PyProof.Rows L2
section
variable{X:Cx}{pins:List (Addr×Obj)}{σ:St}{H:Hp}{s:Shared}
theorem e90(I:Inv X pins σ H s){B B':BS}(n m:Nat)(d e:D)(x y:V)(u w:Value)(A:Around)(hu:A.units+n<cLine)(ld:lean d n=true)(le:lean e m=true)(hx:Rp X.K H B d x)(hy:Rp X.K H B' e y)(rx:RelV x u)(ry:RelV y w) :
  SeqAt.RcAt A s u w (deq d e)/\SeqAt.RcNeAt A s u w (!deq d e):=by
 have hu':A.units<cLine:=by omega
 rcases view I ld hx rx with⟨rfl,rfl⟩|⟨b,rfl,rfl⟩|⟨i,t,rfl,rfl⟩|⟨z,t,rfl,rfl⟩|⟨n',ds,a,xs,its,hn,ld',rfl,rfl,rfl,rr,rv,p⟩|⟨n',ds,a,xs,its,hn,ld',rfl,rfl,rfl,rr,rv,p⟩ <;>
 rcases view I le hy ry with⟨rfl,rfl⟩|⟨b',rfl,rfl⟩|⟨i',t',rfl,rfl⟩|⟨z',t',rfl,rfl⟩|⟨m',es,a',ys,its',rfl,le',rfl,rfl,rfl,rr',rv',p'⟩|⟨m',es,a',ys,its',rfl,le',rfl,rfl,rfl,rr',rv',p'⟩
 case inr.inr.inr.inr.inl.inr.inr.inr.inr.inl =>
  subst hn;have hin:A.in1.units+n'<cLine:=by rw[in1_units]; omega
  have hit:=uy0 (A:=A.in1) ld' le' rr rr' rv rv' fun d e x y u w h1 h2 h3 h4 h5 h6=>mn0 I n' m' d e x y u w A.in1 hin h1 h2 h3 h4 h5 h6
  have q1:=SeqAt.RcAt.tuples (e:=fun j=>deq (ds.getD j .non) (es.getD j .non)) p p' hu' hit
  have q2:=SeqAt.RcNeAt.tuples (e:=fun j=>deq (ds.getD j .non) (es.getD j .non)) p p' hu' hit
  unfold deq;rw[xh0];have s1:its.toArray.size=ds.length:=by rw[List.size_toArray,← rv.length,rr.length]
  have s2:its'.toArray.size=es.length:=by rw[List.size_toArray,← rv'.length,rr'.length]
  rw[s1,s2] at q1 q2;exact⟨q1,q2⟩
 case inr.inr.inr.inr.inr.inr.inr.inr.inr.inr =>
  subst hn;have hin:A.in1.units+n'<cLine:=by rw[in1_units]; omega
  have hit:=uy0 (A:=A.in1) ld' le' rr rr' rv rv' fun d e x y u w h1 h2 h3 h4 h5 h6=>mn0 I n' m' d e x y u w A.in1 hin h1 h2 h3 h4 h5 h6
  have s1:its.toArray.size=ds.length:=by rw[List.size_toArray,← rv.length,rr.length]
  have s2:its'.toArray.size=es.length:=by rw[List.size_toArray,← rv'.length,rr'.length]
  unfold deq;rw[xh0]
  by_cases hl:ds.length=es.length
  ·have q1:=SeqAt.RcAt.lists (e:=fun j=>deq (ds.getD j .non) (es.getD j .non)) p p' (by rw[s1,s2,hl]) hu' hit
   have q2:=SeqAt.RcNeAt.lists (e:=fun j=>deq (ds.getD j .non) (es.getD j .non)) p p' (by rw[s1,s2,hl]) hu' hit
   rw[s1] at q1 q2;rw[hl] at q1 q2 ⊢;simp only[Nat.min_self,beq_self_eq_true,Bool.and_true];exact⟨q1,q2⟩
  ·have q1:=SeqAt.RcAt.lists_lengths (A:=A) p p' (by rw[s1,s2]; simpa using hl) hu'
   have q2:=SeqAt.RcNeAt.lists_lengths (A:=A) p p' (by rw[s1,s2]; simpa using hl) hu'
   rw[beq_eq_false_iff_ne.mpr hl,Bool.and_false];exact⟨q1,q2⟩
 all_goals
  unfold deq
  constructor
  ·first
   | with_reducible exact SeqAt.RcAt.none_none|with_reducible exact SeqAt.RcAt.bool_bool _ _|with_reducible exact SeqAt.RcAt.int_int _ _ _ _|with_reducible exact SeqAt.RcAt.str_str _ _ _ _|with_reducible exact SeqAt.RcAt.bool_int _ _ _|with_reducible exact SeqAt.RcAt.int_bool _ _ _
   | with_reducible exact SeqAt.RcAt.none_bool _|with_reducible exact SeqAt.RcAt.none_int _ _|with_reducible exact SeqAt.RcAt.none_str _ _|with_reducible exact SeqAt.RcAt.bool_none _|with_reducible exact SeqAt.RcAt.bool_str _ _ _|with_reducible exact SeqAt.RcAt.int_none _ _|with_reducible exact SeqAt.RcAt.int_str _ _ _ _
   | with_reducible exact SeqAt.RcAt.str_none _ _|with_reducible exact SeqAt.RcAt.str_bool _ _ _|with_reducible exact SeqAt.RcAt.str_int _ _ _ _
   | with_reducible exact SeqAt.RcAt.none_list p' hu'|with_reducible exact SeqAt.RcAt.bool_list _ p' hu'|with_reducible exact SeqAt.RcAt.int_list _ _ p' hu'|with_reducible exact SeqAt.RcAt.str_list _ _ p' hu'
   | with_reducible exact SeqAt.RcAt.none_tuple p' hu'|with_reducible exact SeqAt.RcAt.bool_tuple _ p' hu'|with_reducible exact SeqAt.RcAt.int_tuple _ _ p' hu'|with_reducible exact SeqAt.RcAt.str_tuple _ _ p' hu'
   | with_reducible exact SeqAt.RcAt.list_none p hu'|with_reducible exact SeqAt.RcAt.list_bool _ p hu'|with_reducible exact SeqAt.RcAt.list_int _ _ p hu'|with_reducible exact SeqAt.RcAt.list_str _ _ p hu'
   | with_reducible exact SeqAt.RcAt.tuple_none p hu'|with_reducible exact SeqAt.RcAt.tuple_bool _ p hu'|with_reducible exact SeqAt.RcAt.tuple_int _ _ p hu'|with_reducible exact SeqAt.RcAt.tuple_str _ _ p hu'
   | with_reducible exact SeqAt.RcAt.list_tuple p p' hu'|with_reducible exact SeqAt.RcAt.tuple_list p p' hu'
  ·try rw[Bool.not_false]
   try rw[Bool.not_true]
   first
   | with_reducible exact SeqAt.RcNeAt.none_none|with_reducible exact SeqAt.RcNeAt.bool_bool _ _|with_reducible exact SeqAt.RcNeAt.int_int _ _ _ _|with_reducible exact SeqAt.RcNeAt.str_str _ _ _ _|with_reducible exact SeqAt.RcNeAt.bool_int _ _ _|with_reducible exact SeqAt.RcNeAt.int_bool _ _ _
   | with_reducible exact SeqAt.RcNeAt.none_bool _|with_reducible exact SeqAt.RcNeAt.none_int _ _|with_reducible exact SeqAt.RcNeAt.none_str _ _|with_reducible exact SeqAt.RcNeAt.bool_none _|with_reducible exact SeqAt.RcNeAt.bool_str _ _ _|with_reducible exact SeqAt.RcNeAt.int_none _ _|with_reducible exact SeqAt.RcNeAt.int_str _ _ _ _
   | with_reducible exact SeqAt.RcNeAt.str_none _ _|with_reducible exact SeqAt.RcNeAt.str_bool _ _ _|with_reducible exact SeqAt.RcNeAt.str_int _ _ _ _
   | with_reducible exact SeqAt.RcNeAt.none_list p' hu'|with_reducible exact SeqAt.RcNeAt.bool_list _ p' hu'|with_reducible exact SeqAt.RcNeAt.int_list _ _ p' hu'|with_reducible exact SeqAt.RcNeAt.str_list _ _ p' hu'
   | with_reducible exact SeqAt.RcNeAt.none_tuple p' hu'|with_reducible exact SeqAt.RcNeAt.bool_tuple _ p' hu'|with_reducible exact SeqAt.RcNeAt.int_tuple _ _ p' hu'|with_reducible exact SeqAt.RcNeAt.str_tuple _ _ p' hu'
   | with_reducible exact SeqAt.RcNeAt.list_none p hu'|with_reducible exact SeqAt.RcNeAt.list_bool _ p hu'|with_reducible exact SeqAt.RcNeAt.list_int _ _ p hu'|with_reducible exact SeqAt.RcNeAt.list_str _ _ p hu'
   | with_reducible exact SeqAt.RcNeAt.tuple_none p hu'|with_reducible exact SeqAt.RcNeAt.tuple_bool _ p hu'|with_reducible exact SeqAt.RcNeAt.tuple_int _ _ p hu'|with_reducible exact SeqAt.RcNeAt.tuple_str _ _ p hu'
   | with_reducible exact SeqAt.RcNeAt.list_tuple p p' hu'|with_reducible exact SeqAt.RcNeAt.tuple_list p p' hu'
end
section
variable{X:Cx}{K:W.Frag}{e a b:Expr}{es:List Expr}{pos p:Pos}{g ga gb:Ds->Option D}{gA:Ds->Option (List D)}
def iw0(K:W.Frag)(neg:Bool):R2:=fun x y H Q=>∃B B' dx dy,Rp K H B dx x/\Rp K H B' dy y/\lean dx 50=true/\lean dy 50=true/\Q (.bl (xor neg (deq dx dy))) H
theorem uh0(hu:X.A.units+64<cLine):OpR X (compareOp .Eq) (iw0 X.K false):=by
 intro pins s σ H x y v u Q I rx ry h;obtain⟨B,B',dx,dy,hx,hy,lx,ly,q⟩:=h;exact(e90 I 50 50 dx dy x y v u X.A (by omega) lx ly hx hy rx ry).1 _ _ _ _ ⟨.bl _,H,I,rfl,by rw[Bool.false_xor] at q; exact q⟩
theorem lm0(hu:X.A.units+64<cLine):OpR X (compareOp .NotEq) (iw0 X.K true):=by
 intro pins s σ H x y v u Q I rx ry h;obtain⟨B,B',dx,dy,hx,hy,lx,ly,q⟩:=h;exact(e90 I 50 50 dx dy x y v u X.A (by omega) lx ly hx hy rx ry).2 _ _ _ _ ⟨.bl _,H,I,rfl,by rw[Bool.true_xor] at q; exact q⟩
theorem wy0:Op2 K (iw0 K false) Q6:=by
 intro H B x y dx dy d Q hb rx ry h k;unfold Q6 at h;split at h
 ·rename_i hl
  cases h;exact⟨B,B,dx,dy,rx,ry,hl.1,hl.2,k _ H (Same.refl H) (by rw[Y4,Bool.false_xor])⟩
 ·cases h
theorem qq0:Op2 K (iw0 K true) y60:=by
 intro H B x y dx dy d Q hb rx ry h k;unfold y60 at h;split at h
 ·rename_i hl
  cases h;exact⟨B,B,dx,dy,rx,ry,hl.1,hl.2,k _ H (Same.refl H) (by rw[Y4,Bool.true_xor])⟩
 ·cases h
theorem cg0:Op2 K (fun x y H Q=>rI0 (fun i j=>.int (i+j)) x y H Q∨(∃i j,x=.str i/\y=.str j/\i.length+j.length<=sizeLine/\Q (.str (i++j)) H)∨cz0 K x y H Q∨cw0 K x y H Q∨fz0 K x y H Q) b8:=by
 intro H B x y dx dy d Q hb rx ry h k;cases dx<;>cases dy<;>simp only[b8] at h<;>try cases h
 ·rw[n6] at rx ry
  subst rx ry;exact .inl ⟨_,_,rfl,rfl,k _ H (Same.refl H) (by rw[n6])⟩
 ·split at h
  ·cases h
   rw[Y0] at rx ry;subst rx ry;exact .inr (.inl ⟨_,_,rfl,rfl,by assumption,k _ H (Same.refl H) (by rw[Y0])⟩)
  ·cases h
 ·split at h
  ·rename_i hz
   cases h;have ry0:=ry;have rx0:=rx;rw[X4] at rx ry;obtain⟨a,xs,rfl,q1,r1⟩:=rx;obtain⟨b,ys,rfl,q2,r2⟩:=ry
   by_cases he:xs=[]
   ·subst he
    have e:‹List D›=‹List D›:=rfl
    have hn:=r1.length
    simp at hn
    have hn':=List.length_eq_zero_iff.mp hn.symm
    subst hn';exact .inr (.inr (.inr (.inr ⟨a,b,ys,rfl,rfl,q1.to,q2.to,k _ H (Same.refl H) (by rw[List.nil_append]; exact ry0)⟩)))
   ·refine .inr (.inr (.inr (.inl ⟨a,b,xs,ys,rfl,rfl,q1.to,q2.to,he,by rw[r1.length,r2.length]; exact hz,fun z=>?_,fun z p hp=>k _ _ (Z1 hp) (sy0 hb hp (r1.append r2))⟩)))
    subst z;have hn:=r2.length
    simp at hn
    have hn':=List.length_eq_zero_iff.mp hn.symm
    subst hn';exact k _ H (Same.refl H) (by rw[List.append_nil]; exact rx0)
  ·cases h
 ·split at h
  ·rename_i hz
   cases h;rw[Z5] at rx ry;obtain⟨a,xs,rfl,q1,r1⟩:=rx;obtain⟨b,ys,rfl,q2,r2⟩:=ry;exact .inr (.inr (.inl ⟨a,b,xs,ys,rfl,rfl,q1.to,q2.to,by rw[r1.length,r2.length]; exact hz,fun p hp=>k _ _ (Z1 hp) (si0 hb hp (r1.append r2))⟩))
  ·cases h
theorem W9(ha:PD X a ga)(hb:PD X b gb):PD X (.BinOp a .Add b pos) (o2 ga gb b8):=t70 (Wp0.or (im0.or (aa0.or (a90.or d80)))) cg0 ha hb
theorem pi0{H:Hp}{B:BS}{ds:List D}{xs:List V}(h:Rps K H B ds xs):∀k:Nat,Rps K H B (List.replicate k ds).flatten (List.replicate k xs).flatten
 | 0=>by simp[o8]
 | k+1=>by
  rw[List.replicate_succ,List.replicate_succ,List.flatten_cons,List.flatten_cons];exact h.append (pi0 h k)
theorem en0:Op2 K (fun x y H Q=>rI CMul (fun i j=>.int (i*j)) x y H Q∨bb0 x y H Q∨bg0 K x y H Q) S9:=by
 intro H B x y dx dy d Q hb rx ry h k;cases dx<;>cases dy<;>simp only[S9] at h<;>try cases h
 ·split at h
  ·cases h
   rw[n6] at rx ry;subst rx ry;exact .inl ⟨_,_,rfl,rfl,by assumption,k _ H (Same.refl H) (by rw[n6])⟩
  ·cases h
 ·split at h
  ·rename_i hz
   cases h;rw[Y0] at rx;rw[n6] at ry;subst rx ry;exact .inr (.inl ⟨_,_,rfl,rfl,hz.1,hz.2.1,hz.2.2,k _ H (Same.refl H) (by rw[Y0]; rfl)⟩)
  ·cases h
 ·split at h
  ·rename_i hz
   cases h;rw[X4] at rx;rw[n6] at ry;subst ry;obtain⟨a,xs,rfl,q1,r1⟩:=rx;refine .inr (.inr ⟨a,xs,_,rfl,rfl,q1.to,fun z=>hz.1 ?_,hz.2.1,hz.2.2.1,by rw[r1.length]; exact hz.2.2.2,fun p hp=>k _ _ (Z1 hp) (sy0 hb hp (pi0 r1 _))⟩)
   subst z;have hn:=r1.length
   simp at hn
   exact List.length_eq_zero_iff.mp hn.symm
  ·cases h
theorem yb0(ha:PD X a ga)(hb:PD X b gb):PD X (.BinOp a .Mult b pos) (o2 ga gb S9):=t70 (W90.or (bo0.or Za0)) en0 ha hb
theorem gf0{xs:List D}{lo hi:Option Int}(h:sIx xs.length 0 lo=0/\sIx xs.length xs.length hi=xs.length):cutD xs lo hi=xs:=by
 unfold cutD;rw[h.1,h.2]
 simp
theorem z50{lo hi:Option Expr}{gl gh:Ds->Option (Option Int)}{p2:Pos}(he:PD X e g)(hl:PDO X lo gl)(hh:PDO X hi gh) :
  PD X (.Subscript e (.Slice lo hi none p2) pos) (U6 g gl gh):=.mk fun B δ =>
 (dl0 (Xu0.or (Z10.or (Xi0.or ax0))) (he B δ) (hl B δ) (hh B δ)).imp fun σ H Q ⟨d,en,h,k⟩=>by
  unfold U6 at h
  cases e1:g δ with
  | none=>rw[e1] at h; cases h
  | some x =>
   cases e2:gl δ with
   | none=>rw[e1,e2] at h; cases h
   | some l =>
    cases e3:gh δ with
    | none=>rw[e1,e2,e3] at h; cases h
    | some u =>
     rw[e1,e2,e3] at h;simp only[Option.bind_some] at h;refine⟨x,en,e1,fun v H1 s1 r1=>⟨l,en.same s1,(by first|exact e2|rfl),fun H2 s2=>⟨u,(en.same s1).same s2,(by first|exact e3|rfl),fun H3 s3=>?_⟩⟩⟩
     have S:=(s1.trans s2).trans s3
     have r3:=(r1.same s2).same s3
     have hb:=(((en.same s1).same s2).same s3).bad
     cases x<;>simp only[slA] at h<;>try cases h
     ·split at h
      ·cases h
       rw[Y0] at r3;exact .inl ⟨_,r3,by assumption,k _ H3 S (by rw[Y0])⟩
      ·cases h
     ·have r4:=r3
      rw[X4] at r3;obtain⟨a,xs,rfl,q,r⟩:=r3;rename_i dxs
      by_cases hw:sIx dxs.length 0 l=0/\sIx dxs.length dxs.length u=dxs.length
      ·refine .inr (.inr (.inr ⟨a,xs,rfl,q.to,by rw[r.length,ut0,ut0]; exact hw,k _ _ S ?_⟩))
       rw[gf0 hw];exact r4
      ·exact .inr (.inr (.inl ⟨a,xs,rfl,q.to,by rw[r.length,ut0,ut0]; exact hw,fun p hp=>k _ _ (S.trans (Z1 hp)) (sy0 hb hp (jb0 r l u))⟩))
     ·rw[Z5] at r3
      obtain⟨a,xs,rfl,q,r⟩:=r3;exact .inr (.inl ⟨a,xs,rfl,q.to,fun p hp=>k _ _ (S.trans (Z1 hp)) (si0 hb hp (jb0 r l u))⟩)
theorem Xg0:FnR K (fun xs H Q=>(∃i,xs=[.int i]/\Q (.int i) H)∨∃k,xs=[.bl k]/\Q (.int (if k then 1 else 0)) H) intOfD:=by
 intro H B xs ds d Q hb r h k;unfold intOfD at h;split at h
 ·cases h
  obtain⟨v,rfl,r1⟩:=J4 r;rw[n6] at r1;subst r1;exact .inl ⟨_,rfl,k _ H (Same.refl H) (by rw[n6])⟩
 ·cases h
  obtain⟨v,rfl,r1⟩:=J4 r;rw[Y4] at r1;subst r1;exact .inr ⟨_,rfl,k _ H (Same.refl H) (by rw[n6])⟩
 ·cases h
theorem bl0:FnR K (fun xs H Q=>∃p ys,xs=[.ref p]/\(SqL K H p ys∨SqT K H p ys)/\∀l,H l=none->Q (.ref l) (upd H l (.lst ys))) yk0:=by
 intro H B xs ds d Q hb r h k;unfold yk0 at h;split at h
 ·cases h
  obtain⟨v,rfl,r1⟩:=J4 r;rw[Z5] at r1;obtain⟨a,ys,rfl,q,rr⟩:=r1;exact⟨a,ys,rfl,.inl q.to,fun l hl=>k _ _ (Z1 hl) (si0 hb hl rr)⟩
 ·cases h
  obtain⟨v,rfl,r1⟩:=J4 r;rw[X4] at r1;obtain⟨a,ys,rfl,q,rr⟩:=r1;exact⟨a,ys,rfl,.inr q.to,fun l hl=>k _ _ (Z1 hl) (si0 hb hl rr)⟩
 ·cases h
end
end DL
namespace SetS
open PySem PySem.Spec PyProof.Rows DL
section
variable{prog:Program}{w:World}{A:Around}{R:Result->Shared->Prop}{I:Addr}{fp wr:List Addr}{G:Array GenState->Array GenState->Prop}{P:Nat->Value->Prop}{St:Nat->Shared->Prop}
end
section
variable{prog:Program}{w:World}{A:Around}{E:Value->Shared->Prop}{s:Shared}
end
end SetS
namespace DL
open PySem PySem.Spec PyProof.Rows L2
section
variable{X:Cx}{K:W.Frag}{e a b:Expr}{es:List Expr}{pos p pos2 p2:Pos}{g ga gb:Ds->Option D}{gA:Ds->Option (List D)}
theorem b_set:bootBuiltins "set"=some (.type "set"):=by decide +kernel
end
end DL
namespace DL
open PySem PySem.Spec PyProof.Rows
theorem V1{gA:GA}{δ:Ds}{ds:List D}(h:gA δ=some ds)(hl:ds.length<=sizeLine):m9 gA δ=some (.tup ds):=by
 unfold m9;rw[h,Option.bind_some,if_pos hl]
theorem vj0{gA:GA}{δ:Ds}{ds:List D}(h:gA δ=some ds)(hl:ds.length<=sizeLine):X5 gA δ=some (.lst ds):=by
 unfold X5;rw[h,Option.bind_some,if_pos hl]
theorem Ze0{n:Int}{d:D}(h:d∈U7 0 n):∃k:Nat,(k:Int)<n/\d=.int (k:Int):=by
 obtain⟨k,hk,rfl⟩:=List.mem_map.mp h;have:=List.mem_range.mp hk;exact⟨k,by omega,by rw[Int.zero_add]⟩
theorem Y70{α:Type}(f:D->α)(n:Int):(U7 0 n).map f=(List.range n.toNat).map fun (k:Nat)=>f (.int (k:Int)):=by
 unfold U7;rw[List.map_map];have:n - 0=n:=by omega
 rw[this];refine List.map_congr_left fun k _=>?_
 show f (.int (0+(k:Int)))=_
 rw[Int.zero_add]
theorem xq0(n:Int):(U7 0 n).length=n.toNat:=by unfold U7; simp
theorem uk0{n:Int}{j:Nat}{d:D}(h:(U7 0 n)[j]?=some d):j<n.toNat/\d=.int (j:Int):=by
 have hj:j<n.toNat:=by
  have:=(List.getElem?_eq_some_iff.mp h).1
  rwa [xq0] at this
 refine⟨hj,?_⟩
 unfold U7 at h;rw[List.getElem?_map,List.getElem?_range (by simpa using hj)] at h
 have:=Option.some.inj h
 rw[← this];show D.int (0+(j:Int))=_;rw[Int.zero_add]
theorem mc0{gt:GB}{ge:GE}{δ:Ds}{n:Int}(h:Nat->D)(H:∀k:Nat,(k:Int)<n->∃δ',gN 0 (.int (k:Int)) δ=some δ'/\gt δ'=some true/\ge δ'=some (h k)) :
  W6 (gN 0) gt ge δ (U7 0 n)=some ((List.range n.toNat).map h):=by
 rw[S5 (fun d=>match d with|.int j=>h j.toNat|_=>.non) (fun d hd=>by
  obtain⟨k,hk,rfl⟩:=Ze0 hd;exact H k hk),Y70]
 rfl
end DL
namespace DL
open PySem PySem.Spec PyProof.Rows L2
section
variable{X:Cx}{K:W.Frag}{e a b:Expr}{es:List Expr}{pos p pos2 p2:Pos}{g ga gb:Ds->Option D}{gA:Ds->Option (List D)}
theorem md0{x:Str}(hm:X.mg x=none)(hv:bootBuiltins x=some (.type "list"))(ha:PD X e g)(hg:Gl X x:=by rfl)
  (hn:x ≠"__name__" := by decide) (hdb:(x==("__debug__" : Str))=false:=by decide) (he:starEach [e] X.env=(false,eval e X.env)::starEach [] X.env:=by rfl) (hpl:(backTo pos (starEach [] X.env)).any (·.1)=false:=by rfl) :
  PDF X (.Call (.Name x p) [e] [] pos) (oA (z9 g v7) yk0):=.mk fun B δ=>(u40 s60 hg hm hv (z00 (ha B δ) yj0 he) hn hdb he hpl).imp fun σ H Q ⟨d,en,h,k⟩=>by
 unfold oA z9 v7 at h
 cases e1:g δ with
 | none=>rw[e1] at h; cases h
 | some x =>
  rw[e1] at h;simp only[Option.bind_some,Option.map_some] at h;refine⟨x,en,e1,fun v H1 s1 r1=>?_⟩
  cases x<;>simp only[yk0] at h<;>try cases h
  ·rw[X4] at r1
   obtain⟨q,xs,rfl,hq,rr⟩:=r1;exact⟨q,xs,rfl,.inr hq.to,fun l hl=>k l _ (s1.free hl) (s1.trans (Z1 hl)) ⟨_,j7,rr.mono (Gr.fresh hl)⟩⟩
  ·rw[Z5] at r1
   obtain⟨q,xs,rfl,hq,rr⟩:=r1;exact⟨q,xs,rfl,.inl hq.to,fun l hl=>k l _ (s1.free hl) (s1.trans (Z1 hl)) ⟨_,j7,rr.mono (Gr.fresh hl)⟩⟩
end
section
variable{X:Cx}{e:Expr}{es:List Expr}{pos p:Pos}{g:Ds->Option D}{gA:Ds->Option (List D)}
def FnN(P:Program)(w:World)(K:W.Frag)(mg:Str->Option Value)(base:Heap)(x:Str)(k:Nat)(ps:List Str)(f:List D->Option D):Prop :=
 ∃(fa:Addr) (fd:FuncData),FnOk P w K mg base CX0 k fa fd ps (spN K f)/\mg x=some (.ref fa)/\W.keepIn K (.ref fa)=true/\Binds K fd ps []
theorem tm0{k m:Nat}{ps:List Str}{x:Str}{f:List D->Option D}(C:FnN X.prog X.w X.K X.mg X.base x k ps f)(hr:Room m X.A)(hk:k<=m)(ha:PDA X (e::es) gA)(hg:Gl X x:=by rfl)(hdb:(x==("__debug__" : Str))=false:=by decide)
  (he:starEach (e::es) X.env=(false,eval e X.env)::starEach es X.env:=by rfl) (hpl:(backTo pos (starEach es X.env)).any (·.1)=false:=by rfl):PDF X (.Call (.Name x p) (e::es) [] pos) (oA gA f):=by
 obtain⟨fa,fd,F,hm,kp,hb⟩:=C;exact .mk fun B δ=>(sp0 (E:=E0) F (hr.mono hk) hg hm kp hb .nil nl0 (ha B δ) hdb he hpl).imp fun σ H Q h=>by
  obtain⟨d,en,h,k⟩:=h;unfold oA at h
  cases e1:gA δ with
  | none=>rw[e1] at h; cases h
  | some ds =>
   rw[e1] at h;refine⟨ds,en,e1,fun vs H1 s1 r1=>?_⟩
   show spN X.K f (vs++[]) H1 Q E0
   rw[List.append_nil];exact⟨B,ds,d,(en.same s1).bad,r1,h,fun p H' hp s r=>k p H' (s1.free hp) (s1.trans s) r⟩
theorem R8{k m:Nat}{ps:List Str}{x:Str}{f:List D->Option D}(C:FnN X.prog X.w X.K X.mg X.base x k ps f)(hr:Room m X.A)(hk:k<=m)(ha:PDA X (e::es) gA)(hg:Gl X x:=by rfl)(hdb:(x==("__debug__" : Str))=false:=by decide)
  (he:starEach (e::es) X.env=(false,eval e X.env)::starEach es X.env:=by rfl) (hpl:(backTo pos (starEach es X.env)).any (·.1)=false:=by rfl):PD X (.Call (.Name x p) (e::es) [] pos) (oA gA f):=(tm0 C hr hk ha hg hdb he hpl).pd
theorem M5(h:PDF X e g):PSD X (.Return (some e) pos) (N7 g):=.mk fun H₀ B₀ δ pins s σ H D I ⟨r,en,e1,k⟩=>by
 unfold N7 at e1;obtain⟨B,b1,b2,env⟩:=en.ex
 cases e2:g δ with
 | none=>rw[e2] at e1; cases e1
 | some d =>
  rw[e2] at e1;cases e1;exact ls0 (h B δ) pins s σ H D I ⟨d,env,e2,fun p H' hp s' r=>k p H' (en.same.free hp) (en.same.trans s') (r.mono (fun o h=>h) (Gr.less fun a z=>z.imp (b1 a) id)).toL⟩
theorem vv0(i:Nat){x:Str}{px:Pos}(hN:X.N[i]?=some x:=by rfl)(hv:Vis X.env.scope x:=by first|exact Or.inl rfl|exact Or.inr (Or.inl rfl)|exact Or.inr (Or.inr rfl))(hd:(x==("__debug__" : Str))=false:=by decide)(hcd:(x==("__classdict__" : Str))=false:=by decide) :
  PSD X (.Return (some (.Name x px)) pos) (uc0 i):=.mk fun H₀ B₀ δ pins s σ H D I ⟨r,en,e1,k⟩=>by
 unfold uc0 at e1;obtain⟨B,b1,b2,env⟩:=en.ex;split at e1
 ·rename_i d hi
  obtain⟨a,hs,hb,ro⟩:=env.at hi;cases e1;exact ls0 (yl0 (i:=i) hN hv hd hcd) pins s σ H D I ⟨_,hs,k a H (en.fr i d a hi hs) en.same (ro.mono (fun o h=>h) (Gr.less fun b z=>z.elim (b1 b) fun q=>by rw[q]; exact hb))⟩
 ·cases e1
end
end DL
namespace DL
open PySem
@[simp] def so0:List D->Option D
 | [.lst ds,.lst es]=>some (.tup ((ds.zip es).map fun p=>.tup [p.1,p.2]))
 | _=>none
@[simp] def ro0:List D->Option D
 | [.lst ds]=>some (.lst ds.reverse)
 | _=>none
def ig0:List D->Option (List D)
 | [.lst ds,.lst es]=>some ((ds.zip es).map fun p=>.tup [p.1,p.2])
 | _=>none
def vg0(gA:GA):GA:=fun δ=>(gA δ).bind ig0
def zc0(ds:List D):List D:=(List.range ds.length).map fun (k:Nat)=>.tup [.int (k:Int),ds.getD k .non]
def h80:List D->Option (List D)
 | [.lst ds]=>some (zc0 ds)
 | _=>none
def sz0(gA:GA):GA:=fun δ=>(gA δ).bind h80
@[simp] def v10:List D->Option D
 | [.dct (.inl ks) ds]=>some (.dct (.inl ks) ds)
 | _=>none
mutual
def tree:D->Bool
 | .lst _=>false
 | .dct _ _=>false
 | .tup ds=>trees ds
 | _=>true
def trees:List D->Bool
 | []=>true
 | d::ds=>tree d&&trees ds
end
def k50(g:GE):GE:=fun δ=>(g (frz δ)).bind fun d=>if tree d=true then some d else none
theorem Z60{g:GE}{δ:Ds}{d:D}(h:g (frz δ)=some d)(ht:tree d=true):k50 g δ=some d:=by
 unfold k50;rw[h,Option.bind_some,if_pos ht]
theorem xl0{gA:GA}{δ:Ds}{n:Int}(h:gA δ=some [.int n])(h1:-(2 ^ 62)<=n)(h2:n<2 ^ 62):Q8 gA δ=some (U7 0 n):=by
 unfold Q8;rw[h,Option.bind_some];simp only[i20];rw[if_pos ⟨h1,h2⟩]
theorem Xv0{g:GE}{δ:Ds}{ds:List D}(h:g δ=some (.lst ds)):oA (z9 g v7) j8 δ=some (.int (ds.length:Int)):=by
 rw[o7 (cons_of h rfl)];rfl
end DL
namespace RevL
open PySem PySem.Spec PyProof.Rows
theorem it0:typeLookup (.type "list_reverseiterator") "__len__"=pure none:=by rw[typeLookup_type,builtinLookup_eq_fast]; kernel_rfl
theorem dr0:typeLookup (.type "list_reverseiterator") "__length_hint__"=pure (some (.builtin "list_reverseiterator.__length_hint__")):=by rw[typeLookup_type,builtinLookup_eq_fast]; kernel_rfl
theorem bp0:isSubtype (.type "list_reverseiterator") (.type "list_reverseiterator")=pure true:=by rw[isSubtype_type]; kernel_rfl
section
variable{prog:Program}{w:World}{A:Around}{s:Shared}{R:Result->Shared->Prop}
variable{I:Addr}{fp wr:List Addr}{G:Array GenState->Array GenState->Prop}{n:Nat}{P:Nat->Value->Prop}{St:Nat->Shared->Prop}
theorem Zy0(W:WalksS prog w A.in1 I fp wr G n P St)(hT:∀i s,St i s->s.TypeIs (.ref I) "list_reverseiterator")(C:Addr)(res:Value)(c0:Nat)(st:St 0 s)(hC:C∉fp)(hI:I∈fp)
  (gC:s.heap.get? C=some { cls:=.type "list",data:=.seq #[] c0 })
  (hR:∀s' acc' c',Moved (C::wr) G s s'->s'.heap.get? C=some { cls:=.type "list",dict:=none,data:=.seq acc' c',slots:=#[] }->ItemsOf P acc' n->R (.ok (.ret res)) s') (hn:n<=sizeLine) :
  wpAny (model prog w) A.in1 (Builtin.List.listExtendWith (.ref C) (.ref I) res)
   (fun fin s'=>match fin with|.done f=>R (.ok f) s'|.again c'=>c'.quiet=true/\codeAny (model prog w) A c' R s') (fun e s'=>R (.error e) s') s:=by
 have ne:C≠I:=fun e=>hC (e▸hI)
 unfold Builtin.List.listExtendWith;refine wpAny_bind (wpAny_typeOf (hT 0 _ st) (by
  have q1:Builtin.List.listSameRef (.ref C) (.ref I)=false:=by simp[Builtin.List.listSameRef,ne]
  have q2:(Value.type "list_reverseiterator"==Value.type "list")=false:=by decide
  have q3:(Value.type "list_reverseiterator"==Value.type "tuple")=false:=by decide
  simp only[q1,q2,q3,Bool.or_false,Bool.false_eq_true,if_false];refine wpAny_bind (W.self 0 _ _ _ st (wpAny_bind (wpAny_holding (by
   unfold Builtin.List.listLengthHint;refine wpAny_bind (wpAny_specialOf (hT 0 _ st) it0 (by
    show wpAny _ A.in1 (specialOf (Value.ref I) (Str.ofString "__length_hint__")>>=_) _ _ _
    refine wpAny_bind (wpAny_specialOf (hT 0 _ st) dr0 ?_)
    refine wpAny_bind (wpAny_isInstance (hT 0 _ st) bp0 ?_)
    rw[if_neg (by decide)]
    dsimp only
    rw[if_pos (by decide +kernel),if_neg (by decide)]
    refine wpAny_pure ?_
    rw[if_neg (by decide +kernel)]
    refine wpAny_pure ⟨plainId_quiet PySem.F.plain_extend_loop _,?_⟩
    exact codeAny_extend_loopS W hn _ hC _ n 0 _ _ _ rfl (Nat.zero_le _) st gC (ItemsOf.nil P) fun s' acc' c' m e hacc=>hR s' acc' c' m e hacc))))))))
theorem ex0(W:WalksS prog w A.in1 I fp wr G n P St)(hT:∀i s,St i s->s.TypeIs (.ref I) "list_reverseiterator")(C:Addr)(st:St 0 s)(hC:C∉fp)(hI:I∈fp)
  (gC:s.heap.get? C=some { cls:=.type "list",data:=.seq #[] })
  (hR:∀s' acc' c',Moved (C::wr) G s s'->s'.heap.get? C=some { cls:=.type "list",dict:=none,data:=.seq acc' c',slots:=#[] }->ItemsOf P acc' n->R (.ok (.ret .none)) s') (hn:n<=sizeLine) :
  wpAny (model prog w) A.in1 (Builtin.«list.__init__» ⟨[.ref C,.ref I],[]⟩)
   (fun fin s'=>match fin with|.done f=>R (.ok f) s'|.again c'=>c'.quiet=true/\codeAny (model prog w) A c' R s') (fun e s'=>R (.error e) s') s:=by
 show wpAny _ A.in1 (do let old ← Builtin.List.listItems (.ref C); Builtin.List.listUpdate (.ref C) (fun _=>#[]); letGo old.toList.reverse; Builtin.List.listExtendWith (.ref C) (.ref I) .none) _ _ s
 refine wpAny_bind (by
  unfold Builtin.List.listItems;refine wpAny_bind (wpAny_seqItems gC rfl (wpAny_pure (by
   show wpAny _ A.in1 (updateSeq C (fun _=>#[])>>=fun _=>letGo (#[]:Array Value).toList.reverse>>=fun _=>Builtin.List.listExtendWith (.ref C) (.ref I) .none) _ _ s
   have g2:=Heap.get?_update_self (Obj.mapSeq (fun _=>(#[]:Array Value))) gC rfl
   have oth:∀b o,b≠C->s.heap.get? b=some o->(s.heap.update C (Obj.mapSeq (fun _=>(#[]:Array Value)))).get? b=some o:=fun b o hb e=>(Heap.get?_update_other _ _ (Ne.symm hb)).trans e
   refine wpAny_bind (wpAny_updateSeq gC rfl (wpAny_bind (wpAny_letGo (Zy0 W hT C .none _ (W.frame 0 s _ s.toks st (Nat.le_refl _) fun b hb o e=>oth b o (fun h=>hC (h▸hb)) e) hC hI g2 (fun s' acc' c' m e hacc=>?_) hn))))
   exact hR s' acc' c' (Moved.trans W.gtrans ((Moved.refl W.grefl).then_heap (Nat.le_refl _) fun b o hb e=>oth b o (fun h=>hb (h▸List.mem_cons_self)) e) m) e hacc))))
end
section
variable{prog:Program}{w:World}{A:Around}{E:Value->Shared->Prop}{s:Shared}
variable{I:Addr}{fp wr:List Addr}{G:Array GenState->Array GenState->Prop}{n:Nat}{P:Nat->Value->Prop}{St:Nat->Shared->Prop}
theorem oq0{Q:Value->Shared->Prop}(W:WalksS prog w A.in1.in1 I fp wr G n P St)(hT:∀i s,St i s->s.TypeIs (.ref I) "list_reverseiterator")(st:St 0 s)(hfp:∀b∈fp,b<s.heap.objs.size)(hI:I∈fp)
  (hQ:∀s' acc' c',Moved (s.heap.objs.size::wr) G { s with heap:=s.heap.push { cls:=.type "list",data:=.seq #[] } } s' ->
   s'.heap.get? s.heap.objs.size=some { cls:=.type "list",dict:=none,data:=.seq acc' c',slots:=#[] }->ItemsOf P acc' n->Q (.ref s.heap.objs.size) s') (hn:n<=sizeLine) :
  wpAny (model prog w) A (call (.type "list") [.ref I]) Q E s:=by
 have hC:s.heap.objs.size∉fp:=fun z=>Nat.lt_irrefl _ (hfp _ z)
 refine callType_codes (Q₁:=fun ob s1=>ob=.ref s.heap.objs.size/\s1={ s with heap:=s.heap.push { cls:=.type "list",data:=.seq #[] } }) PySem.F.called_list (PySem.F.typeCall_list_1 _) PySem.F.entry_list_init (code_list_new _ ⟨rfl,rfl⟩) fun ob s1 h1=>?_
 obtain⟨rfl,rfl⟩:=h1;have gC:(s.heap.push { cls:=.type "list",data:=.seq #[] }).get? s.heap.objs.size=some { cls:=.type "list",data:=.seq #[] }:=Heap.get?_push_size _ rfl
 exact⟨⟨_,gC,rfl⟩,PySem.F.args_list_init_2 _ _,ex0 W hT _ (W.frame 0 s _ s.toks st (Nat.le_refl _) fun b _ o e=>Heap.get?_push_of_some _ e) hC hI gC (fun s' acc' c' m e hacc=>⟨rfl,hQ s' acc' c' m e hacc⟩) hn⟩
theorem n60{l:Addr}{its:Array Value}{Q:Value->Shared->Prop}(hh:A.handled=none)(hl:s.heap.IsList l its)(hz:its.size<=sizeLine)
  (h:∀(h':Heap) (tk c:Nat) (a:Addr),s.heap.objs.size<=a->h'.get? a=some { cls:=.type "list",dict:=none,data:=.seq its.reverse c,slots:=#[] }->(∀b o,s.heap.get? b=some o->h'.get? b=some o)->Q (.ref a) { s with heap:=h',toks:=tk }) :
  wpAny (model prog w) A (call (.type "reversed") [.ref l]) (fun v s1=>wpAny (model prog w) A (call (.type "list") [v]) Q E s1) E s:=by
 refine call_reversed_list hl ?_
 obtain⟨ol,gl,_,_⟩:=id hl;have ltl:l<s.heap.objs.size:=Heap.lt_size gl;have hh2:A.in1.in1.handled=none:=by simp[hh]
 have Wk:=(Walks.listRev (prog:=prog) (w:=w) hh2 s.heap.objs.size l (Nat.ne_of_lt ltl) its).toS
 refine oq0 Wk (fun i s x=>x.2.1.typeIs) ⟨Nat.zero_le _,⟨_,Heap.get?_push_size _ rfl,rfl,by
  show Data.fields #[.ref l,rawInt ((its.size:Int) - 1)]=_
  have z:(its.size:Int) - 1 - ((0:Nat):Int)=(its.size:Int) - 1:=by omega
  rw[z]⟩,hl.push _⟩ (fun b hb=>?_) (by simp) (fun s' acc' c' m e hacc=>?_) hz
 ·show b<(s.heap.push _).objs.size
  rw[Heap.size_push];simp only[List.mem_cons,List.not_mem_nil,or_false] at hb;rcases hb with rfl|rfl
  ·exact Nat.lt_succ_self _
  ·exact Nat.lt_succ_of_lt ltl
 ·obtain⟨h',g',d',tk',os'⟩:=s'
  obtain rfl:g'=s.gens:=m.gens;obtain rfl:d'=s.drawn:=m.drawn;obtain rfl:os'=s.os:=m.os;have ea:acc'=its.reverse:=by
   apply Array.ext
   ·rw[hacc.1,Array.size_reverse]
   ·intro i h1 h2
    have q:its[its.size - 1 - i]?=some acc'[i]:=hacc.2 i acc'[i] (Array.getElem?_eq_getElem h1)
    have hi:i<its.size:=by rw[← hacc.1]; exact h1
    rw[Array.getElem?_eq_getElem (by omega)] at q
    rw[Array.getElem_reverse];exact(Option.some.inj q).symm
  subst ea;have hsz:(s.heap.push (revObj l ((its.size:Int) - 1))).objs.size=s.heap.objs.size+1:=Heap.size_push ..;refine h h' tk' c' _ ?_ e fun b o eb=>?_
  ·show s.heap.objs.size<=(s.heap.push _).objs.size
   rw[Heap.size_push]; exact Nat.le_succ _
  ·have lb:=Heap.lt_size eb
   refine m.heap b o ?_ (Heap.get?_push_of_some _ (Heap.get?_push_of_some _ eb))
   simp only[List.mem_cons,List.not_mem_nil,or_false,not_or];refine⟨?_,Nat.ne_of_lt lb⟩
   show b≠(s.heap.push _).objs.size
   rw[Heap.size_push]; exact Nat.ne_of_lt (Nat.lt_succ_of_lt lb)
end
end RevL
namespace DL
open PySem PySem.Spec PyProof.Rows L2
theorem Rps.reverse{K:W.Frag}{H:Hp}{B:BS}:∀{ds:List D} {xs:List V},Rps K H B ds xs->Rps K H B ds.reverse xs.reverse
 | [],_,h=>by rw[o8] at h; subst h; simp[o8]
 | d::ds,_,h=>by
  rw[o4] at h;obtain⟨x,r,rfl,h1,h2⟩:=h;rw[List.reverse_cons,List.reverse_cons];exact Rps.snoc (Rps.reverse h2) h1
section
variable{X:Cx}{e:Expr}{pos p pos2 p2:Pos}{g:Ds->Option D}
theorem kg0:bootBuiltins "reversed"=some (.type "reversed"):=by decide +kernel
theorem kz0:bootBuiltins "list"=some (.type "list"):=by decide +kernel
theorem Y50{te:TE}(hc:X.calm=true)(hl:X.mg "list"=none)(hs:X.mg "reversed"=none)(he:PE X e te)(hgl:Gl X "list" := by rfl)(hgs:Gl X "reversed" := by rfl)
  (e1:starEach [.Call (.Name "reversed" p2) [e] [] pos2] X.env=(false,eval (.Call (.Name "reversed" p2) [e] [] pos2) X.env)::starEach [] X.env:=by rfl) (e2:starEach [e] X.env=(false,eval e X.env)::starEach [] X.env:=by rfl)
  (h1:(backTo pos (starEach [] X.env)).any (·.1)=false:=by rfl) (h2:(backTo pos2 (starEach [] X.env)).any (·.1)=false:=by rfl) :
  PE X (.Call (.Name "list" p) [.Call (.Name "reversed" p2) [e] [] pos2] [] pos) (fun σ H Q=>te σ H fun v H'=>∃q xs,v=.ref q/\SqL X.K H' q xs/\∀l,H' l=none->Q (.ref l) (upd H' l (.lst xs.reverse))):=by
 intro pins s σ H Q I h;refine wpAny_Call_Name_kw (N5 I hgl hl kz0 ?_ (by decide) (by decide))
 refine PyProof.Rows.callWith_type1 ?_ e1 h1
 rw[e1];show wpAny _ _ (spliced ((false,eval (.Call (.Name "reversed" p2) [e] [] pos2) X.env)::backTo pos (starEach [] X.env))) _ _ s;refine Calls.spliced_cons ?_
 refine wpAny_Call_Name_kw (N5 I hgs hs kg0 ?_ (by decide) (by decide))
 refine PyProof.Rows.callWith_type1 ?_ e2 h2
 rw[e2];show wpAny _ _ (spliced ((false,eval e X.env)::backTo pos2 (starEach [] X.env))) _ _ s;refine Calls.spliced_cons (thn (he pins s σ H _ I h) fun u s1 ⟨v,H1,I1,r1,q,xs,ev,hq,k⟩=>Calls.spliced_nil ?_)
 subst ev;obtain rfl:u=Value.ref q:=r1;obtain⟨its,rv,pl,hz⟩:=I1.list hq;have hlen:=rv.length;refine thn (RevL.n60 (I1.ok.hd hc) pl.isList (by rw[List.size_toArray,← hlen]; exact hz) (Q:=EP X pins σ Q) (E:=X.xe) fun h' tk c a ha ga hk=>?_) fun v s2 hv=>Calls.spliced_nil hv
 have hf:H1 a=none:=I1.hok.fresh ha
 refine⟨.ref a,_,I1.laid (a:=a) (o:=.lst xs.reverse) (t':=tk) hk ha ?_,rfl,k a hf⟩
 exact⟨by rw[List.length_reverse]; exact hz,its.reverse,c,rv.reverse,by rw[ga]; simp⟩
theorem de0(hl:X.mg "list"=none)(hs:X.mg "reversed"=none)(he:PD X e g)(hc:X.calm=true:=by rfl)(hgl:Gl X "list" := by rfl)(hgs:Gl X "reversed" := by rfl)
  (e1:starEach [.Call (.Name "reversed" p2) [e] [] pos2] X.env=(false,eval (.Call (.Name "reversed" p2) [e] [] pos2) X.env)::starEach [] X.env:=by rfl) (e2:starEach [e] X.env=(false,eval e X.env)::starEach [] X.env:=by rfl)
  (h1:(backTo pos (starEach [] X.env)).any (·.1)=false:=by rfl) (h2:(backTo pos2 (starEach [] X.env)).any (·.1)=false:=by rfl) :
  PDF X (.Call (.Name "list" p) [.Call (.Name "reversed" p2) [e] [] pos2] [] pos) (oA (z9 g v7) ro0):=.mk fun B δ =>
 (Y50 hc hl hs (he B δ) hgl hgs e1 e2 h1 h2).imp fun σ H Q ⟨d,en,h,k⟩=>by
  unfold oA z9 v7 at h
  cases e3:g δ with
  | none=>rw[e3] at h; cases h
  | some x =>
   rw[e3] at h;simp only[Option.bind_some,Option.map_some] at h;cases x<;>simp only[ro0] at h<;>try cases h
   refine⟨_,en,e3,fun v H1 s1 r=>?_⟩
   rw[Z5] at r;obtain⟨q,xs,rfl,hq,rr⟩:=r;exact⟨q,xs,rfl,hq.to,fun l hl=>k l _ (s1.free hl) (s1.trans (Z1 hl)) ⟨_,j7,rr.reverse.mono (Gr.fresh hl)⟩⟩
end
section
variable{K:W.Frag}{H:Hp}{B:BS}
theorem ue0{κ:Type}[DecidableEq κ]:∀{ks:List κ} {ds:List D} {xs:List V} {q:κ},Rps K H B ds xs->(∀d,va0 ks ds q=some d->∃x,yw0 (ks.zip xs) q=some x/\Rp K H B d x)/\(ks.length=xs.length->(yw0 (ks.zip xs) q).isSome=M9 ks q)
 | [],ds,xs,q,h=>by
  refine⟨fun d e=>?_,fun _=>?_⟩
  ·unfold va0 at e; cases e
  ·rfl
 | k::ks,[],xs,q,h=>by
  rw[o8] at h; subst h;refine⟨fun d e=>?_,fun z=>?_⟩
  ·unfold va0 at e; cases e
  ·simp at z
 | k::ks,d::ds,xs,q,h=>by
  rw[o4] at h;obtain⟨x,r,rfl,h1,h2⟩:=h;obtain⟨i1,i2⟩:=ue0 (ks:=ks) (q:=q) h2
  by_cases e:k=q
  ·subst e
   refine⟨fun d' e'=>?_,fun _=>?_⟩
   ·unfold va0 at e'
    rw[if_pos rfl] at e';cases e';exact⟨x,vd0 rfl,h1⟩
   ·rw[List.zip_cons_cons,vd0 rfl]
    unfold M9
    simp
  ·refine⟨fun d' e'=>?_,fun z=>?_⟩
   ·unfold va0 at e'
    rw[if_neg e] at e';rw[List.zip_cons_cons,vb0 e];exact i1 d' e'
   ·rw[List.zip_cons_cons,vb0 e,i2 (by simpa using z)]
    unfold M9
    simp[e]
theorem js0{κ:Type}[DecidableEq κ]:∀{ks:List κ} {xs:List V} {q:κ},ks.length=xs.length->((ks.zip xs).any fun kv=>decide (kv.1=q))=M9 ks q
 | [],_,_,_=>rfl
 | k::ks,[],_,h=>by simp at h
 | k::ks,x::xs,q,h=>by
  rw[List.zip_cons_cons,List.any_cons,js0 (by simpa using h)]
  rfl
theorem jd0{κ:Type}[DecidableEq κ]{ks:List κ}{xs:List V}{q:κ}{v:V}(h:ks.length=xs.length):∃ys,putK (ks.zip xs) q v=(J5 ks q).zip ys/\(J5 ks q).length=ys.length/\(M9 ks q=true->ys=(ks.zip xs).map fun p=>if p.1=q then v else p.2)/\(M9 ks q=false->ys=xs++[v]):=by
 unfold putK J5;rw[js0 h]
 cases hk:M9 ks q with
 | true =>
  rw[if_pos rfl,if_pos rfl];refine⟨(ks.zip xs).map fun p=>if p.1=q then v else p.2,?_,by simp[h],fun _=>rfl,fun z=>by cases z⟩
  clear hk
  induction ks generalizing xs with
  | nil=>rfl
  | cons k ks ih =>
   cases xs with
   | nil=>simp at h
   | cons x xs =>
    rw[List.zip_cons_cons,List.map_cons,List.map_cons,List.zip_cons_cons,ih (by simpa using h)]
    by_cases e:k=q<;>simp[e]
 | false =>
  rw[if_neg (by simp),if_neg (by simp)]
  refine⟨xs++[v],?_,by simp[h],fun z=>(by cases z),fun _=>rfl⟩
  rw[List.zip_append h];rfl
theorem t80{κ:Type}[DecidableEq κ]{q:κ}{d:D}{v:V}(hv:Rp K H B d v):∀{ks:List κ} {ds:List D} {xs:List V},Rps K H B ds xs->Rps K H B ((ks.zip ds).map fun p=>if p.1=q then d else p.2) ((ks.zip xs).map fun p=>if p.1=q then v else p.2)
 | [],_,_,_=>by simp[o8]
 | k::ks,[],xs,h=>by rw[o8] at h; subst h; simp[o8]
 | k::ks,d'::ds,xs,h=>by
  rw[o4] at h;obtain⟨x,r,rfl,h1,h2⟩:=h;rw[List.zip_cons_cons,List.zip_cons_cons,List.map_cons,List.map_cons,o4];refine⟨_,_,rfl,?_,t80 hv h2⟩
  by_cases e:k=q
  ·simp only[e,if_true]; exact hv
  ·simp only[e,if_false]; exact h1
end
section
variable{X:Cx}{e a b o:Expr}{es:List Expr}{pos p px:Pos}{g ga gb:Ds->Option D}{x:Str}
theorem nh0{K:W.Frag}{H:Hp}{B:BS}{d:D}{k:K9}{v:V}(h:xd0 d=some k)(r:Rp K H B d v):v=kV k:=by
 cases d<;>simp[xd0] at h
 ·subst h; rw[n6] at r; subst r; rfl
 ·subst h; rw[Y0] at r; subst r; rfl
theorem fm0{K:W.Frag}{H:Hp}{B:BS}:∀{ds:List D} {ks:List K9} {xs:List V},sa0 ds=some ks->Rps K H B ds xs->xs=ks.map kV
 | [],ks,xs,h,r=>by cases h; rw[o8] at r; exact r
 | d::ds,ks,xs,h,r=>by
  unfold sa0 at h;rw[o4] at r;obtain⟨x,r',rfl,h1,h2⟩:=r
  cases e1:xd0 d with
  | none=>rw[e1] at h; cases h
  | some k =>
   cases e2:sa0 ds with
   | none=>rw[e1,e2] at h; cases h
   | some l =>
    rw[e1,e2] at h;cases h;rw[nh0 e1 h1,fm0 e2 h2];rfl
theorem mz0{K:W.Frag}{H:Hp}{B:BS}{d:D}{k:List K9}{v:V}(h:yy0 d=some k)(r:Rp K H B d v):∃b,v=.ref b/\H b=some (.tup (k.map kV)):=by
 cases d<;>simp only[yy0] at h<;>try cases h
 rw[X4] at r;obtain⟨a,xs,rfl,q,rr⟩:=r;exact⟨a,rfl,by rw[← fm0 h rr]; exact q.2⟩
theorem jw0(hu:X.A.units+1<cLine)(ha:PD X a ga)(hb:PD X b gb)(hs:ef0 b:=by exact fun _ _=>rfl):PD X (.Subscript a b pos) (o2 ga gb xt0):=.mk fun B δ=>(Zk0 hu (ha B δ) (hb B δ) hs).imp fun σ H Q ⟨d,en,h,k⟩=>by
 unfold o2 at h
 cases e1:ga δ with
 | none=>rw[e1] at h; cases h
 | some x =>
  cases e2:gb δ with
  | none=>rw[e1,e2] at h; cases h
  | some y =>
   rw[e1,e2] at h;simp only[Option.bind_some] at h;refine⟨x,en,e1,fun v1 H1 s1 r1=>⟨y,en.same s1,e2,fun v2 H2 s2 r2=>?_⟩⟩
   cases x<;>simp only[xt0] at h<;>try cases h
   rename_i ks ds;have r1:=r1.same s2
   cases ks with
   | inl ks =>
    simp only at h
    cases e3:xd0 y with
    | none=>rw[e3] at h; cases h
    | some q =>
     rw[e3] at h;simp only[Option.bind_some] at h;rw[sb0] at r1;obtain⟨p,xs,rfl,_,hp,hl,rr⟩:=r1;obtain⟨v,hv,rv⟩:=(ue0 rr).1 d h;have:=nh0 e3 r2;subst this;exact⟨p,v,rfl,by rw[← hv]; exact DGet.k hp,k v H2 (s1.trans s2) rv⟩
   | inr ks =>
    simp only at h
    cases e3:yy0 y with
    | none=>rw[e3] at h; cases h
    | some q =>
     rw[e3] at h;simp only[Option.bind_some] at h;rw[jq0] at r1;obtain⟨p,xs,rfl,_,hp,hl,rr⟩:=r1;obtain⟨v,hv,rv⟩:=(ue0 rr).1 d h;obtain⟨b,rfl,hb⟩:=mz0 e3 r2;exact⟨p,v,rfl,by rw[← hv]; exact DGet.t hp hb,k v H2 (s1.trans s2) rv⟩
theorem mf0(hu:X.A.units+1<cLine)(ha:PD X a ga)(hb:PD X b gb)(hm:behindInMarks .NotIn b=false:=by first|rfl|with_unfolding_all rfl):PTD X (.Compare a [.NotIn] [b] pos) (ob (o2 ga gb (y00 true))):=.mk fun B δ=>(Yt0 (e00 hu (ha B δ) (hb B δ)) hm).imp fun σ H Q ⟨t,en,h,k⟩=>by
 unfold ob o2 at h
 cases e1:ga δ with
 | none=>rw[e1] at h; cases h
 | some x =>
  cases e2:gb δ with
  | none=>rw[e1,e2] at h; cases h
  | some y =>
   rw[e1,e2] at h;simp only[Option.bind_some] at h;refine⟨x,en,e1,fun v1 H1 s1 r1=>⟨y,en.same s1,e2,fun v2 H2 s2 r2=>?_⟩⟩
   cases y<;>simp only[y00] at h<;>try cases h
   rename_i ks ds
   cases ks with
   | inl ks =>
    simp only at h
    cases e3:xd0 x with
    | none=>rw[e3] at h; cases h
    | some q =>
     rw[e3] at h;simp only[Option.map_some,Option.bind_some,asB,Bool.true_xor] at h;cases h;rw[sb0] at r2;obtain⟨p,xs,rfl,_,hp,hl,rr⟩:=r2;have:=nh0 e3 r1;subst this;refine⟨p,_,rfl,DGet.k hp,_,rfl,?_⟩
     rw[(ue0 rr).2 hl];exact k H2 (s1.trans s2)
   | inr ks =>
    simp only at h
    cases e3:yy0 x with
    | none=>rw[e3] at h; cases h
    | some q =>
     rw[e3] at h;simp only[Option.map_some,Option.bind_some,asB,Bool.true_xor] at h;cases h;rw[jq0] at r2;obtain⟨p,xs,rfl,_,hp,hl,rr⟩:=r2;obtain⟨b,rfl,hb⟩:=mz0 e3 (r1.same s2);refine⟨p,_,rfl,DGet.t hp hb,_,rfl,?_⟩
     rw[(ue0 rr).2 hl];exact k H2 (s1.trans s2)
theorem qm0(i:Nat)(hu:X.A.units+1<cLine)(h:PD X e g)(hN:X.N[i]?=some x:=by rfl)(hv:Vis X.env.scope x:=by first|exact Or.inl rfl|exact Or.inr (Or.inl rfl)|exact Or.inr (Or.inr rfl))(hd:(x==("__debug__" : Str))=false:=by decide)(hcd:(x==("__classdict__" : Str))=false:=by decide)
  (ha:∀v,assign (.Subscript (.Name x px) e pos) X.env v=(do
   let ov ← holding [v] (eval (.Name x px) X.env)
   let iv ← holding [v,ov] (eval e X.env)
   standAt pos
   holding [v,ov,iv] (setItem ov iv v)
   release [v,ov,iv] []):=by intro _; rfl):PTG X (.Subscript (.Name x px) e pos) (putAt i g):=.mk fun H₀ B₀ d δ pins s σ H v u Q I r ⟨δ',en,e1,k⟩=>by
 unfold putAt at e1;obtain⟨B,b1,b2,env,rv⟩:=en.ex
 cases e2:ph0 i δ with
 | none=>rw[e2] at e1; cases e1
 | some pr =>
  cases e3:g δ with
  | none=>rw[e2,e3] at e1; cases e1
  | some dk =>
   rw[e2,e3] at e1;simp only[Option.bind_some] at e1
   cases e4:xd0 dk with
   | none=>rw[e4] at e1; cases e1
   | some q =>
    rw[e4] at e1;simp only[Option.bind_some] at e1;split at e1
    ·rename_i hz
     cases e1;have hi:=bm0 e2;obtain⟨a,hs',hb,xs,hx,hl,rx⟩:=env.at hi;have hl:pr.1.length=xs.length:=hl;refine e60 (yl0 (i:=i) hN hv hd hcd) (h B δ) (set_dict hu) ha pins s σ H v u Q I r ⟨_,hs',_,env,e3,fun iv H1 s1 r1=>?_⟩
     have:=nh0 e4 r1
     subst this;obtain⟨ys,hy,hyl,hy1,hy2⟩:=jd0 (q:=q) (v:=v) hl;refine⟨a,_,rfl,DPut.k (s1 _ _ hx) (by rw[List.length_zip,← hl,Nat.min_self]; exact hz),?_⟩
     have rr:Rps X.K H1 B (z80 pr.1 pr.2 q d) ys:=by
      unfold z80
      cases hk:M9 pr.1 q with
      | true=>rw[if_pos rfl,hy1 hk]; exact t80 (rv.same s1) (rx.same s1)
      | false=>rw[if_neg (by simp),hy2 hk]; exact Rps.snoc (rx.same s1) (rv.same s1)
     rw[hy];have env2:Env X.K (upd H1 a (.dK ((J5 pr.1 q).zip ys))) B σ (δ.set i (.ow (.dct (.inl (J5 pr.1 q)) (z80 pr.1 pr.2 q d)))):=(env.same s1).mut hi hs' ⟨ys,j7,hyl,rr.mono (Gr.own hb)⟩;exact k _ _ (en.s.mut s1 b1 b2 hi hs' env2)
    ·cases e1
end
end DL
namespace L2
open PySem PySem.Spec PyProof.Rows
structure FunV(K:W.Frag)(x qual:Str)(st:Stmt)(f:Addr)(fd:FuncData)(dV:Value):Prop where
 ex:∃(oc:Value) (od:Option Addr) (kV doc pm:Value) (an:Option Addr) (cdv ct:Value) (osl:Array (Option Value)),
  fd=W.fnOf x qual (j4 st) (m5 st) (p6 st) dV kV doc pm an cdv ct/\K.lookup f=some ⟨oc,od,.func fd,osl⟩/\W.codeIn K cdv qual=true
 kp:W.keepIn K (.ref f)=true
section
variable{P:Program}{w:World}{K:W.Frag}{mg:Str->Option Value}{base:Heap}
theorem FunV.ok{x qual:Str}{st:Stmt}{f:Addr}{fd:FuncData}{dV:Value}{N ps:List Str}{k:Nat}{sp:Sp}(F:FunV K x qual st f fd dV)(S:FnScope N ps (p6 st))(len:∀vs H Q E,sp vs H Q E->vs.length=ps.length)
  (hbody:∀(cdv:Value) (A:Around) (outer:List Env) (s:Shared) (H:Hp) (vs:List V) (Q:VK) (E:XK),Room k (A.deeper (envOfC qual (p6 st) s.heap.objs.size f cdv))->sp vs H Q E ->
   ∃t,PSs (v50 CX0 P w K mg base N qual (p6 st) f cdv A outer s H E).nox (m5 st) t/\t { nx:=fun _ H'=>Q .non H',rt:=Q } (start N vs) H):FnOk P w K mg base CX0 (k+1) f fd ps sp:=by
 obtain⟨oc,od,kV,doc,pm,an,cdv,ct,osl,rfl,lk,hcd⟩:=F.ex;refine cq0 lk hcd S len fun A outer s H vs Q E hr hsp=>?_
 obtain⟨t,h,q⟩:=hbody cdv A outer s H vs Q E hr hsp;exact⟨t,h.nox,q⟩
theorem jp0{x qual:Str}{st:Stmt}{f:Addr}{oc:Value}{od an:Option Addr}{osl:Array (Option Value)}{dV kV doc pm cdv ct:Value}(l:K.lookup f=some ⟨oc,od,.func (W.fnOf x qual (j4 st) (m5 st) (p6 st) dV kV doc pm an cdv ct),osl⟩)
  (c:W.codeIn K cdv qual=true) (k:W.keepIn K (.ref f)=true):FunV K x qual st f (W.fnOf x qual (j4 st) (m5 st) (p6 st) dV kV doc pm an cdv ct) dV:=⟨⟨oc,od,kV,doc,pm,an,cdv,ct,osl,rfl,l,c⟩,k⟩
end
end L2
namespace DL
open PySem PySem.Spec PyProof.Rows L2
section
variable{P:Program}{w:World}{K:W.Frag}{mg:Str->Option Value}{base:Heap}
theorem Up0{x qual:Str}{st:Stmt}{fa:Addr}{fd:FuncData}{N ps:List Str}{k:Nat}{f:List D->Option D}{G:Ds->Option Res}{dV:Value}(F:FunV K x qual st fa fd dV)(S:FnScope N ps (p6 st))
  (body:∀(cdv:Value) (A:Around) (outer:List PySem.Env) (s:Shared) (H:Hp) (E:XK),Room k (A.deeper (envOfC qual (p6 st) s.heap.objs.size fa cdv))->PSsD (v50 CX0 P w K mg base N qual (p6 st) fa cdv A outer s H E).nox (m5 st) G)
  (hf:∀ds d,f ds=some d->ds.length=ps.length/\(G (Y9 N ds)=some (.rt d)∨(d=.non/\∃δ,G (Y9 N ds)=some (.nx δ))∨G (Y9 N ds)=some (.rf d)/\isL d=false)) :
  FnOk P w K mg base CX0 (k+1) fa fd ps (spD K f):=by
 refine F.ok S (fun vs H Q E ⟨B,ds,d,_,r,h,_⟩=>?_) (fun cdv A outer s H vs Q E hr ⟨B,ds,d,hb,r,h,q⟩=>?_)
 ·rw[r.length]; exact(hf ds d h).1
 ·refine⟨_,body cdv A outer s H E hr H B (Y9 N ds),?_⟩
  have en:EnvS K H B H (L2.start N vs) (Y9 N ds):=by
   refine⟨Same.refl H,⟨B,fun _ z=>z,fun _ z=>.inl z,⟨?_,hb,fun i j a ds' es h1 _ _ _=>(z40 h1).elim⟩⟩,fun i ds' a h1 _=>(z40 h1).elim,hb⟩
   unfold L2.start Y9;rw[r.length];exact Pd.app (we0 (N:=N) r) (uq0 _)
  rcases (hf ds d h).2 with e|⟨rfl,δ,e⟩|⟨e,hn⟩
  ·exact⟨_,en,e,fun v H' s' r'=>q v H' s' r'⟩
  ·exact⟨_,en,e,fun σ' H' en'=>q .non H' en'.same (by rw[W0])⟩
  ·exact⟨_,en,e,fun p H' hp s' r'=>q _ H' s' ((r'.toO hn).rp (fun a z=>.inl z) (fun z=>hb p z hp))⟩
theorem Ur0{x qual:Str}{st:Stmt}{fa:Addr}{fd:FuncData}{N ps:List Str}{k:Nat}{f:List D->Option D}{G:Ds->Option Res}{dV:Value}(F:FunV K x qual st fa fd dV)(S:FnScope N ps (p6 st))
  (body:∀(cdv:Value) (A:Around) (outer:List PySem.Env) (s:Shared) (H:Hp) (E:XK),Room k (A.deeper (envOfC qual (p6 st) s.heap.objs.size fa cdv))->PSsD (v50 CX0 P w K mg base N qual (p6 st) fa cdv A outer s H E).nox (m5 st) G)
  (hf:∀ds d,f ds=some d->ds.length=ps.length/\G (Y9 N ds)=some (.rf d)/\isL d=false) :
  FnOk P w K mg base CX0 (k+1) fa fd ps (spN K f):=by
 refine F.ok S (fun vs H Q E ⟨B,ds,d,_,r,h,_⟩=>?_) (fun cdv A outer s H vs Q E hr ⟨B,ds,d,hb,r,h,q⟩=>?_)
 ·rw[r.length]; exact(hf ds d h).1
 ·refine⟨_,body cdv A outer s H E hr H B (Y9 N ds),?_⟩
  have en:EnvS K H B H (L2.start N vs) (Y9 N ds):=by
   refine⟨Same.refl H,⟨B,fun _ z=>z,fun _ z=>.inl z,⟨?_,hb,fun i j a ds' es h1 _ _ _=>(z40 h1).elim⟩⟩,fun i ds' a h1 _=>(z40 h1).elim,hb⟩
   unfold L2.start Y9;rw[r.length];exact Pd.app (we0 (N:=N) r) (uq0 _)
  exact⟨_,en,(hf ds d h).2.1,fun p H' hp s' r'=>q p H' hp s' (r'.toO (hf ds d h).2.2)⟩
end
section
variable{X:Cx}{e a b:Expr}{es:List Expr}{pos p:Pos}{g ga gb:Ds->Option D}{gA:Ds->Option (List D)}
def lj0(P:Program)(w:World)(K:W.Frag)(mg:Str->Option Value)(base:Heap)(x:Str)(k:Nat)(ps:List Str)(f:List D->Option D)(dd:List D):Prop :=
 ∃(fa:Addr) (fd:FuncData) (us:List Value) (vs:List V),FnOk P w K mg base CX0 k fa fd ps (spN K f)/\mg x=some (.ref fa)/\W.keepIn K (.ref fa)=true/\Binds K fd ps us/\Vals vs us/\∀H B,Rps K H B dd vs
def cj0(P:Program)(w:World)(K:W.Frag)(mg:Str->Option Value)(base:Heap)(x:Str)(k:Nat)(ps:List Str)(f:List D->Option D)(dd:List D):Prop :=
 ∃(fa:Addr) (fd:FuncData) (us:List Value) (vs:List V),FnOk P w K mg base CX0 k fa fd ps (spD K f)/\mg x=some (.ref fa)/\W.keepIn K (.ref fa)=true/\Binds K fd ps us/\Vals vs us/\∀H B,Rps K H B dd vs
theorem ar0{k m:Nat}{ps:List Str}{x:Str}{f:List D->Option D}{dd:List D}(C:lj0 X.prog X.w X.K X.mg X.base x k ps f dd)(hr:Room m X.A)(hk:k<=m)(ha:PDA X (e::es) gA)(hg:Gl X x:=by rfl)(hdb:(x==("__debug__" : Str))=false:=by decide)
  (he:starEach (e::es) X.env=(false,eval e X.env)::starEach es X.env:=by rfl) (hpl:(backTo pos (starEach es X.env)).any (·.1)=false:=by rfl):PDF X (.Call (.Name x p) (e::es) [] pos) (oA gA fun ds=>f (ds++dd)):=by
 obtain⟨fa,fd,us,dvs,F,hm,kp,hb,hd,hr'⟩:=C;exact .mk fun B δ=>(sp0 (E:=E0) F (hr.mono hk) hg hm kp hb hd nl0 (ha B δ) hdb he hpl).imp fun σ H Q h=>by
  obtain⟨d,en,h,k⟩:=h;unfold oA at h
  cases e1:gA δ with
  | none=>rw[e1] at h; cases h
  | some ds =>
   rw[e1] at h;refine⟨ds,en,e1,fun vs H1 s1 r1=>?_⟩
   exact⟨B,ds++dd,d,(en.same s1).bad,r1.append (hr' H1 B),h,fun p H' hp s r=>k p H' (s1.free hp) (s1.trans s) r⟩
theorem su0{k m:Nat}{ps:List Str}{x:Str}{f:List D->Option D}{dd:List D}(C:lj0 X.prog X.w X.K X.mg X.base x k ps f dd)(hr:Room m X.A)(hk:k<=m)(ha:PDA X (e::es) gA)(hg:Gl X x:=by rfl)(hdb:(x==("__debug__" : Str))=false:=by decide)
  (he:starEach (e::es) X.env=(false,eval e X.env)::starEach es X.env:=by rfl) (hpl:(backTo pos (starEach es X.env)).any (·.1)=false:=by rfl):PD X (.Call (.Name x p) (e::es) [] pos) (oA gA fun ds=>f (ds++dd)):=(ar0 C hr hk ha hg hdb he hpl).pd
theorem g50{k m:Nat}{ps:List Str}{x:Str}{f:List D->Option D}{dd:List D}(C:cj0 X.prog X.w X.K X.mg X.base x k ps f dd)(hr:Room m X.A)(hk:k<=m)(ha:PDA X (e::es) gA)(hg:Gl X x:=by rfl)(hdb:(x==("__debug__" : Str))=false:=by decide)
  (he:starEach (e::es) X.env=(false,eval e X.env)::starEach es X.env:=by rfl) (hpl:(backTo pos (starEach es X.env)).any (·.1)=false:=by rfl):PD X (.Call (.Name x p) (e::es) [] pos) (oA gA fun ds=>f (ds++dd)):=by
 obtain⟨fa,fd,us,dvs,F,hm,kp,hb,hd,hr'⟩:=C;exact .mk fun B δ=>(sp0 (E:=E0) F (hr.mono hk) hg hm kp hb hd nl0 (ha B δ) hdb he hpl).imp fun σ H Q h=>by
  obtain⟨d,en,h,k⟩:=h;unfold oA at h
  cases e1:gA δ with
  | none=>rw[e1] at h; cases h
  | some ds =>
   rw[e1] at h;refine⟨ds,en,e1,fun vs H1 s1 r1=>?_⟩
   exact⟨B,ds++dd,d,(en.same s1).bad,r1.append (hr' H1 B),h,fun v H' s r=>k v H' (s1.trans s) r⟩
theorem vh0{sc scope:Scope}{elt iter tg:Expr}{ifs:List Expr}{N N':List Str}{n:Nat}{caps:List Nat}{gi:Ds->Option (List D)}{idx:List Nat}{f:D->Ds->Option Ds}{gt:Ds->Option Bool}{ge:Ds->Option D}
  (ok:CompOk sc scope N N' n caps) (hidx:∀j∈idx,j<n) (hi:PID X tg iter gi)
  (hg:∀cl s H ex,PGD (X3 X scope cl N' s H ex) tg idx f) (ht:∀cl s H ex,PFD (X3 X scope cl N' s H ex) ifs gt) (he:∀cl s H ex,PD (X3 X scope cl N' s H ex) elt ge)
  (hc:X.calm=true:=by rfl) (hsc:X.env.scope=sc:=by rfl) (hN:X.N=N:=by rfl) (hs:∀x,foldedSetIterable iter X.env x=pure x:=by intro _; rfl) :
  PDF X (.ListComp elt [⟨tg,iter,ifs,0⟩] scope pos) (Z0 n caps gi f gt ge):=nu0 hc hsc (hN▸ok) hidx hi hg ht he hs
theorem e80{K:W.Frag}{H:Hp}{B:BS}{d:D}{v:V}(h:flat d=true)(r:Rp K H B d v):w50 v=true/\∀e u,flat e=true->Rp K H B e u->eqV v u=eqF d e:=by
 cases d<;>simp[flat] at h
 ·rw[W0] at r; subst r
  refine⟨rfl,fun e u he ru=>?_⟩
  cases e<;>simp[flat] at he<;>simp only[W0,Y4,n6,Y0] at ru<;>subst ru<;>rfl
 ·rw[Y4] at r; subst r
  refine⟨rfl,fun e u he ru=>?_⟩
  cases e<;>simp[flat] at he<;>simp only[W0,Y4,n6,Y0] at ru<;>subst ru<;>rfl
 ·rw[n6] at r; subst r
  refine⟨rfl,fun e u he ru=>?_⟩
  cases e<;>simp[flat] at he<;>simp only[W0,Y4,n6,Y0] at ru<;>subst ru<;>rfl
 ·rw[Y0] at r; subst r
  refine⟨rfl,fun e u he ru=>?_⟩
  cases e<;>simp[flat] at he<;>simp only[W0,Y4,n6,Y0] at ru<;>subst ru<;>rfl
theorem fa0{K:W.Frag}{H:Hp}{B:BS}{d:D}{v:V}(h:flat d=true)(r:Rp K H B d v):∀{ds:List D} {xs:List V},ds.all flat=true->Rps K H B ds xs->xs.all w50=true/\inV v xs=ds.any fun y=>eqF y d
 | [],_,_,rs=>by rw[o8] at rs; subst rs; exact⟨rfl,rfl⟩
 | e::ds,_,ha,rs=>by
  rw[o4] at rs;obtain⟨x,t,rfl,r1,r2⟩:=rs;rw[List.all_cons,Bool.and_eq_true] at ha;obtain⟨i1,i2⟩:=fa0 h r ha.2 r2;obtain⟨f1,f2⟩:=e80 ha.1 r1;refine⟨by rw[List.all_cons,f1,i1]; rfl,?_⟩
  unfold inV at i2 ⊢;rw[List.any_cons,List.any_cons,f2 d v h r,i2]
theorem go0{K:W.Frag}(neg:Bool):Op2 K (rIn K neg) (vp0 neg):=by
 intro H B x y dx dy d Q hb rx ry h k;have key:∀(ds:List D) (xs:List V),Rps K H B ds xs->flat dx=true/\ds.all flat=true->d=.bl (xor neg (ds.any fun y=>eqF y dx))->∀p,y=.ref p->(SqL K H p xs∨SqT K H p xs)->rIn K neg x y H Q:=by
  intro ds xs rs hf hd p hp hq;obtain⟨f1,f2⟩:=fa0 hf.1 rx hf.2 rs;refine⟨p,xs,hp,hq,(e80 hf.1 rx).1,f1,k _ H (Same.refl H) ?_⟩
  rw[hd,Y4,f2];cases neg<;>simp
 cases dy<;>simp only[vp0] at h<;>try cases h
 ·split at h
  ·rename_i hf
   have hd:=(Option.some.inj h).symm
   rw[X4] at ry;obtain⟨p,xs,e,q,rs⟩:=ry;exact key _ xs rs hf hd p e (.inr q.to)
  ·cases h
 ·split at h
  ·rename_i hf
   have hd:=(Option.some.inj h).symm
   rw[Z5] at ry;obtain⟨p,xs,e,q,rs⟩:=ry;exact key _ xs rs hf hd p e (.inl q.to)
  ·cases h
end
end DL
namespace DL
open PySem
end DL
namespace ZipL
open PySem PySem.Spec PyProof.Rows
abbrev IsZ(h:Heap)(z TI TO a:Addr)(f:Bool):Prop :=
 h.get? z=some { cls:=.type "zip",dict:=none,data:=.fields #[rawInt a,.bool f,.bool false,.ref TI,.ref TO],slots:=#[] }
section
variable{prog:Program}{w:World}{A:Around}{E:Value->Shared->Prop}{s:Shared}
theorem alive{a:Addr}{o:Obj}{Q:Option Obj->Shared->Prop}(ho:s.heap.get? a=some o)(h:Q (some o) s):wpAny (model prog w) A (loadIfAlive a) Q E s:=by
 have h':Q (s.heap.get? a) s:=by rw[ho]; exact h
 exact fun _ _ _=>h'
theorem lt0{z TI TO a:Addr}{f:Bool}{oa:Obj}{Q:Bool->Shared->Prop}(hz:IsZ s.heap z TI TO a f)(ha:s.heap.get? a=some oa)
  (hQ:∀h',IsZ h' z TI TO a true->Heap.SameBut z s.heap h'->Q false { s with heap:=h' }):wpAny (model prog w) A (Builtin.SmallTypes.ownedTupleIsFree (.ref z)) Q E s:=by
 unfold Builtin.SmallTypes.ownedTupleIsFree;refine wpAny_bind (wpAny_field hz rfl (x:=rawInt a) rfl ?_)
 show wpAny _ _ (loadIfAlive ((a:Int).toNat)>>=_) _ _ _
 rw[Int.toNat_natCast];refine wpAny_bind (alive ha ?_)
 simp only[Option.isNone_some,Bool.false_eq_true,if_false];refine wpAny_bind (wpAny_field hz rfl (x:=.bool f) rfl ?_)
 cases f with
 | true =>
  rw[if_neg (show ¬((Value.bool true != Value.bool true)=true) from Bool.false_ne_true)];exact wpAny_pure (hQ _ hz (Heap.SameBut.refl _ _))
 | false =>
  rw[if_pos (show (Value.bool false != Value.bool true)=true from rfl)];exact wpAny_bind (wpAny_setField_rec hz (by simp) fun h3 he3 hs3=>wpAny_pure (hQ h3 he3 hs3))
theorem c50{z TI TO i1 i2 l1 l2 a:Addr}{f:Bool}{oa:Obj}{k1 k2:Nat}{xs ys:Array Value}{x y:Value}{Q:Value->Shared->Prop}(D:ZipApart z TI TO i1 i2 l1 l2)
  (hz:IsZ s.heap z TI TO a f) (ha:s.heap.get? a=some oa) (hTI:IsPair s.heap TI (.ref i1) (.ref i2))
  (h1:s.heap.IsListIter i1 l1 k1) (h2:s.heap.IsListIter i2 l2 k2) (hl1:s.heap.IsList l1 xs) (hl2:s.heap.IsList l2 ys) (hx:xs[k1]?=some x) (hy:ys[k2]?=some y)
  (hQ:∀h',IsZ h' z TI TO a true->h'.IsListIter i1 l1 (k1+1)->h'.IsListIter i2 l2 (k2+1)->IsPair h' s.heap.objs.size x y->h'.objs.size=s.heap.objs.size+1 ->
   (∀c o,c≠z->c≠i1->c≠i2->s.heap.get? c=some o->h'.get? c=some o)->Q (.ref s.heap.objs.size) { s with heap:=h' }) :
  wpAny (model prog w) A (Builtin.«zip.__next__» ⟨[.ref z],[]⟩) (fun fin s'=>∃v,fin=.done (.ret v)/\Q v s') E s:=by
 show wpAny _ _ (field (.ref z) 2>>=_) _ _ _
 refine wpAny_bind (wpAny_field hz rfl (x:=.bool false) rfl ?_)
 show wpAny _ _ (field (.ref z) 3>>=_) _ _ _
 refine wpAny_bind (wpAny_field hz rfl (x:=.ref TI) rfl ?_)
 refine wpAny_bind (wpAny_seqItems hTI rfl ?_)
 show wpAny _ _ (Builtin.SmallTypes.ownedTupleIsFree (.ref z)>>=_) _ _ _
 refine wpAny_bind (lt0 hz ha fun h₁ hz₁ hs₁=>?_)
 simp only[Bool.false_eq_true,if_false];refine wpAny_bind ?_
 simp only[List.forIn_toArray,List.forIn_cons,List.forIn_nil];refine wpAny_bind (wpAny_bind (wpAny_holding ?_))
 show wpAny _ _ (Builtin.SmallTypes.nextOf (.ref i1)>>=_) _ _ _
 refine wpAny_bind (wpAny_nextOf_list_item (h1.extBut hs₁.extBut D.i1z) (hl1.extBut hs₁.extBut D.l1z) hx fun h₂ h1₂ hs₂=>wpAny_pure ?_)
 refine wpAny_pure ?_
 refine wpAny_bind (wpAny_bind (wpAny_holding ?_))
 show wpAny _ _ (Builtin.SmallTypes.nextOf (.ref i2)>>=_) _ _ _
 refine wpAny_bind (wpAny_nextOf_list_item ((h2.extBut hs₁.extBut D.i2z).extBut hs₂.extBut D.i12.symm) ((hl2.extBut hs₁.extBut D.l2z).extBut hs₂.extBut D.l2i1) hy fun h₄ h2₄ hs₄=>wpAny_pure ?_)
 refine wpAny_pure (wpAny_pure ?_)
 refine wpAny_bind (wpAny_newTuple (hsz:=by show 2<=sizeLine; decide) ?_)
 have hsz:h₄.objs.size=s.heap.objs.size:=by rw[hs₄.1,hs₂.1,hs₁.1]
 have hz₄:IsZ h₄ z TI TO a true:=hs₄.extBut _ _ D.i2z.symm (hs₂.extBut _ _ D.i1z.symm hz₁)
 have hk₄:∀c o,c≠z->c≠i1->c≠i2->s.heap.get? c=some o->h₄.get? c=some o:=fun c o c1 c3 c4 e=>hs₄.extBut _ _ c4 (hs₂.extBut _ _ c3 (hs₁.extBut _ _ c1 e))
 refine wpAny_pure ⟨_,rfl,?_⟩
 show Q (.ref h₄.objs.size) _
 have hq:=hQ (h₄.push { cls:=.type "tuple",data:=.seq #[x,y] }) (Heap.get?_push_of_some _ hz₄) ((h1₂.extBut hs₄.extBut D.i12).at fun o e=>Heap.get?_push_of_some _ e) (h2₄.at fun o e=>Heap.get?_push_of_some _ e)
  (by rw[← hsz]; exact Heap.get?_push_size _ rfl) (by rw[Heap.size_push,hsz]) fun c o c1 c3 c4 e=>Heap.get?_push_of_some _ (hk₄ c o c1 c3 c4 e)
 rw[hsz];exact hq
theorem Y00{z TI TO i1 i2 l1 l2 a:Addr}{f:Bool}{oa:Obj}{k1 k2:Nat}{xs ys:Array Value}{Q:Fin->Shared->Prop}(hh:A.handled=none)(D:ZipApart z TI TO i1 i2 l1 l2)
  (hz:IsZ s.heap z TI TO a f) (ha:s.heap.get? a=some oa) (hTI:IsPair s.heap TI (.ref i1) (.ref i2))
  (h1:s.heap.IsListIter i1 l1 k1) (h2:s.heap.IsListIter i2 l2 k2) (hl1:s.heap.IsList l1 xs) (hl2:s.heap.IsList l2 ys) (hend:xs[k1]?=none∨ys[k2]?=none)
  (hE:∀h' e,(∀c o,c≠z->c≠i1->c≠i2->s.heap.get? c=some o->h'.get? c=some o)->(∃o,h'.get? e=some o/\o.cls=.type "StopIteration")->E (.ref e) { s with heap:=h' }) :
  wpAny (model prog w) A (Builtin.«zip.__next__» ⟨[.ref z],[]⟩) Q E s:=by
 show wpAny _ _ (field (.ref z) 2>>=_) _ _ _
 refine wpAny_bind (wpAny_field hz rfl (x:=.bool false) rfl ?_)
 show wpAny _ _ (field (.ref z) 3>>=_) _ _ _
 refine wpAny_bind (wpAny_field hz rfl (x:=.ref TI) rfl ?_)
 refine wpAny_bind (wpAny_seqItems hTI rfl ?_)
 show wpAny _ _ (Builtin.SmallTypes.ownedTupleIsFree (.ref z)>>=_) _ _ _
 refine wpAny_bind (lt0 hz ha fun h₁ hz₁ hs₁=>?_)
 simp only[Bool.false_eq_true,if_false];refine wpAny_bind ?_
 simp only[List.forIn_toArray,List.forIn_cons,List.forIn_nil];refine wpAny_bind (wpAny_bind (wpAny_holding ?_))
 show wpAny _ _ (Builtin.SmallTypes.nextOf (.ref i1)>>=_) _ _ _
 cases hx:xs[k1]? with
 | none =>
  refine wpAny_bind (wpAny_nextOf_list_end hh (h1.extBut hs₁.extBut D.i1z) (hl1.extBut hs₁.extBut D.l1z) hx fun h₂ e hs₂ he=>?_)
  exact hE h₂ e (fun c o c1 c3 _ x=>hs₂ _ _ c3 (hs₁.extBut _ _ c1 x)) he
 | some x =>
  have hy:ys[k2]?=none:=by rcases hend with h|h; rw[hx] at h; cases h; exact h
  refine wpAny_bind (wpAny_nextOf_list_item (h1.extBut hs₁.extBut D.i1z) (hl1.extBut hs₁.extBut D.l1z) hx fun h₂ h1₂ hs₂=>wpAny_pure ?_)
  refine wpAny_pure ?_
  refine wpAny_bind (wpAny_bind (wpAny_holding ?_))
  show wpAny _ _ (Builtin.SmallTypes.nextOf (.ref i2)>>=_) _ _ _
  refine wpAny_bind (wpAny_nextOf_list_end hh ((h2.extBut hs₁.extBut D.i2z).extBut hs₂.extBut D.i12.symm) ((hl2.extBut hs₁.extBut D.l2z).extBut hs₂.extBut D.l2i1) hy fun h₄ e hs₄ he=>?_)
  exact hE h₄ e (fun c o c1 c3 c4 x=>hs₄ _ _ c4 (hs₂.extBut _ _ c3 (hs₁.extBut _ _ c1 x))) he
theorem qc0{z TI TO i1 i2 l1 l2 a:Addr}{f:Bool}{oa:Obj}{k1 k2:Nat}{xs ys:Array Value}{x y:Value}{Q:Option Value->Shared->Prop}(D:ZipApart z TI TO i1 i2 l1 l2)
  (hz:IsZ s.heap z TI TO a f) (ha:s.heap.get? a=some oa) (hTI:IsPair s.heap TI (.ref i1) (.ref i2))
  (h1:s.heap.IsListIter i1 l1 k1) (h2:s.heap.IsListIter i2 l2 k2) (hl1:s.heap.IsList l1 xs) (hl2:s.heap.IsList l2 ys) (hx:xs[k1]?=some x) (hy:ys[k2]?=some y)
  (hQ:∀h',IsZ h' z TI TO a true->h'.IsListIter i1 l1 (k1+1)->h'.IsListIter i2 l2 (k2+1)->IsPair h' s.heap.objs.size x y->h'.objs.size=s.heap.objs.size+1 ->
   (∀c o,c≠z->c≠i1->c≠i2->s.heap.get? c=some o->h'.get? c=some o)->Q (some (.ref s.heap.objs.size)) { s with heap:=h' }) :
  wpAny (model prog w) A (pyNext (.ref z)) Q E s:=by
 have hT:s.TypeIs (.ref z) "zip" := ⟨_,hz,rfl⟩
 unfold pyNext;exact wpAny_bind (wpAny_attempt (wpAny_callSpecial?_slot (name:=Str.ofString "__next__") hT F.slot_zip_next
  (wpAny_call_entry F.slot_zip_next hT F.entry_zip_next
   (c50 D hz ha hTI h1 h2 hl1 hl2 hx hy fun h' a1 a3 a4 a5 a6 a7=>wpAny_pure (hQ h' a1 a3 a4 a5 a6 a7)) (F.args_zip_next_1 _))))
theorem um0{z TI TO i1 i2 l1 l2 a:Addr}{f:Bool}{oa:Obj}{k1 k2:Nat}{xs ys:Array Value}{Q:Option Value->Shared->Prop}(hh:A.handled=none)(D:ZipApart z TI TO i1 i2 l1 l2)
  (hz:IsZ s.heap z TI TO a f) (ha:s.heap.get? a=some oa) (hTI:IsPair s.heap TI (.ref i1) (.ref i2))
  (h1:s.heap.IsListIter i1 l1 k1) (h2:s.heap.IsListIter i2 l2 k2) (hl1:s.heap.IsList l1 xs) (hl2:s.heap.IsList l2 ys) (hend:xs[k1]?=none∨ys[k2]?=none)
  (hQ:∀h',(∀c o,c≠z->c≠i1->c≠i2->s.heap.get? c=some o->h'.get? c=some o)->Q none { s with heap:=h' }):wpAny (model prog w) A (pyNext (.ref z)) Q E s:=by
 have hT:s.TypeIs (.ref z) "zip" := ⟨_,hz,rfl⟩
 unfold pyNext;refine wpAny_bind (wpAny_attempt (wpAny_callSpecial?_slot (name:=Str.ofString "__next__") hT F.slot_zip_next
  (wpAny_call_entry F.slot_zip_next hT F.entry_zip_next (Y00 hh D hz ha hTI h1 h2 hl1 hl2 hend fun h' e hk he=>?_) (F.args_zip_next_1 _))))
 obtain⟨o,ho,hc⟩:=he;refine wpAny_bind (wpAny_isInstance (T := "StopIteration") (b:=true) ⟨o,ho,hc⟩ isSubtype_stop ?_)
 exact wpAny_pure (hQ _ hk)
end
structure ZSt(h:Heap)(z TI TO i1 i2 l1 l2 S:Addr)(xs ys:Array Value)(i:Nat):Prop where
 own:(i=0/\IsZip h z TI TO .none/\∃p q,IsPair h TO p q)∨∃a f oa,IsZ h z TI TO a f/\h.get? a=some oa/\a≠z/\a≠i1/\a≠i2/\a≠S
 hTI:IsPair h TI (.ref i1) (.ref i2)
 h1:h.IsListIter i1 l1 i
 h2:h.IsListIter i2 l2 i
 hl1:h.IsList l1 xs
 hl2:h.IsList l2 ys
structure ZLow(z TI TO i1 i2 l1 l2 S:Addr):Prop where
 z:z<S
 TI:TI<S
 TO:TO<S
 i1:i1<S
 i2:i2<S
 l1:l1<S
 l2:l2<S
structure ZG(xs ys:Array Value)(S:Addr)(h:Heap)(as:List Addr):Prop where
 rise:as.Pairwise (·<·)
 above:∀a∈as,S<a
 pairs:∀(j:Nat) (a:Addr),as[j]?=some a->∃x y,xs[j]?=some x/\ys[j]?=some y/\IsPair h a x y
section
variable{prog:Program}{w:World}{A:Around}{E:Value->Shared->Prop}{s:Shared}{z TI TO i1 i2 l1 l2 S:Addr}{xs ys:Array Value}{h h':Heap}{i:Nat}
theorem ZG.there{as:List Addr}(g:ZG xs ys S h as){a:Addr}(ha:a∈as):a<h.objs.size:=by
 obtain⟨j,hj⟩:=List.mem_iff_getElem?.mp ha;obtain⟨_,_,_,_,e⟩:=g.pairs j a hj;exact Heap.lt_size e
theorem ZSt.keep(x:ZSt h z TI TO i1 i2 l1 l2 S xs ys i)(L:ZLow z TI TO i1 i2 l1 l2 S)(hk:∀b o,b≠S->h.get? b=some o->h'.get? b=some o):ZSt h' z TI TO i1 i2 l1 l2 S xs ys i:=by
 refine⟨?_,hk _ _ (Nat.ne_of_lt L.TI) x.hTI,x.h1.at fun o e=>hk _ o (Nat.ne_of_lt L.i1) e,x.h2.at fun o e=>hk _ o (Nat.ne_of_lt L.i2) e,x.hl1.at fun o e=>hk _ o (Nat.ne_of_lt L.l1) e,x.hl2.at fun o e=>hk _ o (Nat.ne_of_lt L.l2) e⟩
 rcases x.own with⟨e,hz,p,q,hp⟩|⟨a,f,oa,hz,ha,n1,n2,n3,n4⟩
 ·exact .inl ⟨e,hk _ _ (Nat.ne_of_lt L.z) hz,p,q,hk _ _ (Nat.ne_of_lt L.TO) hp⟩
 ·exact .inr ⟨a,f,oa,hk _ _ (Nat.ne_of_lt L.z) hz,hk _ _ n4 ha,n1,n2,n3,n4⟩
theorem U10{x y:Value}{Q:Option Value->Shared->Prop}(D:ZipApart z TI TO i1 i2 l1 l2)(st:ZSt s.heap z TI TO i1 i2 l1 l2 S xs ys i)(hS:S<s.heap.objs.size)(hx:xs[i]?=some x)(hy:ys[i]?=some y)
  (hQ:∀h',ZSt h' z TI TO i1 i2 l1 l2 S xs ys (i+1)->IsPair h' s.heap.objs.size x y->(∀c o,c≠z->c≠TO->c≠i1->c≠i2->s.heap.get? c=some o->h'.get? c=some o)->Q (some (.ref s.heap.objs.size)) { s with heap:=h' }) :
  wpAny (model prog w) A (pyNext (.ref z)) Q E s:=by
 obtain⟨o1,e1,_⟩:=id st.h1;obtain⟨o2,e2,_⟩:=id st.h2;rcases st.own with⟨rfl,hz,p,q,hp⟩|⟨a,f,oa,hz,ha,n1,n2,n3,n4⟩
 ·refine wpAny_pyNext_zip_item D hz st.hTI hp st.h1 st.h2 st.hl1 st.hl2 hx hy fun h' a1 a2 a3 a4 a5 a6 hk=>hQ h' ⟨.inr ⟨_,false,_,a1,a5,Nat.ne_of_gt (Heap.lt_size hz),Nat.ne_of_gt (Heap.lt_size e1),Nat.ne_of_gt (Heap.lt_size e2),Nat.ne_of_gt hS⟩,hk _ _ D.TIz D.TITO D.TIi1 D.TIi2 st.hTI,a3,a4,
   st.hl1.at fun o e=>hk _ o D.l1z D.l1TO D.l1i1 D.l1i2 e,st.hl2.at fun o e=>hk _ o D.l2z D.l2TO D.l2i1 D.l2i2 e⟩ a5 hk
 ·refine qc0 D hz ha st.hTI st.h1 st.h2 st.hl1 st.hl2 hx hy fun h' a1 a3 a4 a5 a6 hk=>hQ h' ⟨.inr ⟨a,true,oa,a1,hk _ _ n1 n2 n3 ha,n1,n2,n3,n4⟩,hk _ _ D.TIz D.TIi1 D.TIi2 st.hTI,a3,a4,
   st.hl1.at fun o e=>hk _ o D.l1z D.l1i1 D.l1i2 e,st.hl2.at fun o e=>hk _ o D.l2z D.l2i1 D.l2i2 e⟩ a5 fun c o c1 _ c3 c4 e=>hk c o c1 c3 c4 e
theorem V60{Q:Option Value->Shared->Prop}(hh:A.handled=none)(D:ZipApart z TI TO i1 i2 l1 l2)(st:ZSt s.heap z TI TO i1 i2 l1 l2 S xs ys i)(hend:xs[i]?=none∨ys[i]?=none)
  (hQ:∀h',(∀c o,c≠z->c≠TO->c≠i1->c≠i2->s.heap.get? c=some o->h'.get? c=some o)->Q none { s with heap:=h' }):wpAny (model prog w) A (pyNext (.ref z)) Q E s:=by
 rcases st.own with⟨rfl,hz,p,q,hp⟩|⟨a,f,oa,hz,ha,n1,n2,n3,n4⟩
 ·exact wpAny_pyNext_zip_end hh D hz st.hTI hp st.h1 st.h2 st.hl1 st.hl2 hend hQ
 ·exact um0 hh D hz ha st.hTI st.h1 st.h2 st.hl1 st.hl2 hend fun h' hk=>hQ h' fun c o c1 _ c3 c4 e=>hk c o c1 c3 c4 e
end
section
variable{prog:Program}{w:World}{A:Around}{s:Shared}{R:Result->Shared->Prop}{z TI TO i1 i2 l1 l2 S lo:Addr}{xs ys:Array Value}{h₁:Heap}
theorem Vw0(hh:A.handled=none)(D:ZipApart z TI TO i1 i2 l1 l2)(L:ZLow z TI TO i1 i2 l1 l2 S)(hlo:lo<=z/\lo<=TO/\lo<=i1/\lo<=i2)(hn:min xs.size ys.size<=sizeLine)(res:Value)
  (hR:∀h' tk acc c as,(∀b o,b<lo->h₁.get? b=some o->h'.get? b=some o)->h'.get? S=some { cls:=.type "list",dict:=none,data:=.seq acc c,slots:=#[] }->as.length=min xs.size ys.size->ZG xs ys S h' as ->
   acc.toList=as.map Value.ref->R (.ok (.ret res)) { s with heap:=h',toks:=tk }) :
  ∀(k i:Nat) (h:Heap) (tk c:Nat) (acc:Array Value) (as:List Addr),min xs.size ys.size - i=k->i<=min xs.size ys.size->ZSt h z TI TO i1 i2 l1 l2 S xs ys i->(∀b o,b<lo->h₁.get? b=some o->h.get? b=some o) ->
   h.get? S=some { cls:=.type "list",dict:=none,data:=.seq acc c,slots:=#[] }->acc.toList=as.map Value.ref->as.length=i->ZG xs ys S h as ->
   codeAny (model prog w) A (.builtin "list.extend.loop" ⟨[.ref S,.ref z,res],[]⟩) R { s with heap:=h,toks:=tk }:=by
 have hz0:=hlo.1
 have loS:lo<S:=Nat.lt_of_le_of_lt hlo.1 L.z
 have lk:∀(h h':Heap),(∀c o,c≠z->c≠TO->c≠i1->c≠i2->h.get? c=some o->h'.get? c=some o)->∀b o,b<lo->h.get? b=some o->h'.get? b=some o:=fun h h' hk b o hb e =>
  hk b o (Nat.ne_of_lt (Nat.lt_of_lt_of_le hb hlo.1)) (Nat.ne_of_lt (Nat.lt_of_lt_of_le hb hlo.2.1)) (Nat.ne_of_lt (Nat.lt_of_lt_of_le hb hlo.2.2.1)) (Nat.ne_of_lt (Nat.lt_of_lt_of_le hb hlo.2.2.2)) e
 have hk4:∀(h h':Heap),(∀c o,c≠z->c≠TO->c≠i1->c≠i2->h.get? c=some o->h'.get? c=some o)->∀b o,S<=b->h.get? b=some o->h'.get? b=some o:=fun h h' hk b o hb e =>
  hk b o (Nat.ne_of_gt (Nat.lt_of_lt_of_le L.z hb)) (Nat.ne_of_gt (Nat.lt_of_lt_of_le L.TO hb)) (Nat.ne_of_gt (Nat.lt_of_lt_of_le L.i1 hb)) (Nat.ne_of_gt (Nat.lt_of_lt_of_le L.i2 hb)) e
 intro k
 induction k with
 | zero =>
  intro i h tk c acc as hk hi hst hkeep hS hacc hal hG;have hend:xs[i]?=none∨ys[i]?=none:=by
   rcases Nat.le_total xs.size ys.size with q|q
   ·exact .inl (Array.getElem?_eq_none (by omega))
   ·exact .inr (Array.getElem?_eq_none (by omega))
  refine codeAny_builtin F.entry_extend_loop ?_
  rw[Around.under_plainId F.plain_extend_loop _];show wpAny _ A.in1 (pyNext (.ref z)>>=_) _ _ _;refine wpAny_bind (V60 (s:={ s with heap:=h,toks:=tk }) (A:=A.in1) hh D hst hend fun h' he=>?_)
  refine wpAny_pure (hR h' tk acc c as (fun b o h1 e=>lk h h' he b o h1 (hkeep b o h1 e)) (hk4 h h' he S _ (Nat.le_refl _) hS) (by omega) ⟨hG.rise,hG.above,fun j a hj=>?_⟩ hacc)
  obtain⟨x,y,e1,e2,e3⟩:=hG.pairs j a hj;exact⟨x,y,e1,e2,hk4 h h' he a _ (Nat.le_of_lt (hG.above a (List.mem_of_getElem? hj))) e3⟩
 | succ k ih =>
  intro i h tk c acc as hk hi hst hkeep hS hacc hal hG;have hlt:i<min xs.size ys.size:=by omega
  have hix:i<xs.size:=Nat.lt_of_lt_of_le hlt (Nat.min_le_left ..)
  have hiy:i<ys.size:=Nat.lt_of_lt_of_le hlt (Nat.min_le_right ..)
  have hsz:acc.size=i:=by rw[← Array.length_toList,hacc,List.length_map,hal]
  have hSl:S<h.objs.size:=Heap.lt_size hS
  refine codeAny_builtin F.entry_extend_loop ?_
  rw[Around.under_plainId F.plain_extend_loop _];show wpAny _ A.in1 (pyNext (.ref z)>>=_) _ _ _;refine wpAny_bind (U10 (s:={ s with heap:=h,toks:=tk }) D hst hSl (Array.getElem?_eq_getElem hix) (Array.getElem?_eq_getElem hiy) fun h' hst' ht hkp=>?_)
  dsimp only at ht hkp ⊢
  have hS':=hk4 h h' hkp S _ (Nat.le_refl _) hS
  have up:∀b o,b≠S->h'.get? b=some o->(h'.update S (Obj.mapSeq (·.push (Value.ref h.objs.size)))).get? b=some o:=fun b o hb e=>(Heap.get?_update_other _ _ (Ne.symm hb)).trans e
  show wpAny _ A.in1 (updateSeq S (·.push (Value.ref h.objs.size))>>=_) _ _ _
  refine wpAny_bind ?_
  refine wpAny_updateSeq hS' rfl (wpAny_pure ⟨plainId_quiet F.plain_extend_loop _,ih (i+1) _ tk _ (acc.push (Value.ref h.objs.size)) (as++[h.objs.size]) (by omega) hlt (hst'.keep L up)
   (fun b o h1 e=>up b o (Nat.ne_of_lt (Nat.lt_trans h1 loS)) (lk h h' hkp b o h1 (hkeep b o h1 e))) (Heap.get?_update_self _ hS' rfl) (by rw[Array.toList_push,hacc,List.map_append]; rfl) (by rw[List.length_append,hal]; rfl) ⟨?_,?_,?_⟩⟩) (by rw[hsz]; omega) (by show (acc.push (Value.ref h.objs.size)).size<=sizeLine+1; rw[Array.size_push,hsz]; omega)
  ·refine List.pairwise_append.mpr ⟨hG.rise,List.pairwise_singleton _ _,fun a ha b hb=>?_⟩
   rw[List.mem_singleton.mp hb];exact hG.there ha
  ·intro a ha
   rcases List.mem_append.mp ha with ha|ha
   ·exact hG.above a ha
   ·rw[List.mem_singleton.mp ha]; exact hSl
  ·intro j b hj
   rcases Nat.lt_trichotomy j as.length with h1|h1|h1
   ·rw[List.getElem?_append_left h1] at hj
    obtain⟨x',y',e1,e2,e3⟩:=hG.pairs j b hj;have hb:=hG.above b (List.mem_of_getElem? hj);exact⟨x',y',e1,e2,up b _ (Nat.ne_of_gt hb) (hk4 h h' hkp b _ (Nat.le_of_lt hb) e3)⟩
   ·subst h1
    have hb:h.objs.size=b:=by simpa using hj
    subst hb;exact⟨_,_,by rw[hal]; exact Array.getElem?_eq_getElem hix,by rw[hal]; exact Array.getElem?_eq_getElem hiy,up _ _ (Nat.ne_of_gt hSl) ht⟩
   ·have hnone:(as++[h.objs.size])[j]?=none:=List.getElem?_eq_none (by rw[List.length_append,List.length_singleton]; omega)
    rw[hnone] at hj; cases hj
end
theorem h70:typeLookup (.type "zip") "__len__"=pure none:=by rw[typeLookup_type,builtinLookup_eq_fast]; kernel_rfl
theorem kj0:typeLookup (.type "zip") "__length_hint__"=pure none:=by rw[typeLookup_type,builtinLookup_eq_fast]; kernel_rfl
section
variable{prog:Program}{w:World}{A:Around}{E:Value->Shared->Prop}{s:Shared}{z TI TO i1 i2 l1 l2 lo:Addr}{xs ys:Array Value}
def X80(xs ys:Array Value)(lo:Addr)(s:Shared)(h':Heap)(as:List Addr):Prop :=
 (∀b o,b<lo->s.heap.get? b=some o->h'.get? b=some o)/\as.length=min xs.size ys.size/\ZG xs ys s.heap.objs.size h' as
theorem rf0{Q:List Value->Shared->Prop}(hh:A.handled=none)(D:ZipApart z TI TO i1 i2 l1 l2)(hlo:lo<=z/\lo<=TO/\lo<=i1/\lo<=i2)
  (st:∀S,S≠z->S≠i1->S≠i2->ZSt s.heap z TI TO i1 i2 l1 l2 S xs ys 0) (hn:min xs.size ys.size<=sizeLine) (L:ZLow z TI TO i1 i2 l1 l2 s.heap.objs.size)
  (hT:s.TypeIs (.ref z) "zip") (hI:∃f0,IsZip s.heap z TI TO f0)
  (hQ:∀h' tk as,X80 xs ys lo s h' as->s.heap.objs.size<h'.objs.size->Q (as.map Value.ref) { s with heap:=h',toks:=tk }):wpAny (model prog w) A (collect (.ref z)) Q E s:=by
 have hSz:s.heap.objs.size≠z:=Nat.ne_of_gt L.z
 obtain⟨f0,hI⟩:=hI;unfold collect;refine wpAny_bind (wpAny_runValue (codeAny_builtin F.entry_proto_collect ?_))
 rw[Around.under_plainId F.plain_proto_collect _];show wpAny _ A.in1 (newList []>>=fun l=>again (.builtin "list.__iadd__" ⟨[l,.ref z],[]⟩)) _ _ s
 refine wpAny_bind (wpAny_newObj_type ?_)
 refine wpAny_pure ⟨plainId_quiet F.plain_list_iadd _,codeAny_builtin F.entry_list_iadd ?_⟩
 rw[Around.under_plainId F.plain_list_iadd _];have hS₁:(s.heap.push { cls:=.type "list",data:=.seq ([]:List Value).toArray }).get? s.heap.objs.size=some { cls:=.type "list",data:=.seq ([]:List Value).toArray }:=Heap.get?_push_size _ rfl
 have hz₁:=Heap.get?_push_of_some { cls:=.type "list",data:=.seq ([]:List Value).toArray } hI
 have hT₁:Shared.TypeIs { s with heap:=s.heap.push { cls:=.type "list",data:=.seq ([]:List Value).toArray } } (.ref z) "zip" := ⟨_,hz₁,rfl⟩
 show wpAny _ A.in1 (Builtin.List.listExtendWith (.ref s.heap.objs.size) (.ref z) (.ref s.heap.objs.size)) _ _ _
 unfold Builtin.List.listExtendWith;refine wpAny_bind (wpAny_typeOf hT₁ ?_)
 have h1:Builtin.List.listSameRef (.ref s.heap.objs.size) (.ref z)=false:=by simp[Builtin.List.listSameRef,hSz]
 have h2:(Value.type "zip"==Value.type "list")=false:=by decide
 have h3:(Value.type "zip"==Value.type "tuple")=false:=by decide
 simp only[h1,h2,h3,Bool.or_false,Bool.false_eq_true,if_false];refine wpAny_bind (wpAny_pyIter_zip (s:={ s with heap:=s.heap.push { cls:=.type "list",data:=.seq ([]:List Value).toArray } }) hz₁ ?_)
 refine wpAny_bind (wpAny_holding ?_)
 unfold Builtin.List.listLengthHint;refine wpAny_bind (wpAny_specialOf hT₁ h70 ?_)
 show wpAny _ A.in1 (specialOf (Value.ref z) (Str.ofString "__length_hint__")>>=_) _ _ _
 refine wpAny_bind (wpAny_specialOf hT₁ kj0 ?_)
 refine wpAny_pure ?_
 show wpAny _ A.in1 (rule "list.extend.makes-room">>=fun _=>Builtin.List.listTouch (.ref s.heap.objs.size)>>=fun _ =>
  again (.builtin "list.extend.loop" ⟨[.ref s.heap.objs.size,.ref z,.ref s.heap.objs.size],[]⟩)) _ _ _
 refine wpAny_bind (wpAny_rule ?_)
 refine wpAny_bind ?_
 show wpAny _ A.in1 (updateSeq s.heap.objs.size (·.push .none)>>=fun _=>updateSeq s.heap.objs.size (·.pop)) _ _ _
 refine wpAny_bind (wpAny_updateSeq hS₁ rfl ?_)
 have hS₂:=Heap.get?_update_self (Obj.mapSeq (·.push Value.none)) hS₁ rfl
 refine wpAny_updateSeq hS₂ rfl ?_
 have hS₃:=Heap.get?_update_self (Obj.mapSeq (·.pop)) hS₂ rfl
 have oth:∀b o,b≠s.heap.objs.size->s.heap.get? b=some o ->
   (((s.heap.push { cls:=.type "list",data:=.seq ([]:List Value).toArray }).update s.heap.objs.size (Obj.mapSeq (·.push Value.none))).update s.heap.objs.size (Obj.mapSeq (·.pop))).get? b=some o :=
  fun b o hb e=>(Heap.get?_update_other _ _ (Ne.symm hb)).trans ((Heap.get?_update_other _ _ (Ne.symm hb)).trans (Heap.get?_push_of_some _ e))
 refine wpAny_pure ⟨plainId_quiet F.plain_extend_loop _,Vw0 (s:=s) (lo:=lo) (h₁:=s.heap) hh D L hlo hn _ (fun h' tk acc c as hk hS' hl hG hacc=>?_) _ 0 _ s.toks _ #[] [] rfl (Nat.zero_le _)
  ((st _ hSz (Nat.ne_of_gt L.i1) (Nat.ne_of_gt L.i2)).keep L oth) (fun b o hb e=>oth b o (Nat.ne_of_lt (Heap.lt_size e)) e) hS₃ rfl rfl ⟨List.Pairwise.nil,(fun _ ha=>nomatch ha),(fun j a hj=>by simp at hj)⟩⟩
 show wpAny _ A (load s.heap.objs.size>>=_) _ _ _
 refine wpAny_bind (wpAny_load hS' ?_)
 refine wpAny_pure ?_
 have:=hQ h' tk as ⟨hk,hl,hG⟩ (Heap.lt_size hS')
 rw[← hacc] at this;exact this
end
section
variable{prog:Program}{w:World}{A:Around}{E:Value->Shared->Prop}{s:Shared}{z TI TO i1 i2 l1 l2 lo:Addr}{xs ys:Array Value}
theorem tn0{Q₁:Value->Shared->Prop}(hh:A.handled=none)(D:ZipApart z TI TO i1 i2 l1 l2)(hlo:lo<=z/\lo<=TO/\lo<=i1/\lo<=i2)
  (st:∀S,S≠z->S≠i1->S≠i2->ZSt s.heap z TI TO i1 i2 l1 l2 S xs ys 0) (hn:min xs.size ys.size<=sizeLine) (L:ZLow z TI TO i1 i2 l1 l2 s.heap.objs.size)
  (hT:s.TypeIs (.ref z) "zip") (hI:∃f0,IsZip s.heap z TI TO f0)
  (h:∀h' tk as,X80 xs ys lo s h' as->s.heap.objs.size<h'.objs.size->Q₁ (.ref h'.objs.size) { s with heap:=h'.push { cls:=.type "tuple",data:=.seq (as.map Value.ref).toArray },toks:=tk }) :
  codeAny (model prog w) A (.call (.builtin "tuple.__new__") ⟨[.type "tuple",.ref z],[]⟩) (wants Q₁ E) s:=by
 refine codeAny_of_tree ?_
 show wpAny _ A.in1 (do checkBuiltinCall "tuple.__new__" ⟨[.type "tuple",.ref z],[]⟩; again (.builtin "tuple.__new__" ⟨[.type "tuple",.ref z],[]⟩)) _ _ s
 refine wpAny_bind (wpAny_of_eq (F.newCall_tuple_1 _) (wpAny_pure ⟨plainId_quiet F.plain_tuple_new _,codeAny_builtin F.entry_tuple_new ?_⟩))
 rw[Around.under_plainId F.plain_tuple_new _];have hsub:=sub_tuple_self;have hinit:=init_tuple_lookup;have hmh:=madeHere_tuple;have hh1:A.in1.handled=none:=by simp[hh]
 wp_walk using wpAny_typeOf hT,rf0 (lo:=lo) hh1 D hlo st hn L hT hI
 intro h' tk as hz hlt;show wpAny _ _ (Builtin.Tuple.tupleExact (as.map Value.ref).toArray>>=fun v=>ret v) _ _ _
 unfold Builtin.Tuple.tupleExact;refine wpAny_bind (wpAny_newObj_type ?_ (by show (as.map Value.ref).toArray.size<=sizeLine; rw[List.size_toArray,List.length_map,hz.2.1]; exact hn))
 exact wpAny_pure (h h' tk as hz hlt)
theorem fp0{Q:Value->Shared->Prop}(hh:A.handled=none)(hl1:s.heap.IsList l1 xs)(hl2:s.heap.IsList l2 ys)(hn:min xs.size ys.size<=sizeLine)
  (h:∀(h':Heap) (tk:Nat) (as:List Addr) (t:Addr),(∀b o,s.heap.get? b=some o->h'.get? b=some o)->as.length=min xs.size ys.size->(∀a∈as,s.heap.objs.size<=a/\a<t)->as.Nodup->s.heap.objs.size<=t ->
   (∀(j:Nat) (a:Addr),as[j]?=some a->∃x y,xs[j]?=some x/\ys[j]?=some y/\IsPair h' a x y)->h'.get? t=some { cls:=.type "tuple",data:=.seq (as.map Value.ref).toArray }->Q (.ref t) { s with heap:=h',toks:=tk }) :
  wpAny (model prog w) A (call (.type "zip") [.ref l1,.ref l2]) (fun v s1=>wpAny (model prog w) A (call (.type "tuple") [v]) Q E s1) E s:=by
 have a1:l1<s.heap.objs.size:=by obtain⟨_,e,_⟩:=hl1; exact Heap.lt_size e
 have a2:l2<s.heap.objs.size:=by obtain⟨_,e,_⟩:=hl2; exact Heap.lt_size e
 refine call_zip_2 hl1 hl2 fun h1 hz hTI hTO hi1 hi2 hsz hk=>?_
 have hl1':h1.IsList l1 xs:=hl1.at fun o e=>hk _ o e
 have hl2':h1.IsList l2 ys:=hl2.at fun o e=>hk _ o e
 have H:∀k,k<5->s.heap.objs.size+k<h1.objs.size:=fun k hk=>by rw[hsz]; exact Nat.add_lt_add_left hk _
 refine callType_codes (Q₁:=fun obj s₁=>s₁.TypeIs obj "tuple"/\Q obj s₁) F.called_tuple (F.typeCall_tuple_1 _) F.entry_object_init
  (tn0 (lo:=s.heap.objs.size) (xs:=xs) (ys:=ys) (by simp[hh]) (zipApart_new a1 a2) ⟨Nat.le_add_right _ 4,Nat.le_add_right _ 3,Nat.le_refl _,Nat.le_add_right _ 1⟩ (fun S n1 n2 n3=>⟨.inl ⟨rfl,hz,_,_,hTO⟩,hTI,hi1,hi2,hl1',hl2'⟩) hn
   ⟨H 4 (by decide),H 2 (by decide),H 3 (by decide),H 0 (by decide),H 1 (by decide),Nat.lt_trans a1 (H 0 (by decide)),Nat.lt_trans a2 (H 0 (by decide))⟩
   ⟨_,hz,rfl⟩ ⟨_,hz⟩ fun h' tk as ze hlt=>⟨⟨_,Heap.get?_push_size _ rfl,rfl⟩,?_⟩) fun obj s₁ h₁=>?_
 ·obtain⟨k1,k2,g⟩:=ze
  refine h (h'.push _) tk as h'.objs.size (fun b o e=>Heap.get?_push_of_some _ (k1 b o (Heap.lt_size e) (hk b o e))) k2 (fun a ha=>⟨?_,g.there ha⟩) (g.rise.imp fun h=>Nat.ne_of_lt h) ?_ (fun j a hj=>?_) (Heap.get?_push_size _ rfl)
  ·exact Nat.le_of_lt (Nat.lt_trans (H 0 (by decide)) (g.above a ha))
  ·exact Nat.le_of_lt (Nat.lt_trans (H 0 (by decide)) hlt)
  ·obtain⟨x,y,e1,e2,e3⟩:=g.pairs j a hj
   exact⟨x,y,e1,e2,Heap.get?_push_of_some _ e3⟩
 ·exact⟨h₁.1,F.args_object_init_2 obj _,object_init_meets F.called_tuple.init.lookup F.called_tuple.made (by decide) prog w A.in1 _ s₁ ⟨h₁.1,rfl,h₁.2⟩⟩
end
end ZipL
namespace L2
open PySem PySem.Spec PyProof.Rows
def zq0(H:Hp):List (Addr×HO)->Hp
 | []=>H
 | p::l=>upd (zq0 H l) p.1 p.2
theorem vx0{H:Hp}{b:Addr}:∀{l:List (Addr×HO)},(∀p∈l,p.1≠b)->zq0 H l b=H b
 | [],_=>rfl
 | p::l,h=>by
  show upd (zq0 H l) p.1 p.2 b=_
  rw[Y5 (Ne.symm (h p List.mem_cons_self)),vx0 fun q hq=>h q (List.mem_cons_of_mem _ hq)]
theorem ty0{H:Hp}{b:Addr}{u:HO}:∀{l:List (Addr×HO)},zq0 H l b=some u->(∃p∈l,p.1=b/\p.2=u)∨H b=some u
 | [],e=>.inr e
 | p::l,e=>by
  by_cases h:b=p.1
  ·subst h
   have e':upd (zq0 H l) p.1 p.2 p.1=some u:=e
   rw[j7] at e';exact .inl ⟨p,List.mem_cons_self,rfl,Option.some.inj e'⟩
  ·have e':upd (zq0 H l) p.1 p.2 b=some u:=e
   rw[Y5 h] at e';rcases ty0 e' with⟨q,hq,x⟩|x
   ·exact .inl ⟨q,List.mem_cons_of_mem _ hq,x⟩
   ·exact .inr x
theorem v60{H:Hp}:∀{l:List (Addr×HO)},(l.map Prod.fst).Nodup->∀p∈l,zq0 H l p.1=some p.2
 | [],_,p,h=>nomatch h
 | q::l,n,p,h=>by
  rw[List.map_cons,List.nodup_cons] at n;show upd (zq0 H l) q.1 q.2 p.1=_;rcases List.mem_cons.mp h with rfl|h
  ·rw[j7]
  ·rw[Y5 (fun z=>n.1 (by rw[← z]; exact List.mem_map_of_mem h)),v60 n.2 p h]
section
variable{X:Cx}{pins:List (Addr×Obj)}{σ:List (Option V)}{H:Hp}{s:Shared}{h':Heap}
theorem Inv.laidL{l:List (Addr×HO)}{t':Nat}(I:Inv X pins σ H s)(k:∀b u,s.heap.get? b=some u->h'.get? b=some u)
  (hl:∀p∈l,s.heap.objs.size<=p.1/\∃xs,p.2=.tup xs/\ObjOk X.prog X.w H h' p.1 (.tup xs)):Inv X pins σ (zq0 H l) { s with heap:=h',toks:=t' }:=by
 have low:∀b,b<s.heap.objs.size->zq0 H l b=H b:=fun b hb=>vx0 fun p hp z=>by
  have:=(hl p hp).1
  rw[z] at this;exact Nat.lt_irrefl _ (Nat.lt_of_lt_of_le hb this)
 refine I.un ⟨fun b u q _ _ _=>k b u q,fun b u q _ _ _=>⟨u.slots,k b u q⟩,fun b u q n _=>by rw[low b (Heap.lt_size q)]; exact n,fun b u q _=>⟨u,k b u q⟩,fun b xs q=>by rw[low b (I.hok.lt q)]; exact q,
  fun b u xs q=>by rw[low b (I.hok.lt q)]; exact q,fun b ps q=>⟨#[],by rw[low b (I.hok.lt q),q]; simp⟩⟩ fun b u e=>?_
 rcases ty0 e with⟨p,hp,rfl,rfl⟩|e'
 ·obtain⟨_,xs,ex,ok⟩:=hl p hp
  rw[ex];exact ok
 ·exact(I.hok b u e').stay (fun c v _ q=>k c v q) (fun c q=>by rw[low c (I.hok.lt q)]; exact q) fun c xs q=>by rw[low c (I.hok.lt q)]; exact q
end
def up0(X:Cx)(f1 f2:Value)(r:List V->Hp->VK->Prop):Prop :=
 ∀(pins:List (Addr×Obj)) (s:Shared) (σ:St) (H:Hp) (xs:List V) (us:List Value) (Q:VK),Inv X pins σ H s->Vals xs us->r xs H Q ->
  wpAny (model X.prog X.w) X.A (call f2 us) (fun v s1=>wpAny (model X.prog X.w) X.A (call f1 [v]) (EP X pins σ Q) X.xe s1) X.xe s
section
variable{X:Cx}{e:Expr}{es:List Expr}{pos p pos2 p2:Pos}{x1 x2:Str}{T1 T2:String}{r:List V->Hp->VK->Prop}{t:TA}
theorem oh0(hc:up0 X (.type T1) (.type T2) r)(hg1:Gl X x1)(hg2:Gl X x2)(hm1:X.mg x1=none)(hm2:X.mg x2=none)(hv1:bootBuiltins x1=some (.type T1))(hv2:bootBuiltins x2=some (.type T2))(ha:PA X (e::es) t)
  (hn1:x1 ≠"__name__" := by decide) (hd1:(x1==("__debug__" : Str))=false:=by decide) (hn2:x2 ≠"__name__" := by decide) (hd2:(x2==("__debug__" : Str))=false:=by decide)
  (e1:starEach [.Call (.Name x2 p2) (e::es) [] pos2] X.env=(false,eval (.Call (.Name x2 p2) (e::es) [] pos2) X.env)::starEach [] X.env:=by rfl) (h1:(backTo pos (starEach [] X.env)).any (·.1)=false:=by rfl)
  (he:starEach (e::es) X.env=(false,eval e X.env)::starEach es X.env:=by rfl) (hpl:(backTo pos2 (starEach es X.env)).any (·.1)=false:=by rfl) :
  PE X (.Call (.Name x1 p) [.Call (.Name x2 p2) (e::es) [] pos2] [] pos) (tCB r t):=by
 intro pins s σ H Q I h;refine wpAny_Call_Name_kw (N5 I hg1 hm1 hv1 ?_ hn1 hd1)
 refine PyProof.Rows.callWith_type1 ?_ e1 h1
 rw[e1];show wpAny _ _ (spliced ((false,eval (.Call (.Name x2 p2) (e::es) [] pos2) X.env)::backTo pos (starEach [] X.env))) _ _ s;refine Calls.spliced_cons ?_
 refine wpAny_Call_Name_kw (N5 I hg2 hm2 hv2 ?_ hn2 hd2)
 refine PyProof.Rows.callWith_type1 (thn (ha pos2 pins s σ H _ I h) fun us s1 ⟨vs,H1,I1,r1,q1⟩=>?_) he hpl
 exact thn (hc pins s1 σ H1 vs us Q I1 r1 q1) fun v s2 hv=>Calls.spliced_nil hv
end
end L2
namespace DL
open PySem PySem.Spec PyProof.Rows L2
section
variable{X:Cx}{e:Expr}{es:List Expr}{pos p pos2 p2:Pos}{x1 x2:Str}{T1 T2:String}{r:List V->Hp->VK->Prop}{gA:Ds->Option (List D)}{f:List D->Option D}
theorem fn0(hc:up0 X (.type T1) (.type T2) r)(hf:FnR X.K r f)(hm1:X.mg x1=none)(hm2:X.mg x2=none)(hv1:bootBuiltins x1=some (.type T1))(hv2:bootBuiltins x2=some (.type T2))(ha:PDA X (e::es) gA)(hg1:Gl X x1:=by rfl)(hg2:Gl X x2:=by rfl)
  (hn1:x1 ≠"__name__" := by decide) (hd1:(x1==("__debug__" : Str))=false:=by decide) (hn2:x2 ≠"__name__" := by decide) (hd2:(x2==("__debug__" : Str))=false:=by decide)
  (e1:starEach [.Call (.Name x2 p2) (e::es) [] pos2] X.env=(false,eval (.Call (.Name x2 p2) (e::es) [] pos2) X.env)::starEach [] X.env:=by rfl) (h1:(backTo pos (starEach [] X.env)).any (·.1)=false:=by rfl)
  (he:starEach (e::es) X.env=(false,eval e X.env)::starEach es X.env:=by rfl) (hpl:(backTo pos2 (starEach es X.env)).any (·.1)=false:=by rfl) :
  PD X (.Call (.Name x1 p) [.Call (.Name x2 p2) (e::es) [] pos2] [] pos) (oA gA f) :=
 .mk fun B δ=>(oh0 hc hg1 hg2 hm1 hm2 hv1 hv2 (ha B δ) hn1 hd1 hn2 hd2 e1 h1 he hpl).imp fun σ H Q h=>m30 hf h
end
def S6:List Addr->List (V×V)->List (Addr×HO)
 | a::as,p::ps=>(a,.tup [p.1,p.2])::S6 as ps
 | _,_=>[]
theorem u60:∀{as:List Addr} {ps:List (V×V)},as.length=ps.length->(S6 as ps).map Prod.fst=as
 | [],[],_=>rfl
 | [],_::_,h=>by simp at h
 | _::_,[],h=>by simp at h
 | a::as,p::ps,h=>by
  show a::(S6 as ps).map Prod.fst=_
  rw[u60 (by simpa using h)]
theorem u30:∀{as:List Addr} {ps:List (V×V)} {q:Addr×HO},q∈S6 as ps->∃(j:Nat) (p:V×V),as[j]?=some q.1/\ps[j]?=some p/\q.2=.tup [p.1,p.2]
 | [],_,q,h=>by simp[S6] at h
 | _::_,[],q,h=>by simp[S6] at h
 | a::as,p::ps,q,h=>by
  rcases List.mem_cons.mp h with rfl|h
  ·exact⟨0,p,rfl,rfl,rfl⟩
  ·obtain⟨j,p',h1,h2,h3⟩:=u30 h
   exact⟨j+1,p',by simpa using h1,by simpa using h2,h3⟩
def cn0(K:W.Frag):List V->Hp->VK->Prop:=fun vs H Q=>∃q1 q2 xs ys,vs=[.ref q1,.ref q2]/\SqL K H q1 xs/\SqL K H q2 ys /\
 ∀(t:Addr) (as:List Addr),as.length=(xs.zip ys).length->as.Nodup->t∉as->H t=none->(∀a∈as,H a=none)->Q (.ref t) (zq0 H ((t,.tup (as.map V.ref))::S6 as (xs.zip ys)))
theorem pv0:∀as:List Addr,Vals (as.map V.ref) (as.map Value.ref)
 | []=>.nil
 | a::as=>.cons rfl (pv0 as)
theorem p50{X:Cx}(hc:X.calm=true:=by rfl):up0 X (.type "tuple") (.type "zip") (cn0 X.K):=by
 intro pins s σ H vs us Q I r h;obtain⟨q1,q2,xs,ys,rfl,h1,h2,k⟩:=h
 cases r with
 | cons r1 r =>
  cases r with
  | cons r2 r =>
   cases r;obtain rfl:=r1;obtain rfl:=r2;obtain⟨us1,v1,p1,z1⟩:=I.list h1;obtain⟨us2,v2,p2,z2⟩:=I.list h2;have l1:=v1.length;have l2:=v2.length;refine ZipL.fp0 (I.ok.hd hc) p1.isList p2.isList (by rw[List.size_toArray,List.size_toArray]; omega) fun h' tk as t hk hl ha hnd ht hp gt=>?_
   rw[List.size_toArray,List.size_toArray] at hl;have hl':as.length=(xs.zip ys).length:=by rw[List.length_zip,hl]; omega
   refine⟨.ref t,_,I.laidL (t':=tk) hk fun p hp'=>?_,rfl,k t as hl' hnd (fun z=>Nat.lt_irrefl _ (ha t z).2) (I.hok.fresh ht) fun a h=>I.hok.fresh (ha a h).1⟩
   rcases List.mem_cons.mp hp' with rfl|hp'
   ·refine⟨ht,_,rfl,?_,as.map Value.ref,pv0 as,⟨_,gt,rfl,_,rfl,rfl⟩⟩
    rw[List.length_map,hl]; omega
   ·obtain⟨j,⟨x,y⟩,e1,e2,e3⟩:=u30 hp'
    obtain⟨u,w,f1,f2,f3⟩:=hp j p.1 e1;have hz:=List.getElem?_zip_eq_some.mp e2
    obtain⟨u',g1,g2⟩:=v1.get hz.1;obtain⟨w',g3,g4⟩:=v2.get hz.2;have eu:u'=u:=by
     have:us1.toArray[j]?=some u':=by simpa using g1
     rw[f1] at this; exact(Option.some.inj this).symm
    have ew:w'=w:=by
     have:us2.toArray[j]?=some w':=by simpa using g3
     rw[f2] at this; exact(Option.some.inj this).symm
    subst eu; subst ew;exact⟨(ha p.1 (List.mem_of_getElem? e1)).1,_,e3,(by show 2<=sizeLine; decide),[u',w'],.cons g2 (.cons g4 .nil),⟨_,f3,rfl,_,rfl,rfl⟩⟩
theorem o60{K:W.Frag}{H:Hp}{B:BS}:∀{ds es:List D} {xs ys:List V} {as:List Addr},Rps K H B ds xs->Rps K H B es ys->as.length=(xs.zip ys).length->(∀p∈S6 as (xs.zip ys),H p.1=some p.2/\¬B p.1) ->
  Rps K H B ((ds.zip es).map fun p=>D.tup [p.1,p.2]) (as.map V.ref)
 | [],es,xs,ys,as,r1,r2,hl,h=>by
  rw[o8] at r1; subst r1
  simp at hl; subst hl
  simp[o8]
 | d::ds,[],xs,ys,as,r1,r2,hl,h=>by
  rw[o8] at r2; subst r2
  simp at hl; subst hl
  simp[o8]
 | d::ds,e::es,xs,ys,as,r1,r2,hl,h=>by
  rw[o4] at r1 r2;obtain⟨x,xs',rfl,a1,a2⟩:=r1;obtain⟨y,ys',rfl,b1,b2⟩:=r2
  cases as with
  | nil=>simp at hl
  | cons a as =>
   have h0:=h (a,.tup [x,y]) List.mem_cons_self
   rw[List.zip_cons_cons,List.map_cons,List.map_cons,o4];refine⟨_,_,rfl,?_,o60 a2 b2 (by simpa using hl) fun p hp=>h p (List.mem_cons_of_mem _ hp)⟩
   rw[X4];refine⟨a,[x,y],rfl,⟨h0.2,h0.1⟩,?_⟩
   rw[o4];refine⟨_,_,rfl,a1,?_⟩
   rw[o4];exact⟨_,_,rfl,b1,by rw[o8]⟩
theorem e20{K:W.Frag}:FnR K (cn0 K) so0:=by
 intro H B xs ds d Q bad r h k;unfold so0 at h;split at h<;>try cases h
 rename_i ds es;rw[o4] at r;obtain⟨x,r',rfl,r1,r⟩:=r;rw[o4] at r;obtain⟨y,r',rfl,r2,r⟩:=r;rw[o8] at r; subst r;rw[Z5] at r1 r2;obtain⟨q1,us,rfl,s1,t1⟩:=r1;obtain⟨q2,ws,rfl,s2,t2⟩:=r2;refine⟨q1,q2,us,ws,rfl,s1.to,s2.to,fun t as hl hnd ht ft fa=>?_⟩
 have hfst:(((t,HO.tup (as.map V.ref))::S6 as (us.zip ws)).map Prod.fst)=t::as:=by rw[List.map_cons,u60 hl]
 have hN:(((t,HO.tup (as.map V.ref))::S6 as (us.zip ws)).map Prod.fst).Nodup:=by rw[hfst]; exact List.nodup_cons.mpr ⟨ht,hnd⟩
 have fr:∀p∈((t,HO.tup (as.map V.ref))::S6 as (us.zip ws)),H p.1=none:=fun p hp=>by
  have:p.1∈t::as:=by rw[← hfst]; exact List.mem_map_of_mem hp
  rcases List.mem_cons.mp this with e|e
  ·rw[e]; exact ft
  ·exact fa _ e
 have sm:Same H (zq0 H ((t,HO.tup (as.map V.ref))::S6 as (us.zip ws))):=fun b u e=>by
  rw[vx0 fun p hp z=>by rw[← z,fr p hp] at e; cases e]; exact e
 have nb:∀p∈((t,HO.tup (as.map V.ref))::S6 as (us.zip ws)),¬B p.1:=fun p hp z=>bad _ z (fr p hp)
 refine k _ _ sm ?_
 rw[X4];refine⟨t,as.map V.ref,rfl,⟨nb _ List.mem_cons_self,v60 hN _ List.mem_cons_self⟩,o60 (t1.same sm) (t2.same sm) hl fun p hp=>⟨v60 hN p (List.mem_cons_of_mem _ hp),nb p (List.mem_cons_of_mem _ hp)⟩⟩
end DL
namespace L2
open PySem PySem.Spec PyProof.Rows
section
variable{X:Cx}{pins:List (Addr×Obj)}{σ:List (Option V)}{H:Hp}{s:Shared}{h':Heap}
theorem Inv.turnedL{t':Nat}{fp:List Addr}(I:Inv X pins σ H s)(hf:∀b∈fp,vl0 X pins H b)(k:∀b o,b∉fp->s.heap.get? b=some o->h'.get? b=some o):Inv X pins σ H { s with heap:=h',toks:=t' }:=by
 have nit:∀b u,H b=some u->b∉fp:=fun b u e z=>by rw[(hf b z).1] at e; cases e
 refine I.step (g':=s.gens) (d':=s.drawn) (ch:=fp) (fun b hb=>⟨(hf b hb).2.2.2.1,(hf b hb).2.1,(hf b hb).2.2.2.2.1,(hf b hb).2.2.2.2.2⟩) (fun b o _ _ hc e _=>k b o hc e) (fun b o _ _ hc e _=>⟨o.slots,k b o hc e⟩) (fun _ _ _ _ n=>n)
  (fun b o hc e=>⟨o,k b o hc e⟩) (fun _ _ e=>e) (fun _ _ _ e=>e) (fun b ps e=>⟨#[],by rw[e]; simp⟩) (fun m hm=>?_) (fun b u e=>?_) I.bare
 ·obtain⟨o,es,ep,ho,r⟩:=hm
  exact⟨o,es,ep,k _ o (fun z=>(hf _ z).2.1 rfl) ho,r⟩
 ·refine(I.hok b u e).stay (fun c v hc q=>k c v ?_ q) (fun _ q=>q) fun _ _ q=>q
  rcases hc with z|z
  ·rw[z]; exact nit b u e
  ·exact nit c _ z
theorem Inv.turnedNew{t':Nat}{fp:List Addr}{x y:V}{u w:Value}(I:Inv X pins σ H s)(hf:∀b∈fp,vl0 X pins H b)(rx:RelV x u)(ry:RelV y w)(hlt:∀b∈fp,b<s.heap.objs.size)
  (hob:h'.get? s.heap.objs.size=some { cls:=.type "tuple",data:=.seq #[u,w] }) (k:∀b o,b∉fp->s.heap.get? b=some o->h'.get? b=some o) :
  Inv X pins σ (upd H s.heap.objs.size (.tup [x,y])) { s with heap:=h',toks:=t' }/\∀b∈fp,upd H s.heap.objs.size (.tup [x,y]) b=none:=by
 have ne:∀b∈fp,b≠s.heap.objs.size:=fun b hb=>Nat.ne_of_lt (hlt b hb)
 have fr:∀b∈fp,upd H s.heap.objs.size (.tup [x,y]) b=none:=fun b hb=>by rw[Y5 (ne b hb)]; exact(hf b hb).1
 have I1:Inv X pins σ (upd H s.heap.objs.size (.tup [x,y])) { s with heap:=s.heap.push { cls:=.type "tuple",data:=.seq #[u,w] },toks:=t' } :=
  I.laid (fun b o e=>Heap.get?_push_of_some _ e) (Nat.le_refl _) ⟨(by show 2<=sizeLine; decide),[u,w],.cons rx (.cons ry .nil),⟨_,Heap.get?_push_size _ rfl,rfl,_,rfl,rfl⟩⟩
 refine⟨Inv.turnedL (s:={ s with heap:=s.heap.push { cls:=.type "tuple",data:=.seq #[u,w] },toks:=t' }) (t':=t') (fp:=fp) I1 (fun b hb=>⟨fr b hb,(hf b hb).2⟩) fun b o hb e=>?_,fr⟩
 rcases Heap.get?_push_cases e with⟨rfl,rfl⟩|e
 ·exact hob
 ·exact k b o hb e
end
def Itz(K:W.Frag)(a b:Addr):It :=
 ⟨fun i H=>∃xs ys x y,SqL K H a xs/\SqL K H b ys/\xs[i]?=some x/\ys[i]?=some y,
   fun i H v H'=>∃t x y,v=.ref t/\H t=none/\H'=upd H t (.tup [x,y])/\(∀xs,SqL K H a xs->xs[i]?=some x)/\∀ys,SqL K H b ys->ys[i]?=some y,
   fun i H=>∃xs ys,SqL K H a xs/\SqL K H b ys/\(xs.length<=i∨ys.length<=i)⟩
theorem dz0{P:Program}{w:World}{K:W.Frag}{elts:List Expr}{x1}{pos:Pos}{z TI TO i1 i2 a b:Addr}(D:ZipApart z TI TO i1 i2 a b):Turn P w K (.Tuple elts x1 pos) (Itz K a b) [z,TI,TO,i1,i2] z
  (fun i h=>IsZip h z TI TO .none/\IsPair h TI (.ref i1) (.ref i2)/\(∃p q,IsPair h TO p q)/\h.IsListIter i1 a i/\h.IsListIter i2 b i) where
 mem:=by simp
 obj:=fun i h st c hc=>by
  obtain⟨hz,hTI,⟨p,q,hTO⟩,⟨o1,e1,c1,d1⟩,⟨o2,e2,c2,d2⟩⟩:=st;simp only[List.mem_cons,List.not_mem_nil,or_false] at hc;rcases hc with rfl|rfl|rfl|rfl|rfl
  ·exact⟨_,hz,fun v z=>nomatch z⟩
  ·exact⟨_,hTI,fun v z=>nomatch z⟩
  ·exact⟨_,hTO,fun v z=>nomatch z⟩
  ·exact⟨_,e1,fun v z=>by rw[d1] at z; cases z⟩
  ·exact⟨_,e2,fun v z=>by rw[d2] at z; cases z⟩
 keep:=fun i h h' st k=>by
  obtain⟨hz,hTI,⟨p,q,hTO⟩,h1,h2⟩:=st;exact⟨k z (by simp) _ hz,k TI (by simp) _ hTI,⟨p,q,k TO (by simp) _ hTO⟩,h1.at fun o e=>k i1 (by simp) o e,h2.at fun o e=>k i2 (by simp) o e⟩
 item:=by
  intro X hP hw hK hc i pins s σ H E I hf st hg;subst hP hw hK;obtain⟨hz,hTI,⟨p,q,hTO⟩,h1,h2⟩:=st;obtain⟨xs,ys,x,y,hq1,hq2,hx,hy⟩:=hg;obtain⟨us,rv1,p1,z1⟩:=I.list hq1;obtain⟨ws,rv2,p2,z2⟩:=I.list hq2;obtain⟨u,hu,ru⟩:=rv1.get hx;obtain⟨w,hw,rw'⟩:=rv2.get hy;refine wpAny_pyNext_zip_item D hz hTI hTO h1 h2 p1.isList p2.isList (x:=u) (y:=w) (by simpa using hu) (by simpa using hw) fun h' a1 a2 a3 a4 a5 a6 hk=>?_
  refine⟨_,rfl,wpAny_letOwnedTupleGo_zip (s:={ s with heap:=h' }) a1 fun h'' b1 hs=>?_⟩
  have lt:∀{c o},s.heap.get? c=some o->c<s.heap.objs.size:=fun e=>Heap.lt_size e
  have lz:=lt hz
  have lTO:=lt hTO
  have lTI:=lt hTI
  obtain⟨o1,e1,_⟩:=id h1;obtain⟨o2,e2,_⟩:=id h2;have l1:=lt e1;have l2:=lt e2;obtain⟨I1,fr⟩:=I.turnedNew (h':=h'') (t':=s.toks) (fp:=[z,TI,TO,i1,i2]) hf ru rw' (fun c hc=>by
   simp only[List.mem_cons,List.not_mem_nil,or_false] at hc;rcases hc with rfl|rfl|rfl|rfl|rfl<;>assumption) (hs.extBut _ _ (Nat.ne_of_gt lz) a5) (fun c o hc e=>by
   simp only[List.mem_cons,List.not_mem_nil,or_false,not_or] at hc;exact hs.extBut _ _ hc.1 (hk c o hc.1 hc.2.2.1 hc.2.2.2.1 hc.2.2.2.2 e))
  exact⟨.ref s.heap.objs.size,_,I1,rfl,⟨_,x,y,rfl,I.hok.fresh (Nat.le_refl _),rfl,fun ys hy'=>by rw[I.list_inj hy' hq1]; exact hx,fun ys' hy'=>by rw[I.list_inj hy' hq2]; exact hy⟩,
   ⟨b1,hs.extBut _ _ D.TIz (hk _ _ D.TIz D.TITO D.TIi1 D.TIi2 hTI),⟨_,_,hs.extBut _ _ D.TOz a2⟩,a3.extBut hs.extBut D.i1z,a4.extBut hs.extBut D.i2z⟩,fr⟩
 done:=by
  intro X hP hw hK hc i pins s σ H E I hf st hg;subst hP hw hK;obtain⟨hz,hTI,⟨p,q,hTO⟩,h1,h2⟩:=st;obtain⟨xs,ys,hq1,hq2,hend⟩:=hg;obtain⟨us,rv1,p1,z1⟩:=I.list hq1;obtain⟨ws,rv2,p2,z2⟩:=I.list hq2;have l1:=rv1.length;have l2:=rv2.length;refine wpAny_pyNext_zip_end (I.ok.hd hc) D hz hTI hTO h1 h2 p1.isList p2.isList (hend.imp (fun h=>by simp; omega) fun h=>by simp; omega) fun h' hk=>⟨rfl,I.turnedL (t':=s.toks) (fp:=[z,TI,TO,i1,i2]) hf fun c o hc e=>?_⟩
  simp only[List.mem_cons,List.not_mem_nil,or_false,not_or] at hc;exact hk c o hc.1 hc.2.2.1 hc.2.2.2.1 hc.2.2.2.2 e
 self:=fun _ _ _ _ _ st h=>wpAny_pyIter_zip st.1 h
def Ite(K:W.Frag)(a:Addr):It :=
 ⟨fun i H=>∃xs x,SqL K H a xs/\xs[i]?=some x,
   fun i H v H'=>∃t x,v=.ref t/\H t=none/\H'=upd H t (.tup [.int (i:Int),x])/\∀xs,SqL K H a xs->xs[i]?=some x,
   fun i H=>∃xs,SqL K H a xs/\xs.length<=i⟩
theorem eb0{P:Program}{w:World}{K:W.Frag}{elts:List Expr}{x1}{pos:Pos}{e it a:Addr}(hei:e≠it):Turn P w K (.Tuple elts x1 pos) (Ite K a) [e,it] e
  (fun i h=>(∃old,IsEnum h e it i old)/\h.IsListIter it a i) where
 mem:=by simp
 obj:=fun i h st c hc=>by
  obtain⟨⟨old,he⟩,⟨o1,e1,c1,d1⟩⟩:=st;simp only[List.mem_cons,List.not_mem_nil,or_false] at hc;rcases hc with rfl|rfl
  ·exact⟨_,he,fun v z=>nomatch z⟩
  ·exact⟨_,e1,fun v z=>by rw[d1] at z; cases z⟩
 keep:=fun i h h' st k=>by
  obtain⟨⟨old,he⟩,h1⟩:=st;exact⟨⟨old,k e (by simp) _ he⟩,h1.at fun o x=>k it (by simp) o x⟩
 item:=by
  intro X hP hw hK hc i pins s σ H E I hf st hg;subst hP hw hK;obtain⟨⟨old,he⟩,h1⟩:=st;obtain⟨xs,x,hq,hx⟩:=hg;obtain⟨us,rv,p1,z1⟩:=I.list hq;obtain⟨u,hu,ru⟩:=rv.get hx;refine wpAny_pyNext_enum_item he h1 p1.isList (x:=u) (by simpa using hu) hei fun h' a1 a2 a3 a4 hk=>?_
  refine⟨_,rfl,wpAny_letOwnedTupleGo_enum (s:={ s with heap:=h',toks:=s.toks+1 }) a1 fun h'' b1 hs=>?_⟩
  have le:=Heap.lt_size he
  obtain⟨o1,e1,_⟩:=id h1;have l1:=Heap.lt_size e1;obtain⟨I1,fr⟩:=I.turnedNew (h':=h'') (t':=s.toks+1) (fp:=[e,it]) (x:=.int (i:Int)) (u:=.int i s.toks) hf ⟨_,rfl⟩ ru (fun c hc=>by
   simp only[List.mem_cons,List.not_mem_nil,or_false] at hc;rcases hc with rfl|rfl<;>assumption) ((hs.2 _ (Nat.ne_of_gt le)).trans a3) (fun c o hc x=>by
   simp only[List.mem_cons,List.not_mem_nil,or_false,not_or] at hc;exact(hs.2 _ hc.1).trans (hk c o hc.1 hc.2 x))
  exact⟨.ref s.heap.objs.size,_,I1,rfl,⟨_,x,rfl,I.hok.fresh (Nat.le_refl _),rfl,fun ys hy=>by rw[I.list_inj hy hq]; exact hx⟩,⟨⟨_,by simpa using b1⟩,a2.at fun o y=>(hs.2 it hei.symm).trans y⟩,fr⟩
 done:=by
  intro X hP hw hK hc i pins s σ H E I hf st hg;subst hP hw hK;obtain⟨⟨old,he⟩,h1⟩:=st;obtain⟨xs,hq,hend⟩:=hg;obtain⟨us,rv,p1,z1⟩:=I.list hq;have l1:=rv.length;refine wpAny_pyNext_enum_end (I.ok.hd hc) he h1 p1.isList (by simp; omega) fun h' hk=>⟨rfl,I.turnedL (t':=s.toks) (fp:=[e,it]) hf fun c o hc x=>?_⟩
  simp only[List.mem_cons,List.not_mem_nil,or_false,not_or] at hc;exact hk c o hc.2 x
 self:=fun _ _ _ _ _ st h=>by
  obtain⟨⟨old,he⟩,_⟩:=st;exact wpAny_pyIter_enum he h
section
variable{X:Cx}{elts:List Expr}{x1:Nat}{tpos:Pos}
def Yx0(K:W.Frag)(ta:TA):TI:=fun σ H R=>ta σ H fun vs H1=>∃a b,vs=[.ref a,.ref b]/\(∃xs,SqL K H1 a xs)/\(∃ys,SqL K H1 b ys)/\R (Itz K a b) H1
theorem boot_zip:bootBuiltins "zip"=some (.type "zip"):=by decide +kernel
theorem fs0:bootBuiltins "enumerate"=some (.type "enumerate"):=by decide +kernel
theorem Yv0{a b:Expr}{ta:TA}{p pos:Pos}(hg:Gl X "zip")(hm:X.mg "zip"=none)(ha:PA X [a,b] ta)(hs:starEach [a,b] X.env=[(false,eval a X.env),(false,eval b X.env)]:=by rfl)(hs2:starEach [b] X.env=[(false,eval b X.env)]:=by rfl) :
  PI X (.Tuple elts x1 tpos) (.Call (.Name "zip" p) [a,b] [] pos) (Yx0 X.K ta):=by
 intro pins s σ H R I h;refine Call_ (N5 I hg hm boot_zip (PyProof.Rows.callWith_type1 (thn (ha pos pins s σ H _ I h) fun us s1 ⟨vs,H1,I1,r1,q1⟩=>?_) (by rw[hs,hs2]) (by rw[hs2]; rfl)))
 obtain⟨qa,qb,e,⟨xs,h1⟩,⟨ys,h2⟩,q⟩:=q1;subst e
 cases r1 with
 | cons r rr =>
  cases rr with
  | cons r' rr =>
   cases rr;obtain rfl:=r;obtain rfl:=r';obtain⟨us1,v1,p1,z1⟩:=I1.list h1;obtain⟨us2,v2,p2,z2⟩:=I1.list h2;have a1:qa<s1.heap.objs.size:=by obtain⟨_,e,_⟩:=p1.isList; exact Heap.lt_size e
   have a2:qb<s1.heap.objs.size:=by obtain⟨_,e,_⟩:=p2.isList; exact Heap.lt_size e
   refine call_zip_2 p1.isList p2.isList fun h' hz hTI hTO hi1 hi2 hsz hk=>?_
   refine wpAny_pyIter_zip (s:={ s1 with heap:=h' }) hz ?_
   refine⟨_,_,_,_,H1,rfl,I1.kept (t':=s1.toks) hk,dz0 (zipApart_new a1 a2),⟨hz,hTI,⟨_,_,hTO⟩,hi1,hi2⟩,fun b hb=>?_,q⟩
   simp only[List.mem_cons,List.not_mem_nil,or_false] at hb;rcases hb with rfl|rfl|rfl|rfl|rfl
   ·exact I1.fpOk (Nat.le_add_right _ 4) (I1.hok.fresh (Nat.le_add_right _ 4))
   ·exact I1.fpOk (Nat.le_add_right _ 2) (I1.hok.fresh (Nat.le_add_right _ 2))
   ·exact I1.fpOk (Nat.le_add_right _ 3) (I1.hok.fresh (Nat.le_add_right _ 3))
   ·exact I1.fpOk (Nat.le_refl _) (I1.hok.fresh (Nat.le_refl _))
   ·exact I1.fpOk (Nat.le_add_right _ 1) (I1.hok.fresh (Nat.le_add_right _ 1))
def Vc0(K:W.Frag)(ta:TA):TI:=fun σ H R=>ta σ H fun vs H1=>∃a,vs=[.ref a]/\(∃xs,SqL K H1 a xs)/\R (Ite K a) H1
theorem a80{a:Expr}{ta:TA}{p pos:Pos}(hg:Gl X "enumerate")(hm:X.mg "enumerate"=none)(ha:PA X [a] ta)(hs:starEach [a] X.env=[(false,eval a X.env)]:=by rfl) :
  PI X (.Tuple elts x1 tpos) (.Call (.Name "enumerate" p) [a] [] pos) (Vc0 X.K ta):=by
 intro pins s σ H R I h;refine Call_ (N5 I hg hm fs0 (PyProof.Rows.callWith_type1 (thn (ha pos pins s σ H _ I h) fun us s1 ⟨vs,H1,I1,r1,q1⟩=>?_) hs rfl))
 obtain⟨qa,e,⟨xs,h1⟩,q⟩:=q1;subst e
 cases r1 with
 | cons r rr =>
  cases rr;obtain rfl:=r;obtain⟨us1,v1,p1,z1⟩:=I1.list h1;refine call_enumerate_list p1.isList fun h' hz hi1 hsz hk=>?_
  refine wpAny_pyIter_enum (s:={ s1 with heap:=h' }) hz ?_
  refine⟨_,_,_,_,H1,rfl,I1.kept (t':=s1.toks) hk,eb0 (Nat.ne_of_gt (Nat.lt_succ_self _)),⟨⟨_,hz⟩,hi1⟩,fun b hb=>?_,q⟩
  simp only[List.mem_cons,List.not_mem_nil,or_false] at hb;rcases hb with rfl|rfl
  ·exact I1.fpOk (Nat.le_add_right _ 1) (I1.hok.fresh (Nat.le_add_right _ 1))
  ·exact I1.fpOk (Nat.le_refl _) (I1.hok.fresh (Nat.le_refl _))
end
end L2
namespace DL
open PySem PySem.Spec PyProof.Rows L2
section
variable{X:Cx}{elts:List Expr}{x1:Nat}{tpos:Pos}{a b:Expr}{p pos:Pos}{gA:Ds->Option (List D)}
theorem p40{K:W.Frag}{H:Hp}{B:BS}{t:Addr}{x y:V}{d e:D}(hn:¬B t)(ht:H t=some (.tup [x,y]))(r1:Rp K H B d x)(r2:Rp K H B e y):Rp K H B (.tup [d,e]) (.ref t):=by
 rw[X4];refine⟨t,[x,y],rfl,⟨hn,ht⟩,?_⟩
 rw[o4];refine⟨_,_,rfl,r1,?_⟩
 rw[o4];exact⟨_,_,rfl,r2,by rw[o8]⟩
theorem am0(hm:X.mg "zip"=none)(ha:PDA X [a,b] gA)(hg:Gl X "zip" := by rfl)(hs:starEach [a,b] X.env=[(false,eval a X.env),(false,eval b X.env)]:=by rfl)(hs2:starEach [b] X.env=[(false,eval b X.env)]:=by rfl) :
  PID X (.Tuple elts x1 tpos) (.Call (.Name "zip" p) [a,b] [] pos) (vg0 gA):=.mk fun B δ=>L2.PI.imp (Yv0 hg hm (ha B δ) hs hs2) fun σ H R ⟨items,en,e1,k⟩=>by
 unfold vg0 at e1
 cases e2:gA δ with
 | none=>rw[e2] at e1; cases e1
 | some ds =>
  rw[e2] at e1;simp only[Option.bind_some] at e1;unfold ig0 at e1;split at e1<;>try cases e1
  rename_i ds es;refine⟨_,en,e2,fun vs H' s' r=>?_⟩
  rw[o4] at r;obtain⟨x,t,rfl,r1,r⟩:=r;rw[o4] at r;obtain⟨y,t,rfl,r2,r⟩:=r;rw[o8] at r; subst r;rw[Z5] at r1 r2;obtain⟨q1,us,rfl,s1,t1⟩:=r1;obtain⟨q2,ws,rfl,s2,t2⟩:=r2;have hlen:((ds.zip es).map fun p=>D.tup [p.1,p.2]).length=min us.length ws.length:=by rw[List.length_map,List.length_zip,t1.length,t2.length]
  refine⟨q1,q2,rfl,⟨us,s1.to⟩,⟨ws,s2.to⟩,k _ H' s' ⟨fun i H2 g2 hi=>?_,fun i H2 v H3 g2 y hi=>?_,fun i H2 g2 hi=>?_⟩⟩
  ·rw[hlen] at hi
   have h1:i<us.length:=by omega
   have h2:i<ws.length:=by omega
   exact⟨us,ws,us[i],ws[i],(s1.mono g2).to,(s2.mono g2).to,by simp[h1],by simp[h2]⟩
  ·obtain⟨t,x,y,rfl,ht,rfl,hx,hy⟩:=y
   rw[List.length_map,List.length_zip] at hi;have h1:i<ds.length:=by omega
   have h2:i<es.length:=by omega
   obtain⟨x',e4,rx⟩:=t1.get (i:=i) (List.getElem?_eq_getElem h1)
   obtain⟨y',e5,ry⟩:=t2.get (i:=i) (List.getElem?_eq_getElem h2)
   have ex:=hx us (s1.mono g2).to
   have ey:=hy ws (s2.mono g2).to
   rw[e4] at ex;rw[e5] at ey;cases ex;cases ey;refine⟨Z1 ht,.tup [ds[i],es[i]],by rw[List.getElem?_map,show (ds.zip es)[i]?=some (ds[i],es[i]) from List.getElem?_zip_eq_some.mpr ⟨List.getElem?_eq_getElem h1,List.getElem?_eq_getElem h2⟩]; rfl,fun B' gB hb=>?_⟩
   exact p40 (fun z=>hb t z ht) j7 (rx.mono gB) (ry.mono gB)
  ·rw[hlen] at hi
   exact⟨us,ws,(s1.mono g2).to,(s2.mono g2).to,by omega⟩
theorem mp0(hm:X.mg "enumerate"=none)(ha:PDA X [a] gA)(hg:Gl X "enumerate" := by rfl)(hs:starEach [a] X.env=[(false,eval a X.env)]:=by rfl) :
  PID X (.Tuple elts x1 tpos) (.Call (.Name "enumerate" p) [a] [] pos) (sz0 gA):=.mk fun B δ=>L2.PI.imp (a80 hg hm (ha B δ) hs) fun σ H R ⟨items,en,e1,k⟩=>by
 unfold sz0 at e1
 cases e2:gA δ with
 | none=>rw[e2] at e1; cases e1
 | some ds =>
  rw[e2] at e1;simp only[Option.bind_some] at e1;unfold h80 at e1;split at e1<;>try cases e1
  rename_i ds;refine⟨_,en,e2,fun vs H' s' r=>?_⟩
  rw[o4] at r;obtain⟨x,t,rfl,r1,r⟩:=r;rw[o8] at r; subst r;rw[Z5] at r1;obtain⟨q1,us,rfl,s1,t1⟩:=r1;have hlen:(zc0 ds).length=us.length:=by unfold zc0; simp[t1.length]
  refine⟨q1,rfl,⟨us,s1.to⟩,k _ H' s' ⟨fun i H2 g2 hi=>?_,fun i H2 v H3 g2 y hi=>?_,fun i H2 g2 hi=>?_⟩⟩
  ·rw[hlen] at hi
   exact⟨us,us[i],(s1.mono g2).to,by simp[hi]⟩
  ·obtain⟨t,x,rfl,ht,rfl,hx⟩:=y
   rw[hlen,t1.length] at hi;obtain⟨x',e4,rx⟩:=t1.get (i:=i) (List.getElem?_eq_getElem hi)
   have ex:=hx us (s1.mono g2).to
   rw[e4] at ex;cases ex;refine⟨Z1 ht,.tup [.int (i:Int),ds[i]],by unfold zc0; simp[hi],fun B' gB hb=>?_⟩
   exact p40 (fun z=>hb t z ht) j7 (by rw[n6]) (rx.mono gB)
  ·rw[hlen] at hi
   exact⟨us,(s1.mono g2).to,hi⟩
end
section
variable{K:W.Frag}{H:Hp}{B B':BS}
mutual
theorem jf0(hB:∀a,B a->B' a∨(∃xs,H a=some (.lst xs))∨∃ks xs,H a=some (dOb ks xs)):∀(d:D) (v:V),tree d=true->Rp K H B' d v->Rp K H B d v
 | .non,v,_,r=>by rw[W0] at r ⊢; exact r
 | .bl _,v,_,r=>by rw[Y4] at r ⊢; exact r
 | .int _,v,_,r=>by rw[n6] at r ⊢; exact r
 | .str _,v,_,r=>by rw[Y0] at r ⊢; exact r
 | .lst _,v,h,_=>by unfold tree at h; cases h
 | .dct _ _,v,h,_=>by unfold tree at h; cases h
 | .tup ds,v,h,r=>by
  unfold tree at h;rw[X4] at r ⊢;obtain⟨a,xs,rfl,q,rs⟩:=r;refine⟨a,xs,rfl,?_,ms0 hB ds xs h rs⟩
  obtain⟨n,q⟩:=q;refine⟨fun z=>?_,q⟩
  rcases hB a z with z|⟨ys,z⟩|⟨ks,ys,z⟩
  ·exact n z
  ·rw[z] at q; cases q
  ·rw[z] at q; cases ks<;>cases q
theorem ms0(hB:∀a,B a->B' a∨(∃xs,H a=some (.lst xs))∨∃ks xs,H a=some (dOb ks xs)):∀(ds:List D) (vs:List V),trees ds=true->Rps K H B' ds vs->Rps K H B ds vs
 | [],vs,_,r=>by rw[o8] at r ⊢; exact r
 | d::ds,vs,h,r=>by
  unfold trees at h;rw[Bool.and_eq_true] at h;rw[o4] at r ⊢;obtain⟨x,t,rfl,r1,r2⟩:=r;exact⟨x,t,rfl,jf0 hB d x h.1 r1,ms0 hB ds t h.2 r2⟩
end
end
theorem Zs0{X:Cx}{e:Expr}{g:GE}(h:PD X e g):PD X e (k50 g):=.mk fun B δ pins s σ H Q I ⟨d,en,hq,k⟩=>by
 obtain⟨B',c1,c2,en'⟩:=en.frz;unfold k50 at hq
 cases e1:g (frz δ) with
 | none=>rw[e1] at hq; cases hq
 | some x =>
  rw[e1] at hq
  by_cases hf:tree x=true
  ·simp only[Option.bind_some,if_pos hf] at hq
   cases hq;refine h B' (frz δ) pins s σ H Q I ⟨_,en',e1,fun v H' s' r=>k v H' s' (jf0 (fun a z=>?_) _ _ hf r)⟩
   rcases c2 a z with q|⟨i,d',h1,h2⟩
   ·exact .inl q
   ·obtain⟨o,h3,a',e4,_,ro⟩:=Pd.get en.all h1
    rw[h2] at h3;cases h3;cases e4;cases d'<;>try exact ro.elim
    ·obtain⟨_,_,xs,e5,_⟩:=ro; exact .inr (.inl ⟨xs,s' _ _ e5⟩)
    ·obtain⟨xs,e5,_⟩:=ro; exact .inr (.inl ⟨xs,s' _ _ e5⟩)
    ·obtain⟨xs,e5,_⟩:=ro; exact .inr (.inr ⟨_,_,s' _ _ e5⟩)
  ·simp only[Option.bind_some,if_neg hf] at hq
   cases hq
section
variable{X:Cx}{K:W.Frag}{e:Expr}{pos p:Pos}{g:Ds->Option D}
def Zb0:List V->Hp->VK->Prop:=fun vs H Q=>∃a kvs,vs=[.ref a]/\H a=some (.dK kvs)/\∀l,H l=none->Q (.ref l) (upd H l (.dK kvs))
theorem nt0{X:Cx}:CallR X (.type "dict") Zb0:=by
 intro pins s σ H vs us Q I r h;obtain⟨a,kvs,rfl,ha,k⟩:=h
 cases r with
 | cons r rr =>
  cases rr;obtain rfl:=r;obtain⟨hz,hS,ws,rv,m⟩:kvs.length<=sizeLine/\(a==sysModules)=false/\∃vs,KV kvs vs/\s.heap.DictOf (P0 X.prog X.w) a vs:=I.hok a _ ha;have hl:kvs.length=ws.length:=Paired.length rv;have hb:sysModules<s.heap.objs.size:=Nat.lt_trans (by decide) ((I.mod.glob.keeps I.bk).lt:mainGlobals<s.heap.objs.size)
  refine kt_call_dict hS m (by rw[← hl]; exact hz) fun h' hd hs=>?_
  have hf:H s.heap.objs.size=none:=I.hok.fresh (Nat.le_refl _)
  refine⟨.ref s.heap.objs.size,_,I.laid (a:=s.heap.objs.size) (o:=.dK kvs) (t':=s.toks) (fun b o q=>(hs.2 b (Nat.ne_of_lt (Heap.lt_size q))).trans (Heap.get?_push_of_some _ q)) (Nat.le_refl _)
   ⟨hz,beq_eq_false_iff_ne.mpr (Ne.symm (Nat.ne_of_lt hb)),ws,rv,hd⟩,rfl,k _ hf⟩
theorem iu0(hm:X.mg "dict"=none)(hv:bootBuiltins "dict"=some (.type "dict"))(ha:PD X e g)(hg:Gl X "dict" := by rfl)
  (he:starEach [e] X.env=(false,eval e X.env)::starEach [] X.env:=by rfl) (hpl:(backTo pos (starEach [] X.env)).any (·.1)=false:=by rfl) :
  PDF X (.Call (.Name "dict" p) [e] [] pos) (oA (z9 g v7) v10):=.mk fun B δ=>(u40 nt0 hg hm hv (z00 (ha B δ) yj0 he) (by decide) (by decide) he hpl).imp fun σ H Q ⟨d,en,h,k⟩=>by
 unfold oA z9 v7 at h
 cases e1:g δ with
 | none=>rw[e1] at h; cases h
 | some x =>
  rw[e1] at h;simp only[Option.bind_some,Option.map_some] at h;refine⟨x,en,e1,fun v H1 s1 r1=>?_⟩
  cases x<;>try (simp only[v10] at h; cases h; done)
  rename_i ks ds
  cases ks with
  | inr ks=>simp only[v10] at h; cases h
  | inl ks =>
  simp only[v10] at h;cases h;rw[sb0] at r1;obtain⟨q,xs,rfl,nq,hq,hl,rr⟩:=r1;exact⟨q,_,rfl,hq,fun l hl'=>k l _ (s1.free hl') (s1.trans (Z1 hl')) ⟨xs,j7,hl,rr.mono (Gr.fresh hl')⟩⟩
end
section
variable{X:Cx}{e:Expr}{pos p pos2 p2:Pos}{gA:Ds->Option (List D)}
end
end DL
namespace TxtL
open PySem PySem.Spec PyProof.Rows Builtin Builtin.Str
section
variable{prog:Program}{w:World}{A:Around}{E:Value->Shared->Prop}{s:Shared}{Q:Value->Shared->Prop}{x y:PySem.Str}{t u:Tok}
end
end TxtL
namespace L2
open PySem PySem.Spec PyProof.Rows
section
variable{X:Cx}
end
end L2
namespace DL
open PySem PySem.Spec PyProof.Rows L2
section
variable{X:Cx}{K:W.Frag}{o e:Expr}{apos cpos:Pos}{g:Ds->Option D}{gA:Ds->Option (List D)}{name:PySem.Str}{id:String}{r:V->List V->Hp->VK->Prop}{f:D->List D->Option D}
end
@[simp] def zn0(ga gb gc:GE)(f f':D->D->Option D):GE:=fun δ=>(ga δ).bind fun x=>(gb δ).bind fun y=>(f x y).bind fun t=>(asB t).bind fun k=>if k=true then (gc δ).bind fun z=>f' y z else some (.bl false)
@[simp] def ri0:D->D->Option D
 | .int n,.str x=>if -(2 ^ 62)<=n/\n<2 ^ 62/\x.length*n.toNat<=sizeLine then some (.str (io0 x n)) else none
 | _,_=>none
section
variable{X:Cx}{e a b c:Expr}{es:List Expr}{pos:Pos}{g ga gb gc:Ds->Option D}
theorem gz0{K:W.Frag}{r r':R2}{f f':D->D->Option D}(hf:Op2 K r f)(hf':Op2 K r' f'){B:BS}{δ:Ds}{σ:St}{H:Hp}{Q:VK}(h:tD K B δ (zn0 ga gb gc f f') σ H Q):fd0 r r' (tD K B δ ga) (tD K B δ gb) (tD K B δ gc) σ H Q:=by
 obtain⟨d,en,h,k⟩:=h;unfold zn0 at h
 cases e1:ga δ with
 | none=>rw[e1] at h; cases h
 | some x =>
  cases e2:gb δ with
  | none=>rw[e1,e2] at h; cases h
  | some y =>
   rw[e1,e2] at h;simp only[Option.bind_some] at h
   cases e3:f x y with
   | none=>rw[e3] at h; cases h
   | some t =>
    rw[e3] at h;simp only[Option.bind_some] at h
    cases e4:asB t with
    | none=>rw[e4] at h; cases h
    | some kb =>
     rw[e4] at h;simp only[Option.bind_some] at h;cases kb0 e4;refine⟨x,en,e1,fun v1 H1 s1 r1=>⟨y,en.same s1,e2,fun v2 H2 s2 r2=>?_⟩⟩
     refine hf H2 B v1 v2 x y _ _ ((en.same s1).same s2).bad (r1.same s2) r2 e3 fun v H3 s3 r3=>?_
     rw[Y4] at r3;refine⟨kb,r3,?_⟩
     cases kb with
     | false =>
      rw[if_neg Bool.false_ne_true] at h ⊢;cases h;exact k _ H3 ((s1.trans s2).trans s3) (by rw[Y4])
     | true =>
      rw[if_pos rfl] at h ⊢
      cases e5:gc δ with
      | none=>rw[e5] at h; cases h
      | some z =>
       rw[e5] at h;simp only[Option.bind_some] at h;refine⟨z,((en.same s1).same s2).same s3,e5,fun v4 H4 s4 r4=>?_⟩
       exact hf' H4 B v2 v4 y z d _ ((((en.same s1).same s2).same s3).same s4).bad ((r2.same s3).same s4) r4 h fun v' H5 s5 r5=>k v' H5 ((((s1.trans s2).trans s3).trans s4).trans s5) r5
theorem mw0{op op':CmpOp}{r r':R2}{f f':D->D->Option D}(ho:OpR X (compareOp op) r)(hf:Op2 X.K r f)(ho':OpR X (compareOp op') r')(hf':Op2 X.K r' f')(ha:PD X a ga)(hb:PD X b gb)(hc:PD X c gc)
  (hm:lastMarks [op,op'] [b,c]=false:=by with_unfolding_all rfl):PD X (.Compare a [op,op'] [b,c] pos) (zn0 ga gb gc f f') :=
 .mk fun B δ=>(c60 ho ho' (ha B δ) (hb B δ) (hc B δ) hm).imp fun σ H Q h=>gz0 hf hf' h
open Builtin Builtin.Str Builtin.Int in
theorem iv0{prog:Program}{w:World}{A:Around}{E:Value->Shared->Prop}{s:Shared}{x:Str}{n:Int}{t u:Tok}{Q:Value->Shared->Prop}(hr:(decide (n < -(2 ^ 63:Int))||decide (n ≥ 2 ^ 63))=false)
  (hb:¬n<1->(n==1||x.length==0)=false->¬((x.length:Int) > (2 ^ 63 - 1)/n)) (hl:¬n<1->(n==1||x.length==0)=false->tooLong (x.length*n.toNat)=false)
  (h:(if n<1 then Made.str Str.empty else if (n==1||x.length==0)=true then Made.val (.str x t) else Made.str ⟨(List.replicate n.toNat x.cps).foldl (·++·) #[]⟩).post Q s) :
  wpAny (model prog w) A (binaryOp .Mult (.int n u) (.str x t)) Q E s :=
 PySem.lm_binaryOp_repeat_right (T := "str") (U := "int") (by decide) (fun s'=>typeIs_int s' n u) (typeIs_str s x t) PySem.F.fills_int_mul PySem.noFill_str_mul PySem.F.slot_int_mul PySem.lm_noRepeat_int PySem.repeat_str PySem.F.slot_int_index.lookup
  (call_gives PySem.F.slot_int_mul (typeIs_int s n u) PySem.F.entry_int_mul (PySem.F.args_int_mul_2 _ _) (PySem.AutoIntG3.int___mul___int_str_0 n u x t)
   ⟨rfl,typeIs_str _ x t,call_gives PySem.F.slot_str_mul (typeIs_str s x t) PySem.F.entry_str_mul (PySem.F.args_str_mul_2 _ _) (gives_str_mul x n t u hr hb hl) h⟩)
def b30:R2:=fun x y H Q=>∃z n,y=.str z/\x=.int n/\-(2 ^ 62)<=n/\n<2 ^ 62/\z.length*n.toNat<=sizeLine/\Q (.str (xi0 z n)) H
theorem Zm0:OpR X (binaryOp .Mult) b30:=by
 intro pins s σ H x y v u Q I rx ry h;obtain⟨z,n,rfl,rfl,h1,h2,hz,q⟩:=h;obtain⟨t,rfl⟩:=ry;obtain⟨t',rfl⟩:=rx;have fin:∀t'' k,EP X pins σ Q (.str (xi0 z n) t'') { s with toks:=k }:=fun t'' k=>⟨.str _,H,I.tok k,⟨t'',rfl⟩,q⟩
 have hsl:(sizeLine:Nat)<2 ^ 40:=by decide
 have hdiv:¬n<1->¬((z.length:Int) > (2 ^ 63 - 1)/n):=by
  intro hn;have hn':0<n:=by omega
  have:(z.length:Int)*n<=2 ^ 63 - 1:=by
   have e:n=(n.toNat:Int):=by omega
   rw[e];have:((z.length*n.toNat:Nat):Int)<=2 ^ 40:=by exact_mod_cast (by omega:z.length*n.toNat<=2 ^ 40)
   rw[Int.natCast_mul] at this;omega
  exact Int.not_lt.mpr ((Int.le_ediv_iff_mul_le hn').mpr this)
 refine iv0 (by rw[decide_eq_false (by omega),decide_eq_false (by omega)]; rfl) (fun hn _=>hdiv hn) (fun _ _=>?_) ?_
 ·show decide (z.length*n.toNat > sizeLine)=false
  exact decide_eq_false (by omega)
 ·by_cases hn:n<1
  ·rw[if_pos hn]
   have e:xi0 z n=Str.empty:=by
    unfold xi0;rw[show n.toNat=0 by omega]
    rfl
   refine⟨by decide,?_⟩
   rw[← e];exact fin _ _
  ·rw[if_neg hn]
   by_cases h3:(n==1||z.length==0)=true
   ·rw[if_pos h3]
    have e:xi0 z n=z:=by
     rw[Bool.or_eq_true] at h3;rcases h3 with h3|h3
     ·have:n=1:=eq_of_beq h3
      subst this;unfold xi0;show (⟨#[]++z.cps⟩:Str)=z;rw[Array.empty_append]
     ·have h3:z.length=0:=eq_of_beq h3
      have hz0:z.cps=#[]:=Array.eq_empty_of_size_eq_zero h3
      have:∀k:Nat,(List.replicate k (#[]:Array Nat)).foldl (·++·) #[]=#[]:=by
       intro k
       induction k with
       | zero=>rfl
       | succ k ih=>rw[List.replicate_succ,List.foldl_cons]; exact ih
      unfold xi0;rw[hz0,this];cases z
      simp at hz0
      rw[hz0]
    have:=fin t s.toks
    rw[e] at this;exact this
   ·rw[if_neg h3]
    have hl2:∀(k:Nat) (acc:Array Nat),((List.replicate k z.cps).foldl (·++·) acc).size=acc.size+k*z.cps.size:=by
     intro k
     induction k with
     | zero=>intro acc; simp
     | succ k ih=>intro acc; rw[List.replicate_succ,List.foldl_cons,ih,Array.size_append,Nat.succ_mul]; omega
    refine⟨?_,fin _ _⟩
    show ((List.replicate n.toNat z.cps).foldl (·++·) #[]).size<=_
    rw[hl2];have:z.length=z.cps.size:=rfl;rw[this,Nat.mul_comm] at hz
    simpa using hz
theorem ca0{K:W.Frag}:Op2 K b30 ri0:=by
 intro H B x y dx dy d Q hb rx ry h k;cases dx<;>cases dy<;>simp only[ri0] at h<;>try cases h
 split at h
 ·rename_i hz
  cases h;rw[Y0] at ry;rw[n6] at rx;subst rx ry;exact⟨_,_,rfl,rfl,hz.1,hz.2.1,hz.2.2,k _ H (Same.refl H) (by rw[Y0]; rfl)⟩
 ·cases h
theorem a70(ha:PD X a ga)(hb:PD X b gb):PD X (.BinOp a .Mult b pos) (o2 ga gb ri0):=t70 Zm0 ca0 ha hb
end
end DL
namespace HL
open PySem PySem.SeqAt PyProof.Rows
open PySem.AutoSeq1 (wpAny_loadPart')
open PySem.MeetsSeq PySem.MeetsSeq2 PySem.MeetsSeq3
end HL
namespace DL
open PySem PySem.Spec PyProof.Rows L2
@[simp] def lx0(i:Nat):GX:=fun δ=>(owL i δ).map fun _=>(.non,δ.set i (.ow (.lst [])))
section
variable{X:Cx}{e a b c:Expr}{es:List Expr}{pos px apos cpos:Pos}{g ga gb gc:Ds->Option D}{x:Str}
theorem ej0(i:Nat)(hN:X.N[i]?=some x:=by rfl)(hv:Vis X.env.scope x:=by first|exact Or.inl rfl|exact Or.inr (Or.inl rfl)|exact Or.inr (Or.inr rfl))(hd:(x==("__debug__" : Str))=false:=by decide)(hcd:(x==("__classdict__" : Str))=false:=by decide)
  (hbase:attributeBase (.Name x px) "clear" X.env (eval (.Name x px) X.env)=eval (.Name x px) X.env:=by rfl) (hline:(apos.endLine==cpos.line)=true:=by rfl) :
  PX X (.Call (.Attribute (.Name x px) "clear" apos) [] [] cpos) (lx0 i):=.mk fun H₀ B₀ δ pins s σ H Q I ⟨r,en,e1,k⟩=>by
 unfold lx0 at e1;obtain⟨B,b1,b2,env⟩:=en.ex
 cases e2:owL i δ with
 | none=>rw[e2] at e1; cases e1
 | some ds =>
  rw[e2] at e1;cases e1;have hi:=w80 e2;obtain⟨a,hs',hb,xs,hx,rx⟩:=env.at hi;refine g80 PySem.F.plainAttrs_list PySem.F.slot_list_clear PySem.F.type_list_clear et0 (yl0 (i:=i) hN hv hd hcd) hbase hline pins s σ H Q I
   ⟨_,hs',.inl ⟨rfl,xs,.inl (.inl hx)⟩,a,xs,rfl,rfl,hx,?_⟩
  have env2:Env X.K (upd H a (.lst [])) B σ (δ.set i (.ow (.lst []))):=env.mut hi hs' ⟨_,j7,by rw[o8]⟩
  exact k _ _ (EnvV.mk' (en.mut (Same.refl _) b1 b2 hi hs' env2) b1 b2 env2 (by rw[W0]))
end
end DL
namespace ZipL
open PySem PySem.Spec PyProof.Rows
abbrev wm0(h:Heap)(z TI TO:Addr)(v:Value)(f:Bool):Prop :=
 h.get? z=some { cls:=.type "zip",dict:=none,data:=.fields #[v,.bool f,.bool false,.ref TI,.ref TO],slots:=#[] }
section
variable{prog:Program}{w:World}{A:Around}{E:Value->Shared->Prop}{s:Shared}
theorem dead{a:Addr}{Q:Option Obj->Shared->Prop}(ho:s.heap.get? a=none)(h:Q none s):wpAny (model prog w) A (loadIfAlive a) Q E s:=by
 have h':Q (s.heap.get? a) s:=by rw[ho]; exact h
 exact fun _ _ _=>h'
theorem oi0{z TI TO a:Addr}{f:Bool}{Q:Bool->Shared->Prop}(hz:IsZ s.heap z TI TO a f)(ha:s.heap.get? a=none)(hQ:Q true s):wpAny (model prog w) A (Builtin.SmallTypes.ownedTupleIsFree (.ref z)) Q E s:=by
 unfold Builtin.SmallTypes.ownedTupleIsFree;refine wpAny_bind (wpAny_field hz rfl (x:=rawInt a) rfl ?_)
 show wpAny _ _ (loadIfAlive ((a:Int).toNat)>>=_) _ _ _
 rw[Int.toNat_natCast];refine wpAny_bind (dead ha ?_)
 simp only[Option.isNone_none,if_true];exact wpAny_pure hQ
theorem is0{z TI TO i1 i2 l1 l2:Addr}{v0:Value}{f:Bool}{k1 k2:Nat}{xs ys:Array Value}{x y a b:Value}{Q:Value->Shared->Prop}(D:ZipApart z TI TO i1 i2 l1 l2)
  (hz:wm0 s.heap z TI TO v0 f) (hfree:∀Q':Bool->Shared->Prop,Q' true s->wpAny (model prog w) A (Builtin.SmallTypes.ownedTupleIsFree (.ref z)) Q' E s) (hTI:IsPair s.heap TI (.ref i1) (.ref i2)) (hTO:IsPair s.heap TO a b)
  (h1:s.heap.IsListIter i1 l1 k1) (h2:s.heap.IsListIter i2 l2 k2) (hl1:s.heap.IsList l1 xs) (hl2:s.heap.IsList l2 ys) (hx:xs[k1]?=some x) (hy:ys[k2]?=some y)
  (hQ:∀h',IsZ h' z TI TO s.heap.objs.size false->IsPair h' TO x y->h'.IsListIter i1 l1 (k1+1)->h'.IsListIter i2 l2 (k2+1)->IsPair h' s.heap.objs.size x y->h'.objs.size=s.heap.objs.size+1 ->
   (∀c o,c≠z->c≠TO->c≠i1->c≠i2->s.heap.get? c=some o->h'.get? c=some o)->Q (.ref s.heap.objs.size) { s with heap:=h' }) :
  wpAny (model prog w) A (Builtin.«zip.__next__» ⟨[.ref z],[]⟩) (fun fin s'=>∃v,fin=.done (.ret v)/\Q v s') E s:=by
 show wpAny _ _ (field (.ref z) 2>>=_) _ _ _
 refine wpAny_bind (wpAny_field hz rfl (x:=.bool false) rfl ?_)
 show wpAny _ _ (field (.ref z) 3>>=_) _ _ _
 refine wpAny_bind (wpAny_field hz rfl (x:=.ref TI) rfl ?_)
 refine wpAny_bind (wpAny_seqItems hTI rfl ?_)
 show wpAny _ _ (Builtin.SmallTypes.ownedTupleIsFree (.ref z)>>=_) _ _ _
 refine wpAny_bind (hfree _ ?_)
 simp only[if_true];refine wpAny_bind (wpAny_rule ?_)
 refine wpAny_bind (wpAny_field hz rfl (x:=.ref TO) rfl ?_)
 refine wpAny_bind (wpAny_setField_rec hz (by simp) fun g1 zg1 e1=>?_)
 replace zg1:wm0 g1 z TI TO .ellipsis f:=zg1
 refine wpAny_bind ?_
 simp only[List.zipIdx_cons,List.zipIdx_nil,List.forIn_cons,List.forIn_nil];refine wpAny_bind (wpAny_bind (wpAny_onRaise ?_))
 show wpAny _ _ (Builtin.SmallTypes.nextOf (.ref i1)>>=_) _ _ _
 refine wpAny_bind (wpAny_nextOf_list_item (h1.extBut e1.extBut D.i1z) (hl1.extBut e1.extBut D.l1z) hx fun g2 it1 e2=>wpAny_pure ?_)
 have to2:IsPair g2 TO a b:=e2.extBut _ _ D.TOi1 (e1.extBut _ _ D.TOz hTO)
 refine wpAny_bind (wpAny_seqItems to2 rfl ?_)
 refine wpAny_bind (wpAny_updateSeq_pair to2 fun g3 to3 e3=>?_)
 replace to3:IsPair g3 TO x b:=to3
 refine wpAny_bind (wpAny_letGo (wpAny_pure ?_))
 refine wpAny_bind (wpAny_bind (wpAny_onRaise ?_))
 show wpAny _ _ (Builtin.SmallTypes.nextOf (.ref i2)>>=_) _ _ _
 refine wpAny_bind (wpAny_nextOf_list_item (((h2.extBut e1.extBut D.i2z).extBut e2.extBut D.i12.symm).extBut e3.extBut D.TOi2.symm) (((hl2.extBut e1.extBut D.l2z).extBut e2.extBut D.l2i1).extBut e3.extBut D.l2TO) hy fun g4 it2 e4=>wpAny_pure ?_)
 have to4:IsPair g4 TO x b:=e4.extBut _ _ D.TOi2 to3
 refine wpAny_bind (wpAny_seqItems to4 rfl ?_)
 refine wpAny_bind (wpAny_updateSeq_pair to4 fun g5 to5 e5=>?_)
 replace to5:IsPair g5 TO x y:=to5
 refine wpAny_bind (wpAny_letGo (wpAny_pure (wpAny_pure ?_)))
 refine wpAny_bind (wpAny_seqItems to5 rfl ?_)
 refine wpAny_bind (wpAny_newTuple (hsz:=by show 2<=sizeLine; decide) ?_)
 have sz:g5.objs.size=s.heap.objs.size:=by rw[e5.1,e4.1,e3.1,e2.1,e1.1]
 have z5:wm0 g5 z TI TO .ellipsis f:=e5.extBut _ _ D.TOz.symm (e4.extBut _ _ D.i2z.symm (e3.extBut _ _ D.TOz.symm (e2.extBut _ _ D.i1z.symm zg1)))
 have keep:∀c o,c≠z->c≠TO->c≠i1->c≠i2->s.heap.get? c=some o->g5.get? c=some o:=fun c o c1 c2 c3 c4 e=>e5.extBut _ _ c2 (e4.extBut _ _ c4 (e3.extBut _ _ c2 (e2.extBut _ _ c3 (e1.extBut _ _ c1 e))))
 have j1:g5.IsListIter i1 l1 (k1+1):=((it1.extBut e3.extBut D.TOi1.symm).extBut e4.extBut D.i12).extBut e5.extBut D.TOi1.symm
 have j2:g5.IsListIter i2 l2 (k2+1):=it2.extBut e5.extBut D.TOi2.symm
 have lz:z<g5.objs.size:=Heap.lt_size z5
 show wpAny _ _ (Builtin.SmallTypes.ownedTupleHandOut (.ref z) (.ref g5.objs.size)>>=_) _ _ _
 refine wpAny_bind ?_
 unfold Builtin.SmallTypes.ownedTupleHandOut;have z6:wm0 (g5.push { cls:=.type "tuple",data:=.seq #[x,y] }) z TI TO .ellipsis f:=Heap.get?_push_of_some _ z5
 refine wpAny_bind (wpAny_setField_rec z6 (by simp) fun g7 z7 e7=>?_)
 replace z7:wm0 g7 z TI TO (rawInt g5.objs.size) f:=z7
 refine wpAny_setField_rec z7 (by simp) fun g8 z8 e8=>?_
 replace z8:IsZ g8 z TI TO g5.objs.size false:=z8
 have up:∀c o,c≠z->g5.get? c=some o->g8.get? c=some o:=fun c o c1 e=>e8.extBut _ _ c1 (e7.extBut _ _ c1 (Heap.get?_push_of_some _ e))
 have t8:IsPair g8 g5.objs.size x y:=e8.extBut _ _ (Nat.ne_of_gt lz) (e7.extBut _ _ (Nat.ne_of_gt lz) (Heap.get?_push_size _ rfl))
 have s8:g8.objs.size=g5.objs.size+1:=by rw[e8.1,e7.1,Heap.size_push]
 rw[sz] at z8 t8 s8;refine wpAny_pure ⟨_,rfl,?_⟩
 show Q (.ref g5.objs.size) _
 rw[sz];exact hQ g8 z8 (up _ _ D.TOz to5) (j1.at fun o e=>up _ o D.i1z e) (j2.at fun o e=>up _ o D.i2z e) t8 s8 fun c o c1 c2 c3 c4 e=>up c o c1 (keep c o c1 c2 c3 c4 e)
theorem g10{z TI TO i1 i2 l1 l2:Addr}{v0:Value}{f:Bool}{k1 k2:Nat}{xs ys:Array Value}{a b:Value}{Q:Fin->Shared->Prop}(hh:A.handled=none)(D:ZipApart z TI TO i1 i2 l1 l2)
  (hz:wm0 s.heap z TI TO v0 f) (hfree:∀Q':Bool->Shared->Prop,Q' true s->wpAny (model prog w) A (Builtin.SmallTypes.ownedTupleIsFree (.ref z)) Q' E s) (hTI:IsPair s.heap TI (.ref i1) (.ref i2)) (hTO:IsPair s.heap TO a b)
  (h1:s.heap.IsListIter i1 l1 k1) (h2:s.heap.IsListIter i2 l2 k2) (hl1:s.heap.IsList l1 xs) (hl2:s.heap.IsList l2 ys) (hend:xs[k1]?=none∨ys[k2]?=none)
  (hE:∀h' e,(∀c o,c≠z->c≠TO->c≠i1->c≠i2->s.heap.get? c=some o->h'.get? c=some o)->(∃o,h'.get? e=some o/\o.cls=.type "StopIteration")->E (.ref e) { s with heap:=h' }) :
  wpAny (model prog w) A (Builtin.«zip.__next__» ⟨[.ref z],[]⟩) Q E s:=by
 show wpAny _ _ (field (.ref z) 2>>=_) _ _ _
 refine wpAny_bind (wpAny_field hz rfl (x:=.bool false) rfl ?_)
 show wpAny _ _ (field (.ref z) 3>>=_) _ _ _
 refine wpAny_bind (wpAny_field hz rfl (x:=.ref TI) rfl ?_)
 refine wpAny_bind (wpAny_seqItems hTI rfl ?_)
 show wpAny _ _ (Builtin.SmallTypes.ownedTupleIsFree (.ref z)>>=_) _ _ _
 refine wpAny_bind (hfree _ ?_)
 simp only[if_true];refine wpAny_bind (wpAny_rule ?_)
 refine wpAny_bind (wpAny_field hz rfl (x:=.ref TO) rfl ?_)
 refine wpAny_bind (wpAny_setField_rec hz (by simp) fun g1 zg1 e1=>?_)
 replace zg1:wm0 g1 z TI TO .ellipsis f:=zg1
 refine wpAny_bind ?_
 simp only[List.zipIdx_cons,List.zipIdx_nil,List.forIn_cons,List.forIn_nil];refine wpAny_bind (wpAny_bind (wpAny_onRaise ?_))
 show wpAny _ _ (Builtin.SmallTypes.nextOf (.ref i1)>>=_) _ _ _
 cases hx:xs[k1]? with
 | none =>
  refine wpAny_bind (wpAny_nextOf_list_end hh (h1.extBut e1.extBut D.i1z) (hl1.extBut e1.extBut D.l1z) hx fun g2 e e2 he=>?_)
  obtain⟨oe,hoe,hce⟩:=he;have z2:wm0 g2 z TI TO .ellipsis f:=e2 _ _ D.i1z.symm zg1;have hez:e≠z:=fun x=>by subst x; rw[z2] at hoe; cases hoe; simp at hce
  exact wpAny_setField_rec z2 (by simp) fun g3 _ e3=>hE g3 e (fun c o c1 _ c3 _ x=>e3.extBut _ _ c1 (e2 _ _ c3 (e1.extBut _ _ c1 x))) ⟨oe,e3.extBut _ _ hez hoe,hce⟩
 | some x =>
  have hy:ys[k2]?=none:=by rcases hend with h|h; rw[hx] at h; cases h; exact h
  refine wpAny_bind (wpAny_nextOf_list_item (h1.extBut e1.extBut D.i1z) (hl1.extBut e1.extBut D.l1z) hx fun g2 it1 e2=>wpAny_pure ?_)
  have to2:IsPair g2 TO a b:=e2.extBut _ _ D.TOi1 (e1.extBut _ _ D.TOz hTO)
  refine wpAny_bind (wpAny_seqItems to2 rfl ?_)
  refine wpAny_bind (wpAny_updateSeq_pair to2 fun g3 to3 e3=>?_)
  refine wpAny_bind (wpAny_letGo (wpAny_pure ?_))
  refine wpAny_bind (wpAny_bind (wpAny_onRaise ?_))
  show wpAny _ _ (Builtin.SmallTypes.nextOf (.ref i2)>>=_) _ _ _
  refine wpAny_bind (wpAny_nextOf_list_end hh (((h2.extBut e1.extBut D.i2z).extBut e2.extBut D.i12.symm).extBut e3.extBut D.TOi2.symm) (((hl2.extBut e1.extBut D.l2z).extBut e2.extBut D.l2i1).extBut e3.extBut D.l2TO) hy fun g4 e e4 he=>?_)
  obtain⟨oe,hoe,hce⟩:=he;have z4:wm0 g4 z TI TO .ellipsis f:=e4 _ _ D.i2z.symm (e3.extBut _ _ D.TOz.symm (e2.extBut _ _ D.i1z.symm zg1));have hez:e≠z:=fun x=>by subst x; rw[z4] at hoe; cases hoe; simp at hce
  exact wpAny_setField_rec z4 (by simp) fun g5 _ e5=>hE g5 e (fun c o c1 c2 c3 c4 x=>e5.extBut _ _ c1 (e4 _ _ c4 (e3.extBut _ _ c2 (e2.extBut _ _ c3 (e1.extBut _ _ c1 x))))) ⟨oe,e5.extBut _ _ hez hoe,hce⟩
theorem ps0{z TI TO:Addr}{f:Bool}{Q:Bool->Shared->Prop}(hz:wm0 s.heap z TI TO .none f)(hQ:Q true s):wpAny (model prog w) A (Builtin.SmallTypes.ownedTupleIsFree (.ref z)) Q E s:=by
 unfold Builtin.SmallTypes.ownedTupleIsFree;exact wpAny_bind (wpAny_field hz rfl (x:=.none) rfl (wpAny_pure hQ))
theorem Xy0{z TI TO:Addr}{v:Value}{f:Bool}{Q:Value->Shared->Prop}(hz:wm0 s.heap z TI TO v f)(h:Q (.ref z) s):wpAny (model prog w) A (pyIter (.ref z)) Q E s:=by
 have hT:s.TypeIs (.ref z) "zip" := ⟨_,hz,rfl⟩
 refine wpAny_pyIter_slot hT F.slot_zip_iter (wpAny_call_entry F.slot_zip_iter hT F.entry_zip_iter ?_ (F.args_zip_iter_1 _))
 exact wpAny_pure ⟨_,rfl, "zip",_,hT,F.slot_zip_next.lookup,h⟩
def ie0(h:Heap)(z TI TO:Addr):Prop:=∃v f,wm0 h z TI TO v f/\(v=.none∨∃a:Addr,v=rawInt a)
theorem h40{z TI TO i1 i2 l1 l2:Addr}{k1 k2:Nat}{xs ys:Array Value}{x y a b:Value}{Q:Option Value->Shared->Prop}(D:ZipApart z TI TO i1 i2 l1 l2)
  (hz:ie0 s.heap z TI TO) (hTI:IsPair s.heap TI (.ref i1) (.ref i2)) (hTO:IsPair s.heap TO a b)
  (h1:s.heap.IsListIter i1 l1 k1) (h2:s.heap.IsListIter i2 l2 k2) (hl1:s.heap.IsList l1 xs) (hl2:s.heap.IsList l2 ys) (hx:xs[k1]?=some x) (hy:ys[k2]?=some y)
  (hQ:∀h',ie0 h' z TI TO->(∃p q,IsPair h' TO p q)->h'.IsListIter i1 l1 (k1+1)->h'.IsListIter i2 l2 (k2+1)->IsPair h' s.heap.objs.size x y ->
   (∀c o,c≠z->c≠TO->c≠i1->c≠i2->s.heap.get? c=some o->h'.get? c=some o)->Q (some (.ref s.heap.objs.size)) { s with heap:=h' }) :
  wpAny (model prog w) A (pyNext (.ref z)) Q E s:=by
 obtain⟨v,f,hz,hv⟩:=hz;have hT:s.TypeIs (.ref z) "zip" := ⟨_,hz,rfl⟩;have again:(∀(E':Value->Shared->Prop) (A':Around) (Q':Bool->Shared->Prop),Q' true s->wpAny (model prog w) A' (Builtin.SmallTypes.ownedTupleIsFree (.ref z)) Q' E' s)->wpAny (model prog w) A (pyNext (.ref z)) Q E s:=fun hf=>by
  unfold pyNext;exact wpAny_bind (wpAny_attempt (wpAny_callSpecial?_slot (name:=Str.ofString "__next__") hT F.slot_zip_next
   (wpAny_call_entry F.slot_zip_next hT F.entry_zip_next
    (is0 D hz (fun Q' q=>hf _ _ Q' q) hTI hTO h1 h2 hl1 hl2 hx hy fun h' a1 a2 a3 a4 a5 a6 a7=>wpAny_pure (hQ h' ⟨_,_,a1,.inr ⟨_,rfl⟩⟩ ⟨_,_,a2⟩ a3 a4 a5 a7)) (F.args_zip_next_1 _))))
 rcases hv with rfl|⟨a0,rfl⟩
 ·exact again fun E' A' Q' q=>ps0 hz q
 ·cases e:s.heap.get? a0 with
  | none=>exact again fun E' A' Q' q=>oi0 hz e q
  | some oa =>
   exact qc0 D hz e hTI h1 h2 hl1 hl2 hx hy fun h' b1 b2 b3 b4 b5 b6=>hQ h' ⟨_,_,b1,.inr ⟨_,rfl⟩⟩ ⟨_,_,b6 _ _ D.TOz D.TOi1 D.TOi2 hTO⟩ b2 b3 b4 fun c o c1 _ c3 c4 q=>b6 c o c1 c3 c4 q
theorem qs0{z TI TO i1 i2 l1 l2:Addr}{k1 k2:Nat}{xs ys:Array Value}{a b:Value}{Q:Option Value->Shared->Prop}(hh:A.handled=none)(D:ZipApart z TI TO i1 i2 l1 l2)
  (hz:ie0 s.heap z TI TO) (hTI:IsPair s.heap TI (.ref i1) (.ref i2)) (hTO:IsPair s.heap TO a b)
  (h1:s.heap.IsListIter i1 l1 k1) (h2:s.heap.IsListIter i2 l2 k2) (hl1:s.heap.IsList l1 xs) (hl2:s.heap.IsList l2 ys) (hend:xs[k1]?=none∨ys[k2]?=none)
  (hQ:∀h',(∀c o,c≠z->c≠TO->c≠i1->c≠i2->s.heap.get? c=some o->h'.get? c=some o)->Q none { s with heap:=h' }):wpAny (model prog w) A (pyNext (.ref z)) Q E s:=by
 obtain⟨v,f,hz,hv⟩:=hz;have hT:s.TypeIs (.ref z) "zip" := ⟨_,hz,rfl⟩;have again:(∀(E':Value->Shared->Prop) (A':Around) (Q':Bool->Shared->Prop),Q' true s->wpAny (model prog w) A' (Builtin.SmallTypes.ownedTupleIsFree (.ref z)) Q' E' s)->wpAny (model prog w) A (pyNext (.ref z)) Q E s:=fun hf=>by
  unfold pyNext;refine wpAny_bind (wpAny_attempt (wpAny_callSpecial?_slot (name:=Str.ofString "__next__") hT F.slot_zip_next
   (wpAny_call_entry F.slot_zip_next hT F.entry_zip_next (g10 hh D hz (fun Q' q=>hf _ _ Q' q) hTI hTO h1 h2 hl1 hl2 hend fun h' e hk he=>?_) (F.args_zip_next_1 _))))
  obtain⟨o,ho,hc⟩:=he;refine wpAny_bind (wpAny_isInstance (T := "StopIteration") (b:=true) ⟨o,ho,hc⟩ isSubtype_stop ?_)
  exact wpAny_pure (hQ _ hk)
 rcases hv with rfl|⟨a0,rfl⟩
 ·exact again fun E' A' Q' q=>ps0 hz q
 ·cases e:s.heap.get? a0 with
  | none=>exact again fun E' A' Q' q=>oi0 hz e q
  | some oa=>exact um0 hh D hz e hTI h1 h2 hl1 hl2 hend fun h' hk=>hQ h' fun c o c1 _ c3 c4 q=>hk c o c1 c3 c4 q
end
end ZipL
namespace L2
open PySem PySem.Spec PyProof.Rows
theorem f80{P:Program}{w:World}{K:W.Frag}{nx:Str}{pos:Pos}{z TI TO i1 i2 a b:Addr}(D:ZipApart z TI TO i1 i2 a b):Turn P w K (.Name nx pos) (Itz K a b) [z,TI,TO,i1,i2] z
  (fun i h=>ZipL.ie0 h z TI TO/\IsPair h TI (.ref i1) (.ref i2)/\(∃p q,IsPair h TO p q)/\h.IsListIter i1 a i/\h.IsListIter i2 b i) where
 mem:=by simp
 obj:=fun i h st c hc=>by
  obtain⟨⟨v,f,hz,_⟩,hTI,⟨p,q,hTO⟩,⟨o1,e1,c1,d1⟩,⟨o2,e2,c2,d2⟩⟩:=st;simp only[List.mem_cons,List.not_mem_nil,or_false] at hc;rcases hc with rfl|rfl|rfl|rfl|rfl
  ·exact⟨_,hz,fun v z=>nomatch z⟩
  ·exact⟨_,hTI,fun v z=>nomatch z⟩
  ·exact⟨_,hTO,fun v z=>nomatch z⟩
  ·exact⟨_,e1,fun v z=>by rw[d1] at z; cases z⟩
  ·exact⟨_,e2,fun v z=>by rw[d2] at z; cases z⟩
 keep:=fun i h h' st k=>by
  obtain⟨⟨v,f,hz,hv⟩,hTI,⟨p,q,hTO⟩,h1,h2⟩:=st;exact⟨⟨v,f,k z (by simp) _ hz,hv⟩,k TI (by simp) _ hTI,⟨p,q,k TO (by simp) _ hTO⟩,h1.at fun o e=>k i1 (by simp) o e,h2.at fun o e=>k i2 (by simp) o e⟩
 item:=by
  intro X hP hw hK hc i pins s σ H E I hf st hg;subst hP hw hK;obtain⟨hz,hTI,⟨p,q,hTO⟩,h1,h2⟩:=st;obtain⟨xs,ys,x,y,hq1,hq2,hx,hy⟩:=hg;obtain⟨us,rv1,p1,z1⟩:=I.list hq1;obtain⟨ws,rv2,p2,z2⟩:=I.list hq2;obtain⟨u,hu,ru⟩:=rv1.get hx;obtain⟨w,hw,rw'⟩:=rv2.get hy;refine ZipL.h40 D hz hTI hTO h1 h2 p1.isList p2.isList (x:=u) (y:=w) (by simpa using hu) (by simpa using hw) fun h' a1 a2 a3 a4 a5 hk=>?_
  refine⟨_,rfl,?_⟩
  unfold letOwnedTupleGo;refine wpAny_pure ?_
  have lt:∀{c o},s.heap.get? c=some o->c<s.heap.objs.size:=fun e=>Heap.lt_size e
  obtain⟨v0,f0,hz0,_⟩:=id hz;have lz:=lt hz0;have lTO:=lt hTO;have lTI:=lt hTI;obtain⟨o1,e1,_⟩:=id h1;obtain⟨o2,e2,_⟩:=id h2;have l1:=lt e1;have l2:=lt e2;obtain⟨I1,fr⟩:=I.turnedNew (h':=h') (t':=s.toks) (fp:=[z,TI,TO,i1,i2]) hf ru rw' (fun c hc=>by
   simp only[List.mem_cons,List.not_mem_nil,or_false] at hc;rcases hc with rfl|rfl|rfl|rfl|rfl<;>assumption) a5 (fun c o hc e=>by
   simp only[List.mem_cons,List.not_mem_nil,or_false,not_or] at hc;exact hk c o hc.1 hc.2.2.1 hc.2.2.2.1 hc.2.2.2.2 e)
  exact⟨.ref s.heap.objs.size,_,I1,rfl,⟨_,x,y,rfl,I.hok.fresh (Nat.le_refl _),rfl,fun ys hy'=>by rw[I.list_inj hy' hq1]; exact hx,fun ys' hy'=>by rw[I.list_inj hy' hq2]; exact hy⟩,
   ⟨a1,hk _ _ D.TIz D.TITO D.TIi1 D.TIi2 hTI,a2,a3,a4⟩,fr⟩
 done:=by
  intro X hP hw hK hc i pins s σ H E I hf st hg;subst hP hw hK;obtain⟨hz,hTI,⟨p,q,hTO⟩,h1,h2⟩:=st;obtain⟨xs,ys,hq1,hq2,hend⟩:=hg;obtain⟨us,rv1,p1,z1⟩:=I.list hq1;obtain⟨ws,rv2,p2,z2⟩:=I.list hq2;have l1:=rv1.length;have l2:=rv2.length;refine ZipL.qs0 (I.ok.hd hc) D hz hTI hTO h1 h2 p1.isList p2.isList (hend.imp (fun h=>by simp; omega) fun h=>by simp; omega) fun h' hk=>⟨rfl,I.turnedL (t':=s.toks) (fp:=[z,TI,TO,i1,i2]) hf fun c o hc e=>?_⟩
  simp only[List.mem_cons,List.not_mem_nil,or_false,not_or] at hc;exact hk c o hc.1 hc.2.2.1 hc.2.2.2.1 hc.2.2.2.2 e
 self:=fun _ _ _ _ _ st h=>by
  obtain⟨⟨v,f,hz,_⟩,_⟩:=st;exact ZipL.Xy0 hz h
section
variable{X:Cx}{nx:Str}{tpos:Pos}
theorem bk0{a b:Expr}{ta:TA}{p pos:Pos}(hg:Gl X "zip")(hm:X.mg "zip"=none)(ha:PA X [a,b] ta)(hs:starEach [a,b] X.env=[(false,eval a X.env),(false,eval b X.env)]:=by rfl)(hs2:starEach [b] X.env=[(false,eval b X.env)]:=by rfl) :
  PI X (.Name nx tpos) (.Call (.Name "zip" p) [a,b] [] pos) (Yx0 X.K ta):=by
 intro pins s σ H R I h;refine Call_ (N5 I hg hm boot_zip (PyProof.Rows.callWith_type1 (thn (ha pos pins s σ H _ I h) fun us s1 ⟨vs,H1,I1,r1,q1⟩=>?_) (by rw[hs,hs2]) (by rw[hs2]; rfl)))
 obtain⟨qa,qb,e,⟨xs,h1⟩,⟨ys,h2⟩,q⟩:=q1;subst e
 cases r1 with
 | cons r rr =>
  cases rr with
  | cons r' rr =>
   cases rr;obtain rfl:=r;obtain rfl:=r';obtain⟨us1,v1,p1,z1⟩:=I1.list h1;obtain⟨us2,v2,p2,z2⟩:=I1.list h2;have a1:qa<s1.heap.objs.size:=by obtain⟨_,e,_⟩:=p1.isList; exact Heap.lt_size e
   have a2:qb<s1.heap.objs.size:=by obtain⟨_,e,_⟩:=p2.isList; exact Heap.lt_size e
   refine call_zip_2 p1.isList p2.isList fun h' hz hTI hTO hi1 hi2 hsz hk=>?_
   refine wpAny_pyIter_zip (s:={ s1 with heap:=h' }) hz ?_
   refine⟨_,_,_,_,H1,rfl,I1.kept (t':=s1.toks) hk,f80 (zipApart_new a1 a2),⟨⟨_,_,hz,.inl rfl⟩,hTI,⟨_,_,hTO⟩,hi1,hi2⟩,fun b hb=>?_,q⟩
   simp only[List.mem_cons,List.not_mem_nil,or_false] at hb;rcases hb with rfl|rfl|rfl|rfl|rfl
   ·exact I1.fpOk (Nat.le_add_right _ 4) (I1.hok.fresh (Nat.le_add_right _ 4))
   ·exact I1.fpOk (Nat.le_add_right _ 2) (I1.hok.fresh (Nat.le_add_right _ 2))
   ·exact I1.fpOk (Nat.le_add_right _ 3) (I1.hok.fresh (Nat.le_add_right _ 3))
   ·exact I1.fpOk (Nat.le_refl _) (I1.hok.fresh (Nat.le_refl _))
   ·exact I1.fpOk (Nat.le_add_right _ 1) (I1.hok.fresh (Nat.le_add_right _ 1))
end
end L2
namespace DL
open PySem PySem.Spec PyProof.Rows L2
section
variable{X:Cx}{nx:Str}{tpos:Pos}{a b:Expr}{p pos:Pos}{gA:Ds->Option (List D)}
theorem d00(hm:X.mg "zip"=none)(ha:PDA X [a,b] gA)(hg:Gl X "zip" := by rfl)(hs:starEach [a,b] X.env=[(false,eval a X.env),(false,eval b X.env)]:=by rfl)(hs2:starEach [b] X.env=[(false,eval b X.env)]:=by rfl) :
  PID X (.Name nx tpos) (.Call (.Name "zip" p) [a,b] [] pos) (vg0 gA):=.mk fun B δ=>L2.PI.imp (bk0 hg hm (ha B δ) hs hs2) fun σ H R ⟨items,en,e1,k⟩=>by
 unfold vg0 at e1
 cases e2:gA δ with
 | none=>rw[e2] at e1; cases e1
 | some ds =>
  rw[e2] at e1;simp only[Option.bind_some] at e1;unfold ig0 at e1;split at e1<;>try cases e1
  rename_i ds es;refine⟨_,en,e2,fun vs H' s' r=>?_⟩
  rw[o4] at r;obtain⟨x,t,rfl,r1,r⟩:=r;rw[o4] at r;obtain⟨y,t,rfl,r2,r⟩:=r;rw[o8] at r; subst r;rw[Z5] at r1 r2;obtain⟨q1,us,rfl,s1,t1⟩:=r1;obtain⟨q2,ws,rfl,s2,t2⟩:=r2;have hlen:((ds.zip es).map fun p=>D.tup [p.1,p.2]).length=min us.length ws.length:=by rw[List.length_map,List.length_zip,t1.length,t2.length]
  refine⟨q1,q2,rfl,⟨us,s1.to⟩,⟨ws,s2.to⟩,k _ H' s' ⟨fun i H2 g2 hi=>?_,fun i H2 v H3 g2 y hi=>?_,fun i H2 g2 hi=>?_⟩⟩
  ·rw[hlen] at hi
   have h1:i<us.length:=by omega
   have h2:i<ws.length:=by omega
   exact⟨us,ws,us[i],ws[i],(s1.mono g2).to,(s2.mono g2).to,by simp[h1],by simp[h2]⟩
  ·obtain⟨t,x,y,rfl,ht,rfl,hx,hy⟩:=y
   rw[List.length_map,List.length_zip] at hi;have h1:i<ds.length:=by omega
   have h2:i<es.length:=by omega
   obtain⟨x',e4,rx⟩:=t1.get (i:=i) (List.getElem?_eq_getElem h1)
   obtain⟨y',e5,ry⟩:=t2.get (i:=i) (List.getElem?_eq_getElem h2)
   have ex:=hx us (s1.mono g2).to
   have ey:=hy ws (s2.mono g2).to
   rw[e4] at ex;rw[e5] at ey;cases ex;cases ey;refine⟨Z1 ht,.tup [ds[i],es[i]],by rw[List.getElem?_map,show (ds.zip es)[i]?=some (ds[i],es[i]) from List.getElem?_zip_eq_some.mpr ⟨List.getElem?_eq_getElem h1,List.getElem?_eq_getElem h2⟩]; rfl,fun B' gB hb=>?_⟩
   exact p40 (fun z=>hb t z ht) j7 (rx.mono gB) (ry.mono gB)
  ·rw[hlen] at hi
   exact⟨us,ws,(s1.mono g2).to,(s2.mono g2).to,by omega⟩
end
end DL
namespace L2
open PySem PySem.Spec PyProof.Rows
section
variable{X:Cx}{pins:List (Addr×Obj)}{σ:List (Option V)}{A:Around}{E:Value->Shared->Prop}
theorem d70{s:Shared}{H:Hp}{d b:Addr}{kvs:List (List Key×V)}{k:List Key}{v:V}{r:Value}{Q:Unit->Shared->Prop}(hu:A.units+1<cLine)(I:Inv X pins σ H s)(e:H d=some (.dT kvs))(eb:H b=some (.tup (k.map kV)))(l:kvs.length<sizeLine)(rv:RelV v r)
  (h:∀h' tk,Inv X pins σ (upd H d (.dT (putK kvs k v))) { s with heap:=h',toks:=tk }->Heap.SameBut d s.heap h'->Q () { s with heap:=h',toks:=tk }) :
  wpAny (model X.prog X.w) A.in1 (dictSet d (.ref b) r) Q E s:=by
 obtain⟨z,hd,xs,rel,dd⟩:=cr0 I.hok e;have hz:xs.length<=sizeLine:=by rw[← Paired.length rel]; exact z
 have hl:(putK kvs k v).length<=sizeLine:=by have:=w00 kvs k v; omega
 refine wpAny_dictSet_heap (hsz:=hz) (knd:=tupleKind (P0 X.prog X.w)) (tupleKind_room_in1 hu) (tu0 I.hok eb) dd fun h' dd' hs=>h _ _ ?_ hs
 obtain⟨q,es,ep,hq,h2,h3,h4,_,h5⟩:=dd';refine qt0 I (by rw[e]; exact True.intro) hs ⟨q,hq⟩ ⟨hl,hd,_,(rel.put k eb rv).keeps fun c ys ec=>?_,q,es,ep,hq,h2,h3,h4,h5⟩
 rw[Y5 (qk0 ec e (fun z=>nomatch z))]
 exact ec
structure PKV where
 p:Addr
 b:Addr
 k:List Key
 v:V
def PKV.ok(H:Hp)(x:PKV):Prop:=H x.p=some (.tup [.ref x.b,x.v])/\H x.b=some (.tup (x.k.map kV))
def putAll(kvs:List (List Key×V))(ps:List PKV):List (List Key×V):=ps.foldl (fun acc x=>putK acc x.k x.v) kvs
theorem t50:plainId "dict.update.loop"=true:=by decide +kernel
theorem mj0:entryFor table "dict.update.loop"=some Builtin.«dict.update.loop»:=entryFor_of_fast (by kernel_rfl)
theorem ho0{it l d:Addr}(hh:A.handled=none)(hu:A.units+1<cLine){R:Result->Shared->Prop}{ps:List PKV}(n:Nat):∀(i:Nat) (s:Shared) (H:Hp) (kvs:List (List Key×V)),ps.length - i=n->i<=ps.length->Inv X pins σ H s->vl0 X pins H it->it≠d->it≠l->s.heap.IsListIter it l i ->
  SqL X.K H l (ps.map fun x=>V.ref x.p)->(∀x∈ps,x.ok H)->H d=some (.dT kvs)->kvs.length+(ps.length - i)<=sizeLine ->
  (∀s',Inv X pins σ (upd H d (.dT (putAll kvs (ps.drop i)))) s'->R (.ok (.ret .none)) s') ->
  wpAny (model X.prog X.w) A.in1 (Builtin.«dict.update.loop» ⟨[.ref d,.ref it,rawInt i,.none],[]⟩) (fun fin s'=>match fin with|.done f=>R (.ok f) s'|.again c'=>c'.quiet=true/\codeAny (model X.prog X.w) A c' R s') (fun e s'=>R (.error e) s') s:=by
 induction n with
 | zero =>
  intro i s H kvs hn hi I hf hid hil hit hl hp hd hz hR;obtain⟨its,rv,pl,_⟩:=I.list hl;have hlen:=rv.length;rw[List.length_map] at hlen;unfold Builtin.«dict.update.loop»;refine wpAny_bind (wpAny_pyNext_list_end hh hit pl.isList (by simp; omega) fun h' hk=>?_)
  have I1:Inv X pins σ H { s with heap:=h' }:=I.turnedL (t':=s.toks) (fp:=[it]) (fun b hb=>by rw[List.mem_singleton.mp hb]; exact hf) fun b o hb e=>hk _ _ (fun z=>hb (by simp[z])) e
  have e:ps.drop i=[]:=by rw[List.drop_eq_nil_iff]; omega
  rw[e] at hR;have:=hR _ (show Inv X pins σ (upd H d (.dT (putAll kvs []))) { s with heap:=h' } from by
   rw[show upd H d (.dT (putAll kvs []))=H from by funext c; by_cases q:c=d<;>simp[upd,q,putAll,hd]]
   exact I1)
  exact wpAny_bind (wpAny_pure (wpAny_pure this))
 | succ n ih =>
  intro i s H kvs hn hi I hf hid hil hit hl hp hd hz hR;obtain⟨its,rv,pl,_⟩:=I.list hl;have hlt:i<ps.length:=by omega
  obtain⟨x,hx⟩:∃x,ps[i]?=some x:=⟨ps[i],by simp[hlt]⟩
  have hxm:x∈ps:=List.mem_of_getElem? hx
  obtain⟨hx1,hx2⟩:=hp x hxm;obtain⟨u,hu1,ru⟩:=rv.get (show (ps.map fun x=>V.ref x.p)[i]?=some (.ref x.p) by rw[List.getElem?_map,hx]; rfl)
  cases (show u=Value.ref x.p from ru);unfold Builtin.«dict.update.loop»;refine wpAny_bind (wpAny_pyNext_list_item hit pl.isList (by simpa using hu1) fun h' hit' hs=>?_)
  have I1:Inv X pins σ H { s with heap:=h' }:=I.turnedL (t':=s.toks) (fp:=[it]) (fun b hb=>by rw[List.mem_singleton.mp hb]; exact hf) fun b o hb e=>hs.extBut _ _ (fun z=>hb (by simp[z])) e
  obtain⟨its2,rv2,ip,_⟩:=I1.tuple (SqT.of hx1)
  cases rv2 with
  | cons r1 rr =>
   cases rr with
   | cons r2 rr =>
    cases rr;cases r1;obtain⟨o,ho,hc,nn,hdat⟩:=id ip;rename_i rv0;refine wpAny_bind (wpAny_holding ?_)
    refine wpAny_bind (wpAny_tryCatch ?_)
    unfold Builtin.Dict.pairItems;refine wpAny_bind (wpAny_typeOf (show Shared.TypeIs _ (.ref x.p) "tuple" from ⟨o,ho,hc⟩) ?_)
    rw[if_pos (by decide)]
    refine wpAny_bind (wpAny_seqItems ho hdat (wpAny_pure ?_))
    show wpAny _ _ (holding [.ref x.b,rv0] (dictSet d (.ref x.b) rv0)) _ _ _
    refine wpAny_holding (d70 (A:=A) hu I1 hd hx2 (by omega) r2 fun h2 tk I2 hs2=>?_)
    have hpd:∀(c:Addr) (us:List V),H c=some (.tup us)->upd H d (.dT (putK kvs x.k x.v)) c=some (.tup us):=fun c us ec=>by
     rw[Y5 (qk0 ec hd (fun z=>nomatch z))]; exact ec
    have hc':((i:Int)+1)=((i+1:Nat):Int):=by push_cast; rfl
    refine wpAny_pure ⟨plainId_quiet t50 _,?_⟩
    rw[hc'];refine codeAny_builtin mj0 ?_
    rw[Around.under_plainId t50 _];have hdl:l≠d∨True:=.inr trivial;refine ih (i+1) _ (upd H d (.dT (putK kvs x.k x.v))) (putK kvs x.k x.v) (by omega) (by omega) I2 ⟨by rw[Y5 hid]; exact hf.1,hf.2⟩ hid hil (hit'.extBut hs2.extBut hid) ?_ (fun y hy=>⟨hpd _ _ (hp y hy).1,hpd _ _ (hp y hy).2⟩) j7 (by have:=w00 kvs x.k x.v; omega) fun s' I'=>hR s' ?_
    ·rcases hl with (hl|⟨o',hl⟩)|hl
     ·exact .inl (.inl (by rw[Y5 (qk0 hl hd (fun z=>nomatch z))]; exact hl))
     ·exact .inl (.inr ⟨o',by rw[Y5 (qk0 hl hd (fun z=>nomatch z))]; exact hl⟩)
     ·exact .inr hl
    ·have e1:upd (upd H d (.dT (putK kvs x.k x.v))) d (.dT (putAll (putK kvs x.k x.v) (ps.drop (i+1))))=upd H d (.dT (putAll kvs (ps.drop i))):=by
      have e2:ps.drop i=x::ps.drop (i+1):=by
       rw[List.drop_eq_getElem_cons hlt];have:ps[i]=x:=by
        have:=hx
        rw[List.getElem?_eq_getElem hlt] at this
        exact Option.some.inj this
       rw[this]
      rw[e2]
      funext c
      by_cases q:c=d<;>simp[upd,q,putAll]
     rw[← e1];exact I'
end
theorem ga0:typeLookup (.type "list") "keys"=pure none:=by rw[typeLookup_type,builtinLookup_eq_fast]; kernel_rfl
theorem f50{prog:Program}{w:World}{A:Around}{E:Value->Shared->Prop}{s:Shared}{a:Addr}{o:Obj}{xs:Array Value}{k:Nat}{Q:Option Value->Shared->Prop}
  (hx:s.heap.get? a=some o) (hc:o.cls=.type "list") (hdat:o.data=.seq xs k) (hd:o.dict=none) (hA:A.handled=none)
  (h:∀h' tk,(∀b ob,s.heap.get? b=some ob->h'.get? b=some ob)->Q none { s with heap:=h',toks:=tk }) :
  wpAny (model prog w) A (getAttr? (.ref a) "keys") Q E s:=by
 obtain⟨c,dct,dat,sl⟩:=o;simp only at hc hdat hd;subst hc hdat hd;obtain⟨hp,g,d,tk,os⟩:=s;have hT:∀tk',(⟨hp,g,d,tk',os⟩:Shared).TypeIs (.ref a) "list" := fun _=>⟨_,hx,rfl⟩
 have f1:=sub_AttributeError
 have f3:=PySem.F.slot_list_getattribute.lookup
 have f4:=PySem.F.slot_list_getattribute.bind (.ref a)
 have f5:=am_list_getattr_none
 unfold getAttr? getAttrBy? getAttrBy
 repeat (any_goals (first|assumption|exact hT _|((with_reducible show wpAny _ _ (call (Value.builtin "list.__getattribute__") _ _) _ _ _); refine call_meets PySem.F.slot_list_getattribute (hT _) am_entry_list_getattribute (PySem.F.args_list_getattribute_2 _ _) (meets_getattribute_miss_list a xs k sl "keys" _ ga0 (by decide +kernel)) ⟨hx,hA,fun h' tk' e hx'=>?_⟩)|wp_step))
 obtain⟨t',u',he⟩:=hx'.there;show wpAny _ _ (getattributeRaised _ _ _ _ _ _ _) _ _ _;unfold getattributeRaised
 repeat (any_goals (first|assumption|wp_step))
 exact h _ _ hx'.keeps
def Yb0(K:W.Frag):List V->Hp->VK->Prop:=fun vs H Q=>∃l ps,vs=[.ref l]/\SqL K H l (ps.map fun x:PKV=>V.ref x.p)/\(∀x∈ps,x.ok H)/\ps.length<=sizeLine/\∀d,H d=none->Q (.ref d) (upd H d (.dT (putAll [] ps)))
theorem h20{X:Cx}(hu:X.A.units+2<cLine)(hcalm:X.calm=true:=by rfl):CallR X (.type "dict") (Yb0 X.K):=by
 intro pins s σ H vs us Q I r h;obtain⟨l,ps,rfl,hl,hp,hz,k⟩:=h
 cases r with
 | cons r rr =>
  cases rr;obtain rfl:=r;have hb:sysModules<s.heap.objs.size:=Nat.lt_trans (by decide) ((I.mod.glob.keeps I.bk).lt:mainGlobals<s.heap.objs.size)
  have hf:H s.heap.objs.size=none:=I.hok.fresh (Nat.le_refl _)
  refine callType_codes (Q₁:=fun obj s₁=>obj=.ref s.heap.objs.size/\s₁={ s with heap:=s.heap.push { cls:=.type "dict",data:=.dict #[] } }) PySem.F.kt_called_dict (PySem.F.kt_typeCall_dict_1 _) PySem.F.entry_dict_init (kt_code_dict_new _ ⟨rfl,rfl⟩) ?_
  rintro obj s₁ ⟨rfl,rfl⟩
  have I1:Inv X pins σ (upd H s.heap.objs.size (.dT [])) { s with heap:=s.heap.push { cls:=.type "dict",data:=.dict #[] } }:=I.laid (a:=s.heap.objs.size) (o:=.dT []) (t':=s.toks) (fun _ _ q=>Heap.get?_push_of_some _ q) (Nat.le_refl _) (ek0 s.heap hb)
  have hT:Shared.TypeIs { s with heap:=s.heap.push { cls:=.type "dict",data:=.dict #[] } } (.ref s.heap.objs.size) "dict" := ⟨_,Heap.get?_push_size _ rfl,rfl⟩
  have hdne:∀(c:Addr) (o:HO),H c=some o->upd H s.heap.objs.size (.dT []) c=some o:=fun c o e=>by rw[Y5 (M8 e hf)]; exact e
  have hl1:SqL X.K (upd H s.heap.objs.size (.dT [])) l (ps.map fun x:PKV=>V.ref x.p):=by
   rcases hl with (hl|⟨o',hl⟩)|hl
   ·exact .inl (.inl (hdne _ _ hl))
   ·exact .inl (.inr ⟨o',hdne _ _ hl⟩)
   ·exact .inr hl
  obtain⟨its,rv,⟨ol,nl,hol,hcl,hdl,hdat⟩,_⟩:=I1.list hl1;refine⟨hT,PySem.F.args_dict_init_2 _ _,?_⟩
  unfold Builtin.«dict.__init__»;refine wpAny_bind ?_
  unfold Builtin.Dict.selfAndRest;refine wpAny_bind (wpAny_notOrdered_dict hT ?_)
  show wpAny _ _ (pure (s.heap.objs.size,[Value.ref l])) _ _ _
  refine wpAny_pure ?_
  show wpAny _ _ (Builtin.Dict.updateFrom "dict.__init__" s.heap.objs.size (.ref l) [] .none) _ _ _
  unfold Builtin.Dict.updateFrom;refine wpAny_bind (wpAny_typeOf (show Shared.TypeIs _ (.ref l) "list" from ⟨ol,hol,hcl⟩) ?_)
  rw[if_pos (by decide)]
  refine wpAny_bind (f50 hol hcl hdat hdl (I.ok.hd hcalm) fun h1 tk1 k1=>?_)
  simp only[Option.isNone_none,if_true];have I2:Inv X pins σ (upd H s.heap.objs.size (.dT [])) { s with heap:=h1,toks:=tk1 }:=I1.kept (t':=tk1) k1
  obtain⟨its2,rv2,pl2,_⟩:=I2.list hl1;refine wpAny_bind (wpAny_rule (wpAny_bind (wpAny_pyIter_list (s:={ s with heap:=h1,toks:=tk1 }) pl2.isList ?_)))
  refine wpAny_pure ⟨plainId_quiet t50 _,codeAny_builtin mj0 ?_⟩
  rw[Around.under_plainId t50 _];have I3:Inv X pins σ (upd H s.heap.objs.size (.dT [])) { s with heap:=h1.push { cls:=.type "list_iterator",data:=.fields #[.ref l,.int 0 0] },toks:=tk1 }:=I2.kept (t':=tk1) fun b o e=>Heap.get?_push_of_some _ e
  have lts:s.heap.objs.size<h1.objs.size:=Heap.lt_size (k1 _ _ (Heap.get?_push_size _ rfl))
  have hln:h1.objs.size≠l:=by
   obtain⟨ol2,nl2,hol2,_⟩:=pl2;exact Nat.ne_of_gt (Heap.lt_size hol2)
  have hfr:upd H s.heap.objs.size (.dT []) h1.objs.size=none:=I2.hok.fresh (Nat.le_refl _)
  refine ho0 (X:=X) (pins:=pins) (σ:=σ) (A:=X.A.in1) (it:=h1.objs.size) (l:=l) (d:=s.heap.objs.size) (ps:=ps) (I.ok.hd hcalm) (show X.A.units+1+1<cLine by omega) ps.length 0 _ _ [] (by omega) (Nat.zero_le _) I3 (I2.fpOk (Nat.le_refl _) hfr) (Nat.ne_of_gt lts) hln ?_ hl1 (fun x hx=>⟨hdne _ _ (hp x hx).1,hdne _ _ (hp x hx).2⟩) j7 (by simpa using hz) fun s' I'=>⟨rfl,?_⟩
  ·exact⟨_,Heap.get?_push_size _ rfl,rfl,rfl⟩
  ·refine⟨.ref s.heap.objs.size,_,I',rfl,?_⟩
   have e:upd (upd H s.heap.objs.size (.dT [])) s.heap.objs.size (.dT (putAll [] (ps.drop 0)))=upd H s.heap.objs.size (.dT (putAll [] ps)):=by
    funext c
    by_cases q:c=s.heap.objs.size<;>simp[upd,q]
   rw[e];exact k _ hf
end L2
namespace DL
open PySem PySem.Spec PyProof.Rows L2
def R6:List (List K9)->List D->List D->Option (List (List K9)×List D)
 | ks,vs,[]=>some (ks,vs)
 | ks,vs,.tup [a,b]::r=>(yy0 a).bind fun k=>R6 (J5 ks k) (z80 ks vs k b) r
 | _,_,_=>none
def qe0:List D->Option D
 | [.lst ds]=>if ds.length<=sizeLine then (R6 [] [] ds).map fun r=>.dct (.inr r.1) r.2 else none
 | _=>none
section
variable{K:W.Frag}{H:Hp}{B:BS}
theorem km0{ks:List (List K9)}{vs:List D}{d:D}{ds:List D}{r:List (List K9)×List D}(e:R6 ks vs (d::ds)=some r):∃a b k,d=.tup [a,b]/\yy0 a=some k/\R6 (J5 ks k) (z80 ks vs k b) ds=some r:=by
 cases d with
 | tup l =>
  match l,e with
  | [],e=>simp[R6] at e
  | [_],e=>simp[R6] at e
  | [a,b],e =>
   unfold R6 at e
   cases h:yy0 a with
   | none=>rw[h] at e; cases e
   | some k=>rw[h] at e; exact⟨a,b,k,rfl,h,e⟩
  | _::_::_::_,e=>simp[R6] at e
 | non=>simp[R6] at e
 | bl _=>simp[R6] at e
 | int _=>simp[R6] at e
 | str _=>simp[R6] at e
 | lst _=>simp[R6] at e
 | dct _ _=>simp[R6] at e
theorem q10:∀{ds:List D} {xs:List V} {ks:List (List K9)} {vs:List D} {ws:List V} {r:List (List K9)×List D},Rps K H B ds xs->Rps K H B vs ws->ks.length=ws.length->R6 ks vs ds=some r ->
  ∃ps:List PKV,xs=ps.map (fun x=>V.ref x.p)/\(∀x∈ps,x.ok H)/\∃ws',putAll (ks.zip ws) ps=r.1.zip ws'/\r.1.length=ws'.length/\Rps K H B r.2 ws'
 | [],xs,ks,vs,ws,r,h1,h2,hl,e=>by
  unfold R6 at e;cases e;rw[o8] at h1;exact⟨[],h1,(fun x hx=>by cases hx),ws,rfl,hl,h2⟩
 | d::ds,xs,ks,vs,ws,r,h1,h2,hl,e=>by
  rw[o4] at h1;obtain⟨x,t,rfl,hx,ht⟩:=h1;obtain⟨a,b,k,rfl,e1,e⟩:=km0 e;rw[X4] at hx;obtain⟨p,ys,rfl,hq,hys⟩:=hx;rw[o4] at hys;obtain⟨y1,t1,rfl,hy1,hys⟩:=hys;rw[o4] at hys;obtain⟨y2,t2,rfl,hy2,hys⟩:=hys;rw[o8] at hys;subst hys;obtain⟨kb,rfl,hkb⟩:=mz0 e1 hy1;obtain⟨zs,hz1,hz2,hz3,hz4⟩:=jd0 (q:=k) (v:=y2) hl;have rr:Rps K H B (z80 ks vs k b) zs:=by
   unfold z80
   cases hk:M9 ks k with
   | true=>rw[if_pos rfl,hz3 hk]; exact t80 hy2 h2
   | false=>rw[if_neg (by simp),hz4 hk]; exact Rps.snoc h2 hy2
  obtain⟨ps,q1,q2,ws',q3,q4,q5⟩:=q10 ht rr hz2 e;refine⟨⟨p,kb,k,y2⟩::ps,by rw[q1]; rfl,fun x hx=>?_,ws',?_,q4,q5⟩
  ·rcases List.mem_cons.mp hx with rfl|hx
   ·exact⟨hq.2,hkb⟩
   ·exact q2 x hx
  ·show putAll (putK (ks.zip ws) k y2) ps=_
   rw[hz1];exact q3
end
section
variable{X:Cx}{e:Expr}{pos p:Pos}{g:Ds->Option D}
theorem fe0(hu:X.A.units+2<cLine)(hcalm:X.calm=true)(hm:X.mg "dict"=none)(hv:bootBuiltins "dict"=some (.type "dict"))(ha:PD X e g)(hg:Gl X "dict" := by rfl)
  (he:starEach [e] X.env=(false,eval e X.env)::starEach [] X.env:=by rfl) (hpl:(backTo pos (starEach [] X.env)).any (·.1)=false:=by rfl) :
  PDF X (.Call (.Name "dict" p) [e] [] pos) (oA (z9 g v7) qe0):=.mk fun B δ=>(u40 (h20 hu hcalm) hg hm hv (z00 (ha B δ) yj0 he) (by decide) (by decide) he hpl).imp fun σ H Q ⟨d,en,h,k⟩=>by
 unfold oA z9 v7 at h
 cases e1:g δ with
 | none=>rw[e1] at h; cases h
 | some x =>
  rw[e1] at h;simp only[Option.bind_some,Option.map_some] at h;refine⟨x,en,e1,fun v H1 s1 r1=>?_⟩
  unfold qe0 at h;split at h
  ·rename_i ds he1
   injection he1 with he1
   subst he1;split at h
   ·rename_i hz
    cases e2:R6 [] [] ds with
    | none=>rw[e2] at h; cases h
    | some r =>
     rw[e2] at h;cases h;rw[Z5] at r1;obtain⟨q,xs,rfl,hq,rr⟩:=r1;obtain⟨ps,q1,q2,ws,q3,q4,q5⟩:=q10 rr (ks:=[]) (vs:=[]) (ws:=[]) (by rw[o8]) rfl e2
     refine⟨q,ps,rfl,by rw[← q1]; exact hq.to,q2,by have:=rr.length; rw[q1,List.length_map] at this; omega,fun l hl'=>?_⟩
     have q3:putAll [] ps=r.1.zip ws:=q3
     rw[q3];exact k l _ (s1.free hl') (s1.trans (Z1 hl')) ⟨ws,j7,q4,q5.mono (Gr.fresh hl')⟩
   ·cases h
  ·cases h
end
end DL
namespace L2
open PySem PySem.Spec PyProof.Rows
section
variable{X:Cx}{pins:List (Addr×Obj)}{σ:List (Option V)}{A:Around}{E:Value->Shared->Prop}
end
end L2
namespace DL
open PySem PySem.Spec PyProof.Rows L2
section
variable{K:W.Frag}{H:Hp}{B:BS}{σ:St}{δ:Ds}
end
section
variable{X:Cx}{ke ve:Expr}{pos:Pos}{gk gv:Ds->Option D}
end
section
variable{X:Cx}{e:Expr}{pos pos':Pos}{g:Ds->Option D}{x:Str}
end
def flats(ds:List D):Bool:=ds.all flat
def m90(g:GE):GE:=fun δ=>(g (frz δ)).bind fun d=>match d with
 | .lst ds=>if flats ds=true then some (.lst ds) else none
 | _=>none
theorem bw0{g:GE}{δ:Ds}{ds:List D}(h:g (frz δ)=some (.lst ds))(hf:flats ds=true):m90 g δ=some (.lst ds):=by
 unfold m90;rw[h,Option.bind_some];simp only[];rw[if_pos hf]
section
variable{X:Cx}{e:Expr}{g:GE}{pos:Pos}
theorem o30{K:W.Frag}{H H':Hp}{B B':BS}:∀{ds:List D} {xs:List V},flats ds=true->Rps K H B ds xs->Rps K H' B' ds xs
 | [],xs,_,r=>by rw[o8] at r ⊢; exact r
 | d::ds,xs,h,r=>by
  rw[o4] at r ⊢;obtain⟨x,r',e1,r1,r2⟩:=r;unfold flats at h;rw[List.all_cons,Bool.and_eq_true] at h;exact⟨x,r',e1,jt0 h.1 r1,o30 (ds:=ds) h.2 r2⟩
theorem dt0(h:PDF X e g):PDF X e (m90 g):=.mk fun B δ pins s σ H Q I ⟨d,en,hq,k⟩=>by
 obtain⟨B',c1,c2,en'⟩:=en.frz;unfold m90 at hq
 cases e1:g (frz δ) with
 | none=>rw[e1] at hq; cases hq
 | some x =>
  rw[e1,Option.bind_some] at hq
  cases x with
  | lst ds =>
   simp only[] at hq
   by_cases hf:flats ds=true
   ·rw[if_pos hf] at hq
    cases hq;exact h B' (frz δ) pins s σ H Q I ⟨_,en',e1,fun p H' hp s' r=>k p H' hp s' (by
     obtain⟨xs,e5,r5⟩:=r;exact⟨xs,e5,o30 hf r5⟩)⟩
   ·rw[if_neg hf] at hq; cases hq
  | non=>cases hq
  | bl _=>cases hq
  | int _=>cases hq
  | str _=>cases hq
  | tup _=>cases hq
  | dct _ _=>cases hq
end
section
variable{X:Cx}
end
end DL
namespace L2
open PySem
section
variable{M:Model}{A:Around}{E:Value->Shared->Prop}{s:Shared}
end
end L2
namespace L2
open PySem PySem.Spec PyProof.Rows
section
variable{M:Model}{A:Around}{E:Value->Shared->Prop}{s:Shared}
end
section
variable{X:Cx}{pins:List (Addr×Obj)}{σ:St}{H:Hp}{s:Shared}
end
section
variable{X:Cx}{k:Nat}{f C:Addr}{fd:FuncData}{ps:List Str}{sp:Sp}{dvs:List V}{ds:List Value}{x c:Str}{p pos np cpos:Pos}{e:Expr}{es:List Expr}{t:TA}
end
section
variable{X:Cx}{pins:List (Addr×Obj)}{σ:St}{H:Hp}{s:Shared}
end
section
variable{X:Cx}
end
end L2
namespace DL
open PySem PySem.Spec PyProof.Rows L2
section
variable{X:Cx}{e:Expr}{st:Stmt}{rest as bs:List Stmt}{pos:Pos}{G:GS}{G1 G2 Ga Gb:GZ}{gt:GB}{gA:GA}{c:Expr}
end
section
variable{X:Cx}{e:Expr}{es:List Expr}{gA:GA}{pos p px:Pos}
end
section
variable{P:Program}{w:World}{K:W.Frag}{mg:Str->Option Value}{base:Heap}
end
end DL
namespace L2
open PySem PySem.Spec PyProof.Rows
section
variable{X:Cx}{pos:Pos}{tl:List Value}
end
end L2
namespace DL
open PySem PySem.Spec PyProof.Rows L2
section
variable{X:Cx}{root:Str}{r:Addr}{cs rs:List Str}{p px pc pos:Pos}{x:Str}
end
end DL
namespace L2
open PySem PySem.Spec PyProof.Rows
section
variable{X:Cx}{pins pins':List (Addr×Obj)}{σ:St}{H:Hp}{s:Shared}{W:Value->Shared->Prop}{A:Around}
end
end L2
namespace DL
open PySem PySem.Spec PyProof.Rows L2
section
variable{K:W.Frag}{H₀ H:Hp}{B₀ B:BS}{σ:St}{δ:Ds}{i:Nat}{a C:Addr}{c:Str}
end
section
variable{X:Cx}{root x:Str}{r:Addr}{cs rs:List Str}{body suite:List Stmt}{b₀:Stmt}{np hp pos:Pos}{Gb:GZ}{Gh:GS}
end
section
variable{X:Cx}{root:Str}{r:Addr}{cs rs:List Str}{p px pc tp pos:Pos}{x:Str}{es:List Expr}{ns:List Str}
end
end DL
namespace XC
open PySem PySem.W
section
variable{prog:Program}{w:World}{A:Around}{E:Value->Shared->Prop}{h:Heap}{g:Array GenState}{d:Drawn}{t:Nat}{os:OsState}{a C:Addr}{o:Obj}{tl:List Value}{K:Frag}{od:Option Obj}{f:Str}{v:Value}
end
end XC
namespace L2
open PySem PySem.Spec PyProof.Rows
section
variable{X:Cx}{pins:List (Addr×Obj)}{σ:St}{H:Hp}{s:Shared}{A:Around}{E:Value->Shared->Prop}
end
end L2
namespace DL
open PySem PySem.Spec PyProof.Rows L2
section
variable{X:Cx}{px pos:Pos}{x:Str}
end
section
variable{X:Cx}{tg:Expr}{body:List Stmt}{pos:Pos}{G:GZ}
end
end DL
namespace XC
open PySem PySem.W
end XC
namespace DL
open PySem PySem.Spec PyProof.Rows L2
section
variable{P:Program}{w:World}{K:W.Frag}{mg:Str->Option Value}{base:Heap}
end
end DL
namespace L2
open PySem PySem.Spec PyProof.Rows
section
variable{X:Cx}
end
end L2
namespace DL
open PySem PySem.Spec PyProof.Rows L2
section
variable{X:Cx}{e:Expr}{g:GE}{x:Str}{px p0 apos cpos:Pos}{j:Nat}
end
end DL
namespace L2
open PySem PySem.Spec PyProof.Rows
section
variable{X:Cx}
end
end L2
namespace DL
open PySem PySem.Spec PyProof.Rows L2
section
variable{X:Cx}{o e:Expr}{apos cpos:Pos}{g:Ds->Option D}{gA:Ds->Option (List D)}
end
end DL
namespace PySem.SeqAt
open AutoSeq1 (wpAny_loadPart')
open MeetsSeq MeetsSeq2 MeetsSeq3 SeqRoads2
end PySem.SeqAt
namespace L2
open PySem PySem.Spec PyProof.Rows
section
variable{X:Cx}
end
end L2
namespace DL
open PySem PySem.Spec PyProof.Rows L2
section
variable{X:Cx}{a b e:Expr}{ga gb:GE}{gA:GA}{pos p0 apos cpos:Pos}{x:Str}{ys:List Str}
end
end DL
namespace Att
open PySem PySem.W PySem.Calls PyProof.Rows
end Att
namespace L2
open PySem PySem.Spec PyProof.Rows
section
variable{X:Cx}
end
end L2
namespace DL
open PySem PySem.Spec PyProof.Rows L2
section
variable{X:Cx}{o e e0:Expr}{g g0:GE}{gA:GA}{x:Str}{px p0 apos cpos pos:Pos}
end
end DL
namespace L2
open PySem PySem.Spec PyProof.Rows
section
variable{X:Cx}{pins:List (Addr×Obj)}{σ:List (Option V)}{A:Around}{E:Value->Shared->Prop}
end
end L2
namespace DL
open PySem PySem.Spec PyProof.Rows L2
section
variable{K:W.Frag}{H:Hp}{B:BS}
end
section
variable{X:Cx}{e:Expr}{pos p:Pos}{g:Ds->Option D}
end
end DL
namespace DL
open PySem
end DL
namespace L2
open PySem PySem.Spec PyProof.Rows PySem.W
section
variable{X:Cx}{pins:List (Addr×Obj)}{σ:List (Option V)}{A:Around}{E:Value->Shared->Prop}{s:Shared}{H:Hp}{d:Addr}{kvs:List (Key×V)}{ys:List Str}
end
end L2
namespace L2
open PySem PySem.Spec PyProof.Rows
end L2
namespace DL
open PySem PySem.Spec PyProof.Rows L2
section
variable{X:Cx}{e:Expr}{pos p:Pos}{g:Ds->Option D}
end
end DL
namespace L2
open PySem PySem.Spec PyProof.Rows
open AutoSeq1 (wpAny_loadPart')
section
variable{prog:Program}{w:World}{A:Around}{E:Value->Shared->Prop}{s:Shared}
end
section
variable{X:Cx}{elts:List Expr}{x1:Nat}{tpos:Pos}
end
end L2
namespace DL
open PySem PySem.Spec PyProof.Rows L2
section
variable{X:Cx}{a:Expr}{gA:Ds->Option (List D)}{elts:List Expr}{x1:Nat}{tpos p pos:Pos}
end
section
variable{X:Cx}{a0 e:Expr}{es:List Expr}{g0:GE}{gA:GA}{pos posg p pg px:Pos}
end
def nc0(x y:D):Option D:=match y with
 | .non=>some (.bl (match x with|.non=>false|_=>true))
 | _=>none
section
variable{X:Cx}{root c0:Str}{r:Addr}{cs rs:List Str}{body suite:List Stmt}{b₀:Stmt}{np hp pos:Pos}{Gb:GZ}{Gh:GS}
end
theorem k80{K:W.Frag}:Op2 K (fun x y H Q=>y=.non/\Q (.bl (!decide (x=.non))) H) nc0:=by
 intro H B x y dx dy d Q hb rx ry h k;have hy:dy=.non:=by cases dy<;>first|rfl|cases h
 subst hy;cases h;rw[W0] at ry;refine⟨ry,k _ H (Same.refl H) ?_⟩
 rw[Y4];cases dx<;>simp only[W0,Y4,n6,Y0,X4,Z5,wv0] at rx
 all_goals first
  | (subst rx; rfl)
  | (obtain⟨a,xs,rfl,_⟩:=rx; rfl)
section
variable{X:Cx}{o e f:Expr}{g:GE}{apos cpos:Pos}
end
end DL
namespace L2
open PySem PySem.Spec PyProof.Rows
open AutoSeq1 (wpAny_loadPart')
section
variable{prog:Program}{w:World}{A:Around}{E:Value->Shared->Prop}{s:Shared}{z TI TO i1 i2 l1 l2:Addr}{k1 k2:Nat}{xs ys:Array Value}{x y a b:Value}
end
section
variable{X:Cx}{elts:List Expr}{x1:Nat}{tpos:Pos}
end
end L2
namespace DL
open PySem PySem.Spec PyProof.Rows L2
section
variable{X:Cx}{a b:Expr}{gA:Ds->Option (List D)}{elts:List Expr}{x1:Nat}{tpos p pos:Pos}
end
end DL
namespace L2
open PySem PySem.Spec PyProof.Rows
section
variable{X:Cx}
def U40(K:W.Frag):R2:=fun x y H Q=>∃a xs k,x=.ref a/\y=.int k/\SqL K H a xs/\xs≠[]/\0<=k/\k<2 ^ 62/\xs.length*k.toNat<=2 ^ 20/\∀p,H p=none->Q (.ref p) (upd H p (.lst (List.replicate k.toNat xs).flatten))
theorem aw0:OpR X (binaryOp .Mult) (U40 X.K):=by
 intro pins s σ H x y v u Q I rx ry h;obtain⟨a,xs,k,rfl,rfl,ha,hx,h2,h3,hz,q⟩:=h;cases rx;obtain⟨t,rfl⟩:=ry;obtain⟨its,r1,p1,_⟩:=I.list ha;obtain⟨⟨cls,dd,data,sl⟩,ho,hc,n,hd⟩:=p1.isList;simp only at hc hd;subst hc hd;have hl:=r1.length;have he:its.toArray.isEmpty=false:=by
  cases its with
  | nil=>exact absurd (r1.nil_iff.mp rfl) hx
  | cons a b=>rfl
 have hlen:its.toArray.size*k.toNat<=2 ^ 20:=by rw[List.size_toArray,← hl]; exact hz
 have hnew:(List.replicate (if its.toArray.isEmpty=true then 0 else k.toNat) its.toArray).foldl (·++·) #[]=(List.replicate k.toNat its).flatten.toArray:=by
  rw[he];have:=foldl_rep its k.toNat [];rw[List.nil_append] at this;exact this
 have hc0:¬(!Builtin.List.listFitsIndex k)=true:=by
  have:Builtin.List.listFitsIndex k=true:=by unfold Builtin.List.listFitsIndex; simp; omega
  rw[this]; decide
 have hc1:¬its.toArray.size*k.toNat > (2 ^ 63 - 1)/8:=by omega
 have hc2:¬Builtin.List.listTooLong (its.toArray.size*k.toNat)=true:=by
  rw[List.size_toArray] at hlen ⊢;unfold Builtin.List.listTooLong; simp; unfold sizeLine; omega
 refine wpAny_binaryOp_repeat_ref (T := "list") (U := "int") (by decide) ⟨_,ho,rfl⟩ (fun s'=>typeIs_int s' k t) noFill_list_mul F.fills_int_mul F.slot_int_rmul repeat_list F.slot_int_index.lookup
  (call_meets F.slot_int_rmul (typeIs_int s k t) F.entry_int_rmul (F.args_int_rmul_2 _ _) (lm_int_rmul_list_any k t a its.toArray n dd sl)
   ⟨ho,rfl,⟨_,ho,rfl⟩,call_meets F.slot_list_mul ⟨_,ho,rfl⟩ F.entry_list_mul (F.args_list_mul_2 _ _) (lm_list_mul_any a its.toArray n dd sl k t hc0 hc1 hc2) ⟨ho,?_⟩⟩)
 rw[hnew];exact⟨.ref _,_,I.lnew (t':=s.toks) (r1.rep k.toNat) (by rw[len_rep,Nat.mul_comm]; unfold sizeLine; omega),rfl,q _ I.fresh⟩
end
end L2
namespace DL
open PySem PySem.Spec PyProof.Rows L2
def mulL:D->D->Option D
 | .lst xs,.int k=>if xs≠[]/\0<=k/\k<2 ^ 62/\xs.length*k.toNat<=2 ^ 20 then some (.lst (List.replicate k.toNat xs).flatten) else none
 | _,_=>none
section
variable{X:Cx}{K:W.Frag}{a b:Expr}{ga gb:GE}{pos:Pos}{tg:Expr}{x:Str}
end
section
variable{X:Cx}{e:Expr}{es:List Expr}{gA:GA}{pos p px:Pos}
end
section
variable{K:W.Frag}{H H' H₀:Hp}{B B₀:BS}{σ:St}{δ:Ds}
end
section
variable{P:Program}{w:World}{K:W.Frag}{mg:Str->Option Value}{base:Heap}
end
section
variable{X:Cx}{e:Expr}{es:List Expr}{g:GE}{gA:GA}{pos p px:Pos}{y:Str}
end
section
variable{X:Cx}{e:Expr}{g:GE}{x:Str}{px apos cpos:Pos}
end
end DL
namespace EnS
open PySem PySem.Spec PyProof.Rows
section
variable{M:Model}{A:Around}{E:Value->Shared->Prop}{s:Shared}{env:Env}
end
section
variable{prog:Program}{w:World}{A:Around}{E:Value->Shared->Prop}{s:Shared}
end
section
variable{prog:Program}{w:World}{A:Around}{E:Value->Shared->Prop}{s:Shared}
end
end EnS
namespace L2
open PySem PySem.Spec PyProof.Rows
section
variable{X:Cx}{elts:List Expr}{x1:Nat}{tpos:Pos}
end
end L2
namespace DL
open PySem PySem.Spec PyProof.Rows L2
section
variable{X:Cx}{elts:List Expr}{x1:Nat}{tpos:Pos}{a b e:Expr}{es:List Expr}{p pos kp:Pos}{gA:GA}{gb:GE}
end
end DL
namespace L2
open PySem PySem.Spec PyProof.Rows
section
variable{X:Cx}{e st:Expr}{te:TE}{ts:TO}{pos p2:Pos}
end
end L2
namespace DL
open PySem PySem.Spec PyProof.Rows L2
section
variable{X:Cx}{e st:Expr}{g:GE}{gs:Ds->Option (Option Int)}{pos p2:Pos}
end
section
variable{X:Cx}{e:Expr}{es:List Expr}{gA:GA}{pos p px:Pos}
end
end DL
namespace DL
open PySem
def s90:List D->Option (List Int)
 | []=>some []
 | .int i::ds=>(s90 ds).map fun r=>i::r
 | _=>none
theorem o40:∀is:List Int,s90 (is.map D.int)=some is
 | []=>rfl
 | i::is=>by show (s90 (is.map D.int)).map _=_; rw[o40 is]; rfl
end DL
namespace L2
open PySem PySem.Spec PyProof.Rows
end L2
namespace DL
open PySem PySem.Spec PyProof.Rows L2
theorem j30{K:W.Frag}{H:Hp}{B:BS}:∀{ds:List D} {xs:List V} {is:List Int},Rps K H B ds xs->s90 ds=some is->xs=is.map V.int
 | [],xs,is,r,h=>by rw[o8] at r; cases h; exact r
 | d::ds,xs,is,r,h=>by
  rw[o4] at r;obtain⟨x,t,rfl,r1,r2⟩:=r
  cases d with
  | int i =>
   have h:(s90 ds).map (fun r=>i::r)=some is:=h
   obtain⟨js,e,rfl⟩:=Option.map_eq_some_iff.mp h;rw[n6] at r1;rw[r1,j30 r2 e];rfl
  | _=>cases h
end DL
namespace L2
open PySem PySem.Spec PyProof.Rows PySem.W
section
variable{X:Cx}{o e f:Expr}{apos cpos:Pos}{td ty tx:TE}
end
end L2
namespace DL
open PySem PySem.Spec PyProof.Rows L2
section
variable{X:Cx}{a b e f:Expr}{ga gb g0 g:GE}{x:Str}{px p0 apos cpos pos:Pos}
end
end DL
namespace L2
open PySem PySem.Spec PyProof.Rows
open AutoSeq1 (wpAny_loadPart')
section
variable{prog:Program}{w:World}{A:Around}{E:Value->Shared->Prop}{s:Shared}{z TI TO i1 i2 l1 l2:Addr}{k1 k2:Nat}{xs ys:Array Value}{x y a b:Value}
end
section
variable{X:Cx}{elts:List Expr}{x1:Nat}{tpos:Pos}
end
end L2
namespace DL
open PySem PySem.Spec PyProof.Rows L2
section
variable{X:Cx}{a b:Expr}{gA:Ds->Option (List D)}{elts:List Expr}{x1:Nat}{tpos p pos:Pos}
end
end DL
namespace L2
open PySem PySem.Spec PyProof.Rows PySem.W
theorem fw0{X:Cx}:CallR X (.builtin "len") (fun xs H Q=>∃(p:Addr) (kvs:List (Key×V)),xs=[.ref p]/\H p=some (.dK kvs)/\Q (.int kvs.length) H):=by
 intro pins s σ H xs us Q I r h;obtain⟨p,kvs,rfl,hq,q⟩:=h;obtain⟨u,rfl,rx⟩:=vals1 r;cases rx;have hn:=w90;obtain⟨z,hd,vs,rel,dd⟩:=b80 I.hok hq;have hl:=rel.length;exact call_len_dict hd dd (by omega) ⟨.int kvs.length,H,I.tok _,⟨s.toks+1,by rw[hl]⟩,q⟩
end L2
namespace DL
open PySem PySem.Spec PyProof.Rows L2
def na0:List D->Option D
 | [.dct (.inl ks) _]=>some (.int ks.length)
 | _=>none
theorem Zw0{K:W.Frag}:FnR K (fun xs H Q=>∃(p:Addr) (kvs:List (Key×V)),xs=[.ref p]/\H p=some (.dK kvs)/\Q (.int kvs.length) H) na0:=by
 intro H B xs ds d Q hb r h k;unfold na0 at h;split at h
 ·cases h
  obtain⟨v,rfl,r1⟩:=J4 r;rw[sb0] at r1;obtain⟨p,ys,rfl,_,hp,hl,rr⟩:=r1;refine⟨p,_,rfl,hp,k _ H (Same.refl H) ?_⟩
  rw[n6,List.length_zip,← hl,Nat.min_self]
 ·cases h
end DL
namespace SoT
open PySem PyProof.Rows
section
variable{P:Program}{w:World}{A:Around}{E:Value->Shared->Prop}{s:Shared}{b:Array Keyed}{κ:SortKind}{cmp:Keyed->Keyed->Bool}
structure Go(b:Array Keyed)(κ:SortKind)(st:SortSt):Prop where
 kd:kindOf st=κ
 pm:(arrOf st).Perm b
 pe:pendingOf st=#[]
 fa:failedOf st=none
structure Cp(P:Program)(w:World)(A:Around)(E:Value->Shared->Prop)(s:Shared)(b:Array Keyed)(κ:SortKind)(cmp:Keyed->Keyed->Bool):Prop where
 ask:∀(st:SortSt) (i j:Nat) (x y:Keyed) (Q:Option Bool->SortSt->Prop),Go b κ st->(arrOf st)[i]?=some x->(arrOf st)[j]?=some y->Q (some (cmp x y)) st->wpS (model P w) A E s (ltAt' i j) Q st
 nd:b.toList.Nodup
 tr:∀x∈b.toList,∀y∈b.toList,∀z∈b.toList,cmp x y=true->cmp y z=true->cmp x z=true
 to:∀x∈b.toList,∀y∈b.toList,x≠y->cmp y x=false->cmp x y=true
theorem Go.set{st:SortSt}(h:Go b κ st){xs:Array Keyed}(p:xs.Perm (arrOf st)):Go b κ (setArr st xs):=⟨h.kd,p.trans h.pm,h.pe,h.fa⟩
theorem Go.sz{st:SortSt}(h:Go b κ st):(arrOf st).size=b.size:=h.pm.size_eq
theorem Go.el{st:SortSt}(h:Go b κ st){i:Nat}(hi:i<b.size):∃x,(arrOf st)[i]?=some x/\x∈b.toList:=by
 have hi':i<(arrOf st).size:=by rw[h.sz]; exact hi
 exact⟨(arrOf st)[i],getElem?_pos _ i hi',(Array.perm_iff_toList_perm.mp h.pm).mem_iff.mp (by simp)⟩
theorem Go.mem{st:SortSt}(h:Go b κ st){i:Nat}{x:Keyed}(e:(arrOf st)[i]?=some x):x∈b.toList/\i<b.size:=by
 obtain⟨hi,rfl⟩:=Array.getElem?_eq_some_iff.mp e
 exact⟨(Array.perm_iff_toList_perm.mp h.pm).mem_iff.mp (by simp),by rw[← h.sz]; exact hi⟩
theorem Go.ne{st:SortSt}(h:Go b κ st)(hn:b.toList.Nodup){i j:Nat}{x y:Keyed}(e1:(arrOf st)[i]?=some x)(e2:(arrOf st)[j]?=some y)(hij:i<j):x≠y:=by
 have hn':(arrOf st).toList.Nodup:=(Array.perm_iff_toList_perm.mp h.pm).nodup_iff.mpr hn
 obtain⟨h1,rfl⟩:=Array.getElem?_eq_some_iff.mp e1
 obtain⟨h2,rfl⟩:=Array.getElem?_eq_some_iff.mp e2
 have:=List.pairwise_iff_getElem.mp hn' i j (by simpa using h1) (by simpa using h2) hij
 simpa using this
def Up(cmp:Keyed->Keyed->Bool)(xs:Array Keyed)(n:Nat):Prop:=∀i j x y,i<j->j<n->xs[i]?=some x->xs[j]?=some y->cmp x y=true
def Dn(cmp:Keyed->Keyed->Bool)(xs:Array Keyed)(n:Nat):Prop:=∀i j x y,i<j->j<n->xs[i]?=some x->xs[j]?=some y->cmp y x=true
variable(C:Cp P w A E s b κ cmp)
include C
theorem Zz0{st:SortSt}(hg:Go b κ st){n:Nat}(hn:n<b.size)(h1:1<=n)(h:Up cmp (arrOf st) n){u v:Keyed}(eu:(arrOf st)[n - 1]?=some u)(ev:(arrOf st)[n]?=some v)(huv:cmp u v=true):Up cmp (arrOf st) (n+1):=fun i j x y hij hj ex ey=>by
 by_cases hjn:j<n
 ·exact h i j x y hij hjn ex ey
 ·have:j=n:=by omega
  subst this;rw[ev] at ey;cases ey
  by_cases hi:i=j - 1
  ·subst hi; rw[eu] at ex; cases ex; exact huv
  ·exact C.tr x (hg.mem ex).1 u (hg.mem eu).1 v (hg.mem ev).1 (h i (j - 1) x u (by omega) (by omega) ex eu) huv
theorem Zq0{st:SortSt}(hg:Go b κ st){n:Nat}(hn:n<b.size)(h1:1<=n)(h:Dn cmp (arrOf st) n){u v:Keyed}(eu:(arrOf st)[n - 1]?=some u)(ev:(arrOf st)[n]?=some v)(huv:cmp v u=true):Dn cmp (arrOf st) (n+1):=fun i j x y hij hj ex ey=>by
 by_cases hjn:j<n
 ·exact h i j x y hij hjn ex ey
 ·have:j=n:=by omega
  subst this;rw[ev] at ey;cases ey
  by_cases hi:i=j - 1
  ·subst hi; rw[eu] at ex; cases ex; exact huv
  ·exact C.tr v (hg.mem ev).1 u (hg.mem eu).1 x (hg.mem ex).1 huv (h i (j - 1) x u (by omega) (by omega) ex eu)
theorem asc{st:SortSt}{a m:Nat}{Q:AscSt->SortSt->Prop}(hg:Go b κ st)(hm:m<=b.size)(ha:1<=a)(ham:a<=m)(hu:Up cmp (arrOf st) a)
  (k:∀n,a<=n->n<=m->Up cmp (arrOf st) n->(n=m∨∃u v,(arrOf st)[n - 1]?=some u/\(arrOf st)[n]?=some v/\cmp v u=true)->Q (none,n) st):wpS (model P w) A E s (ascLoop a m) Q st:=by
 unfold ascLoop;refine wpS_forRange (I:=fun x c t=>t=st/\c=(none,x)/\Up cmp (arrOf st) x) (fun x c t hax hxm hI=>?_) (fun c t hI=>?_) ⟨rfl,rfl,hu⟩
 ·obtain⟨e1,e2,hu'⟩:=hI
  subst e1; subst e2;obtain⟨v,ev,mv⟩:=hg.el (i:=x) (by omega)
  obtain⟨u,eu,mu⟩:=hg.el (i:=x - 1) (by omega)
  refine wpS_bind (C.ask _ _ _ _ _ _ hg ev eu ?_)
  cases hc:cmp v u with
  | true=>exact wpS_pure (k x hax (by omega) hu' (.inr ⟨u,v,eu,ev,hc⟩))
  | false=>exact wpS_pure ⟨rfl,rfl,Zz0 C hg (by omega) (by omega) hu' eu ev (C.to u mu v mv (hg.ne C.nd eu ev (by omega)) hc)⟩
 ·obtain⟨e1,e2,hu'⟩:=hI
  subst e1; subst e2;have e:max a m=m:=by omega
  rw[e] at hu' ⊢;exact k m ham (Nat.le_refl _) hu' (.inl rfl)
theorem desc{st:SortSt}{a m:Nat}{Q:DescSt->SortSt->Prop}(hg:Go b κ st)(hm:m<=b.size)(ha:1<=a)(ham:a<=m)(hd:Dn cmp (arrOf st) a)
  (k:∀n,a<=n->n<=m->Dn cmp (arrOf st) n->Q (none,n,0) st):wpS (model P w) A E s (descLoop a m) Q st:=by
 unfold descLoop;refine wpS_forRange (I:=fun x c t=>t=st/\c=(none,x,0)/\Dn cmp (arrOf st) x) (fun x c t hax hxm hI=>?_) (fun c t hI=>?_) ⟨rfl,rfl,hd⟩
 ·obtain⟨e1,e2,hu'⟩:=hI
  subst e1; subst e2;obtain⟨v,ev,mv⟩:=hg.el (i:=x) (by omega)
  obtain⟨u,eu,mu⟩:=hg.el (i:=x - 1) (by omega)
  refine wpS_bind (C.ask _ _ _ _ _ _ hg ev eu ?_)
  cases hc:cmp v u with
  | true =>
   dsimp only
   rw[if_pos rfl,if_neg (by omega)]
   exact wpS_pure ⟨rfl,rfl,Zq0 C hg (by omega) (by omega) hu' eu ev hc⟩
  | false =>
   dsimp only
   rw[if_neg (by simp)]
   refine wpS_bind (C.ask _ _ _ _ _ _ hg eu ev ?_)
   rw[C.to u mu v mv (hg.ne C.nd eu ev (by omega)) hc]
   exact wpS_pure (k x hax (by omega) hu')
 ·obtain⟨e1,e2,hu'⟩:=hI
  subst e1; subst e2;have e:max a m=m:=by omega
  rw[e] at hu' ⊢;exact k m ham (Nat.le_refl _) hu'
theorem tl{st:SortSt}{n m:Nat}{Q:Option Nat->SortSt->Prop}(hg:Go b κ st)(hm:m<=b.size)(h1:1<=n)(hnm:n<=m)(hd:Dn cmp (arrOf st) n)
  (k:∀r t,Go b κ t->1<=r->r<=m->Up cmp (arrOf t) r->Q (some r) t):wpS (model P w) A E s (tail3 n m) Q st:=by
 unfold tail3;rw[reverseSlice'_eq];refine wpS_bind (wpS_modify ?_)
 have hsz:n<=(arrOf st).size:=by rw[hg.sz]; omega
 have g2:Go b κ (setArr st (mirror (arrOf st) 0 n ((n - 0)/2))):=hg.set (mirror_perm _ _ _ _)
 have at_:∀i,i<n->(mirror (arrOf st) 0 n ((n - 0)/2))[i]?=(arrOf st)[n - 1 - i]?:=fun i hi=>by
  rw[getElem?_mirror_all hsz,if_pos ⟨Nat.zero_le _,hi⟩,Nat.zero_add]
 have hu:Up cmp (arrOf (setArr st (mirror (arrOf st) 0 n ((n - 0)/2)))) n:=fun i j x y hij hj ex ey=>by
  have ex:(mirror (arrOf st) 0 n ((n - 0)/2))[i]?=some x:=ex
  have ey:(mirror (arrOf st) 0 n ((n - 0)/2))[j]?=some y:=ey
  rw[at_ i (by omega)] at ex
  rw[at_ j hj] at ey;exact hd (n - 1 - j) (n - 1 - i) y x (by omega) (by omega) ey ex
 exact wpS_bind (asc C g2 hm h1 hnm hu fun r a1 a2 a3 _=>wpS_pure (k r _ g2 (by omega) a2 a3))
theorem run{st:SortSt}{m:Nat}{Q:Option Nat->SortSt->Prop}(hg:Go b κ st)(hm:m<=b.size)(h1:1<=m)
  (k:∀r t,Go b κ t->1<=r->r<=m->Up cmp (arrOf t) r->Q (some r) t):wpS (model P w) A E s (countRun' 0 m) Q st:=by
 rw[countRun0_eq];refine wpS_bind (asc C hg hm (Nat.le_refl 1) h1 (fun i j x y a c _ _=>by omega) fun n n1 n2 hu hor=>?_)
 dsimp only
 by_cases hnm:n=m
 ·rw[if_pos (by rw[hnm]; simp)]
  exact wpS_pure (k n st hg n1 n2 hu)
 ·rw[if_neg (by simpa using hnm)]
  obtain⟨u,v,eu,ev,hc⟩:=hor.resolve_left hnm
  by_cases hg1:n > 1
  ·rw[if_pos hg1]
   obtain⟨x,ex,mx⟩:=hg.el (i:=0) (by omega)
   refine wpS_bind (C.ask _ _ _ _ _ _ hg ex eu ?_)
   rw[hu 0 (n - 1) x u (by omega) (by omega) ex eu]
   exact wpS_pure (k n st hg n1 n2 hu)
  ·rw[if_neg hg1]
   have:n=1:=by omega
   subst this;unfold descPart;refine wpS_bind (wpS_lift (wpAny_rule ⟨rfl,?_⟩))
   have d2:Dn cmp (arrOf st) (1+1):=fun i j x y hij hj ex ey=>by
    have hi:i=0:=by omega
    have hj':j=1:=by omega
    subst hi; subst hj';rw[show (1:Nat) - 1=0 from rfl,ex] at eu;rw[ey] at ev;cases eu; cases ev;exact hc
   refine wpS_bind (desc C hg hm (by omega) (by omega) d2 fun r a1 a2 a3=>?_)
   dsimp only
   rw[if_neg (by omega)]
   exact tl C hg hm (by omega) a2 a3 k
theorem ins{st:SortSt}{n a:Nat}{Q:Bool->SortSt->Prop}(hg:Go b κ st)(hn:n<=b.size)(ha:a<=n)(hu:Up cmp (arrOf st) a)
  (k:∀t,Go b κ t->Up cmp (arrOf t) n->Q true t):wpS (model P w) A E s (binarySort' 0 n a) Q st:=by
 rw[binarySort'_eq];simp only[Nat.zero_add];refine wpS_bind (wpS_mono (wpS_forRange (I:=fun x c t=>c=(none,())/\Go b κ t/\Up cmp (arrOf t) (min x n)) (Q:=fun c t=>c=(none,())/\Go b κ t/\Up cmp (arrOf t) n) (fun x c t hax hxn hI=>?_) (fun c t hI=>?_) ⟨rfl,hg,?_⟩) fun c t hI=>?_)
 ·obtain⟨e1,g2,u2⟩:=hI
  subst e1;have ex:min x n=x:=by omega
  rw[ex] at u2;have hx:x<b.size:=by omega
  obtain⟨v,ev,mv⟩:=g2.el hx;refine wpS_bind (wpS_mono (wpS_forRange (I:=fun y c t2=>t2=t/\∃l r,c=(none,l,r)/\l<=r/\r<=x/\r - l<=x - y/\(∀i z,i<l->(arrOf t)[i]?=some z->cmp z v=true)/\∀i z,r<=i->i<x->(arrOf t)[i]?=some z->cmp v z=true)
   (Q:=fun c t2=>t2=t/\∃l r,c=(none,l,r)/\l<=x/\(∀i z,i<l->(arrOf t)[i]?=some z->cmp z v=true)/\∀i z,l<=i->i<x->(arrOf t)[i]?=some z->cmp v z=true) (fun y c t2 _ hyx hJ=>?_) (fun c t2 hJ=>?_)
   ⟨rfl,0,x,rfl,by omega,by omega,by omega,fun i z hi=>by omega,fun i z h1 h2=>by omega⟩) fun c t2 hJ=>?_)
  ·obtain⟨e1,l,r,e2,hlr,hrx,hm,lo,hi⟩:=hJ
   subst e1; subst e2
   dsimp only
   by_cases hge:l ≥ r
   ·rw[if_pos hge]
    have:l=r:=by omega
    subst this;exact wpS_pure ⟨rfl,l,l,rfl,hrx,lo,hi⟩
   ·rw[if_neg hge]
    obtain⟨u,eu,mu⟩:=g2.el (i:=(l+r)/2) (by omega)
    refine wpS_bind (C.ask _ _ _ _ _ _ g2 ev eu ?_)
    cases hc:cmp v u with
    | true =>
     refine wpS_pure ⟨rfl,l,(l+r)/2,rfl,by omega,by omega,by omega,lo,fun i z h1 h2 ez=>?_⟩
     by_cases q:i=(l+r)/2
     ·subst q; rw[eu] at ez; cases ez; exact hc
     ·exact C.tr v mv u mu z (g2.mem ez).1 hc (u2 _ i u z (by omega) (by omega) eu ez)
    | false =>
     have huv:=C.to u mu v mv (g2.ne C.nd eu ev (by omega)) hc
     refine wpS_pure ⟨rfl,(l+r)/2+1,r,rfl,by omega,by omega,by omega,fun i z h1 ez=>?_,hi⟩
     by_cases q:i=(l+r)/2
     ·subst q; rw[eu] at ez; cases ez; exact huv
     ·exact C.tr z (g2.mem ez).1 u mu v mv (u2 i _ z u (by omega) (by omega) ez eu) huv
  ·obtain⟨e1,l,r,e2,hlr,hrx,hm,lo,hi⟩:=hJ
   subst e1; subst e2;have:l=r:=by omega
   subst this;exact⟨rfl,l,l,rfl,hrx,lo,hi⟩
  ·obtain⟨e1,l,r,e2,hlx,lo,hi⟩:=hJ
   subst e1; subst e2;show wpS _ _ _ _ (do moveDown' x l; pure (ForInStep.yield (none,()))) _ _;rw[moveDown'_eq];refine wpS_bind (wpS_modify (wpS_pure ⟨rfl,g2.set (bubble_perm _ _ _),?_⟩))
   have hxs:x<(arrOf t2).size:=by rw[g2.sz]; exact hx
   have e3:min (x+1) n=x+1:=by omega
   rw[e3];have at_:∀i,(bubble (arrOf t2) x (x - l))[i]?=if i=l then some v else if l<i/\i<=x then (arrOf t2)[i - 1]? else (arrOf t2)[i]?:=fun i=>by
    rw[getElem?_bubble hxs _ (by omega),show x - (x - l)=l by omega,ev]
   intro i j y z hij hj ey ez;have ey:(bubble (arrOf t2) x (x - l))[i]?=some y:=ey;have ez:(bubble (arrOf t2) x (x - l))[j]?=some z:=ez;rw[at_] at ey ez
   by_cases q1:j=l
   ·rw[if_pos q1] at ez
    rw[if_neg (by omega),if_neg (by omega)] at ey
    cases ez;exact lo i y (by omega) ey
   ·rw[if_neg q1] at ez
    by_cases q2:i=l
    ·rw[if_pos q2] at ey
     rw[if_pos ⟨by omega,by omega⟩] at ez
     cases ey;exact hi (j - 1) z (by omega) (by omega) ez
    ·rw[if_neg q2] at ey
     by_cases q3:l<i
     ·rw[if_pos ⟨q3,by omega⟩] at ey
      rw[if_pos ⟨by omega,by omega⟩] at ez
      exact u2 (i - 1) (j - 1) y z (by omega) (by omega) ey ez
     ·rw[if_neg (by omega)] at ey
      by_cases q4:l<j
      ·rw[if_pos ⟨q4,by omega⟩] at ez
       exact u2 i (j - 1) y z (by omega) (by omega) ey ez
      ·rw[if_neg (by omega)] at ez
       exact u2 i j y z hij (by omega) ey ez
 ·obtain⟨hc,g2,u2⟩:=hI
  refine⟨hc,g2,?_⟩
  rwa [show min (max (max a 1) n) n=n by omega] at u2
 ·intro i j x y hij hj ex ey
  exact hu i j x y hij (by omega) ex ey
 ·obtain⟨e1,g2,u2⟩:=hI
  subst e1;exact wpS_pure (k t g2 u2)
end
section
variable{P:Program}{w:World}{A:Around}{E:Value->Shared->Prop}{s:Shared}{b:Array Keyed}{κ:SortKind}{cmp:Keyed->Keyed->Bool}
theorem runs(C:Cp P w A E s b κ cmp){st:SortSt}{Q:Unit->SortSt->Prop}(hg:Go b κ st)(h2:2<=b.size)(h64:b.size<64)
  (k:∀t,(arrOf t).Perm b->failedOf t=none->Up cmp (arrOf t) b.size->Q () t):wpS (model P w) A E s sortRuns' Q st:=by
 rw[sortRuns'_eq];refine wpS_bind (wpS_get ?_)
 dsimp only
 have hmr:minRun' b.size b.size 0=b.size:=by
  obtain⟨f,hf⟩:∃f,b.size=f+1:=⟨b.size - 1,by omega⟩
  have e:minRun' (f+1) b.size 0=b.size:=by rw[minRun'_succ,if_pos h64]; rfl
  rwa [← hf] at e
 simp only[hg.sz,hmr];refine wpS_bind (wpS_mono (wpS_forRange (I:=fun x c t=>(x=0/\c=(none,0)/\Go b κ t)∨(1<=x/\c=(none,b.size)/\(arrOf t).Perm b/\failedOf t=none/\(pendingOf t).size=1/\Up cmp (arrOf t) b.size))
  (Q:=fun c t=>c=(none,b.size)/\(arrOf t).Perm b/\failedOf t=none/\(pendingOf t).size=1/\Up cmp (arrOf t) b.size) (fun x c t _ hx hI=>?_) (fun c t hI=>?_) (.inl ⟨rfl,rfl,hg⟩)) fun c t hI=>?_)
 ·rcases hI with⟨e1,e2,g2⟩|⟨e1,e2,d1⟩
  ·subst e1; subst e2
   dsimp only
   rw[if_neg (by omega)]
   simp only[Nat.sub_zero,Nat.min_self,Nat.zero_add];refine wpS_bind (run C g2 (Nat.le_refl _) (by omega) fun r t2 g3 r1 r2 u3=>?_)
   dsimp only
   have fin:∀t3,Go b κ t3->Up cmp (arrOf t3) b.size->(arrOf (setPending t3 ((pendingOf t3).push (0,b.size,0)))).Perm b/\failedOf (setPending t3 ((pendingOf t3).push (0,b.size,0)))=none/\(pendingOf (setPending t3 ((pendingOf t3).push (0,b.size,0)))).size=1/\Up cmp (arrOf (setPending t3 ((pendingOf t3).push (0,b.size,0)))) b.size :=
    fun t3 g u=>⟨g.pm,g.fa,(by show ((pendingOf t3).push (0,b.size,0)).size=1; rw[g.pe]; rfl),u⟩
   have nob:∀t3,Go b κ t3->(pendingOf t3).back?=none:=fun t3 g=>by rw[g.pe]; rfl
   by_cases hlt:r<b.size
   ·rw[if_pos hlt]
    refine wpS_bind (wpS_lift (wpAny_rule ⟨rfl,?_⟩))
    refine wpS_bind (ins C g3 (Nat.le_refl _) r2 u3 fun t3 g4 u4=>?_)
    simp only[Bool.not_true,Bool.false_eq_true,if_false];refine wpS_bind (wpS_get ?_)
    rw[nob t3 g4];exact wpS_bind (wpS_modify (wpS_pure (.inr ⟨by omega,rfl,fin t3 g4 u4⟩)))
   ·rw[if_neg hlt]
    have hr:r=b.size:=by omega
    subst hr;refine wpS_bind (wpS_get ?_)
    rw[nob t2 g3];exact wpS_bind (wpS_modify (wpS_pure (.inr ⟨by omega,rfl,fin t2 g3 u3⟩)))
  ·subst e2
   dsimp only
   rw[if_pos (Nat.le_refl _)];exact wpS_pure ⟨rfl,d1⟩
 ·rcases hI with⟨e1,_,_⟩|⟨_,e2,d1⟩
  ·omega
  ·exact⟨e2,d1⟩
 ·obtain⟨e1,p1,p2,p3,p4⟩:=hI
  subst e1
  dsimp only
  refine wpS_bind (wpS_mono (wpS_forRange (I:=fun _ c t2=>t2=t/\c=(none,())) (Q:=fun c t2=>t2=t/\c=(none,())) (fun x c t2 _ _ hJ=>?_) (fun _ _ hJ=>hJ) ⟨rfl,rfl⟩) fun c t2 hJ=>?_)
  ·obtain⟨e1,e2⟩:=hJ
   subst e1; subst e2;refine wpS_bind (wpS_get ?_)
   rw[if_pos (by rw[p3]; exact Nat.le_refl 1)]
   exact wpS_pure ⟨rfl,rfl⟩
  ·obtain⟨e1,e2⟩:=hJ
   subst e1; subst e2;exact wpS_pure (k _ p1 p2 p4)
end
def PairAt(h:Heap)(v:Value)(q:Int×Int):Prop:=∃a o n t u,v=.ref a/\h.get? a=some o/\o.cls=.type "tuple"/\o.data=.seq #[.int q.1 t,.int q.2 u] n
theorem PairAt.one{h:Heap}{v:Value}{q r:Int×Int}(x:PairAt h v q)(y:PairAt h v r):q=r:=by
 obtain⟨a,o,n,t,u,e,e1,_,e2⟩:=x;obtain⟨a',o',n',t',u',f,f1,_,f2⟩:=y;rw[e] at f;cases f;rw[e1] at f1;cases f1;rw[e2] at f2;injection f2 with f2 _
 have f3:=congrArg Array.toList f2
 simp only at f3;injection f3 with g1 g2
 injection g1 with g1 _
 injection g2 with g2 _
 injection g2 with g2 _
 exact Prod.ext g1 g2
def lt2(a b:Int×Int):Bool:=decide (a.1<b.1∨(a.1=b.1/\a.2<b.2))
theorem sm0{a b:Int×Int}:lt2 a b=true↔(a.1<b.1∨(a.1=b.1/\a.2<b.2)):=by unfold lt2; exact decide_eq_true_iff
open Classical in
noncomputable def pk(h:Heap)(v:Value):Int×Int:=if e:∃q,PairAt h v q then e.choose else (0,0)
theorem ws0{h:Heap}{v:Value}{q:Int×Int}(x:PairAt h v q):pk h v=q:=by
 unfold pk;have e:∃q,PairAt h v q:=⟨q,x⟩;rw[dif_pos e];exact e.choose_spec.one x
section
variable{P:Program}{w:World}{A:Around}{E:Value->Shared->Prop}{s:Shared}
theorem fb0(f:Bool)(x y:Value):keyLt' (tuples' f) x y=(do
  let xs ← Builtin.List.listItems x; let ys ← Builtin.List.listItems y
  for ((p,q),i) in (xs.toList.zip ys.toList).zipIdx do
   if !(← eqBool p q) then return ← oneLt' (f&&i==0) p q
  return decide (xs.size<ys.size)):=rfl
theorem q00{f:Bool}{a c:Int}{t u:Tok}{Q:Bool->Shared->Prop}(h:Q (decide (a<c)) s):wpAny (model P w) A (oneLt' f (.int a t) (.int c u)) Q E s:=by
 cases f with
 | true=>exact oneLt_int h
 | false =>
  rw[oneLt'_eq];rw[if_neg (by simp)]
  refine wpAny_bind (wpAny_richCompare_same (typeIs_int s a t) (typeIs_int s c u) slot_int_lt (call_int_lt ⟨(fun z=>nomatch z),?_⟩))
  exact wpAny_truthy_bool h
theorem i90{f:Bool}{x y:Value}{q r:Int×Int}{Q:Bool->Shared->Prop}(hx:PairAt s.heap x q)(hy:PairAt s.heap y r)(h:Q (lt2 q r) s):wpAny (model P w) A (keyLt' (tuples' f) x y) Q E s:=by
 obtain⟨a,o,n,t,u,rfl,e1,_,e2⟩:=hx;obtain⟨a',o',n',t',u',rfl,f1,_,f2⟩:=hy;rw[fb0];refine wpAny_bind (listItems_at e1 e2 (wpAny_bind (listItems_at f1 f2 ?_)))
 simp only[List.zip_cons_cons,List.zip_nil_right,List.zipIdx_cons,List.zipIdx_nil,List.forIn_cons,List.forIn_nil];refine wpAny_bind (wpAny_bind (wpAny_bind (wpAny_eqBool_int ?_)))
 by_cases e:q.1=r.1
 ·rw[show (q.1==r.1)=true by simpa using e]
  rw[if_neg (by simp)]
  refine wpAny_pure (wpAny_bind (wpAny_bind (wpAny_eqBool_int ?_)))
  by_cases e':q.2=r.2
  ·rw[show (q.2==r.2)=true by simpa using e']
   rw[if_neg (by simp)]
   refine wpAny_pure (wpAny_pure (wpAny_pure ?_))
   have:lt2 q r=false:=by unfold lt2; rw[e,e']; simp
   rw[this] at h;exact h
  ·rw[show (q.2==r.2)=false by simpa using e']
   rw[if_pos (by rfl)]
   refine wpAny_bind (q00 (wpAny_pure (wpAny_pure (wpAny_pure ?_))))
   have:lt2 q r=decide (q.2<r.2):=by unfold lt2; rw[e]; simp
   rw[this] at h;exact h
 ·rw[show (q.1==r.1)=false by simpa using e]
  rw[if_pos (by rfl)]
  refine wpAny_bind (q00 (wpAny_pure (wpAny_pure (wpAny_pure ?_))))
  have:lt2 q r=decide (q.1<r.1):=by unfold lt2; simp[e]
  rw[this] at h;exact h
end
structure Prs(h:Heap)(vs:List Value):Prop where
 all:∀v∈vs,∃q,PairAt h v q
 nd:(vs.map (pk h)).Nodup
noncomputable def rl0(h:Heap)(x y:Keyed):Bool:=lt2 (pk h x.1) (pk h y.1)
section
variable{P:Program}{w:World}{A:Around}{E:Value->Shared->Prop}{s:Shared}
theorem Uk0{b:Array Keyed}{f:Bool}(hb:∀x∈b.toList,∃q,PairAt s.heap x.1 q)(st:SortSt)(i j:Nat)(x y:Keyed)(Q:Option Bool->SortSt->Prop)(hg:Go b (tuples' f) st)(ei:(arrOf st)[i]?=some x)(ej:(arrOf st)[j]?=some y)(k:Q (some (rl0 s.heap x y)) st):wpS (model P w) A E s (ltAt' i j) Q st:=by
 obtain⟨q,hq⟩:=hb x (hg.mem ei).1;obtain⟨r,hr⟩:=hb y (hg.mem ej).1;unfold rl0 at k;rw[ws0 hq,ws0 hr] at k;rw[ltAt'_eq];refine wpS_bind (wpS_get ?_)
 show wpS _ _ _ _ (elem' (arrOf st) i>>=fun x=>elem' (arrOf st) j>>=fun y=>lt' x y) Q st
 rw[elem'_eq,elem'_eq,ei,ej];refine wpS_bind (wpS_pure (wpS_bind (wpS_pure ?_)))
 rw[lt'_eq];refine wpS_bind (wpS_get ?_)
 rw[hg.kd];exact wpS_bind (wpS_lift (wpAny_attempt (i90 hq hr ⟨rfl,wpS_pure k⟩)))
theorem cpP{vs:List Value}(hv:Prs s.heap vs)(f:Bool):Cp P w A E s (pairsOf vs) (tuples' f) (rl0 s.heap):=by
 have el:∀x∈(pairsOf vs).toList,x.1∈vs/\x=(x.1,x.1):=fun x hx=>by
  rw[pairsOf_toList] at hx;obtain⟨i,hi,e⟩:=List.mem_iff_getElem.mp hx;rw[List.getElem_zip] at e;have e1:x.1=vs[i]'(by rw[List.length_zip] at hi; omega):=by rw[← e]
  rw[e1];exact⟨List.getElem_mem _,e.symm⟩
 have hb:∀x∈(pairsOf vs).toList,∃q,PairAt s.heap x.1 q:=fun x hx=>hv.all _ (el x hx).1
 have hnv:vs.Nodup:=by
  refine List.pairwise_iff_getElem.mpr fun i j hi hj hij e=>?_
  have:=List.pairwise_iff_getElem.mp hv.nd i j (by simpa using hi) (by simpa using hj) hij
  rw[List.getElem_map,List.getElem_map,e] at this;exact this rfl
 refine⟨Uk0 hb,?_,fun x _ y _ z _ h1 h2=>?_,fun x hx y hy hne h=>?_⟩
 ·rw[pairsOf_toList]
  refine List.pairwise_iff_getElem.mpr fun i j hi hj hij e=>?_
  rw[List.getElem_zip,List.getElem_zip] at e;have e1:=congrArg Prod.fst e;simp only[List.length_zip] at hi hj;exact List.pairwise_iff_getElem.mp hnv i j (by omega) (by omega) hij e1
 ·unfold rl0 at *
  rw[sm0] at *;omega
 ·unfold rl0 at *
  have hpk:pk s.heap x.1≠pk s.heap y.1:=fun e=>by
   apply hne
   obtain⟨mx,ex⟩:=el x hx;obtain⟨my,ey⟩:=el y hy;obtain⟨i,hi,e1⟩:=List.mem_iff_getElem.mp mx;obtain⟨j,hj,e2⟩:=List.mem_iff_getElem.mp my;have hij:i=j:=by
    rcases Nat.lt_trichotomy i j with q|q|q
    ·have:=List.pairwise_iff_getElem.mp hv.nd i j (by simpa using hi) (by simpa using hj) q
     rw[List.getElem_map,List.getElem_map,e1,e2] at this;exact absurd e this
    ·exact q
    ·have:=List.pairwise_iff_getElem.mp hv.nd j i (by simpa using hj) (by simpa using hi) q
     rw[List.getElem_map,List.getElem_map,e1,e2] at this;exact absurd e.symm this
   subst hij;rw[ex,ey,← e1,← e2]
  rw[sm0];have h':¬((pk s.heap y.1).1<(pk s.heap x.1).1∨((pk s.heap y.1).1=(pk s.heap x.1).1/\(pk s.heap y.1).2<(pk s.heap x.1).2)):=fun z=>by
   rw[sm0.mpr z] at h;cases h
  have:(pk s.heap x.1).1≠(pk s.heap y.1).1∨(pk s.heap x.1).2≠(pk s.heap y.1).2:=by
   by_cases q1:(pk s.heap x.1).1=(pk s.heap y.1).1
   ·exact .inr fun q2=>hpk (Prod.ext q1 q2)
   ·exact .inl q1
  omega
theorem W20{v:Value}{q:Int×Int}{Q:Option Value->Shared->Prop}(hv:PairAt s.heap v q)(h:∀t,Q (some (.int q.1 t)) s):wpAny (model P w) A (firstOfTuple' v) Q E s:=by
 obtain⟨a,o,n,t,u,rfl,e1,e2,e3⟩:=hv;show wpAny _ _ (typeOf (.ref a)>>=fun T=>if (T != .type "tuple")=true then pure none else do return (← Builtin.List.listItems (.ref a))[0]?) _ _ _
 refine wpAny_bind (wpAny_typeOf (T := "tuple") ⟨o,e1,e2⟩ ?_)
 rw[if_neg (by simp)]
 exact wpAny_bind (listItems_at e1 e3 (wpAny_pure (h t)))
theorem firstsP:∀{vs:List Value} {Q:List (Option Value)->Shared->Prop},(∀v∈vs,∃q,PairAt s.heap v q)->(∀(fs:List Value) (ns:List Int),IntsAre fs ns->fs.length=vs.length->Q (fs.map some) s)->wpAny (model P w) A (vs.mapM firstOfTuple') Q E s
 | [],Q,_,h=>by
  rw[List.mapM_nil];exact wpAny_pure (h [] [] .nil rfl)
 | v::vs,Q,hv,h=>by
  rw[List.mapM_cons];obtain⟨q,hq⟩:=hv v List.mem_cons_self;refine wpAny_bind (W20 hq fun t=>wpAny_bind (firstsP (fun u hu=>hv u (List.mem_cons_of_mem _ hu)) fun fs ns a c=>wpAny_pure ?_))
  exact h (.int q.1 t::fs) (q.1::ns) (.cons q.1 t a) (by rw[List.length_cons,List.length_cons,c])
theorem U00{v₁ v₂:Value}{r:List Value}{Q:SortKind->Shared->Prop}(hv:∀v∈v₁::v₂::r,∃q,PairAt s.heap v q)(h:Q (tuples' true) s):wpAny (model P w) A (keyKind' (v₁::v₂::r).toArray) Q E s:=by
 rw[keyKind'_eq,List.mapM_toArray];refine wpAny_bind ?_
 rw[map_eq_pure_bind];refine wpAny_bind (firstsP hv fun fs ns a c=>wpAny_pure ?_)
 have h1:((fs.map some).toArray.all fun x=>x.isSome)=true:=by simp
 rw[if_pos h1];have h2:(fs.map some).toArray.filterMap id=fs.toArray:=by
  simp
 refine wpAny_bind (wpAny_rule ?_)
 rw[h2,oneTypeOnly'_eq,List.mapM_toArray,mapM_typeOf_ints a];simp only[map_pure,pure_bind];obtain⟨f0,fr,rfl⟩:∃f0 fr,fs=f0::fr:=by
  cases fs with
  | nil=>simp at c
  | cons f0 fr=>exact⟨f0,fr,rfl⟩
 have h3:((f0::fr).map fun _=>Value.type "int").toArray[0]?=some (.type "int"):=by simp
 rw[h3];have h4:(((f0::fr).map fun _=>Value.type "int").toArray.all fun x=>x==Value.type "int")=true:=by
  simp only[List.all_toArray,List.all_map,List.all_eq_true];exact fun _ _=>rfl
 simp only[h4,if_true,pure_bind];exact wpAny_pure h
end
section
variable{P:Program}{w:World}{A:Around}{E:Value->Shared->Prop}{s:Shared}
theorem PairAt.to{h h':Heap}{v:Value}{q:Int×Int}(x:PairAt h v q)(k:∀a o,h.get? a=some o->o.cls=.type "tuple"->h'.get? a=some o):PairAt h' v q:=by
 obtain⟨a,o,n,t,u,e,e1,e2,e3⟩:=x;exact⟨a,o,n,t,u,e,k a o e1 e2,e2,e3⟩
theorem Prs.to{h h':Heap}{vs:List Value}(x:Prs h vs)(k:∀a o,h.get? a=some o->o.cls=.type "tuple"->h'.get? a=some o):Prs h' vs/\∀v∈vs,pk h' v=pk h v:=by
 have e:∀v∈vs,pk h' v=pk h v:=fun v hv=>by
  obtain⟨q,hq⟩:=x.all v hv;rw[ws0 hq,ws0 (hq.to k)]
 refine⟨⟨fun v hv=>?_,?_⟩,e⟩
 ·obtain⟨q,hq⟩:=x.all v hv
  exact⟨q,hq.to k⟩
 ·rw[List.map_congr_left e]
  exact x.nd
theorem b70{a:Addr}{vs:List Value}{n:Nat}{F:Fin->Shared->Prop}(ho:s.heap.get? a=some (seqObj "list" vs.toArray n))(hv:Prs s.heap vs)(h64:vs.length<64)
  (h:∀out:Array Value,out.toList.Perm vs->(out.toList.map (pk s.heap)).Pairwise (fun x y=>lt2 x y=true)->F (.done (.ret .none)) { s with heap:=sortedHeap s.heap a vs out }) :
  wpAny (model P w) A (Builtin.«list.sort» ⟨[.ref a],[]⟩) F E s:=by
 rw[list_sort_plain];have la:a<s.heap.objs.size:=Heap.lt_size ho;obtain⟨ep,hu⟩:∃ep,(s.heap.update a (Obj.mapSeq fun _=>#[])).get? a=some (seqObj "list" #[] ep):=⟨_,get?_update_seq ho (fun _=>#[])⟩
 refine wpAny_bind (listItems_at ho rfl (wpAny_bind (listUpdate_at ho rfl (wpAny_bind (seqEpoch_at hu rfl (wpAny_bind (wpAny_newTuple (wpAny_bind (wpAny_newList (wpAny_holding ?_))))))))))
 obtain⟨g,hgd⟩:∃g,g=((s.heap.update a (Obj.mapSeq fun _=>#[])).push (seqObj "tuple" vs.toArray 0)).push (seqObj "list" #[] 0):=⟨_,rfl⟩
 have ne1:a≠(s.heap.update a (Obj.mapSeq fun _=>#[])).objs.size:=by rw[Heap.size_update]; exact Nat.ne_of_lt la
 have h6:g.get? a=some (seqObj "list" #[] ep):=by
  rw[hgd,Heap.get?_push_ne _ _ _ (by rw[size_push',Heap.size_update]; exact Nat.ne_of_lt (Nat.lt_succ_of_lt la)),Heap.get?_push_ne _ _ _ ne1]
  exact hu
 have kp:∀c o,s.heap.get? c=some o->o.cls=.type "tuple"->g.get? c=some o:=fun c o e1 e2=>by
  have hca:c≠a:=fun z=>by
   subst z;rw[ho] at e1;cases e1;have e3:Value.type "list"=Value.type "tuple" := e2;injection e3 with e3
   exact absurd e3 (by decide)
  rw[hgd];exact Heap.get?_push_of_some _ (Heap.get?_push_of_some _ (by rw[Heap.get?_update_ne _ _ _ _ hca]; exact e1))
 obtain⟨hv6,hpk⟩:=hv.to kp;show wpAny (model P w) A _ F E { s with heap:=((s.heap.update a (Obj.mapSeq fun _=>#[])).push (seqObj "tuple" vs.toArray 0)).push (seqObj "list" #[] 0) }
 rw[← hgd]
 dsimp only
 have hsz:vs.toArray.size=vs.length:=by simp
 have fin:∀out:Array Value,out.toList.Perm vs->(out.toList.map (pk s.heap)).Pairwise (fun x y=>lt2 x y=true)->F (.done (.ret .none)) { s with heap:=g.update a (Obj.mapSeq fun _=>out) }:=fun out p1 p2=>by
  rw[hgd];exact h out p1 p2
 by_cases h2:vs.toArray.size<2
 ·rw[if_pos h2,if_pos h2]
  refine wpAny_bind (wpAny_pure ?_)
  rw[StateT.run_pure];refine wpAny_bind (wpAny_pure ?_)
  dsimp only
  refine wpAny_bind (seqEpoch_at h6 rfl (wpAny_bind (listUpdate_at h6 rfl ?_ (hsz2:=by rw[Array.size_map]; show (pairsOf vs).size<=_; rw[pairsOf_size,sizeLine_eq]; omega))))
  simp only[bne_self_eq_false,Bool.false_eq_true,if_false];have e0:((vs.toArray.zip vs.toArray).map (·.2)).toList=vs:=by
   have:=List.map_snd_zip (Nat.le_refl vs.length)
   simpa using this
  refine wpAny_pure (fin _ (by rw[e0]) ?_)
  rw[e0];refine List.pairwise_iff_getElem.mpr fun i j hi hj hij=>?_
  rw[List.length_map] at hi hj;omega
 ·rw[if_neg h2,if_neg h2]
  obtain⟨v₁,v₂,r,rfl⟩:∃v₁ v₂ r,vs=v₁::v₂::r:=by
   match vs,hsz,h2 with
   | [],_,h2=>simp at h2
   | [_],_,h2=>simp at h2
   | v₁::v₂::r,_,_=>exact⟨v₁,v₂,r,rfl⟩
  refine wpAny_bind (U00 (s:={ s with heap:=g }) hv6.all ?_)
  have C:=cpP (P:=P) (w:=w) (A:=A) (E:=E) (s:={ s with heap:=g }) hv6 true
  refine wpAny_bind (wpAny_mono (runs C (st:=SortSt.mk' (tuples' true) ((v₁::v₂::r).toArray.zip (v₁::v₂::r).toArray) #[] 7 none)
   (Q:=fun _ t=>(arrOf t).Perm (pairsOf (v₁::v₂::r))/\failedOf t=none/\Up (rl0 g) (arrOf t) (pairsOf (v₁::v₂::r)).size)
   ⟨rfl,Array.Perm.refl _,rfl,rfl⟩ (by rw[pairsOf_size]; simp) (by rw[pairsOf_size]; exact h64) fun t a1 a2 a3=>⟨a1,a2,a3⟩) ?_ fun _ _ e=>e)
  rintro⟨⟨⟩,t⟩ s' ⟨es,hp,hf,hup⟩
  subst es
  dsimp only
  refine wpAny_bind (seqEpoch_at h6 rfl (wpAny_bind (listUpdate_at h6 rfl ?_ (hsz2:=by refine Nat.le_trans (Nat.le_of_eq ((Array.size_map ..).trans (hp.size_eq.trans (pairsOf_size _)))) ?_; rw[sizeLine_eq]; omega))))
  rw[hf];simp only[bne_self_eq_false,Bool.false_eq_true,if_false];have hpl:(arrOf t).toList.Perm ((v₁::v₂::r).zip (v₁::v₂::r)):=by
   have:=Array.perm_iff_toList_perm.mp hp
   rwa [pairsOf_toList] at this
  have eq12:∀x∈(arrOf t).toList,x.1=x.2/\x.2∈v₁::v₂::r:=fun x hx=>by
   have hm:=hpl.mem_iff.mp hx
   obtain⟨i,hi,e⟩:=List.mem_iff_getElem.mp hm;rw[List.getElem_zip] at e;rw[← e];exact⟨rfl,List.getElem_mem _⟩
  have e2:((arrOf t).map (·.2)).toList=(arrOf t).toList.map (·.2):=by simp
  refine wpAny_pure (fin _ ?_ ?_)
  ·rw[e2]
   have:=hpl.map Prod.snd
   rwa [List.map_snd_zip (Nat.le_refl _)] at this
  ·rw[e2,List.map_map]
   refine List.pairwise_iff_getElem.mpr fun i j hi hj hij=>?_
   rw[List.length_map] at hi hj;rw[List.getElem_map,List.getElem_map];have hi':i<(arrOf t).size:=by simpa using hi
   have hj':j<(arrOf t).size:=by simpa using hj
   have:=hup i j (arrOf t)[i] (arrOf t)[j] hij (by rw[← hp.size_eq]; exact hj') (getElem?_pos _ i hi') (getElem?_pos _ j hj')
   have m1:=eq12 (arrOf t)[i] (by simp)
   have m2:=eq12 (arrOf t)[j] (by simp)
   unfold rl0 at this;rw[m1.1,m2.1,hpk _ m1.2,hpk _ m2.2] at this
   simpa using this
theorem Z30{l:Addr}{vs:List Value}{Q:Value->Shared->Prop}(hl:s.heap.IsList l vs.toArray)(hv:Prs s.heap vs)(h64:vs.length<64)
  (h:∀out:Array Value,out.toList.Perm vs->(out.toList.map (pk s.heap)).Pairwise (fun x y=>lt2 x y=true)->Q (.ref (s.heap.objs.size+1)) { s with heap:=sortedAll s.heap vs out }) :
  wpAny (model P w) A (call (.builtin "sorted") [.ref l]) Q E s:=by
 refine Calls.call_function_entry kind_sorted plain_sorted entry_sorted (args_sorted1 _) ?_
 unfold Builtin.«sorted»;refine wpAny_bind (m:=checkCount "sorted" 1 1 _) (wpAny_pure (wpAny_bind (collect_list hl (wpAny_bind (wpAny_newList ?_)))))
 have hsz:((s.heap.push (seqObj "list" #[] 0)).update s.heap.objs.size (Obj.mapSeq (·++vs.toArray))).objs.size=s.heap.objs.size+1:=by rw[Heap.size_update,size_push']
 obtain⟨g,hg⟩:∃g,g=((s.heap.push (seqObj "list" #[] 0)).update s.heap.objs.size (Obj.mapSeq (·++vs.toArray))).push (seqObj "list" vs.toArray 0):=⟨_,rfl⟩
 have hoL:g.get? (s.heap.objs.size+1)=some (seqObj "list" vs.toArray 0):=by
  rw[← hsz,hg]; exact Heap.get?_push_size _ rfl
 have kp:∀c o,s.heap.get? c=some o->o.cls=.type "tuple"->g.get? c=some o:=fun c o e1 _=>by
  have lc:=Heap.lt_size e1
  rw[hg];refine Heap.get?_push_of_some _ ?_
  rw[Heap.get?_update_ne _ _ _ _ (Nat.ne_of_lt lc)]
  exact Heap.get?_push_of_some _ e1
 obtain⟨hv2,hpk⟩:=hv.to kp;show wpAny _ _ _ _ _ { s with heap:=((s.heap.push (seqObj "list" #[] 0)).update s.heap.objs.size (Obj.mapSeq (·++vs.toArray))).push (seqObj "list" vs.toArray 0) }
 rw[hsz,← hg];refine wpAny_bind (wpAny_holding (wpAny_call_entry slot_list_sort ⟨_,hoL,rfl⟩ entry_list_sort (b70 (s:={ s with heap:=g }) hoL hv2 h64 fun out p1 p2=>⟨_,rfl,?_⟩) (args_list_sort _)))
 refine wpAny_pure ⟨_,rfl,?_⟩
 have p3:(out.toList.map (pk s.heap)).Pairwise (fun x y=>lt2 x y=true):=by
  rw[← List.map_congr_left fun v hv=>hpk v (p1.mem_iff.mp hv)]
  exact p2
 have:=h out p1 p3
 unfold sortedAll at this;rw[hg];exact this
end
end SoT
namespace SoT
def le2(a b:Int×Int):Bool:=!lt2 b a
def srt(ps:List (Int×Int)):List (Int×Int):=ps.mergeSort le2
theorem ww0{a b:Int×Int}:le2 a b=true↔¬(b.1<a.1∨(b.1=a.1/\b.2<a.2)):=by
 unfold le2 lt2;rw[Bool.not_eq_true',decide_eq_false_iff_not]
theorem Wr0(a b c:Int×Int)(h1:le2 a b=true)(h2:le2 b c=true):le2 a c=true:=by rw[ww0] at *; omega
theorem Ye0(a b:Int×Int):(le2 a b||le2 b a)=true:=by rw[Bool.or_eq_true,ww0,ww0]; omega
theorem W30{a b:Int×Int}(h1:le2 a b=true)(h2:le2 b a=true):a=b:=by
 rw[ww0] at *;exact Prod.ext (by omega) (by omega)
theorem qv0:∀{l m:List (Int×Int)},l.Perm m->l.Pairwise (fun a b=>le2 a b=true)->m.Pairwise (fun a b=>le2 a b=true)->l=m
 | [],m,h,_,_=>by rw[List.nil_perm.mp h]
 | a::l,[],h,_,_=>by exact absurd (List.perm_nil.mp h) (by simp)
 | a::l,b::m,h,h1,h2=>by
  have self:∀x:Int×Int,le2 x x=true:=fun x=>by rw[ww0]; omega
  have hab:le2 a b=true:=by
   rcases List.mem_cons.mp (h.mem_iff.mpr (List.mem_cons_self (a:=b) (l:=m))) with e|e
   ·rw[e]; exact self a
   ·exact List.rel_of_pairwise_cons h1 e
  have hba:le2 b a=true:=by
   rcases List.mem_cons.mp (h.mem_iff.mp (List.mem_cons_self (a:=a) (l:=l))) with e|e
   ·rw[e]; exact self b
   ·exact List.rel_of_pairwise_cons h2 e
  have e:=W30 hab hba
  subst e;rw[qv0 (List.Perm.cons_inv h) (List.pairwise_cons.mp h1).2 (List.pairwise_cons.mp h2).2]
theorem vr0(ps:List (Int×Int)):(srt ps).Perm ps:=List.mergeSort_perm ps le2
theorem mb0(ps:List (Int×Int)):(srt ps).Pairwise (fun a b=>le2 a b=true):=List.pairwise_mergeSort Wr0 Ye0 ps
theorem f60{l ps:List (Int×Int)}(hp:l.Perm ps)(h:l.Pairwise (fun a b=>lt2 a b=true)):l=srt ps :=
 qv0 (hp.trans (vr0 ps).symm) (h.imp fun {a b} z=>by rw[sm0] at z; rw[ww0]; omega) (mb0 ps)
theorem dv0{l m:List (Int×Int)}(h:l.Perm m):srt l=srt m:=qv0 ((vr0 l).trans (h.trans (vr0 m).symm)) (mb0 l) (mb0 m)
end SoT
namespace L2
open PySem PySem.Spec PyProof.Rows SoT
def PrV(H:Hp):List V->List (Int×Int)->Prop
 | [],[]=>True
 | v::vs,q::qs=>(∃a,v=.ref a/\H a=some (.tup [.int q.1,.int q.2]))/\PrV H vs qs
 | _,_=>False
section
variable{X:Cx}{pins:List (Addr×Obj)}{σ:List (Option V)}{s:Shared}{H:Hp}
theorem jo0(I:Inv X pins σ H s){a:Addr}{q:Int×Int}(h:H a=some (.tup [.int q.1,.int q.2])):PairAt s.heap (.ref a) q:=by
 obtain⟨its,rv,⟨o,e1,e2,n,e3⟩,_⟩:=I.tuple (X:=X) (xs:=[.int q.1,.int q.2]) (.inl (.inl h))
 cases rv with
 | cons r1 rv =>
  cases rv with
  | cons r2 rv =>
   cases rv;obtain⟨t,rfl⟩:=r1;obtain⟨u,rfl⟩:=r2;exact⟨a,o,n,t,u,rfl,e1,e2,e3⟩
theorem gj0(I:Inv X pins σ H s):∀{ys:List V} {its:List Value} {ps:List (Int×Int)},Vals ys its->PrV H ys ps->its.map (pk s.heap)=ps/\(∀v∈its,∃q,PairAt s.heap v q)/\∀v∈its,∃a,v=.ref a/\V.ref a∈ys/\H a=some (.tup [.int (pk s.heap v).1,.int (pk s.heap v).2])
 | [],_,[],.nil,_=>⟨rfl,(fun v h=>by cases h),(fun v h=>by cases h)⟩
 | [],_,_::_,.nil,h=>h.elim
 | y::ys,_,[],.cons _ _,h=>h.elim
 | y::ys,_,q::ps,.cons r rv,h=>by
  obtain⟨⟨a,rfl,ha⟩,h2⟩:=h;cases (show _=Value.ref a from r);obtain⟨i1,i2,i3⟩:=gj0 I rv h2;have e:=ws0 (jo0 I ha);refine⟨by rw[List.map_cons,i1,e],fun v hv=>?_,fun v hv=>?_⟩
  ·rcases List.mem_cons.mp hv with rfl|hv
   ·exact⟨q,jo0 I ha⟩
   ·exact i2 v hv
  ·rcases List.mem_cons.mp hv with rfl|hv
   ·exact⟨a,rfl,List.mem_cons_self,by rw[e]; exact ha⟩
   ·obtain⟨b,e1,e2,e3⟩:=i3 v hv
    exact⟨b,e1,List.mem_cons_of_mem _ e2,e3⟩
theorem ny0{h:Heap}{ys:List V}:∀{vs:List Value},(∀v∈vs,∃a,v=.ref a/\V.ref a∈ys/\H a=some (.tup [.int (pk h v).1,.int (pk h v).2]))->∃zs,Vals zs vs/\PrV H zs (vs.map (pk h))/\∀z∈zs,z∈ys
 | [],_=>⟨[],.nil,trivial,fun z hz=>by cases hz⟩
 | v::vs,hv=>by
  obtain⟨a,rfl,m,e⟩:=hv v List.mem_cons_self;obtain⟨zs,z1,z2,z3⟩:=ny0 (vs:=vs) fun u hu=>hv u (List.mem_cons_of_mem _ hu)
  exact⟨.ref a::zs,.cons rfl z1,⟨⟨a,rfl,e⟩,z2⟩,fun z hz=>by
   rcases List.mem_cons.mp hz with rfl|hz
   ·exact m
   ·exact z3 z hz⟩
theorem jy0:CallR X (.builtin "sorted") (fun xs H Q=>∃(p:Addr) (ys:List V) (ps:List (Int×Int)),xs=[.ref p]/\SqL X.K H p ys/\PrV H ys ps/\ps.Nodup/\ps.length<64/\∀l zs,H l=none->PrV H zs (srt ps)->(∀z∈zs,z∈ys)->Q (.ref l) (upd H l (.lst zs))):=by
 intro pins s σ H xs us Q I r h;obtain⟨p,ys,ps,rfl,hq,hp,hn,h64,k⟩:=h;obtain⟨u,rfl,rx⟩:=vals1 r;cases rx;obtain⟨its,rv,pl,hz⟩:=I.list hq;obtain⟨i1,i2,i3⟩:=gj0 I rv hp;have hl:its.length=ps.length:=by rw[← i1,List.length_map]
 refine Z30 pl.isList ⟨i2,by rw[i1]; exact hn⟩ (by omega) fun out p1 p2=>?_
 have hs:out.toList.map (pk s.heap)=srt ps:=by
  refine f60 ?_ p2
  have:=p1.map (pk s.heap)
  rwa [i1] at this
 obtain⟨zs,z1,z2,z3⟩:=ny0 (H:=H) (h:=s.heap) (ys:=ys) (vs:=out.toList) fun v hv=>i3 v (p1.mem_iff.mp hv)
 rw[hs] at z2;obtain⟨e,he⟩:=sortedAll_at s.heap its out;have hfr:H (s.heap.objs.size+1)=none:=I.hok.fresh (Nat.le_succ _);refine⟨.ref (s.heap.objs.size+1),_,I.laid (t':=s.toks) (a:=s.heap.objs.size+1) (o:=.lst zs) (fun b o hb=>sortedAll_old hb) (Nat.le_succ _) ⟨?_,out.toList,e,z1,he⟩,rfl,k _ zs hfr z2 z3⟩
 rw[z1.length,p1.length_eq];rw[rv.length] at hz;exact hz
end
end L2
namespace DL
open PySem PySem.Spec PyProof.Rows L2 SoT
def pD(q:Int×Int):D:=.tup [.int q.1,.int q.2]
def xo0:List D->Option (List (Int×Int))
 | []=>some []
 | .tup [.int i,.int j]::ds=>(xo0 ds).map fun r=>(i,j)::r
 | _=>none
def zj0:List D->Option D
 | [.lst ds]=>(xo0 ds).bind fun ps=>if ps.Nodup/\ps.length<64 then some (.lst ((srt ps).map pD)) else none
 | _=>none
theorem qu0:∀ps:List (Int×Int),xo0 (ps.map pD)=some ps
 | []=>rfl
 | q::ps=>by show (xo0 (ps.map pD)).map _=_; rw[qu0 ps]; rfl
theorem ai0{ps:List (Int×Int)}(h1:ps.Nodup)(h2:ps.length<64):zj0 [.lst (ps.map pD)]=some (.lst ((srt ps).map pD)):=by
 show (xo0 (ps.map pD)).bind _=_
 rw[qu0,Option.bind_some,if_pos ⟨h1,h2⟩]
section
variable{K:W.Frag}{H:Hp}{B:BS}
theorem ed0:∀{ds:List D} {ys:List V} {ps:List (Int×Int)},Rps K H B ds ys->xo0 ds=some ps->PrV H ys ps/\∀y∈ys,∃a,y=.ref a/\¬B a
 | [],ys,ps,r,h=>by
  rw[o8] at r;subst r;cases h;exact⟨trivial,fun y hy=>by cases hy⟩
 | d::ds,ys,ps,r,h=>by
  rw[o4] at r;obtain⟨x,t,rfl,r1,r2⟩:=r;unfold xo0 at h;split at h
  ·rename_i e; cases e
  ·rename_i i j ds' e
   injection e with e1 e2
   subst e1; subst e2;obtain⟨rs,e3,rfl⟩:=Option.map_eq_some_iff.mp h;obtain⟨i1,i2⟩:=ed0 r2 e3;rw[X4] at r1;obtain⟨a,xs,rfl,hq,rr⟩:=r1;rw[o4] at rr;obtain⟨x1,t1,rfl,q1,rr⟩:=rr;rw[o4] at rr;obtain⟨x2,t2,rfl,q2,rr⟩:=rr;rw[o8] at rr;subst rr;rw[n6] at q1 q2;subst q1; subst q2;exact⟨⟨⟨a,rfl,hq.2⟩,i1⟩,fun y hy=>by
    rcases List.mem_cons.mp hy with rfl|hy
    ·exact⟨a,rfl,hq.1⟩
    ·exact i2 y hy⟩
  ·cases h
theorem m50:∀{zs:List V} {qs:List (Int×Int)} {a:Addr},PrV H zs qs->V.ref a∈zs->H a≠none
 | [],_,_,_,hz=>by cases hz
 | _::_,[],_,h,_=>h.elim
 | z::zs,q::qs,a,h,hz=>by
  obtain⟨⟨b,e,hb⟩,h2⟩:=h;rcases List.mem_cons.mp hz with e2|hz
  ·rw[e] at e2
   cases e2;rw[hb];exact fun z=>nomatch z
  ·exact m50 h2 hz
theorem m10:∀{zs:List V} {qs:List (Int×Int)},PrV H zs qs->(∀z∈zs,∃a,z=.ref a/\¬B a)->Rps K H B (qs.map pD) zs
 | [],[],_,_=>by rw[List.map_nil,o8]
 | [],_::_,h,_=>h.elim
 | _::_,[],h,_=>h.elim
 | z::zs,q::qs,h,hb=>by
  obtain⟨⟨a,rfl,ha⟩,h2⟩:=h;rw[List.map_cons,o4];refine⟨_,_,rfl,?_,m10 h2 fun y hy=>hb y (List.mem_cons_of_mem _ hy)⟩
  obtain⟨b,e,nb⟩:=hb _ List.mem_cons_self;cases e;unfold pD;rw[X4];refine⟨a,_,rfl,⟨nb,ha⟩,?_⟩
  rw[o4];refine⟨_,_,rfl,by rw[n6],?_⟩
  rw[o4];exact⟨_,_,rfl,by rw[n6],by rw[o8]⟩
end
section
variable{X:Cx}{e:Expr}{pos p:Pos}{g:Ds->Option D}
theorem wc0(hm:X.mg "sorted"=none)(hv:bootBuiltins "sorted"=some (.builtin "sorted"))(ha:PD X e g)(hg:Gl X "sorted" := by rfl)
  (he:starEach [e] X.env=(false,eval e X.env)::starEach [] X.env:=by rfl) (hpl:(backTo pos (starEach [] X.env)).any (·.1)=false:=by rfl) :
  PDF X (.Call (.Name "sorted" p) [e] [] pos) (oA (z9 g v7) zj0):=.mk fun B δ=>(rt0 jy0 hg hm hv (z00 (ha B δ) yj0 he) (by decide) (by decide) he hpl).imp fun σ H Q ⟨d,en,h,k⟩=>by
 unfold oA z9 v7 at h
 cases e1:g δ with
 | none=>rw[e1] at h; cases h
 | some x =>
  rw[e1] at h;simp only[Option.bind_some,Option.map_some] at h;refine⟨x,en,e1,fun v H1 s1 r1=>?_⟩
  unfold zj0 at h;split at h
  ·rename_i ds he1
   injection he1 with he1
   subst he1
   cases e2:xo0 ds with
   | none=>rw[e2] at h; cases h
   | some ps =>
    rw[e2] at h;simp only[Option.bind_some] at h;split at h
    ·rename_i hz
     cases h;rw[Z5] at r1;obtain⟨q,ys,rfl,hq,rr⟩:=r1;obtain⟨v1,v2⟩:=ed0 rr e2;refine⟨q,ys,ps,rfl,hq.to,v1,hz.1,hz.2,fun l zs hl' hzs hin=>?_⟩
     refine k l _ (s1.free hl') (s1.trans (Z1 hl')) ⟨zs,j7,?_⟩
     refine Rps.same (Z1 hl') (m10 hzs fun z hz=>?_)
     obtain⟨a,rfl,nb⟩:=v2 z (hin z hz);refine⟨a,rfl,fun q=>q.elim nb fun q=>?_⟩
     subst q;exact m50 hzs hz hl'
    ·cases h
  ·cases h
end
end DL
namespace DL
open PySem PySem.Spec PyProof.Rows L2
def tz0(neg:Bool):D->D->Option D
 | x,.lst ys=>if lean x 50=true/\leans ys 50=true then some (.bl (xor neg (ys.any fun y=>deq y x))) else none
 | _,_=>none
def Xw0(K:W.Frag)(neg:Bool):R2:=fun x y H Q=>∃(B B':BS) (dx:D) (ds:List D) (p:Addr) (xs:List V),y=.ref p/\SqL K H p xs/\Rp K H B dx x/\Rps K H B' ds xs/\lean dx 50=true/\leans ds 50=true/\Q (.bl (xor neg (ds.any fun d=>deq d dx))) H
section
variable{X:Cx}{K:W.Frag}
open Classical in
theorem Yh0{pins:List (Addr×Obj)}{s:Shared}{σ:L2.St}{H:Hp}{B B':BS}(I:Inv X pins σ H s){dx:D}{ds:List D}{x:V}{v:Value}{xs:List V}{its:List Value}{A:Around}(hu:A.units+50<cLine)(hx:Rp X.K H B dx x)(rx:RelV x v)(hs:Rps X.K H B' ds xs)(rv:Vals xs its)(lx:lean dx 50=true)(ls:leans ds 50=true) :
  ∃f:Value->Bool,(∀w∈its,SeqAt.EqAt A s w v (f w))/\its.any f=ds.any fun d=>deq d dx:=by
 have at_:∀j w,its[j]?=some w->∃d,ds[j]?=some d/\SeqAt.EqAt A s w v (deq d dx):=fun j w hw=>by
  have hj:j<its.length:=(List.getElem?_eq_some_iff.mp hw).1
  have l1:=rv.length
  have l2:=hs.length
  obtain⟨y,ey,ry⟩:=hs.get (i:=j) (List.getElem?_eq_getElem (by omega:j<ds.length))
  obtain⟨u,eu,ru⟩:=rv.get ey;rw[hw] at eu;cases eu;exact⟨_,List.getElem?_eq_getElem (by omega),mn0 I 50 50 _ _ _ _ _ _ A hu (vz0 ls (List.getElem?_eq_getElem (by omega))) lx ry hx ru rx⟩
 refine⟨fun w=>decide (∃(j:Nat) (d:D),its[j]?=some w/\ds[j]?=some d/\deq d dx=true),fun w hw=>?_,?_⟩
 ·obtain⟨j,hj⟩:=List.mem_iff_getElem?.mp hw
  dsimp only
  by_cases h:∃(j:Nat) (d:D),its[j]?=some w/\ds[j]?=some d/\deq d dx=true
  ·rw[decide_eq_true h]
   obtain⟨i,d,e1,e2,e3⟩:=h;obtain⟨d',e4,q⟩:=at_ i w e1;rw[e2] at e4;cases e4;rw[e3] at q;exact q
  ·rw[decide_eq_false h]
   obtain⟨d',e4,q⟩:=at_ j w (by assumption)
   cases e5:deq d' dx with
   | true=>exact absurd ⟨j,d',by assumption,e4,e5⟩ h
   | false=>rw[e5] at q; exact q
 ·rw[Bool.eq_iff_iff,List.any_eq_true,List.any_eq_true]
  constructor
  ·rintro⟨w,_,h⟩
   obtain⟨j,d,_,e2,e3⟩:=of_decide_eq_true h;exact⟨d,List.mem_of_getElem? e2,e3⟩
  ·rintro⟨d,hd,h⟩
   obtain⟨j,hj⟩:=List.mem_iff_getElem?.mp hd;have l1:=rv.length;have l2:=hs.length;have hlt:j<its.length:=by have:=(List.getElem?_eq_some_iff.mp hj).1; omega
   exact⟨its[j],List.getElem_mem hlt,decide_eq_true ⟨j,d,List.getElem?_eq_getElem hlt,hj,h⟩⟩
theorem Zu0(hu:X.A.units+64<cLine):OpR X (compareOp .NotIn) (Xw0 X.K true):=by
 intro pins s σ H x y v u Q I rx ry h;obtain⟨B,B',dx,ds,p,xs,rfl,hq,hx,hs,lx,ls,q⟩:=h;cases ry;obtain⟨its,r,pl,hz⟩:=I.list hq;obtain⟨f,f1,f2⟩:=Yh0 (A:=X.A.in1) I (by show X.A.units+1+50<cLine; omega) hx rx hs r lx ls
 refine SeqAt.notIn_listAt f pl.isList (fun w hw=>f1 w (by simpa using hw)) ⟨.bl _,H,I,rfl,?_⟩
 rw[show its.toArray.any f=its.any f by simp,f2]
 rw[Bool.true_xor] at q;exact q
theorem ay0(neg:Bool):Op2 K (Xw0 K neg) (tz0 neg):=by
 intro H B x y dx dy d Q hb rx ry h k;unfold tz0 at h;split at h
 ·rename_i ds
  split at h
  ·rename_i hl
   cases h;rw[Z5] at ry;obtain⟨p,xs,rfl,hq,rr⟩:=ry;exact⟨B,B,dx,ds,p,xs,rfl,hq.to,rx,rr,hl.1,hl.2,k _ H (Same.refl H) (by rw[Y4])⟩
  ·cases h
 ·cases h
end
def y90:List D->Option D
 | [.lst ds]=>(s90 ds).bind fun is=>if is.length<=4000 then some (.int (PyProof.Rows.firstMet (fun i=>is.getD i 0) is.length).length) else none
 | _=>none
section
variable{X:Cx}{e:Expr}{pos p pos2 p2:Pos}{g:Ds->Option D}
theorem lr0:∀{is:List Int} {us:List Value},Vals (is.map V.int) us->PyProof.Rows.IntsAre us is
 | [],_,.nil=>.nil
 | i::is,_,.cons r rv=>by
  obtain⟨t,rfl⟩:=r;exact .cons i t (lr0 rv)
theorem ic0{te:TE}(hc:X.calm=true)(hl:X.mg "len"=none)(hs:X.mg "set"=none)(he:PE X e te)(bs:bootBuiltins "set"=some (.type "set"))(hgl:Gl X "len" := by rfl)(hgs:Gl X "set" := by rfl)
  (e1:starEach [.Call (.Name "set" p2) [e] [] pos2] X.env=(false,eval (.Call (.Name "set" p2) [e] [] pos2) X.env)::starEach [] X.env:=by rfl) (e2:starEach [e] X.env=(false,eval e X.env)::starEach [] X.env:=by rfl)
  (h1:(backTo pos (starEach [] X.env)).any (·.1)=false:=by rfl) (h2:(backTo pos2 (starEach [] X.env)).any (·.1)=false:=by rfl) :
  PE X (.Call (.Name "len" p) [.Call (.Name "set" p2) [e] [] pos2] [] pos) (fun σ H Q=>te σ H fun v H'=>∃(q:Addr) (is:List Int),v=.ref q/\SqL X.K H' q (is.map V.int)/\is.length<=4000/\Q (.int (PyProof.Rows.firstMet (fun i=>is.getD i 0) is.length).length) H'):=by
 intro pins s σ H Q I h;refine wpAny_Call_Name_kw (N5 I hgl hl PySem.boot_len ?_ (by decide) (by decide))
 refine PyProof.Rows.callWith_builtin1 ?_ e1 h1
 rw[e1];show wpAny _ _ (spliced ((false,eval (.Call (.Name "set" p2) [e] [] pos2) X.env)::backTo pos (starEach [] X.env))) _ _ s;refine Calls.spliced_cons ?_
 refine wpAny_Call_Name_kw (N5 I hgs hs bs ?_ (by decide) (by decide))
 refine PyProof.Rows.callWith_type1 ?_ e2 h2
 rw[e2];show wpAny _ _ (spliced ((false,eval e X.env)::backTo pos2 (starEach [] X.env))) _ _ s;refine Calls.spliced_cons (thn (he pins s σ H _ I h) fun u s1 ⟨v,H1,I1,r1,q,is,ev,hq,hy,k⟩=>Calls.spliced_nil ?_)
 subst ev;obtain rfl:u=Value.ref q:=r1;obtain⟨its,rv,pl,_⟩:=I1.list hq;have hn:=rv.length;rw[List.length_map] at hn;refine call_set_list (I1.ok.hd hc) pl.isList (by simpa using lr0 rv) (by show its.toArray.size+1<4096; simp; omega) fun h' tk hS hk=>Calls.spliced_nil ?_
 obtain⟨o,els,ep,t,ho,hex,hd,hel,hmem,hb,hf,hm⟩:=hS;refine PySem.call_len_set (s:={ s1 with heap:=h',toks:=tk }) ho hex hd hf (by
  have:=hb
  have z:scanBound=4096:=rfl
  omega) ?_
 rw[hm,show its.toArray.size=is.length by simp[hn]]
 have I2:Inv X pins σ H1 { s1 with heap:=h',toks:=tk+1+1 }:=I1.kept fun b o e=>hk b o (Heap.lt_size e) e
 exact⟨.int _,H1,I2,⟨_,rfl⟩,k⟩
theorem ql0(hl:X.mg "len"=none)(hs:X.mg "set"=none)(he:PD X e g)(hc:X.calm=true:=by rfl)(hgl:Gl X "len" := by rfl)(hgs:Gl X "set" := by rfl)
  (e1:starEach [.Call (.Name "set" p2) [e] [] pos2] X.env=(false,eval (.Call (.Name "set" p2) [e] [] pos2) X.env)::starEach [] X.env:=by rfl) (e2:starEach [e] X.env=(false,eval e X.env)::starEach [] X.env:=by rfl)
  (h1:(backTo pos (starEach [] X.env)).any (·.1)=false:=by rfl) (h2:(backTo pos2 (starEach [] X.env)).any (·.1)=false:=by rfl) :
  PD X (.Call (.Name "len" p) [.Call (.Name "set" p2) [e] [] pos2] [] pos) (oA (z9 g v7) y90):=.mk fun B δ =>
 (ic0 hc hl hs (he B δ) b_set hgl hgs e1 e2 h1 h2).imp fun σ H Q ⟨d,en,h,k⟩=>by
  unfold oA z9 v7 at h
  cases e3:g δ with
  | none=>rw[e3] at h; cases h
  | some x =>
   rw[e3] at h;simp only[Option.bind_some,Option.map_some] at h;unfold y90 at h;cases x<;>try cases h
   rename_i ds
   dsimp only at h
   cases e4:s90 ds with
   | none=>rw[e4] at h; cases h
   | some is =>
    rw[e4] at h;simp only[Option.bind_some] at h;split at h
    ·rename_i hz
     cases h;refine⟨_,en,e3,fun v H' s r=>?_⟩
     rw[Z5] at r;obtain⟨q,xs,rfl,hq,rr⟩:=r;have:=j30 rr e4;subst this;exact⟨q,is,rfl,hq.to,hz,k _ H' s (by rw[n6])⟩
    ·cases h
end
end DL
namespace L2
open PySem PySem.Spec PyProof.Rows PySem.W
def Itv(K:W.Frag)(a:Addr)(n:Nat):It :=
 ⟨fun i H=>∃xs x,SqL K H a xs/\xs.length=n/\i<n/\xs[n - 1 - i]?=some x,fun i H x H'=>H'=H/\∀xs,SqL K H a xs->xs[n - 1 - i]?=some x,fun i _=>n<=i⟩
theorem dw0{P:Program}{w:World}{K:W.Frag}{tg:Expr}(a it:Addr)(n:Nat):Turn P w K tg (Itv K a n) [it] it (fun i h=>i<=n/\h.IsRevIter it a ((n:Int) - 1 - (i:Int))) where
 mem:=by simp
 obj:=fun i h st b hb=>by
  have e:b=it:=by simpa using hb
  subst e;obtain⟨_,o,e,c,d⟩:=st;exact⟨o,e,fun v z=>by rw[d] at z; cases z⟩
 keep:=fun i h h' st k=>⟨st.1,st.2.at fun o e=>k it (by simp) o e⟩
 item:=by
  intro X hP hw hK hc i pins s σ H E I hf st hg;subst hP hw hK;obtain⟨_,st⟩:=st;obtain⟨xs,x,hq,hn,hi,hx⟩:=hg;obtain⟨its,rv,p,hz⟩:=I.list hq;obtain⟨u,hu,ru⟩:=rv.get hx;obtain⟨f0,f1,f2,f3,f4,f5⟩:=hf it (by simp)
  have e1:(n:Int) - 1 - (i:Int)=((n - 1 - i:Nat):Int):=by omega
  rw[e1] at st;refine wpAny_pyNext_rev_item st p.isList (x:=u) (by simpa using hu) fun h' st' sb=>?_
  have e2:((n - 1 - i:Nat):Int) - 1=(n:Int) - 1 - ((i+1:Nat):Int):=by omega
  rw[e2] at st';have I1:Inv X pins σ H { s with heap:=h' }:=I.turned (t':=s.toks) (fun b o hb e=>(sb.2 b hb).trans e) f0 f1 f3 f4 f5
  obtain⟨o,e,c,d⟩:=id st';exact⟨u,rfl,ns0 (s:={ s with heap:=h' }) e c d (by decide) ⟨x,H,I1,ru,⟨rfl,fun ys hy=>by rw[I.list_inj hy hq]; exact hx⟩,⟨by omega,st'⟩,fun b hb=>(hf b hb).1⟩⟩
 done:=by
  intro X hP hw hK hc i pins s σ H E I hf st hg;subst hP hw hK;obtain⟨hle,st⟩:=st;have hx:n=i:=Nat.le_antisymm hg hle;subst hx;obtain⟨f0,f1,f2,f3,f4,f5⟩:=hf it (by simp)
  have e1:(n:Int) - 1 - (n:Int)=-1:=by omega
  rw[e1] at st;exact wpAny_pyNext_rev_end (I.ok.hd hc) st fun h' eb=>⟨rfl,I.turned (t':=s.toks) (fun b o hb e=>eb b o hb e) f0 f1 f3 f4 f5⟩
 self:=fun _ _ _ _ _ st h=>wpAny_pyIter_revIter st.2 h
section
variable{X:Cx}{tg:Expr}
def Ue0(K:W.Frag)(ta:TA):TI:=fun σ H R=>ta σ H fun vs H1=>∃a xs,vs=[.ref a]/\SqL K H1 a xs/\R (Itv K a xs.length) H1
theorem ev0:bootBuiltins "reversed"=some (.type "reversed"):=by decide +kernel
theorem Wq0{a:Expr}{ta:TA}{p pos:Pos}(hg:Gl X "reversed")(hm:X.mg "reversed"=none)(ha:PA X [a] ta)(hs:starEach [a] X.env=(false,eval a X.env)::starEach [] X.env:=by rfl)(hpl:(backTo pos (starEach [] X.env)).any (·.1)=false:=by rfl) :
  PI X tg (.Call (.Name "reversed" p) [a] [] pos) (Ue0 X.K ta):=by
 intro pins s σ H R I h;refine Call_ (N5 I hg hm ev0 (PyProof.Rows.callWith_type1 (thn (ha pos pins s σ H _ I h) fun us s1 ⟨vs,H1,I1,r1,q1⟩=>?_) hs hpl))
 obtain⟨qa,xs,e,h1,q⟩:=q1;subst e
 cases r1 with
 | cons r rr =>
  cases rr;obtain rfl:=r;obtain⟨us1,v1,p1,z1⟩:=I1.list h1;have hl:=v1.length;refine call_reversed_list p1.isList ?_
  have hI:(s1.heap.push (revObj qa ((us1.toArray.size:Int) - 1))).IsRevIter s1.heap.objs.size qa ((us1.toArray.size:Int) - 1):=⟨_,Heap.get?_push_size _ rfl,rfl,rfl⟩
  refine wpAny_pyIter_revIter (s:={ s1 with heap:=s1.heap.push (revObj qa ((us1.toArray.size:Int) - 1)) }) hI ?_
  refine⟨s1.heap.objs.size,[s1.heap.objs.size],_,_,H1,rfl,I1.kept (t':=s1.toks) fun b o e=>Heap.get?_push_of_some _ e,dw0 qa _ xs.length,?_,fun b hb=>?_,q⟩
  ·have e0:((xs.length:Int) - 1 - ((0:Nat):Int))=(us1.toArray.size:Int) - 1:=by simp[hl]
   refine⟨Nat.zero_le _,?_⟩
   rw[e0];exact hI
  ·have e:b=s1.heap.objs.size:=by simpa using hb
   subst e;exact I1.fpOk (Nat.le_refl _) (I1.hok.fresh (Nat.le_refl _))
end
end L2
namespace DL
open PySem PySem.Spec PyProof.Rows L2
def p90(gA:GA):GA:=fun δ=>(gA δ).bind fun ds=>match ds with
 | [.lst l]=>some l.reverse
 | _=>none
def q70(i:Nat)(gx:GX):GX:=fun δ=>(owL i δ).bind fun _=>(gx δ).bind fun r=>(owL i r.2).bind fun ds=>if ds.length<sizeLine then some (.non,r.2.set i (.ow (.lst (ds++[r.1])))) else none
section
variable{X:Cx}{a b e:Expr}{ga gb g:GE}{gA:GA}{gx:GX}{x:Str}{tg:Expr}{px p apos cpos pos:Pos}
theorem bs0(hm:X.mg "reversed"=none)(ha:PDA X [a] gA)(hg:Gl X "reversed" := by rfl)(hs:starEach [a] X.env=(false,eval a X.env)::starEach [] X.env:=by rfl)(hpl:(backTo pos (starEach [] X.env)).any (·.1)=false:=by rfl) :
  PID X tg (.Call (.Name "reversed" p) [a] [] pos) (p90 gA):=.mk fun B δ=>L2.PI.imp (Wq0 hg hm (ha B δ) hs hpl) fun σ H R ⟨items,en,e1,k⟩=>by
 unfold p90 at e1
 cases e2:gA δ with
 | none=>rw[e2] at e1; cases e1
 | some ds =>
  rw[e2] at e1;simp only[Option.bind_some] at e1;split at e1<;>try cases e1
  rename_i l;refine⟨_,en,e2,fun vs H' s' r=>?_⟩
  rw[o4] at r;obtain⟨x,t,rfl,r1,r⟩:=r;rw[o8] at r; subst r;rw[Z5] at r1;obtain⟨q,xs,rfl,sq,rs⟩:=r1;have hl:=rs.length;refine⟨q,xs,rfl,sq.to,k _ H' s' ⟨fun i H2 g2 hi=>?_,fun i H2 x H3 g2 y hi=>?_,fun i H2 g2 hi=>?_⟩⟩
  ·rw[List.length_reverse] at hi
   have:xs.length - 1 - i<xs.length:=by omega
   exact⟨xs,xs[xs.length - 1 - i],(sq.mono g2).to,rfl,by omega,List.getElem?_eq_getElem this⟩
  ·obtain⟨e3,y⟩:=y
   subst e3;rw[List.length_reverse] at hi;have hj:l.length - 1 - i<l.length:=by omega
   obtain⟨y',e4,ry⟩:=rs.get (i:=l.length - 1 - i) (List.getElem?_eq_getElem hj)
   have ey:=y xs (sq.mono g2).to
   rw[hl,e4] at ey;cases ey;refine⟨Same.refl _,l[l.length - 1 - i],?_,fun B' gB hb=>ry.mono gB⟩
   rw[List.getElem?_reverse hi,List.getElem?_eq_getElem hj]
  ·rw[List.length_reverse] at hi
   rw[hl];exact hi
theorem eo0(ha:PD X a ga)(hb:PD X b gb):PDF X (.BinOp a .Mult b pos) (o2 ga gb mulL):=.mk fun B δ=>(cm0 aw0 (ha B δ) (hb B δ)).imp fun σ H Q ⟨d,en,h,k⟩=>by
 unfold o2 at h
 cases e1:ga δ with
 | none=>rw[e1] at h; cases h
 | some x =>
  cases e2:gb δ with
  | none=>rw[e1,e2] at h; cases h
  | some y =>
   rw[e1,e2] at h;simp only[Option.bind_some] at h;refine⟨x,en,e1,fun v1 H1 s1 r1=>⟨y,en.same s1,e2,fun v2 H2 s2 r2=>?_⟩⟩
   unfold mulL at h;split at h
   ·split at h
    ·rename_i hz
     cases h;have r1:=r1.same s2;rw[Z5] at r1;rw[n6] at r2;subst r2;obtain⟨a,xs,rfl,q1,rr⟩:=r1;refine⟨a,xs,_,rfl,rfl,q1.to,fun z=>hz.1 ?_,hz.2.1,hz.2.2.1,by rw[rr.length]; exact hz.2.2.2,fun p hp=>k p _ ((s1.trans s2).free hp) ((s1.trans s2).trans (Z1 hp)) ⟨_,j7,(pi0 rr _).mono (Gr.fresh hp)⟩⟩
     subst z;have hn:=rr.length
     simp at hn
     exact List.length_eq_zero_iff.mp hn.symm
    ·cases h
   ·cases h
theorem Zg0(i:Nat)(h:PX X e gx)(hN:X.N[i]?=some x:=by rfl)(hv:Vis X.env.scope x:=by first|exact Or.inl rfl|exact Or.inr (Or.inl rfl)|exact Or.inr (Or.inr rfl))(hd:(x==("__debug__" : Str))=false:=by decide)(hcd:(x==("__classdict__" : Str))=false:=by decide)
  (hbase:attributeBase (.Name x px) "append" X.env (eval (.Name x px) X.env)=eval (.Name x px) X.env:=by rfl)
  (hfew:((backTo cpos (starEach [e] X.env)).all (fun x=>!x.1)&&(backToKw cpos (keywordEach [] X.env)).all (fun x=>x.1.isSome)
  &&decide (([e]:List Expr).length+([]:List Keyword).length+(if ([]:List Keyword).isEmpty then 0 else 1)<30))=true:=by rfl)
  (hline:(apos.endLine==cpos.line)=true:=by rfl) (hs:starEach [e] X.env=(false,eval e X.env)::starEach [] X.env:=by rfl) (hplain:(backTo cpos (starEach [] X.env)).any (·.1)=false:=by rfl) :
  PX X (.Call (.Attribute (.Name x px) "append" apos) [e] [] cpos) (q70 i gx):=.mk fun H₀ B₀ δ pins s σ H Q I ⟨r,en,e1,k⟩=>by
 unfold q70 at e1;obtain⟨B,b1,b2,env⟩:=en.ex
 cases e2:owL i δ with
 | none=>rw[e2] at e1; cases e1
 | some ds0 =>
  rw[e2] at e1;simp only[Option.bind_some] at e1
  cases e3:gx δ with
  | none=>rw[e3] at e1; cases e1
  | some r' =>
   rw[e3] at e1;simp only[Option.bind_some] at e1
   cases e4:owL i r'.2 with
   | none=>rw[e4] at e1; cases e1
   | some ds =>
    rw[e4] at e1;simp only[Option.bind_some] at e1;split at e1
    ·rename_i hz
     cases e1;obtain⟨a,hs',hb,xs,hx,rx⟩:=env.at (w80 e2);refine qf0 PySem.F.plainAttrs_list PySem.F.slot_list_append PySem.F.type_list_append s50 (yl0 (i:=i) hN hv hd hcd) (z00 (h H₀ B₀ δ) yj0 hs) hbase hfew hline hs hplain pins s σ H Q I
      ⟨_,hs',.inl ⟨rfl,xs,.inl (.inl hx)⟩,r',en,e3,fun v H1 ev=>?_⟩
     obtain⟨B2,c1,c2,env2,rv⟩:=ev.ex;have hi2:=w80 e4;obtain⟨a2,hs2,hb2,ys,hy,ry⟩:=env2.at hi2;rw[hs'] at hs2;cases hs2;refine⟨a,ys,v,rfl,rfl,hy,by rw[ry.length]; exact hz,?_⟩
     have env3:Env X.K (upd H1 a (.lst (ys++[v]))) B2 σ (r'.2.set i (.ow (.lst (ds++[r'.1])))):=env2.mut hi2 hs' ⟨_,j7,(Rps.snoc ry rv).mono (Gr.own hb2)⟩
     exact k _ _ (EnvV.mk' (ev.s.mut (Same.refl H1) c1 c2 hi2 hs' env3) c1 c2 env3 (by rw[W0]))
    ·cases e1
end
def q60:List D->Option D
 | [.int i,.int j]=>if (-(2 ^ 62)<=i/\i<2 ^ 62)/\(-(2 ^ 62)<=j/\j<2 ^ 62)/\j - i<=1000000 then some (.lst (U7 i j)) else none
 | _=>none
section
variable{X:Cx}{e f:Expr}{pos p pos2 p2:Pos}{gA:Ds->Option (List D)}
def dd0:List V->Hp->VK->Prop:=fun vs H Q=>∃i j:Int,vs=[.int i,.int j]/\(-(2 ^ 62)<=i/\i<2 ^ 62)/\(-(2 ^ 62)<=j/\j<2 ^ 62)/\j - i<=1000000/\∀l,H l=none->Q (.ref l) (upd H l (.lst ((List.range (j - i).toNat).map fun (k:Nat)=>V.int (i+(k:Int)))))
theorem pg0{X:Cx}(hc:X.calm=true:=by rfl):up0 X (.type "list") (.type "range") dd0:=by
 intro pins s σ H vs us Q I r h;obtain⟨i,j,rfl,h1,h2,h3,k⟩:=h
 cases r with
 | cons r rr =>
  cases rr with
  | cons r' rr =>
  cases rr;obtain⟨t,rfl⟩:=r;obtain⟨t',rfl⟩:=r';refine call_range_2 ?_
  have hsz:Builtin.Range.rangeSize i j 1=((j - i).toNat:Nat):=by rw[rangeSize_one]; split<;>omega
  have zl:(1000000:Nat)<=sizeLine:=by decide
  refine call_list_range (n:=(j - i).toNat) (I.ok.hd hc) (IsRange.new ..) (small_one h1.1 h1.2 h2.1 h2.2) hsz (by
   have:(1000000:Nat)<=2 ^ 24:=by decide
   omega) fun h' tk acc c hk ha hi=>?_
  have hS:∀o:Obj,(s.heap.push o).objs.size=s.heap.objs.size+1:=fun o=>Heap.size_push ..
  have hf:H (s.heap.objs.size+1)=none:=I.hok.fresh (Nat.le_succ _)
  show EP X pins σ Q (.ref (s.heap.push _).objs.size) _
  rw[hS];refine⟨.ref (s.heap.objs.size+1),_,I.laid (a:=s.heap.objs.size+1) (o:=.lst ((List.range (j - i).toNat).map fun (k:Nat)=>V.int (i+(k:Int)))) (t':=tk) (fun b o q=>hk b o (Heap.get?_push_of_some _ q)) (Nat.le_succ _) ⟨by rw[List.length_map,List.length_range]; omega,acc.toList,c,?_,by rw[← hS]; exact ha⟩,rfl,k _ hf⟩
  have key:∀(l:List Value) (m:Nat),(∀q v,l[q]?=some v->∃t,v=Value.int (i+((m+q:Nat):Int)) t)->Vals ((List.range' m l.length).map fun (k:Nat)=>V.int (i+(k:Int))) l:=by
   intro l
   induction l with
   | nil=>intro m _; exact .nil
   | cons v l ih =>
    intro m h;obtain⟨t0,e0⟩:=h 0 v rfl;rw[List.length_cons,List.range'_succ,List.map_cons];refine .cons ⟨t0,by simpa using e0⟩ (ih (m+1) fun q w hw=>?_)
    obtain⟨t1,e1⟩:=h (q+1) w (by simpa using hw)
    exact⟨t1,by rw[e1]; congr 2; omega⟩
  have hlen:acc.toList.length=(j - i).toNat:=by rw[Array.length_toList]; exact hi.1
  have:=key acc.toList 0 (fun q v hv=>by
   obtain⟨t0,e0⟩:=hi.2 q v (by simpa using hv)
   exact⟨t0,by rw[e0]; simp⟩)
  rw[hlen,← List.range_eq_range'] at this;exact this
theorem kr0(hm1:X.mg "list"=none)(hm2:X.mg "range"=none)(ha:PDA X [e,f] gA)(hc:X.calm=true:=by rfl)(hg1:Gl X "list" := by rfl)(hg2:Gl X "range" := by rfl)
  (e1:starEach [.Call (.Name "range" p2) [e,f] [] pos2] X.env=(false,eval (.Call (.Name "range" p2) [e,f] [] pos2) X.env)::starEach [] X.env:=by rfl) (h1:(backTo pos (starEach [] X.env)).any (·.1)=false:=by rfl)
  (he:starEach [e,f] X.env=(false,eval e X.env)::starEach [f] X.env:=by rfl) (hpl:(backTo pos2 (starEach [f] X.env)).any (·.1)=false:=by rfl) :
  PDF X (.Call (.Name "list" p) [.Call (.Name "range" p2) [e,f] [] pos2] [] pos) (oA gA q60):=.mk fun B δ=>(oh0 (pg0 hc) hg1 hg2 hm1 hm2 kz0 boot_range (ha B δ) (by decide) (by decide) (by decide) (by decide) e1 h1 he hpl).imp fun σ H Q ⟨d,en,h,k⟩=>by
 unfold oA at h
 cases e3:gA δ with
 | none=>rw[e3] at h; cases h
 | some ds =>
  rw[e3] at h;simp only[Option.bind_some] at h;unfold q60 at h;split at h<;>try cases h
  rename_i i j;split at h<;>try cases h
  rename_i hj;refine⟨_,en,e3,fun vs H1 s1 r=>?_⟩
  rw[o4] at r;obtain⟨x,t,rfl,r1,r⟩:=r;rw[o4] at r;obtain⟨y,t,rfl,r2,r⟩:=r;rw[o8] at r; subst r;rw[n6] at r1 r2; subst r1; subst r2;refine⟨i,j,rfl,hj.1,hj.2.1,hj.2.2,fun l hl=>k l _ (s1.free hl) (s1.trans (Z1 hl)) ⟨_,j7,?_⟩⟩
  have:∀(l:List Nat) (H:Hp) (B:BS),Rps X.K H B (l.map fun (k:Nat)=>D.int (i+(k:Int))) (l.map fun (k:Nat)=>V.int (i+(k:Int))):=by
   intro l H B
   induction l with
   | nil=>simp[o8]
   | cons a l ih =>
    rw[List.map_cons,List.map_cons,o4];exact⟨_,_,rfl,by rw[n6],ih⟩
  exact this _ _ _
end
end DL
namespace SoT
open PySem PySem.Spec PyProof.Rows ZipL
section
variable{prog:Program}{w:World}{A:Around}{E:Value->Shared->Prop}{s:Shared}{l1 l2:Addr}{xs ys:Array Value}
theorem jz0{Q:Value->Shared->Prop}{qs:List (Int×Int)}(hh:A.handled=none)(hl1:s.heap.IsList l1 xs)(hl2:s.heap.IsList l2 ys)(hq:qs.length=min xs.size ys.size)(hnd:qs.Nodup)(h64:qs.length<64)
  (hv:∀(j:Nat) q,qs[j]?=some q->∃t u,xs[j]?=some (.int q.1 t)/\ys[j]?=some (.int q.2 u))
  (h:∀(h':Heap) (tk:Nat) (as:List Addr) (out:Array Value) (L:Addr) (e:Nat),(∀b o,s.heap.get? b=some o->h'.get? b=some o)->as.length=qs.length->as.Nodup->(∀a∈as,s.heap.objs.size<=a/\a≠L)->s.heap.objs.size<=L ->
   (∀(j:Nat) (a:Addr),as[j]?=some a->∃x y,xs[j]?=some x/\ys[j]?=some y/\IsPair h' a x y)->h'.get? L=some (seqObj "list" out e)->out.toList.Perm (as.map Value.ref)->out.toList.map (pk h')=srt qs->Q (.ref L) { s with heap:=h',toks:=tk }) :
  wpAny (model prog w) A (call (.type "zip") [.ref l1,.ref l2]) (fun v s1=>wpAny (model prog w) A (call (.builtin "sorted") [v]) Q E s1) E s:=by
 have zs:(64:Nat)<=sizeLine:=by decide
 have a1:l1<s.heap.objs.size:=by obtain⟨_,e,_⟩:=hl1; exact Heap.lt_size e
 have a2:l2<s.heap.objs.size:=by obtain⟨_,e,_⟩:=hl2; exact Heap.lt_size e
 refine call_zip_2 hl1 hl2 fun h1 hz hTI hTO hi1 hi2 hsz hk=>?_
 have hl1':h1.IsList l1 xs:=hl1.at fun o e=>hk _ o e
 have hl2':h1.IsList l2 ys:=hl2.at fun o e=>hk _ o e
 have H:∀k,k<5->s.heap.objs.size+k<h1.objs.size:=fun k hk=>by rw[hsz]; exact Nat.add_lt_add_left hk _
 refine Calls.call_function_entry kind_sorted plain_sorted entry_sorted (args_sorted1 _) ?_
 unfold Builtin.«sorted»;refine wpAny_bind (m:=checkCount "sorted" 1 1 _) (wpAny_pure (wpAny_bind (rf0 (s:={ s with heap:=h1 }) (lo:=s.heap.objs.size) (xs:=xs) (ys:=ys) (by simp[hh]) (zipApart_new a1 a2) ⟨Nat.le_add_right _ 4,Nat.le_add_right _ 3,Nat.le_refl _,Nat.le_add_right _ 1⟩ (fun S n1 n2 n3=>⟨.inl ⟨rfl,hz,_,_,hTO⟩,hTI,hi1,hi2,hl1',hl2'⟩) (by omega)
  ⟨H 4 (by decide),H 2 (by decide),H 3 (by decide),H 0 (by decide),H 1 (by decide),Nat.lt_trans a1 (H 0 (by decide)),Nat.lt_trans a2 (H 0 (by decide))⟩ ⟨_,hz,rfl⟩ ⟨_,hz⟩ fun h2 tk as ze hlt=>?_)))
 obtain⟨k1,k2,g⟩:=ze;refine wpAny_bind (wpAny_newList ?_)
 have hal:as.length=qs.length:=by omega
 obtain⟨g2,hg2⟩:∃g2,g2=h2.push (seqObj "list" (as.map Value.ref).toArray 0):=⟨_,rfl⟩;have hoL:g2.get? h2.objs.size=some (seqObj "list" (as.map Value.ref).toArray 0):=by rw[hg2]; exact Heap.get?_push_size _ rfl
 have prs2:∀(j:Nat) (a:Addr),as[j]?=some a->∃q,qs[j]?=some q/\PairAt g2 (.ref a) q:=fun j a hj=>by
  obtain⟨x,y,e1,e2,e3⟩:=g.pairs j a hj;have hjl:j<qs.length:=by rw[← hal]; exact(List.getElem?_eq_some_iff.mp hj).1
  obtain⟨t,u,f1,f2⟩:=hv j qs[j] (List.getElem?_eq_getElem hjl)
  rw[e1] at f1;rw[e2] at f2;cases f1;cases f2;refine⟨qs[j],List.getElem?_eq_getElem hjl,a,_,0,t,u,rfl,by rw[hg2]; exact Heap.get?_push_of_some _ e3,rfl,rfl⟩
 have hpk:∀(h3:Heap),(∀a∈as,∀o,g2.get? a=some o->h3.get? a=some o)->(as.map Value.ref).map (pk h3)=qs:=fun h3 hk3=>by
  apply List.ext_getElem?
  intro j;rw[List.map_map,List.getElem?_map]
  cases hj:as[j]? with
  | none =>
   have:=List.getElem?_eq_none_iff.mp hj
   rw[List.getElem?_eq_none (by omega)]
   rfl
  | some a =>
   obtain⟨q,q1,b,o,n,t,u,e,e1,e2,e3⟩:=prs2 j a hj;cases e;rw[q1];show some (pk h3 (.ref a))=some q;rw[ws0 ⟨a,o,n,t,u,rfl,hk3 a (List.mem_of_getElem? hj) o e1,e2,e3⟩]
 have prs:Prs g2 (as.map Value.ref):=⟨fun v hv'=>by
  obtain⟨a,ha,rfl⟩:=List.mem_map.mp hv';obtain⟨j,hj⟩:=List.mem_iff_getElem?.mp ha;obtain⟨q,_,e⟩:=prs2 j a hj;exact⟨q,e⟩,by rw[hpk g2 fun _ _ _ e=>e]; exact hnd⟩
 show wpAny _ _ _ _ _ { s with heap:=h2.push (seqObj "list" (as.map Value.ref).toArray 0),toks:=tk }
 rw[← hg2];refine wpAny_bind (wpAny_holding (wpAny_call_entry slot_list_sort ⟨_,hoL,rfl⟩ entry_list_sort (b70 (s:={ s with heap:=g2,toks:=tk }) hoL prs (by rw[List.length_map]; omega) fun out p1 p2=>⟨_,rfl,?_⟩) (args_list_sort _)))
 refine wpAny_pure ⟨_,rfl,?_⟩
 dsimp only at p2 ⊢
 have keep:∀b o,b≠h2.objs.size->g2.get? b=some o->(sortedHeap g2 h2.objs.size (as.map Value.ref) out).get? b=some o:=fun b o hb e=>by rw[sortedHeap_old hb (Heap.lt_size e)]; exact e
 have hak:∀a∈as,∀o,g2.get? a=some o->(sortedHeap g2 h2.objs.size (as.map Value.ref) out).get? a=some o:=fun a ha o e=>keep a o (Nat.ne_of_lt (g.there ha)) e
 obtain⟨e,he⟩:=sortedHeap_at (out:=out) hoL;have hsz2:s.heap.objs.size<=h2.objs.size:=Nat.le_of_lt (Nat.lt_trans (H 0 (by decide)) hlt)
 refine h (sortedHeap g2 h2.objs.size (as.map Value.ref) out) tk as out h2.objs.size e (fun b o hb=>?_) hal (g.rise.imp fun h=>Nat.ne_of_lt h) (fun a ha=>⟨Nat.le_of_lt (Nat.lt_trans (H 0 (by decide)) (g.above a ha)),Nat.ne_of_lt (g.there ha)⟩) hsz2 (fun j a hj=>?_) he p1 ?_
 ·refine keep b o (Nat.ne_of_lt (Nat.lt_of_lt_of_le (Heap.lt_size hb) hsz2)) ?_
  rw[hg2];exact Heap.get?_push_of_some _ (k1 b o (Heap.lt_size hb) (hk b o hb))
 ·obtain⟨x,y,e1,e2,e3⟩:=g.pairs j a hj
  exact⟨x,y,e1,e2,hak a (List.mem_of_getElem? hj) _ (by rw[hg2]; exact Heap.get?_push_of_some _ e3)⟩
 ·have e5:out.toList.map (pk (sortedHeap g2 h2.objs.size (as.map Value.ref) out))=out.toList.map (pk g2):=List.map_congr_left fun v hv'=>by
   obtain⟨a,ha,rfl⟩:=List.mem_map.mp (p1.mem_iff.mp hv');obtain⟨j,hj⟩:=List.mem_iff_getElem?.mp ha;obtain⟨q,_,e6⟩:=prs2 j a hj;obtain⟨b,o,n,t,u,e,f1,f2,f3⟩:=e6;cases e;rw[ws0 ⟨a,o,n,t,u,rfl,f1,f2,f3⟩,ws0 ⟨a,o,n,t,u,rfl,hak a ha o f1,f2,f3⟩]
  rw[e5];refine f60 ?_ p2
  have:=p1.map (pk g2)
  rwa [hpk g2 fun _ _ _ e=>e] at this
end
end SoT
namespace L2
open PySem PySem.Spec PyProof.Rows SoT ZipL DL
section
variable{X:Cx}{pins:List (Addr×Obj)}{σ:List (Option V)}{H:Hp}{s:Shared}{h':Heap}
theorem Inv.laidM{l:List (Addr×HO)}{t':Nat}(I:Inv X pins σ H s)(k:∀b u,s.heap.get? b=some u->h'.get? b=some u)
  (hl:∀p∈l,s.heap.objs.size<=p.1/\∃xs,(p.2=.tup xs/\ObjOk X.prog X.w H h' p.1 (.tup xs))∨(p.2=.lst xs/\ObjOk X.prog X.w H h' p.1 (.lst xs))):Inv X pins σ (zq0 H l) { s with heap:=h',toks:=t' }:=by
 have low:∀b,b<s.heap.objs.size->zq0 H l b=H b:=fun b hb=>vx0 fun p hp z=>by
  have:=(hl p hp).1
  rw[z] at this;exact Nat.lt_irrefl _ (Nat.lt_of_lt_of_le hb this)
 refine I.un ⟨fun b u q _ _ _=>k b u q,fun b u q _ _ _=>⟨u.slots,k b u q⟩,fun b u q n _=>by rw[low b (Heap.lt_size q)]; exact n,fun b u q _=>⟨u,k b u q⟩,fun b xs q=>by rw[low b (I.hok.lt q)]; exact q,
  fun b u xs q=>by rw[low b (I.hok.lt q)]; exact q,fun b ps q=>⟨#[],by rw[low b (I.hok.lt q),q]; simp⟩⟩ fun b u e=>?_
 rcases ty0 e with⟨p,hp,rfl,rfl⟩|e'
 ·obtain⟨_,xs,⟨ex,ok⟩|⟨ex,ok⟩⟩:=hl p hp
  ·rw[ex]
   exact ok
  ·rw[ex]
   exact ok
 ·exact(I.hok b u e').stay (fun c v _ q=>k c v q) (fun c q=>by rw[low c (I.hok.lt q)]; exact q) fun c xs q=>by rw[low c (I.hok.lt q)]; exact q
end
section
variable{X:Cx}{e:Expr}{es:List Expr}{pos p pos2 p2:Pos}{x1 x2:Str}{T1 T2:String}{r:List V->Hp->VK->Prop}{t:TA}
theorem g70(hc:up0 X (.builtin T1) (.type T2) r)(hg1:Gl X x1)(hg2:Gl X x2)(hm1:X.mg x1=none)(hm2:X.mg x2=none)(hv1:bootBuiltins x1=some (.builtin T1))(hv2:bootBuiltins x2=some (.type T2))(ha:PA X (e::es) t)
  (hn1:x1 ≠"__name__" := by decide) (hd1:(x1==("__debug__" : Str))=false:=by decide) (hn2:x2 ≠"__name__" := by decide) (hd2:(x2==("__debug__" : Str))=false:=by decide)
  (e1:starEach [.Call (.Name x2 p2) (e::es) [] pos2] X.env=(false,eval (.Call (.Name x2 p2) (e::es) [] pos2) X.env)::starEach [] X.env:=by rfl) (h1:(backTo pos (starEach [] X.env)).any (·.1)=false:=by rfl)
  (he:starEach (e::es) X.env=(false,eval e X.env)::starEach es X.env:=by rfl) (hpl:(backTo pos2 (starEach es X.env)).any (·.1)=false:=by rfl) :
  PE X (.Call (.Name x1 p) [.Call (.Name x2 p2) (e::es) [] pos2] [] pos) (tCB r t):=by
 intro pins s σ H Q I h;refine wpAny_Call_Name_kw (N5 I hg1 hm1 hv1 ?_ hn1 hd1)
 refine PyProof.Rows.callWith_builtin1 ?_ e1 h1
 rw[e1];show wpAny _ _ (spliced ((false,eval (.Call (.Name x2 p2) (e::es) [] pos2) X.env)::backTo pos (starEach [] X.env))) _ _ s;refine Calls.spliced_cons ?_
 refine wpAny_Call_Name_kw (N5 I hg2 hm2 hv2 ?_ hn2 hd2)
 refine PyProof.Rows.callWith_type1 (thn (ha pos2 pins s σ H _ I h) fun us s1 ⟨vs,H1,I1,r1,q1⟩=>?_) he hpl
 exact thn (hc pins s1 σ H1 vs us Q I1 r1 q1) fun v s2 hv=>Calls.spliced_nil hv
end
def Wv0(K:W.Frag):List V->Hp->VK->Prop:=fun vs H Q=>∃q1 q2 xs ys,∃qs:List (Int×Int),vs=[.ref q1,.ref q2]/\SqL K H q1 xs/\SqL K H q2 ys/\qs.length=min xs.length ys.length/\qs.Nodup/\qs.length<64 /\
 (∀(j:Nat) q,qs[j]?=some q->xs[j]?=some (V.int q.1)/\ys[j]?=some (V.int q.2)) /\
 ∀(L:Addr) (as:List Addr) (zs:List V),as.length=(xs.zip ys).length->as.Nodup->L∉as->H L=none->(∀a∈as,H a=none)->PrV (zq0 H ((L,.lst zs)::S6 as (xs.zip ys))) zs (srt qs)->(∀z∈zs,∃a∈as,z=.ref a) ->
  Q (.ref L) (zq0 H ((L,.lst zs)::S6 as (xs.zip ys)))
theorem op0{X:Cx}(hc:X.calm=true:=by rfl):up0 X (.builtin "sorted") (.type "zip") (Wv0 X.K):=by
 intro pins s σ H vs us Q I r h;obtain⟨q1,q2,xs,ys,qs,rfl,h1,h2,hql,hnd,h64,hval,k⟩:=h
 cases r with
 | cons r1 r =>
  cases r with
  | cons r2 r =>
   cases r;obtain rfl:=r1;obtain rfl:=r2;obtain⟨us1,v1,p1,z1⟩:=I.list h1;obtain⟨us2,v2,p2,z2⟩:=I.list h2;have l1:=v1.length;have l2:=v2.length;have zs':(64:Nat)<=sizeLine:=by decide
   refine jz0 (qs:=qs) (I.ok.hd hc) p1.isList p2.isList (by rw[List.size_toArray,List.size_toArray]; omega) hnd h64 (fun j q hj=>?_) fun h' tk as out L e hk hl hnd2 ha hL hp gt pm hs=>?_
   ·obtain⟨e1,e2⟩:=hval j q hj
    obtain⟨u,g1,g2⟩:=v1.get e1;obtain⟨w,g3,g4⟩:=v2.get e2;obtain⟨t,rfl⟩:=g2;obtain⟨t2,rfl⟩:=g4;exact⟨t,t2,by simpa using g1,by simpa using g3⟩
   ·have hl':as.length=(xs.zip ys).length:=by rw[List.length_zip,hl]; omega
    have hLa:L∉as:=fun z=>(ha L z).2 rfl
    have hfst:(S6 as (xs.zip ys)).map Prod.fst=as:=u60 hl'
    have pr:∀a∈as,∃x y:Int,(a,HO.tup [.int x,.int y])∈S6 as (xs.zip ys)/\pk h' (.ref a)=(x,y):=fun a ham=>by
     have:a∈(S6 as (xs.zip ys)).map Prod.fst:=by rw[hfst]; exact ham
     obtain⟨p,hp1,rfl⟩:=List.mem_map.mp this;obtain⟨j,⟨x,y⟩,e1,e2,e3⟩:=u30 hp1;have hz:=List.getElem?_zip_eq_some.mp e2
     have hjl:j<qs.length:=by rw[← hl]; exact(List.getElem?_eq_some_iff.mp e1).1
     obtain⟨f1,f2⟩:=hval j qs[j] (List.getElem?_eq_getElem hjl)
     have ex:x=V.int qs[j].1:=by have:=hz.1; rw[f1] at this; exact(Option.some.inj this).symm
     have ey:y=V.int qs[j].2:=by have:=hz.2; rw[f2] at this; exact(Option.some.inj this).symm
     subst ex; subst ey;obtain⟨b,o⟩:=p
     dsimp only at e3 e1
     subst e3;refine⟨_,_,hp1,?_⟩
     obtain⟨u,w,c1,c2,c3⟩:=hp j b e1;obtain⟨u',g1,g2⟩:=v1.get f1;obtain⟨w',g3,g4⟩:=v2.get f2;obtain⟨t,rfl⟩:=g2;obtain⟨t2,rfl⟩:=g4;have eu:Value.int qs[j].1 t=u:=by
      have:us1.toArray[j]?=some (.int qs[j].1 t):=by simpa using g1
      rw[c1] at this; exact(Option.some.inj this).symm
     have ew:Value.int qs[j].2 t2=w:=by
      have:us2.toArray[j]?=some (.int qs[j].2 t2):=by simpa using g3
      rw[c2] at this; exact(Option.some.inj this).symm
     subst eu; subst ew;exact ws0 ⟨b,_,0,t,t2,rfl,c3,rfl,rfl⟩
    obtain⟨zs,hzs⟩:∃zs:List V,zs=out.toList.map fun v=>match v with|.ref a=>V.ref a|_=>V.int 0:=⟨_,rfl⟩
    have hin:∀v∈out.toList,∃a∈as,v=.ref a:=fun v hv=>by
     obtain⟨a,ha',rfl⟩:=List.mem_map.mp (pm.mem_iff.mp hv);exact⟨a,ha',rfl⟩
    have hzl:zs.length=out.toList.length:=by rw[hzs,List.length_map]
    have hol:out.toList.length=as.length:=by rw[pm.length_eq,List.length_map]
    have vz:∀l:List Value,(∀v∈l,∃a∈as,v=.ref a)->Vals (l.map fun v=>match v with|.ref a=>V.ref a|_=>V.int 0) l:=by
     intro l
     induction l with
     | nil=>intro _; exact .nil
     | cons v l ih =>
      intro hv;obtain⟨a,_,rfl⟩:=hv _ List.mem_cons_self;exact .cons rfl (ih fun u hu=>hv u (List.mem_cons_of_mem _ hu))
    have hN:(((L,HO.lst zs)::S6 as (xs.zip ys)).map Prod.fst).Nodup:=by rw[List.map_cons,hfst]; exact List.nodup_cons.mpr ⟨hLa,hnd2⟩
    have pv:∀l:List Value,(∀v∈l,∃a∈as,v=.ref a)->PrV (zq0 H ((L,.lst zs)::S6 as (xs.zip ys))) (l.map fun v=>match v with|.ref a=>V.ref a|_=>V.int 0) (l.map (pk h')):=by
     intro l
     induction l with
     | nil=>intro _; trivial
     | cons v l ih =>
      intro hv;obtain⟨a,ham,rfl⟩:=hv _ List.mem_cons_self;obtain⟨x,y,e1,e2⟩:=pr a ham;refine⟨⟨a,rfl,?_⟩,ih fun u hu=>hv u (List.mem_cons_of_mem _ hu)⟩
      rw[e2];exact v60 hN _ (List.mem_cons_of_mem _ e1)
    have hpv:=pv out.toList hin
    rw[← hzs,hs] at hpv;refine⟨.ref L,_,I.laidM (t':=tk) hk fun p hp'=>?_,rfl,k L as zs hl' hnd2 hLa (I.hok.fresh hL) (fun a h=>I.hok.fresh (ha a h).1) hpv fun z hz=>?_⟩
    ·rcases List.mem_cons.mp hp' with rfl|hp'
     ·refine⟨hL,zs,.inr ⟨rfl,?_,out.toList,e,?_,gt⟩⟩
      ·rw[hzl,hol]; omega
      ·rw[hzs]; exact vz _ hin
     ·obtain⟨j,⟨x,y⟩,e1,e2,e3⟩:=u30 hp'
      obtain⟨u,w,f1,f2,f3⟩:=hp j p.1 e1;have hz:=List.getElem?_zip_eq_some.mp e2
      obtain⟨u',g1,g2⟩:=v1.get hz.1;obtain⟨w',g3,g4⟩:=v2.get hz.2;have eu:u'=u:=by
       have:us1.toArray[j]?=some u':=by simpa using g1
       rw[f1] at this; exact(Option.some.inj this).symm
      have ew:w'=w:=by
       have:us2.toArray[j]?=some w':=by simpa using g3
       rw[f2] at this; exact(Option.some.inj this).symm
      subst eu; subst ew;exact⟨(ha p.1 (List.mem_of_getElem? e1)).1,_,.inl ⟨e3,(by show 2<=sizeLine; decide),[u',w'],.cons g2 (.cons g4 .nil),⟨_,f3,rfl,_,rfl,rfl⟩⟩⟩
    ·rw[hzs] at hz
     obtain⟨v,hv,rfl⟩:=List.mem_map.mp hz;obtain⟨a,ham,rfl⟩:=hin v hv;exact⟨a,ham,rfl⟩
end L2
namespace DL
open PySem PySem.Spec PyProof.Rows L2 SoT
def uj0:List D->Option D
 | [.lst as,.lst bs]=>(xo0 ((as.zip bs).map fun p=>.tup [p.1,p.2])).bind fun ps=>if ps.Nodup/\ps.length<64 then some (.lst ((srt ps).map pD)) else none
 | _=>none
theorem jn0{K:W.Frag}{H:Hp}{B:BS}:∀{as bs:List D} {xs ys:List V} {ps:List (Int×Int)},Rps K H B as xs->Rps K H B bs ys->xo0 ((as.zip bs).map fun p=>.tup [p.1,p.2])=some ps ->
  ps.length=min xs.length ys.length/\∀(j:Nat) q,ps[j]?=some q->xs[j]?=some (V.int q.1)/\ys[j]?=some (V.int q.2)
 | [],bs,xs,ys,ps,r1,r2,h=>by
  rw[o8] at r1; subst r1;cases h;exact⟨by simp,fun j q hj=>by simp at hj⟩
 | a::as,[],xs,ys,ps,r1,r2,h=>by
  rw[o8] at r2; subst r2;cases h;exact⟨by simp,fun j q hj=>by simp at hj⟩
 | a::as,b::bs,xs,ys,ps,r1,r2,h=>by
  rw[o4] at r1 r2;obtain⟨x,xs',rfl,a1,a2⟩:=r1;obtain⟨y,ys',rfl,b1,b2⟩:=r2;rw[List.zip_cons_cons,List.map_cons] at h;unfold xo0 at h;split at h
  ·rename_i e; cases e
  ·rename_i i j ds' e
   injection e with e1 e2
   injection e1 with e1
   injection e1 with e3 e4
   injection e4 with e4 _
   subst e3; subst e4; subst e2;obtain⟨rs,e5,rfl⟩:=Option.map_eq_some_iff.mp h;obtain⟨i1,i2⟩:=jn0 a2 b2 e5;rw[n6] at a1 b1;subst a1; subst b1;refine⟨by rw[List.length_cons,List.length_cons,List.length_cons,i1]; omega,fun j q hj=>?_⟩
   cases j with
   | zero=>simp at hj; subst hj; exact⟨rfl,rfl⟩
   | succ j=>exact i2 j q (by simpa using hj)
  ·cases h
section
variable{X:Cx}{e f:Expr}{pos p pos2 p2:Pos}{gA:Ds->Option (List D)}
theorem om0(hm1:X.mg "sorted"=none)(hm2:X.mg "zip"=none)(hv1:bootBuiltins "sorted"=some (.builtin "sorted"))(hv2:bootBuiltins "zip"=some (.type "zip"))(ha:PDA X [e,f] gA)(hc:X.calm=true:=by rfl)(hg1:Gl X "sorted" := by rfl)(hg2:Gl X "zip" := by rfl)
  (e1:starEach [.Call (.Name "zip" p2) [e,f] [] pos2] X.env=(false,eval (.Call (.Name "zip" p2) [e,f] [] pos2) X.env)::starEach [] X.env:=by rfl) (h1:(backTo pos (starEach [] X.env)).any (·.1)=false:=by rfl)
  (he:starEach [e,f] X.env=(false,eval e X.env)::starEach [f] X.env:=by rfl) (hpl:(backTo pos2 (starEach [f] X.env)).any (·.1)=false:=by rfl) :
  PDF X (.Call (.Name "sorted" p) [.Call (.Name "zip" p2) [e,f] [] pos2] [] pos) (oA gA uj0):=.mk fun B δ=>(g70 (op0 hc) hg1 hg2 hm1 hm2 hv1 hv2 (ha B δ) (by decide) (by decide) (by decide) (by decide) e1 h1 he hpl).imp fun σ H Q ⟨d,en,h,k⟩=>by
 unfold oA at h
 cases e3:gA δ with
 | none=>rw[e3] at h; cases h
 | some ds =>
  rw[e3] at h;simp only[Option.bind_some] at h;unfold uj0 at h;split at h<;>try cases h
  rename_i as bs
  cases e4:xo0 ((as.zip bs).map fun p=>.tup [p.1,p.2]) with
  | none=>rw[e4] at h; cases h
  | some ps =>
   rw[e4] at h;simp only[Option.bind_some] at h;split at h<;>try cases h
   rename_i hz;refine⟨_,en,e3,fun vs H1 s1 r=>?_⟩
   rw[o4] at r;obtain⟨x,t,rfl,r1,r⟩:=r;rw[o4] at r;obtain⟨y,t,rfl,r2,r⟩:=r;rw[o8] at r; subst r;rw[Z5] at r1 r2;obtain⟨q1,us,rfl,sq1,t1⟩:=r1;obtain⟨q2,ws,rfl,sq2,t2⟩:=r2;obtain⟨pl,pv⟩:=jn0 t1 t2 e4;refine⟨q1,q2,us,ws,ps,rfl,sq1.to,sq2.to,pl,hz.1,hz.2,pv,fun L as' zs hl hnd hL hf fa hpr hin=>?_⟩
   have hfst:(((L,HO.lst zs)::S6 as' (us.zip ws)).map Prod.fst)=L::as':=by rw[List.map_cons,u60 hl]
   have hN:(((L,HO.lst zs)::S6 as' (us.zip ws)).map Prod.fst).Nodup:=by rw[hfst]; exact List.nodup_cons.mpr ⟨hL,hnd⟩
   have fr:∀p∈((L,HO.lst zs)::S6 as' (us.zip ws)),H1 p.1=none:=fun p hp=>by
    have:p.1∈L::as':=by rw[← hfst]; exact List.mem_map_of_mem hp
    rcases List.mem_cons.mp this with e|e
    ·rw[e]; exact hf
    ·exact fa _ e
   have sm:Same H1 (zq0 H1 ((L,HO.lst zs)::S6 as' (us.zip ws))):=fun b u e=>by
    rw[vx0 fun p hp z=>by rw[← z,fr p hp] at e; cases e]; exact e
   refine k L _ (s1.free hf) (s1.trans sm) ⟨zs,v60 hN _ List.mem_cons_self,?_⟩
   refine m10 hpr fun z hz'=>?_
   obtain⟨a,ham,rfl⟩:=hin z hz';refine⟨a,rfl,fun q=>q.elim (fun q=>?_) fun q=>hL (q▸ham)⟩
   exact en.bad a q (Same.free s1 (fa a ham))
end
end DL
namespace DL
open PySem PySem.Spec PyProof.Rows L2
def orS(G1 G2:GS):GS:=fun δ=>match G1 δ with
 | some r=>some r
 | none=>G2 δ
def orE(g1 g2:GE):GE:=fun δ=>match g1 δ with
 | some r=>some r
 | none=>g2 δ
theorem Xc0{X:Cx}{e:Expr}{g1 g2:GE}(h1:PD X e g1)(h2:PD X e g2):PD X e (orE g1 g2):=.mk fun B δ=>by
 cases e1:g1 δ with
 | some r =>
  have q:orE g1 g2 δ=g1 δ:=by unfold orE; rw[e1]
  intro pins s σ H Q I ⟨d,en,h,k⟩;exact h1 B δ pins s σ H Q I ⟨d,en,q.symm.trans h,k⟩
 | none =>
  have q:orE g1 g2 δ=g2 δ:=by unfold orE; rw[e1]
  intro pins s σ H Q I ⟨d,en,h,k⟩;exact h2 B δ pins s σ H Q I ⟨d,en,q.symm.trans h,k⟩
section
variable{X:Cx}{st:Stmt}{G1 G2:Ds->Option Res}
theorem Wj0(h1:PSD X st G1)(h2:PSD X st G2):PSD X st (orS G1 G2):=.mk fun H₀ B₀ δ=>by
 cases e:G1 δ with
 | some r =>
  have:orS G1 G2 δ=G1 δ:=by unfold orS; rw[e]
  intro pins s σ H Q I h;refine h1 H₀ B₀ δ pins s σ H Q I ?_
  unfold tDS at h ⊢;rw[this] at h;exact h
 | none =>
  have:orS G1 G2 δ=G2 δ:=by unfold orS; rw[e]
  intro pins s σ H Q I h;refine h2 H₀ B₀ δ pins s σ H Q I ?_
  unfold tDS at h ⊢;rw[this] at h;exact h
end
end DL
namespace W
open PySem DL
def hasAll(x s:Str):Bool:=x.cps.toList.all fun c=>decide (c∈s.cps.toList)
def nameS:Str := "0123456789abcdefghijklmnopqrstuvwxyz"
def no0:Str := " 0123456789abcdefghijklmnopqrstuvwxyz"
def isName(x:Str):Bool:=(decide ((x.length:Int)<=8)&&hasAll x nameS)&&decide (0<(x.length:Int))
def isWord(x:Str):Bool:=decide ((x.length:Int)<=20)&&hasAll x no0
def marks(x:D)(m:Str):Bool:=match x with
 | .str y=>decide (y=m)
 | _=>false
def p70:D->Bool
 | .non=>true
 | .int _=>true
 | .tup [x,.int i]=>marks x "at"&&decide (0<=i)
 | _=>false
def Ub0:D->Str
 | .tup (.str n::_)=>n
 | _ => ""
inductive Pt where
 | text (w:Str)|row (vs:List D)|table (ps:List (Str×D))|rcd (c:Str) (ps:List (Str×D))
def pr(p:Str×D):D:=.tup [.str p.1,p.2]
def Pt.d:Pt->D
 | .text w=>.tup [.str "text",.str w]
 | .row vs=>.tup [.str "row",.tup vs]
 | .table ps=>.tup [.str "table",.tup (ps.map pr)]
 | .rcd c ps=>.tup [.str "record",.str c,.tup (ps.map pr)]
def Pt.vals:Pt->List D
 | .text _=>[]
 | .row vs=>vs
 | .table ps=>ps.map (·.2)
 | .rcd _ ps=>ps.map (·.2)
def Pt.pnames:Pt->List Str
 | .text _=>[]
 | .row _=>[]
 | .table ps=>ps.map (·.1)
 | .rcd _ ps=>ps.map (·.1)
def Pt.cls:Pt->List Str
 | .rcd c _=>[c]
 | _=>[]
def Pt.all(p:Pt):List Str:=p.pnames++p.cls
def lk:D->Option Int
 | .tup [_,.int i]=>some i
 | _=>none
structure PsOk(ps:List (Str×D)):Prop where
 len:ps.length<=12
 names:∀p∈ps,isName p.1=true
 vals:∀p∈ps,p70 p.2=true
 nd:(ps.map (·.1)).Nodup
def Pt.Ok:Pt->Prop
 | .text w=>isWord w=true
 | .row vs=>vs.length<=12/\∀v∈vs,p70 v=true
 | .table ps=>PsOk ps
 | .rcd c ps=>isName c=true/\PsOk ps
theorem i70{n:Str}(h:isName n=true):n.length<=8:=by
 unfold isName at h;simp only[Bool.and_eq_true,decide_eq_true_eq] at h;omega
theorem l80(ps:List (Str×D)):W6 (gN 0) noT (o2 (gv 0) (gc (.int 1)) ixD) [.un] (ps.map pr)=some (ps.map (·.2)):=by
 rw[S5 (fun d=>match d with|.tup [_,v]=>v|_=>.non) (fun d hd=>by
  obtain⟨p,hp,rfl⟩:=List.mem_map.mp hd;exact⟨[.sh (pr p)],rfl,rfl,rfl⟩),List.map_map]
 rfl
theorem k90(ps:List (Str×D)):W6 (gN 0) noT (o2 (gv 0) (gc (.int 0)) ixD) [.un] (ps.map pr)=some ((ps.map (·.1)).map .str):=by
 rw[S5 (fun d=>.str (Ub0 d)) (fun d hd=>by
  obtain⟨p,hp,rfl⟩:=List.mem_map.mp hd;exact⟨[.sh (pr p)],rfl,rfl,rfl⟩),List.map_map,List.map_map]
 rfl
def Pt.few(p:Pt):Prop:=p.vals.length<=sizeLine
theorem oa0{v:D}(h:p70 v=true):v=.non∨(∃i,v=.int i)∨∃i,v=.tup [.str "at",.int i]/\0<=i:=by
 cases v with
 | non=>exact .inl rfl
 | int i=>exact .inr (.inl ⟨i,rfl⟩)
 | tup xs =>
  match xs,h with
  | [x,.int i],h =>
   simp only[p70,Bool.and_eq_true,decide_eq_true_eq] at h;cases x<;>simp[marks] at h
   exact .inr (.inr ⟨i,by rw[h.1],h.2⟩)
 | _=>cases h
def V9:Str := "abcdefghijklmnopqrstuvwxyz0123456789"
def cg(i:Int):Nat:=V9.cps.toList.getD i.toNat 0
theorem ji0(i:Int)(h0:0<=i)(h1:i<36):ixD (.str V9) (.int i)=some (.str ⟨#[cg i]⟩):=by
 have hl:V9.cps.toList.length=36:=by decide +kernel
 have hz:V9.length<=sizeLine:=by decide +kernel
 have:=zz0 (xs:=V9.cps.toList) (i:=i) h0 (by rw[hl]; omega) 0
 simp only[ixD,if_pos hz,this,Option.map_some];rfl
theorem fo0(i:Int)(h0:0<=i)(h1:i<36):cg i∈nameS.cps.toList:=by
 have h:∀n:Nat,n<36->V9.cps.toList.getD n 0∈nameS.cps.toList:=by decide +kernel
 exact h i.toNat (by omega)
theorem Wk0(i j:Int)(h0:0<=i)(h1:i<36)(h2:0<=j)(h3:j<36)(e:cg i=cg j):i=j:=by
 have h:∀n:Nat,n<36->∀m:Nat,m<36->V9.cps.toList.getD n 0=V9.cps.toList.getD m 0->n=m:=by decide +kernel
 have:=h i.toNat (by omega) j.toNat (by omega) e
 omega
def ones(l:List Nat):List Str:=l.map fun c=>⟨#[c]⟩
def strOf(l:List Nat):Str:=⟨l.toArray⟩
theorem join_ones(l:List Nat):Txt.join "" (ones l)=strOf l:=by
 have key:∀(l:List Nat) (acc:List Nat),(ones l).foldl (fun a p=>a++("" : Str).cps++p.cps) acc.toArray=(acc++l).toArray:=by
  intro l
  induction l with
  | nil=>intro acc; simp[ones]
  | cons c l ih =>
   intro acc;show (ones l).foldl _ (acc.toArray++("" : Str).cps++#[c])=_;have e:acc.toArray++("" : Str).cps++#[c]=(acc++[c]).toArray:=by
    have:("" : Str).cps=#[]:=rfl
    rw[this]; simp
   rw[e,ih]
   simp
 cases l with
 | nil=>rfl
 | cons c l =>
  show (⟨_⟩:Str)=_
  unfold strOf
  congr 1
  exact key l [c]
theorem pp0:∀l:List Nat,((ones l).map (·.length)).sum=l.length
 | []=>rfl
 | c::l=>by
  show 1+((ones l).map (·.length)).sum=l.length+1
  rw[pp0 l]; omega
theorem o80(l:List Nat)(h1:0<l.length)(h2:l.length<=8)(h3:∀c∈l,c∈nameS.cps.toList):isName (strOf l)=true:=by
 unfold isName hasAll;have e:(strOf l).length=l.length:=by show l.toArray.size=_; simp
 have e2:(strOf l).cps.toList=l:=by simp[strOf]
 rw[e,e2];simp only[Bool.and_eq_true,decide_eq_true_eq,List.all_eq_true];exact⟨⟨by omega,fun c hc=>by simpa using h3 c hc⟩,by omega⟩
theorem oe0{l m:List Nat}(h:strOf l=strOf m):l=m:=by
 unfold strOf at h;injection h with h
 simpa using congrArg Array.toList h
end W
namespace Pn
open PySem DL W
def O8:GS:=(v8 (ifD (zv0 (ob (o2 (o2 (gv 0) (gc (.int 0)) ixD) (gc (.str "text")) eqD)) (ob (o2 (o2 (gv 0) (gc (.int 0)) ixD) (gc (.str "row")) eqD)))
 (v8 (N7 (X5 v7))
 u6)
 u6)
 (v8 (N7 (Z0 1 [] (tupI (o2 (gv 0) (unG yg0 (gc (.int 1))) ixD)) (gN 0) noT (o2 (gv 0) (gc (.int 0)) ixD)))
 u6))
def K7:List Str:=["part"]
def Y7:List D->Option D:=mkN 1 K7 O8
def ui0:GS:=(v8 (ifD (ob (o2 (o2 (gv 0) (gc (.int 0)) ixD) (gc (.str "text")) eqD))
 (v8 (o9 (m9 (z9 (gc (.str "text")) (z9 (o2 (gv 0) (gc (.int 1)) ixD) v7))))
 u6)
 u6)
 (v8 (ifD (ob (o2 (o2 (gv 0) (gc (.int 0)) ixD) (gc (.str "row")) eqD))
 (v8 (o9 (m9 (z9 (gc (.str "row")) (z9 (oA (z9 (o2 (gv 0) (gc (.int 1)) ixD) v7) j8) v7))))
 u6)
 u6)
 (v8 (ifD (ob (o2 (o2 (gv 0) (gc (.int 0)) ixD) (gc (.str "table")) eqD))
 (v8 (o9 (m9 (z9 (gc (.str "table")) (z9 (oA (z9 (oA (z9 (gv 0) v7) Y7) v7) W8) v7))))
 u6)
 u6)
 (v8 (o9 (m9 (z9 (gc (.str "record")) (z9 (o2 (gv 0) (gc (.int 1)) ixD) (z9 (oA (z9 (oA (z9 (gv 0) v7) Y7) v7) W8) v7)))))
 u6))))
def tl0:List Str:=["part"]
def M7:List D->Option D:=mkF 1 tl0 ui0
def y50:GS:=(v8 (ifD (ob (o2 (o2 (gv 0) (gc (.int 0)) ixD) (gc (.str "text")) eqD))
 (v8 (N7 (X5 v7))
 u6)
 u6)
 (v8 (ifD (ob (o2 (o2 (gv 0) (gc (.int 0)) ixD) (gc (.str "row")) eqD))
 (v8 (N7 (oA (z9 (o2 (gv 0) (gc (.int 1)) ixD) v7) yk0))
 u6)
 u6)
 (v8 (N7 (Z0 1 [] (tupI (o2 (gv 0) (unG yg0 (gc (.int 1))) ixD)) (gN 0) noT (o2 (gv 0) (gc (.int 1)) ixD)))
 u6)))
def yq0:List Str:=["part"]
def m_values:List D->Option D:=mkN 1 yq0 y50
def J2:GS:=(v8 (ifD (ob (o2 (o2 (gv 0) (gc (.int 0)) ixD) (gc (.str "text")) eqD))
 (v8 (o9 (gv 0))
 u6)
 u6)
 (v8 (ifD (ob (o2 (o2 (gv 0) (gc (.int 0)) ixD) (gc (.str "row")) eqD))
 (v8 (o9 (m9 (z9 (gc (.str "row")) (z9 (oA (z9 (gv 1) v7) W8) v7))))
 u6)
 u6)
 (v8 (n8 (gN 2) (oA (z9 (oA (z9 (gv 0) v7) Y7) (z9 (gv 1) v7)) so0))
 (v8 (ifD (ob (o2 (o2 (gv 0) (gc (.int 0)) ixD) (gc (.str "table")) eqD))
 (v8 (o9 (m9 (z9 (gc (.str "table")) (z9 (gv 2) v7))))
 u6)
 u6)
 (v8 (o9 (m9 (z9 (gc (.str "record")) (z9 (o2 (gv 0) (gc (.int 1)) ixD) (z9 (gv 2) v7)))))
 u6)))))
def zh0:List Str:=["part", "some", "pairs"]
def V6:List D->Option D:=mkF 2 zh0 J2
theorem Q0(p:Pt)(h:p.few):m_values [p.d]=some (.lst p.vals):=by
 cases p with
 | text w=>kernel_rfl
 | row vs =>
  refine O6 rfl (u9 (δ':=[.sh (Pt.row vs).d]) (by rw[Z7 (by kernel_rfl)]; rfl) (Q9 (by rw[S8 (by kernel_rfl)]; rfl)))
 | table ps =>
  refine O6 rfl (u9 (δ':=[.sh (Pt.table ps).d]) (by rw[Z7 (by kernel_rfl)]; rfl) (u9 (δ':=[.sh (Pt.table ps).d]) (by rw[Z7 (by kernel_rfl)]; rfl) (Q9 (zo0 ?_))))
  exact W7 (items:=ps.map pr) rfl (by have:(ps.map (·.2)).length<=sizeLine:=h; simpa using this) (l80 ps)
 | rcd c ps =>
  refine O6 rfl (u9 (δ':=[.sh (Pt.rcd c ps).d]) (by rw[Z7 (by kernel_rfl)]; rfl) (u9 (δ':=[.sh (Pt.rcd c ps).d]) (by rw[Z7 (by kernel_rfl)]; rfl) (Q9 (zo0 ?_))))
  exact W7 (items:=ps.map pr) rfl (by have:(ps.map (·.2)).length<=sizeLine:=h; simpa using this) (l80 ps)
theorem tf0(p:Pt)(h:p.few):Y7 [p.d]=some (.lst (p.pnames.map .str)):=by
 cases p with
 | text w=>kernel_rfl
 | row vs=>kernel_rfl
 | table ps =>
  refine O6 rfl (u9 (δ':=[.sh (Pt.table ps).d]) (by rw[Z7 (by kernel_rfl)]; rfl) (Q9 (zo0 ?_)))
  exact W7 (items:=ps.map pr) rfl (by have:(ps.map (·.2)).length<=sizeLine:=h; simpa using this) (k90 ps)
 | rcd c ps =>
  refine O6 rfl (u9 (δ':=[.sh (Pt.rcd c ps).d]) (by rw[Z7 (by kernel_rfl)]; rfl) (Q9 (zo0 ?_)))
  exact W7 (items:=ps.map pr) rfl (by have:(ps.map (·.2)).length<=sizeLine:=h; simpa using this) (k90 ps)
def hd:Pt->D
 | .text w=>.tup [.str "text",.str w]
 | .row vs=>.tup [.str "row",.int vs.length]
 | .table ps=>.tup [.str "table",.tup ((ps.map (·.1)).map .str)]
 | .rcd c ps=>.tup [.str "record",.str c,.tup ((ps.map (·.1)).map .str)]
def put:Pt->List D->Pt
 | .text w,_=>.text w
 | .row _,vs=>.row vs
 | .table ps,vs=>.table ((ps.map (·.1)).zip vs)
 | .rcd c ps,vs=>.rcd c ((ps.map (·.1)).zip vs)
theorem wz0(p:Pt)(h:p.few):M7 [p.d]=some (hd p):=by
 have e:=tf0 p h
 cases p with
 | text w=>kernel_rfl
 | row vs=>kernel_rfl
 | table ps =>
  refine d7 rfl (u9 (δ':=[.sh (Pt.table ps).d]) (by rw[Z7 (by kernel_rfl)]; rfl) (u9 (δ':=[.sh (Pt.table ps).d]) (by rw[Z7 (by kernel_rfl)]; rfl) (m8 ?_)))
  rw[S8 (by kernel_rfl)]
  refine m8 (Z9 (V1 (cons_of rfl (cons_of (d:=.tup ((ps.map (·.1)).map .str)) ?_ rfl)) (by show 2<=sizeLine; decide)))
  rw[o7 (cons_of (by rw[o7 (ds:=[(Pt.table ps).d]) rfl]; exact e) rfl)]
  rfl
 | rcd c ps =>
  refine d7 rfl (u9 (δ':=[.sh (Pt.rcd c ps).d]) (by rw[Z7 (by kernel_rfl)]; rfl) (u9 (δ':=[.sh (Pt.rcd c ps).d]) (by rw[Z7 (by kernel_rfl)]; rfl) (u9 (δ':=[.sh (Pt.rcd c ps).d]) (by rw[Z7 (by kernel_rfl)]; rfl) ?_)))
  refine m8 (Z9 (V1 (cons_of rfl (cons_of (d:=.str c) rfl (cons_of (d:=.tup ((ps.map (·.1)).map .str)) ?_ rfl))) (by show 3<=sizeLine; decide)))
  rw[o7 (cons_of (by rw[o7 (ds:=[(Pt.rcd c ps).d]) rfl]; exact e) rfl)]
  rfl
theorem gx0(ns:List Str)(vs:List D):so0 [.lst (ns.map .str),.lst vs]=some (.tup ((ns.zip vs).map pr)):=by
 simp only[so0];rw[List.zip_map_left,List.map_map];rfl
theorem sn0(p:Pt)(h:p.few)(vs:List D):V6 [p.d,.lst vs]=some (put p vs).d:=by
 have e:=tf0 p h
 cases p with
 | text w=>kernel_rfl
 | row us=>kernel_rfl
 | table ps =>
  refine d7 rfl (u9 (δ':=[.sh (Pt.table ps).d,.sh (.lst vs),.un]) (by rw[Z7 (by kernel_rfl)]; rfl) (u9 (δ':=[.sh (Pt.table ps).d,.sh (.lst vs),.un]) (by rw[Z7 (by kernel_rfl)]; rfl) (u9 (Z3 (d:=.tup (((ps.map (·.1)).zip vs).map pr)) ?_) (m8 ?_))))
  ·rw[o7 (cons_of (by rw[o7 (ds:=[(Pt.table ps).d]) rfl]; exact e) (cons_of rfl rfl))]
   exact gx0 _ _
  ·rw[S8 (by kernel_rfl)]
   rfl
 | rcd c ps =>
  refine d7 rfl (u9 (δ':=[.sh (Pt.rcd c ps).d,.sh (.lst vs),.un]) (by rw[Z7 (by kernel_rfl)]; rfl) (u9 (δ':=[.sh (Pt.rcd c ps).d,.sh (.lst vs),.un]) (by rw[Z7 (by kernel_rfl)]; rfl) (u9 (Z3 (d:=.tup (((ps.map (·.1)).zip vs).map pr)) ?_)
   (u9 (δ':=[.sh (Pt.rcd c ps).d,.sh (.lst vs),.sh (.tup (((ps.map (·.1)).zip vs).map pr))]) (by rw[Z7 (by kernel_rfl)]; rfl) ?_))))
  ·rw[o7 (cons_of (by rw[o7 (ds:=[(Pt.rcd c ps).d]) rfl]; exact e) (cons_of rfl rfl))]
   exact gx0 _ _
  ·rfl
theorem ce0{l:List D}{n:Nat}(h:∀d∈l,lean d n=true):leans l n=true:=by
 induction l with
 | nil=>unfold leans; rfl
 | cons d l ih =>
  unfold leans;rw[h d List.mem_cons_self,ih fun e he=>h e (List.mem_cons_of_mem _ he)]
  rfl
theorem vm0(s:Str)(n:Nat):lean (.str s) n=true:=by unfold lean; rfl
theorem v20{l:List D}{n:Nat}(h:∀d∈l,lean d n=true):lean (.tup l) (n+1)=true:=by unfold lean; exact ce0 h
mutual
theorem rk0:∀(d:D) (n:Nat),lean d n=true->deq d d=true
 | .non,_,_=>by unfold deq; rfl
 | .bl b,_,_=>by unfold deq; simp
 | .int b,_,_=>by unfold deq; simp
 | .str b,_,_=>by unfold deq; simp
 | .tup ds,0,h=>by unfold lean at h; cases h
 | .tup ds,n+1,h=>by unfold lean at h; unfold deq; exact tr0 ds n h
 | .lst ds,0,h=>by unfold lean at h; cases h
 | .lst ds,n+1,h=>by unfold lean at h; unfold deq; exact tr0 ds n h
 | .dct _ _,n,h=>by unfold lean at h; cases h
theorem tr0:∀(ds:List D) (n:Nat),leans ds n=true->K8 ds ds=true
 | [],_,_=>by unfold K8; rfl
 | d::ds,n,h=>by
  unfold leans at h;rw[Bool.and_eq_true] at h;unfold K8;rw[rk0 d n h.1,tr0 ds n h.2];rfl
end
mutual
def nb:D->Bool
 | .bl _=>false
 | .dct _ _=>false
 | .tup xs=>nbs xs
 | .lst xs=>nbs xs
 | _=>true
def nbs:List D->Bool
 | []=>true
 | x::xs=>nb x&&nbs xs
end
mutual
theorem mr0:∀(d e:D),nb d=true->nb e=true->deq d e=true->d=e
 | .non,e,_,h2,h=>by cases e<;>unfold deq at h<;>first|rfl|(cases h)
 | .bl b,e,h1,_,_=>by unfold nb at h1; cases h1
 | .int i,e,_,h2,h=>by
  cases e<;>unfold deq at h<;>first|(cases h; done)|(unfold nb at h2; cases h2; done)|(rw[beq_iff_eq] at h; rw[h])
 | .str x,e,_,h2,h=>by cases e<;>unfold deq at h<;>first|(cases h; done)|(rw[beq_iff_eq] at h; rw[h])
 | .tup xs,e,h1,h2,h=>by
  cases e<;>unfold deq at h<;>try (cases h; done)
  unfold nb at h1 h2;rw[qz0 _ _ h1 h2 h]
 | .lst xs,e,h1,h2,h=>by
  cases e<;>unfold deq at h<;>try (cases h; done)
  unfold nb at h1 h2;rw[qz0 _ _ h1 h2 h]
 | .dct _ _,e,h1,_,_=>by unfold nb at h1; cases h1
theorem qz0:∀(ds es:List D),nbs ds=true->nbs es=true->K8 ds es=true->ds=es
 | [],[],_,_,_=>rfl
 | [],_::_,_,_,h=>by unfold K8 at h; cases h
 | _::_,[],_,_,h=>by unfold K8 at h; cases h
 | d::ds,e::es,h1,h2,h=>by
  unfold nbs at h1 h2;unfold K8 at h;rw[Bool.and_eq_true] at h1 h2 h;rw[mr0 d e h1.1 h2.1 h.1,qz0 ds es h1.2 h2.2 h.2]
end
theorem Yw0{l:List D}(h:∀d∈l,nb d=true):nbs l=true:=by
 induction l with
 | nil=>unfold nbs; rfl
 | cons d l ih =>
  unfold nbs;rw[h d List.mem_cons_self,ih fun e he=>h e (List.mem_cons_of_mem _ he)]
  rfl
structure Pl(d:D):Prop where
 le:lean d 50=true
 nb:nb d=true
theorem cc0{d:D}(h:lean d 50=true):Q6 d d=some (.bl true):=by
 unfold Q6;rw[if_pos ⟨h,h⟩,rk0 d 50 h]
theorem dy0{d:D}(h:lean d 50=true):y60 d d=some (.bl false):=by
 unfold y60;rw[if_pos ⟨h,h⟩,rk0 d 50 h];rfl
theorem Us0{d e:D}(h1:Pl d)(h2:Pl e)(n:d≠e):Q6 d e=some (.bl false):=by
 unfold Q6;rw[if_pos ⟨h1.le,h2.le⟩]
 cases q:deq d e with
 | false=>rfl
 | true=>exact absurd (mr0 d e h1.nb h2.nb q) n
theorem Ys0{d e:D}(h1:Pl d)(h2:Pl e)(n:d≠e):y60 d e=some (.bl true):=by
 unfold y60;rw[if_pos ⟨h1.le,h2.le⟩]
 cases q:deq d e with
 | false=>rfl
 | true=>exact absurd (mr0 d e h1.nb h2.nb q) n
theorem zk0(s:Str):nb (.str s)=true:=by unfold nb; rfl
theorem Xk0(i:Int):nb (.int i)=true:=by unfold nb; rfl
theorem z10{l:List D}(h:∀d∈l,nb d=true):nb (.tup l)=true:=by unfold nb; exact Yw0 h
theorem il0(p:Pt):Pl (hd p):=by
 have ls:∀(ns:List Str) (n:Nat),lean (.tup (ns.map .str)) (n+1)=true:=fun ns n=>v20 fun d hd=>by
  obtain⟨q,_,rfl⟩:=List.mem_map.mp hd;exact vm0 _ _
 have nn:∀(ns:List Str),nb (.tup (ns.map .str))=true:=fun ns=>z10 fun d hd=>by
  obtain⟨q,_,rfl⟩:=List.mem_map.mp hd;exact zk0 _
 have li:∀(i:Int) (n:Nat),lean (.int i) n=true:=fun i n=>by unfold lean; rfl
 cases p with
 | text w=>exact⟨v20 fun d hd=>by simp only[List.mem_cons,List.not_mem_nil,or_false] at hd; rcases hd with rfl|rfl<;>exact vm0 _ _,z10 fun d hd=>by simp only[List.mem_cons,List.not_mem_nil,or_false] at hd; rcases hd with rfl|rfl<;>exact zk0 _⟩
 | row w=>exact⟨v20 fun d hd=>by simp only[List.mem_cons,List.not_mem_nil,or_false] at hd; rcases hd with rfl|rfl<;>first|exact vm0 _ _|exact li _ _,z10 fun d hd=>by simp only[List.mem_cons,List.not_mem_nil,or_false] at hd; rcases hd with rfl|rfl<;>first|exact zk0 _|exact Xk0 _⟩
 | table w=>exact⟨v20 fun d hd=>by simp only[List.mem_cons,List.not_mem_nil,or_false] at hd; rcases hd with rfl|rfl<;>first|exact vm0 _ _|exact ls _ _,z10 fun d hd=>by simp only[List.mem_cons,List.not_mem_nil,or_false] at hd; rcases hd with rfl|rfl<;>first|exact zk0 _|exact nn _⟩
 | rcd c w=>exact⟨v20 fun d hd=>by simp only[List.mem_cons,List.not_mem_nil,or_false] at hd; rcases hd with rfl|rfl|rfl<;>first|exact vm0 _ _|exact ls _ _,z10 fun d hd=>by simp only[List.mem_cons,List.not_mem_nil,or_false] at hd; rcases hd with rfl|rfl|rfl<;>first|exact zk0 _|exact nn _⟩
end Pn
namespace W
open PySem DL StrLaws Builtin.Str
theorem yz0(l:List Nat):(strOf l).cps.toList=l:=by simp[strOf]
theorem zx0(l:List Nat):(strOf l).length=l.length:=by show l.toArray.size=_; simp
theorem c00(x:PySem.Str):strOf x.cps.toList=x:=by cases x; simp[strOf]
end W
namespace W
open PySem DL StrLaws
end W
namespace Gw
open PySem DL W
def yd0:GS:=(v8 (ifD (ob (o2 (gv 1) (oA (z9 (gv 0) v7) j8) ltD))
 (v8 (o9 (o2 (gv 0) (gv 1) ixD))
 u6)
 u6)
 (v8 (o9 (gc (.int 0)))
 u6))
def xj0:List Str:=["_law_script", "_law_k"]
def Z6:List D->Option D:=mkF 2 xj0 yd0
def xu0:GS:=(v8 (n8 (gN 2) (gc (.str "abcdefghijklmnopqrstuvwxyz0123456789")))
 (v8 (n8 (gN 3) (o2 (gc (.int 1)) (o2 (gv 0) (gc (.int 8)) j5) b8))
 (v8 (n8 (gN 0) (o2 (gv 0) (gc (.int 8)) b7))
 (v8 (V4 4 (X5 v7))
 (v8 (M4 (Q8 (z9 (gv 3) v7)) (gN 5)
 (v8 (X8 (Q5 4 (o2 (gv 0) (gc (.int 36)) j5)))
 (v8 (n8 (gN 0) (o2 (gv 0) (gc (.int 36)) b7))
 u6)))
 (v8 (n8 (gN 6) (U3 (te0 (gc (.str "")) (z9 (Z0 1 [2] (R0 (gv 4)) (gN 0) noT (o2 (gv 1) (gv 0) ixD)) v7))))
 (v8 (ifD (ob (o2 (o2 (o2 (gv 1) (gc (.int 8)) b7) (gc (.int 3)) j5) (gc (.int 1)) eqD))
 (v8 (N7 (Z0 1 [6] (nk0 (z9 (gc (.int 1)) (z9 (gc (.int 9)) v7))) (gN 0) noT (U6 (o2 (gc (.int 8)) (gv 1) ri0) S7 (someO (gv 0)))))
 u6)
 u6)
 (v8 (n8 (gN 7) (o2 (gv 1) (gv 3) j5))
 (v8 (V4 8 (X5 v7))
 (v8 (M4 (Q8 (z9 (gc (.int 8)) v7)) (gN 5)
 (v8 (n8 (gN 9) (o2 (gv 2) (o2 (o2 (U3 (o2 (gv 4) (gv 7) ixD)) (o2 (gc (.int 4)) (gv 5) S9) b8) (gc (.int 36)) j5) ixD))
 (v8 (X8 (Q5 8 (o2 (o2 (U6 (gv 6) S7 (someO (gv 7))) (gv 9) b8) (U6 (gv 6) (someO (o2 (gv 7) (gc (.int 1)) b8)) S7) b8)))
 u6)))
 (v8 (uc0 8)
 u6)))))))))))
def u90:List Str:=["_law_cell", "_law_turn", "_law_signs", "_law_size", "_law_places", "_law_k", "_law_word", "_law_at", "_law_found", "_law_sign"]
def G3:List D->Option D:=mkN 2 u90 xu0
def wo0:GS:=(v8 (o9 (o2 (o2 (o2 (o2 (gv 0) (gc (.int 2147483647)) j5) (gc (.int 1)) b8) (o2 (gc (.int 48271)) (o2 (gc (.int 7)) (gv 1) S9) b8) S9) (gc (.int 2147483647)) j5))
 u6)
def tc0:List Str:=["_law_cell", "_law_k"]
def V7:List D->Option D:=mkF 2 tc0 wo0
def z30:GS:=(v8 (n8 (gN 2) (o2 (gv 0) (gc (.int 10)) j5))
 (v8 (ifD (ob (o2 (gv 2) (gc (.int 6)) ltD))
 (v8 (o9 (m9 (z9 (gc (.str "at")) (z9 (o2 (o2 (gv 0) (gc (.int 10)) b7) (gv 1) j5) v7))))
 u6)
 u6)
 (v8 (ifD (ob (o2 (gv 2) (gc (.int 6)) eqD))
 (v8 (o9 (gc .non))
 u6)
 u6)
 (v8 (ifD (ob (o2 (gv 2) (gc (.int 9)) ltD))
 (v8 (o9 (o2 (o2 (o2 (gv 0) (gc (.int 10)) b7) (gc (.int 3)) j5) (gc (.int 1)) m00))
 u6)
 u6)
 (v8 (o9 (o2 (o2 (o2 (o2 (gv 0) (gc (.int 10)) b7) (gc (.int 7)) rm0) (o2 (gc (.int 10)) (gc (.int 60)) rm0) j5) (o2 (gc (.int 1)) (o2 (gc (.int 2)) (o2 (o2 (gv 0) (gc (.int 20)) b7) (gc (.int 2)) j5) S9) m00) S9))
 u6)))))
def y80:List Str:=["_law_number", "_law_many", "_law_kind"]
def W2:List D->Option D:=mkF 2 y80 z30
def yn0:GS:=(v8 (V4 3 (X5 v7))
 (v8 (M4 (Q8 (z9 (gv 1) v7)) (gN 4)
 (v8 (n8 (gN 0) (o2 (o2 (gv 0) (gc (.int 48271)) S9) (gc (.int 2147483647)) j5))
 (v8 (X8 (Q5 3 (oA (z9 (gv 0) (z9 (gv 2) v7)) W2)))
 u6)))
 (v8 (uc0 3)
 u6)))
def wl0:List Str:=["_law_number", "_law_count", "_law_many", "_law_found", "_law_k"]
def Q3:List D->Option D:=mkN 3 wl0 yn0
def w40:GS:=(v8 (n8 (gN 3) (o2 (gv 0) (gc (.int 8)) j5))
 (v8 (ifD (ob (o2 (gv 3) (gc (.int 0)) eqD))
 (v8 (o9 (m9 (z9 (gc (.str "text")) (z9 (o2 (X5 (z9 (gc (.str "")) (z9 (gc (.str "a")) (z9 (gc (.str " a")) (z9 (o2 (o2 (gv 2) (gc (.int 0)) ixD) (gc (.str " 0")) b8) v7))))) (o2 (o2 (gv 0) (gc (.int 16)) b7) (gc (.int 4)) j5) ixD) v7))))
 u6)
 u6)
 (v8 (ifD (ob (o2 (gv 3) (gc (.int 4)) ltD))
 (v8 (o9 (m9 (z9 (gc (.str "row")) (z9 (oA (z9 (gv 1) v7) W8) v7))))
 u6)
 u6)
 (v8 (n8 (gN 4) (o2 (o2 (o2 (gv 0) (gc (.int 8)) b7) (gc (.int 2)) j5) (gc (.int 3)) S9))
 (v8 (n8 (gN 5) (oA (z9 (Z0 1 [1,2,4] (Q8 (z9 (oA (z9 (gv 1) v7) j8) v7)) (gN 0) noT (m9 (z9 (o2 (gv 2) (o2 (o2 (gv 3) (gv 0) b8) (gc (.int 8)) j5) ixD) (z9 (o2 (gv 1) (gv 0) ixD) v7)))) v7) W8))
 (v8 (ifD (ob (o2 (gv 3) (gc (.int 6)) ltD))
 (v8 (o9 (m9 (z9 (gc (.str "table")) (z9 (gv 5) v7))))
 u6)
 u6)
 (v8 (o9 (m9 (z9 (gc (.str "record")) (z9 (o2 (gv 2) (o2 (o2 (gv 0) (gc (.int 16)) b7) (gc (.int 2)) j5) ixD) (z9 (gv 5) v7)))))
 u6)))))))
def u70:List Str:=["_law_number", "_law_some", "_law_pool_here", "_law_kind", "_law_start", "_law_pairs"]
def K3:List D->Option D:=mkF 3 u70 w40
def wr0:GS:=(v8 (V4 3 (X5 v7))
 (v8 (M4 (Q8 (z9 (gv 1) v7)) (gN 4)
 (v8 (n8 (gN 5) (oA (z9 (o2 (o2 (gv 0) (o2 (gv 4) (oA (z9 (gv 0) v7) j8) j5) ixD) (o2 (gv 4) (o2 (gv 4) (oA (z9 (gv 0) v7) j8) b7) S9) b8) (z9 (gv 4) v7)) V7))
 (v8 (n8 (gN 6) (o2 (X5 (z9 (gc (.int 0)) (z9 (gc (.int 1)) (z9 (gc (.int 2)) (z9 (gc (.int 2)) (z9 (gc (.int 3)) (z9 (gc (.int 2)) (z9 (gc (.int 3)) (z9 (gc (.int 1)) v7))))))))) (o2 (o2 (gv 5) (gc (.int 32)) b7) (gc (.int 8)) j5) ixD))
 (v8 (ifD (ob (o2 (o2 (o2 (gv 5) (gc (.int 256)) b7) (gc (.int 16)) j5) (gc (.int 3)) eqD))
 (v8 (n8 (gN 6) (o2 (X5 (z9 (gc (.int 8)) (z9 (gc (.int 12)) v7))) (oA (z9 (o2 (o2 (gv 5) (gc (.int 8)) j5) (gc (.int 4)) ltD) v7) intOfD) ixD))
 u6)
 u6)
 (v8 (n8 (gN 7) (oA (z9 (o2 (o2 (gv 5) (gc (.int 8)) b7) (gc (.int 1)) b8) (z9 (gv 6) (z9 (gv 1) v7))) Q3))
 (v8 (X8 (Q5 3 (oA (z9 (gv 5) (z9 (gv 7) (z9 (gv 2) v7))) K3)))
 u6))))))
 (v8 (o9 (ub0 (oA (z9 (gv 3) v7) W8)))
 u6)))
def t40:List Str:=["_law_cells", "_law_many", "_law_pool_here", "_law_parts", "_law_k", "_law_number", "_law_count", "_law_some"]
def zd0:List D->Option D:=mkF 3 t40 wr0
def K4:GS:=(v8 (ifD (ob (o2 (o2 (gv 0) (gc (.int 0)) ixD) (gc (.str "text")) eqD))
 (v8 (N7 (X5 v7))
 u6)
 u6)
 (v8 (ifD (ob (o2 (o2 (gv 0) (gc (.int 0)) ixD) (gc (.str "row")) eqD))
 (v8 (N7 (oA (z9 (o2 (gv 0) (gc (.int 1)) ixD) v7) yk0))
 u6)
 u6)
 (v8 (N7 (Z0 2 [] (tupI (o2 (gv 0) (unG yg0 (gc (.int 1))) ixD)) (ze0 0 1) noT (gv 1)))
 u6)))
def G5:List Str:=["_law_part_here"]
def j6:List D->Option D:=mkN 1 G5 K4
def zp0:GS:=(v8 (ifD (ob (o2 (o2 (gv 0) (gc (.int 0)) ixD) (gc (.str "text")) eqD))
 (v8 (o9 (gv 0))
 u6)
 u6)
 (v8 (ifD (ob (o2 (o2 (gv 0) (gc (.int 0)) ixD) (gc (.str "row")) eqD))
 (v8 (o9 (m9 (z9 (gc (.str "row")) (z9 (oA (z9 (gv 1) v7) W8) v7))))
 u6)
 u6)
 (v8 (o9 (o2 (U6 (gv 0) S7 (someO (unG yg0 (gc (.int 1))))) (m9 (z9 (oA (z9 (Z0 1 [0,1] (Q8 (z9 (oA (z9 (gv 1) v7) j8) v7)) (gN 0) noT (m9 (z9 (o2 (o2 (o2 (gv 1) (unG yg0 (gc (.int 1))) ixD) (gv 0) ixD) (gc (.int 0)) ixD) (z9 (o2 (gv 2) (gv 0) ixD) v7)))) v7) W8) v7)) b8))
 u6)))
def yh0:List Str:=["_law_part_here", "_law_some"]
def W4:List D->Option D:=mkF 2 yh0 zp0
end Gw
namespace Gw
open PySem DL W StrLaws
theorem mul_r(i j:Int)(h:-(2 ^ 64)<j/\j<2 ^ 64):S9 (.int i) (.int j)=some (.int (i*j)):=by simp only[S9]; rw[if_pos (.inr h)]
theorem U20(i j:Int)(h:-(2 ^ 64)<i/\i<2 ^ 64):S9 (.int i) (.int j)=some (.int (i*j)):=by simp only[S9]; rw[if_pos (.inl h)]
theorem xx0(i j:Int)(h:0<j):j5 (.int i) (.int j)=some (.int (i%j)):=by simp only[j5,ii]; rw[if_pos h]
theorem m70(i j:Int)(h:0<j/\j<1073741824):b7 (.int i) (.int j)=some (.int (i/j)):=by simp only[b7,ii]; rw[if_pos h]
theorem w70{i:Nat}{g:GE}{δ:Ds}{l:List D}{d:D}(h1:owL i δ=some l)(h2:g δ=some d)(h3:l.length<sizeLine):X8 (Q5 i g) δ=some (.nx (δ.set i (.ow (.lst (l++[d]))))):=by
 unfold X8 Q5;rw[h1,h2];simp only[Option.bind_some];rw[if_pos h3];rfl
theorem yc0(ns:List Int)(k:Int)(h0:0<=k):∃z,Z6 [.lst (ns.map .int),.int k]=some (.int z):=by
 by_cases h:k<ns.length
 ·have hlt:k.toNat<ns.length:=by omega
  refine⟨ns[k.toNat],d7 rfl (m8 ?_)⟩
  rw[S8 (by
   show some (decide (k<(((ns.map D.int).length:Nat):Int)))=_
   rw[decide_eq_true (by rw[List.length_map]; exact h)])]
  refine m8 (Z9 ?_)
  show atI (ns.map D.int) k=_
  rw[zz0 h0 (by rw[List.length_map]; exact h) .non]
  simp[List.getD_eq_getElem?_getD,hlt]
 ·refine⟨0,d7 rfl (u9 (δ':=[.sh (.lst (ns.map .int)),.sh (.int k)]) ?_ rfl)⟩
  rw[Z7 (by
   show some (decide (k<(((ns.map D.int).length:Nat):Int)))=_
   rw[decide_eq_false (by rw[List.length_map]; exact h)])]
  rfl
theorem ck0(l:List Nat)(n:Nat):io0 (strOf l) (n:Int)=strOf (List.replicate n l).flatten:=by
 have key:∀(k:Nat) (acc:Array Nat),(List.replicate k l.toArray).foldl (·++·) acc=acc++(List.replicate k l).flatten.toArray:=by
  intro k
  induction k with
  | zero=>intro acc; simp
  | succ k ih=>intro acc; rw[List.replicate_succ,List.foldl_cons,ih,List.replicate_succ,List.flatten_cons]; simp
 unfold io0;show (⟨(List.replicate ((n:Int)).toNat l.toArray).foldl (·++·) #[]⟩:Str)=⟨_⟩
 rw[Int.toNat_natCast,key]
 simp
theorem gs0(l:List Nat)(k:Int)(h0:0<=k)(h1:k<=l.length):Txt.slice (strOf l) none (some k)=strOf (l.take k.toNat):=by
 show sliceText _ _ _=_
 rw[sliceText_to ⟨h0,by rw[yz0]; exact h1⟩,yz0]
 simp[strOf]
theorem We0(l:List Nat)(k:Int)(h0:0<=k)(h1:k<=l.length):Txt.slice (strOf l) (some k) none=strOf (l.drop k.toNat):=by
 show sliceText _ _ _=_
 rw[sliceText_from ⟨h0,by rw[yz0]; exact h1⟩,yz0]
 unfold strOf
 congr 2
 rw[List.take_of_length_le];rw[List.length_drop];omega
theorem Vp0(a b:List Nat):strOf a++strOf b=strOf (a++b):=by
 show (⟨_⟩:Str)=⟨_⟩
 simp[strOf]
theorem iq0(a b:List Nat)(h:a.length+b.length<=sizeLine):b8 (.str (strOf a)) (.str (strOf b))=some (.str (strOf (a++b))):=by
 simp only[b8];rw[if_pos (by rw[zx0,zx0]; exact h),Vp0]
structure Pool(nm:List Str):Prop where
 len:nm.length=8
 names:∀s∈nm,isName s=true
 nd:nm.Nodup
def PB:GS:=(v8 (X8 (Q5 4 (o2 (gv 0) (gc (.int 36)) j5)))
 (v8 (n8 (gN 0) (o2 (gv 0) (gc (.int 36)) b7))
 u6))
def PC:GS:=(v8 (n8 (gN 9) (o2 (gv 2) (o2 (o2 (U3 (o2 (gv 4) (gv 7) ixD)) (o2 (gc (.int 4)) (gv 5) S9) b8) (gc (.int 36)) j5) ixD))
 (v8 (X8 (Q5 8 (o2 (o2 (U6 (gv 6) S7 (someO (gv 7))) (gv 9) b8) (U6 (gv 6) (someO (o2 (gv 7) (gc (.int 1)) b8)) S7) b8)))
 u6))
theorem p30(c t:Int):∃nm,G3 [.int c,.int t]=some (.lst (nm.map .str))/\Pool nm:=by
 have z:(1000:Nat)<=sizeLine:=by decide
 obtain⟨n,hn⟩:∃n:Nat,(n:Int)=1+c%8:=⟨(1+c%8).toNat,by omega⟩
 obtain⟨δ',l1,l2⟩:=z70 (f:=gN 5) (G:=PB) (fun i δ=>∃(c':Int) (l:List Int) (s5:Sl),δ=[.sh (.int c'),.sh (.int t),.sh (.str V9),.sh (.int (n:Int)),.ow (.lst (l.map .int)),s5,.un,.un,.un,.un]/\l.length=i/\∀x∈l,0<=x/\x<36) (U7 0 (n:Int)) 0
  [.sh (.int (c/8)),.sh (.int t),.sh (.str V9),.sh (.int (n:Int)),.ow (.lst []),.un,.un,.un,.un,.un] (by
   rintro j d δ hj ⟨c',l,s5,rfl,hl,hx⟩
   obtain⟨hj',rfl⟩:=uk0 hj;rw[Int.toNat_natCast] at hj';refine⟨_,[.sh (.int (c'/36)),.sh (.int t),.sh (.str V9),.sh (.int (n:Int)),.ow (.lst ((l++[c'%36]).map .int)),.sh (.int (j:Int)),.un,.un,.un,.un],rfl,?_,c'/36,l++[c'%36],_,rfl,by simp[hl],fun x hx'=>?_⟩
   ·refine u9 (w70 (l:=l.map .int) (d:=.int (c'%36)) rfl rfl (by rw[List.length_map]; omega)) ?_
    rw[List.map_append];rfl
   ·rcases List.mem_append.mp hx' with q|q
    ·exact hx x q
    ·rw[List.mem_singleton.mp q]; omega) ⟨_,[],_,rfl,rfl,fun x hx=>by cases hx⟩
 obtain⟨c',pl,s5,rfl,hpl,hpx⟩:=l2;rw[xq0,Int.toNat_natCast,Nat.zero_add] at hpl;obtain⟨w,hw⟩:∃w:List Nat,w=pl.map cg:=⟨_,rfl⟩;have wl:w.length=n:=by rw[hw,List.length_map,hpl]
 have wm:∀x∈w,x∈nameS.cps.toList:=fun x hx=>by
  rw[hw] at hx;obtain⟨i,hi,rfl⟩:=List.mem_map.mp hx;exact fo0 i (hpx i hi).1 (hpx i hi).2
 have hpre:∀(G:GS) (r:Option Res),G [.sh (.int c'),.sh (.int t),.sh (.str V9),.sh (.int (n:Int)),.ow (.lst (pl.map .int)),s5,.sh (.str (strOf w)),.un,.un,.un]=r ->
   (v8 (n8 (gN 2) (gc (.str "abcdefghijklmnopqrstuvwxyz0123456789")))
    (v8 (n8 (gN 3) (o2 (gc (.int 1)) (o2 (gv 0) (gc (.int 8)) j5) b8))
    (v8 (n8 (gN 0) (o2 (gv 0) (gc (.int 8)) b7))
    (v8 (V4 4 (X5 v7))
    (v8 (M4 (Q8 (z9 (gv 3) v7)) (gN 5) PB)
    (v8 (n8 (gN 6) (U3 (te0 (gc (.str "")) (z9 (Z0 1 [2] (R0 (gv 4)) (gN 0) noT (o2 (gv 1) (gv 0) ixD)) v7)))) G)))))) [.sh (.int c),.sh (.int t),.un,.un,.un,.un,.un,.un,.un,.un]=r:=fun G r hG=>by
  refine u9 (Z3 (d:=.str V9) rfl) (u9 (Z3 (d:=.int (n:Int)) (by rw[hn]; rfl)) (u9 (Z3 (d:=.int (c/8)) rfl) (u9 (δ':=[.sh (.int (c/8)),.sh (.int t),.sh (.str V9),.sh (.int (n:Int)),.ow (.lst []),.un,.un,.un,.un,.un]) rfl (u9 (J6 (items:=U7 0 (n:Int)) (xl0 (cons_of rfl rfl) (by omega) (by omega)) l1) (u9 (Z3 (d:=.str (strOf w)) ?_) hG)))))
  show Option.bind _ _=_
  rw[Zh0 (x:=.str "") (ds:=[.lst ((ones w).map .str)]) rfl (cons_of (W7 (items:=pl.map .int) rfl (by rw[List.length_map]; omega) (by
   rw[S5 (fun d=>match d with|.int i=>.str ⟨#[cg i]⟩|_=>.non) (fun d hd=>by
    obtain⟨i,hi,rfl⟩:=List.mem_map.mp hd;refine⟨[.sh (.int i),.sh (.str V9)],rfl,rfl,?_⟩
    rw[o5 (x:=.str V9) (y:=.int i) rfl rfl];exact ji0 i (hpx i hi).1 (hpx i hi).2)]
   rw[hw];unfold ones;rw[List.map_map,List.map_map,List.map_map];rfl)) rfl)]
  have e1:=strs_map id (ones w)
  have e1':s20 ((ones w).map D.str)=some (ones w):=by simpa using e1
  simp only[nd0];rw[e1',Option.bind_some,pp0,join_ones,if_pos (by
   have:("" : PySem.Str).length=0:=by decide +kernel
   rw[this]; omega)]
  rfl
 by_cases hb:t/8%3=1
 ·refine⟨(List.range 8).map fun k=>strOf ((List.replicate 8 w).flatten.take (k+1)),O6 rfl (hpre _ _ (Q9 ?_)),by simp,fun s hs=>?_,?_⟩
  ·rw[S8 (by show some (decide (t/8%3=1))=_; rw[decide_eq_true hb])]
   refine Q9 (zo0 (W7 (items:=(List.range 8).map fun (k:Nat)=>D.int ((k:Int)+1)) rfl (by simp; omega) ?_))
   rw[S5 (fun d=>match d with|.int i=>.str (strOf ((List.replicate 8 w).flatten.take i.toNat))|_=>.non) (fun d hd=>by
    obtain⟨k,hk,rfl⟩:=List.mem_map.mp hd;have hk:=List.mem_range.mp hk;refine⟨[.sh (.int ((k:Int)+1)),.sh (.str (strOf w))],rfl,rfl,?_⟩
    have hm:o2 (gc (.int 8)) (gv 1) ri0 [.sh (.int ((k:Int)+1)),.sh (.str (strOf w))]=some (.str (strOf (List.replicate 8 w).flatten)):=by
     rw[o5 (x:=.int 8) (y:=.str (strOf w)) rfl rfl];simp only[ri0];rw[if_pos ⟨by decide,by decide,by rw[zx0,wl]; show n*8<=_; omega⟩]
     exact congrArg (fun s=>some (D.str s)) (ck0 w 8)
    have hfl:(List.replicate 8 w).flatten.length=8*n:=by simp[wl]; omega
    unfold U6;rw[hm];show slA (.str (strOf (List.replicate 8 w).flatten)) none (some ((k:Int)+1))=_;simp only[slA];rw[if_pos (by rw[zx0,hfl]; omega),gs0 _ _ (by omega) (by rw[hfl]; omega)])]
   rw[List.map_map,List.map_map];rfl
  ·obtain⟨k,hk,rfl⟩:=List.mem_map.mp hs
   have hk:=List.mem_range.mp hk
   have hfl:(List.replicate 8 w).flatten.length=8*n:=by simp[wl]; omega
   refine o80 _ (by rw[List.length_take,hfl]; omega) (by rw[List.length_take]; omega) fun x hx=>?_
   have:=List.mem_of_mem_take hx
   obtain⟨l,hl,hx⟩:=List.mem_flatten.mp this;rw[(List.mem_replicate.mp hl).2] at hx;exact wm x hx
  ·refine List.nodup_iff_pairwise_ne.mpr (List.pairwise_map.mpr (List.Pairwise.imp_of_mem ?_ (List.nodup_range (n:=8))))
   intro a b ha hb' hab e;have ha:=List.mem_range.mp ha;have hb':=List.mem_range.mp hb';have e:=congrArg List.length (oe0 e);have hfl:(List.replicate 8 w).flatten.length=8*n:=by simp[wl]; omega
   rw[List.length_take,List.length_take,hfl] at e;omega
 ·obtain⟨a,ha⟩:∃a:Nat,(a:Int)=t%(n:Int):=⟨(t%(n:Int)).toNat,by have:=Int.emod_nonneg t (by omega:(n:Int)≠0); omega⟩
  have han:a<n:=by have:=Int.emod_lt_of_pos t (by omega:(0:Int)<n); omega
  obtain⟨p,hp⟩:∃p,p=pl.getD a 0:=⟨_,rfl⟩;have hpp:0<=p/\p<36:=by
   have hlt:a<pl.length:=by omega
   have:p=pl[a]:=by rw[hp]; simp[List.getD_eq_getElem?_getD,hlt]
   rw[this];exact hpx _ (List.getElem_mem hlt)
  let F:Nat->List Nat:=fun k=>w.take a++cg ((p+4*(k:Int))%36)::w.drop (a+1)
  have Fl:∀k,(F k).length=n:=fun k=>by
   show (w.take a++cg ((p+4*(k:Int))%36)::w.drop (a+1)).length=n
   rw[List.length_append,List.length_cons,List.length_take,List.length_drop];omega
  obtain⟨δ'',m1,m2⟩:=z70 (f:=gN 5) (G:=PC) (fun i δ=>∃(s5 s9:Sl),δ=[.sh (.int c'),.sh (.int t),.sh (.str V9),.sh (.int (n:Int)),.ow (.lst (pl.map .int)),s5,.sh (.str (strOf w)),.sh (.int (a:Int)),.ow (.lst (((List.range i).map fun k=>strOf (F k)).map .str)),s9]) (U7 0 8) 0
   [.sh (.int c'),.sh (.int t),.sh (.str V9),.sh (.int (n:Int)),.ow (.lst (pl.map .int)),s5,.sh (.str (strOf w)),.sh (.int (a:Int)),.ow (.lst []),.un] (by
    rintro j d δ hj ⟨s5,s9,rfl⟩
    obtain⟨hj',rfl⟩:=uk0 hj;have hj':j<8:=hj';rw[Nat.zero_add];refine⟨_,[.sh (.int c'),.sh (.int t),.sh (.str V9),.sh (.int (n:Int)),.ow (.lst (pl.map .int)),.sh (.int (j:Int)),.sh (.str (strOf w)),.sh (.int (a:Int)),.ow (.lst (((List.range (j+1)).map fun k=>strOf (F k)).map .str)),.sh (.str ⟨#[cg ((p+4*(j:Int))%36)]⟩)],rfl,?_,_,_,rfl⟩
    refine u9 (Z3 (d:=.str ⟨#[cg ((p+4*(j:Int))%36)]⟩) ?_) ?_
    ·rw[o5 (x:=.str V9) (y:=.int ((p+4*(j:Int))%36)) rfl (by
      rw[o5 (x:=.int (p+4*(j:Int))) (y:=.int 36) (by
       rw[o5 (x:=.int p) (y:=.int (4*(j:Int))) (by
        have q:o2 (gv 4) (gv 7) ixD (frz [.sh (.int c'),.sh (.int t),.sh (.str V9),.sh (.int (n:Int)),.ow (.lst (pl.map .int)),.sh (.int (j:Int)),.sh (.str (strOf w)),.sh (.int (a:Int)),.ow (.lst (((List.range j).map fun k=>strOf (F k)).map .str)),s9])=some (.int p):=by
         rw[o5 (x:=.lst (pl.map .int)) (y:=.int (a:Int)) rfl rfl];show atI (pl.map D.int) (a:Int)=_;have hlt:a<pl.length:=by omega
         rw[zz0 (by omega) (by rw[List.length_map]; omega) .non,hp]
         simp[List.getD_eq_getElem?_getD,hlt]
        show Option.bind _ _=_
        exact(congrArg (fun o=>Option.bind o _) q).trans rfl) (by rw[o5 (x:=.int 4) (y:=.int (j:Int)) rfl rfl]; exact mul_r _ _ (by omega))]
       rfl) rfl]
      rfl)]
     exact ji0 _ (by omega) (by omega)
    ·refine u9 (w70 (l:=((List.range j).map fun k=>strOf (F k)).map .str) (d:=.str (strOf (F j))) rfl ?_ (by simp; omega)) ?_
     ·have t1:U6 (gv 6) S7 (someO (gv 7)) [.sh (.int c'),.sh (.int t),.sh (.str V9),.sh (.int (n:Int)),.ow (.lst (pl.map .int)),.sh (.int (j:Int)),.sh (.str (strOf w)),.sh (.int (a:Int)),.ow (.lst (((List.range j).map fun k=>strOf (F k)).map .str)),.sh (.str ⟨#[cg ((p+4*(j:Int))%36)]⟩)]=some (.str (strOf (w.take a))):=by
       show slA (.str (strOf w)) none (some (a:Int))=_
       simp only[slA];rw[if_pos (by rw[zx0,wl]; omega),gs0 _ _ (by omega) (by omega),Int.toNat_natCast]
      have t2:U6 (gv 6) (someO (o2 (gv 7) (gc (.int 1)) b8)) S7 [.sh (.int c'),.sh (.int t),.sh (.str V9),.sh (.int (n:Int)),.ow (.lst (pl.map .int)),.sh (.int (j:Int)),.sh (.str (strOf w)),.sh (.int (a:Int)),.ow (.lst (((List.range j).map fun k=>strOf (F k)).map .str)),.sh (.str ⟨#[cg ((p+4*(j:Int))%36)]⟩)]=some (.str (strOf (w.drop (a+1)))):=by
       show slA (.str (strOf w)) (some ((a:Int)+1)) none=_
       simp only[slA];rw[if_pos (by rw[zx0,wl]; omega),We0 _ _ (by omega) (by omega),show ((a:Int)+1).toNat=a+1 by omega]
      change o2 _ _ _ [.sh (.int c'),.sh (.int t),.sh (.str V9),.sh (.int (n:Int)),.ow (.lst (pl.map .int)),.sh (.int (j:Int)),.sh (.str (strOf w)),.sh (.int (a:Int)),.ow (.lst (((List.range j).map fun k=>strOf (F k)).map .str)),.sh (.str ⟨#[cg ((p+4*(j:Int))%36)]⟩)]=_
      rw[o5 (x:=.str (strOf (w.take a++[cg ((p+4*(j:Int))%36)]))) (y:=.str (strOf (w.drop (a+1)))) (by
       rw[o5 t1 rfl];exact iq0 _ [cg ((p+4*(j:Int))%36)] (by rw[List.length_take]; simp; omega)) t2]
      rw[iq0 _ _ (by rw[List.length_append,List.length_take,List.length_drop]; simp; omega)]
      show some (D.str (strOf _))=some (D.str (strOf (w.take a++cg ((p+4*(j:Int))%36)::w.drop (a+1))))
      rw[List.append_assoc];rfl
     ·rw[List.range_succ,List.map_append,List.map_append]
      rfl) ⟨_,_,rfl⟩
  obtain⟨s5',s9,rfl⟩:=m2;refine⟨(List.range 8).map fun k=>strOf (F k),O6 rfl (hpre _ _ (u9 (δ':=[.sh (.int c'),.sh (.int t),.sh (.str V9),.sh (.int (n:Int)),.ow (.lst (pl.map .int)),s5,.sh (.str (strOf w)),.un,.un,.un]) ?_ (u9 (Z3 (d:=.int (a:Int)) ?_) (u9 (δ':=[.sh (.int c'),.sh (.int t),.sh (.str V9),.sh (.int (n:Int)),.ow (.lst (pl.map .int)),s5,.sh (.str (strOf w)),.sh (.int (a:Int)),.ow (.lst []),.un]) rfl (u9 (J6 (items:=U7 0 8) rfl m1) (Q9 rfl)))))),by simp,fun s hs=>?_,?_⟩
  ·rw[Z7 (by show some (decide (t/8%3=1))=_; rw[decide_eq_false hb])]; rfl
  ·rw[o5 (x:=.int t) (y:=.int (n:Int)) rfl rfl,xx0 _ _ (by omega),ha]
  ·obtain⟨k,hk,rfl⟩:=List.mem_map.mp hs
   refine o80 _ (by rw[Fl]; omega) (by rw[Fl]; omega) fun x hx=>?_
   rcases List.mem_append.mp hx with q|q
   ·exact wm x (List.mem_of_mem_take q)
   ·rcases List.mem_cons.mp q with q|q
    ·rw[q]; exact fo0 _ (by omega) (by omega)
    ·exact wm x (List.mem_of_mem_drop q)
  ·refine List.nodup_iff_pairwise_ne.mpr (List.pairwise_map.mpr (List.Pairwise.imp_of_mem ?_ (List.nodup_range (n:=8))))
   intro x y hx hy hxy e;have hx:=List.mem_range.mp hx;have hy:=List.mem_range.mp hy;have e:w.take a++cg ((p+4*(x:Int))%36)::w.drop (a+1)=w.take a++cg ((p+4*(y:Int))%36)::w.drop (a+1):=oe0 e;have e:=List.append_cancel_left e;injection e with e _
   have:=Wk0 _ _ (by omega) (by omega) (by omega) (by omega) e
   omega
end Gw
namespace Gw
open PySem DL W
theorem s40(c k:Int)(hk:0<=k/\k<=1000000):∃x,0<=x/\x<2147483647/\V7 [.int c,.int k]=some (.int x):=by
 refine⟨(c%2147483647+1)*(48271+7*k)%2147483647,Int.emod_nonneg _ (by decide),Int.emod_lt_of_pos _ (by decide),d7 rfl (m8 (Z9 ?_))⟩
 rw[o5 (x:=.int ((c%2147483647+1)*(48271+7*k))) (y:=.int 2147483647) (by
  rw[o5 (x:=.int (c%2147483647+1)) (y:=.int (48271+7*k)) rfl (by
   rw[o5 (x:=.int 48271) (y:=.int (7*k)) rfl (by rw[o5 (x:=.int 7) (y:=.int k) rfl rfl]; exact mul_r _ _ (by omega))]
   rfl)]
  exact mul_r _ _ (by omega)) rfl]
 rfl
structure Vk(v:D)(m:Int):Prop where
 ok:p70 v=true
 bd:∀i,v=.int i->i.natAbs<10 ^ 60
 lk:∀k,lk v=some k->k<m
theorem U90:rm0 (.int 10) (.int 60)=some (.int (10 ^ 60)):=by kernel_rfl
theorem m40(x m:Int)(hx:0<=x/\x<2 ^ 40)(hm:0<m):∃v,W2 [.int x,.int m]=some v/\Vk v m:=by
 have z:(100:Nat)<=sizeLine:=by decide
 have s0:n8 (gN 2) (o2 (gv 0) (gc (.int 10)) j5) [.sh (.int x),.sh (.int m),.un]=some (.nx [.sh (.int x),.sh (.int m),.sh (.int (x%10))]):=rfl
 have el:∀k:Int,ob (o2 (gv 2) (gc (.int k)) ltD) [.sh (.int x),.sh (.int m),.sh (.int (x%10))]=some (decide (x%10<k)):=fun k=>rfl
 have ee:∀k:Int,ob (o2 (gv 2) (gc (.int k)) eqD) [.sh (.int x),.sh (.int m),.sh (.int (x%10))]=some (decide (x%10=k)):=fun k=>rfl
 have nl:∀(k:Int) (A:GS),¬x%10<k->ifD (ob (o2 (gv 2) (gc (.int k)) ltD)) A u6 [.sh (.int x),.sh (.int m),.sh (.int (x%10))]=some (.nx [.sh (.int x),.sh (.int m),.sh (.int (x%10))]):=fun k A h=>by
  rw[Z7 (by rw[el,decide_eq_false h])]; rfl
 have ne:∀(k:Int) (A:GS),¬x%10=k->ifD (ob (o2 (gv 2) (gc (.int k)) eqD)) A u6 [.sh (.int x),.sh (.int m),.sh (.int (x%10))]=some (.nx [.sh (.int x),.sh (.int m),.sh (.int (x%10))]):=fun k A h=>by
  rw[Z7 (by rw[ee,decide_eq_false h])]; rfl
 by_cases h6:x%10<6
 ·have hk0:0<=x/10%m:=Int.emod_nonneg _ (by omega)
  have hk1:x/10%m<m:=Int.emod_lt_of_pos _ hm
  refine⟨.tup [.str "at",.int (x/10%m)],d7 rfl (u9 s0 (m8 ?_)),by simp[p70,marks,hk0],(fun i hi=>by cases hi),fun k hk=>?_⟩
  ·rw[S8 (by rw[el,decide_eq_true h6])]
   exact m8 (Z9 (V1 (cons_of rfl (cons_of (d:=.int (x/10%m)) (by
    rw[o5 (x:=.int (x/10)) (y:=.int m) rfl rfl]; exact xx0 _ _ hm) rfl)) (by show 2<=sizeLine; omega)))
  ·have:=Option.some.inj hk
   omega
 by_cases e6:x%10=6
 ·refine⟨.non,d7 rfl (u9 s0 (u9 (nl 6 _ h6) (m8 ?_))),rfl,(fun i hi=>by cases hi),fun k hk=>by cases hk⟩
  rw[S8 (by rw[ee,decide_eq_true e6])]; rfl
 have p60:(10:Nat) ^ 60=1000000000000000000000000000000000000000000000000000000000000:=by decide
 by_cases h9:x%10<9
 ·refine⟨.int (x/10%3 - 1),d7 rfl (u9 s0 (u9 (nl 6 _ h6) (u9 (ne 6 _ e6) (m8 ?_)))),rfl,(fun i hi=>?_),fun k hk=>by cases hk⟩
  ·rw[S8 (by rw[el,decide_eq_true h9])]; rfl
  ·injection hi with hi
   rw[p60]; omega
 ·obtain⟨b,hb⟩:∃b:Int,b=(x/10) ^ 7%10 ^ 60:=⟨_,rfl⟩
  have p60i:(10:Int) ^ 60=1000000000000000000000000000000000000000000000000000000000000:=by decide
  have b0:0<=b:=by rw[hb]; exact Int.emod_nonneg _ (by decide)
  have b1:b<10 ^ 60:=by rw[hb]; exact Int.emod_lt_of_pos _ (by decide)
  obtain⟨q,hq,hq1⟩:∃q:Int,q=1 - 2*(x/20%2)/\(q=1∨q=-1):=⟨_,rfl,by omega⟩
  refine⟨.int (b*q),d7 rfl (u9 s0 (u9 (nl 6 _ h6) (u9 (ne 6 _ e6) (u9 (nl 9 _ h9) (m8 (Z9 ?_)))))),rfl,(fun i hi=>?_),fun k hk=>by cases hk⟩
  ·rw[o5 (x:=.int b) (y:=.int q) (by
    rw[o5 (x:=.int ((x/10) ^ 7)) (y:=.int (10 ^ 60)) (by
     rw[o5 (x:=.int (x/10)) (y:=.int 7) rfl rfl];simp only[rm0,ii];rw[if_pos ⟨by decide,by decide,by omega⟩]
     rfl) (by rw[o5 (x:=.int 10) (y:=.int 60) rfl rfl]; exact U90)]
    rw[xx0 _ _ (by decide),hb]) (by
    rw[o5 (x:=.int 1) (y:=.int (2*(x/20%2))) rfl (by rw[o5 (x:=.int 2) (y:=.int (x/20%2)) rfl rfl]; exact mul_r _ _ (by omega)),hq]
    rfl)]
   exact mul_r _ _ (by omega)
  ·injection hi with hi
   rw[← hi,p60];rw[p60i] at b1;rcases hq1 with rfl|rfl
   ·rw[Int.mul_one]; omega
   ·rw[Int.mul_neg,Int.mul_one,Int.natAbs_neg]; omega
def VB:GS:=(v8 (n8 (gN 0) (o2 (o2 (gv 0) (gc (.int 48271)) S9) (gc (.int 2147483647)) j5))
 (v8 (X8 (Q5 3 (oA (z9 (gv 0) (z9 (gv 2) v7)) W2)))
 u6))
theorem Q0(x:Int)(c:Nat)(m:Int)(hc:c<=1000)(hm:0<m):∃vs,Q3 [.int x,.int (c:Int),.int m]=some (.lst vs)/\vs.length=c/\∀v∈vs,Vk v m:=by
 have z:(10000:Nat)<=sizeLine:=by decide
 obtain⟨δ',l1,l2⟩:=z70 (f:=gN 4) (G:=VB) (fun i δ=>∃(x':Int) (vs:List D) (s4:Sl),δ=[.sh (.int x'),.sh (.int (c:Int)),.sh (.int m),.ow (.lst vs),s4]/\vs.length=i/\∀v∈vs,Vk v m) (U7 0 (c:Int)) 0
  [.sh (.int x),.sh (.int (c:Int)),.sh (.int m),.ow (.lst []),.un] (by
   rintro j d δ hj ⟨x',vs,s4,rfl,hl,hv⟩
   obtain⟨hj',rfl⟩:=uk0 hj;rw[Int.toNat_natCast] at hj';obtain⟨v,hv1,hv2⟩:=m40 (x'*48271%2147483647) m ⟨Int.emod_nonneg _ (by decide),by have:=Int.emod_lt_of_pos (x'*48271) (by decide:(0:Int)<2147483647); omega⟩ hm
   refine⟨_,[.sh (.int (x'*48271%2147483647)),.sh (.int (c:Int)),.sh (.int m),.ow (.lst (vs++[v])),.sh (.int (j:Int))],rfl,?_,_,vs++[v],_,rfl,by simp[hl],fun u hu=>?_⟩
   ·refine u9 (Z3 (d:=.int (x'*48271%2147483647)) (by
     rw[o5 (x:=.int (x'*48271)) (y:=.int 2147483647) (by rw[o5 (x:=.int x') (y:=.int 48271) rfl rfl]; exact mul_r _ _ (by omega)) rfl]
     rfl)) ?_
    refine u9 (w70 (l:=vs) (d:=v) rfl (by rw[o7 (ds:=[.int (x'*48271%2147483647),.int m]) rfl]; exact hv1) (by omega)) rfl
   ·rcases List.mem_append.mp hu with q|q
    ·exact hv u q
    ·rw[List.mem_singleton.mp q]; exact hv2) ⟨_,[],_,rfl,rfl,fun v hv=>by cases hv⟩
 obtain⟨x',vs,s4,rfl,hl,hv⟩:=l2;rw[xq0,Int.toNat_natCast,Nat.zero_add] at hl;exact⟨vs,O6 rfl (u9 (δ':=[.sh (.int x),.sh (.int (c:Int)),.sh (.int m),.ow (.lst []),.un]) rfl (u9 (J6 (items:=U7 0 (c:Int)) (xl0 (cons_of rfl rfl) (by omega) (by omega)) l1) (Q9 rfl))),hl,hv⟩
structure Gd(p:Pt)(m:Int)(nm:List Str):Prop where
 ok:p.Ok
 vk:∀v∈p.vals,Vk v m
 nms:∀s∈p.all,s∈nm
theorem w_a:isWord ("" : Str)=true/\isWord ("a" : Str)=true/\isWord (" a" : Str)=true:=by decide +kernel
theorem s_0:((" 0" : Str))=strOf [32,48]:=by decide +kernel
theorem gc0(l:List Nat)(h2:l.length<=20)(h3:∀c∈l,c∈no0.cps.toList):isWord (strOf l)=true:=by
 unfold isWord hasAll;rw[zx0,yz0];simp only[Bool.and_eq_true,decide_eq_true_eq,List.all_eq_true];exact⟨by omega,fun c hc=>by simpa using h3 c hc⟩
theorem gl0:∀c∈nameS.cps.toList,c∈no0.cps.toList:=by decide +kernel
theorem ap0:∀c∈([32,48]:List Nat),c∈no0.cps.toList:=by decide +kernel
theorem name_mem{s:Str}(h:isName s=true):∀c∈s.cps.toList,c∈nameS.cps.toList:=by
 unfold isName hasAll at h;simp only[Bool.and_eq_true,decide_eq_true_eq,List.all_eq_true] at h;intro c hc;have:=h.1.2 c hc
 simpa using this
theorem ng0(nm:List Str)(hp:Pool nm)(i:Int)(h0:0<=i)(h1:i<8):ixD (.lst (nm.map .str)) (.int i)=some (.str (nm.getD i.toNat ""))/\nm.getD i.toNat ""∈nm:=by
 have hl:=hp.len
 have hlt:i.toNat<nm.length:=by omega
 refine⟨?_,?_⟩
 ·show atI (nm.map D.str) i=_
  rw[zz0 h0 (by rw[List.length_map]; omega) .non]
  simp[List.getD_eq_getElem?_getD,hlt]
 ·rw[show nm.getD i.toNat ""=nm[i.toNat] by simp[List.getD_eq_getElem?_getD,hlt]]
  exact List.getElem_mem hlt
theorem ac0(x m:Int)(vs:List D)(nm:List Str)(hp:Pool nm)(hv:∀v∈vs,Vk v m)(hl:vs.length<=12)(hl8:¬x%8<4->vs.length<=8):∃p:Pt,K3 [.int x,.lst vs,.lst (nm.map .str)]=some p.d/\Gd p m nm:=by
 have z:(100:Nat)<=sizeLine:=by decide
 have hnl:=hp.len
 have s0:n8 (gN 3) (o2 (gv 0) (gc (.int 8)) j5) [.sh (.int x),.sh (.lst vs),.sh (.lst (nm.map .str)),.un,.un,.un]=some (.nx [.sh (.int x),.sh (.lst vs),.sh (.lst (nm.map .str)),.sh (.int (x%8)),.un,.un]):=rfl
 by_cases h0:x%8=0
 ·obtain⟨w,hw,hww⟩:∃w:Str,o2 (X5 (z9 (gc (.str "")) (z9 (gc (.str "a")) (z9 (gc (.str " a")) (z9 (o2 (o2 (gv 2) (gc (.int 0)) ixD) (gc (.str " 0")) b8) v7))))) (o2 (o2 (gv 0) (gc (.int 16)) b7) (gc (.int 4)) j5) ixD [.sh (.int x),.sh (.lst vs),.sh (.lst (nm.map .str)),.sh (.int (x%8)),.un,.un]=some (.str w)/\isWord w=true:=by
   obtain⟨a1,a2⟩:=ng0 nm hp 0 (by omega) (by omega)
   obtain⟨s,hs⟩:∃s,s=nm.getD (0:Int).toNat "" := ⟨_,rfl⟩;rw[← hs] at a1 a2;have hn:=hp.names s a2;have hsh:=i70 hn;have es:s=strOf s.cps.toList:=(c00 s).symm;have hsl:s.cps.toList.length<=8:=by
    have:s.length=s.cps.toList.length:=by show s.cps.size=_; simp
    omega
   rw[o5 (x:=.lst [.str "",.str "a",.str " a",.str (strOf (s.cps.toList++[32,48]))]) (y:=.int (x/16%4)) (vj0 (cons_of rfl (cons_of rfl (cons_of rfl (cons_of (d:=.str (strOf (s.cps.toList++[32,48]))) (by
    rw[o5 (x:=.str s) (y:=.str " 0") (by rw[o5 (x:=.lst (nm.map .str)) (y:=.int 0) rfl rfl]; exact a1) rfl]
    have e:b8 (.str (strOf s.cps.toList)) (.str (strOf [32,48]))=some (.str (strOf (s.cps.toList++[32,48]))):=iq0 _ _ (by simp only[List.length_cons,List.length_nil]; omega)
    rw[← es,← s_0] at e;exact e) rfl)))) (by show 4<=sizeLine; omega)) rfl]
   have q:x/16%4=0∨x/16%4=1∨x/16%4=2∨x/16%4=3:=by omega
   rcases q with q|q|q|q<;>rw[q]
   ·exact⟨_,rfl,w_a.1⟩
   ·exact⟨_,rfl,w_a.2.1⟩
   ·exact⟨_,rfl,w_a.2.2⟩
   ·refine⟨_,rfl,gc0 _ (by simp only[List.length_append,List.length_cons,List.length_nil]; omega) fun c hc=>?_⟩
    rcases List.mem_append.mp hc with q|q
    ·exact gl0 c (name_mem hn c q)
    ·exact ap0 c q
  refine⟨.text w,d7 rfl (u9 s0 (m8 ?_)),hww,(fun v hv=>by cases hv),fun s hs=>by cases hs⟩
  rw[S8 (by show some (decide (x%8=0))=_; rw[decide_eq_true h0])]
  exact m8 (Z9 (V1 (cons_of rfl (cons_of hw rfl)) (by show 2<=sizeLine; omega)))
 have n0:∀A:GS,ifD (ob (o2 (gv 3) (gc (.int 0)) eqD)) A u6 [.sh (.int x),.sh (.lst vs),.sh (.lst (nm.map .str)),.sh (.int (x%8)),.un,.un]=some (.nx [.sh (.int x),.sh (.lst vs),.sh (.lst (nm.map .str)),.sh (.int (x%8)),.un,.un]):=fun A=>by
  rw[Z7 (by show some (decide (x%8=0))=_; rw[decide_eq_false h0])]; rfl
 by_cases h4:x%8<4
 ·refine⟨.row vs,d7 rfl (u9 s0 (u9 (n0 _) (m8 ?_))),⟨hl,fun v q=>(hv v q).ok⟩,hv,fun s hs=>by cases hs⟩
  rw[S8 (by show some (decide (x%8<4))=_; rw[decide_eq_true h4])]
  exact m8 (Z9 (V1 (cons_of rfl (cons_of (by rw[o7 (ds:=[.lst vs]) rfl]; rfl) rfl)) (by show 2<=sizeLine; omega)))
 have n4:∀A:GS,ifD (ob (o2 (gv 3) (gc (.int 4)) ltD)) A u6 [.sh (.int x),.sh (.lst vs),.sh (.lst (nm.map .str)),.sh (.int (x%8)),.un,.un]=some (.nx [.sh (.int x),.sh (.lst vs),.sh (.lst (nm.map .str)),.sh (.int (x%8)),.un,.un]):=fun A=>by
  rw[Z7 (by show some (decide (x%8<4))=_; rw[decide_eq_false h4])]; rfl
 have hv8:=hl8 h4
 obtain⟨st,hst⟩:∃st:Int,st=x/8%2*3:=⟨_,rfl⟩;have hst0:0<=st/\st<=3:=by omega
 obtain⟨ns,hns⟩:∃ns:Nat->Str,ns=fun (j:Nat)=>nm.getD ((st+(j:Int))%8).toNat "" := ⟨_,rfl⟩
 have nsm:∀j,ns j∈nm:=fun j=>by rw[hns]; exact(ng0 nm hp ((st+(j:Int))%8) (by omega) (by omega)).2
 obtain⟨ps,hps⟩:∃ps:List (Str×D),ps=(List.range vs.length).map fun j=>(ns j,vs.getD j .non):=⟨_,rfl⟩
 have snd:ps.map (·.2)=vs:=by
  rw[hps,List.map_map];refine List.ext_getElem (by simp) fun i h1 h2=>?_
  simp[List.getD_eq_getElem?_getD,h2]
 have fst:∀s∈ps.map (·.1),s∈nm:=fun s hs=>by
  obtain⟨p,hp',rfl⟩:=List.mem_map.mp hs;rw[hps] at hp';obtain⟨j,_,rfl⟩:=List.mem_map.mp hp';exact nsm j
 have pok:PsOk ps:=by
  refine⟨by rw[hps]; simp; omega,fun p hp'=>hp.names _ (fst _ (List.mem_map.mpr ⟨p,hp',rfl⟩)),fun p hp'=>(hv p.2 (by rw[← snd]; exact List.mem_map.mpr ⟨p,hp',rfl⟩)).ok,?_⟩
  rw[hps,List.map_map];refine List.nodup_iff_pairwise_ne.mpr (List.pairwise_map.mpr (List.Pairwise.imp_of_mem ?_ (List.nodup_range (n:=vs.length))))
  intro a b ha hb hab e;have ha:=List.mem_range.mp ha;have hb:=List.mem_range.mp hb;have e:ns a=ns b:=e;rw[hns] at e;have la:((st+(a:Int))%8).toNat<nm.length:=by omega
  have lb:((st+(b:Int))%8).toNat<nm.length:=by omega
  have e:nm.getD ((st+(a:Int))%8).toNat ""=nm.getD ((st+(b:Int))%8).toNat "" := e
  rw[show nm.getD ((st+(a:Int))%8).toNat ""=nm[((st+(a:Int))%8).toNat] by simp[List.getD_eq_getElem?_getD,la],show nm.getD ((st+(b:Int))%8).toNat ""=nm[((st+(b:Int))%8).toNat] by simp[List.getD_eq_getElem?_getD,lb]] at e
  have:=(List.getElem_inj hp.nd).mp e
  omega
 have s4:n8 (gN 4) (o2 (o2 (o2 (gv 0) (gc (.int 8)) b7) (gc (.int 2)) j5) (gc (.int 3)) S9) [.sh (.int x),.sh (.lst vs),.sh (.lst (nm.map .str)),.sh (.int (x%8)),.un,.un]=some (.nx [.sh (.int x),.sh (.lst vs),.sh (.lst (nm.map .str)),.sh (.int (x%8)),.sh (.int st),.un]):=Z3 (d:=.int st) (by
  rw[o5 (x:=.int (x/8%2)) (y:=.int 3) rfl rfl,mul_r _ _ (by omega),hst])
 have s5:n8 (gN 5) (oA (z9 (Z0 1 [1,2,4] (Q8 (z9 (oA (z9 (gv 1) v7) j8) v7)) (gN 0) noT (m9 (z9 (o2 (gv 2) (o2 (o2 (gv 3) (gv 0) b8) (gc (.int 8)) j5) ixD) (z9 (o2 (gv 1) (gv 0) ixD) v7)))) v7) W8) [.sh (.int x),.sh (.lst vs),.sh (.lst (nm.map .str)),.sh (.int (x%8)),.sh (.int st),.un]=some (.nx [.sh (.int x),.sh (.lst vs),.sh (.lst (nm.map .str)),.sh (.int (x%8)),.sh (.int st),.sh (.tup (ps.map pr))]):=Z3 (d:=.tup (ps.map pr)) (by
  rw[o7 (ds:=[.lst (ps.map pr)]) (cons_of (W7 (items:=U7 0 (vs.length:Int)) (xl0 (cons_of rfl rfl) (by omega) (by omega)) (by rw[xq0]; omega) (by
   rw[hps,List.map_map];have q:=mc0 (gt:=noT) (ge:=(m9 (z9 (o2 (gv 2) (o2 (o2 (gv 3) (gv 0) b8) (gc (.int 8)) j5) ixD) (z9 (o2 (gv 1) (gv 0) ixD) v7)))) (δ:=[.un,.sh (.lst vs),.sh (.lst (nm.map .str)),.sh (.int st)]) (n:=(vs.length:Int)) (fun j=>pr (ns j,vs.getD j .non)) (fun k hk=>⟨[.sh (.int (k:Int)),.sh (.lst vs),.sh (.lst (nm.map .str)),.sh (.int st)],rfl,rfl,by
    refine V1 (cons_of (d:=.str (ns k)) ?_ (cons_of (d:=vs.getD k .non) ?_ rfl)) (by show 2<=sizeLine; omega)
    ·rw[o5 (x:=.lst (nm.map .str)) (y:=.int ((st+(k:Int))%8)) rfl rfl,hns]
     exact(ng0 nm hp _ (by omega) (by omega)).1
    ·rw[o5 (x:=.lst vs) (y:=.int (k:Int)) rfl rfl]
     show atI vs (k:Int)=_
     rw[zz0 (by omega) (by omega) .non,Int.toNat_natCast]⟩)
   rw[Int.toNat_natCast] at q;exact q)) rfl)]
  rfl)
 by_cases h6:x%8<6
 ·refine⟨.table ps,d7 rfl (u9 s0 (u9 (n0 _) (u9 (n4 _) (u9 s4 (u9 s5 (m8 ?_)))))),pok,by show ∀v∈ps.map (·.2),Vk v m; rw[snd]; exact hv,fun s hs=>fst s (by simpa [Pt.all,Pt.pnames,Pt.cls] using hs)⟩
  rw[S8 (by show some (decide (x%8<6))=_; rw[decide_eq_true h6])]
  exact m8 (Z9 (V1 (cons_of rfl (cons_of rfl rfl)) (by show 2<=sizeLine; omega)))
 ·obtain⟨a1,a2⟩:=ng0 nm hp (x/16%2) (by omega) (by omega)
  refine⟨.rcd (nm.getD (x/16%2).toNat "") ps,d7 rfl (u9 s0 (u9 (n0 _) (u9 (n4 _) (u9 s4 (u9 s5 (u9 (δ':=[.sh (.int x),.sh (.lst vs),.sh (.lst (nm.map .str)),.sh (.int (x%8)),.sh (.int st),.sh (.tup (ps.map pr))]) ?_ (m8 (Z9 ?_)))))))),⟨hp.names _ a2,pok⟩,by show ∀v∈ps.map (·.2),Vk v m; rw[snd]; exact hv,fun s hs=>?_⟩
  ·rw[Z7 (by show some (decide (x%8<6))=_; rw[decide_eq_false h6])]; rfl
  ·exact V1 (cons_of rfl (cons_of (by
    rw[o5 (x:=.lst (nm.map .str)) (y:=.int (x/16%2)) rfl rfl];exact a1) (cons_of rfl rfl))) (by show 3<=sizeLine; omega)
  ·rcases List.mem_append.mp hs with q|q
   ·exact fst s q
   ·have:=List.mem_singleton.mp q
    rw[this]; exact a2
def WB:GS:=(v8 (n8 (gN 5) (oA (z9 (o2 (o2 (gv 0) (o2 (gv 4) (oA (z9 (gv 0) v7) j8) j5) ixD) (o2 (gv 4) (o2 (gv 4) (oA (z9 (gv 0) v7) j8) b7) S9) b8) (z9 (gv 4) v7)) V7))
 (v8 (n8 (gN 6) (o2 (X5 (z9 (gc (.int 0)) (z9 (gc (.int 1)) (z9 (gc (.int 2)) (z9 (gc (.int 2)) (z9 (gc (.int 3)) (z9 (gc (.int 2)) (z9 (gc (.int 3)) (z9 (gc (.int 1)) v7))))))))) (o2 (o2 (gv 5) (gc (.int 32)) b7) (gc (.int 8)) j5) ixD))
 (v8 (ifD (ob (o2 (o2 (o2 (gv 5) (gc (.int 256)) b7) (gc (.int 16)) j5) (gc (.int 3)) eqD))
 (v8 (n8 (gN 6) (o2 (X5 (z9 (gc (.int 8)) (z9 (gc (.int 12)) v7))) (oA (z9 (o2 (o2 (gv 5) (gc (.int 8)) j5) (gc (.int 4)) ltD) v7) intOfD) ixD))
 u6)
 u6)
 (v8 (n8 (gN 7) (oA (z9 (o2 (o2 (gv 5) (gc (.int 8)) b7) (gc (.int 1)) b8) (z9 (gv 6) (z9 (gv 1) v7))) Q3))
 (v8 (X8 (Q5 3 (oA (z9 (gv 5) (z9 (gv 7) (z9 (gv 2) v7))) K3)))
 u6)))))
theorem Ww0(cs:List Int)(hc:0<cs.length/\cs.length<=1000)(m:Int)(hm:0<m/\m<=1000)(nm:List Str)(hp:Pool nm)(k:Nat)(hk:k<=1000)(acc:List D)(ha:acc.length<=2000)(s5 s6 s7:Sl) :
  ∃(p:Pt) (t5 t6 t7:Sl),Gd p m nm/\WB [.sh (.lst (cs.map .int)),.sh (.int m),.sh (.lst (nm.map .str)),.ow (.lst acc),.sh (.int (k:Int)),s5,s6,s7]=some (.nx [.sh (.lst (cs.map .int)),.sh (.int m),.sh (.lst (nm.map .str)),.ow (.lst (acc++[p.d])),.sh (.int (k:Int)),t5,t6,t7]):=by
 have z:(10000:Nat)<=sizeLine:=by decide
 obtain⟨l,hl⟩:∃l:Int,l=(cs.length:Int):=⟨_,rfl⟩;have hi0:0<=(k:Int)%l:=Int.emod_nonneg _ (by omega)
 have hi1:(k:Int)%l<l:=Int.emod_lt_of_pos _ (by omega)
 obtain⟨c,hcx⟩:∃c:Int,ixD (.lst (cs.map .int)) (.int ((k:Int)%l))=some (.int c):=by
  have hlt:((k:Int)%l).toNat<cs.length:=by omega
  refine⟨cs[((k:Int)%l).toNat],?_⟩
  show atI (cs.map D.int) _=_
  rw[zz0 hi0 (by rw[List.length_map]; omega) .non]
  simp[List.getD_eq_getElem?_getD,hlt]
 have hdl:(k:Int)/l<=1000/\0<=(k:Int)/l:=by
  have h1:=Int.ediv_le_self l (show (0:Int)<=(k:Int) by omega)
  have h2:=Int.ediv_nonneg (show (0:Int)<=(k:Int) by omega) (show (0:Int)<=l by omega)
  omega
 obtain⟨x,hx0,hx1,hx⟩:=s40 (c+(k:Int)*((k:Int)/l)) (k:Int) ⟨by omega,by omega⟩
 obtain⟨n,hn,hn12,hn8⟩:∃n:Nat,(n:Int)=(if x/256%16=3 then (if x%8<4 then 12 else 8) else [0,1,2,2,3,2,3,1].getD (x/32%8).toNat 0)/\n<=12/\(¬x%8<4->n<=8):=by
  split
  ·split
   ·exact⟨12,rfl,by omega,fun h=>absurd (by assumption) h⟩
   ·exact⟨8,rfl,by omega,fun _=>by omega⟩
  ·have q:x/32%8=0∨x/32%8=1∨x/32%8=2∨x/32%8=3∨x/32%8=4∨x/32%8=5∨x/32%8=6∨x/32%8=7:=by omega
   rcases q with q|q|q|q|q|q|q|q<;>rw[q]
   ·exact⟨0,rfl,by omega,fun _=>by omega⟩
   ·exact⟨1,rfl,by omega,fun _=>by omega⟩
   ·exact⟨2,rfl,by omega,fun _=>by omega⟩
   ·exact⟨2,rfl,by omega,fun _=>by omega⟩
   ·exact⟨3,rfl,by omega,fun _=>by omega⟩
   ·exact⟨2,rfl,by omega,fun _=>by omega⟩
   ·exact⟨3,rfl,by omega,fun _=>by omega⟩
   ·exact⟨1,rfl,by omega,fun _=>by omega⟩
 obtain⟨vs,hv1,hv2,hv3⟩:=Q0 (x/8+1) n m (by omega) (by omega)
 obtain⟨p,hp1,hp2⟩:=ac0 x m vs nm hp hv3 (by omega) (fun h=>by have:=hn8 h; omega)
 refine⟨p,.sh (.int x),.sh (.int (n:Int)),.sh (.lst vs),hp2,?_⟩
 unfold WB;have hlen:∀(s5 s6 s7:Sl),oA (z9 (gv 0) v7) j8 [.sh (.lst (cs.map .int)),.sh (.int m),.sh (.lst (nm.map .str)),.ow (.lst acc),.sh (.int (k:Int)),s5,s6,s7]=some (.int l):=fun s5 s6 s7=>by
  rw[o7 (ds:=[.lst (cs.map .int)]) rfl];show some (D.int (((cs.map D.int).length:Nat):Int))=_;rw[List.length_map,hl]
 refine u9 (Z3 (d:=.int x) ?_) ?_
 ·rw[o7 (ds:=[.int (c+(k:Int)*((k:Int)/l)),.int (k:Int)]) (cons_of (d:=.int (c+(k:Int)*((k:Int)/l))) (by
   rw[o5 (x:=.int c) (y:=.int ((k:Int)*((k:Int)/l))) (by
    rw[o5 (x:=.lst (cs.map .int)) (y:=.int ((k:Int)%l)) rfl (by rw[o5 (x:=.int (k:Int)) (y:=.int l) rfl (hlen _ _ _)]; exact xx0 _ _ (by omega))]
    exact hcx) (by
    rw[o5 (x:=.int (k:Int)) (y:=.int ((k:Int)/l)) rfl (by rw[o5 (x:=.int (k:Int)) (y:=.int l) rfl (hlen _ _ _)]; exact m70 _ _ ⟨by omega,by omega⟩)]
    exact mul_r _ _ (by omega))]
   rfl) rfl)]
  exact hx
 obtain⟨n0,hn0⟩:∃n0:Int,n0=[0,1,2,2,3,2,3,1].getD (x/32%8).toNat 0:=⟨_,rfl⟩;refine u9 (Z3 (d:=.int n0) ?_) ?_
 ·rw[o5 (x:=.lst [.int 0,.int 1,.int 2,.int 2,.int 3,.int 2,.int 3,.int 1]) (y:=.int (x/32%8)) (vj0 rfl (by show 8<=sizeLine; omega)) rfl]
  rw[hn0];have q:x/32%8=0∨x/32%8=1∨x/32%8=2∨x/32%8=3∨x/32%8=4∨x/32%8=5∨x/32%8=6∨x/32%8=7:=by omega
  rcases q with q|q|q|q|q|q|q|q<;>rw[q]<;>rfl
 refine u9 (δ':=[.sh (.lst (cs.map .int)),.sh (.int m),.sh (.lst (nm.map .str)),.ow (.lst acc),.sh (.int (k:Int)),.sh (.int x),.sh (.int (n:Int)),s7]) ?_ ?_
 ·change ifD _ _ _ [.sh (.lst (cs.map .int)),.sh (.int m),.sh (.lst (nm.map .str)),.ow (.lst acc),.sh (.int (k:Int)),.sh (.int x),.sh (.int n0),s7]=_
  rw[hn]
  by_cases h:x/256%16=3
  ·rw[S8 (by show some (decide (x/256%16=3))=_; rw[decide_eq_true h]),if_pos h]
   refine u9 (Z3 (d:=.int (if x%8<4 then 12 else 8)) ?_) rfl
   rw[o5 (x:=.lst [.int 8,.int 12]) (y:=.int (if decide (x%8<4)=true then 1 else 0)) (vj0 rfl (by show 2<=sizeLine; omega)) rfl]
   by_cases q:x%8<4
   ·rw[if_pos (decide_eq_true q),if_pos q]; rfl
   ·rw[if_neg (by simpa using q),if_neg q]; rfl
  ·rw[Z7 (by show some (decide (x/256%16=3))=_; rw[decide_eq_false h]),if_neg h,hn0]; rfl
 refine u9 (Z3 (d:=.lst vs) (by
  rw[o7 (ds:=[.int (x/8+1),.int (n:Int),.int m]) rfl]; exact hv1)) ?_
 refine u9 (w70 (l:=acc) (d:=p.d) rfl (by
  rw[o7 (ds:=[.int x,.lst vs,.lst (nm.map .str)]) rfl]; exact hp1) (by omega)) rfl
theorem ml0(cs:List Int)(hc:0<cs.length/\cs.length<=1000)(m:Nat)(hm:0<m/\m<=1000)(nm:List Str)(hp:Pool nm) :
  ∃ps:List Pt,zd0 [.lst (cs.map .int),.int (m:Int),.lst (nm.map .str)]=some (.tup (ps.map Pt.d))/\ps.length=m/\∀p∈ps,Gd p (m:Int) nm:=by
 have z:(10000:Nat)<=sizeLine:=by decide
 obtain⟨δ',l1,l2⟩:=z70 (f:=gN 4) (G:=WB) (fun i δ=>∃(ps:List Pt) (s4 s5 s6 s7:Sl),δ=[.sh (.lst (cs.map .int)),.sh (.int (m:Int)),.sh (.lst (nm.map .str)),.ow (.lst (ps.map Pt.d)),s4,s5,s6,s7]/\ps.length=i/\∀p∈ps,Gd p (m:Int) nm) (U7 0 (m:Int)) 0
  [.sh (.lst (cs.map .int)),.sh (.int (m:Int)),.sh (.lst (nm.map .str)),.ow (.lst []),.un,.un,.un,.un] (by
   rintro j d δ hj ⟨ps,s4,s5,s6,s7,rfl,hl,hg⟩
   obtain⟨hj',rfl⟩:=uk0 hj;rw[Int.toNat_natCast] at hj';obtain⟨p,t5,t6,t7,h1,h2⟩:=Ww0 cs hc (m:Int) (by omega) nm hp j (by omega) (ps.map Pt.d) (by rw[List.length_map]; omega) s5 s6 s7
   refine⟨_,_,rfl,h2,ps++[p],_,t5,t6,t7,by rw[List.map_append]; rfl,by simp[hl],fun q hq=>?_⟩
   rcases List.mem_append.mp hq with a|a
   ·exact hg q a
   ·rw[List.mem_singleton.mp a]; exact h1) ⟨[],_,_,_,_,rfl,rfl,fun p hp=>by cases hp⟩
 obtain⟨ps,s4,s5,s6,s7,rfl,hl,hg⟩:=l2;rw[xq0,Int.toNat_natCast,Nat.zero_add] at hl;refine⟨ps,d7 rfl (u9 (δ':=[.sh (.lst (cs.map .int)),.sh (.int (m:Int)),.sh (.lst (nm.map .str)),.ow (.lst []),.un,.un,.un,.un]) rfl (u9 (J6 (items:=U7 0 (m:Int)) (xl0 (cons_of rfl rfl) (by omega) (by omega)) l1) (m8 (Z9 ?_)))),hl,hg⟩
 show oA (z9 (gv 3) v7) W8 (frz _)=_
 rw[o7 (ds:=[.lst (ps.map Pt.d)]) rfl];rfl
theorem o50(ps:List (Str×D)):W6 (ze0 0 1) noT (gv 1) [.un,.un] (ps.map pr)=some (ps.map (·.2)):=by
 rw[S5 (fun d=>match d with|.tup [_,v]=>v|_=>.non) (fun d hd=>by
  obtain⟨p,hp,rfl⟩:=List.mem_map.mp hd;exact⟨_,rfl,rfl,rfl⟩),List.map_map]
 rfl
theorem v00(p:Pt)(h:p.few):j6 [p.d]=some (.lst p.vals):=by
 cases p with
 | text w=>kernel_rfl
 | row vs =>
  refine O6 rfl (u9 (δ':=[.sh (Pt.row vs).d]) (by rw[Z7 (by kernel_rfl)]; rfl) (Q9 (by rw[S8 (by kernel_rfl)]; rfl)))
 | table ps =>
  refine O6 rfl (u9 (δ':=[.sh (Pt.table ps).d]) (by rw[Z7 (by kernel_rfl)]; rfl) (u9 (δ':=[.sh (Pt.table ps).d]) (by rw[Z7 (by kernel_rfl)]; rfl) (Q9 (zo0 ?_))))
  exact W7 (items:=ps.map pr) rfl (by have:(ps.map (·.2)).length<=sizeLine:=h; simpa using this) (o50 ps)
 | rcd c ps =>
  refine O6 rfl (u9 (δ':=[.sh (Pt.rcd c ps).d]) (by rw[Z7 (by kernel_rfl)]; rfl) (u9 (δ':=[.sh (Pt.rcd c ps).d]) (by rw[Z7 (by kernel_rfl)]; rfl) (Q9 (zo0 ?_))))
  exact W7 (items:=ps.map pr) rfl (by have:(ps.map (·.2)).length<=sizeLine:=h; simpa using this) (o50 ps)
theorem dg0(xs:List D)(x:D):cutD (xs++[x]) none (some (-1))=xs:=by
 unfold cutD;have i1:sIx (xs++[x]).length (xs++[x]).length (some (-1))=xs.length:=by
  show (if (-1:Int)<0 then ((-1:Int)+((xs++[x]).length:Int)).toNat else min (-1:Int).toNat (xs++[x]).length)=_
  rw[if_pos (by decide),List.length_append]
  simp only[List.length_cons,List.length_nil];omega
 rw[i1];show ((xs++[x]).drop 0).take (xs.length - 0)=_
 simp
theorem c70(xs:List D)(x:D):atI (xs++[x]) (-1)=some x:=by
 unfold atI ixN;rw[if_neg (by decide),if_pos (by rw[List.length_append]; simp only[List.length_cons,List.length_nil]; omega)]
 rw[show ((-1:Int)+((xs++[x]).length:Int)).toNat=xs.length by rw[List.length_append]; simp only[List.length_cons,List.length_nil]; omega]
 simp
theorem sn0(p:Pt)(h:p.few)(vs:List D)(hl:vs.length=p.vals.length∨p.vals=[]/\vs=[]):W4 [p.d,.lst vs]=some (Pn.put p vs).d:=by
 have z:(100:Nat)<=sizeLine:=by decide
 have zz:(sizeLine:Int)<2 ^ 62:=by decide
 have key:∀(xs:List D) (ps:List (Str×D)),ps.length=vs.length->ps.length<=sizeLine->xs.length<=10 ->
   o2 (U6 (gv 0) S7 (someO (unG yg0 (gc (.int 1))))) (m9 (z9 (oA (z9 (Z0 1 [0,1] (Q8 (z9 (oA (z9 (gv 1) v7) j8) v7)) (gN 0) noT (m9 (z9 (o2 (o2 (o2 (gv 1) (unG yg0 (gc (.int 1))) ixD) (gv 0) ixD) (gc (.int 0)) ixD) (z9 (o2 (gv 2) (gv 0) ixD) v7)))) v7) W8) v7)) b8 [.sh (.tup (xs++[.tup (ps.map pr)])),.sh (.lst vs)]=some (.tup (xs++[.tup (((ps.map (·.1)).zip vs).map pr)])):=fun xs ps hp hz hx=>by
  have hc:oA (z9 (Z0 1 [0,1] (Q8 (z9 (oA (z9 (gv 1) v7) j8) v7)) (gN 0) noT (m9 (z9 (o2 (o2 (o2 (gv 1) (unG yg0 (gc (.int 1))) ixD) (gv 0) ixD) (gc (.int 0)) ixD) (z9 (o2 (gv 2) (gv 0) ixD) v7)))) v7) W8 [.sh (.tup (xs++[.tup (ps.map pr)])),.sh (.lst vs)]=some (.tup (((ps.map (·.1)).zip vs).map pr)):=by
   rw[o7 (ds:=[.lst (((ps.map (·.1)).zip vs).map pr)]) (cons_of (W7 (items:=U7 0 (vs.length:Int)) (xl0 (cons_of rfl rfl) (by omega) (by omega)) (by rw[xq0]; omega) (by
    have q:=mc0 (gt:=noT) (ge:=(m9 (z9 (o2 (o2 (o2 (gv 1) (unG yg0 (gc (.int 1))) ixD) (gv 0) ixD) (gc (.int 0)) ixD) (z9 (o2 (gv 2) (gv 0) ixD) v7)))) (δ:=[.un,.sh (.tup (xs++[.tup (ps.map pr)])),.sh (.lst vs)]) (n:=(vs.length:Int)) (fun j=>pr ((ps.map (·.1)).getD j "",vs.getD j .non)) (fun k hk=>⟨[.sh (.int (k:Int)),.sh (.tup (xs++[.tup (ps.map pr)])),.sh (.lst vs)],rfl,rfl,by
     have hkl:k<ps.length:=by omega
     refine V1 (cons_of (d:=.str ((ps.map (·.1)).getD k "")) ?_ (cons_of (d:=vs.getD k .non) ?_ rfl)) (by show 2<=sizeLine; omega)
     ·rw[o5 (x:=pr ps[k]) (y:=.int 0) (by
       rw[o5 (x:=.tup (ps.map pr)) (y:=.int (k:Int)) (by
        rw[o5 (x:=.tup (xs++[.tup (ps.map pr)])) (y:=.int (-1)) rfl rfl];exact c70 _ _) rfl]
       show atI (ps.map pr) (k:Int)=_
       rw[zz0 (by omega) (by rw[List.length_map]; omega) .non,Int.toNat_natCast]
       simp[List.getD_eq_getElem?_getD,hkl]) rfl]
      simp[List.getD_eq_getElem?_getD,hkl]
      rfl
     ·rw[o5 (x:=.lst vs) (y:=.int (k:Int)) rfl rfl]
      show atI vs (k:Int)=_
      rw[zz0 (by omega) (by omega) .non,Int.toNat_natCast]⟩)
    rw[Int.toNat_natCast] at q;refine q.trans ?_
    congr 1
    refine List.ext_getElem (by simp; omega) fun i h1 h2=>?_
    have hi:i<vs.length:=by simpa using h1
    have hi2:i<ps.length:=by omega
    simp[List.getD_eq_getElem?_getD,hi,hi2])) rfl)]
   rfl
  rw[o5 (x:=.tup xs) (y:=.tup [.tup (((ps.map (·.1)).zip vs).map pr)]) (by
   show slA (.tup (xs++[.tup (ps.map pr)])) none (some (-1))=_
   simp only[slA];rw[dg0]) (V1 (cons_of hc rfl) (by show 1<=sizeLine; omega))]
  simp only[b8];rw[if_pos (by simp only[List.length_cons,List.length_nil]; omega)]
 have hlen:∀ps:List (Str×D),p.vals=ps.map (·.2)->ps.length=vs.length:=fun ps e=>by
  rcases hl with q|⟨q1,q2⟩
  ·rw[q,e,List.length_map]
  ·rw[q2]; rw[q1] at e; have:=congrArg List.length e; simp at this; simpa using this.symm
 cases p with
 | text w=>kernel_rfl
 | row us=>kernel_rfl
 | table ps =>
  exact d7 rfl (u9 (δ':=[.sh (Pt.table ps).d,.sh (.lst vs)]) (by rw[Z7 (by kernel_rfl)]; rfl) (u9 (δ':=[.sh (Pt.table ps).d,.sh (.lst vs)]) (by rw[Z7 (by kernel_rfl)]; rfl) (m8 (Z9 (key [.str "table"] ps (hlen ps rfl) (by have:(ps.map (·.2)).length<=sizeLine:=h; simpa using this) (by simp))))))
 | rcd c ps =>
  exact d7 rfl (u9 (δ':=[.sh (Pt.rcd c ps).d,.sh (.lst vs)]) (by rw[Z7 (by kernel_rfl)]; rfl) (u9 (δ':=[.sh (Pt.rcd c ps).d,.sh (.lst vs)]) (by rw[Z7 (by kernel_rfl)]; rfl) (m8 (Z9 (key [.str "record",.str c] ps (hlen ps rfl) (by have:(ps.map (·.2)).length<=sizeLine:=h; simpa using this) (by simp))))))
end Gw
namespace K22
open PySem DL W
inductive Dfs (adj:Nat->List Nat) (S:List Nat):Nat->List Nat->List Nat->List Nat->Prop
 | nil (o:List Nat):Dfs adj S 0 o [] o
 | skip {c:Nat} {o T r:List Nat} {x:Nat}:x∈o∨x∈S->Dfs adj S c o T r->Dfs adj S (c+1) o (x::T) r
 | visit {c:Nat} {o T r:List Nat} {x:Nat}:x∉o->x∉S->(adj x++T).length+o.length<=10000->Dfs adj S c (o++[x]) (adj x++T) r->Dfs adj S (c+1) o (x::T) r
theorem sub_len:∀{l m:List Nat},l.Nodup->(∀a∈l,a∈m)->l.length<=m.length
 | [],m,_,_=>Nat.zero_le _
 | a::l,m,h,hs=>by
  obtain⟨h1,h2⟩:=List.nodup_cons.mp h;obtain⟨m1,m2,rfl⟩:=List.append_of_mem (hs a List.mem_cons_self);have:=sub_len (m:=m1++m2) h2 fun b hb=>by
   have:=hs b (List.mem_cons_of_mem _ hb)
   rcases List.mem_append.mp this with q|q
   ·exact List.mem_append.mpr (.inl q)
   ·rcases List.mem_cons.mp q with rfl|q
    ·exact absurd hb h1
    ·exact List.mem_append.mpr (.inr q)
  simp only[List.length_append,List.length_cons] at this ⊢;omega
theorem W40(adj:Nat->List Nat)(S:List Nat)(n:Nat)(hn:n<=60)(ha:∀i,i<n->(adj i).length<=12/\∀j∈adj i,j<n):∀(M:Nat) (o T:List Nat),T.length+13*(n - o.length)<=M->M<=5000->o.Nodup->(∀x∈o,x<n/\x∉S)->(∀x∈T,x<n) ->
  ∃c r,Dfs adj S c o T r/\c<=M/\r.Nodup/\(∀x∈r,x<n/\x∉S)/\o.length<=r.length:=by
 intro M
 induction M with
 | zero =>
  intro o T hM hM2 ho hon hT;have:T=[]:=List.length_eq_zero_iff.mp (by omega)
  subst this;exact⟨0,o,.nil o,Nat.le_refl _,ho,hon,Nat.le_refl _⟩
 | succ M ih =>
  intro o T hM hM2 ho hon hT
  cases T with
  | nil=>exact⟨0,o,.nil o,Nat.zero_le _,ho,hon,Nat.le_refl _⟩
  | cons x T =>
   rw[List.length_cons] at hM
   by_cases hx:x∈o∨x∈S
   ·obtain⟨c,r,h1,h2,h3⟩:=ih o T (by omega) (by omega) ho hon fun y hy=>hT y (List.mem_cons_of_mem _ hy)
    exact⟨c+1,r,.skip hx h1,by omega,h3⟩
   ·have hxn:=hT x List.mem_cons_self
    obtain⟨hl,hj⟩:=ha x hxn;have hxo:x∉o:=fun z=>hx (.inl z)
    have hxS:x∉S:=fun z=>hx (.inr z)
    have hnd:(o++[x]).Nodup:=List.nodup_append.mpr ⟨ho,by simp,fun a ha b hb e=>by
     have:=List.mem_singleton.mp hb
     subst this; subst e; exact hxo ha⟩
    have hin:∀y∈o++[x],y<n/\y∉S:=fun y hy=>by
     rcases List.mem_append.mp hy with z|z
     ·exact hon y z
     ·have:=List.mem_singleton.mp z; subst this; exact⟨hxn,hxS⟩
    have hlen:(o++[x]).length<=n:=by
     have:=sub_len hnd (m:=List.range n) fun y hy=>List.mem_range.mpr (hin y hy).1
     rwa [List.length_range] at this
    rw[List.length_append,List.length_singleton] at hlen;obtain⟨c,r,h1,h2,h3,h4,h5⟩:=ih (o++[x]) (adj x++T) (by simp only[List.length_append,List.length_singleton]; omega) (by omega) hnd hin (fun y hy=>by
     rcases List.mem_append.mp hy with z|z
     ·exact hj y z
     ·exact hT y (List.mem_cons_of_mem _ z))
    refine⟨c+1,r,.visit hxo hxS (by rw[List.length_append]; omega) h1,by omega,h3,h4,?_⟩
    rw[List.length_append] at h5;omega
def O8:GS:=Pn.O8
def K7:List Str:=Pn.K7
def Y7:List D->Option D:=Pn.Y7
def y50:GS:=Pn.y50
def yq0:List Str:=Pn.yq0
def m_values:List D->Option D:=Pn.m_values
def J2:GS:=Pn.J2
def zh0:List Str:=Pn.zh0
def V6:List D->Option D:=Pn.V6
def sx0:GS:=(v8 (N7 (Z0 1 [] (R0 (oA (z9 (gv 0) v7) m_values)) (gN 0) (ob (Q4 isTup (gv 0))) (o2 (gv 0) (gc (.int 1)) ixD)))
 u6)
def pb0:List Str:=["part"]
def G9:List D->Option D:=mkN 1 pb0 sx0
def u00:GS:=(v8 (V4 3 (X5 v7))
 (v8 (V4 4 (oA (z9 (gv 2) v7) v10))
 (v8 (V4 5 (X5 (z9 (gv 1) v7)))
 (v8 (T9 (ob (o2 (U3 (oA (z9 (gv 5) v7) j8)) (gc (.int 0)) gtD))
 (v8 (U4 (vk0 5) (gN 6))
 (v8 (ifD (wj0 (ob (o2 (gv 6) (gv 4) (y00 true))))
 (v8 (U4 (R5 (gc (.bl true))) (putAt 4 (gv 6)))
 (v8 (X8 (Q5 3 (gv 6)))
 (v8 (X8 (rq0 5 (oA (z9 (oA (z9 (o2 (gv 0) (gv 6) ixD) v7) G9) v7) ro0)))
 u6)))
 u6)
 u6)) 100000)
 (v8 (uc0 3)
 u6)))))
def to0:List Str:=["web", "k", "left", "order", "seen", "waiting", "part"]
def y40:List D->Option D:=mkN 3 to0 u00
def wt0:GS:=(v8 (n8 (gN 2) (Z0 1 [1] (R0 (oA (z9 (gv 0) v7) m_values)) (gN 0) noT (ifG (ob (Q4 isTup (gv 0))) (m9 (z9 (gc (.str "at")) (z9 (o2 (gv 1) (o2 (gv 0) (gc (.int 1)) ixD) xt0) v7))) (gv 0))))
 (v8 (o9 (oA (z9 (gv 0) (z9 (gv 2) v7)) V6))
 u6))
def td0:List Str:=["part", "numbers", "some"]
def z90:List D->Option D:=mkF 2 td0 wt0
def K4:GS:=Gw.K4
def G5:List Str:=Gw.G5
def j6:List D->Option D:=Gw.j6
def nd(l:List Nat):List D:=l.map fun (i:Nat)=>D.int (i:Int)
structure GoodD(W:D)(n:Nat):Prop where
 few:n<=60
 ex:∃Wb,W=.tup Wb/\Wb.length=n/\∀i,i<n->∃vs,j6 [Wb.getD i .non]=some (.lst vs)/\vs.length<=12/\∀v∈vs,v=.non∨(∃z,v=.int z)∨∃j:Nat,v=.tup [.str "at",.int (j:Int)]/\j<n
def tgs(vs:List D):List Nat:=vs.filterMap fun v=>match v with|.tup [_,.int j]=>some j.toNat|_=>none
def zr0(W:D)(i:Nat):List Nat:=match W with
 | .tup Wb=>(match j6 [Wb.getD i .non] with
  | some (.lst vs)=>tgs vs
  | _=>[])
 | _=>[]
noncomputable section
end
theorem wb0(a b:List Nat):nd (a++b)=nd a++nd b:=by unfold nd; rw[List.map_append]
theorem X40(a:List Nat):(nd a).reverse=nd a.reverse:=by unfold nd; rw[List.map_reverse]
theorem R4(a:List Nat):(nd a).length=a.length:=by simp[nd]
theorem X70(o:List Nat)(x:Nat):((nd o).any fun y=>eqF y (.int (x:Int)))=decide (x∈o):=by
 unfold nd;rw[List.any_map,Bool.eq_iff_iff,List.any_eq_true,decide_eq_true_eq]
 constructor
 ·rintro⟨y,hy,e⟩
  have e:decide ((y:Int)=(x:Int))=true:=e
  have e:=of_decide_eq_true e
  have:y=x:=by omega
  subst this; exact hy
 ·intro h
  exact⟨x,h,show decide ((x:Int)=(x:Int))=true from decide_eq_true rfl⟩
theorem lk0(o:List Nat):((nd o).all fun d=>flat d)=true:=by
 unfold nd;rw[List.all_map,List.all_eq_true];exact fun _ _=>rfl
theorem ul0{n:Nat}:∀{vs:List D},(∀v∈vs,v=.non∨(∃z,v=.int z)∨∃j:Nat,v=.tup [.str "at",.int (j:Int)]/\j<n)->∀j∈tgs vs,j<n:=by
 intro vs h j hj;obtain⟨v,hv,e⟩:=List.mem_filterMap.mp hj;rcases h v hv with rfl|⟨z,rfl⟩|⟨i,rfl,hi⟩
 ·cases e
 ·cases e
 ·simp only[Int.toNat_natCast,Option.some.injEq] at e
  omega
theorem Xt0{W:D}{n:Nat}(hW:GoodD W n){i:Nat}(hi:i<n):∃vs,oA (z9 (o2 (gv 0) (gv 1) ixD) v7) j6=oA (z9 (o2 (gv 0) (gv 1) ixD) v7) j6/\(∃d,ixD W (.int (i:Int))=some d/\j6 [d]=some (.lst vs))/\zr0 W i=tgs vs/\vs.length<=12/\∀v∈vs,v=.non∨(∃z,v=.int z)∨∃j:Nat,v=.tup [.str "at",.int (j:Int)]/\j<n:=by
 obtain⟨Wb,rfl,hl,h⟩:=hW.ex;obtain⟨vs,e,h1,h2⟩:=h i hi;refine⟨vs,rfl,⟨Wb.getD i .non,?_,e⟩,?_,h1,h2⟩
 ·show atI Wb (i:Int)=_
  rw[zz0 (by omega) (by omega) .non,Int.toNat_natCast]
 ·unfold zr0
  simp only[];rw[e]
theorem Ws0{W:D}{n:Nat}(hW:GoodD W n):∀i,i<n->∀j∈zr0 W i,j<n:=fun i hi j hj=>by
 obtain⟨vs,_,_,e,_,h⟩:=Xt0 hW hi;rw[e] at hj;exact ul0 h j hj
theorem Q0(p:Pt)(h:p.few):m_values [p.d]=some (.lst p.vals):=Pn.Q0 p h
theorem dm0(p:Pt)(h:p.few)(vs:List D):V6 [p.d,.lst vs]=some (Pn.put p vs).d:=Pn.sn0 p h vs
theorem v00(p:Pt)(h:p.few):j6 [p.d]=some (.lst p.vals):=Gw.v00 p h
def Lv(n:Nat)(v:D):Prop:=v=.non∨(∃z,v=.int z)∨∃j:Nat,v=.tup [.str "at",.int (j:Int)]/\j<n
structure Pw(n:Nat)(p:Pt):Prop where
 few:p.vals.length<=12
 lv:∀v∈p.vals,Lv n v
theorem Pw.f{n:Nat}{p:Pt}(h:Pw n p):p.few:=by
 have z:(12:Nat)<=sizeLine:=by decide
 exact Nat.le_trans h.few z
structure Web(ps:List Pt):Prop where
 len:0<ps.length/\ps.length<=60
 pw:∀p∈ps,Pw ps.length p
def wd(ps:List Pt):D:=.tup (ps.map Pt.d)
theorem Web.at{ps:List Pt}(h:Web ps){i:Nat}(hi:i<ps.length):ixD (wd ps) (.int (i:Int))=some ps[i].d/\(ps.map Pt.d).getD i .non=ps[i].d/\Pw ps.length ps[i]:=by
 refine⟨?_,?_,h.pw _ (List.getElem_mem hi)⟩
 ·show atI (ps.map Pt.d) (i:Int)=_
  rw[zz0 (by omega) (by rw[List.length_map]; omega) .non,Int.toNat_natCast]
  simp[hi]
 ·simp[hi]
theorem Web.good{ps:List Pt}(h:Web ps):GoodD (wd ps) ps.length:=⟨h.len.2,ps.map Pt.d,rfl,by rw[List.length_map],fun i hi=>by
 obtain⟨_,e,q⟩:=h.at hi;exact⟨ps[i].vals,by rw[e]; exact v00 _ q.f,q.few,q.lv⟩⟩
theorem Web.adj{ps:List Pt}(h:Web ps){i:Nat}(hi:i<ps.length):zr0 (wd ps) i=tgs ps[i].vals:=by
 obtain⟨_,e,q⟩:=h.at hi;unfold zr0 wd;simp only[];rw[e,v00 _ q.f]
theorem pa0(vs:List D):(tgs vs).length<=vs.length:=List.length_filterMap_le _ _
theorem q50(j:Nat)(vs:List D):tgs (.tup [.str "at",.int (j:Int)]::vs)=j::tgs vs:=by unfold tgs; rw[List.filterMap_cons]; simp only[Int.toNat_natCast]
theorem pn0{n:Nat}:∀vs:List D,(∀v∈vs,Lv n v)->W6 (gN 0) (ob (Q4 isTup (gv 0))) (o2 (gv 0) (gc (.int 1)) ixD) [.un] vs=some (nd (tgs vs))
 | [],_=>rfl
 | v::vs,h=>by
  have ih:=pn0 vs fun u hu=>h u (List.mem_cons_of_mem _ hu)
  unfold W6;rcases h v List.mem_cons_self with rfl|⟨z,rfl⟩|⟨j,rfl,hj⟩
  ·exact ih
  ·exact ih
  ·show (match o2 (gv 0) (gc (.int 1)) ixD [.sh (.tup [.str "at",.int (j:Int)])] with|none=>none|some y=>(W6 (gN 0) (ob (Q4 isTup (gv 0))) (o2 (gv 0) (gc (.int 1)) ixD) [.un] vs).map fun r=>y::r)=_
   rw[ih,q50];rfl
theorem c80{n:Nat}{p:Pt}(h:Pw n p):G9 [p.d]=some (.lst (nd (tgs p.vals))) :=
 O6 rfl (Q9 (zo0 (W7 (items:=p.vals) (by
  show Option.bind (oA (z9 (gv 0) v7) m_values [.sh p.d]) qg0=_
  rw[o7 (ds:=[p.d]) rfl,Q0 p h.f];rfl) h.f (pn0 p.vals h.lv))))
def lkv(f:Nat->Nat):D->D
 | .tup [_,.int j]=>.tup [.str "at",.int (f j.toNat:Int)]
 | v=>v
def rel(f:Nat->Nat)(p:Pt):Pt:=Pn.put p (p.vals.map (lkv f))
theorem un0{vs:List D}{j:Nat}(h:D.tup [.str "at",.int (j:Int)]∈vs):j∈tgs vs:=List.mem_filterMap.mpr ⟨_,h,by simp only[Int.toNat_natCast]⟩
theorem u80{n:Nat}{p:Pt}(h:Pw n p)(f:Nat->Nat)(D':D)(hd:∀j∈tgs p.vals,xt0 D' (.int (j:Int))=some (.int (f j:Int))):z90 [p.d,D']=some (rel f p).d:=by
 refine d7 rfl (u9 (δ':=[.sh p.d,.sh D',.sh (.lst (p.vals.map (lkv f)))]) (Z3 (W7 (items:=p.vals) (by
  show Option.bind (oA (z9 (gv 0) v7) m_values [.sh p.d,.sh D',.un]) qg0=_
  rw[o7 (ds:=[p.d]) rfl,Q0 p h.f];rfl) h.f ?_)) (m8 (Z9 (by rw[o7 (ds:=[p.d,.lst (p.vals.map (lkv f))]) rfl]; exact dm0 p h.f _))))
 refine S5 (lkv f) fun v hv=>⟨[.sh v,.sh D'],rfl,rfl,?_⟩
 rcases h.lv v hv with rfl|⟨z,rfl⟩|⟨j,rfl,hj⟩
 ·rfl
 ·rfl
 ·unfold ifG
  rw[show ob (Q4 isTup (gv 0)) [.sh (.tup [.str "at",.int (j:Int)]),.sh D']=some true from rfl];show m9 _ _=_;exact V1 (cons_of rfl (cons_of (d:=.int (f j:Int)) (by
   rw[o5 (x:=D') (y:=.int (j:Int)) rfl rfl];exact hd j (un0 hv)) rfl)) (by show 2<=sizeLine; decide)
theorem t90(p:Pt)(vs:List D)(h:vs.length=p.vals.length):(Pn.put p vs).vals=vs:=by
 cases p with
 | text w=>exact(List.eq_nil_of_length_eq_zero h).symm
 | row us=>rfl
 | table ps =>
  show ((ps.map (·.1)).zip vs).map (·.2)=vs
  refine List.map_snd_zip ?_
  have h':vs.length=(ps.map (·.2)).length:=h
  simp only[List.length_map] at h' ⊢;omega
 | rcd c ps =>
  show ((ps.map (·.1)).zip vs).map (·.2)=vs
  refine List.map_snd_zip ?_
  have h':vs.length=(ps.map (·.2)).length:=h
  simp only[List.length_map] at h' ⊢;omega
theorem gn0{n m:Nat}{p:Pt}(h:Pw n p)(f:Nat->Nat)(hf:∀j∈tgs p.vals,f j<m):Pw m (rel f p):=by
 have e:(rel f p).vals=p.vals.map (lkv f):=t90 p _ (by rw[List.length_map])
 refine⟨by rw[e,List.length_map]; exact h.few,fun v hv=>?_⟩
 rw[e] at hv;obtain⟨u,hu,rfl⟩:=List.mem_map.mp hv;rcases h.lv u hu with rfl|⟨z,rfl⟩|⟨i,rfl,hi⟩
 ·exact .inl rfl
 ·exact .inr (.inl ⟨z,rfl⟩)
 ·exact .inr (.inr ⟨f i,rfl,hf i (un0 hu)⟩)
def kd(l:List Nat):List K9:=l.map fun (i:Nat)=>Sum.inl (i:Int)
def td(l:List Nat):List D:=l.map fun _=>.bl true
theorem gb0(a b:List Nat):kd (a++b)=kd a++kd b:=by unfold kd; rw[List.map_append]
theorem ka0(o:List Nat)(x:Nat):M9 (kd o) (.inl (x:Int))=decide (x∈o):=by
 unfold M9 kd;rw[List.any_map];rw[Bool.eq_iff_iff,List.any_eq_true,decide_eq_true_eq]
 constructor
 ·rintro⟨y,hy,e⟩
  have e:=of_decide_eq_true e
  injection e with e
  have:y=x:=by omega
  subst this; exact hy
 ·intro h; exact⟨x,h,decide_eq_true rfl⟩
def ded(S:List Nat):List Nat:=S.foldl (fun a x=>if x∈a then a else a++[x]) []
theorem nz0:∀(S a:List Nat),(∀y,y∈S.foldl (fun a x=>if x∈a then a else a++[x]) a↔y∈a∨y∈S)/\(S.foldl (fun a x=>if x∈a then a else a++[x]) a).length<=a.length+S.length
 | [],a=>⟨fun y=>by simp,by simp⟩
 | x::S,a=>by
  obtain⟨h1,h2⟩:=nz0 S (if x∈a then a else a++[x]);refine⟨fun y=>?_,?_⟩
  ·rw[List.foldl_cons,h1]
   split
   ·rename_i hx
    constructor
    ·rintro (h|h)
     ·exact .inl h
     ·exact .inr (List.mem_cons_of_mem _ h)
    ·rintro (h|h)
     ·exact .inl h
     ·rcases List.mem_cons.mp h with rfl|h
      ·exact .inl hx
      ·exact .inr h
   ·rw[List.mem_append,List.mem_singleton,List.mem_cons,or_assoc]
  ·rw[List.foldl_cons]
   refine Nat.le_trans h2 ?_
   split
   ·simp only[List.length_cons]; omega
   ·simp only[List.length_append,List.length_cons,List.length_nil]; omega
theorem Zt0(S:List Nat)(y:Nat):y∈ded S↔y∈S:=by
 unfold ded;rw[(nz0 S []).1]
 simp
theorem Zp0(S:List Nat):(ded S).length<=S.length:=by
 have:=(nz0 S []).2
 rw[List.length_nil,Nat.zero_add] at this;exact this
def MT:GB:=(ob (o2 (U3 (oA (z9 (gv 5) v7) j8)) (gc (.int 0)) gtD))
def MB:GS:=(v8 (U4 (vk0 5) (gN 6))
 (v8 (ifD (wj0 (ob (o2 (gv 6) (gv 4) (y00 true))))
 (v8 (U4 (R5 (gc (.bl true))) (putAt 4 (gv 6)))
 (v8 (X8 (Q5 3 (gv 6)))
 (v8 (X8 (rq0 5 (oA (z9 (oA (z9 (o2 (gv 0) (gv 6) ixD) v7) G9) v7) ro0)))
 u6)))
 u6)
 u6))
def ms(W:D)(k l:Sl)(U o T:List Nat)(s:Sl):Ds:=[.sh W,k,l,.ow (.lst (nd o)),.ow (.dct (.inl (kd (U++o))) (nd U++td o)),.ow (.lst (nd T.reverse)),s]
section
variable{W:D}{k l:Sl}{U:List Nat}
theorem i10(s:Sl)(o T:List Nat):MT (ms W k l U o T s)=some (decide (0<T.length)):=by
 have e:U3 (oA (z9 (gv 5) v7) j8) (ms W k l U o T s)=some (.int (T.length:Int)):=by
  show some (D.int ((nd T.reverse).length:Int))=_
  rw[R4,List.length_reverse]
 unfold MT ob;rw[o5 (x:=.int (T.length:Int)) (y:=.int 0) e rfl];show some (decide ((0:Int)<(T.length:Int)))=_
 congr 1
 rw[decide_eq_decide];omega
theorem Wd0(s:Sl)(o T:List Nat)(x:Nat):U4 (vk0 5) (gN 6) (ms W k l U o (x::T) s)=some (.nx (ms W k l U o T (.sh (.int (x:Int))))):=by
 have e1:owL 5 (ms W k l U o (x::T) s)=some (nd (x::T).reverse):=rfl
 have e2:nd (x::T).reverse=nd T.reverse++[.int (x:Int)]:=by rw[List.reverse_cons,wb0]; rfl
 unfold U4 vk0;rw[e1,Option.bind_some,e2,List.getLast?_concat,List.dropLast_concat]
 rfl
theorem bf0(o T:List Nat)(x:Nat):wj0 (ob (o2 (gv 6) (gv 4) (y00 true))) (ms W k l U o T (.sh (.int (x:Int))))=some (decide (x∉U++o)):=by
 show some (xor true (M9 (kd (U++o)) (.inl (x:Int))))=_
 rw[ka0,Bool.true_xor]
 congr 1
 by_cases h:x∈U++o
 ·rw[decide_eq_true h,decide_eq_false (fun z=>z h)]; rfl
 ·rw[decide_eq_false h,decide_eq_true h]; rfl
theorem f90{n:Nat}{adj:Nat->List Nat}{S:List Nat}(hS:∀y,y∈U↔y∈S)(hU:U.length<=1000)(hA:∀x,x<n->∃d,ixD W (.int (x:Int))=some d/\G9 [d]=some (.lst (nd (adj x)))/\(adj x).length<=12/\∀j∈adj x,j<n):∀{c:Nat} {o T r:List Nat},Dfs adj S c o T r->(∀x∈T,x<n)->o.length+T.length<=10001->∀(m:Nat) (s:Sl),c<m->∃s',T9 MT MB m (ms W k l U o T s)=some (.nx (ms W k l U r [] s')):=by
 intro c o T r h
 induction h with
 | nil o =>
  intro _ _ m s hm
  cases m with
  | zero=>omega
  | succ m =>
   refine⟨s,?_⟩
   unfold T9;rw[i10];rfl
 | @skip c o T r x hx hd ih =>
  intro hT hl m s hm
  cases m with
  | zero=>omega
  | succ m =>
   rw[List.length_cons] at hl;obtain⟨s',e⟩:=ih (fun y hy=>hT y (List.mem_cons_of_mem _ hy)) (by omega) m (.sh (.int (x:Int))) (by omega)
   refine⟨s',?_⟩
   have hin:x∈U++o:=List.mem_append.mpr (hx.symm.imp (hS x).mpr id)
   have eb:MB (ms W k l U o (x::T) s)=some (.nx (ms W k l U o T (.sh (.int (x:Int))))) :=
    u9 (Wd0 s o T x) (u9 (δ':=ms W k l U o T (.sh (.int (x:Int)))) (by rw[Z7 (by rw[bf0,decide_eq_false (fun z=>z hin)])]; rfl) rfl)
   unfold T9;rw[i10,decide_eq_true (by simp)]
   dsimp only
   rw[eb];exact e
 | @visit c o T r x hx hxS hz hd ih =>
  intro hT hl m s hm
  cases m with
  | zero=>omega
  | succ m =>
   have hxn:=hT x List.mem_cons_self
   obtain⟨d,hd1,hd2,hal,haj⟩:=hA x hxn;have zs:(20000:Nat)<=sizeLine:=by decide
   rw[List.length_append] at hz;obtain⟨s',e⟩:=ih (fun y hy=>by
    rcases List.mem_append.mp hy with q|q
    ·exact haj y q
    ·exact hT y (List.mem_cons_of_mem _ q)) (by simp only[List.length_append,List.length_singleton]; omega) m (.sh (.int (x:Int))) (by omega)
   refine⟨s',?_⟩
   have hin:x∉U++o:=fun z=>(List.mem_append.mp z).elim (fun q=>hxS ((hS x).mp q)) hx
   have p1:U4 (R5 (gc (.bl true))) (putAt 4 (gv 6)) (ms W k l U o T (.sh (.int (x:Int))))=some (.nx [.sh W,k,l,.ow (.lst (nd o)),.ow (.dct (.inl (kd (U++(o++[x])))) (nd U++td (o++[x]))),.ow (.lst (nd T.reverse)),.sh (.int (x:Int))]):=by
    have hk:M9 (kd (U++o)) (.inl (x:Int))=false:=by rw[ka0,decide_eq_false hin]
    have e1:J5 (kd (U++o)) (.inl (x:Int))=kd (U++(o++[x])):=by
     unfold J5; rw[hk,if_neg (by simp),← List.append_assoc,gb0 (U++o)]; rfl
    have e2:z80 (kd (U++o)) (nd U++td o) (.inl (x:Int)) (.bl true)=nd U++td (o++[x]):=by
     unfold z80; rw[hk,if_neg (by simp)]; unfold td; rw[List.map_append,List.append_assoc]; rfl
    unfold U4 R5;show ((if (kd (U++o)).length<sizeLine then some ([.sh W,k,l,.ow (.lst (nd o)),Sl.ow (.dct (.inl (J5 (kd (U++o)) (.inl (x:Int)))) (z80 (kd (U++o)) (nd U++td o) (.inl (x:Int)) (.bl true))),.ow (.lst (nd T.reverse)),.sh (.int (x:Int))]) else none).map Res.nx)=_;rw[if_pos (by unfold kd; rw[List.length_map,List.length_append]; omega),e1,e2]
    rfl
   have p2:X8 (Q5 3 (gv 6)) [.sh W,k,l,.ow (.lst (nd o)),.ow (.dct (.inl (kd (U++(o++[x])))) (nd U++td (o++[x]))),.ow (.lst (nd T.reverse)),.sh (.int (x:Int))]=some (.nx [.sh W,k,l,.ow (.lst (nd (o++[x]))),.ow (.dct (.inl (kd (U++(o++[x])))) (nd U++td (o++[x]))),.ow (.lst (nd T.reverse)),.sh (.int (x:Int))]):=by
    rw[Gw.w70 (l:=nd o) (d:=.int (x:Int)) rfl rfl (by rw[R4]; omega),wb0]
    rfl
   have p3:X8 (rq0 5 (oA (z9 (oA (z9 (o2 (gv 0) (gv 6) ixD) v7) G9) v7) ro0)) [.sh W,k,l,.ow (.lst (nd (o++[x]))),.ow (.dct (.inl (kd (U++(o++[x])))) (nd U++td (o++[x]))),.ow (.lst (nd T.reverse)),.sh (.int (x:Int))]=some (.nx (ms W k l U (o++[x]) (adj x++T) (.sh (.int (x:Int))))):=by
    have ev:oA (z9 (oA (z9 (o2 (gv 0) (gv 6) ixD) v7) G9) v7) ro0 [.sh W,k,l,.ow (.lst (nd (o++[x]))),.ow (.dct (.inl (kd (U++(o++[x])))) (nd U++td (o++[x]))),.ow (.lst (nd T.reverse)),.sh (.int (x:Int))]=some (.lst (nd (adj x).reverse)):=by
     rw[o7 (ds:=[.lst (nd (adj x))]) (cons_of (d:=.lst (nd (adj x))) (by
      rw[o7 (ds:=[d]) (cons_of (d:=d) (by rw[o5 (x:=W) (y:=.int (x:Int)) rfl rfl]; exact hd1) rfl)]
      exact hd2) rfl)]
     show some (D.lst (nd (adj x)).reverse)=_
     rw[X40]
    unfold X8 rq0;rw[ev];show Option.map _ (if (nd T.reverse).length+(nd (adj x).reverse).length<=sizeLine then _ else _)=_;rw[if_pos (by rw[R4,R4,List.length_reverse,List.length_reverse]; omega),← wb0,← List.reverse_append]
    rfl
   have eb:MB (ms W k l U o (x::T) s)=some (.nx (ms W k l U (o++[x]) (adj x++T) (.sh (.int (x:Int))))) :=
    u9 (Wd0 s o T x) (u9 (δ':=ms W k l U (o++[x]) (adj x++T) (.sh (.int (x:Int)))) (by
     rw[S8 (by rw[bf0,decide_eq_true hin])]
     exact u9 p1 (u9 p2 (u9 p3 rfl))) rfl)
   unfold T9;rw[i10,decide_eq_true (by simp)]
   dsimp only
   rw[eb];exact e
end
theorem t00{ps:List Pt}(h:Web ps)(S:List Nat)(hS:S.length<=1000){x c:Nat}{r:List Nat}(hx:x<ps.length)(hd:Dfs (zr0 (wd ps)) S c [] [x] r)(hc:c<=5000):y40 [wd ps,.int (x:Int),.dct (.inl (kd (ded S))) (nd (ded S))]=some (.lst (nd r)):=by
 have hl:=Zp0 S
 obtain⟨s',e⟩:=f90 (W:=wd ps) (k:=.sh (.int (x:Int))) (l:=.sh (.dct (.inl (kd (ded S))) (nd (ded S)))) (U:=ded S) (n:=ps.length) (Zt0 S) (by omega) (fun y hy=>by
  obtain⟨e1,_,q⟩:=h.at hy;refine⟨_,e1,?_,?_,?_⟩
  ·rw[h.adj hy]; exact c80 q
  ·rw[h.adj hy]; exact Nat.le_trans (pa0 _) q.few
  ·exact Ws0 h.good y hy) hd (fun y hy=>by rw[List.mem_singleton.mp hy]; exact hx) (by simp) 100000 .un (by omega)
 refine O6 rfl (u9 (δ':=[.sh (wd ps),.sh (.int (x:Int)),.sh (.dct (.inl (kd (ded S))) (nd (ded S))),.ow (.lst []),.un,.un,.un]) rfl (u9 (δ':=[.sh (wd ps),.sh (.int (x:Int)),.sh (.dct (.inl (kd (ded S))) (nd (ded S))),.ow (.lst []),.ow (.dct (.inl (kd (ded S))) (nd (ded S))),.un,.un]) rfl (u9 (δ':=ms (wd ps) (.sh (.int (x:Int))) (.sh (.dct (.inl (kd (ded S))) (nd (ded S)))) (ded S) [] [x] .un) ?_ (u9 e (Q9 ?_)))))
 ·unfold ms
  rw[List.append_nil];show some (Res.nx [.sh (wd ps),.sh (.int (x:Int)),.sh (.dct (.inl (kd (ded S))) (nd (ded S))),.ow (.lst []),.ow (.dct (.inl (kd (ded S))) (nd (ded S))),.ow (.lst [.int (x:Int)]),.un])=_;have:nd (ded S)++td []=nd (ded S):=List.append_nil _;rw[this];rfl
 ·rfl
theorem o00{adj:Nat->List Nat}{S:List Nat}:∀{c:Nat} {o T r:List Nat},Dfs adj S c o T r->(∀i∈o,∀j∈adj i,j∈o∨j∈S∨j∈T)->(∃s,r=o++s)/\∀i∈r,∀j∈adj i,j∈r∨j∈S:=by
 intro c o T r h
 induction h with
 | nil o =>
  intro H;refine⟨⟨[],(List.append_nil o).symm⟩,fun i hi j hj=>?_⟩
  rcases H i hi j hj with q|q|q
  ·exact .inl q
  ·exact .inr q
  ·cases q
 | @skip c o T r x hx hd ih =>
  intro H;refine ih fun i hi j hj=>?_
  rcases H i hi j hj with q|q|q
  ·exact .inl q
  ·exact .inr (.inl q)
  ·rcases List.mem_cons.mp q with rfl|q
   ·exact hx.imp id .inl
   ·exact .inr (.inr q)
 | @visit c o T r x hx hxS hz hd ih =>
  intro H;obtain⟨⟨s,e⟩,h2⟩:=ih fun i hi j hj=>by
   rcases List.mem_append.mp hi with hi|hi
   ·rcases H i hi j hj with q|q|q
    ·exact .inl (List.mem_append_left _ q)
    ·exact .inr (.inl q)
    ·rcases List.mem_cons.mp q with rfl|q
     ·exact .inl (by simp)
     ·exact .inr (.inr (List.mem_append_right _ q))
   ·rw[List.mem_singleton.mp hi] at hj
    exact .inr (.inr (List.mem_append_left _ hj))
  exact⟨⟨x::s,by rw[e,List.append_assoc]; rfl⟩,h2⟩
theorem walk{ps:List Pt}(h:Web ps)(S:List Nat){x:Nat}(hx:x<ps.length):∃c r,Dfs (zr0 (wd ps)) S c [] [x] r/\c<=5000/\r.Nodup/\(∀y∈r,y<ps.length/\y∉S)/\(∀i∈r,∀j∈zr0 (wd ps) i,j∈r∨j∈S)/\(x∈S->r=[])/\(x∉S->∃s,r=x::s):=by
 obtain⟨c,r,h1,h2,h3,h4,_⟩:=W40 (zr0 (wd ps)) S ps.length h.len.2 (fun i hi=>by
  rw[h.adj hi];obtain⟨_,_,q⟩:=h.at hi;exact⟨Nat.le_trans (pa0 _) q.few,ul0 q.lv⟩) 1000 [] [x] (by have:=h.len.2; simp only[List.length_cons,List.length_nil]; omega) (by decide) List.nodup_nil (fun y hy=>by cases hy) (fun y hy=>by rw[List.mem_singleton.mp hy]; exact hx)
 obtain⟨_,f2⟩:=o00 h1 fun i hi=>by cases hi
 refine⟨c,r,h1,by omega,h3,h4,f2,fun hS=>?_,fun hS=>?_⟩
 ·cases h1 with
  | skip _ h=>cases h; rfl
  | visit _ q _ _=>exact absurd hS q
 ·cases h1 with
  | skip q _=>exact absurd (q.resolve_left (by simp)) hS
  | visit _ _ _ hd =>
   obtain⟨⟨s,e⟩,_⟩:=o00 hd fun i hi j hj=>by
    rw[show i=x from by simpa using hi] at hj
    exact .inr (.inr (List.mem_append_left _ hj))
   exact⟨s,e⟩
theorem jh0:∀(r:List Nat) (m j:Nat),j∈r->va0 (kd r) (nd (List.range' m r.length)) (.inl (j:Int))=some (.int ((m+r.idxOf j:Nat):Int))
 | [],_,_,h=>by cases h
 | u::r,m,j,h=>by
  rw[List.length_cons,List.range'_succ];show (if (Sum.inl (u:Int):K9)=.inl (j:Int) then some (D.int (m:Int)) else va0 (kd r) (nd (List.range' (m+1) r.length)) (.inl (j:Int)))=_
  by_cases e:u=j
  ·subst e; rw[if_pos rfl,List.idxOf_cons_self]; rfl
  ·rw[if_neg (by intro q; injection q with q; omega),jh0 r (m+1) j ((List.mem_cons.mp h).resolve_left (Ne.symm e)),show (u::r).idxOf j=r.idxOf j+1 from by rw[List.idxOf_cons,beq_false_of_ne e]; rfl]
   congr 2
   omega
end K22
namespace K22
open PySem DL W
end K22
namespace K22
open PySem DL W
end K22
namespace K22
open PySem DL W
section
variable{ps:List Pt}(h:Web ps){x:Nat}(hx:x<ps.length)
include h hx
end
end K22
namespace K22
open PySem DL W
theorem V00{p:Pt}{m:Nat}{nm:List Str}(h:Gw.Gd p (m:Int) nm):Pw m p:=by
 refine⟨?_,fun v hv=>?_⟩
 ·have ok:=h.ok
  cases p with
  | text w=>show 0<=12; decide
  | row vs=>exact ok.1
  | table ps=>show (ps.map (·.2)).length<=12; rw[List.length_map]; exact ok.len
  | rcd c ps=>show (ps.map (·.2)).length<=12; rw[List.length_map]; exact ok.2.len
 ·have k:=h.vk v hv
  rcases oa0 k.ok with rfl|⟨i,rfl⟩|⟨i,rfl,hi⟩
  ·exact .inl rfl
  ·exact .inr (.inl ⟨i,rfl⟩)
  ·have:=k.lk i rfl
   exact .inr (.inr ⟨i.toNat,by rw[Int.toNat_of_nonneg hi],by omega⟩)
theorem q20{n:Nat}{v:D}(h:Lv n v)(k:Nat):lean v (k+1)=true:=by
 rcases h with rfl|⟨z,rfl⟩|⟨j,rfl,_⟩<;>simp[lean,leans]
theorem wf0{l:List D}{k:Nat}(h:∀x∈l,lean x k=true):leans l k=true:=by
 induction l with
 | nil=>rfl
 | cons a l ih=>rw[leans,h a List.mem_cons_self,ih fun x hx=>h x (List.mem_cons_of_mem _ hx)]; rfl
theorem X50{n:Nat}{p:Pt}(h:Pw n p)(k:Nat):lean p.d (k+4)=true:=by
 have lp:∀ps:List (Str×D),(∀v∈ps.map (·.2),Lv n v)->leans (ps.map pr) (k+2)=true:=fun ps hv=>wf0 fun x hx=>by
  obtain⟨q,hq,rfl⟩:=List.mem_map.mp hx;have:=q20 (hv q.2 (List.mem_map.mpr ⟨q,hq,rfl⟩)) k;show leans [.str q.1,q.2] (k+1)=true;rw[leans,leans,leans,this]
  simp[lean]
 cases p with
 | text w=>simp[Pt.d,lean,leans]
 | row vs =>
  have e:leans vs (k+2)=true:=wf0 fun x hx=>q20 (h.lv x hx) (k+1)
  simp[Pt.d,lean,leans,e]
 | table ps =>
  have e:=lp ps h.lv
  simp[Pt.d,lean,leans,e]
 | rcd c ps =>
  have e:=lp ps h.lv
  simp[Pt.d,lean,leans,e]
theorem av0{ps:List Pt}(h:Web ps)(k:Nat):lean (wd ps) (k+5)=true:=by
 unfold wd;rw[lean];refine wf0 fun x hx=>?_
 obtain⟨p,hp,rfl⟩:=List.mem_map.mp hx;exact X50 (h.pw p hp) k
theorem eqi(a b:Int):eqD (.int a) (.int b)=some (.bl (decide (a=b))):=rfl
end K22
namespace Bw
open PySem DL W
end Bw
namespace Bw
open PySem DL W StrLaws
end Bw
namespace Bw
open PySem DL W
theorem vy0{g:GE}{δ:Ds}{b:Bool}(h:g δ=some (.bl b)):ob g δ=some b:=by
 unfold ob;rw[h];rfl
end Bw
namespace Ta
open PySem DL W
def O8:GS:=Pn.O8
def K7:List Str:=Pn.K7
def Y7:List D->Option D:=Pn.Y7
def ui0:GS:=Pn.ui0
def tl0:List Str:=Pn.tl0
def M7:List D->Option D:=Pn.M7
def y50:GS:=Pn.y50
def yq0:List Str:=Pn.yq0
def m_values:List D->Option D:=Pn.m_values
def w60:GS:=(v8 (o9 (J1 (Q4 isTup (o2 (gv 0) (gc (.int 0)) ixD)) (Q4 isTup (o2 (gv 0) (gc (.int 1)) ixD))))
 u6)
def xv0:List Str:=["both"]
def O3:List D->Option D:=mkF 1 xv0 w60
def yp0:GS:=(v8 (o9 (m9 (z9 (o2 (o2 (gv 0) (gc (.int 0)) ixD) (gc (.int 1)) ixD) (z9 (o2 (o2 (gv 0) (gc (.int 1)) ixD) (gc (.int 1)) ixD) v7))))
 u6)
def wh0:List Str:=["both"]
def U5:List D->Option D:=mkF 1 wh0 yp0
def xw0:GS:=(v8 (o9 (J1 (zn0 (gc (.int 0)) (o2 (gv 2) (gc (.int 0)) ixD) (oA (z9 (gv 0) v7) j8) leD ltD) (zn0 (gc (.int 0)) (o2 (gv 2) (gc (.int 1)) ixD) (oA (z9 (gv 1) v7) j8) leD ltD)))
 u6)
def ud0:List Str:=["one", "other", "pair"]
def O4:List D->Option D:=mkF 3 ud0 xw0
def xz0:GS:=(v8 (ifD (ob (o2 (oA (z9 (o2 (gv 0) (o2 (gv 2) (gc (.int 0)) ixD) ixD) v7) M7) (oA (z9 (o2 (gv 1) (o2 (gv 2) (gc (.int 1)) ixD) ixD) v7) M7) y60))
 (v8 (o9 (gc (.bl false)))
 u6)
 u6)
 (v8 (M4 (vg0 (z9 (oA (z9 (o2 (gv 0) (o2 (gv 2) (gc (.int 0)) ixD) ixD) v7) m_values) (z9 (oA (z9 (o2 (gv 1) (o2 (gv 2) (gc (.int 1)) ixD) ixD) v7) m_values) v7))) (gN 4)
 (v8 (ifD (ob (oA (z9 (gv 4) v7) O3))
 (v8 (ifD (ob (o2 (oA (z9 (gv 4) v7) U5) (gv 3) (y00 true)))
 (v8 (o9 (gc (.bl false)))
 u6)
 u6)
 u6)
 (v8 (ifD (ob (o2 (o2 (gv 4) (gc (.int 0)) ixD) (o2 (gv 4) (gc (.int 1)) ixD) y60))
 (v8 (o9 (gc (.bl false)))
 u6)
 u6)
 u6))
 u6))
 (v8 (o9 (gc (.bl true)))
 u6)))
def ua0:List Str:=["one", "other", "pair", "listed", "both"]
def O5:List D->Option D:=mkF 4 ua0 xz0
def yx0:GS:=(v8 (n8 (gN 3) (oA (z9 (Z0 1 [] (R0 (gv 2)) (gN 0) noT (m9 (z9 (gv 0) (z9 (gc (.bl true)) v7)))) v7) qe0))
 (v8 (o9 (oA (z9 (Z0 1 [0,1,3] (R0 (gv 2)) (gN 0) noT (J1 (oA (z9 (gv 1) (z9 (gv 2) (z9 (gv 0) v7))) O4) (oA (z9 (gv 1) (z9 (gv 2) (z9 (gv 0) (z9 (gv 3) v7)))) O5))) v7) ih0))
 u6))
def vn0:List Str:=["one", "other", "pairs", "listed"]
def R7:List D->Option D:=mkF 3 vn0 yx0
def yu0:GS:=(v8 (n8 (gN 1) (Z0 1 [] (R0 (gv 0)) (gN 0) noT (o2 (gv 0) (gc (.int 0)) ixD)))
 (v8 (n8 (gN 2) (Z0 1 [] (R0 (gv 0)) (gN 0) noT (o2 (gv 0) (gc (.int 1)) ixD)))
 (v8 (o9 (J1 (o2 (oA (z9 (gv 1) v7) y90) (oA (z9 (gv 0) v7) j8) eqD) (o2 (oA (z9 (gv 2) v7) y90) (oA (z9 (gv 0) v7) j8) eqD)))
 u6)))
def v40:List Str:=["pairs", "mine", "yours"]
def R9:List D->Option D:=mkF 1 v40 yu0
def xg0:GS:=(v8 (ifD (zv0 (ob (o2 (m9 (z9 (gc (.int 0)) (z9 (gc (.int 0)) v7))) (gv 2) (tz0 true))) (Q7 (ob (oA (z9 (gv 2) v7) R9))))
 (v8 (o9 (gc (.bl false)))
 u6)
 u6)
 (v8 (o9 (oA (z9 (gv 0) (z9 (gv 1) (z9 (gv 2) v7))) R7))
 u6))
def vc0:List Str:=["one", "other", "pairs"]
def U0:List D->Option D:=mkF 3 vc0 xg0
def z30:GS:=Gw.z30
def y80:List Str:=Gw.y80
def W2:List D->Option D:=Gw.W2
def K4:GS:=Gw.K4
def G5:List Str:=Gw.G5
def j6:List D->Option D:=Gw.j6
def zp0:GS:=Gw.zp0
def yh0:List Str:=Gw.yh0
def W4:List D->Option D:=Gw.W4
def yf0:GS:=(v8 (n8 (gN 2) (o2 (gv 1) (oA (z9 (gv 0) v7) j8) j5))
 (v8 (V4 3 (oA (z9 (o2 (gv 0) (gv 2) ixD) v7) j6))
 (v8 (ifD (wj0 (ob (o2 (gv 3) (X5 v7) Q6)))
 (v8 (o9 (gv 0))
 u6)
 u6)
 (v8 (n8 (gN 4) (o2 (o2 (gv 1) (gc (.int 60)) b7) (U3 (oA (z9 (gv 3) v7) j8)) j5))
 (v8 (U4 (R5 (oA (z9 (o2 (o2 (gv 1) (gc (.int 240)) b7) (gc (.int 1000000)) j5) (z9 (oA (z9 (gv 0) v7) j8) v7)) W2)) (setAt 3 (gv 4)))
 (v8 (o9 (ub0 (o2 (o2 (U6 (gv 0) S7 (someO (gv 2))) (m9 (z9 (oA (z9 (o2 (gv 0) (gv 2) ixD) (z9 (gv 3) v7)) W4) v7)) b8) (U6 (gv 0) (someO (o2 (gv 2) (gc (.int 1)) b8)) S7) b8)))
 u6))))))
def xr0:List Str:=["_law_web_here", "_law_cell", "_law_k", "_law_some", "_law_at"]
def T6:List D->Option D:=mkF 2 xr0 yf0
end Ta
namespace Ta
open PySem DL W K22
open Classical in
theorem j40{f:D->Ds->Option Ds}{G:GS}(st:Sl->Ds)(hf:∀d s,f d (st s)=some (st (.sh d)))(ok:D->Prop):∀items:List D,(∀d∈items,(ok d->G (st (.sh d))=some (.nx (st (.sh d))))/\(¬ok d->G (st (.sh d))=some (.rt (.bl false)))) ->
  ∀s,((∀d∈items,ok d)->∃s',G8 f G items (st s)=some (.nx (st s')))/\(¬(∀d∈items,ok d)->G8 f G items (st s)=some (.rt (.bl false)))
 | [],_,s=>⟨fun _=>⟨s,rfl⟩,fun h=>absurd (fun d hd=>by cases hd) h⟩
 | d::items,h,s=>by
  have hd:=h d List.mem_cons_self
  obtain⟨i1,i2⟩:=j40 st hf ok items (fun e he=>h e (List.mem_cons_of_mem _ he)) (.sh d)
  have un:G8 f G (d::items) (st s)=(match G (st (.sh d)) with|some (.nx δ')=>G8 f G items δ'|some (.ct δ')=>G8 f G items δ'|some (.bk δ')=>some (.nx δ')|r=>r):=by
   conv=>lhs; unfold G8
   rw[hf d s];rfl
  rw[un]
  by_cases hk:ok d
  ·rw[hd.1 hk]
   refine⟨fun z=>i1 fun e he=>z e (List.mem_cons_of_mem _ he),fun z=>i2 fun q=>z fun e he=>?_⟩
   rcases List.mem_cons.mp he with rfl|he
   ·exact hk
   ·exact q e he
  ·rw[hd.2 hk]
   exact⟨fun z=>absurd (z d List.mem_cons_self) hk,fun _=>rfl⟩
def pN(p:Nat×Nat):D:=.tup [.int (p.1:Int),.int (p.2:Int)]
def k2(p:Nat×Nat):List K9:=[.inl (p.1:Int),.inl (p.2:Int)]
theorem Yo0{p q:Nat×Nat}(h:k2 p=k2 q):p=q:=by
 unfold k2 at h;injection h with h1 h2
 injection h2 with h2 _
 injection h1 with h1
 injection h2 with h2
 exact Prod.ext (by omega) (by omega)
theorem ci0(ks:List (List K9))(k:List K9):M9 ks k=true↔k∈ks:=by
 unfold M9;rw[List.any_eq_true]
 constructor
 ·rintro⟨x,hx,e⟩
  rw[← of_decide_eq_true e]; exact hx
 ·intro h
  exact⟨k,h,decide_eq_true rfl⟩
theorem g40(ks:List (List K9))(k x:List K9):x∈J5 ks k↔x∈ks∨x=k:=by
 unfold J5
 by_cases h:M9 ks k=true
 ·rw[if_pos h]
  have:=(ci0 ks k).mp h
  exact⟨.inl,fun z=>z.elim id fun e=>e▸this⟩
 ·rw[if_neg h,List.mem_append,List.mem_singleton]
theorem py0(v:D):∀(L:List (Nat×Nat)) (ks:List (List K9)) (vs:List D),∃r,R6 ks vs (L.map fun p=>.tup [pN p,v])=some r/\∀x,x∈r.1↔x∈ks∨∃p∈L,x=k2 p
 | [],ks,vs=>⟨(ks,vs),rfl,fun x=>⟨.inl,fun z=>z.elim id fun⟨p,hp,_⟩=>by cases hp⟩⟩
 | p::L,ks,vs=>by
  obtain⟨r,h1,h2⟩:=py0 v L (J5 ks (k2 p)) (z80 ks vs (k2 p) v);refine⟨r,?_,fun x=>?_⟩
  ·rw[← h1]; rfl
  ·rw[h2,g40]
   constructor
   ·rintro ((z|z)|⟨q,hq,e⟩)
    ·exact .inl z
    ·exact .inr ⟨p,List.mem_cons_self,z⟩
    ·exact .inr ⟨q,List.mem_cons_of_mem _ hq,e⟩
   ·rintro (z|⟨q,hq,e⟩)
    ·exact .inl (.inl z)
    ·rcases List.mem_cons.mp hq with rfl|hq
     ·exact .inl (.inr e)
     ·exact .inr ⟨q,hq,e⟩
def Dc(L:List (Nat×Nat))(d:D):Prop:=∃ks vs,d=.dct (.inr ks) vs/\∀x,x∈ks↔∃p∈L,x=k2 p
theorem U80{L:List (Nat×Nat)}{d:D}(h:Dc L d)(p:Nat×Nat):y00 true (pN p) d=some (.bl (decide (p∉L))):=by
 obtain⟨ks,vs,rfl,hk⟩:=h;show some (D.bl (xor true (M9 ks (k2 p))))=_
 by_cases z:p∈L
 ·rw[(ci0 ks _).mpr ((hk _).mpr ⟨p,z,rfl⟩),decide_eq_false (fun q=>q z)]; rfl
 ·have:M9 ks (k2 p)=false:=by
   cases e:M9 ks (k2 p) with
   | false=>rfl
   | true =>
    obtain⟨q,hq,e2⟩:=(hk _).mp ((ci0 ks _).mp e);exact absurd (Yo0 e2▸hq) z
  rw[this,decide_eq_true z]; rfl
def okv(L:List (Nat×Nat)):D->D->Prop
 | .tup [_,.int i],.tup [_,.int j]=>(i.toNat,j.toNat)∈L
 | v,w=>v=w
theorem i60{n:Nat}{v:D}(h:Lv n v):Pn.Pl v:=by
 refine⟨q20 h 49,?_⟩
 rcases h with rfl|⟨z,rfl⟩|⟨j,rfl,_⟩<;>simp[Pn.nb,Pn.nbs]
def vu0(p:Prop)(o:Option D):Prop:=(p->o=some (.bl true))/\(¬p->o=some (.bl false))
theorem Uu0{n m:Nat}{v w:D}(hv:Lv n v)(hw:Lv m w):vu0 (v≠w) (y60 v w) :=
 ⟨fun e=>Pn.Ys0 (i60 hv) (i60 hw) e,fun e=>by
  have:=Classical.not_not.mp e
  subst this;exact Pn.dy0 (i60 hv).le⟩
theorem jk0{p:Prop}{g:GE}{δ:Ds}(h:vu0 p (g δ)):(p->ob g δ=some true)/\(¬p->ob g δ=some false) :=
 ⟨fun z=>by unfold ob; rw[h.1 z]; rfl,fun z=>by unfold ob; rw[h.2 z]; rfl⟩
theorem Xf0{n m:Nat}{L:List (Nat×Nat)}{v w:D}(hv:Lv n v)(hw:Lv m w)(h:¬(isTup v=true/\isTup w=true)):okv L v w↔v=w:=by
 rcases hv with rfl|⟨z,rfl⟩|⟨j,rfl,_⟩<;>rcases hw with rfl|⟨z',rfl⟩|⟨j',rfl,_⟩<;>first|exact Iff.rfl|exact absurd ⟨rfl,rfl⟩ h
def UB:GS:=(v8 (ifD (ob (oA (z9 (gv 4) v7) O3))
 (v8 (ifD (ob (o2 (oA (z9 (gv 4) v7) U5) (gv 3) (y00 true)))
 (v8 (o9 (gc (.bl false)))
 u6)
 u6)
 u6)
 (v8 (ifD (ob (o2 (o2 (gv 4) (gc (.int 0)) ixD) (o2 (gv 4) (gc (.int 1)) ixD) y60))
 (v8 (o9 (gc (.bl false)))
 u6)
 u6)
 u6))
 u6)
theorem Zj0(v w:D):O3 [.tup [v,w]]=some (.bl (isTup v&&isTup w)):=by
 refine d7 rfl (m8 (Z9 ?_))
 unfold J1;rw[show ob (Q4 isTup (o2 (gv 0) (gc (.int 0)) ixD)) (Y9 xv0 [.tup [v,w]])=some (isTup v) from rfl,Option.bind_some]
 cases isTup v with
 | false=>rfl
 | true=>rw[if_pos rfl]; rfl
theorem Vn0{n m:Nat}{L:List (Nat×Nat)}{d:D}(hd:Dc L d){v w:D}(hv:Lv n v)(hw:Lv m w)(a b c:Sl) :
  (okv L v w->UB [a,b,c,.sh d,.sh (.tup [v,w])]=some (.nx [a,b,c,.sh d,.sh (.tup [v,w])]))/\(¬okv L v w->UB [a,b,c,.sh d,.sh (.tup [v,w])]=some (.rt (.bl false))):=by
 have hl:ob (oA (z9 (gv 4) v7) O3) [a,b,c,.sh d,.sh (.tup [v,w])]=some (isTup v&&isTup w):=by
  unfold ob;rw[o7 (ds:=[.tup [v,w]]) rfl,Zj0];rfl
 by_cases hb:isTup v=true/\isTup w=true
 ·rw[hb.1,hb.2] at hl
  obtain⟨i,rfl,_⟩:∃j:Nat,v=.tup [.str "at",.int (j:Int)]/\j<n:=by
   rcases hv with rfl|⟨z,rfl⟩|h
   ·exact absurd hb.1 (by simp)
   ·exact absurd hb.1 (by simp)
   ·exact h
  obtain⟨j,rfl,_⟩:∃j:Nat,w=.tup [.str "at",.int (j:Int)]/\j<m:=by
   rcases hw with rfl|⟨z,rfl⟩|h
   ·exact absurd hb.2 (by simp)
   ·exact absurd hb.2 (by simp)
   ·exact h
  have e:okv L (.tup [.str "at",.int (i:Int)]) (.tup [.str "at",.int (j:Int)])↔(i,j)∈L:=by
   unfold okv;simp only[Int.toNat_natCast]
  have lp:U5 [.tup [.tup [.str "at",.int (i:Int)],.tup [.str "at",.int (j:Int)]]]=some (pN (i,j)) :=
   d7 rfl (m8 (Z9 (V1 (cons_of rfl (cons_of rfl rfl)) (by show 2<=sizeLine; decide))))
  have ht:ob (o2 (oA (z9 (gv 4) v7) U5) (gv 3) (y00 true)) [a,b,c,.sh d,.sh (.tup [.tup [.str "at",.int (i:Int)],.tup [.str "at",.int (j:Int)]])]=some (decide ((i,j)∉L)):=by
   unfold ob;rw[o5 (x:=pN (i,j)) (y:=d) (by rw[o7 (ds:=[.tup [.tup [.str "at",.int (i:Int)],.tup [.str "at",.int (j:Int)]]]) rfl]; exact lp) rfl,U80 hd]
   rfl
  rw[e];refine⟨fun z=>?_,fun z=>?_⟩
  ·rw[decide_eq_false (fun q=>q z)] at ht
   refine u9 (δ':=[a,b,c,.sh d,.sh (.tup [.tup [.str "at",.int (i:Int)],.tup [.str "at",.int (j:Int)]])]) ?_ rfl
   rw[S8 hl];refine u9 (δ':=[a,b,c,.sh d,.sh (.tup [.tup [.str "at",.int (i:Int)],.tup [.str "at",.int (j:Int)]])]) ?_ rfl
   rw[Z7 ht]; rfl
  ·rw[decide_eq_true z] at ht
   refine m8 ?_
   rw[S8 hl];refine m8 ?_
   rw[S8 ht]; rfl
 ·have hl2:(isTup v&&isTup w)=false:=by
   cases e1:isTup v with
   | false=>rfl
   | true =>
    cases e2:isTup w with
    | false=>rfl
    | true=>exact absurd ⟨e1,e2⟩ hb
  rw[hl2] at hl;rw[Xf0 hv hw hb];obtain⟨t1,t2⟩:=jk0 (g:=o2 (o2 (gv 4) (gc (.int 0)) ixD) (o2 (gv 4) (gc (.int 1)) ixD) y60) (δ:=[a,b,c,.sh d,.sh (.tup [v,w])]) (p:=v≠w) (by
   rw[o5 (x:=v) (y:=w) rfl rfl];exact Uu0 hv hw)
  refine⟨fun z=>?_,fun z=>?_⟩
  ·refine u9 (δ':=[a,b,c,.sh d,.sh (.tup [v,w])]) ?_ rfl
   rw[Z7 hl];refine u9 (δ':=[a,b,c,.sh d,.sh (.tup [v,w])]) ?_ rfl
   rw[Z7 (t2 fun q=>q z)]; rfl
  ·refine m8 ?_
   rw[Z7 hl];refine m8 ?_
   rw[S8 (t1 z)]; rfl
def pa(ps:List Pt)(i:Nat):Pt:=ps.getD i (.row [])
def up(ps qs:List Pt)(L:List (Nat×Nat))(p:Nat×Nat):Prop:=Pn.hd (pa ps p.1)=Pn.hd (pa qs p.2)/\∀q∈(pa ps p.1).vals.zip (pa qs p.2).vals,okv L q.1 q.2
theorem J7{ps:List Pt}(h:Web ps){i:Nat}(hi:i<ps.length):ixD (wd ps) (.int (i:Int))=some (pa ps i).d/\Pw ps.length (pa ps i):=by
 obtain⟨a,_,c⟩:=h.at hi;have:pa ps i=ps[i]:=by unfold pa; simp[hi]
 rw[this];exact⟨a,c⟩
theorem wz0(p:Pt)(h:p.few):M7 [p.d]=some (Pn.hd p):=Pn.wz0 p h
theorem Q0(p:Pt)(h:p.few):m_values [p.d]=some (.lst p.vals):=Pn.Q0 p h
theorem gk0{ps qs:List Pt}(hp:Web ps)(hq:Web qs){L:List (Nat×Nat)}{d:D}(hd:Dc L d){p:Nat×Nat}(h1:p.1<ps.length)(h2:p.2<qs.length):vu0 (up ps qs L p) (O5 [wd ps,wd qs,pN p,d]):=by
 obtain⟨a1,a2⟩:=J7 hp h1;obtain⟨b1,b2⟩:=J7 hq h2;unfold up
 generalize pa ps p.1=P at a1 a2
 generalize pa qs p.2=R at b1 b2
 have g1:∀δ:Ds,o2 (gv 0) (o2 (gv 2) (gc (.int 0)) ixD) ixD (.sh (wd ps)::.sh (wd qs)::.sh (pN p)::δ)=some P.d:=fun δ=>by
  rw[o5 (x:=wd ps) (y:=.int (p.1:Int)) rfl rfl]; exact a1
 have g2:∀δ:Ds,o2 (gv 1) (o2 (gv 2) (gc (.int 1)) ixD) ixD (.sh (wd ps)::.sh (wd qs)::.sh (pN p)::δ)=some R.d:=fun δ=>by
  rw[o5 (x:=wd qs) (y:=.int (p.2:Int)) rfl rfl]; exact b1
 obtain⟨t1,t2⟩:=jk0 (g:=o2 (oA (z9 (o2 (gv 0) (o2 (gv 2) (gc (.int 0)) ixD) ixD) v7) M7) (oA (z9 (o2 (gv 1) (o2 (gv 2) (gc (.int 1)) ixD) ixD) v7) M7) y60) (δ:=[.sh (wd ps),.sh (wd qs),.sh (pN p),.sh d,.un]) (p:=Pn.hd P≠Pn.hd R) (by
  rw[o5 (x:=Pn.hd P) (y:=Pn.hd R) (by rw[o7 (ds:=[P.d]) (cons_of (g1 _) rfl)]; exact wz0 P a2.f) (by rw[o7 (ds:=[R.d]) (cons_of (g2 _) rfl)]; exact wz0 R b2.f)]
  exact⟨fun e=>Pn.Ys0 (Pn.il0 P) (Pn.il0 R) e,fun e=>by rw[Classical.not_not.mp e]; exact Pn.dy0 (Pn.il0 R).le⟩)
 by_cases hh:Pn.hd P=Pn.hd R
 ·obtain⟨f1,f2⟩:=j40 (f:=gN 4) (G:=UB) (fun s=>[.sh (wd ps),.sh (wd qs),.sh (pN p),.sh d,s]) (fun _ _=>rfl) (fun x=>∃v w,x=.tup [v,w]/\okv L v w) ((P.vals.zip R.vals).map fun q=>.tup [q.1,q.2]) (fun x hx=>by
   obtain⟨q,hq',rfl⟩:=List.mem_map.mp hx;obtain⟨m1,m2⟩:=List.of_mem_zip hq';obtain⟨u1,u2⟩:=Vn0 hd (a2.lv _ m1) (b2.lv _ m2) (.sh (wd ps)) (.sh (wd qs)) (.sh (pN p));refine⟨fun⟨v,w,e,o⟩=>?_,fun z=>u2 fun o=>z ⟨_,_,rfl,o⟩⟩
   injection e with e
   injection e with e1 e
   injection e with e2 _
   rw[← e1,← e2] at o;exact u1 o) .un
  have hz:vg0 (z9 (oA (z9 (o2 (gv 0) (o2 (gv 2) (gc (.int 0)) ixD) ixD) v7) m_values) (z9 (oA (z9 (o2 (gv 1) (o2 (gv 2) (gc (.int 1)) ixD) ixD) v7) m_values) v7)) [.sh (wd ps),.sh (wd qs),.sh (pN p),.sh d,.un]=some ((P.vals.zip R.vals).map fun q=>.tup [q.1,q.2]):=by
   unfold vg0;rw[cons_of (d:=.lst P.vals) (ds:=[.lst R.vals]) (by rw[o7 (ds:=[P.d]) (cons_of (g1 _) rfl)]; exact Q0 P a2.f) (cons_of (by rw[o7 (ds:=[R.d]) (cons_of (g2 _) rfl)]; exact Q0 R b2.f) rfl)]
   rfl
  have hn:∀rest:GS,v8 (ifD (ob (o2 (oA (z9 (o2 (gv 0) (o2 (gv 2) (gc (.int 0)) ixD) ixD) v7) M7) (oA (z9 (o2 (gv 1) (o2 (gv 2) (gc (.int 1)) ixD) ixD) v7) M7) y60)) (v8 (o9 (gc (.bl false))) u6) u6) rest [.sh (wd ps),.sh (wd qs),.sh (pN p),.sh d,.un]=rest [.sh (wd ps),.sh (wd qs),.sh (pN p),.sh d,.un]:=fun rest=>u9 (by rw[Z7 (t2 fun z=>z hh)]; rfl) rfl
  refine⟨fun hup=>?_,fun hup=>?_⟩
  ·obtain⟨s',hs⟩:=f1 fun x hx=>by
    obtain⟨q,hq',rfl⟩:=List.mem_map.mp hx;exact⟨_,_,rfl,hup.2 q hq'⟩
   refine d7 rfl ?_
   refine(hn _).trans (u9 (J6 hz hs) (m8 rfl))
  ·refine d7 rfl ?_
   refine(hn _).trans (m8 (J6 hz (f2 fun z=>hup ⟨hh,fun q hq'=>?_⟩)))
   obtain⟨v,w,e,o⟩:=z _ (List.mem_map.mpr ⟨q,hq',rfl⟩);injection e with e
   injection e with e1 e
   injection e with e2 _
   rw[e1,e2];exact o
 ·refine⟨fun z=>absurd z.1 hh,fun _=>d7 rfl (m8 ?_)⟩
  show ifD _ _ _ [.sh (wd ps),.sh (wd qs),.sh (pN p),.sh d,.un]=_
  rw[S8 (t1 hh)];rfl
structure GL(n m:Nat)(L:List (Nat×Nat)):Prop where
 inr:∀p∈L,p.1<n/\p.2<m
 len:L.length<=100
def prg(ps qs:List Pt)(L:List (Nat×Nat)):Prop:=(0,0)∈L/\(L.map (·.1)).Nodup/\(L.map (·.2)).Nodup/\∀p∈L,up ps qs L p
theorem e70(p q:Nat×Nat):deq (pN p) (pN q)=decide (p=q):=by
 unfold pN;rw[deq,K8,K8,K8,deq,deq]
 by_cases h:p=q
 ·subst h; simp
 ·rw[decide_eq_false h]
  cases e:(p.1:Int)==(q.1:Int) with
  | false=>rfl
  | true =>
   cases e2:(p.2:Int)==(q.2:Int) with
   | false=>rfl
   | true =>
    exfalso
    apply h
    rw[beq_iff_eq] at e e2;exact Prod.ext (by omega) (by omega)
theorem pc0(p:Nat×Nat)(k:Nat):lean (pN p) (k+1)=true:=by simp[pN,lean,leans]
theorem qp0(L:List (Nat×Nat))(k:Nat):leans (L.map pN) (k+1)=true:=wf0 fun x hx=>by
 obtain⟨p,_,rfl⟩:=List.mem_map.mp hx;exact pc0 p k
theorem Zr0(L:List (Nat×Nat)):tz0 true (pN (0,0)) (.lst (L.map pN))=some (.bl (decide ((0,0)∉L))):=by
 unfold tz0;simp only[];rw[if_pos ⟨pc0 _ 49,qp0 L 49⟩];have e:((L.map pN).any fun y=>deq y (pN (0,0)))=decide ((0,0)∈L):=by
  rw[Bool.eq_iff_iff,List.any_eq_true,decide_eq_true_eq]
  constructor
  ·rintro⟨y,hy,h⟩
   obtain⟨p,hp,rfl⟩:=List.mem_map.mp hy;rw[e70] at h;rw[← of_decide_eq_true h]; exact hp
  ·intro h
   exact⟨_,List.mem_map.mpr ⟨_,h,rfl⟩,by rw[e70,decide_eq_true rfl]⟩
 rw[e]
 by_cases h:(0,0)∈L<;>simp[h]
theorem lf0:∀(is acc:List Int),(is.foldl PyProof.Rows.step_dedup acc).length<=acc.length+is.length
 | [],acc=>by simp
 | x::is,acc=>by
  rw[List.foldl_cons];have:=lf0 is (PyProof.Rows.step_dedup acc x);have:(PyProof.Rows.step_dedup acc x).length<=acc.length+1:=by
   unfold PyProof.Rows.step_dedup;split
   ·omega
   ·simp
  rw[List.length_cons];omega
theorem kx0:∀(is acc:List Int),acc.Nodup->((is.foldl PyProof.Rows.step_dedup acc).length=acc.length+is.length↔(acc++is).Nodup)
 | [],acc,h=>by simp[h]
 | x::is,acc,h=>by
  rw[List.foldl_cons]
  by_cases hx:x∈acc
  ·have e:PyProof.Rows.step_dedup acc x=acc:=by
    unfold PyProof.Rows.step_dedup;rw[if_pos (by rw[List.any_eq_true]; exact⟨x,hx,by simp⟩)]
   rw[e];have hle:=lf0 is acc;refine⟨fun z=>by rw[List.length_cons] at z; omega,fun z=>?_⟩
   obtain⟨_,_,z3⟩:=List.nodup_append.mp z;exact absurd rfl (z3 x hx x List.mem_cons_self)
  ·have e:PyProof.Rows.step_dedup acc x=acc++[x]:=by
    unfold PyProof.Rows.step_dedup;rw[if_neg (by
     rw[List.any_eq_true]
     rintro⟨y,hy,z⟩
     rw[beq_iff_eq] at z;exact hx (z▸hy))]
   have hn:(acc++[x]).Nodup:=List.nodup_append.mpr ⟨h,by simp,fun a ha b hb e=>by rw[List.mem_singleton.mp hb] at e; exact hx (e▸ha)⟩
   have ih:=kx0 is (acc++[x]) hn
   rw[List.length_append,List.length_singleton] at ih;rw[e,List.length_cons,show acc.length+(is.length+1)=acc.length+1+is.length by omega,ih,List.append_assoc]
   rfl
theorem aj0(is:List Int)(hl:is.length<=4000):y90 [.lst (is.map .int)]=some (.int (is.foldl PyProof.Rows.step_dedup []).length):=by
 show (s90 (is.map D.int)).bind _=_
 rw[o40,Option.bind_some,if_pos hl];unfold PyProof.Rows.firstMet;have e:(List.range is.length).map (fun i=>is.getD i 0)=is:=by
  refine List.ext_getElem (by simp) fun i h1 h2=>?_
  simp[List.getD_eq_getElem?_getD,h2]
 rw[e]
theorem dj0(L:List (Nat×Nat)):W6 (gN 0) noT (o2 (gv 0) (gc (.int 0)) ixD) [.un] (L.map pN)=some ((L.map fun p=>(p.1:Int)).map .int):=by
 rw[S5 (fun d=>match d with|.tup [a,_]=>a|_=>.non) (fun d hd=>by
  obtain⟨q,_,rfl⟩:=List.mem_map.mp hd;exact⟨[.sh (pN q)],rfl,rfl,rfl⟩),List.map_map,List.map_map]
 rfl
theorem c90(L:List (Nat×Nat)):W6 (gN 0) noT (o2 (gv 0) (gc (.int 1)) ixD) [.un] (L.map pN)=some ((L.map fun p=>(p.2:Int)).map .int):=by
 rw[S5 (fun d=>match d with|.tup [_,b]=>b|_=>.non) (fun d hd=>by
  obtain⟨q,_,rfl⟩:=List.mem_map.mp hd;exact⟨[.sh (pN q)],rfl,rfl,rfl⟩),List.map_map,List.map_map]
 rfl
theorem Ya0(l:List Nat):(l.map fun (k:Nat)=>(k:Int)).Nodup↔l.Nodup:=by
 constructor
 ·intro h
  refine List.pairwise_iff_getElem.mpr fun i j hi hj hij e=>?_
  have:=List.pairwise_iff_getElem.mp h i j (by simpa using hi) (by simpa using hj) hij
  rw[List.getElem_map,List.getElem_map,e] at this;exact this rfl
 ·intro h
  refine List.pairwise_iff_getElem.mpr fun i j hi hj hij e=>?_
  rw[List.length_map] at hi hj;rw[List.getElem_map,List.getElem_map] at e;exact List.pairwise_iff_getElem.mp h i j hi hj hij (by omega)
theorem Y40{n m:Nat}{L:List (Nat×Nat)}(h:GL n m L):R9 [.lst (L.map pN)]=some (.bl (decide ((L.map (·.1)).Nodup/\(L.map (·.2)).Nodup))):=by
 have zs:(1000:Nat)<=sizeLine:=by decide
 have hl:=h.len
 have cnt:∀f:Nat×Nat->Nat,((L.map fun p=>(f p:Int)).foldl PyProof.Rows.step_dedup []).length=L.length↔(L.map f).Nodup:=fun f=>by
  have:=kx0 (L.map fun p=>(f p:Int)) [] List.nodup_nil
  rw[List.length_nil,Nat.zero_add,List.length_map,List.nil_append] at this;rw[this,← Ya0,List.map_map];rfl
 refine d7 rfl (u9 (Z3 (d:=.lst ((L.map fun p:Nat×Nat=>(p.1:Int)).map .int)) (W7 (items:=L.map pN) rfl (by rw[List.length_map]; omega) (dj0 L))) (u9 (Z3 (d:=.lst ((L.map fun p:Nat×Nat=>(p.2:Int)).map .int)) (W7 (items:=L.map pN) rfl (by rw[List.length_map]; omega) (c90 L))) (m8 (Z9 ?_))))
 have t:∀(i:Nat) (f:Nat×Nat->Nat) (δ:Ds),gv i δ=some (.lst ((L.map fun p=>(f p:Int)).map .int))->gv 0 δ=some (.lst (L.map pN))->o2 (oA (z9 (gv i) v7) y90) (oA (z9 (gv 0) v7) j8) eqD δ=some (.bl (decide ((L.map f).Nodup))):=fun i f δ h1 h2=>by
  rw[o5 (x:=.int (((L.map fun p=>(f p:Int)).foldl PyProof.Rows.step_dedup []).length:Int)) (y:=.int (L.length:Int)) (by rw[o7 (ds:=[.lst ((L.map fun p=>(f p:Int)).map .int)]) (cons_of h1 rfl)]; exact aj0 _ (by rw[List.length_map]; omega)) (by rw[Xv0 h2,List.length_map]),eqi]
  congr 2
  rw[decide_eq_decide,← cnt f];omega
 unfold J1;have t1:=t 1 (·.1) [.sh (.lst (L.map pN)),.sh (.lst ((L.map fun p=>(p.1:Int)).map .int)),.sh (.lst ((L.map fun p=>(p.2:Int)).map .int))] rfl rfl
 have t2:=t 2 (·.2) [.sh (.lst (L.map pN)),.sh (.lst ((L.map fun p=>(p.1:Int)).map .int)),.sh (.lst ((L.map fun p=>(p.2:Int)).map .int))] rfl rfl
 change Option.bind (ob (o2 (oA (z9 (gv 1) v7) y90) (oA (z9 (gv 0) v7) j8) eqD) [.sh (.lst (L.map pN)),.sh (.lst ((L.map fun p=>(p.1:Int)).map .int)),.sh (.lst ((L.map fun p=>(p.2:Int)).map .int))]) _=_
 rw[Bw.vy0 t1,Option.bind_some]
 by_cases h1:(L.map (·.1)).Nodup
 ·rw[decide_eq_true h1,if_pos rfl]
  refine t2.trans ?_
  congr 2
  rw[decide_eq_decide];exact⟨fun z=>⟨h1,z⟩,fun z=>z.2⟩
 ·rw[decide_eq_false h1,if_neg (by simp),decide_eq_false (fun z=>h1 z.1)]
theorem pw0:∀bs:List Bool,bools (bs.map D.bl)=some bs
 | []=>rfl
 | b::bs=>by show (bools (bs.map D.bl)).map _=_; rw[pw0 bs]; rfl
theorem yi0(ps:List Pt)(δ:Ds){i:Nat}(h:gv i δ=some (wd ps)):oA (z9 (gv i) v7) j8 δ=some (.int (ps.length:Int)):=by
 rw[o7 (ds:=[wd ps]) (cons_of h rfl)];show some (D.int ((ps.map Pt.d).length:Int))=_;rw[List.length_map]
theorem dx0{ps qs:List Pt}{p:Nat×Nat}(h1:p.1<ps.length)(h2:p.2<qs.length):O4 [wd ps,wd qs,pN p]=some (.bl true):=by
 refine d7 rfl (m8 (Z9 ?_))
 have c1:zn0 (gc (.int 0)) (o2 (gv 2) (gc (.int 0)) ixD) (oA (z9 (gv 0) v7) j8) leD ltD [.sh (wd ps),.sh (wd qs),.sh (pN p)]=some (.bl true):=by
  unfold zn0;rw[yi0 ps _ rfl];show (if decide ((0:Int)<=(p.1:Int))=true then some (D.bl (decide ((p.1:Int)<(ps.length:Int)))) else some (.bl false))=_;rw[decide_eq_true (by omega),if_pos rfl,decide_eq_true (by omega)]
 have c2:zn0 (gc (.int 0)) (o2 (gv 2) (gc (.int 1)) ixD) (oA (z9 (gv 1) v7) j8) leD ltD [.sh (wd ps),.sh (wd qs),.sh (pN p)]=some (.bl true):=by
  unfold zn0;rw[yi0 qs _ rfl];show (if decide ((0:Int)<=(p.2:Int))=true then some (D.bl (decide ((p.2:Int)<(qs.length:Int)))) else some (.bl false))=_;rw[decide_eq_true (by omega),if_pos rfl,decide_eq_true (by omega)]
 unfold J1
 change Option.bind (ob (zn0 (gc (.int 0)) (o2 (gv 2) (gc (.int 0)) ixD) (oA (z9 (gv 0) v7) j8) leD ltD) [.sh (wd ps),.sh (wd qs),.sh (pN p)]) _=_
 rw[Bw.vy0 c1,Option.bind_some,if_pos rfl];exact c2
open Classical in
theorem gu0{ps qs:List Pt}(hp:Web ps)(hq:Web qs){L:List (Nat×Nat)}(h:GL ps.length qs.length L):vu0 (∀p∈L,up ps qs L p) (R7 [wd ps,wd qs,.lst (L.map pN)]):=by
 have zs:(1000:Nat)<=sizeLine:=by decide
 have hl:=h.len
 obtain⟨r,r1,r2⟩:=py0 (.bl true) L [] [];have hd:Dc L (.dct (.inr r.1) r.2):=⟨r.1,r.2,rfl,fun x=>by rw[r2]; simp⟩
 have key:R7 [wd ps,wd qs,.lst (L.map pN)]=some (.bl ((L.map fun p=>decide (up ps qs L p)).all id)):=by
  refine d7 rfl (u9 (Z3 (d:=.dct (.inr r.1) r.2) ?_) (m8 (Z9 ?_)))
  ·rw[o7 (ds:=[.lst (L.map fun p=>.tup [pN p,.bl true])]) (cons_of (W7 (items:=L.map pN) rfl (by rw[List.length_map]; omega) (by
    rw[S5 (fun d=>.tup [d,.bl true]) (fun d hd=>⟨[.sh d],rfl,rfl,V1 (cons_of rfl (cons_of rfl rfl)) (by show 2<=sizeLine; omega)⟩),List.map_map]
    rfl)) rfl)]
   show (if (L.map fun p=>D.tup [pN p,.bl true]).length<=sizeLine then (R6 [] [] (L.map fun p=>D.tup [pN p,.bl true])).map (fun r=>D.dct (.inr r.1) r.2) else none)=_
   rw[if_pos (by rw[List.length_map]; omega),r1]
   rfl
  ·rw[o7 (ds:=[.lst ((L.map fun p=>decide (up ps qs L p)).map .bl)]) (cons_of (W7 (items:=L.map pN) rfl (by rw[List.length_map]; omega) (by
    have:∀p∈L,J1 (oA (z9 (gv 1) (z9 (gv 2) (z9 (gv 0) v7))) O4) (oA (z9 (gv 1) (z9 (gv 2) (z9 (gv 0) (z9 (gv 3) v7)))) O5) [.sh (pN p),.sh (wd ps),.sh (wd qs),.sh (.dct (.inr r.1) r.2)]=some (.bl (decide (up ps qs L p))):=fun p hp'=>by
     obtain⟨i1,i2⟩:=h.inr p hp';unfold J1;rw[Bw.vy0 (b:=true) (by rw[o7 (ds:=[wd ps,wd qs,pN p]) rfl]; exact dx0 i1 i2),Option.bind_some,if_pos rfl,o7 (ds:=[wd ps,wd qs,pN p,.dct (.inr r.1) r.2]) rfl]
     obtain⟨u1,u2⟩:=gk0 hp hq hd i1 i2
     by_cases hu:up ps qs L p
     ·rw[decide_eq_true hu]; exact u1 hu
     ·rw[decide_eq_false hu]; exact u2 hu
    have go:∀l:List (Nat×Nat),(∀p∈l,p∈L)->W6 (gN 0) noT (J1 (oA (z9 (gv 1) (z9 (gv 2) (z9 (gv 0) v7))) O4) (oA (z9 (gv 1) (z9 (gv 2) (z9 (gv 0) (z9 (gv 3) v7)))) O5)) [.un,.sh (wd ps),.sh (wd qs),.sh (.dct (.inr r.1) r.2)] (l.map pN)=some ((l.map fun p=>decide (up ps qs L p)).map .bl):=by
     intro l
     induction l with
     | nil=>intro _; rfl
     | cons p l ih =>
      intro hl';rw[List.map_cons];unfold W6;show (match J1 _ _ [.sh (pN p),.sh (wd ps),.sh (wd qs),.sh (.dct (.inr r.1) r.2)] with|none=>none|some y=>(W6 _ _ _ _ (l.map pN)).map fun r=>y::r)=_
      rw[this p (hl' p List.mem_cons_self),ih fun q hq'=>hl' q (List.mem_cons_of_mem _ hq')]
      rfl
    exact go L fun p hp'=>hp')) rfl)]
   show (bools _).map _=_
   rw[pw0];rfl
 rw[key];have e:(L.map fun p=>decide (up ps qs L p)).all id=decide (∀p∈L,up ps qs L p):=by
  rw[Bool.eq_iff_iff,List.all_map,List.all_eq_true,decide_eq_true_eq];exact⟨fun z p hp'=>of_decide_eq_true (z p hp'),fun z p hp'=>decide_eq_true (z p hp')⟩
 rw[e];exact⟨fun z=>by rw[decide_eq_true z],fun z=>by rw[decide_eq_false z]⟩
theorem ux0{ps qs:List Pt}(hp:Web ps)(hq:Web qs){L:List (Nat×Nat)}(h:GL ps.length qs.length L):vu0 (prg ps qs L) (U0 [wd ps,wd qs,.lst (L.map pN)]):=by
 have zs:(2:Nat)<=sizeLine:=by decide
 have t1:ob (o2 (m9 (z9 (gc (.int 0)) (z9 (gc (.int 0)) v7))) (gv 2) (tz0 true)) [.sh (wd ps),.sh (wd qs),.sh (.lst (L.map pN))]=some (decide ((0,0)∉L)):=Bw.vy0 (by
  rw[o5 (x:=pN (0,0)) (y:=.lst (L.map pN)) (V1 (cons_of rfl (cons_of rfl rfl)) zs) rfl];exact Zr0 L)
 have t2:ob (oA (z9 (gv 2) v7) R9) [.sh (wd ps),.sh (wd qs),.sh (.lst (L.map pN))]=some (decide ((L.map (·.1)).Nodup/\(L.map (·.2)).Nodup)):=Bw.vy0 (by
  rw[o7 (ds:=[.lst (L.map pN)]) rfl];exact Y40 h)
 have t3:zv0 (ob (o2 (m9 (z9 (gc (.int 0)) (z9 (gc (.int 0)) v7))) (gv 2) (tz0 true))) (Q7 (ob (oA (z9 (gv 2) v7) R9))) [.sh (wd ps),.sh (wd qs),.sh (.lst (L.map pN))]=some (decide (¬((0,0)∈L/\(L.map (·.1)).Nodup/\(L.map (·.2)).Nodup))):=by
  unfold zv0 Q7;rw[t1,t2]
  by_cases a:(0,0)∈L
  ·simp[a]
  ·simp[a]
 obtain⟨c1,c2⟩:=gu0 hp hq h
 by_cases hx:(0,0)∈L/\(L.map (·.1)).Nodup/\(L.map (·.2)).Nodup
 ·rw[decide_eq_false (fun z=>z hx)] at t3
  have go:∀b,R7 [wd ps,wd qs,.lst (L.map pN)]=some (.bl b)->U0 [wd ps,wd qs,.lst (L.map pN)]=some (.bl b):=fun b hb=>by
   refine d7 rfl (u9 (δ':=[.sh (wd ps),.sh (wd qs),.sh (.lst (L.map pN))]) ?_ (m8 (Z9 ?_)))
   ·show ifD _ _ _ [.sh (wd ps),.sh (wd qs),.sh (.lst (L.map pN))]=_
    rw[Z7 t3]; rfl
   ·rw[o7 (ds:=[wd ps,wd qs,.lst (L.map pN)]) rfl]
    exact hb
  exact⟨fun z=>go true (c1 z.2.2.2),fun z=>go false (c2 fun q=>z ⟨hx.1,hx.2.1,hx.2.2,q⟩)⟩
 ·rw[decide_eq_true hx] at t3
  refine⟨fun z=>absurd ⟨z.1,z.2.1,z.2.2.1⟩ hx,fun _=>d7 rfl (m8 ?_)⟩
  show ifD _ _ _ [.sh (wd ps),.sh (wd qs),.sh (.lst (L.map pN))]=_
  rw[S8 t3];rfl
end Ta
namespace Bw
open PySem DL W
end Bw
namespace Km
open PySem DL W K22
noncomputable section
end
end Km
namespace Ta
open PySem DL W K22
theorem uw0{n:Nat}{p:Pt}(h:Pw n p):j6 [p.d]=some (.lst p.vals):=Gw.v00 p h.f
end Ta
namespace Ta
open PySem DL W K22
theorem f40{n:Nat}{j:Nat}(h:j<n):ixN n (j:Int)=some j:=by
 unfold ixN;rw[if_pos (by omega),if_pos (by omega),Int.toNat_natCast]
theorem ss0(P:List Nat){j:Nat}(h:j<P.length):ixD (.lst (nd P)) (.int (j:Int))=some (.int ((P.getD j 0:Nat):Int)):=by
 show atI (nd P) (j:Int)=_
 rw[zz0 (by omega) (by rw[R4]; omega) .non,Int.toNat_natCast]
 unfold nd
 simp[h]
theorem getD_mem{P:List Nat}{j:Nat}(h:j<P.length):P.getD j 0∈P:=by
 rw[show P.getD j 0=P[j] from by simp[h]]
 exact List.getElem_mem h
theorem fl0{α β:Type}(f:α->β):∀(l:List α) (i:Nat),(l.map f).eraseIdx i=(l.eraseIdx i).map f
 | [],i=>by simp
 | a::l,0=>by simp
 | a::l,i+1=>by simp[fl0 f l i]
def LTt:DL.GB:=(ob (o2 (U3 (oA (z9 (gv 2) v7) j8)) (gc (.int 0)) gtD))
def LB:GS:=(v8 (X8 (q70 3 (ur0 2 (o2 (gv 0) (U3 (oA (z9 (gv 2) v7) j8)) j5))))
 (v8 (n8 (gN 0) (o2 (o2 (gv 0) (gc (.int 3)) b7) (o2 (gc (.int 12345)) (U3 (oA (z9 (gv 2) v7) j8)) S9) b8))
 u6))
def ls(c:Int)(m:Sl)(L P:List Nat):Ds:=[.sh (.int c),m,.ow (.lst (nd L)),.ow (.lst (nd P))]
theorem kc0(c:Int)(m:Sl)(L P:List Nat):U3 (oA (z9 (gv 2) v7) j8) (ls c m L P)=some (.int (L.length:Int)):=by
 show some (D.int ((nd L).length:Int))=_
 rw[R4]
theorem ba0(c:Int)(m:Sl)(L P:List Nat):LTt (ls c m L P)=some (decide (0<L.length)):=by
 unfold LTt ob;rw[o5 (x:=.int (L.length:Int)) (y:=.int 0) (kc0 c m L P) rfl];show some (decide ((0:Int)<(L.length:Int)))=_
 congr 1
 rw[decide_eq_decide];omega
theorem cx0(c:Int)(m:Sl)(L P:List Nat)(hL:0<L.length)(hP:P.length<=1000):∃c' t,t<L.length/\LB (ls c m L P)=some (.nx (ls c' m (L.eraseIdx t) (P++[L.getD t 0]))):=by
 have zs:(2000:Nat)<=sizeLine:=by decide
 have b1:0<=c%(L.length:Int):=Int.emod_nonneg _ (by omega)
 have b2:c%(L.length:Int)<L.length:=Int.emod_lt_of_pos _ (by omega)
 obtain⟨t,ht⟩:∃t:Nat,c%(L.length:Int)=(t:Int):=⟨(c%(L.length:Int)).toNat,by omega⟩
 have htl:t<L.length:=by omega
 have hix:o2 (gv 0) (U3 (oA (z9 (gv 2) v7) j8)) j5 (ls c m L P)=some (.int (t:Int)):=by
  rw[o5 (x:=.int c) (y:=.int (L.length:Int)) rfl (kc0 c m L P),Gw.xx0 _ _ (by omega),ht]
 have gx:(nd L)[t]?=some (.int ((L.getD t 0:Nat):Int)):=by unfold nd; simp[htl]
 have ex:(nd L).eraseIdx t=nd (L.eraseIdx t):=fl0 _ _ _
 have hp:ur0 2 (o2 (gv 0) (U3 (oA (z9 (gv 2) v7) j8)) j5) (ls c m L P)=some (.int ((L.getD t 0:Nat):Int),ls c m (L.eraseIdx t) P):=by
  unfold ur0;rw[hix];show (if 0<=(t:Int)/\(t:Int)<(nd L).length then ((nd L)[(t:Int).toNat]?).map fun d=>(d,([.sh (.int c),m,Sl.ow (.lst ((nd L).eraseIdx (t:Int).toNat)),.ow (.lst (nd P))]:Ds)) else none)=_
  rw[if_pos ⟨by omega,by rw[R4]; omega⟩,Int.toNat_natCast,gx,ex]
  rfl
 refine⟨c/3+12345*((L.eraseIdx t).length:Int),t,htl,?_⟩
 refine u9 (δ':=ls c m (L.eraseIdx t) (P++[L.getD t 0])) ?_ (u9 (Z3 (d:=.int (c/3+12345*((L.eraseIdx t).length:Int))) ?_) rfl)
 ·unfold X8 q70
  rw[show owL 3 (ls c m L P)=some (nd P) from rfl,Option.bind_some,hp,Option.bind_some];rw[show owL 3 (ls c m (L.eraseIdx t) P)=some (nd P) from rfl,Option.bind_some,if_pos (by rw[R4]; omega)]
  show some (Res.nx [.sh (.int c),m,.ow (.lst (nd (L.eraseIdx t))),.ow (.lst (nd P++[.int ((L.getD t 0:Nat):Int)]))])=_
  rw[show nd P++[D.int ((L.getD t 0:Nat):Int)]=nd (P++[L.getD t 0]) from by rw[wb0]; rfl]
  rfl
 ·rw[o5 (x:=.int (c/3)) (y:=.int (12345*((L.eraseIdx t).length:Int))) (by
   rw[o5 (x:=.int c) (y:=.int 3) rfl rfl];exact Gw.m70 _ _ (by decide)) (by
   rw[o5 (x:=.int 12345) (y:=.int ((L.eraseIdx t).length:Int)) rfl (kc0 _ _ _ _)];exact Gw.U20 _ _ (by decide))]
  rfl
theorem cs0{i j:Int}(h1:0<=i/\i<=1000)(h2:0<=j/\j<=1000):q60 [.int i,.int j]=some (.lst (U7 i j)):=by
 have q:∀B:Int,1000<B->(-B<=i/\i<B)/\(-B<=j/\j<B)/\j - i<=1000000:=fun B hB=>by omega
 show (if _ then _ else _)=_
 rw[if_pos (q _ (by decide))]
end Ta
namespace Ta
open PySem DL W K22
theorem nq0(qs:List Pt)(j:Nat)(q:Pt):(qs.map Pt.d).set j q.d=(qs.set j q).map Pt.d:=by rw[List.map_set]
theorem q30{i:Nat}{g:GE}{δ:Ds}{ds:List D}{j:Nat}{gx:GE}{v:D}(h1:owL i δ=some ds)(h2:g δ=some (.int (j:Int)))(h3:j<ds.length)(h4:gx δ=some v):U4 (R5 gx) (setAt i g) δ=some (.nx (δ.set i (.ow (.lst (ds.set j v))))):=by
 unfold U4 R5;rw[h4];unfold setAt;rw[Option.map_some,Option.bind_some,h1,Option.bind_some,h2,Option.bind_some];simp only[];rw[f40 h3];rfl
def ia0(a:Nat):Pt:=.row [.tup [.str "at",.int (a:Int)],.non,.tup [.str "at",.int 0]]
theorem j80{N a:Nat}(h:a<N):Pw N (ia0 a):=by
 refine⟨by show 3<=12; decide,fun v hv=>?_⟩
 have hv:v∈[D.tup [.str "at",.int (a:Int)],.non,.tup [.str "at",.int 0]]:=hv
 simp only[List.mem_cons,List.not_mem_nil,or_false] at hv;rcases hv with rfl|rfl|rfl
 ·exact .inr (.inr ⟨a,rfl,h⟩)
 ·exact .inl rfl
 ·exact .inr (.inr ⟨0,rfl,by omega⟩)
theorem ly0(xs:List D)(n:Nat):cutD xs none (some (n:Int))=xs.take n:=by
 unfold cutD;show (xs.drop 0).take (sIx xs.length xs.length (some (n:Int)) - 0)=_;rw[List.drop_zero,Nat.sub_zero];unfold sIx;simp only[];rw[if_neg (by omega),Int.toNat_natCast]
 by_cases h:n<=xs.length
 ·rw[Nat.min_eq_left h]
 ·rw[Nat.min_eq_right (by omega),List.take_length,List.take_of_length_le (by omega)]
theorem di0(xs:List D)(n:Nat):cutD xs (some (n:Int)) none=xs.drop n:=by
 unfold cutD;show (xs.drop (sIx xs.length 0 (some (n:Int)))).take (xs.length - sIx xs.length 0 (some (n:Int)))=_;unfold sIx;simp only[];rw[if_neg (by omega),Int.toNat_natCast]
 by_cases h:n<=xs.length
 ·rw[Nat.min_eq_left h,List.take_of_length_le (by rw[List.length_drop]; exact Nat.le_refl _)]
 ·rw[Nat.min_eq_right (by omega),List.drop_length,List.take_nil,List.drop_of_length_le (by omega)]
theorem b90{g gh:GE}{δ:Ds}{xs:List D}{n:Nat}(h1:g δ=some (.lst xs))(h2:gh δ=some (.int (n:Int))):U6 g S7 (someO gh) δ=some (.lst (xs.take n)):=by
 unfold U6 someO;rw[h1,h2,← ly0];rfl
theorem U70{g gh:GE}{δ:Ds}{xs:List D}{n:Nat}(h1:g δ=some (.tup xs))(h2:gh δ=some (.int (n:Int))):U6 g S7 (someO gh) δ=some (.tup (xs.take n)):=by
 unfold U6 someO;rw[h1,h2,← ly0];rfl
theorem Y20{g gh:GE}{δ:Ds}{xs:List D}{n:Nat}(h1:g δ=some (.tup xs))(h2:gh δ=some (.int (n:Int))):U6 g (someO gh) S7 δ=some (.tup (xs.drop n)):=by
 unfold U6 someO;rw[h1,h2,← di0];rfl
theorem af0{B:Int}{E:Nat}{xs:List D}{k:Int}{o:Option D}(h1:xs≠[])(h2:0<=k/\k<=100)(h3:xs.length=1)(hB:100<B)(hE:100<=E):(if xs≠[]/\0<=k/\k<B/\xs.length*k.toNat<=E then some (D.lst (List.replicate k.toNat xs).flatten) else o)=some (D.lst (List.replicate k.toNat xs).flatten):=by
 rw[if_pos ⟨h1,h2.1,by omega,by rw[h3]; omega⟩]
theorem li0{α:Type}(a:α):∀n:Nat,(List.replicate n [a]).flatten=List.replicate n a
 | 0=>rfl
 | n+1=>by rw[List.replicate_succ,List.flatten_cons,li0 a n,List.replicate_succ]; rfl
theorem fj0{xs:List D}{k:Int}(h1:xs≠[])(h2:0<=k/\k<=100)(h3:xs.length=1):mulL (.lst xs) (.int k)=some (D.lst (List.replicate k.toNat xs).flatten):=af0 h1 h2 h3 (by decide) (by decide)
end Ta
namespace Ta
open PySem DL W K22
theorem fc0(x m:Int)(hx:0<=x/\x<2 ^ 40)(hm:0<m):∃v,W2 [.int x,.int m]=some v/\Gw.Vk v m:=Gw.m40 x m hx hm
theorem tp0(p:Pt)(h:p.few)(vs:List D)(hl:vs.length=p.vals.length):W4 [p.d,.lst vs]=some (Pn.put p vs).d:=Gw.sn0 p h vs (.inl hl)
theorem Vx0{v:D}{m:Nat}(k:Gw.Vk v (m:Int)):Lv m v:=by
 rcases oa0 k.ok with rfl|⟨i,rfl⟩|⟨i,rfl,hi⟩
 ·exact .inl rfl
 ·exact .inr (.inl ⟨i,rfl⟩)
 ·have:=k.lk i rfl
  exact .inr (.inr ⟨i.toNat,by rw[Int.toNat_of_nonneg hi],by omega⟩)
theorem Wl0{n:Nat}{p:Pt}(h:Pw n p){vs:List D}(hl:vs.length=p.vals.length)(hv:∀v∈vs,Lv n v):Pw n (Pn.put p vs):=by
 have e:=t90 p vs hl
 exact⟨by rw[e,hl]; exact h.few,fun v hv'=>by rw[e] at hv'; exact hv v hv'⟩
theorem eq_nil{n:Nat}{vs:List D}(h:∀v∈vs,Lv n v):Q6 (.lst vs) (.lst [])=some (.bl (decide (vs=[]))):=by
 unfold Q6;have e:lean (.lst vs) 50=true:=by
  rw[lean];exact wf0 fun x hx=>q20 (h x hx) 48
 rw[if_pos ⟨e,by simp[lean,leans]⟩]
 cases vs with
 | nil=>simp[deq,K8]
 | cons a vs=>simp[deq,K8]
theorem co0{xs ys:List D}(h:xs.length+ys.length<=sizeLine):b8 (.tup xs) (.tup ys)=some (.tup (xs++ys)):=by
 simp only[b8]; rw[if_pos h]
theorem tb0{qs:List Pt}(h:Web qs)(x:Int):∃rs,T6 [wd qs,.int x]=some (wd rs)/\Web rs/\rs.length=qs.length:=by
 have zs:(2000:Nat)<=sizeLine:=by decide
 have hq:=h.len
 have b1:0<=x%(qs.length:Int):=Int.emod_nonneg _ (by omega)
 have b2:x%(qs.length:Int)<qs.length:=Int.emod_lt_of_pos _ (by omega)
 obtain⟨k,hk⟩:∃k:Nat,x%(qs.length:Int)=(k:Int):=⟨(x%(qs.length:Int)).toNat,by omega⟩
 have hkl:k<qs.length:=by omega
 obtain⟨e1,_,pw⟩:=h.at hkl;have gk:o2 (gv 1) (oA (z9 (gv 0) v7) j8) j5 [.sh (wd qs),.sh (.int x),.un,.un,.un]=some (.int (k:Int)):=by
  rw[o5 (x:=.int x) (y:=.int (qs.length:Int)) rfl (yi0 qs _ rfl),Gw.xx0 _ _ (by omega),hk]
 have gp:∀s2 s3:Sl,o2 (gv 0) (gv 2) ixD [.sh (wd qs),.sh (.int x),.sh (.int (k:Int)),s2,s3]=some qs[k].d:=fun s2 s3=>by
  rw[o5 (x:=wd qs) (y:=.int (k:Int)) rfl rfl]; exact e1
 have gv3:oA (z9 (o2 (gv 0) (gv 2) ixD) v7) j6 [.sh (wd qs),.sh (.int x),.sh (.int (k:Int)),.un,.un]=some (.lst qs[k].vals):=by
  rw[o7 (ds:=[qs[k].d]) (cons_of (gp _ _) rfl)];exact uw0 pw
 have s1:n8 (gN 2) (o2 (gv 1) (oA (z9 (gv 0) v7) j8) j5) [.sh (wd qs),.sh (.int x),.un,.un,.un]=some (.nx [.sh (wd qs),.sh (.int x),.sh (.int (k:Int)),.un,.un]):=Z3 gk
 have s2:V4 3 (oA (z9 (o2 (gv 0) (gv 2) ixD) v7) j6) [.sh (wd qs),.sh (.int x),.sh (.int (k:Int)),.un,.un]=some (.nx [.sh (wd qs),.sh (.int x),.sh (.int (k:Int)),.ow (.lst qs[k].vals),.un]):=by
  unfold V4;rw[gv3];rfl
 have t:wj0 (ob (o2 (gv 3) (X5 v7) Q6)) [.sh (wd qs),.sh (.int x),.sh (.int (k:Int)),.ow (.lst qs[k].vals),.un]=some (decide (qs[k].vals=[])):=by
  show ob (o2 (gv 3) (X5 v7) Q6) [.sh (wd qs),.sh (.int x),.sh (.int (k:Int)),.sh (.lst qs[k].vals),.un]=_
  exact Bw.vy0 (by rw[o5 (x:=.lst qs[k].vals) (y:=.lst []) rfl (vj0 rfl (by show 0<=sizeLine; omega))]; exact eq_nil pw.lv)
 by_cases hn:qs[k].vals=[]
 ·refine⟨qs,d7 rfl (u9 s1 (u9 s2 (m8 ?_))),h,rfl⟩
  rw[S8 (t.trans (by rw[decide_eq_true hn]))]
  exact m8 (Z9 rfl)
 ·have hvl:0<qs[k].vals.length:=List.length_pos_iff.mpr hn
  have c1:0<=x/60%(qs[k].vals.length:Int):=Int.emod_nonneg _ (by omega)
  have c2:x/60%(qs[k].vals.length:Int)<qs[k].vals.length:=Int.emod_lt_of_pos _ (by omega)
  obtain⟨j,hj⟩:∃j:Nat,x/60%(qs[k].vals.length:Int)=(j:Int):=⟨(x/60%(qs[k].vals.length:Int)).toNat,by omega⟩
  obtain⟨v,hv,vk⟩:=fc0 (x/240%1000000) (qs.length:Int) (by omega) (by omega)
  have hl:(qs[k].vals.set j v).length=qs[k].vals.length:=List.length_set
  have npw:Pw qs.length (Pn.put qs[k] (qs[k].vals.set j v)):=Wl0 pw hl fun u hu=>by
   rcases List.mem_or_eq_of_mem_set hu with z|rfl
   ·exact pw.lv u z
   ·exact Vx0 vk
  refine⟨qs.set k (Pn.put qs[k] (qs[k].vals.set j v)),d7 rfl (u9 s1 (u9 s2 (u9 (δ':=[.sh (wd qs),.sh (.int x),.sh (.int (k:Int)),.ow (.lst qs[k].vals),.un]) ?_ (u9 (δ':=[.sh (wd qs),.sh (.int x),.sh (.int (k:Int)),.ow (.lst qs[k].vals),.sh (.int (j:Int))]) (Z3 ?_) (u9 (δ':=[.sh (wd qs),.sh (.int x),.sh (.int (k:Int)),.ow (.lst (qs[k].vals.set j v)),.sh (.int (j:Int))]) ?_ (m8 (Z9 ?_))))))),⟨by rw[List.length_set]; exact hq,fun p hp=>?_⟩,List.length_set⟩
  ·rw[Z7 (t.trans (by rw[decide_eq_false hn]))]; rfl
  ·rw[o5 (x:=.int (x/60)) (y:=.int (qs[k].vals.length:Int)) (by rw[o5 (x:=.int x) (y:=.int 60) rfl rfl]; rfl) rfl,Gw.xx0 _ _ (by omega),hj]
  ·rw[q30 (ds:=qs[k].vals) (j:=j) (v:=v) rfl rfl (by omega) (by
    rw[o7 (ds:=[.int (x/240%1000000),.int (qs.length:Int)]) (cons_of (by
     rw[o5 (x:=.int (x/240)) (y:=.int 1000000) (by rw[o5 (x:=.int x) (y:=.int 240) rfl rfl]; rfl) rfl]; rfl) (cons_of (yi0 qs _ rfl) rfl))]
    exact hv)]
   rfl
  ·show o2 _ _ _ [.sh (wd qs),.sh (.int x),.sh (.int (k:Int)),.sh (.lst (qs[k].vals.set j v)),.sh (.int (j:Int))]=_
   have g1:U6 (gv 0) S7 (someO (gv 2)) [.sh (wd qs),.sh (.int x),.sh (.int (k:Int)),.sh (.lst (qs[k].vals.set j v)),.sh (.int (j:Int))]=some (.tup ((qs.map Pt.d).take k)):=U70 rfl rfl
   have g2:m9 (z9 (oA (z9 (o2 (gv 0) (gv 2) ixD) (z9 (gv 3) v7)) W4) v7) [.sh (wd qs),.sh (.int x),.sh (.int (k:Int)),.sh (.lst (qs[k].vals.set j v)),.sh (.int (j:Int))]=some (.tup [(Pn.put qs[k] (qs[k].vals.set j v)).d]):=V1 (cons_of (by
    rw[o7 (ds:=[qs[k].d,.lst (qs[k].vals.set j v)]) (cons_of (gp _ _) rfl)];exact tp0 _ pw.f _ hl) rfl) (by show 1<=sizeLine; omega)
   have g3:U6 (gv 0) (someO (o2 (gv 2) (gc (.int 1)) b8)) S7 [.sh (wd qs),.sh (.int x),.sh (.int (k:Int)),.sh (.lst (qs[k].vals.set j v)),.sh (.int (j:Int))]=some (.tup ((qs.map Pt.d).drop (k+1))):=Y20 rfl (by rw[o5 (x:=.int (k:Int)) (y:=.int 1) rfl rfl]; rfl)
   have l1:((qs.map Pt.d).take k).length<=60:=by rw[List.length_take,List.length_map]; omega
   have l2:((qs.map Pt.d).drop (k+1)).length<=60:=by rw[List.length_drop,List.length_map]; omega
   rw[o5 (o5 g1 g2 |>.trans (co0 (by rw[List.length_singleton]; omega))) g3,co0 (by rw[List.length_append,List.length_singleton]; omega)]
   have es:(qs.map Pt.d).take k++[(Pn.put qs[k] (qs[k].vals.set j v)).d]++(qs.map Pt.d).drop (k+1)=(qs.set k (Pn.put qs[k] (qs[k].vals.set j v))).map Pt.d:=by
    rw[← nq0,List.set_eq_take_append_cons_drop (l:=qs.map Pt.d),if_pos (by rw[List.length_map]; exact hkl),List.append_assoc]
    rfl
   rw[es];rfl
  ·rw[List.length_set]
   rcases List.mem_or_eq_of_mem_set hp with z|rfl
   ·exact h.pw p z
   ·exact npw
def OT:DL.GB:=(ob (o2 (U3 (oA (z9 (gv 2) v7) j8)) (gc (.int 0)) gtD))
def OI:GS:=(v8 (ifD (ob (Q4 isTup (gv 4)))
 (v8 (X8 (Q5 2 (o2 (gv 4) (gc (.int 1)) ixD)))
 u6)
 u6)
 u6)
def OB:GS:=(v8 (U4 (vk0 2) (gN 3))
 (v8 (ifD (wj0 (ob (o2 (gv 3) (gv 1) (vp0 true))))
 (v8 (X8 (Q5 1 (gv 3)))
 (v8 (M4 (p90 (z9 (oA (z9 (o2 (gv 0) (gv 3) ixD) v7) j6) v7)) (gN 4) OI)
 u6))
 u6)
 u6))
def os(W:D)(o T:List Nat)(s3 s4:Sl):Ds:=[.sh W,.ow (.lst (nd o)),.ow (.lst (nd T)),s3,s4]
theorem i00(W:D)(o T:List Nat)(s3 s4:Sl):OT (os W o T s3 s4)=some (decide (0<T.length)):=by
 have e:U3 (oA (z9 (gv 2) v7) j8) (os W o T s3 s4)=some (.int (T.length:Int)):=by
  show some (D.int ((nd T).length:Int))=_
  rw[R4]
 unfold OT ob;rw[o5 (x:=.int (T.length:Int)) (y:=.int 0) e rfl];show some (decide ((0:Int)<(T.length:Int)))=_
 congr 1
 rw[decide_eq_decide];omega
theorem us0{v:D}(vs:List D)(h:v=.non∨∃z,v=.int z):tgs (v::vs)=tgs vs:=by
 unfold tgs;rw[List.filterMap_cons];rcases h with rfl|⟨z,rfl⟩<;>rfl
theorem nj0{n:Nat}(W:D)(o:List Nat)(s3:Sl):∀(us:List D) (T:List Nat) (s4:Sl),(∀v∈us,Lv n v)->T.length+us.length<=15000->∃s',G8 (gN 4) OI us (os W o T s3 s4)=some (.nx (os W o (T++tgs us) s3 s'))
 | [],T,s4,_,_=>⟨s4,by rw[show tgs []=[] from rfl,List.append_nil]; rfl⟩
 | v::us,T,s4,h,hl=>by
  have zs:(20000:Nat)<=sizeLine:=by decide
  rw[List.length_cons] at hl;unfold G8;have h':∀v∈us,Lv n v:=fun w hw=>h w (List.mem_cons_of_mem _ hw)
  rcases h v List.mem_cons_self with e|⟨z,e⟩|⟨j,e,hj⟩
  ·obtain⟨s',k⟩:=nj0 W o s3 us T (.sh v) h' (by omega)
   refine⟨s',?_⟩
   rw[us0 us (.inl e),← k];subst e;rfl
  ·obtain⟨s',k⟩:=nj0 W o s3 us T (.sh v) h' (by omega)
   refine⟨s',?_⟩
   rw[us0 us (.inr ⟨z,e⟩),← k];subst e;rfl
  ·obtain⟨s',k⟩:=nj0 W o s3 us (T++[j]) (.sh v) h' (by rw[List.length_append,List.length_singleton]; omega)
   refine⟨s',?_⟩
   have eb:OI (os W o T s3 (.sh v))=some (.nx (os W o (T++[j]) s3 (.sh v))):=by
    subst e;refine u9 ?_ rfl
    rw[S8 (by rfl)]
    refine u9 ?_ rfl
    rw[Gw.w70 (l:=nd T) (d:=.int (j:Int)) rfl rfl (by rw[R4]; omega),show nd T++[D.int (j:Int)]=nd (T++[j]) from by rw[wb0]; rfl]
    rfl
   rw[show gN 4 v (os W o T s3 s4)=some (os W o T s3 (.sh v)) from rfl,Option.bind_some,eb]
   dsimp only
   rw[k];subst e;rw[q50,List.append_assoc];rfl
theorem Zn0(vs:List D):tgs vs.reverse=(tgs vs).reverse:=by unfold tgs; rw[List.filterMap_reverse]
end Ta
namespace Ta
open PySem DL W K22
theorem Wf0(a b:Int):Q6 (.int a) (.int b)=some (.bl (decide (a=b))):=by
 unfold Q6;rw[if_pos ⟨by simp[lean],by simp[lean]⟩]
 by_cases h:a=b
 ·simp[deq,h]
 ·simp[deq,h]
end Ta
namespace Ta
open PySem DL W K22 SoT
def zz(p:Nat×Nat):Int×Int:=((p.1:Int),(p.2:Int))
def nn2(q:Int×Int):Nat×Nat:=(q.1.toNat,q.2.toNat)
theorem l40{p q:Nat×Nat}(h:zz p=zz q):p=q:=by
 obtain⟨a,b⟩:=p;obtain⟨c,d⟩:=q;have h1:(a:Int)=(c:Int):=congrArg Prod.fst h;have h2:(b:Int)=(d:Int):=congrArg Prod.snd h;exact Prod.ext (by show a=c; omega) (by show b=d; omega)
theorem ug0{α β:Type}{f:α->β}(hf:∀a b,f a=f b->a=b):∀{l:List α},l.Nodup->(l.map f).Nodup
 | [],_=>List.nodup_nil
 | a::l,h=>by
  rw[List.nodup_cons] at h;rw[List.map_cons,List.nodup_cons];refine⟨fun z=>?_,ug0 hf h.2⟩
  obtain⟨b,hb,e⟩:=List.mem_map.mp z;exact h.1 (hf _ _ e▸hb)
theorem qn0(P:List Nat):∀S:List Nat,(∀k∈S,k<P.length)->W6 (gN 0) noT (m9 (z9 (gv 0) (z9 (o2 (gv 1) (gv 0) ixD) v7))) [.un,.sh (.lst (nd P))] (nd S)=some ((S.map fun k=>(k,P.getD k 0)).map pN):=fun S hS=>by
 rw[S5 (fun d=>match d with|.int k=>pN (k.toNat,P.getD k.toNat 0)|d=>d) (fun d hd=>by
  obtain⟨k,hk,rfl⟩:=List.mem_map.mp hd;refine⟨[.sh (.int (k:Int)),.sh (.lst (nd P))],rfl,rfl,?_⟩
  refine V1 (cons_of rfl (cons_of (d:=.int ((P.getD k 0:Nat):Int)) ?_ rfl)) (by show 2<=sizeLine; decide)
  rw[o5 (x:=.lst (nd P)) (y:=.int (k:Int)) rfl rfl];exact ss0 P (hS k hk))]
 congr 1
 unfold nd;rw[List.map_map,List.map_map];exact List.map_congr_left fun k _=>rfl
theorem nb{g:GE}{δ:Ds}(h:g δ=some (.bl true)):Q7 (ob g) δ=some false:=by unfold Q7 ob; rw[h]; rfl
end Ta
namespace K22
open PySem DL W
theorem ni0{g1 g2:GB}{δ:Ds}(h1:g1 δ=some false)(h2:g2 δ=some false):zv0 g1 g2 δ=some false:=by unfold zv0; rw[h1]; exact h2
end K22
namespace Ua
open PySem DL
def uf0:GS:=(v8 (ifD (Q7 (ob (Q4 b00 (gv 0))))
 (v8 (o9 (gc (.bl false)))
 u6)
 u6)
 (v8 (M4 (R0 (gv 0)) (gN 1)
 (v8 (ifD (zv0 (Q7 (ob (Q4 isTup (gv 1)))) (ob (o2 (oA (z9 (gv 1) v7) j8) (gc (.int 2)) neD)))
 (v8 (o9 (gc (.bl false)))
 u6)
 u6)
 (v8 (M4 (tupI (gv 1)) (gN 2)
 (v8 (ifD (zv0 (Q7 (ob (Q4 isInt (gv 2)))) (ob (Q4 isBool (gv 2))))
 (v8 (o9 (gc (.bl false)))
 u6)
 u6)
 u6))
 u6)))
 (v8 (o9 (gc (.bl true)))
 u6)))
def p10:List Str:=["_law_found", "_law_pair", "_law_number"]
def O1:List D->Option D:=mkF 1 p10 uf0
def re0:GS:=(v8 (o9 (J1 (Q4 isBool (gv 0)) (o2 (gv 0) (gv 1) Q6)))
 u6)
def ko0:List Str:=["_law_found", "_law_due"]
def J9:List D->Option D:=mkF 2 ko0 re0
def xw0:GS:=(v8 (o9 (J1 (zn0 (gc (.int 0)) (o2 (gv 2) (gc (.int 0)) ixD) (oA (z9 (gv 0) v7) j8) leD ltD) (zn0 (gc (.int 0)) (o2 (gv 2) (gc (.int 1)) ixD) (oA (z9 (gv 1) v7) j8) leD ltD)))
 u6)
def ud0:List Str:=["one", "other", "pair"]
def O4:List D->Option D:=mkF 3 ud0 xw0
def w60:GS:=(v8 (o9 (J1 (Q4 isTup (o2 (gv 0) (gc (.int 0)) ixD)) (Q4 isTup (o2 (gv 0) (gc (.int 1)) ixD))))
 u6)
def xv0:List Str:=["both"]
def O3:List D->Option D:=mkF 1 xv0 w60
def O8:GS:=(v8 (ifD (zv0 (ob (o2 (o2 (gv 0) (gc (.int 0)) ixD) (gc (.str "text")) eqD)) (ob (o2 (o2 (gv 0) (gc (.int 0)) ixD) (gc (.str "row")) eqD)))
 (v8 (N7 (X5 v7))
 u6)
 u6)
 (v8 (N7 (Z0 1 [] (tupI (o2 (gv 0) (unG yg0 (gc (.int 1))) ixD)) (gN 0) noT (o2 (gv 0) (gc (.int 0)) ixD)))
 u6))
def K7:List Str:=["part"]
def Y7:List D->Option D:=mkN 1 K7 O8
def ui0:GS:=(v8 (ifD (ob (o2 (o2 (gv 0) (gc (.int 0)) ixD) (gc (.str "text")) eqD))
 (v8 (o9 (m9 (z9 (gc (.str "text")) (z9 (o2 (gv 0) (gc (.int 1)) ixD) v7))))
 u6)
 u6)
 (v8 (ifD (ob (o2 (o2 (gv 0) (gc (.int 0)) ixD) (gc (.str "row")) eqD))
 (v8 (o9 (m9 (z9 (gc (.str "row")) (z9 (oA (z9 (o2 (gv 0) (gc (.int 1)) ixD) v7) j8) v7))))
 u6)
 u6)
 (v8 (ifD (ob (o2 (o2 (gv 0) (gc (.int 0)) ixD) (gc (.str "table")) eqD))
 (v8 (o9 (m9 (z9 (gc (.str "table")) (z9 (oA (z9 (oA (z9 (gv 0) v7) Y7) v7) W8) v7))))
 u6)
 u6)
 (v8 (o9 (m9 (z9 (gc (.str "record")) (z9 (o2 (gv 0) (gc (.int 1)) ixD) (z9 (oA (z9 (oA (z9 (gv 0) v7) Y7) v7) W8) v7)))))
 u6))))
def tl0:List Str:=["part"]
def M7:List D->Option D:=mkF 1 tl0 ui0
def yp0:GS:=(v8 (o9 (m9 (z9 (o2 (o2 (gv 0) (gc (.int 0)) ixD) (gc (.int 1)) ixD) (z9 (o2 (o2 (gv 0) (gc (.int 1)) ixD) (gc (.int 1)) ixD) v7))))
 u6)
def wh0:List Str:=["both"]
def U5:List D->Option D:=mkF 1 wh0 yp0
def y50:GS:=(v8 (ifD (ob (o2 (o2 (gv 0) (gc (.int 0)) ixD) (gc (.str "text")) eqD))
 (v8 (N7 (X5 v7))
 u6)
 u6)
 (v8 (ifD (ob (o2 (o2 (gv 0) (gc (.int 0)) ixD) (gc (.str "row")) eqD))
 (v8 (N7 (oA (z9 (o2 (gv 0) (gc (.int 1)) ixD) v7) yk0))
 u6)
 u6)
 (v8 (N7 (Z0 1 [] (tupI (o2 (gv 0) (unG yg0 (gc (.int 1))) ixD)) (gN 0) noT (o2 (gv 0) (gc (.int 1)) ixD)))
 u6)))
def yq0:List Str:=["part"]
def m_values:List D->Option D:=mkN 1 yq0 y50
def xz0:GS:=(v8 (ifD (ob (o2 (oA (z9 (o2 (gv 0) (o2 (gv 2) (gc (.int 0)) ixD) ixD) v7) M7) (oA (z9 (o2 (gv 1) (o2 (gv 2) (gc (.int 1)) ixD) ixD) v7) M7) y60))
 (v8 (o9 (gc (.bl false)))
 u6)
 u6)
 (v8 (M4 (vg0 (z9 (oA (z9 (o2 (gv 0) (o2 (gv 2) (gc (.int 0)) ixD) ixD) v7) m_values) (z9 (oA (z9 (o2 (gv 1) (o2 (gv 2) (gc (.int 1)) ixD) ixD) v7) m_values) v7))) (gN 4)
 (v8 (ifD (ob (oA (z9 (gv 4) v7) O3))
 (v8 (ifD (ob (o2 (oA (z9 (gv 4) v7) U5) (gv 3) (y00 true)))
 (v8 (o9 (gc (.bl false)))
 u6)
 u6)
 u6)
 (v8 (ifD (ob (o2 (o2 (gv 4) (gc (.int 0)) ixD) (o2 (gv 4) (gc (.int 1)) ixD) y60))
 (v8 (o9 (gc (.bl false)))
 u6)
 u6)
 u6))
 u6))
 (v8 (o9 (gc (.bl true)))
 u6)))
def ua0:List Str:=["one", "other", "pair", "listed", "both"]
def O5:List D->Option D:=mkF 4 ua0 xz0
def yx0:GS:=(v8 (n8 (gN 3) (oA (z9 (Z0 1 [] (R0 (gv 2)) (gN 0) noT (m9 (z9 (gv 0) (z9 (gc (.bl true)) v7)))) v7) qe0))
 (v8 (o9 (oA (z9 (Z0 1 [0,1,3] (R0 (gv 2)) (gN 0) noT (J1 (oA (z9 (gv 1) (z9 (gv 2) (z9 (gv 0) v7))) O4) (oA (z9 (gv 1) (z9 (gv 2) (z9 (gv 0) (z9 (gv 3) v7)))) O5))) v7) ih0))
 u6))
def vn0:List Str:=["one", "other", "pairs", "listed"]
def R7:List D->Option D:=mkF 3 vn0 yx0
def yu0:GS:=(v8 (n8 (gN 1) (Z0 1 [] (R0 (gv 0)) (gN 0) noT (o2 (gv 0) (gc (.int 0)) ixD)))
 (v8 (n8 (gN 2) (Z0 1 [] (R0 (gv 0)) (gN 0) noT (o2 (gv 0) (gc (.int 1)) ixD)))
 (v8 (o9 (J1 (o2 (oA (z9 (gv 1) v7) y90) (oA (z9 (gv 0) v7) j8) eqD) (o2 (oA (z9 (gv 2) v7) y90) (oA (z9 (gv 0) v7) j8) eqD)))
 u6)))
def v40:List Str:=["pairs", "mine", "yours"]
def R9:List D->Option D:=mkF 1 v40 yu0
def xg0:GS:=(v8 (ifD (zv0 (ob (o2 (m9 (z9 (gc (.int 0)) (z9 (gc (.int 0)) v7))) (gv 2) (tz0 true))) (Q7 (ob (oA (z9 (gv 2) v7) R9))))
 (v8 (o9 (gc (.bl false)))
 u6)
 u6)
 (v8 (o9 (oA (z9 (gv 0) (z9 (gv 1) (z9 (gv 2) v7))) R7))
 u6))
def vc0:List Str:=["one", "other", "pairs"]
def U0:List D->Option D:=mkF 3 vc0 xg0
def sx0:GS:=(v8 (N7 (Z0 1 [] (R0 (oA (z9 (gv 0) v7) m_values)) (gN 0) (ob (Q4 isTup (gv 0))) (o2 (gv 0) (gc (.int 1)) ixD)))
 u6)
def pb0:List Str:=["part"]
def G9:List D->Option D:=mkN 1 pb0 sx0
def u00:GS:=(v8 (V4 3 (X5 v7))
 (v8 (V4 4 (oA (z9 (gv 2) v7) v10))
 (v8 (V4 5 (X5 (z9 (gv 1) v7)))
 (v8 (T9 (ob (o2 (U3 (oA (z9 (gv 5) v7) j8)) (gc (.int 0)) gtD))
 (v8 (U4 (vk0 5) (gN 6))
 (v8 (ifD (wj0 (ob (o2 (gv 6) (gv 4) (y00 true))))
 (v8 (U4 (R5 (gc (.bl true))) (putAt 4 (gv 6)))
 (v8 (X8 (Q5 3 (gv 6)))
 (v8 (X8 (rq0 5 (oA (z9 (oA (z9 (o2 (gv 0) (gv 6) ixD) v7) G9) v7) ro0)))
 u6)))
 u6)
 u6)) 100000)
 (v8 (uc0 3)
 u6)))))
def to0:List Str:=["web", "k", "left", "order", "seen", "waiting", "part"]
def y40:List D->Option D:=mkN 3 to0 u00
def bc0:GS:=(v8 (N7 (oA (z9 (gv 0) (z9 (gv 1) (z9 (gc (.dct (.inl []) [])) v7))) y40))
 u6)
def Vr0:List Str:=["web", "k"]
def zb0:List D->Option D:=mkN 2 Vr0 bc0
def J2:GS:=(v8 (ifD (ob (o2 (o2 (gv 0) (gc (.int 0)) ixD) (gc (.str "text")) eqD))
 (v8 (o9 (gv 0))
 u6)
 u6)
 (v8 (ifD (ob (o2 (o2 (gv 0) (gc (.int 0)) ixD) (gc (.str "row")) eqD))
 (v8 (o9 (m9 (z9 (gc (.str "row")) (z9 (oA (z9 (gv 1) v7) W8) v7))))
 u6)
 u6)
 (v8 (n8 (gN 2) (oA (z9 (oA (z9 (gv 0) v7) Y7) (z9 (gv 1) v7)) so0))
 (v8 (ifD (ob (o2 (o2 (gv 0) (gc (.int 0)) ixD) (gc (.str "table")) eqD))
 (v8 (o9 (m9 (z9 (gc (.str "table")) (z9 (gv 2) v7))))
 u6)
 u6)
 (v8 (o9 (m9 (z9 (gc (.str "record")) (z9 (o2 (gv 0) (gc (.int 1)) ixD) (z9 (gv 2) v7)))))
 u6)))))
def zh0:List Str:=["part", "some", "pairs"]
def V6:List D->Option D:=mkF 2 zh0 J2
def wt0:GS:=(v8 (n8 (gN 2) (Z0 1 [1] (R0 (oA (z9 (gv 0) v7) m_values)) (gN 0) noT (ifG (ob (Q4 isTup (gv 0))) (m9 (z9 (gc (.str "at")) (z9 (o2 (gv 1) (o2 (gv 0) (gc (.int 1)) ixD) xt0) v7))) (gv 0))))
 (v8 (o9 (oA (z9 (gv 0) (z9 (gv 2) v7)) V6))
 u6))
def td0:List Str:=["part", "numbers", "some"]
def z90:List D->Option D:=mkF 2 td0 wt0
def jl0:GS:=(v8 (n8 (gN 2) (m90 (oA (z9 (gv 0) (z9 (gv 1) v7)) zb0)))
 (v8 (V4 3 (gc (.dct (.inl []) [])))
 (v8 (M4 (sz0 (z9 (gv 2) v7)) (ze0 4 5)
 (v8 (U4 (R5 (gv 4)) (putAt 3 (gv 5)))
 u6))
 (v8 (o9 (ub0 (oA (z9 (Z0 1 [0,3] (R0 (gv 2)) (gN 0) noT (oA (z9 (o2 (gv 1) (gv 0) ixD) (z9 (gv 2) v7)) z90)) v7) W8)))
 u6))))
def bi0:List Str:=["web", "k", "order", "numbers", "number", "part"]
def xn0:List D->Option D:=mkF 2 bi0 jl0
def fg0:GS:=(v8 (o9 (o2 (oA (z9 (gv 0) v7) fun ds=>xn0 (ds++[(.int 0)])) (oA (z9 (gv 1) v7) fun ds=>xn0 (ds++[(.int 0)])) Q6))
 u6)
def Yf0:List Str:=["one", "other"]
def zm0:List D->Option D:=mkF 2 Yf0 fg0
def pz0:GS:=(v8 (ifD (Q7 (ob (oA (z9 (gv 0) (z9 (gv 1) v7)) zm0)))
 (v8 (o9 (gc .non))
 u6)
 u6)
 (v8 (o9 (oA (z9 (oA (z9 (gv 0) v7) fun ds=>zb0 (ds++[(.int 0)])) (z9 (oA (z9 (gv 1) v7) fun ds=>zb0 (ds++[(.int 0)])) v7)) uj0))
 u6))
def gt0:List Str:=["one", "other"]
def y70:List D->Option D:=mkF 2 gt0 pz0
def vt0:GS:=(v8 (ifD (Q7 (ob (oA (z9 (gv 0) (z9 (gv 1) v7)) zm0)))
 (v8 (o9 (gc .non))
 u6)
 u6)
 (v8 (N7 (oA (z9 (oA (z9 (gv 0) v7) fun ds=>zb0 (ds++[(.int 0)])) (z9 (oA (z9 (gv 1) v7) fun ds=>zb0 (ds++[(.int 0)])) v7)) uj0))
 u6))
def s80:List Str:=["one", "other"]
def R3:List D->Option D:=mkN 2 s80 vt0
def s70:GS:=(v8 (orS (V4 3 (oA (z9 (gv 0) (z9 (gv 1) v7)) R3)) (n8 (gN 3) (oA (z9 (gv 0) (z9 (gv 1) v7)) y70)))
 (v8 (ifD (Q7 (ob (oA (z9 (oA (z9 (gv 0) (z9 (gv 1) v7)) zm0) (z9 (o2 (gv 2) (gc .non) nc0) v7)) J9)))
 (v8 (o9 (gc (.bl false)))
 u6)
 u6)
 (v8 (ifD (ob (o2 (gv 2) (gc .non) ey0))
 (v8 (o9 (ub0 (o2 (gv 3) (gc .non) ey0)))
 u6)
 u6)
 (v8 (ifD (zv0 (Q7 (ob (k50 (oA (z9 (gv 3) v7) O1)))) (zv0 (wj0 (ob (o2 (gv 3) (gv 2) y60))) (Q7 (ob (U3 (oA (z9 (oA (z9 (gv 0) (z9 (gv 1) (z9 (oA (z9 (gv 3) v7) yk0) v7))) U0) (z9 (gc (.bl true)) v7)) J9))))))
 (v8 (o9 (gc (.bl false)))
 u6)
 u6)
 (v8 (X8 (lx0 3))
 (v8 (o9 (o2 (oA (z9 (gv 0) (z9 (gv 1) v7)) y70) (gv 2) Q6))
 u6))))))
def lb0:List Str:=["_law_one", "_law_other", "_law_due", "_law_found"]
def O7:List D->Option D:=mkF 3 lb0 s70
def yd0:GS:=(v8 (ifD (ob (o2 (gv 1) (oA (z9 (gv 0) v7) j8) ltD))
 (v8 (o9 (o2 (gv 0) (gv 1) ixD))
 u6)
 u6)
 (v8 (o9 (gc (.int 0)))
 u6))
def xj0:List Str:=["_law_script", "_law_k"]
def Z6:List D->Option D:=mkF 2 xj0 yd0
def K4:GS:=(v8 (ifD (ob (o2 (o2 (gv 0) (gc (.int 0)) ixD) (gc (.str "text")) eqD))
 (v8 (N7 (X5 v7))
 u6)
 u6)
 (v8 (ifD (ob (o2 (o2 (gv 0) (gc (.int 0)) ixD) (gc (.str "row")) eqD))
 (v8 (N7 (oA (z9 (o2 (gv 0) (gc (.int 1)) ixD) v7) yk0))
 u6)
 u6)
 (v8 (N7 (Z0 2 [] (tupI (o2 (gv 0) (unG yg0 (gc (.int 1))) ixD)) (ze0 0 1) noT (gv 1)))
 u6)))
def G5:List Str:=["_law_part_here"]
def j6:List D->Option D:=mkN 1 G5 K4
def z30:GS:=(v8 (n8 (gN 2) (o2 (gv 0) (gc (.int 10)) j5))
 (v8 (ifD (ob (o2 (gv 2) (gc (.int 6)) ltD))
 (v8 (o9 (m9 (z9 (gc (.str "at")) (z9 (o2 (o2 (gv 0) (gc (.int 10)) b7) (gv 1) j5) v7))))
 u6)
 u6)
 (v8 (ifD (ob (o2 (gv 2) (gc (.int 6)) eqD))
 (v8 (o9 (gc .non))
 u6)
 u6)
 (v8 (ifD (ob (o2 (gv 2) (gc (.int 9)) ltD))
 (v8 (o9 (o2 (o2 (o2 (gv 0) (gc (.int 10)) b7) (gc (.int 3)) j5) (gc (.int 1)) m00))
 u6)
 u6)
 (v8 (o9 (o2 (o2 (o2 (o2 (gv 0) (gc (.int 10)) b7) (gc (.int 7)) rm0) (o2 (gc (.int 10)) (gc (.int 60)) rm0) j5) (o2 (gc (.int 1)) (o2 (gc (.int 2)) (o2 (o2 (gv 0) (gc (.int 20)) b7) (gc (.int 2)) j5) S9) m00) S9))
 u6)))))
def y80:List Str:=["_law_number", "_law_many", "_law_kind"]
def W2:List D->Option D:=mkF 2 y80 z30
def zp0:GS:=(v8 (ifD (ob (o2 (o2 (gv 0) (gc (.int 0)) ixD) (gc (.str "text")) eqD))
 (v8 (o9 (gv 0))
 u6)
 u6)
 (v8 (ifD (ob (o2 (o2 (gv 0) (gc (.int 0)) ixD) (gc (.str "row")) eqD))
 (v8 (o9 (m9 (z9 (gc (.str "row")) (z9 (oA (z9 (gv 1) v7) W8) v7))))
 u6)
 u6)
 (v8 (o9 (o2 (U6 (gv 0) S7 (someO (unG yg0 (gc (.int 1))))) (m9 (z9 (oA (z9 (Z0 1 [0,1] (Q8 (z9 (oA (z9 (gv 1) v7) j8) v7)) (gN 0) noT (m9 (z9 (o2 (o2 (o2 (gv 1) (unG yg0 (gc (.int 1))) ixD) (gv 0) ixD) (gc (.int 0)) ixD) (z9 (o2 (gv 2) (gv 0) ixD) v7)))) v7) W8) v7)) b8))
 u6)))
def yh0:List Str:=["_law_part_here", "_law_some"]
def W4:List D->Option D:=mkF 2 yh0 zp0
def yf0:GS:=(v8 (n8 (gN 2) (o2 (gv 1) (oA (z9 (gv 0) v7) j8) j5))
 (v8 (V4 3 (oA (z9 (o2 (gv 0) (gv 2) ixD) v7) j6))
 (v8 (ifD (wj0 (ob (o2 (gv 3) (X5 v7) Q6)))
 (v8 (o9 (gv 0))
 u6)
 u6)
 (v8 (n8 (gN 4) (o2 (o2 (gv 1) (gc (.int 60)) b7) (U3 (oA (z9 (gv 3) v7) j8)) j5))
 (v8 (U4 (R5 (oA (z9 (o2 (o2 (gv 1) (gc (.int 240)) b7) (gc (.int 1000000)) j5) (z9 (oA (z9 (gv 0) v7) j8) v7)) W2)) (setAt 3 (gv 4)))
 (v8 (o9 (ub0 (o2 (o2 (U6 (gv 0) S7 (someO (gv 2))) (m9 (z9 (oA (z9 (o2 (gv 0) (gv 2) ixD) (z9 (gv 3) v7)) W4) v7)) b8) (U6 (gv 0) (someO (o2 (gv 2) (gc (.int 1)) b8)) S7) b8)))
 u6))))))
def xr0:List Str:=["_law_web_here", "_law_cell", "_law_k", "_law_some", "_law_at"]
def T6:List D->Option D:=mkF 2 xr0 yf0
def xu0:GS:=(v8 (n8 (gN 2) (gc (.str "abcdefghijklmnopqrstuvwxyz0123456789")))
 (v8 (n8 (gN 3) (o2 (gc (.int 1)) (o2 (gv 0) (gc (.int 8)) j5) b8))
 (v8 (n8 (gN 0) (o2 (gv 0) (gc (.int 8)) b7))
 (v8 (V4 4 (X5 v7))
 (v8 (M4 (Q8 (z9 (gv 3) v7)) (gN 5)
 (v8 (X8 (Q5 4 (o2 (gv 0) (gc (.int 36)) j5)))
 (v8 (n8 (gN 0) (o2 (gv 0) (gc (.int 36)) b7))
 u6)))
 (v8 (n8 (gN 6) (U3 (te0 (gc (.str "")) (z9 (Z0 1 [2] (R0 (gv 4)) (gN 0) noT (o2 (gv 1) (gv 0) ixD)) v7))))
 (v8 (ifD (ob (o2 (o2 (o2 (gv 1) (gc (.int 8)) b7) (gc (.int 3)) j5) (gc (.int 1)) eqD))
 (v8 (N7 (Z0 1 [6] (nk0 (z9 (gc (.int 1)) (z9 (gc (.int 9)) v7))) (gN 0) noT (U6 (o2 (gc (.int 8)) (gv 1) ri0) S7 (someO (gv 0)))))
 u6)
 u6)
 (v8 (n8 (gN 7) (o2 (gv 1) (gv 3) j5))
 (v8 (V4 8 (X5 v7))
 (v8 (M4 (Q8 (z9 (gc (.int 8)) v7)) (gN 5)
 (v8 (n8 (gN 9) (o2 (gv 2) (o2 (o2 (U3 (o2 (gv 4) (gv 7) ixD)) (o2 (gc (.int 4)) (gv 5) S9) b8) (gc (.int 36)) j5) ixD))
 (v8 (X8 (Q5 8 (o2 (o2 (U6 (gv 6) S7 (someO (gv 7))) (gv 9) b8) (U6 (gv 6) (someO (o2 (gv 7) (gc (.int 1)) b8)) S7) b8)))
 u6)))
 (v8 (uc0 8)
 u6)))))))))))
def u90:List Str:=["_law_cell", "_law_turn", "_law_signs", "_law_size", "_law_places_here", "_law_k", "_law_word", "_law_at", "_law_found", "_law_sign"]
def G3:List D->Option D:=mkN 2 u90 xu0
def wo0:GS:=(v8 (o9 (o2 (o2 (o2 (o2 (gv 0) (gc (.int 2147483647)) j5) (gc (.int 1)) b8) (o2 (gc (.int 48271)) (o2 (gc (.int 7)) (gv 1) S9) b8) S9) (gc (.int 2147483647)) j5))
 u6)
def tc0:List Str:=["_law_cell", "_law_k"]
def V7:List D->Option D:=mkF 2 tc0 wo0
def w40:GS:=(v8 (n8 (gN 3) (o2 (gv 0) (gc (.int 8)) j5))
 (v8 (ifD (ob (o2 (gv 3) (gc (.int 0)) eqD))
 (v8 (o9 (m9 (z9 (gc (.str "text")) (z9 (o2 (X5 (z9 (gc (.str "")) (z9 (gc (.str "a")) (z9 (gc (.str " a")) (z9 (o2 (o2 (gv 2) (gc (.int 0)) ixD) (gc (.str " 0")) b8) v7))))) (o2 (o2 (gv 0) (gc (.int 16)) b7) (gc (.int 4)) j5) ixD) v7))))
 u6)
 u6)
 (v8 (ifD (ob (o2 (gv 3) (gc (.int 4)) ltD))
 (v8 (o9 (m9 (z9 (gc (.str "row")) (z9 (oA (z9 (gv 1) v7) W8) v7))))
 u6)
 u6)
 (v8 (n8 (gN 4) (o2 (o2 (o2 (gv 0) (gc (.int 8)) b7) (gc (.int 2)) j5) (gc (.int 3)) S9))
 (v8 (n8 (gN 5) (oA (z9 (Z0 1 [1,2,4] (Q8 (z9 (oA (z9 (gv 1) v7) j8) v7)) (gN 0) noT (m9 (z9 (o2 (gv 2) (o2 (o2 (gv 3) (gv 0) b8) (gc (.int 8)) j5) ixD) (z9 (o2 (gv 1) (gv 0) ixD) v7)))) v7) W8))
 (v8 (ifD (ob (o2 (gv 3) (gc (.int 6)) ltD))
 (v8 (o9 (m9 (z9 (gc (.str "table")) (z9 (gv 5) v7))))
 u6)
 u6)
 (v8 (o9 (m9 (z9 (gc (.str "record")) (z9 (o2 (gv 2) (o2 (o2 (gv 0) (gc (.int 16)) b7) (gc (.int 2)) j5) ixD) (z9 (gv 5) v7)))))
 u6)))))))
def u70:List Str:=["_law_number", "_law_some", "_law_pool_here", "_law_kind", "_law_start", "_law_pairs"]
def K3:List D->Option D:=mkF 3 u70 w40
def yn0:GS:=(v8 (V4 3 (X5 v7))
 (v8 (M4 (Q8 (z9 (gv 1) v7)) (gN 4)
 (v8 (n8 (gN 0) (o2 (o2 (gv 0) (gc (.int 48271)) S9) (gc (.int 2147483647)) j5))
 (v8 (X8 (Q5 3 (oA (z9 (gv 0) (z9 (gv 2) v7)) W2)))
 u6)))
 (v8 (uc0 3)
 u6)))
def wl0:List Str:=["_law_number", "_law_count", "_law_many", "_law_found", "_law_k"]
def Q3:List D->Option D:=mkN 3 wl0 yn0
def wr0:GS:=(v8 (V4 3 (X5 v7))
 (v8 (M4 (Q8 (z9 (gv 1) v7)) (gN 4)
 (v8 (n8 (gN 5) (oA (z9 (o2 (o2 (gv 0) (o2 (gv 4) (oA (z9 (gv 0) v7) j8) j5) ixD) (o2 (gv 4) (o2 (gv 4) (oA (z9 (gv 0) v7) j8) b7) S9) b8) (z9 (gv 4) v7)) V7))
 (v8 (n8 (gN 6) (o2 (X5 (z9 (gc (.int 0)) (z9 (gc (.int 1)) (z9 (gc (.int 2)) (z9 (gc (.int 2)) (z9 (gc (.int 3)) (z9 (gc (.int 2)) (z9 (gc (.int 3)) (z9 (gc (.int 1)) v7))))))))) (o2 (o2 (gv 5) (gc (.int 32)) b7) (gc (.int 8)) j5) ixD))
 (v8 (ifD (ob (o2 (o2 (o2 (gv 5) (gc (.int 256)) b7) (gc (.int 16)) j5) (gc (.int 3)) eqD))
 (v8 (n8 (gN 6) (o2 (X5 (z9 (gc (.int 8)) (z9 (gc (.int 12)) v7))) (oA (z9 (o2 (o2 (gv 5) (gc (.int 8)) j5) (gc (.int 4)) ltD) v7) intOfD) ixD))
 u6)
 u6)
 (v8 (n8 (gN 7) (oA (z9 (o2 (o2 (gv 5) (gc (.int 8)) b7) (gc (.int 1)) b8) (z9 (gv 6) (z9 (gv 1) v7))) Q3))
 (v8 (X8 (Q5 3 (oA (z9 (gv 5) (z9 (gv 7) (z9 (gv 2) v7))) K3)))
 u6))))))
 (v8 (o9 (ub0 (oA (z9 (gv 3) v7) W8)))
 u6)))
def t40:List Str:=["_law_cells", "_law_many", "_law_pool_here", "_law_parts", "_law_k", "_law_number", "_law_count", "_law_some"]
def zd0:List D->Option D:=mkF 3 t40 wr0
def vo0:GS:=(v8 (n8 (gN 2) (oA (z9 (oA (z9 (gv 0) (z9 (gc (.int 0)) v7)) Z6) (z9 (oA (z9 (gv 0) (z9 (gc (.int 1)) v7)) Z6) v7)) G3))
 (v8 (n8 (gN 3) (oA (z9 (gv 0) (z9 (gc (.int 2)) v7)) Z6))
 (v8 (n8 (gN 4) (o2 (gc (.int 1)) (o2 (gv 3) (o2 (X5 (z9 (gc (.int 12)) (z9 (gc (.int 12)) (z9 (gv 1) (z9 (gc (.int 4)) v7))))) (o2 (o2 (gv 3) (gc (.int 60)) b7) (gc (.int 4)) j5) ixD) j5) b8))
 (v8 (o9 (oA (z9 (o2 (U6 (gv 0) (someO (gc (.int 9))) (someO (gc (.int 60)))) (X5 (z9 (oA (z9 (gv 0) (z9 (gc (.int 3)) v7)) Z6) v7)) b8) (z9 (gv 4) (z9 (gv 2) v7))) zd0))
 u6))))
def rr0:List Str:=["_law_script", "_law_most", "_law_pool_here", "_law_turn", "_law_many"]
def J0:List D->Option D:=mkF 2 rr0 vo0
def qa0:GS:=(v8 (V4 2 (X5 v7))
 (v8 (M4 (R0 (oA (z9 (gv 0) v7) j6)) (gN 3)
 (v8 (ifD (ob (Q4 isTup (gv 3)))
 (v8 (n8 (gN 3) (m9 (z9 (gc (.str "at")) (z9 (orE (o2 (gv 1) (o2 (gv 3) (gc (.int 1)) ixD) ixD) (o2 (gv 1) (o2 (gv 3) (gc (.int 1)) ixD) xt0)) v7))))
 u6)
 u6)
 (v8 (X8 (Q5 2 (gv 3)))
 u6)))
 (v8 (o9 (ub0 (oA (z9 (gv 0) (z9 (gv 2) v7)) W4)))
 u6)))
def i50:List Str:=["_law_part_here", "_law_numbers", "_law_some", "_law_value_here"]
def K1:List D->Option D:=mkF 2 i50 qa0
def tq0:GS:=(v8 (V4 1 (X5 v7))
 (v8 (V4 2 (X5 (z9 (gc (.int 0)) v7)))
 (v8 (T9 (ob (o2 (U3 (oA (z9 (gv 2) v7) j8)) (gc (.int 0)) gtD))
 (v8 (U4 (vk0 2) (gN 3))
 (v8 (ifD (wj0 (ob (o2 (gv 3) (gv 1) (vp0 true))))
 (v8 (X8 (Q5 1 (gv 3)))
 (v8 (M4 (p90 (z9 (oA (z9 (o2 (gv 0) (gv 3) ixD) v7) j6) v7)) (gN 4)
 (v8 (ifD (ob (Q4 isTup (gv 4)))
 (v8 (X8 (Q5 2 (o2 (gv 4) (gc (.int 1)) ixD)))
 u6)
 u6)
 u6))
 u6))
 u6)
 u6)) 100000)
 (v8 (uc0 1)
 u6))))
def k70:List Str:=["_law_web_here", "_law_found", "_law_waiting", "_law_k", "_law_value_here"]
def W3:List D->Option D:=mkN 1 k70 tq0
def vi0:GS:=(v8 (n8 (gN 1) (oA (z9 (gv 0) v7) W3))
 (v8 (V4 2 (gc (.dct (.inl []) [])))
 (v8 (M4 (R0 (gv 1)) (gN 3)
 (v8 (U4 (R5 (U3 (oA (z9 (gv 2) v7) na0))) (putAt 2 (gv 3)))
 u6))
 (v8 (o9 (ub0 (oA (z9 (Z0 1 [0,2] (R0 (gv 1)) (gN 0) noT (oA (z9 (o2 (gv 1) (gv 0) ixD) (z9 (gv 2) v7)) K1)) v7) W8)))
 u6))))
def rw0:List Str:=["_law_web_here", "_law_order_here", "_law_numbers", "_law_k"]
def X7:List D->Option D:=mkF 1 rw0 vi0
def th0:GS:=(v8 (V4 2 (oA (z9 (gc (.int 1)) (z9 (gv 1) v7)) q60))
 (v8 (V4 3 (X5 (z9 (gc (.int 0)) v7)))
 (v8 (T9 (ob (o2 (U3 (oA (z9 (gv 2) v7) j8)) (gc (.int 0)) gtD))
 (v8 (X8 (q70 3 (ur0 2 (o2 (gv 0) (U3 (oA (z9 (gv 2) v7) j8)) j5))))
 (v8 (n8 (gN 0) (o2 (o2 (gv 0) (gc (.int 3)) b7) (o2 (gc (.int 12345)) (U3 (oA (z9 (gv 2) v7) j8)) S9) b8))
 u6)) 100000)
 (v8 (uc0 3)
 u6))))
def oy0:List Str:=["_law_cell", "_law_many", "_law_left", "_law_found"]
def zi0:List D->Option D:=mkN 2 oy0 th0
def wn0:GS:=(v8 (n8 (gN 3) (oA (z9 (gv 1) (z9 (o2 (oA (z9 (gv 0) v7) j8) (gv 2) b8) v7)) zi0))
 (v8 (V4 4 (o2 (X5 (z9 (m9 (z9 (gc (.str "text")) (z9 (gc (.str "b")) v7))) v7)) (o2 (oA (z9 (gv 0) v7) j8) (gv 2) b8) mulL))
 (v8 (M4 (Q8 (z9 (oA (z9 (gv 0) v7) j8) v7)) (gN 5)
 (v8 (U4 (R5 (oA (z9 (o2 (gv 0) (gv 5) ixD) (z9 (gv 3) v7)) K1)) (setAt 4 (o2 (gv 3) (gv 5) ixD)))
 u6))
 (v8 (M4 (Q8 (z9 (gv 2) v7)) (gN 5)
 (v8 (U4 (R5 (m9 (z9 (gc (.str "row")) (z9 (m9 (z9 (m9 (z9 (gc (.str "at")) (z9 (o2 (o2 (gv 1) (o2 (gv 5) (gc (.int 2)) b8) b7) (U3 (oA (z9 (gv 4) v7) j8)) j5) v7))) (z9 (gc .non) (z9 (m9 (z9 (gc (.str "at")) (z9 (gc (.int 0)) v7))) v7)))) v7)))) (setAt 4 (o2 (gv 3) (o2 (oA (z9 (gv 0) v7) j8) (gv 5) b8) ixD)))
 u6))
 (v8 (o9 (ub0 (m9 (z9 (oA (z9 (gv 4) v7) W8) (z9 (U6 (gv 3) S7 (someO (oA (z9 (gv 0) v7) j8))) v7)))))
 u6)))))
def ra0:List Str:=["_law_web_here", "_law_cell", "_law_more", "_law_places_here", "_law_parts", "_law_k"]
def M6:List D->Option D:=mkF 3 ra0 wn0
def b60:GS:=(v8 (n8 (gN 1) (oA (z9 (gv 0) (z9 (gc (.int 50)) v7)) J0))
 (v8 (n8 (gN 2) (oA (z9 (gv 0) (z9 (gc (.int 4)) v7)) Z6))
 (v8 (U4 (R5 (oA (z9 (gv 1) (z9 (oA (z9 (oA (z9 (gv 0) (z9 (gc (.int 5)) v7)) Z6) (z9 (gc (.int 21)) v7)) V7) (z9 (o2 (gv 2) (gc (.int 6)) j5) v7))) M6)) (ze0 3 4))
 (v8 (n8 (gN 5) (oA (z9 (Z0 1 [4] (R0 (oA (z9 (gv 1) v7) W3)) (gN 0) noT (m9 (z9 (gv 0) (z9 (o2 (gv 1) (gv 0) ixD) v7)))) v7) zj0))
 (v8 (ifD (ob (o2 (o2 (o2 (gv 2) (gc (.int 6)) b7) (gc (.int 3)) j5) (gc (.int 1)) Q6))
 (v8 (n8 (gN 3) (oA (z9 (gv 3) (z9 (oA (z9 (oA (z9 (gv 0) (z9 (gc (.int 6)) v7)) Z6) (z9 (gc (.int 9)) v7)) V7) v7)) T6))
 (v8 (n8 (gN 5) (gc .non))
 (v8 (ifD (ob (o2 (oA (z9 (gv 3) v7) X7) (oA (z9 (gv 1) v7) X7) Q6))
 (v8 (n8 (gN 5) (oA (z9 (Z0 2 [] (vg0 (z9 (oA (z9 (gv 1) v7) W3) (z9 (oA (z9 (gv 3) v7) W3) v7))) (ze0 0 1) noT (m9 (z9 (gv 0) (z9 (gv 1) v7)))) v7) zj0))
 u6)
 u6)
 u6)))
 u6)
 (v8 (n8 (gN 6) (gv 5))
 (v8 (ifD (ob (o2 (gv 5) (gc .non) nc0))
 (v8 (n8 (gN 6) (oA (z9 (Z0 2 [] (R0 (gv 5)) (ze0 0 1) noT (m9 (z9 (gv 1) (z9 (gv 0) v7)))) v7) zj0))
 u6)
 u6)
 (v8 (ifD (zv0 (Q7 (ob (oA (z9 (gv 1) (z9 (gv 3) (z9 (gv 5) v7))) O7))) (Q7 (ob (oA (z9 (gv 3) (z9 (gv 1) (z9 (gv 6) v7))) O7))))
 (v8 (o9 (gc (.bl false)))
 u6)
 u6)
 (v8 (n8 (gN 7) (oA (z9 (Z0 1 [] (R0 (oA (z9 (gv 1) v7) W3)) (gN 0) noT (m9 (z9 (gv 0) (z9 (gv 0) v7)))) v7) zj0))
 (v8 (n8 (gN 8) (oA (z9 (Z0 2 [] (sz0 (z9 (oA (z9 (gv 1) v7) W3) v7)) (ze0 0 1) noT (m9 (z9 (gv 1) (z9 (gv 0) v7)))) v7) zj0))
 (v8 (o9 (J1 (oA (z9 (gv 1) (z9 (gv 1) (z9 (gv 7) v7))) O7) (oA (z9 (gv 1) (z9 (oA (z9 (gv 1) v7) X7) (z9 (gv 8) v7))) O7)))
 u6)))))))))))
def Vh0:List Str:=["_law_script", "_law_web_here", "_law_turn", "_law_other", "_law_places_here", "_law_due", "_law_back", "_law_own", "_law_there"]
def sv0:List D->Option D:=mkF 1 Vh0 b60
end Ua
namespace Ua
open PySem DL W K22
open Ta (pa J7)
def dr(ps:List Pt)(r:List Nat):List Pt:=r.map fun k=>rel (fun j=>r.idxOf j) (pa ps k)
structure Met(ps:List Pt)(r:List Nat):Prop where
 ex:∃c,Dfs (zr0 (wd ps)) [] c [] [0] r/\c<=5000
 nd:r.Nodup
 lt:∀y∈r,y<ps.length
 cl:∀i∈r,∀j∈zr0 (wd ps) i,j∈r
 hd:∃s,r=0::s
theorem gp0{ps:List Pt}(h:Web ps):∃r,Met ps r:=by
 obtain⟨c,r,h1,h2,h3,h4,h5,_,h7⟩:=walk h [] h.len.1;exact⟨r,⟨c,h1,h2⟩,h3,fun y hy=>(h4 y hy).1,fun i hi j hj=>(h5 i hi j hj).resolve_right (by simp),h7 (by simp)⟩
theorem Met.zero{ps:List Pt}{r:List Nat}(m:Met ps r):0∈r:=by obtain⟨s,rfl⟩:=m.hd; exact List.mem_cons_self
theorem tx0{ps:List Pt}(h:Web ps){i:Nat}(hi:i<ps.length):zr0 (wd ps) i=tgs (pa ps i).vals:=by
 rw[h.adj hi];unfold pa
 simp[hi]
theorem Z20{adj:Nat->List Nat}{S:List Nat}{c:Nat}{o T r:List Nat}(h:Dfs adj S c o T r):∃s,r=o++s:=by
 induction h with
 | nil o=>exact⟨[],(List.append_nil o).symm⟩
 | skip _ _ ih=>exact ih
 | @visit c o T r x _ _ _ _ ih =>
  obtain⟨s,e⟩:=ih;exact⟨x::s,by rw[e,List.append_assoc]; rfl⟩
theorem bq0{adj adj':Nat->List Nat}(f:Nat->Nat){c:Nat}{o T r:List Nat}(h:Dfs adj [] c o T r):(∀a∈r,∀b∈r,f a=f b->a=b)->(∀i∈r,adj' (f i)=(adj i).map f)->Dfs adj' [] c (o.map f) (T.map f) (r.map f):=by
 induction h with
 | nil o=>intro _ _; exact .nil _
 | @skip c o T r x hx hd ih =>
  intro hi ha;exact .skip (.inl (List.mem_map_of_mem (hx.resolve_right (by simp)))) (ih hi ha)
 | @visit c o T r x hx hS hz hd ih =>
  intro hi ha;obtain⟨s,e⟩:=Z20 hd;have hxr:x∈r:=by rw[e]; simp
  have hor:∀y∈o,y∈r:=fun y hy=>by rw[e]; simp[hy]
  have k:=ih hi ha
  refine .visit (fun z=>?_) (by simp) ?_ ?_
  ·obtain⟨y,hy,e2⟩:=List.mem_map.mp z
   exact hx (hi y (hor y hy) x hxr e2▸hy)
  ·rw[ha x hxr]
   simp only[List.length_append,List.length_map] at hz ⊢;exact hz
  ·rw[ha x hxr]
   rw[List.map_append,List.map_append] at k;exact k
theorem jc0{n:Nat}(f:Nat->Nat):∀{vs:List D},(∀v∈vs,Lv n v)->tgs (vs.map (lkv f))=(tgs vs).map f
 | [],_=>rfl
 | v::vs,h=>by
  have ih:=jc0 f (vs:=vs) fun u hu=>h u (List.mem_cons_of_mem _ hu)
  rw[List.map_cons];rcases h v List.mem_cons_self with rfl|⟨z,rfl⟩|⟨j,rfl,hj⟩
  ·rw[Ta.us0 _ (.inl rfl),show lkv f D.non=.non from rfl,Ta.us0 _ (.inl rfl),ih]
  ·rw[Ta.us0 _ (.inr ⟨z,rfl⟩),show lkv f (D.int z)=.int z from rfl,Ta.us0 _ (.inr ⟨z,rfl⟩),ih]
  ·rw[show lkv f (.tup [.str "at",.int (j:Int)])=.tup [.str "at",.int (f j:Int)] from by unfold lkv; simp only[Int.toNat_natCast],q50,q50,ih]
   rfl
theorem uz0(f:Nat->Nat)(p:Pt):(rel f p).vals=p.vals.map (lkv f):=t90 p _ (by rw[List.length_map])
theorem v30:∀(a:List Str) (b:List D),a.length=b.length->(a.zip b).map (·.1)=a
 | [],_,_=>by simp
 | _::_,[],h=>by simp at h
 | a::as,b::bs,h=>by simp at h; simp[v30 as bs h]
theorem Zx0(p:Pt)(vs us:List D)(h:vs.length=p.vals.length):Pn.put (Pn.put p vs) us=Pn.put p us:=by
 cases p with
 | text w=>rfl
 | row us=>rfl
 | table ps =>
  show Pt.table _=Pt.table _
  rw[v30 _ _ (by rw[List.length_map]; have:vs.length=(ps.map (·.2)).length:=h; rw[this,List.length_map])]
 | rcd c ps =>
  show Pt.rcd _ _=Pt.rcd _ _
  rw[v30 _ _ (by rw[List.length_map]; have:vs.length=(ps.map (·.2)).length:=h; rw[this,List.length_map])]
theorem Xx0(p:Pt)(vs:List D)(h:vs.length=p.vals.length):Pn.hd (Pn.put p vs)=Pn.hd p:=by
 cases p with
 | text w=>rfl
 | row us=>show D.tup [_,.int (vs.length:Int)]=_; rw[h]; rfl
 | table ps =>
  show D.tup [_,.tup ((((ps.map (·.1)).zip vs).map (·.1)).map .str)]=_
  rw[v30 _ _ (by rw[List.length_map]; have:vs.length=(ps.map (·.2)).length:=h; rw[this,List.length_map])]
  rfl
 | rcd c ps =>
  show D.tup [_,_,.tup ((((ps.map (·.1)).zip vs).map (·.1)).map .str)]=_
  rw[v30 _ _ (by rw[List.length_map]; have:vs.length=(ps.map (·.2)).length:=h; rw[this,List.length_map])]
  rfl
theorem gm0(f:Nat->Nat)(p:Pt):Pn.hd (rel f p)=Pn.hd p:=Xx0 p _ (by rw[List.length_map])
theorem y20(f:Nat->Nat)(j:Nat):lkv f (.tup [.str "at",.int (j:Int)])=.tup [.str "at",.int (f j:Int)]:=by unfold lkv; simp only[Int.toNat_natCast]
theorem al0{n:Nat}{p:Pt}(h:Pw n p)(f g:Nat->Nat):rel g (rel f p)=rel (fun j=>g (f j)) p:=by
 unfold rel;rw[t90 p _ (by rw[List.length_map]),Zx0 _ _ _ (by rw[List.length_map]),List.map_map]
 congr 1
 refine List.map_congr_left fun v hv=>?_
 rcases h.lv v hv with rfl|⟨z,rfl⟩|⟨j,rfl,hj⟩
 ·rfl
 ·rfl
 ·show lkv g (lkv f _)=_
  rw[y20,y20,y20]
theorem o90{n:Nat}{p:Pt}(h:Pw n p){f g:Nat->Nat}(e:∀j∈tgs p.vals,f j=g j):rel f p=rel g p:=by
 unfold rel
 congr 1
 refine List.map_congr_left fun v hv=>?_
 rcases h.lv v hv with rfl|⟨z,rfl⟩|⟨j,rfl,hj⟩
 ·rfl
 ·rfl
 ·rw[y20,y20,e j (un0 hv)]
theorem cy0{f:Nat->Nat}:∀{r:List Nat},(∀a∈r,∀b∈r,f a=f b->a=b)->r.Nodup->(r.map f).Nodup
 | [],_,_=>List.nodup_nil
 | a::r,hi,h=>by
  rw[List.nodup_cons] at h;rw[List.map_cons,List.nodup_cons];refine⟨fun z=>?_,cy0 (fun x hx y hy=>hi x (List.mem_cons_of_mem _ hx) y (List.mem_cons_of_mem _ hy)) h.2⟩
  obtain⟨b,hb,e⟩:=List.mem_map.mp z;exact h.1 (hi b (List.mem_cons_of_mem _ hb) a List.mem_cons_self e▸hb)
structure Iso(ps qs:List Pt)(r:List Nat)(f:Nat->Nat):Prop where
 img:∀i∈r,f i<qs.length/\pa qs (f i)=rel f (pa ps i)
 inj:∀a∈r,∀b∈r,f a=f b->a=b
 zero:f 0=0
theorem idx_map(f:Nat->Nat):∀(r:List Nat) (j:Nat),j∈r->(∀a∈r,f a=f j->a=j)->(r.map f).idxOf (f j)=r.idxOf j
 | [],_,h,_=>by cases h
 | a::r,j,h,hi=>by
  rw[List.map_cons,List.idxOf_cons,List.idxOf_cons]
  by_cases e:a=j
  ·subst e; simp
  ·have ne:f a≠f j:=fun z=>e (hi a List.mem_cons_self z)
   rw[beq_false_of_ne e,beq_false_of_ne ne];show _+1=_+1;rw[idx_map f r j ((List.mem_cons.mp h).resolve_left (Ne.symm e)) fun b hb=>hi b (List.mem_cons_of_mem _ hb)]
theorem je0{ps qs:List Pt}{r:List Nat}{f:Nat->Nat}(hp:Web ps)(hq:Web qs)(m:Met ps r)(I:Iso ps qs r f):Met qs (r.map f)/\dr qs (r.map f)=dr ps r:=by
 have adj:∀i∈r,zr0 (wd qs) (f i)=(zr0 (wd ps) i).map f:=fun i hi=>by
  rw[tx0 hq (I.img i hi).1,tx0 hp (m.lt i hi),(I.img i hi).2,uz0];exact jc0 f (J7 hp (m.lt i hi)).2.lv
 refine⟨⟨?_,cy0 I.inj m.nd,fun y hy=>?_,fun y hy j hj=>?_,?_⟩,?_⟩
 ·obtain⟨c,h1,h2⟩:=m.ex
  refine⟨c,?_,h2⟩
  have:=bq0 (adj':=zr0 (wd qs)) f h1 I.inj adj
  rw[List.map_nil,List.map_cons,List.map_nil,I.zero] at this;exact this
 ·obtain⟨i,hi,rfl⟩:=List.mem_map.mp hy
  exact(I.img i hi).1
 ·obtain⟨i,hi,rfl⟩:=List.mem_map.mp hy
  rw[adj i hi] at hj;obtain⟨k,hk,rfl⟩:=List.mem_map.mp hj;exact List.mem_map_of_mem (m.cl i hi k hk)
 ·obtain⟨s,rfl⟩:=m.hd
  exact⟨s.map f,by rw[List.map_cons,I.zero]⟩
 ·unfold dr
  rw[List.map_map];refine List.map_congr_left fun i hi=>?_
  show rel _ (pa qs (f i))=_
  rw[(I.img i hi).2,al0 (J7 hp (m.lt i hi)).2];refine o90 (J7 hp (m.lt i hi)).2 fun j hj=>?_
  have hjr:j∈r:=m.cl i hi j (by rw[tx0 hp (m.lt i hi)]; exact hj)
  exact idx_map f r j hjr fun a ha e=>I.inj a ha j hjr e
theorem ym0{ps:List Pt}{r:List Nat}(hp:Web ps)(m:Met ps r):Web (dr ps r)/\(dr ps r).length=r.length:=by
 have hl:r.length<=ps.length:=by
  have:=sub_len m.nd (m:=List.range ps.length) fun y hy=>List.mem_range.mpr (m.lt y hy)
  rwa [List.length_range] at this
 have e:(dr ps r).length=r.length:=by unfold dr; rw[List.length_map]
 refine⟨⟨?_,fun p hp'=>?_⟩,e⟩
 ·rw[e]
  have:=hp.len.2
  exact⟨List.length_pos_of_mem m.zero,by omega⟩
 ·rw[e]
  obtain⟨i,hi,rfl⟩:=List.mem_map.mp hp';refine gn0 (J7 hp (m.lt i hi)).2 _ fun j hj=>?_
  exact List.idxOf_lt_length_of_mem (m.cl i hi j (by rw[tx0 hp (m.lt i hi)]; exact hj))
theorem W00{ps:List Pt}{r:List Nat}(hp:Web ps)(m:Met ps r):Iso ps (dr ps r) r fun j=>r.idxOf j:=by
 refine⟨fun i hi=>?_,fun a ha b hb e=>?_,?_⟩
 ·have h1:r.idxOf i<r.length:=List.idxOf_lt_length_of_mem hi
  refine⟨by rw[(ym0 hp m).2]; exact h1,?_⟩
  have:pa (dr ps r) (r.idxOf i)=(dr ps r)[r.idxOf i]'(by rw[(ym0 hp m).2]; exact h1):=by unfold pa; simp[(ym0 hp m).2,h1]
  rw[this];unfold dr;rw[List.getElem_map,List.getElem_idxOf h1]
 ·have h1:r.idxOf a<r.length:=List.idxOf_lt_length_of_mem ha
  have h2:r.idxOf b<r.length:=List.idxOf_lt_length_of_mem hb
  rw[← List.getElem_idxOf h1,← List.getElem_idxOf h2]
  congr 1
 ·obtain⟨s,rfl⟩:=m.hd
  exact List.idxOf_cons_self
end Ua
namespace Ua
open PySem DL W K22
open Ta (pa J7 vu0)
theorem u80{n:Nat}{p:Pt}(h:Pw n p)(f:Nat->Nat)(D':D)(hd:∀j∈tgs p.vals,xt0 D' (.int (j:Int))=some (.int (f j:Int))):z90 [p.d,D']=some (rel f p).d:=K22.u80 h f D' hd
theorem uw0{n:Nat}{p:Pt}(h:Pw n p):j6 [p.d]=some (.lst p.vals):=Gw.v00 p h.f
theorem tp0(p:Pt)(h:p.few)(vs:List D)(hl:vs.length=p.vals.length):W4 [p.d,.lst vs]=some (Pn.put p vs).d:=Gw.sn0 p h vs (.inl hl)
theorem t00{ps:List Pt}(h:Web ps){r:List Nat}(m:Met ps r):y40 [wd ps,.int 0,.dct (.inl []) []]=some (.lst (nd r)):=by
 obtain⟨c,h1,h2⟩:=m.ex;exact K22.t00 h [] (by decide) h.len.1 h1 h2
theorem mt0{ps:List Pt}(h:Web ps){r:List Nat}(m:Met ps r):zb0 [wd ps,.int 0]=some (.lst (nd r)) :=
 O6 rfl (Q9 (zo0 (by rw[o7 (ds:=[wd ps,.int 0,.dct (.inl []) []]) rfl]; exact t00 h m)))
theorem b50(W:D)(o T':List Nat)(x:Nat)(s3 s4:Sl):U4 (vk0 2) (gN 3) (Ta.os W o (T'++[x]) s3 s4)=some (.nx (Ta.os W o T' (.sh (.int (x:Int))) s4)):=by
 unfold U4 vk0;rw[show owL 2 (Ta.os W o (T'++[x]) s3 s4)=some (nd (T'++[x])) from rfl,Option.bind_some,wb0,show nd [x]=[D.int (x:Int)] from rfl,List.getLast?_concat,List.dropLast_concat]
 rfl
theorem b40(W:D)(o T':List Nat)(x:Nat)(s4:Sl):wj0 (ob (o2 (gv 3) (gv 1) (vp0 true))) (Ta.os W o T' (.sh (.int (x:Int))) s4)=some (decide (x∉o)):=by
 show ob (o2 (gv 3) (gv 1) (vp0 true)) [.sh W,.sh (.lst (nd o)),.sh (.lst (nd T')),.sh (.int (x:Int)),sh0 s4]=_
 refine Bw.vy0 ?_
 rw[o5 (x:=.int (x:Int)) (y:=.lst (nd o)) rfl rfl];simp only[vp0];rw[if_pos ⟨rfl,lk0 o⟩,X70,Bool.true_xor]
 congr 2
 by_cases q:x∈o
 ·rw[decide_eq_true q,decide_eq_false (fun z=>z q)]; rfl
 ·rw[decide_eq_false q,decide_eq_true q]; rfl
theorem Wz0(W:D)(o T':List Nat)(x:Nat)(s4:Sl)(h:o.length<=15000):X8 (Q5 1 (gv 3)) (Ta.os W o T' (.sh (.int (x:Int))) s4)=some (.nx (Ta.os W (o++[x]) T' (.sh (.int (x:Int))) s4)):=by
 have zs:(20000:Nat)<=sizeLine:=by decide
 rw[Gw.w70 (l:=nd o) (d:=.int (x:Int)) rfl rfl (by rw[R4]; omega),show nd o++[D.int (x:Int)]=nd (o++[x]) from by rw[wb0]; rfl]
 rfl
theorem Vz0{ps:List Pt}(h:Web ps){c:Nat}{o T r:List Nat}(d:Dfs (zr0 (wd ps)) [] c o T r):(∀x∈T,x<ps.length)->o.length+T.length<=10001->∀(f:Nat) (s3 s4:Sl),c<f->∃s3' s4',T9 Ta.OT Ta.OB f (Ta.os (wd ps) o T.reverse s3 s4)=some (.nx (Ta.os (wd ps) r [] s3' s4')):=by
 have zs:(20000:Nat)<=sizeLine:=by decide
 induction d with
 | nil o =>
  intro _ _ f s3 s4 hf;obtain⟨g,rfl⟩:∃g,f=g+1:=⟨f - 1,by omega⟩
  refine⟨s3,s4,?_⟩
  unfold T9;rw[Ta.i00];rfl
 | @skip c o T r x hx hd ih =>
  intro hT hl f s3 s4 hf;obtain⟨g,rfl⟩:∃g,f=g+1:=⟨f - 1,by omega⟩
  rw[List.length_cons] at hl;obtain⟨s3',s4',e⟩:=ih (fun y hy=>hT y (List.mem_cons_of_mem _ hy)) (by omega) g (.sh (.int (x:Int))) s4 (by omega)
  refine⟨s3',s4',?_⟩
  have q:x∈o:=hx.resolve_right (by simp)
  have eb:Ta.OB (Ta.os (wd ps) o (x::T).reverse s3 s4)=some (.nx (Ta.os (wd ps) o T.reverse (.sh (.int (x:Int))) s4)):=by
   rw[List.reverse_cons];exact u9 (b50 _ o T.reverse x s3 s4) (u9 (δ':=Ta.os (wd ps) o T.reverse (.sh (.int (x:Int))) s4) (by rw[Z7 ((b40 _ o T.reverse x s4).trans (by rw[decide_eq_false (fun z=>z q)]))]; rfl) rfl)
  unfold T9;rw[Ta.i00,decide_eq_true (by simp)]
  dsimp only
  rw[eb];exact e
 | @visit c o T r x hx hS hz hd ih =>
  intro hT hl f s3 s4 hf;obtain⟨g,rfl⟩:∃g,f=g+1:=⟨f - 1,by omega⟩
  have hxn:=hT x List.mem_cons_self
  obtain⟨e1,_,pw⟩:=h.at hxn;have hvl:=pw.few;have htl:=pa0 ps[x].vals;have ea:zr0 (wd ps) x=tgs ps[x].vals:=h.adj hxn;rw[List.length_cons] at hl;obtain⟨s',ef⟩:=Ta.nj0 (n:=ps.length) (wd ps) (o++[x]) (.sh (.int (x:Int))) ps[x].vals.reverse T.reverse s4 (fun v hv=>pw.lv v (List.mem_reverse.mp hv)) (by rw[List.length_reverse,List.length_reverse]; omega)
  rw[Ta.Zn0] at ef;have hlen:(o++[x]).length+(zr0 (wd ps) x++T).length<=10001:=by
   rw[List.length_append] at hz ⊢;rw[List.length_append,List.length_singleton];omega
  obtain⟨s3',s4',e⟩:=ih (fun y hy=>by
   rcases List.mem_append.mp hy with z|z
   ·rw[ea] at z; exact ul0 pw.lv y z
   ·exact hT y (List.mem_cons_of_mem _ z)) hlen g (.sh (.int (x:Int))) s' (by omega)
  refine⟨s3',s4',?_⟩
  rw[List.reverse_append,ea] at e;have p3:p90 (z9 (oA (z9 (o2 (gv 0) (gv 3) ixD) v7) Ta.j6) v7) (Ta.os (wd ps) (o++[x]) T.reverse (.sh (.int (x:Int))) s4)=some ps[x].vals.reverse:=by
   unfold p90;rw[cons_of (d:=.lst ps[x].vals) (ds:=[]) (by
    rw[o7 (ds:=[ps[x].d]) (cons_of (by rw[o5 (x:=wd ps) (y:=.int (x:Int)) rfl rfl]; exact e1) rfl)]
    exact Ta.uw0 pw) rfl]
   rfl
  have eb:Ta.OB (Ta.os (wd ps) o (x::T).reverse s3 s4)=some (.nx (Ta.os (wd ps) (o++[x]) (T.reverse++(tgs ps[x].vals).reverse) (.sh (.int (x:Int))) s')):=by
   rw[List.reverse_cons];exact u9 (b50 _ o T.reverse x s3 s4) (u9 (δ':=Ta.os (wd ps) (o++[x]) (T.reverse++(tgs ps[x].vals).reverse) (.sh (.int (x:Int))) s') (by
    rw[S8 ((b40 _ o T.reverse x s4).trans (by rw[decide_eq_true hx]))]
    exact u9 (Wz0 _ o T.reverse x s4 (by omega)) (u9 (J6 p3 ef) rfl)) rfl)
  unfold T9;rw[Ta.i00,decide_eq_true (by simp)]
  dsimp only
  rw[eb];exact e
theorem rn0{ps:List Pt}(h:Web ps){r:List Nat}(m:Met ps r):W3 [wd ps]=some (.lst (nd r)):=by
 obtain⟨c,h1,h2⟩:=m.ex;obtain⟨s3,s4,e⟩:=Vz0 h h1 (fun x hx=>by rw[List.mem_singleton.mp hx]; exact h.len.1) (by simp) 100000 .un .un (by omega)
 exact O6 rfl (u9 (δ':=[.sh (wd ps),.ow (.lst []),.un,.un,.un]) rfl (u9 (δ':=Ta.os (wd ps) [] [0] .un .un) rfl (u9 e (Q9 rfl))))
def nums(r:List Nat)(i:Nat):D:=.dct (.inl (kd (r.take i))) (nd (List.range' 0 i))
theorem kv0{r:List Nat}(hn:r.Nodup){j:Nat}(hj:j<r.length):J5 (kd (r.take j)) (.inl (r[j]:Int))=kd (r.take (j+1))/\z80 (kd (r.take j)) (nd (List.range' 0 j)) (.inl (r[j]:Int)) (.int (j:Int))=nd (List.range' 0 (j+1)):=by
 have hnin:r[j]∉r.take j:=fun z=>by
  have q:(r.take j++r.drop j).Nodup:=by rw[List.take_append_drop]; exact hn
  exact(List.nodup_append.mp q).2.2 _ z _ (by rw[List.drop_eq_getElem_cons hj]; exact List.mem_cons_self) rfl
 have hk:M9 (kd (r.take j)) (.inl (r[j]:Int))=false:=by rw[ka0,decide_eq_false hnin]
 have tk:r.take (j+1)=r.take j++[r[j]]:=by rw[List.take_succ,List.getElem?_eq_getElem hj]; rfl
 constructor
 ·unfold J5; rw[hk,if_neg (by simp),tk,gb0]; rfl
 ·unfold z80; rw[hk,if_neg (by simp),List.range'_concat,wb0,Nat.one_mul,Nat.zero_add]; rfl
theorem jj0{r:List Nat}{j:Nat}(hj:j∈r):xt0 (nums r r.length) (.int (j:Int))=some (.int ((r.idxOf j:Nat):Int)):=by
 show va0 (kd (r.take r.length)) (nd (List.range' 0 r.length)) (.inl (j:Int))=_
 rw[List.take_length,jh0 r 0 j hj,Nat.zero_add]
theorem fq0{δ:Ds}{i:Nat}{ks:List K9}{vs:List D}{k:Nat}{v:D}{g:GE}{gx:GE}(h1:δ[i]?=some (.ow (.dct (.inl ks) vs)))(h2:gx δ=some v)(h3:g δ=some (.int (k:Int)))(h4:ks.length<sizeLine) :
  U4 (R5 gx) (putAt i g) δ=some (.nx (δ.set i (.ow (.dct (.inl (J5 ks (.inl (k:Int)))) (z80 ks vs (.inl (k:Int)) v))))):=by
 have e:ph0 i δ=some (ks,vs):=by unfold ph0; rw[h1]
 unfold U4 R5;rw[h2,Option.map_some,Option.bind_some];unfold DL.putAt;rw[e,Option.bind_some,h3,Option.bind_some];simp only[xd0,Option.bind_some];rw[if_pos h4];rfl
theorem j90{ps:List Pt}(h:Web ps){r:List Nat}(m:Met ps r){mf:List D->Option D}(hm:∀i∈r,mf [(pa ps i).d,nums r r.length]=some (rel (fun j=>r.idxOf j) (pa ps i)).d) :
  W6 (gN 0) noT (oA (z9 (o2 (gv 1) (gv 0) ixD) (z9 (gv 2) v7)) mf) [.un,.sh (wd ps),.sh (nums r r.length)] (nd r)=some ((dr ps r).map Pt.d):=by
 rw[S5 (fun d=>match d with|.int i=>(rel (fun j=>r.idxOf j) (pa ps i.toNat)).d|_=>.non) (fun d hd=>by
  obtain⟨i,hi,rfl⟩:=List.mem_map.mp hd;refine⟨[.sh (.int (i:Int)),.sh (wd ps),.sh (nums r r.length)],rfl,rfl,?_⟩
  rw[o7 (ds:=[(pa ps i).d,nums r r.length]) (cons_of (by rw[o5 (x:=wd ps) (y:=.int (i:Int)) rfl rfl]; exact(J7 h (m.lt i hi)).1) rfl),hm i hi]
  rfl)]
 unfold nd dr;rw[List.map_map,List.map_map];rfl
theorem Met.len{ps:List Pt}(h:Web ps){r:List Nat}(m:Met ps r):r.length<=ps.length/\r.length<=60:=by
 have:=sub_len m.nd (m:=List.range ps.length) fun y hy=>List.mem_range.mpr (m.lt y hy)
 rw[List.length_range] at this;exact⟨this,Nat.le_trans this h.len.2⟩
theorem Met.tg{ps:List Pt}(h:Web ps){r:List Nat}(m:Met ps r){i j:Nat}(hi:i∈r)(hj:j∈tgs (pa ps i).vals):j∈r:=m.cl i hi j (by rw[tx0 h (m.lt i hi)]; exact hj)
theorem ve0(r:List Nat):(zc0 (nd r)).length=r.length:=by unfold zc0; rw[List.length_map,List.length_range,R4]
theorem my0{r:List Nat}{j:Nat}{d:D}(h:(zc0 (nd r))[j]?=some d):∃hj:j<r.length,d=.tup [.int (j:Int),.int (r[j]:Int)]:=by
 have hjl:j<r.length:=by
  have:=(List.getElem?_eq_some_iff.mp h).1
  rwa [ve0] at this
 refine⟨hjl,?_⟩
 unfold zc0 at h;rw[List.getElem?_map,List.getElem?_range (by rw[R4]; exact hjl)] at h
 have e:(nd r).getD j .non=.int (r[j]:Int):=by unfold nd; simp[hjl]
 rw[← e];exact(Option.some.inj h).symm
theorem j00{gA:GA}(δ:Ds)(r:List Nat)(h:gA δ=some [.lst (nd r)]):sz0 gA δ=some (zc0 (nd r)):=by
 unfold sz0;rw[h];rfl
def NB:GS:=(v8 (U4 (R5 (gv 4)) (DL.putAt 3 (gv 5))) u6)
theorem mi0{ps:List Pt}(h:Web ps){r:List Nat}(m:Met ps r):xn0 [wd ps,.int 0]=some (wd (dr ps r)):=by
 have zs:(2000:Nat)<=sizeLine:=by decide
 obtain⟨_,h60⟩:=m.len h;obtain⟨δ',l1,s4,s5,rfl⟩:=z70 (f:=ze0 4 5) (G:=NB) (fun i δ=>∃s4 s5:Sl,δ=[.sh (wd ps),.sh (.int 0),.sh (.lst (nd r)),.ow (nums r i),s4,s5]) (zc0 (nd r)) 0 [.sh (wd ps),.sh (.int 0),.sh (.lst (nd r)),.ow (nums r 0),.un,.un] (by
  rintro j d δ hj ⟨s4,s5,rfl⟩
  rw[Nat.zero_add];obtain⟨hjl,rfl⟩:=my0 hj;obtain⟨e1,e2⟩:=kv0 m.nd hjl;refine⟨[.sh (wd ps),.sh (.int 0),.sh (.lst (nd r)),.ow (nums r j),.sh (.int (j:Int)),.sh (.int (r[j]:Int))],_,rfl,u9 (fq0 (ks:=kd (r.take j)) (vs:=nd (List.range' 0 j)) (k:=r[j]) (v:=.int (j:Int)) rfl rfl rfl (by unfold kd; rw[List.length_map,List.length_take]; omega)) rfl,.sh (.int (j:Int)),.sh (.int (r[j]:Int)),?_⟩
  rw[e1,e2];rfl) ⟨.un,.un,rfl⟩
 rw[Nat.zero_add,ve0] at l1;refine d7 rfl (u9 (Z3 (d:=.lst (nd r)) (bw0 ?_ (lk0 r))) (u9 (δ':=[.sh (wd ps),.sh (.int 0),.sh (.lst (nd r)),.ow (nums r 0),.un,.un]) rfl (u9 (J6 (items:=zc0 (nd r)) ?_ l1) (m8 (Z9 ?_)))))
 ·show oA (z9 (gv 0) (z9 (gv 1) v7)) zb0 [.sh (wd ps),.sh (.int 0),.un,.un,.un,.un]=_
  rw[o7 (ds:=[wd ps,.int 0]) rfl];exact mt0 h m
 ·exact j00 _ r rfl
 ·show oA _ W8 [.sh (wd ps),.sh (.int 0),.sh (.lst (nd r)),.sh (nums r r.length),sh0 s4,sh0 s5]=_
  rw[o7 (ds:=[.lst ((dr ps r).map Pt.d)]) (cons_of (W7 (items:=nd r) rfl (by rw[R4]; omega) (j90 h m fun i hi=>u80 (J7 h (m.lt i hi)).2 _ _ fun j hj=>jj0 (m.tg h hi hj))) rfl)]
  rfl
def EB:GS:=(v8 (ifD (ob (Q4 isTup (gv 3)))
 (v8 (n8 (gN 3) (m9 (z9 (gc (.str "at")) (z9 (orE (o2 (gv 1) (o2 (gv 3) (gc (.int 1)) ixD) ixD) (o2 (gv 1) (o2 (gv 3) (gc (.int 1)) ixD) xt0)) v7))))
 u6)
 u6)
 (v8 (X8 (Q5 2 (gv 3)))
 u6))
theorem or1{g1 g2:GE}{δ:Ds}{d:D}(h:g1 δ=some d):orE g1 g2 δ=some d:=by unfold orE; rw[h]
theorem or2{g1 g2:GE}{δ:Ds}{d:D}(h:g1 δ=none)(h2:g2 δ=some d):orE g1 g2 δ=some d:=by unfold orE; rw[h]; exact h2
theorem g60{n:Nat}{p:Pt}(h:Pw n p)(f:Nat->Nat)(D':D)(hd:∀j∈tgs p.vals,ixD D' (.int (j:Int))=some (.int (f j:Int))∨(ixD D' (.int (j:Int))=none/\xt0 D' (.int (j:Int))=some (.int (f j:Int)))):K1 [p.d,D']=some (rel f p).d:=by
 have zs:(1000:Nat)<=sizeLine:=by decide
 obtain⟨δ',l1,l2⟩:=z70 (f:=gN 3) (G:=EB) (fun i δ=>∃s3:Sl,δ=[.sh p.d,.sh D',.ow (.lst ((p.vals.take i).map (lkv f))),s3]) p.vals 0 [.sh p.d,.sh D',.ow (.lst []),.un] (by
  rintro j v δ hj ⟨s3,rfl⟩
  have hv:=List.mem_of_getElem? hj
  have hjl:=(List.getElem?_eq_some_iff.mp hj).1
  have hf:=h.few
  rw[Nat.zero_add];have app:∀w:D,X8 (Q5 2 (gv 3)) [.sh p.d,.sh D',.ow (.lst ((p.vals.take j).map (lkv f))),.sh w]=some (.nx [.sh p.d,.sh D',.ow (.lst ((p.vals.take j).map (lkv f)++[w])),.sh w]):=fun w=>Gw.w70 (l:=(p.vals.take j).map (lkv f)) (d:=w) rfl rfl (by rw[List.length_map,List.length_take]; omega)
  have tk:(p.vals.take (j+1)).map (lkv f)=(p.vals.take j).map (lkv f)++[lkv f v]:=by rw[List.take_succ,hj,List.map_append]; rfl
  refine⟨[.sh p.d,.sh D',.ow (.lst ((p.vals.take j).map (lkv f))),.sh v],[.sh p.d,.sh D',.ow (.lst ((p.vals.take j).map (lkv f)++[lkv f v])),.sh (lkv f v)],rfl,?_,.sh (lkv f v),by rw[tk]⟩
  refine u9 (δ':=[.sh p.d,.sh D',.ow (.lst ((p.vals.take j).map (lkv f))),.sh (lkv f v)]) ?_ (u9 (app _) rfl)
  rcases h.lv v hv with rfl|⟨z,rfl⟩|⟨i,rfl,hi⟩
  ·rw[Z7 (by rfl)]; rfl
  ·rw[Z7 (by rfl)]; rfl
  ·rw[S8 (by rfl)]
   refine u9 (Z3 (d:=.tup [.str "at",.int (f i:Int)]) (V1 (cons_of rfl (cons_of (d:=.int (f i:Int)) ?_ rfl)) (by show 2<=sizeLine; decide))) rfl
   rcases hd i (un0 hv) with q|⟨q1,q2⟩
   ·refine or1 ?_
    rw[o5 (x:=D') (y:=.int (i:Int)) rfl rfl];exact q
   ·refine or2 ?_ ?_
    ·rw[o5 (x:=D') (y:=.int (i:Int)) rfl rfl]
     exact q1
    ·rw[o5 (x:=D') (y:=.int (i:Int)) rfl rfl]
     exact q2) ⟨_,rfl⟩
 obtain⟨s3,rfl⟩:=l2;rw[Nat.zero_add,List.take_length] at l1;refine d7 rfl (u9 (δ':=[.sh p.d,.sh D',.ow (.lst []),.un]) rfl (u9 (J6 (items:=p.vals) (by
  show Option.bind (oA (z9 (gv 0) v7) j6 [.sh p.d,.sh D',.ow (.lst []),.un]) qg0=_
  rw[o7 (ds:=[p.d]) rfl,uw0 h];rfl) l1) (m8 (Z9 ?_))))
 show oA (z9 (gv 0) (z9 (gv 2) v7)) W4 (frz _)=_
 rw[o7 (ds:=[p.d,.lst (p.vals.map (lkv f))]) rfl];exact tp0 p h.f _ (by rw[List.length_map])
def RB:GS:=(v8 (U4 (R5 (U3 (oA (z9 (gv 2) v7) na0))) (DL.putAt 2 (gv 3))) u6)
theorem p20{ps:List Pt}(h:Web ps){r:List Nat}(m:Met ps r):X7 [wd ps]=some (wd (dr ps r)):=by
 have zs:(2000:Nat)<=sizeLine:=by decide
 obtain⟨_,h60⟩:=m.len h;obtain⟨δ',l1,s3,rfl⟩:=z70 (f:=gN 3) (G:=RB) (fun i δ=>∃s3:Sl,δ=[.sh (wd ps),.sh (.lst (nd r)),.ow (nums r i),s3]) (nd r) 0 [.sh (wd ps),.sh (.lst (nd r)),.ow (nums r 0),.un] (by
  rintro j d δ hj ⟨s3,rfl⟩
  rw[Nat.zero_add];have hjl:j<r.length:=by
   have:=(List.getElem?_eq_some_iff.mp hj).1
   rwa [R4] at this
  have ed:d=.int (r[j]:Int):=by
   unfold nd at hj;rw[List.getElem?_map,List.getElem?_eq_getElem hjl] at hj
   exact(Option.some.inj hj).symm
  subst ed;obtain⟨e1,e2⟩:=kv0 m.nd hjl;refine⟨[.sh (wd ps),.sh (.lst (nd r)),.ow (nums r j),.sh (.int (r[j]:Int))],_,rfl,u9 (fq0 (ks:=kd (r.take j)) (vs:=nd (List.range' 0 j)) (k:=r[j]) (v:=.int (j:Int)) rfl ?_ rfl (by unfold kd; rw[List.length_map,List.length_take]; omega)) rfl,.sh (.int (r[j]:Int)),?_⟩
  ·show some (D.int (((kd (r.take j)).length:Nat):Int))=_
   rw[show (kd (r.take j)).length=j from by unfold kd; rw[List.length_map,List.length_take]; omega]
  ·rw[e1,e2]
   rfl) ⟨.un,rfl⟩
 rw[Nat.zero_add,R4] at l1;refine d7 rfl (u9 (Z3 (d:=.lst (nd r)) ?_) (u9 (δ':=[.sh (wd ps),.sh (.lst (nd r)),.ow (nums r 0),.un]) rfl (u9 (J6 (items:=nd r) rfl l1) (m8 (Z9 ?_)))))
 ·rw[o7 (ds:=[wd ps]) rfl]
  exact rn0 h m
 ·show oA _ W8 [.sh (wd ps),.sh (.lst (nd r)),.sh (nums r r.length),sh0 s3]=_
  rw[o7 (ds:=[.lst ((dr ps r).map Pt.d)]) (cons_of (W7 (items:=nd r) rfl (by rw[R4]; omega) (j90 h m fun i hi=>g60 (J7 h (m.lt i hi)).2 _ _ fun j hj=>.inr ⟨rfl,jj0 (m.tg h hi hj)⟩)) rfl)]
  rfl
end Ua
namespace Ua
open PySem DL W K22 SoT
open Ta (pa J7 vu0 pN zz nn2 l40 ug0 prg up okv GL)
theorem bj0{n:Nat}{p:Pt}(h:Pw n p):Pn.nb p.d=true:=by
 have v:∀x∈p.vals,Pn.nb x=true:=fun x hx=>(Ta.i60 (h.lv x hx)).nb
 have prs:∀ps:List (Str×D),(∀x∈ps.map (·.2),Pn.nb x=true)->Pn.nb (.tup (ps.map pr))=true:=fun ps hv=>Pn.z10 fun d hd=>by
  obtain⟨q,hq,rfl⟩:=List.mem_map.mp hd;refine Pn.z10 fun e he=>?_
  rcases List.mem_cons.mp he with rfl|he
  ·exact Pn.zk0 _
  ·rw[List.mem_singleton.mp he]
   exact hv _ (List.mem_map.mpr ⟨q,hq,rfl⟩)
 cases p with
 | text w=>refine Pn.z10 fun e he=>?_; rcases List.mem_cons.mp he with rfl|he; exact Pn.zk0 _; rw[List.mem_singleton.mp he]; exact Pn.zk0 _
 | row vs=>refine Pn.z10 fun e he=>?_; rcases List.mem_cons.mp he with rfl|he; exact Pn.zk0 _; rw[List.mem_singleton.mp he]; exact Pn.z10 v
 | table ps=>refine Pn.z10 fun e he=>?_; rcases List.mem_cons.mp he with rfl|he; exact Pn.zk0 _; rw[List.mem_singleton.mp he]; exact prs ps v
 | rcd c ps =>
  refine Pn.z10 fun e he=>?_
  rcases List.mem_cons.mp he with rfl|he
  ·exact Pn.zk0 _
  ·rcases List.mem_cons.mp he with rfl|he
   ·exact Pn.zk0 _
   ·rw[List.mem_singleton.mp he]; exact prs ps v
theorem kd0{ps:List Pt}(h:Web ps):Pn.Pl (wd ps):=⟨av0 h 45,Pn.z10 fun d hd=>by
 obtain⟨p,hp,rfl⟩:=List.mem_map.mp hd;exact bj0 (h.pw p hp)⟩
def Eqw(ps qs:List Pt)(r s:List Nat):Prop:=wd (dr ps r)=wd (dr qs s)
theorem jg0{a b:List Pt}(ha:Web a)(hb:Web b):vu0 (wd a=wd b) (Q6 (wd a) (wd b)) :=
 ⟨fun e=>by rw[e]; exact Pn.cc0 (kd0 hb).le,fun e=>Pn.Us0 (kd0 ha) (kd0 hb) e⟩
section
variable{ps qs:List Pt}{r s:List Nat}
theorem j20(hp:Web ps)(hq:Web qs)(mp:Met ps r)(mq:Met qs s):vu0 (Eqw ps qs r s) (zm0 [wd ps,wd qs]):=by
 have t:=jg0 (ym0 hp mp).1 (ym0 hq mq).1
 have e:∀b,Q6 (wd (dr ps r)) (wd (dr qs s))=some (.bl b)->zm0 [wd ps,wd qs]=some (.bl b):=fun b hb=>d7 rfl (m8 (Z9 (by
  rw[o5 (x:=wd (dr ps r)) (y:=wd (dr qs s)) (by rw[o7 (ds:=[wd ps]) rfl]; exact mi0 hp mp) (by rw[o7 (ds:=[wd qs]) rfl]; exact mi0 hq mq)]
  exact hb)))
 exact⟨fun z=>e _ (t.1 z),fun z=>e _ (t.2 z)⟩
noncomputable def SL(L:List (Nat×Nat)):List (Nat×Nat):=(srt (L.map zz)).map nn2
theorem cp0(L:List (Nat×Nat)):(srt (L.map zz)).map pD=(SL L).map pN:=by
 unfold SL;rw[List.map_map];refine List.map_congr_left fun q hq=>?_
 obtain⟨p,hp,rfl⟩:=List.mem_map.mp ((vr0 _).mem_iff.mp hq);rfl
theorem wu0(L:List (Nat×Nat)):(SL L).Perm L:=by
 have h:=(vr0 (L.map zz)).map nn2
 have e:(L.map zz).map nn2=L:=by
  rw[List.map_map];exact(List.map_congr_left fun p _=>by show (((p.1:Int)).toNat,((p.2:Int)).toNat)=p; rw[Int.toNat_natCast,Int.toNat_natCast]).trans (List.map_id L)
 rw[e] at h;exact h
theorem Zf0{L M:List (Nat×Nat)}(h:L.Perm M):SL L=SL M:=by
 unfold SL;rw[dv0 (h.map zz)]
theorem Zc0{L:List (Nat×Nat)}(hn:L.Nodup)(h9:L.length<64):zj0 [.lst (L.map pN)]=some (.lst ((SL L).map pN)):=by
 have e1:L.map pN=(L.map zz).map pD:=by rw[List.map_map]; rfl
 rw[e1,ai0 (ug0 (fun a b=>l40) hn) (by rw[List.length_map]; exact h9),cp0]
theorem v80:∀{r s:List Nat},r.Nodup->(r.zip s).Nodup
 | [],_,_=>by simp
 | _::_,[],_=>by simp
 | a::r,b::s,h=>by
  rw[List.nodup_cons] at h;rw[List.zip_cons_cons,List.nodup_cons];exact⟨fun z=>h.1 (List.of_mem_zip z).1,v80 h.2⟩
theorem lg0:∀(r s:List Nat),((nd r).zip (nd s)).map (fun p=>D.tup [p.1,p.2])=(r.zip s).map pN
 | [],_=>by simp[nd]
 | _::_,[]=>by simp[nd]
 | a::r,b::s=>by
  have ih:=lg0 r s
  show D.tup [.int (a:Int),.int (b:Int)]::((nd r).zip (nd s)).map _=_
  rw[ih];rfl
theorem el0(hr:r.Nodup)(h9:r.length<64):uj0 [.lst (nd r),.lst (nd s)]=some (.lst ((SL (r.zip s)).map pN)):=by
 have hl:(r.zip s).length<=r.length:=by rw[List.length_zip]; omega
 have e1:(r.zip s).map pN=((r.zip s).map zz).map pD:=by rw[List.map_map]; rfl
 show (xo0 _).bind _=_
 rw[lg0,e1,qu0,Option.bind_some,if_pos ⟨ug0 (fun a b=>l40) (v80 hr),by rw[List.length_map]; omega⟩,cp0]
theorem ux0(hp:Web ps)(hq:Web qs)(mp:Met ps r)(mq:Met qs s) :
  (Eqw ps qs r s->y70 [wd ps,wd qs]=some (.lst ((SL (r.zip s)).map pN))/\R3 [wd ps,wd qs]=some (.lst ((SL (r.zip s)).map pN))) /\
  (¬Eqw ps qs r s->y70 [wd ps,wd qs]=some .non/\R3 [wd ps,wd qs]=none):=by
 obtain⟨t1,t2⟩:=j20 hp hq mp mq;have h60:=(mp.len hp).2;have gs:∀b,zm0 [wd ps,wd qs]=some (.bl b)->Q7 (ob (oA (z9 (gv 0) (z9 (gv 1) v7)) zm0)) [.sh (wd ps),.sh (wd qs)]=some (!b):=fun b hb=>by
  unfold Q7 ob;rw[o7 (ds:=[wd ps,wd qs]) rfl,hb];rfl
 have gz:oA (z9 (oA (z9 (gv 0) v7) fun ds=>zb0 (ds++[(.int 0)])) (z9 (oA (z9 (gv 1) v7) fun ds=>zb0 (ds++[(.int 0)])) v7)) uj0 [.sh (wd ps),.sh (wd qs)]=some (.lst ((SL (r.zip s)).map pN)):=by
  rw[o7 (ds:=[.lst (nd r),.lst (nd s)]) (cons_of (by rw[o7 (ds:=[wd ps]) rfl]; exact mt0 hp mp) (cons_of (by rw[o7 (ds:=[wd qs]) rfl]; exact mt0 hq mq) rfl))]
  exact el0 mp.nd (by omega)
 constructor
 ·intro z
  have g:=gs true (t1 z)
  exact⟨d7 rfl (u9 (δ':=[.sh (wd ps),.sh (wd qs)]) (by erw[Z7 g]; rfl) (m8 (Z9 gz))),O6 rfl (u9 (δ':=[.sh (wd ps),.sh (wd qs)]) (by erw[Z7 g]; rfl) (Q9 (zo0 gz)))⟩
 ·intro z
  have g:=gs false (t2 z)
  refine⟨d7 rfl (m8 (by erw[S8 g]; exact m8 (Z9 rfl))),?_⟩
  have e:vt0 (Y9 s80 [wd ps,wd qs])=some (.rt .non):=m8 (by erw[S8 g]; exact m8 (Z9 rfl))
  unfold R3 mkN;rw[if_pos (show[wd ps,wd qs].length=2 from rfl),e]
theorem eh0{n m:Nat}{p q:Pt}(hp:Pw n p)(hq:Pw m q){f g:Nat->Nat}(e:(rel f p).d=(rel g q).d)(hf:(rel f p).few)(hg:(rel g q).few):Pn.hd p=Pn.hd q/\p.vals.map (lkv f)=q.vals.map (lkv g):=by
 constructor
 ·have h1:=Pn.wz0 (rel f p) hf
  rw[e,Pn.wz0 (rel g q) hg] at h1;have:=Option.some.inj h1;rw[gm0,gm0] at this;exact this.symm
 ·have h1:=Pn.Q0 (rel f p) hf
  rw[e,Pn.Q0 (rel g q) hg] at h1;have:=Option.some.inj h1;injection this with this
  rw[uz0,uz0] at this;exact this.symm
theorem jm0{n:Nat}{p:Pt}(h:Pw n p)(f:Nat->Nat):(rel f p).few:=by
 have z:(12:Nat)<=sizeLine:=by decide
 have:(rel f p).vals.length<=12:=by rw[uz0,List.length_map]; exact h.few
 exact Nat.le_trans this z
theorem V20{n m:Nat}{L:List (Nat×Nat)}{f g:Nat->Nat}{v w:D}(hv:Lv n v)(hw:Lv m w)(e:lkv f v=lkv g w)(hL:∀a b:Nat,v=.tup [.str "at",.int (a:Int)]->w=.tup [.str "at",.int (b:Int)]->f a=g b->(a,b)∈L):okv L v w:=by
 rcases hv with rfl|⟨z,rfl⟩|⟨a,rfl,ha⟩<;>rcases hw with rfl|⟨y,rfl⟩|⟨b,rfl,hb⟩
 ·exact rfl
 ·exact e
 ·rw[y20] at e; cases e
 ·exact e
 ·exact e
 ·rw[y20] at e; cases e
 ·rw[y20] at e; cases e
 ·rw[y20] at e; cases e
 ·rw[y20,y20] at e
  have e2:(f a:Int)=(g b:Int):=by injection e with e; injection e with _ e; injection e with e _; injection e
  show ((a:Int).toNat,(b:Int).toNat)∈L
  rw[Int.toNat_natCast,Int.toNat_natCast];exact hL a b rfl rfl (by omega)
theorem ab0{r s:List Nat}{a b:Nat}(ha:a∈r)(hb:b∈s)(e:r.idxOf a=s.idxOf b):(a,b)∈r.zip s:=by
 have h1:r.idxOf a<r.length:=List.idxOf_lt_length_of_mem ha
 have h2:s.idxOf b<s.length:=List.idxOf_lt_length_of_mem hb
 have h3:r.idxOf a<(r.zip s).length:=by rw[List.length_zip]; omega
 have:(r.zip s)[r.idxOf a]=(a,b):=by
  rw[List.getElem_zip];have q1:r[r.idxOf a]=a:=List.getElem_idxOf h1;have q2:s[r.idxOf a]'(by omega)=b:=by
   have:=List.getElem_idxOf h2
   simp only[e];exact this
  rw[q1,q2]
 rw[← this];exact List.getElem_mem h3
theorem hf0(hp:Web ps)(hq:Web qs)(mp:Met ps r)(mq:Met qs s)(E:Eqw ps qs r s):r.length=s.length/\prg ps qs (SL (r.zip s)):=by
 have E':(dr ps r).map Pt.d=(dr qs s).map Pt.d:=by unfold Eqw wd at E; injection E
 have hl:r.length=s.length:=by
  have:=congrArg List.length E'
  rw[List.length_map,List.length_map,(ym0 hp mp).2,(ym0 hq mq).2] at this;exact this
 have pm:=wu0 (r.zip s)
 refine⟨hl,?_,?_,?_,?_⟩
 ·refine pm.mem_iff.mpr ?_
  obtain⟨r',rfl⟩:=mp.hd;obtain⟨s',rfl⟩:=mq.hd;exact List.mem_cons_self
 ·refine(pm.map (·.1)).nodup_iff.mpr ?_
  rw[List.map_fst_zip (by omega)]
  exact mp.nd
 ·refine(pm.map (·.2)).nodup_iff.mpr ?_
  rw[List.map_snd_zip (by omega)]
  exact mq.nd
 ·intro p hpm
  obtain⟨i,hi,e⟩:=List.mem_iff_getElem.mp (pm.mem_iff.mp hpm);rw[List.getElem_zip] at e;rw[List.length_zip] at hi;have hir:i<r.length:=by omega
  have his:i<s.length:=by omega
  subst e;have ei:(rel (fun j=>r.idxOf j) (pa ps r[i])).d=(rel (fun j=>s.idxOf j) (pa qs s[i])).d:=by
   have:=congrArg (fun l=>l[i]?) E'
   unfold dr at this;simp only[List.getElem?_map,List.getElem?_eq_getElem hir,List.getElem?_eq_getElem his,Option.map_some] at this
   exact Option.some.inj this
  have wr:=(J7 hp (mp.lt _ (List.getElem_mem hir))).2
  have ws:=(J7 hq (mq.lt _ (List.getElem_mem his))).2
  obtain⟨e1,e2⟩:=eh0 wr ws ei (jm0 wr _) (jm0 ws _);refine⟨e1,fun q hq'=>?_⟩
  obtain⟨k,hk,e3⟩:=List.mem_iff_getElem.mp hq';rw[List.length_zip] at hk;rw[List.getElem_zip] at e3;subst e3;have hk1:k<(pa ps r[i]).vals.length:=by dsimp only at hk; omega
  have hk2:k<(pa qs s[i]).vals.length:=by dsimp only at hk; omega
  have e4:lkv (fun j=>r.idxOf j) (pa ps r[i]).vals[k]=lkv (fun j=>s.idxOf j) (pa qs s[i]).vals[k]:=by
   have:=congrArg (fun l=>l[k]?) e2
   simp only[List.getElem?_map,List.getElem?_eq_getElem hk1,List.getElem?_eq_getElem hk2,Option.map_some] at this
   exact Option.some.inj this
  refine V20 (wr.lv _ (List.getElem_mem hk1)) (ws.lv _ (List.getElem_mem hk2)) e4 fun a b ea eb ef=>?_
  refine pm.mem_iff.mpr (ab0 ?_ ?_ ef)
  ·exact mp.tg hp (List.getElem_mem hir) (un0 (ea▸List.getElem_mem hk1))
  ·exact mq.tg hq (List.getElem_mem his) (un0 (eb▸List.getElem_mem hk2))
theorem Yl0(hp:Web ps)(hq:Web qs)(mp:Met ps r)(mq:Met qs s)(E:Eqw ps qs r s):U0 [wd ps,wd qs,.lst ((SL (r.zip s)).map pN)]=some (.bl true):=by
 obtain⟨hl,pg⟩:=hf0 hp hq mp mq E;have h60:=(mp.len hp).2;have gl:GL ps.length qs.length (SL (r.zip s)):=⟨fun p hpm=>by
  have:=List.of_mem_zip ((wu0 _).mem_iff.mp hpm)
  exact⟨mp.lt _ this.1,mq.lt _ this.2⟩,by rw[(wu0 _).length_eq,List.length_zip]; omega⟩
 exact(Ta.ux0 hp hq gl).1 pg
end
end Ua
namespace Ua
open PySem DL W K22 SoT
open Ta (pN nb pc0 qp0 vu0)
theorem qo0(b:Bool):J9 [.bl b,.bl b]=some (.bl true):=by
 have e1:Q6 (.bl b) (.bl b)=some (.bl true):=Pn.cc0 (by simp[lean])
 refine d7 rfl (m8 (Z9 ?_))
 show J1 (Q4 isBool (gv 0)) (o2 (gv 0) (gv 1) Q6) [.sh (.bl b),.sh (.bl b)]=_
 unfold J1;rw[show ob (Q4 isBool (gv 0)) [.sh (.bl b),.sh (.bl b)]=some true from rfl,Option.bind_some,if_pos rfl,o5 (x:=.bl b) (y:=.bl b) rfl rfl];exact e1
def LI:GS:=(v8 (ifD (zv0 (Q7 (ob (Q4 isInt (gv 2)))) (ob (Q4 isBool (gv 2))))
 (v8 (o9 (gc (.bl false)))
 u6)
 u6)
 u6)
def LO:GS:=(v8 (ifD (zv0 (Q7 (ob (Q4 isTup (gv 1)))) (ob (o2 (oA (z9 (gv 1) v7) j8) (gc (.int 2)) neD)))
 (v8 (o9 (gc (.bl false)))
 u6)
 u6)
 (v8 (M4 (tupI (gv 1)) (gN 2) LI)
 u6))
theorem Wy0(X:Sl)(p:Nat×Nat)(s:Sl):LO [X,.sh (pN p),s]=some (.nx [X,.sh (pN p),.sh (.int (p.2:Int))]):=by
 refine u9 (δ':=[X,.sh (pN p),s]) ?_ (u9 (J6 (items:=[.int (p.1:Int),.int (p.2:Int)]) rfl ?_) rfl)
 ·rw[Z7 (ni0 rfl ?_)]
  ·rfl
  ·exact Bw.vy0 (by rw[o5 (x:=.int 2) (y:=.int 2) rfl rfl]; rfl)
 ·rfl
theorem e40(L:List (Nat×Nat)):O1 [.lst (L.map pN)]=some (.bl true):=by
 have key:∀(M:List (Nat×Nat)) (X s1 s2:Sl),∃s1' s2',G8 (gN 1) LO (M.map pN) [X,s1,s2]=some (.nx [X,s1',s2']):=by
  intro M
  induction M with
  | nil=>intro X s1 s2; exact⟨s1,s2,rfl⟩
  | cons p M ih =>
   intro X s1 s2;obtain⟨s1',s2',e⟩:=ih X (.sh (pN p)) (.sh (.int (p.2:Int)));refine⟨s1',s2',?_⟩
   rw[List.map_cons];unfold G8;rw[show gN 1 (pN p) [X,s1,s2]=some [X,.sh (pN p),s2] from rfl,Option.bind_some,Wy0];exact e
 obtain⟨s1,s2,e⟩:=key L (.sh (.lst (L.map pN))) .un .un;refine d7 rfl (u9 (δ':=[.sh (.lst (L.map pN)),.un,.un]) ?_ (u9 (J6 (items:=L.map pN) rfl e) (m8 (Z9 rfl))))
 rw[Z7 (by rfl)]
 rfl
theorem Ym0(L:List (Nat×Nat)):lean (.lst (L.map pN)) 50=true:=by
 show leans (L.map pN) 49=true
 exact qp0 L 48
section
variable{ps qs:List Pt}{r s:List Nat}
open Classical in
noncomputable def due(ps qs:List Pt)(r s:List Nat):D:=if Eqw ps qs r s then .lst ((SL (r.zip s)).map pN) else .non
theorem t10(hp:Web ps)(hq:Web qs)(mp:Met ps r)(mq:Met qs s):O7 [wd ps,wd qs,due ps qs r s]=some (.bl true):=by
 obtain⟨t1,t2⟩:=j20 hp hq mp mq;obtain⟨p1,p2⟩:=ux0 hp hq mp mq
 by_cases E:Eqw ps qs r s
 ·obtain⟨pf,pn⟩:=p1 E
  have st:=t1 E
  rw[show due ps qs r s=.lst ((SL (r.zip s)).map pN) from if_pos E];obtain⟨X,hX⟩:∃X:D,X=.lst ((SL (r.zip s)).map pN):=⟨_,rfl⟩;obtain⟨M,hM⟩:∃M:List D,M=(SL (r.zip s)).map pN:=⟨_,rfl⟩;have lX:lean (.lst M) 50=true:=by rw[hM]; exact Ym0 _
  have il:O1 [.lst M]=some (.bl true):=by rw[hM]; exact e40 _
  have ip:U0 [wd ps,wd qs,.lst M]=some (.bl true):=by rw[hM]; exact Yl0 hp hq mp mq E
  rw[← hM] at pf pn ⊢;refine d7 rfl (u9 (δ':=[.sh (wd ps),.sh (wd qs),.sh (.lst M),.ow (.lst M)]) ?_ (u9 (δ':=[.sh (wd ps),.sh (wd qs),.sh (.lst M),.ow (.lst M)]) ?_ (u9 (δ':=[.sh (wd ps),.sh (wd qs),.sh (.lst M),.ow (.lst M)]) ?_ (u9 (δ':=[.sh (wd ps),.sh (wd qs),.sh (.lst M),.ow (.lst M)]) ?_ (u9 (δ':=[.sh (wd ps),.sh (wd qs),.sh (.lst M),.ow (.lst [])]) rfl (m8 (Z9 ?_)))))))
  ·have e:V4 3 (oA (z9 (gv 0) (z9 (gv 1) v7)) R3) [.sh (wd ps),.sh (wd qs),.sh (.lst M),.un]=some (.nx [.sh (wd ps),.sh (wd qs),.sh (.lst M),.ow (.lst M)]):=by
    unfold V4;rw[o7 (ds:=[wd ps,wd qs]) rfl,pn];rfl
   show orS _ _ [.sh (wd ps),.sh (wd qs),.sh (.lst M),.un]=_
   unfold orS;rw[e]
  ·rw[Z7 (nb ?_)]
   ·rfl
   ·rw[o7 (ds:=[.bl true,.bl true]) (cons_of (by rw[o7 (ds:=[wd ps,wd qs]) rfl]; exact st) (cons_of (by rw[o5 (x:=.lst M) (y:=.non) rfl rfl]; rfl) rfl))]
    exact qo0 true
  ·rw[Z7 (by rfl)]
   rfl
  ·rw[Z7 (ni0 (nb ?_) (ni0 ?_ (nb ?_)))]
   ·rfl
   ·refine Z60 ?_ (by unfold tree; rfl)
    show oA (z9 (gv 3) v7) O1 [.sh (wd ps),.sh (wd qs),.sh (.lst M),.sh (.lst M)]=_
    rw[o7 (ds:=[.lst M]) rfl];exact il
   ·show ob (o2 (gv 3) (gv 2) y60) [.sh (wd ps),.sh (wd qs),.sh (.lst M),.sh (.lst M)]=_
    exact Bw.vy0 (by rw[o5 (x:=.lst M) (y:=.lst M) rfl rfl]; exact Pn.dy0 lX)
   ·unfold U3
    show Option.bind (oA (z9 (oA (z9 (gv 0) (z9 (gv 1) (z9 (oA (z9 (gv 3) v7) yk0) v7))) U0) (z9 (gc (.bl true)) v7)) J9 [.sh (wd ps),.sh (wd qs),.sh (.lst M),.sh (.lst M)]) _=_
    rw[o7 (ds:=[.bl true,.bl true]) (cons_of (by rw[o7 (ds:=[wd ps,wd qs,.lst M]) rfl]; exact ip) rfl),qo0]
    rfl
  ·rw[o5 (x:=.lst M) (y:=.lst M) (by rw[o7 (ds:=[wd ps,wd qs]) rfl]; exact pf) rfl]
   exact Pn.cc0 lX
 ·obtain⟨pf,pn⟩:=p2 E
  have st:=t2 E
  rw[show due ps qs r s=.non from if_neg E];refine d7 rfl (u9 (δ':=[.sh (wd ps),.sh (wd qs),.sh .non,.sh .non]) ?_ (u9 (δ':=[.sh (wd ps),.sh (wd qs),.sh .non,.sh .non]) ?_ (m8 ?_)))
  ·have e:V4 3 (oA (z9 (gv 0) (z9 (gv 1) v7)) R3) [.sh (wd ps),.sh (wd qs),.sh .non,.un]=none:=by
    unfold V4;rw[o7 (ds:=[wd ps,wd qs]) rfl,pn];rfl
   show orS _ _ [.sh (wd ps),.sh (wd qs),.sh .non,.un]=_
   unfold orS;rw[e];exact Z3 (d:=.non) (by rw[o7 (ds:=[wd ps,wd qs]) rfl]; exact pf)
  ·rw[Z7 (nb ?_)]
   ·rfl
   ·rw[o7 (ds:=[.bl false,.bl false]) (cons_of (by rw[o7 (ds:=[wd ps,wd qs]) rfl]; exact st) (cons_of (by rw[o5 (x:=.non) (y:=.non) rfl rfl]; rfl) rfl))]
    exact qo0 false
  ·rw[S8 (by rfl)]
   exact m8 (Z9 rfl)
end
end Ua
namespace Ua
open PySem DL W K22 SoT
open Ta (pa J7 ss0 getD_mem q30 nq0 ia0 j80 yi0 b90 f40 fj0 li0 LTt ls ba0 cx0 cs0)
theorem yc0(ns:List Int)(k:Int)(h0:0<=k):∃z,Z6 [.lst (ns.map .int),.int k]=some (.int z):=Gw.yc0 ns k h0
theorem p30(c t:Int):∃nm,G3 [.int c,.int t]=some (.lst (nm.map .str))/\Gw.Pool nm:=Gw.p30 c t
theorem s40(c k:Int)(hk:0<=k/\k<=1000000):∃x,0<=x/\x<2147483647/\V7 [.int c,.int k]=some (.int x):=Gw.s40 c k hk
theorem ml0(cs:List Int)(hc:0<cs.length/\cs.length<=1000)(m:Nat)(hm:0<m/\m<=1000)(nm:List Str)(hp:Gw.Pool nm) :
  ∃ps:List Pt,zd0 [.lst (cs.map .int),.int (m:Int),.lst (nm.map .str)]=some (.tup (ps.map Pt.d))/\ps.length=m/\∀p∈ps,Gw.Gd p (m:Int) nm:=Gw.ml0 cs hc m hm nm hp
theorem gy0(ns:List Int)(hl:ns.length<=63):∃ps,J0 [.lst (ns.map .int),.int 50]=some (wd ps)/\Web ps/\ps.length<=50:=by
 have z:(1000:Nat)<=sizeLine:=by decide
 obtain⟨c0,h0⟩:=yc0 ns 0 (by decide)
 obtain⟨c1,h1⟩:=yc0 ns 1 (by decide)
 obtain⟨t,ht⟩:=yc0 ns 2 (by decide)
 obtain⟨c3,h3⟩:=yc0 ns 3 (by decide)
 obtain⟨nm,hnm,pool⟩:=p30 c0 c1;obtain⟨m,hm,hmm⟩:∃m:Nat,(0<m/\m<=50)/\∀s4:Sl,o2 (gc (.int 1)) (o2 (gv 3) (o2 (X5 (z9 (gc (.int 12)) (z9 (gc (.int 12)) (z9 (gv 1) (z9 (gc (.int 4)) v7))))) (o2 (o2 (gv 3) (gc (.int 60)) b7) (gc (.int 4)) j5) ixD) j5) b8 [.sh (.lst (ns.map .int)),.sh (.int 50),.sh (.lst (nm.map .str)),.sh (.int t),s4]=some (.int (m:Int)):=by
  obtain⟨q,hq,hqq⟩:∃q:Int,(0<q/\q<=50)/\atI [D.int 12,D.int 12,D.int 50,D.int 4] (t/60%4)=some (.int q):=by
   have h:t/60%4=0∨t/60%4=1∨t/60%4=2∨t/60%4=3:=by omega
   rcases h with e|e|e|e<;>rw[e]
   ·exact⟨12,by decide,rfl⟩
   ·exact⟨12,by decide,rfl⟩
   ·exact⟨50,by decide,rfl⟩
   ·exact⟨4,by decide,rfl⟩
  have b1:0<=t%q:=Int.emod_nonneg _ (by omega)
  have b2:t%q<q:=Int.emod_lt_of_pos _ (by omega)
  refine⟨(1+t%q).toNat,by omega,fun s4=>?_⟩
  have e:(((1+t%q).toNat:Nat):Int)=1+t%q:=by omega
  rw[e];rw[o5 (x:=.int 1) (y:=.int (t%q)) rfl (by
   rw[o5 (x:=.int t) (y:=.int q) rfl (by
    rw[o5 (x:=.lst [D.int 12,D.int 12,D.int 50,D.int 4]) (y:=.int (t/60%4)) (vj0 rfl (by show (4:Nat)<=_; omega)) rfl]
    exact hqq)]
   exact Gw.xx0 _ _ hq.1)]
  rfl
 obtain⟨cs,hcl,hcs⟩:∃cs:List Int,(0<cs.length/\cs.length<=1000)/\o2 (U6 (gv 0) (someO (gc (.int 9))) (someO (gc (.int 60)))) (X5 (z9 (oA (z9 (gv 0) (z9 (gc (.int 3)) v7)) Z6) v7)) b8 [.sh (.lst (ns.map .int)),.sh (.int 50),.sh (.lst (nm.map .str)),.sh (.int t),.sh (.int (m:Int))]=some (.lst (cs.map .int)):=by
  obtain⟨us,hu,hue⟩:∃us:List Int,us.length<=63/\cutD (ns.map D.int) (some 9) (some 60)=us.map .int:=by
   refine⟨(ns.drop (sIx (ns.map D.int).length 0 (some 9))).take (sIx (ns.map D.int).length (ns.map D.int).length (some 60) - sIx (ns.map D.int).length 0 (some 9)),?_,?_⟩
   ·rw[List.length_take,List.length_drop]; omega
   ·unfold cutD
    rw[List.map_take,List.map_drop]
  refine⟨us++[c3],by simp; omega,?_⟩
  rw[o5 (x:=.lst (us.map .int)) (y:=.lst [.int c3]) (by rw[← hue]; rfl) (vj0 (cons_of (by rw[o7 (ds:=[.lst (ns.map .int),.int 3]) rfl]; exact h3) rfl) (by show (1:Nat)<=_; omega))]
  simp only[b8];rw[if_pos (by rw[List.length_map]; show us.length+1<=_; omega),List.map_append]
  rfl
 obtain⟨ps,hps,hpl,hg⟩:=ml0 cs hcl m ⟨hm.1,by omega⟩ nm pool
 refine⟨ps,d7 rfl (u9 (Z3 (d:=.lst (nm.map .str)) ?_) (u9 (Z3 (d:=.int t) ?_) (u9 (Z3 (hmm _)) (m8 (Z9 ?_))))),⟨by rw[hpl]; omega,fun p hp=>by rw[hpl]; exact V00 (hg p hp)⟩,by rw[hpl]; exact hm.2⟩
 ·rw[o7 (ds:=[.int c0,.int c1]) (cons_of (by rw[o7 (ds:=[.lst (ns.map .int),.int 0]) rfl]; exact h0) (cons_of (by rw[o7 (ds:=[.lst (ns.map .int),.int 1]) rfl]; exact h1) rfl))]
  exact hnm
 ·rw[o7 (ds:=[.lst (ns.map .int),.int 2]) rfl]
  exact ht
 ·rw[o7 (ds:=[.lst (cs.map .int),.int (m:Int),.lst (nm.map .str)]) (cons_of (by exact hcs) rfl)]
  exact hps
theorem ju0:∀(L:List Nat) (t:Nat),t<L.length->(L.getD t 0::L.eraseIdx t).Perm L
 | [],_,h=>by simp at h
 | a::L,0,_=>by simp
 | a::L,t+1,h=>by
  have ih:=ju0 L t (by simpa using h)
  have e1:(a::L).getD (t+1) 0=L.getD t 0:=by simp
  rw[e1,List.eraseIdx_cons_succ];exact(List.Perm.swap a _ _).trans (ih.cons a)
theorem az0(m:Sl)(n:Nat):∀(f:Nat) (c:Int) (L P:List Nat),L.length<f->P.length+L.length<=1000->(∀x∈P++L,x<n)->(P++L).Nodup->(∃s,P=0::s)->∃c' P',T9 LTt Ta.LB f (ls c m L P)=some (.nx (ls c' m [] P'))/\P'.length=P.length+L.length/\(∀x∈P',x<n)/\P'.Nodup/\∃s,P'=0::s:=by
 intro f
 induction f with
 | zero=>intro c L P h; omega
 | succ f ih =>
  intro c L P h h1 hL hn hz;unfold T9;rw[ba0]
  by_cases h0:0<L.length
  ·rw[decide_eq_true h0]
   obtain⟨c',t,ht,e⟩:=cx0 c m L P h0 (by omega)
   have hel:(L.eraseIdx t).length=L.length - 1:=by rw[List.length_eraseIdx,if_pos ht]
   have pm:(P++[L.getD t 0]++L.eraseIdx t).Perm (P++L):=by
    rw[List.append_assoc];exact(ju0 L t ht).append_left P
   obtain⟨s,hs⟩:=hz;obtain⟨c2,P',e2,e3,e4⟩:=ih c' (L.eraseIdx t) (P++[L.getD t 0]) (by omega) (by rw[List.length_append,List.length_singleton]; omega) (fun x hx=>hL x (pm.mem_iff.mp hx)) (pm.nodup_iff.mpr hn) ⟨s++[L.getD t 0],by rw[hs]; rfl⟩
   refine⟨c2,P',?_,by rw[e3,List.length_append,List.length_singleton]; omega,e4⟩
   dsimp only
   rw[e];exact e2
  ·rw[decide_eq_false h0]
   have:L=[]:=List.length_eq_zero_iff.mp (by omega)
   subst this;rw[List.append_nil] at hL hn;exact⟨c,P,rfl,rfl,hL,hn,hz⟩
theorem fi0(c:Int)(m:Nat)(hm:0<m/\m<=60):∃P,zi0 [.int c,.int (m:Int)]=some (.lst (nd P))/\P.length=m/\(∀x∈P,x<m)/\P.Nodup/\∃s,P=0::s:=by
 have e1:U7 1 (m:Int)=nd ((List.range (m - 1)).map fun k=>k+1):=by
  unfold U7 nd;rw[show ((m:Int) - 1).toNat=m - 1 from by omega,List.map_map]
  exact List.map_congr_left fun k _=>by show D.int (1+(k:Int))=D.int (((k+1:Nat):Nat):Int); congr 1; omega
 obtain⟨c',P,e,e2,e3⟩:=az0 (.sh (.int (m:Int))) m 100000 c ((List.range (m - 1)).map fun k=>k+1) [0] (by rw[List.length_map,List.length_range]; omega) (by simp; omega) (fun x hx=>by
  rcases List.mem_append.mp hx with hx|hx
  ·rw[List.mem_singleton.mp hx]; exact hm.1
  ·obtain⟨k,hk,rfl⟩:=List.mem_map.mp hx
   have:=List.mem_range.mp hk
   omega) (by
  show (0::(List.range (m - 1)).map fun k=>k+1).Nodup
  rw[List.nodup_cons];exact⟨fun z=>by obtain⟨k,_,q⟩:=List.mem_map.mp z; omega,Ta.ug0 (fun a b q=>by omega) List.nodup_range⟩) ⟨[],rfl⟩
 refine⟨P,O6 rfl (u9 (δ':=[.sh (.int c),.sh (.int (m:Int)),.ow (.lst (nd ((List.range (m - 1)).map fun k=>k+1))),.un]) ?_ (u9 (δ':=ls c (.sh (.int (m:Int))) ((List.range (m - 1)).map fun k=>k+1) [0]) ?_ (u9 e (Q9 rfl)))),by rw[e2,List.length_map,List.length_range,List.length_singleton]; omega,e3⟩
 ·unfold V4
  rw[o7 (ds:=[.int 1,.int (m:Int)]) rfl,cs0 (by decide) (by omega),e1]
  rfl
 ·rfl
def R1:GS:=(v8 (U4 (R5 (oA (z9 (o2 (gv 0) (gv 5) ixD) (z9 (gv 3) v7)) K1)) (setAt 4 (o2 (gv 3) (gv 5) ixD)))
 u6)
def R2:GS:=(v8 (U4 (R5 (m9 (z9 (gc (.str "row")) (z9 (m9 (z9 (m9 (z9 (gc (.str "at")) (z9 (o2 (o2 (gv 1) (o2 (gv 5) (gc (.int 2)) b8) b7) (U3 (oA (z9 (gv 4) v7) j8)) j5) v7))) (z9 (gc .non) (z9 (m9 (z9 (gc (.str "at")) (z9 (gc (.int 0)) v7))) v7)))) v7)))) (setAt 4 (o2 (gv 3) (o2 (oA (z9 (gv 0) v7) j8) (gv 5) b8) ixD)))
 u6)
def rs(ps:List Pt)(x:Int)(mo:Nat)(P:List Nat)(qs:List Pt)(s:Sl):Ds:=[.sh (wd ps),.sh (.int x),.sh (.int (mo:Int)),.sh (.lst (nd P)),.ow (.lst (qs.map Pt.d)),s]
theorem h90{qs:List Pt}{a b:Nat}{v:Pt}(h:b<qs.length):pa (qs.set a v) b=if a=b then v else pa qs b:=by
 unfold pa
 by_cases e:a=b
 ·subst e; rw[if_pos rfl]; simp[h]
 ·rw[if_neg e,List.getD_eq_getElem?_getD,List.getD_eq_getElem?_getD,List.getElem?_set_ne e]
structure Rn(N:Nat)(ps:List Pt)(P:List Nat)(i:Nat)(qs:List Pt):Prop where
 len:qs.length=N
 pw:∀q∈qs,Pw N q
 at_:∀k,k<i->pa qs (P.getD k 0)=rel (fun j=>P.getD j 0) (pa ps k)
theorem p00{P:List Nat}(hn:P.Nodup){a b:Nat}(ha:a<P.length)(hb:b<P.length)(h:a≠b):P.getD a 0≠P.getD b 0:=fun e=>by
 rw[show P.getD a 0=P[a] from by simp[ha],show P.getD b 0=P[b] from by simp[hb]] at e
 have q:∀{a b:Nat} (ha:a<P.length) (hb:b<P.length),a<b->P[a]≠P[b]:=fun {a b} ha hb hab=>List.pairwise_iff_getElem.mp hn a b ha hb hab
 rcases Nat.lt_or_gt_of_ne h with z|z
 ·exact q ha hb z e
 ·exact q hb ha z e.symm
theorem V40{ps:List Pt}(h:Web ps)(x:Int)(mo:Nat){P:List Nat}{qs:List Pt}{N:Nat}(hP:ps.length<=P.length)(hPN:∀y∈P,y<N)(hn:P.Nodup)(i:Nat)(hi:i<ps.length)(R:Rn N ps P i qs) :
  ∃qs',Rn N ps P (i+1) qs'/\R1 (rs ps x mo P qs (.sh (.int (i:Int))))=some (.nx (rs ps x mo P qs' (.sh (.int (i:Int))))):=by
 have hlen:=R.len
 obtain⟨e1,_,pw⟩:=h.at hi;have ep:pa ps i=ps[i]:=by unfold pa; simp[hi]
 have hPi:=hPN _ (getD_mem (show i<P.length by omega))
 have e2:K1 [ps[i].d,.lst (nd P)]=some (rel (fun j=>P.getD j 0) ps[i]).d:=g60 pw _ _ fun j hj=>.inl (ss0 P (by have:=ul0 pw.lv j hj; omega))
 refine⟨qs.set (P.getD i 0) (rel (fun j=>P.getD j 0) ps[i]),⟨by rw[List.length_set]; exact hlen,fun q hq'=>?_,fun k hk=>?_⟩,?_⟩
 ·rcases List.mem_or_eq_of_mem_set hq' with z|rfl
  ·exact R.pw q z
  ·exact gn0 pw _ fun j hj=>hPN _ (getD_mem (by have:=ul0 pw.lv j hj; omega))
 ·have hk':P.getD k 0<qs.length:=by rw[hlen]; exact hPN _ (getD_mem (by omega))
  rw[h90 hk']
  by_cases e:k=i
  ·subst e; rw[if_pos rfl,ep]
  ·rw[if_neg (p00 hn (by omega) (by omega) (Ne.symm e))]
   exact R.at_ k (by omega)
 ·refine u9 ?_ rfl
  rw[q30 (ds:=qs.map Pt.d) (j:=P.getD i 0) (v:=(rel (fun j=>P.getD j 0) ps[i]).d) rfl (by
   rw[o5 (x:=.lst (nd P)) (y:=.int (i:Int)) rfl rfl];exact ss0 P (by omega)) (by rw[List.length_map]; omega) (by
   rw[o7 (ds:=[ps[i].d,.lst (nd P)]) (cons_of (d:=ps[i].d) (by
    rw[o5 (x:=wd ps) (y:=.int (i:Int)) rfl rfl];exact e1) rfl)]
   exact e2),nq0]
  rfl
theorem Vt0(ps:List Pt)(x:Int)(mo:Nat){P:List Nat}{qs:List Pt}{N:Nat}(hP:P.length=ps.length+mo)(hPN:∀y∈P,y<N)(hn:P.Nodup)(hN:0<N)(i:Nat)(hi:i<mo)(hmo:mo<=100)(R:Rn N ps P ps.length qs) :
  ∃qs',Rn N ps P ps.length qs'/\R2 (rs ps x mo P qs (.sh (.int (i:Int))))=some (.nx (rs ps x mo P qs' (.sh (.int (i:Int))))):=by
 have hq:=R.len
 have hPi:=hPN _ (getD_mem (show ps.length+i<P.length by omega))
 have b1:0<=x/((i:Int)+2)%(N:Int):=Int.emod_nonneg _ (by omega)
 have b2:x/((i:Int)+2)%(N:Int)<N:=Int.emod_lt_of_pos _ (by omega)
 obtain⟨a,ha⟩:∃a:Nat,x/((i:Int)+2)%(N:Int)=(a:Int):=⟨(x/((i:Int)+2)%(N:Int)).toNat,by omega⟩
 refine⟨qs.set (P.getD (ps.length+i) 0) (ia0 a),⟨by rw[List.length_set]; exact hq,fun q hq'=>?_,fun k hk=>?_⟩,?_⟩
 ·rcases List.mem_or_eq_of_mem_set hq' with z|rfl
  ·exact R.pw q z
  ·exact j80 (by omega)
 ·have hk':P.getD k 0<qs.length:=by rw[hq]; exact hPN _ (getD_mem (by omega))
  rw[h90 hk',if_neg (p00 hn (by omega) (by omega) (by omega))]
  exact R.at_ k hk
 ·have z2:3<=sizeLine:=by decide
  refine u9 ?_ rfl
  rw[q30 (ds:=qs.map Pt.d) (j:=P.getD (ps.length+i) 0) (v:=(ia0 a).d) rfl (by
   rw[o5 (x:=.lst (nd P)) (y:=.int ((ps.length+i:Nat):Int)) rfl (by
    rw[o5 (x:=.int (ps.length:Int)) (y:=.int (i:Int)) (yi0 ps _ rfl) rfl];rfl)]
   exact ss0 P (by omega)) (by rw[List.length_map]; omega) (by
   refine V1 (ds:=[.str "row",.tup [.tup [.str "at",.int (a:Int)],.non,.tup [.str "at",.int 0]]]) (cons_of rfl (cons_of (V1 (cons_of (V1 (cons_of rfl (cons_of (d:=.int (a:Int)) ?_ rfl)) ?_) (cons_of rfl (cons_of rfl rfl))) z2) rfl)) ?_
   ·rw[o5 (x:=.int (x/((i:Int)+2))) (y:=.int (N:Int)) (by
     rw[o5 (x:=.int x) (y:=.int ((i:Int)+2)) rfl (by rw[o5 (x:=.int (i:Int)) (y:=.int 2) rfl rfl]; rfl)]
     exact Gw.m70 _ _ (by omega)) (by
     show some (D.int (((qs.map Pt.d).length:Nat):Int))=_
     rw[List.length_map,hq]),Gw.xx0 _ _ (by omega),ha]
   ·exact Nat.le_trans (by show 2<=3; decide) z2
   ·exact Nat.le_trans (by show 2<=3; decide) z2),nq0]
  rfl
theorem gi0{G:GS}{ps:List Pt}{x:Int}{mo:Nat}{P:List Nat}{N:Nat}(n:Nat)(g:Nat->Nat)(hG:∀i,i<n->∀qs:List Pt,Rn N ps P (g i) qs->∃qs':List Pt,Rn N ps P (g (i+1)) qs'/\G (rs ps x mo P qs (.sh (.int (i:Int))))=some (.nx (rs ps x mo P qs' (.sh (.int (i:Int))))))
  (qs:List Pt) (s:Sl) (hq:Rn N ps P (g 0) qs):∃qs' s',Rn N ps P (g n) qs'/\G8 (gN 5) G (U7 0 (n:Int)) (rs ps x mo P qs s)=some (.nx (rs ps x mo P qs' s')):=by
 obtain⟨δ',l1,qs',s',h1,rfl⟩:=z70 (f:=gN 5) (G:=G) (fun i δ=>∃(qs':List Pt) (s':Sl),Rn N ps P (g i) qs'/\δ=rs ps x mo P qs' s') (U7 0 (n:Int)) 0 (rs ps x mo P qs s) (by
  rintro j d δ hj ⟨q1,s1,h1,rfl⟩
  obtain⟨hjl',rfl⟩:=uk0 hj;rw[Nat.zero_add] at h1 ⊢;obtain⟨q2,k1,k3⟩:=hG j (by omega) q1 h1
  exact⟨_,_,rfl,k3,q2,_,k1,rfl⟩) ⟨qs,s,hq,rfl⟩
 rw[Nat.zero_add,xq0,Int.toNat_natCast] at h1;exact⟨qs',s',h1,l1⟩
theorem on0{ps:List Pt}(h:Web ps)(hl:ps.length<=50)(x:Int)(mo:Nat)(hmo:mo<=5) :
  ∃qs P,M6 [wd ps,.int x,.int (mo:Int)]=some (.tup [wd qs,.lst (nd P)])/\Web qs/\P.length=ps.length/\∀r,Met ps r->Iso ps qs r fun j=>P.getD j 0:=by
 have zs:(2000:Nat)<=sizeLine:=by decide
 have hp0:=h.len.1
 obtain⟨P,e,hPl,hPN,hPn,s0,hP0⟩:=fi0 x (ps.length+mo) ⟨by omega,by omega⟩
 have h0:Rn (ps.length+mo) ps P 0 (List.replicate (ps.length+mo) (Pt.text "b")):=⟨List.length_replicate,fun q hq=>by
  rw[List.eq_of_mem_replicate hq];exact⟨by show 0<=12; decide,fun v hv=>absurd hv (by show v∉[]; simp)⟩,fun k hk=>by omega⟩
 obtain⟨q1,s1,a1,a3⟩:=gi0 (G:=R1) (ps:=ps) (x:=x) (mo:=mo) (P:=P) ps.length id (fun i hi qs k1=>V40 h x mo (by omega) hPN hPn i hi k1) (List.replicate (ps.length+mo) (Pt.text "b")) .un h0
 obtain⟨q2,s2,b1,b3⟩:=gi0 (G:=R2) (ps:=ps) (x:=x) (mo:=mo) (P:=P) mo (fun _=>ps.length) (fun i hi qs k1=>Vt0 ps x mo hPl hPN hPn (by omega) i hi (by omega) k1) q1 s1 a1
 have hl2:=b1.len
 have tk:∀k,k<ps.length->(P.take ps.length).getD k 0=P.getD k 0:=fun k hk=>by
  rw[List.getD_eq_getElem?_getD,List.getD_eq_getElem?_getD,List.getElem?_take_of_lt hk]
 refine⟨q2,P.take ps.length,d7 rfl (u9 (δ':=[.sh (wd ps),.sh (.int x),.sh (.int (mo:Int)),.sh (.lst (nd P)),.un,.un]) (Z3 ?_) (u9 (δ':=rs ps x mo P (List.replicate (ps.length+mo) (Pt.text "b")) .un) ?_ (u9 (J6 (xl0 (n:=(ps.length:Int)) (cons_of (yi0 ps _ rfl) rfl) (by omega) (by omega)) a3) (u9 (J6 (xl0 (n:=(mo:Int)) rfl (by omega) (by omega)) b3) (m8 (Z9 ?_)))))),⟨by omega,by rw[hl2]; exact b1.pw⟩,by rw[List.length_take]; omega,fun r m=>?_⟩
 ·rw[o7 (ds:=[.int x,.int ((ps.length+mo:Nat):Int)]) (cons_of rfl (cons_of (by
   rw[o5 (x:=.int (ps.length:Int)) (y:=.int (mo:Int)) (yi0 ps _ rfl) rfl];rfl) rfl))]
  exact e
 ·unfold V4
  rw[o5 (x:=.lst [.tup [.str "text",.str "b"]]) (y:=.int ((ps.length+mo:Nat):Int)) (vj0 (cons_of (V1 rfl (by show 2<=sizeLine; omega)) rfl) (by show 1<=sizeLine; omega)) (by
   rw[o5 (x:=.int (ps.length:Int)) (y:=.int (mo:Int)) (yi0 ps _ rfl) rfl];rfl)]
  have em:mulL (.lst [.tup [.str "text",.str "b"]]) (.int ((ps.length+mo:Nat):Int))=some (.lst ((List.replicate (ps.length+mo) (Pt.text "b")).map Pt.d)):=by
   rw[fj0 (by simp) (by omega) rfl,Int.toNat_natCast]
   rw[li0,List.map_replicate];rfl
  rw[em];rfl
 ·show m9 _ (frz _)=_
  refine V1 (ds:=[wd q2,.lst (nd (P.take ps.length))]) (cons_of (d:=wd q2) ?_ (cons_of (d:=.lst (nd (P.take ps.length))) ?_ rfl)) (by show 2<=sizeLine; omega)
  ·rfl
  ·rw[b90 (xs:=nd P) (n:=ps.length) rfl (yi0 ps _ rfl)]
   unfold nd;rw[List.map_take]
 ·have cg:∀i∈r,rel (fun j=>P.getD j 0) (pa ps i)=rel (fun j=>(P.take ps.length).getD j 0) (pa ps i):=fun i hi=>o90 (J7 h (m.lt i hi)).2 fun j hj=>(tk j (ul0 (J7 h (m.lt i hi)).2.lv j hj)).symm
  refine⟨fun i hi=>?_,fun a ha b hb e=>?_,?_⟩
  ·have hin:=m.lt i hi
   rw[tk i hin,b1.at_ i hin,cg i hi];exact⟨by rw[hl2]; exact hPN _ (getD_mem (by omega)),rfl⟩
  ·have h1:=m.lt a ha
   have h2:=m.lt b hb
   rw[tk a h1,tk b h2] at e
   by_cases z:a=b
   ·exact z
   ·exact absurd e (p00 hPn (by omega) (by omega) z)
  ·rw[tk 0 hp0,hP0]
   rfl
end Ua
namespace Ua
open PySem DL W K22 SoT
open Ta (pN nb vu0 Wf0 ss0 getD_mem)
theorem tb0{qs:List Pt}(h:Web qs)(x:Int):∃rs,T6 [wd qs,.int x]=some (wd rs)/\Web rs/\rs.length=qs.length:=Ta.tb0 h x
theorem qn0(P:List Nat)(S:List Nat)(hS:∀k∈S,k<P.length):W6 (gN 0) noT (m9 (z9 (gv 0) (z9 (o2 (gv 1) (gv 0) ixD) v7))) [.un,.sh (.lst (nd P))] (nd S)=some ((S.map fun k=>(k,P.getD k 0)).map pN):=Ta.qn0 P S hS
theorem t60(f:Nat->Nat):∀r:List Nat,(r.map fun k=>(k,f k))=r.zip (r.map f)
 | []=>rfl
 | a::r=>by rw[List.map_cons,List.map_cons,List.zip_cons_cons,t60 f r]
theorem lo0:∀r s:List Nat,(r.zip s).map (fun p=>(p.2,p.1))=s.zip r
 | [],s=>by cases s<;>rfl
 | _::_,[]=>rfl
 | a::r,b::s=>by rw[List.zip_cons_cons,List.map_cons,lo0 r s]; rfl
theorem a00{ps qs:List Pt}{r s:List Nat}(h:¬Eqw ps qs r s):¬Eqw qs ps s r:=fun z=>h z.symm
theorem id_comp:∀L:List (Nat×Nat),W6 (ze0 0 1) noT (m9 (z9 (gv 0) (z9 (gv 1) v7))) [.un,.un] (L.map pN)=some (L.map pN)
 | []=>rfl
 | p::L=>by
  have ih:=id_comp L
  have hv:m9 (z9 (gv 0) (z9 (gv 1) v7)) [.sh (.int (p.1:Int)),.sh (.int (p.2:Int))]=some (pN p):=V1 rfl (by show 2<=sizeLine; decide)
  rw[List.map_cons];unfold W6;rw[show ze0 0 1 (pN p) [Sl.un,.un]=some [.sh (.int (p.1:Int)),.sh (.int (p.2:Int))] from rfl]
  dsimp only
  rw[show noT [Sl.sh (.int (p.1:Int)),.sh (.int (p.2:Int))]=some true from rfl,ih]
  dsimp only
  rw[hv];rfl
theorem pk0:∀L:List (Nat×Nat),W6 (ze0 0 1) noT (m9 (z9 (gv 1) (z9 (gv 0) v7))) [.un,.un] (L.map pN)=some ((L.map fun p=>(p.2,p.1)).map pN)
 | []=>rfl
 | p::L=>by
  have ih:=pk0 L
  have hv:m9 (z9 (gv 1) (z9 (gv 0) v7)) [.sh (.int (p.1:Int)),.sh (.int (p.2:Int))]=some (pN (p.2,p.1)):=V1 rfl (by show 2<=sizeLine; decide)
  rw[List.map_cons];unfold W6;rw[show ze0 0 1 (pN p) [Sl.un,.un]=some [.sh (.int (p.1:Int)),.sh (.int (p.2:Int))] from rfl]
  dsimp only
  rw[show noT [Sl.sh (.int (p.1:Int)),.sh (.int (p.2:Int))]=some true from rfl,ih]
  dsimp only
  rw[hv];rfl
theorem df0(S:List Nat):W6 (gN 0) noT (m9 (z9 (gv 0) (z9 (gv 0) v7))) [.un] (nd S)=some ((S.zip S).map pN):=by
 rw[S5 (fun d=>.tup [d,d]) fun d hd=>⟨[.sh d],rfl,rfl,V1 rfl (by show 2<=sizeLine; decide)⟩]
 have e:=t60 id S
 rw[List.map_id] at e;rw[← e];unfold nd;rw[List.map_map,List.map_map];rfl
theorem Wm0{r:List Nat}(hn:r.Nodup){j:Nat}(hj:j<r.length):r.idxOf r[j]=j :=
 (List.getElem_inj hn).mp (List.getElem_idxOf (List.idxOf_lt_length_of_mem (List.getElem_mem hj)))
theorem Y10{r:List Nat}(hn:r.Nodup):W6 (ze0 0 1) noT (m9 (z9 (gv 1) (z9 (gv 0) v7))) [.un,.un] (zc0 (nd r))=some ((r.zip (r.map fun k=>r.idxOf k)).map pN):=by
 have e:zc0 (nd r)=(((r.zip (r.map fun k=>r.idxOf k)).map fun p=>(p.2,p.1))).map pN:=by
  apply List.ext_getElem?
  intro j;rw[← t60,List.map_map,List.map_map,List.getElem?_map]
  by_cases hj:j<r.length
  ·rw[List.getElem?_eq_getElem hj]
   cases q:(zc0 (nd r))[j]? with
   | none =>
    have:=List.getElem?_eq_none_iff.mp q
    rw[ve0] at this;omega
   | some d =>
    obtain⟨_,rfl⟩:=my0 q;show _=some (pN (r.idxOf r[j],r[j]));rw[Wm0 hn hj];rfl
  ·rw[List.getElem?_eq_none (by rw[ve0]; omega),List.getElem?_eq_none (by omega)]
   rfl
 have k:∀X:List (Nat×Nat),(X.map fun p:Nat×Nat=>(p.2,p.1)).map (fun p:Nat×Nat=>(p.2,p.1))=X:=fun X=>by
  rw[List.map_map];exact(List.map_congr_left (g:=id) fun p _=>rfl).trans (List.map_id _)
 rw[e,pk0,k]
theorem se0{g:GE}{δ:Ds}{L:List (Nat×Nat)}(h:g δ=some (.lst (L.map pN)))(hn:L.Nodup)(h9:L.length<64):oA (z9 g v7) zj0 δ=some (.lst ((SL L).map pN)):=by
 rw[o7 (ds:=[.lst (L.map pN)]) (cons_of h rfl)];exact Zc0 hn h9
theorem bu0(L:List (Nat×Nat)):SL ((SL L).map fun p=>(p.2,p.1))=SL (L.map fun p=>(p.2,p.1)):=Zf0 ((wu0 L).map _)
theorem sj0{ps qs:List Pt}{r s:List Nat}(h:Eqw ps qs r s):due ps qs r s=.lst ((SL (r.zip s)).map pN):=if_pos h
theorem iz0{ps qs:List Pt}{r s:List Nat}(h:¬Eqw ps qs r s):due ps qs r s=.non:=if_neg h
theorem v70{r s:List Nat}(h:r.length<=60):(r.zip s).length<64:=by rw[List.length_zip]; omega
theorem ep0(ns:List Int)(hl:ns.length<=63):sv0 [.lst (ns.map .int)]=some (.bl true):=by
 have zs:(2000:Nat)<=sizeLine:=by decide
 obtain⟨ps,hps,wps,l50⟩:=gy0 ns hl;obtain⟨t,ht⟩:=yc0 ns 4 (by decide)
 obtain⟨c5,h5⟩:=yc0 ns 5 (by decide)
 obtain⟨x5,_,_,hx5⟩:=s40 c5 21 (by decide)
 obtain⟨mo,hmo,emo⟩:∃mo:Nat,mo<=5/\t%6=(mo:Int):=⟨(t%6).toNat,by omega,by omega⟩
 obtain⟨q0,P,hr,wq0,lP,iso⟩:=on0 wps l50 x5 mo hmo;obtain⟨c6,h6⟩:=yc0 ns 6 (by decide)
 obtain⟨x6,_,_,hx6⟩:=s40 c6 9 (by decide)
 obtain⟨q1,hq1,wq1,_⟩:=tb0 wq0 x6;obtain⟨r,mr⟩:=gp0 wps;have h60:=(mr.len wps).2;obtain⟨m0,e0⟩:=je0 wps wq0 mr (iso r mr);have E0:Eqw ps q0 r (r.map fun j=>P.getD j 0):=by unfold Eqw; rw[e0]
 obtain⟨s1,m1⟩:=gp0 wq1;have or_:∀{i:Nat} {δ:Ds},gv i δ=some (wd ps)->oA (z9 (gv i) v7) W3 δ=some (.lst (nd r)):=fun {i δ} h=>by
  rw[o7 (ds:=[wd ps]) (cons_of h rfl)]; exact rn0 wps mr
 obtain⟨A,hA⟩:∃A:D,A=.lst (ns.map .int):=⟨_,rfl⟩;obtain⟨qs,s,wq,ms,eq⟩:∃(qs:List Pt) (s:List Nat),Web qs/\Met qs s/\ifD (ob (o2 (o2 (o2 (gv 2) (gc (.int 6)) b7) (gc (.int 3)) j5) (gc (.int 1)) Q6))
   (v8 (n8 (gN 3) (oA (z9 (gv 3) (z9 (oA (z9 (oA (z9 (gv 0) (z9 (gc (.int 6)) v7)) Z6) (z9 (gc (.int 9)) v7)) V7) v7)) T6))
   (v8 (n8 (gN 5) (gc .non))
   (v8 (ifD (ob (o2 (oA (z9 (gv 3) v7) X7) (oA (z9 (gv 1) v7) X7) Q6))
   (v8 (n8 (gN 5) (oA (z9 (Z0 2 [] (vg0 (z9 (oA (z9 (gv 1) v7) W3) (z9 (oA (z9 (gv 3) v7) W3) v7))) (ze0 0 1) noT (m9 (z9 (gv 0) (z9 (gv 1) v7)))) v7) zj0))
   u6)
   u6)
   u6))) u6 [.sh (.lst (ns.map .int)),.sh (wd ps),.sh (.int t),.sh (wd q0),.sh (.lst (nd P)),.sh (due ps q0 r (r.map fun j=>P.getD j 0)),.un,.un,.un]=some (.nx [.sh (.lst (ns.map .int)),.sh (wd ps),.sh (.int t),.sh (wd qs),.sh (.lst (nd P)),.sh (due ps qs r s),.un,.un,.un]):=by
  have htt:∀d:D,ob (o2 (o2 (o2 (gv 2) (gc (.int 6)) b7) (gc (.int 3)) j5) (gc (.int 1)) Q6) [.sh (.lst (ns.map .int)),.sh (wd ps),.sh (.int t),.sh (wd q0),.sh (.lst (nd P)),.sh d,.un,.un,.un]=some (decide (t/6%3=1)):=fun d=>Bw.vy0 (by
   rw[o5 (x:=.int (t/6%3)) (y:=.int 1) (by rw[o5 (x:=.int (t/6)) (y:=.int 3) (by rw[o5 (x:=.int t) (y:=.int 6) rfl rfl]; rfl) rfl]; rfl) rfl]
   exact Wf0 _ _)
  by_cases z:t/6%3=1
  ·refine⟨q1,s1,wq1,m1,?_⟩
   rw[S8 ((htt _).trans (by rw[decide_eq_true z]))]
   have rt:∀(d e:D),ob (o2 (oA (z9 (gv 3) v7) X7) (oA (z9 (gv 1) v7) X7) Q6) [.sh (.lst (ns.map .int)),.sh (wd ps),.sh (.int t),.sh (wd q1),.sh d,.sh e,.un,.un,.un]=ob (fun _=>Q6 (wd (dr q1 s1)) (wd (dr ps r))) []:=fun d e=>by
    unfold ob;rw[o5 (x:=wd (dr q1 s1)) (y:=wd (dr ps r)) (by rw[o7 (ds:=[wd q1]) rfl]; exact p20 wq1 m1) (by rw[o7 (ds:=[wd ps]) rfl]; exact p20 wps mr)]
   obtain⟨t1,t2⟩:=jg0 (ym0 wq1 m1).1 (ym0 wps mr).1;refine u9 (Z3 (d:=wd q1) ?_) (u9 (Z3 (d:=.non) rfl) (u9 (δ':=[.sh (.lst (ns.map .int)),.sh (wd ps),.sh (.int t),.sh (wd q1),.sh (.lst (nd P)),.sh (due ps q1 r s1),.un,.un,.un]) ?_ rfl))
   ·rw[o7 (ds:=[wd q0,.int x6]) (cons_of rfl (cons_of (by
     rw[o7 (ds:=[.int c6,.int 9]) (cons_of (by rw[o7 (ds:=[.lst (ns.map .int),.int 6]) rfl]; exact h6) rfl)]
     exact hx6) rfl))]
    exact hq1
   ·by_cases E:Eqw ps q1 r s1
    ·rw[sj0 E]
     erw[S8 ((rt _ _).trans (by unfold ob; rw[t1 E.symm]; rfl))]
     refine u9 (Z3 ?_) rfl
     refine se0 ?_ (v80 mr.nd) (v70 h60)
     refine W7 (items:=(r.zip s1).map pN) ?_ (by rw[List.length_map,List.length_zip]; omega) (id_comp _)
     unfold vg0;rw[cons_of (or_ rfl) (cons_of (d:=.lst (nd s1)) (ds:=[]) (by rw[o7 (ds:=[wd q1]) rfl]; exact rn0 wq1 m1) rfl)]
     show some (((nd r).zip (nd s1)).map fun p=>D.tup [p.1,p.2])=_
     rw[lg0]
    ·rw[iz0 E]
     erw[Z7 ((rt _ _).trans (by unfold ob; rw[t2 (fun z=>E z.symm)]; rfl))]
     rfl
  ·refine⟨q0,_,wq0,m0,?_⟩
   rw[Z7 ((htt _).trans (by rw[decide_eq_false z]))]
   rfl
 have E9:Eqw ps ps r r:=rfl
 have hdw:=(ym0 wps mr).1
 obtain⟨md,ed⟩:=je0 wps hdw mr (W00 wps mr);have Ed:Eqw ps (dr ps r) r (r.map fun j=>r.idxOf j):=by unfold Eqw; rw[ed]
 have bk:∀X:Ds,X=[.sh (.lst (ns.map .int)),.sh (wd ps),.sh (.int t),.sh (wd qs),.sh (.lst (nd P)),.sh (due ps qs r s),.sh (due ps qs r s),.un,.un]->ifD (ob (o2 (gv 5) (gc .non) nc0)) (v8 (n8 (gN 6) (oA (z9 (Z0 2 [] (R0 (gv 5)) (ze0 0 1) noT (m9 (z9 (gv 1) (z9 (gv 0) v7)))) v7) zj0)) u6) u6 X=some (.nx [.sh (.lst (ns.map .int)),.sh (wd ps),.sh (.int t),.sh (wd qs),.sh (.lst (nd P)),.sh (due ps qs r s),.sh (due qs ps s r),.un,.un]):=by
  rintro X rfl
  by_cases E:Eqw ps qs r s
  ·rw[sj0 E,sj0 (show Eqw qs ps s r from E.symm),S8 (by rfl)]
   refine u9 (Z3 ?_) rfl
   have hl2:(SL (r.zip s)).length<64:=by rw[(wu0 _).length_eq]; exact v70 h60
   have hs:=se0 (g:=Z0 2 [] (R0 (gv 5)) (ze0 0 1) noT (m9 (z9 (gv 1) (z9 (gv 0) v7)))) (δ:=[.sh (.lst (ns.map .int)),.sh (wd ps),.sh (.int t),.sh (wd qs),.sh (.lst (nd P)),.sh (.lst ((SL (r.zip s)).map pN)),.sh (.lst ((SL (r.zip s)).map pN)),.un,.un]) (L:=(SL (r.zip s)).map fun p:Nat×Nat=>(p.2,p.1)) (W7 (items:=(SL (r.zip s)).map pN) rfl (by rw[List.length_map]; omega) (pk0 _)) (Ta.ug0 (fun a b e=>Prod.ext (congrArg Prod.snd e) (congrArg Prod.fst e)) ((wu0 _).nodup_iff.mpr (v80 mr.nd))) (by rw[List.length_map]; exact hl2)
   rw[bu0,lo0] at hs;exact hs
  ·rw[iz0 E,iz0 (a00 E),Z7 (by rfl)]
   rfl
 refine d7 rfl (u9 (Z3 (d:=wd ps) ?_) (u9 (Z3 (d:=.int t) ?_) (u9 (δ':=[.sh (.lst (ns.map .int)),.sh (wd ps),.sh (.int t),.sh (wd q0),.sh (.lst (nd P)),.un,.un,.un,.un]) ?_ (u9 (Z3 (d:=due ps q0 r (r.map fun j=>P.getD j 0)) ?_) (u9 eq (u9 (Z3 (d:=due ps qs r s) rfl) (u9 (bk _ rfl) (u9 (δ':=[.sh (.lst (ns.map .int)),.sh (wd ps),.sh (.int t),.sh (wd qs),.sh (.lst (nd P)),.sh (due ps qs r s),.sh (due qs ps s r),.un,.un]) ?_ (u9 (Z3 (d:=due ps ps r r) ?_) (u9 (Z3 (d:=due ps (dr ps r) r (r.map fun j=>r.idxOf j)) ?_) (m8 (Z9 ?_))))))))))))
 ·rw[o7 (ds:=[.lst (ns.map .int),.int 50]) rfl]
  exact hps
 ·rw[o7 (ds:=[.lst (ns.map .int),.int 4]) rfl]
  exact ht
 ·unfold U4 R5
  rw[o7 (ds:=[wd ps,.int x5,.int (mo:Int)]) (cons_of rfl (cons_of (by
   rw[o7 (ds:=[.int c5,.int 21]) (cons_of (by rw[o7 (ds:=[.lst (ns.map .int),.int 5]) rfl]; exact h5) rfl)]
   exact hx5) (cons_of (by rw[o5 (x:=.int t) (y:=.int 6) rfl rfl,Gw.xx0 _ _ (by decide),emo]) rfl))),hr]
  rfl
 ·rw[sj0 E0]
  refine se0 ?_ (v80 mr.nd) (v70 h60)
  rw[← t60];refine W7 (items:=nd r) ?_ (by rw[R4]; omega) (qn0 P r fun k hk=>by have:=mr.lt k hk; omega)
  unfold R0;rw[or_ rfl];rfl
 ·rw[Z7 (ni0 (nb ?_) (nb ?_))]
  ·rfl
  ·rw[o7 (ds:=[wd ps,wd qs,due ps qs r s]) rfl]
   exact t10 wps wq mr ms
  ·rw[o7 (ds:=[wd qs,wd ps,due qs ps s r]) rfl]
   exact t10 wq wps ms mr
 ·rw[sj0 E9]
  refine se0 ?_ (v80 mr.nd) (v70 h60)
  refine W7 (items:=nd r) ?_ (by rw[R4]; omega) (df0 r)
  unfold R0;rw[or_ rfl];rfl
 ·rw[sj0 Ed]
  refine se0 ?_ (v80 mr.nd) (v70 h60)
  refine W7 (items:=zc0 (nd r)) ?_ (by rw[ve0]; omega) (Y10 mr.nd)
  exact j00 _ r (cons_of (or_ rfl) rfl)
 ·unfold J1
  rw[Bw.vy0 (b:=true) (by rw[o7 (ds:=[wd ps,wd ps,due ps ps r r]) rfl]; exact t10 wps wps mr mr),Option.bind_some,if_pos rfl]
  rw[o7 (ds:=[wd ps,wd (dr ps r),due ps (dr ps r) r (r.map fun j=>r.idxOf j)]) (cons_of rfl (cons_of (by rw[o7 (ds:=[wd ps]) rfl]; exact p20 wps mr) rfl))]
  exact t10 wps hdw mr md
end Ua
namespace Ua
open PySem L2 DL W
def top(i:Nat):Stmt:=PySem.Challenge.pw_graphpack_k17_pairings_told.main.body.getD i (.Pass ⟨0,0,0,0⟩)
theorem b_all:bootBuiltins "all"=some (.builtin "all"):=by decide +kernel
theorem b_bool:bootBuiltins "bool"=some (.type "bool"):=by decide +kernel
theorem b_dict:bootBuiltins "dict"=some (.type "dict"):=by decide +kernel
theorem b_int:bootBuiltins "int"=some (.type "int"):=by decide +kernel
theorem b_list:bootBuiltins "list"=some (.type "list"):=by decide +kernel
theorem b_sorted:bootBuiltins "sorted"=some (.builtin "sorted"):=by decide +kernel
theorem b_tuple:bootBuiltins "tuple"=some (.type "tuple"):=by decide +kernel
theorem b_zip:bootBuiltins "zip"=some (.type "zip"):=by decide +kernel
structure Txt(mg:Str->Option Value):Prop where
 b_all:mg "all"=none
 b_bool:mg "bool"=none
 b_dict:mg "dict"=none
 b_enumerate:mg "enumerate"=none
 b_int:mg "int"=none
 b_isinstance:mg "isinstance"=none
 b_len:mg "len"=none
 b_list:mg "list"=none
 b_range:mg "range"=none
 b_reversed:mg "reversed"=none
 b_set:mg "set"=none
 b_sorted:mg "sorted"=none
 b_tuple:mg "tuple"=none
 b_zip:mg "zip"=none
section
variable{P:Program}{w:World}{K:W.Frag}{mg:Str->Option Value}{base:Heap}
theorem ou0:FnScope ["part"] ["part"] (p6 (top 1)):=⟨rfl,rfl,rfl,by decide +kernel,rfl,by decide +kernel,by decide +kernel⟩
theorem ox0{fa:Addr}{fd:FuncData}(F:Fun K "pair_names" "pair_names" (top 1) fa fd)(T:Txt mg)  : FnOk P w K mg base CX0 1 fa fd ["part"] (spN K Y7) :=
 okN (k:=0) (G:=O8) F ou0 (fun cdv A outer s H E hr=>(v6 (d8 (PWD.pt (vs0 (d9 M3 T7 (o6 (v5 0) p7) Z2) (wx0 (d9 M3 T7 (o6 (v5 0) p7) Z2))))
   (v6 (M5 (K6 v9))
   u5)
   u5)
   (v6 (M5 (vh0 (sc:=p6 (top 1)) (N:=["part"]) (N':=["pair"]) (n:=1) (caps:=[]) ⟨rfl,by decide +kernel,by decide +kernel,by decide +kernel,by decide +kernel,rfl,by decide +kernel⟩ (by decide) (sk0 (o6 (v5 0) (tt0 p7))) (fun cl s H ex=>p8 0 (by decide +kernel:(["pair"]:List Str).Nodup)) (fun cl s H ex=>V8) (fun cl s H ex=>(o6 (v5 0) p7))))
   u5))) (fun ds d h=>zy0 h)
theorem bz0:FnScope ["part"] ["part"] (p6 (top 2)):=⟨rfl,rfl,rfl,by decide +kernel,rfl,by decide +kernel,by decide +kernel⟩
theorem au0{fa:Addr}{fd:FuncData}(F:Fun K "head" "head" (top 2) fa fd)(T:Txt mg)(C_pair_names:FnN P w K mg base "pair_names" 1 ["part"] Y7):FnOk P w K mg base CX0 2 fa fd ["part"] (spD K M7) :=
 okD (k:=1) (G:=ui0) F bz0 (fun cdv A outer s H E hr=>(v6 (d8 (d9 M3 T7 (o6 (v5 0) p7) Z2)
   (v6 (m7 (Y6 (w6 Z2 (w6 (o6 (v5 0) p7) v9))))
   u5)
   u5)
   (v6 (d8 (d9 M3 T7 (o6 (v5 0) p7) Z2)
   (v6 (m7 (Y6 (w6 Z2 (w6 (V3 T.b_len (w6 (o6 (v5 0) p7) v9)) v9))))
   u5)
   u5)
   (v6 (d8 (d9 M3 T7 (o6 (v5 0) p7) Z2)
   (v6 (m7 (Y6 (w6 Z2 (w6 (T4 V2 zw0 T.b_tuple b_tuple (w6 (R8 C_pair_names hr (by decide) (w6 (v5 0) v9)) v9)) v9))))
   u5)
   u5)
   (v6 (m7 (Y6 (w6 Z2 (w6 (o6 (v5 0) p7) (w6 (T4 V2 zw0 T.b_tuple b_tuple (w6 (R8 C_pair_names hr (by decide) (w6 (v5 0) v9)) v9)) v9)))))
   u5))))) (fun ds d h=>W5 h)
theorem ea0:FnScope ["part"] ["part"] (p6 (top 3)):=⟨rfl,rfl,rfl,by decide +kernel,rfl,by decide +kernel,by decide +kernel⟩
theorem g00{fa:Addr}{fd:FuncData}(F:Fun K "values" "values" (top 3) fa fd)(T:Txt mg)  : FnOk P w K mg base CX0 1 fa fd ["part"] (spN K m_values) :=
 okN (k:=0) (G:=y50) F ea0 (fun cdv A outer s H E hr=>(v6 (d8 (d9 M3 T7 (o6 (v5 0) p7) Z2)
   (v6 (M5 (K6 v9))
   u5)
   u5)
   (v6 (d8 (d9 M3 T7 (o6 (v5 0) p7) Z2)
   (v6 (M5 (md0 T.b_list b_list (o6 (v5 0) p7)))
   u5)
   u5)
   (v6 (M5 (vh0 (sc:=p6 (top 3)) (N:=["part"]) (N':=["pair"]) (n:=1) (caps:=[]) ⟨rfl,by decide +kernel,by decide +kernel,by decide +kernel,by decide +kernel,rfl,by decide +kernel⟩ (by decide) (sk0 (o6 (v5 0) (tt0 p7))) (fun cl s H ex=>p8 0 (by decide +kernel:(["pair"]:List Str).Nodup)) (fun cl s H ex=>V8) (fun cl s H ex=>(o6 (v5 0) p7))))
   u5)))) (fun ds d h=>zy0 h)
theorem uu0:FnScope ["part", "some", "pairs"] ["part", "some"] (p6 (top 4)):=⟨rfl,rfl,rfl,by decide +kernel,rfl,by decide +kernel,by decide +kernel⟩
theorem qr0{fa:Addr}{fd:FuncData}(F:Fun K "with_values" "with_values" (top 4) fa fd)(T:Txt mg)(C_pair_names:FnN P w K mg base "pair_names" 1 ["part"] Y7):FnOk P w K mg base CX0 2 fa fd ["part", "some"] (spD K V6) :=
 okD (k:=1) (G:=J2) F uu0 (fun cdv A outer s H E hr=>(v6 (d8 (d9 M3 T7 (o6 (v5 0) p7) Z2)
   (v6 (m7 (v5 0))
   u5)
   u5)
   (v6 (d8 (d9 M3 T7 (o6 (v5 0) p7) Z2)
   (v6 (m7 (Y6 (w6 Z2 (w6 (T4 V2 zw0 T.b_tuple b_tuple (w6 (v5 1) v9)) v9))))
   u5)
   u5)
   (v6 (j9 (fn0 p50 e20 T.b_tuple T.b_zip b_tuple b_zip (w6 (R8 C_pair_names hr (by decide) (w6 (v5 0) v9)) (w6 (v5 1) v9))) (p8 2 uu0.nd))
   (v6 (d8 (d9 M3 T7 (o6 (v5 0) p7) Z2)
   (v6 (m7 (Y6 (w6 Z2 (w6 (v5 2) v9))))
   u5)
   u5)
   (v6 (m7 (Y6 (w6 Z2 (w6 (o6 (v5 0) p7) (w6 (v5 2) v9)))))
   u5)))))) (fun ds d h=>W5 h)
theorem d50:FnScope ["part"] ["part"] (p6 (top 5)):=⟨rfl,rfl,rfl,by decide +kernel,rfl,by decide +kernel,by decide +kernel⟩
theorem er0{fa:Addr}{fd:FuncData}(F:Fun K "links" "links" (top 5) fa fd)(T:Txt mg)(C_values:FnN P w K mg base "values" 1 ["part"] m_values):FnOk P w K mg base CX0 2 fa fd ["part"] (spN K G9) :=
 okN (k:=1) (G:=sx0) F d50 (fun cdv A outer s H E hr=>(v6 (M5 (vh0 (sc:=p6 (top 5)) (N:=["part"]) (N':=["value"]) (n:=1) (caps:=[]) ⟨rfl,by decide +kernel,by decide +kernel,by decide +kernel,by decide +kernel,rfl,by decide +kernel⟩ (by decide) (U8 (R8 C_values hr (by decide) (w6 (v5 0) v9))) (fun cl s H ex=>p8 0 (by decide +kernel:(["value"]:List Str).Nodup)) (fun cl s H ex=>(Y80 (U9 (y30 zt0 b_tuple T.b_isinstance T.b_tuple (v5 0))))) (fun cl s H ex=>(o6 (v5 0) p7))))
   u5)) (fun ds d h=>zy0 h)
theorem Wh0:FnScope ["web", "k"] ["web", "k"] (p6 (top 6)):=⟨rfl,rfl,rfl,by decide +kernel,rfl,by decide +kernel,by decide +kernel⟩
theorem ec0{fa:Addr}{fd:FuncData}{dV:Value}(F:FunV K "met" "met" (top 6) fa fd dV)(T:Txt mg)(C_met_but:FnN P w K mg base "met_but" 3 ["web", "k", "left"] y40):FnOk P w K mg base CX0 4 fa fd ["web", "k"] (spN K zb0) :=
 Ur0 (k:=3) (G:=bc0) F Wh0 (fun cdv A outer s H E hr=>(v6 (M5 (tm0 C_met_but hr (by decide) (w6 (v5 0) (w6 (v5 1) (w6 dh0 v9)))))
   u5)) (fun ds d h=>zy0 h)
theorem xb0:FnScope ["web", "k", "left", "order", "seen", "waiting", "part"] ["web", "k", "left"] (p6 (top 7)):=⟨rfl,rfl,rfl,by decide +kernel,rfl,by decide +kernel,by decide +kernel⟩
theorem ib0{fa:Addr}{fd:FuncData}(F:Fun K "met_but" "met_but" (top 7) fa fd)(T:Txt mg)(C_links:FnN P w K mg base "links" 2 ["part"] G9):FnOk P w K mg base CX0 3 fa fd ["web", "k", "left"] (spN K y40) :=
 okN (k:=2) (G:=u00) F xb0 (fun cdv A outer s H E hr=>(v6 (T3 3 (K6 v9) xb0.nd)
   (v6 (T3 4 (iu0 T.b_dict b_dict (v5 2)) xb0.nd)
   (v6 (T3 5 (K6 (w6 (v5 1) v9)) xb0.nd)
   (v6 (tv0 100000 PassesOwn.never (d9 ix0 ll0 (zu0 (V3 T.b_len (w6 (v5 5) v9))) p7)
   (v6 (zf0 (ff0 5) (k60 (p8 6 xb0.nd)))
   (v6 (d8 (sr0 (mf0 (ta0 hr) (v5 6) (v5 4)))
   (v6 (zf0 (xp0 za0) (qm0 4 (ta0 hr) (v5 6)))
   (v6 (N6 (wg0 3 (v5 6)))
   (v6 (N6 (Xo0 5 (PDF.pd (de0 T.b_list T.b_reversed (R8 C_links hr (by decide) (w6 (o6 (v5 0) (v5 6)) v9))))))
   u5)))
   u5)
   u5)))
   (v6 (vv0 3)
   u5)))))) (fun ds d h=>zy0 h)
theorem rg0:FnScope ["part", "numbers", "some"] ["part", "numbers"] (p6 (top 8)):=⟨rfl,rfl,rfl,by decide +kernel,rfl,by decide +kernel,by decide +kernel⟩
theorem ku0{fa:Addr}{fd:FuncData}(F:Fun K "relinked" "relinked" (top 8) fa fd)(T:Txt mg)(C_values:FnN P w K mg base "values" 1 ["part"] m_values)(C_with_values:FnD P w K mg base "with_values" 2 ["part", "some"] V6):FnOk P w K mg base CX0 3 fa fd ["part", "numbers"] (spD K z90) :=
 okD (k:=2) (G:=wt0) F rg0 (fun cdv A outer s H E hr=>(v6 (rp0 2 rg0.nd (sc:=p6 (top 8)) (N:=["part", "numbers", "some"]) (N':=["value", "numbers"]) (n:=1) (caps:=[1]) ⟨rfl,by decide +kernel,by decide +kernel,by decide +kernel,by decide +kernel,rfl,by decide +kernel⟩ (by decide) (U8 (R8 C_values hr (by decide) (w6 (v5 0) v9))) (fun cl s H ex=>p8 0 (by decide +kernel:(["value", "numbers"]:List Str).Nodup)) (fun cl s H ex=>V8) (fun cl s H ex=>(Wx0 (U9 (y30 zt0 b_tuple T.b_isinstance T.b_tuple (v5 0))) (Y6 (w6 Z2 (w6 (jw0 (ta0 hr) (v5 1) (o6 (v5 0) p7)) v9))) (v5 0))))
   (v6 (m7 (Z4 C_with_values hr (by decide) (w6 (v5 0) (w6 (v5 2) v9))))
   u5))) (fun ds d h=>W5 h)
theorem t30:FnScope ["web", "k", "order", "numbers", "number", "part"] ["web", "k"] (p6 (top 9)):=⟨rfl,rfl,rfl,by decide +kernel,rfl,by decide +kernel,by decide +kernel⟩
theorem k00{fa:Addr}{fd:FuncData}{dV:Value}(F:FunV K "drawn" "drawn" (top 9) fa fd dV)(T:Txt mg)(C_met:FnN P w K mg base "met" 4 ["web", "k"] zb0)(C_relinked:FnD P w K mg base "relinked" 3 ["part", "numbers"] z90):FnOk P w K mg base CX0 5 fa fd ["web", "k"] (spD K xn0) :=
 Up0 (k:=4) (G:=jl0) F t30 (fun cdv A outer s H E hr=>(v6 (j9 (dt0 (tm0 C_met hr (by decide) (w6 (v5 0) (w6 (v5 1) v9)))).pd (p8 2 t30.nd))
   (v6 (T3 3 ob0 t30.nd)
   (v6 (K5 PassesOwn.never rfl (mp0 T.b_enumerate (w6 (v5 2) v9)) (xk0 4 5 t30.nd (by decide))
   (v6 (zf0 (xp0 (v5 4)) (qm0 3 (ta0 hr) (v5 5)))
   u5))
   (v6 (yr0 (T4 V2 zw0 T.b_tuple b_tuple (w6 (J3 (sc:=p6 (top 9)) (N:=["web", "k", "order", "numbers", "number", "part"]) (N':=["part", "web", "numbers"]) (n:=1) (caps:=[0,3]) ⟨rfl,by decide +kernel,by decide +kernel,by decide +kernel,by decide +kernel,rfl,by decide +kernel⟩ (by decide) (U8 (v5 2)) (fun cl s H ex=>p8 0 (by decide +kernel:(["part", "web", "numbers"]:List Str).Nodup)) (fun cl s H ex=>V8) (fun cl s H ex=>(Z4 C_relinked hr (by decide) (w6 (o6 (v5 1) (v5 0)) (w6 (v5 2) v9))))) v9)))
   u5))))) (fun ds d h=>W5 h)
theorem me0:FnScope ["both"] ["both"] (p6 (top 11)):=⟨rfl,rfl,rfl,by decide +kernel,rfl,by decide +kernel,by decide +kernel⟩
theorem l00{fa:Addr}{fd:FuncData}(F:Fun K "are_links" "are_links" (top 11) fa fd)(T:Txt mg)  : FnOk P w K mg base CX0 1 fa fd ["both"] (spD K O3) :=
 okD (k:=0) (G:=w60) F me0 (fun cdv A outer s H E hr=>(v6 (m7 (uo0 (y30 zt0 b_tuple T.b_isinstance T.b_tuple (o6 (v5 0) p7)) (uv0 (y30 zt0 b_tuple T.b_isinstance T.b_tuple (o6 (v5 0) p7)))))
   u5)) (fun ds d h=>W5 h)
theorem pj0:FnScope ["both"] ["both"] (p6 (top 12)):=⟨rfl,rfl,rfl,by decide +kernel,rfl,by decide +kernel,by decide +kernel⟩
theorem pl0{fa:Addr}{fd:FuncData}(F:Fun K "linked_pair" "linked_pair" (top 12) fa fd)(T:Txt mg)  : FnOk P w K mg base CX0 1 fa fd ["both"] (spD K U5) :=
 okD (k:=0) (G:=yp0) F pj0 (fun cdv A outer s H E hr=>(v6 (m7 (Y6 (w6 (o6 (o6 (v5 0) p7) p7) (w6 (o6 (o6 (v5 0) p7) p7) v9))))
   u5)) (fun ds d h=>W5 h)
theorem ti0:FnScope ["one", "other", "pairs", "listed"] ["one", "other", "pairs"] (p6 (top 13)):=⟨rfl,rfl,rfl,by decide +kernel,rfl,by decide +kernel,by decide +kernel⟩
theorem n00{fa:Addr}{fd:FuncData}(F:Fun K "are_closed" "are_closed" (top 13) fa fd)(T:Txt mg)(C_are_parts:FnD P w K mg base "are_parts" 1 ["one", "other", "pair"] O4)(C_is_upheld:FnD P w K mg base "is_upheld" 3 ["one", "other", "pair", "listed"] O5):FnOk P w K mg base CX0 4 fa fd ["one", "other", "pairs"] (spD K R7) :=
 okD (k:=3) (G:=yx0) F ti0 (fun cdv A outer s H E hr=>(v6 (j9 (PDF.pd (fe0 (Nat.lt_of_le_of_lt (Nat.add_le_add_left (by decide:2<=64) _) hr.units) rfl T.b_dict b_dict (J3 (sc:=p6 (top 13)) (N:=["one", "other", "pairs", "listed"]) (N':=["pair"]) (n:=1) (caps:=[]) ⟨rfl,by decide +kernel,by decide +kernel,by decide +kernel,by decide +kernel,rfl,by decide +kernel⟩ (by decide) (U8 (v5 2)) (fun cl s H ex=>p8 0 (by decide +kernel:(["pair"]:List Str).Nodup)) (fun cl s H ex=>V8) (fun cl s H ex=>(Y6 (w6 (v5 0) (w6 za0 v9))))))) (p8 3 ti0.nd))
   (v6 (m7 (rs0 (db0 rfl) Xr0 T.b_all b_all (w6 (J3 (sc:=p6 (top 13)) (N:=["one", "other", "pairs", "listed"]) (N':=["pair", "one", "other", "listed"]) (n:=1) (caps:=[0,1,3]) ⟨rfl,by decide +kernel,by decide +kernel,by decide +kernel,by decide +kernel,rfl,by decide +kernel⟩ (by decide) (U8 (v5 2)) (fun cl s H ex=>p8 0 (by decide +kernel:(["pair", "one", "other", "listed"]:List Str).Nodup)) (fun cl s H ex=>V8) (fun cl s H ex=>(uo0 (Z4 C_are_parts hr (by decide) (w6 (v5 1) (w6 (v5 2) (w6 (v5 0) v9)))) (uv0 (Z4 C_is_upheld hr (by decide) (w6 (v5 1) (w6 (v5 2) (w6 (v5 0) (w6 (v5 3) v9))))))))) v9)))
   u5))) (fun ds d h=>W5 h)
theorem m80:FnScope ["one", "other", "pair"] ["one", "other", "pair"] (p6 (top 14)):=⟨rfl,rfl,rfl,by decide +kernel,rfl,by decide +kernel,by decide +kernel⟩
theorem mx0{fa:Addr}{fd:FuncData}(F:Fun K "are_parts" "are_parts" (top 14) fa fd)(T:Txt mg)  : FnOk P w K mg base CX0 1 fa fd ["one", "other", "pair"] (spD K O4) :=
 okD (k:=0) (G:=xw0) F m80 (fun cdv A outer s H E hr=>(v6 (m7 (uo0 (mw0 b20 gv0 u50 wd0 p7 (o6 (v5 2) p7) (V3 T.b_len (w6 (v5 0) v9))) (uv0 (mw0 b20 gv0 u50 wd0 p7 (o6 (v5 2) p7) (V3 T.b_len (w6 (v5 1) v9))))))
   u5)) (fun ds d h=>W5 h)
theorem sd0:FnScope ["one", "other", "pair", "listed", "both"] ["one", "other", "pair", "listed"] (p6 (top 15)):=⟨rfl,rfl,rfl,by decide +kernel,rfl,by decide +kernel,by decide +kernel⟩
theorem m60{fa:Addr}{fd:FuncData}(F:Fun K "is_upheld" "is_upheld" (top 15) fa fd)(T:Txt mg)(C_are_links:FnD P w K mg base "are_links" 1 ["both"] O3)(C_head:FnD P w K mg base "head" 2 ["part"] M7)(C_linked_pair:FnD P w K mg base "linked_pair" 1 ["both"] U5)(C_values:FnN P w K mg base "values" 1 ["part"] m_values):FnOk P w K mg base CX0 3 fa fd ["one", "other", "pair", "listed"] (spD K O5) :=
 okD (k:=2) (G:=xz0) F sd0 (fun cdv A outer s H E hr=>(v6 (d8 (d9 (lm0 hr.units) qq0 (Z4 C_head hr (by decide) (w6 (o6 (v5 0) (o6 (v5 2) p7)) v9)) (Z4 C_head hr (by decide) (w6 (o6 (v5 1) (o6 (v5 2) p7)) v9)))
   (v6 (m7 za0)
   u5)
   u5)
   (v6 (K5 PassesOwn.never rfl (d00 T.b_zip (w6 (R8 C_values hr (by decide) (w6 (o6 (v5 0) (o6 (v5 2) p7)) v9)) (w6 (R8 C_values hr (by decide) (w6 (o6 (v5 1) (o6 (v5 2) p7)) v9)) v9))) (p8 4 sd0.nd)
   (v6 (d8 (U9 (Z4 C_are_links hr (by decide) (w6 (v5 4) v9)))
   (v6 (d8 (mf0 (ta0 hr) (Z4 C_linked_pair hr (by decide) (w6 (v5 4) v9)) (v5 3))
   (v6 (m7 za0)
   u5)
   u5)
   u5)
   (v6 (d8 (d9 (lm0 hr.units) qq0 (o6 (v5 4) p7) (o6 (v5 4) p7))
   (v6 (m7 za0)
   u5)
   u5)
   u5))
   u5))
   (v6 (m7 za0)
   u5)))) (fun ds d h=>W5 h)
theorem Z90:FnScope ["one", "other"] ["one", "other"] (p6 (top 17)):=⟨rfl,rfl,rfl,by decide +kernel,rfl,by decide +kernel,by decide +kernel⟩
theorem Y60{fa:Addr}{fd:FuncData}(F:Fun K "same" "same" (top 17) fa fd)(T:Txt mg)(Cd_drawn:cj0 P w K mg base "drawn" 5 ["web", "k"] xn0 [(.int 0)]):FnOk P w K mg base CX0 6 fa fd ["one", "other"] (spD K zm0) :=
 okD (k:=5) (G:=fg0) F Z90 (fun cdv A outer s H E hr=>(v6 (m7 (wa0 (uh0 hr.units) wy0 (g50 Cd_drawn hr (by decide) (w6 (v5 0) v9)) (g50 Cd_drawn hr (by decide) (w6 (v5 1) v9))))
   u5)) (fun ds d h=>W5 h)
theorem i40:FnScope ["one", "other"] ["one", "other"] (p6 (top 18)):=⟨rfl,rfl,rfl,by decide +kernel,rfl,by decide +kernel,by decide +kernel⟩
theorem ij0{fa:Addr}{fd:FuncData}(F:Fun K "pairing" "pairing" (top 18) fa fd)(T:Txt mg)(C_same:FnD P w K mg base "same" 6 ["one", "other"] zm0)(Cd_met:lj0 P w K mg base "met" 4 ["web", "k"] zb0 [(.int 0)]):FnOk P w K mg base CX0 7 fa fd ["one", "other"] (spD K y70) :=
 okD (k:=6) (G:=pz0) F i40 (fun cdv A outer s H E hr=>(v6 (d8 (z20 (U9 (Z4 C_same hr (by decide) (w6 (v5 0) (w6 (v5 1) v9)))))
   (v6 (m7 xa0)
   u5)
   u5)
   (v6 (m7 (PDF.pd (om0 T.b_sorted T.b_zip b_sorted b_zip (w6 (su0 Cd_met hr (by decide) (w6 (v5 0) v9)) (w6 (su0 Cd_met hr (by decide) (w6 (v5 1) v9)) v9)))))
   u5))) (fun ds d h=>W5 h)
theorem ot0:FnScope ["one", "other", "pairs"] ["one", "other", "pairs"] (p6 (top 19)):=⟨rfl,rfl,rfl,by decide +kernel,rfl,by decide +kernel,by decide +kernel⟩
theorem ow0{fa:Addr}{fd:FuncData}(F:Fun K "is_pairing" "is_pairing" (top 19) fa fd)(T:Txt mg)(C_are_closed:FnD P w K mg base "are_closed" 4 ["one", "other", "pairs"] R7)(C_stand_once:FnD P w K mg base "stand_once" 1 ["pairs"] R9):FnOk P w K mg base CX0 5 fa fd ["one", "other", "pairs"] (spD K U0) :=
 okD (k:=4) (G:=xg0) F ot0 (fun cdv A outer s H E hr=>(v6 (d8 (PWD.pt (vs0 (d9 (Zu0 hr.units) (ay0 true) (Y6 (w6 p7 (w6 p7 v9))) (v5 2)) (wx0 (z20 (U9 (Z4 C_stand_once hr (by decide) (w6 (v5 2) v9)))))))
   (v6 (m7 za0)
   u5)
   u5)
   (v6 (m7 (Z4 C_are_closed hr (by decide) (w6 (v5 0) (w6 (v5 1) (w6 (v5 2) v9)))))
   u5))) (fun ds d h=>W5 h)
theorem wk0:FnScope ["pairs", "mine", "yours"] ["pairs"] (p6 (top 20)):=⟨rfl,rfl,rfl,by decide +kernel,rfl,by decide +kernel,by decide +kernel⟩
theorem n90{fa:Addr}{fd:FuncData}(F:Fun K "stand_once" "stand_once" (top 20) fa fd)(T:Txt mg)  : FnOk P w K mg base CX0 1 fa fd ["pairs"] (spD K R9) :=
 okD (k:=0) (G:=yu0) F wk0 (fun cdv A outer s H E hr=>(v6 (rp0 1 wk0.nd (sc:=p6 (top 20)) (N:=["pairs", "mine", "yours"]) (N':=["pair"]) (n:=1) (caps:=[]) ⟨rfl,by decide +kernel,by decide +kernel,by decide +kernel,by decide +kernel,rfl,by decide +kernel⟩ (by decide) (U8 (v5 0)) (fun cl s H ex=>p8 0 (by decide +kernel:(["pair"]:List Str).Nodup)) (fun cl s H ex=>V8) (fun cl s H ex=>(o6 (v5 0) p7)))
   (v6 (rp0 2 wk0.nd (sc:=p6 (top 20)) (N:=["pairs", "mine", "yours"]) (N':=["pair"]) (n:=1) (caps:=[]) ⟨rfl,by decide +kernel,by decide +kernel,by decide +kernel,by decide +kernel,rfl,by decide +kernel⟩ (by decide) (U8 (v5 0)) (fun cl s H ex=>p8 0 (by decide +kernel:(["pair"]:List Str).Nodup)) (fun cl s H ex=>V8) (fun cl s H ex=>(o6 (v5 0) p7)))
   (v6 (m7 (uo0 (wa0 M3 T7 (ql0 T.b_len T.b_set (v5 1)) (V3 T.b_len (w6 (v5 0) v9))) (uv0 (wa0 M3 T7 (ql0 T.b_len T.b_set (v5 2)) (V3 T.b_len (w6 (v5 0) v9))))))
   u5)))) (fun ds d h=>W5 h)
theorem qd0:FnScope ["_law_script", "_law_k"] ["_law_script", "_law_k"] (p6 (top 22)):=⟨rfl,rfl,rfl,by decide +kernel,rfl,by decide +kernel,by decide +kernel⟩
theorem q90{fa:Addr}{fd:FuncData}(F:Fun K "_law_cell_at" "_law_cell_at" (top 22) fa fd)(T:Txt mg)  : FnOk P w K mg base CX0 1 fa fd ["_law_script", "_law_k"] (spD K Z6) :=
 okD (k:=0) (G:=yd0) F qd0 (fun cdv A outer s H E hr=>(v6 (d8 (d9 u50 wd0 (v5 1) (V3 T.b_len (w6 (v5 0) v9)))
   (v6 (m7 (o6 (v5 0) (v5 1)))
   u5)
   u5)
   (v6 (m7 p7)
   u5))) (fun ds d h=>W5 h)
theorem V0:FnScope ["_law_cell", "_law_turn", "_law_signs", "_law_size", "_law_places_here", "_law_k", "_law_word", "_law_at", "_law_found", "_law_sign"] ["_law_cell", "_law_turn"] (p6 (top 23)):=⟨rfl,rfl,rfl,by decide +kernel,rfl,by decide +kernel,by decide +kernel⟩
theorem lv0{fa:Addr}{fd:FuncData}(F:Fun K "_law_pool" "_law_pool" (top 23) fa fd)(T:Txt mg)  : FnOk P w K mg base CX0 1 fa fd ["_law_cell", "_law_turn"] (spN K G3) :=
 okN (k:=0) (G:=xu0) F V0 (fun cdv A outer s H E hr=>(v6 (j9 Z2 (p8 2 V0.nd))
   (v6 (j9 (W9 p7 (X6 (v5 0) p7)) (p8 3 V0.nd))
   (v6 (j9 (V5 (v5 0) p7) (p8 0 V0.nd))
   (v6 (T3 4 (K6 v9) V0.nd)
   (v6 (K5 PassesOwn.never rfl (J8 T.b_range (w6 (v5 3) v9)) (p8 5 V0.nd)
   (v6 (N6 (wg0 4 (X6 (v5 0) p7)))
   (v6 (j9 (V5 (v5 0) p7) (p8 0 V0.nd))
   u5)))
   (v6 (j9 (zu0 (Z80 Z2 (w6 (J3 (sc:=p6 (top 23)) (N:=["_law_cell", "_law_turn", "_law_signs", "_law_size", "_law_places_here", "_law_k", "_law_word", "_law_at", "_law_found", "_law_sign"]) (N':=["_law_k", "_law_signs"]) (n:=1) (caps:=[2]) ⟨rfl,by decide +kernel,by decide +kernel,by decide +kernel,by decide +kernel,rfl,by decide +kernel⟩ (by decide) (U8 (v5 4)) (fun cl s H ex=>p8 0 (by decide +kernel:(["_law_k", "_law_signs"]:List Str).Nodup)) (fun cl s H ex=>V8) (fun cl s H ex=>(o6 (v5 1) (v5 0)))) v9))) (p8 6 V0.nd))
   (v6 (d8 (d9 M3 T7 (X6 (V5 (v5 1) p7) p7) p7)
   (v6 (M5 (vh0 (sc:=p6 (top 23)) (N:=["_law_cell", "_law_turn", "_law_signs", "_law_size", "_law_places_here", "_law_k", "_law_word", "_law_at", "_law_found", "_law_sign"]) (N':=["_law_k", "_law_word"]) (n:=1) (caps:=[6]) ⟨rfl,by decide +kernel,by decide +kernel,by decide +kernel,by decide +kernel,rfl,by decide +kernel⟩ (by decide) (i30 T.b_range (w6 p7 (w6 p7 v9))) (fun cl s H ex=>p8 0 (by decide +kernel:(["_law_k", "_law_word"]:List Str).Nodup)) (fun cl s H ex=>V8) (fun cl s H ex=>(z50 (a70 p7 (v5 1)) ys0 (z60 (v5 0))))))
   u5)
   u5)
   (v6 (j9 (X6 (v5 1) (v5 3)) (p8 7 V0.nd))
   (v6 (T3 8 (K6 v9) V0.nd)
   (v6 (K5 PassesOwn.never rfl (J8 T.b_range (w6 p7 v9)) (p8 5 V0.nd)
   (v6 (j9 (o6 (v5 2) (X6 (W9 (zu0 (o6 (v5 4) (v5 7))) (yb0 p7 (v5 5))) p7)) (p8 9 V0.nd))
   (v6 (N6 (wg0 8 (W9 (W9 (z50 (v5 6) ys0 (z60 (v5 7))) (v5 9)) (z50 (v5 6) (z60 (W9 (v5 7) p7)) ys0))))
   u5)))
   (v6 (vv0 8)
   u5)))))))))))) (fun ds d h=>zy0 h)
theorem kn0:FnScope ["_law_cell", "_law_k"] ["_law_cell", "_law_k"] (p6 (top 24)):=⟨rfl,rfl,rfl,by decide +kernel,rfl,by decide +kernel,by decide +kernel⟩
theorem ki0{fa:Addr}{fd:FuncData}(F:Fun K "_law_mix" "_law_mix" (top 24) fa fd)(T:Txt mg)  : FnOk P w K mg base CX0 1 fa fd ["_law_cell", "_law_k"] (spD K V7) :=
 okD (k:=0) (G:=wo0) F kn0 (fun cdv A outer s H E hr=>(v6 (m7 (X6 (yb0 (W9 (X6 (v5 0) p7) p7) (W9 p7 (yb0 p7 (v5 1)))) p7))
   u5)) (fun ds d h=>W5 h)
theorem tg0:FnScope ["_law_number", "_law_many", "_law_kind"] ["_law_number", "_law_many"] (p6 (top 25)):=⟨rfl,rfl,rfl,by decide +kernel,rfl,by decide +kernel,by decide +kernel⟩
theorem n80{fa:Addr}{fd:FuncData}(F:Fun K "_law_value" "_law_value" (top 25) fa fd)(T:Txt mg)  : FnOk P w K mg base CX0 1 fa fd ["_law_number", "_law_many"] (spD K W2) :=
 okD (k:=0) (G:=z30) F tg0 (fun cdv A outer s H E hr=>(v6 (j9 (X6 (v5 0) p7) (p8 2 tg0.nd))
   (v6 (d8 (d9 u50 wd0 (v5 2) p7)
   (v6 (m7 (Y6 (w6 Z2 (w6 (X6 (V5 (v5 0) p7) (v5 1)) v9))))
   u5)
   u5)
   (v6 (d8 (d9 M3 T7 (v5 2) p7)
   (v6 (m7 xa0)
   u5)
   u5)
   (v6 (d8 (d9 u50 wd0 (v5 2) p7)
   (v6 (m7 (ft0 (X6 (V5 (v5 0) p7) p7) p7))
   u5)
   u5)
   (v6 (m7 (yb0 (X6 (f70 (V5 (v5 0) p7) p7) (f70 p7 p7)) (ft0 p7 (yb0 p7 (X6 (V5 (v5 0) p7) p7)))))
   u5)))))) (fun ds d h=>W5 h)
theorem ye0:FnScope ["_law_number", "_law_count", "_law_many", "_law_found", "_law_k"] ["_law_number", "_law_count", "_law_many"] (p6 (top 26)):=⟨rfl,rfl,rfl,by decide +kernel,rfl,by decide +kernel,by decide +kernel⟩
theorem qw0{fa:Addr}{fd:FuncData}(F:Fun K "_law_values" "_law_values" (top 26) fa fd)(T:Txt mg)(C__law_value:FnD P w K mg base "_law_value" 1 ["_law_number", "_law_many"] W2):FnOk P w K mg base CX0 2 fa fd ["_law_number", "_law_count", "_law_many"] (spN K Q3) :=
 okN (k:=1) (G:=yn0) F ye0 (fun cdv A outer s H E hr=>(v6 (T3 3 (K6 v9) ye0.nd)
   (v6 (K5 PassesOwn.never rfl (J8 T.b_range (w6 (v5 1) v9)) (p8 4 ye0.nd)
   (v6 (j9 (X6 (yb0 (v5 0) p7) p7) (p8 0 ye0.nd))
   (v6 (N6 (wg0 3 (Z4 C__law_value hr (by decide) (w6 (v5 0) (w6 (v5 2) v9)))))
   u5)))
   (v6 (vv0 3)
   u5)))) (fun ds d h=>zy0 h)
theorem yt0:FnScope ["_law_number", "_law_some", "_law_pool_here", "_law_kind", "_law_start", "_law_pairs"] ["_law_number", "_law_some", "_law_pool_here"] (p6 (top 27)):=⟨rfl,rfl,rfl,by decide +kernel,rfl,by decide +kernel,by decide +kernel⟩
theorem lc0{fa:Addr}{fd:FuncData}(F:Fun K "_law_part" "_law_part" (top 27) fa fd)(T:Txt mg)  : FnOk P w K mg base CX0 1 fa fd ["_law_number", "_law_some", "_law_pool_here"] (spD K K3) :=
 okD (k:=0) (G:=w40) F yt0 (fun cdv A outer s H E hr=>(v6 (j9 (X6 (v5 0) p7) (p8 3 yt0.nd))
   (v6 (d8 (d9 M3 T7 (v5 3) p7)
   (v6 (m7 (Y6 (w6 Z2 (w6 (o6 (vq0 (w6 Z2 (w6 Z2 (w6 Z2 (w6 (W9 (o6 (v5 2) p7) Z2) v9))))) (X6 (V5 (v5 0) p7) p7)) v9))))
   u5)
   u5)
   (v6 (d8 (d9 u50 wd0 (v5 3) p7)
   (v6 (m7 (Y6 (w6 Z2 (w6 (T4 V2 zw0 T.b_tuple b_tuple (w6 (v5 1) v9)) v9))))
   u5)
   u5)
   (v6 (j9 (yb0 (X6 (V5 (v5 0) p7) p7) p7) (p8 4 yt0.nd))
   (v6 (j9 (T4 V2 zw0 T.b_tuple b_tuple (w6 (J3 (sc:=p6 (top 27)) (N:=["_law_number", "_law_some", "_law_pool_here", "_law_kind", "_law_start", "_law_pairs"]) (N':=["_law_k", "_law_some", "_law_pool_here", "_law_start"]) (n:=1) (caps:=[1,2,4]) ⟨rfl,by decide +kernel,by decide +kernel,by decide +kernel,by decide +kernel,rfl,by decide +kernel⟩ (by decide) (J8 T.b_range (w6 (V3 T.b_len (w6 (v5 1) v9)) v9)) (fun cl s H ex=>p8 0 (by decide +kernel:(["_law_k", "_law_some", "_law_pool_here", "_law_start"]:List Str).Nodup)) (fun cl s H ex=>V8) (fun cl s H ex=>(Y6 (w6 (o6 (v5 2) (X6 (W9 (v5 3) (v5 0)) p7)) (w6 (o6 (v5 1) (v5 0)) v9))))) v9)) (p8 5 yt0.nd))
   (v6 (d8 (d9 u50 wd0 (v5 3) p7)
   (v6 (m7 (Y6 (w6 Z2 (w6 (v5 5) v9))))
   u5)
   u5)
   (v6 (m7 (Y6 (w6 Z2 (w6 (o6 (v5 2) (X6 (V5 (v5 0) p7) p7)) (w6 (v5 5) v9)))))
   u5)))))))) (fun ds d h=>W5 h)
theorem G4:FnScope ["_law_cells", "_law_many", "_law_pool_here", "_law_parts", "_law_k", "_law_number", "_law_count", "_law_some"] ["_law_cells", "_law_many", "_law_pool_here"] (p6 (top 28)):=⟨rfl,rfl,rfl,by decide +kernel,rfl,by decide +kernel,by decide +kernel⟩
theorem kl0{fa:Addr}{fd:FuncData}(F:Fun K "_law_web" "_law_web" (top 28) fa fd)(T:Txt mg)(C__law_mix:FnD P w K mg base "_law_mix" 1 ["_law_cell", "_law_k"] V7)(C__law_part:FnD P w K mg base "_law_part" 1 ["_law_number", "_law_some", "_law_pool_here"] K3)(C__law_values:FnN P w K mg base "_law_values" 2 ["_law_number", "_law_count", "_law_many"] Q3):FnOk P w K mg base CX0 3 fa fd ["_law_cells", "_law_many", "_law_pool_here"] (spD K zd0) :=
 okD (k:=2) (G:=wr0) F G4 (fun cdv A outer s H E hr=>(v6 (T3 3 (K6 v9) G4.nd)
   (v6 (K5 PassesOwn.never rfl (J8 T.b_range (w6 (v5 1) v9)) (p8 4 G4.nd)
   (v6 (j9 (Z4 C__law_mix hr (by decide) (w6 (W9 (o6 (v5 0) (X6 (v5 4) (V3 T.b_len (w6 (v5 0) v9)))) (yb0 (v5 4) (V5 (v5 4) (V3 T.b_len (w6 (v5 0) v9))))) (w6 (v5 4) v9))) (p8 5 G4.nd))
   (v6 (j9 (o6 (vq0 (w6 p7 (w6 p7 (w6 p7 (w6 p7 (w6 p7 (w6 p7 (w6 p7 (w6 p7 v9))))))))) (X6 (V5 (v5 5) p7) p7)) (p8 6 G4.nd))
   (v6 (d8 (d9 M3 T7 (X6 (V5 (v5 5) p7) p7) p7)
   (v6 (j9 (o6 (vq0 (w6 p7 (w6 p7 v9))) (T4 fx0 Xg0 T.b_int b_int (w6 (wa0 u50 wd0 (X6 (v5 5) p7) p7) v9))) (p8 6 G4.nd))
   u5)
   u5)
   (v6 (j9 (R8 C__law_values hr (by decide) (w6 (W9 (V5 (v5 5) p7) p7) (w6 (v5 6) (w6 (v5 1) v9)))) (p8 7 G4.nd))
   (v6 (N6 (wg0 3 (Z4 C__law_part hr (by decide) (w6 (v5 5) (w6 (v5 7) (w6 (v5 2) v9))))))
   u5))))))
   (v6 (yr0 (T4 V2 zw0 T.b_tuple b_tuple (w6 (v5 3) v9)))
   u5)))) (fun ds d h=>W5 h)
theorem mg0:FnScope ["_law_part_here"] ["_law_part_here"] (p6 (top 29)):=⟨rfl,rfl,rfl,by decide +kernel,rfl,by decide +kernel,by decide +kernel⟩
theorem lp0{fa:Addr}{fd:FuncData}(F:Fun K "_law_vals" "_law_vals" (top 29) fa fd)(T:Txt mg)  : FnOk P w K mg base CX0 1 fa fd ["_law_part_here"] (spN K j6) :=
 okN (k:=0) (G:=K4) F mg0 (fun cdv A outer s H E hr=>(v6 (d8 (d9 M3 T7 (o6 (v5 0) p7) Z2)
   (v6 (M5 (K6 v9))
   u5)
   u5)
   (v6 (d8 (d9 M3 T7 (o6 (v5 0) p7) Z2)
   (v6 (M5 (md0 T.b_list b_list (o6 (v5 0) p7)))
   u5)
   u5)
   (v6 (M5 (vh0 (sc:=p6 (top 29)) (N:=["_law_part_here"]) (N':=["_law_name", "_law_value_here"]) (n:=2) (caps:=[]) ⟨rfl,by decide +kernel,by decide +kernel,by decide +kernel,by decide +kernel,rfl,by decide +kernel⟩ (by decide) (sk0 (o6 (v5 0) (tt0 p7))) (fun cl s H ex=>xk0 0 1 (by decide +kernel:(["_law_name", "_law_value_here"]:List Str).Nodup) (by decide)) (fun cl s H ex=>V8) (fun cl s H ex=>(v5 1))))
   u5)))) (fun ds d h=>zy0 h)
theorem ke0:FnScope ["_law_part_here", "_law_some"] ["_law_part_here", "_law_some"] (p6 (top 31)):=⟨rfl,rfl,rfl,by decide +kernel,rfl,by decide +kernel,by decide +kernel⟩
theorem lq0{fa:Addr}{fd:FuncData}(F:Fun K "_law_with" "_law_with" (top 31) fa fd)(T:Txt mg)  : FnOk P w K mg base CX0 1 fa fd ["_law_part_here", "_law_some"] (spD K W4) :=
 okD (k:=0) (G:=zp0) F ke0 (fun cdv A outer s H E hr=>(v6 (d8 (d9 M3 T7 (o6 (v5 0) p7) Z2)
   (v6 (m7 (v5 0))
   u5)
   u5)
   (v6 (d8 (d9 M3 T7 (o6 (v5 0) p7) Z2)
   (v6 (m7 (Y6 (w6 Z2 (w6 (T4 V2 zw0 T.b_tuple b_tuple (w6 (v5 1) v9)) v9))))
   u5)
   u5)
   (v6 (m7 (W9 (z50 (v5 0) ys0 (z60 (tt0 p7))) (Y6 (w6 (T4 V2 zw0 T.b_tuple b_tuple (w6 (J3 (sc:=p6 (top 31)) (N:=["_law_part_here", "_law_some"]) (N':=["_law_k", "_law_part_here", "_law_some"]) (n:=1) (caps:=[0,1]) ⟨rfl,by decide +kernel,by decide +kernel,by decide +kernel,by decide +kernel,rfl,by decide +kernel⟩ (by decide) (J8 T.b_range (w6 (V3 T.b_len (w6 (v5 1) v9)) v9)) (fun cl s H ex=>p8 0 (by decide +kernel:(["_law_k", "_law_part_here", "_law_some"]:List Str).Nodup)) (fun cl s H ex=>V8) (fun cl s H ex=>(Y6 (w6 (o6 (o6 (o6 (v5 1) (tt0 p7)) (v5 0)) p7) (w6 (o6 (v5 2) (v5 0)) v9))))) v9)) v9))))
   u5)))) (fun ds d h=>W5 h)
theorem xy0:FnScope ["_law_part_here", "_law_numbers", "_law_some", "_law_value_here"] ["_law_part_here", "_law_numbers"] (p6 (top 32)):=⟨rfl,rfl,rfl,by decide +kernel,rfl,by decide +kernel,by decide +kernel⟩
theorem kp0{fa:Addr}{fd:FuncData}(F:Fun K "_law_led" "_law_led" (top 32) fa fd)(T:Txt mg)(C__law_vals:FnN P w K mg base "_law_vals" 1 ["_law_part_here"] j6)(C__law_with:FnD P w K mg base "_law_with" 1 ["_law_part_here", "_law_some"] W4):FnOk P w K mg base CX0 2 fa fd ["_law_part_here", "_law_numbers"] (spD K K1) :=
 okD (k:=1) (G:=qa0) F xy0 (fun cdv A outer s H E hr=>(v6 (T3 2 (K6 v9) xy0.nd)
   (v6 (K5 PassesOwn.never rfl (U8 (R8 C__law_vals hr (by decide) (w6 (v5 0) v9))) (p8 3 xy0.nd)
   (v6 (d8 (U9 (y30 zt0 b_tuple T.b_isinstance T.b_tuple (v5 3)))
   (v6 (j9 (Y6 (w6 Z2 (w6 (Xc0 (o6 (v5 1) (o6 (v5 3) p7)) (jw0 (ta0 hr) (v5 1) (o6 (v5 3) p7))) v9))) (p8 3 xy0.nd))
   u5)
   u5)
   (v6 (N6 (wg0 2 (v5 3)))
   u5)))
   (v6 (yr0 (Z4 C__law_with hr (by decide) (w6 (v5 0) (w6 (v5 2) v9))))
   u5)))) (fun ds d h=>W5 h)
theorem G6:FnScope ["_law_script", "_law_most", "_law_pool_here", "_law_turn", "_law_many"] ["_law_script", "_law_most"] (p6 (top 33)):=⟨rfl,rfl,rfl,by decide +kernel,rfl,by decide +kernel,by decide +kernel⟩
theorem rb0{fa:Addr}{fd:FuncData}(F:Fun K "_law_drawn_web" "_law_drawn_web" (top 33) fa fd)(T:Txt mg)(C__law_cell_at:FnD P w K mg base "_law_cell_at" 1 ["_law_script", "_law_k"] Z6)(C__law_pool:FnN P w K mg base "_law_pool" 1 ["_law_cell", "_law_turn"] G3)(C__law_web:FnD P w K mg base "_law_web" 3 ["_law_cells", "_law_many", "_law_pool_here"] zd0):FnOk P w K mg base CX0 4 fa fd ["_law_script", "_law_most"] (spD K J0) :=
 okD (k:=3) (G:=vo0) F G6 (fun cdv A outer s H E hr=>(v6 (j9 (R8 C__law_pool hr (by decide) (w6 (Z4 C__law_cell_at hr (by decide) (w6 (v5 0) (w6 p7 v9))) (w6 (Z4 C__law_cell_at hr (by decide) (w6 (v5 0) (w6 p7 v9))) v9))) (p8 2 G6.nd))
   (v6 (j9 (Z4 C__law_cell_at hr (by decide) (w6 (v5 0) (w6 p7 v9))) (p8 3 G6.nd))
   (v6 (j9 (W9 p7 (X6 (v5 3) (o6 (vq0 (w6 p7 (w6 p7 (w6 (v5 1) (w6 p7 v9))))) (X6 (V5 (v5 3) p7) p7)))) (p8 4 G6.nd))
   (v6 (m7 (Z4 C__law_web hr (by decide) (w6 (W9 (z50 (v5 0) (z60 p7) (z60 p7)) (vq0 (w6 (Z4 C__law_cell_at hr (by decide) (w6 (v5 0) (w6 p7 v9))) v9))) (w6 (v5 4) (w6 (v5 2) v9)))))
   u5))))) (fun ds d h=>W5 h)
theorem zs0:FnScope ["_law_web_here", "_law_cell", "_law_k", "_law_some", "_law_at"] ["_law_web_here", "_law_cell"] (p6 (top 34)):=⟨rfl,rfl,rfl,by decide +kernel,rfl,by decide +kernel,by decide +kernel⟩
theorem q40{fa:Addr}{fd:FuncData}(F:Fun K "_law_changed" "_law_changed" (top 34) fa fd)(T:Txt mg)(C__law_vals:FnN P w K mg base "_law_vals" 1 ["_law_part_here"] j6)(C__law_value:FnD P w K mg base "_law_value" 1 ["_law_number", "_law_many"] W2)(C__law_with:FnD P w K mg base "_law_with" 1 ["_law_part_here", "_law_some"] W4):FnOk P w K mg base CX0 2 fa fd ["_law_web_here", "_law_cell"] (spD K T6) :=
 okD (k:=1) (G:=yf0) F zs0 (fun cdv A outer s H E hr=>(v6 (j9 (X6 (v5 1) (V3 T.b_len (w6 (v5 0) v9))) (p8 2 zs0.nd))
   (v6 (T3 3 (tm0 C__law_vals hr (by decide) (w6 (o6 (v5 0) (v5 2)) v9)) zs0.nd)
   (v6 (d8 (sr0 (d9 (uh0 hr.units) wy0 (v5 3) (vq0 v9)))
   (v6 (m7 (v5 0))
   u5)
   u5)
   (v6 (j9 (X6 (V5 (v5 1) p7) (zu0 (V3 T.b_len (w6 (v5 3) v9)))) (p8 4 zs0.nd))
   (v6 (zf0 (xp0 (Z4 C__law_value hr (by decide) (w6 (X6 (V5 (v5 1) p7) p7) (w6 (V3 T.b_len (w6 (v5 0) v9)) v9)))) (p80 3 (v5 4)))
   (v6 (yr0 (W9 (W9 (z50 (v5 0) ys0 (z60 (v5 2))) (Y6 (w6 (Z4 C__law_with hr (by decide) (w6 (o6 (v5 0) (v5 2)) (w6 (v5 3) v9))) v9))) (z50 (v5 0) (z60 (W9 (v5 2) p7)) ys0)))
   u5))))))) (fun ds d h=>W5 h)
theorem zl0:FnScope ["_law_web_here", "_law_found", "_law_waiting", "_law_k", "_law_value_here"] ["_law_web_here"] (p6 (top 35)):=⟨rfl,rfl,rfl,by decide +kernel,rfl,by decide +kernel,by decide +kernel⟩
theorem ov0{fa:Addr}{fd:FuncData}(F:Fun K "_law_order" "_law_order" (top 35) fa fd)(T:Txt mg)(C__law_vals:FnN P w K mg base "_law_vals" 1 ["_law_part_here"] j6):FnOk P w K mg base CX0 2 fa fd ["_law_web_here"] (spN K W3) :=
 okN (k:=1) (G:=tq0) F zl0 (fun cdv A outer s H E hr=>(v6 (T3 1 (K6 v9) zl0.nd)
   (v6 (T3 2 (K6 (w6 p7 v9)) zl0.nd)
   (v6 (tv0 100000 PassesOwn.never (d9 ix0 ll0 (zu0 (V3 T.b_len (w6 (v5 2) v9))) p7)
   (v6 (zf0 (ff0 2) (k60 (p8 3 zl0.nd)))
   (v6 (d8 (sr0 (d9 l90 (go0 true) (v5 3) (v5 1)))
   (v6 (N6 (wg0 1 (v5 3)))
   (v6 (K5 PassesOwn.never rfl (bs0 T.b_reversed (w6 (R8 C__law_vals hr (by decide) (w6 (o6 (v5 0) (v5 3)) v9)) v9)) (p8 4 zl0.nd)
   (v6 (d8 (U9 (y30 zt0 b_tuple T.b_isinstance T.b_tuple (v5 4)))
   (v6 (N6 (wg0 2 (o6 (v5 4) p7)))
   u5)
   u5)
   u5))
   u5))
   u5)
   u5)))
   (v6 (vv0 1)
   u5))))) (fun ds d h=>zy0 h)
theorem G7:FnScope ["_law_web_here", "_law_order_here", "_law_numbers", "_law_k"] ["_law_web_here"] (p6 (top 36)):=⟨rfl,rfl,rfl,by decide +kernel,rfl,by decide +kernel,by decide +kernel⟩
theorem r00{fa:Addr}{fd:FuncData}(F:Fun K "_law_from_root" "_law_from_root" (top 36) fa fd)(T:Txt mg)(C__law_led:FnD P w K mg base "_law_led" 2 ["_law_part_here", "_law_numbers"] K1)(C__law_order:FnN P w K mg base "_law_order" 2 ["_law_web_here"] W3):FnOk P w K mg base CX0 3 fa fd ["_law_web_here"] (spD K X7) :=
 okD (k:=2) (G:=vi0) F G7 (fun cdv A outer s H E hr=>(v6 (j9 (R8 C__law_order hr (by decide) (w6 (v5 0) v9)) (p8 1 G7.nd))
   (v6 (T3 2 ob0 G7.nd)
   (v6 (K5 PassesOwn.never rfl (U8 (v5 1)) (p8 3 G7.nd)
   (v6 (zf0 (xp0 (zu0 (rs0 fw0 Zw0 T.b_len PySem.boot_len (w6 (v5 2) v9)))) (qm0 2 (ta0 hr) (v5 3)))
   u5))
   (v6 (yr0 (T4 V2 zw0 T.b_tuple b_tuple (w6 (J3 (sc:=p6 (top 36)) (N:=["_law_web_here", "_law_order_here", "_law_numbers", "_law_k"]) (N':=["_law_k", "_law_web_here", "_law_numbers"]) (n:=1) (caps:=[0,2]) ⟨rfl,by decide +kernel,by decide +kernel,by decide +kernel,by decide +kernel,rfl,by decide +kernel⟩ (by decide) (U8 (v5 1)) (fun cl s H ex=>p8 0 (by decide +kernel:(["_law_k", "_law_web_here", "_law_numbers"]:List Str).Nodup)) (fun cl s H ex=>V8) (fun cl s H ex=>(Z4 C__law_led hr (by decide) (w6 (o6 (v5 1) (v5 0)) (w6 (v5 2) v9))))) v9)))
   u5))))) (fun ds d h=>W5 h)
theorem ya0:FnScope ["_law_cell", "_law_many", "_law_left", "_law_found"] ["_law_cell", "_law_many"] (p6 (top 37)):=⟨rfl,rfl,rfl,by decide +kernel,rfl,by decide +kernel,by decide +kernel⟩
theorem qy0{fa:Addr}{fd:FuncData}(F:Fun K "_law_places" "_law_places" (top 37) fa fd)(T:Txt mg)  : FnOk P w K mg base CX0 1 fa fd ["_law_cell", "_law_many"] (spN K zi0) :=
 okN (k:=0) (G:=th0) F ya0 (fun cdv A outer s H E hr=>(v6 (T3 2 (kr0 T.b_list T.b_range (w6 p7 (w6 (v5 1) v9))) ya0.nd)
   (v6 (T3 3 (K6 (w6 p7 v9)) ya0.nd)
   (v6 (tv0 100000 PassesOwn.never (d9 ix0 ll0 (zu0 (V3 T.b_len (w6 (v5 2) v9))) p7)
   (v6 (N6 (Zg0 3 (eq0 2 (X6 (v5 0) (zu0 (V3 T.b_len (w6 (v5 2) v9)))))))
   (v6 (j9 (W9 (V5 (v5 0) p7) (yb0 p7 (zu0 (V3 T.b_len (w6 (v5 2) v9))))) (p8 0 ya0.nd))
   u5)))
   (v6 (vv0 3)
   u5))))) (fun ds d h=>zy0 h)
theorem O9:FnScope ["_law_web_here", "_law_cell", "_law_more", "_law_places_here", "_law_parts", "_law_k"] ["_law_web_here", "_law_cell", "_law_more"] (p6 (top 38)):=⟨rfl,rfl,rfl,by decide +kernel,rfl,by decide +kernel,by decide +kernel⟩
theorem s00{fa:Addr}{fd:FuncData}(F:Fun K "_law_renumbered" "_law_renumbered" (top 38) fa fd)(T:Txt mg)(C__law_led:FnD P w K mg base "_law_led" 2 ["_law_part_here", "_law_numbers"] K1)(C__law_places:FnN P w K mg base "_law_places" 1 ["_law_cell", "_law_many"] zi0):FnOk P w K mg base CX0 3 fa fd ["_law_web_here", "_law_cell", "_law_more"] (spD K M6) :=
 okD (k:=2) (G:=wn0) F O9 (fun cdv A outer s H E hr=>(v6 (j9 (R8 C__law_places hr (by decide) (w6 (v5 1) (w6 (W9 (V3 T.b_len (w6 (v5 0) v9)) (v5 2)) v9))) (p8 3 O9.nd))
   (v6 (T3 4 (eo0 (vq0 (w6 (Y6 (w6 Z2 (w6 Z2 v9))) v9)) (W9 (V3 T.b_len (w6 (v5 0) v9)) (v5 2))) O9.nd)
   (v6 (K5 PassesOwn.never rfl (J8 T.b_range (w6 (V3 T.b_len (w6 (v5 0) v9)) v9)) (p8 5 O9.nd)
   (v6 (zf0 (xp0 (Z4 C__law_led hr (by decide) (w6 (o6 (v5 0) (v5 5)) (w6 (v5 3) v9)))) (p80 4 (o6 (v5 3) (v5 5))))
   u5))
   (v6 (K5 PassesOwn.never rfl (J8 T.b_range (w6 (v5 2) v9)) (p8 5 O9.nd)
   (v6 (zf0 (xp0 (Y6 (w6 Z2 (w6 (Y6 (w6 (Y6 (w6 Z2 (w6 (X6 (V5 (v5 1) (W9 (v5 5) p7)) (zu0 (V3 T.b_len (w6 (v5 4) v9)))) v9))) (w6 xa0 (w6 (Y6 (w6 Z2 (w6 p7 v9))) v9)))) v9)))) (p80 4 (o6 (v5 3) (W9 (V3 T.b_len (w6 (v5 0) v9)) (v5 5)))))
   u5))
   (v6 (yr0 (Y6 (w6 (T4 V2 zw0 T.b_tuple b_tuple (w6 (v5 4) v9)) (w6 (z50 (v5 3) ys0 (z60 (V3 T.b_len (w6 (v5 0) v9)))) v9))))
   u5)))))) (fun ds d h=>W5 h)
theorem nw0:FnScope ["_law_found", "_law_due"] ["_law_found", "_law_due"] (p6 (top 39)):=⟨rfl,rfl,rfl,by decide +kernel,rfl,by decide +kernel,by decide +kernel⟩
theorem ld0{fa:Addr}{fd:FuncData}(F:Fun K "_law_said" "_law_said" (top 39) fa fd)(T:Txt mg)  : FnOk P w K mg base CX0 1 fa fd ["_law_found", "_law_due"] (spD K J9) :=
 okD (k:=0) (G:=re0) F nw0 (fun cdv A outer s H E hr=>(v6 (m7 (uo0 (y30 ln0 b_bool T.b_isinstance T.b_bool (v5 0)) (uv0 (wa0 (uh0 hr.units) wy0 (v5 0) (v5 1)))))
   u5)) (fun ds d h=>W5 h)
theorem yv0:FnScope ["_law_found", "_law_pair", "_law_number"] ["_law_found"] (p6 (top 40)):=⟨rfl,rfl,rfl,by decide +kernel,rfl,by decide +kernel,by decide +kernel⟩
theorem qb0{fa:Addr}{fd:FuncData}(F:Fun K "_law_is_list" "_law_is_list" (top 40) fa fd)(T:Txt mg)  : FnOk P w K mg base CX0 1 fa fd ["_law_found"] (spD K O1) :=
 okD (k:=0) (G:=uf0) F yv0 (fun cdv A outer s H E hr=>(v6 (d8 (z20 (U9 (y30 d30 b_list T.b_isinstance T.b_list (v5 0))))
   (v6 (m7 za0)
   u5)
   u5)
   (v6 (K5 PassesOwn.never rfl (U8 (v5 0)) (p8 1 yv0.nd)
   (v6 (d8 (PWD.pt (vs0 (z20 (U9 (y30 zt0 b_tuple T.b_isinstance T.b_tuple (v5 1)))) (wx0 (d9 Vl0 Wu0 (V3 T.b_len (w6 (v5 1) v9)) p7))))
   (v6 (m7 za0)
   u5)
   u5)
   (v6 (K5 PassesOwn.never rfl (sk0 (v5 1)) (p8 2 yv0.nd)
   (v6 (d8 (PWD.pt (vs0 (z20 (U9 (y30 bv0 b_int T.b_isinstance T.b_int (v5 2)))) (wx0 (U9 (y30 ln0 b_bool T.b_isinstance T.b_bool (v5 2))))))
   (v6 (m7 za0)
   u5)
   u5)
   u5))
   u5)))
   (v6 (m7 za0)
   u5)))) (fun ds d h=>W5 h)
theorem wi0:FnScope ["_law_one", "_law_other", "_law_due", "_law_found"] ["_law_one", "_law_other", "_law_due"] (p6 (top 41)):=⟨rfl,rfl,rfl,by decide +kernel,rfl,by decide +kernel,by decide +kernel⟩
theorem oz0{fa:Addr}{fd:FuncData}(F:Fun K "_law_asked" "_law_asked" (top 41) fa fd)(T:Txt mg)(C__law_is_list:FnD P w K mg base "_law_is_list" 1 ["_law_found"] O1)(C__law_said:FnD P w K mg base "_law_said" 1 ["_law_found", "_law_due"] J9)(C_is_pairing:FnD P w K mg base "is_pairing" 5 ["one", "other", "pairs"] U0)(C_pairing:FnD P w K mg base "pairing" 7 ["one", "other"] y70)(C_pairing__n:FnN P w K mg base "pairing" 7 ["one", "other"] R3)(C_same:FnD P w K mg base "same" 6 ["one", "other"] zm0):FnOk P w K mg base CX0 8 fa fd ["_law_one", "_law_other", "_law_due"] (spD K O7) :=
 okD (k:=7) (G:=s70) F wi0 (fun cdv A outer s H E hr=>(v6 (Wj0 (T3 3 (tm0 C_pairing__n hr (by decide) (w6 (v5 0) (w6 (v5 1) v9))) wi0.nd) (j9 (Z4 C_pairing hr (by decide) (w6 (v5 0) (w6 (v5 1) v9))) (p8 3 wi0.nd)))
   (v6 (d8 (z20 (U9 (Z4 C__law_said hr (by decide) (w6 (Z4 C_same hr (by decide) (w6 (v5 0) (w6 (v5 1) v9))) (w6 (wa0 jv0 k80 (v5 2) xa0) v9)))))
   (v6 (m7 za0)
   u5)
   u5)
   (v6 (d8 (d9 e30 ky0 (v5 2) xa0)
   (v6 (yr0 (wa0 e30 ky0 (v5 3) xa0))
   u5)
   u5)
   (v6 (d8 (PWD.pt (vs0 (z20 (U9 (Zs0 (Z4 C__law_is_list hr (by decide) (w6 (v5 3) v9))))) (vs0 (sr0 (d9 (lm0 hr.units) qq0 (v5 3) (v5 2))) (wx0 (z20 (U9 (zu0 (Z4 C__law_said hr (by decide) (w6 (Z4 C_is_pairing hr (by decide) (w6 (v5 0) (w6 (v5 1) (w6 (T4 s60 bl0 T.b_list b_list (w6 (v5 3) v9)) v9)))) (w6 za0 v9))))))))))
   (v6 (m7 za0)
   u5)
   u5)
   (v6 (N6 (ej0 3))
   (v6 (m7 (wa0 (uh0 hr.units) wy0 (Z4 C_pairing hr (by decide) (w6 (v5 0) (w6 (v5 1) v9))) (v5 2)))
   u5))))))) (fun ds d h=>W5 h)
theorem zg0:FnScope ["_law_script", "_law_web_here", "_law_turn", "_law_other", "_law_places_here", "_law_due", "_law_back", "_law_own", "_law_there"] ["_law_script"] (p6 (top 42)):=⟨rfl,rfl,rfl,by decide +kernel,rfl,by decide +kernel,by decide +kernel⟩
theorem X00{fa:Addr}{fd:FuncData}(F:Fun K "law" "law" (top 42) fa fd)(T:Txt mg)(C__law_asked:FnD P w K mg base "_law_asked" 8 ["_law_one", "_law_other", "_law_due"] O7)(C__law_cell_at:FnD P w K mg base "_law_cell_at" 1 ["_law_script", "_law_k"] Z6)(C__law_changed:FnD P w K mg base "_law_changed" 2 ["_law_web_here", "_law_cell"] T6)(C__law_drawn_web:FnD P w K mg base "_law_drawn_web" 4 ["_law_script", "_law_most"] J0)(C__law_from_root:FnD P w K mg base "_law_from_root" 3 ["_law_web_here"] X7)(C__law_mix:FnD P w K mg base "_law_mix" 1 ["_law_cell", "_law_k"] V7)(C__law_order:FnN P w K mg base "_law_order" 2 ["_law_web_here"] W3)(C__law_renumbered:FnD P w K mg base "_law_renumbered" 3 ["_law_web_here", "_law_cell", "_law_more"] M6):FnOk P w K mg base CX0 9 fa fd ["_law_script"] (spD K sv0) :=
 okD (k:=8) (G:=b60) F zg0 (fun cdv A outer s H E hr=>(v6 (j9 (Z4 C__law_drawn_web hr (by decide) (w6 (v5 0) (w6 p7 v9))) (p8 1 zg0.nd))
   (v6 (j9 (Z4 C__law_cell_at hr (by decide) (w6 (v5 0) (w6 p7 v9))) (p8 2 zg0.nd))
   (v6 (zf0 (xp0 (Z4 C__law_renumbered hr (by decide) (w6 (v5 1) (w6 (Z4 C__law_mix hr (by decide) (w6 (Z4 C__law_cell_at hr (by decide) (w6 (v5 0) (w6 p7 v9))) (w6 p7 v9))) (w6 (X6 (v5 2) p7) v9))))) (k60 (xk0 3 4 zg0.nd (by decide))))
   (v6 (j9 (PDF.pd (wc0 T.b_sorted b_sorted (J3 (sc:=p6 (top 42)) (N:=["_law_script", "_law_web_here", "_law_turn", "_law_other", "_law_places_here", "_law_due", "_law_back", "_law_own", "_law_there"]) (N':=["_law_k", "_law_places_here"]) (n:=1) (caps:=[4]) ⟨rfl,by decide +kernel,by decide +kernel,by decide +kernel,by decide +kernel,rfl,by decide +kernel⟩ (by decide) (U8 (R8 C__law_order hr (by decide) (w6 (v5 1) v9))) (fun cl s H ex=>p8 0 (by decide +kernel:(["_law_k", "_law_places_here"]:List Str).Nodup)) (fun cl s H ex=>V8) (fun cl s H ex=>(Y6 (w6 (v5 0) (w6 (o6 (v5 1) (v5 0)) v9))))))) (p8 5 zg0.nd))
   (v6 (d8 (d9 (uh0 hr.units) wy0 (X6 (V5 (v5 2) p7) p7) p7)
   (v6 (j9 (Z4 C__law_changed hr (by decide) (w6 (v5 3) (w6 (Z4 C__law_mix hr (by decide) (w6 (Z4 C__law_cell_at hr (by decide) (w6 (v5 0) (w6 p7 v9))) (w6 p7 v9))) v9))) (p8 3 zg0.nd))
   (v6 (j9 xa0 (p8 5 zg0.nd))
   (v6 (d8 (d9 (uh0 hr.units) wy0 (Z4 C__law_from_root hr (by decide) (w6 (v5 3) v9)) (Z4 C__law_from_root hr (by decide) (w6 (v5 1) v9)))
   (v6 (j9 (PDF.pd (wc0 T.b_sorted b_sorted (J3 (sc:=p6 (top 42)) (N:=["_law_script", "_law_web_here", "_law_turn", "_law_other", "_law_places_here", "_law_due", "_law_back", "_law_own", "_law_there"]) (N':=["_law_k", "_law_j"]) (n:=2) (caps:=[]) ⟨rfl,by decide +kernel,by decide +kernel,by decide +kernel,by decide +kernel,rfl,by decide +kernel⟩ (by decide) (am0 T.b_zip (w6 (R8 C__law_order hr (by decide) (w6 (v5 1) v9)) (w6 (R8 C__law_order hr (by decide) (w6 (v5 3) v9)) v9))) (fun cl s H ex=>xk0 0 1 (by decide +kernel:(["_law_k", "_law_j"]:List Str).Nodup) (by decide)) (fun cl s H ex=>V8) (fun cl s H ex=>(Y6 (w6 (v5 0) (w6 (v5 1) v9))))))) (p8 5 zg0.nd))
   u5)
   u5)
   u5)))
   u5)
   (v6 (j9 (v5 5) (p8 6 zg0.nd))
   (v6 (d8 (d9 jv0 k80 (v5 5) xa0)
   (v6 (j9 (PDF.pd (wc0 T.b_sorted b_sorted (J3 (sc:=p6 (top 42)) (N:=["_law_script", "_law_web_here", "_law_turn", "_law_other", "_law_places_here", "_law_due", "_law_back", "_law_own", "_law_there"]) (N':=["_law_k", "_law_j"]) (n:=2) (caps:=[]) ⟨rfl,by decide +kernel,by decide +kernel,by decide +kernel,by decide +kernel,rfl,by decide +kernel⟩ (by decide) (U8 (v5 5)) (fun cl s H ex=>xk0 0 1 (by decide +kernel:(["_law_k", "_law_j"]:List Str).Nodup) (by decide)) (fun cl s H ex=>V8) (fun cl s H ex=>(Y6 (w6 (v5 1) (w6 (v5 0) v9))))))) (p8 6 zg0.nd))
   u5)
   u5)
   (v6 (d8 (PWD.pt (vs0 (z20 (U9 (Z4 C__law_asked hr (by decide) (w6 (v5 1) (w6 (v5 3) (w6 (v5 5) v9)))))) (wx0 (z20 (U9 (Z4 C__law_asked hr (by decide) (w6 (v5 3) (w6 (v5 1) (w6 (v5 6) v9)))))))))
   (v6 (m7 za0)
   u5)
   u5)
   (v6 (j9 (PDF.pd (wc0 T.b_sorted b_sorted (J3 (sc:=p6 (top 42)) (N:=["_law_script", "_law_web_here", "_law_turn", "_law_other", "_law_places_here", "_law_due", "_law_back", "_law_own", "_law_there"]) (N':=["_law_k"]) (n:=1) (caps:=[]) ⟨rfl,by decide +kernel,by decide +kernel,by decide +kernel,by decide +kernel,rfl,by decide +kernel⟩ (by decide) (U8 (R8 C__law_order hr (by decide) (w6 (v5 1) v9))) (fun cl s H ex=>p8 0 (by decide +kernel:(["_law_k"]:List Str).Nodup)) (fun cl s H ex=>V8) (fun cl s H ex=>(Y6 (w6 (v5 0) (w6 (v5 0) v9))))))) (p8 7 zg0.nd))
   (v6 (j9 (PDF.pd (wc0 T.b_sorted b_sorted (J3 (sc:=p6 (top 42)) (N:=["_law_script", "_law_web_here", "_law_turn", "_law_other", "_law_places_here", "_law_due", "_law_back", "_law_own", "_law_there"]) (N':=["_law_j", "_law_k"]) (n:=2) (caps:=[]) ⟨rfl,by decide +kernel,by decide +kernel,by decide +kernel,by decide +kernel,rfl,by decide +kernel⟩ (by decide) (mp0 T.b_enumerate (w6 (R8 C__law_order hr (by decide) (w6 (v5 1) v9)) v9)) (fun cl s H ex=>xk0 0 1 (by decide +kernel:(["_law_j", "_law_k"]:List Str).Nodup) (by decide)) (fun cl s H ex=>V8) (fun cl s H ex=>(Y6 (w6 (v5 1) (w6 (v5 0) v9))))))) (p8 8 zg0.nd))
   (v6 (m7 (uo0 (Z4 C__law_asked hr (by decide) (w6 (v5 1) (w6 (v5 1) (w6 (v5 7) v9)))) (uv0 (Z4 C__law_asked hr (by decide) (w6 (v5 1) (w6 (Z4 C__law_from_root hr (by decide) (w6 (v5 1) v9)) (w6 (v5 8) v9)))))))
   u5)))))))))))) (fun ds d h=>W5 h)
theorem or0:FnScope ["one", "other"] ["one", "other"] (p6 (top 18)):=⟨rfl,rfl,rfl,by decide +kernel,rfl,by decide +kernel,by decide +kernel⟩
theorem oo0{fa:Addr}{fd:FuncData}(F:Fun K "pairing" "pairing" (top 18) fa fd)(T:Txt mg)(C_same:FnD P w K mg base "same" 6 ["one", "other"] zm0)(Cd_met:lj0 P w K mg base "met" 4 ["web", "k"] zb0 [(.int 0)]):FnOk P w K mg base CX0 7 fa fd ["one", "other"] (spN K R3) :=
 okN (k:=6) (G:=vt0) F or0 (fun cdv A outer s H E hr=>(v6 (d8 (z20 (U9 (Z4 C_same hr (by decide) (w6 (v5 0) (w6 (v5 1) v9)))))
   (v6 (m7 xa0)
   u5)
   u5)
   (v6 (M5 (om0 T.b_sorted T.b_zip b_sorted b_zip (w6 (su0 Cd_met hr (by decide) (w6 (v5 0) v9)) (w6 (su0 Cd_met hr (by decide) (w6 (v5 1) v9)) v9))))
   u5))) (fun ds d h=>zy0 h)
end
theorem us1{α:Type}:∀{us:List α},us.length=1->∃a,us=[a]
 | [a],_=>⟨a,rfl⟩
theorem us2{α:Type}:∀{us:List α},us.length=2->∃a b,us=[a,b]
 | [a,b],_=>⟨a,b,rfl⟩
theorem us3{α:Type}:∀{us:List α},us.length=3->∃a b c,us=[a,b,c]
 | [a,b,c],_=>⟨a,b,c,rfl⟩
theorem us4{α:Type}:∀{us:List α},us.length=4->∃a b c d,us=[a,b,c,d]
 | [a,b,c,d],_=>⟨a,b,c,d,rfl⟩
theorem all_mk{l:W.OpenLaw}{w:World}{K:W.Frag}{h:Heap}{mg:Str->Option Value}{fa:Addr}(X:K.In h)(G:h.Ns mainGlobals mg)(hfa:mg "law"=some (.ref fa))
  {f0 f1 f2 f3 f4 f5 f6 f7 f8 f9 f10 f11 f12 f13 f14 f15 f16 f17 f18 f19 f20 f21 f22 f23 f24 f25 f26 f27 f28 f29 f30 f31 f32 f33 f34 f35 f36 f37 f38:Addr}
  {od0 an0 od1 an1 od2 an2 od3 an3 od4 an4 od5 an5 od6 an6 od7 an7 od8 an8 od9 an9 od10 an10 od11 an11 od12 an12 od13 an13 od14 an14 od15 an15 od16 an16 od17 an17 od18 an18 od19 an19 od20 an20 od21 an21 od22 an22 od23 an23 od24 an24 od25 an25 od26 an26 od27 an27 od28 an28 od29 an29 od30 an30 od31 an31 od32 an32 od33 an33 od34 an34 od35 an35 od36 an36 od37 an37 od38 an38:Option Addr} {sl0 sl1 sl2 sl3 sl4 sl5 sl6 sl7 sl8 sl9 sl10 sl11 sl12 sl13 sl14 sl15 sl16 sl17 sl18 sl19 sl20 sl21 sl22 sl23 sl24 sl25 sl26 sl27 sl28 sl29 sl30 sl31 sl32 sl33 sl34 sl35 sl36 sl37 sl38:Array (Option Value)} {oc0 kV0 dc0 pm0 cd0 ct0 oc1 kV1 dc1 pm1 cd1 ct1 oc2 kV2 dc2 pm2 cd2 ct2 oc3 kV3 dc3 pm3 cd3 ct3 oc4 kV4 dc4 pm4 cd4 ct4 oc5 kV5 dc5 pm5 cd5 ct5 oc6 kV6 dc6 pm6 cd6 ct6 oc7 kV7 dc7 pm7 cd7 ct7 oc8 kV8 dc8 pm8 cd8 ct8 oc9 kV9 dc9 pm9 cd9 ct9 oc10 kV10 dc10 pm10 cd10 ct10 oc11 kV11 dc11 pm11 cd11 ct11 oc12 kV12 dc12 pm12 cd12 ct12 oc13 kV13 dc13 pm13 cd13 ct13 oc14 kV14 dc14 pm14 cd14 ct14 oc15 kV15 dc15 pm15 cd15 ct15 oc16 kV16 dc16 pm16 cd16 ct16 oc17 kV17 dc17 pm17 cd17 ct17 oc18 kV18 dc18 pm18 cd18 ct18 oc19 kV19 dc19 pm19 cd19 ct19 oc20 kV20 dc20 pm20 cd20 ct20 oc21 kV21 dc21 pm21 cd21 ct21 oc22 kV22 dc22 pm22 cd22 ct22 oc23 kV23 dc23 pm23 cd23 ct23 oc24 kV24 dc24 pm24 cd24 ct24 oc25 kV25 dc25 pm25 cd25 ct25 oc26 kV26 dc26 pm26 cd26 ct26 oc27 kV27 dc27 pm27 cd27 ct27 oc28 kV28 dc28 pm28 cd28 ct28 oc29 kV29 dc29 pm29 cd29 ct29 oc30 kV30 dc30 pm30 cd30 ct30 oc31 kV31 dc31 pm31 cd31 ct31 oc32 kV32 dc32 pm32 cd32 ct32 oc33 kV33 dc33 pm33 cd33 ct33 oc34 kV34 dc34 pm34 cd34 ct34 oc35 kV35 dc35 pm35 cd35 ct35 oc36 kV36 dc36 pm36 cd36 ct36 oc37 kV37 dc37 pm37 cd37 ct37 oc38 kV38 dc38 pm38 cd38 ct38:Value}
  (a0:W.nsIn K mainGlobals "pair_names"=some (some (.ref f0))) (l0:K.lookup f0=some ⟨oc0,od0,.func (W.fnOf "pair_names" "pair_names" (j4 (top 1)) (m5 (top 1)) (p6 (top 1)) .none kV0 dc0 pm0 an0 cd0 ct0),sl0⟩) (c0:W.codeIn K cd0 "pair_names"=true) (k0:W.keepIn K (.ref f0)=true)
  (a1:W.nsIn K mainGlobals "head"=some (some (.ref f1))) (l1:K.lookup f1=some ⟨oc1,od1,.func (W.fnOf "head" "head" (j4 (top 2)) (m5 (top 2)) (p6 (top 2)) .none kV1 dc1 pm1 an1 cd1 ct1),sl1⟩) (c1:W.codeIn K cd1 "head"=true) (k1:W.keepIn K (.ref f1)=true)
  (a2:W.nsIn K mainGlobals "values"=some (some (.ref f2))) (l2:K.lookup f2=some ⟨oc2,od2,.func (W.fnOf "values" "values" (j4 (top 3)) (m5 (top 3)) (p6 (top 3)) .none kV2 dc2 pm2 an2 cd2 ct2),sl2⟩) (c2:W.codeIn K cd2 "values"=true) (k2:W.keepIn K (.ref f2)=true)
  (a3:W.nsIn K mainGlobals "with_values"=some (some (.ref f3))) (l3:K.lookup f3=some ⟨oc3,od3,.func (W.fnOf "with_values" "with_values" (j4 (top 4)) (m5 (top 4)) (p6 (top 4)) .none kV3 dc3 pm3 an3 cd3 ct3),sl3⟩) (c3:W.codeIn K cd3 "with_values"=true) (k3:W.keepIn K (.ref f3)=true)
  (a4:W.nsIn K mainGlobals "links"=some (some (.ref f4))) (l4:K.lookup f4=some ⟨oc4,od4,.func (W.fnOf "links" "links" (j4 (top 5)) (m5 (top 5)) (p6 (top 5)) .none kV4 dc4 pm4 an4 cd4 ct4),sl4⟩) (c4:W.codeIn K cd4 "links"=true) (k4:W.keepIn K (.ref f4)=true)
  {T5:Addr} {tc5:Value} {td5:Option Addr} {tn5:Nat} {ts5:Array (Option Value)} {tt5_0:Tok}
  (a5:W.nsIn K mainGlobals "met"=some (some (.ref f5))) (l5:K.lookup f5=some ⟨oc5,od5,.func (W.fnOf "met" "met" (j4 (top 6)) (m5 (top 6)) (p6 (top 6)) (.ref T5) kV5 dc5 pm5 an5 cd5 ct5),sl5⟩) (c5:W.codeIn K cd5 "met"=true) (k5:W.keepIn K (.ref f5)=true)
  (t5:K.lookup T5=some ⟨tc5,td5,.seq #[.int 0 tt5_0] tn5,ts5⟩)
  (a6:W.nsIn K mainGlobals "met_but"=some (some (.ref f6))) (l6:K.lookup f6=some ⟨oc6,od6,.func (W.fnOf "met_but" "met_but" (j4 (top 7)) (m5 (top 7)) (p6 (top 7)) .none kV6 dc6 pm6 an6 cd6 ct6),sl6⟩) (c6:W.codeIn K cd6 "met_but"=true) (k6:W.keepIn K (.ref f6)=true)
  (a7:W.nsIn K mainGlobals "relinked"=some (some (.ref f7))) (l7:K.lookup f7=some ⟨oc7,od7,.func (W.fnOf "relinked" "relinked" (j4 (top 8)) (m5 (top 8)) (p6 (top 8)) .none kV7 dc7 pm7 an7 cd7 ct7),sl7⟩) (c7:W.codeIn K cd7 "relinked"=true) (k7:W.keepIn K (.ref f7)=true)
  {T8:Addr} {tc8:Value} {td8:Option Addr} {tn8:Nat} {ts8:Array (Option Value)} {tt8_0:Tok}
  (a8:W.nsIn K mainGlobals "drawn"=some (some (.ref f8))) (l8:K.lookup f8=some ⟨oc8,od8,.func (W.fnOf "drawn" "drawn" (j4 (top 9)) (m5 (top 9)) (p6 (top 9)) (.ref T8) kV8 dc8 pm8 an8 cd8 ct8),sl8⟩) (c8:W.codeIn K cd8 "drawn"=true) (k8:W.keepIn K (.ref f8)=true)
  (t8:K.lookup T8=some ⟨tc8,td8,.seq #[.int 0 tt8_0] tn8,ts8⟩)
  (a9:W.nsIn K mainGlobals "are_links"=some (some (.ref f9))) (l9:K.lookup f9=some ⟨oc9,od9,.func (W.fnOf "are_links" "are_links" (j4 (top 11)) (m5 (top 11)) (p6 (top 11)) .none kV9 dc9 pm9 an9 cd9 ct9),sl9⟩) (c9:W.codeIn K cd9 "are_links"=true) (k9:W.keepIn K (.ref f9)=true)
  (a10:W.nsIn K mainGlobals "linked_pair"=some (some (.ref f10))) (l10:K.lookup f10=some ⟨oc10,od10,.func (W.fnOf "linked_pair" "linked_pair" (j4 (top 12)) (m5 (top 12)) (p6 (top 12)) .none kV10 dc10 pm10 an10 cd10 ct10),sl10⟩) (c10:W.codeIn K cd10 "linked_pair"=true) (k10:W.keepIn K (.ref f10)=true)
  (a11:W.nsIn K mainGlobals "are_closed"=some (some (.ref f11))) (l11:K.lookup f11=some ⟨oc11,od11,.func (W.fnOf "are_closed" "are_closed" (j4 (top 13)) (m5 (top 13)) (p6 (top 13)) .none kV11 dc11 pm11 an11 cd11 ct11),sl11⟩) (c11:W.codeIn K cd11 "are_closed"=true) (k11:W.keepIn K (.ref f11)=true)
  (a12:W.nsIn K mainGlobals "are_parts"=some (some (.ref f12))) (l12:K.lookup f12=some ⟨oc12,od12,.func (W.fnOf "are_parts" "are_parts" (j4 (top 14)) (m5 (top 14)) (p6 (top 14)) .none kV12 dc12 pm12 an12 cd12 ct12),sl12⟩) (c12:W.codeIn K cd12 "are_parts"=true) (k12:W.keepIn K (.ref f12)=true)
  (a13:W.nsIn K mainGlobals "is_upheld"=some (some (.ref f13))) (l13:K.lookup f13=some ⟨oc13,od13,.func (W.fnOf "is_upheld" "is_upheld" (j4 (top 15)) (m5 (top 15)) (p6 (top 15)) .none kV13 dc13 pm13 an13 cd13 ct13),sl13⟩) (c13:W.codeIn K cd13 "is_upheld"=true) (k13:W.keepIn K (.ref f13)=true)
  (a14:W.nsIn K mainGlobals "same"=some (some (.ref f14))) (l14:K.lookup f14=some ⟨oc14,od14,.func (W.fnOf "same" "same" (j4 (top 17)) (m5 (top 17)) (p6 (top 17)) .none kV14 dc14 pm14 an14 cd14 ct14),sl14⟩) (c14:W.codeIn K cd14 "same"=true) (k14:W.keepIn K (.ref f14)=true)
  (a15:W.nsIn K mainGlobals "pairing"=some (some (.ref f15))) (l15:K.lookup f15=some ⟨oc15,od15,.func (W.fnOf "pairing" "pairing" (j4 (top 18)) (m5 (top 18)) (p6 (top 18)) .none kV15 dc15 pm15 an15 cd15 ct15),sl15⟩) (c15:W.codeIn K cd15 "pairing"=true) (k15:W.keepIn K (.ref f15)=true)
  (a16:W.nsIn K mainGlobals "is_pairing"=some (some (.ref f16))) (l16:K.lookup f16=some ⟨oc16,od16,.func (W.fnOf "is_pairing" "is_pairing" (j4 (top 19)) (m5 (top 19)) (p6 (top 19)) .none kV16 dc16 pm16 an16 cd16 ct16),sl16⟩) (c16:W.codeIn K cd16 "is_pairing"=true) (k16:W.keepIn K (.ref f16)=true)
  (a17:W.nsIn K mainGlobals "stand_once"=some (some (.ref f17))) (l17:K.lookup f17=some ⟨oc17,od17,.func (W.fnOf "stand_once" "stand_once" (j4 (top 20)) (m5 (top 20)) (p6 (top 20)) .none kV17 dc17 pm17 an17 cd17 ct17),sl17⟩) (c17:W.codeIn K cd17 "stand_once"=true) (k17:W.keepIn K (.ref f17)=true)
  (a18:W.nsIn K mainGlobals "_law_cell_at"=some (some (.ref f18))) (l18:K.lookup f18=some ⟨oc18,od18,.func (W.fnOf "_law_cell_at" "_law_cell_at" (j4 (top 22)) (m5 (top 22)) (p6 (top 22)) .none kV18 dc18 pm18 an18 cd18 ct18),sl18⟩) (c18:W.codeIn K cd18 "_law_cell_at"=true) (k18:W.keepIn K (.ref f18)=true)
  (a19:W.nsIn K mainGlobals "_law_pool"=some (some (.ref f19))) (l19:K.lookup f19=some ⟨oc19,od19,.func (W.fnOf "_law_pool" "_law_pool" (j4 (top 23)) (m5 (top 23)) (p6 (top 23)) .none kV19 dc19 pm19 an19 cd19 ct19),sl19⟩) (c19:W.codeIn K cd19 "_law_pool"=true) (k19:W.keepIn K (.ref f19)=true)
  (a20:W.nsIn K mainGlobals "_law_mix"=some (some (.ref f20))) (l20:K.lookup f20=some ⟨oc20,od20,.func (W.fnOf "_law_mix" "_law_mix" (j4 (top 24)) (m5 (top 24)) (p6 (top 24)) .none kV20 dc20 pm20 an20 cd20 ct20),sl20⟩) (c20:W.codeIn K cd20 "_law_mix"=true) (k20:W.keepIn K (.ref f20)=true)
  (a21:W.nsIn K mainGlobals "_law_value"=some (some (.ref f21))) (l21:K.lookup f21=some ⟨oc21,od21,.func (W.fnOf "_law_value" "_law_value" (j4 (top 25)) (m5 (top 25)) (p6 (top 25)) .none kV21 dc21 pm21 an21 cd21 ct21),sl21⟩) (c21:W.codeIn K cd21 "_law_value"=true) (k21:W.keepIn K (.ref f21)=true)
  (a22:W.nsIn K mainGlobals "_law_values"=some (some (.ref f22))) (l22:K.lookup f22=some ⟨oc22,od22,.func (W.fnOf "_law_values" "_law_values" (j4 (top 26)) (m5 (top 26)) (p6 (top 26)) .none kV22 dc22 pm22 an22 cd22 ct22),sl22⟩) (c22:W.codeIn K cd22 "_law_values"=true) (k22:W.keepIn K (.ref f22)=true)
  (a23:W.nsIn K mainGlobals "_law_part"=some (some (.ref f23))) (l23:K.lookup f23=some ⟨oc23,od23,.func (W.fnOf "_law_part" "_law_part" (j4 (top 27)) (m5 (top 27)) (p6 (top 27)) .none kV23 dc23 pm23 an23 cd23 ct23),sl23⟩) (c23:W.codeIn K cd23 "_law_part"=true) (k23:W.keepIn K (.ref f23)=true)
  (a24:W.nsIn K mainGlobals "_law_web"=some (some (.ref f24))) (l24:K.lookup f24=some ⟨oc24,od24,.func (W.fnOf "_law_web" "_law_web" (j4 (top 28)) (m5 (top 28)) (p6 (top 28)) .none kV24 dc24 pm24 an24 cd24 ct24),sl24⟩) (c24:W.codeIn K cd24 "_law_web"=true) (k24:W.keepIn K (.ref f24)=true)
  (a25:W.nsIn K mainGlobals "_law_vals"=some (some (.ref f25))) (l25:K.lookup f25=some ⟨oc25,od25,.func (W.fnOf "_law_vals" "_law_vals" (j4 (top 29)) (m5 (top 29)) (p6 (top 29)) .none kV25 dc25 pm25 an25 cd25 ct25),sl25⟩) (c25:W.codeIn K cd25 "_law_vals"=true) (k25:W.keepIn K (.ref f25)=true)
  (a26:W.nsIn K mainGlobals "_law_with"=some (some (.ref f26))) (l26:K.lookup f26=some ⟨oc26,od26,.func (W.fnOf "_law_with" "_law_with" (j4 (top 31)) (m5 (top 31)) (p6 (top 31)) .none kV26 dc26 pm26 an26 cd26 ct26),sl26⟩) (c26:W.codeIn K cd26 "_law_with"=true) (k26:W.keepIn K (.ref f26)=true)
  (a27:W.nsIn K mainGlobals "_law_led"=some (some (.ref f27))) (l27:K.lookup f27=some ⟨oc27,od27,.func (W.fnOf "_law_led" "_law_led" (j4 (top 32)) (m5 (top 32)) (p6 (top 32)) .none kV27 dc27 pm27 an27 cd27 ct27),sl27⟩) (c27:W.codeIn K cd27 "_law_led"=true) (k27:W.keepIn K (.ref f27)=true)
  (a28:W.nsIn K mainGlobals "_law_drawn_web"=some (some (.ref f28))) (l28:K.lookup f28=some ⟨oc28,od28,.func (W.fnOf "_law_drawn_web" "_law_drawn_web" (j4 (top 33)) (m5 (top 33)) (p6 (top 33)) .none kV28 dc28 pm28 an28 cd28 ct28),sl28⟩) (c28:W.codeIn K cd28 "_law_drawn_web"=true) (k28:W.keepIn K (.ref f28)=true)
  (a29:W.nsIn K mainGlobals "_law_changed"=some (some (.ref f29))) (l29:K.lookup f29=some ⟨oc29,od29,.func (W.fnOf "_law_changed" "_law_changed" (j4 (top 34)) (m5 (top 34)) (p6 (top 34)) .none kV29 dc29 pm29 an29 cd29 ct29),sl29⟩) (c29:W.codeIn K cd29 "_law_changed"=true) (k29:W.keepIn K (.ref f29)=true)
  (a30:W.nsIn K mainGlobals "_law_order"=some (some (.ref f30))) (l30:K.lookup f30=some ⟨oc30,od30,.func (W.fnOf "_law_order" "_law_order" (j4 (top 35)) (m5 (top 35)) (p6 (top 35)) .none kV30 dc30 pm30 an30 cd30 ct30),sl30⟩) (c30:W.codeIn K cd30 "_law_order"=true) (k30:W.keepIn K (.ref f30)=true)
  (a31:W.nsIn K mainGlobals "_law_from_root"=some (some (.ref f31))) (l31:K.lookup f31=some ⟨oc31,od31,.func (W.fnOf "_law_from_root" "_law_from_root" (j4 (top 36)) (m5 (top 36)) (p6 (top 36)) .none kV31 dc31 pm31 an31 cd31 ct31),sl31⟩) (c31:W.codeIn K cd31 "_law_from_root"=true) (k31:W.keepIn K (.ref f31)=true)
  (a32:W.nsIn K mainGlobals "_law_places"=some (some (.ref f32))) (l32:K.lookup f32=some ⟨oc32,od32,.func (W.fnOf "_law_places" "_law_places" (j4 (top 37)) (m5 (top 37)) (p6 (top 37)) .none kV32 dc32 pm32 an32 cd32 ct32),sl32⟩) (c32:W.codeIn K cd32 "_law_places"=true) (k32:W.keepIn K (.ref f32)=true)
  (a33:W.nsIn K mainGlobals "_law_renumbered"=some (some (.ref f33))) (l33:K.lookup f33=some ⟨oc33,od33,.func (W.fnOf "_law_renumbered" "_law_renumbered" (j4 (top 38)) (m5 (top 38)) (p6 (top 38)) .none kV33 dc33 pm33 an33 cd33 ct33),sl33⟩) (c33:W.codeIn K cd33 "_law_renumbered"=true) (k33:W.keepIn K (.ref f33)=true)
  (a34:W.nsIn K mainGlobals "_law_said"=some (some (.ref f34))) (l34:K.lookup f34=some ⟨oc34,od34,.func (W.fnOf "_law_said" "_law_said" (j4 (top 39)) (m5 (top 39)) (p6 (top 39)) .none kV34 dc34 pm34 an34 cd34 ct34),sl34⟩) (c34:W.codeIn K cd34 "_law_said"=true) (k34:W.keepIn K (.ref f34)=true)
  (a35:W.nsIn K mainGlobals "_law_is_list"=some (some (.ref f35))) (l35:K.lookup f35=some ⟨oc35,od35,.func (W.fnOf "_law_is_list" "_law_is_list" (j4 (top 40)) (m5 (top 40)) (p6 (top 40)) .none kV35 dc35 pm35 an35 cd35 ct35),sl35⟩) (c35:W.codeIn K cd35 "_law_is_list"=true) (k35:W.keepIn K (.ref f35)=true)
  (a36:W.nsIn K mainGlobals "_law_asked"=some (some (.ref f36))) (l36:K.lookup f36=some ⟨oc36,od36,.func (W.fnOf "_law_asked" "_law_asked" (j4 (top 41)) (m5 (top 41)) (p6 (top 41)) .none kV36 dc36 pm36 an36 cd36 ct36),sl36⟩) (c36:W.codeIn K cd36 "_law_asked"=true) (k36:W.keepIn K (.ref f36)=true)
  (a37:W.nsIn K mainGlobals "law"=some (some (.ref f37))) (l37:K.lookup f37=some ⟨oc37,od37,.func (W.fnOf "law" "law" (j4 (top 42)) (m5 (top 42)) (p6 (top 42)) .none kV37 dc37 pm37 an37 cd37 ct37),sl37⟩) (c37:W.codeIn K cd37 "law"=true) (k37:W.keepIn K (.ref f37)=true)
  (a38:W.nsIn K mainGlobals "pairing"=some (some (.ref f38))) (l38:K.lookup f38=some ⟨oc38,od38,.func (W.fnOf "pairing" "pairing" (j4 (top 18)) (m5 (top 18)) (p6 (top 18)) .none kV38 dc38 pm38 an38 cd38 ct38),sl38⟩) (c38:W.codeIn K cd38 "pairing"=true) (k38:W.keepIn K (.ref f38)=true)
  (z_all:W.nsIn K mainGlobals "all"=some none)
  (z_bool:W.nsIn K mainGlobals "bool"=some none)
  (z_dict:W.nsIn K mainGlobals "dict"=some none)
  (z_enumerate:W.nsIn K mainGlobals "enumerate"=some none)
  (z_int:W.nsIn K mainGlobals "int"=some none)
  (z_isinstance:W.nsIn K mainGlobals "isinstance"=some none)
  (z_len:W.nsIn K mainGlobals "len"=some none)
  (z_list:W.nsIn K mainGlobals "list"=some none)
  (z_range:W.nsIn K mainGlobals "range"=some none)
  (z_reversed:W.nsIn K mainGlobals "reversed"=some none)
  (z_set:W.nsIn K mainGlobals "set"=some none)
  (z_sorted:W.nsIn K mainGlobals "sorted"=some none)
  (z_tuple:W.nsIn K mainGlobals "tuple"=some none)
  (z_zip:W.nsIn K mainGlobals "zip"=some none)
  : ∃fd:FuncData,(∀(s:Shared) (v:Value),BindsTo s fd ⟨[v],[]⟩ [("_law_script",v)])/\∀base:Heap,K.In base->base.Ns mainGlobals mg->FnOk l.prog w K mg base CX0 9 fa fd ["_law_script"] (spD K sv0):=by
 have e:=hfa.symm.trans (W.mg_of X G a37)
 cases e;have T:Txt mg:=⟨W.mg_none_of X G z_all,W.mg_none_of X G z_bool,W.mg_none_of X G z_dict,W.mg_none_of X G z_enumerate,W.mg_none_of X G z_int,W.mg_none_of X G z_isinstance,W.mg_none_of X G z_len,W.mg_none_of X G z_list,W.mg_none_of X G z_range,W.mg_none_of X G z_reversed,W.mg_none_of X G z_set,W.mg_none_of X G z_sorted,W.mg_none_of X G z_tuple,W.mg_none_of X G z_zip⟩;have F0:=Z8 (st:=top 1) l0 c0 k0;have F1:=Z8 (st:=top 2) l1 c1 k1;have F2:=Z8 (st:=top 3) l2 c2 k2;have F3:=Z8 (st:=top 4) l3 c3 k3;have F4:=Z8 (st:=top 5) l4 c4 k4;have F5:=jp0 (st:=top 6) l5 c5 k5;have F6:=Z8 (st:=top 7) l6 c6 k6;have F7:=Z8 (st:=top 8) l7 c7 k7;have F8:=jp0 (st:=top 9) l8 c8 k8;have F9:=Z8 (st:=top 11) l9 c9 k9;have F10:=Z8 (st:=top 12) l10 c10 k10;have F11:=Z8 (st:=top 13) l11 c11 k11;have F12:=Z8 (st:=top 14) l12 c12 k12;have F13:=Z8 (st:=top 15) l13 c13 k13;have F14:=Z8 (st:=top 17) l14 c14 k14;have F15:=Z8 (st:=top 18) l15 c15 k15;have F16:=Z8 (st:=top 19) l16 c16 k16;have F17:=Z8 (st:=top 20) l17 c17 k17;have F18:=Z8 (st:=top 22) l18 c18 k18;have F19:=Z8 (st:=top 23) l19 c19 k19;have F20:=Z8 (st:=top 24) l20 c20 k20;have F21:=Z8 (st:=top 25) l21 c21 k21;have F22:=Z8 (st:=top 26) l22 c22 k22;have F23:=Z8 (st:=top 27) l23 c23 k23;have F24:=Z8 (st:=top 28) l24 c24 k24;have F25:=Z8 (st:=top 29) l25 c25 k25;have F26:=Z8 (st:=top 31) l26 c26 k26;have F27:=Z8 (st:=top 32) l27 c27 k27;have F28:=Z8 (st:=top 33) l28 c28 k28;have F29:=Z8 (st:=top 34) l29 c29 k29;have F30:=Z8 (st:=top 35) l30 c30 k30;have F31:=Z8 (st:=top 36) l31 c31 k31;have F32:=Z8 (st:=top 37) l32 c32 k32;have F33:=Z8 (st:=top 38) l33 c33 k33;have F34:=Z8 (st:=top 39) l34 c34 k34;have F35:=Z8 (st:=top 40) l35 c35 k35;have F36:=Z8 (st:=top 41) l36 c36 k36;have F37:=Z8 (st:=top 42) l37 c37 k37;have F38:=Z8 (st:=top 18) l38 c38 k38;refine⟨W.fnOf "law" "law" (j4 (top 42)) (m5 (top 42)) (p6 (top 42)) .none kV37 dc37 pm37 an37 cd37 ct37,fun s v=>.of_eq rfl,fun base _ _=>?_⟩
 have C_pair_names:FnN l.prog w K mg base "pair_names" 1 ["part"] Y7:=⟨f0,_,ox0 F0 T ,W.mg_of X G a0,k0,F0.binds (ps:=["part"]) fun _ _ _ _ _ _ us hl=>by obtain⟨_,rfl⟩:=us1 hl; rfl⟩
 have C_values:FnN l.prog w K mg base "values" 1 ["part"] m_values:=⟨f2,_,g00 F2 T ,W.mg_of X G a2,k2,F2.binds (ps:=["part"]) fun _ _ _ _ _ _ us hl=>by obtain⟨_,rfl⟩:=us1 hl; rfl⟩
 have C_are_links:FnD l.prog w K mg base "are_links" 1 ["both"] O3:=⟨f9,_,l00 F9 T ,W.mg_of X G a9,k9,F9.binds (ps:=["both"]) fun _ _ _ _ _ _ us hl=>by obtain⟨_,rfl⟩:=us1 hl; rfl⟩
 have C_linked_pair:FnD l.prog w K mg base "linked_pair" 1 ["both"] U5:=⟨f10,_,pl0 F10 T ,W.mg_of X G a10,k10,F10.binds (ps:=["both"]) fun _ _ _ _ _ _ us hl=>by obtain⟨_,rfl⟩:=us1 hl; rfl⟩
 have C_are_parts:FnD l.prog w K mg base "are_parts" 1 ["one", "other", "pair"] O4:=⟨f12,_,mx0 F12 T ,W.mg_of X G a12,k12,F12.binds (ps:=["one", "other", "pair"]) fun _ _ _ _ _ _ us hl=>by obtain⟨_,_,_,rfl⟩:=us3 hl; rfl⟩
 have C_stand_once:FnD l.prog w K mg base "stand_once" 1 ["pairs"] R9:=⟨f17,_,n90 F17 T ,W.mg_of X G a17,k17,F17.binds (ps:=["pairs"]) fun _ _ _ _ _ _ us hl=>by obtain⟨_,rfl⟩:=us1 hl; rfl⟩
 have C__law_cell_at:FnD l.prog w K mg base "_law_cell_at" 1 ["_law_script", "_law_k"] Z6:=⟨f18,_,q90 F18 T ,W.mg_of X G a18,k18,F18.binds (ps:=["_law_script", "_law_k"]) fun _ _ _ _ _ _ us hl=>by obtain⟨_,_,rfl⟩:=us2 hl; rfl⟩
 have C__law_pool:FnN l.prog w K mg base "_law_pool" 1 ["_law_cell", "_law_turn"] G3:=⟨f19,_,lv0 F19 T ,W.mg_of X G a19,k19,F19.binds (ps:=["_law_cell", "_law_turn"]) fun _ _ _ _ _ _ us hl=>by obtain⟨_,_,rfl⟩:=us2 hl; rfl⟩
 have C__law_mix:FnD l.prog w K mg base "_law_mix" 1 ["_law_cell", "_law_k"] V7:=⟨f20,_,ki0 F20 T ,W.mg_of X G a20,k20,F20.binds (ps:=["_law_cell", "_law_k"]) fun _ _ _ _ _ _ us hl=>by obtain⟨_,_,rfl⟩:=us2 hl; rfl⟩
 have C__law_value:FnD l.prog w K mg base "_law_value" 1 ["_law_number", "_law_many"] W2:=⟨f21,_,n80 F21 T ,W.mg_of X G a21,k21,F21.binds (ps:=["_law_number", "_law_many"]) fun _ _ _ _ _ _ us hl=>by obtain⟨_,_,rfl⟩:=us2 hl; rfl⟩
 have C__law_part:FnD l.prog w K mg base "_law_part" 1 ["_law_number", "_law_some", "_law_pool_here"] K3:=⟨f23,_,lc0 F23 T ,W.mg_of X G a23,k23,F23.binds (ps:=["_law_number", "_law_some", "_law_pool_here"]) fun _ _ _ _ _ _ us hl=>by obtain⟨_,_,_,rfl⟩:=us3 hl; rfl⟩
 have C__law_vals:FnN l.prog w K mg base "_law_vals" 1 ["_law_part_here"] j6:=⟨f25,_,lp0 F25 T ,W.mg_of X G a25,k25,F25.binds (ps:=["_law_part_here"]) fun _ _ _ _ _ _ us hl=>by obtain⟨_,rfl⟩:=us1 hl; rfl⟩
 have C__law_with:FnD l.prog w K mg base "_law_with" 1 ["_law_part_here", "_law_some"] W4:=⟨f26,_,lq0 F26 T ,W.mg_of X G a26,k26,F26.binds (ps:=["_law_part_here", "_law_some"]) fun _ _ _ _ _ _ us hl=>by obtain⟨_,_,rfl⟩:=us2 hl; rfl⟩
 have C__law_places:FnN l.prog w K mg base "_law_places" 1 ["_law_cell", "_law_many"] zi0:=⟨f32,_,qy0 F32 T ,W.mg_of X G a32,k32,F32.binds (ps:=["_law_cell", "_law_many"]) fun _ _ _ _ _ _ us hl=>by obtain⟨_,_,rfl⟩:=us2 hl; rfl⟩
 have C__law_said:FnD l.prog w K mg base "_law_said" 1 ["_law_found", "_law_due"] J9:=⟨f34,_,ld0 F34 T ,W.mg_of X G a34,k34,F34.binds (ps:=["_law_found", "_law_due"]) fun _ _ _ _ _ _ us hl=>by obtain⟨_,_,rfl⟩:=us2 hl; rfl⟩
 have C__law_is_list:FnD l.prog w K mg base "_law_is_list" 1 ["_law_found"] O1:=⟨f35,_,qb0 F35 T ,W.mg_of X G a35,k35,F35.binds (ps:=["_law_found"]) fun _ _ _ _ _ _ us hl=>by obtain⟨_,rfl⟩:=us1 hl; rfl⟩
 have C_head:FnD l.prog w K mg base "head" 2 ["part"] M7:=⟨f1,_,au0 F1 T C_pair_names,W.mg_of X G a1,k1,F1.binds (ps:=["part"]) fun _ _ _ _ _ _ us hl=>by obtain⟨_,rfl⟩:=us1 hl; rfl⟩
 have C_with_values:FnD l.prog w K mg base "with_values" 2 ["part", "some"] V6:=⟨f3,_,qr0 F3 T C_pair_names,W.mg_of X G a3,k3,F3.binds (ps:=["part", "some"]) fun _ _ _ _ _ _ us hl=>by obtain⟨_,_,rfl⟩:=us2 hl; rfl⟩
 have C_links:FnN l.prog w K mg base "links" 2 ["part"] G9:=⟨f4,_,er0 F4 T C_values,W.mg_of X G a4,k4,F4.binds (ps:=["part"]) fun _ _ _ _ _ _ us hl=>by obtain⟨_,rfl⟩:=us1 hl; rfl⟩
 have C__law_values:FnN l.prog w K mg base "_law_values" 2 ["_law_number", "_law_count", "_law_many"] Q3:=⟨f22,_,qw0 F22 T C__law_value,W.mg_of X G a22,k22,F22.binds (ps:=["_law_number", "_law_count", "_law_many"]) fun _ _ _ _ _ _ us hl=>by obtain⟨_,_,_,rfl⟩:=us3 hl; rfl⟩
 have C__law_led:FnD l.prog w K mg base "_law_led" 2 ["_law_part_here", "_law_numbers"] K1:=⟨f27,_,kp0 F27 T C__law_vals C__law_with,W.mg_of X G a27,k27,F27.binds (ps:=["_law_part_here", "_law_numbers"]) fun _ _ _ _ _ _ us hl=>by obtain⟨_,_,rfl⟩:=us2 hl; rfl⟩
 have C__law_changed:FnD l.prog w K mg base "_law_changed" 2 ["_law_web_here", "_law_cell"] T6:=⟨f29,_,q40 F29 T C__law_vals C__law_value C__law_with,W.mg_of X G a29,k29,F29.binds (ps:=["_law_web_here", "_law_cell"]) fun _ _ _ _ _ _ us hl=>by obtain⟨_,_,rfl⟩:=us2 hl; rfl⟩
 have C__law_order:FnN l.prog w K mg base "_law_order" 2 ["_law_web_here"] W3:=⟨f30,_,ov0 F30 T C__law_vals,W.mg_of X G a30,k30,F30.binds (ps:=["_law_web_here"]) fun _ _ _ _ _ _ us hl=>by obtain⟨_,rfl⟩:=us1 hl; rfl⟩
 have C_met_but:FnN l.prog w K mg base "met_but" 3 ["web", "k", "left"] y40:=⟨f6,_,ib0 F6 T C_links,W.mg_of X G a6,k6,F6.binds (ps:=["web", "k", "left"]) fun _ _ _ _ _ _ us hl=>by obtain⟨_,_,_,rfl⟩:=us3 hl; rfl⟩
 have C_relinked:FnD l.prog w K mg base "relinked" 3 ["part", "numbers"] z90:=⟨f7,_,ku0 F7 T C_values C_with_values,W.mg_of X G a7,k7,F7.binds (ps:=["part", "numbers"]) fun _ _ _ _ _ _ us hl=>by obtain⟨_,_,rfl⟩:=us2 hl; rfl⟩
 have C_is_upheld:FnD l.prog w K mg base "is_upheld" 3 ["one", "other", "pair", "listed"] O5:=⟨f13,_,m60 F13 T C_are_links C_head C_linked_pair C_values,W.mg_of X G a13,k13,F13.binds (ps:=["one", "other", "pair", "listed"]) fun _ _ _ _ _ _ us hl=>by obtain⟨_,_,_,_,rfl⟩:=us4 hl; rfl⟩
 have C__law_web:FnD l.prog w K mg base "_law_web" 3 ["_law_cells", "_law_many", "_law_pool_here"] zd0:=⟨f24,_,kl0 F24 T C__law_mix C__law_part C__law_values,W.mg_of X G a24,k24,F24.binds (ps:=["_law_cells", "_law_many", "_law_pool_here"]) fun _ _ _ _ _ _ us hl=>by obtain⟨_,_,_,rfl⟩:=us3 hl; rfl⟩
 have C__law_from_root:FnD l.prog w K mg base "_law_from_root" 3 ["_law_web_here"] X7:=⟨f31,_,r00 F31 T C__law_led C__law_order,W.mg_of X G a31,k31,F31.binds (ps:=["_law_web_here"]) fun _ _ _ _ _ _ us hl=>by obtain⟨_,rfl⟩:=us1 hl; rfl⟩
 have C__law_renumbered:FnD l.prog w K mg base "_law_renumbered" 3 ["_law_web_here", "_law_cell", "_law_more"] M6:=⟨f33,_,s00 F33 T C__law_led C__law_places,W.mg_of X G a33,k33,F33.binds (ps:=["_law_web_here", "_law_cell", "_law_more"]) fun _ _ _ _ _ _ us hl=>by obtain⟨_,_,_,rfl⟩:=us3 hl; rfl⟩
 have C_met:FnN l.prog w K mg base "met" 4 ["web", "k"] zb0:=⟨f5,_,ec0 F5 T C_met_but,W.mg_of X G a5,k5,fun s us X hl=>match us,hl with|[_,_],_=>W.binds_K X rfl t5 rfl rfl rfl⟩
 have Cd_met:lj0 l.prog w K mg base "met" 4 ["web", "k"] zb0 [(.int 0)]:=⟨f5,_,[.int 0 tt5_0],[.int 0],ec0 F5 T C_met_but,W.mg_of X G a5,k5,fun s us X hl=>by obtain⟨u0,rfl⟩:=us1 (show us.length=1 by rw[List.length_append] at hl; simpa using hl); exact W.binds_K X rfl t5 rfl rfl rfl,by repeat (first|exact .nil|refine .cons (by first|exact⟨_,rfl⟩|rfl) ?_),fun H B=>by simp[o4,o8,n6,W0]⟩
 have C_are_closed:FnD l.prog w K mg base "are_closed" 4 ["one", "other", "pairs"] R7:=⟨f11,_,n00 F11 T C_are_parts C_is_upheld,W.mg_of X G a11,k11,F11.binds (ps:=["one", "other", "pairs"]) fun _ _ _ _ _ _ us hl=>by obtain⟨_,_,_,rfl⟩:=us3 hl; rfl⟩
 have C__law_drawn_web:FnD l.prog w K mg base "_law_drawn_web" 4 ["_law_script", "_law_most"] J0:=⟨f28,_,rb0 F28 T C__law_cell_at C__law_pool C__law_web,W.mg_of X G a28,k28,F28.binds (ps:=["_law_script", "_law_most"]) fun _ _ _ _ _ _ us hl=>by obtain⟨_,_,rfl⟩:=us2 hl; rfl⟩
 have C_drawn:FnD l.prog w K mg base "drawn" 5 ["web", "k"] xn0:=⟨f8,_,k00 F8 T C_met C_relinked,W.mg_of X G a8,k8,fun s us X hl=>match us,hl with|[_,_],_=>W.binds_K X rfl t8 rfl rfl rfl⟩
 have Cd_drawn:cj0 l.prog w K mg base "drawn" 5 ["web", "k"] xn0 [(.int 0)]:=⟨f8,_,[.int 0 tt8_0],[.int 0],k00 F8 T C_met C_relinked,W.mg_of X G a8,k8,fun s us X hl=>by obtain⟨u0,rfl⟩:=us1 (show us.length=1 by rw[List.length_append] at hl; simpa using hl); exact W.binds_K X rfl t8 rfl rfl rfl,by repeat (first|exact .nil|refine .cons (by first|exact⟨_,rfl⟩|rfl) ?_),fun H B=>by simp[o4,o8,n6,W0]⟩
 have C_is_pairing:FnD l.prog w K mg base "is_pairing" 5 ["one", "other", "pairs"] U0:=⟨f16,_,ow0 F16 T C_are_closed C_stand_once,W.mg_of X G a16,k16,F16.binds (ps:=["one", "other", "pairs"]) fun _ _ _ _ _ _ us hl=>by obtain⟨_,_,_,rfl⟩:=us3 hl; rfl⟩
 have C_same:FnD l.prog w K mg base "same" 6 ["one", "other"] zm0:=⟨f14,_,Y60 F14 T Cd_drawn,W.mg_of X G a14,k14,F14.binds (ps:=["one", "other"]) fun _ _ _ _ _ _ us hl=>by obtain⟨_,_,rfl⟩:=us2 hl; rfl⟩
 have C_pairing:FnD l.prog w K mg base "pairing" 7 ["one", "other"] y70:=⟨f15,_,ij0 F15 T C_same Cd_met,W.mg_of X G a15,k15,F15.binds (ps:=["one", "other"]) fun _ _ _ _ _ _ us hl=>by obtain⟨_,_,rfl⟩:=us2 hl; rfl⟩
 have C_pairing__n:FnN l.prog w K mg base "pairing" 7 ["one", "other"] R3:=⟨f38,_,oo0 F38 T C_same Cd_met,W.mg_of X G a38,k38,F38.binds (ps:=["one", "other"]) fun _ _ _ _ _ _ us hl=>by obtain⟨_,_,rfl⟩:=us2 hl; rfl⟩
 have C__law_asked:FnD l.prog w K mg base "_law_asked" 8 ["_law_one", "_law_other", "_law_due"] O7:=⟨f36,_,oz0 F36 T C__law_is_list C__law_said C_is_pairing C_pairing C_pairing__n C_same,W.mg_of X G a36,k36,F36.binds (ps:=["_law_one", "_law_other", "_law_due"]) fun _ _ _ _ _ _ us hl=>by obtain⟨_,_,_,rfl⟩:=us3 hl; rfl⟩
 exact X00 F37 T C__law_asked C__law_cell_at C__law_changed C__law_drawn_web C__law_from_root C__law_mix C__law_order C__law_renumbered
theorem mk0{K:W.Frag}{H:Hp}{B:BS}:∀ns:List Int,Rps K H B (ns.map D.int) (ns.map V.int)
 | []=>by rw[List.map_nil,List.map_nil,o8]
 | n::ns=>by
  rw[List.map_cons,List.map_cons,o4];exact⟨_,_,rfl,by rw[n6],mk0 ns⟩
theorem fr0{K:W.Frag}{H:Hp}{a:Addr}{ns:List Int}(hS:SqL K H a (ns.map V.int))(hm:sv0 [.lst (ns.map .int)]=some (.bl true)):spD K sv0 [.ref a] H (fun v _=>v=.bl true) fun _ _ _=>False:=by
 refine⟨fun _=>False,[.lst (ns.map .int)],.bl true,fun _ z=>z.elim,?_,hm,fun v H' _ r=>by rw[Y4] at r; exact r⟩
 rw[o4];refine⟨_,[],rfl,?_,by rw[o8]⟩
 rw[Z5];refine⟨a,ns.map V.int,rfl,?_,mk0 ns⟩
 rcases hS with h|h
 ·exact .inl ⟨fun z=>z,h⟩
 ·exact .inr (.inr h)
end Ua
open PySem PySem.W PyProof.Rows
theorem PySem.W.Fast.tw2930220007367021057:True:=trivial
theorem PySem.W.Fast.tw4621046292287774550:True:=trivial
theorem PySem.W.Fast.tw4430630807600365615:True:=trivial
theorem PySem.W.Fast.tw5510246916086780284:True:=trivial
theorem PySem.W.Fast.tw13686043585989706078:True:=trivial
theorem PySem.W.Fast.tw17676275150426509878:True:=trivial
theorem PySem.W.Fast.tw4290318103251807407:True:=trivial
theorem PySem.W.Fast.tw16371092713776523422:True:=trivial
theorem PySem.W.Fast.tw11935289376998626486:True:=trivial
theorem PySem.W.Fast.tw12407541843341551896:True:=trivial
theorem PySem.W.Fast.tw8168663583091885395:True:=trivial
theorem PySem.W.Fast.tw15413988153027512152:True:=trivial
theorem PySem.W.Fast.tw1373584647805193632:True:=trivial
theorem PySem.W.Fast.tw10094014922117296358:True:=trivial
theorem PySem.W.Fast.tw9841761089343449304:True:=trivial
theorem PySem.W.Fast.tw1416257288559621651:True:=trivial
theorem PySem.W.Fast.tw2213522627357127089:True:=trivial
theorem PySem.W.Fast.tw1957141579863122986:True:=trivial
theorem PySem.W.Fast.tw16766426820579509998:True:=trivial
theorem PySem.W.Fast.tw11255535295420716808:True:=trivial
theorem PySem.W.Fast.tw14420457553828332600:True:=trivial
theorem PySem.W.Fast.tw13511473204886175973:True:=trivial
theorem PySem.W.Fast.tw12942238065655726945:True:=trivial
theorem PySem.W.Fast.tw15581449507630950181:True:=trivial
theorem PySem.W.Fast.tw12782045539579375069:True:=trivial
theorem PySem.W.Fast.tw8002430793813719108:True:=trivial
theorem PySem.W.Fast.tw6363307508550384938:True:=trivial
theorem PySem.W.Fast.tw3922062644562921463:True:=trivial
theorem PySem.W.Fast.tw13209516460729464338:True:=trivial
theorem PySem.W.Fast.tw12058599605620692701:True:=trivial
set_option maxRecDepth 100000 in
set_option maxHeartbeats 0 in
theorem PySem.Challenge.cw_graphpack_k17_pairings_told_holds : PySem.Challenge.rw_graphpack_k17_pairings_told.Holds := by
 w_on; o_law; k_head; (case hw=>w_witness2)
 k_fill
 refine L2.d90 (l:=PySem.Challenge.rw_graphpack_k17_pairings_told) (n:=63) (k:=9) (x := "_law_script") (CX:=L2.CX0) (sp:=fun K=>DL.spD K Ua.sv0) rfl (by decide) rfl ⟨rfl,by decide,by decide⟩ (fun w h Y=>W.kIn_of Y) ?F ?S ?C
 case F =>
  intro w mg fa h KX G hmg;refine' Ua.all_mk KX G hmg ?a0 ?l0 ?c0 ?k0 ?a1 ?l1 ?c1 ?k1 ?a2 ?l2 ?c2 ?k2 ?a3 ?l3 ?c3 ?k3 ?a4 ?l4 ?c4 ?k4 ?a5 ?l5 ?c5 ?k5 ?t5 ?a6 ?l6 ?c6 ?k6 ?a7 ?l7 ?c7 ?k7 ?a8 ?l8 ?c8 ?k8 ?t8 ?a9 ?l9 ?c9 ?k9 ?a10 ?l10 ?c10 ?k10 ?a11 ?l11 ?c11 ?k11 ?a12 ?l12 ?c12 ?k12 ?a13 ?l13 ?c13 ?k13 ?a14 ?l14 ?c14 ?k14 ?a15 ?l15 ?c15 ?k15 ?a16 ?l16 ?c16 ?k16 ?a17 ?l17 ?c17 ?k17 ?a18 ?l18 ?c18 ?k18 ?a19 ?l19 ?c19 ?k19 ?a20 ?l20 ?c20 ?k20 ?a21 ?l21 ?c21 ?k21 ?a22 ?l22 ?c22 ?k22 ?a23 ?l23 ?c23 ?k23 ?a24 ?l24 ?c24 ?k24 ?a25 ?l25 ?c25 ?k25 ?a26 ?l26 ?c26 ?k26 ?a27 ?l27 ?c27 ?k27 ?a28 ?l28 ?c28 ?k28 ?a29 ?l29 ?c29 ?k29 ?a30 ?l30 ?c30 ?k30 ?a31 ?l31 ?c31 ?k31 ?a32 ?l32 ?c32 ?k32 ?a33 ?l33 ?c33 ?k33 ?a34 ?l34 ?c34 ?k34 ?a35 ?l35 ?c35 ?k35 ?a36 ?l36 ?c36 ?k36 ?a37 ?l37 ?c37 ?k37 ?a38 ?l38 ?c38 ?k38 ?z_all ?z_bool ?z_dict ?z_enumerate ?z_int ?z_isinstance ?z_len ?z_list ?z_range ?z_reversed ?z_set ?z_sorted ?z_tuple ?z_zip
  (case a0=>k_is)
  (case l0=>k_is)
  (case c0=>k_is)
  (case k0=>k_is)
  (case a1=>k_is)
  (case l1=>k_is)
  (case c1=>k_is)
  (case k1=>k_is)
  (case a2=>k_is)
  (case l2=>k_is)
  (case c2=>k_is)
  (case k2=>k_is)
  (case a3=>k_is)
  (case l3=>k_is)
  (case c3=>k_is)
  (case k3=>k_is)
  (case a4=>k_is)
  (case l4=>k_is)
  (case c4=>k_is)
  (case k4=>k_is)
  (case a5=>k_is)
  (case l5=>k_is)
  (case c5=>k_is)
  (case k5=>k_is)
  (case t5=>k_is)
  (case a6=>k_is)
  (case l6=>k_is)
  (case c6=>k_is)
  (case k6=>k_is)
  (case a7=>k_is)
  (case l7=>k_is)
  (case c7=>k_is)
  (case k7=>k_is)
  (case a8=>k_is)
  (case l8=>k_is)
  (case c8=>k_is)
  (case k8=>k_is)
  (case t8=>k_is)
  (case a9=>k_is)
  (case l9=>k_is)
  (case c9=>k_is)
  (case k9=>k_is)
  (case a10=>k_is)
  (case l10=>k_is)
  (case c10=>k_is)
  (case k10=>k_is)
  (case a11=>k_is)
  (case l11=>k_is)
  (case c11=>k_is)
  (case k11=>k_is)
  (case a12=>k_is)
  (case l12=>k_is)
  (case c12=>k_is)
  (case k12=>k_is)
  (case a13=>k_is)
  (case l13=>k_is)
  (case c13=>k_is)
  (case k13=>k_is)
  (case a14=>k_is)
  (case l14=>k_is)
  (case c14=>k_is)
  (case k14=>k_is)
  (case a15=>k_is)
  (case l15=>k_is)
  (case c15=>k_is)
  (case k15=>k_is)
  (case a16=>k_is)
  (case l16=>k_is)
  (case c16=>k_is)
  (case k16=>k_is)
  (case a17=>k_is)
  (case l17=>k_is)
  (case c17=>k_is)
  (case k17=>k_is)
  (case a18=>k_is)
  (case l18=>k_is)
  (case c18=>k_is)
  (case k18=>k_is)
  (case a19=>k_is)
  (case l19=>k_is)
  (case c19=>k_is)
  (case k19=>k_is)
  (case a20=>k_is)
  (case l20=>k_is)
  (case c20=>k_is)
  (case k20=>k_is)
  (case a21=>k_is)
  (case l21=>k_is)
  (case c21=>k_is)
  (case k21=>k_is)
  (case a22=>k_is)
  (case l22=>k_is)
  (case c22=>k_is)
  (case k22=>k_is)
  (case a23=>k_is)
  (case l23=>k_is)
  (case c23=>k_is)
  (case k23=>k_is)
  (case a24=>k_is)
  (case l24=>k_is)
  (case c24=>k_is)
  (case k24=>k_is)
  (case a25=>k_is)
  (case l25=>k_is)
  (case c25=>k_is)
  (case k25=>k_is)
  (case a26=>k_is)
  (case l26=>k_is)
  (case c26=>k_is)
  (case k26=>k_is)
  (case a27=>k_is)
  (case l27=>k_is)
  (case c27=>k_is)
  (case k27=>k_is)
  (case a28=>k_is)
  (case l28=>k_is)
  (case c28=>k_is)
  (case k28=>k_is)
  (case a29=>k_is)
  (case l29=>k_is)
  (case c29=>k_is)
  (case k29=>k_is)
  (case a30=>k_is)
  (case l30=>k_is)
  (case c30=>k_is)
  (case k30=>k_is)
  (case a31=>k_is)
  (case l31=>k_is)
  (case c31=>k_is)
  (case k31=>k_is)
  (case a32=>k_is)
  (case l32=>k_is)
  (case c32=>k_is)
  (case k32=>k_is)
  (case a33=>k_is)
  (case l33=>k_is)
  (case c33=>k_is)
  (case k33=>k_is)
  (case a34=>k_is)
  (case l34=>k_is)
  (case c34=>k_is)
  (case k34=>k_is)
  (case a35=>k_is)
  (case l35=>k_is)
  (case c35=>k_is)
  (case k35=>k_is)
  (case a36=>k_is)
  (case l36=>k_is)
  (case c36=>k_is)
  (case k36=>k_is)
  (case a37=>k_is)
  (case l37=>k_is)
  (case c37=>k_is)
  (case k37=>k_is)
  (case a38=>k_is)
  (case l38=>k_is)
  (case c38=>k_is)
  (case k38=>k_is)
  (case z_all=>k_is)
  (case z_bool=>k_is)
  (case z_dict=>k_is)
  (case z_enumerate=>k_is)
  (case z_int=>k_is)
  (case z_isinstance=>k_is)
  (case z_len=>k_is)
  (case z_list=>k_is)
  (case z_range=>k_is)
  (case z_reversed=>k_is)
  (case z_set=>k_is)
  (case z_sorted=>k_is)
  (case z_tuple=>k_is)
  (case z_zip=>k_is)
 case S=>exact fun K H a ns hl hO hS=>Ua.fr0 hS (Ua.ep0 ns hl)
 case C=>exact fun _ _ _ _ z=>z
#print axioms PySem.Challenge.cw_graphpack_k17_pairings_told_holds
