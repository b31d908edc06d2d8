import PyProof.Rows.All
import Wide.All
import OpenK.AllK
import Wide.FinOn
import Lean
import PyProof.EqAt
import PyProof.EqKinds
import PyProof.TupleCall
import PySem.SetTable
import KE.KRevIter
import PyProof.FactsAll.set_1
import KE.KSortTup
import PyProof.FactsAll.tuple_2
import PyProof.ListMulRoad
import KE.KIntText
import PyProof.AutoSeq1
import PySem.Challenge.RW_plotstead_k52_whole_added
set_option Elab.async false
set_option linter.all false
set_option maxRecDepth 100000
namespace L2
open PySem PySem.Spec PyProof.Rows
noncomputable abbrev Key:=Sum Int Str
noncomputable def Zif:Key->Value->Bool
 | .inl k,v=>Value.isInt k v
 | .inr x,v=>Value.isStrOf x v
noncomputable def Zks (w:World):Key->Int
 | .inl k=>hashInt k
 | .inr x=>hashStr w x
theorem ZP:∀ {k:Key} {v:Value},Zif k v=true->(∃ i t,k=Sum.inl i/\v=Value.int i t)\/(∃ x t,k=Sum.inr x/\v=Value.str x t)
 | .inl i,v,h=>by
  obtain ⟨t,e⟩:=Value.isInt_shape (k:=i) (v:=v) h
  exact .inl ⟨i,t,rfl,e⟩
 | .inr x,v,h=>by
  obtain ⟨t,e⟩:=Value.isStrOf_shape (x:=x) (v:=v) h
  exact .inr ⟨x,t,rfl,e⟩
theorem Zie (a b:Int):decide ((Sum.inl a:Key)=Sum.inl b)=(a==b):=by
 by_cases e:a=b
 ·subst e; simp
 ·have h:¬ (Sum.inl a:Key)=Sum.inl b:=fun q=>e (Sum.inl.inj q)
  rw [decide_eq_false h]
  exact (beq_eq_false_iff_ne.mpr e).symm
theorem Zib (a b:Str):decide ((Sum.inr a:Key)=Sum.inr b)=decide (a=b):=by
 by_cases e:a=b
 ·subst e; simp
 ·have h:¬ (Sum.inr a:Key)=Sum.inr b:=fun q=>e (Sum.inr.inj q)
  rw [decide_eq_false h,decide_eq_false e]
theorem Zid (a:Int) (b:Str):decide ((Sum.inl a:Key)=Sum.inr b)=false:=decide_eq_false (fun q=>nomatch q)
theorem Zic (a:Str) (b:Int):decide ((Sum.inr a:Key)=Sum.inl b)=false:=decide_eq_false (fun q=>nomatch q)
noncomputable def Zde (prog:Program) (w:World):PySem.KeyKind prog w Key where
 is:=Zif
 hash:=Zks w
 inj:=fun v a b ha hb=>by
  rcases ZP ha with ⟨i,t,rfl,rfl⟩ | ⟨x,t,rfl,rfl⟩
  ·rcases ZP hb with ⟨j,u,rfl,e⟩ | ⟨y,u,rfl,e⟩
   ·injection e with e1 _; rw [e1]
   ·exact nomatch e
  ·rcases ZP hb with ⟨j,u,rfl,e⟩ | ⟨y,u,rfl,e⟩
   ·exact nomatch e
   ·injection e with e1 _; rw [e1]
 byValue:=fun k v h=>by
  rcases ZP h with ⟨i,t,rfl,rfl⟩ | ⟨x,t,rfl,rfl⟩ <;> rfl
 pyHash:=fun hv h=>by
  rcases ZP hv with ⟨i,t,rfl,rfl⟩ | ⟨x,t,rfl,rfl⟩
  ·exact wpAny_pyHash_int h
  ·exact wpAny_pyHash_str h
 eqBool:=fun hu hv h=>by
  rcases ZP hu with ⟨i,t,rfl,rfl⟩ | ⟨x,t,rfl,rfl⟩
  ·rcases ZP hv with ⟨j,u,rfl,rfl⟩ | ⟨y,u,rfl,rfl⟩
   ·rw [Zie] at h; exact wpAny_eqBool_int h
   ·rw [Zid] at h; exact SeqAt.EqAt.int_str i t y u _ _ _ _ h
  ·rcases ZP hv with ⟨j,u,rfl,rfl⟩ | ⟨y,u,rfl,rfl⟩
   ·rw [Zic] at h; exact SeqAt.EqAt.str_int x t j u _ _ _ _ h
   ·rw [Zib] at h; exact wpAny_eqBool_str h
 «strs»:=fun k x t v h=>by
  rcases ZP h with ⟨i,u,rfl,e⟩ | ⟨y,u,rfl,e⟩
  ·exact nomatch e
  ·injection e with e1 _
   subst e1
   cases v <;> rfl
inductive V where
 | non | bl (b:Bool) | int (i:Int) | str (x:Str) | byt (b:Array UInt8) | flt (b:UInt64) | ref (a:Addr) | ty (n:String)
 deriving DecidableEq
noncomputable def RelV:V->Value->Prop
 | .non,u=>u=Value.none
 | .bl b,u=>u=Value.bool b
 | .int i,u=>∃ t,u=Value.int i t
 | .str x,u=>∃ t,u=Value.str x t
 | .byt b,u=>∃ t,u=Value.bytes b t
 | .flt b,u=>∃ t,u=Value.float b t
 | .ref a,u=>u=Value.ref a
 | .ty n,u=>u=Value.type n
noncomputable abbrev Vals:List V->List Value->Prop:=Paired RelV
theorem Vals.length {xs:List V} {us:List Value} (r:Vals xs us):xs.length=us.length:=Paired.length r
theorem Vals.get:∀ {xs:List V} {us:List Value} {i:Nat} {x:V},Vals xs us->xs[i]?=some x->∃ u,us[i]?=some u/\RelV x u
 | _,_,_,_,.nil,e=>by simp at e
 | _,_,0,_,.cons r _,e=>by simp at e; subst e; exact ⟨_,rfl,r⟩
 | _,_,i+1,x,.cons _ t,e=>by
  obtain ⟨u,h1,h2⟩:=Vals.get (i:=i) (x:=x) t (by simpa using e)
  exact ⟨u,by simpa using h1,h2⟩
theorem Vals.append:∀ {xs ys:List V} {us ws:List Value},Vals xs us->Vals ys ws->Vals (xs++ys) (us++ws)
 | _,_,_,_,.nil,s=>s
 | _,_,_,_,.cons r t,s=>.cons r (Vals.append t s)
theorem Vals.take:∀ {xs:List V} {us:List Value} (n:Nat),Vals xs us->Vals (xs.take n) (us.take n)
 | _,_,0,_=>.nil
 | _,_,_+1,.nil=>.nil
 | _,_,n+1,.cons r t=>.cons r (Vals.take n t)
theorem Vals.drop:∀ {xs:List V} {us:List Value} (n:Nat),Vals xs us->Vals (xs.drop n) (us.drop n)
 | _,_,0,r=>r
 | _,_,_+1,.nil=>.nil
 | _,_,n+1,.cons _ t=>Vals.drop n t
noncomputable def Zj0:Option V->Option Value->Prop
 | some v,some u=>RelV v u
 | none,none=>True
 | _,_=>False
noncomputable def KV {κ:Type}:List (κ×V)->List (κ×Value)->Prop:=Paired fun (p:κ×V) (q:κ×Value)=>p.1=q.1/\RelV p.2 q.2
noncomputable def kV:Key->V
 | .inl i=>.int i
 | .inr x=>.str x
inductive HO where
 /-- a list -/
 | lst (xs:List V)
 /-- a tuple (never changes) -/
 | tup (xs:List V)
 /-- a dict whose keys are ints and texts; one whose keys are tuples of ints and texts (the empty one is both) -/
 | dK (kvs:List (Key×V)) | dT (kvs:List (List Key×V))
 /-- a set of ints: its members,its size -/
 | set (S:Int->Bool) (n:Nat)
 /-- an instance of the class at C,its dict at dx,its attributes -/
 | ins (C dx:Addr) (fs:List (Str×V))
 /-- the dict of the instance at x -/
 | own (x:Addr)
 /-- the dict of an exception -/
 | xd (fs:List (Str×V))
 /-- a bound method,f of x -/
 | met (f x:Addr)
 /-- a range object lo,lo+1,.. below hi -/
 | rng (lo hi:Int)
 /-- a thing that is known to the object (the script; a dict while a loop walks it): read,never written while it is so -/
 | frz (o:Obj) (u:HO)
 /-- a code object's table -/
 | tbl (ps:Array Value)
 /-- any other thing,by what is true of its one object (a def of one's own: SetO a S n:=HO.ext fun h=>..) -/
 | ext (φ:Heap->Prop)
noncomputable abbrev Hp:=Addr->Option HO
noncomputable def upd (H:Hp) (a:Addr) (o:HO):Hp:=fun b=>if b=a then some o else H b
theorem ZB {H:Hp} {a:Addr} {o:HO}:upd H a o a=some o:=by unfold upd; rw [if_pos rfl]
theorem Zy {H:Hp} {a b:Addr} {o:HO} (h:b≠a):upd H a o b=H b:=by unfold upd; rw [if_neg h]
theorem Zu {H:Hp} {a b:Addr} {o:HO} (h:H a=some o) (h':H b=none):a≠b:=by
 intro e; subst e; rw [h] at h'; cases h'
noncomputable def TupD (h:Heap) (a:Addr) (items:Array Value):Prop:=∃ o,h.get? a=some o/\o.cls=.type "tuple"/\o.dict=none/\∃ n,o.data=.seq items n
theorem TupD.tup {h:Heap} {a:Addr} {items:Array Value} (x:TupD h a items):IsTup h a items:=let ⟨o,e,c,_,d⟩:=x; ⟨o,e,c,d⟩
theorem TupD.lt {h:Heap} {a:Addr} {items:Array Value} (x:TupD h a items):a < h.objs.size:=let ⟨_,e,_⟩:=x; Heap.lt_size e
theorem TupD.new (h:Heap) (items:Array Value):TupD (h.push { cls:=.type "tuple",data:=.seq items }) h.objs.size items:=⟨_,Heap.get?_push_size _ rfl,rfl,rfl,_,rfl⟩
section
variable (P:Program) (w:World)
noncomputable def ObjOk (H:Hp) (h:Heap) (a:Addr):HO->Prop
 | .lst xs=>xs.length<=sizeLine/\∃ (its:List Value) (n:Nat),Vals xs its/\h.get? a=some { cls:=.type "list",data:=.seq its.toArray n }
 | .tup xs=>xs.length<=sizeLine/\∃ its:List Value,Vals xs its/\TupD h a its.toArray
 | .dK kvs=>kvs.length<=sizeLine/\(a==sysModules)=false/\∃ vs,KV kvs vs/\h.DictOf (Zde P w) a vs
 | .dT kvs=>kvs.length<=sizeLine/\(a==sysModules)=false/\∃ xs:List (List Key×Addr×Value),
   Paired (fun (p:List Key×V) (q:List Key×Addr×Value)=>p.1=q.1/\H q.2.1=some (.tup (p.1.map kV))/\RelV p.2 q.2.2) kvs xs /\
   ∃ o es ep,h.get? a=some o/\o.ExactDict/\o.data=.dict es ep/\es.toList=xs.map (entryOfKey (tupleKind (Zde P w)))/\(xs.map (·.1)).Nodup
 | .set S n=>h.SetOf (intKind P w) a S n
 | .ins C dx fs=>H dx=some (.own a)/\fs.length<=1000/\dx≠a/\h.get? a=some (PySem.W.instObj C dx) /\
   ∃ mA,h.Ns1 dx mA/\(∀ f,Zj0 (fs.lookup f) (mA f))/\PySem.Within mA (fs.map (·.1))
 | .own _=>∃ o,h.get? a=some o
 | .xd fs=>∃ mA,h.Ns1 a mA/\∀ f,Zj0 (fs.lookup f) (mA f)
 | .rng lo hi=>∃ t u v,h.get? a=some { cls:=.type "range",data:=.fields #[.int lo t,.int hi u,.int 1 v] }
 | .frz o u=>h.get? a=some o/\ObjOk H h a u
 | .tbl ps=>h.get? a=some { cls:=.none,data:=.fields ps }
 | .met f x=>h.get? a=some (PySem.W.methodObj (.ref f) (.ref x))
 | .ext φ=>φ h/\(∃ o,h.get? a=some o)/\∀ h1 h2:Heap,φ h1->(∀ o,h1.get? a=some o->h2.get? a=some o)->φ h2
noncomputable def HOk (H:Hp) (h:Heap):Prop:=∀ a o,H a=some o->ObjOk P w H h a o
end
section
variable {P:Program} {w:World} {H H':Hp} {h h':Heap} {a:Addr} {o:HO}
theorem ObjOk.lt (x:ObjOk P w H h a o):a < h.objs.size:=by
 cases o with
 | lst xs=>obtain ⟨_,_,_,_,e⟩:=x; exact Heap.lt_size e
 | tup xs=>obtain ⟨_,_,_,p⟩:=x; exact p.lt
 | dK kvs=>obtain ⟨_,_,_,_,o,_,_,e,_⟩:=x; exact Heap.lt_size e
 | dT kvs=>obtain ⟨_,_,_,_,o,_,_,e,_⟩:=x; exact Heap.lt_size e
 | set S n=>obtain ⟨o,_,_,_,e,_⟩:=x; exact Heap.lt_size e
 | ins C dx fs=>obtain ⟨_,_,_,e,_⟩:=x; exact Heap.lt_size e
 | own y=>obtain ⟨_,e⟩:=x; exact Heap.lt_size e
 | xd fs=>obtain ⟨_,⟨_,_,_,e,_⟩,_⟩:=x; exact Heap.lt_size e
 | rng lo hi=>obtain ⟨_,_,_,e⟩:=x; exact Heap.lt_size e
 | frz ob u=>obtain ⟨e,_⟩:=x; exact Heap.lt_size e
 | tbl ps=>exact Heap.lt_size (show h.get? a=some _ from x)
 | met f y=>exact Heap.lt_size (show h.get? a=some _ from x)
 | ext φ=>obtain ⟨_,⟨_,e⟩,_⟩:=x; exact Heap.lt_size e
theorem Paired.mapP {α β:Type} {F G:α->β->Prop}:∀ {l₁:List α} {l₂:List β},Paired F l₁ l₂->(∀ a b,F a b->G a b)->Paired G l₁ l₂
 | _,_,.nil,_=>.nil
 | _,_,.cons r t,f=>.cons (f _ _ r) (Paired.mapP t f)
theorem ObjOk.stay (x:ObjOk P w H h a o) (k:∀ b u,(b=a\/H b=some (.own a))->h.get? b=some u->h'.get? b=some u)
  (ho:∀ b,H b=some (.own a)->H' b=some (.own a)) (ht:∀ b xs,H b=some (.tup xs)->H' b=some (.tup xs)):ObjOk P w H' h' a o:=by
 induction o with
 | lst xs=>obtain ⟨z,its,n,r,e⟩:=x; exact ⟨z,its,n,r,k _ _ (.inl rfl) e⟩
 | tup xs=>obtain ⟨z,its,r,ob,e,c⟩:=x; exact ⟨z,its,r,ob,k _ _ (.inl rfl) e,c⟩
 | dK kvs=>obtain ⟨z,y,vs,r,ob,es,ep,e,c⟩:=x; exact ⟨z,y,vs,r,ob,es,ep,k _ _ (.inl rfl) e,c⟩
 | dT kvs=>
  obtain ⟨z,y,xs,r,ob,es,ep,e,c⟩:=x
  exact ⟨z,y,xs,Paired.mapP r fun p q z=>⟨z.1,ht _ _ z.2.1,z.2.2⟩,ob,es,ep,k _ _ (.inl rfl) e,c⟩
 | set S n=>obtain ⟨ob,es,ep,t,e,c⟩:=x; exact ⟨ob,es,ep,t,k _ _ (.inl rfl) e,c⟩
 | ins C dx fs=>
  obtain ⟨d,z,ne,e,mA,⟨od,es,ep,e2,c⟩,r⟩:=x
  exact ⟨ho _ d,z,ne,k _ _ (.inl rfl) e,mA,⟨od,es,ep,k _ _ (.inr d) e2,c⟩,r⟩
 | own y=>obtain ⟨ob,e⟩:=x; exact ⟨ob,k _ _ (.inl rfl) e⟩
 | xd fs=>obtain ⟨mA,⟨od,es,ep,e,c⟩,r⟩:=x; exact ⟨mA,⟨od,es,ep,k _ _ (.inl rfl) e,c⟩,r⟩
 | rng lo hi=>obtain ⟨t,u,v,e⟩:=x; exact ⟨t,u,v,k _ _ (.inl rfl) e⟩
 | frz ob u ih=>obtain ⟨e,q⟩:=x; exact ⟨k _ _ (.inl rfl) e,ih q⟩
 | tbl ps=>
  have e:h.get? a=some { cls:=.none,data:=.fields ps }:=x
  show h'.get? a=some { cls:=.none,data:=.fields ps }
  exact k a _ (.inl rfl) e
 | met f y=>
  have e:h.get? a=some (PySem.W.methodObj (.ref f) (.ref y)):=x
  show h'.get? a=some (PySem.W.methodObj (.ref f) (.ref y))
  exact k a _ (.inl rfl) e
 | ext φ=>obtain ⟨p,⟨o,e⟩,st⟩:=x; exact ⟨st _ _ p fun o q=>k _ _ (.inl rfl) q,⟨o,k _ _ (.inl rfl) e⟩,st⟩
theorem HOk.lt (x:HOk P w H h) (e:H a=some o):a < h.objs.size:=(x a o e).lt
theorem HOk.fresh (x:HOk P w H h) (e:h.objs.size<=a):H a=none:=by
 cases q:H a with
 | none=>rfl
 | some u=>exact absurd (Nat.lt_of_lt_of_le (x.lt q) e) (Nat.lt_irrefl _)
theorem HOk.kept (x:HOk P w H h) (k:∀ b u,h.get? b=some u->h'.get? b=some u):HOk P w H h':=fun a o e=>
 (x a o e).stay (fun b u _ q=>k b u q) (fun _ q=>q) fun _ _ q=>q
theorem HOk.laid (x:HOk P w H h) (k:∀ b u,h.get? b=some u->h'.get? b=some u) (hp:h.objs.size<=a) (new:ObjOk P w (upd H a o) h' a o):HOk P w (upd H a o) h':=fun b u e=>by
 have hn:=x.fresh hp
 by_cases hb:b=a
 ·subst hb; rw [ZB] at e; cases e; exact new
 ·rw [Zy hb] at e
  exact (x b u e).stay (fun c v _ q=>k c v q) (fun c q=>by rw [Zy (Zu q hn)]; exact q) fun c xs q=>by rw [Zy (Zu q hn)]; exact q
end
noncomputable def Rd (H:Hp) (a:Addr) (u:HO):Prop:=H a=some u\/∃ o,H a=some (.frz o u)
theorem Rd.ok {P:Program} {w:World} {H:Hp} {h:Heap} {a:Addr} {u:HO} (r:Rd H a u) (x:HOk P w H h):ObjOk P w H h a u:=by
 rcases r with r | ⟨o,r⟩
 ·exact x a u r
 ·obtain ⟨_,q⟩:=x a _ r
  exact q
noncomputable def Mut:Option HO->Prop
 | some (.lst _)=>True
 | some (.dK _)=>True
 | some (.dT _)=>True
 | some (.set _ _)=>True
 | some (.ins _ _ _)=>True
 | some (.ext _)=>True
 | _=>False
section
variable {P:Program} {w:World} {H:Hp} {h h':Heap} {x e:Addr} {o':HO}
theorem HOk.write (ok:HOk P w H h) (mu:Mut (H x)) (he:e=x\/H e=some (.own x)) (k:∀ b u,b≠e->h.get? b=some u->h'.get? b=some u) (heo:∃ u,h'.get? e=some u)
  (new:ObjOk P w (upd H x o') h' x o'):HOk P w (upd H x o') h':=fun b u q=>by
 have nown:∀ c y,H c=some (.own y)->c≠x:=fun c y r z=>by subst z; rw [r] at mu; exact mu
 have ntup:∀ c xs,H c=some (.tup xs)->c≠x:=fun c xs r z=>by subst z; rw [r] at mu; exact mu
 by_cases hb:b=x
 ·subst hb; rw [ZB] at q; cases q; exact new
 ·rw [Zy hb] at q
  by_cases hbe:b=e
  ·have q':H b=some (.own x):=by
    rcases he with z | z
    ·exact absurd (hbe.trans z) hb
    ·rw [hbe]; exact z
   rw [q] at q'; cases q'
   obtain ⟨v,hv⟩:=heo
   exact ⟨v,by rw [hbe]; exact hv⟩
  ·refine (ok b u q).stay (fun c v hc r=>k c v ?_ r) (fun c r=>by rw [Zy (nown c b r)]; exact r) fun c xs r=>by rw [Zy (ntup c xs r)]; exact r
   rcases hc with rfl | hc
   ·exact hbe
   ·rintro rfl
    rcases he with z | z
    ·exact nown c b hc z
    ·rw [hc] at z; cases z; exact hb rfl
end
structure Un (fs ex:List Addr) (H H':Hp) (h h':Heap):Prop where
 keep:∀ b o,h.get? b=some o->H b=none->b ∉ fs->b ∉ ex->h'.get? b=some o
 slot:∀ b o,h.get? b=some o->H b=none->b∈fs->b ∉ ex->∃ sl,h'.get? b=some { o with slots:=sl }
 free:∀ b o,h.get? b=some o->H b=none->b ∉ ex->H' b=none
 there:∀ b o,h.get? b=some o->b ∉ ex->∃ o',h'.get? b=some o'
 tups:∀ b xs,H b=some (.tup xs)->H' b=some (.tup xs)
 frzs:∀ b o u,H b=some (.frz o u)->H' b=some (.frz o u)
 tbls:∀ b ps,H b=some (.tbl ps)->∃ more,H' b=some (.tbl (ps++more))
section
variable {fs fs' ex ex':List Addr} {H H1 H2:Hp} {h h1 h2 h':Heap} {a x e:Addr} {o:HO}
theorem Un.any (u:Un fs ex H H1 h h1) {b:Addr} {ob:Obj} (q:h.get? b=some ob) (n:H b=none) (hx:b ∉ ex):∃ sl,h1.get? b=some { ob with slots:=sl }:=by
 by_cases hb:b∈fs
 ·exact u.slot b ob q n hb hx
 ·exact ⟨ob.slots,u.keep b ob q n hb hx⟩
theorem Un.kept (k:∀ b u,h.get? b=some u->h'.get? b=some u):Un fs ex H H h h':=
 ⟨fun b ob q _ _ _=>k b ob q,fun b ob q _ _ _=>⟨ob.slots,k b ob q⟩,fun _ _ _ n _=>n,fun b ob q _=>⟨ob,k b ob q⟩,fun _ _ q=>q,fun _ _ _ q=>q,fun _ ps q=>⟨#[],by rw [q]; simp⟩⟩
theorem Un.refl:Un fs ex H H h h:=Un.kept fun _ _ q=>q
theorem Un.laid (k:∀ b u,h.get? b=some u->h'.get? b=some u) (hp:h.objs.size<=a) (hn:H a=none):Un fs ex H (upd H a o) h h' where
 keep:=fun b u q _ _ _=>k b u q
 slot:=fun b u q _ _ _=>⟨u.slots,k b u q⟩
 free:=fun b u q n _=>by rw [Zy (Nat.ne_of_lt (Nat.lt_of_lt_of_le (Heap.lt_size q) hp))]; exact n
 there:=fun b u q _=>⟨u,k b u q⟩
 tups:=fun b xs q=>by rw [Zy (Zu q hn)]; exact q
 frzs:=fun b u xs q=>by rw [Zy (Zu q hn)]; exact q
 tbls:=fun b ps q=>⟨#[],by rw [Zy (Zu q hn),q]; simp⟩
theorem Un.write (mu:Mut (H x)) (he:e=x\/H e=some (.own x)) (k:∀ b u,b≠e->h.get? b=some u->h'.get? b=some u) (heo:∃ u,h'.get? e=some u):Un fs ex H (upd H x o) h h':=by
 have hx:∀ b,H b=none->b≠x:=fun b n z=>by subst z; rw [n] at mu; exact mu
 have hb:∀ b,H b=none->b≠e:=fun b n z=>by
  subst z
  rcases he with r | r
  ·exact hx b n r
  ·rw [n] at r; cases r
 have hm:∀ b u,H b=some u->¬ Mut (some u)->b≠x:=fun b u q nm z=>by subst z; rw [q] at mu; exact nm mu
 refine ⟨fun b u q n _ _=>k b u (hb b n) q,fun b u q n _ _=>⟨u.slots,k b u (hb b n) q⟩,fun b u q n _=>by rw [Zy (hx b n)]; exact n,fun b u q _=>?_,
  fun b xs q=>by rw [Zy (hm b _ q fun z=>z)]; exact q,fun b u xs q=>by rw [Zy (hm b _ q fun z=>z)]; exact q,fun b ps q=>⟨#[],by rw [Zy (hm b _ q fun z=>z),q]; simp⟩⟩
 by_cases hbe:b=e
 ·subst hbe; exact heo
 ·exact ⟨u,k b u hbe q⟩
end
noncomputable def trk (h:Heap) (H:Hp):List Addr:=(List.range h.objs.size).filter fun a=>(H a).isSome
noncomputable def ZeZ (h:Heap) (H:Hp):Heap:=PySem.W.hideAll h (trk h H)
theorem Zdt (h:Heap) (H:Hp):(ZeZ h H).objs.size=h.objs.size:=PySem.W.hideAll_size _ _
theorem ZeY {h:Heap} {H:Hp} {b:Addr} {o:Obj} (e:h.get? b=some o) (n:H b=none):(ZeZ h H).get? b=some o:=
 PySem.W.hideAll_get _ e fun hm=>by
  have q:(H b).isSome=true:=(List.mem_filter.mp hm).2
  rw [n] at q; simp at q
theorem ZgF {h:Heap} {H:Hp} {b:Addr} {o:Obj} (e:(ZeZ h H).get? b=some o):h.get? b=some o/\H b=none:=by
 have e':h.get? b=some o:=PySem.W.of_hideAll (trk h H) e
 refine ⟨e',?_⟩
 cases q:H b with
 | none=>rfl
 | some x=>
  have hm:b∈trk h H:=List.mem_filter.mpr ⟨List.mem_range.mpr (Heap.lt_size e'),by simp [q]⟩
  have z:(ZeZ h H).get? b=none:=PySem.W.hideAll_none (trk h H) hm
  rw [z] at e; cases e
noncomputable def Zg8 (g h:Heap) (L:Addr):List (Addr×Obj):=(List.range h.objs.size).filterMap fun a=>if a=L\/(g.get? a).isSome=true then none else (h.get? a).map fun o=>(a,o)
noncomputable def rest (g h:Heap) (L d:Addr):List (Addr×Obj):=(Zg8 g h L).filter fun p=>decide (p.1≠d)
structure Mod (K:PySem.W.Frag) (mg:Str->Option Value) (base:Heap):Prop where
 kin:K.In base
 glob:base.Ns mainGlobals mg
 blt:∃ mb,base.Ns builtinsNs mb/\∀ x:Str,x≠"__name__"->mb x=bootBuiltins x
 nolimit:base.NoLimit
structure Cx where
 prog:Program
 w:World
 K:PySem.W.Frag
 mg:Str->Option Value
 base:Heap
 A:Around
 N:List Str
 s₀:Shared
 H₀:Hp
 env:Env
 outer:List Env
 stack:List Env
 ex:List Addr
 fn:Str->Bool
 calm:Bool
 pn:List (Addr×Obj)
 xe:Value->Shared->Prop
noncomputable def frs (l:List Env):List Addr:=l.filterMap (·.frame)
noncomputable abbrev Cx.fs (X:Cx):List Addr:=frs X.outer
noncomputable def Vis (sc:Scope) (x:Str):Prop:=sc.names.lookup x=some .local\/sc.names.lookup x=some .cell\/sc.names.lookup x=some .free
noncomputable def Loc (sc:Scope) (x:Str):Prop:=sc.names.lookup x=some .local\/sc.names.lookup x=some .cell
noncomputable def ZkK (env:Env) (h:Heap) (m:Str->Option Value) (x:Str) (u:Value):Prop:=
 (env.kindOf x=some .local/\m x=some u)\/((env.kindOf x=some .cell\/env.kindOf x=some .free)/\∃ c,env.cells.lookup x=some c/\h.IsCell c (some u))
structure Cx.Ok (X:Cx):Prop where
 mod:Mod X.K X.mg X.base
 kind:X.env.scope.kind=.function
 glob:X.env.globals=mainGlobals
 blt:X.env.builtins=builtinsNs
 above:X.s₀.heap.objs.size<=X.env.locals
 inj:∀ x y c,X.env.cells.lookup x=some c->X.env.cells.lookup y=some c->x=y
 has:∀ x,(X.env.kindOf x=some .cell\/X.env.kindOf x=some .free)->∃ c,X.env.cells.lookup x=some c
 cab:∀ x c,X.fn x=true->X.env.cells.lookup x=some c->X.s₀.heap.objs.size<=c
 hd:X.calm=true->X.A.handled=none
 frames:X.A.frames=some X.stack
 stk:X.stack=X.outer\/(X.stack=X.env::X.outer/\X.env.frame=some X.env.locals)
 exf:∀ b∈X.ex,b≠X.env.locals/\∀ x c,X.env.cells.lookup x=some c->c≠b
 bs:∀ b o,X.base.get? b=some o->X.s₀.heap.get? b=some o/\X.H₀ b=none
 bsz:X.base.objs.size<=X.s₀.heap.objs.size
 noex:∀ b o,X.base.get? b=some o->b ∉ X.ex
 exfs:∀ b∈X.ex,b ∉ X.fs
 funs:X.s₀.heap.FunFrames X.base X.outer
 frf:∀ b∈X.fs,X.H₀ b=none
structure Inv (X:Cx) (pins:List (Addr×Obj)) (σ:List (Option V)) (H:Hp) (s:Shared):Prop where
 ok:X.Ok
 os:s.os=X.s₀.os
 bare:AllBare s.gens
 base:Un X.fs X.ex X.H₀ H X.s₀.heap s.heap
 loc:∃ m,s.heap.Ns X.env.locals m/\∀ (i:Nat) (x:Str) (v:V),X.N[i]?=some x->σ[i]?=some (some v)->Vis X.env.scope x->∃ u,RelV v u/\ZkK X.env s.heap m x u
 cell:∀ x c,X.env.cells.lookup x=some c->∃ v,s.heap.IsCell c v
 free:H X.env.locals=none
 freeC:∀ x c,X.env.cells.lookup x=some c->H c=none
 pin:∀ p∈X.pn++pins,s.heap.get? p.1=some p.2/\H p.1=none/\p.1≠X.env.locals/\p.1 ∉ X.fs/\∀ v,p.2.data≠.cell v
 hok:HOk X.prog X.w H s.heap
 len:σ.length=X.N.length
section
variable {X:Cx} {pins:List (Addr×Obj)} {σ:List (Option V)} {H H':Hp} {s:Shared} {h':Heap}
theorem Cx.Ok.nofr (ok:X.Ok) {b:Addr} {o:Obj} (e:X.base.get? b=some o):b ∉ X.fs:=fun hb=>by
 have:=(ok.funs.mem hb).1
 rw [e] at this; cases this
theorem Inv.bs (I:Inv X pins σ H s):∀ b o,X.base.get? b=some o->s.heap.get? b=some o/\H b=none:=fun b o e=>
 ⟨I.base.keep b o (I.ok.bs b o e).1 (I.ok.bs b o e).2 (I.ok.nofr e) (I.ok.noex b o e),I.base.free b o (I.ok.bs b o e).1 (I.ok.bs b o e).2 (I.ok.noex b o e)⟩
theorem Inv.bk (I:Inv X pins σ H s):∀ b o,X.base.get? b=some o->s.heap.get? b=some o:=fun b o e=>(I.bs b o e).1
theorem Inv.mod (I:Inv X pins σ H s):Mod X.K X.mg X.base:=I.ok.mod
theorem Inv.kIn (I:Inv X pins σ H s):X.K.In s.heap:=I.ok.mod.kin.keeps I.bk
theorem Inv.lt (I:Inv X pins σ H s):X.env.locals < s.heap.objs.size:=let ⟨_,hn,_⟩:=I.loc; hn.lt
theorem Inv.sz (I:Inv X pins σ H s):X.s₀.heap.objs.size<=s.heap.objs.size:=Nat.le_trans I.ok.above (Nat.le_of_lt I.lt)
theorem Inv.nofs (I:Inv X pins σ H s) {a:Addr} (h:s.heap.objs.size<=a):a ∉ X.fs:=fun hb=>by
 obtain ⟨_,o,ho,_⟩:=I.ok.funs.mem hb
 exact absurd (Nat.lt_of_lt_of_le (Heap.lt_size ho) (Nat.le_trans I.sz h)) (Nat.lt_irrefl _)
theorem Inv.cne (I:Inv X pins σ H s):∀ x c,X.env.cells.lookup x=some c->c≠X.env.locals:=fun x c e z=>by
 obtain ⟨v,o,ho,hd⟩:=I.cell x c e
 obtain ⟨m,⟨o',es,ep,ho',hd',_⟩,_⟩:=I.loc
 rw [z,ho'] at ho; cases ho; rw [hd'] at hd; cases hd
theorem Inv.funs (I:Inv X pins σ H s):s.heap.FunFrames X.base X.outer:=by
 have all:∀ (l:List Env),(∀ b∈frs l,b∈X.fs)->X.s₀.heap.FunFrames X.base l->s.heap.FunFrames X.base l:=by
  intro l
  induction l with
  | nil=>intro _ _; trivial
  | cons env r ih=>
   intro hs hl
   obtain ⟨hk,⟨L,o,hf,hn,ho,hd⟩,hr⟩:=hl
   have hL:L∈X.fs:=hs L (by unfold frs; rw [List.filterMap_cons,hf]; exact List.mem_cons_self)
   obtain ⟨sl,e⟩:=I.base.slot L o ho (I.ok.frf L hL) hL fun z=>I.ok.exfs L z hL
   exact ⟨hk,⟨L,_,hf,hn,e,hd⟩,ih (fun b hb=>hs b (by unfold frs; rw [List.filterMap_cons,hf]; exact List.mem_cons_of_mem _ hb)) hr⟩
 exact all X.outer (fun _ hb=>hb) I.ok.funs
theorem Inv.stack (I:Inv X pins σ H s):s.heap.FunFrames X.base X.stack:=by
 rcases I.ok.stk with e | ⟨e,hf⟩
 ·rw [e]; exact I.funs
 ·rw [e]
  obtain ⟨m,hn,_⟩:=I.loc
  refine .cons (by rw [I.ok.kind]; decide) hf hn ?_ I.funs
  exact Heap.get?_none_of_le (Nat.le_trans I.ok.bsz I.ok.above)
theorem Inv.stkSub (I:Inv X pins σ H s):∀ b∈frs X.stack,b∈X.env.locals::X.fs:=fun b hb=>by
 rcases I.ok.stk with e | ⟨e,hf⟩
 ·rw [e] at hb; exact List.mem_cons_of_mem _ hb
 ·rw [e] at hb
  unfold frs at hb
  rw [List.filterMap_cons,hf] at hb
  exact hb
theorem Inv.stkFree (I:Inv X pins σ H s):∀ b∈frs X.stack,H b=none:=fun b hb=>by
 rcases List.mem_cons.mp (I.stkSub b hb) with e | hb
 ·rw [e]; exact I.free
 ·obtain ⟨_,o,ho,_⟩:=I.ok.funs.mem hb
  exact I.base.free b o ho (I.ok.frf b hb) fun z=>I.ok.exfs b z hb
theorem Inv.step {g':Array GenState} {t':Nat} {d':Drawn} {ch:List Addr} (I:Inv X pins σ H s)
  (hch:∀ b∈ch,(b∈X.ex\/X.s₀.heap.objs.size<=b)/\b≠X.env.locals/\(∀ x c,X.env.cells.lookup x=some c->c≠b)/\∀ p∈X.pn++pins,p.1≠b)
  (keep:∀ b o,b≠X.env.locals->b ∉ X.fs->b ∉ ch->s.heap.get? b=some o->H b=none->h'.get? b=some o)
  (slot:∀ b o,b≠X.env.locals->b∈X.fs->b ∉ ch->s.heap.get? b=some o->H b=none->∃ sl,h'.get? b=some { o with slots:=sl }) (free:∀ b o,b ∉ ch->s.heap.get? b=some o->H b=none->H' b=none)
  (there:∀ b o,b ∉ ch->s.heap.get? b=some o->∃ o',h'.get? b=some o')
  (tups:∀ b xs,H b=some (.tup xs)->H' b=some (.tup xs)) (frzs:∀ b o u,H b=some (.frz o u)->H' b=some (.frz o u)) (tbls:∀ b ps,H b=some (.tbl ps)->∃ more,H' b=some (.tbl (ps++more)))
  (ns:∀ m,s.heap.Ns X.env.locals m->h'.Ns X.env.locals m) (hok:HOk X.prog X.w H' h') (hg:AllBare g') :
  Inv X pins σ H' { s with heap:=h',gens:=g',drawn:=d',toks:=t' }:=by
 have neL:∀ b o,X.s₀.heap.get? b=some o->b≠X.env.locals:=fun b o e=>Nat.ne_of_lt (Nat.lt_of_lt_of_le (Heap.lt_size e) I.ok.above)
 have neC:∀ b o,X.s₀.heap.get? b=some o->b ∉ X.ex->b ∉ ch:=fun b o e hx hb=>by
  rcases (hch b hb).1 with z | z
  ·exact hx z
  ·exact absurd (Nat.lt_of_lt_of_le (Heap.lt_size e) z) (Nat.lt_irrefl _)
 have cellK:∀ x c,X.env.cells.lookup x=some c->∀ v,s.heap.IsCell c v->h'.IsCell c v:=fun x c e v zq=>by
  obtain ⟨o,ho,hd⟩:=zq
  have nch:c ∉ ch:=fun z=>(hch c z).2.2.1 x c e rfl
  by_cases hc:c∈X.fs
  ·obtain ⟨sl,q⟩:=slot c o (I.cne x c e) hc nch ho (I.freeC x c e)
   exact ⟨_,q,hd⟩
  ·exact ⟨o,keep c o (I.cne x c e) hc nch ho (I.freeC x c e),hd⟩
 refine ⟨I.ok,I.os,hg,⟨fun b o e n hb hx=>?_,fun b o e n hb hx=>?_,fun b o e n hx=>?_,fun b o e hx=>?_,fun b xs e=>tups b xs (I.base.tups b xs e),fun b o xs e=>frzs b o xs (I.base.frzs b o xs e),fun b ps e=>?_⟩,?_,fun x c e=>?_,?_,fun x c e=>?_,fun p hp=>?_,hok,I.len⟩
 ·exact keep b o (neL b o e) hb (neC b o e hx) (I.base.keep b o e n hb hx) (I.base.free b o e n hx)
 ·obtain ⟨sl,e1⟩:=I.base.slot b o e n hb hx
  obtain ⟨sl',e2⟩:=slot b _ (neL b o e) hb (neC b o e hx) e1 (I.base.free b o e n hx)
  exact ⟨sl',e2⟩
 ·obtain ⟨o',e1⟩:=I.base.there b o e hx
  exact free b o' (neC b o e hx) e1 (I.base.free b o e n hx)
 ·obtain ⟨o',e1⟩:=I.base.there b o e hx
  exact there b o' (neC b o e hx) e1
 ·obtain ⟨m1,e1⟩:=I.base.tbls b ps e
  obtain ⟨m2,e2⟩:=tbls b _ e1
  exact ⟨m1++m2,by rw [e2,Array.append_assoc]⟩
 ·obtain ⟨m,hn,hl⟩:=I.loc
  refine ⟨m,ns m hn,fun i x v e1 e2 e3=>?_⟩
  obtain ⟨u,r,l⟩:=hl i x v e1 e2 e3
  refine ⟨u,r,?_⟩
  rcases l with l | ⟨k,c,e,z⟩
  ·exact .inl l
  ·exact .inr ⟨k,c,e,cellK x c e _ z⟩
 ·obtain ⟨v,z⟩:=I.cell x c e
  exact ⟨v,cellK x c e v z⟩
 ·obtain ⟨m,⟨o,_,_,ho,_⟩,_⟩:=I.loc
  exact free _ o (fun z=>(hch _ z).2.1 rfl) ho I.free
 ·obtain ⟨v,o,ho,hd⟩:=I.cell x c e
  exact free c o (fun z=>(hch c z).2.2.1 x c e rfl) ho (I.freeC x c e)
 ·obtain ⟨e,n,ne,nf,d⟩:=I.pin p hp
  have nch:p.1 ∉ ch:=fun z=>(hch p.1 z).2.2.2 p hp rfl
  exact ⟨keep p.1 p.2 ne nf nch e n,free p.1 p.2 nch e n,ne,nf,d⟩
theorem Inv.un {t':Nat} (I:Inv X pins σ H s) (u:Un X.fs [] H H' s.heap h') (hok:HOk X.prog X.w H' h'):Inv X pins σ H' { s with heap:=h',toks:=t' }:=by
 obtain ⟨m,⟨o,es,ep,ho,r⟩,_⟩:=id I.loc
 obtain ⟨sl,hL⟩:=u.any ho I.free (by simp)
 exact I.step (g':=s.gens) (d':=s.drawn) (ch:=[]) (fun _ z=>nomatch z) (fun b o _ hb _ e n=>u.keep b o e n hb (by simp)) (fun b o _ hb _ e n=>u.slot b o e n hb (by simp)) (fun b o _ e n=>u.free b o e n (by simp)) (fun b o _ e=>u.there b o e (by simp)) u.tups u.frzs u.tbls (fun m' hm=>by
  obtain ⟨o',es',ep',ho',r'⟩:=hm
  rw [ho] at ho'; cases ho'
  exact ⟨_,es',ep',hL,r'⟩) hok I.bare
theorem Inv.call {g':Array GenState} {t':Nat} {d':Drawn} {ch:List Addr} (I:Inv X pins σ H s) (u:Un (frs X.stack) ch H H' s.heap h') (hok:HOk X.prog X.w H' h') (hg:AllBare g')
  (hch:∀ b∈ch,(b∈X.ex\/X.s₀.heap.objs.size<=b)/\b≠X.env.locals/\(∀ x c,X.env.cells.lookup x=some c->c≠b)/\∀ p∈X.pn++pins,p.1≠b) :
  Inv X pins σ H' { s with heap:=h',gens:=g',drawn:=d',toks:=t' }:=by
 obtain ⟨m,⟨o,es,ep,ho,r⟩,_⟩:=id I.loc
 obtain ⟨sl,hL⟩:=u.any ho I.free fun z=>(hch _ z).2.1 rfl
 exact I.step (ch:=ch) hch (fun b o hL hb hc e n=>u.keep b o e n (fun z=>(List.mem_cons.mp (I.stkSub b z)).elim hL hb) hc) (fun b o _ _ hc e n=>u.any e n hc) (fun b o hc e n=>u.free b o e n hc) (fun b o hc e=>u.there b o e hc) u.tups u.frzs u.tbls (fun m' hm=>by
  obtain ⟨o',es',ep',ho',r'⟩:=hm
  rw [ho] at ho'; cases ho'
  exact ⟨_,es',ep',hL,r'⟩) hok hg
theorem Inv.turned {t':Nat} {it:Addr} (I:Inv X pins σ H s) (k:∀ b o,b≠it->s.heap.get? b=some o->h'.get? b=some o) (hn:H it=none) (hL:it≠X.env.locals)
  (h1:it∈X.ex\/X.s₀.heap.objs.size<=it) (h2:∀ x c,X.env.cells.lookup x=some c->c≠it) (h3:∀ p∈X.pn++pins,p.1≠it):Inv X pins σ H { s with heap:=h',toks:=t' }:=by
 have nit:∀ b u,H b=some u->b≠it:=fun b u e z=>by rw [z,hn] at e; cases e
 refine I.step (g':=s.gens) (d':=s.drawn) (ch:=[it]) (fun b hb=>?_) (fun b o _ _ hc e _=>k b o (fun z=>hc (by simp [z])) e) (fun b o _ _ hc e _=>⟨o.slots,k b o (fun z=>hc (by simp [z])) e⟩) (fun _ _ _ _ n=>n)
  (fun b o hc e=>⟨o,k b o (fun z=>hc (by simp [z])) e⟩) (fun _ _ e=>e) (fun _ _ _ e=>e) (fun b ps e=>⟨#[],by rw [e]; simp⟩) (fun m hm=>?_) (fun b u e=>?_) I.bare
 ·have e:b=it:=by simpa using hb
  subst e
  exact ⟨h1,hL,h2,h3⟩
 ·obtain ⟨o,es,ep,ho,r⟩:=hm
  exact ⟨o,es,ep,k _ o (Ne.symm hL) ho,r⟩
 ·refine (I.hok b u e).stay (fun c v hc q=>k c v ?_ q) (fun _ q=>q) fun _ _ q=>q
  rcases hc with z | z
  ·rw [z]; exact nit b u e
  ·exact nit c _ z
theorem Inv.tok (I:Inv X pins σ H s) (t:Nat):Inv X pins σ H { s with toks:=t }:=I.un (h':=s.heap) (t':=t) Un.refl I.hok
theorem Inv.kept {t':Nat} (I:Inv X pins σ H s) (k:∀ b u,s.heap.get? b=some u->h'.get? b=some u):Inv X pins σ H { s with heap:=h',toks:=t' }:=I.un (Un.kept k) (I.hok.kept k)
theorem Inv.laid {a:Addr} {o:HO} {t':Nat} (I:Inv X pins σ H s) (k:∀ b u,s.heap.get? b=some u->h'.get? b=some u) (hp:s.heap.objs.size<=a) (new:ObjOk X.prog X.w (upd H a o) h' a o) :
  Inv X pins σ (upd H a o) { s with heap:=h',toks:=t' }:=I.un (Un.laid k hp (I.hok.fresh hp)) (I.hok.laid k hp new)
theorem Inv.write {x e:Addr} {o:HO} {t':Nat} (I:Inv X pins σ H s) (mu:Mut (H x)) (he:e=x\/H e=some (.own x)) (k:∀ b u,b≠e->s.heap.get? b=some u->h'.get? b=some u) (heo:∃ u,h'.get? e=some u)
  (new:ObjOk X.prog X.w (upd H x o) h' x o):Inv X pins σ (upd H x o) { s with heap:=h',toks:=t' }:=I.un (Un.write mu he k heo) (I.hok.write mu he k heo new)
theorem Inv.pins_of {pins':List (Addr×Obj)} (I:Inv X pins σ H s) (h:∀ p∈pins',s.heap.get? p.1=some p.2/\H p.1=none/\p.1≠X.env.locals/\p.1 ∉ X.fs/\∀ v,p.2.data≠.cell v):Inv X pins' σ H s:=
 ⟨I.ok,I.os,I.bare,I.base,I.loc,I.cell,I.free,I.freeC,fun p hp=>(List.mem_append.mp hp).elim (fun z=>I.pin p (List.mem_append_left _ z)) (h p),I.hok,I.len⟩
theorem Zbn {N:List Str} (hN:N.Nodup) {i j:Nat} {x:Str} (a:N[i]?=some x) (b:N[j]?=some x):i=j:=by
 obtain ⟨h1,e1⟩:=List.getElem?_eq_some_iff.mp a
 obtain ⟨h2,e2⟩:=List.getElem?_eq_some_iff.mp b
 exact (List.getElem_inj hN).mp (e1.trans e2.symm)
theorem ZcB {M:Model} {A:Around} {E:Value->Shared->Prop} {i:Nat} {x:Str} {v:V} {u:Value} {Q:Unit->Shared->Prop} (I:Inv X pins σ H s) (hN:X.N.Nodup) (hi:X.N[i]?=some x) (hx:Loc X.env.scope x) (r:RelV v u)
  (h:∀ s',Inv X pins (σ.set i (some v)) H s'->(∃ a,Heap.SameBut a s.heap s'.heap/\(a=X.env.locals\/X.env.cells.lookup x=some a))->Q () s') (hf:X.fn x=true\/X.env.scope.names.lookup x=some .local:=by first | exact .inl rfl | exact .inr rfl | assumption):wpAny M A (storeName X.env x u) Q E s:=by
 obtain ⟨m,hn,hl⟩:=id I.loc
 have hcls:(X.env.scope.kind==.class||(X.env.scope.kind==.module&&X.env.locals != X.env.globals))=false:=by rw [I.ok.kind]; rfl
 have hiσ:i < σ.length:=by rw [I.len]; exact (List.getElem?_eq_some_iff.mp hi).1
 have cne:=I.cne
 have tracked:∀ {a:Addr} {h':Heap},(∃ o,s.heap.get? a=some o/\H a=none)->Heap.SameBut a s.heap h'->HOk X.prog X.w H h':=fun {a h'} ha hs b ob e=>by
  obtain ⟨_,_,hfree⟩:=ha
  refine (I.hok b ob e).stay (fun c w' hc q=>(hs.2 c ?_).trans q) (fun _ q=>q) fun _ _ q=>q
  rintro rfl
  rcases hc with rfl | hc
  ·rw [hfree] at e; cases e
  ·rw [hfree] at hc; cases hc
 rcases hx with hk | hk
 ·refine wpAny_storeName_local hk hn (fun h' hn' hs=>?_) hcls
  obtain ⟨oL,_,_,hoL,_⟩:=id hn
  refine h _ ⟨I.ok,I.os,I.bare,⟨fun b o e n hb hx=>?_,fun b o e n hb hx=>?_,I.base.free,fun b o e hx=>?_,I.base.tups,I.base.frzs,I.base.tbls⟩,⟨_,hn',fun j y v' e1 e2 e3=>?_⟩,fun y c e=>?_,I.free,I.freeC,fun p hp=>?_,tracked ⟨oL,hoL,I.free⟩ hs,by simpa using I.len⟩ ⟨_,hs,.inl rfl⟩
  ·exact (hs.2 b (Nat.ne_of_lt (Nat.lt_of_lt_of_le (Heap.lt_size e) I.ok.above))).trans (I.base.keep b o e n hb hx)
  ·obtain ⟨sl,e1⟩:=I.base.slot b o e n hb hx
   exact ⟨sl,(hs.2 b (Nat.ne_of_lt (Nat.lt_of_lt_of_le (Heap.lt_size e) I.ok.above))).trans e1⟩
  ·obtain ⟨o',e1⟩:=I.base.there b o e hx
   exact ⟨o',(hs.2 b (Nat.ne_of_lt (Nat.lt_of_lt_of_le (Heap.lt_size e) I.ok.above))).trans e1⟩
  ·by_cases hj:j=i
   ·subst hj
    rw [hi] at e1; cases e1
    rw [List.getElem?_set_self hiσ] at e2
    cases e2
    exact ⟨u,r,.inl ⟨hk,by simp⟩⟩
   ·rw [List.getElem?_set_ne (Ne.symm hj)] at e2
    obtain ⟨u',r',q⟩:=hl j y v' e1 e2 e3
    refine ⟨u',r',?_⟩
    rcases q with ⟨k,e⟩ | ⟨k,c,e,z⟩
    ·refine .inl ⟨k,?_⟩
     have:y≠x:=fun e=>hj (Zbn hN e1 (e ▸ hi))
     simp [this,e]
    ·exact .inr ⟨k,c,e,z.sameBut hs (cne y c e)⟩
  ·obtain ⟨w',z⟩:=I.cell y c e
   exact ⟨w',z.sameBut hs (cne y c e)⟩
  ·obtain ⟨e,n,ne,nf,d⟩:=I.pin p hp
   exact ⟨(hs.2 p.1 ne).trans e,n,ne,nf,d⟩
 ·have hfn:X.fn x=true:=by
   rcases hf with z | z
   ·exact z
   ·rw [z] at hk; cases hk
  obtain ⟨c,hc⟩:=I.ok.has x (.inl hk)
  obtain ⟨w',z⟩:=I.cell x c hc
  refine wpAny_storeName_cell I.ok.kind hk hc z (fun h' hc' hs=>?_)
  obtain ⟨oc,hoc,hocd⟩:=id z
  refine h { s with heap:=h' } ⟨I.ok,I.os,I.bare,⟨fun b o e n hb hx=>?_,fun b o e n hb hx=>?_,I.base.free,fun b o e hx=>?_,I.base.tups,I.base.frzs,I.base.tbls⟩,⟨m,hn.sameBut hs (Ne.symm (cne x c hc)),fun j y v' e1 e2 e3=>?_⟩,fun y c' e=>?_,I.free,I.freeC,fun p hp=>?_,tracked ⟨oc,hoc,I.freeC x c hc⟩ hs,by simpa using I.len⟩ ⟨c,hs,.inr hc⟩
  ·exact (hs.2 b (Nat.ne_of_lt (Nat.lt_of_lt_of_le (Heap.lt_size e) (I.ok.cab x c hfn hc)))).trans (I.base.keep b o e n hb hx)
  ·obtain ⟨sl,e1⟩:=I.base.slot b o e n hb hx
   exact ⟨sl,(hs.2 b (Nat.ne_of_lt (Nat.lt_of_lt_of_le (Heap.lt_size e) (I.ok.cab x c hfn hc)))).trans e1⟩
  ·obtain ⟨o',e1⟩:=I.base.there b o e hx
   exact ⟨o',(hs.2 b (Nat.ne_of_lt (Nat.lt_of_lt_of_le (Heap.lt_size e) (I.ok.cab x c hfn hc)))).trans e1⟩
  ·by_cases hj:j=i
   ·subst hj
    rw [hi] at e1; cases e1
    rw [List.getElem?_set_self hiσ] at e2
    cases e2
    exact ⟨u,r,.inr ⟨.inl hk,c,hc,hc'⟩⟩
   ·rw [List.getElem?_set_ne (Ne.symm hj)] at e2
    obtain ⟨u',r',q⟩:=hl j y v' e1 e2 e3
    refine ⟨u',r',?_⟩
    rcases q with q | ⟨k,c',e,z'⟩
    ·exact .inl q
    ·refine .inr ⟨k,c',e,z'.sameBut hs ?_⟩
     rintro rfl
     exact hj (Zbn hN e1 (I.ok.inj _ _ _ e hc ▸ hi))
  ·by_cases hcc:c'=c
   ·subst hcc; exact ⟨_,hc'⟩
   ·obtain ⟨w2,z2⟩:=I.cell y c' e
    exact ⟨w2,z2.sameBut hs hcc⟩
  ·obtain ⟨e,n,ne,nf,d⟩:=I.pin p hp
   refine ⟨(hs.2 p.1 ?_).trans e,n,ne,nf,d⟩
   intro q
   rw [q,hoc] at e
   have q':oc=p.2:=Option.some.inj e
   exact d w' (by rw [<-q']; exact hocd)
theorem Za8 {M:Model} {A:Around} {E:Value->Shared->Prop} {i:Nat} {x:Str} {v:V} {u:Value} {Q:Unit->Shared->Prop} (I:Inv X pins σ H s) (hN:X.N.Nodup) (hi:X.N[i]?=some x) (hx:Loc X.env.scope x) (r:RelV v u)
  (h:∀ s',Inv X pins (σ.set i (some v)) H s'->Q () s') (hf:X.fn x=true\/X.env.scope.names.lookup x=some .local:=by first | exact .inl rfl | exact .inr rfl | assumption):wpAny M A (storeName X.env x u) Q E s:=
 ZcB I hN hi hx r (fun s' I' _=>h s' I') hf
theorem Inv.call' {s':Shared} {ch:List Addr} (I:Inv X pins σ H s) (ho:s'.os=s.os) (u:Un (frs X.stack) ch H H' s.heap s'.heap) (hok:HOk X.prog X.w H' s'.heap) (hg:AllBare s'.gens)
  (hch:∀ b∈ch,(b∈X.ex\/X.s₀.heap.objs.size<=b)/\b≠X.env.locals/\(∀ x c,X.env.cells.lookup x=some c->c≠b)/\∀ p∈X.pn++pins,p.1≠b):Inv X pins σ H' s':=by
 obtain ⟨h',g',d',t',o'⟩:=s'
 have e:o'=s.os:=ho
 subst e
 exact I.call (g':=g') (t':=t') (d':=d') u hok hg hch
end
noncomputable abbrev XK:=Value->Option Addr->Hp->Prop
noncomputable abbrev St:=List (Option V)
noncomputable abbrev VK:=V->Hp->Prop
noncomputable abbrev TE:=St->Hp->VK->Prop
noncomputable abbrev TT:=St->Hp->(Bool->Hp->Prop)->Prop
noncomputable abbrev TA:=St->Hp->(List V->Hp->Prop)->Prop
structure Zf7 where
 nx:St->Hp->Prop
 rt:VK
 bk:St->Hp->Prop:=fun _ _=>False
 ct:St->Hp->Prop:=fun _ _=>False
noncomputable abbrev TS:=Zf7->St->Hp->Prop
inductive EP (X:Cx) (pins:List (Addr×Obj)) (σ:St) (Q:VK) (u:Value) (s':Shared):Prop
 | mk (v:V) (H':Hp) (I:Inv X pins σ H' s') (r:RelV v u) (q:Q v H')
noncomputable def TP (X:Cx) (pins:List (Addr×Obj)) (σ:St) (Q:Bool->Hp->Prop) (b:Bool) (s':Shared):Prop:=∃ H',Inv X pins σ H' s'/\Q b H'
inductive AP (X:Cx) (pins:List (Addr×Obj)) (σ:St) (Q:List V->Hp->Prop) (us:List Value) (s':Shared):Prop
 | mk (vs:List V) (H':Hp) (I:Inv X pins σ H' s') (r:Vals vs us) (q:Q vs H')
noncomputable def SP (X:Cx) (pins:List (Addr×Obj)) (D:Zf7) (f:Flow) (s':Shared):Prop:=
 match f with
 | .next=>∃ σ' H',Inv X pins σ' H' s'/\D.nx σ' H'
 | .brk=>∃ σ' H',Inv X pins σ' H' s'/\D.bk σ' H'
 | .cont=>∃ σ' H',Inv X pins σ' H' s'/\D.ct σ' H'
 | .ret u=>∃ v σ' H',Inv X pins σ' H' s'/\RelV v u/\D.rt v H'
noncomputable def PE (X:Cx) (e:Expr) (t:TE):Prop:=
 ∀ (pins:List (Addr×Obj)) (s:Shared) (σ:St) (H:Hp) (Q:VK),Inv X pins σ H s->t σ H Q->wpAny (model X.prog X.w) X.A (eval e X.env) (EP X pins σ Q) X.xe s
noncomputable def PT (X:Cx) (e:Expr) (t:TT):Prop:=
 ∀ (pins:List (Addr×Obj)) (s:Shared) (σ:St) (H:Hp) (Q:Bool->Hp->Prop),Inv X pins σ H s->t σ H Q->wpAny (model X.prog X.w) X.A (isTrue e X.env (eval e X.env)) (TP X pins σ Q) X.xe s
noncomputable def PW (X:Cx) (e:Expr) (t:TT):Prop:=
 ∀ (whole:Sem Value) (pins:List (Addr×Obj)) (s:Shared) (σ:St) (H:Hp) (Q:Bool->Hp->Prop),Inv X pins σ H s->t σ H Q->wpAny (model X.prog X.w) X.A (isTrue e X.env whole) (TP X pins σ Q) X.xe s
theorem PW.pt {X:Cx} {e:Expr} {t:TT} (h:PW X e t):PT X e t:=h _
noncomputable def PA (X:Cx) (es:List Expr) (t:TA):Prop:=
 ∀ (pos:Pos) (pins:List (Addr×Obj)) (s:Shared) (σ:St) (H:Hp) (Q:List V->Hp->Prop),Inv X pins σ H s->t σ H Q->wpAny (model X.prog X.w) X.A (spliced (backTo pos (starEach es X.env))) (AP X pins σ Q) X.xe s
noncomputable def PS (X:Cx) (st:Stmt) (t:TS):Prop:=
 ∀ (pins:List (Addr×Obj)) (s:Shared) (σ:St) (H:Hp) (D:Zf7),Inv X pins σ H s->t D σ H->wpAny (model X.prog X.w) X.A (exec st X.env) (SP X pins D) X.xe s
noncomputable def PSs (X:Cx) (st:List Stmt) (t:TS):Prop:=
 ∀ (pins:List (Addr×Obj)) (s:Shared) (σ:St) (H:Hp) (D:Zf7),Inv X pins σ H s->t D σ H->wpAny (model X.prog X.w) X.A (execs st X.env) (SP X pins D) X.xe s
theorem thn {α:Type} {t:Sem α} {Q Q':α->Shared->Prop} {M:Model} {A:Around} {E:Value->Shared->Prop} {s:Shared} (h:wpAny M A t Q E s) (hQ:∀ a s,Q a s->Q' a s):wpAny M A t Q' E s:=wpAny_mono h hQ fun _ _ x=>x
section
variable {X:Cx}
noncomputable def Zhb (i:Nat):TE:=fun σ H Q=>∃ v,σ[i]?=some (some v)/\Q v H
noncomputable def tC (v:V):TE:=fun _ H Q=>Q v H
theorem ZhN {i:Nat} {x:Str} {pos:Pos} (hN:X.N[i]?=some x) (hv:Vis X.env.scope x) (hd:(x==("__debug__":Str))=false:=by decide) (hcd:(x==("__classdict__":Str))=false:=by decide):PE X (.Name x pos) (Zhb i):=by
 intro pins s σ H Q I h
 obtain ⟨v,e,h⟩:=h
 obtain ⟨m,hn,hl⟩:=I.loc
 obtain ⟨u,r,l⟩:=hl i x v hN e hv
 have fin:EP X pins σ Q u s:=⟨v,H,I,r,h⟩
 rcases l with ⟨hk,hm⟩ | ⟨hk,c,hc,hcell⟩
 ·exact wpAny_Name (wpAny_loadName_local I.ok.kind hk hn hm fin) hd
 ·rcases hk with hk | hk
  ·exact wpAny_Name (wpAny_loadName_cell I.ok.kind hk hc hcell fin) hd
  ·exact wpAny_Name (wpAny_loadName_free I.ok.kind hk hc hcell fin hcd) hd
theorem ZfE {i j pos}:PE X (.Constant (.int i) j pos) (tC (.int i)):=fun _ _ _ H _ I h=>wpAny_Constant_int ⟨.int i,H,I.tok _,⟨_,rfl⟩,h⟩
theorem Zjh {b j pos}:PE X (.Constant (.bool b) j pos) (tC (.bl b)):=fun _ _ _ H _ I h=>Constant_bool ⟨.bl b,H,I,rfl,h⟩
theorem ZhQ {j pos}:PE X (.Constant .none j pos) (tC .non):=fun _ _ _ H _ I h=>Constant_none ⟨.non,H,I,rfl,h⟩
noncomputable def Gl (X:Cx) (x:Str):Prop:=X.env.kindOf x=some .globalImplicit
theorem Zdl {E:Value->Shared->Prop} {pins:List (Addr×Obj)} {s:Shared} {σ:St} {H:Hp} {x:Str} {u:Value} {pos:Pos} {Q:Value->Shared->Prop} (I:Inv X pins σ H s) (hg:Gl X x) (hm:X.mg x=some u) (h:Q u s)
  (hd:(x==("__debug__":Str))=false:=by decide):wpAny (model X.prog X.w) X.A (eval (.Name x pos) X.env) Q E s:=
 Calls.Name_function_global I.ok.kind hg (Calls.loadGlobal_global (by rw [I.ok.glob]; exact I.mod.glob.keeps I.bk) hm h) hd
theorem JH {E:Value->Shared->Prop} {pins:List (Addr×Obj)} {s:Shared} {σ:St} {H:Hp} {x:Str} {u:Value} {pos:Pos} {Q:Value->Shared->Prop} (I:Inv X pins σ H s) (hg:Gl X x) (hm:X.mg x=none) (hv:bootBuiltins x=some u) (h:Q u s)
  (hn:x≠"__name__":=by decide) (hd:(x==("__debug__":Str))=false:=by decide):wpAny (model X.prog X.w) X.A (eval (.Name x pos) X.env) Q E s:=by
 obtain ⟨mb,h1,h2⟩:=I.mod.blt
 exact Calls.Name_function_global I.ok.kind hg (Calls.loadGlobal_builtin (by rw [I.ok.glob]; exact I.mod.glob.keeps I.bk) hm (by rw [I.ok.blt]; exact h1.keeps I.bk) ((h2 x hn).trans hv) h) hd
theorem Zc2 {x:Str} {v:V} {u:Value} {pos:Pos} (hg:Gl X x) (hm:X.mg x=some u) (r:RelV v u) (hd:(x==("__debug__":Str))=false:=by decide):PE X (.Name x pos) (tC v):=
 fun _ _ _ H _ I h=>Zdl I hg hm ⟨v,H,I,r,h⟩ hd
variable {a b:Expr} {ta tb:TE} {pos:Pos}
noncomputable def PC (X:Cx) (op:CmpOp) (a b:Expr) (t:TE):Prop:=
 ∀ (pins:List (Addr×Obj)) (s:Shared) (σ:St) (H:Hp) (Q:VK),Inv X pins σ H s->t σ H Q ->
  wpAny (model X.prog X.w) X.A (eval a X.env) (fun v s₁=>wpAny (model X.prog X.w) X.A (eval b X.env) (fun u s₂=>wpAny (model X.prog X.w) X.A (compareOp op v u) (EP X pins σ Q) X.xe s₂) X.xe s₁) X.xe s
theorem ZeI (b:Expr) {op:CmpOp} (h:op≠.In) (h2:op≠.NotIn):behindInMarks op b=false:=by
 have e1:(op==CmpOp.In)=false:=by cases op <;> first | rfl | exact absurd rfl h
 have e2:(op==CmpOp.NotIn)=false:=by cases op <;> first | rfl | exact absurd rfl h2
 cases b <;> simp [behindInMarks,e1,e2]
noncomputable def Zj7 (ta:TE):TE:=fun σ H Q=>ta σ H fun x H1=>Q (.bl (decide (x=.non))) H1
theorem RelV.none_iff {x:V} {v:Value} (r:RelV x v):(v==Value.none)=decide (x=.non):=by
 cases x with
 | non=>cases r; rfl
 | bl _=>cases r; rfl
 | int _=>obtain ⟨t,rfl⟩:=r; rfl
 | str _=>obtain ⟨t,rfl⟩:=r; rfl
 | byt _=>obtain ⟨t,rfl⟩:=r; rfl
 | flt _=>obtain ⟨t,rfl⟩:=r; rfl
 | ref _=>cases r; rfl
 | ty _=>cases r; rfl
theorem ZhT {j pos'} (ha:PE X a ta):PC X .Is a (.Constant .none j pos') (Zj7 ta):=by
 intro pins s σ H Q I h
 refine thn (ha pins s σ H _ I h) fun v s1 zq=>?_
 obtain ⟨x,H1,I1,r1,q1⟩:=zq
 exact Constant_none (is_none_gen ⟨.bl _,H1,I1,by rw [r1.none_iff]; rfl,q1⟩)
noncomputable def tB (t:TE):TT:=fun σ H Q=>t σ H fun x H1=>∃ c,x=.bl c/\Q c H1
theorem ZhI {op:CmpOp} {t:TE} (h:PC X op a b t) (h1:behindInMarks op b=false:=by first | exact ZeI _ (by decide) (by decide) | rfl):PT X (.Compare a [op] [b] pos) (tB t):=by
 intro pins s σ H Q I hw
 refine wpAny_isTrue_Compare1 (thn (h pins s σ H _ I hw) fun v s1 h1=>thn h1 fun u s2 h2=>thn h2 fun c s3 zq=>?_) h1
 obtain ⟨x,H1,I1,r1,q1⟩:=zq
 obtain ⟨d,rfl,q⟩:=q1
 cases r1
 exact wpAny_truthy_bool ⟨H1,I1,q⟩
theorem ZhG {e:Expr} {t:TE} (h:PE X e t) (he:∀ whole,isTrue e X.env whole=(do let v <- whole; standAt e.pos; holding [v] (truthy v)):=by intro _; rfl):PT X e (tB t):=by
 intro pins s σ H Q I hw
 refine isTrue_plain (thn (h pins s σ H _ I hw) fun v s1 zq=>?_) (he _)
 obtain ⟨x,H1,I1,r1,q1⟩:=zq
 obtain ⟨d,rfl,q⟩:=q1
 cases r1
 exact wpAny_truthy_bool ⟨H1,I1,q⟩
variable {tA tB':TT} {rest:List Expr}
noncomputable def Zkc (t u:TT):TT:=fun σ H Q=>t σ H fun c H1=>if c=true then u σ H1 Q else Q false H1
noncomputable def tOr (t u:TT):TT:=fun σ H Q=>t σ H fun c H1=>if c=true then Q true H1 else u σ H1 Q
noncomputable def Zj4 (t:TT):TT:=fun σ H Q=>t σ H fun c H1=>Q (!c) H1
theorem Zgp (ha:PT X a tA):PW X (.BoolOp .And [a] pos) tA:=by
 intro wh pins s σ H Q I h
 refine isTrue_and (thn (ha pins s σ H Q I h) fun c s1 e=>?_)
 cases c with
 | true=>exact isTrue_and_nil e
 | false=>exact e
theorem ZhE (ha:PT X a tA):PW X (.BoolOp .Or [a] pos) tA:=by
 intro wh pins s σ H Q I h
 refine isTrue_or (thn (ha pins s σ H Q I h) fun c s1 e=>?_)
 cases c with
 | false=>exact isTrue_or_nil e
 | true=>exact e
theorem ZhF (ha:PT X a tA) (hb:PW X (.BoolOp .And (b::rest) pos) tB'):PW X (.BoolOp .And (a::b::rest) pos) (Zkc tA tB'):=by
 intro wh pins s σ H Q I h
 refine isTrue_and (thn (ha pins s σ H _ I h) fun c s1 zq=>?_)
 obtain ⟨H1,I1,q1⟩:=zq
 cases c with
 | true=>exact hb wh pins s1 σ H1 Q I1 q1
 | false=>exact ⟨H1,I1,q1⟩
theorem Zjd (ha:PT X a tA) (hb:PW X (.BoolOp .Or (b::rest) pos) tB'):PW X (.BoolOp .Or (a::b::rest) pos) (tOr tA tB'):=by
 intro wh pins s σ H Q I h
 refine isTrue_or (thn (ha pins s σ H _ I h) fun c s1 zq=>?_)
 obtain ⟨H1,I1,q1⟩:=zq
 cases c with
 | true=>exact ⟨H1,I1,q1⟩
 | false=>exact hb wh pins s1 σ H1 Q I1 q1
theorem ZhH (ha:PT X a tA):PT X (.UnaryOp .Not a pos) (Zj4 tA):=by
 intro pins s σ H Q I h
 exact isTrue_not (ha pins s σ H (fun c H1=>Q (!c) H1) I h)
end
noncomputable def SqL (K:PySem.W.Frag) (H:Hp) (a:Addr) (xs:List V):Prop:=
 Rd H a (.lst xs) \/
  ∃ (o:Obj) (its:Array Value) (n:Nat),K.lookup a=some o/\o.cls=.type "list"/\o.dict=none/\o.data=.seq its n/\its.size<=sizeLine/\Vals xs its.toList
noncomputable def SqT (K:PySem.W.Frag) (H:Hp) (a:Addr) (xs:List V):Prop:=
 Rd H a (.tup xs) \/
  ∃ (o:Obj) (its:Array Value) (n:Nat),K.lookup a=some o/\o.cls=.type "tuple"/\o.dict=none/\o.data=.seq its n/\its.size<=sizeLine/\Vals xs its.toList
noncomputable def ZkD:Value->Option V
 | .none=>some .non
 | .bool b=>some (.bl b)
 | .int i _=>some (.int i)
 | .str x _=>some (.str x)
 | .bytes b _=>some (.byt b)
 | .float b _=>some (.flt b)
 | .ref a=>some (.ref a)
 | .type n=>some (.ty n)
 | _=>none
theorem RelV.abs {x:V} {u:Value} (r:RelV x u):ZkD u=some x:=by
 cases x with
 | non=>cases r; rfl
 | bl _=>cases r; rfl
 | int _=>obtain ⟨t,rfl⟩:=r; rfl
 | str _=>obtain ⟨t,rfl⟩:=r; rfl
 | byt _=>obtain ⟨t,rfl⟩:=r; rfl
 | flt _=>obtain ⟨t,rfl⟩:=r; rfl
 | ref _=>cases r; rfl
 | ty _=>cases r; rfl
theorem RelV.inj {x y:V} {u:Value} (r:RelV x u) (q:RelV y u):x=y:=Option.some.inj (r.abs.symm.trans q.abs)
theorem Vals.inj:∀ {xs ys:List V} {us:List Value},Vals xs us->Vals ys us->xs=ys
 | _,_,_,.nil,.nil=>rfl
 | _,_,_,.cons r t,.cons r' t'=>by rw [r.inj r',Vals.inj t t']
section
variable {X:Cx} {pins:List (Addr×Obj)} {σ:St} {H:Hp} {s:Shared} {a:Addr} {xs ys:List V}
theorem SqL.of {K:PySem.W.Frag} (h:H a=some (.lst xs)):SqL K H a xs:=.inl (.inl h)
theorem SqT.of {K:PySem.W.Frag} (h:H a=some (.tup xs)):SqT K H a xs:=.inl (.inl h)
theorem Inv.list (I:Inv X pins σ H s) (h:SqL X.K H a xs):∃ its:List Value,Vals xs its/\PlainL s.heap a its.toArray/\xs.length<=sizeLine:=by
 rcases h with h | ⟨o,its,n,hk,hc,hd,hs,hz,r⟩
 ·obtain ⟨z,its,n,r,e⟩:=h.ok I.hok
  exact ⟨its,r,⟨_,n,e,rfl,rfl,rfl⟩,z⟩
 ·refine ⟨its.toList,r,⟨o,n,I.kIn a o hk,hc,hd,by simpa using hs⟩,?_⟩
  have e:=r.length
  simp only [Array.length_toList] at e
  omega
theorem Inv.tupleD (I:Inv X pins σ H s) (h:SqT X.K H a xs):∃ its:List Value,Vals xs its/\TupD s.heap a its.toArray/\xs.length<=sizeLine:=by
 rcases h with h | ⟨o,its,n,hk,hc,hdd,hs,hz,r⟩
 ·obtain ⟨z,its,r,p⟩:=h.ok I.hok
  exact ⟨its,r,p,z⟩
 ·refine ⟨its.toList,r,⟨o,I.kIn a o hk,hc,hdd,n,by simpa using hs⟩,?_⟩
  have e:=r.length
  simp only [Array.length_toList] at e
  omega
theorem Inv.tuple (I:Inv X pins σ H s) (h:SqT X.K H a xs):∃ its:List Value,Vals xs its/\IsTup s.heap a its.toArray/\xs.length<=sizeLine:=by
 obtain ⟨its,r,p,z⟩:=I.tupleD h
 exact ⟨its,r,p.tup,z⟩
theorem Inv.list_inj (I:Inv X pins σ H s) (h:SqL X.K H a xs) (h':SqL X.K H a ys):xs=ys:=by
 obtain ⟨its,r,⟨o,n,e,_,_,d⟩,_⟩:=I.list h
 obtain ⟨its',r',⟨o',n',e',_,_,d'⟩,_⟩:=I.list h'
 rw [e] at e'; cases e'
 rw [d] at d'
 injection d' with d1 _
 have:its=its':=by simpa using congrArg Array.toList d1
 subst this
 exact r.inj r'
theorem Inv.tuple_inj (I:Inv X pins σ H s) (h:SqT X.K H a xs) (h':SqT X.K H a ys):xs=ys:=by
 obtain ⟨its,r,⟨o,e,_,n,d⟩,_⟩:=I.tuple h
 obtain ⟨its',r',⟨o',e',_,n',d'⟩,_⟩:=I.tuple h'
 rw [e] at e'; cases e'
 rw [d] at d'
 injection d' with d1 _
 have:its=its':=by simpa using congrArg Array.toList d1
 subst this
 exact r.inj r'
end
noncomputable abbrev Cx.wish (X:Cx) (E:Value->Shared->Prop):Cx:={ X with xe:=E }
noncomputable abbrev Cx.nox (X:Cx):Cx:=X.wish fun _ _=>False
theorem Cx.Ok.wish {X:Cx} (ok:X.Ok) (E:Value->Shared->Prop):(X.wish E).Ok:=
 ⟨ok.mod,ok.kind,ok.glob,ok.blt,ok.above,ok.inj,ok.has,ok.cab,ok.hd,ok.frames,ok.stk,ok.exf,ok.bs,ok.bsz,ok.noex,ok.exfs,ok.funs,ok.frf⟩
theorem Cx.Ok.unwish {X:Cx} {E:Value->Shared->Prop} (ok:(X.wish E).Ok):X.Ok:=
 ⟨ok.mod,ok.kind,ok.glob,ok.blt,ok.above,ok.inj,ok.has,ok.cab,ok.hd,ok.frames,ok.stk,ok.exf,ok.bs,ok.bsz,ok.noex,ok.exfs,ok.funs,ok.frf⟩
section
variable {X:Cx} {pins:List (Addr×Obj)} {σ:St} {H:Hp} {s:Shared} {E:Value->Shared->Prop}
theorem Inv.wish (I:Inv X pins σ H s) (E:Value->Shared->Prop):Inv (X.wish E) pins σ H s:=⟨I.ok.wish E,I.os,I.bare,I.base,I.loc,I.cell,I.free,I.freeC,I.pin,I.hok,I.len⟩
theorem Inv.unwish (I:Inv (X.wish E) pins σ H s):Inv X pins σ H s:=⟨I.ok.unwish,I.os,I.bare,I.base,I.loc,I.cell,I.free,I.freeC,I.pin,I.hok,I.len⟩
theorem SP.unwish {D:Zf7} {f:Flow} {s':Shared} (h:SP (X.wish E) pins D f s'):SP X pins D f s':=by
 cases f with
 | next=>obtain ⟨σ',H',I,q⟩:=h; exact ⟨σ',H',I.unwish,q⟩
 | brk=>obtain ⟨σ',H',I,q⟩:=h; exact ⟨σ',H',I.unwish,q⟩
 | cont=>obtain ⟨σ',H',I,q⟩:=h; exact ⟨σ',H',I.unwish,q⟩
 | ret u=>obtain ⟨v,σ',H',I,r,q⟩:=h; exact ⟨v,σ',H',I.unwish,r,q⟩
theorem PSs.nox {st:List Stmt} {t:TS} (h:PSs X.nox st t):PSs X st t:=fun pins s σ H D I hw=>
 wpAny_mono (h pins s σ H D (I.wish _) hw) (fun _ _ q=>q.unwish) fun _ _ z=>False.elim z
end
section
variable {X:Cx} {st:Stmt} {rest:List Stmt} {t u:TS} {e:Expr} {te:TE} {pos:Pos}
noncomputable def Zi4:TS:=fun D σ H=>D.nx σ H
noncomputable def Zj2 (t u:TS):TS:=fun D σ H=>t { D with nx:=u D } σ H
theorem Zgt:PSs X [] Zi4:=fun _ _ σ H _ I h=>wpAny_execs_nil ⟨σ,H,I,h⟩
theorem Zey (h1:PS X st t) (h2:PSs X rest u):PSs X (st::rest) (Zj2 t u):=by
 intro pins s σ H D I h
 refine wpAny_execs_cons (thn (h1 pins s σ H { D with nx:=u D } I h) fun f s1 q=>?_)
 cases f with
 | next=>
  obtain ⟨σ',H',I',q⟩:=q
  exact h2 pins s1 σ' H' D I' q
 | ret v=>exact q
 | brk=>exact q
 | cont=>exact q
theorem Zgs (h1:PS X st t):PSs X [st] t:=by
 intro pins s σ H D I h
 refine wpAny_execs_cons (thn (h1 pins s σ H D I h) fun f s1 q=>?_)
 cases f with
 | next=>exact wpAny_execs_nil q
 | ret v=>exact q
 | brk=>exact q
 | cont=>exact q
theorem Inv.quiet {pins:List (Addr×Obj)} {σ:St} {H:Hp} {s:Shared} (I:Inv X pins σ H s):interactive X.env=false:=by simp [interactive,I.ok.kind]
noncomputable def Zi6 (te:TE):TS:=fun D σ H=>te σ H fun _ H1=>D.nx σ H1
theorem Zaw (he:PE X e te) (hs:swapsWith e none pos.line X.env=pure false:=by rfl):PS X (.Expr e pos) (Zi6 te):=by
 intro pins s σ H D I h
 exact wpAny_Expr_any (thn (he pins s σ H _ I h) fun v s1 ⟨x,H1,I1,r1,q1⟩=>⟨σ,H1,I1,q1⟩) I.quiet hs
noncomputable def Zj3 (te:TE):TS:=fun D σ H=>te σ H D.rt
theorem ZhJ (he:PE X e te):PS X (.Return (some e) pos) (Zj3 te):=by
 intro pins s σ H D I h
 exact wpAny_Return_some (thn (he pins s σ H _ I h) fun v s1 ⟨x,H1,I1,r1,q1⟩=>⟨x,σ,H1,I1,r1,q1⟩)
noncomputable def Zj8 (c:TT) (t u:TS):TS:=fun D σ H=>c σ H fun b H1=>if b=true then t D σ H1 else u D σ H1
theorem Zje {c:Expr} {a b:List Stmt} {tc:TT} (hc:PT X c tc) (ha:PSs X a t) (hb:PSs X b u):PS X (.If c a b pos) (Zj8 tc t u):=by
 intro pins s σ H D I h
 refine wpAny_If (thn (hc pins s σ H _ I h) fun d s1 zq=>?_)
 obtain ⟨H1,I1,q1⟩:=zq
 cases d with
 | true=>exact ha pins s1 σ H1 D I1 q1
 | false=>exact hb pins s1 σ H1 D I1 q1
end
noncomputable abbrev TG:=V->St->Hp->(St->Hp->Prop)->Prop
noncomputable abbrev TGs:=List V->St->Hp->(St->Hp->Prop)->Prop
noncomputable def PG (X:Cx) (target:Expr) (t:TG):Prop:=
 ∀ (pins:List (Addr×Obj)) (s:Shared) (σ:St) (H:Hp) (v:V) (u:Value) (Q:St->Hp->Prop),Inv X pins σ H s->RelV v u->t v σ H Q ->
  wpAny (model X.prog X.w) X.A (assign target X.env u) (fun _ s'=>∃ σ' H',Inv X pins σ' H' s'/\Q σ' H') X.xe s
noncomputable def PGs (X:Cx) (ts:List Expr) (t:TGs):Prop:=
 ∀ (pins:List (Addr×Obj)) (s:Shared) (σ:St) (H:Hp) (vs:List V) (us:List Value) (Q:St->Hp->Prop),Inv X pins σ H s->Vals vs us->t vs σ H Q ->
  wpAny (model X.prog X.w) X.A (assignInOrder ((assignEach ts X.env).map (·.2)) us) (fun _ s'=>∃ σ' H',Inv X pins σ' H' s'/\Q σ' H') X.xe s
noncomputable abbrev TSet:=V->V->V->Hp->(Hp->Prop)->Prop
section
variable {X:Cx} {pos:Pos}
noncomputable def Zio (i:Nat):TG:=fun v σ H Q=>Q (σ.set i (some v)) H
theorem Zax {i:Nat} {x:Str} (hN:X.N.Nodup) (hi:X.N[i]?=some x) (hx:Loc X.env.scope x) (hf:X.fn x=true\/X.env.scope.names.lookup x=some .local:=by first | exact .inl rfl | exact .inr rfl | assumption):PG X (.Name x pos) (Zio i):=by
 intro pins s σ H v u Q I r h
 exact wpAny_assign_Name (Za8 I hN hi hx r (fun s' I'=>⟨_,H,I',h⟩) hf)
noncomputable def Zkz:TGs:=fun vs σ H Q=>vs=[]/\Q σ H
noncomputable def Zjv (t:TG) (u:TGs):TGs:=fun vs σ H Q=>∃ v r,vs=v::r/\t v σ H fun σ' H'=>u r σ' H' Q
theorem Zgw:PGs X [] Zkz:=by
 intro pins s σ H vs us Q I r h
 obtain ⟨e,h⟩:=h
 subst e
 cases r
 exact assignInOrder_nil ⟨σ,H,I,h⟩
theorem Zbl {e:Expr} {es:List Expr} {t:TG} {u:TGs} (h1:PG X e t) (h2:PGs X es u)
  (hs:(assignEach (e::es) X.env).map (·.2)=assign e X.env::(assignEach es X.env).map (·.2):=by rfl):PGs X (e::es) (Zjv t u):=by
 intro pins s σ H vs us Q I r h
 obtain ⟨v,vr,e1,h⟩:=h
 subst e1
 cases r with
 | cons r rr=>
  rw [hs]
  refine assignInOrder_cons (thn (h1 pins s σ H _ _ _ I r h) fun _ s1 zq=>?_)
  obtain ⟨σ1,H1,I1,q1⟩:=zq
  exact h2 pins s1 σ1 H1 _ _ Q I1 rr q1
noncomputable def Zky (K:PySem.W.Frag) (n:Nat) (t:TGs):TG:=fun v σ H Q=>∃ a xs,v=.ref a/\SqT K H a xs/\xs.length=n/\t xs σ H Q
theorem ZhM {es:List Expr} {k:Nat} {t:TGs} {n:Nat} (hc:X.calm=true) (h:PGs X es t)
  (hn:(assignEach es X.env).length=n:=by rfl) (hst:(assignEach es X.env).findIdx? (·.1)=none:=by rfl):PG X (.Tuple es k pos) (Zky X.K n t):=by
 intro pins s σ H v u Q I r hw
 obtain ⟨a,xs,e1,hq,hl,hw⟩:=hw
 subst e1
 cases r
 obtain ⟨its,rv,ht,hz⟩:=I.tuple hq
 refine assign_Tuple_tuple (I.ok.hd hc) ht (by simp [hn,<-hl,rv.length]) hst fun h' hx=>?_
 have I1:Inv X pins σ H { s with heap:=h' }:=I.kept (t':=s.toks) fun b o e=>hx b o (Nat.ne_of_lt (Heap.lt_size e)) e
 exact h pins _ σ H xs _ Q I1 (by simpa using rv) hw
noncomputable def Zkb (te:TE) (g:TG):TS:=fun D σ H=>te σ H fun x H1=>g x σ H1 D.nx
theorem ZfB {i:Nat} {x:Str} {e:Expr} {te:TE} {pos':Pos} (hN:X.N.Nodup) (hi:X.N[i]?=some x) (hx:Loc X.env.scope x) (he:PE X e te) (hs:swapsWith e (some (.Name x pos')) pos.line X.env=pure false:=by rfl) (hf:X.fn x=true\/X.env.scope.names.lookup x=some .local:=by first | exact .inl rfl | exact .inr rfl | assumption) :
  PS X (.Assign [.Name x pos'] e pos) (Zkb te (Zio i)):=by
 intro pins s σ H D I h
 refine wpAny_Assign_Name (thn (he pins s σ H _ I h) fun v s1 zq=>?_) hs
 obtain ⟨y,H1,I1,r1,q1⟩:=zq
 exact Za8 I1 hN hi hx r1 (fun s2 I2=>⟨_,H1,I2,q1⟩) hf
end
section
variable {X:Cx} {pos:Pos}
noncomputable def Zhs (c:TT) (tb:TS):TS:=fun D σ H=>∃ W:Nat->St->Hp->Prop,(∃ m,W m σ H)/\∀ m σ H,W m σ H ->
 c σ H fun b H1=>if b=true then ∃ N:St->Hp->Prop,(∀ σ' H',N σ' H'->∃ m',m' < m/\W m' σ' H')/\tb { D with nx:=N,ct:=N,bk:=D.nx } σ H1 else D.nx σ H1
theorem Zez {c:Expr} {body:List Stmt} {tc:TT} {tb:TS} (hp:PassesOwn (model X.prog X.w) X.A X.env X.xe) (hc:PT X c tc) (hb:PSs X body tb):PS X (.While c body [] pos) (Zhs tc tb):=by
 intro pins s σ H D I h
 obtain ⟨W,⟨m0,w0⟩,turn⟩:=h
 refine wpAny_While (codeAny_whileLoop (fun n s'=>∃ σ' H',Inv X pins σ' H' s'/\W n σ' H') ?_ m0 ⟨σ,H,I,w0⟩)
 rintro n s1 ⟨σ1,H1,I1,w1⟩
 refine wpAny_passesOwn hp (thn (hc pins s1 σ1 H1 _ I1 (turn n σ1 H1 w1)) fun b s2 zq=>?_)
 obtain ⟨H2,I2,q2⟩:=zq
 cases b with
 | true=>
  obtain ⟨N,hN,q2⟩:=q2
  rw [if_pos rfl]
  refine wpAny_passesOwn hp (thn (hb pins s2 σ1 H2 _ I2 q2) fun f s3 q3=>?_)
  cases f with
  | next=>
   obtain ⟨σ3,H3,I3,n3⟩:=q3
   obtain ⟨m',hm,w3⟩:=hN σ3 H3 n3
   exact ⟨m',hm,σ3,H3,I3,w3⟩
  | cont=>
   obtain ⟨σ3,H3,I3,n3⟩:=q3
   obtain ⟨m',hm,w3⟩:=hN σ3 H3 n3
   exact ⟨m',hm,σ3,H3,I3,w3⟩
  | brk=>exact q3
  | ret v=>exact q3
 | false=>
  rw [if_neg Bool.false_ne_true]
  exact wpAny_execs_nil ⟨σ1,H2,I2,q2⟩
end
structure It where
 go:Nat->Hp->Prop
 yld:Nat->Hp->V->Hp->Prop
 stop:Nat->Hp->Prop
noncomputable def Zao (X:Cx) (pins:List (Addr×Obj)) (H:Hp) (b:Addr):Prop:=
 H b=none/\b≠X.env.locals/\b ∉ X.fs/\(b∈X.ex\/X.s₀.heap.objs.size<=b)/\(∀ x c,X.env.cells.lookup x=some c->c≠b)/\∀ p∈X.pn++pins,p.1≠b
theorem Inv.fpOk {X:Cx} {pins:List (Addr×Obj)} {σ:St} {H H':Hp} {s:Shared} {b:Addr} (I:Inv X pins σ H s) (hb:s.heap.objs.size<=b) (hn:H' b=none):Zao X pins H' b:=by
 refine ⟨hn,Nat.ne_of_gt (Nat.lt_of_lt_of_le I.lt hb),I.nofs hb,.inr (Nat.le_trans I.sz hb),fun x c e z=>?_,fun p hp z=>?_⟩
 ·obtain ⟨v,q⟩:=I.cell x c e
  exact absurd (Nat.lt_of_lt_of_le q.lt (by rw [z]; exact hb)) (Nat.lt_irrefl _)
 ·exact absurd (Nat.lt_of_lt_of_le (Heap.lt_size (I.pin p hp).1) (by rw [z]; exact hb)) (Nat.lt_irrefl _)
structure Zf4 (P:Program) (w:World) (K:PySem.W.Frag) (tg:Expr) (J:It) (fp:List Addr) (it:Addr) (tn:Nat->Heap->Prop):Prop where
 mem:it∈fp
 obj:∀ i h,tn i h->∀ b∈fp,∃ o,h.get? b=some o/\∀ v,o.data≠.cell v
 keep:∀ i h h',tn i h->(∀ b∈fp,∀ o,h.get? b=some o->h'.get? b=some o)->tn i h'
 item:∀ (X:Cx),X.prog=P->X.w=w->X.K=K->X.calm=true->∀ (i:Nat) (pins:List (Addr×Obj)) (s:Shared) (σ:St) (H:Hp) (E:Value->Shared->Prop),Inv X pins σ H s->(∀ b∈fp,Zao X pins H b)->tn i s.heap->J.go i H ->
  wpAny (model P w) X.A (pyNext (.ref it)) (fun r s1=>∃ u,r=some u /\
   wpAny (model P w) X.A (letOwnedTupleGo tg (.ref it) u) (fun _ s2=>∃ x H',Inv X pins σ H' s2/\RelV x u/\J.yld i H x H'/\tn (i+1) s2.heap/\∀ b∈fp,H' b=none) E s1) E s
 done:∀ (X:Cx),X.prog=P->X.w=w->X.K=K->X.calm=true->∀ (i:Nat) (pins:List (Addr×Obj)) (s:Shared) (σ:St) (H:Hp) (E:Value->Shared->Prop),Inv X pins σ H s->(∀ b∈fp,Zao X pins H b)->tn i s.heap->J.stop i H ->
  wpAny (model P w) X.A (pyNext (.ref it)) (fun r s1=>r=none/\Inv X pins σ H s1) E s
 self:∀ (A:Around) (i:Nat) (s:Shared) (Q:Value->Shared->Prop) (E:Value->Shared->Prop),tn i s.heap->Q (.ref it) s->wpAny (model P w) A (pyIter (.ref it)) Q E s
noncomputable abbrev TI:=St->Hp->(It->Hp->Prop)->Prop
noncomputable def PIE (X:Cx) (pins:List (Addr×Obj)) (σ:St) (tg:Expr) (R:It->Hp->Prop) (itv:Value) (s2:Shared):Prop:=
 ∃ (it:Addr) (fp:List Addr) (tn:Nat->Heap->Prop) (J:It) (H':Hp),itv=.ref it/\Inv X pins σ H' s2/\Zf4 X.prog X.w X.K tg J fp it tn/\tn 0 s2.heap/\(∀ b∈fp,Zao X pins H' b)/\R J H'
noncomputable def PI (X:Cx) (tg iter:Expr) (wi:TI):Prop:=
 ∀ (pins:List (Addr×Obj)) (s:Shared) (σ:St) (H:Hp) (R:It->Hp->Prop),Inv X pins σ H s->wi σ H R ->
  wpAny (model X.prog X.w) X.A (eval iter X.env) (fun v s1=>wpAny (model X.prog X.w) X.A (pyIter v) (PIE X pins σ tg R) X.xe s1) X.xe s
theorem ZgO {M : Model} {A : Around} {E : Value -> Shared -> Prop} {s : Shared} {tg : Expr} {it : Addr} {u : Value} {o : Obj} {n : String} {vs : Array Value} {Q : Unit -> Shared -> Prop} (ho : s.heap.get? it = some o) (hc : o.cls = .type n) (hd : o.data = .fields vs)
    (hn : ["enumerate", "zip", "dict_itemiterator", "dict_reverseitemiterator", "odict_iterator", "itertools.zip_longest", "itertools.pairwise"].contains n = false) (hQ : Q () s) : wpAny M A (letOwnedTupleGo tg (.ref it) u) Q E s := by
  unfold letOwnedTupleGo
  cases tg <;> first
    | exact wpAny_pure hQ
    | (cases u <;> first
        | exact wpAny_pure hQ
        | (refine wpAny_bind (wpAny_load ho ?_)
           rw [hc, hd]
           show wpAny M A (if (["enumerate", "zip", "dict_itemiterator", "dict_reverseitemiterator", "odict_iterator", "itertools.zip_longest", "itertools.pairwise"].contains n && vs[0]? == some (rawInt _)) = true then _ else _) Q E s
           rw [if_neg (by intro h; rw [hn, Bool.false_and] at h; cases h)]
           exact wpAny_pure hQ))
noncomputable def Itl (K:PySem.W.Frag) (a:Addr):It:=
 ⟨fun i H=>∃ xs x,SqL K H a xs/\xs[i]?=some x,fun i H x H'=>H'=H/\∀ xs,SqL K H a xs->xs[i]?=some x,fun i H=>∃ xs,SqL K H a xs/\xs.length<=i⟩
noncomputable def Itt (K:PySem.W.Frag) (a:Addr):It:=
 ⟨fun i H=>∃ xs x,SqT K H a xs/\xs[i]?=some x,fun i H x H'=>H'=H/\∀ xs,SqT K H a xs->xs[i]?=some x,fun i H=>∃ xs,SqT K H a xs/\xs.length<=i⟩
noncomputable def Itr (lo:Int) (n:Nat):It:=⟨fun i _=>i < n,fun i H x H'=>H'=H/\x=.int (lo+i),fun i _=>n<=i⟩
theorem Zcx {P:Program} {w:World} {K:PySem.W.Frag} {tg:Expr} (a it:Addr):Zf4 P w K tg (Itl K a) [it] it (fun i h=>h.IsListIter it a i) where
 mem:=by simp
 obj:=fun i h st b hb=>by
  have e:b=it:=by simpa using hb
  subst e
  obtain ⟨o,e,c,d⟩:=st
  exact ⟨o,e,fun v z=>by rw [d] at z; cases z⟩
 keep:=fun i h h' st k=>st.at fun o e=>k it (by simp) o e
 item:=by
  intro X hP hw hK hc i pins s σ H E I hf st hg
  subst hP hw hK
  obtain ⟨xs,x,hq,hx⟩:=hg
  obtain ⟨its,rv,p,hz⟩:=I.list hq
  obtain ⟨u,hu,ru⟩:=rv.get hx
  obtain ⟨f0,f1,f2,f3,f4,f5⟩:=hf it (by simp)
  refine wpAny_pyNext_list_item st p.isList (x:=u) (by simpa using hu) fun h' st' sb=>?_
  have I1:Inv X pins σ H { s with heap:=h' }:=I.turned (t':=s.toks) (fun b o hb e=>(sb.2 b hb).trans e) f0 f1 f3 f4 f5
  obtain ⟨o,e,c,d⟩:=id st'
  exact ⟨u,rfl,ZgO (s:={ s with heap:=h' }) e c d (by decide) ⟨x,H,I1,ru,⟨rfl,fun ys hy=>by rw [I.list_inj hy hq]; exact hx⟩,st',fun b hb=>(hf b hb).1⟩⟩
 done:=by
  intro X hP hw hK hc i pins s σ H E I hf st hg
  subst hP hw hK
  obtain ⟨xs,hq,hx⟩:=hg
  obtain ⟨its,rv,p,hz⟩:=I.list hq
  obtain ⟨f0,f1,f2,f3,f4,f5⟩:=hf it (by simp)
  have hl:=rv.length
  exact wpAny_pyNext_list_end (I.ok.hd hc) st p.isList (by simp; omega) fun h' eb=>⟨rfl,I.turned (t':=s.toks) (fun b o hb e=>eb b o hb e) f0 f1 f3 f4 f5⟩
 self:=fun _ _ _ _ _ st h=>wpAny_pyIter_listiter st h
theorem ZbM {P:Program} {w:World} {K:PySem.W.Frag} {tg:Expr} (a it:Addr):Zf4 P w K tg (Itt K a) [it] it (fun i h=>h.IsTupleIter it a i) where
 mem:=by simp
 obj:=fun i h st b hb=>by
  have e:b=it:=by simpa using hb
  subst e
  obtain ⟨o,e,c,d⟩:=st
  exact ⟨o,e,fun v z=>by rw [d] at z; cases z⟩
 keep:=fun i h h' st k=>st.at fun o e=>k it (by simp) o e
 item:=by
  intro X hP hw hK hc i pins s σ H E I hf st hg
  subst hP hw hK
  obtain ⟨xs,x,hq,hx⟩:=hg
  obtain ⟨its,rv,p,hz⟩:=I.tuple hq
  obtain ⟨u,hu,ru⟩:=rv.get hx
  obtain ⟨f0,f1,f2,f3,f4,f5⟩:=hf it (by simp)
  refine wpAny_pyNext_tuple_item st (show s.heap.IsTuple a its.toArray from p) (x:=u) (by simpa using hu) fun h' st' sb=>?_
  have I1:Inv X pins σ H { s with heap:=h' }:=I.turned (t':=s.toks) (fun b o hb e=>(sb.2 b hb).trans e) f0 f1 f3 f4 f5
  obtain ⟨o,e,c,d⟩:=id st'
  exact ⟨u,rfl,ZgO (s:={ s with heap:=h' }) e c d (by decide) ⟨x,H,I1,ru,⟨rfl,fun ys hy=>by rw [I.tuple_inj hy hq]; exact hx⟩,st',fun b hb=>(hf b hb).1⟩⟩
 done:=by
  intro X hP hw hK hc i pins s σ H E I hf st hg
  subst hP hw hK
  obtain ⟨xs,hq,hx⟩:=hg
  obtain ⟨its,rv,p,hz⟩:=I.tuple hq
  obtain ⟨f0,f1,f2,f3,f4,f5⟩:=hf it (by simp)
  have hl:=rv.length
  exact wpAny_pyNext_tuple_end (I.ok.hd hc) st (show s.heap.IsTuple a its.toArray from p) (by simp; omega) fun h' eb=>⟨rfl,I.turned (t':=s.toks) (fun b o hb e=>eb b o hb e) f0 f1 f3 f4 f5⟩
 self:=fun _ _ _ _ _ st h=>wpAny_pyIter_tupleiter st h
theorem ZbN {P:Program} {w:World} {K:PySem.W.Frag} {tg:Expr} (it:Addr) (lo:Int) (n:Nat):Zf4 P w K tg (Itr lo n) [it] it (fun i h=>IsRangeIter h it (lo+(i:Nat)*1) ((n:Int)-(i:Nat)) 1) where
 mem:=by simp
 obj:=fun i h st b hb=>by
  have e:b=it:=by simpa using hb
  subst e
  exact ⟨_,st,fun v z=>by
   have z':Data.fields _=Data.cell v:=z
   cases z'⟩
 keep:=fun i h h' st k=>k it (by simp) _ st
 item:=by
  intro X hP hw hK hc i pins s σ H E I hf st hg
  subst hP hw hK
  obtain ⟨f0,f1,f2,f3,f4,f5⟩:=hf it (by simp)
  have W:=Walks.range (prog:=X.prog) (w:=X.w) (I.ok.hd hc) it lo 1 n
  refine W.item i s _ _ hg st fun v h' tk hv st' kk=>?_
  obtain ⟨t,rfl⟩:=hv
  have I1:Inv X pins σ H { s with heap:=h',toks:=tk }:=I.turned (fun b o hb e=>kk b o (by simpa using hb) e) f0 f1 f3 f4 f5
  refine ⟨_,rfl,ZgO (s:={ s with heap:=h',toks:=tk }) (n:="range_iterator") st' rfl rfl (by decide) ⟨.int (lo+i),H,I1,⟨t,?_⟩,⟨rfl,rfl⟩,st',fun b hb=>(hf b hb).1⟩⟩
  rw [Int.mul_one]
 done:=by
  intro X hP hw hK hc i pins s σ H E I hf st hg
  subst hP hw hK
  obtain ⟨f0,f1,f2,f3,f4,f5⟩:=hf it (by simp)
  exact wpAny_pyNext_range_end (I.ok.hd hc) st (by have:n<=i:=hg; omega) fun h' eb=>⟨rfl,I.turned (t':=s.toks) (fun b o hb e=>eb b o hb e) f0 f1 f3 f4 f5⟩
 self:=fun _ _ _ _ _ st h=>wpAny_pyIter_rangeiter st h
section
variable {X:Cx} {tg:Expr}
theorem Zew {pins:List (Addr×Obj)} {σ:St} {H:Hp} {s:Shared} {R:It->Hp->Prop} {E:Value->Shared->Prop} {lo hi:Int} {t u v:Tok} {tk:Nat} (I:Inv X pins σ H s) (h1:-(2 ^ 62)<=lo) (h2:lo < 2 ^ 62) (h3:-(2 ^ 62)<=hi) (h4:hi < 2 ^ 62)
  (q:R (Itr lo (hi-lo).toNat) H):wpAny (model X.prog X.w) X.A (pyIter (.ref s.heap.objs.size)) (PIE X pins σ tg R) E { s with heap:=s.heap.push { cls:=.type "range",data:=.fields #[.int lo t,.int hi u,.int 1 v] },toks:=tk }:=by
 refine wpAny_pyIter_range (IsRange.new ..) (small_one h1 h2 h3 h4) ?_
 have I1:Inv X pins σ H { s with heap:=s.heap.push { cls:=.type "range",data:=.fields #[.int lo t,.int hi u,.int 1 v] },toks:=tk }:=I.kept fun b o e=>Heap.get?_push_of_some _ e
 refine ⟨(s.heap.push { cls:=.type "range",data:=.fields #[.int lo t,.int hi u,.int 1 v] }).objs.size,[(s.heap.push { cls:=.type "range",data:=.fields #[.int lo t,.int hi u,.int 1 v] }).objs.size],_,_,H,rfl,
  I1.kept (t':=tk) fun b o e=>Heap.get?_push_of_some _ e,ZbN _ lo (hi-lo).toNat,?_,fun b hb=>?_,q⟩
 ·have e1:lo+((0:Nat):Int)*1=lo:=by simp
  have e2:(((hi-lo).toNat:Nat):Int)-((0:Nat):Int)=Builtin.Range.rangeSize lo hi 1:=by rw [rangeSize_one]; split <;> omega
  show IsRangeIter _ _ (lo+((0:Nat):Int)*1) ((((hi-lo).toNat:Nat):Int)-((0:Nat):Int)) 1
  rw [e1,e2]
  exact Heap.get?_push_size _ rfl
 ·have e:b=(s.heap.push { cls:=.type "range",data:=.fields #[.int lo t,.int hi u,.int 1 v] }).objs.size:=by simpa using hb
  subst e
  exact I1.fpOk (Nat.le_refl _) (I1.hok.fresh (Nat.le_refl _))
noncomputable def Zjt (ta:TA):TI:=fun σ H R=>ta σ H fun vs H1=>∃ j:Int,vs=[.int j]/\-(2 ^ 62)<=j/\j < 2 ^ 62/\R (Itr 0 j.toNat) H1
theorem Zc1 {a:Expr} {ta:TA} {p pos:Pos} (hg:Gl X "range") (hm:X.mg "range"=none) (ha:PA X [a] ta) (hs:starEach [a] X.env=[(false,eval a X.env)]:=by rfl):PI X tg (.Call (.Name "range" p) [a] [] pos) (Zjt ta):=by
 intro pins s σ H R I h
 refine Call_ (JH I hg hm boot_range (PyProof.Rows.callWith_type1 (thn (ha pos pins s σ H _ I h) fun us s1 zq=>?_) hs rfl))
 obtain ⟨vs,H1,I1,r1,q1⟩:=zq
 obtain ⟨j,e,q1,q2,q⟩:=q1
 subst e
 cases r1 with
 | cons r rr=>
  cases rr
  obtain ⟨t,rfl⟩:=r
  exact call_range_1 (Zew I1 (by omega) (by omega) q1 q2 (by simpa using q))
noncomputable def Zj9 (wi:TI) (g:TG) (tb:TS):TS:=fun D σ H=>wi σ H fun J H1=>∃ W:Nat->Nat->St->Hp->Prop,(∃ m,W 0 m σ H1)/\∀ i m σ H,W i m σ H ->
 (J.stop i H/\D.nx σ H)\/(J.go i H/\∃ N:St->Hp->Prop,(∀ σ' H',N σ' H'->∃ m',m' < m/\W (i+1) m' σ' H')/\∀ x H',J.yld i H x H'->g x σ H' fun σ2 H2=>tb { D with nx:=N,ct:=N,bk:=D.nx } σ2 H2)
noncomputable def WB (fp:List Addr) (h:Heap):List (Addr×Obj):=fp.filterMap fun b=>(h.get? b).map fun o=>(b,o)
theorem Jv {fp:List Addr} {h:Heap} {b:Addr} {o:Obj} (hb:b∈fp) (e:h.get? b=some o):(b,o)∈WB fp h:=List.mem_filterMap.mpr ⟨b,hb,by rw [e]; rfl⟩
theorem Zc9 {fp:List Addr} {h:Heap} {p:Addr×Obj} (hp:p∈WB fp h):p.1∈fp/\h.get? p.1=some p.2:=by
 obtain ⟨b,hb,e⟩:=List.mem_filterMap.mp hp
 cases q:h.get? b with
 | none=>rw [q] at e; cases e
 | some o=>
  rw [q] at e
  have e':(b,o)=p:=Option.some.inj e
  subst e'
  exact ⟨hb,q⟩
theorem Inv.pinned {pins:List (Addr×Obj)} {σ:St} {H:Hp} {s:Shared} {fp:List Addr} (I:Inv X pins σ H s) (hf:∀ b∈fp,Zao X pins H b) (ho:∀ b∈fp,∃ o,s.heap.get? b=some o/\∀ v,o.data≠.cell v):Inv X (pins++WB fp s.heap) σ H s:=
 I.pins_of fun p hp=>(List.mem_append.mp hp).elim (fun z=>I.pin p (List.mem_append_right _ z)) fun z=>by
  obtain ⟨hb,e⟩:=Zc9 z
  obtain ⟨f0,f1,f2,_⟩:=hf p.1 hb
  obtain ⟨o,e',d⟩:=ho p.1 hb
  rw [e] at e'; cases e'
  exact ⟨e,f0,f1,f2,d⟩
theorem Inv.unpinned {pins pl:List (Addr×Obj)} {σ:St} {H:Hp} {s:Shared} (I:Inv X (pins++pl) σ H s):Inv X pins σ H s:=I.pins_of fun p hp=>I.pin p (List.mem_append_right _ (List.mem_append_left _ hp))
theorem ZhK {iter:Expr} {body:List Stmt} {wi:TI} {g:TG} {tb:TS} {pos:Pos} (hp:PassesOwn (model X.prog X.w) X.A X.env X.xe) (hc:X.calm=true) (hi:PI X tg iter wi) (hg:PG X tg g) (hb:PSs X body tb)
  (hs:∀ x,foldedSetIterable iter X.env x=pure x:=by intro _; rfl):PS X (.For tg iter body [] pos) (Zj9 wi g tb):=by
 intro pins s σ H D I h
 refine wpAny_For (thn (hi pins s σ H _ I h) fun v s1 h1=>thn h1 fun itv s2 h2=>?_) hs
 obtain ⟨it,fp,tn,J,H2,e,I2,T,st2,f2,W,⟨m0,w0⟩,turn⟩:=h2
 subst e
 have stat:∀ {H':Hp},(∀ b∈fp,H' b=none)->∀ b∈fp,Zao X pins H' b:=fun hn b hb=>⟨hn b hb,(f2 b hb).2⟩
 refine codeAny_forLoop_any (fun n s'=>∃ i σ' H',Inv X pins σ' H' s'/\tn i s'.heap/\(∀ b∈fp,H' b=none)/\W i n σ' H') ?_ m0 ⟨0,σ,H2,I2,st2,fun b hb=>(f2 b hb).1,w0⟩
 rintro n s3 ⟨i,σ3,H3,I3,st3,fr3,w3⟩
 rcases turn i n σ3 H3 w3 with ⟨stop,qn⟩ | ⟨go,N,hN,step⟩
 ·refine wpAny_passesOwn hp (thn (T.done X rfl rfl rfl hc i pins s3 σ3 H3 X.xe I3 (stat fr3) st3 stop) fun r s4 zq=>?_)
  obtain ⟨hr,I4⟩:=zq
  subst hr
  exact wpAny_execs_nil ⟨σ3,H3,I4,qn⟩
 ·refine wpAny_passesOwn hp (thn (T.item X rfl rfl rfl hc i pins s3 σ3 H3 X.xe I3 (stat fr3) st3 go) fun r s4 zq=>?_)
  obtain ⟨u,hr,h4⟩:=zq
  subst hr
  refine wpAny_passesOwn hp (thn h4 fun _ s5 zq=>?_)
  obtain ⟨x,H5,I5,r5,y5,st5,fr5⟩:=zq
  have I5':=I5.pinned (stat fr5) (T.obj _ _ st5)
  refine wpAny_passesOwn hp (thn (hg _ s5 σ3 H5 x u _ I5' r5 (step x H5 y5)) fun _ s6 zq=>?_)
  obtain ⟨σ6,H6,I6,q6⟩:=zq
  refine wpAny_passesOwn hp (thn (hb _ s6 σ6 H6 _ I6 q6) fun f s7 q7=>?_)
  have again:∀ {σ7:St} {H7:Hp},Inv X (pins++WB fp s5.heap) σ7 H7 s7->N σ7 H7->∃ m,m < n/\∃ i σ' H',Inv X pins σ' H' s7/\tn i s7.heap/\(∀ b∈fp,H' b=none)/\W i m σ' H':=fun {σ7 H7} I7 n7=>by
   obtain ⟨m',hm,w7⟩:=hN σ7 H7 n7
   refine ⟨m',hm,i+1,σ7,H7,I7.unpinned,T.keep _ _ _ st5 fun b hb o e=>(I7.pin (b,o) (List.mem_append_right _ (List.mem_append_right _ (Jv hb e)))).1,fun b hb=>?_,w7⟩
   obtain ⟨o,e,d⟩:=T.obj _ _ st5 b hb
   exact (I7.pin (b,o) (List.mem_append_right _ (List.mem_append_right _ (Jv hb e)))).2.1
  cases f with
  | next=>obtain ⟨σ7,H7,I7,n7⟩:=q7; exact again I7 n7
  | cont=>obtain ⟨σ7,H7,I7,n7⟩:=q7; exact again I7 n7
  | brk=>obtain ⟨σ7,H7,I7,q7⟩:=q7; exact ⟨σ7,H7,I7.unpinned,q7⟩
  | ret v=>obtain ⟨x7,σ7,H7,I7,r7,q7⟩:=q7; exact ⟨x7,σ7,H7,I7.unpinned,r7,q7⟩
end
noncomputable abbrev R2:=V->V->Hp->VK->Prop
noncomputable def OpR (X:Cx) (f:Value->Value->Sem Value) (r:R2):Prop:=
 ∀ (pins:List (Addr×Obj)) (s:Shared) (σ:St) (H:Hp) (x y:V) (v u:Value) (Q:VK),Inv X pins σ H s->RelV x v->RelV y u->r x y H Q ->
  wpAny (model X.prog X.w) X.A (f v u) (EP X pins σ Q) X.xe s
noncomputable def UnR (X:Cx) (f:Value->Sem Value) (r:V->Hp->VK->Prop):Prop:=
 ∀ (pins:List (Addr×Obj)) (s:Shared) (σ:St) (H:Hp) (x:V) (v:Value) (Q:VK),Inv X pins σ H s->RelV x v->r x H Q ->
  wpAny (model X.prog X.w) X.A (f v) (EP X pins σ Q) X.xe s
noncomputable def Zam (X:Cx) (f:Value) (r:List V->Hp->VK->Prop):Prop:=
 ∀ (pins:List (Addr×Obj)) (s:Shared) (σ:St) (H:Hp) (xs:List V) (us:List Value) (Q:VK),Inv X pins σ H s->Vals xs us->r xs H Q ->
  wpAny (model X.prog X.w) X.A (call f us) (EP X pins σ Q) X.xe s
noncomputable def tOp (r:R2) (ta tb:TE):TE:=fun σ H Q=>ta σ H fun x H1=>tb σ H1 fun y H2=>r x y H2 Q
noncomputable def tUn (r:V->Hp->VK->Prop) (ta:TE):TE:=fun σ H Q=>ta σ H fun x H1=>r x H1 Q
noncomputable def rI (C:Int->Int->Prop) (g:Int->Int->V):R2:=fun x y H Q=>∃ i j,x=.int i/\y=.int j/\C i j/\Q (g i j) H
noncomputable def rI0 (g:Int->Int->V):R2:=fun x y H Q=>∃ i j,x=.int i/\y=.int j/\Q (g i j) H
noncomputable def rU (g:Int->V):V->Hp->VK->Prop:=fun x H Q=>∃ i,x=.int i/\Q (g i) H
section
variable {X:Cx} {a b c:Expr} {ta tb tc:TE} {pos:Pos}
theorem ZjD (ha:PE X a ta) (hb:PE X b tb) {pins:List (Addr×Obj)} {s:Shared} {σ:St} {H:Hp} {R:V->V->Hp->Prop} (I:Inv X pins σ H s)
  (h:ta σ H fun x H1=>tb σ H1 fun y H2=>R x y H2) {Q:Value->Shared->Prop} {f:Value->Value->Sem Value}
  (hf:∀ v u s2 x y H2,Inv X pins σ H2 s2->RelV x v->RelV y u->R x y H2->wpAny (model X.prog X.w) X.A (f v u) Q X.xe s2) :
  wpAny (model X.prog X.w) X.A (eval a X.env) (fun v s₁=>wpAny (model X.prog X.w) X.A (eval b X.env) (fun u s₂=>wpAny (model X.prog X.w) X.A (f v u) Q X.xe s₂) X.xe s₁) X.xe s:=by
 refine thn (ha pins s σ H _ I h) fun v s1 zq=>?_
 obtain ⟨x,H1,I1,r1,q1⟩:=zq
 refine thn (hb pins s1 σ H1 _ I1 q1) fun u s2 zq=>?_
 obtain ⟨y,H2,I2,r2,q2⟩:=zq
 exact hf v u s2 x y H2 I2 r1 r2 q2
theorem Zjf {op:Operator} {r:R2} (ho:OpR X (binaryOp op) r) (ha:PE X a ta) (hb:PE X b tb):PE X (.BinOp a op b pos) (tOp r ta tb):=by
 intro pins s σ H Q I h
 exact wpAny_BinOp (ZjD ha hb I h fun v u s2 x y H2 I2 rx ry q=>ho pins s2 σ H2 x y v u Q I2 rx ry q)
theorem ZhO {op:UnaryOp} {r:V->Hp->VK->Prop} (ho:UnR X (unaryOp op) r) (ha:PE X a ta):PE X (.UnaryOp op a pos) (tUn r ta):=by
 intro pins s σ H Q I h
 exact UnaryOp_ (thn (ha pins s σ H _ I h) fun v s1 ⟨x,H1,I1,r1,q1⟩=>ho pins s1 σ H1 x v Q I1 r1 q1)
theorem opI {f:Value->Value->Sem Value} {C:Int->Int->Prop} {g:Int->Int->Int}
  (rule:∀ (i j:Int) (t u:Tok) (s:Shared) (Q:Value->Shared->Prop) (E:Value->Shared->Prop),C i j->Q (.int (g i j) s.toks) { s with toks:=s.toks+1 }->wpAny (model X.prog X.w) X.A (f (.int i t) (.int j u)) Q E s) :
  OpR X f (rI C fun i j=>.int (g i j)):=by
 intro pins s σ H x y v u Q I rx ry h
 obtain ⟨i,j,rfl,rfl,hc,q⟩:=h
 obtain ⟨t,rfl⟩:=rx
 obtain ⟨t',rfl⟩:=ry
 exact rule i j t t' s _ _ hc ⟨.int (g i j),H,I.tok _,⟨_,rfl⟩,q⟩
theorem ZjL {f:Value->Value->Sem Value} {g:Int->Int->Int}
  (rule:∀ (i j:Int) (t u:Tok) (s:Shared) (Q:Value->Shared->Prop) (E:Value->Shared->Prop),Q (.int (g i j) s.toks) { s with toks:=s.toks+1 }->wpAny (model X.prog X.w) X.A (f (.int i t) (.int j u)) Q E s) :
  OpR X f (rI0 fun i j=>.int (g i j)):=by
 intro pins s σ H x y v u Q I rx ry h
 obtain ⟨i,j,rfl,rfl,q⟩:=h
 obtain ⟨t,rfl⟩:=rx
 obtain ⟨t',rfl⟩:=ry
 exact rule i j t t' s _ _ ⟨.int (g i j),H,I.tok _,⟨_,rfl⟩,q⟩
theorem ZiS {f:Value->Value->Sem Value} {g:Int->Int->Bool}
  (rule:∀ (i j:Int) (t u:Tok) (s:Shared) (Q:Value->Shared->Prop) (E:Value->Shared->Prop),Q (.bool (g i j)) s->wpAny (model X.prog X.w) X.A (f (.int i t) (.int j u)) Q E s) :
  OpR X f (rI0 fun i j=>.bl (g i j)):=by
 intro pins s σ H x y v u Q I rx ry h
 obtain ⟨i,j,rfl,rfl,q⟩:=h
 obtain ⟨t,rfl⟩:=rx
 obtain ⟨t',rfl⟩:=ry
 exact rule i j t t' s _ _ ⟨.bl (g i j),H,I,rfl,q⟩
noncomputable def CMul (i j:Int):Prop:=(-(2 ^ 64) < i/\i < 2 ^ 64)\/(-(2 ^ 64) < j/\j < 2 ^ 64)
theorem CMul.ok {i j:Int} (h:CMul i j):IntMulOk i j:=by
 rcases h with ⟨h1,h2⟩ | ⟨h1,h2⟩
 ·exact .of_left (intBits_le_64 h1 h2)
 ·exact .of_right (intBits_le_64 h1 h2)
theorem ZhY:OpR X (binaryOp .Add) (rI0 fun i j=>.int (i+j)):=ZjL fun _ _ _ _ _ _ _ q=>add_int q
theorem ZhV:OpR X (binaryOp .Sub) (rI0 fun i j=>.int (i-j)):=ZjL fun _ _ _ _ _ _ _ q=>sub_int q
theorem ZhW:OpR X (binaryOp .Mult) (rI CMul fun i j=>.int (i*j)):=opI fun _ _ _ _ _ _ _ hc q=>mul_int q hc.ok
theorem ZhX:OpR X (binaryOp .Mod) (rI (fun _ j=>0 < j) fun i j=>.int (i % j)):=opI fun i j _ _ _ _ _ hc q=>by
 have h1:(0:Int) < j:=hc
 exact mod_int' (by omega) (by rw [Int.fmod_eq_emod_of_nonneg i (by omega)]; exact q)
theorem unI {f:Value->Sem Value} {g:Int->Int}
  (rule:∀ (i:Int) (t:Tok) (s:Shared) (Q:Value->Shared->Prop) (E:Value->Shared->Prop),Q (.int (g i) s.toks) { s with toks:=s.toks+1 }->wpAny (model X.prog X.w) X.A (f (.int i t)) Q E s) :
  UnR X f (rU fun i=>.int (g i)):=by
 intro pins s σ H x v Q I rx h
 obtain ⟨i,rfl,q⟩:=h
 obtain ⟨t,rfl⟩:=rx
 exact rule i t s _ _ ⟨.int (g i),H,I.tok _,⟨_,rfl⟩,q⟩
theorem Zfu:UnR X (unaryOp .USub) (rU fun i=>.int (-i)):=unI fun _ _ _ _ _ q=>neg_int q
end
section
variable {X:Cx} {a b c:Expr} {ta tb tc:TE} {pos:Pos}
theorem Zjj:OpR X (compareOp .Lt) (rI0 fun i j=>.bl (decide (i < j))):=ZiS fun _ _ _ _ _ _ _ q=>lt_int q
theorem Zjk:OpR X (compareOp .LtE) (rI0 fun i j=>.bl (decide (i<=j))):=ZiS fun _ _ _ _ _ _ _ q=>le_int q
theorem Zjl:OpR X (compareOp .Gt) (rI0 fun i j=>.bl (decide (j < i))):=ZiS fun _ _ _ _ _ _ _ q=>gt_int q
theorem Zjm:OpR X (compareOp .GtE) (rI0 fun i j=>.bl (decide (j<=i))):=ZiS fun _ _ _ _ _ _ _ q=>ge_int q
theorem YE (b:Expr) {op:CmpOp} (h:op≠.In:=by decide) (h2:op≠.NotIn:=by decide):behindInMarks op b=false:=by
 have e1:(op==CmpOp.In)=false:=by cases op <;> first | rfl | exact absurd rfl h
 have e2:(op==CmpOp.NotIn)=false:=by cases op <;> first | rfl | exact absurd rfl h2
 cases b <;> simp [behindInMarks,e1,e2]
theorem Zgz {op:CmpOp} {r:R2} (ho:OpR X (compareOp op) r) (ha:PE X a ta) (hb:PE X b tb) (hm:behindInMarks op b=false):PE X (.Compare a [op] [b] pos) (tOp r ta tb):=by
 intro pins s σ H Q I h
 exact wpAny_Compare1 (ZjD ha hb I h fun v u s2 x y H2 I2 rx ry q=>ho pins s2 σ H2 x y v u Q I2 rx ry q) hm
noncomputable def Zi2 (t:TE):TT:=fun σ H Q=>t σ H fun x H'=>∃ k,x=.bl k/\Q k H'
theorem Zgr {op:CmpOp} {r:R2} (ho:OpR X (compareOp op) r) (ha:PE X a ta) (hb:PE X b tb) (hm:behindInMarks op b=false):PT X (.Compare a [op] [b] pos) (Zi2 (tOp r ta tb)):=by
 intro pins s σ H Q I h
 refine wpAny_isTrue_Compare1 (thn (ha pins s σ H _ I h) fun v s1 ⟨x,H1,I1,r1,q1⟩=>thn (hb pins s1 σ H1 _ I1 q1) fun u s2 ⟨y,H2,I2,r2,q2⟩=>
  thn (ho pins s2 σ H2 x y v u _ I2 r1 r2 q2) fun c s3 ⟨z,H3,I3,r3,k,e,q3⟩=>?_) hm
 subst e
 cases r3
 exact wpAny_truthy_bool ⟨H3,I3,q3⟩
theorem WK:(sizeLine:Nat) < 2 ^ 63:=by rw [sizeLine_eq]; decide
theorem ZbZ:OpR X (binaryOp .Add) (fun x y H Q=>∃ i j,x=.str i/\y=.str j/\i.length+j.length<=sizeLine/\Q (.str (i++j)) H):=by
 intro pins s σ H x y v u Q I rx ry h
 obtain ⟨i,j,rfl,rfl,hz,q⟩:=h
 obtain ⟨t,rfl⟩:=rx
 obtain ⟨t',rfl⟩:=ry
 exact add_str (fun t' tk=>⟨.str (i++j),H,I.tok _,⟨_,rfl⟩,q⟩) hz
theorem Wn {x:V} {us:List Value} (r:Vals [x] us):∃ u,us=[u]/\RelV x u:=by
 cases r with
 | cons r1 r2=>cases r2; exact ⟨_,rfl,r1⟩
theorem Zfi:Zam X (.builtin "abs") (fun xs H Q=>∃ i,xs=[.int i]/\Q (.int (if i < 0 then -i else i)) H):=by
 intro pins s σ H xs us Q I r h
 obtain ⟨i,rfl,q⟩:=h
 obtain ⟨u,rfl,t,rfl⟩:=Wn r
 exact call_abs_int fun u tk=>⟨.int (if i < 0 then -i else i),H,I.tok _,⟨_,rfl⟩,q⟩
end
section
variable {prog:Program} {w:World} {A:Around} {E:Value->Shared->Prop} {s:Shared} {K:PySem.W.Frag} {x dx C f:Addr} {mA:Str->Option Value} {name:Str} {v:Value}
end
section
variable {P:Program} {w:World} {H H':Hp} {h h':Heap} {a C dx:Addr} {fs fs':List (Str×V)}
end
section
variable {X:Cx} {pins:List (Addr×Obj)} {σ:St} {H:Hp} {s:Shared} {a C dx:Addr} {fs:List (Str×V)} {f:Str} {v:V} {A:Around} {E:Value->Shared->Prop}
end
section
variable {X:Cx} {o e value:Expr} {f:Str} {pos pos' tpos:Pos} {ta tv:TE}
end
section
variable {X:Cx} {pins:List (Addr×Obj)} {σ:St} {H:Hp} {s:Shared} {A:Around} {E:Value->Shared->Prop} {Q:Value->Shared->Prop} {c:Value} {b:Bool}
end
structure Room (k:Nat) (A:Around):Prop where
 hd:A.handled=none
 dp:A.depth+3*k+5 < recursionLimit
 un:A.units+16*k+200 < cLine
theorem Room.mono {j k:Nat} {A:Around} (r:Room k A) (h:j<=k):Room j A:=⟨r.hd,by have:=r.dp; omega,by have:=r.un; omega⟩
theorem Room.deeper {k:Nat} {A:Around} (r:Room (k+1) A) (env:Env):Room k (A.deeper env):=
 ⟨r.hd,by have:=r.dp; show A.depth+1+3*k+5 < _; omega,by have:=r.un; show A.units+3+16*k+200 < _; omega⟩
theorem Room.depth {k:Nat} {A:Around} (r:Room k A):A.depth < recursionLimit:=by have:=r.dp; omega
theorem Room.units {k:Nat} {A:Around} (r:Room k A):A.units+64 < cLine:=by have:=r.un; omega
noncomputable def Zj5:TA:=fun _ H Q=>Q [] H
noncomputable def Zi7 (ta:TE) (tr:TA):TA:=fun σ H Q=>ta σ H fun x H1=>tr σ H1 fun xs H2=>Q (x::xs) H2
section
variable {X:Cx} {e:Expr} {es:List Expr} {te:TE} {t:TA} {pos:Pos}
theorem Zc6:PA X [] Zj5:=fun _ _ _ _ H Q I h=>Calls.spliced_nil ⟨[],H,I,.nil,h⟩
theorem Zaz (ha:PE X e te) (hr:PA X es t) (hs:starEach (e::es) X.env=(false,eval e X.env)::starEach es X.env:=by rfl):PA X (e::es) (Zi7 te t):=by
 intro pos pins s σ H Q I h
 rw [hs]
 show wpAny _ _ (spliced ((false,eval e X.env)::backTo pos (starEach es X.env))) _ _ s
 refine Calls.spliced_cons (thn (ha pins s σ H _ I h) fun u s1 zq=>?_)
 obtain ⟨x,H1,I1,r1,q1⟩:=zq
 exact thn (hr pos pins s1 σ H1 _ I1 q1) fun us s2 ⟨xs,H2,I2,r2,q2⟩=>⟨x::xs,H2,I2,.cons r1 r2,q2⟩
noncomputable def Zj1 (t:TA):TE:=fun σ H Q=>t σ H fun xs H1=>xs.length<=sizeLine/\∀ p,H1 p=none->Q (.ref p) (upd H1 p (.tup xs))
noncomputable def Zj6 (t:TA):TE:=fun σ H Q=>t σ H fun xs H1=>xs.length<=sizeLine/\∀ p,H1 p=none->Q (.ref p) (upd H1 p (.lst xs))
theorem ZhP {x1} (h:PA X es t):PE X (.Tuple es x1 pos) (Zj1 t):=by
 intro pins s σ H Q I hq
 refine wpAny_Tuple_spliced (thn (h pos pins s σ H _ I hq) fun us s1 ⟨xs,H1,I1,r,z,q⟩=>⟨by rw [<-r.length]; exact z,?_⟩)
 have hf:H1 s1.heap.objs.size=none:=I1.hok.fresh (Nat.le_refl _)
 refine ⟨.ref s1.heap.objs.size,upd H1 s1.heap.objs.size (.tup xs),I1.laid (t':=s1.toks) (fun b u e=>Heap.get?_push_of_some _ e) (Nat.le_refl _) ?_,rfl,q _ hf⟩
 exact ⟨z,us,r,⟨_,Heap.get?_push_size _ rfl,rfl,rfl,_,rfl⟩⟩
theorem ZhR (h:PA X es t):PE X (.List es pos) (Zj6 t):=by
 intro pins s σ H Q I hq
 refine wpAny_List_spliced (thn (h pos pins s σ H _ I hq) fun us s1 ⟨xs,H1,I1,r,z,q⟩=>⟨by rw [<-r.length]; exact z,?_⟩)
 have hf:H1 s1.heap.objs.size=none:=I1.hok.fresh (Nat.le_refl _)
 refine ⟨.ref s1.heap.objs.size,upd H1 s1.heap.objs.size (.lst xs),I1.laid (t':=s1.toks) (fun b u e=>Heap.get?_push_of_some _ e) (Nat.le_refl _) ?_,rfl,q _ hf⟩
 exact ⟨z,us,0,r,Heap.get?_push_size _ rfl⟩
end
noncomputable abbrev Sp:=List V->Hp->VK->XK->Prop
noncomputable abbrev CXT:=List Env->Hp->Shared->XK->Value->Shared->Prop
structure ZiX (P:Program) (w:World) (K:PySem.W.Frag) (mg:Str->Option Value) (base:Heap) (A:Around) (outer:List Env) (s:Shared) (H:Hp):Prop where
 frames:A.frames=some outer
 mod:Mod K mg base
 bs:∀ b o,base.get? b=some o->s.heap.get? b=some o/\H b=none
 bsz:base.objs.size<=s.heap.objs.size
 funs:s.heap.FunFrames base outer
 frf:∀ b∈frs outer,H b=none
 hok:HOk P w H s.heap
 bare:AllBare s.gens
noncomputable def CE (outer:List Env) (P:Program) (w:World) (H:Hp) (s:Shared) (Q:VK) (u:Value) (s':Shared):Prop:=
 ∃ v H',s'.os=s.os/\AllBare s'.gens/\Un (frs outer) [] H H' s.heap s'.heap/\HOk P w H' s'.heap/\RelV v u/\Q v H'
noncomputable def CR (CX:CXT) (outer:List Env) (P:Program) (w:World) (H:Hp) (s:Shared) (Q:VK) (E:XK) (r:Result) (s':Shared):Prop:=
 match r with
 | .ok (.ret u)=>CE outer P w H s Q u s'
 | .ok _=>False
 | .error e=>CX outer H s E e s'
structure Zfq (P:Program) (w:World) (K:PySem.W.Frag) (mg:Str->Option Value) (base:Heap) (CX:CXT) (k:Nat) (f:Addr) (fd:FuncData) (ps:List Str) (sp:Sp):Prop where
 len:∀ vs H Q E,sp vs H Q E->vs.length=ps.length
 run:∀ (A:Around) (outer:List Env) (s:Shared) (H:Hp) (args:Args) (us:List Value) (vs:List V) (Q:VK) (E:XK),Room k A->ZiX P w K mg base A outer s H->BindsTo s fd args (ps.zip us)->Vals vs us->sp vs H Q E ->
  codeAny (model P w) A (.call (.ref f) args) (CR CX outer P w H s Q E) s
section
variable {X:Cx} {pins:List (Addr×Obj)} {σ:St} {H:Hp} {s s':Shared}
theorem Inv.env0 (I:Inv X pins σ H s):ZiX X.prog X.w X.K X.mg X.base X.A X.stack s H:=
 ⟨I.ok.frames,I.ok.mod,I.bs,Nat.le_trans I.ok.bsz I.sz,I.stack,I.stkFree,I.hok,I.bare⟩
theorem Inv.after {Q:VK} {u:Value} (I:Inv X pins σ H s) (h:CE X.stack X.prog X.w H s Q u s'):EP X pins σ Q u s':=by
 obtain ⟨v,H',os,bare,un,hok,r,q⟩:=h
 obtain ⟨hh,g,d,t,os'⟩:=s'
 obtain rfl:os'=s.os:=os
 exact ⟨v,H',I.call (h':=hh) (g':=g) (d':=d) (t':=t) (ch:=[]) un hok bare (fun b z=>absurd z (by simp)),r,q⟩
end
noncomputable def Zi8 (sp:Sp) (dvs:List V) (E:XK) (t:TA):TE:=fun σ H Q=>t σ H fun vs H1=>sp (vs++dvs) H1 Q E
noncomputable def Binds (K:PySem.W.Frag) (fd:FuncData) (ps:List Str) (ds:List Value):Prop:=
 ∀ (s:Shared) (us:List Value),K.In s.heap->(us++ds).length=ps.length->BindsTo s fd ⟨us,[]⟩ (ps.zip (us++ds))
theorem Binds.all {K:PySem.W.Frag} {fd:FuncData} {ps:List Str} (h:∀ us:List Value,us.length=ps.length->bindArgs fd ⟨us,[]⟩=pure (ps.zip us)):Binds K fd ps []:=fun s us _ hl=>by
 rw [List.append_nil] at hl ⊢
 exact .of_eq (h us hl)
noncomputable def Zeb (CX:CXT) (X:Cx) (E:XK):Prop:=∀ (pins:List (Addr×Obj)) (σ:St) (H:Hp) (s:Shared) (e:Value) (s':Shared),Inv X pins σ H s->CX X.stack H s E e s'->X.xe e s'
section
variable {X:Cx} {CX:CXT} {k:Nat} {f C:Addr} {fd:FuncData} {ps:List Str} {sp:Sp} {dvs:List V} {ds:List Value} {E:XK} {x m:Str} {p pos apos:Pos} {e o:Expr} {es:List Expr} {ta:TE} {t:TA}
theorem ZhB {pins:List (Addr×Obj)} {σ:St} {H:Hp} {s:Shared} {Q:VK} {us:List Value} {vs:List V} (F:Zfq X.prog X.w X.K X.mg X.base CX k f fd ps sp) (hr:Room k X.A) (hb:Binds X.K fd ps ds) (hd:Vals dvs ds) (hx:Zeb CX X E)
  (I:Inv X pins σ H s) (r:Vals vs us) (h:sp (vs++dvs) H Q E):wpAny (model X.prog X.w) X.A (call (.ref f) us) (EP X pins σ Q) X.xe s:=by
 have r2:Vals (vs++dvs) (us++ds):=r.append hd
 have hl:(us++ds).length=ps.length:=by rw [<-r2.length]; exact F.len _ _ _ _ h
 refine wpAny_call (codeAny_mono (F.run X.A X.stack s H ⟨us,[]⟩ (us++ds) (vs++dvs) Q E hr I.env0 (hb s us I.kIn hl) r2 h) fun r s' hq=>?_)
 cases r with
 | error e=>exact hx pins σ H s e s' I hq
 | ok fl=>
  cases fl with
  | ret u=>exact I.after hq
  | next=>exact False.elim hq
  | brk=>exact False.elim hq
  | cont=>exact False.elim hq
theorem ZgA (F:Zfq X.prog X.w X.K X.mg X.base CX k f fd ps sp) (hr:Room k X.A) (hg:Gl X x) (hm:X.mg x=some (.ref f)) (hk:PySem.W.keepIn X.K (.ref f)=true) (hb:Binds X.K fd ps ds) (hd:Vals dvs ds) (hx:Zeb CX X E)
  (ha:PA X (e::es) t) (hdb:(x==("__debug__":Str))=false:=by decide) (he:starEach (e::es) X.env=(false,eval e X.env)::starEach es X.env:=by rfl) (hpl:(backTo pos (starEach es X.env)).any (·.1)=false:=by rfl) :
  PE X (.Call (.Name x p) (e::es) [] pos) (Zi8 sp dvs E t):=by
 intro pins s σ H Q I h
 refine wpAny_Call_Name_kw (Zdl I hg hm ?_ hdb)
 refine PySem.W.callWith_K (h₀:=X.base) I.ok.mod.kin hk (thn (ha pos pins s σ H _ I h) fun us s1 ⟨vs,H1,I1,r,q⟩=>⟨I1.kIn,?_⟩) he hpl
 exact ZhB F hr hb hd hx I1 r q
end
section
variable {X:Cx} {CX:CXT} {k:Nat} {f C:Addr} {fd:FuncData} {ps ks:List Str} {sp:Sp} {E:XK} {x m:Str} {p pos apos kpos:Pos} {e o:Expr} {es:List Expr} {kws:List Keyword} {te ta:TE} {t tk:TA} {nm:Option Str}
variable {g:List Value->List Value->List Value} {gV:List V->List V->List V}
end
structure Zx (N P:List Str) (sc:Scope):Prop where
 kind:sc.kind=.function
 co:sc.isCoroutine=false
 gen:sc.isGenerator=false
 nd:N.Nodup
 pre:N.take P.length=P
 par:∀ x∈P,sc.names.lookup x=some .local\/sc.names.lookup x=some .cell
 nofree:∀ y∈sc.names,y.2≠.free
theorem W9 {kindOf:Str->Option NameKind} {x:Str}:∀ {binds:List (Str×Value)} {m:Str->Option Value},(∀ v,(x,v) ∉ binds)->bindL kindOf binds m x=m x
 | [],_,_=>rfl
 | (n,v)::r,m,h=>by
  unfold bindL
  rw [W9 fun w hw=>h w (List.mem_cons_of_mem _ hw)]
  split
  ·have:x≠n:=by rintro rfl; exact h v List.mem_cons_self
   simp [this]
  ·rfl
theorem Zab {kindOf:Str->Option NameKind} {x:Str}:∀ {binds:List (Str×Value)} {m:Str->Option Value},(∀ v,(x,v) ∉ binds)->bindC kindOf binds m x=m x
 | [],_,_=>rfl
 | (n,v)::r,m,h=>by
  unfold bindC
  rw [Zab fun w hw=>h w (List.mem_cons_of_mem _ hw)]
  split
  ·rfl
  ·have:x≠n:=by rintro rfl; exact h v List.mem_cons_self
   simp [this]
theorem Zaa {kindOf:Str->Option NameKind} {x:Str} {v:Value}:∀ {P:List Str} {vs:List Value} {i:Nat} {m:Str->Option Value},P.Nodup->P[i]?=some x->vs[i]?=some v->kindOf x=some .local ->
  bindL kindOf (P.zip vs) m x=some v
 | [],_,_,_,_,h,_,_=>by simp at h
 | _::_,[],_,_,_,_,h,_=>by simp at h
 | p::P,w::vs,0,m,nd,h1,h2,hk=>by
  simp at h1 h2; subst h1; subst h2
  show bindL kindOf ((p,w)::P.zip vs) m p=_
  unfold bindL
  rw [W9 fun v hv=>(List.nodup_cons.mp nd).1 (List.of_mem_zip hv).1,if_pos hk]
  simp
 | p::P,w::vs,i+1,m,nd,h1,h2,hk=>by
  show bindL kindOf ((p,w)::P.zip vs) m x=_
  unfold bindL
  exact Zaa (i:=i) (List.nodup_cons.mp nd).2 (by simpa using h1) (by simpa using h2) hk
theorem Zac {kindOf:Str->Option NameKind} {x:Str} {v:Value}:∀ {P:List Str} {vs:List Value} {i:Nat} {m:Str->Option Value},P.Nodup->P[i]?=some x->vs[i]?=some v->kindOf x≠some .local ->
  bindC kindOf (P.zip vs) m x=some v
 | [],_,_,_,_,h,_,_=>by simp at h
 | _::_,[],_,_,_,_,h,_=>by simp at h
 | p::P,w::vs,0,m,nd,h1,h2,hk=>by
  simp at h1 h2; subst h1; subst h2
  show bindC kindOf ((p,w)::P.zip vs) m p=_
  unfold bindC
  rw [Zab fun v hv=>(List.nodup_cons.mp nd).1 (List.of_mem_zip hv).1,if_neg hk]
  simp
 | p::P,w::vs,i+1,m,nd,h1,h2,hk=>by
  show bindC kindOf ((p,w)::P.zip vs) m x=_
  unfold bindC
  exact Zac (i:=i) (List.nodup_cons.mp nd).2 (by simpa using h1) (by simpa using h2) hk
noncomputable def start (N:List Str) (vs:List V):St:=vs.map some++List.replicate (N.length-vs.length) none
noncomputable def ZfY (CX:CXT) (P:Program) (w:World) (K:PySem.W.Frag) (mg:Str->Option Value) (base:Heap) (N:List Str) (qual:Str) (scope:Scope) (f:Addr) (cd:Value) (A:Around) (outer:List Env) (s:Shared) (H:Hp) (E:XK):Cx where
 prog:=P
 w:=w
 K:=K
 mg:=mg
 base:=base
 A:=A.deeper (envOfC qual scope s.heap.objs.size f cd)
 N:=N
 s₀:=s
 H₀:=H
 env:=envOfC qual scope s.heap.objs.size f cd
 outer:=outer
 stack:=envOfC qual scope s.heap.objs.size f cd::outer
 ex:=[]
 calm:=true
 fn:=fun _=>true
 pn:=[]
 xe:=fun e s'=>wpAny (model P w) (A.deeper (envOfC qual scope s.heap.objs.size f cd)) (leaving (envOfC qual scope s.heap.objs.size f cd) e) (fun _ s''=>CX outer H s E e s'') (fun e' s''=>CX outer H s E e' s'') s'
theorem ZbF {sc:Scope} {n:Nat} {x:Str} (h:sc.names.lookup x=some .cell):∃ c,(cellsFrom n sc.names []).lookup x=some c:=by
 have q:=PySem.W.cellsFrom_some sc.names n [] (.inl h)
 exact Option.isSome_iff_exists.mp q
theorem Zdp {CX:CXT} {P:Program} {w:World} {K:PySem.W.Frag} {mg:Str->Option Value} {base:Heap} {N ps:List Str} {qual:Str} {scope:Scope} {f:Addr} {cd:Value} {A:Around} {outer:List Env} {s s1:Shared} {H:Hp} {E:XK} {us:List Value} {vs:List V}
  (S:Zx N ps scope) (hd:A.handled=none) (e0:ZiX P w K mg base A outer s H) (hl:vs.length=ps.length) (r:Vals vs us)
  (x:InCallC s s.heap.objs.size (bindL (envOfC qual scope s.heap.objs.size f cd).kindOf (ps.zip us) fun _=>none) (cellsFrom (s.heap.objs.size+1) scope.names []) (bindC (envOfC qual scope s.heap.objs.size f cd).kindOf (ps.zip us) fun _=>none) s1) :
  Inv (ZfY CX P w K mg base N qual scope f cd A outer s H E) [] (start N vs) H s1:=by
 have hpl:ps.length<=N.length:=by have:=congrArg List.length S.pre; rw [List.length_take] at this; omega
 obtain ⟨h1,tk,rfl,hk⟩:=x.done
 have noA:∀ b:Addr,b ∉ (ZfY CX P w K mg base N qual scope f cd A outer s H E).ex:=fun b z=>absurd (show b∈([]:List Addr) from z) (by simp)
 refine ⟨⟨e0.mod,S.kind,rfl,rfl,Nat.le_refl _,fun y z c h1 h2=>?_,fun y hy=>?_,fun y c _ h=>?_,fun _=>hd,Around.frames_deeper e0.frames,.inr ⟨rfl,rfl⟩,fun b z=>absurd z (noA b),e0.bs,e0.bsz,fun b _ _=>noA b,fun b z=>absurd z (noA b),e0.funs,e0.frf⟩,
  rfl,e0.bare,Un.kept hk,⟨_,x.toInCall.ns,fun i y v h1 h2 h3=>?_⟩,fun y c h=>⟨_,x.cell y c h⟩,e0.hok.fresh (Nat.le_refl _),fun y c h=>?_,fun p hp=>absurd (show p∈([]:List (Addr×Obj)) from hp) (by simp),e0.hok.kept hk,?_⟩
 ·exact name_of_addr x.apart (PySem.mem_of_lookup h1) (PySem.mem_of_lookup h2)
 ·have hy:scope.names.lookup y=some .cell\/scope.names.lookup y=some .free:=hy
  rcases hy with hy | hy
  ·exact ZbF hy
  ·exact absurd rfl (S.nofree _ (PySem.mem_of_lookup hy))
 ·exact Nat.le_of_lt (x.above y c (PySem.mem_of_lookup h))
 ·have hi:i < vs.length:=by
   unfold start at h2
   by_cases hi:i < vs.length
   ·exact hi
   ·rw [List.getElem?_append_right (by simpa using hi)] at h2
    rw [List.getElem?_replicate] at h2
    split at h2 <;> cases h2
  have ha:vs[i]?=some v:=by
   unfold start at h2
   rw [List.getElem?_append_left (by simpa using hi),List.getElem?_map] at h2
   cases e:vs[i]? with
   | none=>rw [e] at h2; cases h2
   | some a=>rw [e] at h2; cases h2; rfl
  obtain ⟨u,hu,rv⟩:=r.get ha
  have hp:ps[i]?=some y:=by
   rw [<-S.pre,List.getElem?_take_of_lt (by omega)]; exact h1
  have ndP:ps.Nodup:=by rw [<-S.pre]; exact S.nd.sublist (List.take_sublist _ _)
  refine ⟨u,rv,?_⟩
  rcases S.par y (List.mem_of_getElem? hp) with k | k
  ·exact .inl ⟨k,Zaa ndP hp hu k⟩
  ·obtain ⟨c,e⟩:=ZbF (n:=s.heap.objs.size+1) k
   refine .inr ⟨.inl k,c,e,?_⟩
   have q:=x.cell y c e
   rw [Zac ndP hp hu (by show scope.names.lookup y≠_; rw [k]; decide)] at q
   exact q
 ·exact e0.hok.fresh (Nat.le_of_lt (x.above y c (PySem.mem_of_lookup h)))
 ·unfold start
  show _=N.length
  rw [List.length_append,List.length_map,List.length_replicate]
  omega
theorem Zjx {CX:CXT} {P:Program} {w:World} {K:PySem.W.Frag} {mg:Str->Option Value} {base:Heap} {k:Nat} {f:Addr} {name qual:Str} {params:Arguments} {body:List Stmt} {scope:Scope} {dV kV doc pm cdv ct oc:Value} {an od:Option Addr}
  {osl:Array (Option Value)} {N ps:List Str} {sp:Sp} (lk:K.lookup f=some ⟨oc,od,.func (PySem.W.fnOf name qual params body scope dV kV doc pm an cdv ct),osl⟩) (hcd:PySem.W.codeIn K cdv qual=true) (S:Zx N ps scope)
  (len:∀ vs H Q E,sp vs H Q E->vs.length=ps.length)
  (hbody:∀ (A:Around) (outer:List Env) (s:Shared) (H:Hp) (vs:List V) (Q:VK) (E:XK),Room k (A.deeper (envOfC qual scope s.heap.objs.size f cdv))->sp vs H Q E ->
   ∃ t,PSs (ZfY CX P w K mg base N qual scope f cdv A outer s H E) body t/\t { nx:=fun _ H'=>Q .non H',rt:=Q } (start N vs) H) :
  Zfq P w K mg base CX (k+1) f (PySem.W.fnOf name qual params body scope dV kV doc pm an cdv ct) ps sp:=by
 refine ⟨len,fun A outer s H args us vs Q E hr e0 hb r hsp=>?_⟩
 have hl:=len _ _ _ _ hsp
 have KX:K.In s.heap:=e0.mod.kin.keeps fun b o e=>(e0.bs b o e).1
 have lim:s.heap.NoLimit:=e0.mod.nolimit.keeps fun b o e=>(e0.bs b o e).1
 have hkind:∀ y∈ps.zip us,scope.names.lookup y.1=some .local\/(scope.names.lookup y.1=some .cell/\((cellsFrom (s.heap.objs.size+1) scope.names []).lookup y.1).isSome=true):=fun ⟨n,v⟩ hy=>by
  rcases S.par n (List.of_mem_zip hy).1 with q | q
  ·exact .inl q
  ·exact .inr ⟨q,PySem.W.cellsFrom_some _ _ _ (.inl q)⟩
 refine codeAny_call_function hr.depth (KX _ _ lk) rfl S.co S.gen rfl (PySem.W.codeRec_of KX hcd) (hb _ _ _ _ ?_)
 refine wpAny_newFunctionEnv_cells S.kind hkind fun env he s1 x=>?_
 subst he
 refine ⟨lim.keeps x.toInCall.keep,codeAny_func ?_⟩
 obtain ⟨t,ht,hq⟩:=hbody A outer s H vs Q E (hr.deeper _) hsp
 have I:Inv (ZfY CX P w K mg base N qual scope f cdv A outer s H E) [] (start N vs) H s1:=Zdp S hr.hd e0 hl r x
 refine wpAny_mono (ht [] s1 (start N vs) H _ I hq) (fun fl s' hs=>?_) fun e s' hs=>hs
 have fin:∀ {σ':St} {H':Hp} {v:V} {u:Value},Inv (ZfY CX P w K mg base N qual scope f cdv A outer s H E) [] σ' H' s'->RelV v u->Q v H'->CE outer P w H s Q u s':=
  fun {σ' H' v u} J rv q=>⟨v,H',J.os,J.bare,J.base,J.hok,rv,q⟩
 cases fl with
 | ret u=>
  obtain ⟨v,σ',H',J,rv,q⟩:=hs
  exact fin J rv q
 | next=>
  obtain ⟨σ',H',J,q⟩:=hs
  exact fin (v:=V.non) (u:=Value.none) J rfl q
 | brk=>
  obtain ⟨_,_,_,q⟩:=hs
  exact False.elim q
 | cont=>
  obtain ⟨_,_,_,q⟩:=hs
  exact False.elim q
section
variable {X:Cx} {x:Str} {p pos:Pos} {e:Expr} {es:List Expr} {t:TA} {id T:String} {r:List V->Hp->VK->Prop}
noncomputable def tCB (r:List V->Hp->VK->Prop) (t:TA):TE:=fun σ H Q=>t σ H fun vs H1=>r vs H1 Q
theorem ZeD (hc:Zam X (.builtin id) r) (hg:Gl X x) (hm:X.mg x=none) (hv:bootBuiltins x=some (.builtin id)) (ha:PA X (e::es) t) (hn:x≠"__name__":=by decide) (hdb:(x==("__debug__":Str))=false:=by decide)
  (he:starEach (e::es) X.env=(false,eval e X.env)::starEach es X.env:=by rfl) (hpl:(backTo pos (starEach es X.env)).any (·.1)=false:=by rfl):PE X (.Call (.Name x p) (e::es) [] pos) (tCB r t):=by
 intro pins s σ H Q I h
 refine wpAny_Call_Name_kw (JH I hg hm hv ?_ hn hdb)
 exact PyProof.Rows.callWith_builtin1 (thn (ha pos pins s σ H _ I h) fun us s1 ⟨vs,H1,I1,r1,q1⟩=>hc pins s1 σ H1 vs us Q I1 r1 q1) he hpl
theorem Zc3 (hc:Zam X (.type T) r) (hg:Gl X x) (hm:X.mg x=none) (hv:bootBuiltins x=some (.type T)) (ha:PA X (e::es) t) (hn:x≠"__name__":=by decide) (hdb:(x==("__debug__":Str))=false:=by decide)
  (he:starEach (e::es) X.env=(false,eval e X.env)::starEach es X.env:=by rfl) (hpl:(backTo pos (starEach es X.env)).any (·.1)=false:=by rfl):PE X (.Call (.Name x p) (e::es) [] pos) (tCB r t):=by
 intro pins s σ H Q I h
 refine wpAny_Call_Name_kw (JH I hg hm hv ?_ hn hdb)
 exact PyProof.Rows.callWith_type1 (thn (ha pos pins s σ H _ I h) fun us s1 ⟨vs,H1,I1,r1,q1⟩=>hc pins s1 σ H1 vs us Q I1 r1 q1) he hpl
end
end L2
namespace HT
open PySem PyProof.Rows
noncomputable def lexLt:List Int->List Int->Bool
 | [],[]=>false
 | [],_::_=>true
 | _::_,[]=>false
 | x::xs,y::ys=>if x=y then lexLt xs ys else decide (x < y)
theorem lexLt_cons (x y:Int) (xs ys:List Int):lexLt (x::xs) (y::ys)=if x=y then lexLt xs ys else decide (x < y):=rfl
theorem lexLt_nil_nil:lexLt [] []=false:=rfl
theorem U2 (y:Int) (ys:List Int):lexLt [] (y::ys)=true:=rfl
theorem U3 (x:Int) (xs:List Int):lexLt (x::xs) []=false:=rfl
theorem Ze4 (A:Around) (s:Shared) (a:Int) (t:Tok) (c:Int) (u:Tok):∃ e,SeqAt.EqAt A s (.int a t) (.int c u) e/\(e=true ↔ a=c):=
 ⟨(a==c),SeqAt.EqAt.int_int a t c u,by simp⟩
theorem rcLt_int (A:Around) (s:Shared) (a:Int) (t:Tok) (c:Int) (u:Tok) (prog:Program) (w:World) (E:Value->Shared->Prop) (Q:Value->Shared->Prop) (h:Q (.bool (decide (a < c))) s) :
  wpAny (model prog w) A (richCompare .Lt (.int a t) (.int c u)) Q E s:=
 (PyProof.Rows.lt_int h:wpAny (model prog w) A (compareOp .Lt (.int a t) (.int c u)) Q E s)
section
open PySem.SeqAt
open PySem.AutoSeq1 (wpAny_loadPart')
open PySem.MeetsSeq PySem.MeetsSeq2 PySem.MeetsSeq3
theorem Vx (l b:Addr) (items items2:Array Value) (n n2:Nat) (dd dd2:Option Addr) (sl sl2:Array (Option Value)) (ns ms:List Int) (hi:IntsAre items.toList ns) (hj:IntsAre items2.toList ms) :
  Meets (Builtin.«tuple.__lt__» ⟨[.ref l,.ref b],[]⟩)
   (fun _ R s=>s.heap.get? l=some { cls:=.type "tuple",dict:=dd,data:=.seq items n,slots:=sl }/\s.heap.get? b=some { cls:=.type "tuple",dict:=dd2,data:=.seq items2 n2,slots:=sl2 } /\
    R (.ok (.ret (.bool (lexLt ns ms)))) s):=
 .of_wp fun prog w A R s h=>by
  obtain ⟨hp,g,d,tk,os⟩:=s; obtain ⟨hl,hb,h⟩:=h
  have f2:=AutoSeq1.sub_tuple_tuple
  have z1:items.size=ns.length:=by rw [<-hi.length]; simp
  have z2:items2.size=ms.length:=by rw [<-hj.length]; simp
  wp_walk using wpAny_loadPart' hl,wpAny_loadPart' hb,wpAny_forIn_list _ (fun rest b s'=>b.1=none/\s'=⟨hp,g,d,tk,os⟩/\∃ (vs ws:List Value) (ns' ms':List Int),rest=vs.zip ws /\
   IntsAre vs ns'/\IntsAre ws ms'/\ns'.length+items2.size=ms'.length+items.size/\R (.ok (.ret (.bool (lexLt ns' ms')))) ⟨hp,g,d,tk,os⟩) _
  case turn=>
   rintro ⟨y,x⟩ rest b s' ⟨hb',rfl,vs,ws,ns',ms',hz,hvi,hwi,hlen,hR⟩
   cases hvi with
   | nil=>rw [List.zip_nil_left] at hz; cases hz
   | cons a t hvi'=>
    cases hwi with
    | nil=>rw [List.zip_nil_right] at hz; cases hz
    | cons c u hwi'=>
     rw [List.zip_cons_cons] at hz
     injection hz with hyx hrest
     injection hyx with hy hx
     subst hy hx
     rw [lexLt_cons] at hR
     simp only [List.length_cons] at hlen
     obtain ⟨e,he,hiff⟩:=Ze4 A.in1 ⟨hp,g,d,tk,os⟩ a t c u
     refine wpAny_bind (he prog w _ _ ?_)
     cases e with
     | true=>
      rw [if_pos (hiff.mp rfl)] at hR
      wp_walk
      exact ⟨rfl,rfl,_,_,_,_,hrest,hvi',hwi',by omega,hR⟩
     | false=>
      rw [if_neg (fun q=>absurd (hiff.mpr q) Bool.false_ne_true)] at hR
      have hri:=rcLt_int A.in1 ⟨hp,g,d,tk,os⟩ a t c u prog w
      wp_walk using hri
      exact ⟨_,rfl,by simpa using hR⟩
  case fin=>
   rintro ⟨b1,b2⟩ s' ⟨hb',rfl,vs,ws,ns',ms',hz,hvi,hwi,hlen,hR⟩
   simp only at hb'
   subst hb'
   have hv:lexLt ns' ms'=decide (items.size < items2.size):=by
    cases hvi with
    | nil=>
     cases hwi with
     | nil=>
      simp only [List.length_nil] at hlen
      rw [lexLt_nil_nil]
      exact (decide_eq_false (by omega)).symm
     | cons c u hw=>
      simp only [List.length_nil,List.length_cons] at hlen
      rw [U2]
      exact (decide_eq_true (by omega)).symm
    | cons a t hv=>
     cases hwi with
     | nil=>
      simp only [List.length_nil,List.length_cons] at hlen
      rw [U3]
      exact (decide_eq_false (by omega)).symm
     | cons c u hw=>
      rw [List.zip_cons_cons] at hz
      cases hz
   rw [hv] at hR
   wp_walk
   exact ⟨_,rfl,by simpa [Builtin.Tuple.tupleCompareSizes] using hR⟩
  case h=>
   exact ⟨rfl,rfl,items.toList,items2.toList,ns,ms,rfl,hi,hj,by omega,h⟩
end
section
variable {prog:Program} {w:World} {A:Around} {E:Value->Shared->Prop} {s:Shared}
theorem lt_tupInts {l b:Addr} {items items2:Array Value} {ns ms:List Int} {Q:Value->Shared->Prop} (hl:IsTup s.heap l items) (hb:IsTup s.heap b items2) (hi:IntsAre items.toList ns) (hj:IntsAre items2.toList ms)
  (hu:A.units < cLine) (h:Q (.bool (lexLt ns ms)) s):wpAny (model prog w) A (compareOp .Lt (.ref l) (.ref b)) Q E s:=by
 obtain ⟨⟨cls,dd,data,sl⟩,ho,hc,n,hd⟩:=id hl
 obtain ⟨⟨cls2,dd2,data2,sl2⟩,ho2,hc2,n2,hd2⟩:=id hb
 simp only at hc hd hc2 hd2
 subst hc hd hc2 hd2
 exact richCompare_meets_room (op:=.Lt) ⟨_,ho,rfl⟩ ⟨_,ho2,rfl⟩ PySem.F.slot_tuple_lt PySem.F.entry_tuple_lt (PySem.F.args_tuple_lt_2 _ _) (Vx l b items items2 n n2 dd dd2 sl sl2 ns ms hi hj)
  ⟨ho,ho2,show Value.bool (lexLt ns ms)≠Value.notImplemented/\Q (.bool (lexLt ns ms)) s from ⟨(fun x=>nomatch x),h⟩⟩ hu
theorem cat_tup {t b:Addr} {vs ws:List Value} {Q:Value->Shared->Prop} (ht:IsTup s.heap t vs.toArray) (hb:IsTup s.heap b ws.toArray) (hv:vs≠[])
  (h1:ws=[]->Q (.ref t) s) (h2:ws≠[]->Q (.ref s.heap.objs.size) { s with heap:=s.heap.push { cls:=.type "tuple",data:=.seq (vs++ws).toArray } })
  (hsz:vs.length+ws.length<=sizeLine):wpAny (model prog w) A (binaryOp .Add (.ref t) (.ref b)) Q E s:=by
 obtain ⟨⟨cls,dd,data,sl⟩,ho,hc,n,hd⟩:=id ht
 obtain ⟨⟨cls2,dd2,data2,sl2⟩,ho2,hc2,n2,hd2⟩:=id hb
 simp only at hc hd hc2 hd2
 subst hc hd hc2 hd2
 have e:vs.toArray++ws.toArray=(vs++ws).toArray:=by simp
 by_cases hw:ws=[]
 ·exact concat_meets ⟨_,ho,rfl⟩ ⟨_,ho2,rfl⟩ noFill_tuple_add seq_tuple_add PySem.F.slot_tuple_add PySem.F.entry_tuple_add (PySem.F.args_tuple_add_2 _ _)
   (tuple_addW1 t b vs.toArray ws.toArray n n2 dd dd2 sl sl2 (by simpa using hv) (by simp [hw])) ⟨ho,ho2,h1 hw⟩
 ·refine concat_meets ⟨_,ho,rfl⟩ ⟨_,ho2,rfl⟩ noFill_tuple_add seq_tuple_add PySem.F.slot_tuple_add PySem.F.entry_tuple_add (PySem.F.args_tuple_add_2 _ _)
   (tuple_addW2 t b vs.toArray ws.toArray n n2 dd dd2 sl sl2 (by simpa using hv) (by simpa using hw) (by rw [List.size_toArray,List.size_toArray]; exact hsz)) ⟨ho,ho2,?_⟩
  rw [e]
  exact h2 hw
noncomputable def sIx (n d:Nat):Option Int->Nat
 | none=>d
 | some v=>if v < 0 then (v+(n:Int)).toNat else min v.toNat n
theorem sIx_none (n d:Nat):sIx n d none=d:=rfl
theorem sIx_nat (n d k:Nat):sIx n d (some (k:Int))=min k n:=by
 show (if (k:Int) < 0 then ((k:Int)+(n:Int)).toNat else min (k:Int).toNat n)=min k n
 rw [if_neg (by omega),Int.toNat_natCast]
theorem Zhz (n d:Nat) (hd:d<=n) (o:Option Int):sIx n d o<=n:=by
 cases o with
 | none=>exact hd
 | some v=>
  show (if v < 0 then (v+(n:Int)).toNat else min v.toNat n)<=n
  by_cases hv:v < 0
  ·rw [if_pos hv]; omega
  ·rw [if_neg hv]; exact Nat.min_le_right _ _
theorem ZdW (v:Int) (n d:Nat):(if v < 0 then max (v+(n:Int)) 0 else min v (n:Int))=((sIx n d (some v):Nat):Int):=by
 show (if v < 0 then max (v+(n:Int)) 0 else min v (n:Int))=(((if v < 0 then (v+(n:Int)).toNat else min v.toNat n):Nat):Int)
 by_cases hv:v < 0
 ·simp only [if_pos hv]; omega
 ·simp only [if_neg hv]; omega
theorem Zcj (lo hi:Option Int) (n:Nat):Builtin.Slice.sliceAdjust lo hi 1 (n:Int)=(((sIx n 0 lo:Nat):Int),((sIx n n hi:Nat):Int)):=by
 have h1:¬ ((1:Int) < 0):=by omega
 unfold Builtin.Slice.sliceAdjust
 simp only [h1,if_false]
 refine Prod.ext ?_ ?_
 ·cases lo with
  | none=>rfl
  | some v=>exact ZdW v n 0
 ·cases hi with
  | none=>rfl
  | some v=>exact ZdW v n n
theorem ZbY (i j:Nat):Builtin.Slice.slicePlaces (i:Int) (j:Int) 1=j-i:=by
 unfold Builtin.Slice.slicePlaces
 have h1:(1:Int) > 0:=by omega
 simp only [h1,if_true,Int.ediv_one]
 split <;> omega
theorem Vd {v:Value} {o:Option Int} {Q:Option Int->Shared->Prop} (p:IsPart v o) (h:Q o s):wpAny (model prog w) A (Builtin.Slice.slicePartIndex v) Q E s:=by
 cases p with
 | none=>exact slicePart_none h
 | int i t=>exact slicePart_int h
theorem sliceApplied_gen {sl:Addr} {vl vu:Value} {lo hi:Option Int} {n:Nat} {Q:Int×Int×Nat->Shared->Prop} (hs:s.heap.IsSliceOf sl vl vu .none) (pl:IsPart vl lo) (pu:IsPart vu hi)
  (h:Q (((sIx n 0 lo:Nat):Int),1,sIx n n hi-sIx n 0 lo) s):wpAny (model prog w) A (Builtin.Slice.sliceApplied (.ref sl) (pure (n:Int))) Q E s:=by
 obtain ⟨os,hos,hcs,hds⟩:=id hs
 unfold Builtin.Slice.sliceApplied Builtin.Slice.sliceFields
 refine wpAny_bind (wpAny_bind (wpAny_field hos hds (x:=vl) rfl (wpAny_bind (wpAny_field hos hds (x:=vu) rfl (wpAny_bind (wpAny_field hos hds (x:=.none) rfl (wpAny_pure ?_)))))))
 refine wpAny_bind (slicePart_none ?_)
 show wpAny _ _ (if ((1:Int)==0)=true then _ else _) _ _ s
 rw [if_neg (by decide)]
 refine wpAny_bind (Vd pl (wpAny_bind (Vd pu (wpAny_bind (wpAny_pure ?_)))))
 show wpAny _ _ (match Builtin.Slice.sliceAdjust lo hi 1 (n:Int) with | (lo,hi)=>pure (lo,(1:Int),Builtin.Slice.slicePlaces lo hi 1)) _ _ s
 rw [Zcj lo hi n]
 show wpAny _ _ (pure (((sIx n 0 lo:Nat):Int),(1:Int),Builtin.Slice.slicePlaces ((sIx n 0 lo:Nat):Int) ((sIx n n hi:Nat):Int) 1)) _ _ s
 rw [ZbY]
 exact wpAny_pure h
theorem ZeB (xs:Array Value) (i k:Nat):((List.range k).filterMap fun (m:Nat)=>xs[((i:Int)+(m:Int)*1).toNat]?).toArray=((xs.toList.drop i).take k).toArray:=by
 have e:(fun (m:Nat)=>xs[((i:Int)+(m:Int)*1).toNat]?)=fun m=>xs[i+m]?:=by
  funext m
  have:((i:Int)+(m:Int)*1).toNat=i+m:=by omega
  rw [this]
 rw [e]
 have:=pick_run xs i k
 rw [List.filterMap_map] at this
 have e2:((fun x=>xs[x]?) ∘ fun x=>i+x)=fun m=>xs[i+m]?:=rfl
 rw [e2] at this
 rw [this]
theorem getItem_tuple_cut {t sl:Addr} {items:Array Value} {vl vu:Value} {lo hi:Option Int} {Q:Value->Shared->Prop} (ht:IsTup s.heap t items) (hs:s.heap.IsSliceOf sl vl vu .none) (pl:IsPart vl lo) (pu:IsPart vu hi)
  (hw:¬ (sIx items.size 0 lo=0/\sIx items.size items.size hi=items.size))
  (h:Q (.ref s.heap.objs.size) { s with heap:=s.heap.push { cls:=.type "tuple",data:=.seq ((items.toList.drop (sIx items.size 0 lo)).take (sIx items.size items.size hi-sIx items.size 0 lo)).toArray } })
  (hsz:items.size<=sizeLine):wpAny (model prog w) A (getItem (.ref t) (.ref sl)) Q E s:=by
 have htake:sizeOk (.seq ((items.toList.drop (sIx items.size 0 lo)).take (sIx items.size items.size hi-sIx items.size 0 lo)).toArray):=by
  show ((items.toList.drop (sIx items.size 0 lo)).take (sIx items.size items.size hi-sIx items.size 0 lo)).toArray.size<=sizeLine
  rw [List.size_toArray,List.length_take,List.length_drop,Array.length_toList]
  omega
 have hj:sIx items.size items.size hi<=items.size:=Zhz _ _ (Nat.le_refl _) hi
 obtain ⟨os,hos,hcs,hds⟩:=id hs
 have hTs:s.TypeIs (.ref sl) "slice":=⟨os,hos,hcs⟩
 unfold getItem
 try with_reducible refine wpAny_holding ?_
 first | refine wpAny_bind (wpAny_pure ?_) | skip
 refine wpAny_bind (wpAny_sequenceKey ht.typeIs (by decide) ?_)
 refine wpAny_bind (wpAny_callSpecial?_slot (name:=Str.ofString "__getitem__") ht.typeIs PyProof.Rows.slot_tuple_getitem
  (wpAny_call_entry PyProof.Rows.slot_tuple_getitem ht.typeIs entry_tuple_getitem ?_ (args_tuple_getitem _ _)))
 show wpAny _ _ (Builtin.Tuple.tupleItemsOf (.ref t) >>= _) _ _ s
 refine wpAny_bind (tupleItemsOf_ ht ?_)
 refine wpAny_bind (wpAny_typeOf hTs ?_)
 rw [if_pos (by decide)]
 refine wpAny_bind (sliceApplied_gen hs pl pu ?_)
 have hno:¬ ((((sIx items.size 0 lo:Nat):Int)==0&&(1:Int)==1&&(sIx items.size items.size hi-sIx items.size 0 lo)==items.size)=true):=by
  intro q
  rw [Bool.and_eq_true,Bool.and_eq_true] at q
  have q1:((sIx items.size 0 lo:Nat):Int)=0:=eq_of_beq q.1.1
  have q2:sIx items.size items.size hi-sIx items.size 0 lo=items.size:=eq_of_beq q.2
  exact hw ⟨by omega,by omega⟩
 show wpAny _ _ (if (((sIx items.size 0 lo:Nat):Int)==0&&(1:Int)==1&&(sIx items.size items.size hi-sIx items.size 0 lo)==items.size)=true then _ else _) _ _ s
 rw [if_neg hno,ZeB]
 first
  | exact wpAny_bind (m:=Builtin.Tuple.tupleExact _) (wpAny_newObj_type (wpAny_pure ⟨_,rfl,wpAny_pure h⟩) htake)
  | exact wpAny_bind (m:=Builtin.Tuple.tupleExact _) (wpAny_newObj_type (wpAny_bind (wpAny_pure (wpAny_pure ⟨_,rfl,wpAny_pure h⟩))) htake)
  | exact wpAny_bind (wpAny_bind (m:=Builtin.Tuple.tupleExact _) (wpAny_newObj_type (wpAny_pure (wpAny_pure ⟨_,rfl,wpAny_pure h⟩)) htake))
  | exact wpAny_bind (wpAny_bind (m:=Builtin.Tuple.tupleExact _) (wpAny_newObj_type (wpAny_pure ⟨_,rfl,wpAny_pure h⟩) htake))
end
end HT
namespace L2
open PySem PySem.Spec PyProof.Rows
noncomputable abbrev TO:=St->Hp->(Option Int->Hp->Prop)->Prop
noncomputable def PO (X:Cx) (e:Option Expr) (t:TO):Prop:=
 ∀ (pins:List (Addr×Obj)) (s:Shared) (σ:St) (H:Hp) (Q:Option Int->Hp->Prop),Inv X pins σ H s->t σ H Q ->
  wpAny (model X.prog X.w) X.A (evalPart e X.env) (fun u s'=>∃ o H',Inv X pins σ H' s'/\IsPart u o/\Q o H') X.xe s
noncomputable def Zgb:TO:=fun _ H Q=>Q none H
noncomputable def Zi3 (t:TE):TO:=fun σ H Q=>t σ H fun x H1=>∃ i,x=.int i/\Q (some i) H1
section
variable {X:Cx} {e:Expr} {te:TE} {lo hi:Option Expr} {tl th:TO} {pos p2:Pos}
theorem Zgu:PO X none Zgb:=by
 intro pins s σ H Q I h
 rw [evalPart_none]
 exact wpAny_pure ⟨none,H,I,.none,h⟩
theorem ZcY (h:PE X e te):PO X (some e) (Zi3 te):=by
 intro pins s σ H Q I hw
 rw [evalPart_some]
 refine thn (h pins s σ H _ I hw) fun u s1 zq=>?_
 obtain ⟨x,H1,I1,r1,q1⟩:=zq
 obtain ⟨i,rfl,q⟩:=q1
 obtain ⟨t,rfl⟩:=r1
 exact ⟨some i,H1,I1,.int i t,q⟩
noncomputable def SlR (X:Cx) (r:V->Option Int->Option Int->Hp->VK->Prop):Prop:=
 ∀ (pins:List (Addr×Obj)) (s:Shared) (σ:St) (H:Hp) (x:V) (v vl vu:Value) (lo hi:Option Int) (sl:Addr) (Q:VK),Inv X pins σ H s->RelV x v->s.heap.IsSliceOf sl vl vu .none->IsPart vl lo->IsPart vu hi->r x lo hi H Q ->
  ∃ T id,typeLookup (.type T) "__getitem__"=pure (some (.builtin id))/\s.TypeIs v T/\wpAny (model X.prog X.w) X.A (getItem v (.ref sl)) (EP X pins σ Q) X.xe s
noncomputable def tSl (r:V->Option Int->Option Int->Hp->VK->Prop) (te:TE) (tl th:TO):TE:=fun σ H Q=>te σ H fun x H1=>tl σ H1 fun l H2=>th σ H2 fun u H3=>r x l u H3 Q
theorem ZeC {r:V->Option Int->Option Int->Hp->VK->Prop} (hr:SlR X r) (he:PE X e te) (hl:PO X lo tl) (hu:PO X hi th):PE X (.Subscript e (.Slice lo hi none p2) pos) (tSl r te tl th):=by
 intro pins s σ H Q I h
 refine Subscript_ (thn (he pins s σ H _ I h) fun v s1 zq=>?_)
 obtain ⟨x,H1,I1,r1,q1⟩:=zq
 refine wpAny_Slice (thn (hl pins s1 σ H1 _ I1 q1) fun vl s2 ⟨l,H2,I2,pl,q2⟩=>thn (hu pins s2 σ H2 _ I2 q2) fun vu s3 zq=>?_)
 obtain ⟨u,H3,I3,pu,q3⟩:=zq
 rw [evalPart_none]
 refine wpAny_pure ?_
 have I4:Inv X pins σ H3 { s3 with heap:=s3.heap.push { cls:=.type "slice",data:=.fields #[vl,vu,.none] } }:=I3.kept (t':=s3.toks) fun b ob q=>Heap.get?_push_of_some _ q
 obtain ⟨T,id,hT,ht,hg⟩:=hr pins { s3 with heap:=s3.heap.push { cls:=.type "slice",data:=.fields #[vl,vu,.none] } } σ H3 x v vl vu l u s3.heap.objs.size Q I4 r1 (Heap.IsSliceOf.new ..) pl pu q3
 show wpAny (model X.prog X.w) X.A (subscriptTail e (.Slice lo hi none p2) v (.ref s3.heap.objs.size)) (EP X pins σ Q) X.xe { s3 with heap:=s3.heap.push { cls:=.type "slice",data:=.fields #[vl,vu,.none] } }
 exact tail_any (ops:=[.ref s3.heap.objs.size,v]) ht hT hg (by with_unfolding_all rfl)
noncomputable def Zcp (xs:List V) (lo hi:Option Int):List V:=(xs.drop (HT.sIx xs.length 0 lo)).take (HT.sIx xs.length xs.length hi-HT.sIx xs.length 0 lo)
theorem UN (xs:List V) (lo hi:Option Int):(Zcp xs lo hi).length<=xs.length:=by
 unfold Zcp
 rw [List.length_take,List.length_drop]
 omega
noncomputable def Zkf (K:PySem.W.Frag):V->Option Int->Option Int->Hp->VK->Prop:=fun x lo hi H Q=>∃ a xs,x=.ref a/\SqT K H a xs /\
 ¬ (HT.sIx xs.length 0 lo=0/\HT.sIx xs.length xs.length hi=xs.length)/\∀ p,H p=none->Q (.ref p) (upd H p (.tup (Zcp xs lo hi)))
theorem Zhv:SlR X (Zkf X.K):=by
 intro pins s σ H x v vl vu lo hi sl Q I rx hs pl pu h
 obtain ⟨a,xs,rfl,hx,hw,q⟩:=h
 cases rx
 obtain ⟨its,r,ht,hz⟩:=I.tuple hx
 have hlen:its.toArray.size=xs.length:=by rw [List.size_toArray]; exact r.length.symm
 refine ⟨"tuple",_,PyProof.Rows.slot_tuple_getitem.lookup,ht.typeIs,?_⟩
 refine HT.getItem_tuple_cut ht hs pl pu (by rw [hlen]; exact hw) ?_ (by rw [hlen]; exact hz)
 rw [hlen]
 refine ⟨.ref s.heap.objs.size,_,I.laid (t':=s.toks) (o:=.tup (Zcp xs lo hi)) (fun b ob q=>Heap.get?_push_of_some _ q) (Nat.le_refl _) ?_,rfl,q _ (I.hok.fresh (Nat.le_refl _))⟩
 exact ⟨Nat.le_trans (UN xs lo hi) hz,_,(r.drop (HT.sIx xs.length 0 lo)).take (HT.sIx xs.length xs.length hi-HT.sIx xs.length 0 lo),TupD.new _ _⟩
theorem Vals.nil_iff {xs:List V} {us:List Value} (r:Vals xs us):us=[] ↔ xs=[]:=by
 cases r with
 | nil=>simp
 | cons _ _=>simp
end
noncomputable def ixN (n:Nat) (i:Int):Option Nat:=if 0<=i then (if i < n then some i.toNat else none) else if -(n:Int)<=i then some (i+n).toNat else none
noncomputable def atI {α:Type} (xs:List α) (i:Int):Option α:=(ixN xs.length i).bind fun j=>xs[j]?
theorem ZgK {n:Nat} {i:Int} {j:Nat} (h:ixN n i=some j):seqIndex? i n=some j/\j < n/\-(n:Int)<=i/\i < n:=by
 unfold ixN at h
 by_cases h0:0<=i
 ·rw [if_pos h0] at h
  by_cases h1:i < n
  ·rw [if_pos h1] at h
   have e:i.toNat=j:=Option.some.inj h
   exact ⟨by rw [seqIndex_of h0 h1,e],by omega,by omega,h1⟩
  ·rw [if_neg h1] at h; cases h
 ·rw [if_neg h0] at h
  by_cases h1:-(n:Int)<=i
  ·rw [if_pos h1] at h
   have e:(i+n).toNat=j:=Option.some.inj h
   exact ⟨by rw [seqIndex_neg (by omega) h1,e],by omega,h1,by omega⟩
  ·rw [if_neg h1] at h; cases h
theorem ZaV {α:Type} {xs:List α} {i:Int} {v:α} (h:atI xs i=some v):∃ j,seqIndex? i xs.length=some j/\xs[j]?=some v/\j < xs.length/\-(xs.length:Int)<=i/\i < xs.length:=by
 unfold atI at h
 cases e:ixN xs.length i with
 | none=>rw [e] at h; cases h
 | some j=>
  rw [e] at h
  obtain ⟨h1,h2,h3,h4⟩:=ZgK e
  exact ⟨j,h1,h,h2,h3,h4⟩
theorem Zg6 {α:Type} {xs:List α} {j:Nat} {v:α} (h:xs[j]?=some v):atI xs (j:Int)=some v:=by
 have hj:j < xs.length:=(List.getElem?_eq_some_iff.mp h).1
 have e:ixN xs.length (j:Int)=some j:=by
  unfold ixN
  rw [if_pos (by omega),if_pos (by omega)]; simp
 unfold atI; rw [e]; exact h
noncomputable def Zea (b:Expr):Prop:=∀ o i,subscripted b false o i=operate [o,i] (getItem o i)
noncomputable def IxR (X:Cx) (r:R2):Prop:=
 ∀ (value slice:Expr) (pins:List (Addr×Obj)) (s:Shared) (σ:St) (H:Hp) (x y:V) (v u:Value) (Q:VK),Inv X pins σ H s->RelV x v->RelV y u->r x y H Q ->
  subscripted slice false v u=operate [v,u] (getItem v u)->wpAny (model X.prog X.w) X.A (subscriptTail value slice v u) (EP X pins σ Q) X.xe s
noncomputable def MtR (X:Cx) (id:String) (r:V->List V->Hp->VK->Prop):Prop:=
 ∀ (pins:List (Addr×Obj)) (s:Shared) (σ:St) (H:Hp) (x:V) (xs:List V) (v:Value) (us:List Value) (Q:VK),Inv X pins σ H s->RelV x v->Vals xs us->r x xs H Q ->
  wpAny (model X.prog X.w) X.A (call (.builtin id) (v::us)) (EP X pins σ Q) X.xe s
section
variable {X:Cx} {a b:Expr} {ta tb:TE} {pos:Pos}
theorem Zjg {r:R2} (hr:IxR X r) (ha:PE X a ta) (hb:PE X b tb) (hs:Zea b):PE X (.Subscript a b pos) (tOp r ta tb):=by
 intro pins s σ H Q I h
 exact Subscript_ (ZjD ha hb I h fun v u s2 x y H2 I2 rx ry q=>hr a b pins s2 σ H2 x y v u Q I2 rx ry q (hs _ _))
noncomputable def Zkl (K:PySem.W.Frag):R2:=fun x y H Q=>∃ p xs i v,x=.ref p/\y=.int i/\SqL K H p xs/\atI xs i=some v/\Q v H
noncomputable def Zkj (K:PySem.W.Frag):R2:=fun x y H Q=>∃ p xs i v,x=.ref p/\y=.int i/\SqT K H p xs/\atI xs i=some v/\Q v H
noncomputable def Zkk:R2:=fun x y H Q=>∃ z i c,x=.str z/\y=.int i/\z.length<=sizeLine/\atI z.cps.toList i=some c/\Q (.str ⟨#[c]⟩) H
theorem ZgJ:IxR X (Zkl X.K):=by
 intro value slice pins s σ H x y v u Q I rx ry h hs
 obtain ⟨p,xs,i,z,rfl,rfl,hq,he,q⟩:=h
 cases rx
 obtain ⟨t,rfl⟩:=ry
 obtain ⟨its,r,pl,hz⟩:=I.list hq
 obtain ⟨j,h1,h2,h3,h4,h5⟩:=ZaV he
 obtain ⟨w,ew,rw'⟩:=r.get h2
 have hl:=r.length
 have hn:=WK
 have fin:EP X pins σ Q w s:=⟨z,H,I,rw',q⟩
 by_cases h0:0<=i
 ·have hj:i.toNat=j:=by
   rw [seqIndex_of h0 h5] at h1
   exact Option.some.inj h1
  exact item_listR pl.isList h0 (by omega) (by rw [hj]; simpa using ew) fin hs
 ·have hj:(i+(its.toArray.size:Int)).toNat=j:=by
   rw [seqIndex_neg (by omega) h4] at h1
   rw [List.size_toArray,<-hl]
   exact Option.some.inj h1
  exact subscriptTail_builtinR (x:=w) pl.isList.typeIs slot_list_getitem.lookup
   (wpAny_getItem_list_neg (Q:=fun r s'=>r=w/\EP X pins σ Q r s') pl.isList (by omega) (by rw [List.size_toArray] <;> omega) (by omega) (by rw [hj]; simpa using ew) ⟨rfl,fin⟩) hs
theorem Zii:IxR X (Zkj X.K):=by
 intro value slice pins s σ H x y v u Q I rx ry h hs
 obtain ⟨p,xs,i,z,rfl,rfl,hq,he,q⟩:=h
 cases rx
 obtain ⟨t,rfl⟩:=ry
 obtain ⟨its,r,pl,hz⟩:=I.tuple hq
 obtain ⟨j,h1,h2,h3,h4,h5⟩:=ZaV he
 obtain ⟨w,ew,rw'⟩:=r.get h2
 have hl:=r.length
 have hn:=WK
 have fin:EP X pins σ Q w s:=⟨z,H,I,rw',q⟩
 exact subscriptTail_builtinR (x:=w) pl.typeIs slot_tuple_getitem.lookup
  (getItem_tuple (j:=j) (Q:=fun r s'=>r=w/\EP X pins σ Q r s') pl (by omega) (by omega) (by rw [List.size_toArray,<-hl]; exact h1) (by simpa using ew) ⟨rfl,fin⟩) hs
theorem Zij:IxR X Zkk:=by
 intro value slice pins s σ H x y v u Q I rx ry h hs
 obtain ⟨z,i,c,rfl,rfl,hz,he,q⟩:=h
 obtain ⟨t,rfl⟩:=rx
 obtain ⟨t',rfl⟩:=ry
 obtain ⟨j,h1,h2,h3,h4,h5⟩:=ZaV he
 have hl:z.cps.toList.length=z.length:=by simp [Str.length]
 rw [hl] at h1 h4 h5
 have hn:=WK
 exact tail_any (typeIs_str s z t) slot_str_getitem.lookup (getItem_str (c:=c) (by
  have e1:decide (i < -(2 ^ 63:Int))=false:=decide_eq_false (by omega)
  have e2:decide (i>=2 ^ 63)=false:=decide_eq_false (by omega)
  rw [e1,e2,Bool.or_false]) (by rw [h1]; simpa using h2) ⟨.str ⟨#[c]⟩,H,I.tok _,⟨_,rfl⟩,q⟩) hs
theorem Ws (lo hi:Option Int) (n:Nat):(sliceBounds lo hi none n).1=((HT.sIx n 0 lo:Nat):Int)/\(sliceBounds lo hi none n).2.1=((HT.sIx n n hi:Nat):Int)/\(sliceBounds lo hi none n).2.2=1:=by
 refine ⟨?_,?_,rfl⟩
 ·cases lo with
  | none=>simp [sliceBounds,HT.sIx]
  | some i=>
   simp only [sliceBounds,HT.sIx,Option.getD_none,show (1:Int) > 0 by decide,if_true]
   by_cases h:i < 0
   ·simp only [h,if_true] <;> omega
   ·simp only [h,if_false] <;> omega
 ·cases hi with
  | none=>simp [sliceBounds,HT.sIx]
  | some i=>
   simp only [sliceBounds,HT.sIx,Option.getD_none,show (1:Int) > 0 by decide,if_true]
   by_cases h:i < 0
   ·simp only [h,if_true] <;> omega
   ·simp only [h,if_false] <;> omega
theorem VA (its:List Value) (lo hi:Option Int):slicePick its.toArray lo hi none=((its.drop (HT.sIx its.length 0 lo)).take (HT.sIx its.length its.length hi-HT.sIx its.length 0 lo)).toArray:=by
 obtain ⟨h1,h2,h3⟩:=Ws lo hi its.toArray.size
 unfold slicePick
 rw [h1,h2,h3]
 simp only [sliceRange_one,pick_run,List.size_toArray] <;> rfl
noncomputable def Zkg (K:PySem.W.Frag):V->Option Int->Option Int->Hp->VK->Prop:=fun x lo hi H Q=>∃ a xs,x=.ref a/\SqL K H a xs/\∀ p,H p=none->Q (.ref p) (upd H p (.lst (Zcp xs lo hi)))
theorem Zgg:SlR X (Zkg X.K):=by
 intro pins s σ H x v vl vu lo hi sl Q I rx hs pl pu h
 obtain ⟨a,xs,rfl,hx,q⟩:=h
 cases rx
 obtain ⟨its,r,ht,hz⟩:=I.list hx
 have hlen:=r.length
 refine ⟨"list",_,slot_list_getitem.lookup,ht.isList.typeIs,?_⟩
 refine wpAny_getItem_list_slice ht.isList hs pl pu .none (by simp) ?_ (by rw [List.size_toArray] <;> omega)
 rw [VA,<-hlen]
 refine ⟨.ref s.heap.objs.size,_,I.laid (t':=s.toks) (o:=.lst (Zcp xs lo hi)) (fun b ob q=>Heap.get?_push_of_some _ q) (Nat.le_refl _) ?_,rfl,q _ (I.hok.fresh (Nat.le_refl _))⟩
 exact ⟨Nat.le_trans (UN xs lo hi) hz,_,0,(r.drop (HT.sIx xs.length 0 lo)).take (HT.sIx xs.length xs.length hi-HT.sIx xs.length 0 lo),Heap.get?_push_size _ rfl⟩
theorem JT:Zam X (.builtin "len") (fun xs H Q=>∃ p ys,xs=[.ref p]/\(SqL X.K H p ys\/SqT X.K H p ys)/\Q (.int ys.length) H):=by
 intro pins s σ H xs us Q I r h
 obtain ⟨p,ys,rfl,hq,q⟩:=h
 obtain ⟨u,rfl,rx⟩:=Wn r
 cases rx
 have hn:=WK
 rcases hq with hq | hq
 ·obtain ⟨its,r',pl,hz⟩:=I.list hq
  have hlen:=r'.length
  exact Calls.call_len_list pl.isList (by simp only [List.size_toArray] <;> omega) ⟨.int ys.length,H,I.tok _,⟨s.toks+1,by rw [List.size_toArray,hlen]⟩,q⟩
 ·obtain ⟨its,r',pl,hz⟩:=I.tuple hq
  have hlen:=r'.length
  exact len_tuple pl (by simp only [List.size_toArray] <;> omega) ⟨.int ys.length,H,I.tok _,⟨s.toks+1,by rw [List.size_toArray,hlen]⟩,q⟩
theorem W8:Zam X (.builtin "len") (fun xs H Q=>∃ z,xs=[.str z]/\z.length<=sizeLine/\Q (.int z.length) H):=by
 intro pins s σ H xs us Q I r h
 obtain ⟨z,rfl,hz,q⟩:=h
 obtain ⟨u,rfl,t,rfl⟩:=Wn r
 have hn:=WK
 exact len_str (by omega) ⟨.int z.length,H,I.tok _,⟨_,rfl⟩,q⟩
theorem JS:Zam X (.type "list") (fun xs H Q=>∃ p ys,xs=[.ref p]/\(SqL X.K H p ys\/SqT X.K H p ys)/\∀ l,H l=none->Q (.ref l) (upd H l (.lst ys))):=by
 intro pins s σ H xs us Q I r h
 obtain ⟨p,ys,rfl,hq,q⟩:=h
 obtain ⟨u,rfl,rx⟩:=Wn r
 cases rx
 have fin:∀ (its:List Value),Vals ys its->ys.length<=sizeLine->∀ (h':Heap) (c':Nat),(∀ b o',s.heap.get? b=some o'->h'.get? b=some o') ->
   h'.get? s.heap.objs.size=some { cls:=.type "list",dict:=none,data:=.seq its.toArray c',slots:=#[] }->EP X pins σ Q (.ref s.heap.objs.size) { s with heap:=h' }:=fun its r' hz h' c' kp e=>
  ⟨.ref s.heap.objs.size,_,I.laid (t':=s.toks) kp (Nat.le_refl _) (show ObjOk X.prog X.w _ h' _ (.lst ys) from ⟨hz,its,c',r',e⟩),rfl,q _ (I.hok.fresh (Nat.le_refl _))⟩
 rcases hq with hq | hq
 ·obtain ⟨its,r',pl,hz⟩:=I.list hq
  have hlen:=r'.length
  obtain ⟨o,ho,hc,n,hd⟩:=pl.isList
  exact call_list_seq p (.inl rfl) ho hc hd (fun h' c' kp e=>fin its r' hz h' c' kp e) (by simp only [List.size_toArray] <;> omega)
 ·obtain ⟨its,r',pl,hz⟩:=I.tuple hq
  have hlen:=r'.length
  obtain ⟨o,ho,hc,n,hd⟩:=pl
  exact call_list_seq p (.inr rfl) ho hc hd (fun h' c' kp e=>fin its r' hz h' c' kp e) (by simp only [List.size_toArray] <;> omega)
theorem Jk:Zam X (.type "tuple") (fun xs H Q=>∃ p ys,xs=[.ref p]/\((SqL X.K H p ys/\∀ l,H l=none->Q (.ref l) (upd H l (.tup ys)))\/(SqT X.K H p ys/\Q (.ref p) H))):=by
 intro pins s σ H xs us Q I r h
 obtain ⟨p,ys,rfl,h⟩:=h
 obtain ⟨u,rfl,rx⟩:=Wn r
 cases rx
 rcases h with ⟨hq,q⟩ | ⟨hq,q⟩
 ·obtain ⟨its,r',pl,hz⟩:=I.list hq
  have hlen:=r'.length
  refine call_tuple_list pl.isList (fun h' kp=>?_) (by simp only [List.size_toArray] <;> omega)
  have I1:Inv X pins σ H { s with heap:=h' }:=I.kept (t':=s.toks) kp
  have I2:Inv X pins σ (upd H h'.objs.size (.tup ys)) { s with heap:=h'.push { cls:=.type "tuple",data:=.seq its.toArray } }:=
   I1.laid (t':=s.toks) (fun b o e=>Heap.get?_push_of_some _ e) (Nat.le_refl _) (show ObjOk X.prog X.w _ _ _ (.tup ys) from ⟨hz,its,r',TupD.new _ _⟩)
  exact ⟨.ref h'.objs.size,_,I2,rfl,q _ (I1.hok.fresh (Nat.le_refl _))⟩
 ·obtain ⟨its,r',pl,hz⟩:=I.tuple hq
  exact call_tuple_same pl ⟨.ref p,H,I,rfl,q⟩
noncomputable def tyV (K:PySem.W.Frag) (T:String) (x:V) (H:Hp):Prop:=match x with
 | .str _=>T="str"
 | .int _=>T="int"
 | .ref p=>(T="list"/\∃ xs,SqL K H p xs)\/(T="tuple"/\∃ o,K.lookup p=some o/\o.cls=.type "tuple"/\o.dict=none) \/
   (T="dict"/\((∃ kvs,H p=some (.dK kvs))\/∃ kvs,H p=some (.dT kvs)))\/(T="set"/\∃ S n,H p=some (.set S n))
 | _=>False
theorem Zfv {pins:List (Addr×Obj)} {σ:St} {H:Hp} {s:Shared} {T:String} {x:V} {v:Value} (I:Inv X pins σ H s) (r:RelV x v) (ty:tyV X.K T x H) :
  s.TypeIs v T/\∀ a,v=.ref a->∃ ob,s.heap.get? a=some ob/\ob.dict=none:=by
 cases x with
 | str z=>
  obtain ⟨t,rfl⟩:=r
  cases (show T="str" from ty)
  exact ⟨typeIs_str s z t,fun _ e=>nomatch e⟩
 | int i=>
  obtain ⟨t,rfl⟩:=r
  cases (show T="int" from ty)
  exact ⟨typeIs_int s i t,fun _ e=>nomatch e⟩
 | ref p=>
  cases r
  rcases ty with ⟨rfl,xs,hq⟩ | ⟨rfl,o,hk,hc,hd⟩ | ⟨rfl,hk⟩ | ⟨rfl,S,n,hk⟩
  ·obtain ⟨its,_,pl,_⟩:=I.list hq
   refine ⟨pl.isList.typeIs,fun a e=>?_⟩
   cases e
   obtain ⟨o,n,e,c,hd,_⟩:=pl
   exact ⟨o,e,hd⟩
  ·refine ⟨⟨o,I.kIn p o hk,hc⟩,fun a e=>?_⟩
   cases e
   exact ⟨o,I.kIn _ o hk,hd⟩
  ·have z:∃ o,s.heap.get? p=some o/\o.ExactDict:=by
    rcases hk with ⟨kvs,hk⟩ | ⟨kvs,hk⟩
    ·obtain ⟨_,_,_,_,o,_,_,e,ex,_⟩:=I.hok p _ hk
     exact ⟨o,e,ex⟩
    ·obtain ⟨_,_,_,_,o,_,_,e,ex,_⟩:=I.hok p _ hk
     exact ⟨o,e,ex⟩
   obtain ⟨o,e,ex⟩:=z
   refine ⟨⟨o,e,ex.1⟩,fun a e2=>?_⟩
   cases e2
   exact ⟨o,e,ex.2.1⟩
  ·obtain ⟨o,_,_,_,e,ex,_⟩:=I.hok p _ hk
   refine ⟨⟨o,e,ex.1⟩,fun a e2=>?_⟩
   cases e2
   exact ⟨o,e,ex.2.1⟩
 | _=>exact False.elim ty
noncomputable def Zka (K:PySem.W.Frag) (T:String) (r:V->List V->Hp->VK->Prop) (to:TE):TE:=fun σ H Q=>to σ H fun x H1=>tyV K T x H1/\r x [] H1 Q
noncomputable def tBM (K:PySem.W.Frag) (T:String) (r:V->List V->Hp->VK->Prop) (to:TE) (t:TA):TE:=fun σ H Q=>to σ H fun x H1=>tyV K T x H1/\t σ H1 fun xs H2=>r x xs H2 Q
variable {o e:Expr} {es:List Expr} {to:TE} {t:TA} {name:Str} {apos cpos:Pos} {T id:String} {r:V->List V->Hp->VK->Prop}
theorem ZhS (pa:PlainAttrs T) (slot:Slot T name id) (hty:typeOf (.builtin id)=pure (.type "method_descriptor")) (hm:MtR X id r) (ho:PE X o to)
  (hbase:attributeBase o name X.env (eval o X.env)=eval o X.env:=by rfl) (hline:(apos.endLine==cpos.line)=true:=by rfl):PE X (.Call (.Attribute o name apos) [] [] cpos) (Zka X.K T r to):=by
 intro pins s σ H Q I h
 refine wpAny_Call_method0_late hbase hline (thn (ho pins s σ H _ I h) fun v s1 zq=>?_)
 obtain ⟨x,H1,I1,r1,ty,q1⟩:=zq
 obtain ⟨h1,h2⟩:=Zfv I1 r1 ty
 exact ⟨T,id,pa,slot,hty,h1,h2,Calls.callWith_builtin rfl (PySem.evalArgs_none (hm pins s1 σ H1 x [] v [] Q I1 r1 .nil q1))⟩
theorem ZgB (pa:PlainAttrs T) (slot:Slot T name id) (hty:typeOf (.builtin id)=pure (.type "method_descriptor")) (hm:MtR X id r) (ho:PE X o to) (ha:PA X (e::es) t)
  (hbase:attributeBase o name X.env (eval o X.env)=eval o X.env:=by rfl)
  (hfew:((backTo cpos (starEach (e::es) X.env)).all (fun x=>!x.1)&&(backToKw cpos (keywordEach [] X.env)).all (fun x=>x.1.isSome)
   && decide ((e::es).length+([]:List Keyword).length+(if ([]:List Keyword).isEmpty then 0 else 1) < 30))=true:=by rfl)
  (hline:(apos.endLine==cpos.line)=true:=by rfl) (hs:starEach (e::es) X.env=(false,eval e X.env)::starEach es X.env:=by rfl) (hplain:(backTo cpos (starEach es X.env)).any (·.1)=false:=by rfl) :
  PE X (.Call (.Attribute o name apos) (e::es) [] cpos) (tBM X.K T r to t):=by
 intro pins s σ H Q I h
 refine wpAny_Call_method_late hbase hfew hline rfl (thn (ho pins s σ H _ I h) fun v s1 zq=>?_)
 obtain ⟨x,H1,I1,r1,ty,q1⟩:=zq
 obtain ⟨h1,h2⟩:=Zfv I1 r1 ty
 refine ⟨T,id,pa,slot,hty,h1,h2,?_⟩
 have hA:=ha cpos pins s1 σ H1 _ I1 q1
 rw [hs] at hA ⊢
 refine Calls.callWith_builtin (by show (false||(backTo cpos (starEach es X.env)).any (·.1))=false; rw [hplain] <;> rfl) (Calls.evalArgs_plain ?_)
 exact thn hA fun us s2 ⟨vs,H2,I2,r2,q2⟩=>hm pins s2 σ H2 x vs v us Q I2 r1 r2 q2
end
noncomputable def MtM (X:Cx) (id:String) (r:V->List V->Hp->VK->Prop):Prop:=
 ∀ (pins:List (Addr×Obj)) (s:Shared) (σ:St) (H:Hp) (x:V) (xs:List V) (v:Value) (us:List Value) (Q:VK),Inv X pins σ H s->RelV x v->Vals xs us->r x xs H Q ->
  wpAny (model X.prog X.w) X.A (call (.builtin id) (v::us)) (EP X pins σ Q) X.xe s
theorem Vals.one:∀ {x:V} {us:List Value},Vals [x] us->∃ u,us=[u]/\RelV x u
 | _,_,.cons r .nil=>⟨_,rfl,r⟩
theorem Vals.zero:∀ {us:List Value},Vals [] us->us=[]
 | _,.nil=>rfl
theorem Vals.dropLast {xs:List V} {us:List Value} (h:Vals xs us):Vals xs.dropLast us.dropLast:=by
 induction h with
 | nil=>exact .nil
 | cons r t ih=>
  cases t with
  | nil=>exact .nil
  | cons q t'=>exact .cons r ih
theorem Vals.reverse {xs:List V} {us:List Value} (h:Vals xs us):Vals xs.reverse us.reverse:=by
 induction h with
 | nil=>exact .nil
 | cons r t ih=>rw [List.reverse_cons,List.reverse_cons]; exact Vals.append ih (.cons r .nil)
theorem Zb7 {α:Type} (l:List α):l.eraseIdx (l.length-1)=l.dropLast:=by
 induction l with
 | nil=>rfl
 | cons a r ih=>
  cases r with
  | nil=>rfl
  | cons b r=>
   have e:(a::b::r).length-1=((b::r).length-1)+1:=by
    have h1:(a::b::r).length=r.length+2:=rfl
    have h2:(b::r).length=r.length+1:=rfl
    omega
   rw [e,List.eraseIdx_cons_succ,ih]
   all_goals rfl
section
variable {X:Cx} {pins:List (Addr×Obj)} {σ:St} {H:Hp} {s:Shared} {l b:Addr} {xs ys zs:List V}
theorem Inv.lset {its its':List Value} {n:Nat} {f:Array Value->Array Value} {t':Nat} (I:Inv X pins σ H s) (hH:H l=some (.lst xs))
  (e:s.heap.get? l=some { cls:=.type "list",data:=.seq its.toArray n }) (hf:f its.toArray=its'.toArray) (hv:Vals ys its') (hz:ys.length<=sizeLine) :
  Inv X pins σ (upd H l (.lst ys)) { s with heap:=s.heap.update l (Obj.mapSeq f),toks:=t' }:=by
 have q:=PySem.IsL.update e f
 rw [hf] at q
 refine I.write (x:=l) (e:=l) (by rw [hH]; exact trivial) (.inl rfl) (fun b' u hb hu=>(Heap.get?_update_other s.heap (Obj.mapSeq f) (Ne.symm hb)).trans hu) ⟨_,q⟩ ?_
 exact ⟨hz,its',_,hv,q⟩
theorem Inv.lnew {its:List Value} {t':Nat} (I:Inv X pins σ H s) (hv:Vals ys its) (hz:ys.length<=sizeLine) :
  Inv X pins σ (upd H s.heap.objs.size (.lst ys)) { s with heap:=s.heap.push { cls:=.type "list",data:=.seq its.toArray },toks:=t' }:=
 I.laid (fun _ _ q=>Heap.get?_push_of_some _ q) (Nat.le_refl _) ⟨hz,its,0,hv,Heap.get?_push_size _ rfl⟩
theorem Inv.fresh (I:Inv X pins σ H s):H s.heap.objs.size=none:=I.hok.fresh (Nat.le_refl _)
theorem Inv.lstM (I:Inv X pins σ H s) (hH:H l=some (.lst xs)):xs.length<=sizeLine/\∃ (its:List Value) (n:Nat),Vals xs its/\xs.length=its.length/\s.heap.get? l=some { cls:=.type "list",data:=.seq its.toArray n }:=by
 obtain ⟨z,its,n,r,e⟩:=I.hok l _ hH
 exact ⟨z,its,n,r,r.length,e⟩
theorem ZeH {n:Nat} (h:n<=sizeLine):Builtin.List.listTooLong n=false:=by
 unfold Builtin.List.listTooLong
 exact decide_eq_false (by omega)
end
section
variable {X:Cx}
noncomputable def Zgo:V->List V->Hp->VK->Prop:=fun x vs H Q=>∃ l xs y,x=.ref l/\vs=[y]/\H l=some (.lst xs)/\xs.length < sizeLine/\Q .non (upd H l (.lst (xs++[y])))
theorem WH:MtM X "list.append" Zgo:=by
 intro pins s σ H x vs v us Q I rx rv h
 obtain ⟨l,xs,y,rfl,rfl,hH,hz,q⟩:=h
 cases rx
 obtain ⟨u,rfl,ru⟩:=rv.one
 obtain ⟨z,its,n,r,hl,e⟩:=I.lstM hH
 refine call_meets F.slot_list_append ⟨_,e,rfl⟩ F.entry_list_append (F.args_list_append_2 _ _) (PySem.list_append l its.toArray n u (by rw [List.size_toArray]; omega)) ⟨e,?_⟩
 refine ⟨.non,_,I.lset (its':=its++[u]) hH e (by simp) (r.append (.cons ru .nil)) ?_,rfl,q⟩
 rw [List.length_append,List.length_singleton]
 omega
noncomputable def Zki:V->List V->Hp->VK->Prop:=fun x vs H Q=>∃ l xs y,x=.ref l/\vs=[]/\H l=some (.lst xs)/\xs[xs.length-1]?=some y/\Q y (upd H l (.lst xs.dropLast))
theorem Zh5:MtM X "list.pop" Zki:=by
 intro pins s σ H x vs v us Q I rx rv h
 obtain ⟨l,xs,y,rfl,rfl,hH,hy,q⟩:=h
 cases rx
 have hus:=rv.zero
 subst hus
 obtain ⟨z,its,n,r,hl,e⟩:=I.lstM hH
 obtain ⟨u,hu,ru⟩:=r.get hy
 have hy':its.toArray[its.toArray.size-1]?=some u:=by
  show its.toArray[its.length-1]?=some u
  rw [<-Array.getElem?_toList,<-hl]
  exact hu
 refine call_meets F.slot_list_pop ⟨_,e,rfl⟩ F.entry_list_pop (F.args_list_pop_1 _) (MeetsSeq.list_pop_last l its.toArray n u hy' (by rw [List.size_toArray]; omega)) ⟨e,?_⟩
 refine ⟨y,_,I.lset (its':=its.dropLast) hH e ?_ r.dropLast ?_,ru,q⟩
 ·show its.toArray.eraseIdxIfInBounds (its.toArray.size-1)=its.dropLast.toArray
  rw [List.size_toArray,List.eraseIdxIfInBounds_toArray,Zb7]
 ·rw [List.length_dropLast]
  omega
end
section
variable {prog:Program} {w:World} {A:Around} {E:Value->Shared->Prop} {s:Shared}
end
section
variable {X:Cx}
end
end L2
namespace Att
open PySem PySem.W PySem.Calls PyProof.Rows
theorem UB {P:Params} {h:Heap}:∀ (ns:List Int) (vs:List Value),WellAll P h vs (ns.map WData.int)->IntsAre vs ns:=by
 intro ns
 induction ns with
 | nil=>
  intro vs w
  rw [List.map_nil] at w
  cases w
  exact .nil
 | cons n ns ih=>
  intro vs w
  rw [List.map_cons] at w
  cases w with
  | cons a b=>
   cases a
   exact .cons _ _ (ih _ b)
theorem ZcM {l:OpenLaw} {n:Nat} (hn:l.most=some n) {P:Params} {h:Heap} {args:List WData} {vals:List Value}
  (hpre:l.row.toRowW.claim.pre args=true) (hwl:WellAll P h vals args) :
  ∃ a vs ns,vals=[Value.ref a]/\args=[WData.list (ns.map WData.int)]/\h.get? a=some { cls:=.type "list",data:=.seq vs.toArray }/\IntsAre vs ns/\ns.length<=n:=by
 have hsh:WShape.hasAll [] args [.list .int]=true:=(pre_splitW hpre).1
 have hc:l.pre.holds [] { args:=args }=true:=(pre_splitW hpre).2
 obtain ⟨d,r,rfl,h1,h2⟩:=hasAllW_cons hsh
 obtain rfl:=hasAllW_nil h2
 obtain ⟨xs,rfl,h3⟩:=hasW_list h1
 obtain ⟨ns,rfl⟩:=items_int h3
 have hlen:ns.length<=n:=by
  unfold OpenLaw.pre at hc
  have h4:(WTm.not (.lt (.lit (.int (n:Int))) (.len (.arg 0)))).holds [] { args:=[.list (ns.map .int)] }=true:=by
   have h4:=(holds_andW hc).1
   rw [hn] at h4
   exact h4
  have h5:=condW_of h4 (w_not (w_lt w_lit (w_len_list (w_arg rfl))))
  rw [List.length_map] at h5
  refine Nat.le_of_not_lt fun q=>?_
  have q':(n:Int) < ((ns.length:Nat):Int):=by omega
  first
   | (rw [decide_eq_true q'] at h5; exact absurd h5 (by decide))
   | (simp at h5; omega)
 cases hwl with
 | cons w1 w2=>
  cases w2
  cases w1 with
  | list ho hall=>exact ⟨_,_,ns,rfl,rfl,ho,UB ns _ hall,hlen⟩
theorem ZcU (l:OpenLaw) (args:List WData):l.row.toRowW.claim.post args (.bool true) args=true:=
 postW_of (r:=l.row.toRowW) (X:=(true==true))
  (show WShape.has [] (.bool true) .bool=true by first | rfl | decide | simp [WShape.has,WShape.arms,WShape.armsAll])
  (show (WTm.eq .res (.lit (.bool true))).value [] { args:=args,res:=some (.bool true),after:=args }=some (.bool (true==true)) from w_eq_bool (w_res rfl) w_lit) rfl
theorem attach_call {l:OpenLaw} {n:Nat} {q:Program} {loose:List Str} {XP:(Str->Option Value)->Heap->Prop} {YP:World->Heap->Prop} {d:DefRec}
  (hn:l.most=some n) (hdf:d.params.defaults=[])
  (call:∀ (w:World) (s₀ s₁:Shared) (mg mb:Str->Option Value) (fa:Addr) (o:Obj) (pm cd doc:Value) (a:Addr) (vs:List Value) (ns:List Int),
   Ground q loose [] XP w s₀ mg mb s₁.heap->YP w s₁.heap ->
   s₁.heap.get? fa=some o->o.data=.func (docDef d.name d.params d.body d.scope pm cd doc)->s₁.heap.CodeRec cd d.name->mg d.name=some (.ref fa) ->
   s₁.heap.get? a=some { cls:=.type "list",data:=.seq vs.toArray }->IntsAre vs ns->ns.length<=n->s₁.gens=#[] ->
   codeAny (model l.prog w) callerA (.call (.ref fa) ⟨[.ref a],[]⟩) (fun r s'=>r=.ok (.ret (.bool true))/\OldK s₁.heap s'.heap/\s'.os=s₁.os/\AllBare s'.gens) s₁) :
  WalkO q loose XP YP l.row.toRowW d [] (fun f vs=>PySem.call f vs):=by
 intro w s₀ s₁ mg mb G Y fa o pm cd doc dV kV ho hd hcd hD hmg hg args vals as hpre hlay hrd hwl hlo
 obtain rfl:dV=.none:=Dflts.none hD hdf
 obtain rfl:kV=.none:=Dflts.noKw hD
 obtain ⟨a,vs,ns,rfl,rfl,hobj,hints,hlen⟩:=ZcM hn hpre hwl
 refine enter_call (codeAny_mono (call w s₀ s₁ mg mb fa o pm cd doc a vs ns G Y ho (fd_plain hd) hcd hmg hobj hints hlen hg) fun r s' hq=>?_)
 obtain ⟨rfl,h2,h3,h4⟩:=hq
 exact ⟨.inl ⟨.bool true,.bool true,[],rfl,fun _=>rfl,.bool true,ZcU l _,fun _=>⟨List.Pairwise.nil,fun _ hm=>(nomatch hm)⟩⟩,h2,h3,h4⟩
section
variable {prog:Program} {w:World} {A:Around} {E:Value->Shared->Prop} {s:Shared} {K:Frag}
end
end Att
namespace L2
open PySem PySem.Spec PyProof.Rows
theorem Wm:∀ {vs:List Value} {ns:List Int},IntsAre vs ns->Vals (ns.map V.int) vs
 | _,_,.nil=>.nil
 | _,_,.cons n t h=>.cons ⟨t,rfl⟩ (Wm h)
noncomputable def ZjG (H:Hp):Prop:=∀ b,H b=none\/∃ o xs,H b=some (.frz o (.lst xs))
theorem ZeO {P:Program} {w:World} {K:PySem.W.Frag} {mg mb:Str->Option Value} {CX:CXT} {k:Nat} {fa a:Addr} {fd:FuncData} {x:Str} {sp:Sp} {s₁:Shared} {vs:List Value} {ns:List Int}
  (KX:K.In s₁.heap) (hns:s₁.heap.Ns mainGlobals mg) (hb:s₁.heap.Ns builtinsNs mb) (hbb:∀ x:Str,x≠"__name__"->mb x=bootBuiltins x) (hlim:s₁.heap.NoLimit) (hg:s₁.gens=#[])
  (ha:s₁.heap.get? a=some { cls:=.type "list",data:=.seq vs.toArray }) (hi:IntsAre vs ns) (hl:ns.length<=sizeLine) (hr:Room k callerA)
  (F:∀ base:Heap,K.In base->base.Ns mainGlobals mg->Zfq P w K mg base CX k fa fd [x] sp) (hbind:∀ (s:Shared) (u:Value),BindsTo s fd ⟨[u],[]⟩ [(x,u)])
  (hsp:∀ H:Hp,ZjG H->SqL K H a (ns.map V.int)->sp [.ref a] H (fun v _=>v=.bl true) fun _ _ _=>False)
  (hCX:∀ H e s',CX [] H s₁ (fun _ _ _=>False) e s'->False) :
  codeAny (model P w) callerA (.call (.ref fa) ⟨[.ref a],[]⟩) (fun r s'=>r=.ok (.ret (.bool true))/\OldK s₁.heap s'.heap/\s'.os=s₁.os/\AllBare s'.gens) s₁:=by
 have rv:=Wm hi
 have lenV:=hi.length
 have core:∀ H:Hp,ZjG H->SqL K H a (ns.map V.int)->HOk P w H s₁.heap->(∀ b,H b≠none->b=a)->(H a≠none->K.lookup a=none) ->
   codeAny (model P w) callerA (.call (.ref fa) ⟨[.ref a],[]⟩) (fun r s'=>r=.ok (.ret (.bool true))/\OldK s₁.heap s'.heap/\s'.os=s₁.os/\AllBare s'.gens) s₁:=by
  intro H hO hS hok hA hK
  have base_of:∀ {b:Addr} {o:Obj},s₁.heap.get? b=some o->H b=none->(ZeZ s₁.heap H).get? b=some o:=fun e n=>ZeY e n
  have noA:∀ {b:Addr} {o:Obj} {es:Array DictEntry} {ep:Nat},s₁.heap.get? b=some o->o.data=.dict es ep->H b=none:=fun {b o es ep} e d=>by
   cases q:H b with
   | none=>rfl
   | some u=>
    have e':b=a:=hA b (by rw [q]; simp)
    subst e'
    rw [ha] at e; cases e
    have d':Data.seq vs.toArray _=Data.dict es ep:=d
    cases d'
  have nsK:∀ {b:Addr} {m:Str->Option Value},s₁.heap.Ns b m->(ZeZ s₁.heap H).Ns b m:=fun {b m} ⟨o,es,ep,e,d,r⟩=>⟨o,es,ep,base_of e (noA e d),d,r⟩
  have hKb:K.In (ZeZ s₁.heap H):=fun b o e=>base_of (KX b o e) (by
   cases q:H b with
   | none=>rfl
   | some u=>
    have e':b=a:=hA b (by rw [q]; simp)
    subst e'
    rw [hK (by rw [q]; simp)] at e; cases e)
  have hM:Mod K mg (ZeZ s₁.heap H):=⟨hKb,nsK hns,⟨mb,nsK hb,hbb⟩,let ⟨mc,h1,h2⟩:=hlim; ⟨mc,nsK h1,h2⟩⟩
  have e0:ZiX P w K mg (ZeZ s₁.heap H) callerA [] s₁ H:=⟨rfl,hM,fun b o e=>ZgF e,Nat.le_of_eq (Zdt _ _),trivial,fun b hb=>absurd (show b∈([]:List Addr) from hb) (by simp),hok,.of_eq hg⟩
  refine codeAny_mono ((F _ hKb (nsK hns)).run callerA [] s₁ H ⟨[.ref a],[]⟩ [.ref a] [.ref a] _ _ hr e0 (hbind s₁ (.ref a)) (.cons rfl .nil) (hsp H hO hS)) fun r s' h=>?_
  cases r with
  | error e=>exact (hCX H e s' h).elim
  | ok fl=>
   cases fl with
   | next=>exact False.elim h
   | brk=>exact False.elim h
   | cont=>exact False.elim h
   | ret u=>
    obtain ⟨v,H',os,bare,un,hok',r',q⟩:=h
    have q':v=.bl true:=q
    subst q'
    obtain rfl:u=Value.bool true:=r'
    refine ⟨rfl,OldK.of_keep fun b o e=>?_,os,bare⟩
    cases q:H b with
    | none=>exact un.keep b o e q (by intro z; exact absurd (show b∈([]:List Addr) from z) (by simp)) (by simp)
    | some u=>
     rcases hO b with z | ⟨ob,xs,z⟩
     ·rw [q] at z; cases z
     ·have z2:=un.frzs b ob _ z
      obtain ⟨e1,_⟩:=hok b _ z
      obtain ⟨e2,_⟩:=hok' b _ z2
      rw [e] at e1; cases e1
      exact e2
 cases hk:K.lookup a with
 | some o=>
  have e:=KX a o hk
  rw [ha] at e
  cases e
  refine core (fun _=>none) (fun _=>.inl rfl) (.inr ⟨_,vs.toArray,_,hk,rfl,rfl,rfl,by rw [List.size_toArray,lenV]; exact hl,by simpa using rv⟩) (fun b u z=>by have z':(none:Option HO)=some u:=z; cases z') (fun b z=>absurd rfl z) fun z=>absurd rfl z
 | none=>
  refine core (fun b=>if b=a then some (.frz { cls:=.type "list",data:=.seq vs.toArray } (.lst (ns.map V.int))) else none) (fun b=>?_) (.inl (.inr ⟨{ cls:=.type "list",data:=.seq vs.toArray },if_pos rfl⟩)) (fun b u z=>?_) (fun b z=>?_) fun _=>hk
  ·by_cases hb:b=a
   ·exact .inr ⟨_,_,if_pos hb⟩
   ·exact .inl (if_neg hb)
  ·by_cases hb:b=a
   ·have z':=(if_pos hb).symm.trans z
    cases z'
    subst hb
    exact ⟨ha,by rw [List.length_map]; exact hl,vs,_,rv,ha⟩
   ·have z':=(if_neg hb).symm.trans z
    cases z'
  ·by_cases hb:b=a
   ·exact hb
   ·exact absurd (if_neg hb) z
theorem walk_of {l:PySem.W.OpenLaw} {n k:Nat} {q:Program} {loose:List Str} {XP:(Str->Option Value)->Heap->Prop} {YP:World->Heap->Prop} {d:DefRec} {K:Params->PySem.W.Frag} {CX:World->CXT} {sp:World->Sp} {x:Str}
  (hn:l.most=some n) (hn2:n<=sizeLine) (hdf:d.params.defaults=[]) (hr:Room k callerA)
  (hY:∀ (w:World) (h:Heap),YP w h->(K w.params).In h)
  (F:∀ (w:World) (mg:Str->Option Value) (fa:Addr) (h:Heap),(K w.params).In h->h.Ns mainGlobals mg->mg d.name=some (.ref fa) ->
   ∃ fd:FuncData,(∀ (s:Shared) (u:Value),BindsTo s fd ⟨[u],[]⟩ [(x,u)]) /\
    ∀ base:Heap,(K w.params).In base->base.Ns mainGlobals mg->Zfq l.prog w (K w.params) mg base (CX w) k fa fd [x] (sp w))
  (hsp:∀ (w:World) (H:Hp) (a:Addr) (ns:List Int),ns.length<=n->ZjG H->SqL (K w.params) H a (ns.map V.int)->sp w [.ref a] H (fun v _=>v=.bl true) fun _ _ _=>False)
  (hCX:∀ (w:World) (H:Hp) (s:Shared) (e:Value) (s':Shared),CX w [] H s (fun _ _ _=>False) e s'->False) :
  PySem.W.WalkO q loose XP YP l.row.toRowW d [] (fun f vs=>PySem.call f vs):=by
 refine Att.attach_call hn hdf fun w s₀ s₁ mg mb fa o pm cd doc a vs ns G Y ho hd hcd hmg hobj hints hlen hg=>?_
 have KX:=hY w _ Y
 obtain ⟨fd,hb,hF⟩:=F w mg fa _ KX G.T.g hmg
 exact ZeO KX G.T.g G.T.b G.T.builtins G.T.nolimit hg hobj hints (Nat.le_trans hlen hn2) hr hF hb (fun H hO hS=>hsp w H a ns hlen hO hS) fun H e s'=>hCX w H s₁ e s'
noncomputable def Q0 (s:Stmt):Arguments:=match s with
 | .FunctionDef _ a _ _ _ _ _ _ _ _=>a
 | _=>{ posonlyargs:=[],args:=[],vararg:=none,kwonlyargs:=[],kw_defaults:=[],kwarg:=none,defaults:=[] }
noncomputable def YU (s:Stmt):List Stmt:=match s with
 | .FunctionDef _ _ b _ _ _ _ _ _ _=>b
 | _=>[]
noncomputable def Zf (s:Stmt):Scope:=match s with
 | .FunctionDef _ _ _ _ _ _ sc _ _ _=>sc
 | _=>{ kind:=.function,names:=[],isGenerator:=false,isCoroutine:=false }
noncomputable abbrev CX0:CXT:=fun _ _ _ _ _ _=>False
noncomputable abbrev E0:XK:=fun _ _ _=>False
theorem Zji {X:Cx}:Zeb CX0 X E0:=fun _ _ _ _ _ _ _ h=>h.elim
structure Fun (K:PySem.W.Frag) (x qual:Str) (st:Stmt) (f:Addr) (fd:FuncData):Prop where
 ex:∃ (oc:Value) (od:Option Addr) (kV doc pm:Value) (an:Option Addr) (cdv ct:Value) (osl:Array (Option Value)),
  fd=PySem.W.fnOf x qual (Q0 st) (YU st) (Zf st) .none kV doc pm an cdv ct/\K.lookup f=some ⟨oc,od,.func fd,osl⟩/\PySem.W.codeIn K cdv qual=true
 kp:PySem.W.keepIn K (.ref f)=true
section
variable {P:Program} {w:World} {K:PySem.W.Frag} {mg:Str->Option Value} {base:Heap}
theorem Fun.ok {x qual:Str} {st:Stmt} {f:Addr} {fd:FuncData} {N ps:List Str} {k:Nat} {sp:Sp} (F:Fun K x qual st f fd) (S:Zx N ps (Zf st)) (len:∀ vs H Q E,sp vs H Q E->vs.length=ps.length)
  (hbody:∀ (cdv:Value) (A:Around) (outer:List Env) (s:Shared) (H:Hp) (vs:List V) (Q:VK) (E:XK),Room k (A.deeper (envOfC qual (Zf st) s.heap.objs.size f cdv))->sp vs H Q E ->
   ∃ t,PSs (ZfY CX0 P w K mg base N qual (Zf st) f cdv A outer s H E).nox (YU st) t/\t { nx:=fun _ H'=>Q .non H',rt:=Q } (start N vs) H):Zfq P w K mg base CX0 (k+1) f fd ps sp:=by
 obtain ⟨oc,od,kV,doc,pm,an,cdv,ct,osl,rfl,lk,hcd⟩:=F.ex
 refine Zjx lk hcd S len fun A outer s H vs Q E hr hsp=>?_
 obtain ⟨t,h,q⟩:=hbody cdv A outer s H vs Q E hr hsp
 exact ⟨t,h.nox,q⟩
theorem Fun.binds {x qual:Str} {st:Stmt} {f:Addr} {fd:FuncData} {ps:List Str} (F:Fun K x qual st f fd)
  (h:∀ (kV doc pm:Value) (an:Option Addr) (cdv ct:Value) (us:List Value),us.length=ps.length->bindArgs (PySem.W.fnOf x qual (Q0 st) (YU st) (Zf st) .none kV doc pm an cdv ct) ⟨us,[]⟩=pure (ps.zip us)):Binds K fd ps []:=by
 obtain ⟨oc,od,kV,doc,pm,an,cdv,ct,osl,rfl,lk,hcd⟩:=F.ex
 exact .all (h kV doc pm an cdv ct)
theorem Zip {x qual:Str} {st:Stmt} {f:Addr} {oc:Value} {od an:Option Addr} {osl:Array (Option Value)} {kV doc pm cdv ct:Value} (l:K.lookup f=some ⟨oc,od,.func (PySem.W.fnOf x qual (Q0 st) (YU st) (Zf st) .none kV doc pm an cdv ct),osl⟩)
  (c:PySem.W.codeIn K cdv qual=true) (k:PySem.W.keepIn K (.ref f)=true):Fun K x qual st f (PySem.W.fnOf x qual (Q0 st) (YU st) (Zf st) .none kV doc pm an cdv ct):=⟨⟨oc,od,kV,doc,pm,an,cdv,ct,osl,rfl,l,c⟩,k⟩
end
section
variable {X:Cx}
theorem pv (i:Nat) {x:Str} {pos:Pos} (hN:X.N[i]?=some x:=by rfl) (hv:Vis X.env.scope x:=by first | exact Or.inl rfl | exact Or.inr (Or.inl rfl) | exact Or.inr (Or.inr rfl)) (hd:(x==("__debug__":Str))=false:=by decide)
  (hcd:(x==("__classdict__":Str))=false:=by decide):PE X (.Name x pos) (Zhb i):=ZhN hN hv hd hcd
end
theorem ZjP {A B:Prop} (h:B):if false=true then A else B:=by
 rw [if_neg Bool.false_ne_true]
 exact h
theorem ZjO {A B:Prop} (h:A):if true=true then A else B:=by
 rw [if_pos rfl]
 exact h
noncomputable def Same (H H':Hp):Prop:=∀ b o,H b=some o->H' b=some o
theorem Same.refl (H:Hp):Same H H:=fun _ _ h=>h
theorem Same.trans {H H1 H2:Hp} (a:Same H H1) (b:Same H1 H2):Same H H2:=fun c o h=>b c o (a c o h)
theorem Same.free {H H':Hp} (e:Same H H') {l:Addr} (h:H' l=Option.none):H l=Option.none:=by
 cases q:H l with
 | none=>rfl
 | some o=>
  rw [e l o q] at h
  cases h
theorem Same.seq {K:PySem.W.Frag} {H H':Hp} {a:Addr} {xs:List V} (e:Same H H') (h:SqL K H a xs):SqL K H' a xs:=by
 rcases h with (h | ⟨o,h⟩) | h
 ·exact .inl (.inl (e _ _ h))
 ·exact .inl (.inr ⟨o,e _ _ h⟩)
 ·exact .inr h
end L2
namespace L3
open PySem PySem.Spec PyProof.Rows L2
inductive D where
 | non | bl (b:Bool) | int (i:Int) | str (x:Str) | tup (xs:List D) | lst (xs:List D)
 deriving Inhabited
noncomputable abbrev Fz:=Addr->Prop
mutual
noncomputable def Rep (K:PySem.W.Frag) (F:Fz) (H:Hp):D->V->Prop
 | .non,v=>v=.non
 | .bl b,v=>v=.bl b
 | .int i,v=>v=.int i
 | .str x,v=>v=.str x
 | .tup ds,v=>∃ a xs,v=.ref a/\SqT K H a xs/\RepL K F H ds xs
 | .lst ds,v=>∃ a xs,v=.ref a/\F a/\SqL K H a xs/\RepL K F H ds xs
noncomputable def RepL (K:PySem.W.Frag) (F:Fz) (H:Hp):List D->List V->Prop
 | [],xs=>xs=[]
 | d::ds,xs=>∃ y ys,xs=y::ys/\Rep K F H d y/\RepL K F H ds ys
end
structure Ext (K:PySem.W.Frag) (F:Fz) (H:Hp) (F':Fz) (H':Hp):Prop where
 sub:∀ a,F a->F' a
 ls:∀ a xs,F a->SqL K H a xs->SqL K H' a xs
 ts:∀ a xs,SqT K H a xs->SqT K H' a xs
theorem Ext.refl {K:PySem.W.Frag} {F:Fz} {H:Hp}:Ext K F H F H:=⟨fun _ h=>h,fun _ _ _ h=>h,fun _ _ h=>h⟩
theorem Ext.trans {K:PySem.W.Frag} {F F1 F2:Fz} {H H1 H2:Hp} (a:Ext K F H F1 H1) (b:Ext K F1 H1 F2 H2):Ext K F H F2 H2:=
 ⟨fun x h=>b.sub x (a.sub x h),fun x xs hf h=>b.ls x xs (a.sub x hf) (a.ls x xs hf h),fun x xs h=>b.ts x xs (a.ts x xs h)⟩
mutual
theorem Rep.ext {K:PySem.W.Frag} {F F':Fz} {H H':Hp} (e:Ext K F H F' H'):∀ {d:D} {v:V},Rep K F H d v->Rep K F' H' d v
 | .non,_,h=>h
 | .bl _,_,h=>h
 | .int _,_,h=>h
 | .str _,_,h=>h
 | .tup ds,_,h=>by
  unfold Rep at h ⊢
  obtain ⟨a,xs,rfl,ht,hr⟩:=h
  exact ⟨a,xs,rfl,e.ts a xs ht,RepL.ext e hr⟩
 | .lst ds,_,h=>by
  unfold Rep at h ⊢
  obtain ⟨a,xs,rfl,hf,hl,hr⟩:=h
  exact ⟨a,xs,rfl,e.sub a hf,e.ls a xs hf hl,RepL.ext e hr⟩
theorem RepL.ext {K:PySem.W.Frag} {F F':Fz} {H H':Hp} (e:Ext K F H F' H'):∀ {ds:List D} {vs:List V},RepL K F H ds vs->RepL K F' H' ds vs
 | [],_,h=>h
 | d::ds,_,h=>by
  unfold RepL at h ⊢
  obtain ⟨y,ys,rfl,h1,h2⟩:=h
  exact ⟨y,ys,rfl,Rep.ext e h1,RepL.ext e h2⟩
end
theorem RepL.length {K:PySem.W.Frag} {F:Fz} {H:Hp}:∀ {ds:List D} {vs:List V},RepL K F H ds vs->ds.length=vs.length
 | [],_,h=>by unfold RepL at h; subst h; rfl
 | d::ds,_,h=>by
  unfold RepL at h
  obtain ⟨y,ys,rfl,_,h2⟩:=h
  simp [RepL.length h2]
theorem RepL.nil {K:PySem.W.Frag} {F:Fz} {H:Hp}:RepL K F H [] []:=by unfold RepL; rfl
theorem RepL.cons {K:PySem.W.Frag} {F:Fz} {H:Hp} {d:D} {ds:List D} {v:V} {vs:List V} (h1:Rep K F H d v) (h2:RepL K F H ds vs):RepL K F H (d::ds) (v::vs):=by
 unfold RepL; exact ⟨v,vs,rfl,h1,h2⟩
theorem RepL.uncons {K:PySem.W.Frag} {F:Fz} {H:Hp} {d:D} {ds:List D} {vs:List V} (h:RepL K F H (d::ds) vs):∃ y ys,vs=y::ys/\Rep K F H d y/\RepL K F H ds ys:=by
 unfold RepL at h; exact h
theorem RepL.unnil {K:PySem.W.Frag} {F:Fz} {H:Hp} {vs:List V} (h:RepL K F H [] vs):vs=[]:=by unfold RepL at h; exact h
theorem RepL.get {K:PySem.W.Frag} {F:Fz} {H:Hp}:∀ {ds:List D} {vs:List V} {i:Nat} {d:D},RepL K F H ds vs->ds[i]?=some d->∃ v,vs[i]?=some v/\Rep K F H d v
 | [],_,_,_,_,e=>by simp at e
 | d::ds,_,0,d',h,e=>by
  obtain ⟨y,ys,rfl,h1,_⟩:=h.uncons
  simp at e; subst e
  exact ⟨y,rfl,h1⟩
 | d::ds,_,i+1,d',h,e=>by
  obtain ⟨y,ys,rfl,_,h2⟩:=h.uncons
  obtain ⟨v,e1,r⟩:=RepL.get (i:=i) h2 (by simpa using e)
  exact ⟨v,by simpa using e1,r⟩
theorem RepL.append {K:PySem.W.Frag} {F:Fz} {H:Hp}:∀ {ds es:List D} {vs ws:List V},RepL K F H ds vs->RepL K F H es ws->RepL K F H (ds++es) (vs++ws)
 | [],_,_,_,h,h'=>by rw [h.unnil]; exact h'
 | d::ds,es,_,ws,h,h'=>by
  obtain ⟨y,ys,rfl,h1,h2⟩:=h.uncons
  exact .cons h1 (RepL.append h2 h')
theorem RepL.take {K:PySem.W.Frag} {F:Fz} {H:Hp}:∀ {ds:List D} {vs:List V} (n:Nat),RepL K F H ds vs->RepL K F H (ds.take n) (vs.take n)
 | _,_,0,_=>by simp; exact .nil
 | [],_,_+1,h=>by rw [h.unnil]; simp; exact .nil
 | d::ds,_,n+1,h=>by
  obtain ⟨y,ys,rfl,h1,h2⟩:=h.uncons
  exact .cons h1 (RepL.take n h2)
theorem RepL.drop {K:PySem.W.Frag} {F:Fz} {H:Hp}:∀ {ds:List D} {vs:List V} (n:Nat),RepL K F H ds vs->RepL K F H (ds.drop n) (vs.drop n)
 | _,_,0,h=>h
 | [],_,_+1,h=>by rw [h.unnil]; simp; exact .nil
 | d::ds,_,n+1,h=>by
  obtain ⟨y,ys,rfl,h1,h2⟩:=h.uncons
  exact RepL.drop n h2
theorem RepL.reverse {K:PySem.W.Frag} {F:Fz} {H:Hp}:∀ {ds:List D} {vs:List V},RepL K F H ds vs->RepL K F H ds.reverse vs.reverse
 | [],_,h=>by rw [h.unnil]; exact .nil
 | d::ds,_,h=>by
  obtain ⟨y,ys,rfl,h1,h2⟩:=h.uncons
  rw [List.reverse_cons,List.reverse_cons]
  exact (RepL.reverse h2).append (.cons h1 .nil)
structure Grow (F:Fz) (H:Hp) (F':Fz) (H':Hp):Prop where
 same:Same H H'
 sub:∀ a,F a->F' a
 new:∀ a,F' a->F a\/(H a=none/\H' a≠none)
theorem Grow.refl {F:Fz} {H:Hp}:Grow F H F H:=⟨Same.refl H,fun _ h=>h,fun _ h=>.inl h⟩
theorem Same.tup {K:PySem.W.Frag} {H H':Hp} {a:Addr} {xs:List V} (e:Same H H') (h:SqT K H a xs):SqT K H' a xs:=by
 rcases h with (h | ⟨o,h⟩) | h
 ·exact .inl (.inl (e _ _ h))
 ·exact .inl (.inr ⟨o,e _ _ h⟩)
 ·exact .inr h
theorem Grow.ext {K:PySem.W.Frag} {F F':Fz} {H H':Hp} (g:Grow F H F' H'):Ext K F H F' H':=⟨g.sub,fun _ _ _ h=>g.same.seq h,fun _ _ h=>Same.tup g.same h⟩
theorem Grow.trans {F F1 F2:Fz} {H H1 H2:Hp} (a:Grow F H F1 H1) (b:Grow F1 H1 F2 H2):Grow F H F2 H2:=
 ⟨a.same.trans b.same,fun x h=>b.sub x (a.sub x h),fun x h=>(b.new x h).elim (fun z=>(a.new x z).elim .inl fun ⟨z1,z2⟩=>.inr ⟨z1,fun z3=>z2 (b.same.free z3)⟩) fun ⟨z1,z2⟩=>.inr ⟨a.same.free z1,z2⟩⟩
theorem Grow.laid {F:Fz} {H:Hp} {p:Addr} {o:HO} (h:H p=none):Grow F H (fun a=>F a\/a=p) (upd H p o):=
 ⟨fun b u q=>by rw [Zy (Zu q h)]; exact q,fun a z=>.inl z,fun a z=>z.elim .inl fun e=>.inr (by rw [e,ZB]; exact ⟨h,by simp⟩)⟩
theorem Grow.laid0 {F:Fz} {H:Hp} {p:Addr} {o:HO} (h:H p=none):Grow F H F (upd H p o):=
 ⟨fun b u q=>by rw [Zy (Zu q h)]; exact q,fun a z=>z,fun a z=>.inl z⟩
theorem Rep.grow {K:PySem.W.Frag} {F F':Fz} {H H':Hp} {d:D} {v:V} (h:Rep K F H d v) (g:Grow F H F' H'):Rep K F' H' d v:=Rep.ext g.ext h
theorem RepL.grow {K:PySem.W.Frag} {F F':Fz} {H H':Hp} {d:List D} {v:List V} (h:RepL K F H d v) (g:Grow F H F' H'):RepL K F' H' d v:=RepL.ext g.ext h
inductive Sl where
 | no | val (d:D) | own (ds:List D)
noncomputable abbrev Rho:=List Sl
structure EnvOk (K:PySem.W.Frag) (F0:Fz) (H0:Hp) (F:Fz) (σ:L2.St) (H:Hp) (ρ:Rho):Prop where
 base:Grow F0 H0 F H
 val:∀ (i:Nat) d,ρ[i]?=some (.val d)->∃ v,σ[i]?=some (some v)/\Rep K F H d v
 own:∀ (i:Nat) ds,ρ[i]?=some (.own ds)->∃ a xs,σ[i]?=some (some (.ref a))/\H a=some (.lst xs)/\¬ F a/\H0 a=none/\RepL K F H ds xs
 inj:∀ (i j:Nat) ds es a,ρ[i]?=some (.own ds)->ρ[j]?=some (.own es)->σ[i]?=some (some (.ref a))->σ[j]?=some (some (.ref a))->i=j
 len:ρ.length=σ.length
 fz:∀ a,F a->H a≠none\/∃ o,K.lookup a=some o
theorem EnvOk.grow {K:PySem.W.Frag} {F0 F F':Fz} {H0 H H':Hp} {σ:L2.St} {ρ:Rho} (e:EnvOk K F0 H0 F σ H ρ) (g:Grow F H F' H'):EnvOk K F0 H0 F' σ H' ρ where
 base:=e.base.trans g
 val:=fun i d h=>let ⟨v,h1,h2⟩:=e.val i d h; ⟨v,h1,h2.grow g⟩
 own:=fun i ds h=>by
  obtain ⟨a,xs,h1,h2,h3,h4,h5⟩:=e.own i ds h
  refine ⟨a,xs,h1,g.same _ _ h2,fun z=>?_,h4,h5.grow g⟩
  rcases g.new a z with z | z
  ·exact h3 z
  ·rw [h2] at z; cases z.1
 inj:=e.inj
 len:=e.len
 fz:=fun a z=>by
  rcases g.new a z with z | z
  ·rcases e.fz a z with z | z
   ·exact .inl fun z2=>z (g.same.free z2)
   ·exact .inr z
  ·exact .inl z.2
noncomputable abbrev DE:=Rho->Option D
noncomputable abbrev DT:=Rho->Option Bool
noncomputable abbrev DA:=Rho->Option (List D)
inductive RdP (K:PySem.W.Frag) (f:DE) (σ:L2.St) (H:Hp) (Q:VK):Prop
 | mk (ρ:Rho) (F0:Fz) (H0:Hp) (F:Fz) (d:D) (ok:EnvOk K F0 H0 F σ H ρ) (e:f ρ=some d) (q:∀ v F' H',Grow F H F' H'->Rep K F' H' d v->Q v H')
noncomputable def rd (K:PySem.W.Frag) (f:DE):TE:=fun σ H Q=>RdP K f σ H Q
inductive ZkE (K:PySem.W.Frag) (f:DT) (σ:L2.St) (H:Hp) (Q:Bool->Hp->Prop):Prop
 | mk (ρ:Rho) (F0:Fz) (H0:Hp) (F:Fz) (d:Bool) (ok:EnvOk K F0 H0 F σ H ρ) (e:f ρ=some d) (q:∀ F' H',Grow F H F' H'->Q d H')
noncomputable def rdT (K:PySem.W.Frag) (f:DT):TT:=fun σ H Q=>ZkE K f σ H Q
inductive ZkJ (K:PySem.W.Frag) (f:DA) (σ:L2.St) (H:Hp) (Q:List V->Hp->Prop):Prop
 | mk (ρ:Rho) (F0:Fz) (H0:Hp) (F:Fz) (d:List D) (ok:EnvOk K F0 H0 F σ H ρ) (e:f ρ=some d) (q:∀ v F' H',Grow F H F' H'->RepL K F' H' d v->Q v H')
noncomputable def rdA (K:PySem.W.Frag) (f:DA):TA:=fun σ H Q=>ZkJ K f σ H Q
noncomputable def ED (X:Cx) (e:Expr) (f:DE):Prop:=PE X e (rd X.K f)
noncomputable def TD (X:Cx) (e:Expr) (f:DT):Prop:=PT X e (rdT X.K f)
noncomputable def WTD (X:Cx) (e:Expr) (f:DT):Prop:=PW X e (rdT X.K f)
noncomputable def AD (X:Cx) (es:List Expr) (f:DA):Prop:=PA X es (rdA X.K f)
theorem PE.imp {X:Cx} {e:Expr} {t t':TE} (h:PE X e t) (i:∀ σ H Q,t' σ H Q->t σ H Q):PE X e t':=fun pins s σ H Q I q=>h pins s σ H Q I (i σ H Q q)
theorem PT.imp {X:Cx} {e:Expr} {t t':TT} (h:PT X e t) (i:∀ σ H Q,t' σ H Q->t σ H Q):PT X e t':=fun pins s σ H Q I q=>h pins s σ H Q I (i σ H Q q)
theorem PW.imp {X:Cx} {e:Expr} {t t':TT} (h:PW X e t) (i:∀ σ H Q,t' σ H Q->t σ H Q):PW X e t':=fun wh pins s σ H Q I q=>h wh pins s σ H Q I (i σ H Q q)
theorem PA.imp {X:Cx} {e:List Expr} {t t':TA} (h:PA X e t) (i:∀ σ H Q,t' σ H Q->t σ H Q):PA X e t':=fun pos pins s σ H Q I q=>h pos pins s σ H Q I (i σ H Q q)
theorem PS.imp {X:Cx} {e:Stmt} {t t':TS} (h:PS X e t) (i:∀ D σ H,t' D σ H->t D σ H):PS X e t':=fun pins s σ H D I q=>h pins s σ H D I (i D σ H q)
theorem PSs.imp {X:Cx} {e:List Stmt} {t t':TS} (h:PSs X e t) (i:∀ D σ H,t' D σ H->t D σ H):PSs X e t':=fun pins s σ H D I q=>h pins s σ H D I (i D σ H q)
section
variable {X:Cx} {pos:Pos}
noncomputable def Zd (i:Nat):DE:=fun ρ=>match ρ[i]? with | some (.val d)=>some d | _=>none
noncomputable def Zl (d:D):DE:=fun _=>some d
theorem ZdM {i:Nat} {ρ:Rho} {d:D} (h:Zd i ρ=some d):ρ[i]?=some (.val d):=by
 unfold Zd at h
 split at h
 ·rename_i e; rw [e]; cases h; rfl
 ·cases h
theorem Za {i:Nat} {e:Expr} (h:PE X e (Zhb i)):ED X e (Zd i):=PE.imp h fun σ H Q zq=>by
 obtain ⟨ρ,F0,H0,F,d,ok,e,q⟩:=zq
 obtain ⟨v,h1,h2⟩:=ok.val i d (ZdM e)
 exact ⟨v,h1,q v F H .refl h2⟩
theorem Ze {i:Int} {j}:ED X (.Constant (.int i) j pos) (Zl (.int i)):=PE.imp ZfE fun σ H Q zq=>by
 obtain ⟨ρ,F0,H0,F,d,ok,e,q⟩:=zq
 cases e; exact q _ F H .refl (by unfold Rep; rfl)
theorem Ze6 {b:Bool} {j}:ED X (.Constant (.bool b) j pos) (Zl (.bl b)):=PE.imp Zjh fun σ H Q zq=>by
 obtain ⟨ρ,F0,H0,F,d,ok,e,q⟩:=zq
 cases e; exact q _ F H .refl (by unfold Rep; rfl)
theorem Ziw {j}:ED X (.Constant .none j pos) (Zl .non):=PE.imp ZhQ fun σ H Q zq=>by
 obtain ⟨ρ,F0,H0,F,d,ok,e,q⟩:=zq
 cases e; exact q _ F H .refl (by unfold Rep; rfl)
theorem ZgU {x:Str} {i:Int} {t:Tok} (hg:Gl X x) (hm:X.mg x=some (.int i t)) (hd:(x==("__debug__":Str))=false:=by decide):ED X (.Name x pos) (Zl (.int i)):=
 PE.imp (Zc2 hg hm (v:=.int i) ⟨t,rfl⟩ hd) fun σ H Q ⟨ρ,F0,H0,F,d,ok,e,q⟩=>by cases e; exact q _ F H .refl (by unfold Rep; rfl)
inductive R2P (K:PySem.W.Frag) (r:D->D->Option D) (v u:V) (H:Hp) (Q:VK):Prop
 | mk (x y:D) (F:Fz) (d:D) (r1:Rep K F H x v) (r2:Rep K F H y u) (e:r x y=some d) (q:∀ w F' H',Grow F H F' H'->Rep K F' H' d w->Q w H')
noncomputable def r2 (K:PySem.W.Frag) (r:D->D->Option D):R2:=fun v u H Q=>R2P K r v u H Q
noncomputable def Zg (r:D->D->Option D) (f g:DE):DE:=fun ρ=>(f ρ).bind fun x=>(g ρ).bind fun y=>r x y
theorem bind_some {α β:Type} {o:Option α} {f:α->Option β} {b:β} (h:o.bind f=some b):∃ a,o=some a/\f a=some b:=by
 cases o with
 | none=>cases h
 | some a=>exact ⟨a,rfl,h⟩
theorem Zbh {K:PySem.W.Frag} {r:D->D->Option D} {f g:DE} {σ:L2.St} {H:Hp} {Q:VK} (h:rd K (Zg r f g) σ H Q):tOp (r2 K r) (rd K f) (rd K g) σ H Q:=by
 obtain ⟨ρ,F0,H0,F,d,ok,e,q⟩:=h
 obtain ⟨x,ex,e⟩:=bind_some e
 obtain ⟨y,ey,e⟩:=bind_some e
 exact ⟨ρ,F0,H0,F,x,ok,ex,fun v F1 H1 g1 r1=>⟨ρ,F0,H0,F1,y,ok.grow g1,ey,fun u F2 H2 g2 r2'=>
  ⟨x,y,F2,d,r1.grow g2,r2',e,fun w F3 H3 g3 r3=>q w F3 H3 (g1.trans (g2.trans g3)) r3⟩⟩⟩
noncomputable def Op2 (X:Cx) (f:Value->Value->Sem Value) (r:D->D->Option D):Prop:=OpR X f (r2 X.K r)
variable {a b c:Expr} {f g h:DE}
theorem Zk {op:Operator} {r:D->D->Option D} (ho:Op2 X (binaryOp op) r) (ha:ED X a f) (hb:ED X b g):ED X (.BinOp a op b pos) (Zg r f g):=
 PE.imp (Zjf ho ha hb) fun _ _ _=>Zbh
theorem ZfR {op:CmpOp} {r:D->D->Option D} (ho:Op2 X (compareOp op) r) (ha:ED X a f) (hb:ED X b g) (hm:behindInMarks op b=false):ED X (.Compare a [op] [b] pos) (Zg r f g):=
 PE.imp (Zgz ho ha hb hm) fun _ _ _=>Zbh
noncomputable def ZR (f:DE):DT:=fun ρ=>(f ρ).bind fun d=>match d with | .bl b=>some b | _=>none
theorem Zbi {K:PySem.W.Frag} {f:DE} {σ:L2.St} {H:Hp} {Q:Bool->Hp->Prop} (h:rdT K (ZR f) σ H Q):rd K f σ H fun x H'=>∃ k,x=.bl k/\Q k H':=by
 obtain ⟨ρ,F0,H0,F,k,ok,e,q⟩:=h
 obtain ⟨d,ed,e⟩:=bind_some e
 cases d with
 | bl b=>
  cases e
  exact ⟨ρ,F0,H0,F,_,ok,ed,fun v F' H' g r=>⟨k,by unfold Rep at r; exact r,q F' H' g⟩⟩
 | _=>cases e
theorem YY {op:CmpOp} {r:D->D->Option D} (ho:Op2 X (compareOp op) r) (ha:ED X a f) (hb:ED X b g) (hm:behindInMarks op b=false):TD X (.Compare a [op] [b] pos) (ZR (Zg r f g)):=
 PT.imp (Zgr ho ha hb hm) fun σ H Q q=>Zbh (Zbi q)
theorem Zho (ha:ED X a f) (he:∀ whole,isTrue a X.env whole=(do let v <- whole; standAt a.pos; holding [v] (truthy v)):=by intro _; rfl):TD X a (ZR f):=
 PT.imp (ZhG ha he) fun σ H Q q=>Zbi q
noncomputable def ZbQ (f g:DT):DT:=fun ρ=>(f ρ).bind fun x=>match x with | true=>g ρ | false=>some false
noncomputable def ZiQ (f g:DT):DT:=fun ρ=>(f ρ).bind fun x=>match x with | true=>some true | false=>g ρ
noncomputable def Zek (f:DT):DT:=fun ρ=>(f ρ).bind fun x=>some (!x)
variable {rest:List Expr} {t u:DT}
theorem Za4 (ha:TD X a t):WTD X (.BoolOp .And [a] pos) t:=Zgp ha
theorem Zf8 (ha:TD X a t):WTD X (.BoolOp .Or [a] pos) t:=ZhE ha
theorem Zcs (ha:TD X a t) (hb:WTD X (.BoolOp .And (b::rest) pos) u):WTD X (.BoolOp .And (a::b::rest) pos) (ZbQ t u):=PW.imp (ZhF ha hb) fun σ H Q zq=>by
 obtain ⟨ρ,F0,H0,F,d,ok,e,q⟩:=zq
 obtain ⟨x,ex,e⟩:=bind_some e
 refine ⟨ρ,F0,H0,F,x,ok,ex,fun F1 H1 g1=>?_⟩
 cases x with
 | true=>rw [if_pos rfl]; exact ⟨ρ,F0,H0,F1,d,ok.grow g1,e,fun F2 H2 g2=>q F2 H2 (g1.trans g2)⟩
 | false=>rw [if_neg (by decide)]; cases e; exact q F1 H1 g1
theorem Zhh (ha:TD X a t) (hb:WTD X (.BoolOp .Or (b::rest) pos) u):WTD X (.BoolOp .Or (a::b::rest) pos) (ZiQ t u):=PW.imp (Zjd ha hb) fun σ H Q zq=>by
 obtain ⟨ρ,F0,H0,F,d,ok,e,q⟩:=zq
 obtain ⟨x,ex,e⟩:=bind_some e
 refine ⟨ρ,F0,H0,F,x,ok,ex,fun F1 H1 g1=>?_⟩
 cases x with
 | false=>rw [if_neg (by decide)]; exact ⟨ρ,F0,H0,F1,d,ok.grow g1,e,fun F2 H2 g2=>q F2 H2 (g1.trans g2)⟩
 | true=>rw [if_pos rfl]; cases e; exact q F1 H1 g1
theorem Zi0 (h:WTD X a t):TD X a t:=L2.PW.pt h
theorem Zhp (ha:TD X a t):TD X (.UnaryOp .Not a pos) (Zek t):=PT.imp (ZhH ha) fun σ H Q zq=>by
 obtain ⟨ρ,F0,H0,F,d,ok,e,q⟩:=zq
 obtain ⟨x,ex,e⟩:=bind_some e
 cases e
 exact ⟨ρ,F0,H0,F,x,ok,ex,fun F1 H1 g1=>q F1 H1 g1⟩
noncomputable def r1 (K:PySem.W.Frag) (r:D->Option D):V->Hp->VK->Prop:=fun v H Q=>∃ x F d,Rep K F H x v/\r x=some d/\∀ w F' H',Grow F H F' H'->Rep K F' H' d w->Q w H'
noncomputable def QG (r:D->Option D) (f:DE):DE:=fun ρ=>(f ρ).bind r
noncomputable def Op1 (X:Cx) (f:Value->Sem Value) (r:D->Option D):Prop:=UnR X f (r1 X.K r)
theorem ZaL {op:UnaryOp} {r:D->Option D} (ho:Op1 X (unaryOp op) r) (ha:ED X a f):ED X (.UnaryOp op a pos) (QG r f):=PE.imp (ZhO ho ha) fun σ H Q zq=>by
 obtain ⟨ρ,F0,H0,F,d,ok,e,q⟩:=zq
 obtain ⟨x,ex,e⟩:=bind_some e
 exact ⟨ρ,F0,H0,F,x,ok,ex,fun v F1 H1 g1 r1=>⟨x,F1,d,r1,e,fun w F2 H2 g2 r2=>q w F2 H2 (g1.trans g2) r2⟩⟩
noncomputable def Zq:DA:=fun _=>some []
noncomputable def Zb (f:DE) (a:DA):DA:=fun ρ=>(f ρ).bind fun x=>(a ρ).bind fun xs=>some (x::xs)
variable {es:List Expr} {as:DA}
theorem Zh:AD X [] Zq:=PA.imp Zc6 fun σ H Q ⟨ρ,F0,H0,F,d,ok,e,q⟩=>by cases e; exact q _ F H .refl .nil
theorem Zc (ha:ED X a f) (hr:AD X es as) (hs:starEach (a::es) X.env=(false,eval a X.env)::starEach es X.env:=by rfl):AD X (a::es) (Zb f as):=PA.imp (Zaz ha hr hs) fun σ H Q zq=>by
 obtain ⟨ρ,F0,H0,F,d,ok,e,q⟩:=zq
 obtain ⟨x,ex,e⟩:=bind_some e
 obtain ⟨xs,exs,e⟩:=bind_some e
 cases e
 exact ⟨ρ,F0,H0,F,x,ok,ex,fun v F1 H1 g1 r1=>⟨ρ,F0,H0,F1,xs,ok.grow g1,exs,fun vs F2 H2 g2 r2=>q _ F2 H2 (g1.trans g2) (.cons (r1.grow g2) r2)⟩⟩
noncomputable def lim:Nat:=100000
theorem QI {n:Nat} (h:n<=lim):n<=sizeLine:=by have:sizeLine=16777216:=sizeLine_eq; unfold lim at h; omega
noncomputable def U6 (as:DA):DE:=fun ρ=>(as ρ).bind fun xs=>if xs.length<=lim then some (.tup xs) else none
noncomputable def Ziy (as:DA):DE:=fun ρ=>(as ρ).bind fun xs=>if xs.length<=lim then some (.lst xs) else none
theorem Z9 {c:Prop} [Decidable c] {α:Type} {x y:α} (h:(if c then some x else none)=some y):c/\x=y:=by
 by_cases hc:c
 ·rw [if_pos hc] at h; exact ⟨hc,Option.some.inj h⟩
 ·rw [if_neg hc] at h; cases h
theorem QL {x1} (ha:AD X es as):ED X (.Tuple es x1 pos) (U6 as):=PE.imp (ZhP ha) fun σ H Q zq=>by
 obtain ⟨ρ,F0,H0,F,d,ok,e,q⟩:=zq
 obtain ⟨xs,exs,e⟩:=bind_some e
 obtain ⟨hl,rfl⟩:=Z9 e
 refine ⟨ρ,F0,H0,F,xs,ok,exs,fun vs F1 H1 g1 r1=>⟨by rw [<-r1.length]; exact QI hl,fun p hp=>q _ F1 _ (g1.trans (.laid0 hp)) ?_⟩⟩
 unfold Rep
 exact ⟨p,vs,rfl,.of ZB,r1.grow (.laid0 hp)⟩
theorem ZX {K:PySem.W.Frag} {F:Fz} {H:Hp} {p:Addr} {ds:List D} {vs:List V} (hp:H p=none) (r:RepL K F H ds vs):Rep K (fun a=>F a\/a=p) (upd H p (.lst vs)) (.lst ds) (.ref p):=by
 unfold Rep
 exact ⟨p,vs,rfl,.inr rfl,.of ZB,r.grow (.laid hp)⟩
theorem Zix (ha:AD X es as):ED X (.List es pos) (Ziy as):=PE.imp (ZhR ha) fun σ H Q zq=>by
 obtain ⟨ρ,F0,H0,F,d,ok,e,q⟩:=zq
 obtain ⟨xs,exs,e⟩:=bind_some e
 obtain ⟨hl,rfl⟩:=Z9 e
 exact ⟨ρ,F0,H0,F,xs,ok,exs,fun vs F1 H1 g1 r1=>⟨by rw [<-r1.length]; exact QI hl,fun p hp=>q _ _ _ (g1.trans (.laid hp)) (ZX hp r1)⟩⟩
inductive RCP (K:PySem.W.Frag) (r:List D->Option D) (vs:List V) (H:Hp) (Q:VK):Prop
 | mk (xs:List D) (F:Fz) (d:D) (r1:RepL K F H xs vs) (e:r xs=some d) (q:∀ w F' H',Grow F H F' H'->Rep K F' H' d w->Q w H')
noncomputable def rC (K:PySem.W.Frag) (r:List D->Option D):List V->Hp->VK->Prop:=fun vs H Q=>RCP K r vs H Q
noncomputable def ZV (r:List D->Option D) (as:DA):DE:=fun ρ=>(as ρ).bind r
noncomputable def Zan (X:Cx) (f:Value) (r:List D->Option D):Prop:=Zam X f (rC X.K r)
theorem ZcT {K:PySem.W.Frag} {r:List D->Option D} {as:DA} {σ:L2.St} {H:Hp} {Q:VK} (h:rd K (ZV r as) σ H Q):tCB (rC K r) (rdA K as) σ H Q:=by
 obtain ⟨ρ,F0,H0,F,d,ok,e,q⟩:=h
 obtain ⟨xs,exs,e⟩:=bind_some e
 exact ⟨ρ,F0,H0,F,xs,ok,exs,fun vs F1 H1 g1 r1=>⟨xs,F1,d,r1,e,fun w F2 H2 g2 r2=>q w F2 H2 (g1.trans g2) r2⟩⟩
theorem Z1 {id:String} {x:Str} {p:Pos} {e:Expr} {r:List D->Option D} (hc:Zan X (.builtin id) r) (hg:Gl X x) (hm:X.mg x=none) (hv:bootBuiltins x=some (.builtin id)) (ha:AD X (e::es) as) (hn:x≠"__name__":=by decide) (hdb:(x==("__debug__":Str))=false:=by decide)
  (he:starEach (e::es) X.env=(false,eval e X.env)::starEach es X.env:=by rfl) (hpl:(backTo pos (starEach es X.env)).any (·.1)=false:=by rfl):ED X (.Call (.Name x p) (e::es) [] pos) (ZV r as):=
 PE.imp (ZeD hc hg hm hv ha hn hdb he hpl) fun _ _ _=>ZcT
theorem Jg {T:String} {x:Str} {p:Pos} {e:Expr} {r:List D->Option D} (hc:Zan X (.type T) r) (hg:Gl X x) (hm:X.mg x=none) (hv:bootBuiltins x=some (.type T)) (ha:AD X (e::es) as) (hn:x≠"__name__":=by decide) (hdb:(x==("__debug__":Str))=false:=by decide)
  (he:starEach (e::es) X.env=(false,eval e X.env)::starEach es X.env:=by rfl) (hpl:(backTo pos (starEach es X.env)).any (·.1)=false:=by rfl):ED X (.Call (.Name x p) (e::es) [] pos) (ZV r as):=
 PE.imp (Zc3 hc hg hm hv ha hn hdb he hpl) fun _ _ _=>ZcT
noncomputable def spD (K:PySem.W.Frag) (n:Nat) (fn:List D->Option D):Sp:=fun vs H Q _=>∃ xs F d,xs.length=n/\RepL K F H xs vs/\(∀ a,F a->H a≠none\/∃ o,K.lookup a=some o)/\fn xs=some d/\∀ w F' H',Grow F H F' H'->Rep K F' H' d w->Q w H'
noncomputable def FnD (P:Program) (w:World) (K:PySem.W.Frag) (mg:Str->Option Value) (base:Heap) (k:Nat) (f:Addr) (fd:FuncData) (ps:List Str) (fn:List D->Option D):Prop:=Zfq P w K mg base CX0 k f fd ps (spD K ps.length fn)
noncomputable def dFn (n:Nat) (fn:List D->Option D) (as:DA):DE:=fun ρ=>(as ρ).bind fun xs=>if xs.length=n then fn xs else none
theorem Zjz {k:Nat} {f:Addr} {fd:FuncData} {ps:List Str} {fn:List D->Option D} {x:Str} {p:Pos} {e:Expr} (F:FnD X.prog X.w X.K X.mg X.base k f fd ps fn) (hr:Room k X.A) (hg:Gl X x) (hm:X.mg x=some (.ref f)) (hk:PySem.W.keepIn X.K (.ref f)=true) (hb:Binds X.K fd ps [])
  (ha:AD X (e::es) as) (hdb:(x==("__debug__":Str))=false:=by decide) (he:starEach (e::es) X.env=(false,eval e X.env)::starEach es X.env:=by rfl) (hpl:(backTo pos (starEach es X.env)).any (·.1)=false:=by rfl) :
  ED X (.Call (.Name x p) (e::es) [] pos) (dFn ps.length fn as):=PE.imp (ZgA F hr hg hm hk hb .nil Zji ha hdb he hpl) fun σ H Q zq=>by
 obtain ⟨ρ,F0,H0,Fr,d,ok,e,q⟩:=zq
 obtain ⟨xs,exs,e⟩:=bind_some e
 by_cases hl:xs.length=ps.length
 ·rw [if_pos hl] at e
  refine ⟨ρ,F0,H0,Fr,xs,ok,exs,fun vs F1 H1 g1 r1=>?_⟩
  show spD X.K ps.length fn (vs++[]) H1 Q E0
  rw [List.append_nil]
  exact ⟨xs,F1,d,hl,r1,(ok.grow g1).fz,e,fun w F2 H2 g2 r2=>q w F2 H2 (g1.trans g2) r2⟩
 ·rw [if_neg hl] at e; cases e
end
theorem ZY {K:PySem.W.Frag} {F:Fz} {H:Hp} (i:Int):Rep K F H (.int i) (.int i):=by unfold Rep; rfl
theorem Wz {K:PySem.W.Frag} {F:Fz} {H:Hp} (i:Bool):Rep K F H (.bl i) (.bl i):=by unfold Rep; rfl
mutual
noncomputable def JD:D->PyData
 | .non=>.none
 | .bl b=>.bool b
 | .int i=>.int i
 | .str x=>.str x
 | .tup xs=>.tuple (Qf xs)
 | .lst xs=>.list (Qf xs)
noncomputable def Qf:List D->List PyData
 | []=>[]
 | d::ds=>JD d::Qf ds
end
section
variable {X:Cx} {pins:List (Addr×Obj)} {σ:L2.St} {H:Hp} {s:Shared} {F:Fz}
mutual
theorem Q6 (I:Inv X pins σ H s):∀ {d:D} {v:V} {u:Value},Rep X.K F H d v->RelV v u->∃ as,Reads s.heap u (JD d) as
 | .non,v,u,h,r=>by unfold Rep at h; subst h; cases r; exact ⟨_,.none⟩
 | .bl b,v,u,h,r=>by unfold Rep at h; subst h; cases r; exact ⟨_,.bool b⟩
 | .int i,v,u,h,r=>by unfold Rep at h; subst h; obtain ⟨t,rfl⟩:=r; exact ⟨_,.int i t⟩
 | .str x,v,u,h,r=>by unfold Rep at h; subst h; obtain ⟨t,rfl⟩:=r; exact ⟨_,.str x t⟩
 | .tup ds,v,u,h,r=>by
  unfold Rep at h
  obtain ⟨a,xs,rfl,hq,hl⟩:=h
  cases r
  obtain ⟨its,rv,⟨o,e,c,n,hd⟩,_⟩:=I.tuple hq
  obtain ⟨as,ra⟩:=Qz I hl rv
  exact ⟨_,.tuple e c hd (by simpa using ra)⟩
 | .lst ds,v,u,h,r=>by
  unfold Rep at h
  obtain ⟨a,xs,rfl,_,hq,hl⟩:=h
  cases r
  obtain ⟨its,rv,pl,_⟩:=I.list hq
  obtain ⟨o,e,c,n,hd⟩:=pl.isList
  obtain ⟨as,ra⟩:=Qz I hl rv
  exact ⟨_,.list e c hd (by simpa using ra)⟩
theorem Qz (I:Inv X pins σ H s):∀ {ds:List D} {vs:List V} {us:List Value},RepL X.K F H ds vs->Vals vs us->∃ as,ReadsAll s.heap us (Qf ds) as
 | [],vs,us,h,r=>by rw [h.unnil] at r; cases r; exact ⟨_,.nil⟩
 | d::ds,vs,us,h,r=>by
  obtain ⟨y,ys,rfl,h1,h2⟩:=h.uncons
  cases r with
  | cons r1 r2=>
   obtain ⟨as,a1⟩:=Q6 I h1 r1
   obtain ⟨bs,a2⟩:=Qz I h2 r2
   exact ⟨_,.cons a1 a2⟩
end
end
noncomputable def okD (d:D):Bool:=(JD d).canLay0&&decide ((JD d).depth<=30)
noncomputable def deq (x y:D):Bool:=PyData.eqv (JD x) (JD y)
noncomputable def UZ (x y:D):Option D:=if okD x&&okD y then some (.bl (!deq x y)) else none
theorem okD.can {d:D} (h:okD d=true):(JD d).canLay0=true:=(Bool.and_eq_true_iff.mp h).1
theorem okD.dep {d:D} (h:okD d=true):(JD d).depth<=30:=of_decide_eq_true (Bool.and_eq_true_iff.mp h).2
section
variable {X:Cx}
theorem Zhc (hu:X.A.units+64 < cLine):Op2 X (compareOp .NotEq) UZ:=by
 intro pins s σ H x y v u Q I rx ry h
 obtain ⟨dx,dy,F,d,r1,r2,e,q⟩:=h
 obtain ⟨hk,rfl⟩:=Z9 e
 obtain ⟨k1,k2⟩:=Bool.and_eq_true_iff.mp hk
 obtain ⟨as,a1⟩:=Q6 I r1 rx
 obtain ⟨bs,a2⟩:=Q6 I r2 ry
 have d1:=okD.dep k1; have d2:=okD.dep k2
 exact SeqAt.neOverData _ _ _ _ _ _ _ _ _ _ _ _ a1 a2 (okD.can k1) (okD.can k2) (by have:min (JD dx).depth (JD dy).depth<=30:=Nat.le_trans (Nat.min_le_left _ _) d1; omega) ⟨.bl _,H,I,rfl,q _ F H .refl (Wz _)⟩
noncomputable def dI (C:Int->Int->Bool) (g:Int->Int->D):D->D->Option D
 | .int i,.int j=>if C i j then some (g i j) else none
 | _,_=>none
theorem o_I {f:Value->Value->Sem Value} {C:Int->Int->Prop} {c:Int->Int->Bool} {g:Int->Int->V} {gd:Int->Int->D} (h:OpR X f (rI C g)) (hc:∀ i j,c i j=true->C i j) (hg:∀ i j K F H,Rep K F H (gd i j) (g i j)):Op2 X f (dI c gd):=by
 intro pins s σ H x y v u Q I rx ry q
 obtain ⟨dx,dy,F,d,r1,r2,e,q⟩:=q
 cases dx with
 | int i=>cases dy with
  | int j=>
   unfold dI at e
   obtain ⟨k,rfl⟩:=Z9 e
   unfold Rep at r1 r2
   subst r1 r2
   exact h pins s σ H _ _ v u Q I rx ry ⟨i,j,rfl,rfl,hc i j k,q _ F H .refl (hg i j _ _ _)⟩
  | _=>cases e
 | _=>cases e
theorem Zh0 {f:Value->Value->Sem Value} {g:Int->Int->V} {gd:Int->Int->D} (h:OpR X f (rI0 g)) (hg:∀ i j K F H,Rep K F H (gd i j) (g i j)):Op2 X f (dI (fun _ _=>true) gd):=by
 refine o_I (C:=fun _ _=>True) ?_ (fun _ _ _=>trivial) hg
 intro pins s σ H x y v u Q I rx ry q
 obtain ⟨i,j,e1,e2,_,q⟩:=q
 exact h pins s σ H x y v u Q I rx ry ⟨i,j,e1,e2,q⟩
noncomputable def J8:D->D->Option D:=dI (fun _ _=>true) fun i j=>.int (i-j)
theorem QH:Op2 X (binaryOp .Sub) J8:=Zh0 ZhV fun i j _ _ _=>ZY _
noncomputable def Zhf (i j:Int):Bool:=(decide (-(2 ^ 64) < i)&&decide (i < 2 ^ 64))||(decide (-(2 ^ 64) < j)&&decide (j < 2 ^ 64))
theorem Zg4 (i j:Int) (h:Zhf i j=true):CMul i j:=by
 unfold Zhf at h
 rcases Bool.or_eq_true_iff.mp h with h | h
 ·obtain ⟨a,b⟩:=Bool.and_eq_true_iff.mp h; exact .inl ⟨of_decide_eq_true a,of_decide_eq_true b⟩
 ·obtain ⟨a,b⟩:=Bool.and_eq_true_iff.mp h; exact .inr ⟨of_decide_eq_true a,of_decide_eq_true b⟩
noncomputable def Yj:D->D->Option D:=dI Zhf fun i j=>.int (i*j)
theorem Yo:Op2 X (binaryOp .Mult) Yj:=o_I ZhW Zg4 fun i j _ _ _=>ZY _
noncomputable def Jn:D->D->Option D:=dI (fun _ j=>decide (0 < j)) fun i j=>.int (i % j)
theorem Jt:Op2 X (binaryOp .Mod) Jn:=o_I ZhX (fun _ _ h=>of_decide_eq_true h) fun i j _ _ _=>ZY _
noncomputable def dLt:D->D->Option D:=dI (fun _ _=>true) fun i j=>.bl (decide (i < j))
theorem ZiT:Op2 X (compareOp .Lt) dLt:=Zh0 Zjj fun i j _ _ _=>Wz _
noncomputable def dLe:D->D->Option D:=dI (fun _ _=>true) fun i j=>.bl (decide (i<=j))
theorem Zkn:Op2 X (compareOp .LtE) dLe:=Zh0 Zjk fun i j _ _ _=>Wz _
noncomputable def dGt:D->D->Option D:=dI (fun _ _=>true) fun i j=>.bl (decide (j < i))
theorem Zjn:Op2 X (compareOp .Gt) dGt:=Zh0 Zjl fun i j _ _ _=>Wz _
noncomputable def dGe:D->D->Option D:=dI (fun _ _=>true) fun i j=>.bl (decide (j<=i))
theorem Zko:Op2 X (compareOp .GtE) dGe:=Zh0 Zjm fun i j _ _ _=>Wz _
noncomputable def UY:D->Option D
 | .int i=>some (.int (-i))
 | _=>none
theorem ZaB:Op1 X (unaryOp .USub) UY:=by
 intro pins s σ H x v Q I rx h
 obtain ⟨dx,F,d,r1,e,q⟩:=h
 cases dx with
 | int i=>cases e; unfold Rep at r1; subst r1; exact Zfu pins s σ H _ v Q I rx ⟨i,rfl,q _ F H .refl (ZY _)⟩
 | _=>cases e
theorem ZdX {pins:List (Addr×Obj)} {s:Shared} {σ:L2.St} {H:Hp} {l b:Addr} {xs zs:List V} {Q:VK} (I:Inv X pins σ H s) (hl:SqL X.K H l xs) (hb:SqL X.K H b zs) (hz:xs.length+zs.length<=sizeLine)
  (q:∀ p,H p=none->Q (.ref p) (upd H p (.lst (xs++zs)))):wpAny (model X.prog X.w) X.A (binaryOp .Add (.ref l) (.ref b)) (EP X pins σ Q) X.xe s:=by
 obtain ⟨its,r,pl,z⟩:=I.list hl
 obtain ⟨its2,r2,pl2,z2⟩:=I.list hb
 have hl1:=r.length
 have hl2:=r2.length
 have ea:its.toArray++its2.toArray=(its++its2).toArray:=by simp
 obtain ⟨⟨cls,dd,data,sl⟩,ho,hc,n,hd⟩:=pl.isList
 obtain ⟨⟨cls2,dd2,data2,sl2⟩,ho2,hc2,n2,hd2⟩:=pl2.isList
 simp only at hc hd hc2 hd2
 subst hc hd hc2 hd2
 refine concat_meets ⟨_,ho,rfl⟩ ⟨_,ho2,rfl⟩ noFill_list_add seq_list_add PySem.F.slot_list_add PySem.F.entry_list_add (PySem.F.args_list_add_2 _ _) (list_addW l b its.toArray its2.toArray n n2 dd dd2 sl sl2 (by rw [List.size_toArray,List.size_toArray]; omega)) ⟨ho,ho2,?_⟩
 rw [ea]
 exact ⟨.ref _,_,I.lnew (t':=s.toks) (r.append r2) (by rw [List.length_append]; omega),rfl,q _ I.fresh⟩
theorem Zfh {pins:List (Addr×Obj)} {s:Shared} {σ:L2.St} {H:Hp} {a b:Addr} {xs ys:List V} {Q:VK} (I:Inv X pins σ H s) (ha:SqT X.K H a xs) (hb:SqT X.K H b ys) (hz:xs.length+ys.length<=sizeLine)
  (q0:xs=[]->Q (.ref b) H) (q1:ys=[]->Q (.ref a) H) (q2:∀ p,H p=none->Q (.ref p) (upd H p (.tup (xs++ys)))):wpAny (model X.prog X.w) X.A (binaryOp .Add (.ref a) (.ref b)) (EP X pins σ Q) X.xe s:=by
 obtain ⟨its,r1,p1,_⟩:=I.tuple ha
 obtain ⟨its2,r2,p2,_⟩:=I.tuple hb
 by_cases h0:its=[]
 ·obtain ⟨⟨cls,dd,data,sl⟩,ho,hc,n,hd⟩:=id p1
  obtain ⟨⟨cls2,dd2,data2,sl2⟩,ho2,hc2,n2,hd2⟩:=id p2
  simp only at hc hd hc2 hd2
  subst hc hd hc2 hd2
  exact concat_meets ⟨_,ho,rfl⟩ ⟨_,ho2,rfl⟩ noFill_tuple_add seq_tuple_add PySem.F.slot_tuple_add PySem.F.entry_tuple_add (PySem.F.args_tuple_add_2 _ _)
   (tuple_addW0 a b its.toArray its2.toArray n n2 dd dd2 sl sl2 (by simp [h0])) ⟨ho,ho2,⟨.ref b,H,I,rfl,q0 (r1.nil_iff.mp h0)⟩⟩
 ·refine HT.cat_tup p1 p2 h0 (fun z=>⟨.ref a,H,I,rfl,q1 (r2.nil_iff.mp z)⟩) (fun z=>?_) (by rw [<-r1.length,<-r2.length]; exact hz)
  refine ⟨.ref s.heap.objs.size,_,I.laid (t':=s.toks) (o:=.tup (xs++ys)) (fun b ob q=>Heap.get?_push_of_some _ q) (Nat.le_refl _) ?_,rfl,q2 _ (I.hok.fresh (Nat.le_refl _))⟩
  exact ⟨by rw [List.length_append]; exact hz,_,r1.append r2,TupD.new _ _⟩
noncomputable def Yh:D->D->Option D
 | .int i,.int j=>some (.int (i+j))
 | .lst a,.lst b=>if a.length+b.length<=lim then some (.lst (a++b)) else none
 | .tup a,.tup b=>if a.length+b.length<=lim then some (.tup (a++b)) else none
 | .str a,.str b=>if a.length+b.length<=lim then some (.str (a++b)) else none
 | _,_=>none
theorem Yu:Op2 X (binaryOp .Add) Yh:=by
 intro pins s σ H x y v u Q I rx ry q
 obtain ⟨dx,dy,F,d,r1,r2,e,q⟩:=q
 cases dx with
 | int i=>cases dy with
  | int j=>
   cases e
   unfold Rep at r1 r2
   subst r1 r2
   exact ZhY pins s σ H _ _ v u Q I rx ry ⟨i,j,rfl,rfl,q _ F H .refl (ZY _)⟩
  | _=>cases e
 | str i=>cases dy with
  | str j=>
   unfold Yh at e
   obtain ⟨hl,rfl⟩:=Z9 e
   unfold Rep at r1 r2
   subst r1 r2
   exact ZbZ pins s σ H _ _ v u Q I rx ry ⟨i,j,rfl,rfl,QI hl,q _ F H .refl (by unfold Rep; rfl)⟩
  | _=>cases e
 | lst a=>cases dy with
  | lst b=>
   unfold Yh at e
   obtain ⟨hl,rfl⟩:=Z9 e
   unfold Rep at r1 r2
   obtain ⟨l1,xs,rfl,f1,h1,k1⟩:=r1
   obtain ⟨l2,ys,rfl,f2,h2,k2⟩:=r2
   cases rx; cases ry
   refine ZdX I h1 h2 (by rw [<-k1.length,<-k2.length]; exact QI hl) fun p hp=>q _ _ _ (.laid hp) (ZX hp (k1.append k2))
  | _=>cases e
 | tup a=>cases dy with
  | tup b=>
   unfold Yh at e
   obtain ⟨hl,rfl⟩:=Z9 e
   have r1':=r1; have r2':=r2
   unfold Rep at r1 r2
   obtain ⟨l1,xs,rfl,h1,k1⟩:=r1
   obtain ⟨l2,ys,rfl,h2,k2⟩:=r2
   cases rx; cases ry
   refine Zfh I h1 h2 (by rw [<-k1.length,<-k2.length]; exact QI hl) (fun z=>?_) (fun z=>?_) fun p hp=>q _ F _ (.laid0 hp) ?_
   ·have:a=[]:=List.eq_nil_of_length_eq_zero (by rw [k1.length,z]; rfl)
    subst this
    exact q _ F H .refl r2'
   ·have:b=[]:=List.eq_nil_of_length_eq_zero (by rw [k2.length,z]; rfl)
    subst this
    rw [List.append_nil] at q
    exact q _ F H .refl r1'
   ·unfold Rep
    exact ⟨p,xs++ys,rfl,.of ZB,(k1.append k2).grow (.laid0 hp)⟩
  | _=>cases e
 | _=>cases e
noncomputable def dIx:D->D->Option D
 | .lst xs,.int i=>atI xs i
 | .tup xs,.int i=>atI xs i
 | .str z,.int i=>if z.length<=lim then (atI z.cps.toList i).map fun c=>.str ⟨#[c]⟩ else none
 | _,_=>none
noncomputable def IxD (X:Cx) (r:D->D->Option D):Prop:=IxR X (r2 X.K r)
theorem ZH {a b:Expr} {f g:DE} {pos:Pos} {r:D->D->Option D} (hr:IxD X r) (ha:ED X a f) (hb:ED X b g) (hs:Zea b):ED X (.Subscript a b pos) (Zg r f g):=PE.imp (Zjg hr ha hb hs) fun _ _ _=>Zbh
theorem Zd1 {K:PySem.W.Frag} {F:Fz} {H:Hp} {ds:List D} {vs:List V} {i:Int} {d:D} (r:RepL K F H ds vs) (h:atI ds i=some d):∃ v,atI vs i=some v/\Rep K F H d v:=by
 unfold atI at h ⊢
 obtain ⟨j,e1,e2⟩:=bind_some h
 obtain ⟨v,e3,e4⟩:=r.get e2
 exact ⟨v,by rw [<-r.length,e1]; exact e3,e4⟩
theorem Yz:IxD X dIx:=by
 intro value slice pins s σ H x y v u Q I rx ry h hs
 obtain ⟨dx,dy,F,d,r1,r2,e,q⟩:=h
 cases dy with
 | int i=>
  unfold Rep at r2
  subst r2
  cases dx with
  | lst ds=>
   unfold Rep at r1
   obtain ⟨l,xs,rfl,hf,hl,hr⟩:=r1
   obtain ⟨w',e1,e2⟩:=Zd1 hr e
   exact ZgJ value slice pins s σ H _ _ v u Q I rx ry ⟨l,xs,i,w',rfl,rfl,hl,e1,q _ F H .refl e2⟩ hs
  | tup ds=>
   unfold Rep at r1
   obtain ⟨l,xs,rfl,hl,hr⟩:=r1
   obtain ⟨w',e1,e2⟩:=Zd1 hr e
   exact Zii value slice pins s σ H _ _ v u Q I rx ry ⟨l,xs,i,w',rfl,rfl,hl,e1,q _ F H .refl e2⟩ hs
  | str z=>
   unfold Rep at r1
   subst r1
   have e:(if z.length<=lim then (atI z.cps.toList i).map fun c=>D.str ⟨#[c]⟩ else none)=some d:=e
   by_cases hz:z.length<=lim
   ·rw [if_pos hz] at e
    obtain ⟨c,e1,rfl⟩:∃ c,atI z.cps.toList i=some c/\D.str ⟨#[c]⟩=d:=by
     cases q1:atI z.cps.toList i with
     | none=>rw [q1] at e; cases e
     | some c=>rw [q1] at e; exact ⟨c,rfl,Option.some.inj e⟩
    exact Zij value slice pins s σ H _ _ v u Q I rx ry ⟨z,i,c,rfl,rfl,QI hz,e1,q _ F H .refl (by unfold Rep; rfl)⟩ hs
   ·rw [if_neg hz] at e; cases e
  | _=>cases e
 | _=>cases dx <;> cases e
noncomputable def UJ:List D->Option D
 | [.lst xs]=>some (.int xs.length)
 | [.tup xs]=>some (.int xs.length)
 | [.str z]=>if z.length<=lim then some (.int z.length) else none
 | _=>none
theorem Q5 {K:PySem.W.Frag} {F:Fz} {H:Hp} {d:D} {vs:List V} (h:RepL K F H [d] vs):∃ v,vs=[v]/\Rep K F H d v:=by
 obtain ⟨y,ys,rfl,h1,h2⟩:=h.uncons
 rw [h2.unnil]
 exact ⟨y,rfl,h1⟩
theorem Zjb {K:PySem.W.Frag} {F:Fz} {H:Hp} {d d':D} {vs:List V} (h:RepL K F H [d,d'] vs):∃ v v',vs=[v,v']/\Rep K F H d v/\Rep K F H d' v':=by
 obtain ⟨y,ys,rfl,h1,h2⟩:=h.uncons
 obtain ⟨v',rfl,h3⟩:=Q5 h2
 exact ⟨y,v',rfl,h1,h3⟩
theorem ZaS:Zan X (.builtin "len") UJ:=by
 intro pins s σ H vs us Q I r h
 obtain ⟨xs,F,d,r1,e,q⟩:=h
 unfold UJ at e
 split at e
 ·rename_i ds
  cases e
  obtain ⟨v,rfl,h1⟩:=Q5 r1
  unfold Rep at h1
  obtain ⟨a,ys,rfl,_,hl,hr⟩:=h1
  refine JT pins s σ H _ us Q I r ⟨a,ys,rfl,.inl hl,?_⟩
  rw [<-hr.length]; exact q _ F H .refl (ZY _)
 ·rename_i ds
  cases e
  obtain ⟨v,rfl,h1⟩:=Q5 r1
  unfold Rep at h1
  obtain ⟨a,ys,rfl,hl,hr⟩:=h1
  refine JT pins s σ H _ us Q I r ⟨a,ys,rfl,.inr hl,?_⟩
  rw [<-hr.length]; exact q _ F H .refl (ZY _)
 ·rename_i z
  obtain ⟨hz,rfl⟩:=Z9 e
  obtain ⟨v,rfl,h1⟩:=Q5 r1
  unfold Rep at h1
  subst h1
  exact W8 pins s σ H _ us Q I r ⟨z,rfl,QI hz,q _ F H .refl (ZY _)⟩
 ·cases e
noncomputable def UI:List D->Option D
 | [.lst xs]=>some (.lst xs)
 | [.tup xs]=>some (.lst xs)
 | _=>none
theorem ZiG:Zan X (.type "list") UI:=by
 intro pins s σ H vs us Q I r h
 obtain ⟨xs,F,d,r1,e,q⟩:=h
 unfold UI at e
 split at e
 ·rename_i ds
  cases e
  obtain ⟨v,rfl,h1⟩:=Q5 r1
  unfold Rep at h1
  obtain ⟨a,ys,rfl,_,hl,hr⟩:=h1
  exact JS pins s σ H _ us Q I r ⟨a,ys,rfl,.inl hl,fun p hp=>q _ _ _ (.laid hp) (ZX hp hr)⟩
 ·rename_i ds
  cases e
  obtain ⟨v,rfl,h1⟩:=Q5 r1
  unfold Rep at h1
  obtain ⟨a,ys,rfl,hl,hr⟩:=h1
  exact JS pins s σ H _ us Q I r ⟨a,ys,rfl,.inr hl,fun p hp=>q _ _ _ (.laid hp) (ZX hp hr)⟩
 ·cases e
noncomputable def QF:List D->Option D
 | [.lst xs]=>some (.tup xs)
 | [.tup xs]=>some (.tup xs)
 | _=>none
theorem ZaR:Zan X (.type "tuple") QF:=by
 intro pins s σ H vs us Q I r h
 obtain ⟨xs,F,d,r1,e,q⟩:=h
 unfold QF at e
 split at e
 ·rename_i ds
  cases e
  obtain ⟨v,rfl,h1⟩:=Q5 r1
  unfold Rep at h1
  obtain ⟨a,ys,rfl,_,hl,hr⟩:=h1
  refine Jk pins s σ H _ us Q I r ⟨a,ys,rfl,.inl ⟨hl,fun p hp=>q _ F _ (.laid0 hp) ?_⟩⟩
  unfold Rep
  exact ⟨p,ys,rfl,.of ZB,hr.grow (.laid0 hp)⟩
 ·rename_i ds
  cases e
  obtain ⟨v,rfl,h1⟩:=Q5 r1
  have h1':=h1
  unfold Rep at h1
  obtain ⟨a,ys,rfl,hl,hr⟩:=h1
  exact Jk pins s σ H _ us Q I r ⟨a,ys,rfl,.inr ⟨hl,q _ F H .refl h1'⟩⟩
 ·cases e
end
inductive Out where
 | nx (ρ:Rho) | rt (d:D) | bk (ρ:Rho) | ct (ρ:Rho)
noncomputable abbrev DS:=Rho->Option Out
noncomputable def EndOk (K:PySem.W.Frag) (F0:Fz) (H0:Hp) (F:Fz) (H:Hp) (E:Zf7):Out->Prop
 | .nx ρ=>∀ σ' F' H',Ext K F H F' H'->EnvOk K F0 H0 F' σ' H' ρ->E.nx σ' H'
 | .bk ρ=>∀ σ' F' H',Ext K F H F' H'->EnvOk K F0 H0 F' σ' H' ρ->E.bk σ' H'
 | .ct ρ=>∀ σ' F' H',Ext K F H F' H'->EnvOk K F0 H0 F' σ' H' ρ->E.ct σ' H'
 | .rt d=>∀ v F' H',Grow F0 H0 F' H'->Rep K F' H' d v->E.rt v H'
inductive ZkF (K:PySem.W.Frag) (g:DS) (E:Zf7) (σ:L2.St) (H:Hp):Prop
 | mk (ρ:Rho) (F0:Fz) (H0:Hp) (F:Fz) (o:Out) (ok:EnvOk K F0 H0 F σ H ρ) (e:g ρ=some o) (k:EndOk K F0 H0 F H E o)
noncomputable def rdS (K:PySem.W.Frag) (g:DS):TS:=fun E σ H=>ZkF K g E σ H
theorem EndOk.ext {K:PySem.W.Frag} {F0:Fz} {H0:Hp} {F F':Fz} {H H':Hp} {E:Zf7} {o:Out} (h:EndOk K F0 H0 F H E o) (x:Ext K F H F' H'):EndOk K F0 H0 F' H' E o:=by
 cases o with
 | nx ρ=>exact fun σ' F2 H2 e ok=>h σ' F2 H2 (x.trans e) ok
 | bk ρ=>exact fun σ' F2 H2 e ok=>h σ' F2 H2 (x.trans e) ok
 | ct ρ=>exact fun σ' F2 H2 e ok=>h σ' F2 H2 (x.trans e) ok
 | rt d=>exact h
noncomputable def SD (X:Cx) (st:Stmt) (g:DS):Prop:=PS X st (rdS X.K g)
noncomputable def SDs (X:Cx) (st:List Stmt) (g:DS):Prop:=PSs X st (rdS X.K g)
section
variable {X:Cx} {pos:Pos} {st:Stmt} {rest:List Stmt} {g g':DS} {e:Expr} {f:DE} {t:DT}
noncomputable def Qe:DS:=fun ρ=>some (.nx ρ)
noncomputable def Zm (g g':DS):DS:=fun ρ=>match g ρ with | some (.nx ρ1)=>g' ρ1 | r=>r
theorem Y4:SDs X [] Qe:=PSs.imp Zgt fun E σ H ⟨ρ,F0,H0,F,o,ok,e,k⟩=>by cases e; exact k σ F H .refl ok
theorem Zo (h:SD X st g):SDs X [st] g:=Zgs h
theorem Zi (h1:SD X st g) (h2:SDs X rest g'):SDs X (st::rest) (Zm g g'):=PSs.imp (Zey h1 h2) fun E σ H zq=>by
 obtain ⟨ρ,F0,H0,F,o,ok,e,k⟩:=zq
 unfold Zm at e
 cases e1:g ρ with
 | none=>rw [e1] at e; cases e
 | some o1=>
  rw [e1] at e
  cases o1 with
  | nx ρ1=>exact ⟨ρ,F0,H0,F,_,ok,e1,fun σ' F' H' x ok'=>⟨ρ1,F0,H0,F',o,ok',e,k.ext x⟩⟩
  | rt d=>cases e; exact ⟨ρ,F0,H0,F,_,ok,e1,k⟩
  | bk ρ1=>cases e; exact ⟨ρ,F0,H0,F,_,ok,e1,k⟩
  | ct ρ1=>cases e; exact ⟨ρ,F0,H0,F,_,ok,e1,k⟩
noncomputable def Yr (f:DE):DS:=fun ρ=>(f ρ).map .rt
theorem map_some {α β:Type} {o:Option α} {f:α->β} {b:β} (h:o.map f=some b):∃ a,o=some a/\f a=b:=by
 cases o with
 | none=>cases h
 | some a=>exact ⟨a,rfl,Option.some.inj h⟩
theorem ZG (he:ED X e f):SD X (.Return (some e) pos) (Yr f):=PS.imp (ZhJ he) fun E σ H zq=>by
 obtain ⟨ρ,F0,H0,F,o,ok,e,k⟩:=zq
 obtain ⟨d,ed,rfl⟩:=map_some e
 exact ⟨ρ,F0,H0,F,d,ok,ed,fun v F' H' g r=>k v F' H' (ok.base.trans g) r⟩
noncomputable def V5 (t:DT) (g g':DS):DS:=fun ρ=>(t ρ).bind fun b=>match b with | true=>g ρ | false=>g' ρ
theorem VC {c:Expr} {a b:List Stmt} (hc:TD X c t) (ha:SDs X a g) (hb:SDs X b g'):SD X (.If c a b pos) (V5 t g g'):=PS.imp (Zje hc ha hb) fun E σ H zq=>by
 obtain ⟨ρ,F0,H0,F,o,ok,e,k⟩:=zq
 obtain ⟨x,ex,e⟩:=bind_some e
 refine ⟨ρ,F0,H0,F,x,ok,ex,fun F1 H1 g1=>?_⟩
 cases x with
 | true=>rw [if_pos rfl]; exact ⟨ρ,F0,H0,F1,o,ok.grow g1,e,k.ext g1.ext⟩
 | false=>rw [if_neg (by decide)]; exact ⟨ρ,F0,H0,F1,o,ok.grow g1,e,k.ext g1.ext⟩
theorem EnvOk.set {K:PySem.W.Frag} {F0 F:Fz} {H0 H:Hp} {σ:L2.St} {ρ:Rho} {i:Nat} {d:D} {v:V} (ok:EnvOk K F0 H0 F σ H ρ) (r:Rep K F H d v):EnvOk K F0 H0 F (σ.set i (some v)) H (ρ.set i (.val d)) where
 base:=ok.base
 val:=fun j d' h=>by
  by_cases hj:i=j
  ·subst hj
   by_cases hl:i < ρ.length
   ·rw [List.getElem?_set_self hl] at h
    cases h
    exact ⟨v,by rw [List.getElem?_set_self (by rw [<-ok.len]; exact hl)],r⟩
   ·rw [List.getElem?_eq_none (by rw [List.length_set]; omega)] at h; cases h
  ·rw [List.getElem?_set_ne hj] at h ⊢; exact ok.val j d' h
 own:=fun j ds h=>by
  by_cases hj:i=j
  ·subst hj
   by_cases hl:i < ρ.length
   ·rw [List.getElem?_set_self hl] at h; cases h
   ·rw [List.getElem?_eq_none (by rw [List.length_set]; omega)] at h; cases h
  ·rw [List.getElem?_set_ne hj] at h ⊢; exact ok.own j ds h
 inj:=fun j k ds es a h1 h2 h3 h4=>by
  have n1:i≠j:=by
   rintro rfl
   by_cases hl:i < ρ.length
   ·rw [List.getElem?_set_self hl] at h1; cases h1
   ·rw [List.getElem?_eq_none (by rw [List.length_set]; omega)] at h1; cases h1
  have n2:i≠k:=by
   rintro rfl
   by_cases hl:i < ρ.length
   ·rw [List.getElem?_set_self hl] at h2; cases h2
   ·rw [List.getElem?_eq_none (by rw [List.length_set]; omega)] at h2; cases h2
  rw [List.getElem?_set_ne n1] at h1 h3
  rw [List.getElem?_set_ne n2] at h2 h4
  exact ok.inj j k ds es a h1 h2 h3 h4
 len:=by rw [List.length_set,List.length_set,ok.len]
 fz:=ok.fz
noncomputable def Z2 (i:Nat) (f:DE):DS:=fun ρ=>(f ρ).map fun d=>.nx (ρ.set i (.val d))
theorem ZN {i:Nat} {x:Str} {pos':Pos} (hN:X.N.Nodup) (hi:X.N[i]?=some x) (hx:Loc X.env.scope x) (he:ED X e f) (hs:swapsWith e (some (.Name x pos')) pos.line X.env=pure false:=by rfl)
  (hf:X.fn x=true\/X.env.scope.names.lookup x=some .local:=by first | exact .inl rfl | exact .inr rfl | assumption):SD X (.Assign [.Name x pos'] e pos) (Z2 i f):=
 PS.imp (ZfB hN hi hx he hs hf) fun E σ H zq=>by
  obtain ⟨ρ,F0,H0,F,o,ok,e,k⟩:=zq
  obtain ⟨d,ed,rfl⟩:=map_some e
  exact ⟨ρ,F0,H0,F,d,ok,ed,fun v F' H' g r=>k _ F' H' g.ext ((ok.grow g).set r)⟩
theorem EnvOk.setOwn {K:PySem.W.Frag} {F0 F:Fz} {H0 H:Hp} {σ:L2.St} {ρ:Rho} {i:Nat} {ds:List D} {vs:List V} {p:Addr} (ok:EnvOk K F0 H0 F σ H ρ) (hp:H p=none) (hk:K.lookup p=none) (r:RepL K F H ds vs) :
  EnvOk K F0 H0 F (σ.set i (some (.ref p))) (upd H p (.lst vs)) (ρ.set i (.own ds)):=by
 have gr:Grow F H F (upd H p (.lst vs)):=.laid0 hp
 have ok1:=ok.grow gr
 have nF:¬ F p:=fun z=>by
  rcases ok.fz p z with z | ⟨o,z⟩
  ·exact z hp
  ·rw [hk] at z; cases z
 have oth:∀ (j:Nat) ds' a,ρ[j]?=some (.own ds')->σ[j]?=some (some (.ref a))->a≠p:=fun j ds' a h1 h2=>by
  obtain ⟨b,xs,h3,h4,_⟩:=ok.own j ds' h1
  rw [h2] at h3; cases h3
  exact Zu h4 hp
 refine ⟨ok1.base,fun j d' h=>?_,fun j ds' h=>?_,fun j k ds' es a h1 h2 h3 h4=>?_,by rw [List.length_set,List.length_set,ok.len],ok1.fz⟩
 ·by_cases hj:i=j
  ·subst hj
   by_cases hl:i < ρ.length
   ·rw [List.getElem?_set_self hl] at h; cases h
   ·rw [List.getElem?_eq_none (by rw [List.length_set]; omega)] at h; cases h
  ·rw [List.getElem?_set_ne hj] at h ⊢; exact ok1.val j d' h
 ·by_cases hj:i=j
  ·subst hj
   by_cases hl:i < ρ.length
   ·rw [List.getElem?_set_self hl] at h
    cases h
    exact ⟨p,vs,by rw [List.getElem?_set_self (by rw [<-ok.len]; exact hl)],ZB,nF,ok.base.same.free hp,r.grow gr⟩
   ·rw [List.getElem?_eq_none (by rw [List.length_set]; omega)] at h; cases h
  ·rw [List.getElem?_set_ne hj] at h ⊢; exact ok1.own j ds' h
 ·by_cases hj:i=j
  ·by_cases hk':i=k
   ·exact hj.symm.trans hk'
   ·subst hj
    rw [List.getElem?_set_ne hk'] at h2 h4
    by_cases hl:i < σ.length
    ·rw [List.getElem?_set_self hl] at h3
     cases h3
     exact absurd rfl (oth k es p h2 h4)
    ·rw [List.getElem?_eq_none (by rw [List.length_set]; omega)] at h3; cases h3
  ·by_cases hk':i=k
   ·subst hk'
    rw [List.getElem?_set_ne hj] at h1 h3
    by_cases hl:i < σ.length
    ·rw [List.getElem?_set_self hl] at h4
     cases h4
     exact absurd rfl (oth j ds' p h1 h3)
    ·rw [List.getElem?_eq_none (by rw [List.length_set]; omega)] at h4; cases h4
   ·rw [List.getElem?_set_ne hj] at h1 h3
    rw [List.getElem?_set_ne hk'] at h2 h4
    exact ok.inj j k ds' es a h1 h2 h3 h4
noncomputable def Zi5 (K:PySem.W.Frag) (t:TA):TE:=fun σ H Q=>t σ H fun xs H1=>xs.length<=sizeLine/\∀ p,H1 p=none->K.lookup p=none->Q (.ref p) (upd H1 p (.lst xs))
theorem Zgx {es:List Expr} {t:TA} (h:PA X es t):PE X (.List es pos) (Zi5 X.K t):=by
 intro pins s σ H Q I hq
 refine wpAny_List_spliced (thn (h pos pins s σ H _ I hq) fun us s1 ⟨xs,H1,I1,r,z,q⟩=>⟨by rw [<-r.length]; exact z,?_⟩)
 have hf:H1 s1.heap.objs.size=none:=I1.hok.fresh (Nat.le_refl _)
 have hk:X.K.lookup s1.heap.objs.size=none:=by
  cases e:X.K.lookup s1.heap.objs.size with
  | none=>rfl
  | some o=>exact absurd (Heap.lt_size (I1.kIn _ o e)) (Nat.lt_irrefl _)
 refine ⟨.ref s1.heap.objs.size,upd H1 s1.heap.objs.size (.lst xs),I1.laid (t':=s1.toks) (fun b u e=>Heap.get?_push_of_some _ e) (Nat.le_refl _) ?_,rfl,q _ hf hk⟩
 exact ⟨z,us,0,r,Heap.get?_push_size _ rfl⟩
noncomputable def YV (i:Nat) (as:DA):DS:=fun ρ=>(as ρ).bind fun xs=>if xs.length<=lim then some (.nx (ρ.set i (.own xs))) else none
theorem Ul {i:Nat} {x:Str} {pos' lpos:Pos} {es:List Expr} {as:DA} (hN:X.N.Nodup) (hi:X.N[i]?=some x) (hx:Loc X.env.scope x) (ha:AD X es as) (hs:swapsWith (.List es lpos) (some (.Name x pos')) pos.line X.env=pure false:=by rfl)
  (hf:X.fn x=true\/X.env.scope.names.lookup x=some .local:=by first | exact .inl rfl | exact .inr rfl | assumption):SD X (.Assign [.Name x pos'] (.List es lpos) pos) (YV i as):=
 PS.imp (ZfB hN hi hx (Zgx ha) hs hf) fun E σ H zq=>by
  obtain ⟨ρ,F0,H0,F,o,ok,e,k⟩:=zq
  obtain ⟨xs,ex,e⟩:=bind_some e
  obtain ⟨hl,rfl⟩:=Z9 e
  exact ⟨ρ,F0,H0,F,xs,ok,ex,fun vs F1 H1 g1 r1=>⟨by rw [<-r1.length]; exact QI hl,fun p hp hk=>k _ F1 _ (g1.trans (.laid0 hp)).ext ((ok.grow g1).setOwn hp hk r1)⟩⟩
theorem Jy {K:PySem.W.Frag} {F:Fz} {H:Hp} {a:Addr} {xs ys:List V} (ha:H a=some (.lst xs)) (hF:¬ F a):Ext K F H F (upd H a (.lst ys)) where
 sub:=fun _ h=>h
 ls:=fun b zs hb h=>by
  have ne:b≠a:=fun z=>hF (z ▸ hb)
  rcases h with (h | ⟨o,h⟩) | h
  ·exact .inl (.inl (by rw [Zy ne]; exact h))
  ·exact .inl (.inr ⟨o,by rw [Zy ne]; exact h⟩)
  ·exact .inr h
 ts:=fun b zs h=>by
  rcases h with (h | ⟨o,h⟩) | h
  ·have ne:b≠a:=by rintro rfl; rw [ha] at h; cases h
   exact .inl (.inl (by rw [Zy ne]; exact h))
  ·have ne:b≠a:=by rintro rfl; rw [ha] at h; cases h
   exact .inl (.inr ⟨o,by rw [Zy ne]; exact h⟩)
  ·exact .inr h
theorem EnvOk.wrt {K:PySem.W.Frag} {F0 F:Fz} {H0 H:Hp} {σ:L2.St} {ρ:Rho} {i:Nat} {ds ds':List D} {xs ys:List V} {a:Addr} (ok:EnvOk K F0 H0 F σ H ρ) (ho:ρ[i]?=some (.own ds)) (hs:σ[i]?=some (some (.ref a)))
  (ha:H a=some (.lst xs)) (r:RepL K F H ds' ys):EnvOk K F0 H0 F σ (upd H a (.lst ys)) (ρ.set i (.own ds')):=by
 obtain ⟨a',xs',h1,h2,h3,h4,h5⟩:=ok.own i ds ho
 rw [hs] at h1; cases h1
 rw [ha] at h2; cases h2
 have hl:i < ρ.length:=(List.getElem?_eq_some_iff.mp ho).1
 have x:=Jy (K:=K) (ys:=ys) ha h3
 refine ⟨⟨fun b o q=>?_,ok.base.sub,fun b z=>?_⟩,fun j d' h=>?_,fun j es h=>?_,fun j k es fs b q1 q2 q3 q4=>?_,by rw [List.length_set,ok.len],fun b z=>?_⟩
 ·have ne:b≠a:=Zu q h4
  rw [Zy ne]; exact ok.base.same b o q
 ·rcases ok.base.new b z with z1 | ⟨z1,z2⟩
  ·exact .inl z1
  ·refine .inr ⟨z1,?_⟩
   by_cases e:b=a
   ·rw [e,ZB]; simp
   ·rw [Zy e]; exact z2
 ·have hj:i≠j:=by rintro rfl; rw [List.getElem?_set_self hl] at h; cases h
  rw [List.getElem?_set_ne hj] at h
  obtain ⟨v,e1,e2⟩:=ok.val j d' h
  exact ⟨v,e1,Rep.ext x e2⟩
 ·by_cases hj:i=j
  ·subst hj
   rw [List.getElem?_set_self hl] at h
   cases h
   exact ⟨a,ys,hs,ZB,h3,h4,RepL.ext x r⟩
  ·rw [List.getElem?_set_ne hj] at h
   obtain ⟨b,zs,e1,e2,e3,e4,e5⟩:=ok.own j es h
   have ne:b≠a:=by rintro rfl; exact hj (ok.inj i j ds es b ho h hs e1)
   exact ⟨b,zs,e1,by rw [Zy ne]; exact e2,e3,e4,RepL.ext x e5⟩
 ·have get:∀ (j:Nat) es,(ρ.set i (.own ds'))[j]?=some (.own es)->∃ es',ρ[j]?=some (.own es'):=fun j es h=>by
   by_cases hj:i=j
   ·exact ⟨ds,hj ▸ ho⟩
   ·rw [List.getElem?_set_ne hj] at h; exact ⟨es,h⟩
  obtain ⟨e1,g1⟩:=get j es q1
  obtain ⟨e2,g2⟩:=get k fs q2
  exact ok.inj j k e1 e2 b g1 g2 q3 q4
 ·rcases ok.fz b z with z1 | z1
  ·left
   by_cases e:b=a
   ·rw [e,ZB]; simp
   ·rw [Zy e]; exact z1
  ·exact .inr z1
noncomputable def Zbz (i:Nat) (f:DE):DS:=fun ρ=>match ρ[i]? with
 | some (.own ds)=>(f ρ).bind fun d=>if ds.length < lim then some (.nx (ρ.set i (.own (ds++[d])))) else none
 | _=>none
theorem Wu {i:Nat} {x:Expr} {pos' apos:Pos} (hx:PE X x (Zhb i)) (he:ED X e f)
  (hbase:attributeBase x "append" X.env (eval x X.env)=eval x X.env:=by rfl)
  (hfew:((backTo pos' (starEach [e] X.env)).all (fun x=>!x.1)&&(backToKw pos' (keywordEach [] X.env)).all (fun x=>x.1.isSome)
   && decide ([e].length+([]:List Keyword).length+(if ([]:List Keyword).isEmpty then 0 else 1) < 30))=true:=by rfl)
  (hline:(apos.endLine==pos'.line)=true:=by rfl) (hs:starEach [e] X.env=(false,eval e X.env)::starEach [] X.env:=by rfl) (hplain:(backTo pos' (starEach [] X.env)).any (·.1)=false:=by rfl)
  (hsw:swapsWith (.Call (.Attribute x "append" apos) [e] [] pos') none pos.line X.env=pure false:=by rfl) :
  SD X (.Expr (.Call (.Attribute x "append" apos) [e] [] pos') pos) (Zbz i f):=
 PS.imp (Zaw (ZgB PySem.F.plainAttrs_list PySem.F.slot_list_append PySem.F.type_list_append WH hx (Zaz he Zc6 hs) hbase hfew hline hs hplain) hsw) fun E σ H zq=>by
  obtain ⟨ρ,F0,H0,F,o,ok,e,k⟩:=zq
  unfold Zbz at e
  split at e
  ·rename_i ds ho
   obtain ⟨d,ed,e⟩:=bind_some e
   obtain ⟨hl,rfl⟩:=Z9 e
   obtain ⟨a,xs,h1,h2,h3,h4,h5⟩:=ok.own i ds ho
   refine ⟨_,h1,.inl ⟨rfl,xs,.of h2⟩,ρ,F0,H0,F,d,ok,ed,fun v F1 H1 g1 r1=>?_⟩
   have ok1:=ok.grow g1
   have h2':=g1.same _ _ h2
   obtain ⟨a',xs',q1,q2,q3,q4,q5⟩:=ok1.own i ds ho
   rw [h1] at q1; cases q1
   rw [h2'] at q2; cases q2
   refine ⟨a,xs,v,rfl,rfl,h2',?_,k _ F1 _ (g1.ext.trans (Jy h2' q3)) (ok1.wrt ho h1 h2' (q5.append (.cons r1 .nil)))⟩
   rw [<-q5.length]
   exact Nat.lt_of_lt_of_le hl (QI (Nat.le_refl _))
  ·cases e
noncomputable def UX (i:Nat):DS:=fun ρ=>match ρ[i]? with
 | some (.own ds)=>if ds=[] then none else some (.nx (ρ.set i (.own ds.dropLast)))
 | _=>none
theorem RepL.dropLast {K:PySem.W.Frag} {F:Fz} {H:Hp} {ds:List D} {vs:List V} (h:RepL K F H ds vs):RepL K F H ds.dropLast vs.dropLast:=by
 rw [List.dropLast_eq_take,List.dropLast_eq_take,h.length]; exact h.take _
end
section
variable {X:Cx} {pos:Pos} {st:Stmt} {rest:List Stmt} {g g':DS} {e:Expr} {f:DE} {t:DT}
theorem Zfy {i:Nat} {x:Expr} {pos' apos:Pos} (hx:PE X x (Zhb i))
  (hbase:attributeBase x "pop" X.env (eval x X.env)=eval x X.env:=by rfl) (hline:(apos.endLine==pos'.line)=true:=by rfl)
  (hsw:swapsWith (.Call (.Attribute x "pop" apos) [] [] pos') none pos.line X.env=pure false:=by rfl) :
  SD X (.Expr (.Call (.Attribute x "pop" apos) [] [] pos') pos) (UX i):=
 PS.imp (Zaw (ZhS PySem.F.plainAttrs_list PySem.F.slot_list_pop PySem.F.type_list_pop Zh5 hx hbase hline) hsw) fun E σ H zq=>by
  obtain ⟨ρ,F0,H0,F,o,ok,e,k⟩:=zq
  unfold UX at e
  split at e
  ·rename_i ds ho
   by_cases hd:ds=[]
   ·rw [if_pos hd] at e; cases e
   ·rw [if_neg hd] at e
    cases e
    obtain ⟨a,xs,h1,h2,h3,h4,h5⟩:=ok.own i ds ho
    have hne:xs≠[]:=fun z=>hd (List.eq_nil_of_length_eq_zero (by rw [h5.length,z]; rfl))
    refine ⟨_,h1,.inl ⟨rfl,xs,.of h2⟩,a,xs,xs.getLast hne,rfl,rfl,h2,?_,k _ F _ (Jy h2 h3) (ok.wrt ho h1 h2 h5.dropLast)⟩
    rw [<-List.getLast?_eq_getElem?]; exact List.getLast?_eq_some_getLast hne
  ·cases e
noncomputable def ZJ (t:DT) (g:DS):Nat->DS
 | 0,_=>none
 | n+1,ρ=>(t ρ).bind fun b=>match b with
  | true=>(match g ρ with | some (.nx ρ')=>ZJ t g n ρ' | some (.ct ρ')=>ZJ t g n ρ' | some (.bk ρ')=>some (.nx ρ') | r=>r)
  | false=>some (.nx ρ)
theorem VB {c:Expr} {body:List Stmt} (n:Nat) (hp:PassesOwn (model X.prog X.w) X.A X.env X.xe) (hc:TD X c t) (hb:SDs X body g):SD X (.While c body [] pos) (ZJ t g n):=
 PS.imp (Zez hp hc hb) fun E σ H zq=>by
  obtain ⟨ρ,F0,H0,F,o,ok,e,k⟩:=zq
  refine ⟨fun m σ' H'=>∃ ρ' F',EnvOk X.K F0 H0 F' σ' H' ρ'/\Ext X.K F H F' H'/\ZJ t g m ρ'=some o,⟨n,ρ,F,ok,.refl,e⟩,?_⟩
  rintro m σ1 H1 ⟨ρ1,F1,ok1,x1,e1⟩
  cases m with
  | zero=>cases e1
  | succ m=>
   unfold ZJ at e1
   obtain ⟨b,eb,e1⟩:=bind_some e1
   refine ⟨ρ1,F0,H0,F1,b,ok1,eb,fun F2 H2 g2=>?_⟩
   have x2:=x1.trans (g2.ext (K:=X.K))
   cases b with
   | false=>
    refine ZjP ?_
    cases e1
    exact k σ1 F2 H2 x2 (ok1.grow g2)
   | true=>
    refine ZjO ?_
    refine ⟨fun σ' H'=>∃ ρ' F',EnvOk X.K F0 H0 F' σ' H' ρ'/\Ext X.K F H F' H'/\ZJ t g m ρ'=some o,fun σ' H' z=>⟨m,by omega,z⟩,?_⟩
    simp only at e1
    cases eg:g ρ1 with
    | none=>rw [eg] at e1; cases e1
    | some o1=>
     rw [eg] at e1
     refine ⟨ρ1,F0,H0,F2,o1,ok1.grow g2,eg,?_⟩
     cases o1 with
     | nx ρ2=>exact fun σ' F' H' x ok'=>⟨ρ2,F',ok',x2.trans x,e1⟩
     | ct ρ2=>exact fun σ' F' H' x ok'=>⟨ρ2,F',ok',x2.trans x,e1⟩
     | bk ρ2=>cases e1; exact fun σ' F' H' x ok'=>k σ' F' H' (x2.trans x) ok'
     | rt d=>cases e1; exact k
noncomputable abbrev DG:=D->Rho->Option Rho
inductive ZkI (K:PySem.W.Frag) (b:DG) (v:V) (σ:L2.St) (H:Hp) (Q:L2.St->Hp->Prop):Prop
 | mk (ρ:Rho) (F0:Fz) (H0:Hp) (F:Fz) (d:D) (ρ':Rho) (ok:EnvOk K F0 H0 F σ H ρ) (r:Rep K F H d v) (e:b d ρ=some ρ') (q:∀ σ' F' H',Grow F H F' H'->EnvOk K F0 H0 F' σ' H' ρ'->Q σ' H')
noncomputable def rdG (K:PySem.W.Frag) (b:DG):TG:=fun v σ H Q=>ZkI K b v σ H Q
noncomputable def GD (X:Cx) (tg:Expr) (b:DG):Prop:=PG X tg (rdG X.K b)
theorem PG.imp {tg:Expr} {t t':TG} (h:PG X tg t) (i:∀ v σ H Q,t' v σ H Q->t v σ H Q):PG X tg t':=fun pins s σ H v u Q I r q=>h pins s σ H v u Q I r (i v σ H Q q)
noncomputable def ZW (i:Nat):DG:=fun d ρ=>some (ρ.set i (.val d))
theorem YS {i:Nat} {x:Str} (hN:X.N.Nodup) (hi:X.N[i]?=some x) (hx:Loc X.env.scope x) (hf:X.fn x=true\/X.env.scope.names.lookup x=some .local:=by first | exact .inl rfl | exact .inr rfl | assumption):GD X (.Name x pos) (ZW i):=
 PG.imp (Zax hN hi hx hf) fun v σ H Q ⟨ρ,F0,H0,F,d,ρ',ok,r,e,q⟩=>by cases e; exact q _ F H .refl (ok.set r)
noncomputable def Zd0 (i j:Nat):DG:=fun d ρ=>match d with | .tup [a,b]=>some ((ρ.set i (.val a)).set j (.val b)) | _=>none
theorem ZgP {i j:Nat} {x y:Str} {p1 p2:Pos} {k} (hc:X.calm=true) (hN:X.N.Nodup) (hi:X.N[i]?=some x) (hj:X.N[j]?=some y) (hx:Loc X.env.scope x) (hy:Loc X.env.scope y)
  (hf:X.fn x=true\/X.env.scope.names.lookup x=some .local:=by first | exact .inl rfl | exact .inr rfl | assumption)
  (hf':X.fn y=true\/X.env.scope.names.lookup y=some .local:=by first | exact .inl rfl | exact .inr rfl | assumption):GD X (.Tuple [.Name x p1,.Name y p2] k pos) (Zd0 i j):=
 PG.imp (ZhM (n:=2) hc (Zbl (Zax hN hi hx hf) (Zbl (Zax hN hj hy hf') Zgw))) fun v σ H Q zq=>by
  obtain ⟨ρ,F0,H0,F,d,ρ',ok,r,e,q⟩:=zq
  unfold Zd0 at e
  split at e
  ·rename_i a b
   cases e
   unfold Rep at r
   obtain ⟨p,xs,rfl,ht,hl⟩:=r
   obtain ⟨va,vb,rfl,ra,rb⟩:=Zjb hl
   refine ⟨p,_,rfl,ht,rfl,va,[vb],rfl,vb,[],rfl,rfl,?_⟩
   exact q _ F H .refl ((ok.set ra).set rb)
  ·cases e
noncomputable def UW (b:DG) (g:DS):List D->DS
 | [],ρ=>some (.nx ρ)
 | x::xs,ρ=>(b x ρ).bind fun ρ1=>match g ρ1 with
  | some (.nx ρ2)=>UW b g xs ρ2
  | some (.ct ρ2)=>UW b g xs ρ2
  | some (.bk ρ2)=>some (.nx ρ2)
  | r=>r
noncomputable def Zco (it:Rho->Option (List D)) (b:DG) (g:DS):DS:=fun ρ=>(it ρ).bind fun xs=>UW b g xs ρ
noncomputable def FW (K:PySem.W.Frag) (F0:Fz) (H0:Hp) (F:Fz) (H:Hp) (b:DG) (g:DS) (xs:List D) (o:Out) (i:Nat) (σ':L2.St) (H':Hp):Prop:=
 ∃ ρ' F',EnvOk K F0 H0 F' σ' H' ρ'/\Ext K F H F' H'/\UW b g (xs.drop i) ρ'=some o
noncomputable def Zkv (K:PySem.W.Frag) (tl:TE):TI:=fun σ H R=>tl σ H fun x H1=>∃ a,x=.ref a/\(((∃ xs,SqL K H1 a xs)/\R (Itl K a) H1)\/((∃ xs,SqT K H1 a xs)/\R (Itt K a) H1))
theorem ZhL {tg l:Expr} {tl:TE} (hl:PE X l tl):PI X tg l (Zkv X.K tl):=by
 intro pins s σ H R I h
 refine thn (hl pins s σ H _ I h) fun v s1 zq=>?_
 obtain ⟨x,H1,I1,r1,q1⟩:=zq
 obtain ⟨a,e,q1⟩:=q1
 subst e
 cases r1
 have fpk:∀ b∈[s1.heap.objs.size],Zao X pins H1 b:=fun b hb=>by
  have e:b=s1.heap.objs.size:=by simpa using hb
  subst e
  exact I1.fpOk (Nat.le_refl _) (I1.hok.fresh (Nat.le_refl _))
 rcases q1 with ⟨⟨xs,hq⟩,q⟩ | ⟨⟨xs,hq⟩,q⟩
 ·obtain ⟨its,rv,p,hz⟩:=I1.list hq
  refine wpAny_pyIter_list p.isList ?_
  exact ⟨s1.heap.objs.size,[s1.heap.objs.size],_,_,H1,rfl,I1.kept (t':=s1.toks) fun b o e=>Heap.get?_push_of_some _ e,Zcx a _,⟨_,Heap.get?_push_size _ rfl,rfl,rfl⟩,fpk,q⟩
 ·obtain ⟨its,rv,p,hz⟩:=I1.tuple hq
  refine wpAny_pyIter_tuple (show s1.heap.IsTuple a its.toArray from p) ?_
  exact ⟨s1.heap.objs.size,[s1.heap.objs.size],_,_,H1,rfl,I1.kept (t':=s1.toks) fun b o e=>Heap.get?_push_of_some _ e,ZbM a _,⟨_,Heap.get?_push_size _ rfl,rfl,rfl⟩,fpk,q⟩
noncomputable def Yq (f:DE):Rho->Option (List D):=fun ρ=>(f ρ).bind fun d=>match d with | .lst xs=>some xs | .tup xs=>some xs | _=>none
noncomputable def Wj (lo:Int) (n:Nat):List D:=(List.range n).map fun (k:Nat)=>D.int (lo+(k:Int))
noncomputable def ZbV (i:Int):Bool:=decide (-(2 ^ 62)<=i)&&decide (i < 2 ^ 62)
noncomputable def Zim (f:DE):Rho->Option (List D):=fun ρ=>(f ρ).bind fun d=>match d with | .int j=>if ZbV j then some (Wj 0 j.toNat) else none | _=>none
theorem Zeu {i:Int} (h:ZbV i=true):-(2 ^ 62)<=i/\i < 2 ^ 62:=by
 obtain ⟨a,b⟩:=Bool.and_eq_true_iff.mp h; exact ⟨of_decide_eq_true a,of_decide_eq_true b⟩
noncomputable def rel (i:Nat) (ρ:Rho):Rho:=match ρ[i]? with | some (.own ds)=>ρ.set i (.val (.lst ds)) | _=>ρ
theorem EnvOk.rel {K:PySem.W.Frag} {F0 F:Fz} {H0 H:Hp} {σ:L2.St} {ρ:Rho} (ok:EnvOk K F0 H0 F σ H ρ) (i:Nat):∃ F',EnvOk K F0 H0 F' σ H (rel i ρ)/\Ext K F H F' H:=by
 unfold L3.rel
 split
 ·rename_i ds ho
  obtain ⟨a,xs,h1,h2,h3,h4,h5⟩:=ok.own i ds ho
  have x:Ext K F H (fun b=>F b\/b=a) H:=⟨fun b z=>.inl z,fun b ys _ z=>z,fun b ys z=>z⟩
  have hl:i < ρ.length:=(List.getElem?_eq_some_iff.mp ho).1
  have old:∀ (j:Nat) es,(ρ.set i (.val (.lst ds)))[j]?=some (.own es)->i≠j/\ρ[j]?=some (.own es):=fun j es h=>by
   by_cases hj:i=j
   ·subst hj; rw [List.getElem?_set_self hl] at h; cases h
   ·rw [List.getElem?_set_ne hj] at h; exact ⟨hj,h⟩
  refine ⟨fun b=>F b\/b=a,⟨⟨ok.base.same,fun b z=>.inl (ok.base.sub b z),fun b z=>?_⟩,fun j d h=>?_,fun j es h=>?_,fun j k es fs b q1 q2 q3 q4=>?_,by rw [List.length_set,ok.len],fun b z=>?_⟩,x⟩
  ·rcases z with z | rfl
   ·exact ok.base.new b z
   ·exact .inr ⟨h4,by rw [h2]; simp⟩
  ·by_cases hj:i=j
   ·subst hj
    rw [List.getElem?_set_self hl] at h
    cases h
    refine ⟨_,h1,?_⟩
    unfold Rep
    exact ⟨a,xs,rfl,.inr rfl,.of h2,RepL.ext x h5⟩
   ·rw [List.getElem?_set_ne hj] at h
    obtain ⟨v,e1,e2⟩:=ok.val j d h
    exact ⟨v,e1,Rep.ext x e2⟩
  ·obtain ⟨hj,h⟩:=old j es h
   obtain ⟨b,ys,e1,e2,e3,e4,e5⟩:=ok.own j es h
   refine ⟨b,ys,e1,e2,fun z=>?_,e4,RepL.ext x e5⟩
   rcases z with z | rfl
   ·exact e3 z
   ·exact hj (ok.inj i j ds es b ho h h1 e1)
  ·obtain ⟨_,q1⟩:=old j es q1
   obtain ⟨_,q2⟩:=old k fs q2
   exact ok.inj j k es fs b q1 q2 q3 q4
  ·rcases z with z | rfl
   ·exact ok.fz b z
   ·exact .inl (by rw [h2]; simp)
 ·exact ⟨F,ok,.refl⟩
noncomputable def Zhe (i:Nat) (g:DS):DS:=fun ρ=>g (rel i ρ)
theorem ZcK (i:Nat) (h:SD X st g):SD X st (Zhe i g):=PS.imp h fun E σ H zq=>by
 obtain ⟨ρ,F0,H0,F,o,ok,e,k⟩:=zq
 obtain ⟨F',ok',x⟩:=ok.rel i
 exact ⟨_,F0,H0,F',o,ok',e,k.ext x⟩
mutual
noncomputable def noL:D->Bool
 | .lst _=>false
 | .tup xs=>Zh1 xs
 | _=>true
noncomputable def Zh1:List D->Bool
 | []=>true
 | d::ds=>noL d&&Zh1 ds
end
mutual
theorem Rep.noL {K:PySem.W.Frag} {F F':Fz} {H:Hp}:∀ {d:D} {v:V},L3.noL d=true->Rep K F H d v->Rep K F' H d v
 | .non,_,_,h=>h
 | .bl _,_,_,h=>h
 | .int _,_,_,h=>h
 | .str _,_,_,h=>h
 | .tup ds,_,n,h=>by
  unfold Rep at h ⊢
  obtain ⟨a,xs,rfl,ht,hr⟩:=h
  exact ⟨a,xs,rfl,ht,RepL.noL (by simpa [L3.noL] using n) hr⟩
 | .lst ds,_,n,h=>by simp [L3.noL] at n
theorem RepL.noL {K:PySem.W.Frag} {F F':Fz} {H:Hp}:∀ {ds:List D} {vs:List V},Zh1 ds=true->RepL K F H ds vs->RepL K F' H ds vs
 | [],_,_,h=>by rw [h.unnil]; exact .nil
 | d::ds,_,n,h=>by
  obtain ⟨y,ys,rfl,h1,h2⟩:=h.uncons
  have n':L3.noL d=true/\Zh1 ds=true:=by simpa [Zh1] using n
  exact .cons (Rep.noL n'.1 h1) (RepL.noL n'.2 h2)
end
noncomputable def Q4 (i:Nat) (t:DT):DT:=fun ρ=>t (rel i ρ)
theorem Zcz (i:Nat) (h:TD X e t):TD X e (Q4 i t):=PT.imp h fun σ H Q zq=>by
 obtain ⟨ρ,F0,H0,F,d,ok,e,q⟩:=zq
 obtain ⟨F1,ok1,x1⟩:=ok.rel i
 exact ⟨_,F0,H0,F1,d,ok1,e,fun F' H' g=>q F H' ⟨g.same,fun _ z=>z,fun _ z=>.inl z⟩⟩
end
noncomputable def ZA (n:Nat) (g:DS):List D->Option D:=fun xs=>(g (xs.map .val++List.replicate (n-xs.length) .no)).bind fun o=>match o with | .rt d=>some d | .nx _=>some .non | _=>none
section
variable {P:Program} {w:World} {K:PySem.W.Frag} {mg:Str->Option Value} {base:Heap}
theorem ZkA {x qual:Str} {st:Stmt} {f:Addr} {fd:FuncData} {N ps:List Str} {k:Nat} {g:DS} (F:Fun K x qual st f fd) (S:Zx N ps (Zf st))
  (hb:∀ (cdv:Value) (A:Around) (outer:List Env) (s:Shared) (H:Hp) (E:XK),Room k (A.deeper (envOfC qual (Zf st) s.heap.objs.size f cdv)) ->
   SDs (ZfY CX0 P w K mg base N qual (Zf st) f cdv A outer s H E).nox (YU st) g):FnD P w K mg base (k+1) f fd ps (ZA N.length g):=by
 have hpl:ps.length<=N.length:=by have:=congrArg List.length S.pre; rw [List.length_take] at this; omega
 refine F.ok S (fun vs H Q E h=>?_) (fun cdv A outer s H vs Q E hr h=>⟨_,hb cdv A outer s H E hr,?_⟩)
 ·obtain ⟨xs,F,d,hl,hr,_⟩:=h
  rw [<-hr.length,hl]
 ·obtain ⟨xs,Fz,d,hl,hr',hfz,e,q⟩:=h
  obtain ⟨o,eo,e⟩:=bind_some e
  have hlv:=hr'.length
  refine ⟨_,Fz,H,Fz,o,⟨.refl,fun i d' h=>?_,fun i ds h=>?_,fun i j ds es a h=>?_,?_,hfz⟩,eo,?_⟩
  ·have hi:i < xs.length:=by
    by_cases hi:i < xs.length
    ·exact hi
    ·rw [List.getElem?_append_right (by simpa using hi),List.getElem?_replicate] at h
     split at h <;> cases h
   rw [List.getElem?_append_left (by simpa using hi),List.getElem?_map,List.getElem?_eq_getElem hi] at h
   cases h
   obtain ⟨v,ev,rv⟩:=hr'.get (show xs[i]?=some xs[i] by simp [hi])
   refine ⟨v,?_,rv⟩
   unfold L2.start
   rw [List.getElem?_append_left (by simp; omega),List.getElem?_map,ev]; rfl
  ·by_cases hi:i < xs.length
   ·rw [List.getElem?_append_left (by simpa using hi),List.getElem?_map,List.getElem?_eq_getElem hi] at h; cases h
   ·rw [List.getElem?_append_right (by simpa using hi),List.getElem?_replicate] at h
    split at h <;> cases h
  ·by_cases hi:i < xs.length
   ·rw [List.getElem?_append_left (by simpa using hi),List.getElem?_map,List.getElem?_eq_getElem hi] at h; cases h
   ·rw [List.getElem?_append_right (by simpa using hi),List.getElem?_replicate] at h
    split at h <;> cases h
  ·unfold L2.start; simp; omega
  ·cases o with
   | rt d'=>cases e; exact fun v F' H' g r=>q v F' H' g r
   | nx ρ=>cases e; exact fun σ' F' H' x ok=>q _ F' H' ok.base (by unfold Rep; rfl)
   | bk ρ=>cases e
   | ct ρ=>cases e
end
section
variable {X:Cx} {pins:List (Addr×Obj)} {σ:L2.St} {H:Hp} {s:Shared} {h':Heap}
theorem UA {t':Nat} {e it:Addr} {o:HO} (I:Inv X pins σ H s) (f1:Zao X pins H e) (f2:Zao X pins H it) (k:∀ b u,b≠e->b≠it->s.heap.get? b=some u->h'.get? b=some u)
  (new:ObjOk X.prog X.w (upd H s.heap.objs.size o) h' s.heap.objs.size o):Inv X pins σ (upd H s.heap.objs.size o) { s with heap:=h',toks:=t' }:=by
 have hp:H s.heap.objs.size=none:=I.hok.fresh (Nat.le_refl _)
 have inH:∀ {b:Addr} {u:Obj},s.heap.get? b=some u->b≠s.heap.objs.size:=fun q=>Nat.ne_of_lt (Heap.lt_size q)
 have kk:∀ b u,b ∉ [e,it]->s.heap.get? b=some u->h'.get? b=some u:=fun b u hb q=>k b u (fun z=>hb (by simp [z])) (fun z=>hb (by simp [z])) q
 have nT:∀ b u,H b=some u->b ∉ [e,it]:=fun b u q z=>by
  rcases List.mem_cons.mp z with z | z
  ·rw [z,f1.1] at q; cases q
  ·rw [List.mem_singleton] at z; rw [z,f2.1] at q; cases q
 refine I.step (g':=s.gens) (d':=s.drawn) (ch:=[e,it]) (fun b hb=>?_) (fun b u _ _ hc q _=>kk b u hc q) (fun b u _ _ hc q _=>⟨u.slots,kk b u hc q⟩) (fun b u hc q n=>?_) (fun b u hc q=>⟨u,kk b u hc q⟩)
  (fun b xs q=>?_) (fun b u xs q=>?_) (fun b ps q=>⟨#[],?_⟩) (fun m hm=>?_) (fun b u q=>?_) I.bare
 ·rcases List.mem_cons.mp hb with z | z
  ·subst z; exact ⟨f1.2.2.2.1,f1.2.1,f1.2.2.2.2.1,f1.2.2.2.2.2⟩
  ·rw [List.mem_singleton] at z; subst z; exact ⟨f2.2.2.2.1,f2.2.1,f2.2.2.2.2.1,f2.2.2.2.2.2⟩
 ·rw [Zy (inH q)]; exact n
 ·rw [Zy (Zu q hp)]; exact q
 ·rw [Zy (Zu q hp)]; exact q
 ·rw [Zy (Zu q hp),q]; simp
 ·obtain ⟨ob,es,ep,ho,r⟩:=hm
  exact ⟨ob,es,ep,k _ ob (fun z=>f1.2.1 z.symm) (fun z=>f2.2.1 z.symm) ho,r⟩
 ·by_cases hb:b=s.heap.objs.size
  ·subst hb
   rw [ZB] at q
   cases q
   exact new
  ·rw [Zy hb] at q
   refine (I.hok b u q).stay (fun c v hc r=>kk c v ?_ r) (fun c r=>by rw [Zy (Zu r hp)]; exact r) fun c xs r=>by rw [Zy (Zu r hp)]; exact r
   rcases hc with z | z
   ·rw [z]; exact nT b u q
   ·exact nT c _ z
end
noncomputable def Ite (K : PySem.W.Frag) (a : Addr) (tup : Bool) : It :=
  ⟨fun i H => ∃ xs x, (if tup then SqT K H a xs else SqL K H a xs) /\ xs[i]? = some x,
   fun i H x H' => ∃ p y, (∀ xs, (if tup then SqT K H a xs else SqL K H a xs) -> xs[i]? = some y) /\ H p = none /\ x = .ref p /\ H' = upd H p (.tup [.int i, y]),
   fun i H => ∃ xs, (if tup then SqT K H a xs else SqL K H a xs) /\ xs.length <= i⟩
theorem ZbP {P:Program} {w:World} {K:PySem.W.Frag} {elts:List Expr} {k:Nat} {pos:Pos} (a e it:Addr) (hei:e≠it) :
  Zf4 P w K (.Tuple elts k pos) (Ite K a false) [e,it] e (fun i h=>(∃ old,IsEnum h e it i old)/\h.IsListIter it a i) where
 mem:=by simp
 obj:=fun i h st b hb=>by
  obtain ⟨⟨old,he⟩,o,h1,h2,h3⟩:=st
  rcases List.mem_cons.mp hb with z | z
  ·subst z; exact ⟨_,he,fun v z=>by have z':Data.fields _=Data.cell v:=z; cases z'⟩
  ·rw [List.mem_singleton] at z; subst z; exact ⟨o,h1,fun v z=>by rw [h3] at z; cases z⟩
 keep:=fun i h h' st kp=>by
  obtain ⟨⟨old,he⟩,st⟩:=st
  exact ⟨⟨old,kp e (by simp) _ he⟩,st.at fun o q=>kp it (by simp) o q⟩
 item:=by
  intro X hP hw hK hc i pins s σ H E I hf st hg
  subst hP hw hK
  obtain ⟨xs,x,hq,hx⟩:=hg
  have hq:SqL X.K H a xs:=hq
  obtain ⟨⟨old,he⟩,hit⟩:=st
  obtain ⟨its,rv,p,hz⟩:=I.list hq
  obtain ⟨u,hu,ru⟩:=rv.get hx
  have f1:=hf e (by simp)
  have f2:=hf it (by simp)
  refine wpAny_pyNext_enum_item he hit p.isList (x:=u) (by simpa using hu) hei fun h1 he1 hit1 ht1 hz1 kp=>?_
  have hp:H s.heap.objs.size=none:=I.hok.fresh (Nat.le_refl _)
  have I1:Inv X pins σ (upd H s.heap.objs.size (.tup [.int i,x])) { s with heap:=h1,toks:=s.toks+1 }:=
   UA I f1 f2 (fun b ob h1' h2' q=>kp b ob h1' h2' q) ⟨by show 2<=sizeLine; decide,[.int i s.toks,u],.cons ⟨_,rfl⟩ (.cons ru .nil),⟨_,ht1,rfl,rfl,_,rfl⟩⟩
  refine ⟨_,rfl,wpAny_letOwnedTupleGo_enum (s:={ s with heap:=h1,toks:=s.toks+1 }) he1 fun h2 he2 hs2=>?_⟩
  have ne:∀ {b},H b=none->b∈[e,it]->b≠s.heap.objs.size:=fun {b} _ hb=>by
   rcases List.mem_cons.mp hb with z | z
   ·rw [z]; exact Nat.ne_of_lt (Heap.lt_size he)
   ·rw [List.mem_singleton] at z; rw [z]; obtain ⟨o,q,_⟩:=hit; exact Nat.ne_of_lt (Heap.lt_size q)
  have fz:∀ b∈[e,it],upd H s.heap.objs.size (.tup [.int i,x]) b=none:=fun b hb=>by rw [Zy (ne (hf b hb).1 hb)]; exact (hf b hb).1
  have I2:Inv X pins σ (upd H s.heap.objs.size (.tup [.int i,x])) { s with heap:=h2,toks:=s.toks+1 }:=
   L2.Inv.turned (s:={ s with heap:=h1,toks:=s.toks+1 }) (t':=s.toks+1) (it:=e) I1 (fun b ob hb q=>(hs2.2 b hb).trans q) (fz e (by simp)) f1.2.1 f1.2.2.2.1 f1.2.2.2.2.1 f1.2.2.2.2.2
  exact ⟨.ref s.heap.objs.size,_,I2,rfl,⟨s.heap.objs.size,x,fun xs' hq'=>by rw [I.list_inj (show SqL X.K H a xs' from hq') hq]; exact hx,hp,rfl,rfl⟩,⟨⟨u,he2⟩,hit1.at fun ob q=>(hs2.2 it (Ne.symm hei)).trans q⟩,fz⟩
 done:=by
  intro X hP hw hK hc i pins s σ H E I hf st hg
  subst hP hw hK
  obtain ⟨xs,hq,hx⟩:=hg
  have hq:SqL X.K H a xs:=hq
  obtain ⟨⟨old,he⟩,hit⟩:=st
  obtain ⟨its,rv,p,hz⟩:=I.list hq
  have hl:=rv.length
  have f2:=hf it (by simp)
  exact wpAny_pyNext_enum_end (I.ok.hd hc) he hit p.isList (by simp; omega) fun h1 hb=>⟨rfl,I.turned (t':=s.toks) (it:=it) (fun b ob hb' q=>hb b ob hb' q) f2.1 f2.2.1 f2.2.2.2.1 f2.2.2.2.2.1 f2.2.2.2.2.2⟩
 self:=fun _ _ _ _ _ st h=>by
  obtain ⟨⟨old,he⟩,_⟩:=st
  exact wpAny_pyIter_enum he h
open PySem.AutoSeq1 (wpAny_loadPart')
section
variable {prog:Program} {w:World} {A:Around} {E:Value->Shared->Prop} {s:Shared}
theorem Zb0 {it t:Addr} {i:Nat} {its:Array Value} {x:Value} {Q:Value->Shared->Prop} (hi:s.heap.IsTupleIter it t i) (ht:s.heap.IsTuple t its) (hx:its[i]?=some x)
  (q:∀ k,k.IsTupleIter it t (i+1)->Heap.SameBut it s.heap k->Q x { s with heap:=k }):wpAny (model prog w) A (Builtin.SmallTypes.nextOf (.ref it)) Q E s:=by
 obtain ⟨o,ho,hc,hd⟩:=id hi
 obtain ⟨ot,hot,_,nt,hdt⟩:=ht
 unfold Builtin.SmallTypes.nextOf
 refine wpAny_bind (wpAny_callSpecial?_slot (name:=Str.ofString "__next__") hi.typeIs F.slot_tuple_iterator_next (wpAny_call_entry F.slot_tuple_iterator_next hi.typeIs F.entry_tuple_iterator_next ?_ (F.args_tuple_iterator_next_1 _)))
 show wpAny _ _ (field (.ref it) 0 >>= _) _ _ s; refine wpAny_bind (wpAny_field ho hd (x:=.ref t) rfl ?_)
 show wpAny _ _ (if (Value.ref t==Value.none)=true then _ else _) _ _ s; rw [if_neg (show ¬ ((Value.ref t==Value.none)=true) from Bool.false_ne_true)]
 show wpAny _ _ (field (.ref it) 1 >>= _) _ _ s; refine wpAny_bind (wpAny_field ho hd (x:=.int i 0) rfl ?_)
 show wpAny _ _ (seqItems? (.ref t) >>= _) _ _ s; refine wpAny_bind (wpAny_seqItems hot hdt ?_)
 simp only [Int.toNat_natCast,hx]
 refine wpAny_bind (wpAny_setField ho hd (by simp) (wpAny_pure ⟨x,rfl,wpAny_pure (q _ ⟨_,Heap.get?_update_self _ ho (Obj.isFreed_of_fields (Obj.data_mapFields hd _)),(Obj.cls_mapFields ..).trans hc,by rw [Obj.data_mapFields hd]; simp [rawInt]⟩ (Heap.SameBut.update ..))⟩))
theorem Zdc {it t:Addr} {i:Nat} {its:Array Value} {Q:Value->Shared->Prop} (hh:A.handled=none) (hi:s.heap.IsTupleIter it t i) (ht:s.heap.IsTuple t its) (hx:its[i]?=none)
  (q:∀ k e,Heap.ExtBut it s.heap k->(∃ o,k.get? e=some o/\o.cls=.type "StopIteration")->E (.ref e) { s with heap:=k }):wpAny (model prog w) A (Builtin.SmallTypes.nextOf (.ref it)) Q E s:=by
 obtain ⟨o,ho,hc,hd⟩:=id hi
 obtain ⟨ot,hot,_,nt,hdt⟩:=ht
 unfold Builtin.SmallTypes.nextOf
 refine wpAny_bind (wpAny_callSpecial?_slot (name:=Str.ofString "__next__") hi.typeIs F.slot_tuple_iterator_next (wpAny_call_entry F.slot_tuple_iterator_next hi.typeIs F.entry_tuple_iterator_next ?_ (F.args_tuple_iterator_next_1 _)))
 show wpAny _ _ (field (.ref it) 0 >>= _) _ _ s; refine wpAny_bind (wpAny_field ho hd (x:=.ref t) rfl ?_)
 show wpAny _ _ (if (Value.ref t==Value.none)=true then _ else _) _ _ s; rw [if_neg (show ¬ ((Value.ref t==Value.none)=true) from Bool.false_ne_true)]
 show wpAny _ _ (field (.ref it) 1 >>= _) _ _ s; refine wpAny_bind (wpAny_field ho hd (x:=.int i 0) rfl ?_)
 show wpAny _ _ (seqItems? (.ref t) >>= _) _ _ s; refine wpAny_bind (wpAny_seqItems hot hdt ?_)
 simp only [Int.toNat_natCast,hx]
 refine wpAny_bind (wpAny_rule (wpAny_bind (wpAny_setField ho hd (by simp) ?_)))
 show wpAny _ _ (newExc (.type "StopIteration") [] >>= _) _ _ _; refine wpAny_bind ?_
 simp only [newExc,newTuple]
 refine wpAny_bind (wpAny_newObj_type ?_ (by size_fits)); refine wpAny_bind (m:=firstArgMember _ _) (wpAny_of_eq (a:=Value.none) (by first | rfl | (simp only [firstArgMember]; rfl)) ?_)
 refine wpAny_newObj_type ?_ (by size_fits); simp only [raiseNew]; refine wpAny_bind (wpAny_handled ?_)
 first | rw [show A.in1.handled=none from hh] | rw [hh]
 refine wpAny_bind (wpAny_pure (wpAny_throw ?_))
 exact q _ _ (((Heap.SameBut.update ..).extBut.push _).push _) ⟨_,Heap.get?_push_size _ rfl,rfl⟩
theorem Zb8 {e it t:Addr} {i:Nat} {its:Array Value} {x old:Value} {Q:Value->Shared->Prop} (he:IsEnum s.heap e it i old) (hi:s.heap.IsTupleIter it t i) (ht:s.heap.IsTuple t its) (hx:its[i]?=some x) (hne:e≠it)
  (q:∀ k,IsEnumOut k e it ((i:Int)+1) x s.heap.objs.size->k.IsTupleIter it t (i+1)->k.get? s.heap.objs.size=some { cls:=.type "tuple",data:=.seq #[.int i s.toks,x] }->k.objs.size=s.heap.objs.size+1 ->
   (∀ b o,b≠e->b≠it->s.heap.get? b=some o->k.get? b=some o)->Q (.ref s.heap.objs.size) { s with heap:=k,toks:=s.toks+1 }) :
  wpAny (model prog w) A (Builtin.«enumerate.__next__» ⟨[.ref e],[]⟩) (fun fin s'=>∃ v,fin=.done (.ret v)/\Q v s') E s:=by
 obtain ⟨hp,gs,dr,tk,os⟩:=s
 show wpAny _ _ (field (.ref e) 2 >>= _) _ _ _; refine wpAny_bind (wpAny_field he rfl (x:=.ref it) rfl ?_)
 refine wpAny_bind (Zb0 hi ht hx fun k1 hi1 sb1=>?_)
 replace sb1:Heap.SameBut it hp k1:=sb1
 have en1:IsEnum k1 e it i old:=(sb1.2 e hne).trans he
 show wpAny _ _ (field (.ref e) 3 >>= _) _ _ ⟨k1,gs,dr,tk,os⟩; refine wpAny_bind (wpAny_field en1 rfl (x:=rawInt i) rfl ?_)
 show wpAny _ _ (field (.ref e) 4 >>= _) _ _ ⟨k1,gs,dr,tk,os⟩; refine wpAny_bind (wpAny_field en1 rfl (x:=.none) rfl ?_)
 show wpAny _ _ (mkInt i >>= _) _ _ ⟨k1,gs,dr,tk,os⟩; refine wpAny_bind (wpAny_mkInt ?_)
 show wpAny _ _ (setField (.ref e) 3 (rawInt ((i:Int)+1)) >>= _) _ _ ⟨k1,gs,dr,tk+1,os⟩; refine wpAny_bind (wpAny_setField_rec en1 (by simp) fun k2 en2 sb2=>?_)
 replace sb2:Heap.SameBut e k1 k2:=sb2; replace en2:IsEnum k2 e it ((i:Int)+1) old:=en2
 show wpAny _ _ (setField (.ref e) 4 .none >>= _) _ _ ⟨k2,gs,dr,tk+1,os⟩; refine wpAny_bind (wpAny_setField_rec en2 (by simp) fun k3 en3 sb3=>?_)
 replace sb3:Heap.SameBut e k2 k3:=sb3; replace en3:IsEnum k3 e it ((i:Int)+1) old:=en3
 show wpAny _ _ (newTuple [.int i tk,x] >>= _) _ _ ⟨k3,gs,dr,tk+1,os⟩; refine wpAny_bind (wpAny_newTuple ?_)
 have en4:IsEnum (k3.push { cls:=.type "tuple",data:=.seq #[.int i tk,x] }) e it ((i:Int)+1) old:=Heap.get?_push_of_some _ en3
 generalize h4:k3.push { cls:=.type "tuple",data:=.seq #[.int i tk,x] }=k4 at en4
 have z3:k3.objs.size=hp.objs.size:=by rw [sb3.1,sb2.1,sb1.1]
 have lt:e < hp.objs.size:=Heap.lt_size he
 have t4:k4.get? hp.objs.size=some { cls:=.type "tuple",data:=.seq #[.int i tk,x] }:=by rw [<-h4,<-z3]; exact Heap.get?_push_size _ rfl
 have z4:k4.objs.size=hp.objs.size+1:=by rw [<-h4,Heap.size_push,z3]
 have old4:∀ b o,b≠e->b≠it->hp.get? b=some o->k4.get? b=some o:=fun b o n1 n2 hb=>by
  rw [<-h4]; exact Heap.get?_push_of_some _ (sb3.extBut b o n1 (sb2.extBut b o n1 (sb1.extBut b o n2 hb)))
 have hi4:k4.IsTupleIter it t (i+1):=by
  rw [<-h4]; obtain ⟨o,ho,r⟩:=(hi1.extBut sb2.extBut (Ne.symm hne)).extBut sb3.extBut (Ne.symm hne); exact ⟨o,Heap.get?_push_of_some _ ho,r⟩
 show wpAny _ _ (Builtin.SmallTypes.ownedTupleIsFree (.ref e) >>= _) _ _ ⟨k4,gs,dr,tk+1,os⟩
 rw [z3]
 clear h4 en3 sb3 en2 sb2 en1 sb1 hi1 z3 k3 k2 k1
 refine wpAny_bind ?_
 unfold Builtin.SmallTypes.ownedTupleIsFree; refine wpAny_bind (wpAny_field en4 rfl (x:=.none) rfl (wpAny_pure ?_))
 simp only [if_true]
 refine wpAny_bind (wpAny_rule ?_); refine wpAny_bind (wpAny_field en4 rfl (x:=old) rfl ?_); refine wpAny_bind (wpAny_setField_rec en4 (by simp) fun k5 en5 sb5=>?_)
 replace sb5:Heap.SameBut e k4 k5:=sb5; replace en5:IsEnum k5 e it ((i:Int)+1) x:=en5
 show wpAny _ _ (Builtin.SmallTypes.ownedTupleHandOut (.ref e) (.ref hp.objs.size) >>= _) _ _ ⟨k5,gs,dr,tk+1,os⟩
 refine wpAny_bind ?_
 unfold Builtin.SmallTypes.ownedTupleHandOut; refine wpAny_bind (wpAny_setField_rec en5 (by simp) fun k6 en6 sb6=>?_)
 replace sb6:Heap.SameBut e k5 k6:=sb6; replace en6:IsEnumOut k6 e it ((i:Int)+1) x hp.objs.size:=en6
 refine wpAny_setField_rec en6 (by simp) fun k7 en7 sb7=>?_
 replace sb7:Heap.SameBut e k6 k7:=sb7; replace en7:IsEnumOut k7 e it ((i:Int)+1) x hp.objs.size:=en7
 have up:∀ b o,b≠e->k4.get? b=some o->k7.get? b=some o:=fun b o n hb=>sb7.extBut b o n (sb6.extBut b o n (sb5.extBut b o n hb))
 refine wpAny_bind (wpAny_letGo (wpAny_pure ⟨_,rfl,q k7 en7 ?_ (up _ _ (Nat.ne_of_gt lt) t4) (by rw [sb7.1,sb6.1,sb5.1,z4]) fun b o n1 n2 hb=>up b o n1 (old4 b o n1 n2 hb)⟩))
 obtain ⟨o,ho,r⟩:=hi4; exact ⟨o,up it o (Ne.symm hne) ho,r⟩
theorem Zb9 {e it t:Addr} {i:Nat} {its:Array Value} {x old:Value} {Q:Option Value->Shared->Prop} (he:IsEnum s.heap e it i old) (hi:s.heap.IsTupleIter it t i) (ht:s.heap.IsTuple t its) (hx:its[i]?=some x) (hne:e≠it)
  (q:∀ k,IsEnumOut k e it ((i:Int)+1) x s.heap.objs.size->k.IsTupleIter it t (i+1)->k.get? s.heap.objs.size=some { cls:=.type "tuple",data:=.seq #[.int i s.toks,x] }->k.objs.size=s.heap.objs.size+1 ->
   (∀ b o,b≠e->b≠it->s.heap.get? b=some o->k.get? b=some o)->Q (some (.ref s.heap.objs.size)) { s with heap:=k,toks:=s.toks+1 }):wpAny (model prog w) A (pyNext (.ref e)) Q E s:=by
 have ty:s.TypeIs (.ref e) "enumerate":=⟨_,he,rfl⟩
 unfold pyNext
 exact wpAny_bind (wpAny_attempt (wpAny_callSpecial?_slot (name:=Str.ofString "__next__") ty F.slot_enumerate_next (wpAny_call_entry F.slot_enumerate_next ty F.entry_enumerate_next
  (Zb8 he hi ht hx hne fun k a b c d o=>wpAny_pure (q k a b c d o)) (F.args_enumerate_next_1 _))))
theorem ZdI {e it t:Addr} {i:Nat} {its:Array Value} {old:Value} {Q:Option Value->Shared->Prop} (hh:A.handled=none) (he:IsEnum s.heap e it i old) (hi:s.heap.IsTupleIter it t i) (ht:s.heap.IsTuple t its) (hx:its[i]?=none)
  (q:∀ k,Heap.ExtBut it s.heap k->Q none { s with heap:=k }):wpAny (model prog w) A (pyNext (.ref e)) Q E s:=by
 have ty:s.TypeIs (.ref e) "enumerate":=⟨_,he,rfl⟩
 unfold pyNext
 refine wpAny_bind (wpAny_attempt (wpAny_callSpecial?_slot (name:=Str.ofString "__next__") ty F.slot_enumerate_next (wpAny_call_entry F.slot_enumerate_next ty F.entry_enumerate_next ?_ (F.args_enumerate_next_1 _))))
 show wpAny _ _ (field (.ref e) 2 >>= _) _ _ _; refine wpAny_bind (wpAny_field he rfl (x:=.ref it) rfl ?_)
 refine wpAny_bind (Zdc hh hi ht hx fun k x kb zq=>?_)
 obtain ⟨o,ho,hc⟩:=zq
 refine wpAny_bind (wpAny_isInstance (T:="StopIteration") (b:=true) ⟨o,ho,hc⟩ isSubtype_stop ?_)
 exact wpAny_pure (q _ kb)
theorem ZdH (t:Addr) (its:Array Value) (n:Nat) (dd:Option Addr) (sl:Array (Option Value)) :
  Meets (Builtin.«enumerate.__new__» ⟨[.type "enumerate",.ref t],[]⟩) (fun _ R s=>s.heap.get? t=some { cls:=.type "tuple",dict:=dd,data:=.seq its n,slots:=sl } /\
   R (.ok (.ret (.ref (s.heap.push { cls:=.type "tuple_iterator",data:=.fields #[.ref t,.int 0 0] }).objs.size)))
    { s with heap:=(s.heap.push { cls:=.type "tuple_iterator",data:=.fields #[.ref t,.int 0 0] }).push { cls:=.type "enumerate",data:=.fields #[.none,.bool false,.ref s.heap.objs.size,rawInt 0,.none,.none] } }):=
 .of_wp fun prog w A R s h=>by
  obtain ⟨hp,gs,dr,tk,os⟩:=s; obtain ⟨ht,h⟩:=h; have hsub:=sub_enumerate
  have hT:Heap.IsTuple (Shared.heap ⟨hp,gs,dr,tk,os⟩) t its:=⟨_,ht,rfl,n,rfl⟩
  wp_walk using wpAny_loadPart' ht
  refine wpAny_stack_any fun st=>wpAny_pure ?_
  split
  ·rename_i c _ _ _ _ _
   cases (c==Value.type "enumerate")
   ·wp_walk using wpAny_loadPart' ht,wpAny_pyIter_tuple hT
    exact ⟨_,rfl,h⟩
   ·wp_walk using wpAny_loadPart' ht,wpAny_pyIter_tuple hT
    exact ⟨_,rfl,h⟩
  ·wp_walk using wpAny_loadPart' ht,wpAny_pyIter_tuple hT
   exact ⟨_,rfl,h⟩
theorem Zca {t:Addr} {its:Array Value} {Q:Value->Shared->Prop} (ht:s.heap.IsTuple t its)
  (h:∀ k,IsEnum k (s.heap.objs.size+1) s.heap.objs.size 0 .none->k.IsTupleIter s.heap.objs.size t 0->k.objs.size=s.heap.objs.size+2->(∀ b o,s.heap.get? b=some o->k.get? b=some o)->Q (.ref (s.heap.objs.size+1)) { s with heap:=k }) :
  wpAny (model prog w) A (call (.type "enumerate") [.ref t]) Q E s:=by
 obtain ⟨⟨c,dd,dt,sl⟩,ho,hc,n,hd⟩:=ht
 replace hc:c=.type "tuple":=hc; replace hd:dt=.seq its n:=hd; subst hc hd
 refine callType_new F.called_enumerate (by decide) (F.typeCall_enumerate_1 _) (F.newCall_enumerate_1 _) (fun obj=>F.args_object_init_2 obj _) F.entry_enumerate_new (ZdH t its n dd sl) ⟨ho,?_⟩
 have z1:(s.heap.push { cls:=.type "tuple_iterator",data:=.fields #[.ref t,.int 0 0] }).objs.size=s.heap.objs.size+1:=Heap.size_push ..
 show _/\_
 rw [z1]
 have en:IsEnum ((s.heap.push { cls:=.type "tuple_iterator",data:=.fields #[.ref t,.int 0 0] }).push { cls:=.type "enumerate",data:=.fields #[.none,.bool false,.ref s.heap.objs.size,rawInt 0,.none,.none] }) (s.heap.objs.size+1) s.heap.objs.size 0 .none:=by
  have:=Heap.get?_push_size (s.heap.push { cls:=.type "tuple_iterator",data:=.fields #[.ref t,.int 0 0] }) (o:={ cls:=.type "enumerate",data:=.fields #[.none,.bool false,.ref s.heap.objs.size,rawInt 0,.none,.none] }) rfl
  rw [z1] at this; exact this
 exact ⟨⟨_,en,rfl⟩,h _ en ⟨_,Heap.get?_push_of_some _ (Heap.get?_push_size _ rfl),rfl,rfl⟩ (by rw [Heap.size_push,z1]) fun b o x=>Heap.get?_push_of_some _ (Heap.get?_push_of_some _ x)⟩
end
theorem ZbO {P:Program} {w:World} {K:PySem.W.Frag} {elts:List Expr} {k:Nat} {pos:Pos} (a e it:Addr) (hei:e≠it) :
  Zf4 P w K (.Tuple elts k pos) (Ite K a true) [e,it] e (fun i h=>(∃ old,IsEnum h e it i old)/\h.IsTupleIter it a i) where
 mem:=by simp
 obj:=fun i h st b hb=>by
  obtain ⟨⟨old,he⟩,o,h1,h2,h3⟩:=st
  rcases List.mem_cons.mp hb with z | z
  ·subst z; exact ⟨_,he,fun v z=>by have z':Data.fields _=Data.cell v:=z; cases z'⟩
  ·rw [List.mem_singleton] at z; subst z; exact ⟨o,h1,fun v z=>by rw [h3] at z; cases z⟩
 keep:=fun i h h' st kp=>by
  obtain ⟨⟨old,he⟩,st⟩:=st
  exact ⟨⟨old,kp e (by simp) _ he⟩,st.at fun o q=>kp it (by simp) o q⟩
 item:=by
  intro X hP hw hK hc i pins s σ H E I hf st hg
  subst hP hw hK
  obtain ⟨xs,x,hq,hx⟩:=hg
  have hq:SqT X.K H a xs:=hq
  obtain ⟨⟨old,he⟩,hit⟩:=st
  obtain ⟨its,rv,p,hz⟩:=I.tuple hq
  obtain ⟨u,hu,ru⟩:=rv.get hx
  have f1:=hf e (by simp)
  have f2:=hf it (by simp)
  refine Zb9 he hit (show s.heap.IsTuple a its.toArray from p) (x:=u) (by simpa using hu) hei fun h1 he1 hit1 ht1 hz1 kp=>?_
  have hp:H s.heap.objs.size=none:=I.hok.fresh (Nat.le_refl _)
  have I1:Inv X pins σ (upd H s.heap.objs.size (.tup [.int i,x])) { s with heap:=h1,toks:=s.toks+1 }:=
   UA I f1 f2 (fun b ob h1' h2' q=>kp b ob h1' h2' q) ⟨by show 2<=sizeLine; decide,[.int i s.toks,u],.cons ⟨_,rfl⟩ (.cons ru .nil),⟨_,ht1,rfl,rfl,_,rfl⟩⟩
  refine ⟨_,rfl,wpAny_letOwnedTupleGo_enum (s:={ s with heap:=h1,toks:=s.toks+1 }) he1 fun h2 he2 hs2=>?_⟩
  have ne:∀ {b},H b=none->b∈[e,it]->b≠s.heap.objs.size:=fun {b} _ hb=>by
   rcases List.mem_cons.mp hb with z | z
   ·rw [z]; exact Nat.ne_of_lt (Heap.lt_size he)
   ·rw [List.mem_singleton] at z; rw [z]; obtain ⟨o,q,_⟩:=hit; exact Nat.ne_of_lt (Heap.lt_size q)
  have fz:∀ b∈[e,it],upd H s.heap.objs.size (.tup [.int i,x]) b=none:=fun b hb=>by rw [Zy (ne (hf b hb).1 hb)]; exact (hf b hb).1
  have I2:Inv X pins σ (upd H s.heap.objs.size (.tup [.int i,x])) { s with heap:=h2,toks:=s.toks+1 }:=
   L2.Inv.turned (s:={ s with heap:=h1,toks:=s.toks+1 }) (t':=s.toks+1) (it:=e) I1 (fun b ob hb q=>(hs2.2 b hb).trans q) (fz e (by simp)) f1.2.1 f1.2.2.2.1 f1.2.2.2.2.1 f1.2.2.2.2.2
  exact ⟨.ref s.heap.objs.size,_,I2,rfl,⟨s.heap.objs.size,x,fun xs' hq'=>by rw [I.tuple_inj (show SqT X.K H a xs' from hq') hq]; exact hx,hp,rfl,rfl⟩,⟨⟨u,he2⟩,hit1.at fun ob q=>(hs2.2 it (Ne.symm hei)).trans q⟩,fz⟩
 done:=by
  intro X hP hw hK hc i pins s σ H E I hf st hg
  subst hP hw hK
  obtain ⟨xs,hq,hx⟩:=hg
  have hq:SqT X.K H a xs:=hq
  obtain ⟨⟨old,he⟩,hit⟩:=st
  obtain ⟨its,rv,p,hz⟩:=I.tuple hq
  have hl:=rv.length
  have f2:=hf it (by simp)
  exact ZdI (I.ok.hd hc) he hit (show s.heap.IsTuple a its.toArray from p) (by simp; omega) fun h1 hb=>⟨rfl,I.turned (t':=s.toks) (it:=it) (fun b ob hb' q=>hb b ob hb' q) f2.1 f2.2.1 f2.2.2.2.1 f2.2.2.2.2.1 f2.2.2.2.2.2⟩
 self:=fun _ _ _ _ _ st h=>by
  obtain ⟨⟨old,he⟩,_⟩:=st
  exact wpAny_pyIter_enum he h
noncomputable def ZaP (cells:List (Str×Addr)):List (Str×NameKind)->List (Str×Addr)->List (Str×Addr)
 | [],acc=>acc
 | (n,k)::r,acc=>if k==.free then ZaP cells r ((n,(cells.lookup n).getD 0)::acc) else ZaP cells r acc
theorem Vt {env:Env}:∀ (names:List (Str×NameKind)) (acc:List (Str×Addr)),(∀ y∈names,y.2=.free->∃ c,env.cells.lookup y.1=some c) ->
  (forIn names acc fun y cs=>match y with | (name,kind)=>(if kind==NameKind.free then do let c <- cellOf env name; pure (ForInStep.yield ((name,c)::cs)) else pure (ForInStep.yield cs):Sem (ForInStep (List (Str×Addr)))))=pure (ZaP env.cells names acc)
 | [],acc,_=>rfl
 | (n,k)::r,acc,h=>by
  rw [List.forIn_cons]
  have ih:=fun acc=>Vt r acc fun y hy=>h y (List.mem_cons_of_mem _ hy)
  by_cases hk:k=.free
  ·subst hk
   obtain ⟨c,e⟩:=h (n,.free) List.mem_cons_self rfl
   have e':env.cells.lookup n=some c:=e
   have:cellOf env n=pure c:=by unfold cellOf; rw [e']
   have b:(NameKind.free==NameKind.free)=true:=rfl
   simp only [b,if_true,this,ZaP,e',Option.getD_some]
   exact ih _
  ·have b:(k==NameKind.free)=false:=by simpa using hk
   simp only [b,Bool.false_eq_true,if_false,ZaP]
   exact ih _
theorem V8 {scope:Scope} {env:Env} (h:∀ y∈scope.names,y.2=.free->∃ c,env.cells.lookup y.1=some c):closureFor scope env=pure (ZaP env.cells scope.names []):=by
 have e:=Vt (env:=env) scope.names [] h
 unfold closureFor
 have q:(forIn scope.names ([]:List (Str×Addr)) fun y cs=>match y with | (name,kind)=>(if kind==NameKind.free then do let c <- cellOf env name; pure (ForInStep.yield ((name,c)::cs)) else pure (ForInStep.yield cs):Sem (ForInStep (List (Str×Addr))))) >>= pure=pure (ZaP env.cells scope.names []):=by rw [e]; rfl
 exact q
theorem Q1 {cells:List (Str×Addr)}:∀ (names:List (Str×NameKind)) (acc:List (Str×Addr)) (x:Str) (c:Addr),(∀ y∈names,y.2=.free->∃ c,cells.lookup y.1=some c) ->
  (ZaP cells names acc).lookup x=some c->cells.lookup x=some c\/acc.lookup x=some c
 | [],acc,x,c,_,e=>.inr e
 | (n,k)::r,acc,x,c,h,e=>by
  have h':=fun y hy=>h y (List.mem_cons_of_mem (n,k) hy)
  unfold ZaP at e
  by_cases hk:(k==NameKind.free)=true
  ·rw [if_pos hk] at e
   rcases Q1 r _ x c h' e with z | z
   ·exact .inl z
   ·rw [List.lookup_cons] at z
    cases q:x==n with
    | true=>
     rw [q] at z
     obtain ⟨c',e'⟩:=h (n,k) List.mem_cons_self (eq_of_beq hk)
     have e':cells.lookup n=some c':=e'
     rw [e'] at z
     left
     rw [eq_of_beq q,e']; exact z
    | false=>rw [q] at z; exact .inr z
  ·rw [if_neg hk] at e
   exact Q1 r acc x c h' e
theorem Uh {cells : List (Str × Addr)} : ∀ (names : List (Str × NameKind)) (acc : List (Str × Addr)) (x : Str), ((∃ y ∈ names, y.1 = x /\ y.2 = .free) \/ ∃ c, acc.lookup x = some c) -> ∃ c, (ZaP cells names acc).lookup x = some c
  | [], acc, x, h => by
    rcases h with ⟨y, hy, _⟩ | h
    · cases hy
    · exact h
  | (n, k) :: r, acc, x, h => by
    unfold ZaP
    by_cases hk : (k == NameKind.free) = true
    · rw [if_pos hk]
      apply Uh r
      rcases h with ⟨y, hy, e1, e2⟩ | ⟨c, h⟩
      · rcases List.mem_cons.mp hy with rfl | hy
        · right; exact ⟨(cells.lookup n).getD 0, by rw [List.lookup_cons]; have : (x == n) = true := by rw [<- e1]; exact beq_self_eq_true _
                                                    rw [this]⟩
        · left; exact ⟨y, hy, e1, e2⟩
      · right
        rw [List.lookup_cons]
        cases q : x == n with
        | true => exact ⟨_, rfl⟩
        | false => exact ⟨c, h⟩
    · rw [if_neg hk]
      apply Uh r
      rcases h with ⟨y, hy, e1, e2⟩ | h
      · rcases List.mem_cons.mp hy with rfl | hy
        · have e2 : k = NameKind.free := e2
          exact absurd (by rw [e2]; rfl) hk
        · left; exact ⟨y, hy, e1, e2⟩
      · exact .inr h
noncomputable def Y2 (X:Cx) (N:List Str) (scope:Scope) (C:Addr) (s3:Shared) (H3:Hp) (fp:List Addr):Cx where
 prog:=X.prog
 w:=X.w
 K:=X.K
 mg:=X.mg
 base:=X.base
 A:=X.A
 N:=N
 s₀:=s3
 H₀:=H3
 env:=compEnvC scope (ZaP X.env.cells scope.names []) C X.env
 outer:=X.stack
 stack:=X.stack
 ex:=fp
 fn:=fun _=>false
 calm:=true
 pn:=[]
 xe:=fun _ _=>False
structure CompScope (X:Cx) (scope:Scope):Prop where
 kind:scope.kind=.function
 nocell:∀ y∈scope.names,y.2≠.cell
 loc:∀ y∈scope.names,y.2=.local->scope.names.lookup y.1=some .local
 free:∀ y∈scope.names,y.2=.free->X.env.kindOf y.1=some .cell\/X.env.kindOf y.1=some .free
theorem YI {scope:Scope} {env:Env} {x:Str} {k:NameKind} (h:(relabel scope env).names.lookup x=some k):(k=.cell\/k=.free)->(∀ y∈scope.names,y.2≠.cell)->∃ y∈scope.names,y.1=x/\y.2=.free:=by
 intro hk hn
 have gen:∀ (names:List (Str×NameKind)),(∀ y∈names,y.2≠.cell)->(names.map fun (n,k)=>if (k==NameKind.free&&env.scope.kind==.function&&env.kindOf n==some .cell) then (n,NameKind.cell) else (n,k)).lookup x=some k->∃ y∈names,y.1=x/\y.2=.free:=by
  intro names
  induction names with
  | nil=>intro _ e; cases e
  | cons y r ih=>
   intro hn e
   obtain ⟨n,k'⟩:=y
   have hn':=fun y hy=>hn y (List.mem_cons_of_mem (n,k') hy)
   simp only [List.map_cons] at e
   by_cases c:(k'==NameKind.free&&env.scope.kind==.function&&env.kindOf n==some .cell)=true
   ·rw [if_pos c,List.lookup_cons] at e
    cases q:x==n with
    | true=>
     have kf:k'=.free:=by
      have:=(Bool.and_eq_true_iff.mp (Bool.and_eq_true_iff.mp c).1).1
      exact eq_of_beq this
     exact ⟨_,List.mem_cons_self,(eq_of_beq q).symm,kf⟩
    | false=>
     rw [q] at e
     obtain ⟨y,hy,e1⟩:=ih hn' e
     exact ⟨y,List.mem_cons_of_mem _ hy,e1⟩
   ·rw [if_neg c,List.lookup_cons] at e
    cases q:x==n with
    | true=>
     rw [q] at e
     cases e
     rcases hk with rfl | rfl
     ·exact absurd rfl (hn (n,.cell) List.mem_cons_self)
     ·exact ⟨_,List.mem_cons_self,(eq_of_beq q).symm,rfl⟩
    | false=>
     rw [q] at e
     obtain ⟨y,hy,e1⟩:=ih hn' e
     exact ⟨y,List.mem_cons_of_mem _ hy,e1⟩
 exact gen scope.names hn h
section
variable {X:Cx} {pins:List (Addr×Obj)} {σ:L2.St} {H:Hp} {s:Shared}
theorem CompScope.cells {scope:Scope} (S:CompScope X scope) (ok:X.Ok):∀ y∈scope.names,y.2=.free->∃ c,X.env.cells.lookup y.1=some c:=fun y hy e=>ok.has y.1 (S.free y hy e)
theorem Zcd {scope:Scope} (S:CompScope X scope) {N:List Str} {fp:List Addr} {h4:Heap} {m:Str->Option Value} {σ':L2.St} (I:Inv X pins σ H s) (hc:X.calm=true) (hf:∀ b∈fp,Zao X pins H b) (hlt:∀ b∈fp,b < s.heap.objs.size)
  (hk:∀ b o,s.heap.get? b=some o->h4.get? b=some o) (hn:h4.Ns s.heap.objs.size m) (hl:σ'.length=N.length)
  (hσ:∀ (i:Nat) x v,N[i]?=some x->σ'[i]?=some (some v)->Vis (relabel scope X.env) x->((relabel scope X.env).names.lookup x≠some .local)/\∃ j:Nat,X.N[j]?=some x/\σ[j]?=some (some v)/\Vis X.env.scope x/\X.env.kindOf x≠some .local) {t':Nat} :
  Inv (Y2 X N scope s.heap.objs.size s H fp) [] σ' H { s with heap:=h4,toks:=t' }:=by
 have hcell:=S.cells I.ok
 have sub:∀ x c,(ZaP X.env.cells scope.names []).lookup x=some c->X.env.cells.lookup x=some c:=fun x c e=>by
  rcases Q1 scope.names [] x c hcell e with z | z
  ·exact z
  ·cases z
 refine ⟨⟨I.ok.mod,S.kind,I.ok.glob,I.ok.blt,Nat.le_refl _,fun x y c h1 h2=>I.ok.inj x y c (sub x c h1) (sub y c h2),fun x hx=>?_,fun x c h _=>(Bool.false_ne_true (show false=true from h)).elim,fun _=>I.ok.hd hc,I.ok.frames,.inl rfl,fun b hb=>⟨Nat.ne_of_lt (hlt b hb),fun x c e=>(hf b hb).2.2.2.2.1 x c (sub x c e)⟩,I.bs,Nat.le_trans I.ok.bsz I.sz,fun b o e hb=>?_,fun b hb z=>?_,I.stack,I.stkFree⟩,
  rfl,I.bare,Un.kept hk,⟨m,hn,fun i x v e1 e2 e3=>?_⟩,fun x c e=>?_,I.hok.fresh (Nat.le_refl _),fun x c e=>I.freeC x c (sub x c e),fun p hp=>absurd (show p∈([]:List (Addr×Obj)) from hp) (by simp),I.hok.kept hk,hl⟩
 ·obtain ⟨y,hy,e1,e2⟩:∃ y∈scope.names,y.1=x/\y.2=.free:=by
   rcases hx with hx | hx
   ·exact YI (show (relabel scope X.env).names.lookup x=some .cell from hx) (.inl rfl) S.nocell
   ·exact YI (show (relabel scope X.env).names.lookup x=some .free from hx) (.inr rfl) S.nocell
  exact Uh scope.names [] x (.inl ⟨y,hy,e1,e2⟩)
 ·obtain ⟨_,_,_,h,_⟩:=hf b hb
  rcases h with h | h
  ·exact I.ok.noex b o e h
  ·exact absurd (Nat.lt_of_lt_of_le (Nat.lt_of_lt_of_le (Heap.lt_size e) I.ok.bsz) h) (Nat.lt_irrefl _)
 ·have z:b∈frs X.stack:=z
  obtain ⟨_,h1,h2,_⟩:=hf b hb
  rcases List.mem_cons.mp (I.stkSub b z) with q | q
  ·exact h1 q
  ·exact h2 q
 ·obtain ⟨nl,j,g1,g2,g3,g4⟩:=hσ i x v e1 e2 e3
  obtain ⟨m0,_,hl0⟩:=I.loc
  obtain ⟨u,r,l⟩:=hl0 j x v g1 g2 g3
  refine ⟨u,r,?_⟩
  rcases l with ⟨l,_⟩ | ⟨_,c,ec,hcl⟩
  ·exact absurd l g4
  ·have kx:(relabel scope X.env).names.lookup x=some .cell\/(relabel scope X.env).names.lookup x=some .free:=by
    rcases e3 with z | z | z
    ·exact absurd z nl
    ·exact .inl z
    ·exact .inr z
   obtain ⟨y,hy,y1,y2⟩:∃ y∈scope.names,y.1=x/\y.2=.free:=by
    rcases kx with z | z
    ·exact YI z (.inl rfl) S.nocell
    ·exact YI z (.inr rfl) S.nocell
   obtain ⟨c',ec'⟩:=Uh (cells:=X.env.cells) scope.names [] x (.inl ⟨y,hy,y1,y2⟩)
   have:c'=c:=by have:=sub x c' ec'; rw [ec] at this; exact (Option.some.inj this).symm
   subst this
   refine .inr ⟨kx,c',ec',?_⟩
   obtain ⟨o,ho,hd⟩:=hcl
   exact ⟨o,hk _ o ho,hd⟩
 ·obtain ⟨v,o,ho,hd⟩:=I.cell x c (sub x c e)
  exact ⟨v,o,hk _ o ho,hd⟩
theorem Zfg {scope:Scope} {N:List Str} {fp:List Addr} {σ':L2.St} {H':Hp} {s':Shared} (I:Inv X pins σ H s) (hf:∀ b∈fp,Zao X pins H b) (J:Inv (Y2 X N scope s.heap.objs.size s H fp) [] σ' H' s') :
  ∀ h'',Heap.SameBut s.heap.objs.size s'.heap h''->Inv X pins σ H' { s' with heap:=h'' }:=by
 intro h'' hs
 have nC:∀ {b:Addr} {o:Obj},s.heap.get? b=some o->b≠s.heap.objs.size:=fun e=>Nat.ne_of_lt (Heap.lt_size e)
 have kp:∀ b,b≠s.heap.objs.size->∀ o,s'.heap.get? b=some o->h''.get? b=some o:=fun b hb o e=>(hs.2 b hb).trans e
 have hU:=J.base
 refine I.call' (ch:=fp) (s':={ s' with heap:=h'' }) J.os ⟨fun b o e n h1 h2=>kp b (nC e) o (hU.keep b o e n h1 h2),fun b o e n h1 h2=>?_,hU.free,fun b o e h2=>?_,hU.tups,hU.frzs,hU.tbls⟩ (fun b u e=>?_) J.bare (fun b hb=>?_)
 ·obtain ⟨sl,q⟩:=hU.slot b o e n h1 h2
  exact ⟨sl,kp b (nC e) _ q⟩
 ·obtain ⟨o',q⟩:=hU.there b o e h2
  exact ⟨o',kp b (nC e) _ q⟩
 ·have fr:H' s.heap.objs.size=none:=J.free
  refine (J.hok b u e).stay (fun c v hc q=>kp c ?_ v q) (fun _ q=>q) fun _ _ q=>q
  rcases hc with z | z
  ·rw [z]; exact Zu e fr
  ·exact Zu z fr
 ·obtain ⟨_,h1,_,h3,h4,h5⟩:=hf b hb
  exact ⟨h3,h1,h4,h5⟩
end
theorem wpx {α:Type} {M:Model} {A:Around} {m:Sem α} {Q:α->Shared->Prop} {E:Value->Shared->Prop} {s:Shared} (h:wpAny M A m Q (fun _ _=>False) s):wpAny M A m Q E s:=wpAny_mono h (fun _ _ q=>q) fun _ _ z=>z.elim
noncomputable def PTs (X:Cx) (ifs:List Expr) (t:TT):Prop:=
 ∀ (pins:List (Addr×Obj)) (s:Shared) (σ:L2.St) (H:Hp) (Q:Bool->Hp->Prop),L2.Inv X pins σ H s->t σ H Q ->
  wpAny (model X.prog X.w) X.A (forIn ifs true fun c r=>if r=true then do let ok <- isTrue c X.env (eval c X.env); pure (ForInStep.yield ok) else pure (ForInStep.yield r)) (TP X pins σ Q) X.xe s
theorem Zgq {X:Cx}:PTs X [] (fun _ H Q=>Q true H):=fun pins s σ H Q I h=>wpAny_tests_nil ⟨H,I,h⟩
section
variable {X:Cx} {pins:List (Addr×Obj)} {σ:L2.St} {H:Hp} {s:Shared}
theorem ZdV {Y:Cx} {tg elt iter:Expr} {ifs:List Expr} {scope:Scope} {pos:Pos} {fp:List Addr} {it Dl:Addr} {tn:Nat->Heap->Prop} {J:It} {g:TG} {te:TE} {tt:TT} {R:Result->Shared->Prop}
  (T:Zf4 Y.prog Y.w Y.K tg J fp it tn) (hc:Y.calm=true) (hxe:Y.xe=fun _ _=>False) (hex:Y.ex=fp) (hpn:Y.pn=[]) (hg:PG Y tg g) (hi:PTs Y ifs tt) (he:PE Y elt te)
  (W:Nat->Nat->L2.St->Hp->Prop) (Done:L2.St->Hp->Prop)
  (turn:∀ i m σ H,W i m σ H->(J.stop i H/\Done σ H)\/(J.go i H/\∀ x H',J.yld i H x H'->g x σ H' fun σ2 H2=>tt σ2 H2 fun b H3=>if b=true then te σ2 H3 fun v H4=>∃ ys,H4 Dl=some (.lst ys)/\ys.length < sizeLine/\∃ m',m' < m/\W (i+1) m' σ2 (upd H4 Dl (.lst (ys++[v]))) else ∃ m',m' < m/\W (i+1) m' σ2 H3))
  (fin:∀ σ' H' s',L2.Inv Y [] σ' H' s'->Done σ' H'->R (.ok .next) s')
  (I:L2.Inv Y [] σ H s) (st:tn 0 s.heap) (hf:∀ b∈fp,H b=none) (m:Nat) (w:W 0 m σ H) :
  codeAny (model Y.prog Y.w) Y.A (.compLoop (.ListComp elt [⟨tg,iter,ifs,0⟩] scope pos) 0 (.ref it) (.ref Dl) Y.env) R s:=by
 have fpY:∀ {H':Hp} (ok:Y.Ok),(∀ b∈fp,H' b=none)->∀ b∈fp,Zao Y [] H' b:=fun {H'} ok h b hb=>by
  have hb':b∈Y.ex:=by rw [hex]; exact hb
  exact ⟨h b hb,(ok.exf b hb').1,ok.exfs b hb',.inl hb',(ok.exf b hb').2,fun p hp=>by rw [hpn] at hp; exact absurd (show p∈([]:List (Addr×Obj)) from hp) (by simp)⟩
 refine codeAny_loop rfl (fun n s'=>∃ i σ' H',L2.Inv Y [] σ' H' s'/\tn i s'.heap/\(∀ b∈fp,H' b=none)/\W i n σ' H') (fun n s1 hI=>?_) m ⟨0,σ,H,I,st,hf,w⟩
 obtain ⟨i,σ1,H1,I1,st1,fr1,w1⟩:=hI
 show wpAny _ Y.A ((compTurn (.ListComp elt [⟨tg,iter,ifs,0⟩] scope pos) 0 (.ref it) (.ref Dl) Y.env).onRaise (fun x=>do noteFrame x Y.env; theTreesLotGoes x)) _ _ s1
 refine wpAny_noted ?_
 rw [compTurn_list]
 refine wpAny_bind (wpAny_standAt (wpAny_bind ?_))
 rcases turn i n σ1 H1 w1 with ⟨stop,dn⟩ | ⟨go,step⟩
 ·refine wpx (thn (T.done Y rfl rfl rfl hc i [] s1 σ1 H1 _ I1 (fpY I1.ok fr1) st1 stop) fun r s2 zq=>?_)
  obtain ⟨hr,I2⟩:=zq
  subst hr
  exact wpAny_pure (fin σ1 H1 s2 I2 dn)
 ·refine wpx (thn (T.item Y rfl rfl rfl hc i [] s1 σ1 H1 _ I1 (fpY I1.ok fr1) st1 go) fun r s2 zq=>?_)
  obtain ⟨u,hr,h2⟩:=zq
  subst hr
  refine wpAny_bind (wpx (thn h2 fun _ s3 zq=>?_))
  obtain ⟨x,H3,I3,r3,y3,st3,fr3⟩:=zq
  have I3':=I3.pinned (fpY I3.ok fr3) (T.obj _ _ st3)
  have hg':=hg _ s3 σ1 H3 x u _ I3' r3 (step x H3 y3)
  rw [hxe] at hg'
  refine wpAny_bind (wpx (thn hg' fun _ s4 zq=>?_))
  obtain ⟨σ4,H4,I4,q4⟩:=zq
  have hi':=hi _ s4 σ4 H4 _ I4 q4
  rw [hxe] at hi'
  refine wpAny_bind (wpx (thn hi' fun b s5 zq=>?_))
  obtain ⟨H5,I5,q5⟩:=zq
  have back:∀ {σ7:L2.St} {H7:Hp} {s7:Shared},L2.Inv Y ([]++WB fp s3.heap) σ7 H7 s7->(∃ m',m' < n/\W (i+1) m' σ7 H7)->∃ m,m < n/\∃ i σ' H',L2.Inv Y [] σ' H' s7/\tn i s7.heap/\(∀ b∈fp,H' b=none)/\W i m σ' H':=fun {σ7 H7 s7} I7 zq=>by
   obtain ⟨m',hm,w7⟩:=zq
   have pin:=fun (b:Addr) (hb:b∈fp) (o:Obj) (e:s3.heap.get? b=some o)=>I7.pin (b,o) (List.mem_append_right _ (List.mem_append_right _ (Jv hb e)))
   refine ⟨m',hm,i+1,σ7,H7,I7.unpinned,T.keep _ _ _ st3 fun b hb o e=>(pin b hb o e).1,fun b hb=>?_,w7⟩
   obtain ⟨o,e,_⟩:=T.obj _ _ st3 b hb
   exact (pin b hb o e).2.1
  cases b with
  | false=>
   rw [if_neg (by decide)] at q5
   exact wpAny_pure ⟨rfl,back I5 q5⟩
  | true=>
   rw [if_pos rfl] at q5
   have he':=he _ s5 σ4 H5 _ I5 q5
   rw [hxe] at he'
   refine wpAny_bind (wpAny_bind (wpx (thn he' fun vu s6 zq=>?_)))
   obtain ⟨v,H6,I6,r6,ys,hD,hz,q6⟩:=zq
   have ha:=WH _ s6 σ4 H6 (.ref Dl) [v] (.ref Dl) [vu] (fun _ H7=>∃ m',m' < n/\W (i+1) m' σ4 H7) I6 rfl (.cons r6 .nil) ⟨Dl,ys,v,rfl,rfl,hD,hz,q6⟩
   rw [hxe] at ha
   exact wpAny_bind (wpx (thn ha fun _ s7 ⟨_,H7,I7,_,q7⟩=>wpAny_pure (wpAny_pure ⟨rfl,back I7 q7⟩)))
noncomputable def Zht (K:PySem.W.Frag) (wi:TI) (Pt:It->Hp->Addr->(L2.St->Hp->Prop)->Prop):TE:=fun σ H Q=>wi σ H fun J H1=>∀ Dl,H1 Dl=none->K.lookup Dl=none->Pt J (upd H1 Dl (.lst [])) Dl fun _ H'=>Q (.ref Dl) H'
noncomputable def ZcA (X:Cx) (N:List Str) (scope:Scope) (σ:L2.St) (g:TG) (tt:TT) (te:TE):It->Hp->Addr->(L2.St->Hp->Prop)->Prop:=fun J H Dl Done=>
 ∃ (σ':L2.St) (W:Nat->Nat->L2.St->Hp->Prop),σ'.length=N.length /\
  (∀ (i:Nat) x v,N[i]?=some x->σ'[i]?=some (some v)->Vis (relabel scope X.env) x->((relabel scope X.env).names.lookup x≠some .local)/\∃ j:Nat,X.N[j]?=some x/\σ[j]?=some (some v)/\Vis X.env.scope x/\X.env.kindOf x≠some .local) /\
  (∃ m,W 0 m σ' H) /\
  ∀ i m σ H,W i m σ H->(J.stop i H/\Done σ H)\/(J.go i H/\∀ x H',J.yld i H x H'->g x σ H' fun σ2 H2=>tt σ2 H2 fun b H3=>if b=true then te σ2 H3 fun v H4=>∃ ys,H4 Dl=some (.lst ys)/\ys.length < sizeLine/\∃ m',m' < m/\W (i+1) m' σ2 (upd H4 Dl (.lst (ys++[v]))) else ∃ m',m' < m/\W (i+1) m' σ2 H3)
theorem Zff {tg elt iter:Expr} {ifs:List Expr} {scope:Scope} {pos:Pos} {N:List Str} {g:TG} {te:TE} {tt:TT} {wi:TI} {Q:VK} {RR:Value->Addr->Result->Shared->Prop} {E:Value->Shared->Prop}
  (S:CompScope X scope) (hc:X.calm=true) {it:Addr} {fp:List Addr} {tn:Nat->Heap->Prop} {J:It} {H2:Hp} {s2:Shared} (I2:L2.Inv X pins σ H2 s2) (T:Zf4 X.prog X.w X.K tg J fp it tn) (st2:tn 0 s2.heap) (f2:∀ b∈fp,Zao X pins H2 b)
  (hg:∀ C s3 H3 fp,PG (Y2 X N scope C s3 H3 fp) tg g) (hi:∀ C s3 H3 fp,PTs (Y2 X N scope C s3 H3 fp) ifs tt) (he:∀ C s3 H3 fp,PE (Y2 X N scope C s3 H3 fp) elt te)
  (hb:∀ Dl,H2 Dl=none->X.K.lookup Dl=none->ZcA X N scope σ g tt te J (upd H2 Dl (.lst [])) Dl fun _ H'=>Q (.ref Dl) H')
  (hRR:∀ Dl C H' (s':Shared) m,(∀ h'',Heap.SameBut C s'.heap h''->L2.Inv X pins σ H' { s' with heap:=h'' })->Zao X pins H' C->s'.heap.Ns C m->Q (.ref Dl) H'->RR (.ref Dl) C (.ok .next) s') :
  wpAny (model X.prog X.w) X.A (newList []) (fun acc s₃=>wpAny (model X.prog X.w) X.A (newFunctionEnv scope X.env.globals (ZaP X.env.cells scope.names []) [] X.env.qual none .none (some X.env)) (fun cenv s₄=>
   codeAny (model X.prog X.w) X.A (.compStart (.ListComp elt [⟨tg,iter,ifs,0⟩] scope pos) 0 (.ref it) acc { cenv with scope:=relabel scope X.env }) (RR acc cenv.locals) s₄) E s₃) E s2:=by
 refine wpAny_newObj_type ?_
 have hD:H2 s2.heap.objs.size=none:=I2.hok.fresh (Nat.le_refl _)
 have I3:L2.Inv X pins σ (upd H2 s2.heap.objs.size (.lst [])) { s2 with heap:=s2.heap.push { cls:=.type "list",dict:=none,data:=.seq ([]:List Value).toArray } }:=
  I2.laid (t':=s2.toks) (fun b u e=>Heap.get?_push_of_some _ e) (Nat.le_refl _) ⟨Nat.zero_le _,[],0,.nil,Heap.get?_push_size _ rfl⟩
 have lt:∀ b∈fp,b < s2.heap.objs.size:=fun b hb'=>by obtain ⟨o,e,_⟩:=T.obj _ _ st2 b hb'; exact Heap.lt_size e
 have f3:∀ b∈fp,Zao X pins (upd H2 s2.heap.objs.size (.lst [])) b:=fun b hb'=>by
  obtain ⟨h0,h1,h2,h3,h4,h5⟩:=f2 b hb'
  exact ⟨by rw [Zy (Nat.ne_of_lt (lt b hb'))]; exact h0,h1,h2,h3,h4,h5⟩
 have hKD:X.K.lookup s2.heap.objs.size=none:=by
  cases e:X.K.lookup s2.heap.objs.size with
  | none=>rfl
  | some o=>exact absurd (Heap.lt_size (I2.kIn _ o e)) (Nat.lt_irrefl _)
 obtain ⟨σ',W,hl,hσ,⟨m0,w0⟩,turn⟩:=hb _ hD hKD
 generalize hs3:({ s2 with heap:=s2.heap.push { cls:=.type "list",dict:=none,data:=.seq ([]:List Value).toArray } }:Shared)=s3 at I3
 have h3:s3.heap=s2.heap.push { cls:=.type "list",dict:=none,data:=.seq ([]:List Value).toArray }:=by rw [<-hs3]
 have lt3:∀ b∈fp,b < s3.heap.objs.size:=fun b hb'=>by rw [h3,Heap.size_push]; exact Nat.lt_succ_of_lt (lt b hb')
 refine wpAny_newFunctionEnv S.nocell (by intro y hy; simp at hy) (fun h4 hn4 hs4=>?_) S.kind
 have kp:∀ b o,s3.heap.get? b=some o->h4.get? b=some o:=fun b o e=>hs4.extBut b o (Nat.ne_of_lt (Heap.lt_size e)) (Heap.get?_push_of_some _ e)
 have I4:L2.Inv (Y2 X N scope s3.heap.objs.size s3 (upd H2 s2.heap.objs.size (.lst [])) fp) [] σ' (upd H2 s2.heap.objs.size (.lst [])) { s3 with heap:=h4,toks:=s3.toks+([]:List (Str×Value)).length }:=
  Zcd S I3 hc f3 lt3 kp hn4 hl hσ
 have st4:tn 0 h4:=T.keep _ _ _ st2 fun b hb' o e=>kp b o (by rw [h3]; exact Heap.get?_push_of_some _ e)
 have loop:codeAny (model X.prog X.w) X.A (.compLoop (.ListComp elt [⟨tg,iter,ifs,0⟩] scope pos) 0 (.ref it) (.ref s2.heap.objs.size) (compEnvC scope (ZaP X.env.cells scope.names []) s3.heap.objs.size X.env)) (RR (.ref s2.heap.objs.size) s3.heap.objs.size)
   { s3 with heap:=h4,toks:=s3.toks+([]:List (Str×Value)).length }:=by
  refine ZdV (Y:=Y2 X N scope s3.heap.objs.size s3 (upd H2 s2.heap.objs.size (.lst [])) fp) T rfl rfl rfl rfl (hg _ _ _ _) (hi _ _ _ _) (he _ _ _ _) W _ turn (fun σ5 H5 s5 I5 dn=>?_) I4 st4 (fun b hb'=>(f3 b hb').1) m0 w0
  obtain ⟨mC,hnC,_⟩:=I5.loc
  have big:s3.heap.objs.size<=s3.heap.objs.size:=Nat.le_refl _
  refine hRR _ s3.heap.objs.size H5 s5 mC (Zfg I3 f3 I5) ?_ hnC dn
  have q:=I3.fpOk (H':=H5) big I5.free
  exact q
 exact codeAny_compStart_list loop (T.self _ 0 _ _ _ st4 loop)
theorem Zgy {tg elt iter:Expr} {ifs:List Expr} {scope:Scope} {pos:Pos} {N:List Str} {g:TG} {te:TE} {tt:TT} {wi:TI} (S:CompScope X scope) (hc:X.calm=true) (hit:PI X tg iter wi)
  (hg:∀ C s3 H3 fp,PG (Y2 X N scope C s3 H3 fp) tg g) (hi:∀ C s3 H3 fp,PTs (Y2 X N scope C s3 H3 fp) ifs tt) (he:∀ C s3 H3 fp,PE (Y2 X N scope C s3 H3 fp) elt te)
  (hs:∀ x,foldedSetIterable iter X.env x=pure x:=by intro _; rfl) :
  PE X (.ListComp elt [⟨tg,iter,ifs,0⟩] scope pos) (fun σ H Q=>Zht X.K wi (ZcA X N scope σ g tt te) σ H Q):=by
 intro pins s σ H Q I h
 rw [eval_ListComp]
 refine wpAny_comprehension_free (use:=none) rfl hs (V8 (S.cells I.ok)) S.kind S.loc (wpAny_mono (hit pins s σ H _ I h) (fun xv s₁ h₁=>wpAny_mono h₁ (fun itv s₂ h₂=>?_) fun _ _ z=>z) fun _ _ z=>z)
 obtain ⟨it,fp,tn,J,H2,rfl,I2,T,st2,f2,hb⟩:=h₂
 refine Zff (RR:=fun acc C=>compPost (model X.prog X.w) X.A X.xe none (EP X pins σ Q) acc C) (wi:=wi) S hc I2 T st2 f2 hg hi he hb ?_
 intro Dl C H' s' m hI hC hn q
 exact ⟨m,hn,fun h'' hs''=>⟨.ref Dl,H',hI h'' hs'',rfl,q⟩⟩
end
noncomputable def Zhg (K:PySem.W.Frag) (F:Fz) (H:Hp) (J:It) (xs:List D):Prop:=∀ F' H',Ext K F H F' H' ->
 (∀ i d,xs[i]?=some d->J.go i H'/\∀ x H'',J.yld i H' x H''->∃ F'',Grow F' H' F'' H''/\Rep K F'' H'' d x)/\∀ i,xs.length<=i->J.stop i H'
noncomputable abbrev DI:=Rho->Option (List D)
inductive ZkH (K:PySem.W.Frag) (it:DI) (σ:L2.St) (H:Hp) (R:It->Hp->Prop):Prop
 | mk (ρ:Rho) (F0:Fz) (H0:Hp) (F:Fz) (xs:List D) (ok:EnvOk K F0 H0 F σ H ρ) (e:it ρ=some xs) (q:∀ J F1 H1,Grow F H F1 H1->Zhg K F1 H1 J xs->R J H1)
noncomputable def rdI (K:PySem.W.Frag) (it:DI):TI:=fun σ H R=>ZkH K it σ H R
noncomputable def ID (X:Cx) (tg e:Expr) (it:DI):Prop:=PI X tg e (rdI X.K it)
theorem PI.imp {X:Cx} {tg e:Expr} {t t':TI} (h:PI X tg e t) (i:∀ σ H R,t' σ H R->t σ H R):PI X tg e t':=fun pins s σ H R I q=>h pins s σ H R I (i σ H R q)
section
variable {X:Cx} {pos:Pos} {tg l:Expr} {f:DE}
theorem Zdo {K:PySem.W.Frag} {F:Fz} {H:Hp} {a:Addr} {xs:List D} {vs:List V} (hf:F a) (hq:SqL K H a vs) (hr:RepL K F H xs vs):Zhg K F H (Itl K a) xs:=fun F' H' e=>by
 have hq':=e.ls a vs hf hq
 refine ⟨fun i d hd=>?_,fun i hi=>⟨vs,hq',by rw [<-hr.length]; exact hi⟩⟩
 obtain ⟨v,hv,rv⟩:=hr.get hd
 refine ⟨⟨vs,v,hq',hv⟩,fun x H'' y=>?_⟩
 obtain ⟨rfl,y⟩:=y
 have:=y vs hq'
 rw [hv] at this; cases this
 exact ⟨F',.refl,Rep.ext e rv⟩
theorem ZeS {K:PySem.W.Frag} {F:Fz} {H:Hp} {a:Addr} {xs:List D} {vs:List V} (hq:SqT K H a vs) (hr:RepL K F H xs vs):Zhg K F H (Itt K a) xs:=fun F' H' e=>by
 have hq':=e.ts a vs hq
 refine ⟨fun i d hd=>?_,fun i hi=>⟨vs,hq',by rw [<-hr.length]; exact hi⟩⟩
 obtain ⟨v,hv,rv⟩:=hr.get hd
 refine ⟨⟨vs,v,hq',hv⟩,fun x H'' y=>?_⟩
 obtain ⟨rfl,y⟩:=y
 have:=y vs hq'
 rw [hv] at this; cases this
 exact ⟨F',.refl,Rep.ext e rv⟩
theorem ZeT {K:PySem.W.Frag} {F:Fz} {H:Hp} {lo:Int} {n:Nat}:Zhg K F H (Itr lo n) (Wj lo n):=fun F' H' e=>by
 refine ⟨fun i d hd=>?_,fun i hi=>(show n<=i from by simpa [Wj] using hi)⟩
 have hl:i < n:=by have:=(List.getElem?_eq_some_iff.mp hd).1; simpa [Wj] using this
 refine ⟨hl,fun x H'' y=>?_⟩
 obtain ⟨rfl,rfl⟩:=y
 refine ⟨F',.refl,?_⟩
 have:d=.int (lo+(i:Int)):=by
  unfold Wj at hd
  rw [List.getElem?_map,List.getElem?_range hl] at hd
  simpa using hd.symm
 subst this
 exact ZY _
noncomputable def QZ (n:Nat):List D->List D
 | []=>[]
 | d::ds=>.tup [.int n,d]::QZ (n+1) ds
theorem UH:∀ (ds:List D) (n i:Nat),(QZ n ds)[i]?=(ds[i]?).map fun d=>.tup [.int ((n+i:Nat):Int),d]
 | [],n,i=>by simp [QZ]
 | d::ds,n,0=>by simp [QZ]
 | d::ds,n,i+1=>by
  simp only [QZ,List.getElem?_cons_succ]
  rw [UH ds (n+1) i,show n+1+i=n+(i+1) by omega]
theorem UG:∀ (ds:List D) (n:Nat),(QZ n ds).length=ds.length
 | [],n=>rfl
 | d::ds,n=>by simp [QZ,UG ds]
theorem Zb3 {K:PySem.W.Frag} {F:Fz} {H:Hp} {a:Addr} {xs:List D} {vs:List V} (hf:F a) (hq:SqL K H a vs) (hr:RepL K F H xs vs):Zhg K F H (Ite K a false) (QZ 0 xs):=fun F' H' e=>by
 have hq':=e.ls a vs hf hq
 refine ⟨fun i d hd=>?_,fun i hi=>⟨vs,hq',by rw [<-hr.length]; rw [UG] at hi; exact hi⟩⟩
 rw [UH,Nat.zero_add] at hd
 obtain ⟨d',hd',rfl⟩:=map_some hd
 obtain ⟨v,hv,rv⟩:=hr.get hd'
 refine ⟨⟨vs,v,hq',hv⟩,fun x H'' y=>?_⟩
 obtain ⟨p,z,y,hp,rfl,rfl⟩:=y
 have:=y vs hq'
 rw [hv] at this; cases this
 refine ⟨F',.laid0 hp,?_⟩
 unfold Rep
 exact ⟨p,_,rfl,.of ZB,.cons (ZY _) (.cons ((Rep.ext e rv).grow (.laid0 hp)) .nil)⟩
theorem Zb2 {K:PySem.W.Frag} {F:Fz} {H:Hp} {a:Addr} {xs:List D} {vs:List V} (hq:SqT K H a vs) (hr:RepL K F H xs vs):Zhg K F H (Ite K a true) (QZ 0 xs):=fun F' H' e=>by
 have hq':=e.ts a vs hq
 refine ⟨fun i d hd=>?_,fun i hi=>⟨vs,hq',by rw [<-hr.length]; rw [UG] at hi; exact hi⟩⟩
 rw [UH,Nat.zero_add] at hd
 obtain ⟨d',hd',rfl⟩:=map_some hd
 obtain ⟨v,hv,rv⟩:=hr.get hd'
 refine ⟨⟨vs,v,hq',hv⟩,fun x H'' y=>?_⟩
 obtain ⟨p,z,y,hp,rfl,rfl⟩:=y
 have:=y vs hq'
 rw [hv] at this; cases this
 refine ⟨F',.laid0 hp,?_⟩
 unfold Rep
 exact ⟨p,_,rfl,.of ZB,.cons (ZY _) (.cons ((Rep.ext e rv).grow (.laid0 hp)) .nil)⟩
theorem JJ (hl:ED X l f):ID X tg l (Yq f):=PI.imp (ZhL hl) fun σ H R zq=>by
 obtain ⟨ρ,F0,H0,F,xs,ok,ex,q⟩:=zq
 obtain ⟨d,ed,ex⟩:=bind_some ex
 refine ⟨ρ,F0,H0,F,d,ok,ed,fun v F1 H1 g1 r1=>?_⟩
 split at ex
 ·cases ex
  unfold Rep at r1
  obtain ⟨a,vs,rfl,hf,hq,hr⟩:=r1
  exact ⟨a,rfl,.inl ⟨⟨vs,hq⟩,q _ F1 H1 g1 (Zdo hf hq hr)⟩⟩
 ·cases ex
  unfold Rep at r1
  obtain ⟨a,vs,rfl,hq,hr⟩:=r1
  exact ⟨a,rfl,.inr ⟨⟨vs,hq⟩,q _ F1 H1 g1 (ZeS hq hr)⟩⟩
 ·cases ex
theorem Zds {a:Expr} {p pos2:Pos} (hgl:Gl X "range") (hm:X.mg "range"=none) (ha:ED X a f) (hst:starEach [a] X.env=[(false,eval a X.env)]:=by rfl):ID X tg (.Call (.Name "range" p) [a] [] pos2) (Zim f):=
 PI.imp (Zc1 hgl hm (Zc ha Zh hst) hst) fun σ H R zq=>by
  obtain ⟨ρ,F0,H0,F,xs,ok,ex,q⟩:=zq
  obtain ⟨d,ed,ex⟩:=bind_some ex
  split at ex
  ·rename_i j
   obtain ⟨hj,rfl⟩:=Z9 ex
   refine ⟨ρ,F0,H0,F,[.int j],ok,by simp [Zb,Zq,ed],fun vs F1 H1 g1 r1=>?_⟩
   obtain ⟨v,rfl,rv⟩:=Q5 r1
   unfold Rep at rv
   subst rv
   have:=Zeu hj
   exact ⟨j,rfl,this.1,this.2,q _ F1 H1 g1 ZeT⟩
  ·cases ex
noncomputable def Zju (K:PySem.W.Frag) (ta:TA):TI:=fun σ H R=>ta σ H fun vs H1=>∃ a,vs=[.ref a]/\(((∃ xs,SqL K H1 a xs)/\R (Ite K a false) H1)\/((∃ xs,SqT K H1 a xs)/\R (Ite K a true) H1))
theorem Zgv {elts:List Expr} {k:Nat} {tpos p:Pos} {ta:TA} (hg:Gl X "enumerate") (hm:X.mg "enumerate"=none) (ha:PA X [l] ta) (hs:starEach [l] X.env=[(false,eval l X.env)]:=by rfl) :
  PI X (.Tuple elts k tpos) (.Call (.Name "enumerate" p) [l] [] pos) (Zju X.K ta):=by
 intro pins s σ H R I h
 refine Call_ (JH I hg hm boot_enumerate (PyProof.Rows.callWith_type1 (thn (ha pos pins s σ H _ I h) fun us s1 zq=>?_) hs rfl))
 obtain ⟨vs,H1,I1,r1,q1⟩:=zq
 obtain ⟨a,e,q1⟩:=q1
 subst e
 cases r1 with
 | cons r rr=>
  cases rr
  cases r
  have fpk:∀ b∈[s1.heap.objs.size+1,s1.heap.objs.size],Zao X pins H1 b:=fun b hb=>by
   have:s1.heap.objs.size<=b:=by
    rcases List.mem_cons.mp hb with z | z
    ·omega
    ·rw [List.mem_singleton] at z; omega
   exact I1.fpOk this (I1.hok.fresh this)
  rcases q1 with ⟨⟨xs,hq⟩,q⟩ | ⟨⟨xs,hq⟩,q⟩
  ·obtain ⟨its,rv,p,hz⟩:=I1.list hq
   refine call_enumerate_list p.isList fun h' he hit hsz kp=>wpAny_pyIter_enum (s:={ s1 with heap:=h' }) he ?_
   exact ⟨_,[s1.heap.objs.size+1,s1.heap.objs.size],_,_,H1,rfl,I1.kept (t':=s1.toks) kp,ZbP a _ _ (Nat.succ_ne_self _),⟨⟨_,he⟩,hit⟩,fpk,q⟩
  ·obtain ⟨its,rv,p,hz⟩:=I1.tuple hq
   refine Zca (show s1.heap.IsTuple a its.toArray from p) fun h' he hit hsz kp=>wpAny_pyIter_enum (s:={ s1 with heap:=h' }) he ?_
   exact ⟨_,[s1.heap.objs.size+1,s1.heap.objs.size],_,_,H1,rfl,I1.kept (t':=s1.toks) kp,ZbO a _ _ (Nat.succ_ne_self _),⟨⟨_,he⟩,hit⟩,fpk,q⟩
noncomputable def WO (f:DE):DI:=fun ρ=>(Yq f ρ).map (QZ 0)
theorem ZgN {elts:List Expr} {k:Nat} {tpos p:Pos} (hg:Gl X "enumerate") (hm:X.mg "enumerate"=none) (ha:ED X l f) (hs:starEach [l] X.env=[(false,eval l X.env)]:=by rfl) :
  ID X (.Tuple elts k tpos) (.Call (.Name "enumerate" p) [l] [] pos) (WO f):=PI.imp (Zgv hg hm (Zc ha Zh hs) hs) fun σ H R zq=>by
 obtain ⟨ρ,F0,H0,F,xs,ok,ex,q⟩:=zq
 obtain ⟨ys,ey,rfl⟩:=map_some ex
 clear ex
 obtain ⟨d,ed,ex⟩:=bind_some ey
 refine ⟨ρ,F0,H0,F,[d],ok,by simp [Zb,Zq,ed],fun vs F1 H1 g1 r1=>?_⟩
 obtain ⟨v,rfl,rv⟩:=Q5 r1
 split at ex
 ·cases ex
  unfold Rep at rv
  obtain ⟨a,vs,rfl,hf,hq,hr⟩:=rv
  exact ⟨a,rfl,.inl ⟨⟨vs,hq⟩,q _ F1 H1 g1 (Zb3 hf hq hr)⟩⟩
 ·cases ex
  unfold Rep at rv
  obtain ⟨a,vs,rfl,hq,hr⟩:=rv
  exact ⟨a,rfl,.inr ⟨⟨vs,hq⟩,q _ F1 H1 g1 (Zb2 hq hr)⟩⟩
 ·cases ex
theorem Um {body:List Stmt} {b:DG} {g:DS} {it:DI} {e:Expr} (hp:PassesOwn (model X.prog X.w) X.A X.env X.xe) (hc:X.calm=true) (hi:ID X tg e it) (hg:GD X tg b) (hb:SDs X body g)
  (hs:∀ x,foldedSetIterable e X.env x=pure x:=by intro _; rfl):SD X (.For tg e body [] pos) (Zco it b g):=
 PS.imp (ZhK hp hc hi hg hb hs) fun E σ H zq=>by
  obtain ⟨ρ,F0,H0,F,o,ok,e,k⟩:=zq
  obtain ⟨xs,ex,e⟩:=bind_some e
  refine ⟨ρ,F0,H0,F,xs,ok,ex,fun J F1 H1 g1 hJ=>?_⟩
  have k1:=k.ext g1.ext
  refine ⟨fun i m σ' H'=>m=xs.length-i/\i<=xs.length/\FW X.K F0 H0 F1 H1 b g xs o i σ' H',⟨xs.length,by simp,Nat.zero_le _,ρ,F1,ok.grow g1,.refl,e⟩,?_⟩
  rintro i m σ1 H2 ⟨rfl,hi,ρ1,F2,ok2,x2,e2⟩
  obtain ⟨hgo,hst⟩:=hJ F2 H2 x2
  by_cases hlt:i < xs.length
  ·obtain ⟨go,yl⟩:=hgo i xs[i] (by simp [hlt])
   refine .inr ⟨go,FW X.K F0 H0 F1 H1 b g xs o (i+1),fun σ' H' w=>⟨xs.length-(i+1),by omega,rfl,hlt,w⟩,fun x H3 y=>?_⟩
   obtain ⟨F3,g3,rx⟩:=yl x H3 y
   rw [List.drop_eq_getElem_cons hlt] at e2
   unfold UW at e2
   obtain ⟨ρ2,eb,e2⟩:=bind_some e2
   refine ⟨ρ1,F0,H0,F3,xs[i],ρ2,ok2.grow g3,rx,eb,fun σ4 F4 H4 g4 ok4=>?_⟩
   cases eg:g ρ2 with
   | none=>rw [eg] at e2; cases e2
   | some o1=>
    rw [eg] at e2
    have x4:=(x2.trans (g3.ext (K:=X.K))).trans (g4.ext (K:=X.K))
    refine ⟨ρ2,F0,H0,F4,o1,ok4,eg,?_⟩
    cases o1 with
    | nx ρ3=>exact fun σ5 F5 H5 x5 ok5=>⟨ρ3,F5,ok5,x4.trans x5,e2⟩
    | ct ρ3=>exact fun σ5 F5 H5 x5 ok5=>⟨ρ3,F5,ok5,x4.trans x5,e2⟩
    | bk ρ3=>cases e2; exact fun σ5 F5 H5 x5 ok5=>k1 σ5 F5 H5 (x4.trans x5) ok5
    | rt d=>cases e2; exact k1
  ·have ei:i=xs.length:=by omega
   subst ei
   refine .inl ⟨hst _ (Nat.le_refl _),?_⟩
   rw [List.drop_eq_nil_of_le (Nat.le_refl _)] at e2
   cases e2
   exact k1 σ1 F2 H2 x2 ok2
end
noncomputable def Y1 (b:DG) (t:DT) (f:DE):List D->Rho->Option (List D)
 | [],_=>some []
 | x::xs,ρ=>(b x ρ).bind fun ρ1=>(t ρ1).bind fun c=>match c with
  | true=>(f ρ1).bind fun d=>(Y1 b t f xs ρ1).map (d::·)
  | false=>Y1 b t f xs ρ1
noncomputable def Jj (caps:List (Option Nat)) (ρ:Rho):Rho:=caps.map fun c=>match c.bind (ρ[·]?) with | some (.val d)=>.val d | _=>.no
noncomputable def ZaQ (caps:List (Option Nat)) (σ:L2.St):L2.St:=caps.map fun c=>c.bind fun j=>(σ[j]?).join
structure ZjI (X:Cx) (N:List Str) (scope:Scope) (caps:List (Option Nat)):Prop where
 len:caps.length=N.length
 ok:∀ (i j:Nat) (x:Str),caps[i]?=some (some j)->N[i]?=some x->X.N[j]?=some x/\Vis X.env.scope x/\X.env.kindOf x≠some .local/\(relabel scope X.env).names.lookup x≠some .local
noncomputable def Qt (caps:List (Option Nat)) (it:DI) (b:DG) (t:DT) (f:DE):DE:=fun ρ=>(it ρ).bind fun xs=>if xs.length<=lim then (Y1 b t f xs (Jj caps ρ)).map .lst else none
noncomputable def NoOwn (ρ:Rho):Prop:=∀ (i:Nat) ds,ρ[i]?≠some (.own ds)
theorem NoOwn.set {ρ:Rho} (h:NoOwn ρ) (i:Nat) (d:D):NoOwn (ρ.set i (.val d)):=fun j ds e=>by
 by_cases hj:i=j
 ·subst hj
  by_cases hl:i < ρ.length
  ·rw [List.getElem?_set_self hl] at e; cases e
  ·rw [List.getElem?_eq_none (by rw [List.length_set]; omega)] at e; cases e
 ·rw [List.getElem?_set_ne hj] at e; exact h j ds e
noncomputable def Zec (b:DG):Prop:=∀ d ρ ρ',b d ρ=some ρ'->NoOwn ρ->NoOwn ρ'
theorem Yx (i:Nat):Zec (ZW i):=fun d ρ ρ' e h=>by cases e; exact h.set i d
theorem V9 (caps:List (Option Nat)) (ρ:Rho):NoOwn (Jj caps ρ):=fun i ds e=>by
 unfold Jj at e
 rw [List.getElem?_map] at e
 obtain ⟨c,_,e⟩:=map_some e
 split at e <;> cases e
theorem EnvOk.wrtD {K:PySem.W.Frag} {F0 F:Fz} {H0 H:Hp} {σ:L2.St} {ρ:Rho} {xs ys:List V} {a:Addr} (ok:EnvOk K F0 H0 F σ H ρ) (no:NoOwn ρ) (ha:H a=some (.lst xs)) (hF:¬ F a) (h0:H0 a=none):EnvOk K F0 H0 F σ (upd H a (.lst ys)) ρ:=by
 have x:=Jy (K:=K) (ys:=ys) ha hF
 refine ⟨⟨fun b o q=>?_,ok.base.sub,fun b z=>?_⟩,fun j d' h=>?_,fun j es h=>absurd h (no j es),fun j k es fs b q1=>absurd q1 (no j es),ok.len,fun b z=>?_⟩
 ·rw [Zy (Zu q h0)]; exact ok.base.same b o q
 ·rcases ok.base.new b z with z1 | ⟨z1,z2⟩
  ·exact .inl z1
  ·refine .inr ⟨z1,?_⟩
   by_cases e:b=a
   ·rw [e,ZB]; simp
   ·rw [Zy e]; exact z2
 ·obtain ⟨v,e1,e2⟩:=ok.val j d' h
  exact ⟨v,e1,Rep.ext x e2⟩
 ·rcases ok.fz b z with z1 | z1
  ·left
   by_cases e:b=a
   ·rw [e,ZB]; simp
   ·rw [Zy e]; exact z1
  ·exact .inr z1
theorem EnvOk.capt {X:Cx} {N:List Str} {scope:Scope} {caps:List (Option Nat)} {F0 F:Fz} {H0 H:Hp} {σ:L2.St} {ρ:Rho} (ok:EnvOk X.K F0 H0 F σ H ρ):EnvOk X.K F H F (ZaQ caps σ) H (Jj caps ρ) where
 base:=.refl
 val:=fun i d h=>by
  unfold Jj at h
  rw [List.getElem?_map] at h
  obtain ⟨c,ec,h⟩:=map_some h
  split at h
  ·rename_i d' e
   cases h
   obtain ⟨j,rfl,ej⟩:=bind_some e
   obtain ⟨v,e1,e2⟩:=ok.val j _ ej
   refine ⟨v,?_,e2⟩
   unfold ZaQ
   rw [List.getElem?_map,ec]
   simp [e1]
  ·cases h
 own:=fun i ds h=>absurd h (V9 caps ρ i ds)
 inj:=fun i j ds es a h=>absurd h (V9 caps ρ i ds)
 len:=by simp [Jj,ZaQ]
 fz:=ok.fz
noncomputable def TDs (X:Cx) (ifs:List Expr) (t:DT):Prop:=PTs X ifs (rdT X.K t)
noncomputable def ZS:DT:=fun _=>some true
theorem Jo {X:Cx}:TDs X [] ZS:=fun pins s σ H Q I zq=>by
 obtain ⟨ρ,F0,H0,F,d,ok,e,q⟩:=zq
 cases e
 exact Zgq pins s σ H Q I (q F H .refl)
section
variable {X:Cx} {pos:Pos} {tg elt iter:Expr} {ifs:List Expr}
theorem Zgn {scope:Scope} {N:List Str} {caps:List (Option Nat)} {b:DG} {t:DT} {f:DE} {it:DI} (C:ZjI X N scope caps) (hno:Zec b) {σ:L2.St} {H:Hp} {Q:VK} (h:rd X.K (Qt caps it b t f) σ H Q) :
  Zht X.K (rdI X.K it) (ZcA X N scope σ (rdG X.K b) (rdT X.K t) (rd X.K f)) σ H Q:=by
  obtain ⟨ρ,F0,H0,F,d,ok,e,q⟩:=h
  obtain ⟨xs,ex,e⟩:=bind_some e
  by_cases hz:xs.length<=lim
  ·rw [if_pos hz] at e
   obtain ⟨ds,ec,rfl⟩:=map_some e
   refine ⟨ρ,F0,H0,F,xs,ok,ex,fun J F1 H1 g1 hJ Dl hD hK=>?_⟩
   have ok1:=ok.grow g1
   have nF1:¬ F1 Dl:=fun z=>by
    rcases ok1.fz Dl z with z | ⟨o,z⟩
    ·exact z hD
    ·rw [hK] at z; cases z
   have oks:EnvOk X.K F1 H1 F1 (ZaQ caps σ) (upd H1 Dl (.lst [])) (Jj caps ρ):=(EnvOk.capt (N:=N) (scope:=scope) ok1).grow (.laid0 hD)
   have gx:Ext X.K F1 H1 F1 (upd H1 Dl (.lst [])):=(Grow.laid0 hD).ext
   refine ⟨ZaQ caps σ,fun i m σ2 H2=>m=xs.length-i/\i<=xs.length/\∃ ρ2 F2 ys pre post,EnvOk X.K F1 H1 F2 σ2 H2 ρ2/\NoOwn ρ2/\Ext X.K F1 H1 F2 H2/\H2 Dl=some (.lst ys)/\¬ F2 Dl/\RepL X.K F2 H2 pre ys/\pre.length<=i/\Y1 b t f (xs.drop i) ρ2=some post/\ds=pre++post,
    by simp [ZaQ,C.len],fun i x v e1 e2 e3=>?_,⟨xs.length,by simp,Nat.zero_le _,Jj caps ρ,F1,[],[],ds,oks,V9 _ _,gx,ZB,nF1,.nil,Nat.le_refl _,ec,rfl⟩,?_⟩
   ·unfold ZaQ at e2
    rw [List.getElem?_map] at e2
    obtain ⟨c,ecap,e2⟩:=map_some e2
    obtain ⟨j,rfl,e2⟩:=bind_some e2
    obtain ⟨h1,h2,h3,h4⟩:=C.ok i j x ecap e1
    exact ⟨h4,j,h1,by simpa [Option.join_eq_some_iff] using e2,h2,h3⟩
   ·rintro i m σ2 H2 ⟨rfl,hi',ρ2,F2,ys,pre,post,ok2,no2,x2,hD2,nF2,rp2,hl2,e2,ed⟩
    obtain ⟨hgo,hst⟩:=hJ F2 H2 x2
    by_cases hlt:i < xs.length
    ·obtain ⟨go,yl⟩:=hgo i xs[i] (by simp [hlt])
     refine .inr ⟨go,fun x H3 y=>?_⟩
     obtain ⟨F3,g3,rx⟩:=yl x H3 y
     rw [List.drop_eq_getElem_cons hlt] at e2
     unfold Y1 at e2
     obtain ⟨ρ3,eb,e2⟩:=bind_some e2
     obtain ⟨c,et,e2⟩:=bind_some e2
     have no3:=hno _ _ _ eb no2
     refine ⟨ρ2,F1,H1,F3,xs[i],ρ3,ok2.grow g3,rx,eb,fun σ4 F4 H4 g4 ok4=>⟨ρ3,F1,H1,F4,c,ok4,et,fun F5 H5 g5=>?_⟩⟩
     have g35:=g3.trans (g4.trans g5)
     have nF5:∀ {F6:Fz} {H6:Hp},Grow F2 H2 F6 H6->¬ F6 Dl:=fun {F6 H6} g6 z=>by
      rcases g6.new Dl z with z | z
      ·exact nF2 z
      ·rw [hD2] at z; cases z.1
     cases c with
     | false=>
      refine ZjP ?_
      exact ⟨xs.length-(i+1),by omega,rfl,hlt,ρ3,F5,ys,pre,post,ok4.grow g5,no3,x2.trans g35.ext,g35.same _ _ hD2,nF5 g35,rp2.grow g35,by omega,e2,ed⟩
     | true=>
      refine ZjO ?_
      obtain ⟨d,ef,e2⟩:=bind_some e2
      obtain ⟨post',e3,rfl⟩:=map_some e2
      refine ⟨ρ3,F1,H1,F5,d,ok4.grow g5,ef,fun v F6 H6 g6 r6=>?_⟩
      have g36:=g35.trans g6
      have hD6:=g36.same _ _ hD2
      have xo:=Jy (K:=X.K) (ys:=ys++[v]) hD6 (nF5 g36)
      refine ⟨ys,hD6,?_,xs.length-(i+1),by omega,rfl,hlt,ρ3,F6,ys++[v],pre++[d],post',((ok4.grow g5).grow g6).wrtD no3 hD6 (nF5 g36) hD,no3,(x2.trans g36.ext).trans xo,ZB,nF5 g36,RepL.ext xo ((rp2.grow g36).append (.cons r6 .nil)),by simp; omega,e3,by simp [ed]⟩
      rw [<-rp2.length]
      have:sizeLine=16777216:=sizeLine_eq
      unfold lim at hz
      omega
    ·have ei:i=xs.length:=by omega
     subst ei
     refine .inl ⟨hst _ (Nat.le_refl _),?_⟩
     rw [List.drop_eq_nil_of_le (Nat.le_refl _)] at e2
     cases e2
     rw [List.append_nil] at ed
     subst ed
     have b:=ok2.base
     refine q (.ref Dl) (fun a=>F2 a\/a=Dl) H2 (g1.trans ⟨b.same,fun a z=>.inl (b.sub a z),fun a z=>?_⟩) ?_
     ·rcases z with z | rfl
      ·exact b.new a z
      ·exact .inr ⟨hD,by rw [hD2]; simp⟩
     ·unfold Rep
      have xx:Ext X.K F2 H2 (fun a=>F2 a\/a=Dl) H2:=⟨fun a z=>.inl z,fun a ys _ z=>z,fun a ys z=>z⟩
      exact ⟨Dl,ys,rfl,.inr rfl,.of hD2,RepL.ext xx rp2⟩
  ·rw [if_neg hz] at e; cases e
theorem Jz {scope:Scope} {N:List Str} {caps:List (Option Nat)} {b:DG} {t:DT} {f:DE} {it:DI} (S:CompScope X scope) (C:ZjI X N scope caps) (hc:X.calm=true) (hit:ID X tg iter it) (hno:Zec b)
  (hg:∀ C s3 H3 fp,GD (Y2 X N scope C s3 H3 fp) tg b) (hi:∀ C s3 H3 fp,TDs (Y2 X N scope C s3 H3 fp) ifs t) (he:∀ C s3 H3 fp,ED (Y2 X N scope C s3 H3 fp) elt f)
  (hs:∀ x,foldedSetIterable iter X.env x=pure x:=by intro _; rfl) :
  ED X (.ListComp elt [⟨tg,iter,ifs,0⟩] scope pos) (Qt caps it b t f):=
 PE.imp (Zgy (N:=N) (g:=rdG X.K b) (tt:=rdT X.K t) (te:=rd X.K f) S hc hit hg hi he hs) fun σ H Q h=>Zgn C hno h
end
section
variable {prog:Program} {w:World} {A:Around} {E:Value->Shared->Prop} {s:Shared}
theorem Zcy {t sl:Addr} {items:Array Value} {vl vu:Value} {lo hi:Option Int} {Q:Value->Shared->Prop} (ht:IsTup s.heap t items) (hs:s.heap.IsSliceOf sl vl vu .none) (pl:IsPart vl lo) (pu:IsPart vu hi)
  (hw:HT.sIx items.size 0 lo=0/\HT.sIx items.size items.size hi=items.size) (h:Q (.ref t) s):wpAny (model prog w) A (getItem (.ref t) (.ref sl)) Q E s:=by
 obtain ⟨os,hos,hcs,hds⟩:=id hs
 have hTs:s.TypeIs (.ref sl) "slice":=⟨os,hos,hcs⟩
 unfold getItem
 try with_reducible refine wpAny_holding ?_
 first | refine wpAny_bind (wpAny_pure ?_) | skip
 refine wpAny_bind (wpAny_sequenceKey ht.typeIs (by decide) ?_)
 refine wpAny_bind (wpAny_callSpecial?_slot (name:=Str.ofString "__getitem__") ht.typeIs PyProof.Rows.slot_tuple_getitem
  (wpAny_call_entry PyProof.Rows.slot_tuple_getitem ht.typeIs entry_tuple_getitem ?_ (args_tuple_getitem _ _)))
 show wpAny _ _ (Builtin.Tuple.tupleItemsOf (.ref t) >>= _) _ _ s
 refine wpAny_bind (tupleItemsOf_ ht ?_)
 refine wpAny_bind (wpAny_typeOf hTs ?_)
 rw [if_pos (by decide)]
 refine wpAny_bind (HT.sliceApplied_gen hs pl pu ?_)
 rw [hw.1,hw.2,Nat.sub_zero]
 have hyes:((((0:Nat):Int)==0&&(1:Int)==1&&items.size==items.size)=true):=by simp
 show wpAny _ _ (if ((((0:Nat):Int)==0&&(1:Int)==1&&items.size==items.size)=true) then _ else _) _ _ s
 rw [if_pos hyes]
 unfold Builtin.Tuple.tupleIsExact
 refine wpAny_bind (wpAny_bind (wpAny_typeOf ht.typeIs (wpAny_pure ?_)))
 rw [if_pos (by decide)]
 refine wpAny_bind (wpAny_rule (wpAny_bind (wpAny_pure (wpAny_pure ?_))))
 exact ⟨_,rfl,wpAny_pure h⟩
theorem VY {α β:Type} {f g:α->Option β}:∀ {l:List α},(∀ m,m∈l->f m=g m)->l.filterMap f=l.filterMap g
 | [],_=>rfl
 | x::l,h=>by
  rw [List.filterMap_cons,List.filterMap_cons,h x List.mem_cons_self,VY fun m hm=>h m (List.mem_cons_of_mem _ hm)]
theorem Zbf {α:Type} (xs:List α):((List.range xs.length).filterMap fun (m:Nat)=>xs[(((xs.length:Nat):Int)-1+(m:Int)*(-1)).toNat]?)=xs.reverse:=by
 have e:∀ m,m∈List.range xs.length->xs[(((xs.length:Nat):Int)-1+(m:Int)*(-1)).toNat]?=xs.reverse[m]?:=fun m hm=>by
  have hm:=List.mem_range.mp hm
  rw [List.getElem?_reverse hm]
  congr 1
  omega
 rw [VY e]
 have hl:xs.length=xs.reverse.length:=by simp
 rw [hl]
 generalize xs.reverse=ys
 clear e hl
 induction ys with
 | nil=>rfl
 | cons y ys ih=>
  rw [List.length_cons,List.range_succ_eq_map,List.filterMap_cons]
  simp only [List.getElem?_cons_zero,List.filterMap_map]
  congr 1
theorem Zga {t sl:Addr} {items:Array Value} {u:Tok} {Q:Value->Shared->Prop} (ht:IsTup s.heap t items) (hs:s.heap.IsSliceOf sl .none .none (.int (-1) u)) (hsz:items.size<=sizeLine)
  (h:Q (.ref s.heap.objs.size) { s with heap:=s.heap.push { cls:=.type "tuple",data:=.seq items.toList.reverse.toArray } }):wpAny (model prog w) A (getItem (.ref t) (.ref sl)) Q E s:=by
 obtain ⟨os,hos,hcs,hds⟩:=id hs
 have hTs:s.TypeIs (.ref sl) "slice":=⟨os,hos,hcs⟩
 unfold getItem
 try with_reducible refine wpAny_holding ?_
 first | refine wpAny_bind (wpAny_pure ?_) | skip
 refine wpAny_bind (wpAny_sequenceKey ht.typeIs (by decide) ?_)
 refine wpAny_bind (wpAny_callSpecial?_slot (name:=Str.ofString "__getitem__") ht.typeIs PyProof.Rows.slot_tuple_getitem
  (wpAny_call_entry PyProof.Rows.slot_tuple_getitem ht.typeIs entry_tuple_getitem ?_ (args_tuple_getitem _ _)))
 show wpAny _ _ (Builtin.Tuple.tupleItemsOf (.ref t) >>= _) _ _ s
 refine wpAny_bind (tupleItemsOf_ ht ?_)
 refine wpAny_bind (wpAny_typeOf hTs ?_)
 rw [if_pos (by decide)]
 refine wpAny_bind (?_:wpAny _ _ _ _ _ s)
 unfold Builtin.Slice.sliceApplied Builtin.Slice.sliceFields
 refine wpAny_bind (wpAny_bind (wpAny_field hos hds (x:=.none) rfl (wpAny_bind (wpAny_field hos hds (x:=.none) rfl (wpAny_bind (wpAny_field hos hds (x:=.int (-1) u) rfl (wpAny_pure ?_)))))))
 refine wpAny_bind (slicePart_int ?_)
 show wpAny _ _ (if (((-1:Int))==0)=true then _ else _) _ _ s
 rw [if_neg (by decide)]
 refine wpAny_bind (slicePart_none (wpAny_bind (slicePart_none (wpAny_bind (wpAny_pure ?_)))))
 have ad:Builtin.Slice.sliceAdjust none none (-1) (items.size:Int)=((items.size:Int)-1,-1):=rfl
 have pl:Builtin.Slice.slicePlaces ((items.size:Int)-1) (-1) (-1)=items.size:=by
  unfold Builtin.Slice.slicePlaces
  rw [if_neg (by decide)]
  by_cases hz:(items.size:Int)-1 > -1
  ·rw [if_pos hz]
   have:(-(-1:Int))=1:=by decide
   rw [this,Int.ediv_one]
   omega
  ·rw [if_neg hz]; omega
 show wpAny _ _ (match Builtin.Slice.sliceAdjust none none (-1) (items.size:Int) with | (lo,hi)=>pure (lo,(-1:Int),Builtin.Slice.slicePlaces lo hi (-1))) _ _ s
 rw [ad]
 show wpAny _ _ (pure ((items.size:Int)-1,(-1:Int),Builtin.Slice.slicePlaces ((items.size:Int)-1) (-1) (-1))) _ _ s
 rw [pl]
 refine wpAny_pure ?_
 have hno:¬ ((((items.size:Int)-1==0)&&((-1:Int)==1)&&(items.size==items.size))=true):=by
  rw [show ((-1:Int)==1)=false from rfl]
  simp
 show wpAny _ _ (if (((items.size:Int)-1==0)&&((-1:Int)==1)&&(items.size==items.size))=true then _ else _) _ _ s
 rw [if_neg hno]
 have ep:((List.range items.size).filterMap fun (k:Nat)=>items[((items.size:Int)-1+(k:Int)*(-1)).toNat]?).toArray=items.toList.reverse.toArray:=by
  have:=Zbf items.toList
  rw [Array.length_toList] at this
  rw [<-this]
  simp
 rw [ep]
 have htake:sizeOk (.seq items.toList.reverse.toArray):=by
  show items.toList.reverse.toArray.size<=sizeLine
  simpa using hsz
 first
  | exact wpAny_bind (m:=Builtin.Tuple.tupleExact _) (wpAny_newObj_type (wpAny_pure ⟨_,rfl,wpAny_pure h⟩) htake)
  | exact wpAny_bind (m:=Builtin.Tuple.tupleExact _) (wpAny_newObj_type (wpAny_bind (wpAny_pure (wpAny_pure ⟨_,rfl,wpAny_pure h⟩))) htake)
  | exact wpAny_bind (wpAny_bind (m:=Builtin.Tuple.tupleExact _) (wpAny_newObj_type (wpAny_pure (wpAny_pure ⟨_,rfl,wpAny_pure h⟩)) htake))
  | exact wpAny_bind (wpAny_bind (m:=Builtin.Tuple.tupleExact _) (wpAny_newObj_type (wpAny_pure ⟨_,rfl,wpAny_pure h⟩) htake))
theorem WJ (its:List Value):slicePick its.toArray none none (some (-1))=its.reverse.toArray:=by
 unfold slicePick
 have b:sliceBounds none none (some (-1)) its.toArray.size=((its.length:Int)-1,-1,-1):=by
  simp [sliceBounds]
 rw [b]
 congr 1
 unfold sliceRange
 simp only [show ¬ ((-1:Int) > 0) by decide,if_false,List.filterMap_map]
 have hc:(if (its.length:Int)-1 > -1 then ((its.length:Int)-1 - -1 - -1-1) / (- -1) else 0).toNat=its.length:=by
  split
  ·rw [show (- -1:Int)=1 by decide,Int.ediv_one]; omega
  ·omega
 rw [hc,<-Zbf its]
 apply VY
 intro m hm
 simp only [Function.comp]
 rw [show (((its.length:Nat):Int)-1+-1*(m:Int))=(((its.length:Nat):Int)-1+(m:Int)*(-1)) by omega]
 simp
end
noncomputable def cutD {α:Type} (xs:List α) (lo hi:Option Int):List α:=(xs.drop (HT.sIx xs.length 0 lo)).take (HT.sIx xs.length xs.length hi-HT.sIx xs.length 0 lo)
theorem RepL.cut {K:PySem.W.Frag} {F:Fz} {H:Hp} {ds:List D} {vs:List V} (h:RepL K F H ds vs) (lo hi:Option Int):RepL K F H (cutD ds lo hi) (Zcp vs lo hi):=by
 unfold cutD Zcp
 rw [h.length]
 exact (h.drop _).take _
section
variable {X:Cx} {pos:Pos} {e:Expr} {f:DE}
noncomputable abbrev DO:=Rho->Option (Option Int)
inductive ZkG (K:PySem.W.Frag) (p:DO) (σ:L2.St) (H:Hp) (Q:Option Int->Hp->Prop):Prop
 | mk (ρ:Rho) (F0:Fz) (H0:Hp) (F:Fz) (o:Option Int) (ok:EnvOk K F0 H0 F σ H ρ) (e:p ρ=some o) (q:∀ F' H',Grow F H F' H'->Q o H')
noncomputable def rdO (K:PySem.W.Frag) (p:DO):TO:=fun σ H Q=>ZkG K p σ H Q
noncomputable def OD (X:Cx) (e:Option Expr) (p:DO):Prop:=PO X e (rdO X.K p)
theorem PO.imp {e:Option Expr} {t t':TO} (h:PO X e t) (i:∀ σ H Q,t' σ H Q->t σ H Q):PO X e t':=fun pins s σ H Q I q=>h pins s σ H Q I (i σ H Q q)
noncomputable def Yw:DO:=fun _=>some none
noncomputable def Yv (f:DE):DO:=fun ρ=>(f ρ).bind fun d=>match d with | .int i=>some (some i) | _=>none
theorem QX:OD X none Yw:=PO.imp Zgu fun σ H Q ⟨ρ,F0,H0,F,o,ok,e,q⟩=>by cases e; exact q F H .refl
theorem QW (h:ED X e f):OD X (some e) (Yv f):=PO.imp (ZcY h) fun σ H Q zq=>by
 obtain ⟨ρ,F0,H0,F,o,ok,eo,q⟩:=zq
 obtain ⟨d,ed,eo⟩:=bind_some eo
 refine ⟨ρ,F0,H0,F,d,ok,ed,fun v F1 H1 g1 r1=>?_⟩
 split at eo
 ·cases eo
  unfold Rep at r1
  exact ⟨_,r1,q F1 H1 g1⟩
 ·cases eo
noncomputable def Zkh (K:PySem.W.Frag):V->Option Int->Option Int->Hp->VK->Prop:=fun x lo hi H Q=>∃ a xs,x=.ref a/\((SqL K H a xs/\∀ p,H p=none->Q (.ref p) (upd H p (.lst (Zcp xs lo hi)))) \/
 (SqT K H a xs/\(Zcp xs lo hi=xs->Q (.ref a) H)/\∀ p,H p=none->Q (.ref p) (upd H p (.tup (Zcp xs lo hi)))))
theorem Zhw:SlR X (Zkh X.K):=by
 intro pins s σ H x v vl vu lo hi sl Q I rx hs pl pu h
 obtain ⟨a,xs,rfl,h⟩:=h
 rcases h with ⟨hx,q⟩ | ⟨hx,q1,q2⟩
 ·exact Zgg pins s σ H _ v vl vu lo hi sl Q I rx hs pl pu ⟨a,xs,rfl,hx,q⟩
 ·by_cases hw:HT.sIx xs.length 0 lo=0/\HT.sIx xs.length xs.length hi=xs.length
  ·cases rx
   obtain ⟨its,r,ht,hz⟩:=I.tuple hx
   have hlen:its.toArray.size=xs.length:=by rw [List.size_toArray]; exact r.length.symm
   refine ⟨"tuple",_,PyProof.Rows.slot_tuple_getitem.lookup,ht.typeIs,?_⟩
   refine Zcy ht hs pl pu (by rw [hlen]; exact hw) ⟨.ref a,H,I,rfl,q1 ?_⟩
   unfold Zcp
   rw [hw.1,hw.2]
   simp
  ·exact Zhv pins s σ H _ v vl vu lo hi sl Q I rx hs pl pu ⟨a,xs,rfl,hx,hw,q2⟩
noncomputable def ZgZ (lo hi:Option Int):D->Option D
 | .lst xs=>some (.lst (cutD xs lo hi))
 | .tup xs=>some (.tup (cutD xs lo hi))
 | _=>none
noncomputable def dSl (f:DE) (l h:DO):DE:=fun ρ=>(f ρ).bind fun x=>(l ρ).bind fun lo=>(h ρ).bind fun hi=>ZgZ lo hi x
theorem ZaM {lo hi:Option Expr} {l h:DO} {p2:Pos} (he:ED X e f) (hl:OD X lo l) (hh:OD X hi h):ED X (.Subscript e (.Slice lo hi none p2) pos) (dSl f l h):=
 PE.imp (ZeC Zhw he hl hh) fun σ H Q zq=>by
  obtain ⟨ρ,F0,H0,F,d,ok,e,q⟩:=zq
  obtain ⟨x,ex,e⟩:=bind_some e
  obtain ⟨lo,el,e⟩:=bind_some e
  obtain ⟨hi,eh,e⟩:=bind_some e
  refine ⟨ρ,F0,H0,F,x,ok,ex,fun v F1 H1 g1 r1=>⟨ρ,F0,H0,F1,lo,ok.grow g1,el,fun F2 H2 g2=>⟨ρ,F0,H0,F2,hi,(ok.grow g1).grow g2,eh,fun F3 H3 g3=>?_⟩⟩⟩
  have g13:=g1.trans (g2.trans g3)
  have r3:=(r1.grow g2).grow g3
  unfold ZgZ at e
  split at e
  ·cases e
   unfold Rep at r3
   obtain ⟨a,vs,rfl,hf,hq,hr⟩:=r3
   exact ⟨a,vs,rfl,.inl ⟨hq,fun p hp=>q _ _ _ (g13.trans (.laid hp)) (ZX hp (hr.cut lo hi))⟩⟩
  ·rename_i ds
   cases e
   have r3':=r3
   unfold Rep at r3
   obtain ⟨a,vs,rfl,hq,hr⟩:=r3
   refine ⟨a,vs,rfl,.inr ⟨hq,fun ec=>q _ F3 H3 g13 ?_,fun p hp=>q _ F3 _ (g13.trans (.laid0 hp)) ?_⟩⟩
   ·unfold Rep
    refine ⟨a,vs,rfl,hq,?_⟩
    have:=hr.cut lo hi
    rw [ec] at this
    exact this
   ·unfold Rep
    exact ⟨p,_,rfl,.of ZB,(hr.cut lo hi).grow (.laid0 hp)⟩
  ·cases e
noncomputable def ZfU (f:DE):DE:=fun ρ=>(f ρ).bind fun x=>match x with | .lst xs=>some (.lst xs.reverse) | .tup xs=>some (.tup xs.reverse) | _=>none
theorem ZfQ {p1 p2 p3:Pos} {j:Nat} (he:ED X e f):ED X (.Subscript e (.Slice none none (some (.UnaryOp .USub (.Constant (.int 1) j p1) p3)) p2) pos) (ZfU f):=by
 intro pins s σ H Q I h
 obtain ⟨ρ,F0,H0,F,d,ok,ed,q⟩:=h
 obtain ⟨x,ex,ed⟩:=bind_some ed
 refine Subscript_ (thn (he pins s σ H (fun v H'=>∃ F',Grow F H F' H'/\Rep X.K F' H' x v) I ⟨ρ,F0,H0,F,x,ok,ex,fun v F' H' g r=>⟨F',g,r⟩⟩) fun v s1 zq=>?_)
 obtain ⟨xv,H1,I1,r1,F1,g1,rx⟩:=zq
 refine wpAny_Slice ?_
 rw [evalPart_none]
 refine wpAny_pure ?_
 refine wpAny_pure ?_
 refine thn (ZcY (ZhO Zfu ZfE) pins s1 σ H1 (fun o H'=>o=some (-1)/\H'=H1) I1 ⟨1,rfl,_,rfl,rfl,rfl⟩) fun vs s3 zq=>?_
 obtain ⟨o,H3,I3,ps,eo,eH⟩:=zq
 subst eo eH
 obtain ⟨u,rfl⟩:∃ u,vs=.int (-1) u:=by cases ps; exact ⟨_,rfl⟩
 have I4:Inv X pins σ H3 { s3 with heap:=s3.heap.push { cls:=.type "slice",data:=.fields #[.none,.none,.int (-1) u] } }:=I3.kept (t':=s3.toks) fun b ob q=>Heap.get?_push_of_some _ q
 have hs:(s3.heap.push { cls:=.type "slice",data:=.fields #[.none,.none,.int (-1) u] }).IsSliceOf s3.heap.objs.size .none .none (.int (-1) u):=Heap.IsSliceOf.new ..
 have fin:∃ T id,typeLookup (.type T) "__getitem__"=pure (some (.builtin id))/\Shared.TypeIs { s3 with heap:=s3.heap.push { cls:=.type "slice",data:=.fields #[.none,.none,.int (-1) u] } } v T /\
   wpAny (model X.prog X.w) X.A (getItem v (.ref s3.heap.objs.size)) (EP X pins σ Q) X.xe { s3 with heap:=s3.heap.push { cls:=.type "slice",data:=.fields #[.none,.none,.int (-1) u] } }:=by
  split at ed
  ·cases ed
   unfold Rep at rx
   obtain ⟨a,vs,rfl,hf,hq,hr⟩:=rx
   cases r1
   obtain ⟨its,rv,ht,hz⟩:=I4.list hq
   have hlen:=rv.length
   refine ⟨"list",_,slot_list_getitem.lookup,ht.isList.typeIs,?_⟩
   refine wpAny_getItem_list_slice ht.isList hs .none .none (.int _ _) (by simp) ?_ (by rw [List.size_toArray] <;> omega)
   rw [WJ]
   refine ⟨.ref _,_,I4.laid (t':=s3.toks) (o:=.lst vs.reverse) (fun b ob q=>Heap.get?_push_of_some _ q) (Nat.le_refl _) ?_,rfl,q _ _ _ (g1.trans (.laid (I4.hok.fresh (Nat.le_refl _)))) (ZX (I4.hok.fresh (Nat.le_refl _)) hr.reverse)⟩
   exact ⟨by rw [List.length_reverse]; exact hz,_,0,rv.reverse,Heap.get?_push_size _ rfl⟩
  ·cases ed
   unfold Rep at rx
   obtain ⟨a,vs,rfl,hq,hr⟩:=rx
   cases r1
   obtain ⟨its,rv,ht,hz⟩:=I4.tuple hq
   have hlen:=rv.length
   refine ⟨"tuple",_,PyProof.Rows.slot_tuple_getitem.lookup,ht.typeIs,?_⟩
   refine Zga ht hs (by rw [List.size_toArray]; omega) ?_
   have hp:=I4.hok.fresh (a:=(s3.heap.push { cls:=.type "slice",data:=.fields #[.none,.none,.int (-1) u] }).objs.size) (Nat.le_refl _)
   refine ⟨.ref _,_,I4.laid (t':=s3.toks) (o:=.tup vs.reverse) (fun b ob q=>Heap.get?_push_of_some _ q) (Nat.le_refl _) ?_,rfl,q _ F1 _ (g1.trans (.laid0 hp)) ?_⟩
   ·exact ⟨by rw [List.length_reverse]; exact hz,_,rv.reverse,TupD.new _ _⟩
   ·unfold Rep
    exact ⟨_,_,rfl,.of ZB,hr.reverse.grow (.laid0 hp)⟩
  ·cases ed
 obtain ⟨T,id,hT,ht,hg⟩:=fin
 show wpAny (model X.prog X.w) X.A (subscriptTail e (.Slice none none (some (.UnaryOp .USub (.Constant (.int 1) j p1) p3)) p2) v (.ref s3.heap.objs.size)) (EP X pins σ Q) X.xe _
 exact tail_any (ops:=[v,.ref s3.heap.objs.size]) ht hT hg (by with_unfolding_all rfl)
end
noncomputable def ZjH (prog:Program) (w:World) (A:Around) (op:CmpOp) (G:Heap->Prop) (P:Nat->Value->Prop) (bt:Nat->Nat->Bool):Prop:=
 ∀ i j vi vj (s:Shared) (Q:Value->Shared->Prop) (E:Value->Shared->Prop),G s.heap->P i vi->P j vj->Q (.bool (bt i j)) s->wpAny (model prog w) A (richCompare op vi vj) Q E s
section
variable {prog:Program} {w:World} {A:Around} {R:Result->Shared->Prop} {I:Addr} {fp wr:List Addr} {n:Nat} {P:Nat->Value->Prop} {St:Nat->Heap->Prop}
theorem Zdf (W:Walks prog w A.in1 I fp wr n P St) (G:Heap->Prop) (S:Addr) (hG:∀ h h',G h->(∀ b o,b ∉ wr->b≠S->h.get? b=some o->h'.get? b=some o)->G h') (bt:Nat->Nat->Bool) (hcmp:ZjH prog w A.in1 .Lt G P bt) (hSf:S ∉ fp) :
  ∀ (k j:Nat) (s:Shared) (vb:Value) (c:Nat),n-(j+1)=k->j+1<=n->G s.heap->St (j+1) s.heap->P (argBest bt j) vb->s.heap.get? S=some { cls:=.type "list",dict:=none,data:=.seq #[vb,vb] c,slots:=#[] } ->
  (∀ v h' tk,P (argBest bt (n-1)) v->(∀ b o,b ∉ wr->b≠S->s.heap.get? b=some o->h'.get? b=some o)->R (.ok (.ret v)) { s with heap:=h',toks:=tk }) ->
  codeAny (model prog w) A (.builtin "min.loop" ⟨[.ref I,.none,.ref S],[]⟩) R s:=by
 have hSw:S ∉ wr:=fun h=>hSf (W.sub _ h)
 have hname:(toString "min"++toString ".loop":String)="min.loop":=by decide
 intro k
 induction k with
 | zero=>
  intro j s vb c hk hj hg hst hPb hS hR
  have hin:j+1=n:=by omega
  refine codeAny_builtin F.entry_min_loop ?_
  rw [Around.under_plainId F.plain_min_loop _]; show wpAny _ A.in1 (seqItems? (.ref S) >>= _) _ _ s; refine wpAny_bind (wpAny_seqItems hS rfl ?_)
  show wpAny _ A.in1 (tryCatch (pyNext (.ref I)) _ >>= _) _ _ s; refine wpAny_bind (wpAny_tryCatch (W.done s _ _ (hin ▸ hst) fun h' tk hk'=>?_))
  have hS':=hk' S _ hSw hS
  show wpAny _ A.in1 (updateSeq S (fun _=>#[]) >>= _) _ _ _; refine wpAny_bind (wpAny_updateSeq hS' rfl (wpAny_bind (wpAny_letGo (wpAny_pure ?_))))
  exact hR vb _ tk (by rw [<-hin]; exact hPb) fun b o hbw hbS e=>(Heap.get?_update_other _ _ (Ne.symm hbS)).trans (hk' b o hbw e)
 | succ k ih=>
  intro j s vb c hk hj hg hst hPb hS hR
  have hlt:j+1 < n:=by omega
  refine codeAny_builtin F.entry_min_loop ?_
  rw [Around.under_plainId F.plain_min_loop _]; show wpAny _ A.in1 (seqItems? (.ref S) >>= _) _ _ s; refine wpAny_bind (wpAny_seqItems hS rfl ?_)
  show wpAny _ A.in1 (tryCatch (pyNext (.ref I)) _ >>= _) _ _ s; refine wpAny_bind (wpAny_tryCatch (W.item (j+1) s _ _ hlt hst fun v h' tk hP hst' hk'=>?_))
  have hS':=hk' S _ hSw hS
  have hg':G h':=hG _ _ hg fun b o h1 _ e=>hk' b o h1 e
  show wpAny _ A.in1 (tryCatch (holding [v,v] (richCompare .Lt v vb >>= _)) _ >>= _) _ _ _; refine wpAny_bind (wpAny_tryCatch (wpAny_holding (wpAny_bind (hcmp (j+1) (argBest bt j) v vb _ _ _ hg' hP hPb ?_))))
  refine wpAny_bind (wpAny_holding (wpAny_truthy_bool (wpAny_bind (wpAny_letGo (wpAny_pure ?_)))))
  cases hb:bt (j+1) (argBest bt j) with
  | true=>
   simp only [if_true]
   refine wpAny_bind (wpAny_updateSeq hS' rfl (wpAny_bind (wpAny_letGo ?_)))
   rw [hname]
   refine wpAny_pure ⟨plainId_quiet F.plain_min_loop _,ih (j+1) _ v _ (by omega) hlt (hG _ _ hg' fun b o _ h2 e=>(Heap.get?_update_other _ _ (Ne.symm h2)).trans e) (W.frame _ _ _ hst' fun b hbf o e=>(Heap.get?_update_other _ _ (fun h:S=b=>hSf (by rw [h]; exact hbf))).trans e) (by simp only [argBest,hb,if_true]; exact hP) (Heap.get?_update_self _ hS' rfl) fun v' h'' tk'' hP' hk''=>?_⟩
   exact hR v' h'' tk'' hP' fun b o hbw hbS e=>hk'' b o hbw hbS ((Heap.get?_update_other _ _ (Ne.symm hbS)).trans (hk' b o hbw e))
  | false=>
   simp only [Bool.false_eq_true,if_false]
   refine wpAny_bind (wpAny_letGo ?_)
   rw [hname]
   refine wpAny_pure ⟨plainId_quiet F.plain_min_loop _,ih (j+1) _ vb c (by omega) hlt hg' hst' (by simp only [argBest,hb,Bool.false_eq_true,if_false]; exact hPb) hS' fun v' h'' tk'' hP' hk''=>?_⟩
   exact hR v' h'' tk'' hP' fun b o hbw hbS e=>hk'' b o hbw hbS (hk' b o hbw e)
theorem Zb1 (W:Walks prog w A.in1 I fp wr n P St) (G:Heap->Prop) (S:Addr) (hG:∀ h h',G h->(∀ b o,b ∉ wr->b≠S->h.get? b=some o->h'.get? b=some o)->G h') (bt:Nat->Nat->Bool) (hcmp:ZjH prog w A.in1 .Lt G P bt) (hSf:S ∉ fp) (hn:0 < n) {s:Shared} {c:Nat} (hg:G s.heap) (hst:St 0 s.heap)
  (hS:s.heap.get? S=some { cls:=.type "list",dict:=none,data:=.seq #[] c,slots:=#[] })
  (hR:∀ v h' tk,P (argBest bt (n-1)) v->(∀ b o,b ∉ wr->b≠S->s.heap.get? b=some o->h'.get? b=some o)->R (.ok (.ret v)) { s with heap:=h',toks:=tk }) :
  codeAny (model prog w) A (.builtin "min.loop" ⟨[.ref I,.none,.ref S],[]⟩) R s:=by
 have hSw:S ∉ wr:=fun h=>hSf (W.sub _ h)
 have hname:(toString "min"++toString ".loop":String)="min.loop":=by decide
 refine codeAny_builtin F.entry_min_loop ?_
 rw [Around.under_plainId F.plain_min_loop _]; show wpAny _ A.in1 (seqItems? (.ref S) >>= _) _ _ s; refine wpAny_bind (wpAny_seqItems hS rfl ?_)
 show wpAny _ A.in1 (tryCatch (pyNext (.ref I)) _ >>= _) _ _ s; refine wpAny_bind (wpAny_tryCatch (W.item 0 s _ _ hn hst fun v h' tk hP hst' hk'=>?_))
 have hS':=hk' S _ hSw hS
 have hg':G h':=hG _ _ hg fun b o h1 _ e=>hk' b o h1 e
 show wpAny _ A.in1 (updateSeq S (fun _=>#[v,v]) >>= _) _ _ _; refine wpAny_bind (wpAny_updateSeq hS' rfl ?_)
 rw [hname]
 refine wpAny_pure ⟨plainId_quiet F.plain_min_loop _,Zdf W G S hG bt hcmp hSf _ 0 _ v _ rfl hn (hG _ _ hg' fun b o _ h2 e=>(Heap.get?_update_other _ _ (Ne.symm h2)).trans e) (W.frame _ _ _ hst' fun b hbf o e=>(Heap.get?_update_other _ _ (fun h:S=b=>hSf (by rw [h]; exact hbf))).trans e) hP (Heap.get?_update_self _ hS' rfl) fun v' h'' tk'' hP' hk''=>?_⟩
 exact hR v' h'' tk'' hP' fun b o hbw hbS e=>hk'' b o hbw hbS ((Heap.get?_update_other _ _ (Ne.symm hbS)).trans (hk' b o hbw e))
theorem Zdg {x:Value} {Q:Value->Shared->Prop} {E:Value->Shared->Prop} {s:Shared}
  (h:wpAny (model prog w) A.in1 (pyIter x) (fun it s₂=>∃ I fp wr n P St bt,it=.ref I/\Walks prog w A.in1 I fp wr n P St/\St 0 s₂.heap/\(∀ b∈fp,b < s₂.heap.objs.size)/\0 < n/\ZjH prog w A.in1 .Lt (fun h'=>∀ b o,b ∉ wr->s₂.heap.get? b=some o->h'.get? b=some o) P bt /\
   ∀ v h' tk,P (argBest bt (n-1)) v->(∀ b o,b ∉ wr->s₂.heap.get? b=some o->h'.get? b=some o)->Q v { s₂ with heap:=h',toks:=tk }) E s) :
  wpAny (model prog w) A (call (.builtin "min") [x]) Q E s:=by
 have hname:(toString "min"++toString ".loop":String)="min.loop":=by decide
 refine call_function_tree F.kind_min F.plain_min F.entry_min (F.args_min1 _) ?_
 show wpAny _ A.in1 (Builtin.Builtins.bindParams "min" ["key","default"] 0 ⟨[],[]⟩ >>= _) _ _ s
 refine wpAny_bind (wpAny_of_eq (show Builtin.Builtins.bindParams "min" ["key","default"] 0 ⟨[],[]⟩=pure [none,none] from rfl) (wpAny_bind (wpAny_pure (wpAny_bind (wpAny_mono h (fun it s₂ h₂=>?_) fun _ _ e=>e)))))
 obtain ⟨I,fp,wr,n,P,St,bt,rfl,W,hst,hfp,hn,hcmp,hQ⟩:=h₂
 refine wpAny_bind (wpAny_newObj_type ?_)
 have hSf:s₂.heap.objs.size ∉ fp:=fun hm=>Nat.lt_irrefl _ (hfp _ hm)
 rw [hname]
 refine wpAny_pure ⟨plainId_quiet F.plain_min_loop _,Zb1 W (fun h'=>∀ b o,b ∉ wr->s₂.heap.get? b=some o->h'.get? b=some o) s₂.heap.objs.size (fun h1 h2 g k b o hb e=>k b o hb (Nat.ne_of_lt (Heap.lt_size e)) (g b o hb e)) bt hcmp hSf hn (fun b o _ e=>Heap.get?_push_of_some _ e) (W.frame _ _ _ hst fun b _ o e=>Heap.get?_push_of_some _ e) (Heap.get?_push_size _ rfl) fun v h' tk hP hk=>?_⟩
 exact hQ v h' tk hP fun b o hbw e=>hk b o hbw (Nat.ne_of_lt (Heap.lt_size e)) (Heap.get?_push_of_some _ e)
end
section
variable {X:Cx} {pins:List (Addr×Obj)} {σ:L2.St} {H:Hp} {s:Shared}
theorem Zbr {A':Around} {a:Addr} {vs:List V} {Q:Value->Shared->Prop} {E:Value->Shared->Prop} (hh:A'.handled=none) (I:Inv X pins σ H s) (h:SqL X.K H a vs\/SqT X.K H a vs)
  (q:∀ (it:Addr) (fp wr:List Addr) (its:Array Value) (St:Nat->Heap->Prop) (h2:Heap),Vals vs its.toList->Walks X.prog X.w A' it fp wr its.size (fun i v=>its[i]?=some v) St->St 0 h2->(∀ b∈fp,b < h2.objs.size) ->
   (∀ b o,s.heap.get? b=some o->h2.get? b=some o/\b ∉ wr)->Q (.ref it) { s with heap:=h2 }):wpAny (model X.prog X.w) A' (pyIter (.ref a)) Q E s:=by
 rcases h with h | h
 ·obtain ⟨its,rv,p,hz⟩:=I.list h
  have hl:=p.isList
  have hlt:a < s.heap.objs.size:=by obtain ⟨_,e,_⟩:=hl; exact Heap.lt_size e
  refine wpAny_pyIter_list hl ?_
  refine q s.heap.objs.size [s.heap.objs.size,a] [s.heap.objs.size] its.toArray _ _ (by simpa using rv) (Walks.list hh _ a (Nat.ne_of_lt hlt) its.toArray) ⟨⟨_,Heap.get?_push_size _ rfl,rfl,rfl⟩,hl.push _⟩ (fun b hb=>?_) fun b o e=>⟨Heap.get?_push_of_some _ e,fun hb=>?_⟩
  ·rw [Heap.size_push]
   rcases List.mem_cons.mp hb with rfl | hb
   ·exact Nat.lt_succ_self _
   ·rw [List.mem_singleton] at hb; subst hb; exact Nat.lt_succ_of_lt hlt
  ·rw [List.mem_singleton] at hb; subst hb; exact absurd (Heap.lt_size e) (Nat.lt_irrefl _)
 ·obtain ⟨its,rv,p,hz⟩:=I.tuple h
  have hl:s.heap.IsTuple a its.toArray:=p
  have hlt:a < s.heap.objs.size:=by obtain ⟨_,e,_⟩:=hl; exact Heap.lt_size e
  refine wpAny_pyIter_tuple hl ?_
  refine q s.heap.objs.size [s.heap.objs.size,a] [s.heap.objs.size] its.toArray _ _ (by simpa using rv) (Walks.tuple hh _ a (Nat.ne_of_lt hlt) its.toArray) ⟨⟨_,Heap.get?_push_size _ rfl,rfl,rfl⟩,hl.push _⟩ (fun b hb=>?_) fun b o e=>⟨Heap.get?_push_of_some _ e,fun hb=>?_⟩
  ·rw [Heap.size_push]
   rcases List.mem_cons.mp hb with rfl | hb
   ·exact Nat.lt_succ_self _
   ·rw [List.mem_singleton] at hb; subst hb; exact Nat.lt_succ_of_lt hlt
  ·rw [List.mem_singleton] at hb; subst hb; exact absurd (Heap.lt_size e) (Nat.lt_irrefl _)
end
noncomputable def YN:D->Option (List D)
 | .lst xs=>some xs
 | .tup xs=>some xs
 | _=>none
theorem Zav {K:PySem.W.Frag} {F:Fz} {H:Hp} {d:D} {xs:List D} {v:V} (h:YN d=some xs) (r:Rep K F H d v):∃ a vs,v=.ref a/\(SqL K H a vs\/SqT K H a vs)/\RepL K F H xs vs:=by
 unfold YN at h
 split at h
 ·cases h; unfold Rep at r; obtain ⟨a,vs,rfl,_,h1,h2⟩:=r; exact ⟨a,vs,rfl,.inl h1,h2⟩
 ·cases h; unfold Rep at r; obtain ⟨a,vs,rfl,h1,h2⟩:=r; exact ⟨a,vs,rfl,.inr h1,h2⟩
 ·cases h
section
variable {X:Cx}
noncomputable def Qp:List D->Option (List Int)
 | []=>some []
 | .int b::r=>(Qp r).map (b::·)
 | _::_=>none
theorem Ja:∀ {ds:List D} {ns:List Int},Qp ds=some ns->ds=ns.map .int
 | [],ns,h=>by cases h; rfl
 | d0::ds,ns,h=>by
  cases d0 with
  | int b=>
   obtain ⟨bs',h',rfl⟩:=map_some (show (Qp ds).map (b::·)=some ns from h)
   rw [Ja h']; rfl
  | _=>cases h
theorem Q9:∀ (ns:List Int),Qp (ns.map .int)=some ns
 | []=>rfl
 | n::ns=>by show (Qp (ns.map .int)).map (n::·)=_; rw [Q9 ns]; rfl
noncomputable def Vc:Int->List Int->Bool
 | _,[]=>true
 | a,n::ns=>decide (-(2 ^ 63)<=n)&&decide (n < 2 ^ 63)&&decide (-(2 ^ 63)<=a+n)&&decide (a+n < 2 ^ 63)&&Vc (a+n) ns
noncomputable def ZfT:List D->Option D
 | [d]=>(YN d).bind fun xs=>(Qp xs).bind fun ns=>if Vc 0 ns then some (.int ns.sum) else none
 | _=>none
theorem Qm (n:Int) (f:Nat->Int):∀ k,preSum (fun i=>match i with | 0=>n | i+1=>f i) (k+1)=n+preSum f k
 | 0=>by simp [preSum]
 | k+1=>by
  rw [preSum,Qm n f k]
  show n+preSum f k+f k=n+(preSum f k+f k)
  omega
theorem WR (n:Int) (ns:List Int):(fun i=>((n::ns)[i]?).getD 0)=fun i=>match i with | 0=>n | i+1=>(ns[i]?).getD 0:=by
 funext i
 cases i <;> rfl
theorem Ut:∀ (ns:List Int),preSum (fun i=>(ns[i]?).getD 0) ns.length=ns.sum
 | []=>rfl
 | n::ns=>by rw [WR,List.length_cons,Qm,Ut ns,List.sum_cons]
theorem Vb:∀ (ns:List Int) (a:Int),Vc a ns=true->∀ j,j < ns.length->InLong ((ns[j]?).getD 0)/\InLong (a+preSum (fun i=>(ns[i]?).getD 0) (j+1))
 | [],a,_,j,hj=>by simp at hj
 | n::ns,a,h,j,hj=>by
  unfold Vc at h
  simp only [Bool.and_eq_true,decide_eq_true_eq] at h
  obtain ⟨⟨⟨⟨h1,h2⟩,h3⟩,h4⟩,h5⟩:=h
  rw [WR,Qm]
  cases j with
  | zero=>exact ⟨⟨h1,h2⟩,by simp [preSum]; exact ⟨h3,h4⟩⟩
  | succ j=>
   obtain ⟨q1,q2⟩:=Vb ns (a+n) h5 j (by simpa using hj)
   refine ⟨by simpa using q1,?_⟩
   rw [Int.add_assoc] at q2
   exact q2
theorem ZiF (hc:X.calm=true):Zan X (.builtin "sum") ZfT:=by
 intro pins s σ H vs us Q I r h
 obtain ⟨xs,F,d,r1,e,q⟩:=h
 unfold ZfT at e
 split at e
 ·rename_i d0
  obtain ⟨ys,es,e⟩:=bind_some e
  obtain ⟨ns,en,e⟩:=bind_some e
  obtain ⟨ho,rfl⟩:=Z9 e
  obtain ⟨v,rfl,rv0⟩:=Q5 r1
  obtain ⟨a,ws,rfl,hq,hr⟩:=Zav es rv0
  obtain ⟨u,rfl,ru⟩:=Wn r
  cases ru
  have ey:=Ja en
  subst ey
  refine call_sum_walk (Zbr (A':=X.A.in1) (I.ok.hd hc) I hq fun it fp wr its St h2 rv W st fpl kp=>⟨it,fp,wr,its.size,_,St,fun i=>(ns[i]?).getD 0,rfl,W,st,fpl,fun i v hv=>?_,fun j hj=>?_,fun h' tk t' hk=>?_⟩)
  ·have hi:i < ns.length:=by
    have:=(Array.getElem?_eq_some_iff.mp hv).1
    have h1:=hr.length; have h2:=rv.length
    simp at h1 h2; omega
   obtain ⟨x,ex,rx⟩:=hr.get (show (ns.map D.int)[i]?=some (.int ns[i]) by simp [hi])
   unfold Rep at rx
   subst rx
   obtain ⟨u,eu,ru⟩:=rv.get ex
   have:v=u:=by rw [Array.getElem?_toList] at eu; rw [hv] at eu; exact Option.some.inj eu
   subst this
   obtain ⟨t,rfl⟩:=ru
   exact ⟨t,by simp [hi]⟩
  ·have hz:its.size=ns.length:=by have h1:=hr.length; have h2:=rv.length; simp at h1 h2; omega
   rw [hz] at hj
   have:=Vb ns 0 ho j hj
   rw [Int.zero_add] at this
   exact this
  ·have hz:its.size=ns.length:=by have h1:=hr.length; have h2:=rv.length; simp at h1 h2; omega
   rw [hz,Ut]
   exact ⟨.int _,H,I.kept (t':=tk) fun b o e=>hk b o (kp b o e).2 (kp b o e).1,⟨t',rfl⟩,q _ F H .refl (ZY _)⟩
 ·cases e
end
noncomputable def ltD:D->D->Bool
 | .int i,.int j=>decide (i < j)
 | .tup xs,.tup ys=>HT.lexLt ((Qp xs).getD []) ((Qp ys).getD [])
 | _,_=>false
noncomputable def isI:D->Bool
 | .int _=>true
 | _=>false
noncomputable def isT:D->Bool
 | .tup xs=>(Qp xs).isSome
 | _=>false
noncomputable def Vs (ds:List D):Bool:=ds.all isI||ds.all isT
noncomputable def Zcq (lt:D->D->Bool):D->List D->D
 | b,[]=>b
 | b,x::xs=>Zcq lt (if lt x b then x else b) xs
theorem Zad (lt:D->D->Bool):∀ (xs:List D) (b x:D),Zcq lt b (xs++[x])=if lt x (Zcq lt b xs) then x else Zcq lt b xs
 | [],b,x=>rfl
 | y::xs,b,x=>by simp only [List.cons_append,Zcq]; exact Zad lt xs _ x
theorem JU (lt:D->D->Bool) (d:D) (ds:List D):∀ k,k<=ds.length->(d::ds)[argBest (fun i j=>lt ((d::ds)[i]?.getD .non) ((d::ds)[j]?.getD .non)) k]?=some (Zcq lt d (ds.take k))
 | 0,_=>by simp [argBest,Zcq]
 | k+1,hk=>by
  have ih:=JU lt d ds k (by omega)
  have e:ds.take (k+1)=ds.take k++[ds[k]]:=by rw [List.take_add_one]; simp [show k < ds.length by omega]
  rw [e,Zad]
  unfold argBest
  have e1:(d::ds)[k+1]?=some ds[k]:=by simp [show k < ds.length by omega]
  simp only [ih,e1,Option.getD_some]
  split
  ·exact e1
  ·exact ih
noncomputable def W4:List D->Option D
 | [d]=>(YN d).bind fun xs=>match xs with
  | []=>none
  | x::r=>if Vs (x::r) then some (Zcq ltD x r) else none
 | _=>none
section
variable {X:Cx} {pins:List (Addr×Obj)} {σ:L2.St} {H:Hp} {s:Shared} {F:Fz}
theorem Qa:∀ {ns:List Int} {vs:List V} {us:List Value},RepL X.K F H (ns.map .int) vs->Vals vs us->IntsAre us ns
 | [],vs,us,h,r=>by rw [List.map_nil] at h; rw [h.unnil] at r; cases r; exact .nil
 | n::ns,vs,us,h,r=>by
  rw [List.map_cons] at h
  obtain ⟨y,ys,rfl,h1,h2⟩:=h.uncons
  unfold Rep at h1
  subst h1
  cases r with
  | cons r1 r2=>
   obtain ⟨t,rfl⟩:=r1
   exact .cons n t (Qa h2 r2)
theorem ZeK {A:Around} (hu:A.units < cLine) (I:Inv X pins σ H s) {d e:D} {x y:V} {u v:Value} {h':Heap} {s':Shared} {Q:Value->Shared->Prop} {E:Value->Shared->Prop} (hk:((isI d&&isI e)||(isT d&&isT e))=true)
  (r1:Rep X.K F H d x) (r2:Rep X.K F H e y) (q1:RelV x u) (q2:RelV y v) (kp:∀ b o,s.heap.get? b=some o->s'.heap.get? b=some o) (q:Q (.bool (ltD d e)) s'):wpAny (model X.prog X.w) A (richCompare .Lt u v) Q E s':=by
 cases d with
 | int i=>cases e with
  | int j=>
   unfold Rep at r1 r2
   subst r1 r2
   obtain ⟨t,rfl⟩:=q1
   obtain ⟨t',rfl⟩:=q2
   exact HT.rcLt_int A s' i t j t' X.prog X.w E Q q
  | _=>simp [isI,isT] at hk
 | tup xs=>cases e with
  | tup ys=>
   have hk:((Qp xs).isSome&&(Qp ys).isSome)=true:=by simpa [isI,isT] using hk
   obtain ⟨k1,k2⟩:=Bool.and_eq_true_iff.mp hk
   obtain ⟨ns,en⟩:=Option.isSome_iff_exists.mp k1
   obtain ⟨ms,em⟩:=Option.isSome_iff_exists.mp k2
   have e1:=Ja en; have e2:=Ja em
   subst e1 e2
   unfold Rep at r1 r2
   obtain ⟨a,vs,rfl,h1,l1⟩:=r1
   obtain ⟨b,ws,rfl,h2,l2⟩:=r2
   cases q1; cases q2
   obtain ⟨its,rv,p,_⟩:=I.tuple h1
   obtain ⟨its2,rv2,p2,_⟩:=I.tuple h2
   have p':IsTup s'.heap a its.toArray:=by obtain ⟨o,ho,r⟩:=p; exact ⟨o,kp a o ho,r⟩
   have p2':IsTup s'.heap b its2.toArray:=by obtain ⟨o,ho,r⟩:=p2; exact ⟨o,kp b o ho,r⟩
   have q':Q (.bool (HT.lexLt ((Qp (ns.map .int)).getD []) ((Qp (ms.map .int)).getD []))) s':=q
   rw [Q9,Q9] at q'
   exact HT.lt_tupInts (ns:=ns) (ms:=ms) p' p2' (by simpa using Qa l1 rv) (by simpa using Qa l2 rv2) hu q'
  | _=>simp [isI,isT] at hk
 | _=>simp [isI,isT] at hk
theorem Zce {ds:List D} (h:Vs ds=true) {i j:Nat} {d e:D} (h1:ds[i]?=some d) (h2:ds[j]?=some e):((isI d&&isI e)||(isT d&&isT e))=true:=by
 have m1:=List.mem_of_getElem? h1
 have m2:=List.mem_of_getElem? h2
 rcases Bool.or_eq_true_iff.mp h with h | h
 ·have:=List.all_eq_true.mp h
  rw [this d m1,this e m2]; rfl
 ·have:=List.all_eq_true.mp h
  rw [this d m1,this e m2]; simp
theorem Zf1 (hc:X.calm=true) (hu:X.A.units+64 < cLine):Zan X (.builtin "min") W4:=by
 intro pins s σ H vs us Q I r h
 obtain ⟨xs,F,d,r1,e,q⟩:=h
 unfold W4 at e
 split at e
 ·rename_i d0
  obtain ⟨ys,es,e⟩:=bind_some e
  cases ys with
  | nil=>cases e
  | cons y ys=>
   have e:(if Vs (y::ys)=true then some (Zcq ltD y ys) else none)=some d:=e
   obtain ⟨hca,rfl⟩:=Z9 e
   obtain ⟨v,rfl,rv0⟩:=Q5 r1
   obtain ⟨a,ws,rfl,hq,hr⟩:=Zav es rv0
   obtain ⟨u,rfl,ru⟩:=Wn r
   cases ru
   have hu':X.A.in1.units < cLine:=by show X.A.units+1 < cLine; omega
   refine Zdg (Zbr (A':=X.A.in1) (I.ok.hd hc) I hq fun it fp wr its St h2 rv W st fpl kp=>⟨it,fp,wr,its.size,_,St,fun i j=>ltD ((y::ys)[i]?.getD .non) ((y::ys)[j]?.getD .non),rfl,W,st,fpl,?_,fun i j vi vj s' Q' E' hG hi hj hQ=>?_,fun v h' tk hv hk=>?_⟩)
   ·have h1:=hr.length; have h2:=rv.length; simp at h1 h2; omega
   ·have gt:∀ {i:Nat} {v:Value},its[i]?=some v->∃ d x,(y::ys)[i]?=some d/\Rep X.K F H d x/\RelV x v:=fun {i v} hv=>by
     have hi:i < (y::ys).length:=by
      have:=(Array.getElem?_eq_some_iff.mp hv).1
      rw [hr.length,rv.length]; simpa using this
     obtain ⟨x,ex,rx⟩:=hr.get (show (y::ys)[i]?=some (y::ys)[i] by simp [hi])
     obtain ⟨u,eu,ru⟩:=rv.get ex
     have:v=u:=by rw [Array.getElem?_toList] at eu; rw [hv] at eu; exact Option.some.inj eu
     subst this
     exact ⟨_,x,by simp [hi],rx,ru⟩
    obtain ⟨d1,x1,e1,p1,q1⟩:=gt hi
    obtain ⟨d2,x2,e2,p2,q2⟩:=gt hj
    have hQ:Q' (.bool (ltD ((y::ys)[i]?.getD .non) ((y::ys)[j]?.getD .non))) s':=hQ
    rw [e1,e2] at hQ
    exact ZeK (h':=h2) hu' I (Zce hca e1 e2) p1 p2 q1 q2 (fun b o e=>hG b o (kp b o e).2 (kp b o e).1) hQ
   ·have hz:its.size-1=ys.length:=by have h1:=hr.length; have h2:=rv.length; simp at h1 h2; omega
    have hb:=JU ltD y ys ys.length (Nat.le_refl _)
    rw [List.take_length] at hb
    rw [hz] at hv
    obtain ⟨x,ex,rx⟩:=hr.get hb
    obtain ⟨u,eu,ru⟩:=rv.get ex
    have:v=u:=by rw [Array.getElem?_toList] at eu; rw [hv] at eu; exact Option.some.inj eu
    subst this
    exact ⟨x,H,I.kept (t':=tk) fun b o e=>hk b o (kp b o e).2 (kp b o e).1,ru,q _ F H .refl rx⟩
 ·cases e
noncomputable def WX (x:D):List D->Option Nat
 | []=>none
 | y::ys=>if deq y x then some 0 else (WX x ys).map (·+1)
theorem Vn (x:D):∀ {ys:List D} {j:Nat},WX x ys=some j->(∃ y,ys[j]?=some y/\deq y x=true)/\∀ (m:Nat) y,m < j->ys[m]?=some y->deq y x=false
 | [],j,h=>by cases h
 | y::ys,j,h=>by
  unfold WX at h
  by_cases c:deq y x=true
  ·rw [if_pos c] at h
   cases h
   exact ⟨⟨y,rfl,c⟩,fun m z hm=>absurd hm (Nat.not_lt_zero _)⟩
  ·rw [if_neg c] at h
   obtain ⟨k,hk,rfl⟩:=map_some h
   obtain ⟨⟨z,h1,h2⟩,h3⟩:=Vn x hk
   refine ⟨⟨z,by simpa using h1,h2⟩,fun m z hm hz=>?_⟩
   cases m with
   | zero=>simp at hz; subst hz; simpa using c
   | succ m=>exact h3 m z (by omega) (by simpa using hz)
end
section
variable {X:Cx}
noncomputable def W5:D->D->Option D
 | .lst xs,x=>if okD x&&okD (.lst xs)&&decide (xs.length<=lim) then (WX x xs).map fun (j:Nat)=>D.int (j:Int) else none
 | _,_=>none
noncomputable def Zkm (K:PySem.W.Frag):V->List V->Hp->VK->Prop:=fun v vs H Q=>∃ x y F d u,vs=[u]/\Rep K F H x v/\Rep K F H y u/\W5 x y=some d/\∀ w F' H',Grow F H F' H'->Rep K F' H' d w->Q w H'
theorem Wo:∀ (ds:List D) (i:Nat),(Qf ds)[i]?=(ds[i]?).map JD
 | [],i=>by simp [Qf]
 | d::ds,0=>by simp [Qf]
 | d::ds,i+1=>by simp [Qf,Wo ds i]
theorem JG {h:Heap}:∀ {vs:List Value} {xs:List PyData} {as:List Addr},ReadsAll h vs xs as->PyData.canLayAll0 xs=true->∀ (i:Nat) v,vs[i]?=some v->∃ d,xs[i]?=some d/\SeqAt.readOf h v=d
 | _,_,_,.nil,_,i,v,e=>by simp at e
 | _,_,_,.cons r1 r2,hc,i,v,e=>by
  have hc':=(by simpa [PyData.canLayAll0] using hc:_/\_)
  cases i with
  | zero=>simp at e; subst e; exact ⟨_,rfl,SeqAt.readOf_eq hc'.1 r1⟩
  | succ i=>obtain ⟨d,e1,e2⟩:=JG r2 hc'.2 i v (by simpa using e); exact ⟨d,by simpa using e1,e2⟩
theorem ZeJ (hu:X.A.units+64 < cLine):MtR X "list.index" (Zkm X.K):=by
 intro pins s σ H x xs v us Q I rx rs h
 obtain ⟨dx,dy,F,d,u,rfl,r1,r2,e,q⟩:=h
 cases dx with
 | lst ds=>
  have e:(if (okD dy&&okD (.lst ds)&&decide (ds.length<=lim))=true then (WX dy ds).map fun (j:Nat)=>D.int (j:Int) else none)=some d:=e
  by_cases hk:(okD dy&&okD (.lst ds)&&decide (ds.length<=lim))=true
  ·rw [if_pos hk] at e
   obtain ⟨j,ej,rfl⟩:=map_some e
   obtain ⟨hk,hz⟩:=Bool.and_eq_true_iff.mp hk
   obtain ⟨k1,k2⟩:=Bool.and_eq_true_iff.mp hk
   have hz:ds.length<=lim:=of_decide_eq_true hz
   obtain ⟨w,rfl,rw'⟩:=Wn rs
   obtain ⟨bs,a2⟩:=Q6 I r2 rw'
   unfold Rep at r1
   obtain ⟨a,vs,rfl,hf,hq,hr⟩:=r1
   cases rx
   obtain ⟨its,rv,pl,_⟩:=I.list hq
   obtain ⟨as,ra⟩:=Qz I hr rv
   have d1:=okD.dep k1; have c1:=okD.can k1
   have c2:=okD.can k2
   simp only [JD,PyData.canLay0] at c2
   obtain ⟨⟨cls,dd,data,sl⟩,ho,hc,n,hd⟩:=pl.isList
   simp only at hc hd
   subst hc hd
   have hlen:its.length=ds.length:=by rw [<-rv.length,hr.length]
   obtain ⟨⟨y,y1,y2⟩,no⟩:=Vn dy ej
   have hj:j < ds.length:=(List.getElem?_eq_some_iff.mp y1).1
   have rd:∀ (i:Nat) (hi:i < its.toArray.size) y,ds[i]?=some y->PyData.eqv (SeqAt.readOf s.heap its.toArray[i]) (JD dy)=deq y dy:=fun i hi y ey=>by
    obtain ⟨d',e1,e2⟩:=JG ra c2 i its.toArray[i] (by simp)
    rw [Wo,ey] at e1
    cases e1
    rw [e2]; rfl
   have hm:min (PyData.depthAll (Qf ds)) (JD dy).depth<=30:=Nat.le_trans (Nat.min_le_right _ _) d1
   refine call_meets PySem.F.slot_list_index ⟨_,ho,rfl⟩ PySem.F.entry_list_index (PySem.F.args_list_index_2 _ _)
    (SeqAt.list_indexAt a its.toArray n dd sl w (fun y=>PyData.eqv (SeqAt.readOf s.heap y) (JD dy)) j (by simp; omega) (by unfold lim at hz; omega) (by rw [rd j (by simp; omega) y y1]; exact y2) fun m hm hlt=>?_)
    ⟨ho,SeqAt.items_eqAt (by simpa using ra) a2 c2 c1 (by omega),.int j,H,I.tok _,⟨_,rfl⟩,q _ F H .refl (ZY _)⟩
   have hml:m < ds.length:=by simp at hm; omega
   rw [rd m hm ds[m] (by simp [hml])]
   exact no m _ hlt (by simp [hml])
  ·rw [if_neg hk] at e; cases e
 | _=>cases e
theorem Zbx {o e:Expr} {f g:DE} {apos cpos:Pos} (hu:X.A.units+64 < cLine) (ho:ED X o f) (he:ED X e g)
  (hbase:attributeBase o "index" X.env (eval o X.env)=eval o X.env:=by rfl)
  (hfew:((backTo cpos (starEach [e] X.env)).all (fun x=>!x.1)&&(backToKw cpos (keywordEach [] X.env)).all (fun x=>x.1.isSome)
   && decide ([e].length+([]:List Keyword).length+(if ([]:List Keyword).isEmpty then 0 else 1) < 30))=true:=by rfl)
  (hline:(apos.endLine==cpos.line)=true:=by rfl) (hs:starEach [e] X.env=(false,eval e X.env)::starEach [] X.env:=by rfl) (hplain:(backTo cpos (starEach [] X.env)).any (·.1)=false:=by rfl) :
  ED X (.Call (.Attribute o "index" apos) [e] [] cpos) (Zg W5 f g):=
 PE.imp (ZgB PySem.F.plainAttrs_list PySem.F.slot_list_index PySem.F.type_list_index (ZeJ hu) ho (Zc he Zh hs) hbase hfew hline hs hplain) fun σ H Q zq=>by
  obtain ⟨ρ,F0,H0,F,d,ok,e,q⟩:=zq
  obtain ⟨x,ex,e⟩:=bind_some e
  obtain ⟨y,ey,e⟩:=bind_some e
  refine ⟨ρ,F0,H0,F,x,ok,ex,fun v F1 H1 g1 r1=>?_⟩
  cases x with
  | lst ds=>
   have r1':=r1
   unfold Rep at r1
   obtain ⟨a,vs,rfl,hf,hq,hr⟩:=r1
   refine ⟨.inl ⟨rfl,vs,hq⟩,ρ,F0,H0,F1,[y],ok.grow g1,by simp [Zb,Zq,ey],fun ws F2 H2 g2 r2=>?_⟩
   obtain ⟨u,rfl,ru⟩:=Q5 r2
   exact ⟨_,_,F2,d,u,rfl,r1'.grow g2,ru,e,fun w F3 H3 g3 r3=>q w F3 H3 (g1.trans (g2.trans g3)) r3⟩
  | _=>cases e
end
end L3
set_option linter.unusedVariables false
set_option linter.unusedSimpArgs false
namespace SetTab
open PySem PySem.SetTable
noncomputable def Ris (xs:List Nat):Prop:=xs.Pairwise (· < ·)
theorem Ris.get {xs:List Nat} (h:Ris xs) {i j:Nat} (hij:i < j) (hj:j < xs.length):xs[i]'(by omega) < xs[j]:=List.pairwise_iff_getElem.mp h i j (by omega) hj hij
theorem Zfk {xs:Array Nat} (h:Ris xs.toList) (j:Nat):∀ (fuel lo hi:Nat),hi-lo<=fuel->lo<=hi->hi<=xs.size->(∀ a (ha:a < xs.size),a < lo->xs[a] < j)->(∀ a (ha:a < xs.size),hi<=a->j<=xs[a]) ->
  ∃ r,below.go xs j fuel lo hi=r/\r<=xs.size/\(∀ a (ha:a < xs.size),a < r->xs[a] < j)/\(∀ a (ha:a < xs.size),r<=a->j<=xs[a]):=by
 intro fuel
 induction fuel with
 | zero=>
  intro lo hi h1 h2 h3 h4 h5
  exact ⟨lo,rfl,by omega,h4,fun a ha hl=>h5 a ha (by omega)⟩
 | succ fuel ih=>
  intro lo hi h1 h2 h3 h4 h5
  unfold below.go
  by_cases c:lo < hi
  ·rw [if_pos c]
   have hm:(lo+hi) / 2 < xs.size:=by omega
   have e:xs.getD ((lo+hi) / 2) j=xs[(lo+hi) / 2]:=by simp [Array.getD,hm]
   show ∃ r,(if xs.getD ((lo+hi) / 2) j < j then below.go xs j fuel ((lo+hi) / 2+1) hi else below.go xs j fuel lo ((lo+hi) / 2))=r/\_
   rw [e]
   by_cases c2:xs[(lo+hi) / 2] < j
   ·rw [if_pos c2]
    refine ih _ _ (by omega) (by omega) h3 (fun a ha hl=>?_) h5
    by_cases e2:a=(lo+hi) / 2
    ·subst e2; exact c2
    ·have:=h.get (i:=a) (j:=(lo+hi) / 2) (by omega) (by simpa using hm)
     simp only [Array.getElem_toList] at this
     omega
   ·rw [if_neg c2]
    refine ih _ _ (by omega) (by omega) (by omega) h4 (fun a ha hl=>?_)
    by_cases e2:a=(lo+hi) / 2
    ·subst e2; omega
    ·have:=h.get (i:=(lo+hi) / 2) (j:=a) (by omega) (by simpa using ha)
     simp only [Array.getElem_toList] at this
     omega
  ·rw [if_neg c]
   exact ⟨lo,rfl,by omega,h4,fun a ha hl=>h5 a ha (by omega)⟩
theorem Yy {xs:Array Nat} (h:Ris xs.toList) (j:Nat):below xs j<=xs.size/\(∀ a (ha:a < xs.size),a < below xs j->xs[a] < j)/\(∀ a (ha:a < xs.size),below xs j<=a->j<=xs[a]):=by
 obtain ⟨r,e,h1,h2,h3⟩:=Zfk h j xs.size 0 xs.size (by omega) (by omega) (Nat.le_refl _) (fun a _ hl=>by omega) (fun a ha hl=>by omega)
 have e':below xs j=r:=e
 rw [e']; exact ⟨h1,h2,h3⟩
theorem Wd {xs:Array Nat} (h:Ris xs.toList) {i:Nat} (hi:i < xs.size):below xs xs[i]=i:=by
 obtain ⟨h1,h2,h3⟩:=Yy h xs[i]
 rcases Nat.lt_trichotomy (below xs xs[i]) i with c | c | c
 ·have a:=h3 (below xs xs[i]) (by omega) (Nat.le_refl _)
  have b:=h.get (i:=below xs xs[i]) (j:=i) c (by simpa using hi)
  simp only [Array.getElem_toList] at b
  omega
 ·exact c
 ·have:=h2 i hi c; omega
theorem YA {t:SetTable} (h:Ris t.place.toList) {i:Nat} (hi:i < t.place.size):t.slot t.place[i]=.live i:=by
 unfold slot
 simp only [Wd h hi]
 have:t.place[i]?=some t.place[i]:=by simp [hi]
 rw [this]; simp
theorem ZcF {t:SetTable} (h:Ris t.place.toList) (hd:t.dummies=#[]) {j:Nat} (hj:j ∉ t.place.toList):t.slot j=.empty:=by
 unfold slot
 have n1:¬ (t.place[below t.place j]?==some j)=true:=by
  intro e
  have e':t.place[below t.place j]?=some j:=by simpa using e
  obtain ⟨hl,e2⟩:=Array.getElem?_eq_some_iff.mp e'
  exact hj (by rw [<-e2]; exact Array.getElem_mem_toList hl)
 simp only [if_neg n1]
 have n2:has t.dummies j=false:=by rw [hd]; simp [has]
 rw [n2]; simp
noncomputable def adv (mask:Nat) (p:Probe):Probe:=
 if p.more > 0 then { p with j:=p.j+1,more:=p.more-1 } else
 { p with j:=(leap mask p.i p.perturb).1,more:=runEnd mask (leap mask p.i p.perturb).1-(leap mask p.i p.perturb).1,i:=(leap mask p.i p.perturb).1,perturb:=(leap mask p.i p.perturb).2 }
theorem Zci (t:SetTable) (p:Probe):t.advance p=adv t.mask p:=rfl
noncomputable def st (mask:Nat) (h:Int):Probe:={ j:=bits h % (mask+1),more:=runEnd mask (bits h % (mask+1))-bits h % (mask+1),i:=bits h % (mask+1),perturb:=bits h,dummy:=none }
noncomputable def nth (mask:Nat) (p:Probe):Nat->Probe
 | 0=>p
 | k+1=>adv mask (nth mask p k)
theorem Qo (mask:Nat) (p:Probe) (a:Nat):∀ b,nth mask p (a+b)=nth mask (nth mask p a) b
 | 0=>rfl
 | b+1=>by show adv mask (nth mask p (a+b))=adv mask (nth mask (nth mask p a) b); rw [Qo mask p a b]
structure Run (mask:Nat) (p:Probe):Prop where
 il:p.i<=mask
 jm:p.j+p.more=runEnd mask p.i
 ij:p.i<=p.j
 dn:p.dummy=none
theorem Yn {mask i:Nat} (h:i<=mask):i<=runEnd mask i/\runEnd mask i<=mask/\runEnd mask i<=i+9:=by unfold runEnd; split <;> omega
theorem Run.adv {mask:Nat} {p:Probe} (h:Run mask p):Run mask (adv mask p):=by
 unfold SetTab.adv
 have r:=Yn h.il
 by_cases c:p.more > 0
 ·rw [if_pos c]; exact ⟨h.il,by have:=h.jm; simp only; omega,by have:=h.ij; simp only; omega,h.dn⟩
 ·rw [if_neg c]
  have l:(leap mask p.i p.perturb).1<=mask:=by unfold leap; have:=Nat.mod_lt (p.i*5+1+p.perturb / 32) (show 0 < mask+1 by omega); simp only; omega
  have r2:=Yn l
  exact ⟨l,by simp only; omega,Nat.le_refl _,h.dn⟩
theorem Run.nth {mask:Nat} {p:Probe} (h:Run mask p):∀ k,Run mask (nth mask p k)
 | 0=>h
 | k+1=>(Run.nth h k).adv
theorem Run.jle {mask:Nat} {p:Probe} (h:Run mask p):p.j<=mask:=by have:=Yn h.il; have:=h.jm; omega
theorem Run.st (mask:Nat) (h:Int):Run mask (st mask h):=by
 have l:bits h % (mask+1)<=mask:=by have:=Nat.mod_lt (bits h) (show 0 < mask+1 by omega); omega
 have r:=Yn l
 exact ⟨l,by show _+_=_; simp only [SetTab.st]; omega,Nat.le_refl _,rfl⟩
theorem ZaE {mask:Nat}:∀ (k:Nat) {p:Probe},Run mask p->k<=p.more->nth mask p k={ p with j:=p.j+k,more:=p.more-k }
 | 0,p,_,_=>rfl
 | k+1,p,h,hk=>by
  show SetTab.adv mask (nth mask p k)=_
  rw [ZaE k h (by omega)]
  unfold SetTab.adv
  rw [if_pos (by simp only; omega)]
  simp only [Probe.mk.injEq,and_true,true_and]
  omega
theorem VT {mask:Nat} {p:Probe} (h:Run mask p):nth mask p (p.more+1) =
  { p with j:=(leap mask p.i p.perturb).1,more:=runEnd mask (leap mask p.i p.perturb).1-(leap mask p.i p.perturb).1,i:=(leap mask p.i p.perturb).1,perturb:=(leap mask p.i p.perturb).2 }:=by
 show SetTab.adv mask (nth mask p p.more)=_
 rw [ZaE p.more h (Nat.le_refl _)]
 unfold SetTab.adv
 rw [if_neg (by simp)]
noncomputable def lcg (M i:Nat):Nat:=(i*5+1) % M
noncomputable def U4 (M i:Nat):Nat->Nat
 | 0=>i
 | k+1=>lcg M (U4 M i k)
theorem ZjT {mask:Nat}:∀ (m:Nat) {p:Probe},Run mask p->p.perturb=0->∃ k,k<=10*m/\Run mask (nth mask p k)/\(nth mask p k).i=U4 (mask+1) p.i m/\(nth mask p k).perturb=0/\(0 < m->(nth mask p k).j=(nth mask p k).i)
 | 0,p,h,e=>⟨0,by omega,h,rfl,e,by omega⟩
 | m+1,p,h,e=>by
  obtain ⟨k,hk,r,ei,ep,_⟩:=ZjT m h e
  refine ⟨k+((nth mask p k).more+1),?_,Run.nth h _,?_⟩
  ·have:=Yn r.il; have:=r.jm; have:=r.ij; omega
  ·rw [Qo,VT r]
   simp only [leap,ep,ei]
   refine ⟨?_,by simp,fun _=>trivial⟩
   show (U4 (mask+1) p.i m*5+1+0 / 32) % (mask+1)=lcg (mask+1) (U4 (mask+1) p.i m)
   unfold lcg; simp
theorem ZjS {mask:Nat}:∀ (m:Nat) {p:Probe},Run mask p->p.perturb < 32 ^ m->∃ k,k<=10*m/\Run mask (nth mask p k)/\(nth mask p k).perturb=0
 | 0,p,h,e=>⟨0,by omega,h,by simp at e; exact e⟩
 | m+1,p,h,e=>by
  have lp:(nth mask p (p.more+1)).perturb=p.perturb / 32:=by rw [VT h]; rfl
  have hr:=Run.nth h (p.more+1)
  obtain ⟨k,hk,r,ep⟩:=ZjS m hr (by rw [lp]; exact Nat.div_lt_of_lt_mul (by rw [Nat.pow_succ] at e; omega))
  refine ⟨(p.more+1)+k,?_,by rw [Qo]; exact r,by rw [Qo]; exact ep⟩
  have:=Yn h.il; have:=h.jm; have:=h.ij; omega
noncomputable def Zcl (mask:Nat):Prop:=∀ i,i<=mask->∀ j,j<=mask->∃ m,0 < m/\m<=mask+1/\U4 (mask+1) i m=j
theorem ZjC {mask:Nat} (F:Zcl mask) {p:Probe} (h:Run mask p) (hp:p.perturb < 2 ^ 64) {s:Nat} (hs:s<=mask):∃ k,k < 10*turns mask/\(nth mask p k).j=s:=by
 obtain ⟨k1,h1,r1,e1⟩:=ZjS 13 h (Nat.lt_of_lt_of_le hp (by decide))
 obtain ⟨m,m0,m1,em⟩:=F _ r1.il s hs
 obtain ⟨k2,h2,r2,ei,_,ej⟩:=ZjT m r1 e1
 refine ⟨k1+k2,?_,?_⟩
 ·unfold turns; omega
 ·rw [Qo,ej m0,ei,em]
theorem ZdY (h:Int):bits h < 2 ^ 64:=by
 unfold bits
 have:=Int.emod_lt_of_pos h (show (0:Int) < 2 ^ 64 by decide)
 have:=Int.emod_nonneg h (show (2 ^ 64:Int)≠0 by decide)
 omega
noncomputable def Zc7 (M:Nat):Nat->Nat->List Nat
 | 0,_=>[]
 | k+1,i=>i::Zc7 M k (lcg M i)
theorem WL (M i:Nat):∀ k,U4 M i (k+1)=U4 M (lcg M i) k
 | 0=>rfl
 | k+1=>by show lcg M (U4 M i (k+1))=lcg M (U4 M (lcg M i) k); rw [WL M i k]
noncomputable def Zjw (mask:Nat):Bool:=((List.range (mask+1)).all fun j=>(Zc7 (mask+1) (mask+1) 0).contains j)&&U4 (mask+1) 0 (mask+1)==0
theorem WI (M:Nat):∀ (k i j:Nat),j∈Zc7 M k i->∃ m,m < k/\U4 M i m=j
 | 0,i,j,h=>by simp [Zc7] at h
 | k+1,i,j,h=>by
  unfold Zc7 at h
  rcases List.mem_cons.mp h with e | h
  ·exact ⟨0,by omega,e.symm⟩
  ·obtain ⟨m,hm,e⟩:=WI M k _ _ h
   exact ⟨m+1,by omega,by rw [WL]; exact e⟩
theorem Ue (M i a:Nat):∀ b,U4 M i (a+b)=U4 M (U4 M i a) b
 | 0=>rfl
 | b+1=>by show lcg M (U4 M i (a+b))=lcg M (U4 M (U4 M i a) b); rw [Ue M i a b]
theorem ZaJ {mask:Nat} (h:Zjw mask=true):Zcl mask:=by
 have hh:=Bool.and_eq_true_iff.mp h
 have h0:U4 (mask+1) 0 (mask+1)=0:=by simpa using hh.2
 have get:∀ j,j<=mask->∃ m,m < mask+1/\U4 (mask+1) 0 m=j:=fun j hj=>by
  have h2:=List.all_eq_true.mp hh.1 j (List.mem_range.mpr (by omega))
  exact WI _ _ _ _ (List.contains_iff_mem.mp h2)
 intro i hi j hj
 obtain ⟨a,ha,ea⟩:=get i hi
 obtain ⟨b,hb,eb⟩:=get j hj
 by_cases c:a < b
 ·refine ⟨b-a,by omega,by omega,?_⟩
  rw [<-ea,<-Ue,show a+(b-a)=b by omega,eb]
 ·refine ⟨mask+1-a+b,by omega,by omega,?_⟩
  rw [<-ea,<-Ue,show a+(mask+1-a+b)=(mask+1)+b by omega,Ue,h0,eb]
theorem Ziq:Zcl 7:=ZaJ (by decide +kernel)
theorem Zir:Zcl 31:=ZaJ (by decide +kernel)
theorem ZgR:Zcl 127:=ZaJ (by decide +kernel)
noncomputable def Reach (mask:Nat) (L:List Nat) (h:Int) (s:Nat):Prop:=∃ k,(nth mask (st mask h) k).j=s/\∀ k',k' < k->(nth mask (st mask h) k').j∈L
theorem Reach.mono {mask:Nat} {L L':List Nat} {h:Int} {s:Nat} (r:Reach mask L h s) (hs:∀ x∈L,x∈L'):Reach mask L' h s:=
 let ⟨k,e,a⟩:=r; ⟨k,e,fun k' hk=>hs _ (a k' hk)⟩
structure TI {α:Type} (t:SetTable) (es:Array (Int×α)):Prop where
 size:t.place.size=es.size
 dm:t.dummies=#[]
 ris:Ris t.place.toList
 le:∀ s∈t.place.toList,s<=t.mask
 full:Zcl t.mask
 room:es.size<=t.mask
 odd:t.mask % 2=1
 reach:∀ i (h1:i < t.place.size) (h2:i < es.size),Reach t.mask t.place.toList es[i].1 t.place[i]
theorem Ris.nodup {xs:List Nat} (h:Ris xs):xs.Nodup:=List.Pairwise.imp (fun h=>Nat.ne_of_lt h) h
theorem Vm {L:List Nat} {mask:Nat} (nd:L.Nodup) (hl:L.length<=mask):∃ s,s<=mask/\s ∉ L:=by
 apply Classical.byContradiction
 intro h
 have all:∀ s,s<=mask->s∈L:=fun s hs=>Classical.byContradiction fun n=>h ⟨s,hs,n⟩
 have:(List.range (mask+1)).length<=L.length:=by
  have pm:(List.range (mask+1)).Perm (L.filter fun s=>decide (s<=mask)):=(List.perm_ext_iff_of_nodup List.nodup_range (nd.sublist List.filter_sublist)).mpr fun a=>by
   rw [List.mem_range,List.mem_filter]
   exact ⟨fun h=>⟨all a (by omega),by simp; omega⟩,fun h=>by have:=h.2; simp at this; omega⟩
  rw [pm.length_eq]
  exact List.length_filter_le _ _
 rw [List.length_range] at this
 omega
theorem Zb5 {L:List Nat} {mask:Nat} (F:Zcl mask) (nd:L.Nodup) (hl:L.length<=mask) {p:Probe} (h:Run mask p) (hp:p.perturb < 2 ^ 64) :
  ∃ m,m < 10*turns mask/\(nth mask p m).j ∉ L/\∀ m',m' < m->(nth mask p m').j∈L:=by
 obtain ⟨s,hs,ns⟩:=Vm nd hl
 obtain ⟨k,hk,e⟩:=ZjC F h hp hs
 have ex:∃ m,(nth mask p m).j ∉ L:=⟨k,by rw [e]; exact ns⟩
 have dec:∀ b:Nat,(∀ m',m' < b->(nth mask p m').j∈L)\/∃ m,m < b/\(nth mask p m).j ∉ L/\∀ m',m' < m->(nth mask p m').j∈L:=by
  intro b
  induction b with
  | zero=>left; intro m' h; omega
  | succ b ih=>
   rcases ih with ih | ⟨m,h1,h2,h3⟩
   ·by_cases c:(nth mask p b).j∈L
    ·left; intro m' hm
     by_cases e:m'=b
     ·rw [e]; exact c
     ·exact ih m' (by omega)
    ·right; exact ⟨b,by omega,c,ih⟩
   ·right; exact ⟨m,by omega,h2,h3⟩
 rcases dec (k+1) with h1 | ⟨m,h1,h2,h3⟩
 ·have:=h1 k (by omega)
  rw [e] at this
  exact absurd this ns
 ·exact ⟨m,by omega,h2,h3⟩
theorem ZeA {α:Type} {t:SetTable} {es:Array (Int×α)} (I:TI t es) (hashAt:Nat->Int) (h:Int):∀ (m:Nat) {p:Probe} {fuel:Nat},Run t.mask p->m < fuel->(nth t.mask p m).j ∉ t.place.toList->(∀ m',m' < m->(nth t.mask p m').j∈t.place.toList) ->
  (probe.go t hashAt h fuel p=some (.empty (nth t.mask p m).j none)/\∀ m',m' < m->∀ i (hi:i < t.place.size),t.place[i]=(nth t.mask p m').j->hashAt i≠h) \/
  (∃ m1 i,m1 < m/\∃ hi:i < t.place.size,t.place[i]=(nth t.mask p m1).j/\hashAt i=h/\probe.go t hashAt h fuel p=some (.candidate (nth t.mask p m1).j i (nth t.mask p (m1+1))) /\
   ∀ m',m' < m1->∀ i (hi:i < t.place.size),t.place[i]=(nth t.mask p m').j->hashAt i≠h):=by
 intro m
 induction m with
 | zero=>
  intro p fuel r hf he ha
  obtain ⟨f,rfl⟩:∃ f,fuel=f+1:=⟨fuel-1,by omega⟩
  left
  refine ⟨?_,fun m' h=>by omega⟩
  unfold probe.go
  have e:t.slot p.j=.empty:=ZcF I.ris I.dm he
  rw [e]
  show some (Met.empty p.j p.dummy)=_
  rw [r.dn]; rfl
 | succ m ih=>
  intro p fuel r hf he ha
  obtain ⟨f,rfl⟩:∃ f,fuel=f+1:=⟨fuel-1,by omega⟩
  have hl:p.j∈t.place.toList:=ha 0 (by omega)
  obtain ⟨i,hi,ei⟩:=List.mem_iff_getElem.mp hl
  have hi':i < t.place.size:=by simpa using hi
  have ei':t.place[i]=p.j:=by simpa using ei
  have es:t.slot p.j=.live i:=by rw [<-ei']; exact YA I.ris hi'
  have sh:∀ q,nth t.mask p (q+1)=nth t.mask (adv t.mask p) q:=fun q=>by rw [Nat.add_comm,Qo]; rfl
  unfold probe.go
  rw [es]
  dsimp only
  by_cases c:hashAt i=h
  ·right
   refine ⟨0,i,by omega,hi',ei',c,?_,fun m' h=>by omega⟩
   rw [if_pos (by simpa using c)]; rfl
  ·rw [if_neg (by simpa using c)]
   have uniq:∀ i2 (hi2:i2 < t.place.size),t.place[i2]=p.j->i2=i:=fun i2 hi2 e2=>by
    have a:=Wd I.ris hi2; have b:=Wd I.ris hi'
    rw [e2] at a; rw [ei'] at b; rw [<-a,b]
   rw [Zci]
   rcases ih (p:=adv t.mask p) (fuel:=f) r.adv (by omega) (by rw [<-sh]; exact he) (fun m' hm=>by rw [<-sh]; exact ha _ (by omega)) with ⟨e,n⟩ | ⟨m1,i1,h1,hi1,e1,e2,e3,n⟩
   ·left
    refine ⟨by rw [e,sh],fun m' hm i2 hi2 e2=>?_⟩
    cases m' with
    | zero=>have:=uniq i2 hi2 e2; rw [this]; exact c
    | succ m'=>exact n m' (by omega) i2 hi2 (by rw [e2,sh])
   ·right
    refine ⟨m1+1,i1,by omega,hi1,by rw [e1,sh],e2,by rw [e3,sh,sh],fun m' hm i2 hi2 e2=>?_⟩
    cases m' with
    | zero=>have:=uniq i2 hi2 e2; rw [this]; exact c
    | succ m'=>exact n m' (by omega) i2 hi2 (by rw [e2,sh])
theorem toList_insertAt {α:Type} (xs:Array α) (p:Nat) (x:α):(insertAt xs p x).toList=xs.toList.take p++x::xs.toList.drop p:=by
 unfold insertAt
 simp [List.take_of_length_le]
theorem ZbW {xs:Array Nat} (h:Ris xs.toList) {j:Nat} (hj:j ∉ xs.toList):Ris (insertAt xs (below xs j) j).toList:=by
 rw [toList_insertAt]
 obtain ⟨h1,h2,h3⟩:=Yy h j
 unfold Ris
 rw [List.pairwise_append]
 refine ⟨h.sublist (List.take_sublist _ _),?_,?_⟩
 ·refine List.Pairwise.cons (fun b hb=>?_) (h.sublist (List.drop_sublist _ _))
  obtain ⟨i,hi,e⟩:=List.mem_iff_getElem.mp hb
  rw [List.getElem_drop] at e
  simp only [List.length_drop,Array.length_toList] at hi
  have:=h3 (below xs j+i) (by omega) (by omega)
  have ne:b≠j:=fun z=>hj (z ▸ List.mem_of_mem_drop hb)
  simp only [Array.getElem_toList] at e
  omega
 ·intro a ha b hb
  obtain ⟨i,hi,e⟩:=List.mem_iff_getElem.mp ha
  rw [List.getElem_take] at e
  simp only [List.length_take,Array.length_toList] at hi
  have l1:=h2 i (by omega) (by omega)
  simp only [Array.getElem_toList] at e
  rcases List.mem_cons.mp hb with rfl | hb
  ·omega
  ·obtain ⟨i2,hi2,e2⟩:=List.mem_iff_getElem.mp hb
   rw [List.getElem_drop] at e2
   simp only [List.length_drop,Array.length_toList] at hi2
   have:=h3 (below xs j+i2) (by omega) (by omega)
   simp only [Array.getElem_toList] at e2
   omega
theorem Vh {α:Type} (xs:Array α) (p:Nat) (x y:α):y∈(insertAt xs p x).toList ↔ y=x\/y∈xs.toList:=by
 rw [toList_insertAt,List.mem_append,List.mem_cons]
 constructor
 ·rintro (h | h | h)
  ·exact .inr (List.mem_of_mem_take h)
  ·exact .inl h
  ·exact .inr (List.mem_of_mem_drop h)
 ·rintro (h | h)
  ·exact .inr (.inl h)
  ·rw [<-List.take_append_drop p xs.toList] at h
   rcases List.mem_append.mp h with h | h
   ·exact .inl h
   ·exact .inr (.inr h)
theorem Zay {α:Type} (xs:Array α) (p:Nat) (x:α):(insertAt xs p x).toList.Perm (x::xs.toList):=by
 rw [toList_insertAt]
 refine List.perm_middle.trans ?_
 rw [List.take_append_drop]
theorem YB {α:Type} (xs:Array α) (p:Nat) (x:α):(insertAt xs p x).size=xs.size+1:=by
 have:=(Zay xs p x).length_eq
 simpa using this
theorem Zb4 {α β:Type} (xs:Array α) (ys:Array β) (hs:xs.size=ys.size) (p:Nat) (hp:p<=xs.size) (x:α) (y:β) {i:Nat} (h1:i < (insertAt xs p x).size) (h2:i < (insertAt ys p y).size) :
  ((insertAt xs p x)[i]=x/\(insertAt ys p y)[i]=y)\/∃ (k:Nat) (k1:k < xs.size) (k2:k < ys.size),(insertAt xs p x)[i]=xs[k]/\(insertAt ys p y)[i]=ys[k]:=by
 have gx:(insertAt xs p x)[i]=(xs.toList.take p++x::xs.toList.drop p)[i]'(by rw [<-toList_insertAt]; simpa using h1):=by
  rw [<-Array.getElem_toList]; congr 1; exact toList_insertAt xs p x
 have gy:(insertAt ys p y)[i]=(ys.toList.take p++y::ys.toList.drop p)[i]'(by rw [<-toList_insertAt]; simpa using h2):=by
  rw [<-Array.getElem_toList]; congr 1; exact toList_insertAt ys p y
 have lx:(xs.toList.take p).length=p:=by simp; omega
 have ly:(ys.toList.take p).length=p:=by simp; omega
 rw [gx,gy]
 rcases Nat.lt_trichotomy i p with c | c | c
 ·right
  refine ⟨i,by omega,by omega,?_,?_⟩
  ·rw [List.getElem_append_left (by omega)]; simp
  ·rw [List.getElem_append_left (by omega)]; simp
 ·left
  subst c
  constructor
  ·rw [List.getElem_append_right (by omega)]; simp [lx]
  ·rw [List.getElem_append_right (by omega)]; simp [ly]
 ·right
  have z1:=YB xs p x
  refine ⟨i-1,by omega,by omega,?_,?_⟩
  ·rw [List.getElem_append_right (by omega)]
   simp only [lx]
   obtain ⟨q,hq⟩:∃ q,i-p=q+1:=⟨i-p-1,by omega⟩
   simp only [hq,List.getElem_cons_succ,List.getElem_drop,Array.getElem_toList]
   congr 1; omega
  ·rw [List.getElem_append_right (by omega)]
   simp only [ly]
   obtain ⟨q,hq⟩:∃ q,i-p=q+1:=⟨i-p-1,by omega⟩
   simp only [hq,List.getElem_cons_succ,List.getElem_drop,Array.getElem_toList]
   congr 1; omega
theorem TI.put {α:Type} {t:SetTable} {es:Array (Int×α)} (I:TI t es) {h:Int} {x:α} {m:Nat} (hf:(nth t.mask (st t.mask h) m).j ∉ t.place.toList) (ha:∀ m',m' < m->(nth t.mask (st t.mask h) m').j∈t.place.toList) (hz:es.size+1<=t.mask) :
  TI (t.put (nth t.mask (st t.mask h) m).j).1 (insertAt es (t.put (nth t.mask (st t.mask h) m).j).2 (h,x)):=by
 have hd:has t.dummies (nth t.mask (st t.mask h) m).j=false:=by rw [I.dm]; simp [has]
 have e:t.put (nth t.mask (st t.mask h) m).j=({ t with place:=insertAt t.place (below t.place (nth t.mask (st t.mask h) m).j) (nth t.mask (st t.mask h) m).j },below t.place (nth t.mask (st t.mask h) m).j):=by
  unfold SetTable.put; rw [hd]; rfl
 rw [e]
 obtain ⟨b1,_,_⟩:=Yy I.ris (nth t.mask (st t.mask h) m).j
 refine ⟨?_,I.dm,ZbW I.ris hf,fun s hs=>?_,I.full,?_,I.odd,fun i h1 h2=>?_⟩
 ·show (insertAt _ _ _).size=(insertAt _ _ _).size
  rw [YB,YB,I.size]
 ·rcases (Vh _ _ _ _).mp hs with rfl | hs
  ·exact ((Run.st t.mask h).nth m).jle
  ·exact I.le s hs
 ·rw [YB]; exact hz
 ·have sub:∀ y∈t.place.toList,y∈(insertAt t.place (below t.place (nth t.mask (st t.mask h) m).j) (nth t.mask (st t.mask h) m).j).toList:=fun y hy=>(Vh _ _ _ _).mpr (.inr hy)
  rcases Zb4 t.place es I.size (below t.place (nth t.mask (st t.mask h) m).j) b1 (nth t.mask (st t.mask h) m).j (h,x) h1 h2 with ⟨e1,e2⟩ | ⟨k,k1,k2,e1,e2⟩
  ·show Reach t.mask _ _ _
   rw [e1,e2]
   exact ⟨m,rfl,fun m' hm=>sub _ (ha m' hm)⟩
  ·show Reach t.mask _ _ _
   rw [e1,e2]
   exact (I.reach k k1 k2).mono sub
noncomputable def lp (mask:Nat) (p:Probe):Probe:=nth mask p (p.more+1)
noncomputable def rs (mask:Nat) (p:Probe):Nat->Probe
 | 0=>p
 | r+1=>lp mask (rs mask p r)
theorem ZcO (mask:Nat) (p:Probe):∀ r,rs mask p (r+1)=rs mask (lp mask p) r
 | 0=>rfl
 | r+1=>by show lp mask (rs mask p (r+1))=lp mask (rs mask (lp mask p) r); rw [ZcO mask p r]
structure RunS (mask:Nat) (p:Probe):Prop extends Run mask p where
 ji:p.j=p.i
theorem RunS.lp {mask:Nat} {p:Probe} (h:RunS mask p):RunS mask (lp mask p)/\(SetTab.lp mask p).perturb=p.perturb / 32/\(SetTab.lp mask p).i=(p.i*5+1+p.perturb / 32) % (mask+1):=by
 have e:=VT h.toRun
 have r:=Run.nth h.toRun (p.more+1)
 unfold SetTab.lp
 rw [e] at r ⊢
 exact ⟨⟨r,rfl⟩,rfl,rfl⟩
theorem RunS.rs {mask:Nat} {p:Probe} (h:RunS mask p):∀ r,RunS mask (rs mask p r)/\(SetTab.rs mask p r).perturb=p.perturb / 32 ^ r
 | 0=>⟨h,by simp [SetTab.rs]⟩
 | r+1=>by
  obtain ⟨h1,h2⟩:=RunS.rs h r
  obtain ⟨l1,l2,_⟩:=h1.lp
  refine ⟨l1,?_⟩
  show (SetTab.lp mask (SetTab.rs mask p r)).perturb=_
  rw [l2,h2,Nat.div_div_eq_div_mul,Nat.pow_succ]
theorem rs0 {mask:Nat} {p:Probe} (h:RunS mask p) (hp:p.perturb=0):∀ m,(rs mask p m).i=U4 (mask+1) p.i m
 | 0=>rfl
 | m+1=>by
  obtain ⟨h1,h2⟩:=h.rs m
  obtain ⟨_,_,l3⟩:=h1.lp
  show (SetTab.lp mask (SetTab.rs mask p m)).i=_
  rw [l3,rs0 h hp m,h2,hp]
  simp [U4,lcg]
theorem Zfz (mask:Nat) (p:Probe) (a:Nat):∀ b,rs mask p (a+b)=rs mask (rs mask p a) b
 | 0=>rfl
 | b+1=>by show lp mask (rs mask p (a+b))=lp mask (rs mask (rs mask p a) b); rw [Zfz mask p a b]
theorem Zcc {mask:Nat} (F:Zcl mask) {p:Probe} (h:RunS mask p) (hp:p.perturb < 2 ^ 64) {s:Nat} (hs:s<=mask):∃ r,r < turns mask/\(rs mask p r).i=s:=by
 obtain ⟨h1,h2⟩:=h.rs 13
 have z:(rs mask p 13).perturb=0:=by rw [h2]; exact Nat.div_eq_of_lt (Nat.lt_of_lt_of_le hp (by decide))
 obtain ⟨m,m0,m1,em⟩:=F _ h1.il s hs
 exact ⟨13+m,by unfold turns; omega,by rw [Zfz,rs0 h1 z,em]⟩
theorem RunS.st (mask:Nat) (h:Int):RunS mask (st mask h):=⟨Run.st mask h,rfl⟩
theorem Zdy {mask:Nat} {owner:Array (Option Nat)} {L:List Nat} (hL:∀ s,s<=mask->((owner.getD s (some 0)).isNone=true ↔ s ∉ L)) :
  ∀ (r:Nat) {p:Probe} {fuel:Nat},RunS mask p->r < fuel->(rs mask p r).i ∉ L ->
   ∃ m,layClean.free mask owner fuel p.i p.perturb=some (nth mask p m).j/\(nth mask p m).j ∉ L/\∀ m',m' < m->(nth mask p m').j∈L:=by
 intro r
 induction r with
 | zero=>
  intro p fuel h hf hn
  obtain ⟨f,rfl⟩:∃ f,fuel=f+1:=⟨fuel-1,by omega⟩
  have hn':p.i ∉ L:=hn
  unfold layClean.free
  have e:(List.range (runEnd mask p.i+1-p.i)).find? (fun k=>(owner.getD (p.i+k) (some 0)).isNone)=some 0:=by
   rw [List.find?_range_eq_some]
   have:=Yn h.il
   exact ⟨(hL _ (by have:=h.il; omega)).mpr (by simpa using hn'),List.mem_range.mpr (by omega),fun j hj=>by omega⟩
  rw [e]
  refine ⟨0,by show some (p.i+0)=some p.j; rw [h.ji]; rfl,by show p.j ∉ L; rw [h.ji]; exact hn',fun m' hm=>by omega⟩
 | succ r ih=>
  intro p fuel h hf hn
  obtain ⟨f,rfl⟩:∃ f,fuel=f+1:=⟨fuel-1,by omega⟩
  have re:=Yn h.il
  have jm:=h.jm
  have ji:=h.ji
  have inrun:∀ k,k<=p.more->(nth mask p k).j=p.i+k:=fun k hk=>by rw [ZaE k h.toRun hk,<-ji]
  unfold layClean.free
  cases e:(List.range (runEnd mask p.i+1-p.i)).find? (fun k=>(owner.getD (p.i+k) (some 0)).isNone) with
  | some k=>
   rw [List.find?_range_eq_some] at e
   obtain ⟨e1,e2,e3⟩:=e
   have hk:k<=p.more:=by have:=List.mem_range.mp e2; omega
   refine ⟨k,by show some (p.i+k)=_; rw [inrun k hk],?_,fun m' hm=>?_⟩
   ·rw [inrun k hk]; exact (hL _ (by omega)).mp e1
   ·rw [inrun m' (by omega)]
    have:=e3 m' hm
    apply Classical.byContradiction
    intro z
    have:=(hL (p.i+m') (by omega)).mpr z
    simp [this] at e3
    have:=e3 m' hm
    simp_all
  | none=>
   have all:∀ k,k<=p.more->p.i+k∈L:=fun k hk=>by
    rw [List.find?_eq_none] at e
    have:=e k (List.mem_range.mpr (by omega))
    apply Classical.byContradiction
    intro z
    exact this ((hL _ (by omega)).mpr z)
   obtain ⟨l1,l2,l3⟩:=h.lp
   have hl:(leap mask p.i p.perturb)=((lp mask p).i,(lp mask p).perturb):=by rw [l2,l3]; rfl
   obtain ⟨m,em,en,ea⟩:=ih (p:=lp mask p) (fuel:=f) l1 (by omega) (by rw [<-ZcO]; exact hn)
   have sh:∀ q,nth mask p (p.more+1+q)=nth mask (lp mask p) q:=fun q=>Qo mask p (p.more+1) q
   refine ⟨p.more+1+m,?_,by rw [sh]; exact en,fun m' hm=>?_⟩
   ·show (match leap mask p.i p.perturb with | (i,perturb)=>layClean.free mask owner f i perturb)=_
    rw [hl]
    show layClean.free mask owner f (lp mask p).i (lp mask p).perturb=_
    rw [em,sh]
   ·by_cases c:m'<=p.more
    ·rw [inrun m' c]; exact all m' c
    ·obtain ⟨q,rfl⟩:∃ q,m'=p.more+1+q:=⟨m'-(p.more+1),by omega⟩
     rw [sh]; exact ea q (by omega)
structure LC (mask:Nat) (hs:List Int) (owner:Array (Option Nat)) (S:List Nat):Prop where
 osz:owner.size=mask+1
 nd:S.Nodup
 le:∀ s∈S,s<=mask
 at_:∀ i (hi:i < S.length),owner[S[i]]?=some (some i)
 off:∀ s,s<=mask->s ∉ S->owner[s]?=some none
 reach:∀ i (hi:i < S.length) (hi2:i < hs.length),Reach mask S hs[i] S[i]
theorem LC.none_iff {mask:Nat} {hs:List Int} {owner:Array (Option Nat)} {S:List Nat} (I:LC mask hs owner S) (s:Nat) (h:s<=mask):((owner.getD s (some 0)).isNone=true ↔ s ∉ S):=by
 have hb:s < owner.size:=by rw [I.osz]; omega
 have e:owner.getD s (some 0)=owner[s]:=by simp [Array.getD,hb]
 rw [e]
 constructor
 ·intro z hm
  obtain ⟨i,hi,ei⟩:=List.mem_iff_getElem.mp hm
  have:=I.at_ i hi
  rw [ei,Array.getElem?_eq_getElem hb] at this
  have:=Option.some.inj this
  rw [this] at z; simp at z
 ·intro hn
  have:=I.off s h hn
  rw [Array.getElem?_eq_getElem hb] at this
  rw [Option.some.inj this]; rfl
theorem LC.next {mask:Nat} (F:Zcl mask) {hs:List Int} {owner:Array (Option Nat)} {S:List Nat} (I:LC mask hs owner S) (hz:S.length < hs.length) (hr:S.length<=mask) :
  ∃ j,layClean.free mask owner (turns mask) (bits hs[S.length] % (mask+1)) (bits hs[S.length])=some j/\LC mask hs (owner.setIfInBounds j (some S.length)) (S++[j]):=by
 obtain ⟨s,h1,h2⟩:=Vm I.nd hr
 obtain ⟨r,r1,r2⟩:=Zcc F (RunS.st mask hs[S.length]) (ZdY _) h1
 obtain ⟨m,e,n,a⟩:=Zdy (L:=S) (I.none_iff) r (RunS.st mask hs[S.length]) r1 (by rw [r2]; exact h2)
 refine ⟨_,e,?_⟩
 have jl:(nth mask (st mask hs[S.length]) m).j<=mask:=((Run.st mask _).nth m).jle
 refine ⟨by simp [I.osz],?_,?_,?_,?_,?_⟩
 ·rw [List.nodup_append]
  refine ⟨I.nd,by simp,fun x hx y hy=>?_⟩
  rw [List.mem_singleton] at hy; subst hy
  intro z; exact n (z ▸ hx)
 ·intro x hx
  rcases List.mem_append.mp hx with hx | hx
  ·exact I.le x hx
  ·rw [List.mem_singleton] at hx; subst hx; exact jl
 ·intro i hi
  by_cases c:i < S.length
  ·rw [List.getElem_append_left c,Array.getElem?_setIfInBounds_ne]
   ·exact I.at_ i c
   ·intro z; exact n (by rw [z]; exact List.getElem_mem c)
  ·have e:i=S.length:=by simp at hi; omega
   subst e
   rw [List.getElem_append_right (Nat.le_refl _)]
   simp only [Nat.sub_self,List.getElem_cons_zero]
   rw [Array.getElem?_setIfInBounds_self_of_lt (by rw [I.osz]; omega)]
 ·intro s hs hn
  rw [Array.getElem?_setIfInBounds_ne]
  ·exact I.off s hs (fun z=>hn (List.mem_append_left _ z))
  ·intro z; exact hn (by rw [z]; simp)
 ·intro i hi hi2
  by_cases c:i < S.length
  ·rw [List.getElem_append_left c]
   exact (I.reach i c hi2).mono fun x hx=>List.mem_append_left _ hx
  ·have e:i=S.length:=by simp at hi; omega
   subst e
   rw [List.getElem_append_right (Nat.le_refl _)]
   simp only [Nat.sub_self,List.getElem_cons_zero]
   exact ⟨m,rfl,fun m' hm=>List.mem_append_left _ (a m' hm)⟩
theorem ZeN {mask:Nat} (F:Zcl mask) {hs:List Int} (hr:hs.length<=mask):∀ (n:Nat) {owner:Array (Option Nat)} {S:List Nat},S.length+n=hs.length->LC mask hs owner S ->
  ∃ owner' S',(hs.drop S.length).foldl (fun acc h=>do
   let (owner,k) <- acc
   let j <- layClean.free mask owner (turns mask) (bits h % (mask+1)) (bits h)
   pure (owner.setIfInBounds j (some k),k+1)) (some (owner,S.length))=some (owner',S'.length)/\S'.length=hs.length/\LC mask hs owner' S':=by
 intro n
 induction n with
 | zero=>
  intro owner S e I
  rw [List.drop_eq_nil_of_le (by omega)]
  exact ⟨owner,S,rfl,by omega,I⟩
 | succ n ih=>
  intro owner S e I
  have hl:S.length < hs.length:=by omega
  rw [List.drop_eq_getElem_cons hl,List.foldl_cons]
  obtain ⟨j,ej,I'⟩:=I.next F hl (by omega)
  have step:(do
   let (owner,k) <- some (owner,S.length)
   let j <- layClean.free mask owner (turns mask) (bits hs[S.length] % (mask+1)) (bits hs[S.length])
   pure (owner.setIfInBounds j (some k),k+1))=some (owner.setIfInBounds j (some S.length),(S++[j]).length):=by
   show (do
    let j <- layClean.free mask owner (turns mask) (bits hs[S.length] % (mask+1)) (bits hs[S.length])
    pure (owner.setIfInBounds j (some S.length),S.length+1))=_
   rw [ej]; simp
  rw [step]
  have:=ih (S:=S++[j]) (by simp; omega) I'
  have e2:(S++[j]).length=S.length+1:=by simp
  rw [e2] at this ⊢
  exact this
theorem ZaH {mask:Nat} (F:Zcl mask) (hs:Array Int) (hr:hs.size<=mask):∃ owner S,layClean mask hs=some owner/\S.length=hs.size/\LC mask hs.toList owner S:=by
 have I0:LC mask hs.toList (Array.replicate (mask+1) none) []:=⟨by simp,List.nodup_nil,fun s h=>by simp at h,fun i h=>by simp at h,fun s h _=>by simp [Array.getElem?_replicate]; omega,fun i h=>by simp at h⟩
 obtain ⟨owner',S',e,el,I⟩:=ZeN F (hs:=hs.toList) (by simpa using hr) hs.size (S:=[]) (by simp) I0
 refine ⟨owner',S',?_,by simpa using el,I⟩
 unfold layClean
 rw [<-Array.foldl_toList]
 simp only [List.length_nil,List.drop_zero] at e
 rw [e]; rfl
theorem ZgI {α:Type} {mask finger moves:Nat} {led plain:Bool} (F:Zcl mask) (hodd:mask % 2=1) (es:Array (Int×α)) (hr:es.size<=mask) :
  ∃ t order,laid mask finger moves led plain (es.map (·.1))=some (t,order)/\t.mask=mask/\t.led=led/\t.plain=plain/\t.moves=moves/\(order.filterMap (es[·]?)).size=es.size/\TI t (order.filterMap (es[·]?))/\(order.filterMap (es[·]?)).toList.Perm es.toList:=by
 obtain ⟨owner,S,e,el,I⟩:=ZaH F (es.map (·.1)) (by simpa using hr)
 have el':S.length=es.size:=by simpa using el
 let live:=(List.range (mask+1)).filterMap fun j=>(owner.getD j none).map (j,·)
 have hlive:∀ a b,(a,b)∈live ↔ ∃ h:b < S.length,S[b]=a:=by
  intro a b
  show (a,b)∈(List.range (mask+1)).filterMap _ ↔ _
  rw [List.mem_filterMap]
  constructor
  ·rintro ⟨j,hj,ej⟩
   have hj':j<=mask:=by have:=List.mem_range.mp hj; omega
   have hb:j < owner.size:=by rw [I.osz]; omega
   have eg:owner.getD j none=owner[j]:=by simp [Array.getD,hb]
   rw [eg] at ej
   cases q:owner[j] with
   | none=>rw [q] at ej; simp at ej
   | some c=>
    rw [q] at ej
    simp only [Option.map_some,Option.some.injEq,Prod.mk.injEq] at ej
    obtain ⟨rfl,rfl⟩:=ej
    have:j∈S:=Classical.byContradiction fun n=>by
     have:=I.off j hj' n
     rw [Array.getElem?_eq_getElem hb,q] at this; simp at this
    obtain ⟨i,hi,ei⟩:=List.mem_iff_getElem.mp this
    have:=I.at_ i hi
    rw [ei,Array.getElem?_eq_getElem hb,q] at this
    have:c=i:=by simpa using this
    subst this
    exact ⟨hi,ei⟩
  ·rintro ⟨h,rfl⟩
   have hl:=I.le S[b] (List.getElem_mem h)
   refine ⟨S[b],List.mem_range.mpr (by omega),?_⟩
   have hb:S[b] < owner.size:=by rw [I.osz]; omega
   have:=I.at_ b h
   rw [Array.getElem?_eq_getElem hb] at this
   have eg:owner.getD S[b] none=owner[S[b]]:=by simp [Array.getD,hb]
   rw [eg,Option.some.inj this]; rfl
 have sorted:live.Pairwise (fun a b=>a.1 < b.1):=by
  refine List.Pairwise.filterMap _ (fun a a' h b hb b' hb'=>?_) List.pairwise_lt_range
  cases q:owner.getD a none with
  | none=>rw [q] at hb; simp at hb
  | some c=>cases q':owner.getD a' none with
   | none=>rw [q'] at hb'; simp at hb'
   | some c'=>
    rw [q] at hb; rw [q'] at hb'
    simp at hb hb'
    rw [<-hb,<-hb']; exact h
 have ordp:(live.map (·.2)).Perm (List.range es.size):=by
  refine (List.perm_ext_iff_of_nodup ?_ List.nodup_range).mpr fun b=>?_
  ·show (live.map (·.2)).Pairwise (·≠·)
   rw [List.pairwise_map]
   refine List.Pairwise.imp_of_mem (fun {x y} hx hy h z=>?_) sorted
   obtain ⟨h1,e1⟩:=(hlive x.1 x.2).mp hx
   obtain ⟨h2,e2⟩:=(hlive y.1 y.2).mp hy
   have:x.1=y.1:=by rw [<-e1,<-e2]; congr 1
   omega
  ·rw [List.mem_map,List.mem_range]
   constructor
   ·rintro ⟨⟨a,c⟩,hm,rfl⟩
    obtain ⟨h,_⟩:=(hlive a c).mp hm
    simpa [<-el'] using h
   ·intro h
    exact ⟨(S[b]'(by omega),b),(hlive _ _).mpr ⟨by omega,rfl⟩,rfl⟩
 have esl:((live.map (·.2)).toArray.filterMap (es[·]?)).toList=live.filterMap fun q=>es[q.2]?:=by
  rw [Array.toList_filterMap,List.filterMap_map]; rfl
 have mapl:live.filterMap (fun q=>es[q.2]?)=live.pmap (fun q (h:q.2 < es.size)=>es[q.2]) (fun q hq=>by
   obtain ⟨h,_⟩:=(hlive q.1 q.2).mp hq; omega):=by
  have gen:∀ (l:List (Nat×Nat)) (hl:∀ q∈l,q.2 < es.size),l.filterMap (fun q=>es[q.2]?)=l.pmap (fun q (h:q.2 < es.size)=>es[q.2]) hl:=by
   intro l
   induction l with
   | nil=>intro _; rfl
   | cons q l ih=>
    intro hl
    have h0:=hl q List.mem_cons_self
    rw [List.filterMap_cons,Array.getElem?_eq_getElem h0,List.pmap_cons,ih (fun x hx=>hl x (List.mem_cons_of_mem _ hx))]
  exact gen live _
 have sz:((live.map (·.2)).toArray.filterMap (es[·]?)).size=es.size:=by
  rw [<-Array.length_toList,esl,mapl,List.length_pmap]
  have:=ordp.length_eq
  simpa using this
 refine ⟨{ mask,place:=(live.map (·.1)).toArray,dummies:=#[],finger,led,moves,plain },(live.map (·.2)).toArray,?_,rfl,rfl,rfl,rfl,sz,?_,?_⟩
 ·unfold laid
  rw [e]; rfl
 ·have ll:live.length=es.size:=by have:=ordp.length_eq; simpa using this
  refine ⟨by rw [sz]; simpa using ll,rfl,?_,?_,F,by rw [sz]; exact hr,hodd,?_⟩
  ·show Ris (live.map (·.1))
   exact List.pairwise_map.mpr sorted
  ·intro s hs
   obtain ⟨⟨a,b⟩,hm,rfl⟩:=List.mem_map.mp (show s∈live.map (·.1) from hs)
   obtain ⟨h,e2⟩:=(hlive a b).mp hm
   exact e2 ▸ I.le _ (List.getElem_mem h)
  ·intro i h1 h2
   have hi:i < live.length:=by simpa using h1
   have g1:(live.map (·.1)).toArray[i]'(by simpa using hi)=live[i].1:=by simp
   obtain ⟨hb,eb⟩:=(hlive live[i].1 live[i].2).mp (List.getElem_mem hi)
   have g2:((live.map (·.2)).toArray.filterMap (es[·]?))[i]=es[live[i].2]'(by omega):=by
    rw [<-Array.getElem_toList]
    have:((live.map (·.2)).toArray.filterMap (es[·]?)).toList=live.pmap (fun q (h:q.2 < es.size)=>es[q.2]) (fun q hq=>by
     obtain ⟨h,_⟩:=(hlive q.1 q.2).mp hq; omega):=esl.trans mapl
    simp only [this,List.getElem_pmap]
   show Reach mask (live.map (·.1)) _ _
   rw [g2,g1]
   have r:=I.reach live[i].2 hb (by simp; omega)
   have e3:(es.map (·.1)).toList[live[i].2]'(by simp; omega)=(es[live[i].2]'(by omega)).1:=by simp
   rw [e3,eb] at r
   refine r.mono fun x hx=>?_
   obtain ⟨k,hk,ek⟩:=List.mem_iff_getElem.mp hx
   exact List.mem_map.mpr ⟨(x,k),(hlive x k).mpr ⟨hk,ek⟩,rfl⟩
 ·rw [Array.toList_filterMap]
  refine (ordp.filterMap _).trans ?_
  have:(List.range es.size).filterMap (es[·]?)=es.toList:=by
   apply List.ext_getElem?
   intro i
   have gen:∀ (m:Nat),m<=es.size->(List.range m).filterMap (es[·]?)=es.toList.take m:=by
    intro m
    induction m with
    | zero=>intro _; simp
    | succ m ih=>
     intro h
     rw [List.range_succ,List.filterMap_append,ih (by omega),List.take_succ]
     congr 1
     simp [Array.getElem?_eq_getElem (show m < es.size by omega)]
   rw [gen es.size (Nat.le_refl _)]
   simp [List.take_of_length_le]
  rw [this]
end SetTab
namespace L3
open PySem PySem.Spec PyProof.Rows L2 SetTab PySem.SetTable
section
variable {prog:Program} {w:World} {A:Around} {E:Value->Shared->Prop} {s:Shared}
noncomputable abbrev TK (prog:Program) (w:World) (h:Heap) (ks:List Int) (a:Addr):Prop:=IsTupleKey (intKind prog w) h ks a
noncomputable abbrev kh (prog:Program) (w:World) (ks:List Int):Int:=tupleKeyHash (intKind prog w) ks
theorem Vk {ks:List Int} {vs:List Value} (h:ItemsAre (intKind prog w) ks vs):∀ v∈vs,∃ i t,v=.int i t:=by
 induction h with
 | nil=>intro v hv; cases hv
 | @cons k v ks vs h1 _ ih=>
  intro u hu
  rcases List.mem_cons.mp hu with rfl | hu
  ·obtain ⟨t,e⟩:=Value.isInt_shape (k:=k) (v:=u) h1
   exact ⟨k,t,e⟩
  ·exact ih u hu
theorem U9 {ks:List Int} {a:Addr} {Q:Bool->Shared->Prop} (hk:TK prog w s.heap ks a) (h:Q false s):wpAny (model prog w) A (ofAClassStatement 8 (.ref a)) Q E s:=by
 have hT:=hk.typeIs
 obtain ⟨o,items,n,ho,_,hd,hi⟩:=hk
 unfold ofAClassStatement
 refine wpAny_bind (wpAny_typeOf hT ?_)
 show wpAny _ _ (do let u <- (if ("tuple"=="tuple")=true then pure true else isSubtype (.type "tuple") (.type "tuple")); _) _ _ s
 refine wpAny_bind ?_
 rw [if_pos (by decide)]
 refine wpAny_pure ?_
 simp only [Bool.not_true,Bool.false_eq_true,if_false]
 refine wpAny_bind (wpAny_seqItems ho hd ?_)
 show wpAny _ _ (forIn items _ _ >>= _) _ _ s
 refine wpAny_bind ?_
 rw [<-Array.forIn_toList]
 refine wpAny_forIn_list _ (fun rest r s'=>r.1=none/\s'=s/\∀ v∈rest,∃ i t,v=Value.int i t) _ ?_ ?_ _ _ ⟨rfl,rfl,Vk hi⟩
 ·rintro v rest r s' ⟨hr,rfl,hall⟩
  obtain ⟨i,t,rfl⟩:=hall v List.mem_cons_self
  show wpAny _ _ (pure false >>= _) _ _ _
  refine wpAny_bind (wpAny_pure ?_)
  simp only [Bool.false_eq_true,if_false]
  exact wpAny_pure ⟨rfl,rfl,fun u hu=>hall u (List.mem_cons_of_mem _ hu)⟩
 ·rintro ⟨r1,r2⟩ s' ⟨hr,rfl,_⟩
  simp only at hr
  subst hr
  exact wpAny_pure h
theorem Zcv {ks:List Int} {a:Addr} {Q:Bool->Shared->Prop} (hk:TK prog w s.heap ks a) (h:Q true s):wpAny (model prog w) A (hashByValue 8 (.ref a)) Q E s:=by
 have hT:=hk.typeIs
 obtain ⟨o,items,n,ho,_,hd,hi⟩:=hk
 unfold hashByValue
 refine wpAny_bind (wpAny_specialOf hT F.slot_tuple_hash.lookup ?_)
 show wpAny _ _ (seqItems? (.ref a) >>= _) _ _ s
 refine wpAny_bind (wpAny_seqItems ho hd ?_)
 show wpAny _ _ (forIn items _ _ >>= _) _ _ s
 refine wpAny_bind ?_
 rw [<-Array.forIn_toList]
 refine wpAny_forIn_list _ (fun rest r s'=>r.1=none/\s'=s/\∀ v∈rest,∃ i t,v=Value.int i t) _ ?_ ?_ _ _ ⟨rfl,rfl,Vk hi⟩
 ·rintro v rest r s' ⟨hr,rfl,hall⟩
  obtain ⟨i,t,rfl⟩:=hall v List.mem_cons_self
  show wpAny _ _ (pure true >>= _) _ _ _
  refine wpAny_bind (wpAny_pure ?_)
  simp only [Bool.not_true,Bool.false_eq_true,if_false]
  exact wpAny_pure ⟨rfl,rfl,fun u hu=>hall u (List.mem_cons_of_mem _ hu)⟩
 ·rintro ⟨r1,r2⟩ s' ⟨hr,rfl,_⟩
  simp only at hr
  subst hr
  exact wpAny_pure h
theorem Zf9 {ks:List Int} {a:Addr} {ys:List Value} {Q:Bool->Shared->Prop} (hk:TK prog w s.heap ks a) (hys:∀ y∈ys,∃ ks' b,y=.ref b/\TK prog w s.heap ks' b) (h:Q false s):wpAny (model prog w) A (searchCouldBeSeen (.ref a) ys) Q E s:=by
 unfold searchCouldBeSeen
 refine wpAny_bind ?_
 refine wpAny_forIn_list _ (fun rest r s'=>r.1=none/\s'=s/\∀ y∈rest,∃ ks' b,y=Value.ref b/\TK prog w s.heap ks' b) _ ?_ ?_ _ _ ⟨rfl,rfl,hys⟩
 ·rintro v rest r s' ⟨hr,rfl,hall⟩
  obtain ⟨ks',b,rfl,hb⟩:=hall v List.mem_cons_self
  have hall':=fun u hu=>hall u (List.mem_cons_of_mem _ hu)
  show wpAny _ _ (if ((a==b)||(carriedByValue (.ref a)&&carriedByValue (.ref b)))=true then _ else _) _ _ _
  by_cases c:((a==b)||(carriedByValue (.ref a)&&carriedByValue (.ref b)))=true
  ·rw [if_pos c]
   exact wpAny_pure ⟨rfl,rfl,hall'⟩
  ·rw [if_neg c]
   refine wpAny_bind (wpAny_eqIsQuiet_tuple hk ?_)
   simp only [Bool.not_true,Bool.false_eq_true,if_false]
   refine wpAny_bind (wpAny_eqIsQuiet_tuple hb ?_)
   simp only [Bool.not_true,Bool.false_eq_true,if_false]
   refine wpAny_bind (U9 hk ?_)
   simp only [Bool.false_eq_true,if_false]
   refine wpAny_bind (U9 hb ?_)
   simp only [Bool.false_eq_true,if_false]
   exact wpAny_pure ⟨rfl,rfl,hall'⟩
 ·rintro ⟨r1,r2⟩ s' ⟨hr,rfl,_⟩
  simp only at hr
  subst hr
  exact wpAny_pure h
end
structure TSet (prog:Program) (w:World) (h:Heap) (a:Addr) (o:Obj) (es:Array (Int×Value)) (ep:Nat) (t:SetTable) (keys:List (List Int)):Prop where
 ho:h.get? a=some o
 hd:o.data=.set es ep t
 ti:TI t es
 size:keys.length=es.size
 key:∀ (i:Nat) k,keys[i]?=some k->∃ b,es[i]?=some (kh prog w k,.ref b)/\TK prog w h k b
section
variable {prog:Program} {w:World} {A:Around} {E:Value->Shared->Prop} {s:Shared} {a:Addr} {o:Obj} {es:Array (Int×Value)} {ep:Nat} {t:SetTable} {keys:List (List Int)}
theorem TSet.fits (T:TSet prog w s.heap a o es ep t keys):t.fits es.size=true:=by
 have h1:=T.ti.size; have h2:=T.ti.dm; have h3:=T.ti.room
 simp [SetTable.fits,SetTable.fill,h1,h2,h3]
theorem TSet.get (T:TSet prog w s.heap a o es ep t keys) {i:Nat} (hi:i < es.size):∃ k b,keys[i]?=some k/\es[i]?=some (kh prog w k,.ref b)/\TK prog w s.heap k b:=by
 have hi':i < keys.length:=by rw [T.size]; exact hi
 obtain ⟨b,h1,h2⟩:=T.key i keys[i] (by simp [hi'])
 exact ⟨_,b,by simp [hi'],h1,h2⟩
theorem Zcu (T:TSet prog w s.heap a o es ep t keys) {k:List Int} {b:Addr} (hu:A.units < cLine) (hk:TK prog w s.heap k b) {m:Nat} (hm:m < 10*turns t.mask)
  (hf:(nth t.mask (st t.mask (kh prog w k)) m).j ∉ t.place.toList) (ha:∀ m',m' < m->(nth t.mask (st t.mask (kh prog w k)) m').j∈t.place.toList) {Q:SetFound->Shared->Prop}
  (q1:k∈keys->Q (.there none) s) (q2:k ∉ keys->Q (.free (nth t.mask (st t.mask (kh prog w k)) m).j false) s) :
  ∀ (d m0 fuel:Nat) (stand:Option Probe),m0+d=m->d < fuel->stand.getD (t.probeStart (kh prog w k))=nth t.mask (st t.mask (kh prog w k)) m0 ->
   (∀ m',m' < m0->∀ i (hi:i < t.place.size),t.place[i]=(nth t.mask (st t.mask (kh prog w k)) m').j->keys[i]?≠some k) ->
   wpAny (model prog w) A (setSearchFrom a (.ref b) (kh prog w k) true fuel stand) Q E s:=by
 have I:=T.ti
 intro d
 induction d using Nat.strongRecOn with
 | ind d ih=>
  intro m0 fuel stand hd hfu hst hno
  cases fuel with
  | zero=>omega
  | succ fuel=>
   unfold setSearchFrom
   refine wpAny_bind (wpAny_setState_of T.ho T.hd T.fits ?_)
   dsimp only
   have hg:t.gaveWay=false:=by simp [SetTable.gaveWay,I.odd]
   rw [if_neg (by rw [hg]; decide),hst]
   have run:=(Run.st t.mask (kh prog w k)).nth m0
   have hadd:∀ x,nth t.mask (nth t.mask (st t.mask (kh prog w k)) m0) x=nth t.mask (st t.mask (kh prog w k)) (m0+x):=fun x=>(Qo t.mask _ m0 x).symm
   have pg:=ZeA I (fun i=>(es[i]?.map (·.1)).getD 0) (kh prog w k) d (fuel:=10*turns t.mask) run (by omega) (by rw [hadd,hd]; exact hf) (fun m' hm'=>by rw [hadd]; exact ha _ (by omega))
   rcases pg with ⟨e,hn⟩ | ⟨m1,i,hm1,hi,epl,ehash,e,hn⟩
   ·have e':t.probe (fun i=>(es[i]?.map (·.1)).getD 0) (kh prog w k) (nth t.mask (st t.mask (kh prog w k)) m0)=some (.empty (nth t.mask (st t.mask (kh prog w k)) m).j none):=by
     rw [hadd,hd] at e; exact e
    generalize hp:t.probe _ (kh prog w k) (nth t.mask (st t.mask (kh prog w k)) m0)=r
    have hr:=hp.symm.trans e'
    subst hr
    dsimp only
    refine wpAny_pure (q2 fun hmem=>?_)
    obtain ⟨i,hi,ei⟩:=List.mem_iff_getElem.mp hmem
    have hie:i < es.size:=by rw [<-T.size]; exact hi
    have hip:i < t.place.size:=by rw [I.size]; exact hie
    obtain ⟨b',h1,h2⟩:=T.key i k (by rw [<-ei]; simp [hi])
    have h1':es[i]=(kh prog w k,.ref b'):=by
     have:=Array.getElem?_eq_getElem hie
     rw [h1] at this; exact (Option.some.inj this).symm
    obtain ⟨k0,r1,r2⟩:=I.reach i hip hie
    rw [h1'] at r1 r2
    have hk0:k0 < m:=by
     rcases Nat.lt_trichotomy k0 m with z | z | z
     ·exact z
     ·subst z; exact absurd (by rw [r1]; simp) hf
     ·exact absurd (r2 m z) hf
    by_cases c:k0 < m0
    ·exact hno k0 c i hip r1.symm (by rw [<-ei]; simp [hi])
    ·refine hn (k0-m0) (by omega) i hip ?_ ?_
     ·rw [hadd,show m0+(k0-m0)=k0 by omega]; exact r1.symm
     ·simp [h1]
   ·have e':t.probe (fun i=>(es[i]?.map (·.1)).getD 0) (kh prog w k) (nth t.mask (st t.mask (kh prog w k)) m0)=some (.candidate (nth t.mask (st t.mask (kh prog w k)) (m0+m1)).j i (nth t.mask (st t.mask (kh prog w k)) (m0+m1+1))):=by
     rw [hadd,hadd,<-Nat.add_assoc] at e; exact e
    generalize hp:t.probe _ (kh prog w k) (nth t.mask (st t.mask (kh prog w k)) m0)=r
    have hr:=hp.symm.trans e'
    subst hr
    dsimp only
    have hie:i < es.size:=by rw [<-I.size]; exact hi
    obtain ⟨k',c,g1,g2,g3⟩:=T.get hie
    have seen:t.led=false->∀ y∈((es.filter (·.1==kh prog w k)).toList.map (·.2)),∃ ks' b,y=Value.ref b/\TK prog w s.heap ks' b:=fun _ y hy=>by
     obtain ⟨p,hp,rfl⟩:=List.mem_map.mp hy
     have hp':p∈es:=by simp at hp; exact hp.1
     obtain ⟨j,hj,ej⟩:=Array.mem_iff_getElem.mp hp'
     obtain ⟨k2,c2,g1',g2',g3'⟩:=T.get hj
     have:p=(kh prog w k2,.ref c2):=by
      rw [<-ej]
      have:=Array.getElem?_eq_getElem hj
      rw [g2'] at this; exact (Option.some.inj this).symm
     subst this
     exact ⟨k2,c2,rfl,g3'⟩
    cases hl:t.led
    case false=>
     simp only [Bool.not_false,if_true]
     refine wpAny_bind (Zf9 hk (seen hl) ?_)
     simp only [Bool.false_eq_true,if_false]
     rw [g2]
     dsimp only
     refine wpAny_bind (wpAny_holding (wpAny_eqBool_tuple hu g3 hk ?_))
     refine wpAny_bind (wpAny_setState_of T.ho T.hd T.fits ?_)
     dsimp only
     by_cases ek:k'=k
     ·subst ek
      rw [decide_eq_true rfl,if_pos (by decide)]
      exact wpAny_pure (q1 (List.mem_of_getElem? g1))
     ·rw [decide_eq_false ek,if_neg (by decide)]
      have sm:t.sameMemory t.moves t.mask=some true:=by simp [SetTable.sameMemory]
      rw [sm]
      dsimp only
      have sl:t.slot (nth t.mask (st t.mask (kh prog w k)) (m0+m1)).j=.live i:=by
       have:=YA I.ris hi
       rw [epl,hadd] at this
       exact this
      rw [if_pos rfl,sl]
      dsimp only
      rw [g2]
      dsimp only
      refine wpAny_bind (wpAny_isSame_ref_self (wpAny_bind (wpAny_pure ?_)))
      rw [if_pos rfl]
      dsimp only
      rw [if_neg (by decide)]
      refine ih (d-m1-1) (by omega) (m0+m1+1) fuel _ (by omega) (by omega) rfl fun m' hm' i' hi' ep'=>?_
      by_cases c1:m' < m0
      ·exact hno m' c1 i' hi' ep'
      ·by_cases c2:m'=m0+m1
       ·subst c2
        have:i'=i:=by
         have e1:t.place[i']=t.place[i]:=by rw [ep',epl,hadd]
         have l1:=YA I.ris hi'
         have l2:=YA I.ris hi
         rw [e1,l2] at l1
         injection l1 with l1; exact l1.symm
        subst this
        rw [g1]
        exact fun z=>ek (Option.some.inj z)
       ·intro z
        have hie':i' < es.size:=by rw [<-I.size]; exact hi'
        obtain ⟨b',z1,z2⟩:=T.key i' k z
        refine hn (m'-m0) (by omega) i' hi' ?_ ?_
        ·rw [hadd,show m0+(m'-m0)=m' by omega]; exact ep'
        ·simp [z1]
    case true=>
     simp only [Bool.not_true,Bool.false_eq_true,if_false]
     rw [g2]
     dsimp only
     refine wpAny_bind (wpAny_holding (wpAny_eqBool_tuple hu g3 hk ?_))
     refine wpAny_bind (wpAny_setState_of T.ho T.hd T.fits ?_)
     dsimp only
     by_cases ek:k'=k
     ·subst ek
      rw [decide_eq_true rfl,if_pos (by decide)]
      exact wpAny_pure (q1 (List.mem_of_getElem? g1))
     ·rw [decide_eq_false ek,if_neg (by decide)]
      have sm:t.sameMemory t.moves t.mask=some true:=by simp [SetTable.sameMemory]
      rw [sm]
      dsimp only
      have sl:t.slot (nth t.mask (st t.mask (kh prog w k)) (m0+m1)).j=.live i:=by
       have:=YA I.ris hi
       rw [epl,hadd] at this
       exact this
      rw [if_pos rfl,sl]
      dsimp only
      rw [g2]
      dsimp only
      refine wpAny_bind (wpAny_isSame_ref_self (wpAny_bind (wpAny_pure ?_)))
      rw [if_pos rfl]
      dsimp only
      rw [if_neg (by decide)]
      refine ih (d-m1-1) (by omega) (m0+m1+1) fuel _ (by omega) (by omega) rfl fun m' hm' i' hi' ep'=>?_
      by_cases c1:m' < m0
      ·exact hno m' c1 i' hi' ep'
      ·by_cases c2:m'=m0+m1
       ·subst c2
        have:i'=i:=by
         have e1:t.place[i']=t.place[i]:=by rw [ep',epl,hadd]
         have l1:=YA I.ris hi'
         have l2:=YA I.ris hi
         rw [e1,l2] at l1
         injection l1 with l1; exact l1.symm
        subst this
        rw [g1]
        exact fun z=>ek (Option.some.inj z)
       ·intro z
        have hie':i' < es.size:=by rw [<-I.size]; exact hi'
        obtain ⟨b',z1,z2⟩:=T.key i' k z
        refine hn (m'-m0) (by omega) i' hi' ?_ ?_
        ·rw [hadd,show m0+(m'-m0)=m' by omega]; exact ep'
        ·simp [z1]
end
noncomputable def Al (prog:Program) (w:World) (h:Heap):List (List Int)->List (Int×Value)->Prop
 | [],l=>l=[]
 | k::ks,l=>∃ b r,l=(kh prog w k,.ref b)::r/\TK prog w h k b/\Al prog w h ks r
section
variable {prog:Program} {w:World} {h h':Heap}
theorem Al.length:∀ {ks:List (List Int)} {l:List (Int×Value)},Al prog w h ks l->ks.length=l.length
 | [],l,a=>by unfold Al at a; subst a; rfl
 | k::ks,l,a=>by unfold Al at a; obtain ⟨b,r,rfl,_,a⟩:=a; simp [a.length]
theorem Al.get:∀ {ks:List (List Int)} {l:List (Int×Value)} {i:Nat} {k:List Int},Al prog w h ks l->ks[i]?=some k->∃ b,l[i]?=some (kh prog w k,.ref b)/\TK prog w h k b
 | [],l,i,k,a,e=>by simp at e
 | k0::ks,l,i,k,a,e=>by
  unfold Al at a
  obtain ⟨b,r,rfl,t,a⟩:=a
  cases i with
  | zero=>simp at e; subst e; exact ⟨b,rfl,t⟩
  | succ i=>obtain ⟨b',e1,e2⟩:=Al.get (i:=i) a (by simpa using e); exact ⟨b',by simpa using e1,e2⟩
theorem Al.keep (kp:∀ k b,TK prog w h k b->TK prog w h' k b):∀ {ks:List (List Int)} {l:List (Int×Value)},Al prog w h ks l->Al prog w h' ks l
 | [],l,a=>a
 | k::ks,l,a=>by
  unfold Al at a ⊢
  obtain ⟨b,r,e,t,a⟩:=a
  exact ⟨b,r,e,kp _ _ t,a.keep kp⟩
theorem Al.append:∀ {ks ks':List (List Int)} {l l':List (Int×Value)},Al prog w h ks l->Al prog w h ks' l'->Al prog w h (ks++ks') (l++l')
 | [],ks',l,l',a,a'=>by unfold Al at a; subst a; exact a'
 | k::ks,ks',l,l',a,a'=>by
  unfold Al at a
  obtain ⟨b,r,rfl,t,a⟩:=a
  show Al prog w h (k::(ks++ks')) _
  unfold Al
  exact ⟨b,r++l',rfl,t,a.append a'⟩
theorem Al.take:∀ {ks:List (List Int)} {l:List (Int×Value)} (n:Nat),Al prog w h ks l->Al prog w h (ks.take n) (l.take n)
 | _,_,0,_=>by simp [Al]
 | [],l,n+1,a=>by unfold Al at a; subst a; simp [Al]
 | k::ks,l,n+1,a=>by
  unfold Al at a
  obtain ⟨b,r,rfl,t,a⟩:=a
  simp only [List.take_succ_cons]
  unfold Al
  exact ⟨b,_,rfl,t,a.take n⟩
theorem Al.drop:∀ {ks:List (List Int)} {l:List (Int×Value)} (n:Nat),Al prog w h ks l->Al prog w h (ks.drop n) (l.drop n)
 | _,_,0,a=>a
 | [],l,n+1,a=>by unfold Al at a; subst a; simp [Al]
 | k::ks,l,n+1,a=>by
  unfold Al at a
  obtain ⟨b,r,rfl,t,a⟩:=a
  exact a.drop n
theorem Al.one {k:List Int} {b:Addr} (t:TK prog w h k b):Al prog w h [k] [(kh prog w k,.ref b)]:=by unfold Al; exact ⟨b,[],rfl,t,by simp [Al]⟩
theorem Al.perm {l l':List (Int×Value)} (p:l'.Perm l):∀ {ks:List (List Int)},Al prog w h ks l->∃ ks',Al prog w h ks' l'/\ks'.Perm ks:=by
 have gen:∀ {l l':List (Int×Value)},l.Perm l'->∀ {ks:List (List Int)},Al prog w h ks l->∃ ks',Al prog w h ks' l'/\ks'.Perm ks:=by
  intro l l' p
  induction p with
  | nil=>intro ks a; exact ⟨ks,a,.refl _⟩
  | cons x p ih=>
   intro ks a
   cases ks with
   | nil=>unfold Al at a; cases a
   | cons k ks=>
    unfold Al at a
    obtain ⟨b,r,e,t,a⟩:=a
    injection e with e1 e2
    subst e1 e2
    obtain ⟨ks',a',p'⟩:=ih a
    exact ⟨k::ks',by unfold Al; exact ⟨b,_,rfl,t,a'⟩,p'.cons k⟩
  | swap x y l=>
   intro ks a
   cases ks with
   | nil=>unfold Al at a; cases a
   | cons k ks=>
    unfold Al at a
    obtain ⟨b,r,e,t,a⟩:=a
    injection e with e1 e2
    subst e1 e2
    cases ks with
    | nil=>unfold Al at a; cases a
    | cons k2 ks=>
     unfold Al at a
     obtain ⟨b2,r2,e,t2,a⟩:=a
     injection e with e1 e2
     subst e1 e2
     refine ⟨k2::k::ks,?_,.swap _ _ _⟩
     unfold Al
     refine ⟨b2,_,rfl,t2,?_⟩
     unfold Al
     exact ⟨b,_,rfl,t,a⟩
  | trans p1 p2 ih1 ih2=>
   intro ks a
   obtain ⟨ks1,a1,q1⟩:=ih1 a
   obtain ⟨ks2,a2,q2⟩:=ih2 a1
   exact ⟨ks2,a2,q2.trans q1⟩
 exact fun {ks} a=>gen p.symm a
end
noncomputable def SetI (G:Addr->Prop) (prog:Program) (w:World) (h:Heap) (a:Addr) (keys:List (List Int)):Prop:=∃ o es ep t,h.get? a=some o/\o.ExactSet/\o.data=.set es ep t/\TI t es/\Al prog w h keys es.toList/\keys.Nodup /\
 (t.mask=7\/t.mask=31\/t.mask=127)/\es.size*5 < t.mask*3/\t.plain=true/\t.led=(!w.params.followText "set-order")/\∀ p∈es.toList,∃ b,p.2=Value.ref b/\G b
theorem Zdx {m:Nat} (h:m=7\/m=31\/m=127):Zcl m:=by
 rcases h with rfl | rfl | rfl
 ·exact Ziq
 ·exact Zir
 ·exact ZgR
theorem TK.keep {prog:Program} {w:World} {h h':Heap} {a:Addr} {o:Obj} {es ep t} (ho:h.get? a=some o) (hd:o.data=.set es ep t) (sb:Heap.SameBut a h h') {k:List Int} {b:Addr} (hk:TK prog w h k b):TK prog w h' k b:=by
 obtain ⟨ob,items,n,hb,hc,hdb,hi⟩:=hk
 have ne:b≠a:=by
  rintro rfl
  rw [ho] at hb; cases hb
  rw [hd] at hdb; cases hdb
 exact ⟨ob,items,n,(sb.2 b ne).trans hb,hc,hdb,hi⟩
noncomputable def ZhD (es:Array (Int×Value)) (l:Option (SetTable×Array Nat)):Sem (Array (Int×Value)×SetTable):=do
 let some (t,order):=l | unsupported "internal:set-table-without-room"
 let out:=order.filterMap (es[·]?)
 if out.size != es.size then unsupported "internal:set-table-lost-an-element"
 pure (out,t)
section
variable {prog:Program} {w:World} {A:Around} {E:Value->Shared->Prop} {s:Shared} {a:Addr} {keys:List (List Int)}
theorem Wq {h:Heap} {o:Obj} {es es':Array (Int×Value)} {ep:Nat} {t t':SetTable} (ho:h.get? a=some o) (hd:o.data=.set es ep t):(h.update a (Obj.putSet es' t')).get? a=some { o with data:=.set es' (ep+1) t' }:=by
 have:=Heap.get?_update_self (Obj.putSet es' t') ho (by rw [putSet_of es' t' hd]; rfl)
 rw [putSet_of es' t' hd] at this; exact this
theorem Zct {G:Addr->Prop} (S:SetI G prog w s.heap a keys) {k:List Int} {b:Addr} (hG:G b) (hu:A.units < cLine) (hk:TK prog w s.heap k b) (hz:keys.length < 70) {Q:Bool->Shared->Prop}
  (q:∀ r h' tk keys',Heap.SameBut a s.heap h'->SetI G prog w h' a keys'->(∀ x,x∈keys' ↔ x∈keys\/x=k)->keys'.length<=keys.length+1->Q r { s with heap:=h',toks:=tk }):wpAny (model prog w) A (setAdd a (.ref b)) Q E s:=by
 unfold setAdd
 refine wpAny_holding (wpAny_bind (wpAny_pyHash_tuple hu hk ?_))
 generalize s.toks+(k.length+1)=tk0
 obtain ⟨o,es,ep,t,ho,hc,hd,I,al,nd,hm,hf,hpl0,hld0,hgs⟩:=id S
 have hal:keys.length=es.size:=al.length
 have T:TSet prog w ({ s with toks:=tk0 }:Shared).heap a o es ep t keys:=⟨ho,hd,I,hal,fun i k' e=>by
  obtain ⟨b',e1,e2⟩:=al.get e
  exact ⟨b',by rw [Array.getElem?_toList] at e1; exact e1,e2⟩⟩
 unfold setAddHashed setAddHashedIn
 refine wpAny_holding (wpAny_bind (wpAny_setState_of T.ho T.hd T.fits ?_))
 dsimp only
 have bs:byScan (.ref b) es=false:=by simp [byScan,Value.scannable]
 rw [bs,if_neg (by decide)]
 obtain ⟨m,m1,m2,m3⟩:=Zb5 I.full I.ris.nodup (by have:=I.size; have:=I.room; simp; omega) (Run.st t.mask (kh prog w k)) (ZdY _)
 have hmask:t.mask<=127:=by rcases hm with h | h | h <;> omega
 refine wpAny_bind ?_
 unfold setSearch
 refine Zcu T hu hk m1 m2 m3 (fun hin=>?_) (fun hout=>?_) m 0 100000 none (by omega) (by unfold turns at m1; omega) rfl (fun m' hm'=>absurd hm' (Nat.not_lt_zero _))
 ·dsimp only
  exact wpAny_pure (q false s.heap tk0 keys (Heap.SameBut.refl a s.heap) S (fun x=>⟨.inl,fun z=>z.elim id fun e=>e ▸ hin⟩) (by omega))
 ·dsimp only
  refine wpAny_bind (wpAny_setState_of T.ho T.hd T.fits ?_)
  dsimp only
  have hroom:es.size+1<=t.mask:=by rcases hm with h | h | h <;> omega
  have P:=I.put (x:=Value.ref b) m2 m3 hroom
  have hpm:(t.put (nth t.mask (st t.mask (kh prog w k)) m).j).1.mask=t.mask:=rfl
  have hpp:(t.put (nth t.mask (st t.mask (kh prog w k)) m).j).1.plain=t.plain:=rfl
  have hpq:(t.put (nth t.mask (st t.mask (kh prog w k)) m).j).1.led=t.led:=rfl
  generalize t.put (nth t.mask (st t.mask (kh prog w k)) m).j=tp at P hpm hpp hpq
  obtain ⟨t1,p⟩:=tp
  dsimp only at P hpm hpp hpq ⊢
  rw [hpl0] at hpp
  rw [hld0] at hpq
  have hgi:∀ q∈(SetTable.insertAt es p (kh prog w k,Value.ref b)).toList,∃ b,q.2=Value.ref b/\G b:=fun q hq=>by
   rw [SetTab.toList_insertAt] at hq
   rcases List.mem_append.mp hq with z | z
   ·exact hgs q (List.mem_of_mem_take z)
   ·rcases List.mem_cons.mp z with y | y
    ·exact ⟨b,by rw [y],hG⟩
    ·exact hgs q (List.mem_of_mem_drop y)
  have cont:wpAny (model prog w) A (do
    storeSet a (SetTable.insertAt es p (kh prog w k,.ref b)) t1
    if (!false&&t1.tooFull)=true then do
     setRelay a (SetTable.grown (es.size+1))
     pure true
    else pure true) Q E ({ s with toks:=tk0 }:Shared):=by
   have hsz:(SetTable.insertAt es p (kh prog w k,Value.ref b)).size=es.size+1:=YB _ _ _
   have hsl:(sizeLine:Nat)=16777216:=sizeLine_eq
   refine wpAny_bind (wpAny_storeSet_of T.ho T.hd ?_ (by rw [hsz]; omega))
   have sb1:Heap.SameBut a s.heap (s.heap.update a (Obj.putSet (SetTable.insertAt es p (kh prog w k,.ref b)) t1)):=Heap.SameBut.update s.heap a _
   have g1:(s.heap.update a (Obj.putSet (SetTable.insertAt es p (kh prog w k,.ref b)) t1)).get? a=some { o with data:=.set (SetTable.insertAt es p (kh prog w k,.ref b)) (ep+1) t1 }:=Wq ho hd
   have kp1:∀ k b,TK prog w s.heap k b->TK prog w (s.heap.update a (Obj.putSet (SetTable.insertAt es p (kh prog w k,.ref b)) t1)) k b:=fun k' b' hk'=>by
    obtain ⟨ob,items,n,hb,hcb,hdb,hi⟩:=hk'
    have ne:b'≠a:=by
     rintro rfl
     rw [ho] at hb; cases hb
     rw [hd] at hdb; cases hdb
    exact ⟨ob,items,n,((Heap.SameBut.update s.heap a _).2 b' ne).trans hb,hcb,hdb,hi⟩
   have kp:∀ k' b',TK prog w s.heap k' b'->TK prog w (s.heap.update a (Obj.putSet (SetTable.insertAt es p (kh prog w k,.ref b)) t1)) k' b':=fun k' b' hk'=>TK.keep ho hd sb1 hk'
   have al1:Al prog w (s.heap.update a (Obj.putSet (SetTable.insertAt es p (kh prog w k,.ref b)) t1)) (keys.take p++k::keys.drop p) (SetTable.insertAt es p (kh prog w k,Value.ref b)).toList:=by
    rw [SetTab.toList_insertAt]
    exact ((al.take p).append ((Al.one hk).append (al.drop p))).keep kp
   have pm:(keys.take p++k::keys.drop p).Perm (k::keys):=by
    have:=(List.perm_middle (a:=k) (l₁:=keys.take p) (l₂:=keys.drop p))
    rw [List.take_append_drop] at this
    exact this
   have nd1:(keys.take p++k::keys.drop p).Nodup:=pm.nodup_iff.mpr (List.nodup_cons.mpr ⟨hout,nd⟩)
   have mem1:∀ x,x∈keys.take p++k::keys.drop p ↔ x∈keys\/x=k:=fun x=>by rw [pm.mem_iff,List.mem_cons]; exact or_comm
   have len1:(keys.take p++k::keys.drop p).length<=keys.length+1:=by rw [pm.length_eq]; simp
   have hm1:t1.mask=7\/t1.mask=31\/t1.mask=127:=by rw [hpm]; exact hm
   have hfill:t1.fill=es.size+1:=by
    have h1:=P.size; have h2:=P.dm
    simp [SetTable.fill,h2,h1,hsz]
   by_cases tf:t1.tooFull=true
   ·rw [tf,if_pos (by decide)]
    have tf':(es.size+1)*5>=t.mask*3:=by
     simp only [SetTable.tooFull,hfill,hpm] at tf
     simpa using tf
    refine wpAny_bind ?_
    unfold setRelay
    have T1:TSet prog w (s.heap.update a (Obj.putSet (SetTable.insertAt es p (kh prog w k,.ref b)) t1)) a _ (SetTable.insertAt es p (kh prog w k,.ref b)) (ep+1) t1 (keys.take p++k::keys.drop p):=⟨g1,rfl,P,by rw [al1.length,Array.length_toList],fun i k' e=>by
     obtain ⟨b',e1,e2⟩:=al1.get e
     exact ⟨b',by rw [Array.getElem?_toList] at e1; exact e1,e2⟩⟩
    refine wpAny_bind (wpAny_setState_of g1 rfl (T1.fits (s:={ s with heap:=_ })) ?_)
    dsimp only
    have big:∃ M,SetTable.sizeAbove (SetTable.grown (es.size+1))=M+1/\(M=7\/M=31\/M=127)/\(es.size+1)*5 < M*3:=by
     have e5:es.size=4/\t.mask=7\/es.size=18/\t.mask=31:=by
      have h70:es.size < 70:=by omega
      rcases hm with h | h | h
      ·rw [h] at hf tf'; omega
      ·rw [h] at hf tf'; omega
      ·rw [h] at hf tf'; omega
     rcases e5 with ⟨e5,_⟩ | ⟨e5,_⟩
     ·rw [e5]; exact ⟨31,by decide,by decide,by decide⟩
     ·rw [e5]; exact ⟨127,by decide,by decide,by decide⟩
    obtain ⟨M,eM,hM,hMf⟩:=big
    rw [eM,if_neg (by omega)]
    obtain ⟨t2,order,el,l1,l2,l3,l4,l5,l6,l7⟩:=ZgI (finger:=t1.finger) (moves:=t1.movedTo M) (led:=t1.led) (plain:=t1.plain) (Zdx hM) (by rcases hM with h | h | h <;> omega) (SetTable.insertAt es p (kh prog w k,Value.ref b)) (by rw [hsz]; omega)
    have er:t1.relaid ((SetTable.insertAt es p (kh prog w k,Value.ref b)).map (·.1)) (SetTable.grown (es.size+1))=some (t2,order):=by
     unfold SetTable.relaid
     rw [eM]
     exact el
    rw [er]
    show wpAny _ _ (ZhD (SetTable.insertAt es p (kh prog w k,Value.ref b)) (some (t2,order)) >>= _) _ _ _
    unfold ZhD
    dsimp only
    rw [l5,if_neg (by simp)]
    refine wpAny_bind (wpAny_pure ?_)
    dsimp only
    refine wpAny_storeSet_of (s:={ s with heap:=_,toks:=tk0 }) g1 rfl ?_ (by rw [l5,hsz]; omega)
    have sb2:=Heap.SameBut.update (s.heap.update a (Obj.putSet (SetTable.insertAt es p (kh prog w k,.ref b)) t1)) a (Obj.putSet (order.filterMap ((SetTable.insertAt es p (kh prog w k,Value.ref b))[·]?)) t2)
    have g2:(Heap.update (s.heap.update a (Obj.putSet (SetTable.insertAt es p (kh prog w k,.ref b)) t1)) a (Obj.putSet (order.filterMap ((SetTable.insertAt es p (kh prog w k,Value.ref b))[·]?)) t2)).get? a=some { o with data:=.set _ (ep+1+1) t2 }:=Wq (o:={ o with data:=.set (SetTable.insertAt es p (kh prog w k,Value.ref b)) (ep+1) t1 }) g1 rfl
    obtain ⟨keys2,al2,pm2⟩:=Al.perm l7 al1
    refine wpAny_pure (q true _ tk0 keys2 (sb1.trans sb2) ⟨_,_,_,t2,g2,hc,rfl,l6,al2.keep fun k' b' hk'=>TK.keep g1 rfl sb2 hk',pm2.nodup_iff.mpr nd1,by rw [l1]; exact hM,by rw [l1,l5,hsz]; exact hMf,by rw [l3]; exact hpp,by rw [l2]; exact hpq,fun q hq=>hgi q (l7.mem_iff.mp hq)⟩ (fun x=>by rw [pm2.mem_iff]; exact mem1 x) (by rw [pm2.length_eq]; exact len1))
   ·have tf0:t1.tooFull=false:=by simpa using tf
    rw [tf0,if_neg (by decide)]
    have tf':(es.size+1)*5 < t1.mask*3:=by
     simp only [SetTable.tooFull,hfill] at tf0
     simpa using tf0
    exact wpAny_pure (q true _ tk0 _ sb1 ⟨_,_,_,t1,g1,hc,rfl,P,al1,nd1,hm1,by rw [hsz]; exact tf',hpp,hpq,hgi⟩ mem1 len1)
  by_cases hpl:t1.plain=true
  ·rw [if_pos hpl]
   refine wpAny_bind (Zcv (s:={ s with toks:=tk0 }) hk ?_)
   rw [if_pos rfl]
   exact cont
  ·rw [if_neg hpl]
   refine wpAny_bind (wpAny_pure ?_)
   rw [if_pos rfl]
   exact cont
end
set_option maxHeartbeats 2000000
section
variable {prog:Program} {w:World} {A:Around} {R:Result->Shared->Prop} {I S:Addr} {fp wr:List Addr} {n:Nat} {P:Nat->Value->Prop} {St:Nat->Heap->Prop}
theorem TK.kept {h h':Heap} {k:List Int} {b:Addr} (hk:TK prog w h k b) (hw:∀ x∈wr,∃ o vs,h.get? x=some o/\o.data=.fields vs) (kp:∀ b o,b ∉ wr->h.get? b=some o->h'.get? b=some o):TK prog w h' k b:=by
 obtain ⟨ob,items,n,hb,hcb,hdb,hi⟩:=hk
 refine ⟨ob,items,n,kp b ob (fun hm=>?_) hb,hcb,hdb,hi⟩
 obtain ⟨o,vs,h1,h2⟩:=hw b hm
 rw [hb] at h1; cases h1
 rw [hdb] at h2; cases h2
theorem SetI.kept {G:Addr->Prop} {h h':Heap} {keys:List (List Int)} (X:SetI G prog w h S keys) (hSw:S ∉ wr) (hw:∀ x∈wr,∃ o vs,h.get? x=some o/\o.data=.fields vs) (kp:∀ b o,b ∉ wr->h.get? b=some o->h'.get? b=some o):SetI G prog w h' S keys:=by
 obtain ⟨o,es,ep,t,h1,h2,h3,h4,h5,r⟩:=X
 exact ⟨o,es,ep,t,kp _ _ hSw h1,h2,h3,h4,h5.keep fun k b hk=>TK.kept hk hw kp,r⟩
theorem Zep {G:Addr->Prop} (W:Walks prog w A.in1 I fp wr n P St) (hSf:S ∉ fp) (hw:∀ i h,St i h->∀ x∈wr,∃ o vs,h.get? x=some o/\o.data=.fields vs) (h0:Heap) (hS0:h0.get? S=none) (kw:∀ b o,h0.get? b=some o->b ∉ wr) (ks:List (List Int)) (hks:ks.length=n)
  (hP:∀ i v k,P i v->ks[i]?=some k->∃ b,v=.ref b/\TK prog w h0 k b/\G b) (hn:n<=70) (hu:A.in1.units < cLine) :
  ∀ (d i:Nat) (s:Shared) (keys:List (List Int)),n-i=d->i<=n->(∀ b o,h0.get? b=some o->s.heap.get? b=some o)->St i s.heap->SetI G prog w s.heap S keys->(∀ x,x∈keys ↔ x∈ks.take i)->keys.length<=i ->
   (∀ h' tk keys',SetI G prog w h' S keys'->(∀ x,x∈keys' ↔ x∈ks)->(∀ b o,h0.get? b=some o->h'.get? b=some o)->R (.ok (.ret .none)) { s with heap:=h',toks:=tk }) ->
   codeAny (model prog w) A (.builtin "set.update.loop" ⟨[.ref S,.ref I],[]⟩) R s:=by
 have hSw:S ∉ wr:=fun h=>hSf (W.sub _ h)
 intro d
 induction d with
 | zero=>
  intro i s keys hk hi hg hst hS hmem hlen hR
  have hin:i=n:=by omega
  subst hin
  refine codeAny_builtin F.entry_set_update_loop ?_
  rw [Around.under_plainId F.plain_set_update_loop _]; show wpAny _ A.in1 (pyNext (.ref I) >>= _) _ _ s; refine wpAny_bind (W.done s _ _ hst fun h' tk hk'=>?_)
  show wpAny _ A.in1 (ret Value.none) _ _ _
  refine wpAny_pure (hR h' tk keys (hS.kept hSw (hw _ _ hst) hk') (fun x=>by rw [hmem x,<-hks,List.take_length]) fun b o e=>hk' b o (kw b o e) (hg b o e))
 | succ d ih=>
  intro i s keys hk hi hg hst hS hmem hlen hR
  have hlt:i < n:=by omega
  refine codeAny_builtin F.entry_set_update_loop ?_
  rw [Around.under_plainId F.plain_set_update_loop _]; show wpAny _ A.in1 (pyNext (.ref I) >>= _) _ _ s; refine wpAny_bind (W.item i s _ _ hlt hst fun v h' tk hPv hst' hk'=>?_)
  obtain ⟨b,rfl,hkb,hgb⟩:=hP i v ks[i] hPv (by simp [show i < ks.length by omega])
  have hS':=hS.kept hSw (hw _ _ hst) hk'
  have hg':∀ b o,h0.get? b=some o->h'.get? b=some o:=fun b o e=>hk' b o (kw b o e) (hg b o e)
  have hkb':TK prog w h' ks[i] b:=by obtain ⟨ob,items,m,hb,r⟩:=hkb; exact ⟨ob,items,m,hg' _ _ hb,r⟩
  show wpAny _ A.in1 (holding [Value.ref b] (setAdd S (.ref b)) >>= _) _ _ _
  refine wpAny_bind (wpAny_holding (Zct (hG:=hgb) (s:={ s with heap:=h',toks:=tk }) hS' hu hkb' (by omega) fun r h'' tk'' keys'' sb hS'' hm'' hl''=>?_))
  refine wpAny_pure ⟨plainId_quiet F.plain_set_update_loop _,ih (i+1) _ keys'' (by omega) hlt (fun b o e=>?_) (W.frame _ _ _ hst' fun b hb o e=>?_) hS'' (fun x=>?_) (by omega) fun h3 tk3 keys3 a1 a2 a3=>hR h3 tk3 keys3 a1 a2 a3⟩
  ·exact (sb.2 b fun z=>by rw [z,hS0] at e; cases e).trans (hg' b o e)
  ·exact (sb.2 b fun z=>hSf (z ▸ hb)).trans e
  ·have e:ks.take (i+1)=ks.take i++[ks[i]]:=by rw [List.take_add_one]; simp [show i < ks.length by omega]
   rw [hm'' x,hmem x,e,List.mem_append,List.mem_singleton]
end
section
variable {prog:Program} {w:World} {A:Around} {E:Value->Shared->Prop} {s:Shared}
set_option maxHeartbeats 3200000 in
theorem Zar (a:Value) {Q₁:Value->Shared->Prop}
  (h:Q₁ (.ref s.heap.objs.size) { s with heap:=s.heap.push { cls:=.type "set",dict:=none,data:=.set #[] 0 (.fresh 0 0 (!w.params.followText "set-order")) } }) :
  codeAny (model prog w) A (.call (.builtin "set.__new__") ⟨[.type "set",a],[]⟩) (wants Q₁ E) s:=by
 refine codeAny_of_tree ?_
 show wpAny _ A.in1 (do checkBuiltinCall "set.__new__" ⟨[.type "set",a],[]⟩; again (.builtin "set.__new__" ⟨[.type "set",a],[]⟩)) _ _ s
 refine wpAny_bind (wpAny_of_eq (F.newCall_set_1 a) (wpAny_pure ⟨plainId_quiet F.plain_set_new _,codeAny_builtin F.entry_set_new ?_⟩))
 rw [Around.under_plainId F.plain_set_new _]
 unfold Builtin.«set.__new__» Builtin.Frozenset.newClass
 have hsub:=sub_set_self
 obtain ⟨hp,g,d,tk,os⟩:=s
 dsimp only
 wp_walk
 refine wpAny_askSetting (wpAny_pure ?_)
 dsimp only
 simp only [newObj]
 refine wpAny_bind (wpAny_alloc (wpAny_pure ?_))
 exact wpAny_pure h
theorem Zbc {G:Addr->Prop} {l:Addr} {T:String} {Q:Value->Shared->Prop} {ks:List (List Int)} (hT0:s.TypeIs (.ref l) T) (hsls:isSubtype (.type T) (.type "set")=pure false) (hslf:isSubtype (.type T) (.type "frozenset")=pure false) (hne:(Value.type T==Value.type "dict")=false)
  (hn:ks.length<=70) (hu:A.units+8 < cLine)
  (hit:∀ (A':Around) (s1:Shared) (Q':Value->Shared->Prop),A'.handled=A.handled->(∀ b o,s.heap.get? b=some o->s1.heap.get? b=some o) ->
   (∀ (it:Addr) (fp wr:List Addr) (St:Nat->Heap->Prop) (P:Nat->Value->Prop) (h2:Heap),(∀ A'':Around,A''.handled=A.handled->Walks prog w A'' it fp wr ks.length P St)->St 0 h2->s.heap.objs.size ∉ fp->(∀ i h,St i h->∀ x∈wr,∃ o vs,h.get? x=some o/\o.data=.fields vs)->(∀ b o,s1.heap.get? b=some o->h2.get? b=some o/\b ∉ wr) ->
    (∀ i v k,P i v->ks[i]?=some k->∃ b,v=.ref b/\TK prog w s.heap k b/\G b)->Q' (.ref it) { s1 with heap:=h2 })->s.heap.objs.size < s1.heap.objs.size->wpAny (model prog w) A' (pyIter (.ref l)) Q' E s1)
  (h:∀ (h':Heap) (tk:Nat) keys,SetI G prog w h' s.heap.objs.size keys->(∀ x,x∈keys ↔ x∈ks)->(∀ b o,s.heap.get? b=some o->h'.get? b=some o)->Q (.ref s.heap.objs.size) { s with heap:=h',toks:=tk }) :
  wpAny (model prog w) A (call (.type "set") [.ref l]) Q E s:=by
 obtain ⟨c,tl,hmro⟩:=F.called_set.mro
 have hmade:=F.called_set.made
 have hsub:=F.called_set.sub
 refine wpAny_call (codeAny_of_tree ?_)
 show wpAny _ _ (callAny (.type "set") _) _ _ _
 refine wpAny_pure ⟨Code.quiet_builtin _ (by decide +kernel),codeAny_builtin F.entry_type_call ?_⟩
 rw [Around.under_plain (weight_type_call_type "set" [.ref l] []) rfl]
 have h1:=F.called_set.notType
 have h2:=F.called_set.canCreate
 have hct:=F.typeCall_set_1 (.ref l)
 repeat (any_goals (first | assumption | wp_step))
 refine codeAny_mono (Zar (.ref l) (E:=E) (Q₁:=fun obj s₁=>∃ led:Bool,Nonempty (PLift (led=(!w.params.followText "set-order")))/\obj=.ref s.heap.objs.size/\s₁={ s with heap:=s.heap.push { cls:=.type "set",dict:=none,data:=.set #[] 0 (.fresh 0 0 led) } }) ⟨_,⟨⟨rfl⟩⟩,rfl,rfl⟩) fun r s₁ hr=>?_
 cases r with
 | error e=>exact hr
 | ok fl=>
  cases fl with
  | ret obj=>
   obtain ⟨led,hled,rfl,rfl⟩:=hr
   have hS:(s.heap.push { cls:=.type "set",dict:=none,data:=.set #[] 0 (.fresh 0 0 led) }).get? s.heap.objs.size=some { cls:=.type "set",dict:=none,data:=.set #[] 0 (.fresh 0 0 led) }:=Heap.get?_push_size _ rfl
   have hT:Shared.TypeIs { s with heap:=s.heap.push { cls:=.type "set",dict:=none,data:=.set #[] 0 (.fresh 0 0 led) } } (.ref s.heap.objs.size) "set":=⟨_,hS,rfl⟩
   have hli:=F.called_set.init.lookup
   have hbi:=F.called_set.init.bind (.ref s.heap.objs.size)
   repeat (any_goals (first | assumption | wp_step))
   refine codeAny_mono (codeAny_call_builtin (R:=wants (fun r s₂=>r=.none/\∃ h' tk keys,s₂={ s with heap:=h',toks:=tk }/\SetI G prog w h' s.heap.objs.size keys/\(∀ x,x∈keys ↔ x∈ks)/\(∀ b o,s.heap.get? b=some o->h'.get? b=some o)) E) F.called_set.init.plain F.entry_set_init (check_set_init_1 hT ?_)) fun r₂ s₂ hr₂=>?_
   ·have hT1:Shared.TypeIs { s with heap:=s.heap.push { cls:=.type "set",dict:=none,data:=.set #[] 0 (.fresh 0 0 led) } } (.ref l) T:=by
     obtain ⟨o,ho,hc⟩:=hT0
     exact ⟨o,Heap.get?_push_of_some _ ho,hc⟩
    unfold Builtin.«set.__init__» noKeywords Builtin.Frozenset.updateFrom
    generalize hPI:pyIter=PI
    wp_walk
    subst hPI
    refine hit _ _ _ (by simp) (fun b o e=>Heap.get?_push_of_some _ e) (fun it fp wr St P h2 W st nf hw kp hP=>?_) (by rw [Heap.size_push]; exact Nat.lt_succ_self _)
    refine wpAny_bind (wpAny_runValue ?_)
    have hS2:=(kp _ _ hS).1
    refine Zep (W _ (by simp)) nf hw s.heap (Heap.get?_none_of_le (Nat.le_refl _)) (fun b o e=>(kp b o (Heap.get?_push_of_some _ e)).2) ks rfl hP hn (by simp; omega) (ks.length-0) 0 ({ s with heap:=h2 }:Shared) [] (by omega) (Nat.zero_le _) (fun b o e=>(kp b o (Heap.get?_push_of_some _ e)).1) st ?_ (fun x=>by simp) (Nat.le_refl _) fun h' tk keys' a1 a2 a3=>?_
    ·refine ⟨_,#[],0,.fresh 0 0 led,hS2,⟨rfl,rfl,rfl⟩,rfl,?_,by simp [Al],List.nodup_nil,.inl rfl,(show 0*5 < 7*3 by decide),rfl,hled.elim fun x=>x.down,fun p hp=>by cases hp⟩
     exact ⟨rfl,rfl,by simp [Ris,SetTable.fresh],by simp [SetTable.fresh],Ziq,(show 0<=7 by decide),(show 7 % 2=1 by decide),fun i h1=>absurd h1 (Nat.not_lt_zero _)⟩
    ·show wpAny _ _ _ _ _ _
     refine wpAny_pure ?_
     show wpAny _ _ (ret Value.none) _ _ _
     exact wpAny_pure ⟨rfl,h',tk,keys',rfl,a1,a2,a3⟩
   ·cases r₂ with
    | error e=>exact hr₂
    | ok fl₂=>
     cases fl₂ with
     | ret r=>
      obtain ⟨rfl,h',tk,keys,rfl,hS',hm',hk'⟩:=hr₂
      repeat (any_goals (first | assumption | wp_step))
      exact h _ _ keys hS' hm' hk'
     | _=>exact hr₂.elim
  | _=>exact hr.elim
end
noncomputable def Zda:List (List Int)->List (List Int)
 | []=>[]
 | k::r=>if k∈r then Zda r else k::Zda r
theorem mem_nubI:∀ {ks:List (List Int)} {x:List Int},x∈Zda ks ↔ x∈ks
 | [],x=>by simp [Zda]
 | k::r,x=>by
  unfold Zda
  by_cases c:k∈r
  ·rw [if_pos c,mem_nubI,List.mem_cons]
   exact ⟨.inr,fun z=>z.elim (fun e=>e ▸ c) id⟩
  ·rw [if_neg c,List.mem_cons,List.mem_cons,mem_nubI]
theorem QB:∀ (ks:List (List Int)),(Zda ks).Nodup
 | []=>List.nodup_nil
 | k::r=>by
  unfold Zda
  by_cases c:k∈r
  ·rw [if_pos c]; exact QB r
  ·rw [if_neg c]; exact List.nodup_cons.mpr ⟨fun z=>c (mem_nubI.mp z),QB r⟩
theorem Y7 {α:Type} [DecidableEq α]:∀ {l m:List α},l.Nodup->(∀ x∈l,x∈m)->l.length<=m.length
 | [],m,_,_=>Nat.zero_le _
 | x::l,m,nd,h=>by
  obtain ⟨h1,h2⟩:=List.nodup_cons.mp nd
  have hm:=h x List.mem_cons_self
  have:=Y7 (l:=l) (m:=m.erase x) h2 fun y hy=>(List.mem_erase_of_ne (fun (e:y=x)=>h1 (by rw [<-e]; exact hy))).mpr (h y (List.mem_cons_of_mem _ hy))
  rw [List.length_erase_of_mem hm] at this
  have:0 < m.length:=List.length_pos_of_mem hm
  simp; omega
theorem WG {l m:List (List Int)} (h1:l.Nodup) (h2:m.Nodup) (h:∀ x,x∈l ↔ x∈m):l.length=m.length:=
 Nat.le_antisymm (Y7 h1 fun x hx=>(h x).mp hx) (Y7 h2 fun x hx=>(h x).mpr hx)
noncomputable def Q7:List D->Option (List (List Int))
 | []=>some []
 | .tup ys::r=>(Qp ys).bind fun k=>(Q7 r).map (k::·)
 | _::_=>none
theorem QC:∀ {xs:List D} {ks:List (List Int)} {i:Nat} {k:List Int},Q7 xs=some ks->ks[i]?=some k->xs[i]?=some (.tup (k.map .int))
 | [],ks,i,k,h,e=>by cases h; simp at e
 | d::xs,ks,i,k,h,e=>by
  cases d with
  | tup ys=>
   obtain ⟨k0,h1,h2⟩:=bind_some (show (Qp ys).bind (fun k=>(Q7 xs).map (k::·))=some ks from h)
   obtain ⟨ks',h3,rfl⟩:=map_some h2
   cases i with
   | zero=>simp at e; subst e; simp [Ja h1]
   | succ i=>simpa using QC h3 (by simpa using e)
  | _=>cases h
theorem Jx:∀ {xs:List D} {ks:List (List Int)},Q7 xs=some ks->ks.length=xs.length
 | [],ks,h=>by cases h; rfl
 | d::xs,ks,h=>by
  cases d with
  | tup ys=>
   obtain ⟨k0,h1,h2⟩:=bind_some (show (Qp ys).bind (fun k=>(Q7 xs).map (k::·))=some ks from h)
   obtain ⟨ks',h3,rfl⟩:=map_some h2
   simp [Jx h3]
  | _=>cases h
section
variable {X:Cx} {pins:List (Addr×Obj)} {σ:L2.St} {H:Hp} {s:Shared} {F:Fz}
theorem Q8:∀ {vs:List Value} {ns:List Int},IntsAre vs ns->ItemsAre (intKind X.prog X.w) ns vs
 | _,_,.nil=>.nil
 | _,_,.cons n t h=>.cons (intKind_is _ _ _ _) (Q8 h)
theorem Zhn (I:Inv X pins σ H s) {k:List Int} {x:V} {v:Value} (r:Rep X.K F H (.tup (k.map .int)) x) (rv:RelV x v):∃ b,v=.ref b/\TK X.prog X.w s.heap k b:=by
 unfold Rep at r
 obtain ⟨a,vs,rfl,h1,l1⟩:=r
 cases rv
 obtain ⟨its,rv,p,_⟩:=I.tuple h1
 obtain ⟨o,ho,hc,n,hd⟩:=p
 exact ⟨a,rfl,o,its.toArray,n,ho,hc,hd,by simpa using Q8 (Qa l1 rv)⟩
theorem Zgk {A:Around} (hh:A.handled=none) (hu:A.units+8 < cLine) (I:Inv X pins σ H s) {d:D} {xs:List D} {ks:List (List Int)} {x:V} {v:Value} {Q:Value->Shared->Prop} {E:Value->Shared->Prop} (hs:YN d=some xs) (hk:Q7 xs=some ks) (hn:ks.length<=70)
  (r:Rep X.K F H d x) (rv:RelV x v) (q:∀ (h':Heap) (tk:Nat) keys,SetI (fun b=>∃ (j:Nat) (dd:D) (ff:Nat),xs[j]?=some dd/\Rep X.K F H dd (.ref b)) X.prog X.w h' s.heap.objs.size keys->(∀ x,x∈keys ↔ x∈ks)->(∀ b o,s.heap.get? b=some o->h'.get? b=some o)->Q (.ref s.heap.objs.size) { s with heap:=h',toks:=tk }) :
  wpAny (model X.prog X.w) A (call (.type "set") [v]) Q E s:=by
 obtain ⟨a,vs,rfl,hq,hr⟩:=Zav hs r
 cases rv
 have keyP:∀ {its:List Value},Vals vs its->∀ (i:Nat) v k,its[i]?=some v->ks[i]?=some k->∃ b,v=.ref b/\TK X.prog X.w s.heap k b/\∃ (j:Nat) (dd:D) (ff:Nat),xs[j]?=some dd/\Rep X.K F H dd (.ref b):=fun {its} rv i v k hv hki=>by
  obtain ⟨x,ex,rx⟩:=hr.get (QC hk hki)
  obtain ⟨u,eu,ru⟩:=rv.get ex
  rw [hv] at eu; cases eu
  obtain ⟨b,e1,e2⟩:=Zhn I rx ru
  have rx':=rx
  unfold Rep at rx'
  obtain ⟨a',vs',e3,_⟩:=rx'
  subst e3
  cases ru
  cases e1
  exact ⟨_,rfl,e2,i,_,0,QC hk hki,rx⟩
 have hlen:∀ {its:List Value},Vals vs its->ks.length=its.length:=fun rv=>by rw [Jx hk,hr.length,rv.length]
 rcases hq with hq | hq
 ·obtain ⟨its,rv,p,hz⟩:=I.list hq
  have hl:=p.isList
  have hlt:a < s.heap.objs.size:=by obtain ⟨_,e,_⟩:=hl; exact Heap.lt_size e
  refine Zbc hl.typeIs PySem.F.sub_list_set PySem.F.sub_list_frozenset (by decide) hn hu (fun A' s1 Q' hA kp q' hsz=>?_) q
  have hl1:s1.heap.IsList a its.toArray:=hl.at fun o e=>kp a o e
  refine wpAny_pyIter_list hl1 ?_
  refine q' s1.heap.objs.size [s1.heap.objs.size,a] [s1.heap.objs.size] (fun i h=>h.IsListIter s1.heap.objs.size a i/\h.IsList a its.toArray) (fun i v=>its.toArray[i]?=some v) _ (fun A'' hA''=>?_) ⟨⟨_,Heap.get?_push_size _ rfl,rfl,rfl⟩,hl1.push _⟩ ?_ (fun i h st x hx=>?_) (fun b o e=>⟨Heap.get?_push_of_some _ e,fun hb=>?_⟩) (fun i v k hv hki=>keyP rv i v k (by simpa using hv) hki)
  ·have:=Walks.list (prog:=X.prog) (w:=X.w) (A:=A'') (hA''.trans hh) s1.heap.objs.size a (Nat.ne_of_lt (Nat.lt_trans hlt hsz)) its.toArray
   have z:its.toArray.size=ks.length:=by rw [hlen rv]; simp
   rw [z] at this
   exact this
  ·intro hb
   rcases List.mem_cons.mp hb with z | hb
   ·exact absurd z (Nat.ne_of_lt hsz)
   ·rw [List.mem_singleton] at hb; exact absurd hb (Nat.ne_of_gt hlt)
  ·rw [List.mem_singleton] at hx; subst hx
   obtain ⟨⟨o,h1,h2,h3⟩,_⟩:=st
   exact ⟨o,_,h1,h3⟩
  ·rw [List.mem_singleton] at hb; subst hb; exact absurd (Heap.lt_size e) (Nat.lt_irrefl _)
 ·obtain ⟨its,rv,p,hz⟩:=I.tuple hq
  have hl:s.heap.IsTuple a its.toArray:=p
  have hlt:a < s.heap.objs.size:=by obtain ⟨_,e,_⟩:=hl; exact Heap.lt_size e
  refine Zbc p.typeIs PySem.F.sub_tuple_set PySem.F.sub_tuple_frozenset (by decide) hn hu (fun A' s1 Q' hA kp q' hsz=>?_) q
  have hl1:s1.heap.IsTuple a its.toArray:=hl.at fun o e=>kp a o e
  refine wpAny_pyIter_tuple hl1 ?_
  refine q' s1.heap.objs.size [s1.heap.objs.size,a] [s1.heap.objs.size] (fun i h=>h.IsTupleIter s1.heap.objs.size a i/\h.IsTuple a its.toArray) (fun i v=>its.toArray[i]?=some v) _ (fun A'' hA''=>?_) ⟨⟨_,Heap.get?_push_size _ rfl,rfl,rfl⟩,hl1.push _⟩ ?_ (fun i h st x hx=>?_) (fun b o e=>⟨Heap.get?_push_of_some _ e,fun hb=>?_⟩) (fun i v k hv hki=>keyP rv i v k (by simpa using hv) hki)
  ·have:=Walks.tuple (prog:=X.prog) (w:=X.w) (A:=A'') (hA''.trans hh) s1.heap.objs.size a (Nat.ne_of_lt (Nat.lt_trans hlt hsz)) its.toArray
   have z:its.toArray.size=ks.length:=by rw [hlen rv]; simp
   rw [z] at this
   exact this
  ·intro hb
   rcases List.mem_cons.mp hb with z | hb
   ·exact absurd z (Nat.ne_of_lt hsz)
   ·rw [List.mem_singleton] at hb; exact absurd hb (Nat.ne_of_gt hlt)
  ·rw [List.mem_singleton] at hx; subst hx
   obtain ⟨⟨o,h1,h2,h3⟩,_⟩:=st
   exact ⟨o,_,h1,h3⟩
  ·rw [List.mem_singleton] at hb; subst hb; exact absurd (Heap.lt_size e) (Nat.lt_irrefl _)
end
end L3
namespace L3
open PySem PySem.Spec PyProof.Rows L2
section
variable {X:Cx} {pins:List (Addr×Obj)} {σ:L2.St} {H:Hp} {s:Shared} {F:Fz} {pos:Pos} {e:Expr} {f:DE}
noncomputable def Zg1:List D->Option D
 | [.int i]=>some (.int (if i < 0 then -i else i))
 | _=>none
theorem ZiH:Zan X (.builtin "abs") Zg1:=by
 intro pins s σ H vs us Q I r h
 obtain ⟨xs,F,d,r1,e,q⟩:=h
 unfold Zg1 at e
 split at e
 ·rename_i i
  cases e
  obtain ⟨v,rfl,h1⟩:=Q5 r1
  unfold Rep at h1
  subst h1
  exact Zfi pins s σ H _ us Q I r ⟨i,rfl,q _ F H .refl (ZY _)⟩
 ·cases e
noncomputable def ZiV:D->Option D
 | .non=>some (.bl true)
 | _=>some (.bl false)
theorem ZgM {K:PySem.W.Frag} {d:D} {v:V} (r:Rep K F H d v):(decide (v=.non):Bool)=(match d with | .non=>true | _=>false):=by
 cases d with
 | non=>unfold Rep at r; subst r; rfl
 | bl y=>unfold Rep at r; subst r; rfl
 | int y=>unfold Rep at r; subst r; rfl
 | str y=>unfold Rep at r; subst r; rfl
 | tup ds=>unfold Rep at r; obtain ⟨a,vs,rfl,_⟩:=r; rfl
 | lst ds=>unfold Rep at r; obtain ⟨a,vs,rfl,_⟩:=r; rfl
theorem Zhq {j} {p2:Pos} (he:ED X e f):TD X (.Compare e [.Is] [.Constant .none j p2] pos) (ZR (QG ZiV f)):=PT.imp (ZhI (ZhT he)) fun σ H Q q=>by
 obtain ⟨ρ,F0,H0,F,k,ok,ek,q⟩:=q
 obtain ⟨d,ed,ek⟩:=bind_some ek
 obtain ⟨y,ey,ed⟩:=bind_some ed
 refine ⟨ρ,F0,H0,F,y,ok,ey,fun v F1 H1 g1 r1=>?_⟩
 refine ⟨_,rfl,?_⟩
 rw [ZgM r1]
 have:=q F1 H1 g1
 cases y <;> (cases ed; cases ek; exact this)
end
noncomputable def Ys (P:Program) (w:World) (K:PySem.W.Frag) (mg:Str->Option Value) (base:Heap) (x:Str) (k:Nat) (ps:List Str) (fn:List D->Option D):Prop:=
 ∃ f fd,FnD P w K mg base k f fd ps fn/\mg x=some (.ref f)/\PySem.W.keepIn K (.ref f)=true/\Binds K fd ps []
section
variable {X:Cx} {pos:Pos}
theorem Zt {x:Str} {k k':Nat} {ps:List Str} {fn:List D->Option D} {p:Pos} {e:Expr} {es:List Expr} {as:DA} (F:Ys X.prog X.w X.K X.mg X.base x k ps fn) (hr:Room k' X.A) (hk:k<=k') (hg:Gl X x)
  (ha:AD X (e::es) as) (hdb:(x==("__debug__":Str))=false:=by decide) (he:starEach (e::es) X.env=(false,eval e X.env)::starEach es X.env:=by rfl) (hpl:(backTo pos (starEach es X.env)).any (·.1)=false:=by rfl) :
  ED X (.Call (.Name x p) (e::es) [] pos) (dFn ps.length fn as):=by
 obtain ⟨f,fd,h1,h2,h3,h4⟩:=F
 exact Zjz h1 (hr.mono hk) hg h2 h3 h4 ha hdb he hpl
noncomputable def ZiD (sc scope:Scope):Bool:=
 scope.kind==.function&&scope.names.all (fun y=>y.2 != .cell)&&scope.names.all (fun y=>y.2 != .local||scope.names.lookup y.1==some .local) &&
  scope.names.all fun y=>y.2 != .free||(sc.names.lookup y.1==some .cell||sc.names.lookup y.1==some .free)
theorem JA {sc scope:Scope} (h:X.env.scope=sc) (c:ZiD sc scope=true):CompScope X scope:=by
 unfold ZiD at c
 simp only [Bool.and_eq_true,List.all_eq_true] at c
 obtain ⟨⟨⟨c1,c2⟩,c3⟩,c4⟩:=c
 refine ⟨eq_of_beq c1,fun y hy e=>?_,fun y hy e=>?_,fun y hy e=>?_⟩
 ·have:=c2 y hy; rw [e] at this; cases this
 ·have:=c3 y hy
  rw [e] at this
  exact eq_of_beq (by simpa using this)
 ·have:=c4 y hy
  rw [e] at this
  have:(sc.names.lookup y.1==some .cell||sc.names.lookup y.1==some .free)=true:=by simpa using this
  rw [<-h] at this
  rcases Bool.or_eq_true_iff.mp this with z | z
  ·exact .inl (eq_of_beq z)
  ·exact .inr (eq_of_beq z)
noncomputable def ZjK (sc scope:Scope):List (Str×NameKind):=scope.names.map fun (n,k)=>if (k==.free&&sc.kind==.function&&sc.names.lookup n==some .cell) then (n,.cell) else (n,k)
noncomputable def ZiE (sc scope:Scope) (XN N:List Str) (caps:List (Option Nat)):Bool:=
 caps.length==N.length&&(List.range caps.length).all fun i=>match caps[i]?,N[i]? with
  | some (some j),some x=>XN[j]?==some x&&(sc.names.lookup x==some .cell||sc.names.lookup x==some .free)&&(ZjK sc scope).lookup x != some .local
  | _,_=>true
theorem JB {sc scope:Scope} {XN N:List Str} {caps:List (Option Nat)} (h:X.env.scope=sc) (hN:X.N=XN) (c:ZiE sc scope XN N caps=true):ZjI X N scope caps:=by
 unfold ZiE at c
 rw [Bool.and_eq_true,List.all_eq_true] at c
 obtain ⟨c1,c2⟩:=c
 refine ⟨eq_of_beq c1,fun i j x e1 e2=>?_⟩
 have hi:i < caps.length:=(List.getElem?_eq_some_iff.mp e1).1
 have:=c2 i (List.mem_range.mpr hi)
 rw [e1,e2] at this
 simp only [Bool.and_eq_true] at this
 obtain ⟨⟨d1,d2⟩,d3⟩:=this
 subst h hN
 have hk:X.env.scope.names.lookup x=some .cell\/X.env.scope.names.lookup x=some .free:=by
  rcases Bool.or_eq_true_iff.mp d2 with z | z
  ·exact .inl (eq_of_beq z)
  ·exact .inr (eq_of_beq z)
 refine ⟨eq_of_beq d1,.inr hk,fun z=>?_,fun z=>?_⟩
 ·have z:X.env.scope.names.lookup x=some .local:=z
  rcases hk with q | q <;> (rw [q] at z; cases z)
 ·have z':(ZjK X.env.scope scope).lookup x=some .local:=z
  rw [z'] at d3; simp at d3
end
structure Blt (mg:Str->Option Value):Prop where
 len:mg "len"=none
 range:mg "range"=none
 enumerate:mg "enumerate"=none
 min:mg "min"=none
 max:mg "max"=none
 abs:mg "abs"=none
 sum:mg "sum"=none
 any:mg "any"=none
 all:mg "all"=none
 set:mg "set"=none
 sorted:mg "sorted"=none
 tuple:mg "tuple"=none
 list:mg "list"=none
 int:mg "int"=none
 str:mg "str"=none
 bool:mg "bool"=none
 isinstance:mg "isinstance"=none
 reversed:mg "reversed"=none
noncomputable def Zfp (K:PySem.W.Frag) (mg:Str->Option Value) (x:Str) (d:D):Prop:=∃ a ds vs,mg x=some (.ref a)/\d=.tup ds/\(∀ H,SqT K H a vs)/\∀ F H,RepL K F H ds vs
theorem Ze5 {X:Cx} {pos:Pos} {x:Str} {d:D} (hg:Gl X x) (h:Zfp X.K X.mg x d) (hd:(x==("__debug__":Str))=false:=by decide):ED X (.Name x pos) (Zl d):=by
 obtain ⟨a,ds,vs,h1,rfl,h2,h3⟩:=h
 exact PE.imp (Zc2 hg h1 (v:=.ref a) rfl hd) fun σ H Q zq=>by
  obtain ⟨ρ,F0,H0,F,d,ok,e,q⟩:=zq
  cases e
  exact q _ F H .refl (by unfold Rep; exact ⟨a,vs,rfl,h2 H,h3 F H⟩)
section
variable {P:Program} {w:World} {K:PySem.W.Frag} {mg:Str->Option Value} {base:Heap}
theorem Uf {x qual:Str} {st:Stmt} {f:Addr} {fd:FuncData} {N ps:List Str} {k n:Nat} {g:DS} {fn:List D->Option D} (F:Fun K x qual st f fd) (S:Zx N ps (Zf st)) (hn:N.length=n) (hf:fn=ZA n g)
  (hb:∀ (cdv:Value) (A:Around) (outer:List Env) (s:Shared) (H:Hp) (E:XK),Room k (A.deeper (envOfC qual (Zf st) s.heap.objs.size f cdv)) ->
   ∃ g',g'=g/\SDs (ZfY CX0 P w K mg base N qual (Zf st) f cdv A outer s H E).nox (YU st) g'):FnD P w K mg base (k+1) f fd ps fn:=by
 subst hn hf
 exact ZkA F S fun cdv A outer s H E hr=>by
  obtain ⟨g',rfl,h⟩:=hb cdv A outer s H E hr
  exact h
end
section
variable {X:Cx} {tg elt iter:Expr} {ifs:List Expr}
end
theorem Zh8 {K:PySem.W.Frag} {H:Hp} {a:Addr} {ns:List Int} {fn:List D->Option D} {n:Nat} {E:XK} (hl:ns.length<=n) (hS:SqL K H a (ns.map V.int)) (h:∀ ns:List Int,fn [.lst (ns.map .int)]=some (.bl true)):spD K 1 fn [.ref a] H (fun v _=>v=.bl true) E:=by
 refine ⟨[.lst (ns.map .int)],fun b=>b=a,.bl true,rfl,.cons ?_ .nil,fun b hb=>?_,h ns,fun w F' H' _ r=>by unfold Rep at r; exact r⟩
 ·unfold Rep
  refine ⟨a,_,rfl,rfl,hS,?_⟩
  generalize ns=l
  induction l with
  | nil=>exact .nil
  | cons k l ih=>exact .cons (ZY _) ih
 ·subst hb
  rcases hS with (h | ⟨o,h⟩) | ⟨o,_,_,h,_⟩
  ·exact .inl (by rw [h]; simp)
  ·exact .inl (by rw [h]; simp)
  ·exact .inr ⟨o,h⟩
noncomputable def GlobK (K:PySem.W.Frag) (x:Str) (d:D):Prop:=∃ a i j t u n sl,PySem.W.nsIn K mainGlobals x=some (some (.ref a))/\K.lookup a=some ⟨.type "tuple",none,.seq #[.int i t,.int j u] n,sl⟩/\d=.tup [.int i,.int j]
theorem GlobK.mk {K:PySem.W.Frag} {x:Str} {a:Addr} {i j:Int} {t u:Tok} {n:Nat} {sl:Array (Option Value)} (h1:PySem.W.nsIn K mainGlobals x=some (some (.ref a))) (h2:K.lookup a=some ⟨.type "tuple",none,.seq #[.int i t,.int j u] n,sl⟩):GlobK K x (.tup [.int i,.int j]):=
 ⟨a,i,j,t,u,n,sl,h1,h2,rfl⟩
theorem GlobK.ok {K:PySem.W.Frag} {x:Str} {d:D} {h:Heap} {mg:Str->Option Value} (g:GlobK K x d) (X:K.In h) (G:h.Ns mainGlobals mg):Zfp K mg x d:=by
 obtain ⟨a,i,j,t,u,n,sl,h1,h2,rfl⟩:=g
 refine ⟨a,[.int i,.int j],[.int i,.int j],PySem.W.mg_of X G h1,rfl,fun H=>.inr ⟨_,#[.int i t,.int j u],n,h2,rfl,rfl,rfl,by show 2<=sizeLine; decide,?_⟩,fun F H=>.cons (ZY _) (.cons (ZY _) .nil)⟩
 exact .cons ⟨_,rfl⟩ (.cons ⟨_,rfl⟩ .nil)
theorem Zfj:bootBuiltins "reversed"=some (.type "reversed"):=by kernel_rfl
section
variable {prog:Program} {w:World} {A:Around} {E:Value->Shared->Prop} {s:Shared}
end
section
variable {X:Cx} {pos:Pos} {tg l:Expr} {f:DE}
end
noncomputable def OkD (P:Program) (w:World) (K:PySem.W.Frag) (mg:Str->Option Value) (base:Heap) (n:Str) (st:Stmt) (k:Nat) (ps:List Str) (fn:List D->Option D):Prop:=∀ {f:Addr} {fd:FuncData},Fun K n n st f fd->FnD P w K mg base k f fd ps fn
noncomputable def Df (K:PySem.W.Frag) (n:Str) (st:Stmt):Prop:=∃ f fd,PySem.W.nsIn K mainGlobals n=some (some (.ref f))/\Fun K n n st f fd/\PySem.W.keepIn K (.ref f)=true
theorem Df.mk {K:PySem.W.Frag} {n:Str} {st:Stmt} {f:Addr} {oc kV dc pm cd ct:Value} {od an:Option Addr} {sl:Array (Option Value)} (a:PySem.W.nsIn K mainGlobals n=some (some (.ref f))) (l:K.lookup f=some ⟨oc,od,.func (PySem.W.fnOf n n (Q0 st) (YU st) (Zf st) .none kV dc pm an cd ct),sl⟩)
  (e:PySem.W.codeIn K cd n=true) (k:PySem.W.keepIn K (.ref f)=true):Df K n st:=⟨f,_,a,Zip l e k,k⟩
section
variable {P:Program} {w:World} {K:PySem.W.Frag} {mg:Str->Option Value} {base h:Heap} {n:Str} {st:Stmt} {k:Nat} {ps:List Str} {fn:List D->Option D}
theorem dk (X:K.In h) (G:h.Ns mainGlobals mg) (a:Df K n st) (o:OkD P w K mg base n st k ps fn)
  (hb:∀ (kV doc pm:Value) (an:Option Addr) (cdv ct:Value) (us:List Value),us.length=ps.length->bindArgs (PySem.W.fnOf n n (Q0 st) (YU st) (Zf st) .none kV doc pm an cdv ct) ⟨us,[]⟩=pure (ps.zip us)):Ys P w K mg base n k ps fn:=by
 obtain ⟨f,fd,a1,F,a2⟩:=a
 exact ⟨f,fd,o F,PySem.W.mg_of X G a1,a2,F.binds hb⟩
end
end L3
namespace Pg
noncomputable def S:Nat->(Nat->Int)->Int
 | 0,_=>0
 | n+1,f=>S n f+f n
theorem S_congr:∀ {n:Nat} {f g:Nat->Int},(∀ j,j < n->f j=g j)->S n f=S n g
 | 0,_,_,_=>rfl
 | n+1,f,g,h=>by
  have e1:=S_congr (n:=n) (f:=f) (g:=g) (fun j hj=>h j (by omega))
  have e2:=h n (by omega)
  simp only [S,e1,e2]
theorem Zd9:∀ {n a:Nat} {f:Nat->Int},a < n->(∀ j,j < n->j≠a->f j=0)->S n f=f a:=by
 intro n
 induction n with
 | zero=>intro a f h; omega
 | succ n ih=>
  intro a f ha h
  simp only [S]
  by_cases e:a=n
  ·subst e
   have z:∀ m,m<=a->S m f=0:=by
    intro m
    induction m with
    | zero=>intro _; rfl
    | succ m ihm=>intro hm; simp only [S]; have:=ihm (by omega); have:=h m (by omega) (by omega); omega
   have:=z a (by omega)
   omega
  ·have:=ih (a:=a) (f:=f) (by omega) (fun j hj hn=>h j (by omega) hn)
   have:=h n (by omega) (by omega)
   omega
noncomputable def cr (ax ay bx by_ cx cy:Int):Int:=(bx-ax)*(cy-ay)-(by_-ay)*(cx-ax)
section
variable (n:Nat) (x y:Nat->Int)
noncomputable def nx (i:Nat):Nat:=if i+1=n then 0 else i+1
noncomputable def pv (i:Nat):Nat:=if i=0 then n-1 else i-1
noncomputable def lo (i:Nat):Nat:=if x i < x (nx n i) then i else nx n i
noncomputable def hi (i:Nat):Nat:=if x i < x (nx n i) then nx n i else i
noncomputable def d (i:Nat):Int:=if x i < x (nx n i) then 1 else -1
noncomputable def sd (i k:Nat):Int:=cr (x (lo n x i)) (y (lo n x i)) (x (hi n x i)) (y (hi n x i)) (x k) (y k)
noncomputable def B (j i:Nat):Prop:=
 if x (lo n x j) < x (lo n x i) then 0 < sd n x y j (lo n x i)
 else if x (lo n x i) < x (lo n x j) then sd n x y i (lo n x j) < 0
 else if x (hi n x j) < x (hi n x i) then sd n x y i (hi n x j) < 0
 else 0 < sd n x y j (hi n x i)
noncomputable def crs (j:Nat) (t:Int):Prop:=x (lo n x j)<=t/\t < x (hi n x j)
end
section
variable {n:Nat} {x y:Nat->Int}
theorem nx_lt {i:Nat} (h:i < n):nx n i < n:=by unfold nx; split <;> omega
theorem ZbX {i:Nat} (h:i < n):pv n i < n:=by unfold pv; split <;> omega
theorem ZeG {i:Nat} (h:i < n):nx n (pv n i)=i:=by unfold nx pv; grind
end
section
variable {n:Nat} {x y:Nat->Int}
end
noncomputable instance (n:Nat) (x y:Nat->Int) (j i:Nat):Decidable (B n x y j i):=by unfold B; infer_instance
noncomputable instance (n:Nat) (x:Nat->Int) (j:Nat) (t:Int):Decidable (crs n x j t):=by unfold crs; infer_instance
noncomputable def c (n:Nat) (x y:Nat->Int) (i:Nat) (t:Int):Int:=S n fun j=>if crs n x j t/\B n x y j i then d n x j else 0
noncomputable def W (n:Nat) (x y:Nat->Int) (i:Nat) (t:Int):Int:=c n x y i t+(if d n x i=1 then 1 else 0)
section
variable {n:Nat} {x y:Nat->Int}
noncomputable def tk (x:Nat->Int) (n k i:Nat):Int:=if lo n x i=k then x k else x k-1
noncomputable def w (n:Nat) (x y:Nat->Int) (i:Nat):Int:=W n x y i (x (lo n x i))
end
theorem ZaZ:∀ (n:Nat) (f g:Nat->Int),S n (fun j=>f j+g j)=S n f+S n g
 | 0,_,_=>rfl
 | n+1,f,g=>by simp only [S,ZaZ n f g]; omega
theorem ZiK (k:Int):∀ (n:Nat) (f:Nat->Int),S n (fun j=>k*f j)=k*S n f
 | 0,_=>by simp [S]
 | n+1,f=>by simp only [S,ZiK k n f]; grind
theorem Zd7:∀ (n:Nat),S n (fun _=>0)=0
 | 0=>rfl
 | n+1=>by simp only [S,Zd7 n]; rfl
theorem Zf5:∀ (m n:Nat) (f:Nat->Nat->Int),S m (fun i=>S n (fun j=>f i j))=S n (fun j=>S m (fun i=>f i j))
 | 0,n,f=>by simp only [S,Zd7]
 | m+1,n,f=>by simp only [S,Zf5 m n f,ZaZ]
theorem S_nonneg:∀ {n:Nat} {f:Nat->Int},(∀ j,j < n->0<=f j)->0<=S n f
 | 0,_,_=>by simp [S]
 | n+1,f,h=>by
  have:=S_nonneg (n:=n) (f:=f) (fun j hj=>h j (by omega))
  have:=h n (by omega)
  simp only [S]; omega
theorem ZjF {n:Nat} (hn:0 < n) (g:Nat->Int):S n (fun i=>g i-g (nx n i))=0:=by
 have part:∀ m,m+1<=n->S m (fun i=>g i-g (nx n i))=g 0-g m:=by
  intro m
  induction m with
  | zero=>intro _; simp [S]
  | succ m ih=>
   intro h
   have e:nx n m=m+1:=by unfold nx; rw [if_neg]; omega
   simp only [S,ih (by omega),e]; omega
 obtain ⟨m,rfl⟩:∃ m,n=m+1:=⟨n-1,by omega⟩
 have e:nx (m+1) m=0:=by unfold nx; simp
 simp only [S,part m (by omega),e]; omega
section
variable (n:Nat) (x y:Nat->Int)
noncomputable def bw (i:Nat):Int:=x (hi n x i)-x (lo n x i)
noncomputable def Pr:Nat->Int
 | 0=>1
 | m+1=>Pr m*bw n x m
noncomputable def K (i:Nat):Int:=Pr n x n / bw n x i
noncomputable def H (t:Int) (i:Nat):Int:=K n x i*(2*y (lo n x i)*bw n x i+(y (hi n x i)-y (lo n x i))*(2*t+1-2*x (lo n x i)))
noncomputable def A2:Int:=S n fun i=>x i*y (nx n i)-y i*x (nx n i)
end
section
variable {n:Nat} {x y:Nat->Int}
end
noncomputable abbrev P2:=Int×Int
noncomputable def turn (a b c:P2):Int:=(b.1-a.1)*(c.2-a.2)-(b.2-a.2)*(c.1-a.1)
noncomputable def lexlt (a b:P2):Prop:=a.1 < b.1\/(a.1=b.1/\a.2 < b.2)
noncomputable def area (n:Nat) (p:Nat->P2):Int:=S n fun i=>(p i).1*(p (nx n i)).2-(p i).2*(p (nx n i)).1
section
variable {n:Nat} {p:Nat->P2} {M:Int}
noncomputable def shX (M:Int) (p:Nat->P2) (i:Nat):Int:=M*(p i).1+(p i).2
noncomputable def shY (p:Nat->P2) (i:Nat):Int:=(p i).2
end
theorem pp {a b:Int} (ha:0 < a) (hb:0 < b):0 < a*b:=Int.mul_pos ha hb
theorem pn {a b:Int} (ha:0 < a) (hb:b < 0):a*b < 0:=Int.mul_neg_of_pos_of_neg ha hb
theorem np {a b:Int} (ha:a < 0) (hb:0 < b):a*b < 0:=Int.mul_neg_of_neg_of_pos ha hb
theorem pp0 {a b:Int} (ha:0<=a) (hb:0<=b):0<=a*b:=Int.mul_nonneg ha hb
noncomputable def cx (u v:P2):Int:=u.1*v.2-u.2*v.1
noncomputable def vh (u:P2):Prop:=0 < u.1\/(u.1=0/\0 < u.2)
noncomputable instance (u:P2):Decidable (vh u):=by unfold vh; infer_instance
noncomputable def hc (u v:P2):Int:=if ¬ vh u/\vh v/\0 < cx u v then 1 else if vh u/\¬ vh v/\cx u v < 0 then -1 else 0
theorem YW (u v:P2):cx v u=- cx u v:=by unfold cx; grind
noncomputable def ng (u:P2):P2:=(-u.1,-u.2)
theorem Ze9 (u v:P2):cx (ng u) v=- cx u v:=by unfold cx ng; grind
theorem ZiC (u v:P2):cx u (ng v)=- cx u v:=by unfold cx ng; grind
noncomputable def na (u v:P2):Prop:=cx u v=0->(vh u ↔ vh v)
section
variable {n:Nat} {q:Nat->P2}
end
section
variable (n:Nat) (x y:Nat->Int)
end
section
variable {n:Nat} {x y:Nat->Int}
theorem Zbv (f:Nat->Int) (P:Nat->Prop):∀ (n:Nat),(∃ i,i < n/\P i)->∃ i,i < n/\P i/\∀ j,j < n->P j->f j<=f i
 | 0,⟨i,h,_⟩=>by omega
 | n+1,⟨i,h,p⟩=>by
  by_cases e:∃ i,i < n/\P i
  ·obtain ⟨m,hm,pm,mm⟩:=Zbv f P n e
   by_cases q:P n/\f m<=f n
   ·refine ⟨n,by omega,q.1,fun j hj pj=>?_⟩
    by_cases z:j=n
    ·rw [z]; omega
    ·have:=mm j (by omega) pj; omega
   ·refine ⟨m,by omega,pm,fun j hj pj=>?_⟩
    by_cases z:j=n
    ·subst z
     have:¬ f m<=f j:=fun w=>q ⟨pj,w⟩
     omega
    ·exact mm j (by omega) pj
  ·have z:i=n:=by
    apply Classical.byContradiction; intro z
    exact e ⟨i,by omega,p⟩
   subst z
   refine ⟨i,by omega,p,fun j hj pj=>?_⟩
   by_cases z:j=i
   ·rw [z]; omega
   ·exact absurd ⟨j,by omega,pj⟩ e
end
section
variable {n:Nat} {p:Nat->P2} {M:Int}
end
section
variable {n:Nat} {x y:Nat->Int}
end
section
variable {n:Nat} {p:Nat->P2} {M:Int}
end
theorem ZiJ (n:Nat) (f:Nat->Int):S n (fun i=>- f i)=- S n f:=by
 have:=ZiK (-1) n f
 rw [<-Int.neg_one_mul,<-this]
 exact S_congr fun j _=>by omega
theorem ZjE (n:Nat) (f h:Nat->Int):S n (fun i=>f i-h i)=S n f-S n h:=by
 have:=ZaZ n f (fun i=>- h i)
 rw [ZiJ] at this
 rw [Int.sub_eq_add_neg,<-this]
 exact S_congr fun j _=>by omega
noncomputable def cnt (P:Nat) (Q:Int):Int:=S P fun i=>if (P:Int) ∣ Q*i then 1 else 0
noncomputable def sp (m:Nat) (p:Nat->P2) (i:Nat):P2:=if i=0 then p 0 else p (m+i-1)
section
variable {n m:Nat} {p:Nat->P2}
end
theorem pn0 {a b:Int} (ha:0<=a) (hb:b<=0):a*b<=0:=Int.mul_nonpos_of_nonneg_of_nonpos ha hb
theorem np0 {a b:Int} (ha:a<=0) (hb:0<=b):a*b<=0:=Int.mul_nonpos_of_nonpos_of_nonneg ha hb
theorem nn0 {a b:Int} (ha:a<=0) (hb:b<=0):0<=a*b:=by have:=pp0 (show 0<=-a by omega) (show 0<=-b by omega); rw [Int.neg_mul_neg] at this; exact this
noncomputable def X (M:Int) (a:P2):Int:=M*a.1+a.2
noncomputable def Bd (M:Int) (q:P2):Prop:=-M < 2*q.2/\2*q.2 < M
noncomputable def O (M:Int) (n:Nat) (p:Nat->P2):Int:=w n (shX M p) (shY p) 0
section
variable {n:Nat} {x y:Nat->Int}
end
noncomputable def df (a b:P2):P2:=(b.1-a.1,b.2-a.2)
noncomputable def ad (a b:P2):P2:=(a.1+b.1,a.2+b.2)
noncomputable def dt (u v:P2):Int:=u.1*v.1+u.2*v.2
noncomputable def ed (n:Nat) (p:Nat->P2) (i:Nat):P2:=df (p i) (p (nx n i))
structure Rnd (n:Nat) (p:Nat->P2):Prop where
 n3:3<=n
 inj:∀ i j,i < n->j < n->p i=p j->i=j
 tn:∀ i,i < n->0 < cx (ed n p i) (ed n p (nx n i))
 left:∀ i k,i < n->k < n->0<=cx (ed n p i) (df (p i) (p k))
noncomputable def Par (f e:P2):Prop:=cx f e=0/\0 < dt f e
theorem ZdJ (u v:P2):dt u v=dt v u:=by unfold dt; grind
theorem Jh {e:P2} (h:e≠(0,0)):0 < dt e e:=by
 unfold dt
 have h1:0<=e.1*e.1:=by rcases Int.le_total 0 e.1 with z | z <;> first | exact pp0 z z | exact nn0 z z
 have h2:0<=e.2*e.2:=by rcases Int.le_total 0 e.2 with z | z <;> first | exact pp0 z z | exact nn0 z z
 apply Classical.byContradiction; intro c
 have z1:e.1*e.1=0:=by omega
 have z2:e.2*e.2=0:=by omega
 exact h (Prod.ext (by rcases Int.mul_eq_zero.mp z1 with q | q <;> exact q) (by rcases Int.mul_eq_zero.mp z2 with q | q <;> exact q))
theorem Js {e d:P2} (h:cx e d=0) (v:P2):dt e e*cx v d=dt e d*cx v e:=by unfold cx dt at *; grind
theorem Zc5 {e d:P2} (h:cx e d=0):dt e e*d.1=dt e d*e.1/\dt e e*d.2=dt e d*e.2:=by unfold cx dt at *; constructor <;> grind
theorem Par.symm {f e:P2} (h:Par f e):Par e f:=⟨by rw [YW]; have:=h.1; omega,by rw [ZdJ]; exact h.2⟩
theorem Par.ne {f e:P2} (h:Par f e):e≠(0,0):=by rintro rfl; have:=h.2; unfold dt at this; simp at this
theorem Par.pos {f e:P2} (h:Par f e) {v:P2}:0 < cx v f ↔ 0 < cx v e:=by
 have l:=Js h.1 v
 have a:=Jh h.symm.ne
 have b:=h.2
 constructor
 ·intro z
  rcases Int.lt_or_le 0 (cx v e) with q | q
  ·exact q
  ·exfalso
   have l2:=Js h.symm.1 v
   have a2:=Jh h.ne
   have b2:=h.symm.2
   have:=pp a2 z
   have:=pn0 (Int.le_of_lt b2) q
   omega
 ·intro z
  rcases Int.lt_or_le 0 (cx v f) with q | q
  ·exact q
  ·exfalso
   have:=pp a z
   have:=pn0 (Int.le_of_lt b) q
   omega
theorem Par.nneg {f e:P2} (h:Par f e) {v:P2}:0<=cx v f ↔ 0<=cx v e:=by
 have:=h.pos (v:=ng v)
 rw [Ze9,Ze9] at this
 omega
theorem Par.nneg' {f e:P2} (h:Par f e) {v:P2}:0<=cx f v ↔ 0<=cx e v:=by
 have:=h.pos (v:=v)
 rw [YW f v,YW e v] at this
 omega
theorem Par.zero {f e:P2} (h:Par f e) {v:P2}:cx v f=0 ↔ cx v e=0:=by
 have h1:=h.nneg (v:=v)
 have h2:=h.pos (v:=v)
 omega
theorem Par.trans {a b c:P2} (h:Par a b) (k:Par b c):Par a c:=by
 have z:cx a c=0:=(k.zero (v:=a)).mp h.1
 refine ⟨z,?_⟩
 have l:=Zc5 h.symm.1
 have b0:=Jh h.ne
 have e:dt b b*dt a c=dt b a*dt b c:=by unfold dt at *; grind
 have:=pp h.symm.2 k.2
 rcases Int.lt_or_le 0 (dt a c) with q | q
 ·exact q
 ·have:=pn0 (Int.le_of_lt b0) q; omega
theorem Ug (u a b c:P2):cx u (df a c)=cx u (df a b)+cx u (df b c):=by unfold cx df; grind
theorem UM (u:P2):cx u u=0:=by unfold cx; grind
theorem ZgV {a b:P2} (h:df a b=(0,0)):a=b:=by
 unfold df at h
 injection h with h1 h2
 exact Prod.ext (by omega) (by omega)
section
variable {n:Nat} {p:Nat->P2}
theorem Rnd.ne (R:Rnd n p) {i:Nat} (hi:i < n):ed n p i≠(0,0):=by
 intro z
 have:=R.tn i hi
 rw [z] at this
 unfold cx at this
 simp at this
theorem Rnd.prev (R:Rnd n p) {i k:Nat} (hi:i < n) (hk:k < n):0<=cx (ed n p (pv n i)) (df (p i) (p k)):=by
 have h:=R.left (pv n i) k (ZbX hi) hk
 rw [Ug _ _ (p i)] at h
 have e:df (p (pv n i)) (p i)=ed n p (pv n i):=by unfold ed; rw [ZeG hi]
 rw [e,UM] at h
 omega
theorem Rnd.tnp (R:Rnd n p) {i:Nat} (hi:i < n):0 < cx (ed n p (pv n i)) (ed n p i):=by
 have:=R.tn (pv n i) (ZbX hi)
 rw [ZeG hi] at this
 exact this
theorem Rnd.on_line (R:Rnd n p) {i k:Nat} (hi:i < n) (hk:k < n) (z:cx (ed n p i) (df (p i) (p k))=0):p k=p i\/p k=p (nx n i):=by
 have N:=Jh (R.ne hi)
 have lin:=fun v=>Js z v
 have s0:0<=dt (ed n p i) (df (p i) (p k)):=by
  have a:=R.prev hi hk
  have b:=R.tnp hi
  have l:=lin (ed n p (pv n i))
  rcases Int.lt_or_le (dt (ed n p i) (df (p i) (p k))) 0 with q | q
  ·have:=np q b
   have:=pp0 (Int.le_of_lt N) a
   omega
  ·exact q
 have s1:dt (ed n p i) (df (p i) (p k))<=dt (ed n p i) (ed n p i):=by
  have a:=R.left (nx n i) k (nx_lt hi) hk
  have b:=R.tn i hi
  have l:=lin (ed n p (nx n i))
  have e:cx (ed n p (nx n i)) (df (p i) (p k))=cx (ed n p (nx n i)) (ed n p i)+cx (ed n p (nx n i)) (df (p (nx n i)) (p k)):=Ug _ _ _ _
  have c:=YW (ed n p i) (ed n p (nx n i))
  rcases Int.lt_or_le (dt (ed n p i) (ed n p i)) (dt (ed n p i) (df (p i) (p k))) with q | q
  ·exfalso
   have h1:0 < (dt (ed n p i) (df (p i) (p k))-dt (ed n p i) (ed n p i))*cx (ed n p i) (ed n p (nx n i)):=pp (by omega) b
   have h2:=pp0 (Int.le_of_lt N) a
   rw [Int.sub_mul] at h1
   rw [e,Int.mul_add] at l
   rw [c,Int.mul_neg,Int.mul_neg] at l
   omega
  ·exact q
 have pe:=Zc5 z
 rcases Int.lt_or_le 0 (dt (ed n p i) (df (p i) (p k))) with q0 | q0
 ·rcases Int.lt_or_le (dt (ed n p i) (df (p i) (p k))) (dt (ed n p i) (ed n p i)) with q1 | q1
  ·exfalso
   have key:∀ v:P2,0<=cx v (df (p k) (p i))->0<=cx v (df (p k) (p (nx n i)))->cx v (ed n p i)=0:=by
    intro v h1 h2
    have l:=lin v
    have e1:cx v (df (p k) (p i))=- cx v (df (p i) (p k)):=by unfold cx df; grind
    have e2:cx v (df (p k) (p (nx n i)))=cx v (ed n p i)-cx v (df (p i) (p k)):=by unfold ed cx df; grind
    rcases Int.lt_trichotomy (cx v (ed n p i)) 0 with c | c | c
    ·exfalso
     have g1:(dt (ed n p i) (ed n p i)-dt (ed n p i) (df (p i) (p k)))*cx v (ed n p i) < 0:=pn (by omega) c
     have g2:=pp0 (Int.le_of_lt N) h2
     rw [e2,Int.mul_sub] at g2
     rw [Int.sub_mul] at g1
     omega
    ·exact c
    ·exfalso
     have g1:=pp q0 c
     have g2:=pp0 (Int.le_of_lt N) h1
     rw [e1,Int.mul_neg] at g2
     omega
   have a:=key (ed n p k) (R.left k i hk hi) (R.left k (nx n i) hk (nx_lt hi))
   have b:=key (ed n p (pv n k)) (R.prev hk hi) (R.prev hk (nx_lt hi))
   have t:=R.tnp hk
   have l:=Js (e:=ed n p i) (d:=ed n p k) (by rw [YW]; omega) (ed n p (pv n k))
   rw [b,Int.mul_zero] at l
   have:=pp N t
   omega
  ·right
   have e:dt (ed n p i) (df (p i) (p k))=dt (ed n p i) (ed n p i):=by omega
   rw [e] at pe
   have h1:=Int.eq_of_mul_eq_mul_left (by omega) pe.1
   have h2:=Int.eq_of_mul_eq_mul_left (by omega) pe.2
   unfold ed df at h1 h2
   simp only at h1 h2
   exact Prod.ext (by omega) (by omega)
 ·left
  have e:dt (ed n p i) (df (p i) (p k))=0:=by omega
  rw [e,Int.zero_mul,Int.zero_mul] at pe
  have h1:=(Int.mul_eq_zero.mp pe.1).resolve_left (by omega)
  have h2:=(Int.mul_eq_zero.mp pe.2).resolve_left (by omega)
  unfold df at h1 h2
  simp only at h1 h2
  exact Prod.ext (by omega) (by omega)
theorem Rnd.uniq (R:Rnd n p) {i j:Nat} (hi:i < n) (hj:j < n) (h:Par (ed n p i) (ed n p j)):i=j:=by
 have a:=R.left i j hi hj
 have b:=(h.nneg' (v:=df (p j) (p i))).mpr (R.left j i hj hi)
 have e:cx (ed n p i) (df (p j) (p i))=- cx (ed n p i) (df (p i) (p j)):=by unfold cx df; grind
 rcases R.on_line hi hj (by omega) with z | z
 ·exact (R.inj _ _ hj hi z).symm
 ·have:=R.inj _ _ hj (nx_lt hi) z
  subst this
  have:=R.tn i hi
  have:=h.1
  omega
noncomputable def Lst (n:Nat) (p:Nat->P2) (e:P2) (x:P2):Prop:=∀ k,k < n->0<=cx e (df x (p k))
theorem Rnd.two (R:Rnd n p) {e:P2} (he:e≠(0,0)) {i j:Nat} (hi:i < n) (hj:j < n) (h1:Lst n p e (p i)) (h2:Lst n p e (p j)):p i=p j\/(Par (ed n p i) e/\p j=p (nx n i))\/(Par (ed n p j) e/\p i=p (nx n j)):=by
 have one:∀ {i j:Nat},i < n->j < n->Lst n p e (p i)->Lst n p e (p j)->0 < dt e (df (p i) (p j))->Par (ed n p i) e/\p j=p (nx n i):=by
  intro i j hi hj h1 h2 s
  have z:cx e (df (p i) (p j))=0:=by
   have a:=h1 j hj
   have b:=h2 i hi
   have:cx e (df (p j) (p i))=- cx e (df (p i) (p j)):=by unfold cx df; grind
   omega
  have N:=Jh he
  have lin:=fun v=>Js z v
  have sg:∀ v,0<=cx v (df (p i) (p j))->0<=cx v e:=fun v h=>by
   rcases Int.lt_or_le (cx v e) 0 with q | q
   ·have:=pn s q
    have:=pp0 (Int.le_of_lt N) h
    have:=lin v
    omega
   ·exact q
  have a:=sg _ (R.left i j hi hj)
  have b:0<=cx e (ed n p i):=h1 (nx n i) (nx_lt hi)
  have c:=YW e (ed n p i)
  have z2:cx e (ed n p i)=0:=by omega
  have d:=sg _ (R.prev hi hj)
  have pr:Par (ed n p i) e:=by
   refine ⟨by omega,?_⟩
   have l:=Js z2 (ed n p (pv n i))
   have t:=pp N (R.tnp hi)
   rw [ZdJ]
   rcases Int.lt_or_le 0 (dt e (ed n p i)) with q | q
   ·exact q
   ·have:=np0 q d; omega
  refine ⟨pr,?_⟩
  have z3:cx (ed n p i) (df (p i) (p j))=0:=by
   have:=(pr.zero (v:=df (p i) (p j))).mpr (by rw [YW]; omega)
   rw [YW] at this; omega
  rcases R.on_line hi hj z3 with w | w
  ·rw [w] at s
   unfold dt df at s
   simp at s
  ·exact w
 rcases Int.lt_trichotomy 0 (dt e (df (p i) (p j))) with s | s | s
 ·exact .inr (.inl (one hi hj h1 h2 s))
 ·left
  have z:cx e (df (p i) (p j))=0:=by
   have a:=h1 j hj
   have b:=h2 i hi
   have:cx e (df (p j) (p i))=- cx e (df (p i) (p j)):=by unfold cx df; grind
   omega
  have N:=Jh he
  have pe:=Zc5 z
  rw [<-s,Int.zero_mul,Int.zero_mul] at pe
  have g1:=(Int.mul_eq_zero.mp pe.1).resolve_left (by omega)
  have g2:=(Int.mul_eq_zero.mp pe.2).resolve_left (by omega)
  exact ZgV (Prod.ext g1 g2)
 ·right; right
  refine one hj hi h2 h1 ?_
  have:dt e (df (p j) (p i))=- dt e (df (p i) (p j)):=by unfold dt df; grind
  omega
end
structure Sm2 (np:Nat) (p:Nat->P2) (nq:Nat) (q:Nat->P2) (nh:Nat) (h:Nat->P2):Prop where
 P:Rnd np p
 Q:Rnd nq q
 H:Rnd nh h
 mem:∀ k,k < nh->∃ i j,i < np/\j < nq/\h k=ad (p i) (q j)
 left:∀ k i j,k < nh->i < np->j < nq->0<=cx (ed nh h k) (df (h k) (ad (p i) (q j)))
theorem ad_comm (a b:P2):ad a b=ad b a:=by unfold ad; exact Prod.ext (by simp only; omega) (by simp only; omega)
noncomputable instance (f e:P2):Decidable (Par f e):=by unfold Par; infer_instance
section
variable {np nq nh:Nat} {p q h:Nat->P2}
theorem Sm2.symm (T:Sm2 np p nq q nh h):Sm2 nq q np p nh h:=⟨T.Q,T.P,T.H,fun k hk=>by
 obtain ⟨i,j,a,b,c⟩:=T.mem k hk
 exact ⟨j,i,b,a,by rw [ad_comm]; exact c⟩,fun k i j hk hi hj=>by rw [ad_comm]; exact T.left k j i hk hj hi⟩
theorem Sm2.prev (T:Sm2 np p nq q nh h) {k i j:Nat} (hk:k < nh) (hi:i < np) (hj:j < nq):0<=cx (ed nh h (pv nh k)) (df (h k) (ad (p i) (q j))):=by
 have a:=T.left (pv nh k) i j (ZbX hk) hi hj
 rw [Ug _ _ (h k)] at a
 have e:df (h (pv nh k)) (h k)=ed nh h (pv nh k):=by unfold ed; rw [ZeG hk]
 rw [e,UM] at a
 omega
theorem Sm2.fwd (T:Sm2 np p nq q nh h) {k i j:Nat} (hk:k < nh) (hi:i < np) (hj:j < nq):0<=cx (ed nh h k) (df (h (nx nh k)) (ad (p i) (q j))):=by
 have a:=T.left k i j hk hi hj
 rw [Ug _ _ (h (nx nh k))] at a
 have e:df (h k) (h (nx nh k))=ed nh h k:=rfl
 rw [e,UM] at a
 omega
theorem ZdK (a b c:P2):df (ad a c) (ad b c)=df a b:=by unfold df ad; exact Prod.ext (by simp only; omega) (by simp only; omega)
theorem Sm2.lstP (T:Sm2 np p nq q nh h) {k i j:Nat} (hk:k < nh) (hi:i < np) (hj:j < nq) {x:P2} (e:x=ad (p i) (q j)) (hx:x=h k\/x=h (nx nh k)):Lst np p (ed nh h k) (p i):=by
 intro a ha
 have:df x (ad (p a) (q j))=df (p i) (p a):=by rw [e]; exact ZdK _ _ _
 rcases hx with hx | hx
 ·have z:=T.left k a j hk ha hj
  rw [<-hx,this] at z; exact z
 ·have z:=T.fwd hk ha hj
  rw [<-hx,this] at z; exact z
theorem Sm2.split (T:Sm2 np p nq q nh h) {k i j i' j':Nat} (hk:k < nh) (hi:i < np) (hj:j < nq) (hi':i' < np) (hj':j' < nq) (e1:h k=ad (p i) (q j)) (e2:h (nx nh k)=ad (p i') (q j')) :
  (∃ i0,i0 < np/\Par (ed np p i0) (ed nh h k)/\p i=p i0/\p i'=p (nx np i0))\/((∀ i0,i0 < np->¬ Par (ed np p i0) (ed nh h k))/\p i=p i'):=by
 have l1:Lst np p (ed nh h k) (p i):=T.lstP hk hi hj (x:=h k) e1 (.inl rfl)
 have l2:Lst np p (ed nh h k) (p i'):=T.lstP hk hi' hj' (x:=h (nx nh k)) e2 (.inr rfl)
 by_cases ex:∃ i0,i0 < np/\Par (ed np p i0) (ed nh h k)
 ·left
  obtain ⟨i0,h0,pr⟩:=ex
  have on:∀ {a:Nat},a < np->Lst np p (ed nh h k) (p a)->p a=p i0\/p a=p (nx np i0):=by
   intro a ha la
   refine T.P.on_line h0 ha ?_
   have z1:=T.P.left i0 a h0 ha
   have z2:=(pr.nneg' (v:=df (p a) (p i0))).mpr (la i0 h0)
   have:cx (ed np p i0) (df (p a) (p i0))=- cx (ed np p i0) (df (p i0) (p a)):=by unfold cx df; grind
   omega
  refine ⟨i0,h0,pr,?_,?_⟩
  ·rcases on hi l1 with z | z
   ·exact z
   ·exfalso
    have a:=T.prev hk h0 hj
    rw [e1,z,ZdK] at a
    have b:df (p (nx np i0)) (p i0)=ng (ed np p i0):=by unfold ed df ng; exact Prod.ext (by simp only; omega) (by simp only; omega)
    rw [b,ZiC] at a
    have c:=(pr.pos (v:=ed nh h (pv nh k))).mpr (T.H.tnp hk)
    omega
  ·rcases on hi' l2 with z | z
   ·exfalso
    have a:=T.left (nx nh k) (nx np i0) j' (nx_lt hk) (nx_lt h0) hj'
    rw [e2,z,ZdK] at a
    have a':0<=cx (ed nh h (nx nh k)) (ed np p i0):=a
    have b:=T.H.tn k hk
    have c:=(pr.pos (v:=ng (ed nh h (nx nh k)))).mpr (by rw [Ze9,YW (ed nh h k)] at *; omega)
    rw [Ze9] at c
    omega
   ·exact z
 ·right
  refine ⟨fun i0 h0 pr=>ex ⟨i0,h0,pr⟩,?_⟩
  rcases T.P.two (T.H.ne hk) hi hi' l1 l2 with z | z | z
  ·exact z
  ·exact absurd ⟨i,hi,z.1⟩ ex
  ·exact absurd ⟨i',hi',z.1⟩ ex
theorem Sm2.exist (T:Sm2 np p nq q nh h) {i:Nat} (hi:i < np):∃ k,k < nh/\Par (ed np p i) (ed nh h k):=by
 have n3:=T.H.n3
 have q3:=T.Q.n3
 obtain ⟨k,hk,_,mk⟩:=Zbv (fun k=>- cx (ed np p i) (h k)) (fun _=>True) nh ⟨0,by omega,trivial⟩
 obtain ⟨j0,hj0,_,mj⟩:=Zbv (fun j=>- cx (ed np p i) (q j)) (fun _=>True) nq ⟨0,by omega,trivial⟩
 generalize hf:ed np p i=f at *
 have fne:f≠(0,0):=by rw [<-hf]; exact T.P.ne hi
 have D:=T.H.tnp hk
 have c1:0<=cx f (ed nh h k):=by
  have:=mk (nx nh k) (nx_lt hk) trivial
  have e:cx f (ed nh h k)=cx f (h (nx nh k))-cx f (h k):=by unfold ed cx df; grind
  omega
 have c2:0<=cx (ed nh h (pv nh k)) f:=by
  have:=mk (pv nh k) (ZbX hk) trivial
  have e:cx (ed nh h (pv nh k)) f=cx f (h (pv nh k))-cx f (h k):=by
   unfold ed; rw [ZeG hk]; unfold cx df; grind
  omega
 have L1:=fun a b (ha:a < np) (hb:b < nq)=>T.left k a b hk ha hb
 have L2:=fun a b (ha:a < np) (hb:b < nq)=>T.prev (k:=k) (i:=a) (j:=b) hk ha hb
 obtain ⟨a,b,ha,hb,eh⟩:=T.mem k hk
 have lo:cx f (df (h k) (ad (p i) (q j0)))<=0:=by
  have g1:=T.P.left i a hi ha
  rw [hf] at g1
  have g2:=mj b hb trivial
  have e:cx f (df (h k) (ad (p i) (q j0)))=- cx f (df (p i) (p a))-(cx f (q b)-cx f (q j0)):=by rw [eh]; unfold cx df ad; grind
  omega
 have lo2:cx f (df (h k) (ad (p (nx np i)) (q j0)))<=0:=by
  have e:cx f (df (h k) (ad (p (nx np i)) (q j0)))=cx f (df (h k) (ad (p i) (q j0)))+cx f (ed np p i):=by unfold ed cx df ad; grind
  rw [e,hf,UM]; omega
 have up1:=L1 i j0 hi hj0
 have up2:=L2 i j0 hi hj0
 have up3:=L1 (nx np i) j0 (nx_lt hi) hj0
 have up4:=L2 (nx np i) j0 (nx_lt hi) hj0
 by_cases z1:cx f (ed nh h k)=0
 ·refine ⟨k,hk,z1,?_⟩
  have dl:cx (ed nh h (pv nh k)) (ed nh h k)*dt f (ed nh h k)=cx f (ed nh h k)*dt (ed nh h (pv nh k)) (ed nh h k)+cx (ed nh h (pv nh k)) f*dt (ed nh h k) (ed nh h k):=by unfold cx dt; grind
  rw [z1,Int.zero_mul,Int.zero_add] at dl
  have ne:=Jh (T.H.ne hk)
  have c3:0 < cx (ed nh h (pv nh k)) f:=by
   rcases Int.lt_or_le 0 (cx (ed nh h (pv nh k)) f) with w | w
   ·exact w
   ·exfalso
    have w0:cx (ed nh h (pv nh k)) f=0:=by omega
    have k1:cx (ed nh h (pv nh k)) (ed nh h k)*f.1=cx f (ed nh h k)*(ed nh h (pv nh k)).1+cx (ed nh h (pv nh k)) f*(ed nh h k).1:=by unfold cx; grind
    have k2:cx (ed nh h (pv nh k)) (ed nh h k)*f.2=cx f (ed nh h k)*(ed nh h (pv nh k)).2+cx (ed nh h (pv nh k)) f*(ed nh h k).2:=by unfold cx; grind
    rw [z1,w0,Int.zero_mul,Int.zero_mul] at k1 k2
    have f1:=(Int.mul_eq_zero.mp k1).resolve_left (by omega)
    have f2:=(Int.mul_eq_zero.mp k2).resolve_left (by omega)
    exact fne (Prod.ext f1 f2)
  have:=pp c3 ne
  rcases Int.lt_or_le 0 (dt f (ed nh h k)) with w | w
  ·exact w
  ·have:=pn0 (Int.le_of_lt D) w; omega
 ·by_cases z2:cx (ed nh h (pv nh k)) f=0
  ·refine ⟨pv nh k,ZbX hk,by rw [YW]; omega,?_⟩
   have dl:cx (ed nh h (pv nh k)) (ed nh h k)*dt f (ed nh h (pv nh k))=cx f (ed nh h k)*dt (ed nh h (pv nh k)) (ed nh h (pv nh k))+cx (ed nh h (pv nh k)) f*dt (ed nh h k) (ed nh h (pv nh k)):=by unfold cx dt; grind
   rw [z2,Int.zero_mul,Int.add_zero] at dl
   have ne:=Jh (T.H.ne (ZbX (n:=nh) hk))
   have:=pp (show 0 < cx f (ed nh h k) by omega) ne
   rcases Int.lt_or_le 0 (dt f (ed nh h (pv nh k))) with w | w
   ·exact w
   ·have:=pn0 (Int.le_of_lt D) w; omega
  ·exfalso
   have p1:0 < cx f (ed nh h k):=by omega
   have p2:0 < cx (ed nh h (pv nh k)) f:=by omega
   have zero:∀ y:P2,cx f y<=0->0<=cx (ed nh h k) y->0<=cx (ed nh h (pv nh k)) y->y=(0,0):=by
    intro y h1 h2 h3
    have lin:cx (ed nh h (pv nh k)) (ed nh h k)*cx f y=cx f (ed nh h k)*cx (ed nh h (pv nh k)) y+cx (ed nh h (pv nh k)) f*cx (ed nh h k) y:=by unfold cx; grind
    have g1:=pn0 (Int.le_of_lt D) h1
    have g2:=pp0 (Int.le_of_lt p1) h3
    have g3:=pp0 (Int.le_of_lt p2) h2
    have w1:=(Int.mul_eq_zero.mp (show cx f (ed nh h k)*cx (ed nh h (pv nh k)) y=0 by omega)).resolve_left (by omega)
    have w2:=(Int.mul_eq_zero.mp (show cx (ed nh h (pv nh k)) f*cx (ed nh h k) y=0 by omega)).resolve_left (by omega)
    have k1:cx (ed nh h (pv nh k)) (ed nh h k)*y.1=- cx (ed nh h k) y*(ed nh h (pv nh k)).1+cx (ed nh h (pv nh k)) y*(ed nh h k).1:=by unfold cx; grind
    have k2:cx (ed nh h (pv nh k)) (ed nh h k)*y.2=- cx (ed nh h k) y*(ed nh h (pv nh k)).2+cx (ed nh h (pv nh k)) y*(ed nh h k).2:=by unfold cx; grind
    rw [w1,w2] at k1 k2
    have f1:=(Int.mul_eq_zero.mp (show cx (ed nh h (pv nh k)) (ed nh h k)*y.1=0 by rw [k1]; simp)).resolve_left (by omega)
    have f2:=(Int.mul_eq_zero.mp (show cx (ed nh h (pv nh k)) (ed nh h k)*y.2=0 by rw [k2]; simp)).resolve_left (by omega)
    exact Prod.ext f1 f2
   have a1:=ZgV (zero _ lo up1 up2)
   have a2:=ZgV (zero _ lo2 up3 up4)
   rw [a1] at a2
   apply fne
   rw [<-hf]
   unfold ad at a2
   injection a2 with b1 b2
   unfold ed df
   exact Prod.ext (by simp only; omega) (by simp only; omega)
end
section
variable {np nq nh:Nat} {p q h:Nat->P2}
noncomputable def vl (np:Nat) (p:Nat->P2) (e:P2) (ψ:Nat->Int):Int:=S np fun i=>if Par (ed np p i) e then ψ i else 0
theorem J5 (P:Rnd np p) {e:P2} {ψ:Nat->Int} {i:Nat} (hi:i < np) (h:Par (ed np p i) e):vl np p e ψ=ψ i:=by
 unfold vl
 rw [Zd9 hi,if_pos h]
 intro j hj hne
 rw [if_neg]
 intro z
 exact hne (P.uniq hj hi (z.trans h.symm))
theorem ZbL {e:P2} {ψ:Nat->Int} (h:∀ i,i < np->¬ Par (ed np p i) e):vl np p e ψ=0:=by
 unfold vl
 exact (S_congr fun j hj=>by rw [if_neg (h j hj)]).trans (Zd7 np)
theorem Sm2.sum (T:Sm2 np p nq q nh h) (ψ:Nat->Int):S nh (fun k=>vl np p (ed nh h k) ψ)=S np ψ:=by
 unfold vl
 rw [Zf5 nh np (fun k i=>if Par (ed np p i) (ed nh h k) then ψ i else 0)]
 refine S_congr fun i hi=>?_
 obtain ⟨k,hk,pr⟩:=T.exist hi
 rw [Zd9 hk,if_pos pr]
 intro j hj hne
 rw [if_neg]
 intro z
 exact hne (T.H.uniq hj hk (z.symm.trans pr))
theorem Sm2.parts (T:Sm2 np p nq q nh h) {k:Nat} (hk:k < nh):∃ a b a' b':P2,h k=ad a b/\h (nx nh k)=ad a' b'/\((∃ i,i < np/\a=p i)/\Lst np p (ed nh h k) a)/\((∃ j,j < nq/\b=q j)/\Lst nq q (ed nh h k) b) /\
  ((∃ i,i < np/\Par (ed np p i) (ed nh h k)/\a=p i/\a'=p (nx np i))\/((∀ i,i < np->¬ Par (ed np p i) (ed nh h k))/\a=a')) /\
  ((∃ j,j < nq/\Par (ed nq q j) (ed nh h k)/\b=q j/\b'=q (nx nq j))\/((∀ j,j < nq->¬ Par (ed nq q j) (ed nh h k))/\b=b')):=by
 obtain ⟨i,j,hi,hj,e1⟩:=T.mem k hk
 obtain ⟨i',j',hi',hj',e2⟩:=T.mem (nx nh k) (nx_lt hk)
 have s1:=T.split hk hi hj hi' hj' e1 e2
 have s2:=T.symm.split hk hj hi hj' hi' (by rw [ad_comm]; exact e1) (by rw [ad_comm]; exact e2)
 exact ⟨p i,q j,p i',q j',e1,e2,⟨⟨i,hi,rfl⟩,T.lstP hk hi hj (x:=h k) e1 (.inl rfl)⟩,⟨⟨j,hj,rfl⟩,T.symm.lstP hk hj hi (x:=h k) (by rw [ad_comm]; exact e1) (.inl rfl)⟩,s1,s2⟩
theorem Zbw {k:Nat} {a b a' b':P2} (e1:h k=ad a b) (e2:h (nx nh k)=ad a' b'):ed nh h k=ad (df a a') (df b b'):=by
 unfold ed
 rw [e1,e2]
 unfold df ad
 exact Prod.ext (by simp only; omega) (by simp only; omega)
theorem Qs (a:P2):df a a=(0,0):=by unfold df; exact Prod.ext (by simp only; omega) (by simp only; omega)
theorem UQ (a:P2):ad a (0,0)=a:=by unfold ad; exact Prod.ext (by simp only; omega) (by simp only; omega)
theorem Zcr (a:P2):ad (0,0) a=a:=by rw [ad_comm]; exact UQ a
theorem Sm2.fence (T:Sm2 np p nq q nh h) (g:P2->Int) (hg:∀ u v,Par u v->g (ad u v)=g u+g v) :
  S nh (fun k=>g (ed nh h k))=S np (fun i=>g (ed np p i))+S nq (fun j=>g (ed nq q j)):=by
 have one:∀ k,k < nh->g (ed nh h k)=vl np p (ed nh h k) (fun i=>g (ed np p i))+vl nq q (ed nh h k) (fun j=>g (ed nq q j)):=by
  intro k hk
  obtain ⟨a,b,a',b',e1,e2,l1,l2,s1,s2⟩:=T.parts hk
  have e:=Zbw e1 e2
  rcases s1 with ⟨i,hi,pi,rfl,rfl⟩ | ⟨ni,rfl⟩ <;> rcases s2 with ⟨j,hj,pj,rfl,rfl⟩ | ⟨nj,rfl⟩
  ·rw [J5 T.P hi pi,J5 T.Q hj pj]
   conv=>lhs; rw [e]
   exact hg _ _ (pi.trans pj.symm)
  ·rw [J5 T.P hi pi,ZbL nj,Int.add_zero]
   conv=>lhs; rw [e]
   rw [Qs,UQ]; rfl
  ·rw [ZbL ni,J5 T.Q hj pj,Int.zero_add]
   conv=>lhs; rw [e]
   rw [Qs,Zcr]; rfl
  ·rw [Qs,Qs,UQ] at e
   exact absurd e (T.H.ne hk)
 rw [S_congr one,ZaZ,T.sum,T.symm.sum]
theorem Zdm (P:Rnd np p) (g:P2):∃ m:Int,(∃ i,i < np/\cx (p i) g=m)/\∀ i,i < np->cx (p i) g<=m:=by
 have:=P.n3
 obtain ⟨i,hi,_,mx⟩:=Zbv (fun i=>cx (p i) g) (fun _=>True) np ⟨0,by omega,trivial⟩
 exact ⟨_,⟨i,hi,rfl⟩,fun j hj=>mx j hj trivial⟩
noncomputable def kap (P:Rnd np p) (g:P2):Int:=(Zdm P g).choose
theorem ZfN (P:Rnd np p) (g:P2) {i:Nat} (hi:i < np):cx (p i) g<=kap P g:=(Zdm P g).choose_spec.2 i hi
theorem WN (P:Rnd np p) {g e a:P2} (pr:Par g e) (ha:∃ i,i < np/\a=p i) (l:Lst np p e a):kap P g=cx a g:=by
 obtain ⟨i,hi,rfl⟩:=ha
 obtain ⟨j,hj,e1⟩:=(Zdm P g).choose_spec.1
 have e1:cx (p j) g=kap P g:=e1
 have h1:=ZfN P g hi
 have h2:=(pr.nneg' (v:=df (p i) (p j))).mpr (l j hj)
 have:cx g (df (p i) (p j))=cx (p i) g-cx (p j) g:=by unfold cx df; grind
 omega
noncomputable def A3 (n:Nat) (p:Nat->P2):Int:=S n fun i=>cx (p i) (ed n p i)
theorem Ziv (n:Nat) (hn:0 < n) (p:Nat->P2) (u:P2):S n (fun i=>cx u (ed n p i))=0:=by
 have:∀ i,i < n->cx u (ed n p i)=- (cx u (p i)-cx u (p (nx n i))):=fun i _=>by unfold ed cx df; grind
 rw [S_congr this,ZiJ,ZjF hn (fun i=>cx u (p i))]; rfl
theorem Sm2.area (T:Sm2 np p nq q nh h):A3 nh h=A3 np p+A3 nq q+S nq (fun j=>kap T.P (ed nq q j))+S np (fun i=>kap T.Q (ed np p i)):=by
 have one:∀ k,k < nh->cx (h k) (ed nh h k)=(vl np p (ed nh h k) (fun i=>cx (p i) (ed np p i))+vl nq q (ed nh h k) (fun j=>cx (q j) (ed nq q j)))+(vl nq q (ed nh h k) (fun j=>kap T.P (ed nq q j))+vl np p (ed nh h k) (fun i=>kap T.Q (ed np p i))):=by
  intro k hk
  obtain ⟨a,b,a',b',e1,e2,⟨c1,l1⟩,⟨c2,l2⟩,s1,s2⟩:=T.parts hk
  have e:=Zbw e1 e2
  rcases s1 with ⟨i,hi,pi,rfl,rfl⟩ | ⟨ni,rfl⟩ <;> rcases s2 with ⟨j,hj,pj,rfl,rfl⟩ | ⟨nj,rfl⟩
  ·rw [J5 T.P hi pi,J5 T.Q hj pj,J5 T.Q hj pj,J5 T.P hi pi,WN T.P pj c1 l1,WN T.Q pi c2 l2]
   have e':ed nh h k=ad (ed np p i) (ed nq q j):=e
   rw [e',e1]
   unfold cx ad; grind
  ·rw [J5 T.P hi pi,ZbL nj,ZbL nj,J5 T.P hi pi,WN T.Q pi c2 l2]
   rw [Qs,UQ] at e
   have e':ed nh h k=ed np p i:=e
   rw [e',e1]
   unfold cx ad; grind
  ·rw [ZbL ni,J5 T.Q hj pj,J5 T.Q hj pj,ZbL ni,WN T.P pj c1 l1]
   rw [Qs,Zcr] at e
   have e':ed nh h k=ed nq q j:=e
   rw [e',e1]
   unfold cx ad; grind
  ·rw [Qs,Qs,UQ] at e
   exact absurd e (T.H.ne hk)
 unfold A3
 rw [S_congr one,ZaZ,ZaZ,ZaZ,T.sum,T.sum,T.symm.sum,T.symm.sum]
 omega
theorem kap_sum (P:Rnd np p) (Q:Rnd nq q):0<=S nq (fun j=>kap P (ed nq q j)):=by
 have n3:=P.n3
 have q3:=Q.n3
 have e:=Ziv nq (by omega) q (p 0)
 have:0<=S nq (fun j=>kap P (ed nq q j)-cx (p 0) (ed nq q j)):=S_nonneg fun j hj=>by have:=ZfN P (ed nq q j) (show 0 < np by omega); omega
 rw [ZjE,e] at this
 omega
theorem kap_own (P:Rnd np p):S np (fun i=>kap P (ed np p i))=A3 np p:=by
 unfold A3
 refine S_congr fun i hi=>?_
 exact WN P ⟨UM _,Jh (P.ne hi)⟩ ⟨i,hi,rfl⟩ fun k hk=>P.left i k hi hk
end
noncomputable def gcdV (u:P2):Int:=(Int.gcd u.1 u.2:Nat)
theorem WT {k a b:Int} (hk:0<=k) (h:Int.gcd a b=1):((Int.gcd (k*a) (k*b):Nat):Int)=k:=by
 rw [Int.gcd_mul_left,h]
 omega
theorem gcd_par {u v:P2} (h:Par u v):gcdV (ad u v)=gcdV u+gcdV v:=by
 have une:=h.symm.ne
 have gp:0 < Int.gcd u.1 u.2:=by
  rcases Nat.eq_zero_or_pos (Int.gcd u.1 u.2) with z | z
  ·exfalso
   rw [Int.gcd_eq_zero_iff] at z
   exact une (Prod.ext z.1 z.2)
  ·exact z
 obtain ⟨a,ha⟩:=Int.gcd_dvd_left u.1 u.2
 obtain ⟨b,hb⟩:=Int.gcd_dvd_right u.1 u.2
 generalize hg:Int.gcd u.1 u.2=g at *
 have cop:Int.gcd a b=1:=by
  have e:Int.gcd ((g:Int)*a) ((g:Int)*b)=g:=by rw [<-ha,<-hb]; exact hg
  rw [Int.gcd_mul_left] at e
  have:g*Int.gcd a b=g*1:=by simpa using e
  exact Nat.eq_of_mul_eq_mul_left gp this
 have g0:(0:Int) < g:=by omega
 have cz:a*v.2=b*v.1:=by
  have z:=h.1
  unfold cx at z
  rw [ha,hb] at z
  have:(g:Int)*(a*v.2-b*v.1)=0:=by rw [<-z]; grind
  have:=(Int.mul_eq_zero.mp this).resolve_left (by omega)
  omega
 obtain ⟨m,m1,m2⟩:∃ m:Int,v.1=a*m/\v.2=b*m:=by
  by_cases a0:a=0
  ·subst a0
   have b1:b.natAbs=1:=by simpa [Int.gcd] using cop
   rw [Int.zero_mul] at cz
   have v0:v.1=0:=(Int.mul_eq_zero.mp cz.symm).resolve_left (by omega)
   refine ⟨b*v.2,by rw [v0]; simp,?_⟩
   have bb:b*b=1:=by
    rcases Int.natAbs_eq b with q | q <;> rw [b1] at q <;> rw [q] <;> rfl
   rw [<-Int.mul_assoc,bb,Int.one_mul]
  ·have d:a.natAbs ∣ v.1.natAbs:=by
    have e:a.natAbs ∣ b.natAbs*v.1.natAbs:=⟨v.2.natAbs,by rw [<-Int.natAbs_mul,<-Int.natAbs_mul,cz]⟩
    exact Nat.Coprime.dvd_of_dvd_mul_left (show Nat.Coprime a.natAbs b.natAbs from cop) e
   obtain ⟨m,hm⟩:=Int.natAbs_dvd_natAbs.mp d
   refine ⟨m,hm,?_⟩
   rw [hm] at cz
   have:a*v.2=a*(b*m):=by rw [cz]; grind
   exact Int.eq_of_mul_eq_mul_left a0 this
 have mp:0 < m:=by
  have z:=h.2
  unfold dt at z
  rw [ha,hb,m1,m2] at z
  have e:(g:Int)*a*(a*m)+(g:Int)*b*(b*m)=m*((g:Int)*(a*a+b*b)):=by grind
  rw [e] at z
  rcases Int.lt_or_le 0 m with w | w
  ·exact w
  ·exfalso
   have s1:0<=a*a:=by rcases Int.le_total 0 a with q | q <;> first | exact pp0 q q | exact nn0 q q
   have s2:0<=b*b:=by rcases Int.le_total 0 b with q | q <;> first | exact pp0 q q | exact nn0 q q
   have:=np0 w (pp0 (Int.le_of_lt g0) (show 0<=a*a+b*b by omega))
   omega
 have e1:gcdV u=g:=by unfold gcdV; rw [hg]
 have e2:gcdV v=m:=by
  unfold gcdV
  rw [m1,m2,Int.mul_comm a m,Int.mul_comm b m]
  exact WT (by omega) cop
 have e3:gcdV (ad u v)=g+m:=by
  unfold gcdV ad
  simp only
  rw [ha,hb,m1,m2]
  have k1:(g:Int)*a+a*m=((g:Int)+m)*a:=by grind
  have k2:(g:Int)*b+b*m=((g:Int)+m)*b:=by grind
  rw [k1,k2]
  exact WT (by omega) cop
 rw [e1,e2,e3]
end Pg
namespace Hu
open Pg (P2 turn lexlt)
noncomputable def cr (u v:P2):Int:=u.1*v.2-u.2*v.1
noncomputable def lp (u:P2):Prop:=0 < u.1\/(u.1=0/\0 < u.2)
noncomputable def sub (b a:P2):P2:=(b.1-a.1,b.2-a.2)
theorem Zap (a b c:P2):turn a b c=cr (sub b a) (sub c b):=by unfold turn cr sub; grind
theorem Zej (a b c:P2):turn b c a=turn a b c:=by unfold turn; grind
theorem Ui (a b:P2):turn a b b=0:=by unfold turn; grind
theorem Va (a b:P2):turn a b a=0:=by unfold turn; grind
theorem lt_lp {a b:P2}:lexlt a b ↔ lp (sub b a):=by unfold lexlt lp sub; simp only; omega
theorem lx_trans {a b c:P2} (h:lexlt a b) (h':lexlt b c):lexlt a c:=by unfold lexlt at *; omega
theorem lx_irr {a:P2}:¬ lexlt a a:=by unfold lexlt; omega
theorem ZfI (a b:P2):lexlt a b\/a=b\/lexlt b a:=by
 obtain ⟨a1,a2⟩:=a; obtain ⟨b1,b2⟩:=b
 unfold lexlt; simp only [Prod.mk.injEq]; omega
theorem Zg2 (u v w:P2):cr u w*v.1=cr u v*w.1+cr v w*u.1:=by unfold cr; grind
theorem Zhd {u:P2} (h:lp u):0<=u.1:=by unfold lp at h; omega
theorem Zdb {a b:Int} (hb:0 < b) (h:0<=a*b):0<=a:=by
 by_cases z:0<=a
 ·exact z
 ·have:=Int.mul_neg_of_neg_of_pos (show a < 0 by omega) hb; omega
theorem Ve {a b:Int} (hb:0 < b) (h:0 < a*b):0 < a:=by
 by_cases z:0 < a
 ·exact z
 ·have:=Int.mul_nonneg (show 0<=-a by omega) (Int.le_of_lt hb); rw [Int.neg_mul] at this; omega
theorem tr {u v w:P2} (hu:lp u) (hv:lp v) (hw:lp w) (h1:0<=cr u v) (h2:0<=cr v w):0<=cr u w:=by
 rcases hv with hv | ⟨v1,v2⟩
 ·refine Zdb hv ?_
  rw [Zg2]
  have:=Int.mul_nonneg h1 (Zhd hw)
  have:=Int.mul_nonneg h2 (Zhd hu)
  omega
 ·have e2:cr v w=-(v.2*w.1):=by unfold cr; rw [v1]; omega
  have w1:w.1=0:=by
   rcases hw with q | ⟨q,_⟩
   ·have:=Int.mul_pos v2 q; omega
   ·exact q
  have w2:0 < w.2:=by unfold lp at hw; omega
  have e:cr u w=u.1*w.2:=by unfold cr; rw [w1]; omega
  rw [e]
  exact Int.mul_nonneg (Zhd hu) (Int.le_of_lt w2)
theorem tr1 {u v w:P2} (hu:lp u) (hv:lp v) (hw:lp w) (h1:0 < cr u v) (h2:0<=cr v w):0 < cr u w:=by
 rcases hv with hv | ⟨v1,v2⟩
 ·refine Ve hv ?_
  rw [Zg2]
  have a2:=Int.mul_nonneg h2 (Zhd hu)
  rcases hw with q | ⟨q,q2⟩
  ·have:=Int.mul_pos h1 q; omega
  ·have u1:0 < u.1:=by
    rcases hu with z | ⟨z,z2⟩
    ·exact z
    ·have e:cr u v=-(u.2*v.1):=by unfold cr; rw [z]; omega
     have:=Int.mul_pos z2 hv
     omega
   have e:cr v w=v.1*w.2:=by unfold cr; rw [q]; omega
   have p:0 < cr v w:=by rw [e]; exact Int.mul_pos hv q2
   have:=Int.mul_pos p u1
   rw [q,Int.mul_zero]; omega
 ·have e2:cr v w=-(v.2*w.1):=by unfold cr; rw [v1]; omega
  have w1:w.1=0:=by
   rcases hw with q | ⟨q,_⟩
   ·have:=Int.mul_pos v2 q; omega
   ·exact q
  have w2:0 < w.2:=by unfold lp at hw; omega
  have e1:cr u v=u.1*v.2:=by unfold cr; rw [v1]; omega
  have u1:0 < u.1:=by
   rcases hu with z | ⟨z,_⟩
   ·exact z
   ·rw [e1,z] at h1; omega
  have e:cr u w=u.1*w.2:=by unfold cr; rw [w1]; omega
  rw [e]; exact Int.mul_pos u1 w2
theorem tr2 {u v w:P2} (hu:lp u) (hv:lp v) (hw:lp w) (h1:0<=cr u v) (h2:0 < cr v w):0 < cr u w:=by
 rcases hv with hv | ⟨v1,v2⟩
 ·refine Ve hv ?_
  rw [Zg2]
  have a2:=Int.mul_nonneg h1 (Zhd hw)
  rcases hu with q | ⟨q,q2⟩
  ·have:=Int.mul_pos h2 q; omega
  ·exfalso
   have e:cr u v=-(u.2*v.1):=by unfold cr; rw [q]; omega
   have:=Int.mul_pos q2 hv
   omega
 ·exfalso
  have e2:cr v w=-(v.2*w.1):=by unfold cr; rw [v1]; omega
  have:=Int.mul_nonneg (Int.le_of_lt v2) (Zhd hw)
  omega
noncomputable def popT:List P2->P2->List P2
 | b::a::r,s=>if 0 < turn a b s then b::a::r else popT (a::r) s
 | w,_=>w
noncomputable def stk:List P2->List P2->List P2
 | w,[]=>w
 | w,s::r=>stk (s::popT w s) r
noncomputable def conv:List P2->Prop
 | c::b::a::r=>0 < turn a b c/\conv (b::a::r)
 | _=>True
noncomputable def above (q:P2):List P2->Prop
 | b::a::r=>0<=turn a b q/\above q (a::r)
 | _=>True
noncomputable def desc (w:List P2):Prop:=w.Pairwise fun x y=>lexlt y x
theorem ZdU {b:P2} {r:List P2} (h:conv (b::r)):conv r:=by
 match r,h with
 | [],_=>trivial
 | [a],_=>trivial
 | a::a'::r',h=>exact h.2
theorem Zck {q b:P2} {r:List P2} (h:above q (b::r)):above q r:=by
 match r,h with
 | [],_=>trivial
 | a::r',h=>exact h.2
theorem Zfe {w v:List P2} (h:conv w):v <:+ w->conv v:=by
 induction w with
 | nil=>intro s; rw [List.suffix_nil.mp s]; trivial
 | cons b r ih=>
  intro s
  rcases List.suffix_cons_iff.mp s with e | s
  ·rw [e]; exact h
  ·exact ih (ZdU h) s
theorem Zd6 {q:P2} {w v:List P2} (h:above q w):v <:+ w->above q v:=by
 induction w with
 | nil=>intro s; rw [List.suffix_nil.mp s]; trivial
 | cons b r ih=>
  intro s
  rcases List.suffix_cons_iff.mp s with e | s
  ·rw [e]; exact h
  ·exact ih (Zck h) s
theorem ZeP {b z:P2} {r w:List P2} (s:(b::r) <:+ w) (h:w.getLast?=some z):(b::r).getLast?=some z:=by
 obtain ⟨t,rfl⟩:=s
 rw [List.getLast?_append] at h
 cases e:(b::r).getLast? with
 | none=>simp at e
 | some y=>rw [e] at h; simpa using h
theorem ZfD (s:P2) (Q:List P2) (hs:∀ q∈Q,lexlt q s):∀ (w:List P2),w≠[]->desc w->(∀ q∈Q,above q w)->(∀ x∈w,x∈Q)->(∀ q∈Q,∀ z,w.getLast?=some z->¬ lexlt q z) ->
  (∀ q∈Q,∀ b,w.head?=some b->¬ lexlt q b->0<=turn b s q) ->
  ∃ b r,popT w s=b::r/\(b::r) <:+ w/\(∀ q∈Q,0<=turn b s q)/\(∀ a r',r=a::r'->0 < turn a b s)
 | [],h,_,_,_,_,_=>absurd rfl h
 | [t],_,_,_,_,hl,hh=>⟨t,[],rfl,List.suffix_refl _,fun q hq=>hh q hq t rfl (hl q hq t rfl),fun a r' z=>by cases z⟩
 | b::a::r,_,hd,ha,hm,hl,hh=>by
  have hab:lexlt a b:=(List.pairwise_cons.mp hd).1 a List.mem_cons_self
  have hbs:=hs b (hm b List.mem_cons_self)
  have has:=hs a (hm a (List.mem_cons_of_mem _ List.mem_cons_self))
  by_cases ht:0 < turn a b s
  ·refine ⟨b,a::r,by unfold popT; rw [if_pos ht],List.suffix_refl _,fun q hq=>?_,fun a' r' e=>by cases e; exact ht⟩
   by_cases hqb:lexlt q b
   ·have e:=(ha q hq).1
    have l1:=lt_lp.mp hqb; have l2:=lt_lp.mp hab; have l3:=lt_lp.mp hbs
    have c1:0<=cr (sub b q) (sub b a):=by rw [Zap] at e; unfold cr sub at e ⊢; simp only at e ⊢; grind
    have c2:0 < cr (sub b a) (sub s b):=by rw [Zap] at ht; exact ht
    have c3:=tr2 l1 l2 l3 c1 c2
    have e3:turn b s q=cr (sub b q) (sub s b):=by unfold turn cr sub; grind
    rw [e3]; exact Int.le_of_lt c3
   ·exact hh q hq b rfl hqb
  ·obtain ⟨b',r',e1,e2,e3,e4⟩:=ZfD s Q hs (a::r) (by simp) (List.pairwise_cons.mp hd).2 (fun q hq=>(ha q hq).2) (fun x hx=>hm x (List.mem_cons_of_mem _ hx))
    (fun q hq z hz=>hl q hq z (by rw [List.getLast?_cons_cons]; exact hz)) (fun q hq a' e hqa=>by
     cases e
     have eq:=(ha q hq).1
     by_cases hqb:lexlt q b
     ·have l1:=lt_lp.mp hab; have l2:=lt_lp.mp has
      have e3:turn a s q=cr (sub s a) (sub q a):=by unfold turn cr sub; grind
      rw [e3]
      rcases ZfI a q with z | z | z
      ·have l3:=lt_lp.mp z
       have c1:0<=cr (sub s a) (sub b a):=by unfold turn at ht; unfold cr sub; simp only; grind
       have c2:0<=cr (sub b a) (sub q a):=by unfold turn at eq; unfold cr sub; simp only; grind
       exact tr l2 l1 l3 c1 c2
      ·subst z; unfold cr sub; simp
      ·exact absurd z hqa
     ·have h1:=hh q hq b rfl hqb
      have e3:turn a s q=turn a b q+turn b s q-turn a b s:=by unfold turn; grind
      omega)
   refine ⟨b',r',by unfold popT; rw [if_neg ht]; exact e1,e2.trans (List.suffix_cons _ _),e3,e4⟩
theorem Zag (s:P2):∀ (w:List P2),conv (s::w)->desc (s::w)->above s w
 | [],_,_=>trivial
 | [b],_,_=>trivial
 | b::a::r,hc,hd=>by
  refine ⟨Int.le_of_lt hc.1,?_⟩
  obtain ⟨hs,hd'⟩:=List.pairwise_cons.mp hd
  obtain ⟨hb,hd''⟩:=List.pairwise_cons.mp hd'
  refine Zag s (a::r) ?_ (List.pairwise_cons.mpr ⟨fun x hx=>hs x (List.mem_cons_of_mem _ hx),hd''⟩)
  match r,hc,hd'',hb,hs with
  | [],_,_,_,_=>trivial
  | a'::r',hc,hd'',hb,hs=>
   refine ⟨?_,hc.2.2⟩
   have l1:=lt_lp.mp ((List.pairwise_cons.mp hd'').1 a' List.mem_cons_self)
   have l2:=lt_lp.mp (hb a List.mem_cons_self)
   have l3:=lt_lp.mp (hs b List.mem_cons_self)
   have c1:=hc.1
   have c2:=hc.2.1
   rw [Zap] at c1 c2
   have c3:=tr1 l1 l2 l3 c2 (Int.le_of_lt c1)
   have e:turn a' a s=cr (sub a a') (sub b a)+cr (sub a a') (sub s b):=by unfold turn cr sub; grind
   omega
structure Ch (w Q:List P2):Prop where
 ne:w≠[]
 desc:desc w
 mem:∀ x∈w,x∈Q
 conv:conv w
 above:∀ q∈Q,above q w
 top:∀ q∈Q,∀ b,w.head?=some b->¬ lexlt b q
 bot:∀ q∈Q,∀ z,w.getLast?=some z->¬ lexlt q z
theorem Zg3 {w Q:List P2} {s:P2} (c:Ch w Q) (hs:∀ q∈Q,lexlt q s):Ch (s::popT w s) (s::Q)/\(s::popT w s).getLast?=w.getLast?:=by
 obtain ⟨b,r,e1,e2,e3,e4⟩:=ZfD s Q hs w c.ne c.desc c.above c.mem c.bot (fun q hq b e hqb=>by
  have h1:=c.top q hq b e
  have hb:b∈w:=by cases w with | nil=>cases e | cons x y=>cases e; exact List.mem_cons_self
  rcases ZfI q b with z | z | z
  ·exact absurd z hqb
  ·rw [z,Va]; exact Int.le_refl _
  ·exact absurd z h1)
 rw [e1]
 have hmem:∀ x∈b::r,x∈Q:=fun x hx=>c.mem x (e2.mem hx)
 have hd:Hu.desc (s::b::r):=List.pairwise_cons.mpr ⟨fun x hx=>hs x (hmem x hx),List.Pairwise.sublist e2.sublist c.desc⟩
 have hc:Hu.conv (s::b::r):=by
  match r,e4,e2 with
  | [],_,_=>trivial
  | a::r',e4,e2=>exact ⟨e4 a r' rfl,Zfe c.conv e2⟩
 obtain ⟨z,hz⟩:∃ z,w.getLast?=some z:=by
  cases e:w.getLast? with
  | none=>exact absurd (List.getLast?_eq_none_iff.mp e) c.ne
  | some z=>exact ⟨z,rfl⟩
 have hl:(s::b::r).getLast?=some z:=by rw [List.getLast?_cons_cons]; exact ZeP e2 hz
 refine ⟨⟨by simp,hd,fun x hx=>?_,hc,fun q hq=>?_,fun q hq t e=>?_,fun q hq y e=>?_⟩,by rw [hl,hz]⟩
 ·rcases List.mem_cons.mp hx with q | q
  ·rw [q]; exact List.mem_cons_self
  ·exact List.mem_cons_of_mem _ (hmem x q)
 ·rcases List.mem_cons.mp hq with h | h
  ·rw [h]; exact ⟨by rw [Ui]; exact Int.le_refl _,Zag s (b::r) hc hd⟩
  ·exact ⟨e3 q h,Zd6 (c.above q h) e2⟩
 ·cases e
  rcases List.mem_cons.mp hq with h | h
  ·rw [h]; exact lx_irr
  ·exact fun x=>lx_irr (lx_trans x (hs q h))
 ·rw [hl] at e
  have e':y=z:=(Option.some.inj e).symm
  subst e'
  rcases List.mem_cons.mp hq with h | h
  ·rw [h]
   have:=hs y (c.mem y (List.mem_of_getLast? hz))
   exact fun x=>lx_irr (lx_trans x this)
  ·exact c.bot q h y hz
theorem Zfw:∀ (l w Q:List P2),Ch w Q->l.Pairwise lexlt->(∀ q∈Q,∀ x∈l,lexlt q x)->Ch (stk w l) (l.reverse++Q)/\(stk w l).getLast?=w.getLast?/\(stk w l).head?=(l.getLast?.or w.head?)
 | [],w,Q,c,_,_=>⟨by simpa [stk] using c,rfl,by simp [stk]⟩
 | s::l,w,Q,c,hp,hq=>by
  obtain ⟨h1,h2⟩:=List.pairwise_cons.mp hp
  obtain ⟨c1,e1⟩:=Zg3 c fun q h=>hq q h s List.mem_cons_self
  obtain ⟨c2,e2,e3⟩:=Zfw l (s::popT w s) (s::Q) c1 h2 fun q h x hx=>by
   rcases List.mem_cons.mp h with z | z
   ·rw [z]; exact h1 x hx
   ·exact hq q z x (List.mem_cons_of_mem _ hx)
  unfold stk
  refine ⟨by simpa using c2,e2.trans e1,?_⟩
  rw [e3]
  cases l with
  | nil=>simp
  | cons x y=>rw [List.getLast?_cons_cons]; cases e:(x::y).getLast? with | none=>simp at e | some z=>simp
theorem conv_get:∀ {w:List P2} {i:Nat} {a b c:P2},conv w->w[i]?=some c->w[i+1]?=some b->w[i+2]?=some a->0 < turn a b c
 | [],i,a,b,c,_,h,_,_=>by simp at h
 | [x],i,a,b,c,_,_,h,_=>by simp at h
 | [x,y],i,a,b,c,_,_,_,h=>by simp at h
 | x::y::z::r,0,a,b,c,hc,h1,h2,h3=>by
  simp at h1 h2 h3; subst h1 h2 h3; exact hc.1
 | x::y::z::r,i+1,a,b,c,hc,h1,h2,h3=>conv_get (w:=y::z::r) (i:=i) hc.2 (by simpa using h1) (by simpa using h2) (by simpa using h3)
theorem above_get {q:P2}:∀ {w:List P2} {i:Nat} {a b:P2},above q w->w[i]?=some b->w[i+1]?=some a->0<=turn a b q
 | [],i,a,b,_,h,_=>by simp at h
 | [x],i,a,b,_,_,h=>by simp at h
 | x::y::r,0,a,b,hc,h1,h2=>by
  simp at h1 h2; subst h1 h2; exact hc.1
 | x::y::r,i+1,a,b,hc,h1,h2=>above_get (w:=y::r) (i:=i) hc.2 (by simpa using h1) (by simpa using h2)
theorem Vv {q m:P2} {W:List P2} (h:above q (m::W)):∀ (V:List P2),above q (V++[m])->above q (V++m::W)
 | [],_=>h
 | [a],hV=>⟨hV.1,h⟩
 | a::b::V,hV=>⟨hV.1,Vv h (b::V) hV.2⟩
theorem Ji {m:P2} {W:List P2} (h:conv (m::W)):∀ (V:List P2),conv (V++[m])->(∀ a b,V.getLast?=some b->W.head?=some a->0 < turn a m b)->conv (V++m::W)
 | [],_,_=>h
 | [b],hV,hj=>by
  match W,h,hj with
  | [],_,_=>trivial
  | a::W',h,hj=>exact ⟨hj a b rfl rfl,h⟩
 | [c,b],hV,hj=>⟨hV.1,Ji h [b] hV.2 hj⟩
 | d::c::b::V,hV,hj=>⟨hV.1,Ji h (c::b::V) hV.2 (fun a b' e1 e2=>hj a b' (by rw [List.getLast?_cons_cons]; exact e1) e2)⟩
noncomputable def neg (p:P2):P2:=(-p.1,-p.2)
theorem Y8 (p:P2):neg (neg p)=p:=by unfold neg; simp
theorem Ua (a b c:P2):turn (neg a) (neg b) (neg c)=turn a b c:=by unfold turn neg; grind
theorem lex_neg {a b:P2}:lexlt (neg a) (neg b) ↔ lexlt b a:=by unfold lexlt neg; simp only; omega
theorem ZcV (s:P2):∀ (w:List P2),popT (w.map neg) (neg s)=(popT w s).map neg
 | []=>rfl
 | [a]=>rfl
 | b::a::r=>by
  have ih:=ZcV s (a::r)
  simp only [List.map_cons] at ih ⊢
  unfold popT
  rw [Ua]
  by_cases h:0 < turn a b s
  ·rw [if_pos h,if_pos h]; rfl
  ·rw [if_neg h,if_neg h]; exact ih
theorem ZcD:∀ (l w:List P2),stk (w.map neg) (l.map neg)=(stk w l).map neg
 | [],w=>rfl
 | s::l,w=>by
  have ih:=ZcD l (s::popT w s)
  simp only [List.map_cons] at ih ⊢
  unfold stk
  rw [ZcV]; exact ih
theorem V7:∀ (w:List P2),conv (w.map neg)->conv w
 | [],_=>trivial
 | [a],_=>trivial
 | [a,b],_=>trivial
 | a::b::c::r,h=>⟨by rw [<-Ua]; exact h.1,V7 (b::c::r) h.2⟩
theorem UR (q:P2):∀ (w:List P2),above (neg q) (w.map neg)->above q w
 | [],_=>trivial
 | [a],_=>trivial
 | a::b::r,h=>⟨by rw [<-Ua]; exact h.1,UR q (b::r) h.2⟩
theorem W7 (w : List P2) (h : conv w) : conv (w.map neg) := by
  have e : (w.map neg).map neg = w := by rw [List.map_map]; conv => rhs; rw [<- List.map_id w]
                                         exact List.map_congr_left fun p _ => Y8 p
  exact V7 _ (by rw [e]; exact h)
theorem Vu (q : P2) (w : List P2) (h : above q w) : above (neg q) (w.map neg) := by
  have e : (w.map neg).map neg = w := by rw [List.map_map]; conv => rhs; rw [<- List.map_id w]
                                         exact List.map_congr_left fun p _ => Y8 p
  exact UR _ _ (by rw [e, Y8]; exact h)
structure Up (W rs:List P2):Prop where
 asc:W.Pairwise fun x y=>lexlt y x
 mem:∀ x∈W,x∈rs
 conv:conv W
 above:∀ q∈rs,above q W
 head:W.head?=rs.getLast?
 last:W.getLast?=rs.head?
theorem Zhk {rs:List P2} (hr:rs.Pairwise lexlt) (hne:rs≠[]):Up (stk [] rs) rs:=by
 match rs,hne,hr with
 | p::l,_,hr=>
  obtain ⟨h1,h2⟩:=List.pairwise_cons.mp hr
  have c0:Ch [p] [p]:=⟨by simp,by unfold desc; simp,fun x h=>h,trivial,fun _ _=>trivial,fun q hq b e=>by cases e; rw [List.mem_singleton.mp hq]; exact lx_irr,fun q hq b e=>by cases e; rw [List.mem_singleton.mp hq]; exact lx_irr⟩
  obtain ⟨c,e1,e2⟩:=Zfw l [p] [p] c0 h2 fun q hq x hx=>by rw [List.mem_singleton.mp hq]; exact h1 x hx
  have em:∀ x,x∈l.reverse++[p] ↔ x∈p::l:=fun x=>by simp [or_comm]
  refine ⟨c.desc,fun x hx=>(em x).mp (c.mem x hx),c.conv,fun q hq=>c.above q ((em q).mpr hq),?_,?_⟩
  ·show (stk [p] l).head?=_
   rw [e2]
   cases l with
   | nil=>rfl
   | cons a r=>rw [List.getLast?_cons_cons]; cases e:(a::r).getLast? with | none=>simp at e | some z=>rfl
  ·exact e1
structure Dn (V rs:List P2):Prop where
 desc:V.Pairwise lexlt
 mem:∀ x∈V,x∈rs
 conv:conv V
 above:∀ q∈rs,above q V
 head:V.head?=rs.head?
 last:V.getLast?=rs.getLast?
theorem ZjA {rs:List P2} (hr:rs.Pairwise lexlt) (hne:rs≠[]):Dn (stk [] rs.reverse) rs:=by
 have hr':(rs.reverse.map neg).Pairwise lexlt:=by
  rw [List.pairwise_map,List.pairwise_reverse]
  exact hr.imp fun h=>lex_neg.mpr h
 have u:=Zhk hr' (by simpa using hne)
 have e:stk [] (rs.reverse.map neg)=(stk [] rs.reverse).map neg:=ZcD rs.reverse []
 rw [e] at u
 have inj:∀ {x:P2} {l:List P2},neg x∈l.map neg->x∈l:=fun {x l} h=>by
  obtain ⟨y,hy,ey⟩:=List.mem_map.mp h
  have:y=x:=by rw [<-Y8 y,ey,Y8]
  exact this ▸ hy
 refine ⟨?_,fun x hx=>?_,V7 _ u.conv,fun q hq=>UR q _ (u.above (neg q) (List.mem_map.mpr ⟨q,List.mem_reverse.mpr hq,rfl⟩)),?_,?_⟩
 ·have:=u.asc
  rw [List.pairwise_map] at this
  exact this.imp fun h=>lex_neg.mp h
 ·exact List.mem_reverse.mp (inj (u.mem (neg x) (List.mem_map.mpr ⟨x,hx,rfl⟩)))
 ·have:=u.head
  rw [List.head?_map,List.getLast?_map,List.getLast?_reverse] at this
  cases h1:(stk [] rs.reverse).head? <;> cases h2:rs.head? <;> rw [h1,h2] at this <;> simp at this
  rename_i a b
  rw [show a=b by rw [<-Y8 a,this,Y8]]
 ·have:=u.last
  rw [List.getLast?_map,List.head?_map,List.head?_reverse] at this
  cases h1:(stk [] rs.reverse).getLast? <;> cases h2:rs.getLast? <;> rw [h1,h2] at this <;> simp at this
  rename_i a b
  rw [show a=b by rw [<-Y8 a,this,Y8]]
theorem VV {W V Q W1 V0:List P2} {M u v:P2} (hW:W=M::u::W1) (hV:V=V0++[v,M]) (cW:conv W) (cV:conv V) (aW:∀ q∈Q,above q W) (aV:∀ q∈Q,above q V) (hQ:∀ q∈Q,q=M\/lexlt q M)
  (mW:∀ x∈W,x∈Q) (mV:∀ x∈V,x∈Q) (uM:lexlt u M) (vM:lexlt v M) (h3:3<=W.length\/3<=V.length):0 < turn u M v:=by
 have gW:∀ q∈Q,0<=turn u M q:=fun q hq=>above_get (i:=0) (aW q hq) (by rw [hW]; rfl) (by rw [hW]; rfl)
 have v1:V[V0.length]?=some v:=by rw [hV]; simp
 have v2:V[V0.length+1]?=some M:=by rw [hV,List.getElem?_append_right (by omega)]; simp
 have gV:∀ q∈Q,0<=turn M v q:=fun q hq=>above_get (i:=V0.length) (aV q hq) v1 v2
 have vQ:v∈Q:=mV v (by rw [hV]; simp)
 have h0:=gW v vQ
 have lu:=lt_lp.mp uM
 have lv:=lt_lp.mp vM
 refine Int.lt_iff_le_and_ne.mpr ⟨h0,fun z=>?_⟩
 have all:∀ q∈Q,turn u M q=0/\turn M v q=0:=fun q hq=>by
  rcases hQ q hq with e | e
  ·subst e; exact ⟨Ui _ _,Va _ _⟩
  ·have lq:=lt_lp.mp e
   have a1:=gW q hq; have a2:=gV q hq
   have e1:turn u M q=cr (sub M q) (sub M u):=by unfold turn cr sub; grind
   have e2:turn M v q=cr (sub M v) (sub M q):=by unfold turn cr sub; grind
   have e3:turn u M v=cr (sub M v) (sub M u):=by unfold turn cr sub; grind
   rw [e1] at a1; rw [e2] at a2; rw [e1,e2]; rw [e3] at z
   constructor
   ·refine Int.le_antisymm ?_ a1
    refine Int.not_lt.mp fun h=>?_
    have:=tr2 lv lq lu a2 h
    omega
   ·refine Int.le_antisymm ?_ a2
    refine Int.not_lt.mp fun h=>?_
    have:=tr1 lv lq lu h a1
    omega
 rcases h3 with h | h
 ·match W1,hW with
  | [],hW=>rw [hW] at h; simp at h
  | u'::r,hW=>
   have c:=conv_get (i:=0) cW (a:=u') (b:=u) (c:=M) (by rw [hW]; rfl) (by rw [hW]; rfl) (by rw [hW]; rfl)
   have:=(all u' (mW u' (by rw [hW]; simp))).1
   rw [<-Zej] at c; omega
 ·have hl:0 < V0.length:=by rw [hV] at h; simp at h; omega
  have v0:V[V0.length-1]?=some (V0[V0.length-1]):=by rw [hV,List.getElem?_append_left (by omega)]; simp
  have c:=conv_get (i:=V0.length-1) cV v0 (by rw [show V0.length-1+1=V0.length by omega]; exact v1) (by rw [show V0.length-1+2=V0.length+1 by omega]; exact v2)
  have:=(all V0[V0.length-1] (mV _ (List.mem_of_getElem? v0))).2
  omega
theorem Zex {R:P2->P2->Prop} {l:List P2} (h:l.Pairwise R) {i j:Nat} {a b:P2} (ha:l[i]?=some a) (hb:l[j]?=some b) (hij:i < j):R a b:=by
 obtain ⟨hi,rfl⟩:=List.getElem?_eq_some_iff.mp ha
 obtain ⟨hj,rfl⟩:=List.getElem?_eq_some_iff.mp hb
 exact List.pairwise_iff_getElem.mp h i j hi hj hij
theorem ZeV {W V rs:List P2} (u:Up W rs) (d:Dn V rs) {x m M:P2} (hm:rs.head?=some m) (hM:rs.getLast?=some M) (h1:x∈W) (h2:x∈V):x=m\/x=M:=by
 by_cases e1:x=m
 ·exact .inl e1
 by_cases e2:x=M
 ·exact .inr e2
 exfalso
 obtain ⟨i,hi,ei⟩:=List.getElem_of_mem h1
 obtain ⟨j,hj,ej⟩:=List.getElem_of_mem h2
 have gi:W[i]?=some x:=by rw [List.getElem?_eq_getElem hi,ei]
 have gj:V[j]?=some x:=by rw [List.getElem?_eq_getElem hj,ej]
 have i0:i≠0:=fun z=>by
  subst z
  rw [<-List.head?_eq_getElem?,u.head,hM] at gi
  exact e2 (Option.some.inj gi).symm
 have i1:i+1 < W.length:=by
  by_cases q:i+1 < W.length
  ·exact q
  ·have e:i=W.length-1:=by omega
   rw [e,<-List.getLast?_eq_getElem?,u.last,hm] at gi
   exact absurd (Option.some.inj gi).symm e1
 have j1:j+1 < V.length:=by
  by_cases q:j+1 < V.length
  ·exact q
  ·have e:j=V.length-1:=by omega
   rw [e,<-List.getLast?_eq_getElem?,d.last,hM] at gj
   exact absurd (Option.some.inj gj).symm e2
 have gc:W[i-1]?=some W[i-1]:=List.getElem?_eq_getElem (by omega)
 have ga:W[i+1]?=some W[i+1]:=List.getElem?_eq_getElem i1
 have gz:V[j+1]?=some V[j+1]:=List.getElem?_eq_getElem j1
 generalize W[i-1]=c at gc
 generalize W[i+1]=a at ga
 generalize V[j+1]=z at gz
 have c1:=conv_get (i:=i-1) u.conv gc (by rw [show i-1+1=i by omega]; exact gi) (by rw [show i-1+2=i+1 by omega]; exact ga)
 have xa:=Zex u.asc gi ga (by omega)
 have cx:=Zex u.asc gc gi (by omega)
 have xz:=Zex d.desc gj gz (by omega)
 have t1:=above_get (i:=i-1) (u.above z (d.mem z (List.mem_of_getElem? gz))) gc (by rw [show i-1+1=i by omega]; exact gi)
 have t2:=above_get (i:=j) (d.above a (u.mem a (List.mem_of_getElem? ga))) gj gz
 have l1:=lt_lp.mp cx; have l2:=lt_lp.mp xz; have l3:=lt_lp.mp xa
 have k1:0<=cr (sub c x) (sub z x):=by unfold turn at t1; unfold cr sub; simp only; grind
 have k2:0<=cr (sub z x) (sub x a):=by unfold turn at t2; unfold cr sub; simp only; grind
 have k3:=tr l1 l2 l3 k1 k2
 have k4:cr (sub c x) (sub x a)=- turn a x c:=by unfold turn cr sub; grind
 omega
noncomputable def hullL (rs:List P2):List P2:=(stk [] rs).reverse.dropLast++(stk [] rs.reverse).reverse.dropLast
theorem hull_ok {rs:List P2} (hr:rs.Pairwise lexlt) {m M:P2} (hm:rs.head?=some m) (hM:rs.getLast?=some M) :
  ((hullL rs).length < 3->∀ q∈rs,turn m M q=0) /\
  (3<=(hullL rs).length->(hullL rs).Nodup/\(∀ x∈hullL rs,x∈rs)/\(hullL rs).head?=some m/\∃ z,(hullL rs).getLast?=some z/\conv ((z::hullL rs++[m]).reverse)/\∀ q∈rs,above q ((hullL rs++[m]).reverse)):=by
 have hne:rs≠[]:=fun z=>by rw [z] at hm; cases hm
 have u:=Zhk hr hne
 have d:=ZjA hr hne
 unfold hullL
 generalize stk [] rs=W at u
 generalize stk [] rs.reverse=V at d
 rw [List.dropLast_reverse,List.dropLast_reverse]
 have hlo:∀ q∈rs,q=m\/lexlt m q:=fun q hq=>by
  cases rs with
  | nil=>cases hm
  | cons p l=>
   cases hm
   rcases List.mem_cons.mp hq with z | z
   ·exact .inl z
   ·exact .inr ((List.pairwise_cons.mp hr).1 q z)
 have hhi:∀ q∈rs,q=M\/lexlt q M:=fun q hq=>by
  obtain ⟨i,hi,ei⟩:=List.getElem_of_mem hq
  by_cases z:i+1=rs.length
  ·rw [List.getLast?_eq_getElem?,show rs.length-1=i by omega,List.getElem?_eq_getElem hi,ei] at hM
   exact .inl (Option.some.inj hM)
  ·rw [List.getLast?_eq_getElem?] at hM
   exact .inr (Zex hr (i:=i) (j:=rs.length-1) (by rw [List.getElem?_eq_getElem hi,ei]) hM (by omega))
 by_cases hmM:m=M
 ·subst hmM
  have one:∀ q∈rs,q=m:=fun q hq=>by
   rcases hlo q hq with z | z
   ·exact z
   ·rcases hhi q hq with y | y
    ·exact y
    ·exact absurd (lx_trans z y) lx_irr
  have w1:W.tail=[]:=by
   match W,u with
   | [],_=>rfl
   | [a],_=>rfl
   | a::b::r,u=>
    have e1:=one a (u.mem a (by simp)); have e2:=one b (u.mem b (by simp))
    have:=(List.pairwise_cons.mp u.asc).1 b (by simp)
    rw [e1,e2] at this; exact absurd this lx_irr
  have v1:V.tail=[]:=by
   match V,d with
   | [],_=>rfl
   | [a],_=>rfl
   | a::b::r,d=>
    have e1:=one a (d.mem a (by simp)); have e2:=one b (d.mem b (by simp))
    have:=(List.pairwise_cons.mp d.desc).1 b (by simp)
    rw [e1,e2] at this; exact absurd this lx_irr
  rw [w1,v1]
  refine ⟨fun _ q hq=>?_,fun h=>by simp at h⟩
  rw [one q hq]; exact Ui _ _
 have hW:=u.head; have hWl:=u.last; have hV:=d.head; have hVl:=d.last
 rw [hM] at hW hVl
 rw [hm] at hWl hV
 match W,V,u,d,hW,hWl,hV,hVl with
 | [],_,_,_,hW,_,_,_=>cases hW
 | _,[],_,_,_,_,hV,_=>cases hV
 | [a],_,_,_,hW,hWl,_,_=>cases hW; cases hWl; exact absurd rfl hmM
 | _,[a],_,_,_,_,hV,hVl=>cases hV; cases hVl; exact absurd rfl hmM
 | a::w1::W',b::v1::V',u,d,hW,hWl,hV,hVl=>
  cases hW; cases hV
  rw [List.getLast?_cons_cons] at hWl hVl
  simp only [List.tail_cons]
  obtain ⟨W2,eW⟩:∃ W2,w1::W'=W2++[m]:=by
   obtain ⟨h,e⟩:=List.getLast?_eq_some_iff.mp hWl; exact ⟨h,e⟩
  obtain ⟨V2,eV⟩:∃ V2,v1::V'=V2++[M]:=by
   obtain ⟨h,e⟩:=List.getLast?_eq_some_iff.mp hVl; exact ⟨h,e⟩
  constructor
  ·intro hl q hq
   simp only [List.length_append,List.length_reverse,List.length_cons] at hl
   have z1:W'=[]:=List.eq_nil_of_length_eq_zero (by omega)
   have z2:V'=[]:=List.eq_nil_of_length_eq_zero (by omega)
   subst z1 z2
   have e1:w1=m:=by simpa using hWl
   have e2:v1=M:=by simpa using hVl
   subst e1 e2
   have a1:=(u.above q hq).1
   have a2:=(d.above q hq).1
   have:turn v1 w1 q=- turn w1 v1 q:=by unfold turn; grind
   omega
  ·intro h3
   simp only [List.length_append,List.length_reverse,List.length_cons] at h3
   have h3':3<=(M::w1::W').length\/3<=(m::v1::V').length:=by simp only [List.length_cons]; omega
   have disj:∀ x∈w1::W',∀ y∈v1::V',x≠y:=fun x hx y hy e=>by
    subst e
    rcases ZeV u d hm hM (List.mem_cons_of_mem _ hx) (List.mem_cons_of_mem _ hy) with z | z
    ·have:=(List.pairwise_cons.mp d.desc).1 x hy
     rw [z] at this; exact lx_irr this
    ·have:=(List.pairwise_cons.mp u.asc).1 x hx
     rw [z] at this; exact lx_irr this
   have w1M:lexlt w1 M:=(List.pairwise_cons.mp u.asc).1 w1 (by simp)
   have mv1:lexlt m v1:=(List.pairwise_cons.mp d.desc).1 v1 (by simp)
   have jM:∀ b',V2.getLast?=some b'->0 < turn w1 M b':=fun b' hb=>by
    obtain ⟨V3,e3⟩:=List.getLast?_eq_some_iff.mp hb
    have e4:v1::V'=V3++[b',M]:=by rw [eV,e3]; simp
    have bM:lexlt b' M:=by
     have:=d.desc
     rw [e4] at this
     have:=(List.pairwise_cons.mp this).2
     have:=(List.pairwise_append.mp this).2.1
     exact (List.pairwise_cons.mp this).1 M (by simp)
    exact VV (W:=M::w1::W') (V:=m::v1::V') (Q:=rs) (V0:=m::V3) rfl (by rw [e4]; rfl) u.conv d.conv u.above d.above hhi u.mem d.mem w1M bM h3'
   have jM0:V2=[]->0 < turn w1 M m:=fun z=>by
    subst z
    have e4:v1::V'=[M]:=by simpa using eV
    exact VV (W:=M::w1::W') (V:=m::v1::V') (Q:=rs) (V0:=[]) rfl (by rw [e4]; rfl) u.conv d.conv u.above d.above hhi u.mem d.mem w1M (by
     rcases hhi m (d.mem m (by simp)) with z | z
     ·exact absurd z hmM
     ·exact z) h3'
   have jm:∀ c,(M::W2).getLast?=some c->0 < turn v1 m c:=fun c hc=>by
    obtain ⟨W3,e3⟩:=List.getLast?_eq_some_iff.mp hc
    have e4:M::w1::W'=W3++[c,m]:=by rw [eW,<-List.cons_append,e3]; simp
    have cm:lexlt m c:=by
     have:=u.asc
     rw [e4] at this
     have:=(List.pairwise_append.mp this).2.1
     exact (List.pairwise_cons.mp this).1 m (by simp)
    have:=VV (W:=(m::v1::V').map neg) (V:=(M::w1::W').map neg) (Q:=rs.map neg) (M:=neg m) (u:=neg v1) (v:=neg c) (W1:=V'.map neg) (V0:=W3.map neg) rfl (by rw [e4]; simp) (W7 _ d.conv) (W7 _ u.conv)
     (fun q hq=>by obtain ⟨p,hp,rfl⟩:=List.mem_map.mp hq; exact Vu p _ (d.above p hp)) (fun q hq=>by obtain ⟨p,hp,rfl⟩:=List.mem_map.mp hq; exact Vu p _ (u.above p hp))
     (fun q hq=>by
      obtain ⟨p,hp,rfl⟩:=List.mem_map.mp hq
      rcases hlo p hp with z | z
      ·exact .inl (by rw [z])
      ·exact .inr (lex_neg.mpr z))
     (fun x hx=>by obtain ⟨p,hp,rfl⟩:=List.mem_map.mp hx; exact List.mem_map.mpr ⟨p,d.mem p hp,rfl⟩) (fun x hx=>by obtain ⟨p,hp,rfl⟩:=List.mem_map.mp hx; exact List.mem_map.mpr ⟨p,u.mem p hp,rfl⟩)
     (lex_neg.mpr mv1) (lex_neg.mpr cm) (by rw [List.length_map,List.length_map]; exact h3'.symm)
    rwa [Ua] at this
   have cW:conv (M::W2++[m]):=by have:=u.conv; rw [eW] at this; exact this
   have cV:conv (m::V2++[M]):=by have:=d.conv; rw [eV] at this; exact this
   refine ⟨?_,?_,?_,v1,?_,?_,?_⟩
   ·rw [List.nodup_append]
    refine ⟨(List.reverse_perm _).nodup_iff.mpr ?_,(List.reverse_perm _).nodup_iff.mpr ?_,fun x hx y hy=>disj x (List.mem_reverse.mp hx) y (List.mem_reverse.mp hy)⟩
    ·exact ((List.pairwise_cons.mp u.asc).2).imp fun {a b} h e=>by subst e; exact lx_irr h
    ·exact ((List.pairwise_cons.mp d.desc).2).imp fun {a b} h e=>by subst e; exact lx_irr h
   ·intro x hx
    rcases List.mem_append.mp hx with h | h
    ·exact u.mem x (List.mem_cons_of_mem _ (List.mem_reverse.mp h))
    ·exact d.mem x (List.mem_cons_of_mem _ (List.mem_reverse.mp h))
   ·rw [eW]; simp
   ·rw [List.getLast?_append]; simp
   ·have e:(v1::((w1::W').reverse++(v1::V').reverse)++[m]).reverse=(m::V2)++M::(W2++m::[v1]):=by
     rw [eW,eV]; simp
    rw [e]
    refine Ji ?_ (m::V2) cV fun a b hb ha=>?_
    ·refine Ji (m:=m) (W:=[v1]) trivial (M::W2) cW fun a b hb ha=>?_
     cases ha
     exact jm b hb
    ·have ea:a=w1:=by
      cases W2 with
      | nil=>simp at eW ha; rw [<-ha,eW.1]
      | cons x y=>simp at eW ha; rw [<-ha,eW.1]
     subst ea
     cases V2 with
     | nil=>cases hb; exact jM0 rfl
     | cons x y=>rw [List.getLast?_cons_cons] at hb; exact jM b hb
   ·intro q hq
    have e:(((w1::W').reverse++(v1::V').reverse)++[m]).reverse=(m::V2)++M::(w1::W'):=by
     rw [eV]; simp
    rw [e]
    exact Vv (u.above q hq) (m::V2) (by have:=d.above q hq; rw [eV] at this; exact this)
end Hu
namespace Hu
open Pg
theorem turn_tr (v a b c:P2):turn (ad v a) (ad v b) (ad v c)=turn a b c:=by unfold turn ad; grind
theorem lex_tr {v a b:P2}:lexlt (ad v a) (ad v b) ↔ lexlt a b:=by unfold lexlt ad; simp only; omega
theorem ZfC (v s:P2):∀ (w:List P2),popT (w.map (ad v)) (ad v s)=(popT w s).map (ad v)
 | []=>rfl
 | [a]=>rfl
 | b::a::r=>by
  have ih:=ZfC v s (a::r)
  simp only [List.map_cons] at ih ⊢
  unfold popT
  rw [turn_tr]
  by_cases h:0 < turn a b s
  ·rw [if_pos h,if_pos h]; rfl
  ·rw [if_neg h,if_neg h]; exact ih
theorem ZcC (v:P2):∀ (l w:List P2),stk (w.map (ad v)) (l.map (ad v))=(stk w l).map (ad v)
 | [],w=>rfl
 | s::l,w=>by
  have ih:=ZcC v l (s::popT w s)
  simp only [List.map_cons] at ih ⊢
  unfold stk
  rw [ZfC]; exact ih
theorem hull_tr (v:P2) (rs:List P2):hullL (rs.map (ad v))=(hullL rs).map (ad v):=by
 have h1:=ZcC v rs []
 have h2:=ZcC v rs.reverse []
 simp only [List.map_nil] at h1 h2
 unfold hullL
 rw [<-List.map_reverse,h1,h2]
 simp [List.map_dropLast]
theorem ris_tr {v:P2} {rs:List P2} (h:rs.Pairwise lexlt):(rs.map (ad v)).Pairwise lexlt:=by
 rw [List.pairwise_map]
 exact h.imp fun {a b} q=>lex_tr.mpr q
theorem hull3 {rs:List P2} (hr:rs.Pairwise lexlt) {a b c:P2} (ha:a∈rs) (hb:b∈rs) (hc:c∈rs) (ht:turn a b c≠0):3<=(hullL rs).length:=by
 rcases Nat.lt_or_ge (hullL rs).length 3 with hl | hl
 ·exfalso
  cases rs with
  | nil=>cases ha
  | cons m r=>
   obtain ⟨M,eM⟩:∃ M,(m::r).getLast?=some M:=⟨_,List.getLast?_eq_some_getLast (List.cons_ne_nil m r)⟩
   have z:=(hull_ok hr rfl eM).1 hl
   have za:=z a ha; have zb:=z b hb; have zc:=z c hc
   by_cases e:m=M
   ·cases r with
    | nil=>
     rw [List.mem_singleton.mp ha,List.mem_singleton.mp hb,List.mem_singleton.mp hc] at ht
     exact ht (by unfold turn; grind)
    | cons y r=>
     rw [List.getLast?_cons_cons] at eM
     have:=(List.pairwise_cons.mp hr).1 M (List.mem_of_getLast? eM)
     rw [e] at this
     exact lx_irr this
   ·have d1:(M.1-m.1)*turn a b c=0:=by unfold turn at *; grind
    have d2:(M.2-m.2)*turn a b c=0:=by unfold turn at *; grind
    rcases Int.mul_eq_zero.mp d1 with q | q
    ·rcases Int.mul_eq_zero.mp d2 with q' | q'
     ·exact e (Prod.ext (by omega) (by omega))
     ·exact ht q'
    ·exact ht q
 ·exact hl
end Hu
namespace L3
open PySem PySem.Spec PyProof.Rows L2 SetTab PySem.SetTable
theorem Za9:Manifest.owners.lookup (String.ofList ['r','o','t','a','r','e','t','i','_','t','e','s'].reverse)=some Manifest.sig_set_iterator:=by kernel_rfl
theorem si_next:Slot "set_iterator" "__next__" "set_iterator.__next__":=
 .of (owner:="set_iterator") (n:="__next__") (by rw [typeLookup_type,builtinLookup_eq_fast]; kernel_rfl) (by decide +kernel) (by decide +kernel) (by decide +kernel)
  (by first | exact .inl (by decide +kernel) | exact .inr (by decide +kernel)) (by rw [isSubtype_type]; kernel_rfl)
theorem ZcI:Slot "set_iterator" "__iter__" "set_iterator.__iter__":=
 .of (owner:="set_iterator") (n:="__iter__") (by rw [typeLookup_type,builtinLookup_eq_fast]; kernel_rfl) (by decide +kernel) (by decide +kernel) (by decide +kernel)
  (by first | exact .inl (by decide +kernel) | exact .inr (by decide +kernel)) (by rw [isSubtype_type]; kernel_rfl)
theorem Zba:entryFor table "set_iterator.__next__"=some Builtin.«set_iterator.__next__»:=entryFor_of_tree (by kernel_rfl)
theorem Zen:entryFor table "set_iterator.__iter__"=some Builtin.«dict_keyiterator.__iter__»:=
 entryFor_alias (id':="dict_keyiterator.__iter__") (by kernel_rfl) (by first | rfl | decide +kernel | (unfold String.splitOn; simp +decide [String.splitOnAux])) (by decide +kernel) (by kernel_rfl)
theorem ZcJ:entryFor table "set.__iter__"=some Builtin.«frozenset.__iter__»:=
 entryFor_alias (id':="frozenset.__iter__") (by kernel_rfl) (by first | rfl | decide +kernel | (unfold String.splitOn; simp +decide [String.splitOnAux])) (by decide +kernel) (by kernel_rfl)
theorem Zbb (a:Value):argsOk "set_iterator.__next__" ⟨[a],[]⟩:=by
 unfold argsOk; rw [signature?_of (id:="set_iterator.__next__") (n:=['_','_','t','x','e','n','_','_']) (o:=['r','o','t','a','r','e','t','i','_','t','e','s']) (by kernel_rfl) Za9]; kernel_rfl
theorem Zeo (a:Value):argsOk "set_iterator.__iter__" ⟨[a],[]⟩:=by
 unfold argsOk; rw [signature?_of (id:="set_iterator.__iter__") (n:=['_','_','r','e','t','i','_','_']) (o:=['r','o','t','a','r','e','t','i','_','t','e','s']) (by kernel_rfl) Za9]; kernel_rfl
theorem ZdG {α:Type}:∀ (l:List α) (i:Nat) (h:i < l.length),(l[i]::l.eraseIdx i).Perm l
 | [],i,h=>by simp at h
 | a::l,0,h=>by simp
 | a::l,i+1,h=>by
  have ih:=ZdG l i (by simpa using h)
  simp only [List.getElem_cons_succ,List.eraseIdx_cons_succ]
  exact (List.Perm.swap a _ _).trans (ih.cons a)
theorem Zc0 {α:Type} (next:Nat->Nat):∀ (fuel k:Nat) (left:List α) (out:Array α),fuel=left.length->(pickOrder.go next fuel k left out).toList.Perm (out.toList++left)
 | 0,k,left,out,h=>by
  have:left=[]:=List.eq_nil_of_length_eq_zero h.symm
  subst this; simp [pickOrder.go]
 | fuel+1,k,left,out,h=>by
  unfold pickOrder.go
  have hl:next k % left.length < left.length:=Nat.mod_lt _ (by omega)
  have e:left[next k % left.length]?=some left[next k % left.length]:=List.getElem?_eq_getElem hl
  rw [e]
  have ih:=Zc0 next fuel (k+1) (left.eraseIdx (next k % left.length)) (out.push left[next k % left.length]) (by rw [List.length_eraseIdx,if_pos hl]; omega)
  refine ih.trans ?_
  rw [Array.toList_push,List.append_assoc]
  refine List.Perm.append_left _ ?_
  exact (ZdG left _ hl)
theorem ZcZ {α:Type} (next:Nat->Nat) (xs:Array α):(pickOrder next xs).toList.Perm xs.toList:=by
 have:=Zc0 next xs.size 0 xs.toList #[] (by simp)
 rw [List.nil_append] at this
 exact this
theorem Zcg {xs:Array Nat} (h:Ris xs.toList) {i:Nat} (hi:i < xs.size):below xs (xs[i]+1)=i+1:=by
 obtain ⟨h1,h2,h3⟩:=Yy h (xs[i]+1)
 have ris:∀ a b (ha:a < xs.size) (hb:b < xs.size),a < b->xs[a] < xs[b]:=fun a b ha hb hab=>by
  have:=List.pairwise_iff_getElem.mp h a b (by simpa using ha) (by simpa using hb) hab
  simpa using this
 rcases Nat.lt_trichotomy (below xs (xs[i]+1)) (i+1) with c | c | c
 ·exfalso
  have:=h3 i hi (by omega)
  omega
 ·exact c
 ·exfalso
  have hs:i+1 < xs.size:=by omega
  have:=h2 (i+1) hs (by omega)
  have:=ris i (i+1) hi hs (by omega)
  omega
noncomputable def byT (w:World):Bool:=w.params.followText "set-order"
noncomputable def WC (w:World) (S:Addr) (ep:Nat) (es:Array (Int×Value)):Array (Int×Value):=if byT w then pickOrder (w.params.setOrder S ep) es else es
theorem VJ (w:World) (S:Addr) (ep:Nat) (es:Array (Int×Value)):(WC w S ep es).toList.Perm es.toList:=by
 unfold WC; split
 ·exact ZcZ _ _
 ·exact .refl _
theorem QA (w:World) (S:Addr) (ep:Nat) (es:Array (Int×Value)):(WC w S ep es).size=es.size:=by simpa using (VJ w S ep es).length_eq
noncomputable def IsSI (h:Heap) (it S:Addr) (slot i n ep:Nat):Prop:=∃ o,h.get? it=some o/\o.cls=.type "set_iterator"/\o.data=.fields #[rawInt slot,rawInt i,.ref S,rawInt n,rawInt ep]
theorem IsSI.at {h h':Heap} {it S:Addr} {slot i n ep:Nat} (x:IsSI h it S slot i n ep) (k:∀ o,h.get? it=some o->h'.get? it=some o):IsSI h' it S slot i n ep:=let ⟨o,ho,r⟩:=x; ⟨o,k _ ho,r⟩
section
variable {prog:Program} {w:World} {A:Around} {E:Value->Shared->Prop} {s:Shared} {it S:Addr} {o:Obj} {es:Array (Int×Value)} {ep:Nat} {t:SetTable}
theorem IsSI.ty {slot i n ep:Nat} (x:IsSI s.heap it S slot i n ep):s.TypeIs (.ref it) "set_iterator":=let ⟨o,ho,hc,_⟩:=x; ⟨o,ho,hc⟩
theorem Qu {Q:Bool->Shared->Prop} (h:Q (byT w) s):wpAny (model prog w) A setsByText Q E s:=by
 unfold setsByText
 exact wpAny_bind (wpAny_askSetting (wpAny_pure h))
theorem Zgj {slot i:Nat} {x:Value} {hx:Int} {Q:Option Value->Shared->Prop} (hi:IsSI s.heap it S slot i es.size ep) (ho:s.heap.get? S=some o) (hd:o.data=.set es ep t) (hf:t.fits es.size=true) (I:TI t es) (hpl:t.plain=true) (hld:t.led=!byT w)
  (hb:byT w=false->below t.place slot=i) (hxx:(WC w S ep es)[i]?=some (hx,x))
  (q:∀ k slot',IsSI k it S slot' (i+1) es.size ep->Heap.SameBut it s.heap k->(byT w=false->below t.place slot'=i+1)->Q (some x) { s with heap:=k }):wpAny (model prog w) A (pyNext (.ref it)) Q E s:=by
 obtain ⟨oi,hoi,hci,hdi⟩:=id hi
 unfold pyNext
 refine wpAny_bind (wpAny_attempt (wpAny_callSpecial?_slot (name:=Str.ofString "__next__") hi.ty si_next (wpAny_call_entry si_next hi.ty Zba ?_ (Zbb _))))
 unfold Builtin.«set_iterator.__next__»
 refine wpAny_bind (wpAny_of_eq (a:=(Value.ref it,[])) rfl ?_)
 refine wpAny_bind (m:=fieldsOf (.ref it)) ?_
 unfold fieldsOf
 refine wpAny_bind (wpAny_load hoi ?_)
 rw [hdi]
 refine wpAny_pure ?_
 dsimp only
 refine wpAny_bind (m:=setEntries S) ?_
 unfold setEntries
 refine wpAny_bind (wpAny_setState_of ho hd hf (wpAny_pure ?_))
 rw [if_neg (by simp)]
 show wpAny _ _ (setNext S slot i ep >>= _) _ _ s
 have fin:∀ slot':Nat,(byT w=false->below t.place slot'=i+1)->wpAny (model prog w) A.in1 (do
   setField (Value.ref it) 0 (rawInt slot')
   setField (Value.ref it) 1 (rawInt ((i:Int)+1))
   ret x) (fun fin s'=>∃ v,fin=Fin.done (Flow.ret v)/\wpAny (model prog w) A (pure (some v)) Q E s') (fun e s'=>wpAny (model prog w) A (do
     let r <- isInstance e (Value.type "StopIteration")
     if r=true then pure none else throw e) Q E s') s:=fun slot' hs=>by
  refine wpAny_bind (wpAny_setField hoi hdi (by simp) ?_)
  have ho1:=Heap.get?_update_self (fun o=>o.mapFields fun v=>v.setIfInBounds 0 (rawInt slot')) hoi (Obj.isFreed_of_fields (Obj.data_mapFields hdi _))
  have hd1:(oi.mapFields fun v=>v.setIfInBounds 0 (rawInt slot')).data=.fields #[rawInt slot',rawInt i,.ref S,rawInt es.size,rawInt ep]:=by rw [Obj.data_mapFields hdi]; simp
  refine wpAny_bind (wpAny_setField (s:={ s with heap:=s.heap.update it (Obj.mapFields fun v=>v.setIfInBounds 0 (rawInt slot')) }) ho1 hd1 (by simp) ?_)
  refine wpAny_pure ⟨x,rfl,wpAny_pure (q _ slot' ?_ ((Heap.SameBut.update ..).trans (Heap.SameBut.update ..)) hs)⟩
  have ho2:=Heap.get?_update_self (fun o=>o.mapFields fun v=>v.setIfInBounds 1 (rawInt ((i:Int)+1))) ho1 (Obj.isFreed_of_fields (Obj.data_mapFields hd1 _))
  exact ⟨_,ho2,(Obj.cls_mapFields ..).trans ((Obj.cls_mapFields ..).trans hci),by rw [Obj.data_mapFields hd1]; simp⟩
 refine wpAny_bind ?_
 unfold setNext
 refine wpAny_bind (wpAny_setState_of ho hd hf ?_)
 dsimp only
 refine wpAny_bind (Qu ?_)
 have hlt:i < es.size:=by
  have:=(Array.getElem?_eq_some_iff.mp hxx).1
  rw [QA] at this; exact this
 cases hbt:byT w with
 | true=>
  rw [if_pos rfl,if_neg (by simp)]
  refine wpAny_bind ?_
  unfold setWalk
  refine wpAny_bind (wpAny_setState_of ho hd hf ?_)
  dsimp only
  refine wpAny_bind (Qu ?_)
  rw [hbt,if_pos rfl]
  refine wpAny_bind (wpAny_askSetting (wpAny_pure ?_))
  unfold WC at hxx
  rw [hbt,if_pos rfl] at hxx
  refine wpAny_pure ?_
  show wpAny _ _ (match ((pickOrder (w.params.setOrder S ep) es)[i]?).map fun e=>(e.2,slot) with | some (x,next)=>_ | none=>_) _ _ s
  rw [hxx]
  exact fin slot fun z=>by rw [hbt] at z; cases z
 | false=>
  rw [if_neg (by simp)]
  unfold WC at hxx
  rw [hbt,if_neg (by simp)] at hxx
  have hb':=hb hbt
  have hpi:t.place[i]?=some (t.place[i]'(by rw [I.size]; exact hlt)):=Array.getElem?_eq_getElem _
  have hnx:=Zcg I.ris (show i < t.place.size by rw [I.size]; exact hlt)
  show wpAny _ _ (if (!t.plain&&decide (es.size > 1))=true then _ else _) _ _ s
  rw [hpl,if_neg (by simp)]
  refine wpAny_bind ?_
  show wpAny _ _ (if (!t.led&&!es.isEmpty)=true then _ else _) _ _ s
  rw [hld,hbt,if_neg (by simp)]
  refine wpAny_pure ?_
  refine wpAny_pure ?_
  rw [hb',hxx,hpi]
  exact fin _ fun _=>hnx
theorem Zhx {slot i:Nat} {Q:Option Value->Shared->Prop} (hh:A.handled=none) (hi:IsSI s.heap it S slot i es.size ep) (ho:s.heap.get? S=some o) (hd:o.data=.set es ep t) (hf:t.fits es.size=true) (I:TI t es) (hpl:t.plain=true) (hld:t.led=!byT w)
  (hb:byT w=false->below t.place slot=i) (he:i=es.size)
  (q:∀ k,Heap.ExtBut it s.heap k->Q none { s with heap:=k }):wpAny (model prog w) A (pyNext (.ref it)) Q E s:=by
 obtain ⟨oi,hoi,hci,hdi⟩:=id hi
 unfold pyNext
 refine wpAny_bind (wpAny_attempt (wpAny_callSpecial?_slot (name:=Str.ofString "__next__") hi.ty si_next (wpAny_call_entry si_next hi.ty Zba ?_ (Zbb _))))
 unfold Builtin.«set_iterator.__next__»
 refine wpAny_bind (wpAny_of_eq (a:=(Value.ref it,[])) rfl ?_)
 refine wpAny_bind (m:=fieldsOf (.ref it)) ?_
 unfold fieldsOf
 refine wpAny_bind (wpAny_load hoi ?_)
 rw [hdi]
 refine wpAny_pure ?_
 dsimp only
 refine wpAny_bind (m:=setEntries S) ?_
 unfold setEntries
 refine wpAny_bind (wpAny_setState_of ho hd hf (wpAny_pure ?_))
 rw [if_neg (by simp)]
 show wpAny _ _ (setNext S slot i ep >>= _) _ _ s
 have fin:wpAny (model prog w) A.in1 (do
   setField (Value.ref it) 2 Value.none
   let r <- newExc (Value.type "StopIteration") []
   raiseNew (α:=Fin) r) (fun fin s'=>∃ v,fin=Fin.done (Flow.ret v)/\wpAny (model prog w) A (pure (some v)) Q E s') (fun e s'=>wpAny (model prog w) A (do
     let r <- isInstance e (Value.type "StopIteration")
     if r=true then pure none else throw e) Q E s') s:=by
  refine wpAny_bind (wpAny_setField hoi hdi (by simp) ?_)
  refine wpAny_bind ?_
  simp only [newExc,newTuple]
  refine wpAny_bind (wpAny_newObj_type ?_ (by size_fits)); refine wpAny_bind (m:=firstArgMember _ _) (wpAny_of_eq (a:=Value.none) (by first | rfl | (simp only [firstArgMember]; rfl)) ?_)
  refine wpAny_newObj_type ?_ (by size_fits); simp only [raiseNew]; refine wpAny_bind (wpAny_handled ?_)
  first | rw [show A.in1.handled=none from hh] | rw [hh]
  refine wpAny_bind (wpAny_pure (wpAny_throw ?_))
  refine wpAny_bind (wpAny_isInstance (T:="StopIteration") (b:=true) ⟨_,Heap.get?_push_size _ rfl,rfl⟩ isSubtype_stop ?_)
  exact wpAny_pure (q _ (((Heap.SameBut.update ..).extBut.push _).push _))
 refine wpAny_bind ?_
 unfold setNext
 refine wpAny_bind (wpAny_setState_of ho hd hf ?_)
 dsimp only
 refine wpAny_bind (Qu ?_)
 have hno:(WC w S ep es)[i]?=none:=Array.getElem?_eq_none (by rw [QA]; omega)
 cases hbt:byT w with
 | true=>
  rw [if_pos rfl,if_neg (by simp)]
  refine wpAny_bind ?_
  unfold setWalk
  refine wpAny_bind (wpAny_setState_of ho hd hf ?_)
  dsimp only
  refine wpAny_bind (Qu ?_)
  rw [hbt,if_pos rfl]
  refine wpAny_bind (wpAny_askSetting (wpAny_pure ?_))
  unfold WC at hno
  rw [hbt,if_pos rfl] at hno
  refine wpAny_pure ?_
  show wpAny _ _ (match ((pickOrder (w.params.setOrder S ep) es)[i]?).map fun e=>(e.2,slot) with | some (x,next)=>_ | none=>_) _ _ s
  rw [hno]
  exact fin
 | false=>
  rw [if_neg (by simp)]
  have hb':=hb hbt
  have hne:es[i]?=none:=Array.getElem?_eq_none (by omega)
  show wpAny _ _ (if (!t.plain&&decide (es.size > 1))=true then _ else _) _ _ s
  rw [hpl,if_neg (by simp)]
  refine wpAny_bind ?_
  show wpAny _ _ (if (!t.led&&!es.isEmpty)=true then _ else _) _ _ s
  rw [hld,hbt,if_neg (by simp)]
  refine wpAny_pure ?_
  refine wpAny_pure ?_
  rw [hb',hne]
  exact fin
structure ZiW (w:World) (S:Addr) (o:Obj) (es:Array (Int×Value)) (ep:Nat) (t:SetTable):Prop where
 hd:o.data=.set es ep t
 hf:t.fits es.size=true
 I:TI t es
 hpl:t.plain=true
 hld:t.led=!byT w
theorem Walks.set (hh:A.handled=none) (W:ZiW w S o es ep t) (hne:S≠it):Walks prog w A it [it,S] [it] es.size (fun i v=>∃ hx,(WC w S ep es)[i]?=some (hx,v)) (fun i h=>i<=es.size/\(∃ slot,IsSI h it S slot i es.size ep/\(byT w=false->below t.place slot=i))/\h.get? S=some o) where
 sub:=fun b hb=>by simp at hb; simp [hb]
 frame:=fun _ _ _ ⟨a,⟨slot,x,y⟩,z⟩ hk=>⟨a,⟨slot,x.at fun o e=>hk it (by simp) o e,y⟩,hk S (by simp) o z⟩
 item:=fun i s Q E hi ⟨a,⟨slot,x,y⟩,z⟩ hQ=>by
  have hz:i < (WC w S ep es).size:=by rw [QA]; exact hi
  have e:(WC w S ep es)[i]?=some (((WC w S ep es)[i]).1,((WC w S ep es)[i]).2):=Array.getElem?_eq_getElem hz
  exact Zgj x z W.hd W.hf W.I W.hpl W.hld y e fun k slot' k1 k2 k3=>hQ _ k s.toks ⟨_,e⟩ ⟨hi,⟨slot',k1,k3⟩,(k2.2 S hne).trans z⟩ fun b ob hb eo=>k2.extBut b ob (fun h=>hb (by simp [h])) eo
 done:=fun s Q E ⟨a,⟨slot,x,y⟩,z⟩ hQ=>Zhx hh x z W.hd W.hf W.I W.hpl W.hld y rfl fun k kb=>hQ k s.toks fun b ob hb eo=>kb b ob (fun h=>hb (by simp [h])) eo
 self:=fun i s Q E ⟨a,⟨slot,x,y⟩,z⟩ hQ=>by
  refine wpAny_pyIter_slot x.ty ZcI (wpAny_call_entry ZcI x.ty Zen ?_ (Zeo _))
  show wpAny _ _ (ret (.ref it)) _ _ s
  exact wpAny_pure ⟨_,rfl,"set_iterator",_,x.ty,si_next.lookup,hQ⟩
theorem ZbU {Q:Value->Shared->Prop} (W:ZiW w S o es ep t) (ho:s.heap.get? S=some o) (hc:o.cls=.type "set")
  (q:Q (.ref s.heap.objs.size) { s with heap:=s.heap.push { cls:=.type "set_iterator",data:=.fields #[rawInt 0,rawInt 0,.ref S,rawInt es.size,rawInt ep] } }):wpAny (model prog w) A (pyIter (.ref S)) Q E s:=by
 have hT:s.TypeIs (.ref S) "set":=⟨o,ho,hc⟩
 refine wpAny_pyIter_slot hT PySem.F.slot_set_iter (wpAny_call_entry PySem.F.slot_set_iter hT ZcJ ?_ (PySem.F.args_set_iter_1 _))
 unfold Builtin.«frozenset.__iter__»
 refine wpAny_bind (wpAny_of_eq (a:=S) rfl ?_)
 refine wpAny_bind (m:=Builtin.Frozenset.sizeOf S) ?_
 unfold Builtin.Frozenset.sizeOf setEntries
 refine wpAny_bind (wpAny_bind (wpAny_setState_of ho W.hd W.hf (wpAny_pure (wpAny_pure ?_))))
 refine wpAny_bind (m:=setDrawn S) ?_
 unfold setDrawn
 refine wpAny_bind (wpAny_setState_of ho W.hd W.hf ?_)
 dsimp only
 refine wpAny_bind (Qu (wpAny_pure ?_))
 rw [if_neg (by
  show ¬ ((!byT w&&(!t.plain&&decide (es.size > 1)))=true)
  rw [W.hpl]; simp)]
 refine wpAny_bind (wpAny_pure ?_)
 refine wpAny_bind (m:=setEpoch S) ?_
 unfold setEpoch
 refine wpAny_bind (wpAny_setState_of ho W.hd W.hf (wpAny_pure ?_))
 refine wpAny_bind (m:=newFields _ _) ?_
 unfold newFields
 refine wpAny_newObj_type ?_ (by size_fits)
 exact wpAny_pure ⟨_,rfl,"set_iterator",_,⟨_,Heap.get?_push_size _ rfl,rfl⟩,si_next.lookup,q⟩
end
section
variable {prog:Program} {w:World} {A:Around} {s:Shared} {R:Result->Shared->Prop} {it S x:Addr} {fp wr:List Addr} {n:Nat} {P:Nat->Value->Prop} {St:Nat->Heap->Prop}
theorem ZdF {T:String} {res:Value} {c₀:Nat} {h1:Heap} (hT:s.TypeIs (.ref x) T) (h2:(Value.type T==Value.type "list")=false) (h3:(Value.type T==Value.type "tuple")=false) (hSx:S≠x)
  (hS:s.heap.get? S=some { cls:=.type "list",data:=.seq #[] c₀ })
  (hi:∀ (Q:Value->Shared->Prop) (E:Value->Shared->Prop),Q (.ref it) { s with heap:=h1 }->wpAny (model prog w) A.in1 (pyIter (.ref x)) Q E s)
  (hh:∀ (Q:Bool->Shared->Prop) (E:Value->Shared->Prop),Q false { s with heap:=h1 }->wpAny (model prog w) A.in1 (Builtin.List.listLengthHint (.ref x)) Q E { s with heap:=h1 })
  (W:Walks prog w A.in1 it fp wr n P St) (hst:St 0 h1) (hSf:S ∉ fp) (kp:∀ b o,s.heap.get? b=some o->h1.get? b=some o) (hn:n<=sizeLine)
  (hR:∀ h' tk acc' c',(∀ b o,b≠S->b ∉ wr->s.heap.get? b=some o->h'.get? b=some o)->h'.get? S=some { cls:=.type "list",dict:=none,data:=.seq acc' c',slots:=#[] }->ItemsOf P acc' n->R (.ok (.ret res)) { s with heap:=h',toks:=tk }) :
  wpAny (model prog w) A.in1 (Builtin.List.listExtendWith (.ref S) (.ref x) res)
   (fun fin s'=>match fin with | .done f=>R (.ok f) s' | .again c'=>c'.quiet=true/\codeAny (model prog w) A c' R s') (fun e s'=>R (.error e) s') s:=by
 have WS:=W.toS
 have key:∀ (h:Heap) (c₁:Nat),St 0 h->(∀ b o,b≠S->s.heap.get? b=some o->h.get? b=some o)->h.get? S=some { cls:=.type "list",data:=.seq #[] c₁ } ->
   codeAny (model prog w) A (.builtin "list.extend.loop" ⟨[.ref S,.ref it,res],[]⟩) R { s with heap:=h }:=by
  intro h c₁ hit hk hS₁
  refine codeAny_extend_loopS WS hn S hSf res n 0 _ #[] c₁ rfl (Nat.zero_le _) hit hS₁ (ItemsOf.nil _) fun s' acc' c' hm hS' hacc=>?_
  rw [Moved.eq_with hm]
  refine hR s'.heap s'.toks acc' c' (fun b o hb hbw e=>hm.heap b o (fun hmem=>?_) (hk b o hb e)) hS' hacc
  rcases List.mem_cons.mp hmem with e' | hmem
  ·exact hb e'
  ·exact hbw hmem
 unfold Builtin.List.listExtendWith
 refine wpAny_bind (wpAny_typeOf hT ?_)
 have e1:Builtin.List.listSameRef (.ref S) (.ref x)=false:=by simp [Builtin.List.listSameRef,hSx]
 simp only [e1,h2,h3,Bool.or_false,Bool.false_eq_true,if_false]
 refine wpAny_bind (hi _ _ ?_)
 refine wpAny_bind (wpAny_holding (hh _ _ ?_))
 have hS₁:=kp _ _ hS
 refine wpAny_ite_split (fun _=>?_) (fun _=>wpAny_pure ⟨plainId_quiet F.plain_extend_loop _,key _ c₀ hst (fun b o _ e=>kp b o e) hS₁⟩)
 refine wpAny_bind (wpAny_rule ?_)
 refine wpAny_bind ?_
 show wpAny _ _ (updateSeq S (·.push .none) >>= fun _=>updateSeq S (·.pop)) _ _ _
 refine wpAny_bind (wpAny_updateSeq hS₁ rfl ?_)
 have hS₂:=Heap.get?_update_self (Obj.mapSeq (·.push Value.none)) hS₁ rfl
 refine wpAny_updateSeq (hz:=by seq_fits) hS₂ rfl ?_
 have hS₃:=Heap.get?_update_self (Obj.mapSeq (·.pop)) hS₂ rfl
 have oth:∀ b o,b≠S->h1.get? b=some o->((h1.update S (Obj.mapSeq (·.push Value.none))).update S (Obj.mapSeq (·.pop))).get? b=some o:=
  fun b o hb e=>(Heap.get?_update_other _ _ (Ne.symm hb)).trans ((Heap.get?_update_other _ _ (Ne.symm hb)).trans e)
 refine wpAny_pure ⟨plainId_quiet F.plain_extend_loop _,key _ _ ?_ (fun b o hb e=>oth b o hb (kp b o e)) hS₃⟩
 exact W.frame 0 _ _ hst fun b hb o e=>oth b o (fun h=>hSf (h ▸ hb)) e
end
section
variable {prog:Program} {w:World} {A:Around} {E:Value->Shared->Prop} {s:Shared} {it S:Addr} {o:Obj} {es:Array (Int×Value)} {ep:Nat} {t:SetTable}
theorem ZeW {Q:Bool->Shared->Prop} (hT:s.TypeIs (.ref S) "set") (h:Q false s):wpAny (model prog w) A (Builtin.List.listLengthHint (.ref S)) Q E s:=by
 unfold Builtin.List.listLengthHint
 refine wpAny_bind (wpAny_specialOf hT PySem.F.slot_set_len.lookup ?_)
 have hs:splitId "set.__len__"=some ("set","__len__"):=by decide +kernel
 dsimp only
 rw [hs]
 dsimp only
 refine wpAny_bind (wpAny_isInstance hT sub_set_self ?_)
 rw [if_neg (by simp),if_pos (by decide +kernel)]
 exact wpAny_bind (wpAny_typeOf hT (wpAny_pure h))
theorem ZaO {Q : List Value -> Shared -> Prop} (hh : A.handled = none) (W : ZiW w S o es ep t) (ho : s.heap.get? S = some o) (hc : o.cls = .type "set") (hsz : es.size <= 1000)
    (q : ∀ h' tk, (∀ b o, s.heap.get? b = some o -> h'.get? b = some o) -> Q ((WC w S ep es).toList.map (·.2)) { s with heap := h', toks := tk }) : wpAny (model prog w) A (collect (.ref S)) Q E s := by
  unfold collect
  refine wpAny_bind (wpAny_runValue (codeAny_builtin entry_proto_collect' ?_))
  show wpAny _ _ (do again (.builtin "list.__iadd__" ⟨[<- newList [], .ref S], []⟩)) _ _ s
  refine wpAny_bind (wpAny_newList (wpAny_pure ⟨Code.quiet_builtin _ (by decide +kernel), codeAny_builtin entry_list_iadd' ?_⟩))
  show wpAny _ _ (Builtin.List.listExtendWith (.ref s.heap.objs.size) (.ref S) (.ref s.heap.objs.size)) _ _ { s with heap := s.heap.push (seqObj "list" #[] 0) }
  have ho' : (s.heap.push (seqObj "list" #[] 0)).get? S = some o := Heap.get?_push_of_some _ ho
  have hlt : S < s.heap.objs.size := Heap.lt_size ho
  have hz1 : (s.heap.push (seqObj "list" #[] 0)).objs.size = s.heap.objs.size + 1 := Heap.size_push ..
  rw [Around.under_plainId (show plainId "list.__iadd__" = true by decide +kernel) _]
  have hI : (s.heap.push (seqObj "list" #[] 0)).objs.size ≠ S := fun e => by
    have : s.heap.objs.size < S := by rw [<- e, hz1]; exact Nat.lt_succ_self _
    exact Nat.lt_irrefl _ (Nat.lt_trans this hlt)
  refine ZdF (R := fun r s' => match r with
      | .ok (.ret v) => wpAny (model prog w) A (match v with
        | .ref a => do
          let o <- load a
          match o.data with
          | .seq xs _ => pure xs.toList
          | _ => unsupported "internal:collect"
        | _ => unsupported "internal:collect") Q E s'
      | .ok _ => False
      | .error e => E e s') (s := { s with heap := s.heap.push (seqObj "list" #[] 0) }) (T := "set") (c₀ := 0) (it := (s.heap.push (seqObj "list" #[] 0)).objs.size)
    (h1 := (s.heap.push (seqObj "list" #[] 0)).push { cls := .type "set_iterator", data := .fields #[rawInt 0, rawInt 0, .ref S, rawInt es.size, rawInt ep] })
    ⟨o, ho', hc⟩ (by decide) (by decide) (Nat.ne_of_gt hlt) (Heap.get?_push_size _ rfl) (fun Q' E' hq => ZbU W ho' hc hq) (fun Q' E' hq => ZeW ⟨o, Heap.get?_push_of_some _ ho', hc⟩ hq)
    (Walks.set (A := A.in1) hh W (Ne.symm hI)) ⟨Nat.zero_le _, ⟨0, ⟨_, Heap.get?_push_size _ rfl, rfl, rfl⟩, fun _ => ?_⟩, Heap.get?_push_of_some _ ho'⟩ ?_ (fun b ob e => Heap.get?_push_of_some _ e) (by rw [sizeLine_eq]; omega) fun h' tk acc' c' kp hS' hacc => ?_
  · have h0 := (Yy W.I.ris 0).2.1
    by_cases z : below t.place 0 = 0
    · exact z
    · have h1 := (Yy W.I.ris 0).1
      have := h0 0 (by omega) (by omega)
      omega
  · intro hm
    rcases List.mem_cons.mp hm with z | hm
    · rw [hz1] at z; exact Nat.ne_of_lt (Nat.lt_succ_self _) z
    · rw [List.mem_singleton] at hm; exact absurd hm (Nat.ne_of_gt hlt)
  · show wpAny (model prog w) A (do
          let o <- load s.heap.objs.size
          match o.data with
          | .seq xs _ => pure xs.toList
          | _ => unsupported "internal:collect") Q E _
    refine wpAny_bind (wpAny_load hS' ?_)
    have ea : acc'.toList = (WC w S ep es).toList.map (·.2) := by
      refine List.ext_getElem? fun j => ?_
      rw [Array.getElem?_toList, List.getElem?_map, Array.getElem?_toList]
      by_cases hj : j < es.size
      · have hj' : j < acc'.size := by rw [hacc.1]; exact hj
        have e : acc'[j]? = some acc'[j] := Array.getElem?_eq_getElem hj'
        obtain ⟨hx, e2⟩ := hacc.2 j _ e
        rw [e, e2]; rfl
      · rw [Array.getElem?_eq_none (by rw [hacc.1]; omega), Array.getElem?_eq_none (by rw [QA]; omega)]; rfl
    show wpAny _ _ (pure acc'.toList) Q E _
    rw [ea]
    exact wpAny_pure (q h' tk fun b ob e => kp b ob (Nat.ne_of_lt (Heap.lt_size e)) (fun hm => by
      rw [List.mem_singleton, hz1] at hm
      have := Heap.lt_size e
      rw [hm] at this
      exact absurd (Nat.lt_trans (Nat.lt_succ_self _) this) (Nat.lt_irrefl _)) (Heap.get?_push_of_some _ e))
theorem Zdj:typeLookup (.type "list_reverseiterator") "__len__"=pure none:=by rw [typeLookup_type,builtinLookup_eq_fast]; kernel_rfl
theorem ZeM:typeLookup (.type "list_reverseiterator") "__length_hint__"=pure (some (.builtin "list_reverseiterator.__length_hint__")):=by rw [typeLookup_type,builtinLookup_eq_fast]; kernel_rfl
theorem ZeL:isSubtype (.type "list_reverseiterator") (.type "list_reverseiterator")=pure true:=by rw [isSubtype_type]; kernel_rfl
theorem ZeX {I:Addr} {Q:Bool->Shared->Prop} (hT:s.TypeIs (.ref I) "list_reverseiterator") (h:Q false s):wpAny (model prog w) A (Builtin.List.listLengthHint (.ref I)) Q E s:=by
 unfold Builtin.List.listLengthHint
 refine wpAny_bind (wpAny_specialOf hT Zdj ?_)
 dsimp only
 rw [if_neg (by decide +kernel),if_neg (by decide)]
 refine wpAny_bind (wpAny_specialOf hT ZeM ?_)
 have hs:splitId "list_reverseiterator.__length_hint__"=some ("list_reverseiterator","__length_hint__"):=by decide +kernel
 dsimp only
 rw [hs]
 dsimp only
 refine wpAny_bind (wpAny_isInstance hT ZeL ?_)
 rw [if_neg (by simp),if_pos (by decide +kernel),if_neg (by decide)]
 exact wpAny_pure h
theorem Wa {l I:Addr} {items:Array Value} {Q:Value->Shared->Prop} (hh:A.handled=none) (hit:s.heap.IsRevIter I l ((items.size:Int)-1)) (hl:s.heap.IsList l items) (hne:l≠I) (hsz:items.size<=sizeLine)
  (q:∀ h' tk c,(∀ b o,b≠I->s.heap.get? b=some o->h'.get? b=some o)->h'.get? s.heap.objs.size=some { cls:=.type "list",dict:=none,data:=.seq items.reverse c,slots:=#[] }->Q (.ref s.heap.objs.size) { s with heap:=h',toks:=tk }) :
  wpAny (model prog w) A (call (.type "list") [.ref I]) Q E s:=by
 have hIlt:I < s.heap.objs.size:=by obtain ⟨o,e,_⟩:=hit; exact Heap.lt_size e
 have hllt:l < s.heap.objs.size:=by obtain ⟨o,e,_⟩:=hl; exact Heap.lt_size e
 refine callType_codes (Q₁:=fun obj s₁=>obj=.ref s.heap.objs.size/\s₁={ s with heap:=s.heap.push { cls:=.type "list",data:=.seq #[] } }) F.called_list (F.typeCall_list_1 _) F.entry_list_init
  (code_list_new _ ⟨rfl,rfl⟩) fun obj s₁ h₁=>?_
 obtain ⟨rfl,rfl⟩:=h₁
 have hS:(s.heap.push { cls:=.type "list",data:=.seq #[] }).get? s.heap.objs.size=some { cls:=.type "list",data:=.seq #[] }:=Heap.get?_push_size _ rfl
 refine ⟨⟨_,hS,rfl⟩,F.args_list_init_2 _ _,?_⟩
 show wpAny _ A.in1.in1 (do let old <- Builtin.List.listItems (.ref s.heap.objs.size); Builtin.List.listUpdate (.ref s.heap.objs.size) (fun _=>#[]); letGo old.toList.reverse; Builtin.List.listExtendWith (.ref s.heap.objs.size) (.ref I) .none) _ _ _
 refine wpAny_bind ?_
 unfold Builtin.List.listItems
 refine wpAny_bind (wpAny_seqItems hS rfl (wpAny_pure ?_))
 show wpAny _ A.in1.in1 (updateSeq s.heap.objs.size (fun _=>#[]) >>= fun _=>letGo (#[]:Array Value).toList.reverse >>= fun _=>Builtin.List.listExtendWith (.ref s.heap.objs.size) (.ref I) .none) _ _ _
 refine wpAny_bind (wpAny_updateSeq hS rfl ?_)
 have hS₂:=Heap.get?_update_self (Obj.mapSeq (fun _=>(#[]:Array Value))) hS rfl
 have oth:∀ b o,b≠s.heap.objs.size->s.heap.get? b=some o->((s.heap.push { cls:=.type "list",data:=.seq #[] }).update s.heap.objs.size (Obj.mapSeq (fun _=>(#[]:Array Value)))).get? b=some o:=
  fun b o hb e=>(Heap.get?_update_other _ _ (Ne.symm hb)).trans (Heap.get?_push_of_some _ e)
 refine wpAny_bind (wpAny_letGo ?_)
 have hit2:=hit.at fun o e=>oth I o (Nat.ne_of_lt hIlt) e
 have hl2:=hl.at fun o e=>oth l o (Nat.ne_of_lt hllt) e
 generalize (s.heap.push { cls:=.type "list",data:=.seq #[] }).update s.heap.objs.size (Obj.mapSeq (fun _=>(#[]:Array Value)))=hp at oth hit2 hl2 hS₂
 have W:=Walks.listRev (prog:=prog) (w:=w) (A:=A.in1.in1) hh I l hne items
 refine ZdF (A:=A.in1) (s:={ s with heap:=hp }) (T:="list_reverseiterator") (h1:=hp) (it:=I) (res:=.none) hit2.typeIs (by decide) (by decide) (Nat.ne_of_gt hIlt) hS₂ (fun Q' E' hq=>wpAny_pyIter_revIter hit2 hq) (fun Q' E' hq=>ZeX (s:={ s with heap:=hp }) hit2.typeIs hq) W
  ⟨Nat.zero_le _,by simpa using hit2,hl2⟩ ?_ (fun b o e=>e) hsz fun h' tk acc' c' kp hS' hacc=>?_
 ·intro hm
  rcases List.mem_cons.mp hm with z | hm
  ·exact Nat.ne_of_gt hIlt z
  ·rw [List.mem_singleton] at hm; exact Nat.ne_of_gt hllt hm
 ·have ea:acc'=items.reverse:=by
   apply Array.toList_inj.mp
   refine List.ext_getElem? fun j=>?_
   rw [Array.toList_reverse,Array.getElem?_toList]
   by_cases hj:j < items.size
   ·have hj':j < acc'.size:=by rw [hacc.1]; exact hj
    have e:acc'[j]?=some acc'[j]:=Array.getElem?_eq_getElem hj'
    have e2:=hacc.2 j _ e
    rw [e,List.getElem?_reverse (by simpa using hj),<-e2,Array.getElem?_toList]
    simp
   ·rw [Array.getElem?_eq_none (by rw [hacc.1]; omega),List.getElem?_eq_none (by simp; omega)]
  subst ea
  exact ⟨rfl,q h' tk c' (fun b o hb e=>kp b o (Nat.ne_of_lt (Heap.lt_size e)) (by rw [List.mem_singleton]; exact hb) (oth b o (Nat.ne_of_lt (Heap.lt_size e)) e)) hS'⟩
end
end L3
namespace So
open PySem PySem.W PyProof.Rows
noncomputable def run (c:Nat->Nat->Bool) {α:Type}:KasT α->α
 | .ret a=>a
 | .ask i j k=>run c (k (c i j))
theorem Qy (c:Nat->Nat->Bool) {α β:Type} (f:α->KasT β):∀ t:KasT α,run c (t.bind f)=run c (f (run c t))
 | .ret _=>rfl
 | .ask i j k=>Qy c f (k (c i j))
structure Ord (n:Nat) (c:Nat->Nat->Bool):Prop where
 irr:∀ i,i < n->c i i=false
 tr:∀ i j k,i < n->j < n->k < n->c i j=true->c j k=true->c i k=true
 tri:∀ i j,i < n->j < n->i≠j->c i j=true\/c j i=true
variable {n:Nat} {c:Nat->Nat->Bool}
theorem Ord.asym (o:Ord n c) {i j:Nat} (hi:i < n) (hj:j < n) (h:c i j=true):c j i=false:=by
 cases e:c j i with
 | false=>rfl
 | true=>have:=o.tr i j i hi hj hi h e; rw [o.irr i hi] at this; cases this
theorem Ord.flip (o:Ord n c) {i j:Nat} (hi:i < n) (hj:j < n) (hne:i≠j) (h:c i j=false):c j i=true:=by
 rcases o.tri i j hi hj hne with z | z
 ·rw [h] at z; cases z
 ·exact z
structure Pm (n:Nat) (p:Array Nat):Prop where
 perm:p.toList.Perm (List.range n)
theorem Pm.size {p:Array Nat} (h:Pm n p):p.size=n:=by have:=h.perm.length_eq; simpa using this
theorem Pm.get {p:Array Nat} (h:Pm n p) {k:Nat} (hk:k < n):p[k]?=some (p.getD k 0)/\p.getD k 0 < n:=by
 have hs:=h.size
 have e:p[k]?=some (p.getD k 0):=by simp [hs,hk]
 refine ⟨e,?_⟩
 have:p.getD k 0∈p.toList:=by
  rw [<-Array.getElem?_toList] at e
  exact List.mem_of_getElem? e
 exact List.mem_range.mp (h.perm.mem_iff.mp this)
theorem Pm.inj {p:Array Nat} (h:Pm n p) {i j:Nat} (hi:i < n) (hj:j < n) (e:p.getD i 0=p.getD j 0):i=j:=by
 have nd:p.toList.Nodup:=h.perm.nodup_iff.mpr List.nodup_range
 have a:=(h.get hi).1; have b:=(h.get hj).1
 rw [e,<-b] at a
 have hs:=h.size
 rw [<-Array.getElem?_toList,<-Array.getElem?_toList] at a
 exact (List.getElem?_inj (by simpa [hs] using hi) nd).mp a
noncomputable def SortTo (c:Nat->Nat->Bool) (p:Array Nat) (k:Nat):Prop:=∀ i j,i < j->j < k->c (p.getD i 0) (p.getD j 0)=true
theorem ZbG (o:Ord n c) {p:Array Nat} (h:Pm n p) {k:Nat} (hk:k<=n) (ha:∀ i,1<=i->i < k->c (p.getD (i-1) 0) (p.getD i 0)=true):SortTo c p k:=by
 intro i j hij hj
 induction j with
 | zero=>omega
 | succ j ih=>
  have s:=ha (j+1) (by omega) hj
  rw [Nat.add_sub_cancel] at s
  by_cases e:i=j
  ·rw [e]; exact s
  ·exact o.tr _ _ _ (h.get (by omega)).2 (h.get (by omega)).2 (h.get (by omega)).2 (ih (by omega) (by omega)) s
theorem Zd2 (o:Ord n c) {p:Array Nat} (h:Pm n p):∀ (f m:Nat),1<=m->m+f<=n->∃ r,run c (kas_asc p f m)=r/\m<=r/\r<=m+f/\(∀ i,m<=i->i < r->c (p.getD (i-1) 0) (p.getD i 0)=true)/\(r < m+f->c (p.getD r 0) (p.getD (r-1) 0)=true)
 | 0,m,_,_=>⟨m,rfl,Nat.le_refl _,Nat.le_refl _,fun i a b=>by omega,fun a=>by omega⟩
 | f+1,m,h1,h2=>by
  unfold kas_asc
  simp only [run]
  by_cases e:c (p.getD m 0) (p.getD (m-1) 0)=true
  ·rw [if_pos e]
   exact ⟨m,rfl,Nat.le_refl _,by omega,fun i a b=>by omega,fun _=>e⟩
  ·rw [if_neg e]
   obtain ⟨r,e1,e2,e3,e4,e5⟩:=Zd2 o h f (m+1) (by omega) (by omega)
   refine ⟨r,e1,by omega,by omega,fun i a b=>?_,fun a=>e5 (by omega)⟩
   by_cases z:i=m
   ·subst z
    have g1:=(h.get (k:=i) (by omega)).2; have g2:=(h.get (k:=i-1) (by omega)).2
    refine o.flip g1 g2 (fun q=>?_) (by simpa using e)
    have:=h.inj (by omega) (by omega) q; omega
   ·exact e4 i (by omega) b
theorem ZdL (o:Ord n c) {p:Array Nat} (h:Pm n p):∀ (f m:Nat),1<=m->m+f<=n->∃ r,run c (kas_desc f p m 0)=(p,r,0)/\m<=r/\r<=m+f/\(∀ i,m<=i->i < r->c (p.getD i 0) (p.getD (i-1) 0)=true)
 | 0,m,_,_=>⟨m,rfl,Nat.le_refl _,Nat.le_refl _,fun i a b=>by omega⟩
 | f+1,m,h1,h2=>by
  unfold kas_desc
  simp only [run]
  by_cases e:c (p.getD m 0) (p.getD (m-1) 0)=true
  ·rw [if_pos e,if_neg (by omega)]
   obtain ⟨r,e1,e2,e3,e4⟩:=ZdL o h f (m+1) (by omega) (by omega)
   refine ⟨r,e1,by omega,by omega,fun i a b=>?_⟩
   by_cases z:i=m
   ·subst z; exact e
   ·exact e4 i (by omega) b
  ·rw [if_neg e]
   simp only [run]
   have g1:=(h.get (k:=m) (by omega)).2; have g2:=(h.get (k:=m-1) (by omega)).2
   have:c (p.getD (m-1) 0) (p.getD m 0)=true:=o.flip g1 g2 (fun q=>by have:=h.inj (by omega) (by omega) q; omega) (by simpa using e)
   rw [this,if_pos rfl]
   exact ⟨m,rfl,Nat.le_refl _,by omega,fun i a b=>by omega⟩
theorem ZfA {p:Array Nat} (h:Pm n p) (i j:Nat):Pm n (kas_rev p i j):=⟨((mirror_perm p i j _).toList).trans h.perm⟩
theorem ZcR {p:Array Nat} {m k:Nat} (hm:m<=p.size):(kas_rev p 0 m).getD k 0=if k < m then p.getD (m-1-k) 0 else p.getD k 0:=by
 have e:=getElem?_mirror_all (xs:=p) (i:=0) hm k
 have a:(kas_rev p 0 m).getD k 0=((kas_rev p 0 m)[k]?).getD 0:=by simp
 rw [a]
 unfold kas_rev
 rw [e]
 by_cases z:k < m
 ·rw [if_pos ⟨by omega,z⟩,if_pos z,Nat.zero_add]; simp
 ·rw [if_neg (by omega),if_neg z]; simp
theorem Zfc (o:Ord n c) {p:Array Nat} (h:Pm n p) (hn:2<=n):∃ m p',run c (kas_count n p)=(m,p')/\Pm n p'/\1<=m/\m<=n/\SortTo c p' m:=by
 unfold kas_count
 rw [Qy]
 obtain ⟨r,e1,e2,e3,e4,e5⟩:=Zd2 o h (n-1) 1 (Nat.le_refl _) (by omega)
 rw [e1]
 have st:SortTo c p r:=ZbG o h (by omega) e4
 by_cases z:r=n
 ·rw [if_pos (by simpa using z)]
  exact ⟨r,p,rfl,h,e2,by omega,st⟩
 ·rw [if_neg (by simpa using z)]
  by_cases y:r > 1
  ·rw [if_pos y]
   simp only [run]
   rw [st 0 (r-1) (by omega) (by omega),if_pos rfl]
   exact ⟨r,p,rfl,h,e2,by omega,st⟩
  ·rw [if_neg y]
   have r1:r=1:=by omega
   subst r1
   have d0:=e5 (by omega)
   unfold kas_descPart
   rw [Qy]
   obtain ⟨q,f1,f2,f3,f4⟩:=ZdL o h (n-(1+1)) (1+1) (by omega) (by omega)
   rw [f1]
   simp only
   rw [if_neg (by omega)]
   unfold kas_tail3
   rw [Qy]
   have hp:=ZfA h 0 q
   obtain ⟨m,g1,g2,g3,g4,_⟩:=Zd2 o hp (n-q) q (by omega) (by omega)
   rw [g1]
   refine ⟨m,kas_rev p 0 q,rfl,hp,by omega,by omega,ZbG o hp (by omega) fun i a b=>?_⟩
   by_cases w:i < q
   ·rw [ZcR (by rw [h.size]; omega),ZcR (by rw [h.size]; omega),if_pos (by omega),if_pos w]
    by_cases v:q-1-i+1=1
    ·rw [show q-1-(i-1)=1 by omega,show q-1-i=0 by omega]; exact d0
    ·have:=f4 (q-1-(i-1)) (by omega) (by omega)
     rw [show q-1-(i-1)-1=q-1-i by omega] at this
     exact this
   ·exact g4 i (by omega) b
theorem VH (o:Ord n c) {p:Array Nat} (h:Pm n p) {k:Nat} (hk:k < n) (st:SortTo c p k):∀ (f l r:Nat),r<=l+f->l<=r->r<=k->(∀ i,i < l->c (p.getD i 0) (p.getD k 0)=true)->(∀ i,r<=i->i < k->c (p.getD k 0) (p.getD i 0)=true) ->
  ∃ m,run c (kas_place p k f l r)=m/\m<=k/\(∀ i,i < m->c (p.getD i 0) (p.getD k 0)=true)/\(∀ i,m<=i->i < k->c (p.getD k 0) (p.getD i 0)=true)
 | 0,l,r,h1,h2,h3,a,b=>⟨l,rfl,by omega,a,fun i x y=>b i (by omega) y⟩
 | f+1,l,r,h1,h2,h3,a,b=>by
  unfold kas_place
  by_cases z:l>=r
  ·rw [if_pos z]; exact ⟨l,rfl,by omega,a,fun i x y=>b i (by omega) y⟩
  ·rw [if_neg z]
   simp only [run]
   have gk:=(h.get hk).2
   by_cases e:c (p.getD k 0) (p.getD ((l+r) / 2) 0)=true
   ·rw [if_pos e]
    refine VH o h hk st f l ((l+r) / 2) (by omega) (by omega) (by omega) a fun i x y=>?_
    by_cases w:i=(l+r) / 2
    ·rw [w]; exact e
    ·exact o.tr _ _ _ gk (h.get (by omega)).2 (h.get (by omega)).2 e (st _ _ (by omega) y)
   ·rw [if_neg e]
    have q:c (p.getD ((l+r) / 2) 0) (p.getD k 0)=true:=o.flip gk (h.get (by omega)).2 (fun q=>by have:=h.inj hk (by omega) q; omega) (by simpa using e)
    refine VH o h hk st f ((l+r) / 2+1) r (by omega) (by omega) h3 (fun i x=>?_) b
    by_cases w:i=(l+r) / 2
    ·rw [w]; exact q
    ·exact o.tr _ _ _ (h.get (by omega)).2 (h.get (by omega)).2 gk (st _ _ (by omega) (by omega)) q
theorem ZaT {p:Array Nat} {k m i:Nat} (hk:k < p.size) (hm:m<=k):(bubble p k (k-m)).getD i 0=if i=m then p.getD k 0 else if m < i/\i<=k then p.getD (i-1) 0 else p.getD i 0:=by
 have e:=getElem?_bubble hk (k-m) (by omega) i
 have a:(bubble p k (k-m)).getD i 0=((bubble p k (k-m))[i]?).getD 0:=by simp
 rw [a,e,show k-(k-m)=m by omega]
 by_cases z:i=m
 ·rw [if_pos z,if_pos z]; simp
 ·rw [if_neg z,if_neg z]
  by_cases y:m < i/\i<=k
  ·rw [if_pos y,if_pos y]; simp
  ·rw [if_neg y,if_neg y]; simp
theorem Zf2 (o:Ord n c):∀ (f k:Nat) (p:Array Nat),Pm n p->SortTo c p k->1<=k->k+f=n->∃ q,run c (kas_bin f p k)=q/\Pm n q/\SortTo c q n
 | 0,k,p,h,st,_,e=>⟨p,rfl,h,by rw [<-e]; exact st⟩
 | f+1,k,p,h,st,h1,e=>by
  unfold kas_bin
  rw [Qy]
  obtain ⟨m,e1,e2,e3,e4⟩:=VH o h (k:=k) (by omega) st k 0 k (by omega) (by omega) (by omega) (fun i x=>by omega) (fun i x y=>by omega)
  rw [e1]
  have hs:=h.size
  refine Zf2 o f (k+1) (bubble p k (k-m)) ⟨((bubble_perm p k _).toList).trans h.perm⟩ (fun i j hij hj=>?_) (by omega) (by omega)
  rw [ZaT (by omega) e2,ZaT (by omega) e2]
  by_cases a:i=m
  ·rw [if_pos a,if_neg (by omega),if_pos (by omega)]
   exact e4 (j-1) (by omega) (by omega)
  ·rw [if_neg a]
   by_cases b:j=m
   ·rw [if_pos b,if_neg (by omega)]
    exact e3 i (by omega)
   ·rw [if_neg b]
    by_cases x:m < i/\i<=k
    ·rw [if_pos x,if_pos (by omega)]
     exact st _ _ (by omega) (by omega)
    ·rw [if_neg x]
     by_cases y:m < j/\j<=k
     ·rw [if_pos y]
      exact st _ _ (by omega) (by omega)
     ·rw [if_neg y]
      exact st _ _ (by omega) (by omega)
theorem Zge (o:Ord n c) (hn:2<=n):Pm n (run c (kas_sort n))/\SortTo c (run c (kas_sort n)) n:=by
 have h0:Pm n (List.toArray (List.range n)):=⟨by simp⟩
 unfold kas_sort
 rw [Qy]
 obtain ⟨m,p',e1,e2,e3,e4,e5⟩:=Zfc o h0 hn
 rw [e1]
 simp only
 by_cases z:m < n
 ·rw [if_pos z,show max m 1=m by omega]
  obtain ⟨q,f1,f2,f3⟩:=Zf2 o (n-m) m p' e2 e5 e3 (by omega)
  rw [f1]; exact ⟨f2,f3⟩
 ·rw [if_neg z]
  have:m=n:=by omega
  subst this
  exact ⟨e2,e5⟩
noncomputable def Bd (n:Nat) {α:Type} (P:α->Prop):KasT α->Prop
 | .ret a=>P a
 | .ask i j k=>i < n/\j < n/\∀ b,Bd n P (k b)
theorem Bd.bind {α β:Type} {P:α->Prop} {Q:β->Prop} {f:α->KasT β} (hf:∀ a,P a->Bd n Q (f a)):∀ {t:KasT α},Bd n P t->Bd n Q (t.bind f)
 | .ret a,h=>hf a h
 | .ask i j k,h=>⟨h.1,h.2.1,fun b=>Bd.bind hf (h.2.2 b)⟩
theorem Zft {cmp:Nat->Nat->(Bool->Shared->Prop)->Shared->Prop} {I:Shared->Prop} (hc:∀ i j C s,i < n->j < n->I s->(∀ s',I s'->C (c i j) s')->cmp i j C s) {α:Type} {P:α->Prop} {Q:α->Shared->Prop} :
  ∀ {t:KasT α} {s:Shared},Bd n P t->I s->(∀ s',I s'->Q (run c t) s')->t.kasWp cmp Q s
 | .ret a,s,_,hI,hQ=>hQ s hI
 | .ask i j k,s,h,hI,hQ=>hc i j _ s h.1 h.2.1 hI fun s' hI'=>Zft hc (h.2.2 (c i j)) hI' hQ
noncomputable def Els (n:Nat) (p:Array Nat):Prop:=∀ x∈p.toList,x < n
theorem Els.get {p:Array Nat} (h:Els n p) (hn:0 < n) (k:Nat):p.getD k 0 < n:=by
 by_cases hk:k < p.size
 ·have e:p[k]?=some (p.getD k 0):=by simp [hk]
  rw [<-Array.getElem?_toList] at e
  exact h _ (List.mem_of_getElem? e)
 ·have:p.getD k 0=0:=by simp [hk]
  omega
theorem Els.rev {p:Array Nat} (h:Els n p) (i j:Nat):Els n (kas_rev p i j):=fun x hx=>h x ((mirror_perm p i j _).toList.mem_iff.mp hx)
theorem Els.bub {p:Array Nat} (h:Els n p) (i j:Nat):Els n (bubble p i j):=fun x hx=>h x ((bubble_perm p i j).toList.mem_iff.mp hx)
theorem Zd3 (hn:0 < n) {p:Array Nat} (h:Els n p):∀ f m,Bd n (fun _=>True) (kas_asc p f m)
 | 0,m=>trivial
 | f+1,m=>⟨h.get hn _,h.get hn _,fun b=>by cases b <;> first | exact trivial | exact Zd3 hn h f (m+1)⟩
theorem V4 (hn:0 < n):∀ (f:Nat) (p:Array Nat) (m q:Nat),Els n p->Bd n (fun r=>Els n r.1) (kas_desc f p m q)
 | 0,p,m,q,h=>h
 | f+1,p,m,q,h=>⟨h.get hn _,h.get hn _,fun b=>by
   cases b
   ·exact ⟨h.get hn _,h.get hn _,fun d=>by cases d <;> first | exact h | exact V4 hn f p _ _ h⟩
   ·show Bd n _ (if q > 0 then _ else _)
    split
    ·exact V4 hn f _ _ _ (h.rev _ _)
    ·exact V4 hn f _ _ _ h⟩
theorem Za6 (hn:0 < n) {p:Array Nat} (h:Els n p) (m k:Nat):Bd n (fun r=>Els n r.2) (kas_tail3 m k p):=by
 unfold kas_tail3
 refine Bd.bind (P:=fun _=>True) (fun a _=>?_) (Zd3 hn (h.rev 0 m) _ _)
 exact h.rev 0 m
theorem Zc4 (hn:0 < n) {p:Array Nat} (h:Els n p) (m k:Nat):Bd n (fun r=>Els n r.2) (kas_descPart m k p):=
 Bd.bind (fun r hr=>by
  show Bd n _ (if r.2.2 > 0 then _ else _)
  split
  ·exact Za6 hn (hr.rev _ _) _ _
  ·exact Za6 hn hr _ _) (V4 hn _ _ _ _ h)
theorem Zfd (hn:0 < n) {p:Array Nat} (h:Els n p) (k:Nat):Bd n (fun r=>Els n r.2) (kas_count k p):=
 Bd.bind (fun m _=>by
  show Bd n _ (if (m==k)=true then _ else if m > 1 then _ else _)
  split
  ·exact h
  ·split
   ·exact ⟨h.get hn _,h.get hn _,fun b=>by cases b <;> first | exact h | exact Zc4 hn (h.rev _ _) _ _⟩
   ·exact Zc4 hn h _ _) (Zd3 hn h _ _)
theorem Zbk (hn:0 < n) {p:Array Nat} (h:Els n p) (k:Nat):∀ f l r,Bd n (fun _=>True) (kas_place p k f l r)
 | 0,l,r=>trivial
 | f+1,l,r=>by
  show Bd n _ (if l>=r then _ else _)
  split
  ·exact trivial
  ·exact ⟨h.get hn _,h.get hn _,fun b=>by cases b <;> exact Zbk hn h k f _ _⟩
theorem Zf3 (hn:0 < n):∀ (f:Nat) (p:Array Nat) (k:Nat),Els n p->Bd n (fun r=>Els n r) (kas_bin f p k)
 | 0,p,k,h=>h
 | f+1,p,k,h=>Bd.bind (fun l _=>Zf3 hn f _ _ (h.bub _ _)) (Zbk hn h k _ _ _)
theorem Zgf (hn:0 < n):Bd n (fun r=>Els n r) (kas_sort n):=
 Bd.bind (fun r hr=>by
  show Bd n _ (if r.1 < n then _ else _)
  split
  ·exact Zf3 hn _ _ _ hr
  ·exact hr) (Zfd hn (fun x hx=>List.mem_range.mp (by simpa using hx)) n)
noncomputable def UC:Bool->Keyed->Array Keyed->Nat->Nat->Nat->StateT SortSt Sem (Option Nat):=sortPriv% PySem.Builtin.gallop
noncomputable def Zbo:Array Keyed->Array Keyed->StateT SortSt Sem (Array Keyed):=sortPriv% PySem.Builtin.mergeLo
noncomputable def Zbp:Array Keyed->Array Keyed->StateT SortSt Sem (Array Keyed):=sortPriv% PySem.Builtin.mergeHi
section
variable {M:Model} {A:Around} {E:Value->Shared->Prop} {σ:Type}
theorem Qd {α:Type} {m:StateT σ Sem α} {Q Q':α->σ->Shared->Prop} {st:σ} {s:Shared} (h:kasC M A E m Q st s) (hq:∀ a st' s',Q a st' s'->Q' a st' s'):kasC M A E m Q' st s:=
 wpAny_mono h (fun r s' h'=>hq _ _ _ h') fun _ _ e=>e
theorem WM {β:Type} {a b:Nat} {x0:β} {f:Nat->β->StateT σ Sem (ForInStep β)} {Q:β->σ->Shared->Prop} {st:σ} {s:Shared} (Inv:Nat->β->σ->Shared->Prop) (h0:Inv a x0 st s)
  (step:∀ k x st s,a<=k->k < b->Inv k x st s->kasC M A E (f k x) (fun r st' s'=>match r with | .yield x'=>Inv (k+1) x' st' s' | .done x'=>Q x' st' s') st s)
  (fin:∀ x st s,Inv (max a b) x st s->Q x st s):kasC M A E (forIn [a:b] x0 f) Q st s:=by
 refine kasC_range ?_
 have go:∀ (g k:Nat) (x:β) (st:σ) (s:Shared),a<=k->k+g=max a b->Inv k x st s->kasC M A E (forIn (List.range' k g) x f) Q st s:=by
  intro g
  induction g with
  | zero=>intro k x st s h1 h2 h; exact kasC_nil (fin x st s (by rw [<-h2]; exact h))
  | succ g ih=>
   intro k x st s h1 h2 h
   rw [List.range'_succ]
   refine kasC_cons (Qd (step k x st s h1 (by omega) h) fun r st' s' hr=>?_)
   cases r with
   | done x'=>exact hr
   | yield x'=>exact ih (k+1) x' st' s' (by omega) (by omega) hr
 exact go (b-a) a x0 st s (Nat.le_refl _) (by omega) h0
end
section
variable {prog:Program} {w:World} {A:Around} {E:Value->Shared->Prop} {κ:SortKind} {it:Array Keyed} {n:Nat} {c:Nat->Nat->Bool} {I:Shared->Prop}
noncomputable def Cmp (prog:Program) (w:World) (A:Around) (κ:SortKind) (it:Array Keyed) (n:Nat) (c:Nat->Nat->Bool) (I:Shared->Prop):Prop:=
 ∀ i j C s,i < n->j < n->I s->(∀ s',I s'->C (c i j) s')->kas_cmp prog w A κ it i j C s
noncomputable def Ki (it:Array Keyed) (p:Array Nat):Array Keyed:=p.map (kas_item it)
noncomputable def St (κ:SortKind) (it:Array Keyed) (p:Array Nat) (pend:Array (Nat×Nat×Nat)) (g:Nat):SortSt:=SortSt.mk' κ (Ki it p) pend g none
theorem Zih (hc:Cmp prog w A κ it n c I) {i j:Nat} (hi:i < n) (hj:j < n) {st:SortSt} (hk:kindOf st=κ) {s:Shared} (hI:I s) {Q:Option Bool->SortSt->Shared->Prop} (q:∀ s',I s'->Q (some (c i j)) st s') :
  kasC (model prog w) A E (lt' (kas_item it i) (kas_item it j)) Q st s:=by
 rw [lt'_eq]
 refine kasC_bind (kasC_get ?_)
 rw [hk]
 refine kasC_bind (kasC_lift (wpAny_attempt (wpAny_mono (hc i j (fun b s'=>Q (some b) st s') s hi hj hI q) (fun b s' hb=>?_) fun _ _ hF=>hF.elim)))
 exact kasC_pure hb
theorem Vj {p:Array Nat} {i:Nat} (hi:i < p.size) {st:SortSt} {s:Shared} {Q:Keyed->SortSt->Shared->Prop} (q:Q (kas_item it (p.getD i 0)) st s):kasC (model prog w) A E (elem' (Ki it p) i) Q st s:=by
 rw [elem'_eq]
 have e:(Ki it p)[i]?=some (kas_item it (p.getD i 0)):=by
  unfold Ki
  have:p.getD i 0=p[i]:=by simp [Array.getD,hi]
  rw [this]; simp [hi]
 rw [e]
 exact kasC_pure q
theorem ZeR (hc:Cmp prog w A κ it n c I) {left:Bool} {kx:Nat} (hkx:kx < n) {p:Array Nat} (hp:∀ i,p.getD i 0 < n) {base m:Nat} (hb:base+m<=p.size) {B:Nat->Bool}
  (hB:∀ i,i < m->B i=(if left=true then c (p.getD (base+i) 0) kx else !(c kx (p.getD (base+i) 0)))) {i:Nat} (hi:i < m) {st:SortSt} (hk:kindOf st=κ) {s:Shared} (hI:I s) {Q:Option Bool->SortSt->Shared->Prop}
  (q:∀ s',I s'->Q (some (B i)) st s') :
  kasC (model prog w) A E (do
   let x <- elem' (Ki it p) (base+i)
   if left=true then lt' x (kas_item it kx) else do
    let y <- lt' (kas_item it kx) x
    pure (Option.map (fun x=>!x) y)) Q st s:=by
 refine kasC_bind (Vj (by omega) ?_)
 have e:=hB i hi
 cases left with
 | true=>
  rw [if_pos rfl] at e ⊢
  exact Zih hc (hp _) hkx hk hI (by rw [<-e]; exact q)
 | false=>
  rw [if_neg (by simp)] at e ⊢
  refine kasC_bind (Zih hc hkx (hp _) hk hI fun s' hs=>kasC_pure ?_)
  have:=q s' hs
  rw [e] at this
  exact this
theorem gal (hc:Cmp prog w A κ it n c I) {left:Bool} {kx:Nat} (hkx:kx < n) {p:Array Nat} (hp:∀ i,p.getD i 0 < n) {base m hint:Nat} (hb:base+m<=p.size) (hh:hint < m) {B:Nat->Bool}
  (hB:∀ i,i < m->B i=(if left=true then c (p.getD (base+i) 0) kx else !(c kx (p.getD (base+i) 0)))) (mono:∀ i j,i < j->j < m->B j=true->B i=true) {st:SortSt} (hk:kindOf st=κ) {s:Shared} (hI:I s) {Q:Option Nat->SortSt->Shared->Prop}
  (q:∀ k s',I s'->k<=m->(∀ i,i < k->B i=true)->(∀ i,k<=i->i < m->B i=false)->Q (some k) st s') :
  kasC (model prog w) A E (UC left (kas_item it kx) (Ki it p) base m hint) Q st s:=by
 have le:∀ i j,i<=j->j < m->B j=true->B i=true:=fun i j h1 h2 h3=>by
  by_cases e:i=j
  ·rw [e]; exact h3
  ·exact mono i j (by omega) h2 h3
 have ge:∀ i j,i<=j->j < m->B i=false->B j=false:=fun i j h1 h2 h3=>by
  cases e:B j with
  | false=>rfl
  | true=>rw [le i j h1 h2 e] at h3; cases h3
 unfold UC
 refine kasC_bind (ZeR hc hkx hp hb hB hh hk hI fun s1 hI1=>?_)
 simp -zeta -zetaHave only []
 extract_lets jp
 have hjp:∀ r a b lo hi s,I s->lo<=hi->hi<=m->(∀ i,i < lo->B i=true)->(∀ i,hi<=i->i < m->B i=false)->kasC (model prog w) A E (jp r a b lo hi) Q st s:=by
  intro r a b lo hi s hI l1 l2 l3 l4
  refine kasC_bind (WM (fun k x st' s'=>st'=st/\I s'/\∃ l h,x=(none,l,h)/\l<=h/\h<=m/\h-l<=m-k/\(∀ i,i < l->B i=true)/\(∀ i,h<=i->i < m->B i=false))
   ⟨rfl,hI,lo,hi,rfl,l1,l2,by omega,l3,l4⟩ ?_ ?_)
  ·rintro k x st' s' _ hk' ⟨rfl,hI',l,h,rfl,a1,a2,a3,a4,a5⟩
   by_cases z:l>=h
   ·show kasC _ _ _ (if l>=h then _ else _) _ _ _
    rw [if_pos z]
    refine kasC_pure ?_
    have:l=h:=by omega
    subst this
    exact kasC_pure (q l s' hI' a2 a4 a5)
   ·show kasC _ _ _ (if l>=h then _ else _) _ _ _
    rw [if_neg z]
    refine kasC_bind (ZeR hc hkx hp hb hB (i:=l+(h-l) / 2) (by omega) hk hI' fun s2 hI2=>?_)
    cases e:B (l+(h-l) / 2) with
    | true=>exact kasC_pure ⟨rfl,hI2,l+(h-l) / 2+1,h,rfl,by omega,by omega,by omega,fun i hi=>le i _ (by omega) (by omega) e,a5⟩
    | false=>exact kasC_pure ⟨rfl,hI2,l,l+(h-l) / 2,rfl,by omega,by omega,by omega,a4,fun i h1 h2=>ge _ i (by omega) h2 e⟩
  ·rintro x st' s' ⟨rfl,hI',l,h,rfl,a1,a2,a3,a4,a5⟩
   have:l=h:=by omega
   subst this
   exact kasC_pure (q l s' hI' a2 a4 a5)
 clear_value jp
 cases e:B hint with
 | true=>
  rw [if_pos rfl]
  refine kasC_bind (WM (fun k x st' s'=>st'=st/\I s'/\∃ l o,x=(none,l,o)/\l < o/\k+1<=o/\hint+l < m/\B (hint+l)=true) ⟨rfl,hI1,0,1,rfl,by omega,by omega,by omega,e⟩ ?_ ?_)
  ·rintro k x st' s' _ hk' ⟨rfl,hI',l,o,rfl,a1,a2,a3,a4⟩
   show kasC _ _ _ (if o>=m-hint then _ else _) _ _ _
   by_cases z:o>=m-hint
   ·rw [if_pos z]
    refine kasC_pure ?_
    refine hjp _ _ _ (hint+l+1) (hint+min o (m-hint)) _ hI' (by omega) (by omega) (fun i hi=>le i _ (by omega) a3 a4) fun i h1 h2=>?_
    omega
   ·rw [if_neg z]
    refine kasC_bind (ZeR hc hkx hp hb hB (i:=hint+o) (by omega) hk hI' fun s2 hI2=>?_)
    cases e2:B (hint+o) with
    | true=>exact kasC_pure ⟨rfl,hI2,o,2*o+1,rfl,by omega,by omega,by omega,e2⟩
    | false=>
     refine kasC_pure ?_
     exact hjp _ _ _ (hint+l+1) (hint+min o (m-hint)) _ hI2 (by omega) (by omega) (fun i hi=>le i _ (by omega) a3 a4) fun i h1 h2=>ge _ i (by omega) h2 e2
  ·rintro x st' s' ⟨rfl,hI',l,o,rfl,a1,a2,a3,a4⟩
   exact hjp _ _ _ (hint+l+1) (hint+min o (m-hint)) _ hI' (by omega) (by omega) (fun i hi=>le i _ (by omega) a3 a4) fun i h1 h2=>by omega
 | false=>
  rw [if_neg (by simp)]
  refine kasC_bind (WM (fun k x st' s'=>st'=st/\I s'/\∃ l o,x=(none,l,o)/\l < o/\k+1<=o/\l<=hint/\B (hint-l)=false) ⟨rfl,hI1,0,1,rfl,by omega,by omega,by omega,e⟩ ?_ ?_)
  ·rintro k x st' s' _ hk' ⟨rfl,hI',l,o,rfl,a1,a2,a3,a4⟩
   show kasC _ _ _ (if o>=hint+1 then _ else _) _ _ _
   by_cases z:o>=hint+1
   ·rw [if_pos z]
    refine kasC_pure ?_
    exact hjp _ _ _ (hint+1-min o (hint+1)) (hint-l) _ hI' (by omega) (by omega) (fun i hi=>by omega) fun i h1 h2=>ge _ i (by omega) h2 a4
   ·rw [if_neg z]
    refine kasC_bind (ZeR hc hkx hp hb hB (i:=hint-o) (by omega) hk hI' fun s2 hI2=>?_)
    cases e2:B (hint-o) with
    | false=>exact kasC_pure ⟨rfl,hI2,o,2*o+1,rfl,by omega,by omega,by omega,e2⟩
    | true=>
     refine kasC_pure ?_
     exact hjp _ _ _ (hint+1-min o (hint+1)) (hint-l) _ hI2 (by omega) (by omega) (fun i hi=>le i (hint-o) (by omega) (by omega) e2) fun i h1 h2=>ge _ i (by omega) h2 a4
  ·rintro x st' s' ⟨rfl,hI',l,o,rfl,a1,a2,a3,a4⟩
   exact hjp _ _ _ (hint+1-min o (hint+1)) (hint-l) _ hI' (by omega) (by omega) (fun i hi=>by omega) fun i h1 h2=>ge _ i (by omega) h2 a4
end
variable {n:Nat} {c:Nat->Nat->Bool}
noncomputable abbrev Up (c:Nat->Nat->Bool) (l:List Nat):Prop:=l.Pairwise fun x y=>c x y=true
structure Two (n:Nat) (c:Nat->Nat->Bool) (la lb:List Nat):Prop where
 ord:Ord n c
 ba:∀ x∈la,x < n
 bb:∀ x∈lb,x < n
 ua:Up c la
 ub:Up c lb
 ne:∀ x∈la,∀ y∈lb,x≠y
theorem Two.symm {la lb:List Nat} (h:Two n c la lb):Two n c lb la:=⟨h.ord,h.bb,h.ba,h.ub,h.ua,fun x hx y hy e=>h.ne y hy x hx e.symm⟩
structure MI (c:Nat->Nat->Bool) (la lb out:List Nat) (ia ib:Nat):Prop where
 perm:out.Perm (la.take ia++lb.take ib)
 pa:Up c (out++la.drop ia)
 pb:Up c (out++lb.drop ib)
theorem MI.symm {la lb out:List Nat} {ia ib:Nat} (h:MI c la lb out ia ib):MI c lb la out ib ia:=⟨h.perm.trans List.perm_append_comm,h.pb,h.pa⟩
theorem Jc {l:List Nat} {i:Nat} (h:i < l.length):l.drop i=l.getD i 0::l.drop (i+1):=by
 rw [List.drop_eq_getElem_cons h]
 simp [h]
theorem ZI {l:List Nat} {i:Nat} (h:i < l.length):l.getD i 0∈l:=by
 have:l.getD i 0=l[i]:=by simp [h]
 rw [this]; exact List.getElem_mem h
theorem MI.go {la lb out:List Nat} {ia ib k:Nat} (T:Two n c la lb) (h:MI c la lb out ia ib) (hk:ia+k<=la.length) (hb:∀ i,i < k->ib < lb.length->c (la.getD (ia+i) 0) (lb.getD ib 0)=true) :
  MI c la lb (out++(la.drop ia).take k) (ia+k) ib:=by
 have e0:la.drop ia=(la.drop ia).take k++la.drop (ia+k):=by
  rw [<-List.drop_drop,List.take_append_drop]
 have eb:∀ x∈(la.drop ia).take k,x∈la/\∀ y∈lb.drop ib,c x y=true:=by
  intro x hx
  obtain ⟨i,hi,e⟩:=List.getElem_of_mem hx
  have l1:i < k/\ia+i < la.length:=by
   rw [List.length_take,List.length_drop] at hi; omega
  have e1:x=la.getD (ia+i) 0:=by
   rw [<-e]; simp [l1.2]
  have xm:x∈la:=by rw [e1]; exact ZI l1.2
  refine ⟨xm,fun y hy=>?_⟩
  have hl:ib < lb.length:=by
   cases Nat.lt_or_ge ib lb.length with
   | inl z=>exact z
   | inr z=>rw [List.drop_eq_nil_of_le z] at hy; cases hy
  have c1:=hb i l1.1 hl
  rw [<-e1] at c1
  have ub:Up c (lb.drop ib):=T.ub.sublist (List.drop_sublist _ _)
  rw [Jc hl] at hy ub
  rcases List.mem_cons.mp hy with z | z
  ·rw [z]; exact c1
  ·exact T.ord.tr _ _ _ (T.ba x xm) (T.bb _ (ZI hl)) (T.bb y (List.mem_of_mem_drop z)) c1 ((List.pairwise_cons.mp ub).1 y z)
 refine ⟨?_,?_,?_⟩
 ·have e2:la.take (ia+k)=la.take ia++(la.drop ia).take k:=by rw [List.take_add]
  rw [e2]
  refine (h.perm.append_right _).trans ?_
  rw [List.append_assoc,List.append_assoc]
  exact List.Perm.append_left _ List.perm_append_comm
 ·have:=h.pa
  rw [e0] at this
  rw [List.append_assoc]; exact this
 ·have pa:=h.pa; have pb:=h.pb
  rw [e0] at pa
  rw [List.append_assoc]
  rw [Up,List.pairwise_append] at pa pb ⊢
  rw [List.pairwise_append] at pa
  refine ⟨pb.1,?_,fun x hx y hy=>?_⟩
  ·rw [List.pairwise_append]
   exact ⟨pa.2.1.1,pb.2.1,fun x hx y hy=>(eb x hx).2 y hy⟩
  ·rcases List.mem_append.mp hy with z | z
   ·exact pa.2.2 x hx y (List.mem_append.mpr (.inl z))
   ·exact pb.2.2 x hx y z
theorem MI.one {la lb out:List Nat} {ia ib:Nat} (T:Two n c la lb) (h:MI c la lb out ia ib) (hk:ia < la.length) (hb:ib < lb.length->c (la.getD ia 0) (lb.getD ib 0)=true):MI c la lb (out++[la.getD ia 0]) (ia+1) ib:=by
 have:=h.go (k:=1) T (by omega) fun i hi hl=>by
  have:i=0:=by omega
  subst this; exact hb hl
 rw [Jc hk] at this
 exact this
theorem MI.done {la lb out:List Nat} {ia ib:Nat} (h:MI c la lb out ia ib) (e:ia=la.length\/ib=lb.length):(out++la.drop ia++lb.drop ib).Perm (la++lb)/\Up c (out++la.drop ia++lb.drop ib):=by
 constructor
 ·refine ((h.perm.append_right _).append_right _).trans ?_
  have p1:(la.take ia++lb.take ib++la.drop ia++lb.drop ib).Perm ((la.take ia++la.drop ia)++(lb.take ib++lb.drop ib)):=by
   simp only [List.append_assoc]
   refine List.Perm.append_left _ ?_
   rw [<-List.append_assoc,<-List.append_assoc]
   exact List.Perm.append_right _ List.perm_append_comm
  rw [List.take_append_drop,List.take_append_drop] at p1
  exact p1
 ·rcases e with e | e
  ·subst e; rw [List.drop_length,List.append_nil]; exact h.pb
  ·subst e; rw [List.drop_length,List.append_nil]; exact h.pa
theorem MI.last {la lb out:List Nat} {ia ib:Nat} (h:MI c la lb out ia ib) (e:ia+1=la.length) (hl:∀ y∈lb,c y (la.getD ia 0)=true):(out++lb.drop ib++la.drop ia).Perm (la++lb)/\Up c (out++lb.drop ib++la.drop ia):=by
 have e1:la.drop ia=[la.getD ia 0]:=by
  rw [Jc (by omega),e,List.drop_length]
 constructor
 ·refine ((h.perm.append_right _).append_right _).trans ?_
  have p1:(la.take ia++lb.take ib++lb.drop ib++la.drop ia).Perm ((la.take ia++la.drop ia)++(lb.take ib++lb.drop ib)):=by
   simp only [List.append_assoc]
   refine List.Perm.append_left _ ?_
   rw [<-List.append_assoc]
   exact List.perm_append_comm
  rw [List.take_append_drop,List.take_append_drop] at p1
  exact p1
 ·have pa:=h.pa; have pb:=h.pb
  rw [e1] at pa ⊢
  rw [Up,List.pairwise_append] at pa ⊢
  refine ⟨pb,pa.2.1,fun x hx y hy=>?_⟩
  rcases List.mem_append.mp hx with z | z
  ·exact pa.2.2 x z y hy
  ·rw [List.mem_singleton.mp hy]; exact hl x (List.mem_of_mem_drop z)
theorem MI.first {la lb:List Nat} (T:Two n c la lb):MI c la lb [] 0 0:=⟨by simp,T.ua,T.ub⟩
noncomputable def Kl (it:Array Keyed) (l:List Nat):Array Keyed:=(l.map (kas_item it)).toArray
variable {it:Array Keyed}
theorem J9 (l m:List Nat):Kl it l++Kl it m=Kl it (l++m):=by simp [Kl]
theorem ZC (l:List Nat) (x:Nat):(Kl it l).push (kas_item it x)=Kl it (l++[x]):=by simp [Kl]
theorem Z4 (l:List Nat):(Kl it l).size=l.length:=by simp [Kl]
theorem QN (l:List Nat) (i j:Nat):(Kl it l).extract i j=Kl it ((l.drop i).take (j-i)):=by
 simp [Kl,List.map_take,List.map_drop,List.extract_eq_drop_take]
theorem Wi (l:List Nat) (i:Nat):(Kl it l).extract i (Kl it l).size=Kl it (l.drop i):=by
 rw [QN,Z4,List.take_of_length_le (by simp)]
theorem ZbJ (l:List Nat):(Kl it l).reverse=Kl it l.reverse:=by simp [Kl]
theorem ZiO (p:Array Nat):Ki it p=Kl it p.toList:=by
 unfold Ki Kl
 apply Array.ext'
 simp
theorem ZiN (l:List Nat):Kl it l=Ki it l.toArray:=by rw [ZiO]
section
variable {M:Model} {A:Around} {E:Value->Shared->Prop} {σ:Type}
theorem Yp {α:Type} {b:Bool} {x y:StateT σ Sem α} {Q:α->σ->Shared->Prop} {st:σ} {s:Shared} (h1:b=true->kasC M A E x Q st s) (h2:b=false->kasC M A E y Q st s):kasC M A E (if b=true then x else y) Q st s:=by
 cases b with
 | true=>rw [if_pos rfl]; exact h1 rfl
 | false=>rw [if_neg (by simp)]; exact h2 rfl
theorem Y0 {α:Type} {P:Prop} [Decidable P] {x y:StateT σ Sem α} {Q:α->σ->Shared->Prop} {st:σ} {s:Shared} (h1:P->kasC M A E x Q st s) (h2:¬ P->kasC M A E y Q st s):kasC M A E (if P then x else y) Q st s:=by
 by_cases h:P
 ·rw [if_pos h]; exact h1 h
 ·rw [if_neg h]; exact h2 h
end
section
variable {prog:Program} {w:World} {A:Around} {E:Value->Shared->Prop} {κ:SortKind} {it:Array Keyed} {n:Nat} {c:Nat->Nat->Bool} {I:Shared->Prop}
theorem Wk {l:List Nat} {i:Nat} (hi:i < l.length) {st:SortSt} {s:Shared} {Q:Keyed->SortSt->Shared->Prop} (q:Q (kas_item it (l.getD i 0)) st s):kasC (model prog w) A E (elem' (Kl it l) i) Q st s:=by
 rw [ZiN]
 exact Vj (by simpa using hi) (by simpa using q)
theorem Zkx (hc:Cmp prog w A κ it n c I) {left:Bool} {kx:Nat} (hkx:kx < n) {l:List Nat} (hp:∀ x∈l,x < n) {base m hint:Nat} (hb:base+m<=l.length) (hh:hint < m) {B:Nat->Bool}
  (hB:∀ i,i < m->B i=(if left=true then c (l.getD (base+i) 0) kx else !(c kx (l.getD (base+i) 0)))) (mono:∀ i j,i < j->j < m->B j=true->B i=true) {st:SortSt} (hk:kindOf st=κ) {s:Shared} (hI:I s) {Q:Option Nat->SortSt->Shared->Prop}
  (q:∀ k s',I s'->k<=m->(∀ i,i < k->B i=true)->(∀ i,k<=i->i < m->B i=false)->Q (some k) st s') :
  kasC (model prog w) A E (UC left (kas_item it kx) (Kl it l) base m hint) Q st s:=by
 rw [ZiN]
 refine gal hc hkx (fun i=>?_) (by simpa using hb) hh (fun i hi=>by simpa using hB i hi) mono hk hI q
 by_cases z:i < l.length
 ·have:=hp _ (ZI z); simpa using this
 ·have:l.toArray.getD i 0=0:=by simp [z]
  rw [this]; omega
theorem ZiU (hc:Cmp prog w A κ it n c I) (o:Ord n c) {x:Nat} (hx:x < n) {l:List Nat} (hp:∀ x∈l,x < n) (up:Up c l) (hne:∀ y∈l,y≠x) {base m hint:Nat} (hb:base+m<=l.length) (hh:hint < m) {left:Bool} {st:SortSt} (hk:kindOf st=κ) {s:Shared} (hI:I s) {Q:Option Nat->SortSt->Shared->Prop}
  (q:∀ k s',I s'->k<=m->(∀ i,i < k->c (l.getD (base+i) 0) x=true)->(∀ i,k<=i->i < m->c x (l.getD (base+i) 0)=true)->Q (some k) st s') :
  kasC (model prog w) A E (UC left (kas_item it x) (Kl it l) base m hint) Q st s:=by
 have fl:∀ i,i < m->(!(c x (l.getD (base+i) 0)))=c (l.getD (base+i) 0) x:=fun i hi=>by
  have hm:l.getD (base+i) 0∈l:=ZI (by omega)
  cases e:c x (l.getD (base+i) 0) with
  | true=>rw [o.asym hx (hp _ hm) e]; rfl
  | false=>rw [o.flip hx (hp _ hm) (hne _ hm).symm e]; rfl
 have up':∀ i j,i < j->j < l.length->c (l.getD i 0) (l.getD j 0)=true:=fun i j h1 h2=>by
  have:=List.pairwise_iff_getElem.mp up i j (by omega) h2 h1
  simpa [h2,show i < l.length by omega] using this
 refine Zkx hc hx hp hb hh (B:=fun i=>c (l.getD (base+i) 0) x) (fun i hi=>?_) (fun i j h1 h2 h3=>?_) hk hI fun k s' a1 a2 a3 a4=>q k s' a1 a2 a3 fun i h1 h2=>?_
 ·cases left with
  | true=>rw [if_pos rfl]
  | false=>rw [if_neg (by simp),fl i hi]
 ·exact o.tr _ _ _ (hp _ (ZI (by omega))) (hp _ (ZI (by omega))) hx (up' _ _ (by omega) (by omega)) h3
 ·have:=a4 i h1 h2
  have f:=fl i h2
  rw [this] at f
  simpa using f
noncomputable def Res (it:Array Keyed) (c:Nat->Nat->Bool) (la lb:List Nat) (r:Array Keyed):Prop:=∃ R,r=Kl it R/\R.Perm (la++lb)/\Up c R
noncomputable def Al (it:Array Keyed) (c:Nat->Nat->Bool) (la lb:List Nat) (O:Array Keyed) (ia ib lo:Nat):Prop:=∃ o,O=Kl it o/\MI c la lb o ia ib/\ia+1 < la.length/\ib < lb.length/\lo<=ia+ib
noncomputable def Now (κ:SortKind) (it:Array Keyed) (p:Array Nat) (pend:Array (Nat×Nat×Nat)) (I:Shared->Prop) (st:SortSt) (s:Shared):Prop:=(∃ g,st=St κ it p pend g)/\I s
theorem Ud {la lb o:List Nat} {ia ib:Nat} (h:MI c la lb o ia ib) (e:ia=la.length\/ib=lb.length):Res it c la lb (Kl it o++(Kl it la).extract ia (Kl it la).size++(Kl it lb).extract ib (Kl it lb).size):=
 ⟨_,by rw [Wi,Wi,J9,J9],(h.done e).1,(h.done e).2⟩
theorem Uc {la lb o:List Nat} {ia ib:Nat} (h:MI c la lb o ia ib) (e:ia+1=la.length) (hl:∀ y∈lb,c y (la.getD (la.length-1) 0)=true):Res it c la lb (Kl it o++(Kl it lb).extract ib (Kl it lb).size++(Kl it la).extract ia (Kl it la).size):=
 have q:=h.last e (by rw [show ia=la.length-1 by omega]; exact hl)
 ⟨_,by rw [Wi,Wi,J9,J9],q.1,q.2⟩
theorem sz {l:List Nat} {i:Nat} (e:(i==(Kl it l).size)=true):i=l.length:=by simpa [Z4] using e
theorem szn {l:List Nat} {i:Nat} (e:(i==(Kl it l).size)=false):i≠l.length:=by simpa [Z4] using e
noncomputable def Pst (κ:SortKind) (it:Array Keyed) (p:Array Nat) (pend:Array (Nat×Nat×Nat)) (I:Shared->Prop) (c:Nat->Nat->Bool) (la lb:List Nat) (lo:Nat) (r:ForInStep (Option (Array Keyed)×Array Keyed×Nat×Nat×Nat×Nat×Nat)) (st:SortSt) (s:Shared):Prop:=
 match r with
 | .yield x=>Now κ it p pend I st s/\∃ O ia ib mg a b,x=(none,O,ia,ib,mg,a,b)/\Al it c la lb O ia ib lo
 | .done x=>Now κ it p pend I st s/\∃ r O ia ib mg y,x=(r,O,ia,ib,mg,y)/\((∃ r',r=some r'/\Res it c la lb r')\/(r=none/\Al it c la lb O ia ib lo))
theorem mlo (hc:Cmp prog w A κ it n c I) {la lb:List Nat} (T:Two n c la lb) (na:0 < la.length) (nb:0 < lb.length) (lo:∀ x∈la,c (lb.getD 0 0) x=true) (hi:∀ y∈lb,c y (la.getD (la.length-1) 0)=true)
  {p:Array Nat} {pend:Array (Nat×Nat×Nat)} {g:Nat} {s:Shared} (hI:I s) {Q:Array Keyed->SortSt->Shared->Prop} (q:∀ r st s',Now κ it p pend I st s'->Res it c la lb r->Q r st s') :
  kasC (model prog w) A E (Zbo (Kl it la) (Kl it lb)) Q (St κ it p pend g) s:=by
 have m1:MI c la lb [lb.getD 0 0] 0 1:=(MI.one T.symm (MI.first T).symm nb fun h=>lo _ (ZI h)).symm
 unfold Zbo
 refine kasC_bind (kasC_lift (wpAny_rule ?_))
 refine kasC_bind (Wk nb ?_)
 refine Yp (b:=(1==(Kl it lb).size)) (fun e=>?_) fun e1=>?_
 ·exact kasC_pure (q _ _ _ ⟨⟨_,rfl⟩,hI⟩ (Ud m1 (.inr (sz e))))
 refine Yp (b:=(0+1==(Kl it la).size)) (fun e=>?_) fun e2=>?_
 ·exact kasC_pure (q _ _ _ ⟨⟨_,rfl⟩,hI⟩ (Uc m1 (sz e) hi))
 have e1':=szn e1
 have e2':=szn e2
 refine kasC_bind (kasC_get ?_)
 refine kasC_bind (Qd (WM (Q:=fun x st s=>Now κ it p pend I st s/\∃ r y,x=(some r,y)/\Res it c la lb r) (fun k x st s=>Now κ it p pend I st s/\∃ O ia ib mg,x=(none,O,ia,ib,mg)/\Al it c la lb O ia ib (k+1))
  ⟨⟨⟨_,rfl⟩,hI⟩,_,_,_,_,rfl,_,rfl,m1,by omega,by omega,by omega⟩ ?_ ?_) ?_)
 ·rintro k x st s _ hk ⟨hN,O,ia,ib,mg,rfl,hA⟩
  refine kasC_bind (Qd (WM (Q:=fun x st s=>Now κ it p pend I st s/\∃ r O ia ib y,x=(r,O,ia,ib,y)/\((∃ r',r=some r'/\Res it c la lb r')\/(r=none/\Al it c la lb O ia ib (k+1+1)))) (fun k' x st s=>Now κ it p pend I st s/\∃ O ia ib a b,x=(none,O,ia,ib,a,b)/\Al it c la lb O ia ib (k+1+k'))
   ⟨hN,_,_,_,_,_,rfl,hA⟩ ?_ ?_) ?_)
  ·rintro k' x st s _ hk' ⟨⟨⟨g,rfl⟩,hI⟩,O,ia,ib,a,b,rfl,o,rfl,hM,h1,h2,h3⟩
   refine kasC_bind (Wk h2 ?_)
   refine kasC_bind (Wk (show ia < la.length by omega) ?_)
   have xa:=ZI (show ia < la.length by omega)
   have xb:=ZI h2
   refine kasC_bind (Zih hc (T.bb _ xb) (T.ba _ xa) rfl hI fun s hI=>?_)
   cases e:c (lb.getD ib 0) (la.getD ia 0) with
   | true=>
    have hM':=(MI.one T.symm hM.symm h2 fun _=>e).symm
    refine kasC_bind (Wk h2 ?_)
    refine Yp (b:=(ib+1==(Kl it lb).size)) (fun e=>?_) fun e=>?_
    ·refine kasC_pure ⟨⟨⟨_,rfl⟩,hI⟩,_,_,_,_,_,rfl,.inl ⟨_,rfl,?_⟩⟩
     rw [ZC]
     exact Ud hM' (.inr (sz e))
    ·have e':=szn e
     refine Y0 (P:=b+1>=mg) (fun _=>?_) fun _=>?_
     ·exact kasC_pure ⟨⟨⟨_,rfl⟩,hI⟩,_,_,ia,ib+1,_,rfl,.inr ⟨rfl,_,ZC _ _,hM',by omega,by omega,by omega⟩⟩
     ·exact kasC_pure ⟨⟨⟨_,rfl⟩,hI⟩,_,ia,ib+1,_,_,rfl,_,ZC _ _,hM',by omega,by omega,by omega⟩
   | false=>
    have e0:=T.ord.flip (T.bb _ xb) (T.ba _ xa) (fun z=>T.ne _ xa _ xb z.symm) e
    have hM':=MI.one T hM (by omega) fun _=>e0
    refine kasC_bind (Wk (show ia < la.length by omega) ?_)
    refine Yp (b:=(ia+1+1==(Kl it la).size)) (fun e=>?_) fun e=>?_
    ·refine kasC_pure ⟨⟨⟨_,rfl⟩,hI⟩,_,_,_,_,_,rfl,.inl ⟨_,rfl,?_⟩⟩
     rw [ZC]
     exact Uc hM' (sz e) hi
    ·have e':=szn e
     refine Y0 (P:=a+1>=mg) (fun _=>?_) fun _=>?_
     ·exact kasC_pure ⟨⟨⟨_,rfl⟩,hI⟩,_,_,ia+1,ib,_,rfl,.inr ⟨rfl,_,ZC _ _,hM',by omega,by omega,by omega⟩⟩
     ·exact kasC_pure ⟨⟨⟨_,rfl⟩,hI⟩,_,ia+1,ib,_,_,rfl,_,ZC _ _,hM',by omega,by omega,by omega⟩
  ·rintro x st s ⟨hN,O,ia,ib,a,b,rfl,o,rfl,hM,h1,h2,h3⟩
   rw [Z4,Z4] at h3
   exact ⟨hN,_,_,_,_,_,rfl,.inr ⟨rfl,o,rfl,hM,h1,h2,by omega⟩⟩
  ·rintro x st s ⟨hN,r,O,ia,ib,⟨a,b⟩,rfl,z⟩
   rcases z with ⟨r',rfl,z⟩ | ⟨rfl,z⟩
   ·exact kasC_pure ⟨hN,_,_,rfl,z⟩
   refine kasC_bind (kasC_lift (wpAny_rule ?_))
   refine kasC_bind (Qd (WM (Q:=fun x st s=>Now κ it p pend I st s/\∃ r O ia ib mg y,x=(r,O,ia,ib,mg,y)/\((∃ r',r=some r'/\Res it c la lb r')\/(r=none/\Al it c la lb O ia ib (k+1+1)))) (fun k' x st s=>Now κ it p pend I st s/\∃ O ia ib mg a b,x=(none,O,ia,ib,mg,a,b)/\Al it c la lb O ia ib (k+1+1))
    ⟨hN,_,_,_,_,_,_,rfl,z⟩ ?_ ?_) ?_)
   ·rintro k' x st s _ hk' ⟨⟨⟨g,rfl⟩,hI⟩,O,ia,ib,mg,a,b,rfl,o,rfl,hM,h1,h2,h3⟩
    extract_lets s1 o1 s2 ia1 s3 ib1 s4 mg1 s5 ac1 b1 ib2 jp mg2
    have q1:Kl it o=o1:=rfl
    have q2:ia=ia1:=rfl
    have q3:ib=ib1:=rfl
    have q4:ib+1=ib2:=rfl
    have hjp:∀ u mg,kasC (model prog w) A E (jp u mg) (Pst κ it p pend I c la lb (k+1+1)) (St κ it p pend g) s:=by
     clear_value mg2 ib2 b1 ac1 s5 mg1 s4 ib1 s3 ia1 s2 o1 s1
     subst q1 q2 q3 q4
     intro u mg
     refine kasC_bind (kasC_modify ?_)
     refine kasC_bind (Wk h2 ?_)
     have xb:=ZI h2
     refine kasC_bind (ZiU hc T.ord (T.bb _ xb) T.ba T.ua (fun y hy=>T.ne y hy _ xb) (by rw [Z4]; omega) (by rw [Z4]; omega) rfl hI fun k1 s hI a1 a2 a3=>?_)
     rw [Z4] at a1 a3
     have a4:ia+k1 < la.length:=by
      cases Nat.lt_or_ge (ia+k1) la.length with
      | inl z=>exact z
      | inr z=>
       have z1:=a2 (la.length-1-ia) (by omega)
       rw [show ia+(la.length-1-ia)=la.length-1 by omega] at z1
       have z2:=hi _ xb
       have xa:=T.ba _ (ZI (show la.length-1 < la.length by omega))
       rw [T.ord.asym xa (T.bb _ xb) z1] at z2; cases z2
     have hM1:=hM.go (k:=k1) T (by omega) fun i hi _=>a2 i hi
     have hy:=a3 k1 (Nat.le_refl _) (by omega)
     simp -zeta -zetaHave only []
     extract_lets ac jp2 oo ii
     have q1:Kl it o++(Kl it la).extract ia (ia+k1)=oo:=rfl
     have q2:ia+k1=ii:=rfl
     have hjp2:∀ u O o' ia',O=Kl it o'->MI c la lb o' ia' ib->ia'+1 < la.length->c (lb.getD ib 0) (la.getD ia' 0)=true->ia<=ia'->kasC (model prog w) A E (jp2 u O ia') (Pst κ it p pend I c la lb (k+1+1)) (St κ it p pend mg) s:=by
      clear_value ii oo
      rintro u O o' ia' rfl hM2 hl hy2 hle
      have hM3:=(MI.one T.symm hM2.symm h2 fun _=>hy2).symm
      refine kasC_bind (Wk h2 ?_)
      refine Yp (b:=(ib+1==(Kl it lb).size)) (fun e=>?_) fun e=>?_
      ·refine kasC_pure ⟨⟨⟨_,rfl⟩,hI⟩,_,_,_,_,_,_,rfl,.inl ⟨_,rfl,?_⟩⟩
       rw [ZC]
       exact Ud hM3 (.inr (sz e))
      have e':=szn e
      refine kasC_bind (Wk (show ia' < la.length by omega) ?_)
      have xa:=ZI (show ia' < la.length by omega)
      refine kasC_bind (ZiU hc T.ord (T.ba _ xa) T.bb T.ub (fun y hy z=>T.ne _ xa y hy z.symm) (by rw [Z4]; omega) (by rw [Z4]; omega) rfl hI fun k2 s hI a1 a2 a3=>?_)
      rw [Z4] at a1 a3
      have hM4:=(MI.go (k:=k2) T.symm hM3.symm (by omega) fun i hi _=>a2 i hi).symm
      simp -zeta -zetaHave only []
      extract_lets bc i5 jp3 oo ii
      have q1:ia'+1=i5:=rfl
      have q3:ib+1+k2=ii:=rfl
      have q4:oo=Kl it (o'++[lb.getD ib 0]++(lb.drop (ib+1)).take k2):=by
       show (Kl it o').push (kas_item it (lb.getD ib 0))++(Kl it lb).extract (ib+1) (ib+1+k2)=_
       rw [ZC,QN,J9,show ib+1+k2-(ib+1)=k2 by omega]
      have hjp3:∀ u O o'' ib',O=Kl it o''->MI c la lb o'' ia' ib'->ib' < lb.length->c (la.getD ia' 0) (lb.getD ib' 0)=true->ib+1<=ib'->kasC (model prog w) A E (jp3 u O ib') (Pst κ it p pend I c la lb (k+1+1)) (St κ it p pend mg) s:=by
       clear_value ii oo i5
       subst q1
       rintro u O o'' ib' rfl hM5 hl' hy3 hle'
       have hM6:=MI.one T hM5 (by omega) fun _=>hy3
       refine kasC_bind (Wk (show ia' < la.length by omega) ?_)
       refine Yp (b:=(ia'+1+1==(Kl it la).size)) (fun e=>?_) fun e=>?_
       ·refine kasC_pure ⟨⟨⟨_,rfl⟩,hI⟩,_,_,_,_,_,_,rfl,.inl ⟨_,rfl,?_⟩⟩
        rw [ZC]
        exact Uc hM6 (sz e) hi
       have e':=szn e
       refine Yp (b:=(decide (ac < 7)&&decide (bc < 7))) (fun _=>?_) fun _=>?_
       ·exact kasC_pure ⟨⟨⟨_,rfl⟩,hI⟩,_,_,ia'+1,ib',_,_,rfl,.inr ⟨rfl,_,ZC _ _,hM6,by omega,by omega,by omega⟩⟩
       ·exact kasC_pure ⟨⟨⟨_,rfl⟩,hI⟩,_,ia'+1,ib',_,_,_,rfl,_,ZC _ _,hM6,by omega,by omega,by omega⟩
      clear_value jp3 oo ii
      subst q3
      refine Y0 (P:=k2 > 0) (fun hk2=>?_) fun hk2=>?_
      ·refine Yp (b:=(ib+1+k2==(Kl it lb).size)) (fun e=>?_) fun e=>?_
       ·refine kasC_pure ⟨⟨⟨_,rfl⟩,hI⟩,_,_,_,_,_,_,rfl,.inl ⟨_,rfl,?_⟩⟩
        rw [q4]
        exact Ud hM4 (.inr (sz e))
       ·have e':=szn e
        exact hjp3 _ _ _ _ q4 hM4 (by omega) (a3 k2 (Nat.le_refl _) (by omega)) (by omega)
      ·have:k2=0:=by omega
       subst this
       exact hjp3 _ _ _ _ (ZC _ _) hM3 (by omega) (a3 0 (Nat.le_refl _) (by omega)) (by omega)
     clear_value jp2
     have q3:oo=Kl it (o++(la.drop ia).take k1):=by
      rw [<-q1,QN,J9,show ia+k1-ia=k1 by omega]
     clear_value oo ii
     subst q2
     refine Y0 (P:=k1 > 0) (fun hk1=>?_) fun hk1=>?_
     ·refine Yp (b:=(ia+k1+1==(Kl it la).size)) (fun e=>?_) fun e=>?_
      ·refine kasC_pure ⟨⟨⟨_,rfl⟩,hI⟩,_,_,_,_,_,_,rfl,.inl ⟨_,rfl,?_⟩⟩
       rw [q3]
       exact Uc hM1 (sz e) hi
      have e':=szn e
      refine Yp (b:=(ia+k1==(Kl it la).size)) (fun e=>?_) fun e=>?_
      ·have:=sz e; omega
      ·exact hjp2 _ _ _ _ q3 hM1 (by omega) hy (by omega)
     ·have:k1=0:=by omega
      subst this
      exact hjp2 _ _ _ _ rfl hM h1 hy (by omega)
    clear_value jp
    refine Qd (Y0 (P:=mg1 > 1) (fun _=>hjp _ _) fun _=>hjp _ _) fun r st s h=>?_
    cases r <;> exact h
   ·rintro x st s ⟨hN,O,ia,ib,mg,a,b,rfl,z⟩
    exact ⟨hN,_,_,_,_,_,_,rfl,.inr ⟨rfl,z⟩⟩
   ·rintro x st s ⟨hN,r,O,ia,ib,mg,⟨a,b⟩,rfl,z⟩
    rcases z with ⟨r',rfl,z⟩ | ⟨rfl,z⟩
    ·exact kasC_pure ⟨hN,_,_,rfl,z⟩
    obtain ⟨⟨g,rfl⟩,hI⟩:=hN
    refine kasC_bind (kasC_modify (kasC_pure ⟨⟨⟨_,rfl⟩,hI⟩,_,_,_,_,rfl,z⟩))
 ·rintro x st s ⟨hN,O,ia,ib,mg,rfl,o,rfl,hM,h1,h2,h3⟩
  rw [Z4,Z4] at h3
  omega
 ·rintro x st s ⟨hN,r,y,rfl,hr⟩
  exact kasC_pure (q _ _ _ hN hr)
end
section
variable {n:Nat} {c:Nat->Nat->Bool} {it:Array Keyed}
noncomputable def bk (c:Nat->Nat->Bool):Nat->Nat->Bool:=fun x y=>c y x
theorem Ord.bk (o:Ord n c):Ord n (bk c):=⟨o.irr,fun i j k hi hj hk h1 h2=>o.tr k j i hk hj hi h2 h1,fun i j hi hj hne=>(o.tri i j hi hj hne).symm⟩
theorem up_rev {l:List Nat}:Up (bk c) l.reverse ↔ Up c l:=List.pairwise_reverse
theorem Zcw {l:List Nat} (h:Up (bk c) l):Up c l.reverse:=List.pairwise_reverse.mpr h
theorem Two.rev {la lb:List Nat} (T:Two n c la lb):Two n (bk c) la.reverse lb.reverse:=
 ⟨T.ord.bk,fun x hx=>T.ba x (List.mem_reverse.mp hx),fun x hx=>T.bb x (List.mem_reverse.mp hx),up_rev.mpr T.ua,up_rev.mpr T.ub,fun x hx y hy=>T.ne x (List.mem_reverse.mp hx) y (List.mem_reverse.mp hy)⟩
theorem Zja {l:List Nat} {k:Nat} (h:0 < k) (hk:k<=l.length):l.reverse.getD (l.length-k) 0=l.getD (k-1) 0:=by
 have e:l.reverse[l.length-k]?=l[k-1]?:=by
  rw [List.getElem?_reverse (by omega)]
  congr 1; omega
 simp only [List.getD_eq_getElem?_getD,e]
theorem ZcS {l:List Nat} {k:Nat}:l.reverse.drop (l.length-k)=(l.take k).reverse:=by rw [List.reverse_take]
noncomputable def MH (c:Nat->Nat->Bool) (la lb o:List Nat) (na nb:Nat):Prop:=MI (bk c) la.reverse lb.reverse o (la.length-na) (lb.length-nb)
theorem MH.symm {la lb o:List Nat} {na nb:Nat} (h:MH c la lb o na nb):MH c lb la o nb na:=MI.symm h
theorem MH.first {la lb:List Nat} (T:Two n c la lb):MH c la lb [] la.length lb.length:=by
 unfold MH
 rw [Nat.sub_self,Nat.sub_self]
 exact MI.first T.rev
theorem MH.go {la lb o:List Nat} {na nb i:Nat} (T:Two n c la lb) (h:MH c la lb o na nb) (hi:i<=na) (hna:na<=la.length) (hnb:nb<=lb.length) (hc:∀ j,i<=j->j < na->0 < nb->c (lb.getD (nb-1) 0) (la.getD j 0)=true) :
  MH c la lb (o++((la.drop i).take (na-i)).reverse) i nb:=by
 have q:=MI.go (k:=na-i) T.rev h (by rw [List.length_reverse]; omega) fun j hj hl=>by
  rw [List.length_reverse] at hl
  have e:la.length-na+j=la.length-(na-j):=by omega
  rw [e,Zja (by omega) (by omega),Zja (by omega) hnb]
  exact hc (na-j-1) (by omega) (by omega) (by omega)
 unfold MH
 have e1:la.length-i=la.length-na+(na-i):=by omega
 have e2:((la.drop i).take (na-i)).reverse=(la.reverse.drop (la.length-na)).take (na-i):=by
  rw [ZcS,<-List.drop_take,List.reverse_drop,List.length_take]
  congr 1; omega
 rw [e1,e2]
 exact q
theorem MH.one {la lb o:List Nat} {na nb:Nat} (T:Two n c la lb) (h:MH c la lb o na nb) (h0:0 < na) (hna:na<=la.length) (hnb:nb<=lb.length) (hc:0 < nb->c (lb.getD (nb-1) 0) (la.getD (na-1) 0)=true) :
  MH c la lb (o++[la.getD (na-1) 0]) (na-1) nb:=by
 have q:=h.go (i:=na-1) T (by omega) hna hnb fun j h1 h2 h3=>by
  have:j=na-1:=by omega
  rw [this]; exact hc h3
 rw [Jc (show na-1 < la.length by omega),show na-(na-1)=1 by omega] at q
 exact q
theorem Jb {la lb o:List Nat} {na nb:Nat} (h:MH c la lb o na nb) (hna:na<=la.length) (hnb:nb<=lb.length) (e:na=0\/nb=0):Res it c la lb ((Kl it la).extract 0 na++(Kl it lb).extract 0 nb++(Kl it o).reverse):=by
 have q:=MI.done (MI.symm h) (by rw [List.length_reverse,List.length_reverse]; omega)
 refine ⟨(o++lb.reverse.drop (lb.length-nb)++la.reverse.drop (la.length-na)).reverse,?_,?_,Zcw q.2⟩
 ·rw [QN,QN,ZbJ,J9,J9,ZcS,ZcS]
  simp
 ·refine (List.reverse_perm _).trans (q.1.trans ?_)
  refine List.perm_append_comm.trans ?_
  exact (List.reverse_perm _).append (List.reverse_perm _)
theorem QD {la lb o:List Nat} {na nb:Nat} (h:MH c la lb o na nb) (hna:na<=la.length) (hnb:nb=1) (hb:0 < lb.length) (lo:∀ x∈la,c (lb.getD 0 0) x=true):Res it c la lb ((Kl it lb).extract 0 nb++(Kl it la).extract 0 na++(Kl it o).reverse):=by
 subst hnb
 have q:=MI.last (MI.symm h) (by rw [List.length_reverse]; omega) (by
  intro y hy
  rw [Zja (by omega) (by omega)]
  exact lo y (List.mem_reverse.mp hy))
 refine ⟨(o++la.reverse.drop (la.length-na)++lb.reverse.drop (lb.length-1)).reverse,?_,?_,Zcw q.2⟩
 ·rw [QN,QN,ZbJ,J9,J9,ZcS,ZcS]
  simp
 ·refine (List.reverse_perm _).trans (q.1.trans ?_)
  refine List.perm_append_comm.trans ?_
  exact (List.reverse_perm _).append (List.reverse_perm _)
end
section
variable {prog:Program} {w:World} {A:Around} {E:Value->Shared->Prop} {κ:SortKind} {it:Array Keyed} {n:Nat} {c:Nat->Nat->Bool} {I:Shared->Prop}
noncomputable def Ah (it:Array Keyed) (c:Nat->Nat->Bool) (la lb:List Nat) (O:Array Keyed) (na nb lo:Nat):Prop:=∃ o,O=Kl it o/\MH c la lb o na nb/\0 < na/\1 < nb/\na<=la.length/\nb<=lb.length/\lo+na+nb<=la.length+lb.length
noncomputable def Psh (κ:SortKind) (it:Array Keyed) (p:Array Nat) (pend:Array (Nat×Nat×Nat)) (I:Shared->Prop) (c:Nat->Nat->Bool) (la lb:List Nat) (lo:Nat) (r:ForInStep (Option (Array Keyed)×Nat×Nat×Array Keyed×Nat×Nat×Nat)) (st:SortSt) (s:Shared):Prop:=
 match r with
 | .yield x=>Now κ it p pend I st s/\∃ O na nb mg a b,x=(none,na,nb,O,mg,a,b)/\Ah it c la lb O na nb lo
 | .done x=>Now κ it p pend I st s/\∃ r O na nb mg y,x=(r,na,nb,O,mg,y)/\((∃ r',r=some r'/\Res it c la lb r')\/(r=none/\Ah it c la lb O na nb lo))
theorem ZdZ {i j:Nat} (e:(i==j)=true):i=j:=by simpa using e
theorem Zeg {i j:Nat} (e:(i==j)=false):i≠j:=by simpa using e
theorem mhi (hc:Cmp prog w A κ it n c I) {la lb:List Nat} (T:Two n c la lb) (na0:0 < la.length) (nb0:0 < lb.length) (lo:∀ x∈la,c (lb.getD 0 0) x=true) (hi:∀ y∈lb,c y (la.getD (la.length-1) 0)=true)
  {p:Array Nat} {pend:Array (Nat×Nat×Nat)} {g:Nat} {s:Shared} (hI:I s) {Q:Array Keyed->SortSt->Shared->Prop} (q:∀ r st s',Now κ it p pend I st s'->Res it c la lb r->Q r st s') :
  kasC (model prog w) A E (Zbp (Kl it la) (Kl it lb)) Q (St κ it p pend g) s:=by
 have m1:MH c la lb [la.getD (la.length-1) 0] (la.length-1) lb.length:=MH.one T (MH.first T) na0 (Nat.le_refl _) (Nat.le_refl _) fun _=>hi _ (ZI (by omega))
 unfold Zbp
 refine kasC_bind (kasC_lift (wpAny_rule ?_))
 refine kasC_bind (Wk (show (Kl it la).size-1 < la.length by rw [Z4]; omega) ?_)
 rw [Z4 la,Z4 lb]
 refine Yp (b:=(la.length-1==0)) (fun e=>?_) fun e1=>?_
 ·exact kasC_pure (q _ _ _ ⟨⟨_,rfl⟩,hI⟩ (Jb m1 (by omega) (by omega) (.inl (ZdZ e))))
 refine Yp (b:=(lb.length==1)) (fun e=>?_) fun e2=>?_
 ·exact kasC_pure (q _ _ _ ⟨⟨_,rfl⟩,hI⟩ (QD m1 (by omega) (ZdZ e) nb0 lo))
 have e1':=Zeg e1
 have e2':=Zeg e2
 refine kasC_bind (kasC_get ?_)
 refine kasC_bind (Qd (WM (Q:=fun x st s=>Now κ it p pend I st s/\∃ r y,x=(some r,y)/\Res it c la lb r) (fun k x st s=>Now κ it p pend I st s/\∃ O na nb mg,x=(none,na,nb,O,mg)/\Ah it c la lb O na nb (k+1))
  ⟨⟨⟨_,rfl⟩,hI⟩,_,_,_,_,rfl,_,rfl,m1,by omega,by omega,by omega,by omega,by omega⟩ ?_ ?_) ?_)
 ·rintro k x st s _ hk ⟨hN,O,na,nb,mg,rfl,hA⟩
  refine kasC_bind (Qd (WM (Q:=fun x st s=>Now κ it p pend I st s/\∃ r O na nb y,x=(r,na,nb,O,y)/\((∃ r',r=some r'/\Res it c la lb r')\/(r=none/\Ah it c la lb O na nb (k+1+1)))) (fun k' x st s=>Now κ it p pend I st s/\∃ O na nb a b,x=(none,na,nb,O,a,b)/\Ah it c la lb O na nb (k+1+k'))
   ⟨hN,_,_,_,_,_,rfl,hA⟩ ?_ ?_) ?_)
  ·rintro k' x st s _ hk' ⟨⟨⟨g,rfl⟩,hI⟩,O,na,nb,a,b,rfl,o,rfl,hM,h1,h2,l1,l2,h3⟩
   have xa:=ZI (show na-1 < la.length by omega)
   have xb:=ZI (show nb-1 < lb.length by omega)
   refine kasC_bind (Wk (show nb-1 < lb.length by omega) ?_)
   refine kasC_bind (Wk (show na-1 < la.length by omega) ?_)
   refine kasC_bind (Zih hc (T.bb _ xb) (T.ba _ xa) rfl hI fun s hI=>?_)
   cases e:c (lb.getD (nb-1) 0) (la.getD (na-1) 0) with
   | true=>
    have hM':=MH.one T hM h1 l1 l2 fun _=>e
    refine kasC_bind (Wk (show na-1 < la.length by omega) ?_)
    refine Yp (b:=(na-1==0)) (fun e=>?_) fun e=>?_
    ·refine kasC_pure ⟨⟨⟨_,rfl⟩,hI⟩,_,_,_,_,_,rfl,.inl ⟨_,rfl,?_⟩⟩
     rw [ZC]
     exact Jb (na:=na-1) (nb:=nb) hM' (by omega) l2 (.inl (ZdZ e))
    ·have e':=Zeg e
     refine Y0 (P:=a+1>=mg) (fun _=>?_) fun _=>?_
     ·exact kasC_pure ⟨⟨⟨_,rfl⟩,hI⟩,_,_,na-1,nb,_,rfl,.inr ⟨rfl,_,ZC _ _,hM',by omega,by omega,by omega,by omega,by omega⟩⟩
     ·exact kasC_pure ⟨⟨⟨_,rfl⟩,hI⟩,_,na-1,nb,_,_,rfl,_,ZC _ _,hM',by omega,by omega,by omega,by omega,by omega⟩
   | false=>
    have e0:=T.ord.flip (T.bb _ xb) (T.ba _ xa) (fun z=>T.ne _ xa _ xb z.symm) e
    have hM':=(MH.one T.symm hM.symm (by omega) l2 l1 fun _=>e0).symm
    refine kasC_bind (Wk (show nb-1 < lb.length by omega) ?_)
    refine Yp (b:=(nb-1==1)) (fun e=>?_) fun e=>?_
    ·refine kasC_pure ⟨⟨⟨_,rfl⟩,hI⟩,_,_,_,_,_,rfl,.inl ⟨_,rfl,?_⟩⟩
     rw [ZC]
     exact QD (na:=na) (nb:=nb-1) hM' l1 (ZdZ e) nb0 lo
    ·have e':=Zeg e
     refine Y0 (P:=b+1>=mg) (fun _=>?_) fun _=>?_
     ·exact kasC_pure ⟨⟨⟨_,rfl⟩,hI⟩,_,_,na,nb-1,_,rfl,.inr ⟨rfl,_,ZC _ _,hM',by omega,by omega,by omega,by omega,by omega⟩⟩
     ·exact kasC_pure ⟨⟨⟨_,rfl⟩,hI⟩,_,na,nb-1,_,_,rfl,_,ZC _ _,hM',by omega,by omega,by omega,by omega,by omega⟩
  ·rintro x st s ⟨hN,O,na,nb,a,b,rfl,o,rfl,hM,h1,h2,l1,l2,h3⟩
   exact ⟨hN,_,_,_,_,_,rfl,.inr ⟨rfl,o,rfl,hM,h1,h2,l1,l2,by omega⟩⟩
  ·rintro x st s ⟨hN,r,O,na,nb,⟨a,b⟩,rfl,z⟩
   rcases z with ⟨r',rfl,z⟩ | ⟨rfl,z⟩
   ·exact kasC_pure ⟨hN,_,_,rfl,z⟩
   refine kasC_bind (kasC_lift (wpAny_rule ?_))
   refine kasC_bind (Qd (WM (Q:=fun x st s=>Now κ it p pend I st s/\∃ r O na nb mg y,x=(r,na,nb,O,mg,y)/\((∃ r',r=some r'/\Res it c la lb r')\/(r=none/\Ah it c la lb O na nb (k+1+1)))) (fun k' x st s=>Now κ it p pend I st s/\∃ O na nb mg a b,x=(none,na,nb,O,mg,a,b)/\Ah it c la lb O na nb (k+1+1))
    ⟨hN,_,_,_,_,_,_,rfl,z⟩ ?_ ?_) ?_)
   ·rintro k' x st s _ hk' ⟨⟨⟨g,rfl⟩,hI⟩,O,na,nb,mg,a,b,rfl,o,rfl,hM,h1,h2,l1,l2,h3⟩
    extract_lets s1 na1 s2 nb1 s3 o1 s4 mg1 s5 ac1 b1 nb2 jp mg2
    have q1:na=na1:=rfl
    have q2:nb=nb1:=rfl
    have q3:Kl it o=o1:=rfl
    have q4:nb-1=nb2:=rfl
    have hjp:∀ u mg,kasC (model prog w) A E (jp u mg) (Psh κ it p pend I c la lb (k+1+1)) (St κ it p pend g) s:=by
     clear_value mg2 nb2 b1 ac1 s5 mg1 s4 o1 s3 nb1 s2 na1 s1
     subst q1 q2 q3 q4
     intro u mg
     refine kasC_bind (kasC_modify ?_)
     refine kasC_bind (Wk (show nb-1 < lb.length by omega) ?_)
     have xb:=ZI (show nb-1 < lb.length by omega)
     refine kasC_bind (ZiU hc T.ord (T.bb _ xb) T.ba T.ua (fun y hy=>T.ne y hy _ xb) (base:=0) (m:=na) (by omega) (by omega) rfl hI fun k1 s hI a1 a2 a3=>?_)
     simp only [Nat.zero_add] at a2 a3
     have hM1:=hM.go (i:=k1) T a1 l1 l2 fun j h1 h2 _=>a3 j h1 h2
     simp -zeta -zetaHave only []
     extract_lets kk ac jp2 oo ii
     have q1:na-k1=kk:=rfl
     have q3:oo=Kl it (o++((la.drop k1).take (na-k1)).reverse):=by
      show Kl it o++((Kl it la).extract k1 na).reverse=_
      rw [QN,ZbJ,J9]
     have q2:k1=ii:=rfl
     have hjp2:∀ u O o' na',O=Kl it o'->MH c la lb o' na' nb->0 < na'->na'<=na->c (la.getD (na'-1) 0) (lb.getD (nb-1) 0)=true->kasC (model prog w) A E (jp2 u na' O) (Psh κ it p pend I c la lb (k+1+1)) (St κ it p pend mg) s:=by
      clear_value ii oo ac kk
      rintro u O o' na' rfl hM2 p0 hle hy2
      have hM3:=(MH.one T.symm hM2.symm (by omega) l2 (by omega) fun _=>hy2).symm
      refine kasC_bind (Wk (show nb-1 < lb.length by omega) ?_)
      refine Yp (b:=(nb-1==1)) (fun e=>?_) fun e=>?_
      ·refine kasC_pure ⟨⟨⟨_,rfl⟩,hI⟩,_,_,_,_,_,_,rfl,.inl ⟨_,rfl,?_⟩⟩
       rw [ZC]
       exact QD (na:=na') (nb:=nb-1) hM3 (by omega) (ZdZ e) nb0 lo
      have e':=Zeg e
      refine kasC_bind (Wk (show na'-1 < la.length by omega) ?_)
      have xa:=ZI (show na'-1 < la.length by omega)
      refine kasC_bind (ZiU hc T.ord (T.ba _ xa) T.bb T.ub (fun y hy z=>T.ne _ xa y hy z.symm) (base:=0) (m:=nb-1) (by omega) (by omega) rfl hI fun k2 s hI a1 a2 a3=>?_)
      simp only [Nat.zero_add] at a2 a3
      have k20:0 < k2:=by
       rcases Nat.eq_zero_or_pos k2 with z | z
       ·have z1:=a3 0 (by omega) (by omega)
        have z2:=lo _ xa
        rw [T.ord.asym (T.ba _ xa) (T.bb _ (ZI nb0)) z1] at z2; cases z2
       ·exact z
      have hM4:=(MH.go (i:=k2) T.symm hM3.symm (by omega) (by omega) (by omega) fun j h1 h2 _=>a3 j h1 h2).symm
      simp -zeta -zetaHave only []
      extract_lets kk bc na5 jp3 oo ii
      have q1:na'-1=na5:=rfl
      have q2:nb-1-k2=kk:=rfl
      have q3:k2=ii:=rfl
      have q4:oo=Kl it (o'++[lb.getD (nb-1) 0]++((lb.drop k2).take (nb-1-k2)).reverse):=by
       show (Kl it o').push (kas_item it (lb.getD (nb-1) 0))++((Kl it lb).extract k2 (nb-1)).reverse=_
       rw [ZC,QN,ZbJ,J9]
      have hjp3:∀ u O o'' nb',O=Kl it o''->MH c la lb o'' na' nb'->1 < nb'->nb'<=nb-1->c (lb.getD (nb'-1) 0) (la.getD (na'-1) 0)=true->kasC (model prog w) A E (jp3 u nb' O) (Psh κ it p pend I c la lb (k+1+1)) (St κ it p pend mg) s:=by
       clear_value ii oo na5 bc kk
       subst q1
       rintro u O o'' nb' rfl hM5 p1 hle' hy3
       have hM6:=MH.one T hM5 p0 (by omega) (by omega) fun _=>hy3
       refine kasC_bind (Wk (show na'-1 < la.length by omega) ?_)
       refine Yp (b:=(na'-1==0)) (fun e=>?_) fun e=>?_
       ·refine kasC_pure ⟨⟨⟨_,rfl⟩,hI⟩,_,_,_,_,_,_,rfl,.inl ⟨_,rfl,?_⟩⟩
        rw [ZC]
        exact Jb (na:=na'-1) (nb:=nb') hM6 (by omega) (by omega) (.inl (ZdZ e))
       have e':=Zeg e
       refine Yp (b:=(decide (ac < 7)&&decide (bc < 7))) (fun _=>?_) fun _=>?_
       ·exact kasC_pure ⟨⟨⟨_,rfl⟩,hI⟩,_,_,na'-1,nb',_,_,rfl,.inr ⟨rfl,_,ZC _ _,hM6,by omega,by omega,by omega,by omega,by omega⟩⟩
       ·exact kasC_pure ⟨⟨⟨_,rfl⟩,hI⟩,_,na'-1,nb',_,_,_,rfl,_,ZC _ _,hM6,by omega,by omega,by omega,by omega,by omega⟩
      clear_value jp3 oo ii kk
      subst q2 q3
      refine Y0 (P:=nb-1-k2 > 0) (fun hk2=>?_) fun hk2=>?_
      ·refine Yp (b:=(k2==1)) (fun e=>?_) fun e=>?_
       ·refine kasC_pure ⟨⟨⟨_,rfl⟩,hI⟩,_,_,_,_,_,_,rfl,.inl ⟨_,rfl,?_⟩⟩
        rw [q4]
        exact QD (na:=na') (nb:=k2) hM4 (by omega) (ZdZ e) nb0 lo
       have e':=Zeg e
       refine Yp (b:=(k2==0)) (fun e=>?_) fun e=>?_
       ·have:=ZdZ e; omega
       ·exact hjp3 _ _ _ _ q4 hM4 (by omega) (by omega) (a2 (k2-1) (by omega))
      ·have:k2=nb-1:=by omega
       subst this
       exact hjp3 _ _ _ _ (ZC _ _) hM3 (by omega) (by omega) (a2 (nb-1-1) (by omega))
     clear_value jp2 oo ii kk
     subst q1 q2
     refine Y0 (P:=na-k1 > 0) (fun hk1=>?_) fun hk1=>?_
     ·refine Yp (b:=(k1==0)) (fun e=>?_) fun e=>?_
      ·refine kasC_pure ⟨⟨⟨_,rfl⟩,hI⟩,_,_,_,_,_,_,rfl,.inl ⟨_,rfl,?_⟩⟩
       rw [q3]
       exact Jb (na:=k1) (nb:=nb) hM1 (by omega) l2 (.inl (ZdZ e))
      ·have e':=Zeg e
       exact hjp2 _ _ _ _ q3 hM1 (by omega) (by omega) (a2 (k1-1) (by omega))
     ·have:k1=na:=by omega
      subst this
      exact hjp2 _ _ _ _ rfl hM h1 (by omega) (a2 (k1-1) (by omega))
    clear_value jp
    refine Qd (Y0 (P:=mg1 > 1) (fun _=>hjp _ _) fun _=>hjp _ _) fun r st s h=>?_
    cases r <;> exact h
   ·rintro x st s ⟨hN,O,na,nb,mg,a,b,rfl,z⟩
    exact ⟨hN,_,_,_,_,_,_,rfl,.inr ⟨rfl,z⟩⟩
   ·rintro x st s ⟨hN,r,O,na,nb,mg,⟨a,b⟩,rfl,z⟩
    rcases z with ⟨r',rfl,z⟩ | ⟨rfl,z⟩
    ·exact kasC_pure ⟨hN,_,_,rfl,z⟩
    obtain ⟨⟨g,rfl⟩,hI⟩:=hN
    refine kasC_bind (kasC_modify (kasC_pure ⟨⟨⟨_,rfl⟩,hI⟩,_,_,_,_,rfl,z⟩))
 ·rintro x st s ⟨hN,O,na,nb,mg,rfl,o,rfl,hM,h1,h2,l1,l2,h3⟩
  omega
 ·rintro x st s ⟨hN,r,y,rfl,hr⟩
  exact kasC_pure (q _ _ _ hN hr)
end
section
variable {n:Nat} {c:Nat->Nat->Bool}
noncomputable def Seg (c:Nat->Nat->Bool) (p:Array Nat) (a b:Nat):Prop:=∀ i j,a<=i->i < j->j < b->c (p.getD i 0) (p.getD j 0)=true
noncomputable def Low (p q:Array Nat) (lo:Nat):Prop:=∀ i,i < lo->q.getD i 0=p.getD i 0
theorem ZaY (o:Ord n c) {p:Array Nat} (h:Pm n p) {a b:Nat} (hb:b<=n) (ha:∀ i,a < i->i < b->c (p.getD (i-1) 0) (p.getD i 0)=true):Seg c p a b:=by
 intro i j hi hij hj
 induction j with
 | zero=>omega
 | succ j ih=>
  have s:=ha (j+1) (by omega) hj
  rw [Nat.add_sub_cancel] at s
  by_cases e:i=j
  ·rw [e]; exact s
  ·exact o.tr _ _ _ (h.get (by omega)).2 (h.get (by omega)).2 (h.get (by omega)).2 (ih (by omega) (by omega)) s
theorem Zke {p:Array Nat} {i j k:Nat} (hj:j<=p.size):(kas_rev p i j).getD k 0=if i<=k/\k < j then p.getD (i+j-1-k) 0 else p.getD k 0:=by
 have e:=getElem?_mirror_all (xs:=p) (i:=i) hj k
 have a:(kas_rev p i j).getD k 0=((kas_rev p i j)[k]?).getD 0:=by simp
 rw [a]
 unfold kas_rev
 rw [e]
 by_cases z:i<=k/\k < j
 ·rw [if_pos z,if_pos z]; simp
 ·rw [if_neg z,if_neg z]; simp
end
section
variable {prog:Program} {w:World} {A:Around} {E:Value->Shared->Prop} {κ:SortKind} {it:Array Keyed} {n:Nat} {c:Nat->Nat->Bool} {I:Shared->Prop} {p:Array Nat} {pend:Array (Nat×Nat×Nat)} {g:Nat} {s:Shared}
theorem Vi (hc:Cmp prog w A κ it n c I) (h:Pm n p) {i j:Nat} (hi:i < n) (hj:j < n) (hI:I s) {Q:Option Bool->SortSt->Shared->Prop} (q:∀ s',I s'->Q (some (c (p.getD i 0) (p.getD j 0))) (St κ it p pend g) s') :
  kasC (model prog w) A E (ltAt' i j) Q (St κ it p pend g) s:=by
 rw [ltAt'_eq]
 refine kasC_bind (kasC_get ?_)
 refine kasC_bind (Vj (p:=p) (by rw [h.size]; exact hi) ?_)
 refine kasC_bind (Vj (p:=p) (by rw [h.size]; exact hj) ?_)
 exact Zih hc (h.get hi).2 (h.get hj).2 rfl hI q
theorem swp (u v:Nat->Nat) (l:List Nat):l.foldl (fun a k=>a.swapIfInBounds (u k) (v k)) (Ki it p)=Ki it (l.foldl (fun a k=>a.swapIfInBounds (u k) (v k)) p):=kas_swaps_map _ u v l p
theorem Zjs {i j:Nat} {Q:Unit->SortSt->Shared->Prop} (h:Q () (St κ it (kas_rev p i j) pend g) s):kasC (model prog w) A E (reverseSlice' i j) Q (St κ it p pend g) s:=by
 rw [reverseSlice'_eq]
 unfold St kas_rev mirror at h
 rw [<-swp] at h
 exact kasC_modify h
theorem Zig {k l:Nat} {Q:Unit->SortSt->Shared->Prop} (h:Q () (St κ it (bubble p k (k-l)) pend g) s):kasC (model prog w) A E (moveDown' k l) Q (St κ it p pend g) s:=by
 rw [moveDown'_eq]
 unfold St bubble at h
 rw [<-swp] at h
 exact kasC_modify h
noncomputable def Adj (c:Nat->Nat->Bool) (p:Array Nat) (a b:Nat):Prop:=∀ i,a < i->i < b->c (p.getD (i-1) 0) (p.getD i 0)=true
theorem Ze0 (o:Ord n c) (h:Pm n p) {i j:Nat} (hi:i < n) (hj:j < n) (hne:i≠j) (e:c (p.getD i 0) (p.getD j 0)=false):c (p.getD j 0) (p.getD i 0)=true:=
 o.flip (h.get hi).2 (h.get hj).2 (fun q=>hne (h.inj hi hj q)) e
theorem cnt (hc:Cmp prog w A κ it n c I) (o:Ord n c) (h:Pm n p) {lo nrem:Nat} (h1:1<=nrem) (hz:lo+nrem<=n) (hI:I s) {Q:Option Nat->SortSt->Shared->Prop}
  (q:∀ m p' s',I s'->Pm n p'->Low p p' lo->1<=m->m<=nrem->Seg c p' lo (lo+m)->Q (some m) (St κ it p' pend g) s') :
  kasC (model prog w) A E (countRun' lo nrem) Q (St κ it p pend g) s:=by
 rw [countRun'_eq]
 refine kasC_bind (Qd (WM (Q:=fun x st s=>st=St κ it p pend g/\I s/\∃ m,x=(none,m)/\1<=m/\m<=nrem/\Adj c p lo (lo+m)/\(m < nrem->c (p.getD (lo+m) 0) (p.getD (lo+m-1) 0)=true))
  (fun k x st s=>st=St κ it p pend g/\I s/\x=(none,k)/\Adj c p lo (lo+k)) ⟨rfl,hI,rfl,fun i a b=>by omega⟩ ?_ ?_) ?_)
 ·rintro k x st s a1 a2 ⟨rfl,hI,rfl,ha⟩
  refine kasC_bind (Vi hc h (by omega) (by omega) hI fun s hI=>?_)
  cases e:c (p.getD (lo+k) 0) (p.getD (lo+k-1) 0) with
  | true=>exact kasC_pure ⟨rfl,hI,k,rfl,a1,by omega,ha,fun _=>e⟩
  | false=>
   refine kasC_pure ⟨rfl,hI,rfl,fun i b1 b2=>?_⟩
   by_cases z:i=lo+k
   ·subst z
    exact Ze0 o h (by omega) (by omega) (by omega) e
   ·exact ha i b1 (by omega)
 ·rintro x st s ⟨rfl,hI,rfl,ha⟩
  exact ⟨rfl,hI,_,rfl,by omega,by omega,by rw [show max 1 nrem=nrem by omega] at ha ⊢; exact ha,fun z=>by omega⟩
 rintro x st s ⟨rfl,hI,m,rfl,m1,m2,ha,hd⟩
 refine Yp (b:=(m==nrem)) (fun e=>?_) fun e=>?_
 ·exact kasC_pure (q _ _ _ hI h (fun _ _=>rfl) m1 m2 (ZaY o h (by omega) ha))
 have e':=Zeg e
 extract_lets nn qq jp
 have hjp:m=1->kasC (model prog w) A E (jp ()) Q (St κ it p pend g) s:=by
  intro em
  subst em
  have hn:=h.size
  refine kasC_bind (kasC_lift (wpAny_rule ?_))
  refine kasC_bind (Qd (WM (Q:=fun x st s=>st=St κ it p pend g/\I s/\∃ m,x=(none,m,0)/\2<=m/\m<=nrem/\∀ i,lo < i->i < lo+m->c (p.getD i 0) (p.getD (i-1) 0)=true)
   (fun k x st s=>st=St κ it p pend g/\I s/\x=(none,k,0)/\∀ i,lo < i->i < lo+k->c (p.getD i 0) (p.getD (i-1) 0)=true) ⟨rfl,hI,rfl,fun i a b=>?_⟩ ?_ ?_) ?_)
  ·have b':i < lo+2:=b
   have:i=lo+1:=by omega
   subst this
   exact hd (by omega)
  ·rintro k x st s a1 a2 ⟨rfl,hI,rfl,hf⟩
   have a1':2<=k:=a1
   refine kasC_bind (Vi hc h (i:=lo+k) (j:=lo+k-1) (by omega) (by omega) hI fun s hI=>?_)
   cases e:c (p.getD (lo+k) 0) (p.getD (lo+k-1) 0) with
   | true=>
    refine kasC_pure ⟨rfl,hI,rfl,fun i b1 b2=>?_⟩
    by_cases z:i=lo+k
    ·subst z; exact e
    ·exact hf i b1 (by omega)
   | false=>
    refine kasC_bind (Vi hc h (i:=lo+k-1) (j:=lo+k) (by omega) (by omega) hI fun s hI=>?_)
    rw [Ze0 o h (by omega) (by omega) (by omega) e]
    exact kasC_pure ⟨rfl,hI,k,rfl,a1',by omega,hf⟩
  ·rintro x st s ⟨rfl,hI,rfl,hf⟩
   refine ⟨rfl,hI,max 2 nrem,rfl,by omega,by omega,hf⟩
  ·rintro x st s ⟨rfl,hI,m,rfl,m1,m2,hf⟩
   refine kasC_bind (Zjs ?_)
   have hp:=ZfA h lo (lo+m)
   have rg:∀ k,(kas_rev p lo (lo+m)).getD k 0=if lo<=k/\k < lo+m then p.getD (lo+(lo+m)-1-k) 0 else p.getD k 0:=fun k=>Zke (by omega)
   have hlo:Low p (kas_rev p lo (lo+m)) lo:=fun i hi=>by rw [rg,if_neg (by omega)]
   have ha0:Adj c (kas_rev p lo (lo+m)) lo (lo+m):=fun i b1 b2=>by
    rw [rg,rg,if_pos (by omega),if_pos (by omega)]
    have:=hf (lo+(lo+m)-1-(i-1)) (by omega) (by omega)
    rw [show lo+(lo+m)-1-(i-1)-1=lo+(lo+m)-1-i by omega] at this
    exact this
   generalize kas_rev p lo (lo+m)=p' at hp hlo ha0
   refine kasC_bind (Qd (WM (Q:=fun x st s=>st=St κ it p' pend g/\I s/\∃ m,x=(none,m)/\1<=m/\m<=nrem/\Adj c p' lo (lo+m))
    (fun k x st s=>st=St κ it p' pend g/\I s/\x=(none,k)/\Adj c p' lo (lo+k)) ⟨rfl,hI,rfl,ha0⟩ ?_ ?_) ?_)
   ·rintro k x st s a1 a2 ⟨rfl,hI,rfl,ha⟩
    have a1':m<=k:=a1
    refine kasC_bind (Vi hc hp (i:=lo+k) (j:=lo+k-1) (by omega) (by omega) hI fun s hI=>?_)
    cases e:c (p'.getD (lo+k) 0) (p'.getD (lo+k-1) 0) with
    | true=>exact kasC_pure ⟨rfl,hI,k,rfl,by omega,by omega,ha⟩
    | false=>
     refine kasC_pure ⟨rfl,hI,rfl,fun i b1 b2=>?_⟩
     by_cases z:i=lo+k
     ·subst z
      exact Ze0 o hp (by omega) (by omega) (by omega) e
     ·exact ha i b1 (by omega)
   ·rintro x st s ⟨rfl,hI,rfl,ha⟩
    exact ⟨rfl,hI,max m nrem,rfl,by omega,by omega,ha⟩
   ·rintro x st s ⟨rfl,hI,m',rfl,n1,n2,ha⟩
    exact kasC_pure (q m' p' s hI hp hlo n1 n2 (ZaY o hp (by omega) ha))
 clear_value jp
 refine Y0 (P:=m > 1) (fun z=>?_) fun z=>?_
 ·refine kasC_bind (Vi hc h (i:=lo) (j:=lo+m-1) (by omega) (by omega) hI fun s hI=>?_)
  have sg:=ZaY o h (show lo+m<=n by omega) ha
  rw [sg lo (lo+m-1) (Nat.le_refl _) (by omega) (by omega)]
  exact kasC_pure (q m p s hI h (fun _ _=>rfl) m1 m2 sg)
 ·exact hjp (by omega)
theorem ZjY (hc:Cmp prog w A κ it n c I) (o:Ord n c) (h:Pm n p) {lo m ok:Nat} (h1:1<=ok) (hok:ok<=m) (hz:lo+m<=n) (hI:I s) (sg:Seg c p lo (lo+ok)) {Q:Bool->SortSt->Shared->Prop}
  (q:∀ p' s',I s'->Pm n p'->Low p p' lo->Seg c p' lo (lo+m)->Q true (St κ it p' pend g) s') :
  kasC (model prog w) A E (binarySort' lo m ok) Q (St κ it p pend g) s:=by
 rw [binarySort'_eq]
 refine kasC_bind (Qd (WM (Q:=fun x st s=>I s/\∃ p',x=(none,())/\st=St κ it p' pend g/\Pm n p'/\Low p p' lo/\Seg c p' lo (lo+m))
  (fun k x st s=>I s/\∃ p',x=(none,())/\st=St κ it p' pend g/\Pm n p'/\Low p p' lo/\Seg c p' lo (lo+k)) ⟨hI,p,rfl,rfl,h,fun _ _=>rfl,by rw [show max ok 1=ok by omega]; exact sg⟩ ?_ ?_) ?_)
 ·rintro k x st s a1 a2 ⟨hI,p',rfl,rfl,hp,hlo,sg⟩
  refine kasC_bind (Qd (WM (Q:=fun x st s=>st=St κ it p' pend g/\I s/\∃ l r,x=(none,l,r)/\l<=k/\(∀ i,i < l->c (p'.getD (lo+i) 0) (p'.getD (lo+k) 0)=true)/\(∀ i,l<=i->i < k->c (p'.getD (lo+k) 0) (p'.getD (lo+i) 0)=true))
   (fun x' x st s=>st=St κ it p' pend g/\I s/\∃ l r,x=(none,l,r)/\l<=r/\r<=k/\r-l<=k-x'/\(∀ i,i < l->c (p'.getD (lo+i) 0) (p'.getD (lo+k) 0)=true)/\(∀ i,r<=i->i < k->c (p'.getD (lo+k) 0) (p'.getD (lo+i) 0)=true))
   ⟨rfl,hI,0,k,rfl,by omega,by omega,by omega,fun i a=>by omega,fun i a b=>by omega⟩ ?_ ?_) ?_)
  ·rintro x' x st s _ b2 ⟨rfl,hI,l,r,rfl,c1,c2,c3,c4,c5⟩
   refine Y0 (P:=l>=r) (fun z=>?_) fun z=>?_
   ·exact kasC_pure ⟨rfl,hI,l,r,rfl,by omega,c4,fun i d1 d2=>c5 i (by omega) d2⟩
   ·refine kasC_bind (Vi hc hp (i:=lo+k) (j:=lo+(l+r) / 2) (by omega) (by omega) hI fun s hI=>?_)
    have gk:=(hp.get (show lo+k < n by omega)).2
    cases e:c (p'.getD (lo+k) 0) (p'.getD (lo+(l+r) / 2) 0) with
    | true=>
     refine kasC_pure ⟨rfl,hI,l,(l+r) / 2,rfl,by omega,by omega,by omega,c4,fun i d1 d2=>?_⟩
     by_cases w:i=(l+r) / 2
     ·rw [w]; exact e
     ·exact o.tr _ _ _ gk (hp.get (by omega)).2 (hp.get (by omega)).2 e (sg _ _ (by omega) (by omega) (by omega))
    | false=>
     have e':=Ze0 o hp (by omega) (by omega) (by omega) e
     refine kasC_pure ⟨rfl,hI,(l+r) / 2+1,r,rfl,by omega,by omega,by omega,fun i d1=>?_,c5⟩
     by_cases w:i=(l+r) / 2
     ·rw [w]; exact e'
     ·exact o.tr _ _ _ (hp.get (by omega)).2 (hp.get (by omega)).2 gk (sg _ _ (by omega) (by omega) (by omega)) e'
  ·rintro x st s ⟨rfl,hI,l,r,rfl,c1,c2,c3,c4,c5⟩
   exact ⟨rfl,hI,l,r,rfl,by omega,c4,fun i d1 d2=>c5 i (by omega) d2⟩
  ·rintro x st s ⟨rfl,hI,l,r,rfl,c1,c4,c5⟩
   refine kasC_bind (Zig (kasC_pure ?_))
   have hs:=hp.size
   have bg:∀ i,(bubble p' (lo+k) (lo+k-(lo+l))).getD i 0=if i=lo+l then p'.getD (lo+k) 0 else if lo+l < i/\i<=lo+k then p'.getD (i-1) 0 else p'.getD i 0:=fun i=>ZaT (by omega) (by omega)
   refine ⟨hI,_,rfl,rfl,⟨((bubble_perm p' _ _).toList).trans hp.perm⟩,fun i hi=>?_,fun i j hi hij hj=>?_⟩
   ·rw [bg,if_neg (by omega),if_neg (by omega)]; exact hlo i hi
   ·rw [bg,bg]
    by_cases a:i=lo+l
    ·rw [if_pos a,if_neg (by omega),if_pos (by omega)]
     have:=c5 (j-1-lo) (by omega) (by omega)
     rw [show lo+(j-1-lo)=j-1 by omega] at this
     exact this
    ·rw [if_neg a]
     by_cases b:j=lo+l
     ·rw [if_pos b,if_neg (by omega)]
      have:=c4 (i-lo) (by omega)
      rw [show lo+(i-lo)=i by omega] at this
      exact this
     ·rw [if_neg b]
      by_cases x:lo+l < i/\i<=lo+k
      ·rw [if_pos x,if_pos (by omega)]
       exact sg _ _ (by omega) (by omega) (by omega)
      ·rw [if_neg x]
       by_cases y:lo+l < j/\j<=lo+k
       ·rw [if_pos y]
        exact sg _ _ (by omega) (by omega) (by omega)
       ·rw [if_neg y]
        exact sg _ _ (by omega) (by omega) (by omega)
 ·rintro x st s ⟨hI,p',rfl,rfl,hp,hlo,sg⟩
  exact ⟨hI,p',rfl,rfl,hp,hlo,by rw [show max (max ok 1) m=m by omega] at sg; exact sg⟩
 ·rintro x st s ⟨hI,p',rfl,rfl,hp,hlo,sg⟩
  exact kasC_pure (q p' s hI hp hlo sg)
end
section
variable {α β:Type}
theorem Zfs (k:Nat):∀ (R:List α) (i:Nat) (P:Array α),k+i+R.length<=P.size->∀ j,((R.zipIdx i).foldl (fun a pj=>a.setIfInBounds (k+pj.2) pj.1) P)[j]?=if k+i<=j/\j < k+i+R.length then R[j-(k+i)]? else P[j]?
 | [],i,P,h,j=>by
  rw [if_neg (by simp)]; rfl
 | x::R,i,P,h,j=>by
  rw [List.zipIdx_cons,List.foldl_cons,Zfs k R (i+1) _ (by simp at h ⊢; omega) j]
  simp only [List.length_cons] at h ⊢
  by_cases e:k+i=j
  ·subst e
   rw [if_neg (by omega),if_pos (by omega),Nat.sub_self]
   simp [Array.getElem?_setIfInBounds_self_of_lt (show k+i < P.size by omega)]
  ·by_cases z:k+(i+1)<=j/\j < k+(i+1)+R.length
   ·rw [if_pos z,if_pos (by omega)]
    rw [show j-(k+i)=(j-(k+(i+1)))+1 by omega,List.getElem?_cons_succ]
   ·rw [if_neg z,if_neg (by omega),Array.getElem?_setIfInBounds_ne e]
theorem Zfr (f:α->β) (k:Nat):∀ (R:List α) (i:Nat) (P:Array α),((R.map f).zipIdx i).foldl (fun a pj=>a.setIfInBounds (k+pj.2) pj.1) (P.map f)=((R.zipIdx i).foldl (fun a pj=>a.setIfInBounds (k+pj.2) pj.1) P).map f
 | [],i,P=>rfl
 | x::R,i,P=>by
  rw [List.map_cons,List.zipIdx_cons,List.zipIdx_cons,List.foldl_cons,List.foldl_cons,<-Zfr f k R (i+1)]
  congr 1
  simp
noncomputable def wrt (p:Array Nat) (k:Nat) (R:List Nat):Array Nat:=(R.zipIdx).foldl (fun a pj=>a.setIfInBounds (k+pj.2) pj.1) p
theorem Zeh {p:Array Nat} {k:Nat} {R:List Nat} (h:k+R.length<=p.size):(wrt p k R).toList=p.toList.take k++(R++p.toList.drop (k+R.length)):=by
 apply List.ext_getElem?
 intro j
 rw [Array.getElem?_toList]
 unfold wrt
 rw [Zfs k R 0 p (by omega)]
 have lt:(p.toList.take k).length=k:=by simp; omega
 by_cases a:j < k
 ·rw [if_neg (by omega),List.getElem?_append_left (by omega),List.getElem?_take_of_lt a]; simp
 ·rw [List.getElem?_append_right (by omega),lt]
  by_cases b:j < k+R.length
  ·rw [if_pos (by omega),List.getElem?_append_left (by omega),Nat.add_zero]
  ·rw [if_neg (by omega),List.getElem?_append_right (by omega),List.getElem?_drop,show k+R.length+(j-k-R.length)=j by omega]; simp
end
section
variable {n:Nat} {c:Nat->Nat->Bool} {p:Array Nat}
theorem Zhy (hs:p.size=n) (u:Up c p.toList):Seg c p 0 n:=by
 intro i j _ hij hj
 have:=List.pairwise_iff_getElem.mp u i j (by simp; omega) (by simp; omega) hij
 simpa [hs,show i < n by omega,hj] using this
theorem YR {a m x:Nat} (h:x∈(p.toList.drop a).take m):∃ i,a<=i/\i < a+m/\i < p.size/\x=p.getD i 0:=by
 obtain ⟨j,hj,e⟩:=List.getElem_of_mem h
 have l:j < m/\a+j < p.size:=by
  rw [List.length_take,List.length_drop] at hj
  simp at hj; omega
 refine ⟨a+j,by omega,by omega,l.2,?_⟩
 rw [<-e]; simp [l.2]
theorem Zdh {a x:Nat} (h:x∈p.toList.drop a):∃ i,a<=i/\i < p.size/\x=p.getD i 0:=by
 rw [<-List.take_length (l:=p.toList.drop a)] at h
 obtain ⟨i,h1,h2,h3,h4⟩:=YR h
 exact ⟨i,h1,h3,h4⟩
theorem ZbC {a m i:Nat} (hi:i < m) (h:a+m<=p.size):((p.toList.drop a).take m).getD i 0=p.getD (a+i) 0:=by
 have:a+i < p.size:=by omega
 simp [hi,this]
theorem ZbA {a m:Nat} (h:a+m<=p.size) (s:Seg c p a (a+m)):Up c ((p.toList.drop a).take m):=by
 rw [Up,List.pairwise_iff_getElem]
 intro i j hi hj hij
 have l:j < m:=by rw [List.length_take] at hj; omega
 have:=s (a+i) (a+j) (by omega) (by omega) (by omega)
 simpa [show a+i < p.size by omega,show a+j < p.size by omega] using this
theorem join (o:Ord n c) (h:Pm n p) {k na nb:Nat} (hk:k < na) (hnb:0 < nb) (hn:na+nb<=n) (s1:Seg c p 0 na) (s2:Seg c p na n) (A2:∀ i,i < k->c (p.getD i 0) (p.getD na 0)=true) (B2:∀ j,na+nb<=j->j < n->c (p.getD (na-1) 0) (p.getD j 0)=true)
  {R:List Nat} (hp:R.Perm ((p.toList.drop k).take (na-k)++(p.toList.drop na).take nb)) (hu:Up c R):Pm n (wrt p k R)/\Seg c (wrt p k R) 0 n:=by
 have hs:=h.size
 have hl:R.length=na-k+nb:=by
  rw [hp.length_eq]; simp; omega
 have gt:∀ i,i < n->p.getD i 0 < n:=fun i hi=>(h.get hi).2
 have el:=Zeh (p:=p) (k:=k) (R:=R) (by omega)
 rw [show k+R.length=na+nb by omega] at el
 have pm:Pm n (wrt p k R):=by
  refine ⟨?_⟩
  rw [el]
  refine List.Perm.trans ?_ h.perm
  have e:p.toList=p.toList.take k++(((p.toList.drop k).take (na-k)++(p.toList.drop na).take nb)++p.toList.drop (na+nb)):=by
   have e1:p.toList.drop k=(p.toList.drop k).take (na-k)++p.toList.drop na:=by
    have:=(List.take_append_drop (na-k) (p.toList.drop k)).symm
    rw [List.drop_drop,show k+(na-k)=na by omega] at this
    exact this
   have e2:p.toList.drop na=(p.toList.drop na).take nb++p.toList.drop (na+nb):=by
    have:=(List.take_append_drop nb (p.toList.drop na)).symm
    rw [List.drop_drop] at this
    exact this
   rw [List.append_assoc,<-e2,<-e1,List.take_append_drop]
  exact ((hp.append_right _).append_left _).trans (.of_eq e.symm)
 refine ⟨pm,Zhy pm.size ?_⟩
 rw [el]
 have le2:∀ i j,na<=i->i<=j->j < n->∀ x,x < n->c x (p.getD i 0)=true->c x (p.getD j 0)=true:=fun i j h1 h2 h3 x hx h4=>by
  by_cases z:i=j
  ·subst z; exact h4
  ·exact o.tr _ _ _ hx (gt _ (by omega)) (gt _ h3) h4 (s2 i j h1 (by omega) h3)
 have le1:∀ i,i < na->∀ x,x < n->c (p.getD (na-1) 0) x=true->c (p.getD i 0) x=true:=fun i h1 x hx h4=>by
  by_cases z:i=na-1
  ·subst z; exact h4
  ·exact o.tr _ _ _ (gt _ (by omega)) (gt _ (by omega)) hx (s1 i (na-1) (by omega) (by omega) (by omega)) h4
 rw [Up,List.pairwise_append,List.pairwise_append]
 have mR:∀ x∈R,(∃ i,k<=i/\i < na/\x=p.getD i 0)\/(∃ i,na<=i/\i < na+nb/\x=p.getD i 0):=fun x hx=>by
  rcases List.mem_append.mp (hp.mem_iff.mp hx) with z | z
  ·obtain ⟨i,a1,a2,a3,a4⟩:=YR z
   exact .inl ⟨i,a1,by omega,a4⟩
  ·obtain ⟨i,a1,a2,a3,a4⟩:=YR z
   exact .inr ⟨i,a1,by omega,a4⟩
 refine ⟨?_,⟨hu,?_,fun x hx y hy=>?_⟩,fun x hx y hy=>?_⟩
 ·have:=ZbA (p:=p) (c:=c) (a:=0) (m:=k) (by omega) fun i j a1 a2 a3=>s1 i j a1 a2 (by omega)
  exact this
 ·have:=ZbA (p:=p) (c:=c) (a:=na+nb) (m:=n-(na+nb)) (by omega) fun i j a1 a2 a3=>s2 i j (by omega) a2 (by omega)
  rw [List.take_of_length_le (by simp; omega)] at this
  exact this
 ·obtain ⟨j,b1,b2,rfl⟩:=Zdh hy
  rcases mR x hx with ⟨i,a1,a2,rfl⟩ | ⟨i,a1,a2,rfl⟩
  ·exact le1 i a2 _ (gt _ (by omega)) (B2 j b1 (by omega))
  ·exact s2 i j a1 (by omega) (by omega)
 ·have hx':x∈(p.toList.drop 0).take k:=hx
  obtain ⟨i,a1,a2,a3,rfl⟩:=YR hx'
  have b0:=A2 i (by omega)
  have lt:=gt i (by omega)
  rcases List.mem_append.mp hy with z | z
  ·rcases mR y z with ⟨j,b1,b2,rfl⟩ | ⟨j,b1,b2,rfl⟩
   ·exact s1 i j (by omega) (by omega) b2
   ·exact le2 na j (Nat.le_refl _) b1 (by omega) _ lt b0
  ·obtain ⟨j,b1,b2,rfl⟩:=Zdh z
   exact le2 na j (Nat.le_refl _) (by omega) (by omega) _ lt b0
end
section
variable {prog:Program} {w:World} {A:Around} {E:Value->Shared->Prop} {κ:SortKind} {it:Array Keyed} {n:Nat} {c:Nat->Nat->Bool} {I:Shared->Prop} {p:Array Nat} {pend:Array (Nat×Nat×Nat)} {g:Nat} {s:Shared}
theorem ZeQ {M:Model} {σ:Type} {st':σ} {Q:PUnit->σ->Shared->Prop} {st:σ} {s:Shared} (h:Q ⟨⟩ st' s):kasC M A E (set st':StateT σ Sem PUnit) Q st s:=by
 unfold kasC; rw [StateT.run_set]; exact wpAny_pure h
theorem ZjR (hc:Cmp prog w A κ it n c I) (o:Ord n c) (h:Pm n p) {x:Nat} (hx:x < n) {base m hint:Nat} (hb:base+m<=n) (hh:hint < m) (sg:Seg c p base (base+m)) (hne:∀ i,i < m->p.getD (base+i) 0≠x) {left:Bool} {st:SortSt} (hk:kindOf st=κ) (hI:I s) {Q:Option Nat->SortSt->Shared->Prop}
  (q:∀ k s',I s'->k<=m->(∀ i,i < k->c (p.getD (base+i) 0) x=true)->(∀ i,k<=i->i < m->c x (p.getD (base+i) 0)=true)->Q (some k) st s') :
  kasC (model prog w) A E (UC left (kas_item it x) (Ki it p) base m hint) Q st s:=by
 have hs:=h.size
 have fl:∀ i,i < m->(!(c x (p.getD (base+i) 0)))=c (p.getD (base+i) 0) x:=fun i hi=>by
  have hm:=(h.get (show base+i < n by omega)).2
  cases e:c x (p.getD (base+i) 0) with
  | true=>rw [o.asym hx hm e]; rfl
  | false=>rw [o.flip hx hm (hne _ hi).symm e]; rfl
 refine gal hc hx (fun i=>?_) (by omega) hh (B:=fun i=>c (p.getD (base+i) 0) x) (fun i hi=>?_) (fun i j h1 h2 h3=>?_) hk hI fun k s' a1 a2 a3 a4=>q k s' a1 a2 a3 fun i h1 h2=>?_
 ·by_cases z:i < n
  ·exact (h.get z).2
  ·have:p.getD i 0=0:=by simp [hs,z]
   omega
 ·cases left with
  | true=>rw [if_pos rfl]
  | false=>rw [if_neg (by simp),fl i hi]
 ·exact o.tr _ _ _ (h.get (by omega)).2 (h.get (by omega)).2 hx (sg _ _ (by omega) (by omega) (by omega)) h3
 ·have:=a4 i h1 h2
  have f:=fl i h2
  rw [this] at f
  simpa using f
end
section
variable {prog:Program} {w:World} {A:Around} {E:Value->Shared->Prop} {κ:SortKind} {it:Array Keyed} {n:Nat} {c:Nat->Nat->Bool} {I:Shared->Prop} {p:Array Nat} {pend:Array (Nat×Nat×Nat)} {g:Nat} {s:Shared}
theorem Zf6 (a b:Nat):(Ki it p).extract a b=Kl it ((p.toList.drop a).take (b-a)):=by rw [ZiO,QN]
theorem Zhi {k:Nat} {R:List Nat}:(Kl it R).toList.zipIdx.foldl (fun a x=>match x with | (q,j)=>a.setIfInBounds (k+j) q) (Ki it p)=Ki it (wrt p k R):=by
 have:=Zfr (kas_item it) k R 0 p
 unfold Ki wrt Kl
 rw [<-this]
theorem mat (hc:Cmp prog w A κ it n c I) (o:Ord n c) (h:Pm n p) {na nb pw:Nat} (ha:0 < na) (hb:0 < nb) (hn:na+nb=n) (s1:Seg c p 0 na) (s2:Seg c p na n) (hI:I s) {Q:Bool->SortSt->Shared->Prop}
  (q:∀ p' g' s',I s'->Pm n p'->Seg c p' 0 n->Q true (St κ it p' #[(0,na+nb,pw)] g') s') :
  kasC (model prog w) A E (mergeAt' 0) Q (St κ it p #[(0,na,pw),(na,nb,0)] g) s:=by
 have hs:=h.size
 have gt:∀ i,i < n->p.getD i 0 < n:=fun i hi=>(h.get hi).2
 unfold mergeAt'
 refine kasC_bind (kasC_get ?_)
 refine kasC_bind (ZeQ ?_)
 show kasC (model prog w) A E _ Q (St κ it p ((#[(0,na,pw),(na,nb,0)].setIfInBounds 0 (0,na+nb,pw)).eraseIdxIfInBounds (0+1)) g) s
 have ep:(#[(0,na,pw),(na,nb,0)].setIfInBounds 0 (0,na+nb,pw)).eraseIdxIfInBounds (0+1)=#[(0,na+nb,pw)]:=by simp
 rw [ep]
 refine kasC_bind (Vj (p:=p) (i:=na) (by omega) ?_)
 refine kasC_bind (ZjR hc o h (gt na (by omega)) (base:=0) (m:=na) (by omega) ha (by rw [Nat.zero_add]; exact s1) (fun i hi z=>by have:=h.inj (by omega) (by omega) z; omega) rfl hI fun k s hI a1 a2 a3=>?_)
 simp only [Nat.zero_add] at a2 a3
 refine Yp (b:=(na-k==0)) (fun e=>?_) fun e=>?_
 ·have e':=ZdZ e
  refine kasC_pure (q p g s hI h fun i j h1 h2 h3=>?_)
  by_cases z:j < na
  ·exact s1 i j h1 h2 z
  ·by_cases y:i < na
   ·have b0:=a2 i (by omega)
    by_cases x:j=na
    ·rw [x]; exact b0
    ·exact o.tr _ _ _ (gt _ (by omega)) (gt _ (by omega)) (gt _ h3) b0 (s2 na j (Nat.le_refl _) (by omega) h3)
   ·exact s2 i j (by omega) h2 h3
 have e':=Zeg e
 obtain ⟨k0,hk0⟩:∃ k0,k0=0+k:=⟨_,rfl⟩
 rw [<-hk0]
 have ek:k0=k:=by omega
 subst ek
 refine kasC_bind (Vj (p:=p) (i:=k0+(na-k0)-1) (by omega) ?_)
 have ei:k0+(na-k0)-1=na-1:=by omega
 rw [ei]
 refine kasC_bind (ZjR hc o h (gt (na-1) (by omega)) (base:=na) (m:=nb) (by omega) (by omega) (by rw [hn]; exact s2) (fun i hi z=>by have:=h.inj (by omega) (by omega) z; omega) rfl hI fun nb' s hI b1 b2 b3=>?_)
 have pos:0 < nb':=by
  rcases Nat.eq_zero_or_pos nb' with z | z
  ·have z1:=b3 0 (by omega) (by omega)
   have z2:=a3 (na-1) (by omega) (by omega)
   rw [Nat.add_zero,o.asym (gt _ (by omega)) (gt _ (by omega)) z2] at z1; cases z1
  ·exact z
 refine Yp (b:=(nb'==0)) (fun e=>?_) fun e=>?_
 ·have:=ZdZ e; omega
 extract_lets x y jp
 have ex:x=Kl it ((p.toList.drop k0).take (na-k0)):=Zf6 k0 na
 have ey:y=Kl it ((p.toList.drop na).take nb'):=by
  have:=Zf6 (it:=it) (p:=p) na (na+nb')
  rw [show na+nb'-na=nb' by omega] at this
  exact this
 have hjp:∀ r st s,Now κ it p #[(0,na+nb,pw)] I st s->Res it c ((p.toList.drop k0).take (na-k0)) ((p.toList.drop na).take nb') r->kasC (model prog w) A E (jp r) Q st s:=by
  clear_value x y
  rintro r st s ⟨⟨g',rfl⟩,hI⟩ ⟨R,rfl,hp,hu⟩
  have J:=join o h (k:=k0) (na:=na) (nb:=nb') (by omega) pos (by omega) s1 s2 (fun i hi=>a2 i hi) (fun j h1 h2=>by
   have:=b3 (j-na) (by omega) (by omega)
   rw [show na+(j-na)=j by omega] at this
   exact this) hp hu
  refine kasC_bind (kasC_modify ?_)
  refine kasC_bind (kasC_get ?_)
  refine kasC_pure ?_
  have Qn:=q (wrt p k0 R) g' s hI J.1 J.2
  unfold St at Qn
  rw [<-Zhi] at Qn
  exact Qn
 clear_value jp x y
 subst ex ey
 have la:((p.toList.drop k0).take (na-k0)).length=na-k0:=by simp; omega
 have lb:((p.toList.drop na).take nb').length=nb':=by simp; omega
 have T:Two n c ((p.toList.drop k0).take (na-k0)) ((p.toList.drop na).take nb'):=by
  refine ⟨o,fun x hx=>?_,fun x hx=>?_,ZbA (by omega) fun i j h1 h2 h3=>s1 i j (by omega) h2 (by omega),ZbA (by omega) fun i j h1 h2 h3=>s2 i j h1 h2 (by omega),fun x hx y hy z=>?_⟩
  ·obtain ⟨i,_,_,h3,rfl⟩:=YR hx; exact gt i (by omega)
  ·obtain ⟨i,_,_,h3,rfl⟩:=YR hx; exact gt i (by omega)
  ·obtain ⟨i,h1,h2,h3,rfl⟩:=YR hx
   obtain ⟨j,g1,g2,g3,rfl⟩:=YR hy
   have:=h.inj (by omega) (by omega) z
   omega
 have lo:∀ x∈(p.toList.drop k0).take (na-k0),c (((p.toList.drop na).take nb').getD 0 0) x=true:=fun x hx=>by
  obtain ⟨i,h1,h2,h3,rfl⟩:=YR hx
  rw [ZbC pos (by omega),Nat.add_zero]
  exact a3 i h1 (by omega)
 have hi:∀ y∈(p.toList.drop na).take nb',c y (((p.toList.drop k0).take (na-k0)).getD (((p.toList.drop k0).take (na-k0)).length-1) 0)=true:=fun y hy=>by
  obtain ⟨i,h1,h2,h3,rfl⟩:=YR hy
  rw [la,ZbC (by omega) (by omega),show k0+(na-k0-1)=na-1 by omega]
  have:=b2 (i-na) (by omega)
  rw [show na+(i-na)=i by omega] at this
  exact this
 refine Y0 (P:=na-k0<=nb') (fun _=>?_) fun _=>?_
 ·exact kasC_bind (mlo hc T (by omega) (by omega) lo hi hI hjp)
 ·exact kasC_bind (mhi hc T (by omega) (by omega) lo hi hI hjp)
end
section
variable {prog:Program} {w:World} {A:Around} {E:Value->Shared->Prop} {κ:SortKind} {it:Array Keyed} {c:Nat->Nat->Bool} {I:Shared->Prop} {p:Array Nat} {g:Nat} {s:Shared}
noncomputable def P2 (κ:SortKind) (it:Array Keyed) (c:Nat->Nat->Bool) (st:SortSt):Prop:=∃ p g n pw,st=St κ it p #[(0,n,pw),(n,64-n,0)] g/\Pm 64 p/\32<=n/\n < 64/\Seg c p 0 n/\Seg c p n 64
noncomputable def P1 (κ:SortKind) (it:Array Keyed) (c:Nat->Nat->Bool) (n:Nat) (st:SortSt):Prop:=∃ p g pw,st=St κ it p #[(0,n,pw)] g/\Pm 64 p/\32<=n/\n<=64/\Seg c p 0 n
noncomputable def Ps (κ:SortKind) (it:Array Keyed) (c:Nat->Nat->Bool) (I:Shared->Prop) (p:Array Nat) (g:Nat) (k:Nat) (r:ForInStep (Option Unit×Nat)) (st:SortSt) (s:Shared):Prop:=
 match r with
 | .yield x=>I s/\((k=0/\x=(none,0)/\st=St κ it p #[] g)\/(k=1/\∃ n,x=(none,n)/\P1 κ it c n st)\/(2<=k/\x=(none,64)/\P2 κ it c st))
 | .done x=>I s/\x=(none,64)/\(P1 κ it c 64 st\/P2 κ it c st)
theorem ZhA (hc:Cmp prog w A κ it 64 c I) (o:Ord 64 c) (h:Pm 64 p) (hI:I s) {Q:Unit->SortSt->Shared->Prop} (q:∀ p' pend' g' s',I s'->Pm 64 p'->Seg c p' 0 64->Q () (St κ it p' pend' g') s') :
  kasC (model prog w) A E sortRuns' Q (St κ it p #[] g) s:=by
 rw [sortRuns'_eq]
 refine kasC_bind (kasC_get ?_)
 have hsz:(arrOf (St κ it p #[] g)).size=64:=by
  show (Ki it p).size=64
  unfold Ki; rw [Array.size_map]; exact h.size
 rw [hsz]
 extract_lets sz mr l0
 have z1:64=sz:=rfl
 have z2:32=mr:=by
  show 32=minRun' (63+1) 64 0
  rw [minRun'_succ,if_neg (by omega)]
  show 32=minRun' (62+1) 32 0
  rw [minRun'_succ,if_pos (by omega)]
 have z3:0=l0:=rfl
 clear_value mr l0 sz
 subst z1 z2 z3
 refine kasC_bind (Qd (WM (Q:=fun x st s=>I s/\x=(none,64)/\(P1 κ it c 64 st\/P2 κ it c st))
  (fun k x st s=>I s/\((k=0/\x=(none,0)/\st=St κ it p #[] g)\/(k=1/\∃ n,x=(none,n)/\P1 κ it c n st)\/(2<=k/\x=(none,64)/\P2 κ it c st)))
  ⟨hI,.inl ⟨rfl,rfl,rfl⟩⟩ ?_ ?_) ?_)
 ·rintro k x st s _ hk hinv
  refine Qd (Q:=Ps κ it c I p g (k+1)) ?_ fun r st s h=>by cases r <;> exact h
  rcases hinv with ⟨hI,⟨rfl,rfl,rfl⟩ | ⟨rfl,n,rfl,p1,g1,pw,rfl,hp1,n1,n2,sg1⟩ | ⟨h2,rfl,hP⟩⟩
  ·refine Y0 (P:=0>=64) (fun z=>by omega) fun _=>?_
   refine kasC_bind (cnt hc o h (lo:=0) (nrem:=64) (by omega) (by omega) hI fun m p1 s hI hp1 _ m1 m2 sg=>?_)
   rw [Nat.zero_add] at sg
   simp -zeta -zetaHave only []
   extract_lets nn jp
   have hjp:∀ u n1 p2 s,I s->Pm 64 p2->32<=n1->n1<=64->Seg c p2 0 n1->kasC (model prog w) A E (jp u n1) (Ps κ it c I p g (0+1)) (St κ it p2 #[] g) s:=by
    intro u n1 p2 s hI hp2 l1 l2 sg2
    refine kasC_bind (kasC_get ?_)
    refine kasC_bind (kasC_modify (kasC_pure ?_))
    exact ⟨hI,.inr (.inl ⟨rfl,n1,by rw [Nat.zero_add],p2,g,0,rfl,hp2,l1,l2,sg2⟩)⟩
   clear_value jp
   refine Y0 (P:=m < 32) (fun z=>?_) fun z=>?_
   ·refine kasC_bind (kasC_lift (wpAny_rule ?_))
    refine kasC_bind (ZjY hc o hp1 (lo:=0) (m:=32) (ok:=m) m1 (by omega) (by omega) hI (by rw [Nat.zero_add]; exact sg) fun p2 s hI hp2 _ sg2=>?_)
    refine Yp (b:=!true) (fun z=>by cases z) fun _=>?_
    exact hjp _ 32 p2 s hI hp2 (by omega) (by omega) (by rw [Nat.zero_add] at sg2; exact sg2)
   ·exact hjp _ _ p1 s hI hp1 (by omega) m2 sg
  ·refine Y0 (P:=n>=64) (fun z=>?_) fun z=>?_
   ·have e64:n=64:=by omega
    subst e64
    exact kasC_pure ⟨hI,rfl,.inl ⟨p1,g1,pw,rfl,hp1,n1,n2,sg1⟩⟩
   ·refine kasC_bind (cnt hc o hp1 (lo:=n) (nrem:=64-n) (by omega) (by omega) hI fun m p2 s hI hp2 low m1 m2 sg=>?_)
    have sg2:Seg c p2 0 n:=fun i j a1 a2 a3=>by rw [low i (by omega),low j a3]; exact sg1 i j a1 a2 a3
    simp -zeta -zetaHave only []
    extract_lets nn jp
    have hjp:∀ u n1 p3 s,I s->Pm 64 p3->n1=64-n->Seg c p3 0 n->Seg c p3 n 64->kasC (model prog w) A E (jp u n1) (Ps κ it c I p g (1+1)) (St κ it p3 #[(0,n,pw)] g1) s:=by
     intro u m3 p3 s hI hp3 em sa sb
     subst em
     refine kasC_bind (kasC_get ?_)
     refine kasC_bind (Qd (WM (Q:=fun x st s=>I s/\x=(none,())/\st=St κ it p3 #[(0,n,pw)] g1) (fun k x st s=>I s/\x=(none,())/\st=St κ it p3 #[(0,n,pw)] g1) ⟨hI,rfl,rfl⟩ ?_ ?_) ?_)
     ·rintro k x st s _ _ ⟨hI,rfl,rfl⟩
      refine kasC_bind (kasC_get ?_)
      exact kasC_pure ⟨hI,rfl,rfl⟩
     ·rintro x st s ⟨hI,rfl,rfl⟩
      exact ⟨hI,rfl,rfl⟩
     ·rintro x st s ⟨hI,rfl,rfl⟩
      refine kasC_bind (kasC_modify ?_)
      refine kasC_bind (kasC_modify (kasC_pure ?_))
      exact ⟨hI,.inr (.inr ⟨by omega,by rw [show n+(64-n)=64 by omega],p3,g1,n,_,rfl,hp3,n1,by omega,sa,sb⟩)⟩
    clear_value jp
    refine Y0 (P:=m < 32) (fun z=>?_) fun z=>?_
    ·refine kasC_bind (kasC_lift (wpAny_rule ?_))
     refine kasC_bind (ZjY hc o hp2 (lo:=n) (m:=min (64-n) 32) (ok:=m) m1 (by omega) (by omega) hI sg fun p3 s hI hp3 low3 sg3=>?_)
     refine Yp (b:=!true) (fun z=>by cases z) fun _=>?_
     have em:min (64-n) 32=64-n:=by omega
     refine hjp _ (min (64-n) 32) p3 s hI hp3 em (fun i j a1 a2 a3=>?_) ?_
     ·rw [low3 i (by omega),low3 j a3]; exact sg2 i j a1 a2 a3
     ·rw [em,show n+(64-n)=64 by omega] at sg3; exact sg3
    ·have em:m=64-n:=by omega
     refine hjp _ _ p2 s hI hp2 em sg2 ?_
     rw [em,show n+(64-n)=64 by omega] at sg; exact sg
  ·refine Y0 (P:=64>=64) (fun z=>?_) fun z=>absurd (Nat.le_refl _) z
   exact kasC_pure ⟨hI,rfl,.inr hP⟩
 ·rintro x st s ⟨hI,⟨z,_⟩ | ⟨z,_⟩ | ⟨_,rfl,hP⟩⟩
  ·exact absurd z (by decide)
  ·exact absurd z (by decide)
  ·exact ⟨hI,rfl,.inr hP⟩
 ·rintro x st s ⟨hI,rfl,hP⟩
  refine kasC_bind (Qd (WM (Q:=fun x st s=>I s/\x=(none,())/\P1 κ it c 64 st) (fun k x st s=>I s/\x=(none,())/\((k=0/\P2 κ it c st)\/P1 κ it c 64 st)) ⟨hI,rfl,hP.elim .inr fun z=>.inl ⟨rfl,z⟩⟩ ?_ ?_) ?_)
  ·rintro k x st s _ _ ⟨hI,rfl,⟨rfl,p1,g1,n,pw,rfl,hp1,n1,n2,sa,sb⟩ | ⟨p1,g1,pw,rfl,hp1,n1,n2,sa⟩⟩
   ·refine kasC_bind (kasC_get ?_)
    refine Y0 (P:=(2:Nat)<=1) (fun z=>by omega) fun _=>?_
    refine kasC_bind (mat hc o hp1 (na:=n) (nb:=64-n) (by omega) (by omega) (by omega) sa sb hI fun p2 g2 s hI hp2 sg=>?_)
    refine Yp (b:=!true) (fun z=>by cases z) fun _=>?_
    refine kasC_pure ⟨hI,rfl,.inr ⟨p2,g2,pw,?_,hp2,by omega,by omega,sg⟩⟩
    rw [show n+(64-n)=64 by omega]
   ·refine kasC_bind (kasC_get ?_)
    refine Y0 (P:=(1:Nat)<=1) (fun z=>?_) fun z=>absurd (Nat.le_refl _) z
    exact kasC_pure ⟨hI,rfl,p1,g1,pw,rfl,hp1,n1,n2,sa⟩
  ·rintro x st s ⟨hI,rfl,⟨z,_⟩ | hP⟩
   ·exact absurd z (by decide)
   ·exact ⟨hI,rfl,hP⟩
  ·rintro x st s ⟨hI,rfl,p1,g1,pw,rfl,hp1,n1,n2,sa⟩
   exact kasC_pure (q _ _ _ _ hI hp1 sa)
end
section
variable {prog:Program} {w:World} {A:Around} {E:Value->Shared->Prop} {κ:SortKind} {c:Nat->Nat->Bool} {I:Shared->Prop} {s:Shared} {ks vs:List Value}
theorem run_any (hl:ks.length=vs.length) (h2:2<=vs.length) (h64:vs.length<=64) (o:Ord vs.length c) (hcmp:∀ i j C s',i < vs.length->j < vs.length->I s'->(∀ s'',I s''->C (c i j) s'')->kas_ask prog w A κ ks i j C s') (hI:I s) {Q:SortSt->Shared->Prop}
  (q:∀ p st' s',p.size=vs.length->arrOf st'=p.map (kas_item (ks.toArray.zip vs.toArray))->failedOf st'=none->Pm vs.length p->SortTo c p vs.length->I s'->Q st' s') :
  wpAny (model prog w) A ((sortRuns').run (SortSt.mk' κ (ks.toArray.zip vs.toArray) #[] 7 none)) (fun r s'=>Q r.2 s') E s:=by
 rcases Nat.lt_or_ge vs.length 64 with h | h
 ·have so:=Zge o h2
  refine kat_run (Q:=Q) (G:=fun p s'=>p=run c (kas_sort vs.length)/\I s') hl h2 h (fun p st' s' a1 a2 a3 a4=>q p st' s' a1 a2 a3 (by rw [a4.1]; exact so.1) (by rw [a4.1]; exact so.2) a4.2) ?_
  exact Zft hcmp (Zgf (by omega)) hI fun s' e=>⟨rfl,e⟩
 ·have e64:vs.length=64:=by omega
  have sz:(ks.toArray.zip vs.toArray).size=vs.length:=by simp [hl]
  have est:SortSt.mk' κ (ks.toArray.zip vs.toArray) #[] 7 none=St κ (ks.toArray.zip vs.toArray) (List.range vs.length).toArray #[] 7:=by
   have z:Ki (ks.toArray.zip vs.toArray) (List.range (ks.toArray.zip vs.toArray).size).toArray=ks.toArray.zip vs.toArray:=kas_range _
   rw [sz] at z
   unfold St
   rw [z]
  rw [est]
  have hc:Cmp prog w A κ (ks.toArray.zip vs.toArray) vs.length c I:=fun i j C s' hi hj hI' hC=>by
   have:=hcmp i j C s' hi hj hI' hC
   rw [kat_ask_eq hl] at this
   exact this
  have hp:Pm vs.length (List.toArray (List.range vs.length)):=⟨by simp⟩
  rw [e64] at hc o hp q ⊢
  exact ZhA (Q:=fun _ st' s'=>Q st' s') hc o hp hI fun p' pend' g' s' hI' hp' sg=>q p' _ s' hp'.size rfl rfl hp' (fun i j hij hj=>sg i j (Nat.zero_le _) hij hj) hI'
end
end So
namespace L3
open PySem PySem.Spec PyProof.Rows L2 SetTab PySem.SetTable PySem.W
section
variable {prog:Program} {w:World} {A:Around} {E:Value->Shared->Prop} {s:Shared} {Q:Bool->Shared->Prop}
theorem ZfK:∀ (k1 k2:List Int) (v1 v2:List Value) (i:Nat),PySem.ItemsAre (intKind prog w) k1 v1->PySem.ItemsAre (intKind prog w) k2 v2->k1.length=k2.length->Q (HT.lexLt k1 k2) s->KatLex prog w A true false Q (v1.zip v2) i s
 | [],[],_,_,i,.nil,.nil,_,h=>h
 | [],_::_,_,_,i,_,_,hl,_=>by simp at hl
 | _::_,[],_,_,i,_,_,hl,_=>by simp at hl
 | a::k1,b::k2,_,_,i,.cons ha i1,.cons hb i2,hl,h=>by
  obtain ⟨t,rfl⟩:=Value.isInt_shape ha
  obtain ⟨u,rfl⟩:=Value.isInt_shape hb
  refine kat_cons (wpAny_eqBool_int ?_)
  rw [HT.lexLt_cons] at h
  by_cases e:a=b
  ·rw [if_pos e] at h
   rw [show (a==b)=true by simp [e]]
   exact kat_yes (ZfK k1 k2 _ _ (i+1) i1 i2 (by simpa using hl) h)
  ·rw [if_neg e] at h
   rw [show (a==b)=false by simp [e]]
   refine kat_no ?_
   cases hi:(true&&i==0) with
   | true=>exact oneLt_int h
   | false=>exact kat_one _ _ (PyProof.Rows.lt_int h)
theorem Zjp {x y:Addr} {k1 k2:List Int} (h1:TK prog w s.heap k1 x) (h2:TK prog w s.heap k2 y) (hl:k1.length=k2.length) (q:Q (HT.lexLt k1 k2) s):wpAny (model prog w) A (keyLt' (tuples' true) (.ref x) (.ref y)) Q E s:=by
 obtain ⟨o1,i1,n1,a1,b1,c1,d1⟩:=h1
 obtain ⟨o2,i2,n2,a2,b2,c2,d2⟩:=h2
 refine kat_lt a1 c1 a2 c2 ?_
 have e1:i1.size=k1.length:=by have:=d1.length; simpa using this.symm
 have e2:i2.size=k2.length:=by have:=d2.length; simpa using this.symm
 rw [show decide (i1.size < i2.size)=false by rw [e1,e2,hl]; simp]
 exact ZfK k1 k2 _ _ 0 d1 d2 hl q
theorem Zjq {a:Addr} {vs:List Value} {ks:List (List Int)} {n m:Nat} {P:PySem.Fin->Shared->Prop} (ho:s.heap.get? a=some (seqObj "list" vs.toArray n)) (h2:2<=vs.length) (h64:vs.length<=64) (hlen:ks.length=vs.length)
  (hord:So.Ord vs.length fun i j=>HT.lexLt (ks.getD i []) (ks.getD j [])) (hm:∀ k∈ks,k.length=m+1) (hk:∀ (i:Nat) (v:Value) (k:List Int),vs[i]?=some v->ks[i]?=some k->∃ b,v=Value.ref b/\TK prog w s.heap k b)
  (q:∀ p:Array Nat,So.Pm vs.length p->So.SortTo (fun i j=>HT.lexLt (ks.getD i []) (ks.getD j [])) p vs.length->∀ h' c,(∀ b o,b≠a->s.heap.get? b=some o->h'.get? b=some o)->h'.get? a=some (seqObj "list" (p.toList.map fun i=>vs.getD i Value.none).toArray c)->P (.done (.ret .none)) { s with heap:=h' }) :
  wpAny (model prog w) A (Builtin.«list.sort» ⟨[.ref a],[]⟩) P E s:=by
 have s1:=Heap.SameBut.update s.heap a (Obj.mapSeq fun _=>(#[]:Array Value))
 obtain ⟨e1,ho1⟩:∃ e1,(s.heap.update a (Obj.mapSeq fun _=>(#[]:Array Value))).get? a=some (seqObj "list" #[] e1):=⟨_,get?_update_seq ho fun _=>#[]⟩
 rw [list_sort_plain]
 refine wpAny_bind (listItems_at ho rfl ?_)
 refine wpAny_bind (listUpdate_at ho rfl ?_ (by rw [List.size_toArray,sizeLine_eq]; omega) (Nat.zero_le _))
 refine wpAny_bind (seqEpoch_at ho1 rfl ?_)
 refine wpAny_bind (wpAny_newTuple ?_ (by show vs.length<=_; rw [sizeLine_eq]; omega))
 refine wpAny_bind (wpAny_newList ?_ (Nat.zero_le _))
 refine wpAny_holding ?_
 show wpAny (model prog w) A _ P E { s with heap:=((s.heap.update a (Obj.mapSeq fun _=>(#[]:Array Value))).push (seqObj "tuple" vs.toArray 0)).push (seqObj "list" #[] 0) }
 dsimp only
 have hn2:¬ vs.toArray.size < 2:=by rw [List.size_toArray]; omega
 rw [if_neg hn2,if_neg hn2]
 have kp:∀ b o,b≠a->s.heap.get? b=some o->(((s.heap.update a (Obj.mapSeq fun _=>(#[]:Array Value))).push (seqObj "tuple" vs.toArray 0)).push (seqObj "list" #[] 0)).get? b=some o:=fun b o hb e=>
  Heap.get?_push_of_some _ (Heap.get?_push_of_some _ ((s1.2 b hb).trans e))
 have hoa:(((s.heap.update a (Obj.mapSeq fun _=>(#[]:Array Value))).push (seqObj "tuple" vs.toArray 0)).push (seqObj "list" #[] 0)).get? a=some (seqObj "list" #[] e1):=Heap.get?_push_of_some _ (Heap.get?_push_of_some _ ho1)
 have tk:∀ (i:Nat) (v:Value) (k:List Int),vs[i]?=some v->ks[i]?=some k->∃ b,v=Value.ref b/\TK prog w (((s.heap.update a (Obj.mapSeq fun _=>(#[]:Array Value))).push (seqObj "tuple" vs.toArray 0)).push (seqObj "list" #[] 0)) k b:=fun i v k h1 h2=>by
  obtain ⟨b,rfl,ob,items,nn,g1,g2,g3,g4⟩:=hk i v k h1 h2
  have ne:b≠a:=fun z=>by
   rw [z,ho] at g1; cases g1
   have g2':Value.type "list"=Value.type "tuple":=g2
   exact absurd g2' (by simp)
  exact ⟨b,rfl,ob,items,nn,kp b ob ne g1,g2,g3,g4⟩
 generalize ((s.heap.update a (Obj.mapSeq fun _=>(#[]:Array Value))).push (seqObj "tuple" vs.toArray 0)).push (seqObj "list" #[] 0)=h3 at kp hoa tk
 have gk:∀ i,i < vs.length->∃ k b,ks[i]?=some k/\ks.getD i []=k/\vs[i]?=some (Value.ref b)/\vs.getD i Value.none=Value.ref b/\TK prog w h3 k b/\k.length=m+1:=fun i hi=>by
  have e1:ks[i]?=some ks[i]:=List.getElem?_eq_getElem (by omega)
  have e2:vs[i]?=some vs[i]:=List.getElem?_eq_getElem hi
  obtain ⟨b,e3,e4⟩:=tk i _ _ e2 e1
  refine ⟨ks[i],b,e1,by simp [e1],by rw [e2,e3],by simp [e2,e3],e4,hm _ (List.getElem_mem _)⟩
 have n0:0 < vs.length:=by omega
 obtain ⟨fs,kt,hfl,hfi⟩:∃ fs,KatTups h3 vs fs/\0 < fs.length/\∀ v∈fs,∃ k t,v=Value.int k t:=by
  have go:∀ (l:List Value),(∀ v∈l,∃ k b,v=Value.ref b/\TK prog w h3 k b/\k.length=m+1)->∃ fs,KatTups h3 l fs/\fs.length=l.length/\∀ v∈fs,∃ k t,v=Value.int k t:=by
   intro l
   induction l with
   | nil=>exact fun _=>⟨[],KatTups.nil,rfl,fun v hv=>by cases hv⟩
   | cons v l ih=>
    intro h
    obtain ⟨fs,f1,f2,f3⟩:=ih fun x hx=>h x (List.mem_cons_of_mem _ hx)
    obtain ⟨k,b,rfl,⟨ob,items,nn,g1,g2,g3,g4⟩,g5⟩:=h v List.mem_cons_self
    cases k with
    | nil=>simp at g5
    | cons k0 kr=>
     cases e:items.toList with
     | nil=>rw [e] at g4; cases g4
     | cons v0 vr=>
      rw [e] at g4
      cases g4 with
      | cons g6 g7=>
       obtain ⟨t,rfl⟩:=Value.isInt_shape g6
       refine ⟨Value.int k0 t::fs,KatTups.cons g1 g2 g3 (by rw [<-Array.getElem?_toList,e]; rfl) f1,by simp [f2],fun x hx=>?_⟩
       rcases List.mem_cons.mp hx with z | z
       ·exact ⟨_,_,z⟩
       ·exact f3 x z
  obtain ⟨fs,f1,f2,f3⟩:=go vs fun v hv=>by
   obtain ⟨i,hi,e⟩:=List.getElem_of_mem hv
   obtain ⟨k,b,_,_,x3,_,x5,x6⟩:=gk i hi
   rw [List.getElem?_eq_getElem hi,e] at x3
   exact ⟨k,b,Option.some.inj x3,x5,x6⟩
  exact ⟨fs,f1,by omega,f3⟩
 refine wpAny_bind (kat_kind (s:={ s with heap:=h3 }) kt hfl (T:=.type "int") (fun v hv=>?_) (by decide) ?_)
 ·obtain ⟨k,t,rfl⟩:=hfi v hv
  exact Looks.of_pure rfl
 have e0:(Value.type "int" != Value.type "tuple")=true:=by decide
 rw [e0]
 have hcmp:∀ i j C (s':Shared),i < vs.length->j < vs.length->s'={ s with heap:=h3 }->(∀ s'',s''={ s with heap:=h3 }->C (HT.lexLt (ks.getD i []) (ks.getD j [])) s'')->kas_ask prog w A (tuples' true) vs i j C s':=by
  intro i j C s' hi hj e hC
  subst e
  obtain ⟨k1,b1,_,x2,_,x4,x5,x6⟩:=gk i hi
  obtain ⟨k2,b2,_,y2,_,y4,y5,y6⟩:=gk j hj
  unfold kas_ask
  rw [x4,y4]
  rw [x2,y2] at hC
  exact Zjp (s:={ s with heap:=h3 }) x5 y5 (by rw [x6,y6]) (hC _ rfl)
 refine wpAny_bind (wpAny_mono (So.run_any (I:=fun s'=>s'={ s with heap:=h3 }) (c:=fun i j=>HT.lexLt (ks.getD i []) (ks.getD j [])) rfl h2 h64 hord hcmp rfl (Q:=fun st' s'=>∃ p:Array Nat,p.size=vs.length/\arrOf st'=p.map (kas_item (vs.toArray.zip vs.toArray))/\failedOf st'=none/\(So.Pm vs.length p/\So.SortTo (fun i j=>HT.lexLt (ks.getD i []) (ks.getD j [])) p vs.length)/\s'={ s with heap:=h3 })
  (fun p' st' s' a1 a2 a3 a4 a5 a6=>⟨p',a1,a2,a3,⟨a4,a5⟩,a6⟩)) ?_ fun _ _ e=>e)
 rintro ⟨⟨⟩,st'⟩ s' ⟨p,hp,har,hf,so,rfl⟩
 dsimp only
 have hout:=kat_snds rfl har
 have hsz:(List.toArray (p.toList.map fun i=>vs.getD i Value.none)).size=vs.length:=by rw [List.size_toArray,List.length_map,Array.length_toList,hp]
 rw [hout]
 have s2:=Heap.SameBut.update h3 a (Obj.mapSeq fun _=>List.toArray (p.toList.map fun i=>vs.getD i Value.none))
 obtain ⟨c2,hc2⟩:∃ c2,(h3.update a (Obj.mapSeq fun _=>List.toArray (p.toList.map fun i=>vs.getD i Value.none))).get? a=some (seqObj "list" (List.toArray (p.toList.map fun i=>vs.getD i Value.none)) c2):=⟨_,get?_update_seq hoa fun _=>List.toArray (p.toList.map fun i=>vs.getD i Value.none)⟩
 refine wpAny_bind (seqEpoch_at hoa rfl ?_)
 refine wpAny_bind (listUpdate_at hoa rfl ?_ (Nat.zero_le _) (Nat.le_trans (Nat.le_of_eq hsz) (by rw [sizeLine_eq]; omega)))
 rw [hf]
 simp only [bne_self_eq_false,Bool.false_eq_true,if_false]
 exact wpAny_pure (q p so.1 so.2 _ c2 (fun b o hb e=>(s2.2 b hb).trans (kp b o hb e)) hc2)
theorem Zh6 {a:Addr} {vs:List Value} {n:Nat} {P:PySem.Fin->Shared->Prop} (ho:s.heap.get? a=some (seqObj "list" vs.toArray n)) (h2:vs.length < 2)
  (q:∀ h' c,(∀ b o,b≠a->s.heap.get? b=some o->h'.get? b=some o)->h'.get? a=some (seqObj "list" vs.toArray c)->P (.done (.ret .none)) { s with heap:=h' }) :
  wpAny (model prog w) A (Builtin.«list.sort» ⟨[.ref a],[]⟩) P E s:=by
 have s1:=Heap.SameBut.update s.heap a (Obj.mapSeq fun _=>(#[]:Array Value))
 obtain ⟨e1,ho1⟩:∃ e1,(s.heap.update a (Obj.mapSeq fun _=>(#[]:Array Value))).get? a=some (seqObj "list" #[] e1):=⟨_,get?_update_seq ho fun _=>#[]⟩
 rw [list_sort_plain]
 refine wpAny_bind (listItems_at ho rfl ?_)
 refine wpAny_bind (listUpdate_at ho rfl ?_ (by rw [List.size_toArray,sizeLine_eq]; omega) (Nat.zero_le _))
 refine wpAny_bind (seqEpoch_at ho1 rfl ?_)
 refine wpAny_bind (wpAny_newTuple ?_ (by show vs.length<=_; rw [sizeLine_eq]; omega))
 refine wpAny_bind (wpAny_newList ?_ (Nat.zero_le _))
 refine wpAny_holding ?_
 show wpAny (model prog w) A _ P E { s with heap:=((s.heap.update a (Obj.mapSeq fun _=>(#[]:Array Value))).push (seqObj "tuple" vs.toArray 0)).push (seqObj "list" #[] 0) }
 dsimp only
 have hn2:vs.toArray.size < 2:=by rw [List.size_toArray]; omega
 have kp:∀ b o,b≠a->s.heap.get? b=some o->(((s.heap.update a (Obj.mapSeq fun _=>(#[]:Array Value))).push (seqObj "tuple" vs.toArray 0)).push (seqObj "list" #[] 0)).get? b=some o:=fun b o hb e=>
  Heap.get?_push_of_some _ (Heap.get?_push_of_some _ ((s1.2 b hb).trans e))
 have hoa:(((s.heap.update a (Obj.mapSeq fun _=>(#[]:Array Value))).push (seqObj "tuple" vs.toArray 0)).push (seqObj "list" #[] 0)).get? a=some (seqObj "list" #[] e1):=Heap.get?_push_of_some _ (Heap.get?_push_of_some _ ho1)
 generalize ((s.heap.update a (Obj.mapSeq fun _=>(#[]:Array Value))).push (seqObj "tuple" vs.toArray 0)).push (seqObj "list" #[] 0)=h3 at kp hoa
 rw [if_pos hn2,if_pos hn2]
 refine wpAny_bind (wpAny_pure ?_)
 rw [StateT.run_pure]
 refine wpAny_bind (wpAny_pure ?_)
 dsimp only
 have eo:(vs.toArray.zip vs.toArray).map (·.2)=vs.toArray:=by
  apply Array.toList_inj.mp
  rw [Array.toList_map,Array.toList_zip,<-List.unzip_snd,List.unzip_zip (by simp)]
 refine wpAny_bind (seqEpoch_at hoa rfl ?_)
 have s2:=Heap.SameBut.update h3 a (Obj.mapSeq fun _=>vs.toArray)
 obtain ⟨c2,hc2⟩:∃ c2,(h3.update a (Obj.mapSeq fun _=>vs.toArray)).get? a=some (seqObj "list" vs.toArray c2):=⟨_,get?_update_seq hoa fun _=>vs.toArray⟩
 refine wpAny_bind (listUpdate_at hoa rfl ?_ (Nat.zero_le _) (by
  refine Nat.le_trans (Nat.le_of_eq ?_) (show vs.length<=_ by rw [sizeLine_eq]; omega)
  show ((vs.toArray.zip vs.toArray).map (·.2)).size=_
  rw [eo]; simp))
 simp only [bne_self_eq_false,Bool.false_eq_true,if_false]
 have eo':(h3.update a (Obj.mapSeq fun _=>(vs.toArray.zip vs.toArray).map (·.2)))=h3.update a (Obj.mapSeq fun _=>vs.toArray):=by rw [eo]
 refine wpAny_pure ?_
 show P _ { s with heap:=h3.update a (Obj.mapSeq fun _=>(vs.toArray.zip vs.toArray).map (·.2)) }
 rw [eo']
 exact q _ c2 (fun b o hb e=>(s2.2 b hb).trans (kp b o hb e)) hc2
end
theorem Jw:∀ k:List Int,HT.lexLt k k=false
 | []=>rfl
 | a::k=>by rw [HT.lexLt_cons,if_pos rfl]; exact Jw k
theorem lex_tr:∀ a b c:List Int,HT.lexLt a b=true->HT.lexLt b c=true->HT.lexLt a c=true
 | [],[],_,h,_=>by cases h
 | [],_::_,[],_,h=>by cases h
 | [],_::_,_::_,_,_=>rfl
 | _::_,[],_,h,_=>by cases h
 | _::_,_::_,[],_,h=>by cases h
 | x::a,y::b,z::c,h1,h2=>by
  rw [HT.lexLt_cons] at h1 h2 ⊢
  by_cases e1:x=y
  ·rw [if_pos e1] at h1
   by_cases e2:y=z
   ·rw [if_pos e2] at h2
    rw [if_pos (e1.trans e2)]; exact lex_tr a b c h1 h2
   ·rw [if_neg e2] at h2
    rw [if_neg (by omega),e1]; exact h2
  ·rw [if_neg e1] at h1
   have h1':=of_decide_eq_true h1
   by_cases e2:y=z
   ·rw [if_pos e2] at h2
    rw [if_neg (by omega)]; exact decide_eq_true (by omega)
   ·rw [if_neg e2] at h2
    have h2':=of_decide_eq_true h2
    rw [if_neg (by omega)]; exact decide_eq_true (by omega)
theorem ZaG:∀ a b:List Int,a.length=b.length->a≠b->HT.lexLt a b=true\/HT.lexLt b a=true
 | [],[],_,h=>absurd rfl h
 | [],_::_,h,_=>by simp at h
 | _::_,[],h,_=>by simp at h
 | x::a,y::b,hl,hn=>by
  rw [HT.lexLt_cons,HT.lexLt_cons]
  by_cases e:x=y
  ·subst e
   rw [if_pos rfl,if_pos rfl]
   exact ZaG a b (by simpa using hl) fun z=>hn (by rw [z])
  ·rw [if_neg e,if_neg (Ne.symm e)]
   rcases Int.lt_or_gt_of_ne e with h | h
   ·exact .inl (decide_eq_true h)
   ·exact .inr (decide_eq_true h)
noncomputable def ZfO (k:List Int):List (List Int)->List (List Int)
 | []=>[k]
 | x::r=>if k=x then x::r else if HT.lexLt k x=true then k::x::r else x::ZfO k r
noncomputable def ZbR:List (List Int)->List (List Int)
 | []=>[]
 | k::ks=>ZfO k (ZbR ks)
theorem insK_mem {k x:List Int}:∀ {l:List (List Int)},x∈ZfO k l ↔ x=k\/x∈l
 | []=>by simp [ZfO]
 | y::r=>by
  unfold ZfO
  by_cases e:k=y
  ·rw [if_pos e]; subst e; simp
  ·rw [if_neg e]
   by_cases h:HT.lexLt k y=true
   ·rw [if_pos h]; simp
   ·rw [if_neg h,List.mem_cons,insK_mem,List.mem_cons]
    constructor
    ·rintro (z | z | z)
     ·exact .inr (.inl z)
     ·exact .inl z
     ·exact .inr (.inr z)
    ·rintro (z | z | z)
     ·exact .inr (.inl z)
     ·exact .inl z
     ·exact .inr (.inr z)
theorem srtK_mem {x:List Int}:∀ {l:List (List Int)},x∈ZbR l ↔ x∈l
 | []=>by simp [ZbR]
 | k::l=>by unfold ZbR; rw [insK_mem,srtK_mem,List.mem_cons]
noncomputable def Zfn (l:List (List Int)):Prop:=l.Pairwise fun a b=>HT.lexLt a b=true
theorem Zbs {k:List Int}:∀ {l:List (List Int)},Zfn l->(∀ x∈l,x.length=k.length)->Zfn (ZfO k l)
 | [],_,_=>by simp [ZfO,Zfn]
 | y::r,h,hl=>by
  obtain ⟨h1,h2⟩:=List.pairwise_cons.mp h
  unfold ZfO
  by_cases e:k=y
  ·rw [if_pos e]; exact h
  ·rw [if_neg e]
   by_cases hk:HT.lexLt k y=true
   ·rw [if_pos hk]
    refine List.pairwise_cons.mpr ⟨fun z hz=>?_,h⟩
    rcases List.mem_cons.mp hz with q | q
    ·rw [q]; exact hk
    ·exact lex_tr _ _ _ hk (h1 z q)
   ·rw [if_neg hk]
    refine List.pairwise_cons.mpr ⟨fun z hz=>?_,Zbs h2 fun x hx=>hl x (List.mem_cons_of_mem _ hx)⟩
    rcases insK_mem.mp hz with q | q
    ·rw [q]
     rcases ZaG k y (hl y List.mem_cons_self).symm e with w | w
     ·exact absurd w hk
     ·exact w
    ·exact h1 z q
theorem Qw {m:Nat}:∀ {l:List (List Int)},(∀ x∈l,x.length=m)->Zfn (ZbR l)
 | [],_=>List.Pairwise.nil
 | k::l,h=>Zbs (Qw fun x hx=>h x (List.mem_cons_of_mem _ hx)) fun x hx=>by rw [h x (List.mem_cons_of_mem _ (srtK_mem.mp hx)),h k List.mem_cons_self]
theorem Zbe:∀ {l m:List (List Int)},Zfn l->Zfn m->(∀ x,x∈l ↔ x∈m)->l=m
 | [],[],_,_,_=>rfl
 | [],y::m,_,_,h=>absurd ((h y).mpr List.mem_cons_self) (by simp)
 | x::l,[],_,_,h=>absurd ((h x).mp List.mem_cons_self) (by simp)
 | x::l,y::m,h1,h2,h=>by
  obtain ⟨a1,a2⟩:=List.pairwise_cons.mp h1
  obtain ⟨b1,b2⟩:=List.pairwise_cons.mp h2
  have e:x=y:=by
   rcases List.mem_cons.mp ((h x).mp List.mem_cons_self) with q | q
   ·exact q
   ·rcases List.mem_cons.mp ((h y).mpr List.mem_cons_self) with w | w
    ·exact w.symm
    ·have:=lex_tr _ _ _ (b1 x q) (a1 y w)
     rw [Jw] at this; cases this
  subst e
  congr 1
  refine Zbe a2 b2 fun z=>?_
  have hz:=h z
  rw [List.mem_cons,List.mem_cons] at hz
  constructor
  ·intro q
   rcases hz.mp (.inr q) with w | w
   ·subst w; have:=a1 z q; rw [Jw] at this; cases this
   ·exact w
  ·intro q
   rcases hz.mpr (.inr q) with w | w
   ·subst w; have:=b1 z q; rw [Jw] at this; cases this
   ·exact w
theorem VS:∀ ks:List (List Int),(Zda ks).length<=ks.length
 | []=>Nat.le_refl _
 | k::ks=>by
  have ih:=VS ks
  unfold Zda
  split
  ·simp; omega
  ·simp; omega
noncomputable def kD (k:List Int):D:=.tup (k.map .int)
noncomputable def YL:D->Option D:=fun d=>(YN d).bind fun xs=>(Q7 xs).bind fun ks=>if ks.length<=64/\ks.all (fun k=>k.length==2)=true then some (.lst ((ZbR ks).map kD)) else none
section
variable {X:Cx} {pins:List (Addr×Obj)} {σ:L2.St} {H:Hp} {s:Shared} {F:Fz}
theorem Vo {e:Expr} {f:DE} {p1 p2 p3 p4:Pos} (hc:X.calm=true) (hu:X.A.units+64 < cLine) (hgl:Gl X "sorted") (hml:X.mg "sorted"=none) (hgs:Gl X "set") (hms:X.mg "set"=none) (he:ED X e f)
  (hst:starEach [e] X.env=[(false,eval e X.env)]:=by rfl) (hst2:starEach [Expr.Call (.Name "set" p2) [e] [] p3] X.env=[(false,eval (.Call (.Name "set" p2) [e] [] p3) X.env)]:=by rfl) :
  ED X (.Call (.Name "sorted" p1) [.Call (.Name "set" p2) [e] [] p3] [] p4) (QG YL f):=by
 intro pins s σ H Q I h
 obtain ⟨ρ,F0,H0,F,d,ok,ed,q⟩:=h
 obtain ⟨x,ex,ed⟩:=bind_some ed
 obtain ⟨xs,es,ed⟩:=bind_some ed
 obtain ⟨ks,ek,ed⟩:=bind_some ed
 obtain ⟨⟨hn,hlen2⟩,rfl⟩:=Z9 ed
 have hl2:∀ k∈ks,k.length=2:=fun k hk=>by
  have:=List.all_eq_true.mp hlen2 k hk
  simpa using this
 refine wpAny_Call_Name_kw (JH I hgl hml PyProof.Rows.boot_sorted (PyProof.Rows.callWith_builtin1 ?_ (by rw [hst2]; rfl) (by rfl)) (by decide) (by decide))
 rw [hst2]
 show wpAny _ _ (spliced ((false,eval (.Call (.Name "set" p2) [e] [] p3) X.env)::[])) _ _ s
 refine Calls.spliced_cons (wpAny_Call_Name_kw (JH I hgs hms PyProof.Rows.boot_set (PyProof.Rows.callWith_type1 ?_ (by rw [hst]; rfl) (by rfl)) (by decide) (by decide)))
 rw [hst]
 show wpAny _ _ (spliced ((false,eval e X.env)::[])) _ _ s
 refine Calls.spliced_cons (thn (he pins s σ H (fun v H'=>∃ F',Grow F H F' H'/\Rep X.K F' H' x v) I ⟨ρ,F0,H0,F,x,ok,ex,fun v F' H' g r=>⟨F',g,r⟩⟩) fun u s1 ⟨v,H1,I1,r1,F1,g1,rx⟩=>Calls.spliced_nil ?_)
 refine Zgk (A:=X.A) (I1.ok.hd hc) (by omega) I1 es ek (by omega) rx r1 fun h' tk keys hS hm kp=>Calls.spliced_nil ?_
 obtain ⟨o,ens,ep,t,h1,h2,h3,h4,h5,h6,h7,h8,h9,h10,h11⟩:=hS
 have hroom:=h4.room
 have hfit:t.fits ens.size=true:=by have z1:=h4.size; have z2:=h4.dm; simp [SetTable.fits,SetTable.fill,z1,z2,hroom]
 have W:ZiW X.w s1.heap.objs.size o ens ep t:=⟨h3,hfit,h4,h9,h10⟩
 have hcl:o.cls=.type "set":=h2.1
 have hns:ens.size<=64:=by
  have e1:keys.length=ens.size:=h5.length
  have e2:(Zda ks).length=keys.length:=WG (QB ks) h6 fun y=>by rw [mem_nubI,hm y]
  have e3:=VS ks
  omega
 obtain ⟨kk,kl,km,kt⟩:∃ kk:List (List Int),kk.length=ens.size/\kk.Perm keys/\∀ (i:Nat) (v:Value) (k:List Int),((WC X.w s1.heap.objs.size ep ens).toList.map (·.2))[i]?=some v->kk[i]?=some k->∃ b,v=Value.ref b/\TK X.prog X.w h' k b/\∃ (j:Nat) (dd:D),xs[j]?=some dd/\Rep X.K F1 H1 dd (.ref b):=by
  obtain ⟨kk,al2,pm2⟩:=Al.perm (VJ X.w s1.heap.objs.size ep ens) h5
  refine ⟨kk,by rw [al2.length]; simp [QA],pm2,fun i v k hv hk=>?_⟩
  obtain ⟨b,e1,e2⟩:=al2.get hk
  rw [List.getElem?_map,e1] at hv
  cases hv
  obtain ⟨b',e3,j,dd,_,e4,e5⟩:=h11 _ ((VJ X.w s1.heap.objs.size ep ens).mem_iff.mp (List.mem_of_getElem? e1))
  cases e3
  exact ⟨b,rfl,e2,j,dd,e4,e5⟩
 generalize hvs:(WC X.w s1.heap.objs.size ep ens).toList.map (·.2)=vals at kt
 have hvl:vals.length=ens.size:=by rw [<-hvs]; simp [QA]
 have kk2:∀ k∈kk,k.length=2:=fun k hk=>hl2 k ((hm k).mp (km.mem_iff.mp hk))
 have knd:kk.Nodup:=km.nodup_iff.mpr h6
 refine Calls.call_function_entry kind_sorted plain_sorted entry_sorted (args_sorted1 _) ?_
 unfold Builtin.«sorted»
 refine wpAny_bind (m:=checkCount "sorted" 1 1 _) (wpAny_pure ?_)
 refine wpAny_bind (ZaO (s:={ s1 with heap:=h',toks:=tk }) (A:=X.A.in1) (I1.ok.hd hc) W h1 hcl (by omega) fun h2' tk2 kp2=>?_)
 rw [hvs]
 refine wpAny_bind (wpAny_newList ?_ (by rw [sizeLine_eq]; omega))
 have hoL:(h2'.push (seqObj "list" vals.toArray 0)).get? h2'.objs.size=some (seqObj "list" vals.toArray 0):=Heap.get?_push_size _ rfl
 have sz:s1.heap.objs.size<=h2'.objs.size:=by
  have:=Heap.lt_size (kp2 _ _ h1)
  exact Nat.le_of_lt this
 have done:∀ (ys:List Value) (zs:List (List Int)) (h3:Heap) (c:Nat),(∀ b o,b≠h2'.objs.size->(h2'.push (seqObj "list" vals.toArray 0)).get? b=some o->h3.get? b=some o)->h3.get? h2'.objs.size=some (seqObj "list" ys.toArray c)->zs.length=ys.length ->
   zs=ZbR ks->(∀ (i:Nat) (v:Value) (k:List Int),ys[i]?=some v->zs[i]?=some k->∃ b,v=Value.ref b/\TK X.prog X.w h' k b/\∃ (j:Nat) (dd:D),xs[j]?=some dd/\Rep X.K F1 H1 dd (.ref b)) ->
   EP X pins σ Q (.ref h2'.objs.size) { s1 with heap:=h3,toks:=tk2 }:=by
  intro ys zs h3 c k3 ho3 hlz hz hyz
  have keyOf:∀ (k:List Int) (b:Addr) (j:Nat) (dd:D),TK X.prog X.w h' k b->xs[j]?=some dd->Rep X.K F1 H1 dd (.ref b)->dd=kD k:=fun k b j dd tk1 ej rj=>by
   have hj:j < xs.length:=(List.getElem?_eq_some_iff.mp ej).1
   have hj2:j < ks.length:=by rw [Jx ek]; exact hj
   have e1:=QC ek (List.getElem?_eq_getElem hj2)
   rw [ej] at e1
   cases e1
   obtain ⟨b',e2,o2,i2,n2,g1,g2,g3,g4⟩:=Zhn I1 rj (show L2.RelV (.ref b) (.ref b) from rfl)
   cases e2
   obtain ⟨o3,i3,n3,f1,f2,f3,f4⟩:=tk1
   rw [kp _ _ g1] at f1; cases f1
   rw [g3] at f3; cases f3
   show D.tup _=D.tup _
   rw [PySem.ItemsAre.inj f4 g4]
  obtain ⟨us,ru,rl⟩:∃ us,Vals us ys/\RepL X.K F1 H1 (zs.map kD) us:=by
   have go:∀ (ys:List Value) (zs:List (List Int)),zs.length=ys.length->(∀ (i:Nat) (v:Value) (k:List Int),ys[i]?=some v->zs[i]?=some k->∃ b,v=Value.ref b/\TK X.prog X.w h' k b/\∃ (j:Nat) (dd:D),xs[j]?=some dd/\Rep X.K F1 H1 dd (.ref b))->∃ us,Vals us ys/\RepL X.K F1 H1 (zs.map kD) us:=by
    intro ys
    induction ys with
    | nil=>
     intro zs hl _
     have e:zs=[]:=List.eq_nil_of_length_eq_zero (by simpa using hl)
     subst e; exact ⟨[],.nil,.nil⟩
    | cons y ys ih=>
     intro zs hl hh
     cases zs with
     | nil=>simp at hl
     | cons z zs=>
      obtain ⟨us,u1,u2⟩:=ih zs (by simpa using hl) fun i v k a b=>hh (i+1) v k (by simpa using a) (by simpa using b)
      obtain ⟨b,rfl,t1,j,dd,t2,t3⟩:=hh 0 y z rfl rfl
      have e:=keyOf z b j dd t1 t2 t3
      subst e
      exact ⟨.ref b::us,.cons rfl u1,.cons t3 u2⟩
   exact go ys zs hlz hyz
  have hf:H1 h2'.objs.size=none:=I1.hok.fresh sz
  have hul:us.length<=sizeLine:=by
   rw [ru.length,<-hlz,hz]
   have e2:(ZbR ks).length=(Zda ks).length:=WG ((Qw hl2).imp fun {a b} h e=>by subst e; rw [Jw] at h; cases h) (QB ks) fun y=>by rw [srtK_mem,mem_nubI]
   have e3:=VS ks
   rw [e2,sizeLine_eq]; omega
  rw [hz] at rl
  refine ⟨.ref h2'.objs.size,upd H1 h2'.objs.size (.lst us),I1.laid (t':=tk2) (fun b o e=>k3 b o (fun z=>?_) (Heap.get?_push_of_some _ (kp2 _ _ (kp _ _ e)))) sz ?_,rfl,q _ _ _ (g1.trans (.laid hf)) (ZX hf rl)⟩
  ·have:=Heap.lt_size e
   rw [z] at this
   exact absurd (Nat.lt_of_lt_of_le this sz) (Nat.lt_irrefl _)
  ·exact ⟨hul,ys,c,ru,ho3⟩
 refine wpAny_bind (wpAny_holding (wpAny_call_entry slot_list_sort ⟨_,hoL,rfl⟩ entry_list_sort ?_ (args_list_sort _)))
 by_cases h2n:vals.length < 2
 ·refine Zh6 (s:={ s1 with heap:=h2'.push (seqObj "list" vals.toArray 0),toks:=tk2 }) hoL h2n fun h3 c k3 ho3=>⟨_,rfl,?_⟩
  refine wpAny_pure ⟨_,rfl,done vals kk h3 c k3 ho3 (by omega) ?_ kt⟩
  refine Zbe ?_ (Qw hl2) fun x=>by rw [srtK_mem,km.mem_iff,hm x]
  match kk,kl with
  | [],_=>exact List.Pairwise.nil
  | [a],_=>exact List.pairwise_singleton ..
  | a::b::r,kl=>simp at kl; omega
 ·have hkv:∀ i,i < vals.length->kk[i]?=some (kk.getD i [])/\kk.getD i []∈kk:=fun i hi=>by
   have hi':i < kk.length:=by omega
   have e:kk[i]?=some (kk.getD i []):=by simp [hi']
   exact ⟨e,List.mem_of_getElem? e⟩
  have inj:∀ i j,i < vals.length->j < vals.length->kk.getD i []=kk.getD j []->i=j:=fun i j hi hj e=>by
   have a:=(hkv i hi).1; have b:=(hkv j hj).1
   rw [e,<-b] at a
   exact (List.getElem?_inj (by omega) knd).mp a
  have hord:So.Ord vals.length fun i j=>HT.lexLt (kk.getD i []) (kk.getD j []):=
   ⟨fun i _=>Jw _,fun i j k _ _ _ h1 h2=>lex_tr _ _ _ h1 h2,fun i j hi hj hne=>ZaG _ _ (by rw [kk2 _ (hkv i hi).2,kk2 _ (hkv j hj).2]) fun e=>hne (inj i j hi hj e)⟩
  refine Zjq (s:={ s1 with heap:=h2'.push (seqObj "list" vals.toArray 0),toks:=tk2 }) (ks:=kk) (m:=1) hoL (by omega) (by omega) (by omega) hord kk2 (fun i v k hv hk=>?_) fun p pm st h3 c k3 ho3=>⟨_,rfl,?_⟩
  ·obtain ⟨b,e1,⟨ob,items,nn,g1,g2⟩,_⟩:=kt i v k hv hk
   exact ⟨b,e1,ob,items,nn,Heap.get?_push_of_some _ (kp2 _ _ g1),g2⟩
  ·refine wpAny_pure ⟨_,rfl,done _ (p.toList.map fun i=>kk.getD i []) h3 c k3 ho3 (by simp) ?_ fun i v k hv hk=>?_⟩
   ·refine Zbe ?_ (Qw hl2) fun x=>?_
    ·unfold Zfn
     rw [List.pairwise_map,List.pairwise_iff_getElem]
     intro i j hi hj hij
     have hs:=pm.size
     have hi':i < vals.length:=by simpa [hs] using hi
     have hj':j < vals.length:=by simpa [hs] using hj
     have:=st i j hij hj'
     simpa [hs,hi',hj'] using this
    ·rw [srtK_mem,<-hm x,<-km.mem_iff,List.mem_map]
     constructor
     ·rintro ⟨i,hi,rfl⟩
      have:=List.mem_range.mp (pm.perm.mem_iff.mp hi)
      exact (hkv i this).2
     ·intro hx
      obtain ⟨i,hi,e⟩:=List.getElem_of_mem hx
      exact ⟨i,pm.perm.mem_iff.mpr (List.mem_range.mpr (by omega)),by simp [hi,e]⟩
   ·rw [List.getElem?_map] at hv hk
    cases e:p.toList[i]? with
    | none=>rw [e] at hv; cases hv
    | some m=>
     rw [e] at hv hk
     cases hv; cases hk
     have hm':m < vals.length:=List.mem_range.mp (pm.perm.mem_iff.mp (List.mem_of_getElem? e))
     refine kt m _ _ ?_ (hkv m hm').1
     simp [hm']
end
end L3
namespace L3
open PySem PySem.Spec PyProof.Rows L2
noncomputable def Zcb:D->Option D:=fun d=>match d with | .lst xs=>some (.lst xs.reverse) | _=>none
section
variable {X:Cx}
theorem Zei {us:List V} {vs:List Value} (h:Vals us vs):Vals us.reverse vs.reverse:=by
 induction h with
 | nil=>exact .nil
 | cons a _ ih=>simp only [List.reverse_cons]; exact ih.append (.cons a .nil)
theorem Zbg {K:PySem.W.Frag} {F:Fz} {H:Hp}:∀ {ds:List D} {vs:List V},RepL K F H ds vs->RepL K F H ds.reverse vs.reverse
 | [],vs,h=>by rw [h.unnil]; exact .nil
 | d::ds,vs,h=>by
  obtain ⟨y,ys,rfl,h1,h2⟩:=h.uncons
  simp only [List.reverse_cons]
  exact (Zbg h2).append (.cons h1 .nil)
theorem ZgT {e:Expr} {f:DE} {p1 p2 p3 p4:Pos} (hc:X.calm=true) (hgl:Gl X "list") (hml:X.mg "list"=none) (hgs:Gl X "reversed") (hms:X.mg "reversed"=none) (he:ED X e f)
  (hst:starEach [e] X.env=[(false,eval e X.env)]:=by rfl) (hst2:starEach [Expr.Call (.Name "reversed" p2) [e] [] p3] X.env=[(false,eval (.Call (.Name "reversed" p2) [e] [] p3) X.env)]:=by rfl) :
  ED X (.Call (.Name "list" p1) [.Call (.Name "reversed" p2) [e] [] p3] [] p4) (QG Zcb f):=by
 intro pins s σ H Q I h
 obtain ⟨ρ,F0,H0,F,d,ok,ed,q⟩:=h
 obtain ⟨x,ex,ed⟩:=bind_some ed
 cases x with
 | lst xs=>
  cases ed
  refine wpAny_Call_Name_kw (JH I hgl hml PyProof.Rows.boot_list (PyProof.Rows.callWith_type1 ?_ (by rw [hst2]; rfl) (by rfl)) (by decide) (by decide))
  rw [hst2]
  show wpAny _ _ (spliced ((false,eval (.Call (.Name "reversed" p2) [e] [] p3) X.env)::[])) _ _ s
  refine Calls.spliced_cons (wpAny_Call_Name_kw (JH I hgs hms Zfj (PyProof.Rows.callWith_type1 ?_ (by rw [hst]; rfl) (by rfl)) (by decide) (by decide)))
  rw [hst]
  show wpAny _ _ (spliced ((false,eval e X.env)::[])) _ _ s
  refine Calls.spliced_cons (thn (he pins s σ H (fun v H'=>∃ F',Grow F H F' H'/\Rep X.K F' H' (.lst xs) v) I ⟨ρ,F0,H0,F,_,ok,ex,fun v F' H' g r=>⟨F',g,r⟩⟩) fun u s1 ⟨v,H1,I1,r1,F1,g1,rx⟩=>Calls.spliced_nil ?_)
  unfold Rep at rx
  obtain ⟨a,vs,rfl,hf,hq,hr⟩:=rx
  cases r1
  obtain ⟨its,rv,p,hz⟩:=I1.list hq
  have hl:=p.isList
  have hlt:a < s1.heap.objs.size:=by obtain ⟨_,e,_⟩:=hl; exact Heap.lt_size e
  refine call_reversed_list hl (Calls.spliced_nil ?_)
  have hz1:(s1.heap.push (revObj a ((its.toArray.size:Int)-1))).objs.size=s1.heap.objs.size+1:=Heap.size_push ..
  refine Wa (s:={ s1 with heap:=s1.heap.push (revObj a ((its.toArray.size:Int)-1)) }) (items:=its.toArray) (I1.ok.hd hc) ⟨_,Heap.get?_push_size _ rfl,rfl,rfl⟩ (hl.push _) (Nat.ne_of_lt hlt) (by simpa [<-rv.length] using hz) fun h' tk c kp hS'=>?_
  have hD:(s1.heap.push (revObj a ((its.toArray.size:Int)-1))).objs.size=s1.heap.objs.size+1:=hz1
  have hf1:H1 (s1.heap.push (revObj a ((its.toArray.size:Int)-1))).objs.size=none:=I1.hok.fresh (by rw [hD]; exact Nat.le_succ _)
  refine ⟨.ref _,upd H1 (s1.heap.push (revObj a ((its.toArray.size:Int)-1))).objs.size (.lst vs.reverse),I1.laid (t':=tk) (fun b o e=>kp b o (Nat.ne_of_lt (Heap.lt_size e)) (Heap.get?_push_of_some _ e)) (by rw [hD]; exact Nat.le_succ _) ?_,rfl,q _ _ _ (g1.trans (.laid hf1)) (ZX hf1 (Zbg hr))⟩
  exact ⟨by simpa using hz,its.reverse,c,Zei rv,by simpa using hS'⟩
 | _=>cases ed
end
section
variable {X:Cx}
end
noncomputable def Ziz:DS:=fun _=>none
theorem Zeq {X:Cx} {e c:Option Expr} {pos:Pos}:SD X (.Raise e c pos) Ziz:=fun pins s σ H D I h=>by
 obtain ⟨ρ,F0,H0,F,o,ok,e,k⟩:=h
 cases e
end L3
set_option maxHeartbeats 8000000
namespace Pl
open PySem PySem.Spec PyProof.Rows L2 L3
noncomputable def ZfP:DS:=(Yr (Zg J8 (Zg Yj (Zg J8 (Zg dIx (Zd 1) (Zl (.int 0))) (Zg dIx (Zd 0) (Zl (.int 0)))) (Zg J8 (Zg dIx (Zd 2) (Zl (.int 1))) (Zg dIx (Zd 0) (Zl (.int 1))))) (Zg Yj (Zg J8 (Zg dIx (Zd 1) (Zl (.int 1))) (Zg dIx (Zd 0) (Zl (.int 1)))) (Zg J8 (Zg dIx (Zd 2) (Zl (.int 0))) (Zg dIx (Zd 0) (Zl (.int 0)))))))
noncomputable def Jf:List D->Option D:=ZA 3 ZfP
noncomputable def JL:DS:=(Yr (Zg dGt (dFn 3 Jf (Zb (Zd 0) (Zb (Zd 1) (Zb (Zd 2) Zq)))) (Zl (.int 0))))
noncomputable def Yd:List D->Option D:=ZA 3 JL
noncomputable def Vl:DS:=(Yr (Qt [none,some 0] (Zim (ZV UJ (Zb (Zd 0) Zq))) (ZW 0) ZS (U6 (Zb (Zg dIx (Zd 1) (Zg J8 (Zd 0) (Zl (.int 1)))) (Zb (Zg dIx (Zd 1) (Zd 0)) Zq)))))
noncomputable def ZT:List D->Option D:=ZA 1 Vl
noncomputable def YT:DS:=(Zm (V5 (ZR (Zg dLt (Zd 1) (ZV UJ (Zb (Zd 0) Zq)))) (Yr (Zg dIx (Zd 0) (Zd 1))) Qe)
 (Yr (Zl (.int 0))))
noncomputable def ZU:List D->Option D:=ZA 2 YT
noncomputable def JO:DS:=(Zm (Z2 2 (Zg Jn (Zg Yj (Zg Yh (Zg Yh (dFn 2 ZU (Zb (Zd 0) (Zb (Zd 1) Zq))) (Zg Yj (Zl (.int 7919)) (Zd 1))) (Zl (.int 1))) (Zl (.int 48271))) (Zl (.int 2147483647))))
 (Yr (Zg Jn (Zg Yh (Zg Yh (Zg Yj (Zd 2) (Zd 2)) (Zg Yj (Zl (.int 7)) (Zd 2))) (Zd 1)) (Zl (.int 2147483629)))))
noncomputable def Zj:List D->Option D:=ZA 3 JO
noncomputable def JP:DS:=(Zm (Z2 2 (Zg Jn (Zg Yj (Zg Yh (Zg Yh (Zd 0) (Zg Yj (Zl (.int 104729)) (Zd 1))) (Zl (.int 17))) (Zl (.int 69621))) (Zl (.int 2147483647))))
 (Yr (Zg Jn (Zg Yh (Zg Yh (Zg Yj (Zd 2) (Zd 2)) (Zg Yj (Zl (.int 3)) (Zd 2))) (Zd 1)) (Zl (.int 2147483629)))))
noncomputable def ZO:List D->Option D:=ZA 3 JP
noncomputable def ZaI:DS:=(Yr (Zg J8 (Zg Yj (Zg J8 (Zg dIx (Zd 1) (Zl (.int 0))) (Zg dIx (Zd 0) (Zl (.int 0)))) (Zg J8 (Zg dIx (Zd 2) (Zl (.int 1))) (Zg dIx (Zd 0) (Zl (.int 1))))) (Zg Yj (Zg J8 (Zg dIx (Zd 1) (Zl (.int 1))) (Zg dIx (Zd 0) (Zl (.int 1)))) (Zg J8 (Zg dIx (Zd 2) (Zl (.int 0))) (Zg dIx (Zd 0) (Zl (.int 0)))))))
noncomputable def YF:List D->Option D:=ZA 3 ZaI
noncomputable def UD:DS:=(Yr (Zg dIx (Zd 0) (Zg Jn (Zg Yh (Zd 1) (Zd 2)) (ZV UJ (Zb (Zd 0) Zq)))))
noncomputable def Ya:List D->Option D:=ZA 3 UD
noncomputable def UE:DS:=(Zm (Z2 1 (Zl (.int 0)))
 (Zm (Zco (WO (Zd 0)) (Zd0 2 3) (Zm (Z2 4 (dFn 3 Ya (Zb (Zd 0) (Zb (Zd 2) (Zb (Zl (.int 1)) Zq)))))
 (Z2 1 (Zg J8 (Zg Yh (Zd 1) (Zg Yj (Zg dIx (Zd 3) (Zl (.int 0))) (Zg dIx (Zd 4) (Zl (.int 1))))) (Zg Yj (Zg dIx (Zd 3) (Zl (.int 1))) (Zg dIx (Zd 4) (Zl (.int 0))))))))
 (Yr (Zd 1))))
noncomputable def Yb:List D->Option D:=ZA 5 UE
noncomputable def Qq:DS:=(Zm (Z2 1 (ZV UI (Zb (Zd 0) Zq)))
 (Zm (V5 (ZR (Zg dLt (dFn 1 Yb (Zb (Zd 1) Zq)) (Zl (.int 0)))) (Z2 1 (ZfU (Zd 1))) Qe)
 (Zm (Z2 2 (Zg W5 (Zd 1) (ZV W4 (Zb (Zd 1) Zq))))
 (Yr (ZV QF (Zb (Zg Yh (dSl (Zd 1) (Yv (Zd 2)) Yw) (dSl (Zd 1) Yw (Yv (Zd 2)))) Zq))))))
noncomputable def Z0:List D->Option D:=ZA 3 Qq
noncomputable def JM:DS:=(Yr (Qt [none,some 1,some 0] (Zim (Zd 2)) (ZW 0) ZS (U6 (Zb (Zg Jn (dFn 2 ZO (Zb (Zd 2) (Zb (Zg Yj (Zl (.int 2)) (Zd 0)) Zq))) (Zd 1)) (Zb (Zg Jn (dFn 2 ZO (Zb (Zd 2) (Zb (Zg Yh (Zg Yj (Zl (.int 2)) (Zd 0)) (Zl (.int 1))) Zq))) (Zd 1)) Zq)))))
noncomputable def Ye:List D->Option D:=ZA 3 JM
noncomputable def JK:DS:=(Yr (ZV ZfT (Zb (Qt [none] (Yq (dFn 1 ZT (Zb (Zd 0) Zq))) (ZW 0) ZS (dFn 3 Jf (Zb (Zl (.tup [(.int 0),(.int 0)])) (Zb (Zg dIx (Zd 0) (Zl (.int 0))) (Zb (Zg dIx (Zd 0) (Zl (.int 1))) Zq))))) Zq)))
noncomputable def Zs:List D->Option D:=ZA 1 JK
noncomputable def Z6:DS:=(Zm (ZJ (ZR (Zg UZ (Zd 1) (Zl (.int 0)))) (Zm (Z2 2 (Zg Jn (Zd 0) (Zd 1)))
 (Zm (Z2 0 (Zd 1))
 (Z2 1 (Zd 2)))) 3000)
 (Yr (Zd 0)))
noncomputable def Zr:List D->Option D:=ZA 3 Z6
noncomputable def QJ:DS:=(Zm (Z2 1 (ZV Zg1 (Zb (Zg J8 (Zg dIx (Zg dIx (Zd 0) (Zl (.int 1))) (Zl (.int 0))) (Zg dIx (Zg dIx (Zd 0) (Zl (.int 0))) (Zl (.int 0)))) Zq)))
 (Zm (Z2 2 (ZV Zg1 (Zb (Zg J8 (Zg dIx (Zg dIx (Zd 0) (Zl (.int 1))) (Zl (.int 1))) (Zg dIx (Zg dIx (Zd 0) (Zl (.int 0))) (Zl (.int 1)))) Zq)))
 (Yr (dFn 2 Zr (Zb (Zd 1) (Zb (Zd 2) Zq))))))
noncomputable def ZD:List D->Option D:=ZA 3 QJ
noncomputable def QK:DS:=(Yr (ZV ZfT (Zb (Qt [none] (Yq (dFn 1 ZT (Zb (Zd 0) Zq))) (ZW 0) ZS (dFn 1 ZD (Zb (Zd 0) Zq))) Zq)))
noncomputable def Zp:List D->Option D:=ZA 1 QK
noncomputable def Jd:DS:=(Zm (Z2 1 (Zg W5 (Zd 0) (ZV W4 (Zb (Zd 0) Zq))))
 (Yr (ZV QF (Zb (Zg Yh (dSl (Zd 0) (Yv (Zd 1)) Yw) (dSl (Zd 0) Yw (Yv (Zd 1)))) Zq))))
noncomputable def ZQ:List D->Option D:=ZA 2 Jd
noncomputable def Zdv:DS:=(Yr (dFn 1 ZQ (Zb (Qt [none,some 1] (Yq (Zd 0)) (ZW 0) ZS (U6 (Zb (Zg Yh (Zg dIx (Zd 0) (Zl (.int 0))) (Zg dIx (Zd 1) (Zl (.int 0)))) (Zb (Zg Yh (Zg dIx (Zd 0) (Zl (.int 1))) (Zg dIx (Zd 1) (Zl (.int 1)))) Zq)))) Zq)))
noncomputable def ZZ:List D->Option D:=ZA 2 Zdv
noncomputable def YK:DS:=(Zm (YV 1 Zq)
 (Zm (Zco (Yq (Zd 0)) (ZW 2) (Zm (ZJ (Q4 1 (ZbQ (ZR (Zg dGt (ZV UJ (Zb (Zd 1) Zq)) (Zl (.int 1)))) (Zek (ZR (dFn 3 Yd (Zb (Zg dIx (Zd 1) (QG UY (Zl (.int 2)))) (Zb (Zg dIx (Zd 1) (QG UY (Zl (.int 1)))) (Zb (Zd 2) Zq)))))))) (UX 1) 3000)
 (Zbz 1 (Zd 2))))
 (Zhe 1 (Yr (Zd 1)))))
noncomputable def Zn:List D->Option D:=ZA 3 YK
noncomputable def Zbu:DS:=(Zm (Z2 1 (QG YL (Zd 0)))
 (Zm (Z2 2 (dFn 1 Zn (Zb (Zd 1) Zq)))
 (Zm (Z2 3 (dFn 1 Zn (Zb (QG Zcb (Zd 1)) Zq)))
 (Zm (Z2 4 (Zg Yh (dSl (Zd 2) Yw (Yv (QG UY (Zl (.int 1))))) (dSl (Zd 3) Yw (Yv (QG UY (Zl (.int 1)))))))
 (Zm (V5 (ZR (Zg dLt (ZV UJ (Zb (Zd 4) Zq)) (Zl (.int 3)))) Ziz Qe)
 (Yr (ZV QF (Zb (Zd 4) Zq))))))))
noncomputable def QE:List D->Option D:=ZA 5 Zbu
noncomputable def WV:DS:=(Zm (Z2 1 (QG YL (Zd 0)))
 (Zm (Z2 2 (dFn 1 Zn (Zb (Zd 1) Zq)))
 (Zm (Z2 3 (dFn 1 Zn (Zb (QG Zcb (Zd 1)) Zq)))
 (Zm (Z2 4 (Zg Yh (dSl (Zd 2) Yw (Yv (QG UY (Zl (.int 1))))) (dSl (Zd 3) Yw (Yv (QG UY (Zl (.int 1)))))))
 (Zm (V5 (ZR (Zg dLt (ZV UJ (Zb (Zd 4) Zq)) (Zl (.int 3)))) (Yr (Zl (.bl true))) Qe)
 (Yr (Zl (.bl false))))))))
noncomputable def W0:List D->Option D:=ZA 5 WV
@[simp] theorem ZdN (i:Nat) (ρ:Rho):Zd i ρ=(match ρ[i]? with | some (.val d)=>some d | _=>none):=rfl
@[simp] theorem ZiA (d:D) (ρ:Rho):Zl d ρ=some d:=rfl
@[simp] theorem Vq (r:D->D->Option D) (f g:DE) (ρ:Rho):Zg r f g ρ=(f ρ).bind fun x=>(g ρ).bind fun y=>r x y:=by unfold Zg; rfl
@[simp] theorem ZfV (r:D->Option D) (f:DE) (ρ:Rho):QG r f ρ=(f ρ).bind r:=rfl
@[simp] theorem ZgX (f:DE) (ρ:Rho):ZR f ρ=(f ρ).bind fun d=>match d with | .bl b=>some b | _=>none:=rfl
@[simp] theorem Vy (f g:DT) (ρ:Rho):ZbQ f g ρ=(f ρ).bind fun x=>match x with | true=>g ρ | false=>some false:=rfl
@[simp] theorem ZjJ (f g:DT) (ρ:Rho):ZiQ f g ρ=(f ρ).bind fun x=>match x with | true=>some true | false=>g ρ:=rfl
@[simp] theorem Zi1 (f:DT) (ρ:Rho):Zek f ρ=(f ρ).bind fun x=>some (!x):=rfl
@[simp] theorem ZiP (ρ:Rho):ZS ρ=some true:=rfl
@[simp] theorem ZjW (ρ:Rho):Zq ρ=some []:=rfl
@[simp] theorem Qb (f:DE) (a:DA) (ρ:Rho):Zb f a ρ=(f ρ).bind fun x=>(a ρ).bind fun xs=>some (x::xs):=rfl
@[simp] theorem ZjU (as:DA) (ρ:Rho):U6 as ρ=(as ρ).bind fun xs=>if xs.length<=lim then some (.tup xs) else none:=by unfold U6; rfl
@[simp] theorem ZjX (as:DA) (ρ:Rho):Ziy as ρ=(as ρ).bind fun xs=>if xs.length<=lim then some (.lst xs) else none:=by unfold Ziy; rfl
@[simp] theorem UK (r:List D->Option D) (as:DA) (ρ:Rho):ZV r as ρ=(as ρ).bind r:=by unfold ZV; rfl
@[simp] theorem ZdO (n:Nat) (fn:List D->Option D) (as:DA) (ρ:Rho):dFn n fn as ρ=(as ρ).bind fun xs=>if xs.length=n then fn xs else none:=by unfold dFn; rfl
@[simp] theorem ZjB (ρ:Rho):Qe ρ=some (.nx ρ):=rfl
@[simp] theorem Zv (g g':DS) (ρ:Rho):Zm g g' ρ=(match g ρ with | some (.nx ρ1)=>g' ρ1 | r=>r):=by unfold Zm; rfl
@[simp] theorem Vp (f:DE) (ρ:Rho):Yr f ρ=(f ρ).map .rt:=by unfold Yr; rfl
@[simp] theorem ZfW (t:DT) (g g':DS) (ρ:Rho):V5 t g g' ρ=(t ρ).bind fun b=>match b with | true=>g ρ | false=>g' ρ:=by unfold V5; rfl
@[simp] theorem Zby (i:Nat) (f:DE) (ρ:Rho):Z2 i f ρ=(f ρ).map fun d=>.nx (ρ.set i (.val d)):=by unfold Z2; rfl
@[simp] theorem W6 (it:DI) (b:DG) (g:DS) (ρ:Rho):Zco it b g ρ=(it ρ).bind fun xs=>UW b g xs ρ:=by unfold Zco; rfl
@[simp] theorem ZjQ (f:DE) (ρ:Rho):Zim f ρ=(f ρ).bind fun d=>match d with | .int j=>if ZbV j then some (Wj 0 j.toNat) else none | _=>none:=by unfold Zim; rfl
@[simp] theorem ZaN (caps:List (Option Nat)) (it:DI) (b:DG) (t:DT) (f:DE) (ρ:Rho):Qt caps it b t f ρ=(it ρ).bind fun xs=>if xs.length<=lim then (Y1 b t f xs (Jj caps ρ)).map .lst else none:=by unfold Qt; rfl
@[simp] theorem ZgY (f:DE) (l h:DO) (ρ:Rho):dSl f l h ρ=(f ρ).bind fun x=>(l ρ).bind fun lo=>(h ρ).bind fun hi=>ZgZ lo hi x:=rfl
@[simp] theorem ZaD (ρ:Rho):Yw ρ=some none:=rfl
@[simp] theorem ZaC (f:DE) (ρ:Rho):Yv f ρ=(f ρ).bind fun d=>match d with | .int i=>some (some i) | _=>none:=rfl
@[simp] theorem ZjV (f:DE) (ρ:Rho):ZfU f ρ=(f ρ).bind fun x=>match x with | .lst xs=>some (.lst xs.reverse) | .tup xs=>some (.tup xs.reverse) | _=>none:=rfl
@[simp] theorem UP (i:Nat) (d:D) (ρ:Rho):ZW i d ρ=some (ρ.set i (.val d)):=rfl
@[simp] theorem Zg5 (i j:Nat) (a b:D) (ρ:Rho):Zd0 i j (.tup [a,b]) ρ=some ((ρ.set i (.val a)).set j (.val b)):=rfl
@[simp] theorem Zkd (i j:Int):J8 (.int i) (.int j)=some (.int (i-j)):=rfl
@[simp] theorem ZkB (i j:Int):Yh (.int i) (.int j)=some (.int (i+j)):=rfl
@[simp] theorem Zjo (i:Int):UY (.int i)=some (.int (-i)):=rfl
@[simp] theorem ZkP (i j:Int):dLt (.int i) (.int j)=some (.bl (decide (i < j))):=rfl
@[simp] theorem ZkV (i j:Int):dLe (.int i) (.int j)=some (.bl (decide (i<=j))):=rfl
@[simp] theorem ZkW (i j:Int):dGt (.int i) (.int j)=some (.bl (decide (j < i))):=rfl
@[simp] theorem ZkX (i j:Int):dGe (.int i) (.int j)=some (.bl (decide (j<=i))):=rfl
theorem Ju {i j:Int} (h:(-18446744073709551616 < i/\i < 18446744073709551616)\/(-18446744073709551616 < j/\j < 18446744073709551616)):Yj (.int i) (.int j)=some (.int (i*j)):=by
 have:Zhf i j=true:=by
  unfold Zhf
  rcases h with ⟨a,b⟩ | ⟨a,b⟩
  ·rw [Bool.or_eq_true_iff]; left; simp; omega
  ·rw [Bool.or_eq_true_iff]; right; simp; omega
 show (if Zhf i j=true then _ else _)=_
 rw [if_pos this]
theorem J7 {i j:Int} (h:0 < j):Jn (.int i) (.int j)=some (.int (i % j)):=by
 show (if decide (0 < j)=true then _ else _)=_
 rw [if_pos (by simpa using h)]
@[simp] theorem Zku (a b:D):dIx (.tup [a,b]) (.int 0)=some a:=rfl
@[simp] theorem Zkt (a b:D):dIx (.tup [a,b]) (.int 1)=some b:=rfl
@[simp] theorem ZjN (xs:List D):UJ [.lst xs]=some (.int xs.length):=rfl
@[simp] theorem ZjM (xs:List D):UJ [.tup xs]=some (.int xs.length):=rfl
@[simp] theorem Zh2 (i j:Int):UZ (.int i) (.int j)=some (.bl (!decide (i=j))):=by
 show (if (okD (.int i)&&okD (.int j))=true then _ else _)=_
 rw [if_pos (by rfl)]
 congr 3
@[simp] theorem Zkp (i j:Bool):UZ (.bl i) (.bl j)=some (.bl (i != j)):=by
 cases i <;> cases j <;> rfl
noncomputable abbrev Pt:=Int×Int
noncomputable def pD (p:Pt):D:=.tup [.int p.1,.int p.2]
noncomputable def Sm (p:Pt):Prop:=(-1000000<=p.1/\p.1<=1000000)/\(-1000000<=p.2/\p.2<=1000000)
noncomputable def Z8 (a b c:Pt):Int:=(b.1-a.1)*(c.2-a.2)-(b.2-a.2)*(c.1-a.1)
theorem VZ {a b c:Pt} (ha:Sm a) (hb:Sm b) (hc:Sm c):Jf [pD a,pD b,pD c]=some (.int (Z8 a b c)):=by
 obtain ⟨⟨a1,a2⟩,a3,a4⟩:=ha
 obtain ⟨⟨b1,b2⟩,b3,b4⟩:=hb
 obtain ⟨⟨c1,c2⟩,c3,c4⟩:=hc
 have m1:=Ju (i:=b.1-a.1) (j:=c.2-a.2) (.inl (by omega))
 have m2:=Ju (i:=b.2-a.2) (j:=c.1-a.1) (.inl (by omega))
 simp [Jf,ZA,ZfP,pD,Z8,m1,m2]
theorem V1 {a b c:Pt} (ha:Sm a) (hb:Sm b) (hc:Sm c):YF [pD a,pD b,pD c]=some (.int (Z8 a b c)):=VZ ha hb hc
@[simp] theorem ZkO (p:Pt):dIx (pD p) (.int 0)=some (.int p.1):=rfl
@[simp] theorem ZkN (p:Pt):dIx (pD p) (.int 1)=some (.int p.2):=rfl
noncomputable def sD (s:Pt×Pt):D:=.tup [pD s.1,pD s.2]
@[simp] theorem ZkM (s:Pt×Pt):dIx (sD s) (.int 0)=some (pD s.1):=rfl
@[simp] theorem ZkL (s:Pt×Pt):dIx (sD s) (.int 1)=some (pD s.2):=rfl
theorem Yt {n:Nat} (h:n<=1000):n<=lim:=by unfold lim; omega
@[simp] theorem ZkU:(0<=lim)=True:=by simp
@[simp] theorem ZkT:(1<=lim)=True:=by rw [eq_true (Yt (by omega))]
@[simp] theorem ZkS:(2<=lim)=True:=by rw [eq_true (Yt (by omega))]
@[simp] theorem Zkr:(0+1+1<=lim)=True:=by rw [eq_true (Yt (by omega))]
@[simp] theorem ZkR:(3<=lim)=True:=by rw [eq_true (Yt (by omega))]
@[simp] theorem Zkq:(0+1+1+1<=lim)=True:=by rw [eq_true (Yt (by omega))]
@[simp] theorem ZkQ:(4<=lim)=True:=by rw [eq_true (Yt (by omega))]
theorem Vr {t:DT} {f:DE} {rest:Rho} {p:D->Bool} {g:D->D}:∀ {xs:List D} {s0:Sl},(∀ x∈xs,t (.val x::rest)=some (p x))->(∀ x∈xs,p x=true->f (.val x::rest)=some (g x)) ->
  Y1 (ZW 0) t f xs (s0::rest)=some ((xs.filter p).map g)
 | [],s0,_,_=>rfl
 | x::xs,s0,ht,hf=>by
  have ih:=Vr (xs:=xs) (s0:=.val x) (t:=t) (f:=f) (rest:=rest) (p:=p) (g:=g) (fun y hy=>ht y (List.mem_cons_of_mem _ hy)) (fun y hy=>hf y (List.mem_cons_of_mem _ hy))
  have h1:=ht x List.mem_cons_self
  have h2:=hf x List.mem_cons_self
  simp only [Y1,UP,List.set_cons_zero,Option.bind_some,h1]
  cases hp:p x with
  | true=>simp [h2 hp,ih,hp]
  | false=>simp [ih,hp]
theorem UO {f:DE} {rest:Rho} {g:D->D} {xs:List D} {s0:Sl} (hf:∀ x∈xs,f (.val x::rest)=some (g x)):Y1 (ZW 0) ZS f xs (s0::rest)=some (xs.map g):=by
 have:=Vr (t:=ZS) (f:=f) (rest:=rest) (p:=fun _=>true) (g:=g) (xs:=xs) (s0:=s0) (fun _ _=>rfl) (fun x hx _=>hf x hx)
 rw [List.filter_eq_self.mpr (fun _ _=>rfl)] at this
 exact this
noncomputable def cyc (ps:List Pt) (i:Int):Pt:=ps[(i % (ps.length:Int)).toNat]?.getD (0,0)
theorem ZgL {n:Nat} {i:Int} (h1:-(n:Int)<=i) (h2:i < n):ixN n i=some (i % (n:Int)).toNat:=by
 unfold ixN
 by_cases h:0<=i
 ·rw [if_pos h,if_pos h2,Int.emod_eq_of_lt h h2]
 ·rw [if_neg h,if_pos h1]
  have:i % (n:Int)=i+n:=by
   rw [<-Int.add_emod_right]
   exact Int.emod_eq_of_lt (by omega) (by omega)
  rw [this]
theorem ZaW {ps:List Pt} {i:Int} (h1:-(ps.length:Int)<=i) (h2:i < ps.length):atI (ps.map pD) i=some (pD (cyc ps i)):=by
 have hn:0 < (ps.length:Int):=by omega
 have k1:=Int.emod_nonneg i (show (ps.length:Int)≠0 by omega)
 have k2:=Int.emod_lt_of_pos i hn
 unfold atI cyc
 rw [List.length_map,ZgL h1 h2]
 have hl:(i % (ps.length:Int)).toNat < ps.length:=by omega
 simp [hl]
theorem Zdn {ps:List Pt} {i:Int} (h1:-(ps.length:Int)<=i) (h2:i < ps.length):dIx (.tup (ps.map pD)) (.int i)=some (pD (cyc ps i)):=ZaW h1 h2
theorem VW {ps:List Pt} {i:Int} (h1:-(ps.length:Int)<=i) (h2:i < ps.length):dIx (.lst (ps.map pD)) (.int i)=some (pD (cyc ps i)):=ZaW h1 h2
theorem UL (ps:List Pt) (i:Int):cyc ps (i % ps.length)=cyc ps i:=by unfold cyc; rw [Int.emod_emod]
theorem Yc (ps:List Pt) (i:Int):cyc ps (i+ps.length)=cyc ps i:=by unfold cyc; rw [Int.add_emod_right]
theorem Yi {ps:List Pt} (h:ps≠[]) (i:Int):cyc ps i∈ps:=by
 have hn:0 < (ps.length:Int):=by have:=List.length_pos_iff.mpr h; omega
 have k1:=Int.emod_nonneg i (show (ps.length:Int)≠0 by omega)
 have k2:=Int.emod_lt_of_pos i hn
 unfold cyc
 have hl:(i % (ps.length:Int)).toNat < ps.length:=by omega
 simp [hl]
theorem ZL {ps:List Pt} {k:Nat} (h:k < ps.length):cyc ps k=ps[k]:=by
 unfold cyc
 rw [Int.emod_eq_of_lt (by omega) (by omega)]
 simp [h]
theorem Us {n:Int} (h1:-1000000<=n) (h2:n<=1000000):ZbV n=true:=by
 unfold ZbV
 simp
 omega
noncomputable def All (P:Pt->Prop) (ps:List Pt):Prop:=∀ p∈ps,P p
noncomputable def YC (ps:List Pt) (k:Int):Pt×Pt:=(cyc ps k,cyc ps (k+1))
noncomputable def Zw (ps:List Pt):List (Pt×Pt):=(List.range ps.length).map fun (k:Nat)=>YC ps ((k:Int)-1)
theorem Zbm (lo:Int) (n:Nat):(Wj lo n).length=n:=by simp [Wj]
theorem Zem {ps : List Pt} : Y1 (ZW 0) ZS (U6 (Zb (Zg dIx (Zd 1) (Zg J8 (Zd 0) (Zl (.int 1)))) (Zb (Zg dIx (Zd 1) (Zd 0)) Zq))) (Wj 0 ps.length) (.no :: [.val (.tup (ps.map pD))]) =
      some ((Wj 0 ps.length).map fun x => match x with | .int i => sD (YC ps (i - 1)) | _ => .non) := by
    refine UO fun x hx => ?_
    unfold Wj at hx
    obtain ⟨k, hk, rfl⟩ := List.mem_map.mp hx
    have hk := List.mem_range.mp hk
    have e1 := Zdn (ps := ps) (i := (0 + (k : Int)) - 1) (by omega) (by omega)
    have e2 := Zdn (ps := ps) (i := (0 + (k : Int))) (by omega) (by omega)
    simp only [Int.zero_add] at e1 e2
    simp [e1, e2, sD, YC]
theorem Zgh {ps:List Pt} (h0:ps.length<=1000):ZbV (ps.length:Int)=true:=Us (by omega) (by omega)
theorem Zgi {ps:List Pt} (h0:ps.length<=1000):(Wj 0 ps.length).length<=lim:=by rw [Zbm]; exact Yt h0
theorem JR {ps:List Pt} (h0:ps.length<=1000):ZT [.tup (ps.map pD)]=some (.lst ((Zw ps).map sD)):=by
 simp -implicitDefEqProofs [ZT,ZA,Vl,Zgh h0,Zgi h0,Jj,Zem]
 simp [Zw,Wj]
theorem U5 {a b c:Pt} (ha:Sm a) (hb:Sm b) (hc:Sm c):Yd [pD a,pD b,pD c]=some (.bl (decide (0 < Z8 a b c))):=by
 simp -implicitDefEqProofs [Yd,ZA,JL,VZ ha hb hc]
noncomputable def SmS (s:Pt×Pt):Prop:=Sm s.1/\Sm s.2
theorem ZcH {ps:List Pt} (h:All Sm ps):∀ s∈Zw ps,SmS s:=fun s hs=>by
 obtain ⟨k,hk,rfl⟩:=List.mem_map.mp hs
 have hk:=List.mem_range.mp hk
 have ne:ps≠[]:=fun z=>by rw [z] at hk; simp at hk
 exact ⟨h _ (Yi ne _),h _ (Yi ne _)⟩
theorem Qx (ps:List Pt):(Zw ps).length=ps.length:=by simp [Zw]
theorem Zik {c:D} {xs:List D} (h:YN c=some xs) (i:Int):dIx c (.int i)=atI xs i:=by
 cases c <;> first | (cases h; rfl) | cases h
theorem ZgH {c:D} {xs:List D} (h:YN c=some xs):UJ [c]=some (.int xs.length):=by
 cases c <;> first | (cases h; rfl) | cases h
theorem QY {f:DE} {ρ:Rho} {c:D} {xs:List D} (hf:f ρ=some c) (h:YN c=some xs):Yq f ρ=some xs:=by
 unfold Yq
 rw [hf]
 cases c <;> first | (cases h; rfl) | cases h
theorem ZeU {f:DE} {ρ:Rho} {c:D} {xs:List D} (hf:f ρ=some c) (h:YN c=some xs):WO f ρ=some (QZ 0 xs):=by
 unfold WO
 rw [QY hf h]; rfl
theorem Zil {c:D} {ps:List Pt} (h:YN c=some (ps.map pD)) {i:Int} (h1:-(ps.length:Int)<=i) (h2:i < ps.length):dIx c (.int i)=some (pD (cyc ps i)):=by rw [Zik h,ZaW h1 h2]
noncomputable def Zcn (d k:Int):Int:=(((d+7919*k+1)*48271 % 2147483647)*((d+7919*k+1)*48271 % 2147483647)+7*((d+7919*k+1)*48271 % 2147483647)+k) % 2147483629
noncomputable def Y3 (ns:List Int) (k:Nat):Int:=ns[k]?.getD 0
theorem Ze2 (ns:List Int) (k:Nat):ZU [.lst (ns.map .int),.int k]=some (.int (Y3 ns k)):=by
 unfold Y3
 by_cases h:k < ns.length
 ·have e:dIx (.lst (ns.map D.int)) (.int k)=some (.int ns[k]):=by
   show atI (ns.map D.int) (k:Int)=_
   exact Zg6 (by simp [h])
  simp -implicitDefEqProofs [ZU,ZA,YT,h,e]
 ·simp -implicitDefEqProofs [ZU,ZA,YT,h]
theorem Qr (ns:List Int) (k:Nat):Zj [.lst (ns.map .int),.int k]=some (.int (Zcn (Y3 ns k) k)):=by
 have m1:=Ju (i:=7919) (j:=(k:Int)) (.inl (by omega))
 have m2:=Ju (i:=Y3 ns k+7919*(k:Int)+1) (j:=48271) (.inr (by omega))
 have h1:=Int.emod_nonneg ((Y3 ns k+7919*(k:Int)+1)*48271) (show (2147483647:Int)≠0 by omega)
 have h2:=Int.emod_lt_of_pos ((Y3 ns k+7919*(k:Int)+1)*48271) (show (0:Int) < 2147483647 by omega)
 have d1:=J7 (i:=(Y3 ns k+7919*(k:Int)+1)*48271) (j:=2147483647) (by omega)
 have m3:=Ju (i:=(Y3 ns k+7919*(k:Int)+1)*48271 % 2147483647) (j:=(Y3 ns k+7919*(k:Int)+1)*48271 % 2147483647) (.inl (by omega))
 have m4:=Ju (i:=7) (j:=(Y3 ns k+7919*(k:Int)+1)*48271 % 2147483647) (.inl (by omega))
 have d2:=fun x=>J7 (i:=x) (j:=2147483629) (by omega)
 simp -implicitDefEqProofs [Zj,ZA,JO,Ze2,m1,m2,d1,m3,m4,d2,Zcn]
noncomputable def Ze7 (n k:Int):Int:=(((n+104729*k+17)*69621 % 2147483647)*((n+104729*k+17)*69621 % 2147483647)+3*((n+104729*k+17)*69621 % 2147483647)+k) % 2147483629
theorem WY (n k:Int):ZO [.int n,.int k]=some (.int (Ze7 n k)):=by
 have m1:=Ju (i:=104729) (j:=k) (.inl (by omega))
 have m2:=Ju (i:=n+104729*k+17) (j:=69621) (.inr (by omega))
 have h1:=Int.emod_nonneg ((n+104729*k+17)*69621) (show (2147483647:Int)≠0 by omega)
 have h2:=Int.emod_lt_of_pos ((n+104729*k+17)*69621) (show (0:Int) < 2147483647 by omega)
 have d1:=J7 (i:=(n+104729*k+17)*69621) (j:=2147483647) (by omega)
 have m3:=Ju (i:=(n+104729*k+17)*69621 % 2147483647) (j:=(n+104729*k+17)*69621 % 2147483647) (.inl (by omega))
 have m4:=Ju (i:=3) (j:=(n+104729*k+17)*69621 % 2147483647) (.inl (by omega))
 have d2:=fun x=>J7 (i:=x) (j:=2147483629) (by omega)
 simp -implicitDefEqProofs [ZO,ZA,JP,m1,m2,d1,m3,m4,d2,Ze7]
theorem Ze1 {c:D} {ps:List Pt} (h:YN c=some (ps.map pD)) (hne:ps≠[]) (i j:Int):Ya [c,.int i,.int j]=some (pD (cyc ps (i+j))):=by
 have hn:0 < (ps.length:Int):=by have:=List.length_pos_iff.mpr hne; omega
 have k1:=Int.emod_nonneg (i+j) (show (ps.length:Int)≠0 by omega)
 have k2:=Int.emod_lt_of_pos (i+j) hn
 have e:=Zil h (i:=(i+j) % (ps.length:Int)) (by omega) k2
 have d:=J7 (i:=i+j) (j:=(ps.length:Int)) hn
 have l:=ZgH h
 rw [List.length_map] at l
 simp -implicitDefEqProofs [Ya,ZA,UD,l,d,e]
 rw [UL]
noncomputable def ZaX (ps:List Pt):Int->List Pt->Int
 | _,[]=>0
 | k,a::r=>(a.1*(cyc ps (k+1)).2-a.2*(cyc ps (k+1)).1)+ZaX ps (k+1) r
noncomputable def We (ps:List Pt):Int:=ZaX ps 0 ps
theorem Zh4 {i j:Int} (h1:-1000000<=i) (h2:i<=1000000):Yj (.int i) (.int j)=some (.int (i*j)):=Ju (.inl (by omega))
theorem Zd4 {c:D} {ps:List Pt} (h:YN c=some (ps.map pD)) (hne:ps≠[]) {a:Pt} (ha:Sm a) (found k:Int) (s4:Sl) :
  (Zm (Z2 4 (dFn 3 Ya (Zb (Zd 0) (Zb (Zd 2) (Zb (Zl (.int 1)) Zq)))))
 (Z2 1 (Zg J8 (Zg Yh (Zd 1) (Zg Yj (Zg dIx (Zd 3) (Zl (.int 0))) (Zg dIx (Zd 4) (Zl (.int 1))))) (Zg Yj (Zg dIx (Zd 3) (Zl (.int 1))) (Zg dIx (Zd 4) (Zl (.int 0))))))) [.val c,.val (.int found),.val (.int k),.val (pD a),s4] =
  some (.nx [.val c,.val (.int (found+(a.1*(cyc ps (k+1)).2-a.2*(cyc ps (k+1)).1))),.val (.int k),.val (pD a),.val (pD (cyc ps (k+1)))]):=by
 obtain ⟨⟨a1,a2⟩,a3,a4⟩:=ha
 have m1:=Zh4 (i:=a.1) (j:=(cyc ps (k+1)).2) a1 a2
 have m2:=Zh4 (i:=a.2) (j:=(cyc ps (k+1)).1) a3 a4
 have e:=Ze1 h hne k 1
 simp -implicitDefEqProofs [e,m1,m2]
 omega
theorem Zaf {c:D} {ps:List Pt} (h:YN c=some (ps.map pD)) (hne:ps≠[]):∀ (ys:List Pt) (k:Nat) (found:Int) (s2 s3 s4:Sl),All Sm ys->∃ t2 t3 t4,
  UW (Zd0 2 3) (Zm (Z2 4 (dFn 3 Ya (Zb (Zd 0) (Zb (Zd 2) (Zb (Zl (.int 1)) Zq)))))
 (Z2 1 (Zg J8 (Zg Yh (Zd 1) (Zg Yj (Zg dIx (Zd 3) (Zl (.int 0))) (Zg dIx (Zd 4) (Zl (.int 1))))) (Zg Yj (Zg dIx (Zd 3) (Zl (.int 1))) (Zg dIx (Zd 4) (Zl (.int 0)))))))
   (QZ k (ys.map pD)) [.val c,.val (.int found),s2,s3,s4]=some (.nx [.val c,.val (.int (found+ZaX ps k ys)),t2,t3,t4])
 | [],k,found,s2,s3,s4,_=>⟨s2,s3,s4,by simp [QZ,UW,ZaX]⟩
 | a::ys,k,found,s2,s3,s4,hs=>by
  have st:=Zd4 h hne (hs a List.mem_cons_self) found k s4
  obtain ⟨t2,t3,t4,ih⟩:=Zaf h hne ys (k+1) (found+(a.1*(cyc ps ((k:Int)+1)).2-a.2*(cyc ps ((k:Int)+1)).1)) (.val (.int k)) (.val (pD a)) (.val (pD (cyc ps ((k:Int)+1)))) fun p hp=>hs p (List.mem_cons_of_mem _ hp)
  refine ⟨t2,t3,t4,?_⟩
  simp only [List.map_cons,QZ,UW,Zg5,List.set_cons_zero,List.set_cons_succ,Option.bind_some]
  rw [st]
  show UW _ _ _ _=_
  rw [ih]
  simp only [ZaX]
  rw [Int.add_assoc]
  rfl
theorem Ze3 {c:D} {ps:List Pt} (h:YN c=some (ps.map pD)) (hne:ps≠[]) (hs:All Sm ps):Yb [c]=some (.int (We ps)):=by
 obtain ⟨t2,t3,t4,e⟩:=Zaf h hne ps 0 0 .no .no .no hs
 unfold Yb ZA UE
 show (Zm _ (Zm _ _) [.val c,.no,.no,.no,.no]).bind _=_
 rw [Zv]
 show (Zm _ _ [.val c,.val (.int 0),.no,.no,.no]).bind _=_
 rw [Zv,W6]
 have e0:WO (Zd 0) [.val c,.val (.int 0),.no,.no,.no]=some (QZ 0 (ps.map pD)):=ZeU rfl h
 rw [e0,Option.bind_some,e]
 rw [Int.zero_add]
 rfl
noncomputable def Yf (ps:List Pt):Int->List Pt->List (Pt×Pt)
 | _,[]=>[]
 | k,a::r=>(a,cyc ps (k+1))::Yf ps (k+1) r
theorem YH (ps:List Pt):∀ (ys:List Pt) (k:Nat),ps.drop k=ys->Yf ps k ys=(List.range ys.length).map fun (j:Nat)=>YC ps (((k+j:Nat)):Int)
 | [],k,_=>rfl
 | a::ys,k,h=>by
  have hk:k < ps.length:=by
   by_cases z:k < ps.length
   ·exact z
   ·rw [List.drop_eq_nil_of_le (by omega)] at h; cases h
  rw [List.drop_eq_getElem_cons hk] at h
  injection h with h1 h2
  have ih:=YH ps ys (k+1) h2
  unfold Yf
  rw [List.length_cons,List.range_succ_eq_map,List.map_cons,List.map_map]
  congr 1
  ·unfold YC
   rw [Nat.add_zero,ZL hk,h1]
  ·rw [show ((k:Int)+1)=((k+1:Nat):Int) by omega,ih]
   apply List.map_congr_left
   intro j _
   simp only [Function.comp]
   congr 1
   omega
theorem Jq {ps:List Pt} (hne:ps≠[]):(Yf ps 0 ps).Perm (Zw ps):=by
 have e:=YH ps ps 0 rfl
 have e':Yf ps 0 ps=(List.range ps.length).map fun (j:Nat)=>YC ps (j:Int):=by
  have:Yf ps ((0:Nat):Int) ps=Yf ps 0 ps:=rfl
  rw [<-this,e]
  apply List.map_congr_left
  intro j _
  rw [Nat.zero_add]
 rw [e']
 unfold Zw
 obtain ⟨n,hn⟩:∃ n,ps.length=n+1:=⟨ps.length-1,by have:=List.length_pos_iff.mpr hne; omega⟩
 rw [hn]
 have l1:(List.range (n+1)).map (fun (j:Nat)=>YC ps (j:Int))=(List.range n).map (fun (j:Nat)=>YC ps (j:Int))++[YC ps (n:Int)]:=by
  rw [List.range_succ,List.map_append]; rfl
 have l2:(List.range (n+1)).map (fun (k:Nat)=>YC ps ((k:Int)-1))=YC ps (n:Int)::(List.range n).map (fun (j:Nat)=>YC ps (j:Int)):=by
  rw [List.range_succ_eq_map,List.map_cons,List.map_map]
  congr 1
  ·unfold YC
   rw [<-Yc ps (((0:Nat):Int)-1),<-Yc ps (((0:Nat):Int)-1+1),hn]
   congr 2 <;> omega
  ·apply List.map_congr_left
   intro j _
   simp only [Function.comp]
   congr 1
   omega
 rw [l1,l2]
 exact List.perm_append_comm
theorem okL {ds:List D} (h:∀ d∈ds,okD d=true/\(JD d).depth<=5):PyData.canLayAll0 (Qf ds)=true/\PyData.depthAll (Qf ds)<=5:=by
 induction ds with
 | nil=>simp [Qf,PyData.canLayAll0,PyData.depthAll]
 | cons d ds ih=>
  obtain ⟨h1,h2⟩:=h d List.mem_cons_self
  obtain ⟨i1,i2⟩:=ih fun e he=>h e (List.mem_cons_of_mem _ he)
  simp [Qf,PyData.canLayAll0,PyData.depthAll,okD.can h1,i1]
  omega
theorem ZgE {ds:List D} (h:∀ d∈ds,okD d=true/\(JD d).depth<=5):okD (.lst ds)=true/\(JD (.lst ds)).depth<=6:=by
 obtain ⟨h1,h2⟩:=okL h
 simp [okD,JD,PyData.canLay0,PyData.depth,h1]
 omega
theorem ZgD {ds:List D} (h:∀ d∈ds,okD d=true/\(JD d).depth<=5):okD (.tup ds)=true/\(JD (.tup ds)).depth<=6:=by
 obtain ⟨h1,h2⟩:=okL h
 simp [okD,JD,PyData.canLay0,PyData.depth,h1]
 omega
theorem ZfF (p:Pt):okD (pD p)=true/\(JD (pD p)).depth<=5:=by
 refine ⟨rfl,?_⟩
 simp [pD,JD,Qf,PyData.depth,PyData.depthAll]
theorem ZfS (p q:Pt):deq (pD p) (pD q)=decide (p=q):=by
 show PyData.eqv (.tuple [.int p.1,.int p.2]) (.tuple [.int q.1,.int q.2])=_
 simp only [PyData.eqv,PyData.eqvAll,Bool.and_true]
 rw [Bool.eq_iff_iff]
 simp [Prod.ext_iff]
noncomputable def Zgd (n wide:Int) (k:Nat):Pt:=(Ze7 n (2*(k:Int)) % wide,Ze7 n (2*(k:Int)+1) % wide)
noncomputable def JF (n wide:Int) (many:Nat):List Pt:=(List.range many).map (Zgd n wide)
theorem ZbT (n wide:Int) (many:Nat):(JF n wide many).length=many:=by simp [JF]
theorem ZbS {n wide:Int} {many:Nat} (hw:0 < wide):All (fun p=>(0<=p.1/\p.1 < wide)/\(0<=p.2/\p.2 < wide)) (JF n wide many):=fun p hp=>by
 obtain ⟨k,_,rfl⟩:=List.mem_map.mp hp
 exact ⟨⟨Int.emod_nonneg _ (by omega),Int.emod_lt_of_pos _ hw⟩,Int.emod_nonneg _ (by omega),Int.emod_lt_of_pos _ hw⟩
theorem Zel {n wide:Int} (hw:0 < wide) (many:Nat):Y1 (ZW 0) ZS (U6 (Zb (Zg Jn (dFn 2 ZO (Zb (Zd 2) (Zb (Zg Yj (Zl (.int 2)) (Zd 0)) Zq))) (Zd 1)) (Zb (Zg Jn (dFn 2 ZO (Zb (Zd 2) (Zb (Zg Yh (Zg Yj (Zl (.int 2)) (Zd 0)) (Zl (.int 1))) Zq))) (Zd 1)) Zq))) (Wj 0 many) (.no::[.val (.int wide),.val (.int n)]) =
  some ((Wj 0 many).map fun x=>match x with | .int k=>pD (Zgd n wide k.toNat) | _=>.non):=by
 refine UO fun x hx=>?_
 unfold Wj at hx
 obtain ⟨k,hk,rfl⟩:=List.mem_map.mp hx
 have m:=Ju (i:=2) (j:=(k:Int)) (.inl (by omega))
 have e1:=WY n (2*(k:Int))
 have e2:=WY n (2*(k:Int)+1)
 have d:=fun z=>J7 (i:=z) (j:=wide) hw
 simp only [Int.zero_add]
 simp -implicitDefEqProofs [m,e1,e2,d,pD,Zgd]
theorem ZdB {n wide:Int} (hw:0 < wide) {many:Nat} (hm:many<=1000):Ye [.int n,.int wide,.int many]=some (.lst ((JF n wide many).map pD)):=by
 have r:=Us (n:=(many:Int)) (by omega) (by omega)
 have hl:(Wj 0 many).length<=lim:=by rw [Zbm]; exact Yt hm
 have cl:=Zel (n:=n) hw many
 simp -implicitDefEqProofs [Ye,ZA,JM,r,hl,Jj,cl]
 simp [JF,Wj]
noncomputable def ltZ (p q:Pt):Bool:=decide (p.1 < q.1\/(p.1=q.1/\p.2 < q.2))
theorem ZfJ (p q:Pt):ltD (pD p) (pD q)=ltZ p q:=by
 show HT.lexLt [p.1,p.2] [q.1,q.2]=_
 unfold ltZ
 rw [HT.lexLt_cons,HT.lexLt_cons,HT.lexLt_nil_nil]
 by_cases h1:p.1=q.1
 ·rw [if_pos h1]
  by_cases h2:p.2=q.2
  ·rw [if_pos h2]; simp [h1,h2]
  ·rw [if_neg h2]; simp [h1]
 ·rw [if_neg h1]; simp [h1]
noncomputable def Wc:Pt->List Pt->Pt
 | b,[]=>b
 | b,x::xs=>Wc (if ltZ x b then x else b) xs
theorem ZaU:∀ (xs:List Pt) (b:Pt),Zcq ltD (pD b) (xs.map pD)=pD (Wc b xs)
 | [],b=>rfl
 | x::xs,b=>by
  simp only [List.map_cons,Zcq,Wc,ZfJ]
  cases ltZ x b
  ·exact ZaU xs b
  ·exact ZaU xs x
noncomputable def Y9:List Pt->Pt
 | []=>(0,0)
 | b::xs=>Wc b xs
theorem Zae:∀ (xs:List Pt) (b:Pt),Wc b xs∈b::xs
 | [],b=>List.mem_singleton.mpr rfl
 | x::xs,b=>by
  unfold Wc
  have:=Zae xs (if ltZ x b then x else b)
  rcases List.mem_cons.mp this with h | h
  ·rw [h]
   cases ltZ x b
   ·simp
   ·simp
  ·exact List.mem_cons_of_mem _ (List.mem_cons_of_mem _ h)
theorem YJ {ps:List Pt} (h:ps≠[]):Y9 ps∈ps:=by
 cases ps with
 | nil=>exact absurd rfl h
 | cons b xs=>exact Zae xs b
theorem Zcf (ps:List Pt):Vs (ps.map pD)=true:=by
 unfold Vs
 rw [Bool.or_eq_true_iff]
 right
 rw [List.all_eq_true]
 intro d hd
 obtain ⟨p,_,rfl⟩:=List.mem_map.mp hd
 rfl
theorem ZfG {ps:List Pt} (h:ps≠[]) {c:D} (hc:YN c=some (ps.map pD)):W4 [c]=some (pD (Y9 ps)):=by
 cases ps with
 | nil=>exact absurd rfl h
 | cons b xs=>
  show (YN c).bind _=_
  rw [hc,Option.bind_some]
  show (if Vs (pD b::xs.map pD)=true then some (Zcq ltD (pD b) (xs.map pD)) else none)=_
  rw [if_pos (by have:=Zcf (b::xs); exact this),ZaU]
  rfl
noncomputable def Q3 (m:Pt):List Pt->Nat
 | []=>0
 | x::xs=>if x=m then 0 else Q3 m xs+1
theorem WW {m:Pt}:∀ {ps:List Pt},m∈ps->WX (pD m) (ps.map pD)=some (Q3 m ps)
 | [],h=>by cases h
 | x::xs,h=>by
  simp only [List.map_cons,WX,Q3,ZfS]
  by_cases e:x=m
  ·rw [if_pos (by simp [e]),if_pos e]
  ·rw [if_neg (by simp [e]),if_neg e]
   have:m∈xs:=(List.mem_cons.mp h).resolve_left fun z=>e z.symm
   rw [WW this]; rfl
theorem VX {m:Pt}:∀ {ps:List Pt},m∈ps->Q3 m ps < ps.length/\ps[Q3 m ps]?=some m
 | [],h=>by cases h
 | x::xs,h=>by
  unfold Q3
  by_cases e:x=m
  ·rw [if_pos e]; simp [e]
  ·rw [if_neg e]
   have:m∈xs:=(List.mem_cons.mp h).resolve_left fun z=>e z.symm
   obtain ⟨h1,h2⟩:=VX this
   exact ⟨by simp; exact h1,by rw [List.getElem?_cons_succ]; exact h2⟩
theorem Zdq {ps:List Pt} {m:Pt} (h:m∈ps) (hl:ps.length<=1000):W5 (.lst (ps.map pD)) (pD m)=some (.int (Q3 m ps:Nat)):=by
 have h1:okD (.lst (ps.map pD))=true:=(ZgE fun d hd=>by obtain ⟨n,_,rfl⟩:=List.mem_map.mp hd; exact ZfF n).1
 have h2:okD (pD m)=true:=rfl
 have h3:(ps.map pD).length<=lim:=by rw [List.length_map]; exact Yt hl
 show (if (okD (pD m)&&okD (.lst (ps.map pD))&&decide ((ps.map pD).length<=lim))=true then (WX (pD m) (ps.map pD)).map fun (j:Nat)=>D.int (j:Int) else none)=_
 rw [h1,h2,if_pos (by simpa using h3),WW h]
 rfl
noncomputable def QU (l:List Pt):List Pt:=l.drop (Q3 (Y9 l) l)++l.take (Q3 (Y9 l) l)
noncomputable def WP (ps:List Pt):List Pt:=QU (if We ps < 0 then ps.reverse else ps)
theorem ZbD {α:Type} (xs:List α) (k:Nat) (h:k<=xs.length):cutD xs (some (k:Int)) none=xs.drop k:=by
 unfold L3.cutD
 rw [HT.sIx_nat,HT.sIx_none,Nat.min_eq_left h,List.take_of_length_le (by simp)]
theorem ZfZ {α:Type} (xs:List α) (k:Nat) (h:k<=xs.length):cutD xs none (some (k:Int))=xs.take k:=by
 unfold L3.cutD
 rw [HT.sIx_nat,HT.sIx_none,Nat.min_eq_left h]
 simp
theorem Vf {l:List Pt} (hne:l≠[]) (hl:l.length<=1000) (c:D):(Zm (Z2 2 (Zg W5 (Zd 1) (ZV W4 (Zb (Zd 1) Zq))))
 (Yr (ZV QF (Zb (Zg Yh (dSl (Zd 1) (Yv (Zd 2)) Yw) (dSl (Zd 1) Yw (Yv (Zd 2)))) Zq)))) [.val c,.val (.lst (l.map pD)),.no]=some (.rt (.tup ((QU l).map pD))):=by
 have m:=ZfG hne (c:=.lst (l.map pD)) rfl
 have i:=Zdq (YJ hne) hl
 obtain ⟨k1,_⟩:=VX (YJ hne)
 have c1:=ZbD (l.map pD) (Q3 (Y9 l) l) (by simp; omega)
 have c2:=ZfZ (l.map pD) (Q3 (Y9 l) l) (by simp; omega)
 have s1:∀ lo hi,ZgZ lo hi (.lst (l.map pD))=some (.lst (cutD (l.map pD) lo hi)):=fun _ _=>rfl
 have ad:Yh (.lst ((l.map pD).drop (Q3 (Y9 l) l))) (.lst ((l.map pD).take (Q3 (Y9 l) l)))=some (.lst ((QU l).map pD)):=by
  show (if _ then _ else _)=_
  rw [if_pos (by simp; exact Yt (by omega))]
  unfold QU
  rw [List.map_append,List.map_drop,List.map_take]
 have e1:Z2 2 (Zg W5 (Zd 1) (ZV W4 (Zb (Zd 1) Zq))) [.val c,.val (.lst (l.map pD)),.no]=some (.nx [.val c,.val (.lst (l.map pD)),.val (.int (Q3 (Y9 l) l:Nat))]):=by
  simp -implicitDefEqProofs [m,i]
 rw [Zv,e1]
 show Yr _ [.val c,.val (.lst (l.map pD)),.val (.int (Q3 (Y9 l) l:Nat))]=_
 have e2:(Zg Yh (dSl (Zd 1) (Yv (Zd 2)) Yw) (dSl (Zd 1) Yw (Yv (Zd 2)))) [.val c,.val (.lst (l.map pD)),.val (.int (Q3 (Y9 l) l:Nat))]=some (.lst ((QU l).map pD)):=by
  simp only [Vq,ZgY,ZdN,ZaC,ZaD,List.getElem?_cons_succ,List.getElem?_cons_zero,Option.bind_some,s1,c1,c2,ad]
 rw [Vp,UK,Qb,e2]
 rfl
theorem ZdC {c:D} {ps:List Pt} (h:YN c=some (ps.map pD)) (hne:ps≠[]) (hps:All Sm ps) (hl:ps.length<=1000):Z0 [c]=some (.tup ((WP ps).map pD)):=by
 have l1:UI [c]=some (.lst (ps.map pD)):=by cases c <;> first | (cases h; rfl) | cases h
 have a:=Ze3 (c:=.lst (ps.map pD)) rfl hne hps
 unfold Z0 ZA Qq WP
 show (Zm _ (Zm _ (Zm _ _)) [.val c,.no,.no]).bind _=_
 have e1:Z2 1 (ZV UI (Zb (Zd 0) Zq)) [.val c,.no,.no]=some (.nx [.val c,.val (.lst (ps.map pD)),.no]):=by
  simp -implicitDefEqProofs [l1]
 rw [Zv,e1]
 show (Zm _ (Zm _ _) [.val c,.val (.lst (ps.map pD)),.no]).bind _=_
 rw [Zv]
 by_cases ha:We ps < 0
 ·have e2:(V5 (ZR (Zg dLt (dFn 1 Yb (Zb (Zd 1) Zq)) (Zl (.int 0)))) (Z2 1 (ZfU (Zd 1))) Qe) [.val c,.val (.lst (ps.map pD)),.no]=some (.nx [.val c,.val (.lst (ps.reverse.map pD)),.no]):=by
   simp -implicitDefEqProofs [a,ha]
  rw [e2,if_pos ha]
  show (Zm _ _ [.val c,.val (.lst (ps.reverse.map pD)),.no]).bind _=_
  rw [Vf (by simpa using hne) (by simpa using hl)]
  rfl
 ·have e2:(V5 (ZR (Zg dLt (dFn 1 Yb (Zb (Zd 1) Zq)) (Zl (.int 0)))) (Z2 1 (ZfU (Zd 1))) Qe) [.val c,.val (.lst (ps.map pD)),.no]=some (.nx [.val c,.val (.lst (ps.map pD)),.no]):=by
   simp -implicitDefEqProofs [a,ha]
  rw [e2,if_neg ha]
  show (Zm _ _ [.val c,.val (.lst (ps.map pD)),.no]).bind _=_
  rw [Vf hne hl]
  rfl
theorem ZcP (l:List Pt):(QU l).Perm l:=by
 unfold QU
 exact List.perm_append_comm.trans (by rw [List.take_append_drop])
noncomputable def walk:Pt->List Pt->Pt->List Pt
 | _,[],_=>[]
 | p,[a],n=>if Z8 p a n=0 then [] else [a]
 | p,a::b::r,n=>if Z8 p a b=0 then walk a (b::r) n else a::walk a (b::r) n
noncomputable def Rg (m:Int) (p:Pt):Prop:=(-m<=p.1/\p.1<=m)/\(-m<=p.2/\p.2<=m)
theorem Zd5 {xs ys:List D} (h:xs.length+ys.length<=1000):Yh (.lst xs) (.lst ys)=some (.lst (xs++ys)):=by
 show (if _ then _ else _)=_
 rw [if_pos (Yt h)]
theorem JE:∀ (ns:List Int) (a:Int) (m:Nat),ns.length<=m->m<=1000->-(1000000000000*(1001-(m:Int)))<=a->a<=1000000000000*(1001-(m:Int))->(∀ n∈ns,-1000000000000<=n/\n<=1000000000000)->Vc a ns=true
 | [],a,m,_,_,_,_,_=>rfl
 | n::ns,a,m,hl,hm,h1,h2,h=>by
  have hn:=h n List.mem_cons_self
  simp only [List.length_cons] at hl
  have ih:=JE ns (a+n) (m-1) (by omega) (by omega) (by omega) (by omega) fun x hx=>h x (List.mem_cons_of_mem _ hx)
  unfold Vc
  rw [ih]
  simp
  omega
theorem Zhu {ns:List Int} (hl:ns.length<=1000) (h:∀ n∈ns,-1000000000000<=n/\n<=1000000000000):ZfT [.lst (ns.map .int)]=some (.int ns.sum):=by
 have s:=JE ns 0 1000 hl (by omega) (by omega) (by omega) h
 unfold ZfT
 simp only [YN,Option.bind_some,Q9]
 rw [if_pos s]
noncomputable def ZK (s:Pt×Pt):Int:=s.1.1*s.2.2-s.1.2*s.2.1
theorem Zhl (s:Pt×Pt):Z8 (0,0) s.1 s.2=ZK s:=by unfold Z8 ZK; simp
theorem Zhr:∀ (ss:List (Pt×Pt)) (s0:Sl),(∀ s∈ss,SmS s)->Y1 (ZW 0) ZS (dFn 3 Jf (Zb (Zl (.tup [(.int 0),(.int 0)])) (Zb (Zg dIx (Zd 0) (Zl (.int 0))) (Zb (Zg dIx (Zd 0) (Zl (.int 1))) Zq)))) (ss.map sD) (s0::[])=some ((ss.map ZK).map .int)
 | [],s0,_=>rfl
 | s::ss,s0,h=>by
  obtain ⟨h1,h2⟩:=h s List.mem_cons_self
  have z:Sm (0,0):=⟨⟨by simp,by simp⟩,by simp,by simp⟩
  have e:=VZ z h1 h2
  rw [Zhl] at e
  have ez:pD (0,0)=.tup [.int 0,.int 0]:=rfl
  rw [ez] at e
  have ih:=Zhr ss (.val (sD s)) fun s hs=>h s (List.mem_cons_of_mem _ hs)
  simp -implicitDefEqProofs [Y1,e,ih]
theorem Vg {x y a b:Int} (h1:-a<=x) (h2:x<=a) (h3:-b<=y) (h4:y<=b):-(a*b)<=x*y/\x*y<=a*b:=by
 have n:(x*y).natAbs<=a.natAbs*b.natAbs:=by
  rw [Int.natAbs_mul]
  exact Nat.mul_le_mul (by omega) (by omega)
 have e:((a.natAbs*b.natAbs:Nat):Int)=a*b:=by
  rw [Int.natCast_mul,Int.natAbs_of_nonneg (by omega),Int.natAbs_of_nonneg (by omega)]
 omega
theorem Zfb {m:Int} {s:Pt×Pt} (h1:Rg m s.1) (h2:Rg m s.2):-(2*(m*m))<=ZK s/\ZK s<=2*(m*m):=by
 obtain ⟨⟨a1,a2⟩,a3,a4⟩:=h1
 obtain ⟨⟨b1,b2⟩,b3,b4⟩:=h2
 have k1:=Vg a1 a2 b3 b4
 have k2:=Vg a3 a4 b1 b2
 unfold ZK
 omega
theorem Zit {ps:List Pt} (h0:ps.length<=1000) (hs:∀ p∈ps,Rg 10000 p):Zs [.tup (ps.map pD)]=some (.int ((Zw ps).map ZK).sum):=by
 have sm:All Sm ps:=fun p hp=>by have:=hs p hp; unfold Rg at this; exact ⟨⟨by omega,by omega⟩,by omega,by omega⟩
 have hl:(Zw ps).length<=lim:=by rw [Qx]; exact Yt h0
 have cl:=Zhr (Zw ps) .no (ZcH sm)
 have su:=Zhu (ns:=(Zw ps).map ZK) (by simp [Qx]; exact h0) fun n hn=>by
  obtain ⟨s,hs',rfl⟩:=List.mem_map.mp hn
  obtain ⟨k,hk,rfl⟩:=List.mem_map.mp hs'
  have hk:=List.mem_range.mp hk
  have ne:ps≠[]:=fun z=>by rw [z] at hk; simp at hk
  have:=Zfb (m:=10000) (s:=YC ps ((k:Int)-1)) (hs _ (Yi ne _)) (hs _ (Yi ne _))
  omega
 unfold Zs ZA JK
 show (Yr _ [.val (.tup (ps.map pD))]).bind _=_
 have e1:(Qt [none] (Yq (dFn 1 ZT (Zb (Zd 0) Zq))) (ZW 0) ZS (dFn 3 Jf (Zb (Zl (.tup [(.int 0),(.int 0)])) (Zb (Zg dIx (Zd 0) (Zl (.int 0))) (Zb (Zg dIx (Zd 0) (Zl (.int 1))) Zq))))) [.val (.tup (ps.map pD))]=some (.lst (((Zw ps).map ZK).map .int)):=by
  have i:Yq (dFn 1 ZT (Zb (Zd 0) Zq)) [.val (.tup (ps.map pD))]=some ((Zw ps).map sD):=QY (by simp -implicitDefEqProofs [JR h0]; rfl) rfl
  rw [ZaN,i,Option.bind_some,if_pos (by rw [List.length_map]; exact hl)]
  have cl':Y1 (ZW 0) ZS (dFn 3 Jf (Zb (Zl (.tup [(.int 0),(.int 0)])) (Zb (Zg dIx (Zd 0) (Zl (.int 0))) (Zb (Zg dIx (Zd 0) (Zl (.int 1))) Zq)))) ((Zw ps).map sD) (Jj [none] [.val (.tup (ps.map pD))])=_:=cl
  rw [cl']; rfl
 rw [Vp,UK,Qb,e1]
 show ((ZfT [.lst (((Zw ps).map ZK).map .int)]).map _).bind _=_
 rw [su]; rfl
theorem Q2 (ps:List Pt):∀ (ys:List Pt) (k:Int),ZaX ps k ys=((Yf ps k ys).map ZK).sum
 | [],k=>rfl
 | a::r,k=>by
  unfold ZaX Yf
  rw [List.map_cons,List.sum_cons,Q2 ps r]
  rfl
theorem VI {l m:List Int} (p:l.Perm m):l.sum=m.sum:=by
 induction p with
 | nil=>rfl
 | cons x _ ih=>simp [ih]
 | swap x y l=>simp; omega
 | trans _ _ ih1 ih2=>rw [ih1,ih2]
theorem Zch {ps:List Pt} (hne:ps≠[]):We ps=((Zw ps).map ZK).sum:=by
 unfold We
 rw [Q2]
 exact VI ((Jq hne).map _)
theorem Zbt:∀ (m a b:Nat) (s2:Sl),b < m->∃ t2,ZJ (ZR (Zg UZ (Zd 1) (Zl (.int 0)))) (Zm (Z2 2 (Zg Jn (Zd 0) (Zd 1)))
 (Zm (Z2 0 (Zd 1))
 (Z2 1 (Zd 2)))) m [.val (.int a),.val (.int b),s2]=some (.nx [.val (.int (Nat.gcd a b:Nat)),.val (.int 0),t2])
 | 0,a,b,s2,h=>absurd h (Nat.not_lt_zero _)
 | m+1,a,b,s2,h=>by
  by_cases hb:b=0
  ·subst hb
   refine ⟨s2,?_⟩
   unfold ZJ
   simp -implicitDefEqProofs
  ·have hb':¬ ((b:Int)=0):=by omega
   have d:=J7 (i:=(a:Int)) (j:=(b:Int)) (by omega)
   obtain ⟨t2,ih⟩:=Zbt m b (a % b) (.val (.int ((a:Int) % (b:Int)))) (by have:=Nat.mod_lt a (Nat.pos_of_ne_zero hb); omega)
   refine ⟨t2,?_⟩
   have e:Nat.gcd a b=Nat.gcd b (a % b):=by rw [Nat.gcd_comm,Nat.gcd_rec,Nat.gcd_comm]
   rw [e]
   have c:(((a % b:Nat)):Int)=(a:Int) % (b:Int):=by omega
   rw [c] at ih
   conv=>lhs; unfold ZJ
   have t:(ZR (Zg UZ (Zd 1) (Zl (.int 0)))) [.val (.int a),.val (.int b),s2]=some true:=by simp -implicitDefEqProofs [hb',hb]
   have bd:(Zm (Z2 2 (Zg Jn (Zd 0) (Zd 1))) (Zm (Z2 0 (Zd 1)) (Z2 1 (Zd 2)))) [.val (.int a),.val (.int b),s2]=some (.nx [.val (.int b),.val (.int ((a:Int) % (b:Int))),.val (.int ((a:Int) % (b:Int)))]):=by
    simp -implicitDefEqProofs [d]
   rw [t,Option.bind_some,bd]
   exact ih
theorem ZgS {a b:Nat} (h:b < 3000):Zr [.int a,.int b]=some (.int (Nat.gcd a b:Nat)):=by
 obtain ⟨t2,e⟩:=Zbt 3000 a b .no h
 unfold Zr ZA Z6
 show (Zm _ _ [.val (.int a),.val (.int b),.no]).bind _=_
 rw [Zv,e]
 rfl
theorem Zg9 (i:Int):(if i < 0 then -i else i)=((i.natAbs:Nat):Int):=by omega
@[simp] theorem ZkC (i:Int):Zg1 [.int i]=some (.int (i.natAbs:Nat)):=by
 show some (D.int _)=_
 rw [Zg9]
noncomputable def WU (s:Pt×Pt):Int:=((Nat.gcd (s.2.1-s.1.1).natAbs (s.2.2-s.1.2).natAbs:Nat):Int)
theorem ZdE {s:Pt×Pt} (h1:Rg 1000 s.1) (h2:Rg 1000 s.2):ZD [sD s]=some (.int (WU s)):=by
 obtain ⟨⟨a1,a2⟩,a3,a4⟩:=h1
 obtain ⟨⟨b1,b2⟩,b3,b4⟩:=h2
 have g:=ZgS (a:=(s.2.1-s.1.1).natAbs) (b:=(s.2.2-s.1.2).natAbs) (by omega)
 unfold ZD ZA QJ WU
 show (Zm _ (Zm _ _) [.val (sD s),.no,.no]).bind _=_
 have e1:Z2 1 (ZV Zg1 (Zb (Zg J8 (Zg dIx (Zg dIx (Zd 0) (Zl (.int 1))) (Zl (.int 0))) (Zg dIx (Zg dIx (Zd 0) (Zl (.int 0))) (Zl (.int 0)))) Zq)) [.val (sD s),.no,.no]=some (.nx [.val (sD s),.val (.int ((s.2.1-s.1.1).natAbs:Nat)),.no]):=by simp -implicitDefEqProofs
 rw [Zv,e1]
 show (Zm _ _ [.val (sD s),.val (.int ((s.2.1-s.1.1).natAbs:Nat)),.no]).bind _=_
 have e2:Z2 2 (ZV Zg1 (Zb (Zg J8 (Zg dIx (Zg dIx (Zd 0) (Zl (.int 1))) (Zl (.int 1))) (Zg dIx (Zg dIx (Zd 0) (Zl (.int 0))) (Zl (.int 1)))) Zq)) [.val (sD s),.val (.int ((s.2.1-s.1.1).natAbs:Nat)),.no]=some (.nx [.val (sD s),.val (.int ((s.2.1-s.1.1).natAbs:Nat)),.val (.int ((s.2.2-s.1.2).natAbs:Nat))]):=by simp -implicitDefEqProofs
 rw [Zv,e2]
 show (Yr _ [.val (sD s),.val (.int ((s.2.1-s.1.1).natAbs:Nat)),.val (.int ((s.2.2-s.1.2).natAbs:Nat))]).bind _=_
 rw [Vp,ZdO]
 show (((Zr [.int ((s.2.1-s.1.1).natAbs:Nat),.int ((s.2.2-s.1.2).natAbs:Nat)])).map _).bind _=_
 rw [g]; rfl
theorem ZgQ {s:Pt×Pt} (h1:Rg 1000 s.1) (h2:Rg 1000 s.2):0<=WU s/\WU s<=4000:=by
 obtain ⟨⟨a1,a2⟩,a3,a4⟩:=h1
 obtain ⟨⟨b1,b2⟩,b3,b4⟩:=h2
 refine ⟨by unfold WU; omega,?_⟩
 unfold WU
 by_cases h:(s.2.1-s.1.1).natAbs=0
 ·rw [h,Nat.gcd_zero_left]; omega
 ·have:=Nat.gcd_le_left (s.2.2-s.1.2).natAbs (Nat.pos_of_ne_zero h)
  omega
theorem Zis:∀ (ss:List (Pt×Pt)) (s0:Sl),(∀ s∈ss,Rg 1000 s.1/\Rg 1000 s.2)->Y1 (ZW 0) ZS (dFn 1 ZD (Zb (Zd 0) Zq)) (ss.map sD) (s0::[])=some ((ss.map WU).map .int)
 | [],s0,_=>rfl
 | s::ss,s0,h=>by
  obtain ⟨h1,h2⟩:=h s List.mem_cons_self
  have e:=ZdE h1 h2
  have ih:=Zis ss (.val (sD s)) fun s hs=>h s (List.mem_cons_of_mem _ hs)
  simp -implicitDefEqProofs [Y1,e,ih]
theorem Ziu {ps:List Pt} (h0:ps.length<=1000) (hs:∀ p∈ps,Rg 1000 p):Zp [.tup (ps.map pD)]=some (.int ((Zw ps).map WU).sum):=by
 have hl:(Zw ps).length<=lim:=by rw [Qx]; exact Yt h0
 have sr:∀ s∈Zw ps,Rg 1000 s.1/\Rg 1000 s.2:=fun s hs'=>by
  obtain ⟨k,hk,rfl⟩:=List.mem_map.mp hs'
  have hk:=List.mem_range.mp hk
  have ne:ps≠[]:=fun z=>by rw [z] at hk; simp at hk
  exact ⟨hs _ (Yi ne _),hs _ (Yi ne _)⟩
 have cl:=Zis (Zw ps) .no sr
 have su:=Zhu (ns:=(Zw ps).map WU) (by simp [Qx]; exact h0) fun n hn=>by
  obtain ⟨s,hs',rfl⟩:=List.mem_map.mp hn
  have:=ZgQ (sr s hs').1 (sr s hs').2
  omega
 unfold Zp ZA QK
 show (Yr _ [.val (.tup (ps.map pD))]).bind _=_
 have e1:(Qt [none] (Yq (dFn 1 ZT (Zb (Zd 0) Zq))) (ZW 0) ZS (dFn 1 ZD (Zb (Zd 0) Zq))) [.val (.tup (ps.map pD))]=some (.lst (((Zw ps).map WU).map .int)):=by
  have i:Yq (dFn 1 ZT (Zb (Zd 0) Zq)) [.val (.tup (ps.map pD))]=some ((Zw ps).map sD):=QY (by simp -implicitDefEqProofs [JR h0]; rfl) rfl
  rw [ZaN,i,Option.bind_some,if_pos (by rw [List.length_map]; exact hl)]
  have cl':Y1 (ZW 0) ZS (dFn 1 ZD (Zb (Zd 0) Zq)) ((Zw ps).map sD) (Jj [none] [.val (.tup (ps.map pD))])=_:=cl
  rw [cl']; rfl
 rw [Vp,UK,Qb,e1]
 show ((ZfT [.lst (((Zw ps).map WU).map .int)]).map _).bind _=_
 rw [su]; rfl
noncomputable def ZhU (f:Pt×Pt->Int):List Pt->Int
 | a::b::r=>f (a,b)+ZhU f (b::r)
 | _=>0
theorem Uk (f:Pt×Pt->Int) (ps:List Pt):∀ (ys:List Pt) (k:Nat),ps.drop k=ys->((Yf ps k ys).map f).sum=ZhU f (ys++[cyc ps 0])
 | [],k,_=>rfl
 | [a],k,h=>by
  have hk:k+1=ps.length:=by
   have:=congrArg List.length h
   simp at this; omega
  have e:cyc ps ((k:Int)+1)=cyc ps 0:=by
   have:=Yc ps 0
   rw [Int.zero_add] at this
   rw [<-this]
   congr 1
   omega
  simp [Yf,e,ZhU]
 | a::b::r,k,h=>by
  have hk:k < ps.length:=by
   by_cases z:k < ps.length
   ·exact z
   ·rw [List.drop_eq_nil_of_le (by omega)] at h; cases h
  rw [List.drop_eq_getElem_cons hk] at h
  injection h with h1 h2
  have hk1:k+1 < ps.length:=by
   by_cases z:k+1 < ps.length
   ·exact z
   ·rw [List.drop_eq_nil_of_le (by omega)] at h2; cases h2
  have h2':=h2
  rw [List.drop_eq_getElem_cons hk1] at h2'
  injection h2' with h3 _
  have ih:=Uk f ps (b::r) (k+1) h2
  have e1:cyc ps ((k:Int)+1)=b:=by
   have:=ZL hk1
   rw [<-h3,<-this]; rfl
  have ih':((Yf ps ((k:Int)+1) (b::r)).map f).sum=ZhU f (b::r++[cyc ps 0]):=ih
  conv=>lhs; unfold Yf
  rw [List.map_cons,List.sum_cons,e1,ih']
  rfl
noncomputable def around (f:Pt×Pt->Int):List Pt->Int
 | []=>0
 | a::r=>ZhU f (a::r++[a])
theorem Wt (f:Pt×Pt->Int) {ps:List Pt} (hne:ps≠[]):((Zw ps).map f).sum=around f ps:=by
 rw [<-VI ((Jq hne).map f)]
 cases ps with
 | nil=>exact absurd rfl hne
 | cons a r=>
  have:=Uk f (a::r) (a::r) 0 rfl
  have e:Yf (a::r) ((0:Nat):Int) (a::r)=Yf (a::r) 0 (a::r):=rfl
  rw [e] at this
  rw [this]
  have e0:cyc (a::r) 0=a:=ZL (ps:=a::r) (k:=0) (by simp)
  rw [e0]
  rfl
theorem JV {ps:List Pt} (hne:ps≠[]):We ps=around ZK ps:=by
 rw [Zch hne,Wt _ hne]
theorem ZdS {ps:List Pt} (hd:ps.Nodup) (hne:ps≠[]) {i j:Int} (h:cyc ps i=cyc ps j):i % (ps.length:Int)=j % (ps.length:Int):=by
 have hn:0 < (ps.length:Int):=by have:=List.length_pos_iff.mpr hne; omega
 have a1:=Int.emod_nonneg i (show (ps.length:Int)≠0 by omega)
 have a2:=Int.emod_lt_of_pos i hn
 have b1:=Int.emod_nonneg j (show (ps.length:Int)≠0 by omega)
 have b2:=Int.emod_lt_of_pos j hn
 rw [<-UL ps i,<-UL ps j] at h
 obtain ⟨a,ha⟩:∃ a:Nat,(a:Int)=i % (ps.length:Int):=⟨(i % (ps.length:Int)).toNat,by omega⟩
 obtain ⟨b,hb⟩:∃ b:Nat,(b:Int)=j % (ps.length:Int):=⟨(j % (ps.length:Int)).toNat,by omega⟩
 rw [<-ha,<-hb] at h ⊢
 rw [ZL (show a < ps.length by omega),ZL (show b < ps.length by omega)] at h
 have:=(List.getElem_inj hd).mp h
 omega
theorem ZiB (ps:List Pt) (m c:Int):cyc ps (m % (ps.length:Int)+c)=cyc ps (m+c):=by
 unfold cyc
 rw [Int.emod_add_emod]
noncomputable def rp (ps:List Pt) (k:Int) (i:Nat):Pt:=cyc ps ((i:Int)+k)
theorem ZhC {ps:List Pt} (k:Int) {i:Nat} (hi:i < ps.length):rp ps k (Pg.nx ps.length i)=cyc ps ((i:Int)+k+1):=by
 unfold rp Pg.nx
 split
 next h=>
  have:=Yc ps (((0:Nat):Int)+k)
  rw [<-this]
  congr 1
  omega
 next h=>congr 1; omega
theorem Zgm {ps:List Pt} (k:Int) {i:Nat} (hi:i < ps.length):rp ps k (Pg.nx ps.length (Pg.nx ps.length i))=cyc ps ((i:Int)+k+2):=by
 rw [ZhC k (Pg.nx_lt hi)]
 unfold Pg.nx
 split
 next h=>
  have:=Yc ps (((0:Nat):Int)+k+1)
  rw [<-this]
  congr 1
  omega
 next h=>congr 1; omega
theorem VU (p q:Pt):ltZ p q=true ↔ Pg.lexlt p q:=by unfold ltZ Pg.lexlt; simp
theorem Wb:∀ (xs:List Pt) (b:Pt),∀ x∈b::xs,¬ Pg.lexlt x (Wc b xs)
 | [],b,x,h=>by
  rw [List.mem_singleton] at h; subst h
  unfold Wc Pg.lexlt; omega
 | y::ys,b,x,h=>by
  unfold Wc
  cases hl:ltZ y b with
  | true=>
   have ih:=Wb ys y
   simp only [if_true]
   rcases List.mem_cons.mp h with rfl | h
   ·have i0:=ih y List.mem_cons_self
    have l:=(VU _ _).mp hl
    unfold Pg.lexlt at *; omega
   ·exact ih x h
  | false=>
   have ih:=Wb ys b
   simp only [Bool.false_eq_true,if_false]
   rcases List.mem_cons.mp h with rfl | h
   ·exact ih x List.mem_cons_self
   ·rcases List.mem_cons.mp h with rfl | h
    ·have i0:=ih b List.mem_cons_self
     have l:¬ Pg.lexlt x b:=fun z=>by rw [(VU _ _).mpr z] at hl; cases hl
     unfold Pg.lexlt at *; omega
    ·exact ih x (List.mem_cons_of_mem _ h)
theorem ZaF {ps:List Pt} (hne:ps≠[]):∀ x∈ps,¬ Pg.lexlt x (Y9 ps):=by
 cases ps with
 | nil=>exact absurd rfl hne
 | cons b xs=>exact Wb xs b
theorem ZfM {a b:Pt} (h1:¬ Pg.lexlt a b) (h2:a≠b):Pg.lexlt b a:=by
 have:a.1≠b.1\/a.2≠b.2:=by
  apply Classical.byContradiction; intro z
  apply h2
  exact Prod.ext (by omega) (by omega)
 unfold Pg.lexlt at *
 omega
theorem Zgc (f:Nat->Int):∀ (n:Nat),((List.range n).map f).sum=Pg.S n f
 | 0=>rfl
 | n+1=>by
  rw [List.range_succ,List.map_append,List.sum_append,Zgc f n]
  simp [Pg.S]
theorem ZbI (g:Int->Int):∀ (n:Nat),Pg.S n (fun i=>g ((i:Int)+1))+g 0=Pg.S n (fun i=>g i)+g n
 | 0=>rfl
 | n+1=>by
  have ih:=ZbI g n
  simp only [Pg.S]
  have:((n+1:Nat):Int)=(n:Int)+1:=by omega
  rw [this]
  omega
theorem Zd8 (n:Nat):∀ (k:Nat) (g:Int->Int),(∀ i,g (i+n)=g i)->Pg.S n (fun i=>g ((i:Int)+k))=Pg.S n (fun i=>g i)
 | 0,g,h=>Pg.S_congr fun j _=>by simp
 | k+1,g,h=>by
  have ih:=Zd8 n k (fun i=>g (i+1)) fun i=>by
   show g (i+n+1)=g (i+1)
   rw [show i+(n:Int)+1=i+1+n by omega,h]
  have s:=ZbI g n
  have z:=h 0
  rw [Int.zero_add] at z
  have e:Pg.S n (fun i=>g ((i:Int)+((k+1:Nat):Int)))=Pg.S n (fun i=>g ((i:Int)+k+1)):=Pg.S_congr fun j _=>by congr 1
  rw [e]
  have ih':Pg.S n (fun i=>g ((i:Int)+k+1))=Pg.S n (fun i=>g ((i:Int)+1)):=ih
  rw [ih']
  omega
theorem Zg7 (ps:List Pt):We ps=Pg.S ps.length (fun (j:Nat)=>ZK (YC ps (j:Int))):=by
 have e:=YH ps ps 0 rfl
 unfold We
 rw [Q2]
 have e':Yf ps ((0:Nat):Int) ps=Yf ps 0 ps:=rfl
 rw [<-e',e,List.map_map,<-Zgc]
 congr 1
 apply List.map_congr_left
 intro j _
 simp only [Function.comp,Nat.zero_add]
theorem ZdR (xs ys:List Pt) (hne:xs++ys≠[]) (i:Int):cyc (ys++xs) i=cyc (xs++ys) (i+xs.length):=by
 have hn:0 < ((xs++ys).length:Int):=by have:=List.length_pos_iff.mpr hne; omega
 have hl:(ys++xs).length=(xs++ys).length:=by simp; omega
 have a1:=Int.emod_nonneg i (show ((xs++ys).length:Int)≠0 by omega)
 have a2:=Int.emod_lt_of_pos i hn
 obtain ⟨a,ha⟩:∃ a:Nat,(a:Int)=i % ((xs++ys).length:Int):=⟨(i % ((xs++ys).length:Int)).toNat,by omega⟩
 rw [<-UL (ys++xs) i,hl,<-ha,ZL (show a < (ys++xs).length by omega),<-ZiB (xs++ys) i xs.length,<-ha]
 simp only [List.length_append] at a2 ha hn
 by_cases c:a < ys.length
 ·rw [show (a:Int)+(xs.length:Int)=((xs.length+a:Nat):Int) by omega,ZL (show xs.length+a < (xs++ys).length by simp; omega)]
  rw [List.getElem_append_left c,List.getElem_append_right (by omega)]
  simp
 ·have e:=Yc (xs++ys) ((a:Int)+xs.length-(xs++ys).length)
  rw [Int.sub_add_cancel] at e
  rw [e]
  have:(a:Int)+xs.length-(xs++ys).length=((a-ys.length:Nat):Int):=by simp; omega
  rw [this,ZL (show a-ys.length < (xs++ys).length by simp; omega)]
  rw [List.getElem_append_right (by omega),List.getElem_append_left (by omega)]
theorem V6 {ps:List Pt} (hne:ps≠[]) (i:Int):cyc ps.reverse i=cyc ps (-1-i):=by
 have hn:0 < (ps.length:Int):=by have:=List.length_pos_iff.mpr hne; omega
 have a1:=Int.emod_nonneg i (show (ps.length:Int)≠0 by omega)
 have a2:=Int.emod_lt_of_pos i hn
 obtain ⟨a,ha⟩:∃ a:Nat,(a:Int)=i % (ps.length:Int):=⟨(i % (ps.length:Int)).toNat,by omega⟩
 have e0:cyc ps (-1-i)=cyc ps (-1-i % (ps.length:Int)):=by
  unfold cyc
  rw [Int.sub_emod,Int.sub_emod (-1) (i % (ps.length:Int)),Int.emod_emod]
 rw [<-UL ps.reverse i,List.length_reverse,e0,<-ha,ZL (show a < ps.reverse.length by simp; omega)]
 have e:=Yc ps (-1-(a:Int))
 rw [<-e,show -1-(a:Int)+ps.length=((ps.length-1-a:Nat):Int) by omega,ZL (show ps.length-1-a < ps.length by omega)]
 rw [List.getElem_reverse]
noncomputable def mv (u v:Int) (p:Pt):Pt:=(p.1+u,p.2+v)
end Pl
namespace Pg
noncomputable instance (a b:P2):Decidable (lexlt a b):=by unfold lexlt; infer_instance
section
variable {a0 b0:Int} {A N:Nat} {l h:P2}
end
noncomputable def Zf0 (s e:P2) (a b:Int):Prop:=if e.1 < s.1 then (e.1<=a/\a < s.1)/\0 < turn e s (a,b) else (s.1<=a/\a < e.1)/\0 < turn s e (a,b)
noncomputable instance (s e:P2) (a b:Int):Decidable (Zf0 s e a b):=by unfold Zf0; infer_instance
section
variable {n:Nat} {p:Nat->P2} {M:Int}
end
end Pg
namespace Pl
open PySem PySem.Spec PyProof.Rows L2 L3
theorem ZcG (f:Pt×Pt->Int) {ps:List Pt} (hne:ps≠[]) (k:Nat):((Zw ps).map f).sum=Pg.S ps.length (fun (j:Nat)=>f (YC ps ((j:Int)+k))):=by
 have p:=VI ((Jq hne).map f)
 rw [<-p]
 have e:=YH ps ps 0 rfl
 have e':Yf ps ((0:Nat):Int) ps=Yf ps 0 ps:=rfl
 rw [<-e',e,List.map_map]
 rw [Zd8 ps.length k (fun i=>f (YC ps i)) (fun i=>by
  unfold YC
  rw [Yc,show i+(ps.length:Int)+1=i+1+ps.length by omega,Yc]),<-Zgc]
 congr 1
 apply List.map_congr_left
 intro j _
 simp only [Function.comp,Nat.zero_add]
theorem ZdD {l:List Pt} (hne:l≠[]) (hl:l.length<=1000):ZQ [.lst (l.map pD)]=some (.tup ((QU l).map pD)):=by
 have m:=ZfG hne (c:=.lst (l.map pD)) rfl
 have i:=Zdq (YJ hne) hl
 obtain ⟨k1,_⟩:=VX (YJ hne)
 have c1:=ZbD (l.map pD) (Q3 (Y9 l) l) (by simp; omega)
 have c2:=ZfZ (l.map pD) (Q3 (Y9 l) l) (by simp; omega)
 have s1:∀ lo hi,ZgZ lo hi (.lst (l.map pD))=some (.lst (cutD (l.map pD) lo hi)):=fun _ _=>rfl
 have ad:Yh (.lst ((l.map pD).drop (Q3 (Y9 l) l))) (.lst ((l.map pD).take (Q3 (Y9 l) l)))=some (.lst ((QU l).map pD)):=by
  show (if _ then _ else _)=_
  rw [if_pos (by simp; exact Yt (by omega))]
  unfold QU
  rw [List.map_append,List.map_drop,List.map_take]
 unfold ZQ ZA Jd
 show (Zm _ _ [.val (.lst (l.map pD)),.no]).bind _=_
 have e1:Z2 1 (Zg W5 (Zd 0) (ZV W4 (Zb (Zd 0) Zq))) [.val (.lst (l.map pD)),.no]=some (.nx [.val (.lst (l.map pD)),.val (.int (Q3 (Y9 l) l:Nat))]):=by
  simp -implicitDefEqProofs [m,i]
 rw [Zv,e1]
 show (Yr _ [.val (.lst (l.map pD)),.val (.int (Q3 (Y9 l) l:Nat))]).bind _=_
 have e2:(Zg Yh (dSl (Zd 0) (Yv (Zd 1)) Yw) (dSl (Zd 0) Yw (Yv (Zd 1)))) [.val (.lst (l.map pD)),.val (.int (Q3 (Y9 l) l:Nat))]=some (.lst ((QU l).map pD)):=by
  simp only [Vq,ZgY,ZdN,ZaC,ZaD,List.getElem?_cons_succ,List.getElem?_cons_zero,Option.bind_some,s1,c1,c2,ad]
 rw [Vp,UK,Qb,e2]
 rfl
theorem Zdi {g:Pt->Pt} {f:DE} {ex:List Sl} (h:∀ p,f (.val (pD p)::ex)=some (pD (g p))):∀ (ys:List Pt) (s0:Sl),Y1 (ZW 0) ZS f (ys.map pD) (s0::ex)=some ((ys.map g).map pD)
 | [],s0=>rfl
 | y::ys,s0=>by
  have ih:=Zdi h ys (.val (pD y))
  simp -implicitDefEqProofs [Y1,h,ih]
theorem ZbE {caps:List (Option Nat)} {it:DI} {b:DG} {f:DE} {ρ:Rho} {xs ys:List D} (hi:it ρ=some xs) (hx:xs.length<=1000) (hc:Y1 b ZS f xs (Jj caps ρ)=some ys):Qt caps it b ZS f ρ=some (.lst ys):=by
 rw [ZaN,hi,Option.bind_some,if_pos (Yt hx),hc]; rfl
theorem Zdk {e:DE} {ρ:Rho} {l:List Pt} (h:e ρ=some (.lst (l.map pD))) (hne:l≠[]) (hl:l.length<=1000):(Yr (dFn 1 ZQ (Zb e Zq))) ρ=some (.rt (.tup ((QU l).map pD))):=by
 rw [Vp,ZdO,Qb,h]
 show (ZQ [.lst (l.map pD)]).map _=_
 rw [ZdD hne hl]; rfl
theorem ZiZ (ps:List Pt):okD (.tup (ps.map pD))=true:=(ZgD fun d hd=>by obtain ⟨n,_,rfl⟩:=List.mem_map.mp hd; exact ZfF n).1
theorem ZgW:∀ (ps:List Pt),deq (.tup (ps.map pD)) (.tup (ps.map pD))=true:=fun ps=>by
 show PyData.eqv (.tuple (Qf (ps.map pD))) (.tuple (Qf (ps.map pD)))=true
 simp only [PyData.eqv]
 induction ps with
 | nil=>rfl
 | cons p r ih=>
  have e:=ZfS p p
  simp only [List.map_cons,Qf,PyData.eqvAll,Bool.and_eq_true_iff]
  exact ⟨by rw [show PyData.eqv (JD (pD p)) (JD (pD p))=deq (pD p) (pD p) from rfl,e]; simp,ih⟩
theorem Zdd (ps:List Pt):UZ (.tup (ps.map pD)) (.tup (ps.map pD))=some (.bl false):=by
 unfold UZ
 rw [ZiZ,ZgW]; rfl
theorem Zdr {l:List Pt} (h:0<=around ZK l) (hne:l≠[]):WP l=QU l:=by
 unfold WP
 rw [JV hne,if_neg (by omega)]
theorem UF {ps:List Pt} {u v:Int} (hne:ps≠[]) (hl:ps.length<=1000):ZZ [.tup (ps.map pD),pD (u,v)]=some (.tup ((QU (ps.map (mv u v))).map pD)):=by
 unfold ZZ ZA Zdv
 show (Yr _ [.val (.tup (ps.map pD)),.val (pD (u,v))]).bind _=_
 rw [Zdk (l:=ps.map (mv u v)) (ZbE (xs:=ps.map pD) rfl (by simpa using hl) (Zdi (ex:=[.val (pD (u,v))]) (g:=mv u v) (fun p=>by simp -implicitDefEqProofs; rfl) ps .no)) (by simpa using hne) (by simpa using hl)]
 rfl
noncomputable def Rt (l m:List Pt):Prop:=l≠[]/\m.length=l.length/\∃ k:Int,∀ i,cyc m i=cyc l (i+k)
theorem Rt.ne {l m:List Pt} (h:Rt l m):m≠[]:=fun z=>by
 have:=h.2.1
 rw [z] at this
 exact h.1 (List.eq_nil_of_length_eq_zero this.symm)
theorem Rt.trans {l m n:List Pt} (h:Rt l m) (h':Rt m n):Rt l n:=by
 obtain ⟨a,b,k,c⟩:=h
 obtain ⟨a',b',k',c'⟩:=h'
 exact ⟨a,b'.trans b,k'+k,fun i=>by rw [c',c,Int.add_assoc]⟩
theorem Jr {l:List Pt} (hne:l≠[]):Rt l (QU l):=by
 have e:=List.take_append_drop (Q3 (Y9 l) l) l
 refine ⟨hne,(ZcP l).length_eq,(l.take (Q3 (Y9 l) l)).length,fun i=>?_⟩
 have:=ZdR (l.take (Q3 (Y9 l) l)) (l.drop (Q3 (Y9 l) l)) (by rw [e]; exact hne) i
 rw [e] at this
 exact this
theorem ZfX {l:List Pt} {x:Pt} (h:x∈l):∃ i:Int,x=cyc l i:=by
 obtain ⟨i,hi,e⟩:=List.getElem_of_mem h
 exact ⟨i,by rw [ZL hi,e]⟩
theorem Rt.mem {l m:List Pt} (h:Rt l m) {x:Pt}:x∈m ↔ x∈l:=by
 have hm:=h.ne
 obtain ⟨a,b,k,c⟩:=h
 constructor
 ·intro q
  obtain ⟨i,rfl⟩:=ZfX q
  rw [c]; exact Yi a _
 ·intro q
  obtain ⟨i,rfl⟩:=ZfX q
  have:=c (i-k)
  rw [Int.sub_add_cancel] at this
  rw [<-this]; exact Yi hm _
theorem Ux {l m:List Pt} (hl:l≠[]) (hm:m≠[]) (h:∀ x,x∈m ↔ x∈l):Y9 m=Y9 l:=by
 by_cases e:Y9 m=Y9 l
 ·exact e
 ·have h1:=ZaF hl (Y9 m) ((h _).mp (YJ hm))
  have h2:=ZaF hm (Y9 l) ((h _).mpr (YJ hl))
  exact absurd (ZfM h1 e) h2
theorem ZdQ {l:List Pt} (hne:l≠[]):cyc (QU l) 0=Y9 l:=by
 obtain ⟨h1,h2⟩:=VX (YJ hne)
 have e:=List.take_append_drop (Q3 (Y9 l) l) l
 have:=ZdR (l.take (Q3 (Y9 l) l)) (l.drop (Q3 (Y9 l) l)) (by rw [e]; exact hne) 0
 rw [e,List.length_take,Nat.min_eq_left (by omega),Int.zero_add] at this
 unfold QU
 rw [this,ZL h1]
 rw [List.getElem?_eq_getElem h1] at h2
 exact Option.some.inj h2
theorem ZdP {l:List Pt} (hne:l≠[]):cyc (QU l) 0=Y9 (QU l):=by
 rw [ZdQ hne]
 exact (Ux hne (Jr hne).ne fun x=>(Jr hne).mem).symm
theorem Zi9 {l m:List Pt} (hd:l.Nodup) (h:Rt l m) (h0:cyc l 0=Y9 l) (h1:cyc m 0=Y9 m):m=l:=by
 have hm:=h.ne
 have e:=Ux h.1 hm fun x=>h.mem
 obtain ⟨a,b,k,c⟩:=h
 have z:cyc l k=cyc l 0:=by rw [h0,<-e,<-h1,c,Int.zero_add]
 have zk:=ZdS hd a z
 have cc:∀ i,cyc m i=cyc l i:=fun i=>by
  rw [c]
  have:(i+k) % (l.length:Int)=i % (l.length:Int):=by
   rw [Int.add_emod,zk,Int.zero_emod,Int.add_zero,Int.emod_emod_of_dvd _ (Int.dvd_refl _)]
  unfold cyc; rw [this]
 refine List.ext_getElem b fun i h1 h2=>?_
 rw [<-ZL h1,<-ZL h2]; exact cc i
theorem Zet {ps m:List Pt} (hd:ps.Nodup) (h0:cyc ps 0=Y9 ps) (r:Rt ps m):QU m=ps:=
 Zi9 hd (r.trans (Jr r.ne)) h0 (ZdP r.ne)
noncomputable def wlT:DT:=(Q4 1 (ZbQ (ZR (Zg dGt (ZV UJ (Zb (Zd 1) Zq)) (Zl (.int 1)))) (Zek (ZR (dFn 3 Yd (Zb (Zg dIx (Zd 1) (QG UY (Zl (.int 2)))) (Zb (Zg dIx (Zd 1) (QG UY (Zl (.int 1)))) (Zb (Zd 2) Zq))))))))
theorem ZiR (c s:Sl) (ds:List D):L3.rel 1 [c,.own ds,s]=[c,.val (.lst ds),s]:=rfl
theorem Uy (ds:List D):UJ [.lst ds]=some (.int ds.length):=rfl
theorem Zhj (c:Sl) (ds:List D) (s:Pt) (h:ds.length<=1):wlT [c,.own ds,.val (pD s)]=some false:=by
 unfold wlT Q4
 rw [ZiR]
 have h':¬ (1 < (ds.length:Int)):=by omega
 have d:ZR (Zg dGt (ZV UJ (Zb (Zd 1) Zq)) (Zl (.int 1))) [c,.val (.lst ds),.val (pD s)]=some false:=by
  simp -implicitDefEqProofs [Uy]; omega
 rw [Vy,d]; rfl
theorem ZiY (c:Sl) {a b s:Pt} {r:List Pt} (ha:Sm a) (hb:Sm b) (hs:Sm s):wlT [c,.own (((b::a::r).reverse).map pD),.val (pD s)]=some (!decide (0 < Z8 a b s)):=by
 have hne:(b::a::r)≠[]:=by simp
 have i1:dIx (.lst (((b::a::r).reverse).map pD)) (.int (-1))=some (pD b):=by
  rw [VW (by simp; omega) (by simp; omega),V6 hne]
  have:cyc (b::a::r) (-1 - -1)=b:=ZL (ps:=b::a::r) (k:=0) (by simp)
  rw [this]
 have i2:dIx (.lst (((b::a::r).reverse).map pD)) (.int (-2))=some (pD a):=by
  rw [VW (by simp; omega) (by simp; omega),V6 hne]
  have:cyc (b::a::r) (-1 - -2)=a:=ZL (ps:=b::a::r) (k:=1) (by simp)
  rw [this]
 have t:=U5 ha hb hs
 have l:(1:Int) < ((((b::a::r).reverse).map pD).length:Int):=by simp; omega
 unfold wlT Q4
 rw [ZiR]
 generalize ((b::a::r).reverse).map pD=ds at i1 i2 l
 have d:ZR (Zg dGt (ZV UJ (Zb (Zd 1) Zq)) (Zl (.int 1))) [c,.val (.lst ds),.val (pD s)]=some true:=by
  simp -implicitDefEqProofs [Uy]; omega
 rw [Vy,d,Option.bind_some]
 simp -implicitDefEqProofs [i1,i2,t]
theorem Zbj (c:Sl) {s:Pt} (hs:Sm s):∀ (w:List Pt) (m:Nat),w.length < m->All Sm w->ZJ wlT (UX 1) m [c,.own (w.reverse.map pD),.val (pD s)]=some (.nx [c,.own ((Hu.popT w s).reverse.map pD),.val (pD s)])
 | w,0,h,_=>absurd h (Nat.not_lt_zero _)
 | [],m+1,_,_=>by
  unfold ZJ
  rw [Zhj _ _ _ (by simp)]; rfl
 | [a],m+1,_,_=>by
  unfold ZJ
  rw [Zhj _ _ _ (by simp)]; rfl
 | b::a::r,m+1,h,hw=>by
  have hb:=hw b List.mem_cons_self
  have ha:=hw a (List.mem_cons_of_mem _ List.mem_cons_self)
  have t:=ZiY c (r:=r) ha hb hs
  conv=>lhs; unfold ZJ
  rw [t,Option.bind_some]
  by_cases q:0 < Z8 a b s
  ·have e:Hu.popT (b::a::r) s=b::a::r:=by unfold Hu.popT; rw [if_pos (show 0 < Pg.turn a b s from q)]
   rw [e,decide_eq_true q]; rfl
  ·have e:Hu.popT (b::a::r) s=Hu.popT (a::r) s:=by conv=>lhs; unfold Hu.popT; rw [if_neg (show ¬ 0 < Pg.turn a b s from q)]
   have ih:=Zbj c hs (a::r) m (by simp at h ⊢; omega) fun p hp=>hw p (List.mem_cons_of_mem _ hp)
   rw [e,decide_eq_false q]
   have p:UX 1 [c,.own (((b::a::r).reverse).map pD),.val (pD s)]=some (.nx [c,.own (((a::r).reverse).map pD),.val (pD s)]):=by
    unfold UX
    have z:((b::a::r).reverse).map pD=((a::r).reverse).map pD++[pD b]:=by simp
    rw [z]
    simp
   show (match UX 1 _ with | some (.nx ρ')=>ZJ wlT (UX 1) m ρ' | some (.ct ρ')=>ZJ wlT (UX 1) m ρ' | some (.bk ρ')=>some (.nx ρ') | r=>r)=_
   rw [p]
   exact ih
theorem Za5 (c:Sl):∀ (ys w:List Pt) (s2:Sl),All Sm ys->All Sm w->w.length+ys.length<=1000->∃ t2,
  UW (ZW 2) (Zm (ZJ wlT (UX 1) 3000) (Zbz 1 (Zd 2))) (ys.map pD) [c,.own (w.reverse.map pD),s2]=some (.nx [c,.own ((Hu.stk w ys).reverse.map pD),t2])
 | [],w,s2,_,_,_=>⟨s2,rfl⟩
 | s::ys,w,s2,hy,hw,hl=>by
  have hs:=hy s List.mem_cons_self
  have pl:(Hu.popT w s).length<=w.length/\All Sm (Hu.popT w s):=by
   clear hl
   induction w with
   | nil=>exact ⟨Nat.le_refl _,hw⟩
   | cons b w ih=>
    cases w with
    | nil=>exact ⟨Nat.le_refl _,hw⟩
    | cons a r=>
     obtain ⟨i1,i2⟩:=ih fun p hp=>hw p (List.mem_cons_of_mem _ hp)
     unfold Hu.popT
     split
     ·exact ⟨Nat.le_refl _,hw⟩
     ·exact ⟨Nat.le_succ_of_le i1,i2⟩
  obtain ⟨t2,ih⟩:=Za5 c ys (s::Hu.popT w s) (.val (pD s)) (fun p hp=>hy p (List.mem_cons_of_mem _ hp)) (fun p hp=>by
   rcases List.mem_cons.mp hp with q | q
   ·rw [q]; exact hs
   ·exact pl.2 p q) (by simp at hl ⊢; omega)
  refine ⟨t2,?_⟩
  simp only [List.map_cons,UW,UP,List.set_cons_zero,List.set_cons_succ,Option.bind_some]
  rw [Zv,Zbj c hs w 3000 (by simp at hl; omega) hw]
  have ap:Zbz 1 (Zd 2) [c,.own ((Hu.popT w s).reverse.map pD),.val (pD s)]=some (.nx [c,.own (((s::Hu.popT w s).reverse).map pD),.val (pD s)]):=by
   unfold Zbz
   have hl':((Hu.popT w s).reverse.map pD).length < lim:=by
    have:((Hu.popT w s).reverse.map pD).length < 2000:=by simp at hl ⊢; omega
    unfold lim; omega
   simp -implicitDefEqProofs
   simpa using hl'
  dsimp only
  rw [ap]
  exact ih
theorem ZdA {ps:List Pt} (hs:All Sm ps) (hl:ps.length<=1000):Zn [.lst (ps.map pD)]=some (.lst ((Hu.stk [] ps).reverse.map pD)):=by
 obtain ⟨t2,e⟩:=Za5 (.val (.lst (ps.map pD))) ps [] .no hs (fun p hp=>by cases hp) (by simpa using hl)
 unfold Zn ZA YK
 show (Zm _ (Zm _ _) [.val (.lst (ps.map pD)),.no,.no]).bind _=_
 rw [Zv]
 have e0:YV 1 Zq [.val (.lst (ps.map pD)),.no,.no]=some (.nx [.val (.lst (ps.map pD)),.own [],.no]):=by
  unfold YV
  simp -implicitDefEqProofs
 rw [e0]
 show (Zm (Zco _ _ (Zm (ZJ wlT (UX 1) 3000) (Zbz 1 (Zd 2)))) _ [.val (.lst (ps.map pD)),.own [],.no]).bind _=_
 rw [Zv,W6]
 have e1:Yq (Zd 0) [.val (.lst (ps.map pD)),.own [],.no]=some (ps.map pD):=QY rfl rfl
 have e':UW (ZW 2) (Zm (ZJ wlT (UX 1) 3000) (Zbz 1 (Zd 2))) (ps.map pD) [.val (.lst (ps.map pD)),.own [],.no]=_:=e
 rw [e1,Option.bind_some,e']
 rfl
end Pl
namespace HT
open PySem PyProof.Rows
section
open PySem.SeqAt
open PySem.AutoSeq1 (wpAny_loadPart')
open PySem.MeetsSeq PySem.MeetsSeq2 PySem.MeetsSeq3
end
section
variable {prog:Program} {w:World} {A:Around} {E:Value->Shared->Prop} {s:Shared}
end
end HT
namespace L3
open PySem PySem.Spec PyProof.Rows L2
section
variable {X:Cx} {pins:List (Addr×Obj)} {σ:L2.St} {H:Hp} {s:Shared} {F:Fz}
end
end L3
namespace Pl
open PySem PySem.Spec PyProof.Rows L2 L3
noncomputable def pk (p:Pt):List Int:=[p.1,p.2]
theorem Zbq:∀ ps:List Pt,Q7 (ps.map pD)=some (ps.map pk)
 | []=>rfl
 | p::ps=>by
  have ih:=Zbq ps
  show (Qp [.int p.1,.int p.2]).bind (fun k=>(Q7 (ps.map pD)).map (k::·))=_
  rw [ih]; rfl
theorem ZfL (p q:Pt):HT.lexLt (pk p) (pk q)=ltZ p q:=ZfJ p q
theorem Jp (ps:List Pt):∃ rs:List Pt,ZbR (ps.map pk)=rs.map pk/\rs.Pairwise Pg.lexlt/\(∀ x,x∈rs ↔ x∈ps):=by
 have two:∀ k∈ps.map pk,k.length=2:=fun k hk=>by obtain ⟨p,_,rfl⟩:=List.mem_map.mp hk; rfl
 have ris:=Qw two
 have mem:∀ x,x∈ZbR (ps.map pk) ↔ x∈ps.map pk:=fun x=>srtK_mem
 have dec:∀ l:List (List Int),(∀ k∈l,k∈ps.map pk)->∃ rs:List Pt,l=rs.map pk:=by
  intro l
  induction l with
  | nil=>exact fun _=>⟨[],rfl⟩
  | cons k l ih=>
   intro h
   obtain ⟨rs,e⟩:=ih fun x hx=>h x (List.mem_cons_of_mem _ hx)
   obtain ⟨p,_,ep⟩:=List.mem_map.mp (h k List.mem_cons_self)
   exact ⟨p::rs,by rw [e,<-ep]; rfl⟩
 obtain ⟨rs,e⟩:=dec _ fun k hk=>(mem k).mp hk
 have pinj:∀ p q:Pt,pk p=pk q->p=q:=fun p q h=>by
  unfold pk at h
  simp at h
  exact Prod.ext h.1 h.2
 refine ⟨rs,e,?_,fun x=>?_⟩
 ·rw [e] at ris
  unfold Zfn at ris
  rw [List.pairwise_map] at ris
  exact ris.imp fun {a b} h=>(VU a b).mp (by rw [<-ZfL]; exact h)
 ·have:=mem (pk x)
  rw [e,List.mem_map,List.mem_map] at this
  constructor
  ·intro h
   obtain ⟨y,hy,ey⟩:=this.mp ⟨x,h,rfl⟩
   rw [<-pinj _ _ ey]; exact hy
  ·intro h
   obtain ⟨y,hy,ey⟩:=this.mpr ⟨x,h,rfl⟩
   rw [<-pinj _ _ ey]; exact hy
theorem Wr {ps rs:List Pt} {c:D} (hc:YN c=some (ps.map pD)) (hl:ps.length<=64) (h:ZbR (ps.map pk)=rs.map pk):YL c=some (.lst (rs.map pD)):=by
 unfold YL
 rw [hc,Option.bind_some,Zbq,Option.bind_some,if_pos ⟨by simpa using hl,by simp [pk]⟩,h,List.map_map]
 rfl
theorem ZbB {α:Type} (xs:List α):cutD xs none (some (-1))=xs.dropLast:=by
 unfold L3.cutD
 rw [HT.sIx_none]
 show (xs.drop 0).take (((-1:Int)+(xs.length:Int)).toNat-0)=_
 rw [List.dropLast_eq_take,List.drop_zero]
 congr 1
 omega
theorem ZcX (s:Pt):∀ w:List Pt,(Hu.popT w s).length<=w.length
 | []=>Nat.le_refl _
 | [a]=>Nat.le_refl _
 | b::a::r=>by
  unfold Hu.popT
  split
  ·exact Nat.le_refl _
  ·exact Nat.le_succ_of_le (ZcX s (a::r))
theorem Uj:∀ (l w:List Pt),(Hu.stk w l).length<=l.length+w.length
 | [],w=>by simp [Hu.stk]
 | s::l,w=>by
  have:=Uj l (s::Hu.popT w s)
  have p:=ZcX s w
  unfold Hu.stk
  simp at this ⊢; omega
theorem Zb6 {c:D} {ps rs:List Pt} (hc:YN c=some (ps.map pD)) (hs:All Sm ps) (hl:ps.length<=64) (h:ZbR (ps.map pk)=rs.map pk) (hm:∀ x,x∈rs ↔ x∈ps) (hrl:rs.length<=64) :
  W0 [c]=some (.bl (decide ((Hu.hullL rs).length < 3)))/\(3<=(Hu.hullL rs).length->QE [c]=some (.tup ((Hu.hullL rs).map pD))):=by
 have hsr:All Sm rs:=fun p hp=>hs p ((hm p).mp hp)
 have hsv:All Sm rs.reverse:=fun p hp=>hsr p (List.mem_reverse.mp hp)
 have e1:=Wr (c:=c) hc hl h
 have e2:=ZdA hsr (by omega)
 have e3:=ZdA hsv (by simpa using (show rs.length<=1000 by omega))
 have sl:∀ lo hi (xs:List D),ZgZ lo hi (.lst xs)=some (.lst (cutD xs lo hi)):=fun _ _ _=>rfl
 have lr:Zcb (.lst (rs.map pD))=some (.lst (rs.reverse.map pD)):=by show some (D.lst _)=_; rw [List.map_reverse]
 have hw1:(Hu.stk [] rs).length<=rs.length:=by have:=Uj rs []; simpa using this
 have hw2:(Hu.stk [] rs.reverse).length<=rs.length:=by have:=Uj rs.reverse []; simpa using this
 have ad:Yh (.lst (((Hu.stk [] rs).reverse.map pD).dropLast)) (.lst (((Hu.stk [] rs.reverse).reverse.map pD).dropLast))=some (.lst ((Hu.hullL rs).map pD)):=by
  show (if _ then _ else _)=_
  rw [if_pos (by simp; exact Yt (by omega))]
  unfold Hu.hullL
  rw [List.map_append,List.map_dropLast,List.map_dropLast]
 have s1:Z2 1 (QG YL (Zd 0)) [.val (c),.no,.no,.no,.no]=some (.nx [.val (c),.val (.lst (rs.map pD)),.no,.no,.no]):=by
  simp -implicitDefEqProofs [e1]
 have s2:Z2 2 (dFn 1 Zn (Zb (Zd 1) Zq)) [.val (c),.val (.lst (rs.map pD)),.no,.no,.no]=some (.nx [.val (c),.val (.lst (rs.map pD)),.val (.lst ((Hu.stk [] rs).reverse.map pD)),.no,.no]):=by
  simp -implicitDefEqProofs [e2]
 have s3:Z2 3 (dFn 1 Zn (Zb (QG Zcb (Zd 1)) Zq)) [.val (c),.val (.lst (rs.map pD)),.val (.lst ((Hu.stk [] rs).reverse.map pD)),.no,.no]=some (.nx [.val (c),.val (.lst (rs.map pD)),.val (.lst ((Hu.stk [] rs).reverse.map pD)),.val (.lst ((Hu.stk [] rs.reverse).reverse.map pD)),.no]):=by
  rw [Zby,ZdO,Qb,ZfV]
  show ((((Zcb (.lst (rs.map pD))).bind _).bind _).map _)=_
  rw [lr]
  show ((Zn [.lst (rs.reverse.map pD)]).map _)=_
  rw [e3]; rfl
 have s4:Z2 4 (Zg Yh (dSl (Zd 2) Yw (Yv (QG UY (Zl (.int 1))))) (dSl (Zd 3) Yw (Yv (QG UY (Zl (.int 1)))))) [.val (c),.val (.lst (rs.map pD)),.val (.lst ((Hu.stk [] rs).reverse.map pD)),.val (.lst ((Hu.stk [] rs.reverse).reverse.map pD)),.no]=some (.nx [.val (c),.val (.lst (rs.map pD)),.val (.lst ((Hu.stk [] rs).reverse.map pD)),.val (.lst ((Hu.stk [] rs.reverse).reverse.map pD)),.val (.lst ((Hu.hullL rs).map pD))]):=by
  have q:(Zg Yh (dSl (Zd 2) Yw (Yv (QG UY (Zl (.int 1))))) (dSl (Zd 3) Yw (Yv (QG UY (Zl (.int 1)))))) [.val (c),.val (.lst (rs.map pD)),.val (.lst ((Hu.stk [] rs).reverse.map pD)),.val (.lst ((Hu.stk [] rs.reverse).reverse.map pD)),.no]=some (.lst ((Hu.hullL rs).map pD)):=by
   simp only [Vq,ZgY,ZdN,ZaC,ZaD,ZfV,ZiA,Zjo,List.getElem?_cons_succ,List.getElem?_cons_zero,Option.bind_some,sl,ZbB,ad]
  rw [Zby,q]; rfl
 have tst:(ZR (Zg dLt (ZV UJ (Zb (Zd 4) Zq)) (Zl (.int 3)))) [.val (c),.val (.lst (rs.map pD)),.val (.lst ((Hu.stk [] rs).reverse.map pD)),.val (.lst ((Hu.stk [] rs.reverse).reverse.map pD)),.val (.lst ((Hu.hullL rs).map pD))]=some (decide ((Hu.hullL rs).length < 3)):=by
  have:UJ [.lst ((Hu.hullL rs).map pD)]=some (.int (Hu.hullL rs).length):=by rw [Uy,List.length_map]
  rw [ZgX,Vq,UK,Qb]
  show (((UJ [.lst ((Hu.hullL rs).map pD)]).bind _)).bind _=_
  rw [this]
  show some (decide (((Hu.hullL rs).length:Int) < 3))=_
  congr 1
  by_cases z:(Hu.hullL rs).length < 3
  ·rw [decide_eq_true z]; exact decide_eq_true (by omega)
  ·rw [decide_eq_false z]; exact decide_eq_false (by omega)
 constructor
 ·unfold W0 ZA WV
  show (Zm _ (Zm _ (Zm _ (Zm _ (Zm _ _)))) [.val (c),.no,.no,.no,.no]).bind _=_
  rw [Zv,s1]
  show (Zm _ (Zm _ (Zm _ (Zm _ _))) _).bind _=_
  rw [Zv,s2]
  show (Zm _ (Zm _ (Zm _ _)) _).bind _=_
  rw [Zv,s3]
  show (Zm _ (Zm _ _) _).bind _=_
  rw [Zv,s4]
  show (Zm _ _ _).bind _=_
  rw [Zv,ZfW,tst]
  cases decide ((Hu.hullL rs).length < 3) <;> rfl
 ·intro h3
  unfold QE ZA Zbu
  show (Zm _ (Zm _ (Zm _ (Zm _ (Zm _ _)))) [.val (c),.no,.no,.no,.no]).bind _=_
  rw [Zv,s1]
  show (Zm _ (Zm _ (Zm _ (Zm _ _))) _).bind _=_
  rw [Zv,s2]
  show (Zm _ (Zm _ (Zm _ _)) _).bind _=_
  rw [Zv,s3]
  show (Zm _ (Zm _ _) _).bind _=_
  rw [Zv,s4]
  show (Zm _ _ _).bind _=_
  rw [Zv,ZfW,tst,decide_eq_false (by omega)]
  rfl
structure HullZ (L ps:List Pt):Prop where
 ne:L≠[]
 nd:L.Nodup
 mem:∀ x∈L,x∈ps
 min:cyc L 0=Y9 L
 turns:∀ k:Nat,k < L.length->0 < Z8 (cyc L k) (cyc L ((k:Int)+1)) (cyc L ((k:Int)+2))
 left:∀ q∈ps,∀ k:Nat,k < L.length->0<=Z8 (cyc L k) (cyc L ((k:Int)+1)) q
theorem Zkw {L:List Pt} {m z:Pt} (hne:L≠[]) (hm:L.head?=some m) (hz:L.getLast?=some z) (j:Nat) (hj:j<=L.length+1):(z::L++[m])[j]?=some (cyc L ((j:Int)-1)):=by
 have hn:0 < L.length:=List.length_pos_iff.mpr hne
 match j,hj with
 | 0,_=>
  rw [List.getLast?_eq_getElem?,List.getElem?_eq_getElem (by omega)] at hz
  have e:cyc L (((0:Nat):Int)-1)=L[L.length-1]:=by
   rw [<-ZL (show L.length-1 < L.length by omega)]
   have:=Yc L (((0:Nat):Int)-1)
   rw [<-this]
   congr 1
   omega
  rw [e]; exact hz.symm ▸ rfl
 | j+1,hj=>
  by_cases c:j < L.length
  ·have e:cyc L (((j+1:Nat):Int)-1)=L[j]:=by
    rw [<-ZL c]; congr 1; omega
   rw [e,List.cons_append,List.getElem?_cons_succ,List.getElem?_append_left c,List.getElem?_eq_getElem c]
  ·have ej:j=L.length:=by omega
   subst ej
   have e:cyc L (((L.length+1:Nat):Int)-1)=cyc L 0:=by
    have:=Yc L 0
    rw [<-this]; congr 1; omega
   have e0:cyc L 0=m:=by
    have:=ZL (ps:=L) (k:=0) hn
    rw [List.head?_eq_getElem?,List.getElem?_eq_getElem hn] at hm
    exact this.trans (Option.some.inj hm)
   rw [e,e0,List.cons_append,List.getElem?_cons_succ,List.getElem?_append_right (Nat.le_refl _)]
   simp
theorem ZcQ {α:Type} {l:List α} {i n:Nat} (hn:l.length=n) (hi:i < n):l.reverse[n-1-i]?=l[i]?:=by
 rw [List.getElem?_reverse (by omega)]
 congr 1; omega
theorem WQ {ps rs:List Pt} (hr:rs.Pairwise Pg.lexlt) (hm:∀ x,x∈rs ↔ x∈ps) (h3:3<=(Hu.hullL rs).length):HullZ (Hu.hullL rs) ps:=by
 have hne:rs≠[]:=fun z=>by subst z; exact absurd h3 (by decide)
 obtain ⟨m,em⟩:∃ m,rs.head?=some m:=by cases rs with | nil=>exact absurd rfl hne | cons a r=>exact ⟨a,rfl⟩
 obtain ⟨M,eM⟩:∃ M,rs.getLast?=some M:=by
  cases e:rs.getLast? with
  | none=>exact absurd (List.getLast?_eq_none_iff.mp e) hne
  | some z=>exact ⟨z,rfl⟩
 obtain ⟨h1,h2,h4,z,hz,cv,ab⟩:=(Hu.hull_ok hr em eM).2 h3
 generalize Hu.hullL rs=L at *
 have hL:L≠[]:=fun q=>by rw [q] at h3; simp at h3
 have hn:0 < L.length:=List.length_pos_iff.mpr hL
 have ix:=Zkw hL h4 hz
 have lenE:(z::L++[m]).length=L.length+2:=by simp
 have c0:cyc L 0=m:=by
  have:=ix 1 (by omega)
  rw [List.cons_append,List.getElem?_cons_succ,List.getElem?_append_left hn,<-List.head?_eq_getElem?,h4] at this
  exact (Option.some.inj this).symm
 have lenF:(L++[m]).length=L.length+1:=by simp
 refine ⟨hL,h1,fun x hx=>(hm x).mp (h2 x hx),?_,fun k hk=>?_,fun q hq k hk=>?_⟩
 ·rw [c0]
  have mm:m∈L:=List.mem_of_mem_head? h4
  by_cases e:m=Y9 L
  ·exact e
  ·exfalso
   have a1:=ZaF hL m mm
   have a2:=ZfM a1 e
   have a3:=(hm _).mpr ((hm _).mp (h2 _ (YJ hL)))
   cases rs with
   | nil=>cases em
   | cons a r=>
    cases em
    rcases List.mem_cons.mp a3 with w | w
    ·exact e w.symm
    ·have:=(List.pairwise_cons.mp hr).1 _ w
     exact Hu.lx_irr (Hu.lx_trans this a2)
 ·have g1:=ix k (by omega); have g2:=ix (k+1) (by omega); have g3:=ix (k+2)
  by_cases hk2:k+1 < L.length
  ·have t1:=ix (k+1) (by omega); have t2:=ix (k+2) (by omega); have t3:=ix (k+3) (by omega)
   rw [<-ZcQ lenE (by omega)] at t1 t2 t3
   have:=Hu.conv_get (i:=L.length+2-1-(k+3)) cv t3 (by rw [show L.length+2-1-(k+3)+1=L.length+2-1-(k+2) by omega]; exact t2) (by rw [show L.length+2-1-(k+3)+2=L.length+2-1-(k+1) by omega]; exact t1)
   have e1:(((k+1:Nat):Int)-1)=k:=by omega
   have e2:(((k+2:Nat):Int)-1)=(k:Int)+1:=by omega
   have e3:(((k+3:Nat):Int)-1)=(k:Int)+2:=by omega
   rw [e1,e2,e3] at this
   exact this
  ·-- the last one: z,m,the next
   have ek:k+1=L.length:=by omega
   have t1:=ix 0 (by omega); have t2:=ix 1 (by omega); have t3:=ix 2 (by omega)
   rw [<-ZcQ lenE (by omega)] at t1 t2 t3
   have:=Hu.conv_get (i:=L.length+2-1-2) cv t3 (by rw [show L.length+2-1-2+1=L.length+2-1-1 by omega]; exact t2) (by rw [show L.length+2-1-2+2=L.length+2-1-0 by omega]; exact t1)
   have e1:cyc L (((0:Nat):Int)-1)=cyc L k:=by rw [<-Yc L (((0:Nat):Int)-1)]; congr 1; omega
   have e2:cyc L (((1:Nat):Int)-1)=cyc L ((k:Int)+1):=by rw [<-Yc L (((1:Nat):Int)-1)]; congr 1; omega
   have e3:cyc L (((2:Nat):Int)-1)=cyc L ((k:Int)+2):=by rw [<-Yc L (((2:Nat):Int)-1)]; congr 1; omega
   rw [e1,e2,e3] at this
   exact this
 ·have a:=ab q ((hm q).mpr hq)
  have t1:=ix (k+1) (by omega); have t2:=ix (k+2) (by omega)
  have f:∀ j,j<=L.length->(L++[m])[j]?=(z::L++[m])[j+1]?:=fun j _=>by rw [List.cons_append,List.getElem?_cons_succ]
  rw [<-f k (by omega)] at t1
  rw [<-f (k+1) (by omega)] at t2
  rw [<-ZcQ lenF (by omega)] at t1 t2
  have:=Hu.above_get (i:=L.length+1-1-(k+1)) a t2 (by rw [show L.length+1-1-(k+1)+1=L.length+1-1-k by omega]; exact t1)
  have e1:(((k+1:Nat):Int)-1)=k:=by omega
  have e2:(((k+2:Nat):Int)-1)=(k:Int)+1:=by omega
  rw [e1,e2] at this
  exact this
theorem ZiI (X:Nat->Int) (g:Int->Int):∀ n:Nat,Pg.S n (fun j=>X j+(g j-g ((j:Int)+1)))=Pg.S n X+(g 0-g n)
 | 0=>by simp [Pg.S]
 | n+1=>by
  have ih:=ZiI X g n
  simp only [Pg.S]
  rw [ih]
  have:((n+1:Nat):Int)=(n:Int)+1:=by omega
  rw [this]; omega
theorem ZjZ {f:Nat->Int}:∀ {n:Nat} {k:Nat},(∀ j,j < n->0<=f j)->k < n->f k<=Pg.S n f
 | 0,k,_,h=>absurd h (Nat.not_lt_zero _)
 | n+1,k,h,hk=>by
  simp only [Pg.S]
  have hn:=h n (Nat.lt_succ_self _)
  by_cases e:k=n
  ·subst e
   have:0<=Pg.S k f:=Pg.S_nonneg fun j hj=>h j (by omega)
   omega
  ·have:=ZjZ (n:=n) (k:=k) (fun j hj=>h j (by omega)) (by omega)
   omega
theorem HullZ.area {L ps:List Pt} (h:HullZ L ps) (h3:3<=L.length):0 < We L:=by
 rw [Zg7]
 have mp:cyc L 0∈ps:=h.mem _ (Yi h.ne 0)
 have tel:=ZiI (fun (j:Nat)=>ZK (YC L (j:Int))) (fun i=>(cyc L 0).1*(cyc L i).2-(cyc L 0).2*(cyc L i).1) L.length
 have e0:cyc L (L.length:Int)=cyc L 0:=by have:=Yc L 0; rw [Int.zero_add] at this; exact this
 rw [e0] at tel
 have ec:Pg.S L.length (fun (j:Nat)=>ZK (YC L (j:Int))+(((cyc L 0).1*(cyc L (j:Int)).2-(cyc L 0).2*(cyc L (j:Int)).1)-((cyc L 0).1*(cyc L ((j:Int)+1)).2-(cyc L 0).2*(cyc L ((j:Int)+1)).1)))=Pg.S L.length (fun (j:Nat)=>Z8 (cyc L 0) (cyc L (j:Int)) (cyc L ((j:Int)+1))):=by
  refine Pg.S_congr fun j _=>?_
  show ZK (cyc L (j:Int),cyc L ((j:Int)+1))+_=_
  unfold ZK Z8
  grind
 have tel':Pg.S L.length (fun (j:Nat)=>Z8 (cyc L 0) (cyc L (j:Int)) (cyc L ((j:Int)+1)))=Pg.S L.length (fun (j:Nat)=>ZK (YC L (j:Int))):=by
  rw [<-ec,tel]; omega
 rw [<-tel']
 have nn:∀ j,j < L.length->0<=Z8 (cyc L 0) (cyc L (j:Int)) (cyc L ((j:Int)+1)):=fun j hj=>by
  have:=h.left _ mp j hj
  have e:Z8 (cyc L 0) (cyc L (j:Int)) (cyc L ((j:Int)+1))=Z8 (cyc L (j:Int)) (cyc L ((j:Int)+1)) (cyc L 0):=by unfold Z8; grind
  rw [e]; exact this
 have one:=h.turns 0 (by omega)
 have g:=ZjZ (f:=fun (j:Nat)=>Z8 (cyc L 0) (cyc L (j:Int)) (cyc L ((j:Int)+1))) nn (show 1 < L.length by omega)
 have e1:Z8 (cyc L 0) (cyc L ((1:Nat):Int)) (cyc L (((1:Nat):Int)+1))=Z8 (cyc L ((0:Nat):Int)) (cyc L (((0:Nat):Int)+1)) (cyc L (((0:Nat):Int)+2)):=rfl
 have g':Z8 (cyc L 0) (cyc L ((1:Nat):Int)) (cyc L (((1:Nat):Int)+1))<=_:=g
 rw [e1] at g'
 omega
theorem ZdT (a b q:Pt):Pg.cx (Pg.df a b) (Pg.df a q)=Z8 a b q:=by unfold Pg.cx Pg.df Z8; grind
theorem Ze8 (a b q:Pt):Pg.cx (Pg.df a b) (Pg.df b q)=Z8 a b q:=by unfold Pg.cx Pg.df Z8; grind
theorem Zfa (a b:Pt):Pg.cx a (Pg.df a b)=ZK (a,b):=by unfold Pg.cx Pg.df ZK; grind
theorem rp0 (L:List Pt) (i:Nat):rp L 0 i=cyc L i:=by unfold rp; rw [Int.add_zero]
theorem Wy {L:List Pt} {i:Nat} (hi:i < L.length):rp L 0 (Pg.nx L.length i)=cyc L ((i:Int)+1):=by rw [ZhC 0 hi,Int.add_zero]
theorem Zes {L:List Pt} {i:Nat} (hi:i < L.length):rp L 0 (Pg.nx L.length (Pg.nx L.length i))=cyc L ((i:Int)+2):=by rw [Zgm 0 hi,Int.add_zero]
theorem HullZ.rnd {L ps:List Pt} (h:HullZ L ps) (h3:3<=L.length):Pg.Rnd L.length (rp L 0):=by
 refine ⟨h3,fun i j hi hj e=>?_,fun i hi=>?_,fun i k hi hk=>?_⟩
 ·rw [rp0,rp0] at e
  have:=ZdS h.nd h.ne e
  rw [Int.emod_eq_of_lt (by omega) (by omega),Int.emod_eq_of_lt (by omega) (by omega)] at this
  omega
 ·unfold Pg.ed
  rw [rp0,Wy hi,Zes hi,Ze8]
  exact h.turns i hi
 ·unfold Pg.ed
  rw [rp0,Wy hi,rp0,ZdT]
  exact h.left _ (h.mem _ (Yi h.ne _)) i hi
theorem ZfH {L:List Pt} {x:Pt} (h:x∈L):∃ i,i < L.length/\x=rp L 0 i:=by
 obtain ⟨i,hi,e⟩:=List.getElem_of_mem h
 exact ⟨i,hi,by rw [rp0,ZL hi,e]⟩
noncomputable def Yk (L1 L2:List Pt):List Pt:=L1.flatMap fun a=>L2.map (Pg.ad a)
theorem sums_mem {L1 L2:List Pt} {x:Pt}:x∈Yk L1 L2 ↔ ∃ a∈L1,∃ b∈L2,x=Pg.ad a b:=by
 unfold Yk
 rw [List.mem_flatMap]
 constructor
 ·rintro ⟨a,ha,h⟩
  obtain ⟨b,hb,rfl⟩:=List.mem_map.mp h
  exact ⟨a,ha,b,hb,rfl⟩
 ·rintro ⟨a,ha,b,hb,rfl⟩
  exact ⟨a,ha,List.mem_map.mpr ⟨b,hb,rfl⟩⟩
theorem Ub (L2:List Pt):∀ L1:List Pt,(Yk L1 L2).length=L1.length*L2.length
 | []=>by simp [Yk]
 | a::L=>by
  have:=Ub L2 L
  unfold Yk at this ⊢
  rw [List.flatMap_cons,List.length_append,this,List.length_map,List.length_cons,Nat.add_mul,Nat.one_mul,Nat.add_comm]
theorem ZcE {L1 L2 L P1 P2 ps:List Pt} (h1:HullZ L1 P1) (n1:3<=L1.length) (h2:HullZ L2 P2) (n2:3<=L2.length) (h:HullZ L ps) (n3:3<=L.length) (hm:∀ x,x∈ps ↔ x∈Yk L1 L2) :
  Pg.Sm2 L1.length (rp L1 0) L2.length (rp L2 0) L.length (rp L 0):=by
 refine ⟨h1.rnd n1,h2.rnd n2,h.rnd n3,fun k hk=>?_,fun k i j hk hi hj=>?_⟩
 ·rw [rp0]
  obtain ⟨a,ha,b,hb,e⟩:=sums_mem.mp ((hm _).mp (h.mem _ (Yi h.ne (k:Int))))
  obtain ⟨i,hi,rfl⟩:=ZfH ha
  obtain ⟨j,hj,rfl⟩:=ZfH hb
  exact ⟨i,j,hi,hj,e⟩
 ·unfold Pg.ed
  rw [rp0 L,Wy hk,ZdT]
  refine h.left _ ((hm _).mpr (sums_mem.mpr ⟨_,?_,_,?_,rfl⟩)) k hk
  ·rw [rp0]; exact Yi h1.ne _
  ·rw [rp0]; exact Yi h2.ne _
theorem Zcm {L:List Pt} (hne:L≠[]):Pg.A3 L.length (rp L 0)=((Zw L).map ZK).sum:=by
 rw [ZcG ZK hne 0]
 refine Pg.S_congr fun j hj=>?_
 unfold Pg.ed
 rw [rp0,Wy hj,Zfa]
 simp [YC]
theorem Zdu {L:List Pt} (hne:L≠[]):Pg.S L.length (fun k=>Pg.gcdV (Pg.ed L.length (rp L 0) k))=((Zw L).map WU).sum:=by
 rw [ZcG WU hne 0]
 refine Pg.S_congr fun j hj=>?_
 unfold Pg.ed
 rw [rp0,Wy hj]
 simp only [YC,Int.natCast_zero,Int.add_zero]
 rfl
theorem Zdz {L1 L2 L P1 P2 ps:List Pt} (h1:HullZ L1 P1) (n1:3<=L1.length) (h2:HullZ L2 P2) (n2:3<=L2.length) (h:HullZ L ps) (n3:3<=L.length) (hm:∀ x,x∈ps ↔ x∈Yk L1 L2) :
  ((Zw L).map WU).sum=((Zw L1).map WU).sum+((Zw L2).map WU).sum:=by
 have:=(ZcE h1 n1 h2 n2 h n3 hm).fence Pg.gcdV fun u v hp=>Pg.gcd_par hp
 rw [Zdu h.ne,Zdu h1.ne,Zdu h2.ne] at this
 exact this
theorem Zfm {L1 L2 L P1 P2 ps:List Pt} (h1:HullZ L1 P1) (n1:3<=L1.length) (h2:HullZ L2 P2) (n2:3<=L2.length) (h:HullZ L ps) (n3:3<=L.length) (hm:∀ x,x∈ps ↔ x∈Yk L1 L2) :
  ((Zw L1).map ZK).sum+((Zw L2).map ZK).sum<=((Zw L).map ZK).sum:=by
 have T:=ZcE h1 n1 h2 n2 h n3 hm
 have a:=T.area
 have b:=Pg.kap_sum T.P T.Q
 have d:=Pg.kap_sum T.Q T.P
 rw [Zcm h.ne,Zcm h1.ne,Zcm h2.ne] at a
 omega
theorem Zfl {L1 L P1 ps:List Pt} (h1:HullZ L1 P1) (n1:3<=L1.length) (h:HullZ L ps) (n3:3<=L.length) (hm:∀ x,x∈ps ↔ x∈Yk L1 L1) :
  ((Zw L).map ZK).sum=4*((Zw L1).map ZK).sum:=by
 have T:=ZcE h1 n1 h1 n1 h n3 hm
 have a:=T.area
 have b:=Pg.kap_own T.P
 have d:=Pg.kap_own T.Q
 rw [Zcm h.ne,Zcm h1.ne] at a
 rw [Zcm h1.ne] at b d
 rw [b] at a
 omega
theorem Zfx {ps rs:List Pt} (hr:rs.Pairwise Pg.lexlt) (hm:∀ x,x∈rs ↔ x∈ps):ZbR (ps.map pk)=rs.map pk:=by
 refine Zbe (Qw (m:=2) fun x hx=>?_) ?_ fun x=>?_
 ·obtain ⟨p,_,rfl⟩:=List.mem_map.mp hx; rfl
 ·unfold Zfn
  rw [List.pairwise_map]
  exact hr.imp fun {a b} h=>by rw [ZfL]; exact (VU a b).mpr h
 ·rw [srtK_mem,List.mem_map,List.mem_map]
  constructor
  ·rintro ⟨p,hp,rfl⟩; exact ⟨p,(hm p).mpr hp,rfl⟩
  ·rintro ⟨p,hp,rfl⟩; exact ⟨p,(hm p).mp hp,rfl⟩
theorem Wp {L1 L2 P1 P2 rs:List Pt} (h1:HullZ L1 P1) (n1:3<=L1.length) (h2:HullZ L2 P2) (hr:rs.Pairwise Pg.lexlt) (hm:∀ x,x∈rs ↔ x∈Yk L1 L2):3<=(Hu.hullL rs).length:=by
 have t:=h1.turns 0 (by omega)
 obtain ⟨b,hb⟩:∃ b,b∈L2:=by
  cases e:L2 with
  | nil=>exact absurd e h2.ne
  | cons b r=>exact ⟨b,List.mem_cons_self⟩
 have mem:∀ i:Int,Pg.ad b (cyc L1 i)∈rs:=fun i=>(hm _).mpr (sums_mem.mpr ⟨_,Yi h1.ne i,b,hb,Pg.ad_comm _ _⟩)
 refine Hu.hull3 hr (mem 0) (mem 1) (mem 2) ?_
 rw [Hu.turn_tr]
 intro z
 have t':0 < Z8 (cyc L1 0) (cyc L1 1) (cyc L1 2):=t
 have z':Z8 (cyc L1 0) (cyc L1 1) (cyc L1 2)=0:=z
 omega
theorem HullZ.own {L ps:List Pt} (h:HullZ L ps):HullZ L L:=⟨h.ne,h.nd,fun _ hx=>hx,h.min,h.turns,fun q hq=>h.left q (h.mem q hq)⟩
theorem HullZ.rot {L ps:List Pt} (h:HullZ L ps):QU L=L:=Zet h.nd h.min ⟨h.ne,rfl,0,fun i=>by rw [Int.add_zero]⟩
end Pl
namespace L3
open PySem PySem.Spec PyProof.Rows L2
section
variable {X:Cx} {pins:List (Addr×Obj)} {s:Shared} {σ:L2.St} {H:Hp}
end
theorem Qg {es rest:List Expr} {x1} {pos:Pos} {env:Env}:starEach (.Tuple es x1 pos::rest) env=(false,eval (.Tuple es x1 pos) env)::starEach rest env:=rfl
end L3
namespace Pl
open PySem PySem.Spec PyProof.Rows L2 L3
noncomputable def JQ:DS:=(Zm (YV 1 Zq)
 (Zm (Zco (Yq (Zd 0)) (ZW 2) (Zm (ZJ (Q4 1 (ZbQ (ZR (Zg dGt (ZV UJ (Zb (Zd 1) Zq)) (Zl (.int 1)))) (ZR (Zg dLe (dFn 3 YF (Zb (Zg dIx (Zd 1) (QG UY (Zl (.int 2)))) (Zb (Zg dIx (Zd 1) (QG UY (Zl (.int 1)))) (Zb (Zd 2) Zq)))) (Zl (.int 0)))))) (UX 1) 3000)
 (Zbz 1 (Zd 2))))
 (Zhe 1 (Yr (dSl (Zd 1) Yw (Yv (QG UY (Zl (.int 1)))))))))
noncomputable def ZF:List D->Option D:=ZA 3 JQ
noncomputable def Je:DS:=(Zm (Z2 1 (QG YL (Zd 0)))
 (Zm (Z2 2 (Zg Yh (dFn 1 ZF (Zb (Zd 1) Zq)) (dFn 1 ZF (Zb (ZfU (Zd 1)) Zq))))
 (Zm (V5 (ZR (Zg dLt (ZV UJ (Zb (Zd 2) Zq)) (Zl (.int 3)))) (Yr (Zl .non)) Qe)
 (Yr (dFn 1 Z0 (Zb (Zd 2) Zq))))))
noncomputable def Zz:List D->Option D:=ZA 3 Je
noncomputable def JN:DS:=(Zm (Z2 2 (dFn 1 Zz (Zb (dFn 3 Ye (Zb (Zd 0) (Zb (Zd 1) (Zb (Zg Yh (Zl (.int 3)) (Zg Jn (Zd 0) (Zl (.int 6)))) Zq)))) Zq)))
 (Zm (V5 (ZR (QG ZiV (Zd 2))) (Yr (U6 (Zb (U6 (Zb (Zl (.int 0)) (Zb (Zl (.int 0)) Zq))) (Zb (U6 (Zb (Zl (.int 1)) (Zb (Zl (.int 0)) Zq))) (Zb (U6 (Zb (Zl (.int 0)) (Zb (Zg Yh (Zl (.int 1)) (Zg Jn (Zd 0) (Zl (.int 3)))) Zq))) Zq))))) Qe)
 (Yr (Zd 2))))
noncomputable def ZE:List D->Option D:=ZA 3 JN
set_option maxHeartbeats 4000000
noncomputable def lcT:DT:=(Q4 1 (ZbQ (ZR (Zg dGt (ZV UJ (Zb (Zd 1) Zq)) (Zl (.int 1)))) (ZR (Zg dLe (dFn 3 YF (Zb (Zg dIx (Zd 1) (QG UY (Zl (.int 2)))) (Zb (Zg dIx (Zd 1) (QG UY (Zl (.int 1)))) (Zb (Zd 2) Zq)))) (Zl (.int 0))))))
theorem Zh7 (c:Sl) (ds:List D) (s:Pt) (h:ds.length<=1):lcT [c,.own ds,.val (pD s)]=some false:=by
 unfold lcT Q4
 rw [ZiR]
 have h':¬ (1 < (ds.length:Int)):=by omega
 have d:ZR (Zg dGt (ZV UJ (Zb (Zd 1) Zq)) (Zl (.int 1))) [c,.val (.lst ds),.val (pD s)]=some false:=by
  simp -implicitDefEqProofs [Uy]; omega
 rw [Vy,d]; rfl
theorem Zjr (c:Sl) {a b s:Pt} {r:List Pt} (ha:Sm a) (hb:Sm b) (hs:Sm s):lcT [c,.own (((b::a::r).reverse).map pD),.val (pD s)]=some (!decide (0 < Z8 a b s)):=by
 have hne:(b::a::r)≠[]:=by simp
 have i1:dIx (.lst (((b::a::r).reverse).map pD)) (.int (-1))=some (pD b):=by
  rw [VW (by simp; omega) (by simp; omega),V6 hne]
  have:cyc (b::a::r) (-1 - -1)=b:=ZL (ps:=b::a::r) (k:=0) (by simp)
  rw [this]
 have i2:dIx (.lst (((b::a::r).reverse).map pD)) (.int (-2))=some (pD a):=by
  rw [VW (by simp; omega) (by simp; omega),V6 hne]
  have:cyc (b::a::r) (-1 - -2)=a:=ZL (ps:=b::a::r) (k:=1) (by simp)
  rw [this]
 have t:=V1 ha hb hs
 have l:(1:Int) < ((((b::a::r).reverse).map pD).length:Int):=by simp; omega
 unfold lcT Q4
 rw [ZiR]
 generalize ((b::a::r).reverse).map pD=ds at i1 i2 l
 have d:ZR (Zg dGt (ZV UJ (Zb (Zd 1) Zq)) (Zl (.int 1))) [c,.val (.lst ds),.val (pD s)]=some true:=by
  simp -implicitDefEqProofs [Uy]; omega
 rw [Vy,d,Option.bind_some]
 simp -implicitDefEqProofs [i1,i2,t]
 rw [Bool.eq_iff_iff]
 simp
theorem WA (c:Sl) {s:Pt} (hs:Sm s):∀ (w:List Pt) (m:Nat),w.length < m->All Sm w->ZJ lcT (UX 1) m [c,.own (w.reverse.map pD),.val (pD s)]=some (.nx [c,.own ((Hu.popT w s).reverse.map pD),.val (pD s)])
 | w,0,h,_=>absurd h (Nat.not_lt_zero _)
 | [],m+1,_,_=>by
  unfold ZJ
  rw [Zh7 _ _ _ (by simp)]; rfl
 | [a],m+1,_,_=>by
  unfold ZJ
  rw [Zh7 _ _ _ (by simp)]; rfl
 | b::a::r,m+1,h,hw=>by
  have hb:=hw b List.mem_cons_self
  have ha:=hw a (List.mem_cons_of_mem _ List.mem_cons_self)
  have t:=Zjr c (r:=r) ha hb hs
  conv=>lhs; unfold ZJ
  rw [t,Option.bind_some]
  by_cases q:0 < Z8 a b s
  ·have e:Hu.popT (b::a::r) s=b::a::r:=by unfold Hu.popT; rw [if_pos (show 0 < Pg.turn a b s from q)]
   rw [e,decide_eq_true q]; rfl
  ·have e:Hu.popT (b::a::r) s=Hu.popT (a::r) s:=by conv=>lhs; unfold Hu.popT; rw [if_neg (show ¬ 0 < Pg.turn a b s from q)]
   have ih:=WA c hs (a::r) m (by simp at h ⊢; omega) fun p hp=>hw p (List.mem_cons_of_mem _ hp)
   rw [e,decide_eq_false q]
   have p:UX 1 [c,.own (((b::a::r).reverse).map pD),.val (pD s)]=some (.nx [c,.own (((a::r).reverse).map pD),.val (pD s)]):=by
    unfold UX
    have z:((b::a::r).reverse).map pD=((a::r).reverse).map pD++[pD b]:=by simp
    rw [z]
    simp
   show (match UX 1 _ with | some (.nx ρ')=>ZJ lcT (UX 1) m ρ' | some (.ct ρ')=>ZJ lcT (UX 1) m ρ' | some (.bk ρ')=>some (.nx ρ') | r=>r)=_
   rw [p]
   exact ih
theorem Wl (c:Sl):∀ (ys w:List Pt) (s2:Sl),All Sm ys->All Sm w->w.length+ys.length<=1000->∃ t2,
  UW (ZW 2) (Zm (ZJ lcT (UX 1) 3000) (Zbz 1 (Zd 2))) (ys.map pD) [c,.own (w.reverse.map pD),s2]=some (.nx [c,.own ((Hu.stk w ys).reverse.map pD),t2])
 | [],w,s2,_,_,_=>⟨s2,rfl⟩
 | s::ys,w,s2,hy,hw,hl=>by
  have hs:=hy s List.mem_cons_self
  have pl:(Hu.popT w s).length<=w.length/\All Sm (Hu.popT w s):=by
   clear hl
   induction w with
   | nil=>exact ⟨Nat.le_refl _,hw⟩
   | cons b w ih=>
    cases w with
    | nil=>exact ⟨Nat.le_refl _,hw⟩
    | cons a r=>
     obtain ⟨i1,i2⟩:=ih fun p hp=>hw p (List.mem_cons_of_mem _ hp)
     unfold Hu.popT
     split
     ·exact ⟨Nat.le_refl _,hw⟩
     ·exact ⟨Nat.le_succ_of_le i1,i2⟩
  obtain ⟨t2,ih⟩:=Wl c ys (s::Hu.popT w s) (.val (pD s)) (fun p hp=>hy p (List.mem_cons_of_mem _ hp)) (fun p hp=>by
   rcases List.mem_cons.mp hp with q | q
   ·rw [q]; exact hs
   ·exact pl.2 p q) (by simp at hl ⊢; omega)
  refine ⟨t2,?_⟩
  simp only [List.map_cons,UW,UP,List.set_cons_zero,List.set_cons_succ,Option.bind_some]
  rw [Zv,WA c hs w 3000 (by simp at hl; omega) hw]
  have ap:Zbz 1 (Zd 2) [c,.own ((Hu.popT w s).reverse.map pD),.val (pD s)]=some (.nx [c,.own (((s::Hu.popT w s).reverse).map pD),.val (pD s)]):=by
   unfold Zbz
   have hl':((Hu.popT w s).reverse.map pD).length < lim:=by
    have:((Hu.popT w s).reverse.map pD).length < 2000:=by simp at hl ⊢; omega
    unfold lim; omega
   simp -implicitDefEqProofs
   simpa using hl'
  dsimp only
  rw [ap]
  exact ih
theorem ZcW (s:Pt):∀ (w:List Pt),∀ p∈Hu.popT w s,p∈w
 | []=>fun p hp=>by simp [Hu.popT] at hp
 | [a]=>fun p hp=>by simpa [Hu.popT] using hp
 | b::a::r=>fun p hp=>by
  unfold Hu.popT at hp
  split at hp
  ·exact hp
  ·exact List.mem_cons_of_mem _ (ZcW s (a::r) p hp)
theorem Zaq:∀ (l w:List Pt),∀ p∈Hu.stk w l,p∈w\/p∈l
 | [],w=>fun p hp=>.inl hp
 | s::l,w=>fun p hp=>by
  rcases Zaq l (s::Hu.popT w s) p hp with q | q
  ·rcases List.mem_cons.mp q with rfl | q
   ·exact .inr List.mem_cons_self
   ·exact .inl (ZcW s w p q)
  ·exact .inr (List.mem_cons_of_mem _ q)
theorem WZ {ps:List Pt} (hs:All Sm ps) (hl:ps.length<=1000):ZF [.lst (ps.map pD)]=some (.lst (((Hu.stk [] ps).reverse.dropLast).map pD)):=by
 obtain ⟨t2,e⟩:=Wl (.val (.lst (ps.map pD))) ps [] .no hs (fun p hp=>by cases hp) (by simpa using hl)
 unfold ZF ZA JQ
 show (Zm _ (Zm _ _) [.val (.lst (ps.map pD)),.no,.no]).bind _=_
 rw [Zv]
 have e0:YV 1 Zq [.val (.lst (ps.map pD)),.no,.no]=some (.nx [.val (.lst (ps.map pD)),.own [],.no]):=by
  unfold YV
  simp -implicitDefEqProofs
 rw [e0]
 show (Zm (Zco (Yq (Zd 0)) (ZW 2) (Zm (ZJ lcT (UX 1) 3000) (Zbz 1 (Zd 2)))) _ [.val (.lst (ps.map pD)),.own [],.no]).bind _=_
 have it:Yq (Zd 0) [.val (.lst (ps.map pD)),.own [],.no]=some (ps.map pD):=rfl
 rw [Zv,W6,it,Option.bind_some]
 have e':UW (ZW 2) (Zm (ZJ lcT (UX 1) 3000) (Zbz 1 (Zd 2))) (ps.map pD) [.val (.lst (ps.map pD)),.own [],.no]=_:=e
 rw [e']
 show ((Zhe 1 (Yr (dSl (Zd 1) Yw (Yv (QG UY (Zl (.int 1))))))) [.val (.lst (ps.map pD)),.own ((Hu.stk [] ps).reverse.map pD),t2]).bind _=_
 have r:∀ (L:List Pt) (c t2:Sl),(Zhe 1 (Yr (dSl (Zd 1) Yw (Yv (QG UY (Zl (.int 1))))))) [c,.own (L.map pD),t2]=some (.rt (.lst (L.dropLast.map pD))):=by
  intro L c t2
  show (Yr (dSl (Zd 1) Yw (Yv (QG UY (Zl (.int 1)))))) [c,.val (.lst (L.map pD)),t2]=_
  have:ZgZ none (some (-1)) (.lst (L.map pD))=some (.lst (L.dropLast.map pD)):=by
   show some (D.lst (cutD _ none (some (-1))))=_
   rw [ZbB,List.map_dropLast]
  simp -implicitDefEqProofs [this]
 rw [r]; rfl
end Pl
namespace L3
open PySem PySem.Spec PyProof.Rows L2
section
variable {X:Cx} {pos:Pos} {e:Expr} {f g:DE}
end
section
variable {X:Cx} {pos:Pos} {e:Expr} {f g:DE}
end
section
variable {X:Cx} {pos:Pos} {tg l:Expr} {f:DE}
end
end L3
namespace L3
open PySem
end L3
namespace L3
open PySem PySem.Spec PyProof.Rows L2
section
open PySem.AutoSeq1
theorem Zjy (l:Addr) (its:Array Value) (n:Nat) (b:Addr) (its2:Array Value) (n2:Nat) (sl:Array (Option Value)) (hs0:¬(!its.isEmpty&&Builtin.List.listTooLong (its.size+its2.size))=true) (hs1:its.size<=sizeLine) (hs2:its.size+its2.size<=sizeLine+1) :
  Meets (Builtin.«list.extend» ⟨[.ref l,.ref b],[]⟩) (fun _ R s=>s.heap.get? l=some { cls:=.type "list",dict:=none,data:=.seq its n,slots:=#[] }/\s.heap.get? b=some { cls:=.type "tuple",dict:=none,data:=.seq its2 n2,slots:=sl }/\R (.ok (.ret Value.none)) { s with heap:=s.heap.update l (Obj.mapSeq fun x=>x++its2),toks:=s.toks }):=
 .of_wp fun prog w A R s h=>by
  obtain ⟨hh,gs,dr,tk,so⟩:=s
  obtain ⟨m1,m2,fin⟩:=h
  have f1:=AutoSeq1.idx_int; have f2:=AutoSeq1.sub_tuple_tuple; have f3:=AutoSeq1.sub_list_list; have f4:=AutoSeq1.sub_tuple_list; have f5:=AutoSeq1.sub_list_tuple
  have small:(its++its2).size<=sizeLine+1:=by simpa using hs2
  wp_walk using wpAny_loadPart' m2,(wpAny_updateSeq m1 rfl (hz:=hs1) (_hz':=small)),wpAny_loadPart' m1
  exact ⟨_,rfl,fin⟩
end
section
variable {X:Cx} {pos:Pos} {e:Expr} {f:DE}
noncomputable def Zjc (K:PySem.W.Frag):V->List V->Hp->VK->Prop:=fun x vs H Q=>∃ l b xs zs,x=.ref l/\vs=[.ref b]/\H l=some (.lst xs)/\SqT K H b zs/\xs.length+zs.length<=sizeLine/\Q .non (upd H l (.lst (xs++zs)))
theorem ZgG:MtM X "list.extend" (Zjc X.K):=by
 intro pins s σ H x vs v us Q I rx rv h
 obtain ⟨l,b,xs,zs,rfl,rfl,hH,hB,hz,q⟩:=h
 cases rx
 obtain ⟨u,rfl,ru⟩:=rv.one
 cases ru
 obtain ⟨z,its,n,r,hl,e⟩:=I.lstM hH
 obtain ⟨its2,r2,⟨o,e2,c2,d2,n2,g2⟩,z2⟩:=I.tupleD hB
 have hl2:=r2.length
 have hsz:its.toArray.size+its2.toArray.size<=sizeLine:=by rw [List.size_toArray,List.size_toArray]; omega
 have hlong:¬ (!its.toArray.isEmpty&&Builtin.List.listTooLong (its.toArray.size+its2.toArray.size))=true:=by
  rw [ZeH hsz,Bool.and_false]
  exact Bool.false_ne_true
 obtain ⟨oc,od,oda,osl⟩:=o
 cases c2; cases d2; cases g2
 refine call_meets F.slot_list_extend ⟨_,e,rfl⟩ F.entry_list_extend (F.args_list_extend_2 _ _)
  (Zjy l its.toArray n b its2.toArray n2 osl hlong (by rw [List.size_toArray]; omega) (by omega)) ⟨e,e2,?_⟩
 refine ⟨.non,_,I.lset (its':=its++its2) hH e (by simp) (r.append r2) ?_,rfl,q⟩
 rw [List.length_append]
 omega
noncomputable def Zg0 (i:Nat) (f:DE):DS:=fun ρ=>match ρ[i]? with
 | some (.own ds)=>(f ρ).bind fun d=>match d with
  | .tup xs=>if ds.length+xs.length < lim then some (.nx (ρ.set i (.own (ds++xs)))) else none
  | _=>none
 | _=>none
theorem ZcL {i:Nat} {x:Expr} {pos' apos:Pos} (hx:PE X x (Zhb i)) (he:ED X e f)
  (hbase:attributeBase x "extend" X.env (eval x X.env)=eval x X.env:=by rfl)
  (hfew:((backTo pos' (starEach [e] X.env)).all (fun x=>!x.1)&&(backToKw pos' (keywordEach [] X.env)).all (fun x=>x.1.isSome)
   && decide ([e].length+([]:List Keyword).length+(if ([]:List Keyword).isEmpty then 0 else 1) < 30))=true:=by rfl)
  (hline:(apos.endLine==pos'.line)=true:=by rfl) (hs:starEach [e] X.env=(false,eval e X.env)::starEach [] X.env:=by rfl) (hplain:(backTo pos' (starEach [] X.env)).any (·.1)=false:=by rfl)
  (hsw:swapsWith (.Call (.Attribute x "extend" apos) [e] [] pos') none pos.line X.env=pure false:=by rfl) :
  SD X (.Expr (.Call (.Attribute x "extend" apos) [e] [] pos') pos) (Zg0 i f):=
 PS.imp (Zaw (ZgB PySem.F.plainAttrs_list PySem.F.slot_list_extend PySem.F.type_list_extend ZgG hx (Zaz he Zc6 hs) hbase hfew hline hs hplain) hsw) fun E σ H zq=>by
  obtain ⟨ρ,F0,H0,F,o,ok,e,k⟩:=zq
  unfold Zg0 at e
  split at e
  ·rename_i ds ho
   obtain ⟨d,ed,e⟩:=bind_some e
   cases d with
   | tup ys=>
    have e:(if ds.length+ys.length < lim then some (Out.nx (ρ.set i (.own (ds++ys)))) else none)=_:=e
    obtain ⟨hl,rfl⟩:=Z9 e
    obtain ⟨a,xs,h1,h2,h3,h4,h5⟩:=ok.own i ds ho
    refine ⟨_,h1,.inl ⟨rfl,xs,.of h2⟩,ρ,F0,H0,F,_,ok,ed,fun v F1 H1 g1 r1=>?_⟩
    have ok1:=ok.grow g1
    have h2':=g1.same _ _ h2
    obtain ⟨a',xs',q1,q2,q3,q4,q5⟩:=ok1.own i ds ho
    rw [h1] at q1; cases q1
    rw [h2'] at q2; cases q2
    unfold Rep at r1
    obtain ⟨b,vs,rfl,hq,hr⟩:=r1
    refine ⟨a,b,xs,vs,rfl,rfl,h2',hq,?_,k _ F1 _ (g1.ext.trans (Jy h2' q3)) (ok1.wrt ho h1 h2' (q5.append hr))⟩
    rw [<-q5.length,<-hr.length]
    exact Nat.le_of_lt (Nat.lt_of_lt_of_le hl (QI (Nat.le_refl _)))
   | _=>cases e
  ·cases e
end
end L3
namespace Pl
open PySem PySem.Spec PyProof.Rows L2 L3
noncomputable def Zdw:DS:=(Zm (YV 2 Zq)
 (Zm (Zco (Yq (Zd 0)) (ZW 3) (Zg0 2 (dFn 2 ZZ (Zb (Zd 1) (Zb (Zd 3) Zq)))))
 (Zhe 2 (Yr (dFn 1 QE (Zb (Zd 2) Zq))))))
noncomputable def Z3:List D->Option D:=ZA 4 Zdw
theorem HullZ.ord {L ps:List Pt} (h:HullZ L ps) (h3:3<=L.length):WP L=L:=by
 have a:=h.area h3
 rw [JV h.ne] at a
 rw [Zdr (by omega) h.ne,h.rot]
theorem Zau {ps rs:List Pt} (hr:rs.Pairwise Pg.lexlt) (hm:∀ x,x∈rs ↔ x∈ps):rs.length<=ps.length:=by
 have nd:rs.Nodup:=hr.imp fun {a b} h z=>by subst z; unfold Pg.lexlt at h; omega
 exact Y7 nd fun x hx=>(hm x).mp hx
theorem JI {ps rs:List Pt} (hs:All Sm ps) (hl:ps.length<=64) (hr:rs.Pairwise Pg.lexlt) (hm:∀ x,x∈rs ↔ x∈ps):Zz [.lst (ps.map pD)]=some (if (Hu.hullL rs).length < 3 then .non else .tup ((Hu.hullL rs).map pD)):=by
 have hrs:All Sm rs:=fun p hp'=>hs p ((hm p).mp hp')
 have hrl:=Zau hr hm
 have ss:=Wr (ps:=ps) (rs:=rs) (c:=.lst (ps.map pD)) rfl (by omega) (Zfx hr hm)
 have c1:=WZ hrs (by omega)
 have hrv:All Sm rs.reverse:=fun p hp'=>hrs p (List.mem_reverse.mp hp')
 have c2:=WZ hrv (by rw [List.length_reverse]; omega)
 have l1:((Hu.stk [] rs).reverse.dropLast).length<=rs.length:=by
  have:=Uj rs []
  rw [List.length_dropLast,List.length_reverse]; simp at this; omega
 have l2:((Hu.stk [] rs.reverse).reverse.dropLast).length<=rs.length:=by
  have:=Uj rs.reverse []
  rw [List.length_dropLast,List.length_reverse]; simp at this; omega
 have m1:All Sm ((Hu.stk [] rs).reverse.dropLast):=fun p hp'=>by
  rcases Zaq rs [] p (List.mem_reverse.mp (List.dropLast_subset _ hp')) with q | q
  ·cases q
  ·exact hrs p q
 have m2:All Sm ((Hu.stk [] rs.reverse).reverse.dropLast):=fun p hp'=>by
  rcases Zaq rs.reverse [] p (List.mem_reverse.mp (List.dropLast_subset _ hp')) with q | q
  ·cases q
  ·exact hrv p q
 have eC:Hu.hullL rs=(Hu.stk [] rs).reverse.dropLast++(Hu.stk [] rs.reverse).reverse.dropLast:=rfl
 have hz:=WQ hr hm
 generalize Hu.hullL rs=C at eC hz ⊢
 generalize (Hu.stk [] rs).reverse.dropLast=A at c1 l1 m1 eC
 generalize (Hu.stk [] rs.reverse).reverse.dropLast=B at c2 l2 m2 eC
 have hrev:ZfU (Zd 1) [.val (.lst (ps.map pD)),.val (.lst (rs.map pD)),.no]=some (.lst (rs.reverse.map pD)):=by
  simp -implicitDefEqProofs
 have ad:Yh (.lst (A.map pD)) (.lst (B.map pD))=some (.lst ((A++B).map pD)):=by
  rw [Zd5 (by simp; omega),List.map_append]
 have s1:Z2 1 (QG YL (Zd 0)) [.val (.lst (ps.map pD)),.no,.no]=some (.nx [.val (.lst (ps.map pD)),.val (.lst (rs.map pD)),.no]):=by
  simp -implicitDefEqProofs [ss]
 have s2:Z2 2 (Zg Yh (dFn 1 ZF (Zb (Zd 1) Zq)) (dFn 1 ZF (Zb (ZfU (Zd 1)) Zq))) [.val (.lst (ps.map pD)),.val (.lst (rs.map pD)),.no]=some (.nx [.val (.lst (ps.map pD)),.val (.lst (rs.map pD)),.val (.lst ((A++B).map pD))]):=by
  rw [Zby,Vq,ZdO,ZdO,Qb,Qb,hrev]
  show (Option.bind (ZF [.lst (rs.map pD)]) _).map _=_
  rw [c1,Option.bind_some]
  show (Option.bind (ZF [.lst (rs.reverse.map pD)]) _).map _=_
  rw [c2,Option.bind_some,ad]
  rfl
 unfold Zz ZA Je
 show (Zm _ (Zm _ _) [.val (.lst (ps.map pD)),.no,.no]).bind _=_
 rw [Zv,s1]
 show (Zm _ (Zm _ _) [.val (.lst (ps.map pD)),.val (.lst (rs.map pD)),.no]).bind _=_
 rw [Zv,s2]
 show (Zm _ _ [.val (.lst (ps.map pD)),.val (.lst (rs.map pD)),.val (.lst ((A++B).map pD))]).bind _=_
 rw [<-eC]
 have lC:C.length<=128:=by rw [eC,List.length_append]; omega
 have mC:All Sm C:=fun p hp'=>by
  rw [eC] at hp'
  rcases List.mem_append.mp hp' with q | q
  ·exact m1 p q
  ·exact m2 p q
 by_cases h3:(C.length:Int) < 3
 ·rw [if_pos (by omega)]
  simp -implicitDefEqProofs [h3]
 ·rw [if_neg (by omega)]
  have hh:=hz (by omega)
  have ord:=ZdC (c:=.lst (C.map pD)) (ps:=C) rfl hh.ne mC (by omega)
  rw [hh.ord (by omega)] at ord
  simp -implicitDefEqProofs [h3,ord]
structure Rn (L:List Pt):Prop where
 hz:HullZ L L
 n3:3<=L.length
 n8:L.length<=8
 rg:All (Rg 100) L
theorem Zhm {r:Int} (h:0<=r/\r < 3):Rn [((0:Int),(0:Int)),(1,0),(0,1+r)]:=by
 have:r=0\/r=1\/r=2:=by omega
 have go:∀ r:Int,(r=0\/r=1\/r=2)->HullZ [((0:Int),(0:Int)),(1,0),(0,1+r)] [((0:Int),(0:Int)),(1,0),(0,1+r)]:=by
  intro r hr
  rcases hr with rfl | rfl | rfl <;>
  exact ⟨by decide,by decide,fun x hx=>hx,by decide,fun k hk=>by
    match k,hk with
    | 0,_=>decide
    | 1,_=>decide
    | 2,_=>decide
    | k+3,hk=>simp at hk; omega,fun q hq k hk=>by
    simp only [List.mem_cons,List.not_mem_nil,or_false] at hq
    match k,hk with
    | 0,_=>rcases hq with rfl | rfl | rfl <;> decide
    | 1,_=>rcases hq with rfl | rfl | rfl <;> decide
    | 2,_=>rcases hq with rfl | rfl | rfl <;> decide
    | k+3,hk=>simp at hk; omega⟩
 refine ⟨go r this,by simp,by simp,fun p hp=>?_⟩
 simp only [List.mem_cons,List.not_mem_nil,or_false] at hp
 unfold Rg
 rcases hp with rfl | rfl | rfl <;> simp only <;> omega
theorem Uz {n wide:Int} (hw:0 < wide) (hw2:wide<=100):∃ L,ZE [.int n,.int wide]=some (.tup (L.map pD))/\Rn L:=by
 have m6:Jn (.int n) (.int 6)=some (.int (n % 6)):=J7 (by decide)
 have m3:Jn (.int n) (.int 3)=some (.int (n % 3)):=J7 (by decide)
 have r6:0<=n % 6/\n % 6 < 6:=⟨Int.emod_nonneg _ (by omega),Int.emod_lt_of_pos _ (by omega)⟩
 have r3:0<=n % 3/\n % 3 < 3:=⟨Int.emod_nonneg _ (by omega),Int.emod_lt_of_pos _ (by omega)⟩
 obtain ⟨k,hk⟩:∃ k:Nat,(k:Int)=3+n % 6:=⟨(3+n % 6).toNat,by omega⟩
 have sp:=ZdB (n:=n) (wide:=wide) hw (many:=k) (by omega)
 have rg:All (Rg 100) (JF n wide k):=fun p hp=>by
  obtain ⟨⟨a,b⟩,c,d⟩:=ZbS (n:=n) (wide:=wide) hw p hp
  unfold Rg; omega
 have sm:All Sm (JF n wide k):=fun p hp=>by
  have:=rg p hp
  unfold Rg at this
  exact ⟨⟨by omega,by omega⟩,by omega,by omega⟩
 have hlen:=ZbT n wide k
 generalize JF n wide k=ps at sp rg sm hlen
 obtain ⟨rs,_,hr,hm⟩:=Jp ps
 have ea:=JI sm (by omega) hr hm
 rw [hk] at sp
 have hrl:=Zau hr hm
 have s1:∀ d,Zz [.lst (ps.map pD)]=some d->Z2 2 (dFn 1 Zz (Zb (dFn 3 Ye (Zb (Zd 0) (Zb (Zd 1) (Zb (Zg Yh (Zl (.int 3)) (Zg Jn (Zd 0) (Zl (.int 6)))) Zq)))) Zq)) [.val (.int n),.val (.int wide),.no]=some (.nx [.val (.int n),.val (.int wide),.val d]):=fun d hd=>by
  simp -implicitDefEqProofs [m6,sp]
  exact hd
 have s1:=s1 _ ea
 unfold ZE ZA JN
 show ∃ L,(Zm _ (Zm _ _) [.val (.int n),.val (.int wide),.no]).bind _=some _/\_
 rw [Zv,s1]
 by_cases h3:(Hu.hullL rs).length < 3
 ·rw [if_pos h3]
  show ∃ L,(Zm _ _ [.val (.int n),.val (.int wide),.val .non]).bind _=some _/\_
  refine ⟨_,?_,Zhm r3⟩
  have i1:ZiV .non=some (.bl true):=rfl
  simp -implicitDefEqProofs [i1,m3,pD,lim]
 ·rw [if_neg h3]
  show ∃ L,(Zm _ _ [.val (.int n),.val (.int wide),.val (.tup ((Hu.hullL rs).map pD))]).bind _=some _/\_
  have hz:=WQ hr hm (by omega)
  refine ⟨Hu.hullL rs,?_,hz.own,by omega,?_,fun p hp=>rg p (hz.mem p hp)⟩
  ·have i1:ZiV (.tup ((Hu.hullL rs).map pD))=some (.bl false):=rfl
   simp -implicitDefEqProofs [i1]
  ·have:=Y7 hz.nd fun x hx=>hz.mem x hx
   omega
theorem Zh3 (a:Pt):mv a.1 a.2=Pg.ad a:=by
 funext p
 unfold mv Pg.ad
 exact Prod.ext (by simp only; omega) (by simp only; omega)
theorem Zbd {l:List Pt} (hne:l≠[]):(QU l).length=l.length:=(Jr hne).2.1
theorem ZbH {L2:List Pt} (h2:L2≠[]) (l2:L2.length<=8) (c0:Sl):∀ (ys acc:List Pt) (s3:Sl),acc.length+ys.length*L2.length<=1000->∃ (t3:Sl) (out:List Pt),
  UW (ZW 3) (Zg0 2 (dFn 2 ZZ (Zb (Zd 1) (Zb (Zd 3) Zq)))) (ys.map pD) [c0,.val (.tup (L2.map pD)),.own (acc.map pD),s3]=some (.nx [c0,.val (.tup (L2.map pD)),.own (out.map pD),t3])/\(∀ x,x∈out ↔ x∈acc\/x∈Yk ys L2)/\out.length=acc.length+ys.length*L2.length
 | [],acc,s3,_=>⟨s3,acc,rfl,fun x=>by simp [Yk],by simp⟩
 | a::ys,acc,s3,hl=>by
  have hl':acc.length+(ys.length*L2.length+L2.length)<=1000:=by
   rw [List.length_cons,Nat.add_mul,Nat.one_mul] at hl; exact hl
  have ne:L2.map (Pg.ad a)≠[]:=by simpa using h2
  have rl:=Zbd ne
  rw [List.length_map] at rl
  obtain ⟨t3,out,e1,e2,e3⟩:=ZbH h2 l2 c0 ys (acc++QU (L2.map (Pg.ad a))) (.val (pD a)) (by rw [List.length_append,rl]; omega)
  refine ⟨t3,out,?_,fun x=>?_,?_⟩
  ·have w:=UF (ps:=L2) (u:=a.1) (v:=a.2) h2 (by omega)
   rw [Zh3] at w
   have w':ZZ [.tup (L2.map pD),pD a]=some (.tup ((QU (L2.map (Pg.ad a))).map pD)):=w
   simp only [List.map_cons,UW,UP,List.set_cons_zero,List.set_cons_succ,Option.bind_some]
   have ex:Zg0 2 (dFn 2 ZZ (Zb (Zd 1) (Zb (Zd 3) Zq))) [c0,.val (.tup (L2.map pD)),.own (acc.map pD),.val (pD a)]=some (.nx [c0,.val (.tup (L2.map pD)),.own ((acc++QU (L2.map (Pg.ad a))).map pD),.val (pD a)]):=by
    have q:dFn 2 ZZ (Zb (Zd 1) (Zb (Zd 3) Zq)) [c0,.val (.tup (L2.map pD)),.own (acc.map pD),.val (pD a)]=some (.tup ((QU (L2.map (Pg.ad a))).map pD)):=by
     rw [<-w']
     simp -implicitDefEqProofs
    unfold Zg0
    show Option.bind (dFn 2 ZZ (Zb (Zd 1) (Zb (Zd 3) Zq)) [c0,.val (.tup (L2.map pD)),.own (acc.map pD),.val (pD a)]) _=_
    rw [q,Option.bind_some]
    show (if (acc.map pD).length+((QU (L2.map (Pg.ad a))).map pD).length < lim then _ else _)=_
    rw [if_pos (by
     have:(acc.map pD).length+((QU (L2.map (Pg.ad a))).map pD).length < 2000:=by rw [List.length_map,List.length_map,rl]; omega
     unfold lim; omega),List.map_append]
    rfl
   rw [ex]
   exact e1
  ·rw [e2 x,List.mem_append,(Jr ne).mem]
   unfold Yk
   rw [List.flatMap_cons,List.mem_append,or_assoc]
  ·rw [e3,List.length_append,rl,List.length_cons,Nat.add_mul,Nat.one_mul]; omega
theorem Wf {L1 L2 rs:List Pt} (l1:L1.length<=8) (h2:L2≠[]) (l2:L2.length<=8) (hs:All Sm (Yk L1 L2)) (hr:rs.Pairwise Pg.lexlt) (hm:∀ x,x∈rs ↔ x∈Yk L1 L2) (h3:3<=(Hu.hullL rs).length) :
  Z3 [.tup (L1.map pD),.tup (L2.map pD)]=some (.tup ((Hu.hullL rs).map pD)):=by
 have ll:L1.length*L2.length<=64:=Nat.mul_le_mul l1 l2
 obtain ⟨t3,out,e1,e2,e3⟩:=ZbH h2 l2 (.val (.tup (L1.map pD))) L1 [] .no (by simpa using (show L1.length*L2.length<=1000 by omega))
 have mo:∀ x,x∈out ↔ x∈Yk L1 L2:=fun x=>by rw [e2 x]; simp
 have so:All Sm out:=fun p hp=>hs p ((mo p).mp hp)
 have hmo:∀ x,x∈rs ↔ x∈out:=fun x=>by rw [hm x,mo x]
 have lo:out.length<=64:=by simp at e3; omega
 have av:=(Zb6 (c:=.lst (out.map pD)) rfl so lo (Zfx hr hmo) hmo (Nat.le_trans (Zau hr hmo) lo)).2 h3
 unfold Z3 ZA Zdw
 show (Zm _ (Zm _ _) [.val (.tup (L1.map pD)),.val (.tup (L2.map pD)),.no,.no]).bind _=_
 rw [Zv]
 have e0:YV 2 Zq [.val (.tup (L1.map pD)),.val (.tup (L2.map pD)),.no,.no]=some (.nx [.val (.tup (L1.map pD)),.val (.tup (L2.map pD)),.own [],.no]):=by
  unfold YV
  simp -implicitDefEqProofs
 rw [e0]
 show (Zm (Zco _ _ _) _ [.val (.tup (L1.map pD)),.val (.tup (L2.map pD)),.own [],.no]).bind _=_
 rw [Zv,W6]
 have i1:Yq (Zd 0) [.val (.tup (L1.map pD)),.val (.tup (L2.map pD)),.own [],.no]=some (L1.map pD):=QY rfl rfl
 rw [i1,Option.bind_some]
 have e1':UW (ZW 3) (Zg0 2 (dFn 2 ZZ (Zb (Zd 1) (Zb (Zd 3) Zq)))) (L1.map pD) [.val (.tup (L1.map pD)),.val (.tup (L2.map pD)),.own [],.no]=_:=e1
 rw [e1']
 show (Yr (dFn 1 QE (Zb (Zd 2) Zq)) [.val (.tup (L1.map pD)),.val (.tup (L2.map pD)),.val (.lst (out.map pD)),t3]).bind _=_
 simp -implicitDefEqProofs [av]
end Pl
namespace Pl.k52
open PySem PySem.Spec PyProof.Rows L2 L3 Pl
noncomputable def Zin:DS:=(Zm (Z2 1 (Zg dIx (U6 (Zb (Zl (.int 3)) (Zb (Zl (.int 6)) (Zb (Zl (.int 30)) (Zb (Zl (.int 100)) Zq))))) (Zg Jn (dFn 2 Zj (Zb (Zd 0) (Zb (Zl (.int 2)) Zq))) (Zl (.int 4)))))
 (Zm (Z2 2 (dFn 2 ZE (Zb (dFn 2 Zj (Zb (Zd 0) (Zb (Zl (.int 0)) Zq))) (Zb (Zd 1) Zq))))
 (Zm (Z2 3 (dFn 2 ZE (Zb (dFn 2 Zj (Zb (Zd 0) (Zb (Zl (.int 1)) Zq))) (Zb (Zd 1) Zq))))
 (Zm (Z2 4 (dFn 2 Z3 (Zb (Zd 2) (Zb (Zd 3) Zq))))
 (Zm (Z2 5 (Ziy Zq))
 (Zm (Zco (Yq (Zd 2)) (ZW 6) (Z2 5 (Zg Yh (Zd 5) (Qt [none,some 6] (Yq (Zd 3)) (ZW 0) ZS (U6 (Zb (Zg Yh (Zg dIx (Zd 1) (Zl (.int 0))) (Zg dIx (Zd 0) (Zl (.int 0)))) (Zb (Zg Yh (Zg dIx (Zd 1) (Zl (.int 1))) (Zg dIx (Zd 0) (Zl (.int 1)))) Zq)))))))
 (Zm (V5 (ZiQ (ZR (Zg UZ (Zd 4) (dFn 1 Zz (Zb (Zd 5) Zq)))) (ZR (Zg UZ (dFn 2 Z3 (Zb (Zd 3) (Zb (Zd 2) Zq))) (Zd 4)))) (Yr (Zl (.bl false))) Qe)
 (Zm (V5 (ZR (Zg UZ (dFn 1 Zp (Zb (Zd 4) Zq)) (Zg Yh (dFn 1 Zp (Zb (Zd 2) Zq)) (dFn 1 Zp (Zb (Zd 3) Zq))))) (Yr (Zl (.bl false))) Qe)
 (Zm (V5 (ZR (Zg UZ (dFn 1 Zs (Zb (dFn 2 Z3 (Zb (Zd 2) (Zb (Zd 2) Zq))) Zq)) (Zg Yj (Zl (.int 4)) (dFn 1 Zs (Zb (Zd 2) Zq))))) (Yr (Zl (.bl false))) Qe)
 (Zm (Z2 7 (U6 (Zb (Zg J8 (Zg Jn (dFn 2 Zj (Zb (Zd 0) (Zb (Zl (.int 3)) Zq))) (Zl (.int 41))) (Zl (.int 20))) (Zb (Zg J8 (Zg Jn (dFn 2 Zj (Zb (Zd 0) (Zb (Zl (.int 4)) Zq))) (Zl (.int 41))) (Zl (.int 20))) Zq))))
 (Zm (V5 (ZR (Zg UZ (dFn 2 Z3 (Zb (dFn 2 ZZ (Zb (Zd 2) (Zb (Zd 7) Zq))) (Zb (Zd 3) Zq))) (dFn 2 ZZ (Zb (Zd 4) (Zb (Zd 7) Zq))))) (Yr (Zl (.bl false))) Qe)
 (Yr (Zg dGe (dFn 1 Zs (Zb (Zd 4) Zq)) (Zg Yh (dFn 1 Zs (Zb (Zd 2) Zq)) (dFn 1 Zs (Zb (Zd 3) Zq))))))))))))))))
noncomputable def ZaK:List D->Option D:=ZA 8 Zin
def top (i:Nat):Stmt:=PySem.Challenge.pw_plotstead_k52_whole_added.main.body.getD i (.Pass ⟨0,0,0,0⟩)
section
variable {P:Program} {w:World} {K:PySem.W.Frag} {mg:Str->Option Value} {base:Heap}
noncomputable abbrev ZcN:Stmt:=top 1
noncomputable abbrev ZiL:List Str:=["a","b","c"]
theorem Zgl:Zx ZiL ["a","b","c"] (Zf ZcN):=⟨rfl,rfl,rfl,by decide +kernel,rfl,by decide +kernel,by decide +kernel⟩
noncomputable abbrev Zee (P:Program) (w:World) (K:PySem.W.Frag) (mg:Str->Option Value) (base:Heap):=Ys P w K mg base "turn" 1 ["a","b","c"] Jf
theorem ZgC (B:Blt mg):OkD P w K mg base "turn" ZcN 1 ["a","b","c"] Jf:=fun F=>Uf F Zgl rfl rfl fun cdv A outer s H E hr=>by
 refine ⟨_,?_,(Zo (ZG (Zk QH (Zk Yo (Zk QH (ZH Yz (Za (pv 1)) Ze (fun _ _=>rfl)) (ZH Yz (Za (pv 0)) Ze (fun _ _=>rfl))) (Zk QH (ZH Yz (Za (pv 2)) Ze (fun _ _=>rfl)) (ZH Yz (Za (pv 0)) Ze (fun _ _=>rfl)))) (Zk Yo (Zk QH (ZH Yz (Za (pv 1)) Ze (fun _ _=>rfl)) (ZH Yz (Za (pv 0)) Ze (fun _ _=>rfl))) (Zk QH (ZH Yz (Za (pv 2)) Ze (fun _ _=>rfl)) (ZH Yz (Za (pv 0)) Ze (fun _ _=>rfl)))))))⟩
 rfl
noncomputable abbrev Qh:Stmt:=top 2
noncomputable abbrev Zah:List Str:=["a","b","c"]
theorem VE:Zx Zah ["a","b","c"] (Zf Qh):=⟨rfl,rfl,rfl,by decide +kernel,rfl,by decide +kernel,by decide +kernel⟩
noncomputable abbrev JZ (P:Program) (w:World) (K:PySem.W.Frag) (mg:Str->Option Value) (base:Heap):=Ys P w K mg base "turns_left" 2 ["a","b","c"] Yd
theorem VM (B:Blt mg) (d_turn:Zee P w K mg base):OkD P w K mg base "turns_left" Qh 2 ["a","b","c"] Yd:=fun F=>Uf F VE rfl rfl fun cdv A outer s H E hr=>by
 refine ⟨_,?_,(Zo (ZG (ZfR Zjn (Zt d_turn hr (by decide) rfl (Zc (Za (pv 0)) (Zc (Za (pv 1)) (Zc (Za (pv 2)) Zh)))) Ze (YE _))))⟩
 rfl
noncomputable abbrev YZ:Stmt:=top 5
noncomputable abbrev Vw:List Str:=["corners"]
theorem Zas:Zx Vw ["corners"] (Zf YZ):=⟨rfl,rfl,rfl,by decide +kernel,rfl,by decide +kernel,by decide +kernel⟩
noncomputable abbrev JC (P:Program) (w:World) (K:PySem.W.Frag) (mg:Str->Option Value) (base:Heap):=Ys P w K mg base "sides_of" 1 ["corners"] ZT
theorem ZaA (B:Blt mg):OkD P w K mg base "sides_of" YZ 1 ["corners"] ZT:=fun F=>Uf F Zas rfl rfl fun cdv A outer s H E hr=>by
 refine ⟨_,?_,(Zo (ZG (Jz (N:=["k","corners"]) (caps:=[none,some 0]) (JA (sc:=Zf YZ) rfl (by decide +kernel)) (JB (sc:=Zf YZ) (XN:=Vw) rfl rfl (by decide +kernel)) rfl (Zds rfl B.range (Z1 ZaS rfl B.len PySem.boot_len (Zc (Za (pv 0)) Zh))) (Yx 0) (fun _ _ _ _=>YS (i:=0) (show (["k","corners"]:List Str).Nodup by decide +kernel) rfl (Or.inl rfl)) (fun _ _ _ _=>Jo) (fun _ _ _ _=>(QL (Zc (ZH Yz (Za (pv 1)) (Zk QH (Za (pv 0)) Ze) (fun _ _=>rfl)) (Zc (ZH Yz (Za (pv 1)) (Za (pv 0)) (fun _ _=>rfl)) Zh)))))))⟩
 rfl
noncomputable abbrev Y5:Stmt:=top 6
noncomputable abbrev Wg:List Str:=["corners","start"]
@[irreducible] def AE (X:Cx) (e:Expr) (f:DE):Prop:=ED X e f
@[irreducible] def AA (X:Cx) (es:List Expr) (as:DA):Prop:=AD X es as
theorem AE.ed {X:Cx} {e:Expr} {f:DE} (h:AE X e f):ED X e f:=by unfold AE at h; exact h
theorem ae_e {X:Cx} {e:Expr} {f:DE} (h:ED X e f):AE X e f:=by unfold AE; exact h
theorem aa_n {X:Cx}:AA X [] Zq:=by unfold AA; exact Zh
theorem aa_c {X:Cx} {e:Expr} {es:List Expr} {f:DE} {as:DA} (a:AE X e f) (b:AA X es as) (h:starEach (e::es) X.env=(false,eval e X.env)::starEach es X.env:=by rfl):AA X (e::es) (Zb f as):=by unfold AA at b ⊢; exact Zc a.ed b h
theorem ae_l {X:Cx} {pos:Pos} {es:List Expr} {as:DA} (h:AA X es as):AE X (.List es pos) (Ziy as):=by unfold AA at h; exact ae_e (Zix h)
theorem ae_t {X:Cx} {pos:Pos} {es:List Expr} {as:DA} {x1} (h:AA X es as):AE X (.Tuple es x1 pos) (U6 as):=by unfold AA at h; exact ae_e (QL h)
theorem ae_i {X:Cx} {pos:Pos} {i:Int} {j}:AE X (.Constant (.int i) j pos) (Zl (.int i)):=ae_e Ze
theorem ae_b {X:Cx} {pos:Pos} {b:Bool} {j}:AE X (.Constant (.bool b) j pos) (Zl (.bl b)):=ae_e Ze6
theorem ae_v {X:Cx} {pos:Pos} {j}:AE X (.Constant .none j pos) (Zl .non):=ae_e Ziw
theorem ae_m {X:Cx} {pos:Pos} {e:Expr} {f:DE} (h:AE X e f):AE X (.UnaryOp .USub e pos) (QG UY f):=ae_e (ZaL ZaB h.ed)
theorem sc_least_first:Zx Wg ["corners"] (Zf Y5):=⟨rfl,rfl,rfl,by decide +kernel,rfl,by decide +kernel,by decide +kernel⟩
noncomputable abbrev Jm (P:Program) (w:World) (K:PySem.W.Frag) (mg:Str->Option Value) (base:Heap):=Ys P w K mg base "least_first" 1 ["corners"] ZQ
theorem U0 (B:Blt mg):OkD P w K mg base "least_first" Y5 1 ["corners"] ZQ:=fun F=>Uf F sc_least_first rfl rfl fun cdv A outer s H E hr=>by
 refine ⟨_,?_,(Zi (ZN (i:=1) sc_least_first.nd rfl (Or.inl rfl) (Zbx hr.units (Za (pv 0)) (Z1 (Zf1 rfl hr.units) rfl B.min PyProof.Rows.boot_min (Zc (Za (pv 0)) Zh))))
   (Zo (ZG (Jg ZaR rfl B.tuple PyProof.Rows.boot_tuple (Zc (Zk Yu (ZaM (Za (pv 0)) (QW (Za (pv 1))) QX) (ZaM (Za (pv 0)) QX (QW (Za (pv 1))))) Zh)))))⟩
 rfl
noncomputable abbrev Ur:Stmt:=top 8
noncomputable abbrev Zed:List Str:=["plot","spot"]
theorem Zer:Zx Zed ["plot","spot"] (Zf Ur):=⟨rfl,rfl,rfl,by decide +kernel,rfl,by decide +kernel,by decide +kernel⟩
noncomputable abbrev Za3 (P:Program) (w:World) (K:PySem.W.Frag) (mg:Str->Option Value) (base:Heap):=Ys P w K mg base "moved" 2 ["plot","spot"] ZZ
theorem ZeE (B:Blt mg) (d_least_first:Jm P w K mg base):OkD P w K mg base "moved" Ur 2 ["plot","spot"] ZZ:=fun F=>Uf F Zer rfl rfl fun cdv A outer s H E hr=>by
 refine ⟨_,?_,(Zo (ZG (Zt d_least_first hr (by decide) rfl (Zc (Jz (N:=["corner","spot"]) (caps:=[none,some 1]) (JA (sc:=Zf Ur) rfl (by decide +kernel)) (JB (sc:=Zf Ur) (XN:=Zed) rfl rfl (by decide +kernel)) rfl (JJ (Za (pv 0))) (Yx 0) (fun _ _ _ _=>YS (i:=0) (show (["corner","spot"]:List Str).Nodup by decide +kernel) rfl (Or.inl rfl)) (fun _ _ _ _=>Jo) (fun _ _ _ _=>(QL (Zc (Zk Yu (ZH Yz (Za (pv 0)) Ze (fun _ _=>rfl)) (ZH Yz (Za (pv 1)) Ze (fun _ _=>rfl))) (Zc (Zk Yu (ZH Yz (Za (pv 0)) Ze (fun _ _=>rfl)) (ZH Yz (Za (pv 1)) Ze (fun _ _=>rfl))) Zh))))) Zh))))⟩
 rfl
noncomputable abbrev Yg:Stmt:=top 13
noncomputable abbrev Jl:List Str:=["spots","way","spot"]
theorem sc_way_turning_left:Zx Jl ["spots"] (Zf Yg):=⟨rfl,rfl,rfl,by decide +kernel,rfl,by decide +kernel,by decide +kernel⟩
noncomputable abbrev YM (P:Program) (w:World) (K:PySem.W.Frag) (mg:Str->Option Value) (base:Heap):=Ys P w K mg base "way_turning_left" 3 ["spots"] Zn
theorem QV (B:Blt mg) (d_turns_left:JZ P w K mg base):OkD P w K mg base "way_turning_left" Yg 3 ["spots"] Zn:=fun F=>Uf F sc_way_turning_left rfl rfl fun cdv A outer s H E hr=>by
 refine ⟨_,?_,(Zi (Ul (i:=1) sc_way_turning_left.nd rfl (Or.inl rfl) Zh)
   (Zi (Um PassesOwn.never rfl (JJ (Za (pv 0))) (YS (i:=2) sc_way_turning_left.nd rfl (Or.inl rfl)) (Zi (VB 3000 PassesOwn.never (Zcz 1 (Zi0 (Zcs (YY Zjn (Z1 ZaS rfl B.len PySem.boot_len (Zc (Za (pv 1)) Zh)) Ze (YE _)) (Za4 (Zhp (Zho (Zt d_turns_left hr (by decide) rfl (Zc (ZH Yz (Za (pv 1)) (ZaL ZaB Ze) (fun _ _=>rfl)) (Zc (ZH Yz (Za (pv 1)) (ZaL ZaB Ze) (fun _ _=>rfl)) (Zc (Za (pv 2)) Zh)))))))))) (Zo (Zfy (i:=1) (pv 1))))
   (Zo (Wu (i:=1) (pv 1) (Za (pv 2))))))
   (Zo (ZcK 1 (ZG (Za (pv 1)))))))⟩
 rfl
noncomputable abbrev VG:Stmt:=top 14
noncomputable abbrev Zfo:List Str:=["spots","rising","there","back","corners"]
theorem sc_around:Zx Zfo ["spots"] (Zf VG):=⟨rfl,rfl,rfl,by decide +kernel,rfl,by decide +kernel,by decide +kernel⟩
noncomputable abbrev ZbK (P:Program) (w:World) (K:PySem.W.Frag) (mg:Str->Option Value) (base:Heap):=Ys P w K mg base "around" 4 ["spots"] QE
theorem Zc8 (B:Blt mg) (d_way_turning_left:YM P w K mg base) (c_FEWEST_CORNERS:∃ t,mg "FEWEST_CORNERS"=some (.int 3 t)):OkD P w K mg base "around" VG 4 ["spots"] QE:=fun F=>Uf F sc_around rfl rfl fun cdv A outer s H E hr=>by
 refine ⟨_,?_,(Zi (ZN (i:=1) sc_around.nd rfl (Or.inl rfl) (Vo rfl hr.units rfl B.sorted rfl B.set (Za (pv 0))))
   (Zi (ZN (i:=2) sc_around.nd rfl (Or.inl rfl) (Zt d_way_turning_left hr (by decide) rfl (Zc (Za (pv 1)) Zh)))
   (Zi (ZN (i:=3) sc_around.nd rfl (Or.inl rfl) (Zt d_way_turning_left hr (by decide) rfl (Zc (ZgT rfl rfl B.list rfl B.reversed (Za (pv 1))) Zh)))
   (Zi (ZN (i:=4) sc_around.nd rfl (Or.inl rfl) (Zk Yu (ZaM (Za (pv 2)) QX (QW (ZaL ZaB Ze))) (ZaM (Za (pv 3)) QX (QW (ZaL ZaB Ze)))))
   (Zi (VC (YY ZiT (Z1 ZaS rfl B.len PySem.boot_len (Zc (Za (pv 4)) Zh)) (ZgU rfl c_FEWEST_CORNERS.choose_spec) (YE _)) (Zo Zeq) Y4)
   (Zo (ZG (Jg ZaR rfl B.tuple PyProof.Rows.boot_tuple (Zc (Za (pv 4)) Zh)))))))))⟩
 rfl
noncomputable abbrev Zat:Stmt:=top 15
noncomputable abbrev Zha:List Str:=["one","other","sums","corner"]
theorem sc_added:Zx Zha ["one","other"] (Zf Zat):=⟨rfl,rfl,rfl,by decide +kernel,rfl,by decide +kernel,by decide +kernel⟩
noncomputable abbrev Zef (P:Program) (w:World) (K:PySem.W.Frag) (mg:Str->Option Value) (base:Heap):=Ys P w K mg base "added" 5 ["one","other"] Z3
theorem ZeF (B:Blt mg) (d_moved:Za3 P w K mg base) (d_around:ZbK P w K mg base):OkD P w K mg base "added" Zat 5 ["one","other"] Z3:=fun F=>Uf F sc_added rfl rfl fun cdv A outer s H E hr=>by
 refine ⟨_,?_,(Zi (Ul (i:=2) sc_added.nd rfl (Or.inl rfl) Zh)
   (Zi (Um PassesOwn.never rfl (JJ (Za (pv 0))) (YS (i:=3) sc_added.nd rfl (Or.inl rfl)) (Zo (ZcL (i:=2) (pv 2) (Zt d_moved hr (by decide) rfl (Zc (Za (pv 1)) (Zc (Za (pv 3)) Zh))))))
   (Zo (ZcK 2 (ZG (Zt d_around hr (by decide) rfl (Zc (Za (pv 2)) Zh)))))))⟩
 rfl
noncomputable abbrev Yl:Stmt:=top 18
noncomputable abbrev JW:List Str:=["plot"]
theorem VD:Zx JW ["plot"] (Zf Yl):=⟨rfl,rfl,rfl,by decide +kernel,rfl,by decide +kernel,by decide +kernel⟩
noncomputable abbrev JY (P:Program) (w:World) (K:PySem.W.Frag) (mg:Str->Option Value) (base:Heap):=Ys P w K mg base "twice_area" 2 ["plot"] Zs
theorem VL (B:Blt mg) (d_sides_of:JC P w K mg base) (d_turn:Zee P w K mg base) (c_MIDDLE:Zfp K mg "MIDDLE" (.tup [(.int 0),(.int 0)])):OkD P w K mg base "twice_area" Yl 2 ["plot"] Zs:=fun F=>Uf F VD rfl rfl fun cdv A outer s H E hr=>by
 refine ⟨_,?_,(Zo (ZG (Z1 (ZiF rfl) rfl B.sum PyProof.Rows.boot_sum (Zc (Jz (N:=["side"]) (caps:=[none]) (JA (sc:=Zf Yl) rfl (by decide +kernel)) (JB (sc:=Zf Yl) (XN:=JW) rfl rfl (by decide +kernel)) rfl (JJ (Zt d_sides_of hr (by decide) rfl (Zc (Za (pv 0)) Zh))) (Yx 0) (fun _ _ _ _=>YS (i:=0) (show (["side"]:List Str).Nodup by decide +kernel) rfl (Or.inl rfl)) (fun _ _ _ _=>Jo) (fun _ _ _ _=>(Zt d_turn hr (by decide) rfl (Zc (Ze5 rfl c_MIDDLE) (Zc (ZH Yz (Za (pv 0)) Ze (fun _ _=>rfl)) (Zc (ZH Yz (Za (pv 0)) Ze (fun _ _=>rfl)) Zh)))))) Zh))))⟩
 rfl
noncomputable abbrev ZM:Stmt:=top 19
noncomputable abbrev YX:List Str:=["one","other","rest"]
theorem sc_greatest_common_divisor:Zx YX ["one","other"] (Zf ZM):=⟨rfl,rfl,rfl,by decide +kernel,rfl,by decide +kernel,by decide +kernel⟩
noncomputable abbrev Z7 (P:Program) (w:World) (K:PySem.W.Frag) (mg:Str->Option Value) (base:Heap):=Ys P w K mg base "greatest_common_divisor" 1 ["one","other"] Zr
theorem YG (B:Blt mg):OkD P w K mg base "greatest_common_divisor" ZM 1 ["one","other"] Zr:=fun F=>Uf F sc_greatest_common_divisor rfl rfl fun cdv A outer s H E hr=>by
 refine ⟨_,?_,(Zi (VB 3000 PassesOwn.never (YY (Zhc hr.units) (Za (pv 1)) Ze (YE _)) (Zi (ZN (i:=2) sc_greatest_common_divisor.nd rfl (Or.inl rfl) (Zk Jt (Za (pv 0)) (Za (pv 1))))
   (Zi (ZN (i:=0) sc_greatest_common_divisor.nd rfl (Or.inl rfl) (Za (pv 1)))
   (Zo (ZN (i:=1) sc_greatest_common_divisor.nd rfl (Or.inl rfl) (Za (pv 2)))))))
   (Zo (ZG (Za (pv 0)))))⟩
 rfl
noncomputable abbrev YO:Stmt:=top 20
noncomputable abbrev U7:List Str:=["side","across","up"]
theorem sc_stakes_along:Zx U7 ["side"] (Zf YO):=⟨rfl,rfl,rfl,by decide +kernel,rfl,by decide +kernel,by decide +kernel⟩
noncomputable abbrev QO (P:Program) (w:World) (K:PySem.W.Frag) (mg:Str->Option Value) (base:Heap):=Ys P w K mg base "stakes_along" 2 ["side"] ZD
theorem Uu (B:Blt mg) (d_greatest_common_divisor:Z7 P w K mg base):OkD P w K mg base "stakes_along" YO 2 ["side"] ZD:=fun F=>Uf F sc_stakes_along rfl rfl fun cdv A outer s H E hr=>by
 refine ⟨_,?_,(Zi (ZN (i:=1) sc_stakes_along.nd rfl (Or.inl rfl) (Z1 ZiH rfl B.abs PyProof.Rows.boot_abs (Zc (Zk QH (ZH Yz (ZH Yz (Za (pv 0)) Ze (fun _ _=>rfl)) Ze (fun _ _=>rfl)) (ZH Yz (ZH Yz (Za (pv 0)) Ze (fun _ _=>rfl)) Ze (fun _ _=>rfl))) Zh)))
   (Zi (ZN (i:=2) sc_stakes_along.nd rfl (Or.inl rfl) (Z1 ZiH rfl B.abs PyProof.Rows.boot_abs (Zc (Zk QH (ZH Yz (ZH Yz (Za (pv 0)) Ze (fun _ _=>rfl)) Ze (fun _ _=>rfl)) (ZH Yz (ZH Yz (Za (pv 0)) Ze (fun _ _=>rfl)) Ze (fun _ _=>rfl))) Zh)))
   (Zo (ZG (Zt d_greatest_common_divisor hr (by decide) rfl (Zc (Za (pv 1)) (Zc (Za (pv 2)) Zh)))))))⟩
 rfl
noncomputable abbrev Z5:Stmt:=top 21
noncomputable abbrev QM:List Str:=["plot"]
theorem Uo:Zx QM ["plot"] (Zf Z5):=⟨rfl,rfl,rfl,by decide +kernel,rfl,by decide +kernel,by decide +kernel⟩
noncomputable abbrev QP (P:Program) (w:World) (K:PySem.W.Frag) (mg:Str->Option Value) (base:Heap):=Ys P w K mg base "fence_stakes" 3 ["plot"] Zp
theorem Uv (B:Blt mg) (d_sides_of:JC P w K mg base) (d_stakes_along:QO P w K mg base):OkD P w K mg base "fence_stakes" Z5 3 ["plot"] Zp:=fun F=>Uf F Uo rfl rfl fun cdv A outer s H E hr=>by
 refine ⟨_,?_,(Zo (ZG (Z1 (ZiF rfl) rfl B.sum PyProof.Rows.boot_sum (Zc (Jz (N:=["side"]) (caps:=[none]) (JA (sc:=Zf Z5) rfl (by decide +kernel)) (JB (sc:=Zf Z5) (XN:=QM) rfl rfl (by decide +kernel)) rfl (JJ (Zt d_sides_of hr (by decide) rfl (Zc (Za (pv 0)) Zh))) (Yx 0) (fun _ _ _ _=>YS (i:=0) (show (["side"]:List Str).Nodup by decide +kernel) rfl (Or.inl rfl)) (fun _ _ _ _=>Jo) (fun _ _ _ _=>(Zt d_stakes_along hr (by decide) rfl (Zc (Za (pv 0)) Zh)))) Zh))))⟩
 rfl
noncomputable abbrev YQ:Stmt:=top 23
noncomputable abbrev U8:List Str:=["_law_script","_law_k"]
theorem Uq:Zx U8 ["_law_script","_law_k"] (Zf YQ):=⟨rfl,rfl,rfl,by decide +kernel,rfl,by decide +kernel,by decide +kernel⟩
noncomputable abbrev QQ (P:Program) (w:World) (K:PySem.W.Frag) (mg:Str->Option Value) (base:Heap):=Ys P w K mg base "_law_cell_at" 1 ["_law_script","_law_k"] ZU
theorem Uw (B:Blt mg):OkD P w K mg base "_law_cell_at" YQ 1 ["_law_script","_law_k"] ZU:=fun F=>Uf F Uq rfl rfl fun cdv A outer s H E hr=>by
 refine ⟨_,?_,(Zi (VC (YY ZiT (Za (pv 1)) (Z1 ZaS rfl B.len PySem.boot_len (Zc (Za (pv 0)) Zh)) (YE _)) (Zo (ZG (ZH Yz (Za (pv 0)) (Za (pv 1)) (fun _ _=>rfl)))) Y4)
   (Zo (ZG Ze)))⟩
 rfl
noncomputable abbrev Qj:Stmt:=top 24
noncomputable abbrev Zaj:List Str:=["_law_script","_law_k","_law_drawn_here"]
theorem sc__law_mixed:Zx Zaj ["_law_script","_law_k"] (Zf Qj):=⟨rfl,rfl,rfl,by decide +kernel,rfl,by decide +kernel,by decide +kernel⟩
noncomputable abbrev J2 (P:Program) (w:World) (K:PySem.W.Frag) (mg:Str->Option Value) (base:Heap):=Ys P w K mg base "_law_mixed" 2 ["_law_script","_law_k"] Zj
theorem VP (B:Blt mg) (d__law_cell_at:QQ P w K mg base):OkD P w K mg base "_law_mixed" Qj 2 ["_law_script","_law_k"] Zj:=fun F=>Uf F sc__law_mixed rfl rfl fun cdv A outer s H E hr=>by
 refine ⟨_,?_,(Zi (ZN (i:=2) sc__law_mixed.nd rfl (Or.inl rfl) (Zk Jt (Zk Yo (Zk Yu (Zk Yu (Zt d__law_cell_at hr (by decide) rfl (Zc (Za (pv 0)) (Zc (Za (pv 1)) Zh))) (Zk Yo Ze (Za (pv 1)))) Ze) Ze) Ze))
   (Zo (ZG (Zk Jt (Zk Yu (Zk Yu (Zk Yo (Za (pv 2)) (Za (pv 2))) (Zk Yo Ze (Za (pv 2)))) (Za (pv 1))) Ze))))⟩
 rfl
noncomputable abbrev Qk:Stmt:=top 25
noncomputable abbrev Zak:List Str:=["_law_number_here","_law_k","_law_drawn_here"]
theorem sc__law_drawn:Zx Zak ["_law_number_here","_law_k"] (Zf Qk):=⟨rfl,rfl,rfl,by decide +kernel,rfl,by decide +kernel,by decide +kernel⟩
noncomputable abbrev J3 (P:Program) (w:World) (K:PySem.W.Frag) (mg:Str->Option Value) (base:Heap):=Ys P w K mg base "_law_drawn" 1 ["_law_number_here","_law_k"] ZO
theorem VQ (B:Blt mg):OkD P w K mg base "_law_drawn" Qk 1 ["_law_number_here","_law_k"] ZO:=fun F=>Uf F sc__law_drawn rfl rfl fun cdv A outer s H E hr=>by
 refine ⟨_,?_,(Zi (ZN (i:=2) sc__law_drawn.nd rfl (Or.inl rfl) (Zk Jt (Zk Yo (Zk Yu (Zk Yu (Za (pv 0)) (Zk Yo Ze (Za (pv 1)))) Ze) Ze) Ze))
   (Zo (ZG (Zk Jt (Zk Yu (Zk Yu (Zk Yo (Za (pv 2)) (Za (pv 2))) (Zk Yo Ze (Za (pv 2)))) (Za (pv 1))) Ze))))⟩
 rfl
noncomputable abbrev QR:Stmt:=top 27
noncomputable abbrev Za0:List Str:=["_law_a","_law_b","_law_c"]
theorem Wv:Zx Za0 ["_law_a","_law_b","_law_c"] (Zf QR):=⟨rfl,rfl,rfl,by decide +kernel,rfl,by decide +kernel,by decide +kernel⟩
noncomputable abbrev UT (P:Program) (w:World) (K:PySem.W.Frag) (mg:Str->Option Value) (base:Heap):=Ys P w K mg base "_law_turn" 1 ["_law_a","_law_b","_law_c"] YF
theorem WD (B:Blt mg):OkD P w K mg base "_law_turn" QR 1 ["_law_a","_law_b","_law_c"] YF:=fun F=>Uf F Wv rfl rfl fun cdv A outer s H E hr=>by
 refine ⟨_,?_,(Zo (ZG (Zk QH (Zk Yo (Zk QH (ZH Yz (Za (pv 1)) Ze (fun _ _=>rfl)) (ZH Yz (Za (pv 0)) Ze (fun _ _=>rfl))) (Zk QH (ZH Yz (Za (pv 2)) Ze (fun _ _=>rfl)) (ZH Yz (Za (pv 0)) Ze (fun _ _=>rfl)))) (Zk Yo (Zk QH (ZH Yz (Za (pv 1)) Ze (fun _ _=>rfl)) (ZH Yz (Za (pv 0)) Ze (fun _ _=>rfl))) (Zk QH (ZH Yz (Za (pv 2)) Ze (fun _ _=>rfl)) (ZH Yz (Za (pv 0)) Ze (fun _ _=>rfl)))))))⟩
 rfl
noncomputable abbrev QS:Stmt:=top 29
noncomputable abbrev Za1:List Str:=["_law_corners","_law_at","_law_by"]
theorem Ww:Zx Za1 ["_law_corners","_law_at","_law_by"] (Zf QS):=⟨rfl,rfl,rfl,by decide +kernel,rfl,by decide +kernel,by decide +kernel⟩
noncomputable abbrev UU (P:Program) (w:World) (K:PySem.W.Frag) (mg:Str->Option Value) (base:Heap):=Ys P w K mg base "_law_next" 1 ["_law_corners","_law_at","_law_by"] Ya
theorem WE (B:Blt mg):OkD P w K mg base "_law_next" QS 1 ["_law_corners","_law_at","_law_by"] Ya:=fun F=>Uf F Ww rfl rfl fun cdv A outer s H E hr=>by
 refine ⟨_,?_,(Zo (ZG (ZH Yz (Za (pv 0)) (Zk Jt (Zk Yu (Za (pv 1)) (Za (pv 2))) (Z1 ZaS rfl B.len PySem.boot_len (Zc (Za (pv 0)) Zh))) (fun _ _=>rfl))))⟩
 rfl
noncomputable abbrev QT:Stmt:=top 30
noncomputable abbrev Za2:List Str:=["_law_corners","_law_found","_law_at","_law_a","_law_b"]
theorem sc__law_area:Zx Za2 ["_law_corners"] (Zf QT):=⟨rfl,rfl,rfl,by decide +kernel,rfl,by decide +kernel,by decide +kernel⟩
noncomputable abbrev UV (P:Program) (w:World) (K:PySem.W.Frag) (mg:Str->Option Value) (base:Heap):=Ys P w K mg base "_law_area" 2 ["_law_corners"] Yb
theorem WF (B:Blt mg) (d__law_next:UU P w K mg base):OkD P w K mg base "_law_area" QT 2 ["_law_corners"] Yb:=fun F=>Uf F sc__law_area rfl rfl fun cdv A outer s H E hr=>by
 refine ⟨_,?_,(Zi (ZN (i:=1) sc__law_area.nd rfl (Or.inl rfl) Ze)
   (Zi (Um PassesOwn.never rfl (ZgN rfl B.enumerate (Za (pv 0))) (ZgP (i:=2) (j:=3) rfl sc__law_area.nd rfl rfl (Or.inl rfl) (Or.inl rfl)) (Zi (ZN (i:=4) sc__law_area.nd rfl (Or.inl rfl) (Zt d__law_next hr (by decide) rfl (Zc (Za (pv 0)) (Zc (Za (pv 2)) (Zc Ze Zh)))))
   (Zo (ZN (i:=1) sc__law_area.nd rfl (Or.inl rfl) (Zk QH (Zk Yu (Za (pv 1)) (Zk Yo (ZH Yz (Za (pv 3)) Ze (fun _ _=>rfl)) (ZH Yz (Za (pv 4)) Ze (fun _ _=>rfl)))) (Zk Yo (ZH Yz (Za (pv 3)) Ze (fun _ _=>rfl)) (ZH Yz (Za (pv 4)) Ze (fun _ _=>rfl))))))))
   (Zo (ZG (Za (pv 1))))))⟩
 rfl
noncomputable abbrev YD:Stmt:=top 31
noncomputable abbrev US:List Str:=["_law_corners","_law_found","_law_at"]
theorem sc__law_in_order:Zx US ["_law_corners"] (Zf YD):=⟨rfl,rfl,rfl,by decide +kernel,rfl,by decide +kernel,by decide +kernel⟩
noncomputable abbrev Qv (P:Program) (w:World) (K:PySem.W.Frag) (mg:Str->Option Value) (base:Heap):=Ys P w K mg base "_law_in_order" 3 ["_law_corners"] Z0
theorem J6 (B:Blt mg) (d__law_area:UV P w K mg base):OkD P w K mg base "_law_in_order" YD 3 ["_law_corners"] Z0:=fun F=>Uf F sc__law_in_order rfl rfl fun cdv A outer s H E hr=>by
 refine ⟨_,?_,(Zi (ZN (i:=1) sc__law_in_order.nd rfl (Or.inl rfl) (Jg ZiG rfl B.list PyProof.Rows.boot_list (Zc (Za (pv 0)) Zh)))
   (Zi (VC (YY ZiT (Zt d__law_area hr (by decide) rfl (Zc (Za (pv 1)) Zh)) Ze (YE _)) (Zo (ZN (i:=1) sc__law_in_order.nd rfl (Or.inl rfl) (ZfQ (Za (pv 1))))) Y4)
   (Zi (ZN (i:=2) sc__law_in_order.nd rfl (Or.inl rfl) (Zbx hr.units (Za (pv 1)) (Z1 (Zf1 rfl hr.units) rfl B.min PyProof.Rows.boot_min (Zc (Za (pv 1)) Zh))))
   (Zo (ZG (Jg ZaR rfl B.tuple PyProof.Rows.boot_tuple (Zc (Zk Yu (ZaM (Za (pv 1)) (QW (Za (pv 2))) QX) (ZaM (Za (pv 1)) QX (QW (Za (pv 2))))) Zh)))))))⟩
 rfl
noncomputable abbrev Ym:Stmt:=top 35
noncomputable abbrev JX:List Str:=["_law_number_here","_law_wide","_law_many"]
theorem VF:Zx JX ["_law_number_here","_law_wide","_law_many"] (Zf Ym):=⟨rfl,rfl,rfl,by decide +kernel,rfl,by decide +kernel,by decide +kernel⟩
noncomputable abbrev J0 (P:Program) (w:World) (K:PySem.W.Frag) (mg:Str->Option Value) (base:Heap):=Ys P w K mg base "_law_spots" 2 ["_law_number_here","_law_wide","_law_many"] Ye
theorem VN (B:Blt mg) (d__law_drawn:J3 P w K mg base):OkD P w K mg base "_law_spots" Ym 2 ["_law_number_here","_law_wide","_law_many"] Ye:=fun F=>Uf F VF rfl rfl fun cdv A outer s H E hr=>by
 refine ⟨_,?_,(Zo (ZG (Jz (N:=["_law_k","_law_wide","_law_number_here"]) (caps:=[none,some 1,some 0]) (JA (sc:=Zf Ym) rfl (by decide +kernel)) (JB (sc:=Zf Ym) (XN:=JX) rfl rfl (by decide +kernel)) rfl (Zds rfl B.range (Za (pv 2))) (Yx 0) (fun _ _ _ _=>YS (i:=0) (show (["_law_k","_law_wide","_law_number_here"]:List Str).Nodup by decide +kernel) rfl (Or.inl rfl)) (fun _ _ _ _=>Jo) (fun _ _ _ _=>(QL (Zc (Zk Jt (Zt d__law_drawn hr (by decide) rfl (Zc (Za (pv 2)) (Zc (Zk Yo Ze (Za (pv 0))) Zh))) (Za (pv 1))) (Zc (Zk Jt (Zt d__law_drawn hr (by decide) rfl (Zc (Za (pv 2)) (Zc (Zk Yu (Zk Yo Ze (Za (pv 0))) Ze) Zh))) (Za (pv 1))) Zh)))))))⟩
 rfl
noncomputable abbrev Ql:Stmt:=top 38
noncomputable abbrev Zal:List Str:=["_law_spots_here","_law_found","_law_spot"]
theorem sc__law_chain:Zx Zal ["_law_spots_here"] (Zf Ql):=⟨rfl,rfl,rfl,by decide +kernel,rfl,by decide +kernel,by decide +kernel⟩
noncomputable abbrev J4 (P:Program) (w:World) (K:PySem.W.Frag) (mg:Str->Option Value) (base:Heap):=Ys P w K mg base "_law_chain" 2 ["_law_spots_here"] ZF
theorem VR (B:Blt mg) (d__law_turn:UT P w K mg base):OkD P w K mg base "_law_chain" Ql 2 ["_law_spots_here"] ZF:=fun F=>Uf F sc__law_chain rfl rfl fun cdv A outer s H E hr=>by
 refine ⟨_,?_,(Zi (Ul (i:=1) sc__law_chain.nd rfl (Or.inl rfl) Zh)
   (Zi (Um PassesOwn.never rfl (JJ (Za (pv 0))) (YS (i:=2) sc__law_chain.nd rfl (Or.inl rfl)) (Zi (VB 3000 PassesOwn.never (Zcz 1 (Zi0 (Zcs (YY Zjn (Z1 ZaS rfl B.len PySem.boot_len (Zc (Za (pv 1)) Zh)) Ze (YE _)) (Za4 (YY Zkn (Zt d__law_turn hr (by decide) rfl (Zc (ZH Yz (Za (pv 1)) (ZaL ZaB Ze) (fun _ _=>rfl)) (Zc (ZH Yz (Za (pv 1)) (ZaL ZaB Ze) (fun _ _=>rfl)) (Zc (Za (pv 2)) Zh)))) Ze (YE _)))))) (Zo (Zfy (i:=1) (pv 1))))
   (Zo (Wu (i:=1) (pv 1) (Za (pv 2))))))
   (Zo (ZcK 1 (ZG (ZaM (Za (pv 1)) QX (QW (ZaL ZaB Ze))))))))⟩
 rfl
noncomputable abbrev Y6:Stmt:=top 39
noncomputable abbrev Wh:List Str:=["_law_spots_here","_law_some","_law_found"]
theorem sc__law_around:Zx Wh ["_law_spots_here"] (Zf Y6):=⟨rfl,rfl,rfl,by decide +kernel,rfl,by decide +kernel,by decide +kernel⟩
noncomputable abbrev Qc (P:Program) (w:World) (K:PySem.W.Frag) (mg:Str->Option Value) (base:Heap):=Ys P w K mg base "_law_around" 4 ["_law_spots_here"] Zz
theorem U1 (B:Blt mg) (d__law_chain:J4 P w K mg base) (d__law_in_order:Qv P w K mg base):OkD P w K mg base "_law_around" Y6 4 ["_law_spots_here"] Zz:=fun F=>Uf F sc__law_around rfl rfl fun cdv A outer s H E hr=>by
 refine ⟨_,?_,(Zi (ZN (i:=1) sc__law_around.nd rfl (Or.inl rfl) (Vo rfl hr.units rfl B.sorted rfl B.set (Za (pv 0))))
   (Zi (ZN (i:=2) sc__law_around.nd rfl (Or.inl rfl) (Zk Yu (Zt d__law_chain hr (by decide) rfl (Zc (Za (pv 1)) Zh)) (Zt d__law_chain hr (by decide) rfl (Zc (ZfQ (Za (pv 1))) Zh))))
   (Zi (VC (YY ZiT (Z1 ZaS rfl B.len PySem.boot_len (Zc (Za (pv 2)) Zh)) Ze (YE _)) (Zo (ZG Ziw)) Y4)
   (Zo (ZG (Zt d__law_in_order hr (by decide) rfl (Zc (Za (pv 2)) Zh)))))))⟩
 rfl
noncomputable abbrev Qi:Stmt:=top 40
noncomputable abbrev Zai:List Str:=["_law_number_here","_law_wide","_law_found"]
theorem sc__law_round:Zx Zai ["_law_number_here","_law_wide"] (Zf Qi):=⟨rfl,rfl,rfl,by decide +kernel,rfl,by decide +kernel,by decide +kernel⟩
noncomputable abbrev J1 (P:Program) (w:World) (K:PySem.W.Frag) (mg:Str->Option Value) (base:Heap):=Ys P w K mg base "_law_round" 5 ["_law_number_here","_law_wide"] ZE
theorem VO (B:Blt mg) (d__law_around:Qc P w K mg base) (d__law_spots:J0 P w K mg base):OkD P w K mg base "_law_round" Qi 5 ["_law_number_here","_law_wide"] ZE:=fun F=>Uf F sc__law_round rfl rfl fun cdv A outer s H E hr=>by
 refine ⟨_,?_,(Zi (ZN (i:=2) sc__law_round.nd rfl (Or.inl rfl) (Zt d__law_around hr (by decide) rfl (Zc (Zt d__law_spots hr (by decide) rfl (Zc (Za (pv 0)) (Zc (Za (pv 1)) (Zc (Zk Yu Ze (Zk Jt (Za (pv 0)) Ze)) Zh)))) Zh)))
   (Zi (VC (Zhq (Za (pv 2))) (Zo (ZG (AE.ed (ae_t (aa_c (ae_t (aa_c ae_i (aa_c ae_i aa_n))) (aa_c (ae_t (aa_c ae_i (aa_c ae_i aa_n))) (aa_c (ae_t (aa_c ae_i (aa_c (ae_e (Zk Yu Ze (Zk Jt (Za (pv 0)) Ze))) aa_n))) aa_n Qg) Qg) Qg))))) Y4)
   (Zo (ZG (Za (pv 2))))))⟩
 rfl
noncomputable abbrev Wx:Stmt:=top 41
noncomputable abbrev ZiM:List Str:=["_law_script","_law_wide","_law_one","_law_other","_law_found","_law_spots_here","_law_a","_law_spot"]
theorem sc_law:Zx ZiM ["_law_script"] (Zf Wx):=⟨rfl,rfl,rfl,by decide +kernel,rfl,by decide +kernel,by decide +kernel⟩
theorem ZhZ (B:Blt mg) (d__law_mixed:J2 P w K mg base) (d__law_round:J1 P w K mg base) (d_added:Zef P w K mg base) (d__law_around:Qc P w K mg base) (d_fence_stakes:QP P w K mg base) (d_twice_area:JY P w K mg base) (d_moved:Za3 P w K mg base):OkD P w K mg base "law" Wx 6 ["_law_script"] ZaK:=fun F=>Uf F sc_law rfl rfl fun cdv A outer s H E hr=>by
 refine ⟨_,?_,(Zi (ZN (i:=1) sc_law.nd rfl (Or.inl rfl) (ZH Yz (QL (Zc Ze (Zc Ze (Zc Ze (Zc Ze Zh))))) (Zk Jt (Zt d__law_mixed hr (by decide) rfl (Zc (Za (pv 0)) (Zc Ze Zh))) Ze) (fun _ _=>rfl)))
   (Zi (ZN (i:=2) sc_law.nd rfl (Or.inl rfl) (Zt d__law_round hr (by decide) rfl (Zc (Zt d__law_mixed hr (by decide) rfl (Zc (Za (pv 0)) (Zc Ze Zh))) (Zc (Za (pv 1)) Zh))))
   (Zi (ZN (i:=3) sc_law.nd rfl (Or.inl rfl) (Zt d__law_round hr (by decide) rfl (Zc (Zt d__law_mixed hr (by decide) rfl (Zc (Za (pv 0)) (Zc Ze Zh))) (Zc (Za (pv 1)) Zh))))
   (Zi (ZN (i:=4) sc_law.nd rfl (Or.inl rfl) (Zt d_added hr (by decide) rfl (Zc (Za (pv 2)) (Zc (Za (pv 3)) Zh))))
   (Zi (ZN (i:=5) sc_law.nd rfl (Or.inl rfl) (Zix Zh))
   (Zi (Um PassesOwn.never rfl (JJ (Za (pv 2))) (YS (i:=6) sc_law.nd rfl (Or.inr rfl)) (Zo (ZN (i:=5) sc_law.nd rfl (Or.inl rfl) (Zk Yu (Za (pv 5)) (Jz (N:=["_law_b","_law_a"]) (caps:=[none,some 6]) (JA (sc:=Zf Wx) rfl (by decide +kernel)) (JB (sc:=Zf Wx) (XN:=ZiM) rfl rfl (by decide +kernel)) rfl (JJ (Za (pv 3))) (Yx 0) (fun _ _ _ _=>YS (i:=0) (show (["_law_b","_law_a"]:List Str).Nodup by decide +kernel) rfl (Or.inl rfl)) (fun _ _ _ _=>Jo) (fun _ _ _ _=>(QL (Zc (Zk Yu (ZH Yz (Za (pv 1)) Ze (fun _ _=>rfl)) (ZH Yz (Za (pv 0)) Ze (fun _ _=>rfl))) (Zc (Zk Yu (ZH Yz (Za (pv 1)) Ze (fun _ _=>rfl)) (ZH Yz (Za (pv 0)) Ze (fun _ _=>rfl))) Zh)))))))))
   (Zi (VC (Zi0 (Zhh (YY (Zhc hr.units) (Za (pv 4)) (Zt d__law_around hr (by decide) rfl (Zc (Za (pv 5)) Zh)) (YE _)) (Zf8 (YY (Zhc hr.units) (Zt d_added hr (by decide) rfl (Zc (Za (pv 3)) (Zc (Za (pv 2)) Zh))) (Za (pv 4)) (YE _))))) (Zo (ZG Ze6)) Y4)
   (Zi (VC (YY (Zhc hr.units) (Zt d_fence_stakes hr (by decide) rfl (Zc (Za (pv 4)) Zh)) (Zk Yu (Zt d_fence_stakes hr (by decide) rfl (Zc (Za (pv 2)) Zh)) (Zt d_fence_stakes hr (by decide) rfl (Zc (Za (pv 3)) Zh))) (YE _)) (Zo (ZG Ze6)) Y4)
   (Zi (VC (YY (Zhc hr.units) (Zt d_twice_area hr (by decide) rfl (Zc (Zt d_added hr (by decide) rfl (Zc (Za (pv 2)) (Zc (Za (pv 2)) Zh))) Zh)) (Zk Yo Ze (Zt d_twice_area hr (by decide) rfl (Zc (Za (pv 2)) Zh))) (YE _)) (Zo (ZG Ze6)) Y4)
   (Zi (ZN (i:=7) sc_law.nd rfl (Or.inl rfl) (QL (Zc (Zk QH (Zk Jt (Zt d__law_mixed hr (by decide) rfl (Zc (Za (pv 0)) (Zc Ze Zh))) Ze) Ze) (Zc (Zk QH (Zk Jt (Zt d__law_mixed hr (by decide) rfl (Zc (Za (pv 0)) (Zc Ze Zh))) Ze) Ze) Zh))))
   (Zi (VC (YY (Zhc hr.units) (Zt d_added hr (by decide) rfl (Zc (Zt d_moved hr (by decide) rfl (Zc (Za (pv 2)) (Zc (Za (pv 7)) Zh))) (Zc (Za (pv 3)) Zh))) (Zt d_moved hr (by decide) rfl (Zc (Za (pv 4)) (Zc (Za (pv 7)) Zh))) (YE _)) (Zo (ZG Ze6)) Y4)
   (Zo (ZG (ZfR Zko (Zt d_twice_area hr (by decide) rfl (Zc (Za (pv 4)) Zh)) (Zk Yu (Zt d_twice_area hr (by decide) rfl (Zc (Za (pv 2)) Zh)) (Zt d_twice_area hr (by decide) rfl (Zc (Za (pv 3)) Zh))) (YE _)))))))))))))))⟩
 rfl
end
theorem Zia {S one other F P O mo mF:D} {t6:Sl} {wide i2 m0 m1 m2 m3 m4 u v fF f1 f2 aO a1 a2 aF:Int}
  (x0:Zj [S,.int 0]=some (.int m0)) (x1:Zj [S,.int 1]=some (.int m1)) (x2:Zj [S,.int 2]=some (.int m2)) (x3:Zj [S,.int 3]=some (.int m3)) (x4:Zj [S,.int 4]=some (.int m4))
  (d4:Jn (.int m2) (.int 4)=some (.int i2)) (hw:dIx (.tup [.int 3,.int 6,.int 30,.int 100]) (.int i2)=some (.int wide))
  (r1:ZE [.int m0,.int wide]=some one) (r2:ZE [.int m1,.int wide]=some other) (ad:Z3 [one,other]=some F)
  (lp:(Zco (Yq (Zd 2)) (ZW 6) (Z2 5 (Zg Yh (Zd 5) (Qt [none,some 6] (Yq (Zd 3)) (ZW 0) ZS (U6 (Zb (Zg Yh (Zg dIx (Zd 1) (Zl (.int 0))) (Zg dIx (Zd 0) (Zl (.int 0)))) (Zb (Zg Yh (Zg dIx (Zd 1) (Zl (.int 1))) (Zg dIx (Zd 0) (Zl (.int 1)))) Zq))))))) [.val S,.val (.int wide),.val one,.val other,.val F,.val (.lst []),.no,.no]=some (.nx [.val S,.val (.int wide),.val one,.val other,.val F,.val P,t6,.no]))
  (la:Zz [P]=some F) (ad2:Z3 [other,one]=some F) (nF:UZ F F=some (.bl false))
  (g0:Zp [F]=some (.int fF)) (g1:Zp [one]=some (.int f1)) (g2:Zp [other]=some (.int f2)) (hf:fF=f1+f2)
  (ad3:Z3 [one,one]=some O) (h0:Zs [O]=some (.int aO)) (h1:Zs [one]=some (.int a1)) (h2:Zs [other]=some (.int a2)) (h3:Zs [F]=some (.int aF)) (hO:aO=4*a1) (hge:a1+a2<=aF)
  (mu:Yj (.int 4) (.int a1)=some (.int (4*a1))) (d3:Jn (.int m3) (.int 41)=some (.int u)) (d5:Jn (.int m4) (.int 41)=some (.int v))
  (mv1:ZZ [one,.tup [.int (u-20),.int (v-20)]]=some mo) (ad4:Z3 [mo,other]=some mF) (mv2:ZZ [F,.tup [.int (u-20),.int (v-20)]]=some mF) (nM:UZ mF mF=some (.bl false)) :
  ZaK [S]=some (.bl true):=by
 subst hf hO
 have n1:UZ (.int (f1+f2)) (.int (f1+f2))=some (.bl false):=by rw [Zh2]; simp
 have n2:UZ (.int (4*a1)) (.int (4*a1))=some (.bl false):=by rw [Zh2]; simp
 have e1:Z2 1 (Zg dIx (U6 (Zb (Zl (.int 3)) (Zb (Zl (.int 6)) (Zb (Zl (.int 30)) (Zb (Zl (.int 100)) Zq))))) (Zg Jn (dFn 2 Zj (Zb (Zd 0) (Zb (Zl (.int 2)) Zq))) (Zl (.int 4)))) [.val S,.no,.no,.no,.no,.no,.no,.no]=some (.nx [.val S,.val (.int wide),.no,.no,.no,.no,.no,.no]):=by
  simp -implicitDefEqProofs [x2,d4,hw,lim]
 have e2:Z2 2 (dFn 2 ZE (Zb (dFn 2 Zj (Zb (Zd 0) (Zb (Zl (.int 0)) Zq))) (Zb (Zd 1) Zq))) [.val S,.val (.int wide),.no,.no,.no,.no,.no,.no]=some (.nx [.val S,.val (.int wide),.val one,.no,.no,.no,.no,.no]):=by
  simp -implicitDefEqProofs [x0,r1]
 have e3:Z2 3 (dFn 2 ZE (Zb (dFn 2 Zj (Zb (Zd 0) (Zb (Zl (.int 1)) Zq))) (Zb (Zd 1) Zq))) [.val S,.val (.int wide),.val one,.no,.no,.no,.no,.no]=some (.nx [.val S,.val (.int wide),.val one,.val other,.no,.no,.no,.no]):=by
  simp -implicitDefEqProofs [x1,r2]
 have e4:Z2 4 (dFn 2 Z3 (Zb (Zd 2) (Zb (Zd 3) Zq))) [.val S,.val (.int wide),.val one,.val other,.no,.no,.no,.no]=some (.nx [.val S,.val (.int wide),.val one,.val other,.val F,.no,.no,.no]):=by
  simp -implicitDefEqProofs [ad]
 have e5:Z2 5 (Ziy Zq) [.val S,.val (.int wide),.val one,.val other,.val F,.no,.no,.no]=some (.nx [.val S,.val (.int wide),.val one,.val other,.val F,.val (.lst []),.no,.no]):=by
  simp -implicitDefEqProofs [lim]
 have e7:V5 (ZiQ (ZR (Zg UZ (Zd 4) (dFn 1 Zz (Zb (Zd 5) Zq)))) (ZR (Zg UZ (dFn 2 Z3 (Zb (Zd 3) (Zb (Zd 2) Zq))) (Zd 4)))) (Yr (Zl (.bl false))) Qe [.val S,.val (.int wide),.val one,.val other,.val F,.val P,t6,.no]=some (.nx [.val S,.val (.int wide),.val one,.val other,.val F,.val P,t6,.no]):=by
  simp -implicitDefEqProofs [la,ad2,nF]
 have e8:V5 (ZR (Zg UZ (dFn 1 Zp (Zb (Zd 4) Zq)) (Zg Yh (dFn 1 Zp (Zb (Zd 2) Zq)) (dFn 1 Zp (Zb (Zd 3) Zq))))) (Yr (Zl (.bl false))) Qe [.val S,.val (.int wide),.val one,.val other,.val F,.val P,t6,.no]=some (.nx [.val S,.val (.int wide),.val one,.val other,.val F,.val P,t6,.no]):=by
  simp -implicitDefEqProofs [g0,g1,g2,n1]
 have e9:V5 (ZR (Zg UZ (dFn 1 Zs (Zb (dFn 2 Z3 (Zb (Zd 2) (Zb (Zd 2) Zq))) Zq)) (Zg Yj (Zl (.int 4)) (dFn 1 Zs (Zb (Zd 2) Zq))))) (Yr (Zl (.bl false))) Qe [.val S,.val (.int wide),.val one,.val other,.val F,.val P,t6,.no]=some (.nx [.val S,.val (.int wide),.val one,.val other,.val F,.val P,t6,.no]):=by
  simp -implicitDefEqProofs [ad3,h0,h1,mu,n2]
 have e10:Z2 7 (U6 (Zb (Zg J8 (Zg Jn (dFn 2 Zj (Zb (Zd 0) (Zb (Zl (.int 3)) Zq))) (Zl (.int 41))) (Zl (.int 20))) (Zb (Zg J8 (Zg Jn (dFn 2 Zj (Zb (Zd 0) (Zb (Zl (.int 4)) Zq))) (Zl (.int 41))) (Zl (.int 20))) Zq))) [.val S,.val (.int wide),.val one,.val other,.val F,.val P,t6,.no]=some (.nx [.val S,.val (.int wide),.val one,.val other,.val F,.val P,t6,.val (.tup [.int (u-20),.int (v-20)])]):=by
  simp -implicitDefEqProofs [x3,x4,d3,d5,lim]
 have e11:V5 (ZR (Zg UZ (dFn 2 Z3 (Zb (dFn 2 ZZ (Zb (Zd 2) (Zb (Zd 7) Zq))) (Zb (Zd 3) Zq))) (dFn 2 ZZ (Zb (Zd 4) (Zb (Zd 7) Zq))))) (Yr (Zl (.bl false))) Qe [.val S,.val (.int wide),.val one,.val other,.val F,.val P,t6,.val (.tup [.int (u-20),.int (v-20)])]=some (.nx [.val S,.val (.int wide),.val one,.val other,.val F,.val P,t6,.val (.tup [.int (u-20),.int (v-20)])]):=by
  simp -implicitDefEqProofs [mv1,mv2,ad4,nM]
 unfold ZaK ZA Zin
 show (Zm _ (Zm _ (Zm _ (Zm _ (Zm _ (Zm _ (Zm _ (Zm _ (Zm _ (Zm _ (Zm _ _)))))))))) [.val S,.no,.no,.no,.no,.no,.no,.no]).bind _=_
 rw [Zv,e1]
 show (Zm _ (Zm _ (Zm _ (Zm _ (Zm _ (Zm _ (Zm _ (Zm _ (Zm _ (Zm _ _))))))))) _).bind _=_
 rw [Zv,e2]
 show (Zm _ (Zm _ (Zm _ (Zm _ (Zm _ (Zm _ (Zm _ (Zm _ (Zm _ _)))))))) _).bind _=_
 rw [Zv,e3]
 show (Zm _ (Zm _ (Zm _ (Zm _ (Zm _ (Zm _ (Zm _ (Zm _ _))))))) _).bind _=_
 rw [Zv,e4]
 show (Zm _ (Zm _ (Zm _ (Zm _ (Zm _ (Zm _ (Zm _ _)))))) _).bind _=_
 rw [Zv,e5]
 show (Zm _ (Zm _ (Zm _ (Zm _ (Zm _ (Zm _ _))))) _).bind _=_
 rw [Zv,lp]
 show (Zm _ (Zm _ (Zm _ (Zm _ (Zm _ _)))) _).bind _=_
 rw [Zv,e7]
 show (Zm _ (Zm _ (Zm _ (Zm _ _))) _).bind _=_
 rw [Zv,e8]
 show (Zm _ (Zm _ (Zm _ _)) _).bind _=_
 rw [Zv,e9]
 show (Zm _ (Zm _ _) _).bind _=_
 rw [Zv,e10]
 show (Zm _ _ _).bind _=_
 rw [Zv,e11]
 show (Yr _ [.val S,.val (.int wide),.val one,.val other,.val F,.val P,t6,.val (.tup [.int (u-20),.int (v-20)])]).bind _=_
 have ge:decide (a1+a2<=aF)=true:=decide_eq_true hge
 simp -implicitDefEqProofs [h1,h2,h3,hge]
theorem Za7 {c0 c1 c2 c4:Sl} {L2:List Pt} (l2:L2.length<=8):∀ (ys acc:List Pt) (s6:Sl),acc.length+ys.length*L2.length<=1000->∃ t6,
  UW (ZW 6) (Z2 5 (Zg Yh (Zd 5) (Qt [none,some 6] (Yq (Zd 3)) (ZW 0) ZS (U6 (Zb (Zg Yh (Zg dIx (Zd 1) (Zl (.int 0))) (Zg dIx (Zd 0) (Zl (.int 0)))) (Zb (Zg Yh (Zg dIx (Zd 1) (Zl (.int 1))) (Zg dIx (Zd 0) (Zl (.int 1)))) Zq)))))) (ys.map pD) [c0,c1,c2,.val (.tup (L2.map pD)),c4,.val (.lst (acc.map pD)),s6,.no]=some (.nx [c0,c1,c2,.val (.tup (L2.map pD)),c4,.val (.lst ((acc++Yk ys L2).map pD)),t6,.no])
 | [],acc,s6,_=>⟨s6,by simp [Yk,UW]⟩
 | a::ys,acc,s6,hl=>by
  have hl':acc.length+(ys.length*L2.length+L2.length)<=1000:=by
   rw [List.length_cons,Nat.add_mul,Nat.one_mul] at hl; exact hl
  obtain ⟨t6,ih⟩:=Za7 l2 ys (acc++L2.map (Pg.ad a)) (.val (pD a)) (by rw [List.length_append,List.length_map]; omega)
  refine ⟨t6,?_⟩
  have cm:Qt [none,some 6] (Yq (Zd 3)) (ZW 0) ZS (U6 (Zb (Zg Yh (Zg dIx (Zd 1) (Zl (.int 0))) (Zg dIx (Zd 0) (Zl (.int 0)))) (Zb (Zg Yh (Zg dIx (Zd 1) (Zl (.int 1))) (Zg dIx (Zd 0) (Zl (.int 1)))) Zq))) [c0,c1,c2,.val (.tup (L2.map pD)),c4,.val (.lst (acc.map pD)),.val (pD a),.no]=some (.lst ((L2.map (Pg.ad a)).map pD)):=by
   refine ZbE (xs:=L2.map pD) (QY rfl rfl) (by rw [List.length_map]; omega) ?_
   exact Zdi (fun p=>by simp -implicitDefEqProofs [pD,Pg.ad,lim]) L2 _
  have st:Z2 5 (Zg Yh (Zd 5) (Qt [none,some 6] (Yq (Zd 3)) (ZW 0) ZS (U6 (Zb (Zg Yh (Zg dIx (Zd 1) (Zl (.int 0))) (Zg dIx (Zd 0) (Zl (.int 0)))) (Zb (Zg Yh (Zg dIx (Zd 1) (Zl (.int 1))) (Zg dIx (Zd 0) (Zl (.int 1)))) Zq))))) [c0,c1,c2,.val (.tup (L2.map pD)),c4,.val (.lst (acc.map pD)),.val (pD a),.no]=some (.nx [c0,c1,c2,.val (.tup (L2.map pD)),c4,.val (.lst ((acc++L2.map (Pg.ad a)).map pD)),.val (pD a),.no]):=by
   have q:Yh (.lst (acc.map pD)) (.lst ((L2.map (Pg.ad a)).map pD))=some (.lst ((acc++L2.map (Pg.ad a)).map pD)):=by
    rw [Zd5 (by simp; omega),List.map_append]
   rw [Zby,Vq,cm]
   show Option.map _ (Yh (.lst (acc.map pD)) (.lst ((L2.map (Pg.ad a)).map pD)))=_
   rw [q]; rfl
  simp only [List.map_cons,UW,UP,List.set_cons_zero,List.set_cons_succ,Option.bind_some]
  rw [st]
  have e:acc++Yk (a::ys) L2=acc++L2.map (Pg.ad a)++Yk ys L2:=by
   unfold Yk
   rw [List.flatMap_cons,List.append_assoc]
  rw [e]
  exact ih
theorem Zev {m:Int} (hm:m<=1000) {l:List Pt} (h:All (Rg m) l):All Sm l:=fun p hp=>by
 have:=h p hp
 unfold Rg at this
 exact ⟨⟨by omega,by omega⟩,by omega,by omega⟩
theorem Vz {L1 L2:List Pt} {k:Int} (h1:All (Rg k) L1) (h2:All (Rg 100) L2):All (Rg (k+100)) (Yk L1 L2):=fun p hp=>by
 obtain ⟨a,ha,b,hb,rfl⟩:=sums_mem.mp hp
 have q1:=h1 a ha
 have q2:=h2 b hb
 unfold Rg at q1 q2 ⊢
 unfold Pg.ad
 simp only
 omega
theorem Zh9 (ns:List Int):ZaK [.lst (ns.map .int)]=some (.bl true):=by
 have x0:Zj [.lst (ns.map .int),.int 0]=some (.int (Zcn (Y3 ns 0) 0)):=Qr ns 0
 have x1:Zj [.lst (ns.map .int),.int 1]=some (.int (Zcn (Y3 ns 1) 1)):=Qr ns 1
 have x2:Zj [.lst (ns.map .int),.int 2]=some (.int (Zcn (Y3 ns 2) 2)):=Qr ns 2
 have x3:Zj [.lst (ns.map .int),.int 3]=some (.int (Zcn (Y3 ns 3) 3)):=Qr ns 3
 have x4:Zj [.lst (ns.map .int),.int 4]=some (.int (Zcn (Y3 ns 4) 4)):=Qr ns 4
 generalize Zcn (Y3 ns 0) 0=m0 at x0
 generalize Zcn (Y3 ns 1) 1=m1 at x1
 generalize Zcn (Y3 ns 2) 2=m2 at x2
 generalize Zcn (Y3 ns 3) 3=m3 at x3
 generalize Zcn (Y3 ns 4) 4=m4 at x4
 have d4:=J7 (i:=m2) (j:=4) (by omega)
 have d3:=J7 (i:=m3) (j:=41) (by omega)
 have d5:=J7 (i:=m4) (j:=41) (by omega)
 have u1:=Int.emod_nonneg m3 (show (41:Int)≠0 by omega)
 have u2:=Int.emod_lt_of_pos m3 (show (0:Int) < 41 by omega)
 have v1:=Int.emod_nonneg m4 (show (41:Int)≠0 by omega)
 have v2:=Int.emod_lt_of_pos m4 (show (0:Int) < 41 by omega)
 obtain ⟨wide,w1,w2,hw⟩:∃ wide:Int,0 < wide/\wide<=100/\dIx (.tup [.int 3,.int 6,.int 30,.int 100]) (.int (m2 % 4))=some (.int wide):=by
  have:m2 % 4=0\/m2 % 4=1\/m2 % 4=2\/m2 % 4=3:=by omega
  rcases this with h | h | h | h
  ·rw [h]; exact ⟨3,by omega,by omega,rfl⟩
  ·rw [h]; exact ⟨6,by omega,by omega,rfl⟩
  ·rw [h]; exact ⟨30,by omega,by omega,rfl⟩
  ·rw [h]; exact ⟨100,by omega,by omega,rfl⟩
 obtain ⟨L1,r1,R1⟩:=Uz (n:=m0) w1 w2
 obtain ⟨L2,r2,R2⟩:=Uz (n:=m1) w1 w2
 have k12:L1.length*L2.length<=64:=Nat.mul_le_mul R1.n8 R2.n8
 have rg:=Vz R1.rg R2.rg
 have sm:=Zev (by omega) rg
 obtain ⟨rs,_,hr,hm⟩:=Jp (Yk L1 L2)
 have n3:=Wp R1.hz R1.n3 R2.hz hr hm
 have ad:=Wf R1.n8 R2.hz.ne R2.n8 sm hr hm n3
 have hz:=WQ hr hm n3
 have la:=JI sm (by rw [Ub]; exact k12) hr hm
 rw [if_neg (by omega)] at la
 have hm':∀ x,x∈rs ↔ x∈Yk L2 L1:=fun x=>by
  rw [hm x,sums_mem,sums_mem]
  constructor
  ·rintro ⟨a,ha,b,hb,e⟩; exact ⟨b,hb,a,ha,by rw [Pg.ad_comm]; exact e⟩
  ·rintro ⟨a,ha,b,hb,e⟩; exact ⟨b,hb,a,ha,by rw [Pg.ad_comm]; exact e⟩
 have ad2:=Wf R2.n8 R1.hz.ne R1.n8 (Zev (by omega) (Vz R2.rg R1.rg)) hr hm' n3
 obtain ⟨t6,lp⟩:=Za7 (c0:=.val (.lst (ns.map .int))) (c1:=.val (.int wide)) (c2:=.val (.tup (L1.map pD))) (c4:=.val (.tup ((Hu.hullL rs).map pD))) R2.n8 L1 [] .no (by simpa using (show L1.length*L2.length<=1000 by omega))
 have hlen:(Hu.hullL rs).length<=64:=by
  have:=Y7 hz.nd fun x hx=>hz.mem x hx
  rw [Ub] at this; omega
 have ok:∀ (l:List Pt),All (Rg 1000) l->l.length<=1000->Zs [.tup (l.map pD)]=some (.int ((Zw l).map ZK).sum)/\Zp [.tup (l.map pD)]=some (.int ((Zw l).map WU).sum):=fun l hr hl=>
  ⟨Zit (ps:=l) hl fun p hp=>by have:=hr p hp; unfold Rg at this ⊢; omega,Ziu (ps:=l) hl hr⟩
 have up:∀ {k:Int} {l:List Pt},k<=1000->All (Rg k) l->All (Rg 1000) l:=fun {k l} hk h p hp=>by have:=h p hp; unfold Rg at this ⊢; omega
 have oF:=ok (Hu.hullL rs) (fun p hp=>up (by omega) rg p (hz.mem p hp)) (by omega)
 have o1:=ok L1 (up (by omega) R1.rg) (by have:=R1.n8; omega)
 have o2:=ok L2 (up (by omega) R2.rg) (by have:=R2.n8; omega)
 have rgO:=Vz R1.rg R1.rg
 obtain ⟨qs,_,hq,hmq⟩:=Jp (Yk L1 L1)
 have n3q:=Wp R1.hz R1.n3 R1.hz hq hmq
 have ad3:=Wf R1.n8 R1.hz.ne R1.n8 (Zev (by omega) rgO) hq hmq n3q
 have hzq:=WQ hq hmq n3q
 have oO:=ok (Hu.hullL qs) (fun p hp=>up (by omega) rgO p (hzq.mem p hp)) (by
  have:=Y7 hzq.nd fun x hx=>hzq.mem x hx
  have q:L1.length*L1.length<=64:=Nat.mul_le_mul R1.n8 R1.n8
  rw [Ub] at this; omega)
 have ne1:L1.map (Pg.ad (m3 % 41-20,m4 % 41-20))≠[]:=by simpa using R1.hz.ne
 have w1:=UF (ps:=L1) (u:=m3 % 41-20) (v:=m4 % 41-20) R1.hz.ne (by have:=R1.n8; omega)
 have w2:=UF (ps:=Hu.hullL rs) (u:=m3 % 41-20) (v:=m4 % 41-20) hz.ne (by omega)
 have ma:mv (m3 % 41-20) (m4 % 41-20)=Pg.ad (m3 % 41-20,m4 % 41-20):=Zh3 (m3 % 41-20,m4 % 41-20)
 rw [ma] at w1 w2
 have rt:=Jr ne1
 have hr4:=Hu.ris_tr (v:=(m3 % 41-20,m4 % 41-20)) hr
 have n34:3<=(Hu.hullL (rs.map (Pg.ad (m3 % 41-20,m4 % 41-20)))).length:=by rw [Hu.hull_tr,List.length_map]; exact n3
 have hm4:∀ x,x∈rs.map (Pg.ad (m3 % 41-20,m4 % 41-20)) ↔ x∈Yk (QU (L1.map (Pg.ad (m3 % 41-20,m4 % 41-20)))) L2:=fun x=>by
  rw [List.mem_map,sums_mem]
  constructor
  ·rintro ⟨y,hy,rfl⟩
   obtain ⟨a,ha,b,hb,rfl⟩:=sums_mem.mp ((hm y).mp hy)
   exact ⟨_,rt.mem.mpr (List.mem_map.mpr ⟨a,ha,rfl⟩),b,hb,by unfold Pg.ad; exact Prod.ext (by simp only; omega) (by simp only; omega)⟩
  ·rintro ⟨a,ha,b,hb,rfl⟩
   obtain ⟨a',ha',rfl⟩:=List.mem_map.mp (rt.mem.mp ha)
   exact ⟨Pg.ad a' b,(hm _).mpr (sums_mem.mpr ⟨a',ha',b,hb,rfl⟩),by unfold Pg.ad; exact Prod.ext (by simp only; omega) (by simp only; omega)⟩
 have rg4:All (Rg 120) (QU (L1.map (Pg.ad (m3 % 41-20,m4 % 41-20)))):=fun p hp=>by
  obtain ⟨a,ha,rfl⟩:=List.mem_map.mp (rt.mem.mp hp)
  have:=R1.rg a ha
  unfold Rg at this ⊢
  unfold Pg.ad
  simp only
  omega
 have ad4:=Wf (L1:=QU (L1.map (Pg.ad (m3 % 41-20,m4 % 41-20)))) (by rw [Zbd ne1,List.length_map]; exact R1.n8) R2.hz.ne R2.n8 (Zev (by omega) (Vz rg4 R2.rg)) hr4 hm4 n34
 have hz4:=WQ hr4 hm4 n34
 have ro:=hz4.rot
 rw [Hu.hull_tr] at ad4 ro
 rw [ro] at w2
 exact Zia x0 x1 x2 x3 x4 d4 hw r1 r2 ad (by
   rw [W6]
   have i1:Yq (Zd 2) [.val (.lst (ns.map .int)),.val (.int wide),.val (.tup (L1.map pD)),.val (.tup (L2.map pD)),.val (.tup ((Hu.hullL rs).map pD)),.val (.lst []),.no,.no]=some (L1.map pD):=QY rfl rfl
   rw [i1,Option.bind_some]
   exact lp) la ad2 (Zdd _) oF.2 o1.2 o2.2 (Zdz R1.hz R1.n3 R2.hz R2.n3 hz n3 fun _=>Iff.rfl) ad3 oO.1 o1.1 o2.1 oF.1 (Zfl R1.hz R1.n3 hzq n3q fun _=>Iff.rfl) (Zfm R1.hz R1.n3 R2.hz R2.n3 hz n3 fun _=>Iff.rfl)
  (Ju (.inl (by omega))) d3 d5 w1 ad4 w2 (Zdd _)
theorem all_mk {l:PySem.W.OpenLaw} {w:World} {K:PySem.W.Frag} {h:Heap} {mg:Str->Option Value} {fa:Addr} (X:K.In h) (G:h.Ns mainGlobals mg) (hfa:mg "law"=some (.ref fa))
  (a0:Df K "turn" ZcN)
  (a1:Df K "turns_left" Qh)
  (a2:Df K "sides_of" YZ)
  (a3:Df K "least_first" Y5)
  (a4:Df K "moved" Ur)
  (a5:Df K "way_turning_left" Yg)
  (a6:Df K "around" VG)
  (a7:Df K "added" Zat)
  (a8:Df K "twice_area" Yl)
  (a9:Df K "greatest_common_divisor" ZM)
  (a10:Df K "stakes_along" YO)
  (a11:Df K "fence_stakes" Z5)
  (a12:Df K "_law_cell_at" YQ)
  (a13:Df K "_law_mixed" Qj)
  (a14:Df K "_law_drawn" Qk)
  (a15:Df K "_law_turn" QR)
  (a16:Df K "_law_next" QS)
  (a17:Df K "_law_area" QT)
  (a18:Df K "_law_in_order" YD)
  (a19:Df K "_law_spots" Ym)
  (a20:Df K "_law_chain" Ql)
  (a21:Df K "_law_around" Y6)
  (a22:Df K "_law_round" Qi)
  (a23:Df K "law" Wx)
  {t_FEWEST_CORNERS:Tok} (g_FEWEST_CORNERS:PySem.W.nsIn K mainGlobals "FEWEST_CORNERS"=some (some (.int 3 t_FEWEST_CORNERS)))
  (g_MIDDLE:GlobK K "MIDDLE" (.tup [(.int 0),(.int 0)]))
  (z_len:PySem.W.nsIn K mainGlobals "len"=some none)
  (z_range:PySem.W.nsIn K mainGlobals "range"=some none)
  (z_enumerate:PySem.W.nsIn K mainGlobals "enumerate"=some none)
  (z_min:PySem.W.nsIn K mainGlobals "min"=some none)
  (z_max:PySem.W.nsIn K mainGlobals "max"=some none)
  (z_abs:PySem.W.nsIn K mainGlobals "abs"=some none)
  (z_sum:PySem.W.nsIn K mainGlobals "sum"=some none)
  (z_any:PySem.W.nsIn K mainGlobals "any"=some none)
  (z_all:PySem.W.nsIn K mainGlobals "all"=some none)
  (z_set:PySem.W.nsIn K mainGlobals "set"=some none)
  (z_sorted:PySem.W.nsIn K mainGlobals "sorted"=some none)
  (z_tuple:PySem.W.nsIn K mainGlobals "tuple"=some none)
  (z_list:PySem.W.nsIn K mainGlobals "list"=some none)
  (z_int:PySem.W.nsIn K mainGlobals "int"=some none)
  (z_str:PySem.W.nsIn K mainGlobals "str"=some none)
  (z_bool:PySem.W.nsIn K mainGlobals "bool"=some none)
  (z_isinstance:PySem.W.nsIn K mainGlobals "isinstance"=some none)
  (z_reversed:PySem.W.nsIn K mainGlobals "reversed"=some none)
  : ∃ fd:FuncData,(∀ (s:Shared) (v:Value),BindsTo s fd ⟨[v],[]⟩ [("_law_script",v)])/\∀ base:Heap,K.In base->base.Ns mainGlobals mg->Zfq l.prog w K mg base CX0 6 fa fd ["_law_script"] (spD K 1 ZaK):=by
 obtain ⟨f,fd,b1,F,b2⟩:=a23
 have e:=hfa.symm.trans (PySem.W.mg_of X G b1)
 cases e
 have B:Blt mg:=⟨PySem.W.mg_none_of X G z_len,PySem.W.mg_none_of X G z_range,PySem.W.mg_none_of X G z_enumerate,PySem.W.mg_none_of X G z_min,PySem.W.mg_none_of X G z_max,PySem.W.mg_none_of X G z_abs,PySem.W.mg_none_of X G z_sum,PySem.W.mg_none_of X G z_any,PySem.W.mg_none_of X G z_all,PySem.W.mg_none_of X G z_set,PySem.W.mg_none_of X G z_sorted,PySem.W.mg_none_of X G z_tuple,PySem.W.mg_none_of X G z_list,PySem.W.mg_none_of X G z_int,PySem.W.mg_none_of X G z_str,PySem.W.mg_none_of X G z_bool,PySem.W.mg_none_of X G z_isinstance,PySem.W.mg_none_of X G z_reversed⟩
 have c_FEWEST_CORNERS:∃ t,mg "FEWEST_CORNERS"=some (.int 3 t):=⟨_,PySem.W.mg_of X G g_FEWEST_CORNERS⟩
 have c_MIDDLE:Zfp K mg "MIDDLE" (.tup [(.int 0),(.int 0)]):=g_MIDDLE.ok X G
 obtain ⟨oc,od,kV,doc,pm,an,cdv,ct,osl,rfl,lk,hcd⟩:=id F.ex
 refine ⟨PySem.W.fnOf "law" "law" (Q0 Wx) (YU Wx) (Zf Wx) .none kV doc pm an cdv ct,fun s v=>.of_eq rfl,fun base _ _=>?_⟩
 have d_turn:Zee l.prog w K mg base:=dk X G a0 (ZgC B) fun _ _ _ _ _ _ us hl=>match us,hl with | [_,_,_],_=>rfl
 have d_turns_left:JZ l.prog w K mg base:=dk X G a1 (VM B d_turn) fun _ _ _ _ _ _ us hl=>match us,hl with | [_,_,_],_=>rfl
 have d_sides_of:JC l.prog w K mg base:=dk X G a2 (ZaA B) fun _ _ _ _ _ _ us hl=>match us,hl with | [_],_=>rfl
 have d_least_first:Jm l.prog w K mg base:=dk X G a3 (U0 B) fun _ _ _ _ _ _ us hl=>match us,hl with | [_],_=>rfl
 have d_moved:Za3 l.prog w K mg base:=dk X G a4 (ZeE B d_least_first) fun _ _ _ _ _ _ us hl=>match us,hl with | [_,_],_=>rfl
 have d_way_turning_left:YM l.prog w K mg base:=dk X G a5 (QV B d_turns_left) fun _ _ _ _ _ _ us hl=>match us,hl with | [_],_=>rfl
 have d_around:ZbK l.prog w K mg base:=dk X G a6 (Zc8 B d_way_turning_left c_FEWEST_CORNERS) fun _ _ _ _ _ _ us hl=>match us,hl with | [_],_=>rfl
 have d_added:Zef l.prog w K mg base:=dk X G a7 (ZeF B d_moved d_around) fun _ _ _ _ _ _ us hl=>match us,hl with | [_,_],_=>rfl
 have d_twice_area:JY l.prog w K mg base:=dk X G a8 (VL B d_sides_of d_turn c_MIDDLE) fun _ _ _ _ _ _ us hl=>match us,hl with | [_],_=>rfl
 have d_greatest_common_divisor:Z7 l.prog w K mg base:=dk X G a9 (YG B) fun _ _ _ _ _ _ us hl=>match us,hl with | [_,_],_=>rfl
 have d_stakes_along:QO l.prog w K mg base:=dk X G a10 (Uu B d_greatest_common_divisor) fun _ _ _ _ _ _ us hl=>match us,hl with | [_],_=>rfl
 have d_fence_stakes:QP l.prog w K mg base:=dk X G a11 (Uv B d_sides_of d_stakes_along) fun _ _ _ _ _ _ us hl=>match us,hl with | [_],_=>rfl
 have d__law_cell_at:QQ l.prog w K mg base:=dk X G a12 (Uw B) fun _ _ _ _ _ _ us hl=>match us,hl with | [_,_],_=>rfl
 have d__law_mixed:J2 l.prog w K mg base:=dk X G a13 (VP B d__law_cell_at) fun _ _ _ _ _ _ us hl=>match us,hl with | [_,_],_=>rfl
 have d__law_drawn:J3 l.prog w K mg base:=dk X G a14 (VQ B) fun _ _ _ _ _ _ us hl=>match us,hl with | [_,_],_=>rfl
 have d__law_turn:UT l.prog w K mg base:=dk X G a15 (WD B) fun _ _ _ _ _ _ us hl=>match us,hl with | [_,_,_],_=>rfl
 have d__law_next:UU l.prog w K mg base:=dk X G a16 (WE B) fun _ _ _ _ _ _ us hl=>match us,hl with | [_,_,_],_=>rfl
 have d__law_area:UV l.prog w K mg base:=dk X G a17 (WF B d__law_next) fun _ _ _ _ _ _ us hl=>match us,hl with | [_],_=>rfl
 have d__law_in_order:Qv l.prog w K mg base:=dk X G a18 (J6 B d__law_area) fun _ _ _ _ _ _ us hl=>match us,hl with | [_],_=>rfl
 have d__law_spots:J0 l.prog w K mg base:=dk X G a19 (VN B d__law_drawn) fun _ _ _ _ _ _ us hl=>match us,hl with | [_,_,_],_=>rfl
 have d__law_chain:J4 l.prog w K mg base:=dk X G a20 (VR B d__law_turn) fun _ _ _ _ _ _ us hl=>match us,hl with | [_],_=>rfl
 have d__law_around:Qc l.prog w K mg base:=dk X G a21 (U1 B d__law_chain d__law_in_order) fun _ _ _ _ _ _ us hl=>match us,hl with | [_],_=>rfl
 have d__law_round:J1 l.prog w K mg base:=dk X G a22 (VO B d__law_around d__law_spots) fun _ _ _ _ _ _ us hl=>match us,hl with | [_,_],_=>rfl
 exact ZhZ B d__law_mixed d__law_round d_added d__law_around d_fence_stakes d_twice_area d_moved F
theorem walk {l:PySem.W.OpenLaw} {q:Program} {loose:List Str} {XP:(Str->Option Value)->Heap->Prop} {YP:World->Heap->Prop} {d:DefRec} {K:Params->PySem.W.Frag} (hn:l.most=some 63) (hdf:d.params.defaults=[])
  (hY:∀ (w:World) (h:Heap),YP w h->(K w.params).In h)
  (F:∀ (w:World) (mg:Str->Option Value) (fa:Addr) (h:Heap),(K w.params).In h->h.Ns mainGlobals mg->mg d.name=some (.ref fa) ->
   ∃ fd:FuncData,(∀ (s:Shared) (u:Value),BindsTo s fd ⟨[u],[]⟩ [("_law_script",u)])/\∀ base:Heap,(K w.params).In base->base.Ns mainGlobals mg->Zfq l.prog w (K w.params) mg base CX0 6 fa fd ["_law_script"] (spD (K w.params) 1 ZaK)) :
  PySem.W.WalkO q loose XP YP l.row.toRowW d [] (fun f vs=>PySem.call f vs):=
 L2.walk_of (n:=63) (k:=6) (x:="_law_script") (CX:=fun _=>CX0) (sp:=fun w=>spD (K w.params) 1 ZaK) hn (by decide) hdf ⟨rfl,by decide,by decide⟩ hY F (fun w H a ns hl _ hS=>Zh8 hl hS Zh9) fun _ _ _ _ _ z=>z
end Pl.k52
namespace PySem.W.Fast
def tw12486689148610548775:=0
def tw10483121750273742345:=0
def tw4393251726340105403:=0
def tw5004781133568611087:=0
def tw10781103253227861028:=0
def tw10372704129466273969:=0
def tw6967871596545319572:=0
def tw9346284583948065859:=0
def tw5351291950080825379:=0
def tw919828588455134527:=0
def tw13357214415305232854:=0
def tw4953057429287402821:=0
def tw2685076800774994486:=0
def tw778714456487150880:=0
def tw16154163198338261919:=0
def tw14101583614456695264:=0
def tw11334028216444730509:=0
def tw1181412556910801976:=0
def tw1672615942025120966:=0
def tw10624322509452067482:=0
def tw10045487597787251946:=0
def tw9127320564865564276:=0
def tw9918121064922849421:=0
def tw14311017987857654740:=0
def tw10181847280618674362:=0
def tw226963447503790254:=0
def tw965888810716145029:=0
def tw2330113844493868625:=0
def tw5774023053570408467:=0
def tw16924250811374132084:=0
def tw5267946590239814879:=0
def tw8621237424919978454:=0
def tw16438859381300083188:=0
def tw2363645515992977779:=0
def tw10506595485004534438:=0
def tw9066200794338456445:=0
def tw12251965049914854529:=0
def tw13716616527722305206:=0
def tw11337970220920258323:=0
def tw9363742719398730980:=0
def tw16254365411821101863:=0
def tw3081862130967555092:=0
def tw8773667356841370773:=0
def tw15872757771880259433:=0
def tw18143257178984336954:=0
def tw3269160357336392805:=0
def tw11294119912944133720:=0
def tw13390317382892868877:=0
def tw15724602127437154452:=0
def tw4021135837156698524:=0
end PySem.W.Fast
open PySem PySem.W PyProof.Rows
set_option maxRecDepth 100000 in
set_option maxHeartbeats 0 in
theorem PySem.Challenge.cw_plotstead_k52_whole_added_holds : PySem.Challenge.rw_plotstead_k52_whole_added.Holds := by
 w_on; o_law; k_head; (case hw=>w_witness2)
 k_fill
 refine Pl.k52.walk (l:=PySem.Challenge.rw_plotstead_k52_whole_added) rfl rfl (fun w h Y=>PySem.W.kIn_of Y) ?F
 case F=>
  intro w mg fa h KX G hmg
  refine' Pl.k52.all_mk KX G hmg ?_ ?_ ?_ ?_ ?_ ?_ ?_ ?_ ?_ ?_ ?_ ?_ ?_ ?_ ?_ ?_ ?_ ?_ ?_ ?_ ?_ ?_ ?_ ?_ ?_ ?_ ?_ ?_ ?_ ?_ ?_ ?_ ?_ ?_ ?_ ?_ ?_ ?_ ?_ ?_ ?_ ?_ ?_ ?_
  all_goals first | (apply L3.Df.mk; k_is; k_is; k_is; k_is) | (apply L3.GlobK.mk; k_is; k_is) | k_is | skip
