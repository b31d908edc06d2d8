import PyProof.Rows.All
import Wide.All
import OpenK.AllK
import Wide.FinOn
import Lean
import PyProof.EqAt
import PyProof.EqKinds
import PyProof.TupleCall
import PySem.SetTable
import KE.KRevIter
import PyProof.FactsAll.set_1
import KE.KSortTup
import PyProof.FactsAll.tuple_2
import PyProof.ListMulRoad
import PySem.Challenge.RW_plotstead_k02_written
set_option Elab.async false
set_option linter.all false
set_option maxRecDepth 100000
namespace L2
open PySem PySem.Spec PyProof.Rows
noncomputable abbrev Key:=Sum Int Str
noncomputable def ZkV:Key->Value->Bool
  | .inl k,v=>Value.isInt k v
  | .inr x,v=>Value.isStrOf x v
noncomputable def Znl (w:World):Key->Int
  | .inl k=>hashInt k
  | .inr x=>hashStr w x
theorem Yc:∀ {k:Key} {v:Value},ZkV k v=true->(∃ i t,k=Sum.inl i/\v=Value.int i t)\/(∃ x t,k=Sum.inr x/\v=Value.str x t)
  | .inl i,v,h=>by
    obtain ⟨t,e⟩:=Value.isInt_shape (k:=i) (v:=v) h
    exact .inl ⟨i,t,rfl,e⟩
  | .inr x,v,h=>by
    obtain ⟨t,e⟩:=Value.isStrOf_shape (x:=x) (v:=v) h
    exact .inr ⟨x,t,rfl,e⟩
theorem ZkU (a b:Int):decide ((Sum.inl a:Key)=Sum.inl b)=(a==b):=by
  by_cases e:a=b
  · subst e; simp
  · have h:¬ (Sum.inl a:Key)=Sum.inl b:=fun q=>e (Sum.inl.inj q)
    rw [decide_eq_false h]
    exact (beq_eq_false_iff_ne.mpr e).symm
theorem ZkR (a b:Str):decide ((Sum.inr a:Key)=Sum.inr b)=decide (a=b):=by
  by_cases e:a=b
  · subst e; simp
  · have h:¬ (Sum.inr a:Key)=Sum.inr b:=fun q=>e (Sum.inr.inj q)
    rw [decide_eq_false h,decide_eq_false e]
theorem ZkT (a:Int) (b:Str):decide ((Sum.inl a:Key)=Sum.inr b)=false:=decide_eq_false (fun q=>nomatch q)
theorem ZkS (a:Str) (b:Int):decide ((Sum.inr a:Key)=Sum.inl b)=false:=decide_eq_false (fun q=>nomatch q)
noncomputable def ZfW (prog:Program) (w:World):PySem.KeyKind prog w Key where
  is:=ZkV
  hash:=Znl w
  inj:=fun v a b ha hb=>by
    rcases Yc ha with ⟨i,t,rfl,rfl⟩ | ⟨x,t,rfl,rfl⟩
    · rcases Yc hb with ⟨j,u,rfl,e⟩ | ⟨y,u,rfl,e⟩
      · injection e with e1 _; rw [e1]
      · exact nomatch e
    · rcases Yc hb with ⟨j,u,rfl,e⟩ | ⟨y,u,rfl,e⟩
      · exact nomatch e
      · injection e with e1 _; rw [e1]
  byValue:=fun k v h=>by
    rcases Yc h with ⟨i,t,rfl,rfl⟩ | ⟨x,t,rfl,rfl⟩ <;> rfl
  pyHash:=fun hv h=>by
    rcases Yc hv with ⟨i,t,rfl,rfl⟩ | ⟨x,t,rfl,rfl⟩
    · exact wpAny_pyHash_int h
    · exact wpAny_pyHash_str h
  eqBool:=fun hu hv h=>by
    rcases Yc hu with ⟨i,t,rfl,rfl⟩ | ⟨x,t,rfl,rfl⟩
    · rcases Yc hv with ⟨j,u,rfl,rfl⟩ | ⟨y,u,rfl,rfl⟩
      · rw [ZkU] at h; exact wpAny_eqBool_int h
      · rw [ZkT] at h; exact SeqAt.EqAt.int_str i t y u _ _ _ _ h
    · rcases Yc hv with ⟨j,u,rfl,rfl⟩ | ⟨y,u,rfl,rfl⟩
      · rw [ZkS] at h; exact SeqAt.EqAt.str_int x t j u _ _ _ _ h
      · rw [ZkR] at h; exact wpAny_eqBool_str h
  «strs»:=fun k x t v h=>by
    rcases Yc h with ⟨i,u,rfl,e⟩ | ⟨y,u,rfl,e⟩
    · exact nomatch e
    · injection e with e1 _
      subst e1
      cases v <;> rfl
inductive V where
  | non | bl (b:Bool) | int (i:Int) | str (x:Str) | byt (b:Array UInt8) | flt (b:UInt64) | ref (a:Addr) | ty (n:String)
  deriving DecidableEq
noncomputable def RelV:V->Value->Prop
  | .non,u=>u=Value.none
  | .bl b,u=>u=Value.bool b
  | .int i,u=>∃ t,u=Value.int i t
  | .str x,u=>∃ t,u=Value.str x t
  | .byt b,u=>∃ t,u=Value.bytes b t
  | .flt b,u=>∃ t,u=Value.float b t
  | .ref a,u=>u=Value.ref a
  | .ty n,u=>u=Value.type n
noncomputable abbrev Vals:List V->List Value->Prop:=Paired RelV
theorem Vals.length {xs:List V} {us:List Value} (r:Vals xs us):xs.length=us.length:=Paired.length r
theorem Vals.get:∀ {xs:List V} {us:List Value} {i:Nat} {x:V},Vals xs us->xs[i]?=some x->∃ u,us[i]?=some u/\RelV x u
  | _,_,_,_,.nil,e=>by simp at e
  | _,_,0,_,.cons r _,e=>by simp at e; subst e; exact ⟨_,rfl,r⟩
  | _,_,i+1,x,.cons _ t,e=>by
    obtain ⟨u,h1,h2⟩:=Vals.get (i:=i) (x:=x) t (by simpa using e)
    exact ⟨u,by simpa using h1,h2⟩
theorem Vals.append:∀ {xs ys:List V} {us ws:List Value},Vals xs us->Vals ys ws->Vals (xs++ys) (us++ws)
  | _,_,_,_,.nil,s=>s
  | _,_,_,_,.cons r t,s=>.cons r (Vals.append t s)
theorem Vals.take:∀ {xs:List V} {us:List Value} (n:Nat),Vals xs us->Vals (xs.take n) (us.take n)
  | _,_,0,_=>.nil
  | _,_,_+1,.nil=>.nil
  | _,_,n+1,.cons r t=>.cons r (Vals.take n t)
theorem Vals.drop:∀ {xs:List V} {us:List Value} (n:Nat),Vals xs us->Vals (xs.drop n) (us.drop n)
  | _,_,0,r=>r
  | _,_,_+1,.nil=>.nil
  | _,_,n+1,.cons _ t=>Vals.drop n t
noncomputable def Zmn:Option V->Option Value->Prop
  | some v,some u=>RelV v u
  | none,none=>True
  | _,_=>False
noncomputable def KV {κ:Type}:List (κ×V)->List (κ×Value)->Prop:=Paired fun (p:κ×V) (q:κ×Value)=>p.1=q.1/\RelV p.2 q.2
noncomputable def kV:Key->V
  | .inl i=>.int i
  | .inr x=>.str x
inductive HO where
  /-- a list -/
  | lst (xs:List V)
  /-- a tuple (never changes) -/
  | tup (xs:List V)
  /-- a dict whose keys are ints and texts; one whose keys are tuples of ints and texts (the empty one is both) -/
  | dK (kvs:List (Key×V)) | dT (kvs:List (List Key×V))
  /-- a set of ints: its members,its size -/
  | set (S:Int->Bool) (n:Nat)
  /-- an instance of the class at C,its dict at dx,its attributes -/
  | ins (C dx:Addr) (fs:List (Str×V))
  /-- the dict of the instance at x -/
  | own (x:Addr)
  /-- the dict of an exception -/
  | xd (fs:List (Str×V))
  /-- a bound method,f of x -/
  | met (f x:Addr)
  /-- a range object lo,lo+1,.. below hi -/
  | rng (lo hi:Int)
  /-- a thing that is known to the object (the script; a dict while a loop walks it): read,never written while it is so -/
  | frz (o:Obj) (u:HO)
  /-- a code object's table -/
  | tbl (ps:Array Value)
  /-- any other thing,by what is true of its one object (a def of one's own: SetO a S n:=HO.ext fun h=>..) -/
  | ext (φ:Heap->Prop)
noncomputable abbrev Hp:=Addr->Option HO
noncomputable def upd (H:Hp) (a:Addr) (o:HO):Hp:=fun b=>if b=a then some o else H b
theorem ZO {H:Hp} {a:Addr} {o:HO}:upd H a o a=some o:=by unfold upd; rw [if_pos rfl]
theorem ZK {H:Hp} {a b:Addr} {o:HO} (h:b≠a):upd H a o b=H b:=by unfold upd; rw [if_neg h]
theorem ZG {H:Hp} {a b:Addr} {o:HO} (h:H a=some o) (h':H b=none):a≠b:=by
  intro e; subst e; rw [h] at h'; cases h'
section
variable (P:Program) (w:World)
noncomputable def ObjOk (H:Hp) (h:Heap) (a:Addr):HO->Prop
  | .lst xs=>xs.length<=sizeLine/\∃ (its:List Value) (n:Nat),Vals xs its/\h.get? a=some { cls:=.type "list",data:=.seq its.toArray n }
  | .tup xs=>xs.length<=sizeLine/\∃ its:List Value,Vals xs its/\IsTup h a its.toArray
  | .dK kvs=>kvs.length<=sizeLine/\(a==sysModules)=false/\∃ vs,KV kvs vs/\h.DictOf (ZfW P w) a vs
  | .dT kvs=>kvs.length<=sizeLine/\(a==sysModules)=false/\∃ xs:List (List Key×Addr×Value),
      Paired (fun (p:List Key×V) (q:List Key×Addr×Value)=>p.1=q.1/\H q.2.1=some (.tup (p.1.map kV))/\RelV p.2 q.2.2) kvs xs /\
      ∃ o es ep,h.get? a=some o/\o.ExactDict/\o.data=.dict es ep/\es.toList=xs.map (entryOfKey (tupleKind (ZfW P w)))/\(xs.map (·.1)).Nodup
  | .set S n=>h.SetOf (intKind P w) a S n
  | .ins C dx fs=>H dx=some (.own a)/\fs.length<=1000/\dx≠a/\h.get? a=some (PySem.W.instObj C dx) /\
      ∃ mA,h.Ns1 dx mA/\(∀ f,Zmn (fs.lookup f) (mA f))/\PySem.Within mA (fs.map (·.1))
  | .own _=>∃ o,h.get? a=some o
  | .xd fs=>∃ mA,h.Ns1 a mA/\∀ f,Zmn (fs.lookup f) (mA f)
  | .rng lo hi=>∃ t u v,h.get? a=some { cls:=.type "range",data:=.fields #[.int lo t,.int hi u,.int 1 v] }
  | .frz o u=>h.get? a=some o/\ObjOk H h a u
  | .tbl ps=>h.get? a=some { cls:=.none,data:=.fields ps }
  | .met f x=>h.get? a=some (PySem.W.methodObj (.ref f) (.ref x))
  | .ext φ=>φ h/\(∃ o,h.get? a=some o)/\∀ h1 h2:Heap,φ h1->(∀ o,h1.get? a=some o->h2.get? a=some o)->φ h2
noncomputable def HOk (H:Hp) (h:Heap):Prop:=∀ a o,H a=some o->ObjOk P w H h a o
end
section
variable {P:Program} {w:World} {H H':Hp} {h h':Heap} {a:Addr} {o:HO}
theorem ObjOk.lt (x:ObjOk P w H h a o):a < h.objs.size:=by
  cases o with
  | lst xs=>obtain ⟨_,_,_,_,e⟩:=x; exact Heap.lt_size e
  | tup xs=>obtain ⟨_,_,_,p⟩:=x; exact p.lt
  | dK kvs=>obtain ⟨_,_,_,_,o,_,_,e,_⟩:=x; exact Heap.lt_size e
  | dT kvs=>obtain ⟨_,_,_,_,o,_,_,e,_⟩:=x; exact Heap.lt_size e
  | set S n=>obtain ⟨o,_,_,_,e,_⟩:=x; exact Heap.lt_size e
  | ins C dx fs=>obtain ⟨_,_,_,e,_⟩:=x; exact Heap.lt_size e
  | own y=>obtain ⟨_,e⟩:=x; exact Heap.lt_size e
  | xd fs=>obtain ⟨_,⟨_,_,_,e,_⟩,_⟩:=x; exact Heap.lt_size e
  | rng lo hi=>obtain ⟨_,_,_,e⟩:=x; exact Heap.lt_size e
  | frz ob u=>obtain ⟨e,_⟩:=x; exact Heap.lt_size e
  | tbl ps=>exact Heap.lt_size (show h.get? a=some _ from x)
  | met f y=>exact Heap.lt_size (show h.get? a=some _ from x)
  | ext φ=>obtain ⟨_,⟨_,e⟩,_⟩:=x; exact Heap.lt_size e
theorem Paired.mapP {α β:Type} {F G:α->β->Prop}:∀ {l₁:List α} {l₂:List β},Paired F l₁ l₂->(∀ a b,F a b->G a b)->Paired G l₁ l₂
  | _,_,.nil,_=>.nil
  | _,_,.cons r t,f=>.cons (f _ _ r) (Paired.mapP t f)
theorem ObjOk.stay (x:ObjOk P w H h a o) (k:∀ b u,(b=a\/H b=some (.own a))->h.get? b=some u->h'.get? b=some u)
    (ho:∀ b,H b=some (.own a)->H' b=some (.own a)) (ht:∀ b xs,H b=some (.tup xs)->H' b=some (.tup xs)):ObjOk P w H' h' a o:=by
  induction o with
  | lst xs=>obtain ⟨z,its,n,r,e⟩:=x; exact ⟨z,its,n,r,k _ _ (.inl rfl) e⟩
  | tup xs=>obtain ⟨z,its,r,ob,e,c⟩:=x; exact ⟨z,its,r,ob,k _ _ (.inl rfl) e,c⟩
  | dK kvs=>obtain ⟨z,y,vs,r,ob,es,ep,e,c⟩:=x; exact ⟨z,y,vs,r,ob,es,ep,k _ _ (.inl rfl) e,c⟩
  | dT kvs=>
    obtain ⟨z,y,xs,r,ob,es,ep,e,c⟩:=x
    exact ⟨z,y,xs,Paired.mapP r fun p q z=>⟨z.1,ht _ _ z.2.1,z.2.2⟩,ob,es,ep,k _ _ (.inl rfl) e,c⟩
  | set S n=>obtain ⟨ob,es,ep,t,e,c⟩:=x; exact ⟨ob,es,ep,t,k _ _ (.inl rfl) e,c⟩
  | ins C dx fs=>
    obtain ⟨d,z,ne,e,mA,⟨od,es,ep,e2,c⟩,r⟩:=x
    exact ⟨ho _ d,z,ne,k _ _ (.inl rfl) e,mA,⟨od,es,ep,k _ _ (.inr d) e2,c⟩,r⟩
  | own y=>obtain ⟨ob,e⟩:=x; exact ⟨ob,k _ _ (.inl rfl) e⟩
  | xd fs=>obtain ⟨mA,⟨od,es,ep,e,c⟩,r⟩:=x; exact ⟨mA,⟨od,es,ep,k _ _ (.inl rfl) e,c⟩,r⟩
  | rng lo hi=>obtain ⟨t,u,v,e⟩:=x; exact ⟨t,u,v,k _ _ (.inl rfl) e⟩
  | frz ob u ih=>obtain ⟨e,q⟩:=x; exact ⟨k _ _ (.inl rfl) e,ih q⟩
  | tbl ps=>
    have e:h.get? a=some { cls:=.none,data:=.fields ps }:=x
    show h'.get? a=some { cls:=.none,data:=.fields ps }
    exact k a _ (.inl rfl) e
  | met f y=>
    have e:h.get? a=some (PySem.W.methodObj (.ref f) (.ref y)):=x
    show h'.get? a=some (PySem.W.methodObj (.ref f) (.ref y))
    exact k a _ (.inl rfl) e
  | ext φ=>obtain ⟨p,⟨o,e⟩,st⟩:=x; exact ⟨st _ _ p fun o q=>k _ _ (.inl rfl) q,⟨o,k _ _ (.inl rfl) e⟩,st⟩
theorem HOk.lt (x:HOk P w H h) (e:H a=some o):a < h.objs.size:=(x a o e).lt
theorem HOk.fresh (x:HOk P w H h) (e:h.objs.size<=a):H a=none:=by
  cases q:H a with
  | none=>rfl
  | some u=>exact absurd (Nat.lt_of_lt_of_le (x.lt q) e) (Nat.lt_irrefl _)
theorem HOk.kept (x:HOk P w H h) (k:∀ b u,h.get? b=some u->h'.get? b=some u):HOk P w H h':=fun a o e=>
  (x a o e).stay (fun b u _ q=>k b u q) (fun _ q=>q) fun _ _ q=>q
theorem HOk.laid (x:HOk P w H h) (k:∀ b u,h.get? b=some u->h'.get? b=some u) (hp:h.objs.size<=a) (new:ObjOk P w (upd H a o) h' a o):HOk P w (upd H a o) h':=fun b u e=>by
  have hn:=x.fresh hp
  by_cases hb:b=a
  · subst hb; rw [ZO] at e; cases e; exact new
  · rw [ZK hb] at e
    exact (x b u e).stay (fun c v _ q=>k c v q) (fun c q=>by rw [ZK (ZG q hn)]; exact q) fun c xs q=>by rw [ZK (ZG q hn)]; exact q
end
noncomputable def Rd (H:Hp) (a:Addr) (u:HO):Prop:=H a=some u\/∃ o,H a=some (.frz o u)
theorem Rd.ok {P:Program} {w:World} {H:Hp} {h:Heap} {a:Addr} {u:HO} (r:Rd H a u) (x:HOk P w H h):ObjOk P w H h a u:=by
  rcases r with r | ⟨o,r⟩
  · exact x a u r
  · obtain ⟨_,q⟩:=x a _ r
    exact q
noncomputable def Mut:Option HO->Prop
  | some (.lst _)=>True
  | some (.dK _)=>True
  | some (.dT _)=>True
  | some (.set _ _)=>True
  | some (.ins _ _ _)=>True
  | some (.ext _)=>True
  | _=>False
section
variable {P:Program} {w:World} {H:Hp} {h h':Heap} {x e:Addr} {o':HO}
theorem HOk.write (ok:HOk P w H h) (mu:Mut (H x)) (he:e=x\/H e=some (.own x)) (k:∀ b u,b≠e->h.get? b=some u->h'.get? b=some u) (heo:∃ u,h'.get? e=some u)
    (new:ObjOk P w (upd H x o') h' x o'):HOk P w (upd H x o') h':=fun b u q=>by
  have nown:∀ c y,H c=some (.own y)->c≠x:=fun c y r z=>by subst z; rw [r] at mu; exact mu
  have ntup:∀ c xs,H c=some (.tup xs)->c≠x:=fun c xs r z=>by subst z; rw [r] at mu; exact mu
  by_cases hb:b=x
  · subst hb; rw [ZO] at q; cases q; exact new
  · rw [ZK hb] at q
    by_cases hbe:b=e
    · have q':H b=some (.own x):=by
        rcases he with z | z
        · exact absurd (hbe.trans z) hb
        · rw [hbe]; exact z
      rw [q] at q'; cases q'
      obtain ⟨v,hv⟩:=heo
      exact ⟨v,by rw [hbe]; exact hv⟩
    · refine (ok b u q).stay (fun c v hc r=>k c v ?_ r) (fun c r=>by rw [ZK (nown c b r)]; exact r) fun c xs r=>by rw [ZK (ntup c xs r)]; exact r
      rcases hc with rfl | hc
      · exact hbe
      · rintro rfl
        rcases he with z | z
        · exact nown c b hc z
        · rw [hc] at z; cases z; exact hb rfl
end
structure Un (fs ex:List Addr) (H H':Hp) (h h':Heap):Prop where
  keep:∀ b o,h.get? b=some o->H b=none->b ∉ fs->b ∉ ex->h'.get? b=some o
  slot:∀ b o,h.get? b=some o->H b=none->b∈fs->b ∉ ex->∃ sl,h'.get? b=some { o with slots:=sl }
  free:∀ b o,h.get? b=some o->H b=none->b ∉ ex->H' b=none
  there:∀ b o,h.get? b=some o->b ∉ ex->∃ o',h'.get? b=some o'
  tups:∀ b xs,H b=some (.tup xs)->H' b=some (.tup xs)
  frzs:∀ b o u,H b=some (.frz o u)->H' b=some (.frz o u)
  tbls:∀ b ps,H b=some (.tbl ps)->∃ more,H' b=some (.tbl (ps++more))
section
variable {fs fs' ex ex':List Addr} {H H1 H2:Hp} {h h1 h2 h':Heap} {a x e:Addr} {o:HO}
theorem Un.any (u:Un fs ex H H1 h h1) {b:Addr} {ob:Obj} (q:h.get? b=some ob) (n:H b=none) (hx:b ∉ ex):∃ sl,h1.get? b=some { ob with slots:=sl }:=by
  by_cases hb:b∈fs
  · exact u.slot b ob q n hb hx
  · exact ⟨ob.slots,u.keep b ob q n hb hx⟩
theorem Un.kept (k:∀ b u,h.get? b=some u->h'.get? b=some u):Un fs ex H H h h':=
  ⟨fun b ob q _ _ _=>k b ob q,fun b ob q _ _ _=>⟨ob.slots,k b ob q⟩,fun _ _ _ n _=>n,fun b ob q _=>⟨ob,k b ob q⟩,fun _ _ q=>q,fun _ _ _ q=>q,fun _ ps q=>⟨#[],by rw [q]; simp⟩⟩
theorem Un.refl:Un fs ex H H h h:=Un.kept fun _ _ q=>q
theorem Un.laid (k:∀ b u,h.get? b=some u->h'.get? b=some u) (hp:h.objs.size<=a) (hn:H a=none):Un fs ex H (upd H a o) h h' where
  keep:=fun b u q _ _ _=>k b u q
  slot:=fun b u q _ _ _=>⟨u.slots,k b u q⟩
  free:=fun b u q n _=>by rw [ZK (Nat.ne_of_lt (Nat.lt_of_lt_of_le (Heap.lt_size q) hp))]; exact n
  there:=fun b u q _=>⟨u,k b u q⟩
  tups:=fun b xs q=>by rw [ZK (ZG q hn)]; exact q
  frzs:=fun b u xs q=>by rw [ZK (ZG q hn)]; exact q
  tbls:=fun b ps q=>⟨#[],by rw [ZK (ZG q hn),q]; simp⟩
theorem Un.write (mu:Mut (H x)) (he:e=x\/H e=some (.own x)) (k:∀ b u,b≠e->h.get? b=some u->h'.get? b=some u) (heo:∃ u,h'.get? e=some u):Un fs ex H (upd H x o) h h':=by
  have hx:∀ b,H b=none->b≠x:=fun b n z=>by subst z; rw [n] at mu; exact mu
  have hb:∀ b,H b=none->b≠e:=fun b n z=>by
    subst z
    rcases he with r | r
    · exact hx b n r
    · rw [n] at r; cases r
  have hm:∀ b u,H b=some u->¬ Mut (some u)->b≠x:=fun b u q nm z=>by subst z; rw [q] at mu; exact nm mu
  refine ⟨fun b u q n _ _=>k b u (hb b n) q,fun b u q n _ _=>⟨u.slots,k b u (hb b n) q⟩,fun b u q n _=>by rw [ZK (hx b n)]; exact n,fun b u q _=>?_,
    fun b xs q=>by rw [ZK (hm b _ q fun z=>z)]; exact q,fun b u xs q=>by rw [ZK (hm b _ q fun z=>z)]; exact q,fun b ps q=>⟨#[],by rw [ZK (hm b _ q fun z=>z),q]; simp⟩⟩
  by_cases hbe:b=e
  · subst hbe; exact heo
  · exact ⟨u,k b u hbe q⟩
end
noncomputable def trk (h:Heap) (H:Hp):List Addr:=(List.range h.objs.size).filter fun a=>(H a).isSome
noncomputable def ZhA (h:Heap) (H:Hp):Heap:=PySem.W.hideAll h (trk h H)
theorem Zge (h:Heap) (H:Hp):(ZhA h H).objs.size=h.objs.size:=PySem.W.hideAll_size _ _
theorem Zhz {h:Heap} {H:Hp} {b:Addr} {o:Obj} (e:h.get? b=some o) (n:H b=none):(ZhA h H).get? b=some o:=
  PySem.W.hideAll_get _ e fun hm=>by
    have q:(H b).isSome=true:=(List.mem_filter.mp hm).2
    rw [n] at q; simp at q
theorem Zi6 {h:Heap} {H:Hp} {b:Addr} {o:Obj} (e:(ZhA h H).get? b=some o):h.get? b=some o/\H b=none:=by
  have e':h.get? b=some o:=PySem.W.of_hideAll (trk h H) e
  refine ⟨e',?_⟩
  cases q:H b with
  | none=>rfl
  | some x=>
    have hm:b∈trk h H:=List.mem_filter.mpr ⟨List.mem_range.mpr (Heap.lt_size e'),by simp [q]⟩
    have z:(ZhA h H).get? b=none:=PySem.W.hideAll_none (trk h H) hm
    rw [z] at e; cases e
noncomputable def ZjL (g h:Heap) (L:Addr):List (Addr×Obj):=(List.range h.objs.size).filterMap fun a=>if a=L\/(g.get? a).isSome=true then none else (h.get? a).map fun o=>(a,o)
noncomputable def rest (g h:Heap) (L d:Addr):List (Addr×Obj):=(ZjL g h L).filter fun p=>decide (p.1≠d)
structure Mod (K:PySem.W.Frag) (mg:Str->Option Value) (base:Heap):Prop where
  kin:K.In base
  glob:base.Ns mainGlobals mg
  blt:∃ mb,base.Ns builtinsNs mb/\∀ x:Str,x≠"__name__"->mb x=bootBuiltins x
  nolimit:base.NoLimit
structure Cx where
  prog:Program
  w:World
  K:PySem.W.Frag
  mg:Str->Option Value
  base:Heap
  A:Around
  N:List Str
  s₀:Shared
  H₀:Hp
  env:Env
  outer:List Env
  stack:List Env
  ex:List Addr
  fn:Str->Bool
  calm:Bool
  pn:List (Addr×Obj)
  xe:Value->Shared->Prop
noncomputable def frs (l:List Env):List Addr:=l.filterMap (·.frame)
noncomputable abbrev Cx.fs (X:Cx):List Addr:=frs X.outer
noncomputable def Vis (sc:Scope) (x:Str):Prop:=sc.names.lookup x=some .local\/sc.names.lookup x=some .cell\/sc.names.lookup x=some .free
noncomputable def Loc (sc:Scope) (x:Str):Prop:=sc.names.lookup x=some .local\/sc.names.lookup x=some .cell
noncomputable def ZnH (env:Env) (h:Heap) (m:Str->Option Value) (x:Str) (u:Value):Prop:=
  (env.kindOf x=some .local/\m x=some u)\/((env.kindOf x=some .cell\/env.kindOf x=some .free)/\∃ c,env.cells.lookup x=some c/\h.IsCell c (some u))
structure Cx.Ok (X:Cx):Prop where
  mod:Mod X.K X.mg X.base
  kind:X.env.scope.kind=.function
  glob:X.env.globals=mainGlobals
  blt:X.env.builtins=builtinsNs
  above:X.s₀.heap.objs.size<=X.env.locals
  inj:∀ x y c,X.env.cells.lookup x=some c->X.env.cells.lookup y=some c->x=y
  has:∀ x,(X.env.kindOf x=some .cell\/X.env.kindOf x=some .free)->∃ c,X.env.cells.lookup x=some c
  cab:∀ x c,X.fn x=true->X.env.cells.lookup x=some c->X.s₀.heap.objs.size<=c
  hd:X.calm=true->X.A.handled=none
  frames:X.A.frames=some X.stack
  stk:X.stack=X.outer\/(X.stack=X.env::X.outer/\X.env.frame=some X.env.locals)
  exf:∀ b∈X.ex,b≠X.env.locals/\∀ x c,X.env.cells.lookup x=some c->c≠b
  bs:∀ b o,X.base.get? b=some o->X.s₀.heap.get? b=some o/\X.H₀ b=none
  bsz:X.base.objs.size<=X.s₀.heap.objs.size
  noex:∀ b o,X.base.get? b=some o->b ∉ X.ex
  exfs:∀ b∈X.ex,b ∉ X.fs
  funs:X.s₀.heap.FunFrames X.base X.outer
  frf:∀ b∈X.fs,X.H₀ b=none
structure Inv (X:Cx) (pins:List (Addr×Obj)) (σ:List (Option V)) (H:Hp) (s:Shared):Prop where
  ok:X.Ok
  os:s.os=X.s₀.os
  bare:AllBare s.gens
  base:Un X.fs X.ex X.H₀ H X.s₀.heap s.heap
  loc:∃ m,s.heap.Ns X.env.locals m/\∀ (i:Nat) (x:Str) (v:V),X.N[i]?=some x->σ[i]?=some (some v)->Vis X.env.scope x->∃ u,RelV v u/\ZnH X.env s.heap m x u
  cell:∀ x c,X.env.cells.lookup x=some c->∃ v,s.heap.IsCell c v
  free:H X.env.locals=none
  freeC:∀ x c,X.env.cells.lookup x=some c->H c=none
  pin:∀ p∈X.pn++pins,s.heap.get? p.1=some p.2/\H p.1=none/\p.1≠X.env.locals/\p.1 ∉ X.fs/\∀ v,p.2.data≠.cell v
  hok:HOk X.prog X.w H s.heap
  len:σ.length=X.N.length
section
variable {X:Cx} {pins:List (Addr×Obj)} {σ:List (Option V)} {H H':Hp} {s:Shared} {h':Heap}
theorem Cx.Ok.nofr (ok:X.Ok) {b:Addr} {o:Obj} (e:X.base.get? b=some o):b ∉ X.fs:=fun hb=>by
  have:=(ok.funs.mem hb).1
  rw [e] at this; cases this
theorem Inv.bs (I:Inv X pins σ H s):∀ b o,X.base.get? b=some o->s.heap.get? b=some o/\H b=none:=fun b o e=>
  ⟨I.base.keep b o (I.ok.bs b o e).1 (I.ok.bs b o e).2 (I.ok.nofr e) (I.ok.noex b o e),I.base.free b o (I.ok.bs b o e).1 (I.ok.bs b o e).2 (I.ok.noex b o e)⟩
theorem Inv.bk (I:Inv X pins σ H s):∀ b o,X.base.get? b=some o->s.heap.get? b=some o:=fun b o e=>(I.bs b o e).1
theorem Inv.mod (I:Inv X pins σ H s):Mod X.K X.mg X.base:=I.ok.mod
theorem Inv.kIn (I:Inv X pins σ H s):X.K.In s.heap:=I.ok.mod.kin.keeps I.bk
theorem Inv.lt (I:Inv X pins σ H s):X.env.locals < s.heap.objs.size:=let ⟨_,hn,_⟩:=I.loc; hn.lt
theorem Inv.sz (I:Inv X pins σ H s):X.s₀.heap.objs.size<=s.heap.objs.size:=Nat.le_trans I.ok.above (Nat.le_of_lt I.lt)
theorem Inv.nofs (I:Inv X pins σ H s) {a:Addr} (h:s.heap.objs.size<=a):a ∉ X.fs:=fun hb=>by
  obtain ⟨_,o,ho,_⟩:=I.ok.funs.mem hb
  exact absurd (Nat.lt_of_lt_of_le (Heap.lt_size ho) (Nat.le_trans I.sz h)) (Nat.lt_irrefl _)
theorem Inv.cne (I:Inv X pins σ H s):∀ x c,X.env.cells.lookup x=some c->c≠X.env.locals:=fun x c e z=>by
  obtain ⟨v,o,ho,hd⟩:=I.cell x c e
  obtain ⟨m,⟨o',es,ep,ho',hd',_⟩,_⟩:=I.loc
  rw [z,ho'] at ho; cases ho; rw [hd'] at hd; cases hd
theorem Inv.funs (I:Inv X pins σ H s):s.heap.FunFrames X.base X.outer:=by
  have all:∀ (l:List Env),(∀ b∈frs l,b∈X.fs)->X.s₀.heap.FunFrames X.base l->s.heap.FunFrames X.base l:=by
    intro l
    induction l with
    | nil=>intro _ _; trivial
    | cons env r ih=>
      intro hs hl
      obtain ⟨hk,⟨L,o,hf,hn,ho,hd⟩,hr⟩:=hl
      have hL:L∈X.fs:=hs L (by unfold frs; rw [List.filterMap_cons,hf]; exact List.mem_cons_self)
      obtain ⟨sl,e⟩:=I.base.slot L o ho (I.ok.frf L hL) hL fun z=>I.ok.exfs L z hL
      exact ⟨hk,⟨L,_,hf,hn,e,hd⟩,ih (fun b hb=>hs b (by unfold frs; rw [List.filterMap_cons,hf]; exact List.mem_cons_of_mem _ hb)) hr⟩
  exact all X.outer (fun _ hb=>hb) I.ok.funs
theorem Inv.stack (I:Inv X pins σ H s):s.heap.FunFrames X.base X.stack:=by
  rcases I.ok.stk with e | ⟨e,hf⟩
  · rw [e]; exact I.funs
  · rw [e]
    obtain ⟨m,hn,_⟩:=I.loc
    refine .cons (by rw [I.ok.kind]; decide) hf hn ?_ I.funs
    exact Heap.get?_none_of_le (Nat.le_trans I.ok.bsz I.ok.above)
theorem Inv.stkSub (I:Inv X pins σ H s):∀ b∈frs X.stack,b∈X.env.locals::X.fs:=fun b hb=>by
  rcases I.ok.stk with e | ⟨e,hf⟩
  · rw [e] at hb; exact List.mem_cons_of_mem _ hb
  · rw [e] at hb
    unfold frs at hb
    rw [List.filterMap_cons,hf] at hb
    exact hb
theorem Inv.stkFree (I:Inv X pins σ H s):∀ b∈frs X.stack,H b=none:=fun b hb=>by
  rcases List.mem_cons.mp (I.stkSub b hb) with e | hb
  · rw [e]; exact I.free
  · obtain ⟨_,o,ho,_⟩:=I.ok.funs.mem hb
    exact I.base.free b o ho (I.ok.frf b hb) fun z=>I.ok.exfs b z hb
theorem Inv.step {g':Array GenState} {t':Nat} {d':Drawn} {ch:List Addr} (I:Inv X pins σ H s)
    (hch:∀ b∈ch,(b∈X.ex\/X.s₀.heap.objs.size<=b)/\b≠X.env.locals/\(∀ x c,X.env.cells.lookup x=some c->c≠b)/\∀ p∈X.pn++pins,p.1≠b)
    (keep:∀ b o,b≠X.env.locals->b ∉ X.fs->b ∉ ch->s.heap.get? b=some o->H b=none->h'.get? b=some o)
    (slot:∀ b o,b≠X.env.locals->b∈X.fs->b ∉ ch->s.heap.get? b=some o->H b=none->∃ sl,h'.get? b=some { o with slots:=sl }) (free:∀ b o,b ∉ ch->s.heap.get? b=some o->H b=none->H' b=none)
    (there:∀ b o,b ∉ ch->s.heap.get? b=some o->∃ o',h'.get? b=some o')
    (tups:∀ b xs,H b=some (.tup xs)->H' b=some (.tup xs)) (frzs:∀ b o u,H b=some (.frz o u)->H' b=some (.frz o u)) (tbls:∀ b ps,H b=some (.tbl ps)->∃ more,H' b=some (.tbl (ps++more)))
    (ns:∀ m,s.heap.Ns X.env.locals m->h'.Ns X.env.locals m) (hok:HOk X.prog X.w H' h') (hg:AllBare g') :
    Inv X pins σ H' { s with heap:=h',gens:=g',drawn:=d',toks:=t' }:=by
  have neL:∀ b o,X.s₀.heap.get? b=some o->b≠X.env.locals:=fun b o e=>Nat.ne_of_lt (Nat.lt_of_lt_of_le (Heap.lt_size e) I.ok.above)
  have neC:∀ b o,X.s₀.heap.get? b=some o->b ∉ X.ex->b ∉ ch:=fun b o e hx hb=>by
    rcases (hch b hb).1 with z | z
    · exact hx z
    · exact absurd (Nat.lt_of_lt_of_le (Heap.lt_size e) z) (Nat.lt_irrefl _)
  have cellK:∀ x c,X.env.cells.lookup x=some c->∀ v,s.heap.IsCell c v->h'.IsCell c v:=fun x c e v zq=>by
    obtain ⟨o,ho,hd⟩:=zq
    have nch:c ∉ ch:=fun z=>(hch c z).2.2.1 x c e rfl
    by_cases hc:c∈X.fs
    · obtain ⟨sl,q⟩:=slot c o (I.cne x c e) hc nch ho (I.freeC x c e)
      exact ⟨_,q,hd⟩
    · exact ⟨o,keep c o (I.cne x c e) hc nch ho (I.freeC x c e),hd⟩
  refine ⟨I.ok,I.os,hg,⟨fun b o e n hb hx=>?_,fun b o e n hb hx=>?_,fun b o e n hx=>?_,fun b o e hx=>?_,fun b xs e=>tups b xs (I.base.tups b xs e),fun b o xs e=>frzs b o xs (I.base.frzs b o xs e),fun b ps e=>?_⟩,?_,fun x c e=>?_,?_,fun x c e=>?_,fun p hp=>?_,hok,I.len⟩
  · exact keep b o (neL b o e) hb (neC b o e hx) (I.base.keep b o e n hb hx) (I.base.free b o e n hx)
  · obtain ⟨sl,e1⟩:=I.base.slot b o e n hb hx
    obtain ⟨sl',e2⟩:=slot b _ (neL b o e) hb (neC b o e hx) e1 (I.base.free b o e n hx)
    exact ⟨sl',e2⟩
  · obtain ⟨o',e1⟩:=I.base.there b o e hx
    exact free b o' (neC b o e hx) e1 (I.base.free b o e n hx)
  · obtain ⟨o',e1⟩:=I.base.there b o e hx
    exact there b o' (neC b o e hx) e1
  · obtain ⟨m1,e1⟩:=I.base.tbls b ps e
    obtain ⟨m2,e2⟩:=tbls b _ e1
    exact ⟨m1++m2,by rw [e2,Array.append_assoc]⟩
  · obtain ⟨m,hn,hl⟩:=I.loc
    refine ⟨m,ns m hn,fun i x v e1 e2 e3=>?_⟩
    obtain ⟨u,r,l⟩:=hl i x v e1 e2 e3
    refine ⟨u,r,?_⟩
    rcases l with l | ⟨k,c,e,z⟩
    · exact .inl l
    · exact .inr ⟨k,c,e,cellK x c e _ z⟩
  · obtain ⟨v,z⟩:=I.cell x c e
    exact ⟨v,cellK x c e v z⟩
  · obtain ⟨m,⟨o,_,_,ho,_⟩,_⟩:=I.loc
    exact free _ o (fun z=>(hch _ z).2.1 rfl) ho I.free
  · obtain ⟨v,o,ho,hd⟩:=I.cell x c e
    exact free c o (fun z=>(hch c z).2.2.1 x c e rfl) ho (I.freeC x c e)
  · obtain ⟨e,n,ne,nf,d⟩:=I.pin p hp
    have nch:p.1 ∉ ch:=fun z=>(hch p.1 z).2.2.2 p hp rfl
    exact ⟨keep p.1 p.2 ne nf nch e n,free p.1 p.2 nch e n,ne,nf,d⟩
theorem Inv.un {t':Nat} (I:Inv X pins σ H s) (u:Un X.fs [] H H' s.heap h') (hok:HOk X.prog X.w H' h'):Inv X pins σ H' { s with heap:=h',toks:=t' }:=by
  obtain ⟨m,⟨o,es,ep,ho,r⟩,_⟩:=id I.loc
  obtain ⟨sl,hL⟩:=u.any ho I.free (by simp)
  exact I.step (g':=s.gens) (d':=s.drawn) (ch:=[]) (fun _ z=>nomatch z) (fun b o _ hb _ e n=>u.keep b o e n hb (by simp)) (fun b o _ hb _ e n=>u.slot b o e n hb (by simp)) (fun b o _ e n=>u.free b o e n (by simp)) (fun b o _ e=>u.there b o e (by simp)) u.tups u.frzs u.tbls (fun m' hm=>by
    obtain ⟨o',es',ep',ho',r'⟩:=hm
    rw [ho] at ho'; cases ho'
    exact ⟨_,es',ep',hL,r'⟩) hok I.bare
theorem Inv.call {g':Array GenState} {t':Nat} {d':Drawn} {ch:List Addr} (I:Inv X pins σ H s) (u:Un (frs X.stack) ch H H' s.heap h') (hok:HOk X.prog X.w H' h') (hg:AllBare g')
    (hch:∀ b∈ch,(b∈X.ex\/X.s₀.heap.objs.size<=b)/\b≠X.env.locals/\(∀ x c,X.env.cells.lookup x=some c->c≠b)/\∀ p∈X.pn++pins,p.1≠b) :
    Inv X pins σ H' { s with heap:=h',gens:=g',drawn:=d',toks:=t' }:=by
  obtain ⟨m,⟨o,es,ep,ho,r⟩,_⟩:=id I.loc
  obtain ⟨sl,hL⟩:=u.any ho I.free fun z=>(hch _ z).2.1 rfl
  exact I.step (ch:=ch) hch (fun b o hL hb hc e n=>u.keep b o e n (fun z=>(List.mem_cons.mp (I.stkSub b z)).elim hL hb) hc) (fun b o _ _ hc e n=>u.any e n hc) (fun b o hc e n=>u.free b o e n hc) (fun b o hc e=>u.there b o e hc) u.tups u.frzs u.tbls (fun m' hm=>by
    obtain ⟨o',es',ep',ho',r'⟩:=hm
    rw [ho] at ho'; cases ho'
    exact ⟨_,es',ep',hL,r'⟩) hok hg
theorem Inv.turned {t':Nat} {it:Addr} (I:Inv X pins σ H s) (k:∀ b o,b≠it->s.heap.get? b=some o->h'.get? b=some o) (hn:H it=none) (hL:it≠X.env.locals)
    (h1:it∈X.ex\/X.s₀.heap.objs.size<=it) (h2:∀ x c,X.env.cells.lookup x=some c->c≠it) (h3:∀ p∈X.pn++pins,p.1≠it):Inv X pins σ H { s with heap:=h',toks:=t' }:=by
  have nit:∀ b u,H b=some u->b≠it:=fun b u e z=>by rw [z,hn] at e; cases e
  refine I.step (g':=s.gens) (d':=s.drawn) (ch:=[it]) (fun b hb=>?_) (fun b o _ _ hc e _=>k b o (fun z=>hc (by simp [z])) e) (fun b o _ _ hc e _=>⟨o.slots,k b o (fun z=>hc (by simp [z])) e⟩) (fun _ _ _ _ n=>n)
    (fun b o hc e=>⟨o,k b o (fun z=>hc (by simp [z])) e⟩) (fun _ _ e=>e) (fun _ _ _ e=>e) (fun b ps e=>⟨#[],by rw [e]; simp⟩) (fun m hm=>?_) (fun b u e=>?_) I.bare
  · have e:b=it:=by simpa using hb
    subst e
    exact ⟨h1,hL,h2,h3⟩
  · obtain ⟨o,es,ep,ho,r⟩:=hm
    exact ⟨o,es,ep,k _ o (Ne.symm hL) ho,r⟩
  · refine (I.hok b u e).stay (fun c v hc q=>k c v ?_ q) (fun _ q=>q) fun _ _ q=>q
    rcases hc with z | z
    · rw [z]; exact nit b u e
    · exact nit c _ z
theorem Inv.tok (I:Inv X pins σ H s) (t:Nat):Inv X pins σ H { s with toks:=t }:=I.un (h':=s.heap) (t':=t) Un.refl I.hok
theorem Inv.kept {t':Nat} (I:Inv X pins σ H s) (k:∀ b u,s.heap.get? b=some u->h'.get? b=some u):Inv X pins σ H { s with heap:=h',toks:=t' }:=I.un (Un.kept k) (I.hok.kept k)
theorem Inv.laid {a:Addr} {o:HO} {t':Nat} (I:Inv X pins σ H s) (k:∀ b u,s.heap.get? b=some u->h'.get? b=some u) (hp:s.heap.objs.size<=a) (new:ObjOk X.prog X.w (upd H a o) h' a o) :
    Inv X pins σ (upd H a o) { s with heap:=h',toks:=t' }:=I.un (Un.laid k hp (I.hok.fresh hp)) (I.hok.laid k hp new)
theorem Inv.write {x e:Addr} {o:HO} {t':Nat} (I:Inv X pins σ H s) (mu:Mut (H x)) (he:e=x\/H e=some (.own x)) (k:∀ b u,b≠e->s.heap.get? b=some u->h'.get? b=some u) (heo:∃ u,h'.get? e=some u)
    (new:ObjOk X.prog X.w (upd H x o) h' x o):Inv X pins σ (upd H x o) { s with heap:=h',toks:=t' }:=I.un (Un.write mu he k heo) (I.hok.write mu he k heo new)
theorem Inv.pins_of {pins':List (Addr×Obj)} (I:Inv X pins σ H s) (h:∀ p∈pins',s.heap.get? p.1=some p.2/\H p.1=none/\p.1≠X.env.locals/\p.1 ∉ X.fs/\∀ v,p.2.data≠.cell v):Inv X pins' σ H s:=
  ⟨I.ok,I.os,I.bare,I.base,I.loc,I.cell,I.free,I.freeC,fun p hp=>(List.mem_append.mp hp).elim (fun z=>I.pin p (List.mem_append_left _ z)) (h p),I.hok,I.len⟩
theorem ZdQ {N:List Str} (hN:N.Nodup) {i j:Nat} {x:Str} (a:N[i]?=some x) (b:N[j]?=some x):i=j:=by
  obtain ⟨h1,e1⟩:=List.getElem?_eq_some_iff.mp a
  obtain ⟨h2,e2⟩:=List.getElem?_eq_some_iff.mp b
  exact (List.getElem_inj hN).mp (e1.trans e2.symm)
theorem Zfg {M:Model} {A:Around} {E:Value->Shared->Prop} {i:Nat} {x:Str} {v:V} {u:Value} {Q:Unit->Shared->Prop} (I:Inv X pins σ H s) (hN:X.N.Nodup) (hi:X.N[i]?=some x) (hx:Loc X.env.scope x) (r:RelV v u)
    (h:∀ s',Inv X pins (σ.set i (some v)) H s'->(∃ a,Heap.SameBut a s.heap s'.heap/\(a=X.env.locals\/X.env.cells.lookup x=some a))->Q () s') (hf:X.fn x=true\/X.env.scope.names.lookup x=some .local:=by first | exact .inl rfl | exact .inr rfl | assumption):wpAny M A (storeName X.env x u) Q E s:=by
  obtain ⟨m,hn,hl⟩:=id I.loc
  have hcls:(X.env.scope.kind==.class||(X.env.scope.kind==.module&&X.env.locals != X.env.globals))=false:=by rw [I.ok.kind]; rfl
  have hiσ:i < σ.length:=by rw [I.len]; exact (List.getElem?_eq_some_iff.mp hi).1
  have cne:=I.cne
  have tracked:∀ {a:Addr} {h':Heap},(∃ o,s.heap.get? a=some o/\H a=none)->Heap.SameBut a s.heap h'->HOk X.prog X.w H h':=fun {a h'} ha hs b ob e=>by
    obtain ⟨_,_,hfree⟩:=ha
    refine (I.hok b ob e).stay (fun c w' hc q=>(hs.2 c ?_).trans q) (fun _ q=>q) fun _ _ q=>q
    rintro rfl
    rcases hc with rfl | hc
    · rw [hfree] at e; cases e
    · rw [hfree] at hc; cases hc
  rcases hx with hk | hk
  · refine wpAny_storeName_local hk hn (fun h' hn' hs=>?_) hcls
    obtain ⟨oL,_,_,hoL,_⟩:=id hn
    refine h _ ⟨I.ok,I.os,I.bare,⟨fun b o e n hb hx=>?_,fun b o e n hb hx=>?_,I.base.free,fun b o e hx=>?_,I.base.tups,I.base.frzs,I.base.tbls⟩,⟨_,hn',fun j y v' e1 e2 e3=>?_⟩,fun y c e=>?_,I.free,I.freeC,fun p hp=>?_,tracked ⟨oL,hoL,I.free⟩ hs,by simpa using I.len⟩ ⟨_,hs,.inl rfl⟩
    · exact (hs.2 b (Nat.ne_of_lt (Nat.lt_of_lt_of_le (Heap.lt_size e) I.ok.above))).trans (I.base.keep b o e n hb hx)
    · obtain ⟨sl,e1⟩:=I.base.slot b o e n hb hx
      exact ⟨sl,(hs.2 b (Nat.ne_of_lt (Nat.lt_of_lt_of_le (Heap.lt_size e) I.ok.above))).trans e1⟩
    · obtain ⟨o',e1⟩:=I.base.there b o e hx
      exact ⟨o',(hs.2 b (Nat.ne_of_lt (Nat.lt_of_lt_of_le (Heap.lt_size e) I.ok.above))).trans e1⟩
    · by_cases hj:j=i
      · subst hj
        rw [hi] at e1; cases e1
        rw [List.getElem?_set_self hiσ] at e2
        cases e2
        exact ⟨u,r,.inl ⟨hk,by simp⟩⟩
      · rw [List.getElem?_set_ne (Ne.symm hj)] at e2
        obtain ⟨u',r',q⟩:=hl j y v' e1 e2 e3
        refine ⟨u',r',?_⟩
        rcases q with ⟨k,e⟩ | ⟨k,c,e,z⟩
        · refine .inl ⟨k,?_⟩
          have:y≠x:=fun e=>hj (ZdQ hN e1 (e ▸ hi))
          simp [this,e]
        · exact .inr ⟨k,c,e,z.sameBut hs (cne y c e)⟩
    · obtain ⟨w',z⟩:=I.cell y c e
      exact ⟨w',z.sameBut hs (cne y c e)⟩
    · obtain ⟨e,n,ne,nf,d⟩:=I.pin p hp
      exact ⟨(hs.2 p.1 ne).trans e,n,ne,nf,d⟩
  · have hfn:X.fn x=true:=by
      rcases hf with z | z
      · exact z
      · rw [z] at hk; cases hk
    obtain ⟨c,hc⟩:=I.ok.has x (.inl hk)
    obtain ⟨w',z⟩:=I.cell x c hc
    refine wpAny_storeName_cell I.ok.kind hk hc z (fun h' hc' hs=>?_)
    obtain ⟨oc,hoc,hocd⟩:=id z
    refine h { s with heap:=h' } ⟨I.ok,I.os,I.bare,⟨fun b o e n hb hx=>?_,fun b o e n hb hx=>?_,I.base.free,fun b o e hx=>?_,I.base.tups,I.base.frzs,I.base.tbls⟩,⟨m,hn.sameBut hs (Ne.symm (cne x c hc)),fun j y v' e1 e2 e3=>?_⟩,fun y c' e=>?_,I.free,I.freeC,fun p hp=>?_,tracked ⟨oc,hoc,I.freeC x c hc⟩ hs,by simpa using I.len⟩ ⟨c,hs,.inr hc⟩
    · exact (hs.2 b (Nat.ne_of_lt (Nat.lt_of_lt_of_le (Heap.lt_size e) (I.ok.cab x c hfn hc)))).trans (I.base.keep b o e n hb hx)
    · obtain ⟨sl,e1⟩:=I.base.slot b o e n hb hx
      exact ⟨sl,(hs.2 b (Nat.ne_of_lt (Nat.lt_of_lt_of_le (Heap.lt_size e) (I.ok.cab x c hfn hc)))).trans e1⟩
    · obtain ⟨o',e1⟩:=I.base.there b o e hx
      exact ⟨o',(hs.2 b (Nat.ne_of_lt (Nat.lt_of_lt_of_le (Heap.lt_size e) (I.ok.cab x c hfn hc)))).trans e1⟩
    · by_cases hj:j=i
      · subst hj
        rw [hi] at e1; cases e1
        rw [List.getElem?_set_self hiσ] at e2
        cases e2
        exact ⟨u,r,.inr ⟨.inl hk,c,hc,hc'⟩⟩
      · rw [List.getElem?_set_ne (Ne.symm hj)] at e2
        obtain ⟨u',r',q⟩:=hl j y v' e1 e2 e3
        refine ⟨u',r',?_⟩
        rcases q with q | ⟨k,c',e,z'⟩
        · exact .inl q
        · refine .inr ⟨k,c',e,z'.sameBut hs ?_⟩
          rintro rfl
          exact hj (ZdQ hN e1 (I.ok.inj _ _ _ e hc ▸ hi))
    · by_cases hcc:c'=c
      · subst hcc; exact ⟨_,hc'⟩
      · obtain ⟨w2,z2⟩:=I.cell y c' e
        exact ⟨w2,z2.sameBut hs hcc⟩
    · obtain ⟨e,n,ne,nf,d⟩:=I.pin p hp
      refine ⟨(hs.2 p.1 ?_).trans e,n,ne,nf,d⟩
      intro q
      rw [q,hoc] at e
      have q':oc=p.2:=Option.some.inj e
      exact d w' (by rw [<-q']; exact hocd)
theorem V9 {M:Model} {A:Around} {E:Value->Shared->Prop} {i:Nat} {x:Str} {v:V} {u:Value} {Q:Unit->Shared->Prop} (I:Inv X pins σ H s) (hN:X.N.Nodup) (hi:X.N[i]?=some x) (hx:Loc X.env.scope x) (r:RelV v u)
    (h:∀ s',Inv X pins (σ.set i (some v)) H s'->Q () s') (hf:X.fn x=true\/X.env.scope.names.lookup x=some .local:=by first | exact .inl rfl | exact .inr rfl | assumption):wpAny M A (storeName X.env x u) Q E s:=
  Zfg I hN hi hx r (fun s' I' _=>h s' I') hf
theorem Inv.call' {s':Shared} {ch:List Addr} (I:Inv X pins σ H s) (ho:s'.os=s.os) (u:Un (frs X.stack) ch H H' s.heap s'.heap) (hok:HOk X.prog X.w H' s'.heap) (hg:AllBare s'.gens)
    (hch:∀ b∈ch,(b∈X.ex\/X.s₀.heap.objs.size<=b)/\b≠X.env.locals/\(∀ x c,X.env.cells.lookup x=some c->c≠b)/\∀ p∈X.pn++pins,p.1≠b):Inv X pins σ H' s':=by
  obtain ⟨h',g',d',t',o'⟩:=s'
  have e:o'=s.os:=ho
  subst e
  exact I.call (g':=g') (t':=t') (d':=d') u hok hg hch
end
noncomputable abbrev XK:=Value->Option Addr->Hp->Prop
noncomputable abbrev St:=List (Option V)
noncomputable abbrev VK:=V->Hp->Prop
noncomputable abbrev TE:=St->Hp->VK->Prop
noncomputable abbrev TT:=St->Hp->(Bool->Hp->Prop)->Prop
noncomputable abbrev TA:=St->Hp->(List V->Hp->Prop)->Prop
structure Ziq where
  nx:St->Hp->Prop
  rt:VK
  bk:St->Hp->Prop:=fun _ _=>False
  ct:St->Hp->Prop:=fun _ _=>False
noncomputable abbrev TS:=Ziq->St->Hp->Prop
inductive EP (X:Cx) (pins:List (Addr×Obj)) (σ:St) (Q:VK) (u:Value) (s':Shared):Prop
  | mk (v:V) (H':Hp) (I:Inv X pins σ H' s') (r:RelV v u) (q:Q v H')
noncomputable def TP (X:Cx) (pins:List (Addr×Obj)) (σ:St) (Q:Bool->Hp->Prop) (b:Bool) (s':Shared):Prop:=∃ H',Inv X pins σ H' s'/\Q b H'
inductive AP (X:Cx) (pins:List (Addr×Obj)) (σ:St) (Q:List V->Hp->Prop) (us:List Value) (s':Shared):Prop
  | mk (vs:List V) (H':Hp) (I:Inv X pins σ H' s') (r:Vals vs us) (q:Q vs H')
noncomputable def SP (X:Cx) (pins:List (Addr×Obj)) (D:Ziq) (f:Flow) (s':Shared):Prop:=
  match f with
  | .next=>∃ σ' H',Inv X pins σ' H' s'/\D.nx σ' H'
  | .brk=>∃ σ' H',Inv X pins σ' H' s'/\D.bk σ' H'
  | .cont=>∃ σ' H',Inv X pins σ' H' s'/\D.ct σ' H'
  | .ret u=>∃ v σ' H',Inv X pins σ' H' s'/\RelV v u/\D.rt v H'
noncomputable def PE (X:Cx) (e:Expr) (t:TE):Prop:=
  ∀ (pins:List (Addr×Obj)) (s:Shared) (σ:St) (H:Hp) (Q:VK),Inv X pins σ H s->t σ H Q->wpAny (model X.prog X.w) X.A (eval e X.env) (EP X pins σ Q) X.xe s
noncomputable def PT (X:Cx) (e:Expr) (t:TT):Prop:=
  ∀ (pins:List (Addr×Obj)) (s:Shared) (σ:St) (H:Hp) (Q:Bool->Hp->Prop),Inv X pins σ H s->t σ H Q->wpAny (model X.prog X.w) X.A (isTrue e X.env (eval e X.env)) (TP X pins σ Q) X.xe s
noncomputable def PW (X:Cx) (e:Expr) (t:TT):Prop:=
  ∀ (whole:Sem Value) (pins:List (Addr×Obj)) (s:Shared) (σ:St) (H:Hp) (Q:Bool->Hp->Prop),Inv X pins σ H s->t σ H Q->wpAny (model X.prog X.w) X.A (isTrue e X.env whole) (TP X pins σ Q) X.xe s
theorem PW.pt {X:Cx} {e:Expr} {t:TT} (h:PW X e t):PT X e t:=h _
noncomputable def PA (X:Cx) (es:List Expr) (t:TA):Prop:=
  ∀ (pos:Pos) (pins:List (Addr×Obj)) (s:Shared) (σ:St) (H:Hp) (Q:List V->Hp->Prop),Inv X pins σ H s->t σ H Q->wpAny (model X.prog X.w) X.A (spliced (backTo pos (starEach es X.env))) (AP X pins σ Q) X.xe s
noncomputable def PS (X:Cx) (st:Stmt) (t:TS):Prop:=
  ∀ (pins:List (Addr×Obj)) (s:Shared) (σ:St) (H:Hp) (D:Ziq),Inv X pins σ H s->t D σ H->wpAny (model X.prog X.w) X.A (exec st X.env) (SP X pins D) X.xe s
noncomputable def PSs (X:Cx) (st:List Stmt) (t:TS):Prop:=
  ∀ (pins:List (Addr×Obj)) (s:Shared) (σ:St) (H:Hp) (D:Ziq),Inv X pins σ H s->t D σ H->wpAny (model X.prog X.w) X.A (execs st X.env) (SP X pins D) X.xe s
theorem thn {α:Type} {t:Sem α} {Q Q':α->Shared->Prop} {M:Model} {A:Around} {E:Value->Shared->Prop} {s:Shared} (h:wpAny M A t Q E s) (hQ:∀ a s,Q a s->Q' a s):wpAny M A t Q' E s:=wpAny_mono h hQ fun _ _ x=>x
section
variable {X:Cx}
theorem bin {a b:Expr} {ta tb:TE} (ha:PE X a ta) (hb:PE X b tb) {pins:List (Addr×Obj)} {s:Shared} {σ:St} {H:Hp} {R:V->V->Hp->Prop} (I:Inv X pins σ H s) (h:ta σ H fun x H1=>tb σ H1 fun y H2=>R x y H2)
    {α:Type} {Q:α->Shared->Prop} {f:Value->Value->Sem α}
    (hf:∀ v u s2 x y H2,Inv X pins σ H2 s2->RelV x v->RelV y u->R x y H2->wpAny (model X.prog X.w) X.A (f v u) Q X.xe s2) :
    wpAny (model X.prog X.w) X.A (eval a X.env) (fun v s₁=>wpAny (model X.prog X.w) X.A (eval b X.env) (fun u s₂=>wpAny (model X.prog X.w) X.A (f v u) Q X.xe s₂) X.xe s₁) X.xe s:=by
  refine thn (ha pins s σ H _ I h) fun v s1 zq=>?_
  obtain ⟨x,H1,I1,r1,q1⟩:=zq
  refine thn (hb pins s1 σ H1 _ I1 q1) fun u s2 zq=>?_
  obtain ⟨y,H2,I2,r2,q2⟩:=zq
  exact hf v u s2 x y H2 I2 r1 r2 q2
noncomputable def Zlm (i:Nat):TE:=fun σ H Q=>∃ v,σ[i]?=some (some v)/\Q v H
noncomputable def tC (v:V):TE:=fun _ H Q=>Q v H
theorem Zkn {i:Nat} {x:Str} {pos:Pos} (hN:X.N[i]?=some x) (hv:Vis X.env.scope x) (hd:(x==("__debug__":Str))=false:=by decide) (hcd:(x==("__classdict__":Str))=false:=by decide):PE X (.Name x pos) (Zlm i):=by
  intro pins s σ H Q I h
  obtain ⟨v,e,h⟩:=h
  obtain ⟨m,hn,hl⟩:=I.loc
  obtain ⟨u,r,l⟩:=hl i x v hN e hv
  have fin:EP X pins σ Q u s:=⟨v,H,I,r,h⟩
  rcases l with ⟨hk,hm⟩ | ⟨hk,c,hc,hcell⟩
  · exact wpAny_Name (wpAny_loadName_local I.ok.kind hk hn hm fin) hd
  · rcases hk with hk | hk
    · exact wpAny_Name (wpAny_loadName_cell I.ok.kind hk hc hcell fin) hd
    · exact wpAny_Name (wpAny_loadName_free I.ok.kind hk hc hcell fin hcd) hd
theorem Zh4 {i j pos}:PE X (.Constant (.int i) j pos) (tC (.int i)):=fun _ _ _ H _ I h=>wpAny_Constant_int ⟨.int i,H,I.tok _,⟨_,rfl⟩,h⟩
theorem Zks {b j pos}:PE X (.Constant (.bool b) j pos) (tC (.bl b)):=fun _ _ _ H _ I h=>Constant_bool ⟨.bl b,H,I,rfl,h⟩
theorem Zkq {j pos}:PE X (.Constant .none j pos) (tC .non):=fun _ _ _ H _ I h=>Constant_none ⟨.non,H,I,rfl,h⟩
theorem Zh1 {x j pos}:PE X (.Constant (.str x) j pos) (tC (.str x)):=fun _ _ _ H _ I h=>Calls.Constant_str ⟨.str x,H,I.tok _,⟨_,rfl⟩,h⟩
noncomputable def Gl (X:Cx) (x:Str):Prop:=X.env.kindOf x=some .globalImplicit
theorem WI {E:Value->Shared->Prop} {pins:List (Addr×Obj)} {s:Shared} {σ:St} {H:Hp} {x:Str} {u:Value} {pos:Pos} {Q:Value->Shared->Prop} (I:Inv X pins σ H s) (hg:Gl X x) (hm:X.mg x=some u) (h:Q u s)
    (hd:(x==("__debug__":Str))=false:=by decide):wpAny (model X.prog X.w) X.A (eval (.Name x pos) X.env) Q E s:=
  Calls.Name_function_global I.ok.kind hg (Calls.loadGlobal_global (by rw [I.ok.glob]; exact I.mod.glob.keeps I.bk) hm h) hd
theorem Um {E:Value->Shared->Prop} {pins:List (Addr×Obj)} {s:Shared} {σ:St} {H:Hp} {x:Str} {u:Value} {pos:Pos} {Q:Value->Shared->Prop} (I:Inv X pins σ H s) (hg:Gl X x) (hm:X.mg x=none) (hv:bootBuiltins x=some u) (h:Q u s)
    (hn:x≠"__name__":=by decide) (hd:(x==("__debug__":Str))=false:=by decide):wpAny (model X.prog X.w) X.A (eval (.Name x pos) X.env) Q E s:=by
  obtain ⟨mb,h1,h2⟩:=I.mod.blt
  exact Calls.Name_function_global I.ok.kind hg (Calls.loadGlobal_builtin (by rw [I.ok.glob]; exact I.mod.glob.keeps I.bk) hm (by rw [I.ok.blt]; exact h1.keeps I.bk) ((h2 x hn).trans hv) h) hd
theorem Zc8 {x:Str} {v:V} {u:Value} {pos:Pos} (hg:Gl X x) (hm:X.mg x=some u) (r:RelV v u) (hd:(x==("__debug__":Str))=false:=by decide):PE X (.Name x pos) (tC v):=
  fun _ _ _ H _ I h=>WI I hg hm ⟨v,H,I,r,h⟩ hd
theorem Zi1 {x:Str} {v:V} {u:Value} {pos:Pos} (hg:Gl X x) (hm:X.mg x=none) (hv:bootBuiltins x=some u) (r:RelV v u) (hn:x≠"__name__":=by decide) (hd:(x==("__debug__":Str))=false:=by decide):PE X (.Name x pos) (tC v):=
  fun _ _ _ H _ I h=>Um I hg hm hv ⟨v,H,I,r,h⟩ hn hd
variable {a b:Expr} {ta tb:TE} {pos:Pos}
noncomputable def PC (X:Cx) (op:CmpOp) (a b:Expr) (t:TE):Prop:=
  ∀ (pins:List (Addr×Obj)) (s:Shared) (σ:St) (H:Hp) (Q:VK),Inv X pins σ H s->t σ H Q ->
    wpAny (model X.prog X.w) X.A (eval a X.env) (fun v s₁=>wpAny (model X.prog X.w) X.A (eval b X.env) (fun u s₂=>wpAny (model X.prog X.w) X.A (compareOp op v u) (EP X pins σ Q) X.xe s₂) X.xe s₁) X.xe s
noncomputable def tB (t:TE):TT:=fun σ H Q=>t σ H fun x H1=>∃ c,x=.bl c/\Q c H1
theorem Zmx {op:CmpOp} {t:TE} (h:PC X op a b t) (h1:behindInMarks op b=false:=by first | exact nobehind _ (by decide) (by decide) | rfl):PT X (.Compare a [op] [b] pos) (tB t):=by
  intro pins s σ H Q I hw
  refine wpAny_isTrue_Compare1 (thn (h pins s σ H _ I hw) fun v s1 h1=>thn h1 fun u s2 h2=>thn h2 fun c s3 zq=>?_) h1
  obtain ⟨x,H1,I1,r1,q1⟩:=zq
  obtain ⟨d,rfl,q⟩:=q1
  cases r1
  exact wpAny_truthy_bool ⟨H1,I1,q⟩
theorem Zkh {e:Expr} {t:TE} (h:PE X e t) (he:∀ whole,isTrue e X.env whole=(do let v <- whole; standAt e.pos; holding [v] (truthy v)):=by intro _; rfl):PT X e (tB t):=by
  intro pins s σ H Q I hw
  refine isTrue_plain (thn (h pins s σ H _ I hw) fun v s1 zq=>?_) (he _)
  obtain ⟨x,H1,I1,r1,q1⟩:=zq
  obtain ⟨d,rfl,q⟩:=q1
  cases r1
  exact wpAny_truthy_bool ⟨H1,I1,q⟩
variable {tA tB':TT} {rest:List Expr}
noncomputable def Zm5 (t u:TT):TT:=fun σ H Q=>t σ H fun c H1=>if c=true then u σ H1 Q else Q false H1
noncomputable def tOr (t u:TT):TT:=fun σ H Q=>t σ H fun c H1=>if c=true then Q true H1 else u σ H1 Q
noncomputable def ZmZ (t:TT):TT:=fun σ H Q=>t σ H fun c H1=>Q (!c) H1
theorem ZiL (ha:PT X a tA):PW X (.BoolOp .And [a] pos) tA:=by
  intro wh pins s σ H Q I h
  refine isTrue_and (thn (ha pins s σ H Q I h) fun c s1 e=>?_)
  cases c with
  | true=>exact isTrue_and_nil e
  | false=>exact e
theorem Zkf (ha:PT X a tA):PW X (.BoolOp .Or [a] pos) tA:=by
  intro wh pins s σ H Q I h
  refine isTrue_or (thn (ha pins s σ H Q I h) fun c s1 e=>?_)
  cases c with
  | false=>exact isTrue_or_nil e
  | true=>exact e
theorem Zkg (ha:PT X a tA) (hb:PW X (.BoolOp .And (b::rest) pos) tB'):PW X (.BoolOp .And (a::b::rest) pos) (Zm5 tA tB'):=by
  intro wh pins s σ H Q I h
  refine isTrue_and (thn (ha pins s σ H _ I h) fun c s1 zq=>?_)
  obtain ⟨H1,I1,q1⟩:=zq
  cases c with
  | true=>exact hb wh pins s1 σ H1 Q I1 q1
  | false=>exact ⟨H1,I1,q1⟩
theorem ZlO (ha:PT X a tA) (hb:PW X (.BoolOp .Or (b::rest) pos) tB'):PW X (.BoolOp .Or (a::b::rest) pos) (tOr tA tB'):=by
  intro wh pins s σ H Q I h
  refine isTrue_or (thn (ha pins s σ H _ I h) fun c s1 zq=>?_)
  obtain ⟨H1,I1,q1⟩:=zq
  cases c with
  | true=>exact ⟨H1,I1,q1⟩
  | false=>exact hb wh pins s1 σ H1 Q I1 q1
theorem Zki (ha:PT X a tA):PT X (.UnaryOp .Not a pos) (ZmZ tA):=by
  intro pins s σ H Q I h
  exact isTrue_not (ha pins s σ H (fun c H1=>Q (!c) H1) I h)
noncomputable def ZlJ (ta tb:TE):TE:=fun σ H Q=>ta σ H fun x H1=>∃ c,x=.bl c/\if c=true then tb σ H1 Q else Q (.bl false) H1
noncomputable def ZmY (ta tb:TE):TE:=fun σ H Q=>ta σ H fun x H1=>∃ c,x=.bl c/\if c=true then Q (.bl true) H1 else tb σ H1 Q
noncomputable def ZlD (ta:TE):TE:=fun σ H Q=>ta σ H fun x H1=>∃ c,x=.bl c/\Q (.bl (!c)) H1
theorem Zh2 {op} {t:TE} (h:PE X a t):PE X (.BoolOp op [a] pos) t:=fun pins s σ H Q I hw=>BoolOp_one (h pins s σ H Q I hw)
theorem ZfI (ha:PE X a ta) (hb:PE X (.BoolOp .And (b::rest) pos) tb):PE X (.BoolOp .And (a::b::rest) pos) (ZlJ ta tb):=by
  intro pins s σ H Q I h
  refine BoolOp_and (thn (ha pins s σ H _ I h) fun v s1 zq=>?_)
  obtain ⟨x,H1,I1,r1,q1⟩:=zq
  obtain ⟨c,rfl,q1⟩:=q1
  cases r1
  refine wpAny_truthy_bool ?_
  cases c with
  | true=>exact hb pins s1 σ H1 Q I1 q1
  | false=>exact ⟨.bl false,H1,I1,rfl,q1⟩
theorem ZlQ (ha:PE X a ta) (hb:PE X (.BoolOp .Or (b::rest) pos) tb):PE X (.BoolOp .Or (a::b::rest) pos) (ZmY ta tb):=by
  intro pins s σ H Q I h
  refine BoolOp_or (thn (ha pins s σ H _ I h) fun v s1 zq=>?_)
  obtain ⟨x,H1,I1,r1,q1⟩:=zq
  obtain ⟨c,rfl,q1⟩:=q1
  cases r1
  refine wpAny_truthy_bool ?_
  cases c with
  | false=>exact hb pins s1 σ H1 Q I1 q1
  | true=>exact ⟨.bl true,H1,I1,rfl,q1⟩
theorem Zh3 (ha:PE X a ta):PE X (.UnaryOp .Not a pos) (ZlD ta):=by
  intro pins s σ H Q I h
  refine UnaryOp_ (thn (ha pins s σ H _ I h) fun v s1 zq=>?_)
  obtain ⟨x,H1,I1,r1,q1⟩:=zq
  obtain ⟨c,rfl,q1⟩:=q1
  cases r1
  exact not_of (wpAny_truthy_bool ⟨.bl (!c),H1,I1,rfl,q1⟩)
end
noncomputable def SqL (K:PySem.W.Frag) (H:Hp) (a:Addr) (xs:List V):Prop:=
  Rd H a (.lst xs) \/
    ∃ (o:Obj) (its:Array Value) (n:Nat),K.lookup a=some o/\o.cls=.type "list"/\o.dict=none/\o.data=.seq its n/\its.size<=sizeLine/\Vals xs its.toList
noncomputable def SqT (K:PySem.W.Frag) (H:Hp) (a:Addr) (xs:List V):Prop:=
  Rd H a (.tup xs) \/
    ∃ (o:Obj) (its:Array Value) (n:Nat),K.lookup a=some o/\o.cls=.type "tuple"/\o.data=.seq its n/\its.size<=sizeLine/\Vals xs its.toList
noncomputable def ZnA:Value->Option V
  | .none=>some .non
  | .bool b=>some (.bl b)
  | .int i _=>some (.int i)
  | .str x _=>some (.str x)
  | .bytes b _=>some (.byt b)
  | .float b _=>some (.flt b)
  | .ref a=>some (.ref a)
  | .type n=>some (.ty n)
  | _=>none
theorem RelV.abs {x:V} {u:Value} (r:RelV x u):ZnA u=some x:=by
  cases x with
  | non=>cases r; rfl
  | bl _=>cases r; rfl
  | int _=>obtain ⟨t,rfl⟩:=r; rfl
  | str _=>obtain ⟨t,rfl⟩:=r; rfl
  | byt _=>obtain ⟨t,rfl⟩:=r; rfl
  | flt _=>obtain ⟨t,rfl⟩:=r; rfl
  | ref _=>cases r; rfl
  | ty _=>cases r; rfl
theorem RelV.inj {x y:V} {u:Value} (r:RelV x u) (q:RelV y u):x=y:=Option.some.inj (r.abs.symm.trans q.abs)
theorem Vals.inj:∀ {xs ys:List V} {us:List Value},Vals xs us->Vals ys us->xs=ys
  | _,_,_,.nil,.nil=>rfl
  | _,_,_,.cons r t,.cons r' t'=>by rw [r.inj r',Vals.inj t t']
section
variable {X:Cx} {pins:List (Addr×Obj)} {σ:St} {H:Hp} {s:Shared} {a:Addr} {xs ys:List V}
theorem SqL.of {K:PySem.W.Frag} (h:H a=some (.lst xs)):SqL K H a xs:=.inl (.inl h)
theorem SqT.of {K:PySem.W.Frag} (h:H a=some (.tup xs)):SqT K H a xs:=.inl (.inl h)
theorem Inv.list (I:Inv X pins σ H s) (h:SqL X.K H a xs):∃ its:List Value,Vals xs its/\PlainL s.heap a its.toArray/\xs.length<=sizeLine:=by
  rcases h with h | ⟨o,its,n,hk,hc,hd,hs,hz,r⟩
  · obtain ⟨z,its,n,r,e⟩:=h.ok I.hok
    exact ⟨its,r,⟨_,n,e,rfl,rfl,rfl⟩,z⟩
  · refine ⟨its.toList,r,⟨o,n,I.kIn a o hk,hc,hd,by simpa using hs⟩,?_⟩
    have e:=r.length
    simp only [Array.length_toList] at e
    omega
theorem Inv.tuple (I:Inv X pins σ H s) (h:SqT X.K H a xs):∃ its:List Value,Vals xs its/\IsTup s.heap a its.toArray/\xs.length<=sizeLine:=by
  rcases h with h | ⟨o,its,n,hk,hc,hs,hz,r⟩
  · obtain ⟨z,its,r,p⟩:=h.ok I.hok
    exact ⟨its,r,p,z⟩
  · refine ⟨its.toList,r,⟨o,I.kIn a o hk,hc,n,by simpa using hs⟩,?_⟩
    have e:=r.length
    simp only [Array.length_toList] at e
    omega
theorem Inv.list_inj (I:Inv X pins σ H s) (h:SqL X.K H a xs) (h':SqL X.K H a ys):xs=ys:=by
  obtain ⟨its,r,⟨o,n,e,_,_,d⟩,_⟩:=I.list h
  obtain ⟨its',r',⟨o',n',e',_,_,d'⟩,_⟩:=I.list h'
  rw [e] at e'; cases e'
  rw [d] at d'
  injection d' with d1 _
  have:its=its':=by simpa using congrArg Array.toList d1
  subst this
  exact r.inj r'
theorem Inv.tuple_inj (I:Inv X pins σ H s) (h:SqT X.K H a xs) (h':SqT X.K H a ys):xs=ys:=by
  obtain ⟨its,r,⟨o,e,_,n,d⟩,_⟩:=I.tuple h
  obtain ⟨its',r',⟨o',e',_,n',d'⟩,_⟩:=I.tuple h'
  rw [e] at e'; cases e'
  rw [d] at d'
  injection d' with d1 _
  have:its=its':=by simpa using congrArg Array.toList d1
  subst this
  exact r.inj r'
end
noncomputable abbrev Cx.wish (X:Cx) (E:Value->Shared->Prop):Cx:={ X with xe:=E }
noncomputable abbrev Cx.nox (X:Cx):Cx:=X.wish fun _ _=>False
theorem Cx.Ok.wish {X:Cx} (ok:X.Ok) (E:Value->Shared->Prop):(X.wish E).Ok:=
  ⟨ok.mod,ok.kind,ok.glob,ok.blt,ok.above,ok.inj,ok.has,ok.cab,ok.hd,ok.frames,ok.stk,ok.exf,ok.bs,ok.bsz,ok.noex,ok.exfs,ok.funs,ok.frf⟩
theorem Cx.Ok.unwish {X:Cx} {E:Value->Shared->Prop} (ok:(X.wish E).Ok):X.Ok:=
  ⟨ok.mod,ok.kind,ok.glob,ok.blt,ok.above,ok.inj,ok.has,ok.cab,ok.hd,ok.frames,ok.stk,ok.exf,ok.bs,ok.bsz,ok.noex,ok.exfs,ok.funs,ok.frf⟩
section
variable {X:Cx} {pins:List (Addr×Obj)} {σ:St} {H:Hp} {s:Shared} {E:Value->Shared->Prop}
theorem Inv.wish (I:Inv X pins σ H s) (E:Value->Shared->Prop):Inv (X.wish E) pins σ H s:=⟨I.ok.wish E,I.os,I.bare,I.base,I.loc,I.cell,I.free,I.freeC,I.pin,I.hok,I.len⟩
theorem Inv.unwish (I:Inv (X.wish E) pins σ H s):Inv X pins σ H s:=⟨I.ok.unwish,I.os,I.bare,I.base,I.loc,I.cell,I.free,I.freeC,I.pin,I.hok,I.len⟩
theorem SP.unwish {D:Ziq} {f:Flow} {s':Shared} (h:SP (X.wish E) pins D f s'):SP X pins D f s':=by
  cases f with
  | next=>obtain ⟨σ',H',I,q⟩:=h; exact ⟨σ',H',I.unwish,q⟩
  | brk=>obtain ⟨σ',H',I,q⟩:=h; exact ⟨σ',H',I.unwish,q⟩
  | cont=>obtain ⟨σ',H',I,q⟩:=h; exact ⟨σ',H',I.unwish,q⟩
  | ret u=>obtain ⟨v,σ',H',I,r,q⟩:=h; exact ⟨v,σ',H',I.unwish,r,q⟩
theorem PSs.nox {st:List Stmt} {t:TS} (h:PSs X.nox st t):PSs X st t:=fun pins s σ H D I hw=>
  wpAny_mono (h pins s σ H D (I.wish _) hw) (fun _ _ q=>q.unwish) fun _ _ z=>False.elim z
end
section
variable {X:Cx} {st:Stmt} {rest:List Stmt} {t u:TS} {e:Expr} {te:TE} {pos:Pos}
noncomputable def ZlE:TS:=fun D σ H=>D.nx σ H
noncomputable def ZmW (t u:TS):TS:=fun D σ H=>t { D with nx:=u D } σ H
theorem ZiP:PSs X [] ZlE:=fun _ _ σ H _ I h=>wpAny_execs_nil ⟨σ,H,I,h⟩
theorem Wa (h1:PS X st t) (h2:PSs X rest u):PSs X (st::rest) (ZmW t u):=by
  intro pins s σ H D I h
  refine wpAny_execs_cons (thn (h1 pins s σ H { D with nx:=u D } I h) fun f s1 q=>?_)
  cases f with
  | next=>
    obtain ⟨σ',H',I',q⟩:=q
    exact h2 pins s1 σ' H' D I' q
  | ret v=>exact q
  | brk=>exact q
  | cont=>exact q
theorem Vo (h1:PS X st t):PSs X [st] t:=by
  intro pins s σ H D I h
  refine wpAny_execs_cons (thn (h1 pins s σ H D I h) fun f s1 q=>?_)
  cases f with
  | next=>exact wpAny_execs_nil q
  | ret v=>exact q
  | brk=>exact q
  | cont=>exact q
theorem Inv.quiet {pins:List (Addr×Obj)} {σ:St} {H:Hp} {s:Shared} (I:Inv X pins σ H s):interactive X.env=false:=by simp [interactive,I.ok.kind]
noncomputable def ZlG (te:TE):TS:=fun D σ H=>te σ H fun _ H1=>D.nx σ H1
theorem Zc5 (he:PE X e te) (hs:swapsWith e none pos.line X.env=pure false:=by rfl):PS X (.Expr e pos) (ZlG te):=by
  intro pins s σ H D I h
  exact wpAny_Expr_any (thn (he pins s σ H _ I h) fun v s1 ⟨x,H1,I1,r1,q1⟩=>⟨σ,H1,I1,q1⟩) I.quiet hs
noncomputable def ZmX (te:TE):TS:=fun D σ H=>te σ H D.rt
theorem ZfC (he:PE X e te):PS X (.Return (some e) pos) (ZmX te):=by
  intro pins s σ H D I h
  exact wpAny_Return_some (thn (he pins s σ H _ I h) fun v s1 ⟨x,H1,I1,r1,q1⟩=>⟨x,σ,H1,I1,r1,q1⟩)
noncomputable def Zm2 (c:TT) (t u:TS):TS:=fun D σ H=>c σ H fun b H1=>if b=true then t D σ H1 else u D σ H1
theorem Zkj {c:Expr} {a b:List Stmt} {tc:TT} (hc:PT X c tc) (ha:PSs X a t) (hb:PSs X b u):PS X (.If c a b pos) (Zm2 tc t u):=by
  intro pins s σ H D I h
  refine wpAny_If (thn (hc pins s σ H _ I h) fun d s1 zq=>?_)
  obtain ⟨H1,I1,q1⟩:=zq
  cases d with
  | true=>exact ha pins s1 σ H1 D I1 q1
  | false=>exact hb pins s1 σ H1 D I1 q1
end
noncomputable abbrev TG:=V->St->Hp->(St->Hp->Prop)->Prop
noncomputable abbrev TGs:=List V->St->Hp->(St->Hp->Prop)->Prop
noncomputable def PG (X:Cx) (target:Expr) (t:TG):Prop:=
  ∀ (pins:List (Addr×Obj)) (s:Shared) (σ:St) (H:Hp) (v:V) (u:Value) (Q:St->Hp->Prop),Inv X pins σ H s->RelV v u->t v σ H Q ->
    wpAny (model X.prog X.w) X.A (assign target X.env u) (fun _ s'=>∃ σ' H',Inv X pins σ' H' s'/\Q σ' H') X.xe s
noncomputable def PGs (X:Cx) (ts:List Expr) (t:TGs):Prop:=
  ∀ (pins:List (Addr×Obj)) (s:Shared) (σ:St) (H:Hp) (vs:List V) (us:List Value) (Q:St->Hp->Prop),Inv X pins σ H s->Vals vs us->t vs σ H Q ->
    wpAny (model X.prog X.w) X.A (assignInOrder ((assignEach ts X.env).map (·.2)) us) (fun _ s'=>∃ σ' H',Inv X pins σ' H' s'/\Q σ' H') X.xe s
noncomputable abbrev TSet:=V->V->V->Hp->(Hp->Prop)->Prop
section
variable {X:Cx} {pos:Pos}
noncomputable def Zk2 (i:Nat):TG:=fun v σ H Q=>Q (σ.set i (some v)) H
theorem Zc6 {i:Nat} {x:Str} (hN:X.N.Nodup) (hi:X.N[i]?=some x) (hx:Loc X.env.scope x) (hf:X.fn x=true\/X.env.scope.names.lookup x=some .local:=by first | exact .inl rfl | exact .inr rfl | assumption):PG X (.Name x pos) (Zk2 i):=by
  intro pins s σ H v u Q I r h
  exact wpAny_assign_Name (V9 I hN hi hx r (fun s' I'=>⟨_,H,I',h⟩) hf)
noncomputable def Zns:TGs:=fun vs σ H Q=>vs=[]/\Q σ H
noncomputable def Zl9 (t:TG) (u:TGs):TGs:=fun vs σ H Q=>∃ v r,vs=v::r/\t v σ H fun σ' H'=>u r σ' H' Q
theorem ZiW:PGs X [] Zns:=by
  intro pins s σ H vs us Q I r h
  obtain ⟨e,h⟩:=h
  subst e
  cases r
  exact assignInOrder_nil ⟨σ,H,I,h⟩
theorem ZdN {e:Expr} {es:List Expr} {t:TG} {u:TGs} (h1:PG X e t) (h2:PGs X es u)
    (hs:(assignEach (e::es) X.env).map (·.2)=assign e X.env::(assignEach es X.env).map (·.2):=by rfl):PGs X (e::es) (Zl9 t u):=by
  intro pins s σ H vs us Q I r h
  obtain ⟨v,vr,e1,h⟩:=h
  subst e1
  cases r with
  | cons r rr=>
    rw [hs]
    refine assignInOrder_cons (thn (h1 pins s σ H _ _ _ I r h) fun _ s1 zq=>?_)
    obtain ⟨σ1,H1,I1,q1⟩:=zq
    exact h2 pins s1 σ1 H1 _ _ Q I1 rr q1
noncomputable def Znr (K:PySem.W.Frag) (n:Nat) (t:TGs):TG:=fun v σ H Q=>∃ a xs,v=.ref a/\SqT K H a xs/\xs.length=n/\t xs σ H Q
theorem Zkm {es:List Expr} {k:Nat} {t:TGs} {n:Nat} (hc:X.calm=true) (h:PGs X es t)
    (hn:(assignEach es X.env).length=n:=by rfl) (hst:(assignEach es X.env).findIdx? (·.1)=none:=by rfl):PG X (.Tuple es k pos) (Znr X.K n t):=by
  intro pins s σ H v u Q I r hw
  obtain ⟨a,xs,e1,hq,hl,hw⟩:=hw
  subst e1
  cases r
  obtain ⟨its,rv,ht,hz⟩:=I.tuple hq
  refine assign_Tuple_tuple (I.ok.hd hc) ht (by simp [hn,<-hl,rv.length]) hst fun h' hx=>?_
  have I1:Inv X pins σ H { s with heap:=h' }:=I.kept (t':=s.toks) fun b o e=>hx b o (Nat.ne_of_lt (Heap.lt_size e)) e
  exact h pins _ σ H xs _ Q I1 (by simpa using rv) hw
noncomputable def Zm4 (te:TE) (g:TG):TS:=fun D σ H=>te σ H fun x H1=>g x σ H1 D.nx
theorem Zh0 {i:Nat} {x:Str} {e:Expr} {te:TE} {pos':Pos} (hN:X.N.Nodup) (hi:X.N[i]?=some x) (hx:Loc X.env.scope x) (he:PE X e te) (hs:swapsWith e (some (.Name x pos')) pos.line X.env=pure false:=by rfl) (hf:X.fn x=true\/X.env.scope.names.lookup x=some .local:=by first | exact .inl rfl | exact .inr rfl | assumption) :
    PS X (.Assign [.Name x pos'] e pos) (Zm4 te (Zk2 i)):=by
  intro pins s σ H D I h
  refine wpAny_Assign_Name (thn (he pins s σ H _ I h) fun v s1 zq=>?_) hs
  obtain ⟨y,H1,I1,r1,q1⟩:=zq
  exact V9 I1 hN hi hx r1 (fun s2 I2=>⟨_,H1,I2,q1⟩) hf
end
section
variable {X:Cx} {pos:Pos}
noncomputable def ZjZ (c:TT) (tb:TS):TS:=fun D σ H=>∃ W:Nat->St->Hp->Prop,(∃ m,W m σ H)/\∀ m σ H,W m σ H ->
  c σ H fun b H1=>if b=true then ∃ N:St->Hp->Prop,(∀ σ' H',N σ' H'->∃ m',m' < m/\W m' σ' H')/\tb { D with nx:=N,ct:=N,bk:=D.nx } σ H1 else D.nx σ H1
theorem Zhe {c:Expr} {body:List Stmt} {tc:TT} {tb:TS} (hp:PassesOwn (model X.prog X.w) X.A X.env X.xe) (hc:PT X c tc) (hb:PSs X body tb):PS X (.While c body [] pos) (ZjZ tc tb):=by
  intro pins s σ H D I h
  obtain ⟨W,⟨m0,w0⟩,turn⟩:=h
  refine wpAny_While (codeAny_whileLoop (fun n s'=>∃ σ' H',Inv X pins σ' H' s'/\W n σ' H') ?_ m0 ⟨σ,H,I,w0⟩)
  rintro n s1 ⟨σ1,H1,I1,w1⟩
  refine wpAny_passesOwn hp (thn (hc pins s1 σ1 H1 _ I1 (turn n σ1 H1 w1)) fun b s2 zq=>?_)
  obtain ⟨H2,I2,q2⟩:=zq
  cases b with
  | true=>
    obtain ⟨N,hN,q2⟩:=q2
    rw [if_pos rfl]
    refine wpAny_passesOwn hp (thn (hb pins s2 σ1 H2 _ I2 q2) fun f s3 q3=>?_)
    cases f with
    | next=>
      obtain ⟨σ3,H3,I3,n3⟩:=q3
      obtain ⟨m',hm,w3⟩:=hN σ3 H3 n3
      exact ⟨m',hm,σ3,H3,I3,w3⟩
    | cont=>
      obtain ⟨σ3,H3,I3,n3⟩:=q3
      obtain ⟨m',hm,w3⟩:=hN σ3 H3 n3
      exact ⟨m',hm,σ3,H3,I3,w3⟩
    | brk=>exact q3
    | ret v=>exact q3
  | false=>
    rw [if_neg Bool.false_ne_true]
    exact wpAny_execs_nil ⟨σ1,H2,I2,q2⟩
end
structure It where
  go:Nat->Hp->Prop
  yld:Nat->Hp->V->Hp->Prop
  stop:Nat->Hp->Prop
noncomputable def ZcT (X:Cx) (pins:List (Addr×Obj)) (H:Hp) (b:Addr):Prop:=
  H b=none/\b≠X.env.locals/\b ∉ X.fs/\(b∈X.ex\/X.s₀.heap.objs.size<=b)/\(∀ x c,X.env.cells.lookup x=some c->c≠b)/\∀ p∈X.pn++pins,p.1≠b
theorem Inv.fpOk {X:Cx} {pins:List (Addr×Obj)} {σ:St} {H H':Hp} {s:Shared} {b:Addr} (I:Inv X pins σ H s) (hb:s.heap.objs.size<=b) (hn:H' b=none):ZcT X pins H' b:=by
  refine ⟨hn,Nat.ne_of_gt (Nat.lt_of_lt_of_le I.lt hb),I.nofs hb,.inr (Nat.le_trans I.sz hb),fun x c e z=>?_,fun p hp z=>?_⟩
  · obtain ⟨v,q⟩:=I.cell x c e
    exact absurd (Nat.lt_of_lt_of_le q.lt (by rw [z]; exact hb)) (Nat.lt_irrefl _)
  · exact absurd (Nat.lt_of_lt_of_le (Heap.lt_size (I.pin p hp).1) (by rw [z]; exact hb)) (Nat.lt_irrefl _)
structure Zil (P:Program) (w:World) (K:PySem.W.Frag) (tg:Expr) (J:It) (fp:List Addr) (it:Addr) (tn:Nat->Heap->Prop):Prop where
  mem:it∈fp
  obj:∀ i h,tn i h->∀ b∈fp,∃ o,h.get? b=some o/\∀ v,o.data≠.cell v
  keep:∀ i h h',tn i h->(∀ b∈fp,∀ o,h.get? b=some o->h'.get? b=some o)->tn i h'
  item:∀ (X:Cx),X.prog=P->X.w=w->X.K=K->X.calm=true->∀ (i:Nat) (pins:List (Addr×Obj)) (s:Shared) (σ:St) (H:Hp) (E:Value->Shared->Prop),Inv X pins σ H s->(∀ b∈fp,ZcT X pins H b)->tn i s.heap->J.go i H ->
    wpAny (model P w) X.A (pyNext (.ref it)) (fun r s1=>∃ u,r=some u /\
      wpAny (model P w) X.A (letOwnedTupleGo tg (.ref it) u) (fun _ s2=>∃ x H',Inv X pins σ H' s2/\RelV x u/\J.yld i H x H'/\tn (i+1) s2.heap/\∀ b∈fp,H' b=none) E s1) E s
  done:∀ (X:Cx),X.prog=P->X.w=w->X.K=K->X.calm=true->∀ (i:Nat) (pins:List (Addr×Obj)) (s:Shared) (σ:St) (H:Hp) (E:Value->Shared->Prop),Inv X pins σ H s->(∀ b∈fp,ZcT X pins H b)->tn i s.heap->J.stop i H ->
    wpAny (model P w) X.A (pyNext (.ref it)) (fun r s1=>r=none/\Inv X pins σ H s1) E s
  self:∀ (A:Around) (i:Nat) (s:Shared) (Q:Value->Shared->Prop) (E:Value->Shared->Prop),tn i s.heap->Q (.ref it) s->wpAny (model P w) A (pyIter (.ref it)) Q E s
noncomputable abbrev TI:=St->Hp->(It->Hp->Prop)->Prop
noncomputable def PIE (X:Cx) (pins:List (Addr×Obj)) (σ:St) (tg:Expr) (R:It->Hp->Prop) (itv:Value) (s2:Shared):Prop:=
  ∃ (it:Addr) (fp:List Addr) (tn:Nat->Heap->Prop) (J:It) (H':Hp),itv=.ref it/\Inv X pins σ H' s2/\Zil X.prog X.w X.K tg J fp it tn/\tn 0 s2.heap/\(∀ b∈fp,ZcT X pins H' b)/\R J H'
noncomputable def PI (X:Cx) (tg iter:Expr) (wi:TI):Prop:=
  ∀ (pins:List (Addr×Obj)) (s:Shared) (σ:St) (H:Hp) (R:It->Hp->Prop),Inv X pins σ H s->wi σ H R ->
    wpAny (model X.prog X.w) X.A (eval iter X.env) (fun v s1=>wpAny (model X.prog X.w) X.A (pyIter v) (PIE X pins σ tg R) X.xe s1) X.xe s
theorem Zjq {M : Model} {A : Around} {E : Value -> Shared -> Prop} {s : Shared} {tg : Expr} {it : Addr} {u : Value} {o : Obj} {n : String} {vs : Array Value} {Q : Unit -> Shared -> Prop} (ho : s.heap.get? it = some o) (hc : o.cls = .type n) (hd : o.data = .fields vs)
    (hn : ["enumerate", "zip", "dict_itemiterator", "dict_reverseitemiterator", "odict_iterator", "itertools.zip_longest", "itertools.pairwise"].contains n = false) (hQ : Q () s) : wpAny M A (letOwnedTupleGo tg (.ref it) u) Q E s := by
  unfold letOwnedTupleGo
  cases tg <;> first
    | exact wpAny_pure hQ
    | (cases u <;> first
        | exact wpAny_pure hQ
        | (refine wpAny_bind (wpAny_load ho ?_)
           rw [hc, hd]
           show wpAny M A (if (["enumerate", "zip", "dict_itemiterator", "dict_reverseitemiterator", "odict_iterator", "itertools.zip_longest", "itertools.pairwise"].contains n && vs[0]? == some (rawInt _)) = true then _ else _) Q E s
           rw [if_neg (by intro h; rw [hn, Bool.false_and] at h; cases h)]
           exact wpAny_pure hQ))
noncomputable def Itl (K:PySem.W.Frag) (a:Addr):It:=
  ⟨fun i H=>∃ xs x,SqL K H a xs/\xs[i]?=some x,fun i H x H'=>H'=H/\∀ xs,SqL K H a xs->xs[i]?=some x,fun i H=>∃ xs,SqL K H a xs/\xs.length<=i⟩
noncomputable def Itt (K:PySem.W.Frag) (a:Addr):It:=
  ⟨fun i H=>∃ xs x,SqT K H a xs/\xs[i]?=some x,fun i H x H'=>H'=H/\∀ xs,SqT K H a xs->xs[i]?=some x,fun i H=>∃ xs,SqT K H a xs/\xs.length<=i⟩
noncomputable def Itr (lo:Int) (n:Nat):It:=⟨fun i _=>i < n,fun i H x H'=>H'=H/\x=.int (lo+i),fun i _=>n<=i⟩
theorem Ze9 {P:Program} {w:World} {K:PySem.W.Frag} {tg:Expr} (a it:Addr):Zil P w K tg (Itl K a) [it] it (fun i h=>h.IsListIter it a i) where
  mem:=by simp
  obj:=fun i h st b hb=>by
    have e:b=it:=by simpa using hb
    subst e
    obtain ⟨o,e,c,d⟩:=st
    exact ⟨o,e,fun v z=>by rw [d] at z; cases z⟩
  keep:=fun i h h' st k=>st.at fun o e=>k it (by simp) o e
  item:=by
    intro X hP hw hK hc i pins s σ H E I hf st hg
    subst hP hw hK
    obtain ⟨xs,x,hq,hx⟩:=hg
    obtain ⟨its,rv,p,hz⟩:=I.list hq
    obtain ⟨u,hu,ru⟩:=rv.get hx
    obtain ⟨f0,f1,f2,f3,f4,f5⟩:=hf it (by simp)
    refine wpAny_pyNext_list_item st p.isList (x:=u) (by simpa using hu) fun h' st' sb=>?_
    have I1:Inv X pins σ H { s with heap:=h' }:=I.turned (t':=s.toks) (fun b o hb e=>(sb.2 b hb).trans e) f0 f1 f3 f4 f5
    obtain ⟨o,e,c,d⟩:=id st'
    exact ⟨u,rfl,Zjq (s:={ s with heap:=h' }) e c d (by decide) ⟨x,H,I1,ru,⟨rfl,fun ys hy=>by rw [I.list_inj hy hq]; exact hx⟩,st',fun b hb=>(hf b hb).1⟩⟩
  done:=by
    intro X hP hw hK hc i pins s σ H E I hf st hg
    subst hP hw hK
    obtain ⟨xs,hq,hx⟩:=hg
    obtain ⟨its,rv,p,hz⟩:=I.list hq
    obtain ⟨f0,f1,f2,f3,f4,f5⟩:=hf it (by simp)
    have hl:=rv.length
    exact wpAny_pyNext_list_end (I.ok.hd hc) st p.isList (by simp; omega) fun h' eb=>⟨rfl,I.turned (t':=s.toks) (fun b o hb e=>eb b o hb e) f0 f1 f3 f4 f5⟩
  self:=fun _ _ _ _ _ st h=>wpAny_pyIter_listiter st h
theorem Zea {P:Program} {w:World} {K:PySem.W.Frag} {tg:Expr} (a it:Addr):Zil P w K tg (Itt K a) [it] it (fun i h=>h.IsTupleIter it a i) where
  mem:=by simp
  obj:=fun i h st b hb=>by
    have e:b=it:=by simpa using hb
    subst e
    obtain ⟨o,e,c,d⟩:=st
    exact ⟨o,e,fun v z=>by rw [d] at z; cases z⟩
  keep:=fun i h h' st k=>st.at fun o e=>k it (by simp) o e
  item:=by
    intro X hP hw hK hc i pins s σ H E I hf st hg
    subst hP hw hK
    obtain ⟨xs,x,hq,hx⟩:=hg
    obtain ⟨its,rv,p,hz⟩:=I.tuple hq
    obtain ⟨u,hu,ru⟩:=rv.get hx
    obtain ⟨f0,f1,f2,f3,f4,f5⟩:=hf it (by simp)
    refine wpAny_pyNext_tuple_item st (show s.heap.IsTuple a its.toArray from p) (x:=u) (by simpa using hu) fun h' st' sb=>?_
    have I1:Inv X pins σ H { s with heap:=h' }:=I.turned (t':=s.toks) (fun b o hb e=>(sb.2 b hb).trans e) f0 f1 f3 f4 f5
    obtain ⟨o,e,c,d⟩:=id st'
    exact ⟨u,rfl,Zjq (s:={ s with heap:=h' }) e c d (by decide) ⟨x,H,I1,ru,⟨rfl,fun ys hy=>by rw [I.tuple_inj hy hq]; exact hx⟩,st',fun b hb=>(hf b hb).1⟩⟩
  done:=by
    intro X hP hw hK hc i pins s σ H E I hf st hg
    subst hP hw hK
    obtain ⟨xs,hq,hx⟩:=hg
    obtain ⟨its,rv,p,hz⟩:=I.tuple hq
    obtain ⟨f0,f1,f2,f3,f4,f5⟩:=hf it (by simp)
    have hl:=rv.length
    exact wpAny_pyNext_tuple_end (I.ok.hd hc) st (show s.heap.IsTuple a its.toArray from p) (by simp; omega) fun h' eb=>⟨rfl,I.turned (t':=s.toks) (fun b o hb e=>eb b o hb e) f0 f1 f3 f4 f5⟩
  self:=fun _ _ _ _ _ st h=>wpAny_pyIter_tupleiter st h
theorem Zeb {P:Program} {w:World} {K:PySem.W.Frag} {tg:Expr} (it:Addr) (lo:Int) (n:Nat):Zil P w K tg (Itr lo n) [it] it (fun i h=>IsRangeIter h it (lo+(i:Nat)*1) ((n:Int)-(i:Nat)) 1) where
  mem:=by simp
  obj:=fun i h st b hb=>by
    have e:b=it:=by simpa using hb
    subst e
    exact ⟨_,st,fun v z=>by
      have z':Data.fields _=Data.cell v:=z
      cases z'⟩
  keep:=fun i h h' st k=>k it (by simp) _ st
  item:=by
    intro X hP hw hK hc i pins s σ H E I hf st hg
    subst hP hw hK
    obtain ⟨f0,f1,f2,f3,f4,f5⟩:=hf it (by simp)
    have W:=Walks.range (prog:=X.prog) (w:=X.w) (I.ok.hd hc) it lo 1 n
    refine W.item i s _ _ hg st fun v h' tk hv st' kk=>?_
    obtain ⟨t,rfl⟩:=hv
    have I1:Inv X pins σ H { s with heap:=h',toks:=tk }:=I.turned (fun b o hb e=>kk b o (by simpa using hb) e) f0 f1 f3 f4 f5
    refine ⟨_,rfl,Zjq (s:={ s with heap:=h',toks:=tk }) (n:="range_iterator") st' rfl rfl (by decide) ⟨.int (lo+i),H,I1,⟨t,?_⟩,⟨rfl,rfl⟩,st',fun b hb=>(hf b hb).1⟩⟩
    rw [Int.mul_one]
  done:=by
    intro X hP hw hK hc i pins s σ H E I hf st hg
    subst hP hw hK
    obtain ⟨f0,f1,f2,f3,f4,f5⟩:=hf it (by simp)
    exact wpAny_pyNext_range_end (I.ok.hd hc) st (by have:n<=i:=hg; omega) fun h' eb=>⟨rfl,I.turned (t':=s.toks) (fun b o hb e=>eb b o hb e) f0 f1 f3 f4 f5⟩
  self:=fun _ _ _ _ _ st h=>wpAny_pyIter_rangeiter st h
section
variable {X:Cx} {tg:Expr}
theorem ZdL {pins:List (Addr×Obj)} {σ:St} {H:Hp} {s:Shared} {R:It->Hp->Prop} {E:Value->Shared->Prop} {lo hi:Int} {t u v:Tok} {tk:Nat} (I:Inv X pins σ H s) (h1:-(2 ^ 62)<=lo) (h2:lo < 2 ^ 62) (h3:-(2 ^ 62)<=hi) (h4:hi < 2 ^ 62)
    (q:R (Itr lo (hi-lo).toNat) H):wpAny (model X.prog X.w) X.A (pyIter (.ref s.heap.objs.size)) (PIE X pins σ tg R) E { s with heap:=s.heap.push { cls:=.type "range",data:=.fields #[.int lo t,.int hi u,.int 1 v] },toks:=tk }:=by
  refine wpAny_pyIter_range (IsRange.new ..) (small_one h1 h2 h3 h4) ?_
  have I1:Inv X pins σ H { s with heap:=s.heap.push { cls:=.type "range",data:=.fields #[.int lo t,.int hi u,.int 1 v] },toks:=tk }:=I.kept fun b o e=>Heap.get?_push_of_some _ e
  refine ⟨(s.heap.push { cls:=.type "range",data:=.fields #[.int lo t,.int hi u,.int 1 v] }).objs.size,[(s.heap.push { cls:=.type "range",data:=.fields #[.int lo t,.int hi u,.int 1 v] }).objs.size],_,_,H,rfl,
    I1.kept (t':=tk) fun b o e=>Heap.get?_push_of_some _ e,Zeb _ lo (hi-lo).toNat,?_,fun b hb=>?_,q⟩
  · have e1:lo+((0:Nat):Int)*1=lo:=by simp
    have e2:(((hi-lo).toNat:Nat):Int)-((0:Nat):Int)=Builtin.Range.rangeSize lo hi 1:=by rw [rangeSize_one]; split <;> omega
    show IsRangeIter _ _ (lo+((0:Nat):Int)*1) ((((hi-lo).toNat:Nat):Int)-((0:Nat):Int)) 1
    rw [e1,e2]
    exact Heap.get?_push_size _ rfl
  · have e:b=(s.heap.push { cls:=.type "range",data:=.fields #[.int lo t,.int hi u,.int 1 v] }).objs.size:=by simpa using hb
    subst e
    exact I1.fpOk (Nat.le_refl _) (I1.hok.fresh (Nat.le_refl _))
noncomputable def Zl7 (ta:TA):TI:=fun σ H R=>ta σ H fun vs H1=>∃ j:Int,vs=[.int j]/\-(2 ^ 62)<=j/\j < 2 ^ 62/\R (Itr 0 j.toNat) H1
noncomputable def Zl6 (ta:TA):TI:=fun σ H R=>ta σ H fun vs H1=>∃ i j:Int,vs=[.int i,.int j]/\(-(2 ^ 62)<=i/\i < 2 ^ 62/\-(2 ^ 62)<=j/\j < 2 ^ 62)/\R (Itr i (j-i).toNat) H1
theorem ZfG {a:Expr} {ta:TA} {p pos:Pos} (hg:Gl X "range") (hm:X.mg "range"=none) (ha:PA X [a] ta) (hs:starEach [a] X.env=[(false,eval a X.env)]:=by rfl):PI X tg (.Call (.Name "range" p) [a] [] pos) (Zl7 ta):=by
  intro pins s σ H R I h
  refine Call_ (Um I hg hm boot_range (PyProof.Rows.callWith_type1 (thn (ha pos pins s σ H _ I h) fun us s1 zq=>?_) hs rfl))
  obtain ⟨vs,H1,I1,r1,q1⟩:=zq
  obtain ⟨j,e,q1,q2,q⟩:=q1
  subst e
  cases r1 with
  | cons r rr=>
    cases rr
    obtain ⟨t,rfl⟩:=r
    exact call_range_1 (ZdL I1 (by omega) (by omega) q1 q2 (by simpa using q))
theorem ZfF {a b:Expr} {ta:TA} {p pos:Pos} (hg:Gl X "range") (hm:X.mg "range"=none) (ha:PA X [a,b] ta) (hs:starEach [a,b] X.env=[(false,eval a X.env),(false,eval b X.env)]:=by rfl) (hs2:starEach [b] X.env=[(false,eval b X.env)]:=by rfl) :
    PI X tg (.Call (.Name "range" p) [a,b] [] pos) (Zl6 ta):=by
  intro pins s σ H R I h
  refine Call_ (Um I hg hm boot_range (PyProof.Rows.callWith_type1 (thn (ha pos pins s σ H _ I h) fun us s1 zq=>?_) (by rw [hs,hs2]) (by rw [hs2]; rfl)))
  obtain ⟨vs,H1,I1,r1,q1⟩:=zq
  obtain ⟨i,j,e,⟨q1,q2,q3,q4⟩,q⟩:=q1
  subst e
  cases r1 with
  | cons r rr=>
    cases rr with
    | cons r' rr=>
      cases rr
      obtain ⟨t,rfl⟩:=r
      obtain ⟨t',rfl⟩:=r'
      exact call_range_2 (ZdL I1 q1 q2 q3 q4 q)
noncomputable def Zm3 (wi:TI) (g:TG) (tb:TS):TS:=fun D σ H=>wi σ H fun J H1=>∃ W:Nat->Nat->St->Hp->Prop,(∃ m,W 0 m σ H1)/\∀ i m σ H,W i m σ H ->
  (J.stop i H/\D.nx σ H)\/(J.go i H/\∃ N:St->Hp->Prop,(∀ σ' H',N σ' H'->∃ m',m' < m/\W (i+1) m' σ' H')/\∀ x H',J.yld i H x H'->g x σ H' fun σ2 H2=>tb { D with nx:=N,ct:=N,bk:=D.nx } σ2 H2)
noncomputable def Zb0 (fp:List Addr) (h:Heap):List (Addr×Obj):=fp.filterMap fun b=>(h.get? b).map fun o=>(b,o)
theorem Ua {fp:List Addr} {h:Heap} {b:Addr} {o:Obj} (hb:b∈fp) (e:h.get? b=some o):(b,o)∈Zb0 fp h:=List.mem_filterMap.mpr ⟨b,hb,by rw [e]; rfl⟩
theorem ZfQ {fp:List Addr} {h:Heap} {p:Addr×Obj} (hp:p∈Zb0 fp h):p.1∈fp/\h.get? p.1=some p.2:=by
  obtain ⟨b,hb,e⟩:=List.mem_filterMap.mp hp
  cases q:h.get? b with
  | none=>rw [q] at e; cases e
  | some o=>
    rw [q] at e
    have e':(b,o)=p:=Option.some.inj e
    subst e'
    exact ⟨hb,q⟩
theorem Inv.pinned {pins:List (Addr×Obj)} {σ:St} {H:Hp} {s:Shared} {fp:List Addr} (I:Inv X pins σ H s) (hf:∀ b∈fp,ZcT X pins H b) (ho:∀ b∈fp,∃ o,s.heap.get? b=some o/\∀ v,o.data≠.cell v):Inv X (pins++Zb0 fp s.heap) σ H s:=
  I.pins_of fun p hp=>(List.mem_append.mp hp).elim (fun z=>I.pin p (List.mem_append_right _ z)) fun z=>by
    obtain ⟨hb,e⟩:=ZfQ z
    obtain ⟨f0,f1,f2,_⟩:=hf p.1 hb
    obtain ⟨o,e',d⟩:=ho p.1 hb
    rw [e] at e'; cases e'
    exact ⟨e,f0,f1,f2,d⟩
theorem Inv.unpinned {pins pl:List (Addr×Obj)} {σ:St} {H:Hp} {s:Shared} (I:Inv X (pins++pl) σ H s):Inv X pins σ H s:=I.pins_of fun p hp=>I.pin p (List.mem_append_right _ (List.mem_append_left _ hp))
theorem Zkk {iter:Expr} {body:List Stmt} {wi:TI} {g:TG} {tb:TS} {pos:Pos} (hp:PassesOwn (model X.prog X.w) X.A X.env X.xe) (hc:X.calm=true) (hi:PI X tg iter wi) (hg:PG X tg g) (hb:PSs X body tb)
    (hs:∀ x,foldedSetIterable iter X.env x=pure x:=by intro _; rfl):PS X (.For tg iter body [] pos) (Zm3 wi g tb):=by
  intro pins s σ H D I h
  refine wpAny_For (thn (hi pins s σ H _ I h) fun v s1 h1=>thn h1 fun itv s2 h2=>?_) hs
  obtain ⟨it,fp,tn,J,H2,e,I2,T,st2,f2,W,⟨m0,w0⟩,turn⟩:=h2
  subst e
  have stat:∀ {H':Hp},(∀ b∈fp,H' b=none)->∀ b∈fp,ZcT X pins H' b:=fun hn b hb=>⟨hn b hb,(f2 b hb).2⟩
  refine codeAny_forLoop_any (fun n s'=>∃ i σ' H',Inv X pins σ' H' s'/\tn i s'.heap/\(∀ b∈fp,H' b=none)/\W i n σ' H') ?_ m0 ⟨0,σ,H2,I2,st2,fun b hb=>(f2 b hb).1,w0⟩
  rintro n s3 ⟨i,σ3,H3,I3,st3,fr3,w3⟩
  rcases turn i n σ3 H3 w3 with ⟨stop,qn⟩ | ⟨go,N,hN,step⟩
  · refine wpAny_passesOwn hp (thn (T.done X rfl rfl rfl hc i pins s3 σ3 H3 X.xe I3 (stat fr3) st3 stop) fun r s4 zq=>?_)
    obtain ⟨hr,I4⟩:=zq
    subst hr
    exact wpAny_execs_nil ⟨σ3,H3,I4,qn⟩
  · refine wpAny_passesOwn hp (thn (T.item X rfl rfl rfl hc i pins s3 σ3 H3 X.xe I3 (stat fr3) st3 go) fun r s4 zq=>?_)
    obtain ⟨u,hr,h4⟩:=zq
    subst hr
    refine wpAny_passesOwn hp (thn h4 fun _ s5 zq=>?_)
    obtain ⟨x,H5,I5,r5,y5,st5,fr5⟩:=zq
    have I5':=I5.pinned (stat fr5) (T.obj _ _ st5)
    refine wpAny_passesOwn hp (thn (hg _ s5 σ3 H5 x u _ I5' r5 (step x H5 y5)) fun _ s6 zq=>?_)
    obtain ⟨σ6,H6,I6,q6⟩:=zq
    refine wpAny_passesOwn hp (thn (hb _ s6 σ6 H6 _ I6 q6) fun f s7 q7=>?_)
    have again:∀ {σ7:St} {H7:Hp},Inv X (pins++Zb0 fp s5.heap) σ7 H7 s7->N σ7 H7->∃ m,m < n/\∃ i σ' H',Inv X pins σ' H' s7/\tn i s7.heap/\(∀ b∈fp,H' b=none)/\W i m σ' H':=fun {σ7 H7} I7 n7=>by
      obtain ⟨m',hm,w7⟩:=hN σ7 H7 n7
      refine ⟨m',hm,i+1,σ7,H7,I7.unpinned,T.keep _ _ _ st5 fun b hb o e=>(I7.pin (b,o) (List.mem_append_right _ (List.mem_append_right _ (Ua hb e)))).1,fun b hb=>?_,w7⟩
      obtain ⟨o,e,d⟩:=T.obj _ _ st5 b hb
      exact (I7.pin (b,o) (List.mem_append_right _ (List.mem_append_right _ (Ua hb e)))).2.1
    cases f with
    | next=>obtain ⟨σ7,H7,I7,n7⟩:=q7; exact again I7 n7
    | cont=>obtain ⟨σ7,H7,I7,n7⟩:=q7; exact again I7 n7
    | brk=>obtain ⟨σ7,H7,I7,q7⟩:=q7; exact ⟨σ7,H7,I7.unpinned,q7⟩
    | ret v=>obtain ⟨x7,σ7,H7,I7,r7,q7⟩:=q7; exact ⟨x7,σ7,H7,I7.unpinned,r7,q7⟩
end
noncomputable abbrev R2:=V->V->Hp->VK->Prop
noncomputable def OpR (X:Cx) (f:Value->Value->Sem Value) (r:R2):Prop:=
  ∀ (pins:List (Addr×Obj)) (s:Shared) (σ:St) (H:Hp) (x y:V) (v u:Value) (Q:VK),Inv X pins σ H s->RelV x v->RelV y u->r x y H Q ->
    wpAny (model X.prog X.w) X.A (f v u) (EP X pins σ Q) X.xe s
noncomputable def UnR (X:Cx) (f:Value->Sem Value) (r:V->Hp->VK->Prop):Prop:=
  ∀ (pins:List (Addr×Obj)) (s:Shared) (σ:St) (H:Hp) (x:V) (v:Value) (Q:VK),Inv X pins σ H s->RelV x v->r x H Q ->
    wpAny (model X.prog X.w) X.A (f v) (EP X pins σ Q) X.xe s
noncomputable def W8 (X:Cx) (f:Value) (r:List V->Hp->VK->Prop):Prop:=
  ∀ (pins:List (Addr×Obj)) (s:Shared) (σ:St) (H:Hp) (xs:List V) (us:List Value) (Q:VK),Inv X pins σ H s->Vals xs us->r xs H Q ->
    wpAny (model X.prog X.w) X.A (call f us) (EP X pins σ Q) X.xe s
noncomputable def tOp (r:R2) (ta tb:TE):TE:=fun σ H Q=>ta σ H fun x H1=>tb σ H1 fun y H2=>r x y H2 Q
noncomputable def tUn (r:V->Hp->VK->Prop) (ta:TE):TE:=fun σ H Q=>ta σ H fun x H1=>r x H1 Q
noncomputable def rI (C:Int->Int->Prop) (g:Int->Int->V):R2:=fun x y H Q=>∃ i j,x=.int i/\y=.int j/\C i j/\Q (g i j) H
noncomputable def rI0 (g:Int->Int->V):R2:=fun x y H Q=>∃ i j,x=.int i/\y=.int j/\Q (g i j) H
noncomputable def rU (g:Int->V):V->Hp->VK->Prop:=fun x H Q=>∃ i,x=.int i/\Q (g i) H
section
variable {X:Cx} {a b c:Expr} {ta tb tc:TE} {pos:Pos}
theorem Zml (ha:PE X a ta) (hb:PE X b tb) {pins:List (Addr×Obj)} {s:Shared} {σ:St} {H:Hp} {R:V->V->Hp->Prop} (I:Inv X pins σ H s)
    (h:ta σ H fun x H1=>tb σ H1 fun y H2=>R x y H2) {Q:Value->Shared->Prop} {f:Value->Value->Sem Value}
    (hf:∀ v u s2 x y H2,Inv X pins σ H2 s2->RelV x v->RelV y u->R x y H2->wpAny (model X.prog X.w) X.A (f v u) Q X.xe s2) :
    wpAny (model X.prog X.w) X.A (eval a X.env) (fun v s₁=>wpAny (model X.prog X.w) X.A (eval b X.env) (fun u s₂=>wpAny (model X.prog X.w) X.A (f v u) Q X.xe s₂) X.xe s₁) X.xe s:=by
  refine thn (ha pins s σ H _ I h) fun v s1 zq=>?_
  obtain ⟨x,H1,I1,r1,q1⟩:=zq
  refine thn (hb pins s1 σ H1 _ I1 q1) fun u s2 zq=>?_
  obtain ⟨y,H2,I2,r2,q2⟩:=zq
  exact hf v u s2 x y H2 I2 r1 r2 q2
theorem ZlR {op:Operator} {r:R2} (ho:OpR X (binaryOp op) r) (ha:PE X a ta) (hb:PE X b tb):PE X (.BinOp a op b pos) (tOp r ta tb):=by
  intro pins s σ H Q I h
  exact wpAny_BinOp (Zml ha hb I h fun v u s2 x y H2 I2 rx ry q=>ho pins s2 σ H2 x y v u Q I2 rx ry q)
theorem Zko {op:UnaryOp} {r:V->Hp->VK->Prop} (ho:UnR X (unaryOp op) r) (ha:PE X a ta):PE X (.UnaryOp op a pos) (tUn r ta):=by
  intro pins s σ H Q I h
  exact UnaryOp_ (thn (ha pins s σ H _ I h) fun v s1 ⟨x,H1,I1,r1,q1⟩=>ho pins s1 σ H1 x v Q I1 r1 q1)
theorem opI {f:Value->Value->Sem Value} {C:Int->Int->Prop} {g:Int->Int->Int}
    (rule:∀ (i j:Int) (t u:Tok) (s:Shared) (Q:Value->Shared->Prop) (E:Value->Shared->Prop),C i j->Q (.int (g i j) s.toks) { s with toks:=s.toks+1 }->wpAny (model X.prog X.w) X.A (f (.int i t) (.int j u)) Q E s) :
    OpR X f (rI C fun i j=>.int (g i j)):=by
  intro pins s σ H x y v u Q I rx ry h
  obtain ⟨i,j,rfl,rfl,hc,q⟩:=h
  obtain ⟨t,rfl⟩:=rx
  obtain ⟨t',rfl⟩:=ry
  exact rule i j t t' s _ _ hc ⟨.int (g i j),H,I.tok _,⟨_,rfl⟩,q⟩
theorem Zmz {f:Value->Value->Sem Value} {g:Int->Int->Int}
    (rule:∀ (i j:Int) (t u:Tok) (s:Shared) (Q:Value->Shared->Prop) (E:Value->Shared->Prop),Q (.int (g i j) s.toks) { s with toks:=s.toks+1 }->wpAny (model X.prog X.w) X.A (f (.int i t) (.int j u)) Q E s) :
    OpR X f (rI0 fun i j=>.int (g i j)):=by
  intro pins s σ H x y v u Q I rx ry h
  obtain ⟨i,j,rfl,rfl,q⟩:=h
  obtain ⟨t,rfl⟩:=rx
  obtain ⟨t',rfl⟩:=ry
  exact rule i j t t' s _ _ ⟨.int (g i j),H,I.tok _,⟨_,rfl⟩,q⟩
theorem Zln {f:Value->Value->Sem Value} {g:Int->Int->Bool}
    (rule:∀ (i j:Int) (t u:Tok) (s:Shared) (Q:Value->Shared->Prop) (E:Value->Shared->Prop),Q (.bool (g i j)) s->wpAny (model X.prog X.w) X.A (f (.int i t) (.int j u)) Q E s) :
    OpR X f (rI0 fun i j=>.bl (g i j)):=by
  intro pins s σ H x y v u Q I rx ry h
  obtain ⟨i,j,rfl,rfl,q⟩:=h
  obtain ⟨t,rfl⟩:=rx
  obtain ⟨t',rfl⟩:=ry
  exact rule i j t t' s _ _ ⟨.bl (g i j),H,I,rfl,q⟩
noncomputable def ZnI (i j:Int):Prop:=0 < j/\j < 1073741824
noncomputable def CMul (i j:Int):Prop:=(-(2 ^ 64) < i/\i < 2 ^ 64)\/(-(2 ^ 64) < j/\j < 2 ^ 64)
theorem CMul.ok {i j:Int} (h:CMul i j):IntMulOk i j:=by
  rcases h with ⟨h1,h2⟩ | ⟨h1,h2⟩
  · exact .of_left (intBits_le_64 h1 h2)
  · exact .of_right (intBits_le_64 h1 h2)
theorem Zkx:OpR X (binaryOp .Add) (rI0 fun i j=>.int (i+j)):=Zmz fun _ _ _ _ _ _ _ q=>add_int q
theorem Zku:OpR X (binaryOp .Sub) (rI0 fun i j=>.int (i-j)):=Zmz fun _ _ _ _ _ _ _ q=>sub_int q
theorem Zkv:OpR X (binaryOp .Mult) (rI CMul fun i j=>.int (i*j)):=opI fun _ _ _ _ _ _ _ hc q=>mul_int q hc.ok
theorem Zi2:OpR X (binaryOp .FloorDiv) (rI ZnI fun i j=>.int (i / j)):=opI fun i j _ _ _ _ _ hc q=>by
  have h1:(0:Int) < j:=hc.1
  have h2:j < 1073741824:=hc.2
  exact floordiv_int (by omega) (by rw [Int.fdiv_eq_ediv_of_nonneg i (by omega)]; exact q) (.inl (PyProof.noPylong_small (by omega)))
theorem Zkw:OpR X (binaryOp .Mod) (rI (fun _ j=>0 < j) fun i j=>.int (i % j)):=opI fun i j _ _ _ _ _ hc q=>by
  have h1:(0:Int) < j:=hc
  exact mod_int' (by omega) (by rw [Int.fmod_eq_emod_of_nonneg i (by omega)]; exact q)
theorem unI {f:Value->Sem Value} {g:Int->Int}
    (rule:∀ (i:Int) (t:Tok) (s:Shared) (Q:Value->Shared->Prop) (E:Value->Shared->Prop),Q (.int (g i) s.toks) { s with toks:=s.toks+1 }->wpAny (model X.prog X.w) X.A (f (.int i t)) Q E s) :
    UnR X f (rU fun i=>.int (g i)):=by
  intro pins s σ H x v Q I rx h
  obtain ⟨i,rfl,q⟩:=h
  obtain ⟨t,rfl⟩:=rx
  exact rule i t s _ _ ⟨.int (g i),H,I.tok _,⟨_,rfl⟩,q⟩
theorem ZhR:UnR X (unaryOp .USub) (rU fun i=>.int (-i)):=unI fun _ _ _ _ _ q=>neg_int q
end
section
variable {X:Cx} {a b c:Expr} {ta tb tc:TE} {pos:Pos}
theorem ZlU:OpR X (compareOp .Lt) (rI0 fun i j=>.bl (decide (i < j))):=Zln fun _ _ _ _ _ _ _ q=>lt_int q
theorem ZlV:OpR X (compareOp .LtE) (rI0 fun i j=>.bl (decide (i<=j))):=Zln fun _ _ _ _ _ _ _ q=>le_int q
theorem ZlW:OpR X (compareOp .Gt) (rI0 fun i j=>.bl (decide (j < i))):=Zln fun _ _ _ _ _ _ _ q=>gt_int q
theorem ZlX:OpR X (compareOp .GtE) (rI0 fun i j=>.bl (decide (j<=i))):=Zln fun _ _ _ _ _ _ _ q=>ge_int q
theorem ZY (b:Expr) {op:CmpOp} (h:op≠.In:=by decide) (h2:op≠.NotIn:=by decide):behindInMarks op b=false:=by
  have e1:(op==CmpOp.In)=false:=by cases op <;> first | rfl | exact absurd rfl h
  have e2:(op==CmpOp.NotIn)=false:=by cases op <;> first | rfl | exact absurd rfl h2
  cases b <;> simp [behindInMarks,e1,e2]
theorem ZiZ {op:CmpOp} {r:R2} (ho:OpR X (compareOp op) r) (ha:PE X a ta) (hb:PE X b tb) (hm:behindInMarks op b=false):PE X (.Compare a [op] [b] pos) (tOp r ta tb):=by
  intro pins s σ H Q I h
  exact wpAny_Compare1 (Zml ha hb I h fun v u s2 x y H2 I2 rx ry q=>ho pins s2 σ H2 x y v u Q I2 rx ry q) hm
noncomputable def Zj0 (t:TE):TT:=fun σ H Q=>t σ H fun x H'=>∃ k,x=.bl k/\Q k H'
theorem ZiO {op:CmpOp} {r:R2} (ho:OpR X (compareOp op) r) (ha:PE X a ta) (hb:PE X b tb) (hm:behindInMarks op b=false):PT X (.Compare a [op] [b] pos) (Zj0 (tOp r ta tb)):=by
  intro pins s σ H Q I h
  refine wpAny_isTrue_Compare1 (thn (ha pins s σ H _ I h) fun v s1 ⟨x,H1,I1,r1,q1⟩=>thn (hb pins s1 σ H1 _ I1 q1) fun u s2 ⟨y,H2,I2,r2,q2⟩=>
    thn (ho pins s2 σ H2 x y v u _ I2 r1 r2 q2) fun c s3 ⟨z,H3,I3,r3,k,e,q3⟩=>?_) hm
  subst e
  cases r3
  exact wpAny_truthy_bool ⟨H3,I3,q3⟩
noncomputable def Zfe (r r':R2) (ta tb tc:TE):TE:=fun σ H Q=>ta σ H fun x H1=>tb σ H1 fun y H2=>r x y H2 fun z H3=>∃ k,z=.bl k /\
  (if k=true then tc σ H3 fun w' H4=>r' y w' H4 Q else Q (.bl false) H3)
theorem Zhj {op op':CmpOp} {r r':R2} (ho:OpR X (compareOp op) r) (ho':OpR X (compareOp op') r') (ha:PE X a ta) (hb:PE X b tb) (hc:PE X c tc)
    (hm:lastMarks [op,op'] [b,c]=false:=by with_unfolding_all rfl):PE X (.Compare a [op,op'] [b,c] pos) (Zfe r r' ta tb tc):=by
  intro pins s σ H Q I h
  refine Compare_chain (thn (ha pins s σ H _ I h) fun v s1 ⟨x,H1,I1,r1,q1⟩=>chain_link (thn (hb pins s1 σ H1 _ I1 q1) fun u s2 ⟨y,H2,I2,r2,q2⟩=>
    thn (ho pins s2 σ H2 x y v u _ I2 r1 r2 q2) fun d s3 ⟨z,H3,I3,r3,k,e,q3⟩=>?_)) hm
  subst e
  cases r3
  refine wpAny_truthy_bool ?_
  cases k with
  | false=>exact ite_ff ⟨.bl false,H3,I3,rfl,q3⟩
  | true=>exact ite_tt (chain_last (thn (hc pins s3 σ H3 _ I3 q3) fun w' s4 ⟨z',H4,I4,r4,q4⟩=>ho' pins s4 σ H4 y z' u w' Q I4 r2 r4 q4))
theorem Zhd {op op':CmpOp} {r r':R2} (ho:OpR X (compareOp op) r) (ho':OpR X (compareOp op') r') (ha:PE X a ta) (hb:PE X b tb) (hc:PE X c tc)
    (hm:lastMarks [op,op'] [b,c]=false:=by with_unfolding_all rfl):PT X (.Compare a [op,op'] [b,c] pos) (Zj0 (Zfe r r' ta tb tc)):=by
  intro pins s σ H Q I h
  refine isTrue_chain (thn (ha pins s σ H _ I h) fun v s1 ⟨x,H1,I1,r1,q1⟩=>test_link (thn (hb pins s1 σ H1 _ I1 q1) fun u s2 ⟨y,H2,I2,r2,q2⟩=>
    thn (ho pins s2 σ H2 x y v u _ I2 r1 r2 q2) fun d s3 ⟨z,H3,I3,r3,k,e,q3⟩=>?_)) hm
  subst e
  cases r3
  refine wpAny_truthy_bool ?_
  cases k with
  | false=>
    obtain ⟨k',e',q'⟩:=q3
    cases e'
    exact ite_ff ⟨H3,I3,q'⟩
  | true=>
    refine ite_tt (test_last (thn (hc pins s3 σ H3 _ I3 q3) fun w' s4 ⟨z',H4,I4,r4,q4⟩=>thn (ho' pins s4 σ H4 y z' u w' _ I4 r2 r4 q4) fun d' s5 zq=>?_))
    obtain ⟨z2,H5,I5,r5,k2,e2,q5⟩:=zq
    subst e2
    cases r5
    exact wpAny_truthy_bool ⟨H5,I5,q5⟩
theorem Zcb:(sizeLine:Nat) < 2 ^ 63:=by rw [sizeLine_eq]; decide
theorem Zeq:OpR X (binaryOp .Add) (fun x y H Q=>∃ i j,x=.str i/\y=.str j/\i.length+j.length<=sizeLine/\Q (.str (i++j)) H):=by
  intro pins s σ H x y v u Q I rx ry h
  obtain ⟨i,j,rfl,rfl,hz,q⟩:=h
  obtain ⟨t,rfl⟩:=rx
  obtain ⟨t',rfl⟩:=ry
  exact add_str (fun t' tk=>⟨.str (i++j),H,I.tok _,⟨_,rfl⟩,q⟩) hz
theorem ZcU {x:V} {us:List Value} (r:Vals [x] us):∃ u,us=[u]/\RelV x u:=by
  cases r with
  | cons r1 r2=>cases r2; exact ⟨_,rfl,r1⟩
theorem ZjX {x y:V} {us:List Value} (r:Vals [x,y] us):∃ u w',us=[u,w']/\RelV x u/\RelV y w':=by
  cases r with
  | cons r1 r2=>
    cases r2 with
    | cons r3 r4=>cases r4; exact ⟨_,_,rfl,r1,r3⟩
theorem ZgF (hc:X.calm=true):W8 X (.builtin "max") (fun xs H Q=>∃ i j,xs=[.int i,.int j]/\Q (.int (if j > i then j else i)) H):=by
  intro pins s σ H xs us Q I r h
  obtain ⟨i,j,rfl,q⟩:=h
  obtain ⟨u,w',rfl,⟨t,rfl⟩,⟨t',rfl⟩⟩:=ZjX r
  refine max_two_ints (I.ok.hd hc) fun h' tk k=>⟨_,H,I.kept k,?_,q⟩
  by_cases hj:j > i
  · rw [if_pos hj,if_pos hj]; exact ⟨_,rfl⟩
  · rw [if_neg hj,if_neg hj]; exact ⟨_,rfl⟩
theorem ZgE (hc:X.calm=true):W8 X (.builtin "min") (fun xs H Q=>∃ i j,xs=[.int i,.int j]/\Q (.int (if j < i then j else i)) H):=by
  intro pins s σ H xs us Q I r h
  obtain ⟨i,j,rfl,q⟩:=h
  obtain ⟨u,w',rfl,⟨t,rfl⟩,⟨t',rfl⟩⟩:=ZjX r
  refine min_two_ints (I.ok.hd hc) fun h' tk k=>⟨_,H,I.kept k,?_,q⟩
  by_cases hj:j < i
  · rw [if_pos hj,if_pos hj]; exact ⟨_,rfl⟩
  · rw [if_neg hj,if_neg hj]; exact ⟨_,rfl⟩
theorem Zcu:W8 X (.type "str") (fun xs H Q=>∃ i,xs=[.int i]/\i.natAbs.log2 < 1920/\Q (.str (toString i)) H):=by
  intro pins s σ H xs us Q I r h
  obtain ⟨i,rfl,hz,q⟩:=h
  obtain ⟨u,rfl,t,rfl⟩:=ZcU r
  exact PySem.P.str_of_int hz ⟨.str _,H,I.tok _,⟨_,rfl⟩,q⟩
end
structure ObjM (h:Heap) (x dx C:Addr) (mA:Str->Option Value):Prop where
  obj:h.get? x=some (PySem.W.instObj C dx)
  ns:h.Ns1 dx mA
  ne:dx≠x
theorem Zf1 {h:Heap} {dx:Addr} {mA:Str->Option Value} (n:h.Ns1 dx mA):∃ od,h.get? dx=some od/\∀ name,PySem.W.lookIn name od=some (mA name):=by
  obtain ⟨o,es,ep,ho,hd,hk,_,hm⟩:=n
  refine ⟨o,ho,fun name=>?_⟩
  have e:=hm name
  unfold nsFind findBy at e
  rw [<-Array.find?_toList] at e
  unfold PySem.W.lookIn
  rw [hd]
  dsimp only
  split
  · rename_i y q
    rw [q] at e
    exact congrArg some e
  · rename_i q
    rw [q] at e
    have a:es.toList.any (·.refKey)=false:=by
      rw [List.any_eq_false]
      intro y hy
      obtain ⟨z,t,hkey⟩:=hk y (Array.mem_toList_iff.mp hy)
      simp [DictEntry.refKey,hkey]
    have a':¬ es.toList.any (·.refKey)=true:=by rw [a]; exact Bool.false_ne_true
    rw [if_neg a']
    exact congrArg some e
theorem ObjM.look {h:Heap} {x dx C:Addr} {mA:Str->Option Value} (I:ObjM h x dx C mA):∃ od,PySem.W.InstAt h x (PySem.W.instObj C dx) C (some od)/\∀ name,PySem.W.lookIn name od=some (mA name):=
  let ⟨od,ho,hl⟩:=Zf1 I.ns
  ⟨od,⟨I.obj,rfl,rfl,ho⟩,hl⟩
section
variable {prog:Program} {w:World} {A:Around} {E:Value->Shared->Prop} {s:Shared} {K:PySem.W.Frag} {x dx C f:Addr} {mA:Str->Option Value} {name:Str} {v:Value}
end
section
variable {P:Program} {w:World} {H H':Hp} {h h':Heap} {a C dx:Addr} {fs fs':List (Str×V)}
theorem Zjj (hok:HOk P w H h) (e:H a=some (.ins C dx fs)):∃ mA,ObjM h a dx C mA/\(∀ f,Zmn (fs.lookup f) (mA f))/\PySem.Within mA (fs.map (·.1))/\fs.length<=1000/\H dx=some (.own a):=by
  obtain ⟨d,z,ne,ob,mA,n,r,q⟩:=(show ObjOk P w H h a (.ins C dx fs) from hok a _ e)
  exact ⟨mA,⟨ob,n,ne⟩,r,q,z,d⟩
end
structure Cls (K:PySem.W.Frag) (C:Addr):Prop where
  pg:PySem.W.plainGet K C Str.empty=true
  hd:PySem.W.hasDictIn K C=true
  po:PySem.W.plainOver K C=true
  sa:PySem.W.findIn K (.ref C) "__setattr__"=some (some (.builtin "object.__setattr__"))
theorem Cls.get {K:PySem.W.Frag} {C:Addr} (c:Cls K C) (f:Str):PySem.W.plainGet K C f=true:=c.pg
section
variable {X:Cx} {pins:List (Addr×Obj)} {σ:St} {H:Hp} {s:Shared} {a C dx:Addr} {fs:List (Str×V)} {f:Str} {v:V} {A:Around} {E:Value->Shared->Prop}
end
section
variable {X:Cx} {o e value:Expr} {f:Str} {pos pos' tpos:Pos} {ta tv:TE}
end
section
variable {X:Cx} {pins:List (Addr×Obj)} {σ:St} {H:Hp} {s:Shared} {A:Around} {E:Value->Shared->Prop} {Q:Value->Shared->Prop} {c:Value} {b:Bool}
inductive Ze2 (K:PySem.W.Frag) (H:Hp):V->Value->Prop where
  | non:Ze2 K H .non (.type "NoneType")
  | bl (x:Bool):Ze2 K H (.bl x) (.type "bool")
  | int (i:Int):Ze2 K H (.int i) (.type "int")
  | str (x:Str):Ze2 K H (.str x) (.type "str")
  | flt (x:UInt64):Ze2 K H (.flt x) (.type "float")
  | lst {a:Addr} {xs:List V} (e:H a=some (.lst xs)):Ze2 K H (.ref a) (.type "list")
  | frz {a:Addr} {o:Obj} {xs:List V} (e:H a=some (.frz o (.lst xs))):Ze2 K H (.ref a) (.type "list")
  | tup {a:Addr} {xs:List V} (e:H a=some (.tup xs)):Ze2 K H (.ref a) (.type "tuple")
  | dK {a:Addr} {kvs:List (Key×V)} (e:H a=some (.dK kvs)):Ze2 K H (.ref a) (.type "dict")
  | dT {a:Addr} {kvs:List (List Key×V)} (e:H a=some (.dT kvs)):Ze2 K H (.ref a) (.type "dict")
  | ins {a C dx:Addr} {fs:List (Str×V)} (e:H a=some (.ins C dx fs)) (cl:Cls K C) (ha:PySem.W.findIn K (.ref C) "__class__"=some (some (.builtin "object.__class__")))
      (hn:PySem.W.specialIn K (.builtin "object.__class__") "__get__"=some (some (.builtin "getset_descriptor.__get__"))) (htk:PySem.W.takesIn K (.builtin "object.__class__")=some true)
      (hm:PySem.W.mroIn K C (.type "object")=some true):Ze2 K H (.ref a) (.ref C)
theorem U4 {x:V} {u t:Value} (I:Inv X pins σ H s) (rx:RelV x u) (ty:Ze2 X.K H x t) (e:PySem.W.kitOne X.K t c=some b) (h:∀ tk,Q (.bool b) { s with toks:=tk }) :
    wpAny (model X.prog X.w) A (call (.builtin "isinstance") [u,c]) Q E s:=by
  cases ty with
  | non=>cases (show u=Value.none from rx); exact PySem.W.kia_one PySem.W.kitx_none I.kIn True.intro e (fun z=>nomatch z) h
  | bl y=>cases (show u=Value.bool y from rx); exact PySem.W.kia_one PySem.W.kitx_bool I.kIn True.intro e (fun z=>nomatch z) h
  | int i=>obtain ⟨t,q⟩:=(show ∃ t,u=Value.int i t from rx); cases q; exact PySem.W.kia_one PySem.W.kitx_int I.kIn True.intro e (fun z=>nomatch z) h
  | str y=>obtain ⟨t,q⟩:=(show ∃ t,u=Value.str y t from rx); cases q; exact PySem.W.kia_one PySem.W.kitx_str I.kIn True.intro e (fun z=>nomatch z) h
  | flt y=>obtain ⟨t,q⟩:=(show ∃ t,u=Value.float y t from rx); cases q; exact PySem.W.kia_one PySem.W.kitx_float I.kIn True.intro e (fun z=>nomatch z) h
  | @lst a xs ea=>
    cases (show u=Value.ref a from rx)
    obtain ⟨_,_,n,_,h1⟩:=(show ObjOk X.prog X.w H s.heap a (.lst xs) from I.hok a _ ea)
    exact PySem.W.kia_one PySem.W.kitx_list I.kIn ⟨_,h1,rfl⟩ e (fun z=>nomatch z) h
  | @frz a ob xs ea=>
    cases (show u=Value.ref a from rx)
    obtain ⟨_,_,_,n,_,h1⟩:=(show ObjOk X.prog X.w H s.heap a (.frz ob (.lst xs)) from I.hok a _ ea)
    exact PySem.W.kia_one PySem.W.kitx_list I.kIn ⟨_,h1,rfl⟩ e (fun z=>nomatch z) h
  | @tup a xs ea=>
    cases (show u=Value.ref a from rx)
    obtain ⟨_,_,_,p⟩:=(show ObjOk X.prog X.w H s.heap a (.tup xs) from I.hok a _ ea)
    obtain ⟨o,h1,h2,_⟩:=p
    exact PySem.W.kia_one PySem.W.kitx_tuple I.kIn ⟨o,h1,h2⟩ e (fun z=>nomatch z) h
  | @dK a kvs ea=>
    cases (show u=Value.ref a from rx)
    obtain ⟨_,_,vs,_,p⟩:=(show ObjOk X.prog X.w H s.heap a (.dK kvs) from I.hok a _ ea)
    obtain ⟨o,es,ep,h1,h2,_⟩:=p
    exact PySem.W.kia_one PySem.W.kitx_dict I.kIn ⟨o,h1,h2.1⟩ e (fun z=>nomatch z) h
  | @dT a kvs ea=>
    cases (show u=Value.ref a from rx)
    obtain ⟨_,_,xs,_,o,es,ep,h1,h2,_⟩:=(show ObjOk X.prog X.w H s.heap a (.dT kvs) from I.hok a _ ea)
    exact PySem.W.kia_one PySem.W.kitx_dict I.kIn ⟨o,h1,h2.1⟩ e (fun z=>nomatch z) h
  | @ins a C dx fs ea cl ha hn htk hm=>
    cases (show u=Value.ref a from rx)
    obtain ⟨mA,O,_⟩:=Zjj I.hok ea
    obtain ⟨od,J,_⟩:=O.look
    exact PySem.W.kia_one (PySem.W.kitx_own (cl.get _) cl.hd ha hn htk hm) I.kIn J e (fun z=>nomatch z) h
end
structure Room (k:Nat) (A:Around):Prop where
  hd:A.handled=none
  dp:A.depth+3*k+5 < recursionLimit
  un:A.units+16*k+200 < cLine
theorem Room.mono {j k:Nat} {A:Around} (r:Room k A) (h:j<=k):Room j A:=⟨r.hd,by have:=r.dp; omega,by have:=r.un; omega⟩
theorem Room.deeper {k:Nat} {A:Around} (r:Room (k+1) A) (env:Env):Room k (A.deeper env):=
  ⟨r.hd,by have:=r.dp; show A.depth+1+3*k+5 < _; omega,by have:=r.un; show A.units+3+16*k+200 < _; omega⟩
theorem Room.depth {k:Nat} {A:Around} (r:Room k A):A.depth < recursionLimit:=by have:=r.dp; omega
theorem Room.units {k:Nat} {A:Around} (r:Room k A):A.units+64 < cLine:=by have:=r.un; omega
noncomputable def Zm0:TA:=fun _ H Q=>Q [] H
noncomputable def ZlH (ta:TE) (tr:TA):TA:=fun σ H Q=>ta σ H fun x H1=>tr σ H1 fun xs H2=>Q (x::xs) H2
section
variable {X:Cx} {e:Expr} {es:List Expr} {te:TE} {t:TA} {pos:Pos}
theorem VG:PA X [] Zm0:=fun _ _ _ _ H Q I h=>Calls.spliced_nil ⟨[],H,I,.nil,h⟩
theorem QA (ha:PE X e te) (hr:PA X es t) (hs:starEach (e::es) X.env=(false,eval e X.env)::starEach es X.env:=by rfl):PA X (e::es) (ZlH te t):=by
  intro pos pins s σ H Q I h
  rw [hs]
  show wpAny _ _ (spliced ((false,eval e X.env)::backTo pos (starEach es X.env))) _ _ s
  refine Calls.spliced_cons (thn (ha pins s σ H _ I h) fun u s1 zq=>?_)
  obtain ⟨x,H1,I1,r1,q1⟩:=zq
  exact thn (hr pos pins s1 σ H1 _ I1 q1) fun us s2 ⟨xs,H2,I2,r2,q2⟩=>⟨x::xs,H2,I2,.cons r1 r2,q2⟩
noncomputable def ZmV (t:TA):TE:=fun σ H Q=>t σ H fun xs H1=>xs.length<=sizeLine/\∀ p,H1 p=none->Q (.ref p) (upd H1 p (.tup xs))
noncomputable def Zm1 (t:TA):TE:=fun σ H Q=>t σ H fun xs H1=>xs.length<=sizeLine/\∀ p,H1 p=none->Q (.ref p) (upd H1 p (.lst xs))
theorem Zkp {x1} (h:PA X es t):PE X (.Tuple es x1 pos) (ZmV t):=by
  intro pins s σ H Q I hq
  refine wpAny_Tuple_spliced (thn (h pos pins s σ H _ I hq) fun us s1 ⟨xs,H1,I1,r,z,q⟩=>⟨by rw [<-r.length]; exact z,?_⟩)
  have hf:H1 s1.heap.objs.size=none:=I1.hok.fresh (Nat.le_refl _)
  refine ⟨.ref s1.heap.objs.size,upd H1 s1.heap.objs.size (.tup xs),I1.laid (t':=s1.toks) (fun b u e=>Heap.get?_push_of_some _ e) (Nat.le_refl _) ?_,rfl,q _ hf⟩
  exact ⟨z,us,r,⟨_,Heap.get?_push_size _ rfl,rfl,_,rfl⟩⟩
theorem Zkr (h:PA X es t):PE X (.List es pos) (Zm1 t):=by
  intro pins s σ H Q I hq
  refine wpAny_List_spliced (thn (h pos pins s σ H _ I hq) fun us s1 ⟨xs,H1,I1,r,z,q⟩=>⟨by rw [<-r.length]; exact z,?_⟩)
  have hf:H1 s1.heap.objs.size=none:=I1.hok.fresh (Nat.le_refl _)
  refine ⟨.ref s1.heap.objs.size,upd H1 s1.heap.objs.size (.lst xs),I1.laid (t':=s1.toks) (fun b u e=>Heap.get?_push_of_some _ e) (Nat.le_refl _) ?_,rfl,q _ hf⟩
  exact ⟨z,us,0,r,Heap.get?_push_size _ rfl⟩
end
noncomputable abbrev Sp:=List V->Hp->VK->XK->Prop
noncomputable abbrev CXT:=List Env->Hp->Shared->XK->Value->Shared->Prop
structure Zlv (P:Program) (w:World) (K:PySem.W.Frag) (mg:Str->Option Value) (base:Heap) (A:Around) (outer:List Env) (s:Shared) (H:Hp):Prop where
  frames:A.frames=some outer
  mod:Mod K mg base
  bs:∀ b o,base.get? b=some o->s.heap.get? b=some o/\H b=none
  bsz:base.objs.size<=s.heap.objs.size
  funs:s.heap.FunFrames base outer
  frf:∀ b∈frs outer,H b=none
  hok:HOk P w H s.heap
  bare:AllBare s.gens
noncomputable def CE (outer:List Env) (P:Program) (w:World) (H:Hp) (s:Shared) (Q:VK) (u:Value) (s':Shared):Prop:=
  ∃ v H',s'.os=s.os/\AllBare s'.gens/\Un (frs outer) [] H H' s.heap s'.heap/\HOk P w H' s'.heap/\RelV v u/\Q v H'
noncomputable def CR (CX:CXT) (outer:List Env) (P:Program) (w:World) (H:Hp) (s:Shared) (Q:VK) (E:XK) (r:Result) (s':Shared):Prop:=
  match r with
  | .ok (.ret u)=>CE outer P w H s Q u s'
  | .ok _=>False
  | .error e=>CX outer H s E e s'
structure ZdC (P:Program) (w:World) (K:PySem.W.Frag) (mg:Str->Option Value) (base:Heap) (CX:CXT) (k:Nat) (f:Addr) (fd:FuncData) (ps:List Str) (sp:Sp):Prop where
  len:∀ vs H Q E,sp vs H Q E->vs.length=ps.length
  run:∀ (A:Around) (outer:List Env) (s:Shared) (H:Hp) (args:Args) (us:List Value) (vs:List V) (Q:VK) (E:XK),Room k A->Zlv P w K mg base A outer s H->BindsTo s fd args (ps.zip us)->Vals vs us->sp vs H Q E ->
    codeAny (model P w) A (.call (.ref f) args) (CR CX outer P w H s Q E) s
section
variable {X:Cx} {pins:List (Addr×Obj)} {σ:St} {H:Hp} {s s':Shared}
theorem Inv.env0 (I:Inv X pins σ H s):Zlv X.prog X.w X.K X.mg X.base X.A X.stack s H:=
  ⟨I.ok.frames,I.ok.mod,I.bs,Nat.le_trans I.ok.bsz I.sz,I.stack,I.stkFree,I.hok,I.bare⟩
theorem Inv.after {Q:VK} {u:Value} (I:Inv X pins σ H s) (h:CE X.stack X.prog X.w H s Q u s'):EP X pins σ Q u s':=by
  obtain ⟨v,H',os,bare,un,hok,r,q⟩:=h
  obtain ⟨hh,g,d,t,os'⟩:=s'
  obtain rfl:os'=s.os:=os
  exact ⟨v,H',I.call (h':=hh) (g':=g) (d':=d) (t':=t) (ch:=[]) un hok bare (fun b z=>absurd z (by simp)),r,q⟩
end
noncomputable def ZlI (sp:Sp) (dvs:List V) (E:XK) (t:TA):TE:=fun σ H Q=>t σ H fun vs H1=>sp (vs++dvs) H1 Q E
noncomputable def Binds (K:PySem.W.Frag) (fd:FuncData) (ps:List Str) (ds:List Value):Prop:=
  ∀ (s:Shared) (us:List Value),K.In s.heap->(us++ds).length=ps.length->BindsTo s fd ⟨us,[]⟩ (ps.zip (us++ds))
theorem Binds.all {K:PySem.W.Frag} {fd:FuncData} {ps:List Str} (h:∀ us:List Value,us.length=ps.length->bindArgs fd ⟨us,[]⟩=pure (ps.zip us)):Binds K fd ps []:=fun s us _ hl=>by
  rw [List.append_nil] at hl ⊢
  exact .of_eq (h us hl)
noncomputable def W2 (CX:CXT) (X:Cx) (E:XK):Prop:=∀ (pins:List (Addr×Obj)) (σ:St) (H:Hp) (s:Shared) (e:Value) (s':Shared),Inv X pins σ H s->CX X.stack H s E e s'->X.xe e s'
section
variable {X:Cx} {CX:CXT} {k:Nat} {f C:Addr} {fd:FuncData} {ps:List Str} {sp:Sp} {dvs:List V} {ds:List Value} {E:XK} {x m:Str} {p pos apos:Pos} {e o:Expr} {es:List Expr} {ta:TE} {t:TA}
theorem Zkb {pins:List (Addr×Obj)} {σ:St} {H:Hp} {s:Shared} {Q:VK} {us:List Value} {vs:List V} (F:ZdC X.prog X.w X.K X.mg X.base CX k f fd ps sp) (hr:Room k X.A) (hb:Binds X.K fd ps ds) (hd:Vals dvs ds) (hx:W2 CX X E)
    (I:Inv X pins σ H s) (r:Vals vs us) (h:sp (vs++dvs) H Q E):wpAny (model X.prog X.w) X.A (call (.ref f) us) (EP X pins σ Q) X.xe s:=by
  have r2:Vals (vs++dvs) (us++ds):=r.append hd
  have hl:(us++ds).length=ps.length:=by rw [<-r2.length]; exact F.len _ _ _ _ h
  refine wpAny_call (codeAny_mono (F.run X.A X.stack s H ⟨us,[]⟩ (us++ds) (vs++dvs) Q E hr I.env0 (hb s us I.kIn hl) r2 h) fun r s' hq=>?_)
  cases r with
  | error e=>exact hx pins σ H s e s' I hq
  | ok fl=>
    cases fl with
    | ret u=>exact I.after hq
    | next=>exact False.elim hq
    | brk=>exact False.elim hq
    | cont=>exact False.elim hq
theorem Zc9 (F:ZdC X.prog X.w X.K X.mg X.base CX k f fd ps sp) (hr:Room k X.A) (hg:Gl X x) (hm:X.mg x=some (.ref f)) (hk:PySem.W.keepIn X.K (.ref f)=true) (hb:Binds X.K fd ps ds) (hd:Vals dvs ds) (hx:W2 CX X E)
    (ha:PA X (e::es) t) (hdb:(x==("__debug__":Str))=false:=by decide) (he:starEach (e::es) X.env=(false,eval e X.env)::starEach es X.env:=by rfl) (hpl:(backTo pos (starEach es X.env)).any (·.1)=false:=by rfl) :
    PE X (.Call (.Name x p) (e::es) [] pos) (ZlI sp dvs E t):=by
  intro pins s σ H Q I h
  refine wpAny_Call_Name_kw (WI I hg hm ?_ hdb)
  refine PySem.W.callWith_K (h₀:=X.base) I.ok.mod.kin hk (thn (ha pos pins s σ H _ I h) fun us s1 ⟨vs,H1,I1,r,q⟩=>⟨I1.kIn,?_⟩) he hpl
  exact Zkb F hr hb hd hx I1 r q
end
section
variable {X:Cx} {CX:CXT} {k:Nat} {f C:Addr} {fd:FuncData} {ps ks:List Str} {sp:Sp} {E:XK} {x m:Str} {p pos apos kpos:Pos} {e o:Expr} {es:List Expr} {kws:List Keyword} {te ta:TE} {t tk:TA} {nm:Option Str}
variable {g:List Value->List Value->List Value} {gV:List V->List V->List V}
end
structure Zr (N P:List Str) (sc:Scope):Prop where
  kind:sc.kind=.function
  co:sc.isCoroutine=false
  gen:sc.isGenerator=false
  nd:N.Nodup
  pre:N.take P.length=P
  par:∀ x∈P,sc.names.lookup x=some .local\/sc.names.lookup x=some .cell
  nofree:∀ y∈sc.names,y.2≠.free
theorem Zcw {kindOf:Str->Option NameKind} {x:Str}:∀ {binds:List (Str×Value)} {m:Str->Option Value},(∀ v,(x,v) ∉ binds)->bindL kindOf binds m x=m x
  | [],_,_=>rfl
  | (n,v)::r,m,h=>by
    unfold bindL
    rw [Zcw fun w hw=>h w (List.mem_cons_of_mem _ hw)]
    split
    · have:x≠n:=by rintro rfl; exact h v List.mem_cons_self
      simp [this]
    · rfl
theorem Zcy {kindOf:Str->Option NameKind} {x:Str}:∀ {binds:List (Str×Value)} {m:Str->Option Value},(∀ v,(x,v) ∉ binds)->bindC kindOf binds m x=m x
  | [],_,_=>rfl
  | (n,v)::r,m,h=>by
    unfold bindC
    rw [Zcy fun w hw=>h w (List.mem_cons_of_mem _ hw)]
    split
    · rfl
    · have:x≠n:=by rintro rfl; exact h v List.mem_cons_self
      simp [this]
theorem Zcx {kindOf:Str->Option NameKind} {x:Str} {v:Value}:∀ {P:List Str} {vs:List Value} {i:Nat} {m:Str->Option Value},P.Nodup->P[i]?=some x->vs[i]?=some v->kindOf x=some .local ->
    bindL kindOf (P.zip vs) m x=some v
  | [],_,_,_,_,h,_,_=>by simp at h
  | _::_,[],_,_,_,_,h,_=>by simp at h
  | p::P,w::vs,0,m,nd,h1,h2,hk=>by
    simp at h1 h2; subst h1; subst h2
    show bindL kindOf ((p,w)::P.zip vs) m p=_
    unfold bindL
    rw [Zcw fun v hv=>(List.nodup_cons.mp nd).1 (List.of_mem_zip hv).1,if_pos hk]
    simp
  | p::P,w::vs,i+1,m,nd,h1,h2,hk=>by
    show bindL kindOf ((p,w)::P.zip vs) m x=_
    unfold bindL
    exact Zcx (i:=i) (List.nodup_cons.mp nd).2 (by simpa using h1) (by simpa using h2) hk
theorem Zcz {kindOf:Str->Option NameKind} {x:Str} {v:Value}:∀ {P:List Str} {vs:List Value} {i:Nat} {m:Str->Option Value},P.Nodup->P[i]?=some x->vs[i]?=some v->kindOf x≠some .local ->
    bindC kindOf (P.zip vs) m x=some v
  | [],_,_,_,_,h,_,_=>by simp at h
  | _::_,[],_,_,_,_,h,_=>by simp at h
  | p::P,w::vs,0,m,nd,h1,h2,hk=>by
    simp at h1 h2; subst h1; subst h2
    show bindC kindOf ((p,w)::P.zip vs) m p=_
    unfold bindC
    rw [Zcy fun v hv=>(List.nodup_cons.mp nd).1 (List.of_mem_zip hv).1,if_neg hk]
    simp
  | p::P,w::vs,i+1,m,nd,h1,h2,hk=>by
    show bindC kindOf ((p,w)::P.zip vs) m x=_
    unfold bindC
    exact Zcz (i:=i) (List.nodup_cons.mp nd).2 (by simpa using h1) (by simpa using h2) hk
noncomputable def start (N:List Str) (vs:List V):St:=vs.map some++List.replicate (N.length-vs.length) none
noncomputable def ZeN (CX:CXT) (P:Program) (w:World) (K:PySem.W.Frag) (mg:Str->Option Value) (base:Heap) (N:List Str) (qual:Str) (scope:Scope) (f:Addr) (cd:Value) (A:Around) (outer:List Env) (s:Shared) (H:Hp) (E:XK):Cx where
  prog:=P
  w:=w
  K:=K
  mg:=mg
  base:=base
  A:=A.deeper (envOfC qual scope s.heap.objs.size f cd)
  N:=N
  s₀:=s
  H₀:=H
  env:=envOfC qual scope s.heap.objs.size f cd
  outer:=outer
  stack:=envOfC qual scope s.heap.objs.size f cd::outer
  ex:=[]
  calm:=true
  fn:=fun _=>true
  pn:=[]
  xe:=fun e s'=>wpAny (model P w) (A.deeper (envOfC qual scope s.heap.objs.size f cd)) (leaving (envOfC qual scope s.heap.objs.size f cd) e) (fun _ s''=>CX outer H s E e s'') (fun e' s''=>CX outer H s E e' s'') s'
theorem Zd6 {sc:Scope} {n:Nat} {x:Str} (h:sc.names.lookup x=some .cell):∃ c,(cellsFrom n sc.names []).lookup x=some c:=by
  have q:=PySem.W.cellsFrom_some sc.names n [] (.inl h)
  exact Option.isSome_iff_exists.mp q
theorem Zgb {CX:CXT} {P:Program} {w:World} {K:PySem.W.Frag} {mg:Str->Option Value} {base:Heap} {N ps:List Str} {qual:Str} {scope:Scope} {f:Addr} {cd:Value} {A:Around} {outer:List Env} {s s1:Shared} {H:Hp} {E:XK} {us:List Value} {vs:List V}
    (S:Zr N ps scope) (hd:A.handled=none) (e0:Zlv P w K mg base A outer s H) (hl:vs.length=ps.length) (r:Vals vs us)
    (x:InCallC s s.heap.objs.size (bindL (envOfC qual scope s.heap.objs.size f cd).kindOf (ps.zip us) fun _=>none) (cellsFrom (s.heap.objs.size+1) scope.names []) (bindC (envOfC qual scope s.heap.objs.size f cd).kindOf (ps.zip us) fun _=>none) s1) :
    Inv (ZeN CX P w K mg base N qual scope f cd A outer s H E) [] (start N vs) H s1:=by
  have hpl:ps.length<=N.length:=by have:=congrArg List.length S.pre; rw [List.length_take] at this; omega
  obtain ⟨h1,tk,rfl,hk⟩:=x.done
  have noA:∀ b:Addr,b ∉ (ZeN CX P w K mg base N qual scope f cd A outer s H E).ex:=fun b z=>absurd (show b∈([]:List Addr) from z) (by simp)
  refine ⟨⟨e0.mod,S.kind,rfl,rfl,Nat.le_refl _,fun y z c h1 h2=>?_,fun y hy=>?_,fun y c _ h=>?_,fun _=>hd,Around.frames_deeper e0.frames,.inr ⟨rfl,rfl⟩,fun b z=>absurd z (noA b),e0.bs,e0.bsz,fun b _ _=>noA b,fun b z=>absurd z (noA b),e0.funs,e0.frf⟩,
    rfl,e0.bare,Un.kept hk,⟨_,x.toInCall.ns,fun i y v h1 h2 h3=>?_⟩,fun y c h=>⟨_,x.cell y c h⟩,e0.hok.fresh (Nat.le_refl _),fun y c h=>?_,fun p hp=>absurd (show p∈([]:List (Addr×Obj)) from hp) (by simp),e0.hok.kept hk,?_⟩
  · exact name_of_addr x.apart (PySem.mem_of_lookup h1) (PySem.mem_of_lookup h2)
  · have hy:scope.names.lookup y=some .cell\/scope.names.lookup y=some .free:=hy
    rcases hy with hy | hy
    · exact Zd6 hy
    · exact absurd rfl (S.nofree _ (PySem.mem_of_lookup hy))
  · exact Nat.le_of_lt (x.above y c (PySem.mem_of_lookup h))
  · have hi:i < vs.length:=by
      unfold start at h2
      by_cases hi:i < vs.length
      · exact hi
      · rw [List.getElem?_append_right (by simpa using hi)] at h2
        rw [List.getElem?_replicate] at h2
        split at h2 <;> cases h2
    have ha:vs[i]?=some v:=by
      unfold start at h2
      rw [List.getElem?_append_left (by simpa using hi),List.getElem?_map] at h2
      cases e:vs[i]? with
      | none=>rw [e] at h2; cases h2
      | some a=>rw [e] at h2; cases h2; rfl
    obtain ⟨u,hu,rv⟩:=r.get ha
    have hp:ps[i]?=some y:=by
      rw [<-S.pre,List.getElem?_take_of_lt (by omega)]; exact h1
    have ndP:ps.Nodup:=by rw [<-S.pre]; exact S.nd.sublist (List.take_sublist _ _)
    refine ⟨u,rv,?_⟩
    rcases S.par y (List.mem_of_getElem? hp) with k | k
    · exact .inl ⟨k,Zcx ndP hp hu k⟩
    · obtain ⟨c,e⟩:=Zd6 (n:=s.heap.objs.size+1) k
      refine .inr ⟨.inl k,c,e,?_⟩
      have q:=x.cell y c e
      rw [Zcz ndP hp hu (by show scope.names.lookup y≠_; rw [k]; decide)] at q
      exact q
  · exact e0.hok.fresh (Nat.le_of_lt (x.above y c (PySem.mem_of_lookup h)))
  · unfold start
    show _=N.length
    rw [List.length_append,List.length_map,List.length_replicate]
    omega
theorem Zk6 {CX:CXT} {P:Program} {w:World} {K:PySem.W.Frag} {mg:Str->Option Value} {base:Heap} {k:Nat} {f:Addr} {name qual:Str} {params:Arguments} {body:List Stmt} {scope:Scope} {dV kV doc pm cdv ct oc:Value} {an od:Option Addr}
    {osl:Array (Option Value)} {N ps:List Str} {sp:Sp} (lk:K.lookup f=some ⟨oc,od,.func (PySem.W.fnOf name qual params body scope dV kV doc pm an cdv ct),osl⟩) (hcd:PySem.W.codeIn K cdv qual=true) (S:Zr N ps scope)
    (len:∀ vs H Q E,sp vs H Q E->vs.length=ps.length)
    (hbody:∀ (A:Around) (outer:List Env) (s:Shared) (H:Hp) (vs:List V) (Q:VK) (E:XK),Room k (A.deeper (envOfC qual scope s.heap.objs.size f cdv))->sp vs H Q E ->
      ∃ t,PSs (ZeN CX P w K mg base N qual scope f cdv A outer s H E) body t/\t { nx:=fun _ H'=>Q .non H',rt:=Q } (start N vs) H) :
    ZdC P w K mg base CX (k+1) f (PySem.W.fnOf name qual params body scope dV kV doc pm an cdv ct) ps sp:=by
  refine ⟨len,fun A outer s H args us vs Q E hr e0 hb r hsp=>?_⟩
  have hl:=len _ _ _ _ hsp
  have KX:K.In s.heap:=e0.mod.kin.keeps fun b o e=>(e0.bs b o e).1
  have lim:s.heap.NoLimit:=e0.mod.nolimit.keeps fun b o e=>(e0.bs b o e).1
  have hkind:∀ y∈ps.zip us,scope.names.lookup y.1=some .local\/(scope.names.lookup y.1=some .cell/\((cellsFrom (s.heap.objs.size+1) scope.names []).lookup y.1).isSome=true):=fun ⟨n,v⟩ hy=>by
    rcases S.par n (List.of_mem_zip hy).1 with q | q
    · exact .inl q
    · exact .inr ⟨q,PySem.W.cellsFrom_some _ _ _ (.inl q)⟩
  refine codeAny_call_function hr.depth (KX _ _ lk) rfl S.co S.gen rfl (PySem.W.codeRec_of KX hcd) (hb _ _ _ _ ?_)
  refine wpAny_newFunctionEnv_cells S.kind hkind fun env he s1 x=>?_
  subst he
  refine ⟨lim.keeps x.toInCall.keep,codeAny_func ?_⟩
  obtain ⟨t,ht,hq⟩:=hbody A outer s H vs Q E (hr.deeper _) hsp
  have I:Inv (ZeN CX P w K mg base N qual scope f cdv A outer s H E) [] (start N vs) H s1:=Zgb S hr.hd e0 hl r x
  refine wpAny_mono (ht [] s1 (start N vs) H _ I hq) (fun fl s' hs=>?_) fun e s' hs=>hs
  have fin:∀ {σ':St} {H':Hp} {v:V} {u:Value},Inv (ZeN CX P w K mg base N qual scope f cdv A outer s H E) [] σ' H' s'->RelV v u->Q v H'->CE outer P w H s Q u s':=
    fun {σ' H' v u} J rv q=>⟨v,H',J.os,J.bare,J.base,J.hok,rv,q⟩
  cases fl with
  | ret u=>
    obtain ⟨v,σ',H',J,rv,q⟩:=hs
    exact fin J rv q
  | next=>
    obtain ⟨σ',H',J,q⟩:=hs
    exact fin (v:=V.non) (u:=Value.none) J rfl q
  | brk=>
    obtain ⟨_,_,_,q⟩:=hs
    exact False.elim q
  | cont=>
    obtain ⟨_,_,_,q⟩:=hs
    exact False.elim q
section
variable {X:Cx} {x:Str} {p pos:Pos} {e:Expr} {es:List Expr} {t:TA} {id T:String} {r:List V->Hp->VK->Prop}
noncomputable def tCB (r:List V->Hp->VK->Prop) (t:TA):TE:=fun σ H Q=>t σ H fun vs H1=>r vs H1 Q
theorem Wb (hc:W8 X (.builtin id) r) (hg:Gl X x) (hm:X.mg x=none) (hv:bootBuiltins x=some (.builtin id)) (ha:PA X (e::es) t) (hn:x≠"__name__":=by decide) (hdb:(x==("__debug__":Str))=false:=by decide)
    (he:starEach (e::es) X.env=(false,eval e X.env)::starEach es X.env:=by rfl) (hpl:(backTo pos (starEach es X.env)).any (·.1)=false:=by rfl):PE X (.Call (.Name x p) (e::es) [] pos) (tCB r t):=by
  intro pins s σ H Q I h
  refine wpAny_Call_Name_kw (Um I hg hm hv ?_ hn hdb)
  exact PyProof.Rows.callWith_builtin1 (thn (ha pos pins s σ H _ I h) fun us s1 ⟨vs,H1,I1,r1,q1⟩=>hc pins s1 σ H1 vs us Q I1 r1 q1) he hpl
theorem ZfH (hc:W8 X (.type T) r) (hg:Gl X x) (hm:X.mg x=none) (hv:bootBuiltins x=some (.type T)) (ha:PA X (e::es) t) (hn:x≠"__name__":=by decide) (hdb:(x==("__debug__":Str))=false:=by decide)
    (he:starEach (e::es) X.env=(false,eval e X.env)::starEach es X.env:=by rfl) (hpl:(backTo pos (starEach es X.env)).any (·.1)=false:=by rfl):PE X (.Call (.Name x p) (e::es) [] pos) (tCB r t):=by
  intro pins s σ H Q I h
  refine wpAny_Call_Name_kw (Um I hg hm hv ?_ hn hdb)
  exact PyProof.Rows.callWith_type1 (thn (ha pos pins s σ H _ I h) fun us s1 ⟨vs,H1,I1,r1,q1⟩=>hc pins s1 σ H1 vs us Q I1 r1 q1) he hpl
end
end L2
namespace HT
open PySem PyProof.Rows
noncomputable def lexLt:List Int->List Int->Bool
  | [],[]=>false
  | [],_::_=>true
  | _::_,[]=>false
  | x::xs,y::ys=>if x=y then lexLt xs ys else decide (x < y)
theorem lexLt_cons (x y:Int) (xs ys:List Int):lexLt (x::xs) (y::ys)=if x=y then lexLt xs ys else decide (x < y):=rfl
theorem lexLt_nil_nil:lexLt [] []=false:=rfl
theorem Zaf (y:Int) (ys:List Int):lexLt [] (y::ys)=true:=rfl
theorem Zag (x:Int) (xs:List Int):lexLt (x::xs) []=false:=rfl
theorem ZhE (A:Around) (s:Shared) (a:Int) (t:Tok) (c:Int) (u:Tok):∃ e,SeqAt.EqAt A s (.int a t) (.int c u) e/\(e=true ↔ a=c):=
  ⟨(a==c),SeqAt.EqAt.int_int a t c u,by simp⟩
theorem rcLt_int (A:Around) (s:Shared) (a:Int) (t:Tok) (c:Int) (u:Tok) (prog:Program) (w:World) (E:Value->Shared->Prop) (Q:Value->Shared->Prop) (h:Q (.bool (decide (a < c))) s) :
    wpAny (model prog w) A (richCompare .Lt (.int a t) (.int c u)) Q E s:=
  (PyProof.Rows.lt_int h:wpAny (model prog w) A (compareOp .Lt (.int a t) (.int c u)) Q E s)
section
open PySem.SeqAt
open PySem.AutoSeq1 (wpAny_loadPart')
open PySem.MeetsSeq PySem.MeetsSeq2 PySem.MeetsSeq3
theorem Za1 (l b:Addr) (items items2:Array Value) (n n2:Nat) (dd dd2:Option Addr) (sl sl2:Array (Option Value)) (ns ms:List Int) (hi:IntsAre items.toList ns) (hj:IntsAre items2.toList ms) :
    Meets (Builtin.«tuple.__lt__» ⟨[.ref l,.ref b],[]⟩)
      (fun _ R s=>s.heap.get? l=some { cls:=.type "tuple",dict:=dd,data:=.seq items n,slots:=sl }/\s.heap.get? b=some { cls:=.type "tuple",dict:=dd2,data:=.seq items2 n2,slots:=sl2 } /\
        R (.ok (.ret (.bool (lexLt ns ms)))) s):=
  .of_wp fun prog w A R s h=>by
    obtain ⟨hp,g,d,tk,os⟩:=s; obtain ⟨hl,hb,h⟩:=h
    have f2:=AutoSeq1.sub_tuple_tuple
    have z1:items.size=ns.length:=by rw [<-hi.length]; simp
    have z2:items2.size=ms.length:=by rw [<-hj.length]; simp
    wp_walk using wpAny_loadPart' hl,wpAny_loadPart' hb,wpAny_forIn_list _ (fun rest b s'=>b.1=none/\s'=⟨hp,g,d,tk,os⟩/\∃ (vs ws:List Value) (ns' ms':List Int),rest=vs.zip ws /\
      IntsAre vs ns'/\IntsAre ws ms'/\ns'.length+items2.size=ms'.length+items.size/\R (.ok (.ret (.bool (lexLt ns' ms')))) ⟨hp,g,d,tk,os⟩) _
    case turn=>
      rintro ⟨y,x⟩ rest b s' ⟨hb',rfl,vs,ws,ns',ms',hz,hvi,hwi,hlen,hR⟩
      cases hvi with
      | nil=>rw [List.zip_nil_left] at hz; cases hz
      | cons a t hvi'=>
        cases hwi with
        | nil=>rw [List.zip_nil_right] at hz; cases hz
        | cons c u hwi'=>
          rw [List.zip_cons_cons] at hz
          injection hz with hyx hrest
          injection hyx with hy hx
          subst hy hx
          rw [lexLt_cons] at hR
          simp only [List.length_cons] at hlen
          obtain ⟨e,he,hiff⟩:=ZhE A.in1 ⟨hp,g,d,tk,os⟩ a t c u
          refine wpAny_bind (he prog w _ _ ?_)
          cases e with
          | true=>
            rw [if_pos (hiff.mp rfl)] at hR
            wp_walk
            exact ⟨rfl,rfl,_,_,_,_,hrest,hvi',hwi',by omega,hR⟩
          | false=>
            rw [if_neg (fun q=>absurd (hiff.mpr q) Bool.false_ne_true)] at hR
            have hri:=rcLt_int A.in1 ⟨hp,g,d,tk,os⟩ a t c u prog w
            wp_walk using hri
            exact ⟨_,rfl,by simpa using hR⟩
    case fin=>
      rintro ⟨b1,b2⟩ s' ⟨hb',rfl,vs,ws,ns',ms',hz,hvi,hwi,hlen,hR⟩
      simp only at hb'
      subst hb'
      have hv:lexLt ns' ms'=decide (items.size < items2.size):=by
        cases hvi with
        | nil=>
          cases hwi with
          | nil=>
            simp only [List.length_nil] at hlen
            rw [lexLt_nil_nil]
            exact (decide_eq_false (by omega)).symm
          | cons c u hw=>
            simp only [List.length_nil,List.length_cons] at hlen
            rw [Zaf]
            exact (decide_eq_true (by omega)).symm
        | cons a t hv=>
          cases hwi with
          | nil=>
            simp only [List.length_nil,List.length_cons] at hlen
            rw [Zag]
            exact (decide_eq_false (by omega)).symm
          | cons c u hw=>
            rw [List.zip_cons_cons] at hz
            cases hz
      rw [hv] at hR
      wp_walk
      exact ⟨_,rfl,by simpa [Builtin.Tuple.tupleCompareSizes] using hR⟩
    case h=>
      exact ⟨rfl,rfl,items.toList,items2.toList,ns,ms,rfl,hi,hj,by omega,h⟩
end
section
variable {prog:Program} {w:World} {A:Around} {E:Value->Shared->Prop} {s:Shared}
theorem lt_tupInts {l b:Addr} {items items2:Array Value} {ns ms:List Int} {Q:Value->Shared->Prop} (hl:IsTup s.heap l items) (hb:IsTup s.heap b items2) (hi:IntsAre items.toList ns) (hj:IntsAre items2.toList ms)
    (hu:A.units < cLine) (h:Q (.bool (lexLt ns ms)) s):wpAny (model prog w) A (compareOp .Lt (.ref l) (.ref b)) Q E s:=by
  obtain ⟨⟨cls,dd,data,sl⟩,ho,hc,n,hd⟩:=id hl
  obtain ⟨⟨cls2,dd2,data2,sl2⟩,ho2,hc2,n2,hd2⟩:=id hb
  simp only at hc hd hc2 hd2
  subst hc hd hc2 hd2
  exact richCompare_meets_room (op:=.Lt) ⟨_,ho,rfl⟩ ⟨_,ho2,rfl⟩ PySem.F.slot_tuple_lt PySem.F.entry_tuple_lt (PySem.F.args_tuple_lt_2 _ _) (Za1 l b items items2 n n2 dd dd2 sl sl2 ns ms hi hj)
    ⟨ho,ho2,show Value.bool (lexLt ns ms)≠Value.notImplemented/\Q (.bool (lexLt ns ms)) s from ⟨(fun x=>nomatch x),h⟩⟩ hu
theorem cat_tup {t b:Addr} {vs ws:List Value} {Q:Value->Shared->Prop} (ht:IsTup s.heap t vs.toArray) (hb:IsTup s.heap b ws.toArray) (hv:vs≠[])
    (h1:ws=[]->Q (.ref t) s) (h2:ws≠[]->Q (.ref s.heap.objs.size) { s with heap:=s.heap.push { cls:=.type "tuple",data:=.seq (vs++ws).toArray } })
    (hsz:vs.length+ws.length<=sizeLine):wpAny (model prog w) A (binaryOp .Add (.ref t) (.ref b)) Q E s:=by
  obtain ⟨⟨cls,dd,data,sl⟩,ho,hc,n,hd⟩:=id ht
  obtain ⟨⟨cls2,dd2,data2,sl2⟩,ho2,hc2,n2,hd2⟩:=id hb
  simp only at hc hd hc2 hd2
  subst hc hd hc2 hd2
  have e:vs.toArray++ws.toArray=(vs++ws).toArray:=by simp
  by_cases hw:ws=[]
  · exact concat_meets ⟨_,ho,rfl⟩ ⟨_,ho2,rfl⟩ noFill_tuple_add seq_tuple_add PySem.F.slot_tuple_add PySem.F.entry_tuple_add (PySem.F.args_tuple_add_2 _ _)
      (tuple_addW1 t b vs.toArray ws.toArray n n2 dd dd2 sl sl2 (by simpa using hv) (by simp [hw])) ⟨ho,ho2,h1 hw⟩
  · refine concat_meets ⟨_,ho,rfl⟩ ⟨_,ho2,rfl⟩ noFill_tuple_add seq_tuple_add PySem.F.slot_tuple_add PySem.F.entry_tuple_add (PySem.F.args_tuple_add_2 _ _)
      (tuple_addW2 t b vs.toArray ws.toArray n n2 dd dd2 sl sl2 (by simpa using hv) (by simpa using hw) (by rw [List.size_toArray,List.size_toArray]; exact hsz)) ⟨ho,ho2,?_⟩
    rw [e]
    exact h2 hw
noncomputable def sIx (n d:Nat):Option Int->Nat
  | none=>d
  | some v=>if v < 0 then (v+(n:Int)).toNat else min v.toNat n
theorem sIx_none (n d:Nat):sIx n d none=d:=rfl
theorem sIx_nat (n d k:Nat):sIx n d (some (k:Int))=min k n:=by
  show (if (k:Int) < 0 then ((k:Int)+(n:Int)).toNat else min (k:Int).toNat n)=min k n
  rw [if_neg (by omega),Int.toNat_natCast]
theorem Zka (n d:Nat) (hd:d<=n) (o:Option Int):sIx n d o<=n:=by
  cases o with
  | none=>exact hd
  | some v=>
    show (if v < 0 then (v+(n:Int)).toNat else min v.toNat n)<=n
    by_cases hv:v < 0
    · rw [if_pos hv]; omega
    · rw [if_neg hv]; exact Nat.min_le_right _ _
theorem ZgC (v:Int) (n d:Nat):(if v < 0 then max (v+(n:Int)) 0 else min v (n:Int))=((sIx n d (some v):Nat):Int):=by
  show (if v < 0 then max (v+(n:Int)) 0 else min v (n:Int))=(((if v < 0 then (v+(n:Int)).toNat else min v.toNat n):Nat):Int)
  by_cases hv:v < 0
  · simp only [if_pos hv]; omega
  · simp only [if_neg hv]; omega
theorem ZeT (lo hi:Option Int) (n:Nat):Builtin.Slice.sliceAdjust lo hi 1 (n:Int)=(((sIx n 0 lo:Nat):Int),((sIx n n hi:Nat):Int)):=by
  have h1:¬ ((1:Int) < 0):=by omega
  unfold Builtin.Slice.sliceAdjust
  simp only [h1,if_false]
  refine Prod.ext ?_ ?_
  · cases lo with
    | none=>rfl
    | some v=>exact ZgC v n 0
  · cases hi with
    | none=>rfl
    | some v=>exact ZgC v n n
theorem Zep (i j:Nat):Builtin.Slice.slicePlaces (i:Int) (j:Int) 1=j-i:=by
  unfold Builtin.Slice.slicePlaces
  have h1:(1:Int) > 0:=by omega
  simp only [h1,if_true,Int.ediv_one]
  split <;> omega
theorem Zax {v:Value} {o:Option Int} {Q:Option Int->Shared->Prop} (p:IsPart v o) (h:Q o s):wpAny (model prog w) A (Builtin.Slice.slicePartIndex v) Q E s:=by
  cases p with
  | none=>exact slicePart_none h
  | int i t=>exact slicePart_int h
theorem sliceApplied_gen {sl:Addr} {vl vu:Value} {lo hi:Option Int} {n:Nat} {Q:Int×Int×Nat->Shared->Prop} (hs:s.heap.IsSliceOf sl vl vu .none) (pl:IsPart vl lo) (pu:IsPart vu hi)
    (h:Q (((sIx n 0 lo:Nat):Int),1,sIx n n hi-sIx n 0 lo) s):wpAny (model prog w) A (Builtin.Slice.sliceApplied (.ref sl) (pure (n:Int))) Q E s:=by
  obtain ⟨os,hos,hcs,hds⟩:=id hs
  unfold Builtin.Slice.sliceApplied Builtin.Slice.sliceFields
  refine wpAny_bind (wpAny_bind (wpAny_field hos hds (x:=vl) rfl (wpAny_bind (wpAny_field hos hds (x:=vu) rfl (wpAny_bind (wpAny_field hos hds (x:=.none) rfl (wpAny_pure ?_)))))))
  refine wpAny_bind (slicePart_none ?_)
  show wpAny _ _ (if ((1:Int)==0)=true then _ else _) _ _ s
  rw [if_neg (by decide)]
  refine wpAny_bind (Zax pl (wpAny_bind (Zax pu (wpAny_bind (wpAny_pure ?_)))))
  show wpAny _ _ (match Builtin.Slice.sliceAdjust lo hi 1 (n:Int) with | (lo,hi)=>pure (lo,(1:Int),Builtin.Slice.slicePlaces lo hi 1)) _ _ s
  rw [ZeT lo hi n]
  show wpAny _ _ (pure (((sIx n 0 lo:Nat):Int),(1:Int),Builtin.Slice.slicePlaces ((sIx n 0 lo:Nat):Int) ((sIx n n hi:Nat):Int) 1)) _ _ s
  rw [Zep]
  exact wpAny_pure h
theorem Zhi (xs:Array Value) (i k:Nat):((List.range k).filterMap fun (m:Nat)=>xs[((i:Int)+(m:Int)*1).toNat]?).toArray=((xs.toList.drop i).take k).toArray:=by
  have e:(fun (m:Nat)=>xs[((i:Int)+(m:Int)*1).toNat]?)=fun m=>xs[i+m]?:=by
    funext m
    have:((i:Int)+(m:Int)*1).toNat=i+m:=by omega
    rw [this]
  rw [e]
  have:=pick_run xs i k
  rw [List.filterMap_map] at this
  have e2:((fun x=>xs[x]?) ∘ fun x=>i+x)=fun m=>xs[i+m]?:=rfl
  rw [e2] at this
  rw [this]
theorem getItem_tuple_cut {t sl:Addr} {items:Array Value} {vl vu:Value} {lo hi:Option Int} {Q:Value->Shared->Prop} (ht:IsTup s.heap t items) (hs:s.heap.IsSliceOf sl vl vu .none) (pl:IsPart vl lo) (pu:IsPart vu hi)
    (hw:¬ (sIx items.size 0 lo=0/\sIx items.size items.size hi=items.size))
    (h:Q (.ref s.heap.objs.size) { s with heap:=s.heap.push { cls:=.type "tuple",data:=.seq ((items.toList.drop (sIx items.size 0 lo)).take (sIx items.size items.size hi-sIx items.size 0 lo)).toArray } })
    (hsz:items.size<=sizeLine):wpAny (model prog w) A (getItem (.ref t) (.ref sl)) Q E s:=by
  have htake:sizeOk (.seq ((items.toList.drop (sIx items.size 0 lo)).take (sIx items.size items.size hi-sIx items.size 0 lo)).toArray):=by
    show ((items.toList.drop (sIx items.size 0 lo)).take (sIx items.size items.size hi-sIx items.size 0 lo)).toArray.size<=sizeLine
    rw [List.size_toArray,List.length_take,List.length_drop,Array.length_toList]
    omega
  have hj:sIx items.size items.size hi<=items.size:=Zka _ _ (Nat.le_refl _) hi
  obtain ⟨os,hos,hcs,hds⟩:=id hs
  have hTs:s.TypeIs (.ref sl) "slice":=⟨os,hos,hcs⟩
  unfold getItem
  try with_reducible refine wpAny_holding ?_
  first | refine wpAny_bind (wpAny_pure ?_) | skip
  refine wpAny_bind (wpAny_sequenceKey ht.typeIs (by decide) ?_)
  refine wpAny_bind (wpAny_callSpecial?_slot (name:=Str.ofString "__getitem__") ht.typeIs PyProof.Rows.slot_tuple_getitem
    (wpAny_call_entry PyProof.Rows.slot_tuple_getitem ht.typeIs entry_tuple_getitem ?_ (args_tuple_getitem _ _)))
  show wpAny _ _ (Builtin.Tuple.tupleItemsOf (.ref t) >>= _) _ _ s
  refine wpAny_bind (tupleItemsOf_ ht ?_)
  refine wpAny_bind (wpAny_typeOf hTs ?_)
  rw [if_pos (by decide)]
  refine wpAny_bind (sliceApplied_gen hs pl pu ?_)
  have hno:¬ ((((sIx items.size 0 lo:Nat):Int)==0&&(1:Int)==1&&(sIx items.size items.size hi-sIx items.size 0 lo)==items.size)=true):=by
    intro q
    rw [Bool.and_eq_true,Bool.and_eq_true] at q
    have q1:((sIx items.size 0 lo:Nat):Int)=0:=eq_of_beq q.1.1
    have q2:sIx items.size items.size hi-sIx items.size 0 lo=items.size:=eq_of_beq q.2
    exact hw ⟨by omega,by omega⟩
  show wpAny _ _ (if (((sIx items.size 0 lo:Nat):Int)==0&&(1:Int)==1&&(sIx items.size items.size hi-sIx items.size 0 lo)==items.size)=true then _ else _) _ _ s
  rw [if_neg hno,Zhi]
  first
    | exact wpAny_bind (m:=Builtin.Tuple.tupleExact _) (wpAny_newObj_type (wpAny_pure ⟨_,rfl,wpAny_pure h⟩) htake)
    | exact wpAny_bind (m:=Builtin.Tuple.tupleExact _) (wpAny_newObj_type (wpAny_bind (wpAny_pure (wpAny_pure ⟨_,rfl,wpAny_pure h⟩))) htake)
    | exact wpAny_bind (wpAny_bind (m:=Builtin.Tuple.tupleExact _) (wpAny_newObj_type (wpAny_pure (wpAny_pure ⟨_,rfl,wpAny_pure h⟩)) htake))
    | exact wpAny_bind (wpAny_bind (m:=Builtin.Tuple.tupleExact _) (wpAny_newObj_type (wpAny_pure ⟨_,rfl,wpAny_pure h⟩) htake))
end
end HT
namespace L2
open PySem PySem.Spec PyProof.Rows
noncomputable abbrev TO:=St->Hp->(Option Int->Hp->Prop)->Prop
noncomputable def PO (X:Cx) (e:Option Expr) (t:TO):Prop:=
  ∀ (pins:List (Addr×Obj)) (s:Shared) (σ:St) (H:Hp) (Q:Option Int->Hp->Prop),Inv X pins σ H s->t σ H Q ->
    wpAny (model X.prog X.w) X.A (evalPart e X.env) (fun u s'=>∃ o H',Inv X pins σ H' s'/\IsPart u o/\Q o H') X.xe s
noncomputable def Ziy:TO:=fun _ H Q=>Q none H
noncomputable def ZlC (t:TE):TO:=fun σ H Q=>t σ H fun x H1=>∃ i,x=.int i/\Q (some i) H1
section
variable {X:Cx} {e:Expr} {te:TE} {lo hi:Option Expr} {tl th:TO} {pos p2:Pos}
theorem ZiS:PO X none Ziy:=by
  intro pins s σ H Q I h
  rw [evalPart_none]
  exact wpAny_pure ⟨none,H,I,.none,h⟩
theorem ZfE (h:PE X e te):PO X (some e) (ZlC te):=by
  intro pins s σ H Q I hw
  rw [evalPart_some]
  refine thn (h pins s σ H _ I hw) fun u s1 zq=>?_
  obtain ⟨x,H1,I1,r1,q1⟩:=zq
  obtain ⟨i,rfl,q⟩:=q1
  obtain ⟨t,rfl⟩:=r1
  exact ⟨some i,H1,I1,.int i t,q⟩
noncomputable def SlR (X:Cx) (r:V->Option Int->Option Int->Hp->VK->Prop):Prop:=
  ∀ (pins:List (Addr×Obj)) (s:Shared) (σ:St) (H:Hp) (x:V) (v vl vu:Value) (lo hi:Option Int) (sl:Addr) (Q:VK),Inv X pins σ H s->RelV x v->s.heap.IsSliceOf sl vl vu .none->IsPart vl lo->IsPart vu hi->r x lo hi H Q ->
    ∃ T id,typeLookup (.type T) "__getitem__"=pure (some (.builtin id))/\s.TypeIs v T/\wpAny (model X.prog X.w) X.A (getItem v (.ref sl)) (EP X pins σ Q) X.xe s
noncomputable def tSl (r:V->Option Int->Option Int->Hp->VK->Prop) (te:TE) (tl th:TO):TE:=fun σ H Q=>te σ H fun x H1=>tl σ H1 fun l H2=>th σ H2 fun u H3=>r x l u H3 Q
theorem ZdO {r:V->Option Int->Option Int->Hp->VK->Prop} (hr:SlR X r) (he:PE X e te) (hl:PO X lo tl) (hu:PO X hi th):PE X (.Subscript e (.Slice lo hi none p2) pos) (tSl r te tl th):=by
  intro pins s σ H Q I h
  refine Subscript_ (thn (he pins s σ H _ I h) fun v s1 zq=>?_)
  obtain ⟨x,H1,I1,r1,q1⟩:=zq
  refine wpAny_Slice (thn (hl pins s1 σ H1 _ I1 q1) fun vl s2 ⟨l,H2,I2,pl,q2⟩=>thn (hu pins s2 σ H2 _ I2 q2) fun vu s3 zq=>?_)
  obtain ⟨u,H3,I3,pu,q3⟩:=zq
  rw [evalPart_none]
  refine wpAny_pure ?_
  have I4:Inv X pins σ H3 { s3 with heap:=s3.heap.push { cls:=.type "slice",data:=.fields #[vl,vu,.none] } }:=I3.kept (t':=s3.toks) fun b ob q=>Heap.get?_push_of_some _ q
  obtain ⟨T,id,hT,ht,hg⟩:=hr pins { s3 with heap:=s3.heap.push { cls:=.type "slice",data:=.fields #[vl,vu,.none] } } σ H3 x v vl vu l u s3.heap.objs.size Q I4 r1 (Heap.IsSliceOf.new ..) pl pu q3
  show wpAny (model X.prog X.w) X.A (subscriptTail e (.Slice lo hi none p2) v (.ref s3.heap.objs.size)) (EP X pins σ Q) X.xe { s3 with heap:=s3.heap.push { cls:=.type "slice",data:=.fields #[vl,vu,.none] } }
  exact tail_any (ops:=[.ref s3.heap.objs.size,v]) ht hT hg (by with_unfolding_all rfl)
noncomputable def Ze0 (xs:List V) (lo hi:Option Int):List V:=(xs.drop (HT.sIx xs.length 0 lo)).take (HT.sIx xs.length xs.length hi-HT.sIx xs.length 0 lo)
theorem WY (xs:List V) (lo hi:Option Int):(Ze0 xs lo hi).length<=xs.length:=by
  unfold Ze0
  rw [List.length_take,List.length_drop]
  omega
noncomputable def Zm7 (K:PySem.W.Frag):V->Option Int->Option Int->Hp->VK->Prop:=fun x lo hi H Q=>∃ a xs,x=.ref a/\SqT K H a xs /\
  ¬ (HT.sIx xs.length 0 lo=0/\HT.sIx xs.length xs.length hi=xs.length)/\∀ p,H p=none->Q (.ref p) (upd H p (.tup (Ze0 xs lo hi)))
theorem Zj5:SlR X (Zm7 X.K):=by
  intro pins s σ H x v vl vu lo hi sl Q I rx hs pl pu h
  obtain ⟨a,xs,rfl,hx,hw,q⟩:=h
  cases rx
  obtain ⟨its,r,ht,hz⟩:=I.tuple hx
  have hlen:its.toArray.size=xs.length:=by rw [List.size_toArray]; exact r.length.symm
  refine ⟨"tuple",_,PyProof.Rows.slot_tuple_getitem.lookup,ht.typeIs,?_⟩
  refine HT.getItem_tuple_cut ht hs pl pu (by rw [hlen]; exact hw) ?_ (by rw [hlen]; exact hz)
  rw [hlen]
  refine ⟨.ref s.heap.objs.size,_,I.laid (t':=s.toks) (o:=.tup (Ze0 xs lo hi)) (fun b ob q=>Heap.get?_push_of_some _ q) (Nat.le_refl _) ?_,rfl,q _ (I.hok.fresh (Nat.le_refl _))⟩
  exact ⟨Nat.le_trans (WY xs lo hi) hz,_,(r.drop (HT.sIx xs.length 0 lo)).take (HT.sIx xs.length xs.length hi-HT.sIx xs.length 0 lo),IsTup.new _ _⟩
theorem Vals.nil_iff {xs:List V} {us:List Value} (r:Vals xs us):us=[] ↔ xs=[]:=by
  cases r with
  | nil=>simp
  | cons _ _=>simp
end
noncomputable def ixN (n:Nat) (i:Int):Option Nat:=if 0<=i then (if i < n then some i.toNat else none) else if -(n:Int)<=i then some (i+n).toNat else none
noncomputable def atI {α:Type} (xs:List α) (i:Int):Option α:=(ixN xs.length i).bind fun j=>xs[j]?
theorem Zjh {n:Nat} {i:Int} {j:Nat} (h:ixN n i=some j):seqIndex? i n=some j/\j < n/\-(n:Int)<=i/\i < n:=by
  unfold ixN at h
  by_cases h0:0<=i
  · rw [if_pos h0] at h
    by_cases h1:i < n
    · rw [if_pos h1] at h
      have e:i.toNat=j:=Option.some.inj h
      exact ⟨by rw [seqIndex_of h0 h1,e],by omega,by omega,h1⟩
    · rw [if_neg h1] at h; cases h
  · rw [if_neg h0] at h
    by_cases h1:-(n:Int)<=i
    · rw [if_pos h1] at h
      have e:(i+n).toNat=j:=Option.some.inj h
      exact ⟨by rw [seqIndex_neg (by omega) h1,e],by omega,h1,by omega⟩
    · rw [if_neg h1] at h; cases h
theorem Zdu {α:Type} {xs:List α} {i:Int} {v:α} (h:atI xs i=some v):∃ j,seqIndex? i xs.length=some j/\xs[j]?=some v/\j < xs.length/\-(xs.length:Int)<=i/\i < xs.length:=by
  unfold atI at h
  cases e:ixN xs.length i with
  | none=>rw [e] at h; cases h
  | some j=>
    rw [e] at h
    obtain ⟨h1,h2,h3,h4⟩:=Zjh e
    exact ⟨j,h1,h,h2,h3,h4⟩
theorem ZjG {α:Type} {xs:List α} {j:Nat} {v:α} (h:xs[j]?=some v):atI xs (j:Int)=some v:=by
  have hj:j < xs.length:=(List.getElem?_eq_some_iff.mp h).1
  have e:ixN xs.length (j:Int)=some j:=by
    unfold ixN
    rw [if_pos (by omega),if_pos (by omega)]; simp
  unfold atI; rw [e]; exact h
noncomputable def ZgS (b:Expr):Prop:=∀ o i,subscripted b false o i=operate [o,i] (getItem o i)
noncomputable def IxR (X:Cx) (r:R2):Prop:=
  ∀ (value slice:Expr) (pins:List (Addr×Obj)) (s:Shared) (σ:St) (H:Hp) (x y:V) (v u:Value) (Q:VK),Inv X pins σ H s->RelV x v->RelV y u->r x y H Q ->
    subscripted slice false v u=operate [v,u] (getItem v u)->wpAny (model X.prog X.w) X.A (subscriptTail value slice v u) (EP X pins σ Q) X.xe s
noncomputable def MtR (X:Cx) (id:String) (r:V->List V->Hp->VK->Prop):Prop:=
  ∀ (pins:List (Addr×Obj)) (s:Shared) (σ:St) (H:Hp) (x:V) (xs:List V) (v:Value) (us:List Value) (Q:VK),Inv X pins σ H s->RelV x v->Vals xs us->r x xs H Q ->
    wpAny (model X.prog X.w) X.A (call (.builtin id) (v::us)) (EP X pins σ Q) X.xe s
section
variable {X:Cx} {a b:Expr} {ta tb:TE} {pos:Pos}
theorem ZlS {r:R2} (hr:IxR X r) (ha:PE X a ta) (hb:PE X b tb) (hs:ZgS b):PE X (.Subscript a b pos) (tOp r ta tb):=by
  intro pins s σ H Q I h
  exact Subscript_ (Zml ha hb I h fun v u s2 x y H2 I2 rx ry q=>hr a b pins s2 σ H2 x y v u Q I2 rx ry q (hs _ _))
noncomputable def Znd (K:PySem.W.Frag):R2:=fun x y H Q=>∃ p xs i v,x=.ref p/\y=.int i/\SqL K H p xs/\atI xs i=some v/\Q v H
noncomputable def Znb (K:PySem.W.Frag):R2:=fun x y H Q=>∃ p xs i v,x=.ref p/\y=.int i/\SqT K H p xs/\atI xs i=some v/\Q v H
noncomputable def Znc:R2:=fun x y H Q=>∃ z i c,x=.str z/\y=.int i/\z.length<=sizeLine/\atI z.cps.toList i=some c/\Q (.str ⟨#[c]⟩) H
theorem Zjg:IxR X (Znd X.K):=by
  intro value slice pins s σ H x y v u Q I rx ry h hs
  obtain ⟨p,xs,i,z,rfl,rfl,hq,he,q⟩:=h
  cases rx
  obtain ⟨t,rfl⟩:=ry
  obtain ⟨its,r,pl,hz⟩:=I.list hq
  obtain ⟨j,h1,h2,h3,h4,h5⟩:=Zdu he
  obtain ⟨w,ew,rw'⟩:=r.get h2
  have hl:=r.length
  have hn:=Zcb
  have fin:EP X pins σ Q w s:=⟨z,H,I,rw',q⟩
  by_cases h0:0<=i
  · have hj:i.toNat=j:=by
      rw [seqIndex_of h0 h5] at h1
      exact Option.some.inj h1
    exact item_listR pl.isList h0 (by omega) (by rw [hj]; simpa using ew) fin hs
  · have hj:(i+(its.toArray.size:Int)).toNat=j:=by
      rw [seqIndex_neg (by omega) h4] at h1
      rw [List.size_toArray,<-hl]
      exact Option.some.inj h1
    exact subscriptTail_builtinR (x:=w) pl.isList.typeIs slot_list_getitem.lookup
      (wpAny_getItem_list_neg (Q:=fun r s'=>r=w/\EP X pins σ Q r s') pl.isList (by omega) (by rw [List.size_toArray] <;> omega) (by omega) (by rw [hj]; simpa using ew) ⟨rfl,fin⟩) hs
theorem ZkX:IxR X (Znb X.K):=by
  intro value slice pins s σ H x y v u Q I rx ry h hs
  obtain ⟨p,xs,i,z,rfl,rfl,hq,he,q⟩:=h
  cases rx
  obtain ⟨t,rfl⟩:=ry
  obtain ⟨its,r,pl,hz⟩:=I.tuple hq
  obtain ⟨j,h1,h2,h3,h4,h5⟩:=Zdu he
  obtain ⟨w,ew,rw'⟩:=r.get h2
  have hl:=r.length
  have hn:=Zcb
  have fin:EP X pins σ Q w s:=⟨z,H,I,rw',q⟩
  exact subscriptTail_builtinR (x:=w) pl.typeIs slot_tuple_getitem.lookup
    (getItem_tuple (j:=j) (Q:=fun r s'=>r=w/\EP X pins σ Q r s') pl (by omega) (by omega) (by rw [List.size_toArray,<-hl]; exact h1) (by simpa using ew) ⟨rfl,fin⟩) hs
theorem ZkY:IxR X Znc:=by
  intro value slice pins s σ H x y v u Q I rx ry h hs
  obtain ⟨z,i,c,rfl,rfl,hz,he,q⟩:=h
  obtain ⟨t,rfl⟩:=rx
  obtain ⟨t',rfl⟩:=ry
  obtain ⟨j,h1,h2,h3,h4,h5⟩:=Zdu he
  have hl:z.cps.toList.length=z.length:=by simp [Str.length]
  rw [hl] at h1 h4 h5
  have hn:=Zcb
  exact tail_any (typeIs_str s z t) slot_str_getitem.lookup (getItem_str (c:=c) (by
    have e1:decide (i < -(2 ^ 63:Int))=false:=decide_eq_false (by omega)
    have e2:decide (i>=2 ^ 63)=false:=decide_eq_false (by omega)
    rw [e1,e2,Bool.or_false]) (by rw [h1]; simpa using h2) ⟨.str ⟨#[c]⟩,H,I.tok _,⟨_,rfl⟩,q⟩) hs
theorem ZbT (lo hi:Option Int) (n:Nat):(sliceBounds lo hi none n).1=((HT.sIx n 0 lo:Nat):Int)/\(sliceBounds lo hi none n).2.1=((HT.sIx n n hi:Nat):Int)/\(sliceBounds lo hi none n).2.2=1:=by
  refine ⟨?_,?_,rfl⟩
  · cases lo with
    | none=>simp [sliceBounds,HT.sIx]
    | some i=>
      simp only [sliceBounds,HT.sIx,Option.getD_none,show (1:Int) > 0 by decide,if_true]
      by_cases h:i < 0
      · simp only [h,if_true] <;> omega
      · simp only [h,if_false] <;> omega
  · cases hi with
    | none=>simp [sliceBounds,HT.sIx]
    | some i=>
      simp only [sliceBounds,HT.sIx,Option.getD_none,show (1:Int) > 0 by decide,if_true]
      by_cases h:i < 0
      · simp only [h,if_true] <;> omega
      · simp only [h,if_false] <;> omega
theorem Za4 (its:List Value) (lo hi:Option Int):slicePick its.toArray lo hi none=((its.drop (HT.sIx its.length 0 lo)).take (HT.sIx its.length its.length hi-HT.sIx its.length 0 lo)).toArray:=by
  obtain ⟨h1,h2,h3⟩:=ZbT lo hi its.toArray.size
  unfold slicePick
  rw [h1,h2,h3]
  simp only [sliceRange_one,pick_run,List.size_toArray] <;> rfl
noncomputable def Zm9 (K:PySem.W.Frag):V->Option Int->Option Int->Hp->VK->Prop:=fun x lo hi H Q=>∃ a xs,x=.ref a/\SqL K H a xs/\∀ p,H p=none->Q (.ref p) (upd H p (.lst (Ze0 xs lo hi)))
theorem ZiC:SlR X (Zm9 X.K):=by
  intro pins s σ H x v vl vu lo hi sl Q I rx hs pl pu h
  obtain ⟨a,xs,rfl,hx,q⟩:=h
  cases rx
  obtain ⟨its,r,ht,hz⟩:=I.list hx
  have hlen:=r.length
  refine ⟨"list",_,slot_list_getitem.lookup,ht.isList.typeIs,?_⟩
  refine wpAny_getItem_list_slice ht.isList hs pl pu .none (by simp) ?_ (by rw [List.size_toArray] <;> omega)
  rw [Za4,<-hlen]
  refine ⟨.ref s.heap.objs.size,_,I.laid (t':=s.toks) (o:=.lst (Ze0 xs lo hi)) (fun b ob q=>Heap.get?_push_of_some _ q) (Nat.le_refl _) ?_,rfl,q _ (I.hok.fresh (Nat.le_refl _))⟩
  exact ⟨Nat.le_trans (WY xs lo hi) hz,_,0,(r.drop (HT.sIx xs.length 0 lo)).take (HT.sIx xs.length xs.length hi-HT.sIx xs.length 0 lo),Heap.get?_push_size _ rfl⟩
theorem VT:W8 X (.builtin "len") (fun xs H Q=>∃ p ys,xs=[.ref p]/\(SqL X.K H p ys\/SqT X.K H p ys)/\Q (.int ys.length) H):=by
  intro pins s σ H xs us Q I r h
  obtain ⟨p,ys,rfl,hq,q⟩:=h
  obtain ⟨u,rfl,rx⟩:=ZcU r
  cases rx
  have hn:=Zcb
  rcases hq with hq | hq
  · obtain ⟨its,r',pl,hz⟩:=I.list hq
    have hlen:=r'.length
    exact Calls.call_len_list pl.isList (by simp only [List.size_toArray] <;> omega) ⟨.int ys.length,H,I.tok _,⟨s.toks+1,by rw [List.size_toArray,hlen]⟩,q⟩
  · obtain ⟨its,r',pl,hz⟩:=I.tuple hq
    have hlen:=r'.length
    exact len_tuple pl (by simp only [List.size_toArray] <;> omega) ⟨.int ys.length,H,I.tok _,⟨s.toks+1,by rw [List.size_toArray,hlen]⟩,q⟩
theorem Zcv:W8 X (.builtin "len") (fun xs H Q=>∃ z,xs=[.str z]/\z.length<=sizeLine/\Q (.int z.length) H):=by
  intro pins s σ H xs us Q I r h
  obtain ⟨z,rfl,hz,q⟩:=h
  obtain ⟨u,rfl,t,rfl⟩:=ZcU r
  have hn:=Zcb
  exact len_str (by omega) ⟨.int z.length,H,I.tok _,⟨_,rfl⟩,q⟩
theorem VS:W8 X (.type "list") (fun xs H Q=>∃ p ys,xs=[.ref p]/\(SqL X.K H p ys\/SqT X.K H p ys)/\∀ l,H l=none->Q (.ref l) (upd H l (.lst ys))):=by
  intro pins s σ H xs us Q I r h
  obtain ⟨p,ys,rfl,hq,q⟩:=h
  obtain ⟨u,rfl,rx⟩:=ZcU r
  cases rx
  have fin:∀ (its:List Value),Vals ys its->ys.length<=sizeLine->∀ (h':Heap) (c':Nat),(∀ b o',s.heap.get? b=some o'->h'.get? b=some o') ->
      h'.get? s.heap.objs.size=some { cls:=.type "list",dict:=none,data:=.seq its.toArray c',slots:=#[] }->EP X pins σ Q (.ref s.heap.objs.size) { s with heap:=h' }:=fun its r' hz h' c' kp e=>
    ⟨.ref s.heap.objs.size,_,I.laid (t':=s.toks) kp (Nat.le_refl _) (show ObjOk X.prog X.w _ h' _ (.lst ys) from ⟨hz,its,c',r',e⟩),rfl,q _ (I.hok.fresh (Nat.le_refl _))⟩
  rcases hq with hq | hq
  · obtain ⟨its,r',pl,hz⟩:=I.list hq
    have hlen:=r'.length
    obtain ⟨o,ho,hc,n,hd⟩:=pl.isList
    exact call_list_seq p (.inl rfl) ho hc hd (fun h' c' kp e=>fin its r' hz h' c' kp e) (by simp only [List.size_toArray] <;> omega)
  · obtain ⟨its,r',pl,hz⟩:=I.tuple hq
    have hlen:=r'.length
    obtain ⟨o,ho,hc,n,hd⟩:=pl
    exact call_list_seq p (.inr rfl) ho hc hd (fun h' c' kp e=>fin its r' hz h' c' kp e) (by simp only [List.size_toArray] <;> omega)
theorem Vc:W8 X (.type "tuple") (fun xs H Q=>∃ p ys,xs=[.ref p]/\((SqL X.K H p ys/\∀ l,H l=none->Q (.ref l) (upd H l (.tup ys)))\/(SqT X.K H p ys/\Q (.ref p) H))):=by
  intro pins s σ H xs us Q I r h
  obtain ⟨p,ys,rfl,h⟩:=h
  obtain ⟨u,rfl,rx⟩:=ZcU r
  cases rx
  rcases h with ⟨hq,q⟩ | ⟨hq,q⟩
  · obtain ⟨its,r',pl,hz⟩:=I.list hq
    have hlen:=r'.length
    refine call_tuple_list pl.isList (fun h' kp=>?_) (by simp only [List.size_toArray] <;> omega)
    have I1:Inv X pins σ H { s with heap:=h' }:=I.kept (t':=s.toks) kp
    have I2:Inv X pins σ (upd H h'.objs.size (.tup ys)) { s with heap:=h'.push { cls:=.type "tuple",data:=.seq its.toArray } }:=
      I1.laid (t':=s.toks) (fun b o e=>Heap.get?_push_of_some _ e) (Nat.le_refl _) (show ObjOk X.prog X.w _ _ _ (.tup ys) from ⟨hz,its,r',IsTup.new _ _⟩)
    exact ⟨.ref h'.objs.size,_,I2,rfl,q _ (I1.hok.fresh (Nat.le_refl _))⟩
  · obtain ⟨its,r',pl,hz⟩:=I.tuple hq
    exact call_tuple_same pl ⟨.ref p,H,I,rfl,q⟩
noncomputable def tyV (K:PySem.W.Frag) (T:String) (x:V) (H:Hp):Prop:=match x with
  | .str _=>T="str"
  | .int _=>T="int"
  | .ref p=>(T="list"/\∃ xs,SqL K H p xs)\/(T="tuple"/\∃ o,K.lookup p=some o/\o.cls=.type "tuple"/\o.dict=none) \/
      (T="dict"/\((∃ kvs,H p=some (.dK kvs))\/∃ kvs,H p=some (.dT kvs)))\/(T="set"/\∃ S n,H p=some (.set S n))
  | _=>False
theorem ZjY {pins:List (Addr×Obj)} {σ:St} {H:Hp} {s:Shared} {T:String} {x:V} {v:Value} (I:Inv X pins σ H s) (r:RelV x v) (ty:tyV X.K T x H) :
    s.TypeIs v T/\∀ a,v=.ref a->∃ ob,s.heap.get? a=some ob/\ob.dict=none:=by
  cases x with
  | str z=>
    obtain ⟨t,rfl⟩:=r
    cases (show T="str" from ty)
    exact ⟨typeIs_str s z t,fun _ e=>nomatch e⟩
  | int i=>
    obtain ⟨t,rfl⟩:=r
    cases (show T="int" from ty)
    exact ⟨typeIs_int s i t,fun _ e=>nomatch e⟩
  | ref p=>
    cases r
    rcases ty with ⟨rfl,xs,hq⟩ | ⟨rfl,o,hk,hc,hd⟩ | ⟨rfl,hk⟩ | ⟨rfl,S,n,hk⟩
    · obtain ⟨its,_,pl,_⟩:=I.list hq
      refine ⟨pl.isList.typeIs,fun a e=>?_⟩
      cases e
      obtain ⟨o,n,e,c,hd,_⟩:=pl
      exact ⟨o,e,hd⟩
    · refine ⟨⟨o,I.kIn p o hk,hc⟩,fun a e=>?_⟩
      cases e
      exact ⟨o,I.kIn _ o hk,hd⟩
    · have z:∃ o,s.heap.get? p=some o/\o.ExactDict:=by
        rcases hk with ⟨kvs,hk⟩ | ⟨kvs,hk⟩
        · obtain ⟨_,_,_,_,o,_,_,e,ex,_⟩:=I.hok p _ hk
          exact ⟨o,e,ex⟩
        · obtain ⟨_,_,_,_,o,_,_,e,ex,_⟩:=I.hok p _ hk
          exact ⟨o,e,ex⟩
      obtain ⟨o,e,ex⟩:=z
      refine ⟨⟨o,e,ex.1⟩,fun a e2=>?_⟩
      cases e2
      exact ⟨o,e,ex.2.1⟩
    · obtain ⟨o,_,_,_,e,ex,_⟩:=I.hok p _ hk
      refine ⟨⟨o,e,ex.1⟩,fun a e2=>?_⟩
      cases e2
      exact ⟨o,e,ex.2.1⟩
  | _=>exact False.elim ty
noncomputable def tBM (K:PySem.W.Frag) (T:String) (r:V->List V->Hp->VK->Prop) (to:TE) (t:TA):TE:=fun σ H Q=>to σ H fun x H1=>tyV K T x H1/\t σ H1 fun xs H2=>r x xs H2 Q
variable {o e:Expr} {es:List Expr} {to:TE} {t:TA} {name:Str} {apos cpos:Pos} {T id:String} {r:V->List V->Hp->VK->Prop}
theorem Zi0 (pa:PlainAttrs T) (slot:Slot T name id) (hty:typeOf (.builtin id)=pure (.type "method_descriptor")) (hm:MtR X id r) (ho:PE X o to) (ha:PA X (e::es) t)
    (hbase:attributeBase o name X.env (eval o X.env)=eval o X.env:=by rfl)
    (hfew:((backTo cpos (starEach (e::es) X.env)).all (fun x=>!x.1)&&(backToKw cpos (keywordEach [] X.env)).all (fun x=>x.1.isSome)
      && decide ((e::es).length+([]:List Keyword).length+(if ([]:List Keyword).isEmpty then 0 else 1) < 30))=true:=by rfl)
    (hline:(apos.endLine==cpos.line)=true:=by rfl) (hs:starEach (e::es) X.env=(false,eval e X.env)::starEach es X.env:=by rfl) (hplain:(backTo cpos (starEach es X.env)).any (·.1)=false:=by rfl) :
    PE X (.Call (.Attribute o name apos) (e::es) [] cpos) (tBM X.K T r to t):=by
  intro pins s σ H Q I h
  refine wpAny_Call_method_late hbase hfew hline rfl (thn (ho pins s σ H _ I h) fun v s1 zq=>?_)
  obtain ⟨x,H1,I1,r1,ty,q1⟩:=zq
  obtain ⟨h1,h2⟩:=ZjY I1 r1 ty
  refine ⟨T,id,pa,slot,hty,h1,h2,?_⟩
  have hA:=ha cpos pins s1 σ H1 _ I1 q1
  rw [hs] at hA ⊢
  refine Calls.callWith_builtin (by show (false||(backTo cpos (starEach es X.env)).any (·.1))=false; rw [hplain] <;> rfl) (Calls.evalArgs_plain ?_)
  exact thn hA fun us s2 ⟨vs,H2,I2,r2,q2⟩=>hm pins s2 σ H2 x vs v us Q I2 r1 r2 q2
end
noncomputable def MtM (X:Cx) (id:String) (r:V->List V->Hp->VK->Prop):Prop:=
  ∀ (pins:List (Addr×Obj)) (s:Shared) (σ:St) (H:Hp) (x:V) (xs:List V) (v:Value) (us:List Value) (Q:VK),Inv X pins σ H s->RelV x v->Vals xs us->r x xs H Q ->
    wpAny (model X.prog X.w) X.A (call (.builtin id) (v::us)) (EP X pins σ Q) X.xe s
theorem Vals.one:∀ {x:V} {us:List Value},Vals [x] us->∃ u,us=[u]/\RelV x u
  | _,_,.cons r .nil=>⟨_,rfl,r⟩
theorem Vals.reverse {xs:List V} {us:List Value} (h:Vals xs us):Vals xs.reverse us.reverse:=by
  induction h with
  | nil=>exact .nil
  | cons r t ih=>rw [List.reverse_cons,List.reverse_cons]; exact Vals.append ih (.cons r .nil)
section
variable {X:Cx} {pins:List (Addr×Obj)} {σ:St} {H:Hp} {s:Shared} {l b:Addr} {xs ys zs:List V}
theorem Inv.lset {its its':List Value} {n:Nat} {f:Array Value->Array Value} {t':Nat} (I:Inv X pins σ H s) (hH:H l=some (.lst xs))
    (e:s.heap.get? l=some { cls:=.type "list",data:=.seq its.toArray n }) (hf:f its.toArray=its'.toArray) (hv:Vals ys its') (hz:ys.length<=sizeLine) :
    Inv X pins σ (upd H l (.lst ys)) { s with heap:=s.heap.update l (Obj.mapSeq f),toks:=t' }:=by
  have q:=PySem.IsL.update e f
  rw [hf] at q
  refine I.write (x:=l) (e:=l) (by rw [hH]; exact trivial) (.inl rfl) (fun b' u hb hu=>(Heap.get?_update_other s.heap (Obj.mapSeq f) (Ne.symm hb)).trans hu) ⟨_,q⟩ ?_
  exact ⟨hz,its',_,hv,q⟩
theorem Inv.lnew {its:List Value} {t':Nat} (I:Inv X pins σ H s) (hv:Vals ys its) (hz:ys.length<=sizeLine) :
    Inv X pins σ (upd H s.heap.objs.size (.lst ys)) { s with heap:=s.heap.push { cls:=.type "list",data:=.seq its.toArray },toks:=t' }:=
  I.laid (fun _ _ q=>Heap.get?_push_of_some _ q) (Nat.le_refl _) ⟨hz,its,0,hv,Heap.get?_push_size _ rfl⟩
theorem Inv.fresh (I:Inv X pins σ H s):H s.heap.objs.size=none:=I.hok.fresh (Nat.le_refl _)
theorem Inv.lstM (I:Inv X pins σ H s) (hH:H l=some (.lst xs)):xs.length<=sizeLine/\∃ (its:List Value) (n:Nat),Vals xs its/\xs.length=its.length/\s.heap.get? l=some { cls:=.type "list",data:=.seq its.toArray n }:=by
  obtain ⟨z,its,n,r,e⟩:=I.hok l _ hH
  exact ⟨z,its,n,r,r.length,e⟩
end
section
variable {X:Cx}
noncomputable def ZiK:V->List V->Hp->VK->Prop:=fun x vs H Q=>∃ l xs y,x=.ref l/\vs=[y]/\H l=some (.lst xs)/\xs.length < sizeLine/\Q .non (upd H l (.lst (xs++[y])))
theorem Zb7:MtM X "list.append" ZiK:=by
  intro pins s σ H x vs v us Q I rx rv h
  obtain ⟨l,xs,y,rfl,rfl,hH,hz,q⟩:=h
  cases rx
  obtain ⟨u,rfl,ru⟩:=rv.one
  obtain ⟨z,its,n,r,hl,e⟩:=I.lstM hH
  refine call_meets F.slot_list_append ⟨_,e,rfl⟩ F.entry_list_append (F.args_list_append_2 _ _) (PySem.list_append l its.toArray n u (by rw [List.size_toArray]; omega)) ⟨e,?_⟩
  refine ⟨.non,_,I.lset (its':=its++[u]) hH e (by simp) (r.append (.cons ru .nil)) ?_,rfl,q⟩
  rw [List.length_append,List.length_singleton]
  omega
end
section
variable {prog:Program} {w:World} {A:Around} {E:Value->Shared->Prop} {s:Shared}
end
section
variable {X:Cx}
end
end L2
namespace Att
open PySem PySem.W PySem.Calls PyProof.Rows
theorem WK {P:Params} {h:Heap}:∀ (ns:List Int) (vs:List Value),WellAll P h vs (ns.map WData.int)->IntsAre vs ns:=by
  intro ns
  induction ns with
  | nil=>
    intro vs w
    rw [List.map_nil] at w
    cases w
    exact .nil
  | cons n ns ih=>
    intro vs w
    rw [List.map_cons] at w
    cases w with
    | cons a b=>
      cases a
      exact .cons _ _ (ih _ b)
theorem Zfs {l:OpenLaw} {n:Nat} (hn:l.most=some n) {P:Params} {h:Heap} {args:List WData} {vals:List Value}
    (hpre:l.row.toRowW.claim.pre args=true) (hwl:WellAll P h vals args) :
    ∃ a vs ns,vals=[Value.ref a]/\args=[WData.list (ns.map WData.int)]/\h.get? a=some { cls:=.type "list",data:=.seq vs.toArray }/\IntsAre vs ns/\ns.length<=n:=by
  have hsh:WShape.hasAll [] args [.list .int]=true:=(pre_splitW hpre).1
  have hc:l.pre.holds [] { args:=args }=true:=(pre_splitW hpre).2
  obtain ⟨d,r,rfl,h1,h2⟩:=hasAllW_cons hsh
  obtain rfl:=hasAllW_nil h2
  obtain ⟨xs,rfl,h3⟩:=hasW_list h1
  obtain ⟨ns,rfl⟩:=items_int h3
  have hlen:ns.length<=n:=by
    unfold OpenLaw.pre at hc
    have h4:(WTm.not (.lt (.lit (.int (n:Int))) (.len (.arg 0)))).holds [] { args:=[.list (ns.map .int)] }=true:=by
      have h4:=(holds_andW hc).1
      rw [hn] at h4
      exact h4
    have h5:=condW_of h4 (w_not (w_lt w_lit (w_len_list (w_arg rfl))))
    rw [List.length_map] at h5
    refine Nat.le_of_not_lt fun q=>?_
    have q':(n:Int) < ((ns.length:Nat):Int):=by omega
    first
      | (rw [decide_eq_true q'] at h5; exact absurd h5 (by decide))
      | (simp at h5; omega)
  cases hwl with
  | cons w1 w2=>
    cases w2
    cases w1 with
    | list ho hall=>exact ⟨_,_,ns,rfl,rfl,ho,WK ns _ hall,hlen⟩
theorem ZfD (l:OpenLaw) (args:List WData):l.row.toRowW.claim.post args (.bool true) args=true:=
  postW_of (r:=l.row.toRowW) (X:=(true==true))
    (show WShape.has [] (.bool true) .bool=true by first | rfl | decide | simp [WShape.has,WShape.arms,WShape.armsAll])
    (show (WTm.eq .res (.lit (.bool true))).value [] { args:=args,res:=some (.bool true),after:=args }=some (.bool (true==true)) from w_eq_bool (w_res rfl) w_lit) rfl
theorem attach_call {l:OpenLaw} {n:Nat} {q:Program} {loose:List Str} {XP:(Str->Option Value)->Heap->Prop} {YP:World->Heap->Prop} {d:DefRec}
    (hn:l.most=some n) (hdf:d.params.defaults=[])
    (call:∀ (w:World) (s₀ s₁:Shared) (mg mb:Str->Option Value) (fa:Addr) (o:Obj) (pm cd doc:Value) (a:Addr) (vs:List Value) (ns:List Int),
      Ground q loose [] XP w s₀ mg mb s₁.heap->YP w s₁.heap ->
      s₁.heap.get? fa=some o->o.data=.func (docDef d.name d.params d.body d.scope pm cd doc)->s₁.heap.CodeRec cd d.name->mg d.name=some (.ref fa) ->
      s₁.heap.get? a=some { cls:=.type "list",data:=.seq vs.toArray }->IntsAre vs ns->ns.length<=n->s₁.gens=#[] ->
      codeAny (model l.prog w) callerA (.call (.ref fa) ⟨[.ref a],[]⟩) (fun r s'=>r=.ok (.ret (.bool true))/\OldK s₁.heap s'.heap/\s'.os=s₁.os/\AllBare s'.gens) s₁) :
    WalkO q loose XP YP l.row.toRowW d [] (fun f vs=>PySem.call f vs):=by
  intro w s₀ s₁ mg mb G Y fa o pm cd doc dV kV ho hd hcd hD hmg hg args vals as hpre hlay hrd hwl hlo
  obtain rfl:dV=.none:=Dflts.none hD hdf
  obtain rfl:kV=.none:=Dflts.noKw hD
  obtain ⟨a,vs,ns,rfl,rfl,hobj,hints,hlen⟩:=Zfs hn hpre hwl
  refine enter_call (codeAny_mono (call w s₀ s₁ mg mb fa o pm cd doc a vs ns G Y ho (fd_plain hd) hcd hmg hobj hints hlen hg) fun r s' hq=>?_)
  obtain ⟨rfl,h2,h3,h4⟩:=hq
  exact ⟨.inl ⟨.bool true,.bool true,[],rfl,fun _=>rfl,.bool true,ZfD l _,fun _=>⟨List.Pairwise.nil,fun _ hm=>(nomatch hm)⟩⟩,h2,h3,h4⟩
section
variable {prog:Program} {w:World} {A:Around} {E:Value->Shared->Prop} {s:Shared} {K:Frag}
end
end Att
namespace L2
open PySem PySem.Spec PyProof.Rows
theorem ZbO:∀ {vs:List Value} {ns:List Int},IntsAre vs ns->Vals (ns.map V.int) vs
  | _,_,.nil=>.nil
  | _,_,.cons n t h=>.cons ⟨t,rfl⟩ (ZbO h)
noncomputable def Zmo (H:Hp):Prop:=∀ b,H b=none\/∃ o xs,H b=some (.frz o (.lst xs))
theorem Zhr {P:Program} {w:World} {K:PySem.W.Frag} {mg mb:Str->Option Value} {CX:CXT} {k:Nat} {fa a:Addr} {fd:FuncData} {x:Str} {sp:Sp} {s₁:Shared} {vs:List Value} {ns:List Int}
    (KX:K.In s₁.heap) (hns:s₁.heap.Ns mainGlobals mg) (hb:s₁.heap.Ns builtinsNs mb) (hbb:∀ x:Str,x≠"__name__"->mb x=bootBuiltins x) (hlim:s₁.heap.NoLimit) (hg:s₁.gens=#[])
    (ha:s₁.heap.get? a=some { cls:=.type "list",data:=.seq vs.toArray }) (hi:IntsAre vs ns) (hl:ns.length<=sizeLine) (hr:Room k callerA)
    (F:∀ base:Heap,K.In base->base.Ns mainGlobals mg->ZdC P w K mg base CX k fa fd [x] sp) (hbind:∀ (s:Shared) (u:Value),BindsTo s fd ⟨[u],[]⟩ [(x,u)])
    (hsp:∀ H:Hp,Zmo H->SqL K H a (ns.map V.int)->sp [.ref a] H (fun v _=>v=.bl true) fun _ _ _=>False)
    (hCX:∀ H e s',CX [] H s₁ (fun _ _ _=>False) e s'->False) :
    codeAny (model P w) callerA (.call (.ref fa) ⟨[.ref a],[]⟩) (fun r s'=>r=.ok (.ret (.bool true))/\OldK s₁.heap s'.heap/\s'.os=s₁.os/\AllBare s'.gens) s₁:=by
  have rv:=ZbO hi
  have lenV:=hi.length
  have core:∀ H:Hp,Zmo H->SqL K H a (ns.map V.int)->HOk P w H s₁.heap->(∀ b,H b≠none->b=a)->(H a≠none->K.lookup a=none) ->
      codeAny (model P w) callerA (.call (.ref fa) ⟨[.ref a],[]⟩) (fun r s'=>r=.ok (.ret (.bool true))/\OldK s₁.heap s'.heap/\s'.os=s₁.os/\AllBare s'.gens) s₁:=by
    intro H hO hS hok hA hK
    have base_of:∀ {b:Addr} {o:Obj},s₁.heap.get? b=some o->H b=none->(ZhA s₁.heap H).get? b=some o:=fun e n=>Zhz e n
    have noA:∀ {b:Addr} {o:Obj} {es:Array DictEntry} {ep:Nat},s₁.heap.get? b=some o->o.data=.dict es ep->H b=none:=fun {b o es ep} e d=>by
      cases q:H b with
      | none=>rfl
      | some u=>
        have e':b=a:=hA b (by rw [q]; simp)
        subst e'
        rw [ha] at e; cases e
        have d':Data.seq vs.toArray _=Data.dict es ep:=d
        cases d'
    have nsK:∀ {b:Addr} {m:Str->Option Value},s₁.heap.Ns b m->(ZhA s₁.heap H).Ns b m:=fun {b m} ⟨o,es,ep,e,d,r⟩=>⟨o,es,ep,base_of e (noA e d),d,r⟩
    have hKb:K.In (ZhA s₁.heap H):=fun b o e=>base_of (KX b o e) (by
      cases q:H b with
      | none=>rfl
      | some u=>
        have e':b=a:=hA b (by rw [q]; simp)
        subst e'
        rw [hK (by rw [q]; simp)] at e; cases e)
    have hM:Mod K mg (ZhA s₁.heap H):=⟨hKb,nsK hns,⟨mb,nsK hb,hbb⟩,let ⟨mc,h1,h2⟩:=hlim; ⟨mc,nsK h1,h2⟩⟩
    have e0:Zlv P w K mg (ZhA s₁.heap H) callerA [] s₁ H:=⟨rfl,hM,fun b o e=>Zi6 e,Nat.le_of_eq (Zge _ _),trivial,fun b hb=>absurd (show b∈([]:List Addr) from hb) (by simp),hok,.of_eq hg⟩
    refine codeAny_mono ((F _ hKb (nsK hns)).run callerA [] s₁ H ⟨[.ref a],[]⟩ [.ref a] [.ref a] _ _ hr e0 (hbind s₁ (.ref a)) (.cons rfl .nil) (hsp H hO hS)) fun r s' h=>?_
    cases r with
    | error e=>exact (hCX H e s' h).elim
    | ok fl=>
      cases fl with
      | next=>exact False.elim h
      | brk=>exact False.elim h
      | cont=>exact False.elim h
      | ret u=>
        obtain ⟨v,H',os,bare,un,hok',r',q⟩:=h
        have q':v=.bl true:=q
        subst q'
        obtain rfl:u=Value.bool true:=r'
        refine ⟨rfl,OldK.of_keep fun b o e=>?_,os,bare⟩
        cases q:H b with
        | none=>exact un.keep b o e q (by intro z; exact absurd (show b∈([]:List Addr) from z) (by simp)) (by simp)
        | some u=>
          rcases hO b with z | ⟨ob,xs,z⟩
          · rw [q] at z; cases z
          · have z2:=un.frzs b ob _ z
            obtain ⟨e1,_⟩:=hok b _ z
            obtain ⟨e2,_⟩:=hok' b _ z2
            rw [e] at e1; cases e1
            exact e2
  cases hk:K.lookup a with
  | some o=>
    have e:=KX a o hk
    rw [ha] at e
    cases e
    refine core (fun _=>none) (fun _=>.inl rfl) (.inr ⟨_,vs.toArray,_,hk,rfl,rfl,rfl,by rw [List.size_toArray,lenV]; exact hl,by simpa using rv⟩) (fun b u z=>by have z':(none:Option HO)=some u:=z; cases z') (fun b z=>absurd rfl z) fun z=>absurd rfl z
  | none=>
    refine core (fun b=>if b=a then some (.frz { cls:=.type "list",data:=.seq vs.toArray } (.lst (ns.map V.int))) else none) (fun b=>?_) (.inl (.inr ⟨{ cls:=.type "list",data:=.seq vs.toArray },if_pos rfl⟩)) (fun b u z=>?_) (fun b z=>?_) fun _=>hk
    · by_cases hb:b=a
      · exact .inr ⟨_,_,if_pos hb⟩
      · exact .inl (if_neg hb)
    · by_cases hb:b=a
      · have z':=(if_pos hb).symm.trans z
        cases z'
        subst hb
        exact ⟨ha,by rw [List.length_map]; exact hl,vs,_,rv,ha⟩
      · have z':=(if_neg hb).symm.trans z
        cases z'
    · by_cases hb:b=a
      · exact hb
      · exact absurd (if_neg hb) z
theorem walk_of {l:PySem.W.OpenLaw} {n k:Nat} {q:Program} {loose:List Str} {XP:(Str->Option Value)->Heap->Prop} {YP:World->Heap->Prop} {d:DefRec} {K:Params->PySem.W.Frag} {CX:World->CXT} {sp:World->Sp} {x:Str}
    (hn:l.most=some n) (hn2:n<=sizeLine) (hdf:d.params.defaults=[]) (hr:Room k callerA)
    (hY:∀ (w:World) (h:Heap),YP w h->(K w.params).In h)
    (F:∀ (w:World) (mg:Str->Option Value) (fa:Addr) (h:Heap),(K w.params).In h->h.Ns mainGlobals mg->mg d.name=some (.ref fa) ->
      ∃ fd:FuncData,(∀ (s:Shared) (u:Value),BindsTo s fd ⟨[u],[]⟩ [(x,u)]) /\
        ∀ base:Heap,(K w.params).In base->base.Ns mainGlobals mg->ZdC l.prog w (K w.params) mg base (CX w) k fa fd [x] (sp w))
    (hsp:∀ (w:World) (H:Hp) (a:Addr) (ns:List Int),ns.length<=n->Zmo H->SqL (K w.params) H a (ns.map V.int)->sp w [.ref a] H (fun v _=>v=.bl true) fun _ _ _=>False)
    (hCX:∀ (w:World) (H:Hp) (s:Shared) (e:Value) (s':Shared),CX w [] H s (fun _ _ _=>False) e s'->False) :
    PySem.W.WalkO q loose XP YP l.row.toRowW d [] (fun f vs=>PySem.call f vs):=by
  refine Att.attach_call hn hdf fun w s₀ s₁ mg mb fa o pm cd doc a vs ns G Y ho hd hcd hmg hobj hints hlen hg=>?_
  have KX:=hY w _ Y
  obtain ⟨fd,hb,hF⟩:=F w mg fa _ KX G.T.g hmg
  exact Zhr KX G.T.g G.T.b G.T.builtins G.T.nolimit hg hobj hints (Nat.le_trans hlen hn2) hr hF hb (fun H hO hS=>hsp w H a ns hlen hO hS) fun H e s'=>hCX w H s₁ e s'
noncomputable def UQ (s:Stmt):Arguments:=match s with
  | .FunctionDef _ a _ _ _ _ _ _ _ _=>a
  | _=>{ posonlyargs:=[],args:=[],vararg:=none,kwonlyargs:=[],kw_defaults:=[],kwarg:=none,defaults:=[] }
noncomputable def QE (s:Stmt):List Stmt:=match s with
  | .FunctionDef _ _ b _ _ _ _ _ _ _=>b
  | _=>[]
noncomputable def Zi (s:Stmt):Scope:=match s with
  | .FunctionDef _ _ _ _ _ _ sc _ _ _=>sc
  | _=>{ kind:=.function,names:=[],isGenerator:=false,isCoroutine:=false }
noncomputable abbrev CX0:CXT:=fun _ _ _ _ _ _=>False
noncomputable abbrev E0:XK:=fun _ _ _=>False
theorem ZlT {X:Cx}:W2 CX0 X E0:=fun _ _ _ _ _ _ _ h=>h.elim
structure Fun (K:PySem.W.Frag) (x qual:Str) (st:Stmt) (f:Addr) (fd:FuncData):Prop where
  ex:∃ (oc:Value) (od:Option Addr) (kV doc pm:Value) (an:Option Addr) (cdv ct:Value) (osl:Array (Option Value)),
    fd=PySem.W.fnOf x qual (UQ st) (QE st) (Zi st) .none kV doc pm an cdv ct/\K.lookup f=some ⟨oc,od,.func fd,osl⟩/\PySem.W.codeIn K cdv qual=true
  kp:PySem.W.keepIn K (.ref f)=true
section
variable {P:Program} {w:World} {K:PySem.W.Frag} {mg:Str->Option Value} {base:Heap}
theorem Fun.ok {x qual:Str} {st:Stmt} {f:Addr} {fd:FuncData} {N ps:List Str} {k:Nat} {sp:Sp} (F:Fun K x qual st f fd) (S:Zr N ps (Zi st)) (len:∀ vs H Q E,sp vs H Q E->vs.length=ps.length)
    (hbody:∀ (cdv:Value) (A:Around) (outer:List Env) (s:Shared) (H:Hp) (vs:List V) (Q:VK) (E:XK),Room k (A.deeper (envOfC qual (Zi st) s.heap.objs.size f cdv))->sp vs H Q E ->
      ∃ t,PSs (ZeN CX0 P w K mg base N qual (Zi st) f cdv A outer s H E).nox (QE st) t/\t { nx:=fun _ H'=>Q .non H',rt:=Q } (start N vs) H):ZdC P w K mg base CX0 (k+1) f fd ps sp:=by
  obtain ⟨oc,od,kV,doc,pm,an,cdv,ct,osl,rfl,lk,hcd⟩:=F.ex
  refine Zk6 lk hcd S len fun A outer s H vs Q E hr hsp=>?_
  obtain ⟨t,h,q⟩:=hbody cdv A outer s H vs Q E hr hsp
  exact ⟨t,h.nox,q⟩
theorem Fun.binds {x qual:Str} {st:Stmt} {f:Addr} {fd:FuncData} {ps:List Str} (F:Fun K x qual st f fd)
    (h:∀ (kV doc pm:Value) (an:Option Addr) (cdv ct:Value) (us:List Value),us.length=ps.length->bindArgs (PySem.W.fnOf x qual (UQ st) (QE st) (Zi st) .none kV doc pm an cdv ct) ⟨us,[]⟩=pure (ps.zip us)):Binds K fd ps []:=by
  obtain ⟨oc,od,kV,doc,pm,an,cdv,ct,osl,rfl,lk,hcd⟩:=F.ex
  exact .all (h kV doc pm an cdv ct)
theorem Zk3 {x qual:Str} {st:Stmt} {f:Addr} {oc:Value} {od an:Option Addr} {osl:Array (Option Value)} {kV doc pm cdv ct:Value} (l:K.lookup f=some ⟨oc,od,.func (PySem.W.fnOf x qual (UQ st) (QE st) (Zi st) .none kV doc pm an cdv ct),osl⟩)
    (c:PySem.W.codeIn K cdv qual=true) (k:PySem.W.keepIn K (.ref f)=true):Fun K x qual st f (PySem.W.fnOf x qual (UQ st) (QE st) (Zi st) .none kV doc pm an cdv ct):=⟨⟨oc,od,kV,doc,pm,an,cdv,ct,osl,rfl,l,c⟩,k⟩
end
section
variable {X:Cx}
theorem pv (i:Nat) {x:Str} {pos:Pos} (hN:X.N[i]?=some x:=by rfl) (hv:Vis X.env.scope x:=by first | exact Or.inl rfl | exact Or.inr (Or.inl rfl) | exact Or.inr (Or.inr rfl)) (hd:(x==("__debug__":Str))=false:=by decide)
    (hcd:(x==("__classdict__":Str))=false:=by decide):PE X (.Name x pos) (Zlm i):=Zkn hN hv hd hcd
end
theorem ZmG {A B:Prop} (h:B):if false=true then A else B:=by
  rw [if_neg Bool.false_ne_true]
  exact h
theorem ZmF {A B:Prop} (h:A):if true=true then A else B:=by
  rw [if_pos rfl]
  exact h
noncomputable def Same (H H':Hp):Prop:=∀ b o,H b=some o->H' b=some o
theorem Same.refl (H:Hp):Same H H:=fun _ _ h=>h
theorem Same.trans {H H1 H2:Hp} (a:Same H H1) (b:Same H1 H2):Same H H2:=fun c o h=>b c o (a c o h)
theorem Same.free {H H':Hp} (e:Same H H') {l:Addr} (h:H' l=Option.none):H l=Option.none:=by
  cases q:H l with
  | none=>rfl
  | some o=>
    rw [e l o q] at h
    cases h
theorem Same.seq {K:PySem.W.Frag} {H H':Hp} {a:Addr} {xs:List V} (e:Same H H') (h:SqL K H a xs):SqL K H' a xs:=by
  rcases h with (h | ⟨o,h⟩) | h
  · exact .inl (.inl (e _ _ h))
  · exact .inl (.inr ⟨o,e _ _ h⟩)
  · exact .inr h
end L2
namespace L3
open PySem PySem.Spec PyProof.Rows L2
inductive D where
  | non | bl (b:Bool) | int (i:Int) | str (x:Str) | tup (xs:List D) | lst (xs:List D)
  deriving Inhabited
noncomputable abbrev Fz:=Addr->Prop
mutual
noncomputable def Rep (K:PySem.W.Frag) (F:Fz) (H:Hp):D->V->Prop
  | .non,v=>v=.non
  | .bl b,v=>v=.bl b
  | .int i,v=>v=.int i
  | .str x,v=>v=.str x
  | .tup ds,v=>∃ a xs,v=.ref a/\SqT K H a xs/\RepL K F H ds xs
  | .lst ds,v=>∃ a xs,v=.ref a/\F a/\SqL K H a xs/\RepL K F H ds xs
noncomputable def RepL (K:PySem.W.Frag) (F:Fz) (H:Hp):List D->List V->Prop
  | [],xs=>xs=[]
  | d::ds,xs=>∃ y ys,xs=y::ys/\Rep K F H d y/\RepL K F H ds ys
end
structure Ext (K:PySem.W.Frag) (F:Fz) (H:Hp) (F':Fz) (H':Hp):Prop where
  sub:∀ a,F a->F' a
  ls:∀ a xs,F a->SqL K H a xs->SqL K H' a xs
  ts:∀ a xs,SqT K H a xs->SqT K H' a xs
theorem Ext.refl {K:PySem.W.Frag} {F:Fz} {H:Hp}:Ext K F H F H:=⟨fun _ h=>h,fun _ _ _ h=>h,fun _ _ h=>h⟩
theorem Ext.trans {K:PySem.W.Frag} {F F1 F2:Fz} {H H1 H2:Hp} (a:Ext K F H F1 H1) (b:Ext K F1 H1 F2 H2):Ext K F H F2 H2:=
  ⟨fun x h=>b.sub x (a.sub x h),fun x xs hf h=>b.ls x xs (a.sub x hf) (a.ls x xs hf h),fun x xs h=>b.ts x xs (a.ts x xs h)⟩
mutual
theorem Rep.ext {K:PySem.W.Frag} {F F':Fz} {H H':Hp} (e:Ext K F H F' H'):∀ {d:D} {v:V},Rep K F H d v->Rep K F' H' d v
  | .non,_,h=>h
  | .bl _,_,h=>h
  | .int _,_,h=>h
  | .str _,_,h=>h
  | .tup ds,_,h=>by
    unfold Rep at h ⊢
    obtain ⟨a,xs,rfl,ht,hr⟩:=h
    exact ⟨a,xs,rfl,e.ts a xs ht,RepL.ext e hr⟩
  | .lst ds,_,h=>by
    unfold Rep at h ⊢
    obtain ⟨a,xs,rfl,hf,hl,hr⟩:=h
    exact ⟨a,xs,rfl,e.sub a hf,e.ls a xs hf hl,RepL.ext e hr⟩
theorem RepL.ext {K:PySem.W.Frag} {F F':Fz} {H H':Hp} (e:Ext K F H F' H'):∀ {ds:List D} {vs:List V},RepL K F H ds vs->RepL K F' H' ds vs
  | [],_,h=>h
  | d::ds,_,h=>by
    unfold RepL at h ⊢
    obtain ⟨y,ys,rfl,h1,h2⟩:=h
    exact ⟨y,ys,rfl,Rep.ext e h1,RepL.ext e h2⟩
end
theorem RepL.length {K:PySem.W.Frag} {F:Fz} {H:Hp}:∀ {ds:List D} {vs:List V},RepL K F H ds vs->ds.length=vs.length
  | [],_,h=>by unfold RepL at h; subst h; rfl
  | d::ds,_,h=>by
    unfold RepL at h
    obtain ⟨y,ys,rfl,_,h2⟩:=h
    simp [RepL.length h2]
theorem RepL.nil {K:PySem.W.Frag} {F:Fz} {H:Hp}:RepL K F H [] []:=by unfold RepL; rfl
theorem RepL.cons {K:PySem.W.Frag} {F:Fz} {H:Hp} {d:D} {ds:List D} {v:V} {vs:List V} (h1:Rep K F H d v) (h2:RepL K F H ds vs):RepL K F H (d::ds) (v::vs):=by
  unfold RepL; exact ⟨v,vs,rfl,h1,h2⟩
theorem RepL.uncons {K:PySem.W.Frag} {F:Fz} {H:Hp} {d:D} {ds:List D} {vs:List V} (h:RepL K F H (d::ds) vs):∃ y ys,vs=y::ys/\Rep K F H d y/\RepL K F H ds ys:=by
  unfold RepL at h; exact h
theorem RepL.unnil {K:PySem.W.Frag} {F:Fz} {H:Hp} {vs:List V} (h:RepL K F H [] vs):vs=[]:=by unfold RepL at h; exact h
theorem RepL.get {K:PySem.W.Frag} {F:Fz} {H:Hp}:∀ {ds:List D} {vs:List V} {i:Nat} {d:D},RepL K F H ds vs->ds[i]?=some d->∃ v,vs[i]?=some v/\Rep K F H d v
  | [],_,_,_,_,e=>by simp at e
  | d::ds,_,0,d',h,e=>by
    obtain ⟨y,ys,rfl,h1,_⟩:=h.uncons
    simp at e; subst e
    exact ⟨y,rfl,h1⟩
  | d::ds,_,i+1,d',h,e=>by
    obtain ⟨y,ys,rfl,_,h2⟩:=h.uncons
    obtain ⟨v,e1,r⟩:=RepL.get (i:=i) h2 (by simpa using e)
    exact ⟨v,by simpa using e1,r⟩
theorem RepL.append {K:PySem.W.Frag} {F:Fz} {H:Hp}:∀ {ds es:List D} {vs ws:List V},RepL K F H ds vs->RepL K F H es ws->RepL K F H (ds++es) (vs++ws)
  | [],_,_,_,h,h'=>by rw [h.unnil]; exact h'
  | d::ds,es,_,ws,h,h'=>by
    obtain ⟨y,ys,rfl,h1,h2⟩:=h.uncons
    exact .cons h1 (RepL.append h2 h')
theorem RepL.take {K:PySem.W.Frag} {F:Fz} {H:Hp}:∀ {ds:List D} {vs:List V} (n:Nat),RepL K F H ds vs->RepL K F H (ds.take n) (vs.take n)
  | _,_,0,_=>by simp; exact .nil
  | [],_,_+1,h=>by rw [h.unnil]; simp; exact .nil
  | d::ds,_,n+1,h=>by
    obtain ⟨y,ys,rfl,h1,h2⟩:=h.uncons
    exact .cons h1 (RepL.take n h2)
theorem RepL.drop {K:PySem.W.Frag} {F:Fz} {H:Hp}:∀ {ds:List D} {vs:List V} (n:Nat),RepL K F H ds vs->RepL K F H (ds.drop n) (vs.drop n)
  | _,_,0,h=>h
  | [],_,_+1,h=>by rw [h.unnil]; simp; exact .nil
  | d::ds,_,n+1,h=>by
    obtain ⟨y,ys,rfl,h1,h2⟩:=h.uncons
    exact RepL.drop n h2
theorem RepL.reverse {K:PySem.W.Frag} {F:Fz} {H:Hp}:∀ {ds:List D} {vs:List V},RepL K F H ds vs->RepL K F H ds.reverse vs.reverse
  | [],_,h=>by rw [h.unnil]; exact .nil
  | d::ds,_,h=>by
    obtain ⟨y,ys,rfl,h1,h2⟩:=h.uncons
    rw [List.reverse_cons,List.reverse_cons]
    exact (RepL.reverse h2).append (.cons h1 .nil)
structure Grow (F:Fz) (H:Hp) (F':Fz) (H':Hp):Prop where
  same:Same H H'
  sub:∀ a,F a->F' a
  new:∀ a,F' a->F a\/(H a=none/\H' a≠none)
theorem Grow.refl {F:Fz} {H:Hp}:Grow F H F H:=⟨Same.refl H,fun _ h=>h,fun _ h=>.inl h⟩
theorem Same.tup {K:PySem.W.Frag} {H H':Hp} {a:Addr} {xs:List V} (e:Same H H') (h:SqT K H a xs):SqT K H' a xs:=by
  rcases h with (h | ⟨o,h⟩) | h
  · exact .inl (.inl (e _ _ h))
  · exact .inl (.inr ⟨o,e _ _ h⟩)
  · exact .inr h
theorem Grow.ext {K:PySem.W.Frag} {F F':Fz} {H H':Hp} (g:Grow F H F' H'):Ext K F H F' H':=⟨g.sub,fun _ _ _ h=>g.same.seq h,fun _ _ h=>Same.tup g.same h⟩
theorem Grow.trans {F F1 F2:Fz} {H H1 H2:Hp} (a:Grow F H F1 H1) (b:Grow F1 H1 F2 H2):Grow F H F2 H2:=
  ⟨a.same.trans b.same,fun x h=>b.sub x (a.sub x h),fun x h=>(b.new x h).elim (fun z=>(a.new x z).elim .inl fun ⟨z1,z2⟩=>.inr ⟨z1,fun z3=>z2 (b.same.free z3)⟩) fun ⟨z1,z2⟩=>.inr ⟨a.same.free z1,z2⟩⟩
theorem Grow.laid {F:Fz} {H:Hp} {p:Addr} {o:HO} (h:H p=none):Grow F H (fun a=>F a\/a=p) (upd H p o):=
  ⟨fun b u q=>by rw [ZK (ZG q h)]; exact q,fun a z=>.inl z,fun a z=>z.elim .inl fun e=>.inr (by rw [e,ZO]; exact ⟨h,by simp⟩)⟩
theorem Grow.laid0 {F:Fz} {H:Hp} {p:Addr} {o:HO} (h:H p=none):Grow F H F (upd H p o):=
  ⟨fun b u q=>by rw [ZK (ZG q h)]; exact q,fun a z=>z,fun a z=>.inl z⟩
theorem Rep.grow {K:PySem.W.Frag} {F F':Fz} {H H':Hp} {d:D} {v:V} (h:Rep K F H d v) (g:Grow F H F' H'):Rep K F' H' d v:=Rep.ext g.ext h
theorem RepL.grow {K:PySem.W.Frag} {F F':Fz} {H H':Hp} {d:List D} {v:List V} (h:RepL K F H d v) (g:Grow F H F' H'):RepL K F' H' d v:=RepL.ext g.ext h
inductive Sl where
  | no | val (d:D) | own (ds:List D)
noncomputable abbrev Rho:=List Sl
structure EnvOk (K:PySem.W.Frag) (F0:Fz) (H0:Hp) (F:Fz) (σ:L2.St) (H:Hp) (ρ:Rho):Prop where
  base:Grow F0 H0 F H
  val:∀ (i:Nat) d,ρ[i]?=some (.val d)->∃ v,σ[i]?=some (some v)/\Rep K F H d v
  own:∀ (i:Nat) ds,ρ[i]?=some (.own ds)->∃ a xs,σ[i]?=some (some (.ref a))/\H a=some (.lst xs)/\¬ F a/\H0 a=none/\RepL K F H ds xs
  inj:∀ (i j:Nat) ds es a,ρ[i]?=some (.own ds)->ρ[j]?=some (.own es)->σ[i]?=some (some (.ref a))->σ[j]?=some (some (.ref a))->i=j
  len:ρ.length=σ.length
  fz:∀ a,F a->H a≠none\/∃ o,K.lookup a=some o
theorem EnvOk.grow {K:PySem.W.Frag} {F0 F F':Fz} {H0 H H':Hp} {σ:L2.St} {ρ:Rho} (e:EnvOk K F0 H0 F σ H ρ) (g:Grow F H F' H'):EnvOk K F0 H0 F' σ H' ρ where
  base:=e.base.trans g
  val:=fun i d h=>let ⟨v,h1,h2⟩:=e.val i d h; ⟨v,h1,h2.grow g⟩
  own:=fun i ds h=>by
    obtain ⟨a,xs,h1,h2,h3,h4,h5⟩:=e.own i ds h
    refine ⟨a,xs,h1,g.same _ _ h2,fun z=>?_,h4,h5.grow g⟩
    rcases g.new a z with z | z
    · exact h3 z
    · rw [h2] at z; cases z.1
  inj:=e.inj
  len:=e.len
  fz:=fun a z=>by
    rcases g.new a z with z | z
    · rcases e.fz a z with z | z
      · exact .inl fun z2=>z (g.same.free z2)
      · exact .inr z
    · exact .inl z.2
noncomputable abbrev DE:=Rho->Option D
noncomputable abbrev DT:=Rho->Option Bool
noncomputable abbrev DA:=Rho->Option (List D)
inductive RdP (K:PySem.W.Frag) (f:DE) (σ:L2.St) (H:Hp) (Q:VK):Prop
  | mk (ρ:Rho) (F0:Fz) (H0:Hp) (F:Fz) (d:D) (ok:EnvOk K F0 H0 F σ H ρ) (e:f ρ=some d) (q:∀ v F' H',Grow F H F' H'->Rep K F' H' d v->Q v H')
noncomputable def rd (K:PySem.W.Frag) (f:DE):TE:=fun σ H Q=>RdP K f σ H Q
inductive ZnB (K:PySem.W.Frag) (f:DT) (σ:L2.St) (H:Hp) (Q:Bool->Hp->Prop):Prop
  | mk (ρ:Rho) (F0:Fz) (H0:Hp) (F:Fz) (d:Bool) (ok:EnvOk K F0 H0 F σ H ρ) (e:f ρ=some d) (q:∀ F' H',Grow F H F' H'->Q d H')
noncomputable def rdT (K:PySem.W.Frag) (f:DT):TT:=fun σ H Q=>ZnB K f σ H Q
inductive ZnG (K:PySem.W.Frag) (f:DA) (σ:L2.St) (H:Hp) (Q:List V->Hp->Prop):Prop
  | mk (ρ:Rho) (F0:Fz) (H0:Hp) (F:Fz) (d:List D) (ok:EnvOk K F0 H0 F σ H ρ) (e:f ρ=some d) (q:∀ v F' H',Grow F H F' H'->RepL K F' H' d v->Q v H')
noncomputable def rdA (K:PySem.W.Frag) (f:DA):TA:=fun σ H Q=>ZnG K f σ H Q
noncomputable def ED (X:Cx) (e:Expr) (f:DE):Prop:=PE X e (rd X.K f)
noncomputable def TD (X:Cx) (e:Expr) (f:DT):Prop:=PT X e (rdT X.K f)
noncomputable def WTD (X:Cx) (e:Expr) (f:DT):Prop:=PW X e (rdT X.K f)
noncomputable def AD (X:Cx) (es:List Expr) (f:DA):Prop:=PA X es (rdA X.K f)
theorem PE.imp {X:Cx} {e:Expr} {t t':TE} (h:PE X e t) (i:∀ σ H Q,t' σ H Q->t σ H Q):PE X e t':=fun pins s σ H Q I q=>h pins s σ H Q I (i σ H Q q)
theorem PT.imp {X:Cx} {e:Expr} {t t':TT} (h:PT X e t) (i:∀ σ H Q,t' σ H Q->t σ H Q):PT X e t':=fun pins s σ H Q I q=>h pins s σ H Q I (i σ H Q q)
theorem PW.imp {X:Cx} {e:Expr} {t t':TT} (h:PW X e t) (i:∀ σ H Q,t' σ H Q->t σ H Q):PW X e t':=fun wh pins s σ H Q I q=>h wh pins s σ H Q I (i σ H Q q)
theorem PA.imp {X:Cx} {e:List Expr} {t t':TA} (h:PA X e t) (i:∀ σ H Q,t' σ H Q->t σ H Q):PA X e t':=fun pos pins s σ H Q I q=>h pos pins s σ H Q I (i σ H Q q)
theorem PS.imp {X:Cx} {e:Stmt} {t t':TS} (h:PS X e t) (i:∀ D σ H,t' D σ H->t D σ H):PS X e t':=fun pins s σ H D I q=>h pins s σ H D I (i D σ H q)
theorem PSs.imp {X:Cx} {e:List Stmt} {t t':TS} (h:PSs X e t) (i:∀ D σ H,t' D σ H->t D σ H):PSs X e t':=fun pins s σ H D I q=>h pins s σ H D I (i D σ H q)
section
variable {X:Cx} {pos:Pos}
noncomputable def Zd (i:Nat):DE:=fun ρ=>match ρ[i]? with | some (.val d)=>some d | _=>none
noncomputable def Zg (d:D):DE:=fun _=>some d
theorem Zgt {i:Nat} {ρ:Rho} {d:D} (h:Zd i ρ=some d):ρ[i]?=some (.val d):=by
  unfold Zd at h
  split at h
  · rename_i e; rw [e]; cases h; rfl
  · cases h
theorem Za {i:Nat} {e:Expr} (h:PE X e (Zlm i)):ED X e (Zd i):=PE.imp h fun σ H Q zq=>by
  obtain ⟨ρ,F0,H0,F,d,ok,e,q⟩:=zq
  obtain ⟨v,h1,h2⟩:=ok.val i d (Zgt e)
  exact ⟨v,h1,q v F H .refl h2⟩
theorem Ze {i:Int} {j}:ED X (.Constant (.int i) j pos) (Zg (.int i)):=PE.imp Zh4 fun σ H Q zq=>by
  obtain ⟨ρ,F0,H0,F,d,ok,e,q⟩:=zq
  cases e; exact q _ F H .refl (by unfold Rep; rfl)
theorem Q6 {b:Bool} {j}:ED X (.Constant (.bool b) j pos) (Zg (.bl b)):=PE.imp Zks fun σ H Q zq=>by
  obtain ⟨ρ,F0,H0,F,d,ok,e,q⟩:=zq
  cases e; exact q _ F H .refl (by unfold Rep; rfl)
theorem Zig {j}:ED X (.Constant .none j pos) (Zg .non):=PE.imp Zkq fun σ H Q zq=>by
  obtain ⟨ρ,F0,H0,F,d,ok,e,q⟩:=zq
  cases e; exact q _ F H .refl (by unfold Rep; rfl)
theorem WV {x:Str} {j}:ED X (.Constant (.str x) j pos) (Zg (.str x)):=PE.imp Zh1 fun σ H Q zq=>by
  obtain ⟨ρ,F0,H0,F,d,ok,e,q⟩:=zq
  cases e; exact q _ F H .refl (by unfold Rep; rfl)
theorem Zbw {x:Str} {i:Int} {t:Tok} (hg:Gl X x) (hm:X.mg x=some (.int i t)) (hd:(x==("__debug__":Str))=false:=by decide):ED X (.Name x pos) (Zg (.int i)):=
  PE.imp (Zc8 hg hm (v:=.int i) ⟨t,rfl⟩ hd) fun σ H Q ⟨ρ,F0,H0,F,d,ok,e,q⟩=>by cases e; exact q _ F H .refl (by unfold Rep; rfl)
inductive R2P (K:PySem.W.Frag) (r:D->D->Option D) (v u:V) (H:Hp) (Q:VK):Prop
  | mk (x y:D) (F:Fz) (d:D) (r1:Rep K F H x v) (r2:Rep K F H y u) (e:r x y=some d) (q:∀ w F' H',Grow F H F' H'->Rep K F' H' d w->Q w H')
noncomputable def r2 (K:PySem.W.Frag) (r:D->D->Option D):R2:=fun v u H Q=>R2P K r v u H Q
noncomputable def Zh (r:D->D->Option D) (f g:DE):DE:=fun ρ=>(f ρ).bind fun x=>(g ρ).bind fun y=>r x y
theorem bind_some {α β:Type} {o:Option α} {f:α->Option β} {b:β} (h:o.bind f=some b):∃ a,o=some a/\f a=some b:=by
  cases o with
  | none=>cases h
  | some a=>exact ⟨a,rfl,h⟩
theorem ZdJ {K:PySem.W.Frag} {r:D->D->Option D} {f g:DE} {σ:L2.St} {H:Hp} {Q:VK} (h:rd K (Zh r f g) σ H Q):tOp (r2 K r) (rd K f) (rd K g) σ H Q:=by
  obtain ⟨ρ,F0,H0,F,d,ok,e,q⟩:=h
  obtain ⟨x,ex,e⟩:=bind_some e
  obtain ⟨y,ey,e⟩:=bind_some e
  exact ⟨ρ,F0,H0,F,x,ok,ex,fun v F1 H1 g1 r1=>⟨ρ,F0,H0,F1,y,ok.grow g1,ey,fun u F2 H2 g2 r2'=>
    ⟨x,y,F2,d,r1.grow g2,r2',e,fun w F3 H3 g3 r3=>q w F3 H3 (g1.trans (g2.trans g3)) r3⟩⟩⟩
noncomputable def Op2 (X:Cx) (f:Value->Value->Sem Value) (r:D->D->Option D):Prop:=OpR X f (r2 X.K r)
variable {a b c:Expr} {f g h:DE}
theorem Zj {op:Operator} {r:D->D->Option D} (ho:Op2 X (binaryOp op) r) (ha:ED X a f) (hb:ED X b g):ED X (.BinOp a op b pos) (Zh r f g):=
  PE.imp (ZlR ho ha hb) fun _ _ _=>ZdJ
theorem JB {op:CmpOp} {r:D->D->Option D} (ho:Op2 X (compareOp op) r) (ha:ED X a f) (hb:ED X b g) (hm:behindInMarks op b=false):ED X (.Compare a [op] [b] pos) (Zh r f g):=
  PE.imp (ZiZ ho ha hb hm) fun _ _ _=>ZdJ
noncomputable def Zp (f:DE):DT:=fun ρ=>(f ρ).bind fun d=>match d with | .bl b=>some b | _=>none
theorem Zbb {K:PySem.W.Frag} {f:DE} {σ:L2.St} {H:Hp} {Q:Bool->Hp->Prop} (h:rdT K (Zp f) σ H Q):rd K f σ H fun x H'=>∃ k,x=.bl k/\Q k H':=by
  obtain ⟨ρ,F0,H0,F,k,ok,e,q⟩:=h
  obtain ⟨d,ed,e⟩:=bind_some e
  cases d with
  | bl b=>
    cases e
    exact ⟨ρ,F0,H0,F,_,ok,ed,fun v F' H' g r=>⟨k,by unfold Rep at r; exact r,q F' H' g⟩⟩
  | _=>cases e
theorem Yp {op:CmpOp} {r:D->D->Option D} (ho:Op2 X (compareOp op) r) (ha:ED X a f) (hb:ED X b g) (hm:behindInMarks op b=false):TD X (.Compare a [op] [b] pos) (Zp (Zh r f g)):=
  PT.imp (ZiO ho ha hb hm) fun σ H Q q=>ZdJ (Zbb q)
theorem Yf (ha:ED X a f) (he:∀ whole,isTrue a X.env whole=(do let v <- whole; standAt a.pos; holding [v] (truthy v)):=by intro _; rfl):TD X a (Zp f):=
  PT.imp (Zkh ha he) fun σ H Q q=>Zbb q
noncomputable def JY (r r':D->D->Option D) (f g h:DE):DE:=fun ρ=>(f ρ).bind fun x=>(g ρ).bind fun y=>(r x y).bind fun z=>match z with
  | .bl true=>(h ρ).bind fun u=>r' y u
  | .bl false=>some (.bl false)
  | _=>none
theorem ZdK {K:PySem.W.Frag} {r r':D->D->Option D} {f g h:DE} {σ:L2.St} {H:Hp} {Q:VK} (q:rd K (JY r r' f g h) σ H Q):Zfe (r2 K r) (r2 K r') (rd K f) (rd K g) (rd K h) σ H Q:=by
  obtain ⟨ρ,F0,H0,F,d,ok,e,q⟩:=q
  obtain ⟨x,ex,e⟩:=bind_some e
  obtain ⟨y,ey,e⟩:=bind_some e
  obtain ⟨z,ez,e⟩:=bind_some e
  refine ⟨ρ,F0,H0,F,x,ok,ex,fun v F1 H1 g1 r1=>⟨ρ,F0,H0,F1,y,ok.grow g1,ey,fun u F2 H2 g2 r2'=>
    ⟨x,y,F2,z,r1.grow g2,r2',ez,fun w F3 H3 g3 r3=>?_⟩⟩⟩
  cases z with
  | bl k=>
    refine ⟨k,by unfold Rep at r3; exact r3,?_⟩
    cases k with
    | true=>
      rw [if_pos rfl]
      obtain ⟨u',eu,e⟩:=bind_some e
      exact ⟨ρ,F0,H0,F3,u',((ok.grow g1).grow g2).grow g3,eu,fun w' F4 H4 g4 r4=>⟨y,u',F4,d,(r2'.grow g3).grow g4,r4,e,fun w5 F5 H5 g5 r5=>q w5 F5 H5 (g1.trans (g2.trans (g3.trans (g4.trans g5)))) r5⟩⟩
    | false=>
      rw [if_neg (by decide)]
      cases e
      exact q _ F3 H3 (g1.trans (g2.trans g3)) (by unfold Rep; rfl)
  | _=>cases e
theorem Ud {op op':CmpOp} {r r':D->D->Option D} (ho:Op2 X (compareOp op) r) (ho':Op2 X (compareOp op') r') (ha:ED X a f) (hb:ED X b g) (hc:ED X c h)
    (hm:lastMarks [op,op'] [b,c]=false:=by with_unfolding_all rfl):ED X (.Compare a [op,op'] [b,c] pos) (JY r r' f g h):=
  PE.imp (Zhj ho ho' ha hb hc hm) fun _ _ _=>ZdK
theorem Zg3 {op op':CmpOp} {r r':D->D->Option D} (ho:Op2 X (compareOp op) r) (ho':Op2 X (compareOp op') r') (ha:ED X a f) (hb:ED X b g) (hc:ED X c h)
    (hm:lastMarks [op,op'] [b,c]=false:=by with_unfolding_all rfl):TD X (.Compare a [op,op'] [b,c] pos) (Zp (JY r r' f g h)):=
  PT.imp (Zhd ho ho' ha hb hc hm) fun σ H Q q=>ZdK (Zbb q)
noncomputable def Zaa (f g:DE):DE:=fun ρ=>(f ρ).bind fun x=>match x with | .bl true=>g ρ | .bl false=>some (.bl false) | _=>none
noncomputable def dOr (f g:DE):DE:=fun ρ=>(f ρ).bind fun x=>match x with | .bl true=>some (.bl true) | .bl false=>g ρ | _=>none
noncomputable def Zlq (f:DE):DE:=fun ρ=>(f ρ).bind fun x=>match x with | .bl k=>some (.bl (!k)) | _=>none
noncomputable def QR (f g:DT):DT:=fun ρ=>(f ρ).bind fun x=>match x with | true=>g ρ | false=>some false
noncomputable def ZbQ (f g:DT):DT:=fun ρ=>(f ρ).bind fun x=>match x with | true=>some true | false=>g ρ
noncomputable def YE (f:DT):DT:=fun ρ=>(f ρ).bind fun x=>some (!x)
variable {rest:List Expr} {t u:DT}
theorem QM {op} (h:ED X a f):ED X (.BoolOp op [a] pos) f:=Zh2 h
theorem Y2 (ha:ED X a f) (hb:ED X (.BoolOp .And (b::rest) pos) g):ED X (.BoolOp .And (a::b::rest) pos) (Zaa f g):=PE.imp (ZfI ha hb) fun σ H Q zq=>by
  obtain ⟨ρ,F0,H0,F,d,ok,e,q⟩:=zq
  obtain ⟨x,ex,e⟩:=bind_some e
  refine ⟨ρ,F0,H0,F,x,ok,ex,fun v F1 H1 g1 r1=>?_⟩
  cases x with
  | bl k=>
    refine ⟨k,by unfold Rep at r1; exact r1,?_⟩
    cases k with
    | true=>rw [if_pos rfl]; exact ⟨ρ,F0,H0,F1,d,ok.grow g1,e,fun w F2 H2 g2 r2=>q w F2 H2 (g1.trans g2) r2⟩
    | false=>rw [if_neg (by decide)]; cases e; exact q _ F1 H1 g1 (by unfold Rep; rfl)
  | _=>cases e
theorem Zmb (ha:ED X a f) (hb:ED X (.BoolOp .Or (b::rest) pos) g):ED X (.BoolOp .Or (a::b::rest) pos) (dOr f g):=PE.imp (ZlQ ha hb) fun σ H Q zq=>by
  obtain ⟨ρ,F0,H0,F,d,ok,e,q⟩:=zq
  obtain ⟨x,ex,e⟩:=bind_some e
  refine ⟨ρ,F0,H0,F,x,ok,ex,fun v F1 H1 g1 r1=>?_⟩
  cases x with
  | bl k=>
    refine ⟨k,by unfold Rep at r1; exact r1,?_⟩
    cases k with
    | false=>rw [if_neg (by decide)]; exact ⟨ρ,F0,H0,F1,d,ok.grow g1,e,fun w F2 H2 g2 r2=>q w F2 H2 (g1.trans g2) r2⟩
    | true=>rw [if_pos rfl]; cases e; exact q _ F1 H1 g1 (by unfold Rep; rfl)
  | _=>cases e
theorem Zif (ha:ED X a f):ED X (.UnaryOp .Not a pos) (Zlq f):=PE.imp (Zh3 ha) fun σ H Q zq=>by
  obtain ⟨ρ,F0,H0,F,d,ok,e,q⟩:=zq
  obtain ⟨x,ex,e⟩:=bind_some e
  refine ⟨ρ,F0,H0,F,x,ok,ex,fun v F1 H1 g1 r1=>?_⟩
  cases x with
  | bl k=>refine ⟨k,by unfold Rep at r1; exact r1,?_⟩; cases e; exact q _ F1 H1 g1 (by unfold Rep; rfl)
  | _=>cases e
theorem V7 (ha:TD X a t):WTD X (.BoolOp .And [a] pos) t:=ZiL ha
theorem JF (ha:TD X a t):WTD X (.BoolOp .Or [a] pos) t:=Zkf ha
theorem UD (ha:TD X a t) (hb:WTD X (.BoolOp .And (b::rest) pos) u):WTD X (.BoolOp .And (a::b::rest) pos) (QR t u):=PW.imp (Zkg ha hb) fun σ H Q zq=>by
  obtain ⟨ρ,F0,H0,F,d,ok,e,q⟩:=zq
  obtain ⟨x,ex,e⟩:=bind_some e
  refine ⟨ρ,F0,H0,F,x,ok,ex,fun F1 H1 g1=>?_⟩
  cases x with
  | true=>rw [if_pos rfl]; exact ⟨ρ,F0,H0,F1,d,ok.grow g1,e,fun F2 H2 g2=>q F2 H2 (g1.trans g2)⟩
  | false=>rw [if_neg (by decide)]; cases e; exact q F1 H1 g1
theorem Ul (ha:TD X a t) (hb:WTD X (.BoolOp .Or (b::rest) pos) u):WTD X (.BoolOp .Or (a::b::rest) pos) (ZbQ t u):=PW.imp (ZlO ha hb) fun σ H Q zq=>by
  obtain ⟨ρ,F0,H0,F,d,ok,e,q⟩:=zq
  obtain ⟨x,ex,e⟩:=bind_some e
  refine ⟨ρ,F0,H0,F,x,ok,ex,fun F1 H1 g1=>?_⟩
  cases x with
  | false=>rw [if_neg (by decide)]; exact ⟨ρ,F0,H0,F1,d,ok.grow g1,e,fun F2 H2 g2=>q F2 H2 (g1.trans g2)⟩
  | true=>rw [if_pos rfl]; cases e; exact q F1 H1 g1
theorem ZeY (h:WTD X a t):TD X a t:=L2.PW.pt h
theorem Jy (ha:TD X a t):TD X (.UnaryOp .Not a pos) (YE t):=PT.imp (Zki ha) fun σ H Q zq=>by
  obtain ⟨ρ,F0,H0,F,d,ok,e,q⟩:=zq
  obtain ⟨x,ex,e⟩:=bind_some e
  cases e
  exact ⟨ρ,F0,H0,F,x,ok,ex,fun F1 H1 g1=>q F1 H1 g1⟩
noncomputable def r1 (K:PySem.W.Frag) (r:D->Option D):V->Hp->VK->Prop:=fun v H Q=>∃ x F d,Rep K F H x v/\r x=some d/\∀ w F' H',Grow F H F' H'->Rep K F' H' d w->Q w H'
noncomputable def QN (r:D->Option D) (f:DE):DE:=fun ρ=>(f ρ).bind r
noncomputable def Op1 (X:Cx) (f:Value->Sem Value) (r:D->Option D):Prop:=UnR X f (r1 X.K r)
theorem WU {op:UnaryOp} {r:D->Option D} (ho:Op1 X (unaryOp op) r) (ha:ED X a f):ED X (.UnaryOp op a pos) (QN r f):=PE.imp (Zko ho ha) fun σ H Q zq=>by
  obtain ⟨ρ,F0,H0,F,d,ok,e,q⟩:=zq
  obtain ⟨x,ex,e⟩:=bind_some e
  exact ⟨ρ,F0,H0,F,x,ok,ex,fun v F1 H1 g1 r1=>⟨x,F1,d,r1,e,fun w F2 H2 g2 r2=>q w F2 H2 (g1.trans g2) r2⟩⟩
noncomputable def Zm:DA:=fun _=>some []
noncomputable def Zc (f:DE) (a:DA):DA:=fun ρ=>(f ρ).bind fun x=>(a ρ).bind fun xs=>some (x::xs)
variable {es:List Expr} {as:DA}
theorem Zf:AD X [] Zm:=PA.imp VG fun σ H Q ⟨ρ,F0,H0,F,d,ok,e,q⟩=>by cases e; exact q _ F H .refl .nil
theorem Zb (ha:ED X a f) (hr:AD X es as) (hs:starEach (a::es) X.env=(false,eval a X.env)::starEach es X.env:=by rfl):AD X (a::es) (Zc f as):=PA.imp (QA ha hr hs) fun σ H Q zq=>by
  obtain ⟨ρ,F0,H0,F,d,ok,e,q⟩:=zq
  obtain ⟨x,ex,e⟩:=bind_some e
  obtain ⟨xs,exs,e⟩:=bind_some e
  cases e
  exact ⟨ρ,F0,H0,F,x,ok,ex,fun v F1 H1 g1 r1=>⟨ρ,F0,H0,F1,xs,ok.grow g1,exs,fun vs F2 H2 g2 r2=>q _ F2 H2 (g1.trans g2) (.cons (r1.grow g2) r2)⟩⟩
noncomputable def lim:Nat:=100000
theorem Jc {n:Nat} (h:n<=lim):n<=sizeLine:=by have:sizeLine=16777216:=sizeLine_eq; unfold lim at h; omega
noncomputable def YV (as:DA):DE:=fun ρ=>(as ρ).bind fun xs=>if xs.length<=lim then some (.tup xs) else none
noncomputable def Wh (as:DA):DE:=fun ρ=>(as ρ).bind fun xs=>if xs.length<=lim then some (.lst xs) else none
theorem Z8 {c:Prop} [Decidable c] {α:Type} {x y:α} (h:(if c then some x else none)=some y):c/\x=y:=by
  by_cases hc:c
  · rw [if_pos hc] at h; exact ⟨hc,Option.some.inj h⟩
  · rw [if_neg hc] at h; cases h
theorem YA {x1} (ha:AD X es as):ED X (.Tuple es x1 pos) (YV as):=PE.imp (Zkp ha) fun σ H Q zq=>by
  obtain ⟨ρ,F0,H0,F,d,ok,e,q⟩:=zq
  obtain ⟨xs,exs,e⟩:=bind_some e
  obtain ⟨hl,rfl⟩:=Z8 e
  refine ⟨ρ,F0,H0,F,xs,ok,exs,fun vs F1 H1 g1 r1=>⟨by rw [<-r1.length]; exact Jc hl,fun p hp=>q _ F1 _ (g1.trans (.laid0 hp)) ?_⟩⟩
  unfold Rep
  exact ⟨p,vs,rfl,.of ZO,r1.grow (.laid0 hp)⟩
theorem Y5 {K:PySem.W.Frag} {F:Fz} {H:Hp} {p:Addr} {ds:List D} {vs:List V} (hp:H p=none) (r:RepL K F H ds vs):Rep K (fun a=>F a\/a=p) (upd H p (.lst vs)) (.lst ds) (.ref p):=by
  unfold Rep
  exact ⟨p,vs,rfl,.inr rfl,.of ZO,r.grow (.laid hp)⟩
theorem Ut (ha:AD X es as):ED X (.List es pos) (Wh as):=PE.imp (Zkr ha) fun σ H Q zq=>by
  obtain ⟨ρ,F0,H0,F,d,ok,e,q⟩:=zq
  obtain ⟨xs,exs,e⟩:=bind_some e
  obtain ⟨hl,rfl⟩:=Z8 e
  exact ⟨ρ,F0,H0,F,xs,ok,exs,fun vs F1 H1 g1 r1=>⟨by rw [<-r1.length]; exact Jc hl,fun p hp=>q _ _ _ (g1.trans (.laid hp)) (Y5 hp r1)⟩⟩
inductive RCP (K:PySem.W.Frag) (r:List D->Option D) (vs:List V) (H:Hp) (Q:VK):Prop
  | mk (xs:List D) (F:Fz) (d:D) (r1:RepL K F H xs vs) (e:r xs=some d) (q:∀ w F' H',Grow F H F' H'->Rep K F' H' d w->Q w H')
noncomputable def rC (K:PySem.W.Frag) (r:List D->Option D):List V->Hp->VK->Prop:=fun vs H Q=>RCP K r vs H Q
noncomputable def ZS (r:List D->Option D) (as:DA):DE:=fun ρ=>(as ρ).bind r
noncomputable def ZbN (X:Cx) (f:Value) (r:List D->Option D):Prop:=W8 X f (rC X.K r)
theorem ZfB {K:PySem.W.Frag} {r:List D->Option D} {as:DA} {σ:L2.St} {H:Hp} {Q:VK} (h:rd K (ZS r as) σ H Q):tCB (rC K r) (rdA K as) σ H Q:=by
  obtain ⟨ρ,F0,H0,F,d,ok,e,q⟩:=h
  obtain ⟨xs,exs,e⟩:=bind_some e
  exact ⟨ρ,F0,H0,F,xs,ok,exs,fun vs F1 H1 g1 r1=>⟨xs,F1,d,r1,e,fun w F2 H2 g2 r2=>q w F2 H2 (g1.trans g2) r2⟩⟩
theorem ZF {id:String} {x:Str} {p:Pos} {e:Expr} {r:List D->Option D} (hc:ZbN X (.builtin id) r) (hg:Gl X x) (hm:X.mg x=none) (hv:bootBuiltins x=some (.builtin id)) (ha:AD X (e::es) as) (hn:x≠"__name__":=by decide) (hdb:(x==("__debug__":Str))=false:=by decide)
    (he:starEach (e::es) X.env=(false,eval e X.env)::starEach es X.env:=by rfl) (hpl:(backTo pos (starEach es X.env)).any (·.1)=false:=by rfl):ED X (.Call (.Name x p) (e::es) [] pos) (ZS r as):=
  PE.imp (Wb hc hg hm hv ha hn hdb he hpl) fun _ _ _=>ZfB
theorem Jh {T:String} {x:Str} {p:Pos} {e:Expr} {r:List D->Option D} (hc:ZbN X (.type T) r) (hg:Gl X x) (hm:X.mg x=none) (hv:bootBuiltins x=some (.type T)) (ha:AD X (e::es) as) (hn:x≠"__name__":=by decide) (hdb:(x==("__debug__":Str))=false:=by decide)
    (he:starEach (e::es) X.env=(false,eval e X.env)::starEach es X.env:=by rfl) (hpl:(backTo pos (starEach es X.env)).any (·.1)=false:=by rfl):ED X (.Call (.Name x p) (e::es) [] pos) (ZS r as):=
  PE.imp (ZfH hc hg hm hv ha hn hdb he hpl) fun _ _ _=>ZfB
noncomputable def spD (K:PySem.W.Frag) (n:Nat) (fn:List D->Option D):Sp:=fun vs H Q _=>∃ xs F d,xs.length=n/\RepL K F H xs vs/\(∀ a,F a->H a≠none\/∃ o,K.lookup a=some o)/\fn xs=some d/\∀ w F' H',Grow F H F' H'->Rep K F' H' d w->Q w H'
noncomputable def FnD (P:Program) (w:World) (K:PySem.W.Frag) (mg:Str->Option Value) (base:Heap) (k:Nat) (f:Addr) (fd:FuncData) (ps:List Str) (fn:List D->Option D):Prop:=ZdC P w K mg base CX0 k f fd ps (spD K ps.length fn)
noncomputable def dFn (n:Nat) (fn:List D->Option D) (as:DA):DE:=fun ρ=>(as ρ).bind fun xs=>if xs.length=n then fn xs else none
theorem Zmc {k:Nat} {f:Addr} {fd:FuncData} {ps:List Str} {fn:List D->Option D} {x:Str} {p:Pos} {e:Expr} (F:FnD X.prog X.w X.K X.mg X.base k f fd ps fn) (hr:Room k X.A) (hg:Gl X x) (hm:X.mg x=some (.ref f)) (hk:PySem.W.keepIn X.K (.ref f)=true) (hb:Binds X.K fd ps [])
    (ha:AD X (e::es) as) (hdb:(x==("__debug__":Str))=false:=by decide) (he:starEach (e::es) X.env=(false,eval e X.env)::starEach es X.env:=by rfl) (hpl:(backTo pos (starEach es X.env)).any (·.1)=false:=by rfl) :
    ED X (.Call (.Name x p) (e::es) [] pos) (dFn ps.length fn as):=PE.imp (Zc9 F hr hg hm hk hb .nil ZlT ha hdb he hpl) fun σ H Q zq=>by
  obtain ⟨ρ,F0,H0,Fr,d,ok,e,q⟩:=zq
  obtain ⟨xs,exs,e⟩:=bind_some e
  by_cases hl:xs.length=ps.length
  · rw [if_pos hl] at e
    refine ⟨ρ,F0,H0,Fr,xs,ok,exs,fun vs F1 H1 g1 r1=>?_⟩
    show spD X.K ps.length fn (vs++[]) H1 Q E0
    rw [List.append_nil]
    exact ⟨xs,F1,d,hl,r1,(ok.grow g1).fz,e,fun w F2 H2 g2 r2=>q w F2 H2 (g1.trans g2) r2⟩
  · rw [if_neg hl] at e; cases e
end
theorem Yq {K:PySem.W.Frag} {F:Fz} {H:Hp} (i:Int):Rep K F H (.int i) (.int i):=by unfold Rep; rfl
theorem UY {K:PySem.W.Frag} {F:Fz} {H:Hp} (i:Bool):Rep K F H (.bl i) (.bl i):=by unfold Rep; rfl
mutual
noncomputable def Jx:D->PyData
  | .non=>.none
  | .bl b=>.bool b
  | .int i=>.int i
  | .str x=>.str x
  | .tup xs=>.tuple (Qo xs)
  | .lst xs=>.list (Qo xs)
noncomputable def Qo:List D->List PyData
  | []=>[]
  | d::ds=>Jx d::Qo ds
end
section
variable {X:Cx} {pins:List (Addr×Obj)} {σ:L2.St} {H:Hp} {s:Shared} {F:Fz}
mutual
theorem Qa (I:Inv X pins σ H s):∀ {d:D} {v:V} {u:Value},Rep X.K F H d v->RelV v u->∃ as,Reads s.heap u (Jx d) as
  | .non,v,u,h,r=>by unfold Rep at h; subst h; cases r; exact ⟨_,.none⟩
  | .bl b,v,u,h,r=>by unfold Rep at h; subst h; cases r; exact ⟨_,.bool b⟩
  | .int i,v,u,h,r=>by unfold Rep at h; subst h; obtain ⟨t,rfl⟩:=r; exact ⟨_,.int i t⟩
  | .str x,v,u,h,r=>by unfold Rep at h; subst h; obtain ⟨t,rfl⟩:=r; exact ⟨_,.str x t⟩
  | .tup ds,v,u,h,r=>by
    unfold Rep at h
    obtain ⟨a,xs,rfl,hq,hl⟩:=h
    cases r
    obtain ⟨its,rv,⟨o,e,c,n,hd⟩,_⟩:=I.tuple hq
    obtain ⟨as,ra⟩:=J9 I hl rv
    exact ⟨_,.tuple e c hd (by simpa using ra)⟩
  | .lst ds,v,u,h,r=>by
    unfold Rep at h
    obtain ⟨a,xs,rfl,_,hq,hl⟩:=h
    cases r
    obtain ⟨its,rv,pl,_⟩:=I.list hq
    obtain ⟨o,e,c,n,hd⟩:=pl.isList
    obtain ⟨as,ra⟩:=J9 I hl rv
    exact ⟨_,.list e c hd (by simpa using ra)⟩
theorem J9 (I:Inv X pins σ H s):∀ {ds:List D} {vs:List V} {us:List Value},RepL X.K F H ds vs->Vals vs us->∃ as,ReadsAll s.heap us (Qo ds) as
  | [],vs,us,h,r=>by rw [h.unnil] at r; cases r; exact ⟨_,.nil⟩
  | d::ds,vs,us,h,r=>by
    obtain ⟨y,ys,rfl,h1,h2⟩:=h.uncons
    cases r with
    | cons r1 r2=>
      obtain ⟨as,a1⟩:=Qa I h1 r1
      obtain ⟨bs,a2⟩:=J9 I h2 r2
      exact ⟨_,.cons a1 a2⟩
end
end
noncomputable def okD (d:D):Bool:=(Jx d).canLay0&&decide ((Jx d).depth<=30)
noncomputable def deq (x y:D):Bool:=PyData.eqv (Jx x) (Jx y)
noncomputable def VQ (x y:D):Option D:=if okD x&&okD y then some (.bl (deq x y)) else none
noncomputable def Zby (x y:D):Option D:=if okD x&&okD y then some (.bl (!deq x y)) else none
theorem okD.can {d:D} (h:okD d=true):(Jx d).canLay0=true:=(Bool.and_eq_true_iff.mp h).1
theorem okD.dep {d:D} (h:okD d=true):(Jx d).depth<=30:=of_decide_eq_true (Bool.and_eq_true_iff.mp h).2
section
variable {X:Cx}
theorem ZfR (hu:X.A.units+64 < cLine):Op2 X (compareOp .Eq) VQ:=by
  intro pins s σ H x y v u Q I rx ry h
  obtain ⟨dx,dy,F,d,r1,r2,e,q⟩:=h
  obtain ⟨hk,rfl⟩:=Z8 e
  obtain ⟨k1,k2⟩:=Bool.and_eq_true_iff.mp hk
  obtain ⟨as,a1⟩:=Qa I r1 rx
  obtain ⟨bs,a2⟩:=Qa I r2 ry
  have d1:=okD.dep k1; have d2:=okD.dep k2
  exact SeqAt.eqOverData _ _ _ _ _ _ _ _ _ _ _ _ a1 a2 (okD.can k1) (okD.can k2) (by have:min (Jx dx).depth (Jx dy).depth<=30:=Nat.le_trans (Nat.min_le_left _ _) d1; omega) ⟨.bl _,H,I,rfl,q _ F H .refl (UY _)⟩
theorem Zh6 (hu:X.A.units+64 < cLine):Op2 X (compareOp .NotEq) Zby:=by
  intro pins s σ H x y v u Q I rx ry h
  obtain ⟨dx,dy,F,d,r1,r2,e,q⟩:=h
  obtain ⟨hk,rfl⟩:=Z8 e
  obtain ⟨k1,k2⟩:=Bool.and_eq_true_iff.mp hk
  obtain ⟨as,a1⟩:=Qa I r1 rx
  obtain ⟨bs,a2⟩:=Qa I r2 ry
  have d1:=okD.dep k1; have d2:=okD.dep k2
  exact SeqAt.neOverData _ _ _ _ _ _ _ _ _ _ _ _ a1 a2 (okD.can k1) (okD.can k2) (by have:min (Jx dx).depth (Jx dy).depth<=30:=Nat.le_trans (Nat.min_le_left _ _) d1; omega) ⟨.bl _,H,I,rfl,q _ F H .refl (UY _)⟩
noncomputable def dIn (x:D):D->Option Bool
  | .tup xs=>if okD x&&okD (.tup xs) then some (xs.any fun y=>deq y x) else none
  | .lst xs=>if okD x&&okD (.lst xs) then some (xs.any fun y=>deq y x) else none
  | _=>none
noncomputable def Zih (x y:D):Option D:=(dIn x y).map .bl
theorem Wk (x:D):∀ xs:List D,(Qo xs).any (fun y=>PyData.eqv y (Jx x))=xs.any fun y=>deq y x
  | []=>by simp [Qo]
  | y::xs=>by simp [Qo,deq,Wk x xs]
theorem Zlo (hu:X.A.units+64 < cLine):Op2 X (compareOp .In) Zih:=by
  intro pins s σ H x y v u Q I rx ry h
  obtain ⟨dx,dy,F,d,r1,r2,e,q⟩:=h
  obtain ⟨as,a1⟩:=Qa I r1 rx
  obtain ⟨bs,a2⟩:=Qa I r2 ry
  cases dy with
  | tup ds=>
    have e:Option.map D.bl (if (okD dx&&okD (.tup ds))=true then some (ds.any fun y=>deq y dx) else none)=some d:=e
    by_cases hk:(okD dx&&okD (.tup ds))=true
    · rw [if_pos hk] at e
      cases e
      obtain ⟨k1,k2⟩:=Bool.and_eq_true_iff.mp hk
      have d1:=okD.dep k1; have d2:=okD.dep k2; have c2:=(okD.can k2)
      simp only [Jx,PyData.canLay0,PyData.depth] at a2 d2 c2
      refine SeqAt.in_tuple_reads a2 a1 c2 (okD.can k1) (by have:min (PyData.depthAll (Qo ds)) (Jx dx).depth<=30:=Nat.le_trans (Nat.min_le_right _ _) d1; omega) ⟨.bl _,H,I,rfl,q _ F H .refl ?_⟩
      rw [Wk]; exact UY _
    · rw [if_neg hk] at e; cases e
  | lst ds=>
    have e:Option.map D.bl (if (okD dx&&okD (.lst ds))=true then some (ds.any fun y=>deq y dx) else none)=some d:=e
    by_cases hk:(okD dx&&okD (.lst ds))=true
    · rw [if_pos hk] at e
      cases e
      obtain ⟨k1,k2⟩:=Bool.and_eq_true_iff.mp hk
      have d1:=okD.dep k1; have d2:=okD.dep k2; have c2:=(okD.can k2)
      simp only [Jx,PyData.canLay0,PyData.depth] at a2 d2 c2
      refine SeqAt.in_list_reads a2 a1 c2 (okD.can k1) (by have:min (PyData.depthAll (Qo ds)) (Jx dx).depth<=30:=Nat.le_trans (Nat.min_le_right _ _) d1; omega) ⟨.bl _,H,I,rfl,q _ F H .refl ?_⟩
      rw [Wk]; exact UY _
    · rw [if_neg hk] at e; cases e
  | _=>cases e
noncomputable def dI (C:Int->Int->Bool) (g:Int->Int->D):D->D->Option D
  | .int i,.int j=>if C i j then some (g i j) else none
  | _,_=>none
theorem o_I {f:Value->Value->Sem Value} {C:Int->Int->Prop} {c:Int->Int->Bool} {g:Int->Int->V} {gd:Int->Int->D} (h:OpR X f (rI C g)) (hc:∀ i j,c i j=true->C i j) (hg:∀ i j K F H,Rep K F H (gd i j) (g i j)):Op2 X f (dI c gd):=by
  intro pins s σ H x y v u Q I rx ry q
  obtain ⟨dx,dy,F,d,r1,r2,e,q⟩:=q
  cases dx with
  | int i=>cases dy with
    | int j=>
      unfold dI at e
      obtain ⟨k,rfl⟩:=Z8 e
      unfold Rep at r1 r2
      subst r1 r2
      exact h pins s σ H _ _ v u Q I rx ry ⟨i,j,rfl,rfl,hc i j k,q _ F H .refl (hg i j _ _ _)⟩
    | _=>cases e
  | _=>cases e
theorem ZkC {f:Value->Value->Sem Value} {g:Int->Int->V} {gd:Int->Int->D} (h:OpR X f (rI0 g)) (hg:∀ i j K F H,Rep K F H (gd i j) (g i j)):Op2 X f (dI (fun _ _=>true) gd):=by
  refine o_I (C:=fun _ _=>True) ?_ (fun _ _ _=>trivial) hg
  intro pins s σ H x y v u Q I rx ry q
  obtain ⟨i,j,e1,e2,_,q⟩:=q
  exact h pins s σ H x y v u Q I rx ry ⟨i,j,e1,e2,q⟩
noncomputable def Qj:D->D->Option D:=dI (fun _ _=>true) fun i j=>.int (i-j)
theorem Q1:Op2 X (binaryOp .Sub) Qj:=ZkC Zku fun i j _ _ _=>Yq _
noncomputable def ZjS (i j:Int):Bool:=(decide (-(2 ^ 64) < i)&&decide (i < 2 ^ 64))||(decide (-(2 ^ 64) < j)&&decide (j < 2 ^ 64))
theorem ZjD (i j:Int) (h:ZjS i j=true):CMul i j:=by
  unfold ZjS at h
  rcases Bool.or_eq_true_iff.mp h with h | h
  · obtain ⟨a,b⟩:=Bool.and_eq_true_iff.mp h; exact .inl ⟨of_decide_eq_true a,of_decide_eq_true b⟩
  · obtain ⟨a,b⟩:=Bool.and_eq_true_iff.mp h; exact .inr ⟨of_decide_eq_true a,of_decide_eq_true b⟩
noncomputable def YO:D->D->Option D:=dI ZjS fun i j=>.int (i*j)
theorem YR:Op2 X (binaryOp .Mult) YO:=o_I Zkv ZjD fun i j _ _ _=>Yq _
noncomputable def YD:D->D->Option D:=dI (fun _ j=>decide (0 < j)) fun i j=>.int (i % j)
theorem Qb:Op2 X (binaryOp .Mod) YD:=o_I Zkw (fun _ _ h=>of_decide_eq_true h) fun i j _ _ _=>Yq _
noncomputable def Q7:D->D->Option D:=dI (fun _ j=>decide (0 < j)&&decide (j < 1073741824)) fun i j=>.int (i / j)
theorem Uf:Op2 X (binaryOp .FloorDiv) Q7:=o_I Zi2 (fun _ _ h=>by obtain ⟨a,b⟩:=Bool.and_eq_true_iff.mp h; exact ⟨of_decide_eq_true a,of_decide_eq_true b⟩) fun i j _ _ _=>Yq _
noncomputable def dLt:D->D->Option D:=dI (fun _ _=>true) fun i j=>.bl (decide (i < j))
theorem ZkB:Op2 X (compareOp .Lt) dLt:=ZkC ZlU fun i j _ _ _=>UY _
noncomputable def dLe:D->D->Option D:=dI (fun _ _=>true) fun i j=>.bl (decide (i<=j))
theorem ZdP:Op2 X (compareOp .LtE) dLe:=ZkC ZlV fun i j _ _ _=>UY _
noncomputable def dGt:D->D->Option D:=dI (fun _ _=>true) fun i j=>.bl (decide (j < i))
theorem ZjP:Op2 X (compareOp .Gt) dGt:=ZkC ZlW fun i j _ _ _=>UY _
noncomputable def dGe:D->D->Option D:=dI (fun _ _=>true) fun i j=>.bl (decide (j<=i))
theorem Znf:Op2 X (compareOp .GtE) dGe:=ZkC ZlX fun i j _ _ _=>UY _
noncomputable def WX:D->Option D
  | .int i=>some (.int (-i))
  | _=>none
theorem WG:Op1 X (unaryOp .USub) WX:=by
  intro pins s σ H x v Q I rx h
  obtain ⟨dx,F,d,r1,e,q⟩:=h
  cases dx with
  | int i=>cases e; unfold Rep at r1; subst r1; exact ZhR pins s σ H _ v Q I rx ⟨i,rfl,q _ F H .refl (Yq _)⟩
  | _=>cases e
theorem ZgD {pins:List (Addr×Obj)} {s:Shared} {σ:L2.St} {H:Hp} {l b:Addr} {xs zs:List V} {Q:VK} (I:Inv X pins σ H s) (hl:SqL X.K H l xs) (hb:SqL X.K H b zs) (hz:xs.length+zs.length<=sizeLine)
    (q:∀ p,H p=none->Q (.ref p) (upd H p (.lst (xs++zs)))):wpAny (model X.prog X.w) X.A (binaryOp .Add (.ref l) (.ref b)) (EP X pins σ Q) X.xe s:=by
  obtain ⟨its,r,pl,z⟩:=I.list hl
  obtain ⟨its2,r2,pl2,z2⟩:=I.list hb
  have hl1:=r.length
  have hl2:=r2.length
  have ea:its.toArray++its2.toArray=(its++its2).toArray:=by simp
  obtain ⟨⟨cls,dd,data,sl⟩,ho,hc,n,hd⟩:=pl.isList
  obtain ⟨⟨cls2,dd2,data2,sl2⟩,ho2,hc2,n2,hd2⟩:=pl2.isList
  simp only at hc hd hc2 hd2
  subst hc hd hc2 hd2
  refine concat_meets ⟨_,ho,rfl⟩ ⟨_,ho2,rfl⟩ noFill_list_add seq_list_add PySem.F.slot_list_add PySem.F.entry_list_add (PySem.F.args_list_add_2 _ _) (list_addW l b its.toArray its2.toArray n n2 dd dd2 sl sl2 (by rw [List.size_toArray,List.size_toArray]; omega)) ⟨ho,ho2,?_⟩
  rw [ea]
  exact ⟨.ref _,_,I.lnew (t':=s.toks) (r.append r2) (by rw [List.length_append]; omega),rfl,q _ I.fresh⟩
theorem ZhK {pins:List (Addr×Obj)} {s:Shared} {σ:L2.St} {H:Hp} {a b:Addr} {xs ys:List V} {Q:VK} (I:Inv X pins σ H s) (ha:SqT X.K H a xs) (hb:SqT X.K H b ys) (hz:xs.length+ys.length<=sizeLine)
    (q0:xs=[]->Q (.ref b) H) (q1:ys=[]->Q (.ref a) H) (q2:∀ p,H p=none->Q (.ref p) (upd H p (.tup (xs++ys)))):wpAny (model X.prog X.w) X.A (binaryOp .Add (.ref a) (.ref b)) (EP X pins σ Q) X.xe s:=by
  obtain ⟨its,r1,p1,_⟩:=I.tuple ha
  obtain ⟨its2,r2,p2,_⟩:=I.tuple hb
  by_cases h0:its=[]
  · obtain ⟨⟨cls,dd,data,sl⟩,ho,hc,n,hd⟩:=id p1
    obtain ⟨⟨cls2,dd2,data2,sl2⟩,ho2,hc2,n2,hd2⟩:=id p2
    simp only at hc hd hc2 hd2
    subst hc hd hc2 hd2
    exact concat_meets ⟨_,ho,rfl⟩ ⟨_,ho2,rfl⟩ noFill_tuple_add seq_tuple_add PySem.F.slot_tuple_add PySem.F.entry_tuple_add (PySem.F.args_tuple_add_2 _ _)
      (tuple_addW0 a b its.toArray its2.toArray n n2 dd dd2 sl sl2 (by simp [h0])) ⟨ho,ho2,⟨.ref b,H,I,rfl,q0 (r1.nil_iff.mp h0)⟩⟩
  · refine HT.cat_tup p1 p2 h0 (fun z=>⟨.ref a,H,I,rfl,q1 (r2.nil_iff.mp z)⟩) (fun z=>?_) (by rw [<-r1.length,<-r2.length]; exact hz)
    refine ⟨.ref s.heap.objs.size,_,I.laid (t':=s.toks) (o:=.tup (xs++ys)) (fun b ob q=>Heap.get?_push_of_some _ q) (Nat.le_refl _) ?_,rfl,q2 _ (I.hok.fresh (Nat.le_refl _))⟩
    exact ⟨by rw [List.length_append]; exact hz,_,r1.append r2,IsTup.new _ _⟩
noncomputable def ZU:D->D->Option D
  | .int i,.int j=>some (.int (i+j))
  | .lst a,.lst b=>if a.length+b.length<=lim then some (.lst (a++b)) else none
  | .tup a,.tup b=>if a.length+b.length<=lim then some (.tup (a++b)) else none
  | .str a,.str b=>if a.length+b.length<=lim then some (.str (a++b)) else none
  | _,_=>none
theorem Yo:Op2 X (binaryOp .Add) ZU:=by
  intro pins s σ H x y v u Q I rx ry q
  obtain ⟨dx,dy,F,d,r1,r2,e,q⟩:=q
  cases dx with
  | int i=>cases dy with
    | int j=>
      cases e
      unfold Rep at r1 r2
      subst r1 r2
      exact Zkx pins s σ H _ _ v u Q I rx ry ⟨i,j,rfl,rfl,q _ F H .refl (Yq _)⟩
    | _=>cases e
  | str i=>cases dy with
    | str j=>
      unfold ZU at e
      obtain ⟨hl,rfl⟩:=Z8 e
      unfold Rep at r1 r2
      subst r1 r2
      exact Zeq pins s σ H _ _ v u Q I rx ry ⟨i,j,rfl,rfl,Jc hl,q _ F H .refl (by unfold Rep; rfl)⟩
    | _=>cases e
  | lst a=>cases dy with
    | lst b=>
      unfold ZU at e
      obtain ⟨hl,rfl⟩:=Z8 e
      unfold Rep at r1 r2
      obtain ⟨l1,xs,rfl,f1,h1,k1⟩:=r1
      obtain ⟨l2,ys,rfl,f2,h2,k2⟩:=r2
      cases rx; cases ry
      refine ZgD I h1 h2 (by rw [<-k1.length,<-k2.length]; exact Jc hl) fun p hp=>q _ _ _ (.laid hp) (Y5 hp (k1.append k2))
    | _=>cases e
  | tup a=>cases dy with
    | tup b=>
      unfold ZU at e
      obtain ⟨hl,rfl⟩:=Z8 e
      have r1':=r1; have r2':=r2
      unfold Rep at r1 r2
      obtain ⟨l1,xs,rfl,h1,k1⟩:=r1
      obtain ⟨l2,ys,rfl,h2,k2⟩:=r2
      cases rx; cases ry
      refine ZhK I h1 h2 (by rw [<-k1.length,<-k2.length]; exact Jc hl) (fun z=>?_) (fun z=>?_) fun p hp=>q _ F _ (.laid0 hp) ?_
      · have:a=[]:=List.eq_nil_of_length_eq_zero (by rw [k1.length,z]; rfl)
        subst this
        exact q _ F H .refl r2'
      · have:b=[]:=List.eq_nil_of_length_eq_zero (by rw [k2.length,z]; rfl)
        subst this
        rw [List.append_nil] at q
        exact q _ F H .refl r1'
      · unfold Rep
        exact ⟨p,xs++ys,rfl,.of ZO,(k1.append k2).grow (.laid0 hp)⟩
    | _=>cases e
  | _=>cases e
noncomputable def dIx:D->D->Option D
  | .lst xs,.int i=>atI xs i
  | .tup xs,.int i=>atI xs i
  | .str z,.int i=>if z.length<=lim then (atI z.cps.toList i).map fun c=>.str ⟨#[c]⟩ else none
  | _,_=>none
noncomputable def IxD (X:Cx) (r:D->D->Option D):Prop:=IxR X (r2 X.K r)
theorem Zy {a b:Expr} {f g:DE} {pos:Pos} {r:D->D->Option D} (hr:IxD X r) (ha:ED X a f) (hb:ED X b g) (hs:ZgS b):ED X (.Subscript a b pos) (Zh r f g):=PE.imp (ZlS hr ha hb hs) fun _ _ _=>ZdJ
theorem ZgL {K:PySem.W.Frag} {F:Fz} {H:Hp} {ds:List D} {vs:List V} {i:Int} {d:D} (r:RepL K F H ds vs) (h:atI ds i=some d):∃ v,atI vs i=some v/\Rep K F H d v:=by
  unfold atI at h ⊢
  obtain ⟨j,e1,e2⟩:=bind_some h
  obtain ⟨v,e3,e4⟩:=r.get e2
  exact ⟨v,by rw [<-r.length,e1]; exact e3,e4⟩
theorem Ye:IxD X dIx:=by
  intro value slice pins s σ H x y v u Q I rx ry h hs
  obtain ⟨dx,dy,F,d,r1,r2,e,q⟩:=h
  cases dy with
  | int i=>
    unfold Rep at r2
    subst r2
    cases dx with
    | lst ds=>
      unfold Rep at r1
      obtain ⟨l,xs,rfl,hf,hl,hr⟩:=r1
      obtain ⟨w',e1,e2⟩:=ZgL hr e
      exact Zjg value slice pins s σ H _ _ v u Q I rx ry ⟨l,xs,i,w',rfl,rfl,hl,e1,q _ F H .refl e2⟩ hs
    | tup ds=>
      unfold Rep at r1
      obtain ⟨l,xs,rfl,hl,hr⟩:=r1
      obtain ⟨w',e1,e2⟩:=ZgL hr e
      exact ZkX value slice pins s σ H _ _ v u Q I rx ry ⟨l,xs,i,w',rfl,rfl,hl,e1,q _ F H .refl e2⟩ hs
    | str z=>
      unfold Rep at r1
      subst r1
      have e:(if z.length<=lim then (atI z.cps.toList i).map fun c=>D.str ⟨#[c]⟩ else none)=some d:=e
      by_cases hz:z.length<=lim
      · rw [if_pos hz] at e
        obtain ⟨c,e1,rfl⟩:∃ c,atI z.cps.toList i=some c/\D.str ⟨#[c]⟩=d:=by
          cases q1:atI z.cps.toList i with
          | none=>rw [q1] at e; cases e
          | some c=>rw [q1] at e; exact ⟨c,rfl,Option.some.inj e⟩
        exact ZkY value slice pins s σ H _ _ v u Q I rx ry ⟨z,i,c,rfl,rfl,Jc hz,e1,q _ F H .refl (by unfold Rep; rfl)⟩ hs
      · rw [if_neg hz] at e; cases e
    | _=>cases e
  | _=>cases dx <;> cases e
noncomputable def VP:List D->Option D
  | [.lst xs]=>some (.int xs.length)
  | [.tup xs]=>some (.int xs.length)
  | [.str z]=>if z.length<=lim then some (.int z.length) else none
  | _=>none
theorem UX {K:PySem.W.Frag} {F:Fz} {H:Hp} {d:D} {vs:List V} (h:RepL K F H [d] vs):∃ v,vs=[v]/\Rep K F H d v:=by
  obtain ⟨y,ys,rfl,h1,h2⟩:=h.uncons
  rw [h2.unnil]
  exact ⟨y,rfl,h1⟩
theorem Zhb {K:PySem.W.Frag} {F:Fz} {H:Hp} {d d':D} {vs:List V} (h:RepL K F H [d,d'] vs):∃ v v',vs=[v,v']/\Rep K F H d v/\Rep K F H d' v':=by
  obtain ⟨y,ys,rfl,h1,h2⟩:=h.uncons
  obtain ⟨v',rfl,h3⟩:=UX h2
  exact ⟨y,v',rfl,h1,h3⟩
theorem US:ZbN X (.builtin "len") VP:=by
  intro pins s σ H vs us Q I r h
  obtain ⟨xs,F,d,r1,e,q⟩:=h
  unfold VP at e
  split at e
  · rename_i ds
    cases e
    obtain ⟨v,rfl,h1⟩:=UX r1
    unfold Rep at h1
    obtain ⟨a,ys,rfl,_,hl,hr⟩:=h1
    refine VT pins s σ H _ us Q I r ⟨a,ys,rfl,.inl hl,?_⟩
    rw [<-hr.length]; exact q _ F H .refl (Yq _)
  · rename_i ds
    cases e
    obtain ⟨v,rfl,h1⟩:=UX r1
    unfold Rep at h1
    obtain ⟨a,ys,rfl,hl,hr⟩:=h1
    refine VT pins s σ H _ us Q I r ⟨a,ys,rfl,.inr hl,?_⟩
    rw [<-hr.length]; exact q _ F H .refl (Yq _)
  · rename_i z
    obtain ⟨hz,rfl⟩:=Z8 e
    obtain ⟨v,rfl,h1⟩:=UX r1
    unfold Rep at h1
    subst h1
    exact Zcv pins s σ H _ us Q I r ⟨z,rfl,Jc hz,q _ F H .refl (Yq _)⟩
  · cases e
noncomputable def JX:List D->Option D
  | [.lst xs]=>some (.lst xs)
  | [.tup xs]=>some (.lst xs)
  | _=>none
theorem Zik:ZbN X (.type "list") JX:=by
  intro pins s σ H vs us Q I r h
  obtain ⟨xs,F,d,r1,e,q⟩:=h
  unfold JX at e
  split at e
  · rename_i ds
    cases e
    obtain ⟨v,rfl,h1⟩:=UX r1
    unfold Rep at h1
    obtain ⟨a,ys,rfl,_,hl,hr⟩:=h1
    exact VS pins s σ H _ us Q I r ⟨a,ys,rfl,.inl hl,fun p hp=>q _ _ _ (.laid hp) (Y5 hp hr)⟩
  · rename_i ds
    cases e
    obtain ⟨v,rfl,h1⟩:=UX r1
    unfold Rep at h1
    obtain ⟨a,ys,rfl,hl,hr⟩:=h1
    exact VS pins s σ H _ us Q I r ⟨a,ys,rfl,.inr hl,fun p hp=>q _ _ _ (.laid hp) (Y5 hp hr)⟩
  · cases e
noncomputable def Wg:List D->Option D
  | [.lst xs]=>some (.tup xs)
  | [.tup xs]=>some (.tup xs)
  | _=>none
theorem ZjB:ZbN X (.type "tuple") Wg:=by
  intro pins s σ H vs us Q I r h
  obtain ⟨xs,F,d,r1,e,q⟩:=h
  unfold Wg at e
  split at e
  · rename_i ds
    cases e
    obtain ⟨v,rfl,h1⟩:=UX r1
    unfold Rep at h1
    obtain ⟨a,ys,rfl,_,hl,hr⟩:=h1
    refine Vc pins s σ H _ us Q I r ⟨a,ys,rfl,.inl ⟨hl,fun p hp=>q _ F _ (.laid0 hp) ?_⟩⟩
    unfold Rep
    exact ⟨p,ys,rfl,.of ZO,hr.grow (.laid0 hp)⟩
  · rename_i ds
    cases e
    obtain ⟨v,rfl,h1⟩:=UX r1
    have h1':=h1
    unfold Rep at h1
    obtain ⟨a,ys,rfl,hl,hr⟩:=h1
    exact Vc pins s σ H _ us Q I r ⟨a,ys,rfl,.inr ⟨hl,q _ F H .refl h1'⟩⟩
  · cases e
noncomputable def ZeL:List D->Option D
  | [.int i,.int j]=>some (.int (if j < i then j else i))
  | _=>none
noncomputable def Zcr:List D->Option D
  | [.int i,.int j]=>some (.int (if j > i then j else i))
  | _=>none
theorem ZgH (hc:X.calm=true):ZbN X (.builtin "min") ZeL:=by
  intro pins s σ H vs us Q I r h
  obtain ⟨xs,F,d,r1,e,q⟩:=h
  unfold ZeL at e
  split at e
  · rename_i i j
    cases e
    obtain ⟨v,v',rfl,h1,h2⟩:=Zhb r1
    unfold Rep at h1 h2
    subst h1 h2
    exact ZgE hc pins s σ H _ us Q I r ⟨i,j,rfl,q _ F H .refl (Yq _)⟩
  · cases e
theorem Zd7 (hc:X.calm=true):ZbN X (.builtin "max") Zcr:=by
  intro pins s σ H vs us Q I r h
  obtain ⟨xs,F,d,r1,e,q⟩:=h
  unfold Zcr at e
  split at e
  · rename_i i j
    cases e
    obtain ⟨v,v',rfl,h1,h2⟩:=Zhb r1
    unfold Rep at h1 h2
    subst h1 h2
    exact ZgF hc pins s σ H _ us Q I r ⟨i,j,rfl,q _ F H .refl (Yq _)⟩
  · cases e
noncomputable def WW:List D->Option D
  | [.int i]=>if i.natAbs.log2 < 1920 then some (.str (toString i)) else none
  | _=>none
theorem ZjC:ZbN X (.type "str") WW:=by
  intro pins s σ H vs us Q I r h
  obtain ⟨xs,F,d,r1,e,q⟩:=h
  unfold WW at e
  split at e
  · rename_i i
    obtain ⟨hz,rfl⟩:=Z8 e
    obtain ⟨v,rfl,h1⟩:=UX r1
    unfold Rep at h1
    subst h1
    exact Zcu pins s σ H _ us Q I r ⟨i,rfl,hz,q _ F H .refl (by unfold Rep; rfl)⟩
  · cases e
end
inductive Out where
  | nx (ρ:Rho) | rt (d:D) | bk (ρ:Rho) | ct (ρ:Rho)
noncomputable abbrev DS:=Rho->Option Out
noncomputable def EndOk (K:PySem.W.Frag) (F0:Fz) (H0:Hp) (F:Fz) (H:Hp) (E:Ziq):Out->Prop
  | .nx ρ=>∀ σ' F' H',Ext K F H F' H'->EnvOk K F0 H0 F' σ' H' ρ->E.nx σ' H'
  | .bk ρ=>∀ σ' F' H',Ext K F H F' H'->EnvOk K F0 H0 F' σ' H' ρ->E.bk σ' H'
  | .ct ρ=>∀ σ' F' H',Ext K F H F' H'->EnvOk K F0 H0 F' σ' H' ρ->E.ct σ' H'
  | .rt d=>∀ v F' H',Grow F0 H0 F' H'->Rep K F' H' d v->E.rt v H'
inductive ZnC (K:PySem.W.Frag) (g:DS) (E:Ziq) (σ:L2.St) (H:Hp):Prop
  | mk (ρ:Rho) (F0:Fz) (H0:Hp) (F:Fz) (o:Out) (ok:EnvOk K F0 H0 F σ H ρ) (e:g ρ=some o) (k:EndOk K F0 H0 F H E o)
noncomputable def rdS (K:PySem.W.Frag) (g:DS):TS:=fun E σ H=>ZnC K g E σ H
theorem EndOk.ext {K:PySem.W.Frag} {F0:Fz} {H0:Hp} {F F':Fz} {H H':Hp} {E:Ziq} {o:Out} (h:EndOk K F0 H0 F H E o) (x:Ext K F H F' H'):EndOk K F0 H0 F' H' E o:=by
  cases o with
  | nx ρ=>exact fun σ' F2 H2 e ok=>h σ' F2 H2 (x.trans e) ok
  | bk ρ=>exact fun σ' F2 H2 e ok=>h σ' F2 H2 (x.trans e) ok
  | ct ρ=>exact fun σ' F2 H2 e ok=>h σ' F2 H2 (x.trans e) ok
  | rt d=>exact h
noncomputable def SD (X:Cx) (st:Stmt) (g:DS):Prop:=PS X st (rdS X.K g)
noncomputable def SDs (X:Cx) (st:List Stmt) (g:DS):Prop:=PSs X st (rdS X.K g)
section
variable {X:Cx} {pos:Pos} {st:Stmt} {rest:List Stmt} {g g':DS} {e:Expr} {f:DE} {t:DT}
noncomputable def Zx:DS:=fun ρ=>some (.nx ρ)
noncomputable def Zu (g g':DS):DS:=fun ρ=>match g ρ with | some (.nx ρ1)=>g' ρ1 | r=>r
theorem ZJ:SDs X [] Zx:=PSs.imp ZiP fun E σ H ⟨ρ,F0,H0,F,o,ok,e,k⟩=>by cases e; exact k σ F H .refl ok
theorem Zl (h:SD X st g):SDs X [st] g:=Vo h
theorem Zk (h1:SD X st g) (h2:SDs X rest g'):SDs X (st::rest) (Zu g g'):=PSs.imp (Wa h1 h2) fun E σ H zq=>by
  obtain ⟨ρ,F0,H0,F,o,ok,e,k⟩:=zq
  unfold Zu at e
  cases e1:g ρ with
  | none=>rw [e1] at e; cases e
  | some o1=>
    rw [e1] at e
    cases o1 with
    | nx ρ1=>exact ⟨ρ,F0,H0,F,_,ok,e1,fun σ' F' H' x ok'=>⟨ρ1,F0,H0,F',o,ok',e,k.ext x⟩⟩
    | rt d=>cases e; exact ⟨ρ,F0,H0,F,_,ok,e1,k⟩
    | bk ρ1=>cases e; exact ⟨ρ,F0,H0,F,_,ok,e1,k⟩
    | ct ρ1=>cases e; exact ⟨ρ,F0,H0,F,_,ok,e1,k⟩
noncomputable def ZR (f:DE):DS:=fun ρ=>(f ρ).map .rt
theorem map_some {α β:Type} {o:Option α} {f:α->β} {b:β} (h:o.map f=some b):∃ a,o=some a/\f a=b:=by
  cases o with
  | none=>cases h
  | some a=>exact ⟨a,rfl,Option.some.inj h⟩
theorem Zs (he:ED X e f):SD X (.Return (some e) pos) (ZR f):=PS.imp (ZfC he) fun E σ H zq=>by
  obtain ⟨ρ,F0,H0,F,o,ok,e,k⟩:=zq
  obtain ⟨d,ed,rfl⟩:=map_some e
  exact ⟨ρ,F0,H0,F,d,ok,ed,fun v F' H' g r=>k v F' H' (ok.base.trans g) r⟩
noncomputable def Yb (t:DT) (g g':DS):DS:=fun ρ=>(t ρ).bind fun b=>match b with | true=>g ρ | false=>g' ρ
theorem Y1 {c:Expr} {a b:List Stmt} (hc:TD X c t) (ha:SDs X a g) (hb:SDs X b g'):SD X (.If c a b pos) (Yb t g g'):=PS.imp (Zkj hc ha hb) fun E σ H zq=>by
  obtain ⟨ρ,F0,H0,F,o,ok,e,k⟩:=zq
  obtain ⟨x,ex,e⟩:=bind_some e
  refine ⟨ρ,F0,H0,F,x,ok,ex,fun F1 H1 g1=>?_⟩
  cases x with
  | true=>rw [if_pos rfl]; exact ⟨ρ,F0,H0,F1,o,ok.grow g1,e,k.ext g1.ext⟩
  | false=>rw [if_neg (by decide)]; exact ⟨ρ,F0,H0,F1,o,ok.grow g1,e,k.ext g1.ext⟩
theorem EnvOk.set {K:PySem.W.Frag} {F0 F:Fz} {H0 H:Hp} {σ:L2.St} {ρ:Rho} {i:Nat} {d:D} {v:V} (ok:EnvOk K F0 H0 F σ H ρ) (r:Rep K F H d v):EnvOk K F0 H0 F (σ.set i (some v)) H (ρ.set i (.val d)) where
  base:=ok.base
  val:=fun j d' h=>by
    by_cases hj:i=j
    · subst hj
      by_cases hl:i < ρ.length
      · rw [List.getElem?_set_self hl] at h
        cases h
        exact ⟨v,by rw [List.getElem?_set_self (by rw [<-ok.len]; exact hl)],r⟩
      · rw [List.getElem?_eq_none (by rw [List.length_set]; omega)] at h; cases h
    · rw [List.getElem?_set_ne hj] at h ⊢; exact ok.val j d' h
  own:=fun j ds h=>by
    by_cases hj:i=j
    · subst hj
      by_cases hl:i < ρ.length
      · rw [List.getElem?_set_self hl] at h; cases h
      · rw [List.getElem?_eq_none (by rw [List.length_set]; omega)] at h; cases h
    · rw [List.getElem?_set_ne hj] at h ⊢; exact ok.own j ds h
  inj:=fun j k ds es a h1 h2 h3 h4=>by
    have n1:i≠j:=by
      rintro rfl
      by_cases hl:i < ρ.length
      · rw [List.getElem?_set_self hl] at h1; cases h1
      · rw [List.getElem?_eq_none (by rw [List.length_set]; omega)] at h1; cases h1
    have n2:i≠k:=by
      rintro rfl
      by_cases hl:i < ρ.length
      · rw [List.getElem?_set_self hl] at h2; cases h2
      · rw [List.getElem?_eq_none (by rw [List.length_set]; omega)] at h2; cases h2
    rw [List.getElem?_set_ne n1] at h1 h3
    rw [List.getElem?_set_ne n2] at h2 h4
    exact ok.inj j k ds es a h1 h2 h3 h4
  len:=by rw [List.length_set,List.length_set,ok.len]
  fz:=ok.fz
noncomputable def Ya (i:Nat) (f:DE):DS:=fun ρ=>(f ρ).map fun d=>.nx (ρ.set i (.val d))
theorem ZN {i:Nat} {x:Str} {pos':Pos} (hN:X.N.Nodup) (hi:X.N[i]?=some x) (hx:Loc X.env.scope x) (he:ED X e f) (hs:swapsWith e (some (.Name x pos')) pos.line X.env=pure false:=by rfl)
    (hf:X.fn x=true\/X.env.scope.names.lookup x=some .local:=by first | exact .inl rfl | exact .inr rfl | assumption):SD X (.Assign [.Name x pos'] e pos) (Ya i f):=
  PS.imp (Zh0 hN hi hx he hs hf) fun E σ H zq=>by
    obtain ⟨ρ,F0,H0,F,o,ok,e,k⟩:=zq
    obtain ⟨d,ed,rfl⟩:=map_some e
    exact ⟨ρ,F0,H0,F,d,ok,ed,fun v F' H' g r=>k _ F' H' g.ext ((ok.grow g).set r)⟩
theorem EnvOk.setOwn {K:PySem.W.Frag} {F0 F:Fz} {H0 H:Hp} {σ:L2.St} {ρ:Rho} {i:Nat} {ds:List D} {vs:List V} {p:Addr} (ok:EnvOk K F0 H0 F σ H ρ) (hp:H p=none) (hk:K.lookup p=none) (r:RepL K F H ds vs) :
    EnvOk K F0 H0 F (σ.set i (some (.ref p))) (upd H p (.lst vs)) (ρ.set i (.own ds)):=by
  have gr:Grow F H F (upd H p (.lst vs)):=.laid0 hp
  have ok1:=ok.grow gr
  have nF:¬ F p:=fun z=>by
    rcases ok.fz p z with z | ⟨o,z⟩
    · exact z hp
    · rw [hk] at z; cases z
  have oth:∀ (j:Nat) ds' a,ρ[j]?=some (.own ds')->σ[j]?=some (some (.ref a))->a≠p:=fun j ds' a h1 h2=>by
    obtain ⟨b,xs,h3,h4,_⟩:=ok.own j ds' h1
    rw [h2] at h3; cases h3
    exact ZG h4 hp
  refine ⟨ok1.base,fun j d' h=>?_,fun j ds' h=>?_,fun j k ds' es a h1 h2 h3 h4=>?_,by rw [List.length_set,List.length_set,ok.len],ok1.fz⟩
  · by_cases hj:i=j
    · subst hj
      by_cases hl:i < ρ.length
      · rw [List.getElem?_set_self hl] at h; cases h
      · rw [List.getElem?_eq_none (by rw [List.length_set]; omega)] at h; cases h
    · rw [List.getElem?_set_ne hj] at h ⊢; exact ok1.val j d' h
  · by_cases hj:i=j
    · subst hj
      by_cases hl:i < ρ.length
      · rw [List.getElem?_set_self hl] at h
        cases h
        exact ⟨p,vs,by rw [List.getElem?_set_self (by rw [<-ok.len]; exact hl)],ZO,nF,ok.base.same.free hp,r.grow gr⟩
      · rw [List.getElem?_eq_none (by rw [List.length_set]; omega)] at h; cases h
    · rw [List.getElem?_set_ne hj] at h ⊢; exact ok1.own j ds' h
  · by_cases hj:i=j
    · by_cases hk':i=k
      · exact hj.symm.trans hk'
      · subst hj
        rw [List.getElem?_set_ne hk'] at h2 h4
        by_cases hl:i < σ.length
        · rw [List.getElem?_set_self hl] at h3
          cases h3
          exact absurd rfl (oth k es p h2 h4)
        · rw [List.getElem?_eq_none (by rw [List.length_set]; omega)] at h3; cases h3
    · by_cases hk':i=k
      · subst hk'
        rw [List.getElem?_set_ne hj] at h1 h3
        by_cases hl:i < σ.length
        · rw [List.getElem?_set_self hl] at h4
          cases h4
          exact absurd rfl (oth j ds' p h1 h3)
        · rw [List.getElem?_eq_none (by rw [List.length_set]; omega)] at h4; cases h4
      · rw [List.getElem?_set_ne hj] at h1 h3
        rw [List.getElem?_set_ne hk'] at h2 h4
        exact ok.inj j k ds' es a h1 h2 h3 h4
noncomputable def ZlF (K:PySem.W.Frag) (t:TA):TE:=fun σ H Q=>t σ H fun xs H1=>xs.length<=sizeLine/\∀ p,H1 p=none->K.lookup p=none->Q (.ref p) (upd H1 p (.lst xs))
theorem ZiX {es:List Expr} {t:TA} (h:PA X es t):PE X (.List es pos) (ZlF X.K t):=by
  intro pins s σ H Q I hq
  refine wpAny_List_spliced (thn (h pos pins s σ H _ I hq) fun us s1 ⟨xs,H1,I1,r,z,q⟩=>⟨by rw [<-r.length]; exact z,?_⟩)
  have hf:H1 s1.heap.objs.size=none:=I1.hok.fresh (Nat.le_refl _)
  have hk:X.K.lookup s1.heap.objs.size=none:=by
    cases e:X.K.lookup s1.heap.objs.size with
    | none=>rfl
    | some o=>exact absurd (Heap.lt_size (I1.kIn _ o e)) (Nat.lt_irrefl _)
  refine ⟨.ref s1.heap.objs.size,upd H1 s1.heap.objs.size (.lst xs),I1.laid (t':=s1.toks) (fun b u e=>Heap.get?_push_of_some _ e) (Nat.le_refl _) ?_,rfl,q _ hf hk⟩
  exact ⟨z,us,0,r,Heap.get?_push_size _ rfl⟩
noncomputable def Zbx (i:Nat) (as:DA):DS:=fun ρ=>(as ρ).bind fun xs=>if xs.length<=lim then some (.nx (ρ.set i (.own xs))) else none
theorem Zfq {i:Nat} {x:Str} {pos' lpos:Pos} {es:List Expr} {as:DA} (hN:X.N.Nodup) (hi:X.N[i]?=some x) (hx:Loc X.env.scope x) (ha:AD X es as) (hs:swapsWith (.List es lpos) (some (.Name x pos')) pos.line X.env=pure false:=by rfl)
    (hf:X.fn x=true\/X.env.scope.names.lookup x=some .local:=by first | exact .inl rfl | exact .inr rfl | assumption):SD X (.Assign [.Name x pos'] (.List es lpos) pos) (Zbx i as):=
  PS.imp (Zh0 hN hi hx (ZiX ha) hs hf) fun E σ H zq=>by
    obtain ⟨ρ,F0,H0,F,o,ok,e,k⟩:=zq
    obtain ⟨xs,ex,e⟩:=bind_some e
    obtain ⟨hl,rfl⟩:=Z8 e
    exact ⟨ρ,F0,H0,F,xs,ok,ex,fun vs F1 H1 g1 r1=>⟨by rw [<-r1.length]; exact Jc hl,fun p hp hk=>k _ F1 _ (g1.trans (.laid0 hp)).ext ((ok.grow g1).setOwn hp hk r1)⟩⟩
theorem Zbu {K:PySem.W.Frag} {F:Fz} {H:Hp} {a:Addr} {xs ys:List V} (ha:H a=some (.lst xs)) (hF:¬ F a):Ext K F H F (upd H a (.lst ys)) where
  sub:=fun _ h=>h
  ls:=fun b zs hb h=>by
    have ne:b≠a:=fun z=>hF (z ▸ hb)
    rcases h with (h | ⟨o,h⟩) | h
    · exact .inl (.inl (by rw [ZK ne]; exact h))
    · exact .inl (.inr ⟨o,by rw [ZK ne]; exact h⟩)
    · exact .inr h
  ts:=fun b zs h=>by
    rcases h with (h | ⟨o,h⟩) | h
    · have ne:b≠a:=by rintro rfl; rw [ha] at h; cases h
      exact .inl (.inl (by rw [ZK ne]; exact h))
    · have ne:b≠a:=by rintro rfl; rw [ha] at h; cases h
      exact .inl (.inr ⟨o,by rw [ZK ne]; exact h⟩)
    · exact .inr h
theorem EnvOk.wrt {K:PySem.W.Frag} {F0 F:Fz} {H0 H:Hp} {σ:L2.St} {ρ:Rho} {i:Nat} {ds ds':List D} {xs ys:List V} {a:Addr} (ok:EnvOk K F0 H0 F σ H ρ) (ho:ρ[i]?=some (.own ds)) (hs:σ[i]?=some (some (.ref a)))
    (ha:H a=some (.lst xs)) (r:RepL K F H ds' ys):EnvOk K F0 H0 F σ (upd H a (.lst ys)) (ρ.set i (.own ds')):=by
  obtain ⟨a',xs',h1,h2,h3,h4,h5⟩:=ok.own i ds ho
  rw [hs] at h1; cases h1
  rw [ha] at h2; cases h2
  have hl:i < ρ.length:=(List.getElem?_eq_some_iff.mp ho).1
  have x:=Zbu (K:=K) (ys:=ys) ha h3
  refine ⟨⟨fun b o q=>?_,ok.base.sub,fun b z=>?_⟩,fun j d' h=>?_,fun j es h=>?_,fun j k es fs b q1 q2 q3 q4=>?_,by rw [List.length_set,ok.len],fun b z=>?_⟩
  · have ne:b≠a:=ZG q h4
    rw [ZK ne]; exact ok.base.same b o q
  · rcases ok.base.new b z with z1 | ⟨z1,z2⟩
    · exact .inl z1
    · refine .inr ⟨z1,?_⟩
      by_cases e:b=a
      · rw [e,ZO]; simp
      · rw [ZK e]; exact z2
  · have hj:i≠j:=by rintro rfl; rw [List.getElem?_set_self hl] at h; cases h
    rw [List.getElem?_set_ne hj] at h
    obtain ⟨v,e1,e2⟩:=ok.val j d' h
    exact ⟨v,e1,Rep.ext x e2⟩
  · by_cases hj:i=j
    · subst hj
      rw [List.getElem?_set_self hl] at h
      cases h
      exact ⟨a,ys,hs,ZO,h3,h4,RepL.ext x r⟩
    · rw [List.getElem?_set_ne hj] at h
      obtain ⟨b,zs,e1,e2,e3,e4,e5⟩:=ok.own j es h
      have ne:b≠a:=by rintro rfl; exact hj (ok.inj i j ds es b ho h hs e1)
      exact ⟨b,zs,e1,by rw [ZK ne]; exact e2,e3,e4,RepL.ext x e5⟩
  · have get:∀ (j:Nat) es,(ρ.set i (.own ds'))[j]?=some (.own es)->∃ es',ρ[j]?=some (.own es'):=fun j es h=>by
      by_cases hj:i=j
      · exact ⟨ds,hj ▸ ho⟩
      · rw [List.getElem?_set_ne hj] at h; exact ⟨es,h⟩
    obtain ⟨e1,g1⟩:=get j es q1
    obtain ⟨e2,g2⟩:=get k fs q2
    exact ok.inj j k e1 e2 b g1 g2 q3 q4
  · rcases ok.fz b z with z1 | z1
    · left
      by_cases e:b=a
      · rw [e,ZO]; simp
      · rw [ZK e]; exact z1
    · exact .inr z1
noncomputable def ZjR (i:Nat) (f:DE):DS:=fun ρ=>match ρ[i]? with
  | some (.own ds)=>(f ρ).bind fun d=>if ds.length < lim then some (.nx (ρ.set i (.own (ds++[d])))) else none
  | _=>none
theorem Zfr {i:Nat} {x:Expr} {pos' apos:Pos} (hx:PE X x (Zlm i)) (he:ED X e f)
    (hbase:attributeBase x "append" X.env (eval x X.env)=eval x X.env:=by rfl)
    (hfew:((backTo pos' (starEach [e] X.env)).all (fun x=>!x.1)&&(backToKw pos' (keywordEach [] X.env)).all (fun x=>x.1.isSome)
      && decide ([e].length+([]:List Keyword).length+(if ([]:List Keyword).isEmpty then 0 else 1) < 30))=true:=by rfl)
    (hline:(apos.endLine==pos'.line)=true:=by rfl) (hs:starEach [e] X.env=(false,eval e X.env)::starEach [] X.env:=by rfl) (hplain:(backTo pos' (starEach [] X.env)).any (·.1)=false:=by rfl)
    (hsw:swapsWith (.Call (.Attribute x "append" apos) [e] [] pos') none pos.line X.env=pure false:=by rfl) :
    SD X (.Expr (.Call (.Attribute x "append" apos) [e] [] pos') pos) (ZjR i f):=
  PS.imp (Zc5 (Zi0 PySem.F.plainAttrs_list PySem.F.slot_list_append PySem.F.type_list_append Zb7 hx (QA he VG hs) hbase hfew hline hs hplain) hsw) fun E σ H zq=>by
    obtain ⟨ρ,F0,H0,F,o,ok,e,k⟩:=zq
    unfold ZjR at e
    split at e
    · rename_i ds ho
      obtain ⟨d,ed,e⟩:=bind_some e
      obtain ⟨hl,rfl⟩:=Z8 e
      obtain ⟨a,xs,h1,h2,h3,h4,h5⟩:=ok.own i ds ho
      refine ⟨_,h1,.inl ⟨rfl,xs,.of h2⟩,ρ,F0,H0,F,d,ok,ed,fun v F1 H1 g1 r1=>?_⟩
      have ok1:=ok.grow g1
      have h2':=g1.same _ _ h2
      obtain ⟨a',xs',q1,q2,q3,q4,q5⟩:=ok1.own i ds ho
      rw [h1] at q1; cases q1
      rw [h2'] at q2; cases q2
      refine ⟨a,xs,v,rfl,rfl,h2',?_,k _ F1 _ (g1.ext.trans (Zbu h2' q3)) (ok1.wrt ho h1 h2' (q5.append (.cons r1 .nil)))⟩
      rw [<-q5.length]
      exact Nat.lt_of_lt_of_le hl (Jc (Nat.le_refl _))
    · cases e
end
section
variable {X:Cx} {pos:Pos} {st:Stmt} {rest:List Stmt} {g g':DS} {e:Expr} {f:DE} {t:DT}
noncomputable def QJ (t:DT) (g:DS):Nat->DS
  | 0,_=>none
  | n+1,ρ=>(t ρ).bind fun b=>match b with
    | true=>(match g ρ with | some (.nx ρ')=>QJ t g n ρ' | some (.ct ρ')=>QJ t g n ρ' | some (.bk ρ')=>some (.nx ρ') | r=>r)
    | false=>some (.nx ρ)
theorem Zg8 {c:Expr} {body:List Stmt} (n:Nat) (hp:PassesOwn (model X.prog X.w) X.A X.env X.xe) (hc:TD X c t) (hb:SDs X body g):SD X (.While c body [] pos) (QJ t g n):=
  PS.imp (Zhe hp hc hb) fun E σ H zq=>by
    obtain ⟨ρ,F0,H0,F,o,ok,e,k⟩:=zq
    refine ⟨fun m σ' H'=>∃ ρ' F',EnvOk X.K F0 H0 F' σ' H' ρ'/\Ext X.K F H F' H'/\QJ t g m ρ'=some o,⟨n,ρ,F,ok,.refl,e⟩,?_⟩
    rintro m σ1 H1 ⟨ρ1,F1,ok1,x1,e1⟩
    cases m with
    | zero=>cases e1
    | succ m=>
      unfold QJ at e1
      obtain ⟨b,eb,e1⟩:=bind_some e1
      refine ⟨ρ1,F0,H0,F1,b,ok1,eb,fun F2 H2 g2=>?_⟩
      have x2:=x1.trans (g2.ext (K:=X.K))
      cases b with
      | false=>
        refine ZmG ?_
        cases e1
        exact k σ1 F2 H2 x2 (ok1.grow g2)
      | true=>
        refine ZmF ?_
        refine ⟨fun σ' H'=>∃ ρ' F',EnvOk X.K F0 H0 F' σ' H' ρ'/\Ext X.K F H F' H'/\QJ t g m ρ'=some o,fun σ' H' z=>⟨m,by omega,z⟩,?_⟩
        simp only at e1
        cases eg:g ρ1 with
        | none=>rw [eg] at e1; cases e1
        | some o1=>
          rw [eg] at e1
          refine ⟨ρ1,F0,H0,F2,o1,ok1.grow g2,eg,?_⟩
          cases o1 with
          | nx ρ2=>exact fun σ' F' H' x ok'=>⟨ρ2,F',ok',x2.trans x,e1⟩
          | ct ρ2=>exact fun σ' F' H' x ok'=>⟨ρ2,F',ok',x2.trans x,e1⟩
          | bk ρ2=>cases e1; exact fun σ' F' H' x ok'=>k σ' F' H' (x2.trans x) ok'
          | rt d=>cases e1; exact k
noncomputable abbrev DG:=D->Rho->Option Rho
inductive ZnF (K:PySem.W.Frag) (b:DG) (v:V) (σ:L2.St) (H:Hp) (Q:L2.St->Hp->Prop):Prop
  | mk (ρ:Rho) (F0:Fz) (H0:Hp) (F:Fz) (d:D) (ρ':Rho) (ok:EnvOk K F0 H0 F σ H ρ) (r:Rep K F H d v) (e:b d ρ=some ρ') (q:∀ σ' F' H',Grow F H F' H'->EnvOk K F0 H0 F' σ' H' ρ'->Q σ' H')
noncomputable def rdG (K:PySem.W.Frag) (b:DG):TG:=fun v σ H Q=>ZnF K b v σ H Q
noncomputable def GD (X:Cx) (tg:Expr) (b:DG):Prop:=PG X tg (rdG X.K b)
theorem PG.imp {tg:Expr} {t t':TG} (h:PG X tg t) (i:∀ v σ H Q,t' v σ H Q->t v σ H Q):PG X tg t':=fun pins s σ H v u Q I r q=>h pins s σ H v u Q I r (i v σ H Q q)
noncomputable def ZQ (i:Nat):DG:=fun d ρ=>some (ρ.set i (.val d))
theorem QD {i:Nat} {x:Str} (hN:X.N.Nodup) (hi:X.N[i]?=some x) (hx:Loc X.env.scope x) (hf:X.fn x=true\/X.env.scope.names.lookup x=some .local:=by first | exact .inl rfl | exact .inr rfl | assumption):GD X (.Name x pos) (ZQ i):=
  PG.imp (Zc6 hN hi hx hf) fun v σ H Q ⟨ρ,F0,H0,F,d,ρ',ok,r,e,q⟩=>by cases e; exact q _ F H .refl (ok.set r)
noncomputable def Yz (i j:Nat):DG:=fun d ρ=>match d with | .tup [a,b]=>some ((ρ.set i (.val a)).set j (.val b)) | _=>none
theorem Vu {i j:Nat} {x y:Str} {p1 p2:Pos} {k} (hc:X.calm=true) (hN:X.N.Nodup) (hi:X.N[i]?=some x) (hj:X.N[j]?=some y) (hx:Loc X.env.scope x) (hy:Loc X.env.scope y)
    (hf:X.fn x=true\/X.env.scope.names.lookup x=some .local:=by first | exact .inl rfl | exact .inr rfl | assumption)
    (hf':X.fn y=true\/X.env.scope.names.lookup y=some .local:=by first | exact .inl rfl | exact .inr rfl | assumption):GD X (.Tuple [.Name x p1,.Name y p2] k pos) (Yz i j):=
  PG.imp (Zkm (n:=2) hc (ZdN (Zc6 hN hi hx hf) (ZdN (Zc6 hN hj hy hf') ZiW))) fun v σ H Q zq=>by
    obtain ⟨ρ,F0,H0,F,d,ρ',ok,r,e,q⟩:=zq
    unfold Yz at e
    split at e
    · rename_i a b
      cases e
      unfold Rep at r
      obtain ⟨p,xs,rfl,ht,hl⟩:=r
      obtain ⟨va,vb,rfl,ra,rb⟩:=Zhb hl
      refine ⟨p,_,rfl,ht,rfl,va,[vb],rfl,vb,[],rfl,rfl,?_⟩
      exact q _ F H .refl ((ok.set ra).set rb)
    · cases e
noncomputable def Jf (b:DG) (g:DS):List D->DS
  | [],ρ=>some (.nx ρ)
  | x::xs,ρ=>(b x ρ).bind fun ρ1=>match g ρ1 with
    | some (.nx ρ2)=>Jf b g xs ρ2
    | some (.ct ρ2)=>Jf b g xs ρ2
    | some (.bk ρ2)=>some (.nx ρ2)
    | r=>r
noncomputable def Wi (it:Rho->Option (List D)) (b:DG) (g:DS):DS:=fun ρ=>(it ρ).bind fun xs=>Jf b g xs ρ
noncomputable def FW (K:PySem.W.Frag) (F0:Fz) (H0:Hp) (F:Fz) (H:Hp) (b:DG) (g:DS) (xs:List D) (o:Out) (i:Nat) (σ':L2.St) (H':Hp):Prop:=
  ∃ ρ' F',EnvOk K F0 H0 F' σ' H' ρ'/\Ext K F H F' H'/\Jf b g (xs.drop i) ρ'=some o
noncomputable def Znq (K:PySem.W.Frag) (tl:TE):TI:=fun σ H R=>tl σ H fun x H1=>∃ a,x=.ref a/\(((∃ xs,SqL K H1 a xs)/\R (Itl K a) H1)\/((∃ xs,SqT K H1 a xs)/\R (Itt K a) H1))
theorem Zkl {tg l:Expr} {tl:TE} (hl:PE X l tl):PI X tg l (Znq X.K tl):=by
  intro pins s σ H R I h
  refine thn (hl pins s σ H _ I h) fun v s1 zq=>?_
  obtain ⟨x,H1,I1,r1,q1⟩:=zq
  obtain ⟨a,e,q1⟩:=q1
  subst e
  cases r1
  have fpk:∀ b∈[s1.heap.objs.size],ZcT X pins H1 b:=fun b hb=>by
    have e:b=s1.heap.objs.size:=by simpa using hb
    subst e
    exact I1.fpOk (Nat.le_refl _) (I1.hok.fresh (Nat.le_refl _))
  rcases q1 with ⟨⟨xs,hq⟩,q⟩ | ⟨⟨xs,hq⟩,q⟩
  · obtain ⟨its,rv,p,hz⟩:=I1.list hq
    refine wpAny_pyIter_list p.isList ?_
    exact ⟨s1.heap.objs.size,[s1.heap.objs.size],_,_,H1,rfl,I1.kept (t':=s1.toks) fun b o e=>Heap.get?_push_of_some _ e,Ze9 a _,⟨_,Heap.get?_push_size _ rfl,rfl,rfl⟩,fpk,q⟩
  · obtain ⟨its,rv,p,hz⟩:=I1.tuple hq
    refine wpAny_pyIter_tuple (show s1.heap.IsTuple a its.toArray from p) ?_
    exact ⟨s1.heap.objs.size,[s1.heap.objs.size],_,_,H1,rfl,I1.kept (t':=s1.toks) fun b o e=>Heap.get?_push_of_some _ e,Zea a _,⟨_,Heap.get?_push_size _ rfl,rfl,rfl⟩,fpk,q⟩
noncomputable def QI (f:DE):Rho->Option (List D):=fun ρ=>(f ρ).bind fun d=>match d with | .lst xs=>some xs | .tup xs=>some xs | _=>none
noncomputable def Ql (lo:Int) (n:Nat):List D:=(List.range n).map fun (k:Nat)=>D.int (lo+(k:Int))
noncomputable def V1 (i:Int):Bool:=decide (-(2 ^ 62)<=i)&&decide (i < 2 ^ 62)
noncomputable def Zbo (f:DE):Rho->Option (List D):=fun ρ=>(f ρ).bind fun d=>match d with | .int j=>if V1 j then some (Ql 0 j.toNat) else none | _=>none
noncomputable def Zf7 (f g:DE):Rho->Option (List D):=fun ρ=>(f ρ).bind fun d=>(g ρ).bind fun d'=>match d,d' with | .int i,.int j=>if V1 i&&V1 j then some (Ql i (j-i).toNat) else none | _,_=>none
theorem Zba {i:Int} (h:V1 i=true):-(2 ^ 62)<=i/\i < 2 ^ 62:=by
  obtain ⟨a,b⟩:=Bool.and_eq_true_iff.mp h; exact ⟨of_decide_eq_true a,of_decide_eq_true b⟩
noncomputable def rel (i:Nat) (ρ:Rho):Rho:=match ρ[i]? with | some (.own ds)=>ρ.set i (.val (.lst ds)) | _=>ρ
theorem EnvOk.rel {K:PySem.W.Frag} {F0 F:Fz} {H0 H:Hp} {σ:L2.St} {ρ:Rho} (ok:EnvOk K F0 H0 F σ H ρ) (i:Nat):∃ F',EnvOk K F0 H0 F' σ H (rel i ρ)/\Ext K F H F' H:=by
  unfold L3.rel
  split
  · rename_i ds ho
    obtain ⟨a,xs,h1,h2,h3,h4,h5⟩:=ok.own i ds ho
    have x:Ext K F H (fun b=>F b\/b=a) H:=⟨fun b z=>.inl z,fun b ys _ z=>z,fun b ys z=>z⟩
    have hl:i < ρ.length:=(List.getElem?_eq_some_iff.mp ho).1
    have old:∀ (j:Nat) es,(ρ.set i (.val (.lst ds)))[j]?=some (.own es)->i≠j/\ρ[j]?=some (.own es):=fun j es h=>by
      by_cases hj:i=j
      · subst hj; rw [List.getElem?_set_self hl] at h; cases h
      · rw [List.getElem?_set_ne hj] at h; exact ⟨hj,h⟩
    refine ⟨fun b=>F b\/b=a,⟨⟨ok.base.same,fun b z=>.inl (ok.base.sub b z),fun b z=>?_⟩,fun j d h=>?_,fun j es h=>?_,fun j k es fs b q1 q2 q3 q4=>?_,by rw [List.length_set,ok.len],fun b z=>?_⟩,x⟩
    · rcases z with z | rfl
      · exact ok.base.new b z
      · exact .inr ⟨h4,by rw [h2]; simp⟩
    · by_cases hj:i=j
      · subst hj
        rw [List.getElem?_set_self hl] at h
        cases h
        refine ⟨_,h1,?_⟩
        unfold Rep
        exact ⟨a,xs,rfl,.inr rfl,.of h2,RepL.ext x h5⟩
      · rw [List.getElem?_set_ne hj] at h
        obtain ⟨v,e1,e2⟩:=ok.val j d h
        exact ⟨v,e1,Rep.ext x e2⟩
    · obtain ⟨hj,h⟩:=old j es h
      obtain ⟨b,ys,e1,e2,e3,e4,e5⟩:=ok.own j es h
      refine ⟨b,ys,e1,e2,fun z=>?_,e4,RepL.ext x e5⟩
      rcases z with z | rfl
      · exact e3 z
      · exact hj (ok.inj i j ds es b ho h h1 e1)
    · obtain ⟨_,q1⟩:=old j es q1
      obtain ⟨_,q2⟩:=old k fs q2
      exact ok.inj j k es fs b q1 q2 q3 q4
    · rcases z with z | rfl
      · exact ok.fz b z
      · exact .inl (by rw [h2]; simp)
  · exact ⟨F,ok,.refl⟩
noncomputable def Zlp (i:Nat) (g:DS):DS:=fun ρ=>g (rel i ρ)
theorem Zj8 (i:Nat) (h:SD X st g):SD X st (Zlp i g):=PS.imp h fun E σ H zq=>by
  obtain ⟨ρ,F0,H0,F,o,ok,e,k⟩:=zq
  obtain ⟨F',ok',x⟩:=ok.rel i
  exact ⟨_,F0,H0,F',o,ok',e,k.ext x⟩
mutual
noncomputable def noL:D->Bool
  | .lst _=>false
  | .tup xs=>ZkE xs
  | _=>true
noncomputable def ZkE:List D->Bool
  | []=>true
  | d::ds=>noL d&&ZkE ds
end
mutual
theorem Rep.noL {K:PySem.W.Frag} {F F':Fz} {H:Hp}:∀ {d:D} {v:V},L3.noL d=true->Rep K F H d v->Rep K F' H d v
  | .non,_,_,h=>h
  | .bl _,_,_,h=>h
  | .int _,_,_,h=>h
  | .str _,_,_,h=>h
  | .tup ds,_,n,h=>by
    unfold Rep at h ⊢
    obtain ⟨a,xs,rfl,ht,hr⟩:=h
    exact ⟨a,xs,rfl,ht,RepL.noL (by simpa [L3.noL] using n) hr⟩
  | .lst ds,_,n,h=>by simp [L3.noL] at n
theorem RepL.noL {K:PySem.W.Frag} {F F':Fz} {H:Hp}:∀ {ds:List D} {vs:List V},ZkE ds=true->RepL K F H ds vs->RepL K F' H ds vs
  | [],_,_,h=>by rw [h.unnil]; exact .nil
  | d::ds,_,n,h=>by
    obtain ⟨y,ys,rfl,h1,h2⟩:=h.uncons
    have n':L3.noL d=true/\ZkE ds=true:=by simpa [ZkE] using n
    exact .cons (Rep.noL n'.1 h1) (RepL.noL n'.2 h2)
end
end
noncomputable def Zo (n:Nat) (g:DS):List D->Option D:=fun xs=>(g (xs.map .val++List.replicate (n-xs.length) .no)).bind fun o=>match o with | .rt d=>some d | .nx _=>some .non | _=>none
section
variable {P:Program} {w:World} {K:PySem.W.Frag} {mg:Str->Option Value} {base:Heap}
theorem Znv {x qual:Str} {st:Stmt} {f:Addr} {fd:FuncData} {N ps:List Str} {k:Nat} {g:DS} (F:Fun K x qual st f fd) (S:Zr N ps (Zi st))
    (hb:∀ (cdv:Value) (A:Around) (outer:List Env) (s:Shared) (H:Hp) (E:XK),Room k (A.deeper (envOfC qual (Zi st) s.heap.objs.size f cdv)) ->
      SDs (ZeN CX0 P w K mg base N qual (Zi st) f cdv A outer s H E).nox (QE st) g):FnD P w K mg base (k+1) f fd ps (Zo N.length g):=by
  have hpl:ps.length<=N.length:=by have:=congrArg List.length S.pre; rw [List.length_take] at this; omega
  refine F.ok S (fun vs H Q E h=>?_) (fun cdv A outer s H vs Q E hr h=>⟨_,hb cdv A outer s H E hr,?_⟩)
  · obtain ⟨xs,F,d,hl,hr,_⟩:=h
    rw [<-hr.length,hl]
  · obtain ⟨xs,Fz,d,hl,hr',hfz,e,q⟩:=h
    obtain ⟨o,eo,e⟩:=bind_some e
    have hlv:=hr'.length
    refine ⟨_,Fz,H,Fz,o,⟨.refl,fun i d' h=>?_,fun i ds h=>?_,fun i j ds es a h=>?_,?_,hfz⟩,eo,?_⟩
    · have hi:i < xs.length:=by
        by_cases hi:i < xs.length
        · exact hi
        · rw [List.getElem?_append_right (by simpa using hi),List.getElem?_replicate] at h
          split at h <;> cases h
      rw [List.getElem?_append_left (by simpa using hi),List.getElem?_map,List.getElem?_eq_getElem hi] at h
      cases h
      obtain ⟨v,ev,rv⟩:=hr'.get (show xs[i]?=some xs[i] by simp [hi])
      refine ⟨v,?_,rv⟩
      unfold L2.start
      rw [List.getElem?_append_left (by simp; omega),List.getElem?_map,ev]; rfl
    · by_cases hi:i < xs.length
      · rw [List.getElem?_append_left (by simpa using hi),List.getElem?_map,List.getElem?_eq_getElem hi] at h; cases h
      · rw [List.getElem?_append_right (by simpa using hi),List.getElem?_replicate] at h
        split at h <;> cases h
    · by_cases hi:i < xs.length
      · rw [List.getElem?_append_left (by simpa using hi),List.getElem?_map,List.getElem?_eq_getElem hi] at h; cases h
      · rw [List.getElem?_append_right (by simpa using hi),List.getElem?_replicate] at h
        split at h <;> cases h
    · unfold L2.start; simp; omega
    · cases o with
      | rt d'=>cases e; exact fun v F' H' g r=>q v F' H' g r
      | nx ρ=>cases e; exact fun σ' F' H' x ok=>q _ F' H' ok.base (by unfold Rep; rfl)
      | bk ρ=>cases e
      | ct ρ=>cases e
end
section
variable {X:Cx} {pins:List (Addr×Obj)} {σ:L2.St} {H:Hp} {s:Shared} {h':Heap}
theorem WJ {t':Nat} {e it:Addr} {o:HO} (I:Inv X pins σ H s) (f1:ZcT X pins H e) (f2:ZcT X pins H it) (k:∀ b u,b≠e->b≠it->s.heap.get? b=some u->h'.get? b=some u)
    (new:ObjOk X.prog X.w (upd H s.heap.objs.size o) h' s.heap.objs.size o):Inv X pins σ (upd H s.heap.objs.size o) { s with heap:=h',toks:=t' }:=by
  have hp:H s.heap.objs.size=none:=I.hok.fresh (Nat.le_refl _)
  have inH:∀ {b:Addr} {u:Obj},s.heap.get? b=some u->b≠s.heap.objs.size:=fun q=>Nat.ne_of_lt (Heap.lt_size q)
  have kk:∀ b u,b ∉ [e,it]->s.heap.get? b=some u->h'.get? b=some u:=fun b u hb q=>k b u (fun z=>hb (by simp [z])) (fun z=>hb (by simp [z])) q
  have nT:∀ b u,H b=some u->b ∉ [e,it]:=fun b u q z=>by
    rcases List.mem_cons.mp z with z | z
    · rw [z,f1.1] at q; cases q
    · rw [List.mem_singleton] at z; rw [z,f2.1] at q; cases q
  refine I.step (g':=s.gens) (d':=s.drawn) (ch:=[e,it]) (fun b hb=>?_) (fun b u _ _ hc q _=>kk b u hc q) (fun b u _ _ hc q _=>⟨u.slots,kk b u hc q⟩) (fun b u hc q n=>?_) (fun b u hc q=>⟨u,kk b u hc q⟩)
    (fun b xs q=>?_) (fun b u xs q=>?_) (fun b ps q=>⟨#[],?_⟩) (fun m hm=>?_) (fun b u q=>?_) I.bare
  · rcases List.mem_cons.mp hb with z | z
    · subst z; exact ⟨f1.2.2.2.1,f1.2.1,f1.2.2.2.2.1,f1.2.2.2.2.2⟩
    · rw [List.mem_singleton] at z; subst z; exact ⟨f2.2.2.2.1,f2.2.1,f2.2.2.2.2.1,f2.2.2.2.2.2⟩
  · rw [ZK (inH q)]; exact n
  · rw [ZK (ZG q hp)]; exact q
  · rw [ZK (ZG q hp)]; exact q
  · rw [ZK (ZG q hp),q]; simp
  · obtain ⟨ob,es,ep,ho,r⟩:=hm
    exact ⟨ob,es,ep,k _ ob (fun z=>f1.2.1 z.symm) (fun z=>f2.2.1 z.symm) ho,r⟩
  · by_cases hb:b=s.heap.objs.size
    · subst hb
      rw [ZO] at q
      cases q
      exact new
    · rw [ZK hb] at q
      refine (I.hok b u q).stay (fun c v hc r=>kk c v ?_ r) (fun c r=>by rw [ZK (ZG r hp)]; exact r) fun c xs r=>by rw [ZK (ZG r hp)]; exact r
      rcases hc with z | z
      · rw [z]; exact nT b u q
      · exact nT c _ z
end
noncomputable def Ite (K : PySem.W.Frag) (a : Addr) (tup : Bool) : It :=
  ⟨fun i H => ∃ xs x, (if tup then SqT K H a xs else SqL K H a xs) /\ xs[i]? = some x,
   fun i H x H' => ∃ p y, (∀ xs, (if tup then SqT K H a xs else SqL K H a xs) -> xs[i]? = some y) /\ H p = none /\ x = .ref p /\ H' = upd H p (.tup [.int i, y]),
   fun i H => ∃ xs, (if tup then SqT K H a xs else SqL K H a xs) /\ xs.length <= i⟩
theorem Zed {P:Program} {w:World} {K:PySem.W.Frag} {elts:List Expr} {k:Nat} {pos:Pos} (a e it:Addr) (hei:e≠it) :
    Zil P w K (.Tuple elts k pos) (Ite K a false) [e,it] e (fun i h=>(∃ old,IsEnum h e it i old)/\h.IsListIter it a i) where
  mem:=by simp
  obj:=fun i h st b hb=>by
    obtain ⟨⟨old,he⟩,o,h1,h2,h3⟩:=st
    rcases List.mem_cons.mp hb with z | z
    · subst z; exact ⟨_,he,fun v z=>by have z':Data.fields _=Data.cell v:=z; cases z'⟩
    · rw [List.mem_singleton] at z; subst z; exact ⟨o,h1,fun v z=>by rw [h3] at z; cases z⟩
  keep:=fun i h h' st kp=>by
    obtain ⟨⟨old,he⟩,st⟩:=st
    exact ⟨⟨old,kp e (by simp) _ he⟩,st.at fun o q=>kp it (by simp) o q⟩
  item:=by
    intro X hP hw hK hc i pins s σ H E I hf st hg
    subst hP hw hK
    obtain ⟨xs,x,hq,hx⟩:=hg
    have hq:SqL X.K H a xs:=hq
    obtain ⟨⟨old,he⟩,hit⟩:=st
    obtain ⟨its,rv,p,hz⟩:=I.list hq
    obtain ⟨u,hu,ru⟩:=rv.get hx
    have f1:=hf e (by simp)
    have f2:=hf it (by simp)
    refine wpAny_pyNext_enum_item he hit p.isList (x:=u) (by simpa using hu) hei fun h1 he1 hit1 ht1 hz1 kp=>?_
    have hp:H s.heap.objs.size=none:=I.hok.fresh (Nat.le_refl _)
    have I1:Inv X pins σ (upd H s.heap.objs.size (.tup [.int i,x])) { s with heap:=h1,toks:=s.toks+1 }:=
      WJ I f1 f2 (fun b ob h1' h2' q=>kp b ob h1' h2' q) ⟨by show 2<=sizeLine; decide,[.int i s.toks,u],.cons ⟨_,rfl⟩ (.cons ru .nil),⟨_,ht1,rfl,_,rfl⟩⟩
    refine ⟨_,rfl,wpAny_letOwnedTupleGo_enum (s:={ s with heap:=h1,toks:=s.toks+1 }) he1 fun h2 he2 hs2=>?_⟩
    have ne:∀ {b},H b=none->b∈[e,it]->b≠s.heap.objs.size:=fun {b} _ hb=>by
      rcases List.mem_cons.mp hb with z | z
      · rw [z]; exact Nat.ne_of_lt (Heap.lt_size he)
      · rw [List.mem_singleton] at z; rw [z]; obtain ⟨o,q,_⟩:=hit; exact Nat.ne_of_lt (Heap.lt_size q)
    have fz:∀ b∈[e,it],upd H s.heap.objs.size (.tup [.int i,x]) b=none:=fun b hb=>by rw [ZK (ne (hf b hb).1 hb)]; exact (hf b hb).1
    have I2:Inv X pins σ (upd H s.heap.objs.size (.tup [.int i,x])) { s with heap:=h2,toks:=s.toks+1 }:=
      L2.Inv.turned (s:={ s with heap:=h1,toks:=s.toks+1 }) (t':=s.toks+1) (it:=e) I1 (fun b ob hb q=>(hs2.2 b hb).trans q) (fz e (by simp)) f1.2.1 f1.2.2.2.1 f1.2.2.2.2.1 f1.2.2.2.2.2
    exact ⟨.ref s.heap.objs.size,_,I2,rfl,⟨s.heap.objs.size,x,fun xs' hq'=>by rw [I.list_inj (show SqL X.K H a xs' from hq') hq]; exact hx,hp,rfl,rfl⟩,⟨⟨u,he2⟩,hit1.at fun ob q=>(hs2.2 it (Ne.symm hei)).trans q⟩,fz⟩
  done:=by
    intro X hP hw hK hc i pins s σ H E I hf st hg
    subst hP hw hK
    obtain ⟨xs,hq,hx⟩:=hg
    have hq:SqL X.K H a xs:=hq
    obtain ⟨⟨old,he⟩,hit⟩:=st
    obtain ⟨its,rv,p,hz⟩:=I.list hq
    have hl:=rv.length
    have f2:=hf it (by simp)
    exact wpAny_pyNext_enum_end (I.ok.hd hc) he hit p.isList (by simp; omega) fun h1 hb=>⟨rfl,I.turned (t':=s.toks) (it:=it) (fun b ob hb' q=>hb b ob hb' q) f2.1 f2.2.1 f2.2.2.2.1 f2.2.2.2.2.1 f2.2.2.2.2.2⟩
  self:=fun _ _ _ _ _ st h=>by
    obtain ⟨⟨old,he⟩,_⟩:=st
    exact wpAny_pyIter_enum he h
open PySem.AutoSeq1 (wpAny_loadPart')
section
variable {prog:Program} {w:World} {A:Around} {E:Value->Shared->Prop} {s:Shared}
theorem Zey {it t:Addr} {i:Nat} {its:Array Value} {x:Value} {Q:Value->Shared->Prop} (hi:s.heap.IsTupleIter it t i) (ht:s.heap.IsTuple t its) (hx:its[i]?=some x)
    (q:∀ k,k.IsTupleIter it t (i+1)->Heap.SameBut it s.heap k->Q x { s with heap:=k }):wpAny (model prog w) A (Builtin.SmallTypes.nextOf (.ref it)) Q E s:=by
  obtain ⟨o,ho,hc,hd⟩:=id hi
  obtain ⟨ot,hot,_,nt,hdt⟩:=ht
  unfold Builtin.SmallTypes.nextOf
  refine wpAny_bind (wpAny_callSpecial?_slot (name:=Str.ofString "__next__") hi.typeIs F.slot_tuple_iterator_next (wpAny_call_entry F.slot_tuple_iterator_next hi.typeIs F.entry_tuple_iterator_next ?_ (F.args_tuple_iterator_next_1 _)))
  show wpAny _ _ (field (.ref it) 0 >>= _) _ _ s; refine wpAny_bind (wpAny_field ho hd (x:=.ref t) rfl ?_)
  show wpAny _ _ (if (Value.ref t==Value.none)=true then _ else _) _ _ s; rw [if_neg (show ¬ ((Value.ref t==Value.none)=true) from Bool.false_ne_true)]
  show wpAny _ _ (field (.ref it) 1 >>= _) _ _ s; refine wpAny_bind (wpAny_field ho hd (x:=.int i 0) rfl ?_)
  show wpAny _ _ (seqItems? (.ref t) >>= _) _ _ s; refine wpAny_bind (wpAny_seqItems hot hdt ?_)
  simp only [Int.toNat_natCast,hx]
  refine wpAny_bind (wpAny_setField ho hd (by simp) (wpAny_pure ⟨x,rfl,wpAny_pure (q _ ⟨_,Heap.get?_update_self _ ho (Obj.isFreed_of_fields (Obj.data_mapFields hd _)),(Obj.cls_mapFields ..).trans hc,by rw [Obj.data_mapFields hd]; simp [rawInt]⟩ (Heap.SameBut.update ..))⟩))
theorem ZfV {it t:Addr} {i:Nat} {its:Array Value} {Q:Value->Shared->Prop} (hh:A.handled=none) (hi:s.heap.IsTupleIter it t i) (ht:s.heap.IsTuple t its) (hx:its[i]?=none)
    (q:∀ k e,Heap.ExtBut it s.heap k->(∃ o,k.get? e=some o/\o.cls=.type "StopIteration")->E (.ref e) { s with heap:=k }):wpAny (model prog w) A (Builtin.SmallTypes.nextOf (.ref it)) Q E s:=by
  obtain ⟨o,ho,hc,hd⟩:=id hi
  obtain ⟨ot,hot,_,nt,hdt⟩:=ht
  unfold Builtin.SmallTypes.nextOf
  refine wpAny_bind (wpAny_callSpecial?_slot (name:=Str.ofString "__next__") hi.typeIs F.slot_tuple_iterator_next (wpAny_call_entry F.slot_tuple_iterator_next hi.typeIs F.entry_tuple_iterator_next ?_ (F.args_tuple_iterator_next_1 _)))
  show wpAny _ _ (field (.ref it) 0 >>= _) _ _ s; refine wpAny_bind (wpAny_field ho hd (x:=.ref t) rfl ?_)
  show wpAny _ _ (if (Value.ref t==Value.none)=true then _ else _) _ _ s; rw [if_neg (show ¬ ((Value.ref t==Value.none)=true) from Bool.false_ne_true)]
  show wpAny _ _ (field (.ref it) 1 >>= _) _ _ s; refine wpAny_bind (wpAny_field ho hd (x:=.int i 0) rfl ?_)
  show wpAny _ _ (seqItems? (.ref t) >>= _) _ _ s; refine wpAny_bind (wpAny_seqItems hot hdt ?_)
  simp only [Int.toNat_natCast,hx]
  refine wpAny_bind (wpAny_rule (wpAny_bind (wpAny_setField ho hd (by simp) ?_)))
  show wpAny _ _ (newExc (.type "StopIteration") [] >>= _) _ _ _; refine wpAny_bind ?_
  simp only [newExc,newTuple]
  refine wpAny_bind (wpAny_newObj_type ?_ (by size_fits)); refine wpAny_bind (m:=firstArgMember _ _) (wpAny_of_eq (a:=Value.none) (by first | rfl | (simp only [firstArgMember]; rfl)) ?_)
  refine wpAny_newObj_type ?_ (by size_fits); simp only [raiseNew]; refine wpAny_bind (wpAny_handled ?_)
  first | rw [show A.in1.handled=none from hh] | rw [hh]
  refine wpAny_bind (wpAny_pure (wpAny_throw ?_))
  exact q _ _ (((Heap.SameBut.update ..).extBut.push _).push _) ⟨_,Heap.get?_push_size _ rfl,rfl⟩
theorem ZeI {e it t:Addr} {i:Nat} {its:Array Value} {x old:Value} {Q:Value->Shared->Prop} (he:IsEnum s.heap e it i old) (hi:s.heap.IsTupleIter it t i) (ht:s.heap.IsTuple t its) (hx:its[i]?=some x) (hne:e≠it)
    (q:∀ k,IsEnumOut k e it ((i:Int)+1) x s.heap.objs.size->k.IsTupleIter it t (i+1)->k.get? s.heap.objs.size=some { cls:=.type "tuple",data:=.seq #[.int i s.toks,x] }->k.objs.size=s.heap.objs.size+1 ->
      (∀ b o,b≠e->b≠it->s.heap.get? b=some o->k.get? b=some o)->Q (.ref s.heap.objs.size) { s with heap:=k,toks:=s.toks+1 }) :
    wpAny (model prog w) A (Builtin.«enumerate.__next__» ⟨[.ref e],[]⟩) (fun fin s'=>∃ v,fin=.done (.ret v)/\Q v s') E s:=by
  obtain ⟨hp,gs,dr,tk,os⟩:=s
  show wpAny _ _ (field (.ref e) 2 >>= _) _ _ _; refine wpAny_bind (wpAny_field he rfl (x:=.ref it) rfl ?_)
  refine wpAny_bind (Zey hi ht hx fun k1 hi1 sb1=>?_)
  replace sb1:Heap.SameBut it hp k1:=sb1
  have en1:IsEnum k1 e it i old:=(sb1.2 e hne).trans he
  show wpAny _ _ (field (.ref e) 3 >>= _) _ _ ⟨k1,gs,dr,tk,os⟩; refine wpAny_bind (wpAny_field en1 rfl (x:=rawInt i) rfl ?_)
  show wpAny _ _ (field (.ref e) 4 >>= _) _ _ ⟨k1,gs,dr,tk,os⟩; refine wpAny_bind (wpAny_field en1 rfl (x:=.none) rfl ?_)
  show wpAny _ _ (mkInt i >>= _) _ _ ⟨k1,gs,dr,tk,os⟩; refine wpAny_bind (wpAny_mkInt ?_)
  show wpAny _ _ (setField (.ref e) 3 (rawInt ((i:Int)+1)) >>= _) _ _ ⟨k1,gs,dr,tk+1,os⟩; refine wpAny_bind (wpAny_setField_rec en1 (by simp) fun k2 en2 sb2=>?_)
  replace sb2:Heap.SameBut e k1 k2:=sb2; replace en2:IsEnum k2 e it ((i:Int)+1) old:=en2
  show wpAny _ _ (setField (.ref e) 4 .none >>= _) _ _ ⟨k2,gs,dr,tk+1,os⟩; refine wpAny_bind (wpAny_setField_rec en2 (by simp) fun k3 en3 sb3=>?_)
  replace sb3:Heap.SameBut e k2 k3:=sb3; replace en3:IsEnum k3 e it ((i:Int)+1) old:=en3
  show wpAny _ _ (newTuple [.int i tk,x] >>= _) _ _ ⟨k3,gs,dr,tk+1,os⟩; refine wpAny_bind (wpAny_newTuple ?_)
  have en4:IsEnum (k3.push { cls:=.type "tuple",data:=.seq #[.int i tk,x] }) e it ((i:Int)+1) old:=Heap.get?_push_of_some _ en3
  generalize h4:k3.push { cls:=.type "tuple",data:=.seq #[.int i tk,x] }=k4 at en4
  have z3:k3.objs.size=hp.objs.size:=by rw [sb3.1,sb2.1,sb1.1]
  have lt:e < hp.objs.size:=Heap.lt_size he
  have t4:k4.get? hp.objs.size=some { cls:=.type "tuple",data:=.seq #[.int i tk,x] }:=by rw [<-h4,<-z3]; exact Heap.get?_push_size _ rfl
  have z4:k4.objs.size=hp.objs.size+1:=by rw [<-h4,Heap.size_push,z3]
  have old4:∀ b o,b≠e->b≠it->hp.get? b=some o->k4.get? b=some o:=fun b o n1 n2 hb=>by
    rw [<-h4]; exact Heap.get?_push_of_some _ (sb3.extBut b o n1 (sb2.extBut b o n1 (sb1.extBut b o n2 hb)))
  have hi4:k4.IsTupleIter it t (i+1):=by
    rw [<-h4]; obtain ⟨o,ho,r⟩:=(hi1.extBut sb2.extBut (Ne.symm hne)).extBut sb3.extBut (Ne.symm hne); exact ⟨o,Heap.get?_push_of_some _ ho,r⟩
  show wpAny _ _ (Builtin.SmallTypes.ownedTupleIsFree (.ref e) >>= _) _ _ ⟨k4,gs,dr,tk+1,os⟩
  rw [z3]
  clear h4 en3 sb3 en2 sb2 en1 sb1 hi1 z3 k3 k2 k1
  refine wpAny_bind ?_
  unfold Builtin.SmallTypes.ownedTupleIsFree; refine wpAny_bind (wpAny_field en4 rfl (x:=.none) rfl (wpAny_pure ?_))
  simp only [if_true]
  refine wpAny_bind (wpAny_rule ?_); refine wpAny_bind (wpAny_field en4 rfl (x:=old) rfl ?_); refine wpAny_bind (wpAny_setField_rec en4 (by simp) fun k5 en5 sb5=>?_)
  replace sb5:Heap.SameBut e k4 k5:=sb5; replace en5:IsEnum k5 e it ((i:Int)+1) x:=en5
  show wpAny _ _ (Builtin.SmallTypes.ownedTupleHandOut (.ref e) (.ref hp.objs.size) >>= _) _ _ ⟨k5,gs,dr,tk+1,os⟩
  refine wpAny_bind ?_
  unfold Builtin.SmallTypes.ownedTupleHandOut; refine wpAny_bind (wpAny_setField_rec en5 (by simp) fun k6 en6 sb6=>?_)
  replace sb6:Heap.SameBut e k5 k6:=sb6; replace en6:IsEnumOut k6 e it ((i:Int)+1) x hp.objs.size:=en6
  refine wpAny_setField_rec en6 (by simp) fun k7 en7 sb7=>?_
  replace sb7:Heap.SameBut e k6 k7:=sb7; replace en7:IsEnumOut k7 e it ((i:Int)+1) x hp.objs.size:=en7
  have up:∀ b o,b≠e->k4.get? b=some o->k7.get? b=some o:=fun b o n hb=>sb7.extBut b o n (sb6.extBut b o n (sb5.extBut b o n hb))
  refine wpAny_bind (wpAny_letGo (wpAny_pure ⟨_,rfl,q k7 en7 ?_ (up _ _ (Nat.ne_of_gt lt) t4) (by rw [sb7.1,sb6.1,sb5.1,z4]) fun b o n1 n2 hb=>up b o n1 (old4 b o n1 n2 hb)⟩))
  obtain ⟨o,ho,r⟩:=hi4; exact ⟨o,up it o (Ne.symm hne) ho,r⟩
theorem ZeJ {e it t:Addr} {i:Nat} {its:Array Value} {x old:Value} {Q:Option Value->Shared->Prop} (he:IsEnum s.heap e it i old) (hi:s.heap.IsTupleIter it t i) (ht:s.heap.IsTuple t its) (hx:its[i]?=some x) (hne:e≠it)
    (q:∀ k,IsEnumOut k e it ((i:Int)+1) x s.heap.objs.size->k.IsTupleIter it t (i+1)->k.get? s.heap.objs.size=some { cls:=.type "tuple",data:=.seq #[.int i s.toks,x] }->k.objs.size=s.heap.objs.size+1 ->
      (∀ b o,b≠e->b≠it->s.heap.get? b=some o->k.get? b=some o)->Q (some (.ref s.heap.objs.size)) { s with heap:=k,toks:=s.toks+1 }):wpAny (model prog w) A (pyNext (.ref e)) Q E s:=by
  have ty:s.TypeIs (.ref e) "enumerate":=⟨_,he,rfl⟩
  unfold pyNext
  exact wpAny_bind (wpAny_attempt (wpAny_callSpecial?_slot (name:=Str.ofString "__next__") ty F.slot_enumerate_next (wpAny_call_entry F.slot_enumerate_next ty F.entry_enumerate_next
    (ZeI he hi ht hx hne fun k a b c d o=>wpAny_pure (q k a b c d o)) (F.args_enumerate_next_1 _))))
theorem Zgr {e it t:Addr} {i:Nat} {its:Array Value} {old:Value} {Q:Option Value->Shared->Prop} (hh:A.handled=none) (he:IsEnum s.heap e it i old) (hi:s.heap.IsTupleIter it t i) (ht:s.heap.IsTuple t its) (hx:its[i]?=none)
    (q:∀ k,Heap.ExtBut it s.heap k->Q none { s with heap:=k }):wpAny (model prog w) A (pyNext (.ref e)) Q E s:=by
  have ty:s.TypeIs (.ref e) "enumerate":=⟨_,he,rfl⟩
  unfold pyNext
  refine wpAny_bind (wpAny_attempt (wpAny_callSpecial?_slot (name:=Str.ofString "__next__") ty F.slot_enumerate_next (wpAny_call_entry F.slot_enumerate_next ty F.entry_enumerate_next ?_ (F.args_enumerate_next_1 _))))
  show wpAny _ _ (field (.ref e) 2 >>= _) _ _ _; refine wpAny_bind (wpAny_field he rfl (x:=.ref it) rfl ?_)
  refine wpAny_bind (ZfV hh hi ht hx fun k x kb zq=>?_)
  obtain ⟨o,ho,hc⟩:=zq
  refine wpAny_bind (wpAny_isInstance (T:="StopIteration") (b:=true) ⟨o,ho,hc⟩ isSubtype_stop ?_)
  exact wpAny_pure (q _ kb)
theorem Zgq (t:Addr) (its:Array Value) (n:Nat) (dd:Option Addr) (sl:Array (Option Value)) :
    Meets (Builtin.«enumerate.__new__» ⟨[.type "enumerate",.ref t],[]⟩) (fun _ R s=>s.heap.get? t=some { cls:=.type "tuple",dict:=dd,data:=.seq its n,slots:=sl } /\
      R (.ok (.ret (.ref (s.heap.push { cls:=.type "tuple_iterator",data:=.fields #[.ref t,.int 0 0] }).objs.size)))
        { s with heap:=(s.heap.push { cls:=.type "tuple_iterator",data:=.fields #[.ref t,.int 0 0] }).push { cls:=.type "enumerate",data:=.fields #[.none,.bool false,.ref s.heap.objs.size,rawInt 0,.none,.none] } }):=
  .of_wp fun prog w A R s h=>by
    obtain ⟨hp,gs,dr,tk,os⟩:=s; obtain ⟨ht,h⟩:=h; have hsub:=sub_enumerate
    have hT:Heap.IsTuple (Shared.heap ⟨hp,gs,dr,tk,os⟩) t its:=⟨_,ht,rfl,n,rfl⟩
    wp_walk using wpAny_loadPart' ht
    refine wpAny_stack_any fun st=>wpAny_pure ?_
    split
    · rename_i c _ _ _ _ _
      cases (c==Value.type "enumerate")
      · wp_walk using wpAny_loadPart' ht,wpAny_pyIter_tuple hT
        exact ⟨_,rfl,h⟩
      · wp_walk using wpAny_loadPart' ht,wpAny_pyIter_tuple hT
        exact ⟨_,rfl,h⟩
    · wp_walk using wpAny_loadPart' ht,wpAny_pyIter_tuple hT
      exact ⟨_,rfl,h⟩
theorem ZeK {t:Addr} {its:Array Value} {Q:Value->Shared->Prop} (ht:s.heap.IsTuple t its)
    (h:∀ k,IsEnum k (s.heap.objs.size+1) s.heap.objs.size 0 .none->k.IsTupleIter s.heap.objs.size t 0->k.objs.size=s.heap.objs.size+2->(∀ b o,s.heap.get? b=some o->k.get? b=some o)->Q (.ref (s.heap.objs.size+1)) { s with heap:=k }) :
    wpAny (model prog w) A (call (.type "enumerate") [.ref t]) Q E s:=by
  obtain ⟨⟨c,dd,dt,sl⟩,ho,hc,n,hd⟩:=ht
  replace hc:c=.type "tuple":=hc; replace hd:dt=.seq its n:=hd; subst hc hd
  refine callType_new F.called_enumerate (by decide) (F.typeCall_enumerate_1 _) (F.newCall_enumerate_1 _) (fun obj=>F.args_object_init_2 obj _) F.entry_enumerate_new (Zgq t its n dd sl) ⟨ho,?_⟩
  have z1:(s.heap.push { cls:=.type "tuple_iterator",data:=.fields #[.ref t,.int 0 0] }).objs.size=s.heap.objs.size+1:=Heap.size_push ..
  show _/\_
  rw [z1]
  have en:IsEnum ((s.heap.push { cls:=.type "tuple_iterator",data:=.fields #[.ref t,.int 0 0] }).push { cls:=.type "enumerate",data:=.fields #[.none,.bool false,.ref s.heap.objs.size,rawInt 0,.none,.none] }) (s.heap.objs.size+1) s.heap.objs.size 0 .none:=by
    have:=Heap.get?_push_size (s.heap.push { cls:=.type "tuple_iterator",data:=.fields #[.ref t,.int 0 0] }) (o:={ cls:=.type "enumerate",data:=.fields #[.none,.bool false,.ref s.heap.objs.size,rawInt 0,.none,.none] }) rfl
    rw [z1] at this; exact this
  exact ⟨⟨_,en,rfl⟩,h _ en ⟨_,Heap.get?_push_of_some _ (Heap.get?_push_size _ rfl),rfl,rfl⟩ (by rw [Heap.size_push,z1]) fun b o x=>Heap.get?_push_of_some _ (Heap.get?_push_of_some _ x)⟩
end
theorem Zec {P:Program} {w:World} {K:PySem.W.Frag} {elts:List Expr} {k:Nat} {pos:Pos} (a e it:Addr) (hei:e≠it) :
    Zil P w K (.Tuple elts k pos) (Ite K a true) [e,it] e (fun i h=>(∃ old,IsEnum h e it i old)/\h.IsTupleIter it a i) where
  mem:=by simp
  obj:=fun i h st b hb=>by
    obtain ⟨⟨old,he⟩,o,h1,h2,h3⟩:=st
    rcases List.mem_cons.mp hb with z | z
    · subst z; exact ⟨_,he,fun v z=>by have z':Data.fields _=Data.cell v:=z; cases z'⟩
    · rw [List.mem_singleton] at z; subst z; exact ⟨o,h1,fun v z=>by rw [h3] at z; cases z⟩
  keep:=fun i h h' st kp=>by
    obtain ⟨⟨old,he⟩,st⟩:=st
    exact ⟨⟨old,kp e (by simp) _ he⟩,st.at fun o q=>kp it (by simp) o q⟩
  item:=by
    intro X hP hw hK hc i pins s σ H E I hf st hg
    subst hP hw hK
    obtain ⟨xs,x,hq,hx⟩:=hg
    have hq:SqT X.K H a xs:=hq
    obtain ⟨⟨old,he⟩,hit⟩:=st
    obtain ⟨its,rv,p,hz⟩:=I.tuple hq
    obtain ⟨u,hu,ru⟩:=rv.get hx
    have f1:=hf e (by simp)
    have f2:=hf it (by simp)
    refine ZeJ he hit (show s.heap.IsTuple a its.toArray from p) (x:=u) (by simpa using hu) hei fun h1 he1 hit1 ht1 hz1 kp=>?_
    have hp:H s.heap.objs.size=none:=I.hok.fresh (Nat.le_refl _)
    have I1:Inv X pins σ (upd H s.heap.objs.size (.tup [.int i,x])) { s with heap:=h1,toks:=s.toks+1 }:=
      WJ I f1 f2 (fun b ob h1' h2' q=>kp b ob h1' h2' q) ⟨by show 2<=sizeLine; decide,[.int i s.toks,u],.cons ⟨_,rfl⟩ (.cons ru .nil),⟨_,ht1,rfl,_,rfl⟩⟩
    refine ⟨_,rfl,wpAny_letOwnedTupleGo_enum (s:={ s with heap:=h1,toks:=s.toks+1 }) he1 fun h2 he2 hs2=>?_⟩
    have ne:∀ {b},H b=none->b∈[e,it]->b≠s.heap.objs.size:=fun {b} _ hb=>by
      rcases List.mem_cons.mp hb with z | z
      · rw [z]; exact Nat.ne_of_lt (Heap.lt_size he)
      · rw [List.mem_singleton] at z; rw [z]; obtain ⟨o,q,_⟩:=hit; exact Nat.ne_of_lt (Heap.lt_size q)
    have fz:∀ b∈[e,it],upd H s.heap.objs.size (.tup [.int i,x]) b=none:=fun b hb=>by rw [ZK (ne (hf b hb).1 hb)]; exact (hf b hb).1
    have I2:Inv X pins σ (upd H s.heap.objs.size (.tup [.int i,x])) { s with heap:=h2,toks:=s.toks+1 }:=
      L2.Inv.turned (s:={ s with heap:=h1,toks:=s.toks+1 }) (t':=s.toks+1) (it:=e) I1 (fun b ob hb q=>(hs2.2 b hb).trans q) (fz e (by simp)) f1.2.1 f1.2.2.2.1 f1.2.2.2.2.1 f1.2.2.2.2.2
    exact ⟨.ref s.heap.objs.size,_,I2,rfl,⟨s.heap.objs.size,x,fun xs' hq'=>by rw [I.tuple_inj (show SqT X.K H a xs' from hq') hq]; exact hx,hp,rfl,rfl⟩,⟨⟨u,he2⟩,hit1.at fun ob q=>(hs2.2 it (Ne.symm hei)).trans q⟩,fz⟩
  done:=by
    intro X hP hw hK hc i pins s σ H E I hf st hg
    subst hP hw hK
    obtain ⟨xs,hq,hx⟩:=hg
    have hq:SqT X.K H a xs:=hq
    obtain ⟨⟨old,he⟩,hit⟩:=st
    obtain ⟨its,rv,p,hz⟩:=I.tuple hq
    have hl:=rv.length
    have f2:=hf it (by simp)
    exact Zgr (I.ok.hd hc) he hit (show s.heap.IsTuple a its.toArray from p) (by simp; omega) fun h1 hb=>⟨rfl,I.turned (t':=s.toks) (it:=it) (fun b ob hb' q=>hb b ob hb' q) f2.1 f2.2.1 f2.2.2.2.1 f2.2.2.2.2.1 f2.2.2.2.2.2⟩
  self:=fun _ _ _ _ _ st h=>by
    obtain ⟨⟨old,he⟩,_⟩:=st
    exact wpAny_pyIter_enum he h
noncomputable def Zdq (cells:List (Str×Addr)):List (Str×NameKind)->List (Str×Addr)->List (Str×Addr)
  | [],acc=>acc
  | (n,k)::r,acc=>if k==.free then Zdq cells r ((n,(cells.lookup n).getD 0)::acc) else Zdq cells r acc
theorem ZaS {env:Env}:∀ (names:List (Str×NameKind)) (acc:List (Str×Addr)),(∀ y∈names,y.2=.free->∃ c,env.cells.lookup y.1=some c) ->
    (forIn names acc fun y cs=>match y with | (name,kind)=>(if kind==NameKind.free then do let c <- cellOf env name; pure (ForInStep.yield ((name,c)::cs)) else pure (ForInStep.yield cs):Sem (ForInStep (List (Str×Addr)))))=pure (Zdq env.cells names acc)
  | [],acc,_=>rfl
  | (n,k)::r,acc,h=>by
    rw [List.forIn_cons]
    have ih:=fun acc=>ZaS r acc fun y hy=>h y (List.mem_cons_of_mem _ hy)
    by_cases hk:k=.free
    · subst hk
      obtain ⟨c,e⟩:=h (n,.free) List.mem_cons_self rfl
      have e':env.cells.lookup n=some c:=e
      have:cellOf env n=pure c:=by unfold cellOf; rw [e']
      have b:(NameKind.free==NameKind.free)=true:=rfl
      simp only [b,if_true,this,Zdq,e',Option.getD_some]
      exact ih _
    · have b:(k==NameKind.free)=false:=by simpa using hk
      simp only [b,Bool.false_eq_true,if_false,Zdq]
      exact ih _
theorem Vb {scope:Scope} {env:Env} (h:∀ y∈scope.names,y.2=.free->∃ c,env.cells.lookup y.1=some c):closureFor scope env=pure (Zdq env.cells scope.names []):=by
  have e:=ZaS (env:=env) scope.names [] h
  unfold closureFor
  have q:(forIn scope.names ([]:List (Str×Addr)) fun y cs=>match y with | (name,kind)=>(if kind==NameKind.free then do let c <- cellOf env name; pure (ForInStep.yield ((name,c)::cs)) else pure (ForInStep.yield cs):Sem (ForInStep (List (Str×Addr))))) >>= pure=pure (Zdq env.cells scope.names []):=by rw [e]; rfl
  exact q
theorem UR {cells:List (Str×Addr)}:∀ (names:List (Str×NameKind)) (acc:List (Str×Addr)) (x:Str) (c:Addr),(∀ y∈names,y.2=.free->∃ c,cells.lookup y.1=some c) ->
    (Zdq cells names acc).lookup x=some c->cells.lookup x=some c\/acc.lookup x=some c
  | [],acc,x,c,_,e=>.inr e
  | (n,k)::r,acc,x,c,h,e=>by
    have h':=fun y hy=>h y (List.mem_cons_of_mem (n,k) hy)
    unfold Zdq at e
    by_cases hk:(k==NameKind.free)=true
    · rw [if_pos hk] at e
      rcases UR r _ x c h' e with z | z
      · exact .inl z
      · rw [List.lookup_cons] at z
        cases q:x==n with
        | true=>
          rw [q] at z
          obtain ⟨c',e'⟩:=h (n,k) List.mem_cons_self (eq_of_beq hk)
          have e':cells.lookup n=some c':=e'
          rw [e'] at z
          left
          rw [eq_of_beq q,e']; exact z
        | false=>rw [q] at z; exact .inr z
    · rw [if_neg hk] at e
      exact UR r acc x c h' e
theorem Wj {cells : List (Str × Addr)} : ∀ (names : List (Str × NameKind)) (acc : List (Str × Addr)) (x : Str), ((∃ y ∈ names, y.1 = x /\ y.2 = .free) \/ ∃ c, acc.lookup x = some c) -> ∃ c, (Zdq cells names acc).lookup x = some c
  | [], acc, x, h => by
    rcases h with ⟨y, hy, _⟩ | h
    · cases hy
    · exact h
  | (n, k) :: r, acc, x, h => by
    unfold Zdq
    by_cases hk : (k == NameKind.free) = true
    · rw [if_pos hk]
      apply Wj r
      rcases h with ⟨y, hy, e1, e2⟩ | ⟨c, h⟩
      · rcases List.mem_cons.mp hy with rfl | hy
        · right; exact ⟨(cells.lookup n).getD 0, by rw [List.lookup_cons]; have : (x == n) = true := by rw [<- e1]; exact beq_self_eq_true _
                                                    rw [this]⟩
        · left; exact ⟨y, hy, e1, e2⟩
      · right
        rw [List.lookup_cons]
        cases q : x == n with
        | true => exact ⟨_, rfl⟩
        | false => exact ⟨c, h⟩
    · rw [if_neg hk]
      apply Wj r
      rcases h with ⟨y, hy, e1, e2⟩ | h
      · rcases List.mem_cons.mp hy with rfl | hy
        · have e2 : k = NameKind.free := e2
          exact absurd (by rw [e2]; rfl) hk
        · left; exact ⟨y, hy, e1, e2⟩
      · exact .inr h
noncomputable def Y0 (X:Cx) (N:List Str) (scope:Scope) (C:Addr) (s3:Shared) (H3:Hp) (fp:List Addr):Cx where
  prog:=X.prog
  w:=X.w
  K:=X.K
  mg:=X.mg
  base:=X.base
  A:=X.A
  N:=N
  s₀:=s3
  H₀:=H3
  env:=compEnvC scope (Zdq X.env.cells scope.names []) C X.env
  outer:=X.stack
  stack:=X.stack
  ex:=fp
  fn:=fun _=>false
  calm:=true
  pn:=[]
  xe:=fun _ _=>False
structure CompScope (X:Cx) (scope:Scope):Prop where
  kind:scope.kind=.function
  nocell:∀ y∈scope.names,y.2≠.cell
  loc:∀ y∈scope.names,y.2=.local->scope.names.lookup y.1=some .local
  free:∀ y∈scope.names,y.2=.free->X.env.kindOf y.1=some .cell\/X.env.kindOf y.1=some .free
theorem QK {scope:Scope} {env:Env} {x:Str} {k:NameKind} (h:(relabel scope env).names.lookup x=some k):(k=.cell\/k=.free)->(∀ y∈scope.names,y.2≠.cell)->∃ y∈scope.names,y.1=x/\y.2=.free:=by
  intro hk hn
  have gen:∀ (names:List (Str×NameKind)),(∀ y∈names,y.2≠.cell)->(names.map fun (n,k)=>if (k==NameKind.free&&env.scope.kind==.function&&env.kindOf n==some .cell) then (n,NameKind.cell) else (n,k)).lookup x=some k->∃ y∈names,y.1=x/\y.2=.free:=by
    intro names
    induction names with
    | nil=>intro _ e; cases e
    | cons y r ih=>
      intro hn e
      obtain ⟨n,k'⟩:=y
      have hn':=fun y hy=>hn y (List.mem_cons_of_mem (n,k') hy)
      simp only [List.map_cons] at e
      by_cases c:(k'==NameKind.free&&env.scope.kind==.function&&env.kindOf n==some .cell)=true
      · rw [if_pos c,List.lookup_cons] at e
        cases q:x==n with
        | true=>
          have kf:k'=.free:=by
            have:=(Bool.and_eq_true_iff.mp (Bool.and_eq_true_iff.mp c).1).1
            exact eq_of_beq this
          exact ⟨_,List.mem_cons_self,(eq_of_beq q).symm,kf⟩
        | false=>
          rw [q] at e
          obtain ⟨y,hy,e1⟩:=ih hn' e
          exact ⟨y,List.mem_cons_of_mem _ hy,e1⟩
      · rw [if_neg c,List.lookup_cons] at e
        cases q:x==n with
        | true=>
          rw [q] at e
          cases e
          rcases hk with rfl | rfl
          · exact absurd rfl (hn (n,.cell) List.mem_cons_self)
          · exact ⟨_,List.mem_cons_self,(eq_of_beq q).symm,rfl⟩
        | false=>
          rw [q] at e
          obtain ⟨y,hy,e1⟩:=ih hn' e
          exact ⟨y,List.mem_cons_of_mem _ hy,e1⟩
  exact gen scope.names hn h
section
variable {X:Cx} {pins:List (Addr×Obj)} {σ:L2.St} {H:Hp} {s:Shared}
theorem CompScope.cells {scope:Scope} (S:CompScope X scope) (ok:X.Ok):∀ y∈scope.names,y.2=.free->∃ c,X.env.cells.lookup y.1=some c:=fun y hy e=>ok.has y.1 (S.free y hy e)
theorem ZeP {scope:Scope} (S:CompScope X scope) {N:List Str} {fp:List Addr} {h4:Heap} {m:Str->Option Value} {σ':L2.St} (I:Inv X pins σ H s) (hc:X.calm=true) (hf:∀ b∈fp,ZcT X pins H b) (hlt:∀ b∈fp,b < s.heap.objs.size)
    (hk:∀ b o,s.heap.get? b=some o->h4.get? b=some o) (hn:h4.Ns s.heap.objs.size m) (hl:σ'.length=N.length)
    (hσ:∀ (i:Nat) x v,N[i]?=some x->σ'[i]?=some (some v)->Vis (relabel scope X.env) x->((relabel scope X.env).names.lookup x≠some .local)/\∃ j:Nat,X.N[j]?=some x/\σ[j]?=some (some v)/\Vis X.env.scope x/\X.env.kindOf x≠some .local) {t':Nat} :
    Inv (Y0 X N scope s.heap.objs.size s H fp) [] σ' H { s with heap:=h4,toks:=t' }:=by
  have hcell:=S.cells I.ok
  have sub:∀ x c,(Zdq X.env.cells scope.names []).lookup x=some c->X.env.cells.lookup x=some c:=fun x c e=>by
    rcases UR scope.names [] x c hcell e with z | z
    · exact z
    · cases z
  refine ⟨⟨I.ok.mod,S.kind,I.ok.glob,I.ok.blt,Nat.le_refl _,fun x y c h1 h2=>I.ok.inj x y c (sub x c h1) (sub y c h2),fun x hx=>?_,fun x c h _=>(Bool.false_ne_true (show false=true from h)).elim,fun _=>I.ok.hd hc,I.ok.frames,.inl rfl,fun b hb=>⟨Nat.ne_of_lt (hlt b hb),fun x c e=>(hf b hb).2.2.2.2.1 x c (sub x c e)⟩,I.bs,Nat.le_trans I.ok.bsz I.sz,fun b o e hb=>?_,fun b hb z=>?_,I.stack,I.stkFree⟩,
    rfl,I.bare,Un.kept hk,⟨m,hn,fun i x v e1 e2 e3=>?_⟩,fun x c e=>?_,I.hok.fresh (Nat.le_refl _),fun x c e=>I.freeC x c (sub x c e),fun p hp=>absurd (show p∈([]:List (Addr×Obj)) from hp) (by simp),I.hok.kept hk,hl⟩
  · obtain ⟨y,hy,e1,e2⟩:∃ y∈scope.names,y.1=x/\y.2=.free:=by
      rcases hx with hx | hx
      · exact QK (show (relabel scope X.env).names.lookup x=some .cell from hx) (.inl rfl) S.nocell
      · exact QK (show (relabel scope X.env).names.lookup x=some .free from hx) (.inr rfl) S.nocell
    exact Wj scope.names [] x (.inl ⟨y,hy,e1,e2⟩)
  · obtain ⟨_,_,_,h,_⟩:=hf b hb
    rcases h with h | h
    · exact I.ok.noex b o e h
    · exact absurd (Nat.lt_of_lt_of_le (Nat.lt_of_lt_of_le (Heap.lt_size e) I.ok.bsz) h) (Nat.lt_irrefl _)
  · have z:b∈frs X.stack:=z
    obtain ⟨_,h1,h2,_⟩:=hf b hb
    rcases List.mem_cons.mp (I.stkSub b z) with q | q
    · exact h1 q
    · exact h2 q
  · obtain ⟨nl,j,g1,g2,g3,g4⟩:=hσ i x v e1 e2 e3
    obtain ⟨m0,_,hl0⟩:=I.loc
    obtain ⟨u,r,l⟩:=hl0 j x v g1 g2 g3
    refine ⟨u,r,?_⟩
    rcases l with ⟨l,_⟩ | ⟨_,c,ec,hcl⟩
    · exact absurd l g4
    · have kx:(relabel scope X.env).names.lookup x=some .cell\/(relabel scope X.env).names.lookup x=some .free:=by
        rcases e3 with z | z | z
        · exact absurd z nl
        · exact .inl z
        · exact .inr z
      obtain ⟨y,hy,y1,y2⟩:∃ y∈scope.names,y.1=x/\y.2=.free:=by
        rcases kx with z | z
        · exact QK z (.inl rfl) S.nocell
        · exact QK z (.inr rfl) S.nocell
      obtain ⟨c',ec'⟩:=Wj (cells:=X.env.cells) scope.names [] x (.inl ⟨y,hy,y1,y2⟩)
      have:c'=c:=by have:=sub x c' ec'; rw [ec] at this; exact (Option.some.inj this).symm
      subst this
      refine .inr ⟨kx,c',ec',?_⟩
      obtain ⟨o,ho,hd⟩:=hcl
      exact ⟨o,hk _ o ho,hd⟩
  · obtain ⟨v,o,ho,hd⟩:=I.cell x c (sub x c e)
    exact ⟨v,o,hk _ o ho,hd⟩
theorem ZhJ {scope:Scope} {N:List Str} {fp:List Addr} {σ':L2.St} {H':Hp} {s':Shared} (I:Inv X pins σ H s) (hf:∀ b∈fp,ZcT X pins H b) (J:Inv (Y0 X N scope s.heap.objs.size s H fp) [] σ' H' s') :
    ∀ h'',Heap.SameBut s.heap.objs.size s'.heap h''->Inv X pins σ H' { s' with heap:=h'' }:=by
  intro h'' hs
  have nC:∀ {b:Addr} {o:Obj},s.heap.get? b=some o->b≠s.heap.objs.size:=fun e=>Nat.ne_of_lt (Heap.lt_size e)
  have kp:∀ b,b≠s.heap.objs.size->∀ o,s'.heap.get? b=some o->h''.get? b=some o:=fun b hb o e=>(hs.2 b hb).trans e
  have hU:=J.base
  refine I.call' (ch:=fp) (s':={ s' with heap:=h'' }) J.os ⟨fun b o e n h1 h2=>kp b (nC e) o (hU.keep b o e n h1 h2),fun b o e n h1 h2=>?_,hU.free,fun b o e h2=>?_,hU.tups,hU.frzs,hU.tbls⟩ (fun b u e=>?_) J.bare (fun b hb=>?_)
  · obtain ⟨sl,q⟩:=hU.slot b o e n h1 h2
    exact ⟨sl,kp b (nC e) _ q⟩
  · obtain ⟨o',q⟩:=hU.there b o e h2
    exact ⟨o',kp b (nC e) _ q⟩
  · have fr:H' s.heap.objs.size=none:=J.free
    refine (J.hok b u e).stay (fun c v hc q=>kp c ?_ v q) (fun _ q=>q) fun _ _ q=>q
    rcases hc with z | z
    · rw [z]; exact ZG e fr
    · exact ZG z fr
  · obtain ⟨_,h1,_,h3,h4,h5⟩:=hf b hb
    exact ⟨h3,h1,h4,h5⟩
end
theorem wpx {α:Type} {M:Model} {A:Around} {m:Sem α} {Q:α->Shared->Prop} {E:Value->Shared->Prop} {s:Shared} (h:wpAny M A m Q (fun _ _=>False) s):wpAny M A m Q E s:=wpAny_mono h (fun _ _ q=>q) fun _ _ z=>z.elim
noncomputable def PTs (X:Cx) (ifs:List Expr) (t:TT):Prop:=
  ∀ (pins:List (Addr×Obj)) (s:Shared) (σ:L2.St) (H:Hp) (Q:Bool->Hp->Prop),L2.Inv X pins σ H s->t σ H Q ->
    wpAny (model X.prog X.w) X.A (forIn ifs true fun c r=>if r=true then do let ok <- isTrue c X.env (eval c X.env); pure (ForInStep.yield ok) else pure (ForInStep.yield r)) (TP X pins σ Q) X.xe s
theorem ZiN {X:Cx}:PTs X [] (fun _ H Q=>Q true H):=fun pins s σ H Q I h=>wpAny_tests_nil ⟨H,I,h⟩
theorem ZiM {X:Cx} {c:Expr} {t:TT} (h:PT X c t):PTs X [c] t:=fun pins s σ H Q I q=>wpAny_tests_one (h pins s σ H Q I q)
section
variable {X:Cx} {pins:List (Addr×Obj)} {σ:L2.St} {H:Hp} {s:Shared}
theorem ZgA {Y:Cx} {tg elt iter:Expr} {ifs:List Expr} {scope:Scope} {pos:Pos} {fp:List Addr} {it Dl:Addr} {tn:Nat->Heap->Prop} {J:It} {g:TG} {te:TE} {tt:TT} {R:Result->Shared->Prop}
    (T:Zil Y.prog Y.w Y.K tg J fp it tn) (hc:Y.calm=true) (hxe:Y.xe=fun _ _=>False) (hex:Y.ex=fp) (hpn:Y.pn=[]) (hg:PG Y tg g) (hi:PTs Y ifs tt) (he:PE Y elt te)
    (W:Nat->Nat->L2.St->Hp->Prop) (Done:L2.St->Hp->Prop)
    (turn:∀ i m σ H,W i m σ H->(J.stop i H/\Done σ H)\/(J.go i H/\∀ x H',J.yld i H x H'->g x σ H' fun σ2 H2=>tt σ2 H2 fun b H3=>if b=true then te σ2 H3 fun v H4=>∃ ys,H4 Dl=some (.lst ys)/\ys.length < sizeLine/\∃ m',m' < m/\W (i+1) m' σ2 (upd H4 Dl (.lst (ys++[v]))) else ∃ m',m' < m/\W (i+1) m' σ2 H3))
    (fin:∀ σ' H' s',L2.Inv Y [] σ' H' s'->Done σ' H'->R (.ok .next) s')
    (I:L2.Inv Y [] σ H s) (st:tn 0 s.heap) (hf:∀ b∈fp,H b=none) (m:Nat) (w:W 0 m σ H) :
    codeAny (model Y.prog Y.w) Y.A (.compLoop (.ListComp elt [⟨tg,iter,ifs,0⟩] scope pos) 0 (.ref it) (.ref Dl) Y.env) R s:=by
  have fpY:∀ {H':Hp} (ok:Y.Ok),(∀ b∈fp,H' b=none)->∀ b∈fp,ZcT Y [] H' b:=fun {H'} ok h b hb=>by
    have hb':b∈Y.ex:=by rw [hex]; exact hb
    exact ⟨h b hb,(ok.exf b hb').1,ok.exfs b hb',.inl hb',(ok.exf b hb').2,fun p hp=>by rw [hpn] at hp; exact absurd (show p∈([]:List (Addr×Obj)) from hp) (by simp)⟩
  refine codeAny_loop rfl (fun n s'=>∃ i σ' H',L2.Inv Y [] σ' H' s'/\tn i s'.heap/\(∀ b∈fp,H' b=none)/\W i n σ' H') (fun n s1 hI=>?_) m ⟨0,σ,H,I,st,hf,w⟩
  obtain ⟨i,σ1,H1,I1,st1,fr1,w1⟩:=hI
  show wpAny _ Y.A ((compTurn (.ListComp elt [⟨tg,iter,ifs,0⟩] scope pos) 0 (.ref it) (.ref Dl) Y.env).onRaise (fun x=>do noteFrame x Y.env; theTreesLotGoes x)) _ _ s1
  refine wpAny_noted ?_
  rw [compTurn_list]
  refine wpAny_bind (wpAny_standAt (wpAny_bind ?_))
  rcases turn i n σ1 H1 w1 with ⟨stop,dn⟩ | ⟨go,step⟩
  · refine wpx (thn (T.done Y rfl rfl rfl hc i [] s1 σ1 H1 _ I1 (fpY I1.ok fr1) st1 stop) fun r s2 zq=>?_)
    obtain ⟨hr,I2⟩:=zq
    subst hr
    exact wpAny_pure (fin σ1 H1 s2 I2 dn)
  · refine wpx (thn (T.item Y rfl rfl rfl hc i [] s1 σ1 H1 _ I1 (fpY I1.ok fr1) st1 go) fun r s2 zq=>?_)
    obtain ⟨u,hr,h2⟩:=zq
    subst hr
    refine wpAny_bind (wpx (thn h2 fun _ s3 zq=>?_))
    obtain ⟨x,H3,I3,r3,y3,st3,fr3⟩:=zq
    have I3':=I3.pinned (fpY I3.ok fr3) (T.obj _ _ st3)
    have hg':=hg _ s3 σ1 H3 x u _ I3' r3 (step x H3 y3)
    rw [hxe] at hg'
    refine wpAny_bind (wpx (thn hg' fun _ s4 zq=>?_))
    obtain ⟨σ4,H4,I4,q4⟩:=zq
    have hi':=hi _ s4 σ4 H4 _ I4 q4
    rw [hxe] at hi'
    refine wpAny_bind (wpx (thn hi' fun b s5 zq=>?_))
    obtain ⟨H5,I5,q5⟩:=zq
    have back:∀ {σ7:L2.St} {H7:Hp} {s7:Shared},L2.Inv Y ([]++Zb0 fp s3.heap) σ7 H7 s7->(∃ m',m' < n/\W (i+1) m' σ7 H7)->∃ m,m < n/\∃ i σ' H',L2.Inv Y [] σ' H' s7/\tn i s7.heap/\(∀ b∈fp,H' b=none)/\W i m σ' H':=fun {σ7 H7 s7} I7 zq=>by
      obtain ⟨m',hm,w7⟩:=zq
      have pin:=fun (b:Addr) (hb:b∈fp) (o:Obj) (e:s3.heap.get? b=some o)=>I7.pin (b,o) (List.mem_append_right _ (List.mem_append_right _ (Ua hb e)))
      refine ⟨m',hm,i+1,σ7,H7,I7.unpinned,T.keep _ _ _ st3 fun b hb o e=>(pin b hb o e).1,fun b hb=>?_,w7⟩
      obtain ⟨o,e,_⟩:=T.obj _ _ st3 b hb
      exact (pin b hb o e).2.1
    cases b with
    | false=>
      rw [if_neg (by decide)] at q5
      exact wpAny_pure ⟨rfl,back I5 q5⟩
    | true=>
      rw [if_pos rfl] at q5
      have he':=he _ s5 σ4 H5 _ I5 q5
      rw [hxe] at he'
      refine wpAny_bind (wpAny_bind (wpx (thn he' fun vu s6 zq=>?_)))
      obtain ⟨v,H6,I6,r6,ys,hD,hz,q6⟩:=zq
      have ha:=Zb7 _ s6 σ4 H6 (.ref Dl) [v] (.ref Dl) [vu] (fun _ H7=>∃ m',m' < n/\W (i+1) m' σ4 H7) I6 rfl (.cons r6 .nil) ⟨Dl,ys,v,rfl,rfl,hD,hz,q6⟩
      rw [hxe] at ha
      exact wpAny_bind (wpx (thn ha fun _ s7 ⟨_,H7,I7,_,q7⟩=>wpAny_pure (wpAny_pure ⟨rfl,back I7 q7⟩)))
noncomputable def Ziz (K:PySem.W.Frag) (wi:TI) (Pt:It->Hp->Addr->(L2.St->Hp->Prop)->Prop):TE:=fun σ H Q=>wi σ H fun J H1=>∀ Dl,H1 Dl=none->K.lookup Dl=none->Pt J (upd H1 Dl (.lst [])) Dl fun _ H'=>Q (.ref Dl) H'
noncomputable def ZdE (X:Cx) (N:List Str) (scope:Scope) (σ:L2.St) (g:TG) (tt:TT) (te:TE):It->Hp->Addr->(L2.St->Hp->Prop)->Prop:=fun J H Dl Done=>
  ∃ (σ':L2.St) (W:Nat->Nat->L2.St->Hp->Prop),σ'.length=N.length /\
    (∀ (i:Nat) x v,N[i]?=some x->σ'[i]?=some (some v)->Vis (relabel scope X.env) x->((relabel scope X.env).names.lookup x≠some .local)/\∃ j:Nat,X.N[j]?=some x/\σ[j]?=some (some v)/\Vis X.env.scope x/\X.env.kindOf x≠some .local) /\
    (∃ m,W 0 m σ' H) /\
    ∀ i m σ H,W i m σ H->(J.stop i H/\Done σ H)\/(J.go i H/\∀ x H',J.yld i H x H'->g x σ H' fun σ2 H2=>tt σ2 H2 fun b H3=>if b=true then te σ2 H3 fun v H4=>∃ ys,H4 Dl=some (.lst ys)/\ys.length < sizeLine/\∃ m',m' < m/\W (i+1) m' σ2 (upd H4 Dl (.lst (ys++[v]))) else ∃ m',m' < m/\W (i+1) m' σ2 H3)
theorem Zd5 {tg elt iter:Expr} {ifs:List Expr} {scope:Scope} {pos:Pos} {N:List Str} {g:TG} {te:TE} {tt:TT} {wi:TI} {Q:VK} {RR:Value->Addr->Result->Shared->Prop} {E:Value->Shared->Prop}
    (S:CompScope X scope) (hc:X.calm=true) {it:Addr} {fp:List Addr} {tn:Nat->Heap->Prop} {J:It} {H2:Hp} {s2:Shared} (I2:L2.Inv X pins σ H2 s2) (T:Zil X.prog X.w X.K tg J fp it tn) (st2:tn 0 s2.heap) (f2:∀ b∈fp,ZcT X pins H2 b)
    (hg:∀ C s3 H3 fp,PG (Y0 X N scope C s3 H3 fp) tg g) (hi:∀ C s3 H3 fp,PTs (Y0 X N scope C s3 H3 fp) ifs tt) (he:∀ C s3 H3 fp,PE (Y0 X N scope C s3 H3 fp) elt te)
    (hb:∀ Dl,H2 Dl=none->X.K.lookup Dl=none->ZdE X N scope σ g tt te J (upd H2 Dl (.lst [])) Dl fun _ H'=>Q (.ref Dl) H')
    (hRR:∀ Dl C H' (s':Shared) m,(∀ h'',Heap.SameBut C s'.heap h''->L2.Inv X pins σ H' { s' with heap:=h'' })->ZcT X pins H' C->s'.heap.Ns C m->Q (.ref Dl) H'->RR (.ref Dl) C (.ok .next) s') :
    wpAny (model X.prog X.w) X.A (newList []) (fun acc s₃=>wpAny (model X.prog X.w) X.A (newFunctionEnv scope X.env.globals (Zdq X.env.cells scope.names []) [] X.env.qual none .none (some X.env)) (fun cenv s₄=>
      codeAny (model X.prog X.w) X.A (.compStart (.ListComp elt [⟨tg,iter,ifs,0⟩] scope pos) 0 (.ref it) acc { cenv with scope:=relabel scope X.env }) (RR acc cenv.locals) s₄) E s₃) E s2:=by
  refine wpAny_newObj_type ?_
  have hD:H2 s2.heap.objs.size=none:=I2.hok.fresh (Nat.le_refl _)
  have I3:L2.Inv X pins σ (upd H2 s2.heap.objs.size (.lst [])) { s2 with heap:=s2.heap.push { cls:=.type "list",dict:=none,data:=.seq ([]:List Value).toArray } }:=
    I2.laid (t':=s2.toks) (fun b u e=>Heap.get?_push_of_some _ e) (Nat.le_refl _) ⟨Nat.zero_le _,[],0,.nil,Heap.get?_push_size _ rfl⟩
  have lt:∀ b∈fp,b < s2.heap.objs.size:=fun b hb'=>by obtain ⟨o,e,_⟩:=T.obj _ _ st2 b hb'; exact Heap.lt_size e
  have f3:∀ b∈fp,ZcT X pins (upd H2 s2.heap.objs.size (.lst [])) b:=fun b hb'=>by
    obtain ⟨h0,h1,h2,h3,h4,h5⟩:=f2 b hb'
    exact ⟨by rw [ZK (Nat.ne_of_lt (lt b hb'))]; exact h0,h1,h2,h3,h4,h5⟩
  have hKD:X.K.lookup s2.heap.objs.size=none:=by
    cases e:X.K.lookup s2.heap.objs.size with
    | none=>rfl
    | some o=>exact absurd (Heap.lt_size (I2.kIn _ o e)) (Nat.lt_irrefl _)
  obtain ⟨σ',W,hl,hσ,⟨m0,w0⟩,turn⟩:=hb _ hD hKD
  generalize hs3:({ s2 with heap:=s2.heap.push { cls:=.type "list",dict:=none,data:=.seq ([]:List Value).toArray } }:Shared)=s3 at I3
  have h3:s3.heap=s2.heap.push { cls:=.type "list",dict:=none,data:=.seq ([]:List Value).toArray }:=by rw [<-hs3]
  have lt3:∀ b∈fp,b < s3.heap.objs.size:=fun b hb'=>by rw [h3,Heap.size_push]; exact Nat.lt_succ_of_lt (lt b hb')
  refine wpAny_newFunctionEnv S.nocell (by intro y hy; simp at hy) (fun h4 hn4 hs4=>?_) S.kind
  have kp:∀ b o,s3.heap.get? b=some o->h4.get? b=some o:=fun b o e=>hs4.extBut b o (Nat.ne_of_lt (Heap.lt_size e)) (Heap.get?_push_of_some _ e)
  have I4:L2.Inv (Y0 X N scope s3.heap.objs.size s3 (upd H2 s2.heap.objs.size (.lst [])) fp) [] σ' (upd H2 s2.heap.objs.size (.lst [])) { s3 with heap:=h4,toks:=s3.toks+([]:List (Str×Value)).length }:=
    ZeP S I3 hc f3 lt3 kp hn4 hl hσ
  have st4:tn 0 h4:=T.keep _ _ _ st2 fun b hb' o e=>kp b o (by rw [h3]; exact Heap.get?_push_of_some _ e)
  have loop:codeAny (model X.prog X.w) X.A (.compLoop (.ListComp elt [⟨tg,iter,ifs,0⟩] scope pos) 0 (.ref it) (.ref s2.heap.objs.size) (compEnvC scope (Zdq X.env.cells scope.names []) s3.heap.objs.size X.env)) (RR (.ref s2.heap.objs.size) s3.heap.objs.size)
      { s3 with heap:=h4,toks:=s3.toks+([]:List (Str×Value)).length }:=by
    refine ZgA (Y:=Y0 X N scope s3.heap.objs.size s3 (upd H2 s2.heap.objs.size (.lst [])) fp) T rfl rfl rfl rfl (hg _ _ _ _) (hi _ _ _ _) (he _ _ _ _) W _ turn (fun σ5 H5 s5 I5 dn=>?_) I4 st4 (fun b hb'=>(f3 b hb').1) m0 w0
    obtain ⟨mC,hnC,_⟩:=I5.loc
    have big:s3.heap.objs.size<=s3.heap.objs.size:=Nat.le_refl _
    refine hRR _ s3.heap.objs.size H5 s5 mC (ZhJ I3 f3 I5) ?_ hnC dn
    have q:=I3.fpOk (H':=H5) big I5.free
    exact q
  exact codeAny_compStart_list loop (T.self _ 0 _ _ _ st4 loop)
theorem ZiY {tg elt iter:Expr} {ifs:List Expr} {scope:Scope} {pos:Pos} {N:List Str} {g:TG} {te:TE} {tt:TT} {wi:TI} (S:CompScope X scope) (hc:X.calm=true) (hit:PI X tg iter wi)
    (hg:∀ C s3 H3 fp,PG (Y0 X N scope C s3 H3 fp) tg g) (hi:∀ C s3 H3 fp,PTs (Y0 X N scope C s3 H3 fp) ifs tt) (he:∀ C s3 H3 fp,PE (Y0 X N scope C s3 H3 fp) elt te)
    (hs:∀ x,foldedSetIterable iter X.env x=pure x:=by intro _; rfl) :
    PE X (.ListComp elt [⟨tg,iter,ifs,0⟩] scope pos) (fun σ H Q=>Ziz X.K wi (ZdE X N scope σ g tt te) σ H Q):=by
  intro pins s σ H Q I h
  rw [eval_ListComp]
  refine wpAny_comprehension_free (use:=none) rfl hs (Vb (S.cells I.ok)) S.kind S.loc (wpAny_mono (hit pins s σ H _ I h) (fun xv s₁ h₁=>wpAny_mono h₁ (fun itv s₂ h₂=>?_) fun _ _ z=>z) fun _ _ z=>z)
  obtain ⟨it,fp,tn,J,H2,rfl,I2,T,st2,f2,hb⟩:=h₂
  refine Zd5 (RR:=fun acc C=>compPost (model X.prog X.w) X.A X.xe none (EP X pins σ Q) acc C) (wi:=wi) S hc I2 T st2 f2 hg hi he hb ?_
  intro Dl C H' s' m hI hC hn q
  exact ⟨m,hn,fun h'' hs''=>⟨.ref Dl,H',hI h'' hs'',rfl,q⟩⟩
end
noncomputable def ZjT (K:PySem.W.Frag) (F:Fz) (H:Hp) (J:It) (xs:List D):Prop:=∀ F' H',Ext K F H F' H' ->
  (∀ i d,xs[i]?=some d->J.go i H'/\∀ x H'',J.yld i H' x H''->∃ F'',Grow F' H' F'' H''/\Rep K F'' H'' d x)/\∀ i,xs.length<=i->J.stop i H'
noncomputable abbrev DI:=Rho->Option (List D)
inductive ZnE (K:PySem.W.Frag) (it:DI) (σ:L2.St) (H:Hp) (R:It->Hp->Prop):Prop
  | mk (ρ:Rho) (F0:Fz) (H0:Hp) (F:Fz) (xs:List D) (ok:EnvOk K F0 H0 F σ H ρ) (e:it ρ=some xs) (q:∀ J F1 H1,Grow F H F1 H1->ZjT K F1 H1 J xs->R J H1)
noncomputable def rdI (K:PySem.W.Frag) (it:DI):TI:=fun σ H R=>ZnE K it σ H R
noncomputable def ID (X:Cx) (tg e:Expr) (it:DI):Prop:=PI X tg e (rdI X.K it)
theorem PI.imp {X:Cx} {tg e:Expr} {t t':TI} (h:PI X tg e t) (i:∀ σ H R,t' σ H R->t σ H R):PI X tg e t':=fun pins s σ H R I q=>h pins s σ H R I (i σ H R q)
section
variable {X:Cx} {pos:Pos} {tg l:Expr} {f:DE}
theorem Zf5 {K:PySem.W.Frag} {F:Fz} {H:Hp} {a:Addr} {xs:List D} {vs:List V} (hf:F a) (hq:SqL K H a vs) (hr:RepL K F H xs vs):ZjT K F H (Itl K a) xs:=fun F' H' e=>by
  have hq':=e.ls a vs hf hq
  refine ⟨fun i d hd=>?_,fun i hi=>⟨vs,hq',by rw [<-hr.length]; exact hi⟩⟩
  obtain ⟨v,hv,rv⟩:=hr.get hd
  refine ⟨⟨vs,v,hq',hv⟩,fun x H'' y=>?_⟩
  obtain ⟨rfl,y⟩:=y
  have:=y vs hq'
  rw [hv] at this; cases this
  exact ⟨F',.refl,Rep.ext e rv⟩
theorem Zhu {K:PySem.W.Frag} {F:Fz} {H:Hp} {a:Addr} {xs:List D} {vs:List V} (hq:SqT K H a vs) (hr:RepL K F H xs vs):ZjT K F H (Itt K a) xs:=fun F' H' e=>by
  have hq':=e.ts a vs hq
  refine ⟨fun i d hd=>?_,fun i hi=>⟨vs,hq',by rw [<-hr.length]; exact hi⟩⟩
  obtain ⟨v,hv,rv⟩:=hr.get hd
  refine ⟨⟨vs,v,hq',hv⟩,fun x H'' y=>?_⟩
  obtain ⟨rfl,y⟩:=y
  have:=y vs hq'
  rw [hv] at this; cases this
  exact ⟨F',.refl,Rep.ext e rv⟩
theorem ZdX {K:PySem.W.Frag} {F:Fz} {H:Hp} {lo:Int} {n:Nat}:ZjT K F H (Itr lo n) (Ql lo n):=fun F' H' e=>by
  refine ⟨fun i d hd=>?_,fun i hi=>(show n<=i from by simpa [Ql] using hi)⟩
  have hl:i < n:=by have:=(List.getElem?_eq_some_iff.mp hd).1; simpa [Ql] using this
  refine ⟨hl,fun x H'' y=>?_⟩
  obtain ⟨rfl,rfl⟩:=y
  refine ⟨F',.refl,?_⟩
  have:d=.int (lo+(i:Int)):=by
    unfold Ql at hd
    rw [List.getElem?_map,List.getElem?_range hl] at hd
    simpa using hd.symm
  subst this
  exact Yq _
noncomputable def YN (n:Nat):List D->List D
  | []=>[]
  | d::ds=>.tup [.int n,d]::YN (n+1) ds
theorem WT:∀ (ds:List D) (n i:Nat),(YN n ds)[i]?=(ds[i]?).map fun d=>.tup [.int ((n+i:Nat):Int),d]
  | [],n,i=>by simp [YN]
  | d::ds,n,0=>by simp [YN]
  | d::ds,n,i+1=>by
    simp only [YN,List.getElem?_cons_succ]
    rw [WT ds (n+1) i,show n+1+i=n+(i+1) by omega]
theorem U9:∀ (ds:List D) (n:Nat),(YN n ds).length=ds.length
  | [],n=>rfl
  | d::ds,n=>by simp [YN,U9 ds]
theorem ZeD {K:PySem.W.Frag} {F:Fz} {H:Hp} {a:Addr} {xs:List D} {vs:List V} (hf:F a) (hq:SqL K H a vs) (hr:RepL K F H xs vs):ZjT K F H (Ite K a false) (YN 0 xs):=fun F' H' e=>by
  have hq':=e.ls a vs hf hq
  refine ⟨fun i d hd=>?_,fun i hi=>⟨vs,hq',by rw [<-hr.length]; rw [U9] at hi; exact hi⟩⟩
  rw [WT,Nat.zero_add] at hd
  obtain ⟨d',hd',rfl⟩:=map_some hd
  obtain ⟨v,hv,rv⟩:=hr.get hd'
  refine ⟨⟨vs,v,hq',hv⟩,fun x H'' y=>?_⟩
  obtain ⟨p,z,y,hp,rfl,rfl⟩:=y
  have:=y vs hq'
  rw [hv] at this; cases this
  refine ⟨F',.laid0 hp,?_⟩
  unfold Rep
  exact ⟨p,_,rfl,.of ZO,.cons (Yq _) (.cons ((Rep.ext e rv).grow (.laid0 hp)) .nil)⟩
theorem ZeC {K:PySem.W.Frag} {F:Fz} {H:Hp} {a:Addr} {xs:List D} {vs:List V} (hq:SqT K H a vs) (hr:RepL K F H xs vs):ZjT K F H (Ite K a true) (YN 0 xs):=fun F' H' e=>by
  have hq':=e.ts a vs hq
  refine ⟨fun i d hd=>?_,fun i hi=>⟨vs,hq',by rw [<-hr.length]; rw [U9] at hi; exact hi⟩⟩
  rw [WT,Nat.zero_add] at hd
  obtain ⟨d',hd',rfl⟩:=map_some hd
  obtain ⟨v,hv,rv⟩:=hr.get hd'
  refine ⟨⟨vs,v,hq',hv⟩,fun x H'' y=>?_⟩
  obtain ⟨p,z,y,hp,rfl,rfl⟩:=y
  have:=y vs hq'
  rw [hv] at this; cases this
  refine ⟨F',.laid0 hp,?_⟩
  unfold Rep
  exact ⟨p,_,rfl,.of ZO,.cons (Yq _) (.cons ((Rep.ext e rv).grow (.laid0 hp)) .nil)⟩
theorem ZaI (hl:ED X l f):ID X tg l (QI f):=PI.imp (Zkl hl) fun σ H R zq=>by
  obtain ⟨ρ,F0,H0,F,xs,ok,ex,q⟩:=zq
  obtain ⟨d,ed,ex⟩:=bind_some ex
  refine ⟨ρ,F0,H0,F,d,ok,ed,fun v F1 H1 g1 r1=>?_⟩
  split at ex
  · cases ex
    unfold Rep at r1
    obtain ⟨a,vs,rfl,hf,hq,hr⟩:=r1
    exact ⟨a,rfl,.inl ⟨⟨vs,hq⟩,q _ F1 H1 g1 (Zf5 hf hq hr)⟩⟩
  · cases ex
    unfold Rep at r1
    obtain ⟨a,vs,rfl,hq,hr⟩:=r1
    exact ⟨a,rfl,.inr ⟨⟨vs,hq⟩,q _ F1 H1 g1 (Zhu hq hr)⟩⟩
  · cases ex
theorem Vt {a:Expr} {p pos2:Pos} (hgl:Gl X "range") (hm:X.mg "range"=none) (ha:ED X a f) (hst:starEach [a] X.env=[(false,eval a X.env)]:=by rfl):ID X tg (.Call (.Name "range" p) [a] [] pos2) (Zbo f):=
  PI.imp (ZfG hgl hm (Zb ha Zf hst) hst) fun σ H R zq=>by
    obtain ⟨ρ,F0,H0,F,xs,ok,ex,q⟩:=zq
    obtain ⟨d,ed,ex⟩:=bind_some ex
    split at ex
    · rename_i j
      obtain ⟨hj,rfl⟩:=Z8 ex
      refine ⟨ρ,F0,H0,F,[.int j],ok,by simp [Zc,Zm,ed],fun vs F1 H1 g1 r1=>?_⟩
      obtain ⟨v,rfl,rv⟩:=UX r1
      unfold Rep at rv
      subst rv
      have:=Zba hj
      exact ⟨j,rfl,this.1,this.2,q _ F1 H1 g1 ZdX⟩
    · cases ex
theorem Zjn {a a' : Expr} {f' : DE} {p pos2 : Pos} (hgl : Gl X "range") (hm : X.mg "range" = none) (ha : ED X a f) (ha' : ED X a' f') (hst : starEach [a, a'] X.env = [(false, eval a X.env), (false, eval a' X.env)] := by rfl) (hst2 : starEach [a'] X.env = [(false, eval a' X.env)] := by rfl) :
    ID X tg (.Call (.Name "range" p) [a, a'] [] pos2) (Zf7 f f') :=
  PI.imp (ZfF hgl hm (Zb ha (Zb ha' Zf hst2) (by rw [hst, hst2])) hst hst2) fun σ H R zq => by
    obtain ⟨ρ, F0, H0, F, xs, ok, ex, q⟩ := zq
    obtain ⟨d, ed, ex⟩ := bind_some ex
    obtain ⟨d', ed', ex⟩ := bind_some ex
    cases d with
    | int i =>
     cases d' with
     | int j =>
      have ex : (if (V1 i && V1 j) = true then some (Ql i (j - i).toNat) else none) = some xs := ex
      obtain ⟨hj, rfl⟩ := Z8 ex
      obtain ⟨hi, hj⟩ := Bool.and_eq_true_iff.mp hj
      refine ⟨ρ, F0, H0, F, [.int i, .int j], ok, by simp [Zc, Zm, ed, ed'], fun vs F1 H1 g1 r1 => ?_⟩
      obtain ⟨v, v', rfl, rv, rv'⟩ := Zhb r1
      unfold Rep at rv rv'
      subst rv rv'
      have h1 := Zba hi; have h2 := Zba hj
      exact ⟨i, j, rfl, ⟨h1.1, h1.2, h2.1, h2.2⟩, q _ F1 H1 g1 ZdX⟩
     | _ => cases ex
    | _ => cases ex
noncomputable def Zl8 (K:PySem.W.Frag) (ta:TA):TI:=fun σ H R=>ta σ H fun vs H1=>∃ a,vs=[.ref a]/\(((∃ xs,SqL K H1 a xs)/\R (Ite K a false) H1)\/((∃ xs,SqT K H1 a xs)/\R (Ite K a true) H1))
theorem ZiV {elts:List Expr} {k:Nat} {tpos p:Pos} {ta:TA} (hg:Gl X "enumerate") (hm:X.mg "enumerate"=none) (ha:PA X [l] ta) (hs:starEach [l] X.env=[(false,eval l X.env)]:=by rfl) :
    PI X (.Tuple elts k tpos) (.Call (.Name "enumerate" p) [l] [] pos) (Zl8 X.K ta):=by
  intro pins s σ H R I h
  refine Call_ (Um I hg hm boot_enumerate (PyProof.Rows.callWith_type1 (thn (ha pos pins s σ H _ I h) fun us s1 zq=>?_) hs rfl))
  obtain ⟨vs,H1,I1,r1,q1⟩:=zq
  obtain ⟨a,e,q1⟩:=q1
  subst e
  cases r1 with
  | cons r rr=>
    cases rr
    cases r
    have fpk:∀ b∈[s1.heap.objs.size+1,s1.heap.objs.size],ZcT X pins H1 b:=fun b hb=>by
      have:s1.heap.objs.size<=b:=by
        rcases List.mem_cons.mp hb with z | z
        · omega
        · rw [List.mem_singleton] at z; omega
      exact I1.fpOk this (I1.hok.fresh this)
    rcases q1 with ⟨⟨xs,hq⟩,q⟩ | ⟨⟨xs,hq⟩,q⟩
    · obtain ⟨its,rv,p,hz⟩:=I1.list hq
      refine call_enumerate_list p.isList fun h' he hit hsz kp=>wpAny_pyIter_enum (s:={ s1 with heap:=h' }) he ?_
      exact ⟨_,[s1.heap.objs.size+1,s1.heap.objs.size],_,_,H1,rfl,I1.kept (t':=s1.toks) kp,Zed a _ _ (Nat.succ_ne_self _),⟨⟨_,he⟩,hit⟩,fpk,q⟩
    · obtain ⟨its,rv,p,hz⟩:=I1.tuple hq
      refine ZeK (show s1.heap.IsTuple a its.toArray from p) fun h' he hit hsz kp=>wpAny_pyIter_enum (s:={ s1 with heap:=h' }) he ?_
      exact ⟨_,[s1.heap.objs.size+1,s1.heap.objs.size],_,_,H1,rfl,I1.kept (t':=s1.toks) kp,Zec a _ _ (Nat.succ_ne_self _),⟨⟨_,he⟩,hit⟩,fpk,q⟩
noncomputable def Jd (f:DE):DI:=fun ρ=>(QI f ρ).map (YN 0)
theorem Zbr {elts:List Expr} {k:Nat} {tpos p:Pos} (hg:Gl X "enumerate") (hm:X.mg "enumerate"=none) (ha:ED X l f) (hs:starEach [l] X.env=[(false,eval l X.env)]:=by rfl) :
    ID X (.Tuple elts k tpos) (.Call (.Name "enumerate" p) [l] [] pos) (Jd f):=PI.imp (ZiV hg hm (Zb ha Zf hs) hs) fun σ H R zq=>by
  obtain ⟨ρ,F0,H0,F,xs,ok,ex,q⟩:=zq
  obtain ⟨ys,ey,rfl⟩:=map_some ex
  clear ex
  obtain ⟨d,ed,ex⟩:=bind_some ey
  refine ⟨ρ,F0,H0,F,[d],ok,by simp [Zc,Zm,ed],fun vs F1 H1 g1 r1=>?_⟩
  obtain ⟨v,rfl,rv⟩:=UX r1
  split at ex
  · cases ex
    unfold Rep at rv
    obtain ⟨a,vs,rfl,hf,hq,hr⟩:=rv
    exact ⟨a,rfl,.inl ⟨⟨vs,hq⟩,q _ F1 H1 g1 (ZeD hf hq hr)⟩⟩
  · cases ex
    unfold Rep at rv
    obtain ⟨a,vs,rfl,hq,hr⟩:=rv
    exact ⟨a,rfl,.inr ⟨⟨vs,hq⟩,q _ F1 H1 g1 (ZeC hq hr)⟩⟩
  · cases ex
theorem JG {body:List Stmt} {b:DG} {g:DS} {it:DI} {e:Expr} (hp:PassesOwn (model X.prog X.w) X.A X.env X.xe) (hc:X.calm=true) (hi:ID X tg e it) (hg:GD X tg b) (hb:SDs X body g)
    (hs:∀ x,foldedSetIterable e X.env x=pure x:=by intro _; rfl):SD X (.For tg e body [] pos) (Wi it b g):=
  PS.imp (Zkk hp hc hi hg hb hs) fun E σ H zq=>by
    obtain ⟨ρ,F0,H0,F,o,ok,e,k⟩:=zq
    obtain ⟨xs,ex,e⟩:=bind_some e
    refine ⟨ρ,F0,H0,F,xs,ok,ex,fun J F1 H1 g1 hJ=>?_⟩
    have k1:=k.ext g1.ext
    refine ⟨fun i m σ' H'=>m=xs.length-i/\i<=xs.length/\FW X.K F0 H0 F1 H1 b g xs o i σ' H',⟨xs.length,by simp,Nat.zero_le _,ρ,F1,ok.grow g1,.refl,e⟩,?_⟩
    rintro i m σ1 H2 ⟨rfl,hi,ρ1,F2,ok2,x2,e2⟩
    obtain ⟨hgo,hst⟩:=hJ F2 H2 x2
    by_cases hlt:i < xs.length
    · obtain ⟨go,yl⟩:=hgo i xs[i] (by simp [hlt])
      refine .inr ⟨go,FW X.K F0 H0 F1 H1 b g xs o (i+1),fun σ' H' w=>⟨xs.length-(i+1),by omega,rfl,hlt,w⟩,fun x H3 y=>?_⟩
      obtain ⟨F3,g3,rx⟩:=yl x H3 y
      rw [List.drop_eq_getElem_cons hlt] at e2
      unfold Jf at e2
      obtain ⟨ρ2,eb,e2⟩:=bind_some e2
      refine ⟨ρ1,F0,H0,F3,xs[i],ρ2,ok2.grow g3,rx,eb,fun σ4 F4 H4 g4 ok4=>?_⟩
      cases eg:g ρ2 with
      | none=>rw [eg] at e2; cases e2
      | some o1=>
        rw [eg] at e2
        have x4:=(x2.trans (g3.ext (K:=X.K))).trans (g4.ext (K:=X.K))
        refine ⟨ρ2,F0,H0,F4,o1,ok4,eg,?_⟩
        cases o1 with
        | nx ρ3=>exact fun σ5 F5 H5 x5 ok5=>⟨ρ3,F5,ok5,x4.trans x5,e2⟩
        | ct ρ3=>exact fun σ5 F5 H5 x5 ok5=>⟨ρ3,F5,ok5,x4.trans x5,e2⟩
        | bk ρ3=>cases e2; exact fun σ5 F5 H5 x5 ok5=>k1 σ5 F5 H5 (x4.trans x5) ok5
        | rt d=>cases e2; exact k1
    · have ei:i=xs.length:=by omega
      subst ei
      refine .inl ⟨hst _ (Nat.le_refl _),?_⟩
      rw [List.drop_eq_nil_of_le (Nat.le_refl _)] at e2
      cases e2
      exact k1 σ1 F2 H2 x2 ok2
end
noncomputable def YJ (b:DG) (t:DT) (f:DE):List D->Rho->Option (List D)
  | [],_=>some []
  | x::xs,ρ=>(b x ρ).bind fun ρ1=>(t ρ1).bind fun c=>match c with
    | true=>(f ρ1).bind fun d=>(YJ b t f xs ρ1).map (d::·)
    | false=>YJ b t f xs ρ1
noncomputable def JE (caps:List (Option Nat)) (ρ:Rho):Rho:=caps.map fun c=>match c.bind (ρ[·]?) with | some (.val d)=>.val d | _=>.no
noncomputable def Zdr (caps:List (Option Nat)) (σ:L2.St):L2.St:=caps.map fun c=>c.bind fun j=>(σ[j]?).join
structure Zlx (X:Cx) (N:List Str) (scope:Scope) (caps:List (Option Nat)):Prop where
  len:caps.length=N.length
  ok:∀ (i j:Nat) (x:Str),caps[i]?=some (some j)->N[i]?=some x->X.N[j]?=some x/\Vis X.env.scope x/\X.env.kindOf x≠some .local/\(relabel scope X.env).names.lookup x≠some .local
noncomputable def QF (caps:List (Option Nat)) (it:DI) (b:DG) (t:DT) (f:DE):DE:=fun ρ=>(it ρ).bind fun xs=>if xs.length<=lim then (YJ b t f xs (JE caps ρ)).map .lst else none
noncomputable def NoOwn (ρ:Rho):Prop:=∀ (i:Nat) ds,ρ[i]?≠some (.own ds)
theorem NoOwn.set {ρ:Rho} (h:NoOwn ρ) (i:Nat) (d:D):NoOwn (ρ.set i (.val d)):=fun j ds e=>by
  by_cases hj:i=j
  · subst hj
    by_cases hl:i < ρ.length
    · rw [List.getElem?_set_self hl] at e; cases e
    · rw [List.getElem?_eq_none (by rw [List.length_set]; omega)] at e; cases e
  · rw [List.getElem?_set_ne hj] at e; exact h j ds e
noncomputable def ZcE (b:DG):Prop:=∀ d ρ ρ',b d ρ=some ρ'->NoOwn ρ->NoOwn ρ'
theorem Y6 (i:Nat):ZcE (ZQ i):=fun d ρ ρ' e h=>by cases e; exact h.set i d
theorem ZaA (i j:Nat):ZcE (Yz i j):=fun d ρ ρ' e h=>by
  unfold Yz at e
  split at e
  · cases e; exact (h.set _ _).set _ _
  · cases e
theorem ZbB (caps:List (Option Nat)) (ρ:Rho):NoOwn (JE caps ρ):=fun i ds e=>by
  unfold JE at e
  rw [List.getElem?_map] at e
  obtain ⟨c,_,e⟩:=map_some e
  split at e <;> cases e
theorem EnvOk.wrtD {K:PySem.W.Frag} {F0 F:Fz} {H0 H:Hp} {σ:L2.St} {ρ:Rho} {xs ys:List V} {a:Addr} (ok:EnvOk K F0 H0 F σ H ρ) (no:NoOwn ρ) (ha:H a=some (.lst xs)) (hF:¬ F a) (h0:H0 a=none):EnvOk K F0 H0 F σ (upd H a (.lst ys)) ρ:=by
  have x:=Zbu (K:=K) (ys:=ys) ha hF
  refine ⟨⟨fun b o q=>?_,ok.base.sub,fun b z=>?_⟩,fun j d' h=>?_,fun j es h=>absurd h (no j es),fun j k es fs b q1=>absurd q1 (no j es),ok.len,fun b z=>?_⟩
  · rw [ZK (ZG q h0)]; exact ok.base.same b o q
  · rcases ok.base.new b z with z1 | ⟨z1,z2⟩
    · exact .inl z1
    · refine .inr ⟨z1,?_⟩
      by_cases e:b=a
      · rw [e,ZO]; simp
      · rw [ZK e]; exact z2
  · obtain ⟨v,e1,e2⟩:=ok.val j d' h
    exact ⟨v,e1,Rep.ext x e2⟩
  · rcases ok.fz b z with z1 | z1
    · left
      by_cases e:b=a
      · rw [e,ZO]; simp
      · rw [ZK e]; exact z1
    · exact .inr z1
theorem EnvOk.capt {X:Cx} {N:List Str} {scope:Scope} {caps:List (Option Nat)} {F0 F:Fz} {H0 H:Hp} {σ:L2.St} {ρ:Rho} (ok:EnvOk X.K F0 H0 F σ H ρ):EnvOk X.K F H F (Zdr caps σ) H (JE caps ρ) where
  base:=.refl
  val:=fun i d h=>by
    unfold JE at h
    rw [List.getElem?_map] at h
    obtain ⟨c,ec,h⟩:=map_some h
    split at h
    · rename_i d' e
      cases h
      obtain ⟨j,rfl,ej⟩:=bind_some e
      obtain ⟨v,e1,e2⟩:=ok.val j _ ej
      refine ⟨v,?_,e2⟩
      unfold Zdr
      rw [List.getElem?_map,ec]
      simp [e1]
    · cases h
  own:=fun i ds h=>absurd h (ZbB caps ρ i ds)
  inj:=fun i j ds es a h=>absurd h (ZbB caps ρ i ds)
  len:=by simp [JE,Zdr]
  fz:=ok.fz
noncomputable def TDs (X:Cx) (ifs:List Expr) (t:DT):Prop:=PTs X ifs (rdT X.K t)
noncomputable def ZV:DT:=fun _=>some true
theorem UE {X:Cx}:TDs X [] ZV:=fun pins s σ H Q I zq=>by
  obtain ⟨ρ,F0,H0,F,d,ok,e,q⟩:=zq
  cases e
  exact ZiN pins s σ H Q I (q F H .refl)
theorem Zfd {X:Cx} {c:Expr} {t:DT} (h:TD X c t):TDs X [c] t:=ZiM h
section
variable {X:Cx} {pos:Pos} {tg elt iter:Expr} {ifs:List Expr}
theorem ZfA {scope:Scope} {N:List Str} {caps:List (Option Nat)} {b:DG} {t:DT} {f:DE} {it:DI} (C:Zlx X N scope caps) (hno:ZcE b) {σ:L2.St} {H:Hp} {Q:VK} (h:rd X.K (QF caps it b t f) σ H Q) :
    Ziz X.K (rdI X.K it) (ZdE X N scope σ (rdG X.K b) (rdT X.K t) (rd X.K f)) σ H Q:=by
    obtain ⟨ρ,F0,H0,F,d,ok,e,q⟩:=h
    obtain ⟨xs,ex,e⟩:=bind_some e
    by_cases hz:xs.length<=lim
    · rw [if_pos hz] at e
      obtain ⟨ds,ec,rfl⟩:=map_some e
      refine ⟨ρ,F0,H0,F,xs,ok,ex,fun J F1 H1 g1 hJ Dl hD hK=>?_⟩
      have ok1:=ok.grow g1
      have nF1:¬ F1 Dl:=fun z=>by
        rcases ok1.fz Dl z with z | ⟨o,z⟩
        · exact z hD
        · rw [hK] at z; cases z
      have oks:EnvOk X.K F1 H1 F1 (Zdr caps σ) (upd H1 Dl (.lst [])) (JE caps ρ):=(EnvOk.capt (N:=N) (scope:=scope) ok1).grow (.laid0 hD)
      have gx:Ext X.K F1 H1 F1 (upd H1 Dl (.lst [])):=(Grow.laid0 hD).ext
      refine ⟨Zdr caps σ,fun i m σ2 H2=>m=xs.length-i/\i<=xs.length/\∃ ρ2 F2 ys pre post,EnvOk X.K F1 H1 F2 σ2 H2 ρ2/\NoOwn ρ2/\Ext X.K F1 H1 F2 H2/\H2 Dl=some (.lst ys)/\¬ F2 Dl/\RepL X.K F2 H2 pre ys/\pre.length<=i/\YJ b t f (xs.drop i) ρ2=some post/\ds=pre++post,
        by simp [Zdr,C.len],fun i x v e1 e2 e3=>?_,⟨xs.length,by simp,Nat.zero_le _,JE caps ρ,F1,[],[],ds,oks,ZbB _ _,gx,ZO,nF1,.nil,Nat.le_refl _,ec,rfl⟩,?_⟩
      · unfold Zdr at e2
        rw [List.getElem?_map] at e2
        obtain ⟨c,ecap,e2⟩:=map_some e2
        obtain ⟨j,rfl,e2⟩:=bind_some e2
        obtain ⟨h1,h2,h3,h4⟩:=C.ok i j x ecap e1
        exact ⟨h4,j,h1,by simpa [Option.join_eq_some_iff] using e2,h2,h3⟩
      · rintro i m σ2 H2 ⟨rfl,hi',ρ2,F2,ys,pre,post,ok2,no2,x2,hD2,nF2,rp2,hl2,e2,ed⟩
        obtain ⟨hgo,hst⟩:=hJ F2 H2 x2
        by_cases hlt:i < xs.length
        · obtain ⟨go,yl⟩:=hgo i xs[i] (by simp [hlt])
          refine .inr ⟨go,fun x H3 y=>?_⟩
          obtain ⟨F3,g3,rx⟩:=yl x H3 y
          rw [List.drop_eq_getElem_cons hlt] at e2
          unfold YJ at e2
          obtain ⟨ρ3,eb,e2⟩:=bind_some e2
          obtain ⟨c,et,e2⟩:=bind_some e2
          have no3:=hno _ _ _ eb no2
          refine ⟨ρ2,F1,H1,F3,xs[i],ρ3,ok2.grow g3,rx,eb,fun σ4 F4 H4 g4 ok4=>⟨ρ3,F1,H1,F4,c,ok4,et,fun F5 H5 g5=>?_⟩⟩
          have g35:=g3.trans (g4.trans g5)
          have nF5:∀ {F6:Fz} {H6:Hp},Grow F2 H2 F6 H6->¬ F6 Dl:=fun {F6 H6} g6 z=>by
            rcases g6.new Dl z with z | z
            · exact nF2 z
            · rw [hD2] at z; cases z.1
          cases c with
          | false=>
            refine ZmG ?_
            exact ⟨xs.length-(i+1),by omega,rfl,hlt,ρ3,F5,ys,pre,post,ok4.grow g5,no3,x2.trans g35.ext,g35.same _ _ hD2,nF5 g35,rp2.grow g35,by omega,e2,ed⟩
          | true=>
            refine ZmF ?_
            obtain ⟨d,ef,e2⟩:=bind_some e2
            obtain ⟨post',e3,rfl⟩:=map_some e2
            refine ⟨ρ3,F1,H1,F5,d,ok4.grow g5,ef,fun v F6 H6 g6 r6=>?_⟩
            have g36:=g35.trans g6
            have hD6:=g36.same _ _ hD2
            have xo:=Zbu (K:=X.K) (ys:=ys++[v]) hD6 (nF5 g36)
            refine ⟨ys,hD6,?_,xs.length-(i+1),by omega,rfl,hlt,ρ3,F6,ys++[v],pre++[d],post',((ok4.grow g5).grow g6).wrtD no3 hD6 (nF5 g36) hD,no3,(x2.trans g36.ext).trans xo,ZO,nF5 g36,RepL.ext xo ((rp2.grow g36).append (.cons r6 .nil)),by simp; omega,e3,by simp [ed]⟩
            rw [<-rp2.length]
            have:sizeLine=16777216:=sizeLine_eq
            unfold lim at hz
            omega
        · have ei:i=xs.length:=by omega
          subst ei
          refine .inl ⟨hst _ (Nat.le_refl _),?_⟩
          rw [List.drop_eq_nil_of_le (Nat.le_refl _)] at e2
          cases e2
          rw [List.append_nil] at ed
          subst ed
          have b:=ok2.base
          refine q (.ref Dl) (fun a=>F2 a\/a=Dl) H2 (g1.trans ⟨b.same,fun a z=>.inl (b.sub a z),fun a z=>?_⟩) ?_
          · rcases z with z | rfl
            · exact b.new a z
            · exact .inr ⟨hD,by rw [hD2]; simp⟩
          · unfold Rep
            have xx:Ext X.K F2 H2 (fun a=>F2 a\/a=Dl) H2:=⟨fun a z=>.inl z,fun a ys _ z=>z,fun a ys z=>z⟩
            exact ⟨Dl,ys,rfl,.inr rfl,.of hD2,RepL.ext xx rp2⟩
    · rw [if_neg hz] at e; cases e
theorem JW {scope:Scope} {N:List Str} {caps:List (Option Nat)} {b:DG} {t:DT} {f:DE} {it:DI} (S:CompScope X scope) (C:Zlx X N scope caps) (hc:X.calm=true) (hit:ID X tg iter it) (hno:ZcE b)
    (hg:∀ C s3 H3 fp,GD (Y0 X N scope C s3 H3 fp) tg b) (hi:∀ C s3 H3 fp,TDs (Y0 X N scope C s3 H3 fp) ifs t) (he:∀ C s3 H3 fp,ED (Y0 X N scope C s3 H3 fp) elt f)
    (hs:∀ x,foldedSetIterable iter X.env x=pure x:=by intro _; rfl) :
    ED X (.ListComp elt [⟨tg,iter,ifs,0⟩] scope pos) (QF caps it b t f):=
  PE.imp (ZiY (N:=N) (g:=rdG X.K b) (tt:=rdT X.K t) (te:=rd X.K f) S hc hit hg hi he hs) fun σ H Q h=>ZfA C hno h
end
section
variable {prog:Program} {w:World} {A:Around} {E:Value->Shared->Prop} {s:Shared}
theorem Zfa {t sl:Addr} {items:Array Value} {vl vu:Value} {lo hi:Option Int} {Q:Value->Shared->Prop} (ht:IsTup s.heap t items) (hs:s.heap.IsSliceOf sl vl vu .none) (pl:IsPart vl lo) (pu:IsPart vu hi)
    (hw:HT.sIx items.size 0 lo=0/\HT.sIx items.size items.size hi=items.size) (h:Q (.ref t) s):wpAny (model prog w) A (getItem (.ref t) (.ref sl)) Q E s:=by
  obtain ⟨os,hos,hcs,hds⟩:=id hs
  have hTs:s.TypeIs (.ref sl) "slice":=⟨os,hos,hcs⟩
  unfold getItem
  try with_reducible refine wpAny_holding ?_
  first | refine wpAny_bind (wpAny_pure ?_) | skip
  refine wpAny_bind (wpAny_sequenceKey ht.typeIs (by decide) ?_)
  refine wpAny_bind (wpAny_callSpecial?_slot (name:=Str.ofString "__getitem__") ht.typeIs PyProof.Rows.slot_tuple_getitem
    (wpAny_call_entry PyProof.Rows.slot_tuple_getitem ht.typeIs entry_tuple_getitem ?_ (args_tuple_getitem _ _)))
  show wpAny _ _ (Builtin.Tuple.tupleItemsOf (.ref t) >>= _) _ _ s
  refine wpAny_bind (tupleItemsOf_ ht ?_)
  refine wpAny_bind (wpAny_typeOf hTs ?_)
  rw [if_pos (by decide)]
  refine wpAny_bind (HT.sliceApplied_gen hs pl pu ?_)
  rw [hw.1,hw.2,Nat.sub_zero]
  have hyes:((((0:Nat):Int)==0&&(1:Int)==1&&items.size==items.size)=true):=by simp
  show wpAny _ _ (if ((((0:Nat):Int)==0&&(1:Int)==1&&items.size==items.size)=true) then _ else _) _ _ s
  rw [if_pos hyes]
  unfold Builtin.Tuple.tupleIsExact
  refine wpAny_bind (wpAny_bind (wpAny_typeOf ht.typeIs (wpAny_pure ?_)))
  rw [if_pos (by decide)]
  refine wpAny_bind (wpAny_rule (wpAny_bind (wpAny_pure (wpAny_pure ?_))))
  exact ⟨_,rfl,wpAny_pure h⟩
theorem Zbt {α β:Type} {f g:α->Option β}:∀ {l:List α},(∀ m,m∈l->f m=g m)->l.filterMap f=l.filterMap g
  | [],_=>rfl
  | x::l,h=>by
    rw [List.filterMap_cons,List.filterMap_cons,h x List.mem_cons_self,Zbt fun m hm=>h m (List.mem_cons_of_mem _ hm)]
theorem ZdI {α:Type} (xs:List α):((List.range xs.length).filterMap fun (m:Nat)=>xs[(((xs.length:Nat):Int)-1+(m:Int)*(-1)).toNat]?)=xs.reverse:=by
  have e:∀ m,m∈List.range xs.length->xs[(((xs.length:Nat):Int)-1+(m:Int)*(-1)).toNat]?=xs.reverse[m]?:=fun m hm=>by
    have hm:=List.mem_range.mp hm
    rw [List.getElem?_reverse hm]
    congr 1
    omega
  rw [Zbt e]
  have hl:xs.length=xs.reverse.length:=by simp
  rw [hl]
  generalize xs.reverse=ys
  clear e hl
  induction ys with
  | nil=>rfl
  | cons y ys ih=>
    rw [List.length_cons,List.range_succ_eq_map,List.filterMap_cons]
    simp only [List.getElem?_cons_zero,List.filterMap_map]
    congr 1
theorem Ziv {t sl:Addr} {items:Array Value} {u:Tok} {Q:Value->Shared->Prop} (ht:IsTup s.heap t items) (hs:s.heap.IsSliceOf sl .none .none (.int (-1) u)) (hsz:items.size<=sizeLine)
    (h:Q (.ref s.heap.objs.size) { s with heap:=s.heap.push { cls:=.type "tuple",data:=.seq items.toList.reverse.toArray } }):wpAny (model prog w) A (getItem (.ref t) (.ref sl)) Q E s:=by
  obtain ⟨os,hos,hcs,hds⟩:=id hs
  have hTs:s.TypeIs (.ref sl) "slice":=⟨os,hos,hcs⟩
  unfold getItem
  try with_reducible refine wpAny_holding ?_
  first | refine wpAny_bind (wpAny_pure ?_) | skip
  refine wpAny_bind (wpAny_sequenceKey ht.typeIs (by decide) ?_)
  refine wpAny_bind (wpAny_callSpecial?_slot (name:=Str.ofString "__getitem__") ht.typeIs PyProof.Rows.slot_tuple_getitem
    (wpAny_call_entry PyProof.Rows.slot_tuple_getitem ht.typeIs entry_tuple_getitem ?_ (args_tuple_getitem _ _)))
  show wpAny _ _ (Builtin.Tuple.tupleItemsOf (.ref t) >>= _) _ _ s
  refine wpAny_bind (tupleItemsOf_ ht ?_)
  refine wpAny_bind (wpAny_typeOf hTs ?_)
  rw [if_pos (by decide)]
  refine wpAny_bind (?_:wpAny _ _ _ _ _ s)
  unfold Builtin.Slice.sliceApplied Builtin.Slice.sliceFields
  refine wpAny_bind (wpAny_bind (wpAny_field hos hds (x:=.none) rfl (wpAny_bind (wpAny_field hos hds (x:=.none) rfl (wpAny_bind (wpAny_field hos hds (x:=.int (-1) u) rfl (wpAny_pure ?_)))))))
  refine wpAny_bind (slicePart_int ?_)
  show wpAny _ _ (if (((-1:Int))==0)=true then _ else _) _ _ s
  rw [if_neg (by decide)]
  refine wpAny_bind (slicePart_none (wpAny_bind (slicePart_none (wpAny_bind (wpAny_pure ?_)))))
  have ad:Builtin.Slice.sliceAdjust none none (-1) (items.size:Int)=((items.size:Int)-1,-1):=rfl
  have pl:Builtin.Slice.slicePlaces ((items.size:Int)-1) (-1) (-1)=items.size:=by
    unfold Builtin.Slice.slicePlaces
    rw [if_neg (by decide)]
    by_cases hz:(items.size:Int)-1 > -1
    · rw [if_pos hz]
      have:(-(-1:Int))=1:=by decide
      rw [this,Int.ediv_one]
      omega
    · rw [if_neg hz]; omega
  show wpAny _ _ (match Builtin.Slice.sliceAdjust none none (-1) (items.size:Int) with | (lo,hi)=>pure (lo,(-1:Int),Builtin.Slice.slicePlaces lo hi (-1))) _ _ s
  rw [ad]
  show wpAny _ _ (pure ((items.size:Int)-1,(-1:Int),Builtin.Slice.slicePlaces ((items.size:Int)-1) (-1) (-1))) _ _ s
  rw [pl]
  refine wpAny_pure ?_
  have hno:¬ ((((items.size:Int)-1==0)&&((-1:Int)==1)&&(items.size==items.size))=true):=by
    rw [show ((-1:Int)==1)=false from rfl]
    simp
  show wpAny _ _ (if (((items.size:Int)-1==0)&&((-1:Int)==1)&&(items.size==items.size))=true then _ else _) _ _ s
  rw [if_neg hno]
  have ep:((List.range items.size).filterMap fun (k:Nat)=>items[((items.size:Int)-1+(k:Int)*(-1)).toNat]?).toArray=items.toList.reverse.toArray:=by
    have:=ZdI items.toList
    rw [Array.length_toList] at this
    rw [<-this]
    simp
  rw [ep]
  have htake:sizeOk (.seq items.toList.reverse.toArray):=by
    show items.toList.reverse.toArray.size<=sizeLine
    simpa using hsz
  first
    | exact wpAny_bind (m:=Builtin.Tuple.tupleExact _) (wpAny_newObj_type (wpAny_pure ⟨_,rfl,wpAny_pure h⟩) htake)
    | exact wpAny_bind (m:=Builtin.Tuple.tupleExact _) (wpAny_newObj_type (wpAny_bind (wpAny_pure (wpAny_pure ⟨_,rfl,wpAny_pure h⟩))) htake)
    | exact wpAny_bind (wpAny_bind (m:=Builtin.Tuple.tupleExact _) (wpAny_newObj_type (wpAny_pure (wpAny_pure ⟨_,rfl,wpAny_pure h⟩)) htake))
    | exact wpAny_bind (wpAny_bind (m:=Builtin.Tuple.tupleExact _) (wpAny_newObj_type (wpAny_pure ⟨_,rfl,wpAny_pure h⟩) htake))
theorem Zca (its:List Value):slicePick its.toArray none none (some (-1))=its.reverse.toArray:=by
  unfold slicePick
  have b:sliceBounds none none (some (-1)) its.toArray.size=((its.length:Int)-1,-1,-1):=by
    simp [sliceBounds]
  rw [b]
  congr 1
  unfold sliceRange
  simp only [show ¬ ((-1:Int) > 0) by decide,if_false,List.filterMap_map]
  have hc:(if (its.length:Int)-1 > -1 then ((its.length:Int)-1 - -1 - -1-1) / (- -1) else 0).toNat=its.length:=by
    split
    · rw [show (- -1:Int)=1 by decide,Int.ediv_one]; omega
    · omega
  rw [hc,<-ZdI its]
  apply Zbt
  intro m hm
  simp only [Function.comp]
  rw [show (((its.length:Nat):Int)-1+-1*(m:Int))=(((its.length:Nat):Int)-1+(m:Int)*(-1)) by omega]
  simp
end
noncomputable def cutD {α:Type} (xs:List α) (lo hi:Option Int):List α:=(xs.drop (HT.sIx xs.length 0 lo)).take (HT.sIx xs.length xs.length hi-HT.sIx xs.length 0 lo)
theorem RepL.cut {K:PySem.W.Frag} {F:Fz} {H:Hp} {ds:List D} {vs:List V} (h:RepL K F H ds vs) (lo hi:Option Int):RepL K F H (cutD ds lo hi) (Ze0 vs lo hi):=by
  unfold cutD Ze0
  rw [h.length]
  exact (h.drop _).take _
section
variable {X:Cx} {pos:Pos} {e:Expr} {f:DE}
noncomputable abbrev DO:=Rho->Option (Option Int)
inductive ZnD (K:PySem.W.Frag) (p:DO) (σ:L2.St) (H:Hp) (Q:Option Int->Hp->Prop):Prop
  | mk (ρ:Rho) (F0:Fz) (H0:Hp) (F:Fz) (o:Option Int) (ok:EnvOk K F0 H0 F σ H ρ) (e:p ρ=some o) (q:∀ F' H',Grow F H F' H'->Q o H')
noncomputable def rdO (K:PySem.W.Frag) (p:DO):TO:=fun σ H Q=>ZnD K p σ H Q
noncomputable def OD (X:Cx) (e:Option Expr) (p:DO):Prop:=PO X e (rdO X.K p)
theorem PO.imp {e:Option Expr} {t t':TO} (h:PO X e t) (i:∀ σ H Q,t' σ H Q->t σ H Q):PO X e t':=fun pins s σ H Q I q=>h pins s σ H Q I (i σ H Q q)
noncomputable def Qq:DO:=fun _=>some none
noncomputable def Qp (f:DE):DO:=fun ρ=>(f ρ).bind fun d=>match d with | .int i=>some (some i) | _=>none
theorem Q0:OD X none Qq:=PO.imp ZiS fun σ H Q ⟨ρ,F0,H0,F,o,ok,e,q⟩=>by cases e; exact q F H .refl
theorem QZ (h:ED X e f):OD X (some e) (Qp f):=PO.imp (ZfE h) fun σ H Q zq=>by
  obtain ⟨ρ,F0,H0,F,o,ok,eo,q⟩:=zq
  obtain ⟨d,ed,eo⟩:=bind_some eo
  refine ⟨ρ,F0,H0,F,d,ok,ed,fun v F1 H1 g1 r1=>?_⟩
  split at eo
  · cases eo
    unfold Rep at r1
    exact ⟨_,r1,q F1 H1 g1⟩
  · cases eo
noncomputable def Zna (K:PySem.W.Frag):V->Option Int->Option Int->Hp->VK->Prop:=fun x lo hi H Q=>∃ a xs,x=.ref a/\((SqL K H a xs/\∀ p,H p=none->Q (.ref p) (upd H p (.lst (Ze0 xs lo hi)))) \/
  (SqT K H a xs/\(Ze0 xs lo hi=xs->Q (.ref a) H)/\∀ p,H p=none->Q (.ref p) (upd H p (.tup (Ze0 xs lo hi)))))
theorem Zj7:SlR X (Zna X.K):=by
  intro pins s σ H x v vl vu lo hi sl Q I rx hs pl pu h
  obtain ⟨a,xs,rfl,h⟩:=h
  rcases h with ⟨hx,q⟩ | ⟨hx,q1,q2⟩
  · exact ZiC pins s σ H _ v vl vu lo hi sl Q I rx hs pl pu ⟨a,xs,rfl,hx,q⟩
  · by_cases hw:HT.sIx xs.length 0 lo=0/\HT.sIx xs.length xs.length hi=xs.length
    · cases rx
      obtain ⟨its,r,ht,hz⟩:=I.tuple hx
      have hlen:its.toArray.size=xs.length:=by rw [List.size_toArray]; exact r.length.symm
      refine ⟨"tuple",_,PyProof.Rows.slot_tuple_getitem.lookup,ht.typeIs,?_⟩
      refine Zfa ht hs pl pu (by rw [hlen]; exact hw) ⟨.ref a,H,I,rfl,q1 ?_⟩
      unfold Ze0
      rw [hw.1,hw.2]
      simp
    · exact Zj5 pins s σ H _ v vl vu lo hi sl Q I rx hs pl pu ⟨a,xs,rfl,hx,hw,q2⟩
noncomputable def Zgu (lo hi:Option Int):D->Option D
  | .lst xs=>some (.lst (cutD xs lo hi))
  | .tup xs=>some (.tup (cutD xs lo hi))
  | _=>none
noncomputable def dSl (f:DE) (l h:DO):DE:=fun ρ=>(f ρ).bind fun x=>(l ρ).bind fun lo=>(h ρ).bind fun hi=>Zgu lo hi x
theorem Zbv {lo hi:Option Expr} {l h:DO} {p2:Pos} (he:ED X e f) (hl:OD X lo l) (hh:OD X hi h):ED X (.Subscript e (.Slice lo hi none p2) pos) (dSl f l h):=
  PE.imp (ZdO Zj7 he hl hh) fun σ H Q zq=>by
    obtain ⟨ρ,F0,H0,F,d,ok,e,q⟩:=zq
    obtain ⟨x,ex,e⟩:=bind_some e
    obtain ⟨lo,el,e⟩:=bind_some e
    obtain ⟨hi,eh,e⟩:=bind_some e
    refine ⟨ρ,F0,H0,F,x,ok,ex,fun v F1 H1 g1 r1=>⟨ρ,F0,H0,F1,lo,ok.grow g1,el,fun F2 H2 g2=>⟨ρ,F0,H0,F2,hi,(ok.grow g1).grow g2,eh,fun F3 H3 g3=>?_⟩⟩⟩
    have g13:=g1.trans (g2.trans g3)
    have r3:=(r1.grow g2).grow g3
    unfold Zgu at e
    split at e
    · cases e
      unfold Rep at r3
      obtain ⟨a,vs,rfl,hf,hq,hr⟩:=r3
      exact ⟨a,vs,rfl,.inl ⟨hq,fun p hp=>q _ _ _ (g13.trans (.laid hp)) (Y5 hp (hr.cut lo hi))⟩⟩
    · rename_i ds
      cases e
      have r3':=r3
      unfold Rep at r3
      obtain ⟨a,vs,rfl,hq,hr⟩:=r3
      refine ⟨a,vs,rfl,.inr ⟨hq,fun ec=>q _ F3 H3 g13 ?_,fun p hp=>q _ F3 _ (g13.trans (.laid0 hp)) ?_⟩⟩
      · unfold Rep
        refine ⟨a,vs,rfl,hq,?_⟩
        have:=hr.cut lo hi
        rw [ec] at this
        exact this
      · unfold Rep
        exact ⟨p,_,rfl,.of ZO,(hr.cut lo hi).grow (.laid0 hp)⟩
    · cases e
noncomputable def Zjx (f:DE):DE:=fun ρ=>(f ρ).bind fun x=>match x with | .lst xs=>some (.lst xs.reverse) | .tup xs=>some (.tup xs.reverse) | _=>none
theorem Zie {p1 p2 p3:Pos} {j:Nat} (he:ED X e f):ED X (.Subscript e (.Slice none none (some (.UnaryOp .USub (.Constant (.int 1) j p1) p3)) p2) pos) (Zjx f):=by
  intro pins s σ H Q I h
  obtain ⟨ρ,F0,H0,F,d,ok,ed,q⟩:=h
  obtain ⟨x,ex,ed⟩:=bind_some ed
  refine Subscript_ (thn (he pins s σ H (fun v H'=>∃ F',Grow F H F' H'/\Rep X.K F' H' x v) I ⟨ρ,F0,H0,F,x,ok,ex,fun v F' H' g r=>⟨F',g,r⟩⟩) fun v s1 zq=>?_)
  obtain ⟨xv,H1,I1,r1,F1,g1,rx⟩:=zq
  refine wpAny_Slice ?_
  rw [evalPart_none]
  refine wpAny_pure ?_
  refine wpAny_pure ?_
  refine thn (ZfE (Zko ZhR Zh4) pins s1 σ H1 (fun o H'=>o=some (-1)/\H'=H1) I1 ⟨1,rfl,_,rfl,rfl,rfl⟩) fun vs s3 zq=>?_
  obtain ⟨o,H3,I3,ps,eo,eH⟩:=zq
  subst eo eH
  obtain ⟨u,rfl⟩:∃ u,vs=.int (-1) u:=by cases ps; exact ⟨_,rfl⟩
  have I4:Inv X pins σ H3 { s3 with heap:=s3.heap.push { cls:=.type "slice",data:=.fields #[.none,.none,.int (-1) u] } }:=I3.kept (t':=s3.toks) fun b ob q=>Heap.get?_push_of_some _ q
  have hs:(s3.heap.push { cls:=.type "slice",data:=.fields #[.none,.none,.int (-1) u] }).IsSliceOf s3.heap.objs.size .none .none (.int (-1) u):=Heap.IsSliceOf.new ..
  have fin:∃ T id,typeLookup (.type T) "__getitem__"=pure (some (.builtin id))/\Shared.TypeIs { s3 with heap:=s3.heap.push { cls:=.type "slice",data:=.fields #[.none,.none,.int (-1) u] } } v T /\
      wpAny (model X.prog X.w) X.A (getItem v (.ref s3.heap.objs.size)) (EP X pins σ Q) X.xe { s3 with heap:=s3.heap.push { cls:=.type "slice",data:=.fields #[.none,.none,.int (-1) u] } }:=by
    split at ed
    · cases ed
      unfold Rep at rx
      obtain ⟨a,vs,rfl,hf,hq,hr⟩:=rx
      cases r1
      obtain ⟨its,rv,ht,hz⟩:=I4.list hq
      have hlen:=rv.length
      refine ⟨"list",_,slot_list_getitem.lookup,ht.isList.typeIs,?_⟩
      refine wpAny_getItem_list_slice ht.isList hs .none .none (.int _ _) (by simp) ?_ (by rw [List.size_toArray] <;> omega)
      rw [Zca]
      refine ⟨.ref _,_,I4.laid (t':=s3.toks) (o:=.lst vs.reverse) (fun b ob q=>Heap.get?_push_of_some _ q) (Nat.le_refl _) ?_,rfl,q _ _ _ (g1.trans (.laid (I4.hok.fresh (Nat.le_refl _)))) (Y5 (I4.hok.fresh (Nat.le_refl _)) hr.reverse)⟩
      exact ⟨by rw [List.length_reverse]; exact hz,_,0,rv.reverse,Heap.get?_push_size _ rfl⟩
    · cases ed
      unfold Rep at rx
      obtain ⟨a,vs,rfl,hq,hr⟩:=rx
      cases r1
      obtain ⟨its,rv,ht,hz⟩:=I4.tuple hq
      have hlen:=rv.length
      refine ⟨"tuple",_,PyProof.Rows.slot_tuple_getitem.lookup,ht.typeIs,?_⟩
      refine Ziv ht hs (by rw [List.size_toArray]; omega) ?_
      have hp:=I4.hok.fresh (a:=(s3.heap.push { cls:=.type "slice",data:=.fields #[.none,.none,.int (-1) u] }).objs.size) (Nat.le_refl _)
      refine ⟨.ref _,_,I4.laid (t':=s3.toks) (o:=.tup vs.reverse) (fun b ob q=>Heap.get?_push_of_some _ q) (Nat.le_refl _) ?_,rfl,q _ F1 _ (g1.trans (.laid0 hp)) ?_⟩
      · exact ⟨by rw [List.length_reverse]; exact hz,_,rv.reverse,IsTup.new _ _⟩
      · unfold Rep
        exact ⟨_,_,rfl,.of ZO,hr.reverse.grow (.laid0 hp)⟩
    · cases ed
  obtain ⟨T,id,hT,ht,hg⟩:=fin
  show wpAny (model X.prog X.w) X.A (subscriptTail e (.Slice none none (some (.UnaryOp .USub (.Constant (.int 1) j p1) p3)) p2) v (.ref s3.heap.objs.size)) (EP X pins σ Q) X.xe _
  exact tail_any (ops:=[v,.ref s3.heap.objs.size]) ht hT hg (by with_unfolding_all rfl)
end
noncomputable def Zms (prog:Program) (w:World) (A:Around) (op:CmpOp) (G:Heap->Prop) (P:Nat->Value->Prop) (bt:Nat->Nat->Bool):Prop:=
  ∀ i j vi vj (s:Shared) (Q:Value->Shared->Prop) (E:Value->Shared->Prop),G s.heap->P i vi->P j vj->Q (.bool (bt i j)) s->wpAny (model prog w) A (richCompare op vi vj) Q E s
section
variable {prog:Program} {w:World} {A:Around} {R:Result->Shared->Prop} {I:Addr} {fp wr:List Addr} {n:Nat} {P:Nat->Value->Prop} {St:Nat->Heap->Prop}
theorem ZfX (W:Walks prog w A.in1 I fp wr n P St) (G:Heap->Prop) (S:Addr) (hG:∀ h h',G h->(∀ b o,b ∉ wr->b≠S->h.get? b=some o->h'.get? b=some o)->G h') (bt:Nat->Nat->Bool) (hcmp:Zms prog w A.in1 .Lt G P bt) (hSf:S ∉ fp) :
    ∀ (k j:Nat) (s:Shared) (vb:Value) (c:Nat),n-(j+1)=k->j+1<=n->G s.heap->St (j+1) s.heap->P (argBest bt j) vb->s.heap.get? S=some { cls:=.type "list",dict:=none,data:=.seq #[vb,vb] c,slots:=#[] } ->
    (∀ v h' tk,P (argBest bt (n-1)) v->(∀ b o,b ∉ wr->b≠S->s.heap.get? b=some o->h'.get? b=some o)->R (.ok (.ret v)) { s with heap:=h',toks:=tk }) ->
    codeAny (model prog w) A (.builtin "min.loop" ⟨[.ref I,.none,.ref S],[]⟩) R s:=by
  have hSw:S ∉ wr:=fun h=>hSf (W.sub _ h)
  have hname:(toString "min"++toString ".loop":String)="min.loop":=by decide
  intro k
  induction k with
  | zero=>
    intro j s vb c hk hj hg hst hPb hS hR
    have hin:j+1=n:=by omega
    refine codeAny_builtin F.entry_min_loop ?_
    rw [Around.under_plainId F.plain_min_loop _]; show wpAny _ A.in1 (seqItems? (.ref S) >>= _) _ _ s; refine wpAny_bind (wpAny_seqItems hS rfl ?_)
    show wpAny _ A.in1 (tryCatch (pyNext (.ref I)) _ >>= _) _ _ s; refine wpAny_bind (wpAny_tryCatch (W.done s _ _ (hin ▸ hst) fun h' tk hk'=>?_))
    have hS':=hk' S _ hSw hS
    show wpAny _ A.in1 (updateSeq S (fun _=>#[]) >>= _) _ _ _; refine wpAny_bind (wpAny_updateSeq hS' rfl (wpAny_bind (wpAny_letGo (wpAny_pure ?_))))
    exact hR vb _ tk (by rw [<-hin]; exact hPb) fun b o hbw hbS e=>(Heap.get?_update_other _ _ (Ne.symm hbS)).trans (hk' b o hbw e)
  | succ k ih=>
    intro j s vb c hk hj hg hst hPb hS hR
    have hlt:j+1 < n:=by omega
    refine codeAny_builtin F.entry_min_loop ?_
    rw [Around.under_plainId F.plain_min_loop _]; show wpAny _ A.in1 (seqItems? (.ref S) >>= _) _ _ s; refine wpAny_bind (wpAny_seqItems hS rfl ?_)
    show wpAny _ A.in1 (tryCatch (pyNext (.ref I)) _ >>= _) _ _ s; refine wpAny_bind (wpAny_tryCatch (W.item (j+1) s _ _ hlt hst fun v h' tk hP hst' hk'=>?_))
    have hS':=hk' S _ hSw hS
    have hg':G h':=hG _ _ hg fun b o h1 _ e=>hk' b o h1 e
    show wpAny _ A.in1 (tryCatch (holding [v,v] (richCompare .Lt v vb >>= _)) _ >>= _) _ _ _; refine wpAny_bind (wpAny_tryCatch (wpAny_holding (wpAny_bind (hcmp (j+1) (argBest bt j) v vb _ _ _ hg' hP hPb ?_))))
    refine wpAny_bind (wpAny_holding (wpAny_truthy_bool (wpAny_bind (wpAny_letGo (wpAny_pure ?_)))))
    cases hb:bt (j+1) (argBest bt j) with
    | true=>
      simp only [if_true]
      refine wpAny_bind (wpAny_updateSeq hS' rfl (wpAny_bind (wpAny_letGo ?_)))
      rw [hname]
      refine wpAny_pure ⟨plainId_quiet F.plain_min_loop _,ih (j+1) _ v _ (by omega) hlt (hG _ _ hg' fun b o _ h2 e=>(Heap.get?_update_other _ _ (Ne.symm h2)).trans e) (W.frame _ _ _ hst' fun b hbf o e=>(Heap.get?_update_other _ _ (fun h:S=b=>hSf (by rw [h]; exact hbf))).trans e) (by simp only [argBest,hb,if_true]; exact hP) (Heap.get?_update_self _ hS' rfl) fun v' h'' tk'' hP' hk''=>?_⟩
      exact hR v' h'' tk'' hP' fun b o hbw hbS e=>hk'' b o hbw hbS ((Heap.get?_update_other _ _ (Ne.symm hbS)).trans (hk' b o hbw e))
    | false=>
      simp only [Bool.false_eq_true,if_false]
      refine wpAny_bind (wpAny_letGo ?_)
      rw [hname]
      refine wpAny_pure ⟨plainId_quiet F.plain_min_loop _,ih (j+1) _ vb c (by omega) hlt hg' hst' (by simp only [argBest,hb,Bool.false_eq_true,if_false]; exact hPb) hS' fun v' h'' tk'' hP' hk''=>?_⟩
      exact hR v' h'' tk'' hP' fun b o hbw hbS e=>hk'' b o hbw hbS (hk' b o hbw e)
theorem Zez (W:Walks prog w A.in1 I fp wr n P St) (G:Heap->Prop) (S:Addr) (hG:∀ h h',G h->(∀ b o,b ∉ wr->b≠S->h.get? b=some o->h'.get? b=some o)->G h') (bt:Nat->Nat->Bool) (hcmp:Zms prog w A.in1 .Lt G P bt) (hSf:S ∉ fp) (hn:0 < n) {s:Shared} {c:Nat} (hg:G s.heap) (hst:St 0 s.heap)
    (hS:s.heap.get? S=some { cls:=.type "list",dict:=none,data:=.seq #[] c,slots:=#[] })
    (hR:∀ v h' tk,P (argBest bt (n-1)) v->(∀ b o,b ∉ wr->b≠S->s.heap.get? b=some o->h'.get? b=some o)->R (.ok (.ret v)) { s with heap:=h',toks:=tk }) :
    codeAny (model prog w) A (.builtin "min.loop" ⟨[.ref I,.none,.ref S],[]⟩) R s:=by
  have hSw:S ∉ wr:=fun h=>hSf (W.sub _ h)
  have hname:(toString "min"++toString ".loop":String)="min.loop":=by decide
  refine codeAny_builtin F.entry_min_loop ?_
  rw [Around.under_plainId F.plain_min_loop _]; show wpAny _ A.in1 (seqItems? (.ref S) >>= _) _ _ s; refine wpAny_bind (wpAny_seqItems hS rfl ?_)
  show wpAny _ A.in1 (tryCatch (pyNext (.ref I)) _ >>= _) _ _ s; refine wpAny_bind (wpAny_tryCatch (W.item 0 s _ _ hn hst fun v h' tk hP hst' hk'=>?_))
  have hS':=hk' S _ hSw hS
  have hg':G h':=hG _ _ hg fun b o h1 _ e=>hk' b o h1 e
  show wpAny _ A.in1 (updateSeq S (fun _=>#[v,v]) >>= _) _ _ _; refine wpAny_bind (wpAny_updateSeq hS' rfl ?_)
  rw [hname]
  refine wpAny_pure ⟨plainId_quiet F.plain_min_loop _,ZfX W G S hG bt hcmp hSf _ 0 _ v _ rfl hn (hG _ _ hg' fun b o _ h2 e=>(Heap.get?_update_other _ _ (Ne.symm h2)).trans e) (W.frame _ _ _ hst' fun b hbf o e=>(Heap.get?_update_other _ _ (fun h:S=b=>hSf (by rw [h]; exact hbf))).trans e) hP (Heap.get?_update_self _ hS' rfl) fun v' h'' tk'' hP' hk''=>?_⟩
  exact hR v' h'' tk'' hP' fun b o hbw hbS e=>hk'' b o hbw hbS ((Heap.get?_update_other _ _ (Ne.symm hbS)).trans (hk' b o hbw e))
theorem ZfY {x:Value} {Q:Value->Shared->Prop} {E:Value->Shared->Prop} {s:Shared}
    (h:wpAny (model prog w) A.in1 (pyIter x) (fun it s₂=>∃ I fp wr n P St bt,it=.ref I/\Walks prog w A.in1 I fp wr n P St/\St 0 s₂.heap/\(∀ b∈fp,b < s₂.heap.objs.size)/\0 < n/\Zms prog w A.in1 .Lt (fun h'=>∀ b o,b ∉ wr->s₂.heap.get? b=some o->h'.get? b=some o) P bt /\
      ∀ v h' tk,P (argBest bt (n-1)) v->(∀ b o,b ∉ wr->s₂.heap.get? b=some o->h'.get? b=some o)->Q v { s₂ with heap:=h',toks:=tk }) E s) :
    wpAny (model prog w) A (call (.builtin "min") [x]) Q E s:=by
  have hname:(toString "min"++toString ".loop":String)="min.loop":=by decide
  refine call_function_tree F.kind_min F.plain_min F.entry_min (F.args_min1 _) ?_
  show wpAny _ A.in1 (Builtin.Builtins.bindParams "min" ["key","default"] 0 ⟨[],[]⟩ >>= _) _ _ s
  refine wpAny_bind (wpAny_of_eq (show Builtin.Builtins.bindParams "min" ["key","default"] 0 ⟨[],[]⟩=pure [none,none] from rfl) (wpAny_bind (wpAny_pure (wpAny_bind (wpAny_mono h (fun it s₂ h₂=>?_) fun _ _ e=>e)))))
  obtain ⟨I,fp,wr,n,P,St,bt,rfl,W,hst,hfp,hn,hcmp,hQ⟩:=h₂
  refine wpAny_bind (wpAny_newObj_type ?_)
  have hSf:s₂.heap.objs.size ∉ fp:=fun hm=>Nat.lt_irrefl _ (hfp _ hm)
  rw [hname]
  refine wpAny_pure ⟨plainId_quiet F.plain_min_loop _,Zez W (fun h'=>∀ b o,b ∉ wr->s₂.heap.get? b=some o->h'.get? b=some o) s₂.heap.objs.size (fun h1 h2 g k b o hb e=>k b o hb (Nat.ne_of_lt (Heap.lt_size e)) (g b o hb e)) bt hcmp hSf hn (fun b o _ e=>Heap.get?_push_of_some _ e) (W.frame _ _ _ hst fun b _ o e=>Heap.get?_push_of_some _ e) (Heap.get?_push_size _ rfl) fun v h' tk hP hk=>?_⟩
  exact hQ v h' tk hP fun b o hbw e=>hk b o hbw (Nat.ne_of_lt (Heap.lt_size e)) (Heap.get?_push_of_some _ e)
end
section
variable {X:Cx} {pins:List (Addr×Obj)} {σ:L2.St} {H:Hp} {s:Shared}
theorem Zhv {A':Around} {a:Addr} {vs:List V} {Q:Value->Shared->Prop} {E:Value->Shared->Prop} (hh:A'.handled=none) (I:Inv X pins σ H s) (h:SqL X.K H a vs\/SqT X.K H a vs)
    (q:∀ (it:Addr) (fp wr:List Addr) (its:Array Value) (St:Nat->Heap->Prop) (h2:Heap),Vals vs its.toList->Walks X.prog X.w A' it fp wr its.size (fun i v=>its[i]?=some v) St->St 0 h2->(∀ b∈fp,b < h2.objs.size) ->
      (∀ b o,s.heap.get? b=some o->h2.get? b=some o/\b ∉ wr)->Q (.ref it) { s with heap:=h2 }):wpAny (model X.prog X.w) A' (pyIter (.ref a)) Q E s:=by
  rcases h with h | h
  · obtain ⟨its,rv,p,hz⟩:=I.list h
    have hl:=p.isList
    have hlt:a < s.heap.objs.size:=by obtain ⟨_,e,_⟩:=hl; exact Heap.lt_size e
    refine wpAny_pyIter_list hl ?_
    refine q s.heap.objs.size [s.heap.objs.size,a] [s.heap.objs.size] its.toArray _ _ (by simpa using rv) (Walks.list hh _ a (Nat.ne_of_lt hlt) its.toArray) ⟨⟨_,Heap.get?_push_size _ rfl,rfl,rfl⟩,hl.push _⟩ (fun b hb=>?_) fun b o e=>⟨Heap.get?_push_of_some _ e,fun hb=>?_⟩
    · rw [Heap.size_push]
      rcases List.mem_cons.mp hb with rfl | hb
      · exact Nat.lt_succ_self _
      · rw [List.mem_singleton] at hb; subst hb; exact Nat.lt_succ_of_lt hlt
    · rw [List.mem_singleton] at hb; subst hb; exact absurd (Heap.lt_size e) (Nat.lt_irrefl _)
  · obtain ⟨its,rv,p,hz⟩:=I.tuple h
    have hl:s.heap.IsTuple a its.toArray:=p
    have hlt:a < s.heap.objs.size:=by obtain ⟨_,e,_⟩:=hl; exact Heap.lt_size e
    refine wpAny_pyIter_tuple hl ?_
    refine q s.heap.objs.size [s.heap.objs.size,a] [s.heap.objs.size] its.toArray _ _ (by simpa using rv) (Walks.tuple hh _ a (Nat.ne_of_lt hlt) its.toArray) ⟨⟨_,Heap.get?_push_size _ rfl,rfl,rfl⟩,hl.push _⟩ (fun b hb=>?_) fun b o e=>⟨Heap.get?_push_of_some _ e,fun hb=>?_⟩
    · rw [Heap.size_push]
      rcases List.mem_cons.mp hb with rfl | hb
      · exact Nat.lt_succ_self _
      · rw [List.mem_singleton] at hb; subst hb; exact Nat.lt_succ_of_lt hlt
    · rw [List.mem_singleton] at hb; subst hb; exact absurd (Heap.lt_size e) (Nat.lt_irrefl _)
end
noncomputable def Qf:D->Option (List D)
  | .lst xs=>some xs
  | .tup xs=>some xs
  | _=>none
theorem Zfy {K:PySem.W.Frag} {F:Fz} {H:Hp} {d:D} {xs:List D} {v:V} (h:Qf d=some xs) (r:Rep K F H d v):∃ a vs,v=.ref a/\(SqL K H a vs\/SqT K H a vs)/\RepL K F H xs vs:=by
  unfold Qf at h
  split at h
  · cases h; unfold Rep at r; obtain ⟨a,vs,rfl,_,h1,h2⟩:=r; exact ⟨a,vs,rfl,.inl h1,h2⟩
  · cases h; unfold Rep at r; obtain ⟨a,vs,rfl,h1,h2⟩:=r; exact ⟨a,vs,rfl,.inr h1,h2⟩
  · cases h
section
variable {X:Cx}
noncomputable def Ui:List D->Option (List Int)
  | []=>some []
  | .int b::r=>(Ui r).map (b::·)
  | _::_=>none
theorem We:∀ {ds:List D} {ns:List Int},Ui ds=some ns->ds=ns.map .int
  | [],ns,h=>by cases h; rfl
  | d0::ds,ns,h=>by
    cases d0 with
    | int b=>
      obtain ⟨bs',h',rfl⟩:=map_some (show (Ui ds).map (b::·)=some ns from h)
      rw [We h']; rfl
    | _=>cases h
theorem WL:∀ (ns:List Int),Ui (ns.map .int)=some ns
  | []=>rfl
  | n::ns=>by show (Ui (ns.map .int)).map (n::·)=_; rw [WL ns]; rfl
end
noncomputable def ltD:D->D->Bool
  | .int i,.int j=>decide (i < j)
  | .tup xs,.tup ys=>HT.lexLt ((Ui xs).getD []) ((Ui ys).getD [])
  | _,_=>false
noncomputable def isI:D->Bool
  | .int _=>true
  | _=>false
noncomputable def isT:D->Bool
  | .tup xs=>(Ui xs).isSome
  | _=>false
noncomputable def ZaR (ds:List D):Bool:=ds.all isI||ds.all isT
noncomputable def Ze1 (lt:D->D->Bool):D->List D->D
  | b,[]=>b
  | b,x::xs=>Ze1 lt (if lt x b then x else b) xs
theorem ZcA (lt:D->D->Bool):∀ (xs:List D) (b x:D),Ze1 lt b (xs++[x])=if lt x (Ze1 lt b xs) then x else Ze1 lt b xs
  | [],b,x=>rfl
  | y::xs,b,x=>by simp only [List.cons_append,Ze1]; exact ZcA lt xs _ x
theorem VU (lt:D->D->Bool) (d:D) (ds:List D):∀ k,k<=ds.length->(d::ds)[argBest (fun i j=>lt ((d::ds)[i]?.getD .non) ((d::ds)[j]?.getD .non)) k]?=some (Ze1 lt d (ds.take k))
  | 0,_=>by simp [argBest,Ze1]
  | k+1,hk=>by
    have ih:=VU lt d ds k (by omega)
    have e:ds.take (k+1)=ds.take k++[ds[k]]:=by rw [List.take_add_one]; simp [show k < ds.length by omega]
    rw [e,ZcA]
    unfold argBest
    have e1:(d::ds)[k+1]?=some ds[k]:=by simp [show k < ds.length by omega]
    simp only [ih,e1,Option.getD_some]
    split
    · exact e1
    · exact ih
noncomputable def Zcq:List D->Option D
  | [d]=>(Qf d).bind fun xs=>match xs with
    | []=>none
    | x::r=>if ZaR (x::r) then some (Ze1 ltD x r) else none
  | _=>none
section
variable {X:Cx} {pins:List (Addr×Obj)} {σ:L2.St} {H:Hp} {s:Shared} {F:Fz}
theorem Jq:∀ {ns:List Int} {vs:List V} {us:List Value},RepL X.K F H (ns.map .int) vs->Vals vs us->IntsAre us ns
  | [],vs,us,h,r=>by rw [List.map_nil] at h; rw [h.unnil] at r; cases r; exact .nil
  | n::ns,vs,us,h,r=>by
    rw [List.map_cons] at h
    obtain ⟨y,ys,rfl,h1,h2⟩:=h.uncons
    unfold Rep at h1
    subst h1
    cases r with
    | cons r1 r2=>
      obtain ⟨t,rfl⟩:=r1
      exact .cons n t (Jq h2 r2)
theorem Zhp {A:Around} (hu:A.units < cLine) (I:Inv X pins σ H s) {d e:D} {x y:V} {u v:Value} {h':Heap} {s':Shared} {Q:Value->Shared->Prop} {E:Value->Shared->Prop} (hk:((isI d&&isI e)||(isT d&&isT e))=true)
    (r1:Rep X.K F H d x) (r2:Rep X.K F H e y) (q1:RelV x u) (q2:RelV y v) (kp:∀ b o,s.heap.get? b=some o->s'.heap.get? b=some o) (q:Q (.bool (ltD d e)) s'):wpAny (model X.prog X.w) A (richCompare .Lt u v) Q E s':=by
  cases d with
  | int i=>cases e with
    | int j=>
      unfold Rep at r1 r2
      subst r1 r2
      obtain ⟨t,rfl⟩:=q1
      obtain ⟨t',rfl⟩:=q2
      exact HT.rcLt_int A s' i t j t' X.prog X.w E Q q
    | _=>simp [isI,isT] at hk
  | tup xs=>cases e with
    | tup ys=>
      have hk:((Ui xs).isSome&&(Ui ys).isSome)=true:=by simpa [isI,isT] using hk
      obtain ⟨k1,k2⟩:=Bool.and_eq_true_iff.mp hk
      obtain ⟨ns,en⟩:=Option.isSome_iff_exists.mp k1
      obtain ⟨ms,em⟩:=Option.isSome_iff_exists.mp k2
      have e1:=We en; have e2:=We em
      subst e1 e2
      unfold Rep at r1 r2
      obtain ⟨a,vs,rfl,h1,l1⟩:=r1
      obtain ⟨b,ws,rfl,h2,l2⟩:=r2
      cases q1; cases q2
      obtain ⟨its,rv,p,_⟩:=I.tuple h1
      obtain ⟨its2,rv2,p2,_⟩:=I.tuple h2
      have p':IsTup s'.heap a its.toArray:=by obtain ⟨o,ho,r⟩:=p; exact ⟨o,kp a o ho,r⟩
      have p2':IsTup s'.heap b its2.toArray:=by obtain ⟨o,ho,r⟩:=p2; exact ⟨o,kp b o ho,r⟩
      have q':Q (.bool (HT.lexLt ((Ui (ns.map .int)).getD []) ((Ui (ms.map .int)).getD []))) s':=q
      rw [WL,WL] at q'
      exact HT.lt_tupInts (ns:=ns) (ms:=ms) p' p2' (by simpa using Jq l1 rv) (by simpa using Jq l2 rv2) hu q'
    | _=>simp [isI,isT] at hk
  | _=>simp [isI,isT] at hk
theorem ZeQ {ds:List D} (h:ZaR ds=true) {i j:Nat} {d e:D} (h1:ds[i]?=some d) (h2:ds[j]?=some e):((isI d&&isI e)||(isT d&&isT e))=true:=by
  have m1:=List.mem_of_getElem? h1
  have m2:=List.mem_of_getElem? h2
  rcases Bool.or_eq_true_iff.mp h with h | h
  · have:=List.all_eq_true.mp h
    rw [this d m1,this e m2]; rfl
  · have:=List.all_eq_true.mp h
    rw [this d m1,this e m2]; simp
theorem ZgG (hc:X.calm=true) (hu:X.A.units+64 < cLine):ZbN X (.builtin "min") Zcq:=by
  intro pins s σ H vs us Q I r h
  obtain ⟨xs,F,d,r1,e,q⟩:=h
  unfold Zcq at e
  split at e
  · rename_i d0
    obtain ⟨ys,es,e⟩:=bind_some e
    cases ys with
    | nil=>cases e
    | cons y ys=>
      have e:(if ZaR (y::ys)=true then some (Ze1 ltD y ys) else none)=some d:=e
      obtain ⟨hca,rfl⟩:=Z8 e
      obtain ⟨v,rfl,rv0⟩:=UX r1
      obtain ⟨a,ws,rfl,hq,hr⟩:=Zfy es rv0
      obtain ⟨u,rfl,ru⟩:=ZcU r
      cases ru
      have hu':X.A.in1.units < cLine:=by show X.A.units+1 < cLine; omega
      refine ZfY (Zhv (A':=X.A.in1) (I.ok.hd hc) I hq fun it fp wr its St h2 rv W st fpl kp=>⟨it,fp,wr,its.size,_,St,fun i j=>ltD ((y::ys)[i]?.getD .non) ((y::ys)[j]?.getD .non),rfl,W,st,fpl,?_,fun i j vi vj s' Q' E' hG hi hj hQ=>?_,fun v h' tk hv hk=>?_⟩)
      · have h1:=hr.length; have h2:=rv.length; simp at h1 h2; omega
      · have gt:∀ {i:Nat} {v:Value},its[i]?=some v->∃ d x,(y::ys)[i]?=some d/\Rep X.K F H d x/\RelV x v:=fun {i v} hv=>by
          have hi:i < (y::ys).length:=by
            have:=(Array.getElem?_eq_some_iff.mp hv).1
            rw [hr.length,rv.length]; simpa using this
          obtain ⟨x,ex,rx⟩:=hr.get (show (y::ys)[i]?=some (y::ys)[i] by simp [hi])
          obtain ⟨u,eu,ru⟩:=rv.get ex
          have:v=u:=by rw [Array.getElem?_toList] at eu; rw [hv] at eu; exact Option.some.inj eu
          subst this
          exact ⟨_,x,by simp [hi],rx,ru⟩
        obtain ⟨d1,x1,e1,p1,q1⟩:=gt hi
        obtain ⟨d2,x2,e2,p2,q2⟩:=gt hj
        have hQ:Q' (.bool (ltD ((y::ys)[i]?.getD .non) ((y::ys)[j]?.getD .non))) s':=hQ
        rw [e1,e2] at hQ
        exact Zhp (h':=h2) hu' I (ZeQ hca e1 e2) p1 p2 q1 q2 (fun b o e=>hG b o (kp b o e).2 (kp b o e).1) hQ
      · have hz:its.size-1=ys.length:=by have h1:=hr.length; have h2:=rv.length; simp at h1 h2; omega
        have hb:=VU ltD y ys ys.length (Nat.le_refl _)
        rw [List.take_length] at hb
        rw [hz] at hv
        obtain ⟨x,ex,rx⟩:=hr.get hb
        obtain ⟨u,eu,ru⟩:=rv.get ex
        have:v=u:=by rw [Array.getElem?_toList] at eu; rw [hv] at eu; exact Option.some.inj eu
        subst this
        exact ⟨x,H,I.kept (t':=tk) fun b o e=>hk b o (kp b o e).2 (kp b o e).1,ru,q _ F H .refl rx⟩
  · cases e
noncomputable def Zcj (x:D):List D->Option Nat
  | []=>none
  | y::ys=>if deq y x then some 0 else (Zcj x ys).map (·+1)
theorem ZaO (x:D):∀ {ys:List D} {j:Nat},Zcj x ys=some j->(∃ y,ys[j]?=some y/\deq y x=true)/\∀ (m:Nat) y,m < j->ys[m]?=some y->deq y x=false
  | [],j,h=>by cases h
  | y::ys,j,h=>by
    unfold Zcj at h
    by_cases c:deq y x=true
    · rw [if_pos c] at h
      cases h
      exact ⟨⟨y,rfl,c⟩,fun m z hm=>absurd hm (Nat.not_lt_zero _)⟩
    · rw [if_neg c] at h
      obtain ⟨k,hk,rfl⟩:=map_some h
      obtain ⟨⟨z,h1,h2⟩,h3⟩:=ZaO x hk
      refine ⟨⟨z,by simpa using h1,h2⟩,fun m z hm hz=>?_⟩
      cases m with
      | zero=>simp at hz; subst hz; simpa using c
      | succ m=>exact h3 m z (by omega) (by simpa using hz)
end
section
variable {X:Cx}
noncomputable def ZeM:D->D->Option D
  | .lst xs,x=>if okD x&&okD (.lst xs)&&decide (xs.length<=lim) then (Zcj x xs).map fun (j:Nat)=>D.int (j:Int) else none
  | _,_=>none
noncomputable def Zne (K:PySem.W.Frag):V->List V->Hp->VK->Prop:=fun v vs H Q=>∃ x y F d u,vs=[u]/\Rep K F H x v/\Rep K F H y u/\ZeM x y=some d/\∀ w F' H',Grow F H F' H'->Rep K F' H' d w->Q w H'
theorem ZbP:∀ (ds:List D) (i:Nat),(Qo ds)[i]?=(ds[i]?).map Jx
  | [],i=>by simp [Qo]
  | d::ds,0=>by simp [Qo]
  | d::ds,i+1=>by simp [Qo,ZbP ds i]
theorem VF {h:Heap}:∀ {vs:List Value} {xs:List PyData} {as:List Addr},ReadsAll h vs xs as->PyData.canLayAll0 xs=true->∀ (i:Nat) v,vs[i]?=some v->∃ d,xs[i]?=some d/\SeqAt.readOf h v=d
  | _,_,_,.nil,_,i,v,e=>by simp at e
  | _,_,_,.cons r1 r2,hc,i,v,e=>by
    have hc':=(by simpa [PyData.canLayAll0] using hc:_/\_)
    cases i with
    | zero=>simp at e; subst e; exact ⟨_,rfl,SeqAt.readOf_eq hc'.1 r1⟩
    | succ i=>obtain ⟨d,e1,e2⟩:=VF r2 hc'.2 i v (by simpa using e); exact ⟨d,by simpa using e1,e2⟩
theorem Zho (hu:X.A.units+64 < cLine):MtR X "list.index" (Zne X.K):=by
  intro pins s σ H x xs v us Q I rx rs h
  obtain ⟨dx,dy,F,d,u,rfl,r1,r2,e,q⟩:=h
  cases dx with
  | lst ds=>
    have e:(if (okD dy&&okD (.lst ds)&&decide (ds.length<=lim))=true then (Zcj dy ds).map fun (j:Nat)=>D.int (j:Int) else none)=some d:=e
    by_cases hk:(okD dy&&okD (.lst ds)&&decide (ds.length<=lim))=true
    · rw [if_pos hk] at e
      obtain ⟨j,ej,rfl⟩:=map_some e
      obtain ⟨hk,hz⟩:=Bool.and_eq_true_iff.mp hk
      obtain ⟨k1,k2⟩:=Bool.and_eq_true_iff.mp hk
      have hz:ds.length<=lim:=of_decide_eq_true hz
      obtain ⟨w,rfl,rw'⟩:=ZcU rs
      obtain ⟨bs,a2⟩:=Qa I r2 rw'
      unfold Rep at r1
      obtain ⟨a,vs,rfl,hf,hq,hr⟩:=r1
      cases rx
      obtain ⟨its,rv,pl,_⟩:=I.list hq
      obtain ⟨as,ra⟩:=J9 I hr rv
      have d1:=okD.dep k1; have c1:=okD.can k1
      have c2:=okD.can k2
      simp only [Jx,PyData.canLay0] at c2
      obtain ⟨⟨cls,dd,data,sl⟩,ho,hc,n,hd⟩:=pl.isList
      simp only at hc hd
      subst hc hd
      have hlen:its.length=ds.length:=by rw [<-rv.length,hr.length]
      obtain ⟨⟨y,y1,y2⟩,no⟩:=ZaO dy ej
      have hj:j < ds.length:=(List.getElem?_eq_some_iff.mp y1).1
      have rd:∀ (i:Nat) (hi:i < its.toArray.size) y,ds[i]?=some y->PyData.eqv (SeqAt.readOf s.heap its.toArray[i]) (Jx dy)=deq y dy:=fun i hi y ey=>by
        obtain ⟨d',e1,e2⟩:=VF ra c2 i its.toArray[i] (by simp)
        rw [ZbP,ey] at e1
        cases e1
        rw [e2]; rfl
      have hm:min (PyData.depthAll (Qo ds)) (Jx dy).depth<=30:=Nat.le_trans (Nat.min_le_right _ _) d1
      refine call_meets PySem.F.slot_list_index ⟨_,ho,rfl⟩ PySem.F.entry_list_index (PySem.F.args_list_index_2 _ _)
        (SeqAt.list_indexAt a its.toArray n dd sl w (fun y=>PyData.eqv (SeqAt.readOf s.heap y) (Jx dy)) j (by simp; omega) (by unfold lim at hz; omega) (by rw [rd j (by simp; omega) y y1]; exact y2) fun m hm hlt=>?_)
        ⟨ho,SeqAt.items_eqAt (by simpa using ra) a2 c2 c1 (by omega),.int j,H,I.tok _,⟨_,rfl⟩,q _ F H .refl (Yq _)⟩
      have hml:m < ds.length:=by simp at hm; omega
      rw [rd m hm ds[m] (by simp [hml])]
      exact no m _ hlt (by simp [hml])
    · rw [if_neg hk] at e; cases e
  | _=>cases e
theorem ZhF {o e:Expr} {f g:DE} {apos cpos:Pos} (hu:X.A.units+64 < cLine) (ho:ED X o f) (he:ED X e g)
    (hbase:attributeBase o "index" X.env (eval o X.env)=eval o X.env:=by rfl)
    (hfew:((backTo cpos (starEach [e] X.env)).all (fun x=>!x.1)&&(backToKw cpos (keywordEach [] X.env)).all (fun x=>x.1.isSome)
      && decide ([e].length+([]:List Keyword).length+(if ([]:List Keyword).isEmpty then 0 else 1) < 30))=true:=by rfl)
    (hline:(apos.endLine==cpos.line)=true:=by rfl) (hs:starEach [e] X.env=(false,eval e X.env)::starEach [] X.env:=by rfl) (hplain:(backTo cpos (starEach [] X.env)).any (·.1)=false:=by rfl) :
    ED X (.Call (.Attribute o "index" apos) [e] [] cpos) (Zh ZeM f g):=
  PE.imp (Zi0 PySem.F.plainAttrs_list PySem.F.slot_list_index PySem.F.type_list_index (Zho hu) ho (Zb he Zf hs) hbase hfew hline hs hplain) fun σ H Q zq=>by
    obtain ⟨ρ,F0,H0,F,d,ok,e,q⟩:=zq
    obtain ⟨x,ex,e⟩:=bind_some e
    obtain ⟨y,ey,e⟩:=bind_some e
    refine ⟨ρ,F0,H0,F,x,ok,ex,fun v F1 H1 g1 r1=>?_⟩
    cases x with
    | lst ds=>
      have r1':=r1
      unfold Rep at r1
      obtain ⟨a,vs,rfl,hf,hq,hr⟩:=r1
      refine ⟨.inl ⟨rfl,vs,hq⟩,ρ,F0,H0,F1,[y],ok.grow g1,by simp [Zc,Zm,ey],fun ws F2 H2 g2 r2=>?_⟩
      obtain ⟨u,rfl,ru⟩:=UX r2
      exact ⟨_,_,F2,d,u,rfl,r1'.grow g2,ru,e,fun w F3 H3 g3 r3=>q w F3 H3 (g1.trans (g2.trans g3)) r3⟩
    | _=>cases e
end
end L3
set_option linter.unusedVariables false
set_option linter.unusedSimpArgs false
namespace SetTab
open PySem PySem.SetTable
noncomputable def Ris (xs:List Nat):Prop:=xs.Pairwise (· < ·)
theorem Ris.get {xs:List Nat} (h:Ris xs) {i j:Nat} (hij:i < j) (hj:j < xs.length):xs[i]'(by omega) < xs[j]:=List.pairwise_iff_getElem.mp h i j (by omega) hj hij
theorem ZhL {xs:Array Nat} (h:Ris xs.toList) (j:Nat):∀ (fuel lo hi:Nat),hi-lo<=fuel->lo<=hi->hi<=xs.size->(∀ a (ha:a < xs.size),a < lo->xs[a] < j)->(∀ a (ha:a < xs.size),hi<=a->j<=xs[a]) ->
    ∃ r,below.go xs j fuel lo hi=r/\r<=xs.size/\(∀ a (ha:a < xs.size),a < r->xs[a] < j)/\(∀ a (ha:a < xs.size),r<=a->j<=xs[a]):=by
  intro fuel
  induction fuel with
  | zero=>
    intro lo hi h1 h2 h3 h4 h5
    exact ⟨lo,rfl,by omega,h4,fun a ha hl=>h5 a ha (by omega)⟩
  | succ fuel ih=>
    intro lo hi h1 h2 h3 h4 h5
    unfold below.go
    by_cases c:lo < hi
    · rw [if_pos c]
      have hm:(lo+hi) / 2 < xs.size:=by omega
      have e:xs.getD ((lo+hi) / 2) j=xs[(lo+hi) / 2]:=by simp [Array.getD,hm]
      show ∃ r,(if xs.getD ((lo+hi) / 2) j < j then below.go xs j fuel ((lo+hi) / 2+1) hi else below.go xs j fuel lo ((lo+hi) / 2))=r/\_
      rw [e]
      by_cases c2:xs[(lo+hi) / 2] < j
      · rw [if_pos c2]
        refine ih _ _ (by omega) (by omega) h3 (fun a ha hl=>?_) h5
        by_cases e2:a=(lo+hi) / 2
        · subst e2; exact c2
        · have:=h.get (i:=a) (j:=(lo+hi) / 2) (by omega) (by simpa using hm)
          simp only [Array.getElem_toList] at this
          omega
      · rw [if_neg c2]
        refine ih _ _ (by omega) (by omega) (by omega) h4 (fun a ha hl=>?_)
        by_cases e2:a=(lo+hi) / 2
        · subst e2; omega
        · have:=h.get (i:=(lo+hi) / 2) (j:=a) (by omega) (by simpa using ha)
          simp only [Array.getElem_toList] at this
          omega
    · rw [if_neg c]
      exact ⟨lo,rfl,by omega,h4,fun a ha hl=>h5 a ha (by omega)⟩
theorem VC {xs:Array Nat} (h:Ris xs.toList) (j:Nat):below xs j<=xs.size/\(∀ a (ha:a < xs.size),a < below xs j->xs[a] < j)/\(∀ a (ha:a < xs.size),below xs j<=a->j<=xs[a]):=by
  obtain ⟨r,e,h1,h2,h3⟩:=ZhL h j xs.size 0 xs.size (by omega) (by omega) (Nat.le_refl _) (fun a _ hl=>by omega) (fun a ha hl=>by omega)
  have e':below xs j=r:=e
  rw [e']; exact ⟨h1,h2,h3⟩
theorem ZbE {xs:Array Nat} (h:Ris xs.toList) {i:Nat} (hi:i < xs.size):below xs xs[i]=i:=by
  obtain ⟨h1,h2,h3⟩:=VC h xs[i]
  rcases Nat.lt_trichotomy (below xs xs[i]) i with c | c | c
  · have a:=h3 (below xs xs[i]) (by omega) (Nat.le_refl _)
    have b:=h.get (i:=below xs xs[i]) (j:=i) c (by simpa using hi)
    simp only [Array.getElem_toList] at b
    omega
  · exact c
  · have:=h2 i hi c; omega
theorem Qw {t:SetTable} (h:Ris t.place.toList) {i:Nat} (hi:i < t.place.size):t.slot t.place[i]=.live i:=by
  unfold slot
  simp only [ZbE h hi]
  have:t.place[i]?=some t.place[i]:=by simp [hi]
  rw [this]; simp
theorem Zfk {t:SetTable} (h:Ris t.place.toList) (hd:t.dummies=#[]) {j:Nat} (hj:j ∉ t.place.toList):t.slot j=.empty:=by
  unfold slot
  have n1:¬ (t.place[below t.place j]?==some j)=true:=by
    intro e
    have e':t.place[below t.place j]?=some j:=by simpa using e
    obtain ⟨hl,e2⟩:=Array.getElem?_eq_some_iff.mp e'
    exact hj (by rw [<-e2]; exact Array.getElem_mem_toList hl)
  simp only [if_neg n1]
  have n2:has t.dummies j=false:=by rw [hd]; simp [has]
  rw [n2]; simp
noncomputable def adv (mask:Nat) (p:Probe):Probe:=
  if p.more > 0 then { p with j:=p.j+1,more:=p.more-1 } else
  { p with j:=(leap mask p.i p.perturb).1,more:=runEnd mask (leap mask p.i p.perturb).1-(leap mask p.i p.perturb).1,i:=(leap mask p.i p.perturb).1,perturb:=(leap mask p.i p.perturb).2 }
theorem ZeS (t:SetTable) (p:Probe):t.advance p=adv t.mask p:=rfl
noncomputable def st (mask:Nat) (h:Int):Probe:={ j:=bits h % (mask+1),more:=runEnd mask (bits h % (mask+1))-bits h % (mask+1),i:=bits h % (mask+1),perturb:=bits h,dummy:=none }
noncomputable def nth (mask:Nat) (p:Probe):Nat->Probe
  | 0=>p
  | k+1=>adv mask (nth mask p k)
theorem JQ (mask:Nat) (p:Probe) (a:Nat):∀ b,nth mask p (a+b)=nth mask (nth mask p a) b
  | 0=>rfl
  | b+1=>by show adv mask (nth mask p (a+b))=adv mask (nth mask (nth mask p a) b); rw [JQ mask p a b]
structure Run (mask:Nat) (p:Probe):Prop where
  il:p.i<=mask
  jm:p.j+p.more=runEnd mask p.i
  ij:p.i<=p.j
  dn:p.dummy=none
theorem Y9 {mask i:Nat} (h:i<=mask):i<=runEnd mask i/\runEnd mask i<=mask/\runEnd mask i<=i+9:=by unfold runEnd; split <;> omega
theorem Run.adv {mask:Nat} {p:Probe} (h:Run mask p):Run mask (adv mask p):=by
  unfold SetTab.adv
  have r:=Y9 h.il
  by_cases c:p.more > 0
  · rw [if_pos c]; exact ⟨h.il,by have:=h.jm; simp only; omega,by have:=h.ij; simp only; omega,h.dn⟩
  · rw [if_neg c]
    have l:(leap mask p.i p.perturb).1<=mask:=by unfold leap; have:=Nat.mod_lt (p.i*5+1+p.perturb / 32) (show 0 < mask+1 by omega); simp only; omega
    have r2:=Y9 l
    exact ⟨l,by simp only; omega,Nat.le_refl _,h.dn⟩
theorem Run.nth {mask:Nat} {p:Probe} (h:Run mask p):∀ k,Run mask (nth mask p k)
  | 0=>h
  | k+1=>(Run.nth h k).adv
theorem Run.jle {mask:Nat} {p:Probe} (h:Run mask p):p.j<=mask:=by have:=Y9 h.il; have:=h.jm; omega
theorem Run.st (mask:Nat) (h:Int):Run mask (st mask h):=by
  have l:bits h % (mask+1)<=mask:=by have:=Nat.mod_lt (bits h) (show 0 < mask+1 by omega); omega
  have r:=Y9 l
  exact ⟨l,by show _+_=_; simp only [SetTab.st]; omega,Nat.le_refl _,rfl⟩
theorem Zdh {mask:Nat}:∀ (k:Nat) {p:Probe},Run mask p->k<=p.more->nth mask p k={ p with j:=p.j+k,more:=p.more-k }
  | 0,p,_,_=>rfl
  | k+1,p,h,hk=>by
    show SetTab.adv mask (nth mask p k)=_
    rw [Zdh k h (by omega)]
    unfold SetTab.adv
    rw [if_pos (by simp only; omega)]
    simp only [Probe.mk.injEq,and_true,true_and]
    omega
theorem Zbj {mask:Nat} {p:Probe} (h:Run mask p):nth mask p (p.more+1) =
    { p with j:=(leap mask p.i p.perturb).1,more:=runEnd mask (leap mask p.i p.perturb).1-(leap mask p.i p.perturb).1,i:=(leap mask p.i p.perturb).1,perturb:=(leap mask p.i p.perturb).2 }:=by
  show SetTab.adv mask (nth mask p p.more)=_
  rw [Zdh p.more h (Nat.le_refl _)]
  unfold SetTab.adv
  rw [if_neg (by simp)]
noncomputable def lcg (M i:Nat):Nat:=(i*5+1) % M
noncomputable def Zah (M i:Nat):Nat->Nat
  | 0=>i
  | k+1=>lcg M (Zah M i k)
theorem ZmK {mask:Nat}:∀ (m:Nat) {p:Probe},Run mask p->p.perturb=0->∃ k,k<=10*m/\Run mask (nth mask p k)/\(nth mask p k).i=Zah (mask+1) p.i m/\(nth mask p k).perturb=0/\(0 < m->(nth mask p k).j=(nth mask p k).i)
  | 0,p,h,e=>⟨0,by omega,h,rfl,e,by omega⟩
  | m+1,p,h,e=>by
    obtain ⟨k,hk,r,ei,ep,_⟩:=ZmK m h e
    refine ⟨k+((nth mask p k).more+1),?_,Run.nth h _,?_⟩
    · have:=Y9 r.il; have:=r.jm; have:=r.ij; omega
    · rw [JQ,Zbj r]
      simp only [leap,ep,ei]
      refine ⟨?_,by simp,fun _=>trivial⟩
      show (Zah (mask+1) p.i m*5+1+0 / 32) % (mask+1)=lcg (mask+1) (Zah (mask+1) p.i m)
      unfold lcg; simp
theorem ZmJ {mask:Nat}:∀ (m:Nat) {p:Probe},Run mask p->p.perturb < 32 ^ m->∃ k,k<=10*m/\Run mask (nth mask p k)/\(nth mask p k).perturb=0
  | 0,p,h,e=>⟨0,by omega,h,by simp at e; exact e⟩
  | m+1,p,h,e=>by
    have lp:(nth mask p (p.more+1)).perturb=p.perturb / 32:=by rw [Zbj h]; rfl
    have hr:=Run.nth h (p.more+1)
    obtain ⟨k,hk,r,ep⟩:=ZmJ m hr (by rw [lp]; exact Nat.div_lt_of_lt_mul (by rw [Nat.pow_succ] at e; omega))
    refine ⟨(p.more+1)+k,?_,by rw [JQ]; exact r,by rw [JQ]; exact ep⟩
    have:=Y9 h.il; have:=h.jm; have:=h.ij; omega
noncomputable def ZeX (mask:Nat):Prop:=∀ i,i<=mask->∀ j,j<=mask->∃ m,0 < m/\m<=mask+1/\Zah (mask+1) i m=j
theorem Zmi {mask:Nat} (F:ZeX mask) {p:Probe} (h:Run mask p) (hp:p.perturb < 2 ^ 64) {s:Nat} (hs:s<=mask):∃ k,k < 10*turns mask/\(nth mask p k).j=s:=by
  obtain ⟨k1,h1,r1,e1⟩:=ZmJ 13 h (Nat.lt_of_lt_of_le hp (by decide))
  obtain ⟨m,m0,m1,em⟩:=F _ r1.il s hs
  obtain ⟨k2,h2,r2,ei,_,ej⟩:=ZmK m r1 e1
  refine ⟨k1+k2,?_,?_⟩
  · unfold turns; omega
  · rw [JQ,ej m0,ei,em]
theorem ZgJ (h:Int):bits h < 2 ^ 64:=by
  unfold bits
  have:=Int.emod_lt_of_pos h (show (0:Int) < 2 ^ 64 by decide)
  have:=Int.emod_nonneg h (show (2 ^ 64:Int)≠0 by decide)
  omega
noncomputable def ZfL (M:Nat):Nat->Nat->List Nat
  | 0,_=>[]
  | k+1,i=>i::ZfL M k (lcg M i)
theorem Zcc (M i:Nat):∀ k,Zah M i (k+1)=Zah M (lcg M i) k
  | 0=>rfl
  | k+1=>by show lcg M (Zah M i (k+1))=lcg M (Zah M (lcg M i) k); rw [Zcc M i k]
noncomputable def Zma (mask:Nat):Bool:=((List.range (mask+1)).all fun j=>(ZfL (mask+1) (mask+1) 0).contains j)&&Zah (mask+1) 0 (mask+1)==0
theorem Zb8 (M:Nat):∀ (k i j:Nat),j∈ZfL M k i->∃ m,m < k/\Zah M i m=j
  | 0,i,j,h=>by simp [ZfL] at h
  | k+1,i,j,h=>by
    unfold ZfL at h
    rcases List.mem_cons.mp h with e | h
    · exact ⟨0,by omega,e.symm⟩
    · obtain ⟨m,hm,e⟩:=Zb8 M k _ _ h
      exact ⟨m+1,by omega,by rw [Zcc]; exact e⟩
theorem Wd (M i a:Nat):∀ b,Zah M i (a+b)=Zah M (Zah M i a) b
  | 0=>rfl
  | b+1=>by show lcg M (Zah M i (a+b))=lcg M (Zah M (Zah M i a) b); rw [Wd M i a b]
theorem Zdn {mask:Nat} (h:Zma mask=true):ZeX mask:=by
  have hh:=Bool.and_eq_true_iff.mp h
  have h0:Zah (mask+1) 0 (mask+1)=0:=by simpa using hh.2
  have get:∀ j,j<=mask->∃ m,m < mask+1/\Zah (mask+1) 0 m=j:=fun j hj=>by
    have h2:=List.all_eq_true.mp hh.1 j (List.mem_range.mpr (by omega))
    exact Zb8 _ _ _ _ (List.contains_iff_mem.mp h2)
  intro i hi j hj
  obtain ⟨a,ha,ea⟩:=get i hi
  obtain ⟨b,hb,eb⟩:=get j hj
  by_cases c:a < b
  · refine ⟨b-a,by omega,by omega,?_⟩
    rw [<-ea,<-Wd,show a+(b-a)=b by omega,eb]
  · refine ⟨mask+1-a+b,by omega,by omega,?_⟩
    rw [<-ea,<-Wd,show a+(mask+1-a+b)=(mask+1)+b by omega,Wd,h0,eb]
theorem Zk4:ZeX 7:=Zdn (by decide +kernel)
theorem Zk5:ZeX 31:=Zdn (by decide +kernel)
theorem Zjr:ZeX 127:=Zdn (by decide +kernel)
noncomputable def Reach (mask:Nat) (L:List Nat) (h:Int) (s:Nat):Prop:=∃ k,(nth mask (st mask h) k).j=s/\∀ k',k' < k->(nth mask (st mask h) k').j∈L
theorem Reach.mono {mask:Nat} {L L':List Nat} {h:Int} {s:Nat} (r:Reach mask L h s) (hs:∀ x∈L,x∈L'):Reach mask L' h s:=
  let ⟨k,e,a⟩:=r; ⟨k,e,fun k' hk=>hs _ (a k' hk)⟩
structure TI {α:Type} (t:SetTable) (es:Array (Int×α)):Prop where
  size:t.place.size=es.size
  dm:t.dummies=#[]
  ris:Ris t.place.toList
  le:∀ s∈t.place.toList,s<=t.mask
  full:ZeX t.mask
  room:es.size<=t.mask
  odd:t.mask % 2=1
  reach:∀ i (h1:i < t.place.size) (h2:i < es.size),Reach t.mask t.place.toList es[i].1 t.place[i]
theorem Ris.nodup {xs:List Nat} (h:Ris xs):xs.Nodup:=List.Pairwise.imp (fun h=>Nat.ne_of_lt h) h
theorem ZaN {L:List Nat} {mask:Nat} (nd:L.Nodup) (hl:L.length<=mask):∃ s,s<=mask/\s ∉ L:=by
  apply Classical.byContradiction
  intro h
  have all:∀ s,s<=mask->s∈L:=fun s hs=>Classical.byContradiction fun n=>h ⟨s,hs,n⟩
  have:(List.range (mask+1)).length<=L.length:=by
    have pm:(List.range (mask+1)).Perm (L.filter fun s=>decide (s<=mask)):=(List.perm_ext_iff_of_nodup List.nodup_range (nd.sublist List.filter_sublist)).mpr fun a=>by
      rw [List.mem_range,List.mem_filter]
      exact ⟨fun h=>⟨all a (by omega),by simp; omega⟩,fun h=>by have:=h.2; simp at this; omega⟩
    rw [pm.length_eq]
    exact List.length_filter_le _ _
  rw [List.length_range] at this
  omega
theorem ZeG {L:List Nat} {mask:Nat} (F:ZeX mask) (nd:L.Nodup) (hl:L.length<=mask) {p:Probe} (h:Run mask p) (hp:p.perturb < 2 ^ 64) :
    ∃ m,m < 10*turns mask/\(nth mask p m).j ∉ L/\∀ m',m' < m->(nth mask p m').j∈L:=by
  obtain ⟨s,hs,ns⟩:=ZaN nd hl
  obtain ⟨k,hk,e⟩:=Zmi F h hp hs
  have ex:∃ m,(nth mask p m).j ∉ L:=⟨k,by rw [e]; exact ns⟩
  have dec:∀ b:Nat,(∀ m',m' < b->(nth mask p m').j∈L)\/∃ m,m < b/\(nth mask p m).j ∉ L/\∀ m',m' < m->(nth mask p m').j∈L:=by
    intro b
    induction b with
    | zero=>left; intro m' h; omega
    | succ b ih=>
      rcases ih with ih | ⟨m,h1,h2,h3⟩
      · by_cases c:(nth mask p b).j∈L
        · left; intro m' hm
          by_cases e:m'=b
          · rw [e]; exact c
          · exact ih m' (by omega)
        · right; exact ⟨b,by omega,c,ih⟩
      · right; exact ⟨m,by omega,h2,h3⟩
  rcases dec (k+1) with h1 | ⟨m,h1,h2,h3⟩
  · have:=h1 k (by omega)
    rw [e] at this
    exact absurd this ns
  · exact ⟨m,by omega,h2,h3⟩
theorem Zhh {α:Type} {t:SetTable} {es:Array (Int×α)} (I:TI t es) (hashAt:Nat->Int) (h:Int):∀ (m:Nat) {p:Probe} {fuel:Nat},Run t.mask p->m < fuel->(nth t.mask p m).j ∉ t.place.toList->(∀ m',m' < m->(nth t.mask p m').j∈t.place.toList) ->
    (probe.go t hashAt h fuel p=some (.empty (nth t.mask p m).j none)/\∀ m',m' < m->∀ i (hi:i < t.place.size),t.place[i]=(nth t.mask p m').j->hashAt i≠h) \/
    (∃ m1 i,m1 < m/\∃ hi:i < t.place.size,t.place[i]=(nth t.mask p m1).j/\hashAt i=h/\probe.go t hashAt h fuel p=some (.candidate (nth t.mask p m1).j i (nth t.mask p (m1+1))) /\
      ∀ m',m' < m1->∀ i (hi:i < t.place.size),t.place[i]=(nth t.mask p m').j->hashAt i≠h):=by
  intro m
  induction m with
  | zero=>
    intro p fuel r hf he ha
    obtain ⟨f,rfl⟩:∃ f,fuel=f+1:=⟨fuel-1,by omega⟩
    left
    refine ⟨?_,fun m' h=>by omega⟩
    unfold probe.go
    have e:t.slot p.j=.empty:=Zfk I.ris I.dm he
    rw [e]
    show some (Met.empty p.j p.dummy)=_
    rw [r.dn]; rfl
  | succ m ih=>
    intro p fuel r hf he ha
    obtain ⟨f,rfl⟩:∃ f,fuel=f+1:=⟨fuel-1,by omega⟩
    have hl:p.j∈t.place.toList:=ha 0 (by omega)
    obtain ⟨i,hi,ei⟩:=List.mem_iff_getElem.mp hl
    have hi':i < t.place.size:=by simpa using hi
    have ei':t.place[i]=p.j:=by simpa using ei
    have es:t.slot p.j=.live i:=by rw [<-ei']; exact Qw I.ris hi'
    have sh:∀ q,nth t.mask p (q+1)=nth t.mask (adv t.mask p) q:=fun q=>by rw [Nat.add_comm,JQ]; rfl
    unfold probe.go
    rw [es]
    dsimp only
    by_cases c:hashAt i=h
    · right
      refine ⟨0,i,by omega,hi',ei',c,?_,fun m' h=>by omega⟩
      rw [if_pos (by simpa using c)]; rfl
    · rw [if_neg (by simpa using c)]
      have uniq:∀ i2 (hi2:i2 < t.place.size),t.place[i2]=p.j->i2=i:=fun i2 hi2 e2=>by
        have a:=ZbE I.ris hi2; have b:=ZbE I.ris hi'
        rw [e2] at a; rw [ei'] at b; rw [<-a,b]
      rw [ZeS]
      rcases ih (p:=adv t.mask p) (fuel:=f) r.adv (by omega) (by rw [<-sh]; exact he) (fun m' hm=>by rw [<-sh]; exact ha _ (by omega)) with ⟨e,n⟩ | ⟨m1,i1,h1,hi1,e1,e2,e3,n⟩
      · left
        refine ⟨by rw [e,sh],fun m' hm i2 hi2 e2=>?_⟩
        cases m' with
        | zero=>have:=uniq i2 hi2 e2; rw [this]; exact c
        | succ m'=>exact n m' (by omega) i2 hi2 (by rw [e2,sh])
      · right
        refine ⟨m1+1,i1,by omega,hi1,by rw [e1,sh],e2,by rw [e3,sh,sh],fun m' hm i2 hi2 e2=>?_⟩
        cases m' with
        | zero=>have:=uniq i2 hi2 e2; rw [this]; exact c
        | succ m'=>exact n m' (by omega) i2 hi2 (by rw [e2,sh])
theorem toList_insertAt {α:Type} (xs:Array α) (p:Nat) (x:α):(insertAt xs p x).toList=xs.toList.take p++x::xs.toList.drop p:=by
  unfold insertAt
  simp [List.take_of_length_le]
theorem Zen {xs:Array Nat} (h:Ris xs.toList) {j:Nat} (hj:j ∉ xs.toList):Ris (insertAt xs (below xs j) j).toList:=by
  rw [toList_insertAt]
  obtain ⟨h1,h2,h3⟩:=VC h j
  unfold Ris
  rw [List.pairwise_append]
  refine ⟨h.sublist (List.take_sublist _ _),?_,?_⟩
  · refine List.Pairwise.cons (fun b hb=>?_) (h.sublist (List.drop_sublist _ _))
    obtain ⟨i,hi,e⟩:=List.mem_iff_getElem.mp hb
    rw [List.getElem_drop] at e
    simp only [List.length_drop,Array.length_toList] at hi
    have:=h3 (below xs j+i) (by omega) (by omega)
    have ne:b≠j:=fun z=>hj (z ▸ List.mem_of_mem_drop hb)
    simp only [Array.getElem_toList] at e
    omega
  · intro a ha b hb
    obtain ⟨i,hi,e⟩:=List.mem_iff_getElem.mp ha
    rw [List.getElem_take] at e
    simp only [List.length_take,Array.length_toList] at hi
    have l1:=h2 i (by omega) (by omega)
    simp only [Array.getElem_toList] at e
    rcases List.mem_cons.mp hb with rfl | hb
    · omega
    · obtain ⟨i2,hi2,e2⟩:=List.mem_iff_getElem.mp hb
      rw [List.getElem_drop] at e2
      simp only [List.length_drop,Array.length_toList] at hi2
      have:=h3 (below xs j+i2) (by omega) (by omega)
      simp only [Array.getElem_toList] at e2
      omega
theorem ZaB {α:Type} (xs:Array α) (p:Nat) (x y:α):y∈(insertAt xs p x).toList ↔ y=x\/y∈xs.toList:=by
  rw [toList_insertAt,List.mem_append,List.mem_cons]
  constructor
  · rintro (h | h | h)
    · exact .inr (List.mem_of_mem_take h)
    · exact .inl h
    · exact .inr (List.mem_of_mem_drop h)
  · rintro (h | h)
    · exact .inr (.inl h)
    · rw [<-List.take_append_drop p xs.toList] at h
      rcases List.mem_append.mp h with h | h
      · exact .inl h
      · exact .inr (.inr h)
theorem Zc7 {α:Type} (xs:Array α) (p:Nat) (x:α):(insertAt xs p x).toList.Perm (x::xs.toList):=by
  rw [toList_insertAt]
  refine List.perm_middle.trans ?_
  rw [List.take_append_drop]
theorem Qx {α:Type} (xs:Array α) (p:Nat) (x:α):(insertAt xs p x).size=xs.size+1:=by
  have:=(Zc7 xs p x).length_eq
  simpa using this
theorem ZeE {α β:Type} (xs:Array α) (ys:Array β) (hs:xs.size=ys.size) (p:Nat) (hp:p<=xs.size) (x:α) (y:β) {i:Nat} (h1:i < (insertAt xs p x).size) (h2:i < (insertAt ys p y).size) :
    ((insertAt xs p x)[i]=x/\(insertAt ys p y)[i]=y)\/∃ (k:Nat) (k1:k < xs.size) (k2:k < ys.size),(insertAt xs p x)[i]=xs[k]/\(insertAt ys p y)[i]=ys[k]:=by
  have gx:(insertAt xs p x)[i]=(xs.toList.take p++x::xs.toList.drop p)[i]'(by rw [<-toList_insertAt]; simpa using h1):=by
    rw [<-Array.getElem_toList]; congr 1; exact toList_insertAt xs p x
  have gy:(insertAt ys p y)[i]=(ys.toList.take p++y::ys.toList.drop p)[i]'(by rw [<-toList_insertAt]; simpa using h2):=by
    rw [<-Array.getElem_toList]; congr 1; exact toList_insertAt ys p y
  have lx:(xs.toList.take p).length=p:=by simp; omega
  have ly:(ys.toList.take p).length=p:=by simp; omega
  rw [gx,gy]
  rcases Nat.lt_trichotomy i p with c | c | c
  · right
    refine ⟨i,by omega,by omega,?_,?_⟩
    · rw [List.getElem_append_left (by omega)]; simp
    · rw [List.getElem_append_left (by omega)]; simp
  · left
    subst c
    constructor
    · rw [List.getElem_append_right (by omega)]; simp [lx]
    · rw [List.getElem_append_right (by omega)]; simp [ly]
  · right
    have z1:=Qx xs p x
    refine ⟨i-1,by omega,by omega,?_,?_⟩
    · rw [List.getElem_append_right (by omega)]
      simp only [lx]
      obtain ⟨q,hq⟩:∃ q,i-p=q+1:=⟨i-p-1,by omega⟩
      simp only [hq,List.getElem_cons_succ,List.getElem_drop,Array.getElem_toList]
      congr 1; omega
    · rw [List.getElem_append_right (by omega)]
      simp only [ly]
      obtain ⟨q,hq⟩:∃ q,i-p=q+1:=⟨i-p-1,by omega⟩
      simp only [hq,List.getElem_cons_succ,List.getElem_drop,Array.getElem_toList]
      congr 1; omega
theorem TI.put {α:Type} {t:SetTable} {es:Array (Int×α)} (I:TI t es) {h:Int} {x:α} {m:Nat} (hf:(nth t.mask (st t.mask h) m).j ∉ t.place.toList) (ha:∀ m',m' < m->(nth t.mask (st t.mask h) m').j∈t.place.toList) (hz:es.size+1<=t.mask) :
    TI (t.put (nth t.mask (st t.mask h) m).j).1 (insertAt es (t.put (nth t.mask (st t.mask h) m).j).2 (h,x)):=by
  have hd:has t.dummies (nth t.mask (st t.mask h) m).j=false:=by rw [I.dm]; simp [has]
  have e:t.put (nth t.mask (st t.mask h) m).j=({ t with place:=insertAt t.place (below t.place (nth t.mask (st t.mask h) m).j) (nth t.mask (st t.mask h) m).j },below t.place (nth t.mask (st t.mask h) m).j):=by
    unfold SetTable.put; rw [hd]; rfl
  rw [e]
  obtain ⟨b1,_,_⟩:=VC I.ris (nth t.mask (st t.mask h) m).j
  refine ⟨?_,I.dm,Zen I.ris hf,fun s hs=>?_,I.full,?_,I.odd,fun i h1 h2=>?_⟩
  · show (insertAt _ _ _).size=(insertAt _ _ _).size
    rw [Qx,Qx,I.size]
  · rcases (ZaB _ _ _ _).mp hs with rfl | hs
    · exact ((Run.st t.mask h).nth m).jle
    · exact I.le s hs
  · rw [Qx]; exact hz
  · have sub:∀ y∈t.place.toList,y∈(insertAt t.place (below t.place (nth t.mask (st t.mask h) m).j) (nth t.mask (st t.mask h) m).j).toList:=fun y hy=>(ZaB _ _ _ _).mpr (.inr hy)
    rcases ZeE t.place es I.size (below t.place (nth t.mask (st t.mask h) m).j) b1 (nth t.mask (st t.mask h) m).j (h,x) h1 h2 with ⟨e1,e2⟩ | ⟨k,k1,k2,e1,e2⟩
    · show Reach t.mask _ _ _
      rw [e1,e2]
      exact ⟨m,rfl,fun m' hm=>sub _ (ha m' hm)⟩
    · show Reach t.mask _ _ _
      rw [e1,e2]
      exact (I.reach k k1 k2).mono sub
noncomputable def lp (mask:Nat) (p:Probe):Probe:=nth mask p (p.more+1)
noncomputable def rs (mask:Nat) (p:Probe):Nat->Probe
  | 0=>p
  | r+1=>lp mask (rs mask p r)
theorem Zfw (mask:Nat) (p:Probe):∀ r,rs mask p (r+1)=rs mask (lp mask p) r
  | 0=>rfl
  | r+1=>by show lp mask (rs mask p (r+1))=lp mask (rs mask (lp mask p) r); rw [Zfw mask p r]
structure RunS (mask:Nat) (p:Probe):Prop extends Run mask p where
  ji:p.j=p.i
theorem RunS.lp {mask:Nat} {p:Probe} (h:RunS mask p):RunS mask (lp mask p)/\(SetTab.lp mask p).perturb=p.perturb / 32/\(SetTab.lp mask p).i=(p.i*5+1+p.perturb / 32) % (mask+1):=by
  have e:=Zbj h.toRun
  have r:=Run.nth h.toRun (p.more+1)
  unfold SetTab.lp
  rw [e] at r ⊢
  exact ⟨⟨r,rfl⟩,rfl,rfl⟩
theorem RunS.rs {mask:Nat} {p:Probe} (h:RunS mask p):∀ r,RunS mask (rs mask p r)/\(SetTab.rs mask p r).perturb=p.perturb / 32 ^ r
  | 0=>⟨h,by simp [SetTab.rs]⟩
  | r+1=>by
    obtain ⟨h1,h2⟩:=RunS.rs h r
    obtain ⟨l1,l2,_⟩:=h1.lp
    refine ⟨l1,?_⟩
    show (SetTab.lp mask (SetTab.rs mask p r)).perturb=_
    rw [l2,h2,Nat.div_div_eq_div_mul,Nat.pow_succ]
theorem rs0 {mask:Nat} {p:Probe} (h:RunS mask p) (hp:p.perturb=0):∀ m,(rs mask p m).i=Zah (mask+1) p.i m
  | 0=>rfl
  | m+1=>by
    obtain ⟨h1,h2⟩:=h.rs m
    obtain ⟨_,_,l3⟩:=h1.lp
    show (SetTab.lp mask (SetTab.rs mask p m)).i=_
    rw [l3,rs0 h hp m,h2,hp]
    simp [Zah,lcg]
theorem ZhZ (mask:Nat) (p:Probe) (a:Nat):∀ b,rs mask p (a+b)=rs mask (rs mask p a) b
  | 0=>rfl
  | b+1=>by show lp mask (rs mask p (a+b))=lp mask (rs mask (rs mask p a) b); rw [ZhZ mask p a b]
theorem ZeO {mask:Nat} (F:ZeX mask) {p:Probe} (h:RunS mask p) (hp:p.perturb < 2 ^ 64) {s:Nat} (hs:s<=mask):∃ r,r < turns mask/\(rs mask p r).i=s:=by
  obtain ⟨h1,h2⟩:=h.rs 13
  have z:(rs mask p 13).perturb=0:=by rw [h2]; exact Nat.div_eq_of_lt (Nat.lt_of_lt_of_le hp (by decide))
  obtain ⟨m,m0,m1,em⟩:=F _ h1.il s hs
  exact ⟨13+m,by unfold turns; omega,by rw [ZhZ,rs0 h1 z,em]⟩
theorem RunS.st (mask:Nat) (h:Int):RunS mask (st mask h):=⟨Run.st mask h,rfl⟩
theorem Zgj {mask:Nat} {owner:Array (Option Nat)} {L:List Nat} (hL:∀ s,s<=mask->((owner.getD s (some 0)).isNone=true ↔ s ∉ L)) :
    ∀ (r:Nat) {p:Probe} {fuel:Nat},RunS mask p->r < fuel->(rs mask p r).i ∉ L ->
      ∃ m,layClean.free mask owner fuel p.i p.perturb=some (nth mask p m).j/\(nth mask p m).j ∉ L/\∀ m',m' < m->(nth mask p m').j∈L:=by
  intro r
  induction r with
  | zero=>
    intro p fuel h hf hn
    obtain ⟨f,rfl⟩:∃ f,fuel=f+1:=⟨fuel-1,by omega⟩
    have hn':p.i ∉ L:=hn
    unfold layClean.free
    have e:(List.range (runEnd mask p.i+1-p.i)).find? (fun k=>(owner.getD (p.i+k) (some 0)).isNone)=some 0:=by
      rw [List.find?_range_eq_some]
      have:=Y9 h.il
      exact ⟨(hL _ (by have:=h.il; omega)).mpr (by simpa using hn'),List.mem_range.mpr (by omega),fun j hj=>by omega⟩
    rw [e]
    refine ⟨0,by show some (p.i+0)=some p.j; rw [h.ji]; rfl,by show p.j ∉ L; rw [h.ji]; exact hn',fun m' hm=>by omega⟩
  | succ r ih=>
    intro p fuel h hf hn
    obtain ⟨f,rfl⟩:∃ f,fuel=f+1:=⟨fuel-1,by omega⟩
    have re:=Y9 h.il
    have jm:=h.jm
    have ji:=h.ji
    have inrun:∀ k,k<=p.more->(nth mask p k).j=p.i+k:=fun k hk=>by rw [Zdh k h.toRun hk,<-ji]
    unfold layClean.free
    cases e:(List.range (runEnd mask p.i+1-p.i)).find? (fun k=>(owner.getD (p.i+k) (some 0)).isNone) with
    | some k=>
      rw [List.find?_range_eq_some] at e
      obtain ⟨e1,e2,e3⟩:=e
      have hk:k<=p.more:=by have:=List.mem_range.mp e2; omega
      refine ⟨k,by show some (p.i+k)=_; rw [inrun k hk],?_,fun m' hm=>?_⟩
      · rw [inrun k hk]; exact (hL _ (by omega)).mp e1
      · rw [inrun m' (by omega)]
        have:=e3 m' hm
        apply Classical.byContradiction
        intro z
        have:=(hL (p.i+m') (by omega)).mpr z
        simp [this] at e3
        have:=e3 m' hm
        simp_all
    | none=>
      have all:∀ k,k<=p.more->p.i+k∈L:=fun k hk=>by
        rw [List.find?_eq_none] at e
        have:=e k (List.mem_range.mpr (by omega))
        apply Classical.byContradiction
        intro z
        exact this ((hL _ (by omega)).mpr z)
      obtain ⟨l1,l2,l3⟩:=h.lp
      have hl:(leap mask p.i p.perturb)=((lp mask p).i,(lp mask p).perturb):=by rw [l2,l3]; rfl
      obtain ⟨m,em,en,ea⟩:=ih (p:=lp mask p) (fuel:=f) l1 (by omega) (by rw [<-Zfw]; exact hn)
      have sh:∀ q,nth mask p (p.more+1+q)=nth mask (lp mask p) q:=fun q=>JQ mask p (p.more+1) q
      refine ⟨p.more+1+m,?_,by rw [sh]; exact en,fun m' hm=>?_⟩
      · show (match leap mask p.i p.perturb with | (i,perturb)=>layClean.free mask owner f i perturb)=_
        rw [hl]
        show layClean.free mask owner f (lp mask p).i (lp mask p).perturb=_
        rw [em,sh]
      · by_cases c:m'<=p.more
        · rw [inrun m' c]; exact all m' c
        · obtain ⟨q,rfl⟩:∃ q,m'=p.more+1+q:=⟨m'-(p.more+1),by omega⟩
          rw [sh]; exact ea q (by omega)
structure LC (mask:Nat) (hs:List Int) (owner:Array (Option Nat)) (S:List Nat):Prop where
  osz:owner.size=mask+1
  nd:S.Nodup
  le:∀ s∈S,s<=mask
  at_:∀ i (hi:i < S.length),owner[S[i]]?=some (some i)
  off:∀ s,s<=mask->s ∉ S->owner[s]?=some none
  reach:∀ i (hi:i < S.length) (hi2:i < hs.length),Reach mask S hs[i] S[i]
theorem LC.none_iff {mask:Nat} {hs:List Int} {owner:Array (Option Nat)} {S:List Nat} (I:LC mask hs owner S) (s:Nat) (h:s<=mask):((owner.getD s (some 0)).isNone=true ↔ s ∉ S):=by
  have hb:s < owner.size:=by rw [I.osz]; omega
  have e:owner.getD s (some 0)=owner[s]:=by simp [Array.getD,hb]
  rw [e]
  constructor
  · intro z hm
    obtain ⟨i,hi,ei⟩:=List.mem_iff_getElem.mp hm
    have:=I.at_ i hi
    rw [ei,Array.getElem?_eq_getElem hb] at this
    have:=Option.some.inj this
    rw [this] at z; simp at z
  · intro hn
    have:=I.off s h hn
    rw [Array.getElem?_eq_getElem hb] at this
    rw [Option.some.inj this]; rfl
theorem LC.next {mask:Nat} (F:ZeX mask) {hs:List Int} {owner:Array (Option Nat)} {S:List Nat} (I:LC mask hs owner S) (hz:S.length < hs.length) (hr:S.length<=mask) :
    ∃ j,layClean.free mask owner (turns mask) (bits hs[S.length] % (mask+1)) (bits hs[S.length])=some j/\LC mask hs (owner.setIfInBounds j (some S.length)) (S++[j]):=by
  obtain ⟨s,h1,h2⟩:=ZaN I.nd hr
  obtain ⟨r,r1,r2⟩:=ZeO F (RunS.st mask hs[S.length]) (ZgJ _) h1
  obtain ⟨m,e,n,a⟩:=Zgj (L:=S) (I.none_iff) r (RunS.st mask hs[S.length]) r1 (by rw [r2]; exact h2)
  refine ⟨_,e,?_⟩
  have jl:(nth mask (st mask hs[S.length]) m).j<=mask:=((Run.st mask _).nth m).jle
  refine ⟨by simp [I.osz],?_,?_,?_,?_,?_⟩
  · rw [List.nodup_append]
    refine ⟨I.nd,by simp,fun x hx y hy=>?_⟩
    rw [List.mem_singleton] at hy; subst hy
    intro z; exact n (z ▸ hx)
  · intro x hx
    rcases List.mem_append.mp hx with hx | hx
    · exact I.le x hx
    · rw [List.mem_singleton] at hx; subst hx; exact jl
  · intro i hi
    by_cases c:i < S.length
    · rw [List.getElem_append_left c,Array.getElem?_setIfInBounds_ne]
      · exact I.at_ i c
      · intro z; exact n (by rw [z]; exact List.getElem_mem c)
    · have e:i=S.length:=by simp at hi; omega
      subst e
      rw [List.getElem_append_right (Nat.le_refl _)]
      simp only [Nat.sub_self,List.getElem_cons_zero]
      rw [Array.getElem?_setIfInBounds_self_of_lt (by rw [I.osz]; omega)]
  · intro s hs hn
    rw [Array.getElem?_setIfInBounds_ne]
    · exact I.off s hs (fun z=>hn (List.mem_append_left _ z))
    · intro z; exact hn (by rw [z]; simp)
  · intro i hi hi2
    by_cases c:i < S.length
    · rw [List.getElem_append_left c]
      exact (I.reach i c hi2).mono fun x hx=>List.mem_append_left _ hx
    · have e:i=S.length:=by simp at hi; omega
      subst e
      rw [List.getElem_append_right (Nat.le_refl _)]
      simp only [Nat.sub_self,List.getElem_cons_zero]
      exact ⟨m,rfl,fun m' hm=>List.mem_append_left _ (a m' hm)⟩
theorem Zhq {mask:Nat} (F:ZeX mask) {hs:List Int} (hr:hs.length<=mask):∀ (n:Nat) {owner:Array (Option Nat)} {S:List Nat},S.length+n=hs.length->LC mask hs owner S ->
    ∃ owner' S',(hs.drop S.length).foldl (fun acc h=>do
      let (owner,k) <- acc
      let j <- layClean.free mask owner (turns mask) (bits h % (mask+1)) (bits h)
      pure (owner.setIfInBounds j (some k),k+1)) (some (owner,S.length))=some (owner',S'.length)/\S'.length=hs.length/\LC mask hs owner' S':=by
  intro n
  induction n with
  | zero=>
    intro owner S e I
    rw [List.drop_eq_nil_of_le (by omega)]
    exact ⟨owner,S,rfl,by omega,I⟩
  | succ n ih=>
    intro owner S e I
    have hl:S.length < hs.length:=by omega
    rw [List.drop_eq_getElem_cons hl,List.foldl_cons]
    obtain ⟨j,ej,I'⟩:=I.next F hl (by omega)
    have step:(do
      let (owner,k) <- some (owner,S.length)
      let j <- layClean.free mask owner (turns mask) (bits hs[S.length] % (mask+1)) (bits hs[S.length])
      pure (owner.setIfInBounds j (some k),k+1))=some (owner.setIfInBounds j (some S.length),(S++[j]).length):=by
      show (do
        let j <- layClean.free mask owner (turns mask) (bits hs[S.length] % (mask+1)) (bits hs[S.length])
        pure (owner.setIfInBounds j (some S.length),S.length+1))=_
      rw [ej]; simp
    rw [step]
    have:=ih (S:=S++[j]) (by simp; omega) I'
    have e2:(S++[j]).length=S.length+1:=by simp
    rw [e2] at this ⊢
    exact this
theorem Zdj {mask:Nat} (F:ZeX mask) (hs:Array Int) (hr:hs.size<=mask):∃ owner S,layClean mask hs=some owner/\S.length=hs.size/\LC mask hs.toList owner S:=by
  have I0:LC mask hs.toList (Array.replicate (mask+1) none) []:=⟨by simp,List.nodup_nil,fun s h=>by simp at h,fun i h=>by simp at h,fun s h _=>by simp [Array.getElem?_replicate]; omega,fun i h=>by simp at h⟩
  obtain ⟨owner',S',e,el,I⟩:=Zhq F (hs:=hs.toList) (by simpa using hr) hs.size (S:=[]) (by simp) I0
  refine ⟨owner',S',?_,by simpa using el,I⟩
  unfold layClean
  rw [<-Array.foldl_toList]
  simp only [List.length_nil,List.drop_zero] at e
  rw [e]; rfl
theorem Zjf {α:Type} {mask finger moves:Nat} {led plain:Bool} (F:ZeX mask) (hodd:mask % 2=1) (es:Array (Int×α)) (hr:es.size<=mask) :
    ∃ t order,laid mask finger moves led plain (es.map (·.1))=some (t,order)/\t.mask=mask/\t.led=led/\t.plain=plain/\t.moves=moves/\(order.filterMap (es[·]?)).size=es.size/\TI t (order.filterMap (es[·]?))/\(order.filterMap (es[·]?)).toList.Perm es.toList:=by
  obtain ⟨owner,S,e,el,I⟩:=Zdj F (es.map (·.1)) (by simpa using hr)
  have el':S.length=es.size:=by simpa using el
  let live:=(List.range (mask+1)).filterMap fun j=>(owner.getD j none).map (j,·)
  have hlive:∀ a b,(a,b)∈live ↔ ∃ h:b < S.length,S[b]=a:=by
    intro a b
    show (a,b)∈(List.range (mask+1)).filterMap _ ↔ _
    rw [List.mem_filterMap]
    constructor
    · rintro ⟨j,hj,ej⟩
      have hj':j<=mask:=by have:=List.mem_range.mp hj; omega
      have hb:j < owner.size:=by rw [I.osz]; omega
      have eg:owner.getD j none=owner[j]:=by simp [Array.getD,hb]
      rw [eg] at ej
      cases q:owner[j] with
      | none=>rw [q] at ej; simp at ej
      | some c=>
        rw [q] at ej
        simp only [Option.map_some,Option.some.injEq,Prod.mk.injEq] at ej
        obtain ⟨rfl,rfl⟩:=ej
        have:j∈S:=Classical.byContradiction fun n=>by
          have:=I.off j hj' n
          rw [Array.getElem?_eq_getElem hb,q] at this; simp at this
        obtain ⟨i,hi,ei⟩:=List.mem_iff_getElem.mp this
        have:=I.at_ i hi
        rw [ei,Array.getElem?_eq_getElem hb,q] at this
        have:c=i:=by simpa using this
        subst this
        exact ⟨hi,ei⟩
    · rintro ⟨h,rfl⟩
      have hl:=I.le S[b] (List.getElem_mem h)
      refine ⟨S[b],List.mem_range.mpr (by omega),?_⟩
      have hb:S[b] < owner.size:=by rw [I.osz]; omega
      have:=I.at_ b h
      rw [Array.getElem?_eq_getElem hb] at this
      have eg:owner.getD S[b] none=owner[S[b]]:=by simp [Array.getD,hb]
      rw [eg,Option.some.inj this]; rfl
  have sorted:live.Pairwise (fun a b=>a.1 < b.1):=by
    refine List.Pairwise.filterMap _ (fun a a' h b hb b' hb'=>?_) List.pairwise_lt_range
    cases q:owner.getD a none with
    | none=>rw [q] at hb; simp at hb
    | some c=>cases q':owner.getD a' none with
      | none=>rw [q'] at hb'; simp at hb'
      | some c'=>
        rw [q] at hb; rw [q'] at hb'
        simp at hb hb'
        rw [<-hb,<-hb']; exact h
  have ordp:(live.map (·.2)).Perm (List.range es.size):=by
    refine (List.perm_ext_iff_of_nodup ?_ List.nodup_range).mpr fun b=>?_
    · show (live.map (·.2)).Pairwise (·≠·)
      rw [List.pairwise_map]
      refine List.Pairwise.imp_of_mem (fun {x y} hx hy h z=>?_) sorted
      obtain ⟨h1,e1⟩:=(hlive x.1 x.2).mp hx
      obtain ⟨h2,e2⟩:=(hlive y.1 y.2).mp hy
      have:x.1=y.1:=by rw [<-e1,<-e2]; congr 1
      omega
    · rw [List.mem_map,List.mem_range]
      constructor
      · rintro ⟨⟨a,c⟩,hm,rfl⟩
        obtain ⟨h,_⟩:=(hlive a c).mp hm
        simpa [<-el'] using h
      · intro h
        exact ⟨(S[b]'(by omega),b),(hlive _ _).mpr ⟨by omega,rfl⟩,rfl⟩
  have esl:((live.map (·.2)).toArray.filterMap (es[·]?)).toList=live.filterMap fun q=>es[q.2]?:=by
    rw [Array.toList_filterMap,List.filterMap_map]; rfl
  have mapl:live.filterMap (fun q=>es[q.2]?)=live.pmap (fun q (h:q.2 < es.size)=>es[q.2]) (fun q hq=>by
      obtain ⟨h,_⟩:=(hlive q.1 q.2).mp hq; omega):=by
    have gen:∀ (l:List (Nat×Nat)) (hl:∀ q∈l,q.2 < es.size),l.filterMap (fun q=>es[q.2]?)=l.pmap (fun q (h:q.2 < es.size)=>es[q.2]) hl:=by
      intro l
      induction l with
      | nil=>intro _; rfl
      | cons q l ih=>
        intro hl
        have h0:=hl q List.mem_cons_self
        rw [List.filterMap_cons,Array.getElem?_eq_getElem h0,List.pmap_cons,ih (fun x hx=>hl x (List.mem_cons_of_mem _ hx))]
    exact gen live _
  have sz:((live.map (·.2)).toArray.filterMap (es[·]?)).size=es.size:=by
    rw [<-Array.length_toList,esl,mapl,List.length_pmap]
    have:=ordp.length_eq
    simpa using this
  refine ⟨{ mask,place:=(live.map (·.1)).toArray,dummies:=#[],finger,led,moves,plain },(live.map (·.2)).toArray,?_,rfl,rfl,rfl,rfl,sz,?_,?_⟩
  · unfold laid
    rw [e]; rfl
  · have ll:live.length=es.size:=by have:=ordp.length_eq; simpa using this
    refine ⟨by rw [sz]; simpa using ll,rfl,?_,?_,F,by rw [sz]; exact hr,hodd,?_⟩
    · show Ris (live.map (·.1))
      exact List.pairwise_map.mpr sorted
    · intro s hs
      obtain ⟨⟨a,b⟩,hm,rfl⟩:=List.mem_map.mp (show s∈live.map (·.1) from hs)
      obtain ⟨h,e2⟩:=(hlive a b).mp hm
      exact e2 ▸ I.le _ (List.getElem_mem h)
    · intro i h1 h2
      have hi:i < live.length:=by simpa using h1
      have g1:(live.map (·.1)).toArray[i]'(by simpa using hi)=live[i].1:=by simp
      obtain ⟨hb,eb⟩:=(hlive live[i].1 live[i].2).mp (List.getElem_mem hi)
      have g2:((live.map (·.2)).toArray.filterMap (es[·]?))[i]=es[live[i].2]'(by omega):=by
        rw [<-Array.getElem_toList]
        have:((live.map (·.2)).toArray.filterMap (es[·]?)).toList=live.pmap (fun q (h:q.2 < es.size)=>es[q.2]) (fun q hq=>by
          obtain ⟨h,_⟩:=(hlive q.1 q.2).mp hq; omega):=esl.trans mapl
        simp only [this,List.getElem_pmap]
      show Reach mask (live.map (·.1)) _ _
      rw [g2,g1]
      have r:=I.reach live[i].2 hb (by simp; omega)
      have e3:(es.map (·.1)).toList[live[i].2]'(by simp; omega)=(es[live[i].2]'(by omega)).1:=by simp
      rw [e3,eb] at r
      refine r.mono fun x hx=>?_
      obtain ⟨k,hk,ek⟩:=List.mem_iff_getElem.mp hx
      exact List.mem_map.mpr ⟨(x,k),(hlive x k).mpr ⟨hk,ek⟩,rfl⟩
  · rw [Array.toList_filterMap]
    refine (ordp.filterMap _).trans ?_
    have:(List.range es.size).filterMap (es[·]?)=es.toList:=by
      apply List.ext_getElem?
      intro i
      have gen:∀ (m:Nat),m<=es.size->(List.range m).filterMap (es[·]?)=es.toList.take m:=by
        intro m
        induction m with
        | zero=>intro _; simp
        | succ m ih=>
          intro h
          rw [List.range_succ,List.filterMap_append,ih (by omega),List.take_succ]
          congr 1
          simp [Array.getElem?_eq_getElem (show m < es.size by omega)]
      rw [gen es.size (Nat.le_refl _)]
      simp [List.take_of_length_le]
    rw [this]
end SetTab
namespace L3
open PySem PySem.Spec PyProof.Rows L2 SetTab PySem.SetTable
section
variable {prog:Program} {w:World} {A:Around} {E:Value->Shared->Prop} {s:Shared}
noncomputable abbrev TK (prog:Program) (w:World) (h:Heap) (ks:List Int) (a:Addr):Prop:=IsTupleKey (intKind prog w) h ks a
noncomputable abbrev kh (prog:Program) (w:World) (ks:List Int):Int:=tupleKeyHash (intKind prog w) ks
theorem ZaF {ks:List Int} {vs:List Value} (h:ItemsAre (intKind prog w) ks vs):∀ v∈vs,∃ i t,v=.int i t:=by
  induction h with
  | nil=>intro v hv; cases hv
  | @cons k v ks vs h1 _ ih=>
    intro u hu
    rcases List.mem_cons.mp hu with rfl | hu
    · obtain ⟨t,e⟩:=Value.isInt_shape (k:=k) (v:=u) h1
      exact ⟨k,t,e⟩
    · exact ih u hu
theorem Zas {ks:List Int} {a:Addr} {Q:Bool->Shared->Prop} (hk:TK prog w s.heap ks a) (h:Q false s):wpAny (model prog w) A (ofAClassStatement 8 (.ref a)) Q E s:=by
  have hT:=hk.typeIs
  obtain ⟨o,items,n,ho,_,hd,hi⟩:=hk
  unfold ofAClassStatement
  refine wpAny_bind (wpAny_typeOf hT ?_)
  show wpAny _ _ (do let u <- (if ("tuple"=="tuple")=true then pure true else isSubtype (.type "tuple") (.type "tuple")); _) _ _ s
  refine wpAny_bind ?_
  rw [if_pos (by decide)]
  refine wpAny_pure ?_
  simp only [Bool.not_true,Bool.false_eq_true,if_false]
  refine wpAny_bind (wpAny_seqItems ho hd ?_)
  show wpAny _ _ (forIn items _ _ >>= _) _ _ s
  refine wpAny_bind ?_
  rw [<-Array.forIn_toList]
  refine wpAny_forIn_list _ (fun rest r s'=>r.1=none/\s'=s/\∀ v∈rest,∃ i t,v=Value.int i t) _ ?_ ?_ _ _ ⟨rfl,rfl,ZaF hi⟩
  · rintro v rest r s' ⟨hr,rfl,hall⟩
    obtain ⟨i,t,rfl⟩:=hall v List.mem_cons_self
    show wpAny _ _ (pure false >>= _) _ _ _
    refine wpAny_bind (wpAny_pure ?_)
    simp only [Bool.false_eq_true,if_false]
    exact wpAny_pure ⟨rfl,rfl,fun u hu=>hall u (List.mem_cons_of_mem _ hu)⟩
  · rintro ⟨r1,r2⟩ s' ⟨hr,rfl,_⟩
    simp only at hr
    subst hr
    exact wpAny_pure h
theorem Ze6 {ks:List Int} {a:Addr} {Q:Bool->Shared->Prop} (hk:TK prog w s.heap ks a) (h:Q true s):wpAny (model prog w) A (hashByValue 8 (.ref a)) Q E s:=by
  have hT:=hk.typeIs
  obtain ⟨o,items,n,ho,_,hd,hi⟩:=hk
  unfold hashByValue
  refine wpAny_bind (wpAny_specialOf hT F.slot_tuple_hash.lookup ?_)
  show wpAny _ _ (seqItems? (.ref a) >>= _) _ _ s
  refine wpAny_bind (wpAny_seqItems ho hd ?_)
  show wpAny _ _ (forIn items _ _ >>= _) _ _ s
  refine wpAny_bind ?_
  rw [<-Array.forIn_toList]
  refine wpAny_forIn_list _ (fun rest r s'=>r.1=none/\s'=s/\∀ v∈rest,∃ i t,v=Value.int i t) _ ?_ ?_ _ _ ⟨rfl,rfl,ZaF hi⟩
  · rintro v rest r s' ⟨hr,rfl,hall⟩
    obtain ⟨i,t,rfl⟩:=hall v List.mem_cons_self
    show wpAny _ _ (pure true >>= _) _ _ _
    refine wpAny_bind (wpAny_pure ?_)
    simp only [Bool.not_true,Bool.false_eq_true,if_false]
    exact wpAny_pure ⟨rfl,rfl,fun u hu=>hall u (List.mem_cons_of_mem _ hu)⟩
  · rintro ⟨r1,r2⟩ s' ⟨hr,rfl,_⟩
    simp only at hr
    subst hr
    exact wpAny_pure h
theorem Zis {ks:List Int} {a:Addr} {ys:List Value} {Q:Bool->Shared->Prop} (hk:TK prog w s.heap ks a) (hys:∀ y∈ys,∃ ks' b,y=.ref b/\TK prog w s.heap ks' b) (h:Q false s):wpAny (model prog w) A (searchCouldBeSeen (.ref a) ys) Q E s:=by
  unfold searchCouldBeSeen
  refine wpAny_bind ?_
  refine wpAny_forIn_list _ (fun rest r s'=>r.1=none/\s'=s/\∀ y∈rest,∃ ks' b,y=Value.ref b/\TK prog w s.heap ks' b) _ ?_ ?_ _ _ ⟨rfl,rfl,hys⟩
  · rintro v rest r s' ⟨hr,rfl,hall⟩
    obtain ⟨ks',b,rfl,hb⟩:=hall v List.mem_cons_self
    have hall':=fun u hu=>hall u (List.mem_cons_of_mem _ hu)
    show wpAny _ _ (if ((a==b)||(carriedByValue (.ref a)&&carriedByValue (.ref b)))=true then _ else _) _ _ _
    by_cases c:((a==b)||(carriedByValue (.ref a)&&carriedByValue (.ref b)))=true
    · rw [if_pos c]
      exact wpAny_pure ⟨rfl,rfl,hall'⟩
    · rw [if_neg c]
      refine wpAny_bind (wpAny_eqIsQuiet_tuple hk ?_)
      simp only [Bool.not_true,Bool.false_eq_true,if_false]
      refine wpAny_bind (wpAny_eqIsQuiet_tuple hb ?_)
      simp only [Bool.not_true,Bool.false_eq_true,if_false]
      refine wpAny_bind (Zas hk ?_)
      simp only [Bool.false_eq_true,if_false]
      refine wpAny_bind (Zas hb ?_)
      simp only [Bool.false_eq_true,if_false]
      exact wpAny_pure ⟨rfl,rfl,hall'⟩
  · rintro ⟨r1,r2⟩ s' ⟨hr,rfl,_⟩
    simp only at hr
    subst hr
    exact wpAny_pure h
end
structure TSet (prog:Program) (w:World) (h:Heap) (a:Addr) (o:Obj) (es:Array (Int×Value)) (ep:Nat) (t:SetTable) (keys:List (List Int)):Prop where
  ho:h.get? a=some o
  hd:o.data=.set es ep t
  ti:TI t es
  size:keys.length=es.size
  key:∀ (i:Nat) k,keys[i]?=some k->∃ b,es[i]?=some (kh prog w k,.ref b)/\TK prog w h k b
section
variable {prog:Program} {w:World} {A:Around} {E:Value->Shared->Prop} {s:Shared} {a:Addr} {o:Obj} {es:Array (Int×Value)} {ep:Nat} {t:SetTable} {keys:List (List Int)}
theorem TSet.fits (T:TSet prog w s.heap a o es ep t keys):t.fits es.size=true:=by
  have h1:=T.ti.size; have h2:=T.ti.dm; have h3:=T.ti.room
  simp [SetTable.fits,SetTable.fill,h1,h2,h3]
theorem TSet.get (T:TSet prog w s.heap a o es ep t keys) {i:Nat} (hi:i < es.size):∃ k b,keys[i]?=some k/\es[i]?=some (kh prog w k,.ref b)/\TK prog w s.heap k b:=by
  have hi':i < keys.length:=by rw [T.size]; exact hi
  obtain ⟨b,h1,h2⟩:=T.key i keys[i] (by simp [hi'])
  exact ⟨_,b,by simp [hi'],h1,h2⟩
theorem Ze5 (T:TSet prog w s.heap a o es ep t keys) {k:List Int} {b:Addr} (hu:A.units < cLine) (hk:TK prog w s.heap k b) {m:Nat} (hm:m < 10*turns t.mask)
    (hf:(nth t.mask (st t.mask (kh prog w k)) m).j ∉ t.place.toList) (ha:∀ m',m' < m->(nth t.mask (st t.mask (kh prog w k)) m').j∈t.place.toList) {Q:SetFound->Shared->Prop}
    (q1:k∈keys->Q (.there none) s) (q2:k ∉ keys->Q (.free (nth t.mask (st t.mask (kh prog w k)) m).j false) s) :
    ∀ (d m0 fuel:Nat) (stand:Option Probe),m0+d=m->d < fuel->stand.getD (t.probeStart (kh prog w k))=nth t.mask (st t.mask (kh prog w k)) m0 ->
      (∀ m',m' < m0->∀ i (hi:i < t.place.size),t.place[i]=(nth t.mask (st t.mask (kh prog w k)) m').j->keys[i]?≠some k) ->
      wpAny (model prog w) A (setSearchFrom a (.ref b) (kh prog w k) true fuel stand) Q E s:=by
  have I:=T.ti
  intro d
  induction d using Nat.strongRecOn with
  | ind d ih=>
    intro m0 fuel stand hd hfu hst hno
    cases fuel with
    | zero=>omega
    | succ fuel=>
      unfold setSearchFrom
      refine wpAny_bind (wpAny_setState_of T.ho T.hd T.fits ?_)
      dsimp only
      have hg:t.gaveWay=false:=by simp [SetTable.gaveWay,I.odd]
      rw [if_neg (by rw [hg]; decide),hst]
      have run:=(Run.st t.mask (kh prog w k)).nth m0
      have hadd:∀ x,nth t.mask (nth t.mask (st t.mask (kh prog w k)) m0) x=nth t.mask (st t.mask (kh prog w k)) (m0+x):=fun x=>(JQ t.mask _ m0 x).symm
      have pg:=Zhh I (fun i=>(es[i]?.map (·.1)).getD 0) (kh prog w k) d (fuel:=10*turns t.mask) run (by omega) (by rw [hadd,hd]; exact hf) (fun m' hm'=>by rw [hadd]; exact ha _ (by omega))
      rcases pg with ⟨e,hn⟩ | ⟨m1,i,hm1,hi,epl,ehash,e,hn⟩
      · have e':t.probe (fun i=>(es[i]?.map (·.1)).getD 0) (kh prog w k) (nth t.mask (st t.mask (kh prog w k)) m0)=some (.empty (nth t.mask (st t.mask (kh prog w k)) m).j none):=by
          rw [hadd,hd] at e; exact e
        generalize hp:t.probe _ (kh prog w k) (nth t.mask (st t.mask (kh prog w k)) m0)=r
        have hr:=hp.symm.trans e'
        subst hr
        dsimp only
        refine wpAny_pure (q2 fun hmem=>?_)
        obtain ⟨i,hi,ei⟩:=List.mem_iff_getElem.mp hmem
        have hie:i < es.size:=by rw [<-T.size]; exact hi
        have hip:i < t.place.size:=by rw [I.size]; exact hie
        obtain ⟨b',h1,h2⟩:=T.key i k (by rw [<-ei]; simp [hi])
        have h1':es[i]=(kh prog w k,.ref b'):=by
          have:=Array.getElem?_eq_getElem hie
          rw [h1] at this; exact (Option.some.inj this).symm
        obtain ⟨k0,r1,r2⟩:=I.reach i hip hie
        rw [h1'] at r1 r2
        have hk0:k0 < m:=by
          rcases Nat.lt_trichotomy k0 m with z | z | z
          · exact z
          · subst z; exact absurd (by rw [r1]; simp) hf
          · exact absurd (r2 m z) hf
        by_cases c:k0 < m0
        · exact hno k0 c i hip r1.symm (by rw [<-ei]; simp [hi])
        · refine hn (k0-m0) (by omega) i hip ?_ ?_
          · rw [hadd,show m0+(k0-m0)=k0 by omega]; exact r1.symm
          · simp [h1]
      · have e':t.probe (fun i=>(es[i]?.map (·.1)).getD 0) (kh prog w k) (nth t.mask (st t.mask (kh prog w k)) m0)=some (.candidate (nth t.mask (st t.mask (kh prog w k)) (m0+m1)).j i (nth t.mask (st t.mask (kh prog w k)) (m0+m1+1))):=by
          rw [hadd,hadd,<-Nat.add_assoc] at e; exact e
        generalize hp:t.probe _ (kh prog w k) (nth t.mask (st t.mask (kh prog w k)) m0)=r
        have hr:=hp.symm.trans e'
        subst hr
        dsimp only
        have hie:i < es.size:=by rw [<-I.size]; exact hi
        obtain ⟨k',c,g1,g2,g3⟩:=T.get hie
        have seen:t.led=false->∀ y∈((es.filter (·.1==kh prog w k)).toList.map (·.2)),∃ ks' b,y=Value.ref b/\TK prog w s.heap ks' b:=fun _ y hy=>by
          obtain ⟨p,hp,rfl⟩:=List.mem_map.mp hy
          have hp':p∈es:=by simp at hp; exact hp.1
          obtain ⟨j,hj,ej⟩:=Array.mem_iff_getElem.mp hp'
          obtain ⟨k2,c2,g1',g2',g3'⟩:=T.get hj
          have:p=(kh prog w k2,.ref c2):=by
            rw [<-ej]
            have:=Array.getElem?_eq_getElem hj
            rw [g2'] at this; exact (Option.some.inj this).symm
          subst this
          exact ⟨k2,c2,rfl,g3'⟩
        cases hl:t.led
        case false=>
          simp only [Bool.not_false,if_true]
          refine wpAny_bind (Zis hk (seen hl) ?_)
          simp only [Bool.false_eq_true,if_false]
          rw [g2]
          dsimp only
          refine wpAny_bind (wpAny_holding (wpAny_eqBool_tuple hu g3 hk ?_))
          refine wpAny_bind (wpAny_setState_of T.ho T.hd T.fits ?_)
          dsimp only
          by_cases ek:k'=k
          · subst ek
            rw [decide_eq_true rfl,if_pos (by decide)]
            exact wpAny_pure (q1 (List.mem_of_getElem? g1))
          · rw [decide_eq_false ek,if_neg (by decide)]
            have sm:t.sameMemory t.moves t.mask=some true:=by simp [SetTable.sameMemory]
            rw [sm]
            dsimp only
            have sl:t.slot (nth t.mask (st t.mask (kh prog w k)) (m0+m1)).j=.live i:=by
              have:=Qw I.ris hi
              rw [epl,hadd] at this
              exact this
            rw [if_pos rfl,sl]
            dsimp only
            rw [g2]
            dsimp only
            refine wpAny_bind (wpAny_isSame_ref_self (wpAny_bind (wpAny_pure ?_)))
            rw [if_pos rfl]
            dsimp only
            rw [if_neg (by decide)]
            refine ih (d-m1-1) (by omega) (m0+m1+1) fuel _ (by omega) (by omega) rfl fun m' hm' i' hi' ep'=>?_
            by_cases c1:m' < m0
            · exact hno m' c1 i' hi' ep'
            · by_cases c2:m'=m0+m1
              · subst c2
                have:i'=i:=by
                  have e1:t.place[i']=t.place[i]:=by rw [ep',epl,hadd]
                  have l1:=Qw I.ris hi'
                  have l2:=Qw I.ris hi
                  rw [e1,l2] at l1
                  injection l1 with l1; exact l1.symm
                subst this
                rw [g1]
                exact fun z=>ek (Option.some.inj z)
              · intro z
                have hie':i' < es.size:=by rw [<-I.size]; exact hi'
                obtain ⟨b',z1,z2⟩:=T.key i' k z
                refine hn (m'-m0) (by omega) i' hi' ?_ ?_
                · rw [hadd,show m0+(m'-m0)=m' by omega]; exact ep'
                · simp [z1]
        case true=>
          simp only [Bool.not_true,Bool.false_eq_true,if_false]
          rw [g2]
          dsimp only
          refine wpAny_bind (wpAny_holding (wpAny_eqBool_tuple hu g3 hk ?_))
          refine wpAny_bind (wpAny_setState_of T.ho T.hd T.fits ?_)
          dsimp only
          by_cases ek:k'=k
          · subst ek
            rw [decide_eq_true rfl,if_pos (by decide)]
            exact wpAny_pure (q1 (List.mem_of_getElem? g1))
          · rw [decide_eq_false ek,if_neg (by decide)]
            have sm:t.sameMemory t.moves t.mask=some true:=by simp [SetTable.sameMemory]
            rw [sm]
            dsimp only
            have sl:t.slot (nth t.mask (st t.mask (kh prog w k)) (m0+m1)).j=.live i:=by
              have:=Qw I.ris hi
              rw [epl,hadd] at this
              exact this
            rw [if_pos rfl,sl]
            dsimp only
            rw [g2]
            dsimp only
            refine wpAny_bind (wpAny_isSame_ref_self (wpAny_bind (wpAny_pure ?_)))
            rw [if_pos rfl]
            dsimp only
            rw [if_neg (by decide)]
            refine ih (d-m1-1) (by omega) (m0+m1+1) fuel _ (by omega) (by omega) rfl fun m' hm' i' hi' ep'=>?_
            by_cases c1:m' < m0
            · exact hno m' c1 i' hi' ep'
            · by_cases c2:m'=m0+m1
              · subst c2
                have:i'=i:=by
                  have e1:t.place[i']=t.place[i]:=by rw [ep',epl,hadd]
                  have l1:=Qw I.ris hi'
                  have l2:=Qw I.ris hi
                  rw [e1,l2] at l1
                  injection l1 with l1; exact l1.symm
                subst this
                rw [g1]
                exact fun z=>ek (Option.some.inj z)
              · intro z
                have hie':i' < es.size:=by rw [<-I.size]; exact hi'
                obtain ⟨b',z1,z2⟩:=T.key i' k z
                refine hn (m'-m0) (by omega) i' hi' ?_ ?_
                · rw [hadd,show m0+(m'-m0)=m' by omega]; exact ep'
                · simp [z1]
end
noncomputable def Al (prog:Program) (w:World) (h:Heap):List (List Int)->List (Int×Value)->Prop
  | [],l=>l=[]
  | k::ks,l=>∃ b r,l=(kh prog w k,.ref b)::r/\TK prog w h k b/\Al prog w h ks r
section
variable {prog:Program} {w:World} {h h':Heap}
theorem Al.length:∀ {ks:List (List Int)} {l:List (Int×Value)},Al prog w h ks l->ks.length=l.length
  | [],l,a=>by unfold Al at a; subst a; rfl
  | k::ks,l,a=>by unfold Al at a; obtain ⟨b,r,rfl,_,a⟩:=a; simp [a.length]
theorem Al.get:∀ {ks:List (List Int)} {l:List (Int×Value)} {i:Nat} {k:List Int},Al prog w h ks l->ks[i]?=some k->∃ b,l[i]?=some (kh prog w k,.ref b)/\TK prog w h k b
  | [],l,i,k,a,e=>by simp at e
  | k0::ks,l,i,k,a,e=>by
    unfold Al at a
    obtain ⟨b,r,rfl,t,a⟩:=a
    cases i with
    | zero=>simp at e; subst e; exact ⟨b,rfl,t⟩
    | succ i=>obtain ⟨b',e1,e2⟩:=Al.get (i:=i) a (by simpa using e); exact ⟨b',by simpa using e1,e2⟩
theorem Al.keep (kp:∀ k b,TK prog w h k b->TK prog w h' k b):∀ {ks:List (List Int)} {l:List (Int×Value)},Al prog w h ks l->Al prog w h' ks l
  | [],l,a=>a
  | k::ks,l,a=>by
    unfold Al at a ⊢
    obtain ⟨b,r,e,t,a⟩:=a
    exact ⟨b,r,e,kp _ _ t,a.keep kp⟩
theorem Al.append:∀ {ks ks':List (List Int)} {l l':List (Int×Value)},Al prog w h ks l->Al prog w h ks' l'->Al prog w h (ks++ks') (l++l')
  | [],ks',l,l',a,a'=>by unfold Al at a; subst a; exact a'
  | k::ks,ks',l,l',a,a'=>by
    unfold Al at a
    obtain ⟨b,r,rfl,t,a⟩:=a
    show Al prog w h (k::(ks++ks')) _
    unfold Al
    exact ⟨b,r++l',rfl,t,a.append a'⟩
theorem Al.take:∀ {ks:List (List Int)} {l:List (Int×Value)} (n:Nat),Al prog w h ks l->Al prog w h (ks.take n) (l.take n)
  | _,_,0,_=>by simp [Al]
  | [],l,n+1,a=>by unfold Al at a; subst a; simp [Al]
  | k::ks,l,n+1,a=>by
    unfold Al at a
    obtain ⟨b,r,rfl,t,a⟩:=a
    simp only [List.take_succ_cons]
    unfold Al
    exact ⟨b,_,rfl,t,a.take n⟩
theorem Al.drop:∀ {ks:List (List Int)} {l:List (Int×Value)} (n:Nat),Al prog w h ks l->Al prog w h (ks.drop n) (l.drop n)
  | _,_,0,a=>a
  | [],l,n+1,a=>by unfold Al at a; subst a; simp [Al]
  | k::ks,l,n+1,a=>by
    unfold Al at a
    obtain ⟨b,r,rfl,t,a⟩:=a
    exact a.drop n
theorem Al.one {k:List Int} {b:Addr} (t:TK prog w h k b):Al prog w h [k] [(kh prog w k,.ref b)]:=by unfold Al; exact ⟨b,[],rfl,t,by simp [Al]⟩
theorem Al.perm {l l':List (Int×Value)} (p:l'.Perm l):∀ {ks:List (List Int)},Al prog w h ks l->∃ ks',Al prog w h ks' l'/\ks'.Perm ks:=by
  have gen:∀ {l l':List (Int×Value)},l.Perm l'->∀ {ks:List (List Int)},Al prog w h ks l->∃ ks',Al prog w h ks' l'/\ks'.Perm ks:=by
    intro l l' p
    induction p with
    | nil=>intro ks a; exact ⟨ks,a,.refl _⟩
    | cons x p ih=>
      intro ks a
      cases ks with
      | nil=>unfold Al at a; cases a
      | cons k ks=>
        unfold Al at a
        obtain ⟨b,r,e,t,a⟩:=a
        injection e with e1 e2
        subst e1 e2
        obtain ⟨ks',a',p'⟩:=ih a
        exact ⟨k::ks',by unfold Al; exact ⟨b,_,rfl,t,a'⟩,p'.cons k⟩
    | swap x y l=>
      intro ks a
      cases ks with
      | nil=>unfold Al at a; cases a
      | cons k ks=>
        unfold Al at a
        obtain ⟨b,r,e,t,a⟩:=a
        injection e with e1 e2
        subst e1 e2
        cases ks with
        | nil=>unfold Al at a; cases a
        | cons k2 ks=>
          unfold Al at a
          obtain ⟨b2,r2,e,t2,a⟩:=a
          injection e with e1 e2
          subst e1 e2
          refine ⟨k2::k::ks,?_,.swap _ _ _⟩
          unfold Al
          refine ⟨b2,_,rfl,t2,?_⟩
          unfold Al
          exact ⟨b,_,rfl,t,a⟩
    | trans p1 p2 ih1 ih2=>
      intro ks a
      obtain ⟨ks1,a1,q1⟩:=ih1 a
      obtain ⟨ks2,a2,q2⟩:=ih2 a1
      exact ⟨ks2,a2,q2.trans q1⟩
  exact fun {ks} a=>gen p.symm a
end
noncomputable def SetI (G:Addr->Prop) (prog:Program) (w:World) (h:Heap) (a:Addr) (keys:List (List Int)):Prop:=∃ o es ep t,h.get? a=some o/\o.ExactSet/\o.data=.set es ep t/\TI t es/\Al prog w h keys es.toList/\keys.Nodup /\
  (t.mask=7\/t.mask=31\/t.mask=127)/\es.size*5 < t.mask*3/\t.plain=true/\t.led=(!w.params.followText "set-order")/\∀ p∈es.toList,∃ b,p.2=Value.ref b/\G b
theorem Zgi {m:Nat} (h:m=7\/m=31\/m=127):ZeX m:=by
  rcases h with rfl | rfl | rfl
  · exact Zk4
  · exact Zk5
  · exact Zjr
theorem TK.keep {prog:Program} {w:World} {h h':Heap} {a:Addr} {o:Obj} {es ep t} (ho:h.get? a=some o) (hd:o.data=.set es ep t) (sb:Heap.SameBut a h h') {k:List Int} {b:Addr} (hk:TK prog w h k b):TK prog w h' k b:=by
  obtain ⟨ob,items,n,hb,hc,hdb,hi⟩:=hk
  have ne:b≠a:=by
    rintro rfl
    rw [ho] at hb; cases hb
    rw [hd] at hdb; cases hdb
  exact ⟨ob,items,n,(sb.2 b ne).trans hb,hc,hdb,hi⟩
noncomputable def Zke (es:Array (Int×Value)) (l:Option (SetTable×Array Nat)):Sem (Array (Int×Value)×SetTable):=do
  let some (t,order):=l | unsupported "internal:set-table-without-room"
  let out:=order.filterMap (es[·]?)
  if out.size != es.size then unsupported "internal:set-table-lost-an-element"
  pure (out,t)
section
variable {prog:Program} {w:World} {A:Around} {E:Value->Shared->Prop} {s:Shared} {a:Addr} {keys:List (List Int)}
theorem ZbS {h:Heap} {o:Obj} {es es':Array (Int×Value)} {ep:Nat} {t t':SetTable} (ho:h.get? a=some o) (hd:o.data=.set es ep t):(h.update a (Obj.putSet es' t')).get? a=some { o with data:=.set es' (ep+1) t' }:=by
  have:=Heap.get?_update_self (Obj.putSet es' t') ho (by rw [putSet_of es' t' hd]; rfl)
  rw [putSet_of es' t' hd] at this; exact this
theorem Ze4 {G:Addr->Prop} (S:SetI G prog w s.heap a keys) {k:List Int} {b:Addr} (hG:G b) (hu:A.units < cLine) (hk:TK prog w s.heap k b) (hz:keys.length < 70) {Q:Bool->Shared->Prop}
    (q:∀ r h' tk keys',Heap.SameBut a s.heap h'->SetI G prog w h' a keys'->(∀ x,x∈keys' ↔ x∈keys\/x=k)->keys'.length<=keys.length+1->Q r { s with heap:=h',toks:=tk }):wpAny (model prog w) A (setAdd a (.ref b)) Q E s:=by
  unfold setAdd
  refine wpAny_holding (wpAny_bind (wpAny_pyHash_tuple hu hk ?_))
  generalize s.toks+(k.length+1)=tk0
  obtain ⟨o,es,ep,t,ho,hc,hd,I,al,nd,hm,hf,hpl0,hld0,hgs⟩:=id S
  have hal:keys.length=es.size:=al.length
  have T:TSet prog w ({ s with toks:=tk0 }:Shared).heap a o es ep t keys:=⟨ho,hd,I,hal,fun i k' e=>by
    obtain ⟨b',e1,e2⟩:=al.get e
    exact ⟨b',by rw [Array.getElem?_toList] at e1; exact e1,e2⟩⟩
  unfold setAddHashed setAddHashedIn
  refine wpAny_holding (wpAny_bind (wpAny_setState_of T.ho T.hd T.fits ?_))
  dsimp only
  have bs:byScan (.ref b) es=false:=by simp [byScan,Value.scannable]
  rw [bs,if_neg (by decide)]
  obtain ⟨m,m1,m2,m3⟩:=ZeG I.full I.ris.nodup (by have:=I.size; have:=I.room; simp; omega) (Run.st t.mask (kh prog w k)) (ZgJ _)
  have hmask:t.mask<=127:=by rcases hm with h | h | h <;> omega
  refine wpAny_bind ?_
  unfold setSearch
  refine Ze5 T hu hk m1 m2 m3 (fun hin=>?_) (fun hout=>?_) m 0 100000 none (by omega) (by unfold turns at m1; omega) rfl (fun m' hm'=>absurd hm' (Nat.not_lt_zero _))
  · dsimp only
    exact wpAny_pure (q false s.heap tk0 keys (Heap.SameBut.refl a s.heap) S (fun x=>⟨.inl,fun z=>z.elim id fun e=>e ▸ hin⟩) (by omega))
  · dsimp only
    refine wpAny_bind (wpAny_setState_of T.ho T.hd T.fits ?_)
    dsimp only
    have hroom:es.size+1<=t.mask:=by rcases hm with h | h | h <;> omega
    have P:=I.put (x:=Value.ref b) m2 m3 hroom
    have hpm:(t.put (nth t.mask (st t.mask (kh prog w k)) m).j).1.mask=t.mask:=rfl
    have hpp:(t.put (nth t.mask (st t.mask (kh prog w k)) m).j).1.plain=t.plain:=rfl
    have hpq:(t.put (nth t.mask (st t.mask (kh prog w k)) m).j).1.led=t.led:=rfl
    generalize t.put (nth t.mask (st t.mask (kh prog w k)) m).j=tp at P hpm hpp hpq
    obtain ⟨t1,p⟩:=tp
    dsimp only at P hpm hpp hpq ⊢
    rw [hpl0] at hpp
    rw [hld0] at hpq
    have hgi:∀ q∈(SetTable.insertAt es p (kh prog w k,Value.ref b)).toList,∃ b,q.2=Value.ref b/\G b:=fun q hq=>by
      rw [SetTab.toList_insertAt] at hq
      rcases List.mem_append.mp hq with z | z
      · exact hgs q (List.mem_of_mem_take z)
      · rcases List.mem_cons.mp z with y | y
        · exact ⟨b,by rw [y],hG⟩
        · exact hgs q (List.mem_of_mem_drop y)
    have cont:wpAny (model prog w) A (do
        storeSet a (SetTable.insertAt es p (kh prog w k,.ref b)) t1
        if (!false&&t1.tooFull)=true then do
          setRelay a (SetTable.grown (es.size+1))
          pure true
        else pure true) Q E ({ s with toks:=tk0 }:Shared):=by
      have hsz:(SetTable.insertAt es p (kh prog w k,Value.ref b)).size=es.size+1:=Qx _ _ _
      have hsl:(sizeLine:Nat)=16777216:=sizeLine_eq
      refine wpAny_bind (wpAny_storeSet_of T.ho T.hd ?_ (by rw [hsz]; omega))
      have sb1:Heap.SameBut a s.heap (s.heap.update a (Obj.putSet (SetTable.insertAt es p (kh prog w k,.ref b)) t1)):=Heap.SameBut.update s.heap a _
      have g1:(s.heap.update a (Obj.putSet (SetTable.insertAt es p (kh prog w k,.ref b)) t1)).get? a=some { o with data:=.set (SetTable.insertAt es p (kh prog w k,.ref b)) (ep+1) t1 }:=ZbS ho hd
      have kp1:∀ k b,TK prog w s.heap k b->TK prog w (s.heap.update a (Obj.putSet (SetTable.insertAt es p (kh prog w k,.ref b)) t1)) k b:=fun k' b' hk'=>by
        obtain ⟨ob,items,n,hb,hcb,hdb,hi⟩:=hk'
        have ne:b'≠a:=by
          rintro rfl
          rw [ho] at hb; cases hb
          rw [hd] at hdb; cases hdb
        exact ⟨ob,items,n,((Heap.SameBut.update s.heap a _).2 b' ne).trans hb,hcb,hdb,hi⟩
      have kp:∀ k' b',TK prog w s.heap k' b'->TK prog w (s.heap.update a (Obj.putSet (SetTable.insertAt es p (kh prog w k,.ref b)) t1)) k' b':=fun k' b' hk'=>TK.keep ho hd sb1 hk'
      have al1:Al prog w (s.heap.update a (Obj.putSet (SetTable.insertAt es p (kh prog w k,.ref b)) t1)) (keys.take p++k::keys.drop p) (SetTable.insertAt es p (kh prog w k,Value.ref b)).toList:=by
        rw [SetTab.toList_insertAt]
        exact ((al.take p).append ((Al.one hk).append (al.drop p))).keep kp
      have pm:(keys.take p++k::keys.drop p).Perm (k::keys):=by
        have:=(List.perm_middle (a:=k) (l₁:=keys.take p) (l₂:=keys.drop p))
        rw [List.take_append_drop] at this
        exact this
      have nd1:(keys.take p++k::keys.drop p).Nodup:=pm.nodup_iff.mpr (List.nodup_cons.mpr ⟨hout,nd⟩)
      have mem1:∀ x,x∈keys.take p++k::keys.drop p ↔ x∈keys\/x=k:=fun x=>by rw [pm.mem_iff,List.mem_cons]; exact or_comm
      have len1:(keys.take p++k::keys.drop p).length<=keys.length+1:=by rw [pm.length_eq]; simp
      have hm1:t1.mask=7\/t1.mask=31\/t1.mask=127:=by rw [hpm]; exact hm
      have hfill:t1.fill=es.size+1:=by
        have h1:=P.size; have h2:=P.dm
        simp [SetTable.fill,h2,h1,hsz]
      by_cases tf:t1.tooFull=true
      · rw [tf,if_pos (by decide)]
        have tf':(es.size+1)*5>=t.mask*3:=by
          simp only [SetTable.tooFull,hfill,hpm] at tf
          simpa using tf
        refine wpAny_bind ?_
        unfold setRelay
        have T1:TSet prog w (s.heap.update a (Obj.putSet (SetTable.insertAt es p (kh prog w k,.ref b)) t1)) a _ (SetTable.insertAt es p (kh prog w k,.ref b)) (ep+1) t1 (keys.take p++k::keys.drop p):=⟨g1,rfl,P,by rw [al1.length,Array.length_toList],fun i k' e=>by
          obtain ⟨b',e1,e2⟩:=al1.get e
          exact ⟨b',by rw [Array.getElem?_toList] at e1; exact e1,e2⟩⟩
        refine wpAny_bind (wpAny_setState_of g1 rfl (T1.fits (s:={ s with heap:=_ })) ?_)
        dsimp only
        have big:∃ M,SetTable.sizeAbove (SetTable.grown (es.size+1))=M+1/\(M=7\/M=31\/M=127)/\(es.size+1)*5 < M*3:=by
          have e5:es.size=4/\t.mask=7\/es.size=18/\t.mask=31:=by
            have h70:es.size < 70:=by omega
            rcases hm with h | h | h
            · rw [h] at hf tf'; omega
            · rw [h] at hf tf'; omega
            · rw [h] at hf tf'; omega
          rcases e5 with ⟨e5,_⟩ | ⟨e5,_⟩
          · rw [e5]; exact ⟨31,by decide,by decide,by decide⟩
          · rw [e5]; exact ⟨127,by decide,by decide,by decide⟩
        obtain ⟨M,eM,hM,hMf⟩:=big
        rw [eM,if_neg (by omega)]
        obtain ⟨t2,order,el,l1,l2,l3,l4,l5,l6,l7⟩:=Zjf (finger:=t1.finger) (moves:=t1.movedTo M) (led:=t1.led) (plain:=t1.plain) (Zgi hM) (by rcases hM with h | h | h <;> omega) (SetTable.insertAt es p (kh prog w k,Value.ref b)) (by rw [hsz]; omega)
        have er:t1.relaid ((SetTable.insertAt es p (kh prog w k,Value.ref b)).map (·.1)) (SetTable.grown (es.size+1))=some (t2,order):=by
          unfold SetTable.relaid
          rw [eM]
          exact el
        rw [er]
        show wpAny _ _ (Zke (SetTable.insertAt es p (kh prog w k,Value.ref b)) (some (t2,order)) >>= _) _ _ _
        unfold Zke
        dsimp only
        rw [l5,if_neg (by simp)]
        refine wpAny_bind (wpAny_pure ?_)
        dsimp only
        refine wpAny_storeSet_of (s:={ s with heap:=_,toks:=tk0 }) g1 rfl ?_ (by rw [l5,hsz]; omega)
        have sb2:=Heap.SameBut.update (s.heap.update a (Obj.putSet (SetTable.insertAt es p (kh prog w k,.ref b)) t1)) a (Obj.putSet (order.filterMap ((SetTable.insertAt es p (kh prog w k,Value.ref b))[·]?)) t2)
        have g2:(Heap.update (s.heap.update a (Obj.putSet (SetTable.insertAt es p (kh prog w k,.ref b)) t1)) a (Obj.putSet (order.filterMap ((SetTable.insertAt es p (kh prog w k,Value.ref b))[·]?)) t2)).get? a=some { o with data:=.set _ (ep+1+1) t2 }:=ZbS (o:={ o with data:=.set (SetTable.insertAt es p (kh prog w k,Value.ref b)) (ep+1) t1 }) g1 rfl
        obtain ⟨keys2,al2,pm2⟩:=Al.perm l7 al1
        refine wpAny_pure (q true _ tk0 keys2 (sb1.trans sb2) ⟨_,_,_,t2,g2,hc,rfl,l6,al2.keep fun k' b' hk'=>TK.keep g1 rfl sb2 hk',pm2.nodup_iff.mpr nd1,by rw [l1]; exact hM,by rw [l1,l5,hsz]; exact hMf,by rw [l3]; exact hpp,by rw [l2]; exact hpq,fun q hq=>hgi q (l7.mem_iff.mp hq)⟩ (fun x=>by rw [pm2.mem_iff]; exact mem1 x) (by rw [pm2.length_eq]; exact len1))
      · have tf0:t1.tooFull=false:=by simpa using tf
        rw [tf0,if_neg (by decide)]
        have tf':(es.size+1)*5 < t1.mask*3:=by
          simp only [SetTable.tooFull,hfill] at tf0
          simpa using tf0
        exact wpAny_pure (q true _ tk0 _ sb1 ⟨_,_,_,t1,g1,hc,rfl,P,al1,nd1,hm1,by rw [hsz]; exact tf',hpp,hpq,hgi⟩ mem1 len1)
    by_cases hpl:t1.plain=true
    · rw [if_pos hpl]
      refine wpAny_bind (Ze6 (s:={ s with toks:=tk0 }) hk ?_)
      rw [if_pos rfl]
      exact cont
    · rw [if_neg hpl]
      refine wpAny_bind (wpAny_pure ?_)
      rw [if_pos rfl]
      exact cont
end
set_option maxHeartbeats 2000000
section
variable {prog:Program} {w:World} {A:Around} {R:Result->Shared->Prop} {I S:Addr} {fp wr:List Addr} {n:Nat} {P:Nat->Value->Prop} {St:Nat->Heap->Prop}
theorem TK.kept {h h':Heap} {k:List Int} {b:Addr} (hk:TK prog w h k b) (hw:∀ x∈wr,∃ o vs,h.get? x=some o/\o.data=.fields vs) (kp:∀ b o,b ∉ wr->h.get? b=some o->h'.get? b=some o):TK prog w h' k b:=by
  obtain ⟨ob,items,n,hb,hcb,hdb,hi⟩:=hk
  refine ⟨ob,items,n,kp b ob (fun hm=>?_) hb,hcb,hdb,hi⟩
  obtain ⟨o,vs,h1,h2⟩:=hw b hm
  rw [hb] at h1; cases h1
  rw [hdb] at h2; cases h2
theorem SetI.kept {G:Addr->Prop} {h h':Heap} {keys:List (List Int)} (X:SetI G prog w h S keys) (hSw:S ∉ wr) (hw:∀ x∈wr,∃ o vs,h.get? x=some o/\o.data=.fields vs) (kp:∀ b o,b ∉ wr->h.get? b=some o->h'.get? b=some o):SetI G prog w h' S keys:=by
  obtain ⟨o,es,ep,t,h1,h2,h3,h4,h5,r⟩:=X
  exact ⟨o,es,ep,t,kp _ _ hSw h1,h2,h3,h4,h5.keep fun k b hk=>TK.kept hk hw kp,r⟩
theorem Zg7 {G:Addr->Prop} (W:Walks prog w A.in1 I fp wr n P St) (hSf:S ∉ fp) (hw:∀ i h,St i h->∀ x∈wr,∃ o vs,h.get? x=some o/\o.data=.fields vs) (h0:Heap) (hS0:h0.get? S=none) (kw:∀ b o,h0.get? b=some o->b ∉ wr) (ks:List (List Int)) (hks:ks.length=n)
    (hP:∀ i v k,P i v->ks[i]?=some k->∃ b,v=.ref b/\TK prog w h0 k b/\G b) (hn:n<=70) (hu:A.in1.units < cLine) :
    ∀ (d i:Nat) (s:Shared) (keys:List (List Int)),n-i=d->i<=n->(∀ b o,h0.get? b=some o->s.heap.get? b=some o)->St i s.heap->SetI G prog w s.heap S keys->(∀ x,x∈keys ↔ x∈ks.take i)->keys.length<=i ->
      (∀ h' tk keys',SetI G prog w h' S keys'->(∀ x,x∈keys' ↔ x∈ks)->(∀ b o,h0.get? b=some o->h'.get? b=some o)->R (.ok (.ret .none)) { s with heap:=h',toks:=tk }) ->
      codeAny (model prog w) A (.builtin "set.update.loop" ⟨[.ref S,.ref I],[]⟩) R s:=by
  have hSw:S ∉ wr:=fun h=>hSf (W.sub _ h)
  intro d
  induction d with
  | zero=>
    intro i s keys hk hi hg hst hS hmem hlen hR
    have hin:i=n:=by omega
    subst hin
    refine codeAny_builtin F.entry_set_update_loop ?_
    rw [Around.under_plainId F.plain_set_update_loop _]; show wpAny _ A.in1 (pyNext (.ref I) >>= _) _ _ s; refine wpAny_bind (W.done s _ _ hst fun h' tk hk'=>?_)
    show wpAny _ A.in1 (ret Value.none) _ _ _
    refine wpAny_pure (hR h' tk keys (hS.kept hSw (hw _ _ hst) hk') (fun x=>by rw [hmem x,<-hks,List.take_length]) fun b o e=>hk' b o (kw b o e) (hg b o e))
  | succ d ih=>
    intro i s keys hk hi hg hst hS hmem hlen hR
    have hlt:i < n:=by omega
    refine codeAny_builtin F.entry_set_update_loop ?_
    rw [Around.under_plainId F.plain_set_update_loop _]; show wpAny _ A.in1 (pyNext (.ref I) >>= _) _ _ s; refine wpAny_bind (W.item i s _ _ hlt hst fun v h' tk hPv hst' hk'=>?_)
    obtain ⟨b,rfl,hkb,hgb⟩:=hP i v ks[i] hPv (by simp [show i < ks.length by omega])
    have hS':=hS.kept hSw (hw _ _ hst) hk'
    have hg':∀ b o,h0.get? b=some o->h'.get? b=some o:=fun b o e=>hk' b o (kw b o e) (hg b o e)
    have hkb':TK prog w h' ks[i] b:=by obtain ⟨ob,items,m,hb,r⟩:=hkb; exact ⟨ob,items,m,hg' _ _ hb,r⟩
    show wpAny _ A.in1 (holding [Value.ref b] (setAdd S (.ref b)) >>= _) _ _ _
    refine wpAny_bind (wpAny_holding (Ze4 (hG:=hgb) (s:={ s with heap:=h',toks:=tk }) hS' hu hkb' (by omega) fun r h'' tk'' keys'' sb hS'' hm'' hl''=>?_))
    refine wpAny_pure ⟨plainId_quiet F.plain_set_update_loop _,ih (i+1) _ keys'' (by omega) hlt (fun b o e=>?_) (W.frame _ _ _ hst' fun b hb o e=>?_) hS'' (fun x=>?_) (by omega) fun h3 tk3 keys3 a1 a2 a3=>hR h3 tk3 keys3 a1 a2 a3⟩
    · exact (sb.2 b fun z=>by rw [z,hS0] at e; cases e).trans (hg' b o e)
    · exact (sb.2 b fun z=>hSf (z ▸ hb)).trans e
    · have e:ks.take (i+1)=ks.take i++[ks[i]]:=by rw [List.take_add_one]; simp [show i < ks.length by omega]
      rw [hm'' x,hmem x,e,List.mem_append,List.mem_singleton]
end
section
variable {prog:Program} {w:World} {A:Around} {E:Value->Shared->Prop} {s:Shared}
set_option maxHeartbeats 3200000 in
theorem Zc0 (a:Value) {Q₁:Value->Shared->Prop}
    (h:Q₁ (.ref s.heap.objs.size) { s with heap:=s.heap.push { cls:=.type "set",dict:=none,data:=.set #[] 0 (.fresh 0 0 (!w.params.followText "set-order")) } }) :
    codeAny (model prog w) A (.call (.builtin "set.__new__") ⟨[.type "set",a],[]⟩) (wants Q₁ E) s:=by
  refine codeAny_of_tree ?_
  show wpAny _ A.in1 (do checkBuiltinCall "set.__new__" ⟨[.type "set",a],[]⟩; again (.builtin "set.__new__" ⟨[.type "set",a],[]⟩)) _ _ s
  refine wpAny_bind (wpAny_of_eq (F.newCall_set_1 a) (wpAny_pure ⟨plainId_quiet F.plain_set_new _,codeAny_builtin F.entry_set_new ?_⟩))
  rw [Around.under_plainId F.plain_set_new _]
  unfold Builtin.«set.__new__» Builtin.Frozenset.newClass
  have hsub:=sub_set_self
  obtain ⟨hp,g,d,tk,os⟩:=s
  dsimp only
  wp_walk
  refine wpAny_askSetting (wpAny_pure ?_)
  dsimp only
  simp only [newObj]
  refine wpAny_bind (wpAny_alloc (wpAny_pure ?_))
  exact wpAny_pure h
theorem ZdG {G:Addr->Prop} {l:Addr} {T:String} {Q:Value->Shared->Prop} {ks:List (List Int)} (hT0:s.TypeIs (.ref l) T) (hsls:isSubtype (.type T) (.type "set")=pure false) (hslf:isSubtype (.type T) (.type "frozenset")=pure false) (hne:(Value.type T==Value.type "dict")=false)
    (hn:ks.length<=70) (hu:A.units+8 < cLine)
    (hit:∀ (A':Around) (s1:Shared) (Q':Value->Shared->Prop),A'.handled=A.handled->(∀ b o,s.heap.get? b=some o->s1.heap.get? b=some o) ->
      (∀ (it:Addr) (fp wr:List Addr) (St:Nat->Heap->Prop) (P:Nat->Value->Prop) (h2:Heap),(∀ A'':Around,A''.handled=A.handled->Walks prog w A'' it fp wr ks.length P St)->St 0 h2->s.heap.objs.size ∉ fp->(∀ i h,St i h->∀ x∈wr,∃ o vs,h.get? x=some o/\o.data=.fields vs)->(∀ b o,s1.heap.get? b=some o->h2.get? b=some o/\b ∉ wr) ->
        (∀ i v k,P i v->ks[i]?=some k->∃ b,v=.ref b/\TK prog w s.heap k b/\G b)->Q' (.ref it) { s1 with heap:=h2 })->s.heap.objs.size < s1.heap.objs.size->wpAny (model prog w) A' (pyIter (.ref l)) Q' E s1)
    (h:∀ (h':Heap) (tk:Nat) keys,SetI G prog w h' s.heap.objs.size keys->(∀ x,x∈keys ↔ x∈ks)->(∀ b o,s.heap.get? b=some o->h'.get? b=some o)->Q (.ref s.heap.objs.size) { s with heap:=h',toks:=tk }) :
    wpAny (model prog w) A (call (.type "set") [.ref l]) Q E s:=by
  obtain ⟨c,tl,hmro⟩:=F.called_set.mro
  have hmade:=F.called_set.made
  have hsub:=F.called_set.sub
  refine wpAny_call (codeAny_of_tree ?_)
  show wpAny _ _ (callAny (.type "set") _) _ _ _
  refine wpAny_pure ⟨Code.quiet_builtin _ (by decide +kernel),codeAny_builtin F.entry_type_call ?_⟩
  rw [Around.under_plain (weight_type_call_type "set" [.ref l] []) rfl]
  have h1:=F.called_set.notType
  have h2:=F.called_set.canCreate
  have hct:=F.typeCall_set_1 (.ref l)
  repeat (any_goals (first | assumption | wp_step))
  refine codeAny_mono (Zc0 (.ref l) (E:=E) (Q₁:=fun obj s₁=>∃ led:Bool,Nonempty (PLift (led=(!w.params.followText "set-order")))/\obj=.ref s.heap.objs.size/\s₁={ s with heap:=s.heap.push { cls:=.type "set",dict:=none,data:=.set #[] 0 (.fresh 0 0 led) } }) ⟨_,⟨⟨rfl⟩⟩,rfl,rfl⟩) fun r s₁ hr=>?_
  cases r with
  | error e=>exact hr
  | ok fl=>
    cases fl with
    | ret obj=>
      obtain ⟨led,hled,rfl,rfl⟩:=hr
      have hS:(s.heap.push { cls:=.type "set",dict:=none,data:=.set #[] 0 (.fresh 0 0 led) }).get? s.heap.objs.size=some { cls:=.type "set",dict:=none,data:=.set #[] 0 (.fresh 0 0 led) }:=Heap.get?_push_size _ rfl
      have hT:Shared.TypeIs { s with heap:=s.heap.push { cls:=.type "set",dict:=none,data:=.set #[] 0 (.fresh 0 0 led) } } (.ref s.heap.objs.size) "set":=⟨_,hS,rfl⟩
      have hli:=F.called_set.init.lookup
      have hbi:=F.called_set.init.bind (.ref s.heap.objs.size)
      repeat (any_goals (first | assumption | wp_step))
      refine codeAny_mono (codeAny_call_builtin (R:=wants (fun r s₂=>r=.none/\∃ h' tk keys,s₂={ s with heap:=h',toks:=tk }/\SetI G prog w h' s.heap.objs.size keys/\(∀ x,x∈keys ↔ x∈ks)/\(∀ b o,s.heap.get? b=some o->h'.get? b=some o)) E) F.called_set.init.plain F.entry_set_init (check_set_init_1 hT ?_)) fun r₂ s₂ hr₂=>?_
      · have hT1:Shared.TypeIs { s with heap:=s.heap.push { cls:=.type "set",dict:=none,data:=.set #[] 0 (.fresh 0 0 led) } } (.ref l) T:=by
          obtain ⟨o,ho,hc⟩:=hT0
          exact ⟨o,Heap.get?_push_of_some _ ho,hc⟩
        unfold Builtin.«set.__init__» noKeywords Builtin.Frozenset.updateFrom
        generalize hPI:pyIter=PI
        wp_walk
        subst hPI
        refine hit _ _ _ (by simp) (fun b o e=>Heap.get?_push_of_some _ e) (fun it fp wr St P h2 W st nf hw kp hP=>?_) (by rw [Heap.size_push]; exact Nat.lt_succ_self _)
        refine wpAny_bind (wpAny_runValue ?_)
        have hS2:=(kp _ _ hS).1
        refine Zg7 (W _ (by simp)) nf hw s.heap (Heap.get?_none_of_le (Nat.le_refl _)) (fun b o e=>(kp b o (Heap.get?_push_of_some _ e)).2) ks rfl hP hn (by simp; omega) (ks.length-0) 0 ({ s with heap:=h2 }:Shared) [] (by omega) (Nat.zero_le _) (fun b o e=>(kp b o (Heap.get?_push_of_some _ e)).1) st ?_ (fun x=>by simp) (Nat.le_refl _) fun h' tk keys' a1 a2 a3=>?_
        · refine ⟨_,#[],0,.fresh 0 0 led,hS2,⟨rfl,rfl,rfl⟩,rfl,?_,by simp [Al],List.nodup_nil,.inl rfl,(show 0*5 < 7*3 by decide),rfl,hled.elim fun x=>x.down,fun p hp=>by cases hp⟩
          exact ⟨rfl,rfl,by simp [Ris,SetTable.fresh],by simp [SetTable.fresh],Zk4,(show 0<=7 by decide),(show 7 % 2=1 by decide),fun i h1=>absurd h1 (Nat.not_lt_zero _)⟩
        · show wpAny _ _ _ _ _ _
          refine wpAny_pure ?_
          show wpAny _ _ (ret Value.none) _ _ _
          exact wpAny_pure ⟨rfl,h',tk,keys',rfl,a1,a2,a3⟩
      · cases r₂ with
        | error e=>exact hr₂
        | ok fl₂=>
          cases fl₂ with
          | ret r=>
            obtain ⟨rfl,h',tk,keys,rfl,hS',hm',hk'⟩:=hr₂
            repeat (any_goals (first | assumption | wp_step))
            exact h _ _ keys hS' hm' hk'
          | _=>exact hr₂.elim
    | _=>exact hr.elim
end
noncomputable def VI:List (List Int)->List (List Int)
  | []=>[]
  | k::r=>if k∈r then VI r else k::VI r
theorem mem_nubI:∀ {ks:List (List Int)} {x:List Int},x∈VI ks ↔ x∈ks
  | [],x=>by simp [VI]
  | k::r,x=>by
    unfold VI
    by_cases c:k∈r
    · rw [if_pos c,mem_nubI,List.mem_cons]
      exact ⟨.inr,fun z=>z.elim (fun e=>e ▸ c) id⟩
    · rw [if_neg c,List.mem_cons,List.mem_cons,mem_nubI]
theorem Vq:∀ (ks:List (List Int)),(VI ks).Nodup
  | []=>List.nodup_nil
  | k::r=>by
    unfold VI
    by_cases c:k∈r
    · rw [if_pos c]; exact Vq r
    · rw [if_neg c]; exact List.nodup_cons.mpr ⟨fun z=>c (mem_nubI.mp z),Vq r⟩
theorem Zbk {α:Type} [DecidableEq α]:∀ {l m:List α},l.Nodup->(∀ x∈l,x∈m)->l.length<=m.length
  | [],m,_,_=>Nat.zero_le _
  | x::l,m,nd,h=>by
    obtain ⟨h1,h2⟩:=List.nodup_cons.mp nd
    have hm:=h x List.mem_cons_self
    have:=Zbk (l:=l) (m:=m.erase x) h2 fun y hy=>(List.mem_erase_of_ne (fun (e:y=x)=>h1 (by rw [<-e]; exact hy))).mpr (h y (List.mem_cons_of_mem _ hy))
    rw [List.length_erase_of_mem hm] at this
    have:0 < m.length:=List.length_pos_of_mem hm
    simp; omega
theorem ZfU {l m:List (List Int)} (h1:l.Nodup) (h2:m.Nodup) (h:∀ x,x∈l ↔ x∈m):l.length=m.length:=
  Nat.le_antisymm (Zbk h1 fun x hx=>(h x).mp hx) (Zbk h2 fun x hx=>(h x).mpr hx)
noncomputable def U2:List D->Option (List (List Int))
  | []=>some []
  | .tup ys::r=>(Ui ys).bind fun k=>(U2 r).map (k::·)
  | _::_=>none
theorem Vs:∀ {xs:List D} {ks:List (List Int)} {i:Nat} {k:List Int},U2 xs=some ks->ks[i]?=some k->xs[i]?=some (.tup (k.map .int))
  | [],ks,i,k,h,e=>by cases h; simp at e
  | d::xs,ks,i,k,h,e=>by
    cases d with
    | tup ys=>
      obtain ⟨k0,h1,h2⟩:=bind_some (show (Ui ys).bind (fun k=>(U2 xs).map (k::·))=some ks from h)
      obtain ⟨ks',h3,rfl⟩:=map_some h2
      cases i with
      | zero=>simp at e; subst e; simp [We h1]
      | succ i=>simpa using Vs h3 (by simpa using e)
    | _=>cases h
theorem ZaE:∀ {xs:List D} {ks:List (List Int)},U2 xs=some ks->ks.length=xs.length
  | [],ks,h=>by cases h; rfl
  | d::xs,ks,h=>by
    cases d with
    | tup ys=>
      obtain ⟨k0,h1,h2⟩:=bind_some (show (Ui ys).bind (fun k=>(U2 xs).map (k::·))=some ks from h)
      obtain ⟨ks',h3,rfl⟩:=map_some h2
      simp [ZaE h3]
    | _=>cases h
noncomputable def Vy:D->Option D:=fun d=>(Qf d).bind fun xs=>(U2 xs).bind fun ks=>if ks.length<=70 then some (.int (VI ks).length) else none
section
variable {X:Cx} {pins:List (Addr×Obj)} {σ:L2.St} {H:Hp} {s:Shared} {F:Fz}
theorem U3:∀ {vs:List Value} {ns:List Int},IntsAre vs ns->ItemsAre (intKind X.prog X.w) ns vs
  | _,_,.nil=>.nil
  | _,_,.cons n t h=>.cons (intKind_is _ _ _ _) (U3 h)
theorem Zlz (I:Inv X pins σ H s) {k:List Int} {x:V} {v:Value} (r:Rep X.K F H (.tup (k.map .int)) x) (rv:RelV x v):∃ b,v=.ref b/\TK X.prog X.w s.heap k b:=by
  unfold Rep at r
  obtain ⟨a,vs,rfl,h1,l1⟩:=r
  cases rv
  obtain ⟨its,rv,p,_⟩:=I.tuple h1
  obtain ⟨o,ho,hc,n,hd⟩:=p
  exact ⟨a,rfl,o,its.toArray,n,ho,hc,hd,by simpa using U3 (Jq l1 rv)⟩
theorem ZiE {A:Around} (hh:A.handled=none) (hu:A.units+8 < cLine) (I:Inv X pins σ H s) {d:D} {xs:List D} {ks:List (List Int)} {x:V} {v:Value} {Q:Value->Shared->Prop} {E:Value->Shared->Prop} (hs:Qf d=some xs) (hk:U2 xs=some ks) (hn:ks.length<=70)
    (r:Rep X.K F H d x) (rv:RelV x v) (q:∀ (h':Heap) (tk:Nat) keys,SetI (fun b=>∃ (j:Nat) (dd:D) (ff:Nat),xs[j]?=some dd/\Rep X.K F H dd (.ref b)) X.prog X.w h' s.heap.objs.size keys->(∀ x,x∈keys ↔ x∈ks)->(∀ b o,s.heap.get? b=some o->h'.get? b=some o)->Q (.ref s.heap.objs.size) { s with heap:=h',toks:=tk }) :
    wpAny (model X.prog X.w) A (call (.type "set") [v]) Q E s:=by
  obtain ⟨a,vs,rfl,hq,hr⟩:=Zfy hs r
  cases rv
  have keyP:∀ {its:List Value},Vals vs its->∀ (i:Nat) v k,its[i]?=some v->ks[i]?=some k->∃ b,v=.ref b/\TK X.prog X.w s.heap k b/\∃ (j:Nat) (dd:D) (ff:Nat),xs[j]?=some dd/\Rep X.K F H dd (.ref b):=fun {its} rv i v k hv hki=>by
    obtain ⟨x,ex,rx⟩:=hr.get (Vs hk hki)
    obtain ⟨u,eu,ru⟩:=rv.get ex
    rw [hv] at eu; cases eu
    obtain ⟨b,e1,e2⟩:=Zlz I rx ru
    have rx':=rx
    unfold Rep at rx'
    obtain ⟨a',vs',e3,_⟩:=rx'
    subst e3
    cases ru
    cases e1
    exact ⟨_,rfl,e2,i,_,0,Vs hk hki,rx⟩
  have hlen:∀ {its:List Value},Vals vs its->ks.length=its.length:=fun rv=>by rw [ZaE hk,hr.length,rv.length]
  rcases hq with hq | hq
  · obtain ⟨its,rv,p,hz⟩:=I.list hq
    have hl:=p.isList
    have hlt:a < s.heap.objs.size:=by obtain ⟨_,e,_⟩:=hl; exact Heap.lt_size e
    refine ZdG hl.typeIs PySem.F.sub_list_set PySem.F.sub_list_frozenset (by decide) hn hu (fun A' s1 Q' hA kp q' hsz=>?_) q
    have hl1:s1.heap.IsList a its.toArray:=hl.at fun o e=>kp a o e
    refine wpAny_pyIter_list hl1 ?_
    refine q' s1.heap.objs.size [s1.heap.objs.size,a] [s1.heap.objs.size] (fun i h=>h.IsListIter s1.heap.objs.size a i/\h.IsList a its.toArray) (fun i v=>its.toArray[i]?=some v) _ (fun A'' hA''=>?_) ⟨⟨_,Heap.get?_push_size _ rfl,rfl,rfl⟩,hl1.push _⟩ ?_ (fun i h st x hx=>?_) (fun b o e=>⟨Heap.get?_push_of_some _ e,fun hb=>?_⟩) (fun i v k hv hki=>keyP rv i v k (by simpa using hv) hki)
    · have:=Walks.list (prog:=X.prog) (w:=X.w) (A:=A'') (hA''.trans hh) s1.heap.objs.size a (Nat.ne_of_lt (Nat.lt_trans hlt hsz)) its.toArray
      have z:its.toArray.size=ks.length:=by rw [hlen rv]; simp
      rw [z] at this
      exact this
    · intro hb
      rcases List.mem_cons.mp hb with z | hb
      · exact absurd z (Nat.ne_of_lt hsz)
      · rw [List.mem_singleton] at hb; exact absurd hb (Nat.ne_of_gt hlt)
    · rw [List.mem_singleton] at hx; subst hx
      obtain ⟨⟨o,h1,h2,h3⟩,_⟩:=st
      exact ⟨o,_,h1,h3⟩
    · rw [List.mem_singleton] at hb; subst hb; exact absurd (Heap.lt_size e) (Nat.lt_irrefl _)
  · obtain ⟨its,rv,p,hz⟩:=I.tuple hq
    have hl:s.heap.IsTuple a its.toArray:=p
    have hlt:a < s.heap.objs.size:=by obtain ⟨_,e,_⟩:=hl; exact Heap.lt_size e
    refine ZdG p.typeIs PySem.F.sub_tuple_set PySem.F.sub_tuple_frozenset (by decide) hn hu (fun A' s1 Q' hA kp q' hsz=>?_) q
    have hl1:s1.heap.IsTuple a its.toArray:=hl.at fun o e=>kp a o e
    refine wpAny_pyIter_tuple hl1 ?_
    refine q' s1.heap.objs.size [s1.heap.objs.size,a] [s1.heap.objs.size] (fun i h=>h.IsTupleIter s1.heap.objs.size a i/\h.IsTuple a its.toArray) (fun i v=>its.toArray[i]?=some v) _ (fun A'' hA''=>?_) ⟨⟨_,Heap.get?_push_size _ rfl,rfl,rfl⟩,hl1.push _⟩ ?_ (fun i h st x hx=>?_) (fun b o e=>⟨Heap.get?_push_of_some _ e,fun hb=>?_⟩) (fun i v k hv hki=>keyP rv i v k (by simpa using hv) hki)
    · have:=Walks.tuple (prog:=X.prog) (w:=X.w) (A:=A'') (hA''.trans hh) s1.heap.objs.size a (Nat.ne_of_lt (Nat.lt_trans hlt hsz)) its.toArray
      have z:its.toArray.size=ks.length:=by rw [hlen rv]; simp
      rw [z] at this
      exact this
    · intro hb
      rcases List.mem_cons.mp hb with z | hb
      · exact absurd z (Nat.ne_of_lt hsz)
      · rw [List.mem_singleton] at hb; exact absurd hb (Nat.ne_of_gt hlt)
    · rw [List.mem_singleton] at hx; subst hx
      obtain ⟨⟨o,h1,h2,h3⟩,_⟩:=st
      exact ⟨o,_,h1,h3⟩
    · rw [List.mem_singleton] at hb; subst hb; exact absurd (Heap.lt_size e) (Nat.lt_irrefl _)
theorem Zcn {e:Expr} {f:DE} {p1 p2 p3 p4:Pos} (hc:X.calm=true) (hu:X.A.units+64 < cLine) (hgl:Gl X "len") (hml:X.mg "len"=none) (hgs:Gl X "set") (hms:X.mg "set"=none) (he:ED X e f)
    (hst:starEach [e] X.env=[(false,eval e X.env)]:=by rfl) (hst2:starEach [Expr.Call (.Name "set" p2) [e] [] p3] X.env=[(false,eval (.Call (.Name "set" p2) [e] [] p3) X.env)]:=by rfl) :
    ED X (.Call (.Name "len" p1) [.Call (.Name "set" p2) [e] [] p3] [] p4) (QN Vy f):=by
  intro pins s σ H Q I h
  obtain ⟨ρ,F0,H0,F,d,ok,ed,q⟩:=h
  obtain ⟨x,ex,ed⟩:=bind_some ed
  obtain ⟨xs,es,ed⟩:=bind_some ed
  obtain ⟨ks,ek,ed⟩:=bind_some ed
  obtain ⟨hn,rfl⟩:=Z8 ed
  refine wpAny_Call_Name_kw (Um I hgl hml PySem.boot_len (PyProof.Rows.callWith_builtin1 ?_ (by rw [hst2]; rfl) (by rfl)) (by decide) (by decide))
  rw [hst2]
  show wpAny _ _ (spliced ((false,eval (.Call (.Name "set" p2) [e] [] p3) X.env)::[])) _ _ s
  refine Calls.spliced_cons (wpAny_Call_Name_kw (Um I hgs hms PyProof.Rows.boot_set (PyProof.Rows.callWith_type1 ?_ (by rw [hst]; rfl) (by rfl)) (by decide) (by decide)))
  rw [hst]
  show wpAny _ _ (spliced ((false,eval e X.env)::[])) _ _ s
  refine Calls.spliced_cons (thn (he pins s σ H (fun v H'=>∃ F',Grow F H F' H'/\Rep X.K F' H' x v) I ⟨ρ,F0,H0,F,x,ok,ex,fun v F' H' g r=>⟨F',g,r⟩⟩) fun u s1 ⟨v,H1,I1,r1,F1,g1,rx⟩=>Calls.spliced_nil ?_)
  refine ZiE (A:=X.A) (I1.ok.hd hc) (by omega) I1 es ek hn rx r1 fun h' tk keys hS hm kp=>Calls.spliced_nil ?_
  obtain ⟨o,ens,ep,t,h1,h2,h3,h4,h5,h6,h7,h8⟩:=hS
  have hlen:ens.size=(VI ks).length:=by
    have e1:keys.length=ens.size:=h5.length
    rw [<-e1]
    exact ZfU h6 (Vq ks) fun y=>by rw [hm y,mem_nubI]
  have hroom:=h4.room
  have hmk:t.mask<=127:=by rcases h7 with z | z | z <;> omega
  refine call_len_set (s:={ s1 with heap:=h',toks:=tk }) h1 h2 h3 (by have z1:=h4.size; have z2:=h4.dm; simp [SetTable.fits,SetTable.fill,z1,z2,hroom]) (by omega) ?_
  rw [hlen]
  exact ⟨.int _,H1,I1.kept (t':=_) kp,⟨_,rfl⟩,q _ F1 H1 g1 (Yq _)⟩
end
end L3
namespace L3
open PySem PySem.Spec PyProof.Rows L2
noncomputable def tyD:D->String
  | .non=>"NoneType"
  | .bl _=>"bool"
  | .int _=>"int"
  | .str _=>"str"
  | .tup _=>"tuple"
  | .lst _=>"list"
inductive Ty where
  | int | bool | tuple | str | list
noncomputable def Ty.nm:Ty->String
  | .int=>"int"
  | .bool=>"bool"
  | .tuple=>"tuple"
  | .str=>"str"
  | .list=>"list"
noncomputable def Zl5:Ty->D->Bool
  | .int,.int _=>true
  | .int,.bl _=>true
  | .bool,.bl _=>true
  | .tuple,.tup _=>true
  | .str,.str _=>true
  | .list,.lst _=>true
  | _,_=>false
theorem ZkQ (K:PySem.W.Frag) (T:Ty) (d:D):PySem.W.kitOne K (.type (tyD d)) (.type T.nm)=some (Zl5 T d):=by
  cases T <;> cases d <;> rfl
noncomputable def UU (T:Ty) (d:D):Option D:=some (.bl (Zl5 T d))
section
variable {X:Cx} {pins:List (Addr×Obj)} {σ:L2.St} {H:Hp} {s:Shared} {F:Fz} {pos:Pos} {e:Expr} {f:DE}
theorem Zk0 {A:Around} {E:Value->Shared->Prop} {Q:Value->Shared->Prop} {c:Value} {b:Bool} (I:Inv X pins σ H s) {d:D} {x:V} {u:Value} (r:Rep X.K F H d x) (rx:RelV x u) (e:PySem.W.kitOne X.K (.type (tyD d)) c=some b) (h:∀ tk,Q (.bool b) { s with toks:=tk }) :
    wpAny (model X.prog X.w) A (call (.builtin "isinstance") [u,c]) Q E s:=by
  cases d with
  | non=>unfold Rep at r; subst r; exact U4 I rx .non e h
  | bl y=>unfold Rep at r; subst r; exact U4 I rx (.bl y) e h
  | int y=>unfold Rep at r; subst r; exact U4 I rx (.int y) e h
  | str y=>unfold Rep at r; subst r; exact U4 I rx (.str y) e h
  | tup ds=>
    unfold Rep at r
    obtain ⟨a,vs,rfl,hq,_⟩:=r
    cases rx
    obtain ⟨its,_,⟨o,h1,h2,_⟩,_⟩:=I.tuple hq
    exact PySem.W.kia_one PySem.W.kitx_tuple I.kIn ⟨o,h1,h2⟩ e (fun z=>nomatch z) h
  | lst ds=>
    unfold Rep at r
    obtain ⟨a,vs,rfl,_,hq,_⟩:=r
    cases rx
    obtain ⟨its,_,p,_⟩:=I.list hq
    obtain ⟨o,h1,h2,_⟩:=p.isList
    exact PySem.W.kia_one PySem.W.kitx_list I.kIn ⟨o,h1,h2⟩ e (fun z=>nomatch z) h
theorem JA {T:Ty} {x:Str} {p1 p2:Pos} (hg:Gl X "isinstance") (hm:X.mg "isinstance"=none) (hgx:Gl X x) (hmx:X.mg x=none) (hv:bootBuiltins x=some (.type T.nm)) (he:ED X e f)
    (hn:x≠"__name__":=by decide) (hd:(x==("__debug__":Str))=false:=by decide) (hst:starEach [e,Expr.Name x p2] X.env=[(false,eval e X.env),(false,eval (.Name x p2) X.env)]:=by rfl)
    (hst2:starEach [Expr.Name x p2] X.env=[(false,eval (.Name x p2) X.env)]:=by rfl) :
    ED X (.Call (.Name "isinstance" p1) [e,.Name x p2] [] pos) (QN (UU T) f):=by
  intro pins s σ H Q I h
  obtain ⟨ρ,F0,H0,F,d,ok,ed,q⟩:=h
  obtain ⟨y,ey,ed⟩:=bind_some ed
  cases ed
  refine wpAny_Call_Name_kw (Um I hg hm PyProof.Rows.boot_isinstance (PyProof.Rows.callWith_builtin1 ?_ (by rw [hst,hst2]) (by rw [hst2]; rfl)) (by decide) (by decide))
  rw [hst]
  show wpAny _ _ (spliced ((false,eval e X.env)::(false,eval (.Name x p2) X.env)::[])) _ _ s
  refine Calls.spliced_cons (thn (he pins s σ H (fun v H'=>∃ F',Grow F H F' H'/\Rep X.K F' H' y v) I ⟨ρ,F0,H0,F,y,ok,ey,fun v F' H' g r=>⟨F',g,r⟩⟩) fun u s1 zq=>?_)
  obtain ⟨v,H1,I1,r1,F1,g1,rx⟩:=zq
  refine Calls.spliced_cons ?_
  refine Um I1 hgx hmx hv (Calls.spliced_nil ?_) hn hd
  exact Zk0 I1 rx r1 (ZkQ X.K T y) fun tk=>⟨.bl _,H1,I1.tok tk,rfl,q _ F1 H1 g1 (UY _)⟩
end
noncomputable def Z0 (P:Program) (w:World) (K:PySem.W.Frag) (mg:Str->Option Value) (base:Heap) (x:Str) (k:Nat) (ps:List Str) (fn:List D->Option D):Prop:=
  ∃ f fd,FnD P w K mg base k f fd ps fn/\mg x=some (.ref f)/\PySem.W.keepIn K (.ref f)=true/\Binds K fd ps []
section
variable {X:Cx} {pos:Pos}
theorem Zn {x:Str} {k k':Nat} {ps:List Str} {fn:List D->Option D} {p:Pos} {e:Expr} {es:List Expr} {as:DA} (F:Z0 X.prog X.w X.K X.mg X.base x k ps fn) (hr:Room k' X.A) (hk:k<=k') (hg:Gl X x)
    (ha:AD X (e::es) as) (hdb:(x==("__debug__":Str))=false:=by decide) (he:starEach (e::es) X.env=(false,eval e X.env)::starEach es X.env:=by rfl) (hpl:(backTo pos (starEach es X.env)).any (·.1)=false:=by rfl) :
    ED X (.Call (.Name x p) (e::es) [] pos) (dFn ps.length fn as):=by
  obtain ⟨f,fd,h1,h2,h3,h4⟩:=F
  exact Zmc h1 (hr.mono hk) hg h2 h3 h4 ha hdb he hpl
noncomputable def Zla (sc scope:Scope):Bool:=
  scope.kind==.function&&scope.names.all (fun y=>y.2 != .cell)&&scope.names.all (fun y=>y.2 != .local||scope.names.lookup y.1==some .local) &&
    scope.names.all fun y=>y.2 != .free||(sc.names.lookup y.1==some .cell||sc.names.lookup y.1==some .free)
theorem Ju {sc scope:Scope} (h:X.env.scope=sc) (c:Zla sc scope=true):CompScope X scope:=by
  unfold Zla at c
  simp only [Bool.and_eq_true,List.all_eq_true] at c
  obtain ⟨⟨⟨c1,c2⟩,c3⟩,c4⟩:=c
  refine ⟨eq_of_beq c1,fun y hy e=>?_,fun y hy e=>?_,fun y hy e=>?_⟩
  · have:=c2 y hy; rw [e] at this; cases this
  · have:=c3 y hy
    rw [e] at this
    exact eq_of_beq (by simpa using this)
  · have:=c4 y hy
    rw [e] at this
    have:(sc.names.lookup y.1==some .cell||sc.names.lookup y.1==some .free)=true:=by simpa using this
    rw [<-h] at this
    rcases Bool.or_eq_true_iff.mp this with z | z
    · exact .inl (eq_of_beq z)
    · exact .inr (eq_of_beq z)
noncomputable def Zmw (sc scope:Scope):List (Str×NameKind):=scope.names.map fun (n,k)=>if (k==.free&&sc.kind==.function&&sc.names.lookup n==some .cell) then (n,.cell) else (n,k)
noncomputable def Zlb (sc scope:Scope) (XN N:List Str) (caps:List (Option Nat)):Bool:=
  caps.length==N.length&&(List.range caps.length).all fun i=>match caps[i]?,N[i]? with
    | some (some j),some x=>XN[j]?==some x&&(sc.names.lookup x==some .cell||sc.names.lookup x==some .free)&&(Zmw sc scope).lookup x != some .local
    | _,_=>true
theorem Jw {sc scope:Scope} {XN N:List Str} {caps:List (Option Nat)} (h:X.env.scope=sc) (hN:X.N=XN) (c:Zlb sc scope XN N caps=true):Zlx X N scope caps:=by
  unfold Zlb at c
  rw [Bool.and_eq_true,List.all_eq_true] at c
  obtain ⟨c1,c2⟩:=c
  refine ⟨eq_of_beq c1,fun i j x e1 e2=>?_⟩
  have hi:i < caps.length:=(List.getElem?_eq_some_iff.mp e1).1
  have:=c2 i (List.mem_range.mpr hi)
  rw [e1,e2] at this
  simp only [Bool.and_eq_true] at this
  obtain ⟨⟨d1,d2⟩,d3⟩:=this
  subst h hN
  have hk:X.env.scope.names.lookup x=some .cell\/X.env.scope.names.lookup x=some .free:=by
    rcases Bool.or_eq_true_iff.mp d2 with z | z
    · exact .inl (eq_of_beq z)
    · exact .inr (eq_of_beq z)
  refine ⟨eq_of_beq d1,.inr hk,fun z=>?_,fun z=>?_⟩
  · have z:X.env.scope.names.lookup x=some .local:=z
    rcases hk with q | q <;> (rw [q] at z; cases z)
  · have z':(Zmw X.env.scope scope).lookup x=some .local:=z
    rw [z'] at d3; simp at d3
end
structure Blt (mg:Str->Option Value):Prop where
  len:mg "len"=none
  range:mg "range"=none
  enumerate:mg "enumerate"=none
  min:mg "min"=none
  max:mg "max"=none
  abs:mg "abs"=none
  sum:mg "sum"=none
  any:mg "any"=none
  all:mg "all"=none
  set:mg "set"=none
  sorted:mg "sorted"=none
  tuple:mg "tuple"=none
  list:mg "list"=none
  int:mg "int"=none
  str:mg "str"=none
  bool:mg "bool"=none
  isinstance:mg "isinstance"=none
  reversed:mg "reversed"=none
section
variable {P:Program} {w:World} {K:PySem.W.Frag} {mg:Str->Option Value} {base:Heap}
theorem Jg {x qual:Str} {st:Stmt} {f:Addr} {fd:FuncData} {N ps:List Str} {k n:Nat} {g:DS} {fn:List D->Option D} (F:Fun K x qual st f fd) (S:Zr N ps (Zi st)) (hn:N.length=n) (hf:fn=Zo n g)
    (hb:∀ (cdv:Value) (A:Around) (outer:List Env) (s:Shared) (H:Hp) (E:XK),Room k (A.deeper (envOfC qual (Zi st) s.heap.objs.size f cdv)) ->
      ∃ g',g'=g/\SDs (ZeN CX0 P w K mg base N qual (Zi st) f cdv A outer s H E).nox (QE st) g'):FnD P w K mg base (k+1) f fd ps fn:=by
  subst hn hf
  exact Znv F S fun cdv A outer s H E hr=>by
    obtain ⟨g',rfl,h⟩:=hb cdv A outer s H E hr
    exact h
end
section
variable {X:Cx} {tg elt iter:Expr} {ifs:List Expr}
theorem ZiR {scope:Scope} {pos pos' spos:Pos} {N:List Str} {g:TG} {te:TE} {tt:TT} {wi:TI} {i:Nat} {x:Str} (S:CompScope X scope) (hc:X.calm=true) (hit:PI X tg iter wi)
    (hg:∀ C s3 H3 fp,PG (Y0 X N scope C s3 H3 fp) tg g) (hi:∀ C s3 H3 fp,PTs (Y0 X N scope C s3 H3 fp) ifs tt) (he:∀ C s3 H3 fp,PE (Y0 X N scope C s3 H3 fp) elt te)
    (hN:X.N.Nodup) (hx1:X.N[i]?=some x) (hx:Loc X.env.scope x) (hsw:swapsWith (.ListComp elt [⟨tg,iter,ifs,0⟩] scope pos) (some (.Name x pos')) spos.line X.env=pure true)
    (hf:X.fn x=true\/X.env.scope.names.lookup x=some .local) (hs:∀ x,foldedSetIterable iter X.env x=pure x) :
    PS X (.Assign [.Name x pos'] (.ListComp elt [⟨tg,iter,ifs,0⟩] scope pos) spos) (fun D σ H=>Ziz X.K wi (ZdE X N scope σ g tt te) σ H fun v H'=>D.nx (σ.set i (some v)) H'):=by
  intro pins s σ H D I h
  rw [exec_Assign_Name_used _ _ _ _ hsw]
  refine wpAny_bind (wpAny_standAt (wpAny_bind ?_))
  show wpAny _ X.A (do let _ <- comprehension (.ListComp elt [⟨tg,iter,ifs,0⟩] scope pos) scope X.env _ (newList []) false (eval iter X.env) (some (assign (.Name x pos') X.env))) _ _ s
  refine wpAny_bind (wpAny_mono (wpAny_comprehension_free (use:=some (assign (.Name x pos') X.env)) (Q:=fun _ s'=>SP X pins D .next s') rfl hs (Vb (S.cells I.ok)) S.kind S.loc
    (wpAny_mono (hit pins s σ H _ I h) (fun xv s₁ h₁=>wpAny_mono h₁ (fun itv s₂ h₂=>?_) fun _ _ z=>z) fun _ _ z=>z)) (fun _ s' hq=>wpAny_pure (wpAny_pure hq)) fun _ _ z=>z)
  obtain ⟨it,fp,tn,J,H2,rfl,I2,T,st2,f2,hb⟩:=h₂
  refine Zd5 (Q:=fun v H'=>D.nx (σ.set i (some v)) H') (RR:=fun acc C=>compPost (model X.prog X.w) X.A X.xe (some (assign (.Name x pos') X.env)) (fun _ s'=>SP X pins D .next s') acc C) (wi:=wi) S hc I2 T st2 f2 hg hi he hb ?_
  intro Dl C H' s' m hI hC hn q
  have I':Inv X pins σ H' s':=hI s'.heap (Heap.SameBut.refl _ _)
  show wpAny _ X.A (assign (.Name x pos') X.env (.ref Dl)) _ _ s'
  obtain ⟨oC,es,ep,hoC,r⟩:=id hn
  have hdC:∀ v,oC.data≠.cell v:=fun v z=>by
    obtain ⟨r1,_⟩:=r
    rw [z] at r1; cases r1
  have I1:=I'.pinned (fp:=[C]) (fun b hb=>by rw [List.mem_singleton] at hb; subst hb; exact hC) fun b hb=>by
    rw [List.mem_singleton] at hb; subst hb; exact ⟨oC,hoC,hdC⟩
  refine wpAny_assign_Name (V9 I1 hN hx1 hx (v:=.ref Dl) rfl (fun s2 J2=>?_) hf)
  have pC:s2.heap.get? C=some oC:=(J2.pin (C,oC) (List.mem_append_right _ (List.mem_append_right _ (Ua (by simp) hoC)))).1
  refine ⟨m,⟨oC,es,ep,pC,r⟩,fun h' sb=>⟨_,H',?_,q⟩⟩
  have J3:=J2.unpinned
  obtain ⟨c1,c2,c3,c4,c5,c6⟩:=hC
  exact J3.turned (t':=s2.toks) (it:=C) (fun b o hb e=>(sb.2 b hb).trans e) c1 c2 c4 c5 c6
theorem ZiF {scope:Scope} {pos pos' spos:Pos} {N:List Str} {caps:List (Option Nat)} {b:DG} {t:DT} {f:DE} {it:DI} {i:Nat} {x:Str} (hN:X.N.Nodup) (hx1:X.N[i]?=some x) (hx:Loc X.env.scope x)
    (S:CompScope X scope) (C:Zlx X N scope caps) (hc:X.calm=true) (hit:ID X tg iter it) (hno:ZcE b)
    (hg:∀ C s3 H3 fp,GD (Y0 X N scope C s3 H3 fp) tg b) (hi:∀ C s3 H3 fp,TDs (Y0 X N scope C s3 H3 fp) ifs t) (he:∀ C s3 H3 fp,ED (Y0 X N scope C s3 H3 fp) elt f)
    (hsw:swapsWith (.ListComp elt [⟨tg,iter,ifs,0⟩] scope pos) (some (.Name x pos')) spos.line X.env=pure true:=by rfl)
    (hf:X.fn x=true\/X.env.scope.names.lookup x=some .local:=by first | exact .inl rfl | exact .inr rfl | assumption) (hs:∀ x,foldedSetIterable iter X.env x=pure x:=by intro _; rfl) :
    SD X (.Assign [.Name x pos'] (.ListComp elt [⟨tg,iter,ifs,0⟩] scope pos) spos) (Ya i (QF caps it b t f)):=
  PS.imp (ZiR (N:=N) (g:=rdG X.K b) (tt:=rdT X.K t) (te:=rd X.K f) S hc hit hg hi he hN hx1 hx hsw hf hs) fun E σ H zq=>by
    obtain ⟨ρ,F0,H0,F,o,ok,e,k⟩:=zq
    obtain ⟨d,ed,rfl⟩:=map_some e
    exact ZfA C hno ⟨ρ,F0,H0,F,d,ok,ed,fun v F' H' g r=>k _ F' H' g.ext ((ok.grow g).set r)⟩
end
theorem ZkO {K:PySem.W.Frag} {H:Hp} {a:Addr} {ns:List Int} {fn:List D->Option D} {n:Nat} {E:XK} (hl:ns.length<=n) (hS:SqL K H a (ns.map V.int)) (h:∀ ns:List Int,fn [.lst (ns.map .int)]=some (.bl true)):spD K 1 fn [.ref a] H (fun v _=>v=.bl true) E:=by
  refine ⟨[.lst (ns.map .int)],fun b=>b=a,.bl true,rfl,.cons ?_ .nil,fun b hb=>?_,h ns,fun w F' H' _ r=>by unfold Rep at r; exact r⟩
  · unfold Rep
    refine ⟨a,_,rfl,rfl,hS,?_⟩
    generalize ns=l
    induction l with
    | nil=>exact .nil
    | cons k l ih=>exact .cons (Yq _) ih
  · subst hb
    rcases hS with (h | ⟨o,h⟩) | ⟨o,_,_,h,_⟩
    · exact .inl (by rw [h]; simp)
    · exact .inl (by rw [h]; simp)
    · exact .inr ⟨o,h⟩
noncomputable def GlobK (K:PySem.W.Frag) (x:Str) (d:D):Prop:=∃ a od i j t u n sl,PySem.W.nsIn K mainGlobals x=some (some (.ref a))/\K.lookup a=some ⟨.type "tuple",od,.seq #[.int i t,.int j u] n,sl⟩/\d=.tup [.int i,.int j]
section
variable {prog:Program} {w:World} {A:Around} {E:Value->Shared->Prop} {s:Shared}
end
section
variable {X:Cx} {pos:Pos} {tg l:Expr} {f:DE}
end
noncomputable def OkD (P:Program) (w:World) (K:PySem.W.Frag) (mg:Str->Option Value) (base:Heap) (n:Str) (st:Stmt) (k:Nat) (ps:List Str) (fn:List D->Option D):Prop:=∀ {f:Addr} {fd:FuncData},Fun K n n st f fd->FnD P w K mg base k f fd ps fn
noncomputable def Df (K:PySem.W.Frag) (n:Str) (st:Stmt):Prop:=∃ f fd,PySem.W.nsIn K mainGlobals n=some (some (.ref f))/\Fun K n n st f fd/\PySem.W.keepIn K (.ref f)=true
theorem Df.mk {K:PySem.W.Frag} {n:Str} {st:Stmt} {f:Addr} {oc kV dc pm cd ct:Value} {od an:Option Addr} {sl:Array (Option Value)} (a:PySem.W.nsIn K mainGlobals n=some (some (.ref f))) (l:K.lookup f=some ⟨oc,od,.func (PySem.W.fnOf n n (UQ st) (QE st) (Zi st) .none kV dc pm an cd ct),sl⟩)
    (e:PySem.W.codeIn K cd n=true) (k:PySem.W.keepIn K (.ref f)=true):Df K n st:=⟨f,_,a,Zk3 l e k,k⟩
section
variable {P:Program} {w:World} {K:PySem.W.Frag} {mg:Str->Option Value} {base h:Heap} {n:Str} {st:Stmt} {k:Nat} {ps:List Str} {fn:List D->Option D}
theorem dk (X:K.In h) (G:h.Ns mainGlobals mg) (a:Df K n st) (o:OkD P w K mg base n st k ps fn)
    (hb:∀ (kV doc pm:Value) (an:Option Addr) (cdv ct:Value) (us:List Value),us.length=ps.length->bindArgs (PySem.W.fnOf n n (UQ st) (QE st) (Zi st) .none kV doc pm an cdv ct) ⟨us,[]⟩=pure (ps.zip us)):Z0 P w K mg base n k ps fn:=by
  obtain ⟨f,fd,a1,F,a2⟩:=a
  exact ⟨f,fd,o F,PySem.W.mg_of X G a1,a2,F.binds hb⟩
end
end L3
namespace L3
open PySem PySem.Spec PyProof.Rows L2 SetTab PySem.SetTable
section
variable {prog:Program} {w:World} {A:Around} {E:Value->Shared->Prop} {s:Shared} {it S:Addr} {o:Obj} {es:Array (Int×Value)} {ep:Nat} {t:SetTable}
end
section
variable {prog:Program} {w:World} {A:Around} {s:Shared} {R:Result->Shared->Prop} {it S x:Addr} {fp wr:List Addr} {n:Nat} {P:Nat->Value->Prop} {St:Nat->Heap->Prop}
end
section
variable {prog:Program} {w:World} {A:Around} {E:Value->Shared->Prop} {s:Shared} {it S:Addr} {o:Obj} {es:Array (Int×Value)} {ep:Nat} {t:SetTable}
end
end L3
namespace So
open PySem PySem.W PyProof.Rows
noncomputable def run (c:Nat->Nat->Bool) {α:Type}:KasT α->α
  | .ret a=>a
  | .ask i j k=>run c (k (c i j))
variable {n:Nat} {c:Nat->Nat->Bool}
end So
namespace L3
open PySem PySem.Spec PyProof.Rows L2 SetTab PySem.SetTable PySem.W
section
variable {prog:Program} {w:World} {A:Around} {E:Value->Shared->Prop} {s:Shared} {Q:Bool->Shared->Prop}
end
section
variable {X:Cx} {pins:List (Addr×Obj)} {σ:L2.St} {H:Hp} {s:Shared} {F:Fz}
end
end L3
namespace L3
open PySem PySem.Spec PyProof.Rows L2
section
variable {X:Cx}
end
section
variable {X:Cx}
end
noncomputable def Zjy:DS:=fun _=>none
theorem Zg9 {X:Cx} {e c:Option Expr} {pos:Pos}:SD X (.Raise e c pos) Zjy:=fun pins s σ H D I h=>by
  obtain ⟨ρ,F0,H0,F,o,ok,e,k⟩:=h
  cases e
theorem V3:fillsNumberSlot (.type "tuple") "mul"=pure false:=
  PySem.fillsNumberSlot_seq (id:="tuple.__mul__") (r:=some (.builtin "tuple.__rmul__")) PySem.F.slot_tuple_mul.lookup (by decide +kernel) PySem.F.slot_tuple_rmul.lookup (by decide +kernel)
theorem ZbZ:seqRepeat? (.type "tuple")=pure (some (.builtin "tuple.__mul__")):=by
  unfold seqRepeat?
  rw [PySem.seqSlot_of (T:="tuple") (name:="__mul__") (id:="tuple.__mul__") PySem.F.slot_tuple_mul.lookup (by decide +kernel),PySem.seqSlot_of (T:="tuple") (name:="__rmul__") (id:="tuple.__rmul__") PySem.F.slot_tuple_rmul.lookup (by decide +kernel)]
  rfl
theorem Zai (a:Int) (t:Tok) (l:Addr) (items:Array Value) (n:Nat) (dd:Option Addr) (sl:Array (Option Value)) :
    Meets (Builtin.«int.__rmul__» ⟨[.int a t,.ref l],[]⟩) (fun _ R s=>s.heap.get? l=some ⟨.type "tuple",dd,.seq items n,sl⟩/\R (.ok (.ret Value.notImplemented)) s):=
  .of_wp fun prog w A R s h=>by obtain ⟨hp,g,d,tk,os⟩:=s; obtain ⟨hl,h⟩:=h; wp_walk; exact ⟨_,rfl,h⟩
theorem Zee (l:Addr) (items:Array Value) (n:Nat) (dd:Option Addr) (sl:Array (Option Value)) (u:Tok) (h0:items.isEmpty=false) (hz:items.size*2<=sizeLine) :
    Meets (Builtin.«tuple.__mul__» ⟨[.ref l,.int 2 u],[]⟩) (fun _ R s=>s.heap.get? l=some ⟨.type "tuple",dd,.seq items n,sl⟩/\R (.ok (.ret (Value.ref s.heap.objs.size))) { s with heap:=s.heap.push { cls:=.type "tuple",data:=.seq (items++items) } }):=
  .of_wp fun prog w A R s h=>by
    obtain ⟨hp,g,d,tk,os⟩:=s; obtain ⟨hl,h⟩:=h
    wp_walk
    have e1:¬ ((items.size:Int)*2 > (2 ^ 63-1) / 8):=by
      have:items.size*2<=16777216:=hz
      omega
    have e2:¬ (Builtin.Tuple.tupleTooMany ((items.size:Int)*2)=true):=by
      have:items.size*2<=16777216:=hz
      simp [Builtin.Tuple.tupleTooMany,sizeLine]
      omega
    rw [if_neg e1]
    show wpAny _ _ (if _ then _ else _) _ _ _
    rw [if_neg e2]
    have e3:List.foldl (fun x1 x2=>x1++x2) #[] (List.replicate (Int.toNat 2) items)=items++items:=by
      show (#[]++items)++items=_
      simp
    simp only [e3]
    wp_walk
    refine wpAny_ite_false (decide_eq_false ?_) ?_
    · rw [Array.size_append]
      have:items.size*2<=16777216:=hz
      simp only [sizeLine]
      omega
    · wp_walk
      exact ⟨_,rfl,h⟩
section
variable {X:Cx} {pins:List (Addr×Obj)} {s:Shared} {σ:L2.St} {H:Hp}
theorem Zfb {a:Addr} {xs:List V} {Q:VK} {u:Tok} (I:Inv X pins σ H s) (ha:SqT X.K H a xs) (h0:xs≠[]) (hz:xs.length+xs.length<=sizeLine)
    (q:∀ p,H p=none->Q (.ref p) (upd H p (.tup (xs++xs)))):wpAny (model X.prog X.w) X.A (binaryOp .Mult (.ref a) (.int 2 u)) (EP X pins σ Q) X.xe s:=by
  obtain ⟨its,r1,p1,_⟩:=I.tuple ha
  obtain ⟨⟨cls,dd,data,sl⟩,ho,hc,n,hd⟩:=id p1
  simp only at hc hd
  subst hc hd
  have hne:its≠[]:=fun z=>h0 (r1.nil_iff.mp z)
  have hlen:=r1.length
  refine wpAny_binaryOp_repeat_ref (T:="tuple") (U:="int") (by decide) ⟨_,ho,rfl⟩ (fun s'=>typeIs_int s' 2 u) V3 PySem.F.fills_int_mul PySem.F.slot_int_rmul ZbZ PySem.F.slot_int_index.lookup
    (call_meets PySem.F.slot_int_rmul (typeIs_int s 2 u) PySem.F.entry_int_rmul (PySem.F.args_int_rmul_2 _ _) (Zai 2 u a its.toArray n dd sl)
      ⟨ho,rfl,⟨_,ho,rfl⟩,call_meets PySem.F.slot_tuple_mul ⟨_,ho,rfl⟩ PySem.F.entry_tuple_mul (PySem.F.args_tuple_mul_2 _ _)
        (Zee a its.toArray n dd sl u ?_ ?_) ⟨ho,?_⟩⟩)
  · cases its with
    | nil=>exact absurd rfl hne
    | cons x t=>rfl
  · show its.toArray.size*2<=_
    rw [List.size_toArray,<-hlen]; omega
  · refine ⟨.ref s.heap.objs.size,_,I.laid (t':=s.toks) (o:=.tup (xs++xs)) (fun b ob q=>Heap.get?_push_of_some _ q) (Nat.le_refl _) ?_,rfl,q _ (I.hok.fresh (Nat.le_refl _))⟩
    refine ⟨by rw [List.length_append]; exact hz,_,r1.append r1,?_⟩
    have e:its.toArray++its.toArray=(its++its).toArray:=by simp
    rw [e]
    exact IsTup.new _ _
noncomputable def Zgw:D->D->Option D
  | .int i,.int j=>YO (.int i) (.int j)
  | .tup a,.int j=>if j=2/\a≠[]/\a.length+a.length<=lim then some (.tup (a++a)) else none
  | _,_=>none
theorem ZkA:Op2 X (binaryOp .Mult) Zgw:=by
  intro pins s σ H x y v u Q I rx ry q
  obtain ⟨dx,dy,F,d,r1,r2,e,q⟩:=q
  cases dx with
  | int i=>cases dy with
    | int j=>exact YR pins s σ H x y v u Q I rx ry ⟨_,_,F,d,r1,r2,e,q⟩
    | _=>cases e
  | tup a=>cases dy with
    | int j=>
      unfold Zgw at e
      obtain ⟨⟨rfl,hne,hl⟩,rfl⟩:=Z8 e
      unfold Rep at r1 r2
      obtain ⟨l1,xs,rfl,h1,k1⟩:=r1
      subst r2
      cases rx
      obtain ⟨t,rfl⟩:=ry
      refine Zfb I h1 (fun z=>hne (List.eq_nil_of_length_eq_zero (by rw [k1.length,z]; rfl))) (by rw [<-k1.length]; exact Jc hl) fun p hp=>q _ F _ (.laid0 hp) ?_
      unfold Rep
      exact ⟨p,xs++xs,rfl,.of ZO,(k1.append k1).grow (.laid0 hp)⟩
    | _=>cases e
  | _=>cases e
end
theorem FnD.none {P:Program} {w:World} {K:PySem.W.Frag} {mg:Str->Option Value} {base:Heap} {k:Nat} {f:Addr} {fd:FuncData} {ps:List Str}:FnD P w K mg base k f fd ps (fun _=>Option.none):=
  ⟨fun vs H Q E h=>(by obtain ⟨xs,F,d,_,_,_,e,_⟩:=h; cases e),fun A outer s H args us vs Q E _ _ _ _ h=>(by obtain ⟨xs,F,d,_,_,_,e,_⟩:=h; cases e)⟩
theorem ZC {es rest:List Expr} {x1} {pos:Pos} {env:Env}:starEach (.Tuple es x1 pos::rest) env=(false,eval (.Tuple es x1 pos) env)::starEach rest env:=rfl
theorem VD {es rest:List Expr} {pos:Pos} {env:Env}:starEach (.List es pos::rest) env=(false,eval (.List es pos) env)::starEach rest env:=rfl
end L3
namespace HT
open PySem PyProof.Rows
section
open PySem.SeqAt
open PySem.AutoSeq1 (wpAny_loadPart')
open PySem.MeetsSeq PySem.MeetsSeq2 PySem.MeetsSeq3
end
section
variable {prog:Program} {w:World} {A:Around} {E:Value->Shared->Prop} {s:Shared}
end
end HT
namespace L3
open PySem PySem.Spec PyProof.Rows L2
section
variable {X:Cx} {pins:List (Addr×Obj)} {σ:L2.St} {H:Hp} {s:Shared} {F:Fz}
end
end L3
set_option maxHeartbeats 8000000
namespace Pl
open PySem PySem.Spec PyProof.Rows L2 L3
noncomputable def Zic:DS:=(ZR (Zh Qj (Zh YO (Zh Qj (Zh dIx (Zd 1) (Zg (.int 0))) (Zh dIx (Zd 0) (Zg (.int 0)))) (Zh Qj (Zh dIx (Zd 2) (Zg (.int 1))) (Zh dIx (Zd 0) (Zg (.int 1))))) (Zh YO (Zh Qj (Zh dIx (Zd 1) (Zg (.int 1))) (Zh dIx (Zd 0) (Zg (.int 1)))) (Zh Qj (Zh dIx (Zd 2) (Zg (.int 0))) (Zh dIx (Zd 0) (Zg (.int 0)))))))
noncomputable def Us:List D->Option D:=Zo 3 Zic
noncomputable def VJ:DS:=(ZR (Zh dGt (dFn 3 Us (Zc (Zd 0) (Zc (Zd 1) (Zc (Zd 2) Zm)))) (Zg (.int 0))))
noncomputable def Yr:List D->Option D:=Zo 3 VJ
noncomputable def Up:DS:=(ZR (JY dLe dLe (ZS ZeL (Zc (Zd 0) (Zc (Zd 1) Zm))) (Zd 2) (ZS Zcr (Zc (Zd 0) (Zc (Zd 1) Zm)))))
noncomputable def Yj:List D->Option D:=Zo 3 Up
noncomputable def Zcg:DS:=(Zu (Ya 2 (Zh dIx (Zd 0) (Zg (.int 0))))
  (Zu (Ya 3 (Zh dIx (Zd 0) (Zg (.int 1))))
  (Zu (Yb (Zp (Zh Zby (dFn 3 Us (Zc (Zd 2) (Zc (Zd 3) (Zc (Zd 1) Zm)))) (Zg (.int 0)))) (ZR (Zg (.bl false))) Zx)
  (ZR (Zaa (dFn 3 Yj (Zc (Zh dIx (Zd 2) (Zg (.int 0))) (Zc (Zh dIx (Zd 3) (Zg (.int 0))) (Zc (Zh dIx (Zd 1) (Zg (.int 0))) Zm)))) (dFn 3 Yj (Zc (Zh dIx (Zd 2) (Zg (.int 1))) (Zc (Zh dIx (Zd 3) (Zg (.int 1))) (Zc (Zh dIx (Zd 1) (Zg (.int 1))) Zm)))))))))
noncomputable def Qe:List D->Option D:=Zo 4 Zcg
noncomputable def ZaK:DS:=(ZR (QF [none,some 0] (Zbo (ZS VP (Zc (Zd 0) Zm))) (ZQ 0) ZV (YV (Zc (Zh dIx (Zd 1) (Zh Qj (Zd 0) (Zg (.int 1)))) (Zc (Zh dIx (Zd 1) (Zd 0)) Zm)))))
noncomputable def Qt:List D->Option D:=Zo 1 ZaK
noncomputable def Q4:DS:=(Zu (Yb (Zp (Zh dLt (Zd 1) (ZS VP (Zc (Zd 0) Zm)))) (ZR (Zh dIx (Zd 0) (Zd 1))) Zx)
  (ZR (Zg (.int 0))))
noncomputable def Yl:List D->Option D:=Zo 2 Q4
noncomputable def VN:DS:=(Zu (Ya 2 (Zh YD (Zh YO (Zh ZU (Zh ZU (dFn 2 Yl (Zc (Zd 0) (Zc (Zd 1) Zm))) (Zh YO (Zg (.int 7919)) (Zd 1))) (Zg (.int 1))) (Zg (.int 48271))) (Zg (.int 2147483647))))
  (ZR (Zh YD (Zh ZU (Zh ZU (Zh YO (Zd 2) (Zd 2)) (Zh YO (Zg (.int 7)) (Zd 2))) (Zd 1)) (Zg (.int 2147483629)))))
noncomputable def ZH:List D->Option D:=Zo 3 VN
noncomputable def VO:DS:=(Zu (Ya 2 (Zh YD (Zh YO (Zh ZU (Zh ZU (Zd 0) (Zh YO (Zg (.int 104729)) (Zd 1))) (Zg (.int 17))) (Zg (.int 69621))) (Zg (.int 2147483647))))
  (ZR (Zh YD (Zh ZU (Zh ZU (Zh YO (Zd 2) (Zd 2)) (Zh YO (Zg (.int 3)) (Zd 2))) (Zd 1)) (Zg (.int 2147483629)))))
noncomputable def Zv:List D->Option D:=Zo 3 VO
noncomputable def U6:DS:=(ZR (Zaa (QN (UU .int) (Zd 0)) (Zaa (Zlq (QN (UU .bool) (Zd 0))) (JY dLe dLe (Zd 1) (Zd 0) (Zd 2)))))
noncomputable def Yy:List D->Option D:=Zo 3 U6
noncomputable def Zdm:DS:=(ZR (Zh Qj (Zh YO (Zh Qj (Zh dIx (Zd 1) (Zg (.int 0))) (Zh dIx (Zd 0) (Zg (.int 0)))) (Zh Qj (Zh dIx (Zd 2) (Zg (.int 1))) (Zh dIx (Zd 0) (Zg (.int 1))))) (Zh YO (Zh Qj (Zh dIx (Zd 1) (Zg (.int 1))) (Zh dIx (Zd 0) (Zg (.int 1)))) (Zh Qj (Zh dIx (Zd 2) (Zg (.int 0))) (Zh dIx (Zd 0) (Zg (.int 0)))))))
noncomputable def ZM:List D->Option D:=Zo 3 Zdm
noncomputable def Zch:DS:=(Zu (Yb (Zp (Zh Zby (dFn 3 ZM (Zc (Zd 0) (Zc (Zd 1) (Zc (Zd 2) Zm)))) (Zg (.int 0)))) (ZR (Zg (.bl false))) Zx)
  (ZR (Zaa (JY dLe dLe (ZS ZeL (Zc (Zh dIx (Zd 0) (Zg (.int 0))) (Zc (Zh dIx (Zd 1) (Zg (.int 0))) Zm))) (Zh dIx (Zd 2) (Zg (.int 0))) (ZS Zcr (Zc (Zh dIx (Zd 0) (Zg (.int 0))) (Zc (Zh dIx (Zd 1) (Zg (.int 0))) Zm)))) (JY dLe dLe (ZS ZeL (Zc (Zh dIx (Zd 0) (Zg (.int 1))) (Zc (Zh dIx (Zd 1) (Zg (.int 1))) Zm))) (Zh dIx (Zd 2) (Zg (.int 1))) (ZS Zcr (Zc (Zh dIx (Zd 0) (Zg (.int 1))) (Zc (Zh dIx (Zd 1) (Zg (.int 1))) Zm)))))))
noncomputable def Yi:List D->Option D:=Zo 3 Zch
noncomputable def WO:DS:=(ZR (Zh dIx (Zd 0) (Zh YD (Zh ZU (Zd 1) (Zd 2)) (ZS VP (Zc (Zd 0) Zm)))))
noncomputable def Zt:List D->Option D:=Zo 3 WO
noncomputable def WQ:DS:=(Zu (Ya 1 (Zg (.int 0)))
  (Zu (Wi (Jd (Zd 0)) (Yz 2 3) (Zu (Ya 4 (dFn 3 Zt (Zc (Zd 0) (Zc (Zd 2) (Zc (Zg (.int 1)) Zm)))))
  (Ya 1 (Zh Qj (Zh ZU (Zd 1) (Zh YO (Zh dIx (Zd 3) (Zg (.int 0))) (Zh dIx (Zd 4) (Zg (.int 1))))) (Zh YO (Zh dIx (Zd 3) (Zg (.int 1))) (Zh dIx (Zd 4) (Zg (.int 0))))))))
  (ZR (Zd 1))))
noncomputable def Yu:List D->Option D:=Zo 5 WQ
noncomputable def JT:DS:=(Zu (Ya 1 (ZS JX (Zc (Zd 0) Zm)))
  (Zu (Yb (Zp (Zh dLt (dFn 1 Yu (Zc (Zd 1) Zm)) (Zg (.int 0)))) (Ya 1 (Zjx (Zd 1))) Zx)
  (Zu (Ya 2 (Zh ZeM (Zd 1) (ZS Zcq (Zc (Zd 1) Zm))))
  (ZR (ZS Wg (Zc (Zh ZU (dSl (Zd 1) (Qp (Zd 2)) Qq) (dSl (Zd 1) Qq (Qp (Zd 2)))) Zm))))))
noncomputable def ZZ:List D->Option D:=Zo 3 JT
noncomputable def WP:DS:=(Zu (Yb (ZbQ (Zp (dFn 3 Yi (Zc (Zd 0) (Zc (Zd 1) (Zc (Zd 2) Zm))))) (ZbQ (Zp (dFn 3 Yi (Zc (Zd 0) (Zc (Zd 1) (Zc (Zd 3) Zm))))) (ZbQ (Zp (dFn 3 Yi (Zc (Zd 2) (Zc (Zd 3) (Zc (Zd 0) Zm))))) (Zp (dFn 3 Yi (Zc (Zd 2) (Zc (Zd 3) (Zc (Zd 1) Zm)))))))) (ZR (Zg (.bl true))) Zx)
  (Zu (Yb (Zp (Zh dGe (Zh YO (dFn 3 ZM (Zc (Zd 0) (Zc (Zd 1) (Zc (Zd 2) Zm)))) (dFn 3 ZM (Zc (Zd 0) (Zc (Zd 1) (Zc (Zd 3) Zm))))) (Zg (.int 0)))) (ZR (Zg (.bl false))) Zx)
  (ZR (Zh dLt (Zh YO (dFn 3 ZM (Zc (Zd 2) (Zc (Zd 3) (Zc (Zd 0) Zm)))) (dFn 3 ZM (Zc (Zd 2) (Zc (Zd 3) (Zc (Zd 1) Zm))))) (Zg (.int 0))))))
noncomputable def Yt:List D->Option D:=Zo 4 WP
noncomputable def VL:DS:=(Zu (Zbx 1 Zm)
  (Zu (Wi (Jd (Zd 0)) (Yz 2 3) (ZjR 1 (dFn 3 ZM (Zc (Zd 3) (Zc (dFn 3 Zt (Zc (Zd 0) (Zc (Zd 2) (Zc (Zg (.int 1)) Zm)))) (Zc (dFn 3 Zt (Zc (Zd 0) (Zc (Zd 2) (Zc (Zg (.int 2)) Zm)))) Zm))))))
  (Zlp 1 (ZR (Zd 1)))))
noncomputable def YT:List D->Option D:=Zo 4 VL
noncomputable def Ur:DS:=(Zu (Ya 1 (ZS VP (Zc (Zd 0) Zm)))
  (Zu (Yb (ZbQ (Zp (Zh dLt (QN Vy (Zd 0)) (Zd 1))) (Zp (Zh Zih (Zg (.int 0)) (dFn 1 YT (Zc (Zd 0) Zm))))) (ZR (Zg (.bl false))) Zx)
  (Zu (Wi (Zbo (Zd 1)) (ZQ 2) (Wi (Zf7 (Zh ZU (Zd 2) (Zg (.int 2))) (Zd 1)) (ZQ 3) (Yb (Zp (Zh Zby (Zh YD (Zh ZU (Zd 3) (Zg (.int 1))) (Zd 1)) (Zd 2))) (Zu (Ya 4 (Zh dIx (Zd 0) (Zd 3)))
  (Zu (Ya 5 (dFn 3 Zt (Zc (Zd 0) (Zc (Zd 3) (Zc (Zg (.int 1)) Zm)))))
  (Yb (Zp (dFn 4 Yt (Zc (Zh dIx (Zd 0) (Zd 2)) (Zc (dFn 3 Zt (Zc (Zd 0) (Zc (Zd 2) (Zc (Zg (.int 1)) Zm)))) (Zc (Zd 4) (Zc (Zd 5) Zm)))))) (ZR (Zg (.bl false))) Zx))) Zx)))
  (ZR (Zg (.bl true))))))
noncomputable def Z6:List D->Option D:=Zo 6 Ur
noncomputable def VM:DS:=(ZR (QF [none,some 1,some 0] (Zbo (Zd 2)) (ZQ 0) ZV (YV (Zc (Zh YD (dFn 2 Zv (Zc (Zd 2) (Zc (Zh YO (Zg (.int 2)) (Zd 0)) Zm))) (Zd 1)) (Zc (Zh YD (dFn 2 Zv (Zc (Zd 2) (Zc (Zh ZU (Zh YO (Zg (.int 2)) (Zd 0)) (Zg (.int 1))) Zm))) (Zd 1)) Zm)))))
noncomputable def YU:List D->Option D:=Zo 3 VM
noncomputable def ZaL:DS:=(Zu (Ya 2 (Zh ZU (Zg (.int 1)) (Zh YD (Zd 0) (Zg (.int 5)))))
  (Zu (Ya 3 (Zh ZU (Zg (.int 1)) (Zh YD (Zh Q7 (Zd 0) (Zg (.int 5))) (Zg (.int 5)))))
  (Zu (Ya 4 (Zh ZU (Zg (.int 1)) (ZS Zcr (Zc (Zd 2) (Zc (Zd 3) Zm)))))
  (Zu (Ya 5 (Zh ZU (Zh ZU (Wh (Zc (YV (Zc (Zg (.int 0)) (Zc (Zg (.int 0)) Zm))) Zm)) (QF [none,some 1,some 0] (Zbo (Zd 2)) (ZQ 0) ZV (YV (Zc (Zh ZU (Zg (.int 1)) (Zd 0)) (Zc (Zh Qj (QN WX (Zg (.int 1))) (Zh YD (dFn 2 Zv (Zc (Zd 2) (Zc (Zd 0) Zm))) (Zd 1))) Zm))))) (Wh (Zc (YV (Zc (Zd 4) (Zc (Zg (.int 0)) Zm))) Zm))))
  (Zu (Ya 5 (Zh ZU (Zd 5) (QF [none,some 4,some 1,some 0] (Zbo (Zd 3)) (ZQ 0) ZV (YV (Zc (Zh Qj (Zh Qj (Zd 1) (Zg (.int 1))) (Zd 0)) (Zc (Zh ZU (Zg (.int 1)) (Zh YD (dFn 2 Zv (Zc (Zd 3) (Zc (Zh ZU (Zg (.int 9)) (Zd 0)) Zm))) (Zd 2))) Zm))))))
  (Zu (Ya 6 (Wh Zm))
  (Zu (QJ (Zp (Zh Zby (ZS VP (Zc (Zd 6) Zm)) (ZS VP (Zc (Zd 5) Zm)))) (Zu (Ya 6 (Zd 5))
  (Ya 5 (QF [none,none,some 6] (Jd (Zd 6)) (Yz 0 1) (Zp (Zh Zby (dFn 3 ZM (Zc (Zh dIx (Zd 2) (Zh Qj (Zd 0) (Zg (.int 1)))) (Zc (Zd 1) (Zc (dFn 3 Zt (Zc (Zd 2) (Zc (Zd 0) (Zc (Zg (.int 1)) Zm)))) Zm)))) (Zg (.int 0)))) (Zd 1)))) 3000)
  (ZR (Zd 5)))))))))
noncomputable def Qu:List D->Option D:=Zo 7 ZaL
noncomputable def WN:DS:=(Zu (Ya 2 (dFn 3 YU (Zc (Zh Q7 (Zd 0) (Zg (.int 2))) (Zc (Zd 1) (Zc (Zh ZU (Zg (.int 3)) (Zh YD (Zh Q7 (Zd 0) (Zg (.int 2))) (Zg (.int 5)))) Zm)))))
  (Zu (Yb (ZbQ (Zp (Zh VQ (Zh YD (Zd 0) (Zg (.int 2))) (Zg (.int 1)))) (YE (Zp (dFn 1 Z6 (Zc (Zd 2) Zm))))) (Ya 2 (dFn 2 Qu (Zc (Zh Q7 (Zd 0) (Zg (.int 2))) (Zc (Zd 1) Zm)))) Zx)
  (Zu (Ya 3 (Zh Q7 (Zh YO (Zh YD (Zh Q7 (Zd 0) (Zg (.int 512))) (Zg (.int 3))) (Zd 1)) (Zg (.int 4))))
  (ZR (dFn 1 ZZ (Zc (QF [none,none,some 3] (QI (Zd 2)) (Yz 0 1) ZV (YV (Zc (Zh Qj (Zd 0) (Zd 2)) (Zc (Zd 1) Zm)))) Zm))))))
noncomputable def YM:List D->Option D:=Zo 4 WN
noncomputable def U5:DS:=(ZR (Zh dLt (dFn 3 Us (Zc (Zd 0) (Zc (Zd 1) (Zc (Zd 2) Zm)))) (Zg (.int 0))))
noncomputable def Yx:List D->Option D:=Zo 3 U5
noncomputable def JS:DS:=(Zu (Yb (Zp (dFn 3 Yr (Zc (Zd 0) (Zc (Zd 1) (Zc (Zd 2) Zm))))) (ZR (dFn 3 Yx (Zc (Zd 0) (Zc (Zd 1) (Zc (Zd 3) Zm))))) Zx)
  (ZR (Zaa (dFn 3 Yx (Zc (Zd 0) (Zc (Zd 1) (Zc (Zd 2) Zm)))) (dFn 3 Yr (Zc (Zd 0) (Zc (Zd 1) (Zc (Zd 3) Zm)))))))
noncomputable def Ys:List D->Option D:=Zo 4 JS
noncomputable def YS:DS:=(Zu (Yb (ZbQ (Zp (dFn 2 Qe (Zc (Zd 0) (Zc (Zh dIx (Zd 1) (Zg (.int 0))) Zm)))) (Zp (dFn 2 Qe (Zc (Zd 0) (Zc (Zh dIx (Zd 1) (Zg (.int 1))) Zm))))) (ZR (Zg (.bl true))) Zx)
  (Zu (Yb (ZbQ (Zp (dFn 2 Qe (Zc (Zd 1) (Zc (Zh dIx (Zd 0) (Zg (.int 0))) Zm)))) (Zp (dFn 2 Qe (Zc (Zd 1) (Zc (Zh dIx (Zd 0) (Zg (.int 1))) Zm))))) (ZR (Zg (.bl true))) Zx)
  (ZR (Zaa (dFn 4 Ys (Zc (Zh dIx (Zd 0) (Zg (.int 0))) (Zc (Zh dIx (Zd 0) (Zg (.int 1))) (Zc (Zh dIx (Zd 1) (Zg (.int 0))) (Zc (Zh dIx (Zd 1) (Zg (.int 1))) Zm))))) (dFn 4 Ys (Zc (Zh dIx (Zd 1) (Zg (.int 0))) (Zc (Zh dIx (Zd 1) (Zg (.int 1))) (Zc (Zh dIx (Zd 0) (Zg (.int 0))) (Zc (Zh dIx (Zd 0) (Zg (.int 1))) Zm)))))))))
noncomputable def ZD:List D->Option D:=Zo 2 YS
noncomputable def ZeF:DS:=(ZR (Zaa (QN (UU .int) (Zd 0)) (Zlq (QN (UU .bool) (Zd 0)))))
noncomputable def Uc:List D->Option D:=Zo 1 ZeF
noncomputable def Vw:DS:=(ZR (Zaa (dFn 1 Uc (Zc (Zd 0) Zm)) (JY dLe dLe (QN WX (Zg (.int 100))) (Zd 0) (Zg (.int 100)))))
noncomputable def Y7:List D->Option D:=Zo 1 Vw
noncomputable def WM:DS:=(ZR (Zaa (QN (UU .tuple) (Zd 0)) (Zaa (Zh VQ (ZS VP (Zc (Zd 0) Zm)) (Zg (.int 2))) (Zaa (dFn 1 Y7 (Zc (Zh dIx (Zd 0) (Zg (.int 0))) Zm)) (dFn 1 Y7 (Zc (Zh dIx (Zd 0) (Zg (.int 1))) Zm))))))
noncomputable def Yg:List D->Option D:=Zo 1 WM
noncomputable def YZ:DS:=(Zu (Wi (QI (Zd 0)) (ZQ 1) (Yb (YE (Zp (dFn 1 Yg (Zc (Zd 1) Zm)))) (ZR (Zg (.bl false))) Zx))
  (ZR (Zh VQ (QN Vy (Zd 0)) (ZS VP (Zc (Zd 0) Zm)))))
noncomputable def ZA:List D->Option D:=Zo 2 YZ
noncomputable def Yn:DS:=(Zu (Yb (YE (Zp (QN (UU .tuple) (Zd 0)))) (ZR (Zg (.bl false))) Zx)
  (ZR (Zaa (JY dLe dLe (Zg (.int 3)) (ZS VP (Zc (Zd 0) Zm)) (Zg (.int 12))) (dFn 1 ZA (Zc (Zd 0) Zm)))))
noncomputable def Zw:List D->Option D:=Zo 1 Yn
noncomputable def Je:DS:=(ZR (QF [none,some 0] (Zbo (ZS VP (Zc (Zd 0) Zm))) (ZQ 0) ZV (dFn 3 Us (Zc (Zh dIx (Zd 1) (Zh Qj (Zd 0) (Zg (.int 2)))) (Zc (Zh dIx (Zd 1) (Zh Qj (Zd 0) (Zg (.int 1)))) (Zc (Zh dIx (Zd 1) (Zd 0)) Zm))))))
noncomputable def Z9:List D->Option D:=Zo 1 Je
noncomputable def Qm:DS:=(ZR (dOr (Zh Zih (Zh dIx (Zd 0) (Zg (.int 0))) (Zd 1)) (Zh Zih (Zh dIx (Zd 0) (Zg (.int 1))) (Zd 1))))
noncomputable def Zq:List D->Option D:=Zo 2 Qm
noncomputable def QL:DS:=(Zu (Ya 1 (dFn 1 Qt (Zc (Zd 0) Zm)))
  (Zu (Wi (Jd (Zd 1)) (Yz 2 3) (Wi (QI (dSl (Zd 1) Qq (Qp (Zd 2)))) (ZQ 4) (Yb (QR (YE (Zp (dFn 2 Zq (Zc (Zd 3) (Zc (Zd 4) Zm))))) (Zp (dFn 2 ZD (Zc (Zd 3) (Zc (Zd 4) Zm))))) (ZR (Zg (.bl false))) Zx)))
  (ZR (Zg (.bl true)))))
noncomputable def Z2:List D->Option D:=Zo 5 QL
noncomputable def Jz:DS:=(ZR (dFn 3 Yr (Zc (Zh dIx (Zd 0) (QN WX (Zg (.int 1)))) (Zc (Zh dIx (Zd 0) (Zg (.int 0))) (Zc (Zh dIx (Zd 0) (Zg (.int 1))) Zm)))))
noncomputable def Yh:List D->Option D:=Zo 1 Jz
noncomputable def Qc:DS:=(Zu (Yb (ZbQ (YE (Zp (dFn 1 Zw (Zc (Zd 0) Zm)))) (Zp (Zh Zby (Zh dIx (Zd 0) (Zg (.int 0))) (ZS Zcq (Zc (Zd 0) Zm))))) (ZR (Zg (.bl false))) Zx)
  (Zu (Yb (Zp (Zh Zih (Zg (.int 0)) (dFn 1 Z9 (Zc (Zd 0) Zm)))) (ZR (Zg (.bl false))) Zx)
  (ZR (Zaa (dFn 1 Yh (Zc (Zd 0) Zm)) (dFn 1 Z2 (Zc (Zd 0) Zm))))))
noncomputable def ZT:List D->Option D:=Zo 1 Qc
noncomputable def Q3:DS:=(Zu (Yb (ZbQ (YE (Zp (QN (UU .tuple) (Zd 0)))) (Zp (Zh Zby (ZS VP (Zc (Zd 0) Zm)) (Zg (.int 2))))) (ZR (Zg (.bl false))) Zx)
  (ZR (Zaa (dFn 3 Yy (Zc (Zh dIx (Zd 0) (Zg (.int 0))) (Zc (QN WX (Zg (.int 100))) (Zc (Zg (.int 100)) Zm)))) (dFn 3 Yy (Zc (Zh dIx (Zd 0) (Zg (.int 1))) (Zc (QN WX (Zg (.int 100))) (Zc (Zg (.int 100)) Zm)))))))
noncomputable def Z5:List D->Option D:=Zo 1 Q3
noncomputable def YI:DS:=(Zu (Yb (ZbQ (YE (Zp (QN (UU .tuple) (Zd 0)))) (YE (Zp (JY dLe dLe (Zg (.int 3)) (ZS VP (Zc (Zd 0) Zm)) (Zg (.int 12)))))) (ZR (Zg (.bl false))) Zx)
  (Zu (Yb (Zp (Zh Zby (QF [none] (QI (Zd 0)) (ZQ 0) (YE (Zp (dFn 1 Z5 (Zc (Zd 0) Zm)))) (Zd 0)) (Wh Zm))) (ZR (Zg (.bl false))) Zx)
  (ZR (Zaa (dFn 1 Z6 (Zc (Zd 0) Zm)) (Zaa (Zh dGt (dFn 1 Yu (Zc (Zd 0) Zm)) (Zg (.int 0))) (Zh VQ (Zh dIx (Zd 0) (Zg (.int 0))) (ZS Zcq (Zc (Zd 0) Zm))))))))
noncomputable def ZI:List D->Option D:=Zo 1 YI
noncomputable def ZaM:DS:=(Zu (Ya 1 (Wh (Zc (QN WX (Zg (.int 1))) (Zc (Zg (.int 0)) (Zc (Zg (.int 1)) (Zc (Zg (.int 101)) (Zc (QN WX (Zg (.int 101))) (Zc (Zg (.bl true)) (Zc (Zg (.bl false)) (Zc (Zg .non) (Zc (Zg (.str (Str.ofString ""))) (Zc (Zg (.str (Str.ofString "0"))) (Zc (YV Zm) (Zc (Wh Zm) (Zc (YV (Zc (Zg (.int 0)) Zm)) (Zc (YV (Zc (Zg (.int 0)) (Zc (Zg (.int 1)) Zm))) (Zc (YV (Zc (Zg (.int 1)) (Zc (Zg (.int 1)) Zm))) (Zc (YV (Zc (Zg (.int 0)) (Zc (Zg (.int 101)) Zm))) (Zc (YV (Zc (Zg (.bl true)) (Zc (Zg (.int 0)) Zm))) (Zc (Wh (Zc (Zg (.int 0)) (Zc (Zg (.int 1)) Zm))) Zm))))))))))))))))))))
  (ZR (Zh dIx (Zh ZU (Zd 1) (Wh (Zc (YV (Zc (Zg (.int 0)) (Zc (Zg .non) Zm))) (Zc (YV (Zc (YV (Zc (Zg (.int 0)) (Zc (Zg (.int 0)) Zm))) Zm)) (Zc (YV (Zc (Zg (.int 0)) (Zc (Zg (.int 0)) (Zc (Zg (.int 0)) Zm)))) (Zc (Zg (.int 2)) (Zc (YV (Zc (QN WX (Zg (.int 1))) (Zc (Zg (.int 5)) Zm))) (Zc (YV (Zc (Zg (.int 2)) (Zc (Zg (.int 2)) Zm))) (Zc (YV (Zc (Zg (.str (Str.ofString "0"))) (Zc (Zg (.int 1)) Zm))) Zm))))))))) (Zh YD (Zd 0) (Zg (.int 25))))))
noncomputable def Qv:List D->Option D:=Zo 2 ZaM
noncomputable def ZP (fr:List D->Option D):DS:=(Zu (Yb (QR (Zp (Zh dGt (Zd 2) (Zg (.int 0)))) (QR (Zp (QN (UU .tuple) (Zd 0))) (QR (Zp (Zh dGt (ZS VP (Zc (Zd 0) Zm)) (Zg (.int 0)))) (Zp (Zh dGt (Zh YD (Zd 1) (Zg (.int 6))) (Zg (.int 0))))))) (Zu (Ya 3 (Zh YD (Zh Q7 (Zd 1) (Zg (.int 6))) (ZS VP (Zc (Zd 0) Zm))))
  (Zu (Ya 4 (dFn 3 fr (Zc (Zh dIx (Zd 0) (Zd 3)) (Zc (Zh Q7 (Zd 1) (Zg (.int 72))) (Zc (Zh Qj (Zd 2) (Zg (.int 1))) Zm)))))
  (ZR (Zh ZU (Zh ZU (dSl (Zd 0) Qq (Qp (Zd 3))) (YV (Zc (Zd 4) Zm))) (dSl (Zd 0) (Qp (Zh ZU (Zd 3) (Zg (.int 1)))) Qq))))) Zx)
  (Zu (Yb (QR (Zp (QN (UU .tuple) (Zd 0))) (QR (Zp (Zh dGt (ZS VP (Zc (Zd 0) Zm)) (Zg (.int 0)))) (Zp (Zh VQ (Zh YD (Zh Q7 (Zd 1) (Zg (.int 6))) (Zg (.int 2))) (Zg (.int 0)))))) (Zu (Ya 5 (Wh (Zc (ZS JX (Zc (Zd 0) Zm)) (Zc (dSl (Zd 0) Qq (Qp (QN WX (Zg (.int 1))))) (Zc (Zh ZU (Zd 0) (dSl (Zd 0) (Qp (QN WX (Zg (.int 1)))) Qq)) (Zc (Zh ZU (dSl (Zd 0) (Qp (Zg (.int 1))) Qq) (dSl (Zd 0) Qq (Qp (Zg (.int 1))))) (Zc (Zjx (Zd 0)) (Zc (Zh Zgw (Zd 0) (Zg (.int 2))) Zm))))))))
  (ZR (Zh dIx (Zd 5) (Zh YD (Zh Q7 (Zd 1) (Zg (.int 12))) (Zg (.int 6)))))) Zx)
  (Zu (Yb (QR (Zp (QN (UU .int) (Zd 0))) (Zp (Zh VQ (Zh YD (Zh Q7 (Zd 1) (Zg (.int 6))) (Zg (.int 2))) (Zg (.int 0))))) (ZR (Zh dIx (Wh (Zc (ZS WW (Zc (Zd 0) Zm)) (Zc (QN WX (Zd 0)) (Zc (Zh ZU (Zd 0) (Zg (.int 1))) (Zc (Zh VQ (Zd 0) (Zg (.int 1))) (Zc (Zh ZU (Zd 0) (Zg (.int 97))) (Zc (Zh Qj (Zd 0) (Zg (.int 1))) Zm))))))) (Zh YD (Zh Q7 (Zd 1) (Zg (.int 12))) (Zg (.int 6))))) Zx)
  (ZR (dFn 1 Qv (Zc (Zh Q7 (Zd 1) (Zg (.int 6))) Zm))))))
noncomputable def JV:List D->Option D:=Zo 6 (ZP fun _=>none)
noncomputable def JU:List D->Option D:=Zo 6 (ZP JV)
noncomputable def Qr:List D->Option D:=Zo 6 (ZP JU)
@[simp] theorem Zk8 (i:Nat) (ρ:Rho):Zd i ρ=(match ρ[i]? with | some (.val d)=>some d | _=>none):=rfl
@[simp] theorem ZmS (d:D) (ρ:Rho):Zg d ρ=some d:=rfl
@[simp] theorem ZaP (r:D->D->Option D) (f g:DE) (ρ:Rho):Zh r f g ρ=(f ρ).bind fun x=>(g ρ).bind fun y=>r x y:=by unfold Zh; rfl
@[simp] theorem ZmO (r:D->Option D) (f:DE) (ρ:Rho):QN r f ρ=(f ρ).bind r:=rfl
@[simp] theorem Zme (f:DE) (ρ:Rho):Zp f ρ=(f ρ).bind fun d=>match d with | .bl b=>some b | _=>none:=rfl
@[simp] theorem Zlr (r r':D->D->Option D) (f g h:DE) (ρ:Rho):JY r r' f g h ρ=(f ρ).bind fun x=>(g ρ).bind fun y=>(r x y).bind fun z=>match z with
  | .bl true=>(h ρ).bind fun u=>r' y u
  | .bl false=>some (.bl false)
  | _=>none:=rfl
@[simp] theorem ZmT (f g:DE) (ρ:Rho):Zaa f g ρ=(f ρ).bind fun x=>match x with | .bl true=>g ρ | .bl false=>some (.bl false) | _=>none:=rfl
@[simp] theorem Zny (f g:DE) (ρ:Rho):dOr f g ρ=(f ρ).bind fun x=>match x with | .bl true=>some (.bl true) | .bl false=>g ρ | _=>none:=rfl
@[simp] theorem ZmP (f:DE) (ρ:Rho):Zlq f ρ=(f ρ).bind fun x=>match x with | .bl k=>some (.bl (!k)) | _=>none:=rfl
@[simp] theorem ZlB (f g:DT) (ρ:Rho):QR f g ρ=(f ρ).bind fun x=>match x with | true=>g ρ | false=>some false:=rfl
@[simp] theorem Zmv (f g:DT) (ρ:Rho):ZbQ f g ρ=(f ρ).bind fun x=>match x with | true=>some true | false=>g ρ:=rfl
@[simp] theorem ZlA (f:DT) (ρ:Rho):YE f ρ=(f ρ).bind fun x=>some (!x):=rfl
@[simp] theorem Zg4 (ρ:Rho):ZV ρ=some true:=rfl
@[simp] theorem ZmQ (ρ:Rho):Zm ρ=some []:=rfl
@[simp] theorem Zgx (f:DE) (a:DA) (ρ:Rho):Zc f a ρ=(f ρ).bind fun x=>(a ρ).bind fun xs=>some (x::xs):=rfl
@[simp] theorem ZmL (as:DA) (ρ:Rho):YV as ρ=(as ρ).bind fun xs=>if xs.length<=lim then some (.tup xs) else none:=by unfold YV; rfl
@[simp] theorem ZmR (as:DA) (ρ:Rho):Wh as ρ=(as ρ).bind fun xs=>if xs.length<=lim then some (.lst xs) else none:=by unfold Wh; rfl
@[simp] theorem Zjz (r:List D->Option D) (as:DA) (ρ:Rho):ZS r as ρ=(as ρ).bind r:=by unfold ZS; rfl
@[simp] theorem Zmh (n:Nat) (fn:List D->Option D) (as:DA) (ρ:Rho):dFn n fn as ρ=(as ρ).bind fun xs=>if xs.length=n then fn xs else none:=by unfold dFn; rfl
@[simp] theorem Zmg (ρ:Rho):Zx ρ=some (.nx ρ):=rfl
@[simp] theorem ZB (g g':DS) (ρ:Rho):Zu g g' ρ=(match g ρ with | some (.nx ρ1)=>g' ρ1 | r=>r):=by unfold Zu; rfl
@[simp] theorem Zgv (f:DE) (ρ:Rho):ZR f ρ=(f ρ).map .rt:=by unfold ZR; rfl
@[simp] theorem Ji (t:DT) (g g':DS) (ρ:Rho):Yb t g g' ρ=(t ρ).bind fun b=>match b with | true=>g ρ | false=>g' ρ:=by unfold Yb; rfl
@[simp] theorem Zcp (i:Nat) (f:DE) (ρ:Rho):Ya i f ρ=(f ρ).map fun d=>.nx (ρ.set i (.val d)):=by unfold Ya; rfl
@[simp] theorem Va (it:DI) (b:DG) (g:DS) (ρ:Rho):Wi it b g ρ=(it ρ).bind fun xs=>Jf b g xs ρ:=by unfold Wi; rfl
@[simp] theorem Zl4 (f:DE) (ρ:Rho):QI f ρ=(f ρ).bind fun d=>match d with | .lst xs=>some xs | .tup xs=>some xs | _=>none:=rfl
@[simp] theorem ZmI (f:DE) (ρ:Rho):Zbo f ρ=(f ρ).bind fun d=>match d with | .int j=>if V1 j then some (Ql 0 j.toNat) else none | _=>none:=by unfold Zbo; rfl
@[simp] theorem ZmH (f g:DE) (ρ:Rho):Zf7 f g ρ=(f ρ).bind fun d=>(g ρ).bind fun d'=>match d,d' with | .int i,.int j=>if V1 i&&V1 j then some (Ql i (j-i).toNat) else none | _,_=>none:=by unfold Zf7; rfl
@[simp] theorem Zbz (caps:List (Option Nat)) (it:DI) (b:DG) (t:DT) (f:DE) (ρ:Rho):QF caps it b t f ρ=(it ρ).bind fun xs=>if xs.length<=lim then (YJ b t f xs (JE caps ρ)).map .lst else none:=by unfold QF; rfl
@[simp] theorem Zmf (f:DE) (l h:DO) (ρ:Rho):dSl f l h ρ=(f ρ).bind fun x=>(l ρ).bind fun lo=>(h ρ).bind fun hi=>Zgu lo hi x:=rfl
@[simp] theorem Zi9 (ρ:Rho):Qq ρ=some none:=rfl
@[simp] theorem Zi8 (f:DE) (ρ:Rho):Qp f ρ=(f ρ).bind fun d=>match d with | .int i=>some (some i) | _=>none:=rfl
@[simp] theorem ZmN (f:DE) (ρ:Rho):Zjx f ρ=(f ρ).bind fun x=>match x with | .lst xs=>some (.lst xs.reverse) | .tup xs=>some (.tup xs.reverse) | _=>none:=rfl
@[simp] theorem ZjF (i:Nat) (d:D) (ρ:Rho):ZQ i d ρ=some (ρ.set i (.val d)):=rfl
@[simp] theorem ZbF (i j:Nat) (a b:D) (ρ:Rho):Yz i j (.tup [a,b]) ρ=some ((ρ.set i (.val a)).set j (.val b)):=rfl
@[simp] theorem Zm6 (i j:Int):Qj (.int i) (.int j)=some (.int (i-j)):=rfl
@[simp] theorem Znz (i j:Int):ZU (.int i) (.int j)=some (.int (i+j)):=rfl
@[simp] theorem Zng (i:Int):WX (.int i)=some (.int (-i)):=rfl
@[simp] theorem ZnN (i j:Int):dLt (.int i) (.int j)=some (.bl (decide (i < j))):=rfl
@[simp] theorem ZnT (i j:Int):dLe (.int i) (.int j)=some (.bl (decide (i<=j))):=rfl
@[simp] theorem ZnU (i j:Int):dGt (.int i) (.int j)=some (.bl (decide (j < i))):=rfl
@[simp] theorem ZnV (i j:Int):dGe (.int i) (.int j)=some (.bl (decide (j<=i))):=rfl
theorem UO {i j:Int} (h:(-18446744073709551616 < i/\i < 18446744073709551616)\/(-18446744073709551616 < j/\j < 18446744073709551616)):YO (.int i) (.int j)=some (.int (i*j)):=by
  have:ZjS i j=true:=by
    unfold ZjS
    rcases h with ⟨a,b⟩ | ⟨a,b⟩
    · rw [Bool.or_eq_true_iff]; left; simp; omega
    · rw [Bool.or_eq_true_iff]; right; simp; omega
  show (if ZjS i j=true then _ else _)=_
  rw [if_pos this]
theorem Qh {i j:Int} (h:0 < j):YD (.int i) (.int j)=some (.int (i % j)):=by
  show (if decide (0 < j)=true then _ else _)=_
  rw [if_pos (by simpa using h)]
theorem Vx {i j:Int} (h:0 < j) (h2:j < 1073741824):Q7 (.int i) (.int j)=some (.int (i / j)):=by
  show (if (decide (0 < j)&&decide (j < 1073741824))=true then _ else _)=_
  rw [if_pos (by simp [h,h2])]
@[simp] theorem Znn (a b:D):dIx (.tup [a,b]) (.int 0)=some a:=rfl
@[simp] theorem Znm (a b:D):dIx (.tup [a,b]) (.int 1)=some b:=rfl
@[simp] theorem ZmB (i j:Int):ZeL [.int i,.int j]=some (.int (if j < i then j else i)):=rfl
@[simp] theorem ZmC (i j:Int):Zcr [.int i,.int j]=some (.int (if j > i then j else i)):=rfl
@[simp] theorem ZmE (xs:List D):VP [.lst xs]=some (.int xs.length):=rfl
@[simp] theorem ZmD (xs:List D):VP [.tup xs]=some (.int xs.length):=rfl
@[simp] theorem Znw (i j:Int):VQ (.int i) (.int j)=some (.bl (decide (i=j))):=by
  show (if (okD (.int i)&&okD (.int j))=true then _ else _)=_
  rw [if_pos (by rfl)]
  congr 2
@[simp] theorem Znh (i j:Int):Zby (.int i) (.int j)=some (.bl (!decide (i=j))):=by
  show (if (okD (.int i)&&okD (.int j))=true then _ else _)=_
  rw [if_pos (by rfl)]
  congr 3
@[simp] theorem Zni (i j:Bool):Zby (.bl i) (.bl j)=some (.bl (i != j)):=by
  cases i <;> cases j <;> rfl
@[simp] theorem Znx (i j:Bool):VQ (.bl i) (.bl j)=some (.bl (i==j)):=by
  cases i <;> cases j <;> rfl
noncomputable abbrev Pt:=Int×Int
noncomputable def pD (p:Pt):D:=.tup [.int p.1,.int p.2]
noncomputable def Sm (p:Pt):Prop:=(-1000000<=p.1/\p.1<=1000000)/\(-1000000<=p.2/\p.2<=1000000)
noncomputable def ZE (a b c:Pt):Int:=(b.1-a.1)*(c.2-a.2)-(b.2-a.2)*(c.1-a.1)
theorem U7 {a b c:Pt} (ha:Sm a) (hb:Sm b) (hc:Sm c):Us [pD a,pD b,pD c]=some (.int (ZE a b c)):=by
  obtain ⟨⟨a1,a2⟩,a3,a4⟩:=ha
  obtain ⟨⟨b1,b2⟩,b3,b4⟩:=hb
  obtain ⟨⟨c1,c2⟩,c3,c4⟩:=hc
  have m1:=UO (i:=b.1-a.1) (j:=c.2-a.2) (.inl (by omega))
  have m2:=UO (i:=b.2-a.2) (j:=c.1-a.1) (.inl (by omega))
  simp [Us,Zo,Zic,pD,ZE,m1,m2]
theorem Yd {a b c:Pt} (ha:Sm a) (hb:Sm b) (hc:Sm c):ZM [pD a,pD b,pD c]=some (.int (ZE a b c)):=U7 ha hb hc
noncomputable def ZjE (i j n:Int):Bool:=decide ((if j < i then j else i)<=n)&&decide (n<=(if j > i then j else i))
@[simp] theorem V5 (i j n:Int):Yj [.int i,.int j,.int n]=some (.bl (ZjE i j n)):=by
  simp [Yj,Zo,Up,ZjE]
  by_cases h:(if j < i then j else i)<=n
  · simp [h]
  · simp [h]
noncomputable def onZ (a b c:Pt):Bool:=decide (ZE a b c=0)&&ZjE a.1 b.1 c.1&&ZjE a.2 b.2 c.2
@[simp] theorem ZnM (p:Pt):dIx (pD p) (.int 0)=some (.int p.1):=rfl
@[simp] theorem ZnL (p:Pt):dIx (pD p) (.int 1)=some (.int p.2):=rfl
noncomputable def sD (s:Pt×Pt):D:=.tup [pD s.1,pD s.2]
@[simp] theorem ZnK (s:Pt×Pt):dIx (sD s) (.int 0)=some (pD s.1):=rfl
@[simp] theorem ZnJ (s:Pt×Pt):dIx (sD s) (.int 1)=some (pD s.2):=rfl
theorem Jr {a b c:Pt} (ha:Sm a) (hb:Sm b) (hc:Sm c):Qe [sD (a,b),pD c]=some (.bl (onZ a b c)):=by
  simp [Qe,Zo,Zcg,U7 ha hb hc,V5,onZ]
  by_cases h:ZE a b c=0
  · simp [h]
    cases ZjE a.1 b.1 c.1 <;> simp
  · simp [h]
theorem Js {a b c:Pt} (ha:Sm a) (hb:Sm b) (hc:Sm c):Yi [pD a,pD b,pD c]=some (.bl (onZ a b c)):=by
  simp [Yi,Zo,Zch,Yd ha hb hc,onZ,ZjE]
  by_cases h:ZE a b c=0
  · simp [h]
    by_cases h1:(if b.1 < a.1 then b.1 else a.1)<=c.1
    · simp [h1]
      by_cases h2:c.1<=(if b.1 > a.1 then b.1 else a.1)
      · simp [h2]
        by_cases h3:(if b.2 < a.2 then b.2 else a.2)<=c.2
        · simp [h3]
        · simp [h3]
      · simp [h2]
    · simp [h1]
  · simp [h]
theorem ZW {n:Nat} (h:n<=1000):n<=lim:=by unfold lim; omega
@[simp] theorem ZnS:(0<=lim)=True:=by simp
@[simp] theorem ZnR:(1<=lim)=True:=by rw [eq_true (ZW (by omega))]
@[simp] theorem ZnQ:(2<=lim)=True:=by rw [eq_true (ZW (by omega))]
@[simp] theorem Znk:(0+1+1<=lim)=True:=by rw [eq_true (ZW (by omega))]
@[simp] theorem ZnP:(3<=lim)=True:=by rw [eq_true (ZW (by omega))]
@[simp] theorem Znj:(0+1+1+1<=lim)=True:=by rw [eq_true (ZW (by omega))]
@[simp] theorem ZnO:(4<=lim)=True:=by rw [eq_true (ZW (by omega))]
theorem ZaQ {t:DT} {f:DE} {rest:Rho} {p:D->Bool} {g:D->D}:∀ {xs:List D} {s0:Sl},(∀ x∈xs,t (.val x::rest)=some (p x))->(∀ x∈xs,p x=true->f (.val x::rest)=some (g x)) ->
    YJ (ZQ 0) t f xs (s0::rest)=some ((xs.filter p).map g)
  | [],s0,_,_=>rfl
  | x::xs,s0,ht,hf=>by
    have ih:=ZaQ (xs:=xs) (s0:=.val x) (t:=t) (f:=f) (rest:=rest) (p:=p) (g:=g) (fun y hy=>ht y (List.mem_cons_of_mem _ hy)) (fun y hy=>hf y (List.mem_cons_of_mem _ hy))
    have h1:=ht x List.mem_cons_self
    have h2:=hf x List.mem_cons_self
    simp only [YJ,ZjF,List.set_cons_zero,Option.bind_some,h1]
    cases hp:p x with
    | true=>simp [h2 hp,ih,hp]
    | false=>simp [ih,hp]
theorem Jv {f:DE} {rest:Rho} {g:D->D} {xs:List D} {s0:Sl} (hf:∀ x∈xs,f (.val x::rest)=some (g x)):YJ (ZQ 0) ZV f xs (s0::rest)=some (xs.map g):=by
  have:=ZaQ (t:=ZV) (f:=f) (rest:=rest) (p:=fun _=>true) (g:=g) (xs:=xs) (s0:=s0) (fun _ _=>rfl) (fun x hx _=>hf x hx)
  rw [List.filter_eq_self.mpr (fun _ _=>rfl)] at this
  exact this
noncomputable def cyc (ps:List Pt) (i:Int):Pt:=ps[(i % (ps.length:Int)).toNat]?.getD (0,0)
theorem Zdk {n:Nat} {i:Int} (h1:-(n:Int)<=i) (h2:i < n):ixN n i=some (i % (n:Int)).toNat:=by
  unfold ixN
  by_cases h:0<=i
  · rw [if_pos h,if_pos h2,Int.emod_eq_of_lt h h2]
  · rw [if_neg h,if_pos h1]
    have:i % (n:Int)=i+n:=by
      rw [<-Int.add_emod_right]
      exact Int.emod_eq_of_lt (by omega) (by omega)
    rw [this]
theorem Zdv {ps:List Pt} {i:Int} (h1:-(ps.length:Int)<=i) (h2:i < ps.length):atI (ps.map pD) i=some (pD (cyc ps i)):=by
  have hn:0 < (ps.length:Int):=by omega
  have k1:=Int.emod_nonneg i (show (ps.length:Int)≠0 by omega)
  have k2:=Int.emod_lt_of_pos i hn
  unfold atI cyc
  rw [List.length_map,Zdk h1 h2]
  have hl:(i % (ps.length:Int)).toNat < ps.length:=by omega
  simp [hl]
theorem Q2 {ps:List Pt} {i:Int} (h1:-(ps.length:Int)<=i) (h2:i < ps.length):dIx (.tup (ps.map pD)) (.int i)=some (pD (cyc ps i)):=Zdv h1 h2
theorem Zji {ps:List Pt} {i:Int} (h1:-(ps.length:Int)<=i) (h2:i < ps.length):dIx (.lst (ps.map pD)) (.int i)=some (pD (cyc ps i)):=Zdv h1 h2
theorem J1 (ps:List Pt) (i:Int):cyc ps (i % ps.length)=cyc ps i:=by unfold cyc; rw [Int.emod_emod]
theorem Qk (ps:List Pt) (i:Int):cyc ps (i+ps.length)=cyc ps i:=by unfold cyc; rw [Int.add_emod_right]
theorem Yv {ps:List Pt} (h:ps≠[]) (i:Int):cyc ps i∈ps:=by
  have hn:0 < (ps.length:Int):=by have:=List.length_pos_iff.mpr h; omega
  have k1:=Int.emod_nonneg i (show (ps.length:Int)≠0 by omega)
  have k2:=Int.emod_lt_of_pos i hn
  unfold cyc
  have hl:(i % (ps.length:Int)).toNat < ps.length:=by omega
  simp [hl]
theorem JZ {ps:List Pt} {k:Nat} (h:k < ps.length):cyc ps k=ps[k]:=by
  unfold cyc
  rw [Int.emod_eq_of_lt (by omega) (by omega)]
  simp [h]
theorem YK {n:Int} (h1:-1000000<=n) (h2:n<=1000000):V1 n=true:=by
  unfold V1
  simp
  omega
noncomputable def All (P:Pt->Prop) (ps:List Pt):Prop:=∀ p∈ps,P p
noncomputable def QS (ps:List Pt) (k:Int):Pt×Pt:=(cyc ps k,cyc ps (k+1))
noncomputable def YF (ps:List Pt):List (Pt×Pt):=(List.range ps.length).map fun (k:Nat)=>QS ps ((k:Int)-1)
theorem Wc (lo:Int) (n:Nat):(Ql lo n).length=n:=by simp [Ql]
theorem Zg6 {ps : List Pt} : YJ (ZQ 0) ZV (YV (Zc (Zh dIx (Zd 1) (Zh Qj (Zd 0) (Zg (.int 1)))) (Zc (Zh dIx (Zd 1) (Zd 0)) Zm))) (Ql 0 ps.length) (.no :: [.val (.tup (ps.map pD))]) =
      some ((Ql 0 ps.length).map fun x => match x with | .int i => sD (QS ps (i - 1)) | _ => .non) := by
    refine Jv fun x hx => ?_
    unfold Ql at hx
    obtain ⟨k, hk, rfl⟩ := List.mem_map.mp hx
    have hk := List.mem_range.mp hk
    have e1 := Q2 (ps := ps) (i := (0 + (k : Int)) - 1) (by omega) (by omega)
    have e2 := Q2 (ps := ps) (i := (0 + (k : Int))) (by omega) (by omega)
    simp only [Int.zero_add] at e1 e2
    simp [e1, e2, sD, QS]
theorem Zfm {ps:List Pt} (h0:ps.length<=1000):V1 (ps.length:Int)=true:=YK (by omega) (by omega)
theorem Zfn {ps:List Pt} (h0:ps.length<=1000):(Ql 0 ps.length).length<=lim:=by rw [Wc]; exact ZW h0
theorem Zcl {ps:List Pt} (h0:ps.length<=1000):Qt [.tup (ps.map pD)]=some (.lst ((YF ps).map sD)):=by
  simp -implicitDefEqProofs [Qt,Zo,ZaK,Zfm h0,Zfn h0,JE,Zg6]
  simp [YF,Ql]
theorem Q5 {a b c:Pt} (ha:Sm a) (hb:Sm b) (hc:Sm c):Yr [pD a,pD b,pD c]=some (.bl (decide (0 < ZE a b c))):=by
  simp -implicitDefEqProofs [Yr,Zo,VJ,U7 ha hb hc]
noncomputable def SmS (s:Pt×Pt):Prop:=Sm s.1/\Sm s.2
theorem Zfo {ps:List Pt} (h:All Sm ps):∀ s∈YF ps,SmS s:=fun s hs=>by
  obtain ⟨k,hk,rfl⟩:=List.mem_map.mp hs
  have hk:=List.mem_range.mp hk
  have ne:ps≠[]:=fun z=>by rw [z] at hk; simp at hk
  exact ⟨h _ (Yv ne _),h _ (Yv ne _)⟩
theorem J8 (ps:List Pt):(YF ps).length=ps.length:=by simp [YF]
theorem ZkZ {c:D} {xs:List D} (h:Qf c=some xs) (i:Int):dIx c (.int i)=atI xs i:=by
  cases c <;> first | (cases h; rfl) | cases h
theorem Zf3 {c:D} {xs:List D} (h:Qf c=some xs):VP [c]=some (.int xs.length):=by
  cases c <;> first | (cases h; rfl) | cases h
theorem Zf6 {f:DE} {ρ:Rho} {c:D} {xs:List D} (hf:f ρ=some c) (h:Qf c=some xs):QI f ρ=some xs:=by
  unfold QI
  rw [hf]
  cases c <;> first | (cases h; rfl) | cases h
theorem Zbp {f:DE} {ρ:Rho} {c:D} {xs:List D} (hf:f ρ=some c) (h:Qf c=some xs):Jd f ρ=some (YN 0 xs):=by
  unfold Jd
  rw [Zf6 hf h]; rfl
theorem Zf4 {c:D} {ps:List Pt} (h:Qf c=some (ps.map pD)) {i:Int} (h1:-(ps.length:Int)<=i) (h2:i < ps.length):dIx c (.int i)=some (pD (cyc ps i)):=by rw [ZkZ h,Zdv h1 h2]
noncomputable def ZgY (d k:Int):Int:=(((d+7919*k+1)*48271 % 2147483647)*((d+7919*k+1)*48271 % 2147483647)+7*((d+7919*k+1)*48271 % 2147483647)+k) % 2147483629
noncomputable def JD (ns:List Int) (k:Nat):Int:=ns[k]?.getD 0
theorem ZhD (ns:List Int) (k:Nat):Yl [.lst (ns.map .int),.int k]=some (.int (JD ns k)):=by
  unfold JD
  by_cases h:k < ns.length
  · have e:dIx (.lst (ns.map D.int)) (.int k)=some (.int ns[k]):=by
      show atI (ns.map D.int) (k:Int)=_
      exact ZjG (by simp [h])
    simp -implicitDefEqProofs [Yl,Zo,Q4,h,e]
  · simp -implicitDefEqProofs [Yl,Zo,Q4,h]
theorem WS (ns:List Int) (k:Nat):ZH [.lst (ns.map .int),.int k]=some (.int (ZgY (JD ns k) k)):=by
  have m1:=UO (i:=7919) (j:=(k:Int)) (.inl (by omega))
  have m2:=UO (i:=JD ns k+7919*(k:Int)+1) (j:=48271) (.inr (by omega))
  have h1:=Int.emod_nonneg ((JD ns k+7919*(k:Int)+1)*48271) (show (2147483647:Int)≠0 by omega)
  have h2:=Int.emod_lt_of_pos ((JD ns k+7919*(k:Int)+1)*48271) (show (0:Int) < 2147483647 by omega)
  have d1:=Qh (i:=(JD ns k+7919*(k:Int)+1)*48271) (j:=2147483647) (by omega)
  have m3:=UO (i:=(JD ns k+7919*(k:Int)+1)*48271 % 2147483647) (j:=(JD ns k+7919*(k:Int)+1)*48271 % 2147483647) (.inl (by omega))
  have m4:=UO (i:=7) (j:=(JD ns k+7919*(k:Int)+1)*48271 % 2147483647) (.inl (by omega))
  have d2:=fun x=>Qh (i:=x) (j:=2147483629) (by omega)
  simp -implicitDefEqProofs [ZH,Zo,VN,ZhD,m1,m2,d1,m3,m4,d2,ZgY]
theorem ZdR (d k:Int):0<=ZgY d k/\ZgY d k < 2147483629:=⟨Int.emod_nonneg _ (by omega),Int.emod_lt_of_pos _ (by omega)⟩
noncomputable def Uj (n k:Int):Int:=(((n+104729*k+17)*69621 % 2147483647)*((n+104729*k+17)*69621 % 2147483647)+3*((n+104729*k+17)*69621 % 2147483647)+k) % 2147483629
theorem U8 (n k:Int):Zv [.int n,.int k]=some (.int (Uj n k)):=by
  have m1:=UO (i:=104729) (j:=k) (.inl (by omega))
  have m2:=UO (i:=n+104729*k+17) (j:=69621) (.inr (by omega))
  have h1:=Int.emod_nonneg ((n+104729*k+17)*69621) (show (2147483647:Int)≠0 by omega)
  have h2:=Int.emod_lt_of_pos ((n+104729*k+17)*69621) (show (0:Int) < 2147483647 by omega)
  have d1:=Qh (i:=(n+104729*k+17)*69621) (j:=2147483647) (by omega)
  have m3:=UO (i:=(n+104729*k+17)*69621 % 2147483647) (j:=(n+104729*k+17)*69621 % 2147483647) (.inl (by omega))
  have m4:=UO (i:=3) (j:=(n+104729*k+17)*69621 % 2147483647) (.inl (by omega))
  have d2:=fun x=>Qh (i:=x) (j:=2147483629) (by omega)
  simp -implicitDefEqProofs [Zv,Zo,VO,m1,m2,d1,m3,m4,d2,Uj]
theorem Ub {c:D} {ps:List Pt} (h:Qf c=some (ps.map pD)) (hne:ps≠[]) (i j:Int):Zt [c,.int i,.int j]=some (pD (cyc ps (i+j))):=by
  have hn:0 < (ps.length:Int):=by have:=List.length_pos_iff.mpr hne; omega
  have k1:=Int.emod_nonneg (i+j) (show (ps.length:Int)≠0 by omega)
  have k2:=Int.emod_lt_of_pos (i+j) hn
  have e:=Zf4 h (i:=(i+j) % (ps.length:Int)) (by omega) k2
  have d:=Qh (i:=i+j) (j:=(ps.length:Int)) hn
  have l:=Zf3 h
  rw [List.length_map] at l
  simp -implicitDefEqProofs [Zt,Zo,WO,l,d,e]
  rw [J1]
noncomputable def Zdw (ps:List Pt):Int->List Pt->Int
  | _,[]=>0
  | k,a::r=>(a.1*(cyc ps (k+1)).2-a.2*(cyc ps (k+1)).1)+Zdw ps (k+1) r
noncomputable def Zak (ps:List Pt):Int:=Zdw ps 0 ps
theorem ZkG {i j:Int} (h1:-1000000<=i) (h2:i<=1000000):YO (.int i) (.int j)=some (.int (i*j)):=UO (.inl (by omega))
theorem ZgM {c:D} {ps:List Pt} (h:Qf c=some (ps.map pD)) (hne:ps≠[]) {a:Pt} (ha:Sm a) (found k:Int) (s4:Sl) :
    (Zu (Ya 4 (dFn 3 Zt (Zc (Zd 0) (Zc (Zd 2) (Zc (Zg (.int 1)) Zm)))))
  (Ya 1 (Zh Qj (Zh ZU (Zd 1) (Zh YO (Zh dIx (Zd 3) (Zg (.int 0))) (Zh dIx (Zd 4) (Zg (.int 1))))) (Zh YO (Zh dIx (Zd 3) (Zg (.int 1))) (Zh dIx (Zd 4) (Zg (.int 0))))))) [.val c,.val (.int found),.val (.int k),.val (pD a),s4] =
    some (.nx [.val c,.val (.int (found+(a.1*(cyc ps (k+1)).2-a.2*(cyc ps (k+1)).1))),.val (.int k),.val (pD a),.val (pD (cyc ps (k+1)))]):=by
  obtain ⟨⟨a1,a2⟩,a3,a4⟩:=ha
  have m1:=ZkG (i:=a.1) (j:=(cyc ps (k+1)).2) a1 a2
  have m2:=ZkG (i:=a.2) (j:=(cyc ps (k+1)).1) a3 a4
  have e:=Ub h hne k 1
  simp -implicitDefEqProofs [e,m1,m2]
  omega
theorem ZcC {c:D} {ps:List Pt} (h:Qf c=some (ps.map pD)) (hne:ps≠[]):∀ (ys:List Pt) (k:Nat) (found:Int) (s2 s3 s4:Sl),All Sm ys->∃ t2 t3 t4,
    Jf (Yz 2 3) (Zu (Ya 4 (dFn 3 Zt (Zc (Zd 0) (Zc (Zd 2) (Zc (Zg (.int 1)) Zm)))))
  (Ya 1 (Zh Qj (Zh ZU (Zd 1) (Zh YO (Zh dIx (Zd 3) (Zg (.int 0))) (Zh dIx (Zd 4) (Zg (.int 1))))) (Zh YO (Zh dIx (Zd 3) (Zg (.int 1))) (Zh dIx (Zd 4) (Zg (.int 0)))))))
      (YN k (ys.map pD)) [.val c,.val (.int found),s2,s3,s4]=some (.nx [.val c,.val (.int (found+Zdw ps k ys)),t2,t3,t4])
  | [],k,found,s2,s3,s4,_=>⟨s2,s3,s4,by simp [YN,Jf,Zdw]⟩
  | a::ys,k,found,s2,s3,s4,hs=>by
    have st:=ZgM h hne (hs a List.mem_cons_self) found k s4
    obtain ⟨t2,t3,t4,ih⟩:=ZcC h hne ys (k+1) (found+(a.1*(cyc ps ((k:Int)+1)).2-a.2*(cyc ps ((k:Int)+1)).1)) (.val (.int k)) (.val (pD a)) (.val (pD (cyc ps ((k:Int)+1)))) fun p hp=>hs p (List.mem_cons_of_mem _ hp)
    refine ⟨t2,t3,t4,?_⟩
    simp only [List.map_cons,YN,Jf,ZbF,List.set_cons_zero,List.set_cons_succ,Option.bind_some]
    rw [st]
    show Jf _ _ _ _=_
    rw [ih]
    simp only [Zdw]
    rw [Int.add_assoc]
    rfl
theorem Zd2 {c:D} {ps:List Pt} (h:Qf c=some (ps.map pD)) (hne:ps≠[]) (hs:All Sm ps):Yu [c]=some (.int (Zak ps)):=by
  obtain ⟨t2,t3,t4,e⟩:=ZcC h hne ps 0 0 .no .no .no hs
  unfold Yu Zo WQ
  show (Zu _ (Zu _ _) [.val c,.no,.no,.no,.no]).bind _=_
  rw [ZB]
  show (Zu _ _ [.val c,.val (.int 0),.no,.no,.no]).bind _=_
  rw [ZB,Va]
  have e0:Jd (Zd 0) [.val c,.val (.int 0),.no,.no,.no]=some (YN 0 (ps.map pD)):=Zbp rfl h
  rw [e0,Option.bind_some,e]
  rw [Int.zero_add]
  rfl
noncomputable def Wo (ps:List Pt):Int->List Pt->List (Pt×Pt)
  | _,[]=>[]
  | k,a::r=>(a,cyc ps (k+1))::Wo ps (k+1) r
theorem VE (ps:List Pt):∀ (ys:List Pt) (k:Nat),ps.drop k=ys->Wo ps k ys=(List.range ys.length).map fun (j:Nat)=>QS ps (((k+j:Nat)):Int)
  | [],k,_=>rfl
  | a::ys,k,h=>by
    have hk:k < ps.length:=by
      by_cases z:k < ps.length
      · exact z
      · rw [List.drop_eq_nil_of_le (by omega)] at h; cases h
    rw [List.drop_eq_getElem_cons hk] at h
    injection h with h1 h2
    have ih:=VE ps ys (k+1) h2
    unfold Wo
    rw [List.length_cons,List.range_succ_eq_map,List.map_cons,List.map_map]
    congr 1
    · unfold QS
      rw [Nat.add_zero,JZ hk,h1]
    · rw [show ((k:Int)+1)=((k+1:Nat):Int) by omega,ih]
      apply List.map_congr_left
      intro j _
      simp only [Function.comp]
      congr 1
      omega
theorem okL {ds:List D} (h:∀ d∈ds,okD d=true/\(Jx d).depth<=5):PyData.canLayAll0 (Qo ds)=true/\PyData.depthAll (Qo ds)<=5:=by
  induction ds with
  | nil=>simp [Qo,PyData.canLayAll0,PyData.depthAll]
  | cons d ds ih=>
    obtain ⟨h1,h2⟩:=h d List.mem_cons_self
    obtain ⟨i1,i2⟩:=ih fun e he=>h e (List.mem_cons_of_mem _ he)
    simp [Qo,PyData.canLayAll0,PyData.depthAll,okD.can h1,i1]
    omega
theorem ZfO {ds:List D} (h:∀ d∈ds,okD d=true/\(Jx d).depth<=5):okD (.lst ds)=true/\(Jx (.lst ds)).depth<=6:=by
  obtain ⟨h1,h2⟩:=okL h
  simp [okD,Jx,PyData.canLay0,PyData.depth,h1]
  omega
theorem Zi4 {ds:List D} (h:∀ d∈ds,okD d=true/\(Jx d).depth<=5):okD (.tup ds)=true/\(Jx (.tup ds)).depth<=6:=by
  obtain ⟨h1,h2⟩:=okL h
  simp [okD,Jx,PyData.canLay0,PyData.depth,h1]
  omega
theorem Zi5 (i:Int):okD (.int i)=true/\(Jx (.int i)).depth<=5:=⟨rfl,Nat.zero_le _⟩
theorem VH (p:Pt):okD (pD p)=true/\(Jx (pD p)).depth<=5:=by
  refine ⟨rfl,?_⟩
  simp [pD,Jx,Qo,PyData.depth,PyData.depthAll]
theorem Zgs (i j:Int):deq (.int i) (.int j)=decide (i=j):=by
  show PyData.eqv (.int i) (.int j)=_
  simp only [PyData.eqv]
  rfl
theorem Zco (p q:Pt):deq (pD p) (pD q)=decide (p=q):=by
  show PyData.eqv (.tuple [.int p.1,.int p.2]) (.tuple [.int q.1,.int q.2])=_
  simp only [PyData.eqv,PyData.eqvAll,Bool.and_true]
  rw [Bool.eq_iff_iff]
  simp [Prod.ext_iff]
theorem Zgc (i:Int) (ns:List Int):Zih (.int i) (.lst (ns.map .int))=some (.bl (decide (i∈ns))):=by
  have h1:okD (.lst (ns.map D.int))=true:=(ZfO fun d hd=>by obtain ⟨n,_,rfl⟩:=List.mem_map.mp hd; exact Zi5 n).1
  have h2:okD (.int i)=true:=rfl
  show Option.map D.bl (if (okD (.int i)&&okD (.lst (ns.map D.int)))=true then some ((ns.map D.int).any fun y=>deq y (.int i)) else none)=_
  rw [h1,h2,if_pos (by decide)]
  show some (D.bl _)=_
  congr 2
  rw [Bool.eq_iff_iff,List.any_eq_true,decide_eq_true_eq]
  constructor
  · rintro ⟨x,hx,q⟩
    obtain ⟨n,hn,rfl⟩:=List.mem_map.mp hx
    rw [Zgs] at q
    have:=of_decide_eq_true q
    subst this; exact hn
  · intro h
    exact ⟨.int i,List.mem_map.mpr ⟨i,h,rfl⟩,by rw [Zgs]; simp⟩
noncomputable def Zbm (a b c d:Pt):Bool:=(onZ a b c||onZ a b d||onZ c d a||onZ c d b)||(decide (ZE a b c*ZE a b d < 0)&&decide (ZE c d a*ZE c d b < 0))
theorem Zaw {a b c:Pt} (ha:Sm a) (hb:Sm b) (hc:Sm c):-18446744073709551616 < ZE a b c/\ZE a b c < 18446744073709551616:=by
  obtain ⟨⟨a1,a2⟩,a3,a4⟩:=ha
  obtain ⟨⟨b1,b2⟩,b3,b4⟩:=hb
  obtain ⟨⟨c1,c2⟩,c3,c4⟩:=hc
  have key:∀ x y:Int,-2000000<=x->x<=2000000->-2000000<=y->y<=2000000->-4000000000000<=x*y/\x*y<=4000000000000:=by
    intro x y h1 h2 h3 h4
    have n:(x*y).natAbs<=2000000*2000000:=by
      rw [Int.natAbs_mul]
      exact Nat.mul_le_mul (by omega) (by omega)
    omega
  have k1:=key (b.1-a.1) (c.2-a.2) (by omega) (by omega) (by omega) (by omega)
  have k2:=key (b.2-a.2) (c.1-a.1) (by omega) (by omega) (by omega) (by omega)
  unfold ZE
  omega
theorem ZhC {a b c d:Pt} (ha:Sm a) (hb:Sm b) (hc:Sm c) (hd:Sm d):Yt [pD a,pD b,pD c,pD d]=some (.bl (Zbm a b c d)):=by
  have o1:=Js ha hb hc
  have o2:=Js ha hb hd
  have o3:=Js hc hd ha
  have o4:=Js hc hd hb
  have t1:=Yd ha hb hc
  have t2:=Yd ha hb hd
  have t3:=Yd hc hd ha
  have t4:=Yd hc hd hb
  have m1:=UO (i:=ZE a b c) (j:=ZE a b d) (.inl (Zaw ha hb hc))
  have m2:=UO (i:=ZE c d a) (j:=ZE c d b) (.inl (Zaw hc hd ha))
  unfold Zbm
  have e1:(Yb (ZbQ (Zp (dFn 3 Yi (Zc (Zd 0) (Zc (Zd 1) (Zc (Zd 2) Zm))))) (ZbQ (Zp (dFn 3 Yi (Zc (Zd 0) (Zc (Zd 1) (Zc (Zd 3) Zm))))) (ZbQ (Zp (dFn 3 Yi (Zc (Zd 2) (Zc (Zd 3) (Zc (Zd 0) Zm))))) (Zp (dFn 3 Yi (Zc (Zd 2) (Zc (Zd 3) (Zc (Zd 1) Zm)))))))) (ZR (Zg (.bl true))) Zx) [.val (pD a),.val (pD b),.val (pD c),.val (pD d)] =
      if (onZ a b c||onZ a b d||onZ c d a||onZ c d b)=true then some (.rt (.bl true)) else some (.nx [.val (pD a),.val (pD b),.val (pD c),.val (pD d)]):=by
    cases q1:onZ a b c with
    | true=>rw [q1] at o1; simp -implicitDefEqProofs [o1]
    | false=>
      rw [q1] at o1
      cases q2:onZ a b d with
      | true=>rw [q2] at o2; simp -implicitDefEqProofs [o1,o2]
      | false=>
        rw [q2] at o2
        cases q3:onZ c d a with
        | true=>rw [q3] at o3; simp -implicitDefEqProofs [o1,o2,o3]
        | false=>
          rw [q3] at o3
          cases q4:onZ c d b with
          | true=>rw [q4] at o4; simp -implicitDefEqProofs [o1,o2,o3,o4]
          | false=>rw [q4] at o4; simp -implicitDefEqProofs [o1,o2,o3,o4]
  unfold Yt Zo WP
  show (Zu _ (Zu _ _) [.val (pD a),.val (pD b),.val (pD c),.val (pD d)]).bind _=_
  rw [ZB,e1]
  by_cases ho:(onZ a b c||onZ a b d||onZ c d a||onZ c d b)=true
  · rw [if_pos ho,ho]; rfl
  · rw [if_neg ho]
    have ho':(onZ a b c||onZ a b d||onZ c d a||onZ c d b)=false:=by simpa using ho
    rw [ho',Bool.false_or]
    show (Zu _ _ [.val (pD a),.val (pD b),.val (pD c),.val (pD d)]).bind _=_
    by_cases hn:ZE a b c*ZE a b d < 0
    · have:¬ 0<=ZE a b c*ZE a b d:=by omega
      simp -implicitDefEqProofs [t1,t2,t3,t4,m1,m2,this,hn]
    · have:0<=ZE a b c*ZE a b d:=by omega
      simp -implicitDefEqProofs [t1,t2,m1,this,hn]
theorem UP {b:DG} {g:DS} {R:Rho->Prop} {bad:D->Bool} {d:D}:∀ {xs:List D},(∀ x∈xs,∀ ρ,R ρ->∃ ρ1,b x ρ=some ρ1/\if bad x=true then g ρ1=some (.rt d) else ∃ ρ2,R ρ2/\g ρ1=some (.nx ρ2)) ->
    ∀ ρ,R ρ->if xs.any bad=true then Jf b g xs ρ=some (.rt d) else ∃ ρ2,R ρ2/\Jf b g xs ρ=some (.nx ρ2)
  | [],h,ρ,hr=>by
    rw [if_neg (by simp)]
    exact ⟨ρ,hr,rfl⟩
  | x::xs,h,ρ,hr=>by
    obtain ⟨ρ1,e1,h1⟩:=h x List.mem_cons_self ρ hr
    have ih:=UP (xs:=xs) (b:=b) (g:=g) (R:=R) (bad:=bad) (d:=d) fun y hy=>h y (List.mem_cons_of_mem _ hy)
    rw [List.any_cons]
    by_cases hb:bad x=true
    · rw [if_pos hb] at h1
      rw [hb,Bool.true_or,if_pos rfl]
      unfold Jf
      rw [e1,Option.bind_some,h1]
    · rw [if_neg hb] at h1
      obtain ⟨ρ2,r2,h2⟩:=h1
      have hb':bad x=false:=by simpa using hb
      rw [hb',Bool.false_or]
      have e:Jf b g (x::xs) ρ=Jf b g xs ρ2:=by
        conv=>lhs; unfold Jf
        rw [e1,Option.bind_some,h2]
      rw [e]
      exact ih ρ2 r2
noncomputable def Q9 (ps:List Pt):List Int:=(List.range ps.length).map fun (k:Nat)=>ZE (cyc ps k) (cyc ps ((k:Int)+1)) (cyc ps ((k:Int)+2))
theorem Ziw {c:D} {ps:List Pt} (h:Qf c=some (ps.map pD)) (hne:ps≠[]) (hps:All Sm ps) {a:Pt} (ha:Sm a) (acc:List Int) (hl:acc.length < 1000) (k:Int) :
    (ZjR 1 (dFn 3 ZM (Zc (Zd 3) (Zc (dFn 3 Zt (Zc (Zd 0) (Zc (Zd 2) (Zc (Zg (.int 1)) Zm)))) (Zc (dFn 3 Zt (Zc (Zd 0) (Zc (Zd 2) (Zc (Zg (.int 2)) Zm)))) Zm))))) [.val c,.own (acc.map .int),.val (.int k),.val (pD a)] =
    some (.nx [.val c,.own ((acc++[ZE a (cyc ps (k+1)) (cyc ps (k+2))]).map .int),.val (.int k),.val (pD a)]):=by
  have e1:=Ub h hne k 1
  have e2:=Ub h hne k 2
  have e3:=Yd ha (hps _ (Yv hne (k+1))) (hps _ (Yv hne (k+2)))
  have hl':acc.length < lim:=by unfold lim; omega
  unfold ZjR
  simp -implicitDefEqProofs [e1,e2,e3,hl']
theorem Zfc {c:D} {ps:List Pt} (h:Qf c=some (ps.map pD)) (hne:ps≠[]) (hps:All Sm ps):∀ (ys:List Pt) (k:Nat) (acc:List Int) (s2 s3:Sl),All Sm ys->ps.drop k=ys->acc.length+ys.length<=1000->∃ t2 t3,
    Jf (Yz 2 3) (ZjR 1 (dFn 3 ZM (Zc (Zd 3) (Zc (dFn 3 Zt (Zc (Zd 0) (Zc (Zd 2) (Zc (Zg (.int 1)) Zm)))) (Zc (dFn 3 Zt (Zc (Zd 0) (Zc (Zd 2) (Zc (Zg (.int 2)) Zm)))) Zm)))))
      (YN k (ys.map pD)) [.val c,.own (acc.map .int),s2,s3]=some (.nx [.val c,.own ((acc++(List.range ys.length).map fun (j:Nat)=>ZE (cyc ps ((k+j:Nat):Int)) (cyc ps (((k+j:Nat):Int)+1)) (cyc ps (((k+j:Nat):Int)+2))).map .int),t2,t3])
  | [],k,acc,s2,s3,_,_,_=>⟨s2,s3,by simp [YN,Jf]⟩
  | a::ys,k,acc,s2,s3,hs,hdr,hl=>by
    have hk:k < ps.length:=by
      by_cases z:k < ps.length
      · exact z
      · rw [List.drop_eq_nil_of_le (by omega)] at hdr; cases hdr
    rw [List.drop_eq_getElem_cons hk] at hdr
    injection hdr with h1 h2
    have st:=Ziw h hne hps (hs a List.mem_cons_self) acc (by simp at hl; omega) k
    obtain ⟨t2,t3,ih⟩:=Zfc h hne hps ys (k+1) (acc++[ZE a (cyc ps ((k:Int)+1)) (cyc ps ((k:Int)+2))]) (.val (.int k)) (.val (pD a)) (fun p hp=>hs p (List.mem_cons_of_mem _ hp)) h2 (by simp at hl ⊢; omega)
    refine ⟨t2,t3,?_⟩
    simp only [List.map_cons,YN,Jf,ZbF,List.set_cons_zero,List.set_cons_succ,Option.bind_some]
    rw [st]
    show Jf _ _ _ _=_
    rw [ih]
    congr 5
    rw [List.append_assoc,List.length_cons,List.range_succ_eq_map,List.map_cons,List.map_map]
    refine congrArg (fun z=>List.map D.int (acc++z)) ?_
    rw [List.singleton_append]
    congr 1
    · rw [<-h1,<-JZ hk,Nat.add_zero]
    · apply List.map_congr_left
      intro j _
      simp only [Function.comp]
      have:((k+1+j:Nat):Int)=((k+(j+1):Nat):Int):=by omega
      rw [this]
theorem Zgl {c:D} {ps:List Pt} (h:Qf c=some (ps.map pD)) (hne:ps≠[]) (hps:All Sm ps) (hl:ps.length<=1000):YT [c]=some (.lst ((Q9 ps).map .int)):=by
  obtain ⟨t2,t3,e⟩:=Zfc h hne hps ps 0 [] .no .no hps rfl (by simpa using hl)
  unfold YT Zo VL
  show (Zu _ (Zu _ _) [.val c,.no,.no,.no]).bind _=_
  rw [ZB]
  have e0:Zbx 1 Zm [.val c,.no,.no,.no]=some (.nx [.val c,.own [],.no,.no]):=by
    unfold Zbx
    simp -implicitDefEqProofs
  rw [e0]
  show (Zu _ _ [.val c,.own [],.no,.no]).bind _=_
  rw [ZB,Va]
  have e1:Jd (Zd 0) [.val c,.own [],.no,.no]=some (YN 0 (ps.map pD)):=Zbp rfl h
  rw [e1,Option.bind_some]
  have e':=e
  simp only [List.map_nil,List.nil_append,Nat.zero_add] at e'
  rw [e']
  show (Zlp 1 (ZR (Zd 1)) _).bind _=_
  unfold Zlp L3.rel
  simp -implicitDefEqProofs
  unfold Q9
  simp
noncomputable def ZdW (p:Pt):List Int:=[p.1,p.2]
theorem Zht {p q:Pt} (h:ZdW p=ZdW q):p=q:=by
  unfold ZdW at h
  injection h with h1 h2
  injection h2 with h2 _
  exact Prod.ext h1 h2
theorem ZaD:∀ (ps:List Pt),U2 (ps.map pD)=some (ps.map ZdW)
  | []=>rfl
  | p::ps=>by
    show (Ui [.int p.1,.int p.2]).bind (fun k=>(U2 (ps.map pD)).map (k::·))=_
    rw [ZaD ps]
    rfl
theorem Zh8 (ks:List (List Int)):(VI ks).length < ks.length ↔ ¬ ks.Nodup:=by
  have le:∀ ks:List (List Int),(VI ks).length<=ks.length:=by
    intro ks
    induction ks with
    | nil=>exact Nat.le_refl _
    | cons k r ih=>
      unfold VI
      split
      · simp; omega
      · simp; omega
  induction ks with
  | nil=>simp [VI]
  | cons k r ih=>
    have l:=le r
    unfold VI
    by_cases c:k∈r
    · rw [if_pos c]
      simp [c]
      omega
    · rw [if_neg c]
      simp [c,ih]
theorem U0 (ps:List Pt):(ps.map ZdW).Nodup ↔ ps.Nodup:=by
  induction ps with
  | nil=>simp
  | cons p ps ih=>
    rw [List.map_cons,List.nodup_cons,List.nodup_cons,ih]
    have:ZdW p∈ps.map ZdW ↔ p∈ps:=by
      rw [List.mem_map]
      exact ⟨fun ⟨q,hq,e⟩=>Zht e ▸ hq,fun h=>⟨p,h,rfl⟩⟩
    rw [this]
theorem ZdV {c:D} {ps:List Pt} (h:Qf c=some (ps.map pD)) (hl:ps.length<=70):Vy c=some (.int (VI (ps.map ZdW)).length):=by
  unfold Vy
  rw [h,Option.bind_some,ZaD,Option.bind_some,if_pos (by simpa using hl)]
noncomputable def ZhM (ps:List Pt) (i j:Int):Bool:=!decide ((j+1) % (ps.length:Int)=i)&&Zbm (cyc ps i) (cyc ps (i+1)) (cyc ps j) (cyc ps (j+1))
noncomputable def Zdo (ps:List Pt) (i:Nat):Bool:=(List.range (ps.length-(i+2))).any fun j=>ZhM ps i ((i+2+j:Nat):Int)
noncomputable def badAny (ps:List Pt):Bool:=(List.range ps.length).any fun i=>Zdo ps i
noncomputable def QC (ps:List Pt):Bool:=decide ps.Nodup&&!decide (0∈Q9 ps)&&!badAny ps
theorem Zjm {c:D} {ps:List Pt} (h:Qf c=some (ps.map pD)) (hne:ps≠[]) (hps:All Sm ps) {i j:Nat} (hi:i < ps.length) (hj:j < ps.length) (s4 s5:Sl) :
    if ZhM ps i j=true then (Yb (Zp (Zh Zby (Zh YD (Zh ZU (Zd 3) (Zg (.int 1))) (Zd 1)) (Zd 2))) (Zu (Ya 4 (Zh dIx (Zd 0) (Zd 3)))
  (Zu (Ya 5 (dFn 3 Zt (Zc (Zd 0) (Zc (Zd 3) (Zc (Zg (.int 1)) Zm)))))
  (Yb (Zp (dFn 4 Yt (Zc (Zh dIx (Zd 0) (Zd 2)) (Zc (dFn 3 Zt (Zc (Zd 0) (Zc (Zd 2) (Zc (Zg (.int 1)) Zm)))) (Zc (Zd 4) (Zc (Zd 5) Zm)))))) (ZR (Zg (.bl false))) Zx))) Zx) [.val c,.val (.int ps.length),.val (.int i),.val (.int j),s4,s5]=some (.rt (.bl false))
    else ∃ t4 t5,(Yb (Zp (Zh Zby (Zh YD (Zh ZU (Zd 3) (Zg (.int 1))) (Zd 1)) (Zd 2))) (Zu (Ya 4 (Zh dIx (Zd 0) (Zd 3)))
  (Zu (Ya 5 (dFn 3 Zt (Zc (Zd 0) (Zc (Zd 3) (Zc (Zg (.int 1)) Zm)))))
  (Yb (Zp (dFn 4 Yt (Zc (Zh dIx (Zd 0) (Zd 2)) (Zc (dFn 3 Zt (Zc (Zd 0) (Zc (Zd 2) (Zc (Zg (.int 1)) Zm)))) (Zc (Zd 4) (Zc (Zd 5) Zm)))))) (ZR (Zg (.bl false))) Zx))) Zx) [.val c,.val (.int ps.length),.val (.int i),.val (.int j),s4,s5]=some (.nx [.val c,.val (.int ps.length),.val (.int i),.val (.int j),t4,t5]):=by
  have hn:0 < (ps.length:Int):=by omega
  have d:=Qh (i:=(j:Int)+1) (j:=(ps.length:Int)) hn
  have x1:=Zf4 h (i:=(j:Int)) (by omega) (by omega)
  have x2:=Zf4 h (i:=(i:Int)) (by omega) (by omega)
  have n1:=Ub h hne j 1
  have n2:=Ub h hne i 1
  have m:=ZhC (hps _ (Yv hne (i:Int))) (hps _ (Yv hne ((i:Int)+1))) (hps _ (Yv hne (j:Int))) (hps _ (Yv hne ((j:Int)+1)))
  unfold ZhM
  by_cases c1:((j:Int)+1) % (ps.length:Int)=i
  · rw [if_neg (by simp [c1])]
    refine ⟨s4,s5,?_⟩
    simp -implicitDefEqProofs [d,c1]
  · cases hm:Zbm (cyc ps i) (cyc ps ((i:Int)+1)) (cyc ps j) (cyc ps ((j:Int)+1)) with
    | true=>
      rw [hm] at m
      rw [if_pos (by simp [c1])]
      simp -implicitDefEqProofs [d,c1,x1,x2,n1,n2,m]
    | false=>
      rw [hm] at m
      rw [if_neg (by simp)]
      refine ⟨.val (pD (cyc ps j)),.val (pD (cyc ps ((j:Int)+1))),?_⟩
      simp -implicitDefEqProofs [d,c1,x1,x2,n1,n2,m]
noncomputable def igB:DS:=(Yb (Zp (Zh Zby (Zh YD (Zh ZU (Zd 3) (Zg (.int 1))) (Zd 1)) (Zd 2))) (Zu (Ya 4 (Zh dIx (Zd 0) (Zd 3)))
  (Zu (Ya 5 (dFn 3 Zt (Zc (Zd 0) (Zc (Zd 3) (Zc (Zg (.int 1)) Zm)))))
  (Yb (Zp (dFn 4 Yt (Zc (Zh dIx (Zd 0) (Zd 2)) (Zc (dFn 3 Zt (Zc (Zd 0) (Zc (Zd 2) (Zc (Zg (.int 1)) Zm)))) (Zc (Zd 4) (Zc (Zd 5) Zm)))))) (ZR (Zg (.bl false))) Zx))) Zx)
theorem Zhy {c:D} {ps:List Pt} (h:Qf c=some (ps.map pD)) (hne:ps≠[]) (hps:All Sm ps) (hl:ps.length<=1000) {i:Nat} (hi:i < ps.length) (s3 s4 s5:Sl) :
    if Zdo ps i=true then (Wi (Zf7 (Zh ZU (Zd 2) (Zg (.int 2))) (Zd 1)) (ZQ 3) igB) [.val c,.val (.int ps.length),.val (.int i),s3,s4,s5]=some (.rt (.bl false))
    else ∃ t3 t4 t5,(Wi (Zf7 (Zh ZU (Zd 2) (Zg (.int 2))) (Zd 1)) (ZQ 3) igB) [.val c,.val (.int ps.length),.val (.int i),s3,s4,s5]=some (.nx [.val c,.val (.int ps.length),.val (.int i),t3,t4,t5]):=by
  have e0:Zf7 (Zh ZU (Zd 2) (Zg (.int 2))) (Zd 1) [.val c,.val (.int ps.length),.val (.int i),s3,s4,s5]=some (Ql ((i:Int)+2) (ps.length-(i+2))):=by
    have r1:=YK (n:=(i:Int)+2) (by omega) (by omega)
    have r2:=YK (n:=(ps.length:Int)) (by omega) (by omega)
    have e:((ps.length:Int)-((i:Int)+2)).toNat=ps.length-(i+2):=by omega
    simp -implicitDefEqProofs [r1,r2,e]
  rw [Va,e0,Option.bind_some]
  have hx:∀ x∈Ql ((i:Int)+2) (ps.length-(i+2)),∃ j:Nat,j < ps.length/\x=.int j/\i+2<=j:=fun x hx=>by
    unfold Ql at hx
    obtain ⟨k,hk,rfl⟩:=List.mem_map.mp hx
    have:=List.mem_range.mp hk
    exact ⟨i+2+k,by omega,rfl,by omega⟩
  have S:=UP (b:=ZQ 3) (g:=igB) (R:=fun ρ=>∃ s3 s4 s5,ρ=[.val c,.val (.int ps.length),.val (.int i),s3,s4,s5]) (bad:=fun x=>match x with | .int j=>ZhM ps i j | _=>false) (d:=.bl false) (xs:=Ql ((i:Int)+2) (ps.length-(i+2)))
    (fun x hx' ρ hr=>by
      obtain ⟨s3,s4,s5,rfl⟩:=hr
      obtain ⟨j,hj,rfl,_⟩:=hx x hx'
      refine ⟨_,rfl,?_⟩
      have b:=Zjm h hne hps hi hj s4 s5
      by_cases hb:ZhM ps i j=true
      · rw [if_pos hb] at b ⊢
        exact b
      · rw [if_neg hb] at b ⊢
        obtain ⟨t4,t5,b⟩:=b
        exact ⟨_,⟨_,_,_,rfl⟩,b⟩) _ ⟨s3,s4,s5,rfl⟩
  have ea:(Ql ((i:Int)+2) (ps.length-(i+2))).any (fun x=>match x with | .int j=>ZhM ps i j | _=>false)=Zdo ps i:=by
    unfold Ql Zdo
    rw [List.any_map]
    rfl
  rw [ea] at S
  by_cases hb:Zdo ps i=true
  · rw [if_pos hb] at S ⊢; exact S
  · rw [if_neg hb] at S ⊢
    obtain ⟨ρ2,⟨t3,t4,t5,rfl⟩,e⟩:=S
    exact ⟨t3,t4,t5,e⟩
theorem Zhx {c:D} {ps:List Pt} (h:Qf c=some (ps.map pD)) (hne:ps≠[]) (hps:All Sm ps) (hl:ps.length<=1000) :
    if badAny ps=true then (Wi (Zbo (Zd 1)) (ZQ 2) (Wi (Zf7 (Zh ZU (Zd 2) (Zg (.int 2))) (Zd 1)) (ZQ 3) igB)) [.val c,.val (.int ps.length),.no,.no,.no,.no]=some (.rt (.bl false))
    else ∃ ρ,(Wi (Zbo (Zd 1)) (ZQ 2) (Wi (Zf7 (Zh ZU (Zd 2) (Zg (.int 2))) (Zd 1)) (ZQ 3) igB)) [.val c,.val (.int ps.length),.no,.no,.no,.no]=some (.nx ρ):=by
  have e0:Zbo (Zd 1) [.val c,.val (.int ps.length),.no,.no,.no,.no]=some (Ql 0 ps.length):=by
    have r2:=YK (n:=(ps.length:Int)) (by omega) (by omega)
    simp -implicitDefEqProofs [r2]
  rw [Va,e0,Option.bind_some]
  have S:=UP (b:=ZQ 2) (g:=(Wi (Zf7 (Zh ZU (Zd 2) (Zg (.int 2))) (Zd 1)) (ZQ 3) igB)) (R:=fun ρ=>∃ s2 s3 s4 s5,ρ=[.val c,.val (.int ps.length),s2,s3,s4,s5]) (bad:=fun x=>match x with | .int i=>Zdo ps i.toNat | _=>false) (d:=.bl false) (xs:=Ql 0 ps.length)
    (fun x hx' ρ hr=>by
      obtain ⟨s2,s3,s4,s5,rfl⟩:=hr
      unfold Ql at hx'
      obtain ⟨i,hi,rfl⟩:=List.mem_map.mp hx'
      have hi:=List.mem_range.mp hi
      have e:(0:Int)+(i:Int)=i:=by omega
      rw [e]
      refine ⟨_,rfl,?_⟩
      have b:=Zhy h hne hps hl hi s3 s4 s5
      show if Zdo ps ((i:Int).toNat)=true then _ else _
      rw [Int.toNat_natCast]
      by_cases hb:Zdo ps i=true
      · rw [if_pos hb] at b ⊢
        exact b
      · rw [if_neg hb] at b ⊢
        obtain ⟨t3,t4,t5,b⟩:=b
        exact ⟨_,⟨_,_,_,_,rfl⟩,b⟩) _ ⟨.no,.no,.no,.no,rfl⟩
  have ea:(Ql 0 ps.length).any (fun x=>match x with | .int i=>Zdo ps i.toNat | _=>false)=badAny ps:=by
    unfold Ql badAny
    rw [List.any_map]
    have:((fun x=>match x with | .int i=>Zdo ps i.toNat | _=>false) ∘ fun (k:Nat)=>D.int (0+(k:Int)))=fun i=>Zdo ps i:=by
      funext k
      show Zdo ps ((0+(k:Int)).toNat)=Zdo ps k
      rw [Int.zero_add,Int.toNat_natCast]
    rw [this]
  rw [ea] at S
  by_cases hb:badAny ps=true
  · rw [if_pos hb] at S ⊢; exact S
  · rw [if_neg hb] at S ⊢
    obtain ⟨ρ2,_,e⟩:=S
    exact ⟨ρ2,e⟩
theorem Zd1 {c:D} {ps:List Pt} (h:Qf c=some (ps.map pD)) (hne:ps≠[]) (hps:All Sm ps) (hl:ps.length<=70):Z6 [c]=some (.bl (QC ps)):=by
  have l:=Zf3 h
  rw [List.length_map] at l
  have ls:=ZdV h hl
  have tn:=Zgl h hne hps (by omega)
  have ii:=Zgc 0 (Q9 ps)
  have nl:=Zh8 (ps.map ZdW)
  rw [List.length_map,U0] at nl
  have O:=Zhx h hne hps (by omega)
  unfold Z6 Zo Ur
  show (Zu _ (Zu _ (Zu _ _)) [.val c,.no,.no,.no,.no,.no]).bind _=_
  have e1:Ya 1 (ZS VP (Zc (Zd 0) Zm)) [.val c,.no,.no,.no,.no,.no]=some (.nx [.val c,.val (.int ps.length),.no,.no,.no,.no]):=by
    simp -implicitDefEqProofs [l]
  rw [ZB,e1]
  show (Zu _ (Zu _ _) [.val c,.val (.int ps.length),.no,.no,.no,.no]).bind _=_
  have e2:(Yb (ZbQ (Zp (Zh dLt (QN Vy (Zd 0)) (Zd 1))) (Zp (Zh Zih (Zg (.int 0)) (dFn 1 YT (Zc (Zd 0) Zm))))) (ZR (Zg (.bl false))) Zx) [.val c,.val (.int ps.length),.no,.no,.no,.no] =
      if (decide ps.Nodup&&!decide (0∈Q9 ps))=true then some (.nx [.val c,.val (.int ps.length),.no,.no,.no,.no]) else some (.rt (.bl false)):=by
    by_cases hnd:ps.Nodup
    · have q:¬ (VI (ps.map ZdW)).length < ps.length:=fun z=>nl.mp z hnd
      have q':¬ (((VI (ps.map ZdW)).length:Nat):Int) < (ps.length:Int):=by omega
      by_cases h0:0∈Q9 ps
      · simp -implicitDefEqProofs [ls,tn,ii,q',hnd,h0,q]
      · simp -implicitDefEqProofs [ls,tn,ii,q',hnd,h0,q]
    · have q:(VI (ps.map ZdW)).length < ps.length:=nl.mpr hnd
      have q':(((VI (ps.map ZdW)).length:Nat):Int) < (ps.length:Int):=by omega
      simp -implicitDefEqProofs [ls,tn,ii,q',hnd,q]
  rw [ZB,e2]
  unfold QC
  by_cases hg:(decide ps.Nodup&&!decide (0∈Q9 ps))=true
  · rw [if_pos hg,hg,Bool.true_and]
    show (Zu _ _ [.val c,.val (.int ps.length),.no,.no,.no,.no]).bind _=_
    rw [ZB]
    by_cases hb:badAny ps=true
    · rw [if_pos hb] at O
      have O':(Wi (Zbo (Zd 1)) (ZQ 2) (Wi (Zf7 (Zh ZU (Zd 2) (Zg (.int 2))) (Zd 1)) (ZQ 3) igB)) [.val c,.val (.int ps.length),.no,.no,.no,.no]=some (.rt (.bl false)):=O
      unfold igB at O'
      rw [O',hb]
      rfl
    · rw [if_neg hb] at O
      obtain ⟨ρ,O'⟩:=O
      unfold igB at O'
      have hb':badAny ps=false:=by simpa using hb
      rw [O',hb']
      rfl
  · rw [if_neg hg]
    have hg':(decide ps.Nodup&&!decide (0∈Q9 ps))=false:=by simpa using hg
    rw [hg',Bool.false_and]
    rfl
noncomputable def ZiA (n wide:Int) (k:Nat):Pt:=(Uj n (2*(k:Int)) % wide,Uj n (2*(k:Int)+1) % wide)
noncomputable def YQ (n wide:Int) (many:Nat):List Pt:=(List.range many).map (ZiA n wide)
theorem Zeh (n wide:Int) (many:Nat):(YQ n wide many).length=many:=by simp [YQ]
theorem Zeg {n wide:Int} {many:Nat} (hw:0 < wide):All (fun p=>(0<=p.1/\p.1 < wide)/\(0<=p.2/\p.2 < wide)) (YQ n wide many):=fun p hp=>by
  obtain ⟨k,_,rfl⟩:=List.mem_map.mp hp
  exact ⟨⟨Int.emod_nonneg _ (by omega),Int.emod_lt_of_pos _ hw⟩,Int.emod_nonneg _ (by omega),Int.emod_lt_of_pos _ hw⟩
theorem Zg5 {n wide:Int} (hw:0 < wide) (many:Nat):YJ (ZQ 0) ZV (YV (Zc (Zh YD (dFn 2 Zv (Zc (Zd 2) (Zc (Zh YO (Zg (.int 2)) (Zd 0)) Zm))) (Zd 1)) (Zc (Zh YD (dFn 2 Zv (Zc (Zd 2) (Zc (Zh ZU (Zh YO (Zg (.int 2)) (Zd 0)) (Zg (.int 1))) Zm))) (Zd 1)) Zm))) (Ql 0 many) (.no::[.val (.int wide),.val (.int n)]) =
    some ((Ql 0 many).map fun x=>match x with | .int k=>pD (ZiA n wide k.toNat) | _=>.non):=by
  refine Jv fun x hx=>?_
  unfold Ql at hx
  obtain ⟨k,hk,rfl⟩:=List.mem_map.mp hx
  have m:=UO (i:=2) (j:=(k:Int)) (.inl (by omega))
  have e1:=U8 n (2*(k:Int))
  have e2:=U8 n (2*(k:Int)+1)
  have d:=fun z=>Qh (i:=z) (j:=wide) hw
  simp only [Int.zero_add]
  simp -implicitDefEqProofs [m,e1,e2,d,pD,ZiA]
theorem Zgm {n wide:Int} (hw:0 < wide) {many:Nat} (hm:many<=1000):YU [.int n,.int wide,.int many]=some (.lst ((YQ n wide many).map pD)):=by
  have r:=YK (n:=(many:Int)) (by omega) (by omega)
  have hl:(Ql 0 many).length<=lim:=by rw [Wc]; exact ZW hm
  have cl:=Zg5 (n:=n) hw many
  simp -implicitDefEqProofs [YU,Zo,VM,r,hl,JE,cl]
  simp [YQ,Ql]
noncomputable def ltZ (p q:Pt):Bool:=decide (p.1 < q.1\/(p.1=q.1/\p.2 < q.2))
theorem ZkH (p q:Pt):ltD (pD p) (pD q)=ltZ p q:=by
  show HT.lexLt [p.1,p.2] [q.1,q.2]=_
  unfold ltZ
  rw [HT.lexLt_cons,HT.lexLt_cons,HT.lexLt_nil_nil]
  by_cases h1:p.1=q.1
  · rw [if_pos h1]
    by_cases h2:p.2=q.2
    · rw [if_pos h2]; simp [h1,h2]
    · rw [if_neg h2]; simp [h1]
  · rw [if_neg h1]; simp [h1]
noncomputable def ZbD:Pt->List Pt->Pt
  | b,[]=>b
  | b,x::xs=>ZbD (if ltZ x b then x else b) xs
theorem Zdt:∀ (xs:List Pt) (b:Pt),Ze1 ltD (pD b) (xs.map pD)=pD (ZbD b xs)
  | [],b=>rfl
  | x::xs,b=>by
    simp only [List.map_cons,Ze1,ZbD,ZkH]
    cases ltZ x b
    · exact Zdt xs b
    · exact Zdt xs x
noncomputable def ZcR:List Pt->Pt
  | []=>(0,0)
  | b::xs=>ZbD b xs
theorem ZcB:∀ (xs:List Pt) (b:Pt),ZbD b xs∈b::xs
  | [],b=>List.mem_singleton.mpr rfl
  | x::xs,b=>by
    unfold ZbD
    have:=ZcB xs (if ltZ x b then x else b)
    rcases List.mem_cons.mp this with h | h
    · rw [h]
      cases ltZ x b
      · simp
      · simp
    · exact List.mem_cons_of_mem _ (List.mem_cons_of_mem _ h)
theorem ZdS {ps:List Pt} (h:ps≠[]):ZcR ps∈ps:=by
  cases ps with
  | nil=>exact absurd rfl h
  | cons b xs=>exact ZcB xs b
theorem ZeR (ps:List Pt):ZaR (ps.map pD)=true:=by
  unfold ZaR
  rw [Bool.or_eq_true_iff]
  right
  rw [List.all_eq_true]
  intro d hd
  obtain ⟨p,_,rfl⟩:=List.mem_map.mp hd
  rfl
theorem ZfZ {ps:List Pt} (h:ps≠[]) {c:D} (hc:Qf c=some (ps.map pD)):Zcq [c]=some (pD (ZcR ps)):=by
  cases ps with
  | nil=>exact absurd rfl h
  | cons b xs=>
    show (Qf c).bind _=_
    rw [hc,Option.bind_some]
    show (if ZaR (pD b::xs.map pD)=true then some (Ze1 ltD (pD b) (xs.map pD)) else none)=_
    rw [if_pos (by have:=ZeR (b::xs); exact this),Zdt]
    rfl
noncomputable def ZcS (m:Pt):List Pt->Nat
  | []=>0
  | x::xs=>if x=m then 0 else ZcS m xs+1
theorem Zci {m:Pt}:∀ {ps:List Pt},m∈ps->Zcj (pD m) (ps.map pD)=some (ZcS m ps)
  | [],h=>by cases h
  | x::xs,h=>by
    simp only [List.map_cons,Zcj,ZcS,Zco]
    by_cases e:x=m
    · rw [if_pos (by simp [e]),if_pos e]
    · rw [if_neg (by simp [e]),if_neg e]
      have:m∈xs:=(List.mem_cons.mp h).resolve_left fun z=>e z.symm
      rw [Zci this]; rfl
theorem Zgd {m:Pt}:∀ {ps:List Pt},m∈ps->ZcS m ps < ps.length/\ps[ZcS m ps]?=some m
  | [],h=>by cases h
  | x::xs,h=>by
    unfold ZcS
    by_cases e:x=m
    · rw [if_pos e]; simp [e]
    · rw [if_neg e]
      have:m∈xs:=(List.mem_cons.mp h).resolve_left fun z=>e z.symm
      obtain ⟨h1,h2⟩:=Zgd this
      exact ⟨by simp; exact h1,by rw [List.getElem?_cons_succ]; exact h2⟩
theorem Zjk {ps:List Pt} {m:Pt} (h:m∈ps) (hl:ps.length<=1000):ZeM (.lst (ps.map pD)) (pD m)=some (.int (ZcS m ps:Nat)):=by
  have h1:okD (.lst (ps.map pD))=true:=(ZfO fun d hd=>by obtain ⟨n,_,rfl⟩:=List.mem_map.mp hd; exact VH n).1
  have h2:okD (pD m)=true:=rfl
  have h3:(ps.map pD).length<=lim:=by rw [List.length_map]; exact ZW hl
  show (if (okD (pD m)&&okD (.lst (ps.map pD))&&decide ((ps.map pD).length<=lim))=true then (Zcj (pD m) (ps.map pD)).map fun (j:Nat)=>D.int (j:Int) else none)=_
  rw [h1,h2,if_pos (by simpa using h3),Zci h]
  rfl
noncomputable def ZiJ (l:List Pt):List Pt:=l.drop (ZcS (ZcR l) l)++l.take (ZcS (ZcR l) l)
noncomputable def ZaH (ps:List Pt):List Pt:=ZiJ (if Zak ps < 0 then ps.reverse else ps)
theorem ZhG {α:Type} (xs:List α) (k:Nat) (h:k<=xs.length):cutD xs (some (k:Int)) none=xs.drop k:=by
  unfold L3.cutD
  rw [HT.sIx_nat,HT.sIx_none,Nat.min_eq_left h,List.take_of_length_le (by simp)]
theorem Zii {α:Type} (xs:List α) (k:Nat) (h:k<=xs.length):cutD xs none (some (k:Int))=xs.take k:=by
  unfold L3.cutD
  rw [HT.sIx_nat,HT.sIx_none,Nat.min_eq_left h]
  simp
theorem Zaz {l:List Pt} (hne:l≠[]) (hl:l.length<=1000) (c:D):(Zu (Ya 2 (Zh ZeM (Zd 1) (ZS Zcq (Zc (Zd 1) Zm))))
  (ZR (ZS Wg (Zc (Zh ZU (dSl (Zd 1) (Qp (Zd 2)) Qq) (dSl (Zd 1) Qq (Qp (Zd 2)))) Zm)))) [.val c,.val (.lst (l.map pD)),.no]=some (.rt (.tup ((ZiJ l).map pD))):=by
  have m:=ZfZ hne (c:=.lst (l.map pD)) rfl
  have i:=Zjk (ZdS hne) hl
  obtain ⟨k1,_⟩:=Zgd (ZdS hne)
  have c1:=ZhG (l.map pD) (ZcS (ZcR l) l) (by simp; omega)
  have c2:=Zii (l.map pD) (ZcS (ZcR l) l) (by simp; omega)
  have s1:∀ lo hi,Zgu lo hi (.lst (l.map pD))=some (.lst (cutD (l.map pD) lo hi)):=fun _ _=>rfl
  have ad:ZU (.lst ((l.map pD).drop (ZcS (ZcR l) l))) (.lst ((l.map pD).take (ZcS (ZcR l) l)))=some (.lst ((ZiJ l).map pD)):=by
    show (if _ then _ else _)=_
    rw [if_pos (by simp; exact ZW (by omega))]
    unfold ZiJ
    rw [List.map_append,List.map_drop,List.map_take]
  have e1:Ya 2 (Zh ZeM (Zd 1) (ZS Zcq (Zc (Zd 1) Zm))) [.val c,.val (.lst (l.map pD)),.no]=some (.nx [.val c,.val (.lst (l.map pD)),.val (.int (ZcS (ZcR l) l:Nat))]):=by
    simp -implicitDefEqProofs [m,i]
  rw [ZB,e1]
  show ZR _ [.val c,.val (.lst (l.map pD)),.val (.int (ZcS (ZcR l) l:Nat))]=_
  have e2:(Zh ZU (dSl (Zd 1) (Qp (Zd 2)) Qq) (dSl (Zd 1) Qq (Qp (Zd 2)))) [.val c,.val (.lst (l.map pD)),.val (.int (ZcS (ZcR l) l:Nat))]=some (.lst ((ZiJ l).map pD)):=by
    simp only [ZaP,Zmf,Zk8,Zi8,Zi9,List.getElem?_cons_succ,List.getElem?_cons_zero,Option.bind_some,s1,c1,c2,ad]
  rw [Zgv,Zjz,Zgx,e2]
  rfl
theorem Zgn {c:D} {ps:List Pt} (h:Qf c=some (ps.map pD)) (hne:ps≠[]) (hps:All Sm ps) (hl:ps.length<=1000):ZZ [c]=some (.tup ((ZaH ps).map pD)):=by
  have l1:JX [c]=some (.lst (ps.map pD)):=by cases c <;> first | (cases h; rfl) | cases h
  have a:=Zd2 (c:=.lst (ps.map pD)) rfl hne hps
  unfold ZZ Zo JT ZaH
  show (Zu _ (Zu _ (Zu _ _)) [.val c,.no,.no]).bind _=_
  have e1:Ya 1 (ZS JX (Zc (Zd 0) Zm)) [.val c,.no,.no]=some (.nx [.val c,.val (.lst (ps.map pD)),.no]):=by
    simp -implicitDefEqProofs [l1]
  rw [ZB,e1]
  show (Zu _ (Zu _ _) [.val c,.val (.lst (ps.map pD)),.no]).bind _=_
  rw [ZB]
  by_cases ha:Zak ps < 0
  · have e2:(Yb (Zp (Zh dLt (dFn 1 Yu (Zc (Zd 1) Zm)) (Zg (.int 0)))) (Ya 1 (Zjx (Zd 1))) Zx) [.val c,.val (.lst (ps.map pD)),.no]=some (.nx [.val c,.val (.lst (ps.reverse.map pD)),.no]):=by
      simp -implicitDefEqProofs [a,ha]
    rw [e2,if_pos ha]
    show (Zu _ _ [.val c,.val (.lst (ps.reverse.map pD)),.no]).bind _=_
    rw [Zaz (by simpa using hne) (by simpa using hl)]
    rfl
  · have e2:(Yb (Zp (Zh dLt (dFn 1 Yu (Zc (Zd 1) Zm)) (Zg (.int 0)))) (Ya 1 (Zjx (Zd 1))) Zx) [.val c,.val (.lst (ps.map pD)),.no]=some (.nx [.val c,.val (.lst (ps.map pD)),.no]):=by
      simp -implicitDefEqProofs [a,ha]
    rw [e2,if_neg ha]
    show (Zu _ _ [.val c,.val (.lst (ps.map pD)),.no]).bind _=_
    rw [Zaz hne hl]
    rfl
theorem ZbY (l:List Pt):(ZiJ l).Perm l:=by
  unfold ZiJ
  exact List.perm_append_comm.trans (by rw [List.take_append_drop])
theorem Zdl (ps:List Pt):(ZaH ps).Perm ps:=by
  unfold ZaH
  split
  · exact (ZbY _).trans (List.reverse_perm ps)
  · exact ZbY _
noncomputable def ZeZ (ps:List Pt):Int->List Pt->List Pt
  | _,[]=>[]
  | k,a::r=>if ZE (cyc ps (k-1)) a (cyc ps (k+1))=0 then ZeZ ps (k+1) r else a::ZeZ ps (k+1) r
noncomputable def walk:Pt->List Pt->Pt->List Pt
  | _,[],_=>[]
  | p,[a],n=>if ZE p a n=0 then [] else [a]
  | p,a::b::r,n=>if ZE p a b=0 then walk a (b::r) n else a::walk a (b::r) n
noncomputable def Wn (ps:List Pt):List Pt:=ZeZ ps 0 ps
theorem ZdD:∀ (xs:List Pt) (p y n:Pt) (ys:List Pt),walk p (xs++y::ys) n=walk p xs y++walk ((p::xs).getLast (by simp)) (y::ys) n
  | [],p,y,n,ys=>rfl
  | [a],p,y,n,ys=>by
    show walk p (a::y::ys) n=_
    simp only [walk,List.getLast_cons_cons,List.getLast_singleton]
    split <;> rfl
  | a::b::xs,p,y,n,ys=>by
    have ih:=ZdD (b::xs) a y n ys
    show walk p (a::b::(xs++y::ys)) n=_
    have e:((p::a::b::xs).getLast (by simp))=((a::b::xs).getLast (by simp)):=List.getLast_cons_cons ..
    rw [e]
    simp only [walk]
    simp only [List.cons_append] at ih
    split
    · rw [ih]
    · rw [ih]; rfl
theorem Zck (ps:List Pt):∀ (ys:List Pt) (k:Nat),ps.drop k=ys->ZeZ ps k ys=walk (cyc ps ((k:Int)-1)) ys (cyc ps 0)
  | [],k,_=>rfl
  | [a],k,h=>by
    have hk:k+1=ps.length:=by
      have:=congrArg List.length h
      simp at this; omega
    have e:cyc ps ((k:Int)+1)=cyc ps 0:=by
      have:=Qk ps 0
      rw [Int.zero_add] at this
      rw [<-this]
      congr 1
      omega
    unfold ZeZ walk
    rw [e]
    rfl
  | a::b::r,k,h=>by
    have hk:k < ps.length:=by
      by_cases z:k < ps.length
      · exact z
      · rw [List.drop_eq_nil_of_le (by omega)] at h; cases h
    rw [List.drop_eq_getElem_cons hk] at h
    injection h with h1 h2
    have hk1:k+1 < ps.length:=by
      by_cases z:k+1 < ps.length
      · exact z
      · rw [List.drop_eq_nil_of_le (by omega)] at h2; cases h2
    have h2':=h2
    rw [List.drop_eq_getElem_cons hk1] at h2'
    injection h2' with h3 _
    have ih:=Zck ps (b::r) (k+1) h2
    have e1:cyc ps ((k:Int)+1)=b:=by
      have:=JZ hk1
      rw [<-h3,<-this]; rfl
    have e2:cyc ps (((k+1:Nat):Int)-1)=a:=by
      have:=JZ hk
      rw [<-h1,<-this]; congr 1; omega
    rw [e2] at ih
    have ih':ZeZ ps ((k:Int)+1) (b::r)=walk a (b::r) (cyc ps 0):=ih
    conv=>lhs; unfold ZeZ
    rw [e1,ih']
    rfl
theorem Zef {p:Pt} {ps:List Pt}:Wn (p::ps)=walk ((p::ps).getLast (by simp)) (p::ps) p:=by
  have h:=Zck (p::ps) (p::ps) 0 rfl
  have e0:cyc (p::ps) 0=p:=JZ (ps:=p::ps) (k:=0) (by simp)
  have e1:cyc (p::ps) (((0:Nat):Int)-1)=(p::ps).getLast (by simp):=by
    have a:=Qk (p::ps) (((0:Nat):Int)-1)
    rw [<-a]
    have b:=JZ (ps:=p::ps) (k:=ps.length) (by simp)
    have c:(((0:Nat):Int)-1+(((p::ps).length:Nat):Int))=(ps.length:Int):=by simp; omega
    rw [c,b,List.getLast_eq_getElem]
    simp
  rw [e0,e1] at h
  exact h
theorem Wf (ps:List Pt):∀ (ys:List Pt) (k:Int),(ZeZ ps k ys).Sublist ys
  | [],k=>List.Sublist.refl _
  | a::r,k=>by
    unfold ZeZ
    split
    · exact (Wf ps r _).cons _
    · exact (Wf ps r _).cons₂ _
noncomputable def ZjQ:DT:=(Zp (Zh Zby (dFn 3 ZM (Zc (Zh dIx (Zd 2) (Zh Qj (Zd 0) (Zg (.int 1)))) (Zc (Zd 1) (Zc (dFn 3 Zt (Zc (Zd 2) (Zc (Zd 0) (Zc (Zg (.int 1)) Zm)))) Zm)))) (Zg (.int 0))))
theorem Zid {ps:List Pt} (hne:ps≠[]) (hps:All Sm ps):∀ (ys:List Pt) (k:Nat) (s0 s1:Sl),All Sm ys->k+ys.length<=ps.length->YJ (Yz 0 1) ZjQ (Zd 1) (YN k (ys.map pD)) (s0::s1::[.val (.lst (ps.map pD))])=some ((ZeZ ps k ys).map pD)
  | [],k,s0,s1,_,_=>rfl
  | a::ys,k,s0,s1,hs,hl=>by
    simp only [List.length_cons] at hl
    have x:=Zji (ps:=ps) (i:=(k:Int)-1) (by omega) (by omega)
    have n:=Ub (c:=.lst (ps.map pD)) (ps:=ps) rfl hne k 1
    have t:=Yd (hps _ (Yv hne ((k:Int)-1))) (hs a List.mem_cons_self) (hps _ (Yv hne ((k:Int)+1)))
    have ih:=Zid hne hps ys (k+1) (.val (.int k)) (.val (pD a)) (fun p hp=>hs p (List.mem_cons_of_mem _ hp)) (by omega)
    have e:ZjQ [.val (.int k),.val (pD a),.val (.lst (ps.map pD))]=some (!decide (ZE (cyc ps ((k:Int)-1)) a (cyc ps ((k:Int)+1))=0)):=by
      unfold ZjQ
      simp -implicitDefEqProofs [x,n,t]
    have ih':YJ (Yz 0 1) ZjQ (Zd 1) (YN (k+1) (ys.map pD)) [.val (.int k),.val (pD a),.val (.lst (ps.map pD))]=some ((ZeZ ps ((k:Int)+1) ys).map pD):=ih
    simp only [List.map_cons,YN,YJ,ZbF,List.set_cons_zero,List.set_cons_succ,Option.bind_some]
    rw [e]
    unfold ZeZ
    by_cases ht:ZE (cyc ps ((k:Int)-1)) a (cyc ps ((k:Int)+1))=0
    · rw [if_pos ht]
      simp only [ht,decide_true,Bool.not_true,Option.bind_some]
      exact ih'
    · rw [if_neg ht]
      simp only [ht,decide_false,Bool.not_false,Option.bind_some]
      rw [ih']
      rfl
noncomputable def UG:DS:=(Zu (Ya 6 (Zd 5)) (Ya 5 (QF [none,none,some 6] (Jd (Zd 6)) (Yz 0 1) ZjQ (Zd 1))))
theorem Zha {ps:List Pt} (hne:ps≠[]) (hps:All Sm ps) (hl:ps.length<=1000) (a b c d e:Sl) (l:Sl):UG [a,b,c,d,e,.val (.lst (ps.map pD)),l]=some (.nx [a,b,c,d,e,.val (.lst ((Wn ps).map pD)),.val (.lst (ps.map pD))]):=by
  unfold UG
  have e1:Ya 6 (Zd 5) [a,b,c,d,e,.val (.lst (ps.map pD)),l]=some (.nx [a,b,c,d,e,.val (.lst (ps.map pD)),.val (.lst (ps.map pD))]):=by
    simp -implicitDefEqProofs
  rw [ZB,e1]
  show Ya 5 _ [a,b,c,d,e,.val (.lst (ps.map pD)),.val (.lst (ps.map pD))]=_
  rw [Zcp,Zbz]
  have e2:Jd (Zd 6) [a,b,c,d,e,.val (.lst (ps.map pD)),.val (.lst (ps.map pD))]=some (YN 0 (ps.map pD)):=Zbp rfl rfl
  rw [e2,Option.bind_some,if_pos (by rw [U9,List.length_map]; exact ZW hl)]
  have e3:=Zid hne hps ps 0 .no .no hps (by omega)
  have e3':YJ (Yz 0 1) ZjQ (Zd 1) (YN 0 (ps.map pD)) (JE [none,none,some 6] [a,b,c,d,e,.val (.lst (ps.map pD)),.val (.lst (ps.map pD))])=some ((Wn ps).map pD):=e3
  rw [e3']
  rfl
structure SawI (far:Int) (L U:List Pt):Prop where
  ln:L≠[]
  un:U≠[]
  lx:((0,0)::L++[(far,0)]:List Pt).Pairwise (fun p q=>p.1 < q.1)
  ux:((far,0)::U++[(0,0)]:List Pt).Pairwise (fun p q=>q.1 < p.1)
  ly:∀ p∈L,p.2 < 0
  uy:∀ p∈U,0 < p.2
noncomputable def Qs (far:Int) (L U:List Pt):List Pt:=(0,0)::(L++(far,0)::U)
theorem V8:∀ (xs:List Pt) (p n:Pt),(walk p xs n).Sublist xs
  | [],p,n=>List.Sublist.refl _
  | [a],p,n=>by
    unfold walk
    split
    · exact List.nil_sublist _
    · exact List.Sublist.refl _
  | a::b::r,p,n=>by
    unfold walk
    split
    · exact (V8 (b::r) a n).cons _
    · exact (V8 (b::r) a n).cons₂ _
theorem Za0 (p a n:Pt):ZE p a n=(a.1-p.1)*(n.2-a.2)-(a.2-p.2)*(n.1-a.1):=by
  unfold ZE
  have e1:n.2-p.2=(n.2-a.2)+(a.2-p.2):=by omega
  have e2:n.1-p.1=(n.1-a.1)+(a.1-p.1):=by omega
  rw [e1,e2,Int.mul_add,Int.mul_add,Int.mul_comm (a.1-p.1) (a.2-p.2)]
  omega
theorem Zd3 {p a n:Pt} (h1:p.1 < a.1) (h2:a.1 < n.1) (h3:a.2 < p.2) (h:ZE p a n=0):n.2 < a.2:=by
  rw [Za0] at h
  apply Int.not_le.mp
  intro hle
  have q1:0<=(a.1-p.1)*(n.2-a.2):=Int.mul_nonneg (by omega) (by omega)
  have q2:(a.2-p.2)*(n.1-a.1) < 0:=Int.mul_neg_of_neg_of_pos (by omega) (by omega)
  omega
theorem ZhP {p a n:Pt} (h1:a.1 < p.1) (h2:n.1 < a.1) (h3:p.2 < a.2) (h:ZE p a n=0):a.2 < n.2:=by
  rw [Za0] at h
  apply Int.not_le.mp
  intro hle
  have q1:0<=(a.1-p.1)*(n.2-a.2):=Int.mul_nonneg_of_nonpos_of_nonpos (by omega) (by omega)
  have q2:(a.2-p.2)*(n.1-a.1) < 0:=Int.mul_neg_of_pos_of_neg (by omega) (by omega)
  omega
theorem Zd4:∀ (r:List Pt) (p a n:Pt),(p::(a::r)++[n]:List Pt).Pairwise (fun p q=>p.1 < q.1)->a.2 < p.2->walk p (a::r) n=[]->n.2 < a.2
  | [],p,a,n,hx,hy,hw=>by
    simp at hx
    have ht:ZE p a n=0:=by
      unfold walk at hw
      by_cases z:ZE p a n=0
      · exact z
      · rw [if_neg z] at hw; cases hw
    exact Zd3 hx.1.1 hx.2 hy ht
  | b::r,p,a,n,hx,hy,hw=>by
    have hx':(a::(b::r)++[n]:List Pt).Pairwise (fun p q=>p.1 < q.1):=(List.pairwise_cons.mp hx).2
    have ab:a.1 < b.1:=(List.pairwise_cons.mp hx').1 b (by simp)
    have pa:p.1 < a.1:=(List.pairwise_cons.mp hx).1 a (by simp)
    unfold walk at hw
    by_cases z:ZE p a b=0
    · rw [if_pos z] at hw
      have hb:=Zd3 pa ab hy z
      have:=Zd4 r a b n hx' hb hw
      omega
    · rw [if_neg z] at hw; cases hw
theorem ZhQ:∀ (r:List Pt) (p a n:Pt),(p::(a::r)++[n]:List Pt).Pairwise (fun p q=>q.1 < p.1)->p.2 < a.2->walk p (a::r) n=[]->a.2 < n.2
  | [],p,a,n,hx,hy,hw=>by
    simp at hx
    have ht:ZE p a n=0:=by
      unfold walk at hw
      by_cases z:ZE p a n=0
      · exact z
      · rw [if_neg z] at hw; cases hw
    exact ZhP hx.1.1 hx.2 hy ht
  | b::r,p,a,n,hx,hy,hw=>by
    have hx':(a::(b::r)++[n]:List Pt).Pairwise (fun p q=>q.1 < p.1):=(List.pairwise_cons.mp hx).2
    have ab:b.1 < a.1:=(List.pairwise_cons.mp hx').1 b (by simp)
    have pa:a.1 < p.1:=(List.pairwise_cons.mp hx).1 a (by simp)
    unfold walk at hw
    by_cases z:ZE p a b=0
    · rw [if_pos z] at hw
      have hb:=ZhP pa ab hy z
      have:=ZhQ r a b n hx' hb hw
      omega
    · rw [if_neg z] at hw; cases hw
theorem SawI.low {far:Int} {L U:List Pt} (S:SawI far L U):∀ p∈L,0 < p.1/\p.1 < far:=fun p hp=>by
  have h:=S.lx
  refine ⟨(List.pairwise_cons.mp h).1 p (by simp [hp]),?_⟩
  have h2:=(List.pairwise_cons.mp h).2
  exact (List.pairwise_append.mp h2).2.2 p hp (far,0) (by simp)
theorem SawI.upp {far:Int} {L U:List Pt} (S:SawI far L U):∀ p∈U,0 < p.1/\p.1 < far:=fun p hp=>by
  have h:=S.ux
  have h1:=(List.pairwise_cons.mp h).1 p (by simp [hp])
  have h2:=(List.pairwise_cons.mp h).2
  exact ⟨(List.pairwise_append.mp h2).2.2 p hp (0,0) (by simp),h1⟩
theorem SawI.step {far:Int} {L U:List Pt} (S:SawI far L U):Wn (Qs far L U)=Qs far (walk (0,0) L (far,0)) (walk (far,0) U (0,0))/\SawI far (walk (0,0) L (far,0)) (walk (far,0) U (0,0)):=by
  have sL:=V8 L (0,0) (far,0)
  have sU:=V8 U (far,0) (0,0)
  refine ⟨?_,?_,?_,?_,?_,fun p hp=>S.ly p (sL.mem hp),fun p hp=>S.uy p (sU.mem hp)⟩
  · obtain ⟨l1,L',rfl⟩:∃ l1 L',L=l1::L':=by
      cases L with
      | nil=>exact absurd rfl S.ln
      | cons a r=>exact ⟨a,r,rfl⟩
    obtain ⟨u1,U',rfl⟩:∃ u1 U',U=u1::U':=by
      cases U with
      | nil=>exact absurd rfl S.un
      | cons a r=>exact ⟨a,r,rfl⟩
    unfold Qs
    rw [Zef]
    have g1:(((0,0):Pt)::((l1::L')++(far,0)::u1::U')).getLast (by simp)=(u1::U').getLast (by simp):=by
      rw [List.getLast_cons (by simp),List.getLast_append_of_ne_nil (by simp) (by simp),List.getLast_cons (by simp)]
    rw [g1]
    have sp:((0,0):Pt)::((l1::L')++(far,0)::u1::U')=((0,0)::l1::L')++(far,0)::u1::U':=rfl
    rw [sp,ZdD]
    have lu:=(u1::U').getLast_mem (by simp)
    have ll:=(l1::L').getLast_mem (by simp)
    generalize hlu:(u1::U').getLast (by simp)=q at lu
    have qx:=S.upp q lu
    have qy:=S.uy q lu
    have l1x:=S.low l1 (by simp)
    have l1y:=S.ly l1 (by simp)
    have t1:ZE q (0,0) l1≠0:=by
      have e:ZE q (0,0) l1=q.2*l1.1-q.1*l1.2:=by
        rw [Za0]; simp
        rw [Int.neg_mul,Int.neg_mul]; omega
      have z1:0 < q.2*l1.1:=Int.mul_pos qy l1x.1
      have z2:q.1*l1.2 < 0:=Int.mul_neg_of_pos_of_neg qx.1 l1y
      omega
    have w1:walk q ((0,0)::l1::L') (far,0)=(0,0)::walk (0,0) (l1::L') (far,0):=by
      conv=>lhs; unfold walk
      rw [if_neg t1]
    rw [w1]
    have g2:(q::(0,0)::l1::L').getLast (by simp)=(l1::L').getLast (by simp):=by
      rw [List.getLast_cons (by simp),List.getLast_cons (by simp)]
    rw [g2]
    generalize hll:(l1::L').getLast (by simp)=m at ll
    have mx:=S.low m ll
    have my:=S.ly m ll
    have u1x:=S.upp u1 (by simp)
    have u1y:=S.uy u1 (by simp)
    have t2:ZE m (far,0) u1≠0:=by
      have e:ZE m (far,0) u1=(far-m.1)*u1.2+m.2*(u1.1-far):=by
        rw [Za0]; simp
        rw [Int.neg_mul]; omega
      have z1:0 < (far-m.1)*u1.2:=Int.mul_pos (by omega) u1y
      have z2:0 < m.2*(u1.1-far):=Int.mul_pos_of_neg_of_neg my (by omega)
      omega
    have w2:walk m ((far,0)::u1::U') (0,0)=(far,0)::walk (far,0) (u1::U') (0,0):=by
      conv=>lhs; unfold walk
      rw [if_neg t2]
    rw [w2]
    rfl
  · intro hw
    obtain ⟨l1,L',rfl⟩:∃ l1 L',L=l1::L':=by
      cases L with
      | nil=>exact absurd rfl S.ln
      | cons a r=>exact ⟨a,r,rfl⟩
    have:=Zd4 L' (0,0) l1 (far,0) S.lx (S.ly l1 (by simp)) hw
    have:=S.ly l1 (by simp)
    simp at *
    omega
  · intro hw
    obtain ⟨u1,U',rfl⟩:∃ u1 U',U=u1::U':=by
      cases U with
      | nil=>exact absurd rfl S.un
      | cons a r=>exact ⟨a,r,rfl⟩
    have:=ZhQ U' (far,0) u1 (0,0) S.ux (S.uy u1 (by simp)) hw
    have:=S.uy u1 (by simp)
    simp at *
    omega
  · exact S.lx.sublist ((sL.append (List.Sublist.refl _)).cons₂ _)
  · exact S.ux.sublist ((sU.append (List.Sublist.refl _)).cons₂ _)
noncomputable def ZiH:DT:=(Zp (Zh Zby (ZS VP (Zc (Zd 6) Zm)) (ZS VP (Zc (Zd 5) Zm))))
theorem Zj9 (a b c d e:Sl) (ps left:List Pt):ZiH [a,b,c,d,e,.val (.lst (ps.map pD)),.val (.lst (left.map pD))]=some (!decide (left.length=ps.length)):=by
  unfold ZiH
  simp -implicitDefEqProofs
  by_cases h:left.length=ps.length
  · simp [h]
  · have:¬ (left.length:Int)=(ps.length:Int):=by omega
    simp [h,this]
theorem Za9 (far:Int) (L U:List Pt):(Qs far L U).length=L.length+U.length+2:=by simp [Qs]; omega
theorem Zfu (far:Int) (L U:List Pt):Qs far L U≠[]:=by simp [Qs]
theorem ZdH {far:Int} (a b c d e:Sl):∀ (m:Nat) (L U left:List Pt),SawI far L U->All Sm (Qs far L U)->(Qs far L U).length<=1000->(left=[]\/(Qs far L U=Wn left)) ->
    ((Qs far L U).length+1<=m\/(left.length=(Qs far L U).length/\1<=m)) ->
    ∃ L' U',SawI far L' U'/\Wn (Qs far L' U')=Qs far L' U'/\(Qs far L' U').Sublist (Qs far L U)/\∃ l,
      QJ ZiH UG m [a,b,c,d,e,.val (.lst ((Qs far L U).map pD)),.val (.lst (left.map pD))]=some (.nx [a,b,c,d,e,.val (.lst ((Qs far L' U').map pD)),l])
  | 0,L,U,left,S,hs,hl,hst,hm=>by omega
  | m+1,L,U,left,S,hs,hl,hst,hm=>by
    have t:=Zj9 a b c d e (Qs far L U) left
    by_cases heq:left.length=(Qs far L U).length
    · refine ⟨L,U,S,?_,List.Sublist.refl _,.val (.lst (left.map pD)),?_⟩
      · rcases hst with rfl | hst
        · rw [Za9] at heq; simp at heq
        · have sub:(Wn left).Sublist left:=Wf left left 0
          rw [<-hst] at sub
          have:=sub.eq_of_length heq.symm
          rw [this]
          rw [this] at hst
          exact hst.symm
      · unfold QJ
        rw [t]
        simp [heq]
    · have hm':(Qs far L U).length+1<=m+1:=by
        rcases hm with hm | ⟨hm,_⟩
        · exact hm
        · exact absurd hm heq
      have bd:=Zha (Zfu far L U) hs hl a b c d e (.val (.lst (left.map pD)))
      obtain ⟨st,S'⟩:=S.step
      have sub:(Wn (Qs far L U)).Sublist (Qs far L U):=Wf _ _ 0
      have un:QJ ZiH UG (m+1) [a,b,c,d,e,.val (.lst ((Qs far L U).map pD)),.val (.lst (left.map pD))]=QJ ZiH UG m [a,b,c,d,e,.val (.lst ((Wn (Qs far L U)).map pD)),.val (.lst ((Qs far L U).map pD))]:=by
        conv=>lhs; unfold QJ
        rw [t,bd]
        simp [heq]
      rw [un]
      rw [st] at sub ⊢
      have:=ZdH (far:=far) a b c d e m _ _ (Qs far L U) S' (fun p hp=>hs p (sub.mem hp)) (Nat.le_trans sub.length_le hl) (.inr st.symm) (by
        have l:=sub.length_le
        have p:1<=(Qs far L U).length:=by rw [Za9]; omega
        omega)
      obtain ⟨L',U',h1,h2,h3,l,h4⟩:=this
      exact ⟨L',U',h1,h2,h3.trans sub,l,h4⟩
noncomputable def Zbn (n wide:Int) (k:Nat):Pt:=(1+(k:Int),-1-Uj n k % wide)
noncomputable def V4 (n wide far:Int) (k:Nat):Pt:=(far-1-(k:Int),1+Uj n (9+(k:Int)) % wide)
theorem ZkJ {n wide:Int} (hw:0 < wide) (m:Nat):YJ (ZQ 0) ZV (YV (Zc (Zh ZU (Zg (.int 1)) (Zd 0)) (Zc (Zh Qj (QN WX (Zg (.int 1))) (Zh YD (dFn 2 Zv (Zc (Zd 2) (Zc (Zd 0) Zm))) (Zd 1))) Zm))) (Ql 0 m) (.no::[.val (.int wide),.val (.int n)]) =
    some ((Ql 0 m).map fun x=>match x with | .int k=>pD (Zbn n wide k.toNat) | _=>.non):=by
  refine Jv fun x hx=>?_
  unfold Ql at hx
  obtain ⟨k,hk,rfl⟩:=List.mem_map.mp hx
  have e1:=U8 n (k:Int)
  have d:=fun z=>Qh (i:=z) (j:=wide) hw
  simp only [Int.zero_add]
  simp -implicitDefEqProofs [e1,d,pD,Zbn]
theorem Zjo {n wide far:Int} (hw:0 < wide) (m:Nat):YJ (ZQ 0) ZV (YV (Zc (Zh Qj (Zh Qj (Zd 1) (Zg (.int 1))) (Zd 0)) (Zc (Zh ZU (Zg (.int 1)) (Zh YD (dFn 2 Zv (Zc (Zd 3) (Zc (Zh ZU (Zg (.int 9)) (Zd 0)) Zm))) (Zd 2))) Zm))) (Ql 0 m) (.no::[.val (.int far),.val (.int wide),.val (.int n)]) =
    some ((Ql 0 m).map fun x=>match x with | .int k=>pD (V4 n wide far k.toNat) | _=>.non):=by
  refine Jv fun x hx=>?_
  unfold Ql at hx
  obtain ⟨k,hk,rfl⟩:=List.mem_map.mp hx
  have e1:=U8 n (9+(k:Int))
  have d:=fun z=>Qh (i:=z) (j:=wide) hw
  simp only [Int.zero_add]
  simp -implicitDefEqProofs [e1,d,pD,V4]
theorem Zhm (m:Nat) (f:Nat->Pt):(Ql 0 m).map (fun x=>match x with | .int k=>pD (f k.toNat) | _=>.non)=((List.range m).map f).map pD:=by
  unfold Ql
  rw [List.map_map,List.map_map]
  apply List.map_congr_left
  intro k _
  simp only [Function.comp]
  rw [Int.zero_add,Int.toNat_natCast]
theorem Zft {n wide far:Int} (hw:0 < wide) {lo hi:Nat} (h1:1<=lo) (h2:1<=hi) (hf1:(lo:Int) < far) (hf2:(hi:Int) < far):SawI far ((List.range lo).map (Zbn n wide)) ((List.range hi).map (V4 n wide far)):=by
  have mp:∀ z,0<=z % wide:=fun z=>Int.emod_nonneg z (by omega)
  refine ⟨?_,?_,?_,?_,fun p hp=>?_,fun p hp=>?_⟩
  · intro z; have:=congrArg List.length z; simp at this; omega
  · intro z; have:=congrArg List.length z; simp at this; omega
  · rw [List.cons_append,List.pairwise_cons]
    refine ⟨fun q hq=>?_,?_⟩
    · rcases List.mem_append.mp hq with hq | hq
      · obtain ⟨k,_,rfl⟩:=List.mem_map.mp hq
        show (0:Int) < 1+k; omega
      · rw [List.mem_singleton] at hq; subst hq
        show (0:Int) < far; omega
    · rw [List.pairwise_append]
      refine ⟨?_,List.pairwise_singleton _ _,fun p hp q hq=>?_⟩
      · rw [List.pairwise_map]
        exact List.pairwise_lt_range.imp fun {i j} h=>by show 1+(i:Int) < 1+(j:Int); omega
      · obtain ⟨k,hk,rfl⟩:=List.mem_map.mp hp
        have hk:=List.mem_range.mp hk
        rw [List.mem_singleton] at hq; subst hq
        show 1+(k:Int) < far; omega
  · rw [List.cons_append,List.pairwise_cons]
    refine ⟨fun q hq=>?_,?_⟩
    · rcases List.mem_append.mp hq with hq | hq
      · obtain ⟨k,_,rfl⟩:=List.mem_map.mp hq
        show far-1-(k:Int) < far; omega
      · rw [List.mem_singleton] at hq; subst hq
        show (0:Int) < far; omega
    · rw [List.pairwise_append]
      refine ⟨?_,List.pairwise_singleton _ _,fun p hp q hq=>?_⟩
      · rw [List.pairwise_map]
        exact List.pairwise_lt_range.imp fun {i j} h=>by show far-1-(j:Int) < far-1-(i:Int); omega
      · obtain ⟨k,hk,rfl⟩:=List.mem_map.mp hp
        have hk:=List.mem_range.mp hk
        rw [List.mem_singleton] at hq; subst hq
        show (0:Int) < far-1-(k:Int); omega
  · obtain ⟨k,_,rfl⟩:=List.mem_map.mp hp
    have:=mp (Uj n k)
    show -1-Uj n k % wide < 0; omega
  · obtain ⟨k,_,rfl⟩:=List.mem_map.mp hp
    have:=mp (Uj n (9+(k:Int)))
    show 0 < 1+Uj n (9+(k:Int)) % wide; omega
noncomputable def Rg (m:Int) (p:Pt):Prop:=(-m<=p.1/\p.1<=m)/\(-m<=p.2/\p.2<=m)
theorem ZbH {xs ys:List D} (h:xs.length+ys.length<=1000):ZU (.lst xs) (.lst ys)=some (.lst (xs++ys)):=by
  show (if _ then _ else _)=_
  rw [if_pos (ZW h)]
theorem Zjs {n wide:Int} (hw:0 < wide) (hw2:wide<=1000):∃ far L U,SawI far L U/\Wn (Qs far L U)=Qs far L U/\(∀ p∈Qs far L U,(0<=p.1/\p.1<=6)/\(-wide<=p.2/\p.2<=wide))/\(Qs far L U).length<=12 /\
    Qu [.int n,.int wide]=some (.lst ((Qs far L U).map pD)):=by
  have q1:=Int.emod_nonneg n (show (5:Int)≠0 by omega)
  have q2:=Int.emod_lt_of_pos n (show (0:Int) < 5 by omega)
  have q3:=Int.emod_nonneg (n / 5) (show (5:Int)≠0 by omega)
  have q4:=Int.emod_lt_of_pos (n / 5) (show (0:Int) < 5 by omega)
  obtain ⟨lo,hlo⟩:∃ lo:Nat,(lo:Int)=1+n % 5:=⟨(1+n % 5).toNat,by omega⟩
  obtain ⟨hi,hhi⟩:∃ hi:Nat,(hi:Int)=1+n / 5 % 5:=⟨(1+n / 5 % 5).toNat,by omega⟩
  have mp:∀ z,0<=z % wide/\z % wide < wide:=fun z=>⟨Int.emod_nonneg z (by omega),Int.emod_lt_of_pos z hw⟩
  generalize hfar:1+max (lo:Int) (hi:Int)=far
  have S0:=Zft (n:=n) (wide:=wide) (far:=far) hw (lo:=lo) (hi:=hi) (by omega) (by omega) (by omega) (by omega)
  have B0:∀ p∈Qs far ((List.range lo).map (Zbn n wide)) ((List.range hi).map (V4 n wide far)),(0<=p.1/\p.1<=6)/\(-wide<=p.2/\p.2<=wide):=by
    intro p hp
    unfold Qs at hp
    rcases List.mem_cons.mp hp with rfl | hp
    · exact ⟨⟨by omega,by omega⟩,by simp; omega,by simp; omega⟩
    · rcases List.mem_append.mp hp with hp | hp
      · obtain ⟨k,hk,rfl⟩:=List.mem_map.mp hp
        have hk:=List.mem_range.mp hk
        have:=mp (Uj n k)
        show (0<=1+(k:Int)/\1+(k:Int)<=6)/\(-wide<=-1-Uj n k % wide/\-1-Uj n k % wide<=wide)
        omega
      · rcases List.mem_cons.mp hp with rfl | hp
        · show (0<=far/\far<=6)/\(-wide<=0/\0<=wide)
          omega
        · obtain ⟨k,hk,rfl⟩:=List.mem_map.mp hp
          have hk:=List.mem_range.mp hk
          have:=mp (Uj n (9+(k:Int)))
          show (0<=far-1-(k:Int)/\far-1-(k:Int)<=6)/\(-wide<=1+Uj n (9+(k:Int)) % wide/\1+Uj n (9+(k:Int)) % wide<=wide)
          omega
  have len0:(Qs far ((List.range lo).map (Zbn n wide)) ((List.range hi).map (V4 n wide far))).length<=12:=by rw [Za9]; simp; omega
  have Sm0:All Sm (Qs far ((List.range lo).map (Zbn n wide)) ((List.range hi).map (V4 n wide far))):=fun p hp=>by
    have:=B0 p hp
    exact ⟨⟨by omega,by omega⟩,by omega,by omega⟩
  obtain ⟨L',U',h1,h2,h3,l,h4⟩:=ZdH (far:=far) (.val (.int n)) (.val (.int wide)) (.val (.int lo)) (.val (.int hi)) (.val (.int far)) 3000 _ _ [] S0 Sm0 (by omega) (.inl rfl) (.inl (by omega))
  refine ⟨far,L',U',h1,h2,fun p hp=>B0 p (h3.mem hp),Nat.le_trans h3.length_le len0,?_⟩
  have d5:=Qh (i:=n) (j:=5) (by omega)
  have v5:=Vx (i:=n) (j:=5) (by omega) (by omega)
  have d5':=Qh (i:=n / 5) (j:=5) (by omega)
  have r1:=YK (n:=(lo:Int)) (by omega) (by omega)
  have r2:=YK (n:=(hi:Int)) (by omega) (by omega)
  have k1:(Ql 0 lo).length<=lim:=by rw [Wc]; exact ZW (by omega)
  have k2:(Ql 0 hi).length<=lim:=by rw [Wc]; exact ZW (by omega)
  have cl:=ZkJ (n:=n) hw lo
  have ch:=Zjo (n:=n) (far:=far) hw hi
  rw [Zhm] at cl ch
  unfold Qu Zo ZaL
  show (Zu _ (Zu _ (Zu _ (Zu _ (Zu _ (Zu _ (Zu _ _)))))) [.val (.int n),.val (.int wide),.no,.no,.no,.no,.no]).bind _=_
  have e1:Ya 2 (Zh ZU (Zg (.int 1)) (Zh YD (Zd 0) (Zg (.int 5)))) [.val (.int n),.val (.int wide),.no,.no,.no,.no,.no]=some (.nx [.val (.int n),.val (.int wide),.val (.int lo),.no,.no,.no,.no]):=by
    simp -implicitDefEqProofs [d5,hlo]
  rw [ZB,e1]
  show (Zu _ (Zu _ (Zu _ (Zu _ (Zu _ (Zu _ _))))) [.val (.int n),.val (.int wide),.val (.int lo),.no,.no,.no,.no]).bind _=_
  have e2:Ya 3 (Zh ZU (Zg (.int 1)) (Zh YD (Zh Q7 (Zd 0) (Zg (.int 5))) (Zg (.int 5)))) [.val (.int n),.val (.int wide),.val (.int lo),.no,.no,.no,.no]=some (.nx [.val (.int n),.val (.int wide),.val (.int lo),.val (.int hi),.no,.no,.no]):=by
    simp -implicitDefEqProofs [v5,d5',hhi]
  rw [ZB,e2]
  show (Zu _ (Zu _ (Zu _ (Zu _ (Zu _ _)))) [.val (.int n),.val (.int wide),.val (.int lo),.val (.int hi),.no,.no,.no]).bind _=_
  have e3:Ya 4 (Zh ZU (Zg (.int 1)) (ZS Zcr (Zc (Zd 2) (Zc (Zd 3) Zm)))) [.val (.int n),.val (.int wide),.val (.int lo),.val (.int hi),.no,.no,.no]=some (.nx [.val (.int n),.val (.int wide),.val (.int lo),.val (.int hi),.val (.int far),.no,.no]):=by
    simp -implicitDefEqProofs
    rw [<-hfar]; omega
  rw [ZB,e3]
  show (Zu _ (Zu _ (Zu _ (Zu _ _))) [.val (.int n),.val (.int wide),.val (.int lo),.val (.int hi),.val (.int far),.no,.no]).bind _=_
  have c1:(QF [none,some 1,some 0] (Zbo (Zd 2)) (ZQ 0) ZV (YV (Zc (Zh ZU (Zg (.int 1)) (Zd 0)) (Zc (Zh Qj (QN WX (Zg (.int 1))) (Zh YD (dFn 2 Zv (Zc (Zd 2) (Zc (Zd 0) Zm))) (Zd 1))) Zm)))) [.val (.int n),.val (.int wide),.val (.int lo),.val (.int hi),.val (.int far),.no,.no]=some (.lst (((List.range lo).map (Zbn n wide)).map pD)):=by
    have i:Zbo (Zd 2) [.val (.int n),.val (.int wide),.val (.int lo),.val (.int hi),.val (.int far),.no,.no]=some (Ql 0 lo):=by simp -implicitDefEqProofs [r1]
    rw [Zbz,i,Option.bind_some,if_pos k1]
    have cl':YJ (ZQ 0) ZV (YV (Zc (Zh ZU (Zg (.int 1)) (Zd 0)) (Zc (Zh Qj (QN WX (Zg (.int 1))) (Zh YD (dFn 2 Zv (Zc (Zd 2) (Zc (Zd 0) Zm))) (Zd 1))) Zm))) (Ql 0 lo) (JE [none,some 1,some 0] [.val (.int n),.val (.int wide),.val (.int lo),.val (.int hi),.val (.int far),.no,.no])=_:=cl
    rw [cl']; rfl
  have a1:=ZbH (xs:=[pD (0,0)]) (ys:=((List.range lo).map (Zbn n wide)).map pD) (by simp; omega)
  have a2:=ZbH (xs:=[pD (0,0)]++((List.range lo).map (Zbn n wide)).map pD) (ys:=[pD (far,0)]) (by simp; omega)
  have e4:Ya 5 (Zh ZU (Zh ZU (Wh (Zc (YV (Zc (Zg (.int 0)) (Zc (Zg (.int 0)) Zm))) Zm)) (QF [none,some 1,some 0] (Zbo (Zd 2)) (ZQ 0) ZV (YV (Zc (Zh ZU (Zg (.int 1)) (Zd 0)) (Zc (Zh Qj (QN WX (Zg (.int 1))) (Zh YD (dFn 2 Zv (Zc (Zd 2) (Zc (Zd 0) Zm))) (Zd 1))) Zm))))) (Wh (Zc (YV (Zc (Zd 4) (Zc (Zg (.int 0)) Zm))) Zm))) [.val (.int n),.val (.int wide),.val (.int lo),.val (.int hi),.val (.int far),.no,.no] =
      some (.nx [.val (.int n),.val (.int wide),.val (.int lo),.val (.int hi),.val (.int far),.val (.lst ([pD (0,0)]++((List.range lo).map (Zbn n wide)).map pD++[pD (far,0)])),.no]):=by
    rw [Zcp,ZaP,ZaP,c1]
    have l1:Wh (Zc (YV (Zc (Zg (.int 0)) (Zc (Zg (.int 0)) Zm))) Zm) [.val (.int n),.val (.int wide),.val (.int lo),.val (.int hi),.val (.int far),.no,.no]=some (.lst [pD (0,0)]):=by simp -implicitDefEqProofs [pD]
    have l2:Wh (Zc (YV (Zc (Zd 4) (Zc (Zg (.int 0)) Zm))) Zm) [.val (.int n),.val (.int wide),.val (.int lo),.val (.int hi),.val (.int far),.no,.no]=some (.lst [pD (far,0)]):=by simp -implicitDefEqProofs [pD]
    rw [l1,l2]
    simp only [Option.bind_some,a1,a2]
    rfl
  rw [ZB,e4]
  show (Zu _ (Zu _ (Zu _ _)) [.val (.int n),.val (.int wide),.val (.int lo),.val (.int hi),.val (.int far),.val (.lst ([pD (0,0)]++((List.range lo).map (Zbn n wide)).map pD++[pD (far,0)])),.no]).bind _=_
  have c2:(QF [none,some 4,some 1,some 0] (Zbo (Zd 3)) (ZQ 0) ZV (YV (Zc (Zh Qj (Zh Qj (Zd 1) (Zg (.int 1))) (Zd 0)) (Zc (Zh ZU (Zg (.int 1)) (Zh YD (dFn 2 Zv (Zc (Zd 3) (Zc (Zh ZU (Zg (.int 9)) (Zd 0)) Zm))) (Zd 2))) Zm)))) [.val (.int n),.val (.int wide),.val (.int lo),.val (.int hi),.val (.int far),.val (.lst ([pD (0,0)]++((List.range lo).map (Zbn n wide)).map pD++[pD (far,0)])),.no]=some (.lst (((List.range hi).map (V4 n wide far)).map pD)):=by
    have i:∀ Z:List D,Zbo (Zd 3) [.val (.int n),.val (.int wide),.val (.int lo),.val (.int hi),.val (.int far),.val (.lst Z),.no]=some (Ql 0 hi):=fun Z=>by simp -implicitDefEqProofs [r2]
    rw [Zbz,i,Option.bind_some,if_pos k2]
    have ch':YJ (ZQ 0) ZV (YV (Zc (Zh Qj (Zh Qj (Zd 1) (Zg (.int 1))) (Zd 0)) (Zc (Zh ZU (Zg (.int 1)) (Zh YD (dFn 2 Zv (Zc (Zd 3) (Zc (Zh ZU (Zg (.int 9)) (Zd 0)) Zm))) (Zd 2))) Zm))) (Ql 0 hi) (JE [none,some 4,some 1,some 0] [.val (.int n),.val (.int wide),.val (.int lo),.val (.int hi),.val (.int far),.val (.lst ([pD (0,0)]++((List.range lo).map (Zbn n wide)).map pD++[pD (far,0)])),.no])=_:=ch
    rw [ch']; rfl
  have a3:=ZbH (xs:=[pD (0,0)]++((List.range lo).map (Zbn n wide)).map pD++[pD (far,0)]) (ys:=((List.range hi).map (V4 n wide far)).map pD) (by simp; omega)
  have sw:[pD (0,0)]++((List.range lo).map (Zbn n wide)).map pD++[pD (far,0)]++((List.range hi).map (V4 n wide far)).map pD=(Qs far ((List.range lo).map (Zbn n wide)) ((List.range hi).map (V4 n wide far))).map pD:=by
    simp [Qs]
  rw [sw] at a3
  have e5:Ya 5 (Zh ZU (Zd 5) (QF [none,some 4,some 1,some 0] (Zbo (Zd 3)) (ZQ 0) ZV (YV (Zc (Zh Qj (Zh Qj (Zd 1) (Zg (.int 1))) (Zd 0)) (Zc (Zh ZU (Zg (.int 1)) (Zh YD (dFn 2 Zv (Zc (Zd 3) (Zc (Zh ZU (Zg (.int 9)) (Zd 0)) Zm))) (Zd 2))) Zm))))) [.val (.int n),.val (.int wide),.val (.int lo),.val (.int hi),.val (.int far),.val (.lst ([pD (0,0)]++((List.range lo).map (Zbn n wide)).map pD++[pD (far,0)])),.no] =
      some (.nx [.val (.int n),.val (.int wide),.val (.int lo),.val (.int hi),.val (.int far),.val (.lst ((Qs far ((List.range lo).map (Zbn n wide)) ((List.range hi).map (V4 n wide far))).map pD)),.no]):=by
    rw [Zcp,ZaP,c2]
    show (((some _).bind _:Option D)).map _=_
    simp only [Option.bind_some,a3]
    rfl
  rw [ZB,e5]
  generalize hss:Qs far ((List.range lo).map (Zbn n wide)) ((List.range hi).map (V4 n wide far))=ss at h4
  show (Zu _ (Zu _ _) [.val (.int n),.val (.int wide),.val (.int lo),.val (.int hi),.val (.int far),.val (.lst (ss.map pD)),.no]).bind _=_
  have e6:Ya 6 (Wh Zm) [.val (.int n),.val (.int wide),.val (.int lo),.val (.int hi),.val (.int far),.val (.lst (ss.map pD)),.no]=some (.nx [.val (.int n),.val (.int wide),.val (.int lo),.val (.int hi),.val (.int far),.val (.lst (ss.map pD)),.val (.lst [])]):=by
    simp -implicitDefEqProofs
  rw [ZB,e6]
  show (Zu (QJ ZiH UG 3000) _ [.val (.int n),.val (.int wide),.val (.int lo),.val (.int hi),.val (.int far),.val (.lst (ss.map pD)),.val (.lst [])]).bind _=_
  have h4':QJ ZiH UG 3000 [.val (.int n),.val (.int wide),.val (.int lo),.val (.int hi),.val (.int far),.val (.lst (ss.map pD)),.val (.lst [])]=_:=h4
  rw [ZB,h4']
  rfl
noncomputable def shf (by_:Int) (p:Pt):Pt:=(p.1-by_,p.2)
theorem ZhY (b:Int):∀ (ys:List Pt) (s0 s1:Sl),YJ (Yz 0 1) ZV (YV (Zc (Zh Qj (Zd 0) (Zd 2)) (Zc (Zd 1) Zm))) (ys.map pD) (s0::s1::[.val (.int b)])=some ((ys.map (shf b)).map pD)
  | [],s0,s1=>rfl
  | a::ys,s0,s1=>by
    have ih:=ZhY b ys (.val (.int a.1)) (.val (.int a.2))
    have e:(YV (Zc (Zh Qj (Zd 0) (Zd 2)) (Zc (Zd 1) Zm))) [.val (.int a.1),.val (.int a.2),.val (.int b)]=some (pD (shf b a)):=by
      simp -implicitDefEqProofs [pD,shf]
    have st:Yz 0 1 (pD a) (s0::s1::[.val (.int b)])=some [.val (.int a.1),.val (.int a.2),.val (.int b)]:=rfl
    simp only [List.map_cons,YJ,st,Option.bind_some,Zg4,e]
    have ih':YJ (Yz 0 1) ZV (YV (Zc (Zh Qj (Zd 0) (Zd 2)) (Zc (Zd 1) Zm))) (ys.map pD) [.val (.int a.1),.val (.int a.2),.val (.int b)]=_:=ih
    rw [ih']
    rfl
noncomputable def SrcZ (wide:Int) (qs:List Pt):Prop:=
  (QC qs=true/\3<=qs.length/\qs.length<=7/\∀ p∈qs,(0<=p.1/\p.1 < wide)/\(0<=p.2/\p.2 < wide)) \/
  (∃ far L U,qs=Qs far L U/\SawI far L U/\Wn (Qs far L U)=Qs far L U/\(∀ p∈qs,(0<=p.1/\p.1<=6)/\(-wide<=p.2/\p.2<=wide))/\qs.length<=12)
theorem SrcZ.ne {wide:Int} {qs:List Pt} (h:SrcZ wide qs):qs≠[]:=by
  rcases h with ⟨_,h,_⟩ | ⟨far,L,U,rfl,_⟩
  · intro z; rw [z] at h; simp at h
  · exact Zfu _ _ _
theorem SrcZ.len {wide:Int} {qs:List Pt} (h:SrcZ wide qs):qs.length<=12:=by
  rcases h with ⟨_,_,h,_⟩ | ⟨far,L,U,_,_,_,_,h⟩
  · omega
  · exact h
theorem SrcZ.rng {wide:Int} (hw:3<=wide) {qs:List Pt} (h:SrcZ wide qs):∀ p∈qs,(0<=p.1/\p.1<=wide+3)/\(-wide<=p.2/\p.2<=wide):=fun p hp=>by
  rcases h with ⟨_,_,_,h⟩ | ⟨far,L,U,_,_,_,h,_⟩
  · have:=h p hp; omega
  · have:=h p hp; omega
theorem ZhB {n wide:Int} (hw:3<=wide) (hw2:wide<=1000):∃ qs b,SrcZ wide qs/\0<=b/\b<=wide/\YM [.int n,.int wide]=some (.tup ((ZaH (qs.map (shf b))).map pD)):=by
  have w0:0 < wide:=by omega
  have q1:=Int.emod_nonneg (n / 2) (show (5:Int)≠0 by omega)
  have q2:=Int.emod_lt_of_pos (n / 2) (show (0:Int) < 5 by omega)
  have q3:=Int.emod_nonneg (n / 512) (show (3:Int)≠0 by omega)
  have q4:=Int.emod_lt_of_pos (n / 512) (show (0:Int) < 3 by omega)
  obtain ⟨many,hm⟩:∃ many:Nat,(many:Int)=3+n / 2 % 5:=⟨(3+n / 2 % 5).toNat,by omega⟩
  have sp:=Zgm (n:=n / 2) w0 (many:=many) (by omega)
  have rg:=Zeg (n:=n / 2) (many:=many) w0
  have sl:=Zeh (n / 2) wide many
  have smS:All Sm (YQ (n / 2) wide many):=fun p hp=>by have:=rg p hp; exact ⟨⟨by omega,by omega⟩,by omega,by omega⟩
  have neS:YQ (n / 2) wide many≠[]:=by intro z; rw [z] at sl; simp at sl; omega
  have gd:=Zd1 (c:=.lst ((YQ (n / 2) wide many).map pD)) rfl neS smS (by omega)
  obtain ⟨far,L,U,s1,s2,s3,s4,s5⟩:=Zjs (n:=n / 2) w0 hw2
  have v2:=Vx (i:=n) (j:=2) (by omega) (by omega)
  have d5:=Qh (i:=n / 2) (j:=5) (by omega)
  have d2:=Qh (i:=n) (j:=2) (by omega)
  have v512:=Vx (i:=n) (j:=512) (by omega) (by omega)
  have d3:=Qh (i:=n / 512) (j:=3) (by omega)
  have m1:=UO (i:=n / 512 % 3) (j:=wide) (.inl (by omega))
  have hb:0<=n / 512 % 3*wide / 4/\n / 512 % 3*wide / 4<=wide:=by
    have a:0<=n / 512 % 3*wide:=Int.mul_nonneg q3 (by omega)
    have b:n / 512 % 3*wide<=2*wide:=Int.mul_le_mul_of_nonneg_right (by omega) (by omega)
    omega
  have v4:=Vx (i:=n / 512 % 3*wide) (j:=4) (by omega) (by omega)
  have tail:∀ (qs:List Pt),SrcZ wide qs->(Zu (Ya 3 (Zh Q7 (Zh YO (Zh YD (Zh Q7 (Zd 0) (Zg (.int 512))) (Zg (.int 3))) (Zd 1)) (Zg (.int 4))))
  (ZR (dFn 1 ZZ (Zc (QF [none,none,some 3] (QI (Zd 2)) (Yz 0 1) ZV (YV (Zc (Zh Qj (Zd 0) (Zd 2)) (Zc (Zd 1) Zm)))) Zm)))) [.val (.int n),.val (.int wide),.val (.lst (qs.map pD)),.no]=some (.rt (.tup ((ZaH (qs.map (shf (n / 512 % 3*wide / 4)))).map pD))):=by
    intro qs hq
    have e1:Ya 3 (Zh Q7 (Zh YO (Zh YD (Zh Q7 (Zd 0) (Zg (.int 512))) (Zg (.int 3))) (Zd 1)) (Zg (.int 4))) [.val (.int n),.val (.int wide),.val (.lst (qs.map pD)),.no]=some (.nx [.val (.int n),.val (.int wide),.val (.lst (qs.map pD)),.val (.int (n / 512 % 3*wide / 4))]):=by
      simp -implicitDefEqProofs [v512,d3,m1,v4]
    rw [ZB,e1]
    generalize n / 512 % 3*wide / 4=b at hb
    show ZR _ [.val (.int n),.val (.int wide),.val (.lst (qs.map pD)),.val (.int b)]=_
    have e2:QI (Zd 2) [.val (.int n),.val (.int wide),.val (.lst (qs.map pD)),.val (.int b)]=some (qs.map pD):=Zf6 rfl rfl
    have e3:=ZhY b qs .no .no
    have e3':YJ (Yz 0 1) ZV (YV (Zc (Zh Qj (Zd 0) (Zd 2)) (Zc (Zd 1) Zm))) (qs.map pD) (JE [none,none,some 3] [.val (.int n),.val (.int wide),.val (.lst (qs.map pD)),.val (.int b)])=_:=e3
    have hl:=hq.len
    have e4:(QF [none,none,some 3] (QI (Zd 2)) (Yz 0 1) ZV (YV (Zc (Zh Qj (Zd 0) (Zd 2)) (Zc (Zd 1) Zm)))) [.val (.int n),.val (.int wide),.val (.lst (qs.map pD)),.val (.int b)]=some (.lst ((qs.map (shf b)).map pD)):=by
      rw [Zbz,e2,Option.bind_some,if_pos (by rw [List.length_map]; exact ZW (by omega)),e3']
      rfl
    have ne:qs.map (shf b)≠[]:=by simpa using hq.ne
    have sm:All Sm (qs.map (shf b)):=fun p hp=>by
      obtain ⟨q,hq',rfl⟩:=List.mem_map.mp hp
      have:=hq.rng hw q hq'
      show ((-1000000<=q.1-b/\q.1-b<=1000000))/\(-1000000<=q.2/\q.2<=1000000)
      omega
    have o:=Zgn (c:=.lst ((qs.map (shf b)).map pD)) rfl ne sm (by simp; omega)
    rw [Zgv,Zmh,Zgx,e4]
    show (((some [D.lst ((qs.map (shf b)).map pD)]:Option (List D)).bind fun xs=>if xs.length=1 then ZZ xs else none)).map _=_
    rw [Option.bind_some,if_pos (show ([D.lst ((qs.map (shf b)).map pD)]:List D).length=1 from rfl),o]
    rfl
  unfold YM Zo WN
  show ∃ qs b,SrcZ wide qs/\0<=b/\b<=wide/\(Zu _ (Zu _ (Zu _ _)) [.val (.int n),.val (.int wide),.no,.no]).bind _=_
  have e1:Ya 2 (dFn 3 YU (Zc (Zh Q7 (Zd 0) (Zg (.int 2))) (Zc (Zd 1) (Zc (Zh ZU (Zg (.int 3)) (Zh YD (Zh Q7 (Zd 0) (Zg (.int 2))) (Zg (.int 5)))) Zm)))) [.val (.int n),.val (.int wide),.no,.no]=some (.nx [.val (.int n),.val (.int wide),.val (.lst ((YQ (n / 2) wide many).map pD)),.no]):=by
    simp -implicitDefEqProofs [v2,d5,<-hm,sp]
  have e2:(Yb (ZbQ (Zp (Zh VQ (Zh YD (Zd 0) (Zg (.int 2))) (Zg (.int 1)))) (YE (Zp (dFn 1 Z6 (Zc (Zd 2) Zm))))) (Ya 2 (dFn 2 Qu (Zc (Zh Q7 (Zd 0) (Zg (.int 2))) (Zc (Zd 1) Zm)))) Zx) [.val (.int n),.val (.int wide),.val (.lst ((YQ (n / 2) wide many).map pD)),.no] =
      if n % 2=1\/QC (YQ (n / 2) wide many)=false then some (.nx [.val (.int n),.val (.int wide),.val (.lst ((Qs far L U).map pD)),.no]) else some (.nx [.val (.int n),.val (.int wide),.val (.lst ((YQ (n / 2) wide many).map pD)),.no]):=by
    by_cases c1:n % 2=1
    · rw [if_pos (.inl c1)]
      simp -implicitDefEqProofs [d2,c1,v2,s5]
    · cases hg:QC (YQ (n / 2) wide many) with
      | true=>
        rw [hg] at gd
        rw [if_neg (by simp [c1])]
        simp -implicitDefEqProofs [d2,c1,gd]
      | false=>
        rw [hg] at gd
        rw [if_pos (.inr rfl)]
        simp -implicitDefEqProofs [d2,c1,gd,v2,s5]
  by_cases hsaw:n % 2=1\/QC (YQ (n / 2) wide many)=false
  · rw [if_pos hsaw] at e2
    have src:SrcZ wide (Qs far L U):=.inr ⟨far,L,U,rfl,s1,s2,s3,s4⟩
    refine ⟨Qs far L U,n / 512 % 3*wide / 4,src,hb.1,hb.2,?_⟩
    rw [ZB,e1]
    show (Zu _ (Zu _ _) [.val (.int n),.val (.int wide),.val (.lst ((YQ (n / 2) wide many).map pD)),.no]).bind _=_
    rw [ZB,e2]
    show (Zu _ _ [.val (.int n),.val (.int wide),.val (.lst ((Qs far L U).map pD)),.no]).bind _=_
    rw [tail _ src]
    rfl
  · rw [if_neg hsaw] at e2
    have hg:QC (YQ (n / 2) wide many)=true:=by
      cases hg:QC (YQ (n / 2) wide many) with
      | true=>rfl
      | false=>exact absurd (.inr hg) hsaw
    have src:SrcZ wide (YQ (n / 2) wide many):=.inl ⟨hg,by omega,by omega,rg⟩
    refine ⟨_,n / 512 % 3*wide / 4,src,hb.1,hb.2,?_⟩
    rw [ZB,e1]
    show (Zu _ (Zu _ _) [.val (.int n),.val (.int wide),.val (.lst ((YQ (n / 2) wide many).map pD)),.no]).bind _=_
    rw [ZB,e2]
    show (Zu _ _ [.val (.int n),.val (.int wide),.val (.lst ((YQ (n / 2) wide many).map pD)),.no]).bind _=_
    rw [tail _ src]
    rfl
noncomputable def Zgz (s:Pt×Pt):Int:=s.1.1*s.2.2-s.1.2*s.2.1
theorem W1 (ps:List Pt):∀ (ys:List Pt) (k:Int),Zdw ps k ys=((Wo ps k ys).map Zgz).sum
  | [],k=>rfl
  | a::r,k=>by
    unfold Zdw Wo
    rw [List.map_cons,List.sum_cons,W1 ps r]
    rfl
end Pl
namespace Pg
noncomputable def S:Nat->(Nat->Int)->Int
  | 0,_=>0
  | n+1,f=>S n f+f n
theorem S_congr:∀ {n:Nat} {f g:Nat->Int},(∀ j,j < n->f j=g j)->S n f=S n g
  | 0,_,_,_=>rfl
  | n+1,f,g,h=>by
    have e1:=S_congr (n:=n) (f:=f) (g:=g) (fun j hj=>h j (by omega))
    have e2:=h n (by omega)
    simp only [S,e1,e2]
theorem Zlc:∀ {n a b:Nat} {f g:Nat->Int},a < n->b < n->a≠b->(∀ j,j < n->j≠a->j≠b->f j=g j) ->
    S n f-S n g=(f a-g a)+(f b-g b):=by
  have one:∀ {n a:Nat} {f g:Nat->Int},a < n->(∀ j,j < n->j≠a->f j=g j)->S n f-S n g=f a-g a:=by
    intro n
    induction n with
    | zero=>intro a f g h; omega
    | succ n ih=>
      intro a f g ha h
      simp only [S]
      by_cases e:a=n
      · subst e
        have:=S_congr (n:=a) (f:=f) (g:=g) (fun j hj=>h j (by omega) (by omega))
        omega
      · have:=ih (a:=a) (f:=f) (g:=g) (by omega) (fun j hj hn=>h j (by omega) hn)
        have:=h n (by omega) (by omega)
        omega
  intro n
  induction n with
  | zero=>intro a b f g h; omega
  | succ n ih=>
    intro a b f g ha hb hab h
    simp only [S]
    by_cases e:a=n
    · subst e
      have:=one (n:=a) (a:=b) (f:=f) (g:=g) (by omega) (fun j hj hn=>h j (by omega) (by omega) hn)
      omega
    · by_cases e2:b=n
      · subst e2
        have:=one (n:=b) (a:=a) (f:=f) (g:=g) (by omega) (fun j hj hn=>h j (by omega) hn (by omega))
        omega
      · have:=ih (a:=a) (b:=b) (f:=f) (g:=g) (by omega) (by omega) hab (fun j hj h1 h2=>h j (by omega) h1 h2)
        have:=h n (by omega) (by omega) (by omega)
        omega
theorem ZgQ:∀ {n a:Nat} {f:Nat->Int},a < n->(∀ j,j < n->j≠a->f j=0)->S n f=f a:=by
  intro n
  induction n with
  | zero=>intro a f h; omega
  | succ n ih=>
    intro a f ha h
    simp only [S]
    by_cases e:a=n
    · subst e
      have z:∀ m,m<=a->S m f=0:=by
        intro m
        induction m with
        | zero=>intro _; rfl
        | succ m ihm=>intro hm; simp only [S]; have:=ihm (by omega); have:=h m (by omega) (by omega); omega
      have:=z a (by omega)
      omega
    · have:=ih (a:=a) (f:=f) (by omega) (fun j hj hn=>h j (by omega) hn)
      have:=h n (by omega) (by omega)
      omega
noncomputable def cr (ax ay bx by_ cx cy:Int):Int:=(bx-ax)*(cy-ay)-(by_-ay)*(cx-ax)
section
variable (n:Nat) (x y:Nat->Int)
noncomputable def nx (i:Nat):Nat:=if i+1=n then 0 else i+1
noncomputable def pv (i:Nat):Nat:=if i=0 then n-1 else i-1
noncomputable def lo (i:Nat):Nat:=if x i < x (nx n i) then i else nx n i
noncomputable def hi (i:Nat):Nat:=if x i < x (nx n i) then nx n i else i
noncomputable def d (i:Nat):Int:=if x i < x (nx n i) then 1 else -1
noncomputable def sd (i k:Nat):Int:=cr (x (lo n x i)) (y (lo n x i)) (x (hi n x i)) (y (hi n x i)) (x k) (y k)
noncomputable def B (j i:Nat):Prop:=
  if x (lo n x j) < x (lo n x i) then 0 < sd n x y j (lo n x i)
  else if x (lo n x i) < x (lo n x j) then sd n x y i (lo n x j) < 0
  else if x (hi n x j) < x (hi n x i) then sd n x y i (hi n x j) < 0
  else 0 < sd n x y j (hi n x i)
noncomputable def crs (j:Nat) (t:Int):Prop:=x (lo n x j)<=t/\t < x (hi n x j)
structure Z3:Prop where
  n3:3<=n
  dx:∀ i j,i < n->j < n->x i=x j->i=j
  off:∀ i k,i < n->k < n->x (lo n x i) < x k->x k < x (hi n x i)->sd n x y i k≠0
  apart:∀ e f,e < n->f < n->e≠f->e≠nx n f->f≠nx n e ->
    ¬ (sd n x y e (lo n x f) < 0/\0 < sd n x y e (hi n x f)/\0 < sd n x y f (lo n x e)/\sd n x y f (hi n x e) < 0) /\
    ¬ (0 < sd n x y e (lo n x f)/\sd n x y e (hi n x f) < 0/\sd n x y f (lo n x e) < 0/\0 < sd n x y f (hi n x e))
end
section
variable {n:Nat} {x y:Nat->Int}
theorem nx_lt {i:Nat} (h:i < n):nx n i < n:=by unfold nx; split <;> omega
theorem Zc4 {i:Nat} (h:i < n):pv n i < n:=by unfold pv; split <;> omega
theorem Zja {i:Nat} (h:i < n):nx n (pv n i)=i:=by unfold nx pv; grind
theorem ZlP {i:Nat} (h:i < n):pv n (nx n i)=i:=by unfold nx pv; grind
theorem ZlZ {i:Nat} (h3:3<=n) (h:i < n):nx n i≠i:=by unfold nx; grind
theorem Zh7 {i:Nat} (h3:3<=n) (h:i < n):nx n (nx n i)≠i:=by unfold nx; grind
theorem Zhc {i:Nat} (h3:3<=n) (h:i < n):pv n i≠i:=by unfold pv; grind
theorem Ug {i:Nat} (h:i < n):lo n x i < n:=by unfold lo; split <;> first | exact h | exact nx_lt h
theorem JR {i:Nat} (h:i < n):hi n x i < n:=by unfold hi; split <;> first | exact h | exact nx_lt h
theorem Zf2 (i:Nat):(lo n x i=i/\hi n x i=nx n i/\d n x i=1/\x i < x (nx n i))\/(lo n x i=nx n i/\hi n x i=i/\d n x i=-1/\¬ x i < x (nx n i)):=by
  unfold lo hi d; split <;> simp_all
theorem YL (s:Z3 n x y) {i:Nat} (h:i < n):x (lo n x i) < x (hi n x i):=by
  have h1:=nx_lt h
  have h2:=ZlZ s.n3 h
  have h3:=s.dx i (nx n i) h h1
  rcases Zf2 (n:=n) (x:=x) i with ⟨e1,e2,_,_⟩ | ⟨e1,e2,_,_⟩ <;> rw [e1,e2] <;> omega
theorem ZmA {e f:Nat} (h1:x (lo n x e)≠x (lo n x f)) (h2:x (lo n x e)≠x (hi n x f)) (h3:x (hi n x e)≠x (lo n x f)) (h4:x (hi n x e)≠x (hi n x f)) :
    e≠f/\e≠nx n f/\f≠nx n e:=by
  rcases Zf2 (n:=n) (x:=x) e with ⟨a1,a2,_,_⟩ | ⟨a1,a2,_,_⟩ <;> rcases Zf2 (n:=n) (x:=x) f with ⟨b1,b2,_,_⟩ | ⟨b1,b2,_,_⟩ <;>
    rw [a1,b1] at h1 <;> rw [a1,b2] at h2 <;> rw [a2,b1] at h3 <;> rw [a2,b2] at h4 <;> grind
theorem Zmt (s:Z3 n x y) {e f:Nat} (he:e < n) (hf:f < n) (h1:x (lo n x f) < x (hi n x e)) (h2:x (hi n x e) < x (hi n x f)) :
    B n x y f e ↔ 0 < sd n x y f (hi n x e):=by
  have xe:=YL s he
  have xf:=YL s hf
  have le:=Ug (x:=x) he
  have lf:=Ug (x:=x) hf
  have ge:=JR (x:=x) he
  have gf:=JR (x:=x) hf
  have o1:=s.off f (hi n x e) hf ge h1 h2
  unfold B
  by_cases c1:x (lo n x f) < x (lo n x e)
  · rw [if_pos c1]
    have o2:=s.off f (lo n x e) hf le c1 (by omega)
    have nsh:=ZmA (n:=n) (x:=x) (e:=e) (f:=f) (by omega) (by omega) (by omega) (by omega)
    have ap:=s.apart f e hf he (Ne.symm nsh.1) nsh.2.2 nsh.2.1
    unfold sd at *
    generalize x (lo n x e)=ax at *; generalize y (lo n x e)=ay at *; generalize x (hi n x e)=bx at *; generalize y (hi n x e)=by_ at *
    generalize x (lo n x f)=cx at *; generalize y (lo n x f)=cy at *; generalize x (hi n x f)=dx at *; generalize y (hi n x f)=dy at *
    have i1:(dx-cx)*cr ax ay bx by_ cx cy=(ax-cx)*cr cx cy dx dy bx by_-(bx-cx)*cr cx cy dx dy ax ay:=by unfold cr; grind
    have i2:(dx-cx)*cr ax ay bx by_ dx dy=(dx-bx)*cr cx cy dx dy ax ay-(dx-ax)*cr cx cy dx dy bx by_:=by unfold cr; grind
    generalize cr ax ay bx by_ cx cy=p at *; generalize cr ax ay bx by_ dx dy=q at *; generalize cr cx cy dx dy ax ay=r at *; generalize cr cx cy dx dy bx by_=v at *
    constructor
    · intro hr
      apply Classical.byContradiction
      intro hv
      have hv':v < 0:=by omega
      have z1:(ax-cx)*v < 0:=Int.mul_neg_of_pos_of_neg (by omega) hv'
      have z2:0 < (bx-cx)*r:=Int.mul_pos (by omega) hr
      have z3:0 < (dx-bx)*r:=Int.mul_pos (by omega) hr
      have z4:(dx-ax)*v < 0:=Int.mul_neg_of_pos_of_neg (by omega) hv'
      have p1:p < 0:=by
        apply Classical.byContradiction; intro hp
        have:0<=(dx-cx)*p:=Int.mul_nonneg (by omega) (by omega)
        omega
      have q1:0 < q:=by
        apply Classical.byContradiction; intro hq
        have:(dx-cx)*q<=0:=Int.mul_nonpos_of_nonneg_of_nonpos (by omega) (by omega)
        omega
      exact ap.2 ⟨hr,hv',p1,q1⟩
    · intro hv
      apply Classical.byContradiction
      intro hr
      have hr':r < 0:=by omega
      have z1:0 < (ax-cx)*v:=Int.mul_pos (by omega) hv
      have z2:(bx-cx)*r < 0:=Int.mul_neg_of_pos_of_neg (by omega) hr'
      have z3:(dx-bx)*r < 0:=Int.mul_neg_of_pos_of_neg (by omega) hr'
      have z4:0 < (dx-ax)*v:=Int.mul_pos (by omega) hv
      have p1:0 < p:=by
        apply Classical.byContradiction; intro hp
        have:(dx-cx)*p<=0:=Int.mul_nonpos_of_nonneg_of_nonpos (by omega) (by omega)
        omega
      have q1:q < 0:=by
        apply Classical.byContradiction; intro hq
        have:0<=(dx-cx)*q:=Int.mul_nonneg (by omega) (by omega)
        omega
      exact ap.1 ⟨hr',hv,p1,q1⟩
  · rw [if_neg c1]
    by_cases c2:x (lo n x e) < x (lo n x f)
    · rw [if_pos c2]
      have o2:=s.off e (lo n x f) he lf c2 h1
      have nsh:=ZmA (n:=n) (x:=x) (e:=e) (f:=f) (by omega) (by omega) (by omega) (by omega)
      have ap:=s.apart e f he hf nsh.1 nsh.2.1 nsh.2.2
      unfold sd at *
      generalize x (lo n x e)=ax at *; generalize y (lo n x e)=ay at *; generalize x (hi n x e)=bx at *; generalize y (hi n x e)=by_ at *
      generalize x (lo n x f)=cx at *; generalize y (lo n x f)=cy at *; generalize x (hi n x f)=dx at *; generalize y (hi n x f)=dy at *
      have i1:(bx-cx)*cr ax ay bx by_ dx dy=(ax-bx)*cr cx cy dx dy bx by_-(dx-bx)*cr ax ay bx by_ cx cy:=by unfold cr; grind
      have i2:(bx-cx)*cr cx cy dx dy ax ay=(ax-cx)*cr cx cy dx dy bx by_-(dx-cx)*cr ax ay bx by_ cx cy:=by unfold cr; grind
      generalize cr ax ay bx by_ cx cy=p at *; generalize cr ax ay bx by_ dx dy=q at *; generalize cr cx cy dx dy ax ay=r at *; generalize cr cx cy dx dy bx by_=v at *
      constructor
      · intro hp
        apply Classical.byContradiction
        intro hv
        have hv':v < 0:=by omega
        have z1:0 < (ax-bx)*v:=Int.mul_pos_of_neg_of_neg (by omega) hv'
        have z2:(dx-bx)*p < 0:=Int.mul_neg_of_pos_of_neg (by omega) hp
        have z3:0 < (ax-cx)*v:=Int.mul_pos_of_neg_of_neg (by omega) hv'
        have z4:(dx-cx)*p < 0:=Int.mul_neg_of_pos_of_neg (by omega) hp
        have q1:0 < q:=by
          apply Classical.byContradiction; intro hq
          have:(bx-cx)*q<=0:=Int.mul_nonpos_of_nonneg_of_nonpos (by omega) (by omega)
          omega
        have r1:0 < r:=by
          apply Classical.byContradiction; intro hq
          have:(bx-cx)*r<=0:=Int.mul_nonpos_of_nonneg_of_nonpos (by omega) (by omega)
          omega
        exact ap.1 ⟨hp,q1,r1,hv'⟩
      · intro hv
        apply Classical.byContradiction
        intro hp
        have hp':0 < p:=by omega
        have z1:(ax-bx)*v < 0:=Int.mul_neg_of_neg_of_pos (by omega) hv
        have z2:0 < (dx-bx)*p:=Int.mul_pos (by omega) hp'
        have z3:(ax-cx)*v < 0:=Int.mul_neg_of_neg_of_pos (by omega) hv
        have z4:0 < (dx-cx)*p:=Int.mul_pos (by omega) hp'
        have q1:q < 0:=by
          apply Classical.byContradiction; intro hq
          have:0<=(bx-cx)*q:=Int.mul_nonneg (by omega) (by omega)
          omega
        have r1:r < 0:=by
          apply Classical.byContradiction; intro hq
          have:0<=(bx-cx)*r:=Int.mul_nonneg (by omega) (by omega)
          omega
        exact ap.2 ⟨hp',q1,r1,hv⟩
    · rw [if_neg c2,if_neg (by omega)]
end
section
variable {n:Nat} {x y:Nat->Int}
theorem ZbX (s:Z3 n x y) {e f:Nat} (he:e < n) (hf:f < n) (h1:x (lo n x e)=x (lo n x f)) (h2:x (hi n x e)=x (hi n x f)):e=f:=by
  have l:=s.dx _ _ (Ug he) (Ug hf) h1
  have g:=s.dx _ _ (JR he) (JR hf) h2
  have a:=Zh7 s.n3 he
  have b:=Zh7 s.n3 hf
  rcases Zf2 (n:=n) (x:=x) e with ⟨a1,a2,_,_⟩ | ⟨a1,a2,_,_⟩ <;> rcases Zf2 (n:=n) (x:=x) f with ⟨b1,b2,_,_⟩ | ⟨b1,b2,_,_⟩ <;>
    rw [a1,b1] at l <;> rw [a2,b2] at g
  · exact l
  · grind
  · grind
  · exact g
theorem W9 (s:Z3 n x y) {e f:Nat} (he:e < n) (hf:f < n) (hne:e≠f) (h1:x (lo n x e) < x (hi n x f)) (h2:x (lo n x f) < x (hi n x e)) :
    B n x y e f ↔ ¬ B n x y f e:=by
  have xe:=YL s he
  have xf:=YL s hf
  unfold B
  by_cases c1:x (lo n x e) < x (lo n x f)
  · rw [if_pos c1,if_neg (by omega),if_pos c1]
    have:=s.off e (lo n x f) he (Ug hf) c1 h2
    omega
  · by_cases c2:x (lo n x f) < x (lo n x e)
    · rw [if_neg c1,if_pos c2,if_pos c2]
      have:=s.off f (lo n x e) hf (Ug he) c2 h1
      omega
    · rw [if_neg c1,if_neg c2,if_neg c2,if_neg c1]
      have h3:x (hi n x e)≠x (hi n x f):=fun z=>hne (ZbX s he hf (by omega) z)
      by_cases c3:x (hi n x e) < x (hi n x f)
      · rw [if_pos c3,if_neg (by omega)]
        have:=s.off f (hi n x e) hf (JR he) (by omega) c3
        omega
      · rw [if_neg c3,if_pos (by omega)]
        have:=s.off e (hi n x f) he (JR hf) (by omega) (by omega)
        omega
theorem ZhO (i:Nat):¬ B n x y i i:=by
  unfold B
  simp only [Int.lt_irrefl,if_false]
  unfold sd cr
  grind
theorem Zmu (s:Z3 n x y) {e f k:Nat} (he:e < n) (hf:f < n) (hk:lo n x e=k\/hi n x e=k) (h1:x (lo n x f) < x k) (h2:x k < x (hi n x f)) :
    B n x y f e ↔ 0 < sd n x y f k:=by
  rcases hk with rfl | rfl
  · unfold B; rw [if_pos h1]
  · exact Zmt s he hf h1 h2
theorem Zlk (s:Z3 n x y) {e f k:Nat} (he:e < n) (hf:f < n) (hk:lo n x e=k\/hi n x e=k) (h1:x (lo n x f) < x k) (h2:x k < x (hi n x f)) :
    B n x y e f ↔ ¬ 0 < sd n x y f k:=by
  rw [<-Zmu s he hf hk h1 h2]
  have xe:=YL s he
  refine W9 s he hf ?_ ?_ ?_
  · rintro rfl; rcases hk with rfl | rfl <;> omega
  · rcases hk with rfl | rfl <;> omega
  · rcases hk with rfl | rfl <;> omega
end
noncomputable instance (n:Nat) (x y:Nat->Int) (j i:Nat):Decidable (B n x y j i):=by unfold B; infer_instance
noncomputable instance (n:Nat) (x:Nat->Int) (j:Nat) (t:Int):Decidable (crs n x j t):=by unfold crs; infer_instance
noncomputable def c (n:Nat) (x y:Nat->Int) (i:Nat) (t:Int):Int:=S n fun j=>if crs n x j t/\B n x y j i then d n x j else 0
noncomputable def W (n:Nat) (x y:Nat->Int) (i:Nat) (t:Int):Int:=c n x y i t+(if d n x i=1 then 1 else 0)
section
variable {n:Nat} {x y:Nat->Int}
theorem Jt (j:Nat):(lo n x j=j/\hi n x j=nx n j)\/(lo n x j=nx n j/\hi n x j=j):=by
  rcases Zf2 (n:=n) (x:=x) j with ⟨a,b,_⟩ | ⟨a,b,_⟩
  · exact .inl ⟨a,b⟩
  · exact .inr ⟨a,b⟩
theorem ZbA (s:Z3 n x y) {j k:Nat} (hj:j < n) (hk:k < n) (h1:j≠k) (h2:j≠pv n k):crs n x j (x k-1) ↔ crs n x j (x k):=by
  have a1:lo n x j≠k/\hi n x j≠k:=by
    have:nx n j≠k:=fun z=>h2 (by rw [<-z,ZlP hj])
    rcases Jt (n:=n) (x:=x) j with ⟨a,b⟩ | ⟨a,b⟩ <;> rw [a,b] <;> exact ⟨by assumption,by assumption⟩
  have b1:x (lo n x j)≠x k:=fun z=>a1.1 (s.dx _ _ (Ug hj) hk z)
  have b2:x (hi n x j)≠x k:=fun z=>a1.2 (s.dx _ _ (JR hj) hk z)
  unfold crs
  omega
theorem ZhH (s:Z3 n x y) {j k:Nat} (hj:j < n) (hk:k < n) (h1:j≠k) (h2:j≠pv n k) (h:crs n x j (x k)):x (lo n x j) < x k/\x k < x (hi n x j):=by
  have h':=(ZbA s hj hk h1 h2).mpr h
  unfold crs at h h'
  omega
theorem Zls (s:Z3 n x y) {k:Nat} (hk:k < n) :
    (lo n x k=k\/hi n x k=k)/\(lo n x (pv n k)=k\/hi n x (pv n k)=k):=by
  have e:=Zja (n:=n) hk
  constructor
  · rcases Jt (n:=n) (x:=x) k with ⟨a,b⟩ | ⟨a,b⟩ <;> simp [a,b]
  · rcases Jt (n:=n) (x:=x) (pv n k) with ⟨a,b⟩ | ⟨a,b⟩ <;> simp [a,b,e]
theorem Zmd (s:Z3 n x y) {k:Nat} (hk:k < n) :
    ((d n x k=1/\lo n x k=k/\crs n x k (x k)/\¬ crs n x k (x k-1))\/(d n x k=-1/\hi n x k=k/\¬ crs n x k (x k)/\crs n x k (x k-1))) /\
    ((d n x (pv n k)=1/\hi n x (pv n k)=k/\¬ crs n x (pv n k) (x k)/\crs n x (pv n k) (x k-1))\/(d n x (pv n k)=-1/\lo n x (pv n k)=k/\crs n x (pv n k) (x k)/\¬ crs n x (pv n k) (x k-1))):=by
  have e:=Zja (n:=n) hk
  have l1:=YL s hk
  have l2:=YL s (Zc4 hk)
  unfold crs
  constructor
  · rcases Zf2 (n:=n) (x:=x) k with ⟨a,b,c,_⟩ | ⟨a,b,c,_⟩
    · left; rw [a] at l1 ⊢; exact ⟨c,rfl,by omega,by omega⟩
    · right; rw [b] at l1 ⊢; exact ⟨c,rfl,by omega,by omega⟩
  · rcases Zf2 (n:=n) (x:=x) (pv n k) with ⟨a,b,c,_⟩ | ⟨a,b,c,_⟩
    · left; rw [e] at b; rw [b] at l2 ⊢; exact ⟨c,rfl,by omega,by omega⟩
    · right; rw [e] at a; rw [a] at l2 ⊢; exact ⟨c,rfl,by omega,by omega⟩
theorem Znp (s:Z3 n x y) {i:Nat} {t:Int} (hi':i < n) (h0:crs n x i (t-1)) (h1:crs n x i t):c n x y i (t-1)=c n x y i t:=by
  unfold c
  by_cases hv:∃ k,k < n/\x k=t
  · obtain ⟨k,hk,rfl⟩:=hv
    have sp:x (lo n x i) < x k/\x k < x (hi n x i):=by unfold crs at h0 h1; omega
    have hp:=Zc4 (n:=n) hk
    have b1:=Zlk s hk hi' (Zls s hk).1 sp.1 sp.2
    have b2:=Zlk s hp hi' (Zls s hk).2 sp.1 sp.2
    have q:=Zlc (n:=n) (a:=k) (b:=pv n k) (f:=fun j=>if crs n x j (x k-1)/\B n x y j i then d n x j else 0) (g:=fun j=>if crs n x j (x k)/\B n x y j i then d n x j else 0)
      hk hp (Ne.symm (Zhc s.n3 hk)) (fun j hj h1 h2=>by
        have:=ZbA s hj hk h1 h2
        simp only [this])
    have z:=Zmd s hk
    have:(if crs n x k (x k-1)/\B n x y k i then d n x k else 0)-(if crs n x k (x k)/\B n x y k i then d n x k else 0)+((if crs n x (pv n k) (x k-1)/\B n x y (pv n k) i then d n x (pv n k) else 0)-(if crs n x (pv n k) (x k)/\B n x y (pv n k) i then d n x (pv n k) else 0))=0:=by
      simp only [b1,b2]
      by_cases hb:0 < sd n x y i k
      · simp [hb]
      · rcases z.1 with ⟨p1,p2,p3,p4⟩ | ⟨p1,p2,p3,p4⟩ <;> rcases z.2 with ⟨q1,q2,q3,q4⟩ | ⟨q1,q2,q3,q4⟩ <;> simp [hb,p1,p3,p4,q1,q3,q4]
    omega
  · refine S_congr fun j hj=>?_
    have a1:x (lo n x j)≠t:=fun z=>hv ⟨_,Ug hj,z⟩
    have a2:x (hi n x j)≠t:=fun z=>hv ⟨_,JR hj,z⟩
    have:crs n x j (t-1) ↔ crs n x j t:=by unfold crs; omega
    simp only [this]
theorem Zkt (s:Z3 n x y) {j k:Nat} (hk:k < n) (hj:j < n) (h1:j≠k) (h2:j≠pv n k) (h:crs n x j (x k)):B n x y j k ↔ B n x y j (pv n k):=by
  have sp:=ZhH s hj hk h1 h2 h
  rw [Zmu s hk hj (Zls s hk).1 sp.1 sp.2,Zmu s (Zc4 hk) hj (Zls s hk).2 sp.1 sp.2]
noncomputable def tk (x:Nat->Int) (n k i:Nat):Int:=if lo n x i=k then x k else x k-1
theorem Zno (s:Z3 n x y) {k:Nat} (hk:k < n):W n x y (pv n k) (tk x n k (pv n k))=W n x y k (tk x n k k):=by
  have hp:=Zc4 (n:=n) hk
  have z:=Zmd s hk
  have l1:=YL s hk
  have l2:=YL s hp
  have q:=Zlc (n:=n) (a:=k) (b:=pv n k) (f:=fun j=>if crs n x j (tk x n k (pv n k))/\B n x y j (pv n k) then d n x j else 0) (g:=fun j=>if crs n x j (tk x n k k)/\B n x y j k then d n x j else 0)
      hk hp (Ne.symm (Zhc s.n3 hk)) (fun j hj h1 h2=>by
        have e:=ZbA s hj hk h1 h2
        have e2:∀ i,crs n x j (tk x n k i) ↔ crs n x j (x k):=fun i=>by unfold tk; split <;> first | rfl | exact e
        by_cases hc:crs n x j (x k)
        · have:=Zkt s hk hj h1 h2 hc
          simp only [e2,this]
        · simp only [e2,hc,false_and,if_false])
  have irr1:=ZhO (n:=n) (x:=x) (y:=y) k
  have irr2:=ZhO (n:=n) (x:=x) (y:=y) (pv n k)
  simp only [irr1,irr2,and_false,if_false] at q
  unfold W c
  rcases z.1 with ⟨p1,p2,p3,p4⟩ | ⟨p1,p2,p3,p4⟩ <;> rcases z.2 with ⟨q1,q2,q3,q4⟩ | ⟨q1,q2,q3,q4⟩
  · have t1:tk x n k k=x k:=by unfold tk; rw [if_pos p2]
    have t2:tk x n k (pv n k)=x k-1:=by
      unfold tk; rw [if_neg]; intro z; rw [z,q2] at l2; omega
    simp only [t1,t2,p1,p3,p4,q1,q3,q4] at q ⊢
    simp at q ⊢
    omega
  · have t1:tk x n k k=x k:=by unfold tk; rw [if_pos p2]
    have t2:tk x n k (pv n k)=x k:=by unfold tk; rw [if_pos q2]
    have an:=W9 s hk hp (Ne.symm (Zhc s.n3 hk)) (by rw [p2]; rw [q2] at l2; exact l2) (by rw [q2]; rw [p2] at l1; exact l1)
    simp only [t1,t2,p1,p3,p4,q1,q3,q4,an] at q ⊢
    by_cases hb:B n x y (pv n k) k <;> simp [hb] at q ⊢ <;> omega
  · have t1:tk x n k k=x k-1:=by
      unfold tk; rw [if_neg]; intro z; rw [z,p2] at l1; omega
    have t2:tk x n k (pv n k)=x k-1:=by
      unfold tk; rw [if_neg]; intro z; rw [z,q2] at l2; omega
    have an:=W9 s hk hp (Ne.symm (Zhc s.n3 hk)) (by rw [q2]; rw [p2] at l1; exact l1) (by rw [p2]; rw [q2] at l2; exact l2)
    simp only [t1,t2,p1,p3,p4,q1,q3,q4,an] at q ⊢
    by_cases hb:B n x y (pv n k) k <;> simp [hb] at q ⊢ <;> omega
  · have t1:tk x n k k=x k-1:=by
      unfold tk; rw [if_neg]; intro z; rw [z,p2] at l1; omega
    have t2:tk x n k (pv n k)=x k:=by unfold tk; rw [if_pos q2]
    simp only [t1,t2,p1,p3,p4,q1,q3,q4] at q ⊢
    simp at q ⊢
    omega
theorem Zmm (s:Z3 n x y) {i:Nat} (hi':i < n):∀ (m:Nat) (t:Int),t=x (lo n x i)+m->crs n x i t->W n x y i t=W n x y i (x (lo n x i)):=by
  intro m
  induction m with
  | zero=>intro t e _; rw [e]; simp
  | succ m ih=>
    intro t e h
    have h0:crs n x i (t-1):=by unfold crs at h ⊢; omega
    have:=ih (t-1) (by omega) h0
    rw [<-this]
    unfold W
    rw [Znp s hi' h0 h]
theorem ZjM (s:Z3 n x y) {i:Nat} (hi':i < n) {t:Int} (h:crs n x i t):W n x y i t=W n x y i (x (lo n x i)):=
  Zmm s hi' (t-x (lo n x i)).toNat t (by unfold crs at h; omega) h
theorem Zk9 (s:Z3 n x y) {k:Nat} (hk:k < n):crs n x k (tk x n k k)/\crs n x (pv n k) (tk x n k (pv n k)):=by
  have z:=Zmd s hk
  have l1:=YL s hk
  have l2:=YL s (Zc4 hk)
  constructor
  · rcases z.1 with ⟨p1,p2,p3,p4⟩ | ⟨p1,p2,p3,p4⟩
    · unfold tk; rw [if_pos p2]; exact p3
    · unfold tk; rw [if_neg]; exact p4
      intro z; rw [z,p2] at l1; omega
  · rcases z.2 with ⟨p1,p2,p3,p4⟩ | ⟨p1,p2,p3,p4⟩
    · unfold tk; rw [if_neg]; exact p4
      intro z; rw [z,p2] at l2; omega
    · unfold tk; rw [if_pos p2]; exact p3
noncomputable def w (n:Nat) (x y:Nat->Int) (i:Nat):Int:=W n x y i (x (lo n x i))
theorem ZjV (s:Z3 n x y) {k:Nat} (hk:k < n):w n x y (pv n k)=w n x y k:=by
  have a:=Zk9 s hk
  have b:=Zno s hk
  rw [ZjM s hk a.1,ZjM s (Zc4 hk) a.2] at b
  exact b
theorem Zly (s:Z3 n x y):∀ {k:Nat},k < n->w n x y k=w n x y 0:=by
  intro k
  induction k with
  | zero=>intro _; rfl
  | succ k ih=>
    intro h
    have:=ZjV s h
    have e:pv n (k+1)=k:=by unfold pv; simp
    rw [e] at this
    rw [<-this,ih (by omega)]
theorem Zmk (s:Z3 n x y) {i:Nat} (hi':i < n) {t:Int} (h:crs n x i t):c n x y i t+(if d n x i=1 then 1 else 0)=w n x y 0:=by
  have e:=ZjM s hi' h
  have e2:=Zly s hi'
  exact e.trans e2
theorem ZjW (s:Z3 n x y) (hm:∀ i,0 < i->i < n->x 0 < x i):w n x y 0=if 0 < cr (x (n-1)) (y (n-1)) (x 0) (y 0) (x 1) (y 1) then 1 else 0:=by
  have n3:=s.n3
  have e1:nx n 0=1:=by unfold nx; rw [if_neg]; omega
  have up:x 0 < x (nx n 0):=by rw [e1]; exact hm 1 (by omega) (by omega)
  have l0:lo n x 0=0:=by unfold lo; rw [if_pos up]
  have h0:hi n x 0=1:=by unfold hi; rw [if_pos up,e1]
  have d0:d n x 0=1:=by unfold d; rw [if_pos up]
  have ep:pv n 0=n-1:=by unfold pv; simp
  have e2:nx n (n-1)=0:=by unfold nx; rw [if_pos]; omega
  have dn:¬ x (n-1) < x (nx n (n-1)):=by rw [e2]; have:=hm (n-1) (by omega) (by omega); omega
  have l1:lo n x (n-1)=0:=by unfold lo; rw [if_neg dn,e2]
  have h1:hi n x (n-1)=n-1:=by unfold hi; rw [if_neg dn]
  have d1:d n x (n-1)=-1:=by unfold d; rw [if_neg dn]
  unfold w W c
  rw [ZgQ (a:=n-1) (by omega) (fun j hj hne=>?_)]
  · rw [l0,d0,d1]
    have cq:crs n x (n-1) (x 0):=by unfold crs; rw [l1,h1]; have:=hm (n-1) (by omega) (by omega); omega
    have bq:B n x y (n-1) 0 ↔ ¬ 0 < cr (x (n-1)) (y (n-1)) (x 0) (y 0) (x 1) (y 1):=by
      rw [W9 s (by omega) (by omega) (by omega) (by rw [l1,h0]; exact hm 1 (by omega) (by omega)) (by rw [l0,h1]; exact hm (n-1) (by omega) (by omega))]
      have same:cr (x (n-1)) (y (n-1)) (x 0) (y 0) (x 1) (y 1)=cr (x 0) (y 0) (x 1) (y 1) (x (n-1)) (y (n-1)):=by unfold cr; grind
      have same2:cr (x (n-1)) (y (n-1)) (x 0) (y 0) (x 1) (y 1)=- cr (x 0) (y 0) (x (n-1)) (y (n-1)) (x 1) (y 1):=by unfold cr; grind
      have u1:sd n x y 0 (n-1)=cr (x 0) (y 0) (x 1) (y 1) (x (n-1)) (y (n-1)):=by unfold sd; rw [l0,h0]
      have u2:sd n x y (n-1) 1=cr (x 0) (y 0) (x (n-1)) (y (n-1)) (x 1) (y 1):=by unfold sd; rw [l1,h1]
      unfold B
      rw [l0,l1,h0,h1,if_neg (by omega),if_neg (by omega),u1,u2]
      split <;> omega
    simp only [cq,bq,true_and]
    split <;> split <;> simp_all
  · rw [if_neg]
    rintro ⟨hc,hb⟩
    by_cases hj0:j=0
    · rw [hj0] at hb; exact ZhO 0 hb
    · have a:=Jt (n:=n) (x:=x) j
      have b:nx n j≠0:=by unfold nx; split <;> omega
      have c1:x 0 < x (lo n x j):=by
        rcases a with ⟨a,_⟩ | ⟨a,_⟩ <;> rw [a]
        · exact hm j (by omega) hj
        · exact hm _ (by omega) (nx_lt hj)
      unfold crs at hc
      rw [l0] at hc
      omega
end
theorem ZgR:∀ (n:Nat) (f g:Nat->Int),S n (fun j=>f j+g j)=S n f+S n g
  | 0,_,_=>rfl
  | n+1,f,g=>by simp only [S,ZgR n f g]; omega
theorem ZcD (k:Int):∀ (n:Nat) (f:Nat->Int),S n (fun j=>k*f j)=k*S n f
  | 0,_=>by simp [S]
  | n+1,f=>by simp only [S,ZcD k n f]; grind
theorem Zd8:∀ (n:Nat),S n (fun _=>0)=0
  | 0=>rfl
  | n+1=>by simp only [S,Zd8 n]; rfl
theorem ZgO:∀ (m n:Nat) (f:Nat->Nat->Int),S m (fun i=>S n (fun j=>f i j))=S n (fun j=>S m (fun i=>f i j))
  | 0,n,f=>by simp only [S,Zd8]
  | m+1,n,f=>by simp only [S,ZgO m n f,ZgR]
theorem ZbI:∀ {n:Nat} {f:Nat->Int},(∀ j,j < n->0<=f j)->0<=S n f
  | 0,_,_=>by simp [S]
  | n+1,f,h=>by
    have:=ZbI (n:=n) (f:=f) (fun j hj=>h j (by omega))
    have:=h n (by omega)
    simp only [S]; omega
theorem Zld {n:Nat} {f:Nat->Int} (h:∀ j,j < n->0<=f j) {k:Nat} (hk:k < n) (hp:0 < f k):0 < S n f:=by
  induction n with
  | zero=>omega
  | succ n ih=>
    simp only [S]
    by_cases e:k=n
    · subst e
      have:=ZbI (n:=k) (f:=f) (fun j hj=>h j (by omega))
      omega
    · have:=ih (fun j hj=>h j (by omega)) (by omega)
      have:=h n (by omega)
      omega
theorem Zle {n:Nat} (hn:0 < n) (g:Nat->Int):S n (fun i=>g i-g (nx n i))=0:=by
  have part:∀ m,m+1<=n->S m (fun i=>g i-g (nx n i))=g 0-g m:=by
    intro m
    induction m with
    | zero=>intro _; simp [S]
    | succ m ih=>
      intro h
      have e:nx n m=m+1:=by unfold nx; rw [if_neg]; omega
      simp only [S,ih (by omega),e]; omega
  obtain ⟨m,rfl⟩:∃ m,n=m+1:=⟨n-1,by omega⟩
  have e:nx (m+1) m=0:=by unfold nx; simp
  simp only [S,part m (by omega),e]; omega
theorem Zds (n:Nat) (f:Nat->Int):∃ R:Nat,∀ i,i < n->-(R:Int)<=f i/\f i < R:=by
  induction n with
  | zero=>exact ⟨0,fun i h=>by omega⟩
  | succ n ih=>
    obtain ⟨R,h⟩:=ih
    refine ⟨R+(f n).natAbs+1,fun i hi=>?_⟩
    by_cases e:i=n
    · subst e; omega
    · have:=h i (by omega); omega
theorem ZkM (h b:Int) (hb:b<=h):∀ N:Nat,S N (fun m=>if h<=b+m then 1 else 0)=if h<=b+N then b+N-h else 0
  | 0=>by simp only [S]; split <;> omega
  | N+1=>by
    simp only [S,ZkM h b hb N]
    split <;> split <;> omega
theorem Zgf {n:Nat} (A:Nat->Prop) [DecidablePred A] (h dd:Nat->Int) (w0:Int) (hw:w0=0\/w0=1)
    (hd:∀ i,i < n->dd i=1\/dd i=-1)
    (inj:∀ i j,i < n->j < n->A i->A j->h i=h j->i=j)
    (low:∀ i,i < n->A i->S n (fun j=>if A j/\h j < h i then dd j else 0)+(if dd i=1 then 1 else 0)=w0)
    (tot:S n (fun j=>if A j then dd j else 0)=0) :
    0<=(2*w0-1)*S n (fun j=>if A j then-dd j*h j else 0) /\
    ((∃ i,i < n/\A i/\dd i=2*w0-1)->0 < (2*w0-1)*S n (fun j=>if A j then-dd j*h j else 0)):=by
  obtain ⟨R,hR⟩:=Zds n h
  have pat:∀ i,i < n->A i->S n (fun j=>if A j/\h j<=h i then dd j else 0)=w0+dd i-(if dd i=1 then 1 else 0):=by
    intro i hi ai
    have e:=low i hi ai
    have q:S n (fun j=>if A j/\h j<=h i then dd j else 0)=S n (fun j=>(if A j/\h j < h i then dd j else 0)+(if j=i then dd i else 0)):=by
      refine S_congr fun j hj=>?_
      by_cases aj:A j
      · by_cases e2:j=i
        · subst e2; simp [aj]
        · have ne:h j≠h i:=fun z=>e2 (inj j i hj hi aj ai z)
          by_cases l:h j < h i
          · have:h j<=h i:=by omega
            simp [aj,l,this,e2]
          · have:¬ h j<=h i:=by omega
            simp [aj,l,this,e2]
      · have e2:j≠i:=fun z=>aj (z ▸ ai)
        simp [aj,e2]
    rw [q,ZgR,ZgQ (a:=i) (f:=fun j=>if j=i then dd i else 0) hi (fun j _ hne=>by simp [hne])]
    simp only [if_true]
    omega
  have ps:∀ m:Nat,0<=(2*w0-1)*S n (fun j=>if A j/\h j<=-(R:Int)-1+m then dd j else 0):=by
    intro m
    induction m with
    | zero=>
      have:S n (fun j=>if A j/\h j<=-(R:Int)-1+(0:Nat) then dd j else 0)=0:=by
        refine (S_congr fun j hj=>?_).trans (Zd8 n)
        have:=hR j hj
        rw [if_neg]; rintro ⟨_,z⟩; omega
      rw [this]; simp
    | succ m ih=>
      by_cases ex:∃ i,i < n/\A i/\h i=-(R:Int)-1+((m+1:Nat):Int)
      · obtain ⟨i,hi,ai,e⟩:=ex
        rw [<-e,pat i hi ai]
        rcases hw with rfl | rfl <;> rcases hd i hi with e1 | e1 <;> simp [e1]
      · have:S n (fun j=>if A j/\h j<=-(R:Int)-1+((m+1:Nat):Int) then dd j else 0)=S n (fun j=>if A j/\h j<=-(R:Int)-1+m then dd j else 0):=by
          refine S_congr fun j hj=>?_
          by_cases aj:A j
          · have ne:h j≠-(R:Int)-1+((m+1:Nat):Int):=fun z=>ex ⟨j,hj,aj,z⟩
            have:h j<=-(R:Int)-1+((m+1:Nat):Int) ↔ h j<=-(R:Int)-1+m:=by omega
            simp only [aj,this]
          · simp [aj]
        rw [this]; exact ih
  have lay:S n (fun j=>if A j then-dd j*h j else 0)=S (2*R+1) (fun m=>S n (fun j=>if A j/\h j<=-(R:Int)-1+m then dd j else 0)):=by
    rw [ZgO]
    have q:S n (fun j=>S (2*R+1) (fun m=>if A j/\h j<=-(R:Int)-1+m then dd j else 0))=S n (fun j=>(if A j then-dd j*h j else 0)+R*(if A j then dd j else 0)):=by
      refine S_congr fun j hj=>?_
      by_cases aj:A j
      · have hr:=hR j hj
        have e:S (2*R+1) (fun m=>if A j/\h j<=-(R:Int)-1+m then dd j else 0)=dd j*S (2*R+1) (fun m=>if h j<=(-(R:Int)-1)+m then 1 else 0):=by
          rw [<-ZcD]
          refine S_congr fun m _=>?_
          simp only [aj,true_and]
          split <;> simp
        rw [e,ZkM _ _ (by omega)]
        simp only [aj,if_true]
        rw [if_pos (by omega)]
        have:(-(R:Int)-1)+((2*R+1:Nat):Int)-h j=R-h j:=by omega
        rw [this]
        grind
      · simp only [aj,false_and,if_false,Zd8]; simp
    rw [q,ZgR,ZcD,tot]; simp
  have lay2:(2*w0-1)*S n (fun j=>if A j then-dd j*h j else 0)=S (2*R+1) (fun m=>(2*w0-1)*S n (fun j=>if A j/\h j<=-(R:Int)-1+m then dd j else 0)):=by
    rw [lay,ZcD]
  rw [lay2]
  refine ⟨ZbI fun m _=>ps m,?_⟩
  rintro ⟨i,hi,ai,di⟩
  have hr:=hR i hi
  refine Zld (fun m _=>ps m) (k:=(h i+R+1).toNat) (by omega) ?_
  have e:-(R:Int)-1+((h i+R+1).toNat:Int)=h i:=by omega
  rw [e,pat i hi ai]
  rcases hw with rfl | rfl <;> simp at di <;> simp [di]
section
variable (n:Nat) (x y:Nat->Int)
noncomputable def bw (i:Nat):Int:=x (hi n x i)-x (lo n x i)
noncomputable def Pr:Nat->Int
  | 0=>1
  | m+1=>Pr m*bw n x m
noncomputable def K (i:Nat):Int:=Pr n x n / bw n x i
noncomputable def H (t:Int) (i:Nat):Int:=K n x i*(2*y (lo n x i)*bw n x i+(y (hi n x i)-y (lo n x i))*(2*t+1-2*x (lo n x i)))
noncomputable def A2:Int:=S n fun i=>x i*y (nx n i)-y i*x (nx n i)
end
section
variable {n:Nat} {x y:Nat->Int}
theorem ZgI (s:Z3 n x y) {i:Nat} (h:i < n):0 < bw n x i:=by have:=YL s h; unfold bw; omega
theorem Zim (s:Z3 n x y):∀ {m:Nat},m<=n->0 < Pr n x m:=by
  intro m
  induction m with
  | zero=>intro _; unfold Pr; decide
  | succ m ih=>intro h; exact Int.mul_pos (ih (by omega)) (ZgI s (by omega))
theorem Zlf {i:Nat}:∀ {m:Nat},i < m->bw n x i ∣ Pr n x m:=by
  intro m
  induction m with
  | zero=>intro h; omega
  | succ m ih=>
    intro h
    unfold Pr
    by_cases e:i=m
    · subst e; exact Int.dvd_mul_left _ _
    · exact Int.dvd_trans (ih (by omega)) (Int.dvd_mul_right _ _)
theorem ZjN (s:Z3 n x y) {i:Nat} (h:i < n):K n x i*bw n x i=Pr n x n:=Int.ediv_mul_cancel (Zlf h)
noncomputable def Nn (n:Nat) (x y:Nat->Int) (j i:Nat) (s:Int):Int:=
  bw n x j*(y (lo n x i)*bw n x i+(y (hi n x i)-y (lo n x i))*(s-x (lo n x i)))-bw n x i*(y (lo n x j)*bw n x j+(y (hi n x j)-y (lo n x j))*(s-x (lo n x j)))
theorem Zio (j i:Nat) (a b s:Int):(b-a)*Nn n x y j i s=(b-s)*Nn n x y j i a+(s-a)*Nn n x y j i b:=by unfold Nn; grind
theorem Zin (j i:Nat):Nn n x y j i (x (lo n x i))=bw n x i*sd n x y j (lo n x i):=by unfold Nn sd cr bw; grind
theorem Zlg (j i:Nat):Nn n x y j i (x (lo n x j))=- (bw n x j*sd n x y i (lo n x j)):=by unfold Nn sd cr bw; grind
theorem Zip (j i:Nat):Nn n x y j i (x (hi n x i))=bw n x i*sd n x y j (hi n x i):=by unfold Nn sd cr bw; grind
theorem Zlh (j i:Nat):Nn n x y j i (x (hi n x j))=- (bw n x j*sd n x y i (hi n x j)):=by unfold Nn sd cr bw; grind
theorem B_H (s:Z3 n x y) {j i:Nat} {t:Int} (hj:j < n) (hi':i < n) (hne:j≠i) (cj:crs n x j t) (ci:crs n x i t) (hb:B n x y j i):H n x y t j < H n x y t i:=by
  have wi:=ZgI s hi'
  have wj:=ZgI s hj
  unfold crs at cj ci
  have hb':¬ B n x y i j:=by
    have:=W9 s hi' hj (Ne.symm hne) (by omega) (by omega)
    exact fun z=>(this.mp z) hb
  obtain ⟨a,ha1,ha2,ha3⟩:∃ a:Int,a<=t/\0<=Nn n x y j i a/\(Nn n x y j i a=0->x (lo n x i)=x (lo n x j)):=by
    by_cases c1:x (lo n x j) < x (lo n x i)
    · refine ⟨x (lo n x i),by omega,?_,?_⟩ <;> rw [Zin] <;> unfold B at hb <;> rw [if_pos c1] at hb <;> have:=Int.mul_pos wi hb <;> omega
    · by_cases c2:x (lo n x i) < x (lo n x j)
      · have hb2:=hb
        unfold B at hb2
        rw [if_neg c1,if_pos c2] at hb2
        have:=Int.mul_neg_of_pos_of_neg wj hb2
        refine ⟨x (lo n x j),by omega,?_,?_⟩ <;> rw [Zlg] <;> omega
      · have e:=s.dx _ _ (Ug (x:=x) hi') (Ug (x:=x) hj) (by omega)
        refine ⟨x (lo n x i),by omega,?_,fun _=>by omega⟩
        rw [Zin,e]
        have:sd n x y j (lo n x j)=0:=by unfold sd cr; grind
        rw [this]; simp
  obtain ⟨b,hb1,hb2,hb3⟩:∃ b:Int,t+1<=b/\0<=Nn n x y j i b/\(Nn n x y j i b=0->x (hi n x i)=x (hi n x j)):=by
    by_cases c1:x (hi n x j) < x (hi n x i)
    · have q:=Zmt s hj hi' (by omega) c1
      have o:=s.off i (hi n x j) hi' (JR hj) (by omega) c1
      have:sd n x y i (hi n x j) < 0:=by
        have:¬ 0 < sd n x y i (hi n x j):=fun z=>hb' (q.mpr z)
        omega
      have:=Int.mul_neg_of_pos_of_neg wj this
      refine ⟨x (hi n x j),by omega,?_,?_⟩ <;> rw [Zlh] <;> omega
    · by_cases c2:x (hi n x i) < x (hi n x j)
      · have q:=Zmt s hi' hj (by omega) c2
        have:=Int.mul_pos wi (q.mp hb)
        refine ⟨x (hi n x i),by omega,?_,?_⟩ <;> rw [Zip] <;> omega
      · have e:=s.dx _ _ (JR (x:=x) hi') (JR (x:=x) hj) (by omega)
        refine ⟨x (hi n x i),by omega,?_,fun _=>by omega⟩
        rw [Zip,e]
        have:sd n x y j (hi n x j)=0:=by unfold sd cr; grind
        rw [this]; simp
  have nz:0 < Nn n x y j i a\/0 < Nn n x y j i b:=by
    by_cases z1:Nn n x y j i a=0
    · by_cases z2:Nn n x y j i b=0
      · exact absurd (ZbX s hi' hj (ha3 z1) (hb3 z2)) (Ne.symm hne)
      · omega
    · omega
  have l1:=Zio (n:=n) (x:=x) (y:=y) j i a b t
  have l2:=Zio (n:=n) (x:=x) (y:=y) j i a b (t+1)
  have pos:0 < (b-a)*(Nn n x y j i t+Nn n x y j i (t+1)):=by
    have e:(b-a)*(Nn n x y j i t+Nn n x y j i (t+1))=(2*b-2*t-1)*Nn n x y j i a+(2*t+1-2*a)*Nn n x y j i b:=by
      rw [Int.mul_add,l1,l2]; grind
    rw [e]
    have z1:0<=(2*b-2*t-1)*Nn n x y j i a:=Int.mul_nonneg (by omega) ha2
    have z2:0<=(2*t+1-2*a)*Nn n x y j i b:=Int.mul_nonneg (by omega) hb2
    rcases nz with z | z
    · have:0 < (2*b-2*t-1)*Nn n x y j i a:=Int.mul_pos (by omega) z
      omega
    · have:0 < (2*t+1-2*a)*Nn n x y j i b:=Int.mul_pos (by omega) z
      omega
  have pos2:0 < Nn n x y j i t+Nn n x y j i (t+1):=by
    apply Classical.byContradiction; intro z
    have:(b-a)*(Nn n x y j i t+Nn n x y j i (t+1))<=0:=Int.mul_nonpos_of_nonneg_of_nonpos (by omega) (by omega)
    omega
  have ki:=ZjN s hi'
  have kj:=ZjN s hj
  have pp:=Zim s (Nat.le_refl n)
  have e:bw n x i*bw n x j*(H n x y t i-H n x y t j)=Pr n x n*(Nn n x y j i t+Nn n x y j i (t+1)):=by
    have e1:bw n x i*bw n x j*H n x y t i=Pr n x n*(bw n x j*(2*y (lo n x i)*bw n x i+(y (hi n x i)-y (lo n x i))*(2*t+1-2*x (lo n x i)))):=by
      unfold H; rw [<-ki]; grind
    have e2:bw n x i*bw n x j*H n x y t j=Pr n x n*(bw n x i*(2*y (lo n x j)*bw n x j+(y (hi n x j)-y (lo n x j))*(2*t+1-2*x (lo n x j)))):=by
      unfold H; rw [<-kj]; grind
    rw [Int.mul_sub,e1,e2]; unfold Nn; grind
  apply Classical.byContradiction; intro z
  have z1:bw n x i*bw n x j*(H n x y t i-H n x y t j)<=0:=Int.mul_nonpos_of_nonneg_of_nonpos (Int.le_of_lt (Int.mul_pos wi wj)) (by omega)
  have z2:=Int.mul_pos pp pos2
  omega
theorem Zmq (s:Z3 n x y) {i:Nat} (h:i < n) (b:Int) (hb:b<=x (lo n x i)):∀ T:Nat,
    S T (fun m=>if crs n x i (b+m) then H n x y (b+m) i else 0) =
      if b+T<=x (lo n x i) then 0 else if b+T<=x (hi n x i) then K n x i*(2*y (lo n x i)*bw n x i*(b+T-x (lo n x i))+(y (hi n x i)-y (lo n x i))*((b+T-x (lo n x i))*(b+T-x (lo n x i))))
      else Pr n x n*(bw n x i*(y (lo n x i)+y (hi n x i))):=by
  have lh:=YL s h
  have km:=ZjN s h
  have full:∀ z:Int,z=x (hi n x i)->K n x i*(2*y (lo n x i)*bw n x i*(z-x (lo n x i))+(y (hi n x i)-y (lo n x i))*((z-x (lo n x i))*(z-x (lo n x i))))=Pr n x n*(bw n x i*(y (lo n x i)+y (hi n x i))):=by
    intro z e
    have:z-x (lo n x i)=bw n x i:=by unfold bw; omega
    rw [this,<-km]; grind
  intro T
  induction T with
  | zero=>simp only [S]; rw [if_pos (by omega)]
  | succ T ih=>
    simp only [S,ih]
    by_cases c1:b+T+1<=x (lo n x i)
    · rw [if_pos (by omega),if_neg (by unfold crs; omega),if_pos (by omega)]; rfl
    · by_cases c2:b+T+1<=x (hi n x i)
      · have cc:crs n x i (b+T):=by unfold crs; omega
        rw [if_pos cc,if_neg (c:=b+((T+1:Nat):Int)<=x (lo n x i)) (by omega),if_pos (c:=b+((T+1:Nat):Int)<=x (hi n x i)) (by omega)]
        have e:((T+1:Nat):Int)=(T:Int)+1:=by omega
        rw [e]
        unfold H
        by_cases c3:b+T<=x (lo n x i)
        · rw [if_pos c3]
          have:b+(T:Int)=x (lo n x i):=by omega
          have e3:b+((T:Int)+1)=x (lo n x i)+1:=by omega
          rw [this,e3]; grind
        · rw [if_neg c3,if_pos (by omega)]
          grind
      · have cc:¬ crs n x i (b+T):=by unfold crs; omega
        rw [if_neg cc,if_neg (c:=b+((T+1:Nat):Int)<=x (lo n x i)) (by omega),if_neg (c:=b+((T+1:Nat):Int)<=x (hi n x i)) (by omega)]
        rw [if_neg (by omega)]
        by_cases c3:b+T<=x (hi n x i)
        · rw [if_pos c3,full (b+T) (by omega)]; simp
        · rw [if_neg c3]; simp
theorem ZjO (s:Z3 n x y):Pr n x n*A2 n x y=S n (fun i=>- d n x i*(Pr n x n*(bw n x i*(y (lo n x i)+y (hi n x i))))):=by
  have e1:A2 n x y=S n (fun i=>- d n x i*(bw n x i*(y (lo n x i)+y (hi n x i)))):=by
    have z:=Zle (n:=n) (by have:=s.n3; omega) (fun i=>- (x i*y i))
    have:A2 n x y=S n (fun i=>- d n x i*(bw n x i*(y (lo n x i)+y (hi n x i)))+(- (x i*y i) - - (x (nx n i)*y (nx n i)))):=by
      unfold A2
      refine S_congr fun i hi'=>?_
      unfold bw
      rcases Zf2 (n:=n) (x:=x) i with ⟨a,b,c,_⟩ | ⟨a,b,c,_⟩ <;> rw [a,b,c] <;> grind
    rw [this,ZgR,z]; simp
  rw [e1,<-ZcD]
  refine S_congr fun i _=>?_
  grind
theorem ZmU (s:Z3 n x y) (t:Int):S n (fun j=>if crs n x j t then d n x j else 0)=0:=by
  have z:=Zle (n:=n) (by have:=s.n3; omega) (fun i=>if x i<=t then 1 else 0)
  refine (S_congr fun i hi'=>?_).trans z
  have l:=YL s hi'
  have q:crs n x i t ↔ x (lo n x i)<=t/\t < x (hi n x i):=Iff.rfl
  simp only [q]
  rcases Zf2 (n:=n) (x:=x) i with ⟨a,b,c,_⟩ | ⟨a,b,c,_⟩ <;> rw [a,b] at l <;> simp only [a,b,c] <;> split <;> split <;> split <;> omega
theorem ZgN (s:Z3 n x y) (hm:∀ i,0 < i->i < n->x 0 < x i) :
    0 < (2*(if 0 < cr (x (n-1)) (y (n-1)) (x 0) (y 0) (x 1) (y 1) then 1 else 0:Int)-1)*A2 n x y:=by
  have n3:=s.n3
  have hw:=ZjW s hm
  generalize hq:(if 0 < cr (x (n-1)) (y (n-1)) (x 0) (y 0) (x 1) (y 1) then 1 else 0:Int)=w0 at *
  have hw0:w0=0\/w0=1:=by rw [<-hq]; split <;> simp
  have gap:∀ t:Int,0<=(2*w0-1)*S n (fun j=>if crs n x j t then-d n x j*H n x y t j else 0) /\
      ((∃ i,i < n/\crs n x i t/\d n x i=2*w0-1)->0 < (2*w0-1)*S n (fun j=>if crs n x j t then-d n x j*H n x y t j else 0)):=by
    intro t
    have ord:∀ i j,i < n->j < n->crs n x i t->crs n x j t->i≠j->(B n x y j i ↔ H n x y t j < H n x y t i):=by
      intro i j hi' hj ci cj hne
      have an:B n x y i j ↔ ¬ B n x y j i:=W9 s hi' hj hne (by unfold crs at ci cj; omega) (by unfold crs at ci cj; omega)
      constructor
      · exact fun hb=>B_H s hj hi' (Ne.symm hne) cj ci hb
      · intro hl
        apply Classical.byContradiction; intro hb
        have:=B_H s hi' hj hne ci cj (an.mpr hb)
        omega
    refine Zgf (fun j=>crs n x j t) (H n x y t) (d n x) w0 hw0 ?_ ?_ ?_ (ZmU s t)
    · intro i _
      rcases Zf2 (n:=n) (x:=x) i with ⟨_,_,c,_⟩ | ⟨_,_,c,_⟩ <;> simp [c]
    · intro i j hi' hj ci cj e
      apply Classical.byContradiction; intro hne
      have a:=ord i j hi' hj ci cj hne
      have b:=ord j i hj hi' cj ci (Ne.symm hne)
      have an:B n x y i j ↔ ¬ B n x y j i:=W9 s hi' hj hne (by unfold crs at ci cj; omega) (by unfold crs at ci cj; omega)
      rw [a,b] at an
      omega
    · intro i hi' ci
      have:=Zmk s hi' ci
      rw [hw] at this
      rw [<-this]
      unfold c
      congr 1
      refine S_congr fun j hj=>?_
      by_cases cj:crs n x j t
      · by_cases e:j=i
        · subst e; simp [ZhO]
        · have:=ord i j hi' hj ci cj (Ne.symm e)
          simp only [cj,this]
      · simp only [cj,false_and]
  obtain ⟨R,hR⟩:=Zds n (fun i=>x i-x 0)
  have e:Pr n x n*A2 n x y=S (R+1) (fun m=>S n (fun j=>if crs n x j (x 0+m) then-d n x j*H n x y (x 0+m) j else 0)):=by
    rw [ZjO s,ZgO]
    refine S_congr fun i hi'=>?_
    have lb:∀ k,k < n->x 0<=x k:=fun k hk=>by
      by_cases z:k=0
      · subst z; omega
      · have:=hm k (by omega) hk; omega
    have hs:=Zmq s hi' (x 0) (lb _ (Ug hi')) (R+1)
    have l:=YL s hi'
    have u:=hR _ (JR (x:=x) hi')
    rw [if_neg (by omega),if_neg (by omega)] at hs
    rw [<-hs,<-ZcD]
    refine S_congr fun m _=>?_
    split <;> simp
  have pp:=Zim s (Nat.le_refl n)
  have tot:0 < Pr n x n*((2*w0-1)*A2 n x y):=by
    have e2:Pr n x n*((2*w0-1)*A2 n x y)=(2*w0-1)*(Pr n x n*A2 n x y):=by grind
    rw [e2,e,<-ZcD]
    refine Zld (fun m _=>(gap _).1) (k:=0) (by omega) ((gap _).2 ?_)
    have e1:nx n 0=1:=by unfold nx; rw [if_neg]; omega
    have up:x 0 < x (nx n 0):=by rw [e1]; exact hm 1 (by omega) (by omega)
    have e3:nx n (n-1)=0:=by unfold nx; rw [if_pos]; omega
    have dn:¬ x (n-1) < x (nx n (n-1)):=by rw [e3]; have:=hm (n-1) (by omega) (by omega); omega
    rcases hw0 with rfl | rfl
    · refine ⟨n-1,by omega,?_,by unfold d; rw [if_neg dn]; rfl⟩
      unfold crs lo hi
      rw [if_neg dn,if_neg dn,e3]
      have:=hm (n-1) (by omega) (by omega)
      simp; omega
    · refine ⟨0,by omega,?_,by unfold d; rw [if_pos up]; rfl⟩
      unfold crs lo hi
      rw [if_pos up,if_pos up]
      simp; omega
  apply Classical.byContradiction; intro z
  have:Pr n x n*((2*w0-1)*A2 n x y)<=0:=Int.mul_nonpos_of_nonneg_of_nonpos (by omega) (by omega)
  omega
end
noncomputable abbrev P2:=Int×Int
noncomputable def turn (a b c:P2):Int:=(b.1-a.1)*(c.2-a.2)-(b.2-a.2)*(c.1-a.1)
noncomputable def onS (a b c:P2):Prop:=turn a b c=0/\(min a.1 b.1<=c.1/\c.1<=max a.1 b.1)/\(min a.2 b.2<=c.2/\c.2<=max a.2 b.2)
noncomputable def meet (a b c d:P2):Prop:=onS a b c\/onS a b d\/onS c d a\/onS c d b\/(turn a b c*turn a b d < 0/\turn c d a*turn c d b < 0)
noncomputable def lexlt (a b:P2):Prop:=a.1 < b.1\/(a.1=b.1/\a.2 < b.2)
structure Good (n:Nat) (p:Nat->P2):Prop where
  n3:3<=n
  inj:∀ i j,i < n->j < n->p i=p j->i=j
  turns:∀ i,i < n->turn (p i) (p (nx n i)) (p (nx n (nx n i)))≠0
  apart:∀ i j,i < n->j < n->i≠j->i≠nx n j->j≠nx n i->¬ meet (p i) (p (nx n i)) (p j) (p (nx n j))
noncomputable def area (n:Nat) (p:Nat->P2):Int:=S n fun i=>(p i).1*(p (nx n i)).2-(p i).2*(p (nx n i)).1
theorem Zhk {a b c:P2} (h:onS a b c):onS b a c:=by
  unfold onS turn at *
  obtain ⟨h1,h2,h3⟩:=h
  refine ⟨by grind,by rw [Int.min_comm,Int.max_comm]; exact h2,by rw [Int.min_comm,Int.max_comm]; exact h3⟩
theorem ZfM {a b c:P2} (h:turn a b c=0) (h1:lexlt a c) (h2:lexlt c b):onS a b c:=by
  unfold turn at h
  unfold lexlt at h1 h2
  obtain ⟨ax,ay⟩:=a; obtain ⟨bx,by_⟩:=b; obtain ⟨cx,cy⟩:=c
  simp only at *
  refine ⟨h,?_⟩
  simp only
  have hx:ax<=cx/\cx<=bx:=by omega
  refine ⟨by omega,?_⟩
  by_cases e:ax=bx
  · omega
  · have w:0 < bx-ax:=by omega
    have e1:(bx-ax)*(cy-ay)=(by_-ay)*(cx-ax):=by omega
    have e2:(bx-ax)*(by_-cy)=(by_-ay)*(bx-cx):=by grind
    by_cases s:ay<=by_
    · have z1:0<=(by_-ay)*(cx-ax):=Int.mul_nonneg (by omega) (by omega)
      have z2:0<=(by_-ay)*(bx-cx):=Int.mul_nonneg (by omega) (by omega)
      have y1:0<=cy-ay:=by
        apply Classical.byContradiction; intro q
        have:=Int.mul_neg_of_pos_of_neg w (show cy-ay < 0 by omega); omega
      have y2:0<=by_-cy:=by
        apply Classical.byContradiction; intro q
        have:=Int.mul_neg_of_pos_of_neg w (show by_-cy < 0 by omega); omega
      omega
    · have z1:(by_-ay)*(cx-ax)<=0:=Int.mul_nonpos_of_nonpos_of_nonneg (by omega) (by omega)
      have z2:(by_-ay)*(bx-cx)<=0:=Int.mul_nonpos_of_nonpos_of_nonneg (by omega) (by omega)
      have y1:cy-ay<=0:=by
        apply Classical.byContradiction; intro q
        have:=Int.mul_pos w (show 0 < cy-ay by omega); omega
      have y2:by_-cy<=0:=by
        apply Classical.byContradiction; intro q
        have:=Int.mul_pos w (show 0 < by_-cy by omega); omega
      omega
section
variable {n:Nat} {p:Nat->P2} {M:Int}
noncomputable def shX (M:Int) (p:Nat->P2) (i:Nat):Int:=M*(p i).1+(p i).2
noncomputable def shY (p:Nat->P2) (i:Nat):Int:=(p i).2
theorem Zfp {i j:Nat} (hb:∀ k,k < n->-M < 2*(p k).2/\2*(p k).2 < M) (hi':i < n) (hj:j < n):shX M p i < shX M p j ↔ lexlt (p i) (p j):=by
  have a:=hb i hi'
  have b:=hb j hj
  unfold shX lexlt
  rcases Int.lt_trichotomy (p i).1 (p j).1 with h | h | h
  · have:M<=M*((p j).1-(p i).1):=by
      have:=Int.mul_le_mul_of_nonneg_left (c:=M) (show 1<=(p j).1-(p i).1 by omega) (by omega)
      omega
    rw [Int.mul_sub] at this
    omega
  · rw [h]; omega
  · have:M<=M*((p i).1-(p j).1):=by
      have:=Int.mul_le_mul_of_nonneg_left (c:=M) (show 1<=(p i).1-(p j).1 by omega) (by omega)
      omega
    rw [Int.mul_sub] at this
    omega
theorem ZiD (i j k:Nat):cr (shX M p i) (shY p i) (shX M p j) (shY p j) (shX M p k) (shY p k)=M*turn (p i) (p j) (p k):=by
  unfold cr shX shY turn; grind
theorem ZlL {i j:Nat} (hb:∀ k,k < n->-M < 2*(p k).2/\2*(p k).2 < M) (g:Good n p) (hi':i < n) (hj:j < n) (e:shX M p i=shX M p j):i=j:=by
  have a:=Zfp (M:=M) hb hi' hj
  have b:=Zfp (M:=M) hb hj hi'
  unfold lexlt at a b
  exact g.inj i j hi' hj (Prod.ext (by omega) (by omega))
theorem Zfl (g:Good n p) (hM:0 < M) (hb:∀ k,k < n->-M < 2*(p k).2/\2*(p k).2 < M):Z3 n (shX M p) (shY p) where
  n3:=g.n3
  dx:=fun i j hi' hj e=>ZlL hb g hi' hj e
  off:=by
    intro i k hi' hk h1 h2 z
    unfold sd at z
    rw [ZiD] at z
    have z':turn (p (lo n (shX M p) i)) (p (hi n (shX M p) i)) (p k)=0:=by
      rcases Int.mul_eq_zero.mp z with q | q
      · omega
      · exact q
    have l1:=(Zfp hb (Ug hi') hk).mp h1
    have l2:=(Zfp hb hk (JR hi')).mp h2
    have o:=ZfM z' l1 l2
    have o':onS (p i) (p (nx n i)) (p k):=by
      rcases Jt (n:=n) (x:=shX M p) i with ⟨a,b⟩ | ⟨a,b⟩ <;> rw [a,b] at o
      · exact o
      · exact Zhk o
    have k1:k≠i:=by
      rintro rfl
      rcases Jt (n:=n) (x:=shX M p) k with ⟨a,b⟩ | ⟨a,b⟩ <;> rw [a] at h1 <;> rw [b] at h2 <;> omega
    have k2:k≠nx n i:=by
      rintro rfl
      rcases Jt (n:=n) (x:=shX M p) i with ⟨a,b⟩ | ⟨a,b⟩ <;> rw [a] at h1 <;> rw [b] at h2 <;> omega
    by_cases c1:i=nx n k
    · have hp:=Zc4 (n:=n) hk
      have e:=Zja (n:=n) hk
      by_cases c2:pv n k=nx n i
      · -- three corners
        have e3:k=nx n (nx n i):=by rw [<-c2,e]
        have:=g.turns i hi'
        rw [<-e3] at this
        exact this o'.1
      · refine g.apart i (pv n k) hi' hp ?_ ?_ c2 (.inr (.inl ?_))
        · rintro rfl; exact k2 e.symm
        · rw [e]; exact Ne.symm k1
        · rw [e]; exact o'
    · exact g.apart i k hi' hk (Ne.symm k1) c1 k2 (.inl o')
  apart:=by
    intro e f he hf h1 h2 h3
    have na:=g.apart e f he hf h1 h2 h3
    have key:∀ i k,k < n->(0 < sd n (shX M p) (shY p) i k->0 < turn (p (lo n (shX M p) i)) (p (hi n (shX M p) i)) (p k))/\(sd n (shX M p) (shY p) i k < 0->turn (p (lo n (shX M p) i)) (p (hi n (shX M p) i)) (p k) < 0):=by
      intro i k hk
      unfold sd
      rw [ZiD]
      constructor
      · intro z
        apply Classical.byContradiction; intro q
        have:=Int.mul_nonpos_of_nonneg_of_nonpos (Int.le_of_lt hM) (show turn (p (lo n (shX M p) i)) (p (hi n (shX M p) i)) (p k)<=0 by omega)
        omega
      · intro z
        apply Classical.byContradiction; intro q
        have:=Int.mul_nonneg (Int.le_of_lt hM) (show 0<=turn (p (lo n (shX M p) i)) (p (hi n (shX M p) i)) (p k) by omega)
        omega
    have flip:∀ a b c:P2,turn b a c=- turn a b c:=by intro a b c; unfold turn; grind
    have fin:turn (p (lo n (shX M p) e)) (p (hi n (shX M p) e)) (p (lo n (shX M p) f))*turn (p (lo n (shX M p) e)) (p (hi n (shX M p) e)) (p (hi n (shX M p) f)) < 0 ->
        turn (p (lo n (shX M p) f)) (p (hi n (shX M p) f)) (p (lo n (shX M p) e))*turn (p (lo n (shX M p) f)) (p (hi n (shX M p) f)) (p (hi n (shX M p) e)) < 0->False:=by
      intro a b
      refine na (.inr (.inr (.inr (.inr ?_))))
      rcases Jt (n:=n) (x:=shX M p) e with ⟨a1,a2⟩ | ⟨a1,a2⟩ <;> rcases Jt (n:=n) (x:=shX M p) f with ⟨b1,b2⟩ | ⟨b1,b2⟩ <;> rw [a1,a2,b1,b2] at a b
      · exact ⟨a,b⟩
      · rw [flip (p f),flip (p f)] at b
        exact ⟨by rw [Int.mul_comm]; exact a,by grind⟩
      · rw [flip (p e),flip (p e)] at a
        exact ⟨by grind,by rw [Int.mul_comm]; exact b⟩
      · rw [flip (p f),flip (p f)] at b
        rw [flip (p e),flip (p e)] at a
        exact ⟨by grind,by grind⟩
    constructor
    · rintro ⟨q1,q2,q3,q4⟩
      exact fin (Int.mul_neg_of_neg_of_pos ((key _ _ (Ug hf)).2 q1) ((key _ _ (JR hf)).1 q2)) (Int.mul_neg_of_pos_of_neg ((key _ _ (Ug he)).1 q3) ((key _ _ (JR he)).2 q4))
    · rintro ⟨q1,q2,q3,q4⟩
      exact fin (Int.mul_neg_of_pos_of_neg ((key _ _ (Ug hf)).1 q1) ((key _ _ (JR hf)).2 q2)) (Int.mul_neg_of_neg_of_pos ((key _ _ (Ug he)).2 q3) ((key _ _ (JR he)).1 q4))
end
theorem Zl1 {M z:Int} (hM:0 < M):0 < M*z ↔ 0 < z:=by
  constructor
  · intro h
    apply Classical.byContradiction; intro q
    have:=Int.mul_nonpos_of_nonneg_of_nonpos (Int.le_of_lt hM) (show z<=0 by omega)
    omega
  · exact fun h=>Int.mul_pos hM h
theorem area_turn {n:Nat} {p:Nat->P2} (g:Good n p) (hm:∀ i,0 < i->i < n->lexlt (p 0) (p i)):0 < area n p ↔ 0 < turn (p (n-1)) (p 0) (p 1):=by
  have n3:=g.n3
  obtain ⟨R,hR⟩:=Zds n (fun i=>(p i).2)
  have hb:∀ k,k < n->-(2*(R:Int)+1) < 2*(p k).2/\2*(p k).2 < 2*(R:Int)+1:=fun k hk=>by have:=hR k hk; omega
  have hM:0 < (2*(R:Int)+1):=by omega
  have s:=Zfl g hM hb
  have q:=ZgN s (fun i h0 hi'=>(Zfp hb (by omega) hi').mpr (hm i h0 hi'))
  rw [ZiD] at q
  have ea:A2 n (shX (2*(R:Int)+1) p) (shY p)=(2*(R:Int)+1)*area n p:=by
    unfold A2 area
    rw [<-ZcD]
    refine S_congr fun i _=>?_
    unfold shX shY; grind
  rw [ea] at q
  have sgn:0 < (2*(R:Int)+1)*turn (p (n-1)) (p 0) (p 1) ↔ 0 < turn (p (n-1)) (p 0) (p 1):=Zl1 hM
  simp only [sgn] at q
  by_cases c:0 < turn (p (n-1)) (p 0) (p 1)
  · rw [if_pos c] at q
    have:0 < (2*(R:Int)+1)*area n p:=by omega
    simp only [c,iff_true]
    exact (Zl1 hM).mp this
  · rw [if_neg c] at q
    have:¬ 0 < (2*(R:Int)+1)*area n p:=by omega
    simp only [c,iff_false]
    intro z
    exact this ((Zl1 hM).mpr z)
end Pg
namespace Pl
open PySem PySem.Spec PyProof.Rows L2 L3
theorem Vz {ps:List Pt} (hd:ps.Nodup) (hne:ps≠[]) {i j:Int} (h:cyc ps i=cyc ps j):i % (ps.length:Int)=j % (ps.length:Int):=by
  have hn:0 < (ps.length:Int):=by have:=List.length_pos_iff.mpr hne; omega
  have a1:=Int.emod_nonneg i (show (ps.length:Int)≠0 by omega)
  have a2:=Int.emod_lt_of_pos i hn
  have b1:=Int.emod_nonneg j (show (ps.length:Int)≠0 by omega)
  have b2:=Int.emod_lt_of_pos j hn
  rw [<-J1 ps i,<-J1 ps j] at h
  obtain ⟨a,ha⟩:∃ a:Nat,(a:Int)=i % (ps.length:Int):=⟨(i % (ps.length:Int)).toNat,by omega⟩
  obtain ⟨b,hb⟩:∃ b:Nat,(b:Int)=j % (ps.length:Int):=⟨(j % (ps.length:Int)).toNat,by omega⟩
  rw [<-ha,<-hb] at h ⊢
  rw [JZ (show a < ps.length by omega),JZ (show b < ps.length by omega)] at h
  have:=(List.getElem_inj hd).mp h
  omega
theorem Zbl {n i j k:Int} (hi0:0<=i) (hi:i < n) (hj0:0<=j) (hj:j < n) (h:(i+k) % n=(j+k) % n):i=j:=by
  have:=(Int.emod_add_cancel_right k).mp h
  rw [Int.emod_eq_of_lt hi0 hi,Int.emod_eq_of_lt hj0 hj] at this
  exact this
theorem VR (ps:List Pt) (m c:Int):cyc ps (m % (ps.length:Int)+c)=cyc ps (m+c):=by
  unfold cyc
  rw [Int.emod_add_emod]
noncomputable def rp (ps:List Pt) (k:Int) (i:Nat):Pt:=cyc ps ((i:Int)+k)
theorem Zfx {ps:List Pt} (k:Int) {i:Nat} (hi:i < ps.length):rp ps k (Pg.nx ps.length i)=cyc ps ((i:Int)+k+1):=by
  unfold rp Pg.nx
  split
  next h=>
    have:=Qk ps (((0:Nat):Int)+k)
    rw [<-this]
    congr 1
    omega
  next h=>congr 1; omega
theorem ZiI {ps:List Pt} (k:Int) {i:Nat} (hi:i < ps.length):rp ps k (Pg.nx ps.length (Pg.nx ps.length i))=cyc ps ((i:Int)+k+2):=by
  rw [Zfx k (Pg.nx_lt hi)]
  unfold Pg.nx
  split
  next h=>
    have:=Qk ps (((0:Nat):Int)+k+1)
    rw [<-this]
    congr 1
    omega
  next h=>congr 1; omega
theorem Zky (a b c:Pt):onZ a b c=true ↔ Pg.onS a b c:=by
  unfold onZ Pg.onS ZjE Pg.turn ZE
  simp only [Bool.and_eq_true,decide_eq_true_eq]
  rw [show (if b.1 < a.1 then b.1 else a.1)=min a.1 b.1 by omega,show (if b.1 > a.1 then b.1 else a.1)=max a.1 b.1 by omega,show (if b.2 < a.2 then b.2 else a.2)=min a.2 b.2 by omega,show (if b.2 > a.2 then b.2 else a.2)=max a.2 b.2 by omega]
  exact and_assoc
theorem U1 (a b c d:Pt):Zbm a b c d=true ↔ Pg.meet a b c d:=by
  unfold Zbm Pg.meet
  simp only [Bool.or_eq_true,Bool.and_eq_true,decide_eq_true_eq,Zky]
  unfold Pg.turn ZE
  constructor
  · rintro ((((h | h) | h) | h) | h)
    · exact .inl h
    · exact .inr (.inl h)
    · exact .inr (.inr (.inl h))
    · exact .inr (.inr (.inr (.inl h)))
    · exact .inr (.inr (.inr (.inr h)))
  · rintro (h | h | h | h | h)
    · exact .inl (.inl (.inl (.inl h)))
    · exact .inl (.inl (.inl (.inr h)))
    · exact .inl (.inl (.inr h))
    · exact .inl (.inr h)
    · exact .inr h
theorem WH {a b c d:Pt} (h:Pg.meet a b c d):Pg.meet c d a b:=by
  unfold Pg.meet at *
  rcases h with h | h | h | h | ⟨h1,h2⟩
  · exact .inr (.inr (.inl h))
  · exact .inr (.inr (.inr (.inl h)))
  · exact .inl h
  · exact .inr (.inl h)
  · exact .inr (.inr (.inr (.inr ⟨h2,h1⟩)))
theorem Zgg {ps:List Pt} (hne:ps≠[]) (h:QC ps=true) (m:Int):ZE (cyc ps m) (cyc ps (m+1)) (cyc ps (m+2))≠0:=by
  have hn:0 < (ps.length:Int):=by have:=List.length_pos_iff.mpr hne; omega
  have a1:=Int.emod_nonneg m (show (ps.length:Int)≠0 by omega)
  have a2:=Int.emod_lt_of_pos m hn
  unfold QC at h
  simp only [Bool.and_eq_true,decide_eq_true_eq,Bool.not_eq_true',decide_eq_false_iff_not] at h
  obtain ⟨⟨_,ht⟩,_⟩:=h
  intro z
  apply ht
  unfold Q9
  refine List.mem_map.mpr ⟨(m % (ps.length:Int)).toNat,List.mem_range.mpr (by omega),?_⟩
  rw [show (((m % (ps.length:Int)).toNat:Nat):Int)=m % (ps.length:Int) by omega,VR,VR,J1]
  exact z
theorem ZaJ {ps:List Pt} (h:QC ps=true) {a b:Nat} (hab:a+2<=b) (hb:b < ps.length) (hw:((b:Int)+1) % (ps.length:Int)≠a):¬ Pg.meet (cyc ps a) (cyc ps ((a:Int)+1)) (cyc ps b) (cyc ps ((b:Int)+1)):=by
  unfold QC at h
  simp only [Bool.and_eq_true,decide_eq_true_eq,Bool.not_eq_true',decide_eq_false_iff_not] at h
  obtain ⟨_,hB⟩:=h
  intro z
  have:badAny ps=true:=by
    unfold badAny
    rw [List.any_eq_true]
    refine ⟨a,List.mem_range.mpr (by omega),?_⟩
    unfold Zdo
    rw [List.any_eq_true]
    refine ⟨b-(a+2),List.mem_range.mpr (by omega),?_⟩
    rw [show a+2+(b-(a+2))=b by omega]
    unfold ZhM
    rw [Bool.and_eq_true]
    exact ⟨by simpa using hw,(U1 _ _ _ _).mpr z⟩
  rw [this] at hB
  cases hB
theorem Zjp {ps:List Pt} (h3:3<=ps.length) (h:QC ps=true) (k:Int):Pg.Good ps.length (rp ps k):=by
  have hne:ps≠[]:=fun z=>by rw [z] at h3; simp at h3
  have hd:ps.Nodup:=by
    unfold QC at h
    simp only [Bool.and_eq_true,decide_eq_true_eq] at h
    exact h.1.1
  have hn:0 < (ps.length:Int):=by omega
  refine ⟨h3,?_,?_,?_⟩
  · intro i j hi hj e
    have:=Vz hd hne e
    have:=Zbl (by omega) (by omega) (by omega) (by omega) this
    omega
  · intro i hi
    rw [Zfx k hi,ZiI k hi]
    exact Zgg hne h _
  · intro i j hi hj hij h1 h2
    rw [Zfx k hi,Zfx k hj]
    unfold rp
    have a1:=Int.emod_nonneg ((i:Int)+k) (show (ps.length:Int)≠0 by omega)
    have a2:=Int.emod_lt_of_pos ((i:Int)+k) hn
    have b1:=Int.emod_nonneg ((j:Int)+k) (show (ps.length:Int)≠0 by omega)
    have b2:=Int.emod_lt_of_pos ((j:Int)+k) hn
    have nab:((i:Int)+k) % (ps.length:Int)≠((j:Int)+k) % (ps.length:Int):=fun e=>by
      have:=Zbl (by omega) (by omega) (by omega) (by omega) e
      omega
    have nx1:(((j:Int)+k) % (ps.length:Int)+1) % (ps.length:Int)≠((i:Int)+k) % (ps.length:Int):=fun e=>by
      rw [Int.emod_add_emod] at e
      have e':((Pg.nx ps.length j:Nat)+k) % (ps.length:Int)=((i:Int)+k) % (ps.length:Int):=by
        rw [<-e]
        unfold Pg.nx
        split
        next q=>
          rw [show (j:Int)+k+1=((0:Nat):Int)+k+ps.length by omega,Int.add_emod_right]
        next q=>congr 1; omega
      have:=Zbl (by omega) (by have:=Pg.nx_lt hj; omega) (by omega) (by omega) e'
      omega
    have nx2:(((i:Int)+k) % (ps.length:Int)+1) % (ps.length:Int)≠((j:Int)+k) % (ps.length:Int):=fun e=>by
      rw [Int.emod_add_emod] at e
      have e':((Pg.nx ps.length i:Nat)+k) % (ps.length:Int)=((j:Int)+k) % (ps.length:Int):=by
        rw [<-e]
        unfold Pg.nx
        split
        next q=>
          rw [show (i:Int)+k+1=((0:Nat):Int)+k+ps.length by omega,Int.add_emod_right]
        next q=>congr 1; omega
      have:=Zbl (by omega) (by have:=Pg.nx_lt hi; omega) (by omega) (by omega) e'
      omega
    rw [<-VR ps ((i:Int)+k),<-VR ps ((j:Int)+k),<-J1 ps ((i:Int)+k),<-J1 ps ((j:Int)+k)]
    obtain ⟨a,ha⟩:∃ a:Nat,(a:Int)=((i:Int)+k) % (ps.length:Int):=⟨(((i:Int)+k) % (ps.length:Int)).toNat,by omega⟩
    obtain ⟨b,hb⟩:∃ b:Nat,(b:Int)=((j:Int)+k) % (ps.length:Int):=⟨(((j:Int)+k) % (ps.length:Int)).toNat,by omega⟩
    rw [<-ha] at a2 nab nx1 nx2 ⊢
    rw [<-hb] at b2 nab nx1 nx2 ⊢
    have lt1:∀ {m c:Nat},m+1=c->c < ps.length->((m:Int)+1) % (ps.length:Int)=c:=fun {m c} e hc=>by
      rw [Int.emod_eq_of_lt (by omega) (by omega)]; omega
    by_cases hlt:a < b
    · have:a+1≠b:=fun e=>nx2 (lt1 e (by omega))
      exact ZaJ h (by omega) (by omega) nx1
    · have:b+1≠a:=fun e=>nx1 (lt1 e (by omega))
      exact fun z=>ZaJ h (a:=b) (b:=a) (by omega) (by omega) nx2 (WH z)
theorem Zf0 (p q:Pt):ltZ p q=true ↔ Pg.lexlt p q:=by unfold ltZ Pg.lexlt; simp
theorem ZbC:∀ (xs:List Pt) (b:Pt),∀ x∈b::xs,¬ Pg.lexlt x (ZbD b xs)
  | [],b,x,h=>by
    rw [List.mem_singleton] at h; subst h
    unfold ZbD Pg.lexlt; omega
  | y::ys,b,x,h=>by
    unfold ZbD
    cases hl:ltZ y b with
    | true=>
      have ih:=ZbC ys y
      simp only [if_true]
      rcases List.mem_cons.mp h with rfl | h
      · have i0:=ih y List.mem_cons_self
        have l:=(Zf0 _ _).mp hl
        unfold Pg.lexlt at *; omega
      · exact ih x h
    | false=>
      have ih:=ZbC ys b
      simp only [Bool.false_eq_true,if_false]
      rcases List.mem_cons.mp h with rfl | h
      · exact ih x List.mem_cons_self
      · rcases List.mem_cons.mp h with rfl | h
        · have i0:=ih b List.mem_cons_self
          have l:¬ Pg.lexlt x b:=fun z=>by rw [(Zf0 _ _).mpr z] at hl; cases hl
          unfold Pg.lexlt at *; omega
        · exact ih x (List.mem_cons_of_mem _ h)
theorem Zjc {ps:List Pt} (hne:ps≠[]):∀ x∈ps,¬ Pg.lexlt x (ZcR ps):=by
  cases ps with
  | nil=>exact absurd rfl hne
  | cons b xs=>exact ZbC xs b
theorem ZkK {a b:Pt} (h1:¬ Pg.lexlt a b) (h2:a≠b):Pg.lexlt b a:=by
  have:a.1≠b.1\/a.2≠b.2:=by
    apply Classical.byContradiction; intro z
    apply h2
    exact Prod.ext (by omega) (by omega)
  unfold Pg.lexlt at *
  omega
theorem Zj1 (f:Nat->Int):∀ (n:Nat),((List.range n).map f).sum=Pg.S n f
  | 0=>rfl
  | n+1=>by
    rw [List.range_succ,List.map_append,List.sum_append,Zj1 f n]
    simp [Pg.S]
theorem Zd9 (g:Int->Int):∀ (n:Nat),Pg.S n (fun i=>g ((i:Int)+1))+g 0=Pg.S n (fun i=>g i)+g n
  | 0=>rfl
  | n+1=>by
    have ih:=Zd9 g n
    simp only [Pg.S]
    have:((n+1:Nat):Int)=(n:Int)+1:=by omega
    rw [this]
    omega
theorem ZgP (n:Nat):∀ (k:Nat) (g:Int->Int),(∀ i,g (i+n)=g i)->Pg.S n (fun i=>g ((i:Int)+k))=Pg.S n (fun i=>g i)
  | 0,g,h=>Pg.S_congr fun j _=>by simp
  | k+1,g,h=>by
    have ih:=ZgP n k (fun i=>g (i+1)) fun i=>by
      show g (i+n+1)=g (i+1)
      rw [show i+(n:Int)+1=i+1+n by omega,h]
    have s:=Zd9 g n
    have z:=h 0
    rw [Int.zero_add] at z
    have e:Pg.S n (fun i=>g ((i:Int)+((k+1:Nat):Int)))=Pg.S n (fun i=>g ((i:Int)+k+1)):=Pg.S_congr fun j _=>by congr 1
    rw [e]
    have ih':Pg.S n (fun i=>g ((i:Int)+k+1))=Pg.S n (fun i=>g ((i:Int)+1)):=ih
    rw [ih']
    omega
theorem ZjI (ps:List Pt):Zak ps=Pg.S ps.length (fun (j:Nat)=>Zgz (QS ps (j:Int))):=by
  have e:=VE ps ps 0 rfl
  unfold Zak
  rw [W1]
  have e':Wo ps ((0:Nat):Int) ps=Wo ps 0 ps:=rfl
  rw [<-e',e,List.map_map,<-Zj1]
  congr 1
  apply List.map_congr_left
  intro j _
  simp only [Function.comp,Nat.zero_add]
theorem ZjH {ps:List Pt} (k:Nat):Pg.area ps.length (rp ps k)=Zak ps:=by
  rw [ZjI,<-ZgP ps.length k (fun i=>Zgz (QS ps i)) (fun i=>by
    unfold QS
    rw [Qk,show i+(ps.length:Int)+1=i+1+ps.length by omega,Qk])]
  unfold Pg.area
  refine Pg.S_congr fun i hi=>?_
  rw [Zfx _ hi]
  rfl
end Pl
namespace Pg
noncomputable def cx (u v:P2):Int:=u.1*v.2-u.2*v.1
noncomputable def vh (u:P2):Prop:=0 < u.1\/(u.1=0/\0 < u.2)
noncomputable instance (u:P2):Decidable (vh u):=by unfold vh; infer_instance
noncomputable def hc (u v:P2):Int:=if ¬ vh u/\vh v/\0 < cx u v then 1 else if vh u/\¬ vh v/\cx u v < 0 then -1 else 0
section
variable {n:Nat} {q:Nat->P2}
end
section
variable (n:Nat) (x y:Nat->Int)
end
section
variable {n:Nat} {x y:Nat->Int}
end
section
variable {n:Nat} {p:Nat->P2} {M:Int}
end
noncomputable instance (a b:P2):Decidable (lexlt a b):=by unfold lexlt; infer_instance
section
variable {a0 b0:Int} {A N:Nat} {l h:P2}
end
noncomputable def Zij (s e:P2) (a b:Int):Prop:=if e.1 < s.1 then (e.1<=a/\a < s.1)/\0 < turn e s (a,b) else (s.1<=a/\a < e.1)/\0 < turn s e (a,b)
noncomputable instance (s e:P2) (a b:Int):Decidable (Zij s e a b):=by unfold Zij; infer_instance
section
variable {n:Nat} {p:Nat->P2} {M:Int}
end
end Pg
namespace Pl
open PySem PySem.Spec PyProof.Rows L2 L3
noncomputable def gr (t:Int) (p:Pt):Pt:=(t*p.1,t*p.2)
end Pl
namespace Hu
open Pg (P2 turn lexlt)
noncomputable def sub (b a:P2):P2:=(b.1-a.1,b.2-a.2)
noncomputable def Zmy:List P2->P2->List P2
  | b::a::r,s=>if 0 < turn a b s then b::a::r else Zmy (a::r) s
  | w,_=>w
noncomputable def stk:List P2->List P2->List P2
  | w,[]=>w
  | w,s::r=>stk (s::Zmy w s) r
noncomputable def above (q:P2):List P2->Prop
  | b::a::r=>0<=turn a b q/\above q (a::r)
  | _=>True
end Hu
namespace Pl
open PySem PySem.Spec PyProof.Rows L2 L3
set_option maxHeartbeats 4000000
noncomputable def Zjl (x:Int):Bool:=decide (-100<=x)&&decide (x<=100)
noncomputable def plB:D->Bool
  | .int x=>Zjl x
  | _=>false
noncomputable def spB:D->Bool
  | .tup [a,b]=>plB a&&plB b
  | _=>false
theorem Zit (d:D):Uc [d]=some (.bl (match d with | .int _=>true | _=>false)):=by
  cases d <;> rfl
theorem ZiU (d:D):Y7 [d]=some (.bl (plB d)):=by
  have w:=Zit d
  cases d with
  | int x=>
    simp -implicitDefEqProofs [Y7,Zo,Vw,w,plB,Zjl]
    by_cases h:-100<=x
    · simp -implicitDefEqProofs [h]
    · simp -implicitDefEqProofs [h]
  | _=>simp -implicitDefEqProofs [Y7,Zo,Vw,w,plB]
theorem Zhn (d:D):Yy [d,.int (-100),.int 100]=some (.bl (plB d)):=by
  cases d with
  | int x=>
    have i1:UU .int (.int x)=some (.bl true):=rfl
    have i2:UU .bool (.int x)=some (.bl false):=rfl
    simp -implicitDefEqProofs [Yy,Zo,U6,plB,Zjl,i1,i2]
    by_cases h:-100<=x
    · simp -implicitDefEqProofs [h]
    · simp -implicitDefEqProofs [h]
  | _=>rfl
theorem Zf8 (d:D):Yg [d]=some (.bl (spB d)):=by
  cases d with
  | tup ds=>
    match ds with
    | []=>rfl
    | [a]=>rfl
    | [a,b]=>
      have i1:UU .tuple (.tup [a,b])=some (.bl true):=rfl
      simp -implicitDefEqProofs [Yg,Zo,WM,ZiU,spB,i1]
      cases plB a <;> simp -implicitDefEqProofs
    | a::b::c::t=>
      have i1:UU .tuple (.tup (a::b::c::t))=some (.bl true):=rfl
      have n2:¬ ((t.length:Int)+1+1+1=2):=by omega
      simp -implicitDefEqProofs [Yg,Zo,WM,spB,i1,n2]
  | _=>rfl
theorem ZaC (d:D):Z5 [d]=some (.bl (spB d)):=by
  cases d with
  | tup ds=>
    match ds with
    | []=>rfl
    | [a]=>rfl
    | [a,b]=>
      have i1:UU .tuple (.tup [a,b])=some (.bl true):=rfl
      simp -implicitDefEqProofs [Z5,Zo,Q3,Zhn,spB,i1]
      cases plB a <;> simp -implicitDefEqProofs
    | a::b::c::t=>
      have i1:UU .tuple (.tup (a::b::c::t))=some (.bl true):=rfl
      have n2:¬ ((t.length:Int)+1+1+1=2):=by omega
      simp -implicitDefEqProofs [Z5,Zo,Q3,spB,i1,n2]
  | _=>rfl
theorem Zj4 {d:D} (h:spB d=true):∃ p:Pt,d=pD p/\Rg 100 p:=by
  unfold spB at h
  split at h
  · rename_i a b
    obtain ⟨h1,h2⟩:=Bool.and_eq_true_iff.mp h
    unfold plB at h1 h2
    split at h1
    · split at h2
      · rename_i x _ y
        unfold Zjl at h1 h2
        simp at h1 h2
        exact ⟨(x,y),rfl,h1,h2⟩
      · cases h2
    · cases h1
  · cases h
theorem Zfj:∀ {ds:List D},(∀ d∈ds,spB d=true)->∃ ps:List Pt,ds=ps.map pD/\All (Rg 100) ps
  | [],_=>⟨[],rfl,fun _ h=>by simp at h⟩
  | d::ds,h=>by
    obtain ⟨p,rfl,hp⟩:=Zj4 (h d List.mem_cons_self)
    obtain ⟨ps,rfl,hps⟩:=Zfj fun x hx=>h x (List.mem_cons_of_mem _ hx)
    exact ⟨p::ps,rfl,fun q hq=>by
      rcases List.mem_cons.mp hq with rfl | hq
      · exact hp
      · exact hps q hq⟩
theorem ZhX {p:Pt} (h:Rg 100 p):spB (pD p)=true:=by
  obtain ⟨⟨a,b⟩,c,d⟩:=h
  show (Zjl p.1&&Zjl p.2)=true
  unfold Zjl
  simp [a,b,c,d]
theorem Zkd {p:Pt} (h:Rg 100 p):Sm p:=by
  obtain ⟨⟨a,b⟩,c,d⟩:=h
  exact ⟨⟨by omega,by omega⟩,by omega,by omega⟩
theorem UV {a b c:Pt} (ha:Sm a) (hb:Sm b) (hc:Sm c):Yx [pD a,pD b,pD c]=some (.bl (decide (ZE a b c < 0))):=by
  simp -implicitDefEqProofs [Yx,Zo,U5,U7 ha hb hc]
theorem ZfJ {a b c d:Pt} (ha:Sm a) (hb:Sm b) (hc:Sm c) (hd:Sm d):Ys [pD a,pD b,pD c,pD d]=some (.bl (decide (ZE a b c*ZE a b d < 0))):=by
  have e1:=Q5 ha hb hc
  have e2:=Q5 ha hb hd
  have e3:=UV ha hb hc
  have e4:=UV ha hb hd
  have key:∀ x y:Int,decide (x*y < 0)=(if 0 < x then decide (y < 0) else (decide (x < 0)&&decide (0 < y))):=by
    intro x y
    by_cases h:0 < x
    · rw [if_pos h]
      refine decide_eq_decide.mpr ⟨fun q=>?_,fun q=>Int.mul_neg_of_pos_of_neg h q⟩
      by_cases hy:y < 0
      · exact hy
      · have:=Int.mul_nonneg (Int.le_of_lt h) (Int.not_lt.mp hy); omega
    · rw [if_neg h]
      by_cases h2:x < 0
      · simp only [h2,decide_true,Bool.true_and]
        refine decide_eq_decide.mpr ⟨fun q=>?_,fun q=>Int.mul_neg_of_neg_of_pos h2 q⟩
        by_cases hy:0 < y
        · exact hy
        · have:=Int.mul_nonneg_of_nonpos_of_nonpos (Int.le_of_lt h2) (Int.not_lt.mp hy); omega
      · have:x=0:=by omega
        subst this
        simp
  rw [key]
  by_cases h:0 < ZE a b c
  · simp -implicitDefEqProofs [Ys,Zo,JS,e1,e2,e3,e4,h]
  · simp -implicitDefEqProofs [Ys,Zo,JS,e1,e2,e3,e4,h]
    by_cases h2:ZE a b c < 0
    · simp -implicitDefEqProofs [h2]
    · simp -implicitDefEqProofs [h2]
theorem ZiB {s t:Pt×Pt} (hs:SmS s) (ht:SmS t):ZD [sD s,sD t]=some (.bl (Zbm s.1 s.2 t.1 t.2)):=by
  obtain ⟨a,b⟩:=hs
  obtain ⟨c,d⟩:=ht
  have o1:=Jr a b c
  have o2:=Jr a b d
  have o3:=Jr c d a
  have o4:=Jr c d b
  have p1:=ZfJ a b c d
  have p2:=ZfJ c d a b
  have es:sD (s.1,s.2)=sD s:=rfl
  have et:sD (t.1,t.2)=sD t:=rfl
  rw [es] at o1 o2
  rw [et] at o3 o4
  unfold Zbm
  cases h1:onZ s.1 s.2 t.1
  · cases h2:onZ s.1 s.2 t.2
    · cases h3:onZ t.1 t.2 s.1
      · cases h4:onZ t.1 t.2 s.2
        · simp -implicitDefEqProofs [ZD,Zo,YS,o1,o2,o3,o4,p1,p2,h1,h2,h3,h4]
          by_cases h5:ZE s.1 s.2 t.1*ZE s.1 s.2 t.2 < 0
          · simp -implicitDefEqProofs [h5]
          · simp -implicitDefEqProofs [h5]
        · simp -implicitDefEqProofs [ZD,Zo,YS,o1,o2,o3,o4,h1,h2,h3,h4]
      · simp -implicitDefEqProofs [ZD,Zo,YS,o1,o2,o3,h1,h2,h3]
    · simp -implicitDefEqProofs [ZD,Zo,YS,o1,o2,h1,h2]
  · simp -implicitDefEqProofs [ZD,Zo,YS,o1,h1]
noncomputable def comB (s t:Pt×Pt):Bool:=(decide (s.1=t.1)||decide (s.1=t.2))||(decide (s.2=t.1)||decide (s.2=t.2))
theorem Zia (p a b:Pt):Zih (pD p) (sD (a,b))=some (.bl (decide (p=a)||decide (p=b))):=by
  have h1:okD (sD (a,b))=true:=(Zi4 fun d hd=>by
    rcases List.mem_cons.mp hd with rfl | hd
    · exact VH a
    · rcases List.mem_cons.mp hd with rfl | hd
      · exact VH b
      · cases hd).1
  have h2:okD (pD p)=true:=(VH p).1
  show Option.map D.bl (if (okD (pD p)&&okD (sD (a,b)))=true then some ([pD a,pD b].any fun y=>deq y (pD p)) else none)=_
  rw [h1,h2,if_pos (by decide)]
  show some (D.bl (deq (pD a) (pD p)||(deq (pD b) (pD p)||false)))=_
  rw [Zco,Zco,Bool.or_false,decide_eq_decide.mpr (eq_comm (a:=a) (b:=p)),decide_eq_decide.mpr (eq_comm (a:=b) (b:=p))]
theorem Zmj (s t:Pt×Pt):Zq [sD s,sD t]=some (.bl (comB s t)):=by
  have e1:=Zia s.1 t.1 t.2
  have e2:=Zia s.2 t.1 t.2
  have et:sD (t.1,t.2)=sD t:=rfl
  rw [et] at e1 e2
  unfold comB
  simp -implicitDefEqProofs [Zq,Zo,Qm,e1,e2]
  cases (decide (s.1=t.1)||decide (s.1=t.2)) <;> simp -implicitDefEqProofs
noncomputable def Jj (s t:Pt×Pt):Bool:=!comB s t&&Zbm s.1 s.2 t.1 t.2
noncomputable def apB:DS:=(Wi (QI (dSl (Zd 1) Qq (Qp (Zd 2)))) (ZQ 4) (Yb (QR (YE (Zp (dFn 2 Zq (Zc (Zd 3) (Zc (Zd 4) Zm))))) (Zp (dFn 2 ZD (Zc (Zd 3) (Zc (Zd 4) Zm))))) (ZR (Zg (.bl false))) Zx))
theorem ZjA {s t:Pt×Pt} (hs:SmS s) (ht:SmS t) (a b c:Sl):(QR (YE (Zp (dFn 2 Zq (Zc (Zd 3) (Zc (Zd 4) Zm))))) (Zp (dFn 2 ZD (Zc (Zd 3) (Zc (Zd 4) Zm))))) [a,b,c,.val (sD s),.val (sD t)]=some (Jj s t):=by
  have e1:=Zmj s t
  have e2:=ZiB hs ht
  unfold Jj
  cases h:comB s t
  · simp -implicitDefEqProofs [e1,e2,h]
  · simp -implicitDefEqProofs [e1,h]
theorem ZhN {ss:List (Pt×Pt)} (hl:ss.length<=1000) (hss:∀ s∈ss,SmS s) (k:Nat) (hk:k < ss.length) {s:Pt×Pt} (hs:SmS s) (a t4:Sl) :
    ((ss.take k).any (Jj s)=true->apB [a,.val (.lst (ss.map sD)),.val (.int k),.val (sD s),t4]=some (.rt (.bl false))) /\
    ((ss.take k).any (Jj s)=false->∃ t4',apB [a,.val (.lst (ss.map sD)),.val (.int k),.val (sD s),t4]=some (.nx [a,.val (.lst (ss.map sD)),.val (.int k),.val (sD s),t4'])):=by
  have lp:∀ (ys:List (Pt×Pt)) (t4:Sl),(∀ t∈ys,SmS t) ->
      (ys.any (Jj s)=true->Jf (ZQ 4) (Yb (QR (YE (Zp (dFn 2 Zq (Zc (Zd 3) (Zc (Zd 4) Zm))))) (Zp (dFn 2 ZD (Zc (Zd 3) (Zc (Zd 4) Zm))))) (ZR (Zg (.bl false))) Zx) (ys.map sD) [a,.val (.lst (ss.map sD)),.val (.int k),.val (sD s),t4]=some (.rt (.bl false))) /\
      (ys.any (Jj s)=false->∃ t4',Jf (ZQ 4) (Yb (QR (YE (Zp (dFn 2 Zq (Zc (Zd 3) (Zc (Zd 4) Zm))))) (Zp (dFn 2 ZD (Zc (Zd 3) (Zc (Zd 4) Zm))))) (ZR (Zg (.bl false))) Zx) (ys.map sD) [a,.val (.lst (ss.map sD)),.val (.int k),.val (sD s),t4]=some (.nx [a,.val (.lst (ss.map sD)),.val (.int k),.val (sD s),t4'])):=by
    intro ys
    induction ys with
    | nil=>exact fun t4 _=>⟨fun z=>by simp at z,fun _=>⟨t4,rfl⟩⟩
    | cons t ys ih=>
      intro t4 hys
      have ht:=hys t List.mem_cons_self
      have e:=ZjA hs ht a (.val (.lst (ss.map sD))) (.val (.int k))
      have ih:=ih (.val (sD t)) fun x hx=>hys x (List.mem_cons_of_mem _ hx)
      cases h:Jj s t
      · have st:Jf (ZQ 4) (Yb (QR (YE (Zp (dFn 2 Zq (Zc (Zd 3) (Zc (Zd 4) Zm))))) (Zp (dFn 2 ZD (Zc (Zd 3) (Zc (Zd 4) Zm))))) (ZR (Zg (.bl false))) Zx) ((t::ys).map sD) [a,.val (.lst (ss.map sD)),.val (.int k),.val (sD s),t4]=Jf (ZQ 4) (Yb (QR (YE (Zp (dFn 2 Zq (Zc (Zd 3) (Zc (Zd 4) Zm))))) (Zp (dFn 2 ZD (Zc (Zd 3) (Zc (Zd 4) Zm))))) (ZR (Zg (.bl false))) Zx) (ys.map sD) [a,.val (.lst (ss.map sD)),.val (.int k),.val (sD s),.val (sD t)]:=by
          rw [List.map_cons,Jf]
          show (Option.bind (some [a,.val (.lst (ss.map sD)),.val (.int k),.val (sD s),.val (sD t)]) _)=_
          rw [Option.bind_some,Ji,e,h]
          rfl
        rw [st]
        refine ⟨fun z=>ih.1 ?_,fun z=>ih.2 ?_⟩
        · simpa [h] using z
        · simpa [h] using z
      · refine ⟨fun _=>?_,fun z=>by simp [h] at z⟩
        rw [List.map_cons,Jf]
        show (Option.bind (some [a,.val (.lst (ss.map sD)),.val (.int k),.val (sD s),.val (sD t)]) _)=_
        rw [Option.bind_some,Ji,e,h]
        rfl
  have it:QI (dSl (Zd 1) Qq (Qp (Zd 2))) [a,.val (.lst (ss.map sD)),.val (.int k),.val (sD s),t4]=some ((ss.take k).map sD):=by
    have:Zgu none (some (k:Int)) (.lst (ss.map sD))=some (.lst ((ss.take k).map sD)):=by
      show some (D.lst (cutD (ss.map sD) none (some (k:Int))))=_
      rw [Zii _ _ (by simp; omega),List.map_take]
    simp -implicitDefEqProofs [this]
  unfold apB
  rw [Va,it,Option.bind_some]
  exact lp (ss.take k) t4 fun t ht=>hss t (List.mem_of_mem_take ht)
noncomputable def YC (ss:List (Pt×Pt)) (j:Nat):Bool:=match ss[j]? with | some s=>(ss.take j).any (Jj s) | none=>false
theorem ZjK {ss:List (Pt×Pt)} (hl:ss.length<=1000) (hss:∀ s∈ss,SmS s) (a:Sl):∀ (ys:List (Pt×Pt)) (k:Nat) (t2 t3 t4:Sl),ss.drop k=ys ->
    ((∃ j,k<=j/\YC ss j=true)->Jf (Yz 2 3) apB (YN k (ys.map sD)) [a,.val (.lst (ss.map sD)),t2,t3,t4]=some (.rt (.bl false))) /\
    ((¬ ∃ j,k<=j/\YC ss j=true)->∃ u2 u3 u4,Jf (Yz 2 3) apB (YN k (ys.map sD)) [a,.val (.lst (ss.map sD)),t2,t3,t4]=some (.nx [a,.val (.lst (ss.map sD)),u2,u3,u4])):=by
  intro ys
  induction ys with
  | nil=>
    intro k t2 t3 t4 hd
    have hk:ss.length<=k:=List.drop_eq_nil_iff.mp hd
    refine ⟨fun zq=>?_,fun _=>⟨t2,t3,t4,rfl⟩⟩
    obtain ⟨j,hj,hc⟩:=zq
    unfold YC at hc
    rw [List.getElem?_eq_none (by omega)] at hc
    cases hc
  | cons s ys ih=>
    intro k t2 t3 t4 hd
    have hk:k < ss.length:=by
      by_cases h:k < ss.length
      · exact h
      · rw [List.drop_eq_nil_iff.mpr (by omega)] at hd; cases hd
    have hg:ss[k]?=some s:=by
      have:=congrArg (·[0]?) hd
      simpa using this
    have hd':ss.drop (k+1)=ys:=by
      rw [<-List.drop_drop,hd]; rfl
    have hs:SmS s:=hss s (List.mem_of_getElem? hg)
    have inn:=ZhN hl hss k hk hs a t4
    have hca:YC ss k=(ss.take k).any (Jj s):=by unfold YC; rw [hg]
    have st:Jf (Yz 2 3) apB (YN k ((s::ys).map sD)) [a,.val (.lst (ss.map sD)),t2,t3,t4]=(match apB [a,.val (.lst (ss.map sD)),.val (.int k),.val (sD s),t4] with
      | some (.nx ρ2)=>Jf (Yz 2 3) apB (YN (k+1) (ys.map sD)) ρ2
      | some (.ct ρ2)=>Jf (Yz 2 3) apB (YN (k+1) (ys.map sD)) ρ2
      | some (.bk ρ2)=>some (.nx ρ2)
      | r=>r):=by
      simp only [List.map_cons,YN,Jf,ZbF,List.set_cons_zero,List.set_cons_succ,Option.bind_some] <;> rfl
    rw [st]
    cases h:(ss.take k).any (Jj s)
    · obtain ⟨t4',e⟩:=inn.2 h
      rw [e]
      have ih:=ih (k+1) (.val (.int k)) (.val (sD s)) t4' hd'
      have same:(∃ j,k<=j/\YC ss j=true) ↔ (∃ j,k+1<=j/\YC ss j=true):=by
        refine ⟨fun ⟨j,hj,hc⟩=>⟨j,?_,hc⟩,fun ⟨j,hj,hc⟩=>⟨j,by omega,hc⟩⟩
        by_cases hjk:j=k
        · subst hjk; rw [hca,h] at hc; cases hc
        · omega
      exact ⟨fun z=>ih.1 (same.mp z),fun z=>ih.2 fun q=>z (same.mpr q)⟩
    · rw [inn.1 h]
      exact ⟨fun _=>rfl,fun z=>absurd ⟨k,Nat.le_refl _,by rw [hca,h]⟩ z⟩
theorem ZjJ {ps:List Pt} (hl:ps.length<=1000) (hps:All Sm ps) [Decidable (∃ j,YC (YF ps) j=true)]:Z2 [.tup (ps.map pD)]=some (.bl (!decide (∃ j,YC (YF ps) j=true))):=by
  have lp:=ZjK (ss:=YF ps) (by rw [J8]; exact hl) (Zfo hps) (.val (.tup (ps.map pD))) (YF ps) 0 .no .no .no rfl
  have e1:Ya 1 (dFn 1 Qt (Zc (Zd 0) Zm)) [.val (.tup (ps.map pD)),.no,.no,.no,.no]=some (.nx [.val (.tup (ps.map pD)),.val (.lst ((YF ps).map sD)),.no,.no,.no]):=by
    simp -implicitDefEqProofs [Zcl hl]
  unfold Z2 Zo QL
  show (Zu _ (Zu _ _) [.val (.tup (ps.map pD)),.no,.no,.no,.no]).bind _=_
  rw [ZB,e1]
  show (Zu (Wi (Jd (Zd 1)) (Yz 2 3) apB) _ [.val (.tup (ps.map pD)),.val (.lst ((YF ps).map sD)),.no,.no,.no]).bind _=_
  have it:Jd (Zd 1) [.val (.tup (ps.map pD)),.val (.lst ((YF ps).map sD)),.no,.no,.no]=some (YN 0 ((YF ps).map sD)):=rfl
  rw [ZB,Va,it,Option.bind_some]
  by_cases h:∃ j,YC (YF ps) j=true
  · rw [lp.1 (by obtain ⟨j,hj⟩:=h; exact ⟨j,Nat.zero_le _,hj⟩)]
    simp [h]
  · obtain ⟨a,b,c,e⟩:=lp.2 fun ⟨j,_,hj⟩=>h ⟨j,hj⟩
    rw [e]
    simp [h]
theorem Vj {ps:List Pt} {k:Nat} (h:k < ps.length):(YF ps)[k]?=some (QS ps ((k:Int)-1)):=by
  unfold YF
  rw [List.getElem?_map,List.getElem?_range h]
  rfl
theorem clashAt_iff {ps:List Pt} {j:Nat}:YC (YF ps) j=true ↔ ∃ i,i < j/\j < ps.length/\Jj (QS ps ((j:Int)-1)) (QS ps ((i:Int)-1))=true:=by
  by_cases h:j < ps.length
  · unfold YC
    rw [Vj h]
    simp only [List.any_eq_true]
    constructor
    · rintro ⟨t,ht,q⟩
      obtain ⟨i,hi,e⟩:=List.getElem_of_mem ht
      rw [List.length_take,J8] at hi
      have hij:i < j:=by omega
      refine ⟨i,hij,h,?_⟩
      rw [List.getElem_take] at e
      have g:=Vj (ps:=ps) (k:=i) (by omega)
      rw [List.getElem?_eq_getElem (by rw [J8]; omega),e] at g
      rw [<-Option.some.inj g]; exact q
    · rintro ⟨i,hi,_,q⟩
      refine ⟨_,?_,q⟩
      have g:=Vj (ps:=ps) (k:=i) (by omega)
      have:((YF ps).take j)[i]?=some (QS ps ((i:Int)-1)):=by rw [List.getElem?_take_of_lt hi]; exact g
      exact List.mem_of_getElem? this
  · unfold YC
    rw [List.getElem?_eq_none (by rw [J8]; omega)]
    exact ⟨fun z=>(by cases z),fun ⟨_,_,z,_⟩=>absurd z h⟩
theorem ZgB {ps:List Pt} (h3:3<=ps.length) (hd:ps.Nodup) {i k:Nat} (hik:i < k) (hk:k < ps.length):comB (QS ps ((k:Int)-1)) (QS ps ((i:Int)-1))=true ↔ (k=i+1\/(i=0/\k+1=ps.length)):=by
  have hne:ps≠[]:=fun z=>by rw [z] at h3; simp at h3
  have n0:(0:Int) < ps.length:=by omega
  have mk:∀ m:Int,0<=m->m < ps.length->m % (ps.length:Int)=m:=fun m a b=>Int.emod_eq_of_lt a b
  have mn:∀ m:Int,m=-1->m % (ps.length:Int)=ps.length-1:=fun m e=>by
    subst e
    rw [<-Int.add_emod_right,mk _ (by omega) (by omega)]; omega
  unfold comB QS
  simp only [Bool.or_eq_true,decide_eq_true_eq]
  rw [show (k:Int)-1+1=k by omega,show (i:Int)-1+1=i by omega]
  constructor
  · rintro ((z | z) | (z | z))
    · have:=Vz hd hne z
      rw [mk ((k:Int)-1) (by omega) (by omega)] at this
      by_cases h0:i=0
      · subst h0; rw [mn _ (by omega)] at this; omega
      · rw [mk _ (by omega) (by omega)] at this; omega
    · have:=Vz hd hne z
      rw [mk ((k:Int)-1) (by omega) (by omega),mk _ (by omega) (by omega)] at this
      left; omega
    · have:=Vz hd hne z
      rw [mk (k:Int) (by omega) (by omega)] at this
      by_cases h0:i=0
      · subst h0; rw [mn _ (by omega)] at this; right; omega
      · rw [mk _ (by omega) (by omega)] at this; omega
    · have:=Vz hd hne z
      rw [mk (k:Int) (by omega) (by omega),mk _ (by omega) (by omega)] at this
      omega
  · rintro (rfl | ⟨rfl,h⟩)
    · left; right
      rw [show ((i+1:Nat):Int)-1=i by omega]
    · right; left
      rw [<-Qk ps (((0:Nat):Int)-1)]
      congr 1; omega
theorem Zct {ps : List Pt} (h3 : 3 <= ps.length) (hd : ps.Nodup) : (∃ j, YC (YF ps) j = true) ↔ badAny ps = true := by
  have n0 : (0 : Int) < ps.length := by omega
  have mk : ∀ m : Int, 0 <= m -> m < ps.length -> m % (ps.length : Int) = m := fun m a b => Int.emod_eq_of_lt a b
  have badI : badAny ps = true ↔ ∃ a b : Nat, a + 2 <= b /\ b < ps.length /\ ((b : Int) + 1) % (ps.length : Int) ≠ a /\ Pg.meet (cyc ps a) (cyc ps ((a : Int) + 1)) (cyc ps b) (cyc ps ((b : Int) + 1)) := by
    unfold badAny Zdo
    simp only [List.any_eq_true, List.mem_range]
    constructor
    · rintro ⟨a, ha, j, hj, q⟩
      unfold ZhM at q
      rw [Bool.and_eq_true] at q
      exact ⟨a, a + 2 + j, by omega, by omega, by simpa using q.1, (U1 _ _ _ _).mp q.2⟩
    · rintro ⟨a, b, h1, h2, h4, h5⟩
      refine ⟨a, by omega, b - (a + 2), by omega, ?_⟩
      rw [show a + 2 + (b - (a + 2)) = b by omega]
      unfold ZhM
      rw [Bool.and_eq_true]
      exact ⟨by simpa using h4, (U1 _ _ _ _).mpr h5⟩
  have clI : (∃ j, YC (YF ps) j = true) ↔ ∃ i k : Nat, i + 2 <= k /\ k < ps.length /\ ¬ (i = 0 /\ k + 1 = ps.length) /\ Pg.meet (cyc ps ((k : Int) - 1)) (cyc ps k) (cyc ps ((i : Int) - 1)) (cyc ps i) := by
    constructor
    · rintro ⟨k, hk⟩
      obtain ⟨i, h1, h2, q⟩ := clashAt_iff.mp hk
      unfold Jj at q
      rw [Bool.and_eq_true] at q
      have nc : ¬ comB (QS ps ((k : Int) - 1)) (QS ps ((i : Int) - 1)) = true := by
        intro z; rw [z] at q; exact absurd q.1 (by decide)
      rw [ZgB h3 hd h1 h2] at nc
      have m := (U1 _ _ _ _).mp q.2
      unfold QS at m
      simp only at m
      rw [show (k : Int) - 1 + 1 = k by omega, show (i : Int) - 1 + 1 = i by omega] at m
      exact ⟨i, k, by omega, h2, fun z => nc (.inr z), m⟩
    · rintro ⟨i, k, h1, h2, h4, m⟩
      refine ⟨k, clashAt_iff.mpr ⟨i, by omega, h2, ?_⟩⟩
      unfold Jj
      rw [Bool.and_eq_true]
      refine ⟨?_, ?_⟩
      · cases z : comB (QS ps ((k : Int) - 1)) (QS ps ((i : Int) - 1)) with
        | false => rfl
        | true => rcases (ZgB h3 hd (by omega) h2).mp z with z | z
                  · omega
                  · exact absurd z h4
      · refine (U1 _ _ _ _).mpr ?_
        unfold QS
        simp only
        rw [show (k : Int) - 1 + 1 = k by omega, show (i : Int) - 1 + 1 = i by omega]
        exact m
  rw [badI, clI]
  constructor
  · rintro ⟨i, k, h1, h2, h4, m⟩
    by_cases h0 : i = 0
    · subst h0
      refine ⟨k - 1, ps.length - 1, by omega, by omega, ?_, ?_⟩
      · rw [show ((ps.length - 1 : Nat) : Int) + 1 = ps.length by omega, Int.emod_self]; omega
      · have e1 : cyc ps (((0 : Nat) : Int) - 1) = cyc ps ((ps.length - 1 : Nat) : Int) := by
          rw [<- Qk ps (((0 : Nat) : Int) - 1)]; congr 1; omega
        have e2 : cyc ps ((0 : Nat) : Int) = cyc ps (((ps.length - 1 : Nat) : Int) + 1) := by
          rw [<- Qk ps ((0 : Nat) : Int)]; congr 1; omega
        rw [<- e1, <- e2, show ((k - 1 : Nat) : Int) = (k : Int) - 1 by omega, show (k : Int) - 1 + 1 = k by omega]
        exact m
    · refine ⟨i - 1, k - 1, by omega, by omega, ?_, ?_⟩
      · rw [show ((k - 1 : Nat) : Int) + 1 = k by omega, mk _ (by omega) (by omega)]; omega
      · rw [show ((i - 1 : Nat) : Int) = (i : Int) - 1 by omega, show ((k - 1 : Nat) : Int) = (k : Int) - 1 by omega, show (i : Int) - 1 + 1 = i by omega, show (k : Int) - 1 + 1 = k by omega]
        exact WH m
  · rintro ⟨a, b, h1, h2, h4, m⟩
    by_cases hb : b + 1 < ps.length
    · refine ⟨a + 1, b + 1, by omega, hb, by omega, ?_⟩
      rw [show ((b + 1 : Nat) : Int) - 1 = b by omega, show ((a + 1 : Nat) : Int) - 1 = a by omega, show ((b + 1 : Nat) : Int) = (b : Int) + 1 by omega, show ((a + 1 : Nat) : Int) = (a : Int) + 1 by omega]
      exact WH m
    · have hb' : b = ps.length - 1 := by omega
      subst hb'
      rw [show ((ps.length - 1 : Nat) : Int) + 1 = ps.length by omega, Int.emod_self] at h4
      have ha : a ≠ 0 := fun z => h4 (by rw [z]; rfl)
      refine ⟨0, a + 1, by omega, by omega, by omega, ?_⟩
      have e1 : cyc ps (((0 : Nat) : Int) - 1) = cyc ps ((ps.length - 1 : Nat) : Int) := by
        rw [<- Qk ps (((0 : Nat) : Int) - 1)]; congr 1; omega
      have e2 : cyc ps ((0 : Nat) : Int) = cyc ps (((ps.length - 1 : Nat) : Int) + 1) := by
        rw [<- Qk ps ((0 : Nat) : Int)]; congr 1; omega
      rw [e1, e2, show ((a + 1 : Nat) : Int) - 1 = a by omega, show ((a + 1 : Nat) : Int) = (a : Int) + 1 by omega]
      exact m
noncomputable def Zav (ps:List Pt):List Int:=(List.range ps.length).map fun (k:Nat)=>ZE (cyc ps ((k:Int)-2)) (cyc ps ((k:Int)-1)) (cyc ps k)
theorem Zau {ps:List Pt} (hne:ps≠[]) (x:Int):x∈Zav ps ↔ x∈Q9 ps:=by
  have hn:0 < (ps.length:Int):=by have:=List.length_pos_iff.mpr hne; omega
  have put:∀ m:Int,∃ k:Nat,k < ps.length/\(k:Int)=m % (ps.length:Int):=fun m=>⟨(m % (ps.length:Int)).toNat,by
    have a1:=Int.emod_nonneg m (show (ps.length:Int)≠0 by omega)
    have a2:=Int.emod_lt_of_pos m hn
    omega,by
    have a1:=Int.emod_nonneg m (show (ps.length:Int)≠0 by omega)
    omega⟩
  unfold Zav Q9
  simp only [List.mem_map,List.mem_range]
  constructor
  · rintro ⟨k,hk,rfl⟩
    obtain ⟨j,hj,e⟩:=put ((k:Int)-2)
    refine ⟨j,hj,?_⟩
    rw [e,J1,VR,VR,show (k:Int)-2+1=k-1 by omega,show (k:Int)-2+2=k by omega]
  · rintro ⟨k,hk,rfl⟩
    obtain ⟨j,hj,e⟩:=put ((k:Int)+2)
    refine ⟨j,hj,?_⟩
    rw [e,J1,Int.sub_eq_add_neg,Int.sub_eq_add_neg,VR,VR,show (k:Int)+2+-2=k by omega,show (k:Int)+2+-1=k+1 by omega]
theorem ZhS {ps:List Pt} (hps:All Sm ps) (h2:2<=ps.length):∀ (ks:List Nat) (s0:Sl),(∀ k∈ks,k < ps.length)->YJ (ZQ 0) ZV (dFn 3 Us (Zc (Zh dIx (Zd 1) (Zh Qj (Zd 0) (Zg (.int 2)))) (Zc (Zh dIx (Zd 1) (Zh Qj (Zd 0) (Zg (.int 1)))) (Zc (Zh dIx (Zd 1) (Zd 0)) Zm)))) (ks.map fun (k:Nat)=>D.int k) (s0::[.val (.tup (ps.map pD))]) =
    some ((ks.map fun (k:Nat)=>ZE (cyc ps ((k:Int)-2)) (cyc ps ((k:Int)-1)) (cyc ps k)).map .int)
  | [],_,_=>rfl
  | k::ks,s0,h=>by
    have hne:ps≠[]:=fun z=>by rw [z] at h2; simp at h2
    have hk:=h k List.mem_cons_self
    have ih:=ZhS hps h2 ks (.val (.int k)) fun x hx=>h x (List.mem_cons_of_mem _ hx)
    have i1:=Q2 (ps:=ps) (i:=(k:Int)-2) (by omega) (by omega)
    have i2:=Q2 (ps:=ps) (i:=(k:Int)-1) (by omega) (by omega)
    have i3:=Q2 (ps:=ps) (i:=(k:Int)) (by omega) (by omega)
    have t:=U7 (hps _ (Yv hne ((k:Int)-2))) (hps _ (Yv hne ((k:Int)-1))) (hps _ (Yv hne (k:Int)))
    simp -implicitDefEqProofs [YJ,i1,i2,i3,t,ih]
theorem Zl0 (n:Nat):Ql 0 n=(List.range n).map fun (k:Nat)=>D.int k:=by
  unfold Ql
  refine List.map_congr_left fun k _=>?_
  rw [Int.zero_add]
theorem Zg1 {ps:List Pt} (hps:All Sm ps) (h2:2<=ps.length) (hl:ps.length<=1000):Z9 [.tup (ps.map pD)]=some (.lst ((Zav ps).map .int)):=by
  have cl:=ZhS hps h2 (List.range ps.length) .no fun k hk=>List.mem_range.mp hk
  have r:=Zfm hl
  have l:(Ql 0 ps.length).length<=lim:=Zfn hl
  have e:YJ (ZQ 0) ZV (dFn 3 Us (Zc (Zh dIx (Zd 1) (Zh Qj (Zd 0) (Zg (.int 2)))) (Zc (Zh dIx (Zd 1) (Zh Qj (Zd 0) (Zg (.int 1)))) (Zc (Zh dIx (Zd 1) (Zd 0)) Zm)))) (Ql 0 ps.length) (.no::[.val (.tup (ps.map pD))])=some ((Zav ps).map .int):=by
    rw [Zl0]; exact cl
  simp -implicitDefEqProofs [Z9,Zo,Je,r,l,JE,e]
theorem ZkL {ps:List Pt} (hps:All Sm ps) (h2:2<=ps.length):Yh [.tup (ps.map pD)]=some (.bl (decide (0 < ZE (cyc ps (-1)) (cyc ps 0) (cyc ps 1)))):=by
  have hne:ps≠[]:=fun z=>by rw [z] at h2; simp at h2
  have i1:=Q2 (ps:=ps) (i:=-1) (by omega) (by omega)
  have i2:=Q2 (ps:=ps) (i:=0) (by omega) (by omega)
  have i3:=Q2 (ps:=ps) (i:=1) (by omega) (by omega)
  have t:=Q5 (hps _ (Yv hne (-1))) (hps _ (Yv hne 0)) (hps _ (Yv hne 1))
  simp -implicitDefEqProofs [Yh,Zo,Jz,i1,i2,i3,t]
theorem neP (p q:Pt):Zby (pD p) (pD q)=some (.bl (!decide (p=q))):=by
  show (if (okD (pD p)&&okD (pD q))=true then some (D.bl (!deq (pD p) (pD q))) else none)=_
  rw [(VH p).1,(VH q).1,if_pos (by decide),Zco]
theorem eqP (p q:Pt):VQ (pD p) (pD q)=some (.bl (decide (p=q))):=by
  show (if (okD (pD p)&&okD (pD q))=true then some (D.bl (deq (pD p) (pD q))) else none)=_
  rw [(VH p).1,(VH q).1,if_pos (by decide),Zco]
theorem ZcW (c:Sl):∀ (ds:List D) (s1:Sl),(ds.all spB=false->Jf (ZQ 1) (Yb (YE (Zp (dFn 1 Yg (Zc (Zd 1) Zm)))) (ZR (Zg (.bl false))) Zx) ds [c,s1]=some (.rt (.bl false))) /\
    (ds.all spB=true->∃ t1,Jf (ZQ 1) (Yb (YE (Zp (dFn 1 Yg (Zc (Zd 1) Zm)))) (ZR (Zg (.bl false))) Zx) ds [c,s1]=some (.nx [c,t1]))
  | [],s1=>⟨fun z=>by simp at z,fun _=>⟨s1,rfl⟩⟩
  | d::ds,s1=>by
    have ih:=ZcW c ds (.val d)
    have e:(Yb (YE (Zp (dFn 1 Yg (Zc (Zd 1) Zm)))) (ZR (Zg (.bl false))) Zx) [c,.val d]=if spB d=true then some (.nx [c,.val d]) else some (.rt (.bl false)):=by
      simp -implicitDefEqProofs [Zf8]
      cases spB d <;> simp -implicitDefEqProofs
    have st:Jf (ZQ 1) (Yb (YE (Zp (dFn 1 Yg (Zc (Zd 1) Zm)))) (ZR (Zg (.bl false))) Zx) (d::ds) [c,s1]=(match (if spB d=true then some (Out.nx [c,.val d]) else some (Out.rt (.bl false))) with
      | some (.nx ρ2)=>Jf (ZQ 1) (Yb (YE (Zp (dFn 1 Yg (Zc (Zd 1) Zm)))) (ZR (Zg (.bl false))) Zx) ds ρ2
      | some (.ct ρ2)=>Jf (ZQ 1) (Yb (YE (Zp (dFn 1 Yg (Zc (Zd 1) Zm)))) (ZR (Zg (.bl false))) Zx) ds ρ2
      | some (.bk ρ2)=>some (.nx ρ2)
      | r=>r):=by
      rw [Jf,<-e]
      rfl
    rw [st]
    cases h:spB d
    · exact ⟨fun _=>rfl,fun z=>by simp [h] at z⟩
    · refine ⟨fun z=>ih.1 (by simpa [h] using z),fun z=>ih.2 (by simpa [h] using z)⟩
theorem Ze7 {ds:List D} (h:ds.all spB=false):ZA [.tup ds]=some (.bl false):=by
  have e:=(ZcW (.val (.tup ds)) ds .no).1 h
  unfold ZA Zo YZ
  show (Zu _ _ [.val (.tup ds),.no]).bind _=_
  have it:QI (Zd 0) [.val (.tup ds),.no]=some ds:=rfl
  rw [ZB,Va,it,Option.bind_some,e]
  rfl
theorem ZfS:∀ (ks:List (List Int)),(VI ks).length<=ks.length
  | []=>Nat.le_refl _
  | k::ks=>by
    have:=ZfS ks
    unfold VI
    split
    · rw [List.length_cons]; omega
    · rw [List.length_cons,List.length_cons]; omega
theorem ZkD (ks:List (List Int)):(VI ks).length=ks.length ↔ ks.Nodup:=by
  have h1:=Zh8 ks
  have h2:(VI ks).length<=ks.length:=by
    by_cases z:ks.Nodup
    · by_cases q:ks.length < (VI ks).length
      · exact absurd q (Nat.not_lt.mpr (ZfS ks))
      · omega
    · exact Nat.le_of_lt (h1.mpr z)
  constructor
  · intro e
    by_cases z:ks.Nodup
    · exact z
    · have:=h1.mpr z; omega
  · intro z
    by_cases q:(VI ks).length < ks.length
    · exact absurd z (h1.mp q)
    · omega
theorem Zg0 {ps:List Pt} (hps:All (Rg 100) ps) (hl:ps.length<=70):ZA [.tup (ps.map pD)]=some (.bl (decide ps.Nodup)):=by
  have ha:(ps.map pD).all spB=true:=by
    rw [List.all_eq_true]
    intro d hd
    obtain ⟨p,hp,rfl⟩:=List.mem_map.mp hd
    exact ZhX (hps p hp)
  obtain ⟨t1,e⟩:=(ZcW (.val (.tup (ps.map pD))) (ps.map pD) .no).2 ha
  unfold ZA Zo YZ
  show (Zu _ _ [.val (.tup (ps.map pD)),.no]).bind _=_
  have it:QI (Zd 0) [.val (.tup (ps.map pD)),.no]=some (ps.map pD):=rfl
  have ls:=ZdV (c:=.tup (ps.map pD)) (ps:=ps) rfl hl
  have nb:(((VI (ps.map ZdW)).length:Int)=((ps.length:Nat):Int)) ↔ ps.Nodup:=by
    rw [<-U0,<-ZkD,List.length_map]; omega
  rw [ZB,Va,it,Option.bind_some,e]
  simp -implicitDefEqProofs [ls,nb]
noncomputable def Uh (n:Nat):Bool:=decide (3<=n)&&decide (n<=12)
theorem ZhI {d:D} (h:∀ ds,d≠.tup ds):Zw [d]=some (.bl false):=by
  cases d with
  | tup ds=>exact absurd rfl (h ds)
  | _=>rfl
theorem WZ (ds:List D):Zw [.tup ds]=if Uh ds.length=true then ZA [.tup ds] else some (.bl false):=by
  have i1:UU .tuple (.tup ds)=some (.bl true):=rfl
  unfold Uh
  by_cases h1:3<=ds.length
  · have h1':(3:Int)<=ds.length:=by omega
    by_cases h2:ds.length<=12
    · have h2':(ds.length:Int)<=12:=by omega
      simp -implicitDefEqProofs [Zw,Zo,Yn,i1,h1,h2,h1',h2']
      cases ZA [.tup ds] <;> rfl
    · have h2':¬ (ds.length:Int)<=12:=by omega
      simp -implicitDefEqProofs [Zw,Zo,Yn,i1,h1,h2,h1',h2']
  · have h1':¬ (3:Int)<=ds.length:=by omega
    simp -implicitDefEqProofs [Zw,Zo,Yn,i1,h1,h1']
noncomputable def dp (d:D):Nat:=(Jx d).depth
noncomputable def Lay (n:Nat) (d:D):Prop:=(Jx d).canLay0=true/\dp d<=n
theorem ZfP {n:Nat} {d:D} (h:Lay n d) (hn:n<=30):okD d=true:=by
  unfold okD
  rw [h.1,Bool.true_and]
  have:=h.2
  unfold dp at this
  exact decide_eq_true (by omega)
theorem Zl3 {n:Nat}:∀ {ds:List D},(∀ e∈ds,Lay n e) ↔ (PyData.canLayAll0 (Qo ds)=true/\PyData.depthAll (Qo ds)<=n)
  | []=>by simp [Qo,PyData.depthAll,PyData.canLayAll0]
  | d::ds=>by
    have ih:=Zl3 (n:=n) (ds:=ds)
    simp only [List.mem_cons,forall_eq_or_imp,Qo,PyData.depthAll,PyData.canLayAll0,Bool.and_eq_true,ih]
    unfold Lay dp
    constructor
    · rintro ⟨⟨a,b⟩,c,e⟩; exact ⟨⟨a,c⟩,by omega⟩
    · rintro ⟨⟨a,c⟩,e⟩; exact ⟨⟨a,by omega⟩,c,by omega⟩
theorem lay_tup {n:Nat} {ds:List D}:Lay (n+1) (.tup ds) ↔ ∀ e∈ds,Lay n e:=by
  rw [Zl3]
  unfold Lay dp
  simp only [Jx,PyData.depth,PyData.canLay0]
  constructor
  · rintro ⟨a,b⟩; exact ⟨a,by omega⟩
  · rintro ⟨a,b⟩; exact ⟨a,by omega⟩
theorem lay_lst {n:Nat} {ds:List D}:Lay (n+1) (.lst ds) ↔ ∀ e∈ds,Lay n e:=by
  rw [Zl3]
  unfold Lay dp
  simp only [Jx,PyData.depth,PyData.canLay0]
  constructor
  · rintro ⟨a,b⟩; exact ⟨a,by omega⟩
  · rintro ⟨a,b⟩; exact ⟨a,by omega⟩
theorem ZkF {xs:List D} (h:Lay 30 (.lst xs)):Zby (.lst xs) (.lst [])=some (.bl (!xs.isEmpty)):=by
  show (if (okD (.lst xs)&&okD (.lst []))=true then some (D.bl (!deq (.lst xs) (.lst []))) else none)=_
  rw [ZfP h (Nat.le_refl _),if_pos (by rfl)]
  cases xs with
  | nil=>rfl
  | cons x xs=>
    have:deq (.lst (x::xs)) (.lst [])=false:=by
      show PyData.eqv (.list (Jx x::Qo xs)) (.list [])=false
      simp [PyData.eqv,PyData.eqvAll]
    rw [this]; rfl
noncomputable def Zll:D->Pt
  | .tup [.int x,.int y]=>(x,y)
  | _=>(0,0)
theorem Zg2 (ps:List Pt):(ps.map pD).map Zll=ps:=by
  rw [List.map_map]
  have:(Zll ∘ pD)=id:=by funext p; rfl
  rw [this,List.map_id]
noncomputable def JO (ps:List Pt):Bool:=QC ps&&decide (0 < Zak ps)&&decide (cyc ps 0=ZcR ps)
noncomputable def Zce:D->Bool
  | .tup ds=>Uh ds.length&&ds.all spB&&JO (ds.map Zll)
  | _=>false
theorem Zgh {ps:List Pt} (h3:3<=ps.length) (hg:QC ps=true) (hm:cyc ps 0=ZcR ps):0 < Zak ps ↔ 0 < ZE (cyc ps (-1)) (cyc ps 0) (cyc ps 1):=by
  have hne:ps≠[]:=fun z=>by rw [z] at h3; simp at h3
  have hd:ps.Nodup:=by
    unfold QC at hg
    simp only [Bool.and_eq_true,decide_eq_true_eq] at hg
    exact hg.1.1
  have G:=Zjp h3 hg 0
  have q:=Pg.area_turn G fun i h0 hi=>by
    show Pg.lexlt (cyc ps (((0:Nat):Int)+0)) (cyc ps ((i:Int)+0))
    rw [Int.add_zero,Int.add_zero]
    refine ZkK (a:=cyc ps (i:Int)) (b:=cyc ps ((0:Nat):Int)) ?_ fun z=>?_
    · show ¬ Pg.lexlt (cyc ps (i:Int)) (cyc ps 0)
      rw [hm]; exact Zjc hne _ (Yv hne _)
    · have:=Vz hd hne z
      rw [Int.emod_eq_of_lt (by omega) (by omega),Int.emod_eq_of_lt (by omega) (by omega)] at this
      omega
  have ea:Pg.area ps.length (rp ps 0)=Zak ps:=ZjH 0
  rw [ea] at q
  rw [q]
  have e1:rp ps 0 (ps.length-1)=cyc ps (-1):=by
    show cyc ps (((ps.length-1:Nat):Int)+0)=_
    rw [<-Qk ps (-1)]; congr 1; omega
  rw [e1]
  exact Iff.rfl
theorem lenOk_iff {n:Nat}:Uh n=true ↔ 3<=n/\n<=12:=by unfold Uh; simp
theorem Zdx {ds:List D} (h:ds.all spB=true):∃ ps:List Pt,ds=ps.map pD/\All (Rg 100) ps:=Zfj (List.all_eq_true.mp h)
theorem Zbq {ps:List Pt} (h1:Uh ps.length=true) (h2:All (Rg 100) ps):Zce (.tup (ps.map pD))=JO ps:=by
  have:(ps.map pD).all spB=true:=List.all_eq_true.mpr fun d hd=>by obtain ⟨p,hp,rfl⟩:=List.mem_map.mp hd; exact ZhX (h2 p hp)
  show (Uh (ps.map pD).length&&(ps.map pD).all spB&&JO ((ps.map pD).map Zll))=_
  rw [List.length_map,h1,this,Zg2]; rfl
theorem ZdM {ps:List Pt} (h1:Uh ps.length=true) (h2:All (Rg 100) ps):ZT [.tup (ps.map pD)]=some (.bl (JO ps)):=by
  obtain ⟨h3,h12⟩:=lenOk_iff.mp h1
  have hps:All Sm ps:=fun p hp=>Zkd (h2 p hp)
  have hne:ps≠[]:=fun z=>by rw [z] at h3; simp at h3
  have cb:Zw [.tup (ps.map pD)]=some (.bl (decide ps.Nodup)):=by
    rw [WZ,List.length_map,if_pos h1]; exact Zg0 h2 (by omega)
  have i0:=Q2 (ps:=ps) (i:=0) (by omega) (by omega)
  have mn:=ZfZ (ps:=ps) hne (c:=.tup (ps.map pD)) rfl
  have ta:=Zg1 hps (by omega) (by omega)
  have inn:=Zgc 0 (Zav ps)
  have lf:=ZkL hps (by omega)
  have ap:=@ZjJ ps (by omega) hps (Classical.propDecidable _)
  by_cases hd:ps.Nodup
  · by_cases hm:cyc ps 0=ZcR ps
    · by_cases ht:0∈Zav ps
      · have:JO ps=false:=by
          have:0∈Q9 ps:=(Zau hne 0).mp ht
          unfold JO QC; simp [this]
        rw [this]
        simp -implicitDefEqProofs [ZT,Zo,Qc,cb,i0,mn,neP,hd,hm,ta,inn,ht]
      · have ht':¬ 0∈Q9 ps:=fun z=>ht ((Zau hne 0).mpr z)
        by_cases hc:∃ j,YC (YF ps) j=true
        · have hb:=(Zct h3 hd).mp hc
          have:JO ps=false:=by unfold JO QC; simp [hb]
          rw [this]
          simp only [hc,decide_true,Bool.not_true] at ap
          simp -implicitDefEqProofs [ZT,Zo,Qc,cb,i0,mn,neP,hd,hm,ta,inn,ht,lf,ap]
          cases decide (0 < ZE (cyc ps (-1)) (ZcR ps) (cyc ps 1)) <;> rfl
        · have hb:badAny ps=false:=by
            cases q:badAny ps with
            | false=>rfl
            | true=>exact absurd ((Zct h3 hd).mpr q) hc
          have hg:QC ps=true:=by unfold QC; simp [hd,ht',hb]
          have gl:=Zgh h3 hg hm
          have:JO ps=decide (0 < ZE (cyc ps (-1)) (cyc ps 0) (cyc ps 1)):=by
            unfold JO
            rw [hg,decide_eq_true hm,Bool.true_and,Bool.and_true]
            exact decide_eq_decide.mpr gl
          rw [this]
          simp only [hc,decide_false,Bool.not_false] at ap
          by_cases hlt:0 < ZE (cyc ps (-1)) (cyc ps 0) (cyc ps 1)
          · simp -implicitDefEqProofs [ZT,Zo,Qc,cb,i0,mn,neP,hd,<-hm,ta,inn,ht,lf,ap,hlt]
          · simp -implicitDefEqProofs [ZT,Zo,Qc,cb,i0,mn,neP,hd,<-hm,ta,inn,ht,lf,ap,hlt]
    · have:JO ps=false:=by unfold JO; simp [hm]
      rw [this]
      simp -implicitDefEqProofs [ZT,Zo,Qc,cb,i0,mn,neP,hd,hm]
  · have:JO ps=false:=by unfold JO QC; simp [hd]
    rw [this]
    simp -implicitDefEqProofs [ZT,Zo,Qc,cb,hd]
theorem Zf9 (d:D):ZT [d]=some (.bl (Zce d)):=by
  have no:∀ d:D,Zw [d]=some (.bl false)->ZT [d]=some (.bl false):=fun d e=>by
    simp -implicitDefEqProofs [ZT,Zo,Qc,e]
  cases d with
  | tup ds=>
    by_cases h1:Uh ds.length=true
    · cases h2:ds.all spB
      · rw [no _ (by rw [WZ,if_pos h1]; exact Ze7 h2)]
        simp [Zce,h2]
      · obtain ⟨ps,rfl,hr⟩:=Zdx h2
        rw [List.length_map] at h1
        rw [ZdM h1 hr,Zbq h1 hr]
    · rw [no _ (by rw [WZ,if_neg h1])]
      have:Uh ds.length=false:=by simpa using h1
      simp [Zce,this]
  | _=>exact no _ (ZhI (by intro ds z; cases z))
theorem ZkI:∀ (ds:List D) (s0:Sl),YJ (ZQ 0) (YE (Zp (dFn 1 Z5 (Zc (Zd 0) Zm)))) (Zd 0) ds (s0::[])=some (ds.filter fun d=>!spB d)
  | [],_=>rfl
  | d::ds,s0=>by
    have ih:=ZkI ds (.val d)
    cases h:spB d
    · simp -implicitDefEqProofs [YJ,ZaC,h,ih]
    · simp -implicitDefEqProofs [YJ,ZaC,h,ih]
theorem ZeB {d:D} (hdp:Lay 30 d):ZI [d]=some (.bl (Zce d)):=by
  cases d with
  | tup ds=>
    have i1:UU .tuple (.tup ds)=some (.bl true):=rfl
    by_cases h1:Uh ds.length=true
    · obtain ⟨h3,h12⟩:=lenOk_iff.mp h1
      have h3':(3:Int)<=ds.length:=by omega
      have h12':(ds.length:Int)<=12:=by omega
      have cl:=ZkI ds .no
      have hl:ds.length<=lim:=ZW (by omega)
      have nn:Zby (.lst (ds.filter fun d=>!spB d)) (.lst [])=some (.bl (!(ds.filter fun d=>!spB d).isEmpty)):=ZkF (by
        have:Lay (29+1) (.tup ds):=hdp
        exact lay_lst.mpr fun e he=>lay_tup.mp this e (List.mem_filter.mp he).1)
      cases h2:ds.all spB
      · have:(ds.filter fun d=>!spB d).isEmpty=false:=by
          cases q:(ds.filter fun d=>!spB d).isEmpty with
          | false=>rfl
          | true=>
            rw [List.isEmpty_iff,List.filter_eq_nil_iff] at q
            have:ds.all spB=true:=List.all_eq_true.mpr fun e he=>by simpa using q e he
            rw [this] at h2; cases h2
        rw [this] at nn
        have z:Zce (.tup ds)=false:=by simp [Zce,h2]
        rw [z]
        simp -implicitDefEqProofs [ZI,Zo,YI,i1,h3',h12',JE,cl,hl,nn]
      · have:(ds.filter fun d=>!spB d).isEmpty=true:=by
          rw [List.isEmpty_iff,List.filter_eq_nil_iff]
          intro e he
          simpa using List.all_eq_true.mp h2 e he
        rw [this] at nn
        obtain ⟨ps,rfl,hr⟩:=Zdx h2
        rw [List.length_map] at h1 h3' h12' h3 h12 hl
        rw [Zbq h1 hr]
        have hps:All Sm ps:=fun p hp=>Zkd (hr p hp)
        have hne:ps≠[]:=fun z=>by rw [z] at h3; simp at h3
        have gd:=Zd1 (c:=.tup (ps.map pD)) (ps:=ps) rfl hne hps (by omega)
        have ar:=Zd2 (c:=.tup (ps.map pD)) (ps:=ps) rfl hne hps
        have i0:=Q2 (ps:=ps) (i:=0) (by omega) (by omega)
        have mn:=ZfZ (ps:=ps) hne (c:=.tup (ps.map pD)) rfl
        unfold JO
        simp -implicitDefEqProofs [ZI,Zo,YI,i1,h3',h12',JE,cl,hl,nn,gd,ar,i0,mn,eqP]
        cases QC ps
        · simp -implicitDefEqProofs
        · by_cases h0:0 < Zak ps
          · simp -implicitDefEqProofs [h0]
          · simp -implicitDefEqProofs [h0]
    · have z:Uh ds.length=false:=by simpa using h1
      have z2:Zce (.tup ds)=false:=by simp [Zce,z]
      rw [z2]
      have:¬ (3<=ds.length/\ds.length<=12):=fun q=>h1 (lenOk_iff.mpr q)
      by_cases h3:(3:Int)<=ds.length
      · have h12:¬ (ds.length:Int)<=12:=by omega
        simp -implicitDefEqProofs [ZI,Zo,YI,i1,h3,h12]
      · simp -implicitDefEqProofs [ZI,Zo,YI,i1,h3]
  | _=>rfl
noncomputable def TP (d:D):Prop:=∃ ps:List Pt,d=.tup (ps.map pD)/\ps≠[]/\ps.length<=100/\All Sm ps
theorem Ze8:(2:Nat)<=lim:=ZW (by decide)
theorem Lay.up {a b:Nat} {d:D} (h:Lay a d) (hab:a<=b):Lay b d:=⟨h.1,Nat.le_trans h.2 hab⟩
theorem ZbR (s:String):PyData.strOk (Str.ofString s)=true:=by
  unfold PyData.strOk
  rw [Str.ofString_eq_toList]
  rw [Array.all_eq_true']
  intro x hx
  have hx:x∈s.toList.map Char.toNat:=by simpa using hx
  obtain ⟨c,_,rfl⟩:=List.mem_map.mp hx
  have hc:c.val < 0x110000:=by
    have v:=c.valid
    unfold UInt32.isValidChar Nat.isValidChar at v
    have:c.val.toNat < 0x110000:=by omega
    exact this
  simpa using (show c.toNat < 0x110000 from hc)
theorem Vr (i:Int):Lay 0 (.int i):=⟨rfl,Nat.le_refl _⟩
theorem ZkN (i:Bool):Lay 0 (.bl i):=⟨rfl,Nat.le_refl _⟩
theorem Zje (s:String):Lay 0 (.str (Str.ofString s)):=⟨ZbR s,Nat.le_refl _⟩
noncomputable def oddL:List D:=[.int (-1),.int 0,.int 1,.int 101,.int (-101),.bl true,.bl false,.non,.str (Str.ofString ""),.str (Str.ofString "0"),.tup [],.lst [],.tup [.int 0],.tup [.int 0,.int 1],.tup [.int 1,.int 1],.tup [.int 0,.int 101],.tup [.bl true,.int 0],.lst [.int 0,.int 1],
  .tup [.int 0,.non],.tup [.tup [.int 0,.int 0]],.tup [.int 0,.int 0,.int 0],.int 2,.tup [.int (-1),.int 5],.tup [.int 2,.int 2],.tup [.str (Str.ofString "0"),.int 1]]
theorem ZgK {xs:List D} {j:Int} (h0:0<=j) (h1:j < xs.length):∃ d∈xs,atI xs j=some d:=by
  obtain ⟨k,rfl⟩:∃ k:Nat,(k:Int)=j:=⟨j.toNat,by omega⟩
  have hk:k < xs.length:=by omega
  refine ⟨xs[k],List.getElem_mem hk,?_⟩
  unfold atI
  rw [Zdk (by omega) (by omega),Int.emod_eq_of_lt (by omega) (by omega)]
  show xs[((k:Int)).toNat]?=_
  rw [Int.toNat_natCast,List.getElem?_eq_getElem hk]
theorem Zi7:∀ d∈oddL,Lay 2 d:=by
  have:oddL.all (fun d=>(Jx d).canLay0&&decide (dp d<=2))=true:=by decide +kernel
  intro d hd
  have:=List.all_eq_true.mp this d hd
  rw [Bool.and_eq_true] at this
  exact ⟨this.1,of_decide_eq_true this.2⟩
theorem ZlY (n:Int):∃ d,Qv [.int n]=some d/\Lay 2 d:=by
  have m:YD (.int n) (.int 25)=some (.int (n % 25)):=Qh (by decide)
  have r:0<=n % 25/\n % 25 < 25:=⟨Int.emod_nonneg _ (by omega),Int.emod_lt_of_pos _ (by omega)⟩
  obtain ⟨d,hd,e⟩:=ZgK (xs:=oddL) (j:=n % 25) r.1 (by show n % 25 < 25; omega)
  refine ⟨d,?_,Zi7 d hd⟩
  have l0:(0:Nat)<=lim:=Nat.zero_le _
  have l1:(1:Nat)<=lim:=ZW (by decide)
  have l3:(3:Nat)<=lim:=ZW (by decide)
  have l7:(7:Nat)<=lim:=ZW (by decide)
  have l18:(18:Nat)<=lim:=ZW (by decide)
  have s1:∀ a:Sl,(Wh (Zc (QN WX (Zg (.int 1))) (Zc (Zg (.int 0)) (Zc (Zg (.int 1)) (Zc (Zg (.int 101)) (Zc (QN WX (Zg (.int 101))) (Zc (Zg (.bl true)) (Zc (Zg (.bl false)) (Zc (Zg .non) (Zc (Zg (.str (Str.ofString ""))) (Zc (Zg (.str (Str.ofString "0"))) (Zc (YV Zm) (Zc (Wh Zm) (Zc (YV (Zc (Zg (.int 0)) Zm)) (Zc (YV (Zc (Zg (.int 0)) (Zc (Zg (.int 1)) Zm))) (Zc (YV (Zc (Zg (.int 1)) (Zc (Zg (.int 1)) Zm))) (Zc (YV (Zc (Zg (.int 0)) (Zc (Zg (.int 101)) Zm))) (Zc (YV (Zc (Zg (.bl true)) (Zc (Zg (.int 0)) Zm))) (Zc (Wh (Zc (Zg (.int 0)) (Zc (Zg (.int 1)) Zm))) Zm))))))))))))))))))) [.val (.int n),a]=some (.lst (oddL.take 18)):=by
    intro a
    simp -implicitDefEqProofs [Ze8,l0,l1,l3,l7,l18,oddL]
  have s2:∀ a:Sl,(Wh (Zc (YV (Zc (Zg (.int 0)) (Zc (Zg .non) Zm))) (Zc (YV (Zc (YV (Zc (Zg (.int 0)) (Zc (Zg (.int 0)) Zm))) Zm)) (Zc (YV (Zc (Zg (.int 0)) (Zc (Zg (.int 0)) (Zc (Zg (.int 0)) Zm)))) (Zc (Zg (.int 2)) (Zc (YV (Zc (QN WX (Zg (.int 1))) (Zc (Zg (.int 5)) Zm))) (Zc (YV (Zc (Zg (.int 2)) (Zc (Zg (.int 2)) Zm))) (Zc (YV (Zc (Zg (.str (Str.ofString "0"))) (Zc (Zg (.int 1)) Zm))) Zm)))))))) [.val (.int n),a]=some (.lst (oddL.drop 18)):=by
    intro a
    simp -implicitDefEqProofs [Ze8,l0,l1,l3,l7,l18,oddL]
  have ad:ZU (.lst (oddL.take 18)) (.lst (oddL.drop 18))=some (.lst oddL):=by
    rw [ZbH (by decide),List.take_append_drop]
  have ix:dIx (.lst oddL) (.int (n % 25))=some d:=e
  unfold Qv Zo ZaM
  show (Zu _ _ [.val (.int n),.no]).bind _=_
  rw [ZB,Zcp,s1]
  show (ZR _ [.val (.int n),.val (.lst (oddL.take 18))]).bind _=_
  rw [Zgv,ZaP,ZaP,s2]
  show (Option.map _ (Option.bind (ZU (.lst (oddL.take 18)) (.lst (oddL.drop 18))) _)).bind _=_
  rw [ad,Option.bind_some]
  show (Option.map _ (Option.bind (YD (.int n) (.int 25)) _)).bind _=_
  rw [m,Option.bind_some,ix]
  rfl
theorem VA {xs:List D} {lo hi:Option Int} {e:D} (h:e∈cutD xs lo hi):e∈xs:=by
  unfold L3.cutD at h
  exact List.mem_of_mem_drop (List.mem_of_mem_take h)
theorem VB (xs:List D) (lo hi:Option Int):(cutD xs lo hi).length<=xs.length:=by
  unfold L3.cutD
  rw [List.length_take,List.length_drop]; omega
theorem ZbG {xs ys:List D} (h:xs.length+ys.length<=1000):ZU (.tup xs) (.tup ys)=some (.tup (xs++ys)):=by
  show (if xs.length+ys.length<=lim then _ else _)=_
  rw [if_pos (ZW h)]
noncomputable def ZhW:DT:=(QR (Zp (Zh dGt (Zd 2) (Zg (.int 0)))) (QR (Zp (QN (UU .tuple) (Zd 0))) (QR (Zp (Zh dGt (ZS VP (Zc (Zd 0) Zm)) (Zg (.int 0)))) (Zp (Zh dGt (Zh YD (Zd 1) (Zg (.int 6))) (Zg (.int 0)))))))
noncomputable def Zfi:DT:=(QR (Zp (QN (UU .tuple) (Zd 0))) (QR (Zp (Zh dGt (ZS VP (Zc (Zd 0) Zm)) (Zg (.int 0)))) (Zp (Zh VQ (Zh YD (Zh Q7 (Zd 1) (Zg (.int 6))) (Zg (.int 2))) (Zg (.int 0))))))
noncomputable def Zfh:DT:=(QR (Zp (QN (UU .int) (Zd 0))) (Zp (Zh VQ (Zh YD (Zh Q7 (Zd 1) (Zg (.int 6))) (Zg (.int 2))) (Zg (.int 0)))))
noncomputable def spA (fr:List D->Option D):DS:=(Zu (Ya 3 (Zh YD (Zh Q7 (Zd 1) (Zg (.int 6))) (ZS VP (Zc (Zd 0) Zm))))
  (Zu (Ya 4 (dFn 3 fr (Zc (Zh dIx (Zd 0) (Zd 3)) (Zc (Zh Q7 (Zd 1) (Zg (.int 72))) (Zc (Zh Qj (Zd 2) (Zg (.int 1))) Zm)))))
  (ZR (Zh ZU (Zh ZU (dSl (Zd 0) Qq (Qp (Zd 3))) (YV (Zc (Zd 4) Zm))) (dSl (Zd 0) (Qp (Zh ZU (Zd 3) (Zg (.int 1)))) Qq)))))
noncomputable def ZgX:DS:=(Zu (Ya 5 (Wh (Zc (ZS JX (Zc (Zd 0) Zm)) (Zc (dSl (Zd 0) Qq (Qp (QN WX (Zg (.int 1))))) (Zc (Zh ZU (Zd 0) (dSl (Zd 0) (Qp (QN WX (Zg (.int 1)))) Qq)) (Zc (Zh ZU (dSl (Zd 0) (Qp (Zg (.int 1))) Qq) (dSl (Zd 0) Qq (Qp (Zg (.int 1))))) (Zc (Zjx (Zd 0)) (Zc (Zh Zgw (Zd 0) (Zg (.int 2))) Zm))))))))
  (ZR (Zh dIx (Zd 5) (Zh YD (Zh Q7 (Zd 1) (Zg (.int 12))) (Zg (.int 6))))))
noncomputable def spC:DS:=(ZR (Zh dIx (Wh (Zc (ZS WW (Zc (Zd 0) Zm)) (Zc (QN WX (Zd 0)) (Zc (Zh ZU (Zd 0) (Zg (.int 1))) (Zc (Zh VQ (Zd 0) (Zg (.int 1))) (Zc (Zh ZU (Zd 0) (Zg (.int 97))) (Zc (Zh Qj (Zd 0) (Zg (.int 1))) Zm))))))) (Zh YD (Zh Q7 (Zd 1) (Zg (.int 12))) (Zg (.int 6)))))
noncomputable def spE:DS:=(ZR (dFn 1 Qv (Zc (Zh Q7 (Zd 1) (Zg (.int 6))) Zm)))
theorem ZdZ (fr:List D->Option D):ZP fr=Zu (Yb ZhW (spA fr) Zx) (Zu (Yb Zfi ZgX Zx) (Zu (Yb Zfh spC Zx) spE)):=rfl
section
variable {n k:Int} {ds:List D}
theorem Zj3 (x:D) (a b c:Sl):∃ d,spE [.val x,.val (.int n),.val (.int k),a,b,c]=some (.rt d)/\Lay 2 d:=by
  have d6:Q7 (.int n) (.int 6)=some (.int (n / 6)):=Vx (by decide) (by decide)
  obtain ⟨d,e,l⟩:=ZlY (n / 6)
  refine ⟨d,?_,l⟩
  unfold spE
  simp -implicitDefEqProofs [d6,e]
theorem ZhU {fr:List D->Option D} {m:Nat} (h0:ds≠[]) (hl:ds.length<=200) (hn:0<=n) (hm:1<=m) (hL:∀ e∈ds,Lay m e)
    (hfr:0 < k->∀ e∈ds,∀ n':Int,0<=n'->∃ d,fr [e,.int n',.int (k-1)]=some d/\Lay m d):∃ d,Zo 6 (ZP fr) [.tup ds,.int n,.int k]=some d/\Lay (m+1) d:=by
  have hp:0 < ds.length:=List.length_pos_iff.mpr h0
  have d6:Q7 (.int n) (.int 6)=some (.int (n / 6)):=Vx (by decide) (by decide)
  have d72:Q7 (.int n) (.int 72)=some (.int (n / 72)):=Vx (by decide) (by decide)
  have d12:Q7 (.int n) (.int 12)=some (.int (n / 12)):=Vx (by decide) (by decide)
  have m6:YD (.int n) (.int 6)=some (.int (n % 6)):=Qh (by decide)
  have m2:YD (.int (n / 6)) (.int 2)=some (.int (n / 6 % 2)):=Qh (by decide)
  have m12:YD (.int (n / 12)) (.int 6)=some (.int (n / 12 % 6)):=Qh (by decide)
  have ml:YD (.int (n / 6)) (.int ds.length)=some (.int (n / 6 % ds.length)):=Qh (by omega)
  have i1:UU .tuple (.tup ds)=some (.bl true):=rfl
  have i2:UU .int (.tup ds)=some (.bl false):=rfl
  have hp':(0:Int) < ds.length:=by omega
  have t1:∀ a b c:Sl,ZhW [.val (.tup ds),.val (.int n),.val (.int k),a,b,c]=some (decide (0 < k)&&decide (0 < n % 6)):=by
    intro a b c
    unfold ZhW
    by_cases h:0 < k
    · simp -implicitDefEqProofs [i1,m6,hp,h]
    · simp -implicitDefEqProofs [h]
  have t2:∀ a b c:Sl,Zfi [.val (.tup ds),.val (.int n),.val (.int k),a,b,c]=some (decide (n / 6 % 2=0)):=by
    intro a b c
    unfold Zfi
    simp -implicitDefEqProofs [i1,d6,m2,hp]
  have t3:∀ a b c:Sl,Zfh [.val (.tup ds),.val (.int n),.val (.int k),a,b,c]=some false:=by
    intro a b c
    unfold Zfh
    simp -implicitDefEqProofs [i2]
  have go:∀ o:Out,Zu (Yb ZhW (spA fr) Zx) (Zu (Yb Zfi ZgX Zx) (Zu (Yb Zfh spC Zx) spE)) [.val (.tup ds),.val (.int n),.val (.int k),.no,.no,.no]=some o->∀ d,o=.rt d->Zo 6 (ZP fr) [.tup ds,.int n,.int k]=some d:=by
    intro o e d ho
    unfold Zo
    rw [ZdZ]
    show (Zu _ _ [.val (.tup ds),.val (.int n),.val (.int k),.no,.no,.no]).bind _=_
    rw [e,ho]; rfl
  by_cases c1:0 < k/\0 < n % 6
  · -- a part is spoilt
    have r:=Int.emod_nonneg (n / 6) (show (ds.length:Int)≠0 by omega)
    have r':=Int.emod_lt_of_pos (n / 6) hp'
    obtain ⟨a,ha⟩:∃ a:Nat,(a:Int)=n / 6 % ds.length:=⟨(n / 6 % ds.length).toNat,by omega⟩
    have hal:a < ds.length:=by omega
    have ix:dIx (.tup ds) (.int a)=some ds[a]:=by
      show atI ds a=_
      unfold atI
      rw [Zdk (by omega) (by omega),Int.emod_eq_of_lt (by omega) (by omega)]
      show ds[((a:Int)).toNat]?=_
      rw [Int.toNat_natCast,List.getElem?_eq_getElem hal]
    obtain ⟨x,ex,lx⟩:=hfr c1.1 ds[a] (List.getElem_mem hal) (n / 72) (Int.ediv_nonneg hn (by omega))
    have s1:Zgu none (some (a:Int)) (.tup ds)=some (.tup (cutD ds none (some (a:Int)))):=rfl
    have s2:Zgu (some ((a:Int)+1)) none (.tup ds)=some (.tup (cutD ds (some ((a:Int)+1)) none)):=rfl
    have l1:=VB ds none (some (a:Int))
    have l2:=VB ds (some ((a:Int)+1)) none
    have a1:ZU (.tup (cutD ds none (some (a:Int)))) (.tup [x])=some (.tup (cutD ds none (some (a:Int))++[x])):=ZbG (by simp; omega)
    have a2:ZU (.tup (cutD ds none (some (a:Int))++[x])) (.tup (cutD ds (some ((a:Int)+1)) none))=some (.tup (cutD ds none (some (a:Int))++[x]++cutD ds (some ((a:Int)+1)) none)):=ZbG (by simp; omega)
    have one:(1:Nat)<=lim:=ZW (by decide)
    refine ⟨.tup (cutD ds none (some (a:Int))++[x]++cutD ds (some ((a:Int)+1)) none),go _ ?_ _ rfl,lay_tup.mpr fun e he=>?_⟩
    · rw [ZB,Ji,t1,show (decide (0 < k)&&decide (0 < n % 6))=true by simp [c1.1,c1.2],Option.bind_some]
      have hA:spA fr [.val (.tup ds),.val (.int n),.val (.int k),.no,.no,.no]=some (.rt (.tup (cutD ds none (some (a:Int))++[x]++cutD ds (some ((a:Int)+1)) none))):=by
        unfold spA
        rw [<-ha] at ml
        simp -implicitDefEqProofs [d6,ml,ix,d72,ex,s1,s2,a1,a2,one]
      show (match spA fr [.val (.tup ds),.val (.int n),.val (.int k),.no,.no,.no] with | some (.nx ρ1)=>_ | r=>r)=_
      rw [hA]
    · simp only [List.mem_append,List.mem_cons,List.not_mem_nil,or_false] at he
      rcases he with (he | he) | he
      · exact hL e (VA he)
      · subst he; exact lx
      · exact hL e (VA he)
  · have q1:Yb ZhW (spA fr) Zx [.val (.tup ds),.val (.int n),.val (.int k),.no,.no,.no]=some (.nx [.val (.tup ds),.val (.int n),.val (.int k),.no,.no,.no]):=by
      have:(decide (0 < k)&&decide (0 < n % 6))=false:=by
        cases z:(decide (0 < k)&&decide (0 < n % 6)) with
        | false=>rfl
        | true=>simp at z; exact absurd z c1
      rw [Ji,t1,this]; rfl
    by_cases c2:n / 6 % 2=0
    · have r:0<=n / 12 % 6/\n / 12 % 6 < 6:=⟨Int.emod_nonneg _ (by omega),Int.emod_lt_of_pos _ (by omega)⟩
      have l1:=VB ds none (some (-1))
      have l2:=VB ds (some (-1)) none
      have l3:=VB ds (some 1) none
      have l4:=VB ds none (some 1)
      have a1:ZU (.tup ds) (.tup (cutD ds (some (-1)) none))=some (.tup (ds++cutD ds (some (-1)) none)):=ZbG (by omega)
      have a2:ZU (.tup (cutD ds (some 1) none)) (.tup (cutD ds none (some 1)))=some (.tup (cutD ds (some 1) none++cutD ds none (some 1))):=ZbG (by omega)
      have mt:Zgw (.tup ds) (.int 2)=some (.tup (ds++ds)):=by
        show (if (2:Int)=2/\ds≠[]/\ds.length+ds.length<=lim then _ else _)=_
        rw [if_pos ⟨rfl,h0,ZW (by omega)⟩]
      have lo:JX [.tup ds]=some (.lst ds):=rfl
      have sl1:Zgu none (some (-1)) (.tup ds)=some (.tup (cutD ds none (some (-1)))):=rfl
      have sl2:Zgu (some (-1)) none (.tup ds)=some (.tup (cutD ds (some (-1)) none)):=rfl
      have sl3:Zgu (some 1) none (.tup ds)=some (.tup (cutD ds (some 1) none)):=rfl
      have sl4:Zgu none (some 1) (.tup ds)=some (.tup (cutD ds none (some 1))):=rfl
      have six:(6:Nat)<=lim:=ZW (by decide)
      obtain ⟨d,hd,e⟩:=ZgK (xs:=[.lst ds,.tup (cutD ds none (some (-1))),.tup (ds++cutD ds (some (-1)) none),.tup (cutD ds (some 1) none++cutD ds none (some 1)),.tup ds.reverse,.tup (ds++ds)]) (j:=n / 12 % 6) r.1 (by simp; omega)
      have ix:dIx (.lst [.lst ds,.tup (cutD ds none (some (-1))),.tup (ds++cutD ds (some (-1)) none),.tup (cutD ds (some 1) none++cutD ds none (some 1)),.tup ds.reverse,.tup (ds++ds)]) (.int (n / 12 % 6))=some d:=e
      refine ⟨d,go _ ?_ _ rfl,?_⟩
      · rw [ZB,q1]
        show Zu (Yb Zfi ZgX Zx) _ [.val (.tup ds),.val (.int n),.val (.int k),.no,.no,.no]=_
        have hB:ZgX [.val (.tup ds),.val (.int n),.val (.int k),.no,.no,.no]=some (.rt d):=by
          unfold ZgX
          simp -implicitDefEqProofs [d12,m12,lo,sl1,sl2,sl3,sl4,a1,a2,mt,six,ix]
        rw [ZB,Ji,t2,decide_eq_true c2,Option.bind_some]
        show (match ZgX [.val (.tup ds),.val (.int n),.val (.int k),.no,.no,.no] with | some (.nx ρ1)=>_ | r=>r)=_
        rw [hB]
      · simp only [List.mem_cons,List.not_mem_nil,or_false] at hd
        rcases hd with rfl | rfl | rfl | rfl | rfl | rfl
        · exact lay_lst.mpr hL
        · exact lay_tup.mpr fun e he=>hL e (VA he)
        · exact lay_tup.mpr fun e he=>(List.mem_append.mp he).elim (hL e) fun z=>hL e (VA z)
        · exact lay_tup.mpr fun e he=>(List.mem_append.mp he).elim (fun z=>hL e (VA z)) fun z=>hL e (VA z)
        · exact lay_tup.mpr fun e he=>hL e (List.mem_reverse.mp he)
        · exact lay_tup.mpr fun e he=>(List.mem_append.mp he).elim (hL e) (hL e)
    · have q2:Yb Zfi ZgX Zx [.val (.tup ds),.val (.int n),.val (.int k),.no,.no,.no]=some (.nx [.val (.tup ds),.val (.int n),.val (.int k),.no,.no,.no]):=by
        rw [Ji,t2,decide_eq_false c2]; rfl
      have q3:Yb Zfh spC Zx [.val (.tup ds),.val (.int n),.val (.int k),.no,.no,.no]=some (.nx [.val (.tup ds),.val (.int n),.val (.int k),.no,.no,.no]):=by
        rw [Ji,t3]; rfl
      obtain ⟨d,e,l⟩:=Zj3 (n:=n) (k:=k) (.tup ds) .no .no .no
      refine ⟨d,go (.rt d) ?_ d rfl,l.up (by omega)⟩
      rw [ZB,q1]
      show Zu (Yb Zfi ZgX Zx) _ [.val (.tup ds),.val (.int n),.val (.int k),.no,.no,.no]=_
      rw [ZB,q2]
      show Zu (Yb Zfh spC Zx) _ [.val (.tup ds),.val (.int n),.val (.int k),.no,.no,.no]=_
      rw [ZB,q3]
      exact e
theorem Zj2 {fr:List D->Option D} {i:Int} (hi:-1000000<=i/\i<=1000000):∃ d,Zo 6 (ZP fr) [.int i,.int n,.int k]=some d/\Lay 2 d:=by
  have d6:Q7 (.int n) (.int 6)=some (.int (n / 6)):=Vx (by decide) (by decide)
  have d12:Q7 (.int n) (.int 12)=some (.int (n / 12)):=Vx (by decide) (by decide)
  have m2:YD (.int (n / 6)) (.int 2)=some (.int (n / 6 % 2)):=Qh (by decide)
  have m12:YD (.int (n / 12)) (.int 6)=some (.int (n / 12 % 6)):=Qh (by decide)
  have i1:UU .tuple (.int i)=some (.bl false):=rfl
  have i2:UU .int (.int i)=some (.bl true):=rfl
  have q1:Yb ZhW (spA fr) Zx [.val (.int i),.val (.int n),.val (.int k),.no,.no,.no]=some (.nx [.val (.int i),.val (.int n),.val (.int k),.no,.no,.no]):=by
    have:ZhW [.val (.int i),.val (.int n),.val (.int k),.no,.no,.no]=some false:=by
      unfold ZhW
      by_cases h:0 < k
      · simp -implicitDefEqProofs [i1,h]
      · simp -implicitDefEqProofs [h]
    rw [Ji,this]; rfl
  have q2:Yb Zfi ZgX Zx [.val (.int i),.val (.int n),.val (.int k),.no,.no,.no]=some (.nx [.val (.int i),.val (.int n),.val (.int k),.no,.no,.no]):=by
    have:Zfi [.val (.int i),.val (.int n),.val (.int k),.no,.no,.no]=some false:=by
      unfold Zfi
      simp -implicitDefEqProofs [i1]
    rw [Ji,this]; rfl
  have t3:Zfh [.val (.int i),.val (.int n),.val (.int k),.no,.no,.no]=some (decide (n / 6 % 2=0)):=by
    unfold Zfh
    simp -implicitDefEqProofs [i2,d6,m2]
  have go:∀ d:D,Zu (Yb Zfh spC Zx) spE [.val (.int i),.val (.int n),.val (.int k),.no,.no,.no]=some (.rt d)->Zo 6 (ZP fr) [.int i,.int n,.int k]=some d:=by
    intro d e
    unfold Zo
    rw [ZdZ]
    show (Zu _ _ [.val (.int i),.val (.int n),.val (.int k),.no,.no,.no]).bind _=_
    rw [ZB,q1]
    show (Zu (Yb Zfi ZgX Zx) _ [.val (.int i),.val (.int n),.val (.int k),.no,.no,.no]).bind _=_
    rw [ZB,q2]
    show (Zu (Yb Zfh spC Zx) spE [.val (.int i),.val (.int n),.val (.int k),.no,.no,.no]).bind _=_
    rw [e]; rfl
  by_cases c:n / 6 % 2=0
  · have r:0<=n / 12 % 6/\n / 12 % 6 < 6:=⟨Int.emod_nonneg _ (by omega),Int.emod_lt_of_pos _ (by omega)⟩
    have six:(6:Nat)<=lim:=ZW (by decide)
    have hs:WW [.int i]=some (.str (toString i)):=by
      have hz:i.natAbs.log2 < 1920:=by
        by_cases h0:i.natAbs=0
        · rw [h0]; decide
        · rw [Nat.log2_lt h0]
          have:i.natAbs < 2 ^ 20:=by omega
          exact Nat.lt_of_lt_of_le this (Nat.pow_le_pow_right (by decide) (by decide))
      show (if _ then _ else _)=_
      rw [if_pos hz]
    have lz:Lay 0 (.str (toString i)):=Zje (toString i)
    generalize D.str (Str.ofString (toString i))=zs at hs lz
    obtain ⟨d,hd,e⟩:=ZgK (xs:=[zs,.int (-i),.int (i+1),.bl (decide (i=1)),.int (i+97),.int (i-1)]) (j:=n / 12 % 6) r.1 (by simp; omega)
    have ix:dIx (.lst [zs,.int (-i),.int (i+1),.bl (decide (i=1)),.int (i+97),.int (i-1)]) (.int (n / 12 % 6))=some d:=e
    refine ⟨d,go d ?_,?_⟩
    · have hC:spC [.val (.int i),.val (.int n),.val (.int k),.no,.no,.no]=some (.rt d):=by
        unfold spC
        simp -implicitDefEqProofs [d12,m12,hs,six,ix]
      rw [ZB,Ji,t3,decide_eq_true c,Option.bind_some]
      show (match spC [.val (.int i),.val (.int n),.val (.int k),.no,.no,.no] with | some (.nx ρ1)=>_ | r=>r)=_
      rw [hC]
    · simp only [List.mem_cons,List.not_mem_nil,or_false] at hd
      rcases hd with rfl | rfl | rfl | rfl | rfl | rfl
      · exact lz.up (by decide)
      · exact (Vr _).up (by decide)
      · exact (Vr _).up (by decide)
      · exact (ZkN _).up (by decide)
      · exact (Vr _).up (by decide)
      · exact (Vr _).up (by decide)
  · obtain ⟨d,e,l⟩:=Zj3 (n:=n) (k:=k) (.int i) .no .no .no
    refine ⟨d,go d ?_,l⟩
    have q3:Yb Zfh spC Zx [.val (.int i),.val (.int n),.val (.int k),.no,.no,.no]=some (.nx [.val (.int i),.val (.int n),.val (.int k),.no,.no,.no]):=by
      rw [Ji,t3,decide_eq_false c]; rfl
    rw [ZB,q3]
    exact e
end
theorem ZlK {fr:List D->Option D} {n k:Int} {p:Pt} (hn:0<=n) (hp:Sm p) (hfr:0 < k->∀ i:Int,(-1000000<=i/\i<=1000000)->∀ n':Int,0<=n'->∃ d,fr [.int i,.int n',.int (k-1)]=some d/\Lay 2 d):∃ d,Zo 6 (ZP fr) [pD p,.int n,.int k]=some d/\Lay 3 d:=by
  refine ZhU (ds:=[.int p.1,.int p.2]) (m:=2) (by simp) (by simp) hn (by decide) (fun e he=>?_) fun hk e he n' hn'=>?_
  · simp only [List.mem_cons,List.not_mem_nil,or_false] at he
    rcases he with rfl | rfl <;> exact (Vr _).up (by decide)
  · simp only [List.mem_cons,List.not_mem_nil,or_false] at he
    rcases he with rfl | rfl
    · exact hfr hk p.1 hp.1 n' hn'
    · exact hfr hk p.2 hp.2 n' hn'
theorem Zh9 (p:Pt):Lay 1 (pD p):=lay_tup.mpr fun e he=>by
  simp only [List.mem_cons,List.not_mem_nil,or_false] at he
  rcases he with rfl | rfl <;> exact Vr _
theorem Zei {d:D} {n k:Int} (hd:TP d) (hn:0<=n) (hk:k<=2):∃ d',Qr [d,.int n,.int k]=some d'/\Lay 4 d':=by
  obtain ⟨ps,rfl,hne,hl,hs⟩:=hd
  refine ZhU (fr:=JU) (ds:=ps.map pD) (m:=3) (by simpa using hne) (by simp; omega) hn (by decide) (fun e he=>?_) fun hk0 e he n' hn'=>?_
  · obtain ⟨p,_,rfl⟩:=List.mem_map.mp he
    exact (Zh9 p).up (by decide)
  · obtain ⟨p,hp,rfl⟩:=List.mem_map.mp he
    refine ZlK (fr:=JV) hn' (hs p hp) fun hk1 i hi n2 hn2=>?_
    exact Zj2 hi
theorem TP.lay {d:D} (h:TP d):Lay 2 d:=by
  obtain ⟨ps,rfl,_⟩:=h
  refine lay_tup.mpr fun e he=>?_
  obtain ⟨p,_,rfl⟩:=List.mem_map.mp he
  exact Zh9 p
theorem ZiT {n wide:Int} (hw:3<=wide) (hw2:wide<=1000):∃ d,YM [.int n,.int wide]=some d/\TP d:=by
  obtain ⟨qs,b,src,b0,b1,pl⟩:=ZhB (n:=n) (wide:=wide) hw hw2
  have pm:=Zdl (qs.map (shf b))
  refine ⟨_,pl,_,rfl,fun z=>?_,?_,fun p hp=>?_⟩
  · have:=pm.length_eq
    rw [z,List.length_map] at this
    exact src.ne (List.eq_nil_of_length_eq_zero this.symm)
  · rw [pm.length_eq,List.length_map]
    have:=src.len; omega
  · obtain ⟨r,hr,rfl⟩:=List.mem_map.mp (pm.mem_iff.mp hp)
    have:=src.rng hw r hr
    show (-1000000<=r.1-b/\r.1-b<=1000000)/\(-1000000<=r.2/\r.2<=1000000)
    omega
theorem Zl2 {t:DT} {e:DE} {ρ:Rho} {b:Bool} {x:D} {P:D->Prop} {a b' c:Sl} (hρ:ρ=[a,b',.val x,c]) (ht:t ρ=some b) (hx:P x) (he:b=true->∃ y,e ρ=some y/\P y):∃ y,Yb t (Ya 2 e) Zx ρ=some (.nx [a,b',.val y,c])/\P y:=by
  subst hρ
  cases b with
  | false=>exact ⟨x,by rw [Ji,ht]; rfl,hx⟩
  | true=>
    obtain ⟨y,e1,hy⟩:=he rfl
    refine ⟨y,?_,hy⟩
    rw [Ji,ht,Option.bind_some]
    show Ya 2 e _=_
    rw [Zcp,e1]; rfl
end Pl
namespace L3
open PySem PySem.Spec PyProof.Rows L2
section
variable {X:Cx} {pos:Pos} {e:Expr} {f g:DE}
noncomputable def Zm8:V->Option Int->Option Int->Hp->VK->Prop:=fun x lo hi H Q=>∃ z,x=.str z/\z.length<=lim/\Q (.str (Txt.slice z lo hi)) H
theorem ZfK {v:Value} {o:Option Int} (p:IsPart v o):∃ l:Option (Int×Tok),partValue l=v/\l.map (·.1)=o:=by
  cases p with
  | none=>exact ⟨none,rfl,rfl⟩
  | int i t=>exact ⟨some (i,t),rfl,rfl⟩
theorem Zj6:SlR X Zm8:=by
  intro pins s σ H x v vl vu lo hi sl Q I rx hs pl pu h
  obtain ⟨z,rfl,hz,q⟩:=h
  obtain ⟨t,rfl⟩:=rx
  obtain ⟨l,rfl,rfl⟩:=ZfK pl
  obtain ⟨u,rfl,rfl⟩:=ZfK pu
  exact ⟨"str",_,PySem.F.slot_str_getitem.lookup,typeIs_str _ _ _,wpAny_getItem_str_slice (l:=l) (u:=u) (st:=none) hs rfl (post_val_or_str ⟨Nat.le_trans (Txt.slice_le z _ _) (Jc hz),fun t' k=>⟨.str _,H,I.tok k,⟨_,rfl⟩,q⟩⟩)⟩
noncomputable def Zjw (lo hi:Option Int):D->Option D
  | .str z=>if z.length<=lim then some (.str (Txt.slice z lo hi)) else none
  | _=>none
noncomputable def ZmM (f:DE) (l h:DO):DE:=fun ρ=>(f ρ).bind fun x=>(l ρ).bind fun lo=>(h ρ).bind fun hi=>Zjw lo hi x
theorem Zk7 {lo hi:Option Expr} {l h:DO} {p2:Pos} (he:ED X e f) (hl:OD X lo l) (hh:OD X hi h):ED X (.Subscript e (.Slice lo hi none p2) pos) (ZmM f l h):=
  PE.imp (ZdO Zj6 he hl hh) fun σ H Q zq=>by
    obtain ⟨ρ,F0,H0,F,d,ok,e,q⟩:=zq
    obtain ⟨x,ex,e⟩:=bind_some e
    obtain ⟨lo,el,e⟩:=bind_some e
    obtain ⟨hi,eh,e⟩:=bind_some e
    refine ⟨ρ,F0,H0,F,x,ok,ex,fun v F1 H1 g1 r1=>⟨ρ,F0,H0,F1,lo,ok.grow g1,el,fun F2 H2 g2=>⟨ρ,F0,H0,F2,hi,(ok.grow g1).grow g2,eh,fun F3 H3 g3=>?_⟩⟩⟩
    unfold Zjw at e
    split at e
    · obtain ⟨hz,rfl⟩:=Z8 e
      unfold Rep at r1
      subst r1
      exact ⟨_,rfl,hz,q _ F3 H3 (g1.trans (g2.trans g3)) (by unfold Rep; rfl)⟩
    · cases e
noncomputable def dFs (sep:Str):D->D->Option D
  | .int i,.int j=>if i.natAbs.log2 < 1920/\j.natAbs.log2 < 1920/\(Str.empty++(toString i:Str)++sep++(toString j:Str)).length<=lim then some (.str (Str.empty++(toString i:Str)++sep++(toString j:Str))) else none
  | _,_=>none
theorem Zjv {a b:Expr} {sep:Str} {j} {p1 p2 p3:Pos} (ha:ED X a f) (hb:ED X b g) :
    ED X (.JoinedStr [.FormattedValue a (-1) none p1,.Constant (.str sep) j p2,.FormattedValue b (-1) none p3] pos) (Zh (dFs sep) f g):=by
  intro pins s σ H Q I h
  obtain ⟨ρ,F0,H0,F,d,ok,ed,q⟩:=h
  obtain ⟨x,ex,ed⟩:=bind_some ed
  obtain ⟨y,ey,ed⟩:=bind_some ed
  unfold dFs at ed
  split at ed
  · rename_i i k _
    obtain ⟨⟨h1,h2,h3⟩,rfl⟩:=Z8 ed
    have h3:=Jc h3
    have l1:(Str.empty++(toString i:Str)).length<=sizeLine:=by rw [strLen_append,strLen_append] at h3; omega
    have l2:(Str.empty++(toString i:Str)++sep).length<=sizeLine:=by rw [strLen_append] at h3; omega
    refine PyProof.Rows.JoinedStr_many (PyProof.Rows.joinParts_cons (PyProof.Rows.FormattedValue_plain (thn (ha pins s σ H (fun v H'=>∃ F',Grow F H F' H'/\Rep X.K F' H' (.int i) v) I ⟨ρ,F0,H0,F,_,ok,ex,fun v F' H' g r=>⟨F',g,r⟩⟩) fun v s1 zq=>?_)))
    obtain ⟨xv,H1,I1,r1,F1,g1,rx⟩:=zq
    unfold Rep at rx
    subst rx
    obtain ⟨t,rfl⟩:=r1
    refine PyProof.Rows.formatField_int_small h1 ⟨l1,PyProof.Rows.joinParts_cons (Calls.Constant_str ⟨l2,?_⟩)⟩
    have I2:=(I1.tok (s1.toks+1+1)).tok (s1.toks+1+1+1)
    refine PyProof.Rows.joinParts_cons (PyProof.Rows.FormattedValue_plain (thn (hb pins _ σ H1 (fun v H'=>∃ F',Grow F1 H1 F' H'/\Rep X.K F' H' (.int k) v) I2 ⟨ρ,F0,H0,F1,_,ok.grow g1,ey,fun v F' H' g r=>⟨F',g,r⟩⟩) fun v s2 zq=>?_))
    obtain ⟨xv,H2,I2,r2,F2,g2,rx⟩:=zq
    unfold Rep at rx
    subst rx
    obtain ⟨t,rfl⟩:=r2
    exact PyProof.Rows.formatField_int_small h2 ⟨h3,PyProof.Rows.joinParts_nil ⟨.str _,H2,(I2.tok _).tok _,⟨_,rfl⟩,q _ F2 H2 (g1.trans g2) (by unfold Rep; rfl)⟩ h3⟩
  · cases ed
noncomputable def ZcY:List D->Option (List Str)
  | []=>some []
  | .str z::r=>(ZcY r).map (z::·)
  | _=>none
noncomputable def Zdp:D->D->Option D
  | .str sep,.lst ds=>(ZcY ds).bind fun zs=>if (zs.map (·.length)).sum+zs.length*sep.length<=lim then some (.str (Txt.join sep zs)) else none
  | _,_=>none
theorem ZdF {K:PySem.W.Frag} {F:Fz} {H:Hp}:∀ {ds:List D} {vs:List V} {us:List Value} {zs:List Str},RepL K F H ds vs->Vals vs us->ZcY ds=some zs->StrsAre us zs
  | [],vs,us,zs,r,v,e=>by
    cases e
    cases r.unnil
    cases v
    exact .nil
  | d::ds,vs,us,zs,r,v,e=>by
    obtain ⟨w,vs',rfl,r1,r2⟩:=r.uncons
    cases d with
    | str z=>
      obtain ⟨zs',e',rfl⟩:=map_some e
      unfold Rep at r1
      subst r1
      cases v with
      | cons v1 v2=>
        obtain ⟨t,rfl⟩:=v1
        exact .cons z t (ZdF r2 v2 e')
    | _=>cases e
noncomputable def ZlN (K:PySem.W.Frag):V->List V->Hp->VK->Prop:=fun x xs H Q=>∃ sep F ds u zs,x=.str sep/\xs=[u]/\Rep K F H (.lst ds) u/\ZcY ds=some zs/\(zs.map (·.length)).sum+zs.length*sep.length<=lim/\Q (.str (Txt.join sep zs)) H
theorem Zjb:MtM X "str.join" (ZlN X.K):=by
  intro pins s σ H x xs v us Q I rx rv h
  obtain ⟨sep,F,ds,u,zs,rfl,rfl,r,ez,hz,q⟩:=h
  obtain ⟨t,rfl⟩:=rx
  obtain ⟨u',rfl,ru⟩:=rv.one
  unfold Rep at r
  obtain ⟨a,vs,rfl,hf,hq,hr⟩:=r
  cases ru
  obtain ⟨its,rv,pl,_⟩:=I.list hq
  have hlen:(2:Nat) ^ 24=16777216:=by decide
  refine PyProof.Rows.join_list pl.isList (by simpa using ZdF hr rv ez) ?_ fun t' k=>⟨.str _,H,I.tok k,⟨_,rfl⟩,q⟩
  have:=Jc hz
  unfold sizeLine at this
  omega
theorem Zju {o:Expr} {apos cpos:Pos} (ho:ED X o f) (he:ED X e g)
    (hbase:attributeBase o "join" X.env (eval o X.env)=eval o X.env:=by rfl)
    (hfew:((backTo cpos (starEach [e] X.env)).all (fun x=>!x.1)&&(backToKw cpos (keywordEach [] X.env)).all (fun x=>x.1.isSome)
      && decide ([e].length+([]:List Keyword).length+(if ([]:List Keyword).isEmpty then 0 else 1) < 30))=true:=by rfl)
    (hline:(apos.endLine==cpos.line)=true:=by rfl) (hs:starEach [e] X.env=(false,eval e X.env)::starEach [] X.env:=by rfl) (hplain:(backTo cpos (starEach [] X.env)).any (·.1)=false:=by rfl) :
    ED X (.Call (.Attribute o "join" apos) [e] [] cpos) (Zh Zdp f g):=
  PE.imp (Zi0 PySem.F.plainAttrs_str PySem.F.slot_str_join PySem.F.type_str_join Zjb ho (Zb he Zf hs) hbase hfew hline hs hplain) fun σ H Q zq=>by
    obtain ⟨ρ,F0,H0,F,d,ok,e,q⟩:=zq
    obtain ⟨x,ex,e⟩:=bind_some e
    obtain ⟨y,ey,e⟩:=bind_some e
    unfold Zdp at e
    split at e
    · rename_i sep ds _
      obtain ⟨zs,ez,e⟩:=bind_some e
      obtain ⟨hz,rfl⟩:=Z8 e
      refine ⟨ρ,F0,H0,F,_,ok,ex,fun v F1 H1 g1 r1=>?_⟩
      unfold Rep at r1
      subst r1
      refine ⟨rfl,ρ,F0,H0,F1,[.lst ds],ok.grow g1,by simp [Zc,Zm,ey],fun ws F2 H2 g2 r2=>?_⟩
      obtain ⟨u,rfl,ru⟩:=UX r2
      exact ⟨sep,F2,ds,u,zs,rfl,rfl,ru,ez,hz,q _ F2 H2 (g1.trans g2) (by unfold Rep; rfl)⟩
    · cases e
end
end L3
namespace Pl
open PySem PySem.Spec PyProof.Rows L2 L3
noncomputable def Uo:DS:=(Zu (Ya 1 (Zh dIx (Zd 0) (Zg (.int 0))))
  (Zu (Ya 2 (Zh dIx (Zd 0) (Zg (.int 1))))
  (ZR (Zh (dFs (Str.ofString ",")) (Zd 1) (Zd 2)))))
noncomputable def ZX:List D->Option D:=Zo 3 Uo
noncomputable def Zcf:DS:=(Zu (Yb (YE (Zp (dFn 1 ZT (Zc (Zd 0) Zm)))) Zjy Zx)
  (ZR (Zh Zdp (Zg (.str (Str.ofString " "))) (QF [none] (QI (Zd 0)) (ZQ 0) ZV (dFn 1 ZX (Zc (Zd 0) Zm))))))
noncomputable def Qd:List D->Option D:=Zo 1 Zcf
noncomputable def Uq:DS:=(Zu (Ya 1 (Zg (.str (Str.ofString ""))))
  (Zu (Wi (QI (Zd 0)) (Yz 2 3) (Ya 1 (Zh ZU (Zh ZU (Zh ZU (Zh ZU (Zd 1) (Zg (.str (Str.ofString " ")))) (ZS WW (Zc (Zd 2) Zm))) (Zg (.str (Str.ofString ",")))) (ZS WW (Zc (Zd 3) Zm)))))
  (ZR (ZmM (Zd 1) (Qp (Zg (.int 1))) Qq))))
noncomputable def Yk:List D->Option D:=Zo 4 Uq
noncomputable def Vv:DS:=(Zu (Yb (YE (Zp (dFn 1 ZT (Zc (Zd 0) Zm)))) (ZR (Zg (.bl true))) Zx)
  (ZR (Zg (.bl false))))
noncomputable def Z1:List D->Option D:=Zo 1 Vv
noncomputable def Z4:List D->Option D:=fun ds=>(Z1 ds).bind fun b=>match b with | .bl true=>some (.bl true) | _=>none
noncomputable def Zz:List D->Option D:=fun ds=>(Z1 ds).bind fun b=>match b with | .bl true=>some (.bl true) | _=>none
noncomputable def tx (i:Int):Str:=Str.ofString (toString i)
noncomputable def spT (p:Pt):Str:=tx p.1++Str.ofString ","++tx p.2
theorem Wl {a b:Str} (h:a.cps.toList=b.cps.toList):a=b:=by
  cases a; cases b
  congr 1
  exact Array.toList_inj.mp h
theorem Vi (a b:Str):(a++b).cps.toList=a.cps.toList++b.cps.toList:=by
  show (a.cps++b.cps).toList=_
  simp
theorem ZcZ (a:Str):Str.empty++a=a:=Wl (by rw [Vi]; rfl)
theorem Wm (a b c:Str):a++b++c=a++(b++c):=Wl (by simp only [Vi,List.append_assoc])
theorem Za2 (a:Str):a.length=a.cps.toList.length:=by show a.cps.size=_; simp
theorem Ym (a b:Str):(a++b).length=a.length+b.length:=by rw [Za2,Za2,Za2,Vi,List.length_append]
theorem Zb1 {a b:Str} (ha:PyData.strOk a=true) (hb:PyData.strOk b=true):PyData.strOk (a++b)=true:=by
  unfold PyData.strOk at *
  show Array.all (a.cps++b.cps) _=true
  rw [Array.all_eq_true'] at *
  intro x hx
  rcases Array.mem_append.mp hx with h | h
  · exact ha x h
  · exact hb x h
theorem Ziu:∀ k:Fin 1999,(Str.ofString (toString ((k.val:Int)-999))).length<=4:=by decide +kernel
theorem Zat {i:Int} (h:-999<=i/\i<=999):(tx i).length<=4:=by
  have:=Ziu ⟨(i+999).toNat,by omega⟩
  rw [show (((i+999).toNat:Nat):Int)-999=i by omega] at this
  exact this
theorem Zcs:(Str.ofString ",").length=1:=by decide +kernel
theorem J4:(Str.ofString " ").length=1:=by decide +kernel
theorem Za3 {p:Pt} (h:Rg 999 p):(spT p).length<=9:=by
  unfold spT
  have h1:=Zat (i:=p.1) (by unfold Rg at h; omega)
  have h2:=Zat (i:=p.2) (by unfold Rg at h; omega)
  rw [Ym,Ym,Zcs]
  omega
theorem ZhV (p:Pt):PyData.strOk (spT p)=true:=Zb1 (Zb1 (ZbR _) (ZbR _)) (ZbR _)
theorem ZdU {i:Int} (h:-999<=i/\i<=999):i.natAbs.log2 < 1920:=by
  have h1:i.natAbs<=999:=by omega
  by_cases h0:i.natAbs=0
  · rw [h0]; decide
  · have h2:i.natAbs.log2<=i.natAbs:=Nat.log2_le_self _
    omega
theorem Znt {i j:Int} (hi:-999<=i/\i<=999) (hj:-999<=j/\j<=999):dFs (Str.ofString ",") (.int i) (.int j)=some (.str (spT (i,j))):=by
  have h1:=Zat hi
  have h2:=Zat hj
  have e:Str.empty++Str.ofString (toString i)++Str.ofString ","++Str.ofString (toString j)=spT (i,j):=by
    rw [ZcZ]; rfl
  show (if i.natAbs.log2 < 1920/\j.natAbs.log2 < 1920/\(Str.empty++Str.ofString (toString i)++Str.ofString ","++Str.ofString (toString j)).length<=lim then some (D.str (Str.empty++Str.ofString (toString i)++Str.ofString ","++Str.ofString (toString j))) else none)=_
  rw [e,if_pos ⟨ZdU hi,ZdU hj,ZW (Nat.le_trans (Za3 (p:=(i,j)) ⟨⟨hi.1,hi.2⟩,⟨hj.1,hj.2⟩⟩) (by decide))⟩]
theorem Zir {p:Pt} (h:Rg 999 p):ZX [pD p]=some (.str (spT p)):=by
  obtain ⟨x,y⟩:=p
  have h1:-999<=x/\x<=999:=by unfold Rg at h; simp at h; omega
  have h2:-999<=y/\y<=999:=by unfold Rg at h; simp at h; omega
  have e:=Znt h1 h2
  unfold ZX Zo Uo
  simp -implicitDefEqProofs [pD,e]
theorem ZjU:∀ (ps:List Pt) (s0:Sl),All (Rg 999) ps->YJ (ZQ 0) ZV (dFn 1 ZX (Zc (Zd 0) Zm)) (ps.map pD) (s0::[])=some (ps.map fun p=>.str (spT p))
  | [],_,_=>rfl
  | p::ps,s0,h=>by
    have ih:=ZjU ps (.val (pD p)) fun q hq=>h q (List.mem_cons_of_mem _ hq)
    simp -implicitDefEqProofs [YJ,ZV,Zir (h p List.mem_cons_self),ih]
theorem ZhT:∀ ps:List Pt,ZcY (ps.map fun p=>D.str (spT p))=some (ps.map spT)
  | []=>rfl
  | p::ps=>by
    show (ZcY (ps.map _)).map _=_
    rw [ZhT ps]; rfl
noncomputable def Qi:List Pt->Str
  | []=>Str.empty
  | p::ps=>Str.ofString " "++(spT p++Qi ps)
theorem Zd0:∀ {ps:List Pt},All (Rg 999) ps->(Qi ps).length<=10*ps.length
  | [],_=>Nat.le_refl _
  | p::ps,h=>by
    have ih:=Zd0 (ps:=ps) fun q hq=>h q (List.mem_cons_of_mem _ hq)
    have:=Za3 (h p List.mem_cons_self)
    show (Str.ofString " "++(spT p++Qi ps)).length<=_
    rw [Ym,Ym,J4,List.length_cons]
    omega
theorem Zh5:PyData.strOk Str.empty=true:=by decide +kernel
theorem Zgk:∀ ps:List Pt,PyData.strOk (Qi ps)=true
  | []=>Zh5
  | p::ps=>Zb1 (ZbR _) (Zb1 (ZhV p) (Zgk ps))
noncomputable def ZcX:List Pt->Str
  | []=>Str.empty
  | p::ps=>spT p++Qi ps
theorem Zix (ps:List Pt):PyData.strOk (ZcX ps)=true:=by
  cases ps with
  | nil=>exact Zh5
  | cons p ps=>exact Zb1 (ZhV p) (Zgk ps)
theorem Zcd:∀ ps:List Pt,Str.join (Str.ofString " ") (ps.map spT)=ZcX ps
  | []=>rfl
  | [p]=>Wl (by
      show (spT p).cps.toList=(spT p++Str.empty).cps.toList
      rw [Vi]
      show _=_++[]
      rw [List.append_nil])
  | p::q::ps=>by
    have ih:=Zcd (q::ps)
    show spT p++Str.ofString " "++Str.join (Str.ofString " ") ((q::ps).map spT)=spT p++(Str.ofString " "++(spT q++Qi ps))
    rw [ih,Wm]; rfl
theorem Zff:∀ {ps:List Pt},All (Rg 999) ps->((ps.map spT).map (·.length)).sum<=9*ps.length
  | [],_=>Nat.le_refl _
  | p::ps,h=>by
    have ih:=Zff (ps:=ps) fun q hq=>h q (List.mem_cons_of_mem _ hq)
    have:=Za3 (h p List.mem_cons_self)
    simp only [List.map_cons,List.sum_cons,List.length_cons] at *
    omega
theorem ZkW {ps:List Pt} (hl:ps.length<=12) (h:All (Rg 999) ps):Zdp (.str (Str.ofString " ")) (.lst (ps.map fun p=>.str (spT p)))=some (.str (ZcX ps)):=by
  unfold Zdp
  show (ZcY _).bind _=_
  have hs:=Zff h
  rw [ZhT,Option.bind_some,if_pos (ZW (by rw [J4,List.length_map]; omega))]
  show some (D.str (PySem.Builtin.Str.glued _ _))=_
  rw [StrLaws.glued_eq_join,Zcd]
theorem Zkc {ps:List Pt} (h:All (Rg 100) ps):All (Rg 999) ps:=fun p hp=>by
  have:=h p hp
  unfold Rg at *
  omega
theorem Ze3 {ps:List Pt} (h1:Uh ps.length=true) (h2':All (Rg 100) ps) (h3:JO ps=true):Qd [.tup (ps.map pD)]=some (.str (ZcX ps)):=by
  have hl:=lenOk_iff.mp h1
  have h2:=Zkc h2'
  have e:=ZdM h1 h2'
  rw [h3] at e
  have j:=ZkW hl.2 h2
  have c:=ZjU ps .no h2
  have z:(ps.map pD).length<=lim:=ZW (by rw [List.length_map]; omega)
  have s1:Yb (YE (Zp (dFn 1 ZT (Zc (Zd 0) Zm)))) Zjy Zx [.val (.tup (ps.map pD))]=some (.nx [.val (.tup (ps.map pD))]):=by
    simp -implicitDefEqProofs [e]
  have s2:QF [none] (QI (Zd 0)) (ZQ 0) ZV (dFn 1 ZX (Zc (Zd 0) Zm)) [.val (.tup (ps.map pD))]=some (.lst (ps.map fun p=>.str (spT p))):=by
    show (if (ps.map pD).length<=lim then (YJ (ZQ 0) ZV (dFn 1 ZX (Zc (Zd 0) Zm)) (ps.map pD) [.no]).map D.lst else none)=_
    rw [if_pos z,c]; rfl
  unfold Qd Zo Zcf
  show (Zu _ _ [.val (.tup (ps.map pD))]).bind _=_
  rw [ZB,s1]
  show (((Zh Zdp (Zg (.str (Str.ofString " "))) _ [.val (.tup (ps.map pD))]).map Out.rt:Option Out).bind _)=_
  show ((((QF _ _ _ _ _ [.val (.tup (ps.map pD))]).bind fun y=>Zdp (.str (Str.ofString " ")) y).map Out.rt:Option Out).bind _)=_
  rw [s2,Option.bind_some,j]; rfl
theorem Zar {d:D} (h:Zce d=false):Z1 [d]=some (.bl true):=by
  have e:=Zf9 d
  rw [h] at e
  have s1:Yb (YE (Zp (dFn 1 ZT (Zc (Zd 0) Zm)))) (ZR (Zg (.bl true))) Zx [.val d]=some (.rt (.bl true)):=by
    simp -implicitDefEqProofs [e]
  unfold Z1 Zo Vv
  show (Zu _ _ [.val d]).bind _=_
  rw [ZB,s1]; rfl
theorem Zfz {d:D} (h:Zce d=false):Z4 [d]=some (.bl true):=by
  unfold Z4
  rw [Zar h]; rfl
theorem Zeo {d:D} (h:Zce d=false):Zz [d]=some (.bl true):=by
  unfold Zz
  rw [Zar h]; rfl
noncomputable def lwB:DS:=(Ya 1 (Zh ZU (Zh ZU (Zh ZU (Zh ZU (Zd 1) (Zg (.str (Str.ofString " ")))) (ZS WW (Zc (Zd 2) Zm))) (Zg (.str (Str.ofString ",")))) (ZS WW (Zc (Zd 3) Zm))))
theorem Zlt {a b:Str} (h:(a++b).length<=1000):ZU (.str a) (.str b)=some (.str (a++b)):=by
  rw [Ym] at h
  show (if a.length+b.length<=lim then some (D.str (a++b)) else none)=_
  rw [if_pos (ZW h)]
theorem Zjd {t:D} {z:Str} {p:Pt} (h:Rg 999 p) (hz:z.length<=500):lwB [.val t,.val (.str z),.val (.int p.1),.val (.int p.2)]=some (.nx [.val t,.val (.str (z++(Str.ofString " "++spT p))),.val (.int p.1),.val (.int p.2)]):=by
  have h1:-999<=p.1/\p.1<=999:=by unfold Rg at h; omega
  have h2:-999<=p.2/\p.2<=999:=by unfold Rg at h; omega
  have l1:=Zat h1
  have l2:=Zat h2
  have c1:=Zcs
  have c2:=J4
  have i1:WW [.int p.1]=some (.str (tx p.1)):=by show (if p.1.natAbs.log2 < 1920 then some (D.str (Str.ofString (toString p.1))) else none)=_; rw [if_pos (ZdU h1)]; rfl
  have i2:WW [.int p.2]=some (.str (tx p.2)):=by show (if p.2.natAbs.log2 < 1920 then some (D.str (Str.ofString (toString p.2))) else none)=_; rw [if_pos (ZdU h2)]; rfl
  have a1:ZU (.str z) (.str (Str.ofString " "))=some (.str (z++Str.ofString " ")):=Zlt (by rw [Ym]; omega)
  have a2:ZU (.str (z++Str.ofString " ")) (.str (tx p.1))=some (.str (z++Str.ofString " "++tx p.1)):=Zlt (by rw [Ym,Ym]; omega)
  have a3:ZU (.str (z++Str.ofString " "++tx p.1)) (.str (Str.ofString ","))=some (.str (z++Str.ofString " "++tx p.1++Str.ofString ",")):=Zlt (by rw [Ym,Ym,Ym]; omega)
  have a4:ZU (.str (z++Str.ofString " "++tx p.1++Str.ofString ",")) (.str (tx p.2))=some (.str (z++Str.ofString " "++tx p.1++Str.ofString ","++tx p.2)):=Zlt (by rw [Ym,Ym,Ym,Ym]; omega)
  have e:z++Str.ofString " "++tx p.1++Str.ofString ","++tx p.2=z++(Str.ofString " "++spT p):=by
    unfold spT
    simp only [Wm]
  rw [e] at a4
  unfold lwB
  generalize Str.ofString " "=bl at *
  generalize Str.ofString ","=cm at *
  simp -implicitDefEqProofs [i1,i2,a1,a2,a3,a4]
theorem ZdT {t:D}:∀ (ps:List Pt) (z:Str) (a b:Sl),All (Rg 999) ps->z.length+10*ps.length<=500->∃ a' b',Jf (Yz 2 3) lwB (ps.map pD) [.val t,.val (.str z),a,b]=some (.nx [.val t,.val (.str (z++Qi ps)),a',b'])
  | [],z,a,b,_,_=>⟨a,b,by
      have:z++Qi []=z:=Wl (by rw [Vi]; exact List.append_nil _)
      rw [this]; rfl⟩
  | p::ps,z,a,b,h,hz=>by
    have hp:=h p List.mem_cons_self
    have hl:=Za3 hp
    rw [List.length_cons] at hz
    obtain ⟨a',b',ih⟩:=ZdT ps (z++(Str.ofString " "++spT p)) (.val (.int p.1)) (.val (.int p.2)) (fun q hq=>h q (List.mem_cons_of_mem _ hq)) (by rw [Ym,Ym,J4]; omega)
    refine ⟨a',b',?_⟩
    have e:z++Qi (p::ps)=z++(Str.ofString " "++spT p)++Qi ps:=by
      show z++(Str.ofString " "++(spT p++Qi ps))=_
      simp only [Wm]
    rw [e,<-ih]
    show (match lwB [.val t,.val (.str z),.val (.int p.1),.val (.int p.2)] with
      | some (.nx ρ2)=>Jf (Yz 2 3) lwB (ps.map pD) ρ2
      | some (.ct ρ2)=>Jf (Yz 2 3) lwB (ps.map pD) ρ2
      | some (.bk ρ2)=>some (.nx ρ2)
      | r=>r)=_
    rw [Zjd hp (by omega)]
theorem Zgy {p:Pt} {ps:List Pt} (h:All (Rg 999) (p::ps)):Txt.slice (Str.empty++Qi (p::ps)) (some 1) none=ZcX (p::ps):=by
  rw [ZcZ]
  have hl:1<=(Qi (p::ps)).length:=by
    show 1<=(Str.ofString " "++(spT p++Qi ps)).length
    rw [Ym,J4]; omega
  rw [PyProof.Rows.slice_from_eq (b:=((Qi (p::ps)).length:Int)) (by decide) (by omega) rfl]
  apply Wl
  show (List.take _ (List.drop 1 (Str.ofString " "++(spT p++Qi ps)).cps.toList))=(spT p++Qi ps).cps.toList
  have hb:(Str.ofString " ").cps.toList=[32]:=by decide +kernel
  have hc:(Str.ofString " "++(spT p++Qi ps)).cps.toList=32::(spT p++Qi ps).cps.toList:=by rw [Vi,hb]; rfl
  rw [hc]
  show List.take _ (spT p++Qi ps).cps.toList=_
  rw [List.take_of_length_le]
  rw [Za2]
  show _<=(((Str.ofString " "++(spT p++Qi ps)).cps.toList.length:Int)-1).toNat
  rw [hc,List.length_cons]
  omega
theorem ZeA {ps:List Pt} (h0:ps≠[]) (hl:ps.length<=12) (h2:All (Rg 999) ps):Yk [.tup (ps.map pD)]=some (.str (ZcX ps)):=by
  obtain ⟨a',b',lp⟩:=ZdT (t:=.tup (ps.map pD)) ps (Str.ofString "") .no .no h2 (by rw [show (Str.ofString "").length=0 by decide +kernel]; omega)
  have e0:Str.ofString ""=Str.empty:=by decide +kernel
  have s1:Ya 1 (Zg (.str (Str.ofString ""))) [.val (.tup (ps.map pD)),.no,.no,.no]=some (.nx [.val (.tup (ps.map pD)),.val (.str (Str.ofString "")),.no,.no]):=rfl
  have it:QI (Zd 0) [.val (.tup (ps.map pD)),.val (.str (Str.ofString "")),.no,.no]=some (ps.map pD):=rfl
  unfold Yk Zo Uq
  show (Zu _ (Zu (Wi (QI (Zd 0)) (Yz 2 3) lwB) _) [.val (.tup (ps.map pD)),.no,.no,.no]).bind _=_
  rw [ZB,s1]
  show (Zu (Wi (QI (Zd 0)) (Yz 2 3) lwB) _ [.val (.tup (ps.map pD)),.val (.str (Str.ofString "")),.no,.no]).bind _=_
  rw [ZB,Va,it,Option.bind_some,lp]
  show (((Zjw (some 1) none (.str (Str.ofString ""++Qi ps))).map Out.rt:Option Out).bind _)=_
  have hf:=Zd0 h2
  have hz:(Str.ofString ""++Qi ps).length<=lim:=ZW (by rw [e0,ZcZ]; omega)
  show ((((if (Str.ofString ""++Qi ps).length<=lim then some (D.str (Txt.slice (Str.ofString ""++Qi ps) (some 1) none)) else none):Option D).map Out.rt:Option Out).bind _)=_
  rw [if_pos hz,e0]
  cases ps with
  | nil=>exact absurd rfl h0
  | cons p ps=>rw [Zgy h2]; rfl
theorem eqS {a:Str} (h:PyData.strOk a=true):VQ (.str a) (.str a)=some (.bl true):=by
  have l:Lay 0 (.str a):=⟨h,Nat.le_refl _⟩
  have o:=ZfP l (by decide)
  unfold VQ
  rw [o]
  show some (D.bl (PyData.eqv (.str a) (.str a)))=_
  have:PyData.eqv (.str a) (.str a)=true:=by simp [PyData.eqv]
  rw [this]
end Pl
namespace Pl.k02
open PySem PySem.Spec PyProof.Rows L2 L3 Pl
noncomputable def Zk1:DS:=(Zu (Ya 1 (dFn 2 ZH (Zc (Zd 0) (Zc (Zg (.int 1)) Zm))))
  (Zu (Ya 2 (dFn 2 YM (Zc (dFn 2 ZH (Zc (Zd 0) (Zc (Zg (.int 0)) Zm))) (Zc (Zh dIx (YV (Zc (Zg (.int 4)) (Zc (Zg (.int 9)) (Zc (Zg (.int 100)) Zm)))) (Zh YD (Zd 1) (Zg (.int 3)))) Zm))))
  (Zu (Yb (Zp (Zh VQ (Zh YD (Zh Q7 (Zd 1) (Zg (.int 3))) (Zg (.int 3))) (Zg (.int 1)))) (Ya 2 (dFn 3 Qr (Zc (Zd 2) (Zc (dFn 2 ZH (Zc (Zd 0) (Zc (Zg (.int 2)) Zm))) (Zc (Zh YD (Zh Q7 (Zd 1) (Zg (.int 9))) (Zg (.int 3))) Zm))))) Zx)
  (Zu (Yb (YE (Zp (dFn 1 ZI (Zc (Zd 2) Zm)))) (Zu (Yb (Zp (Zh VQ (Zh YD (Zh Q7 (Zd 1) (Zg (.int 27))) (Zg (.int 2))) (Zg (.int 0)))) (ZR (dFn 1 Z4 (Zc (Zd 2) Zm))) Zx)
  (ZR (dFn 1 Zz (Zc (Zd 2) Zm)))) Zx)
  (Zu (Ya 3 (dFn 1 Qd (Zc (Zd 2) Zm)))
  (ZR (Zaa (QN (UU .str) (Zd 3)) (Zaa (Zh VQ (Zd 3) (dFn 1 Yk (Zc (Zd 2) Zm))) (Zh VQ (dFn 1 Qd (Zc (Zd 2) Zm)) (Zd 3))))))))))
noncomputable def ZeH:List D->Option D:=Zo 4 Zk1
def top (i:Nat):Stmt:=PySem.Challenge.pw_plotstead_k02_written.main.body.getD i (.Pass ⟨0,0,0,0⟩)
section
variable {P:Program} {w:World} {K:PySem.W.Frag} {mg:Str->Option Value} {base:Heap}
noncomputable abbrev Zfv:Stmt:=top 5
noncomputable abbrev Zli:List Str:=["a","b","c"]
theorem ZiG:Zr Zli ["a","b","c"] (Zi Zfv):=⟨rfl,rfl,rfl,by decide +kernel,rfl,by decide +kernel,by decide +kernel⟩
noncomputable abbrev ZcN (P:Program) (w:World) (K:PySem.W.Frag) (mg:Str->Option Value) (base:Heap):=Z0 P w K mg base "turn" 1 ["a","b","c"] Us
theorem Zi3 (B:Blt mg):OkD P w K mg base "turn" Zfv 1 ["a","b","c"] Us:=fun F=>Jg F ZiG rfl rfl fun cdv A outer s H E hr=>by
  refine ⟨_,?_,(Zl (Zs (Zj Q1 (Zj YR (Zj Q1 (Zy Ye (Za (pv 1)) Ze (fun _ _=>rfl)) (Zy Ye (Za (pv 0)) Ze (fun _ _=>rfl))) (Zj Q1 (Zy Ye (Za (pv 2)) Ze (fun _ _=>rfl)) (Zy Ye (Za (pv 0)) Ze (fun _ _=>rfl)))) (Zj YR (Zj Q1 (Zy Ye (Za (pv 1)) Ze (fun _ _=>rfl)) (Zy Ye (Za (pv 0)) Ze (fun _ _=>rfl))) (Zj Q1 (Zy Ye (Za (pv 2)) Ze (fun _ _=>rfl)) (Zy Ye (Za (pv 0)) Ze (fun _ _=>rfl)))))))⟩
  rfl
noncomputable abbrev JI:Stmt:=top 6
noncomputable abbrev ZcG:List Str:=["a","b","c"]
theorem Za5:Zr ZcG ["a","b","c"] (Zi JI):=⟨rfl,rfl,rfl,by decide +kernel,rfl,by decide +kernel,by decide +kernel⟩
noncomputable abbrev J5 (P:Program) (w:World) (K:PySem.W.Frag) (mg:Str->Option Value) (base:Heap):=Z0 P w K mg base "turns_left" 2 ["a","b","c"] Yr
theorem Zbc (B:Blt mg) (d_turn:ZcN P w K mg base):OkD P w K mg base "turns_left" JI 2 ["a","b","c"] Yr:=fun F=>Jg F Za5 rfl rfl fun cdv A outer s H E hr=>by
  refine ⟨_,?_,(Zl (Zs (JB ZjP (Zn d_turn hr (by decide) rfl (Zb (Za (pv 0)) (Zb (Za (pv 1)) (Zb (Za (pv 2)) Zf)))) Ze (ZY _))))⟩
  rfl
noncomputable abbrev Jm:Stmt:=top 7
noncomputable abbrev ZbJ:List Str:=["a","b","c"]
theorem Zab:Zr ZbJ ["a","b","c"] (Zi Jm):=⟨rfl,rfl,rfl,by decide +kernel,rfl,by decide +kernel,by decide +kernel⟩
noncomputable abbrev Vg (P:Program) (w:World) (K:PySem.W.Frag) (mg:Str->Option Value) (base:Heap):=Z0 P w K mg base "turns_right" 2 ["a","b","c"] Yx
theorem Zad (B:Blt mg) (d_turn:ZcN P w K mg base):OkD P w K mg base "turns_right" Jm 2 ["a","b","c"] Yx:=fun F=>Jg F Zab rfl rfl fun cdv A outer s H E hr=>by
  refine ⟨_,?_,(Zl (Zs (JB ZkB (Zn d_turn hr (by decide) rfl (Zb (Za (pv 0)) (Zb (Za (pv 1)) (Zb (Za (pv 2)) Zf)))) Ze (ZY _))))⟩
  rfl
noncomputable abbrev QU:Stmt:=top 8
noncomputable abbrev Zam:List Str:=["one","other","number"]
theorem Wp:Zr Zam ["one","other","number"] (Zi QU):=⟨rfl,rfl,rfl,by decide +kernel,rfl,by decide +kernel,by decide +kernel⟩
noncomputable abbrev Ux (P:Program) (w:World) (K:PySem.W.Frag) (mg:Str->Option Value) (base:Heap):=Z0 P w K mg base "lies_between" 1 ["one","other","number"] Yj
theorem Wz (B:Blt mg):OkD P w K mg base "lies_between" QU 1 ["one","other","number"] Yj:=fun F=>Jg F Wp rfl rfl fun cdv A outer s H E hr=>by
  refine ⟨_,?_,(Zl (Zs (Ud ZdP ZdP (ZF (ZgH rfl) rfl B.min PyProof.Rows.boot_min (Zb (Za (pv 0)) (Zb (Za (pv 1)) Zf))) (Za (pv 2)) (ZF (Zd7 rfl) rfl B.max PyProof.Rows.boot_max (Zb (Za (pv 0)) (Zb (Za (pv 1)) Zf))))))⟩
  rfl
noncomputable abbrev Wu:Stmt:=top 9
noncomputable abbrev ZgT:List Str:=["side","spot","a","b"]
@[irreducible] def AE (X:Cx) (e:Expr) (f:DE):Prop:=ED X e f
@[irreducible] def AA (X:Cx) (es:List Expr) (as:DA):Prop:=AD X es as
theorem AE.ed {X:Cx} {e:Expr} {f:DE} (h:AE X e f):ED X e f:=by unfold AE at h; exact h
theorem ae_e {X:Cx} {e:Expr} {f:DE} (h:ED X e f):AE X e f:=by unfold AE; exact h
theorem aa_n {X:Cx}:AA X [] Zm:=by unfold AA; exact Zf
theorem aa_c {X:Cx} {e:Expr} {es:List Expr} {f:DE} {as:DA} (a:AE X e f) (b:AA X es as) (h:starEach (e::es) X.env=(false,eval e X.env)::starEach es X.env:=by rfl):AA X (e::es) (Zc f as):=by unfold AA at b ⊢; exact Zb a.ed b h
theorem ae_l {X:Cx} {pos:Pos} {es:List Expr} {as:DA} (h:AA X es as):AE X (.List es pos) (Wh as):=by unfold AA at h; exact ae_e (Ut h)
theorem ae_t {X:Cx} {pos:Pos} {es:List Expr} {as:DA} {x1} (h:AA X es as):AE X (.Tuple es x1 pos) (YV as):=by unfold AA at h; exact ae_e (YA h)
theorem ae_i {X:Cx} {pos:Pos} {i:Int} {j}:AE X (.Constant (.int i) j pos) (Zg (.int i)):=ae_e Ze
theorem ae_b {X:Cx} {pos:Pos} {b:Bool} {j}:AE X (.Constant (.bool b) j pos) (Zg (.bl b)):=ae_e Q6
theorem ae_v {X:Cx} {pos:Pos} {j}:AE X (.Constant .none j pos) (Zg .non):=ae_e Zig
theorem ae_s {X:Cx} {pos:Pos} {x:Str} {j}:AE X (.Constant (.str x) j pos) (Zg (.str x)):=ae_e WV
theorem ae_m {X:Cx} {pos:Pos} {e:Expr} {f:DE} (h:AE X e f):AE X (.UnaryOp .USub e pos) (QN WX f):=ae_e (WU WG h.ed)
theorem sc_lies_on:Zr ZgT ["side","spot"] (Zi Wu):=⟨rfl,rfl,rfl,by decide +kernel,rfl,by decide +kernel,by decide +kernel⟩
noncomputable abbrev ZcO (P:Program) (w:World) (K:PySem.W.Frag) (mg:Str->Option Value) (base:Heap):=Z0 P w K mg base "lies_on" 2 ["side","spot"] Qe
theorem Zes (B:Blt mg) (d_turn:ZcN P w K mg base) (d_lies_between:Ux P w K mg base):OkD P w K mg base "lies_on" Wu 2 ["side","spot"] Qe:=fun F=>Jg F sc_lies_on rfl rfl fun cdv A outer s H E hr=>by
  refine ⟨_,?_,(Zk (ZN (i:=2) sc_lies_on.nd rfl (Or.inl rfl) (Zy Ye (Za (pv 0)) Ze (fun _ _=>rfl)))
      (Zk (ZN (i:=3) sc_lies_on.nd rfl (Or.inl rfl) (Zy Ye (Za (pv 0)) Ze (fun _ _=>rfl)))
      (Zk (Y1 (Yp (Zh6 hr.units) (Zn d_turn hr (by decide) rfl (Zb (Za (pv 2)) (Zb (Za (pv 3)) (Zb (Za (pv 1)) Zf)))) Ze (ZY _)) (Zl (Zs Q6)) ZJ)
      (Zl (Zs (Y2 (Zn d_lies_between hr (by decide) rfl (Zb (Zy Ye (Za (pv 2)) Ze (fun _ _=>rfl)) (Zb (Zy Ye (Za (pv 3)) Ze (fun _ _=>rfl)) (Zb (Zy Ye (Za (pv 1)) Ze (fun _ _=>rfl)) Zf)))) (QM (Zn d_lies_between hr (by decide) rfl (Zb (Zy Ye (Za (pv 2)) Ze (fun _ _=>rfl)) (Zb (Zy Ye (Za (pv 3)) Ze (fun _ _=>rfl)) (Zb (Zy Ye (Za (pv 1)) Ze (fun _ _=>rfl)) Zf)))))))))))⟩
  rfl
noncomputable abbrev JK:Stmt:=top 10
noncomputable abbrev ZcI:List Str:=["a","b","c","d"]
theorem Za7:Zr ZcI ["a","b","c","d"] (Zi JK):=⟨rfl,rfl,rfl,by decide +kernel,rfl,by decide +kernel,by decide +kernel⟩
noncomputable abbrev VX (P:Program) (w:World) (K:PySem.W.Frag) (mg:Str->Option Value) (base:Heap):=Z0 P w K mg base "line_parts" 3 ["a","b","c","d"] Ys
theorem Zbe (B:Blt mg) (d_turns_left:J5 P w K mg base) (d_turns_right:Vg P w K mg base):OkD P w K mg base "line_parts" JK 3 ["a","b","c","d"] Ys:=fun F=>Jg F Za7 rfl rfl fun cdv A outer s H E hr=>by
  refine ⟨_,?_,(Zk (Y1 (Yf (Zn d_turns_left hr (by decide) rfl (Zb (Za (pv 0)) (Zb (Za (pv 1)) (Zb (Za (pv 2)) Zf))))) (Zl (Zs (Zn d_turns_right hr (by decide) rfl (Zb (Za (pv 0)) (Zb (Za (pv 1)) (Zb (Za (pv 3)) Zf)))))) ZJ)
      (Zl (Zs (Y2 (Zn d_turns_right hr (by decide) rfl (Zb (Za (pv 0)) (Zb (Za (pv 1)) (Zb (Za (pv 2)) Zf)))) (QM (Zn d_turns_left hr (by decide) rfl (Zb (Za (pv 0)) (Zb (Za (pv 1)) (Zb (Za (pv 3)) Zf)))))))))⟩
  rfl
noncomputable abbrev JJ:Stmt:=top 11
noncomputable abbrev ZcH:List Str:=["one","other"]
theorem Za6:Zr ZcH ["one","other"] (Zi JJ):=⟨rfl,rfl,rfl,by decide +kernel,rfl,by decide +kernel,by decide +kernel⟩
noncomputable abbrev VW (P:Program) (w:World) (K:PySem.W.Frag) (mg:Str->Option Value) (base:Heap):=Z0 P w K mg base "sides_meet" 4 ["one","other"] ZD
theorem Zbd (B:Blt mg) (d_lies_on:ZcO P w K mg base) (d_line_parts:VX P w K mg base):OkD P w K mg base "sides_meet" JJ 4 ["one","other"] ZD:=fun F=>Jg F Za6 rfl rfl fun cdv A outer s H E hr=>by
  refine ⟨_,?_,(Zk (Y1 (ZeY (Ul (Yf (Zn d_lies_on hr (by decide) rfl (Zb (Za (pv 0)) (Zb (Zy Ye (Za (pv 1)) Ze (fun _ _=>rfl)) Zf)))) (JF (Yf (Zn d_lies_on hr (by decide) rfl (Zb (Za (pv 0)) (Zb (Zy Ye (Za (pv 1)) Ze (fun _ _=>rfl)) Zf))))))) (Zl (Zs Q6)) ZJ)
      (Zk (Y1 (ZeY (Ul (Yf (Zn d_lies_on hr (by decide) rfl (Zb (Za (pv 1)) (Zb (Zy Ye (Za (pv 0)) Ze (fun _ _=>rfl)) Zf)))) (JF (Yf (Zn d_lies_on hr (by decide) rfl (Zb (Za (pv 1)) (Zb (Zy Ye (Za (pv 0)) Ze (fun _ _=>rfl)) Zf))))))) (Zl (Zs Q6)) ZJ)
      (Zl (Zs (Y2 (Zn d_line_parts hr (by decide) rfl (Zb (Zy Ye (Za (pv 0)) Ze (fun _ _=>rfl)) (Zb (Zy Ye (Za (pv 0)) Ze (fun _ _=>rfl)) (Zb (Zy Ye (Za (pv 1)) Ze (fun _ _=>rfl)) (Zb (Zy Ye (Za (pv 1)) Ze (fun _ _=>rfl)) Zf))))) (QM (Zn d_line_parts hr (by decide) rfl (Zb (Zy Ye (Za (pv 1)) Ze (fun _ _=>rfl)) (Zb (Zy Ye (Za (pv 1)) Ze (fun _ _=>rfl)) (Zb (Zy Ye (Za (pv 0)) Ze (fun _ _=>rfl)) (Zb (Zy Ye (Za (pv 0)) Ze (fun _ _=>rfl)) Zf)))))))))))⟩
  rfl
noncomputable abbrev Vl:Stmt:=top 16
noncomputable abbrev ZeU:List Str:=["thing"]
theorem Zc2:Zr ZeU ["thing"] (Zi Vl):=⟨rfl,rfl,rfl,by decide +kernel,rfl,by decide +kernel,by decide +kernel⟩
noncomputable abbrev ZaV (P:Program) (w:World) (K:PySem.W.Frag) (mg:Str->Option Value) (base:Heap):=Z0 P w K mg base "is_whole" 1 ["thing"] Uc
theorem Zdd (B:Blt mg):OkD P w K mg base "is_whole" Vl 1 ["thing"] Uc:=fun F=>Jg F Zc2 rfl rfl fun cdv A outer s H E hr=>by
  refine ⟨_,?_,(Zl (Zs (Y2 (JA (T:=.int) rfl B.isinstance rfl B.int PyProof.Rows.boot_int (Za (pv 0))) (QM (Zif (JA (T:=.bool) rfl B.isinstance rfl B.bool PyProof.Rows.boot_bool (Za (pv 0))))))))⟩
  rfl
noncomputable abbrev Vm:Stmt:=top 17
noncomputable abbrev ZeV:List Str:=["thing"]
theorem Zc3:Zr ZeV ["thing"] (Zi Vm):=⟨rfl,rfl,rfl,by decide +kernel,rfl,by decide +kernel,by decide +kernel⟩
noncomputable abbrev ZaW (P:Program) (w:World) (K:PySem.W.Frag) (mg:Str->Option Value) (base:Heap):=Z0 P w K mg base "is_place" 2 ["thing"] Y7
theorem Zde (B:Blt mg) (d_is_whole:ZaV P w K mg base) (c_FARTHEST:∃ t,mg "FARTHEST"=some (.int 100 t)):OkD P w K mg base "is_place" Vm 2 ["thing"] Y7:=fun F=>Jg F Zc3 rfl rfl fun cdv A outer s H E hr=>by
  refine ⟨_,?_,(Zl (Zs (Y2 (Zn d_is_whole hr (by decide) rfl (Zb (Za (pv 0)) Zf)) (QM (Ud ZdP ZdP (WU WG (Zbw rfl c_FARTHEST.choose_spec)) (Za (pv 0)) (Zbw rfl c_FARTHEST.choose_spec))))))⟩
  rfl
noncomputable abbrev Wv:Stmt:=top 18
noncomputable abbrev ZgU:List Str:=["thing"]
theorem Zej:Zr ZgU ["thing"] (Zi Wv):=⟨rfl,rfl,rfl,by decide +kernel,rfl,by decide +kernel,by decide +kernel⟩
noncomputable abbrev ZcP (P:Program) (w:World) (K:PySem.W.Frag) (mg:Str->Option Value) (base:Heap):=Z0 P w K mg base "is_spot" 3 ["thing"] Yg
theorem Zet (B:Blt mg) (d_is_place:ZaW P w K mg base):OkD P w K mg base "is_spot" Wv 3 ["thing"] Yg:=fun F=>Jg F Zej rfl rfl fun cdv A outer s H E hr=>by
  refine ⟨_,?_,(Zl (Zs (Y2 (JA (T:=.tuple) rfl B.isinstance rfl B.tuple PyProof.Rows.boot_tuple (Za (pv 0))) (Y2 (JB (ZfR hr.units) (ZF US rfl B.len PySem.boot_len (Zb (Za (pv 0)) Zf)) Ze (ZY _)) (Y2 (Zn d_is_place hr (by decide) rfl (Zb (Zy Ye (Za (pv 0)) Ze (fun _ _=>rfl)) Zf)) (QM (Zn d_is_place hr (by decide) rfl (Zb (Zy Ye (Za (pv 0)) Ze (fun _ _=>rfl)) Zf))))))))⟩
  rfl
noncomputable abbrev YY:Stmt:=top 19
noncomputable abbrev Vf:List Str:=["thing","part"]
theorem sc_are_unlike_spots:Zr Vf ["thing"] (Zi YY):=⟨rfl,rfl,rfl,by decide +kernel,rfl,by decide +kernel,by decide +kernel⟩
noncomputable abbrev QQ (P:Program) (w:World) (K:PySem.W.Frag) (mg:Str->Option Value) (base:Heap):=Z0 P w K mg base "are_unlike_spots" 4 ["thing"] ZA
theorem UN (B:Blt mg) (d_is_spot:ZcP P w K mg base):OkD P w K mg base "are_unlike_spots" YY 4 ["thing"] ZA:=fun F=>Jg F sc_are_unlike_spots rfl rfl fun cdv A outer s H E hr=>by
  refine ⟨_,?_,(Zk (JG PassesOwn.never rfl (ZaI (Za (pv 0))) (QD (i:=1) sc_are_unlike_spots.nd rfl (Or.inl rfl)) (Zl (Y1 (Jy (Yf (Zn d_is_spot hr (by decide) rfl (Zb (Za (pv 1)) Zf)))) (Zl (Zs Q6)) ZJ)))
      (Zl (Zs (JB (ZfR hr.units) (Zcn rfl hr.units rfl B.len rfl B.set (Za (pv 0))) (ZF US rfl B.len PySem.boot_len (Zb (Za (pv 0)) Zf)) (ZY _)))))⟩
  rfl
noncomputable abbrev YX:Stmt:=top 20
noncomputable abbrev Ve:List Str:=["thing"]
theorem UF:Zr Ve ["thing"] (Zi YX):=⟨rfl,rfl,rfl,by decide +kernel,rfl,by decide +kernel,by decide +kernel⟩
noncomputable abbrev QP (P:Program) (w:World) (K:PySem.W.Frag) (mg:Str->Option Value) (base:Heap):=Z0 P w K mg base "could_be_corners" 5 ["thing"] Zw
theorem UM (B:Blt mg) (c_FEWEST_CORNERS:∃ t,mg "FEWEST_CORNERS"=some (.int 3 t)) (c_MOST_CORNERS:∃ t,mg "MOST_CORNERS"=some (.int 12 t)) (d_are_unlike_spots:QQ P w K mg base):OkD P w K mg base "could_be_corners" YX 5 ["thing"] Zw:=fun F=>Jg F UF rfl rfl fun cdv A outer s H E hr=>by
  refine ⟨_,?_,(Zk (Y1 (Jy (Yf (JA (T:=.tuple) rfl B.isinstance rfl B.tuple PyProof.Rows.boot_tuple (Za (pv 0))))) (Zl (Zs Q6)) ZJ)
      (Zl (Zs (Y2 (Ud ZdP ZdP (Zbw rfl c_FEWEST_CORNERS.choose_spec) (ZF US rfl B.len PySem.boot_len (Zb (Za (pv 0)) Zf)) (Zbw rfl c_MOST_CORNERS.choose_spec)) (QM (Zn d_are_unlike_spots hr (by decide) rfl (Zb (Za (pv 0)) Zf)))))))⟩
  rfl
noncomputable abbrev Z7:Stmt:=top 21
noncomputable abbrev Jk:List Str:=["corners"]
theorem UW:Zr Jk ["corners"] (Zi Z7):=⟨rfl,rfl,rfl,by decide +kernel,rfl,by decide +kernel,by decide +kernel⟩
noncomputable abbrev Jl (P:Program) (w:World) (K:PySem.W.Frag) (mg:Str->Option Value) (base:Heap):=Z0 P w K mg base "turns_all_round" 2 ["corners"] Z9
theorem UZ (B:Blt mg) (d_turn:ZcN P w K mg base):OkD P w K mg base "turns_all_round" Z7 2 ["corners"] Z9:=fun F=>Jg F UW rfl rfl fun cdv A outer s H E hr=>by
  refine ⟨_,?_,(Zl (Zs (JW (N:=["k","corners"]) (caps:=[none,some 0]) (Ju (sc:=Zi Z7) rfl (by decide +kernel)) (Jw (sc:=Zi Z7) (XN:=Jk) rfl rfl (by decide +kernel)) rfl (Vt rfl B.range (ZF US rfl B.len PySem.boot_len (Zb (Za (pv 0)) Zf))) (Y6 0) (fun _ _ _ _=>QD (i:=0) (show (["k","corners"]:List Str).Nodup by decide +kernel) rfl (Or.inl rfl)) (fun _ _ _ _=>UE) (fun _ _ _ _=>(Zn d_turn hr (by decide) rfl (Zb (Zy Ye (Za (pv 1)) (Zj Q1 (Za (pv 0)) Ze) (fun _ _=>rfl)) (Zb (Zy Ye (Za (pv 1)) (Zj Q1 (Za (pv 0)) Ze) (fun _ _=>rfl)) (Zb (Zy Ye (Za (pv 1)) (Za (pv 0)) (fun _ _=>rfl)) Zf))))))))⟩
  rfl
noncomputable abbrev Jb:Stmt:=top 22
noncomputable abbrev ZaT:List Str:=["corners"]
theorem Zc1:Zr ZaT ["corners"] (Zi Jb):=⟨rfl,rfl,rfl,by decide +kernel,rfl,by decide +kernel,by decide +kernel⟩
noncomputable abbrev ZaU (P:Program) (w:World) (K:PySem.W.Frag) (mg:Str->Option Value) (base:Heap):=Z0 P w K mg base "sides_of" 1 ["corners"] Qt
theorem Zdc (B:Blt mg):OkD P w K mg base "sides_of" Jb 1 ["corners"] Qt:=fun F=>Jg F Zc1 rfl rfl fun cdv A outer s H E hr=>by
  refine ⟨_,?_,(Zl (Zs (JW (N:=["k","corners"]) (caps:=[none,some 0]) (Ju (sc:=Zi Jb) rfl (by decide +kernel)) (Jw (sc:=Zi Jb) (XN:=ZaT) rfl rfl (by decide +kernel)) rfl (Vt rfl B.range (ZF US rfl B.len PySem.boot_len (Zb (Za (pv 0)) Zf))) (Y6 0) (fun _ _ _ _=>QD (i:=0) (show (["k","corners"]:List Str).Nodup by decide +kernel) rfl (Or.inl rfl)) (fun _ _ _ _=>UE) (fun _ _ _ _=>(YA (Zb (Zy Ye (Za (pv 1)) (Zj Q1 (Za (pv 0)) Ze) (fun _ _=>rfl)) (Zb (Zy Ye (Za (pv 1)) (Za (pv 0)) (fun _ _=>rfl)) Zf)))))))⟩
  rfl
noncomputable abbrev YB:Stmt:=top 23
noncomputable abbrev Uk:List Str:=["one","other"]
theorem JH:Zr Uk ["one","other"] (Zi YB):=⟨rfl,rfl,rfl,by decide +kernel,rfl,by decide +kernel,by decide +kernel⟩
noncomputable abbrev Qn (P:Program) (w:World) (K:PySem.W.Frag) (mg:Str->Option Value) (base:Heap):=Z0 P w K mg base "have_common_corner" 1 ["one","other"] Zq
theorem JP (B:Blt mg):OkD P w K mg base "have_common_corner" YB 1 ["one","other"] Zq:=fun F=>Jg F JH rfl rfl fun cdv A outer s H E hr=>by
  refine ⟨_,?_,(Zl (Zs (Zmb (JB (Zlo hr.units) (Zy Ye (Za (pv 0)) Ze (fun _ _=>rfl)) (Za (pv 1)) (by rfl)) (QM (JB (Zlo hr.units) (Zy Ye (Za (pv 0)) Ze (fun _ _=>rfl)) (Za (pv 1)) (by rfl))))))⟩
  rfl
noncomputable abbrev YW:Stmt:=top 24
noncomputable abbrev Vd:List Str:=["corners","sides","k","side","other"]
theorem sc_sides_keep_apart:Zr Vd ["corners"] (Zi YW):=⟨rfl,rfl,rfl,by decide +kernel,rfl,by decide +kernel,by decide +kernel⟩
noncomputable abbrev QO (P:Program) (w:World) (K:PySem.W.Frag) (mg:Str->Option Value) (base:Heap):=Z0 P w K mg base "sides_keep_apart" 5 ["corners"] Z2
theorem UL (B:Blt mg) (d_sides_of:ZaU P w K mg base) (d_have_common_corner:Qn P w K mg base) (d_sides_meet:VW P w K mg base):OkD P w K mg base "sides_keep_apart" YW 5 ["corners"] Z2:=fun F=>Jg F sc_sides_keep_apart rfl rfl fun cdv A outer s H E hr=>by
  refine ⟨_,?_,(Zk (ZN (i:=1) sc_sides_keep_apart.nd rfl (Or.inl rfl) (Zn d_sides_of hr (by decide) rfl (Zb (Za (pv 0)) Zf)))
      (Zk (JG PassesOwn.never rfl (Zbr rfl B.enumerate (Za (pv 1))) (Vu (i:=2) (j:=3) rfl sc_sides_keep_apart.nd rfl rfl (Or.inl rfl) (Or.inl rfl)) (Zl (JG PassesOwn.never rfl (ZaI (Zbv (Za (pv 1)) Q0 (QZ (Za (pv 2))))) (QD (i:=4) sc_sides_keep_apart.nd rfl (Or.inl rfl)) (Zl (Y1 (ZeY (UD (Jy (Yf (Zn d_have_common_corner hr (by decide) rfl (Zb (Za (pv 3)) (Zb (Za (pv 4)) Zf))))) (V7 (Yf (Zn d_sides_meet hr (by decide) rfl (Zb (Za (pv 3)) (Zb (Za (pv 4)) Zf))))))) (Zl (Zs Q6)) ZJ)))))
      (Zl (Zs Q6))))⟩
  rfl
noncomputable abbrev Qg:Stmt:=top 25
noncomputable abbrev V6:List Str:=["corners"]
theorem Vk:Zr V6 ["corners"] (Zi Qg):=⟨rfl,rfl,rfl,by decide +kernel,rfl,by decide +kernel,by decide +kernel⟩
noncomputable abbrev JC (P:Program) (w:World) (K:PySem.W.Frag) (mg:Str->Option Value) (base:Heap):=Z0 P w K mg base "inside_is_left" 3 ["corners"] Yh
theorem Vp (B:Blt mg) (d_turns_left:J5 P w K mg base):OkD P w K mg base "inside_is_left" Qg 3 ["corners"] Yh:=fun F=>Jg F Vk rfl rfl fun cdv A outer s H E hr=>by
  refine ⟨_,?_,(Zl (Zs (Zn d_turns_left hr (by decide) rfl (Zb (Zy Ye (Za (pv 0)) (WU WG Ze) (fun _ _=>rfl)) (Zb (Zy Ye (Za (pv 0)) Ze (fun _ _=>rfl)) (Zb (Zy Ye (Za (pv 0)) Ze (fun _ _=>rfl)) Zf))))))⟩
  rfl
noncomputable abbrev Ww:Stmt:=top 26
noncomputable abbrev ZgV:List Str:=["thing"]
theorem Zek:Zr ZgV ["thing"] (Zi Ww):=⟨rfl,rfl,rfl,by decide +kernel,rfl,by decide +kernel,by decide +kernel⟩
noncomputable abbrev W5 (P:Program) (w:World) (K:PySem.W.Frag) (mg:Str->Option Value) (base:Heap):=Z0 P w K mg base "is_plot" 6 ["thing"] ZT
theorem Zeu (B:Blt mg) (d_could_be_corners:QP P w K mg base) (d_turns_all_round:Jl P w K mg base) (d_inside_is_left:JC P w K mg base) (d_sides_keep_apart:QO P w K mg base):OkD P w K mg base "is_plot" Ww 6 ["thing"] ZT:=fun F=>Jg F Zek rfl rfl fun cdv A outer s H E hr=>by
  refine ⟨_,?_,(Zk (Y1 (ZeY (Ul (Jy (Yf (Zn d_could_be_corners hr (by decide) rfl (Zb (Za (pv 0)) Zf)))) (JF (Yp (Zh6 hr.units) (Zy Ye (Za (pv 0)) Ze (fun _ _=>rfl)) (ZF (ZgG rfl hr.units) rfl B.min PyProof.Rows.boot_min (Zb (Za (pv 0)) Zf)) (ZY _))))) (Zl (Zs Q6)) ZJ)
      (Zk (Y1 (Yp (Zlo hr.units) Ze (Zn d_turns_all_round hr (by decide) rfl (Zb (Za (pv 0)) Zf)) (by rfl)) (Zl (Zs Q6)) ZJ)
      (Zl (Zs (Y2 (Zn d_inside_is_left hr (by decide) rfl (Zb (Za (pv 0)) Zf)) (QM (Zn d_sides_keep_apart hr (by decide) rfl (Zb (Za (pv 0)) Zf))))))))⟩
  rfl
noncomputable abbrev QT:Stmt:=top 28
noncomputable abbrev Zal:List Str:=["spot","x","y"]
theorem sc_written_spot:Zr Zal ["spot"] (Zi QT):=⟨rfl,rfl,rfl,by decide +kernel,rfl,by decide +kernel,by decide +kernel⟩
noncomputable abbrev Uw (P:Program) (w:World) (K:PySem.W.Frag) (mg:Str->Option Value) (base:Heap):=Z0 P w K mg base "written_spot" 1 ["spot"] ZX
theorem Wy (B:Blt mg):OkD P w K mg base "written_spot" QT 1 ["spot"] ZX:=fun F=>Jg F sc_written_spot rfl rfl fun cdv A outer s H E hr=>by
  refine ⟨_,?_,(Zk (ZN (i:=1) sc_written_spot.nd rfl (Or.inl rfl) (Zy Ye (Za (pv 0)) Ze (fun _ _=>rfl)))
      (Zk (ZN (i:=2) sc_written_spot.nd rfl (Or.inl rfl) (Zy Ye (Za (pv 0)) Ze (fun _ _=>rfl)))
      (Zl (Zs (Zjv (Za (pv 1)) (Za (pv 2)))))))⟩
  rfl
noncomputable abbrev Ja:Stmt:=top 29
noncomputable abbrev ZcF:List Str:=["plot"]
theorem Zay:Zr ZcF ["plot"] (Zi Ja):=⟨rfl,rfl,rfl,by decide +kernel,rfl,by decide +kernel,by decide +kernel⟩
noncomputable abbrev ZcM (P:Program) (w:World) (K:PySem.W.Frag) (mg:Str->Option Value) (base:Heap):=Z0 P w K mg base "written" 7 ["plot"] Qd
theorem Zer (B:Blt mg) (d_is_plot:W5 P w K mg base) (d_written_spot:Uw P w K mg base):OkD P w K mg base "written" Ja 7 ["plot"] Qd:=fun F=>Jg F Zay rfl rfl fun cdv A outer s H E hr=>by
  refine ⟨_,?_,(Zk (Y1 (Jy (Yf (Zn d_is_plot hr (by decide) rfl (Zb (Za (pv 0)) Zf)))) (Zl Zg9) ZJ)
      (Zl (Zs (Zju WV (JW (N:=["corner"]) (caps:=[none]) (Ju (sc:=Zi Ja) rfl (by decide +kernel)) (Jw (sc:=Zi Ja) (XN:=ZcF) rfl rfl (by decide +kernel)) rfl (ZaI (Za (pv 0))) (Y6 0) (fun _ _ _ _=>QD (i:=0) (show (["corner"]:List Str).Nodup by decide +kernel) rfl (Or.inl rfl)) (fun _ _ _ _=>UE) (fun _ _ _ _=>(Zn d_written_spot hr (by decide) rfl (Zb (Za (pv 0)) Zf))))))))⟩
  rfl
noncomputable abbrev QY:Stmt:=top 31
noncomputable abbrev Zaq:List Str:=["_law_script","_law_k"]
theorem Wt:Zr Zaq ["_law_script","_law_k"] (Zi QY):=⟨rfl,rfl,rfl,by decide +kernel,rfl,by decide +kernel,by decide +kernel⟩
noncomputable abbrev UC (P:Program) (w:World) (K:PySem.W.Frag) (mg:Str->Option Value) (base:Heap):=Z0 P w K mg base "_law_cell_at" 1 ["_law_script","_law_k"] Yl
theorem WF (B:Blt mg):OkD P w K mg base "_law_cell_at" QY 1 ["_law_script","_law_k"] Yl:=fun F=>Jg F Wt rfl rfl fun cdv A outer s H E hr=>by
  refine ⟨_,?_,(Zk (Y1 (Yp ZkB (Za (pv 1)) (ZF US rfl B.len PySem.boot_len (Zb (Za (pv 0)) Zf)) (ZY _)) (Zl (Zs (Zy Ye (Za (pv 0)) (Za (pv 1)) (fun _ _=>rfl)))) ZJ)
      (Zl (Zs Ze)))⟩
  rfl
noncomputable abbrev JM:Stmt:=top 32
noncomputable abbrev ZcK:List Str:=["_law_script","_law_k","_law_drawn_here"]
theorem sc__law_mixed:Zr ZcK ["_law_script","_law_k"] (Zi JM):=⟨rfl,rfl,rfl,by decide +kernel,rfl,by decide +kernel,by decide +kernel⟩
noncomputable abbrev V0 (P:Program) (w:World) (K:PySem.W.Frag) (mg:Str->Option Value) (base:Heap):=Z0 P w K mg base "_law_mixed" 2 ["_law_script","_law_k"] ZH
theorem Zbh (B:Blt mg) (d__law_cell_at:UC P w K mg base):OkD P w K mg base "_law_mixed" JM 2 ["_law_script","_law_k"] ZH:=fun F=>Jg F sc__law_mixed rfl rfl fun cdv A outer s H E hr=>by
  refine ⟨_,?_,(Zk (ZN (i:=2) sc__law_mixed.nd rfl (Or.inl rfl) (Zj Qb (Zj YR (Zj Yo (Zj Yo (Zn d__law_cell_at hr (by decide) rfl (Zb (Za (pv 0)) (Zb (Za (pv 1)) Zf))) (Zj YR Ze (Za (pv 1)))) Ze) Ze) Ze))
      (Zl (Zs (Zj Qb (Zj Yo (Zj Yo (Zj YR (Za (pv 2)) (Za (pv 2))) (Zj YR Ze (Za (pv 2)))) (Za (pv 1))) Ze))))⟩
  rfl
noncomputable abbrev JN:Stmt:=top 33
noncomputable abbrev ZcL:List Str:=["_law_number_here","_law_k","_law_drawn_here"]
theorem sc__law_drawn:Zr ZcL ["_law_number_here","_law_k"] (Zi JN):=⟨rfl,rfl,rfl,by decide +kernel,rfl,by decide +kernel,by decide +kernel⟩
noncomputable abbrev J7 (P:Program) (w:World) (K:PySem.W.Frag) (mg:Str->Option Value) (base:Heap):=Z0 P w K mg base "_law_drawn" 1 ["_law_number_here","_law_k"] Zv
theorem Zbi (B:Blt mg):OkD P w K mg base "_law_drawn" JN 1 ["_law_number_here","_law_k"] Zv:=fun F=>Jg F sc__law_drawn rfl rfl fun cdv A outer s H E hr=>by
  refine ⟨_,?_,(Zk (ZN (i:=2) sc__law_drawn.nd rfl (Or.inl rfl) (Zj Qb (Zj YR (Zj Yo (Zj Yo (Za (pv 0)) (Zj YR Ze (Za (pv 1)))) Ze) Ze) Ze))
      (Zl (Zs (Zj Qb (Zj Yo (Zj Yo (Zj YR (Za (pv 2)) (Za (pv 2))) (Zj YR Ze (Za (pv 2)))) (Za (pv 1))) Ze))))⟩
  rfl
noncomputable abbrev Jo:Stmt:=top 34
noncomputable abbrev ZbL:List Str:=["_law_thing","_law_low","_law_high"]
theorem Zac:Zr ZbL ["_law_thing","_law_low","_law_high"] (Zi Jo):=⟨rfl,rfl,rfl,by decide +kernel,rfl,by decide +kernel,by decide +kernel⟩
noncomputable abbrev Vh (P:Program) (w:World) (K:PySem.W.Frag) (mg:Str->Option Value) (base:Heap):=Z0 P w K mg base "_law_number" 1 ["_law_thing","_law_low","_law_high"] Yy
theorem Zae (B:Blt mg):OkD P w K mg base "_law_number" Jo 1 ["_law_thing","_law_low","_law_high"] Yy:=fun F=>Jg F Zac rfl rfl fun cdv A outer s H E hr=>by
  refine ⟨_,?_,(Zl (Zs (Y2 (JA (T:=.int) rfl B.isinstance rfl B.int PyProof.Rows.boot_int (Za (pv 0))) (Y2 (Zif (JA (T:=.bool) rfl B.isinstance rfl B.bool PyProof.Rows.boot_bool (Za (pv 0)))) (QM (Ud ZdP ZdP (Za (pv 1)) (Za (pv 0)) (Za (pv 2))))))))⟩
  rfl
noncomputable abbrev UH:Stmt:=top 35
noncomputable abbrev Zdy:List Str:=["_law_a","_law_b","_law_c"]
theorem ZbU:Zr Zdy ["_law_a","_law_b","_law_c"] (Zi UH):=⟨rfl,rfl,rfl,by decide +kernel,rfl,by decide +kernel,by decide +kernel⟩
noncomputable abbrev QG (P:Program) (w:World) (K:PySem.W.Frag) (mg:Str->Option Value) (base:Heap):=Z0 P w K mg base "_law_turn" 1 ["_law_a","_law_b","_law_c"] ZM
theorem Zb2 (B:Blt mg):OkD P w K mg base "_law_turn" UH 1 ["_law_a","_law_b","_law_c"] ZM:=fun F=>Jg F ZbU rfl rfl fun cdv A outer s H E hr=>by
  refine ⟨_,?_,(Zl (Zs (Zj Q1 (Zj YR (Zj Q1 (Zy Ye (Za (pv 1)) Ze (fun _ _=>rfl)) (Zy Ye (Za (pv 0)) Ze (fun _ _=>rfl))) (Zj Q1 (Zy Ye (Za (pv 2)) Ze (fun _ _=>rfl)) (Zy Ye (Za (pv 0)) Ze (fun _ _=>rfl)))) (Zj YR (Zj Q1 (Zy Ye (Za (pv 1)) Ze (fun _ _=>rfl)) (Zy Ye (Za (pv 0)) Ze (fun _ _=>rfl))) (Zj Q1 (Zy Ye (Za (pv 2)) Ze (fun _ _=>rfl)) (Zy Ye (Za (pv 0)) Ze (fun _ _=>rfl)))))))⟩
  rfl
noncomputable abbrev Wx:Stmt:=top 36
noncomputable abbrev ZgW:List Str:=["_law_a","_law_b","_law_c"]
theorem Zel:Zr ZgW ["_law_a","_law_b","_law_c"] (Zi Wx):=⟨rfl,rfl,rfl,by decide +kernel,rfl,by decide +kernel,by decide +kernel⟩
noncomputable abbrev ZcQ (P:Program) (w:World) (K:PySem.W.Frag) (mg:Str->Option Value) (base:Heap):=Z0 P w K mg base "_law_on" 2 ["_law_a","_law_b","_law_c"] Yi
theorem Zev (B:Blt mg) (d__law_turn:QG P w K mg base):OkD P w K mg base "_law_on" Wx 2 ["_law_a","_law_b","_law_c"] Yi:=fun F=>Jg F Zel rfl rfl fun cdv A outer s H E hr=>by
  refine ⟨_,?_,(Zk (Y1 (Yp (Zh6 hr.units) (Zn d__law_turn hr (by decide) rfl (Zb (Za (pv 0)) (Zb (Za (pv 1)) (Zb (Za (pv 2)) Zf)))) Ze (ZY _)) (Zl (Zs Q6)) ZJ)
      (Zl (Zs (Y2 (Ud ZdP ZdP (ZF (ZgH rfl) rfl B.min PyProof.Rows.boot_min (Zb (Zy Ye (Za (pv 0)) Ze (fun _ _=>rfl)) (Zb (Zy Ye (Za (pv 1)) Ze (fun _ _=>rfl)) Zf))) (Zy Ye (Za (pv 2)) Ze (fun _ _=>rfl)) (ZF (Zd7 rfl) rfl B.max PyProof.Rows.boot_max (Zb (Zy Ye (Za (pv 0)) Ze (fun _ _=>rfl)) (Zb (Zy Ye (Za (pv 1)) Ze (fun _ _=>rfl)) Zf)))) (QM (Ud ZdP ZdP (ZF (ZgH rfl) rfl B.min PyProof.Rows.boot_min (Zb (Zy Ye (Za (pv 0)) Ze (fun _ _=>rfl)) (Zb (Zy Ye (Za (pv 1)) Ze (fun _ _=>rfl)) Zf))) (Zy Ye (Za (pv 2)) Ze (fun _ _=>rfl)) (ZF (Zd7 rfl) rfl B.max PyProof.Rows.boot_max (Zb (Zy Ye (Za (pv 0)) Ze (fun _ _=>rfl)) (Zb (Zy Ye (Za (pv 1)) Ze (fun _ _=>rfl)) Zf)))))))))⟩
  rfl
noncomputable abbrev UI:Stmt:=top 37
noncomputable abbrev Zdz:List Str:=["_law_corners","_law_at","_law_by"]
theorem ZbV:Zr Zdz ["_law_corners","_law_at","_law_by"] (Zi UI):=⟨rfl,rfl,rfl,by decide +kernel,rfl,by decide +kernel,by decide +kernel⟩
noncomputable abbrev QH (P:Program) (w:World) (K:PySem.W.Frag) (mg:Str->Option Value) (base:Heap):=Z0 P w K mg base "_law_next" 1 ["_law_corners","_law_at","_law_by"] Zt
theorem Zb4 (B:Blt mg):OkD P w K mg base "_law_next" UI 1 ["_law_corners","_law_at","_law_by"] Zt:=fun F=>Jg F ZbV rfl rfl fun cdv A outer s H E hr=>by
  refine ⟨_,?_,(Zl (Zs (Zy Ye (Za (pv 0)) (Zj Qb (Zj Yo (Za (pv 1)) (Za (pv 2))) (ZF US rfl B.len PySem.boot_len (Zb (Za (pv 0)) Zf))) (fun _ _=>rfl))))⟩
  rfl
noncomputable abbrev UK:Stmt:=top 38
noncomputable abbrev ZdB:List Str:=["_law_corners","_law_found","_law_at","_law_a","_law_b"]
theorem sc__law_area:Zr ZdB ["_law_corners"] (Zi UK):=⟨rfl,rfl,rfl,by decide +kernel,rfl,by decide +kernel,by decide +kernel⟩
noncomputable abbrev UT (P:Program) (w:World) (K:PySem.W.Frag) (mg:Str->Option Value) (base:Heap):=Z0 P w K mg base "_law_area" 2 ["_law_corners"] Yu
theorem Zb6 (B:Blt mg) (d__law_next:QH P w K mg base):OkD P w K mg base "_law_area" UK 2 ["_law_corners"] Yu:=fun F=>Jg F sc__law_area rfl rfl fun cdv A outer s H E hr=>by
  refine ⟨_,?_,(Zk (ZN (i:=1) sc__law_area.nd rfl (Or.inl rfl) Ze)
      (Zk (JG PassesOwn.never rfl (Zbr rfl B.enumerate (Za (pv 0))) (Vu (i:=2) (j:=3) rfl sc__law_area.nd rfl rfl (Or.inl rfl) (Or.inl rfl)) (Zk (ZN (i:=4) sc__law_area.nd rfl (Or.inl rfl) (Zn d__law_next hr (by decide) rfl (Zb (Za (pv 0)) (Zb (Za (pv 2)) (Zb Ze Zf)))))
      (Zl (ZN (i:=1) sc__law_area.nd rfl (Or.inl rfl) (Zj Q1 (Zj Yo (Za (pv 1)) (Zj YR (Zy Ye (Za (pv 3)) Ze (fun _ _=>rfl)) (Zy Ye (Za (pv 4)) Ze (fun _ _=>rfl)))) (Zj YR (Zy Ye (Za (pv 3)) Ze (fun _ _=>rfl)) (Zy Ye (Za (pv 4)) Ze (fun _ _=>rfl))))))))
      (Zl (Zs (Za (pv 1))))))⟩
  rfl
noncomputable abbrev Qz:Stmt:=top 39
noncomputable abbrev W4:List Str:=["_law_corners","_law_found","_law_at"]
theorem sc__law_in_order:Zr W4 ["_law_corners"] (Zi Qz):=⟨rfl,rfl,rfl,by decide +kernel,rfl,by decide +kernel,by decide +kernel⟩
noncomputable abbrev J6 (P:Program) (w:World) (K:PySem.W.Frag) (mg:Str->Option Value) (base:Heap):=Z0 P w K mg base "_law_in_order" 3 ["_law_corners"] ZZ
theorem V2 (B:Blt mg) (d__law_area:UT P w K mg base):OkD P w K mg base "_law_in_order" Qz 3 ["_law_corners"] ZZ:=fun F=>Jg F sc__law_in_order rfl rfl fun cdv A outer s H E hr=>by
  refine ⟨_,?_,(Zk (ZN (i:=1) sc__law_in_order.nd rfl (Or.inl rfl) (Jh Zik rfl B.list PyProof.Rows.boot_list (Zb (Za (pv 0)) Zf)))
      (Zk (Y1 (Yp ZkB (Zn d__law_area hr (by decide) rfl (Zb (Za (pv 1)) Zf)) Ze (ZY _)) (Zl (ZN (i:=1) sc__law_in_order.nd rfl (Or.inl rfl) (Zie (Za (pv 1))))) ZJ)
      (Zk (ZN (i:=2) sc__law_in_order.nd rfl (Or.inl rfl) (ZhF hr.units (Za (pv 1)) (ZF (ZgG rfl hr.units) rfl B.min PyProof.Rows.boot_min (Zb (Za (pv 1)) Zf))))
      (Zl (Zs (Jh ZjB rfl B.tuple PyProof.Rows.boot_tuple (Zb (Zj Yo (Zbv (Za (pv 1)) (QZ (Za (pv 2))) Q0) (Zbv (Za (pv 1)) Q0 (QZ (Za (pv 2))))) Zf)))))))⟩
  rfl
noncomputable abbrev UJ:Stmt:=top 40
noncomputable abbrev ZdA:List Str:=["_law_a","_law_b","_law_c","_law_d"]
theorem ZbW:Zr ZdA ["_law_a","_law_b","_law_c","_law_d"] (Zi UJ):=⟨rfl,rfl,rfl,by decide +kernel,rfl,by decide +kernel,by decide +kernel⟩
noncomputable abbrev W7 (P:Program) (w:World) (K:PySem.W.Frag) (mg:Str->Option Value) (base:Heap):=Z0 P w K mg base "_law_meet" 3 ["_law_a","_law_b","_law_c","_law_d"] Yt
theorem Zb5 (B:Blt mg) (d__law_on:ZcQ P w K mg base) (d__law_turn:QG P w K mg base):OkD P w K mg base "_law_meet" UJ 3 ["_law_a","_law_b","_law_c","_law_d"] Yt:=fun F=>Jg F ZbW rfl rfl fun cdv A outer s H E hr=>by
  refine ⟨_,?_,(Zk (Y1 (ZeY (Ul (Yf (Zn d__law_on hr (by decide) rfl (Zb (Za (pv 0)) (Zb (Za (pv 1)) (Zb (Za (pv 2)) Zf))))) (Ul (Yf (Zn d__law_on hr (by decide) rfl (Zb (Za (pv 0)) (Zb (Za (pv 1)) (Zb (Za (pv 3)) Zf))))) (Ul (Yf (Zn d__law_on hr (by decide) rfl (Zb (Za (pv 2)) (Zb (Za (pv 3)) (Zb (Za (pv 0)) Zf))))) (JF (Yf (Zn d__law_on hr (by decide) rfl (Zb (Za (pv 2)) (Zb (Za (pv 3)) (Zb (Za (pv 1)) Zf)))))))))) (Zl (Zs Q6)) ZJ)
      (Zk (Y1 (Yp Znf (Zj YR (Zn d__law_turn hr (by decide) rfl (Zb (Za (pv 0)) (Zb (Za (pv 1)) (Zb (Za (pv 2)) Zf)))) (Zn d__law_turn hr (by decide) rfl (Zb (Za (pv 0)) (Zb (Za (pv 1)) (Zb (Za (pv 3)) Zf))))) Ze (ZY _)) (Zl (Zs Q6)) ZJ)
      (Zl (Zs (JB ZkB (Zj YR (Zn d__law_turn hr (by decide) rfl (Zb (Za (pv 2)) (Zb (Za (pv 3)) (Zb (Za (pv 0)) Zf)))) (Zn d__law_turn hr (by decide) rfl (Zb (Za (pv 2)) (Zb (Za (pv 3)) (Zb (Za (pv 1)) Zf))))) Ze (ZY _))))))⟩
  rfl
noncomputable abbrev JL:Stmt:=top 41
noncomputable abbrev ZcJ:List Str:=["_law_corners","_law_found","_law_at","_law_a"]
theorem sc__law_turns:Zr ZcJ ["_law_corners"] (Zi JL):=⟨rfl,rfl,rfl,by decide +kernel,rfl,by decide +kernel,by decide +kernel⟩
noncomputable abbrev VY (P:Program) (w:World) (K:PySem.W.Frag) (mg:Str->Option Value) (base:Heap):=Z0 P w K mg base "_law_turns" 2 ["_law_corners"] YT
theorem Zbf (B:Blt mg) (d__law_turn:QG P w K mg base) (d__law_next:QH P w K mg base):OkD P w K mg base "_law_turns" JL 2 ["_law_corners"] YT:=fun F=>Jg F sc__law_turns rfl rfl fun cdv A outer s H E hr=>by
  refine ⟨_,?_,(Zk (Zfq (i:=1) sc__law_turns.nd rfl (Or.inl rfl) Zf)
      (Zk (JG PassesOwn.never rfl (Zbr rfl B.enumerate (Za (pv 0))) (Vu (i:=2) (j:=3) rfl sc__law_turns.nd rfl rfl (Or.inl rfl) (Or.inl rfl)) (Zl (Zfr (i:=1) (pv 1) (Zn d__law_turn hr (by decide) rfl (Zb (Za (pv 3)) (Zb (Zn d__law_next hr (by decide) rfl (Zb (Za (pv 0)) (Zb (Za (pv 2)) (Zb Ze Zf)))) (Zb (Zn d__law_next hr (by decide) rfl (Zb (Za (pv 0)) (Zb (Za (pv 2)) (Zb Ze Zf)))) Zf)))))))
      (Zl (Zj8 1 (Zs (Za (pv 1)))))))⟩
  rfl
noncomputable abbrev QX:Stmt:=top 42
noncomputable abbrev Zap:List Str:=["_law_corners","_law_many","_law_one","_law_other","_law_c","_law_d"]
theorem sc__law_is_good:Zr Zap ["_law_corners"] (Zi QX):=⟨rfl,rfl,rfl,by decide +kernel,rfl,by decide +kernel,by decide +kernel⟩
noncomputable abbrev Q8 (P:Program) (w:World) (K:PySem.W.Frag) (mg:Str->Option Value) (base:Heap):=Z0 P w K mg base "_law_is_good" 4 ["_law_corners"] Z6
theorem WE (B:Blt mg) (d__law_turns:VY P w K mg base) (d__law_next:QH P w K mg base) (d__law_meet:W7 P w K mg base):OkD P w K mg base "_law_is_good" QX 4 ["_law_corners"] Z6:=fun F=>Jg F sc__law_is_good rfl rfl fun cdv A outer s H E hr=>by
  refine ⟨_,?_,(Zk (ZN (i:=1) sc__law_is_good.nd rfl (Or.inl rfl) (ZF US rfl B.len PySem.boot_len (Zb (Za (pv 0)) Zf)))
      (Zk (Y1 (ZeY (Ul (Yp ZkB (Zcn rfl hr.units rfl B.len rfl B.set (Za (pv 0))) (Za (pv 1)) (ZY _)) (JF (Yp (Zlo hr.units) Ze (Zn d__law_turns hr (by decide) rfl (Zb (Za (pv 0)) Zf)) (by rfl))))) (Zl (Zs Q6)) ZJ)
      (Zk (JG PassesOwn.never rfl (Vt rfl B.range (Za (pv 1))) (QD (i:=2) sc__law_is_good.nd rfl (Or.inl rfl)) (Zl (JG PassesOwn.never rfl (Zjn rfl B.range (Zj Yo (Za (pv 2)) Ze) (Za (pv 1))) (QD (i:=3) sc__law_is_good.nd rfl (Or.inl rfl)) (Zl (Y1 (Yp (Zh6 hr.units) (Zj Qb (Zj Yo (Za (pv 3)) Ze) (Za (pv 1))) (Za (pv 2)) (ZY _)) (Zk (ZN (i:=4) sc__law_is_good.nd rfl (Or.inl rfl) (Zy Ye (Za (pv 0)) (Za (pv 3)) (fun _ _=>rfl)))
      (Zk (ZN (i:=5) sc__law_is_good.nd rfl (Or.inl rfl) (Zn d__law_next hr (by decide) rfl (Zb (Za (pv 0)) (Zb (Za (pv 3)) (Zb Ze Zf)))))
      (Zl (Y1 (Yf (Zn d__law_meet hr (by decide) rfl (Zb (Zy Ye (Za (pv 0)) (Za (pv 2)) (fun _ _=>rfl)) (Zb (Zn d__law_next hr (by decide) rfl (Zb (Za (pv 0)) (Zb (Za (pv 2)) (Zb Ze Zf)))) (Zb (Za (pv 4)) (Zb (Za (pv 5)) Zf)))))) (Zl (Zs Q6)) ZJ)))) ZJ)))))
      (Zl (Zs Q6)))))⟩
  rfl
noncomputable abbrev Y8:Stmt:=top 43
noncomputable abbrev VV:List Str:=["_law_number_here","_law_wide","_law_many"]
theorem Za8:Zr VV ["_law_number_here","_law_wide","_law_many"] (Zi Y8):=⟨rfl,rfl,rfl,by decide +kernel,rfl,by decide +kernel,by decide +kernel⟩
noncomputable abbrev VZ (P:Program) (w:World) (K:PySem.W.Frag) (mg:Str->Option Value) (base:Heap):=Z0 P w K mg base "_law_spots" 2 ["_law_number_here","_law_wide","_law_many"] YU
theorem Zbg (B:Blt mg) (d__law_drawn:J7 P w K mg base):OkD P w K mg base "_law_spots" Y8 2 ["_law_number_here","_law_wide","_law_many"] YU:=fun F=>Jg F Za8 rfl rfl fun cdv A outer s H E hr=>by
  refine ⟨_,?_,(Zl (Zs (JW (N:=["_law_k","_law_wide","_law_number_here"]) (caps:=[none,some 1,some 0]) (Ju (sc:=Zi Y8) rfl (by decide +kernel)) (Jw (sc:=Zi Y8) (XN:=VV) rfl rfl (by decide +kernel)) rfl (Vt rfl B.range (Za (pv 2))) (Y6 0) (fun _ _ _ _=>QD (i:=0) (show (["_law_k","_law_wide","_law_number_here"]:List Str).Nodup by decide +kernel) rfl (Or.inl rfl)) (fun _ _ _ _=>UE) (fun _ _ _ _=>(YA (Zb (Zj Qb (Zn d__law_drawn hr (by decide) rfl (Zb (Za (pv 2)) (Zb (Zj YR Ze (Za (pv 0))) Zf))) (Za (pv 1))) (Zb (Zj Qb (Zn d__law_drawn hr (by decide) rfl (Zb (Za (pv 2)) (Zb (Zj Yo (Zj YR Ze (Za (pv 0))) Ze) Zf))) (Za (pv 1))) Zf)))))))⟩
  rfl
noncomputable abbrev Yw:Stmt:=top 44
noncomputable abbrev Ue:List Str:=["_law_number_here","_law_wide","_law_lows","_law_highs","_law_far","_law_found","_law_left"]
theorem sc__law_saw:Zr Ue ["_law_number_here","_law_wide"] (Zi Yw):=⟨rfl,rfl,rfl,by decide +kernel,rfl,by decide +kernel,by decide +kernel⟩
noncomputable abbrev ZaX (P:Program) (w:World) (K:PySem.W.Frag) (mg:Str->Option Value) (base:Heap):=Z0 P w K mg base "_law_saw" 2 ["_law_number_here","_law_wide"] Qu
theorem Zdf (B:Blt mg) (d__law_drawn:J7 P w K mg base) (d__law_turn:QG P w K mg base) (d__law_next:QH P w K mg base):OkD P w K mg base "_law_saw" Yw 2 ["_law_number_here","_law_wide"] Qu:=fun F=>Jg F sc__law_saw rfl rfl fun cdv A outer s H E hr=>by
  refine ⟨_,?_,(Zk (ZN (i:=2) sc__law_saw.nd rfl (Or.inl rfl) (Zj Yo Ze (Zj Qb (Za (pv 0)) Ze)))
      (Zk (ZN (i:=3) sc__law_saw.nd rfl (Or.inl rfl) (Zj Yo Ze (Zj Qb (Zj Uf (Za (pv 0)) Ze) Ze)))
      (Zk (ZN (i:=4) sc__law_saw.nd rfl (Or.inr rfl) (Zj Yo Ze (ZF (Zd7 rfl) rfl B.max PyProof.Rows.boot_max (Zb (Za (pv 2)) (Zb (Za (pv 3)) Zf)))))
      (Zk (ZN (i:=5) sc__law_saw.nd rfl (Or.inl rfl) (Zj Yo (Zj Yo (AE.ed (ae_l (aa_c (ae_t (aa_c ae_i (aa_c ae_i aa_n))) aa_n ZC))) (JW (N:=["_law_k","_law_wide","_law_number_here"]) (caps:=[none,some 1,some 0]) (Ju (sc:=Zi Yw) rfl (by decide +kernel)) (Jw (sc:=Zi Yw) (XN:=Ue) rfl rfl (by decide +kernel)) rfl (Vt rfl B.range (Za (pv 2))) (Y6 0) (fun _ _ _ _=>QD (i:=0) (show (["_law_k","_law_wide","_law_number_here"]:List Str).Nodup by decide +kernel) rfl (Or.inl rfl)) (fun _ _ _ _=>UE) (fun _ _ _ _=>(YA (Zb (Zj Yo Ze (Za (pv 0))) (Zb (Zj Q1 (WU WG Ze) (Zj Qb (Zn d__law_drawn hr (by decide) rfl (Zb (Za (pv 2)) (Zb (Za (pv 0)) Zf))) (Za (pv 1)))) Zf)))))) (AE.ed (ae_l (aa_c (ae_t (aa_c (ae_e (Za (pv 4))) (aa_c ae_i aa_n))) aa_n ZC)))))
      (Zk (ZN (i:=5) sc__law_saw.nd rfl (Or.inl rfl) (Zj Yo (Za (pv 5)) (JW (N:=["_law_k","_law_far","_law_wide","_law_number_here"]) (caps:=[none,some 4,some 1,some 0]) (Ju (sc:=Zi Yw) rfl (by decide +kernel)) (Jw (sc:=Zi Yw) (XN:=Ue) rfl rfl (by decide +kernel)) rfl (Vt rfl B.range (Za (pv 3))) (Y6 0) (fun _ _ _ _=>QD (i:=0) (show (["_law_k","_law_far","_law_wide","_law_number_here"]:List Str).Nodup by decide +kernel) rfl (Or.inl rfl)) (fun _ _ _ _=>UE) (fun _ _ _ _=>(YA (Zb (Zj Q1 (Zj Q1 (Za (pv 1)) Ze) (Za (pv 0))) (Zb (Zj Yo Ze (Zj Qb (Zn d__law_drawn hr (by decide) rfl (Zb (Za (pv 3)) (Zb (Zj Yo Ze (Za (pv 0))) Zf))) (Za (pv 2)))) Zf)))))))
      (Zk (ZN (i:=6) sc__law_saw.nd rfl (Or.inr rfl) (Ut Zf))
      (Zk (Zg8 3000 PassesOwn.never (Yp (Zh6 hr.units) (ZF US rfl B.len PySem.boot_len (Zb (Za (pv 6)) Zf)) (ZF US rfl B.len PySem.boot_len (Zb (Za (pv 5)) Zf)) (ZY _)) (Zk (ZN (i:=6) sc__law_saw.nd rfl (Or.inr rfl) (Za (pv 5)))
      (Zl (ZiF (i:=5) sc__law_saw.nd rfl (Or.inl rfl) (N:=["_law_at","_law_a","_law_left"]) (caps:=[none,none,some 6]) (Ju (sc:=Zi Yw) rfl (by decide +kernel)) (Jw (sc:=Zi Yw) (XN:=Ue) rfl rfl (by decide +kernel)) rfl (Zbr rfl B.enumerate (Za (pv 6))) (ZaA 0 1) (fun _ _ _ _=>Vu (i:=0) (j:=1) rfl (show (["_law_at","_law_a","_law_left"]:List Str).Nodup by decide +kernel) rfl rfl (Or.inl rfl) (Or.inl rfl)) (fun _ _ _ _=>Zfd (Yp (Zh6 hr.units) (Zn d__law_turn hr (by decide) rfl (Zb (Zy Ye (Za (pv 2)) (Zj Q1 (Za (pv 0)) Ze) (fun _ _=>rfl)) (Zb (Za (pv 1)) (Zb (Zn d__law_next hr (by decide) rfl (Zb (Za (pv 2)) (Zb (Za (pv 0)) (Zb Ze Zf)))) Zf)))) Ze (ZY _))) (fun _ _ _ _=>(Za (pv 1)))))))
      (Zl (Zs (Za (pv 5)))))))))))⟩
  rfl
noncomputable abbrev Qy:Stmt:=top 45
noncomputable abbrev W3:List Str:=["_law_number_here","_law_wide","_law_found","_law_by"]
theorem sc__law_plot:Zr W3 ["_law_number_here","_law_wide"] (Zi Qy):=⟨rfl,rfl,rfl,by decide +kernel,rfl,by decide +kernel,by decide +kernel⟩
noncomputable abbrev W6 (P:Program) (w:World) (K:PySem.W.Frag) (mg:Str->Option Value) (base:Heap):=Z0 P w K mg base "_law_plot" 5 ["_law_number_here","_law_wide"] YM
theorem Zb3 (B:Blt mg) (d__law_spots:VZ P w K mg base) (d__law_is_good:Q8 P w K mg base) (d__law_saw:ZaX P w K mg base) (d__law_in_order:J6 P w K mg base):OkD P w K mg base "_law_plot" Qy 5 ["_law_number_here","_law_wide"] YM:=fun F=>Jg F sc__law_plot rfl rfl fun cdv A outer s H E hr=>by
  refine ⟨_,?_,(Zk (ZN (i:=2) sc__law_plot.nd rfl (Or.inl rfl) (Zn d__law_spots hr (by decide) rfl (Zb (Zj Uf (Za (pv 0)) Ze) (Zb (Za (pv 1)) (Zb (Zj Yo Ze (Zj Qb (Zj Uf (Za (pv 0)) Ze) Ze)) Zf)))))
      (Zk (Y1 (ZeY (Ul (Yp (ZfR hr.units) (Zj Qb (Za (pv 0)) Ze) Ze (ZY _)) (JF (Jy (Yf (Zn d__law_is_good hr (by decide) rfl (Zb (Za (pv 2)) Zf))))))) (Zl (ZN (i:=2) sc__law_plot.nd rfl (Or.inl rfl) (Zn d__law_saw hr (by decide) rfl (Zb (Zj Uf (Za (pv 0)) Ze) (Zb (Za (pv 1)) Zf))))) ZJ)
      (Zk (ZN (i:=3) sc__law_plot.nd rfl (Or.inr rfl) (Zj Uf (Zj YR (Zj Qb (Zj Uf (Za (pv 0)) Ze) Ze) (Za (pv 1))) Ze))
      (Zl (Zs (Zn d__law_in_order hr (by decide) rfl (Zb (JW (N:=["_law_x","_law_y","_law_by"]) (caps:=[none,none,some 3]) (Ju (sc:=Zi Qy) rfl (by decide +kernel)) (Jw (sc:=Zi Qy) (XN:=W3) rfl rfl (by decide +kernel)) rfl (ZaI (Za (pv 2))) (ZaA 0 1) (fun _ _ _ _=>Vu (i:=0) (j:=1) rfl (show (["_law_x","_law_y","_law_by"]:List Str).Nodup by decide +kernel) rfl rfl (Or.inl rfl) (Or.inl rfl)) (fun _ _ _ _=>UE) (fun _ _ _ _=>(YA (Zb (Zj Q1 (Za (pv 0)) (Za (pv 2))) (Zb (Za (pv 1)) Zf))))) Zf)))))))⟩
  rfl
noncomputable abbrev QW:Stmt:=top 46
noncomputable abbrev Zao:List Str:=["_law_thing"]
theorem Wr:Zr Zao ["_law_thing"] (Zi QW):=⟨rfl,rfl,rfl,by decide +kernel,rfl,by decide +kernel,by decide +kernel⟩
noncomputable abbrev UA (P:Program) (w:World) (K:PySem.W.Frag) (mg:Str->Option Value) (base:Heap):=Z0 P w K mg base "_law_is_spot" 2 ["_law_thing"] Z5
theorem WC (B:Blt mg) (d__law_number:Vh P w K mg base):OkD P w K mg base "_law_is_spot" QW 2 ["_law_thing"] Z5:=fun F=>Jg F Wr rfl rfl fun cdv A outer s H E hr=>by
  refine ⟨_,?_,(Zk (Y1 (ZeY (Ul (Jy (Yf (JA (T:=.tuple) rfl B.isinstance rfl B.tuple PyProof.Rows.boot_tuple (Za (pv 0))))) (JF (Yp (Zh6 hr.units) (ZF US rfl B.len PySem.boot_len (Zb (Za (pv 0)) Zf)) Ze (ZY _))))) (Zl (Zs Q6)) ZJ)
      (Zl (Zs (Y2 (Zn d__law_number hr (by decide) rfl (Zb (Zy Ye (Za (pv 0)) Ze (fun _ _=>rfl)) (Zb (WU WG Ze) (Zb Ze Zf)))) (QM (Zn d__law_number hr (by decide) rfl (Zb (Zy Ye (Za (pv 0)) Ze (fun _ _=>rfl)) (Zb (WU WG Ze) (Zb Ze Zf)))))))))⟩
  rfl
noncomputable abbrev YH:Stmt:=top 47
noncomputable abbrev Uv:List Str:=["_law_thing"]
theorem Ws:Zr Uv ["_law_thing"] (Zi YH):=⟨rfl,rfl,rfl,by decide +kernel,rfl,by decide +kernel,by decide +kernel⟩
noncomputable abbrev UB (P:Program) (w:World) (K:PySem.W.Frag) (mg:Str->Option Value) (base:Heap):=Z0 P w K mg base "_law_is_plot" 5 ["_law_thing"] ZI
theorem WD (B:Blt mg) (d__law_is_spot:UA P w K mg base) (d__law_is_good:Q8 P w K mg base) (d__law_area:UT P w K mg base):OkD P w K mg base "_law_is_plot" YH 5 ["_law_thing"] ZI:=fun F=>Jg F Ws rfl rfl fun cdv A outer s H E hr=>by
  refine ⟨_,?_,(Zk (Y1 (ZeY (Ul (Jy (Yf (JA (T:=.tuple) rfl B.isinstance rfl B.tuple PyProof.Rows.boot_tuple (Za (pv 0))))) (JF (Jy (Zg3 ZdP ZdP Ze (ZF US rfl B.len PySem.boot_len (Zb (Za (pv 0)) Zf)) Ze))))) (Zl (Zs Q6)) ZJ)
      (Zk (Y1 (Yp (Zh6 hr.units) (JW (N:=["_law_part"]) (caps:=[none]) (Ju (sc:=Zi YH) rfl (by decide +kernel)) (Jw (sc:=Zi YH) (XN:=Uv) rfl rfl (by decide +kernel)) rfl (ZaI (Za (pv 0))) (Y6 0) (fun _ _ _ _=>QD (i:=0) (show (["_law_part"]:List Str).Nodup by decide +kernel) rfl (Or.inl rfl)) (fun _ _ _ _=>Zfd (Jy (Yf (Zn d__law_is_spot hr (by decide) rfl (Zb (Za (pv 0)) Zf))))) (fun _ _ _ _=>(Za (pv 0)))) (Ut Zf) (ZY _)) (Zl (Zs Q6)) ZJ)
      (Zl (Zs (Y2 (Zn d__law_is_good hr (by decide) rfl (Zb (Za (pv 0)) Zf)) (Y2 (JB ZjP (Zn d__law_area hr (by decide) rfl (Zb (Za (pv 0)) Zf)) Ze (ZY _)) (QM (JB (ZfR hr.units) (Zy Ye (Za (pv 0)) Ze (fun _ _=>rfl)) (ZF (ZgG rfl hr.units) rfl B.min PyProof.Rows.boot_min (Zb (Za (pv 0)) Zf)) (ZY _)))))))))⟩
  rfl
noncomputable abbrev Vn:Stmt:=top 48
noncomputable abbrev ZeW:List Str:=["_law_number_here","_law_some"]
theorem sc__law_odd:Zr ZeW ["_law_number_here"] (Zi Vn):=⟨rfl,rfl,rfl,by decide +kernel,rfl,by decide +kernel,by decide +kernel⟩
noncomputable abbrev ZaY (P:Program) (w:World) (K:PySem.W.Frag) (mg:Str->Option Value) (base:Heap):=Z0 P w K mg base "_law_odd" 1 ["_law_number_here"] Qv
theorem Zdg (B:Blt mg):OkD P w K mg base "_law_odd" Vn 1 ["_law_number_here"] Qv:=fun F=>Jg F sc__law_odd rfl rfl fun cdv A outer s H E hr=>by
  refine ⟨_,?_,(Zk (ZN (i:=1) sc__law_odd.nd rfl (Or.inl rfl) (AE.ed (ae_l (aa_c (ae_m ae_i) (aa_c ae_i (aa_c ae_i (aa_c ae_i (aa_c (ae_m ae_i) (aa_c ae_b (aa_c ae_b (aa_c ae_v (aa_c ae_s (aa_c ae_s (aa_c (ae_t aa_n) (aa_c (ae_l aa_n) (aa_c (ae_t (aa_c ae_i aa_n)) (aa_c (ae_t (aa_c ae_i (aa_c ae_i aa_n))) (aa_c (ae_t (aa_c ae_i (aa_c ae_i aa_n))) (aa_c (ae_t (aa_c ae_i (aa_c ae_i aa_n))) (aa_c (ae_t (aa_c ae_b (aa_c ae_i aa_n))) (aa_c (ae_l (aa_c ae_i (aa_c ae_i aa_n))) aa_n VD) ZC) ZC) ZC) ZC) ZC) VD) ZC))))))))))))))
      (Zl (Zs (Zy Ye (Zj Yo (Za (pv 1)) (AE.ed (ae_l (aa_c (ae_t (aa_c ae_i (aa_c ae_v aa_n))) (aa_c (ae_t (aa_c (ae_t (aa_c ae_i (aa_c ae_i aa_n))) aa_n ZC)) (aa_c (ae_t (aa_c ae_i (aa_c ae_i (aa_c ae_i aa_n)))) (aa_c ae_i (aa_c (ae_t (aa_c (ae_m ae_i) (aa_c ae_i aa_n))) (aa_c (ae_t (aa_c ae_i (aa_c ae_i aa_n))) (aa_c (ae_t (aa_c ae_s (aa_c ae_i aa_n))) aa_n ZC) ZC) ZC)) ZC) ZC) ZC)))) (Zj Qb (Za (pv 0)) Ze) (fun _ _=>rfl)))))⟩
  rfl
noncomputable abbrev Jn:Stmt:=top 49
noncomputable abbrev ZbK:List Str:=["_law_thing","_law_number_here","_law_deep","_law_at","_law_part","_law_some"]
theorem sc__law_spoilt:Zr ZbK ["_law_thing","_law_number_here","_law_deep"] (Zi Jn):=⟨rfl,rfl,rfl,by decide +kernel,rfl,by decide +kernel,by decide +kernel⟩
noncomputable abbrev ZbM (P:Program) (w:World) (K:PySem.W.Frag) (mg:Str->Option Value) (base:Heap):=Z0 P w K mg base "_law_spoilt" 4 ["_law_thing","_law_number_here","_law_deep"] Qr
theorem QB (B:Blt mg) (d__law_odd:ZaY P w K mg base) {k:Nat} (hk:1<=k) {fr:List D->Option D} (d_self:Z0 P w K mg base "_law_spoilt" k ["_law_thing","_law_number_here","_law_deep"] fr):OkD P w K mg base "_law_spoilt" Jn (k+1) ["_law_thing","_law_number_here","_law_deep"] (Zo 6 (ZP fr)):=fun F=>Jg F sc__law_spoilt rfl rfl fun cdv A outer s H E hr=>by
  refine ⟨_,?_,(Zk (Y1 (ZeY (UD (Yp ZjP (Za (pv 2)) Ze (ZY _)) (UD (Yf (JA (T:=.tuple) rfl B.isinstance rfl B.tuple PyProof.Rows.boot_tuple (Za (pv 0)))) (UD (Yp ZjP (ZF US rfl B.len PySem.boot_len (Zb (Za (pv 0)) Zf)) Ze (ZY _)) (V7 (Yp ZjP (Zj Qb (Za (pv 1)) Ze) Ze (ZY _))))))) (Zk (ZN (i:=3) sc__law_spoilt.nd rfl (Or.inl rfl) (Zj Qb (Zj Uf (Za (pv 1)) Ze) (ZF US rfl B.len PySem.boot_len (Zb (Za (pv 0)) Zf))))
      (Zk (ZN (i:=4) sc__law_spoilt.nd rfl (Or.inl rfl) (Zn d_self hr (Nat.le_refl _) rfl (Zb (Zy Ye (Za (pv 0)) (Za (pv 3)) (fun _ _=>rfl)) (Zb (Zj Uf (Za (pv 1)) Ze) (Zb (Zj Q1 (Za (pv 2)) Ze) Zf)))))
      (Zl (Zs (Zj Yo (Zj Yo (Zbv (Za (pv 0)) Q0 (QZ (Za (pv 3)))) (YA (Zb (Za (pv 4)) Zf))) (Zbv (Za (pv 0)) (QZ (Zj Yo (Za (pv 3)) Ze)) Q0)))))) ZJ)
      (Zk (Y1 (ZeY (UD (Yf (JA (T:=.tuple) rfl B.isinstance rfl B.tuple PyProof.Rows.boot_tuple (Za (pv 0)))) (UD (Yp ZjP (ZF US rfl B.len PySem.boot_len (Zb (Za (pv 0)) Zf)) Ze (ZY _)) (V7 (Yp (ZfR hr.units) (Zj Qb (Zj Uf (Za (pv 1)) Ze) Ze) Ze (ZY _)))))) (Zk (ZN (i:=5) sc__law_spoilt.nd rfl (Or.inl rfl) (Ut (Zb (Jh Zik rfl B.list PyProof.Rows.boot_list (Zb (Za (pv 0)) Zf)) (Zb (Zbv (Za (pv 0)) Q0 (QZ (WU WG Ze))) (Zb (Zj Yo (Za (pv 0)) (Zbv (Za (pv 0)) (QZ (WU WG Ze)) Q0)) (Zb (Zj Yo (Zbv (Za (pv 0)) (QZ Ze) Q0) (Zbv (Za (pv 0)) Q0 (QZ Ze))) (Zb (Zie (Za (pv 0))) (Zb (Zj ZkA (Za (pv 0)) Ze) Zf))))))))
      (Zl (Zs (Zy Ye (Za (pv 5)) (Zj Qb (Zj Uf (Za (pv 1)) Ze) Ze) (fun _ _=>rfl))))) ZJ)
      (Zk (Y1 (ZeY (UD (Yf (JA (T:=.int) rfl B.isinstance rfl B.int PyProof.Rows.boot_int (Za (pv 0)))) (V7 (Yp (ZfR hr.units) (Zj Qb (Zj Uf (Za (pv 1)) Ze) Ze) Ze (ZY _))))) (Zl (Zs (Zy Ye (Ut (Zb (Jh ZjC rfl B.str PyProof.Rows.boot_str (Zb (Za (pv 0)) Zf)) (Zb (WU WG (Za (pv 0))) (Zb (Zj Yo (Za (pv 0)) Ze) (Zb (JB (ZfR hr.units) (Za (pv 0)) Ze (ZY _)) (Zb (Zj Yo (Za (pv 0)) Ze) (Zb (Zj Q1 (Za (pv 0)) Ze) Zf))))))) (Zj Qb (Zj Uf (Za (pv 1)) Ze) Ze) (fun _ _=>rfl)))) ZJ)
      (Zl (Zs (Zn d__law_odd hr hk rfl (Zb (Zj Uf (Za (pv 1)) Ze) Zf)))))))⟩
  rfl
noncomputable abbrev QV:Stmt:=top 50
noncomputable abbrev Zan:List Str:=["_law_corners","_law_found","_law_x","_law_y"]
theorem sc__law_written:Zr Zan ["_law_corners"] (Zi QV):=⟨rfl,rfl,rfl,by decide +kernel,rfl,by decide +kernel,by decide +kernel⟩
noncomputable abbrev Uy (P:Program) (w:World) (K:PySem.W.Frag) (mg:Str->Option Value) (base:Heap):=Z0 P w K mg base "_law_written" 1 ["_law_corners"] Yk
theorem WA (B:Blt mg):OkD P w K mg base "_law_written" QV 1 ["_law_corners"] Yk:=fun F=>Jg F sc__law_written rfl rfl fun cdv A outer s H E hr=>by
  refine ⟨_,?_,(Zk (ZN (i:=1) sc__law_written.nd rfl (Or.inl rfl) WV)
      (Zk (JG PassesOwn.never rfl (ZaI (Za (pv 0))) (Vu (i:=2) (j:=3) rfl sc__law_written.nd rfl rfl (Or.inl rfl) (Or.inl rfl)) (Zl (ZN (i:=1) sc__law_written.nd rfl (Or.inl rfl) (Zj Yo (Zj Yo (Zj Yo (Zj Yo (Za (pv 1)) WV) (Jh ZjC rfl B.str PyProof.Rows.boot_str (Zb (Za (pv 2)) Zf))) WV) (Jh ZjC rfl B.str PyProof.Rows.boot_str (Zb (Za (pv 3)) Zf))))))
      (Zl (Zs (Zk7 (Za (pv 1)) (QZ Ze) Q0)))))⟩
  rfl
noncomputable abbrev YG:Stmt:=top 51
noncomputable abbrev Uu:List Str:=["_law_thing"]
theorem Wq:Zr Uu ["_law_thing"] (Zi YG):=⟨rfl,rfl,rfl,by decide +kernel,rfl,by decide +kernel,by decide +kernel⟩
noncomputable abbrev Uz (P:Program) (w:World) (K:PySem.W.Frag) (mg:Str->Option Value) (base:Heap):=Z0 P w K mg base "_law_refused" 8 ["_law_thing"] Z4
noncomputable abbrev ZL:Stmt:=top 52
noncomputable abbrev Y3:List Str:=["_law_thing","e"]
theorem sc__law_refused_by_base:Zr Y3 ["_law_thing"] (Zi ZL):=⟨rfl,rfl,rfl,by decide +kernel,rfl,by decide +kernel,by decide +kernel⟩
noncomputable abbrev Y4 (P:Program) (w:World) (K:PySem.W.Frag) (mg:Str->Option Value) (base:Heap):=Z0 P w K mg base "_law_refused_by_base" 8 ["_law_thing"] Zz
noncomputable abbrev Zem:Stmt:=top 53
noncomputable abbrev Zmp:List Str:=["_law_script","_law_number_here","_law_thing","_law_found"]
theorem sc_law:Zr Zmp ["_law_script"] (Zi Zem):=⟨rfl,rfl,rfl,by decide +kernel,rfl,by decide +kernel,by decide +kernel⟩
theorem Zkz (B:Blt mg) (d__law_mixed:V0 P w K mg base) (d__law_plot:W6 P w K mg base) (d__law_spoilt:ZbM P w K mg base) (d__law_is_plot:UB P w K mg base) (d__law_refused:Uz P w K mg base) (d__law_refused_by_base:Y4 P w K mg base) (d_written:ZcM P w K mg base) (d__law_written:Uy P w K mg base):OkD P w K mg base "law" Zem 9 ["_law_script"] ZeH:=fun F=>Jg F sc_law rfl rfl fun cdv A outer s H E hr=>by
  refine ⟨_,?_,(Zk (ZN (i:=1) sc_law.nd rfl (Or.inl rfl) (Zn d__law_mixed hr (by decide) rfl (Zb (Za (pv 0)) (Zb Ze Zf))))
      (Zk (ZN (i:=2) sc_law.nd rfl (Or.inl rfl) (Zn d__law_plot hr (by decide) rfl (Zb (Zn d__law_mixed hr (by decide) rfl (Zb (Za (pv 0)) (Zb Ze Zf))) (Zb (Zy Ye (YA (Zb Ze (Zb Ze (Zb Ze Zf)))) (Zj Qb (Za (pv 1)) Ze) (fun _ _=>rfl)) Zf))))
      (Zk (Y1 (Yp (ZfR hr.units) (Zj Qb (Zj Uf (Za (pv 1)) Ze) Ze) Ze (ZY _)) (Zl (ZN (i:=2) sc_law.nd rfl (Or.inl rfl) (Zn d__law_spoilt hr (by decide) rfl (Zb (Za (pv 2)) (Zb (Zn d__law_mixed hr (by decide) rfl (Zb (Za (pv 0)) (Zb Ze Zf))) (Zb (Zj Qb (Zj Uf (Za (pv 1)) Ze) Ze) Zf)))))) ZJ)
      (Zk (Y1 (Jy (Yf (Zn d__law_is_plot hr (by decide) rfl (Zb (Za (pv 2)) Zf)))) (Zk (Y1 (Yp (ZfR hr.units) (Zj Qb (Zj Uf (Za (pv 1)) Ze) Ze) Ze (ZY _)) (Zl (Zs (Zn d__law_refused hr (by decide) rfl (Zb (Za (pv 2)) Zf)))) ZJ)
      (Zl (Zs (Zn d__law_refused_by_base hr (by decide) rfl (Zb (Za (pv 2)) Zf))))) ZJ)
      (Zk (ZN (i:=3) sc_law.nd rfl (Or.inl rfl) (Zn d_written hr (by decide) rfl (Zb (Za (pv 2)) Zf)))
      (Zl (Zs (Y2 (JA (T:=.str) rfl B.isinstance rfl B.str PyProof.Rows.boot_str (Za (pv 3))) (Y2 (JB (ZfR hr.units) (Za (pv 3)) (Zn d__law_written hr (by decide) rfl (Zb (Za (pv 2)) Zf)) (ZY _)) (QM (JB (ZfR hr.units) (Zn d_written hr (by decide) rfl (Zb (Za (pv 2)) Zf)) (Za (pv 3)) (ZY _))))))))))))⟩
  rfl
end
theorem Zhw {d:D} (h:Zce d=true):∃ ps:List Pt,d=.tup (ps.map pD)/\Uh ps.length=true/\All (Rg 100) ps/\JO ps=true:=by
  cases d with
  | tup ds=>
    by_cases h1:Uh ds.length=true
    · by_cases h2:ds.all spB=true
      · obtain ⟨ps,rfl,hr⟩:=Zdx h2
        rw [List.length_map] at h1
        rw [Zbq h1 hr] at h
        exact ⟨ps,rfl,h1,hr,h⟩
      · simp [Zce,h2] at h
    · have:Uh ds.length=false:=by simpa using h1
      simp [Zce,this] at h
  | _=>simp [Zce] at h
theorem ZkP (ns:List Int):ZeH [.lst (ns.map .int)]=some (.bl true):=by
  have x0:ZH [.lst (ns.map .int),.int 0]=some (.int (ZgY (JD ns 0) 0)):=WS ns 0
  have x1:ZH [.lst (ns.map .int),.int 1]=some (.int (ZgY (JD ns 1) 1)):=WS ns 1
  have x2:ZH [.lst (ns.map .int),.int 2]=some (.int (ZgY (JD ns 2) 2)):=WS ns 2
  have r1:=ZdR (JD ns 1) 1
  have r2:=ZdR (JD ns 2) 2
  generalize ZgY (JD ns 0) 0=m0 at x0
  generalize ZgY (JD ns 1) 1=m1 at x1 r1
  generalize ZgY (JD ns 2) 2=m2 at x2 r2
  generalize hS:D.lst (ns.map .int)=S at x0 x1 x2
  have e3:=Qh (i:=m1) (j:=3) (by omega)
  have v3:=Vx (i:=m1) (j:=3) (by omega) (by omega)
  have e33:=Qh (i:=m1 / 3) (j:=3) (by omega)
  have v9:=Vx (i:=m1) (j:=9) (by omega) (by omega)
  have e93:=Qh (i:=m1 / 9) (j:=3) (by omega)
  have v27:=Vx (i:=m1) (j:=27) (by omega) (by omega)
  have e272:=Qh (i:=m1 / 27) (j:=2) (by omega)
  have l3:(3:Nat)<=lim:=ZW (by decide)
  obtain ⟨wide,hw,hwide⟩:∃ wide,(wide=4\/wide=9\/wide=100)/\dIx (.tup [.int 4,.int 9,.int 100]) (.int (m1 % 3))=some (.int wide):=by
    have:m1 % 3=0\/m1 % 3=1\/m1 % 3=2:=by omega
    rcases this with h | h | h
    · rw [h]; exact ⟨4,.inl rfl,rfl⟩
    · rw [h]; exact ⟨9,.inr (.inl rfl),rfl⟩
    · rw [h]; exact ⟨100,.inr (.inr rfl),rfl⟩
  obtain ⟨t0,p0,h0⟩:=ZiT (n:=m0) (wide:=wide) (by omega) (by omega)
  have s1:Ya 1 (dFn 2 ZH (Zc (Zd 0) (Zc (Zg (.int 1)) Zm))) [.val S,.no,.no,.no]=some (.nx [.val S,.val (.int m1),.no,.no]):=by
    simp -implicitDefEqProofs [x1]
  have s2:Ya 2 (dFn 2 YM (Zc (dFn 2 ZH (Zc (Zd 0) (Zc (Zg (.int 0)) Zm))) (Zc (Zh dIx (YV (Zc (Zg (.int 4)) (Zc (Zg (.int 9)) (Zc (Zg (.int 100)) Zm)))) (Zh YD (Zd 1) (Zg (.int 3)))) Zm))) [.val S,.val (.int m1),.no,.no]=some (.nx [.val S,.val (.int m1),.val t0,.no]):=by
    simp -implicitDefEqProofs [x0,e3,l3,hwide,p0]
  obtain ⟨t1,s3,h1⟩:=Zl2 (t:=(Zp (Zh VQ (Zh YD (Zh Q7 (Zd 1) (Zg (.int 3))) (Zg (.int 3))) (Zg (.int 1))))) (e:=(dFn 3 Qr (Zc (Zd 2) (Zc (dFn 2 ZH (Zc (Zd 0) (Zc (Zg (.int 2)) Zm))) (Zc (Zh YD (Zh Q7 (Zd 1) (Zg (.int 9))) (Zg (.int 3))) Zm)))))
    (ρ:=[.val S,.val (.int m1),.val t0,.no]) (b:=decide (m1 / 3 % 3=1)) (P:=Lay 4) rfl (by simp -implicitDefEqProofs [v3,e33]) (h0.lay.up (by decide)) fun _=>by
      obtain ⟨d,e,h⟩:=Zei (k:=m1 / 9 % 3) h0 r2.1 (by omega)
      exact ⟨d,by simp -implicitDefEqProofs [x2,v9,e93,e],h⟩
  have lp:=ZeB (d:=t1) (h1.up (by decide))
  unfold ZeH Zo Zk1
  show (Zu _ (Zu _ _) [.val S,.no,.no,.no]).bind _=_
  rw [ZB,s1]
  show (Zu _ (Zu _ _) [.val S,.val (.int m1),.no,.no]).bind _=_
  rw [ZB,s2]
  show (Zu _ (Zu _ _) [.val S,.val (.int m1),.val t0,.no]).bind _=_
  rw [ZB,s3]
  show (Zu _ (Zu _ _) [.val S,.val (.int m1),.val t1,.no]).bind _=_
  cases h:Zce t1
  · rw [h] at lp
    have rf:=Zfz h
    have rb:=Zeo h
    have s4:Yb (YE (Zp (dFn 1 ZI (Zc (Zd 2) Zm)))) (Zu (Yb (Zp (Zh VQ (Zh YD (Zh Q7 (Zd 1) (Zg (.int 27))) (Zg (.int 2))) (Zg (.int 0)))) (ZR (dFn 1 Z4 (Zc (Zd 2) Zm))) Zx)
        (ZR (dFn 1 Zz (Zc (Zd 2) Zm)))) Zx [.val S,.val (.int m1),.val t1,.no]=some (.rt (.bl true)):=by
      by_cases q:m1 / 27 % 2=0
      · simp -implicitDefEqProofs [lp,v27,e272,q,rf]
      · simp -implicitDefEqProofs [lp,v27,e272,q,rb]
    rw [ZB,s4]
    rfl
  · rw [h] at lp
    have s4:Yb (YE (Zp (dFn 1 ZI (Zc (Zd 2) Zm)))) (Zu (Yb (Zp (Zh VQ (Zh YD (Zh Q7 (Zd 1) (Zg (.int 27))) (Zg (.int 2))) (Zg (.int 0)))) (ZR (dFn 1 Z4 (Zc (Zd 2) Zm))) Zx)
        (ZR (dFn 1 Zz (Zc (Zd 2) Zm)))) Zx [.val S,.val (.int m1),.val t1,.no]=some (.nx [.val S,.val (.int m1),.val t1,.no]):=by
      simp -implicitDefEqProofs [lp]
    obtain ⟨ps,rfl,a1,a2,a3⟩:=Zhw h
    have wr:=Ze3 a1 a2 a3
    have hl:=lenOk_iff.mp a1
    have lw:=ZeA (ps:=ps) (by intro z; subst z; simp at hl) hl.2 (Zkc a2)
    have eq:=eqS (Zix ps)
    generalize ZcX ps=z at *
    generalize D.tup (ps.map pD)=T at *
    have s5:Ya 3 (dFn 1 Qd (Zc (Zd 2) Zm)) [.val S,.val (.int m1),.val T,.no]=some (.nx [.val S,.val (.int m1),.val T,.val (.str z)]):=by
      simp -implicitDefEqProofs [wr]
    have s6:ZR (Zaa (QN (UU .str) (Zd 3)) (Zaa (Zh VQ (Zd 3) (dFn 1 Yk (Zc (Zd 2) Zm))) (Zh VQ (dFn 1 Qd (Zc (Zd 2) Zm)) (Zd 3)))) [.val S,.val (.int m1),.val T,.val (.str z)]=some (.rt (.bl true)):=by
      simp -implicitDefEqProofs [wr,lw,eq,UU,Zl5]
    rw [ZB,s4]
    show (Zu _ _ [.val S,.val (.int m1),.val T,.no]).bind _=_
    rw [ZB,s5]
    show (ZR _ [.val S,.val (.int m1),.val T,.val (.str z)]).bind _=_
    rw [s6]
    rfl
end Pl.k02
namespace L3
open PySem PySem.Spec PyProof.Rows L2
noncomputable def Ex0 (h:Heap) (e C:Addr):Prop:=∃ oe vs,h.get? e=some oe/\oe.cls=.ref C/\oe.dict=none/\oe.data=.fields vs/\vs[1]?=some .none
noncomputable def Ex1 (h:Heap) (e C T:Addr):Prop:=∃ oe vs oT ts,h.get? e=some oe/\oe.cls=.ref C/\oe.dict=none/\oe.data=.fields vs/\vs[1]?=some (.ref T)/\T≠e/\h.get? T=some oT/\oT.data=.fields ts/\ts[3]?=some .none
noncomputable def Zlu (fs:List Addr) (h h':Heap) (P:Addr->Prop):Prop:=∀ b o,h.get? b=some o->¬ P b->(b ∉ fs->h'.get? b=some o)/\∃ sl,h'.get? b=some { o with slots:=sl }
theorem Zaj (f:Array Value->Array Value) (o:Obj):(Obj.mapFields f o).dict=o.dict:=by
  unfold Obj.mapFields
  split <;> rfl
section
variable {M:Model} {A:Around} {E:Value->Shared->Prop} {s:Shared} {base:Heap} {env:Env} {outer:List Env} {L e C:Addr} {Q:Unit->Shared->Prop}
theorem Zcm {head:Value} {hadNext:Bool} {oe:Obj} {vs:Array Value} (hfr:A.frames=some (env::outer)) (hl:s.heap.FunFrames base (env::outer)) (hf:env.frame=some L) (he:s.heap.get? e=some oe) (hcl:oe.cls=.ref C) (hdi:oe.dict=none)
    (hd:oe.data=.fields vs) (hsz:1 < vs.size)
    (h:∀ h' T,Zlu (frs (env::outer)) s.heap h' (·=e)->Ex1 h' e C T->s.heap.get? T=none->h'.FunFrames base (env::outer)->s.heap.objs.size<=h'.objs.size->Q () { s with heap:=h' }) :
    wpAny M A (do let a <- frameOf env; let pl <- entryPlaceOf L hadNext; let b <- EntryCells.newEntry head a .none (rawInt L) .none pl; setField (.ref e) 1 b) (fun _ s'=>wpAny M A (setFlight (.ref e) none) Q E s') E s:=by
  have hene:e ∉ frs (env::outer):=fun hm=>by
    obtain ⟨_,o,ho,hnf⟩:=hl.mem hm
    rw [he] at ho; cases ho; exact hnf vs hd
  refine wpAny_bind (wpAny_frameOf_fun hfr hl hf fun h1 so=>wpAny_bind (wpAny_entryPlaceOf fun pl hpl=>?_))
  unfold EntryCells.newEntry newFields
  refine wpAny_bind (wpAny_newObj_type ?_ (hpl.sizeOk5 _ _ _ _ _) )
  have he1:h1.get? e=some oe:=(so.2.1 e hene).trans he
  generalize hTo:({ cls:=.type "traceback",dict:=none,data:=.fields ([head,.ref L,.none,rawInt L,.none]++(if pl.isEmpty then List.replicate 6 Value.none else pl)).toArray }:Obj)=oT
  have hTd:oT.data=.fields ([head,.ref L,.none,rawInt L,.none]++(if pl.isEmpty then List.replicate 6 Value.none else pl)).toArray:=by rw [<-hTo]
  have hTf:oT.isFreed=false:=Obj.isFreed_of_fields hTd
  have he2:(h1.push oT).get? e=some oe:=Heap.get?_push_of_some _ he1
  refine wpAny_setField he2 hd hsz ?_
  have hTe:h1.objs.size≠e:=Nat.ne_of_gt (Heap.lt_size he1)
  have hd3:=Obj.data_mapFields hd (·.setIfInBounds 1 (Value.ref h1.objs.size))
  have he3:=Heap.get?_update_self (Obj.mapFields (·.setIfInBounds 1 (Value.ref h1.objs.size))) he2 (Obj.isFreed_of_fields hd3)
  have hT3:((h1.push oT).update e (Obj.mapFields (·.setIfInBounds 1 (Value.ref h1.objs.size)))).get? h1.objs.size=some oT:=(Heap.get?_update_other _ _ (Ne.symm hTe)).trans (Heap.get?_push_size h1 hTf)
  unfold setFlight
  refine wpAny_bind (wpAny_field he3 hd3 (x:=.ref h1.objs.size) (by simp [hsz]) ?_)
  rw [if_pos (show (Value.ref h1.objs.size != Value.none)=true by simp)]
  refine wpAny_setField hT3 hTd (by simp only [List.size_toArray,List.length_append,List.length_cons,List.length_nil]; omega) ?_
  have hz:h1.objs.size=s.heap.objs.size:=so.1
  have keep:∀ b o,b≠e->h1.get? b=some o->(((h1.push oT).update e (Obj.mapFields (·.setIfInBounds 1 (Value.ref h1.objs.size)))).update h1.objs.size (Obj.mapFields (·.setIfInBounds 3 ((none:Option Addr).elim Value.none fun f=>rawInt f)))).get? b=some o:=fun b o hb eb=>by
    have hbT:h1.objs.size≠b:=Nat.ne_of_gt (Heap.lt_size eb)
    rw [Heap.get?_update_other _ _ hbT,Heap.get?_update_other _ _ (Ne.symm hb)]
    exact Heap.get?_push_of_some _ eb
  refine h _ h1.objs.size (fun b o eb hb=>?_) ⟨_,_,_,_,?_,(Obj.cls_mapFields _ _).trans hcl,(Zaj _ _).trans hdi,hd3,by simp [hsz],hTe,Heap.get?_update_self _ hT3 (Obj.isFreed_of_fields (Obj.data_mapFields hTd _)),Obj.data_mapFields hTd _,by simp⟩ (by rw [hz]; exact Heap.get?_none_of_le (Nat.le_refl _)) ?_ ?_
  · refine ⟨fun hbf=>keep b o hb ((so.2.1 b hbf).trans eb),?_⟩
    obtain ⟨sl,e1⟩:=so.2.2 b o eb
    exact ⟨sl,keep b _ hb e1⟩
  · rw [Heap.get?_update_other _ _ hTe]; exact he3
  · refine hl.of_keeps fun b o eb hnf=>?_
    obtain ⟨sl,e1⟩:=so.2.2 b o eb
    exact ⟨_,keep b _ (fun z=>by rw [z,he] at eb; cases eb; exact hnf vs hd) e1,rfl⟩
  · rw [Heap.size_update,Heap.size_update,Heap.size_push,hz]; exact Nat.le_succ _
theorem Zex (hfr:A.frames=some (env::outer)) (hl:s.heap.FunFrames base (env::outer)) (hf:env.frame=some L) (x:Ex0 s.heap e C)
    (h:∀ h' T,Zlu (frs (env::outer)) s.heap h' (·=e)->Ex1 h' e C T->s.heap.get? T=none->h'.FunFrames base (env::outer)->s.heap.objs.size<=h'.objs.size->Q () { s with heap:=h' }) :
    wpAny M A (noteFrame (.ref e) env) (fun _ s'=>wpAny M A (setFlight (.ref e) none) Q E s') E s:=by
  obtain ⟨oe,vs,he,hc,hdi,hd,h1⟩:=x
  unfold noteFrame
  simp only [hf]
  refine wpAny_bind (wpAny_field he hd h1 ?_)
  rw [if_neg (by decide)]
  exact Zcm hfr hl hf he hc hdi hd (Array.getElem?_eq_some_iff.mp h1).1 h
theorem ZfT {T:Addr} (hfr:A.frames=some (env::outer)) (hl:s.heap.FunFrames base (env::outer)) (hf:env.frame=some L) (x:Ex1 s.heap e C T)
    (h:∀ h' T',Zlu (frs (env::outer)) s.heap h' (fun b=>b=e\/b=T)->Ex1 h' e C T'->s.heap.get? T'=none->h'.FunFrames base (env::outer)->s.heap.objs.size<=h'.objs.size->Q () { s with heap:=h' }) :
    wpAny M A (noteFrame (.ref e) env) (fun _ s'=>wpAny M A (setFlight (.ref e) none) Q E s') E s:=by
  obtain ⟨oe,vs,oT,ts,he,hc,hdi,hd,h1,hTe,hT,hTd,h3⟩:=x
  unfold noteFrame
  simp only [hf]
  refine wpAny_bind (wpAny_field he hd h1 ?_)
  rw [if_pos (show (Value.ref T != Value.none)=true by simp)]
  refine wpAny_bind (wpAny_field hT hTd h3 ?_)
  rw [if_neg (show ¬ ((Value.none==rawInt L)=true) by simp [rawInt])]
  refine wpAny_bind (wpAny_setField hT hTd (Array.getElem?_eq_some_iff.mp h3).1 ?_)
  have oth:∀ b,b≠T->(s.heap.update T (Obj.mapFields (·.setIfInBounds 3 Value.none))).get? b=s.heap.get? b:=fun b hb=>Heap.get?_update_other _ _ (Ne.symm hb)
  have hsz:(s.heap.update T (Obj.mapFields (·.setIfInBounds 3 Value.none))).objs.size=s.heap.objs.size:=Heap.size_update ..
  have hl':(s.heap.update T (Obj.mapFields (·.setIfInBounds 3 Value.none))).FunFrames base (env::outer):=hl.of_keeps fun b o eb hnf=>⟨o,(oth b fun z=>by rw [z,hT] at eb; cases eb; exact hnf ts hTd).trans eb,rfl⟩
  refine Zcm (s:={ s with heap:=s.heap.update T (Obj.mapFields (·.setIfInBounds 3 Value.none)) }) hfr hl' hf ((oth e (Ne.symm hTe)).trans he) hc hdi hd (Array.getElem?_eq_some_iff.mp h1).1 fun h' T' st ex ht ff hz=>?_
  refine h h' T' (fun b o eb hb=>?_) ex ?_ ff (by rw [<-hsz]; exact hz)
  · have:=st b o ((oth b fun z=>hb (.inr z)).trans eb) fun z=>hb (.inl z)
    exact this
  · cases q:s.heap.get? T' with
    | none=>rfl
    | some o'=>
      by_cases z:T'=T
      · subst z
        have:=Heap.get?_update_self (Obj.mapFields (·.setIfInBounds 3 Value.none)) hT (Obj.isFreed_of_fields (Obj.data_mapFields hTd _))
        rw [this] at ht; cases ht
      · have:=oth T' z
        rw [q] at this
        rw [this] at ht; cases ht
end
section
variable {P:Program} {w:World} {H H':Hp} {h h' h'':Heap} {a:Addr} {o:HO} {fs:List Addr}
theorem Zew (x:ObjOk P w H h a o):∃ u,h.get? a=some u:=by
  cases o with
  | lst xs=>obtain ⟨_,_,_,_,e⟩:=x; exact ⟨_,e⟩
  | tup xs=>obtain ⟨_,_,_,_,e,_⟩:=x; exact ⟨_,e⟩
  | dK kvs=>obtain ⟨_,_,_,_,o,_,_,e,_⟩:=x; exact ⟨_,e⟩
  | dT kvs=>obtain ⟨_,_,_,_,o,_,_,e,_⟩:=x; exact ⟨_,e⟩
  | set S n=>obtain ⟨o,_,_,_,e,_⟩:=x; exact ⟨_,e⟩
  | ins C dx fs=>obtain ⟨_,_,_,e,_⟩:=x; exact ⟨_,e⟩
  | own y=>obtain ⟨_,e⟩:=x; exact ⟨_,e⟩
  | xd fs=>obtain ⟨_,⟨_,_,_,e,_⟩,_⟩:=x; exact ⟨_,e⟩
  | rng lo hi=>obtain ⟨_,_,_,e⟩:=x; exact ⟨_,e⟩
  | frz ob u=>obtain ⟨e,_⟩:=x; exact ⟨_,e⟩
  | tbl ps=>exact ⟨_,(show h.get? a=some _ from x)⟩
  | met f y=>exact ⟨_,(show h.get? a=some _ from x)⟩
  | ext φ=>obtain ⟨_,⟨_,e⟩,_⟩:=x; exact ⟨_,e⟩
theorem Zbs (x:HOk P w H h) (e:h.get? a=none):H a=none:=by
  cases q:H a with
  | none=>rfl
  | some u=>
    obtain ⟨v,z⟩:=Zew (x a u q)
    rw [e] at z; cases z
theorem ZaZ (u:Un fs [] H H' h h') (e:h'.get? a=none):h.get? a=none:=by
  cases q:h.get? a with
  | none=>rfl
  | some o=>
    obtain ⟨o',z⟩:=u.there a o q (by simp)
    rw [e] at z; cases z
theorem ZcV {R:Addr->Prop} (u:Un fs [] H H' h h') (ok:HOk P w H' h') (fr:∀ b∈fs,H' b=none) (st:Zlu fs h' h'' R) (hR:∀ b,R b->H' b=none/\h.get? b=none):Un fs [] H H' h h''/\HOk P w H' h'':=by
  have nR:∀ b o,h.get? b=some o->¬ R b:=fun b o e z=>by rw [(hR b z).2] at e; cases e
  have nT:∀ b o,H' b=some o->¬ R b:=fun b o e z=>by rw [(hR b z).1] at e; cases e
  refine ⟨⟨fun b o q n hb hx=>(st b o (u.keep b o q n hb hx) (nR b o q)).1 hb,fun b o q n hb hx=>?_,u.free,fun b o q hx=>?_,u.tups,u.frzs,u.tbls⟩,fun b o q=>?_⟩
  · obtain ⟨sl,e1⟩:=u.slot b o q n hb hx
    obtain ⟨sl',e2⟩:=(st b _ e1 (nR b o q)).2
    exact ⟨sl',e2⟩
  · obtain ⟨o',e1⟩:=u.there b o q hx
    obtain ⟨sl',e2⟩:=(st b _ e1 (nR b o q)).2
    exact ⟨_,e2⟩
  · refine (ok b o q).stay (fun c v hc e=>?_) (fun _ z=>z) fun _ _ z=>z
    have hc':∃ u,H' c=some u:=by
      rcases hc with rfl | hc
      · exact ⟨_,q⟩
      · exact ⟨_,hc⟩
    obtain ⟨u',hu⟩:=hc'
    exact (st c v e (nT c u' hu)).1 fun z=>by rw [fr c z] at hu; cases hu
end
noncomputable def CX1 (P:Program) (w:World) (C:Addr):CXT:=fun outer H s E e s'=>∃ ea T H',e=.ref ea/\s'.os=s.os/\AllBare s'.gens/\Un (frs outer) [] H H' s.heap s'.heap/\HOk P w H' s'.heap/\H' ea=none/\H' T=none/\s.heap.get? ea=none/\s.heap.get? T=none/\Ex1 s'.heap ea C T/\E (.ref C) none H'
section
variable {X:Cx} {pins:List (Addr×Obj)} {σ:L2.St} {H:Hp} {s s':Shared} {E:XK} {C:Addr} {M:Model}
theorem Zdi {h':Heap} {e:Addr} {args:List Value} (I:Inv X pins σ H s) (hx:X.ex=[]) (hs:X.stack=X.env::X.outer) (hf:X.env.frame=some X.env.locals) (hm:Heap.MadeExcOf s.heap h' e (.ref C) args) (hw:E (.ref C) none H) :
    wpAny M X.A (leaving X.env (.ref e)) (fun _ s''=>CX1 X.prog X.w C X.outer X.H₀ X.s₀ E (.ref e) s'') (fun e' s''=>CX1 X.prog X.w C X.outer X.H₀ X.s₀ E e' s'') { s with heap:=h' }:=by
  have hfr:X.A.frames=some (X.env::X.outer):=by rw [<-hs]; exact I.ok.frames
  have hl:s.heap.FunFrames X.base (X.env::X.outer):=by rw [<-hs]; exact I.stack
  have hl':h'.FunFrames X.base (X.env::X.outer):=hl.of_keeps fun b o eb _=>⟨o,hm.keeps b o eb,rfl⟩
  have u0:Un (frs X.stack) [] H H s.heap h':=Un.kept hm.keeps
  have ok0:HOk X.prog X.w H h':=I.hok.kept hm.keeps
  have He:H e=none:=Zbs I.hok hm.new
  unfold leaving
  refine wpAny_bind (Zex (C:=C) (s:={ s with heap:=h' }) hfr hl' hf ?_ fun h'' T st ex hT _ _=>?_)
  · obtain ⟨t,he,_⟩:=hm.there
    exact ⟨_,_,he,rfl,rfl,rfl,rfl⟩
  · rw [<-hs] at st
    obtain ⟨u2,ok2⟩:=ZcV u0 ok0 I.stkFree st fun b z=>by subst z; exact ⟨He,hm.new⟩
    have J:Inv X pins σ H { s with heap:=h'' }:=I.call' (s':={ s with heap:=h'' }) (ch:=[]) rfl u2 ok2 I.bare (fun b z=>nomatch z)
    have b0:=I.base
    have b1:=J.base
    rw [hx] at b0 b1
    have sT:=ZaZ u0 hT
    exact ⟨e,T,H,rfl,I.os,I.bare,b1,ok2,He,Zbs I.hok sT,ZaZ b0 hm.new,ZaZ b0 sT,ex,hw⟩
theorem Zb9 {e:Value} {Q:Unit->Shared->Prop} {E':Value->Shared->Prop} (I:Inv X pins σ H s) (hs:X.stack=X.env::X.outer) (hf:X.env.frame=some X.env.locals) (c:CX1 X.prog X.w C X.stack H s E e s')
    (h:∀ s'',CX1 X.prog X.w C X.stack H s E e s''->Q () s''):wpAny M X.A (noteFrame e X.env) (fun _ s2=>wpAny M X.A (setFlight e none) Q E' s2) E' s':=by
  obtain ⟨ea,T,H',rfl,os,bare,u,ok,He,HT,se,sT,ex,hw⟩:=c
  have hfr:X.A.frames=some (X.env::X.outer):=by rw [<-hs]; exact I.ok.frames
  have J:Inv X pins σ H' s':=I.call' (ch:=[]) os u ok bare (fun b z=>nomatch z)
  have hl:s'.heap.FunFrames X.base (X.env::X.outer):=by rw [<-hs]; exact J.stack
  refine ZfT hfr hl hf ex fun h'' T' st ex' hT' _ _=>?_
  rw [<-hs] at st
  obtain ⟨u2,ok2⟩:=ZcV u ok J.stkFree st fun b z=>by
    rcases z with z | z
    · subst z; exact ⟨He,se⟩
    · subst z; exact ⟨HT,sT⟩
  exact h _ ⟨ea,T',H',rfl,os,bare,u2,ok2,He,Zbs ok hT',se,ZaZ u hT',ex',hw⟩
theorem WR {A:Around} {e:Value} {Q:Unit->Shared->Prop} {E':Value->Shared->Prop} (I:Inv X pins σ H s) (c:CX1 X.prog X.w C X.stack H s E e s')
    (h:∀ s'',CX1 X.prog X.w C X.stack H s E e s''->Q () s''):wpAny M A (setFlight e none) Q E' s':=by
  obtain ⟨ea,T,H',rfl,os,bare,u,ok,He,HT,se,sT,ex,hw⟩:=c
  have J:Inv X pins σ H' s':=I.call' (ch:=[]) os u ok bare (fun b z=>nomatch z)
  obtain ⟨oe,vs,oT,ts,he,hc,hdi,hd,h1,hTe,hT,hTd,h3⟩:=ex
  have hsz:=(Array.getElem?_eq_some_iff.mp h3).1
  have oth:∀ b,b≠T->(s'.heap.update T (Obj.mapFields (·.setIfInBounds 3 Value.none))).get? b=s'.heap.get? b:=fun b hb=>Heap.get?_update_other _ _ (Ne.symm hb)
  refine wpAny_setFlight_none he hd h1 hT hTd hsz ?_
  obtain ⟨u2,ok2⟩:=ZcV (R:=(·=T)) (h'':=s'.heap.update T (Obj.mapFields (·.setIfInBounds 3 Value.none))) u ok J.stkFree (fun b o e hb=>⟨fun _=>(oth b hb).trans e,o.slots,(oth b hb).trans e⟩) fun b z=>by subst z; exact ⟨HT,sT⟩
  exact h _ ⟨ea,T,H',rfl,os,bare,u2,ok2,He,HT,se,sT,⟨oe,vs,_,_,(oth ea (Ne.symm hTe)).trans he,hc,hdi,hd,h1,hTe,Heap.get?_update_self _ hT (Obj.isFreed_of_fields (Obj.data_mapFields hTd _)),Obj.data_mapFields hTd _,by simp [hsz]⟩,hw⟩
end
end L3
namespace L3
open PySem PySem.Spec PyProof.Rows L2 PySem.W
section
variable {prog:Program} {w:World} {A:Around} {E:Value->Shared->Prop} {s:Shared} {K:Frag} {x D:Addr} {ox:Obj}
theorem Zgp {h:Heap} {g:Array GenState} {d:Drawn} {t:Nat} {os:OsState} {M:Model} {nameV:Value} {Q:Unit->Shared->Prop} (L:Looks M h (isInstance (.ref x) (.type "BaseException")) true) (hq:Q () ⟨h,g,d,t,os⟩) :
    wpAny M A (checkBuiltinCall "BaseException.__getattribute__" ⟨[.ref x,nameV],[]⟩) Q E ⟨h,g,d,t,os⟩:=by
  have hk:builtinKind "BaseException.__getattribute__"=some .slot:=by decide +kernel
  have hsplit:splitId "BaseException.__getattribute__"=some ("BaseException","__getattribute__"):=by decide +kernel
  have ha:=F.args_bexc_ga (.ref x) nameV
  simp only [checkBuiltinCall,hk,hsplit]
  refine wpAny_bind (L.at ?_)
  repeat (first | wp_step)
  exact hq
theorem Zgo {Q:Option Value->Shared->Prop} (hga:findIn K (.ref D) "__getattribute__"=some (some (.builtin "BaseException.__getattribute__"))) (hgt:findIn K (.ref D) "__getattr__"=some none) (hb:mroIn K D (.type "BaseException")=some true)
    (ha:findIn K (.ref D) "__class__"=some (some (.builtin "object.__class__"))) (hn:specialIn K (.builtin "object.__class__") "__get__"=some (some (.builtin "getset_descriptor.__get__"))) (htk:takesIn K (.builtin "object.__class__")=some true) (hm:mroIn K D (.type "object")=some true)
    (X:K.In s.heap) (I:InstAt s.heap x ox D none) (h:Q (some (.ref D)) { s with toks:=s.toks+1 }):wpAny (model prog w) A (getAttr? (.ref x) "__class__") Q E s:=by
  obtain ⟨hh,g,d,t,os⟩:=s
  have L0:=I.type (M:=model prog w)
  have L1:=looks_findIn (M:=model prog w) X hga
  have L2:=looks_findIn (M:=model prog w) X hgt
  have L3:=looks_findIn (M:=model prog w) X ha
  have L4:=looks_specialIn (M:=model prog w) X hn
  have L5:=looks_takesIn (M:=model prog w) X htk
  have L6:=looks_mroIn (M:=model prog w) X hb
  unfold getAttr? getAttrBy? getAttrBy
  refine wpAny_bind (wpAny_mkText (wpAny_bind (wpAny_attempt (wpAny_holding (wpAny_bind (L0.at (wpAny_bind (L1.at ?_))))))))
  show wpAny _ _ (getAttrByItsOwn _ _ _ _ _ _) _ _ _
  unfold getAttrByItsOwn hookBefore callGetattribute
  refine wpAny_bind ?_
  show wpAny _ _ (typeLookup (.ref D) "__getattr__") _ _ _
  refine L2.at ?_
  refine wpAny_bind (wpAny_attempt (wpAny_holding ?_))
  show wpAny _ _ (boundAndCalled _ _ _) _ _ _
  unfold boundAndCalled
  refine wpAny_bind (wpAny_of_eq (F.excAttr_ValueError.ga.bind (.ref x)) ?_)
  have LI:Looks (model prog w) hh (isInstance (.ref x) (.type "BaseException")) true:=L0.andThen L6
  refine wpAny_call (codeAny_call_builtin F.excAttr_ValueError.ga.plain F.entry_bexc_ga ?_)
  refine Zgp LI ?_
  have hf:findObj K D none "__class__"=some (.bind (.builtin "getset_descriptor.__get__") (.builtin "object.__class__")):=by
    obtain ⟨cd,hc,_⟩:=Option.bind_eq_some_iff.mp hm
    unfold findObj
    rw [hc,Option.bind_some,ha,Option.bind_some]
    simp [hn,htk]
  have LF:=looks_find (M:=model prog w) X I hf
  show wpAny _ _ (Builtin.«object.__getattribute__» _) _ _ _
  unfold Builtin.«object.__getattribute__»
  refine wpAny_bind (wpAny_pure ?_)
  dsimp only
  refine wpAny_bind (wpAny_pure ?_)
  refine wpAny_bind (L0.at (wpAny_bind (LF.at ?_)))
  dsimp only
  unfold Builtin.ObjectAttr.bindTo
  dsimp only
  refine wpAny_bind (wpAny_holding (wpAny_call (class_get (s:=⟨hh,g,d,t+1,os⟩) (ox:=ox) (od:=none) X I hm ?_)))
  refine wpAny_pure ?_
  show wpAny _ _ (handedOut (.ref D)) _ _ _
  exact wpAny_pure (wpAny_pure h)
theorem Zhs (hga : findIn K (.ref D) "__getattribute__" = some (some (.builtin "BaseException.__getattribute__"))) (hgt : findIn K (.ref D) "__getattr__" = some none) (hb : mroIn K D (.type "BaseException") = some true)
    (ha : findIn K (.ref D) "__class__" = some (some (.builtin "object.__class__"))) (hn : specialIn K (.builtin "object.__class__") "__get__" = some (some (.builtin "getset_descriptor.__get__"))) (htk : takesIn K (.builtin "object.__class__") = some true) (hm : mroIn K D (.type "object") = some true) :
    KitX K (.ref x) (.ref D) (fun h => InstAt h x ox D none) := by
  have cls : ∃ c d cd sl, K.lookup D = some ⟨c, d, .cls cd, sl⟩ := by
    obtain ⟨cd, hc, _⟩ := Option.bind_eq_some_iff.mp hm
    unfold clsIn at hc
    split at hc
    · rename_i c' d' cd' sl' ho
      exact ⟨c', d', cd', sl', ho⟩
    · cases hc
  obtain ⟨c', d', cd', sl', ho⟩ := cls
  exact { ty := fun _ _ _ I => I.type
          it := fun _ _ X _ => by
            intro A' Q' E' s' k q
            unfold isType loadHead
            exact wpAny_bind (wpAny_loadPart (k _ _ (X _ _ ho)) (wpAny_pure q))
          ne := fun h tp dd its n sl X htp => by
            refine Bool.eq_false_iff.mpr fun q => ?_
            have e : D = tp := Value.ref.inj (beq_iff_eq.mp q)
            subst e
            have z := (X _ _ ho).symm.trans htp
            cases z
          ca := fun X I k => Zgo hga hgt hb ha hn htk hm X I k }
end
end L3
namespace L3
open PySem PySem.Spec PyProof.Rows L2
noncomputable abbrev Zmr (K:PySem.W.Frag) (C:Addr):Prop:=PySem.W.excIn K C [.type "ValueError",.type "Exception",.type "BaseException",.type "object"] "ValueError.__new__"=true
theorem Zjt {K:PySem.W.Frag} {h:Heap} {C:Addr} {bmB:List Value} {newId:String} (X:K.In h) (q:PySem.W.excIn K C bmB newId=true) :
    ∃ bm N nm qn bs hdct sn sub ab col dd k0 k1 k2 k3 k5 mN,h.get? C=some (excClassObj nm qn C N bs bm hdct sn sub ab col dd k0 k1 k2 k3 k5 newId)/\h.Ns N mN/\mN "__init__"=none/\OwnTail h bmB bm:=by
  unfold PySem.W.excIn at q
  split at q
  · rename_i dd cd sl ho
    split at q
    · rename_i C' bm k0 k1 k2 k3 n k5 hm hs
      simp only [Bool.and_eq_true,beq_iff_eq,Bool.not_eq_true'] at q
      obtain ⟨⟨⟨⟨⟨rfl,rfl⟩,hdel⟩,ht⟩,hok⟩,hni⟩:=q
      obtain ⟨nm,bs,mro,ns,qn,hd,sn,sub,ab,col,del⟩:=cd
      dsimp only at hm hdel hok hni
      subst hm hdel
      obtain ⟨l⟩:=sl
      dsimp only at hs
      subst hs
      exact ⟨bm,ns,nm,qn,bs,hd,sn,sub,ab,col,dd,k0,k1,k2,k3,k5,_,X _ _ ho,.of_isNs (PySem.W.isNs_of_in X hok),PySem.W.nsMap_none_of_in X hok hni,PySem.W.tail_of_in X ht⟩
    · cases q
  · cases q
section
variable {X:Cx} {pins:List (Addr×Obj)} {σ:L2.St} {H:Hp} {s s':Shared} {C:Addr}
theorem Zhg {E:XK} {x:Str} {np cpos pos:Pos} {a:Expr} {es:List Expr} {t:TA} (hq:Zmr X.K C) (hg:Gl X x) (hm:X.mg x=some (.ref C)) (hh:X.A.handled=none) (ha:PA X (a::es) t)
    (hxe:∀ pins σ H s h' e args,Inv X pins σ H s->Heap.MadeExcOf s.heap h' e (.ref C) args->E (.ref C) none H->X.xe (.ref e) { s with heap:=h' })
    (hd:(x==("__debug__":Str))=false:=by decide) (hbk:∃ y rest,backTo cpos (starEach (a::es) X.env)=(false,y)::rest:=by exact ⟨_,_,rfl⟩) (hpl:(backTo cpos (starEach (a::es) X.env)).any (·.1)=false:=by rfl) :
    PS X (.Raise (some (.Call (.Name x np) (a::es) [] cpos)) none pos) (fun _ σ H=>t σ H fun vs H1=>vs.length<=sizeLine/\E (.ref C) none H1):=by
  intro pins s σ H D I h
  obtain ⟨bm,N,nm,qn,bs,hdct,sn,sub,ab,col,dd,k0,k1,k2,k3,k5,mN,hC,hN,hni,TL⟩:=Zjt I.mod.kin hq
  refine wpAny_Raise_call_subU (nm:=nm) (q:=qn) (C:=C) (N:=N) (bs:=bs) (bm:=bm) (hdct:=hdct) (sn:=sn) (sub:=sub) (ab:=ab) (col:=col) (dd:=dd) (k0:=k0) (k1:=k1) (k2:=k2) (k3:=k3) (k5:=k5) PySem.F.excBase_ValueError (by decide) PySem.F.excBase_ValueError (TL.hasType (X:="BaseException") (by decide)) hh hpl hni (WI I hg hm ⟨rfl,?_⟩ hd)
  have hp:=ha cpos pins s σ H _ I h
  obtain ⟨y,rest,eb⟩:=hbk
  rw [eb] at hp ⊢
  refine Calls.evalArgs_plain (thn hp fun us s1 zq=>?_)
  obtain ⟨vs,H1,I1,r1,q1,q2⟩:=zq
  refine ⟨rfl,?_,I1.bk _ _ hC,hN.keeps I1.bk,TL.keeps I1.bk,fun h' e hm=>hxe pins σ H1 s1 h' e us I1 hm q2⟩
  show us.length<=sizeLine
  rw [<-r1.length]; exact q1
noncomputable abbrev Zib (X:Cx) (e:Addr) (o:Obj) (pn:List (Addr×Obj)):Cx:={ X with A:=X.A.mark (some (.ref e)),calm:=false,pn:=(e,o)::pn,xe:=fun _ _=>False }
theorem ZdY {e:Addr} {o:Obj} (I:Inv X pins σ H s) (h:s.heap.get? e=some o/\H e=none/\e≠X.env.locals/\e ∉ X.fs/\∀ v,o.data≠.cell v):Inv (Zib X e o (X.pn++pins)) [] σ H s:=
  ⟨⟨I.ok.mod,I.ok.kind,I.ok.glob,I.ok.blt,I.ok.above,I.ok.inj,I.ok.has,I.ok.cab,(fun z=>nomatch z),I.ok.frames,I.ok.stk,I.ok.exf,I.ok.bs,I.ok.bsz,I.ok.noex,I.ok.exfs,I.ok.funs,I.ok.frf⟩,
    I.os,I.bare,I.base,I.loc,I.cell,I.free,I.freeC,fun p hp=>by
      rw [List.append_nil] at hp
      rcases List.mem_cons.mp hp with rfl | hp
      · exact h
      · exact I.pin p hp,I.hok,I.len⟩
theorem ZaG {e:Addr} {o:Obj} {pins':List (Addr×Obj)} (ok:X.Ok) (I:Inv (Zib X e o (X.pn++pins)) pins' σ H s):Inv X pins σ H s:=
  ⟨ok,I.os,I.bare,I.base,I.loc,I.cell,I.free,I.freeC,fun p hp=>I.pin p (List.mem_append_left _ (List.mem_cons_of_mem _ hp)),I.hok,I.len⟩
theorem Zga {h':Heap} {m':Str->Option Value} {tk:Nat} (I:Inv X pins σ H s) (hn:h'.Ns X.env.locals m') (hs:Heap.SameBut X.env.locals s.heap h'):Inv X pins (List.replicate X.N.length none) H { s with heap:=h',toks:=tk }:=by
  have neL:∀ b o,X.s₀.heap.get? b=some o->b≠X.env.locals:=fun b o e=>Nat.ne_of_lt (Nat.lt_of_lt_of_le (Heap.lt_size e) I.ok.above)
  refine ⟨I.ok,I.os,I.bare,⟨fun b o e n hb hx=>(hs.2 b (neL b o e)).trans (I.base.keep b o e n hb hx),fun b o e n hb hx=>?_,I.base.free,fun b o e hx=>?_,I.base.tups,I.base.frzs,I.base.tbls⟩,⟨m',hn,fun i x v _ e2 _=>?_⟩,fun x c e=>?_,I.free,I.freeC,fun p hp=>?_,fun b u e=>?_,by simp⟩
  · obtain ⟨sl,e1⟩:=I.base.slot b o e n hb hx
    exact ⟨sl,(hs.2 b (neL b o e)).trans e1⟩
  · obtain ⟨o',e1⟩:=I.base.there b o e hx
    exact ⟨o',(hs.2 b (neL b o e)).trans e1⟩
  · rw [List.getElem?_replicate] at e2
    split at e2 <;> cases e2
  · obtain ⟨v,z⟩:=I.cell x c e
    exact ⟨v,z.sameBut hs (I.cne x c e)⟩
  · obtain ⟨e,n,ne,nf,d⟩:=I.pin p hp
    exact ⟨(hs.2 p.1 ne).trans e,n,ne,nf,d⟩
  · refine (I.hok b u e).stay (fun c v hc q=>(hs.2 c ?_).trans q) (fun _ z=>z) fun _ _ z=>z
    rintro rfl
    rcases hc with rfl | hc
    · rw [I.free] at e; cases e
    · rw [I.free] at hc; cases hc
end
noncomputable def rdR (K:PySem.W.Frag) (W:Hp->Prop) (g:DS):TS:=fun _ σ H=>∃ ρ F0 H0 F,EnvOk K F0 H0 F σ H ρ/\g ρ=some (.rt (.bl true))/\∀ F' H',Grow F0 H0 F' H'->W H'
section
variable {X:Cx} {W:Hp->Prop} {st:Stmt} {rest a:List Stmt} {g g':DS} {c:Expr} {t:DT} {pos:Pos}
theorem ZlM (hc:TD X c t) (hr:PSs X a (fun _ _ H=>W H)):PSs X (.If c a [] pos::rest) (rdR X.K W (Zu (Yb t (ZR (Zg (.bl true))) Zx) (ZR (Zg (.bl false))))):=by
  have h0:PSs X rest (fun _ _ _=>False):=fun _ _ _ _ _ _ h=>h.elim
  have h1:PSs X [] (fun _ _ _=>False):=fun _ _ _ _ _ _ h=>h.elim
  refine PSs.imp (Wa (Zkj hc hr h1) h0) fun E σ H zq=>?_
  obtain ⟨ρ,F0,H0,F,ok,e,k⟩:=zq
  unfold Zu Yb at e
  cases e1:t ρ with
  | none=>rw [e1] at e; cases e
  | some b=>
    cases b with
    | false=>rw [e1] at e; cases e
    | true=>exact ⟨ρ,F0,H0,F,true,ok,e1,fun F' H' gr=>k F' H' (ok.base.trans gr)⟩
end
noncomputable def spX (K:PySem.W.Frag) (n:Nat) (fx:List D->Option D) (C:Addr):Sp:=fun vs H _ E=>∃ xs F,xs.length=n/\RepL K F H xs vs/\(∀ a,F a->H a≠none\/∃ o,K.lookup a=some o)/\fx xs=some (.bl true)/\∀ F' H',Grow F H F' H'->E (.ref C) none H'
section
variable {P:Program} {w:World} {K:PySem.W.Frag} {mg:Str->Option Value} {base:Heap}
theorem Znu {x qual:Str} {st:Stmt} {f C:Addr} {fd:FuncData} {N ps:List Str} {k:Nat} {g:DS} (F:Fun K x qual st f fd) (S:Zr N ps (Zi st))
    (hb:∀ (cdv:Value) (A:Around) (outer:List Env) (s:Shared) (H:Hp) (E:XK),Room k (A.deeper (envOfC qual (Zi st) s.heap.objs.size f cdv)) ->
      PSs (ZeN (CX1 P w C) P w K mg base N qual (Zi st) f cdv A outer s H E) (QE st) (rdR K (fun H'=>E (.ref C) none H') g)):ZdC P w K mg base (CX1 P w C) (k+1) f fd ps (spX K ps.length (Zo N.length g) C):=by
  have hpl:ps.length<=N.length:=by have:=congrArg List.length S.pre; rw [List.length_take] at this; omega
  obtain ⟨oc,od,kV,doc,pm,an,cdv,ct,osl,rfl,lk,hcd⟩:=F.ex
  refine Zk6 lk hcd S (fun vs H Q E h=>?_) (fun A outer s H vs Q E hr h=>⟨_,hb cdv A outer s H E hr,?_⟩)
  · obtain ⟨xs,F,hl,hr,_⟩:=h
    rw [<-hr.length,hl]
  · obtain ⟨xs,Fz,hl,hr',hfz,e,q⟩:=h
    obtain ⟨o,eo,e⟩:=bind_some e
    have hlv:=hr'.length
    have eo':o=.rt (.bl true):=by
      cases o with
      | rt d'=>cases e; rfl
      | nx ρ=>cases e
      | bk ρ=>cases e
      | ct ρ=>cases e
    subst eo'
    refine ⟨_,Fz,H,Fz,⟨.refl,fun i d' h=>?_,fun i ds h=>?_,fun i j ds es a h=>?_,?_,hfz⟩,eo,q⟩
    · have hi:i < xs.length:=by
        by_cases hi:i < xs.length
        · exact hi
        · rw [List.getElem?_append_right (by simpa using hi),List.getElem?_replicate] at h
          split at h <;> cases h
      rw [List.getElem?_append_left (by simpa using hi),List.getElem?_map,List.getElem?_eq_getElem hi] at h
      cases h
      obtain ⟨v,ev,rv⟩:=hr'.get (show xs[i]?=some xs[i] by simp [hi])
      refine ⟨v,?_,rv⟩
      unfold L2.start
      rw [List.getElem?_append_left (by simp; omega),List.getElem?_map,ev]; rfl
    · by_cases hi:i < xs.length
      · rw [List.getElem?_append_left (by simpa using hi),List.getElem?_map,List.getElem?_eq_getElem hi] at h; cases h
      · rw [List.getElem?_append_right (by simpa using hi),List.getElem?_replicate] at h
        split at h <;> cases h
    · by_cases hi:i < xs.length
      · rw [List.getElem?_append_left (by simpa using hi),List.getElem?_map,List.getElem?_eq_getElem hi] at h; cases h
      · rw [List.getElem?_append_right (by simpa using hi),List.getElem?_replicate] at h
        split at h <;> cases h
    · unfold L2.start; simp; omega
noncomputable def Zlj (P:Program) (w:World) (K:PySem.W.Frag) (mg:Str->Option Value) (base:Heap) (x:Str) (k:Nat) (ps:List Str) (fx:List D->Option D) (C:Addr):Prop:=
  ∃ f fd,ZdC P w K mg base (CX1 P w C) k f fd ps (spX K ps.length fx C)/\mg x=some (.ref f)/\PySem.W.keepIn K (.ref f)=true/\Binds K fd ps []
theorem ZgZ {N:List Str} {qual:Str} {scope:Scope} {f C:Addr} {cd:Value} {A:Around} {outer:List Env} {s:Shared} {H:Hp} {E:XK}:∀ pins σ H1 s1 h' e args,Inv (ZeN (CX1 P w C) P w K mg base N qual scope f cd A outer s H E) pins σ H1 s1 ->
    Heap.MadeExcOf s1.heap h' e (.ref C) args->E (.ref C) none H1->(ZeN (CX1 P w C) P w K mg base N qual scope f cd A outer s H E).xe (.ref e) { s1 with heap:=h' }:=
  fun pins σ H1 s1 h' e args I hm hw=>Zdi I rfl rfl rfl hm hw
end
structure Zlw (K:PySem.W.Frag) (D:Addr):Prop where
  hga:PySem.W.findIn K (.ref D) "__getattribute__"=some (some (.builtin "BaseException.__getattribute__"))
  hgt:PySem.W.findIn K (.ref D) "__getattr__"=some none
  hb:PySem.W.mroIn K D (.type "BaseException")=some true
  ha:PySem.W.findIn K (.ref D) "__class__"=some (some (.builtin "object.__class__"))
  hn:PySem.W.specialIn K (.builtin "object.__class__") "__get__"=some (some (.builtin "getset_descriptor.__get__"))
  htk:PySem.W.takesIn K (.builtin "object.__class__")=some true
  hm:PySem.W.mroIn K D (.type "object")=some true
section
variable {X:Cx} {C e:Addr} {o:Obj} {pn:List (Addr×Obj)} {vc:V} {cv:Value} {b:Bool}
theorem W0 (hc:o.cls=.ref C) (hd:o.dict=none) (hv:∃ vs,o.data=.fields vs) (Z:Zlw X.K C) (rv:∀ u,RelV vc u->u=cv) (e1:PySem.W.kitOne X.K (.ref C) cv=some b) :
    W8 (Zib X e o pn) (.builtin "isinstance") (fun vs H Q=>vs=[.ref e,vc]/\Q (.bl b) H):=by
  intro pins s σ H xs us Q I r ⟨ex,q⟩
  subst ex
  cases r with
  | cons r1 r=>
    cases r with
    | cons r2 r=>
      cases r
      cases r1
      cases rv _ r2
      obtain ⟨he,_⟩:=I.pin (e,o) List.mem_cons_self
      obtain ⟨vs,hv⟩:=hv
      exact PySem.W.kia_one (Zhs Z.hga Z.hgt Z.hb Z.ha Z.hn Z.htk Z.hm) I.kIn ⟨he,hc,by unfold PySem.W.notCls; rw [hv],by rw [hd]; trivial⟩ e1 (fun z=>nomatch z) fun tk=>⟨.bl b,H,I.tok tk,rfl,q⟩
end
section
variable {X:Cx} {pins:List (Addr×Obj)} {σ:L2.St} {H:Hp} {s s':Shared} {C B:Addr}
theorem ZiQ {i:Nat} {n c:Str} {np hp pos:Pos} {body suite:List Stmt} {b0:Stmt} {tb:XK->TS} {ts:Addr->TS} (hs:X.stack=X.env::X.outer) (hf:X.env.frame=some X.env.locals) (hx:PySem.W.exmOne X.K (.ref C) (.ref B)=some true) (hg:Gl X c) (hm:X.mg c=some (.ref B))
    (hN:X.N.Nodup) (hi:X.N[i]?=some n) (hl:X.env.scope.names.lookup n=some .local)
    (hb:∀ (pn:List (Addr×Obj)) (W:Value->Shared->Prop) (E:XK),W2 (CX1 X.prog X.w C) { X with pn:=pn,xe:=W } E->PSs { X with pn:=pn,xe:=W } body (tb E))
    (hsu:∀ (ea:Addr) (oe:Obj) (pn:List (Addr×Obj)),oe.cls=.ref C->oe.dict=none->(∃ vs,oe.data=.fields vs)->PSs (Zib X ea oe pn) (b0::suite) (ts ea)) (hd:(c==("__debug__":Str))=false:=by decide) :
    PS X (.Try body [.ExceptHandler (some (.Name c np)) (some n) (b0::suite) hp] [] [] pos)
      (fun D σ H=>∃ E:XK,tb E { nx:=fun _ _=>False,rt:=fun _ _=>False } σ H/\∀ (σ':L2.St) (H':Hp) (ea:Addr),E (.ref C) none H'->σ'.length=X.N.length->ts ea { nx:=fun _ _=>False,rt:=D.rt } (σ'.set i (some (.ref ea))) H'):=by
  intro pins s σ H D I ⟨E,h1,h2⟩
  refine wpAny_Try_except ?_
  let W:Value->Shared->Prop:=fun e s'=>∃ pins' σ1 H1 s1,Inv { X with pn:=X.pn++pins } pins' σ1 H1 s1/\CX1 X.prog X.w C X.stack H1 s1 E e s'
  have I2:Inv { X with pn:=X.pn++pins,xe:=W } [] σ H s:=⟨⟨I.ok.mod,I.ok.kind,I.ok.glob,I.ok.blt,I.ok.above,I.ok.inj,I.ok.has,I.ok.cab,I.ok.hd,I.ok.frames,I.ok.stk,I.ok.exf,I.ok.bs,I.ok.bsz,I.ok.noex,I.ok.exfs,I.ok.funs,I.ok.frf⟩,
    I.os,I.bare,I.base,I.loc,I.cell,I.free,I.freeC,fun p hp=>I.pin p (by rw [List.append_nil] at hp; exact hp),I.hok,I.len⟩
  have hpass:W2 (CX1 X.prog X.w C) { X with pn:=X.pn++pins,xe:=W } E:=fun pins' σ1 H1 s1 e s' J cx=>⟨pins',σ1,H1,s1,⟨⟨J.ok.mod,J.ok.kind,J.ok.glob,J.ok.blt,J.ok.above,J.ok.inj,J.ok.has,J.ok.cab,J.ok.hd,J.ok.frames,J.ok.stk,J.ok.exf,J.ok.bs,J.ok.bsz,J.ok.noex,J.ok.exfs,J.ok.funs,J.ok.frf⟩,
    J.os,J.bare,J.base,J.loc,J.cell,J.free,J.freeC,J.pin,J.hok,J.len⟩,cx⟩
  refine wpAny_mono (hb _ W E hpass [] s σ H _ I2 h1) (fun f s' q=>?_) (fun e s' q=>?_)
  · cases f with
    | next=>obtain ⟨_,_,_,q⟩:=q; exact q.elim
    | brk=>obtain ⟨_,_,_,q⟩:=q; exact q.elim
    | cont=>obtain ⟨_,_,_,q⟩:=q; exact q.elim
    | ret u=>obtain ⟨_,_,_,_,_,q⟩:=q; exact q.elim
  · obtain ⟨pins',σ1,H1,s1,J0,cx⟩:=q
    have J:Inv X pins σ1 H1 s1:=⟨I.ok,J0.os,J0.bare,J0.base,J0.loc,J0.cell,J0.free,J0.freeC,fun p hp=>J0.pin p (List.mem_append_left _ hp),J0.hok,J0.len⟩
    refine Zb9 J hs hf cx fun s2 c2=>?_
    have hinv:∀ {s2:Shared} {e:Value},CX1 X.prog X.w C X.stack H1 s1 E e s2->∃ ea oe H',e=.ref ea/\E (.ref C) none H'/\s2.heap.get? ea=some oe/\oe.cls=.ref C/\oe.dict=none/\(∃ vs,oe.data=.fields vs)/\Inv (Zib X ea oe (X.pn++pins)) [] σ1 H' s2:=by
      intro s2 e c2
      obtain ⟨ea,T,H',rfl,os,bare,u,ok,He,HT,se,sT,⟨oe,vs,oT,ts',he,hc,hdi,hdd,h1,_⟩,hw⟩:=c2
      have K2:Inv X pins σ1 H' s2:=J.call' (ch:=[]) os u ok bare (fun b z=>nomatch z)
      have nst:ea ∉ frs X.stack:=fun z=>by
        obtain ⟨_,o,ho,hnf⟩:=K2.stack.mem z
        rw [he] at ho; cases ho; exact hnf vs hdd
      have nst':ea ∉ X.env.locals::X.fs:=by
        rw [hs] at nst
        unfold frs at nst
        rw [List.filterMap_cons,hf] at nst
        exact nst
      exact ⟨ea,oe,H',rfl,hw,he,hc,hdi,⟨vs,hdd⟩,ZdY K2 ⟨he,He,fun z=>nst' (by rw [z]; exact List.mem_cons_self),fun z=>nst' (List.mem_cons_of_mem _ z),fun v z=>by rw [hdd] at z; cases z⟩⟩
    obtain ⟨ea,oe,H2,rfl,_,he,hc,hdi,hv,Kh⟩:=hinv c2
    have LT:PySem.W.Looks (model X.prog X.w) s2.heap (typeOf (.ref ea)) (.ref C):=by
      obtain ⟨vs,hv⟩:=hv
      exact PySem.W.InstAt.type (ox:=oe) (od:=none) ⟨he,hc,by unfold PySem.W.notCls; rw [hv],by rw [hdi]; trivial⟩
    refine wpAny_handleBy_cons (codeAny_handlers_test (WI Kh hg hm ?_ hd)) (by intro q; cases q)
    have LE:=PySem.W.exm_one (M:=model X.prog X.w) Kh.kIn LT hx
    obtain ⟨hh2,g2,d2,t2,os2⟩:=s2
    refine LE.at (codeAny_handlers_suite_as ?_)
    refine WR J c2 fun s3 c3=>?_
    obtain ⟨ea',oe3,H3,e3,hw3,he3,hc3,hdi3,hv3,Kh3⟩:=hinv c3
    cases e3
    refine V9 (X:=Zib X ea oe3 (X.pn++pins)) Kh3 hN hi (.inl hl) (v:=.ref ea) rfl (fun s4 I4=>?_) (.inr hl)
    refine wpAny_mono (hsu ea oe3 _ hc3 hdi3 hv3 [] s4 _ H3 _ I4 (h2 σ1 H3 ea hw3 Kh3.len)) (fun f s5 q=>?_) (fun _ _ z=>z.elim)
    cases f with
    | next=>obtain ⟨_,_,_,q⟩:=q; exact q.elim
    | brk=>obtain ⟨_,_,_,q⟩:=q; exact q.elim
    | cont=>obtain ⟨_,_,_,q⟩:=q; exact q.elim
    | ret u=>
      obtain ⟨v,σ',H',I5,r,q⟩:=q
      have I6:=ZaG J.ok I5
      obtain ⟨m,hn,_⟩:=id I6.loc
      refine wpAny_nameGoes hl hn (by rw [I6.ok.kind]; rfl) fun h' m' hn' hsame=>?_
      exact ⟨v,_,H',Zga I6 hn' hsame,r,q⟩
theorem Zhf {c:Str} {np hp pos:Pos} {body suite:List Stmt} {b0:Stmt} {tb:XK->TS} {ts:TS} (hs:X.stack=X.env::X.outer) (hf:X.env.frame=some X.env.locals) (hx:PySem.W.exmOne X.K (.ref C) (.ref B)=some true) (hg:Gl X c) (hm:X.mg c=some (.ref B))
    (hb:∀ (pn:List (Addr×Obj)) (W:Value->Shared->Prop) (E:XK),W2 (CX1 X.prog X.w C) { X with pn:=pn,xe:=W } E->PSs { X with pn:=pn,xe:=W } body (tb E))
    (hsu:∀ (ea:Addr) (oe:Obj) (pn:List (Addr×Obj)),oe.cls=.ref C->oe.dict=none->(∃ vs,oe.data=.fields vs)->PSs (Zib X ea oe pn) (b0::suite) ts) (hd:(c==("__debug__":Str))=false:=by decide) :
    PS X (.Try body [.ExceptHandler (some (.Name c np)) none (b0::suite) hp] [] [] pos)
      (fun D σ H=>∃ E:XK,tb E { nx:=fun _ _=>False,rt:=fun _ _=>False } σ H/\∀ (σ':L2.St) (H':Hp),E (.ref C) none H'->σ'.length=X.N.length->ts { nx:=fun _ _=>False,rt:=D.rt } σ' H'):=by
  intro pins s σ H D I ⟨E,h1,h2⟩
  refine wpAny_Try_except ?_
  let W:Value->Shared->Prop:=fun e s'=>∃ pins' σ1 H1 s1,Inv { X with pn:=X.pn++pins } pins' σ1 H1 s1/\CX1 X.prog X.w C X.stack H1 s1 E e s'
  have I2:Inv { X with pn:=X.pn++pins,xe:=W } [] σ H s:=⟨⟨I.ok.mod,I.ok.kind,I.ok.glob,I.ok.blt,I.ok.above,I.ok.inj,I.ok.has,I.ok.cab,I.ok.hd,I.ok.frames,I.ok.stk,I.ok.exf,I.ok.bs,I.ok.bsz,I.ok.noex,I.ok.exfs,I.ok.funs,I.ok.frf⟩,
    I.os,I.bare,I.base,I.loc,I.cell,I.free,I.freeC,fun p hp=>I.pin p (by rw [List.append_nil] at hp; exact hp),I.hok,I.len⟩
  have hpass:W2 (CX1 X.prog X.w C) { X with pn:=X.pn++pins,xe:=W } E:=fun pins' σ1 H1 s1 e s' J cx=>⟨pins',σ1,H1,s1,⟨⟨J.ok.mod,J.ok.kind,J.ok.glob,J.ok.blt,J.ok.above,J.ok.inj,J.ok.has,J.ok.cab,J.ok.hd,J.ok.frames,J.ok.stk,J.ok.exf,J.ok.bs,J.ok.bsz,J.ok.noex,J.ok.exfs,J.ok.funs,J.ok.frf⟩,
    J.os,J.bare,J.base,J.loc,J.cell,J.free,J.freeC,J.pin,J.hok,J.len⟩,cx⟩
  refine wpAny_mono (hb _ W E hpass [] s σ H _ I2 h1) (fun f s' q=>?_) (fun e s' q=>?_)
  · cases f with
    | next=>obtain ⟨_,_,_,q⟩:=q; exact q.elim
    | brk=>obtain ⟨_,_,_,q⟩:=q; exact q.elim
    | cont=>obtain ⟨_,_,_,q⟩:=q; exact q.elim
    | ret u=>obtain ⟨_,_,_,_,_,q⟩:=q; exact q.elim
  · obtain ⟨pins',σ1,H1,s1,J0,cx⟩:=q
    have J:Inv X pins σ1 H1 s1:=⟨I.ok,J0.os,J0.bare,J0.base,J0.loc,J0.cell,J0.free,J0.freeC,fun p hp=>J0.pin p (List.mem_append_left _ hp),J0.hok,J0.len⟩
    refine Zb9 J hs hf cx fun s2 c2=>?_
    have hinv:∀ {s2:Shared} {e:Value},CX1 X.prog X.w C X.stack H1 s1 E e s2->∃ ea oe H',e=.ref ea/\E (.ref C) none H'/\s2.heap.get? ea=some oe/\oe.cls=.ref C/\oe.dict=none/\(∃ vs,oe.data=.fields vs)/\Inv (Zib X ea oe (X.pn++pins)) [] σ1 H' s2:=by
      intro s2 e c2
      obtain ⟨ea,T,H',rfl,os,bare,u,ok,He,HT,se,sT,⟨oe,vs,oT,ts',he,hc,hdi,hdd,h1,_⟩,hw⟩:=c2
      have K2:Inv X pins σ1 H' s2:=J.call' (ch:=[]) os u ok bare (fun b z=>nomatch z)
      have nst:ea ∉ frs X.stack:=fun z=>by
        obtain ⟨_,o,ho,hnf⟩:=K2.stack.mem z
        rw [he] at ho; cases ho; exact hnf vs hdd
      have nst':ea ∉ X.env.locals::X.fs:=by
        rw [hs] at nst
        unfold frs at nst
        rw [List.filterMap_cons,hf] at nst
        exact nst
      exact ⟨ea,oe,H',rfl,hw,he,hc,hdi,⟨vs,hdd⟩,ZdY K2 ⟨he,He,fun z=>nst' (by rw [z]; exact List.mem_cons_self),fun z=>nst' (List.mem_cons_of_mem _ z),fun v z=>by rw [hdd] at z; cases z⟩⟩
    obtain ⟨ea,oe,H2,rfl,_,he,hc,hdi,hv,Kh⟩:=hinv c2
    have LT:PySem.W.Looks (model X.prog X.w) s2.heap (typeOf (.ref ea)) (.ref C):=by
      obtain ⟨vs,hv⟩:=hv
      exact PySem.W.InstAt.type (ox:=oe) (od:=none) ⟨he,hc,by unfold PySem.W.notCls; rw [hv],by rw [hdi]; trivial⟩
    refine wpAny_handleBy_cons (codeAny_handlers_test (WI Kh hg hm ?_ hd)) (by intro q; cases q)
    have LE:=PySem.W.exm_one (M:=model X.prog X.w) Kh.kIn LT hx
    obtain ⟨hh2,g2,d2,t2,os2⟩:=s2
    refine LE.at (codeAny_handlers_suite ?_)
    refine WR J c2 fun s3 c3=>?_
    obtain ⟨ea',oe3,H3,e3,hw3,he3,hc3,hdi3,hv3,Kh3⟩:=hinv c3
    cases e3
    refine wpAny_mono (hsu ea oe3 _ hc3 hdi3 hv3 [] s3 _ H3 _ Kh3 (h2 σ1 H3 hw3 Kh3.len)) (fun f s5 q=>?_) (fun _ _ z=>z.elim)
    cases f with
    | next=>obtain ⟨_,_,_,q⟩:=q; exact q.elim
    | brk=>obtain ⟨_,_,_,q⟩:=q; exact q.elim
    | cont=>obtain ⟨_,_,_,q⟩:=q; exact q.elim
    | ret u=>
      obtain ⟨v,σ',H',I5,r,q⟩:=q
      exact ⟨v,_,H',ZaG J.ok I5,r,q⟩
end
end L3
namespace Pl.k02
open PySem PySem.Spec PyProof.Rows L2 L3 Pl
section
variable {P:Program} {w:World} {K:PySem.W.Frag} {mg:Str->Option Value} {base:Heap}
theorem Zda {f C:Addr} {fd:FuncData} (B:Blt mg) (d_is_plot:W5 P w K mg base) (hq:Zmr K C) (hm:mg "NoPlot"=some (.ref C)) (F:Fun K "written" "written" Ja f fd) :
    ZdC P w K mg base (CX1 P w C) 7 f fd ["plot"] (spX K 1 Z1 C):=by
  refine Znu (g:=Vv) F Zay fun cdv A outer s H E hr=>?_
  refine PSs.imp (ZlM (W:=fun H'=>E (.ref C) none H') (Jy (Yf (Zn d_is_plot hr (by decide) rfl (Zb (Za (pv 0)) Zf)))) ?_) fun _ _ _ h=>h
  refine PSs.imp (Vo (Zhg (E:=E) hq rfl hm hr.hd (QA Zh1 VG) ZgZ)) fun _ _ H h=>?_
  exact ⟨by decide,h⟩
noncomputable def spR (K:PySem.W.Frag) (fx:List D->Option D):Sp:=fun vs H Q _=>∃ xs F,xs.length=1/\RepL K F H xs vs/\(∀ a,F a->H a≠none\/∃ o,K.lookup a=some o)/\fx xs=some (.bl true)/\∀ F' H',Grow F H F' H'->Q (.bl true) H'
theorem Zdb {f C:Addr} {fd:FuncData} (B:Blt mg) (x_written:Zlj P w K mg base "written" 7 ["plot"] Z1 C) (hm:mg "NoPlot"=some (.ref C)) (hx:PySem.W.exmOne K (.ref C) (.ref C)=some true) (F:Fun K "_law_refused" "_law_refused" YG f fd) :
    ZdC P w K mg base CX0 8 f fd ["_law_thing"] (spR K Z1):=by
  refine F.ok Wq (fun vs H Q E h=>?_) (fun cdv A outer s H vs Q E hr h=>?_)
  · obtain ⟨xs,F,hl,hr,_⟩:=h
    rw [<-hr.length,hl]; rfl
  · obtain ⟨xs,Fz,hl,hr',hfz,e,q⟩:=h
    obtain ⟨fA,fdA,fnA,mA,kA,bA⟩:=x_written
    have h0:∀ rest,PSs (ZeN CX0 P w K mg base Uu "_law_refused" (Zi YG) f cdv A outer s H E).nox rest (fun _ _ _=>False):=fun _ _ _ _ _ _ _ h=>h.elim
    refine ⟨_,Wa (Zhf (C:=C) (B:=C) rfl rfl hx rfl hm
      (fun pn W E hp=>Vo (Zc5 (Zc9 (x:="written") fnA (hr.mono (by decide)) rfl mA kA bA .nil hp (QA (pv 0) VG))))
      (fun ea oe pn c1 c2 c3=>Vo (ZfC Zks))) (h0 _),?_⟩
    match xs,hl with
    | [x],_=>
      obtain ⟨v,vs',rfl,r1,r2⟩:=hr'.uncons
      cases r2.unnil
      exact ⟨fun _ _ H1=>Q (.bl true) H1,⟨v,rfl,[x],Fz,rfl,hr',hfz,e,fun F' H' g=>q F' H' g⟩,fun σ' H' hE hlen=>hE⟩
theorem Zhl {f C C1 C2:Addr} {fd:FuncData} (B:Blt mg) (x_written:Zlj P w K mg base "written" 7 ["plot"] Z1 C) (hm:mg "NoPlot"=some (.ref C)) (Z:Zlw K C) (m1:mg "PlotError"=some (.ref C1)) (m2:mg "NoText"=some (.ref C2)) (m3:mg "ValueError"=none)
    (hx:PySem.W.exmOne K (.ref C) (.ref C1)=some true) (k1:PySem.W.kitOne K (.ref C) (.ref C)=some true) (k2:PySem.W.kitOne K (.ref C) (.type "ValueError")=some true) (k3:PySem.W.kitOne K (.ref C) (.ref C2)=some false) (F:Fun K "_law_refused_by_base" "_law_refused_by_base" ZL f fd) :
    ZdC P w K mg base CX0 8 f fd ["_law_thing"] (spR K Z1):=by
  refine F.ok sc__law_refused_by_base (fun vs H Q E h=>?_) (fun cdv A outer s H vs Q E hr h=>?_)
  · obtain ⟨xs,F,hl,hr,_⟩:=h
    rw [<-hr.length,hl]; rfl
  · obtain ⟨xs,Fz,hl,hr',hfz,e,q⟩:=h
    obtain ⟨fA,fdA,fnA,mA,kA,bA⟩:=x_written
    have h0:∀ rest,PSs (ZeN CX0 P w K mg base Y3 "_law_refused_by_base" (Zi ZL) f cdv A outer s H E).nox rest (fun _ _ _=>False):=fun _ _ _ _ _ _ _ h=>h.elim
    refine ⟨_,Wa (ZiQ (i:=1) (C:=C) (B:=C1) (ts:=fun ea D σ H=>σ[1]?=some (some (.ref ea))/\D.rt (.bl true) H) rfl rfl hx rfl m1 sc__law_refused_by_base.nd rfl rfl
      (fun pn W E hp=>Vo (Zc5 (Zc9 (x:="written") fnA (hr.mono (by decide)) rfl mA kA bA .nil hp (QA (pv 0) VG))))
      (fun ea oe pn c1 c2 c3=>PSs.imp (Vo (ZfC
          (ZfI (Wb (W0 (vc:=.ref C) c1 c2 c3 Z (fun _ r=>r) k1) rfl B.isinstance PyProof.Rows.boot_isinstance (QA (pv 1) (QA (Zc8 (v:=.ref C) rfl hm rfl) VG)))
          (ZfI (Wb (W0 (vc:=.ty "ValueError") c1 c2 c3 Z (fun _ r=>r) k2) rfl B.isinstance PyProof.Rows.boot_isinstance (QA (pv 1) (QA (Zi1 (v:=.ty "ValueError") (u:=.type "ValueError") rfl m3 rfl rfl) VG)))
          (Zh2 (Zh3 (Wb (W0 (vc:=.ref C2) c1 c2 c3 Z (fun _ r=>r) k3) rfl B.isinstance PyProof.Rows.boot_isinstance (QA (pv 1) (QA (Zc8 (v:=.ref C2) rfl m2 rfl) VG))))))))) fun D σ H1 hh=>?_)) (h0 _),?_⟩
    · obtain ⟨h1,h3⟩:=hh
      refine ⟨.ref ea,h1,rfl,true,rfl,?_⟩
      refine ⟨.ref ea,h1,rfl,true,rfl,?_⟩
      exact ⟨.ref ea,h1,rfl,false,rfl,h3⟩
    · match xs,hl with
      | [x],_=>
        obtain ⟨v,vs',rfl,r1,r2⟩:=hr'.uncons
        cases r2.unnil
        refine ⟨fun _ _ H1=>Q (.bl true) H1,⟨v,rfl,[x],Fz,rfl,hr',hfz,e,fun F' H' g=>q F' H' g⟩,fun σ' H' ea hE hlen=>⟨?_,hE⟩⟩
        rw [List.getElem?_set_self (by rw [hlen]; show 1 < 2; decide)]
theorem ZfN {x:Str} {st:Stmt} {k:Nat} {ps:List Str} (h1:ps.length=1) {fx:List D->Option D} (h:∀ {f:Addr} {fd:FuncData},Fun K x x st f fd->ZdC P w K mg base CX0 k f fd ps (spR K fx)) :
    OkD P w K mg base x st k ps (fun ds=>(fx ds).bind fun b=>match b with | .bl true=>some (.bl true) | _=>none):=by
  intro f fd F
  have R:=h F
  refine ⟨fun vs H Q E h=>?_,fun A outer s H args us vs Q E hr e0 hb hv h=>?_⟩
  · obtain ⟨xs,F,d,hl,hr,_⟩:=h
    rw [<-hr.length,hl]
  · obtain ⟨xs,Fz,d,hl,hr',hfz,e,q⟩:=h
    obtain ⟨b,eb,e⟩:=bind_some e
    have hb':b=.bl true/\d=.bl true:=by
      cases b with
      | bl b=>
        cases b with
        | true=>cases e; exact ⟨rfl,rfl⟩
        | false=>cases e
      | _=>cases e
    obtain ⟨rfl,rfl⟩:=hb'
    exact R.run A outer s H args us vs Q E hr e0 hb hv ⟨xs,Fz,by rw [hl,h1],hr',hfz,eb,fun F' H' g=>q _ F' H' g (by unfold Rep; rfl)⟩
theorem WB {C:Addr} (B:Blt mg) (x_written:Zlj P w K mg base "written" 7 ["plot"] Z1 C) (hm:mg "NoPlot"=some (.ref C)) (hx:PySem.W.exmOne K (.ref C) (.ref C)=some true):OkD P w K mg base "_law_refused" YG 8 ["_law_thing"] Z4:=
  ZfN rfl fun F=>Zdb B x_written hm hx F
theorem Jp {C C1 C2:Addr} (B:Blt mg) (x_written:Zlj P w K mg base "written" 7 ["plot"] Z1 C) (hm:mg "NoPlot"=some (.ref C)) (Z:Zlw K C) (m1:mg "PlotError"=some (.ref C1)) (m2:mg "NoText"=some (.ref C2)) (m3:mg "ValueError"=none)
    (hx:PySem.W.exmOne K (.ref C) (.ref C1)=some true) (k1:PySem.W.kitOne K (.ref C) (.ref C)=some true) (k2:PySem.W.kitOne K (.ref C) (.type "ValueError")=some true) (k3:PySem.W.kitOne K (.ref C) (.ref C2)=some false) :
    OkD P w K mg base "_law_refused_by_base" ZL 8 ["_law_thing"] Zz:=
  ZfN rfl fun F=>Zhl B x_written hm Z m1 m2 m3 hx k1 k2 k3 F
end
noncomputable def ExcK (K:PySem.W.Frag):Prop:=∃ C C1 C2:Addr,PySem.W.nsIn K mainGlobals "NoPlot"=some (some (.ref C))/\PySem.W.nsIn K mainGlobals "PlotError"=some (some (.ref C1))/\PySem.W.nsIn K mainGlobals "NoText"=some (some (.ref C2))/\PySem.W.nsIn K mainGlobals "ValueError"=some none/\Zmr K C/\Zlw K C /\
  PySem.W.kitOne K (.ref C) (.ref C)=some true/\PySem.W.kitOne K (.ref C) (.type "ValueError")=some true/\PySem.W.kitOne K (.ref C) (.ref C2)=some false/\PySem.W.exmOne K (.ref C) (.ref C)=some true/\PySem.W.exmOne K (.ref C) (.ref C1)=some true
theorem ExcK.mk {K:PySem.W.Frag} {C C1 C2:Addr} (a:PySem.W.nsIn K mainGlobals "NoPlot"=some (some (.ref C))) (b:PySem.W.nsIn K mainGlobals "PlotError"=some (some (.ref C1))) (c:PySem.W.nsIn K mainGlobals "NoText"=some (some (.ref C2))) (d:PySem.W.nsIn K mainGlobals "ValueError"=some none) (e:PySem.W.excIn K C [.type "ValueError",.type "Exception",.type "BaseException",.type "object"] "ValueError.__new__"=true)
    (f1:PySem.W.findIn K (.ref C) "__getattribute__"=some (some (.builtin "BaseException.__getattribute__"))) (f2:PySem.W.findIn K (.ref C) "__getattr__"=some none) (f3:PySem.W.mroIn K C (.type "BaseException")=some true)
    (f4:PySem.W.findIn K (.ref C) "__class__"=some (some (.builtin "object.__class__"))) (f5:PySem.W.specialIn K (.builtin "object.__class__") "__get__"=some (some (.builtin "getset_descriptor.__get__"))) (f6:PySem.W.takesIn K (.builtin "object.__class__")=some true) (f7:PySem.W.mroIn K C (.type "object")=some true)
    (k1:PySem.W.kitOne K (.ref C) (.ref C)=some true) (k2:PySem.W.kitOne K (.ref C) (.type "ValueError")=some true) (k3:PySem.W.kitOne K (.ref C) (.ref C2)=some false) (x1:PySem.W.exmOne K (.ref C) (.ref C)=some true) (x2:PySem.W.exmOne K (.ref C) (.ref C1)=some true):ExcK K:=⟨C,C1,C2,a,b,c,d,e,⟨f1,f2,f3,f4,f5,f6,f7⟩,k1,k2,k3,x1,x2⟩
theorem all_mk {l:PySem.W.OpenLaw} {w:World} {K:PySem.W.Frag} {h:Heap} {mg:Str->Option Value} {fa:Addr} (X:K.In h) (G:h.Ns mainGlobals mg) (hfa:mg "law"=some (.ref fa))
    (a0:Df K "turn" Zfv)
    (a1:Df K "turns_left" JI)
    (a2:Df K "turns_right" Jm)
    (a3:Df K "lies_between" QU)
    (a4:Df K "lies_on" Wu)
    (a5:Df K "line_parts" JK)
    (a6:Df K "sides_meet" JJ)
    (a7:Df K "is_whole" Vl)
    (a8:Df K "is_place" Vm)
    (a9:Df K "is_spot" Wv)
    (a10:Df K "are_unlike_spots" YY)
    (a11:Df K "could_be_corners" YX)
    (a12:Df K "turns_all_round" Z7)
    (a13:Df K "sides_of" Jb)
    (a14:Df K "have_common_corner" YB)
    (a15:Df K "sides_keep_apart" YW)
    (a16:Df K "inside_is_left" Qg)
    (a17:Df K "is_plot" Ww)
    (a18:Df K "written_spot" QT)
    (a19:Df K "written" Ja)
    (a20:Df K "_law_cell_at" QY)
    (a21:Df K "_law_mixed" JM)
    (a22:Df K "_law_drawn" JN)
    (a23:Df K "_law_number" Jo)
    (a24:Df K "_law_turn" UH)
    (a25:Df K "_law_on" Wx)
    (a26:Df K "_law_next" UI)
    (a27:Df K "_law_area" UK)
    (a28:Df K "_law_in_order" Qz)
    (a29:Df K "_law_meet" UJ)
    (a30:Df K "_law_turns" JL)
    (a31:Df K "_law_is_good" QX)
    (a32:Df K "_law_spots" Y8)
    (a33:Df K "_law_saw" Yw)
    (a34:Df K "_law_plot" Qy)
    (a35:Df K "_law_is_spot" QW)
    (a36:Df K "_law_is_plot" YH)
    (a37:Df K "_law_odd" Vn)
    (a38:Df K "_law_spoilt" Jn)
    (a39:Df K "_law_written" QV)
    (a40:Df K "_law_refused" YG)
    (a41:Df K "_law_refused_by_base" ZL)
    (a42:Df K "law" Zem)
    {t_FARTHEST:Tok} (g_FARTHEST:PySem.W.nsIn K mainGlobals "FARTHEST"=some (some (.int 100 t_FARTHEST)))
    {t_FEWEST_CORNERS:Tok} (g_FEWEST_CORNERS:PySem.W.nsIn K mainGlobals "FEWEST_CORNERS"=some (some (.int 3 t_FEWEST_CORNERS)))
    {t_MOST_CORNERS:Tok} (g_MOST_CORNERS:PySem.W.nsIn K mainGlobals "MOST_CORNERS"=some (some (.int 12 t_MOST_CORNERS)))
    (z_len:PySem.W.nsIn K mainGlobals "len"=some none)
    (z_range:PySem.W.nsIn K mainGlobals "range"=some none)
    (z_enumerate:PySem.W.nsIn K mainGlobals "enumerate"=some none)
    (z_min:PySem.W.nsIn K mainGlobals "min"=some none)
    (z_max:PySem.W.nsIn K mainGlobals "max"=some none)
    (z_abs:PySem.W.nsIn K mainGlobals "abs"=some none)
    (z_sum:PySem.W.nsIn K mainGlobals "sum"=some none)
    (z_any:PySem.W.nsIn K mainGlobals "any"=some none)
    (z_all:PySem.W.nsIn K mainGlobals "all"=some none)
    (z_set:PySem.W.nsIn K mainGlobals "set"=some none)
    (z_sorted:PySem.W.nsIn K mainGlobals "sorted"=some none)
    (z_tuple:PySem.W.nsIn K mainGlobals "tuple"=some none)
    (z_list:PySem.W.nsIn K mainGlobals "list"=some none)
    (z_int:PySem.W.nsIn K mainGlobals "int"=some none)
    (z_str:PySem.W.nsIn K mainGlobals "str"=some none)
    (z_bool:PySem.W.nsIn K mainGlobals "bool"=some none)
    (z_isinstance:PySem.W.nsIn K mainGlobals "isinstance"=some none)
    (z_reversed:PySem.W.nsIn K mainGlobals "reversed"=some none)
    (z_exc:ExcK K)
    : ∃ fd:FuncData,(∀ (s:Shared) (v:Value),BindsTo s fd ⟨[v],[]⟩ [("_law_script",v)])/\∀ base:Heap,K.In base->base.Ns mainGlobals mg->ZdC l.prog w K mg base CX0 9 fa fd ["_law_script"] (spD K 1 ZeH):=by
  obtain ⟨f,fd,b1,F,b2⟩:=a42
  have e:=hfa.symm.trans (PySem.W.mg_of X G b1)
  cases e
  have B:Blt mg:=⟨PySem.W.mg_none_of X G z_len,PySem.W.mg_none_of X G z_range,PySem.W.mg_none_of X G z_enumerate,PySem.W.mg_none_of X G z_min,PySem.W.mg_none_of X G z_max,PySem.W.mg_none_of X G z_abs,PySem.W.mg_none_of X G z_sum,PySem.W.mg_none_of X G z_any,PySem.W.mg_none_of X G z_all,PySem.W.mg_none_of X G z_set,PySem.W.mg_none_of X G z_sorted,PySem.W.mg_none_of X G z_tuple,PySem.W.mg_none_of X G z_list,PySem.W.mg_none_of X G z_int,PySem.W.mg_none_of X G z_str,PySem.W.mg_none_of X G z_bool,PySem.W.mg_none_of X G z_isinstance,PySem.W.mg_none_of X G z_reversed⟩
  have c_FARTHEST:∃ t,mg "FARTHEST"=some (.int 100 t):=⟨_,PySem.W.mg_of X G g_FARTHEST⟩
  have c_FEWEST_CORNERS:∃ t,mg "FEWEST_CORNERS"=some (.int 3 t):=⟨_,PySem.W.mg_of X G g_FEWEST_CORNERS⟩
  have c_MOST_CORNERS:∃ t,mg "MOST_CORNERS"=some (.int 12 t):=⟨_,PySem.W.mg_of X G g_MOST_CORNERS⟩
  obtain ⟨oc,od,kV,doc,pm,an,cdv,ct,osl,rfl,lk,hcd⟩:=id F.ex
  refine ⟨PySem.W.fnOf "law" "law" (UQ Zem) (QE Zem) (Zi Zem) .none kV doc pm an cdv ct,fun s v=>.of_eq rfl,fun base _ _=>?_⟩
  have d_turn:ZcN l.prog w K mg base:=dk X G a0 (Zi3 B) fun _ _ _ _ _ _ us hl=>match us,hl with | [_,_,_],_=>rfl
  have d_turns_left:J5 l.prog w K mg base:=dk X G a1 (Zbc B d_turn) fun _ _ _ _ _ _ us hl=>match us,hl with | [_,_,_],_=>rfl
  have d_turns_right:Vg l.prog w K mg base:=dk X G a2 (Zad B d_turn) fun _ _ _ _ _ _ us hl=>match us,hl with | [_,_,_],_=>rfl
  have d_lies_between:Ux l.prog w K mg base:=dk X G a3 (Wz B) fun _ _ _ _ _ _ us hl=>match us,hl with | [_,_,_],_=>rfl
  have d_lies_on:ZcO l.prog w K mg base:=dk X G a4 (Zes B d_turn d_lies_between) fun _ _ _ _ _ _ us hl=>match us,hl with | [_,_],_=>rfl
  have d_line_parts:VX l.prog w K mg base:=dk X G a5 (Zbe B d_turns_left d_turns_right) fun _ _ _ _ _ _ us hl=>match us,hl with | [_,_,_,_],_=>rfl
  have d_sides_meet:VW l.prog w K mg base:=dk X G a6 (Zbd B d_lies_on d_line_parts) fun _ _ _ _ _ _ us hl=>match us,hl with | [_,_],_=>rfl
  have d_is_whole:ZaV l.prog w K mg base:=dk X G a7 (Zdd B) fun _ _ _ _ _ _ us hl=>match us,hl with | [_],_=>rfl
  have d_is_place:ZaW l.prog w K mg base:=dk X G a8 (Zde B d_is_whole c_FARTHEST) fun _ _ _ _ _ _ us hl=>match us,hl with | [_],_=>rfl
  have d_is_spot:ZcP l.prog w K mg base:=dk X G a9 (Zet B d_is_place) fun _ _ _ _ _ _ us hl=>match us,hl with | [_],_=>rfl
  have d_are_unlike_spots:QQ l.prog w K mg base:=dk X G a10 (UN B d_is_spot) fun _ _ _ _ _ _ us hl=>match us,hl with | [_],_=>rfl
  have d_could_be_corners:QP l.prog w K mg base:=dk X G a11 (UM B c_FEWEST_CORNERS c_MOST_CORNERS d_are_unlike_spots) fun _ _ _ _ _ _ us hl=>match us,hl with | [_],_=>rfl
  have d_turns_all_round:Jl l.prog w K mg base:=dk X G a12 (UZ B d_turn) fun _ _ _ _ _ _ us hl=>match us,hl with | [_],_=>rfl
  have d_sides_of:ZaU l.prog w K mg base:=dk X G a13 (Zdc B) fun _ _ _ _ _ _ us hl=>match us,hl with | [_],_=>rfl
  have d_have_common_corner:Qn l.prog w K mg base:=dk X G a14 (JP B) fun _ _ _ _ _ _ us hl=>match us,hl with | [_,_],_=>rfl
  have d_sides_keep_apart:QO l.prog w K mg base:=dk X G a15 (UL B d_sides_of d_have_common_corner d_sides_meet) fun _ _ _ _ _ _ us hl=>match us,hl with | [_],_=>rfl
  have d_inside_is_left:JC l.prog w K mg base:=dk X G a16 (Vp B d_turns_left) fun _ _ _ _ _ _ us hl=>match us,hl with | [_],_=>rfl
  have d_is_plot:W5 l.prog w K mg base:=dk X G a17 (Zeu B d_could_be_corners d_turns_all_round d_inside_is_left d_sides_keep_apart) fun _ _ _ _ _ _ us hl=>match us,hl with | [_],_=>rfl
  have d_written_spot:Uw l.prog w K mg base:=dk X G a18 (Wy B) fun _ _ _ _ _ _ us hl=>match us,hl with | [_],_=>rfl
  have d_written:ZcM l.prog w K mg base:=dk X G a19 (Zer B d_is_plot d_written_spot) fun _ _ _ _ _ _ us hl=>match us,hl with | [_],_=>rfl
  have d__law_cell_at:UC l.prog w K mg base:=dk X G a20 (WF B) fun _ _ _ _ _ _ us hl=>match us,hl with | [_,_],_=>rfl
  have d__law_mixed:V0 l.prog w K mg base:=dk X G a21 (Zbh B d__law_cell_at) fun _ _ _ _ _ _ us hl=>match us,hl with | [_,_],_=>rfl
  have d__law_drawn:J7 l.prog w K mg base:=dk X G a22 (Zbi B) fun _ _ _ _ _ _ us hl=>match us,hl with | [_,_],_=>rfl
  have d__law_number:Vh l.prog w K mg base:=dk X G a23 (Zae B) fun _ _ _ _ _ _ us hl=>match us,hl with | [_,_,_],_=>rfl
  have d__law_turn:QG l.prog w K mg base:=dk X G a24 (Zb2 B) fun _ _ _ _ _ _ us hl=>match us,hl with | [_,_,_],_=>rfl
  have d__law_on:ZcQ l.prog w K mg base:=dk X G a25 (Zev B d__law_turn) fun _ _ _ _ _ _ us hl=>match us,hl with | [_,_,_],_=>rfl
  have d__law_next:QH l.prog w K mg base:=dk X G a26 (Zb4 B) fun _ _ _ _ _ _ us hl=>match us,hl with | [_,_,_],_=>rfl
  have d__law_area:UT l.prog w K mg base:=dk X G a27 (Zb6 B d__law_next) fun _ _ _ _ _ _ us hl=>match us,hl with | [_],_=>rfl
  have d__law_in_order:J6 l.prog w K mg base:=dk X G a28 (V2 B d__law_area) fun _ _ _ _ _ _ us hl=>match us,hl with | [_],_=>rfl
  have d__law_meet:W7 l.prog w K mg base:=dk X G a29 (Zb5 B d__law_on d__law_turn) fun _ _ _ _ _ _ us hl=>match us,hl with | [_,_,_,_],_=>rfl
  have d__law_turns:VY l.prog w K mg base:=dk X G a30 (Zbf B d__law_turn d__law_next) fun _ _ _ _ _ _ us hl=>match us,hl with | [_],_=>rfl
  have d__law_is_good:Q8 l.prog w K mg base:=dk X G a31 (WE B d__law_turns d__law_next d__law_meet) fun _ _ _ _ _ _ us hl=>match us,hl with | [_],_=>rfl
  have d__law_spots:VZ l.prog w K mg base:=dk X G a32 (Zbg B d__law_drawn) fun _ _ _ _ _ _ us hl=>match us,hl with | [_,_,_],_=>rfl
  have d__law_saw:ZaX l.prog w K mg base:=dk X G a33 (Zdf B d__law_drawn d__law_turn d__law_next) fun _ _ _ _ _ _ us hl=>match us,hl with | [_,_],_=>rfl
  have d__law_plot:W6 l.prog w K mg base:=dk X G a34 (Zb3 B d__law_spots d__law_is_good d__law_saw d__law_in_order) fun _ _ _ _ _ _ us hl=>match us,hl with | [_,_],_=>rfl
  have d__law_is_spot:UA l.prog w K mg base:=dk X G a35 (WC B d__law_number) fun _ _ _ _ _ _ us hl=>match us,hl with | [_],_=>rfl
  have d__law_is_plot:UB l.prog w K mg base:=dk X G a36 (WD B d__law_is_spot d__law_is_good d__law_area) fun _ _ _ _ _ _ us hl=>match us,hl with | [_],_=>rfl
  have d__law_odd:ZaY l.prog w K mg base:=dk X G a37 (Zdg B) fun _ _ _ _ _ _ us hl=>match us,hl with | [_],_=>rfl
  have d__law_spoilt_0:Z0 l.prog w K mg base "_law_spoilt" 1 ["_law_thing","_law_number_here","_law_deep"] (fun _=>none):=by
    obtain ⟨fR,fdR,e1,FR,e2⟩:=a38
    exact ⟨fR,fdR,FnD.none,PySem.W.mg_of X G e1,e2,FR.binds fun _ _ _ _ _ _ us hl=>match us,hl with | [_,_,_],_=>rfl⟩
  have d__law_spoilt_1:=dk X G a38 (QB B d__law_odd (by decide) d__law_spoilt_0) fun _ _ _ _ _ _ us hl=>match us,hl with | [_,_,_],_=>rfl
  have d__law_spoilt_2:=dk X G a38 (QB B d__law_odd (by decide) d__law_spoilt_1) fun _ _ _ _ _ _ us hl=>match us,hl with | [_,_,_],_=>rfl
  have d__law_spoilt:=dk X G a38 (QB B d__law_odd (by decide) d__law_spoilt_2) fun _ _ _ _ _ _ us hl=>match us,hl with | [_,_,_],_=>rfl
  have d__law_written:Uy l.prog w K mg base:=dk X G a39 (WA B) fun _ _ _ _ _ _ us hl=>match us,hl with | [_],_=>rfl
  obtain ⟨C,C1,C2,n0,n1,n2,n3,q0,Z,k1,k2,k3,x1,x2⟩:=z_exc
  have x_written:Zlj l.prog w K mg base "written" 7 ["plot"] Z1 C:=by
    obtain ⟨fA,fdA,e1,FA,e2⟩:=a19
    exact ⟨fA,fdA,Zda B d_is_plot q0 (PySem.W.mg_of X G n0) FA,PySem.W.mg_of X G e1,e2,FA.binds fun _ _ _ _ _ _ us hl=>match us,hl with | [_],_=>rfl⟩
  have d__law_refused:Uz l.prog w K mg base:=dk X G a40 (WB B x_written (PySem.W.mg_of X G n0) x1) fun _ _ _ _ _ _ us hl=>match us,hl with | [_],_=>rfl
  have d__law_refused_by_base:Y4 l.prog w K mg base:=dk X G a41 (Jp B x_written (PySem.W.mg_of X G n0) Z (PySem.W.mg_of X G n1) (PySem.W.mg_of X G n2) (PySem.W.mg_none_of X G n3) x2 k1 k2 k3) fun _ _ _ _ _ _ us hl=>match us,hl with | [_],_=>rfl
  exact Zkz B d__law_mixed d__law_plot d__law_spoilt d__law_is_plot d__law_refused d__law_refused_by_base d_written d__law_written F
theorem walk {l:PySem.W.OpenLaw} {q:Program} {loose:List Str} {XP:(Str->Option Value)->Heap->Prop} {YP:World->Heap->Prop} {d:DefRec} {K:Params->PySem.W.Frag} (hn:l.most=some 63) (hdf:d.params.defaults=[])
    (hY:∀ (w:World) (h:Heap),YP w h->(K w.params).In h)
    (F:∀ (w:World) (mg:Str->Option Value) (fa:Addr) (h:Heap),(K w.params).In h->h.Ns mainGlobals mg->mg d.name=some (.ref fa) ->
      ∃ fd:FuncData,(∀ (s:Shared) (u:Value),BindsTo s fd ⟨[u],[]⟩ [("_law_script",u)])/\∀ base:Heap,(K w.params).In base->base.Ns mainGlobals mg->ZdC l.prog w (K w.params) mg base CX0 9 fa fd ["_law_script"] (spD (K w.params) 1 ZeH)) :
    PySem.W.WalkO q loose XP YP l.row.toRowW d [] (fun f vs=>PySem.call f vs):=
  L2.walk_of (n:=63) (k:=9) (x:="_law_script") (CX:=fun _=>CX0) (sp:=fun w=>spD (K w.params) 1 ZeH) hn (by decide) hdf ⟨rfl,by decide,by decide⟩ hY F (fun w H a ns hl _ hS=>ZkO hl hS ZkP) fun _ _ _ _ _ z=>z
end Pl.k02
namespace PySem.W.Fast
def tw1683103571386425756:=0
def tw2842166006932538756:=0
def tw14409194619722646775:=0
def tw16654266843271155796:=0
def tw11550472445136181801:=0
def tw18166199327359956280:=0
def tw12312470293301762771:=0
def tw694757313717388960:=0
def tw5813806493757377265:=0
def tw18193859794338258646:=0
def tw5227324911909103869:=0
def tw15201470764312236202:=0
def tw8607899904684890563:=0
def tw14754897649004443966:=0
def tw17115955580682792676:=0
def tw18115667049905085542:=0
def tw17566622028586252579:=0
def tw16268987952778456986:=0
def tw14293859838339834105:=0
def tw17779826400755842519:=0
def tw5196331344137157673:=0
def tw2470134358526462191:=0
def tw10935476656948117013:=0
def tw10333998283388644036:=0
def tw5634519725051725002:=0
def tw3492642433564478443:=0
def tw11709757244937957405:=0
def tw1779381074776931316:=0
def tw1649436523270668191:=0
def tw6476288920455005061:=0
def tw11544962290553235771:=0
def tw10081156757162711903:=0
def tw10226394435618767715:=0
def tw11559991958305801491:=0
def tw15639363929970146936:=0
def tw10599228385531723141:=0
def tw2260842023079226207:=0
def tw8872870424876611865:=0
def tw10346343078879862536:=0
def tw3626397472869499193:=0
def tw2394739441937878906:=0
def tw7479722282010159557:=0
def tw10011718364657067633:=0
def tw13192416134374845968:=0
def tw12415497563518215524:=0
def tw2484956222353174134:=0
def tw9689542529017023419:=0
def tw2834542786090315602:=0
def tw5795483976912949492:=0
def tw15497445635706450202:=0
def tw4125662635730897375:=0
def tw4138732265048914305:=0
def tw795312737024944583:=0
def tw10333847174228121967:=0
def tw1178754405240509755:=0
def tw4755657782568550725:=0
def tw8760713214560718629:=0
def tw6380591391877394623:=0
def tw5167018550824353068:=0
def tw15860809036035449183:=0
def tw11395545494852773584:=0
def tw8194970704218700804:=0
def tw16433060863149025526:=0
end PySem.W.Fast
open PySem PySem.W PyProof.Rows
set_option maxRecDepth 100000 in
set_option maxHeartbeats 0 in
theorem PySem.Challenge.cw_plotstead_k02_written_holds : PySem.Challenge.rw_plotstead_k02_written.Holds := by
  w_on; o_law; k_head; (case hw=>w_witness2)
  k_fill
  refine Pl.k02.walk (l:=PySem.Challenge.rw_plotstead_k02_written) rfl rfl (fun w h Y=>PySem.W.kIn_of Y) ?F
  case F=>
    intro w mg fa h KX G hmg
    refine' Pl.k02.all_mk KX G hmg ?_ ?_ ?_ ?_ ?_ ?_ ?_ ?_ ?_ ?_ ?_ ?_ ?_ ?_ ?_ ?_ ?_ ?_ ?_ ?_ ?_ ?_ ?_ ?_ ?_ ?_ ?_ ?_ ?_ ?_ ?_ ?_ ?_ ?_ ?_ ?_ ?_ ?_ ?_ ?_ ?_ ?_ ?_ ?_ ?_ ?_ ?_ ?_ ?_ ?_ ?_ ?_ ?_ ?_ ?_ ?_ ?_ ?_ ?_ ?_ ?_ ?_ ?_ ?_ ?_
    all_goals first | (apply L3.Df.mk; k_is; k_is; k_is; k_is) | (apply L3.GlobK.mk; k_is; k_is) | k_is | skip
    · refine' Pl.k02.ExcK.mk ?yy0 ?yy1 ?yy2 ?yy3 ?yy4 ?yy5 ?yy6 ?yy7 ?yy8 ?yy9 ?yy10 ?yy11 ?yy12 ?yy13 ?yy14 ?yy15 ?yy16
      case yy0=>k_is
      case yy1=>k_is
      case yy2=>k_is
      case yy3=>k_is
      case yy4=>k_exc
      case yy5=>k_is
      case yy6=>k_is
      case yy7=>k_is
      case yy8=>k_is
      case yy9=>k_is
      case yy10=>k_is
      case yy11=>k_is
      case yy12=>kit_is
      case yy13=>kit_is
      case yy14=>kit_is
      case yy15=>kts_exm
      case yy16=>kts_exm
