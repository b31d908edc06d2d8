import PyProof.Rows.All
import Wide.All
import OpenK.AllK
import Wide.FinOn
import Lean
import PyProof.EqAt
import PyProof.EqKinds
import PyProof.TupleCall
import PySem.SetTable
import KE.KRevIter
import PyProof.FactsAll.set_1
import KE.KSortTup
import PyProof.FactsAll.tuple_2
import PyProof.ListMulRoad
import PySem.Challenge.RW_plotstead_k01_plots
set_option Elab.async false
set_option linter.all false
set_option maxRecDepth 100000
namespace L2
open PySem PySem.Spec PyProof.Rows
noncomputable abbrev Key:=Sum Int Str
noncomputable def Zlr:Key->Value->Bool
  | .inl k,v=>Value.isInt k v
  | .inr x,v=>Value.isStrOf x v
noncomputable def ZnM (w:World):Key->Int
  | .inl k=>hashInt k
  | .inr x=>hashStr w x
theorem Yi:∀ {k:Key} {v:Value},Zlr k v=true->(∃ i t,k=Sum.inl i/\v=Value.int i t)\/(∃ x t,k=Sum.inr x/\v=Value.str x t)
  | .inl i,v,h=>by
    obtain ⟨t,e⟩:=Value.isInt_shape (k:=i) (v:=v) h
    exact .inl ⟨i,t,rfl,e⟩
  | .inr x,v,h=>by
    obtain ⟨t,e⟩:=Value.isStrOf_shape (x:=x) (v:=v) h
    exact .inr ⟨x,t,rfl,e⟩
theorem Zlq (a b:Int):decide ((Sum.inl a:Key)=Sum.inl b)=(a==b):=by
  by_cases e:a=b
  · subst e; simp
  · have h:¬ (Sum.inl a:Key)=Sum.inl b:=fun q=>e (Sum.inl.inj q)
    rw [decide_eq_false h]
    exact (beq_eq_false_iff_ne.mpr e).symm
theorem Zln (a b:Str):decide ((Sum.inr a:Key)=Sum.inr b)=decide (a=b):=by
  by_cases e:a=b
  · subst e; simp
  · have h:¬ (Sum.inr a:Key)=Sum.inr b:=fun q=>e (Sum.inr.inj q)
    rw [decide_eq_false h,decide_eq_false e]
theorem Zlp (a:Int) (b:Str):decide ((Sum.inl a:Key)=Sum.inr b)=false:=decide_eq_false (fun q=>nomatch q)
theorem Zlo (a:Str) (b:Int):decide ((Sum.inr a:Key)=Sum.inl b)=false:=decide_eq_false (fun q=>nomatch q)
noncomputable def Zf9 (prog:Program) (w:World):PySem.KeyKind prog w Key where
  is:=Zlr
  hash:=ZnM w
  inj:=fun v a b ha hb=>by
    rcases Yi ha with ⟨i,t,rfl,rfl⟩ | ⟨x,t,rfl,rfl⟩
    · rcases Yi hb with ⟨j,u,rfl,e⟩ | ⟨y,u,rfl,e⟩
      · injection e with e1 _; rw [e1]
      · exact nomatch e
    · rcases Yi hb with ⟨j,u,rfl,e⟩ | ⟨y,u,rfl,e⟩
      · exact nomatch e
      · injection e with e1 _; rw [e1]
  byValue:=fun k v h=>by
    rcases Yi h with ⟨i,t,rfl,rfl⟩ | ⟨x,t,rfl,rfl⟩ <;> rfl
  pyHash:=fun hv h=>by
    rcases Yi hv with ⟨i,t,rfl,rfl⟩ | ⟨x,t,rfl,rfl⟩
    · exact wpAny_pyHash_int h
    · exact wpAny_pyHash_str h
  eqBool:=fun hu hv h=>by
    rcases Yi hu with ⟨i,t,rfl,rfl⟩ | ⟨x,t,rfl,rfl⟩
    · rcases Yi hv with ⟨j,u,rfl,rfl⟩ | ⟨y,u,rfl,rfl⟩
      · rw [Zlq] at h; exact wpAny_eqBool_int h
      · rw [Zlp] at h; exact SeqAt.EqAt.int_str i t y u _ _ _ _ h
    · rcases Yi hv with ⟨j,u,rfl,rfl⟩ | ⟨y,u,rfl,rfl⟩
      · rw [Zlo] at h; exact SeqAt.EqAt.str_int x t j u _ _ _ _ h
      · rw [Zln] at h; exact wpAny_eqBool_str h
  «strs»:=fun k x t v h=>by
    rcases Yi h with ⟨i,u,rfl,e⟩ | ⟨y,u,rfl,e⟩
    · exact nomatch e
    · injection e with e1 _
      subst e1
      cases v <;> rfl
inductive V where
  | non | bl (b:Bool) | int (i:Int) | str (x:Str) | byt (b:Array UInt8) | flt (b:UInt64) | ref (a:Addr) | ty (n:String)
  deriving DecidableEq
noncomputable def RelV:V->Value->Prop
  | .non,u=>u=Value.none
  | .bl b,u=>u=Value.bool b
  | .int i,u=>∃ t,u=Value.int i t
  | .str x,u=>∃ t,u=Value.str x t
  | .byt b,u=>∃ t,u=Value.bytes b t
  | .flt b,u=>∃ t,u=Value.float b t
  | .ref a,u=>u=Value.ref a
  | .ty n,u=>u=Value.type n
noncomputable abbrev Vals:List V->List Value->Prop:=Paired RelV
theorem Vals.length {xs:List V} {us:List Value} (r:Vals xs us):xs.length=us.length:=Paired.length r
theorem Vals.get:∀ {xs:List V} {us:List Value} {i:Nat} {x:V},Vals xs us->xs[i]?=some x->∃ u,us[i]?=some u/\RelV x u
  | _,_,_,_,.nil,e=>by simp at e
  | _,_,0,_,.cons r _,e=>by simp at e; subst e; exact ⟨_,rfl,r⟩
  | _,_,i+1,x,.cons _ t,e=>by
    obtain ⟨u,h1,h2⟩:=Vals.get (i:=i) (x:=x) t (by simpa using e)
    exact ⟨u,by simpa using h1,h2⟩
theorem Vals.append:∀ {xs ys:List V} {us ws:List Value},Vals xs us->Vals ys ws->Vals (xs++ys) (us++ws)
  | _,_,_,_,.nil,s=>s
  | _,_,_,_,.cons r t,s=>.cons r (Vals.append t s)
theorem Vals.take:∀ {xs:List V} {us:List Value} (n:Nat),Vals xs us->Vals (xs.take n) (us.take n)
  | _,_,0,_=>.nil
  | _,_,_+1,.nil=>.nil
  | _,_,n+1,.cons r t=>.cons r (Vals.take n t)
theorem Vals.drop:∀ {xs:List V} {us:List Value} (n:Nat),Vals xs us->Vals (xs.drop n) (us.drop n)
  | _,_,0,r=>r
  | _,_,_+1,.nil=>.nil
  | _,_,n+1,.cons _ t=>Vals.drop n t
noncomputable def ZmO:Option V->Option Value->Prop
  | some v,some u=>RelV v u
  | none,none=>True
  | _,_=>False
noncomputable def KV {κ:Type}:List (κ×V)->List (κ×Value)->Prop:=Paired fun (p:κ×V) (q:κ×Value)=>p.1=q.1/\RelV p.2 q.2
noncomputable def kV:Key->V
  | .inl i=>.int i
  | .inr x=>.str x
inductive HO where
  /-- a list -/
  | lst (xs:List V)
  /-- a tuple (never changes) -/
  | tup (xs:List V)
  /-- a dict whose keys are ints and texts; one whose keys are tuples of ints and texts (the empty one is both) -/
  | dK (kvs:List (Key×V)) | dT (kvs:List (List Key×V))
  /-- a set of ints: its members,its size -/
  | set (S:Int->Bool) (n:Nat)
  /-- an instance of the class at C,its dict at dx,its attributes -/
  | ins (C dx:Addr) (fs:List (Str×V))
  /-- the dict of the instance at x -/
  | own (x:Addr)
  /-- the dict of an exception -/
  | xd (fs:List (Str×V))
  /-- a bound method,f of x -/
  | met (f x:Addr)
  /-- a range object lo,lo+1,.. below hi -/
  | rng (lo hi:Int)
  /-- a thing that is known to the object (the script; a dict while a loop walks it): read,never written while it is so -/
  | frz (o:Obj) (u:HO)
  /-- a code object's table -/
  | tbl (ps:Array Value)
  /-- any other thing,by what is true of its one object (a def of one's own: SetO a S n:=HO.ext fun h=>..) -/
  | ext (φ:Heap->Prop)
noncomputable abbrev Hp:=Addr->Option HO
noncomputable def upd (H:Hp) (a:Addr) (o:HO):Hp:=fun b=>if b=a then some o else H b
theorem ZR {H:Hp} {a:Addr} {o:HO}:upd H a o a=some o:=by unfold upd; rw [if_pos rfl]
theorem ZO {H:Hp} {a b:Addr} {o:HO} (h:b≠a):upd H a o b=H b:=by unfold upd; rw [if_neg h]
theorem ZL {H:Hp} {a b:Addr} {o:HO} (h:H a=some o) (h':H b=none):a≠b:=by
  intro e; subst e; rw [h] at h'; cases h'
section
variable (P:Program) (w:World)
noncomputable def ObjOk (H:Hp) (h:Heap) (a:Addr):HO->Prop
  | .lst xs=>xs.length<=sizeLine/\∃ (its:List Value) (n:Nat),Vals xs its/\h.get? a=some { cls:=.type "list",data:=.seq its.toArray n }
  | .tup xs=>xs.length<=sizeLine/\∃ its:List Value,Vals xs its/\IsTup h a its.toArray
  | .dK kvs=>kvs.length<=sizeLine/\(a==sysModules)=false/\∃ vs,KV kvs vs/\h.DictOf (Zf9 P w) a vs
  | .dT kvs=>kvs.length<=sizeLine/\(a==sysModules)=false/\∃ xs:List (List Key×Addr×Value),
      Paired (fun (p:List Key×V) (q:List Key×Addr×Value)=>p.1=q.1/\H q.2.1=some (.tup (p.1.map kV))/\RelV p.2 q.2.2) kvs xs /\
      ∃ o es ep,h.get? a=some o/\o.ExactDict/\o.data=.dict es ep/\es.toList=xs.map (entryOfKey (tupleKind (Zf9 P w)))/\(xs.map (·.1)).Nodup
  | .set S n=>h.SetOf (intKind P w) a S n
  | .ins C dx fs=>H dx=some (.own a)/\fs.length<=1000/\dx≠a/\h.get? a=some (PySem.W.instObj C dx) /\
      ∃ mA,h.Ns1 dx mA/\(∀ f,ZmO (fs.lookup f) (mA f))/\PySem.Within mA (fs.map (·.1))
  | .own _=>∃ o,h.get? a=some o
  | .xd fs=>∃ mA,h.Ns1 a mA/\∀ f,ZmO (fs.lookup f) (mA f)
  | .rng lo hi=>∃ t u v,h.get? a=some { cls:=.type "range",data:=.fields #[.int lo t,.int hi u,.int 1 v] }
  | .frz o u=>h.get? a=some o/\ObjOk H h a u
  | .tbl ps=>h.get? a=some { cls:=.none,data:=.fields ps }
  | .met f x=>h.get? a=some (PySem.W.methodObj (.ref f) (.ref x))
  | .ext φ=>φ h/\(∃ o,h.get? a=some o)/\∀ h1 h2:Heap,φ h1->(∀ o,h1.get? a=some o->h2.get? a=some o)->φ h2
noncomputable def HOk (H:Hp) (h:Heap):Prop:=∀ a o,H a=some o->ObjOk P w H h a o
end
section
variable {P:Program} {w:World} {H H':Hp} {h h':Heap} {a:Addr} {o:HO}
theorem ObjOk.lt (x:ObjOk P w H h a o):a < h.objs.size:=by
  cases o with
  | lst xs=>obtain ⟨_,_,_,_,e⟩:=x; exact Heap.lt_size e
  | tup xs=>obtain ⟨_,_,_,p⟩:=x; exact p.lt
  | dK kvs=>obtain ⟨_,_,_,_,o,_,_,e,_⟩:=x; exact Heap.lt_size e
  | dT kvs=>obtain ⟨_,_,_,_,o,_,_,e,_⟩:=x; exact Heap.lt_size e
  | set S n=>obtain ⟨o,_,_,_,e,_⟩:=x; exact Heap.lt_size e
  | ins C dx fs=>obtain ⟨_,_,_,e,_⟩:=x; exact Heap.lt_size e
  | own y=>obtain ⟨_,e⟩:=x; exact Heap.lt_size e
  | xd fs=>obtain ⟨_,⟨_,_,_,e,_⟩,_⟩:=x; exact Heap.lt_size e
  | rng lo hi=>obtain ⟨_,_,_,e⟩:=x; exact Heap.lt_size e
  | frz ob u=>obtain ⟨e,_⟩:=x; exact Heap.lt_size e
  | tbl ps=>exact Heap.lt_size (show h.get? a=some _ from x)
  | met f y=>exact Heap.lt_size (show h.get? a=some _ from x)
  | ext φ=>obtain ⟨_,⟨_,e⟩,_⟩:=x; exact Heap.lt_size e
theorem Paired.mapP {α β:Type} {F G:α->β->Prop}:∀ {l₁:List α} {l₂:List β},Paired F l₁ l₂->(∀ a b,F a b->G a b)->Paired G l₁ l₂
  | _,_,.nil,_=>.nil
  | _,_,.cons r t,f=>.cons (f _ _ r) (Paired.mapP t f)
theorem ObjOk.stay (x:ObjOk P w H h a o) (k:∀ b u,(b=a\/H b=some (.own a))->h.get? b=some u->h'.get? b=some u)
    (ho:∀ b,H b=some (.own a)->H' b=some (.own a)) (ht:∀ b xs,H b=some (.tup xs)->H' b=some (.tup xs)):ObjOk P w H' h' a o:=by
  induction o with
  | lst xs=>obtain ⟨z,its,n,r,e⟩:=x; exact ⟨z,its,n,r,k _ _ (.inl rfl) e⟩
  | tup xs=>obtain ⟨z,its,r,ob,e,c⟩:=x; exact ⟨z,its,r,ob,k _ _ (.inl rfl) e,c⟩
  | dK kvs=>obtain ⟨z,y,vs,r,ob,es,ep,e,c⟩:=x; exact ⟨z,y,vs,r,ob,es,ep,k _ _ (.inl rfl) e,c⟩
  | dT kvs=>
    obtain ⟨z,y,xs,r,ob,es,ep,e,c⟩:=x
    exact ⟨z,y,xs,Paired.mapP r fun p q z=>⟨z.1,ht _ _ z.2.1,z.2.2⟩,ob,es,ep,k _ _ (.inl rfl) e,c⟩
  | set S n=>obtain ⟨ob,es,ep,t,e,c⟩:=x; exact ⟨ob,es,ep,t,k _ _ (.inl rfl) e,c⟩
  | ins C dx fs=>
    obtain ⟨d,z,ne,e,mA,⟨od,es,ep,e2,c⟩,r⟩:=x
    exact ⟨ho _ d,z,ne,k _ _ (.inl rfl) e,mA,⟨od,es,ep,k _ _ (.inr d) e2,c⟩,r⟩
  | own y=>obtain ⟨ob,e⟩:=x; exact ⟨ob,k _ _ (.inl rfl) e⟩
  | xd fs=>obtain ⟨mA,⟨od,es,ep,e,c⟩,r⟩:=x; exact ⟨mA,⟨od,es,ep,k _ _ (.inl rfl) e,c⟩,r⟩
  | rng lo hi=>obtain ⟨t,u,v,e⟩:=x; exact ⟨t,u,v,k _ _ (.inl rfl) e⟩
  | frz ob u ih=>obtain ⟨e,q⟩:=x; exact ⟨k _ _ (.inl rfl) e,ih q⟩
  | tbl ps=>
    have e:h.get? a=some { cls:=.none,data:=.fields ps }:=x
    show h'.get? a=some { cls:=.none,data:=.fields ps }
    exact k a _ (.inl rfl) e
  | met f y=>
    have e:h.get? a=some (PySem.W.methodObj (.ref f) (.ref y)):=x
    show h'.get? a=some (PySem.W.methodObj (.ref f) (.ref y))
    exact k a _ (.inl rfl) e
  | ext φ=>obtain ⟨p,⟨o,e⟩,st⟩:=x; exact ⟨st _ _ p fun o q=>k _ _ (.inl rfl) q,⟨o,k _ _ (.inl rfl) e⟩,st⟩
theorem HOk.lt (x:HOk P w H h) (e:H a=some o):a < h.objs.size:=(x a o e).lt
theorem HOk.fresh (x:HOk P w H h) (e:h.objs.size<=a):H a=none:=by
  cases q:H a with
  | none=>rfl
  | some u=>exact absurd (Nat.lt_of_lt_of_le (x.lt q) e) (Nat.lt_irrefl _)
theorem HOk.kept (x:HOk P w H h) (k:∀ b u,h.get? b=some u->h'.get? b=some u):HOk P w H h':=fun a o e=>
  (x a o e).stay (fun b u _ q=>k b u q) (fun _ q=>q) fun _ _ q=>q
theorem HOk.laid (x:HOk P w H h) (k:∀ b u,h.get? b=some u->h'.get? b=some u) (hp:h.objs.size<=a) (new:ObjOk P w (upd H a o) h' a o):HOk P w (upd H a o) h':=fun b u e=>by
  have hn:=x.fresh hp
  by_cases hb:b=a
  · subst hb; rw [ZR] at e; cases e; exact new
  · rw [ZO hb] at e
    exact (x b u e).stay (fun c v _ q=>k c v q) (fun c q=>by rw [ZO (ZL q hn)]; exact q) fun c xs q=>by rw [ZO (ZL q hn)]; exact q
end
noncomputable def Rd (H:Hp) (a:Addr) (u:HO):Prop:=H a=some u\/∃ o,H a=some (.frz o u)
theorem Rd.ok {P:Program} {w:World} {H:Hp} {h:Heap} {a:Addr} {u:HO} (r:Rd H a u) (x:HOk P w H h):ObjOk P w H h a u:=by
  rcases r with r | ⟨o,r⟩
  · exact x a u r
  · obtain ⟨_,q⟩:=x a _ r
    exact q
noncomputable def Mut:Option HO->Prop
  | some (.lst _)=>True
  | some (.dK _)=>True
  | some (.dT _)=>True
  | some (.set _ _)=>True
  | some (.ins _ _ _)=>True
  | some (.ext _)=>True
  | _=>False
section
variable {P:Program} {w:World} {H:Hp} {h h':Heap} {x e:Addr} {o':HO}
theorem HOk.write (ok:HOk P w H h) (mu:Mut (H x)) (he:e=x\/H e=some (.own x)) (k:∀ b u,b≠e->h.get? b=some u->h'.get? b=some u) (heo:∃ u,h'.get? e=some u)
    (new:ObjOk P w (upd H x o') h' x o'):HOk P w (upd H x o') h':=fun b u q=>by
  have nown:∀ c y,H c=some (.own y)->c≠x:=fun c y r z=>by subst z; rw [r] at mu; exact mu
  have ntup:∀ c xs,H c=some (.tup xs)->c≠x:=fun c xs r z=>by subst z; rw [r] at mu; exact mu
  by_cases hb:b=x
  · subst hb; rw [ZR] at q; cases q; exact new
  · rw [ZO hb] at q
    by_cases hbe:b=e
    · have q':H b=some (.own x):=by
        rcases he with z | z
        · exact absurd (hbe.trans z) hb
        · rw [hbe]; exact z
      rw [q] at q'; cases q'
      obtain ⟨v,hv⟩:=heo
      exact ⟨v,by rw [hbe]; exact hv⟩
    · refine (ok b u q).stay (fun c v hc r=>k c v ?_ r) (fun c r=>by rw [ZO (nown c b r)]; exact r) fun c xs r=>by rw [ZO (ntup c xs r)]; exact r
      rcases hc with rfl | hc
      · exact hbe
      · rintro rfl
        rcases he with z | z
        · exact nown c b hc z
        · rw [hc] at z; cases z; exact hb rfl
end
structure Un (fs ex:List Addr) (H H':Hp) (h h':Heap):Prop where
  keep:∀ b o,h.get? b=some o->H b=none->b ∉ fs->b ∉ ex->h'.get? b=some o
  slot:∀ b o,h.get? b=some o->H b=none->b∈fs->b ∉ ex->∃ sl,h'.get? b=some { o with slots:=sl }
  free:∀ b o,h.get? b=some o->H b=none->b ∉ ex->H' b=none
  there:∀ b o,h.get? b=some o->b ∉ ex->∃ o',h'.get? b=some o'
  tups:∀ b xs,H b=some (.tup xs)->H' b=some (.tup xs)
  frzs:∀ b o u,H b=some (.frz o u)->H' b=some (.frz o u)
  tbls:∀ b ps,H b=some (.tbl ps)->∃ more,H' b=some (.tbl (ps++more))
section
variable {fs fs' ex ex':List Addr} {H H1 H2:Hp} {h h1 h2 h':Heap} {a x e:Addr} {o:HO}
theorem Un.any (u:Un fs ex H H1 h h1) {b:Addr} {ob:Obj} (q:h.get? b=some ob) (n:H b=none) (hx:b ∉ ex):∃ sl,h1.get? b=some { ob with slots:=sl }:=by
  by_cases hb:b∈fs
  · exact u.slot b ob q n hb hx
  · exact ⟨ob.slots,u.keep b ob q n hb hx⟩
theorem Un.kept (k:∀ b u,h.get? b=some u->h'.get? b=some u):Un fs ex H H h h':=
  ⟨fun b ob q _ _ _=>k b ob q,fun b ob q _ _ _=>⟨ob.slots,k b ob q⟩,fun _ _ _ n _=>n,fun b ob q _=>⟨ob,k b ob q⟩,fun _ _ q=>q,fun _ _ _ q=>q,fun _ ps q=>⟨#[],by rw [q]; simp⟩⟩
theorem Un.refl:Un fs ex H H h h:=Un.kept fun _ _ q=>q
theorem Un.laid (k:∀ b u,h.get? b=some u->h'.get? b=some u) (hp:h.objs.size<=a) (hn:H a=none):Un fs ex H (upd H a o) h h' where
  keep:=fun b u q _ _ _=>k b u q
  slot:=fun b u q _ _ _=>⟨u.slots,k b u q⟩
  free:=fun b u q n _=>by rw [ZO (Nat.ne_of_lt (Nat.lt_of_lt_of_le (Heap.lt_size q) hp))]; exact n
  there:=fun b u q _=>⟨u,k b u q⟩
  tups:=fun b xs q=>by rw [ZO (ZL q hn)]; exact q
  frzs:=fun b u xs q=>by rw [ZO (ZL q hn)]; exact q
  tbls:=fun b ps q=>⟨#[],by rw [ZO (ZL q hn),q]; simp⟩
theorem Un.write (mu:Mut (H x)) (he:e=x\/H e=some (.own x)) (k:∀ b u,b≠e->h.get? b=some u->h'.get? b=some u) (heo:∃ u,h'.get? e=some u):Un fs ex H (upd H x o) h h':=by
  have hx:∀ b,H b=none->b≠x:=fun b n z=>by subst z; rw [n] at mu; exact mu
  have hb:∀ b,H b=none->b≠e:=fun b n z=>by
    subst z
    rcases he with r | r
    · exact hx b n r
    · rw [n] at r; cases r
  have hm:∀ b u,H b=some u->¬ Mut (some u)->b≠x:=fun b u q nm z=>by subst z; rw [q] at mu; exact nm mu
  refine ⟨fun b u q n _ _=>k b u (hb b n) q,fun b u q n _ _=>⟨u.slots,k b u (hb b n) q⟩,fun b u q n _=>by rw [ZO (hx b n)]; exact n,fun b u q _=>?_,
    fun b xs q=>by rw [ZO (hm b _ q fun z=>z)]; exact q,fun b u xs q=>by rw [ZO (hm b _ q fun z=>z)]; exact q,fun b ps q=>⟨#[],by rw [ZO (hm b _ q fun z=>z),q]; simp⟩⟩
  by_cases hbe:b=e
  · subst hbe; exact heo
  · exact ⟨u,k b u hbe q⟩
end
noncomputable def trk (h:Heap) (H:Hp):List Addr:=(List.range h.objs.size).filter fun a=>(H a).isSome
noncomputable def ZhX (h:Heap) (H:Hp):Heap:=PySem.W.hideAll h (trk h H)
theorem Zgv (h:Heap) (H:Hp):(ZhX h H).objs.size=h.objs.size:=PySem.W.hideAll_size _ _
theorem ZhW {h:Heap} {H:Hp} {b:Addr} {o:Obj} (e:h.get? b=some o) (n:H b=none):(ZhX h H).get? b=some o:=
  PySem.W.hideAll_get _ e fun hm=>by
    have q:(H b).isSome=true:=(List.mem_filter.mp hm).2
    rw [n] at q; simp at q
theorem Zjz {h:Heap} {H:Hp} {b:Addr} {o:Obj} (e:(ZhX h H).get? b=some o):h.get? b=some o/\H b=none:=by
  have e':h.get? b=some o:=PySem.W.of_hideAll (trk h H) e
  refine ⟨e',?_⟩
  cases q:H b with
  | none=>rfl
  | some x=>
    have hm:b∈trk h H:=List.mem_filter.mpr ⟨List.mem_range.mpr (Heap.lt_size e'),by simp [q]⟩
    have z:(ZhX h H).get? b=none:=PySem.W.hideAll_none (trk h H) hm
    rw [z] at e; cases e
noncomputable def Zj6 (g h:Heap) (L:Addr):List (Addr×Obj):=(List.range h.objs.size).filterMap fun a=>if a=L\/(g.get? a).isSome=true then none else (h.get? a).map fun o=>(a,o)
noncomputable def rest (g h:Heap) (L d:Addr):List (Addr×Obj):=(Zj6 g h L).filter fun p=>decide (p.1≠d)
structure Mod (K:PySem.W.Frag) (mg:Str->Option Value) (base:Heap):Prop where
  kin:K.In base
  glob:base.Ns mainGlobals mg
  blt:∃ mb,base.Ns builtinsNs mb/\∀ x:Str,x≠"__name__"->mb x=bootBuiltins x
  nolimit:base.NoLimit
structure Cx where
  prog:Program
  w:World
  K:PySem.W.Frag
  mg:Str->Option Value
  base:Heap
  A:Around
  N:List Str
  s₀:Shared
  H₀:Hp
  env:Env
  outer:List Env
  stack:List Env
  ex:List Addr
  fn:Str->Bool
  calm:Bool
  pn:List (Addr×Obj)
  xe:Value->Shared->Prop
noncomputable def frs (l:List Env):List Addr:=l.filterMap (·.frame)
noncomputable abbrev Cx.fs (X:Cx):List Addr:=frs X.outer
noncomputable def Vis (sc:Scope) (x:Str):Prop:=sc.names.lookup x=some .local\/sc.names.lookup x=some .cell\/sc.names.lookup x=some .free
noncomputable def Loc (sc:Scope) (x:Str):Prop:=sc.names.lookup x=some .local\/sc.names.lookup x=some .cell
noncomputable def Zn8 (env:Env) (h:Heap) (m:Str->Option Value) (x:Str) (u:Value):Prop:=
  (env.kindOf x=some .local/\m x=some u)\/((env.kindOf x=some .cell\/env.kindOf x=some .free)/\∃ c,env.cells.lookup x=some c/\h.IsCell c (some u))
structure Cx.Ok (X:Cx):Prop where
  mod:Mod X.K X.mg X.base
  kind:X.env.scope.kind=.function
  glob:X.env.globals=mainGlobals
  blt:X.env.builtins=builtinsNs
  above:X.s₀.heap.objs.size<=X.env.locals
  inj:∀ x y c,X.env.cells.lookup x=some c->X.env.cells.lookup y=some c->x=y
  has:∀ x,(X.env.kindOf x=some .cell\/X.env.kindOf x=some .free)->∃ c,X.env.cells.lookup x=some c
  cab:∀ x c,X.fn x=true->X.env.cells.lookup x=some c->X.s₀.heap.objs.size<=c
  hd:X.calm=true->X.A.handled=none
  frames:X.A.frames=some X.stack
  stk:X.stack=X.outer\/(X.stack=X.env::X.outer/\X.env.frame=some X.env.locals)
  exf:∀ b∈X.ex,b≠X.env.locals/\∀ x c,X.env.cells.lookup x=some c->c≠b
  bs:∀ b o,X.base.get? b=some o->X.s₀.heap.get? b=some o/\X.H₀ b=none
  bsz:X.base.objs.size<=X.s₀.heap.objs.size
  noex:∀ b o,X.base.get? b=some o->b ∉ X.ex
  exfs:∀ b∈X.ex,b ∉ X.fs
  funs:X.s₀.heap.FunFrames X.base X.outer
  frf:∀ b∈X.fs,X.H₀ b=none
structure Inv (X:Cx) (pins:List (Addr×Obj)) (σ:List (Option V)) (H:Hp) (s:Shared):Prop where
  ok:X.Ok
  os:s.os=X.s₀.os
  bare:AllBare s.gens
  base:Un X.fs X.ex X.H₀ H X.s₀.heap s.heap
  loc:∃ m,s.heap.Ns X.env.locals m/\∀ (i:Nat) (x:Str) (v:V),X.N[i]?=some x->σ[i]?=some (some v)->Vis X.env.scope x->∃ u,RelV v u/\Zn8 X.env s.heap m x u
  cell:∀ x c,X.env.cells.lookup x=some c->∃ v,s.heap.IsCell c v
  free:H X.env.locals=none
  freeC:∀ x c,X.env.cells.lookup x=some c->H c=none
  pin:∀ p∈X.pn++pins,s.heap.get? p.1=some p.2/\H p.1=none/\p.1≠X.env.locals/\p.1 ∉ X.fs/\∀ v,p.2.data≠.cell v
  hok:HOk X.prog X.w H s.heap
  len:σ.length=X.N.length
section
variable {X:Cx} {pins:List (Addr×Obj)} {σ:List (Option V)} {H H':Hp} {s:Shared} {h':Heap}
theorem Cx.Ok.nofr (ok:X.Ok) {b:Addr} {o:Obj} (e:X.base.get? b=some o):b ∉ X.fs:=fun hb=>by
  have:=(ok.funs.mem hb).1
  rw [e] at this; cases this
theorem Inv.bs (I:Inv X pins σ H s):∀ b o,X.base.get? b=some o->s.heap.get? b=some o/\H b=none:=fun b o e=>
  ⟨I.base.keep b o (I.ok.bs b o e).1 (I.ok.bs b o e).2 (I.ok.nofr e) (I.ok.noex b o e),I.base.free b o (I.ok.bs b o e).1 (I.ok.bs b o e).2 (I.ok.noex b o e)⟩
theorem Inv.bk (I:Inv X pins σ H s):∀ b o,X.base.get? b=some o->s.heap.get? b=some o:=fun b o e=>(I.bs b o e).1
theorem Inv.mod (I:Inv X pins σ H s):Mod X.K X.mg X.base:=I.ok.mod
theorem Inv.kIn (I:Inv X pins σ H s):X.K.In s.heap:=I.ok.mod.kin.keeps I.bk
theorem Inv.lt (I:Inv X pins σ H s):X.env.locals < s.heap.objs.size:=let ⟨_,hn,_⟩:=I.loc; hn.lt
theorem Inv.sz (I:Inv X pins σ H s):X.s₀.heap.objs.size<=s.heap.objs.size:=Nat.le_trans I.ok.above (Nat.le_of_lt I.lt)
theorem Inv.nofs (I:Inv X pins σ H s) {a:Addr} (h:s.heap.objs.size<=a):a ∉ X.fs:=fun hb=>by
  obtain ⟨_,o,ho,_⟩:=I.ok.funs.mem hb
  exact absurd (Nat.lt_of_lt_of_le (Heap.lt_size ho) (Nat.le_trans I.sz h)) (Nat.lt_irrefl _)
theorem Inv.cne (I:Inv X pins σ H s):∀ x c,X.env.cells.lookup x=some c->c≠X.env.locals:=fun x c e z=>by
  obtain ⟨v,o,ho,hd⟩:=I.cell x c e
  obtain ⟨m,⟨o',es,ep,ho',hd',_⟩,_⟩:=I.loc
  rw [z,ho'] at ho; cases ho; rw [hd'] at hd; cases hd
theorem Inv.funs (I:Inv X pins σ H s):s.heap.FunFrames X.base X.outer:=by
  have all:∀ (l:List Env),(∀ b∈frs l,b∈X.fs)->X.s₀.heap.FunFrames X.base l->s.heap.FunFrames X.base l:=by
    intro l
    induction l with
    | nil=>intro _ _; trivial
    | cons env r ih=>
      intro hs hl
      obtain ⟨hk,⟨L,o,hf,hn,ho,hd⟩,hr⟩:=hl
      have hL:L∈X.fs:=hs L (by unfold frs; rw [List.filterMap_cons,hf]; exact List.mem_cons_self)
      obtain ⟨sl,e⟩:=I.base.slot L o ho (I.ok.frf L hL) hL fun z=>I.ok.exfs L z hL
      exact ⟨hk,⟨L,_,hf,hn,e,hd⟩,ih (fun b hb=>hs b (by unfold frs; rw [List.filterMap_cons,hf]; exact List.mem_cons_of_mem _ hb)) hr⟩
  exact all X.outer (fun _ hb=>hb) I.ok.funs
theorem Inv.stack (I:Inv X pins σ H s):s.heap.FunFrames X.base X.stack:=by
  rcases I.ok.stk with e | ⟨e,hf⟩
  · rw [e]; exact I.funs
  · rw [e]
    obtain ⟨m,hn,_⟩:=I.loc
    refine .cons (by rw [I.ok.kind]; decide) hf hn ?_ I.funs
    exact Heap.get?_none_of_le (Nat.le_trans I.ok.bsz I.ok.above)
theorem Inv.stkSub (I:Inv X pins σ H s):∀ b∈frs X.stack,b∈X.env.locals::X.fs:=fun b hb=>by
  rcases I.ok.stk with e | ⟨e,hf⟩
  · rw [e] at hb; exact List.mem_cons_of_mem _ hb
  · rw [e] at hb
    unfold frs at hb
    rw [List.filterMap_cons,hf] at hb
    exact hb
theorem Inv.stkFree (I:Inv X pins σ H s):∀ b∈frs X.stack,H b=none:=fun b hb=>by
  rcases List.mem_cons.mp (I.stkSub b hb) with e | hb
  · rw [e]; exact I.free
  · obtain ⟨_,o,ho,_⟩:=I.ok.funs.mem hb
    exact I.base.free b o ho (I.ok.frf b hb) fun z=>I.ok.exfs b z hb
theorem Inv.step {g':Array GenState} {t':Nat} {d':Drawn} {ch:List Addr} (I:Inv X pins σ H s)
    (hch:∀ b∈ch,(b∈X.ex\/X.s₀.heap.objs.size<=b)/\b≠X.env.locals/\(∀ x c,X.env.cells.lookup x=some c->c≠b)/\∀ p∈X.pn++pins,p.1≠b)
    (keep:∀ b o,b≠X.env.locals->b ∉ X.fs->b ∉ ch->s.heap.get? b=some o->H b=none->h'.get? b=some o)
    (slot:∀ b o,b≠X.env.locals->b∈X.fs->b ∉ ch->s.heap.get? b=some o->H b=none->∃ sl,h'.get? b=some { o with slots:=sl }) (free:∀ b o,b ∉ ch->s.heap.get? b=some o->H b=none->H' b=none)
    (there:∀ b o,b ∉ ch->s.heap.get? b=some o->∃ o',h'.get? b=some o')
    (tups:∀ b xs,H b=some (.tup xs)->H' b=some (.tup xs)) (frzs:∀ b o u,H b=some (.frz o u)->H' b=some (.frz o u)) (tbls:∀ b ps,H b=some (.tbl ps)->∃ more,H' b=some (.tbl (ps++more)))
    (ns:∀ m,s.heap.Ns X.env.locals m->h'.Ns X.env.locals m) (hok:HOk X.prog X.w H' h') (hg:AllBare g') :
    Inv X pins σ H' { s with heap:=h',gens:=g',drawn:=d',toks:=t' }:=by
  have neL:∀ b o,X.s₀.heap.get? b=some o->b≠X.env.locals:=fun b o e=>Nat.ne_of_lt (Nat.lt_of_lt_of_le (Heap.lt_size e) I.ok.above)
  have neC:∀ b o,X.s₀.heap.get? b=some o->b ∉ X.ex->b ∉ ch:=fun b o e hx hb=>by
    rcases (hch b hb).1 with z | z
    · exact hx z
    · exact absurd (Nat.lt_of_lt_of_le (Heap.lt_size e) z) (Nat.lt_irrefl _)
  have cellK:∀ x c,X.env.cells.lookup x=some c->∀ v,s.heap.IsCell c v->h'.IsCell c v:=fun x c e v zq=>by
    obtain ⟨o,ho,hd⟩:=zq
    have nch:c ∉ ch:=fun z=>(hch c z).2.2.1 x c e rfl
    by_cases hc:c∈X.fs
    · obtain ⟨sl,q⟩:=slot c o (I.cne x c e) hc nch ho (I.freeC x c e)
      exact ⟨_,q,hd⟩
    · exact ⟨o,keep c o (I.cne x c e) hc nch ho (I.freeC x c e),hd⟩
  refine ⟨I.ok,I.os,hg,⟨fun b o e n hb hx=>?_,fun b o e n hb hx=>?_,fun b o e n hx=>?_,fun b o e hx=>?_,fun b xs e=>tups b xs (I.base.tups b xs e),fun b o xs e=>frzs b o xs (I.base.frzs b o xs e),fun b ps e=>?_⟩,?_,fun x c e=>?_,?_,fun x c e=>?_,fun p hp=>?_,hok,I.len⟩
  · exact keep b o (neL b o e) hb (neC b o e hx) (I.base.keep b o e n hb hx) (I.base.free b o e n hx)
  · obtain ⟨sl,e1⟩:=I.base.slot b o e n hb hx
    obtain ⟨sl',e2⟩:=slot b _ (neL b o e) hb (neC b o e hx) e1 (I.base.free b o e n hx)
    exact ⟨sl',e2⟩
  · obtain ⟨o',e1⟩:=I.base.there b o e hx
    exact free b o' (neC b o e hx) e1 (I.base.free b o e n hx)
  · obtain ⟨o',e1⟩:=I.base.there b o e hx
    exact there b o' (neC b o e hx) e1
  · obtain ⟨m1,e1⟩:=I.base.tbls b ps e
    obtain ⟨m2,e2⟩:=tbls b _ e1
    exact ⟨m1++m2,by rw [e2,Array.append_assoc]⟩
  · obtain ⟨m,hn,hl⟩:=I.loc
    refine ⟨m,ns m hn,fun i x v e1 e2 e3=>?_⟩
    obtain ⟨u,r,l⟩:=hl i x v e1 e2 e3
    refine ⟨u,r,?_⟩
    rcases l with l | ⟨k,c,e,z⟩
    · exact .inl l
    · exact .inr ⟨k,c,e,cellK x c e _ z⟩
  · obtain ⟨v,z⟩:=I.cell x c e
    exact ⟨v,cellK x c e v z⟩
  · obtain ⟨m,⟨o,_,_,ho,_⟩,_⟩:=I.loc
    exact free _ o (fun z=>(hch _ z).2.1 rfl) ho I.free
  · obtain ⟨v,o,ho,hd⟩:=I.cell x c e
    exact free c o (fun z=>(hch c z).2.2.1 x c e rfl) ho (I.freeC x c e)
  · obtain ⟨e,n,ne,nf,d⟩:=I.pin p hp
    have nch:p.1 ∉ ch:=fun z=>(hch p.1 z).2.2.2 p hp rfl
    exact ⟨keep p.1 p.2 ne nf nch e n,free p.1 p.2 nch e n,ne,nf,d⟩
theorem Inv.un {t':Nat} (I:Inv X pins σ H s) (u:Un X.fs [] H H' s.heap h') (hok:HOk X.prog X.w H' h'):Inv X pins σ H' { s with heap:=h',toks:=t' }:=by
  obtain ⟨m,⟨o,es,ep,ho,r⟩,_⟩:=id I.loc
  obtain ⟨sl,hL⟩:=u.any ho I.free (by simp)
  exact I.step (g':=s.gens) (d':=s.drawn) (ch:=[]) (fun _ z=>nomatch z) (fun b o _ hb _ e n=>u.keep b o e n hb (by simp)) (fun b o _ hb _ e n=>u.slot b o e n hb (by simp)) (fun b o _ e n=>u.free b o e n (by simp)) (fun b o _ e=>u.there b o e (by simp)) u.tups u.frzs u.tbls (fun m' hm=>by
    obtain ⟨o',es',ep',ho',r'⟩:=hm
    rw [ho] at ho'; cases ho'
    exact ⟨_,es',ep',hL,r'⟩) hok I.bare
theorem Inv.call {g':Array GenState} {t':Nat} {d':Drawn} {ch:List Addr} (I:Inv X pins σ H s) (u:Un (frs X.stack) ch H H' s.heap h') (hok:HOk X.prog X.w H' h') (hg:AllBare g')
    (hch:∀ b∈ch,(b∈X.ex\/X.s₀.heap.objs.size<=b)/\b≠X.env.locals/\(∀ x c,X.env.cells.lookup x=some c->c≠b)/\∀ p∈X.pn++pins,p.1≠b) :
    Inv X pins σ H' { s with heap:=h',gens:=g',drawn:=d',toks:=t' }:=by
  obtain ⟨m,⟨o,es,ep,ho,r⟩,_⟩:=id I.loc
  obtain ⟨sl,hL⟩:=u.any ho I.free fun z=>(hch _ z).2.1 rfl
  exact I.step (ch:=ch) hch (fun b o hL hb hc e n=>u.keep b o e n (fun z=>(List.mem_cons.mp (I.stkSub b z)).elim hL hb) hc) (fun b o _ _ hc e n=>u.any e n hc) (fun b o hc e n=>u.free b o e n hc) (fun b o hc e=>u.there b o e hc) u.tups u.frzs u.tbls (fun m' hm=>by
    obtain ⟨o',es',ep',ho',r'⟩:=hm
    rw [ho] at ho'; cases ho'
    exact ⟨_,es',ep',hL,r'⟩) hok hg
theorem Inv.turned {t':Nat} {it:Addr} (I:Inv X pins σ H s) (k:∀ b o,b≠it->s.heap.get? b=some o->h'.get? b=some o) (hn:H it=none) (hL:it≠X.env.locals)
    (h1:it∈X.ex\/X.s₀.heap.objs.size<=it) (h2:∀ x c,X.env.cells.lookup x=some c->c≠it) (h3:∀ p∈X.pn++pins,p.1≠it):Inv X pins σ H { s with heap:=h',toks:=t' }:=by
  have nit:∀ b u,H b=some u->b≠it:=fun b u e z=>by rw [z,hn] at e; cases e
  refine I.step (g':=s.gens) (d':=s.drawn) (ch:=[it]) (fun b hb=>?_) (fun b o _ _ hc e _=>k b o (fun z=>hc (by simp [z])) e) (fun b o _ _ hc e _=>⟨o.slots,k b o (fun z=>hc (by simp [z])) e⟩) (fun _ _ _ _ n=>n)
    (fun b o hc e=>⟨o,k b o (fun z=>hc (by simp [z])) e⟩) (fun _ _ e=>e) (fun _ _ _ e=>e) (fun b ps e=>⟨#[],by rw [e]; simp⟩) (fun m hm=>?_) (fun b u e=>?_) I.bare
  · have e:b=it:=by simpa using hb
    subst e
    exact ⟨h1,hL,h2,h3⟩
  · obtain ⟨o,es,ep,ho,r⟩:=hm
    exact ⟨o,es,ep,k _ o (Ne.symm hL) ho,r⟩
  · refine (I.hok b u e).stay (fun c v hc q=>k c v ?_ q) (fun _ q=>q) fun _ _ q=>q
    rcases hc with z | z
    · rw [z]; exact nit b u e
    · exact nit c _ z
theorem Inv.tok (I:Inv X pins σ H s) (t:Nat):Inv X pins σ H { s with toks:=t }:=I.un (h':=s.heap) (t':=t) Un.refl I.hok
theorem Inv.kept {t':Nat} (I:Inv X pins σ H s) (k:∀ b u,s.heap.get? b=some u->h'.get? b=some u):Inv X pins σ H { s with heap:=h',toks:=t' }:=I.un (Un.kept k) (I.hok.kept k)
theorem Inv.laid {a:Addr} {o:HO} {t':Nat} (I:Inv X pins σ H s) (k:∀ b u,s.heap.get? b=some u->h'.get? b=some u) (hp:s.heap.objs.size<=a) (new:ObjOk X.prog X.w (upd H a o) h' a o) :
    Inv X pins σ (upd H a o) { s with heap:=h',toks:=t' }:=I.un (Un.laid k hp (I.hok.fresh hp)) (I.hok.laid k hp new)
theorem Inv.write {x e:Addr} {o:HO} {t':Nat} (I:Inv X pins σ H s) (mu:Mut (H x)) (he:e=x\/H e=some (.own x)) (k:∀ b u,b≠e->s.heap.get? b=some u->h'.get? b=some u) (heo:∃ u,h'.get? e=some u)
    (new:ObjOk X.prog X.w (upd H x o) h' x o):Inv X pins σ (upd H x o) { s with heap:=h',toks:=t' }:=I.un (Un.write mu he k heo) (I.hok.write mu he k heo new)
theorem Inv.pins_of {pins':List (Addr×Obj)} (I:Inv X pins σ H s) (h:∀ p∈pins',s.heap.get? p.1=some p.2/\H p.1=none/\p.1≠X.env.locals/\p.1 ∉ X.fs/\∀ v,p.2.data≠.cell v):Inv X pins' σ H s:=
  ⟨I.ok,I.os,I.bare,I.base,I.loc,I.cell,I.free,I.freeC,fun p hp=>(List.mem_append.mp hp).elim (fun z=>I.pin p (List.mem_append_left _ z)) (h p),I.hok,I.len⟩
theorem ZdX {N:List Str} (hN:N.Nodup) {i j:Nat} {x:Str} (a:N[i]?=some x) (b:N[j]?=some x):i=j:=by
  obtain ⟨h1,e1⟩:=List.getElem?_eq_some_iff.mp a
  obtain ⟨h2,e2⟩:=List.getElem?_eq_some_iff.mp b
  exact (List.getElem_inj hN).mp (e1.trans e2.symm)
theorem Zfl {M:Model} {A:Around} {E:Value->Shared->Prop} {i:Nat} {x:Str} {v:V} {u:Value} {Q:Unit->Shared->Prop} (I:Inv X pins σ H s) (hN:X.N.Nodup) (hi:X.N[i]?=some x) (hx:Loc X.env.scope x) (r:RelV v u)
    (h:∀ s',Inv X pins (σ.set i (some v)) H s'->(∃ a,Heap.SameBut a s.heap s'.heap/\(a=X.env.locals\/X.env.cells.lookup x=some a))->Q () s') (hf:X.fn x=true\/X.env.scope.names.lookup x=some .local:=by first | exact .inl rfl | exact .inr rfl | assumption):wpAny M A (storeName X.env x u) Q E s:=by
  obtain ⟨m,hn,hl⟩:=id I.loc
  have hcls:(X.env.scope.kind==.class||(X.env.scope.kind==.module&&X.env.locals != X.env.globals))=false:=by rw [I.ok.kind]; rfl
  have hiσ:i < σ.length:=by rw [I.len]; exact (List.getElem?_eq_some_iff.mp hi).1
  have cne:=I.cne
  have tracked:∀ {a:Addr} {h':Heap},(∃ o,s.heap.get? a=some o/\H a=none)->Heap.SameBut a s.heap h'->HOk X.prog X.w H h':=fun {a h'} ha hs b ob e=>by
    obtain ⟨_,_,hfree⟩:=ha
    refine (I.hok b ob e).stay (fun c w' hc q=>(hs.2 c ?_).trans q) (fun _ q=>q) fun _ _ q=>q
    rintro rfl
    rcases hc with rfl | hc
    · rw [hfree] at e; cases e
    · rw [hfree] at hc; cases hc
  rcases hx with hk | hk
  · refine wpAny_storeName_local hk hn (fun h' hn' hs=>?_) hcls
    obtain ⟨oL,_,_,hoL,_⟩:=id hn
    refine h _ ⟨I.ok,I.os,I.bare,⟨fun b o e n hb hx=>?_,fun b o e n hb hx=>?_,I.base.free,fun b o e hx=>?_,I.base.tups,I.base.frzs,I.base.tbls⟩,⟨_,hn',fun j y v' e1 e2 e3=>?_⟩,fun y c e=>?_,I.free,I.freeC,fun p hp=>?_,tracked ⟨oL,hoL,I.free⟩ hs,by simpa using I.len⟩ ⟨_,hs,.inl rfl⟩
    · exact (hs.2 b (Nat.ne_of_lt (Nat.lt_of_lt_of_le (Heap.lt_size e) I.ok.above))).trans (I.base.keep b o e n hb hx)
    · obtain ⟨sl,e1⟩:=I.base.slot b o e n hb hx
      exact ⟨sl,(hs.2 b (Nat.ne_of_lt (Nat.lt_of_lt_of_le (Heap.lt_size e) I.ok.above))).trans e1⟩
    · obtain ⟨o',e1⟩:=I.base.there b o e hx
      exact ⟨o',(hs.2 b (Nat.ne_of_lt (Nat.lt_of_lt_of_le (Heap.lt_size e) I.ok.above))).trans e1⟩
    · by_cases hj:j=i
      · subst hj
        rw [hi] at e1; cases e1
        rw [List.getElem?_set_self hiσ] at e2
        cases e2
        exact ⟨u,r,.inl ⟨hk,by simp⟩⟩
      · rw [List.getElem?_set_ne (Ne.symm hj)] at e2
        obtain ⟨u',r',q⟩:=hl j y v' e1 e2 e3
        refine ⟨u',r',?_⟩
        rcases q with ⟨k,e⟩ | ⟨k,c,e,z⟩
        · refine .inl ⟨k,?_⟩
          have:y≠x:=fun e=>hj (ZdX hN e1 (e ▸ hi))
          simp [this,e]
        · exact .inr ⟨k,c,e,z.sameBut hs (cne y c e)⟩
    · obtain ⟨w',z⟩:=I.cell y c e
      exact ⟨w',z.sameBut hs (cne y c e)⟩
    · obtain ⟨e,n,ne,nf,d⟩:=I.pin p hp
      exact ⟨(hs.2 p.1 ne).trans e,n,ne,nf,d⟩
  · have hfn:X.fn x=true:=by
      rcases hf with z | z
      · exact z
      · rw [z] at hk; cases hk
    obtain ⟨c,hc⟩:=I.ok.has x (.inl hk)
    obtain ⟨w',z⟩:=I.cell x c hc
    refine wpAny_storeName_cell I.ok.kind hk hc z (fun h' hc' hs=>?_)
    obtain ⟨oc,hoc,hocd⟩:=id z
    refine h { s with heap:=h' } ⟨I.ok,I.os,I.bare,⟨fun b o e n hb hx=>?_,fun b o e n hb hx=>?_,I.base.free,fun b o e hx=>?_,I.base.tups,I.base.frzs,I.base.tbls⟩,⟨m,hn.sameBut hs (Ne.symm (cne x c hc)),fun j y v' e1 e2 e3=>?_⟩,fun y c' e=>?_,I.free,I.freeC,fun p hp=>?_,tracked ⟨oc,hoc,I.freeC x c hc⟩ hs,by simpa using I.len⟩ ⟨c,hs,.inr hc⟩
    · exact (hs.2 b (Nat.ne_of_lt (Nat.lt_of_lt_of_le (Heap.lt_size e) (I.ok.cab x c hfn hc)))).trans (I.base.keep b o e n hb hx)
    · obtain ⟨sl,e1⟩:=I.base.slot b o e n hb hx
      exact ⟨sl,(hs.2 b (Nat.ne_of_lt (Nat.lt_of_lt_of_le (Heap.lt_size e) (I.ok.cab x c hfn hc)))).trans e1⟩
    · obtain ⟨o',e1⟩:=I.base.there b o e hx
      exact ⟨o',(hs.2 b (Nat.ne_of_lt (Nat.lt_of_lt_of_le (Heap.lt_size e) (I.ok.cab x c hfn hc)))).trans e1⟩
    · by_cases hj:j=i
      · subst hj
        rw [hi] at e1; cases e1
        rw [List.getElem?_set_self hiσ] at e2
        cases e2
        exact ⟨u,r,.inr ⟨.inl hk,c,hc,hc'⟩⟩
      · rw [List.getElem?_set_ne (Ne.symm hj)] at e2
        obtain ⟨u',r',q⟩:=hl j y v' e1 e2 e3
        refine ⟨u',r',?_⟩
        rcases q with q | ⟨k,c',e,z'⟩
        · exact .inl q
        · refine .inr ⟨k,c',e,z'.sameBut hs ?_⟩
          rintro rfl
          exact hj (ZdX hN e1 (I.ok.inj _ _ _ e hc ▸ hi))
    · by_cases hcc:c'=c
      · subst hcc; exact ⟨_,hc'⟩
      · obtain ⟨w2,z2⟩:=I.cell y c' e
        exact ⟨w2,z2.sameBut hs hcc⟩
    · obtain ⟨e,n,ne,nf,d⟩:=I.pin p hp
      refine ⟨(hs.2 p.1 ?_).trans e,n,ne,nf,d⟩
      intro q
      rw [q,hoc] at e
      have q':oc=p.2:=Option.some.inj e
      exact d w' (by rw [<-q']; exact hocd)
theorem Za6 {M:Model} {A:Around} {E:Value->Shared->Prop} {i:Nat} {x:Str} {v:V} {u:Value} {Q:Unit->Shared->Prop} (I:Inv X pins σ H s) (hN:X.N.Nodup) (hi:X.N[i]?=some x) (hx:Loc X.env.scope x) (r:RelV v u)
    (h:∀ s',Inv X pins (σ.set i (some v)) H s'->Q () s') (hf:X.fn x=true\/X.env.scope.names.lookup x=some .local:=by first | exact .inl rfl | exact .inr rfl | assumption):wpAny M A (storeName X.env x u) Q E s:=
  Zfl I hN hi hx r (fun s' I' _=>h s' I') hf
theorem Inv.call' {s':Shared} {ch:List Addr} (I:Inv X pins σ H s) (ho:s'.os=s.os) (u:Un (frs X.stack) ch H H' s.heap s'.heap) (hok:HOk X.prog X.w H' s'.heap) (hg:AllBare s'.gens)
    (hch:∀ b∈ch,(b∈X.ex\/X.s₀.heap.objs.size<=b)/\b≠X.env.locals/\(∀ x c,X.env.cells.lookup x=some c->c≠b)/\∀ p∈X.pn++pins,p.1≠b):Inv X pins σ H' s':=by
  obtain ⟨h',g',d',t',o'⟩:=s'
  have e:o'=s.os:=ho
  subst e
  exact I.call (g':=g') (t':=t') (d':=d') u hok hg hch
end
noncomputable abbrev XK:=Value->Option Addr->Hp->Prop
noncomputable abbrev St:=List (Option V)
noncomputable abbrev VK:=V->Hp->Prop
noncomputable abbrev TE:=St->Hp->VK->Prop
noncomputable abbrev TT:=St->Hp->(Bool->Hp->Prop)->Prop
noncomputable abbrev TA:=St->Hp->(List V->Hp->Prop)->Prop
structure ZiT where
  nx:St->Hp->Prop
  rt:VK
  bk:St->Hp->Prop:=fun _ _=>False
  ct:St->Hp->Prop:=fun _ _=>False
noncomputable abbrev TS:=ZiT->St->Hp->Prop
inductive EP (X:Cx) (pins:List (Addr×Obj)) (σ:St) (Q:VK) (u:Value) (s':Shared):Prop
  | mk (v:V) (H':Hp) (I:Inv X pins σ H' s') (r:RelV v u) (q:Q v H')
noncomputable def TP (X:Cx) (pins:List (Addr×Obj)) (σ:St) (Q:Bool->Hp->Prop) (b:Bool) (s':Shared):Prop:=∃ H',Inv X pins σ H' s'/\Q b H'
inductive AP (X:Cx) (pins:List (Addr×Obj)) (σ:St) (Q:List V->Hp->Prop) (us:List Value) (s':Shared):Prop
  | mk (vs:List V) (H':Hp) (I:Inv X pins σ H' s') (r:Vals vs us) (q:Q vs H')
noncomputable def SP (X:Cx) (pins:List (Addr×Obj)) (D:ZiT) (f:Flow) (s':Shared):Prop:=
  match f with
  | .next=>∃ σ' H',Inv X pins σ' H' s'/\D.nx σ' H'
  | .brk=>∃ σ' H',Inv X pins σ' H' s'/\D.bk σ' H'
  | .cont=>∃ σ' H',Inv X pins σ' H' s'/\D.ct σ' H'
  | .ret u=>∃ v σ' H',Inv X pins σ' H' s'/\RelV v u/\D.rt v H'
noncomputable def PE (X:Cx) (e:Expr) (t:TE):Prop:=
  ∀ (pins:List (Addr×Obj)) (s:Shared) (σ:St) (H:Hp) (Q:VK),Inv X pins σ H s->t σ H Q->wpAny (model X.prog X.w) X.A (eval e X.env) (EP X pins σ Q) X.xe s
noncomputable def PT (X:Cx) (e:Expr) (t:TT):Prop:=
  ∀ (pins:List (Addr×Obj)) (s:Shared) (σ:St) (H:Hp) (Q:Bool->Hp->Prop),Inv X pins σ H s->t σ H Q->wpAny (model X.prog X.w) X.A (isTrue e X.env (eval e X.env)) (TP X pins σ Q) X.xe s
noncomputable def PW (X:Cx) (e:Expr) (t:TT):Prop:=
  ∀ (whole:Sem Value) (pins:List (Addr×Obj)) (s:Shared) (σ:St) (H:Hp) (Q:Bool->Hp->Prop),Inv X pins σ H s->t σ H Q->wpAny (model X.prog X.w) X.A (isTrue e X.env whole) (TP X pins σ Q) X.xe s
theorem PW.pt {X:Cx} {e:Expr} {t:TT} (h:PW X e t):PT X e t:=h _
noncomputable def PA (X:Cx) (es:List Expr) (t:TA):Prop:=
  ∀ (pos:Pos) (pins:List (Addr×Obj)) (s:Shared) (σ:St) (H:Hp) (Q:List V->Hp->Prop),Inv X pins σ H s->t σ H Q->wpAny (model X.prog X.w) X.A (spliced (backTo pos (starEach es X.env))) (AP X pins σ Q) X.xe s
noncomputable def PS (X:Cx) (st:Stmt) (t:TS):Prop:=
  ∀ (pins:List (Addr×Obj)) (s:Shared) (σ:St) (H:Hp) (D:ZiT),Inv X pins σ H s->t D σ H->wpAny (model X.prog X.w) X.A (exec st X.env) (SP X pins D) X.xe s
noncomputable def PSs (X:Cx) (st:List Stmt) (t:TS):Prop:=
  ∀ (pins:List (Addr×Obj)) (s:Shared) (σ:St) (H:Hp) (D:ZiT),Inv X pins σ H s->t D σ H->wpAny (model X.prog X.w) X.A (execs st X.env) (SP X pins D) X.xe s
theorem thn {α:Type} {t:Sem α} {Q Q':α->Shared->Prop} {M:Model} {A:Around} {E:Value->Shared->Prop} {s:Shared} (h:wpAny M A t Q E s) (hQ:∀ a s,Q a s->Q' a s):wpAny M A t Q' E s:=wpAny_mono h hQ fun _ _ x=>x
section
variable {X:Cx}
theorem bin {a b:Expr} {ta tb:TE} (ha:PE X a ta) (hb:PE X b tb) {pins:List (Addr×Obj)} {s:Shared} {σ:St} {H:Hp} {R:V->V->Hp->Prop} (I:Inv X pins σ H s) (h:ta σ H fun x H1=>tb σ H1 fun y H2=>R x y H2)
    {α:Type} {Q:α->Shared->Prop} {f:Value->Value->Sem α}
    (hf:∀ v u s2 x y H2,Inv X pins σ H2 s2->RelV x v->RelV y u->R x y H2->wpAny (model X.prog X.w) X.A (f v u) Q X.xe s2) :
    wpAny (model X.prog X.w) X.A (eval a X.env) (fun v s₁=>wpAny (model X.prog X.w) X.A (eval b X.env) (fun u s₂=>wpAny (model X.prog X.w) X.A (f v u) Q X.xe s₂) X.xe s₁) X.xe s:=by
  refine thn (ha pins s σ H _ I h) fun v s1 zq=>?_
  obtain ⟨x,H1,I1,r1,q1⟩:=zq
  refine thn (hb pins s1 σ H1 _ I1 q1) fun u s2 zq=>?_
  obtain ⟨y,H2,I2,r2,q2⟩:=zq
  exact hf v u s2 x y H2 I2 r1 r2 q2
noncomputable def Zkl (i:Nat):TE:=fun σ H Q=>∃ v,σ[i]?=some (some v)/\Q v H
noncomputable def tC (v:V):TE:=fun _ H Q=>Q v H
theorem ZkL {i:Nat} {x:Str} {pos:Pos} (hN:X.N[i]?=some x) (hv:Vis X.env.scope x) (hd:(x==("__debug__":Str))=false:=by decide) (hcd:(x==("__classdict__":Str))=false:=by decide):PE X (.Name x pos) (Zkl i):=by
  intro pins s σ H Q I h
  obtain ⟨v,e,h⟩:=h
  obtain ⟨m,hn,hl⟩:=I.loc
  obtain ⟨u,r,l⟩:=hl i x v hN e hv
  have fin:EP X pins σ Q u s:=⟨v,H,I,r,h⟩
  rcases l with ⟨hk,hm⟩ | ⟨hk,c,hc,hcell⟩
  · exact wpAny_Name (wpAny_loadName_local I.ok.kind hk hn hm fin) hd
  · rcases hk with hk | hk
    · exact wpAny_Name (wpAny_loadName_cell I.ok.kind hk hc hcell fin) hd
    · exact wpAny_Name (wpAny_loadName_free I.ok.kind hk hc hcell fin hcd) hd
theorem Zis {i j pos}:PE X (.Constant (.int i) j pos) (tC (.int i)):=fun _ _ _ H _ I h=>wpAny_Constant_int ⟨.int i,H,I.tok _,⟨_,rfl⟩,h⟩
theorem Zme {b j pos}:PE X (.Constant (.bool b) j pos) (tC (.bl b)):=fun _ _ _ H _ I h=>Constant_bool ⟨.bl b,H,I,rfl,h⟩
theorem ZkR {j pos}:PE X (.Constant .none j pos) (tC .non):=fun _ _ _ H _ I h=>Constant_none ⟨.non,H,I,rfl,h⟩
theorem ZkO {x j pos}:PE X (.Constant (.str x) j pos) (tC (.str x)):=fun _ _ _ H _ I h=>Calls.Constant_str ⟨.str x,H,I.tok _,⟨_,rfl⟩,h⟩
noncomputable def Gl (X:Cx) (x:Str):Prop:=X.env.kindOf x=some .globalImplicit
theorem Zgl {E:Value->Shared->Prop} {pins:List (Addr×Obj)} {s:Shared} {σ:St} {H:Hp} {x:Str} {u:Value} {pos:Pos} {Q:Value->Shared->Prop} (I:Inv X pins σ H s) (hg:Gl X x) (hm:X.mg x=some u) (h:Q u s)
    (hd:(x==("__debug__":Str))=false:=by decide):wpAny (model X.prog X.w) X.A (eval (.Name x pos) X.env) Q E s:=
  Calls.Name_function_global I.ok.kind hg (Calls.loadGlobal_global (by rw [I.ok.glob]; exact I.mod.glob.keeps I.bk) hm h) hd
theorem J0 {E:Value->Shared->Prop} {pins:List (Addr×Obj)} {s:Shared} {σ:St} {H:Hp} {x:Str} {u:Value} {pos:Pos} {Q:Value->Shared->Prop} (I:Inv X pins σ H s) (hg:Gl X x) (hm:X.mg x=none) (hv:bootBuiltins x=some u) (h:Q u s)
    (hn:x≠"__name__":=by decide) (hd:(x==("__debug__":Str))=false:=by decide):wpAny (model X.prog X.w) X.A (eval (.Name x pos) X.env) Q E s:=by
  obtain ⟨mb,h1,h2⟩:=I.mod.blt
  exact Calls.Name_function_global I.ok.kind hg (Calls.loadGlobal_builtin (by rw [I.ok.glob]; exact I.mod.glob.keeps I.bk) hm (by rw [I.ok.blt]; exact h1.keeps I.bk) ((h2 x hn).trans hv) h) hd
theorem Zjq {x:Str} {v:V} {u:Value} {pos:Pos} (hg:Gl X x) (hm:X.mg x=some u) (r:RelV v u) (hd:(x==("__debug__":Str))=false:=by decide):PE X (.Name x pos) (tC v):=
  fun _ _ _ H _ I h=>Zgl I hg hm ⟨v,H,I,r,h⟩ hd
variable {a b:Expr} {ta tb:TE} {pos:Pos}
noncomputable def PC (X:Cx) (op:CmpOp) (a b:Expr) (t:TE):Prop:=
  ∀ (pins:List (Addr×Obj)) (s:Shared) (σ:St) (H:Hp) (Q:VK),Inv X pins σ H s->t σ H Q ->
    wpAny (model X.prog X.w) X.A (eval a X.env) (fun v s₁=>wpAny (model X.prog X.w) X.A (eval b X.env) (fun u s₂=>wpAny (model X.prog X.w) X.A (compareOp op v u) (EP X pins σ Q) X.xe s₂) X.xe s₁) X.xe s
theorem ZhI (b:Expr) {op:CmpOp} (h:op≠.In) (h2:op≠.NotIn):behindInMarks op b=false:=by
  have e1:(op==CmpOp.In)=false:=by cases op <;> first | rfl | exact absurd rfl h
  have e2:(op==CmpOp.NotIn)=false:=by cases op <;> first | rfl | exact absurd rfl h2
  cases b <;> simp [behindInMarks,e1,e2]
noncomputable def Znr (ta:TE):TE:=fun σ H Q=>ta σ H fun x H1=>Q (.bl (decide (x=.non))) H1
theorem RelV.none_iff {x:V} {v:Value} (r:RelV x v):(v==Value.none)=decide (x=.non):=by
  cases x with
  | non=>cases r; rfl
  | bl _=>cases r; rfl
  | int _=>obtain ⟨t,rfl⟩:=r; rfl
  | str _=>obtain ⟨t,rfl⟩:=r; rfl
  | byt _=>obtain ⟨t,rfl⟩:=r; rfl
  | flt _=>obtain ⟨t,rfl⟩:=r; rfl
  | ref _=>cases r; rfl
  | ty _=>cases r; rfl
theorem ZkW {j pos'} (ha:PE X a ta):PC X .Is a (.Constant .none j pos') (Znr ta):=by
  intro pins s σ H Q I h
  refine thn (ha pins s σ H _ I h) fun v s1 zq=>?_
  obtain ⟨x,H1,I1,r1,q1⟩:=zq
  exact Constant_none (is_none_gen ⟨.bl _,H1,I1,by rw [r1.none_iff]; rfl,q1⟩)
noncomputable def tB (t:TE):TT:=fun σ H Q=>t σ H fun x H1=>∃ c,x=.bl c/\Q c H1
theorem ZkG {op:CmpOp} {t:TE} (h:PC X op a b t) (h1:behindInMarks op b=false:=by first | exact ZhI _ (by decide) (by decide) | rfl):PT X (.Compare a [op] [b] pos) (tB t):=by
  intro pins s σ H Q I hw
  refine wpAny_isTrue_Compare1 (thn (h pins s σ H _ I hw) fun v s1 h1=>thn h1 fun u s2 h2=>thn h2 fun c s3 zq=>?_) h1
  obtain ⟨x,H1,I1,r1,q1⟩:=zq
  obtain ⟨d,rfl,q⟩:=q1
  cases r1
  exact wpAny_truthy_bool ⟨H1,I1,q⟩
theorem ZkE {e:Expr} {t:TE} (h:PE X e t) (he:∀ whole,isTrue e X.env whole=(do let v <- whole; standAt e.pos; holding [v] (truthy v)):=by intro _; rfl):PT X e (tB t):=by
  intro pins s σ H Q I hw
  refine isTrue_plain (thn (h pins s σ H _ I hw) fun v s1 zq=>?_) (he _)
  obtain ⟨x,H1,I1,r1,q1⟩:=zq
  obtain ⟨d,rfl,q⟩:=q1
  cases r1
  exact wpAny_truthy_bool ⟨H1,I1,q⟩
variable {tA tB':TT} {rest:List Expr}
noncomputable def Znw (t u:TT):TT:=fun σ H Q=>t σ H fun c H1=>if c=true then u σ H1 Q else Q false H1
noncomputable def tOr (t u:TT):TT:=fun σ H Q=>t σ H fun c H1=>if c=true then Q true H1 else u σ H1 Q
noncomputable def Zno (t:TT):TT:=fun σ H Q=>t σ H fun c H1=>Q (!c) H1
theorem Zjd (ha:PT X a tA):PW X (.BoolOp .And [a] pos) tA:=by
  intro wh pins s σ H Q I h
  refine isTrue_and (thn (ha pins s σ H Q I h) fun c s1 e=>?_)
  cases c with
  | true=>exact isTrue_and_nil e
  | false=>exact e
theorem ZkC (ha:PT X a tA):PW X (.BoolOp .Or [a] pos) tA:=by
  intro wh pins s σ H Q I h
  refine isTrue_or (thn (ha pins s σ H Q I h) fun c s1 e=>?_)
  cases c with
  | false=>exact isTrue_or_nil e
  | true=>exact e
theorem ZkD (ha:PT X a tA) (hb:PW X (.BoolOp .And (b::rest) pos) tB'):PW X (.BoolOp .And (a::b::rest) pos) (Znw tA tB'):=by
  intro wh pins s σ H Q I h
  refine isTrue_and (thn (ha pins s σ H _ I h) fun c s1 zq=>?_)
  obtain ⟨H1,I1,q1⟩:=zq
  cases c with
  | true=>exact hb wh pins s1 σ H1 Q I1 q1
  | false=>exact ⟨H1,I1,q1⟩
theorem Zl8 (ha:PT X a tA) (hb:PW X (.BoolOp .Or (b::rest) pos) tB'):PW X (.BoolOp .Or (a::b::rest) pos) (tOr tA tB'):=by
  intro wh pins s σ H Q I h
  refine isTrue_or (thn (ha pins s σ H _ I h) fun c s1 zq=>?_)
  obtain ⟨H1,I1,q1⟩:=zq
  cases c with
  | true=>exact ⟨H1,I1,q1⟩
  | false=>exact hb wh pins s1 σ H1 Q I1 q1
theorem ZkF (ha:PT X a tA):PT X (.UnaryOp .Not a pos) (Zno tA):=by
  intro pins s σ H Q I h
  exact isTrue_not (ha pins s σ H (fun c H1=>Q (!c) H1) I h)
noncomputable def Zl5 (ta tb:TE):TE:=fun σ H Q=>ta σ H fun x H1=>∃ c,x=.bl c/\if c=true then tb σ H1 Q else Q (.bl false) H1
noncomputable def Znn (ta tb:TE):TE:=fun σ H Q=>ta σ H fun x H1=>∃ c,x=.bl c/\if c=true then Q (.bl true) H1 else tb σ H1 Q
noncomputable def ZlZ (ta:TE):TE:=fun σ H Q=>ta σ H fun x H1=>∃ c,x=.bl c/\Q (.bl (!c)) H1
theorem ZkP {op} {t:TE} (h:PE X a t):PE X (.BoolOp op [a] pos) t:=fun pins s σ H Q I hw=>BoolOp_one (h pins s σ H Q I hw)
theorem ZkV (ha:PE X a ta) (hb:PE X (.BoolOp .And (b::rest) pos) tb):PE X (.BoolOp .And (a::b::rest) pos) (Zl5 ta tb):=by
  intro pins s σ H Q I h
  refine BoolOp_and (thn (ha pins s σ H _ I h) fun v s1 zq=>?_)
  obtain ⟨x,H1,I1,r1,q1⟩:=zq
  obtain ⟨c,rfl,q1⟩:=q1
  cases r1
  refine wpAny_truthy_bool ?_
  cases c with
  | true=>exact hb pins s1 σ H1 Q I1 q1
  | false=>exact ⟨.bl false,H1,I1,rfl,q1⟩
theorem Zmb (ha:PE X a ta) (hb:PE X (.BoolOp .Or (b::rest) pos) tb):PE X (.BoolOp .Or (a::b::rest) pos) (Znn ta tb):=by
  intro pins s σ H Q I h
  refine BoolOp_or (thn (ha pins s σ H _ I h) fun v s1 zq=>?_)
  obtain ⟨x,H1,I1,r1,q1⟩:=zq
  obtain ⟨c,rfl,q1⟩:=q1
  cases r1
  refine wpAny_truthy_bool ?_
  cases c with
  | false=>exact hb pins s1 σ H1 Q I1 q1
  | true=>exact ⟨.bl true,H1,I1,rfl,q1⟩
theorem ZkQ (ha:PE X a ta):PE X (.UnaryOp .Not a pos) (ZlZ ta):=by
  intro pins s σ H Q I h
  refine UnaryOp_ (thn (ha pins s σ H _ I h) fun v s1 zq=>?_)
  obtain ⟨x,H1,I1,r1,q1⟩:=zq
  obtain ⟨c,rfl,q1⟩:=q1
  cases r1
  exact not_of (wpAny_truthy_bool ⟨.bl (!c),H1,I1,rfl,q1⟩)
end
noncomputable def SqL (K:PySem.W.Frag) (H:Hp) (a:Addr) (xs:List V):Prop:=
  Rd H a (.lst xs) \/
    ∃ (o:Obj) (its:Array Value) (n:Nat),K.lookup a=some o/\o.cls=.type "list"/\o.dict=none/\o.data=.seq its n/\its.size<=sizeLine/\Vals xs its.toList
noncomputable def SqT (K:PySem.W.Frag) (H:Hp) (a:Addr) (xs:List V):Prop:=
  Rd H a (.tup xs) \/
    ∃ (o:Obj) (its:Array Value) (n:Nat),K.lookup a=some o/\o.cls=.type "tuple"/\o.data=.seq its n/\its.size<=sizeLine/\Vals xs its.toList
noncomputable def Zn0:Value->Option V
  | .none=>some .non
  | .bool b=>some (.bl b)
  | .int i _=>some (.int i)
  | .str x _=>some (.str x)
  | .bytes b _=>some (.byt b)
  | .float b _=>some (.flt b)
  | .ref a=>some (.ref a)
  | .type n=>some (.ty n)
  | _=>none
theorem RelV.abs {x:V} {u:Value} (r:RelV x u):Zn0 u=some x:=by
  cases x with
  | non=>cases r; rfl
  | bl _=>cases r; rfl
  | int _=>obtain ⟨t,rfl⟩:=r; rfl
  | str _=>obtain ⟨t,rfl⟩:=r; rfl
  | byt _=>obtain ⟨t,rfl⟩:=r; rfl
  | flt _=>obtain ⟨t,rfl⟩:=r; rfl
  | ref _=>cases r; rfl
  | ty _=>cases r; rfl
theorem RelV.inj {x y:V} {u:Value} (r:RelV x u) (q:RelV y u):x=y:=Option.some.inj (r.abs.symm.trans q.abs)
theorem Vals.inj:∀ {xs ys:List V} {us:List Value},Vals xs us->Vals ys us->xs=ys
  | _,_,_,.nil,.nil=>rfl
  | _,_,_,.cons r t,.cons r' t'=>by rw [r.inj r',Vals.inj t t']
section
variable {X:Cx} {pins:List (Addr×Obj)} {σ:St} {H:Hp} {s:Shared} {a:Addr} {xs ys:List V}
theorem SqL.of {K:PySem.W.Frag} (h:H a=some (.lst xs)):SqL K H a xs:=.inl (.inl h)
theorem SqT.of {K:PySem.W.Frag} (h:H a=some (.tup xs)):SqT K H a xs:=.inl (.inl h)
theorem Inv.list (I:Inv X pins σ H s) (h:SqL X.K H a xs):∃ its:List Value,Vals xs its/\PlainL s.heap a its.toArray/\xs.length<=sizeLine:=by
  rcases h with h | ⟨o,its,n,hk,hc,hd,hs,hz,r⟩
  · obtain ⟨z,its,n,r,e⟩:=h.ok I.hok
    exact ⟨its,r,⟨_,n,e,rfl,rfl,rfl⟩,z⟩
  · refine ⟨its.toList,r,⟨o,n,I.kIn a o hk,hc,hd,by simpa using hs⟩,?_⟩
    have e:=r.length
    simp only [Array.length_toList] at e
    omega
theorem Inv.tuple (I:Inv X pins σ H s) (h:SqT X.K H a xs):∃ its:List Value,Vals xs its/\IsTup s.heap a its.toArray/\xs.length<=sizeLine:=by
  rcases h with h | ⟨o,its,n,hk,hc,hs,hz,r⟩
  · obtain ⟨z,its,r,p⟩:=h.ok I.hok
    exact ⟨its,r,p,z⟩
  · refine ⟨its.toList,r,⟨o,I.kIn a o hk,hc,n,by simpa using hs⟩,?_⟩
    have e:=r.length
    simp only [Array.length_toList] at e
    omega
theorem Inv.list_inj (I:Inv X pins σ H s) (h:SqL X.K H a xs) (h':SqL X.K H a ys):xs=ys:=by
  obtain ⟨its,r,⟨o,n,e,_,_,d⟩,_⟩:=I.list h
  obtain ⟨its',r',⟨o',n',e',_,_,d'⟩,_⟩:=I.list h'
  rw [e] at e'; cases e'
  rw [d] at d'
  injection d' with d1 _
  have:its=its':=by simpa using congrArg Array.toList d1
  subst this
  exact r.inj r'
theorem Inv.tuple_inj (I:Inv X pins σ H s) (h:SqT X.K H a xs) (h':SqT X.K H a ys):xs=ys:=by
  obtain ⟨its,r,⟨o,e,_,n,d⟩,_⟩:=I.tuple h
  obtain ⟨its',r',⟨o',e',_,n',d'⟩,_⟩:=I.tuple h'
  rw [e] at e'; cases e'
  rw [d] at d'
  injection d' with d1 _
  have:its=its':=by simpa using congrArg Array.toList d1
  subst this
  exact r.inj r'
end
noncomputable abbrev Cx.wish (X:Cx) (E:Value->Shared->Prop):Cx:={ X with xe:=E }
noncomputable abbrev Cx.nox (X:Cx):Cx:=X.wish fun _ _=>False
theorem Cx.Ok.wish {X:Cx} (ok:X.Ok) (E:Value->Shared->Prop):(X.wish E).Ok:=
  ⟨ok.mod,ok.kind,ok.glob,ok.blt,ok.above,ok.inj,ok.has,ok.cab,ok.hd,ok.frames,ok.stk,ok.exf,ok.bs,ok.bsz,ok.noex,ok.exfs,ok.funs,ok.frf⟩
theorem Cx.Ok.unwish {X:Cx} {E:Value->Shared->Prop} (ok:(X.wish E).Ok):X.Ok:=
  ⟨ok.mod,ok.kind,ok.glob,ok.blt,ok.above,ok.inj,ok.has,ok.cab,ok.hd,ok.frames,ok.stk,ok.exf,ok.bs,ok.bsz,ok.noex,ok.exfs,ok.funs,ok.frf⟩
section
variable {X:Cx} {pins:List (Addr×Obj)} {σ:St} {H:Hp} {s:Shared} {E:Value->Shared->Prop}
theorem Inv.wish (I:Inv X pins σ H s) (E:Value->Shared->Prop):Inv (X.wish E) pins σ H s:=⟨I.ok.wish E,I.os,I.bare,I.base,I.loc,I.cell,I.free,I.freeC,I.pin,I.hok,I.len⟩
theorem Inv.unwish (I:Inv (X.wish E) pins σ H s):Inv X pins σ H s:=⟨I.ok.unwish,I.os,I.bare,I.base,I.loc,I.cell,I.free,I.freeC,I.pin,I.hok,I.len⟩
theorem SP.unwish {D:ZiT} {f:Flow} {s':Shared} (h:SP (X.wish E) pins D f s'):SP X pins D f s':=by
  cases f with
  | next=>obtain ⟨σ',H',I,q⟩:=h; exact ⟨σ',H',I.unwish,q⟩
  | brk=>obtain ⟨σ',H',I,q⟩:=h; exact ⟨σ',H',I.unwish,q⟩
  | cont=>obtain ⟨σ',H',I,q⟩:=h; exact ⟨σ',H',I.unwish,q⟩
  | ret u=>obtain ⟨v,σ',H',I,r,q⟩:=h; exact ⟨v,σ',H',I.unwish,r,q⟩
theorem PSs.nox {st:List Stmt} {t:TS} (h:PSs X.nox st t):PSs X st t:=fun pins s σ H D I hw=>
  wpAny_mono (h pins s σ H D (I.wish _) hw) (fun _ _ q=>q.unwish) fun _ _ z=>False.elim z
end
section
variable {X:Cx} {st:Stmt} {rest:List Stmt} {t u:TS} {e:Expr} {te:TE} {pos:Pos}
noncomputable def Zl0:TS:=fun D σ H=>D.nx σ H
noncomputable def Znl (t u:TS):TS:=fun D σ H=>t { D with nx:=u D } σ H
theorem Zji:PSs X [] Zl0:=fun _ _ σ H _ I h=>wpAny_execs_nil ⟨σ,H,I,h⟩
theorem Zhx (h1:PS X st t) (h2:PSs X rest u):PSs X (st::rest) (Znl t u):=by
  intro pins s σ H D I h
  refine wpAny_execs_cons (thn (h1 pins s σ H { D with nx:=u D } I h) fun f s1 q=>?_)
  cases f with
  | next=>
    obtain ⟨σ',H',I',q⟩:=q
    exact h2 pins s1 σ' H' D I' q
  | ret v=>exact q
  | brk=>exact q
  | cont=>exact q
theorem Zjh (h1:PS X st t):PSs X [st] t:=by
  intro pins s σ H D I h
  refine wpAny_execs_cons (thn (h1 pins s σ H D I h) fun f s1 q=>?_)
  cases f with
  | next=>exact wpAny_execs_nil q
  | ret v=>exact q
  | brk=>exact q
  | cont=>exact q
theorem Inv.quiet {pins:List (Addr×Obj)} {σ:St} {H:Hp} {s:Shared} (I:Inv X pins σ H s):interactive X.env=false:=by simp [interactive,I.ok.kind]
noncomputable def Zl2 (te:TE):TS:=fun D σ H=>te σ H fun _ H1=>D.nx σ H1
theorem ZfP (he:PE X e te) (hs:swapsWith e none pos.line X.env=pure false:=by rfl):PS X (.Expr e pos) (Zl2 te):=by
  intro pins s σ H D I h
  exact wpAny_Expr_any (thn (he pins s σ H _ I h) fun v s1 ⟨x,H1,I1,r1,q1⟩=>⟨σ,H1,I1,q1⟩) I.quiet hs
noncomputable def Znm (te:TE):TS:=fun D σ H=>te σ H D.rt
theorem ZkH (he:PE X e te):PS X (.Return (some e) pos) (Znm te):=by
  intro pins s σ H D I h
  exact wpAny_Return_some (thn (he pins s σ H _ I h) fun v s1 ⟨x,H1,I1,r1,q1⟩=>⟨x,σ,H1,I1,r1,q1⟩)
noncomputable def Zns (c:TT) (t u:TS):TS:=fun D σ H=>c σ H fun b H1=>if b=true then t D σ H1 else u D σ H1
theorem Zma {c:Expr} {a b:List Stmt} {tc:TT} (hc:PT X c tc) (ha:PSs X a t) (hb:PSs X b u):PS X (.If c a b pos) (Zns tc t u):=by
  intro pins s σ H D I h
  refine wpAny_If (thn (hc pins s σ H _ I h) fun d s1 zq=>?_)
  obtain ⟨H1,I1,q1⟩:=zq
  cases d with
  | true=>exact ha pins s1 σ H1 D I1 q1
  | false=>exact hb pins s1 σ H1 D I1 q1
end
noncomputable abbrev TG:=V->St->Hp->(St->Hp->Prop)->Prop
noncomputable abbrev TGs:=List V->St->Hp->(St->Hp->Prop)->Prop
noncomputable def PG (X:Cx) (target:Expr) (t:TG):Prop:=
  ∀ (pins:List (Addr×Obj)) (s:Shared) (σ:St) (H:Hp) (v:V) (u:Value) (Q:St->Hp->Prop),Inv X pins σ H s->RelV v u->t v σ H Q ->
    wpAny (model X.prog X.w) X.A (assign target X.env u) (fun _ s'=>∃ σ' H',Inv X pins σ' H' s'/\Q σ' H') X.xe s
noncomputable def PGs (X:Cx) (ts:List Expr) (t:TGs):Prop:=
  ∀ (pins:List (Addr×Obj)) (s:Shared) (σ:St) (H:Hp) (vs:List V) (us:List Value) (Q:St->Hp->Prop),Inv X pins σ H s->Vals vs us->t vs σ H Q ->
    wpAny (model X.prog X.w) X.A (assignInOrder ((assignEach ts X.env).map (·.2)) us) (fun _ s'=>∃ σ' H',Inv X pins σ' H' s'/\Q σ' H') X.xe s
noncomputable abbrev TSet:=V->V->V->Hp->(Hp->Prop)->Prop
section
variable {X:Cx} {pos:Pos}
noncomputable def Zlx (i:Nat):TG:=fun v σ H Q=>Q (σ.set i (some v)) H
theorem Zc8 {i:Nat} {x:Str} (hN:X.N.Nodup) (hi:X.N[i]?=some x) (hx:Loc X.env.scope x) (hf:X.fn x=true\/X.env.scope.names.lookup x=some .local:=by first | exact .inl rfl | exact .inr rfl | assumption):PG X (.Name x pos) (Zlx i):=by
  intro pins s σ H v u Q I r h
  exact wpAny_assign_Name (Za6 I hN hi hx r (fun s' I'=>⟨_,H,I',h⟩) hf)
noncomputable def ZnT:TGs:=fun vs σ H Q=>vs=[]/\Q σ H
noncomputable def Zmw (t:TG) (u:TGs):TGs:=fun vs σ H Q=>∃ v r,vs=v::r/\t v σ H fun σ' H'=>u r σ' H' Q
theorem Zjo:PGs X [] ZnT:=by
  intro pins s σ H vs us Q I r h
  obtain ⟨e,h⟩:=h
  subst e
  cases r
  exact assignInOrder_nil ⟨σ,H,I,h⟩
theorem ZdV {e:Expr} {es:List Expr} {t:TG} {u:TGs} (h1:PG X e t) (h2:PGs X es u)
    (hs:(assignEach (e::es) X.env).map (·.2)=assign e X.env::(assignEach es X.env).map (·.2):=by rfl):PGs X (e::es) (Zmw t u):=by
  intro pins s σ H vs us Q I r h
  obtain ⟨v,vr,e1,h⟩:=h
  subst e1
  cases r with
  | cons r rr=>
    rw [hs]
    refine assignInOrder_cons (thn (h1 pins s σ H _ _ _ I r h) fun _ s1 zq=>?_)
    obtain ⟨σ1,H1,I1,q1⟩:=zq
    exact h2 pins s1 σ1 H1 _ _ Q I1 rr q1
noncomputable def ZnS (K:PySem.W.Frag) (n:Nat) (t:TGs):TG:=fun v σ H Q=>∃ a xs,v=.ref a/\SqT K H a xs/\xs.length=n/\t xs σ H Q
theorem ZkK {es:List Expr} {k:Nat} {t:TGs} {n:Nat} (hc:X.calm=true) (h:PGs X es t)
    (hn:(assignEach es X.env).length=n:=by rfl) (hst:(assignEach es X.env).findIdx? (·.1)=none:=by rfl):PG X (.Tuple es k pos) (ZnS X.K n t):=by
  intro pins s σ H v u Q I r hw
  obtain ⟨a,xs,e1,hq,hl,hw⟩:=hw
  subst e1
  cases r
  obtain ⟨its,rv,ht,hz⟩:=I.tuple hq
  refine assign_Tuple_tuple (I.ok.hd hc) ht (by simp [hn,<-hl,rv.length]) hst fun h' hx=>?_
  have I1:Inv X pins σ H { s with heap:=h' }:=I.kept (t':=s.toks) fun b o e=>hx b o (Nat.ne_of_lt (Heap.lt_size e)) e
  exact h pins _ σ H xs _ Q I1 (by simpa using rv) hw
noncomputable def Znv (te:TE) (g:TG):TS:=fun D σ H=>te σ H fun x H1=>g x σ H1 D.nx
theorem Zir {i:Nat} {x:Str} {e:Expr} {te:TE} {pos':Pos} (hN:X.N.Nodup) (hi:X.N[i]?=some x) (hx:Loc X.env.scope x) (he:PE X e te) (hs:swapsWith e (some (.Name x pos')) pos.line X.env=pure false:=by rfl) (hf:X.fn x=true\/X.env.scope.names.lookup x=some .local:=by first | exact .inl rfl | exact .inr rfl | assumption) :
    PS X (.Assign [.Name x pos'] e pos) (Znv te (Zlx i)):=by
  intro pins s σ H D I h
  refine wpAny_Assign_Name (thn (he pins s σ H _ I h) fun v s1 zq=>?_) hs
  obtain ⟨y,H1,I1,r1,q1⟩:=zq
  exact Za6 I1 hN hi hx r1 (fun s2 I2=>⟨_,H1,I2,q1⟩) hf
end
section
variable {X:Cx} {pos:Pos}
noncomputable def Zkk (c:TT) (tb:TS):TS:=fun D σ H=>∃ W:Nat->St->Hp->Prop,(∃ m,W m σ H)/\∀ m σ H,W m σ H ->
  c σ H fun b H1=>if b=true then ∃ N:St->Hp->Prop,(∀ σ' H',N σ' H'->∃ m',m' < m/\W m' σ' H')/\tb { D with nx:=N,ct:=N,bk:=D.nx } σ H1 else D.nx σ H1
theorem Zhy {c:Expr} {body:List Stmt} {tc:TT} {tb:TS} (hp:PassesOwn (model X.prog X.w) X.A X.env X.xe) (hc:PT X c tc) (hb:PSs X body tb):PS X (.While c body [] pos) (Zkk tc tb):=by
  intro pins s σ H D I h
  obtain ⟨W,⟨m0,w0⟩,turn⟩:=h
  refine wpAny_While (codeAny_whileLoop (fun n s'=>∃ σ' H',Inv X pins σ' H' s'/\W n σ' H') ?_ m0 ⟨σ,H,I,w0⟩)
  rintro n s1 ⟨σ1,H1,I1,w1⟩
  refine wpAny_passesOwn hp (thn (hc pins s1 σ1 H1 _ I1 (turn n σ1 H1 w1)) fun b s2 zq=>?_)
  obtain ⟨H2,I2,q2⟩:=zq
  cases b with
  | true=>
    obtain ⟨N,hN,q2⟩:=q2
    rw [if_pos rfl]
    refine wpAny_passesOwn hp (thn (hb pins s2 σ1 H2 _ I2 q2) fun f s3 q3=>?_)
    cases f with
    | next=>
      obtain ⟨σ3,H3,I3,n3⟩:=q3
      obtain ⟨m',hm,w3⟩:=hN σ3 H3 n3
      exact ⟨m',hm,σ3,H3,I3,w3⟩
    | cont=>
      obtain ⟨σ3,H3,I3,n3⟩:=q3
      obtain ⟨m',hm,w3⟩:=hN σ3 H3 n3
      exact ⟨m',hm,σ3,H3,I3,w3⟩
    | brk=>exact q3
    | ret v=>exact q3
  | false=>
    rw [if_neg Bool.false_ne_true]
    exact wpAny_execs_nil ⟨σ1,H2,I2,q2⟩
end
structure It where
  go:Nat->Hp->Prop
  yld:Nat->Hp->V->Hp->Prop
  stop:Nat->Hp->Prop
noncomputable def ZcW (X:Cx) (pins:List (Addr×Obj)) (H:Hp) (b:Addr):Prop:=
  H b=none/\b≠X.env.locals/\b ∉ X.fs/\(b∈X.ex\/X.s₀.heap.objs.size<=b)/\(∀ x c,X.env.cells.lookup x=some c->c≠b)/\∀ p∈X.pn++pins,p.1≠b
theorem Inv.fpOk {X:Cx} {pins:List (Addr×Obj)} {σ:St} {H H':Hp} {s:Shared} {b:Addr} (I:Inv X pins σ H s) (hb:s.heap.objs.size<=b) (hn:H' b=none):ZcW X pins H' b:=by
  refine ⟨hn,Nat.ne_of_gt (Nat.lt_of_lt_of_le I.lt hb),I.nofs hb,.inr (Nat.le_trans I.sz hb),fun x c e z=>?_,fun p hp z=>?_⟩
  · obtain ⟨v,q⟩:=I.cell x c e
    exact absurd (Nat.lt_of_lt_of_le q.lt (by rw [z]; exact hb)) (Nat.lt_irrefl _)
  · exact absurd (Nat.lt_of_lt_of_le (Heap.lt_size (I.pin p hp).1) (by rw [z]; exact hb)) (Nat.lt_irrefl _)
structure ZiN (P:Program) (w:World) (K:PySem.W.Frag) (tg:Expr) (J:It) (fp:List Addr) (it:Addr) (tn:Nat->Heap->Prop):Prop where
  mem:it∈fp
  obj:∀ i h,tn i h->∀ b∈fp,∃ o,h.get? b=some o/\∀ v,o.data≠.cell v
  keep:∀ i h h',tn i h->(∀ b∈fp,∀ o,h.get? b=some o->h'.get? b=some o)->tn i h'
  item:∀ (X:Cx),X.prog=P->X.w=w->X.K=K->X.calm=true->∀ (i:Nat) (pins:List (Addr×Obj)) (s:Shared) (σ:St) (H:Hp) (E:Value->Shared->Prop),Inv X pins σ H s->(∀ b∈fp,ZcW X pins H b)->tn i s.heap->J.go i H ->
    wpAny (model P w) X.A (pyNext (.ref it)) (fun r s1=>∃ u,r=some u /\
      wpAny (model P w) X.A (letOwnedTupleGo tg (.ref it) u) (fun _ s2=>∃ x H',Inv X pins σ H' s2/\RelV x u/\J.yld i H x H'/\tn (i+1) s2.heap/\∀ b∈fp,H' b=none) E s1) E s
  done:∀ (X:Cx),X.prog=P->X.w=w->X.K=K->X.calm=true->∀ (i:Nat) (pins:List (Addr×Obj)) (s:Shared) (σ:St) (H:Hp) (E:Value->Shared->Prop),Inv X pins σ H s->(∀ b∈fp,ZcW X pins H b)->tn i s.heap->J.stop i H ->
    wpAny (model P w) X.A (pyNext (.ref it)) (fun r s1=>r=none/\Inv X pins σ H s1) E s
  self:∀ (A:Around) (i:Nat) (s:Shared) (Q:Value->Shared->Prop) (E:Value->Shared->Prop),tn i s.heap->Q (.ref it) s->wpAny (model P w) A (pyIter (.ref it)) Q E s
noncomputable abbrev TI:=St->Hp->(It->Hp->Prop)->Prop
noncomputable def PIE (X:Cx) (pins:List (Addr×Obj)) (σ:St) (tg:Expr) (R:It->Hp->Prop) (itv:Value) (s2:Shared):Prop:=
  ∃ (it:Addr) (fp:List Addr) (tn:Nat->Heap->Prop) (J:It) (H':Hp),itv=.ref it/\Inv X pins σ H' s2/\ZiN X.prog X.w X.K tg J fp it tn/\tn 0 s2.heap/\(∀ b∈fp,ZcW X pins H' b)/\R J H'
noncomputable def PI (X:Cx) (tg iter:Expr) (wi:TI):Prop:=
  ∀ (pins:List (Addr×Obj)) (s:Shared) (σ:St) (H:Hp) (R:It->Hp->Prop),Inv X pins σ H s->wi σ H R ->
    wpAny (model X.prog X.w) X.A (eval iter X.env) (fun v s1=>wpAny (model X.prog X.w) X.A (pyIter v) (PIE X pins σ tg R) X.xe s1) X.xe s
theorem ZjS {M : Model} {A : Around} {E : Value -> Shared -> Prop} {s : Shared} {tg : Expr} {it : Addr} {u : Value} {o : Obj} {n : String} {vs : Array Value} {Q : Unit -> Shared -> Prop} (ho : s.heap.get? it = some o) (hc : o.cls = .type n) (hd : o.data = .fields vs)
    (hn : ["enumerate", "zip", "dict_itemiterator", "dict_reverseitemiterator", "odict_iterator", "itertools.zip_longest", "itertools.pairwise"].contains n = false) (hQ : Q () s) : wpAny M A (letOwnedTupleGo tg (.ref it) u) Q E s := by
  unfold letOwnedTupleGo
  cases tg <;> first
    | exact wpAny_pure hQ
    | (cases u <;> first
        | exact wpAny_pure hQ
        | (refine wpAny_bind (wpAny_load ho ?_)
           rw [hc, hd]
           show wpAny M A (if (["enumerate", "zip", "dict_itemiterator", "dict_reverseitemiterator", "odict_iterator", "itertools.zip_longest", "itertools.pairwise"].contains n && vs[0]? == some (rawInt _)) = true then _ else _) Q E s
           rw [if_neg (by intro h; rw [hn, Bool.false_and] at h; cases h)]
           exact wpAny_pure hQ))
noncomputable def Itl (K:PySem.W.Frag) (a:Addr):It:=
  ⟨fun i H=>∃ xs x,SqL K H a xs/\xs[i]?=some x,fun i H x H'=>H'=H/\∀ xs,SqL K H a xs->xs[i]?=some x,fun i H=>∃ xs,SqL K H a xs/\xs.length<=i⟩
noncomputable def Itt (K:PySem.W.Frag) (a:Addr):It:=
  ⟨fun i H=>∃ xs x,SqT K H a xs/\xs[i]?=some x,fun i H x H'=>H'=H/\∀ xs,SqT K H a xs->xs[i]?=some x,fun i H=>∃ xs,SqT K H a xs/\xs.length<=i⟩
noncomputable def Itr (lo:Int) (n:Nat):It:=⟨fun i _=>i < n,fun i H x H'=>H'=H/\x=.int (lo+i),fun i _=>n<=i⟩
theorem Zfe {P:Program} {w:World} {K:PySem.W.Frag} {tg:Expr} (a it:Addr):ZiN P w K tg (Itl K a) [it] it (fun i h=>h.IsListIter it a i) where
  mem:=by simp
  obj:=fun i h st b hb=>by
    have e:b=it:=by simpa using hb
    subst e
    obtain ⟨o,e,c,d⟩:=st
    exact ⟨o,e,fun v z=>by rw [d] at z; cases z⟩
  keep:=fun i h h' st k=>st.at fun o e=>k it (by simp) o e
  item:=by
    intro X hP hw hK hc i pins s σ H E I hf st hg
    subst hP hw hK
    obtain ⟨xs,x,hq,hx⟩:=hg
    obtain ⟨its,rv,p,hz⟩:=I.list hq
    obtain ⟨u,hu,ru⟩:=rv.get hx
    obtain ⟨f0,f1,f2,f3,f4,f5⟩:=hf it (by simp)
    refine wpAny_pyNext_list_item st p.isList (x:=u) (by simpa using hu) fun h' st' sb=>?_
    have I1:Inv X pins σ H { s with heap:=h' }:=I.turned (t':=s.toks) (fun b o hb e=>(sb.2 b hb).trans e) f0 f1 f3 f4 f5
    obtain ⟨o,e,c,d⟩:=id st'
    exact ⟨u,rfl,ZjS (s:={ s with heap:=h' }) e c d (by decide) ⟨x,H,I1,ru,⟨rfl,fun ys hy=>by rw [I.list_inj hy hq]; exact hx⟩,st',fun b hb=>(hf b hb).1⟩⟩
  done:=by
    intro X hP hw hK hc i pins s σ H E I hf st hg
    subst hP hw hK
    obtain ⟨xs,hq,hx⟩:=hg
    obtain ⟨its,rv,p,hz⟩:=I.list hq
    obtain ⟨f0,f1,f2,f3,f4,f5⟩:=hf it (by simp)
    have hl:=rv.length
    exact wpAny_pyNext_list_end (I.ok.hd hc) st p.isList (by simp; omega) fun h' eb=>⟨rfl,I.turned (t':=s.toks) (fun b o hb e=>eb b o hb e) f0 f1 f3 f4 f5⟩
  self:=fun _ _ _ _ _ st h=>wpAny_pyIter_listiter st h
theorem Zeh {P:Program} {w:World} {K:PySem.W.Frag} {tg:Expr} (a it:Addr):ZiN P w K tg (Itt K a) [it] it (fun i h=>h.IsTupleIter it a i) where
  mem:=by simp
  obj:=fun i h st b hb=>by
    have e:b=it:=by simpa using hb
    subst e
    obtain ⟨o,e,c,d⟩:=st
    exact ⟨o,e,fun v z=>by rw [d] at z; cases z⟩
  keep:=fun i h h' st k=>st.at fun o e=>k it (by simp) o e
  item:=by
    intro X hP hw hK hc i pins s σ H E I hf st hg
    subst hP hw hK
    obtain ⟨xs,x,hq,hx⟩:=hg
    obtain ⟨its,rv,p,hz⟩:=I.tuple hq
    obtain ⟨u,hu,ru⟩:=rv.get hx
    obtain ⟨f0,f1,f2,f3,f4,f5⟩:=hf it (by simp)
    refine wpAny_pyNext_tuple_item st (show s.heap.IsTuple a its.toArray from p) (x:=u) (by simpa using hu) fun h' st' sb=>?_
    have I1:Inv X pins σ H { s with heap:=h' }:=I.turned (t':=s.toks) (fun b o hb e=>(sb.2 b hb).trans e) f0 f1 f3 f4 f5
    obtain ⟨o,e,c,d⟩:=id st'
    exact ⟨u,rfl,ZjS (s:={ s with heap:=h' }) e c d (by decide) ⟨x,H,I1,ru,⟨rfl,fun ys hy=>by rw [I.tuple_inj hy hq]; exact hx⟩,st',fun b hb=>(hf b hb).1⟩⟩
  done:=by
    intro X hP hw hK hc i pins s σ H E I hf st hg
    subst hP hw hK
    obtain ⟨xs,hq,hx⟩:=hg
    obtain ⟨its,rv,p,hz⟩:=I.tuple hq
    obtain ⟨f0,f1,f2,f3,f4,f5⟩:=hf it (by simp)
    have hl:=rv.length
    exact wpAny_pyNext_tuple_end (I.ok.hd hc) st (show s.heap.IsTuple a its.toArray from p) (by simp; omega) fun h' eb=>⟨rfl,I.turned (t':=s.toks) (fun b o hb e=>eb b o hb e) f0 f1 f3 f4 f5⟩
  self:=fun _ _ _ _ _ st h=>wpAny_pyIter_tupleiter st h
theorem Zei {P:Program} {w:World} {K:PySem.W.Frag} {tg:Expr} (it:Addr) (lo:Int) (n:Nat):ZiN P w K tg (Itr lo n) [it] it (fun i h=>IsRangeIter h it (lo+(i:Nat)*1) ((n:Int)-(i:Nat)) 1) where
  mem:=by simp
  obj:=fun i h st b hb=>by
    have e:b=it:=by simpa using hb
    subst e
    exact ⟨_,st,fun v z=>by
      have z':Data.fields _=Data.cell v:=z
      cases z'⟩
  keep:=fun i h h' st k=>k it (by simp) _ st
  item:=by
    intro X hP hw hK hc i pins s σ H E I hf st hg
    subst hP hw hK
    obtain ⟨f0,f1,f2,f3,f4,f5⟩:=hf it (by simp)
    have W:=Walks.range (prog:=X.prog) (w:=X.w) (I.ok.hd hc) it lo 1 n
    refine W.item i s _ _ hg st fun v h' tk hv st' kk=>?_
    obtain ⟨t,rfl⟩:=hv
    have I1:Inv X pins σ H { s with heap:=h',toks:=tk }:=I.turned (fun b o hb e=>kk b o (by simpa using hb) e) f0 f1 f3 f4 f5
    refine ⟨_,rfl,ZjS (s:={ s with heap:=h',toks:=tk }) (n:="range_iterator") st' rfl rfl (by decide) ⟨.int (lo+i),H,I1,⟨t,?_⟩,⟨rfl,rfl⟩,st',fun b hb=>(hf b hb).1⟩⟩
    rw [Int.mul_one]
  done:=by
    intro X hP hw hK hc i pins s σ H E I hf st hg
    subst hP hw hK
    obtain ⟨f0,f1,f2,f3,f4,f5⟩:=hf it (by simp)
    exact wpAny_pyNext_range_end (I.ok.hd hc) st (by have:n<=i:=hg; omega) fun h' eb=>⟨rfl,I.turned (t':=s.toks) (fun b o hb e=>eb b o hb e) f0 f1 f3 f4 f5⟩
  self:=fun _ _ _ _ _ st h=>wpAny_pyIter_rangeiter st h
section
variable {X:Cx} {tg:Expr}
theorem ZdT {pins:List (Addr×Obj)} {σ:St} {H:Hp} {s:Shared} {R:It->Hp->Prop} {E:Value->Shared->Prop} {lo hi:Int} {t u v:Tok} {tk:Nat} (I:Inv X pins σ H s) (h1:-(2 ^ 62)<=lo) (h2:lo < 2 ^ 62) (h3:-(2 ^ 62)<=hi) (h4:hi < 2 ^ 62)
    (q:R (Itr lo (hi-lo).toNat) H):wpAny (model X.prog X.w) X.A (pyIter (.ref s.heap.objs.size)) (PIE X pins σ tg R) E { s with heap:=s.heap.push { cls:=.type "range",data:=.fields #[.int lo t,.int hi u,.int 1 v] },toks:=tk }:=by
  refine wpAny_pyIter_range (IsRange.new ..) (small_one h1 h2 h3 h4) ?_
  have I1:Inv X pins σ H { s with heap:=s.heap.push { cls:=.type "range",data:=.fields #[.int lo t,.int hi u,.int 1 v] },toks:=tk }:=I.kept fun b o e=>Heap.get?_push_of_some _ e
  refine ⟨(s.heap.push { cls:=.type "range",data:=.fields #[.int lo t,.int hi u,.int 1 v] }).objs.size,[(s.heap.push { cls:=.type "range",data:=.fields #[.int lo t,.int hi u,.int 1 v] }).objs.size],_,_,H,rfl,
    I1.kept (t':=tk) fun b o e=>Heap.get?_push_of_some _ e,Zei _ lo (hi-lo).toNat,?_,fun b hb=>?_,q⟩
  · have e1:lo+((0:Nat):Int)*1=lo:=by simp
    have e2:(((hi-lo).toNat:Nat):Int)-((0:Nat):Int)=Builtin.Range.rangeSize lo hi 1:=by rw [rangeSize_one]; split <;> omega
    show IsRangeIter _ _ (lo+((0:Nat):Int)*1) ((((hi-lo).toNat:Nat):Int)-((0:Nat):Int)) 1
    rw [e1,e2]
    exact Heap.get?_push_size _ rfl
  · have e:b=(s.heap.push { cls:=.type "range",data:=.fields #[.int lo t,.int hi u,.int 1 v] }).objs.size:=by simpa using hb
    subst e
    exact I1.fpOk (Nat.le_refl _) (I1.hok.fresh (Nat.le_refl _))
noncomputable def Zmu (ta:TA):TI:=fun σ H R=>ta σ H fun vs H1=>∃ j:Int,vs=[.int j]/\-(2 ^ 62)<=j/\j < 2 ^ 62/\R (Itr 0 j.toNat) H1
noncomputable def Zmt (ta:TA):TI:=fun σ H R=>ta σ H fun vs H1=>∃ i j:Int,vs=[.int i,.int j]/\(-(2 ^ 62)<=i/\i < 2 ^ 62/\-(2 ^ 62)<=j/\j < 2 ^ 62)/\R (Itr i (j-i).toNat) H1
theorem ZfX {a:Expr} {ta:TA} {p pos:Pos} (hg:Gl X "range") (hm:X.mg "range"=none) (ha:PA X [a] ta) (hs:starEach [a] X.env=[(false,eval a X.env)]:=by rfl):PI X tg (.Call (.Name "range" p) [a] [] pos) (Zmu ta):=by
  intro pins s σ H R I h
  refine Call_ (J0 I hg hm boot_range (PyProof.Rows.callWith_type1 (thn (ha pos pins s σ H _ I h) fun us s1 zq=>?_) hs rfl))
  obtain ⟨vs,H1,I1,r1,q1⟩:=zq
  obtain ⟨j,e,q1,q2,q⟩:=q1
  subst e
  cases r1 with
  | cons r rr=>
    cases rr
    obtain ⟨t,rfl⟩:=r
    exact call_range_1 (ZdT I1 (by omega) (by omega) q1 q2 (by simpa using q))
theorem ZfW {a b:Expr} {ta:TA} {p pos:Pos} (hg:Gl X "range") (hm:X.mg "range"=none) (ha:PA X [a,b] ta) (hs:starEach [a,b] X.env=[(false,eval a X.env),(false,eval b X.env)]:=by rfl) (hs2:starEach [b] X.env=[(false,eval b X.env)]:=by rfl) :
    PI X tg (.Call (.Name "range" p) [a,b] [] pos) (Zmt ta):=by
  intro pins s σ H R I h
  refine Call_ (J0 I hg hm boot_range (PyProof.Rows.callWith_type1 (thn (ha pos pins s σ H _ I h) fun us s1 zq=>?_) (by rw [hs,hs2]) (by rw [hs2]; rfl)))
  obtain ⟨vs,H1,I1,r1,q1⟩:=zq
  obtain ⟨i,j,e,⟨q1,q2,q3,q4⟩,q⟩:=q1
  subst e
  cases r1 with
  | cons r rr=>
    cases rr with
    | cons r' rr=>
      cases rr
      obtain ⟨t,rfl⟩:=r
      obtain ⟨t',rfl⟩:=r'
      exact call_range_2 (ZdT I1 q1 q2 q3 q4 q)
noncomputable def Znt (wi:TI) (g:TG) (tb:TS):TS:=fun D σ H=>wi σ H fun J H1=>∃ W:Nat->Nat->St->Hp->Prop,(∃ m,W 0 m σ H1)/\∀ i m σ H,W i m σ H ->
  (J.stop i H/\D.nx σ H)\/(J.go i H/\∃ N:St->Hp->Prop,(∀ σ' H',N σ' H'->∃ m',m' < m/\W (i+1) m' σ' H')/\∀ x H',J.yld i H x H'->g x σ H' fun σ2 H2=>tb { D with nx:=N,ct:=N,bk:=D.nx } σ2 H2)
noncomputable def Zb5 (fp:List Addr) (h:Heap):List (Addr×Obj):=fp.filterMap fun b=>(h.get? b).map fun o=>(b,o)
theorem Ur {fp:List Addr} {h:Heap} {b:Addr} {o:Obj} (hb:b∈fp) (e:h.get? b=some o):(b,o)∈Zb5 fp h:=List.mem_filterMap.mpr ⟨b,hb,by rw [e]; rfl⟩
theorem Zf5 {fp:List Addr} {h:Heap} {p:Addr×Obj} (hp:p∈Zb5 fp h):p.1∈fp/\h.get? p.1=some p.2:=by
  obtain ⟨b,hb,e⟩:=List.mem_filterMap.mp hp
  cases q:h.get? b with
  | none=>rw [q] at e; cases e
  | some o=>
    rw [q] at e
    have e':(b,o)=p:=Option.some.inj e
    subst e'
    exact ⟨hb,q⟩
theorem Inv.pinned {pins:List (Addr×Obj)} {σ:St} {H:Hp} {s:Shared} {fp:List Addr} (I:Inv X pins σ H s) (hf:∀ b∈fp,ZcW X pins H b) (ho:∀ b∈fp,∃ o,s.heap.get? b=some o/\∀ v,o.data≠.cell v):Inv X (pins++Zb5 fp s.heap) σ H s:=
  I.pins_of fun p hp=>(List.mem_append.mp hp).elim (fun z=>I.pin p (List.mem_append_right _ z)) fun z=>by
    obtain ⟨hb,e⟩:=Zf5 z
    obtain ⟨f0,f1,f2,_⟩:=hf p.1 hb
    obtain ⟨o,e',d⟩:=ho p.1 hb
    rw [e] at e'; cases e'
    exact ⟨e,f0,f1,f2,d⟩
theorem Inv.unpinned {pins pl:List (Addr×Obj)} {σ:St} {H:Hp} {s:Shared} (I:Inv X (pins++pl) σ H s):Inv X pins σ H s:=I.pins_of fun p hp=>I.pin p (List.mem_append_right _ (List.mem_append_left _ hp))
theorem ZkI {iter:Expr} {body:List Stmt} {wi:TI} {g:TG} {tb:TS} {pos:Pos} (hp:PassesOwn (model X.prog X.w) X.A X.env X.xe) (hc:X.calm=true) (hi:PI X tg iter wi) (hg:PG X tg g) (hb:PSs X body tb)
    (hs:∀ x,foldedSetIterable iter X.env x=pure x:=by intro _; rfl):PS X (.For tg iter body [] pos) (Znt wi g tb):=by
  intro pins s σ H D I h
  refine wpAny_For (thn (hi pins s σ H _ I h) fun v s1 h1=>thn h1 fun itv s2 h2=>?_) hs
  obtain ⟨it,fp,tn,J,H2,e,I2,T,st2,f2,W,⟨m0,w0⟩,turn⟩:=h2
  subst e
  have stat:∀ {H':Hp},(∀ b∈fp,H' b=none)->∀ b∈fp,ZcW X pins H' b:=fun hn b hb=>⟨hn b hb,(f2 b hb).2⟩
  refine codeAny_forLoop_any (fun n s'=>∃ i σ' H',Inv X pins σ' H' s'/\tn i s'.heap/\(∀ b∈fp,H' b=none)/\W i n σ' H') ?_ m0 ⟨0,σ,H2,I2,st2,fun b hb=>(f2 b hb).1,w0⟩
  rintro n s3 ⟨i,σ3,H3,I3,st3,fr3,w3⟩
  rcases turn i n σ3 H3 w3 with ⟨stop,qn⟩ | ⟨go,N,hN,step⟩
  · refine wpAny_passesOwn hp (thn (T.done X rfl rfl rfl hc i pins s3 σ3 H3 X.xe I3 (stat fr3) st3 stop) fun r s4 zq=>?_)
    obtain ⟨hr,I4⟩:=zq
    subst hr
    exact wpAny_execs_nil ⟨σ3,H3,I4,qn⟩
  · refine wpAny_passesOwn hp (thn (T.item X rfl rfl rfl hc i pins s3 σ3 H3 X.xe I3 (stat fr3) st3 go) fun r s4 zq=>?_)
    obtain ⟨u,hr,h4⟩:=zq
    subst hr
    refine wpAny_passesOwn hp (thn h4 fun _ s5 zq=>?_)
    obtain ⟨x,H5,I5,r5,y5,st5,fr5⟩:=zq
    have I5':=I5.pinned (stat fr5) (T.obj _ _ st5)
    refine wpAny_passesOwn hp (thn (hg _ s5 σ3 H5 x u _ I5' r5 (step x H5 y5)) fun _ s6 zq=>?_)
    obtain ⟨σ6,H6,I6,q6⟩:=zq
    refine wpAny_passesOwn hp (thn (hb _ s6 σ6 H6 _ I6 q6) fun f s7 q7=>?_)
    have again:∀ {σ7:St} {H7:Hp},Inv X (pins++Zb5 fp s5.heap) σ7 H7 s7->N σ7 H7->∃ m,m < n/\∃ i σ' H',Inv X pins σ' H' s7/\tn i s7.heap/\(∀ b∈fp,H' b=none)/\W i m σ' H':=fun {σ7 H7} I7 n7=>by
      obtain ⟨m',hm,w7⟩:=hN σ7 H7 n7
      refine ⟨m',hm,i+1,σ7,H7,I7.unpinned,T.keep _ _ _ st5 fun b hb o e=>(I7.pin (b,o) (List.mem_append_right _ (List.mem_append_right _ (Ur hb e)))).1,fun b hb=>?_,w7⟩
      obtain ⟨o,e,d⟩:=T.obj _ _ st5 b hb
      exact (I7.pin (b,o) (List.mem_append_right _ (List.mem_append_right _ (Ur hb e)))).2.1
    cases f with
    | next=>obtain ⟨σ7,H7,I7,n7⟩:=q7; exact again I7 n7
    | cont=>obtain ⟨σ7,H7,I7,n7⟩:=q7; exact again I7 n7
    | brk=>obtain ⟨σ7,H7,I7,q7⟩:=q7; exact ⟨σ7,H7,I7.unpinned,q7⟩
    | ret v=>obtain ⟨x7,σ7,H7,I7,r7,q7⟩:=q7; exact ⟨x7,σ7,H7,I7.unpinned,r7,q7⟩
end
noncomputable abbrev R2:=V->V->Hp->VK->Prop
noncomputable def OpR (X:Cx) (f:Value->Value->Sem Value) (r:R2):Prop:=
  ∀ (pins:List (Addr×Obj)) (s:Shared) (σ:St) (H:Hp) (x y:V) (v u:Value) (Q:VK),Inv X pins σ H s->RelV x v->RelV y u->r x y H Q ->
    wpAny (model X.prog X.w) X.A (f v u) (EP X pins σ Q) X.xe s
noncomputable def UnR (X:Cx) (f:Value->Sem Value) (r:V->Hp->VK->Prop):Prop:=
  ∀ (pins:List (Addr×Obj)) (s:Shared) (σ:St) (H:Hp) (x:V) (v:Value) (Q:VK),Inv X pins σ H s->RelV x v->r x H Q ->
    wpAny (model X.prog X.w) X.A (f v) (EP X pins σ Q) X.xe s
noncomputable def ZaF (X:Cx) (f:Value) (r:List V->Hp->VK->Prop):Prop:=
  ∀ (pins:List (Addr×Obj)) (s:Shared) (σ:St) (H:Hp) (xs:List V) (us:List Value) (Q:VK),Inv X pins σ H s->Vals xs us->r xs H Q ->
    wpAny (model X.prog X.w) X.A (call f us) (EP X pins σ Q) X.xe s
noncomputable def tOp (r:R2) (ta tb:TE):TE:=fun σ H Q=>ta σ H fun x H1=>tb σ H1 fun y H2=>r x y H2 Q
noncomputable def tUn (r:V->Hp->VK->Prop) (ta:TE):TE:=fun σ H Q=>ta σ H fun x H1=>r x H1 Q
noncomputable def rI (C:Int->Int->Prop) (g:Int->Int->V):R2:=fun x y H Q=>∃ i j,x=.int i/\y=.int j/\C i j/\Q (g i j) H
noncomputable def rI0 (g:Int->Int->V):R2:=fun x y H Q=>∃ i j,x=.int i/\y=.int j/\Q (g i j) H
noncomputable def rU (g:Int->V):V->Hp->VK->Prop:=fun x H Q=>∃ i,x=.int i/\Q (g i) H
section
variable {X:Cx} {a b c:Expr} {ta tb tc:TE} {pos:Pos}
theorem ZmL (ha:PE X a ta) (hb:PE X b tb) {pins:List (Addr×Obj)} {s:Shared} {σ:St} {H:Hp} {R:V->V->Hp->Prop} (I:Inv X pins σ H s)
    (h:ta σ H fun x H1=>tb σ H1 fun y H2=>R x y H2) {Q:Value->Shared->Prop} {f:Value->Value->Sem Value}
    (hf:∀ v u s2 x y H2,Inv X pins σ H2 s2->RelV x v->RelV y u->R x y H2->wpAny (model X.prog X.w) X.A (f v u) Q X.xe s2) :
    wpAny (model X.prog X.w) X.A (eval a X.env) (fun v s₁=>wpAny (model X.prog X.w) X.A (eval b X.env) (fun u s₂=>wpAny (model X.prog X.w) X.A (f v u) Q X.xe s₂) X.xe s₁) X.xe s:=by
  refine thn (ha pins s σ H _ I h) fun v s1 zq=>?_
  obtain ⟨x,H1,I1,r1,q1⟩:=zq
  refine thn (hb pins s1 σ H1 _ I1 q1) fun u s2 zq=>?_
  obtain ⟨y,H2,I2,r2,q2⟩:=zq
  exact hf v u s2 x y H2 I2 r1 r2 q2
theorem Zmc {op:Operator} {r:R2} (ho:OpR X (binaryOp op) r) (ha:PE X a ta) (hb:PE X b tb):PE X (.BinOp a op b pos) (tOp r ta tb):=by
  intro pins s σ H Q I h
  exact wpAny_BinOp (ZmL ha hb I h fun v u s2 x y H2 I2 rx ry q=>ho pins s2 σ H2 x y v u Q I2 rx ry q)
theorem ZkM {op:UnaryOp} {r:V->Hp->VK->Prop} (ho:UnR X (unaryOp op) r) (ha:PE X a ta):PE X (.UnaryOp op a pos) (tUn r ta):=by
  intro pins s σ H Q I h
  exact UnaryOp_ (thn (ha pins s σ H _ I h) fun v s1 ⟨x,H1,I1,r1,q1⟩=>ho pins s1 σ H1 x v Q I1 r1 q1)
theorem opI {f:Value->Value->Sem Value} {C:Int->Int->Prop} {g:Int->Int->Int}
    (rule:∀ (i j:Int) (t u:Tok) (s:Shared) (Q:Value->Shared->Prop) (E:Value->Shared->Prop),C i j->Q (.int (g i j) s.toks) { s with toks:=s.toks+1 }->wpAny (model X.prog X.w) X.A (f (.int i t) (.int j u)) Q E s) :
    OpR X f (rI C fun i j=>.int (g i j)):=by
  intro pins s σ H x y v u Q I rx ry h
  obtain ⟨i,j,rfl,rfl,hc,q⟩:=h
  obtain ⟨t,rfl⟩:=rx
  obtain ⟨t',rfl⟩:=ry
  exact rule i j t t' s _ _ hc ⟨.int (g i j),H,I.tok _,⟨_,rfl⟩,q⟩
theorem ZmY {f:Value->Value->Sem Value} {g:Int->Int->Int}
    (rule:∀ (i j:Int) (t u:Tok) (s:Shared) (Q:Value->Shared->Prop) (E:Value->Shared->Prop),Q (.int (g i j) s.toks) { s with toks:=s.toks+1 }->wpAny (model X.prog X.w) X.A (f (.int i t) (.int j u)) Q E s) :
    OpR X f (rI0 fun i j=>.int (g i j)):=by
  intro pins s σ H x y v u Q I rx ry h
  obtain ⟨i,j,rfl,rfl,q⟩:=h
  obtain ⟨t,rfl⟩:=rx
  obtain ⟨t',rfl⟩:=ry
  exact rule i j t t' s _ _ ⟨.int (g i j),H,I.tok _,⟨_,rfl⟩,q⟩
theorem ZlN {f:Value->Value->Sem Value} {g:Int->Int->Bool}
    (rule:∀ (i j:Int) (t u:Tok) (s:Shared) (Q:Value->Shared->Prop) (E:Value->Shared->Prop),Q (.bool (g i j)) s->wpAny (model X.prog X.w) X.A (f (.int i t) (.int j u)) Q E s) :
    OpR X f (rI0 fun i j=>.bl (g i j)):=by
  intro pins s σ H x y v u Q I rx ry h
  obtain ⟨i,j,rfl,rfl,q⟩:=h
  obtain ⟨t,rfl⟩:=rx
  obtain ⟨t',rfl⟩:=ry
  exact rule i j t t' s _ _ ⟨.bl (g i j),H,I,rfl,q⟩
noncomputable def Zn9 (i j:Int):Prop:=0 < j/\j < 1073741824
noncomputable def CMul (i j:Int):Prop:=(-(2 ^ 64) < i/\i < 2 ^ 64)\/(-(2 ^ 64) < j/\j < 2 ^ 64)
theorem CMul.ok {i j:Int} (h:CMul i j):IntMulOk i j:=by
  rcases h with ⟨h1,h2⟩ | ⟨h1,h2⟩
  · exact .of_left (intBits_le_64 h1 h2)
  · exact .of_right (intBits_le_64 h1 h2)
theorem Zk1:OpR X (binaryOp .Add) (rI0 fun i j=>.int (i+j)):=ZmY fun _ _ _ _ _ _ _ q=>add_int q
theorem ZkY:OpR X (binaryOp .Sub) (rI0 fun i j=>.int (i-j)):=ZmY fun _ _ _ _ _ _ _ q=>sub_int q
theorem ZkZ:OpR X (binaryOp .Mult) (rI CMul fun i j=>.int (i*j)):=opI fun _ _ _ _ _ _ _ hc q=>mul_int q hc.ok
theorem Zju:OpR X (binaryOp .FloorDiv) (rI Zn9 fun i j=>.int (i / j)):=opI fun i j _ _ _ _ _ hc q=>by
  have h1:(0:Int) < j:=hc.1
  have h2:j < 1073741824:=hc.2
  exact floordiv_int (by omega) (by rw [Int.fdiv_eq_ediv_of_nonneg i (by omega)]; exact q) (.inl (PyProof.noPylong_small (by omega)))
theorem Zk0:OpR X (binaryOp .Mod) (rI (fun _ j=>0 < j) fun i j=>.int (i % j)):=opI fun i j _ _ _ _ _ hc q=>by
  have h1:(0:Int) < j:=hc
  exact mod_int' (by omega) (by rw [Int.fmod_eq_emod_of_nonneg i (by omega)]; exact q)
theorem unI {f:Value->Sem Value} {g:Int->Int}
    (rule:∀ (i:Int) (t:Tok) (s:Shared) (Q:Value->Shared->Prop) (E:Value->Shared->Prop),Q (.int (g i) s.toks) { s with toks:=s.toks+1 }->wpAny (model X.prog X.w) X.A (f (.int i t)) Q E s) :
    UnR X f (rU fun i=>.int (g i)):=by
  intro pins s σ H x v Q I rx h
  obtain ⟨i,rfl,q⟩:=h
  obtain ⟨t,rfl⟩:=rx
  exact rule i t s _ _ ⟨.int (g i),H,I.tok _,⟨_,rfl⟩,q⟩
theorem Zij:UnR X (unaryOp .USub) (rU fun i=>.int (-i)):=unI fun _ _ _ _ _ q=>neg_int q
end
section
variable {X:Cx} {a b c:Expr} {ta tb tc:TE} {pos:Pos}
theorem Zmg:OpR X (compareOp .Lt) (rI0 fun i j=>.bl (decide (i < j))):=ZlN fun _ _ _ _ _ _ _ q=>lt_int q
theorem Zmh:OpR X (compareOp .LtE) (rI0 fun i j=>.bl (decide (i<=j))):=ZlN fun _ _ _ _ _ _ _ q=>le_int q
theorem Zmi:OpR X (compareOp .Gt) (rI0 fun i j=>.bl (decide (j < i))):=ZlN fun _ _ _ _ _ _ _ q=>gt_int q
theorem Zmj:OpR X (compareOp .GtE) (rI0 fun i j=>.bl (decide (j<=i))):=ZlN fun _ _ _ _ _ _ _ q=>ge_int q
theorem ZK (b:Expr) {op:CmpOp} (h:op≠.In:=by decide) (h2:op≠.NotIn:=by decide):behindInMarks op b=false:=by
  have e1:(op==CmpOp.In)=false:=by cases op <;> first | rfl | exact absurd rfl h
  have e2:(op==CmpOp.NotIn)=false:=by cases op <;> first | rfl | exact absurd rfl h2
  cases b <;> simp [behindInMarks,e1,e2]
theorem Zjs {op:CmpOp} {r:R2} (ho:OpR X (compareOp op) r) (ha:PE X a ta) (hb:PE X b tb) (hm:behindInMarks op b=false):PE X (.Compare a [op] [b] pos) (tOp r ta tb):=by
  intro pins s σ H Q I h
  exact wpAny_Compare1 (ZmL ha hb I h fun v u s2 x y H2 I2 rx ry q=>ho pins s2 σ H2 x y v u Q I2 rx ry q) hm
noncomputable def Zkm (t:TE):TT:=fun σ H Q=>t σ H fun x H'=>∃ k,x=.bl k/\Q k H'
theorem Zjg {op:CmpOp} {r:R2} (ho:OpR X (compareOp op) r) (ha:PE X a ta) (hb:PE X b tb) (hm:behindInMarks op b=false):PT X (.Compare a [op] [b] pos) (Zkm (tOp r ta tb)):=by
  intro pins s σ H Q I h
  refine wpAny_isTrue_Compare1 (thn (ha pins s σ H _ I h) fun v s1 ⟨x,H1,I1,r1,q1⟩=>thn (hb pins s1 σ H1 _ I1 q1) fun u s2 ⟨y,H2,I2,r2,q2⟩=>
    thn (ho pins s2 σ H2 x y v u _ I2 r1 r2 q2) fun c s3 ⟨z,H3,I3,r3,k,e,q3⟩=>?_) hm
  subst e
  cases r3
  exact wpAny_truthy_bool ⟨H3,I3,q3⟩
noncomputable def Zfk (r r':R2) (ta tb tc:TE):TE:=fun σ H Q=>ta σ H fun x H1=>tb σ H1 fun y H2=>r x y H2 fun z H3=>∃ k,z=.bl k /\
  (if k=true then tc σ H3 fun w' H4=>r' y w' H4 Q else Q (.bl false) H3)
theorem ZhD {op op':CmpOp} {r r':R2} (ho:OpR X (compareOp op) r) (ho':OpR X (compareOp op') r') (ha:PE X a ta) (hb:PE X b tb) (hc:PE X c tc)
    (hm:lastMarks [op,op'] [b,c]=false:=by with_unfolding_all rfl):PE X (.Compare a [op,op'] [b,c] pos) (Zfk r r' ta tb tc):=by
  intro pins s σ H Q I h
  refine Compare_chain (thn (ha pins s σ H _ I h) fun v s1 ⟨x,H1,I1,r1,q1⟩=>chain_link (thn (hb pins s1 σ H1 _ I1 q1) fun u s2 ⟨y,H2,I2,r2,q2⟩=>
    thn (ho pins s2 σ H2 x y v u _ I2 r1 r2 q2) fun d s3 ⟨z,H3,I3,r3,k,e,q3⟩=>?_)) hm
  subst e
  cases r3
  refine wpAny_truthy_bool ?_
  cases k with
  | false=>exact ite_ff ⟨.bl false,H3,I3,rfl,q3⟩
  | true=>exact ite_tt (chain_last (thn (hc pins s3 σ H3 _ I3 q3) fun w' s4 ⟨z',H4,I4,r4,q4⟩=>ho' pins s4 σ H4 y z' u w' Q I4 r2 r4 q4))
theorem Zhw {op op':CmpOp} {r r':R2} (ho:OpR X (compareOp op) r) (ho':OpR X (compareOp op') r') (ha:PE X a ta) (hb:PE X b tb) (hc:PE X c tc)
    (hm:lastMarks [op,op'] [b,c]=false:=by with_unfolding_all rfl):PT X (.Compare a [op,op'] [b,c] pos) (Zkm (Zfk r r' ta tb tc)):=by
  intro pins s σ H Q I h
  refine isTrue_chain (thn (ha pins s σ H _ I h) fun v s1 ⟨x,H1,I1,r1,q1⟩=>test_link (thn (hb pins s1 σ H1 _ I1 q1) fun u s2 ⟨y,H2,I2,r2,q2⟩=>
    thn (ho pins s2 σ H2 x y v u _ I2 r1 r2 q2) fun d s3 ⟨z,H3,I3,r3,k,e,q3⟩=>?_)) hm
  subst e
  cases r3
  refine wpAny_truthy_bool ?_
  cases k with
  | false=>
    obtain ⟨k',e',q'⟩:=q3
    cases e'
    exact ite_ff ⟨H3,I3,q'⟩
  | true=>
    refine ite_tt (test_last (thn (hc pins s3 σ H3 _ I3 q3) fun w' s4 ⟨z',H4,I4,r4,q4⟩=>thn (ho' pins s4 σ H4 y z' u w' _ I4 r2 r4 q4) fun d' s5 zq=>?_))
    obtain ⟨z2,H5,I5,r5,k2,e2,q5⟩:=zq
    subst e2
    cases r5
    exact wpAny_truthy_bool ⟨H5,I5,q5⟩
theorem Zch:(sizeLine:Nat) < 2 ^ 63:=by rw [sizeLine_eq]; decide
theorem Zew:OpR X (binaryOp .Add) (fun x y H Q=>∃ i j,x=.str i/\y=.str j/\i.length+j.length<=sizeLine/\Q (.str (i++j)) H):=by
  intro pins s σ H x y v u Q I rx ry h
  obtain ⟨i,j,rfl,rfl,hz,q⟩:=h
  obtain ⟨t,rfl⟩:=rx
  obtain ⟨t',rfl⟩:=ry
  exact add_str (fun t' tk=>⟨.str (i++j),H,I.tok _,⟨_,rfl⟩,q⟩) hz
theorem ZcX {x:V} {us:List Value} (r:Vals [x] us):∃ u,us=[u]/\RelV x u:=by
  cases r with
  | cons r1 r2=>cases r2; exact ⟨_,rfl,r1⟩
theorem Zkg {x y:V} {us:List Value} (r:Vals [x,y] us):∃ u w',us=[u,w']/\RelV x u/\RelV y w':=by
  cases r with
  | cons r1 r2=>
    cases r2 with
    | cons r3 r4=>cases r4; exact ⟨_,_,rfl,r1,r3⟩
theorem ZgU (hc:X.calm=true):ZaF X (.builtin "max") (fun xs H Q=>∃ i j,xs=[.int i,.int j]/\Q (.int (if j > i then j else i)) H):=by
  intro pins s σ H xs us Q I r h
  obtain ⟨i,j,rfl,q⟩:=h
  obtain ⟨u,w',rfl,⟨t,rfl⟩,⟨t',rfl⟩⟩:=Zkg r
  refine max_two_ints (I.ok.hd hc) fun h' tk k=>⟨_,H,I.kept k,?_,q⟩
  by_cases hj:j > i
  · rw [if_pos hj,if_pos hj]; exact ⟨_,rfl⟩
  · rw [if_neg hj,if_neg hj]; exact ⟨_,rfl⟩
theorem ZgT (hc:X.calm=true):ZaF X (.builtin "min") (fun xs H Q=>∃ i j,xs=[.int i,.int j]/\Q (.int (if j < i then j else i)) H):=by
  intro pins s σ H xs us Q I r h
  obtain ⟨i,j,rfl,q⟩:=h
  obtain ⟨u,w',rfl,⟨t,rfl⟩,⟨t',rfl⟩⟩:=Zkg r
  refine min_two_ints (I.ok.hd hc) fun h' tk k=>⟨_,H,I.kept k,?_,q⟩
  by_cases hj:j < i
  · rw [if_pos hj,if_pos hj]; exact ⟨_,rfl⟩
  · rw [if_neg hj,if_neg hj]; exact ⟨_,rfl⟩
theorem Zcw:ZaF X (.type "str") (fun xs H Q=>∃ i,xs=[.int i]/\i.natAbs.log2 < 1920/\Q (.str (toString i)) H):=by
  intro pins s σ H xs us Q I r h
  obtain ⟨i,rfl,hz,q⟩:=h
  obtain ⟨u,rfl,t,rfl⟩:=ZcX r
  exact PySem.P.str_of_int hz ⟨.str _,H,I.tok _,⟨_,rfl⟩,q⟩
end
structure ObjM (h:Heap) (x dx C:Addr) (mA:Str->Option Value):Prop where
  obj:h.get? x=some (PySem.W.instObj C dx)
  ns:h.Ns1 dx mA
  ne:dx≠x
theorem Zgh {h:Heap} {dx:Addr} {mA:Str->Option Value} (n:h.Ns1 dx mA):∃ od,h.get? dx=some od/\∀ name,PySem.W.lookIn name od=some (mA name):=by
  obtain ⟨o,es,ep,ho,hd,hk,_,hm⟩:=n
  refine ⟨o,ho,fun name=>?_⟩
  have e:=hm name
  unfold nsFind findBy at e
  rw [<-Array.find?_toList] at e
  unfold PySem.W.lookIn
  rw [hd]
  dsimp only
  split
  · rename_i y q
    rw [q] at e
    exact congrArg some e
  · rename_i q
    rw [q] at e
    have a:es.toList.any (·.refKey)=false:=by
      rw [List.any_eq_false]
      intro y hy
      obtain ⟨z,t,hkey⟩:=hk y (Array.mem_toList_iff.mp hy)
      simp [DictEntry.refKey,hkey]
    have a':¬ es.toList.any (·.refKey)=true:=by rw [a]; exact Bool.false_ne_true
    rw [if_neg a']
    exact congrArg some e
theorem ObjM.look {h:Heap} {x dx C:Addr} {mA:Str->Option Value} (I:ObjM h x dx C mA):∃ od,PySem.W.InstAt h x (PySem.W.instObj C dx) C (some od)/\∀ name,PySem.W.lookIn name od=some (mA name):=
  let ⟨od,ho,hl⟩:=Zgh I.ns
  ⟨od,⟨I.obj,rfl,rfl,ho⟩,hl⟩
section
variable {prog:Program} {w:World} {A:Around} {E:Value->Shared->Prop} {s:Shared} {K:PySem.W.Frag} {x dx C f:Addr} {mA:Str->Option Value} {name:Str} {v:Value}
end
section
variable {P:Program} {w:World} {H H':Hp} {h h':Heap} {a C dx:Addr} {fs fs':List (Str×V)}
theorem ZjL (hok:HOk P w H h) (e:H a=some (.ins C dx fs)):∃ mA,ObjM h a dx C mA/\(∀ f,ZmO (fs.lookup f) (mA f))/\PySem.Within mA (fs.map (·.1))/\fs.length<=1000/\H dx=some (.own a):=by
  obtain ⟨d,z,ne,ob,mA,n,r,q⟩:=(show ObjOk P w H h a (.ins C dx fs) from hok a _ e)
  exact ⟨mA,⟨ob,n,ne⟩,r,q,z,d⟩
end
structure Cls (K:PySem.W.Frag) (C:Addr):Prop where
  pg:PySem.W.plainGet K C Str.empty=true
  hd:PySem.W.hasDictIn K C=true
  po:PySem.W.plainOver K C=true
  sa:PySem.W.findIn K (.ref C) "__setattr__"=some (some (.builtin "object.__setattr__"))
theorem Cls.get {K:PySem.W.Frag} {C:Addr} (c:Cls K C) (f:Str):PySem.W.plainGet K C f=true:=c.pg
section
variable {X:Cx} {pins:List (Addr×Obj)} {σ:St} {H:Hp} {s:Shared} {a C dx:Addr} {fs:List (Str×V)} {f:Str} {v:V} {A:Around} {E:Value->Shared->Prop}
end
section
variable {X:Cx} {o e value:Expr} {f:Str} {pos pos' tpos:Pos} {ta tv:TE}
end
section
variable {X:Cx} {pins:List (Addr×Obj)} {σ:St} {H:Hp} {s:Shared} {A:Around} {E:Value->Shared->Prop} {Q:Value->Shared->Prop} {c:Value} {b:Bool}
inductive Ze9 (K:PySem.W.Frag) (H:Hp):V->Value->Prop where
  | non:Ze9 K H .non (.type "NoneType")
  | bl (x:Bool):Ze9 K H (.bl x) (.type "bool")
  | int (i:Int):Ze9 K H (.int i) (.type "int")
  | str (x:Str):Ze9 K H (.str x) (.type "str")
  | flt (x:UInt64):Ze9 K H (.flt x) (.type "float")
  | lst {a:Addr} {xs:List V} (e:H a=some (.lst xs)):Ze9 K H (.ref a) (.type "list")
  | frz {a:Addr} {o:Obj} {xs:List V} (e:H a=some (.frz o (.lst xs))):Ze9 K H (.ref a) (.type "list")
  | tup {a:Addr} {xs:List V} (e:H a=some (.tup xs)):Ze9 K H (.ref a) (.type "tuple")
  | dK {a:Addr} {kvs:List (Key×V)} (e:H a=some (.dK kvs)):Ze9 K H (.ref a) (.type "dict")
  | dT {a:Addr} {kvs:List (List Key×V)} (e:H a=some (.dT kvs)):Ze9 K H (.ref a) (.type "dict")
  | ins {a C dx:Addr} {fs:List (Str×V)} (e:H a=some (.ins C dx fs)) (cl:Cls K C) (ha:PySem.W.findIn K (.ref C) "__class__"=some (some (.builtin "object.__class__")))
      (hn:PySem.W.specialIn K (.builtin "object.__class__") "__get__"=some (some (.builtin "getset_descriptor.__get__"))) (htk:PySem.W.takesIn K (.builtin "object.__class__")=some true)
      (hm:PySem.W.mroIn K C (.type "object")=some true):Ze9 K H (.ref a) (.ref C)
theorem Vh {x:V} {u t:Value} (I:Inv X pins σ H s) (rx:RelV x u) (ty:Ze9 X.K H x t) (e:PySem.W.kitOne X.K t c=some b) (h:∀ tk,Q (.bool b) { s with toks:=tk }) :
    wpAny (model X.prog X.w) A (call (.builtin "isinstance") [u,c]) Q E s:=by
  cases ty with
  | non=>cases (show u=Value.none from rx); exact PySem.W.kia_one PySem.W.kitx_none I.kIn True.intro e (fun z=>nomatch z) h
  | bl y=>cases (show u=Value.bool y from rx); exact PySem.W.kia_one PySem.W.kitx_bool I.kIn True.intro e (fun z=>nomatch z) h
  | int i=>obtain ⟨t,q⟩:=(show ∃ t,u=Value.int i t from rx); cases q; exact PySem.W.kia_one PySem.W.kitx_int I.kIn True.intro e (fun z=>nomatch z) h
  | str y=>obtain ⟨t,q⟩:=(show ∃ t,u=Value.str y t from rx); cases q; exact PySem.W.kia_one PySem.W.kitx_str I.kIn True.intro e (fun z=>nomatch z) h
  | flt y=>obtain ⟨t,q⟩:=(show ∃ t,u=Value.float y t from rx); cases q; exact PySem.W.kia_one PySem.W.kitx_float I.kIn True.intro e (fun z=>nomatch z) h
  | @lst a xs ea=>
    cases (show u=Value.ref a from rx)
    obtain ⟨_,_,n,_,h1⟩:=(show ObjOk X.prog X.w H s.heap a (.lst xs) from I.hok a _ ea)
    exact PySem.W.kia_one PySem.W.kitx_list I.kIn ⟨_,h1,rfl⟩ e (fun z=>nomatch z) h
  | @frz a ob xs ea=>
    cases (show u=Value.ref a from rx)
    obtain ⟨_,_,_,n,_,h1⟩:=(show ObjOk X.prog X.w H s.heap a (.frz ob (.lst xs)) from I.hok a _ ea)
    exact PySem.W.kia_one PySem.W.kitx_list I.kIn ⟨_,h1,rfl⟩ e (fun z=>nomatch z) h
  | @tup a xs ea=>
    cases (show u=Value.ref a from rx)
    obtain ⟨_,_,_,p⟩:=(show ObjOk X.prog X.w H s.heap a (.tup xs) from I.hok a _ ea)
    obtain ⟨o,h1,h2,_⟩:=p
    exact PySem.W.kia_one PySem.W.kitx_tuple I.kIn ⟨o,h1,h2⟩ e (fun z=>nomatch z) h
  | @dK a kvs ea=>
    cases (show u=Value.ref a from rx)
    obtain ⟨_,_,vs,_,p⟩:=(show ObjOk X.prog X.w H s.heap a (.dK kvs) from I.hok a _ ea)
    obtain ⟨o,es,ep,h1,h2,_⟩:=p
    exact PySem.W.kia_one PySem.W.kitx_dict I.kIn ⟨o,h1,h2.1⟩ e (fun z=>nomatch z) h
  | @dT a kvs ea=>
    cases (show u=Value.ref a from rx)
    obtain ⟨_,_,xs,_,o,es,ep,h1,h2,_⟩:=(show ObjOk X.prog X.w H s.heap a (.dT kvs) from I.hok a _ ea)
    exact PySem.W.kia_one PySem.W.kitx_dict I.kIn ⟨o,h1,h2.1⟩ e (fun z=>nomatch z) h
  | @ins a C dx fs ea cl ha hn htk hm=>
    cases (show u=Value.ref a from rx)
    obtain ⟨mA,O,_⟩:=ZjL I.hok ea
    obtain ⟨od,J,_⟩:=O.look
    exact PySem.W.kia_one (PySem.W.kitx_own (cl.get _) cl.hd ha hn htk hm) I.kIn J e (fun z=>nomatch z) h
end
structure Room (k:Nat) (A:Around):Prop where
  hd:A.handled=none
  dp:A.depth+3*k+5 < recursionLimit
  un:A.units+16*k+200 < cLine
theorem Room.mono {j k:Nat} {A:Around} (r:Room k A) (h:j<=k):Room j A:=⟨r.hd,by have:=r.dp; omega,by have:=r.un; omega⟩
theorem Room.deeper {k:Nat} {A:Around} (r:Room (k+1) A) (env:Env):Room k (A.deeper env):=
  ⟨r.hd,by have:=r.dp; show A.depth+1+3*k+5 < _; omega,by have:=r.un; show A.units+3+16*k+200 < _; omega⟩
theorem Room.depth {k:Nat} {A:Around} (r:Room k A):A.depth < recursionLimit:=by have:=r.dp; omega
theorem Room.units {k:Nat} {A:Around} (r:Room k A):A.units+64 < cLine:=by have:=r.un; omega
noncomputable def Znp:TA:=fun _ H Q=>Q [] H
noncomputable def Zl3 (ta:TE) (tr:TA):TA:=fun σ H Q=>ta σ H fun x H1=>tr σ H1 fun xs H2=>Q (x::xs) H2
section
variable {X:Cx} {e:Expr} {es:List Expr} {te:TE} {t:TA} {pos:Pos}
theorem Zit:PA X [] Znp:=fun _ _ _ _ H Q I h=>Calls.spliced_nil ⟨[],H,I,.nil,h⟩
theorem Zf1 (ha:PE X e te) (hr:PA X es t) (hs:starEach (e::es) X.env=(false,eval e X.env)::starEach es X.env:=by rfl):PA X (e::es) (Zl3 te t):=by
  intro pos pins s σ H Q I h
  rw [hs]
  show wpAny _ _ (spliced ((false,eval e X.env)::backTo pos (starEach es X.env))) _ _ s
  refine Calls.spliced_cons (thn (ha pins s σ H _ I h) fun u s1 zq=>?_)
  obtain ⟨x,H1,I1,r1,q1⟩:=zq
  exact thn (hr pos pins s1 σ H1 _ I1 q1) fun us s2 ⟨xs,H2,I2,r2,q2⟩=>⟨x::xs,H2,I2,.cons r1 r2,q2⟩
noncomputable def Znk (t:TA):TE:=fun σ H Q=>t σ H fun xs H1=>xs.length<=sizeLine/\∀ p,H1 p=none->Q (.ref p) (upd H1 p (.tup xs))
noncomputable def Znq (t:TA):TE:=fun σ H Q=>t σ H fun xs H1=>xs.length<=sizeLine/\∀ p,H1 p=none->Q (.ref p) (upd H1 p (.lst xs))
theorem ZkN {x1} (h:PA X es t):PE X (.Tuple es x1 pos) (Znk t):=by
  intro pins s σ H Q I hq
  refine wpAny_Tuple_spliced (thn (h pos pins s σ H _ I hq) fun us s1 ⟨xs,H1,I1,r,z,q⟩=>⟨by rw [<-r.length]; exact z,?_⟩)
  have hf:H1 s1.heap.objs.size=none:=I1.hok.fresh (Nat.le_refl _)
  refine ⟨.ref s1.heap.objs.size,upd H1 s1.heap.objs.size (.tup xs),I1.laid (t':=s1.toks) (fun b u e=>Heap.get?_push_of_some _ e) (Nat.le_refl _) ?_,rfl,q _ hf⟩
  exact ⟨z,us,r,⟨_,Heap.get?_push_size _ rfl,rfl,_,rfl⟩⟩
theorem ZkS (h:PA X es t):PE X (.List es pos) (Znq t):=by
  intro pins s σ H Q I hq
  refine wpAny_List_spliced (thn (h pos pins s σ H _ I hq) fun us s1 ⟨xs,H1,I1,r,z,q⟩=>⟨by rw [<-r.length]; exact z,?_⟩)
  have hf:H1 s1.heap.objs.size=none:=I1.hok.fresh (Nat.le_refl _)
  refine ⟨.ref s1.heap.objs.size,upd H1 s1.heap.objs.size (.lst xs),I1.laid (t':=s1.toks) (fun b u e=>Heap.get?_push_of_some _ e) (Nat.le_refl _) ?_,rfl,q _ hf⟩
  exact ⟨z,us,0,r,Heap.get?_push_size _ rfl⟩
end
noncomputable abbrev Sp:=List V->Hp->VK->XK->Prop
noncomputable abbrev CXT:=List Env->Hp->Shared->XK->Value->Shared->Prop
structure ZlU (P:Program) (w:World) (K:PySem.W.Frag) (mg:Str->Option Value) (base:Heap) (A:Around) (outer:List Env) (s:Shared) (H:Hp):Prop where
  frames:A.frames=some outer
  mod:Mod K mg base
  bs:∀ b o,base.get? b=some o->s.heap.get? b=some o/\H b=none
  bsz:base.objs.size<=s.heap.objs.size
  funs:s.heap.FunFrames base outer
  frf:∀ b∈frs outer,H b=none
  hok:HOk P w H s.heap
  bare:AllBare s.gens
noncomputable def CE (outer:List Env) (P:Program) (w:World) (H:Hp) (s:Shared) (Q:VK) (u:Value) (s':Shared):Prop:=
  ∃ v H',s'.os=s.os/\AllBare s'.gens/\Un (frs outer) [] H H' s.heap s'.heap/\HOk P w H' s'.heap/\RelV v u/\Q v H'
noncomputable def CR (CX:CXT) (outer:List Env) (P:Program) (w:World) (H:Hp) (s:Shared) (Q:VK) (E:XK) (r:Result) (s':Shared):Prop:=
  match r with
  | .ok (.ret u)=>CE outer P w H s Q u s'
  | .ok _=>False
  | .error e=>CX outer H s E e s'
structure Zif (P:Program) (w:World) (K:PySem.W.Frag) (mg:Str->Option Value) (base:Heap) (CX:CXT) (k:Nat) (f:Addr) (fd:FuncData) (ps:List Str) (sp:Sp):Prop where
  len:∀ vs H Q E,sp vs H Q E->vs.length=ps.length
  run:∀ (A:Around) (outer:List Env) (s:Shared) (H:Hp) (args:Args) (us:List Value) (vs:List V) (Q:VK) (E:XK),Room k A->ZlU P w K mg base A outer s H->BindsTo s fd args (ps.zip us)->Vals vs us->sp vs H Q E ->
    codeAny (model P w) A (.call (.ref f) args) (CR CX outer P w H s Q E) s
section
variable {X:Cx} {pins:List (Addr×Obj)} {σ:St} {H:Hp} {s s':Shared}
theorem Inv.env0 (I:Inv X pins σ H s):ZlU X.prog X.w X.K X.mg X.base X.A X.stack s H:=
  ⟨I.ok.frames,I.ok.mod,I.bs,Nat.le_trans I.ok.bsz I.sz,I.stack,I.stkFree,I.hok,I.bare⟩
theorem Inv.after {Q:VK} {u:Value} (I:Inv X pins σ H s) (h:CE X.stack X.prog X.w H s Q u s'):EP X pins σ Q u s':=by
  obtain ⟨v,H',os,bare,un,hok,r,q⟩:=h
  obtain ⟨hh,g,d,t,os'⟩:=s'
  obtain rfl:os'=s.os:=os
  exact ⟨v,H',I.call (h':=hh) (g':=g) (d':=d) (t':=t) (ch:=[]) un hok bare (fun b z=>absurd z (by simp)),r,q⟩
end
noncomputable def Zl4 (sp:Sp) (dvs:List V) (E:XK) (t:TA):TE:=fun σ H Q=>t σ H fun vs H1=>sp (vs++dvs) H1 Q E
noncomputable def Binds (K:PySem.W.Frag) (fd:FuncData) (ps:List Str) (ds:List Value):Prop:=
  ∀ (s:Shared) (us:List Value),K.In s.heap->(us++ds).length=ps.length->BindsTo s fd ⟨us,[]⟩ (ps.zip (us++ds))
theorem Binds.all {K:PySem.W.Frag} {fd:FuncData} {ps:List Str} (h:∀ us:List Value,us.length=ps.length->bindArgs fd ⟨us,[]⟩=pure (ps.zip us)):Binds K fd ps []:=fun s us _ hl=>by
  rw [List.append_nil] at hl ⊢
  exact .of_eq (h us hl)
noncomputable def Zhc (CX:CXT) (X:Cx) (E:XK):Prop:=∀ (pins:List (Addr×Obj)) (σ:St) (H:Hp) (s:Shared) (e:Value) (s':Shared),Inv X pins σ H s->CX X.stack H s E e s'->X.xe e s'
section
variable {X:Cx} {CX:CXT} {k:Nat} {f C:Addr} {fd:FuncData} {ps:List Str} {sp:Sp} {dvs:List V} {ds:List Value} {E:XK} {x m:Str} {p pos apos:Pos} {e o:Expr} {es:List Expr} {ta:TE} {t:TA}
theorem Zky {pins:List (Addr×Obj)} {σ:St} {H:Hp} {s:Shared} {Q:VK} {us:List Value} {vs:List V} (F:Zif X.prog X.w X.K X.mg X.base CX k f fd ps sp) (hr:Room k X.A) (hb:Binds X.K fd ps ds) (hd:Vals dvs ds) (hx:Zhc CX X E)
    (I:Inv X pins σ H s) (r:Vals vs us) (h:sp (vs++dvs) H Q E):wpAny (model X.prog X.w) X.A (call (.ref f) us) (EP X pins σ Q) X.xe s:=by
  have r2:Vals (vs++dvs) (us++ds):=r.append hd
  have hl:(us++ds).length=ps.length:=by rw [<-r2.length]; exact F.len _ _ _ _ h
  refine wpAny_call (codeAny_mono (F.run X.A X.stack s H ⟨us,[]⟩ (us++ds) (vs++dvs) Q E hr I.env0 (hb s us I.kIn hl) r2 h) fun r s' hq=>?_)
  cases r with
  | error e=>exact hx pins σ H s e s' I hq
  | ok fl=>
    cases fl with
    | ret u=>exact I.after hq
    | next=>exact False.elim hq
    | brk=>exact False.elim hq
    | cont=>exact False.elim hq
theorem Zjt (F:Zif X.prog X.w X.K X.mg X.base CX k f fd ps sp) (hr:Room k X.A) (hg:Gl X x) (hm:X.mg x=some (.ref f)) (hk:PySem.W.keepIn X.K (.ref f)=true) (hb:Binds X.K fd ps ds) (hd:Vals dvs ds) (hx:Zhc CX X E)
    (ha:PA X (e::es) t) (hdb:(x==("__debug__":Str))=false:=by decide) (he:starEach (e::es) X.env=(false,eval e X.env)::starEach es X.env:=by rfl) (hpl:(backTo pos (starEach es X.env)).any (·.1)=false:=by rfl) :
    PE X (.Call (.Name x p) (e::es) [] pos) (Zl4 sp dvs E t):=by
  intro pins s σ H Q I h
  refine wpAny_Call_Name_kw (Zgl I hg hm ?_ hdb)
  refine PySem.W.callWith_K (h₀:=X.base) I.ok.mod.kin hk (thn (ha pos pins s σ H _ I h) fun us s1 ⟨vs,H1,I1,r,q⟩=>⟨I1.kIn,?_⟩) he hpl
  exact Zky F hr hb hd hx I1 r q
end
section
variable {X:Cx} {CX:CXT} {k:Nat} {f C:Addr} {fd:FuncData} {ps ks:List Str} {sp:Sp} {E:XK} {x m:Str} {p pos apos kpos:Pos} {e o:Expr} {es:List Expr} {kws:List Keyword} {te ta:TE} {t tk:TA} {nm:Option Str}
variable {g:List Value->List Value->List Value} {gV:List V->List V->List V}
end
structure Zu (N P:List Str) (sc:Scope):Prop where
  kind:sc.kind=.function
  co:sc.isCoroutine=false
  gen:sc.isGenerator=false
  nd:N.Nodup
  pre:N.take P.length=P
  par:∀ x∈P,sc.names.lookup x=some .local\/sc.names.lookup x=some .cell
  nofree:∀ y∈sc.names,y.2≠.free
theorem Zcz {kindOf:Str->Option NameKind} {x:Str}:∀ {binds:List (Str×Value)} {m:Str->Option Value},(∀ v,(x,v) ∉ binds)->bindL kindOf binds m x=m x
  | [],_,_=>rfl
  | (n,v)::r,m,h=>by
    unfold bindL
    rw [Zcz fun w hw=>h w (List.mem_cons_of_mem _ hw)]
    split
    · have:x≠n:=by rintro rfl; exact h v List.mem_cons_self
      simp [this]
    · rfl
theorem ZcB {kindOf:Str->Option NameKind} {x:Str}:∀ {binds:List (Str×Value)} {m:Str->Option Value},(∀ v,(x,v) ∉ binds)->bindC kindOf binds m x=m x
  | [],_,_=>rfl
  | (n,v)::r,m,h=>by
    unfold bindC
    rw [ZcB fun w hw=>h w (List.mem_cons_of_mem _ hw)]
    split
    · rfl
    · have:x≠n:=by rintro rfl; exact h v List.mem_cons_self
      simp [this]
theorem ZcA {kindOf:Str->Option NameKind} {x:Str} {v:Value}:∀ {P:List Str} {vs:List Value} {i:Nat} {m:Str->Option Value},P.Nodup->P[i]?=some x->vs[i]?=some v->kindOf x=some .local ->
    bindL kindOf (P.zip vs) m x=some v
  | [],_,_,_,_,h,_,_=>by simp at h
  | _::_,[],_,_,_,_,h,_=>by simp at h
  | p::P,w::vs,0,m,nd,h1,h2,hk=>by
    simp at h1 h2; subst h1; subst h2
    show bindL kindOf ((p,w)::P.zip vs) m p=_
    unfold bindL
    rw [Zcz fun v hv=>(List.nodup_cons.mp nd).1 (List.of_mem_zip hv).1,if_pos hk]
    simp
  | p::P,w::vs,i+1,m,nd,h1,h2,hk=>by
    show bindL kindOf ((p,w)::P.zip vs) m x=_
    unfold bindL
    exact ZcA (i:=i) (List.nodup_cons.mp nd).2 (by simpa using h1) (by simpa using h2) hk
theorem ZcC {kindOf:Str->Option NameKind} {x:Str} {v:Value}:∀ {P:List Str} {vs:List Value} {i:Nat} {m:Str->Option Value},P.Nodup->P[i]?=some x->vs[i]?=some v->kindOf x≠some .local ->
    bindC kindOf (P.zip vs) m x=some v
  | [],_,_,_,_,h,_,_=>by simp at h
  | _::_,[],_,_,_,_,h,_=>by simp at h
  | p::P,w::vs,0,m,nd,h1,h2,hk=>by
    simp at h1 h2; subst h1; subst h2
    show bindC kindOf ((p,w)::P.zip vs) m p=_
    unfold bindC
    rw [ZcB fun v hv=>(List.nodup_cons.mp nd).1 (List.of_mem_zip hv).1,if_neg hk]
    simp
  | p::P,w::vs,i+1,m,nd,h1,h2,hk=>by
    show bindC kindOf ((p,w)::P.zip vs) m x=_
    unfold bindC
    exact ZcC (i:=i) (List.nodup_cons.mp nd).2 (by simpa using h1) (by simpa using h2) hk
noncomputable def start (N:List Str) (vs:List V):St:=vs.map some++List.replicate (N.length-vs.length) none
noncomputable def ZiH (CX:CXT) (P:Program) (w:World) (K:PySem.W.Frag) (mg:Str->Option Value) (base:Heap) (N:List Str) (qual:Str) (scope:Scope) (f:Addr) (cd:Value) (A:Around) (outer:List Env) (s:Shared) (H:Hp) (E:XK):Cx where
  prog:=P
  w:=w
  K:=K
  mg:=mg
  base:=base
  A:=A.deeper (envOfC qual scope s.heap.objs.size f cd)
  N:=N
  s₀:=s
  H₀:=H
  env:=envOfC qual scope s.heap.objs.size f cd
  outer:=outer
  stack:=envOfC qual scope s.heap.objs.size f cd::outer
  ex:=[]
  calm:=true
  fn:=fun _=>true
  pn:=[]
  xe:=fun e s'=>wpAny (model P w) (A.deeper (envOfC qual scope s.heap.objs.size f cd)) (leaving (envOfC qual scope s.heap.objs.size f cd) e) (fun _ s''=>CX outer H s E e s'') (fun e' s''=>CX outer H s E e' s'') s'
theorem Zec {sc:Scope} {n:Nat} {x:Str} (h:sc.names.lookup x=some .cell):∃ c,(cellsFrom n sc.names []).lookup x=some c:=by
  have q:=PySem.W.cellsFrom_some sc.names n [] (.inl h)
  exact Option.isSome_iff_exists.mp q
theorem Zgs {CX:CXT} {P:Program} {w:World} {K:PySem.W.Frag} {mg:Str->Option Value} {base:Heap} {N ps:List Str} {qual:Str} {scope:Scope} {f:Addr} {cd:Value} {A:Around} {outer:List Env} {s s1:Shared} {H:Hp} {E:XK} {us:List Value} {vs:List V}
    (S:Zu N ps scope) (hd:A.handled=none) (e0:ZlU P w K mg base A outer s H) (hl:vs.length=ps.length) (r:Vals vs us)
    (x:InCallC s s.heap.objs.size (bindL (envOfC qual scope s.heap.objs.size f cd).kindOf (ps.zip us) fun _=>none) (cellsFrom (s.heap.objs.size+1) scope.names []) (bindC (envOfC qual scope s.heap.objs.size f cd).kindOf (ps.zip us) fun _=>none) s1) :
    Inv (ZiH CX P w K mg base N qual scope f cd A outer s H E) [] (start N vs) H s1:=by
  have hpl:ps.length<=N.length:=by have:=congrArg List.length S.pre; rw [List.length_take] at this; omega
  obtain ⟨h1,tk,rfl,hk⟩:=x.done
  have noA:∀ b:Addr,b ∉ (ZiH CX P w K mg base N qual scope f cd A outer s H E).ex:=fun b z=>absurd (show b∈([]:List Addr) from z) (by simp)
  refine ⟨⟨e0.mod,S.kind,rfl,rfl,Nat.le_refl _,fun y z c h1 h2=>?_,fun y hy=>?_,fun y c _ h=>?_,fun _=>hd,Around.frames_deeper e0.frames,.inr ⟨rfl,rfl⟩,fun b z=>absurd z (noA b),e0.bs,e0.bsz,fun b _ _=>noA b,fun b z=>absurd z (noA b),e0.funs,e0.frf⟩,
    rfl,e0.bare,Un.kept hk,⟨_,x.toInCall.ns,fun i y v h1 h2 h3=>?_⟩,fun y c h=>⟨_,x.cell y c h⟩,e0.hok.fresh (Nat.le_refl _),fun y c h=>?_,fun p hp=>absurd (show p∈([]:List (Addr×Obj)) from hp) (by simp),e0.hok.kept hk,?_⟩
  · exact name_of_addr x.apart (PySem.mem_of_lookup h1) (PySem.mem_of_lookup h2)
  · have hy:scope.names.lookup y=some .cell\/scope.names.lookup y=some .free:=hy
    rcases hy with hy | hy
    · exact Zec hy
    · exact absurd rfl (S.nofree _ (PySem.mem_of_lookup hy))
  · exact Nat.le_of_lt (x.above y c (PySem.mem_of_lookup h))
  · have hi:i < vs.length:=by
      unfold start at h2
      by_cases hi:i < vs.length
      · exact hi
      · rw [List.getElem?_append_right (by simpa using hi)] at h2
        rw [List.getElem?_replicate] at h2
        split at h2 <;> cases h2
    have ha:vs[i]?=some v:=by
      unfold start at h2
      rw [List.getElem?_append_left (by simpa using hi),List.getElem?_map] at h2
      cases e:vs[i]? with
      | none=>rw [e] at h2; cases h2
      | some a=>rw [e] at h2; cases h2; rfl
    obtain ⟨u,hu,rv⟩:=r.get ha
    have hp:ps[i]?=some y:=by
      rw [<-S.pre,List.getElem?_take_of_lt (by omega)]; exact h1
    have ndP:ps.Nodup:=by rw [<-S.pre]; exact S.nd.sublist (List.take_sublist _ _)
    refine ⟨u,rv,?_⟩
    rcases S.par y (List.mem_of_getElem? hp) with k | k
    · exact .inl ⟨k,ZcA ndP hp hu k⟩
    · obtain ⟨c,e⟩:=Zec (n:=s.heap.objs.size+1) k
      refine .inr ⟨.inl k,c,e,?_⟩
      have q:=x.cell y c e
      rw [ZcC ndP hp hu (by show scope.names.lookup y≠_; rw [k]; decide)] at q
      exact q
  · exact e0.hok.fresh (Nat.le_of_lt (x.above y c (PySem.mem_of_lookup h)))
  · unfold start
    show _=N.length
    rw [List.length_append,List.length_map,List.length_replicate]
    omega
theorem Zmy {CX:CXT} {P:Program} {w:World} {K:PySem.W.Frag} {mg:Str->Option Value} {base:Heap} {k:Nat} {f:Addr} {name qual:Str} {params:Arguments} {body:List Stmt} {scope:Scope} {dV kV doc pm cdv ct oc:Value} {an od:Option Addr}
    {osl:Array (Option Value)} {N ps:List Str} {sp:Sp} (lk:K.lookup f=some ⟨oc,od,.func (PySem.W.fnOf name qual params body scope dV kV doc pm an cdv ct),osl⟩) (hcd:PySem.W.codeIn K cdv qual=true) (S:Zu N ps scope)
    (len:∀ vs H Q E,sp vs H Q E->vs.length=ps.length)
    (hbody:∀ (A:Around) (outer:List Env) (s:Shared) (H:Hp) (vs:List V) (Q:VK) (E:XK),Room k (A.deeper (envOfC qual scope s.heap.objs.size f cdv))->sp vs H Q E ->
      ∃ t,PSs (ZiH CX P w K mg base N qual scope f cdv A outer s H E) body t/\t { nx:=fun _ H'=>Q .non H',rt:=Q } (start N vs) H) :
    Zif P w K mg base CX (k+1) f (PySem.W.fnOf name qual params body scope dV kV doc pm an cdv ct) ps sp:=by
  refine ⟨len,fun A outer s H args us vs Q E hr e0 hb r hsp=>?_⟩
  have hl:=len _ _ _ _ hsp
  have KX:K.In s.heap:=e0.mod.kin.keeps fun b o e=>(e0.bs b o e).1
  have lim:s.heap.NoLimit:=e0.mod.nolimit.keeps fun b o e=>(e0.bs b o e).1
  have hkind:∀ y∈ps.zip us,scope.names.lookup y.1=some .local\/(scope.names.lookup y.1=some .cell/\((cellsFrom (s.heap.objs.size+1) scope.names []).lookup y.1).isSome=true):=fun ⟨n,v⟩ hy=>by
    rcases S.par n (List.of_mem_zip hy).1 with q | q
    · exact .inl q
    · exact .inr ⟨q,PySem.W.cellsFrom_some _ _ _ (.inl q)⟩
  refine codeAny_call_function hr.depth (KX _ _ lk) rfl S.co S.gen rfl (PySem.W.codeRec_of KX hcd) (hb _ _ _ _ ?_)
  refine wpAny_newFunctionEnv_cells S.kind hkind fun env he s1 x=>?_
  subst he
  refine ⟨lim.keeps x.toInCall.keep,codeAny_func ?_⟩
  obtain ⟨t,ht,hq⟩:=hbody A outer s H vs Q E (hr.deeper _) hsp
  have I:Inv (ZiH CX P w K mg base N qual scope f cdv A outer s H E) [] (start N vs) H s1:=Zgs S hr.hd e0 hl r x
  refine wpAny_mono (ht [] s1 (start N vs) H _ I hq) (fun fl s' hs=>?_) fun e s' hs=>hs
  have fin:∀ {σ':St} {H':Hp} {v:V} {u:Value},Inv (ZiH CX P w K mg base N qual scope f cdv A outer s H E) [] σ' H' s'->RelV v u->Q v H'->CE outer P w H s Q u s':=
    fun {σ' H' v u} J rv q=>⟨v,H',J.os,J.bare,J.base,J.hok,rv,q⟩
  cases fl with
  | ret u=>
    obtain ⟨v,σ',H',J,rv,q⟩:=hs
    exact fin J rv q
  | next=>
    obtain ⟨σ',H',J,q⟩:=hs
    exact fin (v:=V.non) (u:=Value.none) J rfl q
  | brk=>
    obtain ⟨_,_,_,q⟩:=hs
    exact False.elim q
  | cont=>
    obtain ⟨_,_,_,q⟩:=hs
    exact False.elim q
section
variable {X:Cx} {x:Str} {p pos:Pos} {e:Expr} {es:List Expr} {t:TA} {id T:String} {r:List V->Hp->VK->Prop}
noncomputable def tCB (r:List V->Hp->VK->Prop) (t:TA):TE:=fun σ H Q=>t σ H fun vs H1=>r vs H1 Q
theorem ZhE (hc:ZaF X (.builtin id) r) (hg:Gl X x) (hm:X.mg x=none) (hv:bootBuiltins x=some (.builtin id)) (ha:PA X (e::es) t) (hn:x≠"__name__":=by decide) (hdb:(x==("__debug__":Str))=false:=by decide)
    (he:starEach (e::es) X.env=(false,eval e X.env)::starEach es X.env:=by rfl) (hpl:(backTo pos (starEach es X.env)).any (·.1)=false:=by rfl):PE X (.Call (.Name x p) (e::es) [] pos) (tCB r t):=by
  intro pins s σ H Q I h
  refine wpAny_Call_Name_kw (J0 I hg hm hv ?_ hn hdb)
  exact PyProof.Rows.callWith_builtin1 (thn (ha pos pins s σ H _ I h) fun us s1 ⟨vs,H1,I1,r1,q1⟩=>hc pins s1 σ H1 vs us Q I1 r1 q1) he hpl
theorem ZfY (hc:ZaF X (.type T) r) (hg:Gl X x) (hm:X.mg x=none) (hv:bootBuiltins x=some (.type T)) (ha:PA X (e::es) t) (hn:x≠"__name__":=by decide) (hdb:(x==("__debug__":Str))=false:=by decide)
    (he:starEach (e::es) X.env=(false,eval e X.env)::starEach es X.env:=by rfl) (hpl:(backTo pos (starEach es X.env)).any (·.1)=false:=by rfl):PE X (.Call (.Name x p) (e::es) [] pos) (tCB r t):=by
  intro pins s σ H Q I h
  refine wpAny_Call_Name_kw (J0 I hg hm hv ?_ hn hdb)
  exact PyProof.Rows.callWith_type1 (thn (ha pos pins s σ H _ I h) fun us s1 ⟨vs,H1,I1,r1,q1⟩=>hc pins s1 σ H1 vs us Q I1 r1 q1) he hpl
end
end L2
namespace HT
open PySem PyProof.Rows
noncomputable def lexLt:List Int->List Int->Bool
  | [],[]=>false
  | [],_::_=>true
  | _::_,[]=>false
  | x::xs,y::ys=>if x=y then lexLt xs ys else decide (x < y)
theorem lexLt_cons (x y:Int) (xs ys:List Int):lexLt (x::xs) (y::ys)=if x=y then lexLt xs ys else decide (x < y):=rfl
theorem lexLt_nil_nil:lexLt [] []=false:=rfl
theorem Zau (y:Int) (ys:List Int):lexLt [] (y::ys)=true:=rfl
theorem Zav (x:Int) (xs:List Int):lexLt (x::xs) []=false:=rfl
theorem Zh1 (A:Around) (s:Shared) (a:Int) (t:Tok) (c:Int) (u:Tok):∃ e,SeqAt.EqAt A s (.int a t) (.int c u) e/\(e=true ↔ a=c):=
  ⟨(a==c),SeqAt.EqAt.int_int a t c u,by simp⟩
theorem rcLt_int (A:Around) (s:Shared) (a:Int) (t:Tok) (c:Int) (u:Tok) (prog:Program) (w:World) (E:Value->Shared->Prop) (Q:Value->Shared->Prop) (h:Q (.bool (decide (a < c))) s) :
    wpAny (model prog w) A (richCompare .Lt (.int a t) (.int c u)) Q E s:=
  (PyProof.Rows.lt_int h:wpAny (model prog w) A (compareOp .Lt (.int a t) (.int c u)) Q E s)
section
open PySem.SeqAt
open PySem.AutoSeq1 (wpAny_loadPart')
open PySem.MeetsSeq PySem.MeetsSeq2 PySem.MeetsSeq3
theorem Za5 (l b:Addr) (items items2:Array Value) (n n2:Nat) (dd dd2:Option Addr) (sl sl2:Array (Option Value)) (ns ms:List Int) (hi:IntsAre items.toList ns) (hj:IntsAre items2.toList ms) :
    Meets (Builtin.«tuple.__lt__» ⟨[.ref l,.ref b],[]⟩)
      (fun _ R s=>s.heap.get? l=some { cls:=.type "tuple",dict:=dd,data:=.seq items n,slots:=sl }/\s.heap.get? b=some { cls:=.type "tuple",dict:=dd2,data:=.seq items2 n2,slots:=sl2 } /\
        R (.ok (.ret (.bool (lexLt ns ms)))) s):=
  .of_wp fun prog w A R s h=>by
    obtain ⟨hp,g,d,tk,os⟩:=s; obtain ⟨hl,hb,h⟩:=h
    have f2:=AutoSeq1.sub_tuple_tuple
    have z1:items.size=ns.length:=by rw [<-hi.length]; simp
    have z2:items2.size=ms.length:=by rw [<-hj.length]; simp
    wp_walk using wpAny_loadPart' hl,wpAny_loadPart' hb,wpAny_forIn_list _ (fun rest b s'=>b.1=none/\s'=⟨hp,g,d,tk,os⟩/\∃ (vs ws:List Value) (ns' ms':List Int),rest=vs.zip ws /\
      IntsAre vs ns'/\IntsAre ws ms'/\ns'.length+items2.size=ms'.length+items.size/\R (.ok (.ret (.bool (lexLt ns' ms')))) ⟨hp,g,d,tk,os⟩) _
    case turn=>
      rintro ⟨y,x⟩ rest b s' ⟨hb',rfl,vs,ws,ns',ms',hz,hvi,hwi,hlen,hR⟩
      cases hvi with
      | nil=>rw [List.zip_nil_left] at hz; cases hz
      | cons a t hvi'=>
        cases hwi with
        | nil=>rw [List.zip_nil_right] at hz; cases hz
        | cons c u hwi'=>
          rw [List.zip_cons_cons] at hz
          injection hz with hyx hrest
          injection hyx with hy hx
          subst hy hx
          rw [lexLt_cons] at hR
          simp only [List.length_cons] at hlen
          obtain ⟨e,he,hiff⟩:=Zh1 A.in1 ⟨hp,g,d,tk,os⟩ a t c u
          refine wpAny_bind (he prog w _ _ ?_)
          cases e with
          | true=>
            rw [if_pos (hiff.mp rfl)] at hR
            wp_walk
            exact ⟨rfl,rfl,_,_,_,_,hrest,hvi',hwi',by omega,hR⟩
          | false=>
            rw [if_neg (fun q=>absurd (hiff.mpr q) Bool.false_ne_true)] at hR
            have hri:=rcLt_int A.in1 ⟨hp,g,d,tk,os⟩ a t c u prog w
            wp_walk using hri
            exact ⟨_,rfl,by simpa using hR⟩
    case fin=>
      rintro ⟨b1,b2⟩ s' ⟨hb',rfl,vs,ws,ns',ms',hz,hvi,hwi,hlen,hR⟩
      simp only at hb'
      subst hb'
      have hv:lexLt ns' ms'=decide (items.size < items2.size):=by
        cases hvi with
        | nil=>
          cases hwi with
          | nil=>
            simp only [List.length_nil] at hlen
            rw [lexLt_nil_nil]
            exact (decide_eq_false (by omega)).symm
          | cons c u hw=>
            simp only [List.length_nil,List.length_cons] at hlen
            rw [Zau]
            exact (decide_eq_true (by omega)).symm
        | cons a t hv=>
          cases hwi with
          | nil=>
            simp only [List.length_nil,List.length_cons] at hlen
            rw [Zav]
            exact (decide_eq_false (by omega)).symm
          | cons c u hw=>
            rw [List.zip_cons_cons] at hz
            cases hz
      rw [hv] at hR
      wp_walk
      exact ⟨_,rfl,by simpa [Builtin.Tuple.tupleCompareSizes] using hR⟩
    case h=>
      exact ⟨rfl,rfl,items.toList,items2.toList,ns,ms,rfl,hi,hj,by omega,h⟩
end
section
variable {prog:Program} {w:World} {A:Around} {E:Value->Shared->Prop} {s:Shared}
theorem lt_tupInts {l b:Addr} {items items2:Array Value} {ns ms:List Int} {Q:Value->Shared->Prop} (hl:IsTup s.heap l items) (hb:IsTup s.heap b items2) (hi:IntsAre items.toList ns) (hj:IntsAre items2.toList ms)
    (hu:A.units < cLine) (h:Q (.bool (lexLt ns ms)) s):wpAny (model prog w) A (compareOp .Lt (.ref l) (.ref b)) Q E s:=by
  obtain ⟨⟨cls,dd,data,sl⟩,ho,hc,n,hd⟩:=id hl
  obtain ⟨⟨cls2,dd2,data2,sl2⟩,ho2,hc2,n2,hd2⟩:=id hb
  simp only at hc hd hc2 hd2
  subst hc hd hc2 hd2
  exact richCompare_meets_room (op:=.Lt) ⟨_,ho,rfl⟩ ⟨_,ho2,rfl⟩ PySem.F.slot_tuple_lt PySem.F.entry_tuple_lt (PySem.F.args_tuple_lt_2 _ _) (Za5 l b items items2 n n2 dd dd2 sl sl2 ns ms hi hj)
    ⟨ho,ho2,show Value.bool (lexLt ns ms)≠Value.notImplemented/\Q (.bool (lexLt ns ms)) s from ⟨(fun x=>nomatch x),h⟩⟩ hu
theorem cat_tup {t b:Addr} {vs ws:List Value} {Q:Value->Shared->Prop} (ht:IsTup s.heap t vs.toArray) (hb:IsTup s.heap b ws.toArray) (hv:vs≠[])
    (h1:ws=[]->Q (.ref t) s) (h2:ws≠[]->Q (.ref s.heap.objs.size) { s with heap:=s.heap.push { cls:=.type "tuple",data:=.seq (vs++ws).toArray } })
    (hsz:vs.length+ws.length<=sizeLine):wpAny (model prog w) A (binaryOp .Add (.ref t) (.ref b)) Q E s:=by
  obtain ⟨⟨cls,dd,data,sl⟩,ho,hc,n,hd⟩:=id ht
  obtain ⟨⟨cls2,dd2,data2,sl2⟩,ho2,hc2,n2,hd2⟩:=id hb
  simp only at hc hd hc2 hd2
  subst hc hd hc2 hd2
  have e:vs.toArray++ws.toArray=(vs++ws).toArray:=by simp
  by_cases hw:ws=[]
  · exact concat_meets ⟨_,ho,rfl⟩ ⟨_,ho2,rfl⟩ noFill_tuple_add seq_tuple_add PySem.F.slot_tuple_add PySem.F.entry_tuple_add (PySem.F.args_tuple_add_2 _ _)
      (tuple_addW1 t b vs.toArray ws.toArray n n2 dd dd2 sl sl2 (by simpa using hv) (by simp [hw])) ⟨ho,ho2,h1 hw⟩
  · refine concat_meets ⟨_,ho,rfl⟩ ⟨_,ho2,rfl⟩ noFill_tuple_add seq_tuple_add PySem.F.slot_tuple_add PySem.F.entry_tuple_add (PySem.F.args_tuple_add_2 _ _)
      (tuple_addW2 t b vs.toArray ws.toArray n n2 dd dd2 sl sl2 (by simpa using hv) (by simpa using hw) (by rw [List.size_toArray,List.size_toArray]; exact hsz)) ⟨ho,ho2,?_⟩
    rw [e]
    exact h2 hw
noncomputable def sIx (n d:Nat):Option Int->Nat
  | none=>d
  | some v=>if v < 0 then (v+(n:Int)).toNat else min v.toNat n
theorem sIx_none (n d:Nat):sIx n d none=d:=rfl
theorem sIx_nat (n d k:Nat):sIx n d (some (k:Int))=min k n:=by
  show (if (k:Int) < 0 then ((k:Int)+(n:Int)).toNat else min (k:Int).toNat n)=min k n
  rw [if_neg (by omega),Int.toNat_natCast]
theorem Zkx (n d:Nat) (hd:d<=n) (o:Option Int):sIx n d o<=n:=by
  cases o with
  | none=>exact hd
  | some v=>
    show (if v < 0 then (v+(n:Int)).toNat else min v.toNat n)<=n
    by_cases hv:v < 0
    · rw [if_pos hv]; omega
    · rw [if_neg hv]; exact Nat.min_le_right _ _
theorem ZgR (v:Int) (n d:Nat):(if v < 0 then max (v+(n:Int)) 0 else min v (n:Int))=((sIx n d (some v):Nat):Int):=by
  show (if v < 0 then max (v+(n:Int)) 0 else min v (n:Int))=(((if v < 0 then (v+(n:Int)).toNat else min v.toNat n):Nat):Int)
  by_cases hv:v < 0
  · simp only [if_pos hv]; omega
  · simp only [if_neg hv]; omega
theorem ZeY (lo hi:Option Int) (n:Nat):Builtin.Slice.sliceAdjust lo hi 1 (n:Int)=(((sIx n 0 lo:Nat):Int),((sIx n n hi:Nat):Int)):=by
  have h1:¬ ((1:Int) < 0):=by omega
  unfold Builtin.Slice.sliceAdjust
  simp only [h1,if_false]
  refine Prod.ext ?_ ?_
  · cases lo with
    | none=>rfl
    | some v=>exact ZgR v n 0
  · cases hi with
    | none=>rfl
    | some v=>exact ZgR v n n
theorem Zev (i j:Nat):Builtin.Slice.slicePlaces (i:Int) (j:Int) 1=j-i:=by
  unfold Builtin.Slice.slicePlaces
  have h1:(1:Int) > 0:=by omega
  simp only [h1,if_true,Int.ediv_one]
  split <;> omega
theorem ZaI {v:Value} {o:Option Int} {Q:Option Int->Shared->Prop} (p:IsPart v o) (h:Q o s):wpAny (model prog w) A (Builtin.Slice.slicePartIndex v) Q E s:=by
  cases p with
  | none=>exact slicePart_none h
  | int i t=>exact slicePart_int h
theorem sliceApplied_gen {sl:Addr} {vl vu:Value} {lo hi:Option Int} {n:Nat} {Q:Int×Int×Nat->Shared->Prop} (hs:s.heap.IsSliceOf sl vl vu .none) (pl:IsPart vl lo) (pu:IsPart vu hi)
    (h:Q (((sIx n 0 lo:Nat):Int),1,sIx n n hi-sIx n 0 lo) s):wpAny (model prog w) A (Builtin.Slice.sliceApplied (.ref sl) (pure (n:Int))) Q E s:=by
  obtain ⟨os,hos,hcs,hds⟩:=id hs
  unfold Builtin.Slice.sliceApplied Builtin.Slice.sliceFields
  refine wpAny_bind (wpAny_bind (wpAny_field hos hds (x:=vl) rfl (wpAny_bind (wpAny_field hos hds (x:=vu) rfl (wpAny_bind (wpAny_field hos hds (x:=.none) rfl (wpAny_pure ?_)))))))
  refine wpAny_bind (slicePart_none ?_)
  show wpAny _ _ (if ((1:Int)==0)=true then _ else _) _ _ s
  rw [if_neg (by decide)]
  refine wpAny_bind (ZaI pl (wpAny_bind (ZaI pu (wpAny_bind (wpAny_pure ?_)))))
  show wpAny _ _ (match Builtin.Slice.sliceAdjust lo hi 1 (n:Int) with | (lo,hi)=>pure (lo,(1:Int),Builtin.Slice.slicePlaces lo hi 1)) _ _ s
  rw [ZeY lo hi n]
  show wpAny _ _ (pure (((sIx n 0 lo:Nat):Int),(1:Int),Builtin.Slice.slicePlaces ((sIx n 0 lo:Nat):Int) ((sIx n n hi:Nat):Int) 1)) _ _ s
  rw [Zev]
  exact wpAny_pure h
theorem ZhB (xs:Array Value) (i k:Nat):((List.range k).filterMap fun (m:Nat)=>xs[((i:Int)+(m:Int)*1).toNat]?).toArray=((xs.toList.drop i).take k).toArray:=by
  have e:(fun (m:Nat)=>xs[((i:Int)+(m:Int)*1).toNat]?)=fun m=>xs[i+m]?:=by
    funext m
    have:((i:Int)+(m:Int)*1).toNat=i+m:=by omega
    rw [this]
  rw [e]
  have:=pick_run xs i k
  rw [List.filterMap_map] at this
  have e2:((fun x=>xs[x]?) ∘ fun x=>i+x)=fun m=>xs[i+m]?:=rfl
  rw [e2] at this
  rw [this]
theorem getItem_tuple_cut {t sl:Addr} {items:Array Value} {vl vu:Value} {lo hi:Option Int} {Q:Value->Shared->Prop} (ht:IsTup s.heap t items) (hs:s.heap.IsSliceOf sl vl vu .none) (pl:IsPart vl lo) (pu:IsPart vu hi)
    (hw:¬ (sIx items.size 0 lo=0/\sIx items.size items.size hi=items.size))
    (h:Q (.ref s.heap.objs.size) { s with heap:=s.heap.push { cls:=.type "tuple",data:=.seq ((items.toList.drop (sIx items.size 0 lo)).take (sIx items.size items.size hi-sIx items.size 0 lo)).toArray } })
    (hsz:items.size<=sizeLine):wpAny (model prog w) A (getItem (.ref t) (.ref sl)) Q E s:=by
  have htake:sizeOk (.seq ((items.toList.drop (sIx items.size 0 lo)).take (sIx items.size items.size hi-sIx items.size 0 lo)).toArray):=by
    show ((items.toList.drop (sIx items.size 0 lo)).take (sIx items.size items.size hi-sIx items.size 0 lo)).toArray.size<=sizeLine
    rw [List.size_toArray,List.length_take,List.length_drop,Array.length_toList]
    omega
  have hj:sIx items.size items.size hi<=items.size:=Zkx _ _ (Nat.le_refl _) hi
  obtain ⟨os,hos,hcs,hds⟩:=id hs
  have hTs:s.TypeIs (.ref sl) "slice":=⟨os,hos,hcs⟩
  unfold getItem
  try with_reducible refine wpAny_holding ?_
  first | refine wpAny_bind (wpAny_pure ?_) | skip
  refine wpAny_bind (wpAny_sequenceKey ht.typeIs (by decide) ?_)
  refine wpAny_bind (wpAny_callSpecial?_slot (name:=Str.ofString "__getitem__") ht.typeIs PyProof.Rows.slot_tuple_getitem
    (wpAny_call_entry PyProof.Rows.slot_tuple_getitem ht.typeIs entry_tuple_getitem ?_ (args_tuple_getitem _ _)))
  show wpAny _ _ (Builtin.Tuple.tupleItemsOf (.ref t) >>= _) _ _ s
  refine wpAny_bind (tupleItemsOf_ ht ?_)
  refine wpAny_bind (wpAny_typeOf hTs ?_)
  rw [if_pos (by decide)]
  refine wpAny_bind (sliceApplied_gen hs pl pu ?_)
  have hno:¬ ((((sIx items.size 0 lo:Nat):Int)==0&&(1:Int)==1&&(sIx items.size items.size hi-sIx items.size 0 lo)==items.size)=true):=by
    intro q
    rw [Bool.and_eq_true,Bool.and_eq_true] at q
    have q1:((sIx items.size 0 lo:Nat):Int)=0:=eq_of_beq q.1.1
    have q2:sIx items.size items.size hi-sIx items.size 0 lo=items.size:=eq_of_beq q.2
    exact hw ⟨by omega,by omega⟩
  show wpAny _ _ (if (((sIx items.size 0 lo:Nat):Int)==0&&(1:Int)==1&&(sIx items.size items.size hi-sIx items.size 0 lo)==items.size)=true then _ else _) _ _ s
  rw [if_neg hno,ZhB]
  first
    | exact wpAny_bind (m:=Builtin.Tuple.tupleExact _) (wpAny_newObj_type (wpAny_pure ⟨_,rfl,wpAny_pure h⟩) htake)
    | exact wpAny_bind (m:=Builtin.Tuple.tupleExact _) (wpAny_newObj_type (wpAny_bind (wpAny_pure (wpAny_pure ⟨_,rfl,wpAny_pure h⟩))) htake)
    | exact wpAny_bind (wpAny_bind (m:=Builtin.Tuple.tupleExact _) (wpAny_newObj_type (wpAny_pure (wpAny_pure ⟨_,rfl,wpAny_pure h⟩)) htake))
    | exact wpAny_bind (wpAny_bind (m:=Builtin.Tuple.tupleExact _) (wpAny_newObj_type (wpAny_pure ⟨_,rfl,wpAny_pure h⟩) htake))
end
end HT
namespace L2
open PySem PySem.Spec PyProof.Rows
noncomputable abbrev TO:=St->Hp->(Option Int->Hp->Prop)->Prop
noncomputable def PO (X:Cx) (e:Option Expr) (t:TO):Prop:=
  ∀ (pins:List (Addr×Obj)) (s:Shared) (σ:St) (H:Hp) (Q:Option Int->Hp->Prop),Inv X pins σ H s->t σ H Q ->
    wpAny (model X.prog X.w) X.A (evalPart e X.env) (fun u s'=>∃ o H',Inv X pins σ H' s'/\IsPart u o/\Q o H') X.xe s
noncomputable def ZiZ:TO:=fun _ H Q=>Q none H
noncomputable def ZlY (t:TE):TO:=fun σ H Q=>t σ H fun x H1=>∃ i,x=.int i/\Q (some i) H1
section
variable {X:Cx} {e:Expr} {te:TE} {lo hi:Option Expr} {tl th:TO} {pos p2:Pos}
theorem Zjk:PO X none ZiZ:=by
  intro pins s σ H Q I h
  rw [evalPart_none]
  exact wpAny_pure ⟨none,H,I,.none,h⟩
theorem ZfT (h:PE X e te):PO X (some e) (ZlY te):=by
  intro pins s σ H Q I hw
  rw [evalPart_some]
  refine thn (h pins s σ H _ I hw) fun u s1 zq=>?_
  obtain ⟨x,H1,I1,r1,q1⟩:=zq
  obtain ⟨i,rfl,q⟩:=q1
  obtain ⟨t,rfl⟩:=r1
  exact ⟨some i,H1,I1,.int i t,q⟩
noncomputable def SlR (X:Cx) (r:V->Option Int->Option Int->Hp->VK->Prop):Prop:=
  ∀ (pins:List (Addr×Obj)) (s:Shared) (σ:St) (H:Hp) (x:V) (v vl vu:Value) (lo hi:Option Int) (sl:Addr) (Q:VK),Inv X pins σ H s->RelV x v->s.heap.IsSliceOf sl vl vu .none->IsPart vl lo->IsPart vu hi->r x lo hi H Q ->
    ∃ T id,typeLookup (.type T) "__getitem__"=pure (some (.builtin id))/\s.TypeIs v T/\wpAny (model X.prog X.w) X.A (getItem v (.ref sl)) (EP X pins σ Q) X.xe s
noncomputable def tSl (r:V->Option Int->Option Int->Hp->VK->Prop) (te:TE) (tl th:TO):TE:=fun σ H Q=>te σ H fun x H1=>tl σ H1 fun l H2=>th σ H2 fun u H3=>r x l u H3 Q
theorem ZhC {r:V->Option Int->Option Int->Hp->VK->Prop} (hr:SlR X r) (he:PE X e te) (hl:PO X lo tl) (hu:PO X hi th):PE X (.Subscript e (.Slice lo hi none p2) pos) (tSl r te tl th):=by
  intro pins s σ H Q I h
  refine Subscript_ (thn (he pins s σ H _ I h) fun v s1 zq=>?_)
  obtain ⟨x,H1,I1,r1,q1⟩:=zq
  refine wpAny_Slice (thn (hl pins s1 σ H1 _ I1 q1) fun vl s2 ⟨l,H2,I2,pl,q2⟩=>thn (hu pins s2 σ H2 _ I2 q2) fun vu s3 zq=>?_)
  obtain ⟨u,H3,I3,pu,q3⟩:=zq
  rw [evalPart_none]
  refine wpAny_pure ?_
  have I4:Inv X pins σ H3 { s3 with heap:=s3.heap.push { cls:=.type "slice",data:=.fields #[vl,vu,.none] } }:=I3.kept (t':=s3.toks) fun b ob q=>Heap.get?_push_of_some _ q
  obtain ⟨T,id,hT,ht,hg⟩:=hr pins { s3 with heap:=s3.heap.push { cls:=.type "slice",data:=.fields #[vl,vu,.none] } } σ H3 x v vl vu l u s3.heap.objs.size Q I4 r1 (Heap.IsSliceOf.new ..) pl pu q3
  show wpAny (model X.prog X.w) X.A (subscriptTail e (.Slice lo hi none p2) v (.ref s3.heap.objs.size)) (EP X pins σ Q) X.xe { s3 with heap:=s3.heap.push { cls:=.type "slice",data:=.fields #[vl,vu,.none] } }
  exact tail_any (ops:=[.ref s3.heap.objs.size,v]) ht hT hg (by with_unfolding_all rfl)
noncomputable def Ze8 (xs:List V) (lo hi:Option Int):List V:=(xs.drop (HT.sIx xs.length 0 lo)).take (HT.sIx xs.length xs.length hi-HT.sIx xs.length 0 lo)
theorem Zac (xs:List V) (lo hi:Option Int):(Ze8 xs lo hi).length<=xs.length:=by
  unfold Ze8
  rw [List.length_take,List.length_drop]
  omega
noncomputable def Zny (K:PySem.W.Frag):V->Option Int->Option Int->Hp->VK->Prop:=fun x lo hi H Q=>∃ a xs,x=.ref a/\SqT K H a xs /\
  ¬ (HT.sIx xs.length 0 lo=0/\HT.sIx xs.length xs.length hi=xs.length)/\∀ p,H p=none->Q (.ref p) (upd H p (.tup (Ze8 xs lo hi)))
theorem Zks:SlR X (Zny X.K):=by
  intro pins s σ H x v vl vu lo hi sl Q I rx hs pl pu h
  obtain ⟨a,xs,rfl,hx,hw,q⟩:=h
  cases rx
  obtain ⟨its,r,ht,hz⟩:=I.tuple hx
  have hlen:its.toArray.size=xs.length:=by rw [List.size_toArray]; exact r.length.symm
  refine ⟨"tuple",_,PyProof.Rows.slot_tuple_getitem.lookup,ht.typeIs,?_⟩
  refine HT.getItem_tuple_cut ht hs pl pu (by rw [hlen]; exact hw) ?_ (by rw [hlen]; exact hz)
  rw [hlen]
  refine ⟨.ref s.heap.objs.size,_,I.laid (t':=s.toks) (o:=.tup (Ze8 xs lo hi)) (fun b ob q=>Heap.get?_push_of_some _ q) (Nat.le_refl _) ?_,rfl,q _ (I.hok.fresh (Nat.le_refl _))⟩
  exact ⟨Nat.le_trans (Zac xs lo hi) hz,_,(r.drop (HT.sIx xs.length 0 lo)).take (HT.sIx xs.length xs.length hi-HT.sIx xs.length 0 lo),IsTup.new _ _⟩
theorem Vals.nil_iff {xs:List V} {us:List Value} (r:Vals xs us):us=[] ↔ xs=[]:=by
  cases r with
  | nil=>simp
  | cons _ _=>simp
end
noncomputable def ixN (n:Nat) (i:Int):Option Nat:=if 0<=i then (if i < n then some i.toNat else none) else if -(n:Int)<=i then some (i+n).toNat else none
noncomputable def atI {α:Type} (xs:List α) (i:Int):Option α:=(ixN xs.length i).bind fun j=>xs[j]?
theorem ZjJ {n:Nat} {i:Int} {j:Nat} (h:ixN n i=some j):seqIndex? i n=some j/\j < n/\-(n:Int)<=i/\i < n:=by
  unfold ixN at h
  by_cases h0:0<=i
  · rw [if_pos h0] at h
    by_cases h1:i < n
    · rw [if_pos h1] at h
      have e:i.toNat=j:=Option.some.inj h
      exact ⟨by rw [seqIndex_of h0 h1,e],by omega,by omega,h1⟩
    · rw [if_neg h1] at h; cases h
  · rw [if_neg h0] at h
    by_cases h1:-(n:Int)<=i
    · rw [if_pos h1] at h
      have e:(i+n).toNat=j:=Option.some.inj h
      exact ⟨by rw [seqIndex_neg (by omega) h1,e],by omega,h1,by omega⟩
    · rw [if_neg h1] at h; cases h
theorem Zdw {α:Type} {xs:List α} {i:Int} {v:α} (h:atI xs i=some v):∃ j,seqIndex? i xs.length=some j/\xs[j]?=some v/\j < xs.length/\-(xs.length:Int)<=i/\i < xs.length:=by
  unfold atI at h
  cases e:ixN xs.length i with
  | none=>rw [e] at h; cases h
  | some j=>
    rw [e] at h
    obtain ⟨h1,h2,h3,h4⟩:=ZjJ e
    exact ⟨j,h1,h,h2,h3,h4⟩
theorem Zj1 {α:Type} {xs:List α} {j:Nat} {v:α} (h:xs[j]?=some v):atI xs (j:Int)=some v:=by
  have hj:j < xs.length:=(List.getElem?_eq_some_iff.mp h).1
  have e:ixN xs.length (j:Int)=some j:=by
    unfold ixN
    rw [if_pos (by omega),if_pos (by omega)]; simp
  unfold atI; rw [e]; exact h
noncomputable def Zhb (b:Expr):Prop:=∀ o i,subscripted b false o i=operate [o,i] (getItem o i)
noncomputable def IxR (X:Cx) (r:R2):Prop:=
  ∀ (value slice:Expr) (pins:List (Addr×Obj)) (s:Shared) (σ:St) (H:Hp) (x y:V) (v u:Value) (Q:VK),Inv X pins σ H s->RelV x v->RelV y u->r x y H Q ->
    subscripted slice false v u=operate [v,u] (getItem v u)->wpAny (model X.prog X.w) X.A (subscriptTail value slice v u) (EP X pins σ Q) X.xe s
noncomputable def MtR (X:Cx) (id:String) (r:V->List V->Hp->VK->Prop):Prop:=
  ∀ (pins:List (Addr×Obj)) (s:Shared) (σ:St) (H:Hp) (x:V) (xs:List V) (v:Value) (us:List Value) (Q:VK),Inv X pins σ H s->RelV x v->Vals xs us->r x xs H Q ->
    wpAny (model X.prog X.w) X.A (call (.builtin id) (v::us)) (EP X pins σ Q) X.xe s
section
variable {X:Cx} {a b:Expr} {ta tb:TE} {pos:Pos}
theorem Zmd {r:R2} (hr:IxR X r) (ha:PE X a ta) (hb:PE X b tb) (hs:Zhb b):PE X (.Subscript a b pos) (tOp r ta tb):=by
  intro pins s σ H Q I h
  exact Subscript_ (ZmL ha hb I h fun v u s2 x y H2 I2 rx ry q=>hr a b pins s2 σ H2 x y v u Q I2 rx ry q (hs _ _))
noncomputable def ZnE (K:PySem.W.Frag):R2:=fun x y H Q=>∃ p xs i v,x=.ref p/\y=.int i/\SqL K H p xs/\atI xs i=some v/\Q v H
noncomputable def ZnC (K:PySem.W.Frag):R2:=fun x y H Q=>∃ p xs i v,x=.ref p/\y=.int i/\SqT K H p xs/\atI xs i=some v/\Q v H
noncomputable def ZnD:R2:=fun x y H Q=>∃ z i c,x=.str z/\y=.int i/\z.length<=sizeLine/\atI z.cps.toList i=some c/\Q (.str ⟨#[c]⟩) H
theorem ZjI:IxR X (ZnE X.K):=by
  intro value slice pins s σ H x y v u Q I rx ry h hs
  obtain ⟨p,xs,i,z,rfl,rfl,hq,he,q⟩:=h
  cases rx
  obtain ⟨t,rfl⟩:=ry
  obtain ⟨its,r,pl,hz⟩:=I.list hq
  obtain ⟨j,h1,h2,h3,h4,h5⟩:=Zdw he
  obtain ⟨w,ew,rw'⟩:=r.get h2
  have hl:=r.length
  have hn:=Zch
  have fin:EP X pins σ Q w s:=⟨z,H,I,rw',q⟩
  by_cases h0:0<=i
  · have hj:i.toNat=j:=by
      rw [seqIndex_of h0 h5] at h1
      exact Option.some.inj h1
    exact item_listR pl.isList h0 (by omega) (by rw [hj]; simpa using ew) fin hs
  · have hj:(i+(its.toArray.size:Int)).toNat=j:=by
      rw [seqIndex_neg (by omega) h4] at h1
      rw [List.size_toArray,<-hl]
      exact Option.some.inj h1
    exact subscriptTail_builtinR (x:=w) pl.isList.typeIs slot_list_getitem.lookup
      (wpAny_getItem_list_neg (Q:=fun r s'=>r=w/\EP X pins σ Q r s') pl.isList (by omega) (by rw [List.size_toArray] <;> omega) (by omega) (by rw [hj]; simpa using ew) ⟨rfl,fin⟩) hs
theorem Zls:IxR X (ZnC X.K):=by
  intro value slice pins s σ H x y v u Q I rx ry h hs
  obtain ⟨p,xs,i,z,rfl,rfl,hq,he,q⟩:=h
  cases rx
  obtain ⟨t,rfl⟩:=ry
  obtain ⟨its,r,pl,hz⟩:=I.tuple hq
  obtain ⟨j,h1,h2,h3,h4,h5⟩:=Zdw he
  obtain ⟨w,ew,rw'⟩:=r.get h2
  have hl:=r.length
  have hn:=Zch
  have fin:EP X pins σ Q w s:=⟨z,H,I,rw',q⟩
  exact subscriptTail_builtinR (x:=w) pl.typeIs slot_tuple_getitem.lookup
    (getItem_tuple (j:=j) (Q:=fun r s'=>r=w/\EP X pins σ Q r s') pl (by omega) (by omega) (by rw [List.size_toArray,<-hl]; exact h1) (by simpa using ew) ⟨rfl,fin⟩) hs
theorem Zlt:IxR X ZnD:=by
  intro value slice pins s σ H x y v u Q I rx ry h hs
  obtain ⟨z,i,c,rfl,rfl,hz,he,q⟩:=h
  obtain ⟨t,rfl⟩:=rx
  obtain ⟨t',rfl⟩:=ry
  obtain ⟨j,h1,h2,h3,h4,h5⟩:=Zdw he
  have hl:z.cps.toList.length=z.length:=by simp [Str.length]
  rw [hl] at h1 h4 h5
  have hn:=Zch
  exact tail_any (typeIs_str s z t) slot_str_getitem.lookup (getItem_str (c:=c) (by
    have e1:decide (i < -(2 ^ 63:Int))=false:=decide_eq_false (by omega)
    have e2:decide (i>=2 ^ 63)=false:=decide_eq_false (by omega)
    rw [e1,e2,Bool.or_false]) (by rw [h1]; simpa using h2) ⟨.str ⟨#[c]⟩,H,I.tok _,⟨_,rfl⟩,q⟩) hs
theorem ZbW (lo hi:Option Int) (n:Nat):(sliceBounds lo hi none n).1=((HT.sIx n 0 lo:Nat):Int)/\(sliceBounds lo hi none n).2.1=((HT.sIx n n hi:Nat):Int)/\(sliceBounds lo hi none n).2.2=1:=by
  refine ⟨?_,?_,rfl⟩
  · cases lo with
    | none=>simp [sliceBounds,HT.sIx]
    | some i=>
      simp only [sliceBounds,HT.sIx,Option.getD_none,show (1:Int) > 0 by decide,if_true]
      by_cases h:i < 0
      · simp only [h,if_true] <;> omega
      · simp only [h,if_false] <;> omega
  · cases hi with
    | none=>simp [sliceBounds,HT.sIx]
    | some i=>
      simp only [sliceBounds,HT.sIx,Option.getD_none,show (1:Int) > 0 by decide,if_true]
      by_cases h:i < 0
      · simp only [h,if_true] <;> omega
      · simp only [h,if_false] <;> omega
theorem Za7 (its:List Value) (lo hi:Option Int):slicePick its.toArray lo hi none=((its.drop (HT.sIx its.length 0 lo)).take (HT.sIx its.length its.length hi-HT.sIx its.length 0 lo)).toArray:=by
  obtain ⟨h1,h2,h3⟩:=ZbW lo hi its.toArray.size
  unfold slicePick
  rw [h1,h2,h3]
  simp only [sliceRange_one,pick_run,List.size_toArray] <;> rfl
noncomputable def Znz (K:PySem.W.Frag):V->Option Int->Option Int->Hp->VK->Prop:=fun x lo hi H Q=>∃ a xs,x=.ref a/\SqL K H a xs/\∀ p,H p=none->Q (.ref p) (upd H p (.lst (Ze8 xs lo hi)))
theorem Zi3:SlR X (Znz X.K):=by
  intro pins s σ H x v vl vu lo hi sl Q I rx hs pl pu h
  obtain ⟨a,xs,rfl,hx,q⟩:=h
  cases rx
  obtain ⟨its,r,ht,hz⟩:=I.list hx
  have hlen:=r.length
  refine ⟨"list",_,slot_list_getitem.lookup,ht.isList.typeIs,?_⟩
  refine wpAny_getItem_list_slice ht.isList hs pl pu .none (by simp) ?_ (by rw [List.size_toArray] <;> omega)
  rw [Za7,<-hlen]
  refine ⟨.ref s.heap.objs.size,_,I.laid (t':=s.toks) (o:=.lst (Ze8 xs lo hi)) (fun b ob q=>Heap.get?_push_of_some _ q) (Nat.le_refl _) ?_,rfl,q _ (I.hok.fresh (Nat.le_refl _))⟩
  exact ⟨Nat.le_trans (Zac xs lo hi) hz,_,0,(r.drop (HT.sIx xs.length 0 lo)).take (HT.sIx xs.length xs.length hi-HT.sIx xs.length 0 lo),Heap.get?_push_size _ rfl⟩
theorem We:ZaF X (.builtin "len") (fun xs H Q=>∃ p ys,xs=[.ref p]/\(SqL X.K H p ys\/SqT X.K H p ys)/\Q (.int ys.length) H):=by
  intro pins s σ H xs us Q I r h
  obtain ⟨p,ys,rfl,hq,q⟩:=h
  obtain ⟨u,rfl,rx⟩:=ZcX r
  cases rx
  have hn:=Zch
  rcases hq with hq | hq
  · obtain ⟨its,r',pl,hz⟩:=I.list hq
    have hlen:=r'.length
    exact Calls.call_len_list pl.isList (by simp only [List.size_toArray] <;> omega) ⟨.int ys.length,H,I.tok _,⟨s.toks+1,by rw [List.size_toArray,hlen]⟩,q⟩
  · obtain ⟨its,r',pl,hz⟩:=I.tuple hq
    have hlen:=r'.length
    exact len_tuple pl (by simp only [List.size_toArray] <;> omega) ⟨.int ys.length,H,I.tok _,⟨s.toks+1,by rw [List.size_toArray,hlen]⟩,q⟩
theorem Zcx:ZaF X (.builtin "len") (fun xs H Q=>∃ z,xs=[.str z]/\z.length<=sizeLine/\Q (.int z.length) H):=by
  intro pins s σ H xs us Q I r h
  obtain ⟨z,rfl,hz,q⟩:=h
  obtain ⟨u,rfl,t,rfl⟩:=ZcX r
  have hn:=Zch
  exact len_str (by omega) ⟨.int z.length,H,I.tok _,⟨_,rfl⟩,q⟩
theorem Wd:ZaF X (.type "list") (fun xs H Q=>∃ p ys,xs=[.ref p]/\(SqL X.K H p ys\/SqT X.K H p ys)/\∀ l,H l=none->Q (.ref l) (upd H l (.lst ys))):=by
  intro pins s σ H xs us Q I r h
  obtain ⟨p,ys,rfl,hq,q⟩:=h
  obtain ⟨u,rfl,rx⟩:=ZcX r
  cases rx
  have fin:∀ (its:List Value),Vals ys its->ys.length<=sizeLine->∀ (h':Heap) (c':Nat),(∀ b o',s.heap.get? b=some o'->h'.get? b=some o') ->
      h'.get? s.heap.objs.size=some { cls:=.type "list",dict:=none,data:=.seq its.toArray c',slots:=#[] }->EP X pins σ Q (.ref s.heap.objs.size) { s with heap:=h' }:=fun its r' hz h' c' kp e=>
    ⟨.ref s.heap.objs.size,_,I.laid (t':=s.toks) kp (Nat.le_refl _) (show ObjOk X.prog X.w _ h' _ (.lst ys) from ⟨hz,its,c',r',e⟩),rfl,q _ (I.hok.fresh (Nat.le_refl _))⟩
  rcases hq with hq | hq
  · obtain ⟨its,r',pl,hz⟩:=I.list hq
    have hlen:=r'.length
    obtain ⟨o,ho,hc,n,hd⟩:=pl.isList
    exact call_list_seq p (.inl rfl) ho hc hd (fun h' c' kp e=>fin its r' hz h' c' kp e) (by simp only [List.size_toArray] <;> omega)
  · obtain ⟨its,r',pl,hz⟩:=I.tuple hq
    have hlen:=r'.length
    obtain ⟨o,ho,hc,n,hd⟩:=pl
    exact call_list_seq p (.inr rfl) ho hc hd (fun h' c' kp e=>fin its r' hz h' c' kp e) (by simp only [List.size_toArray] <;> omega)
theorem Vt:ZaF X (.type "tuple") (fun xs H Q=>∃ p ys,xs=[.ref p]/\((SqL X.K H p ys/\∀ l,H l=none->Q (.ref l) (upd H l (.tup ys)))\/(SqT X.K H p ys/\Q (.ref p) H))):=by
  intro pins s σ H xs us Q I r h
  obtain ⟨p,ys,rfl,h⟩:=h
  obtain ⟨u,rfl,rx⟩:=ZcX r
  cases rx
  rcases h with ⟨hq,q⟩ | ⟨hq,q⟩
  · obtain ⟨its,r',pl,hz⟩:=I.list hq
    have hlen:=r'.length
    refine call_tuple_list pl.isList (fun h' kp=>?_) (by simp only [List.size_toArray] <;> omega)
    have I1:Inv X pins σ H { s with heap:=h' }:=I.kept (t':=s.toks) kp
    have I2:Inv X pins σ (upd H h'.objs.size (.tup ys)) { s with heap:=h'.push { cls:=.type "tuple",data:=.seq its.toArray } }:=
      I1.laid (t':=s.toks) (fun b o e=>Heap.get?_push_of_some _ e) (Nat.le_refl _) (show ObjOk X.prog X.w _ _ _ (.tup ys) from ⟨hz,its,r',IsTup.new _ _⟩)
    exact ⟨.ref h'.objs.size,_,I2,rfl,q _ (I1.hok.fresh (Nat.le_refl _))⟩
  · obtain ⟨its,r',pl,hz⟩:=I.tuple hq
    exact call_tuple_same pl ⟨.ref p,H,I,rfl,q⟩
noncomputable def tyV (K:PySem.W.Frag) (T:String) (x:V) (H:Hp):Prop:=match x with
  | .str _=>T="str"
  | .int _=>T="int"
  | .ref p=>(T="list"/\∃ xs,SqL K H p xs)\/(T="tuple"/\∃ o,K.lookup p=some o/\o.cls=.type "tuple"/\o.dict=none) \/
      (T="dict"/\((∃ kvs,H p=some (.dK kvs))\/∃ kvs,H p=some (.dT kvs)))\/(T="set"/\∃ S n,H p=some (.set S n))
  | _=>False
theorem Zik {pins:List (Addr×Obj)} {σ:St} {H:Hp} {s:Shared} {T:String} {x:V} {v:Value} (I:Inv X pins σ H s) (r:RelV x v) (ty:tyV X.K T x H) :
    s.TypeIs v T/\∀ a,v=.ref a->∃ ob,s.heap.get? a=some ob/\ob.dict=none:=by
  cases x with
  | str z=>
    obtain ⟨t,rfl⟩:=r
    cases (show T="str" from ty)
    exact ⟨typeIs_str s z t,fun _ e=>nomatch e⟩
  | int i=>
    obtain ⟨t,rfl⟩:=r
    cases (show T="int" from ty)
    exact ⟨typeIs_int s i t,fun _ e=>nomatch e⟩
  | ref p=>
    cases r
    rcases ty with ⟨rfl,xs,hq⟩ | ⟨rfl,o,hk,hc,hd⟩ | ⟨rfl,hk⟩ | ⟨rfl,S,n,hk⟩
    · obtain ⟨its,_,pl,_⟩:=I.list hq
      refine ⟨pl.isList.typeIs,fun a e=>?_⟩
      cases e
      obtain ⟨o,n,e,c,hd,_⟩:=pl
      exact ⟨o,e,hd⟩
    · refine ⟨⟨o,I.kIn p o hk,hc⟩,fun a e=>?_⟩
      cases e
      exact ⟨o,I.kIn _ o hk,hd⟩
    · have z:∃ o,s.heap.get? p=some o/\o.ExactDict:=by
        rcases hk with ⟨kvs,hk⟩ | ⟨kvs,hk⟩
        · obtain ⟨_,_,_,_,o,_,_,e,ex,_⟩:=I.hok p _ hk
          exact ⟨o,e,ex⟩
        · obtain ⟨_,_,_,_,o,_,_,e,ex,_⟩:=I.hok p _ hk
          exact ⟨o,e,ex⟩
      obtain ⟨o,e,ex⟩:=z
      refine ⟨⟨o,e,ex.1⟩,fun a e2=>?_⟩
      cases e2
      exact ⟨o,e,ex.2.1⟩
    · obtain ⟨o,_,_,_,e,ex,_⟩:=I.hok p _ hk
      refine ⟨⟨o,e,ex.1⟩,fun a e2=>?_⟩
      cases e2
      exact ⟨o,e,ex.2.1⟩
  | _=>exact False.elim ty
noncomputable def Znu (K:PySem.W.Frag) (T:String) (r:V->List V->Hp->VK->Prop) (to:TE):TE:=fun σ H Q=>to σ H fun x H1=>tyV K T x H1/\r x [] H1 Q
noncomputable def tBM (K:PySem.W.Frag) (T:String) (r:V->List V->Hp->VK->Prop) (to:TE) (t:TA):TE:=fun σ H Q=>to σ H fun x H1=>tyV K T x H1/\t σ H1 fun xs H2=>r x xs H2 Q
variable {o e:Expr} {es:List Expr} {to:TE} {t:TA} {name:Str} {apos cpos:Pos} {T id:String} {r:V->List V->Hp->VK->Prop}
theorem ZkT (pa:PlainAttrs T) (slot:Slot T name id) (hty:typeOf (.builtin id)=pure (.type "method_descriptor")) (hm:MtR X id r) (ho:PE X o to)
    (hbase:attributeBase o name X.env (eval o X.env)=eval o X.env:=by rfl) (hline:(apos.endLine==cpos.line)=true:=by rfl):PE X (.Call (.Attribute o name apos) [] [] cpos) (Znu X.K T r to):=by
  intro pins s σ H Q I h
  refine wpAny_Call_method0_late hbase hline (thn (ho pins s σ H _ I h) fun v s1 zq=>?_)
  obtain ⟨x,H1,I1,r1,ty,q1⟩:=zq
  obtain ⟨h1,h2⟩:=Zik I1 r1 ty
  exact ⟨T,id,pa,slot,hty,h1,h2,Calls.callWith_builtin rfl (PySem.evalArgs_none (hm pins s1 σ H1 x [] v [] Q I1 r1 .nil q1))⟩
theorem ZkU (pa:PlainAttrs T) (slot:Slot T name id) (hty:typeOf (.builtin id)=pure (.type "method_descriptor")) (hm:MtR X id r) (ho:PE X o to) (ha:PA X (e::es) t)
    (hbase:attributeBase o name X.env (eval o X.env)=eval o X.env:=by rfl)
    (hfew:((backTo cpos (starEach (e::es) X.env)).all (fun x=>!x.1)&&(backToKw cpos (keywordEach [] X.env)).all (fun x=>x.1.isSome)
      && decide ((e::es).length+([]:List Keyword).length+(if ([]:List Keyword).isEmpty then 0 else 1) < 30))=true:=by rfl)
    (hline:(apos.endLine==cpos.line)=true:=by rfl) (hs:starEach (e::es) X.env=(false,eval e X.env)::starEach es X.env:=by rfl) (hplain:(backTo cpos (starEach es X.env)).any (·.1)=false:=by rfl) :
    PE X (.Call (.Attribute o name apos) (e::es) [] cpos) (tBM X.K T r to t):=by
  intro pins s σ H Q I h
  refine wpAny_Call_method_late hbase hfew hline rfl (thn (ho pins s σ H _ I h) fun v s1 zq=>?_)
  obtain ⟨x,H1,I1,r1,ty,q1⟩:=zq
  obtain ⟨h1,h2⟩:=Zik I1 r1 ty
  refine ⟨T,id,pa,slot,hty,h1,h2,?_⟩
  have hA:=ha cpos pins s1 σ H1 _ I1 q1
  rw [hs] at hA ⊢
  refine Calls.callWith_builtin (by show (false||(backTo cpos (starEach es X.env)).any (·.1))=false; rw [hplain] <;> rfl) (Calls.evalArgs_plain ?_)
  exact thn hA fun us s2 ⟨vs,H2,I2,r2,q2⟩=>hm pins s2 σ H2 x vs v us Q I2 r1 r2 q2
end
noncomputable def MtM (X:Cx) (id:String) (r:V->List V->Hp->VK->Prop):Prop:=
  ∀ (pins:List (Addr×Obj)) (s:Shared) (σ:St) (H:Hp) (x:V) (xs:List V) (v:Value) (us:List Value) (Q:VK),Inv X pins σ H s->RelV x v->Vals xs us->r x xs H Q ->
    wpAny (model X.prog X.w) X.A (call (.builtin id) (v::us)) (EP X pins σ Q) X.xe s
theorem Vals.one:∀ {x:V} {us:List Value},Vals [x] us->∃ u,us=[u]/\RelV x u
  | _,_,.cons r .nil=>⟨_,rfl,r⟩
theorem Vals.zero:∀ {us:List Value},Vals [] us->us=[]
  | _,.nil=>rfl
theorem Vals.dropLast {xs:List V} {us:List Value} (h:Vals xs us):Vals xs.dropLast us.dropLast:=by
  induction h with
  | nil=>exact .nil
  | cons r t ih=>
    cases t with
    | nil=>exact .nil
    | cons q t'=>exact .cons r ih
theorem Vals.reverse {xs:List V} {us:List Value} (h:Vals xs us):Vals xs.reverse us.reverse:=by
  induction h with
  | nil=>exact .nil
  | cons r t ih=>rw [List.reverse_cons,List.reverse_cons]; exact Vals.append ih (.cons r .nil)
theorem ZeK {α:Type} (l:List α):l.eraseIdx (l.length-1)=l.dropLast:=by
  induction l with
  | nil=>rfl
  | cons a r ih=>
    cases r with
    | nil=>rfl
    | cons b r=>
      have e:(a::b::r).length-1=((b::r).length-1)+1:=by
        have h1:(a::b::r).length=r.length+2:=rfl
        have h2:(b::r).length=r.length+1:=rfl
        omega
      rw [e,List.eraseIdx_cons_succ,ih]
      all_goals rfl
section
variable {X:Cx} {pins:List (Addr×Obj)} {σ:St} {H:Hp} {s:Shared} {l b:Addr} {xs ys zs:List V}
theorem Inv.lset {its its':List Value} {n:Nat} {f:Array Value->Array Value} {t':Nat} (I:Inv X pins σ H s) (hH:H l=some (.lst xs))
    (e:s.heap.get? l=some { cls:=.type "list",data:=.seq its.toArray n }) (hf:f its.toArray=its'.toArray) (hv:Vals ys its') (hz:ys.length<=sizeLine) :
    Inv X pins σ (upd H l (.lst ys)) { s with heap:=s.heap.update l (Obj.mapSeq f),toks:=t' }:=by
  have q:=PySem.IsL.update e f
  rw [hf] at q
  refine I.write (x:=l) (e:=l) (by rw [hH]; exact trivial) (.inl rfl) (fun b' u hb hu=>(Heap.get?_update_other s.heap (Obj.mapSeq f) (Ne.symm hb)).trans hu) ⟨_,q⟩ ?_
  exact ⟨hz,its',_,hv,q⟩
theorem Inv.lnew {its:List Value} {t':Nat} (I:Inv X pins σ H s) (hv:Vals ys its) (hz:ys.length<=sizeLine) :
    Inv X pins σ (upd H s.heap.objs.size (.lst ys)) { s with heap:=s.heap.push { cls:=.type "list",data:=.seq its.toArray },toks:=t' }:=
  I.laid (fun _ _ q=>Heap.get?_push_of_some _ q) (Nat.le_refl _) ⟨hz,its,0,hv,Heap.get?_push_size _ rfl⟩
theorem Inv.fresh (I:Inv X pins σ H s):H s.heap.objs.size=none:=I.hok.fresh (Nat.le_refl _)
theorem Inv.lstM (I:Inv X pins σ H s) (hH:H l=some (.lst xs)):xs.length<=sizeLine/\∃ (its:List Value) (n:Nat),Vals xs its/\xs.length=its.length/\s.heap.get? l=some { cls:=.type "list",data:=.seq its.toArray n }:=by
  obtain ⟨z,its,n,r,e⟩:=I.hok l _ hH
  exact ⟨z,its,n,r,r.length,e⟩
end
section
variable {X:Cx}
noncomputable def Zjc:V->List V->Hp->VK->Prop:=fun x vs H Q=>∃ l xs y,x=.ref l/\vs=[y]/\H l=some (.lst xs)/\xs.length < sizeLine/\Q .non (upd H l (.lst (xs++[y])))
theorem Zcd:MtM X "list.append" Zjc:=by
  intro pins s σ H x vs v us Q I rx rv h
  obtain ⟨l,xs,y,rfl,rfl,hH,hz,q⟩:=h
  cases rx
  obtain ⟨u,rfl,ru⟩:=rv.one
  obtain ⟨z,its,n,r,hl,e⟩:=I.lstM hH
  refine call_meets F.slot_list_append ⟨_,e,rfl⟩ F.entry_list_append (F.args_list_append_2 _ _) (PySem.list_append l its.toArray n u (by rw [List.size_toArray]; omega)) ⟨e,?_⟩
  refine ⟨.non,_,I.lset (its':=its++[u]) hH e (by simp) (r.append (.cons ru .nil)) ?_,rfl,q⟩
  rw [List.length_append,List.length_singleton]
  omega
noncomputable def ZnB:V->List V->Hp->VK->Prop:=fun x vs H Q=>∃ l xs y,x=.ref l/\vs=[]/\H l=some (.lst xs)/\xs[xs.length-1]?=some y/\Q y (upd H l (.lst xs.dropLast))
theorem Zla:MtM X "list.pop" ZnB:=by
  intro pins s σ H x vs v us Q I rx rv h
  obtain ⟨l,xs,y,rfl,rfl,hH,hy,q⟩:=h
  cases rx
  have hus:=rv.zero
  subst hus
  obtain ⟨z,its,n,r,hl,e⟩:=I.lstM hH
  obtain ⟨u,hu,ru⟩:=r.get hy
  have hy':its.toArray[its.toArray.size-1]?=some u:=by
    show its.toArray[its.length-1]?=some u
    rw [<-Array.getElem?_toList,<-hl]
    exact hu
  refine call_meets F.slot_list_pop ⟨_,e,rfl⟩ F.entry_list_pop (F.args_list_pop_1 _) (MeetsSeq.list_pop_last l its.toArray n u hy' (by rw [List.size_toArray]; omega)) ⟨e,?_⟩
  refine ⟨y,_,I.lset (its':=its.dropLast) hH e ?_ r.dropLast ?_,ru,q⟩
  · show its.toArray.eraseIdxIfInBounds (its.toArray.size-1)=its.dropLast.toArray
    rw [List.size_toArray,List.eraseIdxIfInBounds_toArray,ZeK]
  · rw [List.length_dropLast]
    omega
end
section
variable {prog:Program} {w:World} {A:Around} {E:Value->Shared->Prop} {s:Shared}
end
section
variable {X:Cx}
end
end L2
namespace Att
open PySem PySem.W PySem.Calls PyProof.Rows
theorem WW {P:Params} {h:Heap}:∀ (ns:List Int) (vs:List Value),WellAll P h vs (ns.map WData.int)->IntsAre vs ns:=by
  intro ns
  induction ns with
  | nil=>
    intro vs w
    rw [List.map_nil] at w
    cases w
    exact .nil
  | cons n ns ih=>
    intro vs w
    rw [List.map_cons] at w
    cases w with
    | cons a b=>
      cases a
      exact .cons _ _ (ih _ b)
theorem ZfB {l:OpenLaw} {n:Nat} (hn:l.most=some n) {P:Params} {h:Heap} {args:List WData} {vals:List Value}
    (hpre:l.row.toRowW.claim.pre args=true) (hwl:WellAll P h vals args) :
    ∃ a vs ns,vals=[Value.ref a]/\args=[WData.list (ns.map WData.int)]/\h.get? a=some { cls:=.type "list",data:=.seq vs.toArray }/\IntsAre vs ns/\ns.length<=n:=by
  have hsh:WShape.hasAll [] args [.list .int]=true:=(pre_splitW hpre).1
  have hc:l.pre.holds [] { args:=args }=true:=(pre_splitW hpre).2
  obtain ⟨d,r,rfl,h1,h2⟩:=hasAllW_cons hsh
  obtain rfl:=hasAllW_nil h2
  obtain ⟨xs,rfl,h3⟩:=hasW_list h1
  obtain ⟨ns,rfl⟩:=items_int h3
  have hlen:ns.length<=n:=by
    unfold OpenLaw.pre at hc
    have h4:(WTm.not (.lt (.lit (.int (n:Int))) (.len (.arg 0)))).holds [] { args:=[.list (ns.map .int)] }=true:=by
      have h4:=(holds_andW hc).1
      rw [hn] at h4
      exact h4
    have h5:=condW_of h4 (w_not (w_lt w_lit (w_len_list (w_arg rfl))))
    rw [List.length_map] at h5
    refine Nat.le_of_not_lt fun q=>?_
    have q':(n:Int) < ((ns.length:Nat):Int):=by omega
    first
      | (rw [decide_eq_true q'] at h5; exact absurd h5 (by decide))
      | (simp at h5; omega)
  cases hwl with
  | cons w1 w2=>
    cases w2
    cases w1 with
    | list ho hall=>exact ⟨_,_,ns,rfl,rfl,ho,WW ns _ hall,hlen⟩
theorem ZfQ (l:OpenLaw) (args:List WData):l.row.toRowW.claim.post args (.bool true) args=true:=
  postW_of (r:=l.row.toRowW) (X:=(true==true))
    (show WShape.has [] (.bool true) .bool=true by first | rfl | decide | simp [WShape.has,WShape.arms,WShape.armsAll])
    (show (WTm.eq .res (.lit (.bool true))).value [] { args:=args,res:=some (.bool true),after:=args }=some (.bool (true==true)) from w_eq_bool (w_res rfl) w_lit) rfl
theorem attach_call {l:OpenLaw} {n:Nat} {q:Program} {loose:List Str} {XP:(Str->Option Value)->Heap->Prop} {YP:World->Heap->Prop} {d:DefRec}
    (hn:l.most=some n) (hdf:d.params.defaults=[])
    (call:∀ (w:World) (s₀ s₁:Shared) (mg mb:Str->Option Value) (fa:Addr) (o:Obj) (pm cd doc:Value) (a:Addr) (vs:List Value) (ns:List Int),
      Ground q loose [] XP w s₀ mg mb s₁.heap->YP w s₁.heap ->
      s₁.heap.get? fa=some o->o.data=.func (docDef d.name d.params d.body d.scope pm cd doc)->s₁.heap.CodeRec cd d.name->mg d.name=some (.ref fa) ->
      s₁.heap.get? a=some { cls:=.type "list",data:=.seq vs.toArray }->IntsAre vs ns->ns.length<=n->s₁.gens=#[] ->
      codeAny (model l.prog w) callerA (.call (.ref fa) ⟨[.ref a],[]⟩) (fun r s'=>r=.ok (.ret (.bool true))/\OldK s₁.heap s'.heap/\s'.os=s₁.os/\AllBare s'.gens) s₁) :
    WalkO q loose XP YP l.row.toRowW d [] (fun f vs=>PySem.call f vs):=by
  intro w s₀ s₁ mg mb G Y fa o pm cd doc dV kV ho hd hcd hD hmg hg args vals as hpre hlay hrd hwl hlo
  obtain rfl:dV=.none:=Dflts.none hD hdf
  obtain rfl:kV=.none:=Dflts.noKw hD
  obtain ⟨a,vs,ns,rfl,rfl,hobj,hints,hlen⟩:=ZfB hn hpre hwl
  refine enter_call (codeAny_mono (call w s₀ s₁ mg mb fa o pm cd doc a vs ns G Y ho (fd_plain hd) hcd hmg hobj hints hlen hg) fun r s' hq=>?_)
  obtain ⟨rfl,h2,h3,h4⟩:=hq
  exact ⟨.inl ⟨.bool true,.bool true,[],rfl,fun _=>rfl,.bool true,ZfQ l _,fun _=>⟨List.Pairwise.nil,fun _ hm=>(nomatch hm)⟩⟩,h2,h3,h4⟩
section
variable {prog:Program} {w:World} {A:Around} {E:Value->Shared->Prop} {s:Shared} {K:Frag}
end
end Att
namespace L2
open PySem PySem.Spec PyProof.Rows
theorem ZbR:∀ {vs:List Value} {ns:List Int},IntsAre vs ns->Vals (ns.map V.int) vs
  | _,_,.nil=>.nil
  | _,_,.cons n t h=>.cons ⟨t,rfl⟩ (ZbR h)
noncomputable def ZmP (H:Hp):Prop:=∀ b,H b=none\/∃ o xs,H b=some (.frz o (.lst xs))
theorem ZhP {P:Program} {w:World} {K:PySem.W.Frag} {mg mb:Str->Option Value} {CX:CXT} {k:Nat} {fa a:Addr} {fd:FuncData} {x:Str} {sp:Sp} {s₁:Shared} {vs:List Value} {ns:List Int}
    (KX:K.In s₁.heap) (hns:s₁.heap.Ns mainGlobals mg) (hb:s₁.heap.Ns builtinsNs mb) (hbb:∀ x:Str,x≠"__name__"->mb x=bootBuiltins x) (hlim:s₁.heap.NoLimit) (hg:s₁.gens=#[])
    (ha:s₁.heap.get? a=some { cls:=.type "list",data:=.seq vs.toArray }) (hi:IntsAre vs ns) (hl:ns.length<=sizeLine) (hr:Room k callerA)
    (F:∀ base:Heap,K.In base->base.Ns mainGlobals mg->Zif P w K mg base CX k fa fd [x] sp) (hbind:∀ (s:Shared) (u:Value),BindsTo s fd ⟨[u],[]⟩ [(x,u)])
    (hsp:∀ H:Hp,ZmP H->SqL K H a (ns.map V.int)->sp [.ref a] H (fun v _=>v=.bl true) fun _ _ _=>False)
    (hCX:∀ H e s',CX [] H s₁ (fun _ _ _=>False) e s'->False) :
    codeAny (model P w) callerA (.call (.ref fa) ⟨[.ref a],[]⟩) (fun r s'=>r=.ok (.ret (.bool true))/\OldK s₁.heap s'.heap/\s'.os=s₁.os/\AllBare s'.gens) s₁:=by
  have rv:=ZbR hi
  have lenV:=hi.length
  have core:∀ H:Hp,ZmP H->SqL K H a (ns.map V.int)->HOk P w H s₁.heap->(∀ b,H b≠none->b=a)->(H a≠none->K.lookup a=none) ->
      codeAny (model P w) callerA (.call (.ref fa) ⟨[.ref a],[]⟩) (fun r s'=>r=.ok (.ret (.bool true))/\OldK s₁.heap s'.heap/\s'.os=s₁.os/\AllBare s'.gens) s₁:=by
    intro H hO hS hok hA hK
    have base_of:∀ {b:Addr} {o:Obj},s₁.heap.get? b=some o->H b=none->(ZhX s₁.heap H).get? b=some o:=fun e n=>ZhW e n
    have noA:∀ {b:Addr} {o:Obj} {es:Array DictEntry} {ep:Nat},s₁.heap.get? b=some o->o.data=.dict es ep->H b=none:=fun {b o es ep} e d=>by
      cases q:H b with
      | none=>rfl
      | some u=>
        have e':b=a:=hA b (by rw [q]; simp)
        subst e'
        rw [ha] at e; cases e
        have d':Data.seq vs.toArray _=Data.dict es ep:=d
        cases d'
    have nsK:∀ {b:Addr} {m:Str->Option Value},s₁.heap.Ns b m->(ZhX s₁.heap H).Ns b m:=fun {b m} ⟨o,es,ep,e,d,r⟩=>⟨o,es,ep,base_of e (noA e d),d,r⟩
    have hKb:K.In (ZhX s₁.heap H):=fun b o e=>base_of (KX b o e) (by
      cases q:H b with
      | none=>rfl
      | some u=>
        have e':b=a:=hA b (by rw [q]; simp)
        subst e'
        rw [hK (by rw [q]; simp)] at e; cases e)
    have hM:Mod K mg (ZhX s₁.heap H):=⟨hKb,nsK hns,⟨mb,nsK hb,hbb⟩,let ⟨mc,h1,h2⟩:=hlim; ⟨mc,nsK h1,h2⟩⟩
    have e0:ZlU P w K mg (ZhX s₁.heap H) callerA [] s₁ H:=⟨rfl,hM,fun b o e=>Zjz e,Nat.le_of_eq (Zgv _ _),trivial,fun b hb=>absurd (show b∈([]:List Addr) from hb) (by simp),hok,.of_eq hg⟩
    refine codeAny_mono ((F _ hKb (nsK hns)).run callerA [] s₁ H ⟨[.ref a],[]⟩ [.ref a] [.ref a] _ _ hr e0 (hbind s₁ (.ref a)) (.cons rfl .nil) (hsp H hO hS)) fun r s' h=>?_
    cases r with
    | error e=>exact (hCX H e s' h).elim
    | ok fl=>
      cases fl with
      | next=>exact False.elim h
      | brk=>exact False.elim h
      | cont=>exact False.elim h
      | ret u=>
        obtain ⟨v,H',os,bare,un,hok',r',q⟩:=h
        have q':v=.bl true:=q
        subst q'
        obtain rfl:u=Value.bool true:=r'
        refine ⟨rfl,OldK.of_keep fun b o e=>?_,os,bare⟩
        cases q:H b with
        | none=>exact un.keep b o e q (by intro z; exact absurd (show b∈([]:List Addr) from z) (by simp)) (by simp)
        | some u=>
          rcases hO b with z | ⟨ob,xs,z⟩
          · rw [q] at z; cases z
          · have z2:=un.frzs b ob _ z
            obtain ⟨e1,_⟩:=hok b _ z
            obtain ⟨e2,_⟩:=hok' b _ z2
            rw [e] at e1; cases e1
            exact e2
  cases hk:K.lookup a with
  | some o=>
    have e:=KX a o hk
    rw [ha] at e
    cases e
    refine core (fun _=>none) (fun _=>.inl rfl) (.inr ⟨_,vs.toArray,_,hk,rfl,rfl,rfl,by rw [List.size_toArray,lenV]; exact hl,by simpa using rv⟩) (fun b u z=>by have z':(none:Option HO)=some u:=z; cases z') (fun b z=>absurd rfl z) fun z=>absurd rfl z
  | none=>
    refine core (fun b=>if b=a then some (.frz { cls:=.type "list",data:=.seq vs.toArray } (.lst (ns.map V.int))) else none) (fun b=>?_) (.inl (.inr ⟨{ cls:=.type "list",data:=.seq vs.toArray },if_pos rfl⟩)) (fun b u z=>?_) (fun b z=>?_) fun _=>hk
    · by_cases hb:b=a
      · exact .inr ⟨_,_,if_pos hb⟩
      · exact .inl (if_neg hb)
    · by_cases hb:b=a
      · have z':=(if_pos hb).symm.trans z
        cases z'
        subst hb
        exact ⟨ha,by rw [List.length_map]; exact hl,vs,_,rv,ha⟩
      · have z':=(if_neg hb).symm.trans z
        cases z'
    · by_cases hb:b=a
      · exact hb
      · exact absurd (if_neg hb) z
theorem walk_of {l:PySem.W.OpenLaw} {n k:Nat} {q:Program} {loose:List Str} {XP:(Str->Option Value)->Heap->Prop} {YP:World->Heap->Prop} {d:DefRec} {K:Params->PySem.W.Frag} {CX:World->CXT} {sp:World->Sp} {x:Str}
    (hn:l.most=some n) (hn2:n<=sizeLine) (hdf:d.params.defaults=[]) (hr:Room k callerA)
    (hY:∀ (w:World) (h:Heap),YP w h->(K w.params).In h)
    (F:∀ (w:World) (mg:Str->Option Value) (fa:Addr) (h:Heap),(K w.params).In h->h.Ns mainGlobals mg->mg d.name=some (.ref fa) ->
      ∃ fd:FuncData,(∀ (s:Shared) (u:Value),BindsTo s fd ⟨[u],[]⟩ [(x,u)]) /\
        ∀ base:Heap,(K w.params).In base->base.Ns mainGlobals mg->Zif l.prog w (K w.params) mg base (CX w) k fa fd [x] (sp w))
    (hsp:∀ (w:World) (H:Hp) (a:Addr) (ns:List Int),ns.length<=n->ZmP H->SqL (K w.params) H a (ns.map V.int)->sp w [.ref a] H (fun v _=>v=.bl true) fun _ _ _=>False)
    (hCX:∀ (w:World) (H:Hp) (s:Shared) (e:Value) (s':Shared),CX w [] H s (fun _ _ _=>False) e s'->False) :
    PySem.W.WalkO q loose XP YP l.row.toRowW d [] (fun f vs=>PySem.call f vs):=by
  refine Att.attach_call hn hdf fun w s₀ s₁ mg mb fa o pm cd doc a vs ns G Y ho hd hcd hmg hobj hints hlen hg=>?_
  have KX:=hY w _ Y
  obtain ⟨fd,hb,hF⟩:=F w mg fa _ KX G.T.g hmg
  exact ZhP KX G.T.g G.T.b G.T.builtins G.T.nolimit hg hobj hints (Nat.le_trans hlen hn2) hr hF hb (fun H hO hS=>hsp w H a ns hlen hO hS) fun H e s'=>hCX w H s₁ e s'
noncomputable def U4 (s:Stmt):Arguments:=match s with
  | .FunctionDef _ a _ _ _ _ _ _ _ _=>a
  | _=>{ posonlyargs:=[],args:=[],vararg:=none,kwonlyargs:=[],kw_defaults:=[],kwarg:=none,defaults:=[] }
noncomputable def Jh (s:Stmt):List Stmt:=match s with
  | .FunctionDef _ _ b _ _ _ _ _ _ _=>b
  | _=>[]
noncomputable def Zj (s:Stmt):Scope:=match s with
  | .FunctionDef _ _ _ _ _ _ sc _ _ _=>sc
  | _=>{ kind:=.function,names:=[],isGenerator:=false,isCoroutine:=false }
noncomputable abbrev CX0:CXT:=fun _ _ _ _ _ _=>False
noncomputable abbrev E0:XK:=fun _ _ _=>False
theorem Zmf {X:Cx}:Zhc CX0 X E0:=fun _ _ _ _ _ _ _ h=>h.elim
structure Fun (K:PySem.W.Frag) (x qual:Str) (st:Stmt) (f:Addr) (fd:FuncData):Prop where
  ex:∃ (oc:Value) (od:Option Addr) (kV doc pm:Value) (an:Option Addr) (cdv ct:Value) (osl:Array (Option Value)),
    fd=PySem.W.fnOf x qual (U4 st) (Jh st) (Zj st) .none kV doc pm an cdv ct/\K.lookup f=some ⟨oc,od,.func fd,osl⟩/\PySem.W.codeIn K cdv qual=true
  kp:PySem.W.keepIn K (.ref f)=true
section
variable {P:Program} {w:World} {K:PySem.W.Frag} {mg:Str->Option Value} {base:Heap}
theorem Fun.ok {x qual:Str} {st:Stmt} {f:Addr} {fd:FuncData} {N ps:List Str} {k:Nat} {sp:Sp} (F:Fun K x qual st f fd) (S:Zu N ps (Zj st)) (len:∀ vs H Q E,sp vs H Q E->vs.length=ps.length)
    (hbody:∀ (cdv:Value) (A:Around) (outer:List Env) (s:Shared) (H:Hp) (vs:List V) (Q:VK) (E:XK),Room k (A.deeper (envOfC qual (Zj st) s.heap.objs.size f cdv))->sp vs H Q E ->
      ∃ t,PSs (ZiH CX0 P w K mg base N qual (Zj st) f cdv A outer s H E).nox (Jh st) t/\t { nx:=fun _ H'=>Q .non H',rt:=Q } (start N vs) H):Zif P w K mg base CX0 (k+1) f fd ps sp:=by
  obtain ⟨oc,od,kV,doc,pm,an,cdv,ct,osl,rfl,lk,hcd⟩:=F.ex
  refine Zmy lk hcd S len fun A outer s H vs Q E hr hsp=>?_
  obtain ⟨t,h,q⟩:=hbody cdv A outer s H vs Q E hr hsp
  exact ⟨t,h.nox,q⟩
theorem Fun.binds {x qual:Str} {st:Stmt} {f:Addr} {fd:FuncData} {ps:List Str} (F:Fun K x qual st f fd)
    (h:∀ (kV doc pm:Value) (an:Option Addr) (cdv ct:Value) (us:List Value),us.length=ps.length->bindArgs (PySem.W.fnOf x qual (U4 st) (Jh st) (Zj st) .none kV doc pm an cdv ct) ⟨us,[]⟩=pure (ps.zip us)):Binds K fd ps []:=by
  obtain ⟨oc,od,kV,doc,pm,an,cdv,ct,osl,rfl,lk,hcd⟩:=F.ex
  exact .all (h kV doc pm an cdv ct)
theorem Zly {x qual:Str} {st:Stmt} {f:Addr} {oc:Value} {od an:Option Addr} {osl:Array (Option Value)} {kV doc pm cdv ct:Value} (l:K.lookup f=some ⟨oc,od,.func (PySem.W.fnOf x qual (U4 st) (Jh st) (Zj st) .none kV doc pm an cdv ct),osl⟩)
    (c:PySem.W.codeIn K cdv qual=true) (k:PySem.W.keepIn K (.ref f)=true):Fun K x qual st f (PySem.W.fnOf x qual (U4 st) (Jh st) (Zj st) .none kV doc pm an cdv ct):=⟨⟨oc,od,kV,doc,pm,an,cdv,ct,osl,rfl,l,c⟩,k⟩
end
section
variable {X:Cx}
theorem pv (i:Nat) {x:Str} {pos:Pos} (hN:X.N[i]?=some x:=by rfl) (hv:Vis X.env.scope x:=by first | exact Or.inl rfl | exact Or.inr (Or.inl rfl) | exact Or.inr (Or.inr rfl)) (hd:(x==("__debug__":Str))=false:=by decide)
    (hcd:(x==("__classdict__":Str))=false:=by decide):PE X (.Name x pos) (Zkl i):=ZkL hN hv hd hcd
end
theorem Zm5 {A B:Prop} (h:B):if false=true then A else B:=by
  rw [if_neg Bool.false_ne_true]
  exact h
theorem Zm4 {A B:Prop} (h:A):if true=true then A else B:=by
  rw [if_pos rfl]
  exact h
noncomputable def Same (H H':Hp):Prop:=∀ b o,H b=some o->H' b=some o
theorem Same.refl (H:Hp):Same H H:=fun _ _ h=>h
theorem Same.trans {H H1 H2:Hp} (a:Same H H1) (b:Same H1 H2):Same H H2:=fun c o h=>b c o (a c o h)
theorem Same.free {H H':Hp} (e:Same H H') {l:Addr} (h:H' l=Option.none):H l=Option.none:=by
  cases q:H l with
  | none=>rfl
  | some o=>
    rw [e l o q] at h
    cases h
theorem Same.seq {K:PySem.W.Frag} {H H':Hp} {a:Addr} {xs:List V} (e:Same H H') (h:SqL K H a xs):SqL K H' a xs:=by
  rcases h with (h | ⟨o,h⟩) | h
  · exact .inl (.inl (e _ _ h))
  · exact .inl (.inr ⟨o,e _ _ h⟩)
  · exact .inr h
end L2
namespace L3
open PySem PySem.Spec PyProof.Rows L2
inductive D where
  | non | bl (b:Bool) | int (i:Int) | str (x:Str) | tup (xs:List D) | lst (xs:List D)
  deriving Inhabited
noncomputable abbrev Fz:=Addr->Prop
mutual
noncomputable def Rep (K:PySem.W.Frag) (F:Fz) (H:Hp):D->V->Prop
  | .non,v=>v=.non
  | .bl b,v=>v=.bl b
  | .int i,v=>v=.int i
  | .str x,v=>v=.str x
  | .tup ds,v=>∃ a xs,v=.ref a/\SqT K H a xs/\RepL K F H ds xs
  | .lst ds,v=>∃ a xs,v=.ref a/\F a/\SqL K H a xs/\RepL K F H ds xs
noncomputable def RepL (K:PySem.W.Frag) (F:Fz) (H:Hp):List D->List V->Prop
  | [],xs=>xs=[]
  | d::ds,xs=>∃ y ys,xs=y::ys/\Rep K F H d y/\RepL K F H ds ys
end
structure Ext (K:PySem.W.Frag) (F:Fz) (H:Hp) (F':Fz) (H':Hp):Prop where
  sub:∀ a,F a->F' a
  ls:∀ a xs,F a->SqL K H a xs->SqL K H' a xs
  ts:∀ a xs,SqT K H a xs->SqT K H' a xs
theorem Ext.refl {K:PySem.W.Frag} {F:Fz} {H:Hp}:Ext K F H F H:=⟨fun _ h=>h,fun _ _ _ h=>h,fun _ _ h=>h⟩
theorem Ext.trans {K:PySem.W.Frag} {F F1 F2:Fz} {H H1 H2:Hp} (a:Ext K F H F1 H1) (b:Ext K F1 H1 F2 H2):Ext K F H F2 H2:=
  ⟨fun x h=>b.sub x (a.sub x h),fun x xs hf h=>b.ls x xs (a.sub x hf) (a.ls x xs hf h),fun x xs h=>b.ts x xs (a.ts x xs h)⟩
mutual
theorem Rep.ext {K:PySem.W.Frag} {F F':Fz} {H H':Hp} (e:Ext K F H F' H'):∀ {d:D} {v:V},Rep K F H d v->Rep K F' H' d v
  | .non,_,h=>h
  | .bl _,_,h=>h
  | .int _,_,h=>h
  | .str _,_,h=>h
  | .tup ds,_,h=>by
    unfold Rep at h ⊢
    obtain ⟨a,xs,rfl,ht,hr⟩:=h
    exact ⟨a,xs,rfl,e.ts a xs ht,RepL.ext e hr⟩
  | .lst ds,_,h=>by
    unfold Rep at h ⊢
    obtain ⟨a,xs,rfl,hf,hl,hr⟩:=h
    exact ⟨a,xs,rfl,e.sub a hf,e.ls a xs hf hl,RepL.ext e hr⟩
theorem RepL.ext {K:PySem.W.Frag} {F F':Fz} {H H':Hp} (e:Ext K F H F' H'):∀ {ds:List D} {vs:List V},RepL K F H ds vs->RepL K F' H' ds vs
  | [],_,h=>h
  | d::ds,_,h=>by
    unfold RepL at h ⊢
    obtain ⟨y,ys,rfl,h1,h2⟩:=h
    exact ⟨y,ys,rfl,Rep.ext e h1,RepL.ext e h2⟩
end
theorem RepL.length {K:PySem.W.Frag} {F:Fz} {H:Hp}:∀ {ds:List D} {vs:List V},RepL K F H ds vs->ds.length=vs.length
  | [],_,h=>by unfold RepL at h; subst h; rfl
  | d::ds,_,h=>by
    unfold RepL at h
    obtain ⟨y,ys,rfl,_,h2⟩:=h
    simp [RepL.length h2]
theorem RepL.nil {K:PySem.W.Frag} {F:Fz} {H:Hp}:RepL K F H [] []:=by unfold RepL; rfl
theorem RepL.cons {K:PySem.W.Frag} {F:Fz} {H:Hp} {d:D} {ds:List D} {v:V} {vs:List V} (h1:Rep K F H d v) (h2:RepL K F H ds vs):RepL K F H (d::ds) (v::vs):=by
  unfold RepL; exact ⟨v,vs,rfl,h1,h2⟩
theorem RepL.uncons {K:PySem.W.Frag} {F:Fz} {H:Hp} {d:D} {ds:List D} {vs:List V} (h:RepL K F H (d::ds) vs):∃ y ys,vs=y::ys/\Rep K F H d y/\RepL K F H ds ys:=by
  unfold RepL at h; exact h
theorem RepL.unnil {K:PySem.W.Frag} {F:Fz} {H:Hp} {vs:List V} (h:RepL K F H [] vs):vs=[]:=by unfold RepL at h; exact h
theorem RepL.get {K:PySem.W.Frag} {F:Fz} {H:Hp}:∀ {ds:List D} {vs:List V} {i:Nat} {d:D},RepL K F H ds vs->ds[i]?=some d->∃ v,vs[i]?=some v/\Rep K F H d v
  | [],_,_,_,_,e=>by simp at e
  | d::ds,_,0,d',h,e=>by
    obtain ⟨y,ys,rfl,h1,_⟩:=h.uncons
    simp at e; subst e
    exact ⟨y,rfl,h1⟩
  | d::ds,_,i+1,d',h,e=>by
    obtain ⟨y,ys,rfl,_,h2⟩:=h.uncons
    obtain ⟨v,e1,r⟩:=RepL.get (i:=i) h2 (by simpa using e)
    exact ⟨v,by simpa using e1,r⟩
theorem RepL.append {K:PySem.W.Frag} {F:Fz} {H:Hp}:∀ {ds es:List D} {vs ws:List V},RepL K F H ds vs->RepL K F H es ws->RepL K F H (ds++es) (vs++ws)
  | [],_,_,_,h,h'=>by rw [h.unnil]; exact h'
  | d::ds,es,_,ws,h,h'=>by
    obtain ⟨y,ys,rfl,h1,h2⟩:=h.uncons
    exact .cons h1 (RepL.append h2 h')
theorem RepL.take {K:PySem.W.Frag} {F:Fz} {H:Hp}:∀ {ds:List D} {vs:List V} (n:Nat),RepL K F H ds vs->RepL K F H (ds.take n) (vs.take n)
  | _,_,0,_=>by simp; exact .nil
  | [],_,_+1,h=>by rw [h.unnil]; simp; exact .nil
  | d::ds,_,n+1,h=>by
    obtain ⟨y,ys,rfl,h1,h2⟩:=h.uncons
    exact .cons h1 (RepL.take n h2)
theorem RepL.drop {K:PySem.W.Frag} {F:Fz} {H:Hp}:∀ {ds:List D} {vs:List V} (n:Nat),RepL K F H ds vs->RepL K F H (ds.drop n) (vs.drop n)
  | _,_,0,h=>h
  | [],_,_+1,h=>by rw [h.unnil]; simp; exact .nil
  | d::ds,_,n+1,h=>by
    obtain ⟨y,ys,rfl,h1,h2⟩:=h.uncons
    exact RepL.drop n h2
theorem RepL.reverse {K:PySem.W.Frag} {F:Fz} {H:Hp}:∀ {ds:List D} {vs:List V},RepL K F H ds vs->RepL K F H ds.reverse vs.reverse
  | [],_,h=>by rw [h.unnil]; exact .nil
  | d::ds,_,h=>by
    obtain ⟨y,ys,rfl,h1,h2⟩:=h.uncons
    rw [List.reverse_cons,List.reverse_cons]
    exact (RepL.reverse h2).append (.cons h1 .nil)
structure Grow (F:Fz) (H:Hp) (F':Fz) (H':Hp):Prop where
  same:Same H H'
  sub:∀ a,F a->F' a
  new:∀ a,F' a->F a\/(H a=none/\H' a≠none)
theorem Grow.refl {F:Fz} {H:Hp}:Grow F H F H:=⟨Same.refl H,fun _ h=>h,fun _ h=>.inl h⟩
theorem Same.tup {K:PySem.W.Frag} {H H':Hp} {a:Addr} {xs:List V} (e:Same H H') (h:SqT K H a xs):SqT K H' a xs:=by
  rcases h with (h | ⟨o,h⟩) | h
  · exact .inl (.inl (e _ _ h))
  · exact .inl (.inr ⟨o,e _ _ h⟩)
  · exact .inr h
theorem Grow.ext {K:PySem.W.Frag} {F F':Fz} {H H':Hp} (g:Grow F H F' H'):Ext K F H F' H':=⟨g.sub,fun _ _ _ h=>g.same.seq h,fun _ _ h=>Same.tup g.same h⟩
theorem Grow.trans {F F1 F2:Fz} {H H1 H2:Hp} (a:Grow F H F1 H1) (b:Grow F1 H1 F2 H2):Grow F H F2 H2:=
  ⟨a.same.trans b.same,fun x h=>b.sub x (a.sub x h),fun x h=>(b.new x h).elim (fun z=>(a.new x z).elim .inl fun ⟨z1,z2⟩=>.inr ⟨z1,fun z3=>z2 (b.same.free z3)⟩) fun ⟨z1,z2⟩=>.inr ⟨a.same.free z1,z2⟩⟩
theorem Grow.laid {F:Fz} {H:Hp} {p:Addr} {o:HO} (h:H p=none):Grow F H (fun a=>F a\/a=p) (upd H p o):=
  ⟨fun b u q=>by rw [ZO (ZL q h)]; exact q,fun a z=>.inl z,fun a z=>z.elim .inl fun e=>.inr (by rw [e,ZR]; exact ⟨h,by simp⟩)⟩
theorem Grow.laid0 {F:Fz} {H:Hp} {p:Addr} {o:HO} (h:H p=none):Grow F H F (upd H p o):=
  ⟨fun b u q=>by rw [ZO (ZL q h)]; exact q,fun a z=>z,fun a z=>.inl z⟩
theorem Rep.grow {K:PySem.W.Frag} {F F':Fz} {H H':Hp} {d:D} {v:V} (h:Rep K F H d v) (g:Grow F H F' H'):Rep K F' H' d v:=Rep.ext g.ext h
theorem RepL.grow {K:PySem.W.Frag} {F F':Fz} {H H':Hp} {d:List D} {v:List V} (h:RepL K F H d v) (g:Grow F H F' H'):RepL K F' H' d v:=RepL.ext g.ext h
inductive Sl where
  | no | val (d:D) | own (ds:List D)
noncomputable abbrev Rho:=List Sl
structure EnvOk (K:PySem.W.Frag) (F0:Fz) (H0:Hp) (F:Fz) (σ:L2.St) (H:Hp) (ρ:Rho):Prop where
  base:Grow F0 H0 F H
  val:∀ (i:Nat) d,ρ[i]?=some (.val d)->∃ v,σ[i]?=some (some v)/\Rep K F H d v
  own:∀ (i:Nat) ds,ρ[i]?=some (.own ds)->∃ a xs,σ[i]?=some (some (.ref a))/\H a=some (.lst xs)/\¬ F a/\H0 a=none/\RepL K F H ds xs
  inj:∀ (i j:Nat) ds es a,ρ[i]?=some (.own ds)->ρ[j]?=some (.own es)->σ[i]?=some (some (.ref a))->σ[j]?=some (some (.ref a))->i=j
  len:ρ.length=σ.length
  fz:∀ a,F a->H a≠none\/∃ o,K.lookup a=some o
theorem EnvOk.grow {K:PySem.W.Frag} {F0 F F':Fz} {H0 H H':Hp} {σ:L2.St} {ρ:Rho} (e:EnvOk K F0 H0 F σ H ρ) (g:Grow F H F' H'):EnvOk K F0 H0 F' σ H' ρ where
  base:=e.base.trans g
  val:=fun i d h=>let ⟨v,h1,h2⟩:=e.val i d h; ⟨v,h1,h2.grow g⟩
  own:=fun i ds h=>by
    obtain ⟨a,xs,h1,h2,h3,h4,h5⟩:=e.own i ds h
    refine ⟨a,xs,h1,g.same _ _ h2,fun z=>?_,h4,h5.grow g⟩
    rcases g.new a z with z | z
    · exact h3 z
    · rw [h2] at z; cases z.1
  inj:=e.inj
  len:=e.len
  fz:=fun a z=>by
    rcases g.new a z with z | z
    · rcases e.fz a z with z | z
      · exact .inl fun z2=>z (g.same.free z2)
      · exact .inr z
    · exact .inl z.2
noncomputable abbrev DE:=Rho->Option D
noncomputable abbrev DT:=Rho->Option Bool
noncomputable abbrev DA:=Rho->Option (List D)
inductive RdP (K:PySem.W.Frag) (f:DE) (σ:L2.St) (H:Hp) (Q:VK):Prop
  | mk (ρ:Rho) (F0:Fz) (H0:Hp) (F:Fz) (d:D) (ok:EnvOk K F0 H0 F σ H ρ) (e:f ρ=some d) (q:∀ v F' H',Grow F H F' H'->Rep K F' H' d v->Q v H')
noncomputable def rd (K:PySem.W.Frag) (f:DE):TE:=fun σ H Q=>RdP K f σ H Q
inductive Zn1 (K:PySem.W.Frag) (f:DT) (σ:L2.St) (H:Hp) (Q:Bool->Hp->Prop):Prop
  | mk (ρ:Rho) (F0:Fz) (H0:Hp) (F:Fz) (d:Bool) (ok:EnvOk K F0 H0 F σ H ρ) (e:f ρ=some d) (q:∀ F' H',Grow F H F' H'->Q d H')
noncomputable def rdT (K:PySem.W.Frag) (f:DT):TT:=fun σ H Q=>Zn1 K f σ H Q
inductive Zn6 (K:PySem.W.Frag) (f:DA) (σ:L2.St) (H:Hp) (Q:List V->Hp->Prop):Prop
  | mk (ρ:Rho) (F0:Fz) (H0:Hp) (F:Fz) (d:List D) (ok:EnvOk K F0 H0 F σ H ρ) (e:f ρ=some d) (q:∀ v F' H',Grow F H F' H'->RepL K F' H' d v->Q v H')
noncomputable def rdA (K:PySem.W.Frag) (f:DA):TA:=fun σ H Q=>Zn6 K f σ H Q
noncomputable def ED (X:Cx) (e:Expr) (f:DE):Prop:=PE X e (rd X.K f)
noncomputable def TD (X:Cx) (e:Expr) (f:DT):Prop:=PT X e (rdT X.K f)
noncomputable def WTD (X:Cx) (e:Expr) (f:DT):Prop:=PW X e (rdT X.K f)
noncomputable def AD (X:Cx) (es:List Expr) (f:DA):Prop:=PA X es (rdA X.K f)
theorem PE.imp {X:Cx} {e:Expr} {t t':TE} (h:PE X e t) (i:∀ σ H Q,t' σ H Q->t σ H Q):PE X e t':=fun pins s σ H Q I q=>h pins s σ H Q I (i σ H Q q)
theorem PT.imp {X:Cx} {e:Expr} {t t':TT} (h:PT X e t) (i:∀ σ H Q,t' σ H Q->t σ H Q):PT X e t':=fun pins s σ H Q I q=>h pins s σ H Q I (i σ H Q q)
theorem PW.imp {X:Cx} {e:Expr} {t t':TT} (h:PW X e t) (i:∀ σ H Q,t' σ H Q->t σ H Q):PW X e t':=fun wh pins s σ H Q I q=>h wh pins s σ H Q I (i σ H Q q)
theorem PA.imp {X:Cx} {e:List Expr} {t t':TA} (h:PA X e t) (i:∀ σ H Q,t' σ H Q->t σ H Q):PA X e t':=fun pos pins s σ H Q I q=>h pos pins s σ H Q I (i σ H Q q)
theorem PS.imp {X:Cx} {e:Stmt} {t t':TS} (h:PS X e t) (i:∀ D σ H,t' D σ H->t D σ H):PS X e t':=fun pins s σ H D I q=>h pins s σ H D I (i D σ H q)
theorem PSs.imp {X:Cx} {e:List Stmt} {t t':TS} (h:PSs X e t) (i:∀ D σ H,t' D σ H->t D σ H):PSs X e t':=fun pins s σ H D I q=>h pins s σ H D I (i D σ H q)
section
variable {X:Cx} {pos:Pos}
noncomputable def Ze (i:Nat):DE:=fun ρ=>match ρ[i]? with | some (.val d)=>some d | _=>none
noncomputable def Zf (d:D):DE:=fun _=>some d
theorem ZgJ {i:Nat} {ρ:Rho} {d:D} (h:Ze i ρ=some d):ρ[i]?=some (.val d):=by
  unfold Ze at h
  split at h
  · rename_i e; rw [e]; cases h; rfl
  · cases h
theorem Za {i:Nat} {e:Expr} (h:PE X e (Zkl i)):ED X e (Ze i):=PE.imp h fun σ H Q zq=>by
  obtain ⟨ρ,F0,H0,F,d,ok,e,q⟩:=zq
  obtain ⟨v,h1,h2⟩:=ok.val i d (ZgJ e)
  exact ⟨v,h1,q v F H .refl h2⟩
theorem Zd {i:Int} {j}:ED X (.Constant (.int i) j pos) (Zf (.int i)):=PE.imp Zis fun σ H Q zq=>by
  obtain ⟨ρ,F0,H0,F,d,ok,e,q⟩:=zq
  cases e; exact q _ F H .refl (by unfold Rep; rfl)
theorem QV {b:Bool} {j}:ED X (.Constant (.bool b) j pos) (Zf (.bl b)):=PE.imp Zme fun σ H Q zq=>by
  obtain ⟨ρ,F0,H0,F,d,ok,e,q⟩:=zq
  cases e; exact q _ F H .refl (by unfold Rep; rfl)
theorem ZgG {j}:ED X (.Constant .none j pos) (Zf .non):=PE.imp ZkR fun σ H Q zq=>by
  obtain ⟨ρ,F0,H0,F,d,ok,e,q⟩:=zq
  cases e; exact q _ F H .refl (by unfold Rep; rfl)
theorem ZgE {x:Str} {j}:ED X (.Constant (.str x) j pos) (Zf (.str x)):=PE.imp ZkO fun σ H Q zq=>by
  obtain ⟨ρ,F0,H0,F,d,ok,e,q⟩:=zq
  cases e; exact q _ F H .refl (by unfold Rep; rfl)
theorem Zbz {x:Str} {i:Int} {t:Tok} (hg:Gl X x) (hm:X.mg x=some (.int i t)) (hd:(x==("__debug__":Str))=false:=by decide):ED X (.Name x pos) (Zf (.int i)):=
  PE.imp (Zjq hg hm (v:=.int i) ⟨t,rfl⟩ hd) fun σ H Q ⟨ρ,F0,H0,F,d,ok,e,q⟩=>by cases e; exact q _ F H .refl (by unfold Rep; rfl)
inductive R2P (K:PySem.W.Frag) (r:D->D->Option D) (v u:V) (H:Hp) (Q:VK):Prop
  | mk (x y:D) (F:Fz) (d:D) (r1:Rep K F H x v) (r2:Rep K F H y u) (e:r x y=some d) (q:∀ w F' H',Grow F H F' H'->Rep K F' H' d w->Q w H')
noncomputable def r2 (K:PySem.W.Frag) (r:D->D->Option D):R2:=fun v u H Q=>R2P K r v u H Q
noncomputable def Zh (r:D->D->Option D) (f g:DE):DE:=fun ρ=>(f ρ).bind fun x=>(g ρ).bind fun y=>r x y
theorem bind_some {α β:Type} {o:Option α} {f:α->Option β} {b:β} (h:o.bind f=some b):∃ a,o=some a/\f a=some b:=by
  cases o with
  | none=>cases h
  | some a=>exact ⟨a,rfl,h⟩
theorem ZdR {K:PySem.W.Frag} {r:D->D->Option D} {f g:DE} {σ:L2.St} {H:Hp} {Q:VK} (h:rd K (Zh r f g) σ H Q):tOp (r2 K r) (rd K f) (rd K g) σ H Q:=by
  obtain ⟨ρ,F0,H0,F,d,ok,e,q⟩:=h
  obtain ⟨x,ex,e⟩:=bind_some e
  obtain ⟨y,ey,e⟩:=bind_some e
  exact ⟨ρ,F0,H0,F,x,ok,ex,fun v F1 H1 g1 r1=>⟨ρ,F0,H0,F1,y,ok.grow g1,ey,fun u F2 H2 g2 r2'=>
    ⟨x,y,F2,d,r1.grow g2,r2',e,fun w F3 H3 g3 r3=>q w F3 H3 (g1.trans (g2.trans g3)) r3⟩⟩⟩
noncomputable def Op2 (X:Cx) (f:Value->Value->Sem Value) (r:D->D->Option D):Prop:=OpR X f (r2 X.K r)
variable {a b c:Expr} {f g h:DE}
theorem Zi {op:Operator} {r:D->D->Option D} (ho:Op2 X (binaryOp op) r) (ha:ED X a f) (hb:ED X b g):ED X (.BinOp a op b pos) (Zh r f g):=
  PE.imp (Zmc ho ha hb) fun _ _ _=>ZdR
theorem Jo {op:CmpOp} {r:D->D->Option D} (ho:Op2 X (compareOp op) r) (ha:ED X a f) (hb:ED X b g) (hm:behindInMarks op b=false):ED X (.Compare a [op] [b] pos) (Zh r f g):=
  PE.imp (Zjs ho ha hb hm) fun _ _ _=>ZdR
noncomputable def Zo (f:DE):DT:=fun ρ=>(f ρ).bind fun d=>match d with | .bl b=>some b | _=>none
theorem Zbe {K:PySem.W.Frag} {f:DE} {σ:L2.St} {H:Hp} {Q:Bool->Hp->Prop} (h:rdT K (Zo f) σ H Q):rd K f σ H fun x H'=>∃ k,x=.bl k/\Q k H':=by
  obtain ⟨ρ,F0,H0,F,k,ok,e,q⟩:=h
  obtain ⟨d,ed,e⟩:=bind_some e
  cases d with
  | bl b=>
    cases e
    exact ⟨ρ,F0,H0,F,_,ok,ed,fun v F' H' g r=>⟨k,by unfold Rep at r; exact r,q F' H' g⟩⟩
  | _=>cases e
theorem ZX {op:CmpOp} {r:D->D->Option D} (ho:Op2 X (compareOp op) r) (ha:ED X a f) (hb:ED X b g) (hm:behindInMarks op b=false):TD X (.Compare a [op] [b] pos) (Zo (Zh r f g)):=
  PT.imp (Zjg ho ha hb hm) fun σ H Q q=>ZdR (Zbe q)
theorem Ys (ha:ED X a f) (he:∀ whole,isTrue a X.env whole=(do let v <- whole; standAt a.pos; holding [v] (truthy v)):=by intro _; rfl):TD X a (Zo f):=
  PT.imp (ZkE ha he) fun σ H Q q=>Zbe q
noncomputable def Ue (r r':D->D->Option D) (f g h:DE):DE:=fun ρ=>(f ρ).bind fun x=>(g ρ).bind fun y=>(r x y).bind fun z=>match z with
  | .bl true=>(h ρ).bind fun u=>r' y u
  | .bl false=>some (.bl false)
  | _=>none
theorem ZdS {K:PySem.W.Frag} {r r':D->D->Option D} {f g h:DE} {σ:L2.St} {H:Hp} {Q:VK} (q:rd K (Ue r r' f g h) σ H Q):Zfk (r2 K r) (r2 K r') (rd K f) (rd K g) (rd K h) σ H Q:=by
  obtain ⟨ρ,F0,H0,F,d,ok,e,q⟩:=q
  obtain ⟨x,ex,e⟩:=bind_some e
  obtain ⟨y,ey,e⟩:=bind_some e
  obtain ⟨z,ez,e⟩:=bind_some e
  refine ⟨ρ,F0,H0,F,x,ok,ex,fun v F1 H1 g1 r1=>⟨ρ,F0,H0,F1,y,ok.grow g1,ey,fun u F2 H2 g2 r2'=>
    ⟨x,y,F2,z,r1.grow g2,r2',ez,fun w F3 H3 g3 r3=>?_⟩⟩⟩
  cases z with
  | bl k=>
    refine ⟨k,by unfold Rep at r3; exact r3,?_⟩
    cases k with
    | true=>
      rw [if_pos rfl]
      obtain ⟨u',eu,e⟩:=bind_some e
      exact ⟨ρ,F0,H0,F3,u',((ok.grow g1).grow g2).grow g3,eu,fun w' F4 H4 g4 r4=>⟨y,u',F4,d,(r2'.grow g3).grow g4,r4,e,fun w5 F5 H5 g5 r5=>q w5 F5 H5 (g1.trans (g2.trans (g3.trans (g4.trans g5)))) r5⟩⟩
    | false=>
      rw [if_neg (by decide)]
      cases e
      exact q _ F3 H3 (g1.trans (g2.trans g3)) (by unfold Rep; rfl)
  | _=>cases e
theorem Uv {op op':CmpOp} {r r':D->D->Option D} (ho:Op2 X (compareOp op) r) (ho':Op2 X (compareOp op') r') (ha:ED X a f) (hb:ED X b g) (hc:ED X c h)
    (hm:lastMarks [op,op'] [b,c]=false:=by with_unfolding_all rfl):ED X (.Compare a [op,op'] [b,c] pos) (Ue r r' f g h):=
  PE.imp (ZhD ho ho' ha hb hc hm) fun _ _ _=>ZdS
theorem Zhk {op op':CmpOp} {r r':D->D->Option D} (ho:Op2 X (compareOp op) r) (ho':Op2 X (compareOp op') r') (ha:ED X a f) (hb:ED X b g) (hc:ED X c h)
    (hm:lastMarks [op,op'] [b,c]=false:=by with_unfolding_all rfl):TD X (.Compare a [op,op'] [b,c] pos) (Zo (Ue r r' f g h)):=
  PT.imp (Zhw ho ho' ha hb hc hm) fun σ H Q q=>ZdS (Zbe q)
noncomputable def Zao (f g:DE):DE:=fun ρ=>(f ρ).bind fun x=>match x with | .bl true=>g ρ | .bl false=>some (.bl false) | _=>none
noncomputable def dOr (f g:DE):DE:=fun ρ=>(f ρ).bind fun x=>match x with | .bl true=>some (.bl true) | .bl false=>g ρ | _=>none
noncomputable def ZlP (f:DE):DE:=fun ρ=>(f ρ).bind fun x=>match x with | .bl k=>some (.bl (!k)) | _=>none
noncomputable def Y1 (f g:DT):DT:=fun ρ=>(f ρ).bind fun x=>match x with | true=>g ρ | false=>some false
noncomputable def ZbT (f g:DT):DT:=fun ρ=>(f ρ).bind fun x=>match x with | true=>some true | false=>g ρ
noncomputable def Qa (f:DT):DT:=fun ρ=>(f ρ).bind fun x=>some (!x)
variable {rest:List Expr} {t u:DT}
theorem Qv {op} (h:ED X a f):ED X (.BoolOp op [a] pos) f:=ZkP h
theorem Y6 (ha:ED X a f) (hb:ED X (.BoolOp .And (b::rest) pos) g):ED X (.BoolOp .And (a::b::rest) pos) (Zao f g):=PE.imp (ZkV ha hb) fun σ H Q zq=>by
  obtain ⟨ρ,F0,H0,F,d,ok,e,q⟩:=zq
  obtain ⟨x,ex,e⟩:=bind_some e
  refine ⟨ρ,F0,H0,F,x,ok,ex,fun v F1 H1 g1 r1=>?_⟩
  cases x with
  | bl k=>
    refine ⟨k,by unfold Rep at r1; exact r1,?_⟩
    cases k with
    | true=>rw [if_pos rfl]; exact ⟨ρ,F0,H0,F1,d,ok.grow g1,e,fun w F2 H2 g2 r2=>q w F2 H2 (g1.trans g2) r2⟩
    | false=>rw [if_neg (by decide)]; cases e; exact q _ F1 H1 g1 (by unfold Rep; rfl)
  | _=>cases e
theorem Zmz (ha:ED X a f) (hb:ED X (.BoolOp .Or (b::rest) pos) g):ED X (.BoolOp .Or (a::b::rest) pos) (dOr f g):=PE.imp (Zmb ha hb) fun σ H Q zq=>by
  obtain ⟨ρ,F0,H0,F,d,ok,e,q⟩:=zq
  obtain ⟨x,ex,e⟩:=bind_some e
  refine ⟨ρ,F0,H0,F,x,ok,ex,fun v F1 H1 g1 r1=>?_⟩
  cases x with
  | bl k=>
    refine ⟨k,by unfold Rep at r1; exact r1,?_⟩
    cases k with
    | false=>rw [if_neg (by decide)]; exact ⟨ρ,F0,H0,F1,d,ok.grow g1,e,fun w F2 H2 g2 r2=>q w F2 H2 (g1.trans g2) r2⟩
    | true=>rw [if_pos rfl]; cases e; exact q _ F1 H1 g1 (by unfold Rep; rfl)
  | _=>cases e
theorem ZiE (ha:ED X a f):ED X (.UnaryOp .Not a pos) (ZlP f):=PE.imp (ZkQ ha) fun σ H Q zq=>by
  obtain ⟨ρ,F0,H0,F,d,ok,e,q⟩:=zq
  obtain ⟨x,ex,e⟩:=bind_some e
  refine ⟨ρ,F0,H0,F,x,ok,ex,fun v F1 H1 g1 r1=>?_⟩
  cases x with
  | bl k=>refine ⟨k,by unfold Rep at r1; exact r1,?_⟩; cases e; exact q _ F1 H1 g1 (by unfold Rep; rfl)
  | _=>cases e
theorem Jr (ha:TD X a t):WTD X (.BoolOp .And [a] pos) t:=Zjd ha
theorem JL (ha:TD X a t):WTD X (.BoolOp .Or [a] pos) t:=ZkC ha
theorem Q4 (ha:TD X a t) (hb:WTD X (.BoolOp .And (b::rest) pos) u):WTD X (.BoolOp .And (a::b::rest) pos) (Y1 t u):=PW.imp (ZkD ha hb) fun σ H Q zq=>by
  obtain ⟨ρ,F0,H0,F,d,ok,e,q⟩:=zq
  obtain ⟨x,ex,e⟩:=bind_some e
  refine ⟨ρ,F0,H0,F,x,ok,ex,fun F1 H1 g1=>?_⟩
  cases x with
  | true=>rw [if_pos rfl]; exact ⟨ρ,F0,H0,F1,d,ok.grow g1,e,fun F2 H2 g2=>q F2 H2 (g1.trans g2)⟩
  | false=>rw [if_neg (by decide)]; cases e; exact q F1 H1 g1
theorem UC (ha:TD X a t) (hb:WTD X (.BoolOp .Or (b::rest) pos) u):WTD X (.BoolOp .Or (a::b::rest) pos) (ZbT t u):=PW.imp (Zl8 ha hb) fun σ H Q zq=>by
  obtain ⟨ρ,F0,H0,F,d,ok,e,q⟩:=zq
  obtain ⟨x,ex,e⟩:=bind_some e
  refine ⟨ρ,F0,H0,F,x,ok,ex,fun F1 H1 g1=>?_⟩
  cases x with
  | false=>rw [if_neg (by decide)]; exact ⟨ρ,F0,H0,F1,d,ok.grow g1,e,fun F2 H2 g2=>q F2 H2 (g1.trans g2)⟩
  | true=>rw [if_pos rfl]; cases e; exact q F1 H1 g1
theorem ZcZ (h:WTD X a t):TD X a t:=L2.PW.pt h
theorem UD (ha:TD X a t):TD X (.UnaryOp .Not a pos) (Qa t):=PT.imp (ZkF ha) fun σ H Q zq=>by
  obtain ⟨ρ,F0,H0,F,d,ok,e,q⟩:=zq
  obtain ⟨x,ex,e⟩:=bind_some e
  cases e
  exact ⟨ρ,F0,H0,F,x,ok,ex,fun F1 H1 g1=>q F1 H1 g1⟩
noncomputable def r1 (K:PySem.W.Frag) (r:D->Option D):V->Hp->VK->Prop:=fun v H Q=>∃ x F d,Rep K F H x v/\r x=some d/\∀ w F' H',Grow F H F' H'->Rep K F' H' d w->Q w H'
noncomputable def YO (r:D->Option D) (f:DE):DE:=fun ρ=>(f ρ).bind r
noncomputable def Op1 (X:Cx) (f:Value->Sem Value) (r:D->Option D):Prop:=UnR X f (r1 X.K r)
theorem J9 {op:UnaryOp} {r:D->Option D} (ho:Op1 X (unaryOp op) r) (ha:ED X a f):ED X (.UnaryOp op a pos) (YO r f):=PE.imp (ZkM ho ha) fun σ H Q zq=>by
  obtain ⟨ρ,F0,H0,F,d,ok,e,q⟩:=zq
  obtain ⟨x,ex,e⟩:=bind_some e
  exact ⟨ρ,F0,H0,F,x,ok,ex,fun v F1 H1 g1 r1=>⟨x,F1,d,r1,e,fun w F2 H2 g2 r2=>q w F2 H2 (g1.trans g2) r2⟩⟩
noncomputable def Zm:DA:=fun _=>some []
noncomputable def Zc (f:DE) (a:DA):DA:=fun ρ=>(f ρ).bind fun x=>(a ρ).bind fun xs=>some (x::xs)
variable {es:List Expr} {as:DA}
theorem Zg:AD X [] Zm:=PA.imp Zit fun σ H Q ⟨ρ,F0,H0,F,d,ok,e,q⟩=>by cases e; exact q _ F H .refl .nil
theorem Zb (ha:ED X a f) (hr:AD X es as) (hs:starEach (a::es) X.env=(false,eval a X.env)::starEach es X.env:=by rfl):AD X (a::es) (Zc f as):=PA.imp (Zf1 ha hr hs) fun σ H Q zq=>by
  obtain ⟨ρ,F0,H0,F,d,ok,e,q⟩:=zq
  obtain ⟨x,ex,e⟩:=bind_some e
  obtain ⟨xs,exs,e⟩:=bind_some e
  cases e
  exact ⟨ρ,F0,H0,F,x,ok,ex,fun v F1 H1 g1 r1=>⟨ρ,F0,H0,F1,xs,ok.grow g1,exs,fun vs F2 H2 g2 r2=>q _ F2 H2 (g1.trans g2) (.cons (r1.grow g2) r2)⟩⟩
noncomputable def lim:Nat:=100000
theorem UE {n:Nat} (h:n<=lim):n<=sizeLine:=by have:sizeLine=16777216:=sizeLine_eq; unfold lim at h; omega
noncomputable def Z9 (as:DA):DE:=fun ρ=>(as ρ).bind fun xs=>if xs.length<=lim then some (.tup xs) else none
noncomputable def Wa (as:DA):DE:=fun ρ=>(as ρ).bind fun xs=>if xs.length<=lim then some (.lst xs) else none
theorem Yp {c:Prop} [Decidable c] {α:Type} {x y:α} (h:(if c then some x else none)=some y):c/\x=y:=by
  by_cases hc:c
  · rw [if_pos hc] at h; exact ⟨hc,Option.some.inj h⟩
  · rw [if_neg hc] at h; cases h
theorem ZP {x1} (ha:AD X es as):ED X (.Tuple es x1 pos) (Z9 as):=PE.imp (ZkN ha) fun σ H Q zq=>by
  obtain ⟨ρ,F0,H0,F,d,ok,e,q⟩:=zq
  obtain ⟨xs,exs,e⟩:=bind_some e
  obtain ⟨hl,rfl⟩:=Yp e
  refine ⟨ρ,F0,H0,F,xs,ok,exs,fun vs F1 H1 g1 r1=>⟨by rw [<-r1.length]; exact UE hl,fun p hp=>q _ F1 _ (g1.trans (.laid0 hp)) ?_⟩⟩
  unfold Rep
  exact ⟨p,vs,rfl,.of ZR,r1.grow (.laid0 hp)⟩
theorem YR {K:PySem.W.Frag} {F:Fz} {H:Hp} {p:Addr} {ds:List D} {vs:List V} (hp:H p=none) (r:RepL K F H ds vs):Rep K (fun a=>F a\/a=p) (upd H p (.lst vs)) (.lst ds) (.ref p):=by
  unfold Rep
  exact ⟨p,vs,rfl,.inr rfl,.of ZR,r.grow (.laid hp)⟩
theorem Ua (ha:AD X es as):ED X (.List es pos) (Wa as):=PE.imp (ZkS ha) fun σ H Q zq=>by
  obtain ⟨ρ,F0,H0,F,d,ok,e,q⟩:=zq
  obtain ⟨xs,exs,e⟩:=bind_some e
  obtain ⟨hl,rfl⟩:=Yp e
  exact ⟨ρ,F0,H0,F,xs,ok,exs,fun vs F1 H1 g1 r1=>⟨by rw [<-r1.length]; exact UE hl,fun p hp=>q _ _ _ (g1.trans (.laid hp)) (YR hp r1)⟩⟩
inductive RCP (K:PySem.W.Frag) (r:List D->Option D) (vs:List V) (H:Hp) (Q:VK):Prop
  | mk (xs:List D) (F:Fz) (d:D) (r1:RepL K F H xs vs) (e:r xs=some d) (q:∀ w F' H',Grow F H F' H'->Rep K F' H' d w->Q w H')
noncomputable def rC (K:PySem.W.Frag) (r:List D->Option D):List V->Hp->VK->Prop:=fun vs H Q=>RCP K r vs H Q
noncomputable def ZN (r:List D->Option D) (as:DA):DE:=fun ρ=>(as ρ).bind r
noncomputable def ZbP (X:Cx) (f:Value) (r:List D->Option D):Prop:=ZaF X f (rC X.K r)
theorem ZfO {K:PySem.W.Frag} {r:List D->Option D} {as:DA} {σ:L2.St} {H:Hp} {Q:VK} (h:rd K (ZN r as) σ H Q):tCB (rC K r) (rdA K as) σ H Q:=by
  obtain ⟨ρ,F0,H0,F,d,ok,e,q⟩:=h
  obtain ⟨xs,exs,e⟩:=bind_some e
  exact ⟨ρ,F0,H0,F,xs,ok,exs,fun vs F1 H1 g1 r1=>⟨xs,F1,d,r1,e,fun w F2 H2 g2 r2=>q w F2 H2 (g1.trans g2) r2⟩⟩
theorem ZD {id:String} {x:Str} {p:Pos} {e:Expr} {r:List D->Option D} (hc:ZbP X (.builtin id) r) (hg:Gl X x) (hm:X.mg x=none) (hv:bootBuiltins x=some (.builtin id)) (ha:AD X (e::es) as) (hn:x≠"__name__":=by decide) (hdb:(x==("__debug__":Str))=false:=by decide)
    (he:starEach (e::es) X.env=(false,eval e X.env)::starEach es X.env:=by rfl) (hpl:(backTo pos (starEach es X.env)).any (·.1)=false:=by rfl):ED X (.Call (.Name x p) (e::es) [] pos) (ZN r as):=
  PE.imp (ZhE hc hg hm hv ha hn hdb he hpl) fun _ _ _=>ZfO
theorem Uc {T:String} {x:Str} {p:Pos} {e:Expr} {r:List D->Option D} (hc:ZbP X (.type T) r) (hg:Gl X x) (hm:X.mg x=none) (hv:bootBuiltins x=some (.type T)) (ha:AD X (e::es) as) (hn:x≠"__name__":=by decide) (hdb:(x==("__debug__":Str))=false:=by decide)
    (he:starEach (e::es) X.env=(false,eval e X.env)::starEach es X.env:=by rfl) (hpl:(backTo pos (starEach es X.env)).any (·.1)=false:=by rfl):ED X (.Call (.Name x p) (e::es) [] pos) (ZN r as):=
  PE.imp (ZfY hc hg hm hv ha hn hdb he hpl) fun _ _ _=>ZfO
noncomputable def spD (K:PySem.W.Frag) (n:Nat) (fn:List D->Option D):Sp:=fun vs H Q _=>∃ xs F d,xs.length=n/\RepL K F H xs vs/\(∀ a,F a->H a≠none\/∃ o,K.lookup a=some o)/\fn xs=some d/\∀ w F' H',Grow F H F' H'->Rep K F' H' d w->Q w H'
noncomputable def FnD (P:Program) (w:World) (K:PySem.W.Frag) (mg:Str->Option Value) (base:Heap) (k:Nat) (f:Addr) (fd:FuncData) (ps:List Str) (fn:List D->Option D):Prop:=Zif P w K mg base CX0 k f fd ps (spD K ps.length fn)
noncomputable def dFn (n:Nat) (fn:List D->Option D) (as:DA):DE:=fun ρ=>(as ρ).bind fun xs=>if xs.length=n then fn xs else none
theorem ZmA {k:Nat} {f:Addr} {fd:FuncData} {ps:List Str} {fn:List D->Option D} {x:Str} {p:Pos} {e:Expr} (F:FnD X.prog X.w X.K X.mg X.base k f fd ps fn) (hr:Room k X.A) (hg:Gl X x) (hm:X.mg x=some (.ref f)) (hk:PySem.W.keepIn X.K (.ref f)=true) (hb:Binds X.K fd ps [])
    (ha:AD X (e::es) as) (hdb:(x==("__debug__":Str))=false:=by decide) (he:starEach (e::es) X.env=(false,eval e X.env)::starEach es X.env:=by rfl) (hpl:(backTo pos (starEach es X.env)).any (·.1)=false:=by rfl) :
    ED X (.Call (.Name x p) (e::es) [] pos) (dFn ps.length fn as):=PE.imp (Zjt F hr hg hm hk hb .nil Zmf ha hdb he hpl) fun σ H Q zq=>by
  obtain ⟨ρ,F0,H0,Fr,d,ok,e,q⟩:=zq
  obtain ⟨xs,exs,e⟩:=bind_some e
  by_cases hl:xs.length=ps.length
  · rw [if_pos hl] at e
    refine ⟨ρ,F0,H0,Fr,xs,ok,exs,fun vs F1 H1 g1 r1=>?_⟩
    show spD X.K ps.length fn (vs++[]) H1 Q E0
    rw [List.append_nil]
    exact ⟨xs,F1,d,hl,r1,(ok.grow g1).fz,e,fun w F2 H2 g2 r2=>q w F2 H2 (g1.trans g2) r2⟩
  · rw [if_neg hl] at e; cases e
end
theorem Yt {K:PySem.W.Frag} {F:Fz} {H:Hp} (i:Int):Rep K F H (.int i) (.int i):=by unfold Rep; rfl
theorem Vc {K:PySem.W.Frag} {F:Fz} {H:Hp} (i:Bool):Rep K F H (.bl i) (.bl i):=by unfold Rep; rfl
mutual
noncomputable def JG:D->PyData
  | .non=>.none
  | .bl b=>.bool b
  | .int i=>.int i
  | .str x=>.str x
  | .tup xs=>.tuple (Qx xs)
  | .lst xs=>.list (Qx xs)
noncomputable def Qx:List D->List PyData
  | []=>[]
  | d::ds=>JG d::Qx ds
end
section
variable {X:Cx} {pins:List (Addr×Obj)} {σ:L2.St} {H:Hp} {s:Shared} {F:Fz}
mutual
theorem Qn (I:Inv X pins σ H s):∀ {d:D} {v:V} {u:Value},Rep X.K F H d v->RelV v u->∃ as,Reads s.heap u (JG d) as
  | .non,v,u,h,r=>by unfold Rep at h; subst h; cases r; exact ⟨_,.none⟩
  | .bl b,v,u,h,r=>by unfold Rep at h; subst h; cases r; exact ⟨_,.bool b⟩
  | .int i,v,u,h,r=>by unfold Rep at h; subst h; obtain ⟨t,rfl⟩:=r; exact ⟨_,.int i t⟩
  | .str x,v,u,h,r=>by unfold Rep at h; subst h; obtain ⟨t,rfl⟩:=r; exact ⟨_,.str x t⟩
  | .tup ds,v,u,h,r=>by
    unfold Rep at h
    obtain ⟨a,xs,rfl,hq,hl⟩:=h
    cases r
    obtain ⟨its,rv,⟨o,e,c,n,hd⟩,_⟩:=I.tuple hq
    obtain ⟨as,ra⟩:=Up I hl rv
    exact ⟨_,.tuple e c hd (by simpa using ra)⟩
  | .lst ds,v,u,h,r=>by
    unfold Rep at h
    obtain ⟨a,xs,rfl,_,hq,hl⟩:=h
    cases r
    obtain ⟨its,rv,pl,_⟩:=I.list hq
    obtain ⟨o,e,c,n,hd⟩:=pl.isList
    obtain ⟨as,ra⟩:=Up I hl rv
    exact ⟨_,.list e c hd (by simpa using ra)⟩
theorem Up (I:Inv X pins σ H s):∀ {ds:List D} {vs:List V} {us:List Value},RepL X.K F H ds vs->Vals vs us->∃ as,ReadsAll s.heap us (Qx ds) as
  | [],vs,us,h,r=>by rw [h.unnil] at r; cases r; exact ⟨_,.nil⟩
  | d::ds,vs,us,h,r=>by
    obtain ⟨y,ys,rfl,h1,h2⟩:=h.uncons
    cases r with
    | cons r1 r2=>
      obtain ⟨as,a1⟩:=Qn I h1 r1
      obtain ⟨bs,a2⟩:=Up I h2 r2
      exact ⟨_,.cons a1 a2⟩
end
end
noncomputable def okD (d:D):Bool:=(JG d).canLay0&&decide ((JG d).depth<=30)
noncomputable def deq (x y:D):Bool:=PyData.eqv (JG x) (JG y)
noncomputable def U8 (x y:D):Option D:=if okD x&&okD y then some (.bl (deq x y)) else none
noncomputable def ZbB (x y:D):Option D:=if okD x&&okD y then some (.bl (!deq x y)) else none
theorem okD.can {d:D} (h:okD d=true):(JG d).canLay0=true:=(Bool.and_eq_true_iff.mp h).1
theorem okD.dep {d:D} (h:okD d=true):(JG d).depth<=30:=of_decide_eq_true (Bool.and_eq_true_iff.mp h).2
section
variable {X:Cx}
theorem ZdW (hu:X.A.units+64 < cLine):Op2 X (compareOp .Eq) U8:=by
  intro pins s σ H x y v u Q I rx ry h
  obtain ⟨dx,dy,F,d,r1,r2,e,q⟩:=h
  obtain ⟨hk,rfl⟩:=Yp e
  obtain ⟨k1,k2⟩:=Bool.and_eq_true_iff.mp hk
  obtain ⟨as,a1⟩:=Qn I r1 rx
  obtain ⟨bs,a2⟩:=Qn I r2 ry
  have d1:=okD.dep k1; have d2:=okD.dep k2
  exact SeqAt.eqOverData _ _ _ _ _ _ _ _ _ _ _ _ a1 a2 (okD.can k1) (okD.can k2) (by have:min (JG dx).depth (JG dy).depth<=30:=Nat.le_trans (Nat.min_le_left _ _) d1; omega) ⟨.bl _,H,I,rfl,q _ F H .refl (Vc _)⟩
theorem Ziu (hu:X.A.units+64 < cLine):Op2 X (compareOp .NotEq) ZbB:=by
  intro pins s σ H x y v u Q I rx ry h
  obtain ⟨dx,dy,F,d,r1,r2,e,q⟩:=h
  obtain ⟨hk,rfl⟩:=Yp e
  obtain ⟨k1,k2⟩:=Bool.and_eq_true_iff.mp hk
  obtain ⟨as,a1⟩:=Qn I r1 rx
  obtain ⟨bs,a2⟩:=Qn I r2 ry
  have d1:=okD.dep k1; have d2:=okD.dep k2
  exact SeqAt.neOverData _ _ _ _ _ _ _ _ _ _ _ _ a1 a2 (okD.can k1) (okD.can k2) (by have:min (JG dx).depth (JG dy).depth<=30:=Nat.le_trans (Nat.min_le_left _ _) d1; omega) ⟨.bl _,H,I,rfl,q _ F H .refl (Vc _)⟩
noncomputable def dIn (x:D):D->Option Bool
  | .tup xs=>if okD x&&okD (.tup xs) then some (xs.any fun y=>deq y x) else none
  | .lst xs=>if okD x&&okD (.lst xs) then some (xs.any fun y=>deq y x) else none
  | _=>none
noncomputable def ZiG (x y:D):Option D:=(dIn x y).map .bl
theorem WB (x:D):∀ xs:List D,(Qx xs).any (fun y=>PyData.eqv y (JG x))=xs.any fun y=>deq y x
  | []=>by simp [Qx]
  | y::xs=>by simp [Qx,deq,WB x xs]
theorem ZlO (hu:X.A.units+64 < cLine):Op2 X (compareOp .In) ZiG:=by
  intro pins s σ H x y v u Q I rx ry h
  obtain ⟨dx,dy,F,d,r1,r2,e,q⟩:=h
  obtain ⟨as,a1⟩:=Qn I r1 rx
  obtain ⟨bs,a2⟩:=Qn I r2 ry
  cases dy with
  | tup ds=>
    have e:Option.map D.bl (if (okD dx&&okD (.tup ds))=true then some (ds.any fun y=>deq y dx) else none)=some d:=e
    by_cases hk:(okD dx&&okD (.tup ds))=true
    · rw [if_pos hk] at e
      cases e
      obtain ⟨k1,k2⟩:=Bool.and_eq_true_iff.mp hk
      have d1:=okD.dep k1; have d2:=okD.dep k2; have c2:=(okD.can k2)
      simp only [JG,PyData.canLay0,PyData.depth] at a2 d2 c2
      refine SeqAt.in_tuple_reads a2 a1 c2 (okD.can k1) (by have:min (PyData.depthAll (Qx ds)) (JG dx).depth<=30:=Nat.le_trans (Nat.min_le_right _ _) d1; omega) ⟨.bl _,H,I,rfl,q _ F H .refl ?_⟩
      rw [WB]; exact Vc _
    · rw [if_neg hk] at e; cases e
  | lst ds=>
    have e:Option.map D.bl (if (okD dx&&okD (.lst ds))=true then some (ds.any fun y=>deq y dx) else none)=some d:=e
    by_cases hk:(okD dx&&okD (.lst ds))=true
    · rw [if_pos hk] at e
      cases e
      obtain ⟨k1,k2⟩:=Bool.and_eq_true_iff.mp hk
      have d1:=okD.dep k1; have d2:=okD.dep k2; have c2:=(okD.can k2)
      simp only [JG,PyData.canLay0,PyData.depth] at a2 d2 c2
      refine SeqAt.in_list_reads a2 a1 c2 (okD.can k1) (by have:min (PyData.depthAll (Qx ds)) (JG dx).depth<=30:=Nat.le_trans (Nat.min_le_right _ _) d1; omega) ⟨.bl _,H,I,rfl,q _ F H .refl ?_⟩
      rw [WB]; exact Vc _
    · rw [if_neg hk] at e; cases e
  | _=>cases e
noncomputable def dI (C:Int->Int->Bool) (g:Int->Int->D):D->D->Option D
  | .int i,.int j=>if C i j then some (g i j) else none
  | _,_=>none
theorem o_I {f:Value->Value->Sem Value} {C:Int->Int->Prop} {c:Int->Int->Bool} {g:Int->Int->V} {gd:Int->Int->D} (h:OpR X f (rI C g)) (hc:∀ i j,c i j=true->C i j) (hg:∀ i j K F H,Rep K F H (gd i j) (g i j)):Op2 X f (dI c gd):=by
  intro pins s σ H x y v u Q I rx ry q
  obtain ⟨dx,dy,F,d,r1,r2,e,q⟩:=q
  cases dx with
  | int i=>cases dy with
    | int j=>
      unfold dI at e
      obtain ⟨k,rfl⟩:=Yp e
      unfold Rep at r1 r2
      subst r1 r2
      exact h pins s σ H _ _ v u Q I rx ry ⟨i,j,rfl,rfl,hc i j k,q _ F H .refl (hg i j _ _ _)⟩
    | _=>cases e
  | _=>cases e
theorem Zk5 {f:Value->Value->Sem Value} {g:Int->Int->V} {gd:Int->Int->D} (h:OpR X f (rI0 g)) (hg:∀ i j K F H,Rep K F H (gd i j) (g i j)):Op2 X f (dI (fun _ _=>true) gd):=by
  refine o_I (C:=fun _ _=>True) ?_ (fun _ _ _=>trivial) hg
  intro pins s σ H x y v u Q I rx ry q
  obtain ⟨i,j,e1,e2,_,q⟩:=q
  exact h pins s σ H x y v u Q I rx ry ⟨i,j,e1,e2,q⟩
noncomputable def Y0:D->D->Option D:=dI (fun _ _=>true) fun i j=>.int (i-j)
theorem Qr:Op2 X (binaryOp .Sub) Y0:=Zk5 ZkY fun i j _ _ _=>Yt _
noncomputable def Zkc (i j:Int):Bool:=(decide (-(2 ^ 64) < i)&&decide (i < 2 ^ 64))||(decide (-(2 ^ 64) < j)&&decide (j < 2 ^ 64))
theorem ZjZ (i j:Int) (h:Zkc i j=true):CMul i j:=by
  unfold Zkc at h
  rcases Bool.or_eq_true_iff.mp h with h | h
  · obtain ⟨a,b⟩:=Bool.and_eq_true_iff.mp h; exact .inl ⟨of_decide_eq_true a,of_decide_eq_true b⟩
  · obtain ⟨a,b⟩:=Bool.and_eq_true_iff.mp h; exact .inr ⟨of_decide_eq_true a,of_decide_eq_true b⟩
noncomputable def YW:D->D->Option D:=dI Zkc fun i j=>.int (i*j)
theorem YX:Op2 X (binaryOp .Mult) YW:=o_I ZkZ ZjZ fun i j _ _ _=>Yt _
noncomputable def Ya:D->D->Option D:=dI (fun _ j=>decide (0 < j)) fun i j=>.int (i % j)
theorem Yu:Op2 X (binaryOp .Mod) Ya:=o_I Zk0 (fun _ _ h=>of_decide_eq_true h) fun i j _ _ _=>Yt _
noncomputable def Qj:D->D->Option D:=dI (fun _ j=>decide (0 < j)&&decide (j < 1073741824)) fun i j=>.int (i / j)
theorem Jc:Op2 X (binaryOp .FloorDiv) Qj:=o_I Zju (fun _ _ h=>by obtain ⟨a,b⟩:=Bool.and_eq_true_iff.mp h; exact ⟨of_decide_eq_true a,of_decide_eq_true b⟩) fun i j _ _ _=>Yt _
noncomputable def dLt:D->D->Option D:=dI (fun _ _=>true) fun i j=>.bl (decide (i < j))
theorem Zka:Op2 X (compareOp .Lt) dLt:=Zk5 Zmg fun i j _ _ _=>Vc _
noncomputable def dLe:D->D->Option D:=dI (fun _ _=>true) fun i j=>.bl (decide (i<=j))
theorem Zdg:Op2 X (compareOp .LtE) dLe:=Zk5 Zmh fun i j _ _ _=>Vc _
noncomputable def dGt:D->D->Option D:=dI (fun _ _=>true) fun i j=>.bl (decide (j < i))
theorem Zf6:Op2 X (compareOp .Gt) dGt:=Zk5 Zmi fun i j _ _ _=>Vc _
noncomputable def dGe:D->D->Option D:=dI (fun _ _=>true) fun i j=>.bl (decide (j<=i))
theorem ZnG:Op2 X (compareOp .GtE) dGe:=Zk5 Zmj fun i j _ _ _=>Vc _
noncomputable def JB:D->Option D
  | .int i=>some (.int (-i))
  | _=>none
theorem JY:Op1 X (unaryOp .USub) JB:=by
  intro pins s σ H x v Q I rx h
  obtain ⟨dx,F,d,r1,e,q⟩:=h
  cases dx with
  | int i=>cases e; unfold Rep at r1; subst r1; exact Zij pins s σ H _ v Q I rx ⟨i,rfl,q _ F H .refl (Yt _)⟩
  | _=>cases e
theorem ZgS {pins:List (Addr×Obj)} {s:Shared} {σ:L2.St} {H:Hp} {l b:Addr} {xs zs:List V} {Q:VK} (I:Inv X pins σ H s) (hl:SqL X.K H l xs) (hb:SqL X.K H b zs) (hz:xs.length+zs.length<=sizeLine)
    (q:∀ p,H p=none->Q (.ref p) (upd H p (.lst (xs++zs)))):wpAny (model X.prog X.w) X.A (binaryOp .Add (.ref l) (.ref b)) (EP X pins σ Q) X.xe s:=by
  obtain ⟨its,r,pl,z⟩:=I.list hl
  obtain ⟨its2,r2,pl2,z2⟩:=I.list hb
  have hl1:=r.length
  have hl2:=r2.length
  have ea:its.toArray++its2.toArray=(its++its2).toArray:=by simp
  obtain ⟨⟨cls,dd,data,sl⟩,ho,hc,n,hd⟩:=pl.isList
  obtain ⟨⟨cls2,dd2,data2,sl2⟩,ho2,hc2,n2,hd2⟩:=pl2.isList
  simp only at hc hd hc2 hd2
  subst hc hd hc2 hd2
  refine concat_meets ⟨_,ho,rfl⟩ ⟨_,ho2,rfl⟩ noFill_list_add seq_list_add PySem.F.slot_list_add PySem.F.entry_list_add (PySem.F.args_list_add_2 _ _) (list_addW l b its.toArray its2.toArray n n2 dd dd2 sl sl2 (by rw [List.size_toArray,List.size_toArray]; omega)) ⟨ho,ho2,?_⟩
  rw [ea]
  exact ⟨.ref _,_,I.lnew (t':=s.toks) (r.append r2) (by rw [List.length_append]; omega),rfl,q _ I.fresh⟩
theorem Zib {pins:List (Addr×Obj)} {s:Shared} {σ:L2.St} {H:Hp} {a b:Addr} {xs ys:List V} {Q:VK} (I:Inv X pins σ H s) (ha:SqT X.K H a xs) (hb:SqT X.K H b ys) (hz:xs.length+ys.length<=sizeLine)
    (q0:xs=[]->Q (.ref b) H) (q1:ys=[]->Q (.ref a) H) (q2:∀ p,H p=none->Q (.ref p) (upd H p (.tup (xs++ys)))):wpAny (model X.prog X.w) X.A (binaryOp .Add (.ref a) (.ref b)) (EP X pins σ Q) X.xe s:=by
  obtain ⟨its,r1,p1,_⟩:=I.tuple ha
  obtain ⟨its2,r2,p2,_⟩:=I.tuple hb
  by_cases h0:its=[]
  · obtain ⟨⟨cls,dd,data,sl⟩,ho,hc,n,hd⟩:=id p1
    obtain ⟨⟨cls2,dd2,data2,sl2⟩,ho2,hc2,n2,hd2⟩:=id p2
    simp only at hc hd hc2 hd2
    subst hc hd hc2 hd2
    exact concat_meets ⟨_,ho,rfl⟩ ⟨_,ho2,rfl⟩ noFill_tuple_add seq_tuple_add PySem.F.slot_tuple_add PySem.F.entry_tuple_add (PySem.F.args_tuple_add_2 _ _)
      (tuple_addW0 a b its.toArray its2.toArray n n2 dd dd2 sl sl2 (by simp [h0])) ⟨ho,ho2,⟨.ref b,H,I,rfl,q0 (r1.nil_iff.mp h0)⟩⟩
  · refine HT.cat_tup p1 p2 h0 (fun z=>⟨.ref a,H,I,rfl,q1 (r2.nil_iff.mp z)⟩) (fun z=>?_) (by rw [<-r1.length,<-r2.length]; exact hz)
    refine ⟨.ref s.heap.objs.size,_,I.laid (t':=s.toks) (o:=.tup (xs++ys)) (fun b ob q=>Heap.get?_push_of_some _ q) (Nat.le_refl _) ?_,rfl,q2 _ (I.hok.fresh (Nat.le_refl _))⟩
    exact ⟨by rw [List.length_append]; exact hz,_,r1.append r2,IsTup.new _ _⟩
noncomputable def ZU:D->D->Option D
  | .int i,.int j=>some (.int (i+j))
  | .lst a,.lst b=>if a.length+b.length<=lim then some (.lst (a++b)) else none
  | .tup a,.tup b=>if a.length+b.length<=lim then some (.tup (a++b)) else none
  | .str a,.str b=>if a.length+b.length<=lim then some (.str (a++b)) else none
  | _,_=>none
theorem Yg:Op2 X (binaryOp .Add) ZU:=by
  intro pins s σ H x y v u Q I rx ry q
  obtain ⟨dx,dy,F,d,r1,r2,e,q⟩:=q
  cases dx with
  | int i=>cases dy with
    | int j=>
      cases e
      unfold Rep at r1 r2
      subst r1 r2
      exact Zk1 pins s σ H _ _ v u Q I rx ry ⟨i,j,rfl,rfl,q _ F H .refl (Yt _)⟩
    | _=>cases e
  | str i=>cases dy with
    | str j=>
      unfold ZU at e
      obtain ⟨hl,rfl⟩:=Yp e
      unfold Rep at r1 r2
      subst r1 r2
      exact Zew pins s σ H _ _ v u Q I rx ry ⟨i,j,rfl,rfl,UE hl,q _ F H .refl (by unfold Rep; rfl)⟩
    | _=>cases e
  | lst a=>cases dy with
    | lst b=>
      unfold ZU at e
      obtain ⟨hl,rfl⟩:=Yp e
      unfold Rep at r1 r2
      obtain ⟨l1,xs,rfl,f1,h1,k1⟩:=r1
      obtain ⟨l2,ys,rfl,f2,h2,k2⟩:=r2
      cases rx; cases ry
      refine ZgS I h1 h2 (by rw [<-k1.length,<-k2.length]; exact UE hl) fun p hp=>q _ _ _ (.laid hp) (YR hp (k1.append k2))
    | _=>cases e
  | tup a=>cases dy with
    | tup b=>
      unfold ZU at e
      obtain ⟨hl,rfl⟩:=Yp e
      have r1':=r1; have r2':=r2
      unfold Rep at r1 r2
      obtain ⟨l1,xs,rfl,h1,k1⟩:=r1
      obtain ⟨l2,ys,rfl,h2,k2⟩:=r2
      cases rx; cases ry
      refine Zib I h1 h2 (by rw [<-k1.length,<-k2.length]; exact UE hl) (fun z=>?_) (fun z=>?_) fun p hp=>q _ F _ (.laid0 hp) ?_
      · have:a=[]:=List.eq_nil_of_length_eq_zero (by rw [k1.length,z]; rfl)
        subst this
        exact q _ F H .refl r2'
      · have:b=[]:=List.eq_nil_of_length_eq_zero (by rw [k2.length,z]; rfl)
        subst this
        rw [List.append_nil] at q
        exact q _ F H .refl r1'
      · unfold Rep
        exact ⟨p,xs++ys,rfl,.of ZR,(k1.append k2).grow (.laid0 hp)⟩
    | _=>cases e
  | _=>cases e
noncomputable def dIx:D->D->Option D
  | .lst xs,.int i=>atI xs i
  | .tup xs,.int i=>atI xs i
  | .str z,.int i=>if z.length<=lim then (atI z.cps.toList i).map fun c=>.str ⟨#[c]⟩ else none
  | _,_=>none
noncomputable def IxD (X:Cx) (r:D->D->Option D):Prop:=IxR X (r2 X.K r)
theorem Zy {a b:Expr} {f g:DE} {pos:Pos} {r:D->D->Option D} (hr:IxD X r) (ha:ED X a f) (hb:ED X b g) (hs:Zhb b):ED X (.Subscript a b pos) (Zh r f g):=PE.imp (Zmd hr ha hb hs) fun _ _ _=>ZdR
theorem Zg2 {K:PySem.W.Frag} {F:Fz} {H:Hp} {ds:List D} {vs:List V} {i:Int} {d:D} (r:RepL K F H ds vs) (h:atI ds i=some d):∃ v,atI vs i=some v/\Rep K F H d v:=by
  unfold atI at h ⊢
  obtain ⟨j,e1,e2⟩:=bind_some h
  obtain ⟨v,e3,e4⟩:=r.get e2
  exact ⟨v,by rw [<-r.length,e1]; exact e3,e4⟩
theorem Ye:IxD X dIx:=by
  intro value slice pins s σ H x y v u Q I rx ry h hs
  obtain ⟨dx,dy,F,d,r1,r2,e,q⟩:=h
  cases dy with
  | int i=>
    unfold Rep at r2
    subst r2
    cases dx with
    | lst ds=>
      unfold Rep at r1
      obtain ⟨l,xs,rfl,hf,hl,hr⟩:=r1
      obtain ⟨w',e1,e2⟩:=Zg2 hr e
      exact ZjI value slice pins s σ H _ _ v u Q I rx ry ⟨l,xs,i,w',rfl,rfl,hl,e1,q _ F H .refl e2⟩ hs
    | tup ds=>
      unfold Rep at r1
      obtain ⟨l,xs,rfl,hl,hr⟩:=r1
      obtain ⟨w',e1,e2⟩:=Zg2 hr e
      exact Zls value slice pins s σ H _ _ v u Q I rx ry ⟨l,xs,i,w',rfl,rfl,hl,e1,q _ F H .refl e2⟩ hs
    | str z=>
      unfold Rep at r1
      subst r1
      have e:(if z.length<=lim then (atI z.cps.toList i).map fun c=>D.str ⟨#[c]⟩ else none)=some d:=e
      by_cases hz:z.length<=lim
      · rw [if_pos hz] at e
        obtain ⟨c,e1,rfl⟩:∃ c,atI z.cps.toList i=some c/\D.str ⟨#[c]⟩=d:=by
          cases q1:atI z.cps.toList i with
          | none=>rw [q1] at e; cases e
          | some c=>rw [q1] at e; exact ⟨c,rfl,Option.some.inj e⟩
        exact Zlt value slice pins s σ H _ _ v u Q I rx ry ⟨z,i,c,rfl,rfl,UE hz,e1,q _ F H .refl (by unfold Rep; rfl)⟩ hs
      · rw [if_neg hz] at e; cases e
    | _=>cases e
  | _=>cases dx <;> cases e
noncomputable def UI:List D->Option D
  | [.lst xs]=>some (.int xs.length)
  | [.tup xs]=>some (.int xs.length)
  | [.str z]=>if z.length<=lim then some (.int z.length) else none
  | _=>none
theorem VH {K:PySem.W.Frag} {F:Fz} {H:Hp} {d:D} {vs:List V} (h:RepL K F H [d] vs):∃ v,vs=[v]/\Rep K F H d v:=by
  obtain ⟨y,ys,rfl,h1,h2⟩:=h.uncons
  rw [h2.unnil]
  exact ⟨y,rfl,h1⟩
theorem Zhu {K:PySem.W.Frag} {F:Fz} {H:Hp} {d d':D} {vs:List V} (h:RepL K F H [d,d'] vs):∃ v v',vs=[v,v']/\Rep K F H d v/\Rep K F H d' v':=by
  obtain ⟨y,ys,rfl,h1,h2⟩:=h.uncons
  obtain ⟨v',rfl,h3⟩:=VH h2
  exact ⟨y,v',rfl,h1,h3⟩
theorem Uf:ZbP X (.builtin "len") UI:=by
  intro pins s σ H vs us Q I r h
  obtain ⟨xs,F,d,r1,e,q⟩:=h
  unfold UI at e
  split at e
  · rename_i ds
    cases e
    obtain ⟨v,rfl,h1⟩:=VH r1
    unfold Rep at h1
    obtain ⟨a,ys,rfl,_,hl,hr⟩:=h1
    refine We pins s σ H _ us Q I r ⟨a,ys,rfl,.inl hl,?_⟩
    rw [<-hr.length]; exact q _ F H .refl (Yt _)
  · rename_i ds
    cases e
    obtain ⟨v,rfl,h1⟩:=VH r1
    unfold Rep at h1
    obtain ⟨a,ys,rfl,hl,hr⟩:=h1
    refine We pins s σ H _ us Q I r ⟨a,ys,rfl,.inr hl,?_⟩
    rw [<-hr.length]; exact q _ F H .refl (Yt _)
  · rename_i z
    obtain ⟨hz,rfl⟩:=Yp e
    obtain ⟨v,rfl,h1⟩:=VH r1
    unfold Rep at h1
    subst h1
    exact Zcx pins s σ H _ us Q I r ⟨z,rfl,UE hz,q _ F H .refl (Yt _)⟩
  · cases e
noncomputable def Ud:List D->Option D
  | [.lst xs]=>some (.lst xs)
  | [.tup xs]=>some (.lst xs)
  | _=>none
theorem ZiK:ZbP X (.type "list") Ud:=by
  intro pins s σ H vs us Q I r h
  obtain ⟨xs,F,d,r1,e,q⟩:=h
  unfold Ud at e
  split at e
  · rename_i ds
    cases e
    obtain ⟨v,rfl,h1⟩:=VH r1
    unfold Rep at h1
    obtain ⟨a,ys,rfl,_,hl,hr⟩:=h1
    exact Wd pins s σ H _ us Q I r ⟨a,ys,rfl,.inl hl,fun p hp=>q _ _ _ (.laid hp) (YR hp hr)⟩
  · rename_i ds
    cases e
    obtain ⟨v,rfl,h1⟩:=VH r1
    unfold Rep at h1
    obtain ⟨a,ys,rfl,hl,hr⟩:=h1
    exact Wd pins s σ H _ us Q I r ⟨a,ys,rfl,.inr hl,fun p hp=>q _ _ _ (.laid hp) (YR hp hr)⟩
  · cases e
noncomputable def Qz:List D->Option D
  | [.lst xs]=>some (.tup xs)
  | [.tup xs]=>some (.tup xs)
  | _=>none
theorem ZgV:ZbP X (.type "tuple") Qz:=by
  intro pins s σ H vs us Q I r h
  obtain ⟨xs,F,d,r1,e,q⟩:=h
  unfold Qz at e
  split at e
  · rename_i ds
    cases e
    obtain ⟨v,rfl,h1⟩:=VH r1
    unfold Rep at h1
    obtain ⟨a,ys,rfl,_,hl,hr⟩:=h1
    refine Vt pins s σ H _ us Q I r ⟨a,ys,rfl,.inl ⟨hl,fun p hp=>q _ F _ (.laid0 hp) ?_⟩⟩
    unfold Rep
    exact ⟨p,ys,rfl,.of ZR,hr.grow (.laid0 hp)⟩
  · rename_i ds
    cases e
    obtain ⟨v,rfl,h1⟩:=VH r1
    have h1':=h1
    unfold Rep at h1
    obtain ⟨a,ys,rfl,hl,hr⟩:=h1
    exact Vt pins s σ H _ us Q I r ⟨a,ys,rfl,.inr ⟨hl,q _ F H .refl h1'⟩⟩
  · cases e
noncomputable def ZeP:List D->Option D
  | [.int i,.int j]=>some (.int (if j < i then j else i))
  | _=>none
noncomputable def Zcu:List D->Option D
  | [.int i,.int j]=>some (.int (if j > i then j else i))
  | _=>none
theorem ZgW (hc:X.calm=true):ZbP X (.builtin "min") ZeP:=by
  intro pins s σ H vs us Q I r h
  obtain ⟨xs,F,d,r1,e,q⟩:=h
  unfold ZeP at e
  split at e
  · rename_i i j
    cases e
    obtain ⟨v,v',rfl,h1,h2⟩:=Zhu r1
    unfold Rep at h1 h2
    subst h1 h2
    exact ZgT hc pins s σ H _ us Q I r ⟨i,j,rfl,q _ F H .refl (Yt _)⟩
  · cases e
theorem Zed (hc:X.calm=true):ZbP X (.builtin "max") Zcu:=by
  intro pins s σ H vs us Q I r h
  obtain ⟨xs,F,d,r1,e,q⟩:=h
  unfold Zcu at e
  split at e
  · rename_i i j
    cases e
    obtain ⟨v,v',rfl,h1,h2⟩:=Zhu r1
    unfold Rep at h1 h2
    subst h1 h2
    exact ZgU hc pins s σ H _ us Q I r ⟨i,j,rfl,q _ F H .refl (Yt _)⟩
  · cases e
noncomputable def ZgK:List D->Option D
  | [.int i]=>if i.natAbs.log2 < 1920 then some (.str (toString i)) else none
  | _=>none
theorem ZmJ:ZbP X (.type "str") ZgK:=by
  intro pins s σ H vs us Q I r h
  obtain ⟨xs,F,d,r1,e,q⟩:=h
  unfold ZgK at e
  split at e
  · rename_i i
    obtain ⟨hz,rfl⟩:=Yp e
    obtain ⟨v,rfl,h1⟩:=VH r1
    unfold Rep at h1
    subst h1
    exact Zcw pins s σ H _ us Q I r ⟨i,rfl,hz,q _ F H .refl (by unfold Rep; rfl)⟩
  · cases e
end
inductive Out where
  | nx (ρ:Rho) | rt (d:D) | bk (ρ:Rho) | ct (ρ:Rho)
noncomputable abbrev DS:=Rho->Option Out
noncomputable def EndOk (K:PySem.W.Frag) (F0:Fz) (H0:Hp) (F:Fz) (H:Hp) (E:ZiT):Out->Prop
  | .nx ρ=>∀ σ' F' H',Ext K F H F' H'->EnvOk K F0 H0 F' σ' H' ρ->E.nx σ' H'
  | .bk ρ=>∀ σ' F' H',Ext K F H F' H'->EnvOk K F0 H0 F' σ' H' ρ->E.bk σ' H'
  | .ct ρ=>∀ σ' F' H',Ext K F H F' H'->EnvOk K F0 H0 F' σ' H' ρ->E.ct σ' H'
  | .rt d=>∀ v F' H',Grow F0 H0 F' H'->Rep K F' H' d v->E.rt v H'
inductive Zn2 (K:PySem.W.Frag) (g:DS) (E:ZiT) (σ:L2.St) (H:Hp):Prop
  | mk (ρ:Rho) (F0:Fz) (H0:Hp) (F:Fz) (o:Out) (ok:EnvOk K F0 H0 F σ H ρ) (e:g ρ=some o) (k:EndOk K F0 H0 F H E o)
noncomputable def rdS (K:PySem.W.Frag) (g:DS):TS:=fun E σ H=>Zn2 K g E σ H
theorem EndOk.ext {K:PySem.W.Frag} {F0:Fz} {H0:Hp} {F F':Fz} {H H':Hp} {E:ZiT} {o:Out} (h:EndOk K F0 H0 F H E o) (x:Ext K F H F' H'):EndOk K F0 H0 F' H' E o:=by
  cases o with
  | nx ρ=>exact fun σ' F2 H2 e ok=>h σ' F2 H2 (x.trans e) ok
  | bk ρ=>exact fun σ' F2 H2 e ok=>h σ' F2 H2 (x.trans e) ok
  | ct ρ=>exact fun σ' F2 H2 e ok=>h σ' F2 H2 (x.trans e) ok
  | rt d=>exact h
noncomputable def SD (X:Cx) (st:Stmt) (g:DS):Prop:=PS X st (rdS X.K g)
noncomputable def SDs (X:Cx) (st:List Stmt) (g:DS):Prop:=PSs X st (rdS X.K g)
section
variable {X:Cx} {pos:Pos} {st:Stmt} {rest:List Stmt} {g g':DS} {e:Expr} {f:DE} {t:DT}
noncomputable def ZB:DS:=fun ρ=>some (.nx ρ)
noncomputable def Zr (g g':DS):DS:=fun ρ=>match g ρ with | some (.nx ρ1)=>g' ρ1 | r=>r
theorem ZF:SDs X [] ZB:=PSs.imp Zji fun E σ H ⟨ρ,F0,H0,F,o,ok,e,k⟩=>by cases e; exact k σ F H .refl ok
theorem Zl (h:SD X st g):SDs X [st] g:=Zjh h
theorem Zk (h1:SD X st g) (h2:SDs X rest g'):SDs X (st::rest) (Zr g g'):=PSs.imp (Zhx h1 h2) fun E σ H zq=>by
  obtain ⟨ρ,F0,H0,F,o,ok,e,k⟩:=zq
  unfold Zr at e
  cases e1:g ρ with
  | none=>rw [e1] at e; cases e
  | some o1=>
    rw [e1] at e
    cases o1 with
    | nx ρ1=>exact ⟨ρ,F0,H0,F,_,ok,e1,fun σ' F' H' x ok'=>⟨ρ1,F0,H0,F',o,ok',e,k.ext x⟩⟩
    | rt d=>cases e; exact ⟨ρ,F0,H0,F,_,ok,e1,k⟩
    | bk ρ1=>cases e; exact ⟨ρ,F0,H0,F,_,ok,e1,k⟩
    | ct ρ1=>cases e; exact ⟨ρ,F0,H0,F,_,ok,e1,k⟩
noncomputable def ZW (f:DE):DS:=fun ρ=>(f ρ).map .rt
theorem map_some {α β:Type} {o:Option α} {f:α->β} {b:β} (h:o.map f=some b):∃ a,o=some a/\f a=b:=by
  cases o with
  | none=>cases h
  | some a=>exact ⟨a,rfl,Option.some.inj h⟩
theorem Zs (he:ED X e f):SD X (.Return (some e) pos) (ZW f):=PS.imp (ZkH he) fun E σ H zq=>by
  obtain ⟨ρ,F0,H0,F,o,ok,e,k⟩:=zq
  obtain ⟨d,ed,rfl⟩:=map_some e
  exact ⟨ρ,F0,H0,F,d,ok,ed,fun v F' H' g r=>k v F' H' (ok.base.trans g) r⟩
noncomputable def Yh (t:DT) (g g':DS):DS:=fun ρ=>(t ρ).bind fun b=>match b with | true=>g ρ | false=>g' ρ
theorem YH {c:Expr} {a b:List Stmt} (hc:TD X c t) (ha:SDs X a g) (hb:SDs X b g'):SD X (.If c a b pos) (Yh t g g'):=PS.imp (Zma hc ha hb) fun E σ H zq=>by
  obtain ⟨ρ,F0,H0,F,o,ok,e,k⟩:=zq
  obtain ⟨x,ex,e⟩:=bind_some e
  refine ⟨ρ,F0,H0,F,x,ok,ex,fun F1 H1 g1=>?_⟩
  cases x with
  | true=>rw [if_pos rfl]; exact ⟨ρ,F0,H0,F1,o,ok.grow g1,e,k.ext g1.ext⟩
  | false=>rw [if_neg (by decide)]; exact ⟨ρ,F0,H0,F1,o,ok.grow g1,e,k.ext g1.ext⟩
theorem EnvOk.set {K:PySem.W.Frag} {F0 F:Fz} {H0 H:Hp} {σ:L2.St} {ρ:Rho} {i:Nat} {d:D} {v:V} (ok:EnvOk K F0 H0 F σ H ρ) (r:Rep K F H d v):EnvOk K F0 H0 F (σ.set i (some v)) H (ρ.set i (.val d)) where
  base:=ok.base
  val:=fun j d' h=>by
    by_cases hj:i=j
    · subst hj
      by_cases hl:i < ρ.length
      · rw [List.getElem?_set_self hl] at h
        cases h
        exact ⟨v,by rw [List.getElem?_set_self (by rw [<-ok.len]; exact hl)],r⟩
      · rw [List.getElem?_eq_none (by rw [List.length_set]; omega)] at h; cases h
    · rw [List.getElem?_set_ne hj] at h ⊢; exact ok.val j d' h
  own:=fun j ds h=>by
    by_cases hj:i=j
    · subst hj
      by_cases hl:i < ρ.length
      · rw [List.getElem?_set_self hl] at h; cases h
      · rw [List.getElem?_eq_none (by rw [List.length_set]; omega)] at h; cases h
    · rw [List.getElem?_set_ne hj] at h ⊢; exact ok.own j ds h
  inj:=fun j k ds es a h1 h2 h3 h4=>by
    have n1:i≠j:=by
      rintro rfl
      by_cases hl:i < ρ.length
      · rw [List.getElem?_set_self hl] at h1; cases h1
      · rw [List.getElem?_eq_none (by rw [List.length_set]; omega)] at h1; cases h1
    have n2:i≠k:=by
      rintro rfl
      by_cases hl:i < ρ.length
      · rw [List.getElem?_set_self hl] at h2; cases h2
      · rw [List.getElem?_eq_none (by rw [List.length_set]; omega)] at h2; cases h2
    rw [List.getElem?_set_ne n1] at h1 h3
    rw [List.getElem?_set_ne n2] at h2 h4
    exact ok.inj j k ds es a h1 h2 h3 h4
  len:=by rw [List.length_set,List.length_set,ok.len]
  fz:=ok.fz
noncomputable def Z5 (i:Nat) (f:DE):DS:=fun ρ=>(f ρ).map fun d=>.nx (ρ.set i (.val d))
theorem ZI {i:Nat} {x:Str} {pos':Pos} (hN:X.N.Nodup) (hi:X.N[i]?=some x) (hx:Loc X.env.scope x) (he:ED X e f) (hs:swapsWith e (some (.Name x pos')) pos.line X.env=pure false:=by rfl)
    (hf:X.fn x=true\/X.env.scope.names.lookup x=some .local:=by first | exact .inl rfl | exact .inr rfl | assumption):SD X (.Assign [.Name x pos'] e pos) (Z5 i f):=
  PS.imp (Zir hN hi hx he hs hf) fun E σ H zq=>by
    obtain ⟨ρ,F0,H0,F,o,ok,e,k⟩:=zq
    obtain ⟨d,ed,rfl⟩:=map_some e
    exact ⟨ρ,F0,H0,F,d,ok,ed,fun v F' H' g r=>k _ F' H' g.ext ((ok.grow g).set r)⟩
theorem EnvOk.setOwn {K:PySem.W.Frag} {F0 F:Fz} {H0 H:Hp} {σ:L2.St} {ρ:Rho} {i:Nat} {ds:List D} {vs:List V} {p:Addr} (ok:EnvOk K F0 H0 F σ H ρ) (hp:H p=none) (hk:K.lookup p=none) (r:RepL K F H ds vs) :
    EnvOk K F0 H0 F (σ.set i (some (.ref p))) (upd H p (.lst vs)) (ρ.set i (.own ds)):=by
  have gr:Grow F H F (upd H p (.lst vs)):=.laid0 hp
  have ok1:=ok.grow gr
  have nF:¬ F p:=fun z=>by
    rcases ok.fz p z with z | ⟨o,z⟩
    · exact z hp
    · rw [hk] at z; cases z
  have oth:∀ (j:Nat) ds' a,ρ[j]?=some (.own ds')->σ[j]?=some (some (.ref a))->a≠p:=fun j ds' a h1 h2=>by
    obtain ⟨b,xs,h3,h4,_⟩:=ok.own j ds' h1
    rw [h2] at h3; cases h3
    exact ZL h4 hp
  refine ⟨ok1.base,fun j d' h=>?_,fun j ds' h=>?_,fun j k ds' es a h1 h2 h3 h4=>?_,by rw [List.length_set,List.length_set,ok.len],ok1.fz⟩
  · by_cases hj:i=j
    · subst hj
      by_cases hl:i < ρ.length
      · rw [List.getElem?_set_self hl] at h; cases h
      · rw [List.getElem?_eq_none (by rw [List.length_set]; omega)] at h; cases h
    · rw [List.getElem?_set_ne hj] at h ⊢; exact ok1.val j d' h
  · by_cases hj:i=j
    · subst hj
      by_cases hl:i < ρ.length
      · rw [List.getElem?_set_self hl] at h
        cases h
        exact ⟨p,vs,by rw [List.getElem?_set_self (by rw [<-ok.len]; exact hl)],ZR,nF,ok.base.same.free hp,r.grow gr⟩
      · rw [List.getElem?_eq_none (by rw [List.length_set]; omega)] at h; cases h
    · rw [List.getElem?_set_ne hj] at h ⊢; exact ok1.own j ds' h
  · by_cases hj:i=j
    · by_cases hk':i=k
      · exact hj.symm.trans hk'
      · subst hj
        rw [List.getElem?_set_ne hk'] at h2 h4
        by_cases hl:i < σ.length
        · rw [List.getElem?_set_self hl] at h3
          cases h3
          exact absurd rfl (oth k es p h2 h4)
        · rw [List.getElem?_eq_none (by rw [List.length_set]; omega)] at h3; cases h3
    · by_cases hk':i=k
      · subst hk'
        rw [List.getElem?_set_ne hj] at h1 h3
        by_cases hl:i < σ.length
        · rw [List.getElem?_set_self hl] at h4
          cases h4
          exact absurd rfl (oth j ds' p h1 h3)
        · rw [List.getElem?_eq_none (by rw [List.length_set]; omega)] at h4; cases h4
      · rw [List.getElem?_set_ne hj] at h1 h3
        rw [List.getElem?_set_ne hk'] at h2 h4
        exact ok.inj j k ds' es a h1 h2 h3 h4
noncomputable def Zl1 (K:PySem.W.Frag) (t:TA):TE:=fun σ H Q=>t σ H fun xs H1=>xs.length<=sizeLine/\∀ p,H1 p=none->K.lookup p=none->Q (.ref p) (upd H1 p (.lst xs))
theorem Zjp {es:List Expr} {t:TA} (h:PA X es t):PE X (.List es pos) (Zl1 X.K t):=by
  intro pins s σ H Q I hq
  refine wpAny_List_spliced (thn (h pos pins s σ H _ I hq) fun us s1 ⟨xs,H1,I1,r,z,q⟩=>⟨by rw [<-r.length]; exact z,?_⟩)
  have hf:H1 s1.heap.objs.size=none:=I1.hok.fresh (Nat.le_refl _)
  have hk:X.K.lookup s1.heap.objs.size=none:=by
    cases e:X.K.lookup s1.heap.objs.size with
    | none=>rfl
    | some o=>exact absurd (Heap.lt_size (I1.kIn _ o e)) (Nat.lt_irrefl _)
  refine ⟨.ref s1.heap.objs.size,upd H1 s1.heap.objs.size (.lst xs),I1.laid (t':=s1.toks) (fun b u e=>Heap.get?_push_of_some _ e) (Nat.le_refl _) ?_,rfl,q _ hf hk⟩
  exact ⟨z,us,0,r,Heap.get?_push_size _ rfl⟩
noncomputable def Ji (i:Nat) (as:DA):DS:=fun ρ=>(as ρ).bind fun xs=>if xs.length<=lim then some (.nx (ρ.set i (.own xs))) else none
theorem WE {i:Nat} {x:Str} {pos' lpos:Pos} {es:List Expr} {as:DA} (hN:X.N.Nodup) (hi:X.N[i]?=some x) (hx:Loc X.env.scope x) (ha:AD X es as) (hs:swapsWith (.List es lpos) (some (.Name x pos')) pos.line X.env=pure false:=by rfl)
    (hf:X.fn x=true\/X.env.scope.names.lookup x=some .local:=by first | exact .inl rfl | exact .inr rfl | assumption):SD X (.Assign [.Name x pos'] (.List es lpos) pos) (Ji i as):=
  PS.imp (Zir hN hi hx (Zjp ha) hs hf) fun E σ H zq=>by
    obtain ⟨ρ,F0,H0,F,o,ok,e,k⟩:=zq
    obtain ⟨xs,ex,e⟩:=bind_some e
    obtain ⟨hl,rfl⟩:=Yp e
    exact ⟨ρ,F0,H0,F,xs,ok,ex,fun vs F1 H1 g1 r1=>⟨by rw [<-r1.length]; exact UE hl,fun p hp hk=>k _ F1 _ (g1.trans (.laid0 hp)).ext ((ok.grow g1).setOwn hp hk r1)⟩⟩
theorem W7 {K:PySem.W.Frag} {F:Fz} {H:Hp} {a:Addr} {xs ys:List V} (ha:H a=some (.lst xs)) (hF:¬ F a):Ext K F H F (upd H a (.lst ys)) where
  sub:=fun _ h=>h
  ls:=fun b zs hb h=>by
    have ne:b≠a:=fun z=>hF (z ▸ hb)
    rcases h with (h | ⟨o,h⟩) | h
    · exact .inl (.inl (by rw [ZO ne]; exact h))
    · exact .inl (.inr ⟨o,by rw [ZO ne]; exact h⟩)
    · exact .inr h
  ts:=fun b zs h=>by
    rcases h with (h | ⟨o,h⟩) | h
    · have ne:b≠a:=by rintro rfl; rw [ha] at h; cases h
      exact .inl (.inl (by rw [ZO ne]; exact h))
    · have ne:b≠a:=by rintro rfl; rw [ha] at h; cases h
      exact .inl (.inr ⟨o,by rw [ZO ne]; exact h⟩)
    · exact .inr h
theorem EnvOk.wrt {K:PySem.W.Frag} {F0 F:Fz} {H0 H:Hp} {σ:L2.St} {ρ:Rho} {i:Nat} {ds ds':List D} {xs ys:List V} {a:Addr} (ok:EnvOk K F0 H0 F σ H ρ) (ho:ρ[i]?=some (.own ds)) (hs:σ[i]?=some (some (.ref a)))
    (ha:H a=some (.lst xs)) (r:RepL K F H ds' ys):EnvOk K F0 H0 F σ (upd H a (.lst ys)) (ρ.set i (.own ds')):=by
  obtain ⟨a',xs',h1,h2,h3,h4,h5⟩:=ok.own i ds ho
  rw [hs] at h1; cases h1
  rw [ha] at h2; cases h2
  have hl:i < ρ.length:=(List.getElem?_eq_some_iff.mp ho).1
  have x:=W7 (K:=K) (ys:=ys) ha h3
  refine ⟨⟨fun b o q=>?_,ok.base.sub,fun b z=>?_⟩,fun j d' h=>?_,fun j es h=>?_,fun j k es fs b q1 q2 q3 q4=>?_,by rw [List.length_set,ok.len],fun b z=>?_⟩
  · have ne:b≠a:=ZL q h4
    rw [ZO ne]; exact ok.base.same b o q
  · rcases ok.base.new b z with z1 | ⟨z1,z2⟩
    · exact .inl z1
    · refine .inr ⟨z1,?_⟩
      by_cases e:b=a
      · rw [e,ZR]; simp
      · rw [ZO e]; exact z2
  · have hj:i≠j:=by rintro rfl; rw [List.getElem?_set_self hl] at h; cases h
    rw [List.getElem?_set_ne hj] at h
    obtain ⟨v,e1,e2⟩:=ok.val j d' h
    exact ⟨v,e1,Rep.ext x e2⟩
  · by_cases hj:i=j
    · subst hj
      rw [List.getElem?_set_self hl] at h
      cases h
      exact ⟨a,ys,hs,ZR,h3,h4,RepL.ext x r⟩
    · rw [List.getElem?_set_ne hj] at h
      obtain ⟨b,zs,e1,e2,e3,e4,e5⟩:=ok.own j es h
      have ne:b≠a:=by rintro rfl; exact hj (ok.inj i j ds es b ho h hs e1)
      exact ⟨b,zs,e1,by rw [ZO ne]; exact e2,e3,e4,RepL.ext x e5⟩
  · have get:∀ (j:Nat) es,(ρ.set i (.own ds'))[j]?=some (.own es)->∃ es',ρ[j]?=some (.own es'):=fun j es h=>by
      by_cases hj:i=j
      · exact ⟨ds,hj ▸ ho⟩
      · rw [List.getElem?_set_ne hj] at h; exact ⟨es,h⟩
    obtain ⟨e1,g1⟩:=get j es q1
    obtain ⟨e2,g2⟩:=get k fs q2
    exact ok.inj j k e1 e2 b g1 g2 q3 q4
  · rcases ok.fz b z with z1 | z1
    · left
      by_cases e:b=a
      · rw [e,ZR]; simp
      · rw [ZO e]; exact z1
    · exact .inr z1
noncomputable def Zab (i:Nat) (f:DE):DS:=fun ρ=>match ρ[i]? with
  | some (.own ds)=>(f ρ).bind fun d=>if ds.length < lim then some (.nx (ρ.set i (.own (ds++[d])))) else none
  | _=>none
theorem JN {i:Nat} {x:Expr} {pos' apos:Pos} (hx:PE X x (Zkl i)) (he:ED X e f)
    (hbase:attributeBase x "append" X.env (eval x X.env)=eval x X.env:=by rfl)
    (hfew:((backTo pos' (starEach [e] X.env)).all (fun x=>!x.1)&&(backToKw pos' (keywordEach [] X.env)).all (fun x=>x.1.isSome)
      && decide ([e].length+([]:List Keyword).length+(if ([]:List Keyword).isEmpty then 0 else 1) < 30))=true:=by rfl)
    (hline:(apos.endLine==pos'.line)=true:=by rfl) (hs:starEach [e] X.env=(false,eval e X.env)::starEach [] X.env:=by rfl) (hplain:(backTo pos' (starEach [] X.env)).any (·.1)=false:=by rfl)
    (hsw:swapsWith (.Call (.Attribute x "append" apos) [e] [] pos') none pos.line X.env=pure false:=by rfl) :
    SD X (.Expr (.Call (.Attribute x "append" apos) [e] [] pos') pos) (Zab i f):=
  PS.imp (ZfP (ZkU PySem.F.plainAttrs_list PySem.F.slot_list_append PySem.F.type_list_append Zcd hx (Zf1 he Zit hs) hbase hfew hline hs hplain) hsw) fun E σ H zq=>by
    obtain ⟨ρ,F0,H0,F,o,ok,e,k⟩:=zq
    unfold Zab at e
    split at e
    · rename_i ds ho
      obtain ⟨d,ed,e⟩:=bind_some e
      obtain ⟨hl,rfl⟩:=Yp e
      obtain ⟨a,xs,h1,h2,h3,h4,h5⟩:=ok.own i ds ho
      refine ⟨_,h1,.inl ⟨rfl,xs,.of h2⟩,ρ,F0,H0,F,d,ok,ed,fun v F1 H1 g1 r1=>?_⟩
      have ok1:=ok.grow g1
      have h2':=g1.same _ _ h2
      obtain ⟨a',xs',q1,q2,q3,q4,q5⟩:=ok1.own i ds ho
      rw [h1] at q1; cases q1
      rw [h2'] at q2; cases q2
      refine ⟨a,xs,v,rfl,rfl,h2',?_,k _ F1 _ (g1.ext.trans (W7 h2' q3)) (ok1.wrt ho h1 h2' (q5.append (.cons r1 .nil)))⟩
      rw [<-q5.length]
      exact Nat.lt_of_lt_of_le hl (UE (Nat.le_refl _))
    · cases e
noncomputable def Ze7 (i:Nat):DS:=fun ρ=>match ρ[i]? with
  | some (.own ds)=>if ds=[] then none else some (.nx (ρ.set i (.own ds.dropLast)))
  | _=>none
theorem RepL.dropLast {K:PySem.W.Frag} {F:Fz} {H:Hp} {ds:List D} {vs:List V} (h:RepL K F H ds vs):RepL K F H ds.dropLast vs.dropLast:=by
  rw [List.dropLast_eq_take,List.dropLast_eq_take,h.length]; exact h.take _
end
section
variable {X:Cx} {pos:Pos} {st:Stmt} {rest:List Stmt} {g g':DS} {e:Expr} {f:DE} {t:DT}
theorem Zkv {i:Nat} {x:Expr} {pos' apos:Pos} (hx:PE X x (Zkl i))
    (hbase:attributeBase x "pop" X.env (eval x X.env)=eval x X.env:=by rfl) (hline:(apos.endLine==pos'.line)=true:=by rfl)
    (hsw:swapsWith (.Call (.Attribute x "pop" apos) [] [] pos') none pos.line X.env=pure false:=by rfl) :
    SD X (.Expr (.Call (.Attribute x "pop" apos) [] [] pos') pos) (Ze7 i):=
  PS.imp (ZfP (ZkT PySem.F.plainAttrs_list PySem.F.slot_list_pop PySem.F.type_list_pop Zla hx hbase hline) hsw) fun E σ H zq=>by
    obtain ⟨ρ,F0,H0,F,o,ok,e,k⟩:=zq
    unfold Ze7 at e
    split at e
    · rename_i ds ho
      by_cases hd:ds=[]
      · rw [if_pos hd] at e; cases e
      · rw [if_neg hd] at e
        cases e
        obtain ⟨a,xs,h1,h2,h3,h4,h5⟩:=ok.own i ds ho
        have hne:xs≠[]:=fun z=>hd (List.eq_nil_of_length_eq_zero (by rw [h5.length,z]; rfl))
        refine ⟨_,h1,.inl ⟨rfl,xs,.of h2⟩,a,xs,xs.getLast hne,rfl,rfl,h2,?_,k _ F _ (W7 h2 h3) (ok.wrt ho h1 h2 h5.dropLast)⟩
        rw [<-List.getLast?_eq_getElem?]; exact List.getLast?_eq_some_getLast hne
    · cases e
noncomputable def Yq (t:DT) (g:DS):Nat->DS
  | 0,_=>none
  | n+1,ρ=>(t ρ).bind fun b=>match b with
    | true=>(match g ρ with | some (.nx ρ')=>Yq t g n ρ' | some (.ct ρ')=>Yq t g n ρ' | some (.bk ρ')=>some (.nx ρ') | r=>r)
    | false=>some (.nx ρ)
theorem ZdO {c:Expr} {body:List Stmt} (n:Nat) (hp:PassesOwn (model X.prog X.w) X.A X.env X.xe) (hc:TD X c t) (hb:SDs X body g):SD X (.While c body [] pos) (Yq t g n):=
  PS.imp (Zhy hp hc hb) fun E σ H zq=>by
    obtain ⟨ρ,F0,H0,F,o,ok,e,k⟩:=zq
    refine ⟨fun m σ' H'=>∃ ρ' F',EnvOk X.K F0 H0 F' σ' H' ρ'/\Ext X.K F H F' H'/\Yq t g m ρ'=some o,⟨n,ρ,F,ok,.refl,e⟩,?_⟩
    rintro m σ1 H1 ⟨ρ1,F1,ok1,x1,e1⟩
    cases m with
    | zero=>cases e1
    | succ m=>
      unfold Yq at e1
      obtain ⟨b,eb,e1⟩:=bind_some e1
      refine ⟨ρ1,F0,H0,F1,b,ok1,eb,fun F2 H2 g2=>?_⟩
      have x2:=x1.trans (g2.ext (K:=X.K))
      cases b with
      | false=>
        refine Zm5 ?_
        cases e1
        exact k σ1 F2 H2 x2 (ok1.grow g2)
      | true=>
        refine Zm4 ?_
        refine ⟨fun σ' H'=>∃ ρ' F',EnvOk X.K F0 H0 F' σ' H' ρ'/\Ext X.K F H F' H'/\Yq t g m ρ'=some o,fun σ' H' z=>⟨m,by omega,z⟩,?_⟩
        simp only at e1
        cases eg:g ρ1 with
        | none=>rw [eg] at e1; cases e1
        | some o1=>
          rw [eg] at e1
          refine ⟨ρ1,F0,H0,F2,o1,ok1.grow g2,eg,?_⟩
          cases o1 with
          | nx ρ2=>exact fun σ' F' H' x ok'=>⟨ρ2,F',ok',x2.trans x,e1⟩
          | ct ρ2=>exact fun σ' F' H' x ok'=>⟨ρ2,F',ok',x2.trans x,e1⟩
          | bk ρ2=>cases e1; exact fun σ' F' H' x ok'=>k σ' F' H' (x2.trans x) ok'
          | rt d=>cases e1; exact k
noncomputable abbrev DG:=D->Rho->Option Rho
inductive Zn5 (K:PySem.W.Frag) (b:DG) (v:V) (σ:L2.St) (H:Hp) (Q:L2.St->Hp->Prop):Prop
  | mk (ρ:Rho) (F0:Fz) (H0:Hp) (F:Fz) (d:D) (ρ':Rho) (ok:EnvOk K F0 H0 F σ H ρ) (r:Rep K F H d v) (e:b d ρ=some ρ') (q:∀ σ' F' H',Grow F H F' H'->EnvOk K F0 H0 F' σ' H' ρ'->Q σ' H')
noncomputable def rdG (K:PySem.W.Frag) (b:DG):TG:=fun v σ H Q=>Zn5 K b v σ H Q
noncomputable def GD (X:Cx) (tg:Expr) (b:DG):Prop:=PG X tg (rdG X.K b)
theorem PG.imp {tg:Expr} {t t':TG} (h:PG X tg t) (i:∀ v σ H Q,t' v σ H Q->t v σ H Q):PG X tg t':=fun pins s σ H v u Q I r q=>h pins s σ H v u Q I r (i v σ H Q q)
noncomputable def ZV (i:Nat):DG:=fun d ρ=>some (ρ.set i (.val d))
theorem QM {i:Nat} {x:Str} (hN:X.N.Nodup) (hi:X.N[i]?=some x) (hx:Loc X.env.scope x) (hf:X.fn x=true\/X.env.scope.names.lookup x=some .local:=by first | exact .inl rfl | exact .inr rfl | assumption):GD X (.Name x pos) (ZV i):=
  PG.imp (Zc8 hN hi hx hf) fun v σ H Q ⟨ρ,F0,H0,F,d,ρ',ok,r,e,q⟩=>by cases e; exact q _ F H .refl (ok.set r)
noncomputable def YC (i j:Nat):DG:=fun d ρ=>match d with | .tup [a,b]=>some ((ρ.set i (.val a)).set j (.val b)) | _=>none
theorem U2 {i j:Nat} {x y:Str} {p1 p2:Pos} {k} (hc:X.calm=true) (hN:X.N.Nodup) (hi:X.N[i]?=some x) (hj:X.N[j]?=some y) (hx:Loc X.env.scope x) (hy:Loc X.env.scope y)
    (hf:X.fn x=true\/X.env.scope.names.lookup x=some .local:=by first | exact .inl rfl | exact .inr rfl | assumption)
    (hf':X.fn y=true\/X.env.scope.names.lookup y=some .local:=by first | exact .inl rfl | exact .inr rfl | assumption):GD X (.Tuple [.Name x p1,.Name y p2] k pos) (YC i j):=
  PG.imp (ZkK (n:=2) hc (ZdV (Zc8 hN hi hx hf) (ZdV (Zc8 hN hj hy hf') Zjo))) fun v σ H Q zq=>by
    obtain ⟨ρ,F0,H0,F,d,ρ',ok,r,e,q⟩:=zq
    unfold YC at e
    split at e
    · rename_i a b
      cases e
      unfold Rep at r
      obtain ⟨p,xs,rfl,ht,hl⟩:=r
      obtain ⟨va,vb,rfl,ra,rb⟩:=Zhu hl
      refine ⟨p,_,rfl,ht,rfl,va,[vb],rfl,vb,[],rfl,rfl,?_⟩
      exact q _ F H .refl ((ok.set ra).set rb)
    · cases e
noncomputable def QY (b:DG) (g:DS):List D->DS
  | [],ρ=>some (.nx ρ)
  | x::xs,ρ=>(b x ρ).bind fun ρ1=>match g ρ1 with
    | some (.nx ρ2)=>QY b g xs ρ2
    | some (.ct ρ2)=>QY b g xs ρ2
    | some (.bk ρ2)=>some (.nx ρ2)
    | r=>r
noncomputable def Ws (it:Rho->Option (List D)) (b:DG) (g:DS):DS:=fun ρ=>(it ρ).bind fun xs=>QY b g xs ρ
noncomputable def FW (K:PySem.W.Frag) (F0:Fz) (H0:Hp) (F:Fz) (H:Hp) (b:DG) (g:DS) (xs:List D) (o:Out) (i:Nat) (σ':L2.St) (H':Hp):Prop:=
  ∃ ρ' F',EnvOk K F0 H0 F' σ' H' ρ'/\Ext K F H F' H'/\QY b g (xs.drop i) ρ'=some o
noncomputable def ZnR (K:PySem.W.Frag) (tl:TE):TI:=fun σ H R=>tl σ H fun x H1=>∃ a,x=.ref a/\(((∃ xs,SqL K H1 a xs)/\R (Itl K a) H1)\/((∃ xs,SqT K H1 a xs)/\R (Itt K a) H1))
theorem ZkJ {tg l:Expr} {tl:TE} (hl:PE X l tl):PI X tg l (ZnR X.K tl):=by
  intro pins s σ H R I h
  refine thn (hl pins s σ H _ I h) fun v s1 zq=>?_
  obtain ⟨x,H1,I1,r1,q1⟩:=zq
  obtain ⟨a,e,q1⟩:=q1
  subst e
  cases r1
  have fpk:∀ b∈[s1.heap.objs.size],ZcW X pins H1 b:=fun b hb=>by
    have e:b=s1.heap.objs.size:=by simpa using hb
    subst e
    exact I1.fpOk (Nat.le_refl _) (I1.hok.fresh (Nat.le_refl _))
  rcases q1 with ⟨⟨xs,hq⟩,q⟩ | ⟨⟨xs,hq⟩,q⟩
  · obtain ⟨its,rv,p,hz⟩:=I1.list hq
    refine wpAny_pyIter_list p.isList ?_
    exact ⟨s1.heap.objs.size,[s1.heap.objs.size],_,_,H1,rfl,I1.kept (t':=s1.toks) fun b o e=>Heap.get?_push_of_some _ e,Zfe a _,⟨_,Heap.get?_push_size _ rfl,rfl,rfl⟩,fpk,q⟩
  · obtain ⟨its,rv,p,hz⟩:=I1.tuple hq
    refine wpAny_pyIter_tuple (show s1.heap.IsTuple a its.toArray from p) ?_
    exact ⟨s1.heap.objs.size,[s1.heap.objs.size],_,_,H1,rfl,I1.kept (t':=s1.toks) fun b o e=>Heap.get?_push_of_some _ e,Zeh a _,⟨_,Heap.get?_push_size _ rfl,rfl,rfl⟩,fpk,q⟩
noncomputable def QU (f:DE):Rho->Option (List D):=fun ρ=>(f ρ).bind fun d=>match d with | .lst xs=>some xs | .tup xs=>some xs | _=>none
noncomputable def Qs (lo:Int) (n:Nat):List D:=(List.range n).map fun (k:Nat)=>D.int (lo+(k:Int))
noncomputable def Wm (i:Int):Bool:=decide (-(2 ^ 62)<=i)&&decide (i < 2 ^ 62)
noncomputable def Zbw (f:DE):Rho->Option (List D):=fun ρ=>(f ρ).bind fun d=>match d with | .int j=>if Wm j then some (Qs 0 j.toNat) else none | _=>none
noncomputable def Zgp (f g:DE):Rho->Option (List D):=fun ρ=>(f ρ).bind fun d=>(g ρ).bind fun d'=>match d,d' with | .int i,.int j=>if Wm i&&Wm j then some (Qs i (j-i).toNat) else none | _,_=>none
theorem Zbd {i:Int} (h:Wm i=true):-(2 ^ 62)<=i/\i < 2 ^ 62:=by
  obtain ⟨a,b⟩:=Bool.and_eq_true_iff.mp h; exact ⟨of_decide_eq_true a,of_decide_eq_true b⟩
noncomputable def rel (i:Nat) (ρ:Rho):Rho:=match ρ[i]? with | some (.own ds)=>ρ.set i (.val (.lst ds)) | _=>ρ
theorem EnvOk.rel {K:PySem.W.Frag} {F0 F:Fz} {H0 H:Hp} {σ:L2.St} {ρ:Rho} (ok:EnvOk K F0 H0 F σ H ρ) (i:Nat):∃ F',EnvOk K F0 H0 F' σ H (rel i ρ)/\Ext K F H F' H:=by
  unfold L3.rel
  split
  · rename_i ds ho
    obtain ⟨a,xs,h1,h2,h3,h4,h5⟩:=ok.own i ds ho
    have x:Ext K F H (fun b=>F b\/b=a) H:=⟨fun b z=>.inl z,fun b ys _ z=>z,fun b ys z=>z⟩
    have hl:i < ρ.length:=(List.getElem?_eq_some_iff.mp ho).1
    have old:∀ (j:Nat) es,(ρ.set i (.val (.lst ds)))[j]?=some (.own es)->i≠j/\ρ[j]?=some (.own es):=fun j es h=>by
      by_cases hj:i=j
      · subst hj; rw [List.getElem?_set_self hl] at h; cases h
      · rw [List.getElem?_set_ne hj] at h; exact ⟨hj,h⟩
    refine ⟨fun b=>F b\/b=a,⟨⟨ok.base.same,fun b z=>.inl (ok.base.sub b z),fun b z=>?_⟩,fun j d h=>?_,fun j es h=>?_,fun j k es fs b q1 q2 q3 q4=>?_,by rw [List.length_set,ok.len],fun b z=>?_⟩,x⟩
    · rcases z with z | rfl
      · exact ok.base.new b z
      · exact .inr ⟨h4,by rw [h2]; simp⟩
    · by_cases hj:i=j
      · subst hj
        rw [List.getElem?_set_self hl] at h
        cases h
        refine ⟨_,h1,?_⟩
        unfold Rep
        exact ⟨a,xs,rfl,.inr rfl,.of h2,RepL.ext x h5⟩
      · rw [List.getElem?_set_ne hj] at h
        obtain ⟨v,e1,e2⟩:=ok.val j d h
        exact ⟨v,e1,Rep.ext x e2⟩
    · obtain ⟨hj,h⟩:=old j es h
      obtain ⟨b,ys,e1,e2,e3,e4,e5⟩:=ok.own j es h
      refine ⟨b,ys,e1,e2,fun z=>?_,e4,RepL.ext x e5⟩
      rcases z with z | rfl
      · exact e3 z
      · exact hj (ok.inj i j ds es b ho h h1 e1)
    · obtain ⟨_,q1⟩:=old j es q1
      obtain ⟨_,q2⟩:=old k fs q2
      exact ok.inj j k es fs b q1 q2 q3 q4
    · rcases z with z | rfl
      · exact ok.fz b z
      · exact .inl (by rw [h2]; simp)
  · exact ⟨F,ok,.refl⟩
noncomputable def ZiF (i:Nat) (g:DS):DS:=fun ρ=>g (rel i ρ)
theorem ZfA (i:Nat) (h:SD X st g):SD X st (ZiF i g):=PS.imp h fun E σ H zq=>by
  obtain ⟨ρ,F0,H0,F,o,ok,e,k⟩:=zq
  obtain ⟨F',ok',x⟩:=ok.rel i
  exact ⟨_,F0,H0,F',o,ok',e,k.ext x⟩
mutual
noncomputable def noL:D->Bool
  | .lst _=>false
  | .tup xs=>Zk7 xs
  | _=>true
noncomputable def Zk7:List D->Bool
  | []=>true
  | d::ds=>noL d&&Zk7 ds
end
mutual
theorem Rep.noL {K:PySem.W.Frag} {F F':Fz} {H:Hp}:∀ {d:D} {v:V},L3.noL d=true->Rep K F H d v->Rep K F' H d v
  | .non,_,_,h=>h
  | .bl _,_,_,h=>h
  | .int _,_,_,h=>h
  | .str _,_,_,h=>h
  | .tup ds,_,n,h=>by
    unfold Rep at h ⊢
    obtain ⟨a,xs,rfl,ht,hr⟩:=h
    exact ⟨a,xs,rfl,ht,RepL.noL (by simpa [L3.noL] using n) hr⟩
  | .lst ds,_,n,h=>by simp [L3.noL] at n
theorem RepL.noL {K:PySem.W.Frag} {F F':Fz} {H:Hp}:∀ {ds:List D} {vs:List V},Zk7 ds=true->RepL K F H ds vs->RepL K F' H ds vs
  | [],_,_,h=>by rw [h.unnil]; exact .nil
  | d::ds,_,n,h=>by
    obtain ⟨y,ys,rfl,h1,h2⟩:=h.uncons
    have n':L3.noL d=true/\Zk7 ds=true:=by simpa [Zk7] using n
    exact .cons (Rep.noL n'.1 h1) (RepL.noL n'.2 h2)
end
noncomputable def ZbU (i:Nat) (t:DT):DT:=fun ρ=>t (rel i ρ)
theorem ZiY (i:Nat) (h:TD X e t):TD X e (ZbU i t):=PT.imp h fun σ H Q zq=>by
  obtain ⟨ρ,F0,H0,F,d,ok,e,q⟩:=zq
  obtain ⟨F1,ok1,x1⟩:=ok.rel i
  exact ⟨_,F0,H0,F1,d,ok1,e,fun F' H' g=>q F H' ⟨g.same,fun _ z=>z,fun _ z=>.inl z⟩⟩
end
noncomputable def Zp (n:Nat) (g:DS):List D->Option D:=fun xs=>(g (xs.map .val++List.replicate (n-xs.length) .no)).bind fun o=>match o with | .rt d=>some d | .nx _=>some .non | _=>none
section
variable {P:Program} {w:World} {K:PySem.W.Frag} {mg:Str->Option Value} {base:Heap}
theorem ZnU {x qual:Str} {st:Stmt} {f:Addr} {fd:FuncData} {N ps:List Str} {k:Nat} {g:DS} (F:Fun K x qual st f fd) (S:Zu N ps (Zj st))
    (hb:∀ (cdv:Value) (A:Around) (outer:List Env) (s:Shared) (H:Hp) (E:XK),Room k (A.deeper (envOfC qual (Zj st) s.heap.objs.size f cdv)) ->
      SDs (ZiH CX0 P w K mg base N qual (Zj st) f cdv A outer s H E).nox (Jh st) g):FnD P w K mg base (k+1) f fd ps (Zp N.length g):=by
  have hpl:ps.length<=N.length:=by have:=congrArg List.length S.pre; rw [List.length_take] at this; omega
  refine F.ok S (fun vs H Q E h=>?_) (fun cdv A outer s H vs Q E hr h=>⟨_,hb cdv A outer s H E hr,?_⟩)
  · obtain ⟨xs,F,d,hl,hr,_⟩:=h
    rw [<-hr.length,hl]
  · obtain ⟨xs,Fz,d,hl,hr',hfz,e,q⟩:=h
    obtain ⟨o,eo,e⟩:=bind_some e
    have hlv:=hr'.length
    refine ⟨_,Fz,H,Fz,o,⟨.refl,fun i d' h=>?_,fun i ds h=>?_,fun i j ds es a h=>?_,?_,hfz⟩,eo,?_⟩
    · have hi:i < xs.length:=by
        by_cases hi:i < xs.length
        · exact hi
        · rw [List.getElem?_append_right (by simpa using hi),List.getElem?_replicate] at h
          split at h <;> cases h
      rw [List.getElem?_append_left (by simpa using hi),List.getElem?_map,List.getElem?_eq_getElem hi] at h
      cases h
      obtain ⟨v,ev,rv⟩:=hr'.get (show xs[i]?=some xs[i] by simp [hi])
      refine ⟨v,?_,rv⟩
      unfold L2.start
      rw [List.getElem?_append_left (by simp; omega),List.getElem?_map,ev]; rfl
    · by_cases hi:i < xs.length
      · rw [List.getElem?_append_left (by simpa using hi),List.getElem?_map,List.getElem?_eq_getElem hi] at h; cases h
      · rw [List.getElem?_append_right (by simpa using hi),List.getElem?_replicate] at h
        split at h <;> cases h
    · by_cases hi:i < xs.length
      · rw [List.getElem?_append_left (by simpa using hi),List.getElem?_map,List.getElem?_eq_getElem hi] at h; cases h
      · rw [List.getElem?_append_right (by simpa using hi),List.getElem?_replicate] at h
        split at h <;> cases h
    · unfold L2.start; simp; omega
    · cases o with
      | rt d'=>cases e; exact fun v F' H' g r=>q v F' H' g r
      | nx ρ=>cases e; exact fun σ' F' H' x ok=>q _ F' H' ok.base (by unfold Rep; rfl)
      | bk ρ=>cases e
      | ct ρ=>cases e
end
section
variable {X:Cx} {pins:List (Addr×Obj)} {σ:L2.St} {H:Hp} {s:Shared} {h':Heap}
theorem WV {t':Nat} {e it:Addr} {o:HO} (I:Inv X pins σ H s) (f1:ZcW X pins H e) (f2:ZcW X pins H it) (k:∀ b u,b≠e->b≠it->s.heap.get? b=some u->h'.get? b=some u)
    (new:ObjOk X.prog X.w (upd H s.heap.objs.size o) h' s.heap.objs.size o):Inv X pins σ (upd H s.heap.objs.size o) { s with heap:=h',toks:=t' }:=by
  have hp:H s.heap.objs.size=none:=I.hok.fresh (Nat.le_refl _)
  have inH:∀ {b:Addr} {u:Obj},s.heap.get? b=some u->b≠s.heap.objs.size:=fun q=>Nat.ne_of_lt (Heap.lt_size q)
  have kk:∀ b u,b ∉ [e,it]->s.heap.get? b=some u->h'.get? b=some u:=fun b u hb q=>k b u (fun z=>hb (by simp [z])) (fun z=>hb (by simp [z])) q
  have nT:∀ b u,H b=some u->b ∉ [e,it]:=fun b u q z=>by
    rcases List.mem_cons.mp z with z | z
    · rw [z,f1.1] at q; cases q
    · rw [List.mem_singleton] at z; rw [z,f2.1] at q; cases q
  refine I.step (g':=s.gens) (d':=s.drawn) (ch:=[e,it]) (fun b hb=>?_) (fun b u _ _ hc q _=>kk b u hc q) (fun b u _ _ hc q _=>⟨u.slots,kk b u hc q⟩) (fun b u hc q n=>?_) (fun b u hc q=>⟨u,kk b u hc q⟩)
    (fun b xs q=>?_) (fun b u xs q=>?_) (fun b ps q=>⟨#[],?_⟩) (fun m hm=>?_) (fun b u q=>?_) I.bare
  · rcases List.mem_cons.mp hb with z | z
    · subst z; exact ⟨f1.2.2.2.1,f1.2.1,f1.2.2.2.2.1,f1.2.2.2.2.2⟩
    · rw [List.mem_singleton] at z; subst z; exact ⟨f2.2.2.2.1,f2.2.1,f2.2.2.2.2.1,f2.2.2.2.2.2⟩
  · rw [ZO (inH q)]; exact n
  · rw [ZO (ZL q hp)]; exact q
  · rw [ZO (ZL q hp)]; exact q
  · rw [ZO (ZL q hp),q]; simp
  · obtain ⟨ob,es,ep,ho,r⟩:=hm
    exact ⟨ob,es,ep,k _ ob (fun z=>f1.2.1 z.symm) (fun z=>f2.2.1 z.symm) ho,r⟩
  · by_cases hb:b=s.heap.objs.size
    · subst hb
      rw [ZR] at q
      cases q
      exact new
    · rw [ZO hb] at q
      refine (I.hok b u q).stay (fun c v hc r=>kk c v ?_ r) (fun c r=>by rw [ZO (ZL r hp)]; exact r) fun c xs r=>by rw [ZO (ZL r hp)]; exact r
      rcases hc with z | z
      · rw [z]; exact nT b u q
      · exact nT c _ z
end
noncomputable def Ite (K : PySem.W.Frag) (a : Addr) (tup : Bool) : It :=
  ⟨fun i H => ∃ xs x, (if tup then SqT K H a xs else SqL K H a xs) /\ xs[i]? = some x,
   fun i H x H' => ∃ p y, (∀ xs, (if tup then SqT K H a xs else SqL K H a xs) -> xs[i]? = some y) /\ H p = none /\ x = .ref p /\ H' = upd H p (.tup [.int i, y]),
   fun i H => ∃ xs, (if tup then SqT K H a xs else SqL K H a xs) /\ xs.length <= i⟩
theorem Zek {P:Program} {w:World} {K:PySem.W.Frag} {elts:List Expr} {k:Nat} {pos:Pos} (a e it:Addr) (hei:e≠it) :
    ZiN P w K (.Tuple elts k pos) (Ite K a false) [e,it] e (fun i h=>(∃ old,IsEnum h e it i old)/\h.IsListIter it a i) where
  mem:=by simp
  obj:=fun i h st b hb=>by
    obtain ⟨⟨old,he⟩,o,h1,h2,h3⟩:=st
    rcases List.mem_cons.mp hb with z | z
    · subst z; exact ⟨_,he,fun v z=>by have z':Data.fields _=Data.cell v:=z; cases z'⟩
    · rw [List.mem_singleton] at z; subst z; exact ⟨o,h1,fun v z=>by rw [h3] at z; cases z⟩
  keep:=fun i h h' st kp=>by
    obtain ⟨⟨old,he⟩,st⟩:=st
    exact ⟨⟨old,kp e (by simp) _ he⟩,st.at fun o q=>kp it (by simp) o q⟩
  item:=by
    intro X hP hw hK hc i pins s σ H E I hf st hg
    subst hP hw hK
    obtain ⟨xs,x,hq,hx⟩:=hg
    have hq:SqL X.K H a xs:=hq
    obtain ⟨⟨old,he⟩,hit⟩:=st
    obtain ⟨its,rv,p,hz⟩:=I.list hq
    obtain ⟨u,hu,ru⟩:=rv.get hx
    have f1:=hf e (by simp)
    have f2:=hf it (by simp)
    refine wpAny_pyNext_enum_item he hit p.isList (x:=u) (by simpa using hu) hei fun h1 he1 hit1 ht1 hz1 kp=>?_
    have hp:H s.heap.objs.size=none:=I.hok.fresh (Nat.le_refl _)
    have I1:Inv X pins σ (upd H s.heap.objs.size (.tup [.int i,x])) { s with heap:=h1,toks:=s.toks+1 }:=
      WV I f1 f2 (fun b ob h1' h2' q=>kp b ob h1' h2' q) ⟨by show 2<=sizeLine; decide,[.int i s.toks,u],.cons ⟨_,rfl⟩ (.cons ru .nil),⟨_,ht1,rfl,_,rfl⟩⟩
    refine ⟨_,rfl,wpAny_letOwnedTupleGo_enum (s:={ s with heap:=h1,toks:=s.toks+1 }) he1 fun h2 he2 hs2=>?_⟩
    have ne:∀ {b},H b=none->b∈[e,it]->b≠s.heap.objs.size:=fun {b} _ hb=>by
      rcases List.mem_cons.mp hb with z | z
      · rw [z]; exact Nat.ne_of_lt (Heap.lt_size he)
      · rw [List.mem_singleton] at z; rw [z]; obtain ⟨o,q,_⟩:=hit; exact Nat.ne_of_lt (Heap.lt_size q)
    have fz:∀ b∈[e,it],upd H s.heap.objs.size (.tup [.int i,x]) b=none:=fun b hb=>by rw [ZO (ne (hf b hb).1 hb)]; exact (hf b hb).1
    have I2:Inv X pins σ (upd H s.heap.objs.size (.tup [.int i,x])) { s with heap:=h2,toks:=s.toks+1 }:=
      L2.Inv.turned (s:={ s with heap:=h1,toks:=s.toks+1 }) (t':=s.toks+1) (it:=e) I1 (fun b ob hb q=>(hs2.2 b hb).trans q) (fz e (by simp)) f1.2.1 f1.2.2.2.1 f1.2.2.2.2.1 f1.2.2.2.2.2
    exact ⟨.ref s.heap.objs.size,_,I2,rfl,⟨s.heap.objs.size,x,fun xs' hq'=>by rw [I.list_inj (show SqL X.K H a xs' from hq') hq]; exact hx,hp,rfl,rfl⟩,⟨⟨u,he2⟩,hit1.at fun ob q=>(hs2.2 it (Ne.symm hei)).trans q⟩,fz⟩
  done:=by
    intro X hP hw hK hc i pins s σ H E I hf st hg
    subst hP hw hK
    obtain ⟨xs,hq,hx⟩:=hg
    have hq:SqL X.K H a xs:=hq
    obtain ⟨⟨old,he⟩,hit⟩:=st
    obtain ⟨its,rv,p,hz⟩:=I.list hq
    have hl:=rv.length
    have f2:=hf it (by simp)
    exact wpAny_pyNext_enum_end (I.ok.hd hc) he hit p.isList (by simp; omega) fun h1 hb=>⟨rfl,I.turned (t':=s.toks) (it:=it) (fun b ob hb' q=>hb b ob hb' q) f2.1 f2.2.1 f2.2.2.2.1 f2.2.2.2.2.1 f2.2.2.2.2.2⟩
  self:=fun _ _ _ _ _ st h=>by
    obtain ⟨⟨old,he⟩,_⟩:=st
    exact wpAny_pyIter_enum he h
open PySem.AutoSeq1 (wpAny_loadPart')
section
variable {prog:Program} {w:World} {A:Around} {E:Value->Shared->Prop} {s:Shared}
theorem ZeB {it t:Addr} {i:Nat} {its:Array Value} {x:Value} {Q:Value->Shared->Prop} (hi:s.heap.IsTupleIter it t i) (ht:s.heap.IsTuple t its) (hx:its[i]?=some x)
    (q:∀ k,k.IsTupleIter it t (i+1)->Heap.SameBut it s.heap k->Q x { s with heap:=k }):wpAny (model prog w) A (Builtin.SmallTypes.nextOf (.ref it)) Q E s:=by
  obtain ⟨o,ho,hc,hd⟩:=id hi
  obtain ⟨ot,hot,_,nt,hdt⟩:=ht
  unfold Builtin.SmallTypes.nextOf
  refine wpAny_bind (wpAny_callSpecial?_slot (name:=Str.ofString "__next__") hi.typeIs F.slot_tuple_iterator_next (wpAny_call_entry F.slot_tuple_iterator_next hi.typeIs F.entry_tuple_iterator_next ?_ (F.args_tuple_iterator_next_1 _)))
  show wpAny _ _ (field (.ref it) 0 >>= _) _ _ s; refine wpAny_bind (wpAny_field ho hd (x:=.ref t) rfl ?_)
  show wpAny _ _ (if (Value.ref t==Value.none)=true then _ else _) _ _ s; rw [if_neg (show ¬ ((Value.ref t==Value.none)=true) from Bool.false_ne_true)]
  show wpAny _ _ (field (.ref it) 1 >>= _) _ _ s; refine wpAny_bind (wpAny_field ho hd (x:=.int i 0) rfl ?_)
  show wpAny _ _ (seqItems? (.ref t) >>= _) _ _ s; refine wpAny_bind (wpAny_seqItems hot hdt ?_)
  simp only [Int.toNat_natCast,hx]
  refine wpAny_bind (wpAny_setField ho hd (by simp) (wpAny_pure ⟨x,rfl,wpAny_pure (q _ ⟨_,Heap.get?_update_self _ ho (Obj.isFreed_of_fields (Obj.data_mapFields hd _)),(Obj.cls_mapFields ..).trans hc,by rw [Obj.data_mapFields hd]; simp [rawInt]⟩ (Heap.SameBut.update ..))⟩))
theorem Zf8 {it t:Addr} {i:Nat} {its:Array Value} {Q:Value->Shared->Prop} (hh:A.handled=none) (hi:s.heap.IsTupleIter it t i) (ht:s.heap.IsTuple t its) (hx:its[i]?=none)
    (q:∀ k e,Heap.ExtBut it s.heap k->(∃ o,k.get? e=some o/\o.cls=.type "StopIteration")->E (.ref e) { s with heap:=k }):wpAny (model prog w) A (Builtin.SmallTypes.nextOf (.ref it)) Q E s:=by
  obtain ⟨o,ho,hc,hd⟩:=id hi
  obtain ⟨ot,hot,_,nt,hdt⟩:=ht
  unfold Builtin.SmallTypes.nextOf
  refine wpAny_bind (wpAny_callSpecial?_slot (name:=Str.ofString "__next__") hi.typeIs F.slot_tuple_iterator_next (wpAny_call_entry F.slot_tuple_iterator_next hi.typeIs F.entry_tuple_iterator_next ?_ (F.args_tuple_iterator_next_1 _)))
  show wpAny _ _ (field (.ref it) 0 >>= _) _ _ s; refine wpAny_bind (wpAny_field ho hd (x:=.ref t) rfl ?_)
  show wpAny _ _ (if (Value.ref t==Value.none)=true then _ else _) _ _ s; rw [if_neg (show ¬ ((Value.ref t==Value.none)=true) from Bool.false_ne_true)]
  show wpAny _ _ (field (.ref it) 1 >>= _) _ _ s; refine wpAny_bind (wpAny_field ho hd (x:=.int i 0) rfl ?_)
  show wpAny _ _ (seqItems? (.ref t) >>= _) _ _ s; refine wpAny_bind (wpAny_seqItems hot hdt ?_)
  simp only [Int.toNat_natCast,hx]
  refine wpAny_bind (wpAny_rule (wpAny_bind (wpAny_setField ho hd (by simp) ?_)))
  show wpAny _ _ (newExc (.type "StopIteration") [] >>= _) _ _ _; refine wpAny_bind ?_
  simp only [newExc,newTuple]
  refine wpAny_bind (wpAny_newObj_type ?_ (by size_fits)); refine wpAny_bind (m:=firstArgMember _ _) (wpAny_of_eq (a:=Value.none) (by first | rfl | (simp only [firstArgMember]; rfl)) ?_)
  refine wpAny_newObj_type ?_ (by size_fits); simp only [raiseNew]; refine wpAny_bind (wpAny_handled ?_)
  first | rw [show A.in1.handled=none from hh] | rw [hh]
  refine wpAny_bind (wpAny_pure (wpAny_throw ?_))
  exact q _ _ (((Heap.SameBut.update ..).extBut.push _).push _) ⟨_,Heap.get?_push_size _ rfl,rfl⟩
theorem ZeL {e it t:Addr} {i:Nat} {its:Array Value} {x old:Value} {Q:Value->Shared->Prop} (he:IsEnum s.heap e it i old) (hi:s.heap.IsTupleIter it t i) (ht:s.heap.IsTuple t its) (hx:its[i]?=some x) (hne:e≠it)
    (q:∀ k,IsEnumOut k e it ((i:Int)+1) x s.heap.objs.size->k.IsTupleIter it t (i+1)->k.get? s.heap.objs.size=some { cls:=.type "tuple",data:=.seq #[.int i s.toks,x] }->k.objs.size=s.heap.objs.size+1 ->
      (∀ b o,b≠e->b≠it->s.heap.get? b=some o->k.get? b=some o)->Q (.ref s.heap.objs.size) { s with heap:=k,toks:=s.toks+1 }) :
    wpAny (model prog w) A (Builtin.«enumerate.__next__» ⟨[.ref e],[]⟩) (fun fin s'=>∃ v,fin=.done (.ret v)/\Q v s') E s:=by
  obtain ⟨hp,gs,dr,tk,os⟩:=s
  show wpAny _ _ (field (.ref e) 2 >>= _) _ _ _; refine wpAny_bind (wpAny_field he rfl (x:=.ref it) rfl ?_)
  refine wpAny_bind (ZeB hi ht hx fun k1 hi1 sb1=>?_)
  replace sb1:Heap.SameBut it hp k1:=sb1
  have en1:IsEnum k1 e it i old:=(sb1.2 e hne).trans he
  show wpAny _ _ (field (.ref e) 3 >>= _) _ _ ⟨k1,gs,dr,tk,os⟩; refine wpAny_bind (wpAny_field en1 rfl (x:=rawInt i) rfl ?_)
  show wpAny _ _ (field (.ref e) 4 >>= _) _ _ ⟨k1,gs,dr,tk,os⟩; refine wpAny_bind (wpAny_field en1 rfl (x:=.none) rfl ?_)
  show wpAny _ _ (mkInt i >>= _) _ _ ⟨k1,gs,dr,tk,os⟩; refine wpAny_bind (wpAny_mkInt ?_)
  show wpAny _ _ (setField (.ref e) 3 (rawInt ((i:Int)+1)) >>= _) _ _ ⟨k1,gs,dr,tk+1,os⟩; refine wpAny_bind (wpAny_setField_rec en1 (by simp) fun k2 en2 sb2=>?_)
  replace sb2:Heap.SameBut e k1 k2:=sb2; replace en2:IsEnum k2 e it ((i:Int)+1) old:=en2
  show wpAny _ _ (setField (.ref e) 4 .none >>= _) _ _ ⟨k2,gs,dr,tk+1,os⟩; refine wpAny_bind (wpAny_setField_rec en2 (by simp) fun k3 en3 sb3=>?_)
  replace sb3:Heap.SameBut e k2 k3:=sb3; replace en3:IsEnum k3 e it ((i:Int)+1) old:=en3
  show wpAny _ _ (newTuple [.int i tk,x] >>= _) _ _ ⟨k3,gs,dr,tk+1,os⟩; refine wpAny_bind (wpAny_newTuple ?_)
  have en4:IsEnum (k3.push { cls:=.type "tuple",data:=.seq #[.int i tk,x] }) e it ((i:Int)+1) old:=Heap.get?_push_of_some _ en3
  generalize h4:k3.push { cls:=.type "tuple",data:=.seq #[.int i tk,x] }=k4 at en4
  have z3:k3.objs.size=hp.objs.size:=by rw [sb3.1,sb2.1,sb1.1]
  have lt:e < hp.objs.size:=Heap.lt_size he
  have t4:k4.get? hp.objs.size=some { cls:=.type "tuple",data:=.seq #[.int i tk,x] }:=by rw [<-h4,<-z3]; exact Heap.get?_push_size _ rfl
  have z4:k4.objs.size=hp.objs.size+1:=by rw [<-h4,Heap.size_push,z3]
  have old4:∀ b o,b≠e->b≠it->hp.get? b=some o->k4.get? b=some o:=fun b o n1 n2 hb=>by
    rw [<-h4]; exact Heap.get?_push_of_some _ (sb3.extBut b o n1 (sb2.extBut b o n1 (sb1.extBut b o n2 hb)))
  have hi4:k4.IsTupleIter it t (i+1):=by
    rw [<-h4]; obtain ⟨o,ho,r⟩:=(hi1.extBut sb2.extBut (Ne.symm hne)).extBut sb3.extBut (Ne.symm hne); exact ⟨o,Heap.get?_push_of_some _ ho,r⟩
  show wpAny _ _ (Builtin.SmallTypes.ownedTupleIsFree (.ref e) >>= _) _ _ ⟨k4,gs,dr,tk+1,os⟩
  rw [z3]
  clear h4 en3 sb3 en2 sb2 en1 sb1 hi1 z3 k3 k2 k1
  refine wpAny_bind ?_
  unfold Builtin.SmallTypes.ownedTupleIsFree; refine wpAny_bind (wpAny_field en4 rfl (x:=.none) rfl (wpAny_pure ?_))
  simp only [if_true]
  refine wpAny_bind (wpAny_rule ?_); refine wpAny_bind (wpAny_field en4 rfl (x:=old) rfl ?_); refine wpAny_bind (wpAny_setField_rec en4 (by simp) fun k5 en5 sb5=>?_)
  replace sb5:Heap.SameBut e k4 k5:=sb5; replace en5:IsEnum k5 e it ((i:Int)+1) x:=en5
  show wpAny _ _ (Builtin.SmallTypes.ownedTupleHandOut (.ref e) (.ref hp.objs.size) >>= _) _ _ ⟨k5,gs,dr,tk+1,os⟩
  refine wpAny_bind ?_
  unfold Builtin.SmallTypes.ownedTupleHandOut; refine wpAny_bind (wpAny_setField_rec en5 (by simp) fun k6 en6 sb6=>?_)
  replace sb6:Heap.SameBut e k5 k6:=sb6; replace en6:IsEnumOut k6 e it ((i:Int)+1) x hp.objs.size:=en6
  refine wpAny_setField_rec en6 (by simp) fun k7 en7 sb7=>?_
  replace sb7:Heap.SameBut e k6 k7:=sb7; replace en7:IsEnumOut k7 e it ((i:Int)+1) x hp.objs.size:=en7
  have up:∀ b o,b≠e->k4.get? b=some o->k7.get? b=some o:=fun b o n hb=>sb7.extBut b o n (sb6.extBut b o n (sb5.extBut b o n hb))
  refine wpAny_bind (wpAny_letGo (wpAny_pure ⟨_,rfl,q k7 en7 ?_ (up _ _ (Nat.ne_of_gt lt) t4) (by rw [sb7.1,sb6.1,sb5.1,z4]) fun b o n1 n2 hb=>up b o n1 (old4 b o n1 n2 hb)⟩))
  obtain ⟨o,ho,r⟩:=hi4; exact ⟨o,up it o (Ne.symm hne) ho,r⟩
theorem ZeM {e it t:Addr} {i:Nat} {its:Array Value} {x old:Value} {Q:Option Value->Shared->Prop} (he:IsEnum s.heap e it i old) (hi:s.heap.IsTupleIter it t i) (ht:s.heap.IsTuple t its) (hx:its[i]?=some x) (hne:e≠it)
    (q:∀ k,IsEnumOut k e it ((i:Int)+1) x s.heap.objs.size->k.IsTupleIter it t (i+1)->k.get? s.heap.objs.size=some { cls:=.type "tuple",data:=.seq #[.int i s.toks,x] }->k.objs.size=s.heap.objs.size+1 ->
      (∀ b o,b≠e->b≠it->s.heap.get? b=some o->k.get? b=some o)->Q (some (.ref s.heap.objs.size)) { s with heap:=k,toks:=s.toks+1 }):wpAny (model prog w) A (pyNext (.ref e)) Q E s:=by
  have ty:s.TypeIs (.ref e) "enumerate":=⟨_,he,rfl⟩
  unfold pyNext
  exact wpAny_bind (wpAny_attempt (wpAny_callSpecial?_slot (name:=Str.ofString "__next__") ty F.slot_enumerate_next (wpAny_call_entry F.slot_enumerate_next ty F.entry_enumerate_next
    (ZeL he hi ht hx hne fun k a b c d o=>wpAny_pure (q k a b c d o)) (F.args_enumerate_next_1 _))))
theorem ZgD {e it t:Addr} {i:Nat} {its:Array Value} {old:Value} {Q:Option Value->Shared->Prop} (hh:A.handled=none) (he:IsEnum s.heap e it i old) (hi:s.heap.IsTupleIter it t i) (ht:s.heap.IsTuple t its) (hx:its[i]?=none)
    (q:∀ k,Heap.ExtBut it s.heap k->Q none { s with heap:=k }):wpAny (model prog w) A (pyNext (.ref e)) Q E s:=by
  have ty:s.TypeIs (.ref e) "enumerate":=⟨_,he,rfl⟩
  unfold pyNext
  refine wpAny_bind (wpAny_attempt (wpAny_callSpecial?_slot (name:=Str.ofString "__next__") ty F.slot_enumerate_next (wpAny_call_entry F.slot_enumerate_next ty F.entry_enumerate_next ?_ (F.args_enumerate_next_1 _))))
  show wpAny _ _ (field (.ref e) 2 >>= _) _ _ _; refine wpAny_bind (wpAny_field he rfl (x:=.ref it) rfl ?_)
  refine wpAny_bind (Zf8 hh hi ht hx fun k x kb zq=>?_)
  obtain ⟨o,ho,hc⟩:=zq
  refine wpAny_bind (wpAny_isInstance (T:="StopIteration") (b:=true) ⟨o,ho,hc⟩ isSubtype_stop ?_)
  exact wpAny_pure (q _ kb)
theorem ZgC (t:Addr) (its:Array Value) (n:Nat) (dd:Option Addr) (sl:Array (Option Value)) :
    Meets (Builtin.«enumerate.__new__» ⟨[.type "enumerate",.ref t],[]⟩) (fun _ R s=>s.heap.get? t=some { cls:=.type "tuple",dict:=dd,data:=.seq its n,slots:=sl } /\
      R (.ok (.ret (.ref (s.heap.push { cls:=.type "tuple_iterator",data:=.fields #[.ref t,.int 0 0] }).objs.size)))
        { s with heap:=(s.heap.push { cls:=.type "tuple_iterator",data:=.fields #[.ref t,.int 0 0] }).push { cls:=.type "enumerate",data:=.fields #[.none,.bool false,.ref s.heap.objs.size,rawInt 0,.none,.none] } }):=
  .of_wp fun prog w A R s h=>by
    obtain ⟨hp,gs,dr,tk,os⟩:=s; obtain ⟨ht,h⟩:=h; have hsub:=sub_enumerate
    have hT:Heap.IsTuple (Shared.heap ⟨hp,gs,dr,tk,os⟩) t its:=⟨_,ht,rfl,n,rfl⟩
    wp_walk using wpAny_loadPart' ht
    refine wpAny_stack_any fun st=>wpAny_pure ?_
    split
    · rename_i c _ _ _ _ _
      cases (c==Value.type "enumerate")
      · wp_walk using wpAny_loadPart' ht,wpAny_pyIter_tuple hT
        exact ⟨_,rfl,h⟩
      · wp_walk using wpAny_loadPart' ht,wpAny_pyIter_tuple hT
        exact ⟨_,rfl,h⟩
    · wp_walk using wpAny_loadPart' ht,wpAny_pyIter_tuple hT
      exact ⟨_,rfl,h⟩
theorem ZeN {t:Addr} {its:Array Value} {Q:Value->Shared->Prop} (ht:s.heap.IsTuple t its)
    (h:∀ k,IsEnum k (s.heap.objs.size+1) s.heap.objs.size 0 .none->k.IsTupleIter s.heap.objs.size t 0->k.objs.size=s.heap.objs.size+2->(∀ b o,s.heap.get? b=some o->k.get? b=some o)->Q (.ref (s.heap.objs.size+1)) { s with heap:=k }) :
    wpAny (model prog w) A (call (.type "enumerate") [.ref t]) Q E s:=by
  obtain ⟨⟨c,dd,dt,sl⟩,ho,hc,n,hd⟩:=ht
  replace hc:c=.type "tuple":=hc; replace hd:dt=.seq its n:=hd; subst hc hd
  refine callType_new F.called_enumerate (by decide) (F.typeCall_enumerate_1 _) (F.newCall_enumerate_1 _) (fun obj=>F.args_object_init_2 obj _) F.entry_enumerate_new (ZgC t its n dd sl) ⟨ho,?_⟩
  have z1:(s.heap.push { cls:=.type "tuple_iterator",data:=.fields #[.ref t,.int 0 0] }).objs.size=s.heap.objs.size+1:=Heap.size_push ..
  show _/\_
  rw [z1]
  have en:IsEnum ((s.heap.push { cls:=.type "tuple_iterator",data:=.fields #[.ref t,.int 0 0] }).push { cls:=.type "enumerate",data:=.fields #[.none,.bool false,.ref s.heap.objs.size,rawInt 0,.none,.none] }) (s.heap.objs.size+1) s.heap.objs.size 0 .none:=by
    have:=Heap.get?_push_size (s.heap.push { cls:=.type "tuple_iterator",data:=.fields #[.ref t,.int 0 0] }) (o:={ cls:=.type "enumerate",data:=.fields #[.none,.bool false,.ref s.heap.objs.size,rawInt 0,.none,.none] }) rfl
    rw [z1] at this; exact this
  exact ⟨⟨_,en,rfl⟩,h _ en ⟨_,Heap.get?_push_of_some _ (Heap.get?_push_size _ rfl),rfl,rfl⟩ (by rw [Heap.size_push,z1]) fun b o x=>Heap.get?_push_of_some _ (Heap.get?_push_of_some _ x)⟩
end
theorem Zej {P:Program} {w:World} {K:PySem.W.Frag} {elts:List Expr} {k:Nat} {pos:Pos} (a e it:Addr) (hei:e≠it) :
    ZiN P w K (.Tuple elts k pos) (Ite K a true) [e,it] e (fun i h=>(∃ old,IsEnum h e it i old)/\h.IsTupleIter it a i) where
  mem:=by simp
  obj:=fun i h st b hb=>by
    obtain ⟨⟨old,he⟩,o,h1,h2,h3⟩:=st
    rcases List.mem_cons.mp hb with z | z
    · subst z; exact ⟨_,he,fun v z=>by have z':Data.fields _=Data.cell v:=z; cases z'⟩
    · rw [List.mem_singleton] at z; subst z; exact ⟨o,h1,fun v z=>by rw [h3] at z; cases z⟩
  keep:=fun i h h' st kp=>by
    obtain ⟨⟨old,he⟩,st⟩:=st
    exact ⟨⟨old,kp e (by simp) _ he⟩,st.at fun o q=>kp it (by simp) o q⟩
  item:=by
    intro X hP hw hK hc i pins s σ H E I hf st hg
    subst hP hw hK
    obtain ⟨xs,x,hq,hx⟩:=hg
    have hq:SqT X.K H a xs:=hq
    obtain ⟨⟨old,he⟩,hit⟩:=st
    obtain ⟨its,rv,p,hz⟩:=I.tuple hq
    obtain ⟨u,hu,ru⟩:=rv.get hx
    have f1:=hf e (by simp)
    have f2:=hf it (by simp)
    refine ZeM he hit (show s.heap.IsTuple a its.toArray from p) (x:=u) (by simpa using hu) hei fun h1 he1 hit1 ht1 hz1 kp=>?_
    have hp:H s.heap.objs.size=none:=I.hok.fresh (Nat.le_refl _)
    have I1:Inv X pins σ (upd H s.heap.objs.size (.tup [.int i,x])) { s with heap:=h1,toks:=s.toks+1 }:=
      WV I f1 f2 (fun b ob h1' h2' q=>kp b ob h1' h2' q) ⟨by show 2<=sizeLine; decide,[.int i s.toks,u],.cons ⟨_,rfl⟩ (.cons ru .nil),⟨_,ht1,rfl,_,rfl⟩⟩
    refine ⟨_,rfl,wpAny_letOwnedTupleGo_enum (s:={ s with heap:=h1,toks:=s.toks+1 }) he1 fun h2 he2 hs2=>?_⟩
    have ne:∀ {b},H b=none->b∈[e,it]->b≠s.heap.objs.size:=fun {b} _ hb=>by
      rcases List.mem_cons.mp hb with z | z
      · rw [z]; exact Nat.ne_of_lt (Heap.lt_size he)
      · rw [List.mem_singleton] at z; rw [z]; obtain ⟨o,q,_⟩:=hit; exact Nat.ne_of_lt (Heap.lt_size q)
    have fz:∀ b∈[e,it],upd H s.heap.objs.size (.tup [.int i,x]) b=none:=fun b hb=>by rw [ZO (ne (hf b hb).1 hb)]; exact (hf b hb).1
    have I2:Inv X pins σ (upd H s.heap.objs.size (.tup [.int i,x])) { s with heap:=h2,toks:=s.toks+1 }:=
      L2.Inv.turned (s:={ s with heap:=h1,toks:=s.toks+1 }) (t':=s.toks+1) (it:=e) I1 (fun b ob hb q=>(hs2.2 b hb).trans q) (fz e (by simp)) f1.2.1 f1.2.2.2.1 f1.2.2.2.2.1 f1.2.2.2.2.2
    exact ⟨.ref s.heap.objs.size,_,I2,rfl,⟨s.heap.objs.size,x,fun xs' hq'=>by rw [I.tuple_inj (show SqT X.K H a xs' from hq') hq]; exact hx,hp,rfl,rfl⟩,⟨⟨u,he2⟩,hit1.at fun ob q=>(hs2.2 it (Ne.symm hei)).trans q⟩,fz⟩
  done:=by
    intro X hP hw hK hc i pins s σ H E I hf st hg
    subst hP hw hK
    obtain ⟨xs,hq,hx⟩:=hg
    have hq:SqT X.K H a xs:=hq
    obtain ⟨⟨old,he⟩,hit⟩:=st
    obtain ⟨its,rv,p,hz⟩:=I.tuple hq
    have hl:=rv.length
    have f2:=hf it (by simp)
    exact ZgD (I.ok.hd hc) he hit (show s.heap.IsTuple a its.toArray from p) (by simp; omega) fun h1 hb=>⟨rfl,I.turned (t':=s.toks) (it:=it) (fun b ob hb' q=>hb b ob hb' q) f2.1 f2.2.1 f2.2.2.2.1 f2.2.2.2.2.1 f2.2.2.2.2.2⟩
  self:=fun _ _ _ _ _ st h=>by
    obtain ⟨⟨old,he⟩,_⟩:=st
    exact wpAny_pyIter_enum he h
noncomputable def Zdr (cells:List (Str×Addr)):List (Str×NameKind)->List (Str×Addr)->List (Str×Addr)
  | [],acc=>acc
  | (n,k)::r,acc=>if k==.free then Zdr cells r ((n,(cells.lookup n).getD 0)::acc) else Zdr cells r acc
theorem ZaW {env:Env}:∀ (names:List (Str×NameKind)) (acc:List (Str×Addr)),(∀ y∈names,y.2=.free->∃ c,env.cells.lookup y.1=some c) ->
    (forIn names acc fun y cs=>match y with | (name,kind)=>(if kind==NameKind.free then do let c <- cellOf env name; pure (ForInStep.yield ((name,c)::cs)) else pure (ForInStep.yield cs):Sem (ForInStep (List (Str×Addr)))))=pure (Zdr env.cells names acc)
  | [],acc,_=>rfl
  | (n,k)::r,acc,h=>by
    rw [List.forIn_cons]
    have ih:=fun acc=>ZaW r acc fun y hy=>h y (List.mem_cons_of_mem _ hy)
    by_cases hk:k=.free
    · subst hk
      obtain ⟨c,e⟩:=h (n,.free) List.mem_cons_self rfl
      have e':env.cells.lookup n=some c:=e
      have:cellOf env n=pure c:=by unfold cellOf; rw [e']
      have b:(NameKind.free==NameKind.free)=true:=rfl
      simp only [b,if_true,this,Zdr,e',Option.getD_some]
      exact ih _
    · have b:(k==NameKind.free)=false:=by simpa using hk
      simp only [b,Bool.false_eq_true,if_false,Zdr]
      exact ih _
theorem Vs {scope:Scope} {env:Env} (h:∀ y∈scope.names,y.2=.free->∃ c,env.cells.lookup y.1=some c):closureFor scope env=pure (Zdr env.cells scope.names []):=by
  have e:=ZaW (env:=env) scope.names [] h
  unfold closureFor
  have q:(forIn scope.names ([]:List (Str×Addr)) fun y cs=>match y with | (name,kind)=>(if kind==NameKind.free then do let c <- cellOf env name; pure (ForInStep.yield ((name,c)::cs)) else pure (ForInStep.yield cs):Sem (ForInStep (List (Str×Addr))))) >>= pure=pure (Zdr env.cells scope.names []):=by rw [e]; rfl
  exact q
theorem U5 {cells:List (Str×Addr)}:∀ (names:List (Str×NameKind)) (acc:List (Str×Addr)) (x:Str) (c:Addr),(∀ y∈names,y.2=.free->∃ c,cells.lookup y.1=some c) ->
    (Zdr cells names acc).lookup x=some c->cells.lookup x=some c\/acc.lookup x=some c
  | [],acc,x,c,_,e=>.inr e
  | (n,k)::r,acc,x,c,h,e=>by
    have h':=fun y hy=>h y (List.mem_cons_of_mem (n,k) hy)
    unfold Zdr at e
    by_cases hk:(k==NameKind.free)=true
    · rw [if_pos hk] at e
      rcases U5 r _ x c h' e with z | z
      · exact .inl z
      · rw [List.lookup_cons] at z
        cases q:x==n with
        | true=>
          rw [q] at z
          obtain ⟨c',e'⟩:=h (n,k) List.mem_cons_self (eq_of_beq hk)
          have e':cells.lookup n=some c':=e'
          rw [e'] at z
          left
          rw [eq_of_beq q,e']; exact z
        | false=>rw [q] at z; exact .inr z
    · rw [if_neg hk] at e
      exact U5 r acc x c h' e
theorem WA {cells : List (Str × Addr)} : ∀ (names : List (Str × NameKind)) (acc : List (Str × Addr)) (x : Str), ((∃ y ∈ names, y.1 = x /\ y.2 = .free) \/ ∃ c, acc.lookup x = some c) -> ∃ c, (Zdr cells names acc).lookup x = some c
  | [], acc, x, h => by
    rcases h with ⟨y, hy, _⟩ | h
    · cases hy
    · exact h
  | (n, k) :: r, acc, x, h => by
    unfold Zdr
    by_cases hk : (k == NameKind.free) = true
    · rw [if_pos hk]
      apply WA r
      rcases h with ⟨y, hy, e1, e2⟩ | ⟨c, h⟩
      · rcases List.mem_cons.mp hy with rfl | hy
        · right; exact ⟨(cells.lookup n).getD 0, by rw [List.lookup_cons]; have : (x == n) = true := by rw [<- e1]; exact beq_self_eq_true _
                                                    rw [this]⟩
        · left; exact ⟨y, hy, e1, e2⟩
      · right
        rw [List.lookup_cons]
        cases q : x == n with
        | true => exact ⟨_, rfl⟩
        | false => exact ⟨c, h⟩
    · rw [if_neg hk]
      apply WA r
      rcases h with ⟨y, hy, e1, e2⟩ | h
      · rcases List.mem_cons.mp hy with rfl | hy
        · have e2 : k = NameKind.free := e2
          exact absurd (by rw [e2]; rfl) hk
        · left; exact ⟨y, hy, e1, e2⟩
      · exact .inr h
noncomputable def Y8 (X:Cx) (N:List Str) (scope:Scope) (C:Addr) (s3:Shared) (H3:Hp) (fp:List Addr):Cx where
  prog:=X.prog
  w:=X.w
  K:=X.K
  mg:=X.mg
  base:=X.base
  A:=X.A
  N:=N
  s₀:=s3
  H₀:=H3
  env:=compEnvC scope (Zdr X.env.cells scope.names []) C X.env
  outer:=X.stack
  stack:=X.stack
  ex:=fp
  fn:=fun _=>false
  calm:=true
  pn:=[]
  xe:=fun _ _=>False
structure CompScope (X:Cx) (scope:Scope):Prop where
  kind:scope.kind=.function
  nocell:∀ y∈scope.names,y.2≠.cell
  loc:∀ y∈scope.names,y.2=.local->scope.names.lookup y.1=some .local
  free:∀ y∈scope.names,y.2=.free->X.env.kindOf y.1=some .cell\/X.env.kindOf y.1=some .free
theorem QW {scope:Scope} {env:Env} {x:Str} {k:NameKind} (h:(relabel scope env).names.lookup x=some k):(k=.cell\/k=.free)->(∀ y∈scope.names,y.2≠.cell)->∃ y∈scope.names,y.1=x/\y.2=.free:=by
  intro hk hn
  have gen:∀ (names:List (Str×NameKind)),(∀ y∈names,y.2≠.cell)->(names.map fun (n,k)=>if (k==NameKind.free&&env.scope.kind==.function&&env.kindOf n==some .cell) then (n,NameKind.cell) else (n,k)).lookup x=some k->∃ y∈names,y.1=x/\y.2=.free:=by
    intro names
    induction names with
    | nil=>intro _ e; cases e
    | cons y r ih=>
      intro hn e
      obtain ⟨n,k'⟩:=y
      have hn':=fun y hy=>hn y (List.mem_cons_of_mem (n,k') hy)
      simp only [List.map_cons] at e
      by_cases c:(k'==NameKind.free&&env.scope.kind==.function&&env.kindOf n==some .cell)=true
      · rw [if_pos c,List.lookup_cons] at e
        cases q:x==n with
        | true=>
          have kf:k'=.free:=by
            have:=(Bool.and_eq_true_iff.mp (Bool.and_eq_true_iff.mp c).1).1
            exact eq_of_beq this
          exact ⟨_,List.mem_cons_self,(eq_of_beq q).symm,kf⟩
        | false=>
          rw [q] at e
          obtain ⟨y,hy,e1⟩:=ih hn' e
          exact ⟨y,List.mem_cons_of_mem _ hy,e1⟩
      · rw [if_neg c,List.lookup_cons] at e
        cases q:x==n with
        | true=>
          rw [q] at e
          cases e
          rcases hk with rfl | rfl
          · exact absurd rfl (hn (n,.cell) List.mem_cons_self)
          · exact ⟨_,List.mem_cons_self,(eq_of_beq q).symm,rfl⟩
        | false=>
          rw [q] at e
          obtain ⟨y,hy,e1⟩:=ih hn' e
          exact ⟨y,List.mem_cons_of_mem _ hy,e1⟩
  exact gen scope.names hn h
section
variable {X:Cx} {pins:List (Addr×Obj)} {σ:L2.St} {H:Hp} {s:Shared}
theorem CompScope.cells {scope:Scope} (S:CompScope X scope) (ok:X.Ok):∀ y∈scope.names,y.2=.free->∃ c,X.env.cells.lookup y.1=some c:=fun y hy e=>ok.has y.1 (S.free y hy e)
theorem ZeS {scope:Scope} (S:CompScope X scope) {N:List Str} {fp:List Addr} {h4:Heap} {m:Str->Option Value} {σ':L2.St} (I:Inv X pins σ H s) (hc:X.calm=true) (hf:∀ b∈fp,ZcW X pins H b) (hlt:∀ b∈fp,b < s.heap.objs.size)
    (hk:∀ b o,s.heap.get? b=some o->h4.get? b=some o) (hn:h4.Ns s.heap.objs.size m) (hl:σ'.length=N.length)
    (hσ:∀ (i:Nat) x v,N[i]?=some x->σ'[i]?=some (some v)->Vis (relabel scope X.env) x->((relabel scope X.env).names.lookup x≠some .local)/\∃ j:Nat,X.N[j]?=some x/\σ[j]?=some (some v)/\Vis X.env.scope x/\X.env.kindOf x≠some .local) {t':Nat} :
    Inv (Y8 X N scope s.heap.objs.size s H fp) [] σ' H { s with heap:=h4,toks:=t' }:=by
  have hcell:=S.cells I.ok
  have sub:∀ x c,(Zdr X.env.cells scope.names []).lookup x=some c->X.env.cells.lookup x=some c:=fun x c e=>by
    rcases U5 scope.names [] x c hcell e with z | z
    · exact z
    · cases z
  refine ⟨⟨I.ok.mod,S.kind,I.ok.glob,I.ok.blt,Nat.le_refl _,fun x y c h1 h2=>I.ok.inj x y c (sub x c h1) (sub y c h2),fun x hx=>?_,fun x c h _=>(Bool.false_ne_true (show false=true from h)).elim,fun _=>I.ok.hd hc,I.ok.frames,.inl rfl,fun b hb=>⟨Nat.ne_of_lt (hlt b hb),fun x c e=>(hf b hb).2.2.2.2.1 x c (sub x c e)⟩,I.bs,Nat.le_trans I.ok.bsz I.sz,fun b o e hb=>?_,fun b hb z=>?_,I.stack,I.stkFree⟩,
    rfl,I.bare,Un.kept hk,⟨m,hn,fun i x v e1 e2 e3=>?_⟩,fun x c e=>?_,I.hok.fresh (Nat.le_refl _),fun x c e=>I.freeC x c (sub x c e),fun p hp=>absurd (show p∈([]:List (Addr×Obj)) from hp) (by simp),I.hok.kept hk,hl⟩
  · obtain ⟨y,hy,e1,e2⟩:∃ y∈scope.names,y.1=x/\y.2=.free:=by
      rcases hx with hx | hx
      · exact QW (show (relabel scope X.env).names.lookup x=some .cell from hx) (.inl rfl) S.nocell
      · exact QW (show (relabel scope X.env).names.lookup x=some .free from hx) (.inr rfl) S.nocell
    exact WA scope.names [] x (.inl ⟨y,hy,e1,e2⟩)
  · obtain ⟨_,_,_,h,_⟩:=hf b hb
    rcases h with h | h
    · exact I.ok.noex b o e h
    · exact absurd (Nat.lt_of_lt_of_le (Nat.lt_of_lt_of_le (Heap.lt_size e) I.ok.bsz) h) (Nat.lt_irrefl _)
  · have z:b∈frs X.stack:=z
    obtain ⟨_,h1,h2,_⟩:=hf b hb
    rcases List.mem_cons.mp (I.stkSub b z) with q | q
    · exact h1 q
    · exact h2 q
  · obtain ⟨nl,j,g1,g2,g3,g4⟩:=hσ i x v e1 e2 e3
    obtain ⟨m0,_,hl0⟩:=I.loc
    obtain ⟨u,r,l⟩:=hl0 j x v g1 g2 g3
    refine ⟨u,r,?_⟩
    rcases l with ⟨l,_⟩ | ⟨_,c,ec,hcl⟩
    · exact absurd l g4
    · have kx:(relabel scope X.env).names.lookup x=some .cell\/(relabel scope X.env).names.lookup x=some .free:=by
        rcases e3 with z | z | z
        · exact absurd z nl
        · exact .inl z
        · exact .inr z
      obtain ⟨y,hy,y1,y2⟩:∃ y∈scope.names,y.1=x/\y.2=.free:=by
        rcases kx with z | z
        · exact QW z (.inl rfl) S.nocell
        · exact QW z (.inr rfl) S.nocell
      obtain ⟨c',ec'⟩:=WA (cells:=X.env.cells) scope.names [] x (.inl ⟨y,hy,y1,y2⟩)
      have:c'=c:=by have:=sub x c' ec'; rw [ec] at this; exact (Option.some.inj this).symm
      subst this
      refine .inr ⟨kx,c',ec',?_⟩
      obtain ⟨o,ho,hd⟩:=hcl
      exact ⟨o,hk _ o ho,hd⟩
  · obtain ⟨v,o,ho,hd⟩:=I.cell x c (sub x c e)
    exact ⟨v,o,hk _ o ho,hd⟩
theorem Zia {scope:Scope} {N:List Str} {fp:List Addr} {σ':L2.St} {H':Hp} {s':Shared} (I:Inv X pins σ H s) (hf:∀ b∈fp,ZcW X pins H b) (J:Inv (Y8 X N scope s.heap.objs.size s H fp) [] σ' H' s') :
    ∀ h'',Heap.SameBut s.heap.objs.size s'.heap h''->Inv X pins σ H' { s' with heap:=h'' }:=by
  intro h'' hs
  have nC:∀ {b:Addr} {o:Obj},s.heap.get? b=some o->b≠s.heap.objs.size:=fun e=>Nat.ne_of_lt (Heap.lt_size e)
  have kp:∀ b,b≠s.heap.objs.size->∀ o,s'.heap.get? b=some o->h''.get? b=some o:=fun b hb o e=>(hs.2 b hb).trans e
  have hU:=J.base
  refine I.call' (ch:=fp) (s':={ s' with heap:=h'' }) J.os ⟨fun b o e n h1 h2=>kp b (nC e) o (hU.keep b o e n h1 h2),fun b o e n h1 h2=>?_,hU.free,fun b o e h2=>?_,hU.tups,hU.frzs,hU.tbls⟩ (fun b u e=>?_) J.bare (fun b hb=>?_)
  · obtain ⟨sl,q⟩:=hU.slot b o e n h1 h2
    exact ⟨sl,kp b (nC e) _ q⟩
  · obtain ⟨o',q⟩:=hU.there b o e h2
    exact ⟨o',kp b (nC e) _ q⟩
  · have fr:H' s.heap.objs.size=none:=J.free
    refine (J.hok b u e).stay (fun c v hc q=>kp c ?_ v q) (fun _ q=>q) fun _ _ q=>q
    rcases hc with z | z
    · rw [z]; exact ZL e fr
    · exact ZL z fr
  · obtain ⟨_,h1,_,h3,h4,h5⟩:=hf b hb
    exact ⟨h3,h1,h4,h5⟩
end
theorem wpx {α:Type} {M:Model} {A:Around} {m:Sem α} {Q:α->Shared->Prop} {E:Value->Shared->Prop} {s:Shared} (h:wpAny M A m Q (fun _ _=>False) s):wpAny M A m Q E s:=wpAny_mono h (fun _ _ q=>q) fun _ _ z=>z.elim
noncomputable def PTs (X:Cx) (ifs:List Expr) (t:TT):Prop:=
  ∀ (pins:List (Addr×Obj)) (s:Shared) (σ:L2.St) (H:Hp) (Q:Bool->Hp->Prop),L2.Inv X pins σ H s->t σ H Q ->
    wpAny (model X.prog X.w) X.A (forIn ifs true fun c r=>if r=true then do let ok <- isTrue c X.env (eval c X.env); pure (ForInStep.yield ok) else pure (ForInStep.yield r)) (TP X pins σ Q) X.xe s
theorem Zjf {X:Cx}:PTs X [] (fun _ H Q=>Q true H):=fun pins s σ H Q I h=>wpAny_tests_nil ⟨H,I,h⟩
theorem Zje {X:Cx} {c:Expr} {t:TT} (h:PT X c t):PTs X [c] t:=fun pins s σ H Q I q=>wpAny_tests_one (h pins s σ H Q I q)
section
variable {X:Cx} {pins:List (Addr×Obj)} {σ:L2.St} {H:Hp} {s:Shared}
theorem ZgP {Y:Cx} {tg elt iter:Expr} {ifs:List Expr} {scope:Scope} {pos:Pos} {fp:List Addr} {it Dl:Addr} {tn:Nat->Heap->Prop} {J:It} {g:TG} {te:TE} {tt:TT} {R:Result->Shared->Prop}
    (T:ZiN Y.prog Y.w Y.K tg J fp it tn) (hc:Y.calm=true) (hxe:Y.xe=fun _ _=>False) (hex:Y.ex=fp) (hpn:Y.pn=[]) (hg:PG Y tg g) (hi:PTs Y ifs tt) (he:PE Y elt te)
    (W:Nat->Nat->L2.St->Hp->Prop) (Done:L2.St->Hp->Prop)
    (turn:∀ i m σ H,W i m σ H->(J.stop i H/\Done σ H)\/(J.go i H/\∀ x H',J.yld i H x H'->g x σ H' fun σ2 H2=>tt σ2 H2 fun b H3=>if b=true then te σ2 H3 fun v H4=>∃ ys,H4 Dl=some (.lst ys)/\ys.length < sizeLine/\∃ m',m' < m/\W (i+1) m' σ2 (upd H4 Dl (.lst (ys++[v]))) else ∃ m',m' < m/\W (i+1) m' σ2 H3))
    (fin:∀ σ' H' s',L2.Inv Y [] σ' H' s'->Done σ' H'->R (.ok .next) s')
    (I:L2.Inv Y [] σ H s) (st:tn 0 s.heap) (hf:∀ b∈fp,H b=none) (m:Nat) (w:W 0 m σ H) :
    codeAny (model Y.prog Y.w) Y.A (.compLoop (.ListComp elt [⟨tg,iter,ifs,0⟩] scope pos) 0 (.ref it) (.ref Dl) Y.env) R s:=by
  have fpY:∀ {H':Hp} (ok:Y.Ok),(∀ b∈fp,H' b=none)->∀ b∈fp,ZcW Y [] H' b:=fun {H'} ok h b hb=>by
    have hb':b∈Y.ex:=by rw [hex]; exact hb
    exact ⟨h b hb,(ok.exf b hb').1,ok.exfs b hb',.inl hb',(ok.exf b hb').2,fun p hp=>by rw [hpn] at hp; exact absurd (show p∈([]:List (Addr×Obj)) from hp) (by simp)⟩
  refine codeAny_loop rfl (fun n s'=>∃ i σ' H',L2.Inv Y [] σ' H' s'/\tn i s'.heap/\(∀ b∈fp,H' b=none)/\W i n σ' H') (fun n s1 hI=>?_) m ⟨0,σ,H,I,st,hf,w⟩
  obtain ⟨i,σ1,H1,I1,st1,fr1,w1⟩:=hI
  show wpAny _ Y.A ((compTurn (.ListComp elt [⟨tg,iter,ifs,0⟩] scope pos) 0 (.ref it) (.ref Dl) Y.env).onRaise (fun x=>do noteFrame x Y.env; theTreesLotGoes x)) _ _ s1
  refine wpAny_noted ?_
  rw [compTurn_list]
  refine wpAny_bind (wpAny_standAt (wpAny_bind ?_))
  rcases turn i n σ1 H1 w1 with ⟨stop,dn⟩ | ⟨go,step⟩
  · refine wpx (thn (T.done Y rfl rfl rfl hc i [] s1 σ1 H1 _ I1 (fpY I1.ok fr1) st1 stop) fun r s2 zq=>?_)
    obtain ⟨hr,I2⟩:=zq
    subst hr
    exact wpAny_pure (fin σ1 H1 s2 I2 dn)
  · refine wpx (thn (T.item Y rfl rfl rfl hc i [] s1 σ1 H1 _ I1 (fpY I1.ok fr1) st1 go) fun r s2 zq=>?_)
    obtain ⟨u,hr,h2⟩:=zq
    subst hr
    refine wpAny_bind (wpx (thn h2 fun _ s3 zq=>?_))
    obtain ⟨x,H3,I3,r3,y3,st3,fr3⟩:=zq
    have I3':=I3.pinned (fpY I3.ok fr3) (T.obj _ _ st3)
    have hg':=hg _ s3 σ1 H3 x u _ I3' r3 (step x H3 y3)
    rw [hxe] at hg'
    refine wpAny_bind (wpx (thn hg' fun _ s4 zq=>?_))
    obtain ⟨σ4,H4,I4,q4⟩:=zq
    have hi':=hi _ s4 σ4 H4 _ I4 q4
    rw [hxe] at hi'
    refine wpAny_bind (wpx (thn hi' fun b s5 zq=>?_))
    obtain ⟨H5,I5,q5⟩:=zq
    have back:∀ {σ7:L2.St} {H7:Hp} {s7:Shared},L2.Inv Y ([]++Zb5 fp s3.heap) σ7 H7 s7->(∃ m',m' < n/\W (i+1) m' σ7 H7)->∃ m,m < n/\∃ i σ' H',L2.Inv Y [] σ' H' s7/\tn i s7.heap/\(∀ b∈fp,H' b=none)/\W i m σ' H':=fun {σ7 H7 s7} I7 zq=>by
      obtain ⟨m',hm,w7⟩:=zq
      have pin:=fun (b:Addr) (hb:b∈fp) (o:Obj) (e:s3.heap.get? b=some o)=>I7.pin (b,o) (List.mem_append_right _ (List.mem_append_right _ (Ur hb e)))
      refine ⟨m',hm,i+1,σ7,H7,I7.unpinned,T.keep _ _ _ st3 fun b hb o e=>(pin b hb o e).1,fun b hb=>?_,w7⟩
      obtain ⟨o,e,_⟩:=T.obj _ _ st3 b hb
      exact (pin b hb o e).2.1
    cases b with
    | false=>
      rw [if_neg (by decide)] at q5
      exact wpAny_pure ⟨rfl,back I5 q5⟩
    | true=>
      rw [if_pos rfl] at q5
      have he':=he _ s5 σ4 H5 _ I5 q5
      rw [hxe] at he'
      refine wpAny_bind (wpAny_bind (wpx (thn he' fun vu s6 zq=>?_)))
      obtain ⟨v,H6,I6,r6,ys,hD,hz,q6⟩:=zq
      have ha:=Zcd _ s6 σ4 H6 (.ref Dl) [v] (.ref Dl) [vu] (fun _ H7=>∃ m',m' < n/\W (i+1) m' σ4 H7) I6 rfl (.cons r6 .nil) ⟨Dl,ys,v,rfl,rfl,hD,hz,q6⟩
      rw [hxe] at ha
      exact wpAny_bind (wpx (thn ha fun _ s7 ⟨_,H7,I7,_,q7⟩=>wpAny_pure (wpAny_pure ⟨rfl,back I7 q7⟩)))
noncomputable def Zi0 (K:PySem.W.Frag) (wi:TI) (Pt:It->Hp->Addr->(L2.St->Hp->Prop)->Prop):TE:=fun σ H Q=>wi σ H fun J H1=>∀ Dl,H1 Dl=none->K.lookup Dl=none->Pt J (upd H1 Dl (.lst [])) Dl fun _ H'=>Q (.ref Dl) H'
noncomputable def ZdJ (X:Cx) (N:List Str) (scope:Scope) (σ:L2.St) (g:TG) (tt:TT) (te:TE):It->Hp->Addr->(L2.St->Hp->Prop)->Prop:=fun J H Dl Done=>
  ∃ (σ':L2.St) (W:Nat->Nat->L2.St->Hp->Prop),σ'.length=N.length /\
    (∀ (i:Nat) x v,N[i]?=some x->σ'[i]?=some (some v)->Vis (relabel scope X.env) x->((relabel scope X.env).names.lookup x≠some .local)/\∃ j:Nat,X.N[j]?=some x/\σ[j]?=some (some v)/\Vis X.env.scope x/\X.env.kindOf x≠some .local) /\
    (∃ m,W 0 m σ' H) /\
    ∀ i m σ H,W i m σ H->(J.stop i H/\Done σ H)\/(J.go i H/\∀ x H',J.yld i H x H'->g x σ H' fun σ2 H2=>tt σ2 H2 fun b H3=>if b=true then te σ2 H3 fun v H4=>∃ ys,H4 Dl=some (.lst ys)/\ys.length < sizeLine/\∃ m',m' < m/\W (i+1) m' σ2 (upd H4 Dl (.lst (ys++[v]))) else ∃ m',m' < m/\W (i+1) m' σ2 H3)
theorem Zeb {tg elt iter:Expr} {ifs:List Expr} {scope:Scope} {pos:Pos} {N:List Str} {g:TG} {te:TE} {tt:TT} {wi:TI} {Q:VK} {RR:Value->Addr->Result->Shared->Prop} {E:Value->Shared->Prop}
    (S:CompScope X scope) (hc:X.calm=true) {it:Addr} {fp:List Addr} {tn:Nat->Heap->Prop} {J:It} {H2:Hp} {s2:Shared} (I2:L2.Inv X pins σ H2 s2) (T:ZiN X.prog X.w X.K tg J fp it tn) (st2:tn 0 s2.heap) (f2:∀ b∈fp,ZcW X pins H2 b)
    (hg:∀ C s3 H3 fp,PG (Y8 X N scope C s3 H3 fp) tg g) (hi:∀ C s3 H3 fp,PTs (Y8 X N scope C s3 H3 fp) ifs tt) (he:∀ C s3 H3 fp,PE (Y8 X N scope C s3 H3 fp) elt te)
    (hb:∀ Dl,H2 Dl=none->X.K.lookup Dl=none->ZdJ X N scope σ g tt te J (upd H2 Dl (.lst [])) Dl fun _ H'=>Q (.ref Dl) H')
    (hRR:∀ Dl C H' (s':Shared) m,(∀ h'',Heap.SameBut C s'.heap h''->L2.Inv X pins σ H' { s' with heap:=h'' })->ZcW X pins H' C->s'.heap.Ns C m->Q (.ref Dl) H'->RR (.ref Dl) C (.ok .next) s') :
    wpAny (model X.prog X.w) X.A (newList []) (fun acc s₃=>wpAny (model X.prog X.w) X.A (newFunctionEnv scope X.env.globals (Zdr X.env.cells scope.names []) [] X.env.qual none .none (some X.env)) (fun cenv s₄=>
      codeAny (model X.prog X.w) X.A (.compStart (.ListComp elt [⟨tg,iter,ifs,0⟩] scope pos) 0 (.ref it) acc { cenv with scope:=relabel scope X.env }) (RR acc cenv.locals) s₄) E s₃) E s2:=by
  refine wpAny_newObj_type ?_
  have hD:H2 s2.heap.objs.size=none:=I2.hok.fresh (Nat.le_refl _)
  have I3:L2.Inv X pins σ (upd H2 s2.heap.objs.size (.lst [])) { s2 with heap:=s2.heap.push { cls:=.type "list",dict:=none,data:=.seq ([]:List Value).toArray } }:=
    I2.laid (t':=s2.toks) (fun b u e=>Heap.get?_push_of_some _ e) (Nat.le_refl _) ⟨Nat.zero_le _,[],0,.nil,Heap.get?_push_size _ rfl⟩
  have lt:∀ b∈fp,b < s2.heap.objs.size:=fun b hb'=>by obtain ⟨o,e,_⟩:=T.obj _ _ st2 b hb'; exact Heap.lt_size e
  have f3:∀ b∈fp,ZcW X pins (upd H2 s2.heap.objs.size (.lst [])) b:=fun b hb'=>by
    obtain ⟨h0,h1,h2,h3,h4,h5⟩:=f2 b hb'
    exact ⟨by rw [ZO (Nat.ne_of_lt (lt b hb'))]; exact h0,h1,h2,h3,h4,h5⟩
  have hKD:X.K.lookup s2.heap.objs.size=none:=by
    cases e:X.K.lookup s2.heap.objs.size with
    | none=>rfl
    | some o=>exact absurd (Heap.lt_size (I2.kIn _ o e)) (Nat.lt_irrefl _)
  obtain ⟨σ',W,hl,hσ,⟨m0,w0⟩,turn⟩:=hb _ hD hKD
  generalize hs3:({ s2 with heap:=s2.heap.push { cls:=.type "list",dict:=none,data:=.seq ([]:List Value).toArray } }:Shared)=s3 at I3
  have h3:s3.heap=s2.heap.push { cls:=.type "list",dict:=none,data:=.seq ([]:List Value).toArray }:=by rw [<-hs3]
  have lt3:∀ b∈fp,b < s3.heap.objs.size:=fun b hb'=>by rw [h3,Heap.size_push]; exact Nat.lt_succ_of_lt (lt b hb')
  refine wpAny_newFunctionEnv S.nocell (by intro y hy; simp at hy) (fun h4 hn4 hs4=>?_) S.kind
  have kp:∀ b o,s3.heap.get? b=some o->h4.get? b=some o:=fun b o e=>hs4.extBut b o (Nat.ne_of_lt (Heap.lt_size e)) (Heap.get?_push_of_some _ e)
  have I4:L2.Inv (Y8 X N scope s3.heap.objs.size s3 (upd H2 s2.heap.objs.size (.lst [])) fp) [] σ' (upd H2 s2.heap.objs.size (.lst [])) { s3 with heap:=h4,toks:=s3.toks+([]:List (Str×Value)).length }:=
    ZeS S I3 hc f3 lt3 kp hn4 hl hσ
  have st4:tn 0 h4:=T.keep _ _ _ st2 fun b hb' o e=>kp b o (by rw [h3]; exact Heap.get?_push_of_some _ e)
  have loop:codeAny (model X.prog X.w) X.A (.compLoop (.ListComp elt [⟨tg,iter,ifs,0⟩] scope pos) 0 (.ref it) (.ref s2.heap.objs.size) (compEnvC scope (Zdr X.env.cells scope.names []) s3.heap.objs.size X.env)) (RR (.ref s2.heap.objs.size) s3.heap.objs.size)
      { s3 with heap:=h4,toks:=s3.toks+([]:List (Str×Value)).length }:=by
    refine ZgP (Y:=Y8 X N scope s3.heap.objs.size s3 (upd H2 s2.heap.objs.size (.lst [])) fp) T rfl rfl rfl rfl (hg _ _ _ _) (hi _ _ _ _) (he _ _ _ _) W _ turn (fun σ5 H5 s5 I5 dn=>?_) I4 st4 (fun b hb'=>(f3 b hb').1) m0 w0
    obtain ⟨mC,hnC,_⟩:=I5.loc
    have big:s3.heap.objs.size<=s3.heap.objs.size:=Nat.le_refl _
    refine hRR _ s3.heap.objs.size H5 s5 mC (Zia I3 f3 I5) ?_ hnC dn
    have q:=I3.fpOk (H':=H5) big I5.free
    exact q
  exact codeAny_compStart_list loop (T.self _ 0 _ _ _ st4 loop)
theorem Zjr {tg elt iter:Expr} {ifs:List Expr} {scope:Scope} {pos:Pos} {N:List Str} {g:TG} {te:TE} {tt:TT} {wi:TI} (S:CompScope X scope) (hc:X.calm=true) (hit:PI X tg iter wi)
    (hg:∀ C s3 H3 fp,PG (Y8 X N scope C s3 H3 fp) tg g) (hi:∀ C s3 H3 fp,PTs (Y8 X N scope C s3 H3 fp) ifs tt) (he:∀ C s3 H3 fp,PE (Y8 X N scope C s3 H3 fp) elt te)
    (hs:∀ x,foldedSetIterable iter X.env x=pure x:=by intro _; rfl) :
    PE X (.ListComp elt [⟨tg,iter,ifs,0⟩] scope pos) (fun σ H Q=>Zi0 X.K wi (ZdJ X N scope σ g tt te) σ H Q):=by
  intro pins s σ H Q I h
  rw [eval_ListComp]
  refine wpAny_comprehension_free (use:=none) rfl hs (Vs (S.cells I.ok)) S.kind S.loc (wpAny_mono (hit pins s σ H _ I h) (fun xv s₁ h₁=>wpAny_mono h₁ (fun itv s₂ h₂=>?_) fun _ _ z=>z) fun _ _ z=>z)
  obtain ⟨it,fp,tn,J,H2,rfl,I2,T,st2,f2,hb⟩:=h₂
  refine Zeb (RR:=fun acc C=>compPost (model X.prog X.w) X.A X.xe none (EP X pins σ Q) acc C) (wi:=wi) S hc I2 T st2 f2 hg hi he hb ?_
  intro Dl C H' s' m hI hC hn q
  exact ⟨m,hn,fun h'' hs''=>⟨.ref Dl,H',hI h'' hs'',rfl,q⟩⟩
end
noncomputable def Zkd (K:PySem.W.Frag) (F:Fz) (H:Hp) (J:It) (xs:List D):Prop:=∀ F' H',Ext K F H F' H' ->
  (∀ i d,xs[i]?=some d->J.go i H'/\∀ x H'',J.yld i H' x H''->∃ F'',Grow F' H' F'' H''/\Rep K F'' H'' d x)/\∀ i,xs.length<=i->J.stop i H'
noncomputable abbrev DI:=Rho->Option (List D)
inductive Zn4 (K:PySem.W.Frag) (it:DI) (σ:L2.St) (H:Hp) (R:It->Hp->Prop):Prop
  | mk (ρ:Rho) (F0:Fz) (H0:Hp) (F:Fz) (xs:List D) (ok:EnvOk K F0 H0 F σ H ρ) (e:it ρ=some xs) (q:∀ J F1 H1,Grow F H F1 H1->Zkd K F1 H1 J xs->R J H1)
noncomputable def rdI (K:PySem.W.Frag) (it:DI):TI:=fun σ H R=>Zn4 K it σ H R
noncomputable def ID (X:Cx) (tg e:Expr) (it:DI):Prop:=PI X tg e (rdI X.K it)
theorem PI.imp {X:Cx} {tg e:Expr} {t t':TI} (h:PI X tg e t) (i:∀ σ H R,t' σ H R->t σ H R):PI X tg e t':=fun pins s σ H R I q=>h pins s σ H R I (i σ H R q)
section
variable {X:Cx} {pos:Pos} {tg l:Expr} {f:DE}
theorem Zgn {K:PySem.W.Frag} {F:Fz} {H:Hp} {a:Addr} {xs:List D} {vs:List V} (hf:F a) (hq:SqL K H a vs) (hr:RepL K F H xs vs):Zkd K F H (Itl K a) xs:=fun F' H' e=>by
  have hq':=e.ls a vs hf hq
  refine ⟨fun i d hd=>?_,fun i hi=>⟨vs,hq',by rw [<-hr.length]; exact hi⟩⟩
  obtain ⟨v,hv,rv⟩:=hr.get hd
  refine ⟨⟨vs,v,hq',hv⟩,fun x H'' y=>?_⟩
  obtain ⟨rfl,y⟩:=y
  have:=y vs hq'
  rw [hv] at this; cases this
  exact ⟨F',.refl,Rep.ext e rv⟩
theorem ZhR {K:PySem.W.Frag} {F:Fz} {H:Hp} {a:Addr} {xs:List D} {vs:List V} (hq:SqT K H a vs) (hr:RepL K F H xs vs):Zkd K F H (Itt K a) xs:=fun F' H' e=>by
  have hq':=e.ts a vs hq
  refine ⟨fun i d hd=>?_,fun i hi=>⟨vs,hq',by rw [<-hr.length]; exact hi⟩⟩
  obtain ⟨v,hv,rv⟩:=hr.get hd
  refine ⟨⟨vs,v,hq',hv⟩,fun x H'' y=>?_⟩
  obtain ⟨rfl,y⟩:=y
  have:=y vs hq'
  rw [hv] at this; cases this
  exact ⟨F',.refl,Rep.ext e rv⟩
theorem Zd3 {K:PySem.W.Frag} {F:Fz} {H:Hp} {lo:Int} {n:Nat}:Zkd K F H (Itr lo n) (Qs lo n):=fun F' H' e=>by
  refine ⟨fun i d hd=>?_,fun i hi=>(show n<=i from by simpa [Qs] using hi)⟩
  have hl:i < n:=by have:=(List.getElem?_eq_some_iff.mp hd).1; simpa [Qs] using this
  refine ⟨hl,fun x H'' y=>?_⟩
  obtain ⟨rfl,rfl⟩:=y
  refine ⟨F',.refl,?_⟩
  have:d=.int (lo+(i:Int)):=by
    unfold Qs at hd
    rw [List.getElem?_map,List.getElem?_range hl] at hd
    simpa using hd.symm
  subst this
  exact Yt _
noncomputable def YA (n:Nat):List D->List D
  | []=>[]
  | d::ds=>.tup [.int n,d]::YA (n+1) ds
theorem W8:∀ (ds:List D) (n i:Nat),(YA n ds)[i]?=(ds[i]?).map fun d=>.tup [.int ((n+i:Nat):Int),d]
  | [],n,i=>by simp [YA]
  | d::ds,n,0=>by simp [YA]
  | d::ds,n,i+1=>by
    simp only [YA,List.getElem?_cons_succ]
    rw [W8 ds (n+1) i,show n+1+i=n+(i+1) by omega]
theorem Vo:∀ (ds:List D) (n:Nat),(YA n ds).length=ds.length
  | [],n=>rfl
  | d::ds,n=>by simp [YA,Vo ds]
theorem ZeF {K:PySem.W.Frag} {F:Fz} {H:Hp} {a:Addr} {xs:List D} {vs:List V} (hf:F a) (hq:SqL K H a vs) (hr:RepL K F H xs vs):Zkd K F H (Ite K a false) (YA 0 xs):=fun F' H' e=>by
  have hq':=e.ls a vs hf hq
  refine ⟨fun i d hd=>?_,fun i hi=>⟨vs,hq',by rw [<-hr.length]; rw [Vo] at hi; exact hi⟩⟩
  rw [W8,Nat.zero_add] at hd
  obtain ⟨d',hd',rfl⟩:=map_some hd
  obtain ⟨v,hv,rv⟩:=hr.get hd'
  refine ⟨⟨vs,v,hq',hv⟩,fun x H'' y=>?_⟩
  obtain ⟨p,z,y,hp,rfl,rfl⟩:=y
  have:=y vs hq'
  rw [hv] at this; cases this
  refine ⟨F',.laid0 hp,?_⟩
  unfold Rep
  exact ⟨p,_,rfl,.of ZR,.cons (Yt _) (.cons ((Rep.ext e rv).grow (.laid0 hp)) .nil)⟩
theorem ZeE {K:PySem.W.Frag} {F:Fz} {H:Hp} {a:Addr} {xs:List D} {vs:List V} (hq:SqT K H a vs) (hr:RepL K F H xs vs):Zkd K F H (Ite K a true) (YA 0 xs):=fun F' H' e=>by
  have hq':=e.ts a vs hq
  refine ⟨fun i d hd=>?_,fun i hi=>⟨vs,hq',by rw [<-hr.length]; rw [Vo] at hi; exact hi⟩⟩
  rw [W8,Nat.zero_add] at hd
  obtain ⟨d',hd',rfl⟩:=map_some hd
  obtain ⟨v,hv,rv⟩:=hr.get hd'
  refine ⟨⟨vs,v,hq',hv⟩,fun x H'' y=>?_⟩
  obtain ⟨p,z,y,hp,rfl,rfl⟩:=y
  have:=y vs hq'
  rw [hv] at this; cases this
  refine ⟨F',.laid0 hp,?_⟩
  unfold Rep
  exact ⟨p,_,rfl,.of ZR,.cons (Yt _) (.cons ((Rep.ext e rv).grow (.laid0 hp)) .nil)⟩
theorem ZaO (hl:ED X l f):ID X tg l (QU f):=PI.imp (ZkJ hl) fun σ H R zq=>by
  obtain ⟨ρ,F0,H0,F,xs,ok,ex,q⟩:=zq
  obtain ⟨d,ed,ex⟩:=bind_some ex
  refine ⟨ρ,F0,H0,F,d,ok,ed,fun v F1 H1 g1 r1=>?_⟩
  split at ex
  · cases ex
    unfold Rep at r1
    obtain ⟨a,vs,rfl,hf,hq,hr⟩:=r1
    exact ⟨a,rfl,.inl ⟨⟨vs,hq⟩,q _ F1 H1 g1 (Zgn hf hq hr)⟩⟩
  · cases ex
    unfold Rep at r1
    obtain ⟨a,vs,rfl,hq,hr⟩:=r1
    exact ⟨a,rfl,.inr ⟨⟨vs,hq⟩,q _ F1 H1 g1 (ZhR hq hr)⟩⟩
  · cases ex
theorem VO {a:Expr} {p pos2:Pos} (hgl:Gl X "range") (hm:X.mg "range"=none) (ha:ED X a f) (hst:starEach [a] X.env=[(false,eval a X.env)]:=by rfl):ID X tg (.Call (.Name "range" p) [a] [] pos2) (Zbw f):=
  PI.imp (ZfX hgl hm (Zb ha Zg hst) hst) fun σ H R zq=>by
    obtain ⟨ρ,F0,H0,F,xs,ok,ex,q⟩:=zq
    obtain ⟨d,ed,ex⟩:=bind_some ex
    split at ex
    · rename_i j
      obtain ⟨hj,rfl⟩:=Yp ex
      refine ⟨ρ,F0,H0,F,[.int j],ok,by simp [Zc,Zm,ed],fun vs F1 H1 g1 r1=>?_⟩
      obtain ⟨v,rfl,rv⟩:=VH r1
      unfold Rep at rv
      subst rv
      have:=Zbd hj
      exact ⟨j,rfl,this.1,this.2,q _ F1 H1 g1 Zd3⟩
    · cases ex
theorem ZjP {a a' : Expr} {f' : DE} {p pos2 : Pos} (hgl : Gl X "range") (hm : X.mg "range" = none) (ha : ED X a f) (ha' : ED X a' f') (hst : starEach [a, a'] X.env = [(false, eval a X.env), (false, eval a' X.env)] := by rfl) (hst2 : starEach [a'] X.env = [(false, eval a' X.env)] := by rfl) :
    ID X tg (.Call (.Name "range" p) [a, a'] [] pos2) (Zgp f f') :=
  PI.imp (ZfW hgl hm (Zb ha (Zb ha' Zg hst2) (by rw [hst, hst2])) hst hst2) fun σ H R zq => by
    obtain ⟨ρ, F0, H0, F, xs, ok, ex, q⟩ := zq
    obtain ⟨d, ed, ex⟩ := bind_some ex
    obtain ⟨d', ed', ex⟩ := bind_some ex
    cases d with
    | int i =>
     cases d' with
     | int j =>
      have ex : (if (Wm i && Wm j) = true then some (Qs i (j - i).toNat) else none) = some xs := ex
      obtain ⟨hj, rfl⟩ := Yp ex
      obtain ⟨hi, hj⟩ := Bool.and_eq_true_iff.mp hj
      refine ⟨ρ, F0, H0, F, [.int i, .int j], ok, by simp [Zc, Zm, ed, ed'], fun vs F1 H1 g1 r1 => ?_⟩
      obtain ⟨v, v', rfl, rv, rv'⟩ := Zhu r1
      unfold Rep at rv rv'
      subst rv rv'
      have h1 := Zbd hi; have h2 := Zbd hj
      exact ⟨i, j, rfl, ⟨h1.1, h1.2, h2.1, h2.2⟩, q _ F1 H1 g1 Zd3⟩
     | _ => cases ex
    | _ => cases ex
noncomputable def Zmv (K:PySem.W.Frag) (ta:TA):TI:=fun σ H R=>ta σ H fun vs H1=>∃ a,vs=[.ref a]/\(((∃ xs,SqL K H1 a xs)/\R (Ite K a false) H1)\/((∃ xs,SqT K H1 a xs)/\R (Ite K a true) H1))
theorem Zjn {elts:List Expr} {k:Nat} {tpos p:Pos} {ta:TA} (hg:Gl X "enumerate") (hm:X.mg "enumerate"=none) (ha:PA X [l] ta) (hs:starEach [l] X.env=[(false,eval l X.env)]:=by rfl) :
    PI X (.Tuple elts k tpos) (.Call (.Name "enumerate" p) [l] [] pos) (Zmv X.K ta):=by
  intro pins s σ H R I h
  refine Call_ (J0 I hg hm boot_enumerate (PyProof.Rows.callWith_type1 (thn (ha pos pins s σ H _ I h) fun us s1 zq=>?_) hs rfl))
  obtain ⟨vs,H1,I1,r1,q1⟩:=zq
  obtain ⟨a,e,q1⟩:=q1
  subst e
  cases r1 with
  | cons r rr=>
    cases rr
    cases r
    have fpk:∀ b∈[s1.heap.objs.size+1,s1.heap.objs.size],ZcW X pins H1 b:=fun b hb=>by
      have:s1.heap.objs.size<=b:=by
        rcases List.mem_cons.mp hb with z | z
        · omega
        · rw [List.mem_singleton] at z; omega
      exact I1.fpOk this (I1.hok.fresh this)
    rcases q1 with ⟨⟨xs,hq⟩,q⟩ | ⟨⟨xs,hq⟩,q⟩
    · obtain ⟨its,rv,p,hz⟩:=I1.list hq
      refine call_enumerate_list p.isList fun h' he hit hsz kp=>wpAny_pyIter_enum (s:={ s1 with heap:=h' }) he ?_
      exact ⟨_,[s1.heap.objs.size+1,s1.heap.objs.size],_,_,H1,rfl,I1.kept (t':=s1.toks) kp,Zek a _ _ (Nat.succ_ne_self _),⟨⟨_,he⟩,hit⟩,fpk,q⟩
    · obtain ⟨its,rv,p,hz⟩:=I1.tuple hq
      refine ZeN (show s1.heap.IsTuple a its.toArray from p) fun h' he hit hsz kp=>wpAny_pyIter_enum (s:={ s1 with heap:=h' }) he ?_
      exact ⟨_,[s1.heap.objs.size+1,s1.heap.objs.size],_,_,H1,rfl,I1.kept (t':=s1.toks) kp,Zej a _ _ (Nat.succ_ne_self _),⟨⟨_,he⟩,hit⟩,fpk,q⟩
noncomputable def Qt (f:DE):DI:=fun ρ=>(QU f ρ).map (YA 0)
theorem WY {elts:List Expr} {k:Nat} {tpos p:Pos} (hg:Gl X "enumerate") (hm:X.mg "enumerate"=none) (ha:ED X l f) (hs:starEach [l] X.env=[(false,eval l X.env)]:=by rfl) :
    ID X (.Tuple elts k tpos) (.Call (.Name "enumerate" p) [l] [] pos) (Qt f):=PI.imp (Zjn hg hm (Zb ha Zg hs) hs) fun σ H R zq=>by
  obtain ⟨ρ,F0,H0,F,xs,ok,ex,q⟩:=zq
  obtain ⟨ys,ey,rfl⟩:=map_some ex
  clear ex
  obtain ⟨d,ed,ex⟩:=bind_some ey
  refine ⟨ρ,F0,H0,F,[d],ok,by simp [Zc,Zm,ed],fun vs F1 H1 g1 r1=>?_⟩
  obtain ⟨v,rfl,rv⟩:=VH r1
  split at ex
  · cases ex
    unfold Rep at rv
    obtain ⟨a,vs,rfl,hf,hq,hr⟩:=rv
    exact ⟨a,rfl,.inl ⟨⟨vs,hq⟩,q _ F1 H1 g1 (ZeF hf hq hr)⟩⟩
  · cases ex
    unfold Rep at rv
    obtain ⟨a,vs,rfl,hq,hr⟩:=rv
    exact ⟨a,rfl,.inr ⟨⟨vs,hq⟩,q _ F1 H1 g1 (ZeE hq hr)⟩⟩
  · cases ex
theorem Js {body:List Stmt} {b:DG} {g:DS} {it:DI} {e:Expr} (hp:PassesOwn (model X.prog X.w) X.A X.env X.xe) (hc:X.calm=true) (hi:ID X tg e it) (hg:GD X tg b) (hb:SDs X body g)
    (hs:∀ x,foldedSetIterable e X.env x=pure x:=by intro _; rfl):SD X (.For tg e body [] pos) (Ws it b g):=
  PS.imp (ZkI hp hc hi hg hb hs) fun E σ H zq=>by
    obtain ⟨ρ,F0,H0,F,o,ok,e,k⟩:=zq
    obtain ⟨xs,ex,e⟩:=bind_some e
    refine ⟨ρ,F0,H0,F,xs,ok,ex,fun J F1 H1 g1 hJ=>?_⟩
    have k1:=k.ext g1.ext
    refine ⟨fun i m σ' H'=>m=xs.length-i/\i<=xs.length/\FW X.K F0 H0 F1 H1 b g xs o i σ' H',⟨xs.length,by simp,Nat.zero_le _,ρ,F1,ok.grow g1,.refl,e⟩,?_⟩
    rintro i m σ1 H2 ⟨rfl,hi,ρ1,F2,ok2,x2,e2⟩
    obtain ⟨hgo,hst⟩:=hJ F2 H2 x2
    by_cases hlt:i < xs.length
    · obtain ⟨go,yl⟩:=hgo i xs[i] (by simp [hlt])
      refine .inr ⟨go,FW X.K F0 H0 F1 H1 b g xs o (i+1),fun σ' H' w=>⟨xs.length-(i+1),by omega,rfl,hlt,w⟩,fun x H3 y=>?_⟩
      obtain ⟨F3,g3,rx⟩:=yl x H3 y
      rw [List.drop_eq_getElem_cons hlt] at e2
      unfold QY at e2
      obtain ⟨ρ2,eb,e2⟩:=bind_some e2
      refine ⟨ρ1,F0,H0,F3,xs[i],ρ2,ok2.grow g3,rx,eb,fun σ4 F4 H4 g4 ok4=>?_⟩
      cases eg:g ρ2 with
      | none=>rw [eg] at e2; cases e2
      | some o1=>
        rw [eg] at e2
        have x4:=(x2.trans (g3.ext (K:=X.K))).trans (g4.ext (K:=X.K))
        refine ⟨ρ2,F0,H0,F4,o1,ok4,eg,?_⟩
        cases o1 with
        | nx ρ3=>exact fun σ5 F5 H5 x5 ok5=>⟨ρ3,F5,ok5,x4.trans x5,e2⟩
        | ct ρ3=>exact fun σ5 F5 H5 x5 ok5=>⟨ρ3,F5,ok5,x4.trans x5,e2⟩
        | bk ρ3=>cases e2; exact fun σ5 F5 H5 x5 ok5=>k1 σ5 F5 H5 (x4.trans x5) ok5
        | rt d=>cases e2; exact k1
    · have ei:i=xs.length:=by omega
      subst ei
      refine .inl ⟨hst _ (Nat.le_refl _),?_⟩
      rw [List.drop_eq_nil_of_le (Nat.le_refl _)] at e2
      cases e2
      exact k1 σ1 F2 H2 x2 ok2
end
noncomputable def YN (b:DG) (t:DT) (f:DE):List D->Rho->Option (List D)
  | [],_=>some []
  | x::xs,ρ=>(b x ρ).bind fun ρ1=>(t ρ1).bind fun c=>match c with
    | true=>(f ρ1).bind fun d=>(YN b t f xs ρ1).map (d::·)
    | false=>YN b t f xs ρ1
noncomputable def JE (caps:List (Option Nat)) (ρ:Rho):Rho:=caps.map fun c=>match c.bind (ρ[·]?) with | some (.val d)=>.val d | _=>.no
noncomputable def Zds (caps:List (Option Nat)) (σ:L2.St):L2.St:=caps.map fun c=>c.bind fun j=>(σ[j]?).join
structure ZlV (X:Cx) (N:List Str) (scope:Scope) (caps:List (Option Nat)):Prop where
  len:caps.length=N.length
  ok:∀ (i j:Nat) (x:Str),caps[i]?=some (some j)->N[i]?=some x->X.N[j]?=some x/\Vis X.env.scope x/\X.env.kindOf x≠some .local/\(relabel scope X.env).names.lookup x≠some .local
noncomputable def QP (caps:List (Option Nat)) (it:DI) (b:DG) (t:DT) (f:DE):DE:=fun ρ=>(it ρ).bind fun xs=>if xs.length<=lim then (YN b t f xs (JE caps ρ)).map .lst else none
noncomputable def NoOwn (ρ:Rho):Prop:=∀ (i:Nat) ds,ρ[i]?≠some (.own ds)
theorem NoOwn.set {ρ:Rho} (h:NoOwn ρ) (i:Nat) (d:D):NoOwn (ρ.set i (.val d)):=fun j ds e=>by
  by_cases hj:i=j
  · subst hj
    by_cases hl:i < ρ.length
    · rw [List.getElem?_set_self hl] at e; cases e
    · rw [List.getElem?_eq_none (by rw [List.length_set]; omega)] at e; cases e
  · rw [List.getElem?_set_ne hj] at e; exact h j ds e
noncomputable def ZcH (b:DG):Prop:=∀ d ρ ρ',b d ρ=some ρ'->NoOwn ρ->NoOwn ρ'
theorem QB (i:Nat):ZcH (ZV i):=fun d ρ ρ' e h=>by cases e; exact h.set i d
theorem VJ (i j:Nat):ZcH (YC i j):=fun d ρ ρ' e h=>by
  unfold YC at e
  split at e
  · cases e; exact (h.set _ _).set _ _
  · cases e
theorem ZbE (caps:List (Option Nat)) (ρ:Rho):NoOwn (JE caps ρ):=fun i ds e=>by
  unfold JE at e
  rw [List.getElem?_map] at e
  obtain ⟨c,_,e⟩:=map_some e
  split at e <;> cases e
theorem EnvOk.wrtD {K:PySem.W.Frag} {F0 F:Fz} {H0 H:Hp} {σ:L2.St} {ρ:Rho} {xs ys:List V} {a:Addr} (ok:EnvOk K F0 H0 F σ H ρ) (no:NoOwn ρ) (ha:H a=some (.lst xs)) (hF:¬ F a) (h0:H0 a=none):EnvOk K F0 H0 F σ (upd H a (.lst ys)) ρ:=by
  have x:=W7 (K:=K) (ys:=ys) ha hF
  refine ⟨⟨fun b o q=>?_,ok.base.sub,fun b z=>?_⟩,fun j d' h=>?_,fun j es h=>absurd h (no j es),fun j k es fs b q1=>absurd q1 (no j es),ok.len,fun b z=>?_⟩
  · rw [ZO (ZL q h0)]; exact ok.base.same b o q
  · rcases ok.base.new b z with z1 | ⟨z1,z2⟩
    · exact .inl z1
    · refine .inr ⟨z1,?_⟩
      by_cases e:b=a
      · rw [e,ZR]; simp
      · rw [ZO e]; exact z2
  · obtain ⟨v,e1,e2⟩:=ok.val j d' h
    exact ⟨v,e1,Rep.ext x e2⟩
  · rcases ok.fz b z with z1 | z1
    · left
      by_cases e:b=a
      · rw [e,ZR]; simp
      · rw [ZO e]; exact z1
    · exact .inr z1
theorem EnvOk.capt {X:Cx} {N:List Str} {scope:Scope} {caps:List (Option Nat)} {F0 F:Fz} {H0 H:Hp} {σ:L2.St} {ρ:Rho} (ok:EnvOk X.K F0 H0 F σ H ρ):EnvOk X.K F H F (Zds caps σ) H (JE caps ρ) where
  base:=.refl
  val:=fun i d h=>by
    unfold JE at h
    rw [List.getElem?_map] at h
    obtain ⟨c,ec,h⟩:=map_some h
    split at h
    · rename_i d' e
      cases h
      obtain ⟨j,rfl,ej⟩:=bind_some e
      obtain ⟨v,e1,e2⟩:=ok.val j _ ej
      refine ⟨v,?_,e2⟩
      unfold Zds
      rw [List.getElem?_map,ec]
      simp [e1]
    · cases h
  own:=fun i ds h=>absurd h (ZbE caps ρ i ds)
  inj:=fun i j ds es a h=>absurd h (ZbE caps ρ i ds)
  len:=by simp [JE,Zds]
  fz:=ok.fz
noncomputable def TDs (X:Cx) (ifs:List Expr) (t:DT):Prop:=PTs X ifs (rdT X.K t)
noncomputable def ZY:DT:=fun _=>some true
theorem UP {X:Cx}:TDs X [] ZY:=fun pins s σ H Q I zq=>by
  obtain ⟨ρ,F0,H0,F,d,ok,e,q⟩:=zq
  cases e
  exact Zjf pins s σ H Q I (q F H .refl)
theorem Zfi {X:Cx} {c:Expr} {t:DT} (h:TD X c t):TDs X [c] t:=Zje h
section
variable {X:Cx} {pos:Pos} {tg elt iter:Expr} {ifs:List Expr}
theorem ZfN {scope:Scope} {N:List Str} {caps:List (Option Nat)} {b:DG} {t:DT} {f:DE} {it:DI} (C:ZlV X N scope caps) (hno:ZcH b) {σ:L2.St} {H:Hp} {Q:VK} (h:rd X.K (QP caps it b t f) σ H Q) :
    Zi0 X.K (rdI X.K it) (ZdJ X N scope σ (rdG X.K b) (rdT X.K t) (rd X.K f)) σ H Q:=by
    obtain ⟨ρ,F0,H0,F,d,ok,e,q⟩:=h
    obtain ⟨xs,ex,e⟩:=bind_some e
    by_cases hz:xs.length<=lim
    · rw [if_pos hz] at e
      obtain ⟨ds,ec,rfl⟩:=map_some e
      refine ⟨ρ,F0,H0,F,xs,ok,ex,fun J F1 H1 g1 hJ Dl hD hK=>?_⟩
      have ok1:=ok.grow g1
      have nF1:¬ F1 Dl:=fun z=>by
        rcases ok1.fz Dl z with z | ⟨o,z⟩
        · exact z hD
        · rw [hK] at z; cases z
      have oks:EnvOk X.K F1 H1 F1 (Zds caps σ) (upd H1 Dl (.lst [])) (JE caps ρ):=(EnvOk.capt (N:=N) (scope:=scope) ok1).grow (.laid0 hD)
      have gx:Ext X.K F1 H1 F1 (upd H1 Dl (.lst [])):=(Grow.laid0 hD).ext
      refine ⟨Zds caps σ,fun i m σ2 H2=>m=xs.length-i/\i<=xs.length/\∃ ρ2 F2 ys pre post,EnvOk X.K F1 H1 F2 σ2 H2 ρ2/\NoOwn ρ2/\Ext X.K F1 H1 F2 H2/\H2 Dl=some (.lst ys)/\¬ F2 Dl/\RepL X.K F2 H2 pre ys/\pre.length<=i/\YN b t f (xs.drop i) ρ2=some post/\ds=pre++post,
        by simp [Zds,C.len],fun i x v e1 e2 e3=>?_,⟨xs.length,by simp,Nat.zero_le _,JE caps ρ,F1,[],[],ds,oks,ZbE _ _,gx,ZR,nF1,.nil,Nat.le_refl _,ec,rfl⟩,?_⟩
      · unfold Zds at e2
        rw [List.getElem?_map] at e2
        obtain ⟨c,ecap,e2⟩:=map_some e2
        obtain ⟨j,rfl,e2⟩:=bind_some e2
        obtain ⟨h1,h2,h3,h4⟩:=C.ok i j x ecap e1
        exact ⟨h4,j,h1,by simpa [Option.join_eq_some_iff] using e2,h2,h3⟩
      · rintro i m σ2 H2 ⟨rfl,hi',ρ2,F2,ys,pre,post,ok2,no2,x2,hD2,nF2,rp2,hl2,e2,ed⟩
        obtain ⟨hgo,hst⟩:=hJ F2 H2 x2
        by_cases hlt:i < xs.length
        · obtain ⟨go,yl⟩:=hgo i xs[i] (by simp [hlt])
          refine .inr ⟨go,fun x H3 y=>?_⟩
          obtain ⟨F3,g3,rx⟩:=yl x H3 y
          rw [List.drop_eq_getElem_cons hlt] at e2
          unfold YN at e2
          obtain ⟨ρ3,eb,e2⟩:=bind_some e2
          obtain ⟨c,et,e2⟩:=bind_some e2
          have no3:=hno _ _ _ eb no2
          refine ⟨ρ2,F1,H1,F3,xs[i],ρ3,ok2.grow g3,rx,eb,fun σ4 F4 H4 g4 ok4=>⟨ρ3,F1,H1,F4,c,ok4,et,fun F5 H5 g5=>?_⟩⟩
          have g35:=g3.trans (g4.trans g5)
          have nF5:∀ {F6:Fz} {H6:Hp},Grow F2 H2 F6 H6->¬ F6 Dl:=fun {F6 H6} g6 z=>by
            rcases g6.new Dl z with z | z
            · exact nF2 z
            · rw [hD2] at z; cases z.1
          cases c with
          | false=>
            refine Zm5 ?_
            exact ⟨xs.length-(i+1),by omega,rfl,hlt,ρ3,F5,ys,pre,post,ok4.grow g5,no3,x2.trans g35.ext,g35.same _ _ hD2,nF5 g35,rp2.grow g35,by omega,e2,ed⟩
          | true=>
            refine Zm4 ?_
            obtain ⟨d,ef,e2⟩:=bind_some e2
            obtain ⟨post',e3,rfl⟩:=map_some e2
            refine ⟨ρ3,F1,H1,F5,d,ok4.grow g5,ef,fun v F6 H6 g6 r6=>?_⟩
            have g36:=g35.trans g6
            have hD6:=g36.same _ _ hD2
            have xo:=W7 (K:=X.K) (ys:=ys++[v]) hD6 (nF5 g36)
            refine ⟨ys,hD6,?_,xs.length-(i+1),by omega,rfl,hlt,ρ3,F6,ys++[v],pre++[d],post',((ok4.grow g5).grow g6).wrtD no3 hD6 (nF5 g36) hD,no3,(x2.trans g36.ext).trans xo,ZR,nF5 g36,RepL.ext xo ((rp2.grow g36).append (.cons r6 .nil)),by simp; omega,e3,by simp [ed]⟩
            rw [<-rp2.length]
            have:sizeLine=16777216:=sizeLine_eq
            unfold lim at hz
            omega
        · have ei:i=xs.length:=by omega
          subst ei
          refine .inl ⟨hst _ (Nat.le_refl _),?_⟩
          rw [List.drop_eq_nil_of_le (Nat.le_refl _)] at e2
          cases e2
          rw [List.append_nil] at ed
          subst ed
          have b:=ok2.base
          refine q (.ref Dl) (fun a=>F2 a\/a=Dl) H2 (g1.trans ⟨b.same,fun a z=>.inl (b.sub a z),fun a z=>?_⟩) ?_
          · rcases z with z | rfl
            · exact b.new a z
            · exact .inr ⟨hD,by rw [hD2]; simp⟩
          · unfold Rep
            have xx:Ext X.K F2 H2 (fun a=>F2 a\/a=Dl) H2:=⟨fun a z=>.inl z,fun a ys _ z=>z,fun a ys z=>z⟩
            exact ⟨Dl,ys,rfl,.inr rfl,.of hD2,RepL.ext xx rp2⟩
    · rw [if_neg hz] at e; cases e
theorem Ub {scope:Scope} {N:List Str} {caps:List (Option Nat)} {b:DG} {t:DT} {f:DE} {it:DI} (S:CompScope X scope) (C:ZlV X N scope caps) (hc:X.calm=true) (hit:ID X tg iter it) (hno:ZcH b)
    (hg:∀ C s3 H3 fp,GD (Y8 X N scope C s3 H3 fp) tg b) (hi:∀ C s3 H3 fp,TDs (Y8 X N scope C s3 H3 fp) ifs t) (he:∀ C s3 H3 fp,ED (Y8 X N scope C s3 H3 fp) elt f)
    (hs:∀ x,foldedSetIterable iter X.env x=pure x:=by intro _; rfl) :
    ED X (.ListComp elt [⟨tg,iter,ifs,0⟩] scope pos) (QP caps it b t f):=
  PE.imp (Zjr (N:=N) (g:=rdG X.K b) (tt:=rdT X.K t) (te:=rd X.K f) S hc hit hg hi he hs) fun σ H Q h=>ZfN C hno h
end
section
variable {prog:Program} {w:World} {A:Around} {E:Value->Shared->Prop} {s:Shared}
theorem Zff {t sl:Addr} {items:Array Value} {vl vu:Value} {lo hi:Option Int} {Q:Value->Shared->Prop} (ht:IsTup s.heap t items) (hs:s.heap.IsSliceOf sl vl vu .none) (pl:IsPart vl lo) (pu:IsPart vu hi)
    (hw:HT.sIx items.size 0 lo=0/\HT.sIx items.size items.size hi=items.size) (h:Q (.ref t) s):wpAny (model prog w) A (getItem (.ref t) (.ref sl)) Q E s:=by
  obtain ⟨os,hos,hcs,hds⟩:=id hs
  have hTs:s.TypeIs (.ref sl) "slice":=⟨os,hos,hcs⟩
  unfold getItem
  try with_reducible refine wpAny_holding ?_
  first | refine wpAny_bind (wpAny_pure ?_) | skip
  refine wpAny_bind (wpAny_sequenceKey ht.typeIs (by decide) ?_)
  refine wpAny_bind (wpAny_callSpecial?_slot (name:=Str.ofString "__getitem__") ht.typeIs PyProof.Rows.slot_tuple_getitem
    (wpAny_call_entry PyProof.Rows.slot_tuple_getitem ht.typeIs entry_tuple_getitem ?_ (args_tuple_getitem _ _)))
  show wpAny _ _ (Builtin.Tuple.tupleItemsOf (.ref t) >>= _) _ _ s
  refine wpAny_bind (tupleItemsOf_ ht ?_)
  refine wpAny_bind (wpAny_typeOf hTs ?_)
  rw [if_pos (by decide)]
  refine wpAny_bind (HT.sliceApplied_gen hs pl pu ?_)
  rw [hw.1,hw.2,Nat.sub_zero]
  have hyes:((((0:Nat):Int)==0&&(1:Int)==1&&items.size==items.size)=true):=by simp
  show wpAny _ _ (if ((((0:Nat):Int)==0&&(1:Int)==1&&items.size==items.size)=true) then _ else _) _ _ s
  rw [if_pos hyes]
  unfold Builtin.Tuple.tupleIsExact
  refine wpAny_bind (wpAny_bind (wpAny_typeOf ht.typeIs (wpAny_pure ?_)))
  rw [if_pos (by decide)]
  refine wpAny_bind (wpAny_rule (wpAny_bind (wpAny_pure (wpAny_pure ?_))))
  exact ⟨_,rfl,wpAny_pure h⟩
theorem Zby {α β:Type} {f g:α->Option β}:∀ {l:List α},(∀ m,m∈l->f m=g m)->l.filterMap f=l.filterMap g
  | [],_=>rfl
  | x::l,h=>by
    rw [List.filterMap_cons,List.filterMap_cons,h x List.mem_cons_self,Zby fun m hm=>h m (List.mem_cons_of_mem _ hm)]
theorem ZdQ {α:Type} (xs:List α):((List.range xs.length).filterMap fun (m:Nat)=>xs[(((xs.length:Nat):Int)-1+(m:Int)*(-1)).toNat]?)=xs.reverse:=by
  have e:∀ m,m∈List.range xs.length->xs[(((xs.length:Nat):Int)-1+(m:Int)*(-1)).toNat]?=xs.reverse[m]?:=fun m hm=>by
    have hm:=List.mem_range.mp hm
    rw [List.getElem?_reverse hm]
    congr 1
    omega
  rw [Zby e]
  have hl:xs.length=xs.reverse.length:=by simp
  rw [hl]
  generalize xs.reverse=ys
  clear e hl
  induction ys with
  | nil=>rfl
  | cons y ys ih=>
    rw [List.length_cons,List.range_succ_eq_map,List.filterMap_cons]
    simp only [List.getElem?_cons_zero,List.filterMap_map]
    congr 1
theorem ZiW {t sl:Addr} {items:Array Value} {u:Tok} {Q:Value->Shared->Prop} (ht:IsTup s.heap t items) (hs:s.heap.IsSliceOf sl .none .none (.int (-1) u)) (hsz:items.size<=sizeLine)
    (h:Q (.ref s.heap.objs.size) { s with heap:=s.heap.push { cls:=.type "tuple",data:=.seq items.toList.reverse.toArray } }):wpAny (model prog w) A (getItem (.ref t) (.ref sl)) Q E s:=by
  obtain ⟨os,hos,hcs,hds⟩:=id hs
  have hTs:s.TypeIs (.ref sl) "slice":=⟨os,hos,hcs⟩
  unfold getItem
  try with_reducible refine wpAny_holding ?_
  first | refine wpAny_bind (wpAny_pure ?_) | skip
  refine wpAny_bind (wpAny_sequenceKey ht.typeIs (by decide) ?_)
  refine wpAny_bind (wpAny_callSpecial?_slot (name:=Str.ofString "__getitem__") ht.typeIs PyProof.Rows.slot_tuple_getitem
    (wpAny_call_entry PyProof.Rows.slot_tuple_getitem ht.typeIs entry_tuple_getitem ?_ (args_tuple_getitem _ _)))
  show wpAny _ _ (Builtin.Tuple.tupleItemsOf (.ref t) >>= _) _ _ s
  refine wpAny_bind (tupleItemsOf_ ht ?_)
  refine wpAny_bind (wpAny_typeOf hTs ?_)
  rw [if_pos (by decide)]
  refine wpAny_bind (?_:wpAny _ _ _ _ _ s)
  unfold Builtin.Slice.sliceApplied Builtin.Slice.sliceFields
  refine wpAny_bind (wpAny_bind (wpAny_field hos hds (x:=.none) rfl (wpAny_bind (wpAny_field hos hds (x:=.none) rfl (wpAny_bind (wpAny_field hos hds (x:=.int (-1) u) rfl (wpAny_pure ?_)))))))
  refine wpAny_bind (slicePart_int ?_)
  show wpAny _ _ (if (((-1:Int))==0)=true then _ else _) _ _ s
  rw [if_neg (by decide)]
  refine wpAny_bind (slicePart_none (wpAny_bind (slicePart_none (wpAny_bind (wpAny_pure ?_)))))
  have ad:Builtin.Slice.sliceAdjust none none (-1) (items.size:Int)=((items.size:Int)-1,-1):=rfl
  have pl:Builtin.Slice.slicePlaces ((items.size:Int)-1) (-1) (-1)=items.size:=by
    unfold Builtin.Slice.slicePlaces
    rw [if_neg (by decide)]
    by_cases hz:(items.size:Int)-1 > -1
    · rw [if_pos hz]
      have:(-(-1:Int))=1:=by decide
      rw [this,Int.ediv_one]
      omega
    · rw [if_neg hz]; omega
  show wpAny _ _ (match Builtin.Slice.sliceAdjust none none (-1) (items.size:Int) with | (lo,hi)=>pure (lo,(-1:Int),Builtin.Slice.slicePlaces lo hi (-1))) _ _ s
  rw [ad]
  show wpAny _ _ (pure ((items.size:Int)-1,(-1:Int),Builtin.Slice.slicePlaces ((items.size:Int)-1) (-1) (-1))) _ _ s
  rw [pl]
  refine wpAny_pure ?_
  have hno:¬ ((((items.size:Int)-1==0)&&((-1:Int)==1)&&(items.size==items.size))=true):=by
    rw [show ((-1:Int)==1)=false from rfl]
    simp
  show wpAny _ _ (if (((items.size:Int)-1==0)&&((-1:Int)==1)&&(items.size==items.size))=true then _ else _) _ _ s
  rw [if_neg hno]
  have ep:((List.range items.size).filterMap fun (k:Nat)=>items[((items.size:Int)-1+(k:Int)*(-1)).toNat]?).toArray=items.toList.reverse.toArray:=by
    have:=ZdQ items.toList
    rw [Array.length_toList] at this
    rw [<-this]
    simp
  rw [ep]
  have htake:sizeOk (.seq items.toList.reverse.toArray):=by
    show items.toList.reverse.toArray.size<=sizeLine
    simpa using hsz
  first
    | exact wpAny_bind (m:=Builtin.Tuple.tupleExact _) (wpAny_newObj_type (wpAny_pure ⟨_,rfl,wpAny_pure h⟩) htake)
    | exact wpAny_bind (m:=Builtin.Tuple.tupleExact _) (wpAny_newObj_type (wpAny_bind (wpAny_pure (wpAny_pure ⟨_,rfl,wpAny_pure h⟩))) htake)
    | exact wpAny_bind (wpAny_bind (m:=Builtin.Tuple.tupleExact _) (wpAny_newObj_type (wpAny_pure (wpAny_pure ⟨_,rfl,wpAny_pure h⟩)) htake))
    | exact wpAny_bind (wpAny_bind (m:=Builtin.Tuple.tupleExact _) (wpAny_newObj_type (wpAny_pure ⟨_,rfl,wpAny_pure h⟩) htake))
theorem Zcg (its:List Value):slicePick its.toArray none none (some (-1))=its.reverse.toArray:=by
  unfold slicePick
  have b:sliceBounds none none (some (-1)) its.toArray.size=((its.length:Int)-1,-1,-1):=by
    simp [sliceBounds]
  rw [b]
  congr 1
  unfold sliceRange
  simp only [show ¬ ((-1:Int) > 0) by decide,if_false,List.filterMap_map]
  have hc:(if (its.length:Int)-1 > -1 then ((its.length:Int)-1 - -1 - -1-1) / (- -1) else 0).toNat=its.length:=by
    split
    · rw [show (- -1:Int)=1 by decide,Int.ediv_one]; omega
    · omega
  rw [hc,<-ZdQ its]
  apply Zby
  intro m hm
  simp only [Function.comp]
  rw [show (((its.length:Nat):Int)-1+-1*(m:Int))=(((its.length:Nat):Int)-1+(m:Int)*(-1)) by omega]
  simp
end
noncomputable def cutD {α:Type} (xs:List α) (lo hi:Option Int):List α:=(xs.drop (HT.sIx xs.length 0 lo)).take (HT.sIx xs.length xs.length hi-HT.sIx xs.length 0 lo)
theorem RepL.cut {K:PySem.W.Frag} {F:Fz} {H:Hp} {ds:List D} {vs:List V} (h:RepL K F H ds vs) (lo hi:Option Int):RepL K F H (cutD ds lo hi) (Ze8 vs lo hi):=by
  unfold cutD Ze8
  rw [h.length]
  exact (h.drop _).take _
section
variable {X:Cx} {pos:Pos} {e:Expr} {f:DE}
noncomputable abbrev DO:=Rho->Option (Option Int)
inductive Zn3 (K:PySem.W.Frag) (p:DO) (σ:L2.St) (H:Hp) (Q:Option Int->Hp->Prop):Prop
  | mk (ρ:Rho) (F0:Fz) (H0:Hp) (F:Fz) (o:Option Int) (ok:EnvOk K F0 H0 F σ H ρ) (e:p ρ=some o) (q:∀ F' H',Grow F H F' H'->Q o H')
noncomputable def rdO (K:PySem.W.Frag) (p:DO):TO:=fun σ H Q=>Zn3 K p σ H Q
noncomputable def OD (X:Cx) (e:Option Expr) (p:DO):Prop:=PO X e (rdO X.K p)
theorem PO.imp {e:Option Expr} {t t':TO} (h:PO X e t) (i:∀ σ H Q,t' σ H Q->t σ H Q):PO X e t':=fun pins s σ H Q I q=>h pins s σ H Q I (i σ H Q q)
noncomputable def Qd:DO:=fun _=>some none
noncomputable def Qc (f:DE):DO:=fun ρ=>(f ρ).bind fun d=>match d with | .int i=>some (some i) | _=>none
theorem Jb:OD X none Qd:=PO.imp Zjk fun σ H Q ⟨ρ,F0,H0,F,o,ok,e,q⟩=>by cases e; exact q F H .refl
theorem Ja (h:ED X e f):OD X (some e) (Qc f):=PO.imp (ZfT h) fun σ H Q zq=>by
  obtain ⟨ρ,F0,H0,F,o,ok,eo,q⟩:=zq
  obtain ⟨d,ed,eo⟩:=bind_some eo
  refine ⟨ρ,F0,H0,F,d,ok,ed,fun v F1 H1 g1 r1=>?_⟩
  split at eo
  · cases eo
    unfold Rep at r1
    exact ⟨_,r1,q F1 H1 g1⟩
  · cases eo
noncomputable def ZnA (K:PySem.W.Frag):V->Option Int->Option Int->Hp->VK->Prop:=fun x lo hi H Q=>∃ a xs,x=.ref a/\((SqL K H a xs/\∀ p,H p=none->Q (.ref p) (upd H p (.lst (Ze8 xs lo hi)))) \/
  (SqT K H a xs/\(Ze8 xs lo hi=xs->Q (.ref a) H)/\∀ p,H p=none->Q (.ref p) (upd H p (.tup (Ze8 xs lo hi)))))
theorem Zkt:SlR X (ZnA X.K):=by
  intro pins s σ H x v vl vu lo hi sl Q I rx hs pl pu h
  obtain ⟨a,xs,rfl,h⟩:=h
  rcases h with ⟨hx,q⟩ | ⟨hx,q1,q2⟩
  · exact Zi3 pins s σ H _ v vl vu lo hi sl Q I rx hs pl pu ⟨a,xs,rfl,hx,q⟩
  · by_cases hw:HT.sIx xs.length 0 lo=0/\HT.sIx xs.length xs.length hi=xs.length
    · cases rx
      obtain ⟨its,r,ht,hz⟩:=I.tuple hx
      have hlen:its.toArray.size=xs.length:=by rw [List.size_toArray]; exact r.length.symm
      refine ⟨"tuple",_,PyProof.Rows.slot_tuple_getitem.lookup,ht.typeIs,?_⟩
      refine Zff ht hs pl pu (by rw [hlen]; exact hw) ⟨.ref a,H,I,rfl,q1 ?_⟩
      unfold Ze8
      rw [hw.1,hw.2]
      simp
    · exact Zks pins s σ H _ v vl vu lo hi sl Q I rx hs pl pu ⟨a,xs,rfl,hx,hw,q2⟩
noncomputable def Ze6 (lo hi:Option Int):D->Option D
  | .lst xs=>some (.lst (cutD xs lo hi))
  | .tup xs=>some (.tup (cutD xs lo hi))
  | _=>none
noncomputable def dSl (f:DE) (l h:DO):DE:=fun ρ=>(f ρ).bind fun x=>(l ρ).bind fun lo=>(h ρ).bind fun hi=>Ze6 lo hi x
theorem Zaz {lo hi:Option Expr} {l h:DO} {p2:Pos} (he:ED X e f) (hl:OD X lo l) (hh:OD X hi h):ED X (.Subscript e (.Slice lo hi none p2) pos) (dSl f l h):=
  PE.imp (ZhC Zkt he hl hh) fun σ H Q zq=>by
    obtain ⟨ρ,F0,H0,F,d,ok,e,q⟩:=zq
    obtain ⟨x,ex,e⟩:=bind_some e
    obtain ⟨lo,el,e⟩:=bind_some e
    obtain ⟨hi,eh,e⟩:=bind_some e
    refine ⟨ρ,F0,H0,F,x,ok,ex,fun v F1 H1 g1 r1=>⟨ρ,F0,H0,F1,lo,ok.grow g1,el,fun F2 H2 g2=>⟨ρ,F0,H0,F2,hi,(ok.grow g1).grow g2,eh,fun F3 H3 g3=>?_⟩⟩⟩
    have g13:=g1.trans (g2.trans g3)
    have r3:=(r1.grow g2).grow g3
    unfold Ze6 at e
    split at e
    · cases e
      unfold Rep at r3
      obtain ⟨a,vs,rfl,hf,hq,hr⟩:=r3
      exact ⟨a,vs,rfl,.inl ⟨hq,fun p hp=>q _ _ _ (g13.trans (.laid hp)) (YR hp (hr.cut lo hi))⟩⟩
    · rename_i ds
      cases e
      have r3':=r3
      unfold Rep at r3
      obtain ⟨a,vs,rfl,hq,hr⟩:=r3
      refine ⟨a,vs,rfl,.inr ⟨hq,fun ec=>q _ F3 H3 g13 ?_,fun p hp=>q _ F3 _ (g13.trans (.laid0 hp)) ?_⟩⟩
      · unfold Rep
        refine ⟨a,vs,rfl,hq,?_⟩
        have:=hr.cut lo hi
        rw [ec] at this
        exact this
      · unfold Rep
        exact ⟨p,_,rfl,.of ZR,(hr.cut lo hi).grow (.laid0 hp)⟩
    · cases e
noncomputable def Zhi (f:DE):DE:=fun ρ=>(f ρ).bind fun x=>match x with | .lst xs=>some (.lst xs.reverse) | .tup xs=>some (.tup xs.reverse) | _=>none
theorem ZgF {p1 p2 p3:Pos} {j:Nat} (he:ED X e f):ED X (.Subscript e (.Slice none none (some (.UnaryOp .USub (.Constant (.int 1) j p1) p3)) p2) pos) (Zhi f):=by
  intro pins s σ H Q I h
  obtain ⟨ρ,F0,H0,F,d,ok,ed,q⟩:=h
  obtain ⟨x,ex,ed⟩:=bind_some ed
  refine Subscript_ (thn (he pins s σ H (fun v H'=>∃ F',Grow F H F' H'/\Rep X.K F' H' x v) I ⟨ρ,F0,H0,F,x,ok,ex,fun v F' H' g r=>⟨F',g,r⟩⟩) fun v s1 zq=>?_)
  obtain ⟨xv,H1,I1,r1,F1,g1,rx⟩:=zq
  refine wpAny_Slice ?_
  rw [evalPart_none]
  refine wpAny_pure ?_
  refine wpAny_pure ?_
  refine thn (ZfT (ZkM Zij Zis) pins s1 σ H1 (fun o H'=>o=some (-1)/\H'=H1) I1 ⟨1,rfl,_,rfl,rfl,rfl⟩) fun vs s3 zq=>?_
  obtain ⟨o,H3,I3,ps,eo,eH⟩:=zq
  subst eo eH
  obtain ⟨u,rfl⟩:∃ u,vs=.int (-1) u:=by cases ps; exact ⟨_,rfl⟩
  have I4:Inv X pins σ H3 { s3 with heap:=s3.heap.push { cls:=.type "slice",data:=.fields #[.none,.none,.int (-1) u] } }:=I3.kept (t':=s3.toks) fun b ob q=>Heap.get?_push_of_some _ q
  have hs:(s3.heap.push { cls:=.type "slice",data:=.fields #[.none,.none,.int (-1) u] }).IsSliceOf s3.heap.objs.size .none .none (.int (-1) u):=Heap.IsSliceOf.new ..
  have fin:∃ T id,typeLookup (.type T) "__getitem__"=pure (some (.builtin id))/\Shared.TypeIs { s3 with heap:=s3.heap.push { cls:=.type "slice",data:=.fields #[.none,.none,.int (-1) u] } } v T /\
      wpAny (model X.prog X.w) X.A (getItem v (.ref s3.heap.objs.size)) (EP X pins σ Q) X.xe { s3 with heap:=s3.heap.push { cls:=.type "slice",data:=.fields #[.none,.none,.int (-1) u] } }:=by
    split at ed
    · cases ed
      unfold Rep at rx
      obtain ⟨a,vs,rfl,hf,hq,hr⟩:=rx
      cases r1
      obtain ⟨its,rv,ht,hz⟩:=I4.list hq
      have hlen:=rv.length
      refine ⟨"list",_,slot_list_getitem.lookup,ht.isList.typeIs,?_⟩
      refine wpAny_getItem_list_slice ht.isList hs .none .none (.int _ _) (by simp) ?_ (by rw [List.size_toArray] <;> omega)
      rw [Zcg]
      refine ⟨.ref _,_,I4.laid (t':=s3.toks) (o:=.lst vs.reverse) (fun b ob q=>Heap.get?_push_of_some _ q) (Nat.le_refl _) ?_,rfl,q _ _ _ (g1.trans (.laid (I4.hok.fresh (Nat.le_refl _)))) (YR (I4.hok.fresh (Nat.le_refl _)) hr.reverse)⟩
      exact ⟨by rw [List.length_reverse]; exact hz,_,0,rv.reverse,Heap.get?_push_size _ rfl⟩
    · cases ed
      unfold Rep at rx
      obtain ⟨a,vs,rfl,hq,hr⟩:=rx
      cases r1
      obtain ⟨its,rv,ht,hz⟩:=I4.tuple hq
      have hlen:=rv.length
      refine ⟨"tuple",_,PyProof.Rows.slot_tuple_getitem.lookup,ht.typeIs,?_⟩
      refine ZiW ht hs (by rw [List.size_toArray]; omega) ?_
      have hp:=I4.hok.fresh (a:=(s3.heap.push { cls:=.type "slice",data:=.fields #[.none,.none,.int (-1) u] }).objs.size) (Nat.le_refl _)
      refine ⟨.ref _,_,I4.laid (t':=s3.toks) (o:=.tup vs.reverse) (fun b ob q=>Heap.get?_push_of_some _ q) (Nat.le_refl _) ?_,rfl,q _ F1 _ (g1.trans (.laid0 hp)) ?_⟩
      · exact ⟨by rw [List.length_reverse]; exact hz,_,rv.reverse,IsTup.new _ _⟩
      · unfold Rep
        exact ⟨_,_,rfl,.of ZR,hr.reverse.grow (.laid0 hp)⟩
    · cases ed
  obtain ⟨T,id,hT,ht,hg⟩:=fin
  show wpAny (model X.prog X.w) X.A (subscriptTail e (.Slice none none (some (.UnaryOp .USub (.Constant (.int 1) j p1) p3)) p2) v (.ref s3.heap.objs.size)) (EP X pins σ Q) X.xe _
  exact tail_any (ops:=[v,.ref s3.heap.objs.size]) ht hT hg (by with_unfolding_all rfl)
end
noncomputable def ZmS (prog:Program) (w:World) (A:Around) (op:CmpOp) (G:Heap->Prop) (P:Nat->Value->Prop) (bt:Nat->Nat->Bool):Prop:=
  ∀ i j vi vj (s:Shared) (Q:Value->Shared->Prop) (E:Value->Shared->Prop),G s.heap->P i vi->P j vj->Q (.bool (bt i j)) s->wpAny (model prog w) A (richCompare op vi vj) Q E s
section
variable {prog:Program} {w:World} {A:Around} {R:Result->Shared->Prop} {I:Addr} {fp wr:List Addr} {n:Nat} {P:Nat->Value->Prop} {St:Nat->Heap->Prop}
theorem Zgb (W:Walks prog w A.in1 I fp wr n P St) (G:Heap->Prop) (S:Addr) (hG:∀ h h',G h->(∀ b o,b ∉ wr->b≠S->h.get? b=some o->h'.get? b=some o)->G h') (bt:Nat->Nat->Bool) (hcmp:ZmS prog w A.in1 .Lt G P bt) (hSf:S ∉ fp) :
    ∀ (k j:Nat) (s:Shared) (vb:Value) (c:Nat),n-(j+1)=k->j+1<=n->G s.heap->St (j+1) s.heap->P (argBest bt j) vb->s.heap.get? S=some { cls:=.type "list",dict:=none,data:=.seq #[vb,vb] c,slots:=#[] } ->
    (∀ v h' tk,P (argBest bt (n-1)) v->(∀ b o,b ∉ wr->b≠S->s.heap.get? b=some o->h'.get? b=some o)->R (.ok (.ret v)) { s with heap:=h',toks:=tk }) ->
    codeAny (model prog w) A (.builtin "min.loop" ⟨[.ref I,.none,.ref S],[]⟩) R s:=by
  have hSw:S ∉ wr:=fun h=>hSf (W.sub _ h)
  have hname:(toString "min"++toString ".loop":String)="min.loop":=by decide
  intro k
  induction k with
  | zero=>
    intro j s vb c hk hj hg hst hPb hS hR
    have hin:j+1=n:=by omega
    refine codeAny_builtin F.entry_min_loop ?_
    rw [Around.under_plainId F.plain_min_loop _]; show wpAny _ A.in1 (seqItems? (.ref S) >>= _) _ _ s; refine wpAny_bind (wpAny_seqItems hS rfl ?_)
    show wpAny _ A.in1 (tryCatch (pyNext (.ref I)) _ >>= _) _ _ s; refine wpAny_bind (wpAny_tryCatch (W.done s _ _ (hin ▸ hst) fun h' tk hk'=>?_))
    have hS':=hk' S _ hSw hS
    show wpAny _ A.in1 (updateSeq S (fun _=>#[]) >>= _) _ _ _; refine wpAny_bind (wpAny_updateSeq hS' rfl (wpAny_bind (wpAny_letGo (wpAny_pure ?_))))
    exact hR vb _ tk (by rw [<-hin]; exact hPb) fun b o hbw hbS e=>(Heap.get?_update_other _ _ (Ne.symm hbS)).trans (hk' b o hbw e)
  | succ k ih=>
    intro j s vb c hk hj hg hst hPb hS hR
    have hlt:j+1 < n:=by omega
    refine codeAny_builtin F.entry_min_loop ?_
    rw [Around.under_plainId F.plain_min_loop _]; show wpAny _ A.in1 (seqItems? (.ref S) >>= _) _ _ s; refine wpAny_bind (wpAny_seqItems hS rfl ?_)
    show wpAny _ A.in1 (tryCatch (pyNext (.ref I)) _ >>= _) _ _ s; refine wpAny_bind (wpAny_tryCatch (W.item (j+1) s _ _ hlt hst fun v h' tk hP hst' hk'=>?_))
    have hS':=hk' S _ hSw hS
    have hg':G h':=hG _ _ hg fun b o h1 _ e=>hk' b o h1 e
    show wpAny _ A.in1 (tryCatch (holding [v,v] (richCompare .Lt v vb >>= _)) _ >>= _) _ _ _; refine wpAny_bind (wpAny_tryCatch (wpAny_holding (wpAny_bind (hcmp (j+1) (argBest bt j) v vb _ _ _ hg' hP hPb ?_))))
    refine wpAny_bind (wpAny_holding (wpAny_truthy_bool (wpAny_bind (wpAny_letGo (wpAny_pure ?_)))))
    cases hb:bt (j+1) (argBest bt j) with
    | true=>
      simp only [if_true]
      refine wpAny_bind (wpAny_updateSeq hS' rfl (wpAny_bind (wpAny_letGo ?_)))
      rw [hname]
      refine wpAny_pure ⟨plainId_quiet F.plain_min_loop _,ih (j+1) _ v _ (by omega) hlt (hG _ _ hg' fun b o _ h2 e=>(Heap.get?_update_other _ _ (Ne.symm h2)).trans e) (W.frame _ _ _ hst' fun b hbf o e=>(Heap.get?_update_other _ _ (fun h:S=b=>hSf (by rw [h]; exact hbf))).trans e) (by simp only [argBest,hb,if_true]; exact hP) (Heap.get?_update_self _ hS' rfl) fun v' h'' tk'' hP' hk''=>?_⟩
      exact hR v' h'' tk'' hP' fun b o hbw hbS e=>hk'' b o hbw hbS ((Heap.get?_update_other _ _ (Ne.symm hbS)).trans (hk' b o hbw e))
    | false=>
      simp only [Bool.false_eq_true,if_false]
      refine wpAny_bind (wpAny_letGo ?_)
      rw [hname]
      refine wpAny_pure ⟨plainId_quiet F.plain_min_loop _,ih (j+1) _ vb c (by omega) hlt hg' hst' (by simp only [argBest,hb,Bool.false_eq_true,if_false]; exact hPb) hS' fun v' h'' tk'' hP' hk''=>?_⟩
      exact hR v' h'' tk'' hP' fun b o hbw hbS e=>hk'' b o hbw hbS (hk' b o hbw e)
theorem ZeC (W:Walks prog w A.in1 I fp wr n P St) (G:Heap->Prop) (S:Addr) (hG:∀ h h',G h->(∀ b o,b ∉ wr->b≠S->h.get? b=some o->h'.get? b=some o)->G h') (bt:Nat->Nat->Bool) (hcmp:ZmS prog w A.in1 .Lt G P bt) (hSf:S ∉ fp) (hn:0 < n) {s:Shared} {c:Nat} (hg:G s.heap) (hst:St 0 s.heap)
    (hS:s.heap.get? S=some { cls:=.type "list",dict:=none,data:=.seq #[] c,slots:=#[] })
    (hR:∀ v h' tk,P (argBest bt (n-1)) v->(∀ b o,b ∉ wr->b≠S->s.heap.get? b=some o->h'.get? b=some o)->R (.ok (.ret v)) { s with heap:=h',toks:=tk }) :
    codeAny (model prog w) A (.builtin "min.loop" ⟨[.ref I,.none,.ref S],[]⟩) R s:=by
  have hSw:S ∉ wr:=fun h=>hSf (W.sub _ h)
  have hname:(toString "min"++toString ".loop":String)="min.loop":=by decide
  refine codeAny_builtin F.entry_min_loop ?_
  rw [Around.under_plainId F.plain_min_loop _]; show wpAny _ A.in1 (seqItems? (.ref S) >>= _) _ _ s; refine wpAny_bind (wpAny_seqItems hS rfl ?_)
  show wpAny _ A.in1 (tryCatch (pyNext (.ref I)) _ >>= _) _ _ s; refine wpAny_bind (wpAny_tryCatch (W.item 0 s _ _ hn hst fun v h' tk hP hst' hk'=>?_))
  have hS':=hk' S _ hSw hS
  have hg':G h':=hG _ _ hg fun b o h1 _ e=>hk' b o h1 e
  show wpAny _ A.in1 (updateSeq S (fun _=>#[v,v]) >>= _) _ _ _; refine wpAny_bind (wpAny_updateSeq hS' rfl ?_)
  rw [hname]
  refine wpAny_pure ⟨plainId_quiet F.plain_min_loop _,Zgb W G S hG bt hcmp hSf _ 0 _ v _ rfl hn (hG _ _ hg' fun b o _ h2 e=>(Heap.get?_update_other _ _ (Ne.symm h2)).trans e) (W.frame _ _ _ hst' fun b hbf o e=>(Heap.get?_update_other _ _ (fun h:S=b=>hSf (by rw [h]; exact hbf))).trans e) hP (Heap.get?_update_self _ hS' rfl) fun v' h'' tk'' hP' hk''=>?_⟩
  exact hR v' h'' tk'' hP' fun b o hbw hbS e=>hk'' b o hbw hbS ((Heap.get?_update_other _ _ (Ne.symm hbS)).trans (hk' b o hbw e))
theorem Zgc {x:Value} {Q:Value->Shared->Prop} {E:Value->Shared->Prop} {s:Shared}
    (h:wpAny (model prog w) A.in1 (pyIter x) (fun it s₂=>∃ I fp wr n P St bt,it=.ref I/\Walks prog w A.in1 I fp wr n P St/\St 0 s₂.heap/\(∀ b∈fp,b < s₂.heap.objs.size)/\0 < n/\ZmS prog w A.in1 .Lt (fun h'=>∀ b o,b ∉ wr->s₂.heap.get? b=some o->h'.get? b=some o) P bt /\
      ∀ v h' tk,P (argBest bt (n-1)) v->(∀ b o,b ∉ wr->s₂.heap.get? b=some o->h'.get? b=some o)->Q v { s₂ with heap:=h',toks:=tk }) E s) :
    wpAny (model prog w) A (call (.builtin "min") [x]) Q E s:=by
  have hname:(toString "min"++toString ".loop":String)="min.loop":=by decide
  refine call_function_tree F.kind_min F.plain_min F.entry_min (F.args_min1 _) ?_
  show wpAny _ A.in1 (Builtin.Builtins.bindParams "min" ["key","default"] 0 ⟨[],[]⟩ >>= _) _ _ s
  refine wpAny_bind (wpAny_of_eq (show Builtin.Builtins.bindParams "min" ["key","default"] 0 ⟨[],[]⟩=pure [none,none] from rfl) (wpAny_bind (wpAny_pure (wpAny_bind (wpAny_mono h (fun it s₂ h₂=>?_) fun _ _ e=>e)))))
  obtain ⟨I,fp,wr,n,P,St,bt,rfl,W,hst,hfp,hn,hcmp,hQ⟩:=h₂
  refine wpAny_bind (wpAny_newObj_type ?_)
  have hSf:s₂.heap.objs.size ∉ fp:=fun hm=>Nat.lt_irrefl _ (hfp _ hm)
  rw [hname]
  refine wpAny_pure ⟨plainId_quiet F.plain_min_loop _,ZeC W (fun h'=>∀ b o,b ∉ wr->s₂.heap.get? b=some o->h'.get? b=some o) s₂.heap.objs.size (fun h1 h2 g k b o hb e=>k b o hb (Nat.ne_of_lt (Heap.lt_size e)) (g b o hb e)) bt hcmp hSf hn (fun b o _ e=>Heap.get?_push_of_some _ e) (W.frame _ _ _ hst fun b _ o e=>Heap.get?_push_of_some _ e) (Heap.get?_push_size _ rfl) fun v h' tk hP hk=>?_⟩
  exact hQ v h' tk hP fun b o hbw e=>hk b o hbw (Nat.ne_of_lt (Heap.lt_size e)) (Heap.get?_push_of_some _ e)
end
section
variable {X:Cx} {pins:List (Addr×Obj)} {σ:L2.St} {H:Hp} {s:Shared}
theorem ZhS {A':Around} {a:Addr} {vs:List V} {Q:Value->Shared->Prop} {E:Value->Shared->Prop} (hh:A'.handled=none) (I:Inv X pins σ H s) (h:SqL X.K H a vs\/SqT X.K H a vs)
    (q:∀ (it:Addr) (fp wr:List Addr) (its:Array Value) (St:Nat->Heap->Prop) (h2:Heap),Vals vs its.toList->Walks X.prog X.w A' it fp wr its.size (fun i v=>its[i]?=some v) St->St 0 h2->(∀ b∈fp,b < h2.objs.size) ->
      (∀ b o,s.heap.get? b=some o->h2.get? b=some o/\b ∉ wr)->Q (.ref it) { s with heap:=h2 }):wpAny (model X.prog X.w) A' (pyIter (.ref a)) Q E s:=by
  rcases h with h | h
  · obtain ⟨its,rv,p,hz⟩:=I.list h
    have hl:=p.isList
    have hlt:a < s.heap.objs.size:=by obtain ⟨_,e,_⟩:=hl; exact Heap.lt_size e
    refine wpAny_pyIter_list hl ?_
    refine q s.heap.objs.size [s.heap.objs.size,a] [s.heap.objs.size] its.toArray _ _ (by simpa using rv) (Walks.list hh _ a (Nat.ne_of_lt hlt) its.toArray) ⟨⟨_,Heap.get?_push_size _ rfl,rfl,rfl⟩,hl.push _⟩ (fun b hb=>?_) fun b o e=>⟨Heap.get?_push_of_some _ e,fun hb=>?_⟩
    · rw [Heap.size_push]
      rcases List.mem_cons.mp hb with rfl | hb
      · exact Nat.lt_succ_self _
      · rw [List.mem_singleton] at hb; subst hb; exact Nat.lt_succ_of_lt hlt
    · rw [List.mem_singleton] at hb; subst hb; exact absurd (Heap.lt_size e) (Nat.lt_irrefl _)
  · obtain ⟨its,rv,p,hz⟩:=I.tuple h
    have hl:s.heap.IsTuple a its.toArray:=p
    have hlt:a < s.heap.objs.size:=by obtain ⟨_,e,_⟩:=hl; exact Heap.lt_size e
    refine wpAny_pyIter_tuple hl ?_
    refine q s.heap.objs.size [s.heap.objs.size,a] [s.heap.objs.size] its.toArray _ _ (by simpa using rv) (Walks.tuple hh _ a (Nat.ne_of_lt hlt) its.toArray) ⟨⟨_,Heap.get?_push_size _ rfl,rfl,rfl⟩,hl.push _⟩ (fun b hb=>?_) fun b o e=>⟨Heap.get?_push_of_some _ e,fun hb=>?_⟩
    · rw [Heap.size_push]
      rcases List.mem_cons.mp hb with rfl | hb
      · exact Nat.lt_succ_self _
      · rw [List.mem_singleton] at hb; subst hb; exact Nat.lt_succ_of_lt hlt
    · rw [List.mem_singleton] at hb; subst hb; exact absurd (Heap.lt_size e) (Nat.lt_irrefl _)
end
noncomputable def Qb:D->Option (List D)
  | .lst xs=>some xs
  | .tup xs=>some xs
  | _=>none
theorem ZfM {K:PySem.W.Frag} {F:Fz} {H:Hp} {d:D} {xs:List D} {v:V} (h:Qb d=some xs) (r:Rep K F H d v):∃ a vs,v=.ref a/\(SqL K H a vs\/SqT K H a vs)/\RepL K F H xs vs:=by
  unfold Qb at h
  split at h
  · cases h; unfold Rep at r; obtain ⟨a,vs,rfl,_,h1,h2⟩:=r; exact ⟨a,vs,rfl,.inl h1,h2⟩
  · cases h; unfold Rep at r; obtain ⟨a,vs,rfl,h1,h2⟩:=r; exact ⟨a,vs,rfl,.inr h1,h2⟩
  · cases h
section
variable {X:Cx}
noncomputable def J1:List D->Option (List Int)
  | []=>some []
  | .int b::r=>(J1 r).map (b::·)
  | _::_=>none
theorem Wy:∀ {ds:List D} {ns:List Int},J1 ds=some ns->ds=ns.map .int
  | [],ns,h=>by cases h; rfl
  | d0::ds,ns,h=>by
    cases d0 with
    | int b=>
      obtain ⟨bs',h',rfl⟩:=map_some (show (J1 ds).map (b::·)=some ns from h)
      rw [Wy h']; rfl
    | _=>cases h
theorem WX:∀ (ns:List Int),J1 (ns.map .int)=some ns
  | []=>rfl
  | n::ns=>by show (J1 (ns.map .int)).map (n::·)=_; rw [WX ns]; rfl
end
noncomputable def ltD:D->D->Bool
  | .int i,.int j=>decide (i < j)
  | .tup xs,.tup ys=>HT.lexLt ((J1 xs).getD []) ((J1 ys).getD [])
  | _,_=>false
noncomputable def isI:D->Bool
  | .int _=>true
  | _=>false
noncomputable def isT:D->Bool
  | .tup xs=>(J1 xs).isSome
  | _=>false
noncomputable def Wc (ds:List D):Bool:=ds.all isI||ds.all isT
noncomputable def Zdv (lt:D->D->Bool):D->List D->D
  | b,[]=>b
  | b,x::xs=>Zdv lt (if lt x b then x else b) xs
theorem ZcD (lt:D->D->Bool):∀ (xs:List D) (b x:D),Zdv lt b (xs++[x])=if lt x (Zdv lt b xs) then x else Zdv lt b xs
  | [],b,x=>rfl
  | y::xs,b,x=>by simp only [List.cons_append,Zdv]; exact ZcD lt xs _ x
theorem Wf (lt:D->D->Bool) (d:D) (ds:List D):∀ k,k<=ds.length->(d::ds)[argBest (fun i j=>lt ((d::ds)[i]?.getD .non) ((d::ds)[j]?.getD .non)) k]?=some (Zdv lt d (ds.take k))
  | 0,_=>by simp [argBest,Zdv]
  | k+1,hk=>by
    have ih:=Wf lt d ds k (by omega)
    have e:ds.take (k+1)=ds.take k++[ds[k]]:=by rw [List.take_add_one]; simp [show k < ds.length by omega]
    rw [e,ZcD]
    unfold argBest
    have e1:(d::ds)[k+1]?=some ds[k]:=by simp [show k < ds.length by omega]
    simp only [ih,e1,Option.getD_some]
    split
    · exact e1
    · exact ih
noncomputable def Vq:List D->Option D
  | [d]=>(Qb d).bind fun xs=>match xs with
    | []=>none
    | x::r=>if Wc (x::r) then some (Zdv ltD x r) else none
  | _=>none
section
variable {X:Cx} {pins:List (Addr×Obj)} {σ:L2.St} {H:Hp} {s:Shared} {F:Fz}
theorem Jx:∀ {ns:List Int} {vs:List V} {us:List Value},RepL X.K F H (ns.map .int) vs->Vals vs us->IntsAre us ns
  | [],vs,us,h,r=>by rw [List.map_nil] at h; rw [h.unnil] at r; cases r; exact .nil
  | n::ns,vs,us,h,r=>by
    rw [List.map_cons] at h
    obtain ⟨y,ys,rfl,h1,h2⟩:=h.uncons
    unfold Rep at h1
    subst h1
    cases r with
    | cons r1 r2=>
      obtain ⟨t,rfl⟩:=r1
      exact .cons n t (Jx h2 r2)
theorem ZhN {A:Around} (hu:A.units < cLine) (I:Inv X pins σ H s) {d e:D} {x y:V} {u v:Value} {h':Heap} {s':Shared} {Q:Value->Shared->Prop} {E:Value->Shared->Prop} (hk:((isI d&&isI e)||(isT d&&isT e))=true)
    (r1:Rep X.K F H d x) (r2:Rep X.K F H e y) (q1:RelV x u) (q2:RelV y v) (kp:∀ b o,s.heap.get? b=some o->s'.heap.get? b=some o) (q:Q (.bool (ltD d e)) s'):wpAny (model X.prog X.w) A (richCompare .Lt u v) Q E s':=by
  cases d with
  | int i=>cases e with
    | int j=>
      unfold Rep at r1 r2
      subst r1 r2
      obtain ⟨t,rfl⟩:=q1
      obtain ⟨t',rfl⟩:=q2
      exact HT.rcLt_int A s' i t j t' X.prog X.w E Q q
    | _=>simp [isI,isT] at hk
  | tup xs=>cases e with
    | tup ys=>
      have hk:((J1 xs).isSome&&(J1 ys).isSome)=true:=by simpa [isI,isT] using hk
      obtain ⟨k1,k2⟩:=Bool.and_eq_true_iff.mp hk
      obtain ⟨ns,en⟩:=Option.isSome_iff_exists.mp k1
      obtain ⟨ms,em⟩:=Option.isSome_iff_exists.mp k2
      have e1:=Wy en; have e2:=Wy em
      subst e1 e2
      unfold Rep at r1 r2
      obtain ⟨a,vs,rfl,h1,l1⟩:=r1
      obtain ⟨b,ws,rfl,h2,l2⟩:=r2
      cases q1; cases q2
      obtain ⟨its,rv,p,_⟩:=I.tuple h1
      obtain ⟨its2,rv2,p2,_⟩:=I.tuple h2
      have p':IsTup s'.heap a its.toArray:=by obtain ⟨o,ho,r⟩:=p; exact ⟨o,kp a o ho,r⟩
      have p2':IsTup s'.heap b its2.toArray:=by obtain ⟨o,ho,r⟩:=p2; exact ⟨o,kp b o ho,r⟩
      have q':Q (.bool (HT.lexLt ((J1 (ns.map .int)).getD []) ((J1 (ms.map .int)).getD []))) s':=q
      rw [WX,WX] at q'
      exact HT.lt_tupInts (ns:=ns) (ms:=ms) p' p2' (by simpa using Jx l1 rv) (by simpa using Jx l2 rv2) hu q'
    | _=>simp [isI,isT] at hk
  | _=>simp [isI,isT] at hk
theorem ZeT {ds:List D} (h:Wc ds=true) {i j:Nat} {d e:D} (h1:ds[i]?=some d) (h2:ds[j]?=some e):((isI d&&isI e)||(isT d&&isT e))=true:=by
  have m1:=List.mem_of_getElem? h1
  have m2:=List.mem_of_getElem? h2
  rcases Bool.or_eq_true_iff.mp h with h | h
  · have:=List.all_eq_true.mp h
    rw [this d m1,this e m2]; rfl
  · have:=List.all_eq_true.mp h
    rw [this d m1,this e m2]; simp
theorem Zcy (hc:X.calm=true) (hu:X.A.units+64 < cLine):ZbP X (.builtin "min") Vq:=by
  intro pins s σ H vs us Q I r h
  obtain ⟨xs,F,d,r1,e,q⟩:=h
  unfold Vq at e
  split at e
  · rename_i d0
    obtain ⟨ys,es,e⟩:=bind_some e
    cases ys with
    | nil=>cases e
    | cons y ys=>
      have e:(if Wc (y::ys)=true then some (Zdv ltD y ys) else none)=some d:=e
      obtain ⟨hca,rfl⟩:=Yp e
      obtain ⟨v,rfl,rv0⟩:=VH r1
      obtain ⟨a,ws,rfl,hq,hr⟩:=ZfM es rv0
      obtain ⟨u,rfl,ru⟩:=ZcX r
      cases ru
      have hu':X.A.in1.units < cLine:=by show X.A.units+1 < cLine; omega
      refine Zgc (ZhS (A':=X.A.in1) (I.ok.hd hc) I hq fun it fp wr its St h2 rv W st fpl kp=>⟨it,fp,wr,its.size,_,St,fun i j=>ltD ((y::ys)[i]?.getD .non) ((y::ys)[j]?.getD .non),rfl,W,st,fpl,?_,fun i j vi vj s' Q' E' hG hi hj hQ=>?_,fun v h' tk hv hk=>?_⟩)
      · have h1:=hr.length; have h2:=rv.length; simp at h1 h2; omega
      · have gt:∀ {i:Nat} {v:Value},its[i]?=some v->∃ d x,(y::ys)[i]?=some d/\Rep X.K F H d x/\RelV x v:=fun {i v} hv=>by
          have hi:i < (y::ys).length:=by
            have:=(Array.getElem?_eq_some_iff.mp hv).1
            rw [hr.length,rv.length]; simpa using this
          obtain ⟨x,ex,rx⟩:=hr.get (show (y::ys)[i]?=some (y::ys)[i] by simp [hi])
          obtain ⟨u,eu,ru⟩:=rv.get ex
          have:v=u:=by rw [Array.getElem?_toList] at eu; rw [hv] at eu; exact Option.some.inj eu
          subst this
          exact ⟨_,x,by simp [hi],rx,ru⟩
        obtain ⟨d1,x1,e1,p1,q1⟩:=gt hi
        obtain ⟨d2,x2,e2,p2,q2⟩:=gt hj
        have hQ:Q' (.bool (ltD ((y::ys)[i]?.getD .non) ((y::ys)[j]?.getD .non))) s':=hQ
        rw [e1,e2] at hQ
        exact ZhN (h':=h2) hu' I (ZeT hca e1 e2) p1 p2 q1 q2 (fun b o e=>hG b o (kp b o e).2 (kp b o e).1) hQ
      · have hz:its.size-1=ys.length:=by have h1:=hr.length; have h2:=rv.length; simp at h1 h2; omega
        have hb:=Wf ltD y ys ys.length (Nat.le_refl _)
        rw [List.take_length] at hb
        rw [hz] at hv
        obtain ⟨x,ex,rx⟩:=hr.get hb
        obtain ⟨u,eu,ru⟩:=rv.get ex
        have:v=u:=by rw [Array.getElem?_toList] at eu; rw [hv] at eu; exact Option.some.inj eu
        subst this
        exact ⟨x,H,I.kept (t':=tk) fun b o e=>hk b o (kp b o e).2 (kp b o e).1,ru,q _ F H .refl rx⟩
  · cases e
noncomputable def Zcn (x:D):List D->Option Nat
  | []=>none
  | y::ys=>if deq y x then some 0 else (Zcn x ys).map (·+1)
theorem ZaU (x:D):∀ {ys:List D} {j:Nat},Zcn x ys=some j->(∃ y,ys[j]?=some y/\deq y x=true)/\∀ (m:Nat) y,m < j->ys[m]?=some y->deq y x=false
  | [],j,h=>by cases h
  | y::ys,j,h=>by
    unfold Zcn at h
    by_cases c:deq y x=true
    · rw [if_pos c] at h
      cases h
      exact ⟨⟨y,rfl,c⟩,fun m z hm=>absurd hm (Nat.not_lt_zero _)⟩
    · rw [if_neg c] at h
      obtain ⟨k,hk,rfl⟩:=map_some h
      obtain ⟨⟨z,h1,h2⟩,h3⟩:=ZaU x hk
      refine ⟨⟨z,by simpa using h1,h2⟩,fun m z hm hz=>?_⟩
      cases m with
      | zero=>simp at hz; subst hz; simpa using c
      | succ m=>exact h3 m z (by omega) (by simpa using hz)
end
section
variable {X:Cx}
noncomputable def ZeQ:D->D->Option D
  | .lst xs,x=>if okD x&&okD (.lst xs)&&decide (xs.length<=lim) then (Zcn x xs).map fun (j:Nat)=>D.int (j:Int) else none
  | _,_=>none
noncomputable def ZnF (K:PySem.W.Frag):V->List V->Hp->VK->Prop:=fun v vs H Q=>∃ x y F d u,vs=[u]/\Rep K F H x v/\Rep K F H y u/\ZeQ x y=some d/\∀ w F' H',Grow F H F' H'->Rep K F' H' d w->Q w H'
theorem ZbS:∀ (ds:List D) (i:Nat),(Qx ds)[i]?=(ds[i]?).map JG
  | [],i=>by simp [Qx]
  | d::ds,0=>by simp [Qx]
  | d::ds,i+1=>by simp [Qx,ZbS ds i]
theorem VZ {h:Heap}:∀ {vs:List Value} {xs:List PyData} {as:List Addr},ReadsAll h vs xs as->PyData.canLayAll0 xs=true->∀ (i:Nat) v,vs[i]?=some v->∃ d,xs[i]?=some d/\SeqAt.readOf h v=d
  | _,_,_,.nil,_,i,v,e=>by simp at e
  | _,_,_,.cons r1 r2,hc,i,v,e=>by
    have hc':=(by simpa [PyData.canLayAll0] using hc:_/\_)
    cases i with
    | zero=>simp at e; subst e; exact ⟨_,rfl,SeqAt.readOf_eq hc'.1 r1⟩
    | succ i=>obtain ⟨d,e1,e2⟩:=VZ r2 hc'.2 i v (by simpa using e); exact ⟨d,by simpa using e1,e2⟩
theorem ZhJ (hu:X.A.units+64 < cLine):MtR X "list.index" (ZnF X.K):=by
  intro pins s σ H x xs v us Q I rx rs h
  obtain ⟨dx,dy,F,d,u,rfl,r1,r2,e,q⟩:=h
  cases dx with
  | lst ds=>
    have e:(if (okD dy&&okD (.lst ds)&&decide (ds.length<=lim))=true then (Zcn dy ds).map fun (j:Nat)=>D.int (j:Int) else none)=some d:=e
    by_cases hk:(okD dy&&okD (.lst ds)&&decide (ds.length<=lim))=true
    · rw [if_pos hk] at e
      obtain ⟨j,ej,rfl⟩:=map_some e
      obtain ⟨hk,hz⟩:=Bool.and_eq_true_iff.mp hk
      obtain ⟨k1,k2⟩:=Bool.and_eq_true_iff.mp hk
      have hz:ds.length<=lim:=of_decide_eq_true hz
      obtain ⟨w,rfl,rw'⟩:=ZcX rs
      obtain ⟨bs,a2⟩:=Qn I r2 rw'
      unfold Rep at r1
      obtain ⟨a,vs,rfl,hf,hq,hr⟩:=r1
      cases rx
      obtain ⟨its,rv,pl,_⟩:=I.list hq
      obtain ⟨as,ra⟩:=Up I hr rv
      have d1:=okD.dep k1; have c1:=okD.can k1
      have c2:=okD.can k2
      simp only [JG,PyData.canLay0] at c2
      obtain ⟨⟨cls,dd,data,sl⟩,ho,hc,n,hd⟩:=pl.isList
      simp only at hc hd
      subst hc hd
      have hlen:its.length=ds.length:=by rw [<-rv.length,hr.length]
      obtain ⟨⟨y,y1,y2⟩,no⟩:=ZaU dy ej
      have hj:j < ds.length:=(List.getElem?_eq_some_iff.mp y1).1
      have rd:∀ (i:Nat) (hi:i < its.toArray.size) y,ds[i]?=some y->PyData.eqv (SeqAt.readOf s.heap its.toArray[i]) (JG dy)=deq y dy:=fun i hi y ey=>by
        obtain ⟨d',e1,e2⟩:=VZ ra c2 i its.toArray[i] (by simp)
        rw [ZbS,ey] at e1
        cases e1
        rw [e2]; rfl
      have hm:min (PyData.depthAll (Qx ds)) (JG dy).depth<=30:=Nat.le_trans (Nat.min_le_right _ _) d1
      refine call_meets PySem.F.slot_list_index ⟨_,ho,rfl⟩ PySem.F.entry_list_index (PySem.F.args_list_index_2 _ _)
        (SeqAt.list_indexAt a its.toArray n dd sl w (fun y=>PyData.eqv (SeqAt.readOf s.heap y) (JG dy)) j (by simp; omega) (by unfold lim at hz; omega) (by rw [rd j (by simp; omega) y y1]; exact y2) fun m hm hlt=>?_)
        ⟨ho,SeqAt.items_eqAt (by simpa using ra) a2 c2 c1 (by omega),.int j,H,I.tok _,⟨_,rfl⟩,q _ F H .refl (Yt _)⟩
      have hml:m < ds.length:=by simp at hm; omega
      rw [rd m hm ds[m] (by simp [hml])]
      exact no m _ hlt (by simp [hml])
    · rw [if_neg hk] at e; cases e
  | _=>cases e
theorem Zh2 {o e:Expr} {f g:DE} {apos cpos:Pos} (hu:X.A.units+64 < cLine) (ho:ED X o f) (he:ED X e g)
    (hbase:attributeBase o "index" X.env (eval o X.env)=eval o X.env:=by rfl)
    (hfew:((backTo cpos (starEach [e] X.env)).all (fun x=>!x.1)&&(backToKw cpos (keywordEach [] X.env)).all (fun x=>x.1.isSome)
      && decide ([e].length+([]:List Keyword).length+(if ([]:List Keyword).isEmpty then 0 else 1) < 30))=true:=by rfl)
    (hline:(apos.endLine==cpos.line)=true:=by rfl) (hs:starEach [e] X.env=(false,eval e X.env)::starEach [] X.env:=by rfl) (hplain:(backTo cpos (starEach [] X.env)).any (·.1)=false:=by rfl) :
    ED X (.Call (.Attribute o "index" apos) [e] [] cpos) (Zh ZeQ f g):=
  PE.imp (ZkU PySem.F.plainAttrs_list PySem.F.slot_list_index PySem.F.type_list_index (ZhJ hu) ho (Zb he Zg hs) hbase hfew hline hs hplain) fun σ H Q zq=>by
    obtain ⟨ρ,F0,H0,F,d,ok,e,q⟩:=zq
    obtain ⟨x,ex,e⟩:=bind_some e
    obtain ⟨y,ey,e⟩:=bind_some e
    refine ⟨ρ,F0,H0,F,x,ok,ex,fun v F1 H1 g1 r1=>?_⟩
    cases x with
    | lst ds=>
      have r1':=r1
      unfold Rep at r1
      obtain ⟨a,vs,rfl,hf,hq,hr⟩:=r1
      refine ⟨.inl ⟨rfl,vs,hq⟩,ρ,F0,H0,F1,[y],ok.grow g1,by simp [Zc,Zm,ey],fun ws F2 H2 g2 r2=>?_⟩
      obtain ⟨u,rfl,ru⟩:=VH r2
      exact ⟨_,_,F2,d,u,rfl,r1'.grow g2,ru,e,fun w F3 H3 g3 r3=>q w F3 H3 (g1.trans (g2.trans g3)) r3⟩
    | _=>cases e
end
end L3
set_option linter.unusedVariables false
set_option linter.unusedSimpArgs false
namespace SetTab
open PySem PySem.SetTable
noncomputable def Ris (xs:List Nat):Prop:=xs.Pairwise (· < ·)
theorem Ris.get {xs:List Nat} (h:Ris xs) {i j:Nat} (hij:i < j) (hj:j < xs.length):xs[i]'(by omega) < xs[j]:=List.pairwise_iff_getElem.mp h i j (by omega) hj hij
theorem Zic {xs:Array Nat} (h:Ris xs.toList) (j:Nat):∀ (fuel lo hi:Nat),hi-lo<=fuel->lo<=hi->hi<=xs.size->(∀ a (ha:a < xs.size),a < lo->xs[a] < j)->(∀ a (ha:a < xs.size),hi<=a->j<=xs[a]) ->
    ∃ r,below.go xs j fuel lo hi=r/\r<=xs.size/\(∀ a (ha:a < xs.size),a < r->xs[a] < j)/\(∀ a (ha:a < xs.size),r<=a->j<=xs[a]):=by
  intro fuel
  induction fuel with
  | zero=>
    intro lo hi h1 h2 h3 h4 h5
    exact ⟨lo,rfl,by omega,h4,fun a ha hl=>h5 a ha (by omega)⟩
  | succ fuel ih=>
    intro lo hi h1 h2 h3 h4 h5
    unfold below.go
    by_cases c:lo < hi
    · rw [if_pos c]
      have hm:(lo+hi) / 2 < xs.size:=by omega
      have e:xs.getD ((lo+hi) / 2) j=xs[(lo+hi) / 2]:=by simp [Array.getD,hm]
      show ∃ r,(if xs.getD ((lo+hi) / 2) j < j then below.go xs j fuel ((lo+hi) / 2+1) hi else below.go xs j fuel lo ((lo+hi) / 2))=r/\_
      rw [e]
      by_cases c2:xs[(lo+hi) / 2] < j
      · rw [if_pos c2]
        refine ih _ _ (by omega) (by omega) h3 (fun a ha hl=>?_) h5
        by_cases e2:a=(lo+hi) / 2
        · subst e2; exact c2
        · have:=h.get (i:=a) (j:=(lo+hi) / 2) (by omega) (by simpa using hm)
          simp only [Array.getElem_toList] at this
          omega
      · rw [if_neg c2]
        refine ih _ _ (by omega) (by omega) (by omega) h4 (fun a ha hl=>?_)
        by_cases e2:a=(lo+hi) / 2
        · subst e2; omega
        · have:=h.get (i:=(lo+hi) / 2) (j:=a) (by omega) (by simpa using ha)
          simp only [Array.getElem_toList] at this
          omega
    · rw [if_neg c]
      exact ⟨lo,rfl,by omega,h4,fun a ha hl=>h5 a ha (by omega)⟩
theorem QF {xs:Array Nat} (h:Ris xs.toList) (j:Nat):below xs j<=xs.size/\(∀ a (ha:a < xs.size),a < below xs j->xs[a] < j)/\(∀ a (ha:a < xs.size),below xs j<=a->j<=xs[a]):=by
  obtain ⟨r,e,h1,h2,h3⟩:=Zic h j xs.size 0 xs.size (by omega) (by omega) (Nat.le_refl _) (fun a _ hl=>by omega) (fun a ha hl=>by omega)
  have e':below xs j=r:=e
  rw [e']; exact ⟨h1,h2,h3⟩
theorem ZbH {xs:Array Nat} (h:Ris xs.toList) {i:Nat} (hi:i < xs.size):below xs xs[i]=i:=by
  obtain ⟨h1,h2,h3⟩:=QF h xs[i]
  rcases Nat.lt_trichotomy (below xs xs[i]) i with c | c | c
  · have a:=h3 (below xs xs[i]) (by omega) (Nat.le_refl _)
    have b:=h.get (i:=below xs xs[i]) (j:=i) c (by simpa using hi)
    simp only [Array.getElem_toList] at b
    omega
  · exact c
  · have:=h2 i hi c; omega
theorem QG {t:SetTable} (h:Ris t.place.toList) {i:Nat} (hi:i < t.place.size):t.slot t.place[i]=.live i:=by
  unfold slot
  simp only [ZbH h hi]
  have:t.place[i]?=some t.place[i]:=by simp [hi]
  rw [this]; simp
theorem Zfr {t:SetTable} (h:Ris t.place.toList) (hd:t.dummies=#[]) {j:Nat} (hj:j ∉ t.place.toList):t.slot j=.empty:=by
  unfold slot
  have n1:¬ (t.place[below t.place j]?==some j)=true:=by
    intro e
    have e':t.place[below t.place j]?=some j:=by simpa using e
    obtain ⟨hl,e2⟩:=Array.getElem?_eq_some_iff.mp e'
    exact hj (by rw [<-e2]; exact Array.getElem_mem_toList hl)
  simp only [if_neg n1]
  have n2:has t.dummies j=false:=by rw [hd]; simp [has]
  rw [n2]; simp
noncomputable def adv (mask:Nat) (p:Probe):Probe:=
  if p.more > 0 then { p with j:=p.j+1,more:=p.more-1 } else
  { p with j:=(leap mask p.i p.perturb).1,more:=runEnd mask (leap mask p.i p.perturb).1-(leap mask p.i p.perturb).1,i:=(leap mask p.i p.perturb).1,perturb:=(leap mask p.i p.perturb).2 }
theorem ZeX (t:SetTable) (p:Probe):t.advance p=adv t.mask p:=rfl
noncomputable def st (mask:Nat) (h:Int):Probe:={ j:=bits h % (mask+1),more:=runEnd mask (bits h % (mask+1))-bits h % (mask+1),i:=bits h % (mask+1),perturb:=bits h,dummy:=none }
noncomputable def nth (mask:Nat) (p:Probe):Nat->Probe
  | 0=>p
  | k+1=>adv mask (nth mask p k)
theorem JZ (mask:Nat) (p:Probe) (a:Nat):∀ b,nth mask p (a+b)=nth mask (nth mask p a) b
  | 0=>rfl
  | b+1=>by show adv mask (nth mask p (a+b))=adv mask (nth mask (nth mask p a) b); rw [JZ mask p a b]
structure Run (mask:Nat) (p:Probe):Prop where
  il:p.i<=mask
  jm:p.j+p.more=runEnd mask p.i
  ij:p.i<=p.j
  dn:p.dummy=none
theorem Qm {mask i:Nat} (h:i<=mask):i<=runEnd mask i/\runEnd mask i<=mask/\runEnd mask i<=i+9:=by unfold runEnd; split <;> omega
theorem Run.adv {mask:Nat} {p:Probe} (h:Run mask p):Run mask (adv mask p):=by
  unfold SetTab.adv
  have r:=Qm h.il
  by_cases c:p.more > 0
  · rw [if_pos c]; exact ⟨h.il,by have:=h.jm; simp only; omega,by have:=h.ij; simp only; omega,h.dn⟩
  · rw [if_neg c]
    have l:(leap mask p.i p.perturb).1<=mask:=by unfold leap; have:=Nat.mod_lt (p.i*5+1+p.perturb / 32) (show 0 < mask+1 by omega); simp only; omega
    have r2:=Qm l
    exact ⟨l,by simp only; omega,Nat.le_refl _,h.dn⟩
theorem Run.nth {mask:Nat} {p:Probe} (h:Run mask p):∀ k,Run mask (nth mask p k)
  | 0=>h
  | k+1=>(Run.nth h k).adv
theorem Run.jle {mask:Nat} {p:Probe} (h:Run mask p):p.j<=mask:=by have:=Qm h.il; have:=h.jm; omega
theorem Run.st (mask:Nat) (h:Int):Run mask (st mask h):=by
  have l:bits h % (mask+1)<=mask:=by have:=Nat.mod_lt (bits h) (show 0 < mask+1 by omega); omega
  have r:=Qm l
  exact ⟨l,by show _+_=_; simp only [SetTab.st]; omega,Nat.le_refl _,rfl⟩
theorem Zdh {mask:Nat}:∀ (k:Nat) {p:Probe},Run mask p->k<=p.more->nth mask p k={ p with j:=p.j+k,more:=p.more-k }
  | 0,p,_,_=>rfl
  | k+1,p,h,hk=>by
    show SetTab.adv mask (nth mask p k)=_
    rw [Zdh k h (by omega)]
    unfold SetTab.adv
    rw [if_pos (by simp only; omega)]
    simp only [Probe.mk.injEq,and_true,true_and]
    omega
theorem Zbr {mask:Nat} {p:Probe} (h:Run mask p):nth mask p (p.more+1) =
    { p with j:=(leap mask p.i p.perturb).1,more:=runEnd mask (leap mask p.i p.perturb).1-(leap mask p.i p.perturb).1,i:=(leap mask p.i p.perturb).1,perturb:=(leap mask p.i p.perturb).2 }:=by
  show SetTab.adv mask (nth mask p p.more)=_
  rw [Zdh p.more h (Nat.le_refl _)]
  unfold SetTab.adv
  rw [if_neg (by simp)]
noncomputable def lcg (M i:Nat):Nat:=(i*5+1) % M
noncomputable def Zaw (M i:Nat):Nat->Nat
  | 0=>i
  | k+1=>lcg M (Zaw M i k)
theorem Zna {mask:Nat}:∀ (m:Nat) {p:Probe},Run mask p->p.perturb=0->∃ k,k<=10*m/\Run mask (nth mask p k)/\(nth mask p k).i=Zaw (mask+1) p.i m/\(nth mask p k).perturb=0/\(0 < m->(nth mask p k).j=(nth mask p k).i)
  | 0,p,h,e=>⟨0,by omega,h,rfl,e,by omega⟩
  | m+1,p,h,e=>by
    obtain ⟨k,hk,r,ei,ep,_⟩:=Zna m h e
    refine ⟨k+((nth mask p k).more+1),?_,Run.nth h _,?_⟩
    · have:=Qm r.il; have:=r.jm; have:=r.ij; omega
    · rw [JZ,Zbr r]
      simp only [leap,ep,ei]
      refine ⟨?_,by simp,fun _=>trivial⟩
      show (Zaw (mask+1) p.i m*5+1+0 / 32) % (mask+1)=lcg (mask+1) (Zaw (mask+1) p.i m)
      unfold lcg; simp
theorem Zm9 {mask:Nat}:∀ (m:Nat) {p:Probe},Run mask p->p.perturb < 32 ^ m->∃ k,k<=10*m/\Run mask (nth mask p k)/\(nth mask p k).perturb=0
  | 0,p,h,e=>⟨0,by omega,h,by simp at e; exact e⟩
  | m+1,p,h,e=>by
    have lp:(nth mask p (p.more+1)).perturb=p.perturb / 32:=by rw [Zbr h]; rfl
    have hr:=Run.nth h (p.more+1)
    obtain ⟨k,hk,r,ep⟩:=Zm9 m hr (by rw [lp]; exact Nat.div_lt_of_lt_mul (by rw [Nat.pow_succ] at e; omega))
    refine ⟨(p.more+1)+k,?_,by rw [JZ]; exact r,by rw [JZ]; exact ep⟩
    have:=Qm h.il; have:=h.jm; have:=h.ij; omega
noncomputable def Ze3 (mask:Nat):Prop:=∀ i,i<=mask->∀ j,j<=mask->∃ m,0 < m/\m<=mask+1/\Zaw (mask+1) i m=j
theorem ZmH {mask:Nat} (F:Ze3 mask) {p:Probe} (h:Run mask p) (hp:p.perturb < 2 ^ 64) {s:Nat} (hs:s<=mask):∃ k,k < 10*turns mask/\(nth mask p k).j=s:=by
  obtain ⟨k1,h1,r1,e1⟩:=Zm9 13 h (Nat.lt_of_lt_of_le hp (by decide))
  obtain ⟨m,m0,m1,em⟩:=F _ r1.il s hs
  obtain ⟨k2,h2,r2,ei,_,ej⟩:=Zna m r1 e1
  refine ⟨k1+k2,?_,?_⟩
  · unfold turns; omega
  · rw [JZ,ej m0,ei,em]
theorem ZgZ (h:Int):bits h < 2 ^ 64:=by
  unfold bits
  have:=Int.emod_lt_of_pos h (show (0:Int) < 2 ^ 64 by decide)
  have:=Int.emod_nonneg h (show (2 ^ 64:Int)≠0 by decide)
  omega
noncomputable def Zf2 (M:Nat):Nat->Nat->List Nat
  | 0,_=>[]
  | k+1,i=>i::Zf2 M k (lcg M i)
theorem Zci (M i:Nat):∀ k,Zaw M i (k+1)=Zaw M (lcg M i) k
  | 0=>rfl
  | k+1=>by show lcg M (Zaw M i (k+1))=lcg M (Zaw M (lcg M i) k); rw [Zci M i k]
noncomputable def Zmx (mask:Nat):Bool:=((List.range (mask+1)).all fun j=>(Zf2 (mask+1) (mask+1) 0).contains j)&&Zaw (mask+1) 0 (mask+1)==0
theorem Zcf (M:Nat):∀ (k i j:Nat),j∈Zf2 M k i->∃ m,m < k/\Zaw M i m=j
  | 0,i,j,h=>by simp [Zf2] at h
  | k+1,i,j,h=>by
    unfold Zf2 at h
    rcases List.mem_cons.mp h with e | h
    · exact ⟨0,by omega,e.symm⟩
    · obtain ⟨m,hm,e⟩:=Zcf M k _ _ h
      exact ⟨m+1,by omega,by rw [Zci]; exact e⟩
theorem Wx (M i a:Nat):∀ b,Zaw M i (a+b)=Zaw M (Zaw M i a) b
  | 0=>rfl
  | b+1=>by show lcg M (Zaw M i (a+b))=lcg M (Zaw M (Zaw M i a) b); rw [Wx M i a b]
theorem Zdo {mask:Nat} (h:Zmx mask=true):Ze3 mask:=by
  have hh:=Bool.and_eq_true_iff.mp h
  have h0:Zaw (mask+1) 0 (mask+1)=0:=by simpa using hh.2
  have get:∀ j,j<=mask->∃ m,m < mask+1/\Zaw (mask+1) 0 m=j:=fun j hj=>by
    have h2:=List.all_eq_true.mp hh.1 j (List.mem_range.mpr (by omega))
    exact Zcf _ _ _ _ (List.contains_iff_mem.mp h2)
  intro i hi j hj
  obtain ⟨a,ha,ea⟩:=get i hi
  obtain ⟨b,hb,eb⟩:=get j hj
  by_cases c:a < b
  · refine ⟨b-a,by omega,by omega,?_⟩
    rw [<-ea,<-Wx,show a+(b-a)=b by omega,eb]
  · refine ⟨mask+1-a+b,by omega,by omega,?_⟩
    rw [<-ea,<-Wx,show a+(mask+1-a+b)=(mask+1)+b by omega,Wx,h0,eb]
theorem Zlz:Ze3 7:=Zdo (by decide +kernel)
theorem ZlA:Ze3 31:=Zdo (by decide +kernel)
theorem ZjT:Ze3 127:=Zdo (by decide +kernel)
noncomputable def Reach (mask:Nat) (L:List Nat) (h:Int) (s:Nat):Prop:=∃ k,(nth mask (st mask h) k).j=s/\∀ k',k' < k->(nth mask (st mask h) k').j∈L
theorem Reach.mono {mask:Nat} {L L':List Nat} {h:Int} {s:Nat} (r:Reach mask L h s) (hs:∀ x∈L,x∈L'):Reach mask L' h s:=
  let ⟨k,e,a⟩:=r; ⟨k,e,fun k' hk=>hs _ (a k' hk)⟩
structure TI {α:Type} (t:SetTable) (es:Array (Int×α)):Prop where
  size:t.place.size=es.size
  dm:t.dummies=#[]
  ris:Ris t.place.toList
  le:∀ s∈t.place.toList,s<=t.mask
  full:Ze3 t.mask
  room:es.size<=t.mask
  odd:t.mask % 2=1
  reach:∀ i (h1:i < t.place.size) (h2:i < es.size),Reach t.mask t.place.toList es[i].1 t.place[i]
theorem Ris.nodup {xs:List Nat} (h:Ris xs):xs.Nodup:=List.Pairwise.imp (fun h=>Nat.ne_of_lt h) h
theorem ZaT {L:List Nat} {mask:Nat} (nd:L.Nodup) (hl:L.length<=mask):∃ s,s<=mask/\s ∉ L:=by
  apply Classical.byContradiction
  intro h
  have all:∀ s,s<=mask->s∈L:=fun s hs=>Classical.byContradiction fun n=>h ⟨s,hs,n⟩
  have:(List.range (mask+1)).length<=L.length:=by
    have pm:(List.range (mask+1)).Perm (L.filter fun s=>decide (s<=mask)):=(List.perm_ext_iff_of_nodup List.nodup_range (nd.sublist List.filter_sublist)).mpr fun a=>by
      rw [List.mem_range,List.mem_filter]
      exact ⟨fun h=>⟨all a (by omega),by simp; omega⟩,fun h=>by have:=h.2; simp at this; omega⟩
    rw [pm.length_eq]
    exact List.length_filter_le _ _
  rw [List.length_range] at this
  omega
theorem ZeI {L:List Nat} {mask:Nat} (F:Ze3 mask) (nd:L.Nodup) (hl:L.length<=mask) {p:Probe} (h:Run mask p) (hp:p.perturb < 2 ^ 64) :
    ∃ m,m < 10*turns mask/\(nth mask p m).j ∉ L/\∀ m',m' < m->(nth mask p m').j∈L:=by
  obtain ⟨s,hs,ns⟩:=ZaT nd hl
  obtain ⟨k,hk,e⟩:=ZmH F h hp hs
  have ex:∃ m,(nth mask p m).j ∉ L:=⟨k,by rw [e]; exact ns⟩
  have dec:∀ b:Nat,(∀ m',m' < b->(nth mask p m').j∈L)\/∃ m,m < b/\(nth mask p m).j ∉ L/\∀ m',m' < m->(nth mask p m').j∈L:=by
    intro b
    induction b with
    | zero=>left; intro m' h; omega
    | succ b ih=>
      rcases ih with ih | ⟨m,h1,h2,h3⟩
      · by_cases c:(nth mask p b).j∈L
        · left; intro m' hm
          by_cases e:m'=b
          · rw [e]; exact c
          · exact ih m' (by omega)
        · right; exact ⟨b,by omega,c,ih⟩
      · right; exact ⟨m,by omega,h2,h3⟩
  rcases dec (k+1) with h1 | ⟨m,h1,h2,h3⟩
  · have:=h1 k (by omega)
    rw [e] at this
    exact absurd this ns
  · exact ⟨m,by omega,h2,h3⟩
theorem Zhz {α:Type} {t:SetTable} {es:Array (Int×α)} (I:TI t es) (hashAt:Nat->Int) (h:Int):∀ (m:Nat) {p:Probe} {fuel:Nat},Run t.mask p->m < fuel->(nth t.mask p m).j ∉ t.place.toList->(∀ m',m' < m->(nth t.mask p m').j∈t.place.toList) ->
    (probe.go t hashAt h fuel p=some (.empty (nth t.mask p m).j none)/\∀ m',m' < m->∀ i (hi:i < t.place.size),t.place[i]=(nth t.mask p m').j->hashAt i≠h) \/
    (∃ m1 i,m1 < m/\∃ hi:i < t.place.size,t.place[i]=(nth t.mask p m1).j/\hashAt i=h/\probe.go t hashAt h fuel p=some (.candidate (nth t.mask p m1).j i (nth t.mask p (m1+1))) /\
      ∀ m',m' < m1->∀ i (hi:i < t.place.size),t.place[i]=(nth t.mask p m').j->hashAt i≠h):=by
  intro m
  induction m with
  | zero=>
    intro p fuel r hf he ha
    obtain ⟨f,rfl⟩:∃ f,fuel=f+1:=⟨fuel-1,by omega⟩
    left
    refine ⟨?_,fun m' h=>by omega⟩
    unfold probe.go
    have e:t.slot p.j=.empty:=Zfr I.ris I.dm he
    rw [e]
    show some (Met.empty p.j p.dummy)=_
    rw [r.dn]; rfl
  | succ m ih=>
    intro p fuel r hf he ha
    obtain ⟨f,rfl⟩:∃ f,fuel=f+1:=⟨fuel-1,by omega⟩
    have hl:p.j∈t.place.toList:=ha 0 (by omega)
    obtain ⟨i,hi,ei⟩:=List.mem_iff_getElem.mp hl
    have hi':i < t.place.size:=by simpa using hi
    have ei':t.place[i]=p.j:=by simpa using ei
    have es:t.slot p.j=.live i:=by rw [<-ei']; exact QG I.ris hi'
    have sh:∀ q,nth t.mask p (q+1)=nth t.mask (adv t.mask p) q:=fun q=>by rw [Nat.add_comm,JZ]; rfl
    unfold probe.go
    rw [es]
    dsimp only
    by_cases c:hashAt i=h
    · right
      refine ⟨0,i,by omega,hi',ei',c,?_,fun m' h=>by omega⟩
      rw [if_pos (by simpa using c)]; rfl
    · rw [if_neg (by simpa using c)]
      have uniq:∀ i2 (hi2:i2 < t.place.size),t.place[i2]=p.j->i2=i:=fun i2 hi2 e2=>by
        have a:=ZbH I.ris hi2; have b:=ZbH I.ris hi'
        rw [e2] at a; rw [ei'] at b; rw [<-a,b]
      rw [ZeX]
      rcases ih (p:=adv t.mask p) (fuel:=f) r.adv (by omega) (by rw [<-sh]; exact he) (fun m' hm=>by rw [<-sh]; exact ha _ (by omega)) with ⟨e,n⟩ | ⟨m1,i1,h1,hi1,e1,e2,e3,n⟩
      · left
        refine ⟨by rw [e,sh],fun m' hm i2 hi2 e2=>?_⟩
        cases m' with
        | zero=>have:=uniq i2 hi2 e2; rw [this]; exact c
        | succ m'=>exact n m' (by omega) i2 hi2 (by rw [e2,sh])
      · right
        refine ⟨m1+1,i1,by omega,hi1,by rw [e1,sh],e2,by rw [e3,sh,sh],fun m' hm i2 hi2 e2=>?_⟩
        cases m' with
        | zero=>have:=uniq i2 hi2 e2; rw [this]; exact c
        | succ m'=>exact n m' (by omega) i2 hi2 (by rw [e2,sh])
theorem toList_insertAt {α:Type} (xs:Array α) (p:Nat) (x:α):(insertAt xs p x).toList=xs.toList.take p++x::xs.toList.drop p:=by
  unfold insertAt
  simp [List.take_of_length_le]
theorem Zeu {xs:Array Nat} (h:Ris xs.toList) {j:Nat} (hj:j ∉ xs.toList):Ris (insertAt xs (below xs j) j).toList:=by
  rw [toList_insertAt]
  obtain ⟨h1,h2,h3⟩:=QF h j
  unfold Ris
  rw [List.pairwise_append]
  refine ⟨h.sublist (List.take_sublist _ _),?_,?_⟩
  · refine List.Pairwise.cons (fun b hb=>?_) (h.sublist (List.drop_sublist _ _))
    obtain ⟨i,hi,e⟩:=List.mem_iff_getElem.mp hb
    rw [List.getElem_drop] at e
    simp only [List.length_drop,Array.length_toList] at hi
    have:=h3 (below xs j+i) (by omega) (by omega)
    have ne:b≠j:=fun z=>hj (z ▸ List.mem_of_mem_drop hb)
    simp only [Array.getElem_toList] at e
    omega
  · intro a ha b hb
    obtain ⟨i,hi,e⟩:=List.mem_iff_getElem.mp ha
    rw [List.getElem_take] at e
    simp only [List.length_take,Array.length_toList] at hi
    have l1:=h2 i (by omega) (by omega)
    simp only [Array.getElem_toList] at e
    rcases List.mem_cons.mp hb with rfl | hb
    · omega
    · obtain ⟨i2,hi2,e2⟩:=List.mem_iff_getElem.mp hb
      rw [List.getElem_drop] at e2
      simp only [List.length_drop,Array.length_toList] at hi2
      have:=h3 (below xs j+i2) (by omega) (by omega)
      simp only [Array.getElem_toList] at e2
      omega
theorem ZaK {α:Type} (xs:Array α) (p:Nat) (x y:α):y∈(insertAt xs p x).toList ↔ y=x\/y∈xs.toList:=by
  rw [toList_insertAt,List.mem_append,List.mem_cons]
  constructor
  · rintro (h | h | h)
    · exact .inr (List.mem_of_mem_take h)
    · exact .inl h
    · exact .inr (List.mem_of_mem_drop h)
  · rintro (h | h)
    · exact .inr (.inl h)
    · rw [<-List.take_append_drop p xs.toList] at h
      rcases List.mem_append.mp h with h | h
      · exact .inl h
      · exact .inr (.inr h)
theorem Zc9 {α:Type} (xs:Array α) (p:Nat) (x:α):(insertAt xs p x).toList.Perm (x::xs.toList):=by
  rw [toList_insertAt]
  refine List.perm_middle.trans ?_
  rw [List.take_append_drop]
theorem QH {α:Type} (xs:Array α) (p:Nat) (x:α):(insertAt xs p x).size=xs.size+1:=by
  have:=(Zc9 xs p x).length_eq
  simpa using this
theorem ZeG {α β:Type} (xs:Array α) (ys:Array β) (hs:xs.size=ys.size) (p:Nat) (hp:p<=xs.size) (x:α) (y:β) {i:Nat} (h1:i < (insertAt xs p x).size) (h2:i < (insertAt ys p y).size) :
    ((insertAt xs p x)[i]=x/\(insertAt ys p y)[i]=y)\/∃ (k:Nat) (k1:k < xs.size) (k2:k < ys.size),(insertAt xs p x)[i]=xs[k]/\(insertAt ys p y)[i]=ys[k]:=by
  have gx:(insertAt xs p x)[i]=(xs.toList.take p++x::xs.toList.drop p)[i]'(by rw [<-toList_insertAt]; simpa using h1):=by
    rw [<-Array.getElem_toList]; congr 1; exact toList_insertAt xs p x
  have gy:(insertAt ys p y)[i]=(ys.toList.take p++y::ys.toList.drop p)[i]'(by rw [<-toList_insertAt]; simpa using h2):=by
    rw [<-Array.getElem_toList]; congr 1; exact toList_insertAt ys p y
  have lx:(xs.toList.take p).length=p:=by simp; omega
  have ly:(ys.toList.take p).length=p:=by simp; omega
  rw [gx,gy]
  rcases Nat.lt_trichotomy i p with c | c | c
  · right
    refine ⟨i,by omega,by omega,?_,?_⟩
    · rw [List.getElem_append_left (by omega)]; simp
    · rw [List.getElem_append_left (by omega)]; simp
  · left
    subst c
    constructor
    · rw [List.getElem_append_right (by omega)]; simp [lx]
    · rw [List.getElem_append_right (by omega)]; simp [ly]
  · right
    have z1:=QH xs p x
    refine ⟨i-1,by omega,by omega,?_,?_⟩
    · rw [List.getElem_append_right (by omega)]
      simp only [lx]
      obtain ⟨q,hq⟩:∃ q,i-p=q+1:=⟨i-p-1,by omega⟩
      simp only [hq,List.getElem_cons_succ,List.getElem_drop,Array.getElem_toList]
      congr 1; omega
    · rw [List.getElem_append_right (by omega)]
      simp only [ly]
      obtain ⟨q,hq⟩:∃ q,i-p=q+1:=⟨i-p-1,by omega⟩
      simp only [hq,List.getElem_cons_succ,List.getElem_drop,Array.getElem_toList]
      congr 1; omega
theorem TI.put {α:Type} {t:SetTable} {es:Array (Int×α)} (I:TI t es) {h:Int} {x:α} {m:Nat} (hf:(nth t.mask (st t.mask h) m).j ∉ t.place.toList) (ha:∀ m',m' < m->(nth t.mask (st t.mask h) m').j∈t.place.toList) (hz:es.size+1<=t.mask) :
    TI (t.put (nth t.mask (st t.mask h) m).j).1 (insertAt es (t.put (nth t.mask (st t.mask h) m).j).2 (h,x)):=by
  have hd:has t.dummies (nth t.mask (st t.mask h) m).j=false:=by rw [I.dm]; simp [has]
  have e:t.put (nth t.mask (st t.mask h) m).j=({ t with place:=insertAt t.place (below t.place (nth t.mask (st t.mask h) m).j) (nth t.mask (st t.mask h) m).j },below t.place (nth t.mask (st t.mask h) m).j):=by
    unfold SetTable.put; rw [hd]; rfl
  rw [e]
  obtain ⟨b1,_,_⟩:=QF I.ris (nth t.mask (st t.mask h) m).j
  refine ⟨?_,I.dm,Zeu I.ris hf,fun s hs=>?_,I.full,?_,I.odd,fun i h1 h2=>?_⟩
  · show (insertAt _ _ _).size=(insertAt _ _ _).size
    rw [QH,QH,I.size]
  · rcases (ZaK _ _ _ _).mp hs with rfl | hs
    · exact ((Run.st t.mask h).nth m).jle
    · exact I.le s hs
  · rw [QH]; exact hz
  · have sub:∀ y∈t.place.toList,y∈(insertAt t.place (below t.place (nth t.mask (st t.mask h) m).j) (nth t.mask (st t.mask h) m).j).toList:=fun y hy=>(ZaK _ _ _ _).mpr (.inr hy)
    rcases ZeG t.place es I.size (below t.place (nth t.mask (st t.mask h) m).j) b1 (nth t.mask (st t.mask h) m).j (h,x) h1 h2 with ⟨e1,e2⟩ | ⟨k,k1,k2,e1,e2⟩
    · show Reach t.mask _ _ _
      rw [e1,e2]
      exact ⟨m,rfl,fun m' hm=>sub _ (ha m' hm)⟩
    · show Reach t.mask _ _ _
      rw [e1,e2]
      exact (I.reach k k1 k2).mono sub
noncomputable def lp (mask:Nat) (p:Probe):Probe:=nth mask p (p.more+1)
noncomputable def rs (mask:Nat) (p:Probe):Nat->Probe
  | 0=>p
  | r+1=>lp mask (rs mask p r)
theorem ZfG (mask:Nat) (p:Probe):∀ r,rs mask p (r+1)=rs mask (lp mask p) r
  | 0=>rfl
  | r+1=>by show lp mask (rs mask p (r+1))=lp mask (rs mask (lp mask p) r); rw [ZfG mask p r]
structure RunS (mask:Nat) (p:Probe):Prop extends Run mask p where
  ji:p.j=p.i
theorem RunS.lp {mask:Nat} {p:Probe} (h:RunS mask p):RunS mask (lp mask p)/\(SetTab.lp mask p).perturb=p.perturb / 32/\(SetTab.lp mask p).i=(p.i*5+1+p.perturb / 32) % (mask+1):=by
  have e:=Zbr h.toRun
  have r:=Run.nth h.toRun (p.more+1)
  unfold SetTab.lp
  rw [e] at r ⊢
  exact ⟨⟨r,rfl⟩,rfl,rfl⟩
theorem RunS.rs {mask:Nat} {p:Probe} (h:RunS mask p):∀ r,RunS mask (rs mask p r)/\(SetTab.rs mask p r).perturb=p.perturb / 32 ^ r
  | 0=>⟨h,by simp [SetTab.rs]⟩
  | r+1=>by
    obtain ⟨h1,h2⟩:=RunS.rs h r
    obtain ⟨l1,l2,_⟩:=h1.lp
    refine ⟨l1,?_⟩
    show (SetTab.lp mask (SetTab.rs mask p r)).perturb=_
    rw [l2,h2,Nat.div_div_eq_div_mul,Nat.pow_succ]
theorem rs0 {mask:Nat} {p:Probe} (h:RunS mask p) (hp:p.perturb=0):∀ m,(rs mask p m).i=Zaw (mask+1) p.i m
  | 0=>rfl
  | m+1=>by
    obtain ⟨h1,h2⟩:=h.rs m
    obtain ⟨_,_,l3⟩:=h1.lp
    show (SetTab.lp mask (SetTab.rs mask p m)).i=_
    rw [l3,rs0 h hp m,h2,hp]
    simp [Zaw,lcg]
theorem Ziq (mask:Nat) (p:Probe) (a:Nat):∀ b,rs mask p (a+b)=rs mask (rs mask p a) b
  | 0=>rfl
  | b+1=>by show lp mask (rs mask p (a+b))=lp mask (rs mask (rs mask p a) b); rw [Ziq mask p a b]
theorem ZeR {mask:Nat} (F:Ze3 mask) {p:Probe} (h:RunS mask p) (hp:p.perturb < 2 ^ 64) {s:Nat} (hs:s<=mask):∃ r,r < turns mask/\(rs mask p r).i=s:=by
  obtain ⟨h1,h2⟩:=h.rs 13
  have z:(rs mask p 13).perturb=0:=by rw [h2]; exact Nat.div_eq_of_lt (Nat.lt_of_lt_of_le hp (by decide))
  obtain ⟨m,m0,m1,em⟩:=F _ h1.il s hs
  exact ⟨13+m,by unfold turns; omega,by rw [Ziq,rs0 h1 z,em]⟩
theorem RunS.st (mask:Nat) (h:Int):RunS mask (st mask h):=⟨Run.st mask h,rfl⟩
theorem ZgA {mask:Nat} {owner:Array (Option Nat)} {L:List Nat} (hL:∀ s,s<=mask->((owner.getD s (some 0)).isNone=true ↔ s ∉ L)) :
    ∀ (r:Nat) {p:Probe} {fuel:Nat},RunS mask p->r < fuel->(rs mask p r).i ∉ L ->
      ∃ m,layClean.free mask owner fuel p.i p.perturb=some (nth mask p m).j/\(nth mask p m).j ∉ L/\∀ m',m' < m->(nth mask p m').j∈L:=by
  intro r
  induction r with
  | zero=>
    intro p fuel h hf hn
    obtain ⟨f,rfl⟩:∃ f,fuel=f+1:=⟨fuel-1,by omega⟩
    have hn':p.i ∉ L:=hn
    unfold layClean.free
    have e:(List.range (runEnd mask p.i+1-p.i)).find? (fun k=>(owner.getD (p.i+k) (some 0)).isNone)=some 0:=by
      rw [List.find?_range_eq_some]
      have:=Qm h.il
      exact ⟨(hL _ (by have:=h.il; omega)).mpr (by simpa using hn'),List.mem_range.mpr (by omega),fun j hj=>by omega⟩
    rw [e]
    refine ⟨0,by show some (p.i+0)=some p.j; rw [h.ji]; rfl,by show p.j ∉ L; rw [h.ji]; exact hn',fun m' hm=>by omega⟩
  | succ r ih=>
    intro p fuel h hf hn
    obtain ⟨f,rfl⟩:∃ f,fuel=f+1:=⟨fuel-1,by omega⟩
    have re:=Qm h.il
    have jm:=h.jm
    have ji:=h.ji
    have inrun:∀ k,k<=p.more->(nth mask p k).j=p.i+k:=fun k hk=>by rw [Zdh k h.toRun hk,<-ji]
    unfold layClean.free
    cases e:(List.range (runEnd mask p.i+1-p.i)).find? (fun k=>(owner.getD (p.i+k) (some 0)).isNone) with
    | some k=>
      rw [List.find?_range_eq_some] at e
      obtain ⟨e1,e2,e3⟩:=e
      have hk:k<=p.more:=by have:=List.mem_range.mp e2; omega
      refine ⟨k,by show some (p.i+k)=_; rw [inrun k hk],?_,fun m' hm=>?_⟩
      · rw [inrun k hk]; exact (hL _ (by omega)).mp e1
      · rw [inrun m' (by omega)]
        have:=e3 m' hm
        apply Classical.byContradiction
        intro z
        have:=(hL (p.i+m') (by omega)).mpr z
        simp [this] at e3
        have:=e3 m' hm
        simp_all
    | none=>
      have all:∀ k,k<=p.more->p.i+k∈L:=fun k hk=>by
        rw [List.find?_eq_none] at e
        have:=e k (List.mem_range.mpr (by omega))
        apply Classical.byContradiction
        intro z
        exact this ((hL _ (by omega)).mpr z)
      obtain ⟨l1,l2,l3⟩:=h.lp
      have hl:(leap mask p.i p.perturb)=((lp mask p).i,(lp mask p).perturb):=by rw [l2,l3]; rfl
      obtain ⟨m,em,en,ea⟩:=ih (p:=lp mask p) (fuel:=f) l1 (by omega) (by rw [<-ZfG]; exact hn)
      have sh:∀ q,nth mask p (p.more+1+q)=nth mask (lp mask p) q:=fun q=>JZ mask p (p.more+1) q
      refine ⟨p.more+1+m,?_,by rw [sh]; exact en,fun m' hm=>?_⟩
      · show (match leap mask p.i p.perturb with | (i,perturb)=>layClean.free mask owner f i perturb)=_
        rw [hl]
        show layClean.free mask owner f (lp mask p).i (lp mask p).perturb=_
        rw [em,sh]
      · by_cases c:m'<=p.more
        · rw [inrun m' c]; exact all m' c
        · obtain ⟨q,rfl⟩:∃ q,m'=p.more+1+q:=⟨m'-(p.more+1),by omega⟩
          rw [sh]; exact ea q (by omega)
structure LC (mask:Nat) (hs:List Int) (owner:Array (Option Nat)) (S:List Nat):Prop where
  osz:owner.size=mask+1
  nd:S.Nodup
  le:∀ s∈S,s<=mask
  at_:∀ i (hi:i < S.length),owner[S[i]]?=some (some i)
  off:∀ s,s<=mask->s ∉ S->owner[s]?=some none
  reach:∀ i (hi:i < S.length) (hi2:i < hs.length),Reach mask S hs[i] S[i]
theorem LC.none_iff {mask:Nat} {hs:List Int} {owner:Array (Option Nat)} {S:List Nat} (I:LC mask hs owner S) (s:Nat) (h:s<=mask):((owner.getD s (some 0)).isNone=true ↔ s ∉ S):=by
  have hb:s < owner.size:=by rw [I.osz]; omega
  have e:owner.getD s (some 0)=owner[s]:=by simp [Array.getD,hb]
  rw [e]
  constructor
  · intro z hm
    obtain ⟨i,hi,ei⟩:=List.mem_iff_getElem.mp hm
    have:=I.at_ i hi
    rw [ei,Array.getElem?_eq_getElem hb] at this
    have:=Option.some.inj this
    rw [this] at z; simp at z
  · intro hn
    have:=I.off s h hn
    rw [Array.getElem?_eq_getElem hb] at this
    rw [Option.some.inj this]; rfl
theorem LC.next {mask:Nat} (F:Ze3 mask) {hs:List Int} {owner:Array (Option Nat)} {S:List Nat} (I:LC mask hs owner S) (hz:S.length < hs.length) (hr:S.length<=mask) :
    ∃ j,layClean.free mask owner (turns mask) (bits hs[S.length] % (mask+1)) (bits hs[S.length])=some j/\LC mask hs (owner.setIfInBounds j (some S.length)) (S++[j]):=by
  obtain ⟨s,h1,h2⟩:=ZaT I.nd hr
  obtain ⟨r,r1,r2⟩:=ZeR F (RunS.st mask hs[S.length]) (ZgZ _) h1
  obtain ⟨m,e,n,a⟩:=ZgA (L:=S) (I.none_iff) r (RunS.st mask hs[S.length]) r1 (by rw [r2]; exact h2)
  refine ⟨_,e,?_⟩
  have jl:(nth mask (st mask hs[S.length]) m).j<=mask:=((Run.st mask _).nth m).jle
  refine ⟨by simp [I.osz],?_,?_,?_,?_,?_⟩
  · rw [List.nodup_append]
    refine ⟨I.nd,by simp,fun x hx y hy=>?_⟩
    rw [List.mem_singleton] at hy; subst hy
    intro z; exact n (z ▸ hx)
  · intro x hx
    rcases List.mem_append.mp hx with hx | hx
    · exact I.le x hx
    · rw [List.mem_singleton] at hx; subst hx; exact jl
  · intro i hi
    by_cases c:i < S.length
    · rw [List.getElem_append_left c,Array.getElem?_setIfInBounds_ne]
      · exact I.at_ i c
      · intro z; exact n (by rw [z]; exact List.getElem_mem c)
    · have e:i=S.length:=by simp at hi; omega
      subst e
      rw [List.getElem_append_right (Nat.le_refl _)]
      simp only [Nat.sub_self,List.getElem_cons_zero]
      rw [Array.getElem?_setIfInBounds_self_of_lt (by rw [I.osz]; omega)]
  · intro s hs hn
    rw [Array.getElem?_setIfInBounds_ne]
    · exact I.off s hs (fun z=>hn (List.mem_append_left _ z))
    · intro z; exact hn (by rw [z]; simp)
  · intro i hi hi2
    by_cases c:i < S.length
    · rw [List.getElem_append_left c]
      exact (I.reach i c hi2).mono fun x hx=>List.mem_append_left _ hx
    · have e:i=S.length:=by simp at hi; omega
      subst e
      rw [List.getElem_append_right (Nat.le_refl _)]
      simp only [Nat.sub_self,List.getElem_cons_zero]
      exact ⟨m,rfl,fun m' hm=>List.mem_append_left _ (a m' hm)⟩
theorem ZhO {mask:Nat} (F:Ze3 mask) {hs:List Int} (hr:hs.length<=mask):∀ (n:Nat) {owner:Array (Option Nat)} {S:List Nat},S.length+n=hs.length->LC mask hs owner S ->
    ∃ owner' S',(hs.drop S.length).foldl (fun acc h=>do
      let (owner,k) <- acc
      let j <- layClean.free mask owner (turns mask) (bits h % (mask+1)) (bits h)
      pure (owner.setIfInBounds j (some k),k+1)) (some (owner,S.length))=some (owner',S'.length)/\S'.length=hs.length/\LC mask hs owner' S':=by
  intro n
  induction n with
  | zero=>
    intro owner S e I
    rw [List.drop_eq_nil_of_le (by omega)]
    exact ⟨owner,S,rfl,by omega,I⟩
  | succ n ih=>
    intro owner S e I
    have hl:S.length < hs.length:=by omega
    rw [List.drop_eq_getElem_cons hl,List.foldl_cons]
    obtain ⟨j,ej,I'⟩:=I.next F hl (by omega)
    have step:(do
      let (owner,k) <- some (owner,S.length)
      let j <- layClean.free mask owner (turns mask) (bits hs[S.length] % (mask+1)) (bits hs[S.length])
      pure (owner.setIfInBounds j (some k),k+1))=some (owner.setIfInBounds j (some S.length),(S++[j]).length):=by
      show (do
        let j <- layClean.free mask owner (turns mask) (bits hs[S.length] % (mask+1)) (bits hs[S.length])
        pure (owner.setIfInBounds j (some S.length),S.length+1))=_
      rw [ej]; simp
    rw [step]
    have:=ih (S:=S++[j]) (by simp; omega) I'
    have e2:(S++[j]).length=S.length+1:=by simp
    rw [e2] at this ⊢
    exact this
theorem Zdk {mask:Nat} (F:Ze3 mask) (hs:Array Int) (hr:hs.size<=mask):∃ owner S,layClean mask hs=some owner/\S.length=hs.size/\LC mask hs.toList owner S:=by
  have I0:LC mask hs.toList (Array.replicate (mask+1) none) []:=⟨by simp,List.nodup_nil,fun s h=>by simp at h,fun i h=>by simp at h,fun s h _=>by simp [Array.getElem?_replicate]; omega,fun i h=>by simp at h⟩
  obtain ⟨owner',S',e,el,I⟩:=ZhO F (hs:=hs.toList) (by simpa using hr) hs.size (S:=[]) (by simp) I0
  refine ⟨owner',S',?_,by simpa using el,I⟩
  unfold layClean
  rw [<-Array.foldl_toList]
  simp only [List.length_nil,List.drop_zero] at e
  rw [e]; rfl
theorem ZjH {α:Type} {mask finger moves:Nat} {led plain:Bool} (F:Ze3 mask) (hodd:mask % 2=1) (es:Array (Int×α)) (hr:es.size<=mask) :
    ∃ t order,laid mask finger moves led plain (es.map (·.1))=some (t,order)/\t.mask=mask/\t.led=led/\t.plain=plain/\t.moves=moves/\(order.filterMap (es[·]?)).size=es.size/\TI t (order.filterMap (es[·]?))/\(order.filterMap (es[·]?)).toList.Perm es.toList:=by
  obtain ⟨owner,S,e,el,I⟩:=Zdk F (es.map (·.1)) (by simpa using hr)
  have el':S.length=es.size:=by simpa using el
  let live:=(List.range (mask+1)).filterMap fun j=>(owner.getD j none).map (j,·)
  have hlive:∀ a b,(a,b)∈live ↔ ∃ h:b < S.length,S[b]=a:=by
    intro a b
    show (a,b)∈(List.range (mask+1)).filterMap _ ↔ _
    rw [List.mem_filterMap]
    constructor
    · rintro ⟨j,hj,ej⟩
      have hj':j<=mask:=by have:=List.mem_range.mp hj; omega
      have hb:j < owner.size:=by rw [I.osz]; omega
      have eg:owner.getD j none=owner[j]:=by simp [Array.getD,hb]
      rw [eg] at ej
      cases q:owner[j] with
      | none=>rw [q] at ej; simp at ej
      | some c=>
        rw [q] at ej
        simp only [Option.map_some,Option.some.injEq,Prod.mk.injEq] at ej
        obtain ⟨rfl,rfl⟩:=ej
        have:j∈S:=Classical.byContradiction fun n=>by
          have:=I.off j hj' n
          rw [Array.getElem?_eq_getElem hb,q] at this; simp at this
        obtain ⟨i,hi,ei⟩:=List.mem_iff_getElem.mp this
        have:=I.at_ i hi
        rw [ei,Array.getElem?_eq_getElem hb,q] at this
        have:c=i:=by simpa using this
        subst this
        exact ⟨hi,ei⟩
    · rintro ⟨h,rfl⟩
      have hl:=I.le S[b] (List.getElem_mem h)
      refine ⟨S[b],List.mem_range.mpr (by omega),?_⟩
      have hb:S[b] < owner.size:=by rw [I.osz]; omega
      have:=I.at_ b h
      rw [Array.getElem?_eq_getElem hb] at this
      have eg:owner.getD S[b] none=owner[S[b]]:=by simp [Array.getD,hb]
      rw [eg,Option.some.inj this]; rfl
  have sorted:live.Pairwise (fun a b=>a.1 < b.1):=by
    refine List.Pairwise.filterMap _ (fun a a' h b hb b' hb'=>?_) List.pairwise_lt_range
    cases q:owner.getD a none with
    | none=>rw [q] at hb; simp at hb
    | some c=>cases q':owner.getD a' none with
      | none=>rw [q'] at hb'; simp at hb'
      | some c'=>
        rw [q] at hb; rw [q'] at hb'
        simp at hb hb'
        rw [<-hb,<-hb']; exact h
  have ordp:(live.map (·.2)).Perm (List.range es.size):=by
    refine (List.perm_ext_iff_of_nodup ?_ List.nodup_range).mpr fun b=>?_
    · show (live.map (·.2)).Pairwise (·≠·)
      rw [List.pairwise_map]
      refine List.Pairwise.imp_of_mem (fun {x y} hx hy h z=>?_) sorted
      obtain ⟨h1,e1⟩:=(hlive x.1 x.2).mp hx
      obtain ⟨h2,e2⟩:=(hlive y.1 y.2).mp hy
      have:x.1=y.1:=by rw [<-e1,<-e2]; congr 1
      omega
    · rw [List.mem_map,List.mem_range]
      constructor
      · rintro ⟨⟨a,c⟩,hm,rfl⟩
        obtain ⟨h,_⟩:=(hlive a c).mp hm
        simpa [<-el'] using h
      · intro h
        exact ⟨(S[b]'(by omega),b),(hlive _ _).mpr ⟨by omega,rfl⟩,rfl⟩
  have esl:((live.map (·.2)).toArray.filterMap (es[·]?)).toList=live.filterMap fun q=>es[q.2]?:=by
    rw [Array.toList_filterMap,List.filterMap_map]; rfl
  have mapl:live.filterMap (fun q=>es[q.2]?)=live.pmap (fun q (h:q.2 < es.size)=>es[q.2]) (fun q hq=>by
      obtain ⟨h,_⟩:=(hlive q.1 q.2).mp hq; omega):=by
    have gen:∀ (l:List (Nat×Nat)) (hl:∀ q∈l,q.2 < es.size),l.filterMap (fun q=>es[q.2]?)=l.pmap (fun q (h:q.2 < es.size)=>es[q.2]) hl:=by
      intro l
      induction l with
      | nil=>intro _; rfl
      | cons q l ih=>
        intro hl
        have h0:=hl q List.mem_cons_self
        rw [List.filterMap_cons,Array.getElem?_eq_getElem h0,List.pmap_cons,ih (fun x hx=>hl x (List.mem_cons_of_mem _ hx))]
    exact gen live _
  have sz:((live.map (·.2)).toArray.filterMap (es[·]?)).size=es.size:=by
    rw [<-Array.length_toList,esl,mapl,List.length_pmap]
    have:=ordp.length_eq
    simpa using this
  refine ⟨{ mask,place:=(live.map (·.1)).toArray,dummies:=#[],finger,led,moves,plain },(live.map (·.2)).toArray,?_,rfl,rfl,rfl,rfl,sz,?_,?_⟩
  · unfold laid
    rw [e]; rfl
  · have ll:live.length=es.size:=by have:=ordp.length_eq; simpa using this
    refine ⟨by rw [sz]; simpa using ll,rfl,?_,?_,F,by rw [sz]; exact hr,hodd,?_⟩
    · show Ris (live.map (·.1))
      exact List.pairwise_map.mpr sorted
    · intro s hs
      obtain ⟨⟨a,b⟩,hm,rfl⟩:=List.mem_map.mp (show s∈live.map (·.1) from hs)
      obtain ⟨h,e2⟩:=(hlive a b).mp hm
      exact e2 ▸ I.le _ (List.getElem_mem h)
    · intro i h1 h2
      have hi:i < live.length:=by simpa using h1
      have g1:(live.map (·.1)).toArray[i]'(by simpa using hi)=live[i].1:=by simp
      obtain ⟨hb,eb⟩:=(hlive live[i].1 live[i].2).mp (List.getElem_mem hi)
      have g2:((live.map (·.2)).toArray.filterMap (es[·]?))[i]=es[live[i].2]'(by omega):=by
        rw [<-Array.getElem_toList]
        have:((live.map (·.2)).toArray.filterMap (es[·]?)).toList=live.pmap (fun q (h:q.2 < es.size)=>es[q.2]) (fun q hq=>by
          obtain ⟨h,_⟩:=(hlive q.1 q.2).mp hq; omega):=esl.trans mapl
        simp only [this,List.getElem_pmap]
      show Reach mask (live.map (·.1)) _ _
      rw [g2,g1]
      have r:=I.reach live[i].2 hb (by simp; omega)
      have e3:(es.map (·.1)).toList[live[i].2]'(by simp; omega)=(es[live[i].2]'(by omega)).1:=by simp
      rw [e3,eb] at r
      refine r.mono fun x hx=>?_
      obtain ⟨k,hk,ek⟩:=List.mem_iff_getElem.mp hx
      exact List.mem_map.mpr ⟨(x,k),(hlive x k).mpr ⟨hk,ek⟩,rfl⟩
  · rw [Array.toList_filterMap]
    refine (ordp.filterMap _).trans ?_
    have:(List.range es.size).filterMap (es[·]?)=es.toList:=by
      apply List.ext_getElem?
      intro i
      have gen:∀ (m:Nat),m<=es.size->(List.range m).filterMap (es[·]?)=es.toList.take m:=by
        intro m
        induction m with
        | zero=>intro _; simp
        | succ m ih=>
          intro h
          rw [List.range_succ,List.filterMap_append,ih (by omega),List.take_succ]
          congr 1
          simp [Array.getElem?_eq_getElem (show m < es.size by omega)]
      rw [gen es.size (Nat.le_refl _)]
      simp [List.take_of_length_le]
    rw [this]
end SetTab
namespace L3
open PySem PySem.Spec PyProof.Rows L2 SetTab PySem.SetTable
section
variable {prog:Program} {w:World} {A:Around} {E:Value->Shared->Prop} {s:Shared}
noncomputable abbrev TK (prog:Program) (w:World) (h:Heap) (ks:List Int) (a:Addr):Prop:=IsTupleKey (intKind prog w) h ks a
noncomputable abbrev kh (prog:Program) (w:World) (ks:List Int):Int:=tupleKeyHash (intKind prog w) ks
theorem ZaN {ks:List Int} {vs:List Value} (h:ItemsAre (intKind prog w) ks vs):∀ v∈vs,∃ i t,v=.int i t:=by
  induction h with
  | nil=>intro v hv; cases hv
  | @cons k v ks vs h1 _ ih=>
    intro u hu
    rcases List.mem_cons.mp hu with rfl | hu
    · obtain ⟨t,e⟩:=Value.isInt_shape (k:=k) (v:=u) h1
      exact ⟨k,t,e⟩
    · exact ih u hu
theorem ZaG {ks:List Int} {a:Addr} {Q:Bool->Shared->Prop} (hk:TK prog w s.heap ks a) (h:Q false s):wpAny (model prog w) A (ofAClassStatement 8 (.ref a)) Q E s:=by
  have hT:=hk.typeIs
  obtain ⟨o,items,n,ho,_,hd,hi⟩:=hk
  unfold ofAClassStatement
  refine wpAny_bind (wpAny_typeOf hT ?_)
  show wpAny _ _ (do let u <- (if ("tuple"=="tuple")=true then pure true else isSubtype (.type "tuple") (.type "tuple")); _) _ _ s
  refine wpAny_bind ?_
  rw [if_pos (by decide)]
  refine wpAny_pure ?_
  simp only [Bool.not_true,Bool.false_eq_true,if_false]
  refine wpAny_bind (wpAny_seqItems ho hd ?_)
  show wpAny _ _ (forIn items _ _ >>= _) _ _ s
  refine wpAny_bind ?_
  rw [<-Array.forIn_toList]
  refine wpAny_forIn_list _ (fun rest r s'=>r.1=none/\s'=s/\∀ v∈rest,∃ i t,v=Value.int i t) _ ?_ ?_ _ _ ⟨rfl,rfl,ZaN hi⟩
  · rintro v rest r s' ⟨hr,rfl,hall⟩
    obtain ⟨i,t,rfl⟩:=hall v List.mem_cons_self
    show wpAny _ _ (pure false >>= _) _ _ _
    refine wpAny_bind (wpAny_pure ?_)
    simp only [Bool.false_eq_true,if_false]
    exact wpAny_pure ⟨rfl,rfl,fun u hu=>hall u (List.mem_cons_of_mem _ hu)⟩
  · rintro ⟨r1,r2⟩ s' ⟨hr,rfl,_⟩
    simp only at hr
    subst hr
    exact wpAny_pure h
theorem Zfc {ks:List Int} {a:Addr} {Q:Bool->Shared->Prop} (hk:TK prog w s.heap ks a) (h:Q true s):wpAny (model prog w) A (hashByValue 8 (.ref a)) Q E s:=by
  have hT:=hk.typeIs
  obtain ⟨o,items,n,ho,_,hd,hi⟩:=hk
  unfold hashByValue
  refine wpAny_bind (wpAny_specialOf hT F.slot_tuple_hash.lookup ?_)
  show wpAny _ _ (seqItems? (.ref a) >>= _) _ _ s
  refine wpAny_bind (wpAny_seqItems ho hd ?_)
  show wpAny _ _ (forIn items _ _ >>= _) _ _ s
  refine wpAny_bind ?_
  rw [<-Array.forIn_toList]
  refine wpAny_forIn_list _ (fun rest r s'=>r.1=none/\s'=s/\∀ v∈rest,∃ i t,v=Value.int i t) _ ?_ ?_ _ _ ⟨rfl,rfl,ZaN hi⟩
  · rintro v rest r s' ⟨hr,rfl,hall⟩
    obtain ⟨i,t,rfl⟩:=hall v List.mem_cons_self
    show wpAny _ _ (pure true >>= _) _ _ _
    refine wpAny_bind (wpAny_pure ?_)
    simp only [Bool.not_true,Bool.false_eq_true,if_false]
    exact wpAny_pure ⟨rfl,rfl,fun u hu=>hall u (List.mem_cons_of_mem _ hu)⟩
  · rintro ⟨r1,r2⟩ s' ⟨hr,rfl,_⟩
    simp only at hr
    subst hr
    exact wpAny_pure h
theorem ZiU {ks:List Int} {a:Addr} {ys:List Value} {Q:Bool->Shared->Prop} (hk:TK prog w s.heap ks a) (hys:∀ y∈ys,∃ ks' b,y=.ref b/\TK prog w s.heap ks' b) (h:Q false s):wpAny (model prog w) A (searchCouldBeSeen (.ref a) ys) Q E s:=by
  unfold searchCouldBeSeen
  refine wpAny_bind ?_
  refine wpAny_forIn_list _ (fun rest r s'=>r.1=none/\s'=s/\∀ y∈rest,∃ ks' b,y=Value.ref b/\TK prog w s.heap ks' b) _ ?_ ?_ _ _ ⟨rfl,rfl,hys⟩
  · rintro v rest r s' ⟨hr,rfl,hall⟩
    obtain ⟨ks',b,rfl,hb⟩:=hall v List.mem_cons_self
    have hall':=fun u hu=>hall u (List.mem_cons_of_mem _ hu)
    show wpAny _ _ (if ((a==b)||(carriedByValue (.ref a)&&carriedByValue (.ref b)))=true then _ else _) _ _ _
    by_cases c:((a==b)||(carriedByValue (.ref a)&&carriedByValue (.ref b)))=true
    · rw [if_pos c]
      exact wpAny_pure ⟨rfl,rfl,hall'⟩
    · rw [if_neg c]
      refine wpAny_bind (wpAny_eqIsQuiet_tuple hk ?_)
      simp only [Bool.not_true,Bool.false_eq_true,if_false]
      refine wpAny_bind (wpAny_eqIsQuiet_tuple hb ?_)
      simp only [Bool.not_true,Bool.false_eq_true,if_false]
      refine wpAny_bind (ZaG hk ?_)
      simp only [Bool.false_eq_true,if_false]
      refine wpAny_bind (ZaG hb ?_)
      simp only [Bool.false_eq_true,if_false]
      exact wpAny_pure ⟨rfl,rfl,hall'⟩
  · rintro ⟨r1,r2⟩ s' ⟨hr,rfl,_⟩
    simp only at hr
    subst hr
    exact wpAny_pure h
end
structure TSet (prog:Program) (w:World) (h:Heap) (a:Addr) (o:Obj) (es:Array (Int×Value)) (ep:Nat) (t:SetTable) (keys:List (List Int)):Prop where
  ho:h.get? a=some o
  hd:o.data=.set es ep t
  ti:TI t es
  size:keys.length=es.size
  key:∀ (i:Nat) k,keys[i]?=some k->∃ b,es[i]?=some (kh prog w k,.ref b)/\TK prog w h k b
section
variable {prog:Program} {w:World} {A:Around} {E:Value->Shared->Prop} {s:Shared} {a:Addr} {o:Obj} {es:Array (Int×Value)} {ep:Nat} {t:SetTable} {keys:List (List Int)}
theorem TSet.fits (T:TSet prog w s.heap a o es ep t keys):t.fits es.size=true:=by
  have h1:=T.ti.size; have h2:=T.ti.dm; have h3:=T.ti.room
  simp [SetTable.fits,SetTable.fill,h1,h2,h3]
theorem TSet.get (T:TSet prog w s.heap a o es ep t keys) {i:Nat} (hi:i < es.size):∃ k b,keys[i]?=some k/\es[i]?=some (kh prog w k,.ref b)/\TK prog w s.heap k b:=by
  have hi':i < keys.length:=by rw [T.size]; exact hi
  obtain ⟨b,h1,h2⟩:=T.key i keys[i] (by simp [hi'])
  exact ⟨_,b,by simp [hi'],h1,h2⟩
theorem Zfb (T:TSet prog w s.heap a o es ep t keys) {k:List Int} {b:Addr} (hu:A.units < cLine) (hk:TK prog w s.heap k b) {m:Nat} (hm:m < 10*turns t.mask)
    (hf:(nth t.mask (st t.mask (kh prog w k)) m).j ∉ t.place.toList) (ha:∀ m',m' < m->(nth t.mask (st t.mask (kh prog w k)) m').j∈t.place.toList) {Q:SetFound->Shared->Prop}
    (q1:k∈keys->Q (.there none) s) (q2:k ∉ keys->Q (.free (nth t.mask (st t.mask (kh prog w k)) m).j false) s) :
    ∀ (d m0 fuel:Nat) (stand:Option Probe),m0+d=m->d < fuel->stand.getD (t.probeStart (kh prog w k))=nth t.mask (st t.mask (kh prog w k)) m0 ->
      (∀ m',m' < m0->∀ i (hi:i < t.place.size),t.place[i]=(nth t.mask (st t.mask (kh prog w k)) m').j->keys[i]?≠some k) ->
      wpAny (model prog w) A (setSearchFrom a (.ref b) (kh prog w k) true fuel stand) Q E s:=by
  have I:=T.ti
  intro d
  induction d using Nat.strongRecOn with
  | ind d ih=>
    intro m0 fuel stand hd hfu hst hno
    cases fuel with
    | zero=>omega
    | succ fuel=>
      unfold setSearchFrom
      refine wpAny_bind (wpAny_setState_of T.ho T.hd T.fits ?_)
      dsimp only
      have hg:t.gaveWay=false:=by simp [SetTable.gaveWay,I.odd]
      rw [if_neg (by rw [hg]; decide),hst]
      have run:=(Run.st t.mask (kh prog w k)).nth m0
      have hadd:∀ x,nth t.mask (nth t.mask (st t.mask (kh prog w k)) m0) x=nth t.mask (st t.mask (kh prog w k)) (m0+x):=fun x=>(JZ t.mask _ m0 x).symm
      have pg:=Zhz I (fun i=>(es[i]?.map (·.1)).getD 0) (kh prog w k) d (fuel:=10*turns t.mask) run (by omega) (by rw [hadd,hd]; exact hf) (fun m' hm'=>by rw [hadd]; exact ha _ (by omega))
      rcases pg with ⟨e,hn⟩ | ⟨m1,i,hm1,hi,epl,ehash,e,hn⟩
      · have e':t.probe (fun i=>(es[i]?.map (·.1)).getD 0) (kh prog w k) (nth t.mask (st t.mask (kh prog w k)) m0)=some (.empty (nth t.mask (st t.mask (kh prog w k)) m).j none):=by
          rw [hadd,hd] at e; exact e
        generalize hp:t.probe _ (kh prog w k) (nth t.mask (st t.mask (kh prog w k)) m0)=r
        have hr:=hp.symm.trans e'
        subst hr
        dsimp only
        refine wpAny_pure (q2 fun hmem=>?_)
        obtain ⟨i,hi,ei⟩:=List.mem_iff_getElem.mp hmem
        have hie:i < es.size:=by rw [<-T.size]; exact hi
        have hip:i < t.place.size:=by rw [I.size]; exact hie
        obtain ⟨b',h1,h2⟩:=T.key i k (by rw [<-ei]; simp [hi])
        have h1':es[i]=(kh prog w k,.ref b'):=by
          have:=Array.getElem?_eq_getElem hie
          rw [h1] at this; exact (Option.some.inj this).symm
        obtain ⟨k0,r1,r2⟩:=I.reach i hip hie
        rw [h1'] at r1 r2
        have hk0:k0 < m:=by
          rcases Nat.lt_trichotomy k0 m with z | z | z
          · exact z
          · subst z; exact absurd (by rw [r1]; simp) hf
          · exact absurd (r2 m z) hf
        by_cases c:k0 < m0
        · exact hno k0 c i hip r1.symm (by rw [<-ei]; simp [hi])
        · refine hn (k0-m0) (by omega) i hip ?_ ?_
          · rw [hadd,show m0+(k0-m0)=k0 by omega]; exact r1.symm
          · simp [h1]
      · have e':t.probe (fun i=>(es[i]?.map (·.1)).getD 0) (kh prog w k) (nth t.mask (st t.mask (kh prog w k)) m0)=some (.candidate (nth t.mask (st t.mask (kh prog w k)) (m0+m1)).j i (nth t.mask (st t.mask (kh prog w k)) (m0+m1+1))):=by
          rw [hadd,hadd,<-Nat.add_assoc] at e; exact e
        generalize hp:t.probe _ (kh prog w k) (nth t.mask (st t.mask (kh prog w k)) m0)=r
        have hr:=hp.symm.trans e'
        subst hr
        dsimp only
        have hie:i < es.size:=by rw [<-I.size]; exact hi
        obtain ⟨k',c,g1,g2,g3⟩:=T.get hie
        have seen:t.led=false->∀ y∈((es.filter (·.1==kh prog w k)).toList.map (·.2)),∃ ks' b,y=Value.ref b/\TK prog w s.heap ks' b:=fun _ y hy=>by
          obtain ⟨p,hp,rfl⟩:=List.mem_map.mp hy
          have hp':p∈es:=by simp at hp; exact hp.1
          obtain ⟨j,hj,ej⟩:=Array.mem_iff_getElem.mp hp'
          obtain ⟨k2,c2,g1',g2',g3'⟩:=T.get hj
          have:p=(kh prog w k2,.ref c2):=by
            rw [<-ej]
            have:=Array.getElem?_eq_getElem hj
            rw [g2'] at this; exact (Option.some.inj this).symm
          subst this
          exact ⟨k2,c2,rfl,g3'⟩
        cases hl:t.led
        case false=>
          simp only [Bool.not_false,if_true]
          refine wpAny_bind (ZiU hk (seen hl) ?_)
          simp only [Bool.false_eq_true,if_false]
          rw [g2]
          dsimp only
          refine wpAny_bind (wpAny_holding (wpAny_eqBool_tuple hu g3 hk ?_))
          refine wpAny_bind (wpAny_setState_of T.ho T.hd T.fits ?_)
          dsimp only
          by_cases ek:k'=k
          · subst ek
            rw [decide_eq_true rfl,if_pos (by decide)]
            exact wpAny_pure (q1 (List.mem_of_getElem? g1))
          · rw [decide_eq_false ek,if_neg (by decide)]
            have sm:t.sameMemory t.moves t.mask=some true:=by simp [SetTable.sameMemory]
            rw [sm]
            dsimp only
            have sl:t.slot (nth t.mask (st t.mask (kh prog w k)) (m0+m1)).j=.live i:=by
              have:=QG I.ris hi
              rw [epl,hadd] at this
              exact this
            rw [if_pos rfl,sl]
            dsimp only
            rw [g2]
            dsimp only
            refine wpAny_bind (wpAny_isSame_ref_self (wpAny_bind (wpAny_pure ?_)))
            rw [if_pos rfl]
            dsimp only
            rw [if_neg (by decide)]
            refine ih (d-m1-1) (by omega) (m0+m1+1) fuel _ (by omega) (by omega) rfl fun m' hm' i' hi' ep'=>?_
            by_cases c1:m' < m0
            · exact hno m' c1 i' hi' ep'
            · by_cases c2:m'=m0+m1
              · subst c2
                have:i'=i:=by
                  have e1:t.place[i']=t.place[i]:=by rw [ep',epl,hadd]
                  have l1:=QG I.ris hi'
                  have l2:=QG I.ris hi
                  rw [e1,l2] at l1
                  injection l1 with l1; exact l1.symm
                subst this
                rw [g1]
                exact fun z=>ek (Option.some.inj z)
              · intro z
                have hie':i' < es.size:=by rw [<-I.size]; exact hi'
                obtain ⟨b',z1,z2⟩:=T.key i' k z
                refine hn (m'-m0) (by omega) i' hi' ?_ ?_
                · rw [hadd,show m0+(m'-m0)=m' by omega]; exact ep'
                · simp [z1]
        case true=>
          simp only [Bool.not_true,Bool.false_eq_true,if_false]
          rw [g2]
          dsimp only
          refine wpAny_bind (wpAny_holding (wpAny_eqBool_tuple hu g3 hk ?_))
          refine wpAny_bind (wpAny_setState_of T.ho T.hd T.fits ?_)
          dsimp only
          by_cases ek:k'=k
          · subst ek
            rw [decide_eq_true rfl,if_pos (by decide)]
            exact wpAny_pure (q1 (List.mem_of_getElem? g1))
          · rw [decide_eq_false ek,if_neg (by decide)]
            have sm:t.sameMemory t.moves t.mask=some true:=by simp [SetTable.sameMemory]
            rw [sm]
            dsimp only
            have sl:t.slot (nth t.mask (st t.mask (kh prog w k)) (m0+m1)).j=.live i:=by
              have:=QG I.ris hi
              rw [epl,hadd] at this
              exact this
            rw [if_pos rfl,sl]
            dsimp only
            rw [g2]
            dsimp only
            refine wpAny_bind (wpAny_isSame_ref_self (wpAny_bind (wpAny_pure ?_)))
            rw [if_pos rfl]
            dsimp only
            rw [if_neg (by decide)]
            refine ih (d-m1-1) (by omega) (m0+m1+1) fuel _ (by omega) (by omega) rfl fun m' hm' i' hi' ep'=>?_
            by_cases c1:m' < m0
            · exact hno m' c1 i' hi' ep'
            · by_cases c2:m'=m0+m1
              · subst c2
                have:i'=i:=by
                  have e1:t.place[i']=t.place[i]:=by rw [ep',epl,hadd]
                  have l1:=QG I.ris hi'
                  have l2:=QG I.ris hi
                  rw [e1,l2] at l1
                  injection l1 with l1; exact l1.symm
                subst this
                rw [g1]
                exact fun z=>ek (Option.some.inj z)
              · intro z
                have hie':i' < es.size:=by rw [<-I.size]; exact hi'
                obtain ⟨b',z1,z2⟩:=T.key i' k z
                refine hn (m'-m0) (by omega) i' hi' ?_ ?_
                · rw [hadd,show m0+(m'-m0)=m' by omega]; exact ep'
                · simp [z1]
end
noncomputable def Al (prog:Program) (w:World) (h:Heap):List (List Int)->List (Int×Value)->Prop
  | [],l=>l=[]
  | k::ks,l=>∃ b r,l=(kh prog w k,.ref b)::r/\TK prog w h k b/\Al prog w h ks r
section
variable {prog:Program} {w:World} {h h':Heap}
theorem Al.length:∀ {ks:List (List Int)} {l:List (Int×Value)},Al prog w h ks l->ks.length=l.length
  | [],l,a=>by unfold Al at a; subst a; rfl
  | k::ks,l,a=>by unfold Al at a; obtain ⟨b,r,rfl,_,a⟩:=a; simp [a.length]
theorem Al.get:∀ {ks:List (List Int)} {l:List (Int×Value)} {i:Nat} {k:List Int},Al prog w h ks l->ks[i]?=some k->∃ b,l[i]?=some (kh prog w k,.ref b)/\TK prog w h k b
  | [],l,i,k,a,e=>by simp at e
  | k0::ks,l,i,k,a,e=>by
    unfold Al at a
    obtain ⟨b,r,rfl,t,a⟩:=a
    cases i with
    | zero=>simp at e; subst e; exact ⟨b,rfl,t⟩
    | succ i=>obtain ⟨b',e1,e2⟩:=Al.get (i:=i) a (by simpa using e); exact ⟨b',by simpa using e1,e2⟩
theorem Al.keep (kp:∀ k b,TK prog w h k b->TK prog w h' k b):∀ {ks:List (List Int)} {l:List (Int×Value)},Al prog w h ks l->Al prog w h' ks l
  | [],l,a=>a
  | k::ks,l,a=>by
    unfold Al at a ⊢
    obtain ⟨b,r,e,t,a⟩:=a
    exact ⟨b,r,e,kp _ _ t,a.keep kp⟩
theorem Al.append:∀ {ks ks':List (List Int)} {l l':List (Int×Value)},Al prog w h ks l->Al prog w h ks' l'->Al prog w h (ks++ks') (l++l')
  | [],ks',l,l',a,a'=>by unfold Al at a; subst a; exact a'
  | k::ks,ks',l,l',a,a'=>by
    unfold Al at a
    obtain ⟨b,r,rfl,t,a⟩:=a
    show Al prog w h (k::(ks++ks')) _
    unfold Al
    exact ⟨b,r++l',rfl,t,a.append a'⟩
theorem Al.take:∀ {ks:List (List Int)} {l:List (Int×Value)} (n:Nat),Al prog w h ks l->Al prog w h (ks.take n) (l.take n)
  | _,_,0,_=>by simp [Al]
  | [],l,n+1,a=>by unfold Al at a; subst a; simp [Al]
  | k::ks,l,n+1,a=>by
    unfold Al at a
    obtain ⟨b,r,rfl,t,a⟩:=a
    simp only [List.take_succ_cons]
    unfold Al
    exact ⟨b,_,rfl,t,a.take n⟩
theorem Al.drop:∀ {ks:List (List Int)} {l:List (Int×Value)} (n:Nat),Al prog w h ks l->Al prog w h (ks.drop n) (l.drop n)
  | _,_,0,a=>a
  | [],l,n+1,a=>by unfold Al at a; subst a; simp [Al]
  | k::ks,l,n+1,a=>by
    unfold Al at a
    obtain ⟨b,r,rfl,t,a⟩:=a
    exact a.drop n
theorem Al.one {k:List Int} {b:Addr} (t:TK prog w h k b):Al prog w h [k] [(kh prog w k,.ref b)]:=by unfold Al; exact ⟨b,[],rfl,t,by simp [Al]⟩
theorem Al.perm {l l':List (Int×Value)} (p:l'.Perm l):∀ {ks:List (List Int)},Al prog w h ks l->∃ ks',Al prog w h ks' l'/\ks'.Perm ks:=by
  have gen:∀ {l l':List (Int×Value)},l.Perm l'->∀ {ks:List (List Int)},Al prog w h ks l->∃ ks',Al prog w h ks' l'/\ks'.Perm ks:=by
    intro l l' p
    induction p with
    | nil=>intro ks a; exact ⟨ks,a,.refl _⟩
    | cons x p ih=>
      intro ks a
      cases ks with
      | nil=>unfold Al at a; cases a
      | cons k ks=>
        unfold Al at a
        obtain ⟨b,r,e,t,a⟩:=a
        injection e with e1 e2
        subst e1 e2
        obtain ⟨ks',a',p'⟩:=ih a
        exact ⟨k::ks',by unfold Al; exact ⟨b,_,rfl,t,a'⟩,p'.cons k⟩
    | swap x y l=>
      intro ks a
      cases ks with
      | nil=>unfold Al at a; cases a
      | cons k ks=>
        unfold Al at a
        obtain ⟨b,r,e,t,a⟩:=a
        injection e with e1 e2
        subst e1 e2
        cases ks with
        | nil=>unfold Al at a; cases a
        | cons k2 ks=>
          unfold Al at a
          obtain ⟨b2,r2,e,t2,a⟩:=a
          injection e with e1 e2
          subst e1 e2
          refine ⟨k2::k::ks,?_,.swap _ _ _⟩
          unfold Al
          refine ⟨b2,_,rfl,t2,?_⟩
          unfold Al
          exact ⟨b,_,rfl,t,a⟩
    | trans p1 p2 ih1 ih2=>
      intro ks a
      obtain ⟨ks1,a1,q1⟩:=ih1 a
      obtain ⟨ks2,a2,q2⟩:=ih2 a1
      exact ⟨ks2,a2,q2.trans q1⟩
  exact fun {ks} a=>gen p.symm a
end
noncomputable def SetI (G:Addr->Prop) (prog:Program) (w:World) (h:Heap) (a:Addr) (keys:List (List Int)):Prop:=∃ o es ep t,h.get? a=some o/\o.ExactSet/\o.data=.set es ep t/\TI t es/\Al prog w h keys es.toList/\keys.Nodup /\
  (t.mask=7\/t.mask=31\/t.mask=127)/\es.size*5 < t.mask*3/\t.plain=true/\t.led=(!w.params.followText "set-order")/\∀ p∈es.toList,∃ b,p.2=Value.ref b/\G b
theorem Zgz {m:Nat} (h:m=7\/m=31\/m=127):Ze3 m:=by
  rcases h with rfl | rfl | rfl
  · exact Zlz
  · exact ZlA
  · exact ZjT
theorem TK.keep {prog:Program} {w:World} {h h':Heap} {a:Addr} {o:Obj} {es ep t} (ho:h.get? a=some o) (hd:o.data=.set es ep t) (sb:Heap.SameBut a h h') {k:List Int} {b:Addr} (hk:TK prog w h k b):TK prog w h' k b:=by
  obtain ⟨ob,items,n,hb,hc,hdb,hi⟩:=hk
  have ne:b≠a:=by
    rintro rfl
    rw [ho] at hb; cases hb
    rw [hd] at hdb; cases hdb
  exact ⟨ob,items,n,(sb.2 b ne).trans hb,hc,hdb,hi⟩
noncomputable def ZkB (es:Array (Int×Value)) (l:Option (SetTable×Array Nat)):Sem (Array (Int×Value)×SetTable):=do
  let some (t,order):=l | unsupported "internal:set-table-without-room"
  let out:=order.filterMap (es[·]?)
  if out.size != es.size then unsupported "internal:set-table-lost-an-element"
  pure (out,t)
section
variable {prog:Program} {w:World} {A:Around} {E:Value->Shared->Prop} {s:Shared} {a:Addr} {keys:List (List Int)}
theorem ZbV {h:Heap} {o:Obj} {es es':Array (Int×Value)} {ep:Nat} {t t':SetTable} (ho:h.get? a=some o) (hd:o.data=.set es ep t):(h.update a (Obj.putSet es' t')).get? a=some { o with data:=.set es' (ep+1) t' }:=by
  have:=Heap.get?_update_self (Obj.putSet es' t') ho (by rw [putSet_of es' t' hd]; rfl)
  rw [putSet_of es' t' hd] at this; exact this
theorem Zfa {G:Addr->Prop} (S:SetI G prog w s.heap a keys) {k:List Int} {b:Addr} (hG:G b) (hu:A.units < cLine) (hk:TK prog w s.heap k b) (hz:keys.length < 70) {Q:Bool->Shared->Prop}
    (q:∀ r h' tk keys',Heap.SameBut a s.heap h'->SetI G prog w h' a keys'->(∀ x,x∈keys' ↔ x∈keys\/x=k)->keys'.length<=keys.length+1->Q r { s with heap:=h',toks:=tk }):wpAny (model prog w) A (setAdd a (.ref b)) Q E s:=by
  unfold setAdd
  refine wpAny_holding (wpAny_bind (wpAny_pyHash_tuple hu hk ?_))
  generalize s.toks+(k.length+1)=tk0
  obtain ⟨o,es,ep,t,ho,hc,hd,I,al,nd,hm,hf,hpl0,hld0,hgs⟩:=id S
  have hal:keys.length=es.size:=al.length
  have T:TSet prog w ({ s with toks:=tk0 }:Shared).heap a o es ep t keys:=⟨ho,hd,I,hal,fun i k' e=>by
    obtain ⟨b',e1,e2⟩:=al.get e
    exact ⟨b',by rw [Array.getElem?_toList] at e1; exact e1,e2⟩⟩
  unfold setAddHashed setAddHashedIn
  refine wpAny_holding (wpAny_bind (wpAny_setState_of T.ho T.hd T.fits ?_))
  dsimp only
  have bs:byScan (.ref b) es=false:=by simp [byScan,Value.scannable]
  rw [bs,if_neg (by decide)]
  obtain ⟨m,m1,m2,m3⟩:=ZeI I.full I.ris.nodup (by have:=I.size; have:=I.room; simp; omega) (Run.st t.mask (kh prog w k)) (ZgZ _)
  have hmask:t.mask<=127:=by rcases hm with h | h | h <;> omega
  refine wpAny_bind ?_
  unfold setSearch
  refine Zfb T hu hk m1 m2 m3 (fun hin=>?_) (fun hout=>?_) m 0 100000 none (by omega) (by unfold turns at m1; omega) rfl (fun m' hm'=>absurd hm' (Nat.not_lt_zero _))
  · dsimp only
    exact wpAny_pure (q false s.heap tk0 keys (Heap.SameBut.refl a s.heap) S (fun x=>⟨.inl,fun z=>z.elim id fun e=>e ▸ hin⟩) (by omega))
  · dsimp only
    refine wpAny_bind (wpAny_setState_of T.ho T.hd T.fits ?_)
    dsimp only
    have hroom:es.size+1<=t.mask:=by rcases hm with h | h | h <;> omega
    have P:=I.put (x:=Value.ref b) m2 m3 hroom
    have hpm:(t.put (nth t.mask (st t.mask (kh prog w k)) m).j).1.mask=t.mask:=rfl
    have hpp:(t.put (nth t.mask (st t.mask (kh prog w k)) m).j).1.plain=t.plain:=rfl
    have hpq:(t.put (nth t.mask (st t.mask (kh prog w k)) m).j).1.led=t.led:=rfl
    generalize t.put (nth t.mask (st t.mask (kh prog w k)) m).j=tp at P hpm hpp hpq
    obtain ⟨t1,p⟩:=tp
    dsimp only at P hpm hpp hpq ⊢
    rw [hpl0] at hpp
    rw [hld0] at hpq
    have hgi:∀ q∈(SetTable.insertAt es p (kh prog w k,Value.ref b)).toList,∃ b,q.2=Value.ref b/\G b:=fun q hq=>by
      rw [SetTab.toList_insertAt] at hq
      rcases List.mem_append.mp hq with z | z
      · exact hgs q (List.mem_of_mem_take z)
      · rcases List.mem_cons.mp z with y | y
        · exact ⟨b,by rw [y],hG⟩
        · exact hgs q (List.mem_of_mem_drop y)
    have cont:wpAny (model prog w) A (do
        storeSet a (SetTable.insertAt es p (kh prog w k,.ref b)) t1
        if (!false&&t1.tooFull)=true then do
          setRelay a (SetTable.grown (es.size+1))
          pure true
        else pure true) Q E ({ s with toks:=tk0 }:Shared):=by
      have hsz:(SetTable.insertAt es p (kh prog w k,Value.ref b)).size=es.size+1:=QH _ _ _
      have hsl:(sizeLine:Nat)=16777216:=sizeLine_eq
      refine wpAny_bind (wpAny_storeSet_of T.ho T.hd ?_ (by rw [hsz]; omega))
      have sb1:Heap.SameBut a s.heap (s.heap.update a (Obj.putSet (SetTable.insertAt es p (kh prog w k,.ref b)) t1)):=Heap.SameBut.update s.heap a _
      have g1:(s.heap.update a (Obj.putSet (SetTable.insertAt es p (kh prog w k,.ref b)) t1)).get? a=some { o with data:=.set (SetTable.insertAt es p (kh prog w k,.ref b)) (ep+1) t1 }:=ZbV ho hd
      have kp1:∀ k b,TK prog w s.heap k b->TK prog w (s.heap.update a (Obj.putSet (SetTable.insertAt es p (kh prog w k,.ref b)) t1)) k b:=fun k' b' hk'=>by
        obtain ⟨ob,items,n,hb,hcb,hdb,hi⟩:=hk'
        have ne:b'≠a:=by
          rintro rfl
          rw [ho] at hb; cases hb
          rw [hd] at hdb; cases hdb
        exact ⟨ob,items,n,((Heap.SameBut.update s.heap a _).2 b' ne).trans hb,hcb,hdb,hi⟩
      have kp:∀ k' b',TK prog w s.heap k' b'->TK prog w (s.heap.update a (Obj.putSet (SetTable.insertAt es p (kh prog w k,.ref b)) t1)) k' b':=fun k' b' hk'=>TK.keep ho hd sb1 hk'
      have al1:Al prog w (s.heap.update a (Obj.putSet (SetTable.insertAt es p (kh prog w k,.ref b)) t1)) (keys.take p++k::keys.drop p) (SetTable.insertAt es p (kh prog w k,Value.ref b)).toList:=by
        rw [SetTab.toList_insertAt]
        exact ((al.take p).append ((Al.one hk).append (al.drop p))).keep kp
      have pm:(keys.take p++k::keys.drop p).Perm (k::keys):=by
        have:=(List.perm_middle (a:=k) (l₁:=keys.take p) (l₂:=keys.drop p))
        rw [List.take_append_drop] at this
        exact this
      have nd1:(keys.take p++k::keys.drop p).Nodup:=pm.nodup_iff.mpr (List.nodup_cons.mpr ⟨hout,nd⟩)
      have mem1:∀ x,x∈keys.take p++k::keys.drop p ↔ x∈keys\/x=k:=fun x=>by rw [pm.mem_iff,List.mem_cons]; exact or_comm
      have len1:(keys.take p++k::keys.drop p).length<=keys.length+1:=by rw [pm.length_eq]; simp
      have hm1:t1.mask=7\/t1.mask=31\/t1.mask=127:=by rw [hpm]; exact hm
      have hfill:t1.fill=es.size+1:=by
        have h1:=P.size; have h2:=P.dm
        simp [SetTable.fill,h2,h1,hsz]
      by_cases tf:t1.tooFull=true
      · rw [tf,if_pos (by decide)]
        have tf':(es.size+1)*5>=t.mask*3:=by
          simp only [SetTable.tooFull,hfill,hpm] at tf
          simpa using tf
        refine wpAny_bind ?_
        unfold setRelay
        have T1:TSet prog w (s.heap.update a (Obj.putSet (SetTable.insertAt es p (kh prog w k,.ref b)) t1)) a _ (SetTable.insertAt es p (kh prog w k,.ref b)) (ep+1) t1 (keys.take p++k::keys.drop p):=⟨g1,rfl,P,by rw [al1.length,Array.length_toList],fun i k' e=>by
          obtain ⟨b',e1,e2⟩:=al1.get e
          exact ⟨b',by rw [Array.getElem?_toList] at e1; exact e1,e2⟩⟩
        refine wpAny_bind (wpAny_setState_of g1 rfl (T1.fits (s:={ s with heap:=_ })) ?_)
        dsimp only
        have big:∃ M,SetTable.sizeAbove (SetTable.grown (es.size+1))=M+1/\(M=7\/M=31\/M=127)/\(es.size+1)*5 < M*3:=by
          have e5:es.size=4/\t.mask=7\/es.size=18/\t.mask=31:=by
            have h70:es.size < 70:=by omega
            rcases hm with h | h | h
            · rw [h] at hf tf'; omega
            · rw [h] at hf tf'; omega
            · rw [h] at hf tf'; omega
          rcases e5 with ⟨e5,_⟩ | ⟨e5,_⟩
          · rw [e5]; exact ⟨31,by decide,by decide,by decide⟩
          · rw [e5]; exact ⟨127,by decide,by decide,by decide⟩
        obtain ⟨M,eM,hM,hMf⟩:=big
        rw [eM,if_neg (by omega)]
        obtain ⟨t2,order,el,l1,l2,l3,l4,l5,l6,l7⟩:=ZjH (finger:=t1.finger) (moves:=t1.movedTo M) (led:=t1.led) (plain:=t1.plain) (Zgz hM) (by rcases hM with h | h | h <;> omega) (SetTable.insertAt es p (kh prog w k,Value.ref b)) (by rw [hsz]; omega)
        have er:t1.relaid ((SetTable.insertAt es p (kh prog w k,Value.ref b)).map (·.1)) (SetTable.grown (es.size+1))=some (t2,order):=by
          unfold SetTable.relaid
          rw [eM]
          exact el
        rw [er]
        show wpAny _ _ (ZkB (SetTable.insertAt es p (kh prog w k,Value.ref b)) (some (t2,order)) >>= _) _ _ _
        unfold ZkB
        dsimp only
        rw [l5,if_neg (by simp)]
        refine wpAny_bind (wpAny_pure ?_)
        dsimp only
        refine wpAny_storeSet_of (s:={ s with heap:=_,toks:=tk0 }) g1 rfl ?_ (by rw [l5,hsz]; omega)
        have sb2:=Heap.SameBut.update (s.heap.update a (Obj.putSet (SetTable.insertAt es p (kh prog w k,.ref b)) t1)) a (Obj.putSet (order.filterMap ((SetTable.insertAt es p (kh prog w k,Value.ref b))[·]?)) t2)
        have g2:(Heap.update (s.heap.update a (Obj.putSet (SetTable.insertAt es p (kh prog w k,.ref b)) t1)) a (Obj.putSet (order.filterMap ((SetTable.insertAt es p (kh prog w k,Value.ref b))[·]?)) t2)).get? a=some { o with data:=.set _ (ep+1+1) t2 }:=ZbV (o:={ o with data:=.set (SetTable.insertAt es p (kh prog w k,Value.ref b)) (ep+1) t1 }) g1 rfl
        obtain ⟨keys2,al2,pm2⟩:=Al.perm l7 al1
        refine wpAny_pure (q true _ tk0 keys2 (sb1.trans sb2) ⟨_,_,_,t2,g2,hc,rfl,l6,al2.keep fun k' b' hk'=>TK.keep g1 rfl sb2 hk',pm2.nodup_iff.mpr nd1,by rw [l1]; exact hM,by rw [l1,l5,hsz]; exact hMf,by rw [l3]; exact hpp,by rw [l2]; exact hpq,fun q hq=>hgi q (l7.mem_iff.mp hq)⟩ (fun x=>by rw [pm2.mem_iff]; exact mem1 x) (by rw [pm2.length_eq]; exact len1))
      · have tf0:t1.tooFull=false:=by simpa using tf
        rw [tf0,if_neg (by decide)]
        have tf':(es.size+1)*5 < t1.mask*3:=by
          simp only [SetTable.tooFull,hfill] at tf0
          simpa using tf0
        exact wpAny_pure (q true _ tk0 _ sb1 ⟨_,_,_,t1,g1,hc,rfl,P,al1,nd1,hm1,by rw [hsz]; exact tf',hpp,hpq,hgi⟩ mem1 len1)
    by_cases hpl:t1.plain=true
    · rw [if_pos hpl]
      refine wpAny_bind (Zfc (s:={ s with toks:=tk0 }) hk ?_)
      rw [if_pos rfl]
      exact cont
    · rw [if_neg hpl]
      refine wpAny_bind (wpAny_pure ?_)
      rw [if_pos rfl]
      exact cont
end
set_option maxHeartbeats 2000000
section
variable {prog:Program} {w:World} {A:Around} {R:Result->Shared->Prop} {I S:Addr} {fp wr:List Addr} {n:Nat} {P:Nat->Value->Prop} {St:Nat->Heap->Prop}
theorem TK.kept {h h':Heap} {k:List Int} {b:Addr} (hk:TK prog w h k b) (hw:∀ x∈wr,∃ o vs,h.get? x=some o/\o.data=.fields vs) (kp:∀ b o,b ∉ wr->h.get? b=some o->h'.get? b=some o):TK prog w h' k b:=by
  obtain ⟨ob,items,n,hb,hcb,hdb,hi⟩:=hk
  refine ⟨ob,items,n,kp b ob (fun hm=>?_) hb,hcb,hdb,hi⟩
  obtain ⟨o,vs,h1,h2⟩:=hw b hm
  rw [hb] at h1; cases h1
  rw [hdb] at h2; cases h2
theorem SetI.kept {G:Addr->Prop} {h h':Heap} {keys:List (List Int)} (X:SetI G prog w h S keys) (hSw:S ∉ wr) (hw:∀ x∈wr,∃ o vs,h.get? x=some o/\o.data=.fields vs) (kp:∀ b o,b ∉ wr->h.get? b=some o->h'.get? b=some o):SetI G prog w h' S keys:=by
  obtain ⟨o,es,ep,t,h1,h2,h3,h4,h5,r⟩:=X
  exact ⟨o,es,ep,t,kp _ _ hSw h1,h2,h3,h4,h5.keep fun k b hk=>TK.kept hk hw kp,r⟩
theorem Zhr {G:Addr->Prop} (W:Walks prog w A.in1 I fp wr n P St) (hSf:S ∉ fp) (hw:∀ i h,St i h->∀ x∈wr,∃ o vs,h.get? x=some o/\o.data=.fields vs) (h0:Heap) (hS0:h0.get? S=none) (kw:∀ b o,h0.get? b=some o->b ∉ wr) (ks:List (List Int)) (hks:ks.length=n)
    (hP:∀ i v k,P i v->ks[i]?=some k->∃ b,v=.ref b/\TK prog w h0 k b/\G b) (hn:n<=70) (hu:A.in1.units < cLine) :
    ∀ (d i:Nat) (s:Shared) (keys:List (List Int)),n-i=d->i<=n->(∀ b o,h0.get? b=some o->s.heap.get? b=some o)->St i s.heap->SetI G prog w s.heap S keys->(∀ x,x∈keys ↔ x∈ks.take i)->keys.length<=i ->
      (∀ h' tk keys',SetI G prog w h' S keys'->(∀ x,x∈keys' ↔ x∈ks)->(∀ b o,h0.get? b=some o->h'.get? b=some o)->R (.ok (.ret .none)) { s with heap:=h',toks:=tk }) ->
      codeAny (model prog w) A (.builtin "set.update.loop" ⟨[.ref S,.ref I],[]⟩) R s:=by
  have hSw:S ∉ wr:=fun h=>hSf (W.sub _ h)
  intro d
  induction d with
  | zero=>
    intro i s keys hk hi hg hst hS hmem hlen hR
    have hin:i=n:=by omega
    subst hin
    refine codeAny_builtin F.entry_set_update_loop ?_
    rw [Around.under_plainId F.plain_set_update_loop _]; show wpAny _ A.in1 (pyNext (.ref I) >>= _) _ _ s; refine wpAny_bind (W.done s _ _ hst fun h' tk hk'=>?_)
    show wpAny _ A.in1 (ret Value.none) _ _ _
    refine wpAny_pure (hR h' tk keys (hS.kept hSw (hw _ _ hst) hk') (fun x=>by rw [hmem x,<-hks,List.take_length]) fun b o e=>hk' b o (kw b o e) (hg b o e))
  | succ d ih=>
    intro i s keys hk hi hg hst hS hmem hlen hR
    have hlt:i < n:=by omega
    refine codeAny_builtin F.entry_set_update_loop ?_
    rw [Around.under_plainId F.plain_set_update_loop _]; show wpAny _ A.in1 (pyNext (.ref I) >>= _) _ _ s; refine wpAny_bind (W.item i s _ _ hlt hst fun v h' tk hPv hst' hk'=>?_)
    obtain ⟨b,rfl,hkb,hgb⟩:=hP i v ks[i] hPv (by simp [show i < ks.length by omega])
    have hS':=hS.kept hSw (hw _ _ hst) hk'
    have hg':∀ b o,h0.get? b=some o->h'.get? b=some o:=fun b o e=>hk' b o (kw b o e) (hg b o e)
    have hkb':TK prog w h' ks[i] b:=by obtain ⟨ob,items,m,hb,r⟩:=hkb; exact ⟨ob,items,m,hg' _ _ hb,r⟩
    show wpAny _ A.in1 (holding [Value.ref b] (setAdd S (.ref b)) >>= _) _ _ _
    refine wpAny_bind (wpAny_holding (Zfa (hG:=hgb) (s:={ s with heap:=h',toks:=tk }) hS' hu hkb' (by omega) fun r h'' tk'' keys'' sb hS'' hm'' hl''=>?_))
    refine wpAny_pure ⟨plainId_quiet F.plain_set_update_loop _,ih (i+1) _ keys'' (by omega) hlt (fun b o e=>?_) (W.frame _ _ _ hst' fun b hb o e=>?_) hS'' (fun x=>?_) (by omega) fun h3 tk3 keys3 a1 a2 a3=>hR h3 tk3 keys3 a1 a2 a3⟩
    · exact (sb.2 b fun z=>by rw [z,hS0] at e; cases e).trans (hg' b o e)
    · exact (sb.2 b fun z=>hSf (z ▸ hb)).trans e
    · have e:ks.take (i+1)=ks.take i++[ks[i]]:=by rw [List.take_add_one]; simp [show i < ks.length by omega]
      rw [hm'' x,hmem x,e,List.mem_append,List.mem_singleton]
end
section
variable {prog:Program} {w:World} {A:Around} {E:Value->Shared->Prop} {s:Shared}
set_option maxHeartbeats 3200000 in
theorem Zc2 (a:Value) {Q₁:Value->Shared->Prop}
    (h:Q₁ (.ref s.heap.objs.size) { s with heap:=s.heap.push { cls:=.type "set",dict:=none,data:=.set #[] 0 (.fresh 0 0 (!w.params.followText "set-order")) } }) :
    codeAny (model prog w) A (.call (.builtin "set.__new__") ⟨[.type "set",a],[]⟩) (wants Q₁ E) s:=by
  refine codeAny_of_tree ?_
  show wpAny _ A.in1 (do checkBuiltinCall "set.__new__" ⟨[.type "set",a],[]⟩; again (.builtin "set.__new__" ⟨[.type "set",a],[]⟩)) _ _ s
  refine wpAny_bind (wpAny_of_eq (F.newCall_set_1 a) (wpAny_pure ⟨plainId_quiet F.plain_set_new _,codeAny_builtin F.entry_set_new ?_⟩))
  rw [Around.under_plainId F.plain_set_new _]
  unfold Builtin.«set.__new__» Builtin.Frozenset.newClass
  have hsub:=sub_set_self
  obtain ⟨hp,g,d,tk,os⟩:=s
  dsimp only
  wp_walk
  refine wpAny_askSetting (wpAny_pure ?_)
  dsimp only
  simp only [newObj]
  refine wpAny_bind (wpAny_alloc (wpAny_pure ?_))
  exact wpAny_pure h
theorem ZdN {G:Addr->Prop} {l:Addr} {T:String} {Q:Value->Shared->Prop} {ks:List (List Int)} (hT0:s.TypeIs (.ref l) T) (hsls:isSubtype (.type T) (.type "set")=pure false) (hslf:isSubtype (.type T) (.type "frozenset")=pure false) (hne:(Value.type T==Value.type "dict")=false)
    (hn:ks.length<=70) (hu:A.units+8 < cLine)
    (hit:∀ (A':Around) (s1:Shared) (Q':Value->Shared->Prop),A'.handled=A.handled->(∀ b o,s.heap.get? b=some o->s1.heap.get? b=some o) ->
      (∀ (it:Addr) (fp wr:List Addr) (St:Nat->Heap->Prop) (P:Nat->Value->Prop) (h2:Heap),(∀ A'':Around,A''.handled=A.handled->Walks prog w A'' it fp wr ks.length P St)->St 0 h2->s.heap.objs.size ∉ fp->(∀ i h,St i h->∀ x∈wr,∃ o vs,h.get? x=some o/\o.data=.fields vs)->(∀ b o,s1.heap.get? b=some o->h2.get? b=some o/\b ∉ wr) ->
        (∀ i v k,P i v->ks[i]?=some k->∃ b,v=.ref b/\TK prog w s.heap k b/\G b)->Q' (.ref it) { s1 with heap:=h2 })->s.heap.objs.size < s1.heap.objs.size->wpAny (model prog w) A' (pyIter (.ref l)) Q' E s1)
    (h:∀ (h':Heap) (tk:Nat) keys,SetI G prog w h' s.heap.objs.size keys->(∀ x,x∈keys ↔ x∈ks)->(∀ b o,s.heap.get? b=some o->h'.get? b=some o)->Q (.ref s.heap.objs.size) { s with heap:=h',toks:=tk }) :
    wpAny (model prog w) A (call (.type "set") [.ref l]) Q E s:=by
  obtain ⟨c,tl,hmro⟩:=F.called_set.mro
  have hmade:=F.called_set.made
  have hsub:=F.called_set.sub
  refine wpAny_call (codeAny_of_tree ?_)
  show wpAny _ _ (callAny (.type "set") _) _ _ _
  refine wpAny_pure ⟨Code.quiet_builtin _ (by decide +kernel),codeAny_builtin F.entry_type_call ?_⟩
  rw [Around.under_plain (weight_type_call_type "set" [.ref l] []) rfl]
  have h1:=F.called_set.notType
  have h2:=F.called_set.canCreate
  have hct:=F.typeCall_set_1 (.ref l)
  repeat (any_goals (first | assumption | wp_step))
  refine codeAny_mono (Zc2 (.ref l) (E:=E) (Q₁:=fun obj s₁=>∃ led:Bool,Nonempty (PLift (led=(!w.params.followText "set-order")))/\obj=.ref s.heap.objs.size/\s₁={ s with heap:=s.heap.push { cls:=.type "set",dict:=none,data:=.set #[] 0 (.fresh 0 0 led) } }) ⟨_,⟨⟨rfl⟩⟩,rfl,rfl⟩) fun r s₁ hr=>?_
  cases r with
  | error e=>exact hr
  | ok fl=>
    cases fl with
    | ret obj=>
      obtain ⟨led,hled,rfl,rfl⟩:=hr
      have hS:(s.heap.push { cls:=.type "set",dict:=none,data:=.set #[] 0 (.fresh 0 0 led) }).get? s.heap.objs.size=some { cls:=.type "set",dict:=none,data:=.set #[] 0 (.fresh 0 0 led) }:=Heap.get?_push_size _ rfl
      have hT:Shared.TypeIs { s with heap:=s.heap.push { cls:=.type "set",dict:=none,data:=.set #[] 0 (.fresh 0 0 led) } } (.ref s.heap.objs.size) "set":=⟨_,hS,rfl⟩
      have hli:=F.called_set.init.lookup
      have hbi:=F.called_set.init.bind (.ref s.heap.objs.size)
      repeat (any_goals (first | assumption | wp_step))
      refine codeAny_mono (codeAny_call_builtin (R:=wants (fun r s₂=>r=.none/\∃ h' tk keys,s₂={ s with heap:=h',toks:=tk }/\SetI G prog w h' s.heap.objs.size keys/\(∀ x,x∈keys ↔ x∈ks)/\(∀ b o,s.heap.get? b=some o->h'.get? b=some o)) E) F.called_set.init.plain F.entry_set_init (check_set_init_1 hT ?_)) fun r₂ s₂ hr₂=>?_
      · have hT1:Shared.TypeIs { s with heap:=s.heap.push { cls:=.type "set",dict:=none,data:=.set #[] 0 (.fresh 0 0 led) } } (.ref l) T:=by
          obtain ⟨o,ho,hc⟩:=hT0
          exact ⟨o,Heap.get?_push_of_some _ ho,hc⟩
        unfold Builtin.«set.__init__» noKeywords Builtin.Frozenset.updateFrom
        generalize hPI:pyIter=PI
        wp_walk
        subst hPI
        refine hit _ _ _ (by simp) (fun b o e=>Heap.get?_push_of_some _ e) (fun it fp wr St P h2 W st nf hw kp hP=>?_) (by rw [Heap.size_push]; exact Nat.lt_succ_self _)
        refine wpAny_bind (wpAny_runValue ?_)
        have hS2:=(kp _ _ hS).1
        refine Zhr (W _ (by simp)) nf hw s.heap (Heap.get?_none_of_le (Nat.le_refl _)) (fun b o e=>(kp b o (Heap.get?_push_of_some _ e)).2) ks rfl hP hn (by simp; omega) (ks.length-0) 0 ({ s with heap:=h2 }:Shared) [] (by omega) (Nat.zero_le _) (fun b o e=>(kp b o (Heap.get?_push_of_some _ e)).1) st ?_ (fun x=>by simp) (Nat.le_refl _) fun h' tk keys' a1 a2 a3=>?_
        · refine ⟨_,#[],0,.fresh 0 0 led,hS2,⟨rfl,rfl,rfl⟩,rfl,?_,by simp [Al],List.nodup_nil,.inl rfl,(show 0*5 < 7*3 by decide),rfl,hled.elim fun x=>x.down,fun p hp=>by cases hp⟩
          exact ⟨rfl,rfl,by simp [Ris,SetTable.fresh],by simp [SetTable.fresh],Zlz,(show 0<=7 by decide),(show 7 % 2=1 by decide),fun i h1=>absurd h1 (Nat.not_lt_zero _)⟩
        · show wpAny _ _ _ _ _ _
          refine wpAny_pure ?_
          show wpAny _ _ (ret Value.none) _ _ _
          exact wpAny_pure ⟨rfl,h',tk,keys',rfl,a1,a2,a3⟩
      · cases r₂ with
        | error e=>exact hr₂
        | ok fl₂=>
          cases fl₂ with
          | ret r=>
            obtain ⟨rfl,h',tk,keys,rfl,hS',hm',hk'⟩:=hr₂
            repeat (any_goals (first | assumption | wp_step))
            exact h _ _ keys hS' hm' hk'
          | _=>exact hr₂.elim
    | _=>exact hr.elim
end
noncomputable def U7:List (List Int)->List (List Int)
  | []=>[]
  | k::r=>if k∈r then U7 r else k::U7 r
theorem mem_nubI:∀ {ks:List (List Int)} {x:List Int},x∈U7 ks ↔ x∈ks
  | [],x=>by simp [U7]
  | k::r,x=>by
    unfold U7
    by_cases c:k∈r
    · rw [if_pos c,mem_nubI,List.mem_cons]
      exact ⟨.inr,fun z=>z.elim (fun e=>e ▸ c) id⟩
    · rw [if_neg c,List.mem_cons,List.mem_cons,mem_nubI]
theorem Jm:∀ (ks:List (List Int)),(U7 ks).Nodup
  | []=>List.nodup_nil
  | k::r=>by
    unfold U7
    by_cases c:k∈r
    · rw [if_pos c]; exact Jm r
    · rw [if_neg c]; exact List.nodup_cons.mpr ⟨fun z=>c (mem_nubI.mp z),Jm r⟩
theorem Ww {α:Type} [DecidableEq α]:∀ {l m:List α},l.Nodup->(∀ x∈l,x∈m)->l.length<=m.length
  | [],m,_,_=>Nat.zero_le _
  | x::l,m,nd,h=>by
    obtain ⟨h1,h2⟩:=List.nodup_cons.mp nd
    have hm:=h x List.mem_cons_self
    have:=Ww (l:=l) (m:=m.erase x) h2 fun y hy=>(List.mem_erase_of_ne (fun (e:y=x)=>h1 (by rw [<-e]; exact hy))).mpr (h y (List.mem_cons_of_mem _ hy))
    rw [List.length_erase_of_mem hm] at this
    have:0 < m.length:=List.length_pos_of_mem hm
    simp; omega
theorem WT {l m:List (List Int)} (h1:l.Nodup) (h2:m.Nodup) (h:∀ x,x∈l ↔ x∈m):l.length=m.length:=
  Nat.le_antisymm (Ww h1 fun x hx=>(h x).mp hx) (Ww h2 fun x hx=>(h x).mpr hx)
noncomputable def JH:List D->Option (List (List Int))
  | []=>some []
  | .tup ys::r=>(J1 ys).bind fun k=>(JH r).map (k::·)
  | _::_=>none
theorem Us:∀ {xs:List D} {ks:List (List Int)} {i:Nat} {k:List Int},JH xs=some ks->ks[i]?=some k->xs[i]?=some (.tup (k.map .int))
  | [],ks,i,k,h,e=>by cases h; simp at e
  | d::xs,ks,i,k,h,e=>by
    cases d with
    | tup ys=>
      obtain ⟨k0,h1,h2⟩:=bind_some (show (J1 ys).bind (fun k=>(JH xs).map (k::·))=some ks from h)
      obtain ⟨ks',h3,rfl⟩:=map_some h2
      cases i with
      | zero=>simp at e; subst e; simp [Wy h1]
      | succ i=>simpa using Us h3 (by simpa using e)
    | _=>cases h
theorem VN:∀ {xs:List D} {ks:List (List Int)},JH xs=some ks->ks.length=xs.length
  | [],ks,h=>by cases h; rfl
  | d::xs,ks,h=>by
    cases d with
    | tup ys=>
      obtain ⟨k0,h1,h2⟩:=bind_some (show (J1 ys).bind (fun k=>(JH xs).map (k::·))=some ks from h)
      obtain ⟨ks',h3,rfl⟩:=map_some h2
      simp [VN h3]
    | _=>cases h
noncomputable def VR:D->Option D:=fun d=>(Qb d).bind fun xs=>(JH xs).bind fun ks=>if ks.length<=70 then some (.int (U7 ks).length) else none
section
variable {X:Cx} {pins:List (Addr×Obj)} {σ:L2.St} {H:Hp} {s:Shared} {F:Fz}
theorem Vg:∀ {vs:List Value} {ns:List Int},IntsAre vs ns->ItemsAre (intKind X.prog X.w) ns vs
  | _,_,.nil=>.nil
  | _,_,.cons n t h=>.cons (intKind_is _ _ _ _) (Vg h)
theorem Zki (I:Inv X pins σ H s) {k:List Int} {x:V} {v:Value} (r:Rep X.K F H (.tup (k.map .int)) x) (rv:RelV x v):∃ b,v=.ref b/\TK X.prog X.w s.heap k b:=by
  unfold Rep at r
  obtain ⟨a,vs,rfl,h1,l1⟩:=r
  cases rv
  obtain ⟨its,rv,p,_⟩:=I.tuple h1
  obtain ⟨o,ho,hc,n,hd⟩:=p
  exact ⟨a,rfl,o,its.toArray,n,ho,hc,hd,by simpa using Vg (Jx l1 rv)⟩
theorem Zfy {A:Around} (hh:A.handled=none) (hu:A.units+8 < cLine) (I:Inv X pins σ H s) {d:D} {xs:List D} {ks:List (List Int)} {x:V} {v:Value} {Q:Value->Shared->Prop} {E:Value->Shared->Prop} (hs:Qb d=some xs) (hk:JH xs=some ks) (hn:ks.length<=70)
    (r:Rep X.K F H d x) (rv:RelV x v) (q:∀ (h':Heap) (tk:Nat) keys,SetI (fun b=>∃ (j:Nat) (dd:D) (ff:Nat),xs[j]?=some dd/\Rep X.K F H dd (.ref b)) X.prog X.w h' s.heap.objs.size keys->(∀ x,x∈keys ↔ x∈ks)->(∀ b o,s.heap.get? b=some o->h'.get? b=some o)->Q (.ref s.heap.objs.size) { s with heap:=h',toks:=tk }) :
    wpAny (model X.prog X.w) A (call (.type "set") [v]) Q E s:=by
  obtain ⟨a,vs,rfl,hq,hr⟩:=ZfM hs r
  cases rv
  have keyP:∀ {its:List Value},Vals vs its->∀ (i:Nat) v k,its[i]?=some v->ks[i]?=some k->∃ b,v=.ref b/\TK X.prog X.w s.heap k b/\∃ (j:Nat) (dd:D) (ff:Nat),xs[j]?=some dd/\Rep X.K F H dd (.ref b):=fun {its} rv i v k hv hki=>by
    obtain ⟨x,ex,rx⟩:=hr.get (Us hk hki)
    obtain ⟨u,eu,ru⟩:=rv.get ex
    rw [hv] at eu; cases eu
    obtain ⟨b,e1,e2⟩:=Zki I rx ru
    have rx':=rx
    unfold Rep at rx'
    obtain ⟨a',vs',e3,_⟩:=rx'
    subst e3
    cases ru
    cases e1
    exact ⟨_,rfl,e2,i,_,0,Us hk hki,rx⟩
  have hlen:∀ {its:List Value},Vals vs its->ks.length=its.length:=fun rv=>by rw [VN hk,hr.length,rv.length]
  rcases hq with hq | hq
  · obtain ⟨its,rv,p,hz⟩:=I.list hq
    have hl:=p.isList
    have hlt:a < s.heap.objs.size:=by obtain ⟨_,e,_⟩:=hl; exact Heap.lt_size e
    refine ZdN hl.typeIs PySem.F.sub_list_set PySem.F.sub_list_frozenset (by decide) hn hu (fun A' s1 Q' hA kp q' hsz=>?_) q
    have hl1:s1.heap.IsList a its.toArray:=hl.at fun o e=>kp a o e
    refine wpAny_pyIter_list hl1 ?_
    refine q' s1.heap.objs.size [s1.heap.objs.size,a] [s1.heap.objs.size] (fun i h=>h.IsListIter s1.heap.objs.size a i/\h.IsList a its.toArray) (fun i v=>its.toArray[i]?=some v) _ (fun A'' hA''=>?_) ⟨⟨_,Heap.get?_push_size _ rfl,rfl,rfl⟩,hl1.push _⟩ ?_ (fun i h st x hx=>?_) (fun b o e=>⟨Heap.get?_push_of_some _ e,fun hb=>?_⟩) (fun i v k hv hki=>keyP rv i v k (by simpa using hv) hki)
    · have:=Walks.list (prog:=X.prog) (w:=X.w) (A:=A'') (hA''.trans hh) s1.heap.objs.size a (Nat.ne_of_lt (Nat.lt_trans hlt hsz)) its.toArray
      have z:its.toArray.size=ks.length:=by rw [hlen rv]; simp
      rw [z] at this
      exact this
    · intro hb
      rcases List.mem_cons.mp hb with z | hb
      · exact absurd z (Nat.ne_of_lt hsz)
      · rw [List.mem_singleton] at hb; exact absurd hb (Nat.ne_of_gt hlt)
    · rw [List.mem_singleton] at hx; subst hx
      obtain ⟨⟨o,h1,h2,h3⟩,_⟩:=st
      exact ⟨o,_,h1,h3⟩
    · rw [List.mem_singleton] at hb; subst hb; exact absurd (Heap.lt_size e) (Nat.lt_irrefl _)
  · obtain ⟨its,rv,p,hz⟩:=I.tuple hq
    have hl:s.heap.IsTuple a its.toArray:=p
    have hlt:a < s.heap.objs.size:=by obtain ⟨_,e,_⟩:=hl; exact Heap.lt_size e
    refine ZdN p.typeIs PySem.F.sub_tuple_set PySem.F.sub_tuple_frozenset (by decide) hn hu (fun A' s1 Q' hA kp q' hsz=>?_) q
    have hl1:s1.heap.IsTuple a its.toArray:=hl.at fun o e=>kp a o e
    refine wpAny_pyIter_tuple hl1 ?_
    refine q' s1.heap.objs.size [s1.heap.objs.size,a] [s1.heap.objs.size] (fun i h=>h.IsTupleIter s1.heap.objs.size a i/\h.IsTuple a its.toArray) (fun i v=>its.toArray[i]?=some v) _ (fun A'' hA''=>?_) ⟨⟨_,Heap.get?_push_size _ rfl,rfl,rfl⟩,hl1.push _⟩ ?_ (fun i h st x hx=>?_) (fun b o e=>⟨Heap.get?_push_of_some _ e,fun hb=>?_⟩) (fun i v k hv hki=>keyP rv i v k (by simpa using hv) hki)
    · have:=Walks.tuple (prog:=X.prog) (w:=X.w) (A:=A'') (hA''.trans hh) s1.heap.objs.size a (Nat.ne_of_lt (Nat.lt_trans hlt hsz)) its.toArray
      have z:its.toArray.size=ks.length:=by rw [hlen rv]; simp
      rw [z] at this
      exact this
    · intro hb
      rcases List.mem_cons.mp hb with z | hb
      · exact absurd z (Nat.ne_of_lt hsz)
      · rw [List.mem_singleton] at hb; exact absurd hb (Nat.ne_of_gt hlt)
    · rw [List.mem_singleton] at hx; subst hx
      obtain ⟨⟨o,h1,h2,h3⟩,_⟩:=st
      exact ⟨o,_,h1,h3⟩
    · rw [List.mem_singleton] at hb; subst hb; exact absurd (Heap.lt_size e) (Nat.lt_irrefl _)
theorem Zcs {e:Expr} {f:DE} {p1 p2 p3 p4:Pos} (hc:X.calm=true) (hu:X.A.units+64 < cLine) (hgl:Gl X "len") (hml:X.mg "len"=none) (hgs:Gl X "set") (hms:X.mg "set"=none) (he:ED X e f)
    (hst:starEach [e] X.env=[(false,eval e X.env)]:=by rfl) (hst2:starEach [Expr.Call (.Name "set" p2) [e] [] p3] X.env=[(false,eval (.Call (.Name "set" p2) [e] [] p3) X.env)]:=by rfl) :
    ED X (.Call (.Name "len" p1) [.Call (.Name "set" p2) [e] [] p3] [] p4) (YO VR f):=by
  intro pins s σ H Q I h
  obtain ⟨ρ,F0,H0,F,d,ok,ed,q⟩:=h
  obtain ⟨x,ex,ed⟩:=bind_some ed
  obtain ⟨xs,es,ed⟩:=bind_some ed
  obtain ⟨ks,ek,ed⟩:=bind_some ed
  obtain ⟨hn,rfl⟩:=Yp ed
  refine wpAny_Call_Name_kw (J0 I hgl hml PySem.boot_len (PyProof.Rows.callWith_builtin1 ?_ (by rw [hst2]; rfl) (by rfl)) (by decide) (by decide))
  rw [hst2]
  show wpAny _ _ (spliced ((false,eval (.Call (.Name "set" p2) [e] [] p3) X.env)::[])) _ _ s
  refine Calls.spliced_cons (wpAny_Call_Name_kw (J0 I hgs hms PyProof.Rows.boot_set (PyProof.Rows.callWith_type1 ?_ (by rw [hst]; rfl) (by rfl)) (by decide) (by decide)))
  rw [hst]
  show wpAny _ _ (spliced ((false,eval e X.env)::[])) _ _ s
  refine Calls.spliced_cons (thn (he pins s σ H (fun v H'=>∃ F',Grow F H F' H'/\Rep X.K F' H' x v) I ⟨ρ,F0,H0,F,x,ok,ex,fun v F' H' g r=>⟨F',g,r⟩⟩) fun u s1 ⟨v,H1,I1,r1,F1,g1,rx⟩=>Calls.spliced_nil ?_)
  refine Zfy (A:=X.A) (I1.ok.hd hc) (by omega) I1 es ek hn rx r1 fun h' tk keys hS hm kp=>Calls.spliced_nil ?_
  obtain ⟨o,ens,ep,t,h1,h2,h3,h4,h5,h6,h7,h8⟩:=hS
  have hlen:ens.size=(U7 ks).length:=by
    have e1:keys.length=ens.size:=h5.length
    rw [<-e1]
    exact WT h6 (Jm ks) fun y=>by rw [hm y,mem_nubI]
  have hroom:=h4.room
  have hmk:t.mask<=127:=by rcases h7 with z | z | z <;> omega
  refine call_len_set (s:={ s1 with heap:=h',toks:=tk }) h1 h2 h3 (by have z1:=h4.size; have z2:=h4.dm; simp [SetTable.fits,SetTable.fill,z1,z2,hroom]) (by omega) ?_
  rw [hlen]
  exact ⟨.int _,H1,I1.kept (t':=_) kp,⟨_,rfl⟩,q _ F1 H1 g1 (Yt _)⟩
end
end L3
namespace L3
open PySem PySem.Spec PyProof.Rows L2
noncomputable def tyD:D->String
  | .non=>"NoneType"
  | .bl _=>"bool"
  | .int _=>"int"
  | .str _=>"str"
  | .tup _=>"tuple"
  | .lst _=>"list"
inductive Ty where
  | int | bool | tuple | str | list
noncomputable def Ty.nm:Ty->String
  | .int=>"int"
  | .bool=>"bool"
  | .tuple=>"tuple"
  | .str=>"str"
  | .list=>"list"
noncomputable def Zm8:Ty->D->Bool
  | .int,.int _=>true
  | .int,.bl _=>true
  | .bool,.bl _=>true
  | .tuple,.tup _=>true
  | .str,.str _=>true
  | .list,.lst _=>true
  | _,_=>false
theorem Zlm (K:PySem.W.Frag) (T:Ty) (d:D):PySem.W.kitOne K (.type (tyD d)) (.type T.nm)=some (Zm8 T d):=by
  cases T <;> cases d <;> rfl
noncomputable def Vr (T:Ty) (d:D):Option D:=some (.bl (Zm8 T d))
section
variable {X:Cx} {pins:List (Addr×Obj)} {σ:L2.St} {H:Hp} {s:Shared} {F:Fz} {pos:Pos} {e:Expr} {f:DE}
theorem Zlv {A:Around} {E:Value->Shared->Prop} {Q:Value->Shared->Prop} {c:Value} {b:Bool} (I:Inv X pins σ H s) {d:D} {x:V} {u:Value} (r:Rep X.K F H d x) (rx:RelV x u) (e:PySem.W.kitOne X.K (.type (tyD d)) c=some b) (h:∀ tk,Q (.bool b) { s with toks:=tk }) :
    wpAny (model X.prog X.w) A (call (.builtin "isinstance") [u,c]) Q E s:=by
  cases d with
  | non=>unfold Rep at r; subst r; exact Vh I rx .non e h
  | bl y=>unfold Rep at r; subst r; exact Vh I rx (.bl y) e h
  | int y=>unfold Rep at r; subst r; exact Vh I rx (.int y) e h
  | str y=>unfold Rep at r; subst r; exact Vh I rx (.str y) e h
  | tup ds=>
    unfold Rep at r
    obtain ⟨a,vs,rfl,hq,_⟩:=r
    cases rx
    obtain ⟨its,_,⟨o,h1,h2,_⟩,_⟩:=I.tuple hq
    exact PySem.W.kia_one PySem.W.kitx_tuple I.kIn ⟨o,h1,h2⟩ e (fun z=>nomatch z) h
  | lst ds=>
    unfold Rep at r
    obtain ⟨a,vs,rfl,_,hq,_⟩:=r
    cases rx
    obtain ⟨its,_,p,_⟩:=I.list hq
    obtain ⟨o,h1,h2,_⟩:=p.isList
    exact PySem.W.kia_one PySem.W.kitx_list I.kIn ⟨o,h1,h2⟩ e (fun z=>nomatch z) h
theorem JJ {T:Ty} {x:Str} {p1 p2:Pos} (hg:Gl X "isinstance") (hm:X.mg "isinstance"=none) (hgx:Gl X x) (hmx:X.mg x=none) (hv:bootBuiltins x=some (.type T.nm)) (he:ED X e f)
    (hn:x≠"__name__":=by decide) (hd:(x==("__debug__":Str))=false:=by decide) (hst:starEach [e,Expr.Name x p2] X.env=[(false,eval e X.env),(false,eval (.Name x p2) X.env)]:=by rfl)
    (hst2:starEach [Expr.Name x p2] X.env=[(false,eval (.Name x p2) X.env)]:=by rfl) :
    ED X (.Call (.Name "isinstance" p1) [e,.Name x p2] [] pos) (YO (Vr T) f):=by
  intro pins s σ H Q I h
  obtain ⟨ρ,F0,H0,F,d,ok,ed,q⟩:=h
  obtain ⟨y,ey,ed⟩:=bind_some ed
  cases ed
  refine wpAny_Call_Name_kw (J0 I hg hm PyProof.Rows.boot_isinstance (PyProof.Rows.callWith_builtin1 ?_ (by rw [hst,hst2]) (by rw [hst2]; rfl)) (by decide) (by decide))
  rw [hst]
  show wpAny _ _ (spliced ((false,eval e X.env)::(false,eval (.Name x p2) X.env)::[])) _ _ s
  refine Calls.spliced_cons (thn (he pins s σ H (fun v H'=>∃ F',Grow F H F' H'/\Rep X.K F' H' y v) I ⟨ρ,F0,H0,F,y,ok,ey,fun v F' H' g r=>⟨F',g,r⟩⟩) fun u s1 zq=>?_)
  obtain ⟨v,H1,I1,r1,F1,g1,rx⟩:=zq
  refine Calls.spliced_cons ?_
  refine J0 I1 hgx hmx hv (Calls.spliced_nil ?_) hn hd
  exact Zlv I1 rx r1 (Zlm X.K T y) fun tk=>⟨.bl _,H1,I1.tok tk,rfl,q _ F1 H1 g1 (Vc _)⟩
noncomputable def ZlQ:D->Option D
  | .non=>some (.bl true)
  | _=>some (.bl false)
theorem ZjK {K:PySem.W.Frag} {d:D} {v:V} (r:Rep K F H d v):(decide (v=.non):Bool)=(match d with | .non=>true | _=>false):=by
  cases d with
  | non=>unfold Rep at r; subst r; rfl
  | bl y=>unfold Rep at r; subst r; rfl
  | int y=>unfold Rep at r; subst r; rfl
  | str y=>unfold Rep at r; subst r; rfl
  | tup ds=>unfold Rep at r; obtain ⟨a,vs,rfl,_⟩:=r; rfl
  | lst ds=>unfold Rep at r; obtain ⟨a,vs,rfl,_⟩:=r; rfl
theorem Zkj {j} {p2:Pos} (he:ED X e f):TD X (.Compare e [.Is] [.Constant .none j p2] pos) (Zo (YO ZlQ f)):=PT.imp (ZkG (ZkW he)) fun σ H Q q=>by
  obtain ⟨ρ,F0,H0,F,k,ok,ek,q⟩:=q
  obtain ⟨d,ed,ek⟩:=bind_some ek
  obtain ⟨y,ey,ed⟩:=bind_some ed
  refine ⟨ρ,F0,H0,F,y,ok,ey,fun v F1 H1 g1 r1=>?_⟩
  refine ⟨_,rfl,?_⟩
  rw [ZjK r1]
  have:=q F1 H1 g1
  cases y <;> (cases ed; cases ek; exact this)
end
noncomputable def Z4 (P:Program) (w:World) (K:PySem.W.Frag) (mg:Str->Option Value) (base:Heap) (x:Str) (k:Nat) (ps:List Str) (fn:List D->Option D):Prop:=
  ∃ f fd,FnD P w K mg base k f fd ps fn/\mg x=some (.ref f)/\PySem.W.keepIn K (.ref f)=true/\Binds K fd ps []
section
variable {X:Cx} {pos:Pos}
theorem Zn {x:Str} {k k':Nat} {ps:List Str} {fn:List D->Option D} {p:Pos} {e:Expr} {es:List Expr} {as:DA} (F:Z4 X.prog X.w X.K X.mg X.base x k ps fn) (hr:Room k' X.A) (hk:k<=k') (hg:Gl X x)
    (ha:AD X (e::es) as) (hdb:(x==("__debug__":Str))=false:=by decide) (he:starEach (e::es) X.env=(false,eval e X.env)::starEach es X.env:=by rfl) (hpl:(backTo pos (starEach es X.env)).any (·.1)=false:=by rfl) :
    ED X (.Call (.Name x p) (e::es) [] pos) (dFn ps.length fn as):=by
  obtain ⟨f,fd,h1,h2,h3,h4⟩:=F
  exact ZmA h1 (hr.mono hk) hg h2 h3 h4 ha hdb he hpl
noncomputable def ZlD (sc scope:Scope):Bool:=
  scope.kind==.function&&scope.names.all (fun y=>y.2 != .cell)&&scope.names.all (fun y=>y.2 != .local||scope.names.lookup y.1==some .local) &&
    scope.names.all fun y=>y.2 != .free||(sc.names.lookup y.1==some .cell||sc.names.lookup y.1==some .free)
theorem JC {sc scope:Scope} (h:X.env.scope=sc) (c:ZlD sc scope=true):CompScope X scope:=by
  unfold ZlD at c
  simp only [Bool.and_eq_true,List.all_eq_true] at c
  obtain ⟨⟨⟨c1,c2⟩,c3⟩,c4⟩:=c
  refine ⟨eq_of_beq c1,fun y hy e=>?_,fun y hy e=>?_,fun y hy e=>?_⟩
  · have:=c2 y hy; rw [e] at this; cases this
  · have:=c3 y hy
    rw [e] at this
    exact eq_of_beq (by simpa using this)
  · have:=c4 y hy
    rw [e] at this
    have:(sc.names.lookup y.1==some .cell||sc.names.lookup y.1==some .free)=true:=by simpa using this
    rw [<-h] at this
    rcases Bool.or_eq_true_iff.mp this with z | z
    · exact .inl (eq_of_beq z)
    · exact .inr (eq_of_beq z)
noncomputable def ZmW (sc scope:Scope):List (Str×NameKind):=scope.names.map fun (n,k)=>if (k==.free&&sc.kind==.function&&sc.names.lookup n==some .cell) then (n,.cell) else (n,k)
noncomputable def ZlE (sc scope:Scope) (XN N:List Str) (caps:List (Option Nat)):Bool:=
  caps.length==N.length&&(List.range caps.length).all fun i=>match caps[i]?,N[i]? with
    | some (some j),some x=>XN[j]?==some x&&(sc.names.lookup x==some .cell||sc.names.lookup x==some .free)&&(ZmW sc scope).lookup x != some .local
    | _,_=>true
theorem JF {sc scope:Scope} {XN N:List Str} {caps:List (Option Nat)} (h:X.env.scope=sc) (hN:X.N=XN) (c:ZlE sc scope XN N caps=true):ZlV X N scope caps:=by
  unfold ZlE at c
  rw [Bool.and_eq_true,List.all_eq_true] at c
  obtain ⟨c1,c2⟩:=c
  refine ⟨eq_of_beq c1,fun i j x e1 e2=>?_⟩
  have hi:i < caps.length:=(List.getElem?_eq_some_iff.mp e1).1
  have:=c2 i (List.mem_range.mpr hi)
  rw [e1,e2] at this
  simp only [Bool.and_eq_true] at this
  obtain ⟨⟨d1,d2⟩,d3⟩:=this
  subst h hN
  have hk:X.env.scope.names.lookup x=some .cell\/X.env.scope.names.lookup x=some .free:=by
    rcases Bool.or_eq_true_iff.mp d2 with z | z
    · exact .inl (eq_of_beq z)
    · exact .inr (eq_of_beq z)
  refine ⟨eq_of_beq d1,.inr hk,fun z=>?_,fun z=>?_⟩
  · have z:X.env.scope.names.lookup x=some .local:=z
    rcases hk with q | q <;> (rw [q] at z; cases z)
  · have z':(ZmW X.env.scope scope).lookup x=some .local:=z
    rw [z'] at d3; simp at d3
end
structure Blt (mg:Str->Option Value):Prop where
  len:mg "len"=none
  range:mg "range"=none
  enumerate:mg "enumerate"=none
  min:mg "min"=none
  max:mg "max"=none
  abs:mg "abs"=none
  sum:mg "sum"=none
  any:mg "any"=none
  all:mg "all"=none
  set:mg "set"=none
  sorted:mg "sorted"=none
  tuple:mg "tuple"=none
  list:mg "list"=none
  int:mg "int"=none
  str:mg "str"=none
  bool:mg "bool"=none
  isinstance:mg "isinstance"=none
  reversed:mg "reversed"=none
section
variable {P:Program} {w:World} {K:PySem.W.Frag} {mg:Str->Option Value} {base:Heap}
theorem QZ {x qual:Str} {st:Stmt} {f:Addr} {fd:FuncData} {N ps:List Str} {k n:Nat} {g:DS} {fn:List D->Option D} (F:Fun K x qual st f fd) (S:Zu N ps (Zj st)) (hn:N.length=n) (hf:fn=Zp n g)
    (hb:∀ (cdv:Value) (A:Around) (outer:List Env) (s:Shared) (H:Hp) (E:XK),Room k (A.deeper (envOfC qual (Zj st) s.heap.objs.size f cdv)) ->
      ∃ g',g'=g/\SDs (ZiH CX0 P w K mg base N qual (Zj st) f cdv A outer s H E).nox (Jh st) g'):FnD P w K mg base (k+1) f fd ps fn:=by
  subst hn hf
  exact ZnU F S fun cdv A outer s H E hr=>by
    obtain ⟨g',rfl,h⟩:=hb cdv A outer s H E hr
    exact h
end
section
variable {X:Cx} {tg elt iter:Expr} {ifs:List Expr}
theorem Zjj {scope:Scope} {pos pos' spos:Pos} {N:List Str} {g:TG} {te:TE} {tt:TT} {wi:TI} {i:Nat} {x:Str} (S:CompScope X scope) (hc:X.calm=true) (hit:PI X tg iter wi)
    (hg:∀ C s3 H3 fp,PG (Y8 X N scope C s3 H3 fp) tg g) (hi:∀ C s3 H3 fp,PTs (Y8 X N scope C s3 H3 fp) ifs tt) (he:∀ C s3 H3 fp,PE (Y8 X N scope C s3 H3 fp) elt te)
    (hN:X.N.Nodup) (hx1:X.N[i]?=some x) (hx:Loc X.env.scope x) (hsw:swapsWith (.ListComp elt [⟨tg,iter,ifs,0⟩] scope pos) (some (.Name x pos')) spos.line X.env=pure true)
    (hf:X.fn x=true\/X.env.scope.names.lookup x=some .local) (hs:∀ x,foldedSetIterable iter X.env x=pure x) :
    PS X (.Assign [.Name x pos'] (.ListComp elt [⟨tg,iter,ifs,0⟩] scope pos) spos) (fun D σ H=>Zi0 X.K wi (ZdJ X N scope σ g tt te) σ H fun v H'=>D.nx (σ.set i (some v)) H'):=by
  intro pins s σ H D I h
  rw [exec_Assign_Name_used _ _ _ _ hsw]
  refine wpAny_bind (wpAny_standAt (wpAny_bind ?_))
  show wpAny _ X.A (do let _ <- comprehension (.ListComp elt [⟨tg,iter,ifs,0⟩] scope pos) scope X.env _ (newList []) false (eval iter X.env) (some (assign (.Name x pos') X.env))) _ _ s
  refine wpAny_bind (wpAny_mono (wpAny_comprehension_free (use:=some (assign (.Name x pos') X.env)) (Q:=fun _ s'=>SP X pins D .next s') rfl hs (Vs (S.cells I.ok)) S.kind S.loc
    (wpAny_mono (hit pins s σ H _ I h) (fun xv s₁ h₁=>wpAny_mono h₁ (fun itv s₂ h₂=>?_) fun _ _ z=>z) fun _ _ z=>z)) (fun _ s' hq=>wpAny_pure (wpAny_pure hq)) fun _ _ z=>z)
  obtain ⟨it,fp,tn,J,H2,rfl,I2,T,st2,f2,hb⟩:=h₂
  refine Zeb (Q:=fun v H'=>D.nx (σ.set i (some v)) H') (RR:=fun acc C=>compPost (model X.prog X.w) X.A X.xe (some (assign (.Name x pos') X.env)) (fun _ s'=>SP X pins D .next s') acc C) (wi:=wi) S hc I2 T st2 f2 hg hi he hb ?_
  intro Dl C H' s' m hI hC hn q
  have I':Inv X pins σ H' s':=hI s'.heap (Heap.SameBut.refl _ _)
  show wpAny _ X.A (assign (.Name x pos') X.env (.ref Dl)) _ _ s'
  obtain ⟨oC,es,ep,hoC,r⟩:=id hn
  have hdC:∀ v,oC.data≠.cell v:=fun v z=>by
    obtain ⟨r1,_⟩:=r
    rw [z] at r1; cases r1
  have I1:=I'.pinned (fp:=[C]) (fun b hb=>by rw [List.mem_singleton] at hb; subst hb; exact hC) fun b hb=>by
    rw [List.mem_singleton] at hb; subst hb; exact ⟨oC,hoC,hdC⟩
  refine wpAny_assign_Name (Za6 I1 hN hx1 hx (v:=.ref Dl) rfl (fun s2 J2=>?_) hf)
  have pC:s2.heap.get? C=some oC:=(J2.pin (C,oC) (List.mem_append_right _ (List.mem_append_right _ (Ur (by simp) hoC)))).1
  refine ⟨m,⟨oC,es,ep,pC,r⟩,fun h' sb=>⟨_,H',?_,q⟩⟩
  have J3:=J2.unpinned
  obtain ⟨c1,c2,c3,c4,c5,c6⟩:=hC
  exact J3.turned (t':=s2.toks) (it:=C) (fun b o hb e=>(sb.2 b hb).trans e) c1 c2 c4 c5 c6
theorem Zi6 {scope:Scope} {pos pos' spos:Pos} {N:List Str} {caps:List (Option Nat)} {b:DG} {t:DT} {f:DE} {it:DI} {i:Nat} {x:Str} (hN:X.N.Nodup) (hx1:X.N[i]?=some x) (hx:Loc X.env.scope x)
    (S:CompScope X scope) (C:ZlV X N scope caps) (hc:X.calm=true) (hit:ID X tg iter it) (hno:ZcH b)
    (hg:∀ C s3 H3 fp,GD (Y8 X N scope C s3 H3 fp) tg b) (hi:∀ C s3 H3 fp,TDs (Y8 X N scope C s3 H3 fp) ifs t) (he:∀ C s3 H3 fp,ED (Y8 X N scope C s3 H3 fp) elt f)
    (hsw:swapsWith (.ListComp elt [⟨tg,iter,ifs,0⟩] scope pos) (some (.Name x pos')) spos.line X.env=pure true:=by rfl)
    (hf:X.fn x=true\/X.env.scope.names.lookup x=some .local:=by first | exact .inl rfl | exact .inr rfl | assumption) (hs:∀ x,foldedSetIterable iter X.env x=pure x:=by intro _; rfl) :
    SD X (.Assign [.Name x pos'] (.ListComp elt [⟨tg,iter,ifs,0⟩] scope pos) spos) (Z5 i (QP caps it b t f)):=
  PS.imp (Zjj (N:=N) (g:=rdG X.K b) (tt:=rdT X.K t) (te:=rd X.K f) S hc hit hg hi he hN hx1 hx hsw hf hs) fun E σ H zq=>by
    obtain ⟨ρ,F0,H0,F,o,ok,e,k⟩:=zq
    obtain ⟨d,ed,rfl⟩:=map_some e
    exact ZfN C hno ⟨ρ,F0,H0,F,d,ok,ed,fun v F' H' g r=>k _ F' H' g.ext ((ok.grow g).set r)⟩
end
theorem Zlk {K:PySem.W.Frag} {H:Hp} {a:Addr} {ns:List Int} {fn:List D->Option D} {n:Nat} {E:XK} (hl:ns.length<=n) (hS:SqL K H a (ns.map V.int)) (h:∀ ns:List Int,fn [.lst (ns.map .int)]=some (.bl true)):spD K 1 fn [.ref a] H (fun v _=>v=.bl true) E:=by
  refine ⟨[.lst (ns.map .int)],fun b=>b=a,.bl true,rfl,.cons ?_ .nil,fun b hb=>?_,h ns,fun w F' H' _ r=>by unfold Rep at r; exact r⟩
  · unfold Rep
    refine ⟨a,_,rfl,rfl,hS,?_⟩
    generalize ns=l
    induction l with
    | nil=>exact .nil
    | cons k l ih=>exact .cons (Yt _) ih
  · subst hb
    rcases hS with (h | ⟨o,h⟩) | ⟨o,_,_,h,_⟩
    · exact .inl (by rw [h]; simp)
    · exact .inl (by rw [h]; simp)
    · exact .inr ⟨o,h⟩
noncomputable def GlobK (K:PySem.W.Frag) (x:Str) (d:D):Prop:=∃ a od i j t u n sl,PySem.W.nsIn K mainGlobals x=some (some (.ref a))/\K.lookup a=some ⟨.type "tuple",od,.seq #[.int i t,.int j u] n,sl⟩/\d=.tup [.int i,.int j]
section
variable {prog:Program} {w:World} {A:Around} {E:Value->Shared->Prop} {s:Shared}
end
section
variable {X:Cx} {pos:Pos} {tg l:Expr} {f:DE}
end
noncomputable def OkD (P:Program) (w:World) (K:PySem.W.Frag) (mg:Str->Option Value) (base:Heap) (n:Str) (st:Stmt) (k:Nat) (ps:List Str) (fn:List D->Option D):Prop:=∀ {f:Addr} {fd:FuncData},Fun K n n st f fd->FnD P w K mg base k f fd ps fn
noncomputable def Df (K:PySem.W.Frag) (n:Str) (st:Stmt):Prop:=∃ f fd,PySem.W.nsIn K mainGlobals n=some (some (.ref f))/\Fun K n n st f fd/\PySem.W.keepIn K (.ref f)=true
theorem Df.mk {K:PySem.W.Frag} {n:Str} {st:Stmt} {f:Addr} {oc kV dc pm cd ct:Value} {od an:Option Addr} {sl:Array (Option Value)} (a:PySem.W.nsIn K mainGlobals n=some (some (.ref f))) (l:K.lookup f=some ⟨oc,od,.func (PySem.W.fnOf n n (U4 st) (Jh st) (Zj st) .none kV dc pm an cd ct),sl⟩)
    (e:PySem.W.codeIn K cd n=true) (k:PySem.W.keepIn K (.ref f)=true):Df K n st:=⟨f,_,a,Zly l e k,k⟩
section
variable {P:Program} {w:World} {K:PySem.W.Frag} {mg:Str->Option Value} {base h:Heap} {n:Str} {st:Stmt} {k:Nat} {ps:List Str} {fn:List D->Option D}
theorem dk (X:K.In h) (G:h.Ns mainGlobals mg) (a:Df K n st) (o:OkD P w K mg base n st k ps fn)
    (hb:∀ (kV doc pm:Value) (an:Option Addr) (cdv ct:Value) (us:List Value),us.length=ps.length->bindArgs (PySem.W.fnOf n n (U4 st) (Jh st) (Zj st) .none kV doc pm an cdv ct) ⟨us,[]⟩=pure (ps.zip us)):Z4 P w K mg base n k ps fn:=by
  obtain ⟨f,fd,a1,F,a2⟩:=a
  exact ⟨f,fd,o F,PySem.W.mg_of X G a1,a2,F.binds hb⟩
end
end L3
namespace L3
open PySem PySem.Spec PyProof.Rows L2 SetTab PySem.SetTable
theorem ZdK:Manifest.owners.lookup (String.ofList ['r','o','t','a','r','e','t','i','_','t','e','s'].reverse)=some Manifest.sig_set_iterator:=by kernel_rfl
theorem si_next:Slot "set_iterator" "__next__" "set_iterator.__next__":=
  .of (owner:="set_iterator") (n:="__next__") (by rw [typeLookup_type,builtinLookup_eq_fast]; kernel_rfl) (by decide +kernel) (by decide +kernel) (by decide +kernel)
    (by first | exact .inl (by decide +kernel) | exact .inr (by decide +kernel)) (by rw [isSubtype_type]; kernel_rfl)
theorem Zfw:Slot "set_iterator" "__iter__" "set_iterator.__iter__":=
  .of (owner:="set_iterator") (n:="__iter__") (by rw [typeLookup_type,builtinLookup_eq_fast]; kernel_rfl) (by decide +kernel) (by decide +kernel) (by decide +kernel)
    (by first | exact .inl (by decide +kernel) | exact .inr (by decide +kernel)) (by rw [isSubtype_type]; kernel_rfl)
theorem ZdL:entryFor table "set_iterator.__next__"=some Builtin.«set_iterator.__next__»:=entryFor_of_tree (by kernel_rfl)
theorem Zhp:entryFor table "set_iterator.__iter__"=some Builtin.«dict_keyiterator.__iter__»:=
  entryFor_alias (id':="dict_keyiterator.__iter__") (by kernel_rfl) (by first | rfl | decide +kernel | (unfold String.splitOn; simp +decide [String.splitOnAux])) (by decide +kernel) (by kernel_rfl)
theorem Zfz:entryFor table "set.__iter__"=some Builtin.«frozenset.__iter__»:=
  entryFor_alias (id':="frozenset.__iter__") (by kernel_rfl) (by first | rfl | decide +kernel | (unfold String.splitOn; simp +decide [String.splitOnAux])) (by decide +kernel) (by kernel_rfl)
theorem ZdM (a:Value):argsOk "set_iterator.__next__" ⟨[a],[]⟩:=by
  unfold argsOk; rw [signature?_of (id:="set_iterator.__next__") (n:=['_','_','t','x','e','n','_','_']) (o:=['r','o','t','a','r','e','t','i','_','t','e','s']) (by kernel_rfl) ZdK]; kernel_rfl
theorem Zhq (a:Value):argsOk "set_iterator.__iter__" ⟨[a],[]⟩:=by
  unfold argsOk; rw [signature?_of (id:="set_iterator.__iter__") (n:=['_','_','r','e','t','i','_','_']) (o:=['r','o','t','a','r','e','t','i','_','t','e','s']) (by kernel_rfl) ZdK]; kernel_rfl
theorem ZgB {α:Type}:∀ (l:List α) (i:Nat) (h:i < l.length),(l[i]::l.eraseIdx i).Perm l
  | [],i,h=>by simp at h
  | a::l,0,h=>by simp
  | a::l,i+1,h=>by
    have ih:=ZgB l i (by simpa using h)
    simp only [List.getElem_cons_succ,List.eraseIdx_cons_succ]
    exact (List.Perm.swap a _ _).trans (ih.cons a)
theorem ZfV {α:Type} (next:Nat->Nat):∀ (fuel k:Nat) (left:List α) (out:Array α),fuel=left.length->(pickOrder.go next fuel k left out).toList.Perm (out.toList++left)
  | 0,k,left,out,h=>by
    have:left=[]:=List.eq_nil_of_length_eq_zero h.symm
    subst this; simp [pickOrder.go]
  | fuel+1,k,left,out,h=>by
    unfold pickOrder.go
    have hl:next k % left.length < left.length:=Nat.mod_lt _ (by omega)
    have e:left[next k % left.length]?=some left[next k % left.length]:=List.getElem?_eq_getElem hl
    rw [e]
    have ih:=ZfV next fuel (k+1) (left.eraseIdx (next k % left.length)) (out.push left[next k % left.length]) (by rw [List.length_eraseIdx,if_pos hl]; omega)
    refine ih.trans ?_
    rw [Array.toList_push,List.append_assoc]
    refine List.Perm.append_left _ ?_
    exact (ZgB left _ hl)
theorem ZfU {α:Type} (next:Nat->Nat) (xs:Array α):(pickOrder next xs).toList.Perm xs.toList:=by
  have:=ZfV next xs.size 0 xs.toList #[] (by simp)
  rw [List.nil_append] at this
  exact this
theorem ZeV {xs:Array Nat} (h:Ris xs.toList) {i:Nat} (hi:i < xs.size):below xs (xs[i]+1)=i+1:=by
  obtain ⟨h1,h2,h3⟩:=QF h (xs[i]+1)
  have ris:∀ a b (ha:a < xs.size) (hb:b < xs.size),a < b->xs[a] < xs[b]:=fun a b ha hb hab=>by
    have:=List.pairwise_iff_getElem.mp h a b (by simpa using ha) (by simpa using hb) hab
    simpa using this
  rcases Nat.lt_trichotomy (below xs (xs[i]+1)) (i+1) with c | c | c
  · exfalso
    have:=h3 i hi (by omega)
    omega
  · exact c
  · exfalso
    have hs:i+1 < xs.size:=by omega
    have:=h2 (i+1) hs (by omega)
    have:=ris i (i+1) hi hs (by omega)
    omega
noncomputable def byT (w:World):Bool:=w.params.followText "set-order"
noncomputable def Zb6 (w:World) (S:Addr) (ep:Nat) (es:Array (Int×Value)):Array (Int×Value):=if byT w then pickOrder (w.params.setOrder S ep) es else es
theorem Zbg (w:World) (S:Addr) (ep:Nat) (es:Array (Int×Value)):(Zb6 w S ep es).toList.Perm es.toList:=by
  unfold Zb6; split
  · exact ZfU _ _
  · exact .refl _
theorem Uq (w:World) (S:Addr) (ep:Nat) (es:Array (Int×Value)):(Zb6 w S ep es).size=es.size:=by simpa using (Zbg w S ep es).length_eq
noncomputable def IsSI (h:Heap) (it S:Addr) (slot i n ep:Nat):Prop:=∃ o,h.get? it=some o/\o.cls=.type "set_iterator"/\o.data=.fields #[rawInt slot,rawInt i,.ref S,rawInt n,rawInt ep]
theorem IsSI.at {h h':Heap} {it S:Addr} {slot i n ep:Nat} (x:IsSI h it S slot i n ep) (k:∀ o,h.get? it=some o->h'.get? it=some o):IsSI h' it S slot i n ep:=let ⟨o,ho,r⟩:=x; ⟨o,k _ ho,r⟩
section
variable {prog:Program} {w:World} {A:Around} {E:Value->Shared->Prop} {s:Shared} {it S:Addr} {o:Obj} {es:Array (Int×Value)} {ep:Nat} {t:SetTable}
theorem IsSI.ty {slot i n ep:Nat} (x:IsSI s.heap it S slot i n ep):s.TypeIs (.ref it) "set_iterator":=let ⟨o,ho,hc,_⟩:=x; ⟨o,ho,hc⟩
theorem Ug {Q:Bool->Shared->Prop} (h:Q (byT w) s):wpAny (model prog w) A setsByText Q E s:=by
  unfold setsByText
  exact wpAny_bind (wpAny_askSetting (wpAny_pure h))
theorem Zi4 {slot i:Nat} {x:Value} {hx:Int} {Q:Option Value->Shared->Prop} (hi:IsSI s.heap it S slot i es.size ep) (ho:s.heap.get? S=some o) (hd:o.data=.set es ep t) (hf:t.fits es.size=true) (I:TI t es) (hpl:t.plain=true) (hld:t.led=!byT w)
    (hb:byT w=false->below t.place slot=i) (hxx:(Zb6 w S ep es)[i]?=some (hx,x))
    (q:∀ k slot',IsSI k it S slot' (i+1) es.size ep->Heap.SameBut it s.heap k->(byT w=false->below t.place slot'=i+1)->Q (some x) { s with heap:=k }):wpAny (model prog w) A (pyNext (.ref it)) Q E s:=by
  obtain ⟨oi,hoi,hci,hdi⟩:=id hi
  unfold pyNext
  refine wpAny_bind (wpAny_attempt (wpAny_callSpecial?_slot (name:=Str.ofString "__next__") hi.ty si_next (wpAny_call_entry si_next hi.ty ZdL ?_ (ZdM _))))
  unfold Builtin.«set_iterator.__next__»
  refine wpAny_bind (wpAny_of_eq (a:=(Value.ref it,[])) rfl ?_)
  refine wpAny_bind (m:=fieldsOf (.ref it)) ?_
  unfold fieldsOf
  refine wpAny_bind (wpAny_load hoi ?_)
  rw [hdi]
  refine wpAny_pure ?_
  dsimp only
  refine wpAny_bind (m:=setEntries S) ?_
  unfold setEntries
  refine wpAny_bind (wpAny_setState_of ho hd hf (wpAny_pure ?_))
  rw [if_neg (by simp)]
  show wpAny _ _ (setNext S slot i ep >>= _) _ _ s
  have fin:∀ slot':Nat,(byT w=false->below t.place slot'=i+1)->wpAny (model prog w) A.in1 (do
      setField (Value.ref it) 0 (rawInt slot')
      setField (Value.ref it) 1 (rawInt ((i:Int)+1))
      ret x) (fun fin s'=>∃ v,fin=Fin.done (Flow.ret v)/\wpAny (model prog w) A (pure (some v)) Q E s') (fun e s'=>wpAny (model prog w) A (do
          let r <- isInstance e (Value.type "StopIteration")
          if r=true then pure none else throw e) Q E s') s:=fun slot' hs=>by
    refine wpAny_bind (wpAny_setField hoi hdi (by simp) ?_)
    have ho1:=Heap.get?_update_self (fun o=>o.mapFields fun v=>v.setIfInBounds 0 (rawInt slot')) hoi (Obj.isFreed_of_fields (Obj.data_mapFields hdi _))
    have hd1:(oi.mapFields fun v=>v.setIfInBounds 0 (rawInt slot')).data=.fields #[rawInt slot',rawInt i,.ref S,rawInt es.size,rawInt ep]:=by rw [Obj.data_mapFields hdi]; simp
    refine wpAny_bind (wpAny_setField (s:={ s with heap:=s.heap.update it (Obj.mapFields fun v=>v.setIfInBounds 0 (rawInt slot')) }) ho1 hd1 (by simp) ?_)
    refine wpAny_pure ⟨x,rfl,wpAny_pure (q _ slot' ?_ ((Heap.SameBut.update ..).trans (Heap.SameBut.update ..)) hs)⟩
    have ho2:=Heap.get?_update_self (fun o=>o.mapFields fun v=>v.setIfInBounds 1 (rawInt ((i:Int)+1))) ho1 (Obj.isFreed_of_fields (Obj.data_mapFields hd1 _))
    exact ⟨_,ho2,(Obj.cls_mapFields ..).trans ((Obj.cls_mapFields ..).trans hci),by rw [Obj.data_mapFields hd1]; simp⟩
  refine wpAny_bind ?_
  unfold setNext
  refine wpAny_bind (wpAny_setState_of ho hd hf ?_)
  dsimp only
  refine wpAny_bind (Ug ?_)
  have hlt:i < es.size:=by
    have:=(Array.getElem?_eq_some_iff.mp hxx).1
    rw [Uq] at this; exact this
  cases hbt:byT w with
  | true=>
    rw [if_pos rfl,if_neg (by simp)]
    refine wpAny_bind ?_
    unfold setWalk
    refine wpAny_bind (wpAny_setState_of ho hd hf ?_)
    dsimp only
    refine wpAny_bind (Ug ?_)
    rw [hbt,if_pos rfl]
    refine wpAny_bind (wpAny_askSetting (wpAny_pure ?_))
    unfold Zb6 at hxx
    rw [hbt,if_pos rfl] at hxx
    refine wpAny_pure ?_
    show wpAny _ _ (match ((pickOrder (w.params.setOrder S ep) es)[i]?).map fun e=>(e.2,slot) with | some (x,next)=>_ | none=>_) _ _ s
    rw [hxx]
    exact fin slot fun z=>by rw [hbt] at z; cases z
  | false=>
    rw [if_neg (by simp)]
    unfold Zb6 at hxx
    rw [hbt,if_neg (by simp)] at hxx
    have hb':=hb hbt
    have hpi:t.place[i]?=some (t.place[i]'(by rw [I.size]; exact hlt)):=Array.getElem?_eq_getElem _
    have hnx:=ZeV I.ris (show i < t.place.size by rw [I.size]; exact hlt)
    show wpAny _ _ (if (!t.plain&&decide (es.size > 1))=true then _ else _) _ _ s
    rw [hpl,if_neg (by simp)]
    refine wpAny_bind ?_
    show wpAny _ _ (if (!t.led&&!es.isEmpty)=true then _ else _) _ _ s
    rw [hld,hbt,if_neg (by simp)]
    refine wpAny_pure ?_
    refine wpAny_pure ?_
    rw [hb',hxx,hpi]
    exact fin _ fun _=>hnx
theorem Zku {slot i:Nat} {Q:Option Value->Shared->Prop} (hh:A.handled=none) (hi:IsSI s.heap it S slot i es.size ep) (ho:s.heap.get? S=some o) (hd:o.data=.set es ep t) (hf:t.fits es.size=true) (I:TI t es) (hpl:t.plain=true) (hld:t.led=!byT w)
    (hb:byT w=false->below t.place slot=i) (he:i=es.size)
    (q:∀ k,Heap.ExtBut it s.heap k->Q none { s with heap:=k }):wpAny (model prog w) A (pyNext (.ref it)) Q E s:=by
  obtain ⟨oi,hoi,hci,hdi⟩:=id hi
  unfold pyNext
  refine wpAny_bind (wpAny_attempt (wpAny_callSpecial?_slot (name:=Str.ofString "__next__") hi.ty si_next (wpAny_call_entry si_next hi.ty ZdL ?_ (ZdM _))))
  unfold Builtin.«set_iterator.__next__»
  refine wpAny_bind (wpAny_of_eq (a:=(Value.ref it,[])) rfl ?_)
  refine wpAny_bind (m:=fieldsOf (.ref it)) ?_
  unfold fieldsOf
  refine wpAny_bind (wpAny_load hoi ?_)
  rw [hdi]
  refine wpAny_pure ?_
  dsimp only
  refine wpAny_bind (m:=setEntries S) ?_
  unfold setEntries
  refine wpAny_bind (wpAny_setState_of ho hd hf (wpAny_pure ?_))
  rw [if_neg (by simp)]
  show wpAny _ _ (setNext S slot i ep >>= _) _ _ s
  have fin:wpAny (model prog w) A.in1 (do
      setField (Value.ref it) 2 Value.none
      let r <- newExc (Value.type "StopIteration") []
      raiseNew (α:=Fin) r) (fun fin s'=>∃ v,fin=Fin.done (Flow.ret v)/\wpAny (model prog w) A (pure (some v)) Q E s') (fun e s'=>wpAny (model prog w) A (do
          let r <- isInstance e (Value.type "StopIteration")
          if r=true then pure none else throw e) Q E s') s:=by
    refine wpAny_bind (wpAny_setField hoi hdi (by simp) ?_)
    refine wpAny_bind ?_
    simp only [newExc,newTuple]
    refine wpAny_bind (wpAny_newObj_type ?_ (by size_fits)); refine wpAny_bind (m:=firstArgMember _ _) (wpAny_of_eq (a:=Value.none) (by first | rfl | (simp only [firstArgMember]; rfl)) ?_)
    refine wpAny_newObj_type ?_ (by size_fits); simp only [raiseNew]; refine wpAny_bind (wpAny_handled ?_)
    first | rw [show A.in1.handled=none from hh] | rw [hh]
    refine wpAny_bind (wpAny_pure (wpAny_throw ?_))
    refine wpAny_bind (wpAny_isInstance (T:="StopIteration") (b:=true) ⟨_,Heap.get?_push_size _ rfl,rfl⟩ isSubtype_stop ?_)
    exact wpAny_pure (q _ (((Heap.SameBut.update ..).extBut.push _).push _))
  refine wpAny_bind ?_
  unfold setNext
  refine wpAny_bind (wpAny_setState_of ho hd hf ?_)
  dsimp only
  refine wpAny_bind (Ug ?_)
  have hno:(Zb6 w S ep es)[i]?=none:=Array.getElem?_eq_none (by rw [Uq]; omega)
  cases hbt:byT w with
  | true=>
    rw [if_pos rfl,if_neg (by simp)]
    refine wpAny_bind ?_
    unfold setWalk
    refine wpAny_bind (wpAny_setState_of ho hd hf ?_)
    dsimp only
    refine wpAny_bind (Ug ?_)
    rw [hbt,if_pos rfl]
    refine wpAny_bind (wpAny_askSetting (wpAny_pure ?_))
    unfold Zb6 at hno
    rw [hbt,if_pos rfl] at hno
    refine wpAny_pure ?_
    show wpAny _ _ (match ((pickOrder (w.params.setOrder S ep) es)[i]?).map fun e=>(e.2,slot) with | some (x,next)=>_ | none=>_) _ _ s
    rw [hno]
    exact fin
  | false=>
    rw [if_neg (by simp)]
    have hb':=hb hbt
    have hne:es[i]?=none:=Array.getElem?_eq_none (by omega)
    show wpAny _ _ (if (!t.plain&&decide (es.size > 1))=true then _ else _) _ _ s
    rw [hpl,if_neg (by simp)]
    refine wpAny_bind ?_
    show wpAny _ _ (if (!t.led&&!es.isEmpty)=true then _ else _) _ _ s
    rw [hld,hbt,if_neg (by simp)]
    refine wpAny_pure ?_
    refine wpAny_pure ?_
    rw [hb',hne]
    exact fin
structure ZlT (w:World) (S:Addr) (o:Obj) (es:Array (Int×Value)) (ep:Nat) (t:SetTable):Prop where
  hd:o.data=.set es ep t
  hf:t.fits es.size=true
  I:TI t es
  hpl:t.plain=true
  hld:t.led=!byT w
theorem Walks.set (hh:A.handled=none) (W:ZlT w S o es ep t) (hne:S≠it):Walks prog w A it [it,S] [it] es.size (fun i v=>∃ hx,(Zb6 w S ep es)[i]?=some (hx,v)) (fun i h=>i<=es.size/\(∃ slot,IsSI h it S slot i es.size ep/\(byT w=false->below t.place slot=i))/\h.get? S=some o) where
  sub:=fun b hb=>by simp at hb; simp [hb]
  frame:=fun _ _ _ ⟨a,⟨slot,x,y⟩,z⟩ hk=>⟨a,⟨slot,x.at fun o e=>hk it (by simp) o e,y⟩,hk S (by simp) o z⟩
  item:=fun i s Q E hi ⟨a,⟨slot,x,y⟩,z⟩ hQ=>by
    have hz:i < (Zb6 w S ep es).size:=by rw [Uq]; exact hi
    have e:(Zb6 w S ep es)[i]?=some (((Zb6 w S ep es)[i]).1,((Zb6 w S ep es)[i]).2):=Array.getElem?_eq_getElem hz
    exact Zi4 x z W.hd W.hf W.I W.hpl W.hld y e fun k slot' k1 k2 k3=>hQ _ k s.toks ⟨_,e⟩ ⟨hi,⟨slot',k1,k3⟩,(k2.2 S hne).trans z⟩ fun b ob hb eo=>k2.extBut b ob (fun h=>hb (by simp [h])) eo
  done:=fun s Q E ⟨a,⟨slot,x,y⟩,z⟩ hQ=>Zku hh x z W.hd W.hf W.I W.hpl W.hld y rfl fun k kb=>hQ k s.toks fun b ob hb eo=>kb b ob (fun h=>hb (by simp [h])) eo
  self:=fun i s Q E ⟨a,⟨slot,x,y⟩,z⟩ hQ=>by
    refine wpAny_pyIter_slot x.ty Zfw (wpAny_call_entry Zfw x.ty Zhp ?_ (Zhq _))
    show wpAny _ _ (ret (.ref it)) _ _ s
    exact wpAny_pure ⟨_,rfl,"set_iterator",_,x.ty,si_next.lookup,hQ⟩
theorem Zep {Q:Value->Shared->Prop} (W:ZlT w S o es ep t) (ho:s.heap.get? S=some o) (hc:o.cls=.type "set")
    (q:Q (.ref s.heap.objs.size) { s with heap:=s.heap.push { cls:=.type "set_iterator",data:=.fields #[rawInt 0,rawInt 0,.ref S,rawInt es.size,rawInt ep] } }):wpAny (model prog w) A (pyIter (.ref S)) Q E s:=by
  have hT:s.TypeIs (.ref S) "set":=⟨o,ho,hc⟩
  refine wpAny_pyIter_slot hT PySem.F.slot_set_iter (wpAny_call_entry PySem.F.slot_set_iter hT Zfz ?_ (PySem.F.args_set_iter_1 _))
  unfold Builtin.«frozenset.__iter__»
  refine wpAny_bind (wpAny_of_eq (a:=S) rfl ?_)
  refine wpAny_bind (m:=Builtin.Frozenset.sizeOf S) ?_
  unfold Builtin.Frozenset.sizeOf setEntries
  refine wpAny_bind (wpAny_bind (wpAny_setState_of ho W.hd W.hf (wpAny_pure (wpAny_pure ?_))))
  refine wpAny_bind (m:=setDrawn S) ?_
  unfold setDrawn
  refine wpAny_bind (wpAny_setState_of ho W.hd W.hf ?_)
  dsimp only
  refine wpAny_bind (Ug (wpAny_pure ?_))
  rw [if_neg (by
    show ¬ ((!byT w&&(!t.plain&&decide (es.size > 1)))=true)
    rw [W.hpl]; simp)]
  refine wpAny_bind (wpAny_pure ?_)
  refine wpAny_bind (m:=setEpoch S) ?_
  unfold setEpoch
  refine wpAny_bind (wpAny_setState_of ho W.hd W.hf (wpAny_pure ?_))
  refine wpAny_bind (m:=newFields _ _) ?_
  unfold newFields
  refine wpAny_newObj_type ?_ (by size_fits)
  exact wpAny_pure ⟨_,rfl,"set_iterator",_,⟨_,Heap.get?_push_size _ rfl,rfl⟩,si_next.lookup,q⟩
end
section
variable {prog:Program} {w:World} {A:Around} {s:Shared} {R:Result->Shared->Prop} {it S x:Addr} {fp wr:List Addr} {n:Nat} {P:Nat->Value->Prop} {St:Nat->Heap->Prop}
theorem ZjV {T:String} {res:Value} {c₀:Nat} {h1:Heap} (hT:s.TypeIs (.ref x) T) (h2:(Value.type T==Value.type "list")=false) (h3:(Value.type T==Value.type "tuple")=false) (hSx:S≠x)
    (hS:s.heap.get? S=some { cls:=.type "list",data:=.seq #[] c₀ })
    (hi:∀ (Q:Value->Shared->Prop) (E:Value->Shared->Prop),Q (.ref it) { s with heap:=h1 }->wpAny (model prog w) A.in1 (pyIter (.ref x)) Q E s)
    (hh:∀ (Q:Bool->Shared->Prop) (E:Value->Shared->Prop),Q false { s with heap:=h1 }->wpAny (model prog w) A.in1 (Builtin.List.listLengthHint (.ref x)) Q E { s with heap:=h1 })
    (W:Walks prog w A.in1 it fp wr n P St) (hst:St 0 h1) (hSf:S ∉ fp) (kp:∀ b o,s.heap.get? b=some o->h1.get? b=some o) (hn:n<=sizeLine)
    (hR:∀ h' tk acc' c',(∀ b o,b≠S->b ∉ wr->s.heap.get? b=some o->h'.get? b=some o)->h'.get? S=some { cls:=.type "list",dict:=none,data:=.seq acc' c',slots:=#[] }->ItemsOf P acc' n->R (.ok (.ret res)) { s with heap:=h',toks:=tk }) :
    wpAny (model prog w) A.in1 (Builtin.List.listExtendWith (.ref S) (.ref x) res)
      (fun fin s'=>match fin with | .done f=>R (.ok f) s' | .again c'=>c'.quiet=true/\codeAny (model prog w) A c' R s') (fun e s'=>R (.error e) s') s:=by
  have WS:=W.toS
  have key:∀ (h:Heap) (c₁:Nat),St 0 h->(∀ b o,b≠S->s.heap.get? b=some o->h.get? b=some o)->h.get? S=some { cls:=.type "list",data:=.seq #[] c₁ } ->
      codeAny (model prog w) A (.builtin "list.extend.loop" ⟨[.ref S,.ref it,res],[]⟩) R { s with heap:=h }:=by
    intro h c₁ hit hk hS₁
    refine codeAny_extend_loopS WS hn S hSf res n 0 _ #[] c₁ rfl (Nat.zero_le _) hit hS₁ (ItemsOf.nil _) fun s' acc' c' hm hS' hacc=>?_
    rw [Moved.eq_with hm]
    refine hR s'.heap s'.toks acc' c' (fun b o hb hbw e=>hm.heap b o (fun hmem=>?_) (hk b o hb e)) hS' hacc
    rcases List.mem_cons.mp hmem with e' | hmem
    · exact hb e'
    · exact hbw hmem
  unfold Builtin.List.listExtendWith
  refine wpAny_bind (wpAny_typeOf hT ?_)
  have e1:Builtin.List.listSameRef (.ref S) (.ref x)=false:=by simp [Builtin.List.listSameRef,hSx]
  simp only [e1,h2,h3,Bool.or_false,Bool.false_eq_true,if_false]
  refine wpAny_bind (hi _ _ ?_)
  refine wpAny_bind (wpAny_holding (hh _ _ ?_))
  have hS₁:=kp _ _ hS
  refine wpAny_ite_split (fun _=>?_) (fun _=>wpAny_pure ⟨plainId_quiet F.plain_extend_loop _,key _ c₀ hst (fun b o _ e=>kp b o e) hS₁⟩)
  refine wpAny_bind (wpAny_rule ?_)
  refine wpAny_bind ?_
  show wpAny _ _ (updateSeq S (·.push .none) >>= fun _=>updateSeq S (·.pop)) _ _ _
  refine wpAny_bind (wpAny_updateSeq hS₁ rfl ?_)
  have hS₂:=Heap.get?_update_self (Obj.mapSeq (·.push Value.none)) hS₁ rfl
  refine wpAny_updateSeq (hz:=by seq_fits) hS₂ rfl ?_
  have hS₃:=Heap.get?_update_self (Obj.mapSeq (·.pop)) hS₂ rfl
  have oth:∀ b o,b≠S->h1.get? b=some o->((h1.update S (Obj.mapSeq (·.push Value.none))).update S (Obj.mapSeq (·.pop))).get? b=some o:=
    fun b o hb e=>(Heap.get?_update_other _ _ (Ne.symm hb)).trans ((Heap.get?_update_other _ _ (Ne.symm hb)).trans e)
  refine wpAny_pure ⟨plainId_quiet F.plain_extend_loop _,key _ _ ?_ (fun b o hb e=>oth b o hb (kp b o e)) hS₃⟩
  exact W.frame 0 _ _ hst fun b hb o e=>oth b o (fun h=>hSf (h ▸ hb)) e
end
section
variable {prog:Program} {w:World} {A:Around} {E:Value->Shared->Prop} {s:Shared} {it S:Addr} {o:Obj} {es:Array (Int×Value)} {ep:Nat} {t:SetTable}
theorem ZhV {Q:Bool->Shared->Prop} (hT:s.TypeIs (.ref S) "set") (h:Q false s):wpAny (model prog w) A (Builtin.List.listLengthHint (.ref S)) Q E s:=by
  unfold Builtin.List.listLengthHint
  refine wpAny_bind (wpAny_specialOf hT PySem.F.slot_set_len.lookup ?_)
  have hs:splitId "set.__len__"=some ("set","__len__"):=by decide +kernel
  dsimp only
  rw [hs]
  dsimp only
  refine wpAny_bind (wpAny_isInstance hT sub_set_self ?_)
  rw [if_neg (by simp),if_pos (by decide +kernel)]
  exact wpAny_bind (wpAny_typeOf hT (wpAny_pure h))
theorem Zdq {Q : List Value -> Shared -> Prop} (hh : A.handled = none) (W : ZlT w S o es ep t) (ho : s.heap.get? S = some o) (hc : o.cls = .type "set") (hsz : es.size <= 1000)
    (q : ∀ h' tk, (∀ b o, s.heap.get? b = some o -> h'.get? b = some o) -> Q ((Zb6 w S ep es).toList.map (·.2)) { s with heap := h', toks := tk }) : wpAny (model prog w) A (collect (.ref S)) Q E s := by
  unfold collect
  refine wpAny_bind (wpAny_runValue (codeAny_builtin entry_proto_collect' ?_))
  show wpAny _ _ (do again (.builtin "list.__iadd__" ⟨[<- newList [], .ref S], []⟩)) _ _ s
  refine wpAny_bind (wpAny_newList (wpAny_pure ⟨Code.quiet_builtin _ (by decide +kernel), codeAny_builtin entry_list_iadd' ?_⟩))
  show wpAny _ _ (Builtin.List.listExtendWith (.ref s.heap.objs.size) (.ref S) (.ref s.heap.objs.size)) _ _ { s with heap := s.heap.push (seqObj "list" #[] 0) }
  have ho' : (s.heap.push (seqObj "list" #[] 0)).get? S = some o := Heap.get?_push_of_some _ ho
  have hlt : S < s.heap.objs.size := Heap.lt_size ho
  have hz1 : (s.heap.push (seqObj "list" #[] 0)).objs.size = s.heap.objs.size + 1 := Heap.size_push ..
  rw [Around.under_plainId (show plainId "list.__iadd__" = true by decide +kernel) _]
  have hI : (s.heap.push (seqObj "list" #[] 0)).objs.size ≠ S := fun e => by
    have : s.heap.objs.size < S := by rw [<- e, hz1]; exact Nat.lt_succ_self _
    exact Nat.lt_irrefl _ (Nat.lt_trans this hlt)
  refine ZjV (R := fun r s' => match r with
      | .ok (.ret v) => wpAny (model prog w) A (match v with
        | .ref a => do
          let o <- load a
          match o.data with
          | .seq xs _ => pure xs.toList
          | _ => unsupported "internal:collect"
        | _ => unsupported "internal:collect") Q E s'
      | .ok _ => False
      | .error e => E e s') (s := { s with heap := s.heap.push (seqObj "list" #[] 0) }) (T := "set") (c₀ := 0) (it := (s.heap.push (seqObj "list" #[] 0)).objs.size)
    (h1 := (s.heap.push (seqObj "list" #[] 0)).push { cls := .type "set_iterator", data := .fields #[rawInt 0, rawInt 0, .ref S, rawInt es.size, rawInt ep] })
    ⟨o, ho', hc⟩ (by decide) (by decide) (Nat.ne_of_gt hlt) (Heap.get?_push_size _ rfl) (fun Q' E' hq => Zep W ho' hc hq) (fun Q' E' hq => ZhV ⟨o, Heap.get?_push_of_some _ ho', hc⟩ hq)
    (Walks.set (A := A.in1) hh W (Ne.symm hI)) ⟨Nat.zero_le _, ⟨0, ⟨_, Heap.get?_push_size _ rfl, rfl, rfl⟩, fun _ => ?_⟩, Heap.get?_push_of_some _ ho'⟩ ?_ (fun b ob e => Heap.get?_push_of_some _ e) (by rw [sizeLine_eq]; omega) fun h' tk acc' c' kp hS' hacc => ?_
  · have h0 := (QF W.I.ris 0).2.1
    by_cases z : below t.place 0 = 0
    · exact z
    · have h1 := (QF W.I.ris 0).1
      have := h0 0 (by omega) (by omega)
      omega
  · intro hm
    rcases List.mem_cons.mp hm with z | hm
    · rw [hz1] at z; exact Nat.ne_of_lt (Nat.lt_succ_self _) z
    · rw [List.mem_singleton] at hm; exact absurd hm (Nat.ne_of_gt hlt)
  · show wpAny (model prog w) A (do
          let o <- load s.heap.objs.size
          match o.data with
          | .seq xs _ => pure xs.toList
          | _ => unsupported "internal:collect") Q E _
    refine wpAny_bind (wpAny_load hS' ?_)
    have ea : acc'.toList = (Zb6 w S ep es).toList.map (·.2) := by
      refine List.ext_getElem? fun j => ?_
      rw [Array.getElem?_toList, List.getElem?_map, Array.getElem?_toList]
      by_cases hj : j < es.size
      · have hj' : j < acc'.size := by rw [hacc.1]; exact hj
        have e : acc'[j]? = some acc'[j] := Array.getElem?_eq_getElem hj'
        obtain ⟨hx, e2⟩ := hacc.2 j _ e
        rw [e, e2]; rfl
      · rw [Array.getElem?_eq_none (by rw [hacc.1]; omega), Array.getElem?_eq_none (by rw [Uq]; omega)]; rfl
    show wpAny _ _ (pure acc'.toList) Q E _
    rw [ea]
    exact wpAny_pure (q h' tk fun b ob e => kp b ob (Nat.ne_of_lt (Heap.lt_size e)) (fun hm => by
      rw [List.mem_singleton, hz1] at hm
      have := Heap.lt_size e
      rw [hm] at this
      exact absurd (Nat.lt_trans (Nat.lt_succ_self _) this) (Nat.lt_irrefl _)) (Heap.get?_push_of_some _ e))
end
end L3
namespace So
open PySem PySem.W PyProof.Rows
noncomputable def run (c:Nat->Nat->Bool) {α:Type}:KasT α->α
  | .ret a=>a
  | .ask i j k=>run c (k (c i j))
theorem Uo (c:Nat->Nat->Bool) {α β:Type} (f:α->KasT β):∀ t:KasT α,run c (t.bind f)=run c (f (run c t))
  | .ret _=>rfl
  | .ask i j k=>Uo c f (k (c i j))
structure Ord (n:Nat) (c:Nat->Nat->Bool):Prop where
  irr:∀ i,i < n->c i i=false
  tr:∀ i j k,i < n->j < n->k < n->c i j=true->c j k=true->c i k=true
  tri:∀ i j,i < n->j < n->i≠j->c i j=true\/c j i=true
variable {n:Nat} {c:Nat->Nat->Bool}
theorem Ord.flip (o:Ord n c) {i j:Nat} (hi:i < n) (hj:j < n) (hne:i≠j) (h:c i j=false):c j i=true:=by
  rcases o.tri i j hi hj hne with z | z
  · rw [h] at z; cases z
  · exact z
structure Pm (n:Nat) (p:Array Nat):Prop where
  perm:p.toList.Perm (List.range n)
theorem Pm.size {p:Array Nat} (h:Pm n p):p.size=n:=by have:=h.perm.length_eq; simpa using this
theorem Pm.get {p:Array Nat} (h:Pm n p) {k:Nat} (hk:k < n):p[k]?=some (p.getD k 0)/\p.getD k 0 < n:=by
  have hs:=h.size
  have e:p[k]?=some (p.getD k 0):=by simp [hs,hk]
  refine ⟨e,?_⟩
  have:p.getD k 0∈p.toList:=by
    rw [<-Array.getElem?_toList] at e
    exact List.mem_of_getElem? e
  exact List.mem_range.mp (h.perm.mem_iff.mp this)
theorem Pm.inj {p:Array Nat} (h:Pm n p) {i j:Nat} (hi:i < n) (hj:j < n) (e:p.getD i 0=p.getD j 0):i=j:=by
  have nd:p.toList.Nodup:=h.perm.nodup_iff.mpr List.nodup_range
  have a:=(h.get hi).1; have b:=(h.get hj).1
  rw [e,<-b] at a
  have hs:=h.size
  rw [<-Array.getElem?_toList,<-Array.getElem?_toList] at a
  exact (List.getElem?_inj (by simpa [hs] using hi) nd).mp a
noncomputable def SortTo (c:Nat->Nat->Bool) (p:Array Nat) (k:Nat):Prop:=∀ i j,i < j->j < k->c (p.getD i 0) (p.getD j 0)=true
theorem Zee (o:Ord n c) {p:Array Nat} (h:Pm n p) {k:Nat} (hk:k<=n) (ha:∀ i,1<=i->i < k->c (p.getD (i-1) 0) (p.getD i 0)=true):SortTo c p k:=by
  intro i j hij hj
  induction j with
  | zero=>omega
  | succ j ih=>
    have s:=ha (j+1) (by omega) hj
    rw [Nat.add_sub_cancel] at s
    by_cases e:i=j
    · rw [e]; exact s
    · exact o.tr _ _ _ (h.get (by omega)).2 (h.get (by omega)).2 (h.get (by omega)).2 (ih (by omega) (by omega)) s
theorem Zg3 (o:Ord n c) {p:Array Nat} (h:Pm n p):∀ (f m:Nat),1<=m->m+f<=n->∃ r,run c (kas_asc p f m)=r/\m<=r/\r<=m+f/\(∀ i,m<=i->i < r->c (p.getD (i-1) 0) (p.getD i 0)=true)/\(r < m+f->c (p.getD r 0) (p.getD (r-1) 0)=true)
  | 0,m,_,_=>⟨m,rfl,Nat.le_refl _,Nat.le_refl _,fun i a b=>by omega,fun a=>by omega⟩
  | f+1,m,h1,h2=>by
    unfold kas_asc
    simp only [run]
    by_cases e:c (p.getD m 0) (p.getD (m-1) 0)=true
    · rw [if_pos e]
      exact ⟨m,rfl,Nat.le_refl _,by omega,fun i a b=>by omega,fun _=>e⟩
    · rw [if_neg e]
      obtain ⟨r,e1,e2,e3,e4,e5⟩:=Zg3 o h f (m+1) (by omega) (by omega)
      refine ⟨r,e1,by omega,by omega,fun i a b=>?_,fun a=>e5 (by omega)⟩
      by_cases z:i=m
      · subst z
        have g1:=(h.get (k:=i) (by omega)).2; have g2:=(h.get (k:=i-1) (by omega)).2
        refine o.flip g1 g2 (fun q=>?_) (by simpa using e)
        have:=h.inj (by omega) (by omega) q; omega
      · exact e4 i (by omega) b
theorem ZgH (o:Ord n c) {p:Array Nat} (h:Pm n p):∀ (f m:Nat),1<=m->m+f<=n->∃ r,run c (kas_desc f p m 0)=(p,r,0)/\m<=r/\r<=m+f/\(∀ i,m<=i->i < r->c (p.getD i 0) (p.getD (i-1) 0)=true)
  | 0,m,_,_=>⟨m,rfl,Nat.le_refl _,Nat.le_refl _,fun i a b=>by omega⟩
  | f+1,m,h1,h2=>by
    unfold kas_desc
    simp only [run]
    by_cases e:c (p.getD m 0) (p.getD (m-1) 0)=true
    · rw [if_pos e,if_neg (by omega)]
      obtain ⟨r,e1,e2,e3,e4⟩:=ZgH o h f (m+1) (by omega) (by omega)
      refine ⟨r,e1,by omega,by omega,fun i a b=>?_⟩
      by_cases z:i=m
      · subst z; exact e
      · exact e4 i (by omega) b
    · rw [if_neg e]
      simp only [run]
      have g1:=(h.get (k:=m) (by omega)).2; have g2:=(h.get (k:=m-1) (by omega)).2
      have:c (p.getD (m-1) 0) (p.getD m 0)=true:=o.flip g1 g2 (fun q=>by have:=h.inj (by omega) (by omega) q; omega) (by simpa using e)
      rw [this,if_pos rfl]
      exact ⟨m,rfl,Nat.le_refl _,by omega,fun i a b=>by omega⟩
theorem ZkA {p:Array Nat} (h:Pm n p) (i j:Nat):Pm n (kas_rev p i j):=⟨((mirror_perm p i j _).toList).trans h.perm⟩
theorem ZfL {p:Array Nat} {m k:Nat} (hm:m<=p.size):(kas_rev p 0 m).getD k 0=if k < m then p.getD (m-1-k) 0 else p.getD k 0:=by
  have e:=getElem?_mirror_all (xs:=p) (i:=0) hm k
  have a:(kas_rev p 0 m).getD k 0=((kas_rev p 0 m)[k]?).getD 0:=by simp
  rw [a]
  unfold kas_rev
  rw [e]
  by_cases z:k < m
  · rw [if_pos ⟨by omega,z⟩,if_pos z,Nat.zero_add]; simp
  · rw [if_neg (by omega),if_neg z]; simp
theorem Zh6 (o:Ord n c) {p:Array Nat} (h:Pm n p) (hn:2<=n):∃ m p',run c (kas_count n p)=(m,p')/\Pm n p'/\1<=m/\m<=n/\SortTo c p' m:=by
  unfold kas_count
  rw [Uo]
  obtain ⟨r,e1,e2,e3,e4,e5⟩:=Zg3 o h (n-1) 1 (Nat.le_refl _) (by omega)
  rw [e1]
  have st:SortTo c p r:=Zee o h (by omega) e4
  by_cases z:r=n
  · rw [if_pos (by simpa using z)]
    exact ⟨r,p,rfl,h,e2,by omega,st⟩
  · rw [if_neg (by simpa using z)]
    by_cases y:r > 1
    · rw [if_pos y]
      simp only [run]
      rw [st 0 (r-1) (by omega) (by omega),if_pos rfl]
      exact ⟨r,p,rfl,h,e2,by omega,st⟩
    · rw [if_neg y]
      have r1:r=1:=by omega
      subst r1
      have d0:=e5 (by omega)
      unfold kas_descPart
      rw [Uo]
      obtain ⟨q,f1,f2,f3,f4⟩:=ZgH o h (n-(1+1)) (1+1) (by omega) (by omega)
      rw [f1]
      simp only
      rw [if_neg (by omega)]
      unfold kas_tail3
      rw [Uo]
      have hp:=ZkA h 0 q
      obtain ⟨m,g1,g2,g3,g4,_⟩:=Zg3 o hp (n-q) q (by omega) (by omega)
      rw [g1]
      refine ⟨m,kas_rev p 0 q,rfl,hp,by omega,by omega,Zee o hp (by omega) fun i a b=>?_⟩
      by_cases w:i < q
      · rw [ZfL (by rw [h.size]; omega),ZfL (by rw [h.size]; omega),if_pos (by omega),if_pos w]
        by_cases v:q-1-i+1=1
        · rw [show q-1-(i-1)=1 by omega,show q-1-i=0 by omega]; exact d0
        · have:=f4 (q-1-(i-1)) (by omega) (by omega)
          rw [show q-1-(i-1)-1=q-1-i by omega] at this
          exact this
      · exact g4 i (by omega) b
theorem Zbf (o:Ord n c) {p:Array Nat} (h:Pm n p) {k:Nat} (hk:k < n) (st:SortTo c p k):∀ (f l r:Nat),r<=l+f->l<=r->r<=k->(∀ i,i < l->c (p.getD i 0) (p.getD k 0)=true)->(∀ i,r<=i->i < k->c (p.getD k 0) (p.getD i 0)=true) ->
    ∃ m,run c (kas_place p k f l r)=m/\m<=k/\(∀ i,i < m->c (p.getD i 0) (p.getD k 0)=true)/\(∀ i,m<=i->i < k->c (p.getD k 0) (p.getD i 0)=true)
  | 0,l,r,h1,h2,h3,a,b=>⟨l,rfl,by omega,a,fun i x y=>b i (by omega) y⟩
  | f+1,l,r,h1,h2,h3,a,b=>by
    unfold kas_place
    by_cases z:l>=r
    · rw [if_pos z]; exact ⟨l,rfl,by omega,a,fun i x y=>b i (by omega) y⟩
    · rw [if_neg z]
      simp only [run]
      have gk:=(h.get hk).2
      by_cases e:c (p.getD k 0) (p.getD ((l+r) / 2) 0)=true
      · rw [if_pos e]
        refine Zbf o h hk st f l ((l+r) / 2) (by omega) (by omega) (by omega) a fun i x y=>?_
        by_cases w:i=(l+r) / 2
        · rw [w]; exact e
        · exact o.tr _ _ _ gk (h.get (by omega)).2 (h.get (by omega)).2 e (st _ _ (by omega) y)
      · rw [if_neg e]
        have q:c (p.getD ((l+r) / 2) 0) (p.getD k 0)=true:=o.flip gk (h.get (by omega)).2 (fun q=>by have:=h.inj hk (by omega) q; omega) (by simpa using e)
        refine Zbf o h hk st f ((l+r) / 2+1) r (by omega) (by omega) h3 (fun i x=>?_) b
        by_cases w:i=(l+r) / 2
        · rw [w]; exact q
        · exact o.tr _ _ _ (h.get (by omega)).2 (h.get (by omega)).2 gk (st _ _ (by omega) (by omega)) q
theorem ZgY {p:Array Nat} {k m i:Nat} (hk:k < p.size) (hm:m<=k):(bubble p k (k-m)).getD i 0=if i=m then p.getD k 0 else if m < i/\i<=k then p.getD (i-1) 0 else p.getD i 0:=by
  have e:=getElem?_bubble hk (k-m) (by omega) i
  have a:(bubble p k (k-m)).getD i 0=((bubble p k (k-m))[i]?).getD 0:=by simp
  rw [a,e,show k-(k-m)=m by omega]
  by_cases z:i=m
  · rw [if_pos z,if_pos z]; simp
  · rw [if_neg z,if_neg z]
    by_cases y:m < i/\i<=k
    · rw [if_pos y,if_pos y]; simp
    · rw [if_neg y,if_neg y]; simp
theorem ZiL (o:Ord n c):∀ (f k:Nat) (p:Array Nat),Pm n p->SortTo c p k->1<=k->k+f=n->∃ q,run c (kas_bin f p k)=q/\Pm n q/\SortTo c q n
  | 0,k,p,h,st,_,e=>⟨p,rfl,h,by rw [<-e]; exact st⟩
  | f+1,k,p,h,st,h1,e=>by
    unfold kas_bin
    rw [Uo]
    obtain ⟨m,e1,e2,e3,e4⟩:=Zbf o h (k:=k) (by omega) st k 0 k (by omega) (by omega) (by omega) (fun i x=>by omega) (fun i x y=>by omega)
    rw [e1]
    have hs:=h.size
    refine ZiL o f (k+1) (bubble p k (k-m)) ⟨((bubble_perm p k _).toList).trans h.perm⟩ (fun i j hij hj=>?_) (by omega) (by omega)
    rw [ZgY (by omega) e2,ZgY (by omega) e2]
    by_cases a:i=m
    · rw [if_pos a,if_neg (by omega),if_pos (by omega)]
      exact e4 (j-1) (by omega) (by omega)
    · rw [if_neg a]
      by_cases b:j=m
      · rw [if_pos b,if_neg (by omega)]
        exact e3 i (by omega)
      · rw [if_neg b]
        by_cases x:m < i/\i<=k
        · rw [if_pos x,if_pos (by omega)]
          exact st _ _ (by omega) (by omega)
        · rw [if_neg x]
          by_cases y:m < j/\j<=k
          · rw [if_pos y]
            exact st _ _ (by omega) (by omega)
          · rw [if_neg y]
            exact st _ _ (by omega) (by omega)
theorem sort_ok (o:Ord n c) (hn:2<=n):Pm n (run c (kas_sort n))/\SortTo c (run c (kas_sort n)) n:=by
  have h0:Pm n (List.toArray (List.range n)):=⟨by simp⟩
  unfold kas_sort
  rw [Uo]
  obtain ⟨m,p',e1,e2,e3,e4,e5⟩:=Zh6 o h0 hn
  rw [e1]
  simp only
  by_cases z:m < n
  · rw [if_pos z,show max m 1=m by omega]
    obtain ⟨q,f1,f2,f3⟩:=ZiL o (n-m) m p' e2 e5 e3 (by omega)
    rw [f1]; exact ⟨f2,f3⟩
  · rw [if_neg z]
    have:m=n:=by omega
    subst this
    exact ⟨e2,e5⟩
noncomputable def Bd (n:Nat) {α:Type} (P:α->Prop):KasT α->Prop
  | .ret a=>P a
  | .ask i j k=>i < n/\j < n/\∀ b,Bd n P (k b)
theorem Bd.bind {α β:Type} {P:α->Prop} {Q:β->Prop} {f:α->KasT β} (hf:∀ a,P a->Bd n Q (f a)):∀ {t:KasT α},Bd n P t->Bd n Q (t.bind f)
  | .ret a,h=>hf a h
  | .ask i j k,h=>⟨h.1,h.2.1,fun b=>Bd.bind hf (h.2.2 b)⟩
theorem wp_run {cmp:Nat->Nat->(Bool->Shared->Prop)->Shared->Prop} {I:Shared->Prop} (hc:∀ i j C s,i < n->j < n->I s->(∀ s',I s'->C (c i j) s')->cmp i j C s) {α:Type} {P:α->Prop} {Q:α->Shared->Prop} :
    ∀ {t:KasT α} {s:Shared},Bd n P t->I s->(∀ s',I s'->Q (run c t) s')->t.kasWp cmp Q s
  | .ret a,s,_,hI,hQ=>hQ s hI
  | .ask i j k,s,h,hI,hQ=>hc i j _ s h.1 h.2.1 hI fun s' hI'=>wp_run hc (h.2.2 (c i j)) hI' hQ
noncomputable def Els (n:Nat) (p:Array Nat):Prop:=∀ x∈p.toList,x < n
theorem Els.get {p:Array Nat} (h:Els n p) (hn:0 < n) (k:Nat):p.getD k 0 < n:=by
  by_cases hk:k < p.size
  · have e:p[k]?=some (p.getD k 0):=by simp [hk]
    rw [<-Array.getElem?_toList] at e
    exact h _ (List.mem_of_getElem? e)
  · have:p.getD k 0=0:=by simp [hk]
    omega
theorem Els.rev {p:Array Nat} (h:Els n p) (i j:Nat):Els n (kas_rev p i j):=fun x hx=>h x ((mirror_perm p i j _).toList.mem_iff.mp hx)
theorem Els.bub {p:Array Nat} (h:Els n p) (i j:Nat):Els n (bubble p i j):=fun x hx=>h x ((bubble_perm p i j).toList.mem_iff.mp hx)
theorem Zg4 (hn:0 < n) {p:Array Nat} (h:Els n p):∀ f m,Bd n (fun _=>True) (kas_asc p f m)
  | 0,m=>trivial
  | f+1,m=>⟨h.get hn _,h.get hn _,fun b=>by cases b <;> first | exact trivial | exact Zg4 hn h f (m+1)⟩
theorem ZbA (hn:0 < n):∀ (f:Nat) (p:Array Nat) (m q:Nat),Els n p->Bd n (fun r=>Els n r.1) (kas_desc f p m q)
  | 0,p,m,q,h=>h
  | f+1,p,m,q,h=>⟨h.get hn _,h.get hn _,fun b=>by
      cases b
      · exact ⟨h.get hn _,h.get hn _,fun d=>by cases d <;> first | exact h | exact ZbA hn f p _ _ h⟩
      · show Bd n _ (if q > 0 then _ else _)
        split
        · exact ZbA hn f _ _ _ (h.rev _ _)
        · exact ZbA hn f _ _ _ h⟩
theorem ZdI (hn:0 < n) {p:Array Nat} (h:Els n p) (m k:Nat):Bd n (fun r=>Els n r.2) (kas_tail3 m k p):=by
  unfold kas_tail3
  refine Bd.bind (P:=fun _=>True) (fun a _=>?_) (Zg4 hn (h.rev 0 m) _ _)
  exact h.rev 0 m
theorem Zf0 (hn:0 < n) {p:Array Nat} (h:Els n p) (m k:Nat):Bd n (fun r=>Els n r.2) (kas_descPart m k p):=
  Bd.bind (fun r hr=>by
    show Bd n _ (if r.2.2 > 0 then _ else _)
    split
    · exact ZdI hn (hr.rev _ _) _ _
    · exact ZdI hn hr _ _) (ZbA hn _ _ _ _ h)
theorem Zh7 (hn:0 < n) {p:Array Nat} (h:Els n p) (k:Nat):Bd n (fun r=>Els n r.2) (kas_count k p):=
  Bd.bind (fun m _=>by
    show Bd n _ (if (m==k)=true then _ else if m > 1 then _ else _)
    split
    · exact h
    · split
      · exact ⟨h.get hn _,h.get hn _,fun b=>by cases b <;> first | exact h | exact Zf0 hn (h.rev _ _) _ _⟩
      · exact Zf0 hn h _ _) (Zg4 hn h _ _)
theorem ZdU (hn:0 < n) {p:Array Nat} (h:Els n p) (k:Nat):∀ f l r,Bd n (fun _=>True) (kas_place p k f l r)
  | 0,l,r=>trivial
  | f+1,l,r=>by
    show Bd n _ (if l>=r then _ else _)
    split
    · exact trivial
    · exact ⟨h.get hn _,h.get hn _,fun b=>by cases b <;> exact ZdU hn h k f _ _⟩
theorem ZiM (hn:0 < n):∀ (f:Nat) (p:Array Nat) (k:Nat),Els n p->Bd n (fun r=>Els n r) (kas_bin f p k)
  | 0,p,k,h=>h
  | f+1,p,k,h=>Bd.bind (fun l _=>ZiM hn f _ _ (h.bub _ _)) (ZdU hn h k _ _ _)
theorem sort_bd (hn:0 < n):Bd n (fun r=>Els n r) (kas_sort n):=
  Bd.bind (fun r hr=>by
    show Bd n _ (if r.1 < n then _ else _)
    split
    · exact ZiM hn _ _ _ hr
    · exact hr) (Zh7 hn (fun x hx=>List.mem_range.mp (by simpa using hx)) n)
end So
namespace L3
open PySem PySem.Spec PyProof.Rows L2 SetTab PySem.SetTable PySem.W
section
variable {prog:Program} {w:World} {A:Around} {E:Value->Shared->Prop} {s:Shared} {Q:Bool->Shared->Prop}
theorem Ziy:∀ (k1 k2:List Int) (v1 v2:List Value) (i:Nat),PySem.ItemsAre (intKind prog w) k1 v1->PySem.ItemsAre (intKind prog w) k2 v2->k1.length=k2.length->Q (HT.lexLt k1 k2) s->KatLex prog w A true false Q (v1.zip v2) i s
  | [],[],_,_,i,.nil,.nil,_,h=>h
  | [],_::_,_,_,i,_,_,hl,_=>by simp at hl
  | _::_,[],_,_,i,_,_,hl,_=>by simp at hl
  | a::k1,b::k2,_,_,i,.cons ha i1,.cons hb i2,hl,h=>by
    obtain ⟨t,rfl⟩:=Value.isInt_shape ha
    obtain ⟨u,rfl⟩:=Value.isInt_shape hb
    refine kat_cons (wpAny_eqBool_int ?_)
    rw [HT.lexLt_cons] at h
    by_cases e:a=b
    · rw [if_pos e] at h
      rw [show (a==b)=true by simp [e]]
      exact kat_yes (Ziy k1 k2 _ _ (i+1) i1 i2 (by simpa using hl) h)
    · rw [if_neg e] at h
      rw [show (a==b)=false by simp [e]]
      refine kat_no ?_
      cases hi:(true&&i==0) with
      | true=>exact oneLt_int h
      | false=>exact kat_one _ _ (PyProof.Rows.lt_int h)
theorem Zmo {x y:Addr} {k1 k2:List Int} (h1:TK prog w s.heap k1 x) (h2:TK prog w s.heap k2 y) (hl:k1.length=k2.length) (q:Q (HT.lexLt k1 k2) s):wpAny (model prog w) A (keyLt' (tuples' true) (.ref x) (.ref y)) Q E s:=by
  obtain ⟨o1,i1,n1,a1,b1,c1,d1⟩:=h1
  obtain ⟨o2,i2,n2,a2,b2,c2,d2⟩:=h2
  refine kat_lt a1 c1 a2 c2 ?_
  have e1:i1.size=k1.length:=by have:=d1.length; simpa using this.symm
  have e2:i2.size=k2.length:=by have:=d2.length; simpa using this.symm
  rw [show decide (i1.size < i2.size)=false by rw [e1,e2,hl]; simp]
  exact Ziy k1 k2 _ _ 0 d1 d2 hl q
theorem Zmp {a:Addr} {vs:List Value} {ks:List (List Int)} {n m:Nat} {P:PySem.Fin->Shared->Prop} (ho:s.heap.get? a=some (seqObj "list" vs.toArray n)) (h2:2<=vs.length) (h64:vs.length < 64) (hlen:ks.length=vs.length)
    (hord:So.Ord vs.length fun i j=>HT.lexLt (ks.getD i []) (ks.getD j [])) (hm:∀ k∈ks,k.length=m+1) (hk:∀ (i:Nat) (v:Value) (k:List Int),vs[i]?=some v->ks[i]?=some k->∃ b,v=Value.ref b/\TK prog w s.heap k b)
    (q:∀ p:Array Nat,So.Pm vs.length p->So.SortTo (fun i j=>HT.lexLt (ks.getD i []) (ks.getD j [])) p vs.length->∀ h' c,(∀ b o,b≠a->s.heap.get? b=some o->h'.get? b=some o)->h'.get? a=some (seqObj "list" (p.toList.map fun i=>vs.getD i Value.none).toArray c)->P (.done (.ret .none)) { s with heap:=h' }) :
    wpAny (model prog w) A (Builtin.«list.sort» ⟨[.ref a],[]⟩) P E s:=by
  have s1:=Heap.SameBut.update s.heap a (Obj.mapSeq fun _=>(#[]:Array Value))
  obtain ⟨e1,ho1⟩:∃ e1,(s.heap.update a (Obj.mapSeq fun _=>(#[]:Array Value))).get? a=some (seqObj "list" #[] e1):=⟨_,get?_update_seq ho fun _=>#[]⟩
  rw [list_sort_plain]
  refine wpAny_bind (listItems_at ho rfl ?_)
  refine wpAny_bind (listUpdate_at ho rfl ?_ (by rw [List.size_toArray,sizeLine_eq]; omega) (Nat.zero_le _))
  refine wpAny_bind (seqEpoch_at ho1 rfl ?_)
  refine wpAny_bind (wpAny_newTuple ?_ (by show vs.length<=_; rw [sizeLine_eq]; omega))
  refine wpAny_bind (wpAny_newList ?_ (Nat.zero_le _))
  refine wpAny_holding ?_
  show wpAny (model prog w) A _ P E { s with heap:=((s.heap.update a (Obj.mapSeq fun _=>(#[]:Array Value))).push (seqObj "tuple" vs.toArray 0)).push (seqObj "list" #[] 0) }
  dsimp only
  have hn2:¬ vs.toArray.size < 2:=by rw [List.size_toArray]; omega
  rw [if_neg hn2,if_neg hn2]
  have kp:∀ b o,b≠a->s.heap.get? b=some o->(((s.heap.update a (Obj.mapSeq fun _=>(#[]:Array Value))).push (seqObj "tuple" vs.toArray 0)).push (seqObj "list" #[] 0)).get? b=some o:=fun b o hb e=>
    Heap.get?_push_of_some _ (Heap.get?_push_of_some _ ((s1.2 b hb).trans e))
  have hoa:(((s.heap.update a (Obj.mapSeq fun _=>(#[]:Array Value))).push (seqObj "tuple" vs.toArray 0)).push (seqObj "list" #[] 0)).get? a=some (seqObj "list" #[] e1):=Heap.get?_push_of_some _ (Heap.get?_push_of_some _ ho1)
  have tk:∀ (i:Nat) (v:Value) (k:List Int),vs[i]?=some v->ks[i]?=some k->∃ b,v=Value.ref b/\TK prog w (((s.heap.update a (Obj.mapSeq fun _=>(#[]:Array Value))).push (seqObj "tuple" vs.toArray 0)).push (seqObj "list" #[] 0)) k b:=fun i v k h1 h2=>by
    obtain ⟨b,rfl,ob,items,nn,g1,g2,g3,g4⟩:=hk i v k h1 h2
    have ne:b≠a:=fun z=>by
      rw [z,ho] at g1; cases g1
      have g2':Value.type "list"=Value.type "tuple":=g2
      exact absurd g2' (by simp)
    exact ⟨b,rfl,ob,items,nn,kp b ob ne g1,g2,g3,g4⟩
  generalize ((s.heap.update a (Obj.mapSeq fun _=>(#[]:Array Value))).push (seqObj "tuple" vs.toArray 0)).push (seqObj "list" #[] 0)=h3 at kp hoa tk
  have gk:∀ i,i < vs.length->∃ k b,ks[i]?=some k/\ks.getD i []=k/\vs[i]?=some (Value.ref b)/\vs.getD i Value.none=Value.ref b/\TK prog w h3 k b/\k.length=m+1:=fun i hi=>by
    have e1:ks[i]?=some ks[i]:=List.getElem?_eq_getElem (by omega)
    have e2:vs[i]?=some vs[i]:=List.getElem?_eq_getElem hi
    obtain ⟨b,e3,e4⟩:=tk i _ _ e2 e1
    refine ⟨ks[i],b,e1,by simp [e1],by rw [e2,e3],by simp [e2,e3],e4,hm _ (List.getElem_mem _)⟩
  have n0:0 < vs.length:=by omega
  obtain ⟨fs,kt,hfl,hfi⟩:∃ fs,KatTups h3 vs fs/\0 < fs.length/\∀ v∈fs,∃ k t,v=Value.int k t:=by
    have go:∀ (l:List Value),(∀ v∈l,∃ k b,v=Value.ref b/\TK prog w h3 k b/\k.length=m+1)->∃ fs,KatTups h3 l fs/\fs.length=l.length/\∀ v∈fs,∃ k t,v=Value.int k t:=by
      intro l
      induction l with
      | nil=>exact fun _=>⟨[],KatTups.nil,rfl,fun v hv=>by cases hv⟩
      | cons v l ih=>
        intro h
        obtain ⟨fs,f1,f2,f3⟩:=ih fun x hx=>h x (List.mem_cons_of_mem _ hx)
        obtain ⟨k,b,rfl,⟨ob,items,nn,g1,g2,g3,g4⟩,g5⟩:=h v List.mem_cons_self
        cases k with
        | nil=>simp at g5
        | cons k0 kr=>
          cases e:items.toList with
          | nil=>rw [e] at g4; cases g4
          | cons v0 vr=>
            rw [e] at g4
            cases g4 with
            | cons g6 g7=>
              obtain ⟨t,rfl⟩:=Value.isInt_shape g6
              refine ⟨Value.int k0 t::fs,KatTups.cons g1 g2 g3 (by rw [<-Array.getElem?_toList,e]; rfl) f1,by simp [f2],fun x hx=>?_⟩
              rcases List.mem_cons.mp hx with z | z
              · exact ⟨_,_,z⟩
              · exact f3 x z
    obtain ⟨fs,f1,f2,f3⟩:=go vs fun v hv=>by
      obtain ⟨i,hi,e⟩:=List.getElem_of_mem hv
      obtain ⟨k,b,_,_,x3,_,x5,x6⟩:=gk i hi
      rw [List.getElem?_eq_getElem hi,e] at x3
      exact ⟨k,b,Option.some.inj x3,x5,x6⟩
    exact ⟨fs,f1,by omega,f3⟩
  refine wpAny_bind (kat_kind (s:={ s with heap:=h3 }) kt hfl (T:=.type "int") (fun v hv=>?_) (by decide) ?_)
  · obtain ⟨k,t,rfl⟩:=hfi v hv
    exact Looks.of_pure rfl
  have e0:(Value.type "int" != Value.type "tuple")=true:=by decide
  rw [e0]
  have so:=So.sort_ok hord h2
  have hcmp:∀ i j C (s':Shared),i < vs.length->j < vs.length->s'={ s with heap:=h3 }->(∀ s'',s''={ s with heap:=h3 }->C (HT.lexLt (ks.getD i []) (ks.getD j [])) s'')->kas_ask prog w A (tuples' true) vs i j C s':=by
    intro i j C s' hi hj e hC
    subst e
    obtain ⟨k1,b1,_,x2,_,x4,x5,x6⟩:=gk i hi
    obtain ⟨k2,b2,_,y2,_,y4,y5,y6⟩:=gk j hj
    unfold kas_ask
    rw [x4,y4]
    rw [x2,y2] at hC
    exact Zmo (s:={ s with heap:=h3 }) x5 y5 (by rw [x6,y6]) (hC _ rfl)
  have run:=So.wp_run (cmp:=kas_ask prog w A (tuples' true) vs) (I:=fun s'=>s'={ s with heap:=h3 }) hcmp (Q:=fun p s'=>p=So.run (fun i j=>HT.lexLt (ks.getD i []) (ks.getD j [])) (kas_sort vs.length)/\s'={ s with heap:=h3 }) (So.sort_bd n0) rfl fun s' e=>⟨rfl,e⟩
  refine wpAny_bind (wpAny_mono (kat_run (Q:=fun st' s'=>∃ p:Array Nat,p.size=vs.length/\arrOf st'=p.map (kas_item (vs.toArray.zip vs.toArray))/\failedOf st'=none/\p=So.run (fun i j=>HT.lexLt (ks.getD i []) (ks.getD j [])) (kas_sort vs.length)/\s'={ s with heap:=h3 })
    rfl h2 h64 (fun p' st' s' a1 a2 a3 a4=>⟨p',a1,a2,a3,a4.1,a4.2⟩) run) ?_ fun _ _ e=>e)
  rintro ⟨⟨⟩,st'⟩ s' ⟨p,hp,har,hf,ep,rfl⟩
  rw [<-ep] at so
  dsimp only
  have hout:=kat_snds rfl har
  have hsz:(List.toArray (p.toList.map fun i=>vs.getD i Value.none)).size=vs.length:=by rw [List.size_toArray,List.length_map,Array.length_toList,hp]
  rw [hout]
  have s2:=Heap.SameBut.update h3 a (Obj.mapSeq fun _=>List.toArray (p.toList.map fun i=>vs.getD i Value.none))
  obtain ⟨c2,hc2⟩:∃ c2,(h3.update a (Obj.mapSeq fun _=>List.toArray (p.toList.map fun i=>vs.getD i Value.none))).get? a=some (seqObj "list" (List.toArray (p.toList.map fun i=>vs.getD i Value.none)) c2):=⟨_,get?_update_seq hoa fun _=>List.toArray (p.toList.map fun i=>vs.getD i Value.none)⟩
  refine wpAny_bind (seqEpoch_at hoa rfl ?_)
  refine wpAny_bind (listUpdate_at hoa rfl ?_ (Nat.zero_le _) (Nat.le_trans (Nat.le_of_eq hsz) (by rw [sizeLine_eq]; omega)))
  rw [hf]
  simp only [bne_self_eq_false,Bool.false_eq_true,if_false]
  exact wpAny_pure (q p so.1 so.2 _ c2 (fun b o hb e=>(s2.2 b hb).trans (kp b o hb e)) hc2)
theorem Zlb {a:Addr} {vs:List Value} {n:Nat} {P:PySem.Fin->Shared->Prop} (ho:s.heap.get? a=some (seqObj "list" vs.toArray n)) (h2:vs.length < 2)
    (q:∀ h' c,(∀ b o,b≠a->s.heap.get? b=some o->h'.get? b=some o)->h'.get? a=some (seqObj "list" vs.toArray c)->P (.done (.ret .none)) { s with heap:=h' }) :
    wpAny (model prog w) A (Builtin.«list.sort» ⟨[.ref a],[]⟩) P E s:=by
  have s1:=Heap.SameBut.update s.heap a (Obj.mapSeq fun _=>(#[]:Array Value))
  obtain ⟨e1,ho1⟩:∃ e1,(s.heap.update a (Obj.mapSeq fun _=>(#[]:Array Value))).get? a=some (seqObj "list" #[] e1):=⟨_,get?_update_seq ho fun _=>#[]⟩
  rw [list_sort_plain]
  refine wpAny_bind (listItems_at ho rfl ?_)
  refine wpAny_bind (listUpdate_at ho rfl ?_ (by rw [List.size_toArray,sizeLine_eq]; omega) (Nat.zero_le _))
  refine wpAny_bind (seqEpoch_at ho1 rfl ?_)
  refine wpAny_bind (wpAny_newTuple ?_ (by show vs.length<=_; rw [sizeLine_eq]; omega))
  refine wpAny_bind (wpAny_newList ?_ (Nat.zero_le _))
  refine wpAny_holding ?_
  show wpAny (model prog w) A _ P E { s with heap:=((s.heap.update a (Obj.mapSeq fun _=>(#[]:Array Value))).push (seqObj "tuple" vs.toArray 0)).push (seqObj "list" #[] 0) }
  dsimp only
  have hn2:vs.toArray.size < 2:=by rw [List.size_toArray]; omega
  have kp:∀ b o,b≠a->s.heap.get? b=some o->(((s.heap.update a (Obj.mapSeq fun _=>(#[]:Array Value))).push (seqObj "tuple" vs.toArray 0)).push (seqObj "list" #[] 0)).get? b=some o:=fun b o hb e=>
    Heap.get?_push_of_some _ (Heap.get?_push_of_some _ ((s1.2 b hb).trans e))
  have hoa:(((s.heap.update a (Obj.mapSeq fun _=>(#[]:Array Value))).push (seqObj "tuple" vs.toArray 0)).push (seqObj "list" #[] 0)).get? a=some (seqObj "list" #[] e1):=Heap.get?_push_of_some _ (Heap.get?_push_of_some _ ho1)
  generalize ((s.heap.update a (Obj.mapSeq fun _=>(#[]:Array Value))).push (seqObj "tuple" vs.toArray 0)).push (seqObj "list" #[] 0)=h3 at kp hoa
  rw [if_pos hn2,if_pos hn2]
  refine wpAny_bind (wpAny_pure ?_)
  rw [StateT.run_pure]
  refine wpAny_bind (wpAny_pure ?_)
  dsimp only
  have eo:(vs.toArray.zip vs.toArray).map (·.2)=vs.toArray:=by
    apply Array.toList_inj.mp
    rw [Array.toList_map,Array.toList_zip,<-List.unzip_snd,List.unzip_zip (by simp)]
  refine wpAny_bind (seqEpoch_at hoa rfl ?_)
  have s2:=Heap.SameBut.update h3 a (Obj.mapSeq fun _=>vs.toArray)
  obtain ⟨c2,hc2⟩:∃ c2,(h3.update a (Obj.mapSeq fun _=>vs.toArray)).get? a=some (seqObj "list" vs.toArray c2):=⟨_,get?_update_seq hoa fun _=>vs.toArray⟩
  refine wpAny_bind (listUpdate_at hoa rfl ?_ (Nat.zero_le _) (by
    refine Nat.le_trans (Nat.le_of_eq ?_) (show vs.length<=_ by rw [sizeLine_eq]; omega)
    show ((vs.toArray.zip vs.toArray).map (·.2)).size=_
    rw [eo]; simp))
  simp only [bne_self_eq_false,Bool.false_eq_true,if_false]
  have eo':(h3.update a (Obj.mapSeq fun _=>(vs.toArray.zip vs.toArray).map (·.2)))=h3.update a (Obj.mapSeq fun _=>vs.toArray):=by rw [eo]
  refine wpAny_pure ?_
  show P _ { s with heap:=h3.update a (Obj.mapSeq fun _=>(vs.toArray.zip vs.toArray).map (·.2)) }
  rw [eo']
  exact q _ c2 (fun b o hb e=>(s2.2 b hb).trans (kp b o hb e)) hc2
end
theorem VL:∀ k:List Int,HT.lexLt k k=false
  | []=>rfl
  | a::k=>by rw [HT.lexLt_cons,if_pos rfl]; exact VL k
theorem ZdZ:∀ a b c:List Int,HT.lexLt a b=true->HT.lexLt b c=true->HT.lexLt a c=true
  | [],[],_,h,_=>by cases h
  | [],_::_,[],_,h=>by cases h
  | [],_::_,_::_,_,_=>rfl
  | _::_,[],_,h,_=>by cases h
  | _::_,_::_,[],_,h=>by cases h
  | x::a,y::b,z::c,h1,h2=>by
    rw [HT.lexLt_cons] at h1 h2 ⊢
    by_cases e1:x=y
    · rw [if_pos e1] at h1
      by_cases e2:y=z
      · rw [if_pos e2] at h2
        rw [if_pos (e1.trans e2)]; exact ZdZ a b c h1 h2
      · rw [if_neg e2] at h2
        rw [if_neg (by omega),e1]; exact h2
    · rw [if_neg e1] at h1
      have h1':=of_decide_eq_true h1
      by_cases e2:y=z
      · rw [if_pos e2] at h2
        rw [if_neg (by omega)]; exact decide_eq_true (by omega)
      · rw [if_neg e2] at h2
        have h2':=of_decide_eq_true h2
        rw [if_neg (by omega)]; exact decide_eq_true (by omega)
theorem Zdj:∀ a b:List Int,a.length=b.length->a≠b->HT.lexLt a b=true\/HT.lexLt b a=true
  | [],[],_,h=>absurd rfl h
  | [],_::_,h,_=>by simp at h
  | _::_,[],h,_=>by simp at h
  | x::a,y::b,hl,hn=>by
    rw [HT.lexLt_cons,HT.lexLt_cons]
    by_cases e:x=y
    · subst e
      rw [if_pos rfl,if_pos rfl]
      exact Zdj a b (by simpa using hl) fun z=>hn (by rw [z])
    · rw [if_neg e,if_neg (Ne.symm e)]
      rcases Int.lt_or_gt_of_ne e with h | h
      · exact .inl (decide_eq_true h)
      · exact .inr (decide_eq_true h)
noncomputable def ZiA (k:List Int):List (List Int)->List (List Int)
  | []=>[k]
  | x::r=>if k=x then x::r else if HT.lexLt k x=true then k::x::r else x::ZiA k r
noncomputable def Zfm:List (List Int)->List (List Int)
  | []=>[]
  | k::ks=>ZiA k (Zfm ks)
theorem insK_mem {k x:List Int}:∀ {l:List (List Int)},x∈ZiA k l ↔ x=k\/x∈l
  | []=>by simp [ZiA]
  | y::r=>by
    unfold ZiA
    by_cases e:k=y
    · rw [if_pos e]; subst e; simp
    · rw [if_neg e]
      by_cases h:HT.lexLt k y=true
      · rw [if_pos h]; simp
      · rw [if_neg h,List.mem_cons,insK_mem,List.mem_cons]
        constructor
        · rintro (z | z | z)
          · exact .inr (.inl z)
          · exact .inl z
          · exact .inr (.inr z)
        · rintro (z | z | z)
          · exact .inr (.inl z)
          · exact .inl z
          · exact .inr (.inr z)
theorem srtK_mem {x:List Int}:∀ {l:List (List Int)},x∈Zfm l ↔ x∈l
  | []=>by simp [Zfm]
  | k::l=>by unfold Zfm; rw [insK_mem,srtK_mem,List.mem_cons]
noncomputable def ZiO (l:List (List Int)):Prop:=l.Pairwise fun a b=>HT.lexLt a b=true
theorem Zd5 {k:List Int}:∀ {l:List (List Int)},ZiO l->(∀ x∈l,x.length=k.length)->ZiO (ZiA k l)
  | [],_,_=>by simp [ZiA,ZiO]
  | y::r,h,hl=>by
    obtain ⟨h1,h2⟩:=List.pairwise_cons.mp h
    unfold ZiA
    by_cases e:k=y
    · rw [if_pos e]; exact h
    · rw [if_neg e]
      by_cases hk:HT.lexLt k y=true
      · rw [if_pos hk]
        refine List.pairwise_cons.mpr ⟨fun z hz=>?_,h⟩
        rcases List.mem_cons.mp hz with q | q
        · rw [q]; exact hk
        · exact ZdZ _ _ _ hk (h1 z q)
      · rw [if_neg hk]
        refine List.pairwise_cons.mpr ⟨fun z hz=>?_,Zd5 h2 fun x hx=>hl x (List.mem_cons_of_mem _ hx)⟩
        rcases insK_mem.mp hz with q | q
        · rw [q]
          rcases Zdj k y (hl y List.mem_cons_self).symm e with w | w
          · exact absurd w hk
          · exact w
        · exact h1 z q
theorem Va {m:Nat}:∀ {l:List (List Int)},(∀ x∈l,x.length=m)->ZiO (Zfm l)
  | [],_=>List.Pairwise.nil
  | k::l,h=>Zd5 (Va fun x hx=>h x (List.mem_cons_of_mem _ hx)) fun x hx=>by rw [h x (List.mem_cons_of_mem _ (srtK_mem.mp hx)),h k List.mem_cons_self]
theorem ZfK:∀ {l m:List (List Int)},ZiO l->ZiO m->(∀ x,x∈l ↔ x∈m)->l=m
  | [],[],_,_,_=>rfl
  | [],y::m,_,_,h=>absurd ((h y).mpr List.mem_cons_self) (by simp)
  | x::l,[],_,_,h=>absurd ((h x).mp List.mem_cons_self) (by simp)
  | x::l,y::m,h1,h2,h=>by
    obtain ⟨a1,a2⟩:=List.pairwise_cons.mp h1
    obtain ⟨b1,b2⟩:=List.pairwise_cons.mp h2
    have e:x=y:=by
      rcases List.mem_cons.mp ((h x).mp List.mem_cons_self) with q | q
      · exact q
      · rcases List.mem_cons.mp ((h y).mpr List.mem_cons_self) with w | w
        · exact w.symm
        · have:=ZdZ _ _ _ (b1 x q) (a1 y w)
          rw [VL] at this; cases this
    subst e
    congr 1
    refine ZfK a2 b2 fun z=>?_
    have hz:=h z
    rw [List.mem_cons,List.mem_cons] at hz
    constructor
    · intro q
      rcases hz.mp (.inr q) with w | w
      · subst w; have:=a1 z q; rw [VL] at this; cases this
      · exact w
    · intro q
      rcases hz.mpr (.inr q) with w | w
      · subst w; have:=b1 z q; rw [VL] at this; cases this
      · exact w
theorem Zbq:∀ ks:List (List Int),(U7 ks).length<=ks.length
  | []=>Nat.le_refl _
  | k::ks=>by
    have ih:=Zbq ks
    unfold U7
    split
    · simp; omega
    · simp; omega
noncomputable def kD (k:List Int):D:=.tup (k.map .int)
noncomputable def Vp:D->Option D:=fun d=>(Qb d).bind fun xs=>(JH xs).bind fun ks=>if ks.length<=60/\ks.all (fun k=>k.length==2)=true then some (.lst ((Zfm ks).map kD)) else none
section
variable {X:Cx} {pins:List (Addr×Obj)} {σ:L2.St} {H:Hp} {s:Shared} {F:Fz}
theorem ZeO {e:Expr} {f:DE} {p1 p2 p3 p4:Pos} (hc:X.calm=true) (hu:X.A.units+64 < cLine) (hgl:Gl X "sorted") (hml:X.mg "sorted"=none) (hgs:Gl X "set") (hms:X.mg "set"=none) (he:ED X e f)
    (hst:starEach [e] X.env=[(false,eval e X.env)]:=by rfl) (hst2:starEach [Expr.Call (.Name "set" p2) [e] [] p3] X.env=[(false,eval (.Call (.Name "set" p2) [e] [] p3) X.env)]:=by rfl) :
    ED X (.Call (.Name "sorted" p1) [.Call (.Name "set" p2) [e] [] p3] [] p4) (YO Vp f):=by
  intro pins s σ H Q I h
  obtain ⟨ρ,F0,H0,F,d,ok,ed,q⟩:=h
  obtain ⟨x,ex,ed⟩:=bind_some ed
  obtain ⟨xs,es,ed⟩:=bind_some ed
  obtain ⟨ks,ek,ed⟩:=bind_some ed
  obtain ⟨⟨hn,hlen2⟩,rfl⟩:=Yp ed
  have hl2:∀ k∈ks,k.length=2:=fun k hk=>by
    have:=List.all_eq_true.mp hlen2 k hk
    simpa using this
  refine wpAny_Call_Name_kw (J0 I hgl hml PyProof.Rows.boot_sorted (PyProof.Rows.callWith_builtin1 ?_ (by rw [hst2]; rfl) (by rfl)) (by decide) (by decide))
  rw [hst2]
  show wpAny _ _ (spliced ((false,eval (.Call (.Name "set" p2) [e] [] p3) X.env)::[])) _ _ s
  refine Calls.spliced_cons (wpAny_Call_Name_kw (J0 I hgs hms PyProof.Rows.boot_set (PyProof.Rows.callWith_type1 ?_ (by rw [hst]; rfl) (by rfl)) (by decide) (by decide)))
  rw [hst]
  show wpAny _ _ (spliced ((false,eval e X.env)::[])) _ _ s
  refine Calls.spliced_cons (thn (he pins s σ H (fun v H'=>∃ F',Grow F H F' H'/\Rep X.K F' H' x v) I ⟨ρ,F0,H0,F,x,ok,ex,fun v F' H' g r=>⟨F',g,r⟩⟩) fun u s1 ⟨v,H1,I1,r1,F1,g1,rx⟩=>Calls.spliced_nil ?_)
  refine Zfy (A:=X.A) (I1.ok.hd hc) (by omega) I1 es ek (by omega) rx r1 fun h' tk keys hS hm kp=>Calls.spliced_nil ?_
  obtain ⟨o,ens,ep,t,h1,h2,h3,h4,h5,h6,h7,h8,h9,h10,h11⟩:=hS
  have hroom:=h4.room
  have hfit:t.fits ens.size=true:=by have z1:=h4.size; have z2:=h4.dm; simp [SetTable.fits,SetTable.fill,z1,z2,hroom]
  have W:ZlT X.w s1.heap.objs.size o ens ep t:=⟨h3,hfit,h4,h9,h10⟩
  have hcl:o.cls=.type "set":=h2.1
  have hns:ens.size<=60:=by
    have e1:keys.length=ens.size:=h5.length
    have e2:(U7 ks).length=keys.length:=WT (Jm ks) h6 fun y=>by rw [mem_nubI,hm y]
    have e3:=Zbq ks
    omega
  obtain ⟨kk,kl,km,kt⟩:∃ kk:List (List Int),kk.length=ens.size/\kk.Perm keys/\∀ (i:Nat) (v:Value) (k:List Int),((Zb6 X.w s1.heap.objs.size ep ens).toList.map (·.2))[i]?=some v->kk[i]?=some k->∃ b,v=Value.ref b/\TK X.prog X.w h' k b/\∃ (j:Nat) (dd:D),xs[j]?=some dd/\Rep X.K F1 H1 dd (.ref b):=by
    obtain ⟨kk,al2,pm2⟩:=Al.perm (Zbg X.w s1.heap.objs.size ep ens) h5
    refine ⟨kk,by rw [al2.length]; simp [Uq],pm2,fun i v k hv hk=>?_⟩
    obtain ⟨b,e1,e2⟩:=al2.get hk
    rw [List.getElem?_map,e1] at hv
    cases hv
    obtain ⟨b',e3,j,dd,_,e4,e5⟩:=h11 _ ((Zbg X.w s1.heap.objs.size ep ens).mem_iff.mp (List.mem_of_getElem? e1))
    cases e3
    exact ⟨b,rfl,e2,j,dd,e4,e5⟩
  generalize hvs:(Zb6 X.w s1.heap.objs.size ep ens).toList.map (·.2)=vals at kt
  have hvl:vals.length=ens.size:=by rw [<-hvs]; simp [Uq]
  have kk2:∀ k∈kk,k.length=2:=fun k hk=>hl2 k ((hm k).mp (km.mem_iff.mp hk))
  have knd:kk.Nodup:=km.nodup_iff.mpr h6
  refine Calls.call_function_entry kind_sorted plain_sorted entry_sorted (args_sorted1 _) ?_
  unfold Builtin.«sorted»
  refine wpAny_bind (m:=checkCount "sorted" 1 1 _) (wpAny_pure ?_)
  refine wpAny_bind (Zdq (s:={ s1 with heap:=h',toks:=tk }) (A:=X.A.in1) (I1.ok.hd hc) W h1 hcl (by omega) fun h2' tk2 kp2=>?_)
  rw [hvs]
  refine wpAny_bind (wpAny_newList ?_ (by rw [sizeLine_eq]; omega))
  have hoL:(h2'.push (seqObj "list" vals.toArray 0)).get? h2'.objs.size=some (seqObj "list" vals.toArray 0):=Heap.get?_push_size _ rfl
  have sz:s1.heap.objs.size<=h2'.objs.size:=by
    have:=Heap.lt_size (kp2 _ _ h1)
    exact Nat.le_of_lt this
  have done:∀ (ys:List Value) (zs:List (List Int)) (h3:Heap) (c:Nat),(∀ b o,b≠h2'.objs.size->(h2'.push (seqObj "list" vals.toArray 0)).get? b=some o->h3.get? b=some o)->h3.get? h2'.objs.size=some (seqObj "list" ys.toArray c)->zs.length=ys.length ->
      zs=Zfm ks->(∀ (i:Nat) (v:Value) (k:List Int),ys[i]?=some v->zs[i]?=some k->∃ b,v=Value.ref b/\TK X.prog X.w h' k b/\∃ (j:Nat) (dd:D),xs[j]?=some dd/\Rep X.K F1 H1 dd (.ref b)) ->
      EP X pins σ Q (.ref h2'.objs.size) { s1 with heap:=h3,toks:=tk2 }:=by
    intro ys zs h3 c k3 ho3 hlz hz hyz
    have keyOf:∀ (k:List Int) (b:Addr) (j:Nat) (dd:D),TK X.prog X.w h' k b->xs[j]?=some dd->Rep X.K F1 H1 dd (.ref b)->dd=kD k:=fun k b j dd tk1 ej rj=>by
      have hj:j < xs.length:=(List.getElem?_eq_some_iff.mp ej).1
      have hj2:j < ks.length:=by rw [VN ek]; exact hj
      have e1:=Us ek (List.getElem?_eq_getElem hj2)
      rw [ej] at e1
      cases e1
      obtain ⟨b',e2,o2,i2,n2,g1,g2,g3,g4⟩:=Zki I1 rj (show L2.RelV (.ref b) (.ref b) from rfl)
      cases e2
      obtain ⟨o3,i3,n3,f1,f2,f3,f4⟩:=tk1
      rw [kp _ _ g1] at f1; cases f1
      rw [g3] at f3; cases f3
      show D.tup _=D.tup _
      rw [PySem.ItemsAre.inj f4 g4]
    obtain ⟨us,ru,rl⟩:∃ us,Vals us ys/\RepL X.K F1 H1 (zs.map kD) us:=by
      have go:∀ (ys:List Value) (zs:List (List Int)),zs.length=ys.length->(∀ (i:Nat) (v:Value) (k:List Int),ys[i]?=some v->zs[i]?=some k->∃ b,v=Value.ref b/\TK X.prog X.w h' k b/\∃ (j:Nat) (dd:D),xs[j]?=some dd/\Rep X.K F1 H1 dd (.ref b))->∃ us,Vals us ys/\RepL X.K F1 H1 (zs.map kD) us:=by
        intro ys
        induction ys with
        | nil=>
          intro zs hl _
          have e:zs=[]:=List.eq_nil_of_length_eq_zero (by simpa using hl)
          subst e; exact ⟨[],.nil,.nil⟩
        | cons y ys ih=>
          intro zs hl hh
          cases zs with
          | nil=>simp at hl
          | cons z zs=>
            obtain ⟨us,u1,u2⟩:=ih zs (by simpa using hl) fun i v k a b=>hh (i+1) v k (by simpa using a) (by simpa using b)
            obtain ⟨b,rfl,t1,j,dd,t2,t3⟩:=hh 0 y z rfl rfl
            have e:=keyOf z b j dd t1 t2 t3
            subst e
            exact ⟨.ref b::us,.cons rfl u1,.cons t3 u2⟩
      exact go ys zs hlz hyz
    have hf:H1 h2'.objs.size=none:=I1.hok.fresh sz
    have hul:us.length<=sizeLine:=by
      rw [ru.length,<-hlz,hz]
      have e2:(Zfm ks).length=(U7 ks).length:=WT ((Va hl2).imp fun {a b} h e=>by subst e; rw [VL] at h; cases h) (Jm ks) fun y=>by rw [srtK_mem,mem_nubI]
      have e3:=Zbq ks
      rw [e2,sizeLine_eq]; omega
    rw [hz] at rl
    refine ⟨.ref h2'.objs.size,upd H1 h2'.objs.size (.lst us),I1.laid (t':=tk2) (fun b o e=>k3 b o (fun z=>?_) (Heap.get?_push_of_some _ (kp2 _ _ (kp _ _ e)))) sz ?_,rfl,q _ _ _ (g1.trans (.laid hf)) (YR hf rl)⟩
    · have:=Heap.lt_size e
      rw [z] at this
      exact absurd (Nat.lt_of_lt_of_le this sz) (Nat.lt_irrefl _)
    · exact ⟨hul,ys,c,ru,ho3⟩
  refine wpAny_bind (wpAny_holding (wpAny_call_entry slot_list_sort ⟨_,hoL,rfl⟩ entry_list_sort ?_ (args_list_sort _)))
  by_cases h2n:vals.length < 2
  · refine Zlb (s:={ s1 with heap:=h2'.push (seqObj "list" vals.toArray 0),toks:=tk2 }) hoL h2n fun h3 c k3 ho3=>⟨_,rfl,?_⟩
    refine wpAny_pure ⟨_,rfl,done vals kk h3 c k3 ho3 (by omega) ?_ kt⟩
    refine ZfK ?_ (Va hl2) fun x=>by rw [srtK_mem,km.mem_iff,hm x]
    match kk,kl with
    | [],_=>exact List.Pairwise.nil
    | [a],_=>exact List.pairwise_singleton ..
    | a::b::r,kl=>simp at kl; omega
  · have hkv:∀ i,i < vals.length->kk[i]?=some (kk.getD i [])/\kk.getD i []∈kk:=fun i hi=>by
      have hi':i < kk.length:=by omega
      have e:kk[i]?=some (kk.getD i []):=by simp [hi']
      exact ⟨e,List.mem_of_getElem? e⟩
    have inj:∀ i j,i < vals.length->j < vals.length->kk.getD i []=kk.getD j []->i=j:=fun i j hi hj e=>by
      have a:=(hkv i hi).1; have b:=(hkv j hj).1
      rw [e,<-b] at a
      exact (List.getElem?_inj (by omega) knd).mp a
    have hord:So.Ord vals.length fun i j=>HT.lexLt (kk.getD i []) (kk.getD j []):=
      ⟨fun i _=>VL _,fun i j k _ _ _ h1 h2=>ZdZ _ _ _ h1 h2,fun i j hi hj hne=>Zdj _ _ (by rw [kk2 _ (hkv i hi).2,kk2 _ (hkv j hj).2]) fun e=>hne (inj i j hi hj e)⟩
    refine Zmp (s:={ s1 with heap:=h2'.push (seqObj "list" vals.toArray 0),toks:=tk2 }) (ks:=kk) (m:=1) hoL (by omega) (by omega) (by omega) hord kk2 (fun i v k hv hk=>?_) fun p pm st h3 c k3 ho3=>⟨_,rfl,?_⟩
    · obtain ⟨b,e1,⟨ob,items,nn,g1,g2⟩,_⟩:=kt i v k hv hk
      exact ⟨b,e1,ob,items,nn,Heap.get?_push_of_some _ (kp2 _ _ g1),g2⟩
    · refine wpAny_pure ⟨_,rfl,done _ (p.toList.map fun i=>kk.getD i []) h3 c k3 ho3 (by simp) ?_ fun i v k hv hk=>?_⟩
      · refine ZfK ?_ (Va hl2) fun x=>?_
        · unfold ZiO
          rw [List.pairwise_map,List.pairwise_iff_getElem]
          intro i j hi hj hij
          have hs:=pm.size
          have hi':i < vals.length:=by simpa [hs] using hi
          have hj':j < vals.length:=by simpa [hs] using hj
          have:=st i j hij hj'
          simpa [hs,hi',hj'] using this
        · rw [srtK_mem,<-hm x,<-km.mem_iff,List.mem_map]
          constructor
          · rintro ⟨i,hi,rfl⟩
            have:=List.mem_range.mp (pm.perm.mem_iff.mp hi)
            exact (hkv i this).2
          · intro hx
            obtain ⟨i,hi,e⟩:=List.getElem_of_mem hx
            exact ⟨i,pm.perm.mem_iff.mpr (List.mem_range.mpr (by omega)),by simp [hi,e]⟩
      · rw [List.getElem?_map] at hv hk
        cases e:p.toList[i]? with
        | none=>rw [e] at hv; cases hv
        | some m=>
          rw [e] at hv hk
          cases hv; cases hk
          have hm':m < vals.length:=List.mem_range.mp (pm.perm.mem_iff.mp (List.mem_of_getElem? e))
          refine kt m _ _ ?_ (hkv m hm').1
          simp [hm']
end
end L3
namespace L3
open PySem PySem.Spec PyProof.Rows L2
section
variable {X:Cx}
end
section
variable {X:Cx}
end
theorem Wo:fillsNumberSlot (.type "tuple") "mul"=pure false:=
  PySem.fillsNumberSlot_seq (id:="tuple.__mul__") (r:=some (.builtin "tuple.__rmul__")) PySem.F.slot_tuple_mul.lookup (by decide +kernel) PySem.F.slot_tuple_rmul.lookup (by decide +kernel)
theorem Zb3:seqRepeat? (.type "tuple")=pure (some (.builtin "tuple.__mul__")):=by
  unfold seqRepeat?
  rw [PySem.seqSlot_of (T:="tuple") (name:="__mul__") (id:="tuple.__mul__") PySem.F.slot_tuple_mul.lookup (by decide +kernel),PySem.seqSlot_of (T:="tuple") (name:="__rmul__") (id:="tuple.__rmul__") PySem.F.slot_tuple_rmul.lookup (by decide +kernel)]
  rfl
theorem Zay (a:Int) (t:Tok) (l:Addr) (items:Array Value) (n:Nat) (dd:Option Addr) (sl:Array (Option Value)) :
    Meets (Builtin.«int.__rmul__» ⟨[.int a t,.ref l],[]⟩) (fun _ R s=>s.heap.get? l=some ⟨.type "tuple",dd,.seq items n,sl⟩/\R (.ok (.ret Value.notImplemented)) s):=
  .of_wp fun prog w A R s h=>by obtain ⟨hp,g,d,tk,os⟩:=s; obtain ⟨hl,h⟩:=h; wp_walk; exact ⟨_,rfl,h⟩
theorem Zel (l:Addr) (items:Array Value) (n:Nat) (dd:Option Addr) (sl:Array (Option Value)) (u:Tok) (h0:items.isEmpty=false) (hz:items.size*2<=sizeLine) :
    Meets (Builtin.«tuple.__mul__» ⟨[.ref l,.int 2 u],[]⟩) (fun _ R s=>s.heap.get? l=some ⟨.type "tuple",dd,.seq items n,sl⟩/\R (.ok (.ret (Value.ref s.heap.objs.size))) { s with heap:=s.heap.push { cls:=.type "tuple",data:=.seq (items++items) } }):=
  .of_wp fun prog w A R s h=>by
    obtain ⟨hp,g,d,tk,os⟩:=s; obtain ⟨hl,h⟩:=h
    wp_walk
    have e1:¬ ((items.size:Int)*2 > (2 ^ 63-1) / 8):=by
      have:items.size*2<=16777216:=hz
      omega
    have e2:¬ (Builtin.Tuple.tupleTooMany ((items.size:Int)*2)=true):=by
      have:items.size*2<=16777216:=hz
      simp [Builtin.Tuple.tupleTooMany,sizeLine]
      omega
    rw [if_neg e1]
    show wpAny _ _ (if _ then _ else _) _ _ _
    rw [if_neg e2]
    have e3:List.foldl (fun x1 x2=>x1++x2) #[] (List.replicate (Int.toNat 2) items)=items++items:=by
      show (#[]++items)++items=_
      simp
    simp only [e3]
    wp_walk
    refine wpAny_ite_false (decide_eq_false ?_) ?_
    · rw [Array.size_append]
      have:items.size*2<=16777216:=hz
      simp only [sizeLine]
      omega
    · wp_walk
      exact ⟨_,rfl,h⟩
section
variable {X:Cx} {pins:List (Addr×Obj)} {s:Shared} {σ:L2.St} {H:Hp}
theorem Zfg {a:Addr} {xs:List V} {Q:VK} {u:Tok} (I:Inv X pins σ H s) (ha:SqT X.K H a xs) (h0:xs≠[]) (hz:xs.length+xs.length<=sizeLine)
    (q:∀ p,H p=none->Q (.ref p) (upd H p (.tup (xs++xs)))):wpAny (model X.prog X.w) X.A (binaryOp .Mult (.ref a) (.int 2 u)) (EP X pins σ Q) X.xe s:=by
  obtain ⟨its,r1,p1,_⟩:=I.tuple ha
  obtain ⟨⟨cls,dd,data,sl⟩,ho,hc,n,hd⟩:=id p1
  simp only at hc hd
  subst hc hd
  have hne:its≠[]:=fun z=>h0 (r1.nil_iff.mp z)
  have hlen:=r1.length
  refine wpAny_binaryOp_repeat_ref (T:="tuple") (U:="int") (by decide) ⟨_,ho,rfl⟩ (fun s'=>typeIs_int s' 2 u) Wo PySem.F.fills_int_mul PySem.F.slot_int_rmul Zb3 PySem.F.slot_int_index.lookup
    (call_meets PySem.F.slot_int_rmul (typeIs_int s 2 u) PySem.F.entry_int_rmul (PySem.F.args_int_rmul_2 _ _) (Zay 2 u a its.toArray n dd sl)
      ⟨ho,rfl,⟨_,ho,rfl⟩,call_meets PySem.F.slot_tuple_mul ⟨_,ho,rfl⟩ PySem.F.entry_tuple_mul (PySem.F.args_tuple_mul_2 _ _)
        (Zel a its.toArray n dd sl u ?_ ?_) ⟨ho,?_⟩⟩)
  · cases its with
    | nil=>exact absurd rfl hne
    | cons x t=>rfl
  · show its.toArray.size*2<=_
    rw [List.size_toArray,<-hlen]; omega
  · refine ⟨.ref s.heap.objs.size,_,I.laid (t':=s.toks) (o:=.tup (xs++xs)) (fun b ob q=>Heap.get?_push_of_some _ q) (Nat.le_refl _) ?_,rfl,q _ (I.hok.fresh (Nat.le_refl _))⟩
    refine ⟨by rw [List.length_append]; exact hz,_,r1.append r1,?_⟩
    have e:its.toArray++its.toArray=(its++its).toArray:=by simp
    rw [e]
    exact IsTup.new _ _
noncomputable def ZgM:D->D->Option D
  | .int i,.int j=>YW (.int i) (.int j)
  | .tup a,.int j=>if j=2/\a≠[]/\a.length+a.length<=lim then some (.tup (a++a)) else none
  | _,_=>none
theorem Zk4:Op2 X (binaryOp .Mult) ZgM:=by
  intro pins s σ H x y v u Q I rx ry q
  obtain ⟨dx,dy,F,d,r1,r2,e,q⟩:=q
  cases dx with
  | int i=>cases dy with
    | int j=>exact YX pins s σ H x y v u Q I rx ry ⟨_,_,F,d,r1,r2,e,q⟩
    | _=>cases e
  | tup a=>cases dy with
    | int j=>
      unfold ZgM at e
      obtain ⟨⟨rfl,hne,hl⟩,rfl⟩:=Yp e
      unfold Rep at r1 r2
      obtain ⟨l1,xs,rfl,h1,k1⟩:=r1
      subst r2
      cases rx
      obtain ⟨t,rfl⟩:=ry
      refine Zfg I h1 (fun z=>hne (List.eq_nil_of_length_eq_zero (by rw [k1.length,z]; rfl))) (by rw [<-k1.length]; exact UE hl) fun p hp=>q _ F _ (.laid0 hp) ?_
      unfold Rep
      exact ⟨p,xs++xs,rfl,.of ZR,(k1.append k1).grow (.laid0 hp)⟩
    | _=>cases e
  | _=>cases e
end
theorem FnD.none {P:Program} {w:World} {K:PySem.W.Frag} {mg:Str->Option Value} {base:Heap} {k:Nat} {f:Addr} {fd:FuncData} {ps:List Str}:FnD P w K mg base k f fd ps (fun _=>Option.none):=
  ⟨fun vs H Q E h=>(by obtain ⟨xs,F,d,_,_,_,e,_⟩:=h; cases e),fun A outer s H args us vs Q E _ _ _ _ h=>(by obtain ⟨xs,F,d,_,_,_,e,_⟩:=h; cases e)⟩
theorem Zq {es rest:List Expr} {x1} {pos:Pos} {env:Env}:starEach (.Tuple es x1 pos::rest) env=(false,eval (.Tuple es x1 pos) env)::starEach rest env:=rfl
theorem VX {es rest:List Expr} {pos:Pos} {env:Env}:starEach (.List es pos::rest) env=(false,eval (.List es pos) env)::starEach rest env:=rfl
end L3
namespace HT
open PySem PyProof.Rows
section
open PySem.SeqAt
open PySem.AutoSeq1 (wpAny_loadPart')
open PySem.MeetsSeq PySem.MeetsSeq2 PySem.MeetsSeq3
end
section
variable {prog:Program} {w:World} {A:Around} {E:Value->Shared->Prop} {s:Shared}
end
end HT
namespace L3
open PySem PySem.Spec PyProof.Rows L2
section
variable {X:Cx} {pins:List (Addr×Obj)} {σ:L2.St} {H:Hp} {s:Shared} {F:Fz}
end
end L3
set_option maxHeartbeats 8000000
namespace Pl
open PySem PySem.Spec PyProof.Rows L2 L3
noncomputable def ZiC:DS:=(ZW (Zh Y0 (Zh YW (Zh Y0 (Zh dIx (Ze 1) (Zf (.int 0))) (Zh dIx (Ze 0) (Zf (.int 0)))) (Zh Y0 (Zh dIx (Ze 2) (Zf (.int 1))) (Zh dIx (Ze 0) (Zf (.int 1))))) (Zh YW (Zh Y0 (Zh dIx (Ze 1) (Zf (.int 1))) (Zh dIx (Ze 0) (Zf (.int 1)))) (Zh Y0 (Zh dIx (Ze 2) (Zf (.int 0))) (Zh dIx (Ze 0) (Zf (.int 0)))))))
noncomputable def UH:List D->Option D:=Zp 3 ZiC
noncomputable def V2:DS:=(ZW (Zh dGt (dFn 3 UH (Zc (Ze 0) (Zc (Ze 1) (Zc (Ze 2) Zm)))) (Zf (.int 0))))
noncomputable def Yv:List D->Option D:=Zp 3 V2
noncomputable def UF:DS:=(ZW (Ue dLe dLe (ZN ZeP (Zc (Ze 0) (Zc (Ze 1) Zm))) (Ze 2) (ZN Zcu (Zc (Ze 0) (Zc (Ze 1) Zm)))))
noncomputable def Yn:List D->Option D:=Zp 3 UF
noncomputable def Zck:DS:=(Zr (Z5 2 (Zh dIx (Ze 0) (Zf (.int 0))))
  (Zr (Z5 3 (Zh dIx (Ze 0) (Zf (.int 1))))
  (Zr (Yh (Zo (Zh ZbB (dFn 3 UH (Zc (Ze 2) (Zc (Ze 3) (Zc (Ze 1) Zm)))) (Zf (.int 0)))) (ZW (Zf (.bl false))) ZB)
  (ZW (Zao (dFn 3 Yn (Zc (Zh dIx (Ze 2) (Zf (.int 0))) (Zc (Zh dIx (Ze 3) (Zf (.int 0))) (Zc (Zh dIx (Ze 1) (Zf (.int 0))) Zm)))) (dFn 3 Yn (Zc (Zh dIx (Ze 2) (Zf (.int 1))) (Zc (Zh dIx (Ze 3) (Zf (.int 1))) (Zc (Zh dIx (Ze 1) (Zf (.int 1))) Zm)))))))))
noncomputable def Qp:List D->Option D:=Zp 4 Zck
noncomputable def ZaQ:DS:=(ZW (QP [none,some 0] (Zbw (ZN UI (Zc (Ze 0) Zm))) (ZV 0) ZY (Z9 (Zc (Zh dIx (Ze 1) (Zh Y0 (Ze 0) (Zf (.int 1)))) (Zc (Zh dIx (Ze 1) (Ze 0)) Zm)))))
noncomputable def QC:List D->Option D:=Zp 1 ZaQ
noncomputable def Jf:DS:=(Zr (Yh (Zo (Zh dLt (Ze 1) (ZN UI (Zc (Ze 0) Zm)))) (ZW (Zh dIx (Ze 0) (Ze 1))) ZB)
  (ZW (Zf (.int 0))))
noncomputable def Yo:List D->Option D:=Zp 2 Jf
noncomputable def V6:DS:=(Zr (Z5 2 (Zh Ya (Zh YW (Zh ZU (Zh ZU (dFn 2 Yo (Zc (Ze 0) (Zc (Ze 1) Zm))) (Zh YW (Zf (.int 7919)) (Ze 1))) (Zf (.int 1))) (Zf (.int 48271))) (Zf (.int 2147483647))))
  (ZW (Zh Ya (Zh ZU (Zh ZU (Zh YW (Ze 2) (Ze 2)) (Zh YW (Zf (.int 7)) (Ze 2))) (Ze 1)) (Zf (.int 2147483629)))))
noncomputable def Zw:List D->Option D:=Zp 3 V6
noncomputable def V7:DS:=(Zr (Z5 2 (Zh Ya (Zh YW (Zh ZU (Zh ZU (Ze 0) (Zh YW (Zf (.int 104729)) (Ze 1))) (Zf (.int 17))) (Zf (.int 69621))) (Zf (.int 2147483647))))
  (ZW (Zh Ya (Zh ZU (Zh ZU (Zh YW (Ze 2) (Ze 2)) (Zh YW (Zf (.int 3)) (Ze 2))) (Ze 1)) (Zf (.int 2147483629)))))
noncomputable def Zz:List D->Option D:=Zp 3 V7
noncomputable def Vj:DS:=(ZW (Zao (YO (Vr .int) (Ze 0)) (Zao (ZlP (YO (Vr .bool) (Ze 0))) (Ue dLe dLe (Ze 1) (Ze 0) (Ze 2)))))
noncomputable def YF:List D->Option D:=Zp 3 Vj
noncomputable def Zdn:DS:=(ZW (Zh Y0 (Zh YW (Zh Y0 (Zh dIx (Ze 1) (Zf (.int 0))) (Zh dIx (Ze 0) (Zf (.int 0)))) (Zh Y0 (Zh dIx (Ze 2) (Zf (.int 1))) (Zh dIx (Ze 0) (Zf (.int 1))))) (Zh YW (Zh Y0 (Zh dIx (Ze 1) (Zf (.int 1))) (Zh dIx (Ze 0) (Zf (.int 1)))) (Zh Y0 (Zh dIx (Ze 2) (Zf (.int 0))) (Zh dIx (Ze 0) (Zf (.int 0)))))))
noncomputable def ZJ:List D->Option D:=Zp 3 Zdn
noncomputable def Zcl:DS:=(Zr (Yh (Zo (Zh ZbB (dFn 3 ZJ (Zc (Ze 0) (Zc (Ze 1) (Zc (Ze 2) Zm)))) (Zf (.int 0)))) (ZW (Zf (.bl false))) ZB)
  (ZW (Zao (Ue dLe dLe (ZN ZeP (Zc (Zh dIx (Ze 0) (Zf (.int 0))) (Zc (Zh dIx (Ze 1) (Zf (.int 0))) Zm))) (Zh dIx (Ze 2) (Zf (.int 0))) (ZN Zcu (Zc (Zh dIx (Ze 0) (Zf (.int 0))) (Zc (Zh dIx (Ze 1) (Zf (.int 0))) Zm)))) (Ue dLe dLe (ZN ZeP (Zc (Zh dIx (Ze 0) (Zf (.int 1))) (Zc (Zh dIx (Ze 1) (Zf (.int 1))) Zm))) (Zh dIx (Ze 2) (Zf (.int 1))) (ZN Zcu (Zc (Zh dIx (Ze 0) (Zf (.int 1))) (Zc (Zh dIx (Ze 1) (Zf (.int 1))) Zm)))))))
noncomputable def Ym:List D->Option D:=Zp 3 Zcl
noncomputable def W2:DS:=(ZW (Zh dIx (Ze 0) (Zh Ya (Zh ZU (Ze 1) (Ze 2)) (ZN UI (Zc (Ze 0) Zm)))))
noncomputable def Zv:List D->Option D:=Zp 3 W2
noncomputable def W4:DS:=(Zr (Z5 1 (Zf (.int 0)))
  (Zr (Ws (Qt (Ze 0)) (YC 2 3) (Zr (Z5 4 (dFn 3 Zv (Zc (Ze 0) (Zc (Ze 2) (Zc (Zf (.int 1)) Zm)))))
  (Z5 1 (Zh Y0 (Zh ZU (Ze 1) (Zh YW (Zh dIx (Ze 3) (Zf (.int 0))) (Zh dIx (Ze 4) (Zf (.int 1))))) (Zh YW (Zh dIx (Ze 3) (Zf (.int 1))) (Zh dIx (Ze 4) (Zf (.int 0))))))))
  (ZW (Ze 1))))
noncomputable def Yz:List D->Option D:=Zp 5 W4
noncomputable def J6:DS:=(Zr (Z5 1 (ZN Ud (Zc (Ze 0) Zm)))
  (Zr (Yh (Zo (Zh dLt (dFn 1 Yz (Zc (Ze 1) Zm)) (Zf (.int 0)))) (Z5 1 (Zhi (Ze 1))) ZB)
  (Zr (Z5 2 (Zh ZeQ (Ze 1) (ZN Vq (Zc (Ze 1) Zm))))
  (ZW (ZN Qz (Zc (Zh ZU (dSl (Ze 1) (Qc (Ze 2)) Qd) (dSl (Ze 1) Qd (Qc (Ze 2)))) Zm))))))
noncomputable def ZH:List D->Option D:=Zp 3 J6
noncomputable def W3:DS:=(Zr (Yh (ZbT (Zo (dFn 3 Ym (Zc (Ze 0) (Zc (Ze 1) (Zc (Ze 2) Zm))))) (ZbT (Zo (dFn 3 Ym (Zc (Ze 0) (Zc (Ze 1) (Zc (Ze 3) Zm))))) (ZbT (Zo (dFn 3 Ym (Zc (Ze 2) (Zc (Ze 3) (Zc (Ze 0) Zm))))) (Zo (dFn 3 Ym (Zc (Ze 2) (Zc (Ze 3) (Zc (Ze 1) Zm)))))))) (ZW (Zf (.bl true))) ZB)
  (Zr (Yh (Zo (Zh dGe (Zh YW (dFn 3 ZJ (Zc (Ze 0) (Zc (Ze 1) (Zc (Ze 2) Zm)))) (dFn 3 ZJ (Zc (Ze 0) (Zc (Ze 1) (Zc (Ze 3) Zm))))) (Zf (.int 0)))) (ZW (Zf (.bl false))) ZB)
  (ZW (Zh dLt (Zh YW (dFn 3 ZJ (Zc (Ze 2) (Zc (Ze 3) (Zc (Ze 0) Zm)))) (dFn 3 ZJ (Zc (Ze 2) (Zc (Ze 3) (Zc (Ze 1) Zm))))) (Zf (.int 0))))))
noncomputable def Yy:List D->Option D:=Zp 4 W3
noncomputable def V3:DS:=(Zr (Ji 1 Zm)
  (Zr (Ws (Qt (Ze 0)) (YC 2 3) (Zab 1 (dFn 3 ZJ (Zc (Ze 3) (Zc (dFn 3 Zv (Zc (Ze 0) (Zc (Ze 2) (Zc (Zf (.int 1)) Zm)))) (Zc (dFn 3 Zv (Zc (Ze 0) (Zc (Ze 2) (Zc (Zf (.int 2)) Zm)))) Zm))))))
  (ZiF 1 (ZW (Ze 1)))))
noncomputable def ZZ:List D->Option D:=Zp 4 V3
noncomputable def UG:DS:=(Zr (Z5 1 (ZN UI (Zc (Ze 0) Zm)))
  (Zr (Yh (ZbT (Zo (Zh dLt (YO VR (Ze 0)) (Ze 1))) (Zo (Zh ZiG (Zf (.int 0)) (dFn 1 ZZ (Zc (Ze 0) Zm))))) (ZW (Zf (.bl false))) ZB)
  (Zr (Ws (Zbw (Ze 1)) (ZV 2) (Ws (Zgp (Zh ZU (Ze 2) (Zf (.int 2))) (Ze 1)) (ZV 3) (Yh (Zo (Zh ZbB (Zh Ya (Zh ZU (Ze 3) (Zf (.int 1))) (Ze 1)) (Ze 2))) (Zr (Z5 4 (Zh dIx (Ze 0) (Ze 3)))
  (Zr (Z5 5 (dFn 3 Zv (Zc (Ze 0) (Zc (Ze 3) (Zc (Zf (.int 1)) Zm)))))
  (Yh (Zo (dFn 4 Yy (Zc (Zh dIx (Ze 0) (Ze 2)) (Zc (dFn 3 Zv (Zc (Ze 0) (Zc (Ze 2) (Zc (Zf (.int 1)) Zm)))) (Zc (Ze 4) (Zc (Ze 5) Zm)))))) (ZW (Zf (.bl false))) ZB))) ZB)))
  (ZW (Zf (.bl true))))))
noncomputable def Yd:List D->Option D:=Zp 6 UG
noncomputable def V4:DS:=(ZW (QP [none,some 1,some 0] (Zbw (Ze 2)) (ZV 0) ZY (Z9 (Zc (Zh Ya (dFn 2 Zz (Zc (Ze 2) (Zc (Zh YW (Zf (.int 2)) (Ze 0)) Zm))) (Ze 1)) (Zc (Zh Ya (dFn 2 Zz (Zc (Ze 2) (Zc (Zh ZU (Zh YW (Zf (.int 2)) (Ze 0)) (Zf (.int 1))) Zm))) (Ze 1)) Zm)))))
noncomputable def ZM:List D->Option D:=Zp 3 V4
noncomputable def ZaR:DS:=(Zr (Z5 2 (Zh ZU (Zf (.int 1)) (Zh Ya (Ze 0) (Zf (.int 5)))))
  (Zr (Z5 3 (Zh ZU (Zf (.int 1)) (Zh Ya (Zh Qj (Ze 0) (Zf (.int 5))) (Zf (.int 5)))))
  (Zr (Z5 4 (Zh ZU (Zf (.int 1)) (ZN Zcu (Zc (Ze 2) (Zc (Ze 3) Zm)))))
  (Zr (Z5 5 (Zh ZU (Zh ZU (Wa (Zc (Z9 (Zc (Zf (.int 0)) (Zc (Zf (.int 0)) Zm))) Zm)) (QP [none,some 1,some 0] (Zbw (Ze 2)) (ZV 0) ZY (Z9 (Zc (Zh ZU (Zf (.int 1)) (Ze 0)) (Zc (Zh Y0 (YO JB (Zf (.int 1))) (Zh Ya (dFn 2 Zz (Zc (Ze 2) (Zc (Ze 0) Zm))) (Ze 1))) Zm))))) (Wa (Zc (Z9 (Zc (Ze 4) (Zc (Zf (.int 0)) Zm))) Zm))))
  (Zr (Z5 5 (Zh ZU (Ze 5) (QP [none,some 4,some 1,some 0] (Zbw (Ze 3)) (ZV 0) ZY (Z9 (Zc (Zh Y0 (Zh Y0 (Ze 1) (Zf (.int 1))) (Ze 0)) (Zc (Zh ZU (Zf (.int 1)) (Zh Ya (dFn 2 Zz (Zc (Ze 3) (Zc (Zh ZU (Zf (.int 9)) (Ze 0)) Zm))) (Ze 2))) Zm))))))
  (Zr (Z5 6 (Wa Zm))
  (Zr (Yq (Zo (Zh ZbB (ZN UI (Zc (Ze 6) Zm)) (ZN UI (Zc (Ze 5) Zm)))) (Zr (Z5 6 (Ze 5))
  (Z5 5 (QP [none,none,some 6] (Qt (Ze 6)) (YC 0 1) (Zo (Zh ZbB (dFn 3 ZJ (Zc (Zh dIx (Ze 2) (Zh Y0 (Ze 0) (Zf (.int 1)))) (Zc (Ze 1) (Zc (dFn 3 Zv (Zc (Ze 2) (Zc (Ze 0) (Zc (Zf (.int 1)) Zm)))) Zm)))) (Zf (.int 0)))) (Ze 1)))) 3000)
  (ZW (Ze 5)))))))))
noncomputable def QD:List D->Option D:=Zp 7 ZaR
noncomputable def W1:DS:=(Zr (Z5 2 (dFn 3 ZM (Zc (Zh Qj (Ze 0) (Zf (.int 2))) (Zc (Ze 1) (Zc (Zh ZU (Zf (.int 3)) (Zh Ya (Zh Qj (Ze 0) (Zf (.int 2))) (Zf (.int 5)))) Zm)))))
  (Zr (Yh (ZbT (Zo (Zh U8 (Zh Ya (Ze 0) (Zf (.int 2))) (Zf (.int 1)))) (Qa (Zo (dFn 1 Yd (Zc (Ze 2) Zm))))) (Z5 2 (dFn 2 QD (Zc (Zh Qj (Ze 0) (Zf (.int 2))) (Zc (Ze 1) Zm)))) ZB)
  (Zr (Z5 3 (Zh Qj (Zh YW (Zh Ya (Zh Qj (Ze 0) (Zf (.int 512))) (Zf (.int 3))) (Ze 1)) (Zf (.int 4))))
  (ZW (dFn 1 ZH (Zc (QP [none,none,some 3] (QU (Ze 2)) (YC 0 1) ZY (Z9 (Zc (Zh Y0 (Ze 0) (Ze 2)) (Zc (Ze 1) Zm)))) Zm))))))
noncomputable def YV:List D->Option D:=Zp 4 W1
noncomputable def Vi:DS:=(ZW (Zh dLt (dFn 3 UH (Zc (Ze 0) (Zc (Ze 1) (Zc (Ze 2) Zm)))) (Zf (.int 0))))
noncomputable def YE:List D->Option D:=Zp 3 Vi
noncomputable def J5:DS:=(Zr (Yh (Zo (dFn 3 Yv (Zc (Ze 0) (Zc (Ze 1) (Zc (Ze 2) Zm))))) (ZW (dFn 3 YE (Zc (Ze 0) (Zc (Ze 1) (Zc (Ze 3) Zm))))) ZB)
  (ZW (Zao (dFn 3 YE (Zc (Ze 0) (Zc (Ze 1) (Zc (Ze 2) Zm)))) (dFn 3 Yv (Zc (Ze 0) (Zc (Ze 1) (Zc (Ze 3) Zm)))))))
noncomputable def Yw:List D->Option D:=Zp 4 J5
noncomputable def YY:DS:=(Zr (Yh (ZbT (Zo (dFn 2 Qp (Zc (Ze 0) (Zc (Zh dIx (Ze 1) (Zf (.int 0))) Zm)))) (Zo (dFn 2 Qp (Zc (Ze 0) (Zc (Zh dIx (Ze 1) (Zf (.int 1))) Zm))))) (ZW (Zf (.bl true))) ZB)
  (Zr (Yh (ZbT (Zo (dFn 2 Qp (Zc (Ze 1) (Zc (Zh dIx (Ze 0) (Zf (.int 0))) Zm)))) (Zo (dFn 2 Qp (Zc (Ze 1) (Zc (Zh dIx (Ze 0) (Zf (.int 1))) Zm))))) (ZW (Zf (.bl true))) ZB)
  (ZW (Zao (dFn 4 Yw (Zc (Zh dIx (Ze 0) (Zf (.int 0))) (Zc (Zh dIx (Ze 0) (Zf (.int 1))) (Zc (Zh dIx (Ze 1) (Zf (.int 0))) (Zc (Zh dIx (Ze 1) (Zf (.int 1))) Zm))))) (dFn 4 Yw (Zc (Zh dIx (Ze 1) (Zf (.int 0))) (Zc (Zh dIx (Ze 1) (Zf (.int 1))) (Zc (Zh dIx (Ze 0) (Zf (.int 0))) (Zc (Zh dIx (Ze 0) (Zf (.int 1))) Zm)))))))))
noncomputable def ZE:List D->Option D:=Zp 2 YY
noncomputable def ZeH:DS:=(ZW (Zao (YO (Vr .int) (Ze 0)) (ZlP (YO (Vr .bool) (Ze 0)))))
noncomputable def Uu:List D->Option D:=Zp 1 ZeH
noncomputable def VQ:DS:=(ZW (Zao (dFn 1 Uu (Zc (Ze 0) Zm)) (Ue dLe dLe (YO JB (Zf (.int 100))) (Ze 0) (Zf (.int 100)))))
noncomputable def Qf:List D->Option D:=Zp 1 VQ
noncomputable def WZ:DS:=(ZW (Zao (YO (Vr .tuple) (Ze 0)) (Zao (Zh U8 (ZN UI (Zc (Ze 0) Zm)) (Zf (.int 2))) (Zao (dFn 1 Qf (Zc (Zh dIx (Ze 0) (Zf (.int 0))) Zm)) (dFn 1 Qf (Zc (Zh dIx (Ze 0) (Zf (.int 1))) Zm))))))
noncomputable def Yk:List D->Option D:=Zp 1 WZ
noncomputable def Y5:DS:=(Zr (Ws (QU (Ze 0)) (ZV 1) (Yh (Qa (Zo (dFn 1 Yk (Zc (Ze 1) Zm)))) (ZW (Zf (.bl false))) ZB))
  (ZW (Zh U8 (YO VR (Ze 0)) (ZN UI (Zc (Ze 0) Zm)))))
noncomputable def ZC:List D->Option D:=Zp 2 Y5
noncomputable def Yr:DS:=(Zr (Yh (Qa (Zo (YO (Vr .tuple) (Ze 0)))) (ZW (Zf (.bl false))) ZB)
  (ZW (Zao (Ue dLe dLe (Zf (.int 3)) (ZN UI (Zc (Ze 0) Zm)) (Zf (.int 12))) (dFn 1 ZC (Zc (Ze 0) Zm)))))
noncomputable def ZA:List D->Option D:=Zp 1 Yr
noncomputable def Jn:DS:=(ZW (QP [none,some 0] (Zbw (ZN UI (Zc (Ze 0) Zm))) (ZV 0) ZY (dFn 3 UH (Zc (Zh dIx (Ze 1) (Zh Y0 (Ze 0) (Zf (.int 2)))) (Zc (Zh dIx (Ze 1) (Zh Y0 (Ze 0) (Zf (.int 1)))) (Zc (Zh dIx (Ze 1) (Ze 0)) Zm))))))
noncomputable def Z1:List D->Option D:=Zp 1 Jn
noncomputable def Qu:DS:=(ZW (dOr (Zh ZiG (Zh dIx (Ze 0) (Zf (.int 0))) (Ze 1)) (Zh ZiG (Zh dIx (Ze 0) (Zf (.int 1))) (Ze 1))))
noncomputable def Zt:List D->Option D:=Zp 2 Qu
noncomputable def QX:DS:=(Zr (Z5 1 (dFn 1 QC (Zc (Ze 0) Zm)))
  (Zr (Ws (Qt (Ze 1)) (YC 2 3) (Ws (QU (dSl (Ze 1) Qd (Qc (Ze 2)))) (ZV 4) (Yh (Y1 (Qa (Zo (dFn 2 Zt (Zc (Ze 3) (Zc (Ze 4) Zm))))) (Zo (dFn 2 ZE (Zc (Ze 3) (Zc (Ze 4) Zm))))) (ZW (Zf (.bl false))) ZB)))
  (ZW (Zf (.bl true)))))
noncomputable def Z7:List D->Option D:=Zp 5 QX
noncomputable def JI:DS:=(ZW (dFn 3 Yv (Zc (Zh dIx (Ze 0) (YO JB (Zf (.int 1)))) (Zc (Zh dIx (Ze 0) (Zf (.int 0))) (Zc (Zh dIx (Ze 0) (Zf (.int 1))) Zm)))))
noncomputable def Yl:List D->Option D:=Zp 1 JI
noncomputable def Qo:DS:=(Zr (Yh (ZbT (Qa (Zo (dFn 1 ZA (Zc (Ze 0) Zm)))) (Zo (Zh ZbB (Zh dIx (Ze 0) (Zf (.int 0))) (ZN Vq (Zc (Ze 0) Zm))))) (ZW (Zf (.bl false))) ZB)
  (Zr (Yh (Zo (Zh ZiG (Zf (.int 0)) (dFn 1 Z1 (Zc (Ze 0) Zm)))) (ZW (Zf (.bl false))) ZB)
  (ZW (Zao (dFn 1 Yl (Zc (Ze 0) Zm)) (dFn 1 Z7 (Zc (Ze 0) Zm))))))
noncomputable def Z3:List D->Option D:=Zp 1 Qo
noncomputable def VP:DS:=(ZW (Zao (dFn 1 Z3 (Zc (Ze 0) Zm)) (Zh dGt (ZN Vq (Zc (dFn 1 Z1 (Zc (Ze 0) Zm)) Zm)) (Zf (.int 0)))))
noncomputable def Qe:List D->Option D:=Zp 1 VP
noncomputable def Je:DS:=(Zr (Yh (ZbT (Qa (Zo (YO (Vr .tuple) (Ze 0)))) (Zo (Zh ZbB (ZN UI (Zc (Ze 0) Zm)) (Zf (.int 2))))) (ZW (Zf (.bl false))) ZB)
  (ZW (Zao (dFn 3 YF (Zc (Zh dIx (Ze 0) (Zf (.int 0))) (Zc (YO JB (Zf (.int 100))) (Zc (Zf (.int 100)) Zm)))) (dFn 3 YF (Zc (Zh dIx (Ze 0) (Zf (.int 1))) (Zc (YO JB (Zf (.int 100))) (Zc (Zf (.int 100)) Zm)))))))
noncomputable def Yc:List D->Option D:=Zp 1 Je
noncomputable def YM:DS:=(Zr (Yh (ZbT (Qa (Zo (YO (Vr .tuple) (Ze 0)))) (Qa (Zo (Ue dLe dLe (Zf (.int 3)) (ZN UI (Zc (Ze 0) Zm)) (Zf (.int 12)))))) (ZW (Zf (.bl false))) ZB)
  (Zr (Yh (Zo (Zh ZbB (QP [none] (QU (Ze 0)) (ZV 0) (Qa (Zo (dFn 1 Yc (Zc (Ze 0) Zm)))) (Ze 0)) (Wa Zm))) (ZW (Zf (.bl false))) ZB)
  (ZW (Zao (dFn 1 Yd (Zc (Ze 0) Zm)) (Zao (Zh dGt (dFn 1 Yz (Zc (Ze 0) Zm)) (Zf (.int 0))) (Zh U8 (Zh dIx (Ze 0) (Zf (.int 0))) (ZN Vq (Zc (Ze 0) Zm))))))))
noncomputable def ZT:List D->Option D:=Zp 1 YM
noncomputable def V8:DS:=(Zr (Ji 1 Zm)
  (Zr (Ws (QU (Ze 0)) (ZV 2) (Zr (Yq (ZbU 1 (Y1 (Zo (Zh dGt (ZN UI (Zc (Ze 1) Zm)) (Zf (.int 1)))) (Zo (Zh dLe (dFn 3 ZJ (Zc (Zh dIx (Ze 1) (YO JB (Zf (.int 2)))) (Zc (Zh dIx (Ze 1) (YO JB (Zf (.int 1)))) (Zc (Ze 2) Zm)))) (Zf (.int 0)))))) (Ze7 1) 3000)
  (Zab 1 (Ze 2))))
  (ZiF 1 (ZW (dSl (Ze 1) Qd (Qc (YO JB (Zf (.int 1)))))))))
noncomputable def Z0:List D->Option D:=Zp 3 V8
noncomputable def Vk:DS:=(Zr (Z5 1 (YO Vp (Ze 0)))
  (Zr (Z5 2 (Zh ZU (dFn 1 Z0 (Zc (Ze 1) Zm)) (dFn 1 Z0 (Zc (Zhi (Ze 1)) Zm))))
  (Zr (Yh (Zo (Zh dLt (ZN UI (Zc (Ze 2) Zm)) (Zf (.int 3)))) (ZW (Zf .non)) ZB)
  (ZW (dFn 1 ZH (Zc (Ze 2) Zm))))))
noncomputable def YG:List D->Option D:=Zp 3 Vk
noncomputable def V5:DS:=(Zr (Z5 2 (dFn 1 YG (Zc (dFn 3 ZM (Zc (Ze 0) (Zc (Ze 1) (Zc (Zh ZU (Zf (.int 3)) (Zh Ya (Ze 0) (Zf (.int 6)))) Zm)))) Zm)))
  (Zr (Yh (Zo (YO ZlQ (Ze 2))) (ZW (Z9 (Zc (Z9 (Zc (Zf (.int 0)) (Zc (Zf (.int 0)) Zm))) (Zc (Z9 (Zc (Zf (.int 1)) (Zc (Zf (.int 0)) Zm))) (Zc (Z9 (Zc (Zf (.int 0)) (Zc (Zh ZU (Zf (.int 1)) (Zh Ya (Ze 0) (Zf (.int 3)))) Zm))) Zm))))) ZB)
  (ZW (Ze 2))))
noncomputable def YZ:List D->Option D:=Zp 3 V5
noncomputable def QN:DS:=(Zr (Z5 1 (Wa (Zc (Z9 (Zc (Zf (.int 3)) (Zc (Zf (.int 0)) Zm))) (Zc (Z9 (Zc (Zf (.int 6)) (Zc (Zf (.int 3)) Zm))) (Zc (Z9 (Zc (Zf (.int 3)) (Zc (Zf (.int 3)) Zm))) (Zc (Z9 (Zc (Zf (.int 3)) (Zc (Zf (.int 6)) Zm))) (Zc (Z9 (Zc (Zf (.int 0)) (Zc (Zf (.int 3)) Zm))) (Zc (Z9 (Zc (YO JB (Zf (.int 3))) (Zc (Zf (.int 3)) Zm))) Zm))))))))
  (Zr (Z5 1 (Zh ZU (Ze 1) (QP [none,none] (QU (Ze 1)) (YC 0 1) ZY (Z9 (Zc (YO JB (Ze 0)) (Zc (YO JB (Ze 1)) Zm))))))
  (Zr (Z5 2 (Z9 (Zc (Zh Y0 (Zh Ya (Zh Qj (Ze 0) (Zf (.int 3))) (Zf (.int 90))) (Zf (.int 50))) (Zc (Zh Y0 (Zh Ya (Zh Qj (Ze 0) (Zf (.int 270))) (Zf (.int 90))) (Zf (.int 50))) Zm))))
  (Zr (Ji 3 Zm)
  (Zr (Ws (Qt (Ze 1)) (YC 4 5) (Zr (Zab 3 (Ze 2))
  (Zr (Yh (Y1 (Zo (Zh U8 (Ze 4) (Zf (.int 1)))) (Zo (Zh dGt (Zh Ya (Ze 0) (Zf (.int 3))) (Zf (.int 0))))) (Zab 3 (Z9 (Zc (Zh ZU (Zh dIx (Ze 2) (Zf (.int 0))) (Zf (.int 2))) (Zc (Zh ZU (Zh dIx (Ze 2) (Zf (.int 1))) (Zf (.int 2))) Zm)))) ZB)
  (Zr (Yh (Y1 (Zo (Zh U8 (Ze 4) (Zf (.int 7)))) (Zo (Zh dGt (Zh Ya (Ze 0) (Zf (.int 3))) (Zf (.int 1))))) (Zab 3 (Z9 (Zc (Zh Y0 (Zh dIx (Ze 2) (Zf (.int 0))) (Zf (.int 2))) (Zc (Zh Y0 (Zh dIx (Ze 2) (Zf (.int 1))) (Zf (.int 2))) Zm)))) ZB)
  (Z5 2 (Z9 (Zc (Zh ZU (Zh dIx (Ze 2) (Zf (.int 0))) (Zh dIx (Ze 5) (Zf (.int 0)))) (Zc (Zh ZU (Zh dIx (Ze 2) (Zf (.int 1))) (Zh dIx (Ze 5) (Zf (.int 1)))) Zm))))))))
  (ZiF 3 (ZW (dFn 1 ZH (Zc (Ze 3) Zm)))))))))
noncomputable def ZQ:List D->Option D:=Zp 6 QN
noncomputable def ZaS:DS:=(Zr (Z5 1 (Wa (Zc (YO JB (Zf (.int 1))) (Zc (Zf (.int 0)) (Zc (Zf (.int 1)) (Zc (Zf (.int 101)) (Zc (YO JB (Zf (.int 101))) (Zc (Zf (.bl true)) (Zc (Zf (.bl false)) (Zc (Zf .non) (Zc (Zf (.str (Str.ofString ""))) (Zc (Zf (.str (Str.ofString "0"))) (Zc (Z9 Zm) (Zc (Wa Zm) (Zc (Z9 (Zc (Zf (.int 0)) Zm)) (Zc (Z9 (Zc (Zf (.int 0)) (Zc (Zf (.int 1)) Zm))) (Zc (Z9 (Zc (Zf (.int 1)) (Zc (Zf (.int 1)) Zm))) (Zc (Z9 (Zc (Zf (.int 0)) (Zc (Zf (.int 101)) Zm))) (Zc (Z9 (Zc (Zf (.bl true)) (Zc (Zf (.int 0)) Zm))) (Zc (Wa (Zc (Zf (.int 0)) (Zc (Zf (.int 1)) Zm))) Zm))))))))))))))))))))
  (ZW (Zh dIx (Zh ZU (Ze 1) (Wa (Zc (Z9 (Zc (Zf (.int 0)) (Zc (Zf .non) Zm))) (Zc (Z9 (Zc (Z9 (Zc (Zf (.int 0)) (Zc (Zf (.int 0)) Zm))) Zm)) (Zc (Z9 (Zc (Zf (.int 0)) (Zc (Zf (.int 0)) (Zc (Zf (.int 0)) Zm)))) (Zc (Zf (.int 2)) (Zc (Z9 (Zc (YO JB (Zf (.int 1))) (Zc (Zf (.int 5)) Zm))) (Zc (Z9 (Zc (Zf (.int 2)) (Zc (Zf (.int 2)) Zm))) (Zc (Z9 (Zc (Zf (.str (Str.ofString "0"))) (Zc (Zf (.int 1)) Zm))) Zm))))))))) (Zh Ya (Ze 0) (Zf (.int 25))))))
noncomputable def QE:List D->Option D:=Zp 2 ZaS
noncomputable def ZS (fr:List D->Option D):DS:=(Zr (Yh (Y1 (Zo (Zh dGt (Ze 2) (Zf (.int 0)))) (Y1 (Zo (YO (Vr .tuple) (Ze 0))) (Y1 (Zo (Zh dGt (ZN UI (Zc (Ze 0) Zm)) (Zf (.int 0)))) (Zo (Zh dGt (Zh Ya (Ze 1) (Zf (.int 6))) (Zf (.int 0))))))) (Zr (Z5 3 (Zh Ya (Zh Qj (Ze 1) (Zf (.int 6))) (ZN UI (Zc (Ze 0) Zm))))
  (Zr (Z5 4 (dFn 3 fr (Zc (Zh dIx (Ze 0) (Ze 3)) (Zc (Zh Qj (Ze 1) (Zf (.int 72))) (Zc (Zh Y0 (Ze 2) (Zf (.int 1))) Zm)))))
  (ZW (Zh ZU (Zh ZU (dSl (Ze 0) Qd (Qc (Ze 3))) (Z9 (Zc (Ze 4) Zm))) (dSl (Ze 0) (Qc (Zh ZU (Ze 3) (Zf (.int 1)))) Qd))))) ZB)
  (Zr (Yh (Y1 (Zo (YO (Vr .tuple) (Ze 0))) (Y1 (Zo (Zh dGt (ZN UI (Zc (Ze 0) Zm)) (Zf (.int 0)))) (Zo (Zh U8 (Zh Ya (Zh Qj (Ze 1) (Zf (.int 6))) (Zf (.int 2))) (Zf (.int 0)))))) (Zr (Z5 5 (Wa (Zc (ZN Ud (Zc (Ze 0) Zm)) (Zc (dSl (Ze 0) Qd (Qc (YO JB (Zf (.int 1))))) (Zc (Zh ZU (Ze 0) (dSl (Ze 0) (Qc (YO JB (Zf (.int 1)))) Qd)) (Zc (Zh ZU (dSl (Ze 0) (Qc (Zf (.int 1))) Qd) (dSl (Ze 0) Qd (Qc (Zf (.int 1))))) (Zc (Zhi (Ze 0)) (Zc (Zh ZgM (Ze 0) (Zf (.int 2))) Zm))))))))
  (ZW (Zh dIx (Ze 5) (Zh Ya (Zh Qj (Ze 1) (Zf (.int 12))) (Zf (.int 6)))))) ZB)
  (Zr (Yh (Y1 (Zo (YO (Vr .int) (Ze 0))) (Zo (Zh U8 (Zh Ya (Zh Qj (Ze 1) (Zf (.int 6))) (Zf (.int 2))) (Zf (.int 0))))) (ZW (Zh dIx (Wa (Zc (ZN ZgK (Zc (Ze 0) Zm)) (Zc (YO JB (Ze 0)) (Zc (Zh ZU (Ze 0) (Zf (.int 1))) (Zc (Zh U8 (Ze 0) (Zf (.int 1))) (Zc (Zh ZU (Ze 0) (Zf (.int 97))) (Zc (Zh Y0 (Ze 0) (Zf (.int 1))) Zm))))))) (Zh Ya (Zh Qj (Ze 1) (Zf (.int 12))) (Zf (.int 6))))) ZB)
  (ZW (dFn 1 QE (Zc (Zh Qj (Ze 1) (Zf (.int 6))) Zm))))))
noncomputable def J8:List D->Option D:=Zp 6 (ZS fun _=>none)
noncomputable def J7:List D->Option D:=Zp 6 (ZS J8)
noncomputable def Qy:List D->Option D:=Zp 6 (ZS J7)
noncomputable def W0:DS:=(ZW (Zao (YO (Vr .bool) (Ze 0)) (Zh U8 (Ze 0) (Ze 1))))
noncomputable def Yx:List D->Option D:=Zp 2 W0
@[simp] theorem ZlB (i:Nat) (ρ:Rho):Ze i ρ=(match ρ[i]? with | some (.val d)=>some d | _=>none):=rfl
@[simp] theorem Znh (d:D) (ρ:Rho):Zf d ρ=some d:=rfl
@[simp] theorem V9 (r:D->D->Option D) (f g:DE) (ρ:Rho):Zh r f g ρ=(f ρ).bind fun x=>(g ρ).bind fun y=>r x y:=by unfold Zh; rfl
@[simp] theorem Znd (r:D->Option D) (f:DE) (ρ:Rho):YO r f ρ=(f ρ).bind r:=rfl
@[simp] theorem ZmD (f:DE) (ρ:Rho):Zo f ρ=(f ρ).bind fun d=>match d with | .bl b=>some b | _=>none:=rfl
@[simp] theorem ZlR (r r':D->D->Option D) (f g h:DE) (ρ:Rho):Ue r r' f g h ρ=(f ρ).bind fun x=>(g ρ).bind fun y=>(r x y).bind fun z=>match z with
  | .bl true=>(h ρ).bind fun u=>r' y u
  | .bl false=>some (.bl false)
  | _=>none:=rfl
@[simp] theorem Zni (f g:DE) (ρ:Rho):Zao f g ρ=(f ρ).bind fun x=>match x with | .bl true=>g ρ | .bl false=>some (.bl false) | _=>none:=rfl
@[simp] theorem ZnX (f g:DE) (ρ:Rho):dOr f g ρ=(f ρ).bind fun x=>match x with | .bl true=>some (.bl true) | .bl false=>g ρ | _=>none:=rfl
@[simp] theorem Zne (f:DE) (ρ:Rho):ZlP f ρ=(f ρ).bind fun x=>match x with | .bl k=>some (.bl (!k)) | _=>none:=rfl
@[simp] theorem Zfj (f g:DT) (ρ:Rho):Y1 f g ρ=(f ρ).bind fun x=>match x with | true=>g ρ | false=>some false:=rfl
@[simp] theorem ZmV (f g:DT) (ρ:Rho):ZbT f g ρ=(f ρ).bind fun x=>match x with | true=>some true | false=>g ρ:=rfl
@[simp] theorem ZlX (f:DT) (ρ:Rho):Qa f ρ=(f ρ).bind fun x=>some (!x):=rfl
@[simp] theorem Zhl (ρ:Rho):ZY ρ=some true:=rfl
@[simp] theorem Znf (ρ:Rho):Zm ρ=some []:=rfl
@[simp] theorem ZbC (f:DE) (a:DA) (ρ:Rho):Zc f a ρ=(f ρ).bind fun x=>(a ρ).bind fun xs=>some (x::xs):=rfl
@[simp] theorem Znb (as:DA) (ρ:Rho):Z9 as ρ=(as ρ).bind fun xs=>if xs.length<=lim then some (.tup xs) else none:=by unfold Z9; rfl
@[simp] theorem Zng (as:DA) (ρ:Rho):Wa as ρ=(as ρ).bind fun xs=>if xs.length<=lim then some (.lst xs) else none:=by unfold Wa; rfl
@[simp] theorem ZjX (r:List D->Option D) (as:DA) (ρ:Rho):ZN r as ρ=(as ρ).bind r:=by unfold ZN; rfl
@[simp] theorem ZjW (n:Nat) (fn:List D->Option D) (as:DA) (ρ:Rho):dFn n fn as ρ=(as ρ).bind fun xs=>if xs.length=n then fn xs else none:=by unfold dFn; rfl
@[simp] theorem ZmF (ρ:Rho):ZB ρ=some (.nx ρ):=rfl
@[simp] theorem Zx (g g':DS) (ρ:Rho):Zr g g' ρ=(match g ρ with | some (.nx ρ1)=>g' ρ1 | r=>r):=by unfold Zr; rfl
@[simp] theorem ZgL (f:DE) (ρ:Rho):ZW f ρ=(f ρ).map .rt:=by unfold ZW; rfl
@[simp] theorem QO (t:DT) (g g':DS) (ρ:Rho):Yh t g g' ρ=(t ρ).bind fun b=>match b with | true=>g ρ | false=>g' ρ:=by unfold Yh; rfl
@[simp] theorem W9 (i:Nat) (f:DE) (ρ:Rho):Z5 i f ρ=(f ρ).map fun d=>.nx (ρ.set i (.val d)):=by unfold Z5; rfl
@[simp] theorem UJ (it:DI) (b:DG) (g:DS) (ρ:Rho):Ws it b g ρ=(it ρ).bind fun xs=>QY b g xs ρ:=by unfold Ws; rfl
@[simp] theorem Zms (f:DE) (ρ:Rho):QU f ρ=(f ρ).bind fun d=>match d with | .lst xs=>some xs | .tup xs=>some xs | _=>none:=rfl
@[simp] theorem Zm7 (f:DE) (ρ:Rho):Zbw f ρ=(f ρ).bind fun d=>match d with | .int j=>if Wm j then some (Qs 0 j.toNat) else none | _=>none:=by unfold Zbw; rfl
@[simp] theorem Zm6 (f g:DE) (ρ:Rho):Zgp f g ρ=(f ρ).bind fun d=>(g ρ).bind fun d'=>match d,d' with | .int i,.int j=>if Wm i&&Wm j then some (Qs i (j-i).toNat) else none | _,_=>none:=by unfold Zgp; rfl
@[simp] theorem Zaa (caps:List (Option Nat)) (it:DI) (b:DG) (t:DT) (f:DE) (ρ:Rho):QP caps it b t f ρ=(it ρ).bind fun xs=>if xs.length<=lim then (YN b t f xs (JE caps ρ)).map .lst else none:=by unfold QP; rfl
@[simp] theorem ZmE (f:DE) (l h:DO) (ρ:Rho):dSl f l h ρ=(f ρ).bind fun x=>(l ρ).bind fun lo=>(h ρ).bind fun hi=>Ze6 lo hi x:=rfl
@[simp] theorem ZjC (ρ:Rho):Qd ρ=some none:=rfl
@[simp] theorem ZjB (f:DE) (ρ:Rho):Qc f ρ=(f ρ).bind fun d=>match d with | .int i=>some (some i) | _=>none:=rfl
@[simp] theorem Znc (f:DE) (ρ:Rho):Zhi f ρ=(f ρ).bind fun x=>match x with | .lst xs=>some (.lst xs.reverse) | .tup xs=>some (.tup xs.reverse) | _=>none:=rfl
@[simp] theorem Zg0 (i:Nat) (d:D) (ρ:Rho):ZV i d ρ=some (ρ.set i (.val d)):=rfl
@[simp] theorem Zaf (i j:Nat) (a b:D) (ρ:Rho):YC i j (.tup [a,b]) ρ=some ((ρ.set i (.val a)).set j (.val b)):=rfl
@[simp] theorem Znx (i j:Int):Y0 (.int i) (.int j)=some (.int (i-j)):=rfl
@[simp] theorem ZnZ (i j:Int):ZU (.int i) (.int j)=some (.int (i+j)):=rfl
@[simp] theorem ZnH (i:Int):JB (.int i)=some (.int (-i)):=rfl
@[simp] theorem Zoe (i j:Int):dLt (.int i) (.int j)=some (.bl (decide (i < j))):=rfl
@[simp] theorem Zok (i j:Int):dLe (.int i) (.int j)=some (.bl (decide (i<=j))):=rfl
@[simp] theorem Zol (i j:Int):dGt (.int i) (.int j)=some (.bl (decide (j < i))):=rfl
@[simp] theorem Zom (i j:Int):dGe (.int i) (.int j)=some (.bl (decide (j<=i))):=rfl
theorem U1 {i j:Int} (h:(-18446744073709551616 < i/\i < 18446744073709551616)\/(-18446744073709551616 < j/\j < 18446744073709551616)):YW (.int i) (.int j)=some (.int (i*j)):=by
  have:Zkc i j=true:=by
    unfold Zkc
    rcases h with ⟨a,b⟩ | ⟨a,b⟩
    · rw [Bool.or_eq_true_iff]; left; simp; omega
    · rw [Bool.or_eq_true_iff]; right; simp; omega
  show (if Zkc i j=true then _ else _)=_
  rw [if_pos this]
theorem YS {i j:Int} (h:0 < j):Ya (.int i) (.int j)=some (.int (i % j)):=by
  show (if decide (0 < j)=true then _ else _)=_
  rw [if_pos (by simpa using h)]
theorem UA {i j:Int} (h:0 < j) (h2:j < 1073741824):Qj (.int i) (.int j)=some (.int (i / j)):=by
  show (if (decide (0 < j)&&decide (j < 1073741824))=true then _ else _)=_
  rw [if_pos (by simp [h,h2])]
@[simp] theorem ZnO (a b:D):dIx (.tup [a,b]) (.int 0)=some a:=rfl
@[simp] theorem ZnN (a b:D):dIx (.tup [a,b]) (.int 1)=some b:=rfl
@[simp] theorem Zm0 (i j:Int):ZeP [.int i,.int j]=some (.int (if j < i then j else i)):=rfl
@[simp] theorem Zm1 (i j:Int):Zcu [.int i,.int j]=some (.int (if j > i then j else i)):=rfl
@[simp] theorem Zm3 (xs:List D):UI [.lst xs]=some (.int xs.length):=rfl
@[simp] theorem Zm2 (xs:List D):UI [.tup xs]=some (.int xs.length):=rfl
@[simp] theorem ZnV (i j:Int):U8 (.int i) (.int j)=some (.bl (decide (i=j))):=by
  show (if (okD (.int i)&&okD (.int j))=true then _ else _)=_
  rw [if_pos (by rfl)]
  congr 2
@[simp] theorem ZnI (i j:Int):ZbB (.int i) (.int j)=some (.bl (!decide (i=j))):=by
  show (if (okD (.int i)&&okD (.int j))=true then _ else _)=_
  rw [if_pos (by rfl)]
  congr 3
@[simp] theorem ZnJ (i j:Bool):ZbB (.bl i) (.bl j)=some (.bl (i != j)):=by
  cases i <;> cases j <;> rfl
@[simp] theorem ZnW (i j:Bool):U8 (.bl i) (.bl j)=some (.bl (i==j)):=by
  cases i <;> cases j <;> rfl
noncomputable abbrev Pt:=Int×Int
noncomputable def pD (p:Pt):D:=.tup [.int p.1,.int p.2]
noncomputable def Sm (p:Pt):Prop:=(-1000000<=p.1/\p.1<=1000000)/\(-1000000<=p.2/\p.2<=1000000)
noncomputable def ZG (a b c:Pt):Int:=(b.1-a.1)*(c.2-a.2)-(b.2-a.2)*(c.1-a.1)
theorem Vl {a b c:Pt} (ha:Sm a) (hb:Sm b) (hc:Sm c):UH [pD a,pD b,pD c]=some (.int (ZG a b c)):=by
  obtain ⟨⟨a1,a2⟩,a3,a4⟩:=ha
  obtain ⟨⟨b1,b2⟩,b3,b4⟩:=hb
  obtain ⟨⟨c1,c2⟩,c3,c4⟩:=hc
  have m1:=U1 (i:=b.1-a.1) (j:=c.2-a.2) (.inl (by omega))
  have m2:=U1 (i:=b.2-a.2) (j:=c.1-a.1) (.inl (by omega))
  simp [UH,Zp,ZiC,pD,ZG,m1,m2]
theorem Z8 {a b c:Pt} (ha:Sm a) (hb:Sm b) (hc:Sm c):ZJ [pD a,pD b,pD c]=some (.int (ZG a b c)):=Vl ha hb hc
noncomputable def Zj0 (i j n:Int):Bool:=decide ((if j < i then j else i)<=n)&&decide (n<=(if j > i then j else i))
@[simp] theorem Wr (i j n:Int):Yn [.int i,.int j,.int n]=some (.bl (Zj0 i j n)):=by
  simp [Yn,Zp,UF,Zj0]
  by_cases h:(if j < i then j else i)<=n
  · simp [h]
  · simp [h]
noncomputable def onZ (a b c:Pt):Bool:=decide (ZG a b c=0)&&Zj0 a.1 b.1 c.1&&Zj0 a.2 b.2 c.2
@[simp] theorem Zod (p:Pt):dIx (pD p) (.int 0)=some (.int p.1):=rfl
@[simp] theorem Zoc (p:Pt):dIx (pD p) (.int 1)=some (.int p.2):=rfl
noncomputable def sD (s:Pt×Pt):D:=.tup [pD s.1,pD s.2]
@[simp] theorem Zob (s:Pt×Pt):dIx (sD s) (.int 0)=some (pD s.1):=rfl
@[simp] theorem Zoa (s:Pt×Pt):dIx (sD s) (.int 1)=some (pD s.2):=rfl
theorem Jy {a b c:Pt} (ha:Sm a) (hb:Sm b) (hc:Sm c):Qp [sD (a,b),pD c]=some (.bl (onZ a b c)):=by
  simp [Qp,Zp,Zck,Vl ha hb hc,Wr,onZ]
  by_cases h:ZG a b c=0
  · simp [h]
    cases Zj0 a.1 b.1 c.1 <;> simp
  · simp [h]
theorem Jz {a b c:Pt} (ha:Sm a) (hb:Sm b) (hc:Sm c):Ym [pD a,pD b,pD c]=some (.bl (onZ a b c)):=by
  simp [Ym,Zp,Zcl,Z8 ha hb hc,onZ,Zj0]
  by_cases h:ZG a b c=0
  · simp [h]
    by_cases h1:(if b.1 < a.1 then b.1 else a.1)<=c.1
    · simp [h1]
      by_cases h2:c.1<=(if b.1 > a.1 then b.1 else a.1)
      · simp [h2]
        by_cases h3:(if b.2 < a.2 then b.2 else a.2)<=c.2
        · simp [h3]
        · simp [h3]
      · simp [h2]
    · simp [h1]
  · simp [h]
theorem Z6 {n:Nat} (h:n<=1000):n<=lim:=by unfold lim; omega
@[simp] theorem Zoj:(0<=lim)=True:=by simp
@[simp] theorem Zoi:(1<=lim)=True:=by rw [eq_true (Z6 (by omega))]
@[simp] theorem Zoh:(2<=lim)=True:=by rw [eq_true (Z6 (by omega))]
@[simp] theorem ZnL:(0+1+1<=lim)=True:=by rw [eq_true (Z6 (by omega))]
@[simp] theorem Zog:(3<=lim)=True:=by rw [eq_true (Z6 (by omega))]
@[simp] theorem ZnK:(0+1+1+1<=lim)=True:=by rw [eq_true (Z6 (by omega))]
@[simp] theorem Zof:(4<=lim)=True:=by rw [eq_true (Z6 (by omega))]
theorem ZaV {t:DT} {f:DE} {rest:Rho} {p:D->Bool} {g:D->D}:∀ {xs:List D} {s0:Sl},(∀ x∈xs,t (.val x::rest)=some (p x))->(∀ x∈xs,p x=true->f (.val x::rest)=some (g x)) ->
    YN (ZV 0) t f xs (s0::rest)=some ((xs.filter p).map g)
  | [],s0,_,_=>rfl
  | x::xs,s0,ht,hf=>by
    have ih:=ZaV (xs:=xs) (s0:=.val x) (t:=t) (f:=f) (rest:=rest) (p:=p) (g:=g) (fun y hy=>ht y (List.mem_cons_of_mem _ hy)) (fun y hy=>hf y (List.mem_cons_of_mem _ hy))
    have h1:=ht x List.mem_cons_self
    have h2:=hf x List.mem_cons_self
    simp only [YN,Zg0,List.set_cons_zero,Option.bind_some,h1]
    cases hp:p x with
    | true=>simp [h2 hp,ih,hp]
    | false=>simp [ih,hp]
theorem JD {f:DE} {rest:Rho} {g:D->D} {xs:List D} {s0:Sl} (hf:∀ x∈xs,f (.val x::rest)=some (g x)):YN (ZV 0) ZY f xs (s0::rest)=some (xs.map g):=by
  have:=ZaV (t:=ZY) (f:=f) (rest:=rest) (p:=fun _=>true) (g:=g) (xs:=xs) (s0:=s0) (fun _ _=>rfl) (fun x hx _=>hf x hx)
  rw [List.filter_eq_self.mpr (fun _ _=>rfl)] at this
  exact this
noncomputable def cyc (ps:List Pt) (i:Int):Pt:=ps[(i % (ps.length:Int)).toNat]?.getD (0,0)
theorem Zdl {n:Nat} {i:Int} (h1:-(n:Int)<=i) (h2:i < n):ixN n i=some (i % (n:Int)).toNat:=by
  unfold ixN
  by_cases h:0<=i
  · rw [if_pos h,if_pos h2,Int.emod_eq_of_lt h h2]
  · rw [if_neg h,if_pos h1]
    have:i % (n:Int)=i+n:=by
      rw [<-Int.add_emod_right]
      exact Int.emod_eq_of_lt (by omega) (by omega)
    rw [this]
theorem Zdx {ps:List Pt} {i:Int} (h1:-(ps.length:Int)<=i) (h2:i < ps.length):atI (ps.map pD) i=some (pD (cyc ps i)):=by
  have hn:0 < (ps.length:Int):=by omega
  have k1:=Int.emod_nonneg i (show (ps.length:Int)≠0 by omega)
  have k2:=Int.emod_lt_of_pos i hn
  unfold atI cyc
  rw [List.length_map,Zdl h1 h2]
  have hl:(i % (ps.length:Int)).toNat < ps.length:=by omega
  simp [hl]
theorem Jd {ps:List Pt} {i:Int} (h1:-(ps.length:Int)<=i) (h2:i < ps.length):dIx (.tup (ps.map pD)) (.int i)=some (pD (cyc ps i)):=Zdx h1 h2
theorem Zdm {ps:List Pt} {i:Int} (h1:-(ps.length:Int)<=i) (h2:i < ps.length):dIx (.lst (ps.map pD)) (.int i)=some (pD (cyc ps i)):=Zdx h1 h2
theorem QQ (ps:List Pt) (i:Int):cyc ps (i % ps.length)=cyc ps i:=by unfold cyc; rw [Int.emod_emod]
theorem Qg (ps:List Pt) (i:Int):cyc ps (i+ps.length)=cyc ps i:=by unfold cyc; rw [Int.add_emod_right]
theorem YB {ps:List Pt} (h:ps≠[]) (i:Int):cyc ps i∈ps:=by
  have hn:0 < (ps.length:Int):=by have:=List.length_pos_iff.mpr h; omega
  have k1:=Int.emod_nonneg i (show (ps.length:Int)≠0 by omega)
  have k2:=Int.emod_lt_of_pos i hn
  unfold cyc
  have hl:(i % (ps.length:Int)).toNat < ps.length:=by omega
  simp [hl]
theorem Y7 {ps:List Pt} {k:Nat} (h:k < ps.length):cyc ps k=ps[k]:=by
  unfold cyc
  rw [Int.emod_eq_of_lt (by omega) (by omega)]
  simp [h]
theorem YQ {n:Int} (h1:-1000000<=n) (h2:n<=1000000):Wm n=true:=by
  unfold Wm
  simp
  omega
noncomputable def All (P:Pt->Prop) (ps:List Pt):Prop:=∀ p∈ps,P p
noncomputable def Q5 (ps:List Pt) (k:Int):Pt×Pt:=(cyc ps k,cyc ps (k+1))
noncomputable def YK (ps:List Pt):List (Pt×Pt):=(List.range ps.length).map fun (k:Nat)=>Q5 ps ((k:Int)-1)
theorem Wv (lo:Int) (n:Nat):(Qs lo n).length=n:=by simp [Qs]
theorem Zho {ps : List Pt} : YN (ZV 0) ZY (Z9 (Zc (Zh dIx (Ze 1) (Zh Y0 (Ze 0) (Zf (.int 1)))) (Zc (Zh dIx (Ze 1) (Ze 0)) Zm))) (Qs 0 ps.length) (.no :: [.val (.tup (ps.map pD))]) =
      some ((Qs 0 ps.length).map fun x => match x with | .int i => sD (Q5 ps (i - 1)) | _ => .non) := by
    refine JD fun x hx => ?_
    unfold Qs at hx
    obtain ⟨k, hk, rfl⟩ := List.mem_map.mp hx
    have hk := List.mem_range.mp hk
    have e1 := Jd (ps := ps) (i := (0 + (k : Int)) - 1) (by omega) (by omega)
    have e2 := Jd (ps := ps) (i := (0 + (k : Int))) (by omega) (by omega)
    simp only [Int.zero_add] at e1 e2
    simp [e1, e2, sD, Q5]
theorem Zft {ps:List Pt} (h0:ps.length<=1000):Wm (ps.length:Int)=true:=YQ (by omega) (by omega)
theorem Zfu {ps:List Pt} (h0:ps.length<=1000):(Qs 0 ps.length).length<=lim:=by rw [Wv]; exact Z6 h0
theorem Zcq {ps:List Pt} (h0:ps.length<=1000):QC [.tup (ps.map pD)]=some (.lst ((YK ps).map sD)):=by
  simp -implicitDefEqProofs [QC,Zp,ZaQ,Zft h0,Zfu h0,JE,Zho]
  simp [YK,Qs]
theorem Jg {a b c:Pt} (ha:Sm a) (hb:Sm b) (hc:Sm c):Yv [pD a,pD b,pD c]=some (.bl (decide (0 < ZG a b c))):=by
  simp -implicitDefEqProofs [Yv,Zp,V2,Vl ha hb hc]
noncomputable def SmS (s:Pt×Pt):Prop:=Sm s.1/\Sm s.2
theorem Zfv {ps:List Pt} (h:All Sm ps):∀ s∈YK ps,SmS s:=fun s hs=>by
  obtain ⟨k,hk,rfl⟩:=List.mem_map.mp hs
  have hk:=List.mem_range.mp hk
  have ne:ps≠[]:=fun z=>by rw [z] at hk; simp at hk
  exact ⟨h _ (YB ne _),h _ (YB ne _)⟩
theorem Um (ps:List Pt):(YK ps).length=ps.length:=by simp [YK]
theorem Zlu {c:D} {xs:List D} (h:Qb c=some xs) (i:Int):dIx c (.int i)=atI xs i:=by
  cases c <;> first | (cases h; rfl) | cases h
theorem Zgj {c:D} {xs:List D} (h:Qb c=some xs):UI [c]=some (.int xs.length):=by
  cases c <;> first | (cases h; rfl) | cases h
theorem Zgo {f:DE} {ρ:Rho} {c:D} {xs:List D} (hf:f ρ=some c) (h:Qb c=some xs):QU f ρ=some xs:=by
  unfold QU
  rw [hf]
  cases c <;> first | (cases h; rfl) | cases h
theorem Zbx {f:DE} {ρ:Rho} {c:D} {xs:List D} (hf:f ρ=some c) (h:Qb c=some xs):Qt f ρ=some (YA 0 xs):=by
  unfold Qt
  rw [Zgo hf h]; rfl
theorem Zgm {c:D} {ps:List Pt} (h:Qb c=some (ps.map pD)) {i:Int} (h1:-(ps.length:Int)<=i) (h2:i < ps.length):dIx c (.int i)=some (pD (cyc ps i)):=by rw [Zlu h,Zdx h1 h2]
noncomputable def Ze4 (d k:Int):Int:=(((d+7919*k+1)*48271 % 2147483647)*((d+7919*k+1)*48271 % 2147483647)+7*((d+7919*k+1)*48271 % 2147483647)+k) % 2147483629
noncomputable def Jj (ns:List Int) (k:Nat):Int:=ns[k]?.getD 0
theorem Zh0 (ns:List Int) (k:Nat):Yo [.lst (ns.map .int),.int k]=some (.int (Jj ns k)):=by
  unfold Jj
  by_cases h:k < ns.length
  · have e:dIx (.lst (ns.map D.int)) (.int k)=some (.int ns[k]):=by
      show atI (ns.map D.int) (k:Int)=_
      exact Zj1 (by simp [h])
    simp -implicitDefEqProofs [Yo,Zp,Jf,h,e]
  · simp -implicitDefEqProofs [Yo,Zp,Jf,h]
theorem Vm (ns:List Int) (k:Nat):Zw [.lst (ns.map .int),.int k]=some (.int (Ze4 (Jj ns k) k)):=by
  have m1:=U1 (i:=7919) (j:=(k:Int)) (.inl (by omega))
  have m2:=U1 (i:=Jj ns k+7919*(k:Int)+1) (j:=48271) (.inr (by omega))
  have h1:=Int.emod_nonneg ((Jj ns k+7919*(k:Int)+1)*48271) (show (2147483647:Int)≠0 by omega)
  have h2:=Int.emod_lt_of_pos ((Jj ns k+7919*(k:Int)+1)*48271) (show (0:Int) < 2147483647 by omega)
  have d1:=YS (i:=(Jj ns k+7919*(k:Int)+1)*48271) (j:=2147483647) (by omega)
  have m3:=U1 (i:=(Jj ns k+7919*(k:Int)+1)*48271 % 2147483647) (j:=(Jj ns k+7919*(k:Int)+1)*48271 % 2147483647) (.inl (by omega))
  have m4:=U1 (i:=7) (j:=(Jj ns k+7919*(k:Int)+1)*48271 % 2147483647) (.inl (by omega))
  have d2:=fun x=>YS (i:=x) (j:=2147483629) (by omega)
  simp -implicitDefEqProofs [Zw,Zp,V6,Zh0,m1,m2,d1,m3,m4,d2,Ze4]
theorem Zbt (d k:Int):0<=Ze4 d k/\Ze4 d k < 2147483629:=⟨Int.emod_nonneg _ (by omega),Int.emod_lt_of_pos _ (by omega)⟩
noncomputable def Uz (n k:Int):Int:=(((n+104729*k+17)*69621 % 2147483647)*((n+104729*k+17)*69621 % 2147483647)+3*((n+104729*k+17)*69621 % 2147483647)+k) % 2147483629
theorem Vn (n k:Int):Zz [.int n,.int k]=some (.int (Uz n k)):=by
  have m1:=U1 (i:=104729) (j:=k) (.inl (by omega))
  have m2:=U1 (i:=n+104729*k+17) (j:=69621) (.inr (by omega))
  have h1:=Int.emod_nonneg ((n+104729*k+17)*69621) (show (2147483647:Int)≠0 by omega)
  have h2:=Int.emod_lt_of_pos ((n+104729*k+17)*69621) (show (0:Int) < 2147483647 by omega)
  have d1:=YS (i:=(n+104729*k+17)*69621) (j:=2147483647) (by omega)
  have m3:=U1 (i:=(n+104729*k+17)*69621 % 2147483647) (j:=(n+104729*k+17)*69621 % 2147483647) (.inl (by omega))
  have m4:=U1 (i:=3) (j:=(n+104729*k+17)*69621 % 2147483647) (.inl (by omega))
  have d2:=fun x=>YS (i:=x) (j:=2147483629) (by omega)
  simp -implicitDefEqProofs [Zz,Zp,V7,m1,m2,d1,m3,m4,d2,Uz]
theorem Ut {c:D} {ps:List Pt} (h:Qb c=some (ps.map pD)) (hne:ps≠[]) (i j:Int):Zv [c,.int i,.int j]=some (pD (cyc ps (i+j))):=by
  have hn:0 < (ps.length:Int):=by have:=List.length_pos_iff.mpr hne; omega
  have k1:=Int.emod_nonneg (i+j) (show (ps.length:Int)≠0 by omega)
  have k2:=Int.emod_lt_of_pos (i+j) hn
  have e:=Zgm h (i:=(i+j) % (ps.length:Int)) (by omega) k2
  have d:=YS (i:=i+j) (j:=(ps.length:Int)) hn
  have l:=Zgj h
  rw [List.length_map] at l
  simp -implicitDefEqProofs [Zv,Zp,W2,l,d,e]
  rw [QQ]
noncomputable def Zdy (ps:List Pt):Int->List Pt->Int
  | _,[]=>0
  | k,a::r=>(a.1*(cyc ps (k+1)).2-a.2*(cyc ps (k+1)).1)+Zdy ps (k+1) r
noncomputable def ZaA (ps:List Pt):Int:=Zdy ps 0 ps
theorem Zk9 {i j:Int} (h1:-1000000<=i) (h2:i<=1000000):YW (.int i) (.int j)=some (.int (i*j)):=U1 (.inl (by omega))
theorem Zg5 {c:D} {ps:List Pt} (h:Qb c=some (ps.map pD)) (hne:ps≠[]) {a:Pt} (ha:Sm a) (found k:Int) (s4:Sl) :
    (Zr (Z5 4 (dFn 3 Zv (Zc (Ze 0) (Zc (Ze 2) (Zc (Zf (.int 1)) Zm)))))
  (Z5 1 (Zh Y0 (Zh ZU (Ze 1) (Zh YW (Zh dIx (Ze 3) (Zf (.int 0))) (Zh dIx (Ze 4) (Zf (.int 1))))) (Zh YW (Zh dIx (Ze 3) (Zf (.int 1))) (Zh dIx (Ze 4) (Zf (.int 0))))))) [.val c,.val (.int found),.val (.int k),.val (pD a),s4] =
    some (.nx [.val c,.val (.int (found+(a.1*(cyc ps (k+1)).2-a.2*(cyc ps (k+1)).1))),.val (.int k),.val (pD a),.val (pD (cyc ps (k+1)))]):=by
  obtain ⟨⟨a1,a2⟩,a3,a4⟩:=ha
  have m1:=Zk9 (i:=a.1) (j:=(cyc ps (k+1)).2) a1 a2
  have m2:=Zk9 (i:=a.2) (j:=(cyc ps (k+1)).1) a3 a4
  have e:=Ut h hne k 1
  simp -implicitDefEqProofs [e,m1,m2]
  omega
theorem ZcF {c:D} {ps:List Pt} (h:Qb c=some (ps.map pD)) (hne:ps≠[]):∀ (ys:List Pt) (k:Nat) (found:Int) (s2 s3 s4:Sl),All Sm ys->∃ t2 t3 t4,
    QY (YC 2 3) (Zr (Z5 4 (dFn 3 Zv (Zc (Ze 0) (Zc (Ze 2) (Zc (Zf (.int 1)) Zm)))))
  (Z5 1 (Zh Y0 (Zh ZU (Ze 1) (Zh YW (Zh dIx (Ze 3) (Zf (.int 0))) (Zh dIx (Ze 4) (Zf (.int 1))))) (Zh YW (Zh dIx (Ze 3) (Zf (.int 1))) (Zh dIx (Ze 4) (Zf (.int 0)))))))
      (YA k (ys.map pD)) [.val c,.val (.int found),s2,s3,s4]=some (.nx [.val c,.val (.int (found+Zdy ps k ys)),t2,t3,t4])
  | [],k,found,s2,s3,s4,_=>⟨s2,s3,s4,by simp [YA,QY,Zdy]⟩
  | a::ys,k,found,s2,s3,s4,hs=>by
    have st:=Zg5 h hne (hs a List.mem_cons_self) found k s4
    obtain ⟨t2,t3,t4,ih⟩:=ZcF h hne ys (k+1) (found+(a.1*(cyc ps ((k:Int)+1)).2-a.2*(cyc ps ((k:Int)+1)).1)) (.val (.int k)) (.val (pD a)) (.val (pD (cyc ps ((k:Int)+1)))) fun p hp=>hs p (List.mem_cons_of_mem _ hp)
    refine ⟨t2,t3,t4,?_⟩
    simp only [List.map_cons,YA,QY,Zaf,List.set_cons_zero,List.set_cons_succ,Option.bind_some]
    rw [st]
    show QY _ _ _ _=_
    rw [ih]
    simp only [Zdy]
    rw [Int.add_assoc]
    rfl
theorem Zd8 {c:D} {ps:List Pt} (h:Qb c=some (ps.map pD)) (hne:ps≠[]) (hs:All Sm ps):Yz [c]=some (.int (ZaA ps)):=by
  obtain ⟨t2,t3,t4,e⟩:=ZcF h hne ps 0 0 .no .no .no hs
  unfold Yz Zp W4
  show (Zr _ (Zr _ _) [.val c,.no,.no,.no,.no]).bind _=_
  rw [Zx]
  show (Zr _ _ [.val c,.val (.int 0),.no,.no,.no]).bind _=_
  rw [Zx,UJ]
  have e0:Qt (Ze 0) [.val c,.val (.int 0),.no,.no,.no]=some (YA 0 (ps.map pD)):=Zbx rfl h
  rw [e0,Option.bind_some,e]
  rw [Int.zero_add]
  rfl
noncomputable def WD (ps:List Pt):Int->List Pt->List (Pt×Pt)
  | _,[]=>[]
  | k,a::r=>(a,cyc ps (k+1))::WD ps (k+1) r
theorem VY (ps:List Pt):∀ (ys:List Pt) (k:Nat),ps.drop k=ys->WD ps k ys=(List.range ys.length).map fun (j:Nat)=>Q5 ps (((k+j:Nat)):Int)
  | [],k,_=>rfl
  | a::ys,k,h=>by
    have hk:k < ps.length:=by
      by_cases z:k < ps.length
      · exact z
      · rw [List.drop_eq_nil_of_le (by omega)] at h; cases h
    rw [List.drop_eq_getElem_cons hk] at h
    injection h with h1 h2
    have ih:=VY ps ys (k+1) h2
    unfold WD
    rw [List.length_cons,List.range_succ_eq_map,List.map_cons,List.map_map]
    congr 1
    · unfold Q5
      rw [Nat.add_zero,Y7 hk,h1]
    · rw [show ((k:Int)+1)=((k+1:Nat):Int) by omega,ih]
      apply List.map_congr_left
      intro j _
      simp only [Function.comp]
      congr 1
      omega
theorem okL {ds:List D} (h:∀ d∈ds,okD d=true/\(JG d).depth<=5):PyData.canLayAll0 (Qx ds)=true/\PyData.depthAll (Qx ds)<=5:=by
  induction ds with
  | nil=>simp [Qx,PyData.canLayAll0,PyData.depthAll]
  | cons d ds ih=>
    obtain ⟨h1,h2⟩:=h d List.mem_cons_self
    obtain ⟨i1,i2⟩:=ih fun e he=>h e (List.mem_cons_of_mem _ he)
    simp [Qx,PyData.canLayAll0,PyData.depthAll,okD.can h1,i1]
    omega
theorem Zf4 {ds:List D} (h:∀ d∈ds,okD d=true/\(JG d).depth<=5):okD (.lst ds)=true/\(JG (.lst ds)).depth<=6:=by
  obtain ⟨h1,h2⟩:=okL h
  simp [okD,JG,PyData.canLay0,PyData.depth,h1]
  omega
theorem Zjw {ds:List D} (h:∀ d∈ds,okD d=true/\(JG d).depth<=5):okD (.tup ds)=true/\(JG (.tup ds)).depth<=6:=by
  obtain ⟨h1,h2⟩:=okL h
  simp [okD,JG,PyData.canLay0,PyData.depth,h1]
  omega
theorem Zjy (i:Int):okD (.int i)=true/\(JG (.int i)).depth<=5:=⟨rfl,Nat.zero_le _⟩
theorem V0 (p:Pt):okD (pD p)=true/\(JG (pD p)).depth<=5:=by
  refine ⟨rfl,?_⟩
  simp [pD,JG,Qx,PyData.depth,PyData.depthAll]
theorem ZgI (i j:Int):deq (.int i) (.int j)=decide (i=j):=by
  show PyData.eqv (.int i) (.int j)=_
  simp only [PyData.eqv]
  rfl
theorem Zct (p q:Pt):deq (pD p) (pD q)=decide (p=q):=by
  show PyData.eqv (.tuple [.int p.1,.int p.2]) (.tuple [.int q.1,.int q.2])=_
  simp only [PyData.eqv,PyData.eqvAll,Bool.and_true]
  rw [Bool.eq_iff_iff]
  simp [Prod.ext_iff]
theorem Zgt (i:Int) (ns:List Int):ZiG (.int i) (.lst (ns.map .int))=some (.bl (decide (i∈ns))):=by
  have h1:okD (.lst (ns.map D.int))=true:=(Zf4 fun d hd=>by obtain ⟨n,_,rfl⟩:=List.mem_map.mp hd; exact Zjy n).1
  have h2:okD (.int i)=true:=rfl
  show Option.map D.bl (if (okD (.int i)&&okD (.lst (ns.map D.int)))=true then some ((ns.map D.int).any fun y=>deq y (.int i)) else none)=_
  rw [h1,h2,if_pos (by decide)]
  show some (D.bl _)=_
  congr 2
  rw [Bool.eq_iff_iff,List.any_eq_true,decide_eq_true_eq]
  constructor
  · rintro ⟨x,hx,q⟩
    obtain ⟨n,hn,rfl⟩:=List.mem_map.mp hx
    rw [ZgI] at q
    have:=of_decide_eq_true q
    subst this; exact hn
  · intro h
    exact ⟨.int i,List.mem_map.mpr ⟨i,h,rfl⟩,by rw [ZgI]; simp⟩
noncomputable def Zbu (a b c d:Pt):Bool:=(onZ a b c||onZ a b d||onZ c d a||onZ c d b)||(decide (ZG a b c*ZG a b d < 0)&&decide (ZG c d a*ZG c d b < 0))
theorem ZaH {a b c:Pt} (ha:Sm a) (hb:Sm b) (hc:Sm c):-18446744073709551616 < ZG a b c/\ZG a b c < 18446744073709551616:=by
  obtain ⟨⟨a1,a2⟩,a3,a4⟩:=ha
  obtain ⟨⟨b1,b2⟩,b3,b4⟩:=hb
  obtain ⟨⟨c1,c2⟩,c3,c4⟩:=hc
  have key:∀ x y:Int,-2000000<=x->x<=2000000->-2000000<=y->y<=2000000->-4000000000000<=x*y/\x*y<=4000000000000:=by
    intro x y h1 h2 h3 h4
    have n:(x*y).natAbs<=2000000*2000000:=by
      rw [Int.natAbs_mul]
      exact Nat.mul_le_mul (by omega) (by omega)
    omega
  have k1:=key (b.1-a.1) (c.2-a.2) (by omega) (by omega) (by omega) (by omega)
  have k2:=key (b.2-a.2) (c.1-a.1) (by omega) (by omega) (by omega) (by omega)
  unfold ZG
  omega
theorem ZhZ {a b c d:Pt} (ha:Sm a) (hb:Sm b) (hc:Sm c) (hd:Sm d):Yy [pD a,pD b,pD c,pD d]=some (.bl (Zbu a b c d)):=by
  have o1:=Jz ha hb hc
  have o2:=Jz ha hb hd
  have o3:=Jz hc hd ha
  have o4:=Jz hc hd hb
  have t1:=Z8 ha hb hc
  have t2:=Z8 ha hb hd
  have t3:=Z8 hc hd ha
  have t4:=Z8 hc hd hb
  have m1:=U1 (i:=ZG a b c) (j:=ZG a b d) (.inl (ZaH ha hb hc))
  have m2:=U1 (i:=ZG c d a) (j:=ZG c d b) (.inl (ZaH hc hd ha))
  unfold Zbu
  have e1:(Yh (ZbT (Zo (dFn 3 Ym (Zc (Ze 0) (Zc (Ze 1) (Zc (Ze 2) Zm))))) (ZbT (Zo (dFn 3 Ym (Zc (Ze 0) (Zc (Ze 1) (Zc (Ze 3) Zm))))) (ZbT (Zo (dFn 3 Ym (Zc (Ze 2) (Zc (Ze 3) (Zc (Ze 0) Zm))))) (Zo (dFn 3 Ym (Zc (Ze 2) (Zc (Ze 3) (Zc (Ze 1) Zm)))))))) (ZW (Zf (.bl true))) ZB) [.val (pD a),.val (pD b),.val (pD c),.val (pD d)] =
      if (onZ a b c||onZ a b d||onZ c d a||onZ c d b)=true then some (.rt (.bl true)) else some (.nx [.val (pD a),.val (pD b),.val (pD c),.val (pD d)]):=by
    cases q1:onZ a b c with
    | true=>rw [q1] at o1; simp -implicitDefEqProofs [o1]
    | false=>
      rw [q1] at o1
      cases q2:onZ a b d with
      | true=>rw [q2] at o2; simp -implicitDefEqProofs [o1,o2]
      | false=>
        rw [q2] at o2
        cases q3:onZ c d a with
        | true=>rw [q3] at o3; simp -implicitDefEqProofs [o1,o2,o3]
        | false=>
          rw [q3] at o3
          cases q4:onZ c d b with
          | true=>rw [q4] at o4; simp -implicitDefEqProofs [o1,o2,o3,o4]
          | false=>rw [q4] at o4; simp -implicitDefEqProofs [o1,o2,o3,o4]
  unfold Yy Zp W3
  show (Zr _ (Zr _ _) [.val (pD a),.val (pD b),.val (pD c),.val (pD d)]).bind _=_
  rw [Zx,e1]
  by_cases ho:(onZ a b c||onZ a b d||onZ c d a||onZ c d b)=true
  · rw [if_pos ho,ho]; rfl
  · rw [if_neg ho]
    have ho':(onZ a b c||onZ a b d||onZ c d a||onZ c d b)=false:=by simpa using ho
    rw [ho',Bool.false_or]
    show (Zr _ _ [.val (pD a),.val (pD b),.val (pD c),.val (pD d)]).bind _=_
    by_cases hn:ZG a b c*ZG a b d < 0
    · have:¬ 0<=ZG a b c*ZG a b d:=by omega
      simp -implicitDefEqProofs [t1,t2,t3,t4,m1,m2,this,hn]
    · have:0<=ZG a b c*ZG a b d:=by omega
      simp -implicitDefEqProofs [t1,t2,m1,this,hn]
theorem U3 {b:DG} {g:DS} {R:Rho->Prop} {bad:D->Bool} {d:D}:∀ {xs:List D},(∀ x∈xs,∀ ρ,R ρ->∃ ρ1,b x ρ=some ρ1/\if bad x=true then g ρ1=some (.rt d) else ∃ ρ2,R ρ2/\g ρ1=some (.nx ρ2)) ->
    ∀ ρ,R ρ->if xs.any bad=true then QY b g xs ρ=some (.rt d) else ∃ ρ2,R ρ2/\QY b g xs ρ=some (.nx ρ2)
  | [],h,ρ,hr=>by
    rw [if_neg (by simp)]
    exact ⟨ρ,hr,rfl⟩
  | x::xs,h,ρ,hr=>by
    obtain ⟨ρ1,e1,h1⟩:=h x List.mem_cons_self ρ hr
    have ih:=U3 (xs:=xs) (b:=b) (g:=g) (R:=R) (bad:=bad) (d:=d) fun y hy=>h y (List.mem_cons_of_mem _ hy)
    rw [List.any_cons]
    by_cases hb:bad x=true
    · rw [if_pos hb] at h1
      rw [hb,Bool.true_or,if_pos rfl]
      unfold QY
      rw [e1,Option.bind_some,h1]
    · rw [if_neg hb] at h1
      obtain ⟨ρ2,r2,h2⟩:=h1
      have hb':bad x=false:=by simpa using hb
      rw [hb',Bool.false_or]
      have e:QY b g (x::xs) ρ=QY b g xs ρ2:=by
        conv=>lhs; unfold QY
        rw [e1,Option.bind_some,h2]
      rw [e]
      exact ih ρ2 r2
noncomputable def Qk (ps:List Pt):List Int:=(List.range ps.length).map fun (k:Nat)=>ZG (cyc ps k) (cyc ps ((k:Int)+1)) (cyc ps ((k:Int)+2))
theorem ZiX {c:D} {ps:List Pt} (h:Qb c=some (ps.map pD)) (hne:ps≠[]) (hps:All Sm ps) {a:Pt} (ha:Sm a) (acc:List Int) (hl:acc.length < 1000) (k:Int) :
    (Zab 1 (dFn 3 ZJ (Zc (Ze 3) (Zc (dFn 3 Zv (Zc (Ze 0) (Zc (Ze 2) (Zc (Zf (.int 1)) Zm)))) (Zc (dFn 3 Zv (Zc (Ze 0) (Zc (Ze 2) (Zc (Zf (.int 2)) Zm)))) Zm))))) [.val c,.own (acc.map .int),.val (.int k),.val (pD a)] =
    some (.nx [.val c,.own ((acc++[ZG a (cyc ps (k+1)) (cyc ps (k+2))]).map .int),.val (.int k),.val (pD a)]):=by
  have e1:=Ut h hne k 1
  have e2:=Ut h hne k 2
  have e3:=Z8 ha (hps _ (YB hne (k+1))) (hps _ (YB hne (k+2)))
  have hl':acc.length < lim:=by unfold lim; omega
  unfold Zab
  simp -implicitDefEqProofs [e1,e2,e3,hl']
theorem Zfh {c:D} {ps:List Pt} (h:Qb c=some (ps.map pD)) (hne:ps≠[]) (hps:All Sm ps):∀ (ys:List Pt) (k:Nat) (acc:List Int) (s2 s3:Sl),All Sm ys->ps.drop k=ys->acc.length+ys.length<=1000->∃ t2 t3,
    QY (YC 2 3) (Zab 1 (dFn 3 ZJ (Zc (Ze 3) (Zc (dFn 3 Zv (Zc (Ze 0) (Zc (Ze 2) (Zc (Zf (.int 1)) Zm)))) (Zc (dFn 3 Zv (Zc (Ze 0) (Zc (Ze 2) (Zc (Zf (.int 2)) Zm)))) Zm)))))
      (YA k (ys.map pD)) [.val c,.own (acc.map .int),s2,s3]=some (.nx [.val c,.own ((acc++(List.range ys.length).map fun (j:Nat)=>ZG (cyc ps ((k+j:Nat):Int)) (cyc ps (((k+j:Nat):Int)+1)) (cyc ps (((k+j:Nat):Int)+2))).map .int),t2,t3])
  | [],k,acc,s2,s3,_,_,_=>⟨s2,s3,by simp [YA,QY]⟩
  | a::ys,k,acc,s2,s3,hs,hdr,hl=>by
    have hk:k < ps.length:=by
      by_cases z:k < ps.length
      · exact z
      · rw [List.drop_eq_nil_of_le (by omega)] at hdr; cases hdr
    rw [List.drop_eq_getElem_cons hk] at hdr
    injection hdr with h1 h2
    have st:=ZiX h hne hps (hs a List.mem_cons_self) acc (by simp at hl; omega) k
    obtain ⟨t2,t3,ih⟩:=Zfh h hne hps ys (k+1) (acc++[ZG a (cyc ps ((k:Int)+1)) (cyc ps ((k:Int)+2))]) (.val (.int k)) (.val (pD a)) (fun p hp=>hs p (List.mem_cons_of_mem _ hp)) h2 (by simp at hl ⊢; omega)
    refine ⟨t2,t3,?_⟩
    simp only [List.map_cons,YA,QY,Zaf,List.set_cons_zero,List.set_cons_succ,Option.bind_some]
    rw [st]
    show QY _ _ _ _=_
    rw [ih]
    congr 5
    rw [List.append_assoc,List.length_cons,List.range_succ_eq_map,List.map_cons,List.map_map]
    refine congrArg (fun z=>List.map D.int (acc++z)) ?_
    rw [List.singleton_append]
    congr 1
    · rw [<-h1,<-Y7 hk,Nat.add_zero]
    · apply List.map_congr_left
      intro j _
      simp only [Function.comp]
      have:((k+1+j:Nat):Int)=((k+(j+1):Nat):Int):=by omega
      rw [this]
theorem Zcp {c:D} {ps:List Pt} (h:Qb c=some (ps.map pD)) (hne:ps≠[]) (hps:All Sm ps) (hl:ps.length<=1000):ZZ [c]=some (.lst ((Qk ps).map .int)):=by
  obtain ⟨t2,t3,e⟩:=Zfh h hne hps ps 0 [] .no .no hps rfl (by simpa using hl)
  unfold ZZ Zp V3
  show (Zr _ (Zr _ _) [.val c,.no,.no,.no]).bind _=_
  rw [Zx]
  have e0:Ji 1 Zm [.val c,.no,.no,.no]=some (.nx [.val c,.own [],.no,.no]):=by
    unfold Ji
    simp -implicitDefEqProofs
  rw [e0]
  show (Zr _ _ [.val c,.own [],.no,.no]).bind _=_
  rw [Zx,UJ]
  have e1:Qt (Ze 0) [.val c,.own [],.no,.no]=some (YA 0 (ps.map pD)):=Zbx rfl h
  rw [e1,Option.bind_some]
  have e':=e
  simp only [List.map_nil,List.nil_append,Nat.zero_add] at e'
  rw [e']
  show (ZiF 1 (ZW (Ze 1)) _).bind _=_
  unfold ZiF L3.rel
  simp -implicitDefEqProofs
  unfold Qk
  simp
noncomputable def Zd2 (p:Pt):List Int:=[p.1,p.2]
theorem ZhQ {p q:Pt} (h:Zd2 p=Zd2 q):p=q:=by
  unfold Zd2 at h
  injection h with h1 h2
  injection h2 with h2 _
  exact Prod.ext h1 h2
theorem ZaM:∀ (ps:List Pt),JH (ps.map pD)=some (ps.map Zd2)
  | []=>rfl
  | p::ps=>by
    show (J1 [.int p.1,.int p.2]).bind (fun k=>(JH (ps.map pD)).map (k::·))=_
    rw [ZaM ps]
    rfl
theorem Ziw (ks:List (List Int)):(U7 ks).length < ks.length ↔ ¬ ks.Nodup:=by
  have le:∀ ks:List (List Int),(U7 ks).length<=ks.length:=by
    intro ks
    induction ks with
    | nil=>exact Nat.le_refl _
    | cons k r ih=>
      unfold U7
      split
      · simp; omega
      · simp; omega
  induction ks with
  | nil=>simp [U7]
  | cons k r ih=>
    have l:=le r
    unfold U7
    by_cases c:k∈r
    · rw [if_pos c]
      simp [c]
      omega
    · rw [if_neg c]
      simp [c,ih]
theorem Ve (ps:List Pt):(ps.map Zd2).Nodup ↔ ps.Nodup:=by
  induction ps with
  | nil=>simp
  | cons p ps ih=>
    rw [List.map_cons,List.nodup_cons,List.nodup_cons,ih]
    have:Zd2 p∈ps.map Zd2 ↔ p∈ps:=by
      rw [List.mem_map]
      exact ⟨fun ⟨q,hq,e⟩=>ZhQ e ▸ hq,fun h=>⟨p,h,rfl⟩⟩
    rw [this]
theorem Zd0 {c:D} {ps:List Pt} (h:Qb c=some (ps.map pD)) (hl:ps.length<=70):VR c=some (.int (U7 (ps.map Zd2)).length):=by
  unfold VR
  rw [h,Option.bind_some,ZaM,Option.bind_some,if_pos (by simpa using hl)]
noncomputable def Zid (ps:List Pt) (i j:Int):Bool:=!decide ((j+1) % (ps.length:Int)=i)&&Zbu (cyc ps i) (cyc ps (i+1)) (cyc ps j) (cyc ps (j+1))
noncomputable def Zdp (ps:List Pt) (i:Nat):Bool:=(List.range (ps.length-(i+2))).any fun j=>Zid ps i ((i+2+j:Nat):Int)
noncomputable def badAny (ps:List Pt):Bool:=(List.range ps.length).any fun i=>Zdp ps i
noncomputable def QL (ps:List Pt):Bool:=decide ps.Nodup&&!decide (0∈Qk ps)&&!badAny ps
theorem ZjO {c:D} {ps:List Pt} (h:Qb c=some (ps.map pD)) (hne:ps≠[]) (hps:All Sm ps) {i j:Nat} (hi:i < ps.length) (hj:j < ps.length) (s4 s5:Sl) :
    if Zid ps i j=true then (Yh (Zo (Zh ZbB (Zh Ya (Zh ZU (Ze 3) (Zf (.int 1))) (Ze 1)) (Ze 2))) (Zr (Z5 4 (Zh dIx (Ze 0) (Ze 3)))
  (Zr (Z5 5 (dFn 3 Zv (Zc (Ze 0) (Zc (Ze 3) (Zc (Zf (.int 1)) Zm)))))
  (Yh (Zo (dFn 4 Yy (Zc (Zh dIx (Ze 0) (Ze 2)) (Zc (dFn 3 Zv (Zc (Ze 0) (Zc (Ze 2) (Zc (Zf (.int 1)) Zm)))) (Zc (Ze 4) (Zc (Ze 5) Zm)))))) (ZW (Zf (.bl false))) ZB))) ZB) [.val c,.val (.int ps.length),.val (.int i),.val (.int j),s4,s5]=some (.rt (.bl false))
    else ∃ t4 t5,(Yh (Zo (Zh ZbB (Zh Ya (Zh ZU (Ze 3) (Zf (.int 1))) (Ze 1)) (Ze 2))) (Zr (Z5 4 (Zh dIx (Ze 0) (Ze 3)))
  (Zr (Z5 5 (dFn 3 Zv (Zc (Ze 0) (Zc (Ze 3) (Zc (Zf (.int 1)) Zm)))))
  (Yh (Zo (dFn 4 Yy (Zc (Zh dIx (Ze 0) (Ze 2)) (Zc (dFn 3 Zv (Zc (Ze 0) (Zc (Ze 2) (Zc (Zf (.int 1)) Zm)))) (Zc (Ze 4) (Zc (Ze 5) Zm)))))) (ZW (Zf (.bl false))) ZB))) ZB) [.val c,.val (.int ps.length),.val (.int i),.val (.int j),s4,s5]=some (.nx [.val c,.val (.int ps.length),.val (.int i),.val (.int j),t4,t5]):=by
  have hn:0 < (ps.length:Int):=by omega
  have d:=YS (i:=(j:Int)+1) (j:=(ps.length:Int)) hn
  have x1:=Zgm h (i:=(j:Int)) (by omega) (by omega)
  have x2:=Zgm h (i:=(i:Int)) (by omega) (by omega)
  have n1:=Ut h hne j 1
  have n2:=Ut h hne i 1
  have m:=ZhZ (hps _ (YB hne (i:Int))) (hps _ (YB hne ((i:Int)+1))) (hps _ (YB hne (j:Int))) (hps _ (YB hne ((j:Int)+1)))
  unfold Zid
  by_cases c1:((j:Int)+1) % (ps.length:Int)=i
  · rw [if_neg (by simp [c1])]
    refine ⟨s4,s5,?_⟩
    simp -implicitDefEqProofs [d,c1]
  · cases hm:Zbu (cyc ps i) (cyc ps ((i:Int)+1)) (cyc ps j) (cyc ps ((j:Int)+1)) with
    | true=>
      rw [hm] at m
      rw [if_pos (by simp [c1])]
      simp -implicitDefEqProofs [d,c1,x1,x2,n1,n2,m]
    | false=>
      rw [hm] at m
      rw [if_neg (by simp)]
      refine ⟨.val (pD (cyc ps j)),.val (pD (cyc ps ((j:Int)+1))),?_⟩
      simp -implicitDefEqProofs [d,c1,x1,x2,n1,n2,m]
noncomputable def igB:DS:=(Yh (Zo (Zh ZbB (Zh Ya (Zh ZU (Ze 3) (Zf (.int 1))) (Ze 1)) (Ze 2))) (Zr (Z5 4 (Zh dIx (Ze 0) (Ze 3)))
  (Zr (Z5 5 (dFn 3 Zv (Zc (Ze 0) (Zc (Ze 3) (Zc (Zf (.int 1)) Zm)))))
  (Yh (Zo (dFn 4 Yy (Zc (Zh dIx (Ze 0) (Ze 2)) (Zc (dFn 3 Zv (Zc (Ze 0) (Zc (Ze 2) (Zc (Zf (.int 1)) Zm)))) (Zc (Ze 4) (Zc (Ze 5) Zm)))))) (ZW (Zf (.bl false))) ZB))) ZB)
theorem ZhU {c:D} {ps:List Pt} (h:Qb c=some (ps.map pD)) (hne:ps≠[]) (hps:All Sm ps) (hl:ps.length<=1000) {i:Nat} (hi:i < ps.length) (s3 s4 s5:Sl) :
    if Zdp ps i=true then (Ws (Zgp (Zh ZU (Ze 2) (Zf (.int 2))) (Ze 1)) (ZV 3) igB) [.val c,.val (.int ps.length),.val (.int i),s3,s4,s5]=some (.rt (.bl false))
    else ∃ t3 t4 t5,(Ws (Zgp (Zh ZU (Ze 2) (Zf (.int 2))) (Ze 1)) (ZV 3) igB) [.val c,.val (.int ps.length),.val (.int i),s3,s4,s5]=some (.nx [.val c,.val (.int ps.length),.val (.int i),t3,t4,t5]):=by
  have e0:Zgp (Zh ZU (Ze 2) (Zf (.int 2))) (Ze 1) [.val c,.val (.int ps.length),.val (.int i),s3,s4,s5]=some (Qs ((i:Int)+2) (ps.length-(i+2))):=by
    have r1:=YQ (n:=(i:Int)+2) (by omega) (by omega)
    have r2:=YQ (n:=(ps.length:Int)) (by omega) (by omega)
    have e:((ps.length:Int)-((i:Int)+2)).toNat=ps.length-(i+2):=by omega
    simp -implicitDefEqProofs [r1,r2,e]
  rw [UJ,e0,Option.bind_some]
  have hx:∀ x∈Qs ((i:Int)+2) (ps.length-(i+2)),∃ j:Nat,j < ps.length/\x=.int j/\i+2<=j:=fun x hx=>by
    unfold Qs at hx
    obtain ⟨k,hk,rfl⟩:=List.mem_map.mp hx
    have:=List.mem_range.mp hk
    exact ⟨i+2+k,by omega,rfl,by omega⟩
  have S:=U3 (b:=ZV 3) (g:=igB) (R:=fun ρ=>∃ s3 s4 s5,ρ=[.val c,.val (.int ps.length),.val (.int i),s3,s4,s5]) (bad:=fun x=>match x with | .int j=>Zid ps i j | _=>false) (d:=.bl false) (xs:=Qs ((i:Int)+2) (ps.length-(i+2)))
    (fun x hx' ρ hr=>by
      obtain ⟨s3,s4,s5,rfl⟩:=hr
      obtain ⟨j,hj,rfl,_⟩:=hx x hx'
      refine ⟨_,rfl,?_⟩
      have b:=ZjO h hne hps hi hj s4 s5
      by_cases hb:Zid ps i j=true
      · rw [if_pos hb] at b ⊢
        exact b
      · rw [if_neg hb] at b ⊢
        obtain ⟨t4,t5,b⟩:=b
        exact ⟨_,⟨_,_,_,rfl⟩,b⟩) _ ⟨s3,s4,s5,rfl⟩
  have ea:(Qs ((i:Int)+2) (ps.length-(i+2))).any (fun x=>match x with | .int j=>Zid ps i j | _=>false)=Zdp ps i:=by
    unfold Qs Zdp
    rw [List.any_map]
    rfl
  rw [ea] at S
  by_cases hb:Zdp ps i=true
  · rw [if_pos hb] at S ⊢; exact S
  · rw [if_neg hb] at S ⊢
    obtain ⟨ρ2,⟨t3,t4,t5,rfl⟩,e⟩:=S
    exact ⟨t3,t4,t5,e⟩
theorem ZhT {c:D} {ps:List Pt} (h:Qb c=some (ps.map pD)) (hne:ps≠[]) (hps:All Sm ps) (hl:ps.length<=1000) :
    if badAny ps=true then (Ws (Zbw (Ze 1)) (ZV 2) (Ws (Zgp (Zh ZU (Ze 2) (Zf (.int 2))) (Ze 1)) (ZV 3) igB)) [.val c,.val (.int ps.length),.no,.no,.no,.no]=some (.rt (.bl false))
    else ∃ ρ,(Ws (Zbw (Ze 1)) (ZV 2) (Ws (Zgp (Zh ZU (Ze 2) (Zf (.int 2))) (Ze 1)) (ZV 3) igB)) [.val c,.val (.int ps.length),.no,.no,.no,.no]=some (.nx ρ):=by
  have e0:Zbw (Ze 1) [.val c,.val (.int ps.length),.no,.no,.no,.no]=some (Qs 0 ps.length):=by
    have r2:=YQ (n:=(ps.length:Int)) (by omega) (by omega)
    simp -implicitDefEqProofs [r2]
  rw [UJ,e0,Option.bind_some]
  have S:=U3 (b:=ZV 2) (g:=(Ws (Zgp (Zh ZU (Ze 2) (Zf (.int 2))) (Ze 1)) (ZV 3) igB)) (R:=fun ρ=>∃ s2 s3 s4 s5,ρ=[.val c,.val (.int ps.length),s2,s3,s4,s5]) (bad:=fun x=>match x with | .int i=>Zdp ps i.toNat | _=>false) (d:=.bl false) (xs:=Qs 0 ps.length)
    (fun x hx' ρ hr=>by
      obtain ⟨s2,s3,s4,s5,rfl⟩:=hr
      unfold Qs at hx'
      obtain ⟨i,hi,rfl⟩:=List.mem_map.mp hx'
      have hi:=List.mem_range.mp hi
      have e:(0:Int)+(i:Int)=i:=by omega
      rw [e]
      refine ⟨_,rfl,?_⟩
      have b:=ZhU h hne hps hl hi s3 s4 s5
      show if Zdp ps ((i:Int).toNat)=true then _ else _
      rw [Int.toNat_natCast]
      by_cases hb:Zdp ps i=true
      · rw [if_pos hb] at b ⊢
        exact b
      · rw [if_neg hb] at b ⊢
        obtain ⟨t3,t4,t5,b⟩:=b
        exact ⟨_,⟨_,_,_,_,rfl⟩,b⟩) _ ⟨.no,.no,.no,.no,rfl⟩
  have ea:(Qs 0 ps.length).any (fun x=>match x with | .int i=>Zdp ps i.toNat | _=>false)=badAny ps:=by
    unfold Qs badAny
    rw [List.any_map]
    have:((fun x=>match x with | .int i=>Zdp ps i.toNat | _=>false) ∘ fun (k:Nat)=>D.int (0+(k:Int)))=fun i=>Zdp ps i:=by
      funext k
      show Zdp ps ((0+(k:Int)).toNat)=Zdp ps k
      rw [Int.zero_add,Int.toNat_natCast]
    rw [this]
  rw [ea] at S
  by_cases hb:badAny ps=true
  · rw [if_pos hb] at S ⊢; exact S
  · rw [if_neg hb] at S ⊢
    obtain ⟨ρ2,_,e⟩:=S
    exact ⟨ρ2,e⟩
theorem Zd7 {c:D} {ps:List Pt} (h:Qb c=some (ps.map pD)) (hne:ps≠[]) (hps:All Sm ps) (hl:ps.length<=70):Yd [c]=some (.bl (QL ps)):=by
  have l:=Zgj h
  rw [List.length_map] at l
  have ls:=Zd0 h hl
  have tn:=Zcp h hne hps (by omega)
  have ii:=Zgt 0 (Qk ps)
  have nl:=Ziw (ps.map Zd2)
  rw [List.length_map,Ve] at nl
  have O:=ZhT h hne hps (by omega)
  unfold Yd Zp UG
  show (Zr _ (Zr _ (Zr _ _)) [.val c,.no,.no,.no,.no,.no]).bind _=_
  have e1:Z5 1 (ZN UI (Zc (Ze 0) Zm)) [.val c,.no,.no,.no,.no,.no]=some (.nx [.val c,.val (.int ps.length),.no,.no,.no,.no]):=by
    simp -implicitDefEqProofs [l]
  rw [Zx,e1]
  show (Zr _ (Zr _ _) [.val c,.val (.int ps.length),.no,.no,.no,.no]).bind _=_
  have e2:(Yh (ZbT (Zo (Zh dLt (YO VR (Ze 0)) (Ze 1))) (Zo (Zh ZiG (Zf (.int 0)) (dFn 1 ZZ (Zc (Ze 0) Zm))))) (ZW (Zf (.bl false))) ZB) [.val c,.val (.int ps.length),.no,.no,.no,.no] =
      if (decide ps.Nodup&&!decide (0∈Qk ps))=true then some (.nx [.val c,.val (.int ps.length),.no,.no,.no,.no]) else some (.rt (.bl false)):=by
    by_cases hnd:ps.Nodup
    · have q:¬ (U7 (ps.map Zd2)).length < ps.length:=fun z=>nl.mp z hnd
      have q':¬ (((U7 (ps.map Zd2)).length:Nat):Int) < (ps.length:Int):=by omega
      by_cases h0:0∈Qk ps
      · simp -implicitDefEqProofs [ls,tn,ii,q',hnd,h0,q]
      · simp -implicitDefEqProofs [ls,tn,ii,q',hnd,h0,q]
    · have q:(U7 (ps.map Zd2)).length < ps.length:=nl.mpr hnd
      have q':(((U7 (ps.map Zd2)).length:Nat):Int) < (ps.length:Int):=by omega
      simp -implicitDefEqProofs [ls,tn,ii,q',hnd,q]
  rw [Zx,e2]
  unfold QL
  by_cases hg:(decide ps.Nodup&&!decide (0∈Qk ps))=true
  · rw [if_pos hg,hg,Bool.true_and]
    show (Zr _ _ [.val c,.val (.int ps.length),.no,.no,.no,.no]).bind _=_
    rw [Zx]
    by_cases hb:badAny ps=true
    · rw [if_pos hb] at O
      have O':(Ws (Zbw (Ze 1)) (ZV 2) (Ws (Zgp (Zh ZU (Ze 2) (Zf (.int 2))) (Ze 1)) (ZV 3) igB)) [.val c,.val (.int ps.length),.no,.no,.no,.no]=some (.rt (.bl false)):=O
      unfold igB at O'
      rw [O',hb]
      rfl
    · rw [if_neg hb] at O
      obtain ⟨ρ,O'⟩:=O
      unfold igB at O'
      have hb':badAny ps=false:=by simpa using hb
      rw [O',hb']
      rfl
  · rw [if_neg hg]
    have hg':(decide ps.Nodup&&!decide (0∈Qk ps))=false:=by simpa using hg
    rw [hg',Bool.false_and]
    rfl
noncomputable def Zi1 (n wide:Int) (k:Nat):Pt:=(Uz n (2*(k:Int)) % wide,Uz n (2*(k:Int)+1) % wide)
noncomputable def Yj (n wide:Int) (many:Nat):List Pt:=(List.range many).map (Zi1 n wide)
theorem Ul (n wide:Int) (many:Nat):(Yj n wide many).length=many:=by simp [Yj]
theorem VA {n wide:Int} {many:Nat} (hw:0 < wide):All (fun p=>(0<=p.1/\p.1 < wide)/\(0<=p.2/\p.2 < wide)) (Yj n wide many):=fun p hp=>by
  obtain ⟨k,_,rfl⟩:=List.mem_map.mp hp
  exact ⟨⟨Int.emod_nonneg _ (by omega),Int.emod_lt_of_pos _ hw⟩,Int.emod_nonneg _ (by omega),Int.emod_lt_of_pos _ hw⟩
theorem Zhn {n wide:Int} (hw:0 < wide) (many:Nat):YN (ZV 0) ZY (Z9 (Zc (Zh Ya (dFn 2 Zz (Zc (Ze 2) (Zc (Zh YW (Zf (.int 2)) (Ze 0)) Zm))) (Ze 1)) (Zc (Zh Ya (dFn 2 Zz (Zc (Ze 2) (Zc (Zh ZU (Zh YW (Zf (.int 2)) (Ze 0)) (Zf (.int 1))) Zm))) (Ze 1)) Zm))) (Qs 0 many) (.no::[.val (.int wide),.val (.int n)]) =
    some ((Qs 0 many).map fun x=>match x with | .int k=>pD (Zi1 n wide k.toNat) | _=>.non):=by
  refine JD fun x hx=>?_
  unfold Qs at hx
  obtain ⟨k,hk,rfl⟩:=List.mem_map.mp hx
  have m:=U1 (i:=2) (j:=(k:Int)) (.inl (by omega))
  have e1:=Vn n (2*(k:Int))
  have e2:=Vn n (2*(k:Int)+1)
  have d:=fun z=>YS (i:=z) (j:=wide) hw
  simp only [Int.zero_add]
  simp -implicitDefEqProofs [m,e1,e2,d,pD,Zi1]
theorem W5 {n wide:Int} (hw:0 < wide) {many:Nat} (hm:many<=1000):ZM [.int n,.int wide,.int many]=some (.lst ((Yj n wide many).map pD)):=by
  have r:=YQ (n:=(many:Int)) (by omega) (by omega)
  have hl:(Qs 0 many).length<=lim:=by rw [Wv]; exact Z6 hm
  have cl:=Zhn (n:=n) hw many
  simp -implicitDefEqProofs [ZM,Zp,V4,r,hl,JE,cl]
  simp [Yj,Qs]
noncomputable def ltZ (p q:Pt):Bool:=decide (p.1 < q.1\/(p.1=q.1/\p.2 < q.2))
theorem Zix (p q:Pt):ltD (pD p) (pD q)=ltZ p q:=by
  show HT.lexLt [p.1,p.2] [q.1,q.2]=_
  unfold ltZ
  rw [HT.lexLt_cons,HT.lexLt_cons,HT.lexLt_nil_nil]
  by_cases h1:p.1=q.1
  · rw [if_pos h1]
    by_cases h2:p.2=q.2
    · rw [if_pos h2]; simp [h1,h2]
    · rw [if_neg h2]; simp [h1]
  · rw [if_neg h1]; simp [h1]
noncomputable def ZbG:Pt->List Pt->Pt
  | b,[]=>b
  | b,x::xs=>ZbG (if ltZ x b then x else b) xs
theorem Zdu:∀ (xs:List Pt) (b:Pt),Zdv ltD (pD b) (xs.map pD)=pD (ZbG b xs)
  | [],b=>rfl
  | x::xs,b=>by
    simp only [List.map_cons,Zdv,ZbG,Zix]
    cases ltZ x b
    · exact Zdu xs b
    · exact Zdu xs x
noncomputable def ZcU:List Pt->Pt
  | []=>(0,0)
  | b::xs=>ZbG b xs
theorem ZcE:∀ (xs:List Pt) (b:Pt),ZbG b xs∈b::xs
  | [],b=>List.mem_singleton.mpr rfl
  | x::xs,b=>by
    unfold ZbG
    have:=ZcE xs (if ltZ x b then x else b)
    rcases List.mem_cons.mp this with h | h
    · rw [h]
      cases ltZ x b
      · simp
      · simp
    · exact List.mem_cons_of_mem _ (List.mem_cons_of_mem _ h)
theorem ZdY {ps:List Pt} (h:ps≠[]):ZcU ps∈ps:=by
  cases ps with
  | nil=>exact absurd rfl h
  | cons b xs=>exact ZcE xs b
theorem ZeU (ps:List Pt):Wc (ps.map pD)=true:=by
  unfold Wc
  rw [Bool.or_eq_true_iff]
  right
  rw [List.all_eq_true]
  intro d hd
  obtain ⟨p,_,rfl⟩:=List.mem_map.mp hd
  rfl
theorem Zgd {ps:List Pt} (h:ps≠[]) {c:D} (hc:Qb c=some (ps.map pD)):Vq [c]=some (pD (ZcU ps)):=by
  cases ps with
  | nil=>exact absurd rfl h
  | cons b xs=>
    show (Qb c).bind _=_
    rw [hc,Option.bind_some]
    show (if Wc (pD b::xs.map pD)=true then some (Zdv ltD (pD b) (xs.map pD)) else none)=_
    rw [if_pos (by have:=ZeU (b::xs); exact this),Zdu]
    rfl
noncomputable def ZcV (m:Pt):List Pt->Nat
  | []=>0
  | x::xs=>if x=m then 0 else ZcV m xs+1
theorem Zcm {m:Pt}:∀ {ps:List Pt},m∈ps->Zcn (pD m) (ps.map pD)=some (ZcV m ps)
  | [],h=>by cases h
  | x::xs,h=>by
    simp only [List.map_cons,Zcn,ZcV,Zct]
    by_cases e:x=m
    · rw [if_pos (by simp [e]),if_pos e]
    · rw [if_neg (by simp [e]),if_neg e]
      have:m∈xs:=(List.mem_cons.mp h).resolve_left fun z=>e z.symm
      rw [Zcm this]; rfl
theorem Zgu {m:Pt}:∀ {ps:List Pt},m∈ps->ZcV m ps < ps.length/\ps[ZcV m ps]?=some m
  | [],h=>by cases h
  | x::xs,h=>by
    unfold ZcV
    by_cases e:x=m
    · rw [if_pos e]; simp [e]
    · rw [if_neg e]
      have:m∈xs:=(List.mem_cons.mp h).resolve_left fun z=>e z.symm
      obtain ⟨h1,h2⟩:=Zgu this
      exact ⟨by simp; exact h1,by rw [List.getElem?_cons_succ]; exact h2⟩
theorem ZjM {ps:List Pt} {m:Pt} (h:m∈ps) (hl:ps.length<=1000):ZeQ (.lst (ps.map pD)) (pD m)=some (.int (ZcV m ps:Nat)):=by
  have h1:okD (.lst (ps.map pD))=true:=(Zf4 fun d hd=>by obtain ⟨n,_,rfl⟩:=List.mem_map.mp hd; exact V0 n).1
  have h2:okD (pD m)=true:=rfl
  have h3:(ps.map pD).length<=lim:=by rw [List.length_map]; exact Z6 hl
  show (if (okD (pD m)&&okD (.lst (ps.map pD))&&decide ((ps.map pD).length<=lim))=true then (Zcn (pD m) (ps.map pD)).map fun (j:Nat)=>D.int (j:Int) else none)=_
  rw [h1,h2,if_pos (by simpa using h3),Zcm h]
  rfl
noncomputable def Zjb (l:List Pt):List Pt:=l.drop (ZcV (ZcU l) l)++l.take (ZcV (ZcU l) l)
noncomputable def V1 (ps:List Pt):List Pt:=Zjb (if ZaA ps < 0 then ps.reverse else ps)
theorem Zh4 {α:Type} (xs:List α) (k:Nat) (h:k<=xs.length):cutD xs (some (k:Int)) none=xs.drop k:=by
  unfold L3.cutD
  rw [HT.sIx_nat,HT.sIx_none,Nat.min_eq_left h,List.take_of_length_le (by simp)]
theorem ZiI {α:Type} (xs:List α) (k:Nat) (h:k<=xs.length):cutD xs none (some (k:Int))=xs.take k:=by
  unfold L3.cutD
  rw [HT.sIx_nat,HT.sIx_none,Nat.min_eq_left h]
  simp
theorem ZaJ {l:List Pt} (hne:l≠[]) (hl:l.length<=1000) (c:D):(Zr (Z5 2 (Zh ZeQ (Ze 1) (ZN Vq (Zc (Ze 1) Zm))))
  (ZW (ZN Qz (Zc (Zh ZU (dSl (Ze 1) (Qc (Ze 2)) Qd) (dSl (Ze 1) Qd (Qc (Ze 2)))) Zm)))) [.val c,.val (.lst (l.map pD)),.no]=some (.rt (.tup ((Zjb l).map pD))):=by
  have m:=Zgd hne (c:=.lst (l.map pD)) rfl
  have i:=ZjM (ZdY hne) hl
  obtain ⟨k1,_⟩:=Zgu (ZdY hne)
  have c1:=Zh4 (l.map pD) (ZcV (ZcU l) l) (by simp; omega)
  have c2:=ZiI (l.map pD) (ZcV (ZcU l) l) (by simp; omega)
  have s1:∀ lo hi,Ze6 lo hi (.lst (l.map pD))=some (.lst (cutD (l.map pD) lo hi)):=fun _ _=>rfl
  have ad:ZU (.lst ((l.map pD).drop (ZcV (ZcU l) l))) (.lst ((l.map pD).take (ZcV (ZcU l) l)))=some (.lst ((Zjb l).map pD)):=by
    show (if _ then _ else _)=_
    rw [if_pos (by simp; exact Z6 (by omega))]
    unfold Zjb
    rw [List.map_append,List.map_drop,List.map_take]
  have e1:Z5 2 (Zh ZeQ (Ze 1) (ZN Vq (Zc (Ze 1) Zm))) [.val c,.val (.lst (l.map pD)),.no]=some (.nx [.val c,.val (.lst (l.map pD)),.val (.int (ZcV (ZcU l) l:Nat))]):=by
    simp -implicitDefEqProofs [m,i]
  rw [Zx,e1]
  show ZW _ [.val c,.val (.lst (l.map pD)),.val (.int (ZcV (ZcU l) l:Nat))]=_
  have e2:(Zh ZU (dSl (Ze 1) (Qc (Ze 2)) Qd) (dSl (Ze 1) Qd (Qc (Ze 2)))) [.val c,.val (.lst (l.map pD)),.val (.int (ZcV (ZcU l) l:Nat))]=some (.lst ((Zjb l).map pD)):=by
    simp only [V9,ZmE,ZlB,ZjB,ZjC,List.getElem?_cons_succ,List.getElem?_cons_zero,Option.bind_some,s1,c1,c2,ad]
  rw [ZgL,ZjX,ZbC,e2]
  rfl
theorem W6 {c:D} {ps:List Pt} (h:Qb c=some (ps.map pD)) (hne:ps≠[]) (hps:All Sm ps) (hl:ps.length<=1000):ZH [c]=some (.tup ((V1 ps).map pD)):=by
  have l1:Ud [c]=some (.lst (ps.map pD)):=by cases c <;> first | (cases h; rfl) | cases h
  have a:=Zd8 (c:=.lst (ps.map pD)) rfl hne hps
  unfold ZH Zp J6 V1
  show (Zr _ (Zr _ (Zr _ _)) [.val c,.no,.no]).bind _=_
  have e1:Z5 1 (ZN Ud (Zc (Ze 0) Zm)) [.val c,.no,.no]=some (.nx [.val c,.val (.lst (ps.map pD)),.no]):=by
    simp -implicitDefEqProofs [l1]
  rw [Zx,e1]
  show (Zr _ (Zr _ _) [.val c,.val (.lst (ps.map pD)),.no]).bind _=_
  rw [Zx]
  by_cases ha:ZaA ps < 0
  · have e2:(Yh (Zo (Zh dLt (dFn 1 Yz (Zc (Ze 1) Zm)) (Zf (.int 0)))) (Z5 1 (Zhi (Ze 1))) ZB) [.val c,.val (.lst (ps.map pD)),.no]=some (.nx [.val c,.val (.lst (ps.reverse.map pD)),.no]):=by
      simp -implicitDefEqProofs [a,ha]
    rw [e2,if_pos ha]
    show (Zr _ _ [.val c,.val (.lst (ps.reverse.map pD)),.no]).bind _=_
    rw [ZaJ (by simpa using hne) (by simpa using hl)]
    rfl
  · have e2:(Yh (Zo (Zh dLt (dFn 1 Yz (Zc (Ze 1) Zm)) (Zf (.int 0)))) (Z5 1 (Zhi (Ze 1))) ZB) [.val c,.val (.lst (ps.map pD)),.no]=some (.nx [.val c,.val (.lst (ps.map pD)),.no]):=by
      simp -implicitDefEqProofs [a,ha]
    rw [e2,if_neg ha]
    show (Zr _ _ [.val c,.val (.lst (ps.map pD)),.no]).bind _=_
    rw [ZaJ hne hl]
    rfl
theorem Zb2 (l:List Pt):(Zjb l).Perm l:=by
  unfold Zjb
  exact List.perm_append_comm.trans (by rw [List.take_append_drop])
theorem YU (ps:List Pt):(V1 ps).Perm ps:=by
  unfold V1
  split
  · exact (Zb2 _).trans (List.reverse_perm ps)
  · exact Zb2 _
noncomputable def Ze5 (ps:List Pt):Int->List Pt->List Pt
  | _,[]=>[]
  | k,a::r=>if ZG (cyc ps (k-1)) a (cyc ps (k+1))=0 then Ze5 ps (k+1) r else a::Ze5 ps (k+1) r
noncomputable def walk:Pt->List Pt->Pt->List Pt
  | _,[],_=>[]
  | p,[a],n=>if ZG p a n=0 then [] else [a]
  | p,a::b::r,n=>if ZG p a b=0 then walk a (b::r) n else a::walk a (b::r) n
noncomputable def WC (ps:List Pt):List Pt:=Ze5 ps 0 ps
theorem ZdF:∀ (xs:List Pt) (p y n:Pt) (ys:List Pt),walk p (xs++y::ys) n=walk p xs y++walk ((p::xs).getLast (by simp)) (y::ys) n
  | [],p,y,n,ys=>rfl
  | [a],p,y,n,ys=>by
    show walk p (a::y::ys) n=_
    simp only [walk,List.getLast_cons_cons,List.getLast_singleton]
    split <;> rfl
  | a::b::xs,p,y,n,ys=>by
    have ih:=ZdF (b::xs) a y n ys
    show walk p (a::b::(xs++y::ys)) n=_
    have e:((p::a::b::xs).getLast (by simp))=((a::b::xs).getLast (by simp)):=List.getLast_cons_cons ..
    rw [e]
    simp only [walk]
    simp only [List.cons_append] at ih
    split
    · rw [ih]
    · rw [ih]; rfl
theorem Zco (ps:List Pt):∀ (ys:List Pt) (k:Nat),ps.drop k=ys->Ze5 ps k ys=walk (cyc ps ((k:Int)-1)) ys (cyc ps 0)
  | [],k,_=>rfl
  | [a],k,h=>by
    have hk:k+1=ps.length:=by
      have:=congrArg List.length h
      simp at this; omega
    have e:cyc ps ((k:Int)+1)=cyc ps 0:=by
      have:=Qg ps 0
      rw [Int.zero_add] at this
      rw [<-this]
      congr 1
      omega
    unfold Ze5 walk
    rw [e]
    rfl
  | a::b::r,k,h=>by
    have hk:k < ps.length:=by
      by_cases z:k < ps.length
      · exact z
      · rw [List.drop_eq_nil_of_le (by omega)] at h; cases h
    rw [List.drop_eq_getElem_cons hk] at h
    injection h with h1 h2
    have hk1:k+1 < ps.length:=by
      by_cases z:k+1 < ps.length
      · exact z
      · rw [List.drop_eq_nil_of_le (by omega)] at h2; cases h2
    have h2':=h2
    rw [List.drop_eq_getElem_cons hk1] at h2'
    injection h2' with h3 _
    have ih:=Zco ps (b::r) (k+1) h2
    have e1:cyc ps ((k:Int)+1)=b:=by
      have:=Y7 hk1
      rw [<-h3,<-this]; rfl
    have e2:cyc ps (((k+1:Nat):Int)-1)=a:=by
      have:=Y7 hk
      rw [<-h1,<-this]; congr 1; omega
    rw [e2] at ih
    have ih':Ze5 ps ((k:Int)+1) (b::r)=walk a (b::r) (cyc ps 0):=ih
    conv=>lhs; unfold Ze5
    rw [e1,ih']
    rfl
theorem Zem {p:Pt} {ps:List Pt}:WC (p::ps)=walk ((p::ps).getLast (by simp)) (p::ps) p:=by
  have h:=Zco (p::ps) (p::ps) 0 rfl
  have e0:cyc (p::ps) 0=p:=Y7 (ps:=p::ps) (k:=0) (by simp)
  have e1:cyc (p::ps) (((0:Nat):Int)-1)=(p::ps).getLast (by simp):=by
    have a:=Qg (p::ps) (((0:Nat):Int)-1)
    rw [<-a]
    have b:=Y7 (ps:=p::ps) (k:=ps.length) (by simp)
    have c:(((0:Nat):Int)-1+(((p::ps).length:Nat):Int))=(ps.length:Int):=by simp; omega
    rw [c,b,List.getLast_eq_getElem]
    simp
  rw [e0,e1] at h
  exact h
theorem Wz (ps:List Pt):∀ (ys:List Pt) (k:Int),(Ze5 ps k ys).Sublist ys
  | [],k=>List.Sublist.refl _
  | a::r,k=>by
    unfold Ze5
    split
    · exact (Wz ps r _).cons _
    · exact (Wz ps r _).cons₂ _
noncomputable def Zkb:DT:=(Zo (Zh ZbB (dFn 3 ZJ (Zc (Zh dIx (Ze 2) (Zh Y0 (Ze 0) (Zf (.int 1)))) (Zc (Ze 1) (Zc (dFn 3 Zv (Zc (Ze 2) (Zc (Ze 0) (Zc (Zf (.int 1)) Zm)))) Zm)))) (Zf (.int 0))))
theorem ZiD {ps:List Pt} (hne:ps≠[]) (hps:All Sm ps):∀ (ys:List Pt) (k:Nat) (s0 s1:Sl),All Sm ys->k+ys.length<=ps.length->YN (YC 0 1) Zkb (Ze 1) (YA k (ys.map pD)) (s0::s1::[.val (.lst (ps.map pD))])=some ((Ze5 ps k ys).map pD)
  | [],k,s0,s1,_,_=>rfl
  | a::ys,k,s0,s1,hs,hl=>by
    simp only [List.length_cons] at hl
    have x:=Zdm (ps:=ps) (i:=(k:Int)-1) (by omega) (by omega)
    have n:=Ut (c:=.lst (ps.map pD)) (ps:=ps) rfl hne k 1
    have t:=Z8 (hps _ (YB hne ((k:Int)-1))) (hs a List.mem_cons_self) (hps _ (YB hne ((k:Int)+1)))
    have ih:=ZiD hne hps ys (k+1) (.val (.int k)) (.val (pD a)) (fun p hp=>hs p (List.mem_cons_of_mem _ hp)) (by omega)
    have e:Zkb [.val (.int k),.val (pD a),.val (.lst (ps.map pD))]=some (!decide (ZG (cyc ps ((k:Int)-1)) a (cyc ps ((k:Int)+1))=0)):=by
      unfold Zkb
      simp -implicitDefEqProofs [x,n,t]
    have ih':YN (YC 0 1) Zkb (Ze 1) (YA (k+1) (ys.map pD)) [.val (.int k),.val (pD a),.val (.lst (ps.map pD))]=some ((Ze5 ps ((k:Int)+1) ys).map pD):=ih
    simp only [List.map_cons,YA,YN,Zaf,List.set_cons_zero,List.set_cons_succ,Option.bind_some]
    rw [e]
    unfold Ze5
    by_cases ht:ZG (cyc ps ((k:Int)-1)) a (cyc ps ((k:Int)+1))=0
    · rw [if_pos ht]
      simp only [ht,decide_true,Bool.not_true,Option.bind_some]
      exact ih'
    · rw [if_neg ht]
      simp only [ht,decide_false,Bool.not_false,Option.bind_some]
      rw [ih']
      rfl
noncomputable def UR:DS:=(Zr (Z5 6 (Ze 5)) (Z5 5 (QP [none,none,some 6] (Qt (Ze 6)) (YC 0 1) Zkb (Ze 1))))
theorem Zhs {ps:List Pt} (hne:ps≠[]) (hps:All Sm ps) (hl:ps.length<=1000) (a b c d e:Sl) (l:Sl):UR [a,b,c,d,e,.val (.lst (ps.map pD)),l]=some (.nx [a,b,c,d,e,.val (.lst ((WC ps).map pD)),.val (.lst (ps.map pD))]):=by
  unfold UR
  have e1:Z5 6 (Ze 5) [a,b,c,d,e,.val (.lst (ps.map pD)),l]=some (.nx [a,b,c,d,e,.val (.lst (ps.map pD)),.val (.lst (ps.map pD))]):=by
    simp -implicitDefEqProofs
  rw [Zx,e1]
  show Z5 5 _ [a,b,c,d,e,.val (.lst (ps.map pD)),.val (.lst (ps.map pD))]=_
  rw [W9,Zaa]
  have e2:Qt (Ze 6) [a,b,c,d,e,.val (.lst (ps.map pD)),.val (.lst (ps.map pD))]=some (YA 0 (ps.map pD)):=Zbx rfl rfl
  rw [e2,Option.bind_some,if_pos (by rw [Vo,List.length_map]; exact Z6 hl)]
  have e3:=ZiD hne hps ps 0 .no .no hps (by omega)
  have e3':YN (YC 0 1) Zkb (Ze 1) (YA 0 (ps.map pD)) (JE [none,none,some 6] [a,b,c,d,e,.val (.lst (ps.map pD)),.val (.lst (ps.map pD))])=some ((WC ps).map pD):=e3
  rw [e3']
  rfl
structure SawI (far:Int) (L U:List Pt):Prop where
  ln:L≠[]
  un:U≠[]
  lx:((0,0)::L++[(far,0)]:List Pt).Pairwise (fun p q=>p.1 < q.1)
  ux:((far,0)::U++[(0,0)]:List Pt).Pairwise (fun p q=>q.1 < p.1)
  ly:∀ p∈L,p.2 < 0
  uy:∀ p∈U,0 < p.2
noncomputable def QA (far:Int) (L U:List Pt):List Pt:=(0,0)::(L++(far,0)::U)
theorem Wu:∀ (xs:List Pt) (p n:Pt),(walk p xs n).Sublist xs
  | [],p,n=>List.Sublist.refl _
  | [a],p,n=>by
    unfold walk
    split
    · exact List.nil_sublist _
    · exact List.Sublist.refl _
  | a::b::r,p,n=>by
    unfold walk
    split
    · exact (Wu (b::r) a n).cons _
    · exact (Wu (b::r) a n).cons₂ _
theorem Za4 (p a n:Pt):ZG p a n=(a.1-p.1)*(n.2-a.2)-(a.2-p.2)*(n.1-a.1):=by
  unfold ZG
  have e1:n.2-p.2=(n.2-a.2)+(a.2-p.2):=by omega
  have e2:n.1-p.1=(n.1-a.1)+(a.1-p.1):=by omega
  rw [e1,e2,Int.mul_add,Int.mul_add,Int.mul_comm (a.1-p.1) (a.2-p.2)]
  omega
theorem Zd9 {p a n:Pt} (h1:p.1 < a.1) (h2:a.1 < n.1) (h3:a.2 < p.2) (h:ZG p a n=0):n.2 < a.2:=by
  rw [Za4] at h
  apply Int.not_le.mp
  intro hle
  have q1:0<=(a.1-p.1)*(n.2-a.2):=Int.mul_nonneg (by omega) (by omega)
  have q2:(a.2-p.2)*(n.1-a.1) < 0:=Int.mul_neg_of_neg_of_pos (by omega) (by omega)
  omega
theorem Zih {p a n:Pt} (h1:a.1 < p.1) (h2:n.1 < a.1) (h3:p.2 < a.2) (h:ZG p a n=0):a.2 < n.2:=by
  rw [Za4] at h
  apply Int.not_le.mp
  intro hle
  have q1:0<=(a.1-p.1)*(n.2-a.2):=Int.mul_nonneg_of_nonpos_of_nonpos (by omega) (by omega)
  have q2:(a.2-p.2)*(n.1-a.1) < 0:=Int.mul_neg_of_pos_of_neg (by omega) (by omega)
  omega
theorem Zea:∀ (r:List Pt) (p a n:Pt),(p::(a::r)++[n]:List Pt).Pairwise (fun p q=>p.1 < q.1)->a.2 < p.2->walk p (a::r) n=[]->n.2 < a.2
  | [],p,a,n,hx,hy,hw=>by
    simp at hx
    have ht:ZG p a n=0:=by
      unfold walk at hw
      by_cases z:ZG p a n=0
      · exact z
      · rw [if_neg z] at hw; cases hw
    exact Zd9 hx.1.1 hx.2 hy ht
  | b::r,p,a,n,hx,hy,hw=>by
    have hx':(a::(b::r)++[n]:List Pt).Pairwise (fun p q=>p.1 < q.1):=(List.pairwise_cons.mp hx).2
    have ab:a.1 < b.1:=(List.pairwise_cons.mp hx').1 b (by simp)
    have pa:p.1 < a.1:=(List.pairwise_cons.mp hx).1 a (by simp)
    unfold walk at hw
    by_cases z:ZG p a b=0
    · rw [if_pos z] at hw
      have hb:=Zd9 pa ab hy z
      have:=Zea r a b n hx' hb hw
      omega
    · rw [if_neg z] at hw; cases hw
theorem Zii:∀ (r:List Pt) (p a n:Pt),(p::(a::r)++[n]:List Pt).Pairwise (fun p q=>q.1 < p.1)->p.2 < a.2->walk p (a::r) n=[]->a.2 < n.2
  | [],p,a,n,hx,hy,hw=>by
    simp at hx
    have ht:ZG p a n=0:=by
      unfold walk at hw
      by_cases z:ZG p a n=0
      · exact z
      · rw [if_neg z] at hw; cases hw
    exact Zih hx.1.1 hx.2 hy ht
  | b::r,p,a,n,hx,hy,hw=>by
    have hx':(a::(b::r)++[n]:List Pt).Pairwise (fun p q=>q.1 < p.1):=(List.pairwise_cons.mp hx).2
    have ab:b.1 < a.1:=(List.pairwise_cons.mp hx').1 b (by simp)
    have pa:a.1 < p.1:=(List.pairwise_cons.mp hx).1 a (by simp)
    unfold walk at hw
    by_cases z:ZG p a b=0
    · rw [if_pos z] at hw
      have hb:=Zih pa ab hy z
      have:=Zii r a b n hx' hb hw
      omega
    · rw [if_neg z] at hw; cases hw
theorem SawI.low {far:Int} {L U:List Pt} (S:SawI far L U):∀ p∈L,0 < p.1/\p.1 < far:=fun p hp=>by
  have h:=S.lx
  refine ⟨(List.pairwise_cons.mp h).1 p (by simp [hp]),?_⟩
  have h2:=(List.pairwise_cons.mp h).2
  exact (List.pairwise_append.mp h2).2.2 p hp (far,0) (by simp)
theorem SawI.upp {far:Int} {L U:List Pt} (S:SawI far L U):∀ p∈U,0 < p.1/\p.1 < far:=fun p hp=>by
  have h:=S.ux
  have h1:=(List.pairwise_cons.mp h).1 p (by simp [hp])
  have h2:=(List.pairwise_cons.mp h).2
  exact ⟨(List.pairwise_append.mp h2).2.2 p hp (0,0) (by simp),h1⟩
theorem SawI.step {far:Int} {L U:List Pt} (S:SawI far L U):WC (QA far L U)=QA far (walk (0,0) L (far,0)) (walk (far,0) U (0,0))/\SawI far (walk (0,0) L (far,0)) (walk (far,0) U (0,0)):=by
  have sL:=Wu L (0,0) (far,0)
  have sU:=Wu U (far,0) (0,0)
  refine ⟨?_,?_,?_,?_,?_,fun p hp=>S.ly p (sL.mem hp),fun p hp=>S.uy p (sU.mem hp)⟩
  · obtain ⟨l1,L',rfl⟩:∃ l1 L',L=l1::L':=by
      cases L with
      | nil=>exact absurd rfl S.ln
      | cons a r=>exact ⟨a,r,rfl⟩
    obtain ⟨u1,U',rfl⟩:∃ u1 U',U=u1::U':=by
      cases U with
      | nil=>exact absurd rfl S.un
      | cons a r=>exact ⟨a,r,rfl⟩
    unfold QA
    rw [Zem]
    have g1:(((0,0):Pt)::((l1::L')++(far,0)::u1::U')).getLast (by simp)=(u1::U').getLast (by simp):=by
      rw [List.getLast_cons (by simp),List.getLast_append_of_ne_nil (by simp) (by simp),List.getLast_cons (by simp)]
    rw [g1]
    have sp:((0,0):Pt)::((l1::L')++(far,0)::u1::U')=((0,0)::l1::L')++(far,0)::u1::U':=rfl
    rw [sp,ZdF]
    have lu:=(u1::U').getLast_mem (by simp)
    have ll:=(l1::L').getLast_mem (by simp)
    generalize hlu:(u1::U').getLast (by simp)=q at lu
    have qx:=S.upp q lu
    have qy:=S.uy q lu
    have l1x:=S.low l1 (by simp)
    have l1y:=S.ly l1 (by simp)
    have t1:ZG q (0,0) l1≠0:=by
      have e:ZG q (0,0) l1=q.2*l1.1-q.1*l1.2:=by
        rw [Za4]; simp
        rw [Int.neg_mul,Int.neg_mul]; omega
      have z1:0 < q.2*l1.1:=Int.mul_pos qy l1x.1
      have z2:q.1*l1.2 < 0:=Int.mul_neg_of_pos_of_neg qx.1 l1y
      omega
    have w1:walk q ((0,0)::l1::L') (far,0)=(0,0)::walk (0,0) (l1::L') (far,0):=by
      conv=>lhs; unfold walk
      rw [if_neg t1]
    rw [w1]
    have g2:(q::(0,0)::l1::L').getLast (by simp)=(l1::L').getLast (by simp):=by
      rw [List.getLast_cons (by simp),List.getLast_cons (by simp)]
    rw [g2]
    generalize hll:(l1::L').getLast (by simp)=m at ll
    have mx:=S.low m ll
    have my:=S.ly m ll
    have u1x:=S.upp u1 (by simp)
    have u1y:=S.uy u1 (by simp)
    have t2:ZG m (far,0) u1≠0:=by
      have e:ZG m (far,0) u1=(far-m.1)*u1.2+m.2*(u1.1-far):=by
        rw [Za4]; simp
        rw [Int.neg_mul]; omega
      have z1:0 < (far-m.1)*u1.2:=Int.mul_pos (by omega) u1y
      have z2:0 < m.2*(u1.1-far):=Int.mul_pos_of_neg_of_neg my (by omega)
      omega
    have w2:walk m ((far,0)::u1::U') (0,0)=(far,0)::walk (far,0) (u1::U') (0,0):=by
      conv=>lhs; unfold walk
      rw [if_neg t2]
    rw [w2]
    rfl
  · intro hw
    obtain ⟨l1,L',rfl⟩:∃ l1 L',L=l1::L':=by
      cases L with
      | nil=>exact absurd rfl S.ln
      | cons a r=>exact ⟨a,r,rfl⟩
    have:=Zea L' (0,0) l1 (far,0) S.lx (S.ly l1 (by simp)) hw
    have:=S.ly l1 (by simp)
    simp at *
    omega
  · intro hw
    obtain ⟨u1,U',rfl⟩:∃ u1 U',U=u1::U':=by
      cases U with
      | nil=>exact absurd rfl S.un
      | cons a r=>exact ⟨a,r,rfl⟩
    have:=Zii U' (far,0) u1 (0,0) S.ux (S.uy u1 (by simp)) hw
    have:=S.uy u1 (by simp)
    simp at *
    omega
  · exact S.lx.sublist ((sL.append (List.Sublist.refl _)).cons₂ _)
  · exact S.ux.sublist ((sU.append (List.Sublist.refl _)).cons₂ _)
noncomputable def Zi8:DT:=(Zo (Zh ZbB (ZN UI (Zc (Ze 6) Zm)) (ZN UI (Zc (Ze 5) Zm))))
theorem Zkw (a b c d e:Sl) (ps left:List Pt):Zi8 [a,b,c,d,e,.val (.lst (ps.map pD)),.val (.lst (left.map pD))]=some (!decide (left.length=ps.length)):=by
  unfold Zi8
  simp -implicitDefEqProofs
  by_cases h:left.length=ps.length
  · simp [h]
  · have:¬ (left.length:Int)=(ps.length:Int):=by omega
    simp [h,this]
theorem Zbc (far:Int) (L U:List Pt):(QA far L U).length=L.length+U.length+2:=by simp [QA]; omega
theorem ZfD (far:Int) (L U:List Pt):QA far L U≠[]:=by simp [QA]
theorem ZdP {far:Int} (a b c d e:Sl):∀ (m:Nat) (L U left:List Pt),SawI far L U->All Sm (QA far L U)->(QA far L U).length<=1000->(left=[]\/(QA far L U=WC left)) ->
    ((QA far L U).length+1<=m\/(left.length=(QA far L U).length/\1<=m)) ->
    ∃ L' U',SawI far L' U'/\WC (QA far L' U')=QA far L' U'/\(QA far L' U').Sublist (QA far L U)/\∃ l,
      Yq Zi8 UR m [a,b,c,d,e,.val (.lst ((QA far L U).map pD)),.val (.lst (left.map pD))]=some (.nx [a,b,c,d,e,.val (.lst ((QA far L' U').map pD)),l])
  | 0,L,U,left,S,hs,hl,hst,hm=>by omega
  | m+1,L,U,left,S,hs,hl,hst,hm=>by
    have t:=Zkw a b c d e (QA far L U) left
    by_cases heq:left.length=(QA far L U).length
    · refine ⟨L,U,S,?_,List.Sublist.refl _,.val (.lst (left.map pD)),?_⟩
      · rcases hst with rfl | hst
        · rw [Zbc] at heq; simp at heq
        · have sub:(WC left).Sublist left:=Wz left left 0
          rw [<-hst] at sub
          have:=sub.eq_of_length heq.symm
          rw [this]
          rw [this] at hst
          exact hst.symm
      · unfold Yq
        rw [t]
        simp [heq]
    · have hm':(QA far L U).length+1<=m+1:=by
        rcases hm with hm | ⟨hm,_⟩
        · exact hm
        · exact absurd hm heq
      have bd:=Zhs (ZfD far L U) hs hl a b c d e (.val (.lst (left.map pD)))
      obtain ⟨st,S'⟩:=S.step
      have sub:(WC (QA far L U)).Sublist (QA far L U):=Wz _ _ 0
      have un:Yq Zi8 UR (m+1) [a,b,c,d,e,.val (.lst ((QA far L U).map pD)),.val (.lst (left.map pD))]=Yq Zi8 UR m [a,b,c,d,e,.val (.lst ((WC (QA far L U)).map pD)),.val (.lst ((QA far L U).map pD))]:=by
        conv=>lhs; unfold Yq
        rw [t,bd]
        simp [heq]
      rw [un]
      rw [st] at sub ⊢
      have:=ZdP (far:=far) a b c d e m _ _ (QA far L U) S' (fun p hp=>hs p (sub.mem hp)) (Nat.le_trans sub.length_le hl) (.inr st.symm) (by
        have l:=sub.length_le
        have p:1<=(QA far L U).length:=by rw [Zbc]; omega
        omega)
      obtain ⟨L',U',h1,h2,h3,l,h4⟩:=this
      exact ⟨L',U',h1,h2,h3.trans sub,l,h4⟩
noncomputable def Zbv (n wide:Int) (k:Nat):Pt:=(1+(k:Int),-1-Uz n k % wide)
noncomputable def Wq (n wide far:Int) (k:Nat):Pt:=(far-1-(k:Int),1+Uz n (9+(k:Int)) % wide)
theorem Zld {n wide:Int} (hw:0 < wide) (m:Nat):YN (ZV 0) ZY (Z9 (Zc (Zh ZU (Zf (.int 1)) (Ze 0)) (Zc (Zh Y0 (YO JB (Zf (.int 1))) (Zh Ya (dFn 2 Zz (Zc (Ze 2) (Zc (Ze 0) Zm))) (Ze 1))) Zm))) (Qs 0 m) (.no::[.val (.int wide),.val (.int n)]) =
    some ((Qs 0 m).map fun x=>match x with | .int k=>pD (Zbv n wide k.toNat) | _=>.non):=by
  refine JD fun x hx=>?_
  unfold Qs at hx
  obtain ⟨k,hk,rfl⟩:=List.mem_map.mp hx
  have e1:=Vn n (k:Int)
  have d:=fun z=>YS (i:=z) (j:=wide) hw
  simp only [Int.zero_add]
  simp -implicitDefEqProofs [e1,d,pD,Zbv]
theorem ZjQ {n wide far:Int} (hw:0 < wide) (m:Nat):YN (ZV 0) ZY (Z9 (Zc (Zh Y0 (Zh Y0 (Ze 1) (Zf (.int 1))) (Ze 0)) (Zc (Zh ZU (Zf (.int 1)) (Zh Ya (dFn 2 Zz (Zc (Ze 3) (Zc (Zh ZU (Zf (.int 9)) (Ze 0)) Zm))) (Ze 2))) Zm))) (Qs 0 m) (.no::[.val (.int far),.val (.int wide),.val (.int n)]) =
    some ((Qs 0 m).map fun x=>match x with | .int k=>pD (Wq n wide far k.toNat) | _=>.non):=by
  refine JD fun x hx=>?_
  unfold Qs at hx
  obtain ⟨k,hk,rfl⟩:=List.mem_map.mp hx
  have e1:=Vn n (9+(k:Int))
  have d:=fun z=>YS (i:=z) (j:=wide) hw
  simp only [Int.zero_add]
  simp -implicitDefEqProofs [e1,d,pD,Wq]
theorem ZhG (m:Nat) (f:Nat->Pt):(Qs 0 m).map (fun x=>match x with | .int k=>pD (f k.toNat) | _=>.non)=((List.range m).map f).map pD:=by
  unfold Qs
  rw [List.map_map,List.map_map]
  apply List.map_congr_left
  intro k _
  simp only [Function.comp]
  rw [Int.zero_add,Int.toNat_natCast]
theorem ZfC {n wide far:Int} (hw:0 < wide) {lo hi:Nat} (h1:1<=lo) (h2:1<=hi) (hf1:(lo:Int) < far) (hf2:(hi:Int) < far):SawI far ((List.range lo).map (Zbv n wide)) ((List.range hi).map (Wq n wide far)):=by
  have mp:∀ z,0<=z % wide:=fun z=>Int.emod_nonneg z (by omega)
  refine ⟨?_,?_,?_,?_,fun p hp=>?_,fun p hp=>?_⟩
  · intro z; have:=congrArg List.length z; simp at this; omega
  · intro z; have:=congrArg List.length z; simp at this; omega
  · rw [List.cons_append,List.pairwise_cons]
    refine ⟨fun q hq=>?_,?_⟩
    · rcases List.mem_append.mp hq with hq | hq
      · obtain ⟨k,_,rfl⟩:=List.mem_map.mp hq
        show (0:Int) < 1+k; omega
      · rw [List.mem_singleton] at hq; subst hq
        show (0:Int) < far; omega
    · rw [List.pairwise_append]
      refine ⟨?_,List.pairwise_singleton _ _,fun p hp q hq=>?_⟩
      · rw [List.pairwise_map]
        exact List.pairwise_lt_range.imp fun {i j} h=>by show 1+(i:Int) < 1+(j:Int); omega
      · obtain ⟨k,hk,rfl⟩:=List.mem_map.mp hp
        have hk:=List.mem_range.mp hk
        rw [List.mem_singleton] at hq; subst hq
        show 1+(k:Int) < far; omega
  · rw [List.cons_append,List.pairwise_cons]
    refine ⟨fun q hq=>?_,?_⟩
    · rcases List.mem_append.mp hq with hq | hq
      · obtain ⟨k,_,rfl⟩:=List.mem_map.mp hq
        show far-1-(k:Int) < far; omega
      · rw [List.mem_singleton] at hq; subst hq
        show (0:Int) < far; omega
    · rw [List.pairwise_append]
      refine ⟨?_,List.pairwise_singleton _ _,fun p hp q hq=>?_⟩
      · rw [List.pairwise_map]
        exact List.pairwise_lt_range.imp fun {i j} h=>by show far-1-(j:Int) < far-1-(i:Int); omega
      · obtain ⟨k,hk,rfl⟩:=List.mem_map.mp hp
        have hk:=List.mem_range.mp hk
        rw [List.mem_singleton] at hq; subst hq
        show (0:Int) < far-1-(k:Int); omega
  · obtain ⟨k,_,rfl⟩:=List.mem_map.mp hp
    have:=mp (Uz n k)
    show -1-Uz n k % wide < 0; omega
  · obtain ⟨k,_,rfl⟩:=List.mem_map.mp hp
    have:=mp (Uz n (9+(k:Int)))
    show 0 < 1+Uz n (9+(k:Int)) % wide; omega
noncomputable def Rg (m:Int) (p:Pt):Prop:=(-m<=p.1/\p.1<=m)/\(-m<=p.2/\p.2<=m)
theorem VV {xs ys:List D} (h:xs.length+ys.length<=1000):ZU (.lst xs) (.lst ys)=some (.lst (xs++ys)):=by
  show (if _ then _ else _)=_
  rw [if_pos (Z6 h)]
theorem ZjU {n wide:Int} (hw:0 < wide) (hw2:wide<=1000):∃ far L U,SawI far L U/\WC (QA far L U)=QA far L U/\(∀ p∈QA far L U,(0<=p.1/\p.1<=6)/\(-wide<=p.2/\p.2<=wide))/\(QA far L U).length<=12 /\
    QD [.int n,.int wide]=some (.lst ((QA far L U).map pD)):=by
  have q1:=Int.emod_nonneg n (show (5:Int)≠0 by omega)
  have q2:=Int.emod_lt_of_pos n (show (0:Int) < 5 by omega)
  have q3:=Int.emod_nonneg (n / 5) (show (5:Int)≠0 by omega)
  have q4:=Int.emod_lt_of_pos (n / 5) (show (0:Int) < 5 by omega)
  obtain ⟨lo,hlo⟩:∃ lo:Nat,(lo:Int)=1+n % 5:=⟨(1+n % 5).toNat,by omega⟩
  obtain ⟨hi,hhi⟩:∃ hi:Nat,(hi:Int)=1+n / 5 % 5:=⟨(1+n / 5 % 5).toNat,by omega⟩
  have mp:∀ z,0<=z % wide/\z % wide < wide:=fun z=>⟨Int.emod_nonneg z (by omega),Int.emod_lt_of_pos z hw⟩
  generalize hfar:1+max (lo:Int) (hi:Int)=far
  have S0:=ZfC (n:=n) (wide:=wide) (far:=far) hw (lo:=lo) (hi:=hi) (by omega) (by omega) (by omega) (by omega)
  have B0:∀ p∈QA far ((List.range lo).map (Zbv n wide)) ((List.range hi).map (Wq n wide far)),(0<=p.1/\p.1<=6)/\(-wide<=p.2/\p.2<=wide):=by
    intro p hp
    unfold QA at hp
    rcases List.mem_cons.mp hp with rfl | hp
    · exact ⟨⟨by omega,by omega⟩,by simp; omega,by simp; omega⟩
    · rcases List.mem_append.mp hp with hp | hp
      · obtain ⟨k,hk,rfl⟩:=List.mem_map.mp hp
        have hk:=List.mem_range.mp hk
        have:=mp (Uz n k)
        show (0<=1+(k:Int)/\1+(k:Int)<=6)/\(-wide<=-1-Uz n k % wide/\-1-Uz n k % wide<=wide)
        omega
      · rcases List.mem_cons.mp hp with rfl | hp
        · show (0<=far/\far<=6)/\(-wide<=0/\0<=wide)
          omega
        · obtain ⟨k,hk,rfl⟩:=List.mem_map.mp hp
          have hk:=List.mem_range.mp hk
          have:=mp (Uz n (9+(k:Int)))
          show (0<=far-1-(k:Int)/\far-1-(k:Int)<=6)/\(-wide<=1+Uz n (9+(k:Int)) % wide/\1+Uz n (9+(k:Int)) % wide<=wide)
          omega
  have len0:(QA far ((List.range lo).map (Zbv n wide)) ((List.range hi).map (Wq n wide far))).length<=12:=by rw [Zbc]; simp; omega
  have Sm0:All Sm (QA far ((List.range lo).map (Zbv n wide)) ((List.range hi).map (Wq n wide far))):=fun p hp=>by
    have:=B0 p hp
    exact ⟨⟨by omega,by omega⟩,by omega,by omega⟩
  obtain ⟨L',U',h1,h2,h3,l,h4⟩:=ZdP (far:=far) (.val (.int n)) (.val (.int wide)) (.val (.int lo)) (.val (.int hi)) (.val (.int far)) 3000 _ _ [] S0 Sm0 (by omega) (.inl rfl) (.inl (by omega))
  refine ⟨far,L',U',h1,h2,fun p hp=>B0 p (h3.mem hp),Nat.le_trans h3.length_le len0,?_⟩
  have d5:=YS (i:=n) (j:=5) (by omega)
  have v5:=UA (i:=n) (j:=5) (by omega) (by omega)
  have d5':=YS (i:=n / 5) (j:=5) (by omega)
  have r1:=YQ (n:=(lo:Int)) (by omega) (by omega)
  have r2:=YQ (n:=(hi:Int)) (by omega) (by omega)
  have k1:(Qs 0 lo).length<=lim:=by rw [Wv]; exact Z6 (by omega)
  have k2:(Qs 0 hi).length<=lim:=by rw [Wv]; exact Z6 (by omega)
  have cl:=Zld (n:=n) hw lo
  have ch:=ZjQ (n:=n) (far:=far) hw hi
  rw [ZhG] at cl ch
  unfold QD Zp ZaR
  show (Zr _ (Zr _ (Zr _ (Zr _ (Zr _ (Zr _ (Zr _ _)))))) [.val (.int n),.val (.int wide),.no,.no,.no,.no,.no]).bind _=_
  have e1:Z5 2 (Zh ZU (Zf (.int 1)) (Zh Ya (Ze 0) (Zf (.int 5)))) [.val (.int n),.val (.int wide),.no,.no,.no,.no,.no]=some (.nx [.val (.int n),.val (.int wide),.val (.int lo),.no,.no,.no,.no]):=by
    simp -implicitDefEqProofs [d5,hlo]
  rw [Zx,e1]
  show (Zr _ (Zr _ (Zr _ (Zr _ (Zr _ (Zr _ _))))) [.val (.int n),.val (.int wide),.val (.int lo),.no,.no,.no,.no]).bind _=_
  have e2:Z5 3 (Zh ZU (Zf (.int 1)) (Zh Ya (Zh Qj (Ze 0) (Zf (.int 5))) (Zf (.int 5)))) [.val (.int n),.val (.int wide),.val (.int lo),.no,.no,.no,.no]=some (.nx [.val (.int n),.val (.int wide),.val (.int lo),.val (.int hi),.no,.no,.no]):=by
    simp -implicitDefEqProofs [v5,d5',hhi]
  rw [Zx,e2]
  show (Zr _ (Zr _ (Zr _ (Zr _ (Zr _ _)))) [.val (.int n),.val (.int wide),.val (.int lo),.val (.int hi),.no,.no,.no]).bind _=_
  have e3:Z5 4 (Zh ZU (Zf (.int 1)) (ZN Zcu (Zc (Ze 2) (Zc (Ze 3) Zm)))) [.val (.int n),.val (.int wide),.val (.int lo),.val (.int hi),.no,.no,.no]=some (.nx [.val (.int n),.val (.int wide),.val (.int lo),.val (.int hi),.val (.int far),.no,.no]):=by
    simp -implicitDefEqProofs
    rw [<-hfar]; omega
  rw [Zx,e3]
  show (Zr _ (Zr _ (Zr _ (Zr _ _))) [.val (.int n),.val (.int wide),.val (.int lo),.val (.int hi),.val (.int far),.no,.no]).bind _=_
  have c1:(QP [none,some 1,some 0] (Zbw (Ze 2)) (ZV 0) ZY (Z9 (Zc (Zh ZU (Zf (.int 1)) (Ze 0)) (Zc (Zh Y0 (YO JB (Zf (.int 1))) (Zh Ya (dFn 2 Zz (Zc (Ze 2) (Zc (Ze 0) Zm))) (Ze 1))) Zm)))) [.val (.int n),.val (.int wide),.val (.int lo),.val (.int hi),.val (.int far),.no,.no]=some (.lst (((List.range lo).map (Zbv n wide)).map pD)):=by
    have i:Zbw (Ze 2) [.val (.int n),.val (.int wide),.val (.int lo),.val (.int hi),.val (.int far),.no,.no]=some (Qs 0 lo):=by simp -implicitDefEqProofs [r1]
    rw [Zaa,i,Option.bind_some,if_pos k1]
    have cl':YN (ZV 0) ZY (Z9 (Zc (Zh ZU (Zf (.int 1)) (Ze 0)) (Zc (Zh Y0 (YO JB (Zf (.int 1))) (Zh Ya (dFn 2 Zz (Zc (Ze 2) (Zc (Ze 0) Zm))) (Ze 1))) Zm))) (Qs 0 lo) (JE [none,some 1,some 0] [.val (.int n),.val (.int wide),.val (.int lo),.val (.int hi),.val (.int far),.no,.no])=_:=cl
    rw [cl']; rfl
  have a1:=VV (xs:=[pD (0,0)]) (ys:=((List.range lo).map (Zbv n wide)).map pD) (by simp; omega)
  have a2:=VV (xs:=[pD (0,0)]++((List.range lo).map (Zbv n wide)).map pD) (ys:=[pD (far,0)]) (by simp; omega)
  have e4:Z5 5 (Zh ZU (Zh ZU (Wa (Zc (Z9 (Zc (Zf (.int 0)) (Zc (Zf (.int 0)) Zm))) Zm)) (QP [none,some 1,some 0] (Zbw (Ze 2)) (ZV 0) ZY (Z9 (Zc (Zh ZU (Zf (.int 1)) (Ze 0)) (Zc (Zh Y0 (YO JB (Zf (.int 1))) (Zh Ya (dFn 2 Zz (Zc (Ze 2) (Zc (Ze 0) Zm))) (Ze 1))) Zm))))) (Wa (Zc (Z9 (Zc (Ze 4) (Zc (Zf (.int 0)) Zm))) Zm))) [.val (.int n),.val (.int wide),.val (.int lo),.val (.int hi),.val (.int far),.no,.no] =
      some (.nx [.val (.int n),.val (.int wide),.val (.int lo),.val (.int hi),.val (.int far),.val (.lst ([pD (0,0)]++((List.range lo).map (Zbv n wide)).map pD++[pD (far,0)])),.no]):=by
    rw [W9,V9,V9,c1]
    have l1:Wa (Zc (Z9 (Zc (Zf (.int 0)) (Zc (Zf (.int 0)) Zm))) Zm) [.val (.int n),.val (.int wide),.val (.int lo),.val (.int hi),.val (.int far),.no,.no]=some (.lst [pD (0,0)]):=by simp -implicitDefEqProofs [pD]
    have l2:Wa (Zc (Z9 (Zc (Ze 4) (Zc (Zf (.int 0)) Zm))) Zm) [.val (.int n),.val (.int wide),.val (.int lo),.val (.int hi),.val (.int far),.no,.no]=some (.lst [pD (far,0)]):=by simp -implicitDefEqProofs [pD]
    rw [l1,l2]
    simp only [Option.bind_some,a1,a2]
    rfl
  rw [Zx,e4]
  show (Zr _ (Zr _ (Zr _ _)) [.val (.int n),.val (.int wide),.val (.int lo),.val (.int hi),.val (.int far),.val (.lst ([pD (0,0)]++((List.range lo).map (Zbv n wide)).map pD++[pD (far,0)])),.no]).bind _=_
  have c2:(QP [none,some 4,some 1,some 0] (Zbw (Ze 3)) (ZV 0) ZY (Z9 (Zc (Zh Y0 (Zh Y0 (Ze 1) (Zf (.int 1))) (Ze 0)) (Zc (Zh ZU (Zf (.int 1)) (Zh Ya (dFn 2 Zz (Zc (Ze 3) (Zc (Zh ZU (Zf (.int 9)) (Ze 0)) Zm))) (Ze 2))) Zm)))) [.val (.int n),.val (.int wide),.val (.int lo),.val (.int hi),.val (.int far),.val (.lst ([pD (0,0)]++((List.range lo).map (Zbv n wide)).map pD++[pD (far,0)])),.no]=some (.lst (((List.range hi).map (Wq n wide far)).map pD)):=by
    have i:∀ Z:List D,Zbw (Ze 3) [.val (.int n),.val (.int wide),.val (.int lo),.val (.int hi),.val (.int far),.val (.lst Z),.no]=some (Qs 0 hi):=fun Z=>by simp -implicitDefEqProofs [r2]
    rw [Zaa,i,Option.bind_some,if_pos k2]
    have ch':YN (ZV 0) ZY (Z9 (Zc (Zh Y0 (Zh Y0 (Ze 1) (Zf (.int 1))) (Ze 0)) (Zc (Zh ZU (Zf (.int 1)) (Zh Ya (dFn 2 Zz (Zc (Ze 3) (Zc (Zh ZU (Zf (.int 9)) (Ze 0)) Zm))) (Ze 2))) Zm))) (Qs 0 hi) (JE [none,some 4,some 1,some 0] [.val (.int n),.val (.int wide),.val (.int lo),.val (.int hi),.val (.int far),.val (.lst ([pD (0,0)]++((List.range lo).map (Zbv n wide)).map pD++[pD (far,0)])),.no])=_:=ch
    rw [ch']; rfl
  have a3:=VV (xs:=[pD (0,0)]++((List.range lo).map (Zbv n wide)).map pD++[pD (far,0)]) (ys:=((List.range hi).map (Wq n wide far)).map pD) (by simp; omega)
  have sw:[pD (0,0)]++((List.range lo).map (Zbv n wide)).map pD++[pD (far,0)]++((List.range hi).map (Wq n wide far)).map pD=(QA far ((List.range lo).map (Zbv n wide)) ((List.range hi).map (Wq n wide far))).map pD:=by
    simp [QA]
  rw [sw] at a3
  have e5:Z5 5 (Zh ZU (Ze 5) (QP [none,some 4,some 1,some 0] (Zbw (Ze 3)) (ZV 0) ZY (Z9 (Zc (Zh Y0 (Zh Y0 (Ze 1) (Zf (.int 1))) (Ze 0)) (Zc (Zh ZU (Zf (.int 1)) (Zh Ya (dFn 2 Zz (Zc (Ze 3) (Zc (Zh ZU (Zf (.int 9)) (Ze 0)) Zm))) (Ze 2))) Zm))))) [.val (.int n),.val (.int wide),.val (.int lo),.val (.int hi),.val (.int far),.val (.lst ([pD (0,0)]++((List.range lo).map (Zbv n wide)).map pD++[pD (far,0)])),.no] =
      some (.nx [.val (.int n),.val (.int wide),.val (.int lo),.val (.int hi),.val (.int far),.val (.lst ((QA far ((List.range lo).map (Zbv n wide)) ((List.range hi).map (Wq n wide far))).map pD)),.no]):=by
    rw [W9,V9,c2]
    show (((some _).bind _:Option D)).map _=_
    simp only [Option.bind_some,a3]
    rfl
  rw [Zx,e5]
  generalize hss:QA far ((List.range lo).map (Zbv n wide)) ((List.range hi).map (Wq n wide far))=ss at h4
  show (Zr _ (Zr _ _) [.val (.int n),.val (.int wide),.val (.int lo),.val (.int hi),.val (.int far),.val (.lst (ss.map pD)),.no]).bind _=_
  have e6:Z5 6 (Wa Zm) [.val (.int n),.val (.int wide),.val (.int lo),.val (.int hi),.val (.int far),.val (.lst (ss.map pD)),.no]=some (.nx [.val (.int n),.val (.int wide),.val (.int lo),.val (.int hi),.val (.int far),.val (.lst (ss.map pD)),.val (.lst [])]):=by
    simp -implicitDefEqProofs
  rw [Zx,e6]
  show (Zr (Yq Zi8 UR 3000) _ [.val (.int n),.val (.int wide),.val (.int lo),.val (.int hi),.val (.int far),.val (.lst (ss.map pD)),.val (.lst [])]).bind _=_
  have h4':Yq Zi8 UR 3000 [.val (.int n),.val (.int wide),.val (.int lo),.val (.int hi),.val (.int far),.val (.lst (ss.map pD)),.val (.lst [])]=_:=h4
  rw [Zx,h4']
  rfl
noncomputable def shf (by_:Int) (p:Pt):Pt:=(p.1-by_,p.2)
theorem Zip (b:Int):∀ (ys:List Pt) (s0 s1:Sl),YN (YC 0 1) ZY (Z9 (Zc (Zh Y0 (Ze 0) (Ze 2)) (Zc (Ze 1) Zm))) (ys.map pD) (s0::s1::[.val (.int b)])=some ((ys.map (shf b)).map pD)
  | [],s0,s1=>rfl
  | a::ys,s0,s1=>by
    have ih:=Zip b ys (.val (.int a.1)) (.val (.int a.2))
    have e:(Z9 (Zc (Zh Y0 (Ze 0) (Ze 2)) (Zc (Ze 1) Zm))) [.val (.int a.1),.val (.int a.2),.val (.int b)]=some (pD (shf b a)):=by
      simp -implicitDefEqProofs [pD,shf]
    have st:YC 0 1 (pD a) (s0::s1::[.val (.int b)])=some [.val (.int a.1),.val (.int a.2),.val (.int b)]:=rfl
    simp only [List.map_cons,YN,st,Option.bind_some,Zhl,e]
    have ih':YN (YC 0 1) ZY (Z9 (Zc (Zh Y0 (Ze 0) (Ze 2)) (Zc (Ze 1) Zm))) (ys.map pD) [.val (.int a.1),.val (.int a.2),.val (.int b)]=_:=ih
    rw [ih']
    rfl
noncomputable def SrcZ (wide:Int) (qs:List Pt):Prop:=
  (QL qs=true/\3<=qs.length/\qs.length<=7/\∀ p∈qs,(0<=p.1/\p.1 < wide)/\(0<=p.2/\p.2 < wide)) \/
  (∃ far L U,qs=QA far L U/\SawI far L U/\WC (QA far L U)=QA far L U/\(∀ p∈qs,(0<=p.1/\p.1<=6)/\(-wide<=p.2/\p.2<=wide))/\qs.length<=12)
theorem SrcZ.ne {wide:Int} {qs:List Pt} (h:SrcZ wide qs):qs≠[]:=by
  rcases h with ⟨_,h,_⟩ | ⟨far,L,U,rfl,_⟩
  · intro z; rw [z] at h; simp at h
  · exact ZfD _ _ _
theorem SrcZ.len {wide:Int} {qs:List Pt} (h:SrcZ wide qs):qs.length<=12:=by
  rcases h with ⟨_,_,h,_⟩ | ⟨far,L,U,_,_,_,_,h⟩
  · omega
  · exact h
theorem SrcZ.rng {wide:Int} (hw:3<=wide) {qs:List Pt} (h:SrcZ wide qs):∀ p∈qs,(0<=p.1/\p.1<=wide+3)/\(-wide<=p.2/\p.2<=wide):=fun p hp=>by
  rcases h with ⟨_,_,_,h⟩ | ⟨far,L,U,_,_,_,h,_⟩
  · have:=h p hp; omega
  · have:=h p hp; omega
theorem ZhY {n wide:Int} (hw:3<=wide) (hw2:wide<=1000):∃ qs b,SrcZ wide qs/\0<=b/\b<=wide/\YV [.int n,.int wide]=some (.tup ((V1 (qs.map (shf b))).map pD)):=by
  have w0:0 < wide:=by omega
  have q1:=Int.emod_nonneg (n / 2) (show (5:Int)≠0 by omega)
  have q2:=Int.emod_lt_of_pos (n / 2) (show (0:Int) < 5 by omega)
  have q3:=Int.emod_nonneg (n / 512) (show (3:Int)≠0 by omega)
  have q4:=Int.emod_lt_of_pos (n / 512) (show (0:Int) < 3 by omega)
  obtain ⟨many,hm⟩:∃ many:Nat,(many:Int)=3+n / 2 % 5:=⟨(3+n / 2 % 5).toNat,by omega⟩
  have sp:=W5 (n:=n / 2) w0 (many:=many) (by omega)
  have rg:=VA (n:=n / 2) (many:=many) w0
  have sl:=Ul (n / 2) wide many
  have smS:All Sm (Yj (n / 2) wide many):=fun p hp=>by have:=rg p hp; exact ⟨⟨by omega,by omega⟩,by omega,by omega⟩
  have neS:Yj (n / 2) wide many≠[]:=by intro z; rw [z] at sl; simp at sl; omega
  have gd:=Zd7 (c:=.lst ((Yj (n / 2) wide many).map pD)) rfl neS smS (by omega)
  obtain ⟨far,L,U,s1,s2,s3,s4,s5⟩:=ZjU (n:=n / 2) w0 hw2
  have v2:=UA (i:=n) (j:=2) (by omega) (by omega)
  have d5:=YS (i:=n / 2) (j:=5) (by omega)
  have d2:=YS (i:=n) (j:=2) (by omega)
  have v512:=UA (i:=n) (j:=512) (by omega) (by omega)
  have d3:=YS (i:=n / 512) (j:=3) (by omega)
  have m1:=U1 (i:=n / 512 % 3) (j:=wide) (.inl (by omega))
  have hb:0<=n / 512 % 3*wide / 4/\n / 512 % 3*wide / 4<=wide:=by
    have a:0<=n / 512 % 3*wide:=Int.mul_nonneg q3 (by omega)
    have b:n / 512 % 3*wide<=2*wide:=Int.mul_le_mul_of_nonneg_right (by omega) (by omega)
    omega
  have v4:=UA (i:=n / 512 % 3*wide) (j:=4) (by omega) (by omega)
  have tail:∀ (qs:List Pt),SrcZ wide qs->(Zr (Z5 3 (Zh Qj (Zh YW (Zh Ya (Zh Qj (Ze 0) (Zf (.int 512))) (Zf (.int 3))) (Ze 1)) (Zf (.int 4))))
  (ZW (dFn 1 ZH (Zc (QP [none,none,some 3] (QU (Ze 2)) (YC 0 1) ZY (Z9 (Zc (Zh Y0 (Ze 0) (Ze 2)) (Zc (Ze 1) Zm)))) Zm)))) [.val (.int n),.val (.int wide),.val (.lst (qs.map pD)),.no]=some (.rt (.tup ((V1 (qs.map (shf (n / 512 % 3*wide / 4)))).map pD))):=by
    intro qs hq
    have e1:Z5 3 (Zh Qj (Zh YW (Zh Ya (Zh Qj (Ze 0) (Zf (.int 512))) (Zf (.int 3))) (Ze 1)) (Zf (.int 4))) [.val (.int n),.val (.int wide),.val (.lst (qs.map pD)),.no]=some (.nx [.val (.int n),.val (.int wide),.val (.lst (qs.map pD)),.val (.int (n / 512 % 3*wide / 4))]):=by
      simp -implicitDefEqProofs [v512,d3,m1,v4]
    rw [Zx,e1]
    generalize n / 512 % 3*wide / 4=b at hb
    show ZW _ [.val (.int n),.val (.int wide),.val (.lst (qs.map pD)),.val (.int b)]=_
    have e2:QU (Ze 2) [.val (.int n),.val (.int wide),.val (.lst (qs.map pD)),.val (.int b)]=some (qs.map pD):=Zgo rfl rfl
    have e3:=Zip b qs .no .no
    have e3':YN (YC 0 1) ZY (Z9 (Zc (Zh Y0 (Ze 0) (Ze 2)) (Zc (Ze 1) Zm))) (qs.map pD) (JE [none,none,some 3] [.val (.int n),.val (.int wide),.val (.lst (qs.map pD)),.val (.int b)])=_:=e3
    have hl:=hq.len
    have e4:(QP [none,none,some 3] (QU (Ze 2)) (YC 0 1) ZY (Z9 (Zc (Zh Y0 (Ze 0) (Ze 2)) (Zc (Ze 1) Zm)))) [.val (.int n),.val (.int wide),.val (.lst (qs.map pD)),.val (.int b)]=some (.lst ((qs.map (shf b)).map pD)):=by
      rw [Zaa,e2,Option.bind_some,if_pos (by rw [List.length_map]; exact Z6 (by omega)),e3']
      rfl
    have ne:qs.map (shf b)≠[]:=by simpa using hq.ne
    have sm:All Sm (qs.map (shf b)):=fun p hp=>by
      obtain ⟨q,hq',rfl⟩:=List.mem_map.mp hp
      have:=hq.rng hw q hq'
      show ((-1000000<=q.1-b/\q.1-b<=1000000))/\(-1000000<=q.2/\q.2<=1000000)
      omega
    have o:=W6 (c:=.lst ((qs.map (shf b)).map pD)) rfl ne sm (by simp; omega)
    rw [ZgL,ZjW,ZbC,e4]
    show (((some [D.lst ((qs.map (shf b)).map pD)]:Option (List D)).bind fun xs=>if xs.length=1 then ZH xs else none)).map _=_
    rw [Option.bind_some,if_pos (show ([D.lst ((qs.map (shf b)).map pD)]:List D).length=1 from rfl),o]
    rfl
  unfold YV Zp W1
  show ∃ qs b,SrcZ wide qs/\0<=b/\b<=wide/\(Zr _ (Zr _ (Zr _ _)) [.val (.int n),.val (.int wide),.no,.no]).bind _=_
  have e1:Z5 2 (dFn 3 ZM (Zc (Zh Qj (Ze 0) (Zf (.int 2))) (Zc (Ze 1) (Zc (Zh ZU (Zf (.int 3)) (Zh Ya (Zh Qj (Ze 0) (Zf (.int 2))) (Zf (.int 5)))) Zm)))) [.val (.int n),.val (.int wide),.no,.no]=some (.nx [.val (.int n),.val (.int wide),.val (.lst ((Yj (n / 2) wide many).map pD)),.no]):=by
    simp -implicitDefEqProofs [v2,d5,<-hm,sp]
  have e2:(Yh (ZbT (Zo (Zh U8 (Zh Ya (Ze 0) (Zf (.int 2))) (Zf (.int 1)))) (Qa (Zo (dFn 1 Yd (Zc (Ze 2) Zm))))) (Z5 2 (dFn 2 QD (Zc (Zh Qj (Ze 0) (Zf (.int 2))) (Zc (Ze 1) Zm)))) ZB) [.val (.int n),.val (.int wide),.val (.lst ((Yj (n / 2) wide many).map pD)),.no] =
      if n % 2=1\/QL (Yj (n / 2) wide many)=false then some (.nx [.val (.int n),.val (.int wide),.val (.lst ((QA far L U).map pD)),.no]) else some (.nx [.val (.int n),.val (.int wide),.val (.lst ((Yj (n / 2) wide many).map pD)),.no]):=by
    by_cases c1:n % 2=1
    · rw [if_pos (.inl c1)]
      simp -implicitDefEqProofs [d2,c1,v2,s5]
    · cases hg:QL (Yj (n / 2) wide many) with
      | true=>
        rw [hg] at gd
        rw [if_neg (by simp [c1])]
        simp -implicitDefEqProofs [d2,c1,gd]
      | false=>
        rw [hg] at gd
        rw [if_pos (.inr rfl)]
        simp -implicitDefEqProofs [d2,c1,gd,v2,s5]
  by_cases hsaw:n % 2=1\/QL (Yj (n / 2) wide many)=false
  · rw [if_pos hsaw] at e2
    have src:SrcZ wide (QA far L U):=.inr ⟨far,L,U,rfl,s1,s2,s3,s4⟩
    refine ⟨QA far L U,n / 512 % 3*wide / 4,src,hb.1,hb.2,?_⟩
    rw [Zx,e1]
    show (Zr _ (Zr _ _) [.val (.int n),.val (.int wide),.val (.lst ((Yj (n / 2) wide many).map pD)),.no]).bind _=_
    rw [Zx,e2]
    show (Zr _ _ [.val (.int n),.val (.int wide),.val (.lst ((QA far L U).map pD)),.no]).bind _=_
    rw [tail _ src]
    rfl
  · rw [if_neg hsaw] at e2
    have hg:QL (Yj (n / 2) wide many)=true:=by
      cases hg:QL (Yj (n / 2) wide many) with
      | true=>rfl
      | false=>exact absurd (.inr hg) hsaw
    have src:SrcZ wide (Yj (n / 2) wide many):=.inl ⟨hg,by omega,by omega,rg⟩
    refine ⟨_,n / 512 % 3*wide / 4,src,hb.1,hb.2,?_⟩
    rw [Zx,e1]
    show (Zr _ (Zr _ _) [.val (.int n),.val (.int wide),.val (.lst ((Yj (n / 2) wide many).map pD)),.no]).bind _=_
    rw [Zx,e2]
    show (Zr _ _ [.val (.int n),.val (.int wide),.val (.lst ((Yj (n / 2) wide many).map pD)),.no]).bind _=_
    rw [tail _ src]
    rfl
noncomputable def ZgO (s:Pt×Pt):Int:=s.1.1*s.2.2-s.1.2*s.2.1
theorem Zag (ps:List Pt):∀ (ys:List Pt) (k:Int),Zdy ps k ys=((WD ps k ys).map ZgO).sum
  | [],k=>rfl
  | a::r,k=>by
    unfold Zdy WD
    rw [List.map_cons,List.sum_cons,Zag ps r]
    rfl
end Pl
namespace Pg
noncomputable def S:Nat->(Nat->Int)->Int
  | 0,_=>0
  | n+1,f=>S n f+f n
theorem S_congr:∀ {n:Nat} {f g:Nat->Int},(∀ j,j < n->f j=g j)->S n f=S n g
  | 0,_,_,_=>rfl
  | n+1,f,g,h=>by
    have e1:=S_congr (n:=n) (f:=f) (g:=g) (fun j hj=>h j (by omega))
    have e2:=h n (by omega)
    simp only [S,e1,e2]
theorem ZlF:∀ {n a b:Nat} {f g:Nat->Int},a < n->b < n->a≠b->(∀ j,j < n->j≠a->j≠b->f j=g j) ->
    S n f-S n g=(f a-g a)+(f b-g b):=by
  have one:∀ {n a:Nat} {f g:Nat->Int},a < n->(∀ j,j < n->j≠a->f j=g j)->S n f-S n g=f a-g a:=by
    intro n
    induction n with
    | zero=>intro a f g h; omega
    | succ n ih=>
      intro a f g ha h
      simp only [S]
      by_cases e:a=n
      · subst e
        have:=S_congr (n:=a) (f:=f) (g:=g) (fun j hj=>h j (by omega) (by omega))
        omega
      · have:=ih (a:=a) (f:=f) (g:=g) (by omega) (fun j hj hn=>h j (by omega) hn)
        have:=h n (by omega) (by omega)
        omega
  intro n
  induction n with
  | zero=>intro a b f g h; omega
  | succ n ih=>
    intro a b f g ha hb hab h
    simp only [S]
    by_cases e:a=n
    · subst e
      have:=one (n:=a) (a:=b) (f:=f) (g:=g) (by omega) (fun j hj hn=>h j (by omega) (by omega) hn)
      omega
    · by_cases e2:b=n
      · subst e2
        have:=one (n:=b) (a:=a) (f:=f) (g:=g) (by omega) (fun j hj hn=>h j (by omega) hn (by omega))
        omega
      · have:=ih (a:=a) (b:=b) (f:=f) (g:=g) (by omega) (by omega) hab (fun j hj h1 h2=>h j (by omega) h1 h2)
        have:=h n (by omega) (by omega) (by omega)
        omega
theorem Zg9:∀ {n a:Nat} {f:Nat->Int},a < n->(∀ j,j < n->j≠a->f j=0)->S n f=f a:=by
  intro n
  induction n with
  | zero=>intro a f h; omega
  | succ n ih=>
    intro a f ha h
    simp only [S]
    by_cases e:a=n
    · subst e
      have z:∀ m,m<=a->S m f=0:=by
        intro m
        induction m with
        | zero=>intro _; rfl
        | succ m ihm=>intro hm; simp only [S]; have:=ihm (by omega); have:=h m (by omega) (by omega); omega
      have:=z a (by omega)
      omega
    · have:=ih (a:=a) (f:=f) (by omega) (fun j hj hn=>h j (by omega) hn)
      have:=h n (by omega) (by omega)
      omega
noncomputable def cr (ax ay bx by_ cx cy:Int):Int:=(bx-ax)*(cy-ay)-(by_-ay)*(cx-ax)
section
variable (n:Nat) (x y:Nat->Int)
noncomputable def nx (i:Nat):Nat:=if i+1=n then 0 else i+1
noncomputable def pv (i:Nat):Nat:=if i=0 then n-1 else i-1
noncomputable def lo (i:Nat):Nat:=if x i < x (nx n i) then i else nx n i
noncomputable def hi (i:Nat):Nat:=if x i < x (nx n i) then nx n i else i
noncomputable def d (i:Nat):Int:=if x i < x (nx n i) then 1 else -1
noncomputable def sd (i k:Nat):Int:=cr (x (lo n x i)) (y (lo n x i)) (x (hi n x i)) (y (hi n x i)) (x k) (y k)
noncomputable def B (j i:Nat):Prop:=
  if x (lo n x j) < x (lo n x i) then 0 < sd n x y j (lo n x i)
  else if x (lo n x i) < x (lo n x j) then sd n x y i (lo n x j) < 0
  else if x (hi n x j) < x (hi n x i) then sd n x y i (hi n x j) < 0
  else 0 < sd n x y j (hi n x i)
noncomputable def crs (j:Nat) (t:Int):Prop:=x (lo n x j)<=t/\t < x (hi n x j)
structure Yb:Prop where
  n3:3<=n
  dx:∀ i j,i < n->j < n->x i=x j->i=j
  off:∀ i k,i < n->k < n->x (lo n x i) < x k->x k < x (hi n x i)->sd n x y i k≠0
  apart:∀ e f,e < n->f < n->e≠f->e≠nx n f->f≠nx n e ->
    ¬ (sd n x y e (lo n x f) < 0/\0 < sd n x y e (hi n x f)/\0 < sd n x y f (lo n x e)/\sd n x y f (hi n x e) < 0) /\
    ¬ (0 < sd n x y e (lo n x f)/\sd n x y e (hi n x f) < 0/\sd n x y f (lo n x e) < 0/\0 < sd n x y f (hi n x e))
end
section
variable {n:Nat} {x y:Nat->Int}
theorem nx_lt {i:Nat} (h:i < n):nx n i < n:=by unfold nx; split <;> omega
theorem Zc7 {i:Nat} (h:i < n):pv n i < n:=by unfold pv; split <;> omega
theorem ZjD {i:Nat} (h:i < n):nx n (pv n i)=i:=by unfold nx pv; grind
theorem Zl9 {i:Nat} (h:i < n):pv n (nx n i)=i:=by unfold nx pv; grind
theorem Zml {i:Nat} (h3:3<=n) (h:i < n):nx n i≠i:=by unfold nx; grind
theorem Ziv {i:Nat} (h3:3<=n) (h:i < n):nx n (nx n i)≠i:=by unfold nx; grind
theorem Zhv {i:Nat} (h3:3<=n) (h:i < n):pv n i≠i:=by unfold pv; grind
theorem Uy {i:Nat} (h:i < n):lo n x i < n:=by unfold lo; split <;> first | exact h | exact nx_lt h
theorem J4 {i:Nat} (h:i < n):hi n x i < n:=by unfold hi; split <;> first | exact h | exact nx_lt h
theorem Zgi (i:Nat):(lo n x i=i/\hi n x i=nx n i/\d n x i=1/\x i < x (nx n i))\/(lo n x i=nx n i/\hi n x i=i/\d n x i=-1/\¬ x i < x (nx n i)):=by
  unfold lo hi d; split <;> simp_all
theorem YT (s:Yb n x y) {i:Nat} (h:i < n):x (lo n x i) < x (hi n x i):=by
  have h1:=nx_lt h
  have h2:=Zml s.n3 h
  have h3:=s.dx i (nx n i) h h1
  rcases Zgi (n:=n) (x:=x) i with ⟨e1,e2,_,_⟩ | ⟨e1,e2,_,_⟩ <;> rw [e1,e2] <;> omega
theorem ZmZ {e f:Nat} (h1:x (lo n x e)≠x (lo n x f)) (h2:x (lo n x e)≠x (hi n x f)) (h3:x (hi n x e)≠x (lo n x f)) (h4:x (hi n x e)≠x (hi n x f)) :
    e≠f/\e≠nx n f/\f≠nx n e:=by
  rcases Zgi (n:=n) (x:=x) e with ⟨a1,a2,_,_⟩ | ⟨a1,a2,_,_⟩ <;> rcases Zgi (n:=n) (x:=x) f with ⟨b1,b2,_,_⟩ | ⟨b1,b2,_,_⟩ <;>
    rw [a1,b1] at h1 <;> rw [a1,b2] at h2 <;> rw [a2,b1] at h3 <;> rw [a2,b2] at h4 <;> grind
theorem ZmT (s:Yb n x y) {e f:Nat} (he:e < n) (hf:f < n) (h1:x (lo n x f) < x (hi n x e)) (h2:x (hi n x e) < x (hi n x f)) :
    B n x y f e ↔ 0 < sd n x y f (hi n x e):=by
  have xe:=YT s he
  have xf:=YT s hf
  have le:=Uy (x:=x) he
  have lf:=Uy (x:=x) hf
  have ge:=J4 (x:=x) he
  have gf:=J4 (x:=x) hf
  have o1:=s.off f (hi n x e) hf ge h1 h2
  unfold B
  by_cases c1:x (lo n x f) < x (lo n x e)
  · rw [if_pos c1]
    have o2:=s.off f (lo n x e) hf le c1 (by omega)
    have nsh:=ZmZ (n:=n) (x:=x) (e:=e) (f:=f) (by omega) (by omega) (by omega) (by omega)
    have ap:=s.apart f e hf he (Ne.symm nsh.1) nsh.2.2 nsh.2.1
    unfold sd at *
    generalize x (lo n x e)=ax at *; generalize y (lo n x e)=ay at *; generalize x (hi n x e)=bx at *; generalize y (hi n x e)=by_ at *
    generalize x (lo n x f)=cx at *; generalize y (lo n x f)=cy at *; generalize x (hi n x f)=dx at *; generalize y (hi n x f)=dy at *
    have i1:(dx-cx)*cr ax ay bx by_ cx cy=(ax-cx)*cr cx cy dx dy bx by_-(bx-cx)*cr cx cy dx dy ax ay:=by unfold cr; grind
    have i2:(dx-cx)*cr ax ay bx by_ dx dy=(dx-bx)*cr cx cy dx dy ax ay-(dx-ax)*cr cx cy dx dy bx by_:=by unfold cr; grind
    generalize cr ax ay bx by_ cx cy=p at *; generalize cr ax ay bx by_ dx dy=q at *; generalize cr cx cy dx dy ax ay=r at *; generalize cr cx cy dx dy bx by_=v at *
    constructor
    · intro hr
      apply Classical.byContradiction
      intro hv
      have hv':v < 0:=by omega
      have z1:(ax-cx)*v < 0:=Int.mul_neg_of_pos_of_neg (by omega) hv'
      have z2:0 < (bx-cx)*r:=Int.mul_pos (by omega) hr
      have z3:0 < (dx-bx)*r:=Int.mul_pos (by omega) hr
      have z4:(dx-ax)*v < 0:=Int.mul_neg_of_pos_of_neg (by omega) hv'
      have p1:p < 0:=by
        apply Classical.byContradiction; intro hp
        have:0<=(dx-cx)*p:=Int.mul_nonneg (by omega) (by omega)
        omega
      have q1:0 < q:=by
        apply Classical.byContradiction; intro hq
        have:(dx-cx)*q<=0:=Int.mul_nonpos_of_nonneg_of_nonpos (by omega) (by omega)
        omega
      exact ap.2 ⟨hr,hv',p1,q1⟩
    · intro hv
      apply Classical.byContradiction
      intro hr
      have hr':r < 0:=by omega
      have z1:0 < (ax-cx)*v:=Int.mul_pos (by omega) hv
      have z2:(bx-cx)*r < 0:=Int.mul_neg_of_pos_of_neg (by omega) hr'
      have z3:(dx-bx)*r < 0:=Int.mul_neg_of_pos_of_neg (by omega) hr'
      have z4:0 < (dx-ax)*v:=Int.mul_pos (by omega) hv
      have p1:0 < p:=by
        apply Classical.byContradiction; intro hp
        have:(dx-cx)*p<=0:=Int.mul_nonpos_of_nonneg_of_nonpos (by omega) (by omega)
        omega
      have q1:q < 0:=by
        apply Classical.byContradiction; intro hq
        have:0<=(dx-cx)*q:=Int.mul_nonneg (by omega) (by omega)
        omega
      exact ap.1 ⟨hr',hv,p1,q1⟩
  · rw [if_neg c1]
    by_cases c2:x (lo n x e) < x (lo n x f)
    · rw [if_pos c2]
      have o2:=s.off e (lo n x f) he lf c2 h1
      have nsh:=ZmZ (n:=n) (x:=x) (e:=e) (f:=f) (by omega) (by omega) (by omega) (by omega)
      have ap:=s.apart e f he hf nsh.1 nsh.2.1 nsh.2.2
      unfold sd at *
      generalize x (lo n x e)=ax at *; generalize y (lo n x e)=ay at *; generalize x (hi n x e)=bx at *; generalize y (hi n x e)=by_ at *
      generalize x (lo n x f)=cx at *; generalize y (lo n x f)=cy at *; generalize x (hi n x f)=dx at *; generalize y (hi n x f)=dy at *
      have i1:(bx-cx)*cr ax ay bx by_ dx dy=(ax-bx)*cr cx cy dx dy bx by_-(dx-bx)*cr ax ay bx by_ cx cy:=by unfold cr; grind
      have i2:(bx-cx)*cr cx cy dx dy ax ay=(ax-cx)*cr cx cy dx dy bx by_-(dx-cx)*cr ax ay bx by_ cx cy:=by unfold cr; grind
      generalize cr ax ay bx by_ cx cy=p at *; generalize cr ax ay bx by_ dx dy=q at *; generalize cr cx cy dx dy ax ay=r at *; generalize cr cx cy dx dy bx by_=v at *
      constructor
      · intro hp
        apply Classical.byContradiction
        intro hv
        have hv':v < 0:=by omega
        have z1:0 < (ax-bx)*v:=Int.mul_pos_of_neg_of_neg (by omega) hv'
        have z2:(dx-bx)*p < 0:=Int.mul_neg_of_pos_of_neg (by omega) hp
        have z3:0 < (ax-cx)*v:=Int.mul_pos_of_neg_of_neg (by omega) hv'
        have z4:(dx-cx)*p < 0:=Int.mul_neg_of_pos_of_neg (by omega) hp
        have q1:0 < q:=by
          apply Classical.byContradiction; intro hq
          have:(bx-cx)*q<=0:=Int.mul_nonpos_of_nonneg_of_nonpos (by omega) (by omega)
          omega
        have r1:0 < r:=by
          apply Classical.byContradiction; intro hq
          have:(bx-cx)*r<=0:=Int.mul_nonpos_of_nonneg_of_nonpos (by omega) (by omega)
          omega
        exact ap.1 ⟨hp,q1,r1,hv'⟩
      · intro hv
        apply Classical.byContradiction
        intro hp
        have hp':0 < p:=by omega
        have z1:(ax-bx)*v < 0:=Int.mul_neg_of_neg_of_pos (by omega) hv
        have z2:0 < (dx-bx)*p:=Int.mul_pos (by omega) hp'
        have z3:(ax-cx)*v < 0:=Int.mul_neg_of_neg_of_pos (by omega) hv
        have z4:0 < (dx-cx)*p:=Int.mul_pos (by omega) hp'
        have q1:q < 0:=by
          apply Classical.byContradiction; intro hq
          have:0<=(bx-cx)*q:=Int.mul_nonneg (by omega) (by omega)
          omega
        have r1:r < 0:=by
          apply Classical.byContradiction; intro hq
          have:0<=(bx-cx)*r:=Int.mul_nonneg (by omega) (by omega)
          omega
        exact ap.2 ⟨hp',q1,r1,hv⟩
    · rw [if_neg c2,if_neg (by omega)]
end
section
variable {n:Nat} {x y:Nat->Int}
theorem Zb1 (s:Yb n x y) {e f:Nat} (he:e < n) (hf:f < n) (h1:x (lo n x e)=x (lo n x f)) (h2:x (hi n x e)=x (hi n x f)):e=f:=by
  have l:=s.dx _ _ (Uy he) (Uy hf) h1
  have g:=s.dx _ _ (J4 he) (J4 hf) h2
  have a:=Ziv s.n3 he
  have b:=Ziv s.n3 hf
  rcases Zgi (n:=n) (x:=x) e with ⟨a1,a2,_,_⟩ | ⟨a1,a2,_,_⟩ <;> rcases Zgi (n:=n) (x:=x) f with ⟨b1,b2,_,_⟩ | ⟨b1,b2,_,_⟩ <;>
    rw [a1,b1] at l <;> rw [a2,b2] at g
  · exact l
  · grind
  · grind
  · exact g
theorem Zan (s:Yb n x y) {e f:Nat} (he:e < n) (hf:f < n) (hne:e≠f) (h1:x (lo n x e) < x (hi n x f)) (h2:x (lo n x f) < x (hi n x e)) :
    B n x y e f ↔ ¬ B n x y f e:=by
  have xe:=YT s he
  have xf:=YT s hf
  unfold B
  by_cases c1:x (lo n x e) < x (lo n x f)
  · rw [if_pos c1,if_neg (by omega),if_pos c1]
    have:=s.off e (lo n x f) he (Uy hf) c1 h2
    omega
  · by_cases c2:x (lo n x f) < x (lo n x e)
    · rw [if_neg c1,if_pos c2,if_pos c2]
      have:=s.off f (lo n x e) hf (Uy he) c2 h1
      omega
    · rw [if_neg c1,if_neg c2,if_neg c2,if_neg c1]
      have h3:x (hi n x e)≠x (hi n x f):=fun z=>hne (Zb1 s he hf (by omega) z)
      by_cases c3:x (hi n x e) < x (hi n x f)
      · rw [if_pos c3,if_neg (by omega)]
        have:=s.off f (hi n x e) hf (J4 he) (by omega) c3
        omega
      · rw [if_neg c3,if_pos (by omega)]
        have:=s.off e (hi n x f) he (J4 hf) (by omega) (by omega)
        omega
theorem Zig (i:Nat):¬ B n x y i i:=by
  unfold B
  simp only [Int.lt_irrefl,if_false]
  unfold sd cr
  grind
theorem ZmU (s:Yb n x y) {e f k:Nat} (he:e < n) (hf:f < n) (hk:lo n x e=k\/hi n x e=k) (h1:x (lo n x f) < x k) (h2:x k < x (hi n x f)) :
    B n x y f e ↔ 0 < sd n x y f k:=by
  rcases hk with rfl | rfl
  · unfold B; rw [if_pos h1]
  · exact ZmT s he hf h1 h2
theorem ZlM (s:Yb n x y) {e f k:Nat} (he:e < n) (hf:f < n) (hk:lo n x e=k\/hi n x e=k) (h1:x (lo n x f) < x k) (h2:x k < x (hi n x f)) :
    B n x y e f ↔ ¬ 0 < sd n x y f k:=by
  rw [<-ZmU s he hf hk h1 h2]
  have xe:=YT s he
  refine Zan s he hf ?_ ?_ ?_
  · rintro rfl; rcases hk with rfl | rfl <;> omega
  · rcases hk with rfl | rfl <;> omega
  · rcases hk with rfl | rfl <;> omega
end
noncomputable instance (n:Nat) (x y:Nat->Int) (j i:Nat):Decidable (B n x y j i):=by unfold B; infer_instance
noncomputable instance (n:Nat) (x:Nat->Int) (j:Nat) (t:Int):Decidable (crs n x j t):=by unfold crs; infer_instance
noncomputable def c (n:Nat) (x y:Nat->Int) (i:Nat) (t:Int):Int:=S n fun j=>if crs n x j t/\B n x y j i then d n x j else 0
noncomputable def W (n:Nat) (x y:Nat->Int) (i:Nat) (t:Int):Int:=c n x y i t+(if d n x i=1 then 1 else 0)
section
variable {n:Nat} {x y:Nat->Int}
theorem JA (j:Nat):(lo n x j=j/\hi n x j=nx n j)\/(lo n x j=nx n j/\hi n x j=j):=by
  rcases Zgi (n:=n) (x:=x) j with ⟨a,b,_⟩ | ⟨a,b,_⟩
  · exact .inl ⟨a,b⟩
  · exact .inr ⟨a,b⟩
theorem ZbD (s:Yb n x y) {j k:Nat} (hj:j < n) (hk:k < n) (h1:j≠k) (h2:j≠pv n k):crs n x j (x k-1) ↔ crs n x j (x k):=by
  have a1:lo n x j≠k/\hi n x j≠k:=by
    have:nx n j≠k:=fun z=>h2 (by rw [<-z,Zl9 hj])
    rcases JA (n:=n) (x:=x) j with ⟨a,b⟩ | ⟨a,b⟩ <;> rw [a,b] <;> exact ⟨by assumption,by assumption⟩
  have b1:x (lo n x j)≠x k:=fun z=>a1.1 (s.dx _ _ (Uy hj) hk z)
  have b2:x (hi n x j)≠x k:=fun z=>a1.2 (s.dx _ _ (J4 hj) hk z)
  unfold crs
  omega
theorem Zh5 (s:Yb n x y) {j k:Nat} (hj:j < n) (hk:k < n) (h1:j≠k) (h2:j≠pv n k) (h:crs n x j (x k)):x (lo n x j) < x k/\x k < x (hi n x j):=by
  have h':=(ZbD s hj hk h1 h2).mpr h
  unfold crs at h h'
  omega
theorem ZlS (s:Yb n x y) {k:Nat} (hk:k < n) :
    (lo n x k=k\/hi n x k=k)/\(lo n x (pv n k)=k\/hi n x (pv n k)=k):=by
  have e:=ZjD (n:=n) hk
  constructor
  · rcases JA (n:=n) (x:=x) k with ⟨a,b⟩ | ⟨a,b⟩ <;> simp [a,b]
  · rcases JA (n:=n) (x:=x) (pv n k) with ⟨a,b⟩ | ⟨a,b⟩ <;> simp [a,b,e]
theorem ZmC (s:Yb n x y) {k:Nat} (hk:k < n) :
    ((d n x k=1/\lo n x k=k/\crs n x k (x k)/\¬ crs n x k (x k-1))\/(d n x k=-1/\hi n x k=k/\¬ crs n x k (x k)/\crs n x k (x k-1))) /\
    ((d n x (pv n k)=1/\hi n x (pv n k)=k/\¬ crs n x (pv n k) (x k)/\crs n x (pv n k) (x k-1))\/(d n x (pv n k)=-1/\lo n x (pv n k)=k/\crs n x (pv n k) (x k)/\¬ crs n x (pv n k) (x k-1))):=by
  have e:=ZjD (n:=n) hk
  have l1:=YT s hk
  have l2:=YT s (Zc7 hk)
  unfold crs
  constructor
  · rcases Zgi (n:=n) (x:=x) k with ⟨a,b,c,_⟩ | ⟨a,b,c,_⟩
    · left; rw [a] at l1 ⊢; exact ⟨c,rfl,by omega,by omega⟩
    · right; rw [b] at l1 ⊢; exact ⟨c,rfl,by omega,by omega⟩
  · rcases Zgi (n:=n) (x:=x) (pv n k) with ⟨a,b,c,_⟩ | ⟨a,b,c,_⟩
    · left; rw [e] at b; rw [b] at l2 ⊢; exact ⟨c,rfl,by omega,by omega⟩
    · right; rw [e] at a; rw [a] at l2 ⊢; exact ⟨c,rfl,by omega,by omega⟩
theorem ZnQ (s:Yb n x y) {i:Nat} {t:Int} (hi':i < n) (h0:crs n x i (t-1)) (h1:crs n x i t):c n x y i (t-1)=c n x y i t:=by
  unfold c
  by_cases hv:∃ k,k < n/\x k=t
  · obtain ⟨k,hk,rfl⟩:=hv
    have sp:x (lo n x i) < x k/\x k < x (hi n x i):=by unfold crs at h0 h1; omega
    have hp:=Zc7 (n:=n) hk
    have b1:=ZlM s hk hi' (ZlS s hk).1 sp.1 sp.2
    have b2:=ZlM s hp hi' (ZlS s hk).2 sp.1 sp.2
    have q:=ZlF (n:=n) (a:=k) (b:=pv n k) (f:=fun j=>if crs n x j (x k-1)/\B n x y j i then d n x j else 0) (g:=fun j=>if crs n x j (x k)/\B n x y j i then d n x j else 0)
      hk hp (Ne.symm (Zhv s.n3 hk)) (fun j hj h1 h2=>by
        have:=ZbD s hj hk h1 h2
        simp only [this])
    have z:=ZmC s hk
    have:(if crs n x k (x k-1)/\B n x y k i then d n x k else 0)-(if crs n x k (x k)/\B n x y k i then d n x k else 0)+((if crs n x (pv n k) (x k-1)/\B n x y (pv n k) i then d n x (pv n k) else 0)-(if crs n x (pv n k) (x k)/\B n x y (pv n k) i then d n x (pv n k) else 0))=0:=by
      simp only [b1,b2]
      by_cases hb:0 < sd n x y i k
      · simp [hb]
      · rcases z.1 with ⟨p1,p2,p3,p4⟩ | ⟨p1,p2,p3,p4⟩ <;> rcases z.2 with ⟨q1,q2,q3,q4⟩ | ⟨q1,q2,q3,q4⟩ <;> simp [hb,p1,p3,p4,q1,q3,q4]
    omega
  · refine S_congr fun j hj=>?_
    have a1:x (lo n x j)≠t:=fun z=>hv ⟨_,Uy hj,z⟩
    have a2:x (hi n x j)≠t:=fun z=>hv ⟨_,J4 hj,z⟩
    have:crs n x j (t-1) ↔ crs n x j t:=by unfold crs; omega
    simp only [this]
theorem ZkX (s:Yb n x y) {j k:Nat} (hk:k < n) (hj:j < n) (h1:j≠k) (h2:j≠pv n k) (h:crs n x j (x k)):B n x y j k ↔ B n x y j (pv n k):=by
  have sp:=Zh5 s hj hk h1 h2 h
  rw [ZmU s hk hj (ZlS s hk).1 sp.1 sp.2,ZmU s (Zc7 hk) hj (ZlS s hk).2 sp.1 sp.2]
noncomputable def tk (x:Nat->Int) (n k i:Nat):Int:=if lo n x i=k then x k else x k-1
theorem ZnP (s:Yb n x y) {k:Nat} (hk:k < n):W n x y (pv n k) (tk x n k (pv n k))=W n x y k (tk x n k k):=by
  have hp:=Zc7 (n:=n) hk
  have z:=ZmC s hk
  have l1:=YT s hk
  have l2:=YT s hp
  have q:=ZlF (n:=n) (a:=k) (b:=pv n k) (f:=fun j=>if crs n x j (tk x n k (pv n k))/\B n x y j (pv n k) then d n x j else 0) (g:=fun j=>if crs n x j (tk x n k k)/\B n x y j k then d n x j else 0)
      hk hp (Ne.symm (Zhv s.n3 hk)) (fun j hj h1 h2=>by
        have e:=ZbD s hj hk h1 h2
        have e2:∀ i,crs n x j (tk x n k i) ↔ crs n x j (x k):=fun i=>by unfold tk; split <;> first | rfl | exact e
        by_cases hc:crs n x j (x k)
        · have:=ZkX s hk hj h1 h2 hc
          simp only [e2,this]
        · simp only [e2,hc,false_and,if_false])
  have irr1:=Zig (n:=n) (x:=x) (y:=y) k
  have irr2:=Zig (n:=n) (x:=x) (y:=y) (pv n k)
  simp only [irr1,irr2,and_false,if_false] at q
  unfold W c
  rcases z.1 with ⟨p1,p2,p3,p4⟩ | ⟨p1,p2,p3,p4⟩ <;> rcases z.2 with ⟨q1,q2,q3,q4⟩ | ⟨q1,q2,q3,q4⟩
  · have t1:tk x n k k=x k:=by unfold tk; rw [if_pos p2]
    have t2:tk x n k (pv n k)=x k-1:=by
      unfold tk; rw [if_neg]; intro z; rw [z,q2] at l2; omega
    simp only [t1,t2,p1,p3,p4,q1,q3,q4] at q ⊢
    simp at q ⊢
    omega
  · have t1:tk x n k k=x k:=by unfold tk; rw [if_pos p2]
    have t2:tk x n k (pv n k)=x k:=by unfold tk; rw [if_pos q2]
    have an:=Zan s hk hp (Ne.symm (Zhv s.n3 hk)) (by rw [p2]; rw [q2] at l2; exact l2) (by rw [q2]; rw [p2] at l1; exact l1)
    simp only [t1,t2,p1,p3,p4,q1,q3,q4,an] at q ⊢
    by_cases hb:B n x y (pv n k) k <;> simp [hb] at q ⊢ <;> omega
  · have t1:tk x n k k=x k-1:=by
      unfold tk; rw [if_neg]; intro z; rw [z,p2] at l1; omega
    have t2:tk x n k (pv n k)=x k-1:=by
      unfold tk; rw [if_neg]; intro z; rw [z,q2] at l2; omega
    have an:=Zan s hk hp (Ne.symm (Zhv s.n3 hk)) (by rw [q2]; rw [p2] at l1; exact l1) (by rw [p2]; rw [q2] at l2; exact l2)
    simp only [t1,t2,p1,p3,p4,q1,q3,q4,an] at q ⊢
    by_cases hb:B n x y (pv n k) k <;> simp [hb] at q ⊢ <;> omega
  · have t1:tk x n k k=x k-1:=by
      unfold tk; rw [if_neg]; intro z; rw [z,p2] at l1; omega
    have t2:tk x n k (pv n k)=x k:=by unfold tk; rw [if_pos q2]
    simp only [t1,t2,p1,p3,p4,q1,q3,q4] at q ⊢
    simp at q ⊢
    omega
theorem ZmN (s:Yb n x y) {i:Nat} (hi':i < n):∀ (m:Nat) (t:Int),t=x (lo n x i)+m->crs n x i t->W n x y i t=W n x y i (x (lo n x i)):=by
  intro m
  induction m with
  | zero=>intro t e _; rw [e]; simp
  | succ m ih=>
    intro t e h
    have h0:crs n x i (t-1):=by unfold crs at h ⊢; omega
    have:=ih (t-1) (by omega) h0
    rw [<-this]
    unfold W
    rw [ZnQ s hi' h0 h]
theorem Zj7 (s:Yb n x y) {i:Nat} (hi':i < n) {t:Int} (h:crs n x i t):W n x y i t=W n x y i (x (lo n x i)):=
  ZmN s hi' (t-x (lo n x i)).toNat t (by unfold crs at h; omega) h
theorem ZlC (s:Yb n x y) {k:Nat} (hk:k < n):crs n x k (tk x n k k)/\crs n x (pv n k) (tk x n k (pv n k)):=by
  have z:=ZmC s hk
  have l1:=YT s hk
  have l2:=YT s (Zc7 hk)
  constructor
  · rcases z.1 with ⟨p1,p2,p3,p4⟩ | ⟨p1,p2,p3,p4⟩
    · unfold tk; rw [if_pos p2]; exact p3
    · unfold tk; rw [if_neg]; exact p4
      intro z; rw [z,p2] at l1; omega
  · rcases z.2 with ⟨p1,p2,p3,p4⟩ | ⟨p1,p2,p3,p4⟩
    · unfold tk; rw [if_neg]; exact p4
      intro z; rw [z,p2] at l2; omega
    · unfold tk; rw [if_pos p2]; exact p3
noncomputable def w (n:Nat) (x y:Nat->Int) (i:Nat):Int:=W n x y i (x (lo n x i))
theorem Zke (s:Yb n x y) {k:Nat} (hk:k < n):w n x y (pv n k)=w n x y k:=by
  have a:=ZlC s hk
  have b:=ZnP s hk
  rw [Zj7 s hk a.1,Zj7 s (Zc7 hk) a.2] at b
  exact b
theorem ZlW (s:Yb n x y):∀ {k:Nat},k < n->w n x y k=w n x y 0:=by
  intro k
  induction k with
  | zero=>intro _; rfl
  | succ k ih=>
    intro h
    have:=Zke s h
    have e:pv n (k+1)=k:=by unfold pv; simp
    rw [e] at this
    rw [<-this,ih (by omega)]
theorem ZmK (s:Yb n x y) {i:Nat} (hi':i < n) {t:Int} (h:crs n x i t):c n x y i t+(if d n x i=1 then 1 else 0)=w n x y 0:=by
  have e:=Zj7 s hi' h
  have e2:=ZlW s hi'
  exact e.trans e2
theorem Zkf (s:Yb n x y) (hm:∀ i,0 < i->i < n->x 0 < x i):w n x y 0=if 0 < cr (x (n-1)) (y (n-1)) (x 0) (y 0) (x 1) (y 1) then 1 else 0:=by
  have n3:=s.n3
  have e1:nx n 0=1:=by unfold nx; rw [if_neg]; omega
  have up:x 0 < x (nx n 0):=by rw [e1]; exact hm 1 (by omega) (by omega)
  have l0:lo n x 0=0:=by unfold lo; rw [if_pos up]
  have h0:hi n x 0=1:=by unfold hi; rw [if_pos up,e1]
  have d0:d n x 0=1:=by unfold d; rw [if_pos up]
  have ep:pv n 0=n-1:=by unfold pv; simp
  have e2:nx n (n-1)=0:=by unfold nx; rw [if_pos]; omega
  have dn:¬ x (n-1) < x (nx n (n-1)):=by rw [e2]; have:=hm (n-1) (by omega) (by omega); omega
  have l1:lo n x (n-1)=0:=by unfold lo; rw [if_neg dn,e2]
  have h1:hi n x (n-1)=n-1:=by unfold hi; rw [if_neg dn]
  have d1:d n x (n-1)=-1:=by unfold d; rw [if_neg dn]
  unfold w W c
  rw [Zg9 (a:=n-1) (by omega) (fun j hj hne=>?_)]
  · rw [l0,d0,d1]
    have cq:crs n x (n-1) (x 0):=by unfold crs; rw [l1,h1]; have:=hm (n-1) (by omega) (by omega); omega
    have bq:B n x y (n-1) 0 ↔ ¬ 0 < cr (x (n-1)) (y (n-1)) (x 0) (y 0) (x 1) (y 1):=by
      rw [Zan s (by omega) (by omega) (by omega) (by rw [l1,h0]; exact hm 1 (by omega) (by omega)) (by rw [l0,h1]; exact hm (n-1) (by omega) (by omega))]
      have same:cr (x (n-1)) (y (n-1)) (x 0) (y 0) (x 1) (y 1)=cr (x 0) (y 0) (x 1) (y 1) (x (n-1)) (y (n-1)):=by unfold cr; grind
      have same2:cr (x (n-1)) (y (n-1)) (x 0) (y 0) (x 1) (y 1)=- cr (x 0) (y 0) (x (n-1)) (y (n-1)) (x 1) (y 1):=by unfold cr; grind
      have u1:sd n x y 0 (n-1)=cr (x 0) (y 0) (x 1) (y 1) (x (n-1)) (y (n-1)):=by unfold sd; rw [l0,h0]
      have u2:sd n x y (n-1) 1=cr (x 0) (y 0) (x (n-1)) (y (n-1)) (x 1) (y 1):=by unfold sd; rw [l1,h1]
      unfold B
      rw [l0,l1,h0,h1,if_neg (by omega),if_neg (by omega),u1,u2]
      split <;> omega
    simp only [cq,bq,true_and]
    split <;> split <;> simp_all
  · rw [if_neg]
    rintro ⟨hc,hb⟩
    by_cases hj0:j=0
    · rw [hj0] at hb; exact Zig 0 hb
    · have a:=JA (n:=n) (x:=x) j
      have b:nx n j≠0:=by unfold nx; split <;> omega
      have c1:x 0 < x (lo n x j):=by
        rcases a with ⟨a,_⟩ | ⟨a,_⟩ <;> rw [a]
        · exact hm j (by omega) hj
        · exact hm _ (by omega) (nx_lt hj)
      unfold crs at hc
      rw [l0] at hc
      omega
end
theorem Zha:∀ (n:Nat) (f g:Nat->Int),S n (fun j=>f j+g j)=S n f+S n g
  | 0,_,_=>rfl
  | n+1,f,g=>by simp only [S,Zha n f g]; omega
theorem ZcG (k:Int):∀ (n:Nat) (f:Nat->Int),S n (fun j=>k*f j)=k*S n f
  | 0,_=>by simp [S]
  | n+1,f=>by simp only [S,ZcG k n f]; grind
theorem Zef:∀ (n:Nat),S n (fun _=>0)=0
  | 0=>rfl
  | n+1=>by simp only [S,Zef n]; rfl
theorem Zg7:∀ (m n:Nat) (f:Nat->Nat->Int),S m (fun i=>S n (fun j=>f i j))=S n (fun j=>S m (fun i=>f i j))
  | 0,n,f=>by simp only [S,Zef]
  | m+1,n,f=>by simp only [S,Zg7 m n f,Zha]
theorem ZbJ:∀ {n:Nat} {f:Nat->Int},(∀ j,j < n->0<=f j)->0<=S n f
  | 0,_,_=>by simp [S]
  | n+1,f,h=>by
    have:=ZbJ (n:=n) (f:=f) (fun j hj=>h j (by omega))
    have:=h n (by omega)
    simp only [S]; omega
theorem ZlG {n:Nat} {f:Nat->Int} (h:∀ j,j < n->0<=f j) {k:Nat} (hk:k < n) (hp:0 < f k):0 < S n f:=by
  induction n with
  | zero=>omega
  | succ n ih=>
    simp only [S]
    by_cases e:k=n
    · subst e
      have:=ZbJ (n:=k) (f:=f) (fun j hj=>h j (by omega))
      omega
    · have:=ih (fun j hj=>h j (by omega)) (by omega)
      have:=h n (by omega)
      omega
theorem ZlH {n:Nat} (hn:0 < n) (g:Nat->Int):S n (fun i=>g i-g (nx n i))=0:=by
  have part:∀ m,m+1<=n->S m (fun i=>g i-g (nx n i))=g 0-g m:=by
    intro m
    induction m with
    | zero=>intro _; simp [S]
    | succ m ih=>
      intro h
      have e:nx n m=m+1:=by unfold nx; rw [if_neg]; omega
      simp only [S,ih (by omega),e]; omega
  obtain ⟨m,rfl⟩:∃ m,n=m+1:=⟨n-1,by omega⟩
  have e:nx (m+1) m=0:=by unfold nx; simp
  simp only [S,part m (by omega),e]; omega
theorem Zdt (n:Nat) (f:Nat->Int):∃ R:Nat,∀ i,i < n->-(R:Int)<=f i/\f i < R:=by
  induction n with
  | zero=>exact ⟨0,fun i h=>by omega⟩
  | succ n ih=>
    obtain ⟨R,h⟩:=ih
    refine ⟨R+(f n).natAbs+1,fun i hi=>?_⟩
    by_cases e:i=n
    · subst e; omega
    · have:=h i (by omega); omega
theorem Zli (h b:Int) (hb:b<=h):∀ N:Nat,S N (fun m=>if h<=b+m then 1 else 0)=if h<=b+N then b+N-h else 0
  | 0=>by simp only [S]; split <;> omega
  | N+1=>by
    simp only [S,Zli h b hb N]
    split <;> split <;> omega
theorem Zgw {n:Nat} (A:Nat->Prop) [DecidablePred A] (h dd:Nat->Int) (w0:Int) (hw:w0=0\/w0=1)
    (hd:∀ i,i < n->dd i=1\/dd i=-1)
    (inj:∀ i j,i < n->j < n->A i->A j->h i=h j->i=j)
    (low:∀ i,i < n->A i->S n (fun j=>if A j/\h j < h i then dd j else 0)+(if dd i=1 then 1 else 0)=w0)
    (tot:S n (fun j=>if A j then dd j else 0)=0) :
    0<=(2*w0-1)*S n (fun j=>if A j then-dd j*h j else 0) /\
    ((∃ i,i < n/\A i/\dd i=2*w0-1)->0 < (2*w0-1)*S n (fun j=>if A j then-dd j*h j else 0)):=by
  obtain ⟨R,hR⟩:=Zdt n h
  have pat:∀ i,i < n->A i->S n (fun j=>if A j/\h j<=h i then dd j else 0)=w0+dd i-(if dd i=1 then 1 else 0):=by
    intro i hi ai
    have e:=low i hi ai
    have q:S n (fun j=>if A j/\h j<=h i then dd j else 0)=S n (fun j=>(if A j/\h j < h i then dd j else 0)+(if j=i then dd i else 0)):=by
      refine S_congr fun j hj=>?_
      by_cases aj:A j
      · by_cases e2:j=i
        · subst e2; simp [aj]
        · have ne:h j≠h i:=fun z=>e2 (inj j i hj hi aj ai z)
          by_cases l:h j < h i
          · have:h j<=h i:=by omega
            simp [aj,l,this,e2]
          · have:¬ h j<=h i:=by omega
            simp [aj,l,this,e2]
      · have e2:j≠i:=fun z=>aj (z ▸ ai)
        simp [aj,e2]
    rw [q,Zha,Zg9 (a:=i) (f:=fun j=>if j=i then dd i else 0) hi (fun j _ hne=>by simp [hne])]
    simp only [if_true]
    omega
  have ps:∀ m:Nat,0<=(2*w0-1)*S n (fun j=>if A j/\h j<=-(R:Int)-1+m then dd j else 0):=by
    intro m
    induction m with
    | zero=>
      have:S n (fun j=>if A j/\h j<=-(R:Int)-1+(0:Nat) then dd j else 0)=0:=by
        refine (S_congr fun j hj=>?_).trans (Zef n)
        have:=hR j hj
        rw [if_neg]; rintro ⟨_,z⟩; omega
      rw [this]; simp
    | succ m ih=>
      by_cases ex:∃ i,i < n/\A i/\h i=-(R:Int)-1+((m+1:Nat):Int)
      · obtain ⟨i,hi,ai,e⟩:=ex
        rw [<-e,pat i hi ai]
        rcases hw with rfl | rfl <;> rcases hd i hi with e1 | e1 <;> simp [e1]
      · have:S n (fun j=>if A j/\h j<=-(R:Int)-1+((m+1:Nat):Int) then dd j else 0)=S n (fun j=>if A j/\h j<=-(R:Int)-1+m then dd j else 0):=by
          refine S_congr fun j hj=>?_
          by_cases aj:A j
          · have ne:h j≠-(R:Int)-1+((m+1:Nat):Int):=fun z=>ex ⟨j,hj,aj,z⟩
            have:h j<=-(R:Int)-1+((m+1:Nat):Int) ↔ h j<=-(R:Int)-1+m:=by omega
            simp only [aj,this]
          · simp [aj]
        rw [this]; exact ih
  have lay:S n (fun j=>if A j then-dd j*h j else 0)=S (2*R+1) (fun m=>S n (fun j=>if A j/\h j<=-(R:Int)-1+m then dd j else 0)):=by
    rw [Zg7]
    have q:S n (fun j=>S (2*R+1) (fun m=>if A j/\h j<=-(R:Int)-1+m then dd j else 0))=S n (fun j=>(if A j then-dd j*h j else 0)+R*(if A j then dd j else 0)):=by
      refine S_congr fun j hj=>?_
      by_cases aj:A j
      · have hr:=hR j hj
        have e:S (2*R+1) (fun m=>if A j/\h j<=-(R:Int)-1+m then dd j else 0)=dd j*S (2*R+1) (fun m=>if h j<=(-(R:Int)-1)+m then 1 else 0):=by
          rw [<-ZcG]
          refine S_congr fun m _=>?_
          simp only [aj,true_and]
          split <;> simp
        rw [e,Zli _ _ (by omega)]
        simp only [aj,if_true]
        rw [if_pos (by omega)]
        have:(-(R:Int)-1)+((2*R+1:Nat):Int)-h j=R-h j:=by omega
        rw [this]
        grind
      · simp only [aj,false_and,if_false,Zef]; simp
    rw [q,Zha,ZcG,tot]; simp
  have lay2:(2*w0-1)*S n (fun j=>if A j then-dd j*h j else 0)=S (2*R+1) (fun m=>(2*w0-1)*S n (fun j=>if A j/\h j<=-(R:Int)-1+m then dd j else 0)):=by
    rw [lay,ZcG]
  rw [lay2]
  refine ⟨ZbJ fun m _=>ps m,?_⟩
  rintro ⟨i,hi,ai,di⟩
  have hr:=hR i hi
  refine ZlG (fun m _=>ps m) (k:=(h i+R+1).toNat) (by omega) ?_
  have e:-(R:Int)-1+((h i+R+1).toNat:Int)=h i:=by omega
  rw [e,pat i hi ai]
  rcases hw with rfl | rfl <;> simp at di <;> simp [di]
section
variable (n:Nat) (x y:Nat->Int)
noncomputable def bw (i:Nat):Int:=x (hi n x i)-x (lo n x i)
noncomputable def Pr:Nat->Int
  | 0=>1
  | m+1=>Pr m*bw n x m
noncomputable def K (i:Nat):Int:=Pr n x n / bw n x i
noncomputable def H (t:Int) (i:Nat):Int:=K n x i*(2*y (lo n x i)*bw n x i+(y (hi n x i)-y (lo n x i))*(2*t+1-2*x (lo n x i)))
noncomputable def A2:Int:=S n fun i=>x i*y (nx n i)-y i*x (nx n i)
end
section
variable {n:Nat} {x y:Nat->Int}
theorem ZgX (s:Yb n x y) {i:Nat} (h:i < n):0 < bw n x i:=by have:=YT s h; unfold bw; omega
theorem ZiP (s:Yb n x y):∀ {m:Nat},m<=n->0 < Pr n x m:=by
  intro m
  induction m with
  | zero=>intro _; unfold Pr; decide
  | succ m ih=>intro h; exact Int.mul_pos (ih (by omega)) (ZgX s (by omega))
theorem ZlI {i:Nat}:∀ {m:Nat},i < m->bw n x i ∣ Pr n x m:=by
  intro m
  induction m with
  | zero=>intro h; omega
  | succ m ih=>
    intro h
    unfold Pr
    by_cases e:i=m
    · subst e; exact Int.dvd_mul_left _ _
    · exact Int.dvd_trans (ih (by omega)) (Int.dvd_mul_right _ _)
theorem Zj8 (s:Yb n x y) {i:Nat} (h:i < n):K n x i*bw n x i=Pr n x n:=Int.ediv_mul_cancel (ZlI h)
noncomputable def Nn (n:Nat) (x y:Nat->Int) (j i:Nat) (s:Int):Int:=
  bw n x j*(y (lo n x i)*bw n x i+(y (hi n x i)-y (lo n x i))*(s-x (lo n x i)))-bw n x i*(y (lo n x j)*bw n x j+(y (hi n x j)-y (lo n x j))*(s-x (lo n x j)))
theorem ZiR (j i:Nat) (a b s:Int):(b-a)*Nn n x y j i s=(b-s)*Nn n x y j i a+(s-a)*Nn n x y j i b:=by unfold Nn; grind
theorem ZiQ (j i:Nat):Nn n x y j i (x (lo n x i))=bw n x i*sd n x y j (lo n x i):=by unfold Nn sd cr bw; grind
theorem ZlJ (j i:Nat):Nn n x y j i (x (lo n x j))=- (bw n x j*sd n x y i (lo n x j)):=by unfold Nn sd cr bw; grind
theorem ZiS (j i:Nat):Nn n x y j i (x (hi n x i))=bw n x i*sd n x y j (hi n x i):=by unfold Nn sd cr bw; grind
theorem ZlK (j i:Nat):Nn n x y j i (x (hi n x j))=- (bw n x j*sd n x y i (hi n x j)):=by unfold Nn sd cr bw; grind
theorem B_H (s:Yb n x y) {j i:Nat} {t:Int} (hj:j < n) (hi':i < n) (hne:j≠i) (cj:crs n x j t) (ci:crs n x i t) (hb:B n x y j i):H n x y t j < H n x y t i:=by
  have wi:=ZgX s hi'
  have wj:=ZgX s hj
  unfold crs at cj ci
  have hb':¬ B n x y i j:=by
    have:=Zan s hi' hj (Ne.symm hne) (by omega) (by omega)
    exact fun z=>(this.mp z) hb
  obtain ⟨a,ha1,ha2,ha3⟩:∃ a:Int,a<=t/\0<=Nn n x y j i a/\(Nn n x y j i a=0->x (lo n x i)=x (lo n x j)):=by
    by_cases c1:x (lo n x j) < x (lo n x i)
    · refine ⟨x (lo n x i),by omega,?_,?_⟩ <;> rw [ZiQ] <;> unfold B at hb <;> rw [if_pos c1] at hb <;> have:=Int.mul_pos wi hb <;> omega
    · by_cases c2:x (lo n x i) < x (lo n x j)
      · have hb2:=hb
        unfold B at hb2
        rw [if_neg c1,if_pos c2] at hb2
        have:=Int.mul_neg_of_pos_of_neg wj hb2
        refine ⟨x (lo n x j),by omega,?_,?_⟩ <;> rw [ZlJ] <;> omega
      · have e:=s.dx _ _ (Uy (x:=x) hi') (Uy (x:=x) hj) (by omega)
        refine ⟨x (lo n x i),by omega,?_,fun _=>by omega⟩
        rw [ZiQ,e]
        have:sd n x y j (lo n x j)=0:=by unfold sd cr; grind
        rw [this]; simp
  obtain ⟨b,hb1,hb2,hb3⟩:∃ b:Int,t+1<=b/\0<=Nn n x y j i b/\(Nn n x y j i b=0->x (hi n x i)=x (hi n x j)):=by
    by_cases c1:x (hi n x j) < x (hi n x i)
    · have q:=ZmT s hj hi' (by omega) c1
      have o:=s.off i (hi n x j) hi' (J4 hj) (by omega) c1
      have:sd n x y i (hi n x j) < 0:=by
        have:¬ 0 < sd n x y i (hi n x j):=fun z=>hb' (q.mpr z)
        omega
      have:=Int.mul_neg_of_pos_of_neg wj this
      refine ⟨x (hi n x j),by omega,?_,?_⟩ <;> rw [ZlK] <;> omega
    · by_cases c2:x (hi n x i) < x (hi n x j)
      · have q:=ZmT s hi' hj (by omega) c2
        have:=Int.mul_pos wi (q.mp hb)
        refine ⟨x (hi n x i),by omega,?_,?_⟩ <;> rw [ZiS] <;> omega
      · have e:=s.dx _ _ (J4 (x:=x) hi') (J4 (x:=x) hj) (by omega)
        refine ⟨x (hi n x i),by omega,?_,fun _=>by omega⟩
        rw [ZiS,e]
        have:sd n x y j (hi n x j)=0:=by unfold sd cr; grind
        rw [this]; simp
  have nz:0 < Nn n x y j i a\/0 < Nn n x y j i b:=by
    by_cases z1:Nn n x y j i a=0
    · by_cases z2:Nn n x y j i b=0
      · exact absurd (Zb1 s hi' hj (ha3 z1) (hb3 z2)) (Ne.symm hne)
      · omega
    · omega
  have l1:=ZiR (n:=n) (x:=x) (y:=y) j i a b t
  have l2:=ZiR (n:=n) (x:=x) (y:=y) j i a b (t+1)
  have pos:0 < (b-a)*(Nn n x y j i t+Nn n x y j i (t+1)):=by
    have e:(b-a)*(Nn n x y j i t+Nn n x y j i (t+1))=(2*b-2*t-1)*Nn n x y j i a+(2*t+1-2*a)*Nn n x y j i b:=by
      rw [Int.mul_add,l1,l2]; grind
    rw [e]
    have z1:0<=(2*b-2*t-1)*Nn n x y j i a:=Int.mul_nonneg (by omega) ha2
    have z2:0<=(2*t+1-2*a)*Nn n x y j i b:=Int.mul_nonneg (by omega) hb2
    rcases nz with z | z
    · have:0 < (2*b-2*t-1)*Nn n x y j i a:=Int.mul_pos (by omega) z
      omega
    · have:0 < (2*t+1-2*a)*Nn n x y j i b:=Int.mul_pos (by omega) z
      omega
  have pos2:0 < Nn n x y j i t+Nn n x y j i (t+1):=by
    apply Classical.byContradiction; intro z
    have:(b-a)*(Nn n x y j i t+Nn n x y j i (t+1))<=0:=Int.mul_nonpos_of_nonneg_of_nonpos (by omega) (by omega)
    omega
  have ki:=Zj8 s hi'
  have kj:=Zj8 s hj
  have pp:=ZiP s (Nat.le_refl n)
  have e:bw n x i*bw n x j*(H n x y t i-H n x y t j)=Pr n x n*(Nn n x y j i t+Nn n x y j i (t+1)):=by
    have e1:bw n x i*bw n x j*H n x y t i=Pr n x n*(bw n x j*(2*y (lo n x i)*bw n x i+(y (hi n x i)-y (lo n x i))*(2*t+1-2*x (lo n x i)))):=by
      unfold H; rw [<-ki]; grind
    have e2:bw n x i*bw n x j*H n x y t j=Pr n x n*(bw n x i*(2*y (lo n x j)*bw n x j+(y (hi n x j)-y (lo n x j))*(2*t+1-2*x (lo n x j)))):=by
      unfold H; rw [<-kj]; grind
    rw [Int.mul_sub,e1,e2]; unfold Nn; grind
  apply Classical.byContradiction; intro z
  have z1:bw n x i*bw n x j*(H n x y t i-H n x y t j)<=0:=Int.mul_nonpos_of_nonneg_of_nonpos (Int.le_of_lt (Int.mul_pos wi wj)) (by omega)
  have z2:=Int.mul_pos pp pos2
  omega
theorem ZmR (s:Yb n x y) {i:Nat} (h:i < n) (b:Int) (hb:b<=x (lo n x i)):∀ T:Nat,
    S T (fun m=>if crs n x i (b+m) then H n x y (b+m) i else 0) =
      if b+T<=x (lo n x i) then 0 else if b+T<=x (hi n x i) then K n x i*(2*y (lo n x i)*bw n x i*(b+T-x (lo n x i))+(y (hi n x i)-y (lo n x i))*((b+T-x (lo n x i))*(b+T-x (lo n x i))))
      else Pr n x n*(bw n x i*(y (lo n x i)+y (hi n x i))):=by
  have lh:=YT s h
  have km:=Zj8 s h
  have full:∀ z:Int,z=x (hi n x i)->K n x i*(2*y (lo n x i)*bw n x i*(z-x (lo n x i))+(y (hi n x i)-y (lo n x i))*((z-x (lo n x i))*(z-x (lo n x i))))=Pr n x n*(bw n x i*(y (lo n x i)+y (hi n x i))):=by
    intro z e
    have:z-x (lo n x i)=bw n x i:=by unfold bw; omega
    rw [this,<-km]; grind
  intro T
  induction T with
  | zero=>simp only [S]; rw [if_pos (by omega)]
  | succ T ih=>
    simp only [S,ih]
    by_cases c1:b+T+1<=x (lo n x i)
    · rw [if_pos (by omega),if_neg (by unfold crs; omega),if_pos (by omega)]; rfl
    · by_cases c2:b+T+1<=x (hi n x i)
      · have cc:crs n x i (b+T):=by unfold crs; omega
        rw [if_pos cc,if_neg (c:=b+((T+1:Nat):Int)<=x (lo n x i)) (by omega),if_pos (c:=b+((T+1:Nat):Int)<=x (hi n x i)) (by omega)]
        have e:((T+1:Nat):Int)=(T:Int)+1:=by omega
        rw [e]
        unfold H
        by_cases c3:b+T<=x (lo n x i)
        · rw [if_pos c3]
          have:b+(T:Int)=x (lo n x i):=by omega
          have e3:b+((T:Int)+1)=x (lo n x i)+1:=by omega
          rw [this,e3]; grind
        · rw [if_neg c3,if_pos (by omega)]
          grind
      · have cc:¬ crs n x i (b+T):=by unfold crs; omega
        rw [if_neg cc,if_neg (c:=b+((T+1:Nat):Int)<=x (lo n x i)) (by omega),if_neg (c:=b+((T+1:Nat):Int)<=x (hi n x i)) (by omega)]
        rw [if_neg (by omega)]
        by_cases c3:b+T<=x (hi n x i)
        · rw [if_pos c3,full (b+T) (by omega)]; simp
        · rw [if_neg c3]; simp
theorem Zj9 (s:Yb n x y):Pr n x n*A2 n x y=S n (fun i=>- d n x i*(Pr n x n*(bw n x i*(y (lo n x i)+y (hi n x i))))):=by
  have e1:A2 n x y=S n (fun i=>- d n x i*(bw n x i*(y (lo n x i)+y (hi n x i)))):=by
    have z:=ZlH (n:=n) (by have:=s.n3; omega) (fun i=>- (x i*y i))
    have:A2 n x y=S n (fun i=>- d n x i*(bw n x i*(y (lo n x i)+y (hi n x i)))+(- (x i*y i) - - (x (nx n i)*y (nx n i)))):=by
      unfold A2
      refine S_congr fun i hi'=>?_
      unfold bw
      rcases Zgi (n:=n) (x:=x) i with ⟨a,b,c,_⟩ | ⟨a,b,c,_⟩ <;> rw [a,b,c] <;> grind
    rw [this,Zha,z]; simp
  rw [e1,<-ZcG]
  refine S_congr fun i _=>?_
  grind
theorem Znj (s:Yb n x y) (t:Int):S n (fun j=>if crs n x j t then d n x j else 0)=0:=by
  have z:=ZlH (n:=n) (by have:=s.n3; omega) (fun i=>if x i<=t then 1 else 0)
  refine (S_congr fun i hi'=>?_).trans z
  have l:=YT s hi'
  have q:crs n x i t ↔ x (lo n x i)<=t/\t < x (hi n x i):=Iff.rfl
  simp only [q]
  rcases Zgi (n:=n) (x:=x) i with ⟨a,b,c,_⟩ | ⟨a,b,c,_⟩ <;> rw [a,b] at l <;> simp only [a,b,c] <;> split <;> split <;> split <;> omega
theorem Zg6 (s:Yb n x y) (hm:∀ i,0 < i->i < n->x 0 < x i) :
    0 < (2*(if 0 < cr (x (n-1)) (y (n-1)) (x 0) (y 0) (x 1) (y 1) then 1 else 0:Int)-1)*A2 n x y:=by
  have n3:=s.n3
  have hw:=Zkf s hm
  generalize hq:(if 0 < cr (x (n-1)) (y (n-1)) (x 0) (y 0) (x 1) (y 1) then 1 else 0:Int)=w0 at *
  have hw0:w0=0\/w0=1:=by rw [<-hq]; split <;> simp
  have gap:∀ t:Int,0<=(2*w0-1)*S n (fun j=>if crs n x j t then-d n x j*H n x y t j else 0) /\
      ((∃ i,i < n/\crs n x i t/\d n x i=2*w0-1)->0 < (2*w0-1)*S n (fun j=>if crs n x j t then-d n x j*H n x y t j else 0)):=by
    intro t
    have ord:∀ i j,i < n->j < n->crs n x i t->crs n x j t->i≠j->(B n x y j i ↔ H n x y t j < H n x y t i):=by
      intro i j hi' hj ci cj hne
      have an:B n x y i j ↔ ¬ B n x y j i:=Zan s hi' hj hne (by unfold crs at ci cj; omega) (by unfold crs at ci cj; omega)
      constructor
      · exact fun hb=>B_H s hj hi' (Ne.symm hne) cj ci hb
      · intro hl
        apply Classical.byContradiction; intro hb
        have:=B_H s hi' hj hne ci cj (an.mpr hb)
        omega
    refine Zgw (fun j=>crs n x j t) (H n x y t) (d n x) w0 hw0 ?_ ?_ ?_ (Znj s t)
    · intro i _
      rcases Zgi (n:=n) (x:=x) i with ⟨_,_,c,_⟩ | ⟨_,_,c,_⟩ <;> simp [c]
    · intro i j hi' hj ci cj e
      apply Classical.byContradiction; intro hne
      have a:=ord i j hi' hj ci cj hne
      have b:=ord j i hj hi' cj ci (Ne.symm hne)
      have an:B n x y i j ↔ ¬ B n x y j i:=Zan s hi' hj hne (by unfold crs at ci cj; omega) (by unfold crs at ci cj; omega)
      rw [a,b] at an
      omega
    · intro i hi' ci
      have:=ZmK s hi' ci
      rw [hw] at this
      rw [<-this]
      unfold c
      congr 1
      refine S_congr fun j hj=>?_
      by_cases cj:crs n x j t
      · by_cases e:j=i
        · subst e; simp [Zig]
        · have:=ord i j hi' hj ci cj (Ne.symm e)
          simp only [cj,this]
      · simp only [cj,false_and]
  obtain ⟨R,hR⟩:=Zdt n (fun i=>x i-x 0)
  have e:Pr n x n*A2 n x y=S (R+1) (fun m=>S n (fun j=>if crs n x j (x 0+m) then-d n x j*H n x y (x 0+m) j else 0)):=by
    rw [Zj9 s,Zg7]
    refine S_congr fun i hi'=>?_
    have lb:∀ k,k < n->x 0<=x k:=fun k hk=>by
      by_cases z:k=0
      · subst z; omega
      · have:=hm k (by omega) hk; omega
    have hs:=ZmR s hi' (x 0) (lb _ (Uy hi')) (R+1)
    have l:=YT s hi'
    have u:=hR _ (J4 (x:=x) hi')
    rw [if_neg (by omega),if_neg (by omega)] at hs
    rw [<-hs,<-ZcG]
    refine S_congr fun m _=>?_
    split <;> simp
  have pp:=ZiP s (Nat.le_refl n)
  have tot:0 < Pr n x n*((2*w0-1)*A2 n x y):=by
    have e2:Pr n x n*((2*w0-1)*A2 n x y)=(2*w0-1)*(Pr n x n*A2 n x y):=by grind
    rw [e2,e,<-ZcG]
    refine ZlG (fun m _=>(gap _).1) (k:=0) (by omega) ((gap _).2 ?_)
    have e1:nx n 0=1:=by unfold nx; rw [if_neg]; omega
    have up:x 0 < x (nx n 0):=by rw [e1]; exact hm 1 (by omega) (by omega)
    have e3:nx n (n-1)=0:=by unfold nx; rw [if_pos]; omega
    have dn:¬ x (n-1) < x (nx n (n-1)):=by rw [e3]; have:=hm (n-1) (by omega) (by omega); omega
    rcases hw0 with rfl | rfl
    · refine ⟨n-1,by omega,?_,by unfold d; rw [if_neg dn]; rfl⟩
      unfold crs lo hi
      rw [if_neg dn,if_neg dn,e3]
      have:=hm (n-1) (by omega) (by omega)
      simp; omega
    · refine ⟨0,by omega,?_,by unfold d; rw [if_pos up]; rfl⟩
      unfold crs lo hi
      rw [if_pos up,if_pos up]
      simp; omega
  apply Classical.byContradiction; intro z
  have:Pr n x n*((2*w0-1)*A2 n x y)<=0:=Int.mul_nonpos_of_nonneg_of_nonpos (by omega) (by omega)
  omega
end
noncomputable abbrev P2:=Int×Int
noncomputable def turn (a b c:P2):Int:=(b.1-a.1)*(c.2-a.2)-(b.2-a.2)*(c.1-a.1)
noncomputable def onS (a b c:P2):Prop:=turn a b c=0/\(min a.1 b.1<=c.1/\c.1<=max a.1 b.1)/\(min a.2 b.2<=c.2/\c.2<=max a.2 b.2)
noncomputable def meet (a b c d:P2):Prop:=onS a b c\/onS a b d\/onS c d a\/onS c d b\/(turn a b c*turn a b d < 0/\turn c d a*turn c d b < 0)
noncomputable def lexlt (a b:P2):Prop:=a.1 < b.1\/(a.1=b.1/\a.2 < b.2)
structure Good (n:Nat) (p:Nat->P2):Prop where
  n3:3<=n
  inj:∀ i j,i < n->j < n->p i=p j->i=j
  turns:∀ i,i < n->turn (p i) (p (nx n i)) (p (nx n (nx n i)))≠0
  apart:∀ i j,i < n->j < n->i≠j->i≠nx n j->j≠nx n i->¬ meet (p i) (p (nx n i)) (p j) (p (nx n j))
noncomputable def area (n:Nat) (p:Nat->P2):Int:=S n fun i=>(p i).1*(p (nx n i)).2-(p i).2*(p (nx n i)).1
theorem ZhF {a b c:P2} (h:onS a b c):onS b a c:=by
  unfold onS turn at *
  obtain ⟨h1,h2,h3⟩:=h
  refine ⟨by grind,by rw [Int.min_comm,Int.max_comm]; exact h2,by rw [Int.min_comm,Int.max_comm]; exact h3⟩
theorem Zf3 {a b c:P2} (h:turn a b c=0) (h1:lexlt a c) (h2:lexlt c b):onS a b c:=by
  unfold turn at h
  unfold lexlt at h1 h2
  obtain ⟨ax,ay⟩:=a; obtain ⟨bx,by_⟩:=b; obtain ⟨cx,cy⟩:=c
  simp only at *
  refine ⟨h,?_⟩
  simp only
  have hx:ax<=cx/\cx<=bx:=by omega
  refine ⟨by omega,?_⟩
  by_cases e:ax=bx
  · omega
  · have w:0 < bx-ax:=by omega
    have e1:(bx-ax)*(cy-ay)=(by_-ay)*(cx-ax):=by omega
    have e2:(bx-ax)*(by_-cy)=(by_-ay)*(bx-cx):=by grind
    by_cases s:ay<=by_
    · have z1:0<=(by_-ay)*(cx-ax):=Int.mul_nonneg (by omega) (by omega)
      have z2:0<=(by_-ay)*(bx-cx):=Int.mul_nonneg (by omega) (by omega)
      have y1:0<=cy-ay:=by
        apply Classical.byContradiction; intro q
        have:=Int.mul_neg_of_pos_of_neg w (show cy-ay < 0 by omega); omega
      have y2:0<=by_-cy:=by
        apply Classical.byContradiction; intro q
        have:=Int.mul_neg_of_pos_of_neg w (show by_-cy < 0 by omega); omega
      omega
    · have z1:(by_-ay)*(cx-ax)<=0:=Int.mul_nonpos_of_nonpos_of_nonneg (by omega) (by omega)
      have z2:(by_-ay)*(bx-cx)<=0:=Int.mul_nonpos_of_nonpos_of_nonneg (by omega) (by omega)
      have y1:cy-ay<=0:=by
        apply Classical.byContradiction; intro q
        have:=Int.mul_pos w (show 0 < cy-ay by omega); omega
      have y2:by_-cy<=0:=by
        apply Classical.byContradiction; intro q
        have:=Int.mul_pos w (show 0 < by_-cy by omega); omega
      omega
section
variable {n:Nat} {p:Nat->P2} {M:Int}
noncomputable def shX (M:Int) (p:Nat->P2) (i:Nat):Int:=M*(p i).1+(p i).2
noncomputable def shY (p:Nat->P2) (i:Nat):Int:=(p i).2
theorem Zfx {i j:Nat} (hb:∀ k,k < n->-M < 2*(p k).2/\2*(p k).2 < M) (hi':i < n) (hj:j < n):shX M p i < shX M p j ↔ lexlt (p i) (p j):=by
  have a:=hb i hi'
  have b:=hb j hj
  unfold shX lexlt
  rcases Int.lt_trichotomy (p i).1 (p j).1 with h | h | h
  · have:M<=M*((p j).1-(p i).1):=by
      have:=Int.mul_le_mul_of_nonneg_left (c:=M) (show 1<=(p j).1-(p i).1 by omega) (by omega)
      omega
    rw [Int.mul_sub] at this
    omega
  · rw [h]; omega
  · have:M<=M*((p i).1-(p j).1):=by
      have:=Int.mul_le_mul_of_nonneg_left (c:=M) (show 1<=(p i).1-(p j).1 by omega) (by omega)
      omega
    rw [Int.mul_sub] at this
    omega
theorem Zi5 (i j k:Nat):cr (shX M p i) (shY p i) (shX M p j) (shY p j) (shX M p k) (shY p k)=M*turn (p i) (p j) (p k):=by
  unfold cr shX shY turn; grind
theorem Zl7 {i j:Nat} (hb:∀ k,k < n->-M < 2*(p k).2/\2*(p k).2 < M) (g:Good n p) (hi':i < n) (hj:j < n) (e:shX M p i=shX M p j):i=j:=by
  have a:=Zfx (M:=M) hb hi' hj
  have b:=Zfx (M:=M) hb hj hi'
  unfold lexlt at a b
  exact g.inj i j hi' hj (Prod.ext (by omega) (by omega))
theorem Zfs (g:Good n p) (hM:0 < M) (hb:∀ k,k < n->-M < 2*(p k).2/\2*(p k).2 < M):Yb n (shX M p) (shY p) where
  n3:=g.n3
  dx:=fun i j hi' hj e=>Zl7 hb g hi' hj e
  off:=by
    intro i k hi' hk h1 h2 z
    unfold sd at z
    rw [Zi5] at z
    have z':turn (p (lo n (shX M p) i)) (p (hi n (shX M p) i)) (p k)=0:=by
      rcases Int.mul_eq_zero.mp z with q | q
      · omega
      · exact q
    have l1:=(Zfx hb (Uy hi') hk).mp h1
    have l2:=(Zfx hb hk (J4 hi')).mp h2
    have o:=Zf3 z' l1 l2
    have o':onS (p i) (p (nx n i)) (p k):=by
      rcases JA (n:=n) (x:=shX M p) i with ⟨a,b⟩ | ⟨a,b⟩ <;> rw [a,b] at o
      · exact o
      · exact ZhF o
    have k1:k≠i:=by
      rintro rfl
      rcases JA (n:=n) (x:=shX M p) k with ⟨a,b⟩ | ⟨a,b⟩ <;> rw [a] at h1 <;> rw [b] at h2 <;> omega
    have k2:k≠nx n i:=by
      rintro rfl
      rcases JA (n:=n) (x:=shX M p) i with ⟨a,b⟩ | ⟨a,b⟩ <;> rw [a] at h1 <;> rw [b] at h2 <;> omega
    by_cases c1:i=nx n k
    · have hp:=Zc7 (n:=n) hk
      have e:=ZjD (n:=n) hk
      by_cases c2:pv n k=nx n i
      · -- three corners
        have e3:k=nx n (nx n i):=by rw [<-c2,e]
        have:=g.turns i hi'
        rw [<-e3] at this
        exact this o'.1
      · refine g.apart i (pv n k) hi' hp ?_ ?_ c2 (.inr (.inl ?_))
        · rintro rfl; exact k2 e.symm
        · rw [e]; exact Ne.symm k1
        · rw [e]; exact o'
    · exact g.apart i k hi' hk (Ne.symm k1) c1 k2 (.inl o')
  apart:=by
    intro e f he hf h1 h2 h3
    have na:=g.apart e f he hf h1 h2 h3
    have key:∀ i k,k < n->(0 < sd n (shX M p) (shY p) i k->0 < turn (p (lo n (shX M p) i)) (p (hi n (shX M p) i)) (p k))/\(sd n (shX M p) (shY p) i k < 0->turn (p (lo n (shX M p) i)) (p (hi n (shX M p) i)) (p k) < 0):=by
      intro i k hk
      unfold sd
      rw [Zi5]
      constructor
      · intro z
        apply Classical.byContradiction; intro q
        have:=Int.mul_nonpos_of_nonneg_of_nonpos (Int.le_of_lt hM) (show turn (p (lo n (shX M p) i)) (p (hi n (shX M p) i)) (p k)<=0 by omega)
        omega
      · intro z
        apply Classical.byContradiction; intro q
        have:=Int.mul_nonneg (Int.le_of_lt hM) (show 0<=turn (p (lo n (shX M p) i)) (p (hi n (shX M p) i)) (p k) by omega)
        omega
    have flip:∀ a b c:P2,turn b a c=- turn a b c:=by intro a b c; unfold turn; grind
    have fin:turn (p (lo n (shX M p) e)) (p (hi n (shX M p) e)) (p (lo n (shX M p) f))*turn (p (lo n (shX M p) e)) (p (hi n (shX M p) e)) (p (hi n (shX M p) f)) < 0 ->
        turn (p (lo n (shX M p) f)) (p (hi n (shX M p) f)) (p (lo n (shX M p) e))*turn (p (lo n (shX M p) f)) (p (hi n (shX M p) f)) (p (hi n (shX M p) e)) < 0->False:=by
      intro a b
      refine na (.inr (.inr (.inr (.inr ?_))))
      rcases JA (n:=n) (x:=shX M p) e with ⟨a1,a2⟩ | ⟨a1,a2⟩ <;> rcases JA (n:=n) (x:=shX M p) f with ⟨b1,b2⟩ | ⟨b1,b2⟩ <;> rw [a1,a2,b1,b2] at a b
      · exact ⟨a,b⟩
      · rw [flip (p f),flip (p f)] at b
        exact ⟨by rw [Int.mul_comm]; exact a,by grind⟩
      · rw [flip (p e),flip (p e)] at a
        exact ⟨by grind,by rw [Int.mul_comm]; exact b⟩
      · rw [flip (p f),flip (p f)] at b
        rw [flip (p e),flip (p e)] at a
        exact ⟨by grind,by grind⟩
    constructor
    · rintro ⟨q1,q2,q3,q4⟩
      exact fin (Int.mul_neg_of_neg_of_pos ((key _ _ (Uy hf)).2 q1) ((key _ _ (J4 hf)).1 q2)) (Int.mul_neg_of_pos_of_neg ((key _ _ (Uy he)).1 q3) ((key _ _ (J4 he)).2 q4))
    · rintro ⟨q1,q2,q3,q4⟩
      exact fin (Int.mul_neg_of_pos_of_neg ((key _ _ (Uy hf)).1 q1) ((key _ _ (J4 hf)).2 q2)) (Int.mul_neg_of_neg_of_pos ((key _ _ (Uy he)).2 q3) ((key _ _ (J4 he)).1 q4))
end
theorem Zmn {M z:Int} (hM:0 < M):0 < M*z ↔ 0 < z:=by
  constructor
  · intro h
    apply Classical.byContradiction; intro q
    have:=Int.mul_nonpos_of_nonneg_of_nonpos (Int.le_of_lt hM) (show z<=0 by omega)
    omega
  · exact fun h=>Int.mul_pos hM h
theorem area_turn {n:Nat} {p:Nat->P2} (g:Good n p) (hm:∀ i,0 < i->i < n->lexlt (p 0) (p i)):0 < area n p ↔ 0 < turn (p (n-1)) (p 0) (p 1):=by
  have n3:=g.n3
  obtain ⟨R,hR⟩:=Zdt n (fun i=>(p i).2)
  have hb:∀ k,k < n->-(2*(R:Int)+1) < 2*(p k).2/\2*(p k).2 < 2*(R:Int)+1:=fun k hk=>by have:=hR k hk; omega
  have hM:0 < (2*(R:Int)+1):=by omega
  have s:=Zfs g hM hb
  have q:=Zg6 s (fun i h0 hi'=>(Zfx hb (by omega) hi').mpr (hm i h0 hi'))
  rw [Zi5] at q
  have ea:A2 n (shX (2*(R:Int)+1) p) (shY p)=(2*(R:Int)+1)*area n p:=by
    unfold A2 area
    rw [<-ZcG]
    refine S_congr fun i _=>?_
    unfold shX shY; grind
  rw [ea] at q
  have sgn:0 < (2*(R:Int)+1)*turn (p (n-1)) (p 0) (p 1) ↔ 0 < turn (p (n-1)) (p 0) (p 1):=Zmn hM
  simp only [sgn] at q
  by_cases c:0 < turn (p (n-1)) (p 0) (p 1)
  · rw [if_pos c] at q
    have:0 < (2*(R:Int)+1)*area n p:=by omega
    simp only [c,iff_true]
    exact (Zmn hM).mp this
  · rw [if_neg c] at q
    have:¬ 0 < (2*(R:Int)+1)*area n p:=by omega
    simp only [c,iff_false]
    intro z
    exact this ((Zmn hM).mpr z)
end Pg
namespace Pl
open PySem PySem.Spec PyProof.Rows L2 L3
theorem VS {ps:List Pt} (hd:ps.Nodup) (hne:ps≠[]) {i j:Int} (h:cyc ps i=cyc ps j):i % (ps.length:Int)=j % (ps.length:Int):=by
  have hn:0 < (ps.length:Int):=by have:=List.length_pos_iff.mpr hne; omega
  have a1:=Int.emod_nonneg i (show (ps.length:Int)≠0 by omega)
  have a2:=Int.emod_lt_of_pos i hn
  have b1:=Int.emod_nonneg j (show (ps.length:Int)≠0 by omega)
  have b2:=Int.emod_lt_of_pos j hn
  rw [<-QQ ps i,<-QQ ps j] at h
  obtain ⟨a,ha⟩:∃ a:Nat,(a:Int)=i % (ps.length:Int):=⟨(i % (ps.length:Int)).toNat,by omega⟩
  obtain ⟨b,hb⟩:∃ b:Nat,(b:Int)=j % (ps.length:Int):=⟨(j % (ps.length:Int)).toNat,by omega⟩
  rw [<-ha,<-hb] at h ⊢
  rw [Y7 (show a < ps.length by omega),Y7 (show b < ps.length by omega)] at h
  have:=(List.getElem_inj hd).mp h
  omega
theorem Zbs {n i j k:Int} (hi0:0<=i) (hi:i < n) (hj0:0<=j) (hj:j < n) (h:(i+k) % n=(j+k) % n):i=j:=by
  have:=(Int.emod_add_cancel_right k).mp h
  rw [Int.emod_eq_of_lt hi0 hi,Int.emod_eq_of_lt hj0 hj] at this
  exact this
theorem Wb (ps:List Pt) (m c:Int):cyc ps (m % (ps.length:Int)+c)=cyc ps (m+c):=by
  unfold cyc
  rw [Int.emod_add_emod]
noncomputable def rp (ps:List Pt) (k:Int) (i:Nat):Pt:=cyc ps ((i:Int)+k)
theorem ZfH {ps:List Pt} (k:Int) {i:Nat} (hi:i < ps.length):rp ps k (Pg.nx ps.length i)=cyc ps ((i:Int)+k+1):=by
  unfold rp Pg.nx
  split
  next h=>
    have:=Qg ps (((0:Nat):Int)+k)
    rw [<-this]
    congr 1
    omega
  next h=>congr 1; omega
theorem Zi9 {ps:List Pt} (k:Int) {i:Nat} (hi:i < ps.length):rp ps k (Pg.nx ps.length (Pg.nx ps.length i))=cyc ps ((i:Int)+k+2):=by
  rw [ZfH k (Pg.nx_lt hi)]
  unfold Pg.nx
  split
  next h=>
    have:=Qg ps (((0:Nat):Int)+k+1)
    rw [<-this]
    congr 1
    omega
  next h=>congr 1; omega
theorem Zk2 (a b c:Pt):onZ a b c=true ↔ Pg.onS a b c:=by
  unfold onZ Pg.onS Zj0 Pg.turn ZG
  simp only [Bool.and_eq_true,decide_eq_true_eq]
  rw [show (if b.1 < a.1 then b.1 else a.1)=min a.1 b.1 by omega,show (if b.1 > a.1 then b.1 else a.1)=max a.1 b.1 by omega,show (if b.2 < a.2 then b.2 else a.2)=min a.2 b.2 by omega,show (if b.2 > a.2 then b.2 else a.2)=max a.2 b.2 by omega]
  exact and_assoc
theorem Vf (a b c d:Pt):Zbu a b c d=true ↔ Pg.meet a b c d:=by
  unfold Zbu Pg.meet
  simp only [Bool.or_eq_true,Bool.and_eq_true,decide_eq_true_eq,Zk2]
  unfold Pg.turn ZG
  constructor
  · rintro ((((h | h) | h) | h) | h)
    · exact .inl h
    · exact .inr (.inl h)
    · exact .inr (.inr (.inl h))
    · exact .inr (.inr (.inr (.inl h)))
    · exact .inr (.inr (.inr (.inr h)))
  · rintro (h | h | h | h | h)
    · exact .inl (.inl (.inl (.inl h)))
    · exact .inl (.inl (.inl (.inr h)))
    · exact .inl (.inl (.inr h))
    · exact .inl (.inr h)
    · exact .inr h
theorem WU {a b c d:Pt} (h:Pg.meet a b c d):Pg.meet c d a b:=by
  unfold Pg.meet at *
  rcases h with h | h | h | h | ⟨h1,h2⟩
  · exact .inr (.inr (.inl h))
  · exact .inr (.inr (.inr (.inl h)))
  · exact .inl h
  · exact .inr (.inl h)
  · exact .inr (.inr (.inr (.inr ⟨h2,h1⟩)))
theorem Zgx {ps:List Pt} (hne:ps≠[]) (h:QL ps=true) (m:Int):ZG (cyc ps m) (cyc ps (m+1)) (cyc ps (m+2))≠0:=by
  have hn:0 < (ps.length:Int):=by have:=List.length_pos_iff.mpr hne; omega
  have a1:=Int.emod_nonneg m (show (ps.length:Int)≠0 by omega)
  have a2:=Int.emod_lt_of_pos m hn
  unfold QL at h
  simp only [Bool.and_eq_true,decide_eq_true_eq,Bool.not_eq_true',decide_eq_false_iff_not] at h
  obtain ⟨⟨_,ht⟩,_⟩:=h
  intro z
  apply ht
  unfold Qk
  refine List.mem_map.mpr ⟨(m % (ps.length:Int)).toNat,List.mem_range.mpr (by omega),?_⟩
  rw [show (((m % (ps.length:Int)).toNat:Nat):Int)=m % (ps.length:Int) by omega,Wb,Wb,QQ]
  exact z
theorem ZaP {ps:List Pt} (h:QL ps=true) {a b:Nat} (hab:a+2<=b) (hb:b < ps.length) (hw:((b:Int)+1) % (ps.length:Int)≠a):¬ Pg.meet (cyc ps a) (cyc ps ((a:Int)+1)) (cyc ps b) (cyc ps ((b:Int)+1)):=by
  unfold QL at h
  simp only [Bool.and_eq_true,decide_eq_true_eq,Bool.not_eq_true',decide_eq_false_iff_not] at h
  obtain ⟨_,hB⟩:=h
  intro z
  have:badAny ps=true:=by
    unfold badAny
    rw [List.any_eq_true]
    refine ⟨a,List.mem_range.mpr (by omega),?_⟩
    unfold Zdp
    rw [List.any_eq_true]
    refine ⟨b-(a+2),List.mem_range.mpr (by omega),?_⟩
    rw [show a+2+(b-(a+2))=b by omega]
    unfold Zid
    rw [Bool.and_eq_true]
    exact ⟨by simpa using hw,(Vf _ _ _ _).mpr z⟩
  rw [this] at hB
  cases hB
theorem ZjR {ps:List Pt} (h3:3<=ps.length) (h:QL ps=true) (k:Int):Pg.Good ps.length (rp ps k):=by
  have hne:ps≠[]:=fun z=>by rw [z] at h3; simp at h3
  have hd:ps.Nodup:=by
    unfold QL at h
    simp only [Bool.and_eq_true,decide_eq_true_eq] at h
    exact h.1.1
  have hn:0 < (ps.length:Int):=by omega
  refine ⟨h3,?_,?_,?_⟩
  · intro i j hi hj e
    have:=VS hd hne e
    have:=Zbs (by omega) (by omega) (by omega) (by omega) this
    omega
  · intro i hi
    rw [ZfH k hi,Zi9 k hi]
    exact Zgx hne h _
  · intro i j hi hj hij h1 h2
    rw [ZfH k hi,ZfH k hj]
    unfold rp
    have a1:=Int.emod_nonneg ((i:Int)+k) (show (ps.length:Int)≠0 by omega)
    have a2:=Int.emod_lt_of_pos ((i:Int)+k) hn
    have b1:=Int.emod_nonneg ((j:Int)+k) (show (ps.length:Int)≠0 by omega)
    have b2:=Int.emod_lt_of_pos ((j:Int)+k) hn
    have nab:((i:Int)+k) % (ps.length:Int)≠((j:Int)+k) % (ps.length:Int):=fun e=>by
      have:=Zbs (by omega) (by omega) (by omega) (by omega) e
      omega
    have nx1:(((j:Int)+k) % (ps.length:Int)+1) % (ps.length:Int)≠((i:Int)+k) % (ps.length:Int):=fun e=>by
      rw [Int.emod_add_emod] at e
      have e':((Pg.nx ps.length j:Nat)+k) % (ps.length:Int)=((i:Int)+k) % (ps.length:Int):=by
        rw [<-e]
        unfold Pg.nx
        split
        next q=>
          rw [show (j:Int)+k+1=((0:Nat):Int)+k+ps.length by omega,Int.add_emod_right]
        next q=>congr 1; omega
      have:=Zbs (by omega) (by have:=Pg.nx_lt hj; omega) (by omega) (by omega) e'
      omega
    have nx2:(((i:Int)+k) % (ps.length:Int)+1) % (ps.length:Int)≠((j:Int)+k) % (ps.length:Int):=fun e=>by
      rw [Int.emod_add_emod] at e
      have e':((Pg.nx ps.length i:Nat)+k) % (ps.length:Int)=((j:Int)+k) % (ps.length:Int):=by
        rw [<-e]
        unfold Pg.nx
        split
        next q=>
          rw [show (i:Int)+k+1=((0:Nat):Int)+k+ps.length by omega,Int.add_emod_right]
        next q=>congr 1; omega
      have:=Zbs (by omega) (by have:=Pg.nx_lt hi; omega) (by omega) (by omega) e'
      omega
    rw [<-Wb ps ((i:Int)+k),<-Wb ps ((j:Int)+k),<-QQ ps ((i:Int)+k),<-QQ ps ((j:Int)+k)]
    obtain ⟨a,ha⟩:∃ a:Nat,(a:Int)=((i:Int)+k) % (ps.length:Int):=⟨(((i:Int)+k) % (ps.length:Int)).toNat,by omega⟩
    obtain ⟨b,hb⟩:∃ b:Nat,(b:Int)=((j:Int)+k) % (ps.length:Int):=⟨(((j:Int)+k) % (ps.length:Int)).toNat,by omega⟩
    rw [<-ha] at a2 nab nx1 nx2 ⊢
    rw [<-hb] at b2 nab nx1 nx2 ⊢
    have lt1:∀ {m c:Nat},m+1=c->c < ps.length->((m:Int)+1) % (ps.length:Int)=c:=fun {m c} e hc=>by
      rw [Int.emod_eq_of_lt (by omega) (by omega)]; omega
    by_cases hlt:a < b
    · have:a+1≠b:=fun e=>nx2 (lt1 e (by omega))
      exact ZaP h (by omega) (by omega) nx1
    · have:b+1≠a:=fun e=>nx1 (lt1 e (by omega))
      exact fun z=>ZaP h (a:=b) (b:=a) (by omega) (by omega) nx2 (WU z)
theorem Zdi (p q:Pt):ltZ p q=true ↔ Pg.lexlt p q:=by unfold ltZ Pg.lexlt; simp
theorem ZbF:∀ (xs:List Pt) (b:Pt),∀ x∈b::xs,¬ Pg.lexlt x (ZbG b xs)
  | [],b,x,h=>by
    rw [List.mem_singleton] at h; subst h
    unfold ZbG Pg.lexlt; omega
  | y::ys,b,x,h=>by
    unfold ZbG
    cases hl:ltZ y b with
    | true=>
      have ih:=ZbF ys y
      simp only [if_true]
      rcases List.mem_cons.mp h with rfl | h
      · have i0:=ih y List.mem_cons_self
        have l:=(Zdi _ _).mp hl
        unfold Pg.lexlt at *; omega
      · exact ih x h
    | false=>
      have ih:=ZbF ys b
      simp only [Bool.false_eq_true,if_false]
      rcases List.mem_cons.mp h with rfl | h
      · exact ih x List.mem_cons_self
      · rcases List.mem_cons.mp h with rfl | h
        · have i0:=ih b List.mem_cons_self
          have l:¬ Pg.lexlt x b:=fun z=>by rw [(Zdi _ _).mpr z] at hl; cases hl
          unfold Pg.lexlt at *; omega
        · exact ih x (List.mem_cons_of_mem _ h)
theorem ZjE {ps:List Pt} (hne:ps≠[]):∀ x∈ps,¬ Pg.lexlt x (ZcU ps):=by
  cases ps with
  | nil=>exact absurd rfl hne
  | cons b xs=>exact ZbF xs b
theorem Zlf {a b:Pt} (h1:¬ Pg.lexlt a b) (h2:a≠b):Pg.lexlt b a:=by
  have:a.1≠b.1\/a.2≠b.2:=by
    apply Classical.byContradiction; intro z
    apply h2
    exact Prod.ext (by omega) (by omega)
  unfold Pg.lexlt at *
  omega
theorem Zkn (f:Nat->Int):∀ (n:Nat),((List.range n).map f).sum=Pg.S n f
  | 0=>rfl
  | n+1=>by
    rw [List.range_succ,List.map_append,List.sum_append,Zkn f n]
    simp [Pg.S]
theorem Zeg (g:Int->Int):∀ (n:Nat),Pg.S n (fun i=>g ((i:Int)+1))+g 0=Pg.S n (fun i=>g i)+g n
  | 0=>rfl
  | n+1=>by
    have ih:=Zeg g n
    simp only [Pg.S]
    have:((n+1:Nat):Int)=(n:Int)+1:=by omega
    rw [this]
    omega
theorem Zg8 (n:Nat):∀ (k:Nat) (g:Int->Int),(∀ i,g (i+n)=g i)->Pg.S n (fun i=>g ((i:Int)+k))=Pg.S n (fun i=>g i)
  | 0,g,h=>Pg.S_congr fun j _=>by simp
  | k+1,g,h=>by
    have ih:=Zg8 n k (fun i=>g (i+1)) fun i=>by
      show g (i+n+1)=g (i+1)
      rw [show i+(n:Int)+1=i+1+n by omega,h]
    have s:=Zeg g n
    have z:=h 0
    rw [Int.zero_add] at z
    have e:Pg.S n (fun i=>g ((i:Int)+((k+1:Nat):Int)))=Pg.S n (fun i=>g ((i:Int)+k+1)):=Pg.S_congr fun j _=>by congr 1
    rw [e]
    have ih':Pg.S n (fun i=>g ((i:Int)+k+1))=Pg.S n (fun i=>g ((i:Int)+1)):=ih
    rw [ih']
    omega
theorem Zj3 (ps:List Pt):ZaA ps=Pg.S ps.length (fun (j:Nat)=>ZgO (Q5 ps (j:Int))):=by
  have e:=VY ps ps 0 rfl
  unfold ZaA
  rw [Zag]
  have e':WD ps ((0:Nat):Int) ps=WD ps 0 ps:=rfl
  rw [<-e',e,List.map_map,<-Zkn]
  congr 1
  apply List.map_congr_left
  intro j _
  simp only [Function.comp,Nat.zero_add]
theorem Zj2 {ps:List Pt} (k:Nat):Pg.area ps.length (rp ps k)=ZaA ps:=by
  rw [Zj3,<-Zg8 ps.length k (fun i=>ZgO (Q5 ps i)) (fun i=>by
    unfold Q5
    rw [Qg,show i+(ps.length:Int)+1=i+1+ps.length by omega,Qg])]
  unfold Pg.area
  refine Pg.S_congr fun i hi=>?_
  rw [ZfH _ hi]
  rfl
theorem ZmG {ps:List Pt} (hne:ps≠[]) (f:Pt->Pt) (i:Int):cyc (ps.map f) i=f (cyc ps i):=by
  have hn:0 < (ps.length:Int):=by have:=List.length_pos_iff.mpr hne; omega
  have a1:=Int.emod_nonneg i (show (ps.length:Int)≠0 by omega)
  have a2:=Int.emod_lt_of_pos i hn
  obtain ⟨a,ha⟩:∃ a:Nat,(a:Int)=i % (ps.length:Int):=⟨(i % (ps.length:Int)).toNat,by omega⟩
  rw [<-QQ ps i,<-QQ (ps.map f) i,List.length_map,<-ha,Y7 (show a < ps.length by omega),Y7 (show a < (ps.map f).length by rw [List.length_map]; omega)]
  simp
theorem ZgN {ps:List Pt} (hne:ps≠[]) (i:Int):cyc ps.reverse i=cyc ps (-1-i):=by
  have hn:0 < (ps.length:Int):=by have:=List.length_pos_iff.mpr hne; omega
  have a1:=Int.emod_nonneg i (show (ps.length:Int)≠0 by omega)
  have a2:=Int.emod_lt_of_pos i hn
  obtain ⟨a,ha⟩:∃ a:Nat,(a:Int)=i % (ps.length:Int):=⟨(i % (ps.length:Int)).toNat,by omega⟩
  have e0:cyc ps (-1-i)=cyc ps (-1-i % (ps.length:Int)):=by
    unfold cyc
    rw [Int.sub_emod,Int.sub_emod (-1) (i % (ps.length:Int)),Int.emod_emod]
  rw [<-QQ ps.reverse i,List.length_reverse,e0,<-ha,Y7 (show a < ps.reverse.length by simp; omega)]
  have e:=Qg ps (-1-(a:Int))
  rw [<-e,show -1-(a:Int)+ps.length=((ps.length-1-a:Nat):Int) by omega,Y7 (show ps.length-1-a < ps.length by omega)]
  rw [List.getElem_reverse]
end Pl
namespace Pg
noncomputable def cx (u v:P2):Int:=u.1*v.2-u.2*v.1
noncomputable def vh (u:P2):Prop:=0 < u.1\/(u.1=0/\0 < u.2)
noncomputable instance (u:P2):Decidable (vh u):=by unfold vh; infer_instance
noncomputable def hc (u v:P2):Int:=if ¬ vh u/\vh v/\0 < cx u v then 1 else if vh u/\¬ vh v/\cx u v < 0 then -1 else 0
section
variable {n:Nat} {q:Nat->P2}
end
section
variable (n:Nat) (x y:Nat->Int)
end
section
variable {n:Nat} {x y:Nat->Int}
end
section
variable {n:Nat} {p:Nat->P2} {M:Int}
end
noncomputable instance (a b:P2):Decidable (lexlt a b):=by unfold lexlt; infer_instance
section
variable {a0 b0:Int} {A N:Nat} {l h:P2}
end
noncomputable def ZiJ (s e:P2) (a b:Int):Prop:=if e.1 < s.1 then (e.1<=a/\a < s.1)/\0 < turn e s (a,b) else (s.1<=a/\a < e.1)/\0 < turn s e (a,b)
noncomputable instance (s e:P2) (a b:Int):Decidable (ZiJ s e a b):=by unfold ZiJ; infer_instance
section
variable {n:Nat} {p:Nat->P2} {M:Int}
end
end Pg
namespace Pl
open PySem PySem.Spec PyProof.Rows L2 L3
noncomputable def ZhK:Int->List Int->Int
  | b,[]=>b
  | b,x::xs=>ZhK (if x < b then x else b) xs
theorem Zae:∀ (xs:List Int) (b:Int),Zdv ltD (.int b) (xs.map .int)=.int (ZhK b xs)
  | [],b=>rfl
  | x::xs,b=>by
    simp only [List.map_cons,Zdv,ZhK]
    have:ltD (.int x) (.int b)=decide (x < b):=rfl
    rw [this]
    by_cases h:x < b
    · simp only [h,decide_true,if_true]; exact Zae xs x
    · simp only [h,decide_false,if_false,Bool.false_eq_true]; exact Zae xs b
theorem Zge:∀ (xs:List Int) (b:Int),ZhK b xs<=b/\(∀ x∈xs,ZhK b xs<=x)/\(ZhK b xs=b\/ZhK b xs∈xs)
  | [],b=>⟨Int.le_refl _,fun _ h=>(by cases h),.inl rfl⟩
  | x::xs,b=>by
    have ih:=Zge xs (if x < b then x else b)
    unfold ZhK
    refine ⟨?_,fun y hy=>?_,?_⟩
    · have:=ih.1; split at this <;> omega
    · rcases List.mem_cons.mp hy with rfl | hy
      · have:=ih.1; split at this <;> omega
      · exact ih.2.1 y hy
    · rcases ih.2.2 with h | h
      · by_cases q:x < b
        · rw [if_pos q] at h ⊢; right; rw [h]; exact List.mem_cons_self
        · rw [if_neg q] at h ⊢; left; exact h
      · right; exact List.mem_cons_of_mem _ h
theorem ZnY (ns:List Int):(ns.map D.int).all isI=true:=by
  rw [List.all_eq_true]; intro d hd
  obtain ⟨k,_,rfl⟩:=List.mem_map.mp hd
  rfl
theorem Zce {ns:List Int} (h:ns≠[]):∃ m,Vq [.lst (ns.map .int)]=some (.int m)/\m∈ns/\∀ x∈ns,m<=x:=by
  cases ns with
  | nil=>exact absurd rfl h
  | cons b xs=>
    have p:=Zge xs b
    refine ⟨ZhK b xs,?_,?_,fun x hx=>?_⟩
    · show (if Wc (.int b::xs.map .int)=true then some (Zdv ltD (.int b) (xs.map .int)) else none)=_
      rw [if_pos (by unfold Wc; rw [Bool.or_eq_true]; left; exact ZnY (b::xs)),Zae]
    · rcases p.2.2 with q | q
      · rw [q]; exact List.mem_cons_self
      · exact List.mem_cons_of_mem _ q
    · rcases List.mem_cons.mp hx with rfl | hx
      · exact p.1
      · exact p.2.1 x hx
theorem Zgg {g:Pt->Pt} {f:DE} {ex:List Sl} (h:∀ p:Pt,f (.val (.int p.1)::.val (.int p.2)::ex)=some (pD (g p))):∀ (ys:List Pt) (s0 s1:Sl),YN (YC 0 1) ZY f (ys.map pD) (s0::s1::ex)=some ((ys.map g).map pD)
  | [],s0,s1=>rfl
  | y::ys,s0,s1=>by
    have ih:=Zgg h ys (.val (.int y.1)) (.val (.int y.2))
    have e:pD y=.tup [.int y.1,.int y.2]:=rfl
    simp -implicitDefEqProofs [YN,h,ih,e]
theorem Zh9 {caps:List (Option Nat)} {it:DI} {b:DG} {f:DE} {ρ:Rho} {xs ys:List D} (hi:it ρ=some xs) (hx:xs.length<=1000) (hc:YN b ZY f xs (JE caps ρ)=some ys):QP caps it b ZY f ρ=some (.lst ys):=by
  rw [Zaa,hi,Option.bind_some,if_pos (Z6 hx),hc]; rfl
end Pl
namespace Hu
open Pg (P2 turn lexlt)
noncomputable def popT:List P2->P2->List P2
  | b::a::r,s=>if 0 < turn a b s then b::a::r else popT (a::r) s
  | w,_=>w
noncomputable def stk:List P2->List P2->List P2
  | w,[]=>w
  | w,s::r=>stk (s::popT w s) r
noncomputable def conv:List P2->Prop
  | c::b::a::r=>0 < turn a b c/\conv (b::a::r)
  | _=>True
end Hu
namespace Pl
open PySem PySem.Spec PyProof.Rows L2 L3
theorem ZmX (c s:Sl) (ds:List D):L3.rel 1 [c,.own ds,s]=[c,.val (.lst ds),s]:=rfl
theorem Zgk (ds:List D):UI [.lst ds]=some (.int ds.length):=rfl
noncomputable def pk (p:Pt):List Int:=[p.1,p.2]
theorem Zd1:∀ ps:List Pt,JH (ps.map pD)=some (ps.map pk)
  | []=>rfl
  | p::ps=>by
    have ih:=Zd1 ps
    show (J1 [.int p.1,.int p.2]).bind (fun k=>(JH (ps.map pD)).map (k::·))=_
    rw [ih]; rfl
theorem Zle (p q:Pt):HT.lexLt (pk p) (pk q)=ltZ p q:=Zix p q
theorem Zeo (ps:List Pt):∃ rs:List Pt,Zfm (ps.map pk)=rs.map pk/\rs.Pairwise Pg.lexlt/\(∀ x,x∈rs ↔ x∈ps):=by
  have two:∀ k∈ps.map pk,k.length=2:=fun k hk=>by obtain ⟨p,_,rfl⟩:=List.mem_map.mp hk; rfl
  have ris:=Va two
  have mem:∀ x,x∈Zfm (ps.map pk) ↔ x∈ps.map pk:=fun x=>srtK_mem
  have dec:∀ l:List (List Int),(∀ k∈l,k∈ps.map pk)->∃ rs:List Pt,l=rs.map pk:=by
    intro l
    induction l with
    | nil=>exact fun _=>⟨[],rfl⟩
    | cons k l ih=>
      intro h
      obtain ⟨rs,e⟩:=ih fun x hx=>h x (List.mem_cons_of_mem _ hx)
      obtain ⟨p,_,ep⟩:=List.mem_map.mp (h k List.mem_cons_self)
      exact ⟨p::rs,by rw [e,<-ep]; rfl⟩
  obtain ⟨rs,e⟩:=dec _ fun k hk=>(mem k).mp hk
  have pinj:∀ p q:Pt,pk p=pk q->p=q:=fun p q h=>by
    unfold pk at h
    simp at h
    exact Prod.ext h.1 h.2
  refine ⟨rs,e,?_,fun x=>?_⟩
  · rw [e] at ris
    unfold ZiO at ris
    rw [List.pairwise_map] at ris
    exact ris.imp fun {a b} h=>(Zdi a b).mp (by rw [<-Zle]; exact h)
  · have:=mem (pk x)
    rw [e,List.mem_map,List.mem_map] at this
    constructor
    · intro h
      obtain ⟨y,hy,ey⟩:=this.mp ⟨x,h,rfl⟩
      rw [<-pinj _ _ ey]; exact hy
    · intro h
      obtain ⟨y,hy,ey⟩:=this.mpr ⟨x,h,rfl⟩
      rw [<-pinj _ _ ey]; exact hy
theorem Zfq {ps rs:List Pt} {c:D} (hc:Qb c=some (ps.map pD)) (hl:ps.length<=60) (h:Zfm (ps.map pk)=rs.map pk):Vp c=some (.lst (rs.map pD)):=by
  unfold Vp
  rw [hc,Option.bind_some,Zd1,Option.bind_some,if_pos ⟨by simpa using hl,by simp [pk]⟩,h,List.map_map]
  rfl
theorem Zh3 {α:Type} (xs:List α):cutD xs none (some (-1))=xs.dropLast:=by
  unfold L3.cutD
  rw [HT.sIx_none]
  show (xs.drop 0).take (((-1:Int)+(xs.length:Int)).toNat-0)=_
  rw [List.dropLast_eq_take,List.drop_zero]
  congr 1
  omega
theorem ZfS (s:Pt):∀ w:List Pt,(Hu.popT w s).length<=w.length
  | []=>Nat.le_refl _
  | [a]=>Nat.le_refl _
  | b::a::r=>by
    unfold Hu.popT
    split
    · exact Nat.le_refl _
    · exact Nat.le_succ_of_le (ZfS s (a::r))
theorem Zc1:∀ (l w:List Pt),(Hu.stk w l).length<=l.length+w.length
  | [],w=>by simp [Hu.stk]
  | s::l,w=>by
    have:=Zc1 l (s::Hu.popT w s)
    have p:=ZfS s w
    unfold Hu.stk
    simp at this ⊢; omega
set_option maxHeartbeats 4000000
noncomputable def ZjN (x:Int):Bool:=decide (-100<=x)&&decide (x<=100)
noncomputable def plB:D->Bool
  | .int x=>ZjN x
  | _=>false
noncomputable def spB:D->Bool
  | .tup [a,b]=>plB a&&plB b
  | _=>false
theorem ZiV (d:D):Uu [d]=some (.bl (match d with | .int _=>true | _=>false)):=by
  cases d <;> rfl
theorem Zjm (d:D):Qf [d]=some (.bl (plB d)):=by
  have w:=ZiV d
  cases d with
  | int x=>
    simp -implicitDefEqProofs [Qf,Zp,VQ,w,plB,ZjN]
    by_cases h:-100<=x
    · simp -implicitDefEqProofs [h]
    · simp -implicitDefEqProofs [h]
  | _=>simp -implicitDefEqProofs [Qf,Zp,VQ,w,plB]
theorem ZhH (d:D):YF [d,.int (-100),.int 100]=some (.bl (plB d)):=by
  cases d with
  | int x=>
    have i1:Vr .int (.int x)=some (.bl true):=rfl
    have i2:Vr .bool (.int x)=some (.bl false):=rfl
    simp -implicitDefEqProofs [YF,Zp,Vj,plB,ZjN,i1,i2]
    by_cases h:-100<=x
    · simp -implicitDefEqProofs [h]
    · simp -implicitDefEqProofs [h]
  | _=>rfl
theorem Zgq (d:D):Yk [d]=some (.bl (spB d)):=by
  cases d with
  | tup ds=>
    match ds with
    | []=>rfl
    | [a]=>rfl
    | [a,b]=>
      have i1:Vr .tuple (.tup [a,b])=some (.bl true):=rfl
      simp -implicitDefEqProofs [Yk,Zp,WZ,Zjm,spB,i1]
      cases plB a <;> simp -implicitDefEqProofs
    | a::b::c::t=>
      have i1:Vr .tuple (.tup (a::b::c::t))=some (.bl true):=rfl
      have n2:¬ ((t.length:Int)+1+1+1=2):=by omega
      simp -implicitDefEqProofs [Yk,Zp,WZ,spB,i1,n2]
  | _=>rfl
theorem ZaL (d:D):Yc [d]=some (.bl (spB d)):=by
  cases d with
  | tup ds=>
    match ds with
    | []=>rfl
    | [a]=>rfl
    | [a,b]=>
      have i1:Vr .tuple (.tup [a,b])=some (.bl true):=rfl
      simp -implicitDefEqProofs [Yc,Zp,Je,ZhH,spB,i1]
      cases plB a <;> simp -implicitDefEqProofs
    | a::b::c::t=>
      have i1:Vr .tuple (.tup (a::b::c::t))=some (.bl true):=rfl
      have n2:¬ ((t.length:Int)+1+1+1=2):=by omega
      simp -implicitDefEqProofs [Yc,Zp,Je,spB,i1,n2]
  | _=>rfl
theorem Zkr {d:D} (h:spB d=true):∃ p:Pt,d=pD p/\Rg 100 p:=by
  unfold spB at h
  split at h
  · rename_i a b
    obtain ⟨h1,h2⟩:=Bool.and_eq_true_iff.mp h
    unfold plB at h1 h2
    split at h1
    · split at h2
      · rename_i x _ y
        unfold ZjN at h1 h2
        simp at h1 h2
        exact ⟨(x,y),rfl,h1,h2⟩
      · cases h2
    · cases h1
  · cases h
theorem Zfp:∀ {ds:List D},(∀ d∈ds,spB d=true)->∃ ps:List Pt,ds=ps.map pD/\All (Rg 100) ps
  | [],_=>⟨[],rfl,fun _ h=>by simp at h⟩
  | d::ds,h=>by
    obtain ⟨p,rfl,hp⟩:=Zkr (h d List.mem_cons_self)
    obtain ⟨ps,rfl,hps⟩:=Zfp fun x hx=>h x (List.mem_cons_of_mem _ hx)
    exact ⟨p::ps,rfl,fun q hq=>by
      rcases List.mem_cons.mp hq with rfl | hq
      · exact hp
      · exact hps q hq⟩
theorem Zio {p:Pt} (h:Rg 100 p):spB (pD p)=true:=by
  obtain ⟨⟨a,b⟩,c,d⟩:=h
  show (ZjN p.1&&ZjN p.2)=true
  unfold ZjN
  simp [a,b,c,d]
theorem Zht {p:Pt} (h:Rg 100 p):Sm p:=by
  obtain ⟨⟨a,b⟩,c,d⟩:=h
  exact ⟨⟨by omega,by omega⟩,by omega,by omega⟩
theorem U9 {a b c:Pt} (ha:Sm a) (hb:Sm b) (hc:Sm c):YE [pD a,pD b,pD c]=some (.bl (decide (ZG a b c < 0))):=by
  simp -implicitDefEqProofs [YE,Zp,Vi,Vl ha hb hc]
theorem ZfZ {a b c d:Pt} (ha:Sm a) (hb:Sm b) (hc:Sm c) (hd:Sm d):Yw [pD a,pD b,pD c,pD d]=some (.bl (decide (ZG a b c*ZG a b d < 0))):=by
  have e1:=Jg ha hb hc
  have e2:=Jg ha hb hd
  have e3:=U9 ha hb hc
  have e4:=U9 ha hb hd
  have key:∀ x y:Int,decide (x*y < 0)=(if 0 < x then decide (y < 0) else (decide (x < 0)&&decide (0 < y))):=by
    intro x y
    by_cases h:0 < x
    · rw [if_pos h]
      refine decide_eq_decide.mpr ⟨fun q=>?_,fun q=>Int.mul_neg_of_pos_of_neg h q⟩
      by_cases hy:y < 0
      · exact hy
      · have:=Int.mul_nonneg (Int.le_of_lt h) (Int.not_lt.mp hy); omega
    · rw [if_neg h]
      by_cases h2:x < 0
      · simp only [h2,decide_true,Bool.true_and]
        refine decide_eq_decide.mpr ⟨fun q=>?_,fun q=>Int.mul_neg_of_neg_of_pos h2 q⟩
        by_cases hy:0 < y
        · exact hy
        · have:=Int.mul_nonneg_of_nonpos_of_nonpos (Int.le_of_lt h2) (Int.not_lt.mp hy); omega
      · have:x=0:=by omega
        subst this
        simp
  rw [key]
  by_cases h:0 < ZG a b c
  · simp -implicitDefEqProofs [Yw,Zp,J5,e1,e2,e3,e4,h]
  · simp -implicitDefEqProofs [Yw,Zp,J5,e1,e2,e3,e4,h]
    by_cases h2:ZG a b c < 0
    · simp -implicitDefEqProofs [h2]
    · simp -implicitDefEqProofs [h2]
theorem Zi2 {s t:Pt×Pt} (hs:SmS s) (ht:SmS t):ZE [sD s,sD t]=some (.bl (Zbu s.1 s.2 t.1 t.2)):=by
  obtain ⟨a,b⟩:=hs
  obtain ⟨c,d⟩:=ht
  have o1:=Jy a b c
  have o2:=Jy a b d
  have o3:=Jy c d a
  have o4:=Jy c d b
  have p1:=ZfZ a b c d
  have p2:=ZfZ c d a b
  have es:sD (s.1,s.2)=sD s:=rfl
  have et:sD (t.1,t.2)=sD t:=rfl
  rw [es] at o1 o2
  rw [et] at o3 o4
  unfold Zbu
  cases h1:onZ s.1 s.2 t.1
  · cases h2:onZ s.1 s.2 t.2
    · cases h3:onZ t.1 t.2 s.1
      · cases h4:onZ t.1 t.2 s.2
        · simp -implicitDefEqProofs [ZE,Zp,YY,o1,o2,o3,o4,p1,p2,h1,h2,h3,h4]
          by_cases h5:ZG s.1 s.2 t.1*ZG s.1 s.2 t.2 < 0
          · simp -implicitDefEqProofs [h5]
          · simp -implicitDefEqProofs [h5]
        · simp -implicitDefEqProofs [ZE,Zp,YY,o1,o2,o3,o4,h1,h2,h3,h4]
      · simp -implicitDefEqProofs [ZE,Zp,YY,o1,o2,o3,h1,h2,h3]
    · simp -implicitDefEqProofs [ZE,Zp,YY,o1,o2,h1,h2]
  · simp -implicitDefEqProofs [ZE,Zp,YY,o1,h1]
noncomputable def comB (s t:Pt×Pt):Bool:=(decide (s.1=t.1)||decide (s.1=t.2))||(decide (s.2=t.1)||decide (s.2=t.2))
theorem ZiB (p a b:Pt):ZiG (pD p) (sD (a,b))=some (.bl (decide (p=a)||decide (p=b))):=by
  have h1:okD (sD (a,b))=true:=(Zjw fun d hd=>by
    rcases List.mem_cons.mp hd with rfl | hd
    · exact V0 a
    · rcases List.mem_cons.mp hd with rfl | hd
      · exact V0 b
      · cases hd).1
  have h2:okD (pD p)=true:=(V0 p).1
  show Option.map D.bl (if (okD (pD p)&&okD (sD (a,b)))=true then some ([pD a,pD b].any fun y=>deq y (pD p)) else none)=_
  rw [h1,h2,if_pos (by decide)]
  show some (D.bl (deq (pD a) (pD p)||(deq (pD b) (pD p)||false)))=_
  rw [Zct,Zct,Bool.or_false,decide_eq_decide.mpr (eq_comm (a:=a) (b:=p)),decide_eq_decide.mpr (eq_comm (a:=b) (b:=p))]
theorem ZmI (s t:Pt×Pt):Zt [sD s,sD t]=some (.bl (comB s t)):=by
  have e1:=ZiB s.1 t.1 t.2
  have e2:=ZiB s.2 t.1 t.2
  have et:sD (t.1,t.2)=sD t:=rfl
  rw [et] at e1 e2
  unfold comB
  simp -implicitDefEqProofs [Zt,Zp,Qu,e1,e2]
  cases (decide (s.1=t.1)||decide (s.1=t.2)) <;> simp -implicitDefEqProofs
noncomputable def Jp (s t:Pt×Pt):Bool:=!comB s t&&Zbu s.1 s.2 t.1 t.2
noncomputable def apB:DS:=(Ws (QU (dSl (Ze 1) Qd (Qc (Ze 2)))) (ZV 4) (Yh (Y1 (Qa (Zo (dFn 2 Zt (Zc (Ze 3) (Zc (Ze 4) Zm))))) (Zo (dFn 2 ZE (Zc (Ze 3) (Zc (Ze 4) Zm))))) (ZW (Zf (.bl false))) ZB))
theorem ZjY {s t:Pt×Pt} (hs:SmS s) (ht:SmS t) (a b c:Sl):(Y1 (Qa (Zo (dFn 2 Zt (Zc (Ze 3) (Zc (Ze 4) Zm))))) (Zo (dFn 2 ZE (Zc (Ze 3) (Zc (Ze 4) Zm))))) [a,b,c,.val (sD s),.val (sD t)]=some (Jp s t):=by
  have e1:=ZmI s t
  have e2:=Zi2 hs ht
  unfold Jp
  cases h:comB s t
  · simp -implicitDefEqProofs [e1,e2,h]
  · simp -implicitDefEqProofs [e1,h]
theorem Zie {ss:List (Pt×Pt)} (hl:ss.length<=1000) (hss:∀ s∈ss,SmS s) (k:Nat) (hk:k < ss.length) {s:Pt×Pt} (hs:SmS s) (a t4:Sl) :
    ((ss.take k).any (Jp s)=true->apB [a,.val (.lst (ss.map sD)),.val (.int k),.val (sD s),t4]=some (.rt (.bl false))) /\
    ((ss.take k).any (Jp s)=false->∃ t4',apB [a,.val (.lst (ss.map sD)),.val (.int k),.val (sD s),t4]=some (.nx [a,.val (.lst (ss.map sD)),.val (.int k),.val (sD s),t4'])):=by
  have lp:∀ (ys:List (Pt×Pt)) (t4:Sl),(∀ t∈ys,SmS t) ->
      (ys.any (Jp s)=true->QY (ZV 4) (Yh (Y1 (Qa (Zo (dFn 2 Zt (Zc (Ze 3) (Zc (Ze 4) Zm))))) (Zo (dFn 2 ZE (Zc (Ze 3) (Zc (Ze 4) Zm))))) (ZW (Zf (.bl false))) ZB) (ys.map sD) [a,.val (.lst (ss.map sD)),.val (.int k),.val (sD s),t4]=some (.rt (.bl false))) /\
      (ys.any (Jp s)=false->∃ t4',QY (ZV 4) (Yh (Y1 (Qa (Zo (dFn 2 Zt (Zc (Ze 3) (Zc (Ze 4) Zm))))) (Zo (dFn 2 ZE (Zc (Ze 3) (Zc (Ze 4) Zm))))) (ZW (Zf (.bl false))) ZB) (ys.map sD) [a,.val (.lst (ss.map sD)),.val (.int k),.val (sD s),t4]=some (.nx [a,.val (.lst (ss.map sD)),.val (.int k),.val (sD s),t4'])):=by
    intro ys
    induction ys with
    | nil=>exact fun t4 _=>⟨fun z=>by simp at z,fun _=>⟨t4,rfl⟩⟩
    | cons t ys ih=>
      intro t4 hys
      have ht:=hys t List.mem_cons_self
      have e:=ZjY hs ht a (.val (.lst (ss.map sD))) (.val (.int k))
      have ih:=ih (.val (sD t)) fun x hx=>hys x (List.mem_cons_of_mem _ hx)
      cases h:Jp s t
      · have st:QY (ZV 4) (Yh (Y1 (Qa (Zo (dFn 2 Zt (Zc (Ze 3) (Zc (Ze 4) Zm))))) (Zo (dFn 2 ZE (Zc (Ze 3) (Zc (Ze 4) Zm))))) (ZW (Zf (.bl false))) ZB) ((t::ys).map sD) [a,.val (.lst (ss.map sD)),.val (.int k),.val (sD s),t4]=QY (ZV 4) (Yh (Y1 (Qa (Zo (dFn 2 Zt (Zc (Ze 3) (Zc (Ze 4) Zm))))) (Zo (dFn 2 ZE (Zc (Ze 3) (Zc (Ze 4) Zm))))) (ZW (Zf (.bl false))) ZB) (ys.map sD) [a,.val (.lst (ss.map sD)),.val (.int k),.val (sD s),.val (sD t)]:=by
          rw [List.map_cons,QY]
          show (Option.bind (some [a,.val (.lst (ss.map sD)),.val (.int k),.val (sD s),.val (sD t)]) _)=_
          rw [Option.bind_some,QO,e,h]
          rfl
        rw [st]
        refine ⟨fun z=>ih.1 ?_,fun z=>ih.2 ?_⟩
        · simpa [h] using z
        · simpa [h] using z
      · refine ⟨fun _=>?_,fun z=>by simp [h] at z⟩
        rw [List.map_cons,QY]
        show (Option.bind (some [a,.val (.lst (ss.map sD)),.val (.int k),.val (sD s),.val (sD t)]) _)=_
        rw [Option.bind_some,QO,e,h]
        rfl
  have it:QU (dSl (Ze 1) Qd (Qc (Ze 2))) [a,.val (.lst (ss.map sD)),.val (.int k),.val (sD s),t4]=some ((ss.take k).map sD):=by
    have:Ze6 none (some (k:Int)) (.lst (ss.map sD))=some (.lst ((ss.take k).map sD)):=by
      show some (D.lst (cutD (ss.map sD) none (some (k:Int))))=_
      rw [ZiI _ _ (by simp; omega),List.map_take]
    simp -implicitDefEqProofs [this]
  unfold apB
  rw [UJ,it,Option.bind_some]
  exact lp (ss.take k) t4 fun t ht=>hss t (List.mem_of_mem_take ht)
noncomputable def YJ (ss:List (Pt×Pt)) (j:Nat):Bool:=match ss[j]? with | some s=>(ss.take j).any (Jp s) | none=>false
theorem Zj5 {ss:List (Pt×Pt)} (hl:ss.length<=1000) (hss:∀ s∈ss,SmS s) (a:Sl):∀ (ys:List (Pt×Pt)) (k:Nat) (t2 t3 t4:Sl),ss.drop k=ys ->
    ((∃ j,k<=j/\YJ ss j=true)->QY (YC 2 3) apB (YA k (ys.map sD)) [a,.val (.lst (ss.map sD)),t2,t3,t4]=some (.rt (.bl false))) /\
    ((¬ ∃ j,k<=j/\YJ ss j=true)->∃ u2 u3 u4,QY (YC 2 3) apB (YA k (ys.map sD)) [a,.val (.lst (ss.map sD)),t2,t3,t4]=some (.nx [a,.val (.lst (ss.map sD)),u2,u3,u4])):=by
  intro ys
  induction ys with
  | nil=>
    intro k t2 t3 t4 hd
    have hk:ss.length<=k:=List.drop_eq_nil_iff.mp hd
    refine ⟨fun zq=>?_,fun _=>⟨t2,t3,t4,rfl⟩⟩
    obtain ⟨j,hj,hc⟩:=zq
    unfold YJ at hc
    rw [List.getElem?_eq_none (by omega)] at hc
    cases hc
  | cons s ys ih=>
    intro k t2 t3 t4 hd
    have hk:k < ss.length:=by
      by_cases h:k < ss.length
      · exact h
      · rw [List.drop_eq_nil_iff.mpr (by omega)] at hd; cases hd
    have hg:ss[k]?=some s:=by
      have:=congrArg (·[0]?) hd
      simpa using this
    have hd':ss.drop (k+1)=ys:=by
      rw [<-List.drop_drop,hd]; rfl
    have hs:SmS s:=hss s (List.mem_of_getElem? hg)
    have inn:=Zie hl hss k hk hs a t4
    have hca:YJ ss k=(ss.take k).any (Jp s):=by unfold YJ; rw [hg]
    have st:QY (YC 2 3) apB (YA k ((s::ys).map sD)) [a,.val (.lst (ss.map sD)),t2,t3,t4]=(match apB [a,.val (.lst (ss.map sD)),.val (.int k),.val (sD s),t4] with
      | some (.nx ρ2)=>QY (YC 2 3) apB (YA (k+1) (ys.map sD)) ρ2
      | some (.ct ρ2)=>QY (YC 2 3) apB (YA (k+1) (ys.map sD)) ρ2
      | some (.bk ρ2)=>some (.nx ρ2)
      | r=>r):=by
      simp only [List.map_cons,YA,QY,Zaf,List.set_cons_zero,List.set_cons_succ,Option.bind_some] <;> rfl
    rw [st]
    cases h:(ss.take k).any (Jp s)
    · obtain ⟨t4',e⟩:=inn.2 h
      rw [e]
      have ih:=ih (k+1) (.val (.int k)) (.val (sD s)) t4' hd'
      have same:(∃ j,k<=j/\YJ ss j=true) ↔ (∃ j,k+1<=j/\YJ ss j=true):=by
        refine ⟨fun ⟨j,hj,hc⟩=>⟨j,?_,hc⟩,fun ⟨j,hj,hc⟩=>⟨j,by omega,hc⟩⟩
        by_cases hjk:j=k
        · subst hjk; rw [hca,h] at hc; cases hc
        · omega
      exact ⟨fun z=>ih.1 (same.mp z),fun z=>ih.2 fun q=>z (same.mpr q)⟩
    · rw [inn.1 h]
      exact ⟨fun _=>rfl,fun z=>absurd ⟨k,Nat.le_refl _,by rw [hca,h]⟩ z⟩
theorem Zj4 {ps:List Pt} (hl:ps.length<=1000) (hps:All Sm ps) [Decidable (∃ j,YJ (YK ps) j=true)]:Z7 [.tup (ps.map pD)]=some (.bl (!decide (∃ j,YJ (YK ps) j=true))):=by
  have lp:=Zj5 (ss:=YK ps) (by rw [Um]; exact hl) (Zfv hps) (.val (.tup (ps.map pD))) (YK ps) 0 .no .no .no rfl
  have e1:Z5 1 (dFn 1 QC (Zc (Ze 0) Zm)) [.val (.tup (ps.map pD)),.no,.no,.no,.no]=some (.nx [.val (.tup (ps.map pD)),.val (.lst ((YK ps).map sD)),.no,.no,.no]):=by
    simp -implicitDefEqProofs [Zcq hl]
  unfold Z7 Zp QX
  show (Zr _ (Zr _ _) [.val (.tup (ps.map pD)),.no,.no,.no,.no]).bind _=_
  rw [Zx,e1]
  show (Zr (Ws (Qt (Ze 1)) (YC 2 3) apB) _ [.val (.tup (ps.map pD)),.val (.lst ((YK ps).map sD)),.no,.no,.no]).bind _=_
  have it:Qt (Ze 1) [.val (.tup (ps.map pD)),.val (.lst ((YK ps).map sD)),.no,.no,.no]=some (YA 0 ((YK ps).map sD)):=rfl
  rw [Zx,UJ,it,Option.bind_some]
  by_cases h:∃ j,YJ (YK ps) j=true
  · rw [lp.1 (by obtain ⟨j,hj⟩:=h; exact ⟨j,Nat.zero_le _,hj⟩)]
    simp [h]
  · obtain ⟨a,b,c,e⟩:=lp.2 fun ⟨j,_,hj⟩=>h ⟨j,hj⟩
    rw [e]
    simp [h]
theorem VB {ps:List Pt} {k:Nat} (h:k < ps.length):(YK ps)[k]?=some (Q5 ps ((k:Int)-1)):=by
  unfold YK
  rw [List.getElem?_map,List.getElem?_range h]
  rfl
theorem clashAt_iff {ps:List Pt} {j:Nat}:YJ (YK ps) j=true ↔ ∃ i,i < j/\j < ps.length/\Jp (Q5 ps ((j:Int)-1)) (Q5 ps ((i:Int)-1))=true:=by
  by_cases h:j < ps.length
  · unfold YJ
    rw [VB h]
    simp only [List.any_eq_true]
    constructor
    · rintro ⟨t,ht,q⟩
      obtain ⟨i,hi,e⟩:=List.getElem_of_mem ht
      rw [List.length_take,Um] at hi
      have hij:i < j:=by omega
      refine ⟨i,hij,h,?_⟩
      rw [List.getElem_take] at e
      have g:=VB (ps:=ps) (k:=i) (by omega)
      rw [List.getElem?_eq_getElem (by rw [Um]; omega),e] at g
      rw [<-Option.some.inj g]; exact q
    · rintro ⟨i,hi,_,q⟩
      refine ⟨_,?_,q⟩
      have g:=VB (ps:=ps) (k:=i) (by omega)
      have:((YK ps).take j)[i]?=some (Q5 ps ((i:Int)-1)):=by rw [List.getElem?_take_of_lt hi]; exact g
      exact List.mem_of_getElem? this
  · unfold YJ
    rw [List.getElem?_eq_none (by rw [Um]; omega)]
    exact ⟨fun z=>(by cases z),fun ⟨_,_,z,_⟩=>absurd z h⟩
theorem ZgQ {ps:List Pt} (h3:3<=ps.length) (hd:ps.Nodup) {i k:Nat} (hik:i < k) (hk:k < ps.length):comB (Q5 ps ((k:Int)-1)) (Q5 ps ((i:Int)-1))=true ↔ (k=i+1\/(i=0/\k+1=ps.length)):=by
  have hne:ps≠[]:=fun z=>by rw [z] at h3; simp at h3
  have n0:(0:Int) < ps.length:=by omega
  have mk:∀ m:Int,0<=m->m < ps.length->m % (ps.length:Int)=m:=fun m a b=>Int.emod_eq_of_lt a b
  have mn:∀ m:Int,m=-1->m % (ps.length:Int)=ps.length-1:=fun m e=>by
    subst e
    rw [<-Int.add_emod_right,mk _ (by omega) (by omega)]; omega
  unfold comB Q5
  simp only [Bool.or_eq_true,decide_eq_true_eq]
  rw [show (k:Int)-1+1=k by omega,show (i:Int)-1+1=i by omega]
  constructor
  · rintro ((z | z) | (z | z))
    · have:=VS hd hne z
      rw [mk ((k:Int)-1) (by omega) (by omega)] at this
      by_cases h0:i=0
      · subst h0; rw [mn _ (by omega)] at this; omega
      · rw [mk _ (by omega) (by omega)] at this; omega
    · have:=VS hd hne z
      rw [mk ((k:Int)-1) (by omega) (by omega),mk _ (by omega) (by omega)] at this
      left; omega
    · have:=VS hd hne z
      rw [mk (k:Int) (by omega) (by omega)] at this
      by_cases h0:i=0
      · subst h0; rw [mn _ (by omega)] at this; right; omega
      · rw [mk _ (by omega) (by omega)] at this; omega
    · have:=VS hd hne z
      rw [mk (k:Int) (by omega) (by omega),mk _ (by omega) (by omega)] at this
      omega
  · rintro (rfl | ⟨rfl,h⟩)
    · left; right
      rw [show ((i+1:Nat):Int)-1=i by omega]
    · right; left
      rw [<-Qg ps (((0:Nat):Int)-1)]
      congr 1; omega
theorem Zcv {ps : List Pt} (h3 : 3 <= ps.length) (hd : ps.Nodup) : (∃ j, YJ (YK ps) j = true) ↔ badAny ps = true := by
  have n0 : (0 : Int) < ps.length := by omega
  have mk : ∀ m : Int, 0 <= m -> m < ps.length -> m % (ps.length : Int) = m := fun m a b => Int.emod_eq_of_lt a b
  have badI : badAny ps = true ↔ ∃ a b : Nat, a + 2 <= b /\ b < ps.length /\ ((b : Int) + 1) % (ps.length : Int) ≠ a /\ Pg.meet (cyc ps a) (cyc ps ((a : Int) + 1)) (cyc ps b) (cyc ps ((b : Int) + 1)) := by
    unfold badAny Zdp
    simp only [List.any_eq_true, List.mem_range]
    constructor
    · rintro ⟨a, ha, j, hj, q⟩
      unfold Zid at q
      rw [Bool.and_eq_true] at q
      exact ⟨a, a + 2 + j, by omega, by omega, by simpa using q.1, (Vf _ _ _ _).mp q.2⟩
    · rintro ⟨a, b, h1, h2, h4, h5⟩
      refine ⟨a, by omega, b - (a + 2), by omega, ?_⟩
      rw [show a + 2 + (b - (a + 2)) = b by omega]
      unfold Zid
      rw [Bool.and_eq_true]
      exact ⟨by simpa using h4, (Vf _ _ _ _).mpr h5⟩
  have clI : (∃ j, YJ (YK ps) j = true) ↔ ∃ i k : Nat, i + 2 <= k /\ k < ps.length /\ ¬ (i = 0 /\ k + 1 = ps.length) /\ Pg.meet (cyc ps ((k : Int) - 1)) (cyc ps k) (cyc ps ((i : Int) - 1)) (cyc ps i) := by
    constructor
    · rintro ⟨k, hk⟩
      obtain ⟨i, h1, h2, q⟩ := clashAt_iff.mp hk
      unfold Jp at q
      rw [Bool.and_eq_true] at q
      have nc : ¬ comB (Q5 ps ((k : Int) - 1)) (Q5 ps ((i : Int) - 1)) = true := by
        intro z; rw [z] at q; exact absurd q.1 (by decide)
      rw [ZgQ h3 hd h1 h2] at nc
      have m := (Vf _ _ _ _).mp q.2
      unfold Q5 at m
      simp only at m
      rw [show (k : Int) - 1 + 1 = k by omega, show (i : Int) - 1 + 1 = i by omega] at m
      exact ⟨i, k, by omega, h2, fun z => nc (.inr z), m⟩
    · rintro ⟨i, k, h1, h2, h4, m⟩
      refine ⟨k, clashAt_iff.mpr ⟨i, by omega, h2, ?_⟩⟩
      unfold Jp
      rw [Bool.and_eq_true]
      refine ⟨?_, ?_⟩
      · cases z : comB (Q5 ps ((k : Int) - 1)) (Q5 ps ((i : Int) - 1)) with
        | false => rfl
        | true => rcases (ZgQ h3 hd (by omega) h2).mp z with z | z
                  · omega
                  · exact absurd z h4
      · refine (Vf _ _ _ _).mpr ?_
        unfold Q5
        simp only
        rw [show (k : Int) - 1 + 1 = k by omega, show (i : Int) - 1 + 1 = i by omega]
        exact m
  rw [badI, clI]
  constructor
  · rintro ⟨i, k, h1, h2, h4, m⟩
    by_cases h0 : i = 0
    · subst h0
      refine ⟨k - 1, ps.length - 1, by omega, by omega, ?_, ?_⟩
      · rw [show ((ps.length - 1 : Nat) : Int) + 1 = ps.length by omega, Int.emod_self]; omega
      · have e1 : cyc ps (((0 : Nat) : Int) - 1) = cyc ps ((ps.length - 1 : Nat) : Int) := by
          rw [<- Qg ps (((0 : Nat) : Int) - 1)]; congr 1; omega
        have e2 : cyc ps ((0 : Nat) : Int) = cyc ps (((ps.length - 1 : Nat) : Int) + 1) := by
          rw [<- Qg ps ((0 : Nat) : Int)]; congr 1; omega
        rw [<- e1, <- e2, show ((k - 1 : Nat) : Int) = (k : Int) - 1 by omega, show (k : Int) - 1 + 1 = k by omega]
        exact m
    · refine ⟨i - 1, k - 1, by omega, by omega, ?_, ?_⟩
      · rw [show ((k - 1 : Nat) : Int) + 1 = k by omega, mk _ (by omega) (by omega)]; omega
      · rw [show ((i - 1 : Nat) : Int) = (i : Int) - 1 by omega, show ((k - 1 : Nat) : Int) = (k : Int) - 1 by omega, show (i : Int) - 1 + 1 = i by omega, show (k : Int) - 1 + 1 = k by omega]
        exact WU m
  · rintro ⟨a, b, h1, h2, h4, m⟩
    by_cases hb : b + 1 < ps.length
    · refine ⟨a + 1, b + 1, by omega, hb, by omega, ?_⟩
      rw [show ((b + 1 : Nat) : Int) - 1 = b by omega, show ((a + 1 : Nat) : Int) - 1 = a by omega, show ((b + 1 : Nat) : Int) = (b : Int) + 1 by omega, show ((a + 1 : Nat) : Int) = (a : Int) + 1 by omega]
      exact WU m
    · have hb' : b = ps.length - 1 := by omega
      subst hb'
      rw [show ((ps.length - 1 : Nat) : Int) + 1 = ps.length by omega, Int.emod_self] at h4
      have ha : a ≠ 0 := fun z => h4 (by rw [z]; rfl)
      refine ⟨0, a + 1, by omega, by omega, by omega, ?_⟩
      have e1 : cyc ps (((0 : Nat) : Int) - 1) = cyc ps ((ps.length - 1 : Nat) : Int) := by
        rw [<- Qg ps (((0 : Nat) : Int) - 1)]; congr 1; omega
      have e2 : cyc ps ((0 : Nat) : Int) = cyc ps (((ps.length - 1 : Nat) : Int) + 1) := by
        rw [<- Qg ps ((0 : Nat) : Int)]; congr 1; omega
      rw [e1, e2, show ((a + 1 : Nat) : Int) - 1 = a by omega, show ((a + 1 : Nat) : Int) = (a : Int) + 1 by omega]
      exact m
noncomputable def VW (ps:List Pt):List Int:=(List.range ps.length).map fun (k:Nat)=>ZG (cyc ps ((k:Int)-2)) (cyc ps ((k:Int)-1)) (cyc ps k)
theorem Uk {ps:List Pt} (hne:ps≠[]) (x:Int):x∈VW ps ↔ x∈Qk ps:=by
  have hn:0 < (ps.length:Int):=by have:=List.length_pos_iff.mpr hne; omega
  have put:∀ m:Int,∃ k:Nat,k < ps.length/\(k:Int)=m % (ps.length:Int):=fun m=>⟨(m % (ps.length:Int)).toNat,by
    have a1:=Int.emod_nonneg m (show (ps.length:Int)≠0 by omega)
    have a2:=Int.emod_lt_of_pos m hn
    omega,by
    have a1:=Int.emod_nonneg m (show (ps.length:Int)≠0 by omega)
    omega⟩
  unfold VW Qk
  simp only [List.mem_map,List.mem_range]
  constructor
  · rintro ⟨k,hk,rfl⟩
    obtain ⟨j,hj,e⟩:=put ((k:Int)-2)
    refine ⟨j,hj,?_⟩
    rw [e,QQ,Wb,Wb,show (k:Int)-2+1=k-1 by omega,show (k:Int)-2+2=k by omega]
  · rintro ⟨k,hk,rfl⟩
    obtain ⟨j,hj,e⟩:=put ((k:Int)+2)
    refine ⟨j,hj,?_⟩
    rw [e,QQ,Int.sub_eq_add_neg,Int.sub_eq_add_neg,Wb,Wb,show (k:Int)+2+-2=k by omega,show (k:Int)+2+-1=k+1 by omega]
theorem Zil {ps:List Pt} (hps:All Sm ps) (h2:2<=ps.length):∀ (ks:List Nat) (s0:Sl),(∀ k∈ks,k < ps.length)->YN (ZV 0) ZY (dFn 3 UH (Zc (Zh dIx (Ze 1) (Zh Y0 (Ze 0) (Zf (.int 2)))) (Zc (Zh dIx (Ze 1) (Zh Y0 (Ze 0) (Zf (.int 1)))) (Zc (Zh dIx (Ze 1) (Ze 0)) Zm)))) (ks.map fun (k:Nat)=>D.int k) (s0::[.val (.tup (ps.map pD))]) =
    some ((ks.map fun (k:Nat)=>ZG (cyc ps ((k:Int)-2)) (cyc ps ((k:Int)-1)) (cyc ps k)).map .int)
  | [],_,_=>rfl
  | k::ks,s0,h=>by
    have hne:ps≠[]:=fun z=>by rw [z] at h2; simp at h2
    have hk:=h k List.mem_cons_self
    have ih:=Zil hps h2 ks (.val (.int k)) fun x hx=>h x (List.mem_cons_of_mem _ hx)
    have i1:=Jd (ps:=ps) (i:=(k:Int)-2) (by omega) (by omega)
    have i2:=Jd (ps:=ps) (i:=(k:Int)-1) (by omega) (by omega)
    have i3:=Jd (ps:=ps) (i:=(k:Int)) (by omega) (by omega)
    have t:=Vl (hps _ (YB hne ((k:Int)-2))) (hps _ (YB hne ((k:Int)-1))) (hps _ (YB hne (k:Int)))
    simp -implicitDefEqProofs [YN,i1,i2,i3,t,ih]
theorem Zmm (n:Nat):Qs 0 n=(List.range n).map fun (k:Nat)=>D.int k:=by
  unfold Qs
  refine List.map_congr_left fun k _=>?_
  rw [Int.zero_add]
theorem ZdG {ps:List Pt} (hps:All Sm ps) (h2:2<=ps.length) (hl:ps.length<=1000):Z1 [.tup (ps.map pD)]=some (.lst ((VW ps).map .int)):=by
  have cl:=Zil hps h2 (List.range ps.length) .no fun k hk=>List.mem_range.mp hk
  have r:=Zft hl
  have l:(Qs 0 ps.length).length<=lim:=Zfu hl
  have e:YN (ZV 0) ZY (dFn 3 UH (Zc (Zh dIx (Ze 1) (Zh Y0 (Ze 0) (Zf (.int 2)))) (Zc (Zh dIx (Ze 1) (Zh Y0 (Ze 0) (Zf (.int 1)))) (Zc (Zh dIx (Ze 1) (Ze 0)) Zm)))) (Qs 0 ps.length) (.no::[.val (.tup (ps.map pD))])=some ((VW ps).map .int):=by
    rw [Zmm]; exact cl
  simp -implicitDefEqProofs [Z1,Zp,Jn,r,l,JE,e]
theorem Zlg {ps:List Pt} (hps:All Sm ps) (h2:2<=ps.length):Yl [.tup (ps.map pD)]=some (.bl (decide (0 < ZG (cyc ps (-1)) (cyc ps 0) (cyc ps 1)))):=by
  have hne:ps≠[]:=fun z=>by rw [z] at h2; simp at h2
  have i1:=Jd (ps:=ps) (i:=-1) (by omega) (by omega)
  have i2:=Jd (ps:=ps) (i:=0) (by omega) (by omega)
  have i3:=Jd (ps:=ps) (i:=1) (by omega) (by omega)
  have t:=Jg (hps _ (YB hne (-1))) (hps _ (YB hne 0)) (hps _ (YB hne 1))
  simp -implicitDefEqProofs [Yl,Zp,JI,i1,i2,i3,t]
theorem neP (p q:Pt):ZbB (pD p) (pD q)=some (.bl (!decide (p=q))):=by
  show (if (okD (pD p)&&okD (pD q))=true then some (D.bl (!deq (pD p) (pD q))) else none)=_
  rw [(V0 p).1,(V0 q).1,if_pos (by decide),Zct]
theorem eqP (p q:Pt):U8 (pD p) (pD q)=some (.bl (decide (p=q))):=by
  show (if (okD (pD p)&&okD (pD q))=true then some (D.bl (deq (pD p) (pD q))) else none)=_
  rw [(V0 p).1,(V0 q).1,if_pos (by decide),Zct]
theorem ZcY (c:Sl):∀ (ds:List D) (s1:Sl),(ds.all spB=false->QY (ZV 1) (Yh (Qa (Zo (dFn 1 Yk (Zc (Ze 1) Zm)))) (ZW (Zf (.bl false))) ZB) ds [c,s1]=some (.rt (.bl false))) /\
    (ds.all spB=true->∃ t1,QY (ZV 1) (Yh (Qa (Zo (dFn 1 Yk (Zc (Ze 1) Zm)))) (ZW (Zf (.bl false))) ZB) ds [c,s1]=some (.nx [c,t1]))
  | [],s1=>⟨fun z=>by simp at z,fun _=>⟨s1,rfl⟩⟩
  | d::ds,s1=>by
    have ih:=ZcY c ds (.val d)
    have e:(Yh (Qa (Zo (dFn 1 Yk (Zc (Ze 1) Zm)))) (ZW (Zf (.bl false))) ZB) [c,.val d]=if spB d=true then some (.nx [c,.val d]) else some (.rt (.bl false)):=by
      simp -implicitDefEqProofs [Zgq]
      cases spB d <;> simp -implicitDefEqProofs
    have st:QY (ZV 1) (Yh (Qa (Zo (dFn 1 Yk (Zc (Ze 1) Zm)))) (ZW (Zf (.bl false))) ZB) (d::ds) [c,s1]=(match (if spB d=true then some (Out.nx [c,.val d]) else some (Out.rt (.bl false))) with
      | some (.nx ρ2)=>QY (ZV 1) (Yh (Qa (Zo (dFn 1 Yk (Zc (Ze 1) Zm)))) (ZW (Zf (.bl false))) ZB) ds ρ2
      | some (.ct ρ2)=>QY (ZV 1) (Yh (Qa (Zo (dFn 1 Yk (Zc (Ze 1) Zm)))) (ZW (Zf (.bl false))) ZB) ds ρ2
      | some (.bk ρ2)=>some (.nx ρ2)
      | r=>r):=by
      rw [QY,<-e]
      rfl
    rw [st]
    cases h:spB d
    · exact ⟨fun _=>rfl,fun z=>by simp [h] at z⟩
    · refine ⟨fun z=>ih.1 (by simpa [h] using z),fun z=>ih.2 (by simpa [h] using z)⟩
theorem Zfd {ds:List D} (h:ds.all spB=false):ZC [.tup ds]=some (.bl false):=by
  have e:=(ZcY (.val (.tup ds)) ds .no).1 h
  unfold ZC Zp Y5
  show (Zr _ _ [.val (.tup ds),.no]).bind _=_
  have it:QU (Ze 0) [.val (.tup ds),.no]=some ds:=rfl
  rw [Zx,UJ,it,Option.bind_some,e]
  rfl
theorem Zf7:∀ (ks:List (List Int)),(U7 ks).length<=ks.length
  | []=>Nat.le_refl _
  | k::ks=>by
    have:=Zf7 ks
    unfold U7
    split
    · rw [List.length_cons]; omega
    · rw [List.length_cons,List.length_cons]; omega
theorem Zk6 (ks:List (List Int)):(U7 ks).length=ks.length ↔ ks.Nodup:=by
  have h1:=Ziw ks
  have h2:(U7 ks).length<=ks.length:=by
    by_cases z:ks.Nodup
    · by_cases q:ks.length < (U7 ks).length
      · exact absurd q (Nat.not_lt.mpr (Zf7 ks))
      · omega
    · exact Nat.le_of_lt (h1.mpr z)
  constructor
  · intro e
    by_cases z:ks.Nodup
    · exact z
    · have:=h1.mpr z; omega
  · intro z
    by_cases q:(U7 ks).length < ks.length
    · exact absurd z (h1.mp q)
    · omega
theorem Zhj {ps:List Pt} (hps:All (Rg 100) ps) (hl:ps.length<=70):ZC [.tup (ps.map pD)]=some (.bl (decide ps.Nodup)):=by
  have ha:(ps.map pD).all spB=true:=by
    rw [List.all_eq_true]
    intro d hd
    obtain ⟨p,hp,rfl⟩:=List.mem_map.mp hd
    exact Zio (hps p hp)
  obtain ⟨t1,e⟩:=(ZcY (.val (.tup (ps.map pD))) (ps.map pD) .no).2 ha
  unfold ZC Zp Y5
  show (Zr _ _ [.val (.tup (ps.map pD)),.no]).bind _=_
  have it:QU (Ze 0) [.val (.tup (ps.map pD)),.no]=some (ps.map pD):=rfl
  have ls:=Zd0 (c:=.tup (ps.map pD)) (ps:=ps) rfl hl
  have nb:(((U7 (ps.map Zd2)).length:Int)=((ps.length:Nat):Int)) ↔ ps.Nodup:=by
    rw [<-Ve,<-Zk6,List.length_map]; omega
  rw [Zx,UJ,it,Option.bind_some,e]
  simp -implicitDefEqProofs [ls,nb]
noncomputable def Wp (n:Nat):Bool:=decide (3<=n)&&decide (n<=12)
theorem Zh8 {d:D} (h:∀ ds,d≠.tup ds):ZA [d]=some (.bl false):=by
  cases d with
  | tup ds=>exact absurd rfl (h ds)
  | _=>rfl
theorem Zad (ds:List D):ZA [.tup ds]=if Wp ds.length=true then ZC [.tup ds] else some (.bl false):=by
  have i1:Vr .tuple (.tup ds)=some (.bl true):=rfl
  unfold Wp
  by_cases h1:3<=ds.length
  · have h1':(3:Int)<=ds.length:=by omega
    by_cases h2:ds.length<=12
    · have h2':(ds.length:Int)<=12:=by omega
      simp -implicitDefEqProofs [ZA,Zp,Yr,i1,h1,h2,h1',h2']
      cases ZC [.tup ds] <;> rfl
    · have h2':¬ (ds.length:Int)<=12:=by omega
      simp -implicitDefEqProofs [ZA,Zp,Yr,i1,h1,h2,h1',h2']
  · have h1':¬ (3:Int)<=ds.length:=by omega
    simp -implicitDefEqProofs [ZA,Zp,Yr,i1,h1,h1']
noncomputable def dp (d:D):Nat:=(JG d).depth
noncomputable def Lay (n:Nat) (d:D):Prop:=(JG d).canLay0=true/\dp d<=n
theorem Zjx {n:Nat} {d:D} (h:Lay n d) (hn:n<=30):okD d=true:=by
  unfold okD
  rw [h.1,Bool.true_and]
  have:=h.2
  unfold dp at this
  exact decide_eq_true (by omega)
theorem Zmr {n:Nat}:∀ {ds:List D},(∀ e∈ds,Lay n e) ↔ (PyData.canLayAll0 (Qx ds)=true/\PyData.depthAll (Qx ds)<=n)
  | []=>by simp [Qx,PyData.depthAll,PyData.canLayAll0]
  | d::ds=>by
    have ih:=Zmr (n:=n) (ds:=ds)
    simp only [List.mem_cons,forall_eq_or_imp,Qx,PyData.depthAll,PyData.canLayAll0,Bool.and_eq_true,ih]
    unfold Lay dp
    constructor
    · rintro ⟨⟨a,b⟩,c,e⟩; exact ⟨⟨a,c⟩,by omega⟩
    · rintro ⟨⟨a,c⟩,e⟩; exact ⟨⟨a,by omega⟩,c,by omega⟩
theorem lay_tup {n:Nat} {ds:List D}:Lay (n+1) (.tup ds) ↔ ∀ e∈ds,Lay n e:=by
  rw [Zmr]
  unfold Lay dp
  simp only [JG,PyData.depth,PyData.canLay0]
  constructor
  · rintro ⟨a,b⟩; exact ⟨a,by omega⟩
  · rintro ⟨a,b⟩; exact ⟨a,by omega⟩
theorem lay_lst {n:Nat} {ds:List D}:Lay (n+1) (.lst ds) ↔ ∀ e∈ds,Lay n e:=by
  rw [Zmr]
  unfold Lay dp
  simp only [JG,PyData.depth,PyData.canLay0]
  constructor
  · rintro ⟨a,b⟩; exact ⟨a,by omega⟩
  · rintro ⟨a,b⟩; exact ⟨a,by omega⟩
theorem Zk8 {xs:List D} (h:Lay 30 (.lst xs)):ZbB (.lst xs) (.lst [])=some (.bl (!xs.isEmpty)):=by
  show (if (okD (.lst xs)&&okD (.lst []))=true then some (D.bl (!deq (.lst xs) (.lst []))) else none)=_
  rw [Zjx h (Nat.le_refl _),if_pos (by rfl)]
  cases xs with
  | nil=>rfl
  | cons x xs=>
    have:deq (.lst (x::xs)) (.lst [])=false:=by
      show PyData.eqv (.list (JG x::Qx xs)) (.list [])=false
      simp [PyData.eqv,PyData.eqvAll]
    rw [this]; rfl
noncomputable def Zkh:D->Pt
  | .tup [.int x,.int y]=>(x,y)
  | _=>(0,0)
theorem ZdH (ps:List Pt):(ps.map pD).map Zkh=ps:=by
  rw [List.map_map]
  have:(Zkh ∘ pD)=id:=by funext p; rfl
  rw [this,List.map_id]
noncomputable def UX (ps:List Pt):Bool:=QL ps&&decide (0 < ZaA ps)&&decide (cyc ps 0=ZcU ps)
noncomputable def Zax:D->Bool
  | .tup ds=>Wp ds.length&&ds.all spB&&UX (ds.map Zkh)
  | _=>false
theorem Zgy {ps:List Pt} (h3:3<=ps.length) (hg:QL ps=true) (hm:cyc ps 0=ZcU ps):0 < ZaA ps ↔ 0 < ZG (cyc ps (-1)) (cyc ps 0) (cyc ps 1):=by
  have hne:ps≠[]:=fun z=>by rw [z] at h3; simp at h3
  have hd:ps.Nodup:=by
    unfold QL at hg
    simp only [Bool.and_eq_true,decide_eq_true_eq] at hg
    exact hg.1.1
  have G:=ZjR h3 hg 0
  have q:=Pg.area_turn G fun i h0 hi=>by
    show Pg.lexlt (cyc ps (((0:Nat):Int)+0)) (cyc ps ((i:Int)+0))
    rw [Int.add_zero,Int.add_zero]
    refine Zlf (a:=cyc ps (i:Int)) (b:=cyc ps ((0:Nat):Int)) ?_ fun z=>?_
    · show ¬ Pg.lexlt (cyc ps (i:Int)) (cyc ps 0)
      rw [hm]; exact ZjE hne _ (YB hne _)
    · have:=VS hd hne z
      rw [Int.emod_eq_of_lt (by omega) (by omega),Int.emod_eq_of_lt (by omega) (by omega)] at this
      omega
  have ea:Pg.area ps.length (rp ps 0)=ZaA ps:=Zj2 0
  rw [ea] at q
  rw [q]
  have e1:rp ps 0 (ps.length-1)=cyc ps (-1):=by
    show cyc ps (((ps.length-1:Nat):Int)+0)=_
    rw [<-Qg ps (-1)]; congr 1; omega
  rw [e1]
  exact Iff.rfl
theorem lenOk_iff {n:Nat}:Wp n=true ↔ 3<=n/\n<=12:=by unfold Wp; simp
theorem Zdz {ds:List D} (h:ds.all spB=true):∃ ps:List Pt,ds=ps.map pD/\All (Rg 100) ps:=Zfp (List.all_eq_true.mp h)
theorem Zd4 {ps:List Pt} (h1:Wp ps.length=true) (h2:All (Rg 100) ps):Zax (.tup (ps.map pD))=UX ps:=by
  have:(ps.map pD).all spB=true:=List.all_eq_true.mpr fun d hd=>by obtain ⟨p,hp,rfl⟩:=List.mem_map.mp hd; exact Zio (h2 p hp)
  show (Wp (ps.map pD).length&&(ps.map pD).all spB&&UX ((ps.map pD).map Zkh))=_
  rw [List.length_map,h1,this,ZdH]; rfl
theorem ZhA {ps:List Pt} (h1:Wp ps.length=true) (h2:All (Rg 100) ps):Z3 [.tup (ps.map pD)]=some (.bl (UX ps)):=by
  obtain ⟨h3,h12⟩:=lenOk_iff.mp h1
  have hps:All Sm ps:=fun p hp=>Zht (h2 p hp)
  have hne:ps≠[]:=fun z=>by rw [z] at h3; simp at h3
  have cb:ZA [.tup (ps.map pD)]=some (.bl (decide ps.Nodup)):=by
    rw [Zad,List.length_map,if_pos h1]; exact Zhj h2 (by omega)
  have i0:=Jd (ps:=ps) (i:=0) (by omega) (by omega)
  have mn:=Zgd (ps:=ps) hne (c:=.tup (ps.map pD)) rfl
  have ta:=ZdG hps (by omega) (by omega)
  have inn:=Zgt 0 (VW ps)
  have lf:=Zlg hps (by omega)
  have ap:=@Zj4 ps (by omega) hps (Classical.propDecidable _)
  by_cases hd:ps.Nodup
  · by_cases hm:cyc ps 0=ZcU ps
    · by_cases ht:0∈VW ps
      · have:UX ps=false:=by
          have:0∈Qk ps:=(Uk hne 0).mp ht
          unfold UX QL; simp [this]
        rw [this]
        simp -implicitDefEqProofs [Z3,Zp,Qo,cb,i0,mn,neP,hd,hm,ta,inn,ht]
      · have ht':¬ 0∈Qk ps:=fun z=>ht ((Uk hne 0).mpr z)
        by_cases hc:∃ j,YJ (YK ps) j=true
        · have hb:=(Zcv h3 hd).mp hc
          have:UX ps=false:=by unfold UX QL; simp [hb]
          rw [this]
          simp only [hc,decide_true,Bool.not_true] at ap
          simp -implicitDefEqProofs [Z3,Zp,Qo,cb,i0,mn,neP,hd,hm,ta,inn,ht,lf,ap]
          cases decide (0 < ZG (cyc ps (-1)) (ZcU ps) (cyc ps 1)) <;> rfl
        · have hb:badAny ps=false:=by
            cases q:badAny ps with
            | false=>rfl
            | true=>exact absurd ((Zcv h3 hd).mpr q) hc
          have hg:QL ps=true:=by unfold QL; simp [hd,ht',hb]
          have gl:=Zgy h3 hg hm
          have:UX ps=decide (0 < ZG (cyc ps (-1)) (cyc ps 0) (cyc ps 1)):=by
            unfold UX
            rw [hg,decide_eq_true hm,Bool.true_and,Bool.and_true]
            exact decide_eq_decide.mpr gl
          rw [this]
          simp only [hc,decide_false,Bool.not_false] at ap
          by_cases hlt:0 < ZG (cyc ps (-1)) (cyc ps 0) (cyc ps 1)
          · simp -implicitDefEqProofs [Z3,Zp,Qo,cb,i0,mn,neP,hd,<-hm,ta,inn,ht,lf,ap,hlt]
          · simp -implicitDefEqProofs [Z3,Zp,Qo,cb,i0,mn,neP,hd,<-hm,ta,inn,ht,lf,ap,hlt]
    · have:UX ps=false:=by unfold UX; simp [hm]
      rw [this]
      simp -implicitDefEqProofs [Z3,Zp,Qo,cb,i0,mn,neP,hd,hm]
  · have:UX ps=false:=by unfold UX QL; simp [hd]
    rw [this]
    simp -implicitDefEqProofs [Z3,Zp,Qo,cb,hd]
theorem Zcj (d:D):Z3 [d]=some (.bl (Zax d)):=by
  have no:∀ d:D,ZA [d]=some (.bl false)->Z3 [d]=some (.bl false):=fun d e=>by
    simp -implicitDefEqProofs [Z3,Zp,Qo,e]
  cases d with
  | tup ds=>
    by_cases h1:Wp ds.length=true
    · cases h2:ds.all spB
      · rw [no _ (by rw [Zad,if_pos h1]; exact Zfd h2)]
        simp [Zax,h2]
      · obtain ⟨ps,rfl,hr⟩:=Zdz h2
        rw [List.length_map] at h1
        rw [ZhA h1 hr,Zd4 h1 hr]
    · rw [no _ (by rw [Zad,if_neg h1])]
      have:Wp ds.length=false:=by simpa using h1
      simp [Zax,this]
  | _=>exact no _ (Zh8 (by intro ds z; cases z))
theorem Zlc:∀ (ds:List D) (s0:Sl),YN (ZV 0) (Qa (Zo (dFn 1 Yc (Zc (Ze 0) Zm)))) (Ze 0) ds (s0::[])=some (ds.filter fun d=>!spB d)
  | [],_=>rfl
  | d::ds,s0=>by
    have ih:=Zlc ds (.val d)
    cases h:spB d
    · simp -implicitDefEqProofs [YN,ZaL,h,ih]
    · simp -implicitDefEqProofs [YN,ZaL,h,ih]
theorem ZeD {d:D} (hdp:Lay 30 d):ZT [d]=some (.bl (Zax d)):=by
  cases d with
  | tup ds=>
    have i1:Vr .tuple (.tup ds)=some (.bl true):=rfl
    by_cases h1:Wp ds.length=true
    · obtain ⟨h3,h12⟩:=lenOk_iff.mp h1
      have h3':(3:Int)<=ds.length:=by omega
      have h12':(ds.length:Int)<=12:=by omega
      have cl:=Zlc ds .no
      have hl:ds.length<=lim:=Z6 (by omega)
      have nn:ZbB (.lst (ds.filter fun d=>!spB d)) (.lst [])=some (.bl (!(ds.filter fun d=>!spB d).isEmpty)):=Zk8 (by
        have:Lay (29+1) (.tup ds):=hdp
        exact lay_lst.mpr fun e he=>lay_tup.mp this e (List.mem_filter.mp he).1)
      cases h2:ds.all spB
      · have:(ds.filter fun d=>!spB d).isEmpty=false:=by
          cases q:(ds.filter fun d=>!spB d).isEmpty with
          | false=>rfl
          | true=>
            rw [List.isEmpty_iff,List.filter_eq_nil_iff] at q
            have:ds.all spB=true:=List.all_eq_true.mpr fun e he=>by simpa using q e he
            rw [this] at h2; cases h2
        rw [this] at nn
        have z:Zax (.tup ds)=false:=by simp [Zax,h2]
        rw [z]
        simp -implicitDefEqProofs [ZT,Zp,YM,i1,h3',h12',JE,cl,hl,nn]
      · have:(ds.filter fun d=>!spB d).isEmpty=true:=by
          rw [List.isEmpty_iff,List.filter_eq_nil_iff]
          intro e he
          simpa using List.all_eq_true.mp h2 e he
        rw [this] at nn
        obtain ⟨ps,rfl,hr⟩:=Zdz h2
        rw [List.length_map] at h1 h3' h12' h3 h12 hl
        rw [Zd4 h1 hr]
        have hps:All Sm ps:=fun p hp=>Zht (hr p hp)
        have hne:ps≠[]:=fun z=>by rw [z] at h3; simp at h3
        have gd:=Zd7 (c:=.tup (ps.map pD)) (ps:=ps) rfl hne hps (by omega)
        have ar:=Zd8 (c:=.tup (ps.map pD)) (ps:=ps) rfl hne hps
        have i0:=Jd (ps:=ps) (i:=0) (by omega) (by omega)
        have mn:=Zgd (ps:=ps) hne (c:=.tup (ps.map pD)) rfl
        unfold UX
        simp -implicitDefEqProofs [ZT,Zp,YM,i1,h3',h12',JE,cl,hl,nn,gd,ar,i0,mn,eqP]
        cases QL ps
        · simp -implicitDefEqProofs
        · by_cases h0:0 < ZaA ps
          · simp -implicitDefEqProofs [h0]
          · simp -implicitDefEqProofs [h0]
    · have z:Wp ds.length=false:=by simpa using h1
      have z2:Zax (.tup ds)=false:=by simp [Zax,z]
      rw [z2]
      have:¬ (3<=ds.length/\ds.length<=12):=fun q=>h1 (lenOk_iff.mpr q)
      by_cases h3:(3:Int)<=ds.length
      · have h12:¬ (ds.length:Int)<=12:=by omega
        simp -implicitDefEqProofs [ZT,Zp,YM,i1,h3,h12]
      · simp -implicitDefEqProofs [ZT,Zp,YM,i1,h3]
  | _=>rfl
noncomputable def Zkz:D->Bool
  | .tup ds=>decide (∀ x∈Qk (ds.map Zkh),0 < x)
  | _=>false
theorem ZfJ (ps:List Pt):Zkz (.tup (ps.map pD))=decide (∀ x∈Qk ps,0 < x):=by
  simp only [Zkz,ZdH]
theorem Zgr {d:D} (h:Zax d=true):∃ ps:List Pt,d=.tup (ps.map pD)/\All (Rg 100) ps/\3<=ps.length/\ps.length<=12:=by
  unfold Zax at h
  split at h
  · rename_i ds
    rw [Bool.and_eq_true,Bool.and_eq_true] at h
    obtain ⟨⟨h1,h2⟩,_⟩:=h
    obtain ⟨ps,rfl,hr⟩:=Zdz h2
    rw [List.length_map] at h1
    exact ⟨ps,rfl,hr,lenOk_iff.mp h1⟩
  · cases h
theorem Zga {ns:List Int} {m:Int} (h1:m∈ns) (h2:∀ x∈ns,m<=x):0 < m ↔ ∀ x∈ns,0 < x:=⟨fun h x hx=>by have:=h2 x hx; omega,fun h=>h m h1⟩
theorem Zja (d:D):Qe [d]=some (.bl (Zax d&&Zkz d)):=by
  have ip:=Zcj d
  cases h:Zax d
  · rw [h] at ip
    simp -implicitDefEqProofs [Qe,Zp,VP,ip]
  · rw [h] at ip
    obtain ⟨ps,rfl,hr,h3,h12⟩:=Zgr h
    have hps:All Sm ps:=fun p hp=>Zht (hr p hp)
    have hne:ps≠[]:=fun z=>by rw [z] at h3; simp at h3
    have ta:=ZdG hps (by omega) (by omega)
    have tne:VW ps≠[]:=by
      intro z
      have:=congrArg List.length z
      simp [VW] at this
      exact hne this
    obtain ⟨m,e,m1,m2⟩:=Zce tne
    have mp:=Zga m1 m2
    have q:Zkz (.tup (ps.map pD))=decide (0 < m):=by
      rw [ZfJ]
      exact decide_eq_decide.mpr (Iff.symm (mp.trans ⟨fun h x hx=>h x ((Uk hne x).mpr hx),fun h x hx=>h x ((Uk hne x).mp hx)⟩))
    simp -implicitDefEqProofs [Qe,Zp,VP,ip,ta,e,q]
theorem ZmB (d:D):Zax d=true->∃ m,(ZZ [d]).bind (fun x=>Vq [x])=some (.int m)/\Zkz d=decide (0 < m):=fun h=>by
  obtain ⟨ps,rfl,hr,h3,h12⟩:=Zgr h
  have hps:All Sm ps:=fun p hp=>Zht (hr p hp)
  have hne:ps≠[]:=fun z=>by rw [z] at h3; simp at h3
  have ta:=Zcp (c:=.tup (ps.map pD)) (ps:=ps) rfl hne hps (by omega)
  have tne:Qk ps≠[]:=by
    intro z
    have:=congrArg List.length z
    simp [Qk] at this
    exact hne this
  obtain ⟨m,e,m1,m2⟩:=Zce tne
  refine ⟨m,by rw [ta]; exact e,?_⟩
  rw [ZfJ]
  exact decide_eq_decide.mpr (Zga m1 m2).symm
theorem ZfE (a b:Bool):Yx [.bl a,.bl b]=some (.bl (a==b)):=by
  have i1:Vr .bool (.bl a)=some (.bl true):=rfl
  simp -implicitDefEqProofs [Yx,Zp,W0,i1]
noncomputable def lcT:DT:=(ZbU 1 (Y1 (Zo (Zh dGt (ZN UI (Zc (Ze 1) Zm)) (Zf (.int 1)))) (Zo (Zh dLe (dFn 3 ZJ (Zc (Zh dIx (Ze 1) (YO JB (Zf (.int 2)))) (Zc (Zh dIx (Ze 1) (YO JB (Zf (.int 1)))) (Zc (Ze 2) Zm)))) (Zf (.int 0))))))
theorem Zlh (c:Sl) (ds:List D) (s:Pt) (h:ds.length<=1):lcT [c,.own ds,.val (pD s)]=some false:=by
  unfold lcT ZbU
  rw [ZmX]
  have h':¬ (1 < (ds.length:Int)):=by omega
  have d:Zo (Zh dGt (ZN UI (Zc (Ze 1) Zm)) (Zf (.int 1))) [c,.val (.lst ds),.val (pD s)]=some false:=by
    simp -implicitDefEqProofs [Zgk]; omega
  rw [Zfj,d]; rfl
theorem Zmq (c:Sl) {a b s:Pt} {r:List Pt} (ha:Sm a) (hb:Sm b) (hs:Sm s):lcT [c,.own (((b::a::r).reverse).map pD),.val (pD s)]=some (!decide (0 < ZG a b s)):=by
  have hne:(b::a::r)≠[]:=by simp
  have i1:dIx (.lst (((b::a::r).reverse).map pD)) (.int (-1))=some (pD b):=by
    rw [Zdm (by simp; omega) (by simp; omega),ZgN hne]
    have:cyc (b::a::r) (-1 - -1)=b:=Y7 (ps:=b::a::r) (k:=0) (by simp)
    rw [this]
  have i2:dIx (.lst (((b::a::r).reverse).map pD)) (.int (-2))=some (pD a):=by
    rw [Zdm (by simp; omega) (by simp; omega),ZgN hne]
    have:cyc (b::a::r) (-1 - -2)=a:=Y7 (ps:=b::a::r) (k:=1) (by simp)
    rw [this]
  have t:=Z8 ha hb hs
  have l:(1:Int) < ((((b::a::r).reverse).map pD).length:Int):=by simp; omega
  unfold lcT ZbU
  rw [ZmX]
  generalize ((b::a::r).reverse).map pD=ds at i1 i2 l
  have d:Zo (Zh dGt (ZN UI (Zc (Ze 1) Zm)) (Zf (.int 1))) [c,.val (.lst ds),.val (pD s)]=some true:=by
    simp -implicitDefEqProofs [Zgk]; omega
  rw [Zfj,d,Option.bind_some]
  simp -implicitDefEqProofs [i1,i2,t]
  rw [Bool.eq_iff_iff]
  simp
theorem Zb4 (c:Sl) {s:Pt} (hs:Sm s):∀ (w:List Pt) (m:Nat),w.length < m->All Sm w->Yq lcT (Ze7 1) m [c,.own (w.reverse.map pD),.val (pD s)]=some (.nx [c,.own ((Hu.popT w s).reverse.map pD),.val (pD s)])
  | w,0,h,_=>absurd h (Nat.not_lt_zero _)
  | [],m+1,_,_=>by
    unfold Yq
    rw [Zlh _ _ _ (by simp)]; rfl
  | [a],m+1,_,_=>by
    unfold Yq
    rw [Zlh _ _ _ (by simp)]; rfl
  | b::a::r,m+1,h,hw=>by
    have hb:=hw b List.mem_cons_self
    have ha:=hw a (List.mem_cons_of_mem _ List.mem_cons_self)
    have t:=Zmq c (r:=r) ha hb hs
    conv=>lhs; unfold Yq
    rw [t,Option.bind_some]
    by_cases q:0 < ZG a b s
    · have e:Hu.popT (b::a::r) s=b::a::r:=by unfold Hu.popT; rw [if_pos (show 0 < Pg.turn a b s from q)]
      rw [e,decide_eq_true q]; rfl
    · have e:Hu.popT (b::a::r) s=Hu.popT (a::r) s:=by conv=>lhs; unfold Hu.popT; rw [if_neg (show ¬ 0 < Pg.turn a b s from q)]
      have ih:=Zb4 c hs (a::r) m (by simp at h ⊢; omega) fun p hp=>hw p (List.mem_cons_of_mem _ hp)
      rw [e,decide_eq_false q]
      have p:Ze7 1 [c,.own (((b::a::r).reverse).map pD),.val (pD s)]=some (.nx [c,.own (((a::r).reverse).map pD),.val (pD s)]):=by
        unfold Ze7
        have z:((b::a::r).reverse).map pD=((a::r).reverse).map pD++[pD b]:=by simp
        rw [z]
        simp
      show (match Ze7 1 _ with | some (.nx ρ')=>Yq lcT (Ze7 1) m ρ' | some (.ct ρ')=>Yq lcT (Ze7 1) m ρ' | some (.bk ρ')=>some (.nx ρ') | r=>r)=_
      rw [p]
      exact ih
theorem ZbQ (c:Sl):∀ (ys w:List Pt) (s2:Sl),All Sm ys->All Sm w->w.length+ys.length<=1000->∃ t2,
    QY (ZV 2) (Zr (Yq lcT (Ze7 1) 3000) (Zab 1 (Ze 2))) (ys.map pD) [c,.own (w.reverse.map pD),s2]=some (.nx [c,.own ((Hu.stk w ys).reverse.map pD),t2])
  | [],w,s2,_,_,_=>⟨s2,rfl⟩
  | s::ys,w,s2,hy,hw,hl=>by
    have hs:=hy s List.mem_cons_self
    have pl:(Hu.popT w s).length<=w.length/\All Sm (Hu.popT w s):=by
      clear hl
      induction w with
      | nil=>exact ⟨Nat.le_refl _,hw⟩
      | cons b w ih=>
        cases w with
        | nil=>exact ⟨Nat.le_refl _,hw⟩
        | cons a r=>
          obtain ⟨i1,i2⟩:=ih fun p hp=>hw p (List.mem_cons_of_mem _ hp)
          unfold Hu.popT
          split
          · exact ⟨Nat.le_refl _,hw⟩
          · exact ⟨Nat.le_succ_of_le i1,i2⟩
    obtain ⟨t2,ih⟩:=ZbQ c ys (s::Hu.popT w s) (.val (pD s)) (fun p hp=>hy p (List.mem_cons_of_mem _ hp)) (fun p hp=>by
      rcases List.mem_cons.mp hp with q | q
      · rw [q]; exact hs
      · exact pl.2 p q) (by simp at hl ⊢; omega)
    refine ⟨t2,?_⟩
    simp only [List.map_cons,QY,Zg0,List.set_cons_zero,List.set_cons_succ,Option.bind_some]
    rw [Zx,Zb4 c hs w 3000 (by simp at hl; omega) hw]
    have ap:Zab 1 (Ze 2) [c,.own ((Hu.popT w s).reverse.map pD),.val (pD s)]=some (.nx [c,.own (((s::Hu.popT w s).reverse).map pD),.val (pD s)]):=by
      unfold Zab
      have hl':((Hu.popT w s).reverse.map pD).length < lim:=by
        have:((Hu.popT w s).reverse.map pD).length < 2000:=by simp at hl ⊢; omega
        unfold lim; omega
      simp -implicitDefEqProofs
      simpa using hl'
    dsimp only
    rw [ap]
    exact ih
theorem ZfR (s:Pt):∀ (w:List Pt),∀ p∈Hu.popT w s,p∈w
  | []=>fun p hp=>by simp [Hu.popT] at hp
  | [a]=>fun p hp=>by simpa [Hu.popT] using hp
  | b::a::r=>fun p hp=>by
    unfold Hu.popT at hp
    split at hp
    · exact hp
    · exact List.mem_cons_of_mem _ (ZfR s (a::r) p hp)
theorem Zc0:∀ (l w:List Pt),∀ p∈Hu.stk w l,p∈w\/p∈l
  | [],w=>fun p hp=>.inl hp
  | s::l,w=>fun p hp=>by
    rcases Zc0 l (s::Hu.popT w s) p hp with q | q
    · rcases List.mem_cons.mp q with rfl | q
      · exact .inr List.mem_cons_self
      · exact .inl (ZfR s w p q)
    · exact .inr (List.mem_cons_of_mem _ q)
theorem Zcr {ps:List Pt} (hs:All Sm ps) (hl:ps.length<=1000):Z0 [.lst (ps.map pD)]=some (.lst (((Hu.stk [] ps).reverse.dropLast).map pD)):=by
  obtain ⟨t2,e⟩:=ZbQ (.val (.lst (ps.map pD))) ps [] .no hs (fun p hp=>by cases hp) (by simpa using hl)
  unfold Z0 Zp V8
  show (Zr _ (Zr _ _) [.val (.lst (ps.map pD)),.no,.no]).bind _=_
  rw [Zx]
  have e0:Ji 1 Zm [.val (.lst (ps.map pD)),.no,.no]=some (.nx [.val (.lst (ps.map pD)),.own [],.no]):=by
    unfold Ji
    simp -implicitDefEqProofs
  rw [e0]
  show (Zr (Ws (QU (Ze 0)) (ZV 2) (Zr (Yq lcT (Ze7 1) 3000) (Zab 1 (Ze 2)))) _ [.val (.lst (ps.map pD)),.own [],.no]).bind _=_
  have it:QU (Ze 0) [.val (.lst (ps.map pD)),.own [],.no]=some (ps.map pD):=rfl
  rw [Zx,UJ,it,Option.bind_some]
  have e':QY (ZV 2) (Zr (Yq lcT (Ze7 1) 3000) (Zab 1 (Ze 2))) (ps.map pD) [.val (.lst (ps.map pD)),.own [],.no]=_:=e
  rw [e']
  show ((ZiF 1 (ZW (dSl (Ze 1) Qd (Qc (YO JB (Zf (.int 1))))))) [.val (.lst (ps.map pD)),.own ((Hu.stk [] ps).reverse.map pD),t2]).bind _=_
  have r:∀ (L:List Pt) (c t2:Sl),(ZiF 1 (ZW (dSl (Ze 1) Qd (Qc (YO JB (Zf (.int 1))))))) [c,.own (L.map pD),t2]=some (.rt (.lst (L.dropLast.map pD))):=by
    intro L c t2
    show (ZW (dSl (Ze 1) Qd (Qc (YO JB (Zf (.int 1)))))) [c,.val (.lst (L.map pD)),t2]=_
    have:Ze6 none (some (-1)) (.lst (L.map pD))=some (.lst (L.dropLast.map pD)):=by
      show some (D.lst (cutD _ none (some (-1))))=_
      rw [Zh3,List.map_dropLast]
    simp -implicitDefEqProofs [this]
  rw [r]; rfl
noncomputable def TP (d:D):Prop:=∃ ps:List Pt,d=.tup (ps.map pD)/\ps≠[]/\ps.length<=100/\All Sm ps
theorem ZeW {ps:List Pt} (hs:All Sm ps) (hl:ps.length<=45):∃ d,YG [.lst (ps.map pD)]=some d/\(d=.non\/TP d):=by
  obtain ⟨rs,e1,hp,hm⟩:=Zeo ps
  have hrs:All Sm rs:=fun p hp'=>hs p ((hm p).mp hp')
  have hrl:rs.length<=ps.length:=by
    have nd:rs.Nodup:=hp.imp fun {a b} h z=>by subst z; unfold Pg.lexlt at h; omega
    exact Ww nd fun x hx=>(hm x).mp hx
  have ss:=Zfq (ps:=ps) (rs:=rs) (c:=.lst (ps.map pD)) rfl (by omega) e1
  have c1:=Zcr hrs (by omega)
  have hrv:All Sm rs.reverse:=fun p hp'=>hrs p (List.mem_reverse.mp hp')
  have c2:=Zcr hrv (by rw [List.length_reverse]; omega)
  have l1:((Hu.stk [] rs).reverse.dropLast).length<=rs.length:=by
    have:=Zc1 rs []
    rw [List.length_dropLast,List.length_reverse]; simp at this; omega
  have l2:((Hu.stk [] rs.reverse).reverse.dropLast).length<=rs.length:=by
    have:=Zc1 rs.reverse []
    rw [List.length_dropLast,List.length_reverse]; simp at this; omega
  have m1:All Sm ((Hu.stk [] rs).reverse.dropLast):=fun p hp'=>by
    rcases Zc0 rs [] p (List.mem_reverse.mp (List.dropLast_subset _ hp')) with q | q
    · cases q
    · exact hrs p q
  have m2:All Sm ((Hu.stk [] rs.reverse).reverse.dropLast):=fun p hp'=>by
    rcases Zc0 rs.reverse [] p (List.mem_reverse.mp (List.dropLast_subset _ hp')) with q | q
    · cases q
    · exact hrv p q
  generalize (Hu.stk [] rs).reverse.dropLast=A at c1 l1 m1
  generalize (Hu.stk [] rs.reverse).reverse.dropLast=B at c2 l2 m2
  have hrev:Zhi (Ze 1) [.val (.lst (ps.map pD)),.val (.lst (rs.map pD)),.no]=some (.lst (rs.reverse.map pD)):=by
    simp -implicitDefEqProofs
  have ad:ZU (.lst (A.map pD)) (.lst (B.map pD))=some (.lst ((A++B).map pD)):=by
    rw [VV (by simp; omega),List.map_append]
  have s1:Z5 1 (YO Vp (Ze 0)) [.val (.lst (ps.map pD)),.no,.no]=some (.nx [.val (.lst (ps.map pD)),.val (.lst (rs.map pD)),.no]):=by
    simp -implicitDefEqProofs [ss]
  have s2:Z5 2 (Zh ZU (dFn 1 Z0 (Zc (Ze 1) Zm)) (dFn 1 Z0 (Zc (Zhi (Ze 1)) Zm))) [.val (.lst (ps.map pD)),.val (.lst (rs.map pD)),.no]=some (.nx [.val (.lst (ps.map pD)),.val (.lst (rs.map pD)),.val (.lst ((A++B).map pD))]):=by
    rw [W9,V9,ZjW,ZjW,ZbC,ZbC,hrev]
    show (Option.bind (Z0 [.lst (rs.map pD)]) _).map _=_
    rw [c1,Option.bind_some]
    show (Option.bind (Z0 [.lst (rs.reverse.map pD)]) _).map _=_
    rw [c2,Option.bind_some,ad]
    rfl
  unfold YG Zp Vk
  show ∃ d,(Zr _ (Zr _ _) [.val (.lst (ps.map pD)),.no,.no]).bind _=some d/\_
  rw [Zx,s1]
  show ∃ d,(Zr _ (Zr _ _) [.val (.lst (ps.map pD)),.val (.lst (rs.map pD)),.no]).bind _=some d/\_
  rw [Zx,s2]
  show ∃ d,(Zr _ _ [.val (.lst (ps.map pD)),.val (.lst (rs.map pD)),.val (.lst ((A++B).map pD))]).bind _=some d/\_
  generalize hAB:A++B=C at *
  have lC:C.length<=90:=by rw [<-hAB,List.length_append]; omega
  have mC:All Sm C:=fun p hp'=>by
    rw [<-hAB] at hp'
    rcases List.mem_append.mp hp' with q | q
    · exact m1 p q
    · exact m2 p q
  by_cases h3:(C.length:Int) < 3
  · refine ⟨.non,?_,.inl rfl⟩
    simp -implicitDefEqProofs [h3]
  · have hne:C≠[]:=fun z=>by rw [z] at h3; simp at h3
    have ord:=W6 (c:=.lst (C.map pD)) (ps:=C) rfl hne mC (by omega)
    refine ⟨.tup ((V1 C).map pD),?_,.inr ⟨_,rfl,?_,?_,?_⟩⟩
    · simp -implicitDefEqProofs [h3,ord]
    · intro z
      have:=(YU C).length_eq
      rw [z] at this
      exact hne (List.eq_nil_of_length_eq_zero this.symm)
    · rw [(YU C).length_eq]; omega
    · exact fun p hp'=>mC p ((YU C).mem_iff.mp hp')
theorem ZfI {n:Int} (hn:0<=n):∃ d,YZ [.int n,.int 9]=some d/\TP d:=by
  have m6:Ya (.int n) (.int 6)=some (.int (n % 6)):=YS (by decide)
  have m3:Ya (.int n) (.int 3)=some (.int (n % 3)):=YS (by decide)
  have r6:0<=n % 6/\n % 6 < 6:=⟨Int.emod_nonneg _ (by omega),Int.emod_lt_of_pos _ (by omega)⟩
  have r3:0<=n % 3/\n % 3 < 3:=⟨Int.emod_nonneg _ (by omega),Int.emod_lt_of_pos _ (by omega)⟩
  obtain ⟨k,hk⟩:∃ k:Nat,(k:Int)=3+n % 6:=⟨(3+n % 6).toNat,by omega⟩
  have sp:=W5 (n:=n) (wide:=9) (by decide) (many:=k) (by omega)
  have sm:All Sm (Yj n 9 k):=fun p hp=>by
    obtain ⟨⟨a,b⟩,c,d⟩:=VA (n:=n) (wide:=9) (by decide) p hp
    exact ⟨⟨by omega,by omega⟩,by omega,by omega⟩
  obtain ⟨d,ea,hd⟩:=ZeW sm (by rw [Ul]; omega)
  rw [hk] at sp
  have s1:Z5 2 (dFn 1 YG (Zc (dFn 3 ZM (Zc (Ze 0) (Zc (Ze 1) (Zc (Zh ZU (Zf (.int 3)) (Zh Ya (Ze 0) (Zf (.int 6)))) Zm)))) Zm)) [.val (.int n),.val (.int 9),.no]=some (.nx [.val (.int n),.val (.int 9),.val d]):=by
    simp -implicitDefEqProofs [m6,sp]
    exact ea
  unfold YZ Zp V5
  show ∃ d,(Zr _ (Zr _ _) [.val (.int n),.val (.int 9),.no]).bind _=some d/\_
  rw [Zx,s1]
  show ∃ d',(Zr _ _ [.val (.int n),.val (.int 9),.val d]).bind _=some d'/\_
  rcases hd with rfl | hd
  · refine ⟨.tup ([((0:Int),(0:Int)),(1,0),(0,1+n % 3)].map pD),?_,_,rfl,by simp,by simp,?_⟩
    · have i1:ZlQ .non=some (.bl true):=rfl
      simp -implicitDefEqProofs [i1,m3,pD,lim]
    · intro p hp
      simp only [List.mem_cons,List.not_mem_nil,or_false] at hp
      rcases hp with rfl | rfl | rfl
      · exact ⟨⟨by decide,by decide⟩,by decide,by decide⟩
      · exact ⟨⟨by decide,by decide⟩,by decide,by decide⟩
      · exact ⟨⟨by show (-1000000:Int)<=0; decide,by show (0:Int)<=1000000; decide⟩,by show -1000000<=1+n % 3; omega,by show 1+n % 3<=1000000; omega⟩
  · refine ⟨d,?_,hd⟩
    obtain ⟨ps,rfl,_⟩:=hd
    have i1:ZlQ (.tup (ps.map pD))=some (.bl false):=rfl
    simp -implicitDefEqProofs [i1]
theorem ZmM {f:DE} {a b c d e:Sl} {ds:List D} {x:D} (h:f [a,b,c,.own ds,d,e]=some x) (hl:ds.length < 1000):Zab 3 f [a,b,c,.own ds,d,e]=some (.nx [a,b,c,.own (ds++[x]),d,e]):=by
  have hl':ds.length < lim:=by unfold lim; omega
  unfold Zab
  rw [h]
  simp -implicitDefEqProofs [hl']
noncomputable def mc1:DS:=(Yh (Y1 (Zo (Zh U8 (Ze 4) (Zf (.int 1)))) (Zo (Zh dGt (Zh Ya (Ze 0) (Zf (.int 3))) (Zf (.int 0))))) (Zab 3 (Z9 (Zc (Zh ZU (Zh dIx (Ze 2) (Zf (.int 0))) (Zf (.int 2))) (Zc (Zh ZU (Zh dIx (Ze 2) (Zf (.int 1))) (Zf (.int 2))) Zm)))) ZB)
noncomputable def mc2:DS:=(Yh (Y1 (Zo (Zh U8 (Ze 4) (Zf (.int 7)))) (Zo (Zh dGt (Zh Ya (Ze 0) (Zf (.int 3))) (Zf (.int 1))))) (Zab 3 (Z9 (Zc (Zh Y0 (Zh dIx (Ze 2) (Zf (.int 0))) (Zf (.int 2))) (Zc (Zh Y0 (Zh dIx (Ze 2) (Zf (.int 1))) (Zf (.int 2))) Zm)))) ZB)
noncomputable def mc3:DS:=(Z5 2 (Z9 (Zc (Zh ZU (Zh dIx (Ze 2) (Zf (.int 0))) (Zh dIx (Ze 5) (Zf (.int 0)))) (Zc (Zh ZU (Zh dIx (Ze 2) (Zf (.int 1))) (Zh dIx (Ze 5) (Zf (.int 1)))) Zm))))
noncomputable def mcB:DS:=(Zr (Zab 3 (Ze 2)) (Zr mc1 (Zr mc2 mc3)))
noncomputable def Zn7 (p x:Pt):Prop:=(p.1-2<=x.1/\x.1<=p.1+2)/\(p.2-2<=x.2/\x.2<=p.2+2)
theorem JM:(2:Nat)<=lim:=Z6 (by decide)
theorem ZjF {n k:Int} {p q:Pt} {acc:List Pt} (hl:acc.length < 900) (st:Sl):∃ acc':List Pt,mcB [.val (.int n),st,.val (pD p),.own (acc.map pD),.val (.int k),.val (pD q)]=some (.nx [.val (.int n),st,.val (pD (p.1+q.1,p.2+q.2)),.own (acc'.map pD),.val (.int k),.val (pD q)]) /\
    acc'.length<=acc.length+3/\(∀ x∈acc',x∈acc\/Zn7 p x)/\acc'≠[]:=by
  have m3:Ya (.int n) (.int 3)=some (.int (n % 3)):=YS (by decide)
  have a1:Zab 3 (Ze 2) [.val (.int n),st,.val (pD p),.own (acc.map pD),.val (.int k),.val (pD q)]=some (.nx [.val (.int n),st,.val (pD p),.own ((acc++[p]).map pD),.val (.int k),.val (pD q)]):=by
    rw [ZmM (x:=pD p) rfl (by simp; omega)]; simp
  have e1:∀ (bs:List Pt),bs.length < 990->∃ b,mc1 [.val (.int n),st,.val (pD p),.own (bs.map pD),.val (.int k),.val (pD q)]=some (.nx [.val (.int n),st,.val (pD p),.own ((bs++b).map pD),.val (.int k),.val (pD q)])/\(b=[]\/b=[(p.1+2,p.2+2)]):=by
    intro bs hb
    have ap:=ZmM (f:=Z9 (Zc (Zh ZU (Zh dIx (Ze 2) (Zf (.int 0))) (Zf (.int 2))) (Zc (Zh ZU (Zh dIx (Ze 2) (Zf (.int 1))) (Zf (.int 2))) Zm))) (a:=.val (.int n)) (b:=st) (c:=.val (pD p)) (d:=.val (.int k)) (e:=.val (pD q)) (ds:=bs.map pD) (x:=pD (p.1+2,p.2+2)) (by simp -implicitDefEqProofs [JM]; rfl) (by simp; omega)
    unfold mc1
    by_cases h1:k=1
    · by_cases h2:0 < n % 3
      · refine ⟨[(p.1+2,p.2+2)],?_,.inr rfl⟩
        rw [QO]
        have t:(Y1 (Zo (Zh U8 (Ze 4) (Zf (.int 1)))) (Zo (Zh dGt (Zh Ya (Ze 0) (Zf (.int 3))) (Zf (.int 0))))) [.val (.int n),st,.val (pD p),.own (bs.map pD),.val (.int k),.val (pD q)]=some true:=by
          simp -implicitDefEqProofs [h1,m3,h2]
        rw [t,Option.bind_some]
        show Zab 3 _ _=_
        rw [ap,List.map_append]; rfl
      · refine ⟨[],?_,.inl rfl⟩
        rw [List.append_nil]
        simp -implicitDefEqProofs [h1,m3,h2]
    · refine ⟨[],?_,.inl rfl⟩
      rw [List.append_nil]
      simp -implicitDefEqProofs [h1]
  have e2:∀ (bs:List Pt),bs.length < 990->∃ b,mc2 [.val (.int n),st,.val (pD p),.own (bs.map pD),.val (.int k),.val (pD q)]=some (.nx [.val (.int n),st,.val (pD p),.own ((bs++b).map pD),.val (.int k),.val (pD q)])/\(b=[]\/b=[(p.1-2,p.2-2)]):=by
    intro bs hb
    have ap:=ZmM (f:=Z9 (Zc (Zh Y0 (Zh dIx (Ze 2) (Zf (.int 0))) (Zf (.int 2))) (Zc (Zh Y0 (Zh dIx (Ze 2) (Zf (.int 1))) (Zf (.int 2))) Zm))) (a:=.val (.int n)) (b:=st) (c:=.val (pD p)) (d:=.val (.int k)) (e:=.val (pD q)) (ds:=bs.map pD) (x:=pD (p.1-2,p.2-2)) (by simp -implicitDefEqProofs [JM]; rfl) (by simp; omega)
    unfold mc2
    by_cases h1:k=7
    · by_cases h2:1 < n % 3
      · refine ⟨[(p.1-2,p.2-2)],?_,.inr rfl⟩
        rw [QO]
        have t:(Y1 (Zo (Zh U8 (Ze 4) (Zf (.int 7)))) (Zo (Zh dGt (Zh Ya (Ze 0) (Zf (.int 3))) (Zf (.int 1))))) [.val (.int n),st,.val (pD p),.own (bs.map pD),.val (.int k),.val (pD q)]=some true:=by
          simp -implicitDefEqProofs [h1,m3,h2]
        rw [t,Option.bind_some]
        show Zab 3 _ _=_
        rw [ap,List.map_append]; rfl
      · refine ⟨[],?_,.inl rfl⟩
        rw [List.append_nil]
        simp -implicitDefEqProofs [h1,m3,h2]
    · refine ⟨[],?_,.inl rfl⟩
      rw [List.append_nil]
      simp -implicitDefEqProofs [h1]
  obtain ⟨b1,q1,r1⟩:=e1 (acc++[p]) (by simp; omega)
  have lb1:b1.length<=1:=by rcases r1 with rfl | rfl <;> simp
  obtain ⟨b2,q2,r2⟩:=e2 (acc++[p]++b1) (by simp; omega)
  have lb2:b2.length<=1:=by rcases r2 with rfl | rfl <;> simp
  have e3:∀ (ow:Sl),mc3 [.val (.int n),st,.val (pD p),ow,.val (.int k),.val (pD q)]=some (.nx [.val (.int n),st,.val (pD (p.1+q.1,p.2+q.2)),ow,.val (.int k),.val (pD q)]):=by
    intro ow
    unfold mc3
    simp -implicitDefEqProofs [JM]
    rfl
  refine ⟨acc++[p]++b1++b2,?_,by simp; omega,fun x hx=>?_,by simp⟩
  · unfold mcB
    rw [Zx,a1]
    show Zr mc1 (Zr mc2 mc3) _=_
    rw [Zx,q1]
    show Zr mc2 mc3 _=_
    rw [Zx,q2]
    exact e3 _
  · simp only [List.mem_append,List.mem_cons,List.not_mem_nil,or_false] at hx
    rcases hx with ((hx | hx) | hx) | hx
    · exact .inl hx
    · subst hx; exact .inr ⟨⟨by omega,by omega⟩,by omega,by omega⟩
    · rcases r1 with rfl | rfl
      · cases hx
      · simp only [List.mem_cons,List.not_mem_nil,or_false] at hx
        subst hx; exact .inr ⟨⟨by show p.1-2<=p.1+2; omega,by show p.1+2<=p.1+2; omega⟩,by show p.2-2<=p.2+2; omega,by show p.2+2<=p.2+2; omega⟩
    · rcases r2 with rfl | rfl
      · cases hx
      · simp only [List.mem_cons,List.not_mem_nil,or_false] at hx
        subst hx; exact .inr ⟨⟨by show p.1-2<=p.1-2; omega,by show p.1-2<=p.1+2; omega⟩,by show p.2-2<=p.2-2; omega,by show p.2-2<=p.2+2; omega⟩
theorem Zgf {n:Int} (st:Sl):∀ (ys:List Pt) (k:Nat) (B:Int) (p:Pt) (acc:List Pt) (s4 s5:Sl),All (Rg 6) ys->Rg B p->All (Rg (B+2)) acc->0<=B->acc.length+3*ys.length < 900 ->
    ∃ (acc':List Pt) (t2 t4 t5:Sl),QY (YC 4 5) mcB (YA k (ys.map pD)) [.val (.int n),st,.val (pD p),.own (acc.map pD),s4,s5]=some (.nx [.val (.int n),st,t2,.own (acc'.map pD),t4,t5]) /\
      acc'.length<=acc.length+3*ys.length/\All (Rg (B+6*ys.length+2)) acc'/\((acc≠[]\/ys≠[])->acc'≠[])
  | [],k,B,p,acc,s4,s5,_,hp,ha,hB,_=>⟨acc,.val (pD p),s4,s5,rfl,by simp,by simpa using ha,fun z=>z.elim id fun z=>absurd rfl z⟩
  | q::ys,k,B,p,acc,s4,s5,hy,hp,ha,hB,hl=>by
    rw [List.length_cons] at hl
    obtain ⟨acc1,e1,l1,m1,n1⟩:=ZjF (n:=n) (k:=k) (p:=p) (q:=q) (acc:=acc) (by omega) st
    obtain ⟨⟨q1,q2⟩,q3,q4⟩:=hy q List.mem_cons_self
    obtain ⟨⟨p1,p2⟩,p3,p4⟩:=hp
    obtain ⟨acc2,t2,t4,t5,e2,l2,m2,n2⟩:=Zgf st ys (k+1) (B+6) (p.1+q.1,p.2+q.2) acc1 (.val (.int k)) (.val (pD q)) (fun x hx=>hy x (List.mem_cons_of_mem _ hx))
      ⟨⟨by show -(B+6)<=p.1+q.1; omega,by show p.1+q.1<=B+6; omega⟩,by show -(B+6)<=p.2+q.2; omega,by show p.2+q.2<=B+6; omega⟩
      (fun x hx=>by
        rcases m1 x hx with z | ⟨⟨z1,z2⟩,z3,z4⟩
        · obtain ⟨⟨y1,y2⟩,y3,y4⟩:=ha x z
          exact ⟨⟨by omega,by omega⟩,by omega,by omega⟩
        · exact ⟨⟨by omega,by omega⟩,by omega,by omega⟩) (by omega) (by omega)
    refine ⟨acc2,t2,t4,t5,?_,by rw [List.length_cons]; omega,fun x hx=>?_,fun _=>n2 (.inl n1)⟩
    · simp only [List.map_cons,YA,QY,Zaf,List.set_cons_zero,List.set_cons_succ,Option.bind_some]
      rw [e1]
      exact e2
    · obtain ⟨⟨y1,y2⟩,y3,y4⟩:=m2 x hx
      rw [List.length_cons]
      exact ⟨⟨by omega,by omega⟩,by omega,by omega⟩
noncomputable def mcS:List Pt:=[(3,0),(6,3),(3,3),(3,6),(0,3),(-3,3)]
theorem ZhM {n:Int} (hn:0<=n):∃ d,ZQ [.int n]=some d/\TP d:=by
  have d3:Qj (.int n) (.int 3)=some (.int (n / 3)):=UA (by decide) (by decide)
  have d270:Qj (.int n) (.int 270)=some (.int (n / 270)):=UA (by decide) (by decide)
  have m1:Ya (.int (n / 3)) (.int 90)=some (.int (n / 3 % 90)):=YS (by decide)
  have m2:Ya (.int (n / 270)) (.int 90)=some (.int (n / 270 % 90)):=YS (by decide)
  have r1:0<=n / 3 % 90/\n / 3 % 90 < 90:=⟨Int.emod_nonneg _ (by omega),Int.emod_lt_of_pos _ (by omega)⟩
  have r2:0<=n / 270 % 90/\n / 270 % 90 < 90:=⟨Int.emod_nonneg _ (by omega),Int.emod_lt_of_pos _ (by omega)⟩
  have s1:Z5 1 (Wa (Zc (Z9 (Zc (Zf (.int 3)) (Zc (Zf (.int 0)) Zm))) (Zc (Z9 (Zc (Zf (.int 6)) (Zc (Zf (.int 3)) Zm))) (Zc (Z9 (Zc (Zf (.int 3)) (Zc (Zf (.int 3)) Zm))) (Zc (Z9 (Zc (Zf (.int 3)) (Zc (Zf (.int 6)) Zm))) (Zc (Z9 (Zc (Zf (.int 0)) (Zc (Zf (.int 3)) Zm))) (Zc (Z9 (Zc (YO JB (Zf (.int 3))) (Zc (Zf (.int 3)) Zm))) Zm)))))))
      [.val (.int n),.no,.no,.no,.no,.no]=some (.nx [.val (.int n),.val (.lst (mcS.map pD)),.no,.no,.no,.no]):=by
    have l6:(6:Nat)<=lim:=Z6 (by decide)
    simp -implicitDefEqProofs [JM,l6]
    rfl
  have cl:=Zgg (g:=fun p:Pt=>(-p.1,-p.2)) (f:=Z9 (Zc (YO JB (Ze 0)) (Zc (YO JB (Ze 1)) Zm))) (ex:=[]) (fun p=>by simp -implicitDefEqProofs [JM]; rfl) mcS .no .no
  have s2:Z5 1 (Zh ZU (Ze 1) (QP [none,none] (QU (Ze 1)) (YC 0 1) ZY (Z9 (Zc (YO JB (Ze 0)) (Zc (YO JB (Ze 1)) Zm))))) [.val (.int n),.val (.lst (mcS.map pD)),.no,.no,.no,.no]=some (.nx [.val (.int n),.val (.lst ((mcS++mcS.map fun p=>(-p.1,-p.2)).map pD)),.no,.no,.no,.no]):=by
    have c:=Zh9 (caps:=[none,none]) (it:=QU (Ze 1)) (ρ:=[.val (.int n),.val (.lst (mcS.map pD)),.no,.no,.no,.no]) (xs:=mcS.map pD) rfl (by decide) cl
    have ad:ZU (.lst (mcS.map pD)) (.lst ((mcS.map fun p=>(-p.1,-p.2)).map pD))=some (.lst ((mcS++mcS.map fun p=>(-p.1,-p.2)).map pD)):=by
      rw [VV (by decide),<-List.map_append]
    rw [W9,V9,c]
    show (Option.bind (some (D.lst (mcS.map pD))) _).map _=_
    rw [Option.bind_some,Option.bind_some,ad]
    rfl
  have s3:Z5 2 (Z9 (Zc (Zh Y0 (Zh Ya (Zh Qj (Ze 0) (Zf (.int 3))) (Zf (.int 90))) (Zf (.int 50))) (Zc (Zh Y0 (Zh Ya (Zh Qj (Ze 0) (Zf (.int 270))) (Zf (.int 90))) (Zf (.int 50))) Zm))) [.val (.int n),.val (.lst ((mcS++mcS.map fun p=>(-p.1,-p.2)).map pD)),.no,.no,.no,.no] =
      some (.nx [.val (.int n),.val (.lst ((mcS++mcS.map fun p=>(-p.1,-p.2)).map pD)),.val (pD (n / 3 % 90-50,n / 270 % 90-50)),.no,.no,.no]):=by
    generalize (mcS++mcS.map fun p=>(-p.1,-p.2)).map pD=S
    simp -implicitDefEqProofs [d3,d270,m1,m2,JM]
    rfl
  have hr:All (Rg 6) (mcS++mcS.map fun p=>(-p.1,-p.2)):=by
    intro p hp
    simp only [mcS,List.map_cons,List.map_nil,List.cons_append,List.nil_append,List.mem_cons,List.not_mem_nil,or_false] at hp
    unfold Rg
    rcases hp with rfl | rfl | rfl | rfl | rfl | rfl | rfl | rfl | rfl | rfl | rfl | rfl <;> decide
  obtain ⟨acc,t2,t4,t5,e,l,m,ne⟩:=Zgf (n:=n) (.val (.lst ((mcS++mcS.map fun p=>(-p.1,-p.2)).map pD))) (mcS++mcS.map fun p=>(-p.1,-p.2)) 0 50 (n / 3 % 90-50,n / 270 % 90-50) [] .no .no hr
    ⟨⟨by show -50<=n / 3 % 90-50; omega,by show n / 3 % 90-50<=50; omega⟩,by show -50<=n / 270 % 90-50; omega,by show n / 270 % 90-50<=50; omega⟩ (fun x hx=>by cases hx) (by omega) (by decide)
  have ne:=ne (.inr (by decide))
  have hl12:(mcS++mcS.map fun p=>(-p.1,-p.2)).length=12:=by decide
  rw [hl12] at l m
  have sm:All Sm acc:=fun p hp=>by
    obtain ⟨⟨y1,y2⟩,y3,y4⟩:=m p hp
    exact ⟨⟨by omega,by omega⟩,by omega,by omega⟩
  have ord:=W6 (c:=.lst (acc.map pD)) (ps:=acc) rfl ne sm (by simp at l; omega)
  unfold ZQ Zp QN
  show ∃ d,(Zr _ (Zr _ _) [.val (.int n),.no,.no,.no,.no,.no]).bind _=some d/\_
  rw [Zx,s1]
  show ∃ d,(Zr _ (Zr _ _) [.val (.int n),.val (.lst (mcS.map pD)),.no,.no,.no,.no]).bind _=some d/\_
  rw [Zx,s2]
  show ∃ d,(Zr _ (Zr _ _) [.val (.int n),.val (.lst ((mcS++mcS.map fun p=>(-p.1,-p.2)).map pD)),.no,.no,.no,.no]).bind _=some d/\_
  rw [Zx,s3]
  generalize mcS++mcS.map (fun p=>(-p.1,-p.2))=S at e
  show ∃ d,(Zr _ (Zr _ _) [.val (.int n),.val (.lst (S.map pD)),.val (pD (n / 3 % 90-50,n / 270 % 90-50)),.no,.no,.no]).bind _=some d/\_
  have e0:Ji 3 Zm [.val (.int n),.val (.lst (S.map pD)),.val (pD (n / 3 % 90-50,n / 270 % 90-50)),.no,.no,.no]=some (.nx [.val (.int n),.val (.lst (S.map pD)),.val (pD (n / 3 % 90-50,n / 270 % 90-50)),.own [],.no,.no]):=by
    unfold Ji
    simp -implicitDefEqProofs
  rw [Zx,e0]
  show ∃ d,(Zr (Ws (Qt (Ze 1)) (YC 4 5) mcB) _ [.val (.int n),.val (.lst (S.map pD)),.val (pD (n / 3 % 90-50,n / 270 % 90-50)),.own [],.no,.no]).bind _=some d/\_
  have it:Qt (Ze 1) [.val (.int n),.val (.lst (S.map pD)),.val (pD (n / 3 % 90-50,n / 270 % 90-50)),.own [],.no,.no]=some (YA 0 (S.map pD)):=rfl
  have e':QY (YC 4 5) mcB (YA 0 (S.map pD)) [.val (.int n),.val (.lst (S.map pD)),.val (pD (n / 3 % 90-50,n / 270 % 90-50)),.own [],.no,.no]=_:=e
  rw [Zx,UJ,it,Option.bind_some,e']
  refine ⟨.tup ((V1 acc).map pD),?_,_,rfl,?_,?_,?_⟩
  · show ((ZW (dFn 1 ZH (Zc (Ze 3) Zm))) [.val (.int n),.val (.lst (S.map pD)),t2,.val (.lst (acc.map pD)),t4,t5]).bind _=_
    simp -implicitDefEqProofs [ord]
  · intro z
    have:=(YU acc).length_eq
    rw [z] at this
    exact ne (List.eq_nil_of_length_eq_zero this.symm)
  · rw [(YU acc).length_eq]; simp at l; omega
  · exact fun p hp'=>sm p ((YU acc).mem_iff.mp hp')
theorem Lay.up {a b:Nat} {d:D} (h:Lay a d) (hab:a<=b):Lay b d:=⟨h.1,Nat.le_trans h.2 hab⟩
theorem Zko (s:String):PyData.strOk (Str.ofString s)=true:=by
  unfold PyData.strOk
  rw [Str.ofString_eq_toList]
  rw [Array.all_eq_true']
  intro x hx
  have hx:x∈s.toList.map Char.toNat:=by simpa using hx
  obtain ⟨c,_,rfl⟩:=List.mem_map.mp hx
  have hc:c.val < 0x110000:=by
    have v:=c.valid
    unfold UInt32.isValidChar Nat.isValidChar at v
    have:c.val.toNat < 0x110000:=by omega
    exact this
  simpa using (show c.toNat < 0x110000 from hc)
theorem VM (i:Int):Lay 0 (.int i):=⟨rfl,Nat.le_refl _⟩
theorem Zlj (i:Bool):Lay 0 (.bl i):=⟨rfl,Nat.le_refl _⟩
theorem ZjG (s:String):Lay 0 (.str (Str.ofString s)):=⟨Zko s,Nat.le_refl _⟩
noncomputable def oddL:List D:=[.int (-1),.int 0,.int 1,.int 101,.int (-101),.bl true,.bl false,.non,.str (Str.ofString ""),.str (Str.ofString "0"),.tup [],.lst [],.tup [.int 0],.tup [.int 0,.int 1],.tup [.int 1,.int 1],.tup [.int 0,.int 101],.tup [.bl true,.int 0],.lst [.int 0,.int 1],
  .tup [.int 0,.non],.tup [.tup [.int 0,.int 0]],.tup [.int 0,.int 0,.int 0],.int 2,.tup [.int (-1),.int 5],.tup [.int 2,.int 2],.tup [.str (Str.ofString "0"),.int 1]]
theorem Zg1 {xs:List D} {j:Int} (h0:0<=j) (h1:j < xs.length):∃ d∈xs,atI xs j=some d:=by
  obtain ⟨k,rfl⟩:∃ k:Nat,(k:Int)=j:=⟨j.toNat,by omega⟩
  have hk:k < xs.length:=by omega
  refine ⟨xs[k],List.getElem_mem hk,?_⟩
  unfold atI
  rw [Zdl (by omega) (by omega),Int.emod_eq_of_lt (by omega) (by omega)]
  show xs[((k:Int)).toNat]?=_
  rw [Int.toNat_natCast,List.getElem?_eq_getElem hk]
theorem ZjA:∀ d∈oddL,Lay 2 d:=by
  have:oddL.all (fun d=>(JG d).canLay0&&decide (dp d<=2))=true:=by decide +kernel
  intro d hd
  have:=List.all_eq_true.mp this d hd
  rw [Bool.and_eq_true] at this
  exact ⟨this.1,of_decide_eq_true this.2⟩
theorem Zmk (n:Int):∃ d,QE [.int n]=some d/\Lay 2 d:=by
  have m:Ya (.int n) (.int 25)=some (.int (n % 25)):=YS (by decide)
  have r:0<=n % 25/\n % 25 < 25:=⟨Int.emod_nonneg _ (by omega),Int.emod_lt_of_pos _ (by omega)⟩
  obtain ⟨d,hd,e⟩:=Zg1 (xs:=oddL) (j:=n % 25) r.1 (by show n % 25 < 25; omega)
  refine ⟨d,?_,ZjA d hd⟩
  have l0:(0:Nat)<=lim:=Nat.zero_le _
  have l1:(1:Nat)<=lim:=Z6 (by decide)
  have l3:(3:Nat)<=lim:=Z6 (by decide)
  have l7:(7:Nat)<=lim:=Z6 (by decide)
  have l18:(18:Nat)<=lim:=Z6 (by decide)
  have s1:∀ a:Sl,(Wa (Zc (YO JB (Zf (.int 1))) (Zc (Zf (.int 0)) (Zc (Zf (.int 1)) (Zc (Zf (.int 101)) (Zc (YO JB (Zf (.int 101))) (Zc (Zf (.bl true)) (Zc (Zf (.bl false)) (Zc (Zf .non) (Zc (Zf (.str (Str.ofString ""))) (Zc (Zf (.str (Str.ofString "0"))) (Zc (Z9 Zm) (Zc (Wa Zm) (Zc (Z9 (Zc (Zf (.int 0)) Zm)) (Zc (Z9 (Zc (Zf (.int 0)) (Zc (Zf (.int 1)) Zm))) (Zc (Z9 (Zc (Zf (.int 1)) (Zc (Zf (.int 1)) Zm))) (Zc (Z9 (Zc (Zf (.int 0)) (Zc (Zf (.int 101)) Zm))) (Zc (Z9 (Zc (Zf (.bl true)) (Zc (Zf (.int 0)) Zm))) (Zc (Wa (Zc (Zf (.int 0)) (Zc (Zf (.int 1)) Zm))) Zm))))))))))))))))))) [.val (.int n),a]=some (.lst (oddL.take 18)):=by
    intro a
    simp -implicitDefEqProofs [JM,l0,l1,l3,l7,l18,oddL]
  have s2:∀ a:Sl,(Wa (Zc (Z9 (Zc (Zf (.int 0)) (Zc (Zf .non) Zm))) (Zc (Z9 (Zc (Z9 (Zc (Zf (.int 0)) (Zc (Zf (.int 0)) Zm))) Zm)) (Zc (Z9 (Zc (Zf (.int 0)) (Zc (Zf (.int 0)) (Zc (Zf (.int 0)) Zm)))) (Zc (Zf (.int 2)) (Zc (Z9 (Zc (YO JB (Zf (.int 1))) (Zc (Zf (.int 5)) Zm))) (Zc (Z9 (Zc (Zf (.int 2)) (Zc (Zf (.int 2)) Zm))) (Zc (Z9 (Zc (Zf (.str (Str.ofString "0"))) (Zc (Zf (.int 1)) Zm))) Zm)))))))) [.val (.int n),a]=some (.lst (oddL.drop 18)):=by
    intro a
    simp -implicitDefEqProofs [JM,l0,l1,l3,l7,l18,oddL]
  have ad:ZU (.lst (oddL.take 18)) (.lst (oddL.drop 18))=some (.lst oddL):=by
    rw [VV (by decide),List.take_append_drop]
  have ix:dIx (.lst oddL) (.int (n % 25))=some d:=e
  unfold QE Zp ZaS
  show (Zr _ _ [.val (.int n),.no]).bind _=_
  rw [Zx,W9,s1]
  show (ZW _ [.val (.int n),.val (.lst (oddL.take 18))]).bind _=_
  rw [ZgL,V9,V9,s2]
  show (Option.map _ (Option.bind (ZU (.lst (oddL.take 18)) (.lst (oddL.drop 18))) _)).bind _=_
  rw [ad,Option.bind_some]
  show (Option.map _ (Option.bind (Ya (.int n) (.int 25)) _)).bind _=_
  rw [m,Option.bind_some,ix]
  rfl
theorem VT {xs:List D} {lo hi:Option Int} {e:D} (h:e∈cutD xs lo hi):e∈xs:=by
  unfold L3.cutD at h
  exact List.mem_of_mem_drop (List.mem_of_mem_take h)
theorem VU (xs:List D) (lo hi:Option Int):(cutD xs lo hi).length<=xs.length:=by
  unfold L3.cutD
  rw [List.length_take,List.length_drop]; omega
theorem ZbI {xs ys:List D} (h:xs.length+ys.length<=1000):ZU (.tup xs) (.tup ys)=some (.tup (xs++ys)):=by
  show (if xs.length+ys.length<=lim then _ else _)=_
  rw [if_pos (Z6 h)]
noncomputable def Zin:DT:=(Y1 (Zo (Zh dGt (Ze 2) (Zf (.int 0)))) (Y1 (Zo (YO (Vr .tuple) (Ze 0))) (Y1 (Zo (Zh dGt (ZN UI (Zc (Ze 0) Zm)) (Zf (.int 0)))) (Zo (Zh dGt (Zh Ya (Ze 1) (Zf (.int 6))) (Zf (.int 0)))))))
noncomputable def Zfo:DT:=(Y1 (Zo (YO (Vr .tuple) (Ze 0))) (Y1 (Zo (Zh dGt (ZN UI (Zc (Ze 0) Zm)) (Zf (.int 0)))) (Zo (Zh U8 (Zh Ya (Zh Qj (Ze 1) (Zf (.int 6))) (Zf (.int 2))) (Zf (.int 0))))))
noncomputable def Zfn:DT:=(Y1 (Zo (YO (Vr .int) (Ze 0))) (Zo (Zh U8 (Zh Ya (Zh Qj (Ze 1) (Zf (.int 6))) (Zf (.int 2))) (Zf (.int 0)))))
noncomputable def spA (fr:List D->Option D):DS:=(Zr (Z5 3 (Zh Ya (Zh Qj (Ze 1) (Zf (.int 6))) (ZN UI (Zc (Ze 0) Zm))))
  (Zr (Z5 4 (dFn 3 fr (Zc (Zh dIx (Ze 0) (Ze 3)) (Zc (Zh Qj (Ze 1) (Zf (.int 72))) (Zc (Zh Y0 (Ze 2) (Zf (.int 1))) Zm)))))
  (ZW (Zh ZU (Zh ZU (dSl (Ze 0) Qd (Qc (Ze 3))) (Z9 (Zc (Ze 4) Zm))) (dSl (Ze 0) (Qc (Zh ZU (Ze 3) (Zf (.int 1)))) Qd)))))
noncomputable def Zhh:DS:=(Zr (Z5 5 (Wa (Zc (ZN Ud (Zc (Ze 0) Zm)) (Zc (dSl (Ze 0) Qd (Qc (YO JB (Zf (.int 1))))) (Zc (Zh ZU (Ze 0) (dSl (Ze 0) (Qc (YO JB (Zf (.int 1)))) Qd)) (Zc (Zh ZU (dSl (Ze 0) (Qc (Zf (.int 1))) Qd) (dSl (Ze 0) Qd (Qc (Zf (.int 1))))) (Zc (Zhi (Ze 0)) (Zc (Zh ZgM (Ze 0) (Zf (.int 2))) Zm))))))))
  (ZW (Zh dIx (Ze 5) (Zh Ya (Zh Qj (Ze 1) (Zf (.int 12))) (Zf (.int 6))))))
noncomputable def spC:DS:=(ZW (Zh dIx (Wa (Zc (ZN ZgK (Zc (Ze 0) Zm)) (Zc (YO JB (Ze 0)) (Zc (Zh ZU (Ze 0) (Zf (.int 1))) (Zc (Zh U8 (Ze 0) (Zf (.int 1))) (Zc (Zh ZU (Ze 0) (Zf (.int 97))) (Zc (Zh Y0 (Ze 0) (Zf (.int 1))) Zm))))))) (Zh Ya (Zh Qj (Ze 1) (Zf (.int 12))) (Zf (.int 6)))))
noncomputable def spE:DS:=(ZW (dFn 1 QE (Zc (Zh Qj (Ze 1) (Zf (.int 6))) Zm)))
theorem Zd6 (fr:List D->Option D):ZS fr=Zr (Yh Zin (spA fr) ZB) (Zr (Yh Zfo Zhh ZB) (Zr (Yh Zfn spC ZB) spE)):=rfl
section
variable {n k:Int} {ds:List D}
theorem Zkq (x:D) (a b c:Sl):∃ d,spE [.val x,.val (.int n),.val (.int k),a,b,c]=some (.rt d)/\Lay 2 d:=by
  have d6:Qj (.int n) (.int 6)=some (.int (n / 6)):=UA (by decide) (by decide)
  obtain ⟨d,e,l⟩:=Zmk (n / 6)
  refine ⟨d,?_,l⟩
  unfold spE
  simp -implicitDefEqProofs [d6,e]
theorem Zim {fr:List D->Option D} {m:Nat} (h0:ds≠[]) (hl:ds.length<=200) (hn:0<=n) (hm:1<=m) (hL:∀ e∈ds,Lay m e)
    (hfr:0 < k->∀ e∈ds,∀ n':Int,0<=n'->∃ d,fr [e,.int n',.int (k-1)]=some d/\Lay m d):∃ d,Zp 6 (ZS fr) [.tup ds,.int n,.int k]=some d/\Lay (m+1) d:=by
  have hp:0 < ds.length:=List.length_pos_iff.mpr h0
  have d6:Qj (.int n) (.int 6)=some (.int (n / 6)):=UA (by decide) (by decide)
  have d72:Qj (.int n) (.int 72)=some (.int (n / 72)):=UA (by decide) (by decide)
  have d12:Qj (.int n) (.int 12)=some (.int (n / 12)):=UA (by decide) (by decide)
  have m6:Ya (.int n) (.int 6)=some (.int (n % 6)):=YS (by decide)
  have m2:Ya (.int (n / 6)) (.int 2)=some (.int (n / 6 % 2)):=YS (by decide)
  have m12:Ya (.int (n / 12)) (.int 6)=some (.int (n / 12 % 6)):=YS (by decide)
  have ml:Ya (.int (n / 6)) (.int ds.length)=some (.int (n / 6 % ds.length)):=YS (by omega)
  have i1:Vr .tuple (.tup ds)=some (.bl true):=rfl
  have i2:Vr .int (.tup ds)=some (.bl false):=rfl
  have hp':(0:Int) < ds.length:=by omega
  have t1:∀ a b c:Sl,Zin [.val (.tup ds),.val (.int n),.val (.int k),a,b,c]=some (decide (0 < k)&&decide (0 < n % 6)):=by
    intro a b c
    unfold Zin
    by_cases h:0 < k
    · simp -implicitDefEqProofs [i1,m6,hp,h]
    · simp -implicitDefEqProofs [h]
  have t2:∀ a b c:Sl,Zfo [.val (.tup ds),.val (.int n),.val (.int k),a,b,c]=some (decide (n / 6 % 2=0)):=by
    intro a b c
    unfold Zfo
    simp -implicitDefEqProofs [i1,d6,m2,hp]
  have t3:∀ a b c:Sl,Zfn [.val (.tup ds),.val (.int n),.val (.int k),a,b,c]=some false:=by
    intro a b c
    unfold Zfn
    simp -implicitDefEqProofs [i2]
  have go:∀ o:Out,Zr (Yh Zin (spA fr) ZB) (Zr (Yh Zfo Zhh ZB) (Zr (Yh Zfn spC ZB) spE)) [.val (.tup ds),.val (.int n),.val (.int k),.no,.no,.no]=some o->∀ d,o=.rt d->Zp 6 (ZS fr) [.tup ds,.int n,.int k]=some d:=by
    intro o e d ho
    unfold Zp
    rw [Zd6]
    show (Zr _ _ [.val (.tup ds),.val (.int n),.val (.int k),.no,.no,.no]).bind _=_
    rw [e,ho]; rfl
  by_cases c1:0 < k/\0 < n % 6
  · -- a part is spoilt
    have r:=Int.emod_nonneg (n / 6) (show (ds.length:Int)≠0 by omega)
    have r':=Int.emod_lt_of_pos (n / 6) hp'
    obtain ⟨a,ha⟩:∃ a:Nat,(a:Int)=n / 6 % ds.length:=⟨(n / 6 % ds.length).toNat,by omega⟩
    have hal:a < ds.length:=by omega
    have ix:dIx (.tup ds) (.int a)=some ds[a]:=by
      show atI ds a=_
      unfold atI
      rw [Zdl (by omega) (by omega),Int.emod_eq_of_lt (by omega) (by omega)]
      show ds[((a:Int)).toNat]?=_
      rw [Int.toNat_natCast,List.getElem?_eq_getElem hal]
    obtain ⟨x,ex,lx⟩:=hfr c1.1 ds[a] (List.getElem_mem hal) (n / 72) (Int.ediv_nonneg hn (by omega))
    have s1:Ze6 none (some (a:Int)) (.tup ds)=some (.tup (cutD ds none (some (a:Int)))):=rfl
    have s2:Ze6 (some ((a:Int)+1)) none (.tup ds)=some (.tup (cutD ds (some ((a:Int)+1)) none)):=rfl
    have l1:=VU ds none (some (a:Int))
    have l2:=VU ds (some ((a:Int)+1)) none
    have a1:ZU (.tup (cutD ds none (some (a:Int)))) (.tup [x])=some (.tup (cutD ds none (some (a:Int))++[x])):=ZbI (by simp; omega)
    have a2:ZU (.tup (cutD ds none (some (a:Int))++[x])) (.tup (cutD ds (some ((a:Int)+1)) none))=some (.tup (cutD ds none (some (a:Int))++[x]++cutD ds (some ((a:Int)+1)) none)):=ZbI (by simp; omega)
    have one:(1:Nat)<=lim:=Z6 (by decide)
    refine ⟨.tup (cutD ds none (some (a:Int))++[x]++cutD ds (some ((a:Int)+1)) none),go _ ?_ _ rfl,lay_tup.mpr fun e he=>?_⟩
    · rw [Zx,QO,t1,show (decide (0 < k)&&decide (0 < n % 6))=true by simp [c1.1,c1.2],Option.bind_some]
      have hA:spA fr [.val (.tup ds),.val (.int n),.val (.int k),.no,.no,.no]=some (.rt (.tup (cutD ds none (some (a:Int))++[x]++cutD ds (some ((a:Int)+1)) none))):=by
        unfold spA
        rw [<-ha] at ml
        simp -implicitDefEqProofs [d6,ml,ix,d72,ex,s1,s2,a1,a2,one]
      show (match spA fr [.val (.tup ds),.val (.int n),.val (.int k),.no,.no,.no] with | some (.nx ρ1)=>_ | r=>r)=_
      rw [hA]
    · simp only [List.mem_append,List.mem_cons,List.not_mem_nil,or_false] at he
      rcases he with (he | he) | he
      · exact hL e (VT he)
      · subst he; exact lx
      · exact hL e (VT he)
  · have q1:Yh Zin (spA fr) ZB [.val (.tup ds),.val (.int n),.val (.int k),.no,.no,.no]=some (.nx [.val (.tup ds),.val (.int n),.val (.int k),.no,.no,.no]):=by
      have:(decide (0 < k)&&decide (0 < n % 6))=false:=by
        cases z:(decide (0 < k)&&decide (0 < n % 6)) with
        | false=>rfl
        | true=>simp at z; exact absurd z c1
      rw [QO,t1,this]; rfl
    by_cases c2:n / 6 % 2=0
    · have r:0<=n / 12 % 6/\n / 12 % 6 < 6:=⟨Int.emod_nonneg _ (by omega),Int.emod_lt_of_pos _ (by omega)⟩
      have l1:=VU ds none (some (-1))
      have l2:=VU ds (some (-1)) none
      have l3:=VU ds (some 1) none
      have l4:=VU ds none (some 1)
      have a1:ZU (.tup ds) (.tup (cutD ds (some (-1)) none))=some (.tup (ds++cutD ds (some (-1)) none)):=ZbI (by omega)
      have a2:ZU (.tup (cutD ds (some 1) none)) (.tup (cutD ds none (some 1)))=some (.tup (cutD ds (some 1) none++cutD ds none (some 1))):=ZbI (by omega)
      have mt:ZgM (.tup ds) (.int 2)=some (.tup (ds++ds)):=by
        show (if (2:Int)=2/\ds≠[]/\ds.length+ds.length<=lim then _ else _)=_
        rw [if_pos ⟨rfl,h0,Z6 (by omega)⟩]
      have lo:Ud [.tup ds]=some (.lst ds):=rfl
      have sl1:Ze6 none (some (-1)) (.tup ds)=some (.tup (cutD ds none (some (-1)))):=rfl
      have sl2:Ze6 (some (-1)) none (.tup ds)=some (.tup (cutD ds (some (-1)) none)):=rfl
      have sl3:Ze6 (some 1) none (.tup ds)=some (.tup (cutD ds (some 1) none)):=rfl
      have sl4:Ze6 none (some 1) (.tup ds)=some (.tup (cutD ds none (some 1))):=rfl
      have six:(6:Nat)<=lim:=Z6 (by decide)
      obtain ⟨d,hd,e⟩:=Zg1 (xs:=[.lst ds,.tup (cutD ds none (some (-1))),.tup (ds++cutD ds (some (-1)) none),.tup (cutD ds (some 1) none++cutD ds none (some 1)),.tup ds.reverse,.tup (ds++ds)]) (j:=n / 12 % 6) r.1 (by simp; omega)
      have ix:dIx (.lst [.lst ds,.tup (cutD ds none (some (-1))),.tup (ds++cutD ds (some (-1)) none),.tup (cutD ds (some 1) none++cutD ds none (some 1)),.tup ds.reverse,.tup (ds++ds)]) (.int (n / 12 % 6))=some d:=e
      refine ⟨d,go _ ?_ _ rfl,?_⟩
      · rw [Zx,q1]
        show Zr (Yh Zfo Zhh ZB) _ [.val (.tup ds),.val (.int n),.val (.int k),.no,.no,.no]=_
        have hB:Zhh [.val (.tup ds),.val (.int n),.val (.int k),.no,.no,.no]=some (.rt d):=by
          unfold Zhh
          simp -implicitDefEqProofs [d12,m12,lo,sl1,sl2,sl3,sl4,a1,a2,mt,six,ix]
        rw [Zx,QO,t2,decide_eq_true c2,Option.bind_some]
        show (match Zhh [.val (.tup ds),.val (.int n),.val (.int k),.no,.no,.no] with | some (.nx ρ1)=>_ | r=>r)=_
        rw [hB]
      · simp only [List.mem_cons,List.not_mem_nil,or_false] at hd
        rcases hd with rfl | rfl | rfl | rfl | rfl | rfl
        · exact lay_lst.mpr hL
        · exact lay_tup.mpr fun e he=>hL e (VT he)
        · exact lay_tup.mpr fun e he=>(List.mem_append.mp he).elim (hL e) fun z=>hL e (VT z)
        · exact lay_tup.mpr fun e he=>(List.mem_append.mp he).elim (fun z=>hL e (VT z)) fun z=>hL e (VT z)
        · exact lay_tup.mpr fun e he=>hL e (List.mem_reverse.mp he)
        · exact lay_tup.mpr fun e he=>(List.mem_append.mp he).elim (hL e) (hL e)
    · have q2:Yh Zfo Zhh ZB [.val (.tup ds),.val (.int n),.val (.int k),.no,.no,.no]=some (.nx [.val (.tup ds),.val (.int n),.val (.int k),.no,.no,.no]):=by
        rw [QO,t2,decide_eq_false c2]; rfl
      have q3:Yh Zfn spC ZB [.val (.tup ds),.val (.int n),.val (.int k),.no,.no,.no]=some (.nx [.val (.tup ds),.val (.int n),.val (.int k),.no,.no,.no]):=by
        rw [QO,t3]; rfl
      obtain ⟨d,e,l⟩:=Zkq (n:=n) (k:=k) (.tup ds) .no .no .no
      refine ⟨d,go (.rt d) ?_ d rfl,l.up (by omega)⟩
      rw [Zx,q1]
      show Zr (Yh Zfo Zhh ZB) _ [.val (.tup ds),.val (.int n),.val (.int k),.no,.no,.no]=_
      rw [Zx,q2]
      show Zr (Yh Zfn spC ZB) _ [.val (.tup ds),.val (.int n),.val (.int k),.no,.no,.no]=_
      rw [Zx,q3]
      exact e
theorem Zkp {fr:List D->Option D} {i:Int} (hi:-1000000<=i/\i<=1000000):∃ d,Zp 6 (ZS fr) [.int i,.int n,.int k]=some d/\Lay 2 d:=by
  have d6:Qj (.int n) (.int 6)=some (.int (n / 6)):=UA (by decide) (by decide)
  have d12:Qj (.int n) (.int 12)=some (.int (n / 12)):=UA (by decide) (by decide)
  have m2:Ya (.int (n / 6)) (.int 2)=some (.int (n / 6 % 2)):=YS (by decide)
  have m12:Ya (.int (n / 12)) (.int 6)=some (.int (n / 12 % 6)):=YS (by decide)
  have i1:Vr .tuple (.int i)=some (.bl false):=rfl
  have i2:Vr .int (.int i)=some (.bl true):=rfl
  have q1:Yh Zin (spA fr) ZB [.val (.int i),.val (.int n),.val (.int k),.no,.no,.no]=some (.nx [.val (.int i),.val (.int n),.val (.int k),.no,.no,.no]):=by
    have:Zin [.val (.int i),.val (.int n),.val (.int k),.no,.no,.no]=some false:=by
      unfold Zin
      by_cases h:0 < k
      · simp -implicitDefEqProofs [i1,h]
      · simp -implicitDefEqProofs [h]
    rw [QO,this]; rfl
  have q2:Yh Zfo Zhh ZB [.val (.int i),.val (.int n),.val (.int k),.no,.no,.no]=some (.nx [.val (.int i),.val (.int n),.val (.int k),.no,.no,.no]):=by
    have:Zfo [.val (.int i),.val (.int n),.val (.int k),.no,.no,.no]=some false:=by
      unfold Zfo
      simp -implicitDefEqProofs [i1]
    rw [QO,this]; rfl
  have t3:Zfn [.val (.int i),.val (.int n),.val (.int k),.no,.no,.no]=some (decide (n / 6 % 2=0)):=by
    unfold Zfn
    simp -implicitDefEqProofs [i2,d6,m2]
  have go:∀ d:D,Zr (Yh Zfn spC ZB) spE [.val (.int i),.val (.int n),.val (.int k),.no,.no,.no]=some (.rt d)->Zp 6 (ZS fr) [.int i,.int n,.int k]=some d:=by
    intro d e
    unfold Zp
    rw [Zd6]
    show (Zr _ _ [.val (.int i),.val (.int n),.val (.int k),.no,.no,.no]).bind _=_
    rw [Zx,q1]
    show (Zr (Yh Zfo Zhh ZB) _ [.val (.int i),.val (.int n),.val (.int k),.no,.no,.no]).bind _=_
    rw [Zx,q2]
    show (Zr (Yh Zfn spC ZB) spE [.val (.int i),.val (.int n),.val (.int k),.no,.no,.no]).bind _=_
    rw [e]; rfl
  by_cases c:n / 6 % 2=0
  · have r:0<=n / 12 % 6/\n / 12 % 6 < 6:=⟨Int.emod_nonneg _ (by omega),Int.emod_lt_of_pos _ (by omega)⟩
    have six:(6:Nat)<=lim:=Z6 (by decide)
    have hs:ZgK [.int i]=some (.str (toString i)):=by
      have hz:i.natAbs.log2 < 1920:=by
        by_cases h0:i.natAbs=0
        · rw [h0]; decide
        · rw [Nat.log2_lt h0]
          have:i.natAbs < 2 ^ 20:=by omega
          exact Nat.lt_of_lt_of_le this (Nat.pow_le_pow_right (by decide) (by decide))
      show (if _ then _ else _)=_
      rw [if_pos hz]
    have lz:Lay 0 (.str (toString i)):=ZjG (toString i)
    generalize D.str (Str.ofString (toString i))=zs at hs lz
    obtain ⟨d,hd,e⟩:=Zg1 (xs:=[zs,.int (-i),.int (i+1),.bl (decide (i=1)),.int (i+97),.int (i-1)]) (j:=n / 12 % 6) r.1 (by simp; omega)
    have ix:dIx (.lst [zs,.int (-i),.int (i+1),.bl (decide (i=1)),.int (i+97),.int (i-1)]) (.int (n / 12 % 6))=some d:=e
    refine ⟨d,go d ?_,?_⟩
    · have hC:spC [.val (.int i),.val (.int n),.val (.int k),.no,.no,.no]=some (.rt d):=by
        unfold spC
        simp -implicitDefEqProofs [d12,m12,hs,six,ix]
      rw [Zx,QO,t3,decide_eq_true c,Option.bind_some]
      show (match spC [.val (.int i),.val (.int n),.val (.int k),.no,.no,.no] with | some (.nx ρ1)=>_ | r=>r)=_
      rw [hC]
    · simp only [List.mem_cons,List.not_mem_nil,or_false] at hd
      rcases hd with rfl | rfl | rfl | rfl | rfl | rfl
      · exact lz.up (by decide)
      · exact (VM _).up (by decide)
      · exact (VM _).up (by decide)
      · exact (Zlj _).up (by decide)
      · exact (VM _).up (by decide)
      · exact (VM _).up (by decide)
  · obtain ⟨d,e,l⟩:=Zkq (n:=n) (k:=k) (.int i) .no .no .no
    refine ⟨d,go d ?_,l⟩
    have q3:Yh Zfn spC ZB [.val (.int i),.val (.int n),.val (.int k),.no,.no,.no]=some (.nx [.val (.int i),.val (.int n),.val (.int k),.no,.no,.no]):=by
      rw [QO,t3,decide_eq_false c]; rfl
    rw [Zx,q3]
    exact e
end
theorem Zl6 {fr:List D->Option D} {n k:Int} {p:Pt} (hn:0<=n) (hp:Sm p) (hfr:0 < k->∀ i:Int,(-1000000<=i/\i<=1000000)->∀ n':Int,0<=n'->∃ d,fr [.int i,.int n',.int (k-1)]=some d/\Lay 2 d):∃ d,Zp 6 (ZS fr) [pD p,.int n,.int k]=some d/\Lay 3 d:=by
  refine Zim (ds:=[.int p.1,.int p.2]) (m:=2) (by simp) (by simp) hn (by decide) (fun e he=>?_) fun hk e he n' hn'=>?_
  · simp only [List.mem_cons,List.not_mem_nil,or_false] at he
    rcases he with rfl | rfl <;> exact (VM _).up (by decide)
  · simp only [List.mem_cons,List.not_mem_nil,or_false] at he
    rcases he with rfl | rfl
    · exact hfr hk p.1 hp.1 n' hn'
    · exact hfr hk p.2 hp.2 n' hn'
theorem Ziz (p:Pt):Lay 1 (pD p):=lay_tup.mpr fun e he=>by
  simp only [List.mem_cons,List.not_mem_nil,or_false] at he
  rcases he with rfl | rfl <;> exact VM _
theorem Zen {d:D} {n k:Int} (hd:TP d) (hn:0<=n) (hk:k<=2):∃ d',Qy [d,.int n,.int k]=some d'/\Lay 4 d':=by
  obtain ⟨ps,rfl,hne,hl,hs⟩:=hd
  refine Zim (fr:=J7) (ds:=ps.map pD) (m:=3) (by simpa using hne) (by simp; omega) hn (by decide) (fun e he=>?_) fun hk0 e he n' hn'=>?_
  · obtain ⟨p,_,rfl⟩:=List.mem_map.mp he
    exact (Ziz p).up (by decide)
  · obtain ⟨p,hp,rfl⟩:=List.mem_map.mp he
    refine Zl6 (fr:=J8) hn' (hs p hp) fun hk1 i hi n2 hn2=>?_
    exact Zkp hi
theorem TP.lay {d:D} (h:TP d):Lay 2 d:=by
  obtain ⟨ps,rfl,_⟩:=h
  refine lay_tup.mpr fun e he=>?_
  obtain ⟨p,_,rfl⟩:=List.mem_map.mp he
  exact Ziz p
theorem Zjl {n wide:Int} (hw:3<=wide) (hw2:wide<=1000):∃ d,YV [.int n,.int wide]=some d/\TP d:=by
  obtain ⟨qs,b,src,b0,b1,pl⟩:=ZhY (n:=n) (wide:=wide) hw hw2
  have pm:=YU (qs.map (shf b))
  refine ⟨_,pl,_,rfl,fun z=>?_,?_,fun p hp=>?_⟩
  · have:=pm.length_eq
    rw [z,List.length_map] at this
    exact src.ne (List.eq_nil_of_length_eq_zero this.symm)
  · rw [pm.length_eq,List.length_map]
    have:=src.len; omega
  · obtain ⟨r,hr,rfl⟩:=List.mem_map.mp (pm.mem_iff.mp hp)
    have:=src.rng hw r hr
    show (-1000000<=r.1-b/\r.1-b<=1000000)/\(-1000000<=r.2/\r.2<=1000000)
    omega
theorem Zhm {n wide:Int} (hw:0 < wide) (hw2:wide<=1000) {k:Nat} (h1:1<=k) (hk:k<=50):(Option.bind (ZM [.int n,.int wide,.int k]) fun x=>Qz [x])=some (.tup ((Yj n wide k).map pD))/\TP (.tup ((Yj n wide k).map pD)):=by
  have sp:=W5 (n:=n) (wide:=wide) hw (many:=k) (by omega)
  refine ⟨by rw [sp]; rfl,_,rfl,fun z=>?_,by rw [Ul]; omega,fun p hp=>?_⟩
  · have:=Ul n wide k
    rw [z] at this; simp at this; omega
  · obtain ⟨⟨a,b⟩,c,d⟩:=VA (n:=n) (wide:=wide) hw p hp
    exact ⟨⟨by omega,by omega⟩,by omega,by omega⟩
theorem ZhL {t:DT} {e:DE} {ρ:Rho} {b:Bool} {x:D} {P:D->Prop} {a b' c:Sl} (hρ:ρ=[a,b',.val x,c]) (ht:t ρ=some b) (hx:P x) (he:b=true->∃ y,e ρ=some y/\P y):∃ y,Yh t (Z5 2 e) ZB ρ=some (.nx [a,b',.val y,c])/\P y:=by
  subst hρ
  cases b with
  | false=>exact ⟨x,by rw [QO,ht]; rfl,hx⟩
  | true=>
    obtain ⟨y,e1,hy⟩:=he rfl
    refine ⟨y,?_,hy⟩
    rw [QO,ht,Option.bind_some]
    show Z5 2 e _=_
    rw [W9,e1]; rfl
end Pl
namespace Pl.k01
open PySem PySem.Spec PyProof.Rows L2 L3 Pl
noncomputable def Zlw:DS:=(Zr (Z5 1 (dFn 2 Zw (Zc (Ze 0) (Zc (Zf (.int 1)) Zm))))
  (Zr (Z5 2 (dFn 2 YV (Zc (dFn 2 Zw (Zc (Ze 0) (Zc (Zf (.int 0)) Zm))) (Zc (Zh dIx (Z9 (Zc (Zf (.int 4)) (Zc (Zf (.int 7)) (Zc (Zf (.int 40)) Zm)))) (Zh Ya (Ze 1) (Zf (.int 3)))) Zm))))
  (Zr (Yh (Zo (Zh U8 (Zh Ya (Zh Qj (Ze 1) (Zf (.int 3))) (Zf (.int 5))) (Zf (.int 1)))) (Z5 2 (ZN Qz (Zc (dFn 3 ZM (Zc (dFn 2 Zw (Zc (Ze 0) (Zc (Zf (.int 2)) Zm))) (Zc (Zf (.int 4)) (Zc (Zh ZU (Zf (.int 3)) (Zh Ya (Zh Qj (Ze 1) (Zf (.int 15))) (Zf (.int 4)))) Zm)))) Zm))) ZB)
  (Zr (Yh (Zo (Zh U8 (Zh Ya (Zh Qj (Ze 1) (Zf (.int 3))) (Zf (.int 5))) (Zf (.int 2)))) (Z5 2 (dFn 2 YZ (Zc (dFn 2 Zw (Zc (Ze 0) (Zc (Zf (.int 2)) Zm))) (Zc (Zf (.int 9)) Zm)))) ZB)
  (Zr (Yh (Zo (Zh U8 (Zh Ya (Zh Qj (Ze 1) (Zf (.int 3))) (Zf (.int 5))) (Zf (.int 3)))) (Z5 2 (dFn 1 ZQ (Zc (dFn 2 Zw (Zc (Ze 0) (Zc (Zf (.int 2)) Zm))) Zm))) ZB)
  (Zr (Yh (Zo (Zh U8 (Zh Ya (Zh Qj (Ze 1) (Zf (.int 60))) (Zf (.int 2))) (Zf (.int 1)))) (Z5 2 (dFn 3 Qy (Zc (Ze 2) (Zc (dFn 2 Zw (Zc (Ze 0) (Zc (Zf (.int 3)) Zm))) (Zc (Zh Ya (Zh Qj (Ze 1) (Zf (.int 120))) (Zf (.int 3))) Zm))))) ZB)
  (Zr (Z5 3 (dFn 1 ZT (Zc (Ze 2) Zm)))
  (Zr (Yh (Qa (Zo (dFn 2 Yx (Zc (dFn 1 Z3 (Zc (Ze 2) Zm)) (Zc (Ze 3) Zm))))) (ZW (Zf (.bl false))) ZB)
  (ZW (dFn 2 Yx (Zc (dFn 1 Qe (Zc (Ze 2) Zm)) (Zc (Zao (Ze 3) (Zh dGt (ZN Vq (Zc (dFn 1 ZZ (Zc (Ze 2) Zm)) Zm)) (Zf (.int 0)))) Zm))))))))))))
noncomputable def ZeJ:List D->Option D:=Zp 4 Zlw
def top (i:Nat):Stmt:=PySem.Challenge.pw_plotstead_k01_plots.main.body.getD i (.Pass ⟨0,0,0,0⟩)
section
variable {P:Program} {w:World} {K:PySem.W.Frag} {mg:Str->Option Value} {base:Heap}
noncomputable abbrev ZfF:Stmt:=top 1
noncomputable abbrev ZlL:List Str:=["a","b","c"]
theorem Zi7:Zu ZlL ["a","b","c"] (Zj ZfF):=⟨rfl,rfl,rfl,by decide +kernel,rfl,by decide +kernel,by decide +kernel⟩
noncomputable abbrev ZcQ (P:Program) (w:World) (K:PySem.W.Frag) (mg:Str->Option Value) (base:Heap):=Z4 P w K mg base "turn" 1 ["a","b","c"] UH
theorem Zjv (B:Blt mg):OkD P w K mg base "turn" ZfF 1 ["a","b","c"] UH:=fun F=>QZ F Zi7 rfl rfl fun cdv A outer s H E hr=>by
  refine ⟨_,?_,(Zl (Zs (Zi Qr (Zi YX (Zi Qr (Zy Ye (Za (pv 1)) Zd (fun _ _=>rfl)) (Zy Ye (Za (pv 0)) Zd (fun _ _=>rfl))) (Zi Qr (Zy Ye (Za (pv 2)) Zd (fun _ _=>rfl)) (Zy Ye (Za (pv 0)) Zd (fun _ _=>rfl)))) (Zi YX (Zi Qr (Zy Ye (Za (pv 1)) Zd (fun _ _=>rfl)) (Zy Ye (Za (pv 0)) Zd (fun _ _=>rfl))) (Zi Qr (Zy Ye (Za (pv 2)) Zd (fun _ _=>rfl)) (Zy Ye (Za (pv 0)) Zd (fun _ _=>rfl)))))))⟩
  rfl
noncomputable abbrev JP:Stmt:=top 2
noncomputable abbrev ZcI:List Str:=["a","b","c"]
theorem Za8:Zu ZcI ["a","b","c"] (Zj JP):=⟨rfl,rfl,rfl,by decide +kernel,rfl,by decide +kernel,by decide +kernel⟩
noncomputable abbrev Uh (P:Program) (w:World) (K:PySem.W.Frag) (mg:Str->Option Value) (base:Heap):=Z4 P w K mg base "turns_left" 2 ["a","b","c"] Yv
theorem Zbh (B:Blt mg) (d_turn:ZcQ P w K mg base):OkD P w K mg base "turns_left" JP 2 ["a","b","c"] Yv:=fun F=>QZ F Za8 rfl rfl fun cdv A outer s H E hr=>by
  refine ⟨_,?_,(Zl (Zs (Jo Zf6 (Zn d_turn hr (by decide) rfl (Zb (Za (pv 0)) (Zb (Za (pv 1)) (Zb (Za (pv 2)) Zg)))) Zd (ZK _))))⟩
  rfl
noncomputable abbrev Jt:Stmt:=top 3
noncomputable abbrev ZbK:List Str:=["a","b","c"]
theorem Zap:Zu ZbK ["a","b","c"] (Zj Jt):=⟨rfl,rfl,rfl,by decide +kernel,rfl,by decide +kernel,by decide +kernel⟩
noncomputable abbrev Vx (P:Program) (w:World) (K:PySem.W.Frag) (mg:Str->Option Value) (base:Heap):=Z4 P w K mg base "turns_right" 2 ["a","b","c"] YE
theorem Zar (B:Blt mg) (d_turn:ZcQ P w K mg base):OkD P w K mg base "turns_right" Jt 2 ["a","b","c"] YE:=fun F=>QZ F Zap rfl rfl fun cdv A outer s H E hr=>by
  refine ⟨_,?_,(Zl (Zs (Jo Zka (Zn d_turn hr (by decide) rfl (Zb (Za (pv 0)) (Zb (Za (pv 1)) (Zb (Za (pv 2)) Zg)))) Zd (ZK _))))⟩
  rfl
noncomputable abbrev Q6:Stmt:=top 4
noncomputable abbrev ZaB:List Str:=["one","other","number"]
theorem WF:Zu ZaB ["one","other","number"] (Zj Q6):=⟨rfl,rfl,rfl,by decide +kernel,rfl,by decide +kernel,by decide +kernel⟩
noncomputable abbrev UL (P:Program) (w:World) (K:PySem.W.Frag) (mg:Str->Option Value) (base:Heap):=Z4 P w K mg base "lies_between" 1 ["one","other","number"] Yn
theorem WN (B:Blt mg):OkD P w K mg base "lies_between" Q6 1 ["one","other","number"] Yn:=fun F=>QZ F WF rfl rfl fun cdv A outer s H E hr=>by
  refine ⟨_,?_,(Zl (Zs (Uv Zdg Zdg (ZD (ZgW rfl) rfl B.min PyProof.Rows.boot_min (Zb (Za (pv 0)) (Zb (Za (pv 1)) Zg))) (Za (pv 2)) (ZD (Zed rfl) rfl B.max PyProof.Rows.boot_max (Zb (Za (pv 0)) (Zb (Za (pv 1)) Zg))))))⟩
  rfl
noncomputable abbrev WJ:Stmt:=top 5
noncomputable abbrev Zhd:List Str:=["side","spot","a","b"]
@[irreducible] def AE (X:Cx) (e:Expr) (f:DE):Prop:=ED X e f
@[irreducible] def AA (X:Cx) (es:List Expr) (as:DA):Prop:=AD X es as
theorem AA.ad {X:Cx} {es:List Expr} {as:DA} (h:AA X es as):AD X es as:=by unfold AA at h; exact h
theorem aa_d {X:Cx} {es:List Expr} {as:DA} (h:AD X es as):AA X es as:=by unfold AA; exact h
theorem AE.ed {X:Cx} {e:Expr} {f:DE} (h:AE X e f):ED X e f:=by unfold AE at h; exact h
theorem ae_e {X:Cx} {e:Expr} {f:DE} (h:ED X e f):AE X e f:=by unfold AE; exact h
theorem aa_n {X:Cx}:AA X [] Zm:=by unfold AA; exact Zg
theorem aa_c {X:Cx} {e:Expr} {es:List Expr} {f:DE} {as:DA} (a:AE X e f) (b:AA X es as) (h:starEach (e::es) X.env=(false,eval e X.env)::starEach es X.env:=by rfl):AA X (e::es) (Zc f as):=by unfold AA at b ⊢; exact Zb a.ed b h
theorem ae_l {X:Cx} {pos:Pos} {es:List Expr} {as:DA} (h:AA X es as):AE X (.List es pos) (Wa as):=by unfold AA at h; exact ae_e (Ua h)
theorem ae_t {X:Cx} {pos:Pos} {es:List Expr} {as:DA} {x1} (h:AA X es as):AE X (.Tuple es x1 pos) (Z9 as):=by unfold AA at h; exact ae_e (ZP h)
theorem ae_i {X:Cx} {pos:Pos} {i:Int} {j}:AE X (.Constant (.int i) j pos) (Zf (.int i)):=ae_e Zd
theorem ae_b {X:Cx} {pos:Pos} {b:Bool} {j}:AE X (.Constant (.bool b) j pos) (Zf (.bl b)):=ae_e QV
theorem ae_v {X:Cx} {pos:Pos} {j}:AE X (.Constant .none j pos) (Zf .non):=ae_e ZgG
theorem ae_s {X:Cx} {pos:Pos} {x:Str} {j}:AE X (.Constant (.str x) j pos) (Zf (.str x)):=ae_e ZgE
theorem ae_m {X:Cx} {pos:Pos} {e:Expr} {f:DE} (h:AE X e f):AE X (.UnaryOp .USub e pos) (YO JB f):=ae_e (J9 JY h.ed)
theorem sc_lies_on:Zu Zhd ["side","spot"] (Zj WJ):=⟨rfl,rfl,rfl,by decide +kernel,rfl,by decide +kernel,by decide +kernel⟩
noncomputable abbrev ZcR (P:Program) (w:World) (K:PySem.W.Frag) (mg:Str->Option Value) (base:Heap):=Z4 P w K mg base "lies_on" 2 ["side","spot"] Qp
theorem Zex (B:Blt mg) (d_turn:ZcQ P w K mg base) (d_lies_between:UL P w K mg base):OkD P w K mg base "lies_on" WJ 2 ["side","spot"] Qp:=fun F=>QZ F sc_lies_on rfl rfl fun cdv A outer s H E hr=>by
  refine ⟨_,?_,(Zk (ZI (i:=2) sc_lies_on.nd rfl (Or.inl rfl) (Zy Ye (Za (pv 0)) Zd (fun _ _=>rfl)))
      (Zk (ZI (i:=3) sc_lies_on.nd rfl (Or.inl rfl) (Zy Ye (Za (pv 0)) Zd (fun _ _=>rfl)))
      (Zk (YH (ZX (Ziu hr.units) (Zn d_turn hr (by decide) rfl (Zb (Za (pv 2)) (Zb (Za (pv 3)) (Zb (Za (pv 1)) Zg)))) Zd (ZK _)) (Zl (Zs QV)) ZF)
      (Zl (Zs (Y6 (Zn d_lies_between hr (by decide) rfl (Zb (Zy Ye (Za (pv 2)) Zd (fun _ _=>rfl)) (Zb (Zy Ye (Za (pv 3)) Zd (fun _ _=>rfl)) (Zb (Zy Ye (Za (pv 1)) Zd (fun _ _=>rfl)) Zg)))) (Qv (Zn d_lies_between hr (by decide) rfl (Zb (Zy Ye (Za (pv 2)) Zd (fun _ _=>rfl)) (Zb (Zy Ye (Za (pv 3)) Zd (fun _ _=>rfl)) (Zb (Zy Ye (Za (pv 1)) Zd (fun _ _=>rfl)) Zg)))))))))))⟩
  rfl
noncomputable abbrev JR:Stmt:=top 6
noncomputable abbrev ZcK:List Str:=["a","b","c","d"]
theorem Zba:Zu ZcK ["a","b","c","d"] (Zj JR):=⟨rfl,rfl,rfl,by decide +kernel,rfl,by decide +kernel,by decide +kernel⟩
noncomputable abbrev Wi (P:Program) (w:World) (K:PySem.W.Frag) (mg:Str->Option Value) (base:Heap):=Z4 P w K mg base "line_parts" 3 ["a","b","c","d"] Yw
theorem Zbj (B:Blt mg) (d_turns_left:Uh P w K mg base) (d_turns_right:Vx P w K mg base):OkD P w K mg base "line_parts" JR 3 ["a","b","c","d"] Yw:=fun F=>QZ F Zba rfl rfl fun cdv A outer s H E hr=>by
  refine ⟨_,?_,(Zk (YH (Ys (Zn d_turns_left hr (by decide) rfl (Zb (Za (pv 0)) (Zb (Za (pv 1)) (Zb (Za (pv 2)) Zg))))) (Zl (Zs (Zn d_turns_right hr (by decide) rfl (Zb (Za (pv 0)) (Zb (Za (pv 1)) (Zb (Za (pv 3)) Zg)))))) ZF)
      (Zl (Zs (Y6 (Zn d_turns_right hr (by decide) rfl (Zb (Za (pv 0)) (Zb (Za (pv 1)) (Zb (Za (pv 2)) Zg)))) (Qv (Zn d_turns_left hr (by decide) rfl (Zb (Za (pv 0)) (Zb (Za (pv 1)) (Zb (Za (pv 3)) Zg)))))))))⟩
  rfl
noncomputable abbrev JQ:Stmt:=top 7
noncomputable abbrev ZcJ:List Str:=["one","other"]
theorem Za9:Zu ZcJ ["one","other"] (Zj JQ):=⟨rfl,rfl,rfl,by decide +kernel,rfl,by decide +kernel,by decide +kernel⟩
noncomputable abbrev Wh (P:Program) (w:World) (K:PySem.W.Frag) (mg:Str->Option Value) (base:Heap):=Z4 P w K mg base "sides_meet" 4 ["one","other"] ZE
theorem Zbi (B:Blt mg) (d_lies_on:ZcR P w K mg base) (d_line_parts:Wi P w K mg base):OkD P w K mg base "sides_meet" JQ 4 ["one","other"] ZE:=fun F=>QZ F Za9 rfl rfl fun cdv A outer s H E hr=>by
  refine ⟨_,?_,(Zk (YH (ZcZ (UC (Ys (Zn d_lies_on hr (by decide) rfl (Zb (Za (pv 0)) (Zb (Zy Ye (Za (pv 1)) Zd (fun _ _=>rfl)) Zg)))) (JL (Ys (Zn d_lies_on hr (by decide) rfl (Zb (Za (pv 0)) (Zb (Zy Ye (Za (pv 1)) Zd (fun _ _=>rfl)) Zg))))))) (Zl (Zs QV)) ZF)
      (Zk (YH (ZcZ (UC (Ys (Zn d_lies_on hr (by decide) rfl (Zb (Za (pv 1)) (Zb (Zy Ye (Za (pv 0)) Zd (fun _ _=>rfl)) Zg)))) (JL (Ys (Zn d_lies_on hr (by decide) rfl (Zb (Za (pv 1)) (Zb (Zy Ye (Za (pv 0)) Zd (fun _ _=>rfl)) Zg))))))) (Zl (Zs QV)) ZF)
      (Zl (Zs (Y6 (Zn d_line_parts hr (by decide) rfl (Zb (Zy Ye (Za (pv 0)) Zd (fun _ _=>rfl)) (Zb (Zy Ye (Za (pv 0)) Zd (fun _ _=>rfl)) (Zb (Zy Ye (Za (pv 1)) Zd (fun _ _=>rfl)) (Zb (Zy Ye (Za (pv 1)) Zd (fun _ _=>rfl)) Zg))))) (Qv (Zn d_line_parts hr (by decide) rfl (Zb (Zy Ye (Za (pv 1)) Zd (fun _ _=>rfl)) (Zb (Zy Ye (Za (pv 1)) Zd (fun _ _=>rfl)) (Zb (Zy Ye (Za (pv 0)) Zd (fun _ _=>rfl)) (Zb (Zy Ye (Za (pv 0)) Zd (fun _ _=>rfl)) Zg)))))))))))⟩
  rfl
noncomputable abbrev VD:Stmt:=top 12
noncomputable abbrev ZeZ:List Str:=["thing"]
theorem Zc4:Zu ZeZ ["thing"] (Zj VD):=⟨rfl,rfl,rfl,by decide +kernel,rfl,by decide +kernel,by decide +kernel⟩
noncomputable abbrev ZaZ (P:Program) (w:World) (K:PySem.W.Frag) (mg:Str->Option Value) (base:Heap):=Z4 P w K mg base "is_whole" 1 ["thing"] Uu
theorem Zdb (B:Blt mg):OkD P w K mg base "is_whole" VD 1 ["thing"] Uu:=fun F=>QZ F Zc4 rfl rfl fun cdv A outer s H E hr=>by
  refine ⟨_,?_,(Zl (Zs (Y6 (JJ (T:=.int) rfl B.isinstance rfl B.int PyProof.Rows.boot_int (Za (pv 0))) (Qv (ZiE (JJ (T:=.bool) rfl B.isinstance rfl B.bool PyProof.Rows.boot_bool (Za (pv 0))))))))⟩
  rfl
noncomputable abbrev VF:Stmt:=top 13
noncomputable abbrev Ze1:List Str:=["thing"]
theorem Zc6:Zu Ze1 ["thing"] (Zj VF):=⟨rfl,rfl,rfl,by decide +kernel,rfl,by decide +kernel,by decide +kernel⟩
noncomputable abbrev Za1 (P:Program) (w:World) (K:PySem.W.Frag) (mg:Str->Option Value) (base:Heap):=Z4 P w K mg base "is_place" 2 ["thing"] Qf
theorem Zdd (B:Blt mg) (d_is_whole:ZaZ P w K mg base) (c_FARTHEST:∃ t,mg "FARTHEST"=some (.int 100 t)):OkD P w K mg base "is_place" VF 2 ["thing"] Qf:=fun F=>QZ F Zc6 rfl rfl fun cdv A outer s H E hr=>by
  refine ⟨_,?_,(Zl (Zs (Y6 (Zn d_is_whole hr (by decide) rfl (Zb (Za (pv 0)) Zg)) (Qv (Uv Zdg Zdg (J9 JY (Zbz rfl c_FARTHEST.choose_spec)) (Za (pv 0)) (Zbz rfl c_FARTHEST.choose_spec))))))⟩
  rfl
noncomputable abbrev WK:Stmt:=top 14
noncomputable abbrev Zhe:List Str:=["thing"]
theorem Zeq:Zu Zhe ["thing"] (Zj WK):=⟨rfl,rfl,rfl,by decide +kernel,rfl,by decide +kernel,by decide +kernel⟩
noncomputable abbrev ZcS (P:Program) (w:World) (K:PySem.W.Frag) (mg:Str->Option Value) (base:Heap):=Z4 P w K mg base "is_spot" 3 ["thing"] Yk
theorem Zey (B:Blt mg) (d_is_place:Za1 P w K mg base):OkD P w K mg base "is_spot" WK 3 ["thing"] Yk:=fun F=>QZ F Zeq rfl rfl fun cdv A outer s H E hr=>by
  refine ⟨_,?_,(Zl (Zs (Y6 (JJ (T:=.tuple) rfl B.isinstance rfl B.tuple PyProof.Rows.boot_tuple (Za (pv 0))) (Y6 (Jo (ZdW hr.units) (ZD Uf rfl B.len PySem.boot_len (Zb (Za (pv 0)) Zg)) Zd (ZK _)) (Y6 (Zn d_is_place hr (by decide) rfl (Zb (Zy Ye (Za (pv 0)) Zd (fun _ _=>rfl)) Zg)) (Qv (Zn d_is_place hr (by decide) rfl (Zb (Zy Ye (Za (pv 0)) Zd (fun _ _=>rfl)) Zg))))))))⟩
  rfl
noncomputable abbrev Y4:Stmt:=top 15
noncomputable abbrev Vw:List Str:=["thing","part"]
theorem sc_are_unlike_spots:Zu Vw ["thing"] (Zj Y4):=⟨rfl,rfl,rfl,by decide +kernel,rfl,by decide +kernel,by decide +kernel⟩
noncomputable abbrev Q2 (P:Program) (w:World) (K:PySem.W.Frag) (mg:Str->Option Value) (base:Heap):=Z4 P w K mg base "are_unlike_spots" 4 ["thing"] ZC
theorem U0 (B:Blt mg) (d_is_spot:ZcS P w K mg base):OkD P w K mg base "are_unlike_spots" Y4 4 ["thing"] ZC:=fun F=>QZ F sc_are_unlike_spots rfl rfl fun cdv A outer s H E hr=>by
  refine ⟨_,?_,(Zk (Js PassesOwn.never rfl (ZaO (Za (pv 0))) (QM (i:=1) sc_are_unlike_spots.nd rfl (Or.inl rfl)) (Zl (YH (UD (Ys (Zn d_is_spot hr (by decide) rfl (Zb (Za (pv 1)) Zg)))) (Zl (Zs QV)) ZF)))
      (Zl (Zs (Jo (ZdW hr.units) (Zcs rfl hr.units rfl B.len rfl B.set (Za (pv 0))) (ZD Uf rfl B.len PySem.boot_len (Zb (Za (pv 0)) Zg)) (ZK _)))))⟩
  rfl
noncomputable abbrev Y3:Stmt:=top 16
noncomputable abbrev Vv:List Str:=["thing"]
theorem UQ:Zu Vv ["thing"] (Zj Y3):=⟨rfl,rfl,rfl,by decide +kernel,rfl,by decide +kernel,by decide +kernel⟩
noncomputable abbrev Q1 (P:Program) (w:World) (K:PySem.W.Frag) (mg:Str->Option Value) (base:Heap):=Z4 P w K mg base "could_be_corners" 5 ["thing"] ZA
theorem UZ (B:Blt mg) (c_FEWEST_CORNERS:∃ t,mg "FEWEST_CORNERS"=some (.int 3 t)) (c_MOST_CORNERS:∃ t,mg "MOST_CORNERS"=some (.int 12 t)) (d_are_unlike_spots:Q2 P w K mg base):OkD P w K mg base "could_be_corners" Y3 5 ["thing"] ZA:=fun F=>QZ F UQ rfl rfl fun cdv A outer s H E hr=>by
  refine ⟨_,?_,(Zk (YH (UD (Ys (JJ (T:=.tuple) rfl B.isinstance rfl B.tuple PyProof.Rows.boot_tuple (Za (pv 0))))) (Zl (Zs QV)) ZF)
      (Zl (Zs (Y6 (Uv Zdg Zdg (Zbz rfl c_FEWEST_CORNERS.choose_spec) (ZD Uf rfl B.len PySem.boot_len (Zb (Za (pv 0)) Zg)) (Zbz rfl c_MOST_CORNERS.choose_spec)) (Qv (Zn d_are_unlike_spots hr (by decide) rfl (Zb (Za (pv 0)) Zg)))))))⟩
  rfl
noncomputable abbrev Yf:Stmt:=top 17
noncomputable abbrev Jq:List Str:=["corners"]
theorem Vb:Zu Jq ["corners"] (Zj Yf):=⟨rfl,rfl,rfl,by decide +kernel,rfl,by decide +kernel,by decide +kernel⟩
noncomputable abbrev Qh (P:Program) (w:World) (K:PySem.W.Frag) (mg:Str->Option Value) (base:Heap):=Z4 P w K mg base "turns_all_round" 2 ["corners"] Z1
theorem Vd (B:Blt mg) (d_turn:ZcQ P w K mg base):OkD P w K mg base "turns_all_round" Yf 2 ["corners"] Z1:=fun F=>QZ F Vb rfl rfl fun cdv A outer s H E hr=>by
  refine ⟨_,?_,(Zl (Zs (Ub (N:=["k","corners"]) (caps:=[none,some 0]) (JC (sc:=Zj Yf) rfl (by decide +kernel)) (JF (sc:=Zj Yf) (XN:=Jq) rfl rfl (by decide +kernel)) rfl (VO rfl B.range (ZD Uf rfl B.len PySem.boot_len (Zb (Za (pv 0)) Zg))) (QB 0) (fun _ _ _ _=>QM (i:=0) (show (["k","corners"]:List Str).Nodup by decide +kernel) rfl (Or.inl rfl)) (fun _ _ _ _=>UP) (fun _ _ _ _=>(Zn d_turn hr (by decide) rfl (Zb (Zy Ye (Za (pv 1)) (Zi Qr (Za (pv 0)) Zd) (fun _ _=>rfl)) (Zb (Zy Ye (Za (pv 1)) (Zi Qr (Za (pv 0)) Zd) (fun _ _=>rfl)) (Zb (Zy Ye (Za (pv 1)) (Za (pv 0)) (fun _ _=>rfl)) Zg))))))))⟩
  rfl
noncomputable abbrev Jl:Stmt:=top 18
noncomputable abbrev ZaX:List Str:=["corners"]
theorem Zc3:Zu ZaX ["corners"] (Zj Jl):=⟨rfl,rfl,rfl,by decide +kernel,rfl,by decide +kernel,by decide +kernel⟩
noncomputable abbrev ZaY (P:Program) (w:World) (K:PySem.W.Frag) (mg:Str->Option Value) (base:Heap):=Z4 P w K mg base "sides_of" 1 ["corners"] QC
theorem Zda (B:Blt mg):OkD P w K mg base "sides_of" Jl 1 ["corners"] QC:=fun F=>QZ F Zc3 rfl rfl fun cdv A outer s H E hr=>by
  refine ⟨_,?_,(Zl (Zs (Ub (N:=["k","corners"]) (caps:=[none,some 0]) (JC (sc:=Zj Jl) rfl (by decide +kernel)) (JF (sc:=Zj Jl) (XN:=ZaX) rfl rfl (by decide +kernel)) rfl (VO rfl B.range (ZD Uf rfl B.len PySem.boot_len (Zb (Za (pv 0)) Zg))) (QB 0) (fun _ _ _ _=>QM (i:=0) (show (["k","corners"]:List Str).Nodup by decide +kernel) rfl (Or.inl rfl)) (fun _ _ _ _=>UP) (fun _ _ _ _=>(ZP (Zb (Zy Ye (Za (pv 1)) (Zi Qr (Za (pv 0)) Zd) (fun _ _=>rfl)) (Zb (Zy Ye (Za (pv 1)) (Za (pv 0)) (fun _ _=>rfl)) Zg)))))))⟩
  rfl
noncomputable abbrev YI:Stmt:=top 19
noncomputable abbrev UB:List Str:=["one","other"]
theorem JO:Zu UB ["one","other"] (Zj YI):=⟨rfl,rfl,rfl,by decide +kernel,rfl,by decide +kernel,by decide +kernel⟩
noncomputable abbrev Qw (P:Program) (w:World) (K:PySem.W.Frag) (mg:Str->Option Value) (base:Heap):=Z4 P w K mg base "have_common_corner" 1 ["one","other"] Zt
theorem JX (B:Blt mg):OkD P w K mg base "have_common_corner" YI 1 ["one","other"] Zt:=fun F=>QZ F JO rfl rfl fun cdv A outer s H E hr=>by
  refine ⟨_,?_,(Zl (Zs (Zmz (Jo (ZlO hr.units) (Zy Ye (Za (pv 0)) Zd (fun _ _=>rfl)) (Za (pv 1)) (by rfl)) (Qv (Jo (ZlO hr.units) (Zy Ye (Za (pv 0)) Zd (fun _ _=>rfl)) (Za (pv 1)) (by rfl))))))⟩
  rfl
noncomputable abbrev Y2:Stmt:=top 20
noncomputable abbrev Vu:List Str:=["corners","sides","k","side","other"]
theorem sc_sides_keep_apart:Zu Vu ["corners"] (Zj Y2):=⟨rfl,rfl,rfl,by decide +kernel,rfl,by decide +kernel,by decide +kernel⟩
noncomputable abbrev Q0 (P:Program) (w:World) (K:PySem.W.Frag) (mg:Str->Option Value) (base:Heap):=Z4 P w K mg base "sides_keep_apart" 5 ["corners"] Z7
theorem UY (B:Blt mg) (d_sides_of:ZaY P w K mg base) (d_have_common_corner:Qw P w K mg base) (d_sides_meet:Wh P w K mg base):OkD P w K mg base "sides_keep_apart" Y2 5 ["corners"] Z7:=fun F=>QZ F sc_sides_keep_apart rfl rfl fun cdv A outer s H E hr=>by
  refine ⟨_,?_,(Zk (ZI (i:=1) sc_sides_keep_apart.nd rfl (Or.inl rfl) (Zn d_sides_of hr (by decide) rfl (Zb (Za (pv 0)) Zg)))
      (Zk (Js PassesOwn.never rfl (WY rfl B.enumerate (Za (pv 1))) (U2 (i:=2) (j:=3) rfl sc_sides_keep_apart.nd rfl rfl (Or.inl rfl) (Or.inl rfl)) (Zl (Js PassesOwn.never rfl (ZaO (Zaz (Za (pv 1)) Jb (Ja (Za (pv 2))))) (QM (i:=4) sc_sides_keep_apart.nd rfl (Or.inl rfl)) (Zl (YH (ZcZ (Q4 (UD (Ys (Zn d_have_common_corner hr (by decide) rfl (Zb (Za (pv 3)) (Zb (Za (pv 4)) Zg))))) (Jr (Ys (Zn d_sides_meet hr (by decide) rfl (Zb (Za (pv 3)) (Zb (Za (pv 4)) Zg))))))) (Zl (Zs QV)) ZF)))))
      (Zl (Zs QV))))⟩
  rfl
noncomputable abbrev Qq:Stmt:=top 21
noncomputable abbrev Wt:List Str:=["corners"]
theorem VC:Zu Wt ["corners"] (Zj Qq):=⟨rfl,rfl,rfl,by decide +kernel,rfl,by decide +kernel,by decide +kernel⟩
noncomputable abbrev JK (P:Program) (w:World) (K:PySem.W.Frag) (mg:Str->Option Value) (base:Heap):=Z4 P w K mg base "inside_is_left" 3 ["corners"] Yl
theorem VI (B:Blt mg) (d_turns_left:Uh P w K mg base):OkD P w K mg base "inside_is_left" Qq 3 ["corners"] Yl:=fun F=>QZ F VC rfl rfl fun cdv A outer s H E hr=>by
  refine ⟨_,?_,(Zl (Zs (Zn d_turns_left hr (by decide) rfl (Zb (Zy Ye (Za (pv 0)) (J9 JY Zd) (fun _ _=>rfl)) (Zb (Zy Ye (Za (pv 0)) Zd (fun _ _=>rfl)) (Zb (Zy Ye (Za (pv 0)) Zd (fun _ _=>rfl)) Zg))))))⟩
  rfl
noncomputable abbrev WL:Stmt:=top 22
noncomputable abbrev Zhf:List Str:=["thing"]
theorem Zer:Zu Zhf ["thing"] (Zj WL):=⟨rfl,rfl,rfl,by decide +kernel,rfl,by decide +kernel,by decide +kernel⟩
noncomputable abbrev Zaj (P:Program) (w:World) (K:PySem.W.Frag) (mg:Str->Option Value) (base:Heap):=Z4 P w K mg base "is_plot" 6 ["thing"] Z3
theorem Zez (B:Blt mg) (d_could_be_corners:Q1 P w K mg base) (d_turns_all_round:Qh P w K mg base) (d_inside_is_left:JK P w K mg base) (d_sides_keep_apart:Q0 P w K mg base):OkD P w K mg base "is_plot" WL 6 ["thing"] Z3:=fun F=>QZ F Zer rfl rfl fun cdv A outer s H E hr=>by
  refine ⟨_,?_,(Zk (YH (ZcZ (UC (UD (Ys (Zn d_could_be_corners hr (by decide) rfl (Zb (Za (pv 0)) Zg)))) (JL (ZX (Ziu hr.units) (Zy Ye (Za (pv 0)) Zd (fun _ _=>rfl)) (ZD (Zcy rfl hr.units) rfl B.min PyProof.Rows.boot_min (Zb (Za (pv 0)) Zg)) (ZK _))))) (Zl (Zs QV)) ZF)
      (Zk (YH (ZX (ZlO hr.units) Zd (Zn d_turns_all_round hr (by decide) rfl (Zb (Za (pv 0)) Zg)) (by rfl)) (Zl (Zs QV)) ZF)
      (Zl (Zs (Y6 (Zn d_inside_is_left hr (by decide) rfl (Zb (Za (pv 0)) Zg)) (Qv (Zn d_sides_keep_apart hr (by decide) rfl (Zb (Za (pv 0)) Zg))))))))⟩
  rfl
noncomputable abbrev VE:Stmt:=top 23
noncomputable abbrev Ze0:List Str:=["thing"]
theorem Zc5:Zu Ze0 ["thing"] (Zj VE):=⟨rfl,rfl,rfl,by decide +kernel,rfl,by decide +kernel,by decide +kernel⟩
noncomputable abbrev Za0 (P:Program) (w:World) (K:PySem.W.Frag) (mg:Str->Option Value) (base:Heap):=Z4 P w K mg base "is_round" 7 ["thing"] Qe
theorem Zdc (B:Blt mg) (d_is_plot:Zaj P w K mg base) (d_turns_all_round:Qh P w K mg base):OkD P w K mg base "is_round" VE 7 ["thing"] Qe:=fun F=>QZ F Zc5 rfl rfl fun cdv A outer s H E hr=>by
  refine ⟨_,?_,(Zl (Zs (Y6 (Zn d_is_plot hr (by decide) rfl (Zb (Za (pv 0)) Zg)) (Qv (Jo Zf6 (ZD (Zcy rfl hr.units) rfl B.min PyProof.Rows.boot_min (Zb (Zn d_turns_all_round hr (by decide) rfl (Zb (Za (pv 0)) Zg)) Zg)) Zd (ZK _))))))⟩
  rfl
noncomputable abbrev Q9:Stmt:=top 25
noncomputable abbrev ZaE:List Str:=["_law_script","_law_k"]
theorem WI:Zu ZaE ["_law_script","_law_k"] (Zj Q9):=⟨rfl,rfl,rfl,by decide +kernel,rfl,by decide +kernel,by decide +kernel⟩
noncomputable abbrev UO (P:Program) (w:World) (K:PySem.W.Frag) (mg:Str->Option Value) (base:Heap):=Z4 P w K mg base "_law_cell_at" 1 ["_law_script","_law_k"] Yo
theorem WR (B:Blt mg):OkD P w K mg base "_law_cell_at" Q9 1 ["_law_script","_law_k"] Yo:=fun F=>QZ F WI rfl rfl fun cdv A outer s H E hr=>by
  refine ⟨_,?_,(Zk (YH (ZX Zka (Za (pv 1)) (ZD Uf rfl B.len PySem.boot_len (Zb (Za (pv 0)) Zg)) (ZK _)) (Zl (Zs (Zy Ye (Za (pv 0)) (Za (pv 1)) (fun _ _=>rfl)))) ZF)
      (Zl (Zs Zd)))⟩
  rfl
noncomputable abbrev JU:Stmt:=top 26
noncomputable abbrev ZcN:List Str:=["_law_script","_law_k","_law_drawn_here"]
theorem sc__law_mixed:Zu ZcN ["_law_script","_law_k"] (Zj JU):=⟨rfl,rfl,rfl,by decide +kernel,rfl,by decide +kernel,by decide +kernel⟩
noncomputable abbrev Wk (P:Program) (w:World) (K:PySem.W.Frag) (mg:Str->Option Value) (base:Heap):=Z4 P w K mg base "_law_mixed" 2 ["_law_script","_law_k"] Zw
theorem Zbn (B:Blt mg) (d__law_cell_at:UO P w K mg base):OkD P w K mg base "_law_mixed" JU 2 ["_law_script","_law_k"] Zw:=fun F=>QZ F sc__law_mixed rfl rfl fun cdv A outer s H E hr=>by
  refine ⟨_,?_,(Zk (ZI (i:=2) sc__law_mixed.nd rfl (Or.inl rfl) (Zi Yu (Zi YX (Zi Yg (Zi Yg (Zn d__law_cell_at hr (by decide) rfl (Zb (Za (pv 0)) (Zb (Za (pv 1)) Zg))) (Zi YX Zd (Za (pv 1)))) Zd) Zd) Zd))
      (Zl (Zs (Zi Yu (Zi Yg (Zi Yg (Zi YX (Za (pv 2)) (Za (pv 2))) (Zi YX Zd (Za (pv 2)))) (Za (pv 1))) Zd))))⟩
  rfl
noncomputable abbrev JV:Stmt:=top 27
noncomputable abbrev ZcO:List Str:=["_law_number_here","_law_k","_law_drawn_here"]
theorem sc__law_drawn:Zu ZcO ["_law_number_here","_law_k"] (Zj JV):=⟨rfl,rfl,rfl,by decide +kernel,rfl,by decide +kernel,by decide +kernel⟩
noncomputable abbrev Uj (P:Program) (w:World) (K:PySem.W.Frag) (mg:Str->Option Value) (base:Heap):=Z4 P w K mg base "_law_drawn" 1 ["_law_number_here","_law_k"] Zz
theorem Zbo (B:Blt mg):OkD P w K mg base "_law_drawn" JV 1 ["_law_number_here","_law_k"] Zz:=fun F=>QZ F sc__law_drawn rfl rfl fun cdv A outer s H E hr=>by
  refine ⟨_,?_,(Zk (ZI (i:=2) sc__law_drawn.nd rfl (Or.inl rfl) (Zi Yu (Zi YX (Zi Yg (Zi Yg (Za (pv 0)) (Zi YX Zd (Za (pv 1)))) Zd) Zd) Zd))
      (Zl (Zs (Zi Yu (Zi Yg (Zi Yg (Zi YX (Za (pv 2)) (Za (pv 2))) (Zi YX Zd (Za (pv 2)))) (Za (pv 1))) Zd))))⟩
  rfl
noncomputable abbrev Jv:Stmt:=top 28
noncomputable abbrev ZbM:List Str:=["_law_thing","_law_low","_law_high"]
theorem Zaq:Zu ZbM ["_law_thing","_law_low","_law_high"] (Zj Jv):=⟨rfl,rfl,rfl,by decide +kernel,rfl,by decide +kernel,by decide +kernel⟩
noncomputable abbrev Vy (P:Program) (w:World) (K:PySem.W.Frag) (mg:Str->Option Value) (base:Heap):=Z4 P w K mg base "_law_number" 1 ["_law_thing","_law_low","_law_high"] YF
theorem Zas (B:Blt mg):OkD P w K mg base "_law_number" Jv 1 ["_law_thing","_law_low","_law_high"] YF:=fun F=>QZ F Zaq rfl rfl fun cdv A outer s H E hr=>by
  refine ⟨_,?_,(Zl (Zs (Y6 (JJ (T:=.int) rfl B.isinstance rfl B.int PyProof.Rows.boot_int (Za (pv 0))) (Y6 (ZiE (JJ (T:=.bool) rfl B.isinstance rfl B.bool PyProof.Rows.boot_bool (Za (pv 0)))) (Qv (Uv Zdg Zdg (Za (pv 1)) (Za (pv 0)) (Za (pv 2))))))))⟩
  rfl
noncomputable abbrev US:Stmt:=top 29
noncomputable abbrev ZdA:List Str:=["_law_a","_law_b","_law_c"]
theorem ZbX:Zu ZdA ["_law_a","_law_b","_law_c"] (Zj US):=⟨rfl,rfl,rfl,by decide +kernel,rfl,by decide +kernel,by decide +kernel⟩
noncomputable abbrev Qi (P:Program) (w:World) (K:PySem.W.Frag) (mg:Str->Option Value) (base:Heap):=Z4 P w K mg base "_law_turn" 1 ["_law_a","_law_b","_law_c"] ZJ
theorem Zb7 (B:Blt mg):OkD P w K mg base "_law_turn" US 1 ["_law_a","_law_b","_law_c"] ZJ:=fun F=>QZ F ZbX rfl rfl fun cdv A outer s H E hr=>by
  refine ⟨_,?_,(Zl (Zs (Zi Qr (Zi YX (Zi Qr (Zy Ye (Za (pv 1)) Zd (fun _ _=>rfl)) (Zy Ye (Za (pv 0)) Zd (fun _ _=>rfl))) (Zi Qr (Zy Ye (Za (pv 2)) Zd (fun _ _=>rfl)) (Zy Ye (Za (pv 0)) Zd (fun _ _=>rfl)))) (Zi YX (Zi Qr (Zy Ye (Za (pv 1)) Zd (fun _ _=>rfl)) (Zy Ye (Za (pv 0)) Zd (fun _ _=>rfl))) (Zi Qr (Zy Ye (Za (pv 2)) Zd (fun _ _=>rfl)) (Zy Ye (Za (pv 0)) Zd (fun _ _=>rfl)))))))⟩
  rfl
noncomputable abbrev WM:Stmt:=top 30
noncomputable abbrev Zhg:List Str:=["_law_a","_law_b","_law_c"]
theorem Zes:Zu Zhg ["_law_a","_law_b","_law_c"] (Zj WM):=⟨rfl,rfl,rfl,by decide +kernel,rfl,by decide +kernel,by decide +kernel⟩
noncomputable abbrev ZcT (P:Program) (w:World) (K:PySem.W.Frag) (mg:Str->Option Value) (base:Heap):=Z4 P w K mg base "_law_on" 2 ["_law_a","_law_b","_law_c"] Ym
theorem ZeA (B:Blt mg) (d__law_turn:Qi P w K mg base):OkD P w K mg base "_law_on" WM 2 ["_law_a","_law_b","_law_c"] Ym:=fun F=>QZ F Zes rfl rfl fun cdv A outer s H E hr=>by
  refine ⟨_,?_,(Zk (YH (ZX (Ziu hr.units) (Zn d__law_turn hr (by decide) rfl (Zb (Za (pv 0)) (Zb (Za (pv 1)) (Zb (Za (pv 2)) Zg)))) Zd (ZK _)) (Zl (Zs QV)) ZF)
      (Zl (Zs (Y6 (Uv Zdg Zdg (ZD (ZgW rfl) rfl B.min PyProof.Rows.boot_min (Zb (Zy Ye (Za (pv 0)) Zd (fun _ _=>rfl)) (Zb (Zy Ye (Za (pv 1)) Zd (fun _ _=>rfl)) Zg))) (Zy Ye (Za (pv 2)) Zd (fun _ _=>rfl)) (ZD (Zed rfl) rfl B.max PyProof.Rows.boot_max (Zb (Zy Ye (Za (pv 0)) Zd (fun _ _=>rfl)) (Zb (Zy Ye (Za (pv 1)) Zd (fun _ _=>rfl)) Zg)))) (Qv (Uv Zdg Zdg (ZD (ZgW rfl) rfl B.min PyProof.Rows.boot_min (Zb (Zy Ye (Za (pv 0)) Zd (fun _ _=>rfl)) (Zb (Zy Ye (Za (pv 1)) Zd (fun _ _=>rfl)) Zg))) (Zy Ye (Za (pv 2)) Zd (fun _ _=>rfl)) (ZD (Zed rfl) rfl B.max PyProof.Rows.boot_max (Zb (Zy Ye (Za (pv 0)) Zd (fun _ _=>rfl)) (Zb (Zy Ye (Za (pv 1)) Zd (fun _ _=>rfl)) Zg)))))))))⟩
  rfl
noncomputable abbrev UU:Stmt:=top 31
noncomputable abbrev ZdC:List Str:=["_law_corners","_law_at","_law_by"]
theorem ZbZ:Zu ZdC ["_law_corners","_law_at","_law_by"] (Zj UU):=⟨rfl,rfl,rfl,by decide +kernel,rfl,by decide +kernel,by decide +kernel⟩
noncomputable abbrev QS (P:Program) (w:World) (K:PySem.W.Frag) (mg:Str->Option Value) (base:Heap):=Z4 P w K mg base "_law_next" 1 ["_law_corners","_law_at","_law_by"] Zv
theorem Zca (B:Blt mg):OkD P w K mg base "_law_next" UU 1 ["_law_corners","_law_at","_law_by"] Zv:=fun F=>QZ F ZbZ rfl rfl fun cdv A outer s H E hr=>by
  refine ⟨_,?_,(Zl (Zs (Zy Ye (Za (pv 0)) (Zi Yu (Zi Yg (Za (pv 1)) (Za (pv 2))) (ZD Uf rfl B.len PySem.boot_len (Zb (Za (pv 0)) Zg))) (fun _ _=>rfl))))⟩
  rfl
noncomputable abbrev UW:Stmt:=top 32
noncomputable abbrev ZdE:List Str:=["_law_corners","_law_found","_law_at","_law_a","_law_b"]
theorem sc__law_area:Zu ZdE ["_law_corners"] (Zj UW):=⟨rfl,rfl,rfl,by decide +kernel,rfl,by decide +kernel,by decide +kernel⟩
noncomputable abbrev U6 (P:Program) (w:World) (K:PySem.W.Frag) (mg:Str->Option Value) (base:Heap):=Z4 P w K mg base "_law_area" 2 ["_law_corners"] Yz
theorem Zcc (B:Blt mg) (d__law_next:QS P w K mg base):OkD P w K mg base "_law_area" UW 2 ["_law_corners"] Yz:=fun F=>QZ F sc__law_area rfl rfl fun cdv A outer s H E hr=>by
  refine ⟨_,?_,(Zk (ZI (i:=1) sc__law_area.nd rfl (Or.inl rfl) Zd)
      (Zk (Js PassesOwn.never rfl (WY rfl B.enumerate (Za (pv 0))) (U2 (i:=2) (j:=3) rfl sc__law_area.nd rfl rfl (Or.inl rfl) (Or.inl rfl)) (Zk (ZI (i:=4) sc__law_area.nd rfl (Or.inl rfl) (Zn d__law_next hr (by decide) rfl (Zb (Za (pv 0)) (Zb (Za (pv 2)) (Zb Zd Zg)))))
      (Zl (ZI (i:=1) sc__law_area.nd rfl (Or.inl rfl) (Zi Qr (Zi Yg (Za (pv 1)) (Zi YX (Zy Ye (Za (pv 3)) Zd (fun _ _=>rfl)) (Zy Ye (Za (pv 4)) Zd (fun _ _=>rfl)))) (Zi YX (Zy Ye (Za (pv 3)) Zd (fun _ _=>rfl)) (Zy Ye (Za (pv 4)) Zd (fun _ _=>rfl))))))))
      (Zl (Zs (Za (pv 1))))))⟩
  rfl
noncomputable abbrev QJ:Stmt:=top 33
noncomputable abbrev Zai:List Str:=["_law_corners","_law_found","_law_at"]
theorem sc__law_in_order:Zu Zai ["_law_corners"] (Zj QJ):=⟨rfl,rfl,rfl,by decide +kernel,rfl,by decide +kernel,by decide +kernel⟩
noncomputable abbrev Y9 (P:Program) (w:World) (K:PySem.W.Frag) (mg:Str->Option Value) (base:Heap):=Z4 P w K mg base "_law_in_order" 3 ["_law_corners"] ZH
theorem Wn (B:Blt mg) (d__law_area:U6 P w K mg base):OkD P w K mg base "_law_in_order" QJ 3 ["_law_corners"] ZH:=fun F=>QZ F sc__law_in_order rfl rfl fun cdv A outer s H E hr=>by
  refine ⟨_,?_,(Zk (ZI (i:=1) sc__law_in_order.nd rfl (Or.inl rfl) (Uc ZiK rfl B.list PyProof.Rows.boot_list (Zb (Za (pv 0)) Zg)))
      (Zk (YH (ZX Zka (Zn d__law_area hr (by decide) rfl (Zb (Za (pv 1)) Zg)) Zd (ZK _)) (Zl (ZI (i:=1) sc__law_in_order.nd rfl (Or.inl rfl) (ZgF (Za (pv 1))))) ZF)
      (Zk (ZI (i:=2) sc__law_in_order.nd rfl (Or.inl rfl) (Zh2 hr.units (Za (pv 1)) (ZD (Zcy rfl hr.units) rfl B.min PyProof.Rows.boot_min (Zb (Za (pv 1)) Zg))))
      (Zl (Zs (Uc ZgV rfl B.tuple PyProof.Rows.boot_tuple (Zb (Zi Yg (Zaz (Za (pv 1)) (Ja (Za (pv 2))) Jb) (Zaz (Za (pv 1)) Jb (Ja (Za (pv 2))))) Zg)))))))⟩
  rfl
noncomputable abbrev UV:Stmt:=top 34
noncomputable abbrev ZdD:List Str:=["_law_a","_law_b","_law_c","_law_d"]
theorem Zb0:Zu ZdD ["_law_a","_law_b","_law_c","_law_d"] (Zj UV):=⟨rfl,rfl,rfl,by decide +kernel,rfl,by decide +kernel,by decide +kernel⟩
noncomputable abbrev Zam (P:Program) (w:World) (K:PySem.W.Frag) (mg:Str->Option Value) (base:Heap):=Z4 P w K mg base "_law_meet" 3 ["_law_a","_law_b","_law_c","_law_d"] Yy
theorem Zcb (B:Blt mg) (d__law_on:ZcT P w K mg base) (d__law_turn:Qi P w K mg base):OkD P w K mg base "_law_meet" UV 3 ["_law_a","_law_b","_law_c","_law_d"] Yy:=fun F=>QZ F Zb0 rfl rfl fun cdv A outer s H E hr=>by
  refine ⟨_,?_,(Zk (YH (ZcZ (UC (Ys (Zn d__law_on hr (by decide) rfl (Zb (Za (pv 0)) (Zb (Za (pv 1)) (Zb (Za (pv 2)) Zg))))) (UC (Ys (Zn d__law_on hr (by decide) rfl (Zb (Za (pv 0)) (Zb (Za (pv 1)) (Zb (Za (pv 3)) Zg))))) (UC (Ys (Zn d__law_on hr (by decide) rfl (Zb (Za (pv 2)) (Zb (Za (pv 3)) (Zb (Za (pv 0)) Zg))))) (JL (Ys (Zn d__law_on hr (by decide) rfl (Zb (Za (pv 2)) (Zb (Za (pv 3)) (Zb (Za (pv 1)) Zg)))))))))) (Zl (Zs QV)) ZF)
      (Zk (YH (ZX ZnG (Zi YX (Zn d__law_turn hr (by decide) rfl (Zb (Za (pv 0)) (Zb (Za (pv 1)) (Zb (Za (pv 2)) Zg)))) (Zn d__law_turn hr (by decide) rfl (Zb (Za (pv 0)) (Zb (Za (pv 1)) (Zb (Za (pv 3)) Zg))))) Zd (ZK _)) (Zl (Zs QV)) ZF)
      (Zl (Zs (Jo Zka (Zi YX (Zn d__law_turn hr (by decide) rfl (Zb (Za (pv 2)) (Zb (Za (pv 3)) (Zb (Za (pv 0)) Zg)))) (Zn d__law_turn hr (by decide) rfl (Zb (Za (pv 2)) (Zb (Za (pv 3)) (Zb (Za (pv 1)) Zg))))) Zd (ZK _))))))⟩
  rfl
noncomputable abbrev JS:Stmt:=top 35
noncomputable abbrev ZcL:List Str:=["_law_corners","_law_found","_law_at","_law_a"]
theorem sc__law_turns:Zu ZcL ["_law_corners"] (Zj JS):=⟨rfl,rfl,rfl,by decide +kernel,rfl,by decide +kernel,by decide +kernel⟩
noncomputable abbrev Ui (P:Program) (w:World) (K:PySem.W.Frag) (mg:Str->Option Value) (base:Heap):=Z4 P w K mg base "_law_turns" 2 ["_law_corners"] ZZ
theorem Zbk (B:Blt mg) (d__law_turn:Qi P w K mg base) (d__law_next:QS P w K mg base):OkD P w K mg base "_law_turns" JS 2 ["_law_corners"] ZZ:=fun F=>QZ F sc__law_turns rfl rfl fun cdv A outer s H E hr=>by
  refine ⟨_,?_,(Zk (WE (i:=1) sc__law_turns.nd rfl (Or.inl rfl) Zg)
      (Zk (Js PassesOwn.never rfl (WY rfl B.enumerate (Za (pv 0))) (U2 (i:=2) (j:=3) rfl sc__law_turns.nd rfl rfl (Or.inl rfl) (Or.inl rfl)) (Zl (JN (i:=1) (pv 1) (Zn d__law_turn hr (by decide) rfl (Zb (Za (pv 3)) (Zb (Zn d__law_next hr (by decide) rfl (Zb (Za (pv 0)) (Zb (Za (pv 2)) (Zb Zd Zg)))) (Zb (Zn d__law_next hr (by decide) rfl (Zb (Za (pv 0)) (Zb (Za (pv 2)) (Zb Zd Zg)))) Zg)))))))
      (Zl (ZfA 1 (Zs (Za (pv 1)))))))⟩
  rfl
noncomputable abbrev Q8:Stmt:=top 36
noncomputable abbrev ZaD:List Str:=["_law_corners","_law_many","_law_one","_law_other","_law_c","_law_d"]
theorem sc__law_is_good:Zu ZaD ["_law_corners"] (Zj Q8):=⟨rfl,rfl,rfl,by decide +kernel,rfl,by decide +kernel,by decide +kernel⟩
noncomputable abbrev Jk (P:Program) (w:World) (K:PySem.W.Frag) (mg:Str->Option Value) (base:Heap):=Z4 P w K mg base "_law_is_good" 4 ["_law_corners"] Yd
theorem WQ (B:Blt mg) (d__law_turns:Ui P w K mg base) (d__law_next:QS P w K mg base) (d__law_meet:Zam P w K mg base):OkD P w K mg base "_law_is_good" Q8 4 ["_law_corners"] Yd:=fun F=>QZ F sc__law_is_good rfl rfl fun cdv A outer s H E hr=>by
  refine ⟨_,?_,(Zk (ZI (i:=1) sc__law_is_good.nd rfl (Or.inl rfl) (ZD Uf rfl B.len PySem.boot_len (Zb (Za (pv 0)) Zg)))
      (Zk (YH (ZcZ (UC (ZX Zka (Zcs rfl hr.units rfl B.len rfl B.set (Za (pv 0))) (Za (pv 1)) (ZK _)) (JL (ZX (ZlO hr.units) Zd (Zn d__law_turns hr (by decide) rfl (Zb (Za (pv 0)) Zg)) (by rfl))))) (Zl (Zs QV)) ZF)
      (Zk (Js PassesOwn.never rfl (VO rfl B.range (Za (pv 1))) (QM (i:=2) sc__law_is_good.nd rfl (Or.inl rfl)) (Zl (Js PassesOwn.never rfl (ZjP rfl B.range (Zi Yg (Za (pv 2)) Zd) (Za (pv 1))) (QM (i:=3) sc__law_is_good.nd rfl (Or.inl rfl)) (Zl (YH (ZX (Ziu hr.units) (Zi Yu (Zi Yg (Za (pv 3)) Zd) (Za (pv 1))) (Za (pv 2)) (ZK _)) (Zk (ZI (i:=4) sc__law_is_good.nd rfl (Or.inl rfl) (Zy Ye (Za (pv 0)) (Za (pv 3)) (fun _ _=>rfl)))
      (Zk (ZI (i:=5) sc__law_is_good.nd rfl (Or.inl rfl) (Zn d__law_next hr (by decide) rfl (Zb (Za (pv 0)) (Zb (Za (pv 3)) (Zb Zd Zg)))))
      (Zl (YH (Ys (Zn d__law_meet hr (by decide) rfl (Zb (Zy Ye (Za (pv 0)) (Za (pv 2)) (fun _ _=>rfl)) (Zb (Zn d__law_next hr (by decide) rfl (Zb (Za (pv 0)) (Zb (Za (pv 2)) (Zb Zd Zg)))) (Zb (Za (pv 4)) (Zb (Za (pv 5)) Zg)))))) (Zl (Zs QV)) ZF)))) ZF)))))
      (Zl (Zs QV)))))⟩
  rfl
noncomputable abbrev Ql:Stmt:=top 37
noncomputable abbrev Wg:List Str:=["_law_number_here","_law_wide","_law_many"]
theorem Zbb:Zu Wg ["_law_number_here","_law_wide","_law_many"] (Zj Ql):=⟨rfl,rfl,rfl,by decide +kernel,rfl,by decide +kernel,by decide +kernel⟩
noncomputable abbrev Q3 (P:Program) (w:World) (K:PySem.W.Frag) (mg:Str->Option Value) (base:Heap):=Z4 P w K mg base "_law_spots" 2 ["_law_number_here","_law_wide","_law_many"] ZM
theorem Zbl (B:Blt mg) (d__law_drawn:Uj P w K mg base):OkD P w K mg base "_law_spots" Ql 2 ["_law_number_here","_law_wide","_law_many"] ZM:=fun F=>QZ F Zbb rfl rfl fun cdv A outer s H E hr=>by
  refine ⟨_,?_,(Zl (Zs (Ub (N:=["_law_k","_law_wide","_law_number_here"]) (caps:=[none,some 1,some 0]) (JC (sc:=Zj Ql) rfl (by decide +kernel)) (JF (sc:=Zj Ql) (XN:=Wg) rfl rfl (by decide +kernel)) rfl (VO rfl B.range (Za (pv 2))) (QB 0) (fun _ _ _ _=>QM (i:=0) (show (["_law_k","_law_wide","_law_number_here"]:List Str).Nodup by decide +kernel) rfl (Or.inl rfl)) (fun _ _ _ _=>UP) (fun _ _ _ _=>(ZP (Zb (Zi Yu (Zn d__law_drawn hr (by decide) rfl (Zb (Za (pv 2)) (Zb (Zi YX Zd (Za (pv 0))) Zg))) (Za (pv 1))) (Zb (Zi Yu (Zn d__law_drawn hr (by decide) rfl (Zb (Za (pv 2)) (Zb (Zi Yg (Zi YX Zd (Za (pv 0))) Zd) Zg))) (Za (pv 1))) Zg)))))))⟩
  rfl
noncomputable abbrev YD:Stmt:=top 38
noncomputable abbrev Uw:List Str:=["_law_number_here","_law_wide","_law_lows","_law_highs","_law_far","_law_found","_law_left"]
theorem sc__law_saw:Zu Uw ["_law_number_here","_law_wide"] (Zj YD):=⟨rfl,rfl,rfl,by decide +kernel,rfl,by decide +kernel,by decide +kernel⟩
noncomputable abbrev Za2 (P:Program) (w:World) (K:PySem.W.Frag) (mg:Str->Option Value) (base:Heap):=Z4 P w K mg base "_law_saw" 2 ["_law_number_here","_law_wide"] QD
theorem Zde (B:Blt mg) (d__law_drawn:Uj P w K mg base) (d__law_turn:Qi P w K mg base) (d__law_next:QS P w K mg base):OkD P w K mg base "_law_saw" YD 2 ["_law_number_here","_law_wide"] QD:=fun F=>QZ F sc__law_saw rfl rfl fun cdv A outer s H E hr=>by
  refine ⟨_,?_,(Zk (ZI (i:=2) sc__law_saw.nd rfl (Or.inl rfl) (Zi Yg Zd (Zi Yu (Za (pv 0)) Zd)))
      (Zk (ZI (i:=3) sc__law_saw.nd rfl (Or.inl rfl) (Zi Yg Zd (Zi Yu (Zi Jc (Za (pv 0)) Zd) Zd)))
      (Zk (ZI (i:=4) sc__law_saw.nd rfl (Or.inr rfl) (Zi Yg Zd (ZD (Zed rfl) rfl B.max PyProof.Rows.boot_max (Zb (Za (pv 2)) (Zb (Za (pv 3)) Zg)))))
      (Zk (ZI (i:=5) sc__law_saw.nd rfl (Or.inl rfl) (Zi Yg (Zi Yg (AE.ed (ae_l (aa_c (ae_t (aa_c ae_i (aa_c ae_i aa_n))) aa_n Zq))) (Ub (N:=["_law_k","_law_wide","_law_number_here"]) (caps:=[none,some 1,some 0]) (JC (sc:=Zj YD) rfl (by decide +kernel)) (JF (sc:=Zj YD) (XN:=Uw) rfl rfl (by decide +kernel)) rfl (VO rfl B.range (Za (pv 2))) (QB 0) (fun _ _ _ _=>QM (i:=0) (show (["_law_k","_law_wide","_law_number_here"]:List Str).Nodup by decide +kernel) rfl (Or.inl rfl)) (fun _ _ _ _=>UP) (fun _ _ _ _=>(ZP (Zb (Zi Yg Zd (Za (pv 0))) (Zb (Zi Qr (J9 JY Zd) (Zi Yu (Zn d__law_drawn hr (by decide) rfl (Zb (Za (pv 2)) (Zb (Za (pv 0)) Zg))) (Za (pv 1)))) Zg)))))) (AE.ed (ae_l (aa_c (ae_t (aa_c (ae_e (Za (pv 4))) (aa_c ae_i aa_n))) aa_n Zq)))))
      (Zk (ZI (i:=5) sc__law_saw.nd rfl (Or.inl rfl) (Zi Yg (Za (pv 5)) (Ub (N:=["_law_k","_law_far","_law_wide","_law_number_here"]) (caps:=[none,some 4,some 1,some 0]) (JC (sc:=Zj YD) rfl (by decide +kernel)) (JF (sc:=Zj YD) (XN:=Uw) rfl rfl (by decide +kernel)) rfl (VO rfl B.range (Za (pv 3))) (QB 0) (fun _ _ _ _=>QM (i:=0) (show (["_law_k","_law_far","_law_wide","_law_number_here"]:List Str).Nodup by decide +kernel) rfl (Or.inl rfl)) (fun _ _ _ _=>UP) (fun _ _ _ _=>(ZP (Zb (Zi Qr (Zi Qr (Za (pv 1)) Zd) (Za (pv 0))) (Zb (Zi Yg Zd (Zi Yu (Zn d__law_drawn hr (by decide) rfl (Zb (Za (pv 3)) (Zb (Zi Yg Zd (Za (pv 0))) Zg))) (Za (pv 2)))) Zg)))))))
      (Zk (ZI (i:=6) sc__law_saw.nd rfl (Or.inr rfl) (Ua Zg))
      (Zk (ZdO 3000 PassesOwn.never (ZX (Ziu hr.units) (ZD Uf rfl B.len PySem.boot_len (Zb (Za (pv 6)) Zg)) (ZD Uf rfl B.len PySem.boot_len (Zb (Za (pv 5)) Zg)) (ZK _)) (Zk (ZI (i:=6) sc__law_saw.nd rfl (Or.inr rfl) (Za (pv 5)))
      (Zl (Zi6 (i:=5) sc__law_saw.nd rfl (Or.inl rfl) (N:=["_law_at","_law_a","_law_left"]) (caps:=[none,none,some 6]) (JC (sc:=Zj YD) rfl (by decide +kernel)) (JF (sc:=Zj YD) (XN:=Uw) rfl rfl (by decide +kernel)) rfl (WY rfl B.enumerate (Za (pv 6))) (VJ 0 1) (fun _ _ _ _=>U2 (i:=0) (j:=1) rfl (show (["_law_at","_law_a","_law_left"]:List Str).Nodup by decide +kernel) rfl rfl (Or.inl rfl) (Or.inl rfl)) (fun _ _ _ _=>Zfi (ZX (Ziu hr.units) (Zn d__law_turn hr (by decide) rfl (Zb (Zy Ye (Za (pv 2)) (Zi Qr (Za (pv 0)) Zd) (fun _ _=>rfl)) (Zb (Za (pv 1)) (Zb (Zn d__law_next hr (by decide) rfl (Zb (Za (pv 2)) (Zb (Za (pv 0)) (Zb Zd Zg)))) Zg)))) Zd (ZK _))) (fun _ _ _ _=>(Za (pv 1)))))))
      (Zl (Zs (Za (pv 5)))))))))))⟩
  rfl
noncomputable abbrev QI:Stmt:=top 39
noncomputable abbrev Zah:List Str:=["_law_number_here","_law_wide","_law_found","_law_by"]
theorem sc__law_plot:Zu Zah ["_law_number_here","_law_wide"] (Zj QI):=⟨rfl,rfl,rfl,by decide +kernel,rfl,by decide +kernel,by decide +kernel⟩
noncomputable abbrev Zal (P:Program) (w:World) (K:PySem.W.Frag) (mg:Str->Option Value) (base:Heap):=Z4 P w K mg base "_law_plot" 5 ["_law_number_here","_law_wide"] YV
theorem Zb9 (B:Blt mg) (d__law_spots:Q3 P w K mg base) (d__law_is_good:Jk P w K mg base) (d__law_saw:Za2 P w K mg base) (d__law_in_order:Y9 P w K mg base):OkD P w K mg base "_law_plot" QI 5 ["_law_number_here","_law_wide"] YV:=fun F=>QZ F sc__law_plot rfl rfl fun cdv A outer s H E hr=>by
  refine ⟨_,?_,(Zk (ZI (i:=2) sc__law_plot.nd rfl (Or.inl rfl) (Zn d__law_spots hr (by decide) rfl (Zb (Zi Jc (Za (pv 0)) Zd) (Zb (Za (pv 1)) (Zb (Zi Yg Zd (Zi Yu (Zi Jc (Za (pv 0)) Zd) Zd)) Zg)))))
      (Zk (YH (ZcZ (UC (ZX (ZdW hr.units) (Zi Yu (Za (pv 0)) Zd) Zd (ZK _)) (JL (UD (Ys (Zn d__law_is_good hr (by decide) rfl (Zb (Za (pv 2)) Zg))))))) (Zl (ZI (i:=2) sc__law_plot.nd rfl (Or.inl rfl) (Zn d__law_saw hr (by decide) rfl (Zb (Zi Jc (Za (pv 0)) Zd) (Zb (Za (pv 1)) Zg))))) ZF)
      (Zk (ZI (i:=3) sc__law_plot.nd rfl (Or.inr rfl) (Zi Jc (Zi YX (Zi Yu (Zi Jc (Za (pv 0)) Zd) Zd) (Za (pv 1))) Zd))
      (Zl (Zs (Zn d__law_in_order hr (by decide) rfl (Zb (Ub (N:=["_law_x","_law_y","_law_by"]) (caps:=[none,none,some 3]) (JC (sc:=Zj QI) rfl (by decide +kernel)) (JF (sc:=Zj QI) (XN:=Zah) rfl rfl (by decide +kernel)) rfl (ZaO (Za (pv 2))) (VJ 0 1) (fun _ _ _ _=>U2 (i:=0) (j:=1) rfl (show (["_law_x","_law_y","_law_by"]:List Str).Nodup by decide +kernel) rfl rfl (Or.inl rfl) (Or.inl rfl)) (fun _ _ _ _=>UP) (fun _ _ _ _=>(ZP (Zb (Zi Qr (Za (pv 0)) (Za (pv 2))) (Zb (Za (pv 1)) Zg))))) Zg)))))))⟩
  rfl
noncomputable abbrev Q7:Stmt:=top 40
noncomputable abbrev ZaC:List Str:=["_law_thing"]
theorem WG:Zu ZaC ["_law_thing"] (Zj Q7):=⟨rfl,rfl,rfl,by decide +kernel,rfl,by decide +kernel,by decide +kernel⟩
noncomputable abbrev UM (P:Program) (w:World) (K:PySem.W.Frag) (mg:Str->Option Value) (base:Heap):=Z4 P w K mg base "_law_is_spot" 2 ["_law_thing"] Yc
theorem WO (B:Blt mg) (d__law_number:Vy P w K mg base):OkD P w K mg base "_law_is_spot" Q7 2 ["_law_thing"] Yc:=fun F=>QZ F WG rfl rfl fun cdv A outer s H E hr=>by
  refine ⟨_,?_,(Zk (YH (ZcZ (UC (UD (Ys (JJ (T:=.tuple) rfl B.isinstance rfl B.tuple PyProof.Rows.boot_tuple (Za (pv 0))))) (JL (ZX (Ziu hr.units) (ZD Uf rfl B.len PySem.boot_len (Zb (Za (pv 0)) Zg)) Zd (ZK _))))) (Zl (Zs QV)) ZF)
      (Zl (Zs (Y6 (Zn d__law_number hr (by decide) rfl (Zb (Zy Ye (Za (pv 0)) Zd (fun _ _=>rfl)) (Zb (J9 JY Zd) (Zb Zd Zg)))) (Qv (Zn d__law_number hr (by decide) rfl (Zb (Zy Ye (Za (pv 0)) Zd (fun _ _=>rfl)) (Zb (J9 JY Zd) (Zb Zd Zg)))))))))⟩
  rfl
noncomputable abbrev YL:Stmt:=top 41
noncomputable abbrev UK:List Str:=["_law_thing"]
theorem WH:Zu UK ["_law_thing"] (Zj YL):=⟨rfl,rfl,rfl,by decide +kernel,rfl,by decide +kernel,by decide +kernel⟩
noncomputable abbrev UN (P:Program) (w:World) (K:PySem.W.Frag) (mg:Str->Option Value) (base:Heap):=Z4 P w K mg base "_law_is_plot" 5 ["_law_thing"] ZT
theorem WP (B:Blt mg) (d__law_is_spot:UM P w K mg base) (d__law_is_good:Jk P w K mg base) (d__law_area:U6 P w K mg base):OkD P w K mg base "_law_is_plot" YL 5 ["_law_thing"] ZT:=fun F=>QZ F WH rfl rfl fun cdv A outer s H E hr=>by
  refine ⟨_,?_,(Zk (YH (ZcZ (UC (UD (Ys (JJ (T:=.tuple) rfl B.isinstance rfl B.tuple PyProof.Rows.boot_tuple (Za (pv 0))))) (JL (UD (Zhk Zdg Zdg Zd (ZD Uf rfl B.len PySem.boot_len (Zb (Za (pv 0)) Zg)) Zd))))) (Zl (Zs QV)) ZF)
      (Zk (YH (ZX (Ziu hr.units) (Ub (N:=["_law_part"]) (caps:=[none]) (JC (sc:=Zj YL) rfl (by decide +kernel)) (JF (sc:=Zj YL) (XN:=UK) rfl rfl (by decide +kernel)) rfl (ZaO (Za (pv 0))) (QB 0) (fun _ _ _ _=>QM (i:=0) (show (["_law_part"]:List Str).Nodup by decide +kernel) rfl (Or.inl rfl)) (fun _ _ _ _=>Zfi (UD (Ys (Zn d__law_is_spot hr (by decide) rfl (Zb (Za (pv 0)) Zg))))) (fun _ _ _ _=>(Za (pv 0)))) (Ua Zg) (ZK _)) (Zl (Zs QV)) ZF)
      (Zl (Zs (Y6 (Zn d__law_is_good hr (by decide) rfl (Zb (Za (pv 0)) Zg)) (Y6 (Jo Zf6 (Zn d__law_area hr (by decide) rfl (Zb (Za (pv 0)) Zg)) Zd (ZK _)) (Qv (Jo (ZdW hr.units) (Zy Ye (Za (pv 0)) Zd (fun _ _=>rfl)) (ZD (Zcy rfl hr.units) rfl B.min PyProof.Rows.boot_min (Zb (Za (pv 0)) Zg)) (ZK _)))))))))⟩
  rfl
noncomputable abbrev JW:Stmt:=top 42
noncomputable abbrev ZcP:List Str:=["_law_spots_here","_law_found","_law_spot"]
theorem sc__law_chain:Zu ZcP ["_law_spots_here"] (Zj JW):=⟨rfl,rfl,rfl,by decide +kernel,rfl,by decide +kernel,by decide +kernel⟩
noncomputable abbrev Wl (P:Program) (w:World) (K:PySem.W.Frag) (mg:Str->Option Value) (base:Heap):=Z4 P w K mg base "_law_chain" 2 ["_law_spots_here"] Z0
theorem Zbp (B:Blt mg) (d__law_turn:Qi P w K mg base):OkD P w K mg base "_law_chain" JW 2 ["_law_spots_here"] Z0:=fun F=>QZ F sc__law_chain rfl rfl fun cdv A outer s H E hr=>by
  refine ⟨_,?_,(Zk (WE (i:=1) sc__law_chain.nd rfl (Or.inl rfl) Zg)
      (Zk (Js PassesOwn.never rfl (ZaO (Za (pv 0))) (QM (i:=2) sc__law_chain.nd rfl (Or.inl rfl)) (Zk (ZdO 3000 PassesOwn.never (ZiY 1 (ZcZ (Q4 (ZX Zf6 (ZD Uf rfl B.len PySem.boot_len (Zb (Za (pv 1)) Zg)) Zd (ZK _)) (Jr (ZX Zdg (Zn d__law_turn hr (by decide) rfl (Zb (Zy Ye (Za (pv 1)) (J9 JY Zd) (fun _ _=>rfl)) (Zb (Zy Ye (Za (pv 1)) (J9 JY Zd) (fun _ _=>rfl)) (Zb (Za (pv 2)) Zg)))) Zd (ZK _)))))) (Zl (Zkv (i:=1) (pv 1))))
      (Zl (JN (i:=1) (pv 1) (Za (pv 2))))))
      (Zl (ZfA 1 (Zs (Zaz (Za (pv 1)) Jb (Ja (J9 JY Zd))))))))⟩
  rfl
noncomputable abbrev Jw:Stmt:=top 43
noncomputable abbrev ZbN:List Str:=["_law_spots_here","_law_some","_law_found"]
theorem sc__law_around:Zu ZbN ["_law_spots_here"] (Zj Jw):=⟨rfl,rfl,rfl,by decide +kernel,rfl,by decide +kernel,by decide +kernel⟩
noncomputable abbrev Vz (P:Program) (w:World) (K:PySem.W.Frag) (mg:Str->Option Value) (base:Heap):=Z4 P w K mg base "_law_around" 4 ["_law_spots_here"] YG
theorem Zat (B:Blt mg) (d__law_chain:Wl P w K mg base) (d__law_in_order:Y9 P w K mg base):OkD P w K mg base "_law_around" Jw 4 ["_law_spots_here"] YG:=fun F=>QZ F sc__law_around rfl rfl fun cdv A outer s H E hr=>by
  refine ⟨_,?_,(Zk (ZI (i:=1) sc__law_around.nd rfl (Or.inl rfl) (ZeO rfl hr.units rfl B.sorted rfl B.set (Za (pv 0))))
      (Zk (ZI (i:=2) sc__law_around.nd rfl (Or.inl rfl) (Zi Yg (Zn d__law_chain hr (by decide) rfl (Zb (Za (pv 1)) Zg)) (Zn d__law_chain hr (by decide) rfl (Zb (ZgF (Za (pv 1))) Zg))))
      (Zk (YH (ZX Zka (ZD Uf rfl B.len PySem.boot_len (Zb (Za (pv 2)) Zg)) Zd (ZK _)) (Zl (Zs ZgG)) ZF)
      (Zl (Zs (Zn d__law_in_order hr (by decide) rfl (Zb (Za (pv 2)) Zg)))))))⟩
  rfl
noncomputable abbrev JT:Stmt:=top 44
noncomputable abbrev ZcM:List Str:=["_law_number_here","_law_wide","_law_found"]
theorem sc__law_round:Zu ZcM ["_law_number_here","_law_wide"] (Zj JT):=⟨rfl,rfl,rfl,by decide +kernel,rfl,by decide +kernel,by decide +kernel⟩
noncomputable abbrev Wj (P:Program) (w:World) (K:PySem.W.Frag) (mg:Str->Option Value) (base:Heap):=Z4 P w K mg base "_law_round" 5 ["_law_number_here","_law_wide"] YZ
theorem Zbm (B:Blt mg) (d__law_around:Vz P w K mg base) (d__law_spots:Q3 P w K mg base):OkD P w K mg base "_law_round" JT 5 ["_law_number_here","_law_wide"] YZ:=fun F=>QZ F sc__law_round rfl rfl fun cdv A outer s H E hr=>by
  refine ⟨_,?_,(Zk (ZI (i:=2) sc__law_round.nd rfl (Or.inl rfl) (Zn d__law_around hr (by decide) rfl (AA.ad (aa_c (ae_e (Zn d__law_spots hr (by decide) rfl (AA.ad (aa_c (ae_e (Za (pv 0))) (aa_c (ae_e (Za (pv 1))) (aa_c (ae_e (Zi Yg Zd (Zi Yu (Za (pv 0)) Zd))) aa_n)))))) aa_n)))) (Zk (YH (Zkj (Za (pv 2))) (Zl (Zs (AE.ed (ae_t (aa_c (ae_t (aa_c ae_i (aa_c ae_i aa_n))) (aa_c (ae_t (aa_c ae_i (aa_c ae_i aa_n))) (aa_c (ae_t (aa_c ae_i (aa_c (ae_e (Zi Yg Zd (Zi Yu (Za (pv 0)) Zd))) aa_n))) aa_n Zq) Zq) Zq))))) ZF) (Zl (Zs (Za (pv 2))))))⟩
  rfl
noncomputable abbrev Z2:Stmt:=top 45
noncomputable abbrev QR:List Str:=["_law_number_here","_law_steps","_law_here","_law_found","_law_at","_law_step"]
theorem sc__law_many_corners:Zu QR ["_law_number_here"] (Zj Z2):=⟨rfl,rfl,rfl,by decide +kernel,rfl,by decide +kernel,by decide +kernel⟩
noncomputable abbrev QT (P:Program) (w:World) (K:PySem.W.Frag) (mg:Str->Option Value) (base:Heap):=Z4 P w K mg base "_law_many_corners" 4 ["_law_number_here"] ZQ
theorem Ux (B:Blt mg) (d__law_in_order:Y9 P w K mg base):OkD P w K mg base "_law_many_corners" Z2 4 ["_law_number_here"] ZQ:=fun F=>QZ F sc__law_many_corners rfl rfl fun cdv A outer s H E hr=>by
  refine ⟨_,rfl,?_⟩
  refine Zk ?_ ?_
  ·refine ZI (i:=1) ?_ ?_ ?_ ?_ ?_
   ·exact sc__law_many_corners.nd
   ·rfl
   ·exact Or.inl rfl
   ·refine AE.ed ?_
    refine ae_l ?_
    refine aa_c ?_ ?_ Zq
    ·exact (ae_t (aa_c ae_i (aa_c ae_i aa_n)))
    refine aa_c ?_ ?_ Zq
    ·exact (ae_t (aa_c ae_i (aa_c ae_i aa_n)))
    refine aa_c ?_ ?_ Zq
    ·exact (ae_t (aa_c ae_i (aa_c ae_i aa_n)))
    refine aa_c ?_ ?_ Zq
    ·exact (ae_t (aa_c ae_i (aa_c ae_i aa_n)))
    refine aa_c ?_ ?_ Zq
    ·exact (ae_t (aa_c ae_i (aa_c ae_i aa_n)))
    refine aa_c ?_ ?_ Zq
    ·exact (ae_t (aa_c (ae_m ae_i) (aa_c ae_i aa_n)))
    exact aa_n
   ·rfl
  refine Zk ?_ ?_
  ·exact (ZI (i:=1) sc__law_many_corners.nd rfl (Or.inl rfl) (Zi Yg (Za (pv 1)) (Ub (N:= ["_law_x","_law_y"]) (caps:= [none,none]) (JC (sc:=Zj Z2) rfl (by decide +kernel)) (JF (sc:=Zj Z2) (XN:=QR) rfl rfl (by decide +kernel)) rfl (ZaO (Za (pv 1))) (VJ 0 1) (fun _ _ _ _=>U2 (i:=0) (j:=1) rfl (show (["_law_x","_law_y"] :List Str).Nodup by decide +kernel) rfl rfl (Or.inl rfl) (Or.inl rfl)) (fun _ _ _ _=>UP) (fun _ _ _ _=> (AE.ed (ae_t (aa_c (ae_m (ae_e (Za (pv 0)))) (aa_c (ae_m (ae_e (Za (pv 1)))) aa_n))))))))
  refine Zk ?_ ?_
  ·exact (ZI (i:=2) sc__law_many_corners.nd rfl (Or.inl rfl) (AE.ed (ae_t (aa_c (ae_e (Zi Qr (Zi Yu (Zi Jc (Za (pv 0)) Zd) Zd) Zd)) (aa_c (ae_e (Zi Qr (Zi Yu (Zi Jc (Za (pv 0)) Zd) Zd) Zd)) aa_n)))))
  refine Zk ?_ ?_
  ·exact (WE (i:=3) sc__law_many_corners.nd rfl (Or.inl rfl) Zg)
  refine Zk ?_ ?_
  ·exact (Js PassesOwn.never rfl (WY rfl B.enumerate (Za (pv 1))) (U2 (i:=4) (j:=5) rfl sc__law_many_corners.nd rfl rfl (Or.inl rfl) (Or.inl rfl)) (Zk (JN (i:=3) (pv 3) (Za (pv 2))) (Zk (YH (ZcZ (Q4 (ZX (ZdW hr.units) (Za (pv 4)) Zd (ZK _)) (Jr (ZX Zf6 (Zi Yu (Za (pv 0)) Zd) Zd (ZK _))))) (Zl (JN (i:=3) (pv 3) (AE.ed (ae_t (aa_c (ae_e (Zi Yg (Zy Ye (Za (pv 2)) Zd (fun _ _=>rfl)) Zd)) (aa_c (ae_e (Zi Yg (Zy Ye (Za (pv 2)) Zd (fun _ _=>rfl)) Zd)) aa_n)))))) ZF) (Zk (YH (ZcZ (Q4 (ZX (ZdW hr.units) (Za (pv 4)) Zd (ZK _)) (Jr (ZX Zf6 (Zi Yu (Za (pv 0)) Zd) Zd (ZK _))))) (Zl (JN (i:=3) (pv 3) (AE.ed (ae_t (aa_c (ae_e (Zi Qr (Zy Ye (Za (pv 2)) Zd (fun _ _=>rfl)) Zd)) (aa_c (ae_e (Zi Qr (Zy Ye (Za (pv 2)) Zd (fun _ _=>rfl)) Zd)) aa_n)))))) ZF) (Zl (ZI (i:=2) sc__law_many_corners.nd rfl (Or.inl rfl) (AE.ed (ae_t (aa_c (ae_e (Zi Yg (Zy Ye (Za (pv 2)) Zd (fun _ _=>rfl)) (Zy Ye (Za (pv 5)) Zd (fun _ _=>rfl)))) (aa_c (ae_e (Zi Yg (Zy Ye (Za (pv 2)) Zd (fun _ _=>rfl)) (Zy Ye (Za (pv 5)) Zd (fun _ _=>rfl)))) aa_n))))))))))
  refine Zl ?_
  refine ZfA 3 ?_
  refine Zs ?_
  exact (Zn (ps:= [_]) d__law_in_order hr (by decide) rfl (AA.ad (aa_c (ae_e (Za (pv 3))) aa_n)))
noncomputable abbrev VG:Stmt:=top 46
noncomputable abbrev Ze2:List Str:=["_law_number_here","_law_some"]
theorem sc__law_odd:Zu Ze2 ["_law_number_here"] (Zj VG):=⟨rfl,rfl,rfl,by decide +kernel,rfl,by decide +kernel,by decide +kernel⟩
noncomputable abbrev Za3 (P:Program) (w:World) (K:PySem.W.Frag) (mg:Str->Option Value) (base:Heap):=Z4 P w K mg base "_law_odd" 1 ["_law_number_here"] QE
theorem Zdf (B:Blt mg):OkD P w K mg base "_law_odd" VG 1 ["_law_number_here"] QE:=fun F=>QZ F sc__law_odd rfl rfl fun cdv A outer s H E hr=>by
  refine ⟨_,?_,(Zk (ZI (i:=1) sc__law_odd.nd rfl (Or.inl rfl) (AE.ed (ae_l (aa_c (ae_m ae_i) (aa_c ae_i (aa_c ae_i (aa_c ae_i (aa_c (ae_m ae_i) (aa_c ae_b (aa_c ae_b (aa_c ae_v (aa_c ae_s (aa_c ae_s (aa_c (ae_t aa_n) (aa_c (ae_l aa_n) (aa_c (ae_t (aa_c ae_i aa_n)) (aa_c (ae_t (aa_c ae_i (aa_c ae_i aa_n))) (aa_c (ae_t (aa_c ae_i (aa_c ae_i aa_n))) (aa_c (ae_t (aa_c ae_i (aa_c ae_i aa_n))) (aa_c (ae_t (aa_c ae_b (aa_c ae_i aa_n))) (aa_c (ae_l (aa_c ae_i (aa_c ae_i aa_n))) aa_n VX) Zq) Zq) Zq) Zq) Zq) VX) Zq))))))))))))))
      (Zl (Zs (Zy Ye (Zi Yg (Za (pv 1)) (AE.ed (ae_l (aa_c (ae_t (aa_c ae_i (aa_c ae_v aa_n))) (aa_c (ae_t (aa_c (ae_t (aa_c ae_i (aa_c ae_i aa_n))) aa_n Zq)) (aa_c (ae_t (aa_c ae_i (aa_c ae_i (aa_c ae_i aa_n)))) (aa_c ae_i (aa_c (ae_t (aa_c (ae_m ae_i) (aa_c ae_i aa_n))) (aa_c (ae_t (aa_c ae_i (aa_c ae_i aa_n))) (aa_c (ae_t (aa_c ae_s (aa_c ae_i aa_n))) aa_n Zq) Zq) Zq)) Zq) Zq) Zq)))) (Zi Yu (Za (pv 0)) Zd) (fun _ _=>rfl)))))⟩
  rfl
noncomputable abbrev Ju:Stmt:=top 47
noncomputable abbrev ZbL:List Str:=["_law_thing","_law_number_here","_law_deep","_law_at","_law_part","_law_some"]
theorem sc__law_spoilt:Zu ZbL ["_law_thing","_law_number_here","_law_deep"] (Zj Ju):=⟨rfl,rfl,rfl,by decide +kernel,rfl,by decide +kernel,by decide +kernel⟩
noncomputable abbrev ZbO (P:Program) (w:World) (K:PySem.W.Frag) (mg:Str->Option Value) (base:Heap):=Z4 P w K mg base "_law_spoilt" 4 ["_law_thing","_law_number_here","_law_deep"] Qy
theorem QK (B:Blt mg) (d__law_odd:Za3 P w K mg base) {k:Nat} (hk:1<=k) {fr:List D->Option D} (d_self:Z4 P w K mg base "_law_spoilt" k ["_law_thing","_law_number_here","_law_deep"] fr):OkD P w K mg base "_law_spoilt" Ju (k+1) ["_law_thing","_law_number_here","_law_deep"] (Zp 6 (ZS fr)):=fun F=>QZ F sc__law_spoilt rfl rfl fun cdv A outer s H E hr=>by
  refine ⟨_,?_,(Zk (YH (ZcZ (Q4 (ZX Zf6 (Za (pv 2)) Zd (ZK _)) (Q4 (Ys (JJ (T:=.tuple) rfl B.isinstance rfl B.tuple PyProof.Rows.boot_tuple (Za (pv 0)))) (Q4 (ZX Zf6 (ZD Uf rfl B.len PySem.boot_len (Zb (Za (pv 0)) Zg)) Zd (ZK _)) (Jr (ZX Zf6 (Zi Yu (Za (pv 1)) Zd) Zd (ZK _))))))) (Zk (ZI (i:=3) sc__law_spoilt.nd rfl (Or.inl rfl) (Zi Yu (Zi Jc (Za (pv 1)) Zd) (ZD Uf rfl B.len PySem.boot_len (Zb (Za (pv 0)) Zg))))
      (Zk (ZI (i:=4) sc__law_spoilt.nd rfl (Or.inl rfl) (Zn d_self hr (Nat.le_refl _) rfl (Zb (Zy Ye (Za (pv 0)) (Za (pv 3)) (fun _ _=>rfl)) (Zb (Zi Jc (Za (pv 1)) Zd) (Zb (Zi Qr (Za (pv 2)) Zd) Zg)))))
      (Zl (Zs (Zi Yg (Zi Yg (Zaz (Za (pv 0)) Jb (Ja (Za (pv 3)))) (ZP (Zb (Za (pv 4)) Zg))) (Zaz (Za (pv 0)) (Ja (Zi Yg (Za (pv 3)) Zd)) Jb)))))) ZF)
      (Zk (YH (ZcZ (Q4 (Ys (JJ (T:=.tuple) rfl B.isinstance rfl B.tuple PyProof.Rows.boot_tuple (Za (pv 0)))) (Q4 (ZX Zf6 (ZD Uf rfl B.len PySem.boot_len (Zb (Za (pv 0)) Zg)) Zd (ZK _)) (Jr (ZX (ZdW hr.units) (Zi Yu (Zi Jc (Za (pv 1)) Zd) Zd) Zd (ZK _)))))) (Zk (ZI (i:=5) sc__law_spoilt.nd rfl (Or.inl rfl) (Ua (Zb (Uc ZiK rfl B.list PyProof.Rows.boot_list (Zb (Za (pv 0)) Zg)) (Zb (Zaz (Za (pv 0)) Jb (Ja (J9 JY Zd))) (Zb (Zi Yg (Za (pv 0)) (Zaz (Za (pv 0)) (Ja (J9 JY Zd)) Jb)) (Zb (Zi Yg (Zaz (Za (pv 0)) (Ja Zd) Jb) (Zaz (Za (pv 0)) Jb (Ja Zd))) (Zb (ZgF (Za (pv 0))) (Zb (Zi Zk4 (Za (pv 0)) Zd) Zg))))))))
      (Zl (Zs (Zy Ye (Za (pv 5)) (Zi Yu (Zi Jc (Za (pv 1)) Zd) Zd) (fun _ _=>rfl))))) ZF)
      (Zk (YH (ZcZ (Q4 (Ys (JJ (T:=.int) rfl B.isinstance rfl B.int PyProof.Rows.boot_int (Za (pv 0)))) (Jr (ZX (ZdW hr.units) (Zi Yu (Zi Jc (Za (pv 1)) Zd) Zd) Zd (ZK _))))) (Zl (Zs (Zy Ye (Ua (Zb (Uc ZmJ rfl B.str PyProof.Rows.boot_str (Zb (Za (pv 0)) Zg)) (Zb (J9 JY (Za (pv 0))) (Zb (Zi Yg (Za (pv 0)) Zd) (Zb (Jo (ZdW hr.units) (Za (pv 0)) Zd (ZK _)) (Zb (Zi Yg (Za (pv 0)) Zd) (Zb (Zi Qr (Za (pv 0)) Zd) Zg))))))) (Zi Yu (Zi Jc (Za (pv 1)) Zd) Zd) (fun _ _=>rfl)))) ZF)
      (Zl (Zs (Zn d__law_odd hr hk rfl (Zb (Zi Jc (Za (pv 1)) Zd) Zg)))))))⟩
  rfl
noncomputable abbrev UT:Stmt:=top 48
noncomputable abbrev ZdB:List Str:=["_law_found","_law_due"]
theorem ZbY:Zu ZdB ["_law_found","_law_due"] (Zj UT):=⟨rfl,rfl,rfl,by decide +kernel,rfl,by decide +kernel,by decide +kernel⟩
noncomputable abbrev Zak (P:Program) (w:World) (K:PySem.W.Frag) (mg:Str->Option Value) (base:Heap):=Z4 P w K mg base "_law_same" 1 ["_law_found","_law_due"] Yx
theorem Zb8 (B:Blt mg):OkD P w K mg base "_law_same" UT 1 ["_law_found","_law_due"] Yx:=fun F=>QZ F ZbY rfl rfl fun cdv A outer s H E hr=>by
  refine ⟨_,?_,(Zl (Zs (Y6 (JJ (T:=.bool) rfl B.isinstance rfl B.bool PyProof.Rows.boot_bool (Za (pv 0))) (Qv (Jo (ZdW hr.units) (Za (pv 0)) (Za (pv 1)) (ZK _))))))⟩
  rfl
noncomputable abbrev Zet:Stmt:=top 49
noncomputable abbrev ZmQ:List Str:=["_law_script","_law_number_here","_law_thing","_law_due"]
theorem sc_law:Zu ZmQ ["_law_script"] (Zj Zet):=⟨rfl,rfl,rfl,by decide +kernel,rfl,by decide +kernel,by decide +kernel⟩
theorem Zk3 (B:Blt mg) (d__law_mixed:Wk P w K mg base) (d__law_plot:Zal P w K mg base) (d__law_spots:Q3 P w K mg base) (d__law_round:Wj P w K mg base) (d__law_many_corners:QT P w K mg base) (d__law_spoilt:ZbO P w K mg base) (d__law_is_plot:UN P w K mg base) (d__law_same:Zak P w K mg base) (d_is_plot:Zaj P w K mg base) (d__law_turns:Ui P w K mg base) (d_is_round:Za0 P w K mg base):OkD P w K mg base "law" Zet 8 ["_law_script"] ZeJ:=fun F=>QZ F sc_law rfl rfl fun cdv A outer s H E hr=>by
  refine ⟨_,?_,(Zk (ZI (i:=1) sc_law.nd rfl (Or.inl rfl) (Zn d__law_mixed hr (by decide) rfl (Zb (Za (pv 0)) (Zb Zd Zg))))
      (Zk (ZI (i:=2) sc_law.nd rfl (Or.inl rfl) (Zn d__law_plot hr (by decide) rfl (Zb (Zn d__law_mixed hr (by decide) rfl (Zb (Za (pv 0)) (Zb Zd Zg))) (Zb (Zy Ye (ZP (Zb Zd (Zb Zd (Zb Zd Zg)))) (Zi Yu (Za (pv 1)) Zd) (fun _ _=>rfl)) Zg))))
      (Zk (YH (ZX (ZdW hr.units) (Zi Yu (Zi Jc (Za (pv 1)) Zd) Zd) Zd (ZK _)) (Zl (ZI (i:=2) sc_law.nd rfl (Or.inl rfl) (Uc ZgV rfl B.tuple PyProof.Rows.boot_tuple (Zb (Zn d__law_spots hr (by decide) rfl (Zb (Zn d__law_mixed hr (by decide) rfl (Zb (Za (pv 0)) (Zb Zd Zg))) (Zb Zd (Zb (Zi Yg Zd (Zi Yu (Zi Jc (Za (pv 1)) Zd) Zd)) Zg)))) Zg)))) ZF)
      (Zk (YH (ZX (ZdW hr.units) (Zi Yu (Zi Jc (Za (pv 1)) Zd) Zd) Zd (ZK _)) (Zl (ZI (i:=2) sc_law.nd rfl (Or.inl rfl) (Zn d__law_round hr (by decide) rfl (Zb (Zn d__law_mixed hr (by decide) rfl (Zb (Za (pv 0)) (Zb Zd Zg))) (Zb Zd Zg))))) ZF)
      (Zk (YH (ZX (ZdW hr.units) (Zi Yu (Zi Jc (Za (pv 1)) Zd) Zd) Zd (ZK _)) (Zl (ZI (i:=2) sc_law.nd rfl (Or.inl rfl) (Zn d__law_many_corners hr (by decide) rfl (Zb (Zn d__law_mixed hr (by decide) rfl (Zb (Za (pv 0)) (Zb Zd Zg))) Zg)))) ZF)
      (Zk (YH (ZX (ZdW hr.units) (Zi Yu (Zi Jc (Za (pv 1)) Zd) Zd) Zd (ZK _)) (Zl (ZI (i:=2) sc_law.nd rfl (Or.inl rfl) (Zn d__law_spoilt hr (by decide) rfl (Zb (Za (pv 2)) (Zb (Zn d__law_mixed hr (by decide) rfl (Zb (Za (pv 0)) (Zb Zd Zg))) (Zb (Zi Yu (Zi Jc (Za (pv 1)) Zd) Zd) Zg)))))) ZF)
      (Zk (ZI (i:=3) sc_law.nd rfl (Or.inl rfl) (Zn d__law_is_plot hr (by decide) rfl (Zb (Za (pv 2)) Zg)))
      (Zk (YH (UD (Ys (Zn d__law_same hr (by decide) rfl (Zb (Zn d_is_plot hr (by decide) rfl (Zb (Za (pv 2)) Zg)) (Zb (Za (pv 3)) Zg))))) (Zl (Zs QV)) ZF)
      (Zl (Zs (Zn d__law_same hr (by decide) rfl (Zb (Zn d_is_round hr (by decide) rfl (Zb (Za (pv 2)) Zg)) (Zb (Y6 (Za (pv 3)) (Qv (Jo Zf6 (ZD (Zcy rfl hr.units) rfl B.min PyProof.Rows.boot_min (Zb (Zn d__law_turns hr (by decide) rfl (Zb (Za (pv 2)) Zg)) Zg)) Zd (ZK _)))) Zg)))))))))))))⟩
  rfl
end
theorem Zll (ns:List Int):ZeJ [.lst (ns.map .int)]=some (.bl true):=by
  have x0:Zw [.lst (ns.map .int),.int 0]=some (.int (Ze4 (Jj ns 0) 0)):=Vm ns 0
  have x1:Zw [.lst (ns.map .int),.int 1]=some (.int (Ze4 (Jj ns 1) 1)):=Vm ns 1
  have x2:Zw [.lst (ns.map .int),.int 2]=some (.int (Ze4 (Jj ns 2) 2)):=Vm ns 2
  have x3:Zw [.lst (ns.map .int),.int 3]=some (.int (Ze4 (Jj ns 3) 3)):=Vm ns 3
  have r1:=Zbt (Jj ns 1) 1
  have r2:=Zbt (Jj ns 2) 2
  have r3:=Zbt (Jj ns 3) 3
  generalize Ze4 (Jj ns 0) 0=m0 at x0
  generalize Ze4 (Jj ns 1) 1=m1 at x1 r1
  generalize Ze4 (Jj ns 2) 2=m2 at x2 r2
  generalize Ze4 (Jj ns 3) 3=m3 at x3 r3
  generalize hS:D.lst (ns.map .int)=S at x0 x1 x2 x3
  have e3:=YS (i:=m1) (j:=3) (by omega)
  have v3:=UA (i:=m1) (j:=3) (by omega) (by omega)
  have e35:=YS (i:=m1 / 3) (j:=5) (by omega)
  have v15:=UA (i:=m1) (j:=15) (by omega) (by omega)
  have e154:=YS (i:=m1 / 15) (j:=4) (by omega)
  have v60:=UA (i:=m1) (j:=60) (by omega) (by omega)
  have e602:=YS (i:=m1 / 60) (j:=2) (by omega)
  have v120:=UA (i:=m1) (j:=120) (by omega) (by omega)
  have e1203:=YS (i:=m1 / 120) (j:=3) (by omega)
  have l3:(3:Nat)<=lim:=Z6 (by decide)
  obtain ⟨wide,hw,hwide⟩:∃ wide,(wide=4\/wide=7\/wide=40)/\dIx (.tup [.int 4,.int 7,.int 40]) (.int (m1 % 3))=some (.int wide):=by
    have:m1 % 3=0\/m1 % 3=1\/m1 % 3=2:=by omega
    rcases this with h | h | h
    · rw [h]; exact ⟨4,.inl rfl,rfl⟩
    · rw [h]; exact ⟨7,.inr (.inl rfl),rfl⟩
    · rw [h]; exact ⟨40,.inr (.inr rfl),rfl⟩
  obtain ⟨t0,p0,h0⟩:=Zjl (n:=m0) (wide:=wide) (by omega) (by omega)
  have s1:Z5 1 (dFn 2 Zw (Zc (Ze 0) (Zc (Zf (.int 1)) Zm))) [.val S,.no,.no,.no]=some (.nx [.val S,.val (.int m1),.no,.no]):=by
    simp -implicitDefEqProofs [x1]
  have s2:Z5 2 (dFn 2 YV (Zc (dFn 2 Zw (Zc (Ze 0) (Zc (Zf (.int 0)) Zm))) (Zc (Zh dIx (Z9 (Zc (Zf (.int 4)) (Zc (Zf (.int 7)) (Zc (Zf (.int 40)) Zm)))) (Zh Ya (Ze 1) (Zf (.int 3)))) Zm))) [.val S,.val (.int m1),.no,.no]=some (.nx [.val S,.val (.int m1),.val t0,.no]):=by
    simp -implicitDefEqProofs [x0,e3,l3,hwide,p0]
  obtain ⟨t1,s3,h1⟩:=ZhL (t:=(Zo (Zh U8 (Zh Ya (Zh Qj (Ze 1) (Zf (.int 3))) (Zf (.int 5))) (Zf (.int 1))))) (e:=(ZN Qz (Zc (dFn 3 ZM (Zc (dFn 2 Zw (Zc (Ze 0) (Zc (Zf (.int 2)) Zm))) (Zc (Zf (.int 4)) (Zc (Zh ZU (Zf (.int 3)) (Zh Ya (Zh Qj (Ze 1) (Zf (.int 15))) (Zf (.int 4)))) Zm)))) Zm)))
    (ρ:=[.val S,.val (.int m1),.val t0,.no]) (b:=decide (m1 / 3 % 5=1)) (P:=TP) rfl (by simp -implicitDefEqProofs [v3,e35]) h0 fun _=>by
      obtain ⟨k,hk⟩:∃ k:Nat,(k:Int)=3+m1 / 15 % 4:=⟨(3+m1 / 15 % 4).toNat,by omega⟩
      obtain ⟨a,b⟩:=Zhm (n:=m2) (wide:=4) (by decide) (by decide) (k:=k) (by omega) (by omega)
      rw [hk] at a
      refine ⟨_,?_,b⟩
      have sp:(Option.bind (ZM [.int m2,.int 4,.int (3+m1 / 15 % 4)]) fun x=>Qz [x])=some (.tup ((Yj m2 4 k).map pD)):=a
      cases q:ZM [.int m2,.int 4,.int (3+m1 / 15 % 4)] with
      | none=>rw [q] at sp; cases sp
      | some z=>
        rw [q] at sp
        have sp':Qz [z]=some (.tup ((Yj m2 4 k).map pD)):=sp
        simp -implicitDefEqProofs [x2,v15,e154,q,sp']
  obtain ⟨t2,s4,h2⟩:=ZhL (t:=(Zo (Zh U8 (Zh Ya (Zh Qj (Ze 1) (Zf (.int 3))) (Zf (.int 5))) (Zf (.int 2))))) (e:=(dFn 2 YZ (Zc (dFn 2 Zw (Zc (Ze 0) (Zc (Zf (.int 2)) Zm))) (Zc (Zf (.int 9)) Zm))))
    (ρ:=[.val S,.val (.int m1),.val t1,.no]) (b:=decide (m1 / 3 % 5=2)) (P:=TP) rfl (by simp -implicitDefEqProofs [v3,e35]) h1 fun _=>by
      obtain ⟨d,e,h⟩:=ZfI (n:=m2) r2.1
      exact ⟨d,by simp -implicitDefEqProofs [x2,e],h⟩
  obtain ⟨t3,s5,h3⟩:=ZhL (t:=(Zo (Zh U8 (Zh Ya (Zh Qj (Ze 1) (Zf (.int 3))) (Zf (.int 5))) (Zf (.int 3))))) (e:=(dFn 1 ZQ (Zc (dFn 2 Zw (Zc (Ze 0) (Zc (Zf (.int 2)) Zm))) Zm)))
    (ρ:=[.val S,.val (.int m1),.val t2,.no]) (b:=decide (m1 / 3 % 5=3)) (P:=TP) rfl (by simp -implicitDefEqProofs [v3,e35]) h2 fun _=>by
      obtain ⟨d,e,h⟩:=ZhM (n:=m2) r2.1
      exact ⟨d,by simp -implicitDefEqProofs [x2,e],h⟩
  obtain ⟨t4,s6,h4⟩:=ZhL (t:=(Zo (Zh U8 (Zh Ya (Zh Qj (Ze 1) (Zf (.int 60))) (Zf (.int 2))) (Zf (.int 1))))) (e:=(dFn 3 Qy (Zc (Ze 2) (Zc (dFn 2 Zw (Zc (Ze 0) (Zc (Zf (.int 3)) Zm))) (Zc (Zh Ya (Zh Qj (Ze 1) (Zf (.int 120))) (Zf (.int 3))) Zm)))))
    (ρ:=[.val S,.val (.int m1),.val t3,.no]) (b:=decide (m1 / 60 % 2=1)) (P:=Lay 4) rfl (by simp -implicitDefEqProofs [v60,e602]) (h3.lay.up (by decide)) fun _=>by
      obtain ⟨d,e,h⟩:=Zen (k:=m1 / 120 % 3) h3 r3.1 (by omega)
      exact ⟨d,by simp -implicitDefEqProofs [x3,v120,e1203,e],h⟩
  have lp:=ZeD (d:=t4) (h4.up (by decide))
  have ip:=Zcj t4
  have rd:=Zja t4
  have s7:Z5 3 (dFn 1 ZT (Zc (Ze 2) Zm)) [.val S,.val (.int m1),.val t4,.no]=some (.nx [.val S,.val (.int m1),.val t4,.val (.bl (Zax t4))]):=by
    simp -implicitDefEqProofs [lp]
  have s8:Yh (Qa (Zo (dFn 2 Yx (Zc (dFn 1 Z3 (Zc (Ze 2) Zm)) (Zc (Ze 3) Zm))))) (ZW (Zf (.bl false))) ZB [.val S,.val (.int m1),.val t4,.val (.bl (Zax t4))]=some (.nx [.val S,.val (.int m1),.val t4,.val (.bl (Zax t4))]):=by
    simp -implicitDefEqProofs [ip,ZfE]
  have s9:ZW (dFn 2 Yx (Zc (dFn 1 Qe (Zc (Ze 2) Zm)) (Zc (Zao (Ze 3) (Zh dGt (ZN Vq (Zc (dFn 1 ZZ (Zc (Ze 2) Zm)) Zm)) (Zf (.int 0)))) Zm))) [.val S,.val (.int m1),.val t4,.val (.bl (Zax t4))]=some (.rt (.bl true)):=by
    cases h:Zax t4
    · rw [h] at rd
      simp -implicitDefEqProofs [rd,ZfE]
    · rw [h] at rd
      obtain ⟨m,e,q⟩:=ZmB t4 h
      cases z:ZZ [t4] with
      | none=>rw [z] at e; cases e
      | some y=>
        rw [z] at e
        have e':Vq [y]=some (.int m):=e
        rw [Bool.true_and] at rd
        simp -implicitDefEqProofs [rd,z,e',ZfE,q]
  unfold ZeJ Zp Zlw
  show (Zr _ (Zr _ _) [.val S,.no,.no,.no]).bind _=_
  rw [Zx,s1]
  show (Zr _ (Zr _ _) [.val S,.val (.int m1),.no,.no]).bind _=_
  rw [Zx,s2]
  show (Zr _ (Zr _ _) [.val S,.val (.int m1),.val t0,.no]).bind _=_
  rw [Zx,s3]
  show (Zr _ (Zr _ _) [.val S,.val (.int m1),.val t1,.no]).bind _=_
  rw [Zx,s4]
  show (Zr _ (Zr _ _) [.val S,.val (.int m1),.val t2,.no]).bind _=_
  rw [Zx,s5]
  show (Zr _ (Zr _ _) [.val S,.val (.int m1),.val t3,.no]).bind _=_
  rw [Zx,s6]
  show (Zr _ (Zr _ _) [.val S,.val (.int m1),.val t4,.no]).bind _=_
  rw [Zx,s7]
  show (Zr _ _ [.val S,.val (.int m1),.val t4,.val (.bl (Zax t4))]).bind _=_
  rw [Zx,s8]
  show (ZW _ [.val S,.val (.int m1),.val t4,.val (.bl (Zax t4))]).bind _=_
  rw [s9]
  rfl
theorem all_mk {l:PySem.W.OpenLaw} {w:World} {K:PySem.W.Frag} {h:Heap} {mg:Str->Option Value} {fa:Addr} (X:K.In h) (G:h.Ns mainGlobals mg) (hfa:mg "law"=some (.ref fa))
    (a0:Df K "turn" ZfF)
    (a1:Df K "turns_left" JP)
    (a2:Df K "turns_right" Jt)
    (a3:Df K "lies_between" Q6)
    (a4:Df K "lies_on" WJ)
    (a5:Df K "line_parts" JR)
    (a6:Df K "sides_meet" JQ)
    (a7:Df K "is_whole" VD)
    (a8:Df K "is_place" VF)
    (a9:Df K "is_spot" WK)
    (a10:Df K "are_unlike_spots" Y4)
    (a11:Df K "could_be_corners" Y3)
    (a12:Df K "turns_all_round" Yf)
    (a13:Df K "sides_of" Jl)
    (a14:Df K "have_common_corner" YI)
    (a15:Df K "sides_keep_apart" Y2)
    (a16:Df K "inside_is_left" Qq)
    (a17:Df K "is_plot" WL)
    (a18:Df K "is_round" VE)
    (a19:Df K "_law_cell_at" Q9)
    (a20:Df K "_law_mixed" JU)
    (a21:Df K "_law_drawn" JV)
    (a22:Df K "_law_number" Jv)
    (a23:Df K "_law_turn" US)
    (a24:Df K "_law_on" WM)
    (a25:Df K "_law_next" UU)
    (a26:Df K "_law_area" UW)
    (a27:Df K "_law_in_order" QJ)
    (a28:Df K "_law_meet" UV)
    (a29:Df K "_law_turns" JS)
    (a30:Df K "_law_is_good" Q8)
    (a31:Df K "_law_spots" Ql)
    (a32:Df K "_law_saw" YD)
    (a33:Df K "_law_plot" QI)
    (a34:Df K "_law_is_spot" Q7)
    (a35:Df K "_law_is_plot" YL)
    (a36:Df K "_law_chain" JW)
    (a37:Df K "_law_around" Jw)
    (a38:Df K "_law_round" JT)
    (a39:Df K "_law_many_corners" Z2)
    (a40:Df K "_law_odd" VG)
    (a41:Df K "_law_spoilt" Ju)
    (a42:Df K "_law_same" UT)
    (a43:Df K "law" Zet)
    {t_FARTHEST:Tok} (g_FARTHEST:PySem.W.nsIn K mainGlobals "FARTHEST"=some (some (.int 100 t_FARTHEST)))
    {t_FEWEST_CORNERS:Tok} (g_FEWEST_CORNERS:PySem.W.nsIn K mainGlobals "FEWEST_CORNERS"=some (some (.int 3 t_FEWEST_CORNERS)))
    {t_MOST_CORNERS:Tok} (g_MOST_CORNERS:PySem.W.nsIn K mainGlobals "MOST_CORNERS"=some (some (.int 12 t_MOST_CORNERS)))
    (z_len:PySem.W.nsIn K mainGlobals "len"=some none)
    (z_range:PySem.W.nsIn K mainGlobals "range"=some none)
    (z_enumerate:PySem.W.nsIn K mainGlobals "enumerate"=some none)
    (z_min:PySem.W.nsIn K mainGlobals "min"=some none)
    (z_max:PySem.W.nsIn K mainGlobals "max"=some none)
    (z_abs:PySem.W.nsIn K mainGlobals "abs"=some none)
    (z_sum:PySem.W.nsIn K mainGlobals "sum"=some none)
    (z_any:PySem.W.nsIn K mainGlobals "any"=some none)
    (z_all:PySem.W.nsIn K mainGlobals "all"=some none)
    (z_set:PySem.W.nsIn K mainGlobals "set"=some none)
    (z_sorted:PySem.W.nsIn K mainGlobals "sorted"=some none)
    (z_tuple:PySem.W.nsIn K mainGlobals "tuple"=some none)
    (z_list:PySem.W.nsIn K mainGlobals "list"=some none)
    (z_int:PySem.W.nsIn K mainGlobals "int"=some none)
    (z_str:PySem.W.nsIn K mainGlobals "str"=some none)
    (z_bool:PySem.W.nsIn K mainGlobals "bool"=some none)
    (z_isinstance:PySem.W.nsIn K mainGlobals "isinstance"=some none)
    (z_reversed:PySem.W.nsIn K mainGlobals "reversed"=some none)
    : ∃ fd:FuncData,(∀ (s:Shared) (v:Value),BindsTo s fd ⟨[v],[]⟩ [("_law_script",v)])/\∀ base:Heap,K.In base->base.Ns mainGlobals mg->Zif l.prog w K mg base CX0 8 fa fd ["_law_script"] (spD K 1 ZeJ):=by
  obtain ⟨f,fd,b1,F,b2⟩:=a43
  have e:=hfa.symm.trans (PySem.W.mg_of X G b1)
  cases e
  have B:Blt mg:=⟨PySem.W.mg_none_of X G z_len,PySem.W.mg_none_of X G z_range,PySem.W.mg_none_of X G z_enumerate,PySem.W.mg_none_of X G z_min,PySem.W.mg_none_of X G z_max,PySem.W.mg_none_of X G z_abs,PySem.W.mg_none_of X G z_sum,PySem.W.mg_none_of X G z_any,PySem.W.mg_none_of X G z_all,PySem.W.mg_none_of X G z_set,PySem.W.mg_none_of X G z_sorted,PySem.W.mg_none_of X G z_tuple,PySem.W.mg_none_of X G z_list,PySem.W.mg_none_of X G z_int,PySem.W.mg_none_of X G z_str,PySem.W.mg_none_of X G z_bool,PySem.W.mg_none_of X G z_isinstance,PySem.W.mg_none_of X G z_reversed⟩
  have c_FARTHEST:∃ t,mg "FARTHEST"=some (.int 100 t):=⟨_,PySem.W.mg_of X G g_FARTHEST⟩
  have c_FEWEST_CORNERS:∃ t,mg "FEWEST_CORNERS"=some (.int 3 t):=⟨_,PySem.W.mg_of X G g_FEWEST_CORNERS⟩
  have c_MOST_CORNERS:∃ t,mg "MOST_CORNERS"=some (.int 12 t):=⟨_,PySem.W.mg_of X G g_MOST_CORNERS⟩
  obtain ⟨oc,od,kV,doc,pm,an,cdv,ct,osl,rfl,lk,hcd⟩:=id F.ex
  refine ⟨PySem.W.fnOf "law" "law" (U4 Zet) (Jh Zet) (Zj Zet) .none kV doc pm an cdv ct,fun s v=>.of_eq rfl,fun base _ _=>?_⟩
  have d_turn:ZcQ l.prog w K mg base:=dk X G a0 (Zjv B) fun _ _ _ _ _ _ us hl=>match us,hl with | [_,_,_],_=>rfl
  have d_turns_left:Uh l.prog w K mg base:=dk X G a1 (Zbh B d_turn) fun _ _ _ _ _ _ us hl=>match us,hl with | [_,_,_],_=>rfl
  have d_turns_right:Vx l.prog w K mg base:=dk X G a2 (Zar B d_turn) fun _ _ _ _ _ _ us hl=>match us,hl with | [_,_,_],_=>rfl
  have d_lies_between:UL l.prog w K mg base:=dk X G a3 (WN B) fun _ _ _ _ _ _ us hl=>match us,hl with | [_,_,_],_=>rfl
  have d_lies_on:ZcR l.prog w K mg base:=dk X G a4 (Zex B d_turn d_lies_between) fun _ _ _ _ _ _ us hl=>match us,hl with | [_,_],_=>rfl
  have d_line_parts:Wi l.prog w K mg base:=dk X G a5 (Zbj B d_turns_left d_turns_right) fun _ _ _ _ _ _ us hl=>match us,hl with | [_,_,_,_],_=>rfl
  have d_sides_meet:Wh l.prog w K mg base:=dk X G a6 (Zbi B d_lies_on d_line_parts) fun _ _ _ _ _ _ us hl=>match us,hl with | [_,_],_=>rfl
  have d_is_whole:ZaZ l.prog w K mg base:=dk X G a7 (Zdb B) fun _ _ _ _ _ _ us hl=>match us,hl with | [_],_=>rfl
  have d_is_place:Za1 l.prog w K mg base:=dk X G a8 (Zdd B d_is_whole c_FARTHEST) fun _ _ _ _ _ _ us hl=>match us,hl with | [_],_=>rfl
  have d_is_spot:ZcS l.prog w K mg base:=dk X G a9 (Zey B d_is_place) fun _ _ _ _ _ _ us hl=>match us,hl with | [_],_=>rfl
  have d_are_unlike_spots:Q2 l.prog w K mg base:=dk X G a10 (U0 B d_is_spot) fun _ _ _ _ _ _ us hl=>match us,hl with | [_],_=>rfl
  have d_could_be_corners:Q1 l.prog w K mg base:=dk X G a11 (UZ B c_FEWEST_CORNERS c_MOST_CORNERS d_are_unlike_spots) fun _ _ _ _ _ _ us hl=>match us,hl with | [_],_=>rfl
  have d_turns_all_round:Qh l.prog w K mg base:=dk X G a12 (Vd B d_turn) fun _ _ _ _ _ _ us hl=>match us,hl with | [_],_=>rfl
  have d_sides_of:ZaY l.prog w K mg base:=dk X G a13 (Zda B) fun _ _ _ _ _ _ us hl=>match us,hl with | [_],_=>rfl
  have d_have_common_corner:Qw l.prog w K mg base:=dk X G a14 (JX B) fun _ _ _ _ _ _ us hl=>match us,hl with | [_,_],_=>rfl
  have d_sides_keep_apart:Q0 l.prog w K mg base:=dk X G a15 (UY B d_sides_of d_have_common_corner d_sides_meet) fun _ _ _ _ _ _ us hl=>match us,hl with | [_],_=>rfl
  have d_inside_is_left:JK l.prog w K mg base:=dk X G a16 (VI B d_turns_left) fun _ _ _ _ _ _ us hl=>match us,hl with | [_],_=>rfl
  have d_is_plot:Zaj l.prog w K mg base:=dk X G a17 (Zez B d_could_be_corners d_turns_all_round d_inside_is_left d_sides_keep_apart) fun _ _ _ _ _ _ us hl=>match us,hl with | [_],_=>rfl
  have d_is_round:Za0 l.prog w K mg base:=dk X G a18 (Zdc B d_is_plot d_turns_all_round) fun _ _ _ _ _ _ us hl=>match us,hl with | [_],_=>rfl
  have d__law_cell_at:UO l.prog w K mg base:=dk X G a19 (WR B) fun _ _ _ _ _ _ us hl=>match us,hl with | [_,_],_=>rfl
  have d__law_mixed:Wk l.prog w K mg base:=dk X G a20 (Zbn B d__law_cell_at) fun _ _ _ _ _ _ us hl=>match us,hl with | [_,_],_=>rfl
  have d__law_drawn:Uj l.prog w K mg base:=dk X G a21 (Zbo B) fun _ _ _ _ _ _ us hl=>match us,hl with | [_,_],_=>rfl
  have d__law_number:Vy l.prog w K mg base:=dk X G a22 (Zas B) fun _ _ _ _ _ _ us hl=>match us,hl with | [_,_,_],_=>rfl
  have d__law_turn:Qi l.prog w K mg base:=dk X G a23 (Zb7 B) fun _ _ _ _ _ _ us hl=>match us,hl with | [_,_,_],_=>rfl
  have d__law_on:ZcT l.prog w K mg base:=dk X G a24 (ZeA B d__law_turn) fun _ _ _ _ _ _ us hl=>match us,hl with | [_,_,_],_=>rfl
  have d__law_next:QS l.prog w K mg base:=dk X G a25 (Zca B) fun _ _ _ _ _ _ us hl=>match us,hl with | [_,_,_],_=>rfl
  have d__law_area:U6 l.prog w K mg base:=dk X G a26 (Zcc B d__law_next) fun _ _ _ _ _ _ us hl=>match us,hl with | [_],_=>rfl
  have d__law_in_order:Y9 l.prog w K mg base:=dk X G a27 (Wn B d__law_area) fun _ _ _ _ _ _ us hl=>match us,hl with | [_],_=>rfl
  have d__law_meet:Zam l.prog w K mg base:=dk X G a28 (Zcb B d__law_on d__law_turn) fun _ _ _ _ _ _ us hl=>match us,hl with | [_,_,_,_],_=>rfl
  have d__law_turns:Ui l.prog w K mg base:=dk X G a29 (Zbk B d__law_turn d__law_next) fun _ _ _ _ _ _ us hl=>match us,hl with | [_],_=>rfl
  have d__law_is_good:Jk l.prog w K mg base:=dk X G a30 (WQ B d__law_turns d__law_next d__law_meet) fun _ _ _ _ _ _ us hl=>match us,hl with | [_],_=>rfl
  have d__law_spots:Q3 l.prog w K mg base:=dk X G a31 (Zbl B d__law_drawn) fun _ _ _ _ _ _ us hl=>match us,hl with | [_,_,_],_=>rfl
  have d__law_saw:Za2 l.prog w K mg base:=dk X G a32 (Zde B d__law_drawn d__law_turn d__law_next) fun _ _ _ _ _ _ us hl=>match us,hl with | [_,_],_=>rfl
  have d__law_plot:Zal l.prog w K mg base:=dk X G a33 (Zb9 B d__law_spots d__law_is_good d__law_saw d__law_in_order) fun _ _ _ _ _ _ us hl=>match us,hl with | [_,_],_=>rfl
  have d__law_is_spot:UM l.prog w K mg base:=dk X G a34 (WO B d__law_number) fun _ _ _ _ _ _ us hl=>match us,hl with | [_],_=>rfl
  have d__law_is_plot:UN l.prog w K mg base:=dk X G a35 (WP B d__law_is_spot d__law_is_good d__law_area) fun _ _ _ _ _ _ us hl=>match us,hl with | [_],_=>rfl
  have d__law_chain:Wl l.prog w K mg base:=dk X G a36 (Zbp B d__law_turn) fun _ _ _ _ _ _ us hl=>match us,hl with | [_],_=>rfl
  have d__law_around:Vz l.prog w K mg base:=dk X G a37 (Zat B d__law_chain d__law_in_order) fun _ _ _ _ _ _ us hl=>match us,hl with | [_],_=>rfl
  have d__law_round:Wj l.prog w K mg base:=dk X G a38 (Zbm B d__law_around d__law_spots) fun _ _ _ _ _ _ us hl=>match us,hl with | [_,_],_=>rfl
  have d__law_many_corners:QT l.prog w K mg base:=dk X G a39 (Ux B d__law_in_order) fun _ _ _ _ _ _ us hl=>match us,hl with | [_],_=>rfl
  have d__law_odd:Za3 l.prog w K mg base:=dk X G a40 (Zdf B) fun _ _ _ _ _ _ us hl=>match us,hl with | [_],_=>rfl
  have d__law_spoilt_0:Z4 l.prog w K mg base "_law_spoilt" 1 ["_law_thing","_law_number_here","_law_deep"] (fun _=>none):=by
    obtain ⟨fR,fdR,e1,FR,e2⟩:=a41
    exact ⟨fR,fdR,FnD.none,PySem.W.mg_of X G e1,e2,FR.binds fun _ _ _ _ _ _ us hl=>match us,hl with | [_,_,_],_=>rfl⟩
  have d__law_spoilt_1:=dk X G a41 (QK B d__law_odd (by decide) d__law_spoilt_0) fun _ _ _ _ _ _ us hl=>match us,hl with | [_,_,_],_=>rfl
  have d__law_spoilt_2:=dk X G a41 (QK B d__law_odd (by decide) d__law_spoilt_1) fun _ _ _ _ _ _ us hl=>match us,hl with | [_,_,_],_=>rfl
  have d__law_spoilt:=dk X G a41 (QK B d__law_odd (by decide) d__law_spoilt_2) fun _ _ _ _ _ _ us hl=>match us,hl with | [_,_,_],_=>rfl
  have d__law_same:Zak l.prog w K mg base:=dk X G a42 (Zb8 B) fun _ _ _ _ _ _ us hl=>match us,hl with | [_,_],_=>rfl
  exact Zk3 B d__law_mixed d__law_plot d__law_spots d__law_round d__law_many_corners d__law_spoilt d__law_is_plot d__law_same d_is_plot d__law_turns d_is_round F
theorem walk {l:PySem.W.OpenLaw} {q:Program} {loose:List Str} {XP:(Str->Option Value)->Heap->Prop} {YP:World->Heap->Prop} {d:DefRec} {K:Params->PySem.W.Frag} (hn:l.most=some 63) (hdf:d.params.defaults=[])
    (hY:∀ (w:World) (h:Heap),YP w h->(K w.params).In h)
    (F:∀ (w:World) (mg:Str->Option Value) (fa:Addr) (h:Heap),(K w.params).In h->h.Ns mainGlobals mg->mg d.name=some (.ref fa) ->
      ∃ fd:FuncData,(∀ (s:Shared) (u:Value),BindsTo s fd ⟨[u],[]⟩ [("_law_script",u)])/\∀ base:Heap,(K w.params).In base->base.Ns mainGlobals mg->Zif l.prog w (K w.params) mg base CX0 8 fa fd ["_law_script"] (spD (K w.params) 1 ZeJ)) :
    PySem.W.WalkO q loose XP YP l.row.toRowW d [] (fun f vs=>PySem.call f vs):=
  L2.walk_of (n:=63) (k:=8) (x:="_law_script") (CX:=fun _=>CX0) (sp:=fun w=>spD (K w.params) 1 ZeJ) hn (by decide) hdf ⟨rfl,by decide,by decide⟩ hY F (fun w H a ns hl _ hS=>Zlk hl hS Zll) fun _ _ _ _ _ z=>z
end Pl.k01
namespace PySem.W.Fast
def tw13552409918355374893:=0
def tw17344169613970065554:=0
def tw11423000195169740970:=0
def tw16561671290830085911:=0
def tw18153240704588302607:=0
def tw999001711768451405:=0
def tw2824608617650269604:=0
def tw16950382100838361385:=0
def tw7255064773811708162:=0
def tw7920021087201526494:=0
def tw11585558837477862338:=0
def tw4543184003736950651:=0
def tw1208572859659846397:=0
def tw13577319010068421289:=0
def tw1410468880974408992:=0
def tw115766539098661319:=0
def tw17546388382134174046:=0
def tw16306238730100990902:=0
def tw15760851148883392613:=0
def tw1602494285105379125:=0
def tw16781507706678511548:=0
def tw2445139541173132129:=0
def tw10818714430323210246:=0
def tw497201720209365253:=0
def tw16748651707895760054:=0
def tw14768805008304099771:=0
def tw15179402704425590695:=0
def tw4210542859453634750:=0
def tw7636845922541190535:=0
def tw3081378546342285820:=0
def tw8364290882488293241:=0
def tw16525252215199181322:=0
def tw8548031692745877422:=0
def tw12890458627400544648:=0
def tw10847424347434218280:=0
def tw16371198128866242684:=0
def tw1957420862961259550:=0
def tw794820244040808877:=0
def tw9742153625297244199:=0
def tw14428665563179759495:=0
def tw16535641559784046476:=0
def tw11866042991266875654:=0
def tw13079316154230797496:=0
def tw12530885388813201355:=0
def tw11011688072940790338:=0
def tw13866388941680212566:=0
def tw5718673299431625628:=0
def tw9857267904121577222:=0
def tw10929473694796235815:=0
def tw4646330102094254308:=0
def tw18099639606096022847:=0
def tw6557371825642538893:=0
def tw5089473339718445389:=0
def tw11548219162386754695:=0
def tw1114434628237727691:=0
def tw10144159470714984658:=0
def tw15481693986181895055:=0
def tw17701912013376863468:=0
def tw17372955024642264946:=0
def tw5105142585625384886:=0
def tw7055735023964583456:=0
def tw9440296807047974334:=0
def tw6439319173006716436:=0
def tw10866026549740970634:=0
def tw13171793972919247280:=0
def tw17650209853073683967:=0
def tw14903610715560569709:=0
def tw2198042086293854499:=0
def tw11468832898693152382:=0
def tw14927570837864796027:=0
def tw6948534542681050943:=0
def tw16870493415580970716:=0
def tw10130142144270074792:=0
def tw16876396613137005317:=0
def tw10782926795360720914:=0
def tw5302930301139347215:=0
def tw10703870813053321563:=0
def tw10392285893638048105:=0
def tw13280038408016919466:=0
def tw13085323560158042806:=0
def tw12471876420309331156:=0
def tw9344574582862056652:=0
def tw2379446641008830554:=0
def tw14579834201279057506:=0
def tw14621201644798806311:=0
def tw9123680738234790369:=0
def tw584549334282830539:=0
def tw14793333849592902366:=0
def tw11543500468757518513:=0
def tw3419003977389010150:=0
def tw6324560836831824298:=0
def tw9812019958718479963:=0
def tw11504336120116085250:=0
def tw635727609608788507:=0
def tw13638493468058259135:=0
def tw15601737506162241326:=0
def tw17255313888974665136:=0
def tw2735323949227321449:=0
def tw14471134080433600032:=0
def tw1689152780489419300:=0
def tw14718694875029786792:=0
def tw4369836370462025180:=0
def tw17048005089068396376:=0
def tw11881997570392417047:=0
def tw9969682351731008853:=0
def tw7635203256191283336:=0
def tw3654337688616759341:=0
def tw6885558007541389046:=0
def tw7897874490754120047:=0
def tw4001187325124005762:=0
def tw13306727244696288609:=0
def tw12129506692657276538:=0
def tw15238219625446822063:=0
def tw4455692372070138702:=0
def tw2629950451912263255:=0
def tw1287197168448814182:=0
def tw1601346370875498369:=0
def tw3851788599241800916:=0
def tw8733546060598129447:=0
def tw8999859947996112137:=0
def tw10282291555792490988:=0
def tw3290910891469222640:=0
def tw9715635991501712673:=0
def tw8485024055601201871:=0
def tw12655844413785978930:=0
def tw13275495496404931232:=0
def tw13330172621892535422:=0
def tw6520656634246793958:=0
def tw16881703039441484383:=0
def tw8146184082620289161:=0
def tw10301816723981483022:=0
def tw15036091862867223800:=0
def tw11948766689217146182:=0
def tw8089331684629883032:=0
def tw7110125895881453627:=0
def tw1876915216126577575:=0
def tw9993687173848237445:=0
def tw10547413527268915055:=0
def tw4234995814920273706:=0
def tw9964699769996506140:=0
def tw2242674558401015355:=0
def tw15858170516576460900:=0
def tw12275530687833826793:=0
def tw11720703459051454526:=0
def tw15431006427639149712:=0
def tw8815720112361809401:=0
def tw17378611830867326751:=0
def tw16124358083573810690:=0
def tw8664603044092130246:=0
def tw14773224579598246754:=0
def tw16957771286397122738:=0
def tw11019816431525672629:=0
def tw5994720811048063094:=0
def tw14913988645617980357:=0
def tw16988430205788006341:=0
def tw6438299867038450072:=0
def tw5297358489560111802:=0
def tw9299203521605876089:=0
def tw2023879592994141936:=0
def tw4436652974939047292:=0
def tw8230537431149548771:=0
def tw1466303431870608889:=0
def tw13295895374299420645:=0
def tw11125503175397387621:=0
def tw13593728846317943324:=0
def tw16428669608302268903:=0
def tw17438435224835288570:=0
def tw395509535398723375:=0
def tw5640713718167877592:=0
def tw14429412746715213475:=0
def tw18187051579701973021:=0
def tw11406444063097147387:=0
def tw16860359392400600262:=0
def tw4223308970156793190:=0
def tw4843311667769532689:=0
def tw2021226898539899410:=0
def tw13641586222690757553:=0
def tw12288960969807957665:=0
def tw322832458484465786:=0
def tw5055475525237728914:=0
def tw7275517992664745473:=0
def tw16395028985630612720:=0
def tw7949307823481500744:=0
def tw246538405269684812:=0
def tw16698309091282752176:=0
def tw18324899201423947653:=0
def tw14267889869194238978:=0
def tw1855704803364490978:=0
def tw520378909594864222:=0
def tw4637163094179237029:=0
def tw3485618759163442868:=0
def tw3417707503162753121:=0
def tw14746531046021713478:=0
def tw14187238970373945264:=0
def tw10209702954947498375:=0
def tw10162020004496626389:=0
def tw7939154376158552018:=0
def tw3254641814273167059:=0
def tw5664322833319335961:=0
def tw11677963034017786873:=0
def tw10535535330694107370:=0
def tw2667890132226296673:=0
def tw4322474521380591567:=0
def tw15796895918896110429:=0
def tw10246704304572663946:=0
def tw9610840319866249799:=0
def tw15566083456320574592:=0
def tw2403088948455087344:=0
def tw6743290175734238651:=0
def tw4121857636694194531:=0
def tw16053209336493975374:=0
def tw841932001824709244:=0
def tw698462514726024028:=0
def tw8294152610496276012:=0
def tw8043073408474006958:=0
def tw10936963735726071854:=0
def tw8655012396771582293:=0
def tw11534711254481450842:=0
def tw13754732376649445014:=0
def tw17544316335402137469:=0
def tw16325445612959000839:=0
def tw4890684515062523271:=0
def tw8646867105061646369:=0
def tw15559628024496875231:=0
def tw9123367817165336993:=0
def tw2769508520569734430:=0
def tw9445561139179085301:=0
def tw14775458286317556081:=0
def tw12666399898575185940:=0
def tw13324582237520448956:=0
def tw151261376943365672:=0
def tw10265286482358281460:=0
def tw8373386626455598419:=0
def tw1216348323296749782:=0
def tw16602393997237386534:=0
def tw15552524141559755462:=0
def tw6030030100062638666:=0
def tw8598647966310137942:=0
def tw10074995514824833845:=0
def tw883801598410569565:=0
def tw5820234103122885751:=0
def tw2778886376516448283:=0
def tw15049094879617608500:=0
def tw10136570098654083603:=0
def tw18416287615087103697:=0
def tw11046820802194638065:=0
def tw1579284355219930753:=0
def tw6227983713008207778:=0
def tw60501202057110802:=0
def tw4300698332231147384:=0
def tw5052629895086004177:=0
def tw13200715464561842850:=0
def tw13530717726766026244:=0
def tw13808222857736030499:=0
def tw1376993729656910531:=0
def tw15887881515251514798:=0
def tw1653006922993026545:=0
def tw9367565061553491035:=0
def tw10449327990327898832:=0
def tw10746113943658922068:=0
def tw16240165717927684234:=0
def tw12367665857596690814:=0
def tw8673951124738014267:=0
def tw6361482108563501025:=0
def tw6281714553711426911:=0
def tw3185678657125641784:=0
def tw8173864746937926561:=0
def tw11554580977522125837:=0
def tw12388663259613097881:=0
def tw13350459629782464397:=0
def tw18100107173414031047:=0
def tw9930530611038935548:=0
def tw44850922423715988:=0
end PySem.W.Fast
open PySem PySem.W PyProof.Rows
set_option maxRecDepth 100000 in
set_option maxHeartbeats 0 in
theorem PySem.Challenge.cw_plotstead_k01_plots_holds : PySem.Challenge.rw_plotstead_k01_plots.Holds := by
  w_on; o_law; k_head; (case hw=>w_witness2)
  k_fill
  refine Pl.k01.walk (l:=PySem.Challenge.rw_plotstead_k01_plots) rfl rfl (fun w h Y=>PySem.W.kIn_of Y) ?F
  case F=>
    intro w mg fa h KX G hmg
    refine' Pl.k01.all_mk KX G hmg ?_ ?_ ?_ ?_ ?_ ?_ ?_ ?_ ?_ ?_ ?_ ?_ ?_ ?_ ?_ ?_ ?_ ?_ ?_ ?_ ?_ ?_ ?_ ?_ ?_ ?_ ?_ ?_ ?_ ?_ ?_ ?_ ?_ ?_ ?_ ?_ ?_ ?_ ?_ ?_ ?_ ?_ ?_ ?_ ?_ ?_ ?_ ?_ ?_ ?_ ?_ ?_ ?_ ?_ ?_ ?_ ?_ ?_ ?_ ?_ ?_ ?_ ?_ ?_ ?_
    all_goals first | (apply L3.Df.mk; k_is; k_is; k_is; k_is) | (apply L3.GlobK.mk; k_is; k_is) | k_is | skip
