import PyProof.Rows.All
import Wide.All
import OpenK.AllK
import Wide.FinOn
import Lean
import PyProof.EqAt
import PyProof.EqKinds
import PyProof.TupleCall
import PySem.SetTable
import KE.KRevIter
import PyProof.FactsAll.set_1
import KE.KSortTup
import PyProof.FactsAll.tuple_2
import PyProof.ListMulRoad
import KE.KIntText
import PySem.Challenge.RW_plotstead_k03_whole_read
open PySem.W (Frag nsIn mg_none_of kitOne mg_of kia_one fnOf keepIn)
set_option Elab.async false
set_option linter.all false
set_option maxRecDepth 100000
namespace L2
open PySem PySem.Spec PyProof.Rows
noncomputable abbrev Key:=Sum Int Str
noncomputable def Zn3:Key->Value->Bool
 | .inl k,v=>Value.isInt k v
 | .inr x,v=>Value.isStrOf x v
noncomputable def ZqL (w:World):Key->Int
 | .inl k=>hashInt k
 | .inr x=>hashStr w x
theorem Yw:∀ {k:Key} {v:Value},Zn3 k v=true->(∃ i t,k=Sum.inl i/\v=Value.int i t)\/(∃ x t,k=Sum.inr x/\v=Value.str x t)
 | .inl i,v,h=>by
  obtain ⟨t,e⟩:=Value.isInt_shape (k:=i) (v:=v) h
  exact .inl ⟨i,t,rfl,e⟩
 | .inr x,v,h=>by
  obtain ⟨t,e⟩:=Value.isStrOf_shape (x:=x) (v:=v) h
  exact .inr ⟨x,t,rfl,e⟩
theorem Zn2 (a b:Int):decide ((Sum.inl a:Key)=Sum.inl b)=(a==b):=by
 by_cases e:a=b
 ·subst e; simp
 ·have h:¬ (Sum.inl a:Key)=Sum.inl b:=fun q=>e (Sum.inl.inj q)
  rw [decide_eq_false h]
  exact (beq_eq_false_iff_ne.mpr e).symm
theorem ZnZ (a b:Str):decide ((Sum.inr a:Key)=Sum.inr b)=decide (a=b):=by
 by_cases e:a=b
 ·subst e; simp
 ·have h:¬ (Sum.inr a:Key)=Sum.inr b:=fun q=>e (Sum.inr.inj q)
  rw [decide_eq_false h,decide_eq_false e]
theorem Zn1 (a:Int) (b:Str):decide ((Sum.inl a:Key)=Sum.inr b)=false:=decide_eq_false (fun q=>nomatch q)
theorem Zn0 (a:Str) (b:Int):decide ((Sum.inr a:Key)=Sum.inl b)=false:=decide_eq_false (fun q=>nomatch q)
noncomputable def ZhP (prog:Program) (w:World):PySem.KeyKind prog w Key where
 is:=Zn3
 hash:=ZqL w
 inj:=fun v a b ha hb=>by
  rcases Yw ha with ⟨i,t,rfl,rfl⟩ | ⟨x,t,rfl,rfl⟩
  ·rcases Yw hb with ⟨j,u,rfl,e⟩ | ⟨y,u,rfl,e⟩
   ·injection e with e1 _; rw [e1]
   ·exact nomatch e
  ·rcases Yw hb with ⟨j,u,rfl,e⟩ | ⟨y,u,rfl,e⟩
   ·exact nomatch e
   ·injection e with e1 _; rw [e1]
 byValue:=fun k v h=>by
  rcases Yw h with ⟨i,t,rfl,rfl⟩ | ⟨x,t,rfl,rfl⟩ <;> rfl
 pyHash:=fun hv h=>by
  rcases Yw hv with ⟨i,t,rfl,rfl⟩ | ⟨x,t,rfl,rfl⟩
  ·exact wpAny_pyHash_int h
  ·exact wpAny_pyHash_str h
 eqBool:=fun hu hv h=>by
  rcases Yw hu with ⟨i,t,rfl,rfl⟩ | ⟨x,t,rfl,rfl⟩
  ·rcases Yw hv with ⟨j,u,rfl,rfl⟩ | ⟨y,u,rfl,rfl⟩
   ·rw [Zn2] at h; exact wpAny_eqBool_int h
   ·rw [Zn1] at h; exact SeqAt.EqAt.int_str i t y u _ _ _ _ h
  ·rcases Yw hv with ⟨j,u,rfl,rfl⟩ | ⟨y,u,rfl,rfl⟩
   ·rw [Zn0] at h; exact SeqAt.EqAt.str_int x t j u _ _ _ _ h
   ·rw [ZnZ] at h; exact wpAny_eqBool_str h
 «strs»:=fun k x t v h=>by
  rcases Yw h with ⟨i,u,rfl,e⟩ | ⟨y,u,rfl,e⟩
  ·exact nomatch e
  ·injection e with e1 _
   subst e1
   cases v <;> rfl
inductive V where
 | non | bl (b:Bool) | int (i:Int) | str (x:Str) | byt (b:Array UInt8) | flt (b:UInt64) | ref (a:Addr) | ty (n:String)
 deriving DecidableEq
noncomputable def RelV:V->Value->Prop
 | .non,u=>u=Value.none
 | .bl b,u=>u=Value.bool b
 | .int i,u=>∃ t,u=Value.int i t
 | .str x,u=>∃ t,u=Value.str x t
 | .byt b,u=>∃ t,u=Value.bytes b t
 | .flt b,u=>∃ t,u=Value.float b t
 | .ref a,u=>u=Value.ref a
 | .ty n,u=>u=Value.type n
noncomputable abbrev Vals:List V->List Value->Prop:=Paired RelV
theorem Vals.length {xs:List V} {us:List Value} (r:Vals xs us):xs.length=us.length:=Paired.length r
theorem Vals.get:∀ {xs:List V} {us:List Value} {i:Nat} {x:V},Vals xs us->xs[i]?=some x->∃ u,us[i]?=some u/\RelV x u
 | _,_,_,_,.nil,e=>by simp at e
 | _,_,0,_,.cons r _,e=>by simp at e; subst e; exact ⟨_,rfl,r⟩
 | _,_,i+1,x,.cons _ t,e=>by
  obtain ⟨u,h1,h2⟩:=Vals.get (i:=i) (x:=x) t (by simpa using e)
  exact ⟨u,by simpa using h1,h2⟩
theorem Vals.append:∀ {xs ys:List V} {us ws:List Value},Vals xs us->Vals ys ws->Vals (xs++ys) (us++ws)
 | _,_,_,_,.nil,s=>s
 | _,_,_,_,.cons r t,s=>.cons r (Vals.append t s)
theorem Vals.take:∀ {xs:List V} {us:List Value} (n:Nat),Vals xs us->Vals (xs.take n) (us.take n)
 | _,_,0,_=>.nil
 | _,_,_+1,.nil=>.nil
 | _,_,n+1,.cons r t=>.cons r (Vals.take n t)
theorem Vals.drop:∀ {xs:List V} {us:List Value} (n:Nat),Vals xs us->Vals (xs.drop n) (us.drop n)
 | _,_,0,r=>r
 | _,_,_+1,.nil=>.nil
 | _,_,n+1,.cons _ t=>Vals.drop n t
noncomputable def ZpJ:Option V->Option Value->Prop
 | some v,some u=>RelV v u
 | none,none=>True
 | _,_=>False
noncomputable def KV {κ:Type}:List (κ×V)->List (κ×Value)->Prop:=Paired fun (p:κ×V) (q:κ×Value)=>p.1=q.1/\RelV p.2 q.2
noncomputable def kV:Key->V
 | .inl i=>.int i
 | .inr x=>.str x
inductive HO where
 | lst (xs:List V)
 | tup (xs:List V)
 | dK (kvs:List (Key×V)) | dT (kvs:List (List Key×V))
 | set (S:Int->Bool) (n:Nat)
 | ins (C dx:Addr) (fs:List (Str×V))
 | own (x:Addr)
 | xd (fs:List (Str×V))
 | met (f x:Addr)
 | rng (lo hi:Int)
 | frz (o:Obj) (u:HO)
 | tbl (ps:Array Value)
 | ext (φ:Heap->Prop)
noncomputable abbrev Hp:=Addr->Option HO
noncomputable def upd (H:Hp) (a:Addr) (o:HO):Hp:=fun b=>if b=a then some o else H b
theorem ZZ {H:Hp} {a:Addr} {o:HO}:upd H a o a=some o:=by unfold upd; rw [if_pos rfl]
theorem ZU {H:Hp} {a b:Addr} {o:HO} (h:b≠a):upd H a o b=H b:=by unfold upd; rw [if_neg h]
theorem ZR {H:Hp} {a b:Addr} {o:HO} (h:H a=some o) (h':H b=none):a≠b:=by
 intro e; subst e; rw [h] at h'; cases h'
section
variable (P:Program) (w:World)
noncomputable def ObjOk (H:Hp) (h:Heap) (a:Addr):HO->Prop
 | .lst xs=>xs.length<=sizeLine/\∃ (its:List Value) (n:Nat),Vals xs its/\h.get? a=some { cls:=.type "list",data:=.seq its.toArray n }
 | .tup xs=>xs.length<=sizeLine/\∃ its:List Value,Vals xs its/\IsTup h a its.toArray
 | .dK kvs=>kvs.length<=sizeLine/\(a==sysModules)=false/\∃ vs,KV kvs vs/\h.DictOf (ZhP P w) a vs
 | .dT kvs=>kvs.length<=sizeLine/\(a==sysModules)=false/\∃ xs:List (List Key×Addr×Value),
   Paired (fun (p:List Key×V) (q:List Key×Addr×Value)=>p.1=q.1/\H q.2.1=some (.tup (p.1.map kV))/\RelV p.2 q.2.2) kvs xs /\
   ∃ o es ep,h.get? a=some o/\o.ExactDict/\o.data=.dict es ep/\es.toList=xs.map (entryOfKey (tupleKind (ZhP P w)))/\(xs.map (·.1)).Nodup
 | .set S n=>h.SetOf (intKind P w) a S n
 | .ins C dx fs=>H dx=some (.own a)/\fs.length<=1000/\dx≠a/\h.get? a=some (PySem.W.instObj C dx) /\
   ∃ mA,h.Ns1 dx mA/\(∀ f,ZpJ (fs.lookup f) (mA f))/\PySem.Within mA (fs.map (·.1))
 | .own _=>∃ o,h.get? a=some o
 | .xd fs=>∃ mA,h.Ns1 a mA/\∀ f,ZpJ (fs.lookup f) (mA f)
 | .rng lo hi=>∃ t u v,h.get? a=some { cls:=.type "range",data:=.fields #[.int lo t,.int hi u,.int 1 v] }
 | .frz o u=>h.get? a=some o/\ObjOk H h a u
 | .tbl ps=>h.get? a=some { cls:=.none,data:=.fields ps }
 | .met f x=>h.get? a=some (PySem.W.methodObj (.ref f) (.ref x))
 | .ext φ=>φ h/\(∃ o,h.get? a=some o)/\∀ h1 h2:Heap,φ h1->(∀ o,h1.get? a=some o->h2.get? a=some o)->φ h2
noncomputable def HOk (H:Hp) (h:Heap):Prop:=∀ a o,H a=some o->ObjOk P w H h a o
end
section
variable {P:Program} {w:World} {H H':Hp} {h h':Heap} {a:Addr} {o:HO}
theorem ObjOk.lt (x:ObjOk P w H h a o):a < h.objs.size:=by
 cases o with
 | lst xs=>obtain ⟨_,_,_,_,e⟩:=x; exact Heap.lt_size e
 | tup xs=>obtain ⟨_,_,_,p⟩:=x; exact p.lt
 | dK kvs=>obtain ⟨_,_,_,_,o,_,_,e,_⟩:=x; exact Heap.lt_size e
 | dT kvs=>obtain ⟨_,_,_,_,o,_,_,e,_⟩:=x; exact Heap.lt_size e
 | set S n=>obtain ⟨o,_,_,_,e,_⟩:=x; exact Heap.lt_size e
 | ins C dx fs=>obtain ⟨_,_,_,e,_⟩:=x; exact Heap.lt_size e
 | own y=>obtain ⟨_,e⟩:=x; exact Heap.lt_size e
 | xd fs=>obtain ⟨_,⟨_,_,_,e,_⟩,_⟩:=x; exact Heap.lt_size e
 | rng lo hi=>obtain ⟨_,_,_,e⟩:=x; exact Heap.lt_size e
 | frz ob u=>obtain ⟨e,_⟩:=x; exact Heap.lt_size e
 | tbl ps=>exact Heap.lt_size (show h.get? a=some _ from x)
 | met f y=>exact Heap.lt_size (show h.get? a=some _ from x)
 | ext φ=>obtain ⟨_,⟨_,e⟩,_⟩:=x; exact Heap.lt_size e
theorem Paired.mapP {α β:Type} {F G:α->β->Prop}:∀ {l₁:List α} {l₂:List β},Paired F l₁ l₂->(∀ a b,F a b->G a b)->Paired G l₁ l₂
 | _,_,.nil,_=>.nil
 | _,_,.cons r t,f=>.cons (f _ _ r) (Paired.mapP t f)
theorem ObjOk.stay (x:ObjOk P w H h a o) (k:∀ b u,(b=a\/H b=some (.own a))->h.get? b=some u->h'.get? b=some u)
  (ho:∀ b,H b=some (.own a)->H' b=some (.own a)) (ht:∀ b xs,H b=some (.tup xs)->H' b=some (.tup xs)):ObjOk P w H' h' a o:=by
 induction o with
 | lst xs=>obtain ⟨z,its,n,r,e⟩:=x; exact ⟨z,its,n,r,k _ _ (.inl rfl) e⟩
 | tup xs=>obtain ⟨z,its,r,ob,e,c⟩:=x; exact ⟨z,its,r,ob,k _ _ (.inl rfl) e,c⟩
 | dK kvs=>obtain ⟨z,y,vs,r,ob,es,ep,e,c⟩:=x; exact ⟨z,y,vs,r,ob,es,ep,k _ _ (.inl rfl) e,c⟩
 | dT kvs=>
  obtain ⟨z,y,xs,r,ob,es,ep,e,c⟩:=x
  exact ⟨z,y,xs,Paired.mapP r fun p q z=>⟨z.1,ht _ _ z.2.1,z.2.2⟩,ob,es,ep,k _ _ (.inl rfl) e,c⟩
 | set S n=>obtain ⟨ob,es,ep,t,e,c⟩:=x; exact ⟨ob,es,ep,t,k _ _ (.inl rfl) e,c⟩
 | ins C dx fs=>
  obtain ⟨d,z,ne,e,mA,⟨od,es,ep,e2,c⟩,r⟩:=x
  exact ⟨ho _ d,z,ne,k _ _ (.inl rfl) e,mA,⟨od,es,ep,k _ _ (.inr d) e2,c⟩,r⟩
 | own y=>obtain ⟨ob,e⟩:=x; exact ⟨ob,k _ _ (.inl rfl) e⟩
 | xd fs=>obtain ⟨mA,⟨od,es,ep,e,c⟩,r⟩:=x; exact ⟨mA,⟨od,es,ep,k _ _ (.inl rfl) e,c⟩,r⟩
 | rng lo hi=>obtain ⟨t,u,v,e⟩:=x; exact ⟨t,u,v,k _ _ (.inl rfl) e⟩
 | frz ob u ih=>obtain ⟨e,q⟩:=x; exact ⟨k _ _ (.inl rfl) e,ih q⟩
 | tbl ps=>
  have e:h.get? a=some { cls:=.none,data:=.fields ps }:=x
  show h'.get? a=some { cls:=.none,data:=.fields ps }
  exact k a _ (.inl rfl) e
 | met f y=>
  have e:h.get? a=some (PySem.W.methodObj (.ref f) (.ref y)):=x
  show h'.get? a=some (PySem.W.methodObj (.ref f) (.ref y))
  exact k a _ (.inl rfl) e
 | ext φ=>obtain ⟨p,⟨o,e⟩,st⟩:=x; exact ⟨st _ _ p fun o q=>k _ _ (.inl rfl) q,⟨o,k _ _ (.inl rfl) e⟩,st⟩
theorem HOk.lt (x:HOk P w H h) (e:H a=some o):a < h.objs.size:=(x a o e).lt
theorem HOk.fresh (x:HOk P w H h) (e:h.objs.size<=a):H a=none:=by
 cases q:H a with
 | none=>rfl
 | some u=>exact absurd (Nat.lt_of_lt_of_le (x.lt q) e) (Nat.lt_irrefl _)
theorem HOk.kept (x:HOk P w H h) (k:∀ b u,h.get? b=some u->h'.get? b=some u):HOk P w H h':=fun a o e=>
 (x a o e).stay (fun b u _ q=>k b u q) (fun _ q=>q) fun _ _ q=>q
theorem HOk.laid (x:HOk P w H h) (k:∀ b u,h.get? b=some u->h'.get? b=some u) (hp:h.objs.size<=a) (new:ObjOk P w (upd H a o) h' a o):HOk P w (upd H a o) h':=fun b u e=>by
 have hn:=x.fresh hp
 by_cases hb:b=a
 ·subst hb; rw [ZZ] at e; cases e; exact new
 ·rw [ZU hb] at e
  exact (x b u e).stay (fun c v _ q=>k c v q) (fun c q=>by rw [ZU (ZR q hn)]; exact q) fun c xs q=>by rw [ZU (ZR q hn)]; exact q
end
noncomputable def Rd (H:Hp) (a:Addr) (u:HO):Prop:=H a=some u\/∃ o,H a=some (.frz o u)
theorem Rd.ok {P:Program} {w:World} {H:Hp} {h:Heap} {a:Addr} {u:HO} (r:Rd H a u) (x:HOk P w H h):ObjOk P w H h a u:=by
 rcases r with r | ⟨o,r⟩
 ·exact x a u r
 ·obtain ⟨_,q⟩:=x a _ r
  exact q
noncomputable def Mut:Option HO->Prop
 | some (.lst _)=>True
 | some (.dK _)=>True
 | some (.dT _)=>True
 | some (.set _ _)=>True
 | some (.ins _ _ _)=>True
 | some (.ext _)=>True
 | _=>False
section
variable {P:Program} {w:World} {H:Hp} {h h':Heap} {x e:Addr} {o':HO}
theorem HOk.write (ok:HOk P w H h) (mu:Mut (H x)) (he:e=x\/H e=some (.own x)) (k:∀ b u,b≠e->h.get? b=some u->h'.get? b=some u) (heo:∃ u,h'.get? e=some u)
  (new:ObjOk P w (upd H x o') h' x o'):HOk P w (upd H x o') h':=fun b u q=>by
 have nown:∀ c y,H c=some (.own y)->c≠x:=fun c y r z=>by subst z; rw [r] at mu; exact mu
 have ntup:∀ c xs,H c=some (.tup xs)->c≠x:=fun c xs r z=>by subst z; rw [r] at mu; exact mu
 by_cases hb:b=x
 ·subst hb; rw [ZZ] at q; cases q; exact new
 ·rw [ZU hb] at q
  by_cases hbe:b=e
  ·have q':H b=some (.own x):=by
    rcases he with z | z
    ·exact absurd (hbe.trans z) hb
    ·rw [hbe]; exact z
   rw [q] at q'; cases q'
   obtain ⟨v,hv⟩:=heo
   exact ⟨v,by rw [hbe]; exact hv⟩
  ·refine (ok b u q).stay (fun c v hc r=>k c v ?_ r) (fun c r=>by rw [ZU (nown c b r)]; exact r) fun c xs r=>by rw [ZU (ntup c xs r)]; exact r
   rcases hc with rfl | hc
   ·exact hbe
   ·rintro rfl
    rcases he with z | z
    ·exact nown c b hc z
    ·rw [hc] at z; cases z; exact hb rfl
end
structure Un (fs ex:List Addr) (H H':Hp) (h h':Heap):Prop where
 keep:∀ b o,h.get? b=some o->H b=none->b ∉ fs->b ∉ ex->h'.get? b=some o
 slot:∀ b o,h.get? b=some o->H b=none->b∈fs->b ∉ ex->∃ sl,h'.get? b=some { o with slots:=sl }
 free:∀ b o,h.get? b=some o->H b=none->b ∉ ex->H' b=none
 there:∀ b o,h.get? b=some o->b ∉ ex->∃ o',h'.get? b=some o'
 tups:∀ b xs,H b=some (.tup xs)->H' b=some (.tup xs)
 frzs:∀ b o u,H b=some (.frz o u)->H' b=some (.frz o u)
 tbls:∀ b ps,H b=some (.tbl ps)->∃ more,H' b=some (.tbl (ps++more))
section
variable {fs fs' ex ex':List Addr} {H H1 H2:Hp} {h h1 h2 h':Heap} {a x e:Addr} {o:HO}
theorem Un.any (u:Un fs ex H H1 h h1) {b:Addr} {ob:Obj} (q:h.get? b=some ob) (n:H b=none) (hx:b ∉ ex):∃ sl,h1.get? b=some { ob with slots:=sl }:=by
 by_cases hb:b∈fs
 ·exact u.slot b ob q n hb hx
 ·exact ⟨ob.slots,u.keep b ob q n hb hx⟩
theorem Un.trans (a:Un fs ex H H1 h h1) (b:Un fs ex H1 H2 h1 h2):Un fs ex H H2 h h2 where
 keep:=fun c ob q n hc hx=>b.keep c ob (a.keep c ob q n hc hx) (a.free c ob q n hx) hc hx
 slot:=fun c ob q n hc hx=>by
  obtain ⟨sl,e1⟩:=a.slot c ob q n hc hx
  obtain ⟨sl',e2⟩:=b.slot c _ e1 (a.free c ob q n hx) hc hx
  exact ⟨sl',e2⟩
 free:=fun c ob q n hx=>by
  obtain ⟨o',e1⟩:=a.there c ob q hx
  exact b.free c o' e1 (a.free c ob q n hx) hx
 there:=fun c ob q hx=>by
  obtain ⟨o',e1⟩:=a.there c ob q hx
  exact b.there c o' e1 hx
 tups:=fun c xs q=>b.tups c xs (a.tups c xs q)
 frzs:=fun c ob xs q=>b.frzs c ob xs (a.frzs c ob xs q)
 tbls:=fun c ps q=>by
  obtain ⟨m1,e1⟩:=a.tbls c ps q
  obtain ⟨m2,e2⟩:=b.tbls c _ e1
  exact ⟨m1++m2,by rw [e2,Array.append_assoc]⟩
theorem Un.kept (k:∀ b u,h.get? b=some u->h'.get? b=some u):Un fs ex H H h h':=
 ⟨fun b ob q _ _ _=>k b ob q,fun b ob q _ _ _=>⟨ob.slots,k b ob q⟩,fun _ _ _ n _=>n,fun b ob q _=>⟨ob,k b ob q⟩,fun _ _ q=>q,fun _ _ _ q=>q,fun _ ps q=>⟨#[],by rw [q]; simp⟩⟩
theorem Un.refl:Un fs ex H H h h:=Un.kept fun _ _ q=>q
theorem Un.laid (k:∀ b u,h.get? b=some u->h'.get? b=some u) (hp:h.objs.size<=a) (hn:H a=none):Un fs ex H (upd H a o) h h' where
 keep:=fun b u q _ _ _=>k b u q
 slot:=fun b u q _ _ _=>⟨u.slots,k b u q⟩
 free:=fun b u q n _=>by rw [ZU (Nat.ne_of_lt (Nat.lt_of_lt_of_le (Heap.lt_size q) hp))]; exact n
 there:=fun b u q _=>⟨u,k b u q⟩
 tups:=fun b xs q=>by rw [ZU (ZR q hn)]; exact q
 frzs:=fun b u xs q=>by rw [ZU (ZR q hn)]; exact q
 tbls:=fun b ps q=>⟨#[],by rw [ZU (ZR q hn),q]; simp⟩
theorem Un.write (mu:Mut (H x)) (he:e=x\/H e=some (.own x)) (k:∀ b u,b≠e->h.get? b=some u->h'.get? b=some u) (heo:∃ u,h'.get? e=some u):Un fs ex H (upd H x o) h h':=by
 have hx:∀ b,H b=none->b≠x:=fun b n z=>by subst z; rw [n] at mu; exact mu
 have hb:∀ b,H b=none->b≠e:=fun b n z=>by
  subst z
  rcases he with r | r
  ·exact hx b n r
  ·rw [n] at r; cases r
 have hm:∀ b u,H b=some u->¬ Mut (some u)->b≠x:=fun b u q nm z=>by subst z; rw [q] at mu; exact nm mu
 refine ⟨fun b u q n _ _=>k b u (hb b n) q,fun b u q n _ _=>⟨u.slots,k b u (hb b n) q⟩,fun b u q n _=>by rw [ZU (hx b n)]; exact n,fun b u q _=>?_,
  fun b xs q=>by rw [ZU (hm b _ q fun z=>z)]; exact q,fun b u xs q=>by rw [ZU (hm b _ q fun z=>z)]; exact q,fun b ps q=>⟨#[],by rw [ZU (hm b _ q fun z=>z),q]; simp⟩⟩
 by_cases hbe:b=e
 ·subst hbe; exact heo
 ·exact ⟨u,k b u hbe q⟩
theorem Un.mono (u:Un fs ex H H1 h h1) (hs:∀ b∈fs,b∈fs') (hx:∀ b∈ex,b∈ex'):Un fs' ex' H H1 h h1:=
 ⟨fun b ob q n hb he=>u.keep b ob q n (fun z=>hb (hs b z)) fun z=>he (hx b z),fun _ _ q n _ he=>u.any q n fun z=>he (hx _ z),fun b ob q n he=>u.free b ob q n fun z=>he (hx b z),fun b ob q he=>u.there b ob q fun z=>he (hx b z),u.tups,u.frzs,u.tbls⟩
end
noncomputable def trk (h:Heap) (H:Hp):List Addr:=(List.range h.objs.size).filter fun a=>(H a).isSome
noncomputable def ZjX (h:Heap) (H:Hp):Heap:=PySem.W.hideAll h (trk h H)
theorem Zid (h:Heap) (H:Hp):(ZjX h H).objs.size=h.objs.size:=PySem.W.hideAll_size _ _
theorem ZjW {h:Heap} {H:Hp} {b:Addr} {o:Obj} (e:h.get? b=some o) (n:H b=none):(ZjX h H).get? b=some o:=
 PySem.W.hideAll_get _ e fun hm=>by
  have q:(H b).isSome=true:=(List.mem_filter.mp hm).2
  rw [n] at q; simp at q
theorem ZlQ {h:Heap} {H:Hp} {b:Addr} {o:Obj} (e:(ZjX h H).get? b=some o):h.get? b=some o/\H b=none:=by
 have e':h.get? b=some o:=PySem.W.of_hideAll (trk h H) e
 refine ⟨e',?_⟩
 cases q:H b with
 | none=>rfl
 | some x=>
  have hm:b∈trk h H:=List.mem_filter.mpr ⟨List.mem_range.mpr (Heap.lt_size e'),by simp [q]⟩
  have z:(ZjX h H).get? b=none:=PySem.W.hideAll_none (trk h H) hm
  rw [z] at e; cases e
noncomputable def Zmz (g h:Heap) (L:Addr):List (Addr×Obj):=(List.range h.objs.size).filterMap fun a=>if a=L\/(g.get? a).isSome=true then none else (h.get? a).map fun o=>(a,o)
noncomputable def rest (g h:Heap) (L d:Addr):List (Addr×Obj):=(Zmz g h L).filter fun p=>decide (p.1≠d)
structure Mod (K:Frag) (mg:Str->Option Value) (base:Heap):Prop where
 kin:K.In base
 glob:base.Ns mainGlobals mg
 blt:∃ mb,base.Ns builtinsNs mb/\∀ x:Str,x≠"__name__"->mb x=bootBuiltins x
 nolimit:base.NoLimit
structure Cx where
 prog:Program
 w:World
 K:Frag
 mg:Str->Option Value
 base:Heap
 A:Around
 N:List Str
 s₀:Shared
 H₀:Hp
 env:Env
 outer:List Env
 stack:List Env
 ex:List Addr
 fn:Str->Bool
 calm:Bool
 pn:List (Addr×Obj)
 xe:Value->Shared->Prop
noncomputable def frs (l:List Env):List Addr:=l.filterMap (·.frame)
noncomputable abbrev Cx.fs (X:Cx):List Addr:=frs X.outer
noncomputable def Vis (sc:Scope) (x:Str):Prop:=sc.names.lookup x=some .local\/sc.names.lookup x=some .cell\/sc.names.lookup x=some .free
noncomputable def Loc (sc:Scope) (x:Str):Prop:=sc.names.lookup x=some .local\/sc.names.lookup x=some .cell
noncomputable def Zq5 (env:Env) (h:Heap) (m:Str->Option Value) (x:Str) (u:Value):Prop:=
 (env.kindOf x=some .local/\m x=some u)\/((env.kindOf x=some .cell\/env.kindOf x=some .free)/\∃ c,env.cells.lookup x=some c/\h.IsCell c (some u))
structure Cx.Ok (X:Cx):Prop where
 mod:Mod X.K X.mg X.base
 kind:X.env.scope.kind=.function
 glob:X.env.globals=mainGlobals
 blt:X.env.builtins=builtinsNs
 above:X.s₀.heap.objs.size<=X.env.locals
 inj:∀ x y c,X.env.cells.lookup x=some c->X.env.cells.lookup y=some c->x=y
 has:∀ x,(X.env.kindOf x=some .cell\/X.env.kindOf x=some .free)->∃ c,X.env.cells.lookup x=some c
 cab:∀ x c,X.fn x=true->X.env.cells.lookup x=some c->X.s₀.heap.objs.size<=c
 hd:X.calm=true->X.A.handled=none
 frames:X.A.frames=some X.stack
 stk:X.stack=X.outer\/(X.stack=X.env::X.outer/\X.env.frame=some X.env.locals)
 exf:∀ b∈X.ex,b≠X.env.locals/\∀ x c,X.env.cells.lookup x=some c->c≠b
 bs:∀ b o,X.base.get? b=some o->X.s₀.heap.get? b=some o/\X.H₀ b=none
 bsz:X.base.objs.size<=X.s₀.heap.objs.size
 noex:∀ b o,X.base.get? b=some o->b ∉ X.ex
 exfs:∀ b∈X.ex,b ∉ X.fs
 funs:X.s₀.heap.FunFrames X.base X.outer
 frf:∀ b∈X.fs,X.H₀ b=none
structure Inv (X:Cx) (pins:List (Addr×Obj)) (σ:List (Option V)) (H:Hp) (s:Shared):Prop where
 ok:X.Ok
 os:s.os=X.s₀.os
 bare:AllBare s.gens
 base:Un X.fs X.ex X.H₀ H X.s₀.heap s.heap
 loc:∃ m,s.heap.Ns X.env.locals m/\∀ (i:Nat) (x:Str) (v:V),X.N[i]?=some x->σ[i]?=some (some v)->Vis X.env.scope x->∃ u,RelV v u/\Zq5 X.env s.heap m x u
 cell:∀ x c,X.env.cells.lookup x=some c->∃ v,s.heap.IsCell c v
 free:H X.env.locals=none
 freeC:∀ x c,X.env.cells.lookup x=some c->H c=none
 pin:∀ p∈X.pn++pins,s.heap.get? p.1=some p.2/\H p.1=none/\p.1≠X.env.locals/\p.1 ∉ X.fs/\∀ v,p.2.data≠.cell v
 hok:HOk X.prog X.w H s.heap
 len:σ.length=X.N.length
section
variable {X:Cx} {pins:List (Addr×Obj)} {σ:List (Option V)} {H H':Hp} {s:Shared} {h':Heap}
theorem Cx.Ok.nofr (ok:X.Ok) {b:Addr} {o:Obj} (e:X.base.get? b=some o):b ∉ X.fs:=fun hb=>by
 have:=(ok.funs.mem hb).1
 rw [e] at this; cases this
theorem Inv.bs (I:Inv X pins σ H s):∀ b o,X.base.get? b=some o->s.heap.get? b=some o/\H b=none:=fun b o e=>
 ⟨I.base.keep b o (I.ok.bs b o e).1 (I.ok.bs b o e).2 (I.ok.nofr e) (I.ok.noex b o e),I.base.free b o (I.ok.bs b o e).1 (I.ok.bs b o e).2 (I.ok.noex b o e)⟩
theorem Inv.bk (I:Inv X pins σ H s):∀ b o,X.base.get? b=some o->s.heap.get? b=some o:=fun b o e=>(I.bs b o e).1
theorem Inv.mod (I:Inv X pins σ H s):Mod X.K X.mg X.base:=I.ok.mod
theorem Inv.kIn (I:Inv X pins σ H s):X.K.In s.heap:=I.ok.mod.kin.keeps I.bk
theorem Inv.lt (I:Inv X pins σ H s):X.env.locals < s.heap.objs.size:=let ⟨_,hn,_⟩:=I.loc; hn.lt
theorem Inv.sz (I:Inv X pins σ H s):X.s₀.heap.objs.size<=s.heap.objs.size:=Nat.le_trans I.ok.above (Nat.le_of_lt I.lt)
theorem Inv.nofs (I:Inv X pins σ H s) {a:Addr} (h:s.heap.objs.size<=a):a ∉ X.fs:=fun hb=>by
 obtain ⟨_,o,ho,_⟩:=I.ok.funs.mem hb
 exact absurd (Nat.lt_of_lt_of_le (Heap.lt_size ho) (Nat.le_trans I.sz h)) (Nat.lt_irrefl _)
theorem Inv.cne (I:Inv X pins σ H s):∀ x c,X.env.cells.lookup x=some c->c≠X.env.locals:=fun x c e z=>by
 obtain ⟨v,o,ho,hd⟩:=I.cell x c e
 obtain ⟨m,⟨o',es,ep,ho',hd',_⟩,_⟩:=I.loc
 rw [z,ho'] at ho; cases ho; rw [hd'] at hd; cases hd
theorem Inv.funs (I:Inv X pins σ H s):s.heap.FunFrames X.base X.outer:=by
 have all:∀ (l:List Env),(∀ b∈frs l,b∈X.fs)->X.s₀.heap.FunFrames X.base l->s.heap.FunFrames X.base l:=by
  intro l
  induction l with
  | nil=>intro _ _; trivial
  | cons env r ih=>
   intro hs hl
   obtain ⟨hk,⟨L,o,hf,hn,ho,hd⟩,hr⟩:=hl
   have hL:L∈X.fs:=hs L (by unfold frs; rw [List.filterMap_cons,hf]; exact List.mem_cons_self)
   obtain ⟨sl,e⟩:=I.base.slot L o ho (I.ok.frf L hL) hL fun z=>I.ok.exfs L z hL
   exact ⟨hk,⟨L,_,hf,hn,e,hd⟩,ih (fun b hb=>hs b (by unfold frs; rw [List.filterMap_cons,hf]; exact List.mem_cons_of_mem _ hb)) hr⟩
 exact all X.outer (fun _ hb=>hb) I.ok.funs
theorem Inv.stack (I:Inv X pins σ H s):s.heap.FunFrames X.base X.stack:=by
 rcases I.ok.stk with e | ⟨e,hf⟩
 ·rw [e]; exact I.funs
 ·rw [e]
  obtain ⟨m,hn,_⟩:=I.loc
  refine .cons (by rw [I.ok.kind]; decide) hf hn ?_ I.funs
  exact Heap.get?_none_of_le (Nat.le_trans I.ok.bsz I.ok.above)
theorem Inv.stkSub (I:Inv X pins σ H s):∀ b∈frs X.stack,b∈X.env.locals::X.fs:=fun b hb=>by
 rcases I.ok.stk with e | ⟨e,hf⟩
 ·rw [e] at hb; exact List.mem_cons_of_mem _ hb
 ·rw [e] at hb
  unfold frs at hb
  rw [List.filterMap_cons,hf] at hb
  exact hb
theorem Inv.stkFree (I:Inv X pins σ H s):∀ b∈frs X.stack,H b=none:=fun b hb=>by
 rcases List.mem_cons.mp (I.stkSub b hb) with e | hb
 ·rw [e]; exact I.free
 ·obtain ⟨_,o,ho,_⟩:=I.ok.funs.mem hb
  exact I.base.free b o ho (I.ok.frf b hb) fun z=>I.ok.exfs b z hb
theorem Inv.step {g':Array GenState} {t':Nat} {d':Drawn} {ch:List Addr} (I:Inv X pins σ H s)
  (hch:∀ b∈ch,(b∈X.ex\/X.s₀.heap.objs.size<=b)/\b≠X.env.locals/\(∀ x c,X.env.cells.lookup x=some c->c≠b)/\∀ p∈X.pn++pins,p.1≠b)
  (keep:∀ b o,b≠X.env.locals->b ∉ X.fs->b ∉ ch->s.heap.get? b=some o->H b=none->h'.get? b=some o)
  (slot:∀ b o,b≠X.env.locals->b∈X.fs->b ∉ ch->s.heap.get? b=some o->H b=none->∃ sl,h'.get? b=some { o with slots:=sl }) (free:∀ b o,b ∉ ch->s.heap.get? b=some o->H b=none->H' b=none)
  (there:∀ b o,b ∉ ch->s.heap.get? b=some o->∃ o',h'.get? b=some o')
  (tups:∀ b xs,H b=some (.tup xs)->H' b=some (.tup xs)) (frzs:∀ b o u,H b=some (.frz o u)->H' b=some (.frz o u)) (tbls:∀ b ps,H b=some (.tbl ps)->∃ more,H' b=some (.tbl (ps++more)))
  (ns:∀ m,s.heap.Ns X.env.locals m->h'.Ns X.env.locals m) (hok:HOk X.prog X.w H' h') (hg:AllBare g') :
  Inv X pins σ H' { s with heap:=h',gens:=g',drawn:=d',toks:=t' }:=by
 have neL:∀ b o,X.s₀.heap.get? b=some o->b≠X.env.locals:=fun b o e=>Nat.ne_of_lt (Nat.lt_of_lt_of_le (Heap.lt_size e) I.ok.above)
 have neC:∀ b o,X.s₀.heap.get? b=some o->b ∉ X.ex->b ∉ ch:=fun b o e hx hb=>by
  rcases (hch b hb).1 with z | z
  ·exact hx z
  ·exact absurd (Nat.lt_of_lt_of_le (Heap.lt_size e) z) (Nat.lt_irrefl _)
 have cellK:∀ x c,X.env.cells.lookup x=some c->∀ v,s.heap.IsCell c v->h'.IsCell c v:=fun x c e v zq=>by
  obtain ⟨o,ho,hd⟩:=zq
  have nch:c ∉ ch:=fun z=>(hch c z).2.2.1 x c e rfl
  by_cases hc:c∈X.fs
  ·obtain ⟨sl,q⟩:=slot c o (I.cne x c e) hc nch ho (I.freeC x c e)
   exact ⟨_,q,hd⟩
  ·exact ⟨o,keep c o (I.cne x c e) hc nch ho (I.freeC x c e),hd⟩
 refine ⟨I.ok,I.os,hg,⟨fun b o e n hb hx=>?_,fun b o e n hb hx=>?_,fun b o e n hx=>?_,fun b o e hx=>?_,fun b xs e=>tups b xs (I.base.tups b xs e),fun b o xs e=>frzs b o xs (I.base.frzs b o xs e),fun b ps e=>?_⟩,?_,fun x c e=>?_,?_,fun x c e=>?_,fun p hp=>?_,hok,I.len⟩
 ·exact keep b o (neL b o e) hb (neC b o e hx) (I.base.keep b o e n hb hx) (I.base.free b o e n hx)
 ·obtain ⟨sl,e1⟩:=I.base.slot b o e n hb hx
  obtain ⟨sl',e2⟩:=slot b _ (neL b o e) hb (neC b o e hx) e1 (I.base.free b o e n hx)
  exact ⟨sl',e2⟩
 ·obtain ⟨o',e1⟩:=I.base.there b o e hx
  exact free b o' (neC b o e hx) e1 (I.base.free b o e n hx)
 ·obtain ⟨o',e1⟩:=I.base.there b o e hx
  exact there b o' (neC b o e hx) e1
 ·obtain ⟨m1,e1⟩:=I.base.tbls b ps e
  obtain ⟨m2,e2⟩:=tbls b _ e1
  exact ⟨m1++m2,by rw [e2,Array.append_assoc]⟩
 ·obtain ⟨m,hn,hl⟩:=I.loc
  refine ⟨m,ns m hn,fun i x v e1 e2 e3=>?_⟩
  obtain ⟨u,r,l⟩:=hl i x v e1 e2 e3
  refine ⟨u,r,?_⟩
  rcases l with l | ⟨k,c,e,z⟩
  ·exact .inl l
  ·exact .inr ⟨k,c,e,cellK x c e _ z⟩
 ·obtain ⟨v,z⟩:=I.cell x c e
  exact ⟨v,cellK x c e v z⟩
 ·obtain ⟨m,⟨o,_,_,ho,_⟩,_⟩:=I.loc
  exact free _ o (fun z=>(hch _ z).2.1 rfl) ho I.free
 ·obtain ⟨v,o,ho,hd⟩:=I.cell x c e
  exact free c o (fun z=>(hch c z).2.2.1 x c e rfl) ho (I.freeC x c e)
 ·obtain ⟨e,n,ne,nf,d⟩:=I.pin p hp
  have nch:p.1 ∉ ch:=fun z=>(hch p.1 z).2.2.2 p hp rfl
  exact ⟨keep p.1 p.2 ne nf nch e n,free p.1 p.2 nch e n,ne,nf,d⟩
theorem Inv.un {t':Nat} (I:Inv X pins σ H s) (u:Un X.fs [] H H' s.heap h') (hok:HOk X.prog X.w H' h'):Inv X pins σ H' { s with heap:=h',toks:=t' }:=by
 obtain ⟨m,⟨o,es,ep,ho,r⟩,_⟩:=id I.loc
 obtain ⟨sl,hL⟩:=u.any ho I.free (by simp)
 exact I.step (g':=s.gens) (d':=s.drawn) (ch:=[]) (fun _ z=>nomatch z) (fun b o _ hb _ e n=>u.keep b o e n hb (by simp)) (fun b o _ hb _ e n=>u.slot b o e n hb (by simp)) (fun b o _ e n=>u.free b o e n (by simp)) (fun b o _ e=>u.there b o e (by simp)) u.tups u.frzs u.tbls (fun m' hm=>by
  obtain ⟨o',es',ep',ho',r'⟩:=hm
  rw [ho] at ho'; cases ho'
  exact ⟨_,es',ep',hL,r'⟩) hok I.bare
theorem Inv.call {g':Array GenState} {t':Nat} {d':Drawn} {ch:List Addr} (I:Inv X pins σ H s) (u:Un (frs X.stack) ch H H' s.heap h') (hok:HOk X.prog X.w H' h') (hg:AllBare g')
  (hch:∀ b∈ch,(b∈X.ex\/X.s₀.heap.objs.size<=b)/\b≠X.env.locals/\(∀ x c,X.env.cells.lookup x=some c->c≠b)/\∀ p∈X.pn++pins,p.1≠b) :
  Inv X pins σ H' { s with heap:=h',gens:=g',drawn:=d',toks:=t' }:=by
 obtain ⟨m,⟨o,es,ep,ho,r⟩,_⟩:=id I.loc
 obtain ⟨sl,hL⟩:=u.any ho I.free fun z=>(hch _ z).2.1 rfl
 exact I.step (ch:=ch) hch (fun b o hL hb hc e n=>u.keep b o e n (fun z=>(List.mem_cons.mp (I.stkSub b z)).elim hL hb) hc) (fun b o _ _ hc e n=>u.any e n hc) (fun b o hc e n=>u.free b o e n hc) (fun b o hc e=>u.there b o e hc) u.tups u.frzs u.tbls (fun m' hm=>by
  obtain ⟨o',es',ep',ho',r'⟩:=hm
  rw [ho] at ho'; cases ho'
  exact ⟨_,es',ep',hL,r'⟩) hok hg
theorem Inv.turned {t':Nat} {it:Addr} (I:Inv X pins σ H s) (k:∀ b o,b≠it->s.heap.get? b=some o->h'.get? b=some o) (hn:H it=none) (hL:it≠X.env.locals)
  (h1:it∈X.ex\/X.s₀.heap.objs.size<=it) (h2:∀ x c,X.env.cells.lookup x=some c->c≠it) (h3:∀ p∈X.pn++pins,p.1≠it):Inv X pins σ H { s with heap:=h',toks:=t' }:=by
 have nit:∀ b u,H b=some u->b≠it:=fun b u e z=>by rw [z,hn] at e; cases e
 refine I.step (g':=s.gens) (d':=s.drawn) (ch:=[it]) (fun b hb=>?_) (fun b o _ _ hc e _=>k b o (fun z=>hc (by simp [z])) e) (fun b o _ _ hc e _=>⟨o.slots,k b o (fun z=>hc (by simp [z])) e⟩) (fun _ _ _ _ n=>n)
  (fun b o hc e=>⟨o,k b o (fun z=>hc (by simp [z])) e⟩) (fun _ _ e=>e) (fun _ _ _ e=>e) (fun b ps e=>⟨#[],by rw [e]; simp⟩) (fun m hm=>?_) (fun b u e=>?_) I.bare
 ·have e:b=it:=by simpa using hb
  subst e
  exact ⟨h1,hL,h2,h3⟩
 ·obtain ⟨o,es,ep,ho,r⟩:=hm
  exact ⟨o,es,ep,k _ o (Ne.symm hL) ho,r⟩
 ·refine (I.hok b u e).stay (fun c v hc q=>k c v ?_ q) (fun _ q=>q) fun _ _ q=>q
  rcases hc with z | z
  ·rw [z]; exact nit b u e
  ·exact nit c _ z
theorem Inv.tok (I:Inv X pins σ H s) (t:Nat):Inv X pins σ H { s with toks:=t }:=I.un (h':=s.heap) (t':=t) Un.refl I.hok
theorem Inv.kept {t':Nat} (I:Inv X pins σ H s) (k:∀ b u,s.heap.get? b=some u->h'.get? b=some u):Inv X pins σ H { s with heap:=h',toks:=t' }:=I.un (Un.kept k) (I.hok.kept k)
theorem Inv.laid {a:Addr} {o:HO} {t':Nat} (I:Inv X pins σ H s) (k:∀ b u,s.heap.get? b=some u->h'.get? b=some u) (hp:s.heap.objs.size<=a) (new:ObjOk X.prog X.w (upd H a o) h' a o) :
  Inv X pins σ (upd H a o) { s with heap:=h',toks:=t' }:=I.un (Un.laid k hp (I.hok.fresh hp)) (I.hok.laid k hp new)
theorem Inv.write {x e:Addr} {o:HO} {t':Nat} (I:Inv X pins σ H s) (mu:Mut (H x)) (he:e=x\/H e=some (.own x)) (k:∀ b u,b≠e->s.heap.get? b=some u->h'.get? b=some u) (heo:∃ u,h'.get? e=some u)
  (new:ObjOk X.prog X.w (upd H x o) h' x o):Inv X pins σ (upd H x o) { s with heap:=h',toks:=t' }:=I.un (Un.write mu he k heo) (I.hok.write mu he k heo new)
theorem Inv.pins_of {pins':List (Addr×Obj)} (I:Inv X pins σ H s) (h:∀ p∈pins',s.heap.get? p.1=some p.2/\H p.1=none/\p.1≠X.env.locals/\p.1 ∉ X.fs/\∀ v,p.2.data≠.cell v):Inv X pins' σ H s:=
 ⟨I.ok,I.os,I.bare,I.base,I.loc,I.cell,I.free,I.freeC,fun p hp=>(List.mem_append.mp hp).elim (fun z=>I.pin p (List.mem_append_left _ z)) (h p),I.hok,I.len⟩
theorem Zfz {N:List Str} (hN:N.Nodup) {i j:Nat} {x:Str} (a:N[i]?=some x) (b:N[j]?=some x):i=j:=by
 obtain ⟨h1,e1⟩:=List.getElem?_eq_some_iff.mp a
 obtain ⟨h2,e2⟩:=List.getElem?_eq_some_iff.mp b
 exact (List.getElem_inj hN).mp (e1.trans e2.symm)
theorem Zg4 {M:Model} {A:Around} {E:Value->Shared->Prop} {i:Nat} {x:Str} {v:V} {u:Value} {Q:Unit->Shared->Prop} (I:Inv X pins σ H s) (hN:X.N.Nodup) (hi:X.N[i]?=some x) (hx:Loc X.env.scope x) (r:RelV v u)
  (h:∀ s',Inv X pins (σ.set i (some v)) H s'->(∃ a,Heap.SameBut a s.heap s'.heap/\(a=X.env.locals\/X.env.cells.lookup x=some a))->Q () s') (hf:X.fn x=true\/X.env.scope.names.lookup x=some .local:=by first | exact .inl rfl | exact .inr rfl | assumption):wpAny M A (storeName X.env x u) Q E s:=by
 obtain ⟨m,hn,hl⟩:=id I.loc
 have hcls:(X.env.scope.kind==.class||(X.env.scope.kind==.module&&X.env.locals != X.env.globals))=false:=by rw [I.ok.kind]; rfl
 have hiσ:i < σ.length:=by rw [I.len]; exact (List.getElem?_eq_some_iff.mp hi).1
 have cne:=I.cne
 have tracked:∀ {a:Addr} {h':Heap},(∃ o,s.heap.get? a=some o/\H a=none)->Heap.SameBut a s.heap h'->HOk X.prog X.w H h':=fun {a h'} ha hs b ob e=>by
  obtain ⟨_,_,hfree⟩:=ha
  refine (I.hok b ob e).stay (fun c w' hc q=>(hs.2 c ?_).trans q) (fun _ q=>q) fun _ _ q=>q
  rintro rfl
  rcases hc with rfl | hc
  ·rw [hfree] at e; cases e
  ·rw [hfree] at hc; cases hc
 rcases hx with hk | hk
 ·refine wpAny_storeName_local hk hn (fun h' hn' hs=>?_) hcls
  obtain ⟨oL,_,_,hoL,_⟩:=id hn
  refine h _ ⟨I.ok,I.os,I.bare,⟨fun b o e n hb hx=>?_,fun b o e n hb hx=>?_,I.base.free,fun b o e hx=>?_,I.base.tups,I.base.frzs,I.base.tbls⟩,⟨_,hn',fun j y v' e1 e2 e3=>?_⟩,fun y c e=>?_,I.free,I.freeC,fun p hp=>?_,tracked ⟨oL,hoL,I.free⟩ hs,by simpa using I.len⟩ ⟨_,hs,.inl rfl⟩
  ·exact (hs.2 b (Nat.ne_of_lt (Nat.lt_of_lt_of_le (Heap.lt_size e) I.ok.above))).trans (I.base.keep b o e n hb hx)
  ·obtain ⟨sl,e1⟩:=I.base.slot b o e n hb hx
   exact ⟨sl,(hs.2 b (Nat.ne_of_lt (Nat.lt_of_lt_of_le (Heap.lt_size e) I.ok.above))).trans e1⟩
  ·obtain ⟨o',e1⟩:=I.base.there b o e hx
   exact ⟨o',(hs.2 b (Nat.ne_of_lt (Nat.lt_of_lt_of_le (Heap.lt_size e) I.ok.above))).trans e1⟩
  ·by_cases hj:j=i
   ·subst hj
    rw [hi] at e1; cases e1
    rw [List.getElem?_set_self hiσ] at e2
    cases e2
    exact ⟨u,r,.inl ⟨hk,by simp⟩⟩
   ·rw [List.getElem?_set_ne (Ne.symm hj)] at e2
    obtain ⟨u',r',q⟩:=hl j y v' e1 e2 e3
    refine ⟨u',r',?_⟩
    rcases q with ⟨k,e⟩ | ⟨k,c,e,z⟩
    ·refine .inl ⟨k,?_⟩
     have:y≠x:=fun e=>hj (Zfz hN e1 (e ▸ hi))
     simp [this,e]
    ·exact .inr ⟨k,c,e,z.sameBut hs (cne y c e)⟩
  ·obtain ⟨w',z⟩:=I.cell y c e
   exact ⟨w',z.sameBut hs (cne y c e)⟩
  ·obtain ⟨e,n,ne,nf,d⟩:=I.pin p hp
   exact ⟨(hs.2 p.1 ne).trans e,n,ne,nf,d⟩
 ·have hfn:X.fn x=true:=by
   rcases hf with z | z
   ·exact z
   ·rw [z] at hk; cases hk
  obtain ⟨c,hc⟩:=I.ok.has x (.inl hk)
  obtain ⟨w',z⟩:=I.cell x c hc
  refine wpAny_storeName_cell I.ok.kind hk hc z (fun h' hc' hs=>?_)
  obtain ⟨oc,hoc,hocd⟩:=id z
  refine h { s with heap:=h' } ⟨I.ok,I.os,I.bare,⟨fun b o e n hb hx=>?_,fun b o e n hb hx=>?_,I.base.free,fun b o e hx=>?_,I.base.tups,I.base.frzs,I.base.tbls⟩,⟨m,hn.sameBut hs (Ne.symm (cne x c hc)),fun j y v' e1 e2 e3=>?_⟩,fun y c' e=>?_,I.free,I.freeC,fun p hp=>?_,tracked ⟨oc,hoc,I.freeC x c hc⟩ hs,by simpa using I.len⟩ ⟨c,hs,.inr hc⟩
  ·exact (hs.2 b (Nat.ne_of_lt (Nat.lt_of_lt_of_le (Heap.lt_size e) (I.ok.cab x c hfn hc)))).trans (I.base.keep b o e n hb hx)
  ·obtain ⟨sl,e1⟩:=I.base.slot b o e n hb hx
   exact ⟨sl,(hs.2 b (Nat.ne_of_lt (Nat.lt_of_lt_of_le (Heap.lt_size e) (I.ok.cab x c hfn hc)))).trans e1⟩
  ·obtain ⟨o',e1⟩:=I.base.there b o e hx
   exact ⟨o',(hs.2 b (Nat.ne_of_lt (Nat.lt_of_lt_of_le (Heap.lt_size e) (I.ok.cab x c hfn hc)))).trans e1⟩
  ·by_cases hj:j=i
   ·subst hj
    rw [hi] at e1; cases e1
    rw [List.getElem?_set_self hiσ] at e2
    cases e2
    exact ⟨u,r,.inr ⟨.inl hk,c,hc,hc'⟩⟩
   ·rw [List.getElem?_set_ne (Ne.symm hj)] at e2
    obtain ⟨u',r',q⟩:=hl j y v' e1 e2 e3
    refine ⟨u',r',?_⟩
    rcases q with q | ⟨k,c',e,z'⟩
    ·exact .inl q
    ·refine .inr ⟨k,c',e,z'.sameBut hs ?_⟩
     rintro rfl
     exact hj (Zfz hN e1 (I.ok.inj _ _ _ e hc ▸ hi))
  ·by_cases hcc:c'=c
   ·subst hcc; exact ⟨_,hc'⟩
   ·obtain ⟨w2,z2⟩:=I.cell y c' e
    exact ⟨w2,z2.sameBut hs hcc⟩
  ·obtain ⟨e,n,ne,nf,d⟩:=I.pin p hp
   refine ⟨(hs.2 p.1 ?_).trans e,n,ne,nf,d⟩
   intro q
   rw [q,hoc] at e
   have q':oc=p.2:=Option.some.inj e
   exact d w' (by rw [<-q']; exact hocd)
theorem Zae {M:Model} {A:Around} {E:Value->Shared->Prop} {i:Nat} {x:Str} {v:V} {u:Value} {Q:Unit->Shared->Prop} (I:Inv X pins σ H s) (hN:X.N.Nodup) (hi:X.N[i]?=some x) (hx:Loc X.env.scope x) (r:RelV v u)
  (h:∀ s',Inv X pins (σ.set i (some v)) H s'->Q () s') (hf:X.fn x=true\/X.env.scope.names.lookup x=some .local:=by first | exact .inl rfl | exact .inr rfl | assumption):wpAny M A (storeName X.env x u) Q E s:=
 Zg4 I hN hi hx r (fun s' I' _=>h s' I') hf
theorem Inv.call' {s':Shared} {ch:List Addr} (I:Inv X pins σ H s) (ho:s'.os=s.os) (u:Un (frs X.stack) ch H H' s.heap s'.heap) (hok:HOk X.prog X.w H' s'.heap) (hg:AllBare s'.gens)
  (hch:∀ b∈ch,(b∈X.ex\/X.s₀.heap.objs.size<=b)/\b≠X.env.locals/\(∀ x c,X.env.cells.lookup x=some c->c≠b)/\∀ p∈X.pn++pins,p.1≠b):Inv X pins σ H' s':=by
 obtain ⟨h',g',d',t',o'⟩:=s'
 have e:o'=s.os:=ho
 subst e
 exact I.call (g':=g') (t':=t') (d':=d') u hok hg hch
end
noncomputable abbrev XK:=Value->Option Addr->Hp->Prop
noncomputable abbrev St:=List (Option V)
noncomputable abbrev VK:=V->Hp->Prop
noncomputable abbrev TE:=St->Hp->VK->Prop
noncomputable abbrev TT:=St->Hp->(Bool->Hp->Prop)->Prop
noncomputable abbrev TA:=St->Hp->(List V->Hp->Prop)->Prop
structure Zk4 where
 nx:St->Hp->Prop
 rt:VK
 bk:St->Hp->Prop:=fun _ _=>False
 ct:St->Hp->Prop:=fun _ _=>False
noncomputable abbrev TS:=Zk4->St->Hp->Prop
inductive EP (X:Cx) (pins:List (Addr×Obj)) (σ:St) (Q:VK) (u:Value) (s':Shared):Prop
 | mk (v:V) (H':Hp) (I:Inv X pins σ H' s') (r:RelV v u) (q:Q v H')
noncomputable def TP (X:Cx) (pins:List (Addr×Obj)) (σ:St) (Q:Bool->Hp->Prop) (b:Bool) (s':Shared):Prop:=∃ H',Inv X pins σ H' s'/\Q b H'
inductive AP (X:Cx) (pins:List (Addr×Obj)) (σ:St) (Q:List V->Hp->Prop) (us:List Value) (s':Shared):Prop
 | mk (vs:List V) (H':Hp) (I:Inv X pins σ H' s') (r:Vals vs us) (q:Q vs H')
noncomputable def SP (X:Cx) (pins:List (Addr×Obj)) (D:Zk4) (f:Flow) (s':Shared):Prop:=
 match f with
 | .next=>∃ σ' H',Inv X pins σ' H' s'/\D.nx σ' H'
 | .brk=>∃ σ' H',Inv X pins σ' H' s'/\D.bk σ' H'
 | .cont=>∃ σ' H',Inv X pins σ' H' s'/\D.ct σ' H'
 | .ret u=>∃ v σ' H',Inv X pins σ' H' s'/\RelV v u/\D.rt v H'
noncomputable def PE (X:Cx) (e:Expr) (t:TE):Prop:=
 ∀ (pins:List (Addr×Obj)) (s:Shared) (σ:St) (H:Hp) (Q:VK),Inv X pins σ H s->t σ H Q->wpAny (model X.prog X.w) X.A (eval e X.env) (EP X pins σ Q) X.xe s
noncomputable def PT (X:Cx) (e:Expr) (t:TT):Prop:=
 ∀ (pins:List (Addr×Obj)) (s:Shared) (σ:St) (H:Hp) (Q:Bool->Hp->Prop),Inv X pins σ H s->t σ H Q->wpAny (model X.prog X.w) X.A (isTrue e X.env (eval e X.env)) (TP X pins σ Q) X.xe s
noncomputable def PW (X:Cx) (e:Expr) (t:TT):Prop:=
 ∀ (whole:Sem Value) (pins:List (Addr×Obj)) (s:Shared) (σ:St) (H:Hp) (Q:Bool->Hp->Prop),Inv X pins σ H s->t σ H Q->wpAny (model X.prog X.w) X.A (isTrue e X.env whole) (TP X pins σ Q) X.xe s
theorem PW.pt {X:Cx} {e:Expr} {t:TT} (h:PW X e t):PT X e t:=h _
noncomputable def PA (X:Cx) (es:List Expr) (t:TA):Prop:=
 ∀ (pos:Pos) (pins:List (Addr×Obj)) (s:Shared) (σ:St) (H:Hp) (Q:List V->Hp->Prop),Inv X pins σ H s->t σ H Q->wpAny (model X.prog X.w) X.A (spliced (backTo pos (starEach es X.env))) (AP X pins σ Q) X.xe s
noncomputable def PS (X:Cx) (st:Stmt) (t:TS):Prop:=
 ∀ (pins:List (Addr×Obj)) (s:Shared) (σ:St) (H:Hp) (D:Zk4),Inv X pins σ H s->t D σ H->wpAny (model X.prog X.w) X.A (exec st X.env) (SP X pins D) X.xe s
noncomputable def PSs (X:Cx) (st:List Stmt) (t:TS):Prop:=
 ∀ (pins:List (Addr×Obj)) (s:Shared) (σ:St) (H:Hp) (D:Zk4),Inv X pins σ H s->t D σ H->wpAny (model X.prog X.w) X.A (execs st X.env) (SP X pins D) X.xe s
theorem thn {α:Type} {t:Sem α} {Q Q':α->Shared->Prop} {M:Model} {A:Around} {E:Value->Shared->Prop} {s:Shared} (h:wpAny M A t Q E s) (hQ:∀ a s,Q a s->Q' a s):wpAny M A t Q' E s:=wpAny_mono h hQ fun _ _ x=>x
section
variable {X:Cx}
theorem bin {a b:Expr} {ta tb:TE} (ha:PE X a ta) (hb:PE X b tb) {pins:List (Addr×Obj)} {s:Shared} {σ:St} {H:Hp} {R:V->V->Hp->Prop} (I:Inv X pins σ H s) (h:ta σ H fun x H1=>tb σ H1 fun y H2=>R x y H2)
  {α:Type} {Q:α->Shared->Prop} {f:Value->Value->Sem α}
  (hf:∀ v u s2 x y H2,Inv X pins σ H2 s2->RelV x v->RelV y u->R x y H2->wpAny (model X.prog X.w) X.A (f v u) Q X.xe s2) :
  wpAny (model X.prog X.w) X.A (eval a X.env) (fun v s₁=>wpAny (model X.prog X.w) X.A (eval b X.env) (fun u s₂=>wpAny (model X.prog X.w) X.A (f v u) Q X.xe s₂) X.xe s₁) X.xe s:=by
 refine thn (ha pins s σ H _ I h) fun v s1 zq=>?_
 obtain ⟨x,H1,I1,r1,q1⟩:=zq
 refine thn (hb pins s1 σ H1 _ I1 q1) fun u s2 zq=>?_
 obtain ⟨y,H2,I2,r2,q2⟩:=zq
 exact hf v u s2 x y H2 I2 r1 r2 q2
noncomputable def ZoE (i:Nat):TE:=fun σ H Q=>∃ v,σ[i]?=some (some v)/\Q v H
noncomputable def tC (v:V):TE:=fun _ H Q=>Q v H
theorem Znt {i:Nat} {x:Str} {pos:Pos} (hN:X.N[i]?=some x) (hv:Vis X.env.scope x) (hd:(x==("__debug__":Str))=false:=by decide) (hcd:(x==("__classdict__":Str))=false:=by decide):PE X (.Name x pos) (ZoE i):=by
 intro pins s σ H Q I h
 obtain ⟨v,e,h⟩:=h
 obtain ⟨m,hn,hl⟩:=I.loc
 obtain ⟨u,r,l⟩:=hl i x v hN e hv
 have fin:EP X pins σ Q u s:=⟨v,H,I,r,h⟩
 rcases l with ⟨hk,hm⟩ | ⟨hk,c,hc,hcell⟩
 ·exact wpAny_Name (wpAny_loadName_local I.ok.kind hk hn hm fin) hd
 ·rcases hk with hk | hk
  ·exact wpAny_Name (wpAny_loadName_cell I.ok.kind hk hc hcell fin) hd
  ·exact wpAny_Name (wpAny_loadName_free I.ok.kind hk hc hcell fin hcd) hd
theorem ZkE {i j pos}:PE X (.Constant (.int i) j pos) (tC (.int i)):=fun _ _ _ H _ I h=>wpAny_Constant_int ⟨.int i,H,I.tok _,⟨_,rfl⟩,h⟩
theorem Zpb {b j pos}:PE X (.Constant (.bool b) j pos) (tC (.bl b)):=fun _ _ _ H _ I h=>Constant_bool ⟨.bl b,H,I,rfl,h⟩
theorem Znv {j pos}:PE X (.Constant .none j pos) (tC .non):=fun _ _ _ H _ I h=>Constant_none ⟨.non,H,I,rfl,h⟩
theorem Zdt {x j pos}:PE X (.Constant (.str x) j pos) (tC (.str x)):=fun _ _ _ H _ I h=>Calls.Constant_str ⟨.str x,H,I.tok _,⟨_,rfl⟩,h⟩
noncomputable def Gl (X:Cx) (x:Str):Prop:=X.env.kindOf x=some .globalImplicit
theorem ZcV {E:Value->Shared->Prop} {pins:List (Addr×Obj)} {s:Shared} {σ:St} {H:Hp} {x:Str} {u:Value} {pos:Pos} {Q:Value->Shared->Prop} (I:Inv X pins σ H s) (hg:Gl X x) (hm:X.mg x=some u) (h:Q u s)
  (hd:(x==("__debug__":Str))=false:=by decide):wpAny (model X.prog X.w) X.A (eval (.Name x pos) X.env) Q E s:=
 Calls.Name_function_global I.ok.kind hg (Calls.loadGlobal_global (by rw [I.ok.glob]; exact I.mod.glob.keeps I.bk) hm h) hd
theorem Vc {E:Value->Shared->Prop} {pins:List (Addr×Obj)} {s:Shared} {σ:St} {H:Hp} {x:Str} {u:Value} {pos:Pos} {Q:Value->Shared->Prop} (I:Inv X pins σ H s) (hg:Gl X x) (hm:X.mg x=none) (hv:bootBuiltins x=some u) (h:Q u s)
  (hn:x≠"__name__":=by decide) (hd:(x==("__debug__":Str))=false:=by decide):wpAny (model X.prog X.w) X.A (eval (.Name x pos) X.env) Q E s:=by
 obtain ⟨mb,h1,h2⟩:=I.mod.blt
 exact Calls.Name_function_global I.ok.kind hg (Calls.loadGlobal_builtin (by rw [I.ok.glob]; exact I.mod.glob.keeps I.bk) hm (by rw [I.ok.blt]; exact h1.keeps I.bk) ((h2 x hn).trans hv) h) hd
theorem ZcF {x:Str} {v:V} {u:Value} {pos:Pos} (hg:Gl X x) (hm:X.mg x=some u) (r:RelV v u) (hd:(x==("__debug__":Str))=false:=by decide):PE X (.Name x pos) (tC v):=
 fun _ _ _ H _ I h=>ZcV I hg hm ⟨v,H,I,r,h⟩ hd
theorem ZlL {x:Str} {v:V} {u:Value} {pos:Pos} (hg:Gl X x) (hm:X.mg x=none) (hv:bootBuiltins x=some u) (r:RelV v u) (hn:x≠"__name__":=by decide) (hd:(x==("__debug__":Str))=false:=by decide):PE X (.Name x pos) (tC v):=
 fun _ _ _ H _ I h=>Vc I hg hm hv ⟨v,H,I,r,h⟩ hn hd
variable {a b:Expr} {ta tb:TE} {pos:Pos}
noncomputable def PC (X:Cx) (op:CmpOp) (a b:Expr) (t:TE):Prop:=
 ∀ (pins:List (Addr×Obj)) (s:Shared) (σ:St) (H:Hp) (Q:VK),Inv X pins σ H s->t σ H Q ->
  wpAny (model X.prog X.w) X.A (eval a X.env) (fun v s₁=>wpAny (model X.prog X.w) X.A (eval b X.env) (fun u s₂=>wpAny (model X.prog X.w) X.A (compareOp op v u) (EP X pins σ Q) X.xe s₂) X.xe s₁) X.xe s
theorem ZfA (b:Expr) {op:CmpOp} (h:op≠.In) (h2:op≠.NotIn):behindInMarks op b=false:=by
 have e1:(op==CmpOp.In)=false:=by cases op <;> first | rfl | exact absurd rfl h
 have e2:(op==CmpOp.NotIn)=false:=by cases op <;> first | rfl | exact absurd rfl h2
 cases b <;> simp [behindInMarks,e1,e2]
noncomputable def Zqm (ta:TE):TE:=fun σ H Q=>ta σ H fun x H1=>Q (.bl (decide (x=.non))) H1
theorem RelV.none_iff {x:V} {v:Value} (r:RelV x v):(v==Value.none)=decide (x=.non):=by
 cases x with
 | non=>cases r; rfl
 | bl _=>cases r; rfl
 | int _=>obtain ⟨t,rfl⟩:=r; rfl
 | str _=>obtain ⟨t,rfl⟩:=r; rfl
 | byt _=>obtain ⟨t,rfl⟩:=r; rfl
 | flt _=>obtain ⟨t,rfl⟩:=r; rfl
 | ref _=>cases r; rfl
 | ty _=>cases r; rfl
theorem Zny {j pos'} (ha:PE X a ta):PC X .Is a (.Constant .none j pos') (Zqm ta):=by
 intro pins s σ H Q I h
 refine thn (ha pins s σ H _ I h) fun v s1 zq=>?_
 obtain ⟨x,H1,I1,r1,q1⟩:=zq
 exact Constant_none (is_none_gen ⟨.bl _,H1,I1,by rw [r1.none_iff]; rfl,q1⟩)
noncomputable def tB (t:TE):TT:=fun σ H Q=>t σ H fun x H1=>∃ c,x=.bl c/\Q c H1
theorem Znx {op:CmpOp} {t:TE} (h:PC X op a b t) (h1:behindInMarks op b=false:=by first | exact ZfA _ (by decide) (by decide) | rfl):PE X (.Compare a [op] [b] pos) t:=fun pins s σ H Q I hw=>wpAny_Compare1 (h pins s σ H Q I hw) h1
theorem ZpT {op:CmpOp} {t:TE} (h:PC X op a b t) (h1:behindInMarks op b=false:=by first | exact ZfA _ (by decide) (by decide) | rfl):PT X (.Compare a [op] [b] pos) (tB t):=by
 intro pins s σ H Q I hw
 refine wpAny_isTrue_Compare1 (thn (h pins s σ H _ I hw) fun v s1 h1=>thn h1 fun u s2 h2=>thn h2 fun c s3 zq=>?_) h1
 obtain ⟨x,H1,I1,r1,q1⟩:=zq
 obtain ⟨d,rfl,q⟩:=q1
 cases r1
 exact wpAny_truthy_bool ⟨H1,I1,q⟩
theorem Znm {e:Expr} {t:TE} (h:PE X e t) (he:∀ whole,isTrue e X.env whole=(do let v <- whole; standAt e.pos; holding [v] (truthy v)):=by intro _; rfl):PT X e (tB t):=by
 intro pins s σ H Q I hw
 refine isTrue_plain (thn (h pins s σ H _ I hw) fun v s1 zq=>?_) (he _)
 obtain ⟨x,H1,I1,r1,q1⟩:=zq
 obtain ⟨d,rfl,q⟩:=q1
 cases r1
 exact wpAny_truthy_bool ⟨H1,I1,q⟩
variable {tA tB':TT} {rest:List Expr}
noncomputable def Zqq (t u:TT):TT:=fun σ H Q=>t σ H fun c H1=>if c=true then u σ H1 Q else Q false H1
noncomputable def tOr (t u:TT):TT:=fun σ H Q=>t σ H fun c H1=>if c=true then Q true H1 else u σ H1 Q
noncomputable def Zqj (t:TT):TT:=fun σ H Q=>t σ H fun c H1=>Q (!c) H1
theorem Zlv (ha:PT X a tA):PW X (.BoolOp .And [a] pos) tA:=by
 intro wh pins s σ H Q I h
 refine isTrue_and (thn (ha pins s σ H Q I h) fun c s1 e=>?_)
 cases c with
 | true=>exact isTrue_and_nil e
 | false=>exact e
theorem Znk (ha:PT X a tA):PW X (.BoolOp .Or [a] pos) tA:=by
 intro wh pins s σ H Q I h
 refine isTrue_or (thn (ha pins s σ H Q I h) fun c s1 e=>?_)
 cases c with
 | false=>exact isTrue_or_nil e
 | true=>exact e
theorem Znl (ha:PT X a tA) (hb:PW X (.BoolOp .And (b::rest) pos) tB'):PW X (.BoolOp .And (a::b::rest) pos) (Zqq tA tB'):=by
 intro wh pins s σ H Q I h
 refine isTrue_and (thn (ha pins s σ H _ I h) fun c s1 zq=>?_)
 obtain ⟨H1,I1,q1⟩:=zq
 cases c with
 | true=>exact hb wh pins s1 σ H1 Q I1 q1
 | false=>exact ⟨H1,I1,q1⟩
theorem Zo7 (ha:PT X a tA) (hb:PW X (.BoolOp .Or (b::rest) pos) tB'):PW X (.BoolOp .Or (a::b::rest) pos) (tOr tA tB'):=by
 intro wh pins s σ H Q I h
 refine isTrue_or (thn (ha pins s σ H _ I h) fun c s1 zq=>?_)
 obtain ⟨H1,I1,q1⟩:=zq
 cases c with
 | true=>exact ⟨H1,I1,q1⟩
 | false=>exact hb wh pins s1 σ H1 Q I1 q1
theorem Znn (ha:PT X a tA):PT X (.UnaryOp .Not a pos) (Zqj tA):=by
 intro pins s σ H Q I h
 exact isTrue_not (ha pins s σ H (fun c H1=>Q (!c) H1) I h)
noncomputable def Zo1 (ta tb:TE):TE:=fun σ H Q=>ta σ H fun x H1=>∃ c,x=.bl c/\if c=true then tb σ H1 Q else Q (.bl false) H1
noncomputable def Zqi (ta tb:TE):TE:=fun σ H Q=>ta σ H fun x H1=>∃ c,x=.bl c/\if c=true then Q (.bl true) H1 else tb σ H1 Q
noncomputable def ZoV (ta:TE):TE:=fun σ H Q=>ta σ H fun x H1=>∃ c,x=.bl c/\Q (.bl (!c)) H1
theorem ZkC {op} {t:TE} (h:PE X a t):PE X (.BoolOp op [a] pos) t:=fun pins s σ H Q I hw=>BoolOp_one (h pins s σ H Q I hw)
theorem Zhx (ha:PE X a ta) (hb:PE X (.BoolOp .And (b::rest) pos) tb):PE X (.BoolOp .And (a::b::rest) pos) (Zo1 ta tb):=by
 intro pins s σ H Q I h
 refine BoolOp_and (thn (ha pins s σ H _ I h) fun v s1 zq=>?_)
 obtain ⟨x,H1,I1,r1,q1⟩:=zq
 obtain ⟨c,rfl,q1⟩:=q1
 cases r1
 refine wpAny_truthy_bool ?_
 cases c with
 | true=>exact hb pins s1 σ H1 Q I1 q1
 | false=>exact ⟨.bl false,H1,I1,rfl,q1⟩
theorem ZlH (ha:PE X a ta) (hb:PE X (.BoolOp .Or (b::rest) pos) tb):PE X (.BoolOp .Or (a::b::rest) pos) (Zqi ta tb):=by
 intro pins s σ H Q I h
 refine BoolOp_or (thn (ha pins s σ H _ I h) fun v s1 zq=>?_)
 obtain ⟨x,H1,I1,r1,q1⟩:=zq
 obtain ⟨c,rfl,q1⟩:=q1
 cases r1
 refine wpAny_truthy_bool ?_
 cases c with
 | false=>exact hb pins s1 σ H1 Q I1 q1
 | true=>exact ⟨.bl true,H1,I1,rfl,q1⟩
theorem ZkD (ha:PE X a ta):PE X (.UnaryOp .Not a pos) (ZoV ta):=by
 intro pins s σ H Q I h
 refine UnaryOp_ (thn (ha pins s σ H _ I h) fun v s1 zq=>?_)
 obtain ⟨x,H1,I1,r1,q1⟩:=zq
 obtain ⟨c,rfl,q1⟩:=q1
 cases r1
 exact not_of (wpAny_truthy_bool ⟨.bl (!c),H1,I1,rfl,q1⟩)
noncomputable def tIf (t:TT) (ta tb:TE):TE:=fun σ H Q=>t σ H fun c H1=>if c=true then ta σ H1 Q else tb σ H1 Q
theorem Zjy {c:Expr} (hc:PT X c tA) (ha:PE X a ta) (hb:PE X b tb):PE X (.IfExp c a b pos) (tIf tA ta tb):=by
 intro pins s σ H Q I h
 refine wpAny_IfExp (thn (hc pins s σ H _ I h) fun d s1 zq=>?_)
 obtain ⟨H1,I1,q1⟩:=zq
 cases d with
 | true=>exact ha pins s1 σ H1 Q I1 q1
 | false=>exact hb pins s1 σ H1 Q I1 q1
end
noncomputable def SqL (K:Frag) (H:Hp) (a:Addr) (xs:List V):Prop:=
 Rd H a (.lst xs) \/
  ∃ (o:Obj) (its:Array Value) (n:Nat),K.lookup a=some o/\o.cls=.type "list"/\o.dict=none/\o.data=.seq its n/\its.size<=sizeLine/\Vals xs its.toList
noncomputable def SqT (K:Frag) (H:Hp) (a:Addr) (xs:List V):Prop:=
 Rd H a (.tup xs) \/
  ∃ (o:Obj) (its:Array Value) (n:Nat),K.lookup a=some o/\o.cls=.type "tuple"/\o.data=.seq its n/\its.size<=sizeLine/\Vals xs its.toList
noncomputable def ZqY:Value->Option V
 | .none=>some .non
 | .bool b=>some (.bl b)
 | .int i _=>some (.int i)
 | .str x _=>some (.str x)
 | .bytes b _=>some (.byt b)
 | .float b _=>some (.flt b)
 | .ref a=>some (.ref a)
 | .type n=>some (.ty n)
 | _=>none
theorem RelV.abs {x:V} {u:Value} (r:RelV x u):ZqY u=some x:=by
 cases x with
 | non=>cases r; rfl
 | bl _=>cases r; rfl
 | int _=>obtain ⟨t,rfl⟩:=r; rfl
 | str _=>obtain ⟨t,rfl⟩:=r; rfl
 | byt _=>obtain ⟨t,rfl⟩:=r; rfl
 | flt _=>obtain ⟨t,rfl⟩:=r; rfl
 | ref _=>cases r; rfl
 | ty _=>cases r; rfl
theorem RelV.inj {x y:V} {u:Value} (r:RelV x u) (q:RelV y u):x=y:=Option.some.inj (r.abs.symm.trans q.abs)
theorem Vals.inj:∀ {xs ys:List V} {us:List Value},Vals xs us->Vals ys us->xs=ys
 | _,_,_,.nil,.nil=>rfl
 | _,_,_,.cons r t,.cons r' t'=>by rw [r.inj r',Vals.inj t t']
section
variable {X:Cx} {pins:List (Addr×Obj)} {σ:St} {H:Hp} {s:Shared} {a:Addr} {xs ys:List V}
theorem SqL.of {K:Frag} (h:H a=some (.lst xs)):SqL K H a xs:=.inl (.inl h)
theorem SqT.of {K:Frag} (h:H a=some (.tup xs)):SqT K H a xs:=.inl (.inl h)
theorem Inv.list (I:Inv X pins σ H s) (h:SqL X.K H a xs):∃ its:List Value,Vals xs its/\PlainL s.heap a its.toArray/\xs.length<=sizeLine:=by
 rcases h with h | ⟨o,its,n,hk,hc,hd,hs,hz,r⟩
 ·obtain ⟨z,its,n,r,e⟩:=h.ok I.hok
  exact ⟨its,r,⟨_,n,e,rfl,rfl,rfl⟩,z⟩
 ·refine ⟨its.toList,r,⟨o,n,I.kIn a o hk,hc,hd,by simpa using hs⟩,?_⟩
  have e:=r.length
  simp only [Array.length_toList] at e
  omega
theorem Inv.tuple (I:Inv X pins σ H s) (h:SqT X.K H a xs):∃ its:List Value,Vals xs its/\IsTup s.heap a its.toArray/\xs.length<=sizeLine:=by
 rcases h with h | ⟨o,its,n,hk,hc,hs,hz,r⟩
 ·obtain ⟨z,its,r,p⟩:=h.ok I.hok
  exact ⟨its,r,p,z⟩
 ·refine ⟨its.toList,r,⟨o,I.kIn a o hk,hc,n,by simpa using hs⟩,?_⟩
  have e:=r.length
  simp only [Array.length_toList] at e
  omega
theorem Inv.list_inj (I:Inv X pins σ H s) (h:SqL X.K H a xs) (h':SqL X.K H a ys):xs=ys:=by
 obtain ⟨its,r,⟨o,n,e,_,_,d⟩,_⟩:=I.list h
 obtain ⟨its',r',⟨o',n',e',_,_,d'⟩,_⟩:=I.list h'
 rw [e] at e'; cases e'
 rw [d] at d'
 injection d' with d1 _
 have:its=its':=by simpa using congrArg Array.toList d1
 subst this
 exact r.inj r'
theorem Inv.tuple_inj (I:Inv X pins σ H s) (h:SqT X.K H a xs) (h':SqT X.K H a ys):xs=ys:=by
 obtain ⟨its,r,⟨o,e,_,n,d⟩,_⟩:=I.tuple h
 obtain ⟨its',r',⟨o',e',_,n',d'⟩,_⟩:=I.tuple h'
 rw [e] at e'; cases e'
 rw [d] at d'
 injection d' with d1 _
 have:its=its':=by simpa using congrArg Array.toList d1
 subst this
 exact r.inj r'
end
noncomputable abbrev Cx.wish (X:Cx) (E:Value->Shared->Prop):Cx:={ X with xe:=E }
noncomputable abbrev Cx.nox (X:Cx):Cx:=X.wish fun _ _=>False
theorem Cx.Ok.wish {X:Cx} (ok:X.Ok) (E:Value->Shared->Prop):(X.wish E).Ok:=
 ⟨ok.mod,ok.kind,ok.glob,ok.blt,ok.above,ok.inj,ok.has,ok.cab,ok.hd,ok.frames,ok.stk,ok.exf,ok.bs,ok.bsz,ok.noex,ok.exfs,ok.funs,ok.frf⟩
theorem Cx.Ok.unwish {X:Cx} {E:Value->Shared->Prop} (ok:(X.wish E).Ok):X.Ok:=
 ⟨ok.mod,ok.kind,ok.glob,ok.blt,ok.above,ok.inj,ok.has,ok.cab,ok.hd,ok.frames,ok.stk,ok.exf,ok.bs,ok.bsz,ok.noex,ok.exfs,ok.funs,ok.frf⟩
section
variable {X:Cx} {pins:List (Addr×Obj)} {σ:St} {H:Hp} {s:Shared} {E:Value->Shared->Prop}
theorem Inv.wish (I:Inv X pins σ H s) (E:Value->Shared->Prop):Inv (X.wish E) pins σ H s:=⟨I.ok.wish E,I.os,I.bare,I.base,I.loc,I.cell,I.free,I.freeC,I.pin,I.hok,I.len⟩
theorem Inv.unwish (I:Inv (X.wish E) pins σ H s):Inv X pins σ H s:=⟨I.ok.unwish,I.os,I.bare,I.base,I.loc,I.cell,I.free,I.freeC,I.pin,I.hok,I.len⟩
theorem SP.unwish {D:Zk4} {f:Flow} {s':Shared} (h:SP (X.wish E) pins D f s'):SP X pins D f s':=by
 cases f with
 | next=>obtain ⟨σ',H',I,q⟩:=h; exact ⟨σ',H',I.unwish,q⟩
 | brk=>obtain ⟨σ',H',I,q⟩:=h; exact ⟨σ',H',I.unwish,q⟩
 | cont=>obtain ⟨σ',H',I,q⟩:=h; exact ⟨σ',H',I.unwish,q⟩
 | ret u=>obtain ⟨v,σ',H',I,r,q⟩:=h; exact ⟨v,σ',H',I.unwish,r,q⟩
theorem PSs.nox {st:List Stmt} {t:TS} (h:PSs X.nox st t):PSs X st t:=fun pins s σ H D I hw=>
 wpAny_mono (h pins s σ H D (I.wish _) hw) (fun _ _ q=>q.unwish) fun _ _ z=>False.elim z
end
section
variable {X:Cx} {st:Stmt} {rest:List Stmt} {t u:TS} {e:Expr} {te:TE} {pos:Pos}
noncomputable def ZoW:TS:=fun D σ H=>D.nx σ H
noncomputable def Zqg (t u:TS):TS:=fun D σ H=>t { D with nx:=u D } σ H
theorem Zlz:PSs X [] ZoW:=fun _ _ σ H _ I h=>wpAny_execs_nil ⟨σ,H,I,h⟩
theorem J7 (h1:PS X st t) (h2:PSs X rest u):PSs X (st::rest) (Zqg t u):=by
 intro pins s σ H D I h
 refine wpAny_execs_cons (thn (h1 pins s σ H { D with nx:=u D } I h) fun f s1 q=>?_)
 cases f with
 | next=>
  obtain ⟨σ',H',I',q⟩:=q
  exact h2 pins s1 σ' H' D I' q
 | ret v=>exact q
 | brk=>exact q
 | cont=>exact q
theorem Vw (h1:PS X st t):PSs X [st] t:=by
 intro pins s σ H D I h
 refine wpAny_execs_cons (thn (h1 pins s σ H D I h) fun f s1 q=>?_)
 cases f with
 | next=>exact wpAny_execs_nil q
 | ret v=>exact q
 | brk=>exact q
 | cont=>exact q
theorem Inv.quiet {pins:List (Addr×Obj)} {σ:St} {H:Hp} {s:Shared} (I:Inv X pins σ H s):interactive X.env=false:=by simp [interactive,I.ok.kind]
noncomputable def ZoY (te:TE):TS:=fun D σ H=>te σ H fun _ H1=>D.nx σ H1
theorem ZlB (he:PE X e te) (hs:swapsWith e none pos.line X.env=pure false:=by rfl):PS X (.Expr e pos) (ZoY te):=by
 intro pins s σ H D I h
 exact wpAny_Expr_any (thn (he pins s σ H _ I h) fun v s1 ⟨x,H1,I1,r1,q1⟩=>⟨σ,H1,I1,q1⟩) I.quiet hs
noncomputable def Zqh (te:TE):TS:=fun D σ H=>te σ H D.rt
theorem ZkB (he:PE X e te):PS X (.Return (some e) pos) (Zqh te):=by
 intro pins s σ H D I h
 exact wpAny_Return_some (thn (he pins s σ H _ I h) fun v s1 ⟨x,H1,I1,r1,q1⟩=>⟨x,σ,H1,I1,r1,q1⟩)
noncomputable def Zqn (c:TT) (t u:TS):TS:=fun D σ H=>c σ H fun b H1=>if b=true then t D σ H1 else u D σ H1
theorem ZlA {c:Expr} {a b:List Stmt} {tc:TT} (hc:PT X c tc) (ha:PSs X a t) (hb:PSs X b u):PS X (.If c a b pos) (Zqn tc t u):=by
 intro pins s σ H D I h
 refine wpAny_If (thn (hc pins s σ H _ I h) fun d s1 zq=>?_)
 obtain ⟨H1,I1,q1⟩:=zq
 cases d with
 | true=>exact ha pins s1 σ H1 D I1 q1
 | false=>exact hb pins s1 σ H1 D I1 q1
end
noncomputable abbrev TG:=V->St->Hp->(St->Hp->Prop)->Prop
noncomputable abbrev TGs:=List V->St->Hp->(St->Hp->Prop)->Prop
noncomputable def PG (X:Cx) (target:Expr) (t:TG):Prop:=
 ∀ (pins:List (Addr×Obj)) (s:Shared) (σ:St) (H:Hp) (v:V) (u:Value) (Q:St->Hp->Prop),Inv X pins σ H s->RelV v u->t v σ H Q ->
  wpAny (model X.prog X.w) X.A (assign target X.env u) (fun _ s'=>∃ σ' H',Inv X pins σ' H' s'/\Q σ' H') X.xe s
noncomputable def PGs (X:Cx) (ts:List Expr) (t:TGs):Prop:=
 ∀ (pins:List (Addr×Obj)) (s:Shared) (σ:St) (H:Hp) (vs:List V) (us:List Value) (Q:St->Hp->Prop),Inv X pins σ H s->Vals vs us->t vs σ H Q ->
  wpAny (model X.prog X.w) X.A (assignInOrder ((assignEach ts X.env).map (·.2)) us) (fun _ s'=>∃ σ' H',Inv X pins σ' H' s'/\Q σ' H') X.xe s
noncomputable abbrev TSet:=V->V->V->Hp->(Hp->Prop)->Prop
section
variable {X:Cx} {pos:Pos}
noncomputable def Zob (i:Nat):TG:=fun v σ H Q=>Q (σ.set i (some v)) H
theorem ZeG {i:Nat} {x:Str} (hN:X.N.Nodup) (hi:X.N[i]?=some x) (hx:Loc X.env.scope x) (hf:X.fn x=true\/X.env.scope.names.lookup x=some .local:=by first | exact .inl rfl | exact .inr rfl | assumption):PG X (.Name x pos) (Zob i):=by
 intro pins s σ H v u Q I r h
 exact wpAny_assign_Name (Zae I hN hi hx r (fun s' I'=>⟨_,H,I',h⟩) hf)
noncomputable def ZqT:TGs:=fun vs σ H Q=>vs=[]/\Q σ H
noncomputable def Zpu (t:TG) (u:TGs):TGs:=fun vs σ H Q=>∃ v r,vs=v::r/\t v σ H fun σ' H'=>u r σ' H' Q
theorem ZlG:PGs X [] ZqT:=by
 intro pins s σ H vs us Q I r h
 obtain ⟨e,h⟩:=h
 subst e
 cases r
 exact assignInOrder_nil ⟨σ,H,I,h⟩
theorem Zfv {e:Expr} {es:List Expr} {t:TG} {u:TGs} (h1:PG X e t) (h2:PGs X es u)
  (hs:(assignEach (e::es) X.env).map (·.2)=assign e X.env::(assignEach es X.env).map (·.2):=by rfl):PGs X (e::es) (Zpu t u):=by
 intro pins s σ H vs us Q I r h
 obtain ⟨v,vr,e1,h⟩:=h
 subst e1
 cases r with
 | cons r rr=>
  rw [hs]
  refine assignInOrder_cons (thn (h1 pins s σ H _ _ _ I r h) fun _ s1 zq=>?_)
  obtain ⟨σ1,H1,I1,q1⟩:=zq
  exact h2 pins s1 σ1 H1 _ _ Q I1 rr q1
noncomputable def ZqS (K:Frag) (n:Nat) (t:TGs):TG:=fun v σ H Q=>∃ a xs,v=.ref a/\SqT K H a xs/\xs.length=n/\t xs σ H Q
theorem Zns {es:List Expr} {k:Nat} {t:TGs} {n:Nat} (hc:X.calm=true) (h:PGs X es t)
  (hn:(assignEach es X.env).length=n:=by rfl) (hst:(assignEach es X.env).findIdx? (·.1)=none:=by rfl):PG X (.Tuple es k pos) (ZqS X.K n t):=by
 intro pins s σ H v u Q I r hw
 obtain ⟨a,xs,e1,hq,hl,hw⟩:=hw
 subst e1
 cases r
 obtain ⟨its,rv,ht,hz⟩:=I.tuple hq
 refine assign_Tuple_tuple (I.ok.hd hc) ht (by simp [hn,<-hl,rv.length]) hst fun h' hx=>?_
 have I1:Inv X pins σ H { s with heap:=h' }:=I.kept (t':=s.toks) fun b o e=>hx b o (Nat.ne_of_lt (Heap.lt_size e)) e
 exact h pins _ σ H xs _ Q I1 (by simpa using rv) hw
noncomputable def Zqp (te:TE) (g:TG):TS:=fun D σ H=>te σ H fun x H1=>g x σ H1 D.nx
theorem Zds {i:Nat} {x:Str} {e:Expr} {te:TE} {pos':Pos} (hN:X.N.Nodup) (hi:X.N[i]?=some x) (hx:Loc X.env.scope x) (he:PE X e te) (hs:swapsWith e (some (.Name x pos')) pos.line X.env=pure false:=by rfl) (hf:X.fn x=true\/X.env.scope.names.lookup x=some .local:=by first | exact .inl rfl | exact .inr rfl | assumption) :
  PS X (.Assign [.Name x pos'] e pos) (Zqp te (Zob i)):=by
 intro pins s σ H D I h
 refine wpAny_Assign_Name (thn (he pins s σ H _ I h) fun v s1 zq=>?_) hs
 obtain ⟨y,H1,I1,r1,q1⟩:=zq
 exact Zae I1 hN hi hx r1 (fun s2 I2=>⟨_,H1,I2,q1⟩) hf
end
section
variable {X:Cx} {pos:Pos}
noncomputable def ZmU (c:TT) (tb:TS):TS:=fun D σ H=>∃ W:Nat->St->Hp->Prop,(∃ m,W m σ H)/\∀ m σ H,W m σ H ->
 c σ H fun b H1=>if b=true then ∃ N:St->Hp->Prop,(∀ σ' H',N σ' H'->∃ m',m' < m/\W m' σ' H')/\tb { D with nx:=N,ct:=N,bk:=D.nx } σ H1 else D.nx σ H1
theorem Zjv {c:Expr} {body:List Stmt} {tc:TT} {tb:TS} (hp:PassesOwn (model X.prog X.w) X.A X.env X.xe) (hc:PT X c tc) (hb:PSs X body tb):PS X (.While c body [] pos) (ZmU tc tb):=by
 intro pins s σ H D I h
 obtain ⟨W,⟨m0,w0⟩,turn⟩:=h
 refine wpAny_While (codeAny_whileLoop (fun n s'=>∃ σ' H',Inv X pins σ' H' s'/\W n σ' H') ?_ m0 ⟨σ,H,I,w0⟩)
 rintro n s1 ⟨σ1,H1,I1,w1⟩
 refine wpAny_passesOwn hp (thn (hc pins s1 σ1 H1 _ I1 (turn n σ1 H1 w1)) fun b s2 zq=>?_)
 obtain ⟨H2,I2,q2⟩:=zq
 cases b with
 | true=>
  obtain ⟨N,hN,q2⟩:=q2
  rw [if_pos rfl]
  refine wpAny_passesOwn hp (thn (hb pins s2 σ1 H2 _ I2 q2) fun f s3 q3=>?_)
  cases f with
  | next=>
   obtain ⟨σ3,H3,I3,n3⟩:=q3
   obtain ⟨m',hm,w3⟩:=hN σ3 H3 n3
   exact ⟨m',hm,σ3,H3,I3,w3⟩
  | cont=>
   obtain ⟨σ3,H3,I3,n3⟩:=q3
   obtain ⟨m',hm,w3⟩:=hN σ3 H3 n3
   exact ⟨m',hm,σ3,H3,I3,w3⟩
  | brk=>exact q3
  | ret v=>exact q3
 | false=>
  rw [if_neg Bool.false_ne_true]
  exact wpAny_execs_nil ⟨σ1,H2,I2,q2⟩
end
structure It where
 go:Nat->Hp->Prop
 yld:Nat->Hp->V->Hp->Prop
 stop:Nat->Hp->Prop
noncomputable def ZbM (X:Cx) (pins:List (Addr×Obj)) (H:Hp) (b:Addr):Prop:=
 H b=none/\b≠X.env.locals/\b ∉ X.fs/\(b∈X.ex\/X.s₀.heap.objs.size<=b)/\(∀ x c,X.env.cells.lookup x=some c->c≠b)/\∀ p∈X.pn++pins,p.1≠b
theorem Inv.fpOk {X:Cx} {pins:List (Addr×Obj)} {σ:St} {H H':Hp} {s:Shared} {b:Addr} (I:Inv X pins σ H s) (hb:s.heap.objs.size<=b) (hn:H' b=none):ZbM X pins H' b:=by
 refine ⟨hn,Nat.ne_of_gt (Nat.lt_of_lt_of_le I.lt hb),I.nofs hb,.inr (Nat.le_trans I.sz hb),fun x c e z=>?_,fun p hp z=>?_⟩
 ·obtain ⟨v,q⟩:=I.cell x c e
  exact absurd (Nat.lt_of_lt_of_le q.lt (by rw [z]; exact hb)) (Nat.lt_irrefl _)
 ·exact absurd (Nat.lt_of_lt_of_le (Heap.lt_size (I.pin p hp).1) (by rw [z]; exact hb)) (Nat.lt_irrefl _)
structure ZiZ (P:Program) (w:World) (K:Frag) (tg:Expr) (J:It) (fp:List Addr) (it:Addr) (tn:Nat->Heap->Prop):Prop where
 mem:it∈fp
 obj:∀ i h,tn i h->∀ b∈fp,∃ o,h.get? b=some o/\∀ v,o.data≠.cell v
 keep:∀ i h h',tn i h->(∀ b∈fp,∀ o,h.get? b=some o->h'.get? b=some o)->tn i h'
 item:∀ (X:Cx),X.prog=P->X.w=w->X.K=K->X.calm=true->∀ (i:Nat) (pins:List (Addr×Obj)) (s:Shared) (σ:St) (H:Hp) (E:Value->Shared->Prop),Inv X pins σ H s->(∀ b∈fp,ZbM X pins H b)->tn i s.heap->J.go i H ->
  wpAny (model P w) X.A (pyNext (.ref it)) (fun r s1=>∃ u,r=some u /\
   wpAny (model P w) X.A (letOwnedTupleGo tg (.ref it) u) (fun _ s2=>∃ x H',Inv X pins σ H' s2/\RelV x u/\J.yld i H x H'/\tn (i+1) s2.heap/\∀ b∈fp,H' b=none) E s1) E s
 done:∀ (X:Cx),X.prog=P->X.w=w->X.K=K->X.calm=true->∀ (i:Nat) (pins:List (Addr×Obj)) (s:Shared) (σ:St) (H:Hp) (E:Value->Shared->Prop),Inv X pins σ H s->(∀ b∈fp,ZbM X pins H b)->tn i s.heap->J.stop i H ->
  wpAny (model P w) X.A (pyNext (.ref it)) (fun r s1=>r=none/\Inv X pins σ H s1) E s
 self:∀ (A:Around) (i:Nat) (s:Shared) (Q:Value->Shared->Prop) (E:Value->Shared->Prop),tn i s.heap->Q (.ref it) s->wpAny (model P w) A (pyIter (.ref it)) Q E s
noncomputable abbrev TI:=St->Hp->(It->Hp->Prop)->Prop
noncomputable def PIE (X:Cx) (pins:List (Addr×Obj)) (σ:St) (tg:Expr) (R:It->Hp->Prop) (itv:Value) (s2:Shared):Prop:=
 ∃ (it:Addr) (fp:List Addr) (tn:Nat->Heap->Prop) (J:It) (H':Hp),itv=.ref it/\Inv X pins σ H' s2/\ZiZ X.prog X.w X.K tg J fp it tn/\tn 0 s2.heap/\(∀ b∈fp,ZbM X pins H' b)/\R J H'
noncomputable def PI (X:Cx) (tg iter:Expr) (wi:TI):Prop:=
 ∀ (pins:List (Addr×Obj)) (s:Shared) (σ:St) (H:Hp) (R:It->Hp->Prop),Inv X pins σ H s->wi σ H R ->
  wpAny (model X.prog X.w) X.A (eval iter X.env) (fun v s1=>wpAny (model X.prog X.w) X.A (pyIter v) (PIE X pins σ tg R) X.xe s1) X.xe s
theorem Zih {M : Model} {A : Around} {E : Value -> Shared -> Prop} {s : Shared} {tg : Expr} {it : Addr} {u : Value} {o : Obj} {n : String} {vs : Array Value} {Q : Unit -> Shared -> Prop} (ho : s.heap.get? it = some o) (hc : o.cls = .type n) (hd : o.data = .fields vs)
    (hn : ["enumerate", "zip", "dict_itemiterator", "dict_reverseitemiterator", "odict_iterator", "itertools.zip_longest", "itertools.pairwise"].contains n = false) (hQ : Q () s) : wpAny M A (letOwnedTupleGo tg (.ref it) u) Q E s := by
  unfold letOwnedTupleGo
  cases tg <;> first
    | exact wpAny_pure hQ
    | (cases u <;> first
        | exact wpAny_pure hQ
        | (refine wpAny_bind (wpAny_load ho ?_)
           rw [hc, hd]
           show wpAny M A (if (["enumerate", "zip", "dict_itemiterator", "dict_reverseitemiterator", "odict_iterator", "itertools.zip_longest", "itertools.pairwise"].contains n && vs[0]? == some (rawInt _)) = true then _ else _) Q E s
           rw [if_neg (by intro h; rw [hn, Bool.false_and] at h; cases h)]
           exact wpAny_pure hQ))
noncomputable def Itl (K:Frag) (a:Addr):It:=
 ⟨fun i H=>∃ xs x,SqL K H a xs/\xs[i]?=some x,fun i H x H'=>H'=H/\∀ xs,SqL K H a xs->xs[i]?=some x,fun i H=>∃ xs,SqL K H a xs/\xs.length<=i⟩
noncomputable def Itt (K:Frag) (a:Addr):It:=
 ⟨fun i H=>∃ xs x,SqT K H a xs/\xs[i]?=some x,fun i H x H'=>H'=H/\∀ xs,SqT K H a xs->xs[i]?=some x,fun i H=>∃ xs,SqT K H a xs/\xs.length<=i⟩
noncomputable def Itr (lo:Int) (n:Nat):It:=⟨fun i _=>i < n,fun i H x H'=>H'=H/\x=.int (lo+i),fun i _=>n<=i⟩
theorem ZgY {P:Program} {w:World} {K:Frag} {tg:Expr} (a it:Addr):ZiZ P w K tg (Itl K a) [it] it (fun i h=>h.IsListIter it a i) where
 mem:=by simp
 obj:=fun i h st b hb=>by
  have e:b=it:=by simpa using hb
  subst e
  obtain ⟨o,e,c,d⟩:=st
  exact ⟨o,e,fun v z=>by rw [d] at z; cases z⟩
 keep:=fun i h h' st k=>st.at fun o e=>k it (by simp) o e
 item:=by
  intro X hP hw hK hc i pins s σ H E I hf st hg
  subst hP hw hK
  obtain ⟨xs,x,hq,hx⟩:=hg
  obtain ⟨its,rv,p,hz⟩:=I.list hq
  obtain ⟨u,hu,ru⟩:=rv.get hx
  obtain ⟨f0,f1,f2,f3,f4,f5⟩:=hf it (by simp)
  refine wpAny_pyNext_list_item st p.isList (x:=u) (by simpa using hu) fun h' st' sb=>?_
  have I1:Inv X pins σ H { s with heap:=h' }:=I.turned (t':=s.toks) (fun b o hb e=>(sb.2 b hb).trans e) f0 f1 f3 f4 f5
  obtain ⟨o,e,c,d⟩:=id st'
  exact ⟨u,rfl,Zih (s:={ s with heap:=h' }) e c d (by decide) ⟨x,H,I1,ru,⟨rfl,fun ys hy=>by rw [I.list_inj hy hq]; exact hx⟩,st',fun b hb=>(hf b hb).1⟩⟩
 done:=by
  intro X hP hw hK hc i pins s σ H E I hf st hg
  subst hP hw hK
  obtain ⟨xs,hq,hx⟩:=hg
  obtain ⟨its,rv,p,hz⟩:=I.list hq
  obtain ⟨f0,f1,f2,f3,f4,f5⟩:=hf it (by simp)
  have hl:=rv.length
  exact wpAny_pyNext_list_end (I.ok.hd hc) st p.isList (by simp; omega) fun h' eb=>⟨rfl,I.turned (t':=s.toks) (fun b o hb e=>eb b o hb e) f0 f1 f3 f4 f5⟩
 self:=fun _ _ _ _ _ st h=>wpAny_pyIter_listiter st h
theorem Zf0 {P:Program} {w:World} {K:Frag} {tg:Expr} (a it:Addr):ZiZ P w K tg (Itt K a) [it] it (fun i h=>h.IsTupleIter it a i) where
 mem:=by simp
 obj:=fun i h st b hb=>by
  have e:b=it:=by simpa using hb
  subst e
  obtain ⟨o,e,c,d⟩:=st
  exact ⟨o,e,fun v z=>by rw [d] at z; cases z⟩
 keep:=fun i h h' st k=>st.at fun o e=>k it (by simp) o e
 item:=by
  intro X hP hw hK hc i pins s σ H E I hf st hg
  subst hP hw hK
  obtain ⟨xs,x,hq,hx⟩:=hg
  obtain ⟨its,rv,p,hz⟩:=I.tuple hq
  obtain ⟨u,hu,ru⟩:=rv.get hx
  obtain ⟨f0,f1,f2,f3,f4,f5⟩:=hf it (by simp)
  refine wpAny_pyNext_tuple_item st (show s.heap.IsTuple a its.toArray from p) (x:=u) (by simpa using hu) fun h' st' sb=>?_
  have I1:Inv X pins σ H { s with heap:=h' }:=I.turned (t':=s.toks) (fun b o hb e=>(sb.2 b hb).trans e) f0 f1 f3 f4 f5
  obtain ⟨o,e,c,d⟩:=id st'
  exact ⟨u,rfl,Zih (s:={ s with heap:=h' }) e c d (by decide) ⟨x,H,I1,ru,⟨rfl,fun ys hy=>by rw [I.tuple_inj hy hq]; exact hx⟩,st',fun b hb=>(hf b hb).1⟩⟩
 done:=by
  intro X hP hw hK hc i pins s σ H E I hf st hg
  subst hP hw hK
  obtain ⟨xs,hq,hx⟩:=hg
  obtain ⟨its,rv,p,hz⟩:=I.tuple hq
  obtain ⟨f0,f1,f2,f3,f4,f5⟩:=hf it (by simp)
  have hl:=rv.length
  exact wpAny_pyNext_tuple_end (I.ok.hd hc) st (show s.heap.IsTuple a its.toArray from p) (by simp; omega) fun h' eb=>⟨rfl,I.turned (t':=s.toks) (fun b o hb e=>eb b o hb e) f0 f1 f3 f4 f5⟩
 self:=fun _ _ _ _ _ st h=>wpAny_pyIter_tupleiter st h
theorem Zf1 {P:Program} {w:World} {K:Frag} {tg:Expr} (it:Addr) (lo:Int) (n:Nat):ZiZ P w K tg (Itr lo n) [it] it (fun i h=>IsRangeIter h it (lo+(i:Nat)*1) ((n:Int)-(i:Nat)) 1) where
 mem:=by simp
 obj:=fun i h st b hb=>by
  have e:b=it:=by simpa using hb
  subst e
  exact ⟨_,st,fun v z=>by
   have z':Data.fields _=Data.cell v:=z
   cases z'⟩
 keep:=fun i h h' st k=>k it (by simp) _ st
 item:=by
  intro X hP hw hK hc i pins s σ H E I hf st hg
  subst hP hw hK
  obtain ⟨f0,f1,f2,f3,f4,f5⟩:=hf it (by simp)
  have W:=Walks.range (prog:=X.prog) (w:=X.w) (I.ok.hd hc) it lo 1 n
  refine W.item i s _ _ hg st fun v h' tk hv st' kk=>?_
  obtain ⟨t,rfl⟩:=hv
  have I1:Inv X pins σ H { s with heap:=h',toks:=tk }:=I.turned (fun b o hb e=>kk b o (by simpa using hb) e) f0 f1 f3 f4 f5
  refine ⟨_,rfl,Zih (s:={ s with heap:=h',toks:=tk }) (n:="range_iterator") st' rfl rfl (by decide) ⟨.int (lo+i),H,I1,⟨t,?_⟩,⟨rfl,rfl⟩,st',fun b hb=>(hf b hb).1⟩⟩
  rw [Int.mul_one]
 done:=by
  intro X hP hw hK hc i pins s σ H E I hf st hg
  subst hP hw hK
  obtain ⟨f0,f1,f2,f3,f4,f5⟩:=hf it (by simp)
  exact wpAny_pyNext_range_end (I.ok.hd hc) st (by have:n<=i:=hg; omega) fun h' eb=>⟨rfl,I.turned (t':=s.toks) (fun b o hb e=>eb b o hb e) f0 f1 f3 f4 f5⟩
 self:=fun _ _ _ _ _ st h=>wpAny_pyIter_rangeiter st h
section
variable {X:Cx} {tg:Expr}
theorem Zft {pins:List (Addr×Obj)} {σ:St} {H:Hp} {s:Shared} {R:It->Hp->Prop} {E:Value->Shared->Prop} {lo hi:Int} {t u v:Tok} {tk:Nat} (I:Inv X pins σ H s) (h1:-(2 ^ 62)<=lo) (h2:lo < 2 ^ 62) (h3:-(2 ^ 62)<=hi) (h4:hi < 2 ^ 62)
  (q:R (Itr lo (hi-lo).toNat) H):wpAny (model X.prog X.w) X.A (pyIter (.ref s.heap.objs.size)) (PIE X pins σ tg R) E { s with heap:=s.heap.push { cls:=.type "range",data:=.fields #[.int lo t,.int hi u,.int 1 v] },toks:=tk }:=by
 refine wpAny_pyIter_range (IsRange.new ..) (small_one h1 h2 h3 h4) ?_
 have I1:Inv X pins σ H { s with heap:=s.heap.push { cls:=.type "range",data:=.fields #[.int lo t,.int hi u,.int 1 v] },toks:=tk }:=I.kept fun b o e=>Heap.get?_push_of_some _ e
 refine ⟨(s.heap.push { cls:=.type "range",data:=.fields #[.int lo t,.int hi u,.int 1 v] }).objs.size,[(s.heap.push { cls:=.type "range",data:=.fields #[.int lo t,.int hi u,.int 1 v] }).objs.size],_,_,H,rfl,
  I1.kept (t':=tk) fun b o e=>Heap.get?_push_of_some _ e,Zf1 _ lo (hi-lo).toNat,?_,fun b hb=>?_,q⟩
 ·have e1:lo+((0:Nat):Int)*1=lo:=by simp
  have e2:(((hi-lo).toNat:Nat):Int)-((0:Nat):Int)=Builtin.Range.rangeSize lo hi 1:=by rw [rangeSize_one]; split <;> omega
  show IsRangeIter _ _ (lo+((0:Nat):Int)*1) ((((hi-lo).toNat:Nat):Int)-((0:Nat):Int)) 1
  rw [e1,e2]
  exact Heap.get?_push_size _ rfl
 ·have e:b=(s.heap.push { cls:=.type "range",data:=.fields #[.int lo t,.int hi u,.int 1 v] }).objs.size:=by simpa using hb
  subst e
  exact I1.fpOk (Nat.le_refl _) (I1.hok.fresh (Nat.le_refl _))
noncomputable def Zps (ta:TA):TI:=fun σ H R=>ta σ H fun vs H1=>∃ j:Int,vs=[.int j]/\-(2 ^ 62)<=j/\j < 2 ^ 62/\R (Itr 0 j.toNat) H1
noncomputable def Zpr (ta:TA):TI:=fun σ H R=>ta σ H fun vs H1=>∃ i j:Int,vs=[.int i,.int j]/\(-(2 ^ 62)<=i/\i < 2 ^ 62/\-(2 ^ 62)<=j/\j < 2 ^ 62)/\R (Itr i (j-i).toNat) H1
theorem Zhv {a:Expr} {ta:TA} {p pos:Pos} (hg:Gl X "range") (hm:X.mg "range"=none) (ha:PA X [a] ta) (hs:starEach [a] X.env=[(false,eval a X.env)]:=by rfl):PI X tg (.Call (.Name "range" p) [a] [] pos) (Zps ta):=by
 intro pins s σ H R I h
 refine Call_ (Vc I hg hm boot_range (PyProof.Rows.callWith_type1 (thn (ha pos pins s σ H _ I h) fun us s1 zq=>?_) hs rfl))
 obtain ⟨vs,H1,I1,r1,q1⟩:=zq
 obtain ⟨j,e,q1,q2,q⟩:=q1
 subst e
 cases r1 with
 | cons r rr=>
  cases rr
  obtain ⟨t,rfl⟩:=r
  exact call_range_1 (Zft I1 (by omega) (by omega) q1 q2 (by simpa using q))
theorem Zhu {a b:Expr} {ta:TA} {p pos:Pos} (hg:Gl X "range") (hm:X.mg "range"=none) (ha:PA X [a,b] ta) (hs:starEach [a,b] X.env=[(false,eval a X.env),(false,eval b X.env)]:=by rfl) (hs2:starEach [b] X.env=[(false,eval b X.env)]:=by rfl) :
  PI X tg (.Call (.Name "range" p) [a,b] [] pos) (Zpr ta):=by
 intro pins s σ H R I h
 refine Call_ (Vc I hg hm boot_range (PyProof.Rows.callWith_type1 (thn (ha pos pins s σ H _ I h) fun us s1 zq=>?_) (by rw [hs,hs2]) (by rw [hs2]; rfl)))
 obtain ⟨vs,H1,I1,r1,q1⟩:=zq
 obtain ⟨i,j,e,⟨q1,q2,q3,q4⟩,q⟩:=q1
 subst e
 cases r1 with
 | cons r rr=>
  cases rr with
  | cons r' rr=>
   cases rr
   obtain ⟨t,rfl⟩:=r
   obtain ⟨t',rfl⟩:=r'
   exact call_range_2 (Zft I1 q1 q2 q3 q4 q)
noncomputable def Zqo (wi:TI) (g:TG) (tb:TS):TS:=fun D σ H=>wi σ H fun J H1=>∃ W:Nat->Nat->St->Hp->Prop,(∃ m,W 0 m σ H1)/\∀ i m σ H,W i m σ H ->
 (J.stop i H/\D.nx σ H)\/(J.go i H/\∃ N:St->Hp->Prop,(∀ σ' H',N σ' H'->∃ m',m' < m/\W (i+1) m' σ' H')/\∀ x H',J.yld i H x H'->g x σ H' fun σ2 H2=>tb { D with nx:=N,ct:=N,bk:=D.nx } σ2 H2)
noncomputable def UB (fp:List Addr) (h:Heap):List (Addr×Obj):=fp.filterMap fun b=>(h.get? b).map fun o=>(b,o)
theorem QW {fp:List Addr} {h:Heap} {b:Addr} {o:Obj} (hb:b∈fp) (e:h.get? b=some o):(b,o)∈UB fp h:=List.mem_filterMap.mpr ⟨b,hb,by rw [e]; rfl⟩
theorem ZhJ {fp:List Addr} {h:Heap} {p:Addr×Obj} (hp:p∈UB fp h):p.1∈fp/\h.get? p.1=some p.2:=by
 obtain ⟨b,hb,e⟩:=List.mem_filterMap.mp hp
 cases q:h.get? b with
 | none=>rw [q] at e; cases e
 | some o=>
  rw [q] at e
  have e':(b,o)=p:=Option.some.inj e
  subst e'
  exact ⟨hb,q⟩
theorem Inv.pinned {pins:List (Addr×Obj)} {σ:St} {H:Hp} {s:Shared} {fp:List Addr} (I:Inv X pins σ H s) (hf:∀ b∈fp,ZbM X pins H b) (ho:∀ b∈fp,∃ o,s.heap.get? b=some o/\∀ v,o.data≠.cell v):Inv X (pins++UB fp s.heap) σ H s:=
 I.pins_of fun p hp=>(List.mem_append.mp hp).elim (fun z=>I.pin p (List.mem_append_right _ z)) fun z=>by
  obtain ⟨hb,e⟩:=ZhJ z
  obtain ⟨f0,f1,f2,_⟩:=hf p.1 hb
  obtain ⟨o,e',d⟩:=ho p.1 hb
  rw [e] at e'; cases e'
  exact ⟨e,f0,f1,f2,d⟩
theorem Inv.unpinned {pins pl:List (Addr×Obj)} {σ:St} {H:Hp} {s:Shared} (I:Inv X (pins++pl) σ H s):Inv X pins σ H s:=I.pins_of fun p hp=>I.pin p (List.mem_append_right _ (List.mem_append_left _ hp))
theorem Znp {iter:Expr} {body:List Stmt} {wi:TI} {g:TG} {tb:TS} {pos:Pos} (hp:PassesOwn (model X.prog X.w) X.A X.env X.xe) (hc:X.calm=true) (hi:PI X tg iter wi) (hg:PG X tg g) (hb:PSs X body tb)
  (hs:∀ x,foldedSetIterable iter X.env x=pure x:=by intro _; rfl):PS X (.For tg iter body [] pos) (Zqo wi g tb):=by
 intro pins s σ H D I h
 refine wpAny_For (thn (hi pins s σ H _ I h) fun v s1 h1=>thn h1 fun itv s2 h2=>?_) hs
 obtain ⟨it,fp,tn,J,H2,e,I2,T,st2,f2,W,⟨m0,w0⟩,turn⟩:=h2
 subst e
 have stat:∀ {H':Hp},(∀ b∈fp,H' b=none)->∀ b∈fp,ZbM X pins H' b:=fun hn b hb=>⟨hn b hb,(f2 b hb).2⟩
 refine codeAny_forLoop_any (fun n s'=>∃ i σ' H',Inv X pins σ' H' s'/\tn i s'.heap/\(∀ b∈fp,H' b=none)/\W i n σ' H') ?_ m0 ⟨0,σ,H2,I2,st2,fun b hb=>(f2 b hb).1,w0⟩
 rintro n s3 ⟨i,σ3,H3,I3,st3,fr3,w3⟩
 rcases turn i n σ3 H3 w3 with ⟨stop,qn⟩ | ⟨go,N,hN,step⟩
 ·refine wpAny_passesOwn hp (thn (T.done X rfl rfl rfl hc i pins s3 σ3 H3 X.xe I3 (stat fr3) st3 stop) fun r s4 zq=>?_)
  obtain ⟨hr,I4⟩:=zq
  subst hr
  exact wpAny_execs_nil ⟨σ3,H3,I4,qn⟩
 ·refine wpAny_passesOwn hp (thn (T.item X rfl rfl rfl hc i pins s3 σ3 H3 X.xe I3 (stat fr3) st3 go) fun r s4 zq=>?_)
  obtain ⟨u,hr,h4⟩:=zq
  subst hr
  refine wpAny_passesOwn hp (thn h4 fun _ s5 zq=>?_)
  obtain ⟨x,H5,I5,r5,y5,st5,fr5⟩:=zq
  have I5':=I5.pinned (stat fr5) (T.obj _ _ st5)
  refine wpAny_passesOwn hp (thn (hg _ s5 σ3 H5 x u _ I5' r5 (step x H5 y5)) fun _ s6 zq=>?_)
  obtain ⟨σ6,H6,I6,q6⟩:=zq
  refine wpAny_passesOwn hp (thn (hb _ s6 σ6 H6 _ I6 q6) fun f s7 q7=>?_)
  have again:∀ {σ7:St} {H7:Hp},Inv X (pins++UB fp s5.heap) σ7 H7 s7->N σ7 H7->∃ m,m < n/\∃ i σ' H',Inv X pins σ' H' s7/\tn i s7.heap/\(∀ b∈fp,H' b=none)/\W i m σ' H':=fun {σ7 H7} I7 n7=>by
   obtain ⟨m',hm,w7⟩:=hN σ7 H7 n7
   refine ⟨m',hm,i+1,σ7,H7,I7.unpinned,T.keep _ _ _ st5 fun b hb o e=>(I7.pin (b,o) (List.mem_append_right _ (List.mem_append_right _ (QW hb e)))).1,fun b hb=>?_,w7⟩
   obtain ⟨o,e,d⟩:=T.obj _ _ st5 b hb
   exact (I7.pin (b,o) (List.mem_append_right _ (List.mem_append_right _ (QW hb e)))).2.1
  cases f with
  | next=>obtain ⟨σ7,H7,I7,n7⟩:=q7; exact again I7 n7
  | cont=>obtain ⟨σ7,H7,I7,n7⟩:=q7; exact again I7 n7
  | brk=>obtain ⟨σ7,H7,I7,q7⟩:=q7; exact ⟨σ7,H7,I7.unpinned,q7⟩
  | ret v=>obtain ⟨x7,σ7,H7,I7,r7,q7⟩:=q7; exact ⟨x7,σ7,H7,I7.unpinned,r7,q7⟩
end
noncomputable abbrev R2:=V->V->Hp->VK->Prop
noncomputable def OpR (X:Cx) (f:Value->Value->Sem Value) (r:R2):Prop:=
 ∀ (pins:List (Addr×Obj)) (s:Shared) (σ:St) (H:Hp) (x y:V) (v u:Value) (Q:VK),Inv X pins σ H s->RelV x v->RelV y u->r x y H Q ->
  wpAny (model X.prog X.w) X.A (f v u) (EP X pins σ Q) X.xe s
noncomputable def UnR (X:Cx) (f:Value->Sem Value) (r:V->Hp->VK->Prop):Prop:=
 ∀ (pins:List (Addr×Obj)) (s:Shared) (σ:St) (H:Hp) (x:V) (v:Value) (Q:VK),Inv X pins σ H s->RelV x v->r x H Q ->
  wpAny (model X.prog X.w) X.A (f v) (EP X pins σ Q) X.xe s
noncomputable def W9 (X:Cx) (f:Value) (r:List V->Hp->VK->Prop):Prop:=
 ∀ (pins:List (Addr×Obj)) (s:Shared) (σ:St) (H:Hp) (xs:List V) (us:List Value) (Q:VK),Inv X pins σ H s->Vals xs us->r xs H Q ->
  wpAny (model X.prog X.w) X.A (call f us) (EP X pins σ Q) X.xe s
noncomputable def tOp (r:R2) (ta tb:TE):TE:=fun σ H Q=>ta σ H fun x H1=>tb σ H1 fun y H2=>r x y H2 Q
noncomputable def tUn (r:V->Hp->VK->Prop) (ta:TE):TE:=fun σ H Q=>ta σ H fun x H1=>r x H1 Q
noncomputable def rI (C:Int->Int->Prop) (g:Int->Int->V):R2:=fun x y H Q=>∃ i j,x=.int i/\y=.int j/\C i j/\Q (g i j) H
noncomputable def rI0 (g:Int->Int->V):R2:=fun x y H Q=>∃ i j,x=.int i/\y=.int j/\Q (g i j) H
noncomputable def rU (g:Int->V):V->Hp->VK->Prop:=fun x H Q=>∃ i,x=.int i/\Q (g i) H
section
variable {X:Cx} {a b c:Expr} {ta tb tc:TE} {pos:Pos}
theorem ZpG (ha:PE X a ta) (hb:PE X b tb) {pins:List (Addr×Obj)} {s:Shared} {σ:St} {H:Hp} {R:V->V->Hp->Prop} (I:Inv X pins σ H s)
  (h:ta σ H fun x H1=>tb σ H1 fun y H2=>R x y H2) {Q:Value->Shared->Prop} {f:Value->Value->Sem Value}
  (hf:∀ v u s2 x y H2,Inv X pins σ H2 s2->RelV x v->RelV y u->R x y H2->wpAny (model X.prog X.w) X.A (f v u) Q X.xe s2) :
  wpAny (model X.prog X.w) X.A (eval a X.env) (fun v s₁=>wpAny (model X.prog X.w) X.A (eval b X.env) (fun u s₂=>wpAny (model X.prog X.w) X.A (f v u) Q X.xe s₂) X.xe s₁) X.xe s:=by
 refine thn (ha pins s σ H _ I h) fun v s1 zq=>?_
 obtain ⟨x,H1,I1,r1,q1⟩:=zq
 refine thn (hb pins s1 σ H1 _ I1 q1) fun u s2 zq=>?_
 obtain ⟨y,H2,I2,r2,q2⟩:=zq
 exact hf v u s2 x y H2 I2 r1 r2 q2
theorem Zo9 {op:Operator} {r:R2} (ho:OpR X (binaryOp op) r) (ha:PE X a ta) (hb:PE X b tb):PE X (.BinOp a op b pos) (tOp r ta tb):=by
 intro pins s σ H Q I h
 exact wpAny_BinOp (ZpG ha hb I h fun v u s2 x y H2 I2 rx ry q=>ho pins s2 σ H2 x y v u Q I2 rx ry q)
theorem Znu {op:UnaryOp} {r:V->Hp->VK->Prop} (ho:UnR X (unaryOp op) r) (ha:PE X a ta):PE X (.UnaryOp op a pos) (tUn r ta):=by
 intro pins s σ H Q I h
 exact UnaryOp_ (thn (ha pins s σ H _ I h) fun v s1 ⟨x,H1,I1,r1,q1⟩=>ho pins s1 σ H1 x v Q I1 r1 q1)
theorem opI {f:Value->Value->Sem Value} {C:Int->Int->Prop} {g:Int->Int->Int}
  (rule:∀ (i j:Int) (t u:Tok) (s:Shared) (Q:Value->Shared->Prop) (E:Value->Shared->Prop),C i j->Q (.int (g i j) s.toks) { s with toks:=s.toks+1 }->wpAny (model X.prog X.w) X.A (f (.int i t) (.int j u)) Q E s) :
  OpR X f (rI C fun i j=>.int (g i j)):=by
 intro pins s σ H x y v u Q I rx ry h
 obtain ⟨i,j,rfl,rfl,hc,q⟩:=h
 obtain ⟨t,rfl⟩:=rx
 obtain ⟨t',rfl⟩:=ry
 exact rule i j t t' s _ _ hc ⟨.int (g i j),H,I.tok _,⟨_,rfl⟩,q⟩
theorem ZpV {f:Value->Value->Sem Value} {g:Int->Int->Int}
  (rule:∀ (i j:Int) (t u:Tok) (s:Shared) (Q:Value->Shared->Prop) (E:Value->Shared->Prop),Q (.int (g i j) s.toks) { s with toks:=s.toks+1 }->wpAny (model X.prog X.w) X.A (f (.int i t) (.int j u)) Q E s) :
  OpR X f (rI0 fun i j=>.int (g i j)):=by
 intro pins s σ H x y v u Q I rx ry h
 obtain ⟨i,j,rfl,rfl,q⟩:=h
 obtain ⟨t,rfl⟩:=rx
 obtain ⟨t',rfl⟩:=ry
 exact rule i j t t' s _ _ ⟨.int (g i j),H,I.tok _,⟨_,rfl⟩,q⟩
theorem ZoG {f:Value->Value->Sem Value} {g:Int->Int->Bool}
  (rule:∀ (i j:Int) (t u:Tok) (s:Shared) (Q:Value->Shared->Prop) (E:Value->Shared->Prop),Q (.bool (g i j)) s->wpAny (model X.prog X.w) X.A (f (.int i t) (.int j u)) Q E s) :
  OpR X f (rI0 fun i j=>.bl (g i j)):=by
 intro pins s σ H x y v u Q I rx ry h
 obtain ⟨i,j,rfl,rfl,q⟩:=h
 obtain ⟨t,rfl⟩:=rx
 obtain ⟨t',rfl⟩:=ry
 exact rule i j t t' s _ _ ⟨.bl (g i j),H,I,rfl,q⟩
noncomputable def Zq7 (i j:Int):Prop:=0 < j/\j < 1073741824
noncomputable def CMul (i j:Int):Prop:=(-(2 ^ 64) < i/\i < 2 ^ 64)\/(-(2 ^ 64) < j/\j < 2 ^ 64)
theorem CMul.ok {i j:Int} (h:CMul i j):IntMulOk i j:=by
 rcases h with ⟨h1,h2⟩ | ⟨h1,h2⟩
 ·exact .of_left (intBits_le_64 h1 h2)
 ·exact .of_right (intBits_le_64 h1 h2)
theorem ZnD:OpR X (binaryOp .Add) (rI0 fun i j=>.int (i+j)):=ZpV fun _ _ _ _ _ _ _ q=>add_int q
theorem ZnA:OpR X (binaryOp .Sub) (rI0 fun i j=>.int (i-j)):=ZpV fun _ _ _ _ _ _ _ q=>sub_int q
theorem ZnB:OpR X (binaryOp .Mult) (rI CMul fun i j=>.int (i*j)):=opI fun _ _ _ _ _ _ _ hc q=>mul_int q hc.ok
theorem ZlM:OpR X (binaryOp .FloorDiv) (rI Zq7 fun i j=>.int (i / j)):=opI fun i j _ _ _ _ _ hc q=>by
 have h1:(0:Int) < j:=hc.1
 have h2:j < 1073741824:=hc.2
 exact floordiv_int (by omega) (by rw [Int.fdiv_eq_ediv_of_nonneg i (by omega)]; exact q) (.inl (PyProof.noPylong_small (by omega)))
theorem ZnC:OpR X (binaryOp .Mod) (rI (fun _ j=>0 < j) fun i j=>.int (i % j)):=opI fun i j _ _ _ _ _ hc q=>by
 have h1:(0:Int) < j:=hc
 exact mod_int' (by omega) (by rw [Int.fmod_eq_emod_of_nonneg i (by omega)]; exact q)
theorem unI {f:Value->Sem Value} {g:Int->Int}
  (rule:∀ (i:Int) (t:Tok) (s:Shared) (Q:Value->Shared->Prop) (E:Value->Shared->Prop),Q (.int (g i) s.toks) { s with toks:=s.toks+1 }->wpAny (model X.prog X.w) X.A (f (.int i t)) Q E s) :
  UnR X f (rU fun i=>.int (g i)):=by
 intro pins s σ H x v Q I rx h
 obtain ⟨i,rfl,q⟩:=h
 obtain ⟨t,rfl⟩:=rx
 exact rule i t s _ _ ⟨.int (g i),H,I.tok _,⟨_,rfl⟩,q⟩
theorem Zkq:UnR X (unaryOp .USub) (rU fun i=>.int (-i)):=unI fun _ _ _ _ _ q=>neg_int q
end
section
variable {X:Cx} {a b c:Expr} {ta tb tc:TE} {pos:Pos}
theorem Zog {pins:List (Addr×Obj)} {σ:St} {H:Hp} {s:Shared} {Q:VK} {k k':Bool} (I:Inv X pins σ H s) (q:Q (.bl k) H) (e:k=k'):EP X pins σ Q (.bool k') s:=by
 subst e
 exact ⟨.bl k,H,I,rfl,q⟩
theorem Zpd:OpR X (compareOp .Lt) (rI0 fun i j=>.bl (decide (i < j))):=ZoG fun _ _ _ _ _ _ _ q=>lt_int q
theorem Zpe:OpR X (compareOp .LtE) (rI0 fun i j=>.bl (decide (i<=j))):=ZoG fun _ _ _ _ _ _ _ q=>le_int q
theorem Zpf:OpR X (compareOp .Gt) (rI0 fun i j=>.bl (decide (j < i))):=ZoG fun _ _ _ _ _ _ _ q=>gt_int q
theorem Zpg:OpR X (compareOp .GtE) (rI0 fun i j=>.bl (decide (j<=i))):=ZoG fun _ _ _ _ _ _ _ q=>ge_int q
theorem ZhC:OpR X (compareOp .In) (fun x y H Q=>∃ i j,x=.str i/\y=.str j/\Q (.bl (!(Builtin.Str.occurrences j i 0 j.length 1).isEmpty)) H):=by
 intro pins s σ H x y v u Q I rx ry h
 obtain ⟨i,j,rfl,rfl,q⟩:=h
 obtain ⟨t,rfl⟩:=rx
 obtain ⟨t',rfl⟩:=ry
 exact in_str (Zog I q rfl)
theorem ZV (b:Expr) {op:CmpOp} (h:op≠.In:=by decide) (h2:op≠.NotIn:=by decide):behindInMarks op b=false:=by
 have e1:(op==CmpOp.In)=false:=by cases op <;> first | rfl | exact absurd rfl h
 have e2:(op==CmpOp.NotIn)=false:=by cases op <;> first | rfl | exact absurd rfl h2
 cases b <;> simp [behindInMarks,e1,e2]
theorem ZlK {op:CmpOp} {r:R2} (ho:OpR X (compareOp op) r) (ha:PE X a ta) (hb:PE X b tb) (hm:behindInMarks op b=false):PE X (.Compare a [op] [b] pos) (tOp r ta tb):=by
 intro pins s σ H Q I h
 exact wpAny_Compare1 (ZpG ha hb I h fun v u s2 x y H2 I2 rx ry q=>ho pins s2 σ H2 x y v u Q I2 rx ry q) hm
noncomputable def ZmV (t:TE):TT:=fun σ H Q=>t σ H fun x H'=>∃ k,x=.bl k/\Q k H'
theorem Zly {op:CmpOp} {r:R2} (ho:OpR X (compareOp op) r) (ha:PE X a ta) (hb:PE X b tb) (hm:behindInMarks op b=false):PT X (.Compare a [op] [b] pos) (ZmV (tOp r ta tb)):=by
 intro pins s σ H Q I h
 refine wpAny_isTrue_Compare1 (thn (ha pins s σ H _ I h) fun v s1 ⟨x,H1,I1,r1,q1⟩=>thn (hb pins s1 σ H1 _ I1 q1) fun u s2 ⟨y,H2,I2,r2,q2⟩=>
  thn (ho pins s2 σ H2 x y v u _ I2 r1 r2 q2) fun c s3 ⟨z,H3,I3,r3,k,e,q3⟩=>?_) hm
 subst e
 cases r3
 exact wpAny_truthy_bool ⟨H3,I3,q3⟩
noncomputable def Zg2 (r r':R2) (ta tb tc:TE):TE:=fun σ H Q=>ta σ H fun x H1=>tb σ H1 fun y H2=>r x y H2 fun z H3=>∃ k,z=.bl k /\
 (if k=true then tc σ H3 fun w' H4=>r' y w' H4 Q else Q (.bl false) H3)
theorem ZjA {op op':CmpOp} {r r':R2} (ho:OpR X (compareOp op) r) (ho':OpR X (compareOp op') r') (ha:PE X a ta) (hb:PE X b tb) (hc:PE X c tc)
  (hm:lastMarks [op,op'] [b,c]=false:=by with_unfolding_all rfl):PE X (.Compare a [op,op'] [b,c] pos) (Zg2 r r' ta tb tc):=by
 intro pins s σ H Q I h
 refine Compare_chain (thn (ha pins s σ H _ I h) fun v s1 ⟨x,H1,I1,r1,q1⟩=>chain_link (thn (hb pins s1 σ H1 _ I1 q1) fun u s2 ⟨y,H2,I2,r2,q2⟩=>
  thn (ho pins s2 σ H2 x y v u _ I2 r1 r2 q2) fun d s3 ⟨z,H3,I3,r3,k,e,q3⟩=>?_)) hm
 subst e
 cases r3
 refine wpAny_truthy_bool ?_
 cases k with
 | false=>exact ite_ff ⟨.bl false,H3,I3,rfl,q3⟩
 | true=>exact ite_tt (chain_last (thn (hc pins s3 σ H3 _ I3 q3) fun w' s4 ⟨z',H4,I4,r4,q4⟩=>ho' pins s4 σ H4 y z' u w' Q I4 r2 r4 q4))
theorem Zju {op op':CmpOp} {r r':R2} (ho:OpR X (compareOp op) r) (ho':OpR X (compareOp op') r') (ha:PE X a ta) (hb:PE X b tb) (hc:PE X c tc)
  (hm:lastMarks [op,op'] [b,c]=false:=by with_unfolding_all rfl):PT X (.Compare a [op,op'] [b,c] pos) (ZmV (Zg2 r r' ta tb tc)):=by
 intro pins s σ H Q I h
 refine isTrue_chain (thn (ha pins s σ H _ I h) fun v s1 ⟨x,H1,I1,r1,q1⟩=>test_link (thn (hb pins s1 σ H1 _ I1 q1) fun u s2 ⟨y,H2,I2,r2,q2⟩=>
  thn (ho pins s2 σ H2 x y v u _ I2 r1 r2 q2) fun d s3 ⟨z,H3,I3,r3,k,e,q3⟩=>?_)) hm
 subst e
 cases r3
 refine wpAny_truthy_bool ?_
 cases k with
 | false=>
  obtain ⟨k',e',q'⟩:=q3
  cases e'
  exact ite_ff ⟨H3,I3,q'⟩
 | true=>
  refine ite_tt (test_last (thn (hc pins s3 σ H3 _ I3 q3) fun w' s4 ⟨z',H4,I4,r4,q4⟩=>thn (ho' pins s4 σ H4 y z' u w' _ I4 r2 r4 q4) fun d' s5 zq=>?_))
  obtain ⟨z2,H5,I5,r5,k2,e2,q5⟩:=zq
  subst e2
  cases r5
  exact wpAny_truthy_bool ⟨H5,I5,q5⟩
theorem ZdH:(sizeLine:Nat) < 2 ^ 63:=by rw [sizeLine_eq]; decide
theorem Zgd:OpR X (binaryOp .Add) (fun x y H Q=>∃ i j,x=.str i/\y=.str j/\i.length+j.length<=sizeLine/\Q (.str (i++j)) H):=by
 intro pins s σ H x y v u Q I rx ry h
 obtain ⟨i,j,rfl,rfl,hz,q⟩:=h
 obtain ⟨t,rfl⟩:=rx
 obtain ⟨t',rfl⟩:=ry
 exact add_str (fun t' tk=>⟨.str (i++j),H,I.tok _,⟨_,rfl⟩,q⟩) hz
theorem Zbq {x:V} {us:List Value} (r:Vals [x] us):∃ u,us=[u]/\RelV x u:=by
 cases r with
 | cons r1 r2=>cases r2; exact ⟨_,rfl,r1⟩
theorem ZmP {x y:V} {us:List Value} (r:Vals [x,y] us):∃ u w',us=[u,w']/\RelV x u/\RelV y w':=by
 cases r with
 | cons r1 r2=>
  cases r2 with
  | cons r3 r4=>cases r4; exact ⟨_,_,rfl,r1,r3⟩
theorem ZiO (hc:X.calm=true):W9 X (.builtin "max") (fun xs H Q=>∃ i j,xs=[.int i,.int j]/\Q (.int (if j > i then j else i)) H):=by
 intro pins s σ H xs us Q I r h
 obtain ⟨i,j,rfl,q⟩:=h
 obtain ⟨u,w',rfl,⟨t,rfl⟩,⟨t',rfl⟩⟩:=ZmP r
 refine max_two_ints (I.ok.hd hc) fun h' tk k=>⟨_,H,I.kept k,?_,q⟩
 by_cases hj:j > i
 ·rw [if_pos hj,if_pos hj]; exact ⟨_,rfl⟩
 ·rw [if_neg hj,if_neg hj]; exact ⟨_,rfl⟩
theorem ZiN (hc:X.calm=true):W9 X (.builtin "min") (fun xs H Q=>∃ i j,xs=[.int i,.int j]/\Q (.int (if j < i then j else i)) H):=by
 intro pins s σ H xs us Q I r h
 obtain ⟨i,j,rfl,q⟩:=h
 obtain ⟨u,w',rfl,⟨t,rfl⟩,⟨t',rfl⟩⟩:=ZmP r
 refine min_two_ints (I.ok.hd hc) fun h' tk k=>⟨_,H,I.kept k,?_,q⟩
 by_cases hj:j < i
 ·rw [if_pos hj,if_pos hj]; exact ⟨_,rfl⟩
 ·rw [if_neg hj,if_neg hj]; exact ⟨_,rfl⟩
theorem Zd4:W9 X (.type "int") (fun xs H Q=>(∃ i,xs=[.int i]/\Q (.int i) H)\/∃ k,xs=[.bl k]/\Q (.int (if k then 1 else 0)) H):=by
 intro pins s σ H xs us Q I r h
 rcases h with ⟨i,rfl,q⟩ | ⟨k,rfl,q⟩
 ·obtain ⟨u,rfl,t,rfl⟩:=Zbq r
  exact call_int_int ⟨.int i,H,I,⟨_,rfl⟩,q⟩
 ·obtain ⟨u,rfl,r1⟩:=Zbq r
  cases r1
  exact call_int_bool ⟨.int (if k then 1 else 0),H,I.tok _,⟨_,rfl⟩,q⟩
theorem Zd2:W9 X (.type "str") (fun xs H Q=>∃ i,xs=[.int i]/\i.natAbs.log2 < 1920/\Q (.str (toString i)) H):=by
 intro pins s σ H xs us Q I r h
 obtain ⟨i,rfl,hz,q⟩:=h
 obtain ⟨u,rfl,t,rfl⟩:=Zbq r
 exact PySem.P.str_of_int hz ⟨.str _,H,I.tok _,⟨_,rfl⟩,q⟩
end
structure ObjM (h:Heap) (x dx C:Addr) (mA:Str->Option Value):Prop where
 obj:h.get? x=some (PySem.W.instObj C dx)
 ns:h.Ns1 dx mA
 ne:dx≠x
theorem ZhV {h:Heap} {dx:Addr} {mA:Str->Option Value} (n:h.Ns1 dx mA):∃ od,h.get? dx=some od/\∀ name,PySem.W.lookIn name od=some (mA name):=by
 obtain ⟨o,es,ep,ho,hd,hk,_,hm⟩:=n
 refine ⟨o,ho,fun name=>?_⟩
 have e:=hm name
 unfold nsFind findBy at e
 rw [<-Array.find?_toList] at e
 unfold PySem.W.lookIn
 rw [hd]
 dsimp only
 split
 ·rename_i y q
  rw [q] at e
  exact congrArg some e
 ·rename_i q
  rw [q] at e
  have a:es.toList.any (·.refKey)=false:=by
   rw [List.any_eq_false]
   intro y hy
   obtain ⟨z,t,hkey⟩:=hk y (Array.mem_toList_iff.mp hy)
   simp [DictEntry.refKey,hkey]
  have a':¬ es.toList.any (·.refKey)=true:=by rw [a]; exact Bool.false_ne_true
  rw [if_neg a']
  exact congrArg some e
theorem ObjM.look {h:Heap} {x dx C:Addr} {mA:Str->Option Value} (I:ObjM h x dx C mA):∃ od,PySem.W.InstAt h x (PySem.W.instObj C dx) C (some od)/\∀ name,PySem.W.lookIn name od=some (mA name):=
 let ⟨od,ho,hl⟩:=ZhV I.ns
 ⟨od,⟨I.obj,rfl,rfl,ho⟩,hl⟩
section
variable {prog:Program} {w:World} {A:Around} {E:Value->Shared->Prop} {s:Shared} {K:Frag} {x dx C f:Addr} {mA:Str->Option Value} {name:Str} {v:Value}
end
section
variable {P:Program} {w:World} {H H':Hp} {h h':Heap} {a C dx:Addr} {fs fs':List (Str×V)}
theorem Zl5 (hok:HOk P w H h) (e:H a=some (.ins C dx fs)):∃ mA,ObjM h a dx C mA/\(∀ f,ZpJ (fs.lookup f) (mA f))/\PySem.Within mA (fs.map (·.1))/\fs.length<=1000/\H dx=some (.own a):=by
 obtain ⟨d,z,ne,ob,mA,n,r,q⟩:=(show ObjOk P w H h a (.ins C dx fs) from hok a _ e)
 exact ⟨mA,⟨ob,n,ne⟩,r,q,z,d⟩
end
structure Cls (K:Frag) (C:Addr):Prop where
 pg:PySem.W.plainGet K C Str.empty=true
 hd:PySem.W.hasDictIn K C=true
 po:PySem.W.plainOver K C=true
 sa:PySem.W.findIn K (.ref C) "__setattr__"=some (some (.builtin "object.__setattr__"))
theorem Cls.get {K:Frag} {C:Addr} (c:Cls K C) (f:Str):PySem.W.plainGet K C f=true:=c.pg
section
variable {X:Cx} {pins:List (Addr×Obj)} {σ:St} {H:Hp} {s:Shared} {a C dx:Addr} {fs:List (Str×V)} {f:Str} {v:V} {A:Around} {E:Value->Shared->Prop}
end
section
variable {X:Cx} {o e value:Expr} {f:Str} {pos pos' tpos:Pos} {ta tv:TE}
end
section
variable {X:Cx} {pins:List (Addr×Obj)} {σ:St} {H:Hp} {s:Shared} {A:Around} {E:Value->Shared->Prop} {Q:Value->Shared->Prop} {c:Value} {b:Bool}
inductive ZgQ (K:Frag) (H:Hp):V->Value->Prop where
 | non:ZgQ K H .non (.type "NoneType")
 | bl (x:Bool):ZgQ K H (.bl x) (.type "bool")
 | int (i:Int):ZgQ K H (.int i) (.type "int")
 | str (x:Str):ZgQ K H (.str x) (.type "str")
 | flt (x:UInt64):ZgQ K H (.flt x) (.type "float")
 | lst {a:Addr} {xs:List V} (e:H a=some (.lst xs)):ZgQ K H (.ref a) (.type "list")
 | frz {a:Addr} {o:Obj} {xs:List V} (e:H a=some (.frz o (.lst xs))):ZgQ K H (.ref a) (.type "list")
 | tup {a:Addr} {xs:List V} (e:H a=some (.tup xs)):ZgQ K H (.ref a) (.type "tuple")
 | dK {a:Addr} {kvs:List (Key×V)} (e:H a=some (.dK kvs)):ZgQ K H (.ref a) (.type "dict")
 | dT {a:Addr} {kvs:List (List Key×V)} (e:H a=some (.dT kvs)):ZgQ K H (.ref a) (.type "dict")
 | ins {a C dx:Addr} {fs:List (Str×V)} (e:H a=some (.ins C dx fs)) (cl:Cls K C) (ha:PySem.W.findIn K (.ref C) "__class__"=some (some (.builtin "object.__class__")))
   (hn:PySem.W.specialIn K (.builtin "object.__class__") "__get__"=some (some (.builtin "getset_descriptor.__get__"))) (htk:PySem.W.takesIn K (.builtin "object.__class__")=some true)
   (hm:PySem.W.mroIn K C (.type "object")=some true):ZgQ K H (.ref a) (.ref C)
theorem VX {x:V} {u t:Value} (I:Inv X pins σ H s) (rx:RelV x u) (ty:ZgQ X.K H x t) (e:kitOne X.K t c=some b) (h:∀ tk,Q (.bool b) { s with toks:=tk }) :
  wpAny (model X.prog X.w) A (call (.builtin "isinstance") [u,c]) Q E s:=by
 cases ty with
 | non=>cases (show u=Value.none from rx); exact kia_one PySem.W.kitx_none I.kIn True.intro e (fun z=>nomatch z) h
 | bl y=>cases (show u=Value.bool y from rx); exact kia_one PySem.W.kitx_bool I.kIn True.intro e (fun z=>nomatch z) h
 | int i=>obtain ⟨t,q⟩:=(show ∃ t,u=Value.int i t from rx); cases q; exact kia_one PySem.W.kitx_int I.kIn True.intro e (fun z=>nomatch z) h
 | str y=>obtain ⟨t,q⟩:=(show ∃ t,u=Value.str y t from rx); cases q; exact kia_one PySem.W.kitx_str I.kIn True.intro e (fun z=>nomatch z) h
 | flt y=>obtain ⟨t,q⟩:=(show ∃ t,u=Value.float y t from rx); cases q; exact kia_one PySem.W.kitx_float I.kIn True.intro e (fun z=>nomatch z) h
 | @lst a xs ea=>
  cases (show u=Value.ref a from rx)
  obtain ⟨_,_,n,_,h1⟩:=(show ObjOk X.prog X.w H s.heap a (.lst xs) from I.hok a _ ea)
  exact kia_one PySem.W.kitx_list I.kIn ⟨_,h1,rfl⟩ e (fun z=>nomatch z) h
 | @frz a ob xs ea=>
  cases (show u=Value.ref a from rx)
  obtain ⟨_,_,_,n,_,h1⟩:=(show ObjOk X.prog X.w H s.heap a (.frz ob (.lst xs)) from I.hok a _ ea)
  exact kia_one PySem.W.kitx_list I.kIn ⟨_,h1,rfl⟩ e (fun z=>nomatch z) h
 | @tup a xs ea=>
  cases (show u=Value.ref a from rx)
  obtain ⟨_,_,_,p⟩:=(show ObjOk X.prog X.w H s.heap a (.tup xs) from I.hok a _ ea)
  obtain ⟨o,h1,h2,_⟩:=p
  exact kia_one PySem.W.kitx_tuple I.kIn ⟨o,h1,h2⟩ e (fun z=>nomatch z) h
 | @dK a kvs ea=>
  cases (show u=Value.ref a from rx)
  obtain ⟨_,_,vs,_,p⟩:=(show ObjOk X.prog X.w H s.heap a (.dK kvs) from I.hok a _ ea)
  obtain ⟨o,es,ep,h1,h2,_⟩:=p
  exact kia_one PySem.W.kitx_dict I.kIn ⟨o,h1,h2.1⟩ e (fun z=>nomatch z) h
 | @dT a kvs ea=>
  cases (show u=Value.ref a from rx)
  obtain ⟨_,_,xs,_,o,es,ep,h1,h2,_⟩:=(show ObjOk X.prog X.w H s.heap a (.dT kvs) from I.hok a _ ea)
  exact kia_one PySem.W.kitx_dict I.kIn ⟨o,h1,h2.1⟩ e (fun z=>nomatch z) h
 | @ins a C dx fs ea cl ha hn htk hm=>
  cases (show u=Value.ref a from rx)
  obtain ⟨mA,O,_⟩:=Zl5 I.hok ea
  obtain ⟨od,J,_⟩:=O.look
  exact kia_one (PySem.W.kitx_own (cl.get _) cl.hd ha hn htk hm) I.kIn J e (fun z=>nomatch z) h
end
structure Room (k:Nat) (A:Around):Prop where
 hd:A.handled=none
 dp:A.depth+3*k+5 < recursionLimit
 un:A.units+16*k+200 < cLine
theorem Room.mono {j k:Nat} {A:Around} (r:Room k A) (h:j<=k):Room j A:=⟨r.hd,by have:=r.dp; omega,by have:=r.un; omega⟩
theorem Room.deeper {k:Nat} {A:Around} (r:Room (k+1) A) (env:Env):Room k (A.deeper env):=
 ⟨r.hd,by have:=r.dp; show A.depth+1+3*k+5 < _; omega,by have:=r.un; show A.units+3+16*k+200 < _; omega⟩
theorem Room.depth {k:Nat} {A:Around} (r:Room k A):A.depth < recursionLimit:=by have:=r.dp; omega
theorem Room.units {k:Nat} {A:Around} (r:Room k A):A.units+64 < cLine:=by have:=r.un; omega
noncomputable def Zqk:TA:=fun _ H Q=>Q [] H
noncomputable def ZoZ (ta:TE) (tr:TA):TA:=fun σ H Q=>ta σ H fun x H1=>tr σ H1 fun xs H2=>Q (x::xs) H2
section
variable {X:Cx} {e:Expr} {es:List Expr} {te:TE} {t:TA} {pos:Pos}
theorem Va:PA X [] Zqk:=fun _ _ _ _ H Q I h=>Calls.spliced_nil ⟨[],H,I,.nil,h⟩
theorem YQ (ha:PE X e te) (hr:PA X es t) (hs:starEach (e::es) X.env=(false,eval e X.env)::starEach es X.env:=by rfl):PA X (e::es) (ZoZ te t):=by
 intro pos pins s σ H Q I h
 rw [hs]
 show wpAny _ _ (spliced ((false,eval e X.env)::backTo pos (starEach es X.env))) _ _ s
 refine Calls.spliced_cons (thn (ha pins s σ H _ I h) fun u s1 zq=>?_)
 obtain ⟨x,H1,I1,r1,q1⟩:=zq
 exact thn (hr pos pins s1 σ H1 _ I1 q1) fun us s2 ⟨xs,H2,I2,r2,q2⟩=>⟨x::xs,H2,I2,.cons r1 r2,q2⟩
noncomputable def Zqf (t:TA):TE:=fun σ H Q=>t σ H fun xs H1=>xs.length<=sizeLine/\∀ p,H1 p=none->Q (.ref p) (upd H1 p (.tup xs))
noncomputable def Zql (t:TA):TE:=fun σ H Q=>t σ H fun xs H1=>xs.length<=sizeLine/\∀ p,H1 p=none->Q (.ref p) (upd H1 p (.lst xs))
theorem Zhw {x1} (h:PA X es t):PE X (.Tuple es x1 pos) (Zqf t):=by
 intro pins s σ H Q I hq
 refine wpAny_Tuple_spliced (thn (h pos pins s σ H _ I hq) fun us s1 ⟨xs,H1,I1,r,z,q⟩=>⟨by rw [<-r.length]; exact z,?_⟩)
 have hf:H1 s1.heap.objs.size=none:=I1.hok.fresh (Nat.le_refl _)
 refine ⟨.ref s1.heap.objs.size,upd H1 s1.heap.objs.size (.tup xs),I1.laid (t':=s1.toks) (fun b u e=>Heap.get?_push_of_some _ e) (Nat.le_refl _) ?_,rfl,q _ hf⟩
 exact ⟨z,us,r,⟨_,Heap.get?_push_size _ rfl,rfl,_,rfl⟩⟩
theorem Znw (h:PA X es t):PE X (.List es pos) (Zql t):=by
 intro pins s σ H Q I hq
 refine wpAny_List_spliced (thn (h pos pins s σ H _ I hq) fun us s1 ⟨xs,H1,I1,r,z,q⟩=>⟨by rw [<-r.length]; exact z,?_⟩)
 have hf:H1 s1.heap.objs.size=none:=I1.hok.fresh (Nat.le_refl _)
 refine ⟨.ref s1.heap.objs.size,upd H1 s1.heap.objs.size (.lst xs),I1.laid (t':=s1.toks) (fun b u e=>Heap.get?_push_of_some _ e) (Nat.le_refl _) ?_,rfl,q _ hf⟩
 exact ⟨z,us,0,r,Heap.get?_push_size _ rfl⟩
end
noncomputable abbrev Sp:=List V->Hp->VK->XK->Prop
noncomputable abbrev CXT:=List Env->Hp->Shared->XK->Value->Shared->Prop
structure ZoO (P:Program) (w:World) (K:Frag) (mg:Str->Option Value) (base:Heap) (A:Around) (outer:List Env) (s:Shared) (H:Hp):Prop where
 frames:A.frames=some outer
 mod:Mod K mg base
 bs:∀ b o,base.get? b=some o->s.heap.get? b=some o/\H b=none
 bsz:base.objs.size<=s.heap.objs.size
 funs:s.heap.FunFrames base outer
 frf:∀ b∈frs outer,H b=none
 hok:HOk P w H s.heap
 bare:AllBare s.gens
noncomputable def CE (outer:List Env) (P:Program) (w:World) (H:Hp) (s:Shared) (Q:VK) (u:Value) (s':Shared):Prop:=
 ∃ v H',s'.os=s.os/\AllBare s'.gens/\Un (frs outer) [] H H' s.heap s'.heap/\HOk P w H' s'.heap/\RelV v u/\Q v H'
noncomputable def CR (CX:CXT) (outer:List Env) (P:Program) (w:World) (H:Hp) (s:Shared) (Q:VK) (E:XK) (r:Result) (s':Shared):Prop:=
 match r with
 | .ok (.ret u)=>CE outer P w H s Q u s'
 | .ok _=>False
 | .error e=>CX outer H s E e s'
structure Zfd (P:Program) (w:World) (K:Frag) (mg:Str->Option Value) (base:Heap) (CX:CXT) (k:Nat) (f:Addr) (fd:FuncData) (ps:List Str) (sp:Sp):Prop where
 len:∀ vs H Q E,sp vs H Q E->vs.length=ps.length
 run:∀ (A:Around) (outer:List Env) (s:Shared) (H:Hp) (args:Args) (us:List Value) (vs:List V) (Q:VK) (E:XK),Room k A->ZoO P w K mg base A outer s H->BindsTo s fd args (ps.zip us)->Vals vs us->sp vs H Q E ->
  codeAny (model P w) A (.call (.ref f) args) (CR CX outer P w H s Q E) s
section
variable {X:Cx} {pins:List (Addr×Obj)} {σ:St} {H:Hp} {s s':Shared}
theorem Inv.env0 (I:Inv X pins σ H s):ZoO X.prog X.w X.K X.mg X.base X.A X.stack s H:=
 ⟨I.ok.frames,I.ok.mod,I.bs,Nat.le_trans I.ok.bsz I.sz,I.stack,I.stkFree,I.hok,I.bare⟩
theorem Inv.after {Q:VK} {u:Value} (I:Inv X pins σ H s) (h:CE X.stack X.prog X.w H s Q u s'):EP X pins σ Q u s':=by
 obtain ⟨v,H',os,bare,un,hok,r,q⟩:=h
 obtain ⟨hh,g,d,t,os'⟩:=s'
 obtain rfl:os'=s.os:=os
 exact ⟨v,H',I.call (h':=hh) (g':=g) (d':=d) (t':=t) (ch:=[]) un hok bare (fun b z=>absurd z (by simp)),r,q⟩
end
noncomputable def Zo0 (sp:Sp) (dvs:List V) (E:XK) (t:TA):TE:=fun σ H Q=>t σ H fun vs H1=>sp (vs++dvs) H1 Q E
noncomputable def Binds (K:Frag) (fd:FuncData) (ps:List Str) (ds:List Value):Prop:=
 ∀ (s:Shared) (us:List Value),K.In s.heap->(us++ds).length=ps.length->BindsTo s fd ⟨us,[]⟩ (ps.zip (us++ds))
theorem Binds.all {K:Frag} {fd:FuncData} {ps:List Str} (h:∀ us:List Value,us.length=ps.length->bindArgs fd ⟨us,[]⟩=pure (ps.zip us)):Binds K fd ps []:=fun s us _ hl=>by
 rw [List.append_nil] at hl ⊢
 exact .of_eq (h us hl)
noncomputable def JS (CX:CXT) (X:Cx) (E:XK):Prop:=∀ (pins:List (Addr×Obj)) (σ:St) (H:Hp) (s:Shared) (e:Value) (s':Shared),Inv X pins σ H s->CX X.stack H s E e s'->X.xe e s'
section
variable {X:Cx} {CX:CXT} {k:Nat} {f C:Addr} {fd:FuncData} {ps:List Str} {sp:Sp} {dvs:List V} {ds:List Value} {E:XK} {x m:Str} {p pos apos:Pos} {e o:Expr} {es:List Expr} {ta:TE} {t:TA}
theorem Zm7 {pins:List (Addr×Obj)} {σ:St} {H:Hp} {s:Shared} {Q:VK} {us:List Value} {vs:List V} (F:Zfd X.prog X.w X.K X.mg X.base CX k f fd ps sp) (hr:Room k X.A) (hb:Binds X.K fd ps ds) (hd:Vals dvs ds) (hx:JS CX X E)
  (I:Inv X pins σ H s) (r:Vals vs us) (h:sp (vs++dvs) H Q E):wpAny (model X.prog X.w) X.A (call (.ref f) us) (EP X pins σ Q) X.xe s:=by
 have r2:Vals (vs++dvs) (us++ds):=r.append hd
 have hl:(us++ds).length=ps.length:=by rw [<-r2.length]; exact F.len _ _ _ _ h
 refine wpAny_call (codeAny_mono (F.run X.A X.stack s H ⟨us,[]⟩ (us++ds) (vs++dvs) Q E hr I.env0 (hb s us I.kIn hl) r2 h) fun r s' hq=>?_)
 cases r with
 | error e=>exact hx pins σ H s e s' I hq
 | ok fl=>
  cases fl with
  | ret u=>exact I.after hq
  | next=>exact False.elim hq
  | brk=>exact False.elim hq
  | cont=>exact False.elim hq
theorem ZeI (F:Zfd X.prog X.w X.K X.mg X.base CX k f fd ps sp) (hr:Room k X.A) (hg:Gl X x) (hm:X.mg x=some (.ref f)) (hk:keepIn X.K (.ref f)=true) (hb:Binds X.K fd ps ds) (hd:Vals dvs ds) (hx:JS CX X E)
  (ha:PA X (e::es) t) (hdb:(x==("__debug__":Str))=false:=by decide) (he:starEach (e::es) X.env=(false,eval e X.env)::starEach es X.env:=by rfl) (hpl:(backTo pos (starEach es X.env)).any (·.1)=false:=by rfl) :
  PE X (.Call (.Name x p) (e::es) [] pos) (Zo0 sp dvs E t):=by
 intro pins s σ H Q I h
 refine wpAny_Call_Name_kw (ZcV I hg hm ?_ hdb)
 refine PySem.W.callWith_K (h₀:=X.base) I.ok.mod.kin hk (thn (ha pos pins s σ H _ I h) fun us s1 ⟨vs,H1,I1,r,q⟩=>⟨I1.kIn,?_⟩) he hpl
 exact Zm7 F hr hb hd hx I1 r q
end
section
variable {X:Cx} {CX:CXT} {k:Nat} {f C:Addr} {fd:FuncData} {ps ks:List Str} {sp:Sp} {E:XK} {x m:Str} {p pos apos kpos:Pos} {e o:Expr} {es:List Expr} {kws:List Keyword} {te ta:TE} {t tk:TA} {nm:Option Str}
variable {g:List Value->List Value->List Value} {gV:List V->List V->List V}
end
structure Zt (N P:List Str) (sc:Scope):Prop where
 kind:sc.kind=.function
 co:sc.isCoroutine=false
 gen:sc.isGenerator=false
 nd:N.Nodup
 pre:N.take P.length=P
 par:∀ x∈P,sc.names.lookup x=some .local\/sc.names.lookup x=some .cell
 nofree:∀ y∈sc.names,y.2≠.free
theorem Zd7 {kindOf:Str->Option NameKind} {x:Str}:∀ {binds:List (Str×Value)} {m:Str->Option Value},(∀ v,(x,v) ∉ binds)->bindL kindOf binds m x=m x
 | [],_,_=>rfl
 | (n,v)::r,m,h=>by
  unfold bindL
  rw [Zd7 fun w hw=>h w (List.mem_cons_of_mem _ hw)]
  split
  ·have:x≠n:=by rintro rfl; exact h v List.mem_cons_self
   simp [this]
  ·rfl
theorem Zd9 {kindOf:Str->Option NameKind} {x:Str}:∀ {binds:List (Str×Value)} {m:Str->Option Value},(∀ v,(x,v) ∉ binds)->bindC kindOf binds m x=m x
 | [],_,_=>rfl
 | (n,v)::r,m,h=>by
  unfold bindC
  rw [Zd9 fun w hw=>h w (List.mem_cons_of_mem _ hw)]
  split
  ·rfl
  ·have:x≠n:=by rintro rfl; exact h v List.mem_cons_self
   simp [this]
theorem Zd8 {kindOf:Str->Option NameKind} {x:Str} {v:Value}:∀ {P:List Str} {vs:List Value} {i:Nat} {m:Str->Option Value},P.Nodup->P[i]?=some x->vs[i]?=some v->kindOf x=some .local ->
  bindL kindOf (P.zip vs) m x=some v
 | [],_,_,_,_,h,_,_=>by simp at h
 | _::_,[],_,_,_,_,h,_=>by simp at h
 | p::P,w::vs,0,m,nd,h1,h2,hk=>by
  simp at h1 h2; subst h1; subst h2
  show bindL kindOf ((p,w)::P.zip vs) m p=_
  unfold bindL
  rw [Zd7 fun v hv=>(List.nodup_cons.mp nd).1 (List.of_mem_zip hv).1,if_pos hk]
  simp
 | p::P,w::vs,i+1,m,nd,h1,h2,hk=>by
  show bindL kindOf ((p,w)::P.zip vs) m x=_
  unfold bindL
  exact Zd8 (i:=i) (List.nodup_cons.mp nd).2 (by simpa using h1) (by simpa using h2) hk
theorem Zea {kindOf:Str->Option NameKind} {x:Str} {v:Value}:∀ {P:List Str} {vs:List Value} {i:Nat} {m:Str->Option Value},P.Nodup->P[i]?=some x->vs[i]?=some v->kindOf x≠some .local ->
  bindC kindOf (P.zip vs) m x=some v
 | [],_,_,_,_,h,_,_=>by simp at h
 | _::_,[],_,_,_,_,h,_=>by simp at h
 | p::P,w::vs,0,m,nd,h1,h2,hk=>by
  simp at h1 h2; subst h1; subst h2
  show bindC kindOf ((p,w)::P.zip vs) m p=_
  unfold bindC
  rw [Zd9 fun v hv=>(List.nodup_cons.mp nd).1 (List.of_mem_zip hv).1,if_neg hk]
  simp
 | p::P,w::vs,i+1,m,nd,h1,h2,hk=>by
  show bindC kindOf ((p,w)::P.zip vs) m x=_
  unfold bindC
  exact Zea (i:=i) (List.nodup_cons.mp nd).2 (by simpa using h1) (by simpa using h2) hk
noncomputable def start (N:List Str) (vs:List V):St:=vs.map some++List.replicate (N.length-vs.length) none
noncomputable def ZfR (CX:CXT) (P:Program) (w:World) (K:Frag) (mg:Str->Option Value) (base:Heap) (N:List Str) (qual:Str) (scope:Scope) (f:Addr) (cd:Value) (A:Around) (outer:List Env) (s:Shared) (H:Hp) (E:XK):Cx where
 prog:=P
 w:=w
 K:=K
 mg:=mg
 base:=base
 A:=A.deeper (envOfC qual scope s.heap.objs.size f cd)
 N:=N
 s₀:=s
 H₀:=H
 env:=envOfC qual scope s.heap.objs.size f cd
 outer:=outer
 stack:=envOfC qual scope s.heap.objs.size f cd::outer
 ex:=[]
 calm:=true
 fn:=fun _=>true
 pn:=[]
 xe:=fun e s'=>wpAny (model P w) (A.deeper (envOfC qual scope s.heap.objs.size f cd)) (leaving (envOfC qual scope s.heap.objs.size f cd) e) (fun _ s''=>CX outer H s E e s'') (fun e' s''=>CX outer H s E e' s'') s'
theorem ZfU {sc:Scope} {n:Nat} {x:Str} (h:sc.names.lookup x=some .cell):∃ c,(cellsFrom n sc.names []).lookup x=some c:=by
 have q:=PySem.W.cellsFrom_some sc.names n [] (.inl h)
 exact Option.isSome_iff_exists.mp q
theorem Zia {CX:CXT} {P:Program} {w:World} {K:Frag} {mg:Str->Option Value} {base:Heap} {N ps:List Str} {qual:Str} {scope:Scope} {f:Addr} {cd:Value} {A:Around} {outer:List Env} {s s1:Shared} {H:Hp} {E:XK} {us:List Value} {vs:List V}
  (S:Zt N ps scope) (hd:A.handled=none) (e0:ZoO P w K mg base A outer s H) (hl:vs.length=ps.length) (r:Vals vs us)
  (x:InCallC s s.heap.objs.size (bindL (envOfC qual scope s.heap.objs.size f cd).kindOf (ps.zip us) fun _=>none) (cellsFrom (s.heap.objs.size+1) scope.names []) (bindC (envOfC qual scope s.heap.objs.size f cd).kindOf (ps.zip us) fun _=>none) s1) :
  Inv (ZfR CX P w K mg base N qual scope f cd A outer s H E) [] (start N vs) H s1:=by
 have hpl:ps.length<=N.length:=by have:=congrArg List.length S.pre; rw [List.length_take] at this; omega
 obtain ⟨h1,tk,rfl,hk⟩:=x.done
 have noA:∀ b:Addr,b ∉ (ZfR CX P w K mg base N qual scope f cd A outer s H E).ex:=fun b z=>absurd (show b∈([]:List Addr) from z) (by simp)
 refine ⟨⟨e0.mod,S.kind,rfl,rfl,Nat.le_refl _,fun y z c h1 h2=>?_,fun y hy=>?_,fun y c _ h=>?_,fun _=>hd,Around.frames_deeper e0.frames,.inr ⟨rfl,rfl⟩,fun b z=>absurd z (noA b),e0.bs,e0.bsz,fun b _ _=>noA b,fun b z=>absurd z (noA b),e0.funs,e0.frf⟩,
  rfl,e0.bare,Un.kept hk,⟨_,x.toInCall.ns,fun i y v h1 h2 h3=>?_⟩,fun y c h=>⟨_,x.cell y c h⟩,e0.hok.fresh (Nat.le_refl _),fun y c h=>?_,fun p hp=>absurd (show p∈([]:List (Addr×Obj)) from hp) (by simp),e0.hok.kept hk,?_⟩
 ·exact name_of_addr x.apart (PySem.mem_of_lookup h1) (PySem.mem_of_lookup h2)
 ·have hy:scope.names.lookup y=some .cell\/scope.names.lookup y=some .free:=hy
  rcases hy with hy | hy
  ·exact ZfU hy
  ·exact absurd rfl (S.nofree _ (PySem.mem_of_lookup hy))
 ·exact Nat.le_of_lt (x.above y c (PySem.mem_of_lookup h))
 ·have hi:i < vs.length:=by
   unfold start at h2
   by_cases hi:i < vs.length
   ·exact hi
   ·rw [List.getElem?_append_right (by simpa using hi)] at h2
    rw [List.getElem?_replicate] at h2
    split at h2 <;> cases h2
  have ha:vs[i]?=some v:=by
   unfold start at h2
   rw [List.getElem?_append_left (by simpa using hi),List.getElem?_map] at h2
   cases e:vs[i]? with
   | none=>rw [e] at h2; cases h2
   | some a=>rw [e] at h2; cases h2; rfl
  obtain ⟨u,hu,rv⟩:=r.get ha
  have hp:ps[i]?=some y:=by
   rw [<-S.pre,List.getElem?_take_of_lt (by omega)]; exact h1
  have ndP:ps.Nodup:=by rw [<-S.pre]; exact S.nd.sublist (List.take_sublist _ _)
  refine ⟨u,rv,?_⟩
  rcases S.par y (List.mem_of_getElem? hp) with k | k
  ·exact .inl ⟨k,Zd8 ndP hp hu k⟩
  ·obtain ⟨c,e⟩:=ZfU (n:=s.heap.objs.size+1) k
   refine .inr ⟨.inl k,c,e,?_⟩
   have q:=x.cell y c e
   rw [Zea ndP hp hu (by show scope.names.lookup y≠_; rw [k]; decide)] at q
   exact q
 ·exact e0.hok.fresh (Nat.le_of_lt (x.above y c (PySem.mem_of_lookup h)))
 ·unfold start
  show _=N.length
  rw [List.length_append,List.length_map,List.length_replicate]
  omega
theorem Zof {CX:CXT} {P:Program} {w:World} {K:Frag} {mg:Str->Option Value} {base:Heap} {k:Nat} {f:Addr} {name qual:Str} {params:Arguments} {body:List Stmt} {scope:Scope} {dV kV doc pm cdv ct oc:Value} {an od:Option Addr}
  {osl:Array (Option Value)} {N ps:List Str} {sp:Sp} (lk:K.lookup f=some ⟨oc,od,.func (fnOf name qual params body scope dV kV doc pm an cdv ct),osl⟩) (hcd:PySem.W.codeIn K cdv qual=true) (S:Zt N ps scope)
  (len:∀ vs H Q E,sp vs H Q E->vs.length=ps.length)
  (hbody:∀ (A:Around) (outer:List Env) (s:Shared) (H:Hp) (vs:List V) (Q:VK) (E:XK),Room k (A.deeper (envOfC qual scope s.heap.objs.size f cdv))->sp vs H Q E ->
   ∃ t,PSs (ZfR CX P w K mg base N qual scope f cdv A outer s H E) body t/\t { nx:=fun _ H'=>Q .non H',rt:=Q } (start N vs) H) :
  Zfd P w K mg base CX (k+1) f (fnOf name qual params body scope dV kV doc pm an cdv ct) ps sp:=by
 refine ⟨len,fun A outer s H args us vs Q E hr e0 hb r hsp=>?_⟩
 have hl:=len _ _ _ _ hsp
 have KX:K.In s.heap:=e0.mod.kin.keeps fun b o e=>(e0.bs b o e).1
 have lim:s.heap.NoLimit:=e0.mod.nolimit.keeps fun b o e=>(e0.bs b o e).1
 have hkind:∀ y∈ps.zip us,scope.names.lookup y.1=some .local\/(scope.names.lookup y.1=some .cell/\((cellsFrom (s.heap.objs.size+1) scope.names []).lookup y.1).isSome=true):=fun ⟨n,v⟩ hy=>by
  rcases S.par n (List.of_mem_zip hy).1 with q | q
  ·exact .inl q
  ·exact .inr ⟨q,PySem.W.cellsFrom_some _ _ _ (.inl q)⟩
 refine codeAny_call_function hr.depth (KX _ _ lk) rfl S.co S.gen rfl (PySem.W.codeRec_of KX hcd) (hb _ _ _ _ ?_)
 refine wpAny_newFunctionEnv_cells S.kind hkind fun env he s1 x=>?_
 subst he
 refine ⟨lim.keeps x.toInCall.keep,codeAny_func ?_⟩
 obtain ⟨t,ht,hq⟩:=hbody A outer s H vs Q E (hr.deeper _) hsp
 have I:Inv (ZfR CX P w K mg base N qual scope f cdv A outer s H E) [] (start N vs) H s1:=Zia S hr.hd e0 hl r x
 refine wpAny_mono (ht [] s1 (start N vs) H _ I hq) (fun fl s' hs=>?_) fun e s' hs=>hs
 have fin:∀ {σ':St} {H':Hp} {v:V} {u:Value},Inv (ZfR CX P w K mg base N qual scope f cdv A outer s H E) [] σ' H' s'->RelV v u->Q v H'->CE outer P w H s Q u s':=
  fun {σ' H' v u} J rv q=>⟨v,H',J.os,J.bare,J.base,J.hok,rv,q⟩
 cases fl with
 | ret u=>
  obtain ⟨v,σ',H',J,rv,q⟩:=hs
  exact fin J rv q
 | next=>
  obtain ⟨σ',H',J,q⟩:=hs
  exact fin (v:=V.non) (u:=Value.none) J rfl q
 | brk=>
  obtain ⟨_,_,_,q⟩:=hs
  exact False.elim q
 | cont=>
  obtain ⟨_,_,_,q⟩:=hs
  exact False.elim q
section
variable {X:Cx} {x:Str} {p pos:Pos} {e:Expr} {es:List Expr} {t:TA} {id T:String} {r:List V->Hp->VK->Prop}
noncomputable def tCB (r:List V->Hp->VK->Prop) (t:TA):TE:=fun σ H Q=>t σ H fun vs H1=>r vs H1 Q
theorem Zag (hc:W9 X (.builtin id) r) (hg:Gl X x) (hm:X.mg x=none) (hv:bootBuiltins x=some (.builtin id)) (ha:PA X (e::es) t) (hn:x≠"__name__":=by decide) (hdb:(x==("__debug__":Str))=false:=by decide)
  (he:starEach (e::es) X.env=(false,eval e X.env)::starEach es X.env:=by rfl) (hpl:(backTo pos (starEach es X.env)).any (·.1)=false:=by rfl):PE X (.Call (.Name x p) (e::es) [] pos) (tCB r t):=by
 intro pins s σ H Q I h
 refine wpAny_Call_Name_kw (Vc I hg hm hv ?_ hn hdb)
 exact PyProof.Rows.callWith_builtin1 (thn (ha pos pins s σ H _ I h) fun us s1 ⟨vs,H1,I1,r1,q1⟩=>hc pins s1 σ H1 vs us Q I1 r1 q1) he hpl
theorem Zdu (hc:W9 X (.type T) r) (hg:Gl X x) (hm:X.mg x=none) (hv:bootBuiltins x=some (.type T)) (ha:PA X (e::es) t) (hn:x≠"__name__":=by decide) (hdb:(x==("__debug__":Str))=false:=by decide)
  (he:starEach (e::es) X.env=(false,eval e X.env)::starEach es X.env:=by rfl) (hpl:(backTo pos (starEach es X.env)).any (·.1)=false:=by rfl):PE X (.Call (.Name x p) (e::es) [] pos) (tCB r t):=by
 intro pins s σ H Q I h
 refine wpAny_Call_Name_kw (Vc I hg hm hv ?_ hn hdb)
 exact PyProof.Rows.callWith_type1 (thn (ha pos pins s σ H _ I h) fun us s1 ⟨vs,H1,I1,r1,q1⟩=>hc pins s1 σ H1 vs us Q I1 r1 q1) he hpl
end
end L2
namespace HT
open PySem PyProof.Rows
noncomputable def lexLt:List Int->List Int->Bool
 | [],[]=>false
 | [],_::_=>true
 | _::_,[]=>false
 | x::xs,y::ys=>if x=y then lexLt xs ys else decide (x < y)
theorem lexLt_cons (x y:Int) (xs ys:List Int):lexLt (x::xs) (y::ys)=if x=y then lexLt xs ys else decide (x < y):=rfl
theorem lexLt_nil_nil:lexLt [] []=false:=rfl
theorem Zbz (y:Int) (ys:List Int):lexLt [] (y::ys)=true:=rfl
theorem ZbA (x:Int) (xs:List Int):lexLt (x::xs) []=false:=rfl
theorem Zj3 (A:Around) (s:Shared) (a:Int) (t:Tok) (c:Int) (u:Tok):∃ e,SeqAt.EqAt A s (.int a t) (.int c u) e/\(e=true ↔ a=c):=
 ⟨(a==c),SeqAt.EqAt.int_int a t c u,by simp⟩
theorem rcLt_int (A:Around) (s:Shared) (a:Int) (t:Tok) (c:Int) (u:Tok) (prog:Program) (w:World) (E:Value->Shared->Prop) (Q:Value->Shared->Prop) (h:Q (.bool (decide (a < c))) s) :
  wpAny (model prog w) A (richCompare .Lt (.int a t) (.int c u)) Q E s:=
 (PyProof.Rows.lt_int h:wpAny (model prog w) A (compareOp .Lt (.int a t) (.int c u)) Q E s)
section
open PySem.SeqAt
open PySem.AutoSeq1 (wpAny_loadPart')
open PySem.MeetsSeq PySem.MeetsSeq2 PySem.MeetsSeq3
theorem Zcv (l b:Addr) (items items2:Array Value) (n n2:Nat) (dd dd2:Option Addr) (sl sl2:Array (Option Value)) (ns ms:List Int) (hi:IntsAre items.toList ns) (hj:IntsAre items2.toList ms) :
  Meets (Builtin.«tuple.__lt__» ⟨[.ref l,.ref b],[]⟩)
   (fun _ R s=>s.heap.get? l=some { cls:=.type "tuple",dict:=dd,data:=.seq items n,slots:=sl }/\s.heap.get? b=some { cls:=.type "tuple",dict:=dd2,data:=.seq items2 n2,slots:=sl2 } /\
    R (.ok (.ret (.bool (lexLt ns ms)))) s):=
 .of_wp fun prog w A R s h=>by
  obtain ⟨hp,g,d,tk,os⟩:=s; obtain ⟨hl,hb,h⟩:=h
  have f2:=AutoSeq1.sub_tuple_tuple
  have z1:items.size=ns.length:=by rw [<-hi.length]; simp
  have z2:items2.size=ms.length:=by rw [<-hj.length]; simp
  wp_walk using wpAny_loadPart' hl,wpAny_loadPart' hb,wpAny_forIn_list _ (fun rest b s'=>b.1=none/\s'=⟨hp,g,d,tk,os⟩/\∃ (vs ws:List Value) (ns' ms':List Int),rest=vs.zip ws /\
   IntsAre vs ns'/\IntsAre ws ms'/\ns'.length+items2.size=ms'.length+items.size/\R (.ok (.ret (.bool (lexLt ns' ms')))) ⟨hp,g,d,tk,os⟩) _
  case turn=>
   rintro ⟨y,x⟩ rest b s' ⟨hb',rfl,vs,ws,ns',ms',hz,hvi,hwi,hlen,hR⟩
   cases hvi with
   | nil=>rw [List.zip_nil_left] at hz; cases hz
   | cons a t hvi'=>
    cases hwi with
    | nil=>rw [List.zip_nil_right] at hz; cases hz
    | cons c u hwi'=>
     rw [List.zip_cons_cons] at hz
     injection hz with hyx hrest
     injection hyx with hy hx
     subst hy hx
     rw [lexLt_cons] at hR
     simp only [List.length_cons] at hlen
     obtain ⟨e,he,hiff⟩:=Zj3 A.in1 ⟨hp,g,d,tk,os⟩ a t c u
     refine wpAny_bind (he prog w _ _ ?_)
     cases e with
     | true=>
      rw [if_pos (hiff.mp rfl)] at hR
      wp_walk
      exact ⟨rfl,rfl,_,_,_,_,hrest,hvi',hwi',by omega,hR⟩
     | false=>
      rw [if_neg (fun q=>absurd (hiff.mpr q) Bool.false_ne_true)] at hR
      have hri:=rcLt_int A.in1 ⟨hp,g,d,tk,os⟩ a t c u prog w
      wp_walk using hri
      exact ⟨_,rfl,by simpa using hR⟩
  case fin=>
   rintro ⟨b1,b2⟩ s' ⟨hb',rfl,vs,ws,ns',ms',hz,hvi,hwi,hlen,hR⟩
   simp only at hb'
   subst hb'
   have hv:lexLt ns' ms'=decide (items.size < items2.size):=by
    cases hvi with
    | nil=>
     cases hwi with
     | nil=>
      simp only [List.length_nil] at hlen
      rw [lexLt_nil_nil]
      exact (decide_eq_false (by omega)).symm
     | cons c u hw=>
      simp only [List.length_nil,List.length_cons] at hlen
      rw [Zbz]
      exact (decide_eq_true (by omega)).symm
    | cons a t hv=>
     cases hwi with
     | nil=>
      simp only [List.length_nil,List.length_cons] at hlen
      rw [ZbA]
      exact (decide_eq_false (by omega)).symm
     | cons c u hw=>
      rw [List.zip_cons_cons] at hz
      cases hz
   rw [hv] at hR
   wp_walk
   exact ⟨_,rfl,by simpa [Builtin.Tuple.tupleCompareSizes] using hR⟩
  case h=>
   exact ⟨rfl,rfl,items.toList,items2.toList,ns,ms,rfl,hi,hj,by omega,h⟩
end
section
variable {prog:Program} {w:World} {A:Around} {E:Value->Shared->Prop} {s:Shared}
theorem lt_tupInts {l b:Addr} {items items2:Array Value} {ns ms:List Int} {Q:Value->Shared->Prop} (hl:IsTup s.heap l items) (hb:IsTup s.heap b items2) (hi:IntsAre items.toList ns) (hj:IntsAre items2.toList ms)
  (hu:A.units < cLine) (h:Q (.bool (lexLt ns ms)) s):wpAny (model prog w) A (compareOp .Lt (.ref l) (.ref b)) Q E s:=by
 obtain ⟨⟨cls,dd,data,sl⟩,ho,hc,n,hd⟩:=id hl
 obtain ⟨⟨cls2,dd2,data2,sl2⟩,ho2,hc2,n2,hd2⟩:=id hb
 simp only at hc hd hc2 hd2
 subst hc hd hc2 hd2
 exact richCompare_meets_room (op:=.Lt) ⟨_,ho,rfl⟩ ⟨_,ho2,rfl⟩ PySem.F.slot_tuple_lt PySem.F.entry_tuple_lt (PySem.F.args_tuple_lt_2 _ _) (Zcv l b items items2 n n2 dd dd2 sl sl2 ns ms hi hj)
  ⟨ho,ho2,show Value.bool (lexLt ns ms)≠Value.notImplemented/\Q (.bool (lexLt ns ms)) s from ⟨(fun x=>nomatch x),h⟩⟩ hu
theorem cat_tup {t b:Addr} {vs ws:List Value} {Q:Value->Shared->Prop} (ht:IsTup s.heap t vs.toArray) (hb:IsTup s.heap b ws.toArray) (hv:vs≠[])
  (h1:ws=[]->Q (.ref t) s) (h2:ws≠[]->Q (.ref s.heap.objs.size) { s with heap:=s.heap.push { cls:=.type "tuple",data:=.seq (vs++ws).toArray } })
  (hsz:vs.length+ws.length<=sizeLine):wpAny (model prog w) A (binaryOp .Add (.ref t) (.ref b)) Q E s:=by
 obtain ⟨⟨cls,dd,data,sl⟩,ho,hc,n,hd⟩:=id ht
 obtain ⟨⟨cls2,dd2,data2,sl2⟩,ho2,hc2,n2,hd2⟩:=id hb
 simp only at hc hd hc2 hd2
 subst hc hd hc2 hd2
 have e:vs.toArray++ws.toArray=(vs++ws).toArray:=by simp
 by_cases hw:ws=[]
 ·exact concat_meets ⟨_,ho,rfl⟩ ⟨_,ho2,rfl⟩ noFill_tuple_add seq_tuple_add PySem.F.slot_tuple_add PySem.F.entry_tuple_add (PySem.F.args_tuple_add_2 _ _)
   (tuple_addW1 t b vs.toArray ws.toArray n n2 dd dd2 sl sl2 (by simpa using hv) (by simp [hw])) ⟨ho,ho2,h1 hw⟩
 ·refine concat_meets ⟨_,ho,rfl⟩ ⟨_,ho2,rfl⟩ noFill_tuple_add seq_tuple_add PySem.F.slot_tuple_add PySem.F.entry_tuple_add (PySem.F.args_tuple_add_2 _ _)
   (tuple_addW2 t b vs.toArray ws.toArray n n2 dd dd2 sl sl2 (by simpa using hv) (by simpa using hw) (by rw [List.size_toArray,List.size_toArray]; exact hsz)) ⟨ho,ho2,?_⟩
  rw [e]
  exact h2 hw
noncomputable def sIx (n d:Nat):Option Int->Nat
 | none=>d
 | some v=>if v < 0 then (v+(n:Int)).toNat else min v.toNat n
theorem sIx_none (n d:Nat):sIx n d none=d:=rfl
theorem sIx_nat (n d k:Nat):sIx n d (some (k:Int))=min k n:=by
 show (if (k:Int) < 0 then ((k:Int)+(n:Int)).toNat else min (k:Int).toNat n)=min k n
 rw [if_neg (by omega),Int.toNat_natCast]
theorem Zm6 (n d:Nat) (hd:d<=n) (o:Option Int):sIx n d o<=n:=by
 cases o with
 | none=>exact hd
 | some v=>
  show (if v < 0 then (v+(n:Int)).toNat else min v.toNat n)<=n
  by_cases hv:v < 0
  ·rw [if_pos hv]; omega
  ·rw [if_neg hv]; exact Nat.min_le_right _ _
theorem ZiK (v:Int) (n d:Nat):(if v < 0 then max (v+(n:Int)) 0 else min v (n:Int))=((sIx n d (some v):Nat):Int):=by
 show (if v < 0 then max (v+(n:Int)) 0 else min v (n:Int))=(((if v < 0 then (v+(n:Int)).toNat else min v.toNat n):Nat):Int)
 by_cases hv:v < 0
 ·simp only [if_pos hv]; omega
 ·simp only [if_neg hv]; omega
theorem ZgJ (lo hi:Option Int) (n:Nat):Builtin.Slice.sliceAdjust lo hi 1 (n:Int)=(((sIx n 0 lo:Nat):Int),((sIx n n hi:Nat):Int)):=by
 have h1:¬ ((1:Int) < 0):=by omega
 unfold Builtin.Slice.sliceAdjust
 simp only [h1,if_false]
 refine Prod.ext ?_ ?_
 ·cases lo with
  | none=>rfl
  | some v=>exact ZiK v n 0
 ·cases hi with
  | none=>rfl
  | some v=>exact ZiK v n n
theorem Zgc (i j:Nat):Builtin.Slice.slicePlaces (i:Int) (j:Int) 1=j-i:=by
 unfold Builtin.Slice.slicePlaces
 have h1:(1:Int) > 0:=by omega
 simp only [h1,if_true,Int.ediv_one]
 split <;> omega
theorem ZbU {v:Value} {o:Option Int} {Q:Option Int->Shared->Prop} (p:IsPart v o) (h:Q o s):wpAny (model prog w) A (Builtin.Slice.slicePartIndex v) Q E s:=by
 cases p with
 | none=>exact slicePart_none h
 | int i t=>exact slicePart_int h
theorem sliceApplied_gen {sl:Addr} {vl vu:Value} {lo hi:Option Int} {n:Nat} {Q:Int×Int×Nat->Shared->Prop} (hs:s.heap.IsSliceOf sl vl vu .none) (pl:IsPart vl lo) (pu:IsPart vu hi)
  (h:Q (((sIx n 0 lo:Nat):Int),1,sIx n n hi-sIx n 0 lo) s):wpAny (model prog w) A (Builtin.Slice.sliceApplied (.ref sl) (pure (n:Int))) Q E s:=by
 obtain ⟨os,hos,hcs,hds⟩:=id hs
 unfold Builtin.Slice.sliceApplied Builtin.Slice.sliceFields
 refine wpAny_bind (wpAny_bind (wpAny_field hos hds (x:=vl) rfl (wpAny_bind (wpAny_field hos hds (x:=vu) rfl (wpAny_bind (wpAny_field hos hds (x:=.none) rfl (wpAny_pure ?_)))))))
 refine wpAny_bind (slicePart_none ?_)
 show wpAny _ _ (if ((1:Int)==0)=true then _ else _) _ _ s
 rw [if_neg (by decide)]
 refine wpAny_bind (ZbU pl (wpAny_bind (ZbU pu (wpAny_bind (wpAny_pure ?_)))))
 show wpAny _ _ (match Builtin.Slice.sliceAdjust lo hi 1 (n:Int) with | (lo,hi)=>pure (lo,(1:Int),Builtin.Slice.slicePlaces lo hi 1)) _ _ s
 rw [ZgJ lo hi n]
 show wpAny _ _ (pure (((sIx n 0 lo:Nat):Int),(1:Int),Builtin.Slice.slicePlaces ((sIx n 0 lo:Nat):Int) ((sIx n n hi:Nat):Int) 1)) _ _ s
 rw [Zgc]
 exact wpAny_pure h
theorem Zjx (xs:Array Value) (i k:Nat):((List.range k).filterMap fun (m:Nat)=>xs[((i:Int)+(m:Int)*1).toNat]?).toArray=((xs.toList.drop i).take k).toArray:=by
 have e:(fun (m:Nat)=>xs[((i:Int)+(m:Int)*1).toNat]?)=fun m=>xs[i+m]?:=by
  funext m
  have:((i:Int)+(m:Int)*1).toNat=i+m:=by omega
  rw [this]
 rw [e]
 have:=pick_run xs i k
 rw [List.filterMap_map] at this
 have e2:((fun x=>xs[x]?) ∘ fun x=>i+x)=fun m=>xs[i+m]?:=rfl
 rw [e2] at this
 rw [this]
theorem getItem_tuple_cut {t sl:Addr} {items:Array Value} {vl vu:Value} {lo hi:Option Int} {Q:Value->Shared->Prop} (ht:IsTup s.heap t items) (hs:s.heap.IsSliceOf sl vl vu .none) (pl:IsPart vl lo) (pu:IsPart vu hi)
  (hw:¬ (sIx items.size 0 lo=0/\sIx items.size items.size hi=items.size))
  (h:Q (.ref s.heap.objs.size) { s with heap:=s.heap.push { cls:=.type "tuple",data:=.seq ((items.toList.drop (sIx items.size 0 lo)).take (sIx items.size items.size hi-sIx items.size 0 lo)).toArray } })
  (hsz:items.size<=sizeLine):wpAny (model prog w) A (getItem (.ref t) (.ref sl)) Q E s:=by
 have htake:sizeOk (.seq ((items.toList.drop (sIx items.size 0 lo)).take (sIx items.size items.size hi-sIx items.size 0 lo)).toArray):=by
  show ((items.toList.drop (sIx items.size 0 lo)).take (sIx items.size items.size hi-sIx items.size 0 lo)).toArray.size<=sizeLine
  rw [List.size_toArray,List.length_take,List.length_drop,Array.length_toList]
  omega
 have hj:sIx items.size items.size hi<=items.size:=Zm6 _ _ (Nat.le_refl _) hi
 obtain ⟨os,hos,hcs,hds⟩:=id hs
 have hTs:s.TypeIs (.ref sl) "slice":=⟨os,hos,hcs⟩
 unfold getItem
 try with_reducible refine wpAny_holding ?_
 first | refine wpAny_bind (wpAny_pure ?_) | skip
 refine wpAny_bind (wpAny_sequenceKey ht.typeIs (by decide) ?_)
 refine wpAny_bind (wpAny_callSpecial?_slot (name:=Str.ofString "__getitem__") ht.typeIs PyProof.Rows.slot_tuple_getitem
  (wpAny_call_entry PyProof.Rows.slot_tuple_getitem ht.typeIs entry_tuple_getitem ?_ (args_tuple_getitem _ _)))
 show wpAny _ _ (Builtin.Tuple.tupleItemsOf (.ref t) >>= _) _ _ s
 refine wpAny_bind (tupleItemsOf_ ht ?_)
 refine wpAny_bind (wpAny_typeOf hTs ?_)
 rw [if_pos (by decide)]
 refine wpAny_bind (sliceApplied_gen hs pl pu ?_)
 have hno:¬ ((((sIx items.size 0 lo:Nat):Int)==0&&(1:Int)==1&&(sIx items.size items.size hi-sIx items.size 0 lo)==items.size)=true):=by
  intro q
  rw [Bool.and_eq_true,Bool.and_eq_true] at q
  have q1:((sIx items.size 0 lo:Nat):Int)=0:=eq_of_beq q.1.1
  have q2:sIx items.size items.size hi-sIx items.size 0 lo=items.size:=eq_of_beq q.2
  exact hw ⟨by omega,by omega⟩
 show wpAny _ _ (if (((sIx items.size 0 lo:Nat):Int)==0&&(1:Int)==1&&(sIx items.size items.size hi-sIx items.size 0 lo)==items.size)=true then _ else _) _ _ s
 rw [if_neg hno,Zjx]
 first
  | exact wpAny_bind (m:=Builtin.Tuple.tupleExact _) (wpAny_newObj_type (wpAny_pure ⟨_,rfl,wpAny_pure h⟩) htake)
  | exact wpAny_bind (m:=Builtin.Tuple.tupleExact _) (wpAny_newObj_type (wpAny_bind (wpAny_pure (wpAny_pure ⟨_,rfl,wpAny_pure h⟩))) htake)
  | exact wpAny_bind (wpAny_bind (m:=Builtin.Tuple.tupleExact _) (wpAny_newObj_type (wpAny_pure (wpAny_pure ⟨_,rfl,wpAny_pure h⟩)) htake))
  | exact wpAny_bind (wpAny_bind (m:=Builtin.Tuple.tupleExact _) (wpAny_newObj_type (wpAny_pure ⟨_,rfl,wpAny_pure h⟩) htake))
end
end HT
namespace L2
open PySem PySem.Spec PyProof.Rows
noncomputable abbrev TO:=St->Hp->(Option Int->Hp->Prop)->Prop
noncomputable def PO (X:Cx) (e:Option Expr) (t:TO):Prop:=
 ∀ (pins:List (Addr×Obj)) (s:Shared) (σ:St) (H:Hp) (Q:Option Int->Hp->Prop),Inv X pins σ H s->t σ H Q ->
  wpAny (model X.prog X.w) X.A (evalPart e X.env) (fun u s'=>∃ o H',Inv X pins σ H' s'/\IsPart u o/\Q o H') X.xe s
noncomputable def Zlg:TO:=fun _ H Q=>Q none H
noncomputable def ZoU (t:TE):TO:=fun σ H Q=>t σ H fun x H1=>∃ i,x=.int i/\Q (some i) H1
section
variable {X:Cx} {e:Expr} {te:TE} {lo hi:Option Expr} {tl th:TO} {pos p2:Pos}
theorem ZlD:PO X none Zlg:=by
 intro pins s σ H Q I h
 rw [evalPart_none]
 exact wpAny_pure ⟨none,H,I,.none,h⟩
theorem Zhs (h:PE X e te):PO X (some e) (ZoU te):=by
 intro pins s σ H Q I hw
 rw [evalPart_some]
 refine thn (h pins s σ H _ I hw) fun u s1 zq=>?_
 obtain ⟨x,H1,I1,r1,q1⟩:=zq
 obtain ⟨i,rfl,q⟩:=q1
 obtain ⟨t,rfl⟩:=r1
 exact ⟨some i,H1,I1,.int i t,q⟩
noncomputable def SlR (X:Cx) (r:V->Option Int->Option Int->Hp->VK->Prop):Prop:=
 ∀ (pins:List (Addr×Obj)) (s:Shared) (σ:St) (H:Hp) (x:V) (v vl vu:Value) (lo hi:Option Int) (sl:Addr) (Q:VK),Inv X pins σ H s->RelV x v->s.heap.IsSliceOf sl vl vu .none->IsPart vl lo->IsPart vu hi->r x lo hi H Q ->
  ∃ T id,typeLookup (.type T) "__getitem__"=pure (some (.builtin id))/\s.TypeIs v T/\wpAny (model X.prog X.w) X.A (getItem v (.ref sl)) (EP X pins σ Q) X.xe s
noncomputable def tSl (r:V->Option Int->Option Int->Hp->VK->Prop) (te:TE) (tl th:TO):TE:=fun σ H Q=>te σ H fun x H1=>tl σ H1 fun l H2=>th σ H2 fun u H3=>r x l u H3 Q
theorem Zfw {r:V->Option Int->Option Int->Hp->VK->Prop} (hr:SlR X r) (he:PE X e te) (hl:PO X lo tl) (hu:PO X hi th):PE X (.Subscript e (.Slice lo hi none p2) pos) (tSl r te tl th):=by
 intro pins s σ H Q I h
 refine Subscript_ (thn (he pins s σ H _ I h) fun v s1 zq=>?_)
 obtain ⟨x,H1,I1,r1,q1⟩:=zq
 refine wpAny_Slice (thn (hl pins s1 σ H1 _ I1 q1) fun vl s2 ⟨l,H2,I2,pl,q2⟩=>thn (hu pins s2 σ H2 _ I2 q2) fun vu s3 zq=>?_)
 obtain ⟨u,H3,I3,pu,q3⟩:=zq
 rw [evalPart_none]
 refine wpAny_pure ?_
 have I4:Inv X pins σ H3 { s3 with heap:=s3.heap.push { cls:=.type "slice",data:=.fields #[vl,vu,.none] } }:=I3.kept (t':=s3.toks) fun b ob q=>Heap.get?_push_of_some _ q
 obtain ⟨T,id,hT,ht,hg⟩:=hr pins { s3 with heap:=s3.heap.push { cls:=.type "slice",data:=.fields #[vl,vu,.none] } } σ H3 x v vl vu l u s3.heap.objs.size Q I4 r1 (Heap.IsSliceOf.new ..) pl pu q3
 show wpAny (model X.prog X.w) X.A (subscriptTail e (.Slice lo hi none p2) v (.ref s3.heap.objs.size)) (EP X pins σ Q) X.xe { s3 with heap:=s3.heap.push { cls:=.type "slice",data:=.fields #[vl,vu,.none] } }
 exact tail_any (ops:=[.ref s3.heap.objs.size,v]) ht hT hg (by with_unfolding_all rfl)
noncomputable def ZgO (xs:List V) (lo hi:Option Int):List V:=(xs.drop (HT.sIx xs.length 0 lo)).take (HT.sIx xs.length xs.length hi-HT.sIx xs.length 0 lo)
theorem Zba (xs:List V) (lo hi:Option Int):(ZgO xs lo hi).length<=xs.length:=by
 unfold ZgO
 rw [List.length_take,List.length_drop]
 omega
noncomputable def Zqu (K:Frag):V->Option Int->Option Int->Hp->VK->Prop:=fun x lo hi H Q=>∃ a xs,x=.ref a/\SqT K H a xs /\
 ¬ (HT.sIx xs.length 0 lo=0/\HT.sIx xs.length xs.length hi=xs.length)/\∀ p,H p=none->Q (.ref p) (upd H p (.tup (ZgO xs lo hi)))
theorem Zm1:SlR X (Zqu X.K):=by
 intro pins s σ H x v vl vu lo hi sl Q I rx hs pl pu h
 obtain ⟨a,xs,rfl,hx,hw,q⟩:=h
 cases rx
 obtain ⟨its,r,ht,hz⟩:=I.tuple hx
 have hlen:its.toArray.size=xs.length:=by rw [List.size_toArray]; exact r.length.symm
 refine ⟨"tuple",_,PyProof.Rows.slot_tuple_getitem.lookup,ht.typeIs,?_⟩
 refine HT.getItem_tuple_cut ht hs pl pu (by rw [hlen]; exact hw) ?_ (by rw [hlen]; exact hz)
 rw [hlen]
 refine ⟨.ref s.heap.objs.size,_,I.laid (t':=s.toks) (o:=.tup (ZgO xs lo hi)) (fun b ob q=>Heap.get?_push_of_some _ q) (Nat.le_refl _) ?_,rfl,q _ (I.hok.fresh (Nat.le_refl _))⟩
 exact ⟨Nat.le_trans (Zba xs lo hi) hz,_,(r.drop (HT.sIx xs.length 0 lo)).take (HT.sIx xs.length xs.length hi-HT.sIx xs.length 0 lo),IsTup.new _ _⟩
theorem Vals.nil_iff {xs:List V} {us:List Value} (r:Vals xs us):us=[] ↔ xs=[]:=by
 cases r with
 | nil=>simp
 | cons _ _=>simp
end
noncomputable def ixN (n:Nat) (i:Int):Option Nat:=if 0<=i then (if i < n then some i.toNat else none) else if -(n:Int)<=i then some (i+n).toNat else none
noncomputable def atI {α:Type} (xs:List α) (i:Int):Option α:=(ixN xs.length i).bind fun j=>xs[j]?
theorem Zl2 {n:Nat} {i:Int} {j:Nat} (h:ixN n i=some j):seqIndex? i n=some j/\j < n/\-(n:Int)<=i/\i < n:=by
 unfold ixN at h
 by_cases h0:0<=i
 ·rw [if_pos h0] at h
  by_cases h1:i < n
  ·rw [if_pos h1] at h
   have e:i.toNat=j:=Option.some.inj h
   exact ⟨by rw [seqIndex_of h0 h1,e],by omega,by omega,h1⟩
  ·rw [if_neg h1] at h; cases h
 ·rw [if_neg h0] at h
  by_cases h1:-(n:Int)<=i
  ·rw [if_pos h1] at h
   have e:(i+n).toNat=j:=Option.some.inj h
   exact ⟨by rw [seqIndex_neg (by omega) h1,e],by omega,h1,by omega⟩
  ·rw [if_neg h1] at h; cases h
theorem Ze3 {α:Type} {xs:List α} {i:Int} {v:α} (h:atI xs i=some v):∃ j,seqIndex? i xs.length=some j/\xs[j]?=some v/\j < xs.length/\-(xs.length:Int)<=i/\i < xs.length:=by
 unfold atI at h
 cases e:ixN xs.length i with
 | none=>rw [e] at h; cases h
 | some j=>
  rw [e] at h
  obtain ⟨h1,h2,h3,h4⟩:=Zl2 e
  exact ⟨j,h1,h,h2,h3,h4⟩
theorem Zmu {α:Type} {xs:List α} {j:Nat} {v:α} (h:xs[j]?=some v):atI xs (j:Int)=some v:=by
 have hj:j < xs.length:=(List.getElem?_eq_some_iff.mp h).1
 have e:ixN xs.length (j:Int)=some j:=by
  unfold ixN
  rw [if_pos (by omega),if_pos (by omega)]; simp
 unfold atI; rw [e]; exact h
noncomputable def Zi4 (b:Expr):Prop:=∀ o i,subscripted b false o i=operate [o,i] (getItem o i)
noncomputable def IxR (X:Cx) (r:R2):Prop:=
 ∀ (value slice:Expr) (pins:List (Addr×Obj)) (s:Shared) (σ:St) (H:Hp) (x y:V) (v u:Value) (Q:VK),Inv X pins σ H s->RelV x v->RelV y u->r x y H Q ->
  subscripted slice false v u=operate [v,u] (getItem v u)->wpAny (model X.prog X.w) X.A (subscriptTail value slice v u) (EP X pins σ Q) X.xe s
noncomputable def MtR (X:Cx) (id:String) (r:V->List V->Hp->VK->Prop):Prop:=
 ∀ (pins:List (Addr×Obj)) (s:Shared) (σ:St) (H:Hp) (x:V) (xs:List V) (v:Value) (us:List Value) (Q:VK),Inv X pins σ H s->RelV x v->Vals xs us->r x xs H Q ->
  wpAny (model X.prog X.w) X.A (call (.builtin id) (v::us)) (EP X pins σ Q) X.xe s
section
variable {X:Cx} {a b:Expr} {ta tb:TE} {pos:Pos}
theorem Zpa {r:R2} (hr:IxR X r) (ha:PE X a ta) (hb:PE X b tb) (hs:Zi4 b):PE X (.Subscript a b pos) (tOp r ta tb):=by
 intro pins s σ H Q I h
 exact Subscript_ (ZpG ha hb I h fun v u s2 x y H2 I2 rx ry q=>hr a b pins s2 σ H2 x y v u Q I2 rx ry q (hs _ _))
noncomputable def ZqA (K:Frag):R2:=fun x y H Q=>∃ p xs i v,x=.ref p/\y=.int i/\SqL K H p xs/\atI xs i=some v/\Q v H
noncomputable def Zqy (K:Frag):R2:=fun x y H Q=>∃ p xs i v,x=.ref p/\y=.int i/\SqT K H p xs/\atI xs i=some v/\Q v H
noncomputable def Zqz:R2:=fun x y H Q=>∃ z i c,x=.str z/\y=.int i/\z.length<=sizeLine/\atI z.cps.toList i=some c/\Q (.str ⟨#[c]⟩) H
theorem Zl1:IxR X (ZqA X.K):=by
 intro value slice pins s σ H x y v u Q I rx ry h hs
 obtain ⟨p,xs,i,z,rfl,rfl,hq,he,q⟩:=h
 cases rx
 obtain ⟨t,rfl⟩:=ry
 obtain ⟨its,r,pl,hz⟩:=I.list hq
 obtain ⟨j,h1,h2,h3,h4,h5⟩:=Ze3 he
 obtain ⟨w,ew,rw'⟩:=r.get h2
 have hl:=r.length
 have hn:=ZdH
 have fin:EP X pins σ Q w s:=⟨z,H,I,rw',q⟩
 by_cases h0:0<=i
 ·have hj:i.toNat=j:=by
   rw [seqIndex_of h0 h5] at h1
   exact Option.some.inj h1
  exact item_listR pl.isList h0 (by omega) (by rw [hj]; simpa using ew) fin hs
 ·have hj:(i+(its.toArray.size:Int)).toNat=j:=by
   rw [seqIndex_neg (by omega) h4] at h1
   rw [List.size_toArray,<-hl]
   exact Option.some.inj h1
  exact subscriptTail_builtinR (x:=w) pl.isList.typeIs slot_list_getitem.lookup
   (wpAny_getItem_list_neg (Q:=fun r s'=>r=w/\EP X pins σ Q r s') pl.isList (by omega) (by rw [List.size_toArray] <;> omega) (by omega) (by rw [hj]; simpa using ew) ⟨rfl,fin⟩) hs
theorem Zn5:IxR X (Zqy X.K):=by
 intro value slice pins s σ H x y v u Q I rx ry h hs
 obtain ⟨p,xs,i,z,rfl,rfl,hq,he,q⟩:=h
 cases rx
 obtain ⟨t,rfl⟩:=ry
 obtain ⟨its,r,pl,hz⟩:=I.tuple hq
 obtain ⟨j,h1,h2,h3,h4,h5⟩:=Ze3 he
 obtain ⟨w,ew,rw'⟩:=r.get h2
 have hl:=r.length
 have hn:=ZdH
 have fin:EP X pins σ Q w s:=⟨z,H,I,rw',q⟩
 exact subscriptTail_builtinR (x:=w) pl.typeIs slot_tuple_getitem.lookup
  (getItem_tuple (j:=j) (Q:=fun r s'=>r=w/\EP X pins σ Q r s') pl (by omega) (by omega) (by rw [List.size_toArray,<-hl]; exact h1) (by simpa using ew) ⟨rfl,fin⟩) hs
theorem Zn6:IxR X Zqz:=by
 intro value slice pins s σ H x y v u Q I rx ry h hs
 obtain ⟨z,i,c,rfl,rfl,hz,he,q⟩:=h
 obtain ⟨t,rfl⟩:=rx
 obtain ⟨t',rfl⟩:=ry
 obtain ⟨j,h1,h2,h3,h4,h5⟩:=Ze3 he
 have hl:z.cps.toList.length=z.length:=by simp [Str.length]
 rw [hl] at h1 h4 h5
 have hn:=ZdH
 exact tail_any (typeIs_str s z t) slot_str_getitem.lookup (getItem_str (c:=c) (by
  have e1:decide (i < -(2 ^ 63:Int))=false:=decide_eq_false (by omega)
  have e2:decide (i>=2 ^ 63)=false:=decide_eq_false (by omega)
  rw [e1,e2,Bool.or_false]) (by rw [h1]; simpa using h2) ⟨.str ⟨#[c]⟩,H,I.tok _,⟨_,rfl⟩,q⟩) hs
theorem Zdk (lo hi:Option Int) (n:Nat):(sliceBounds lo hi none n).1=((HT.sIx n 0 lo:Nat):Int)/\(sliceBounds lo hi none n).2.1=((HT.sIx n n hi:Nat):Int)/\(sliceBounds lo hi none n).2.2=1:=by
 refine ⟨?_,?_,rfl⟩
 ·cases lo with
  | none=>simp [sliceBounds,HT.sIx]
  | some i=>
   simp only [sliceBounds,HT.sIx,Option.getD_none,show (1:Int) > 0 by decide,if_true]
   by_cases h:i < 0
   ·simp only [h,if_true] <;> omega
   ·simp only [h,if_false] <;> omega
 ·cases hi with
  | none=>simp [sliceBounds,HT.sIx]
  | some i=>
   simp only [sliceBounds,HT.sIx,Option.getD_none,show (1:Int) > 0 by decide,if_true]
   by_cases h:i < 0
   ·simp only [h,if_true] <;> omega
   ·simp only [h,if_false] <;> omega
theorem Zcx (its:List Value) (lo hi:Option Int):slicePick its.toArray lo hi none=((its.drop (HT.sIx its.length 0 lo)).take (HT.sIx its.length its.length hi-HT.sIx its.length 0 lo)).toArray:=by
 obtain ⟨h1,h2,h3⟩:=Zdk lo hi its.toArray.size
 unfold slicePick
 rw [h1,h2,h3]
 simp only [sliceRange_one,pick_run,List.size_toArray] <;> rfl
noncomputable def Zqw (K:Frag):V->Option Int->Option Int->Hp->VK->Prop:=fun x lo hi H Q=>∃ a xs,x=.ref a/\SqL K H a xs/\∀ p,H p=none->Q (.ref p) (upd H p (.lst (ZgO xs lo hi)))
theorem Zlk:SlR X (Zqw X.K):=by
 intro pins s σ H x v vl vu lo hi sl Q I rx hs pl pu h
 obtain ⟨a,xs,rfl,hx,q⟩:=h
 cases rx
 obtain ⟨its,r,ht,hz⟩:=I.list hx
 have hlen:=r.length
 refine ⟨"list",_,slot_list_getitem.lookup,ht.isList.typeIs,?_⟩
 refine wpAny_getItem_list_slice ht.isList hs pl pu .none (by simp) ?_ (by rw [List.size_toArray] <;> omega)
 rw [Zcx,<-hlen]
 refine ⟨.ref s.heap.objs.size,_,I.laid (t':=s.toks) (o:=.lst (ZgO xs lo hi)) (fun b ob q=>Heap.get?_push_of_some _ q) (Nat.le_refl _) ?_,rfl,q _ (I.hok.fresh (Nat.le_refl _))⟩
 exact ⟨Nat.le_trans (Zba xs lo hi) hz,_,0,(r.drop (HT.sIx xs.length 0 lo)).take (HT.sIx xs.length xs.length hi-HT.sIx xs.length 0 lo),Heap.get?_push_size _ rfl⟩
theorem WT:W9 X (.builtin "len") (fun xs H Q=>∃ p ys,xs=[.ref p]/\(SqL X.K H p ys\/SqT X.K H p ys)/\Q (.int ys.length) H):=by
 intro pins s σ H xs us Q I r h
 obtain ⟨p,ys,rfl,hq,q⟩:=h
 obtain ⟨u,rfl,rx⟩:=Zbq r
 cases rx
 have hn:=ZdH
 rcases hq with hq | hq
 ·obtain ⟨its,r',pl,hz⟩:=I.list hq
  have hlen:=r'.length
  exact Calls.call_len_list pl.isList (by simp only [List.size_toArray] <;> omega) ⟨.int ys.length,H,I.tok _,⟨s.toks+1,by rw [List.size_toArray,hlen]⟩,q⟩
 ·obtain ⟨its,r',pl,hz⟩:=I.tuple hq
  have hlen:=r'.length
  exact len_tuple pl (by simp only [List.size_toArray] <;> omega) ⟨.int ys.length,H,I.tok _,⟨s.toks+1,by rw [List.size_toArray,hlen]⟩,q⟩
theorem Zd3:W9 X (.builtin "len") (fun xs H Q=>∃ z,xs=[.str z]/\z.length<=sizeLine/\Q (.int z.length) H):=by
 intro pins s σ H xs us Q I r h
 obtain ⟨z,rfl,hz,q⟩:=h
 obtain ⟨u,rfl,t,rfl⟩:=Zbq r
 have hn:=ZdH
 exact len_str (by omega) ⟨.int z.length,H,I.tok _,⟨_,rfl⟩,q⟩
theorem WS:W9 X (.type "list") (fun xs H Q=>∃ p ys,xs=[.ref p]/\(SqL X.K H p ys\/SqT X.K H p ys)/\∀ l,H l=none->Q (.ref l) (upd H l (.lst ys))):=by
 intro pins s σ H xs us Q I r h
 obtain ⟨p,ys,rfl,hq,q⟩:=h
 obtain ⟨u,rfl,rx⟩:=Zbq r
 cases rx
 have fin:∀ (its:List Value),Vals ys its->ys.length<=sizeLine->∀ (h':Heap) (c':Nat),(∀ b o',s.heap.get? b=some o'->h'.get? b=some o') ->
   h'.get? s.heap.objs.size=some { cls:=.type "list",dict:=none,data:=.seq its.toArray c',slots:=#[] }->EP X pins σ Q (.ref s.heap.objs.size) { s with heap:=h' }:=fun its r' hz h' c' kp e=>
  ⟨.ref s.heap.objs.size,_,I.laid (t':=s.toks) kp (Nat.le_refl _) (show ObjOk X.prog X.w _ h' _ (.lst ys) from ⟨hz,its,c',r',e⟩),rfl,q _ (I.hok.fresh (Nat.le_refl _))⟩
 rcases hq with hq | hq
 ·obtain ⟨its,r',pl,hz⟩:=I.list hq
  have hlen:=r'.length
  obtain ⟨o,ho,hc,n,hd⟩:=pl.isList
  exact call_list_seq p (.inl rfl) ho hc hd (fun h' c' kp e=>fin its r' hz h' c' kp e) (by simp only [List.size_toArray] <;> omega)
 ·obtain ⟨its,r',pl,hz⟩:=I.tuple hq
  have hlen:=r'.length
  obtain ⟨o,ho,hc,n,hd⟩:=pl
  exact call_list_seq p (.inr rfl) ho hc hd (fun h' c' kp e=>fin its r' hz h' c' kp e) (by simp only [List.size_toArray] <;> omega)
theorem V7:W9 X (.type "tuple") (fun xs H Q=>∃ p ys,xs=[.ref p]/\((SqL X.K H p ys/\∀ l,H l=none->Q (.ref l) (upd H l (.tup ys)))\/(SqT X.K H p ys/\Q (.ref p) H))):=by
 intro pins s σ H xs us Q I r h
 obtain ⟨p,ys,rfl,h⟩:=h
 obtain ⟨u,rfl,rx⟩:=Zbq r
 cases rx
 rcases h with ⟨hq,q⟩ | ⟨hq,q⟩
 ·obtain ⟨its,r',pl,hz⟩:=I.list hq
  have hlen:=r'.length
  refine call_tuple_list pl.isList (fun h' kp=>?_) (by simp only [List.size_toArray] <;> omega)
  have I1:Inv X pins σ H { s with heap:=h' }:=I.kept (t':=s.toks) kp
  have I2:Inv X pins σ (upd H h'.objs.size (.tup ys)) { s with heap:=h'.push { cls:=.type "tuple",data:=.seq its.toArray } }:=
   I1.laid (t':=s.toks) (fun b o e=>Heap.get?_push_of_some _ e) (Nat.le_refl _) (show ObjOk X.prog X.w _ _ _ (.tup ys) from ⟨hz,its,r',IsTup.new _ _⟩)
  exact ⟨.ref h'.objs.size,_,I2,rfl,q _ (I1.hok.fresh (Nat.le_refl _))⟩
 ·obtain ⟨its,r',pl,hz⟩:=I.tuple hq
  exact call_tuple_same pl ⟨.ref p,H,I,rfl,q⟩
noncomputable def tyV (K:Frag) (T:String) (x:V) (H:Hp):Prop:=match x with
 | .str _=>T="str"
 | .int _=>T="int"
 | .ref p=>(T="list"/\∃ xs,SqL K H p xs)\/(T="tuple"/\∃ o,K.lookup p=some o/\o.cls=.type "tuple"/\o.dict=none) \/
   (T="dict"/\((∃ kvs,H p=some (.dK kvs))\/∃ kvs,H p=some (.dT kvs)))\/(T="set"/\∃ S n,H p=some (.set S n))
 | _=>False
theorem ZmR {pins:List (Addr×Obj)} {σ:St} {H:Hp} {s:Shared} {T:String} {x:V} {v:Value} (I:Inv X pins σ H s) (r:RelV x v) (ty:tyV X.K T x H) :
  s.TypeIs v T/\∀ a,v=.ref a->∃ ob,s.heap.get? a=some ob/\ob.dict=none:=by
 cases x with
 | str z=>
  obtain ⟨t,rfl⟩:=r
  cases (show T="str" from ty)
  exact ⟨typeIs_str s z t,fun _ e=>nomatch e⟩
 | int i=>
  obtain ⟨t,rfl⟩:=r
  cases (show T="int" from ty)
  exact ⟨typeIs_int s i t,fun _ e=>nomatch e⟩
 | ref p=>
  cases r
  rcases ty with ⟨rfl,xs,hq⟩ | ⟨rfl,o,hk,hc,hd⟩ | ⟨rfl,hk⟩ | ⟨rfl,S,n,hk⟩
  ·obtain ⟨its,_,pl,_⟩:=I.list hq
   refine ⟨pl.isList.typeIs,fun a e=>?_⟩
   cases e
   obtain ⟨o,n,e,c,hd,_⟩:=pl
   exact ⟨o,e,hd⟩
  ·refine ⟨⟨o,I.kIn p o hk,hc⟩,fun a e=>?_⟩
   cases e
   exact ⟨o,I.kIn _ o hk,hd⟩
  ·have z:∃ o,s.heap.get? p=some o/\o.ExactDict:=by
    rcases hk with ⟨kvs,hk⟩ | ⟨kvs,hk⟩
    ·obtain ⟨_,_,_,_,o,_,_,e,ex,_⟩:=I.hok p _ hk
     exact ⟨o,e,ex⟩
    ·obtain ⟨_,_,_,_,o,_,_,e,ex,_⟩:=I.hok p _ hk
     exact ⟨o,e,ex⟩
   obtain ⟨o,e,ex⟩:=z
   refine ⟨⟨o,e,ex.1⟩,fun a e2=>?_⟩
   cases e2
   exact ⟨o,e,ex.2.1⟩
  ·obtain ⟨o,_,_,_,e,ex,_⟩:=I.hok p _ hk
   refine ⟨⟨o,e,ex.1⟩,fun a e2=>?_⟩
   cases e2
   exact ⟨o,e,ex.2.1⟩
 | _=>exact False.elim ty
noncomputable def tBM (K:Frag) (T:String) (r:V->List V->Hp->VK->Prop) (to:TE) (t:TA):TE:=fun σ H Q=>to σ H fun x H1=>tyV K T x H1/\t σ H1 fun xs H2=>r x xs H2 Q
variable {o e:Expr} {es:List Expr} {to:TE} {t:TA} {name:Str} {apos cpos:Pos} {T id:String} {r:V->List V->Hp->VK->Prop}
theorem ZjB (pa:PlainAttrs T) (slot:Slot T name id) (hty:typeOf (.builtin id)=pure (.type "method_descriptor")) (hm:MtR X id r) (ho:PE X o to) (ha:PA X (e::es) t)
  (hbase:attributeBase o name X.env (eval o X.env)=eval o X.env:=by rfl)
  (hfew:((backTo cpos (starEach (e::es) X.env)).all (fun x=>!x.1)&&(backToKw cpos (keywordEach [] X.env)).all (fun x=>x.1.isSome)
   && decide ((e::es).length+([]:List Keyword).length+(if ([]:List Keyword).isEmpty then 0 else 1) < 30))=true:=by rfl)
  (hline:(apos.endLine==cpos.line)=true:=by rfl) (hs:starEach (e::es) X.env=(false,eval e X.env)::starEach es X.env:=by rfl) (hplain:(backTo cpos (starEach es X.env)).any (·.1)=false:=by rfl) :
  PE X (.Call (.Attribute o name apos) (e::es) [] cpos) (tBM X.K T r to t):=by
 intro pins s σ H Q I h
 refine wpAny_Call_method_late hbase hfew hline rfl (thn (ho pins s σ H _ I h) fun v s1 zq=>?_)
 obtain ⟨x,H1,I1,r1,ty,q1⟩:=zq
 obtain ⟨h1,h2⟩:=ZmR I1 r1 ty
 refine ⟨T,id,pa,slot,hty,h1,h2,?_⟩
 have hA:=ha cpos pins s1 σ H1 _ I1 q1
 rw [hs] at hA ⊢
 refine Calls.callWith_builtin (by show (false||(backTo cpos (starEach es X.env)).any (·.1))=false; rw [hplain] <;> rfl) (Calls.evalArgs_plain ?_)
 exact thn hA fun us s2 ⟨vs,H2,I2,r2,q2⟩=>hm pins s2 σ H2 x vs v us Q I2 r1 r2 q2
end
noncomputable def MtM (X:Cx) (id:String) (r:V->List V->Hp->VK->Prop):Prop:=
 ∀ (pins:List (Addr×Obj)) (s:Shared) (σ:St) (H:Hp) (x:V) (xs:List V) (v:Value) (us:List Value) (Q:VK),Inv X pins σ H s->RelV x v->Vals xs us->r x xs H Q ->
  wpAny (model X.prog X.w) X.A (call (.builtin id) (v::us)) (EP X pins σ Q) X.xe s
theorem Vals.one:∀ {x:V} {us:List Value},Vals [x] us->∃ u,us=[u]/\RelV x u
 | _,_,.cons r .nil=>⟨_,rfl,r⟩
theorem Vals.reverse {xs:List V} {us:List Value} (h:Vals xs us):Vals xs.reverse us.reverse:=by
 induction h with
 | nil=>exact .nil
 | cons r t ih=>rw [List.reverse_cons,List.reverse_cons]; exact Vals.append ih (.cons r .nil)
section
variable {X:Cx} {pins:List (Addr×Obj)} {σ:St} {H:Hp} {s:Shared} {l b:Addr} {xs ys zs:List V}
theorem Inv.lset {its its':List Value} {n:Nat} {f:Array Value->Array Value} {t':Nat} (I:Inv X pins σ H s) (hH:H l=some (.lst xs))
  (e:s.heap.get? l=some { cls:=.type "list",data:=.seq its.toArray n }) (hf:f its.toArray=its'.toArray) (hv:Vals ys its') (hz:ys.length<=sizeLine) :
  Inv X pins σ (upd H l (.lst ys)) { s with heap:=s.heap.update l (Obj.mapSeq f),toks:=t' }:=by
 have q:=PySem.IsL.update e f
 rw [hf] at q
 refine I.write (x:=l) (e:=l) (by rw [hH]; exact trivial) (.inl rfl) (fun b' u hb hu=>(Heap.get?_update_other s.heap (Obj.mapSeq f) (Ne.symm hb)).trans hu) ⟨_,q⟩ ?_
 exact ⟨hz,its',_,hv,q⟩
theorem Inv.lnew {its:List Value} {t':Nat} (I:Inv X pins σ H s) (hv:Vals ys its) (hz:ys.length<=sizeLine) :
  Inv X pins σ (upd H s.heap.objs.size (.lst ys)) { s with heap:=s.heap.push { cls:=.type "list",data:=.seq its.toArray },toks:=t' }:=
 I.laid (fun _ _ q=>Heap.get?_push_of_some _ q) (Nat.le_refl _) ⟨hz,its,0,hv,Heap.get?_push_size _ rfl⟩
theorem Inv.fresh (I:Inv X pins σ H s):H s.heap.objs.size=none:=I.hok.fresh (Nat.le_refl _)
theorem Inv.lstM (I:Inv X pins σ H s) (hH:H l=some (.lst xs)):xs.length<=sizeLine/\∃ (its:List Value) (n:Nat),Vals xs its/\xs.length=its.length/\s.heap.get? l=some { cls:=.type "list",data:=.seq its.toArray n }:=by
 obtain ⟨z,its,n,r,e⟩:=I.hok l _ hH
 exact ⟨z,its,n,r,r.length,e⟩
end
section
variable {X:Cx}
noncomputable def Zlu:V->List V->Hp->VK->Prop:=fun x vs H Q=>∃ l xs y,x=.ref l/\vs=[y]/\H l=some (.lst xs)/\xs.length < sizeLine/\Q .non (upd H l (.lst (xs++[y])))
theorem ZaR:MtM X "list.append" Zlu:=by
 intro pins s σ H x vs v us Q I rx rv h
 obtain ⟨l,xs,y,rfl,rfl,hH,hz,q⟩:=h
 cases rx
 obtain ⟨u,rfl,ru⟩:=rv.one
 obtain ⟨z,its,n,r,hl,e⟩:=I.lstM hH
 refine call_meets F.slot_list_append ⟨_,e,rfl⟩ F.entry_list_append (F.args_list_append_2 _ _) (PySem.list_append l its.toArray n u (by rw [List.size_toArray]; omega)) ⟨e,?_⟩
 refine ⟨.non,_,I.lset (its':=its++[u]) hH e (by simp) (r.append (.cons ru .nil)) ?_,rfl,q⟩
 rw [List.length_append,List.length_singleton]
 omega
end
section
variable {prog:Program} {w:World} {A:Around} {E:Value->Shared->Prop} {s:Shared}
end
section
variable {X:Cx}
end
end L2
namespace Att
open PySem PySem.W PySem.Calls PyProof.Rows
theorem ZaU {P:Params} {h:Heap}:∀ (ns:List Int) (vs:List Value),WellAll P h vs (ns.map WData.int)->IntsAre vs ns:=by
 intro ns
 induction ns with
 | nil=>
  intro vs w
  rw [List.map_nil] at w
  cases w
  exact .nil
 | cons n ns ih=>
  intro vs w
  rw [List.map_cons] at w
  cases w with
  | cons a b=>
   cases a
   exact .cons _ _ (ih _ b)
theorem Zhh {l:OpenLaw} {n:Nat} (hn:l.most=some n) {P:Params} {h:Heap} {args:List WData} {vals:List Value}
  (hpre:l.row.toRowW.claim.pre args=true) (hwl:WellAll P h vals args) :
  ∃ a vs ns,vals=[Value.ref a]/\args=[WData.list (ns.map WData.int)]/\h.get? a=some { cls:=.type "list",data:=.seq vs.toArray }/\IntsAre vs ns/\ns.length<=n:=by
 have hsh:WShape.hasAll [] args [.list .int]=true:=(pre_splitW hpre).1
 have hc:l.pre.holds [] { args:=args }=true:=(pre_splitW hpre).2
 obtain ⟨d,r,rfl,h1,h2⟩:=hasAllW_cons hsh
 obtain rfl:=hasAllW_nil h2
 obtain ⟨xs,rfl,h3⟩:=hasW_list h1
 obtain ⟨ns,rfl⟩:=items_int h3
 have hlen:ns.length<=n:=by
  unfold OpenLaw.pre at hc
  have h4:(WTm.not (.lt (.lit (.int (n:Int))) (.len (.arg 0)))).holds [] { args:=[.list (ns.map .int)] }=true:=by
   have h4:=(holds_andW hc).1
   rw [hn] at h4
   exact h4
  have h5:=condW_of h4 (w_not (w_lt w_lit (w_len_list (w_arg rfl))))
  rw [List.length_map] at h5
  refine Nat.le_of_not_lt fun q=>?_
  have q':(n:Int) < ((ns.length:Nat):Int):=by omega
  first
   | (rw [decide_eq_true q'] at h5; exact absurd h5 (by decide))
   | (simp at h5; omega)
 cases hwl with
 | cons w1 w2=>
  cases w2
  cases w1 with
  | list ho hall=>exact ⟨_,_,ns,rfl,rfl,ho,ZaU ns _ hall,hlen⟩
theorem Zhr (l:OpenLaw) (args:List WData):l.row.toRowW.claim.post args (.bool true) args=true:=
 postW_of (r:=l.row.toRowW) (X:=(true==true))
  (show WShape.has [] (.bool true) .bool=true by first | rfl | decide | simp [WShape.has,WShape.arms,WShape.armsAll])
  (show (WTm.eq .res (.lit (.bool true))).value [] { args:=args,res:=some (.bool true),after:=args }=some (.bool (true==true)) from w_eq_bool (w_res rfl) w_lit) rfl
theorem attach_call {l:OpenLaw} {n:Nat} {q:Program} {loose:List Str} {XP:(Str->Option Value)->Heap->Prop} {YP:World->Heap->Prop} {d:DefRec}
  (hn:l.most=some n) (hdf:d.params.defaults=[])
  (call:∀ (w:World) (s₀ s₁:Shared) (mg mb:Str->Option Value) (fa:Addr) (o:Obj) (pm cd doc:Value) (a:Addr) (vs:List Value) (ns:List Int),
   Ground q loose [] XP w s₀ mg mb s₁.heap->YP w s₁.heap ->
   s₁.heap.get? fa=some o->o.data=.func (docDef d.name d.params d.body d.scope pm cd doc)->s₁.heap.CodeRec cd d.name->mg d.name=some (.ref fa) ->
   s₁.heap.get? a=some { cls:=.type "list",data:=.seq vs.toArray }->IntsAre vs ns->ns.length<=n->s₁.gens=#[] ->
   codeAny (model l.prog w) callerA (.call (.ref fa) ⟨[.ref a],[]⟩) (fun r s'=>r=.ok (.ret (.bool true))/\OldK s₁.heap s'.heap/\s'.os=s₁.os/\AllBare s'.gens) s₁) :
  WalkO q loose XP YP l.row.toRowW d [] (fun f vs=>PySem.call f vs):=by
 intro w s₀ s₁ mg mb G Y fa o pm cd doc dV kV ho hd hcd hD hmg hg args vals as hpre hlay hrd hwl hlo
 obtain rfl:dV=.none:=Dflts.none hD hdf
 obtain rfl:kV=.none:=Dflts.noKw hD
 obtain ⟨a,vs,ns,rfl,rfl,hobj,hints,hlen⟩:=Zhh hn hpre hwl
 refine enter_call (codeAny_mono (call w s₀ s₁ mg mb fa o pm cd doc a vs ns G Y ho (fd_plain hd) hcd hmg hobj hints hlen hg) fun r s' hq=>?_)
 obtain ⟨rfl,h2,h3,h4⟩:=hq
 exact ⟨.inl ⟨.bool true,.bool true,[],rfl,fun _=>rfl,.bool true,Zhr l _,fun _=>⟨List.Pairwise.nil,fun _ hm=>(nomatch hm)⟩⟩,h2,h3,h4⟩
section
variable {prog:Program} {w:World} {A:Around} {E:Value->Shared->Prop} {s:Shared} {K:Frag}
end
end Att
namespace L2
open PySem PySem.Spec PyProof.Rows
theorem Zdg:∀ {vs:List Value} {ns:List Int},IntsAre vs ns->Vals (ns.map V.int) vs
 | _,_,.nil=>.nil
 | _,_,.cons n t h=>.cons ⟨t,rfl⟩ (Zdg h)
noncomputable def ZpK (H:Hp):Prop:=∀ b,H b=none\/∃ o xs,H b=some (.frz o (.lst xs))
theorem ZjO {P:Program} {w:World} {K:Frag} {mg mb:Str->Option Value} {CX:CXT} {k:Nat} {fa a:Addr} {fd:FuncData} {x:Str} {sp:Sp} {s₁:Shared} {vs:List Value} {ns:List Int}
  (KX:K.In s₁.heap) (hns:s₁.heap.Ns mainGlobals mg) (hb:s₁.heap.Ns builtinsNs mb) (hbb:∀ x:Str,x≠"__name__"->mb x=bootBuiltins x) (hlim:s₁.heap.NoLimit) (hg:s₁.gens=#[])
  (ha:s₁.heap.get? a=some { cls:=.type "list",data:=.seq vs.toArray }) (hi:IntsAre vs ns) (hl:ns.length<=sizeLine) (hr:Room k callerA)
  (F:∀ base:Heap,K.In base->base.Ns mainGlobals mg->Zfd P w K mg base CX k fa fd [x] sp) (hbind:∀ (s:Shared) (u:Value),BindsTo s fd ⟨[u],[]⟩ [(x,u)])
  (hsp:∀ H:Hp,ZpK H->SqL K H a (ns.map V.int)->sp [.ref a] H (fun v _=>v=.bl true) fun _ _ _=>False)
  (hCX:∀ H e s',CX [] H s₁ (fun _ _ _=>False) e s'->False) :
  codeAny (model P w) callerA (.call (.ref fa) ⟨[.ref a],[]⟩) (fun r s'=>r=.ok (.ret (.bool true))/\OldK s₁.heap s'.heap/\s'.os=s₁.os/\AllBare s'.gens) s₁:=by
 have rv:=Zdg hi
 have lenV:=hi.length
 have core:∀ H:Hp,ZpK H->SqL K H a (ns.map V.int)->HOk P w H s₁.heap->(∀ b,H b≠none->b=a)->(H a≠none->K.lookup a=none) ->
   codeAny (model P w) callerA (.call (.ref fa) ⟨[.ref a],[]⟩) (fun r s'=>r=.ok (.ret (.bool true))/\OldK s₁.heap s'.heap/\s'.os=s₁.os/\AllBare s'.gens) s₁:=by
  intro H hO hS hok hA hK
  have base_of:∀ {b:Addr} {o:Obj},s₁.heap.get? b=some o->H b=none->(ZjX s₁.heap H).get? b=some o:=fun e n=>ZjW e n
  have noA:∀ {b:Addr} {o:Obj} {es:Array DictEntry} {ep:Nat},s₁.heap.get? b=some o->o.data=.dict es ep->H b=none:=fun {b o es ep} e d=>by
   cases q:H b with
   | none=>rfl
   | some u=>
    have e':b=a:=hA b (by rw [q]; simp)
    subst e'
    rw [ha] at e; cases e
    have d':Data.seq vs.toArray _=Data.dict es ep:=d
    cases d'
  have nsK:∀ {b:Addr} {m:Str->Option Value},s₁.heap.Ns b m->(ZjX s₁.heap H).Ns b m:=fun {b m} ⟨o,es,ep,e,d,r⟩=>⟨o,es,ep,base_of e (noA e d),d,r⟩
  have hKb:K.In (ZjX s₁.heap H):=fun b o e=>base_of (KX b o e) (by
   cases q:H b with
   | none=>rfl
   | some u=>
    have e':b=a:=hA b (by rw [q]; simp)
    subst e'
    rw [hK (by rw [q]; simp)] at e; cases e)
  have hM:Mod K mg (ZjX s₁.heap H):=⟨hKb,nsK hns,⟨mb,nsK hb,hbb⟩,let ⟨mc,h1,h2⟩:=hlim; ⟨mc,nsK h1,h2⟩⟩
  have e0:ZoO P w K mg (ZjX s₁.heap H) callerA [] s₁ H:=⟨rfl,hM,fun b o e=>ZlQ e,Nat.le_of_eq (Zid _ _),trivial,fun b hb=>absurd (show b∈([]:List Addr) from hb) (by simp),hok,.of_eq hg⟩
  refine codeAny_mono ((F _ hKb (nsK hns)).run callerA [] s₁ H ⟨[.ref a],[]⟩ [.ref a] [.ref a] _ _ hr e0 (hbind s₁ (.ref a)) (.cons rfl .nil) (hsp H hO hS)) fun r s' h=>?_
  cases r with
  | error e=>exact (hCX H e s' h).elim
  | ok fl=>
   cases fl with
   | next=>exact False.elim h
   | brk=>exact False.elim h
   | cont=>exact False.elim h
   | ret u=>
    obtain ⟨v,H',os,bare,un,hok',r',q⟩:=h
    have q':v=.bl true:=q
    subst q'
    obtain rfl:u=Value.bool true:=r'
    refine ⟨rfl,OldK.of_keep fun b o e=>?_,os,bare⟩
    cases q:H b with
    | none=>exact un.keep b o e q (by intro z; exact absurd (show b∈([]:List Addr) from z) (by simp)) (by simp)
    | some u=>
     rcases hO b with z | ⟨ob,xs,z⟩
     ·rw [q] at z; cases z
     ·have z2:=un.frzs b ob _ z
      obtain ⟨e1,_⟩:=hok b _ z
      obtain ⟨e2,_⟩:=hok' b _ z2
      rw [e] at e1; cases e1
      exact e2
 cases hk:K.lookup a with
 | some o=>
  have e:=KX a o hk
  rw [ha] at e
  cases e
  refine core (fun _=>none) (fun _=>.inl rfl) (.inr ⟨_,vs.toArray,_,hk,rfl,rfl,rfl,by rw [List.size_toArray,lenV]; exact hl,by simpa using rv⟩) (fun b u z=>by have z':(none:Option HO)=some u:=z; cases z') (fun b z=>absurd rfl z) fun z=>absurd rfl z
 | none=>
  refine core (fun b=>if b=a then some (.frz { cls:=.type "list",data:=.seq vs.toArray } (.lst (ns.map V.int))) else none) (fun b=>?_) (.inl (.inr ⟨{ cls:=.type "list",data:=.seq vs.toArray },if_pos rfl⟩)) (fun b u z=>?_) (fun b z=>?_) fun _=>hk
  ·by_cases hb:b=a
   ·exact .inr ⟨_,_,if_pos hb⟩
   ·exact .inl (if_neg hb)
  ·by_cases hb:b=a
   ·have z':=(if_pos hb).symm.trans z
    cases z'
    subst hb
    exact ⟨ha,by rw [List.length_map]; exact hl,vs,_,rv,ha⟩
   ·have z':=(if_neg hb).symm.trans z
    cases z'
  ·by_cases hb:b=a
   ·exact hb
   ·exact absurd (if_neg hb) z
theorem walk_of {l:PySem.W.OpenLaw} {n k:Nat} {q:Program} {loose:List Str} {XP:(Str->Option Value)->Heap->Prop} {YP:World->Heap->Prop} {d:DefRec} {K:Params->Frag} {CX:World->CXT} {sp:World->Sp} {x:Str}
  (hn:l.most=some n) (hn2:n<=sizeLine) (hdf:d.params.defaults=[]) (hr:Room k callerA)
  (hY:∀ (w:World) (h:Heap),YP w h->(K w.params).In h)
  (F:∀ (w:World) (mg:Str->Option Value) (fa:Addr) (h:Heap),(K w.params).In h->h.Ns mainGlobals mg->mg d.name=some (.ref fa) ->
   ∃ fd:FuncData,(∀ (s:Shared) (u:Value),BindsTo s fd ⟨[u],[]⟩ [(x,u)]) /\
    ∀ base:Heap,(K w.params).In base->base.Ns mainGlobals mg->Zfd l.prog w (K w.params) mg base (CX w) k fa fd [x] (sp w))
  (hsp:∀ (w:World) (H:Hp) (a:Addr) (ns:List Int),ns.length<=n->ZpK H->SqL (K w.params) H a (ns.map V.int)->sp w [.ref a] H (fun v _=>v=.bl true) fun _ _ _=>False)
  (hCX:∀ (w:World) (H:Hp) (s:Shared) (e:Value) (s':Shared),CX w [] H s (fun _ _ _=>False) e s'->False) :
  PySem.W.WalkO q loose XP YP l.row.toRowW d [] (fun f vs=>PySem.call f vs):=by
 refine Att.attach_call hn hdf fun w s₀ s₁ mg mb fa o pm cd doc a vs ns G Y ho hd hcd hmg hobj hints hlen hg=>?_
 have KX:=hY w _ Y
 obtain ⟨fd,hb,hF⟩:=F w mg fa _ KX G.T.g hmg
 exact ZjO KX G.T.g G.T.b G.T.builtins G.T.nolimit hg hobj hints (Nat.le_trans hlen hn2) hr hF hb (fun H hO hS=>hsp w H a ns hlen hO hS) fun H e s'=>hCX w H s₁ e s'
noncomputable def VD (s:Stmt):Arguments:=match s with
 | .FunctionDef _ a _ _ _ _ _ _ _ _=>a
 | _=>{ posonlyargs:=[],args:=[],vararg:=none,kwonlyargs:=[],kw_defaults:=[],kwarg:=none,defaults:=[] }
noncomputable def Q7 (s:Stmt):List Stmt:=match s with
 | .FunctionDef _ _ b _ _ _ _ _ _ _=>b
 | _=>[]
noncomputable def Zi (s:Stmt):Scope:=match s with
 | .FunctionDef _ _ _ _ _ _ sc _ _ _=>sc
 | _=>{ kind:=.function,names:=[],isGenerator:=false,isCoroutine:=false }
noncomputable abbrev CX0:CXT:=fun _ _ _ _ _ _=>False
noncomputable abbrev E0:XK:=fun _ _ _=>False
theorem Zpc {X:Cx}:JS CX0 X E0:=fun _ _ _ _ _ _ _ h=>h.elim
structure Fun (K:Frag) (x qual:Str) (st:Stmt) (f:Addr) (fd:FuncData):Prop where
 ex:∃ (oc:Value) (od:Option Addr) (kV doc pm:Value) (an:Option Addr) (cdv ct:Value) (osl:Array (Option Value)),
  fd=fnOf x qual (VD st) (Q7 st) (Zi st) .none kV doc pm an cdv ct/\K.lookup f=some ⟨oc,od,.func fd,osl⟩/\PySem.W.codeIn K cdv qual=true
 kp:keepIn K (.ref f)=true
section
variable {P:Program} {w:World} {K:Frag} {mg:Str->Option Value} {base:Heap}
theorem Fun.ok {x qual:Str} {st:Stmt} {f:Addr} {fd:FuncData} {N ps:List Str} {k:Nat} {sp:Sp} (F:Fun K x qual st f fd) (S:Zt N ps (Zi st)) (len:∀ vs H Q E,sp vs H Q E->vs.length=ps.length)
  (hbody:∀ (cdv:Value) (A:Around) (outer:List Env) (s:Shared) (H:Hp) (vs:List V) (Q:VK) (E:XK),Room k (A.deeper (envOfC qual (Zi st) s.heap.objs.size f cdv))->sp vs H Q E ->
   ∃ t,PSs (ZfR CX0 P w K mg base N qual (Zi st) f cdv A outer s H E).nox (Q7 st) t/\t { nx:=fun _ H'=>Q .non H',rt:=Q } (start N vs) H):Zfd P w K mg base CX0 (k+1) f fd ps sp:=by
 obtain ⟨oc,od,kV,doc,pm,an,cdv,ct,osl,rfl,lk,hcd⟩:=F.ex
 refine Zof lk hcd S len fun A outer s H vs Q E hr hsp=>?_
 obtain ⟨t,h,q⟩:=hbody cdv A outer s H vs Q E hr hsp
 exact ⟨t,h.nox,q⟩
theorem Fun.binds {x qual:Str} {st:Stmt} {f:Addr} {fd:FuncData} {ps:List Str} (F:Fun K x qual st f fd)
  (h:∀ (kV doc pm:Value) (an:Option Addr) (cdv ct:Value) (us:List Value),us.length=ps.length->bindArgs (fnOf x qual (VD st) (Q7 st) (Zi st) .none kV doc pm an cdv ct) ⟨us,[]⟩=pure (ps.zip us)):Binds K fd ps []:=by
 obtain ⟨oc,od,kV,doc,pm,an,cdv,ct,osl,rfl,lk,hcd⟩:=F.ex
 exact .all (h kV doc pm an cdv ct)
theorem Zoc {x qual:Str} {st:Stmt} {f:Addr} {oc:Value} {od an:Option Addr} {osl:Array (Option Value)} {kV doc pm cdv ct:Value} (l:K.lookup f=some ⟨oc,od,.func (fnOf x qual (VD st) (Q7 st) (Zi st) .none kV doc pm an cdv ct),osl⟩)
  (c:PySem.W.codeIn K cdv qual=true) (k:keepIn K (.ref f)=true):Fun K x qual st f (fnOf x qual (VD st) (Q7 st) (Zi st) .none kV doc pm an cdv ct):=⟨⟨oc,od,kV,doc,pm,an,cdv,ct,osl,rfl,l,c⟩,k⟩
end
section
variable {X:Cx}
theorem pv (i:Nat) {x:Str} {pos:Pos} (hN:X.N[i]?=some x:=by rfl) (hv:Vis X.env.scope x:=by first | exact Or.inl rfl | exact Or.inr (Or.inl rfl) | exact Or.inr (Or.inr rfl)) (hd:(x==("__debug__":Str))=false:=by decide)
  (hcd:(x==("__classdict__":Str))=false:=by decide):PE X (.Name x pos) (ZoE i):=Znt hN hv hd hcd
end
theorem Zp3 {A B:Prop} (h:B):if false=true then A else B:=by
 rw [if_neg Bool.false_ne_true]
 exact h
theorem Zpo {A B:Prop} (h:A):if true=true then A else B:=by
 rw [if_pos rfl]
 exact h
noncomputable def Same (H H':Hp):Prop:=∀ b o,H b=some o->H' b=some o
theorem Same.refl (H:Hp):Same H H:=fun _ _ h=>h
theorem Same.trans {H H1 H2:Hp} (a:Same H H1) (b:Same H1 H2):Same H H2:=fun c o h=>b c o (a c o h)
theorem Same.free {H H':Hp} (e:Same H H') {l:Addr} (h:H' l=Option.none):H l=Option.none:=by
 cases q:H l with
 | none=>rfl
 | some o=>
  rw [e l o q] at h
  cases h
theorem Same.seq {K:Frag} {H H':Hp} {a:Addr} {xs:List V} (e:Same H H') (h:SqL K H a xs):SqL K H' a xs:=by
 rcases h with (h | ⟨o,h⟩) | h
 ·exact .inl (.inl (e _ _ h))
 ·exact .inl (.inr ⟨o,e _ _ h⟩)
 ·exact .inr h
end L2
namespace L3
open PySem PySem.Spec PyProof.Rows L2
inductive D where
 | non | bl (b:Bool) | int (i:Int) | str (x:Str) | tup (xs:List D) | lst (xs:List D)
 deriving Inhabited
noncomputable abbrev Fz:=Addr->Prop
mutual
noncomputable def Rep (K:Frag) (F:Fz) (H:Hp):D->V->Prop
 | .non,v=>v=.non
 | .bl b,v=>v=.bl b
 | .int i,v=>v=.int i
 | .str x,v=>v=.str x
 | .tup ds,v=>∃ a xs,v=.ref a/\SqT K H a xs/\RepL K F H ds xs
 | .lst ds,v=>∃ a xs,v=.ref a/\F a/\SqL K H a xs/\RepL K F H ds xs
noncomputable def RepL (K:Frag) (F:Fz) (H:Hp):List D->List V->Prop
 | [],xs=>xs=[]
 | d::ds,xs=>∃ y ys,xs=y::ys/\Rep K F H d y/\RepL K F H ds ys
end
structure Ext (K:Frag) (F:Fz) (H:Hp) (F':Fz) (H':Hp):Prop where
 sub:∀ a,F a->F' a
 ls:∀ a xs,F a->SqL K H a xs->SqL K H' a xs
 ts:∀ a xs,SqT K H a xs->SqT K H' a xs
theorem Ext.refl {K:Frag} {F:Fz} {H:Hp}:Ext K F H F H:=⟨fun _ h=>h,fun _ _ _ h=>h,fun _ _ h=>h⟩
theorem Ext.trans {K:Frag} {F F1 F2:Fz} {H H1 H2:Hp} (a:Ext K F H F1 H1) (b:Ext K F1 H1 F2 H2):Ext K F H F2 H2:=
 ⟨fun x h=>b.sub x (a.sub x h),fun x xs hf h=>b.ls x xs (a.sub x hf) (a.ls x xs hf h),fun x xs h=>b.ts x xs (a.ts x xs h)⟩
mutual
theorem Rep.ext {K:Frag} {F F':Fz} {H H':Hp} (e:Ext K F H F' H'):∀ {d:D} {v:V},Rep K F H d v->Rep K F' H' d v
 | .non,_,h=>h
 | .bl _,_,h=>h
 | .int _,_,h=>h
 | .str _,_,h=>h
 | .tup ds,_,h=>by
  unfold Rep at h ⊢
  obtain ⟨a,xs,rfl,ht,hr⟩:=h
  exact ⟨a,xs,rfl,e.ts a xs ht,RepL.ext e hr⟩
 | .lst ds,_,h=>by
  unfold Rep at h ⊢
  obtain ⟨a,xs,rfl,hf,hl,hr⟩:=h
  exact ⟨a,xs,rfl,e.sub a hf,e.ls a xs hf hl,RepL.ext e hr⟩
theorem RepL.ext {K:Frag} {F F':Fz} {H H':Hp} (e:Ext K F H F' H'):∀ {ds:List D} {vs:List V},RepL K F H ds vs->RepL K F' H' ds vs
 | [],_,h=>h
 | d::ds,_,h=>by
  unfold RepL at h ⊢
  obtain ⟨y,ys,rfl,h1,h2⟩:=h
  exact ⟨y,ys,rfl,Rep.ext e h1,RepL.ext e h2⟩
end
theorem RepL.length {K:Frag} {F:Fz} {H:Hp}:∀ {ds:List D} {vs:List V},RepL K F H ds vs->ds.length=vs.length
 | [],_,h=>by unfold RepL at h; subst h; rfl
 | d::ds,_,h=>by
  unfold RepL at h
  obtain ⟨y,ys,rfl,_,h2⟩:=h
  simp [RepL.length h2]
theorem RepL.nil {K:Frag} {F:Fz} {H:Hp}:RepL K F H [] []:=by unfold RepL; rfl
theorem RepL.cons {K:Frag} {F:Fz} {H:Hp} {d:D} {ds:List D} {v:V} {vs:List V} (h1:Rep K F H d v) (h2:RepL K F H ds vs):RepL K F H (d::ds) (v::vs):=by
 unfold RepL; exact ⟨v,vs,rfl,h1,h2⟩
theorem RepL.uncons {K:Frag} {F:Fz} {H:Hp} {d:D} {ds:List D} {vs:List V} (h:RepL K F H (d::ds) vs):∃ y ys,vs=y::ys/\Rep K F H d y/\RepL K F H ds ys:=by
 unfold RepL at h; exact h
theorem RepL.unnil {K:Frag} {F:Fz} {H:Hp} {vs:List V} (h:RepL K F H [] vs):vs=[]:=by unfold RepL at h; exact h
theorem RepL.get {K:Frag} {F:Fz} {H:Hp}:∀ {ds:List D} {vs:List V} {i:Nat} {d:D},RepL K F H ds vs->ds[i]?=some d->∃ v,vs[i]?=some v/\Rep K F H d v
 | [],_,_,_,_,e=>by simp at e
 | d::ds,_,0,d',h,e=>by
  obtain ⟨y,ys,rfl,h1,_⟩:=h.uncons
  simp at e; subst e
  exact ⟨y,rfl,h1⟩
 | d::ds,_,i+1,d',h,e=>by
  obtain ⟨y,ys,rfl,_,h2⟩:=h.uncons
  obtain ⟨v,e1,r⟩:=RepL.get (i:=i) h2 (by simpa using e)
  exact ⟨v,by simpa using e1,r⟩
theorem RepL.append {K:Frag} {F:Fz} {H:Hp}:∀ {ds es:List D} {vs ws:List V},RepL K F H ds vs->RepL K F H es ws->RepL K F H (ds++es) (vs++ws)
 | [],_,_,_,h,h'=>by rw [h.unnil]; exact h'
 | d::ds,es,_,ws,h,h'=>by
  obtain ⟨y,ys,rfl,h1,h2⟩:=h.uncons
  exact .cons h1 (RepL.append h2 h')
theorem RepL.take {K:Frag} {F:Fz} {H:Hp}:∀ {ds:List D} {vs:List V} (n:Nat),RepL K F H ds vs->RepL K F H (ds.take n) (vs.take n)
 | _,_,0,_=>by simp; exact .nil
 | [],_,_+1,h=>by rw [h.unnil]; simp; exact .nil
 | d::ds,_,n+1,h=>by
  obtain ⟨y,ys,rfl,h1,h2⟩:=h.uncons
  exact .cons h1 (RepL.take n h2)
theorem RepL.drop {K:Frag} {F:Fz} {H:Hp}:∀ {ds:List D} {vs:List V} (n:Nat),RepL K F H ds vs->RepL K F H (ds.drop n) (vs.drop n)
 | _,_,0,h=>h
 | [],_,_+1,h=>by rw [h.unnil]; simp; exact .nil
 | d::ds,_,n+1,h=>by
  obtain ⟨y,ys,rfl,h1,h2⟩:=h.uncons
  exact RepL.drop n h2
theorem RepL.reverse {K:Frag} {F:Fz} {H:Hp}:∀ {ds:List D} {vs:List V},RepL K F H ds vs->RepL K F H ds.reverse vs.reverse
 | [],_,h=>by rw [h.unnil]; exact .nil
 | d::ds,_,h=>by
  obtain ⟨y,ys,rfl,h1,h2⟩:=h.uncons
  rw [List.reverse_cons,List.reverse_cons]
  exact (RepL.reverse h2).append (.cons h1 .nil)
structure Grow (F:Fz) (H:Hp) (F':Fz) (H':Hp):Prop where
 same:Same H H'
 sub:∀ a,F a->F' a
 new:∀ a,F' a->F a\/(H a=none/\H' a≠none)
theorem Grow.refl {F:Fz} {H:Hp}:Grow F H F H:=⟨Same.refl H,fun _ h=>h,fun _ h=>.inl h⟩
theorem Same.tup {K:Frag} {H H':Hp} {a:Addr} {xs:List V} (e:Same H H') (h:SqT K H a xs):SqT K H' a xs:=by
 rcases h with (h | ⟨o,h⟩) | h
 ·exact .inl (.inl (e _ _ h))
 ·exact .inl (.inr ⟨o,e _ _ h⟩)
 ·exact .inr h
theorem Grow.ext {K:Frag} {F F':Fz} {H H':Hp} (g:Grow F H F' H'):Ext K F H F' H':=⟨g.sub,fun _ _ _ h=>g.same.seq h,fun _ _ h=>Same.tup g.same h⟩
theorem Grow.trans {F F1 F2:Fz} {H H1 H2:Hp} (a:Grow F H F1 H1) (b:Grow F1 H1 F2 H2):Grow F H F2 H2:=
 ⟨a.same.trans b.same,fun x h=>b.sub x (a.sub x h),fun x h=>(b.new x h).elim (fun z=>(a.new x z).elim .inl fun ⟨z1,z2⟩=>.inr ⟨z1,fun z3=>z2 (b.same.free z3)⟩) fun ⟨z1,z2⟩=>.inr ⟨a.same.free z1,z2⟩⟩
theorem Grow.laid {F:Fz} {H:Hp} {p:Addr} {o:HO} (h:H p=none):Grow F H (fun a=>F a\/a=p) (upd H p o):=
 ⟨fun b u q=>by rw [ZU (ZR q h)]; exact q,fun a z=>.inl z,fun a z=>z.elim .inl fun e=>.inr (by rw [e,ZZ]; exact ⟨h,by simp⟩)⟩
theorem Grow.laid0 {F:Fz} {H:Hp} {p:Addr} {o:HO} (h:H p=none):Grow F H F (upd H p o):=
 ⟨fun b u q=>by rw [ZU (ZR q h)]; exact q,fun a z=>z,fun a z=>.inl z⟩
theorem Rep.grow {K:Frag} {F F':Fz} {H H':Hp} {d:D} {v:V} (h:Rep K F H d v) (g:Grow F H F' H'):Rep K F' H' d v:=Rep.ext g.ext h
theorem RepL.grow {K:Frag} {F F':Fz} {H H':Hp} {d:List D} {v:List V} (h:RepL K F H d v) (g:Grow F H F' H'):RepL K F' H' d v:=RepL.ext g.ext h
inductive Sl where
 | no | val (d:D) | own (ds:List D)
noncomputable abbrev Rho:=List Sl
structure EnvOk (K:Frag) (F0:Fz) (H0:Hp) (F:Fz) (σ:L2.St) (H:Hp) (ρ:Rho):Prop where
 base:Grow F0 H0 F H
 val:∀ (i:Nat) d,ρ[i]?=some (.val d)->∃ v,σ[i]?=some (some v)/\Rep K F H d v
 own:∀ (i:Nat) ds,ρ[i]?=some (.own ds)->∃ a xs,σ[i]?=some (some (.ref a))/\H a=some (.lst xs)/\¬ F a/\H0 a=none/\RepL K F H ds xs
 inj:∀ (i j:Nat) ds es a,ρ[i]?=some (.own ds)->ρ[j]?=some (.own es)->σ[i]?=some (some (.ref a))->σ[j]?=some (some (.ref a))->i=j
 len:ρ.length=σ.length
 fz:∀ a,F a->H a≠none\/∃ o,K.lookup a=some o
theorem EnvOk.grow {K:Frag} {F0 F F':Fz} {H0 H H':Hp} {σ:L2.St} {ρ:Rho} (e:EnvOk K F0 H0 F σ H ρ) (g:Grow F H F' H'):EnvOk K F0 H0 F' σ H' ρ where
 base:=e.base.trans g
 val:=fun i d h=>let ⟨v,h1,h2⟩:=e.val i d h; ⟨v,h1,h2.grow g⟩
 own:=fun i ds h=>by
  obtain ⟨a,xs,h1,h2,h3,h4,h5⟩:=e.own i ds h
  refine ⟨a,xs,h1,g.same _ _ h2,fun z=>?_,h4,h5.grow g⟩
  rcases g.new a z with z | z
  ·exact h3 z
  ·rw [h2] at z; cases z.1
 inj:=e.inj
 len:=e.len
 fz:=fun a z=>by
  rcases g.new a z with z | z
  ·rcases e.fz a z with z | z
   ·exact .inl fun z2=>z (g.same.free z2)
   ·exact .inr z
  ·exact .inl z.2
noncomputable abbrev DE:=Rho->Option D
noncomputable abbrev DT:=Rho->Option Bool
noncomputable abbrev DA:=Rho->Option (List D)
inductive RdP (K:Frag) (f:DE) (σ:L2.St) (H:Hp) (Q:VK):Prop
 | mk (ρ:Rho) (F0:Fz) (H0:Hp) (F:Fz) (d:D) (ok:EnvOk K F0 H0 F σ H ρ) (e:f ρ=some d) (q:∀ v F' H',Grow F H F' H'->Rep K F' H' d v->Q v H')
noncomputable def rd (K:Frag) (f:DE):TE:=fun σ H Q=>RdP K f σ H Q
inductive ZqZ (K:Frag) (f:DT) (σ:L2.St) (H:Hp) (Q:Bool->Hp->Prop):Prop
 | mk (ρ:Rho) (F0:Fz) (H0:Hp) (F:Fz) (d:Bool) (ok:EnvOk K F0 H0 F σ H ρ) (e:f ρ=some d) (q:∀ F' H',Grow F H F' H'->Q d H')
noncomputable def rdT (K:Frag) (f:DT):TT:=fun σ H Q=>ZqZ K f σ H Q
inductive Zq4 (K:Frag) (f:DA) (σ:L2.St) (H:Hp) (Q:List V->Hp->Prop):Prop
 | mk (ρ:Rho) (F0:Fz) (H0:Hp) (F:Fz) (d:List D) (ok:EnvOk K F0 H0 F σ H ρ) (e:f ρ=some d) (q:∀ v F' H',Grow F H F' H'->RepL K F' H' d v->Q v H')
noncomputable def rdA (K:Frag) (f:DA):TA:=fun σ H Q=>Zq4 K f σ H Q
noncomputable def ED (X:Cx) (e:Expr) (f:DE):Prop:=PE X e (rd X.K f)
noncomputable def TD (X:Cx) (e:Expr) (f:DT):Prop:=PT X e (rdT X.K f)
noncomputable def WTD (X:Cx) (e:Expr) (f:DT):Prop:=PW X e (rdT X.K f)
noncomputable def AD (X:Cx) (es:List Expr) (f:DA):Prop:=PA X es (rdA X.K f)
theorem PE.imp {X:Cx} {e:Expr} {t t':TE} (h:PE X e t) (i:∀ σ H Q,t' σ H Q->t σ H Q):PE X e t':=fun pins s σ H Q I q=>h pins s σ H Q I (i σ H Q q)
theorem PT.imp {X:Cx} {e:Expr} {t t':TT} (h:PT X e t) (i:∀ σ H Q,t' σ H Q->t σ H Q):PT X e t':=fun pins s σ H Q I q=>h pins s σ H Q I (i σ H Q q)
theorem PW.imp {X:Cx} {e:Expr} {t t':TT} (h:PW X e t) (i:∀ σ H Q,t' σ H Q->t σ H Q):PW X e t':=fun wh pins s σ H Q I q=>h wh pins s σ H Q I (i σ H Q q)
theorem PA.imp {X:Cx} {e:List Expr} {t t':TA} (h:PA X e t) (i:∀ σ H Q,t' σ H Q->t σ H Q):PA X e t':=fun pos pins s σ H Q I q=>h pos pins s σ H Q I (i σ H Q q)
theorem PS.imp {X:Cx} {e:Stmt} {t t':TS} (h:PS X e t) (i:∀ D σ H,t' D σ H->t D σ H):PS X e t':=fun pins s σ H D I q=>h pins s σ H D I (i D σ H q)
theorem PSs.imp {X:Cx} {e:List Stmt} {t t':TS} (h:PSs X e t) (i:∀ D σ H,t' D σ H->t D σ H):PSs X e t':=fun pins s σ H D I q=>h pins s σ H D I (i D σ H q)
section
variable {X:Cx} {pos:Pos}
noncomputable def Zd (i:Nat):DE:=fun ρ=>match ρ[i]? with | some (.val d)=>some d | _=>none
noncomputable def Zg (d:D):DE:=fun _=>some d
theorem ZiC {i:Nat} {ρ:Rho} {d:D} (h:Zd i ρ=some d):ρ[i]?=some (.val d):=by
 unfold Zd at h
 split at h
 ·rename_i e; rw [e]; cases h; rfl
 ·cases h
theorem Za {i:Nat} {e:Expr} (h:PE X e (ZoE i)):ED X e (Zd i):=PE.imp h fun σ H Q zq=>by
 obtain ⟨ρ,F0,H0,F,d,ok,e,q⟩:=zq
 obtain ⟨v,h1,h2⟩:=ok.val i d (ZiC e)
 exact ⟨v,h1,q v F H .refl h2⟩
theorem Zf {i:Int} {j}:ED X (.Constant (.int i) j pos) (Zg (.int i)):=PE.imp ZkE fun σ H Q zq=>by
 obtain ⟨ρ,F0,H0,F,d,ok,e,q⟩:=zq
 cases e; exact q _ F H .refl (by unfold Rep; rfl)
theorem Up {b:Bool} {j}:ED X (.Constant (.bool b) j pos) (Zg (.bl b)):=PE.imp Zpb fun σ H Q zq=>by
 obtain ⟨ρ,F0,H0,F,d,ok,e,q⟩:=zq
 cases e; exact q _ F H .refl (by unfold Rep; rfl)
theorem ZdT {j}:ED X (.Constant .none j pos) (Zg .non):=PE.imp Znv fun σ H Q zq=>by
 obtain ⟨ρ,F0,H0,F,d,ok,e,q⟩:=zq
 cases e; exact q _ F H .refl (by unfold Rep; rfl)
theorem YL {x:Str} {j}:ED X (.Constant (.str x) j pos) (Zg (.str x)):=PE.imp Zdt fun σ H Q zq=>by
 obtain ⟨ρ,F0,H0,F,d,ok,e,q⟩:=zq
 cases e; exact q _ F H .refl (by unfold Rep; rfl)
theorem Ww {x:Str} {i:Int} {t:Tok} (hg:Gl X x) (hm:X.mg x=some (.int i t)) (hd:(x==("__debug__":Str))=false:=by decide):ED X (.Name x pos) (Zg (.int i)):=
 PE.imp (ZcF hg hm (v:=.int i) ⟨t,rfl⟩ hd) fun σ H Q ⟨ρ,F0,H0,F,d,ok,e,q⟩=>by cases e; exact q _ F H .refl (by unfold Rep; rfl)
inductive R2P (K:Frag) (r:D->D->Option D) (v u:V) (H:Hp) (Q:VK):Prop
 | mk (x y:D) (F:Fz) (d:D) (r1:Rep K F H x v) (r2:Rep K F H y u) (e:r x y=some d) (q:∀ w F' H',Grow F H F' H'->Rep K F' H' d w->Q w H')
noncomputable def r2 (K:Frag) (r:D->D->Option D):R2:=fun v u H Q=>R2P K r v u H Q
noncomputable def Ze (r:D->D->Option D) (f g:DE):DE:=fun ρ=>(f ρ).bind fun x=>(g ρ).bind fun y=>r x y
theorem bind_some {α β:Type} {o:Option α} {f:α->Option β} {b:β} (h:o.bind f=some b):∃ a,o=some a/\f a=some b:=by
 cases o with
 | none=>cases h
 | some a=>exact ⟨a,rfl,h⟩
theorem Zfr {K:Frag} {r:D->D->Option D} {f g:DE} {σ:L2.St} {H:Hp} {Q:VK} (h:rd K (Ze r f g) σ H Q):tOp (r2 K r) (rd K f) (rd K g) σ H Q:=by
 obtain ⟨ρ,F0,H0,F,d,ok,e,q⟩:=h
 obtain ⟨x,ex,e⟩:=bind_some e
 obtain ⟨y,ey,e⟩:=bind_some e
 exact ⟨ρ,F0,H0,F,x,ok,ex,fun v F1 H1 g1 r1=>⟨ρ,F0,H0,F1,y,ok.grow g1,ey,fun u F2 H2 g2 r2'=>
  ⟨x,y,F2,d,r1.grow g2,r2',e,fun w F3 H3 g3 r3=>q w F3 H3 (g1.trans (g2.trans g3)) r3⟩⟩⟩
noncomputable def Op2 (X:Cx) (f:Value->Value->Sem Value) (r:D->D->Option D):Prop:=OpR X f (r2 X.K r)
variable {a b c:Expr} {f g h:DE}
theorem Zl {op:Operator} {r:D->D->Option D} (ho:Op2 X (binaryOp op) r) (ha:ED X a f) (hb:ED X b g):ED X (.BinOp a op b pos) (Ze r f g):=
 PE.imp (Zo9 ho ha hb) fun _ _ _=>Zfr
theorem Uj {op:CmpOp} {r:D->D->Option D} (ho:Op2 X (compareOp op) r) (ha:ED X a f) (hb:ED X b g) (hm:behindInMarks op b=false):ED X (.Compare a [op] [b] pos) (Ze r f g):=
 PE.imp (ZlK ho ha hb hm) fun _ _ _=>Zfr
noncomputable def Zn (f:DE):DT:=fun ρ=>(f ρ).bind fun d=>match d with | .bl b=>some b | _=>none
theorem ZcE {K:Frag} {f:DE} {σ:L2.St} {H:Hp} {Q:Bool->Hp->Prop} (h:rdT K (Zn f) σ H Q):rd K f σ H fun x H'=>∃ k,x=.bl k/\Q k H':=by
 obtain ⟨ρ,F0,H0,F,k,ok,e,q⟩:=h
 obtain ⟨d,ed,e⟩:=bind_some e
 cases d with
 | bl b=>
  cases e
  exact ⟨ρ,F0,H0,F,_,ok,ed,fun v F' H' g r=>⟨k,by unfold Rep at r; exact r,q F' H' g⟩⟩
 | _=>cases e
theorem Z8 {op:CmpOp} {r:D->D->Option D} (ho:Op2 X (compareOp op) r) (ha:ED X a f) (hb:ED X b g) (hm:behindInMarks op b=false):TD X (.Compare a [op] [b] pos) (Zn (Ze r f g)):=
 PT.imp (Zly ho ha hb hm) fun σ H Q q=>Zfr (ZcE q)
theorem Yq (ha:ED X a f) (he:∀ whole,isTrue a X.env whole=(do let v <- whole; standAt a.pos; holding [v] (truthy v)):=by intro _; rfl):TD X a (Zn f):=
 PT.imp (Znm ha he) fun σ H Q q=>ZcE q
noncomputable def Q8 (r r':D->D->Option D) (f g h:DE):DE:=fun ρ=>(f ρ).bind fun x=>(g ρ).bind fun y=>(r x y).bind fun z=>match z with
 | .bl true=>(h ρ).bind fun u=>r' y u
 | .bl false=>some (.bl false)
 | _=>none
theorem Zfs {K:Frag} {r r':D->D->Option D} {f g h:DE} {σ:L2.St} {H:Hp} {Q:VK} (q:rd K (Q8 r r' f g h) σ H Q):Zg2 (r2 K r) (r2 K r') (rd K f) (rd K g) (rd K h) σ H Q:=by
 obtain ⟨ρ,F0,H0,F,d,ok,e,q⟩:=q
 obtain ⟨x,ex,e⟩:=bind_some e
 obtain ⟨y,ey,e⟩:=bind_some e
 obtain ⟨z,ez,e⟩:=bind_some e
 refine ⟨ρ,F0,H0,F,x,ok,ex,fun v F1 H1 g1 r1=>⟨ρ,F0,H0,F1,y,ok.grow g1,ey,fun u F2 H2 g2 r2'=>
  ⟨x,y,F2,z,r1.grow g2,r2',ez,fun w F3 H3 g3 r3=>?_⟩⟩⟩
 cases z with
 | bl k=>
  refine ⟨k,by unfold Rep at r3; exact r3,?_⟩
  cases k with
  | true=>
   rw [if_pos rfl]
   obtain ⟨u',eu,e⟩:=bind_some e
   exact ⟨ρ,F0,H0,F3,u',((ok.grow g1).grow g2).grow g3,eu,fun w' F4 H4 g4 r4=>⟨y,u',F4,d,(r2'.grow g3).grow g4,r4,e,fun w5 F5 H5 g5 r5=>q w5 F5 H5 (g1.trans (g2.trans (g3.trans (g4.trans g5)))) r5⟩⟩
  | false=>
   rw [if_neg (by decide)]
   cases e
   exact q _ F3 H3 (g1.trans (g2.trans g3)) (by unfold Rep; rfl)
 | _=>cases e
theorem U3 {op op':CmpOp} {r r':D->D->Option D} (ho:Op2 X (compareOp op) r) (ho':Op2 X (compareOp op') r') (ha:ED X a f) (hb:ED X b g) (hc:ED X c h)
  (hm:lastMarks [op,op'] [b,c]=false:=by with_unfolding_all rfl):ED X (.Compare a [op,op'] [b,c] pos) (Q8 r r' f g h):=
 PE.imp (ZjA ho ho' ha hb hc hm) fun _ _ _=>Zfs
theorem Zfh {op op':CmpOp} {r r':D->D->Option D} (ho:Op2 X (compareOp op) r) (ho':Op2 X (compareOp op') r') (ha:ED X a f) (hb:ED X b g) (hc:ED X c h)
  (hm:lastMarks [op,op'] [b,c]=false:=by with_unfolding_all rfl):TD X (.Compare a [op,op'] [b,c] pos) (Zn (Q8 r r' f g h)):=
 PT.imp (Zju ho ho' ha hb hc hm) fun σ H Q q=>Zfs (ZcE q)
noncomputable def Za9 (f g:DE):DE:=fun ρ=>(f ρ).bind fun x=>match x with | .bl true=>g ρ | .bl false=>some (.bl false) | _=>none
noncomputable def dOr (f g:DE):DE:=fun ρ=>(f ρ).bind fun x=>match x with | .bl true=>some (.bl true) | .bl false=>g ρ | _=>none
noncomputable def ZoJ (f:DE):DE:=fun ρ=>(f ρ).bind fun x=>match x with | .bl k=>some (.bl (!k)) | _=>none
noncomputable def Jn (f g:DT):DT:=fun ρ=>(f ρ).bind fun x=>match x with | true=>g ρ | false=>some false
noncomputable def Wf (f g:DT):DT:=fun ρ=>(f ρ).bind fun x=>match x with | true=>some true | false=>g ρ
noncomputable def Yk (f:DT):DT:=fun ρ=>(f ρ).bind fun x=>some (!x)
variable {rest:List Expr} {t u:DT}
theorem QR {op} (h:ED X a f):ED X (.BoolOp op [a] pos) f:=ZkC h
theorem Qt (ha:ED X a f) (hb:ED X (.BoolOp .And (b::rest) pos) g):ED X (.BoolOp .And (a::b::rest) pos) (Za9 f g):=PE.imp (Zhx ha hb) fun σ H Q zq=>by
 obtain ⟨ρ,F0,H0,F,d,ok,e,q⟩:=zq
 obtain ⟨x,ex,e⟩:=bind_some e
 refine ⟨ρ,F0,H0,F,x,ok,ex,fun v F1 H1 g1 r1=>?_⟩
 cases x with
 | bl k=>
  refine ⟨k,by unfold Rep at r1; exact r1,?_⟩
  cases k with
  | true=>rw [if_pos rfl]; exact ⟨ρ,F0,H0,F1,d,ok.grow g1,e,fun w F2 H2 g2 r2=>q w F2 H2 (g1.trans g2) r2⟩
  | false=>rw [if_neg (by decide)]; cases e; exact q _ F1 H1 g1 (by unfold Rep; rfl)
 | _=>cases e
theorem Zoj (ha:ED X a f) (hb:ED X (.BoolOp .Or (b::rest) pos) g):ED X (.BoolOp .Or (a::b::rest) pos) (dOr f g):=PE.imp (ZlH ha hb) fun σ H Q zq=>by
 obtain ⟨ρ,F0,H0,F,d,ok,e,q⟩:=zq
 obtain ⟨x,ex,e⟩:=bind_some e
 refine ⟨ρ,F0,H0,F,x,ok,ex,fun v F1 H1 g1 r1=>?_⟩
 cases x with
 | bl k=>
  refine ⟨k,by unfold Rep at r1; exact r1,?_⟩
  cases k with
  | false=>rw [if_neg (by decide)]; exact ⟨ρ,F0,H0,F1,d,ok.grow g1,e,fun w F2 H2 g2 r2=>q w F2 H2 (g1.trans g2) r2⟩
  | true=>rw [if_pos rfl]; cases e; exact q _ F1 H1 g1 (by unfold Rep; rfl)
 | _=>cases e
theorem ZkR (ha:ED X a f):ED X (.UnaryOp .Not a pos) (ZoJ f):=PE.imp (ZkD ha) fun σ H Q zq=>by
 obtain ⟨ρ,F0,H0,F,d,ok,e,q⟩:=zq
 obtain ⟨x,ex,e⟩:=bind_some e
 refine ⟨ρ,F0,H0,F,x,ok,ex,fun v F1 H1 g1 r1=>?_⟩
 cases x with
 | bl k=>refine ⟨k,by unfold Rep at r1; exact r1,?_⟩; cases e; exact q _ F1 H1 g1 (by unfold Rep; rfl)
 | _=>cases e
theorem Zjc (ha:TD X a t):WTD X (.BoolOp .And [a] pos) t:=Zlv ha
theorem Qv (ha:TD X a t):WTD X (.BoolOp .Or [a] pos) t:=Znk ha
theorem Zk6 (ha:TD X a t) (hb:WTD X (.BoolOp .And (b::rest) pos) u):WTD X (.BoolOp .And (a::b::rest) pos) (Jn t u):=PW.imp (Znl ha hb) fun σ H Q zq=>by
 obtain ⟨ρ,F0,H0,F,d,ok,e,q⟩:=zq
 obtain ⟨x,ex,e⟩:=bind_some e
 refine ⟨ρ,F0,H0,F,x,ok,ex,fun F1 H1 g1=>?_⟩
 cases x with
 | true=>rw [if_pos rfl]; exact ⟨ρ,F0,H0,F1,d,ok.grow g1,e,fun F2 H2 g2=>q F2 H2 (g1.trans g2)⟩
 | false=>rw [if_neg (by decide)]; cases e; exact q F1 H1 g1
theorem QZ (ha:TD X a t) (hb:WTD X (.BoolOp .Or (b::rest) pos) u):WTD X (.BoolOp .Or (a::b::rest) pos) (Wf t u):=PW.imp (Zo7 ha hb) fun σ H Q zq=>by
 obtain ⟨ρ,F0,H0,F,d,ok,e,q⟩:=zq
 obtain ⟨x,ex,e⟩:=bind_some e
 refine ⟨ρ,F0,H0,F,x,ok,ex,fun F1 H1 g1=>?_⟩
 cases x with
 | false=>rw [if_neg (by decide)]; exact ⟨ρ,F0,H0,F1,d,ok.grow g1,e,fun F2 H2 g2=>q F2 H2 (g1.trans g2)⟩
 | true=>rw [if_pos rfl]; cases e; exact q F1 H1 g1
theorem Zfg (h:WTD X a t):TD X a t:=L2.PW.pt h
theorem QP (ha:TD X a t):TD X (.UnaryOp .Not a pos) (Yk t):=PT.imp (Znn ha) fun σ H Q zq=>by
 obtain ⟨ρ,F0,H0,F,d,ok,e,q⟩:=zq
 obtain ⟨x,ex,e⟩:=bind_some e
 cases e
 exact ⟨ρ,F0,H0,F,x,ok,ex,fun F1 H1 g1=>q F1 H1 g1⟩
noncomputable def dIf (t:DT) (f g:DE):DE:=fun ρ=>(t ρ).bind fun x=>match x with | true=>f ρ | false=>g ρ
theorem ZfN (hc:TD X c t) (ha:ED X a f) (hb:ED X b g):ED X (.IfExp c a b pos) (dIf t f g):=PE.imp (Zjy hc ha hb) fun σ H Q zq=>by
 obtain ⟨ρ,F0,H0,F,d,ok,e,q⟩:=zq
 obtain ⟨x,ex,e⟩:=bind_some e
 refine ⟨ρ,F0,H0,F,x,ok,ex,fun F1 H1 g1=>?_⟩
 cases x with
 | true=>rw [if_pos rfl]; exact ⟨ρ,F0,H0,F1,d,ok.grow g1,e,fun w F2 H2 g2 r2=>q w F2 H2 (g1.trans g2) r2⟩
 | false=>rw [if_neg (by decide)]; exact ⟨ρ,F0,H0,F1,d,ok.grow g1,e,fun w F2 H2 g2 r2=>q w F2 H2 (g1.trans g2) r2⟩
noncomputable def r1 (K:Frag) (r:D->Option D):V->Hp->VK->Prop:=fun v H Q=>∃ x F d,Rep K F H x v/\r x=some d/\∀ w F' H',Grow F H F' H'->Rep K F' H' d w->Q w H'
noncomputable def Jc (r:D->Option D) (f:DE):DE:=fun ρ=>(f ρ).bind r
noncomputable def Op1 (X:Cx) (f:Value->Sem Value) (r:D->Option D):Prop:=UnR X f (r1 X.K r)
theorem Ziy {op:UnaryOp} {r:D->Option D} (ho:Op1 X (unaryOp op) r) (ha:ED X a f):ED X (.UnaryOp op a pos) (Jc r f):=PE.imp (Znu ho ha) fun σ H Q zq=>by
 obtain ⟨ρ,F0,H0,F,d,ok,e,q⟩:=zq
 obtain ⟨x,ex,e⟩:=bind_some e
 exact ⟨ρ,F0,H0,F,x,ok,ex,fun v F1 H1 g1 r1=>⟨x,F1,d,r1,e,fun w F2 H2 g2 r2=>q w F2 H2 (g1.trans g2) r2⟩⟩
noncomputable def Zk:DA:=fun _=>some []
noncomputable def Zb (f:DE) (a:DA):DA:=fun ρ=>(f ρ).bind fun x=>(a ρ).bind fun xs=>some (x::xs)
variable {es:List Expr} {as:DA}
theorem Zh:AD X [] Zk:=PA.imp Va fun σ H Q ⟨ρ,F0,H0,F,d,ok,e,q⟩=>by cases e; exact q _ F H .refl .nil
theorem Zc (ha:ED X a f) (hr:AD X es as) (hs:starEach (a::es) X.env=(false,eval a X.env)::starEach es X.env:=by rfl):AD X (a::es) (Zb f as):=PA.imp (YQ ha hr hs) fun σ H Q zq=>by
 obtain ⟨ρ,F0,H0,F,d,ok,e,q⟩:=zq
 obtain ⟨x,ex,e⟩:=bind_some e
 obtain ⟨xs,exs,e⟩:=bind_some e
 cases e
 exact ⟨ρ,F0,H0,F,x,ok,ex,fun v F1 H1 g1 r1=>⟨ρ,F0,H0,F1,xs,ok.grow g1,exs,fun vs F2 H2 g2 r2=>q _ F2 H2 (g1.trans g2) (.cons (r1.grow g2) r2)⟩⟩
noncomputable def lim:Nat:=100000
theorem Q4 {n:Nat} (h:n<=lim):n<=sizeLine:=by have:sizeLine=16777216:=sizeLine_eq; unfold lim at h; omega
noncomputable def Qr (as:DA):DE:=fun ρ=>(as ρ).bind fun xs=>if xs.length<=lim then some (.tup xs) else none
noncomputable def Wz (as:DA):DE:=fun ρ=>(as ρ).bind fun xs=>if xs.length<=lim then some (.lst xs) else none
theorem Ys {c:Prop} [Decidable c] {α:Type} {x y:α} (h:(if c then some x else none)=some y):c/\x=y:=by
 by_cases hc:c
 ·rw [if_pos hc] at h; exact ⟨hc,Option.some.inj h⟩
 ·rw [if_neg hc] at h; cases h
theorem JP {x1} (ha:AD X es as):ED X (.Tuple es x1 pos) (Qr as):=PE.imp (Zhw ha) fun σ H Q zq=>by
 obtain ⟨ρ,F0,H0,F,d,ok,e,q⟩:=zq
 obtain ⟨xs,exs,e⟩:=bind_some e
 obtain ⟨hl,rfl⟩:=Ys e
 refine ⟨ρ,F0,H0,F,xs,ok,exs,fun vs F1 H1 g1 r1=>⟨by rw [<-r1.length]; exact Q4 hl,fun p hp=>q _ F1 _ (g1.trans (.laid0 hp)) ?_⟩⟩
 unfold Rep
 exact ⟨p,vs,rfl,.of ZZ,r1.grow (.laid0 hp)⟩
theorem Y7 {K:Frag} {F:Fz} {H:Hp} {p:Addr} {ds:List D} {vs:List V} (hp:H p=none) (r:RepL K F H ds vs):Rep K (fun a=>F a\/a=p) (upd H p (.lst vs)) (.lst ds) (.ref p):=by
 unfold Rep
 exact ⟨p,vs,rfl,.inr rfl,.of ZZ,r.grow (.laid hp)⟩
theorem WO (ha:AD X es as):ED X (.List es pos) (Wz as):=PE.imp (Znw ha) fun σ H Q zq=>by
 obtain ⟨ρ,F0,H0,F,d,ok,e,q⟩:=zq
 obtain ⟨xs,exs,e⟩:=bind_some e
 obtain ⟨hl,rfl⟩:=Ys e
 exact ⟨ρ,F0,H0,F,xs,ok,exs,fun vs F1 H1 g1 r1=>⟨by rw [<-r1.length]; exact Q4 hl,fun p hp=>q _ _ _ (g1.trans (.laid hp)) (Y7 hp r1)⟩⟩
inductive RCP (K:Frag) (r:List D->Option D) (vs:List V) (H:Hp) (Q:VK):Prop
 | mk (xs:List D) (F:Fz) (d:D) (r1:RepL K F H xs vs) (e:r xs=some d) (q:∀ w F' H',Grow F H F' H'->Rep K F' H' d w->Q w H')
noncomputable def rC (K:Frag) (r:List D->Option D):List V->Hp->VK->Prop:=fun vs H Q=>RCP K r vs H Q
noncomputable def Zv (r:List D->Option D) (as:DA):DE:=fun ρ=>(as ρ).bind r
noncomputable def Zaa (X:Cx) (f:Value) (r:List D->Option D):Prop:=W9 X f (rC X.K r)
theorem Zhq {K:Frag} {r:List D->Option D} {as:DA} {σ:L2.St} {H:Hp} {Q:VK} (h:rd K (Zv r as) σ H Q):tCB (rC K r) (rdA K as) σ H Q:=by
 obtain ⟨ρ,F0,H0,F,d,ok,e,q⟩:=h
 obtain ⟨xs,exs,e⟩:=bind_some e
 exact ⟨ρ,F0,H0,F,xs,ok,exs,fun vs F1 H1 g1 r1=>⟨xs,F1,d,r1,e,fun w F2 H2 g2 r2=>q w F2 H2 (g1.trans g2) r2⟩⟩
theorem ZB {id:String} {x:Str} {p:Pos} {e:Expr} {r:List D->Option D} (hc:Zaa X (.builtin id) r) (hg:Gl X x) (hm:X.mg x=none) (hv:bootBuiltins x=some (.builtin id)) (ha:AD X (e::es) as) (hn:x≠"__name__":=by decide) (hdb:(x==("__debug__":Str))=false:=by decide)
  (he:starEach (e::es) X.env=(false,eval e X.env)::starEach es X.env:=by rfl) (hpl:(backTo pos (starEach es X.env)).any (·.1)=false:=by rfl):ED X (.Call (.Name x p) (e::es) [] pos) (Zv r as):=
 PE.imp (Zag hc hg hm hv ha hn hdb he hpl) fun _ _ _=>Zhq
theorem Yf {T:String} {x:Str} {p:Pos} {e:Expr} {r:List D->Option D} (hc:Zaa X (.type T) r) (hg:Gl X x) (hm:X.mg x=none) (hv:bootBuiltins x=some (.type T)) (ha:AD X (e::es) as) (hn:x≠"__name__":=by decide) (hdb:(x==("__debug__":Str))=false:=by decide)
  (he:starEach (e::es) X.env=(false,eval e X.env)::starEach es X.env:=by rfl) (hpl:(backTo pos (starEach es X.env)).any (·.1)=false:=by rfl):ED X (.Call (.Name x p) (e::es) [] pos) (Zv r as):=
 PE.imp (Zdu hc hg hm hv ha hn hdb he hpl) fun _ _ _=>Zhq
noncomputable def spD (K:Frag) (n:Nat) (fn:List D->Option D):Sp:=fun vs H Q _=>∃ xs F d,xs.length=n/\RepL K F H xs vs/\(∀ a,F a->H a≠none\/∃ o,K.lookup a=some o)/\fn xs=some d/\∀ w F' H',Grow F H F' H'->Rep K F' H' d w->Q w H'
noncomputable def FnD (P:Program) (w:World) (K:Frag) (mg:Str->Option Value) (base:Heap) (k:Nat) (f:Addr) (fd:FuncData) (ps:List Str) (fn:List D->Option D):Prop:=Zfd P w K mg base CX0 k f fd ps (spD K ps.length fn)
noncomputable def dFn (n:Nat) (fn:List D->Option D) (as:DA):DE:=fun ρ=>(as ρ).bind fun xs=>if xs.length=n then fn xs else none
theorem Zpz {k:Nat} {f:Addr} {fd:FuncData} {ps:List Str} {fn:List D->Option D} {x:Str} {p:Pos} {e:Expr} (F:FnD X.prog X.w X.K X.mg X.base k f fd ps fn) (hr:Room k X.A) (hg:Gl X x) (hm:X.mg x=some (.ref f)) (hk:keepIn X.K (.ref f)=true) (hb:Binds X.K fd ps [])
  (ha:AD X (e::es) as) (hdb:(x==("__debug__":Str))=false:=by decide) (he:starEach (e::es) X.env=(false,eval e X.env)::starEach es X.env:=by rfl) (hpl:(backTo pos (starEach es X.env)).any (·.1)=false:=by rfl) :
  ED X (.Call (.Name x p) (e::es) [] pos) (dFn ps.length fn as):=PE.imp (ZeI F hr hg hm hk hb .nil Zpc ha hdb he hpl) fun σ H Q zq=>by
 obtain ⟨ρ,F0,H0,Fr,d,ok,e,q⟩:=zq
 obtain ⟨xs,exs,e⟩:=bind_some e
 by_cases hl:xs.length=ps.length
 ·rw [if_pos hl] at e
  refine ⟨ρ,F0,H0,Fr,xs,ok,exs,fun vs F1 H1 g1 r1=>?_⟩
  show spD X.K ps.length fn (vs++[]) H1 Q E0
  rw [List.append_nil]
  exact ⟨xs,F1,d,hl,r1,(ok.grow g1).fz,e,fun w F2 H2 g2 r2=>q w F2 H2 (g1.trans g2) r2⟩
 ·rw [if_neg hl] at e; cases e
end
theorem Yl {K:Frag} {F:Fz} {H:Hp} (i:Int):Rep K F H (.int i) (.int i):=by unfold Rep; rfl
theorem Uz {K:Frag} {F:Fz} {H:Hp} (i:Bool):Rep K F H (.bl i) (.bl i):=by unfold Rep; rfl
mutual
noncomputable def JX:D->PyData
 | .non=>.none
 | .bl b=>.bool b
 | .int i=>.int i
 | .str x=>.str x
 | .tup xs=>.tuple (Qw xs)
 | .lst xs=>.list (Qw xs)
noncomputable def Qw:List D->List PyData
 | []=>[]
 | d::ds=>JX d::Qw ds
end
section
variable {X:Cx} {pins:List (Addr×Obj)} {σ:L2.St} {H:Hp} {s:Shared} {F:Fz}
mutual
theorem QB (I:Inv X pins σ H s):∀ {d:D} {v:V} {u:Value},Rep X.K F H d v->RelV v u->∃ as,Reads s.heap u (JX d) as
 | .non,v,u,h,r=>by unfold Rep at h; subst h; cases r; exact ⟨_,.none⟩
 | .bl b,v,u,h,r=>by unfold Rep at h; subst h; cases r; exact ⟨_,.bool b⟩
 | .int i,v,u,h,r=>by unfold Rep at h; subst h; obtain ⟨t,rfl⟩:=r; exact ⟨_,.int i t⟩
 | .str x,v,u,h,r=>by unfold Rep at h; subst h; obtain ⟨t,rfl⟩:=r; exact ⟨_,.str x t⟩
 | .tup ds,v,u,h,r=>by
  unfold Rep at h
  obtain ⟨a,xs,rfl,hq,hl⟩:=h
  cases r
  obtain ⟨its,rv,⟨o,e,c,n,hd⟩,_⟩:=I.tuple hq
  obtain ⟨as,ra⟩:=UY I hl rv
  exact ⟨_,.tuple e c hd (by simpa using ra)⟩
 | .lst ds,v,u,h,r=>by
  unfold Rep at h
  obtain ⟨a,xs,rfl,_,hq,hl⟩:=h
  cases r
  obtain ⟨its,rv,pl,_⟩:=I.list hq
  obtain ⟨o,e,c,n,hd⟩:=pl.isList
  obtain ⟨as,ra⟩:=UY I hl rv
  exact ⟨_,.list e c hd (by simpa using ra)⟩
theorem UY (I:Inv X pins σ H s):∀ {ds:List D} {vs:List V} {us:List Value},RepL X.K F H ds vs->Vals vs us->∃ as,ReadsAll s.heap us (Qw ds) as
 | [],vs,us,h,r=>by rw [h.unnil] at r; cases r; exact ⟨_,.nil⟩
 | d::ds,vs,us,h,r=>by
  obtain ⟨y,ys,rfl,h1,h2⟩:=h.uncons
  cases r with
  | cons r1 r2=>
   obtain ⟨as,a1⟩:=QB I h1 r1
   obtain ⟨bs,a2⟩:=UY I h2 r2
   exact ⟨_,.cons a1 a2⟩
end
end
noncomputable def okD (d:D):Bool:=(JX d).canLay0&&decide ((JX d).depth<=30)
noncomputable def deq (x y:D):Bool:=PyData.eqv (JX x) (JX y)
noncomputable def U4 (x y:D):Option D:=if okD x&&okD y then some (.bl (deq x y)) else none
noncomputable def QI (x y:D):Option D:=if okD x&&okD y then some (.bl (!deq x y)) else none
theorem okD.can {d:D} (h:okD d=true):(JX d).canLay0=true:=(Bool.and_eq_true_iff.mp h).1
theorem okD.dep {d:D} (h:okD d=true):(JX d).depth<=30:=of_decide_eq_true (Bool.and_eq_true_iff.mp h).2
section
variable {X:Cx}
theorem Zja (hu:X.A.units+64 < cLine):Op2 X (compareOp .Eq) U4:=by
 intro pins s σ H x y v u Q I rx ry h
 obtain ⟨dx,dy,F,d,r1,r2,e,q⟩:=h
 obtain ⟨hk,rfl⟩:=Ys e
 obtain ⟨k1,k2⟩:=Bool.and_eq_true_iff.mp hk
 obtain ⟨as,a1⟩:=QB I r1 rx
 obtain ⟨bs,a2⟩:=QB I r2 ry
 have d1:=okD.dep k1; have d2:=okD.dep k2
 exact SeqAt.eqOverData _ _ _ _ _ _ _ _ _ _ _ _ a1 a2 (okD.can k1) (okD.can k2) (by have:min (JX dx).depth (JX dy).depth<=30:=Nat.le_trans (Nat.min_le_left _ _) d1; omega) ⟨.bl _,H,I,rfl,q _ F H .refl (Uz _)⟩
theorem Zeq (hu:X.A.units+64 < cLine):Op2 X (compareOp .NotEq) QI:=by
 intro pins s σ H x y v u Q I rx ry h
 obtain ⟨dx,dy,F,d,r1,r2,e,q⟩:=h
 obtain ⟨hk,rfl⟩:=Ys e
 obtain ⟨k1,k2⟩:=Bool.and_eq_true_iff.mp hk
 obtain ⟨as,a1⟩:=QB I r1 rx
 obtain ⟨bs,a2⟩:=QB I r2 ry
 have d1:=okD.dep k1; have d2:=okD.dep k2
 exact SeqAt.neOverData _ _ _ _ _ _ _ _ _ _ _ _ a1 a2 (okD.can k1) (okD.can k2) (by have:min (JX dx).depth (JX dy).depth<=30:=Nat.le_trans (Nat.min_le_left _ _) d1; omega) ⟨.bl _,H,I,rfl,q _ F H .refl (Uz _)⟩
noncomputable def dIn (x:D):D->Option Bool
 | .tup xs=>if okD x&&okD (.tup xs) then some (xs.any fun y=>deq y x) else none
 | .lst xs=>if okD x&&okD (.lst xs) then some (xs.any fun y=>deq y x) else none
 | _=>none
noncomputable def ZfQ (x y:D):Option D:=(dIn x y).map .bl
theorem Zao (x:D):∀ xs:List D,(Qw xs).any (fun y=>PyData.eqv y (JX x))=xs.any fun y=>deq y x
 | []=>by simp [Qw]
 | y::xs=>by simp [Qw,deq,Zao x xs]
theorem ZnG (hu:X.A.units+64 < cLine):Op2 X (compareOp .In) ZfQ:=by
 intro pins s σ H x y v u Q I rx ry h
 obtain ⟨dx,dy,F,d,r1,r2,e,q⟩:=h
 obtain ⟨as,a1⟩:=QB I r1 rx
 obtain ⟨bs,a2⟩:=QB I r2 ry
 cases dy with
 | tup ds=>
  have e:Option.map D.bl (if (okD dx&&okD (.tup ds))=true then some (ds.any fun y=>deq y dx) else none)=some d:=e
  by_cases hk:(okD dx&&okD (.tup ds))=true
  ·rw [if_pos hk] at e
   cases e
   obtain ⟨k1,k2⟩:=Bool.and_eq_true_iff.mp hk
   have d1:=okD.dep k1; have d2:=okD.dep k2; have c2:=(okD.can k2)
   simp only [JX,PyData.canLay0,PyData.depth] at a2 d2 c2
   refine SeqAt.in_tuple_reads a2 a1 c2 (okD.can k1) (by have:min (PyData.depthAll (Qw ds)) (JX dx).depth<=30:=Nat.le_trans (Nat.min_le_right _ _) d1; omega) ⟨.bl _,H,I,rfl,q _ F H .refl ?_⟩
   rw [Zao]; exact Uz _
  ·rw [if_neg hk] at e; cases e
 | lst ds=>
  have e:Option.map D.bl (if (okD dx&&okD (.lst ds))=true then some (ds.any fun y=>deq y dx) else none)=some d:=e
  by_cases hk:(okD dx&&okD (.lst ds))=true
  ·rw [if_pos hk] at e
   cases e
   obtain ⟨k1,k2⟩:=Bool.and_eq_true_iff.mp hk
   have d1:=okD.dep k1; have d2:=okD.dep k2; have c2:=(okD.can k2)
   simp only [JX,PyData.canLay0,PyData.depth] at a2 d2 c2
   refine SeqAt.in_list_reads a2 a1 c2 (okD.can k1) (by have:min (PyData.depthAll (Qw ds)) (JX dx).depth<=30:=Nat.le_trans (Nat.min_le_right _ _) d1; omega) ⟨.bl _,H,I,rfl,q _ F H .refl ?_⟩
   rw [Zao]; exact Uz _
  ·rw [if_neg hk] at e; cases e
 | _=>cases e
noncomputable def dI (C:Int->Int->Bool) (g:Int->Int->D):D->D->Option D
 | .int i,.int j=>if C i j then some (g i j) else none
 | _,_=>none
theorem o_I {f:Value->Value->Sem Value} {C:Int->Int->Prop} {c:Int->Int->Bool} {g:Int->Int->V} {gd:Int->Int->D} (h:OpR X f (rI C g)) (hc:∀ i j,c i j=true->C i j) (hg:∀ i j K F H,Rep K F H (gd i j) (g i j)):Op2 X f (dI c gd):=by
 intro pins s σ H x y v u Q I rx ry q
 obtain ⟨dx,dy,F,d,r1,r2,e,q⟩:=q
 cases dx with
 | int i=>cases dy with
  | int j=>
   unfold dI at e
   obtain ⟨k,rfl⟩:=Ys e
   unfold Rep at r1 r2
   subst r1 r2
   exact h pins s σ H _ _ v u Q I rx ry ⟨i,j,rfl,rfl,hc i j k,q _ F H .refl (hg i j _ _ _)⟩
  | _=>cases e
 | _=>cases e
theorem ZnH {f:Value->Value->Sem Value} {g:Int->Int->V} {gd:Int->Int->D} (h:OpR X f (rI0 g)) (hg:∀ i j K F H,Rep K F H (gd i j) (g i j)):Op2 X f (dI (fun _ _=>true) gd):=by
 refine o_I (C:=fun _ _=>True) ?_ (fun _ _ _=>trivial) hg
 intro pins s σ H x y v u Q I rx ry q
 obtain ⟨i,j,e1,e2,_,q⟩:=q
 exact h pins s σ H x y v u Q I rx ry ⟨i,j,e1,e2,q⟩
noncomputable def QH:D->D->Option D:=dI (fun _ _=>true) fun i j=>.int (i-j)
theorem JM:Op2 X (binaryOp .Sub) QH:=ZnH ZnA fun i j _ _ _=>Yl _
noncomputable def ZmI (i j:Int):Bool:=(decide (-(2 ^ 64) < i)&&decide (i < 2 ^ 64))||(decide (-(2 ^ 64) < j)&&decide (j < 2 ^ 64))
theorem Zmr (i j:Int) (h:ZmI i j=true):CMul i j:=by
 unfold ZmI at h
 rcases Bool.or_eq_true_iff.mp h with h | h
 ·obtain ⟨a,b⟩:=Bool.and_eq_true_iff.mp h; exact .inl ⟨of_decide_eq_true a,of_decide_eq_true b⟩
 ·obtain ⟨a,b⟩:=Bool.and_eq_true_iff.mp h; exact .inr ⟨of_decide_eq_true a,of_decide_eq_true b⟩
noncomputable def YM:D->D->Option D:=dI ZmI fun i j=>.int (i*j)
theorem Qe:Op2 X (binaryOp .Mult) YM:=o_I ZnB Zmr fun i j _ _ _=>Yl _
noncomputable def Yu:D->D->Option D:=dI (fun _ j=>decide (0 < j)) fun i j=>.int (i % j)
theorem QL:Op2 X (binaryOp .Mod) Yu:=o_I ZnC (fun _ _ h=>of_decide_eq_true h) fun i j _ _ _=>Yl _
noncomputable def Qu:D->D->Option D:=dI (fun _ j=>decide (0 < j)&&decide (j < 1073741824)) fun i j=>.int (i / j)
theorem VS:Op2 X (binaryOp .FloorDiv) Qu:=o_I ZlM (fun _ _ h=>by obtain ⟨a,b⟩:=Bool.and_eq_true_iff.mp h; exact ⟨of_decide_eq_true a,of_decide_eq_true b⟩) fun i j _ _ _=>Yl _
noncomputable def dLt:D->D->Option D:=dI (fun _ _=>true) fun i j=>.bl (decide (i < j))
theorem ZlR:Op2 X (compareOp .Lt) dLt:=ZnH Zpd fun i j _ _ _=>Uz _
noncomputable def dLe:D->D->Option D:=dI (fun _ _=>true) fun i j=>.bl (decide (i<=j))
theorem Zer:Op2 X (compareOp .LtE) dLe:=ZnH Zpe fun i j _ _ _=>Uz _
noncomputable def dGt:D->D->Option D:=dI (fun _ _=>true) fun i j=>.bl (decide (j < i))
theorem ZoH:Op2 X (compareOp .Gt) dGt:=ZnH Zpf fun i j _ _ _=>Uz _
noncomputable def dGe:D->D->Option D:=dI (fun _ _=>true) fun i j=>.bl (decide (j<=i))
theorem ZqC:Op2 X (compareOp .GtE) dGe:=ZnH Zpg fun i j _ _ _=>Uz _
noncomputable def Zce:D->Option D
 | .int i=>some (.int (-i))
 | _=>none
theorem ZhL:Op1 X (unaryOp .USub) Zce:=by
 intro pins s σ H x v Q I rx h
 obtain ⟨dx,F,d,r1,e,q⟩:=h
 cases dx with
 | int i=>cases e; unfold Rep at r1; subst r1; exact Zkq pins s σ H _ v Q I rx ⟨i,rfl,q _ F H .refl (Yl _)⟩
 | _=>cases e
theorem ZiM {pins:List (Addr×Obj)} {s:Shared} {σ:L2.St} {H:Hp} {l b:Addr} {xs zs:List V} {Q:VK} (I:Inv X pins σ H s) (hl:SqL X.K H l xs) (hb:SqL X.K H b zs) (hz:xs.length+zs.length<=sizeLine)
  (q:∀ p,H p=none->Q (.ref p) (upd H p (.lst (xs++zs)))):wpAny (model X.prog X.w) X.A (binaryOp .Add (.ref l) (.ref b)) (EP X pins σ Q) X.xe s:=by
 obtain ⟨its,r,pl,z⟩:=I.list hl
 obtain ⟨its2,r2,pl2,z2⟩:=I.list hb
 have hl1:=r.length
 have hl2:=r2.length
 have ea:its.toArray++its2.toArray=(its++its2).toArray:=by simp
 obtain ⟨⟨cls,dd,data,sl⟩,ho,hc,n,hd⟩:=pl.isList
 obtain ⟨⟨cls2,dd2,data2,sl2⟩,ho2,hc2,n2,hd2⟩:=pl2.isList
 simp only at hc hd hc2 hd2
 subst hc hd hc2 hd2
 refine concat_meets ⟨_,ho,rfl⟩ ⟨_,ho2,rfl⟩ noFill_list_add seq_list_add PySem.F.slot_list_add PySem.F.entry_list_add (PySem.F.args_list_add_2 _ _) (list_addW l b its.toArray its2.toArray n n2 dd dd2 sl sl2 (by rw [List.size_toArray,List.size_toArray]; omega)) ⟨ho,ho2,?_⟩
 rw [ea]
 exact ⟨.ref _,_,I.lnew (t':=s.toks) (r.append r2) (by rw [List.length_append]; omega),rfl,q _ I.fresh⟩
theorem Zkf {pins:List (Addr×Obj)} {s:Shared} {σ:L2.St} {H:Hp} {a b:Addr} {xs ys:List V} {Q:VK} (I:Inv X pins σ H s) (ha:SqT X.K H a xs) (hb:SqT X.K H b ys) (hz:xs.length+ys.length<=sizeLine)
  (q0:xs=[]->Q (.ref b) H) (q1:ys=[]->Q (.ref a) H) (q2:∀ p,H p=none->Q (.ref p) (upd H p (.tup (xs++ys)))):wpAny (model X.prog X.w) X.A (binaryOp .Add (.ref a) (.ref b)) (EP X pins σ Q) X.xe s:=by
 obtain ⟨its,r1,p1,_⟩:=I.tuple ha
 obtain ⟨its2,r2,p2,_⟩:=I.tuple hb
 by_cases h0:its=[]
 ·obtain ⟨⟨cls,dd,data,sl⟩,ho,hc,n,hd⟩:=id p1
  obtain ⟨⟨cls2,dd2,data2,sl2⟩,ho2,hc2,n2,hd2⟩:=id p2
  simp only at hc hd hc2 hd2
  subst hc hd hc2 hd2
  exact concat_meets ⟨_,ho,rfl⟩ ⟨_,ho2,rfl⟩ noFill_tuple_add seq_tuple_add PySem.F.slot_tuple_add PySem.F.entry_tuple_add (PySem.F.args_tuple_add_2 _ _)
   (tuple_addW0 a b its.toArray its2.toArray n n2 dd dd2 sl sl2 (by simp [h0])) ⟨ho,ho2,⟨.ref b,H,I,rfl,q0 (r1.nil_iff.mp h0)⟩⟩
 ·refine HT.cat_tup p1 p2 h0 (fun z=>⟨.ref a,H,I,rfl,q1 (r2.nil_iff.mp z)⟩) (fun z=>?_) (by rw [<-r1.length,<-r2.length]; exact hz)
  refine ⟨.ref s.heap.objs.size,_,I.laid (t':=s.toks) (o:=.tup (xs++ys)) (fun b ob q=>Heap.get?_push_of_some _ q) (Nat.le_refl _) ?_,rfl,q2 _ (I.hok.fresh (Nat.le_refl _))⟩
  exact ⟨by rw [List.length_append]; exact hz,_,r1.append r2,IsTup.new _ _⟩
noncomputable def ZE:D->D->Option D
 | .int i,.int j=>some (.int (i+j))
 | .lst a,.lst b=>if a.length+b.length<=lim then some (.lst (a++b)) else none
 | .tup a,.tup b=>if a.length+b.length<=lim then some (.tup (a++b)) else none
 | .str a,.str b=>if a.length+b.length<=lim then some (.str (a++b)) else none
 | _,_=>none
theorem Z5:Op2 X (binaryOp .Add) ZE:=by
 intro pins s σ H x y v u Q I rx ry q
 obtain ⟨dx,dy,F,d,r1,r2,e,q⟩:=q
 cases dx with
 | int i=>cases dy with
  | int j=>
   cases e
   unfold Rep at r1 r2
   subst r1 r2
   exact ZnD pins s σ H _ _ v u Q I rx ry ⟨i,j,rfl,rfl,q _ F H .refl (Yl _)⟩
  | _=>cases e
 | str i=>cases dy with
  | str j=>
   unfold ZE at e
   obtain ⟨hl,rfl⟩:=Ys e
   unfold Rep at r1 r2
   subst r1 r2
   exact Zgd pins s σ H _ _ v u Q I rx ry ⟨i,j,rfl,rfl,Q4 hl,q _ F H .refl (by unfold Rep; rfl)⟩
  | _=>cases e
 | lst a=>cases dy with
  | lst b=>
   unfold ZE at e
   obtain ⟨hl,rfl⟩:=Ys e
   unfold Rep at r1 r2
   obtain ⟨l1,xs,rfl,f1,h1,k1⟩:=r1
   obtain ⟨l2,ys,rfl,f2,h2,k2⟩:=r2
   cases rx; cases ry
   refine ZiM I h1 h2 (by rw [<-k1.length,<-k2.length]; exact Q4 hl) fun p hp=>q _ _ _ (.laid hp) (Y7 hp (k1.append k2))
  | _=>cases e
 | tup a=>cases dy with
  | tup b=>
   unfold ZE at e
   obtain ⟨hl,rfl⟩:=Ys e
   have r1':=r1; have r2':=r2
   unfold Rep at r1 r2
   obtain ⟨l1,xs,rfl,h1,k1⟩:=r1
   obtain ⟨l2,ys,rfl,h2,k2⟩:=r2
   cases rx; cases ry
   refine Zkf I h1 h2 (by rw [<-k1.length,<-k2.length]; exact Q4 hl) (fun z=>?_) (fun z=>?_) fun p hp=>q _ F _ (.laid0 hp) ?_
   ·have:a=[]:=List.eq_nil_of_length_eq_zero (by rw [k1.length,z]; rfl)
    subst this
    exact q _ F H .refl r2'
   ·have:b=[]:=List.eq_nil_of_length_eq_zero (by rw [k2.length,z]; rfl)
    subst this
    rw [List.append_nil] at q
    exact q _ F H .refl r1'
   ·unfold Rep
    exact ⟨p,xs++ys,rfl,.of ZZ,(k1.append k2).grow (.laid0 hp)⟩
  | _=>cases e
 | _=>cases e
noncomputable def dIx:D->D->Option D
 | .lst xs,.int i=>atI xs i
 | .tup xs,.int i=>atI xs i
 | .str z,.int i=>if z.length<=lim then (atI z.cps.toList i).map fun c=>.str ⟨#[c]⟩ else none
 | _,_=>none
noncomputable def IxD (X:Cx) (r:D->D->Option D):Prop:=IxR X (r2 X.K r)
theorem ZC {a b:Expr} {f g:DE} {pos:Pos} {r:D->D->Option D} (hr:IxD X r) (ha:ED X a f) (hb:ED X b g) (hs:Zi4 b):ED X (.Subscript a b pos) (Ze r f g):=PE.imp (Zpa hr ha hb hs) fun _ _ _=>Zfr
theorem ZiV {K:Frag} {F:Fz} {H:Hp} {ds:List D} {vs:List V} {i:Int} {d:D} (r:RepL K F H ds vs) (h:atI ds i=some d):∃ v,atI vs i=some v/\Rep K F H d v:=by
 unfold atI at h ⊢
 obtain ⟨j,e1,e2⟩:=bind_some h
 obtain ⟨v,e3,e4⟩:=r.get e2
 exact ⟨v,by rw [<-r.length,e1]; exact e3,e4⟩
theorem Yp:IxD X dIx:=by
 intro value slice pins s σ H x y v u Q I rx ry h hs
 obtain ⟨dx,dy,F,d,r1,r2,e,q⟩:=h
 cases dy with
 | int i=>
  unfold Rep at r2
  subst r2
  cases dx with
  | lst ds=>
   unfold Rep at r1
   obtain ⟨l,xs,rfl,hf,hl,hr⟩:=r1
   obtain ⟨w',e1,e2⟩:=ZiV hr e
   exact Zl1 value slice pins s σ H _ _ v u Q I rx ry ⟨l,xs,i,w',rfl,rfl,hl,e1,q _ F H .refl e2⟩ hs
  | tup ds=>
   unfold Rep at r1
   obtain ⟨l,xs,rfl,hl,hr⟩:=r1
   obtain ⟨w',e1,e2⟩:=ZiV hr e
   exact Zn5 value slice pins s σ H _ _ v u Q I rx ry ⟨l,xs,i,w',rfl,rfl,hl,e1,q _ F H .refl e2⟩ hs
  | str z=>
   unfold Rep at r1
   subst r1
   have e:(if z.length<=lim then (atI z.cps.toList i).map fun c=>D.str ⟨#[c]⟩ else none)=some d:=e
   by_cases hz:z.length<=lim
   ·rw [if_pos hz] at e
    obtain ⟨c,e1,rfl⟩:∃ c,atI z.cps.toList i=some c/\D.str ⟨#[c]⟩=d:=by
     cases q1:atI z.cps.toList i with
     | none=>rw [q1] at e; cases e
     | some c=>rw [q1] at e; exact ⟨c,rfl,Option.some.inj e⟩
    exact Zn6 value slice pins s σ H _ _ v u Q I rx ry ⟨z,i,c,rfl,rfl,Q4 hz,e1,q _ F H .refl (by unfold Rep; rfl)⟩ hs
   ·rw [if_neg hz] at e; cases e
  | _=>cases e
 | _=>cases dx <;> cases e
noncomputable def Qs:List D->Option D
 | [.lst xs]=>some (.int xs.length)
 | [.tup xs]=>some (.int xs.length)
 | [.str z]=>if z.length<=lim then some (.int z.length) else none
 | _=>none
theorem J5 {K:Frag} {F:Fz} {H:Hp} {d:D} {vs:List V} (h:RepL K F H [d] vs):∃ v,vs=[v]/\Rep K F H d v:=by
 obtain ⟨y,ys,rfl,h1,h2⟩:=h.uncons
 rw [h2.unnil]
 exact ⟨y,rfl,h1⟩
theorem Zjq {K:Frag} {F:Fz} {H:Hp} {d d':D} {vs:List V} (h:RepL K F H [d,d'] vs):∃ v v',vs=[v,v']/\Rep K F H d v/\Rep K F H d' v':=by
 obtain ⟨y,ys,rfl,h1,h2⟩:=h.uncons
 obtain ⟨v',rfl,h3⟩:=J5 h2
 exact ⟨y,v',rfl,h1,h3⟩
theorem Jd:Zaa X (.builtin "len") Qs:=by
 intro pins s σ H vs us Q I r h
 obtain ⟨xs,F,d,r1,e,q⟩:=h
 unfold Qs at e
 split at e
 ·rename_i ds
  cases e
  obtain ⟨v,rfl,h1⟩:=J5 r1
  unfold Rep at h1
  obtain ⟨a,ys,rfl,_,hl,hr⟩:=h1
  refine WT pins s σ H _ us Q I r ⟨a,ys,rfl,.inl hl,?_⟩
  rw [<-hr.length]; exact q _ F H .refl (Yl _)
 ·rename_i ds
  cases e
  obtain ⟨v,rfl,h1⟩:=J5 r1
  unfold Rep at h1
  obtain ⟨a,ys,rfl,hl,hr⟩:=h1
  refine WT pins s σ H _ us Q I r ⟨a,ys,rfl,.inr hl,?_⟩
  rw [<-hr.length]; exact q _ F H .refl (Yl _)
 ·rename_i z
  obtain ⟨hz,rfl⟩:=Ys e
  obtain ⟨v,rfl,h1⟩:=J5 r1
  unfold Rep at h1
  subst h1
  exact Zd3 pins s σ H _ us Q I r ⟨z,rfl,Q4 hz,q _ F H .refl (Yl _)⟩
 ·cases e
noncomputable def UO:List D->Option D
 | [.lst xs]=>some (.lst xs)
 | [.tup xs]=>some (.lst xs)
 | _=>none
theorem Zot:Zaa X (.type "list") UO:=by
 intro pins s σ H vs us Q I r h
 obtain ⟨xs,F,d,r1,e,q⟩:=h
 unfold UO at e
 split at e
 ·rename_i ds
  cases e
  obtain ⟨v,rfl,h1⟩:=J5 r1
  unfold Rep at h1
  obtain ⟨a,ys,rfl,_,hl,hr⟩:=h1
  exact WS pins s σ H _ us Q I r ⟨a,ys,rfl,.inl hl,fun p hp=>q _ _ _ (.laid hp) (Y7 hp hr)⟩
 ·rename_i ds
  cases e
  obtain ⟨v,rfl,h1⟩:=J5 r1
  unfold Rep at h1
  obtain ⟨a,ys,rfl,hl,hr⟩:=h1
  exact WS pins s σ H _ us Q I r ⟨a,ys,rfl,.inr hl,fun p hp=>q _ _ _ (.laid hp) (Y7 hp hr)⟩
 ·cases e
noncomputable def Yo:List D->Option D
 | [.lst xs]=>some (.tup xs)
 | [.tup xs]=>some (.tup xs)
 | _=>none
theorem Zbe:Zaa X (.type "tuple") Yo:=by
 intro pins s σ H vs us Q I r h
 obtain ⟨xs,F,d,r1,e,q⟩:=h
 unfold Yo at e
 split at e
 ·rename_i ds
  cases e
  obtain ⟨v,rfl,h1⟩:=J5 r1
  unfold Rep at h1
  obtain ⟨a,ys,rfl,_,hl,hr⟩:=h1
  refine V7 pins s σ H _ us Q I r ⟨a,ys,rfl,.inl ⟨hl,fun p hp=>q _ F _ (.laid0 hp) ?_⟩⟩
  unfold Rep
  exact ⟨p,ys,rfl,.of ZZ,hr.grow (.laid0 hp)⟩
 ·rename_i ds
  cases e
  obtain ⟨v,rfl,h1⟩:=J5 r1
  have h1':=h1
  unfold Rep at h1
  obtain ⟨a,ys,rfl,hl,hr⟩:=h1
  exact V7 pins s σ H _ us Q I r ⟨a,ys,rfl,.inr ⟨hl,q _ F H .refl h1'⟩⟩
 ·cases e
noncomputable def ZgC:List D->Option D
 | [.int i,.int j]=>some (.int (if j < i then j else i))
 | _=>none
noncomputable def ZdX:List D->Option D
 | [.int i,.int j]=>some (.int (if j > i then j else i))
 | _=>none
theorem ZiQ (hc:X.calm=true):Zaa X (.builtin "min") ZgC:=by
 intro pins s σ H vs us Q I r h
 obtain ⟨xs,F,d,r1,e,q⟩:=h
 unfold ZgC at e
 split at e
 ·rename_i i j
  cases e
  obtain ⟨v,v',rfl,h1,h2⟩:=Zjq r1
  unfold Rep at h1 h2
  subst h1 h2
  exact ZiN hc pins s σ H _ us Q I r ⟨i,j,rfl,q _ F H .refl (Yl _)⟩
 ·cases e
theorem ZfV (hc:X.calm=true):Zaa X (.builtin "max") ZdX:=by
 intro pins s σ H vs us Q I r h
 obtain ⟨xs,F,d,r1,e,q⟩:=h
 unfold ZdX at e
 split at e
 ·rename_i i j
  cases e
  obtain ⟨v,v',rfl,h1,h2⟩:=Zjq r1
  unfold Rep at h1 h2
  subst h1 h2
  exact ZiO hc pins s σ H _ us Q I r ⟨i,j,rfl,q _ F H .refl (Yl _)⟩
 ·cases e
noncomputable def UN:List D->Option D
 | [.int i]=>if i.natAbs.log2 < 1920 then some (.str (toString i)) else none
 | _=>none
theorem Zkg:Zaa X (.type "str") UN:=by
 intro pins s σ H vs us Q I r h
 obtain ⟨xs,F,d,r1,e,q⟩:=h
 unfold UN at e
 split at e
 ·rename_i i
  obtain ⟨hz,rfl⟩:=Ys e
  obtain ⟨v,rfl,h1⟩:=J5 r1
  unfold Rep at h1
  subst h1
  exact Zd2 pins s σ H _ us Q I r ⟨i,rfl,hz,q _ F H .refl (by unfold Rep; rfl)⟩
 ·cases e
end
inductive Out where
 | nx (ρ:Rho) | rt (d:D) | bk (ρ:Rho) | ct (ρ:Rho)
noncomputable abbrev DS:=Rho->Option Out
noncomputable def EndOk (K:Frag) (F0:Fz) (H0:Hp) (F:Fz) (H:Hp) (E:Zk4):Out->Prop
 | .nx ρ=>∀ σ' F' H',Ext K F H F' H'->EnvOk K F0 H0 F' σ' H' ρ->E.nx σ' H'
 | .bk ρ=>∀ σ' F' H',Ext K F H F' H'->EnvOk K F0 H0 F' σ' H' ρ->E.bk σ' H'
 | .ct ρ=>∀ σ' F' H',Ext K F H F' H'->EnvOk K F0 H0 F' σ' H' ρ->E.ct σ' H'
 | .rt d=>∀ v F' H',Grow F0 H0 F' H'->Rep K F' H' d v->E.rt v H'
inductive Zq0 (K:Frag) (g:DS) (E:Zk4) (σ:L2.St) (H:Hp):Prop
 | mk (ρ:Rho) (F0:Fz) (H0:Hp) (F:Fz) (o:Out) (ok:EnvOk K F0 H0 F σ H ρ) (e:g ρ=some o) (k:EndOk K F0 H0 F H E o)
noncomputable def rdS (K:Frag) (g:DS):TS:=fun E σ H=>Zq0 K g E σ H
theorem EndOk.ext {K:Frag} {F0:Fz} {H0:Hp} {F F':Fz} {H H':Hp} {E:Zk4} {o:Out} (h:EndOk K F0 H0 F H E o) (x:Ext K F H F' H'):EndOk K F0 H0 F' H' E o:=by
 cases o with
 | nx ρ=>exact fun σ' F2 H2 e ok=>h σ' F2 H2 (x.trans e) ok
 | bk ρ=>exact fun σ' F2 H2 e ok=>h σ' F2 H2 (x.trans e) ok
 | ct ρ=>exact fun σ' F2 H2 e ok=>h σ' F2 H2 (x.trans e) ok
 | rt d=>exact h
noncomputable def SD (X:Cx) (st:Stmt) (g:DS):Prop:=PS X st (rdS X.K g)
noncomputable def SDs (X:Cx) (st:List Stmt) (g:DS):Prop:=PSs X st (rdS X.K g)
section
variable {X:Cx} {pos:Pos} {st:Stmt} {rest:List Stmt} {g g':DS} {e:Expr} {f:DE} {t:DT}
noncomputable def ZA:DS:=fun ρ=>some (.nx ρ)
noncomputable def Zp (g g':DS):DS:=fun ρ=>match g ρ with | some (.nx ρ1)=>g' ρ1 | r=>r
theorem ZK:SDs X [] ZA:=PSs.imp Zlz fun E σ H ⟨ρ,F0,H0,F,o,ok,e,k⟩=>by cases e; exact k σ F H .refl ok
theorem Zm (h:SD X st g):SDs X [st] g:=Vw h
theorem Zj (h1:SD X st g) (h2:SDs X rest g'):SDs X (st::rest) (Zp g g'):=PSs.imp (J7 h1 h2) fun E σ H zq=>by
 obtain ⟨ρ,F0,H0,F,o,ok,e,k⟩:=zq
 unfold Zp at e
 cases e1:g ρ with
 | none=>rw [e1] at e; cases e
 | some o1=>
  rw [e1] at e
  cases o1 with
  | nx ρ1=>exact ⟨ρ,F0,H0,F,_,ok,e1,fun σ' F' H' x ok'=>⟨ρ1,F0,H0,F',o,ok',e,k.ext x⟩⟩
  | rt d=>cases e; exact ⟨ρ,F0,H0,F,_,ok,e1,k⟩
  | bk ρ1=>cases e; exact ⟨ρ,F0,H0,F,_,ok,e1,k⟩
  | ct ρ1=>cases e; exact ⟨ρ,F0,H0,F,_,ok,e1,k⟩
noncomputable def ZT (f:DE):DS:=fun ρ=>(f ρ).map .rt
theorem map_some {α β:Type} {o:Option α} {f:α->β} {b:β} (h:o.map f=some b):∃ a,o=some a/\f a=b:=by
 cases o with
 | none=>cases h
 | some a=>exact ⟨a,rfl,Option.some.inj h⟩
theorem Zr (he:ED X e f):SD X (.Return (some e) pos) (ZT f):=PS.imp (ZkB he) fun E σ H zq=>by
 obtain ⟨ρ,F0,H0,F,o,ok,e,k⟩:=zq
 obtain ⟨d,ed,rfl⟩:=map_some e
 exact ⟨ρ,F0,H0,F,d,ok,ed,fun v F' H' g r=>k v F' H' (ok.base.trans g) r⟩
noncomputable def ZY (t:DT) (g g':DS):DS:=fun ρ=>(t ρ).bind fun b=>match b with | true=>g ρ | false=>g' ρ
theorem YN {c:Expr} {a b:List Stmt} (hc:TD X c t) (ha:SDs X a g) (hb:SDs X b g'):SD X (.If c a b pos) (ZY t g g'):=PS.imp (ZlA hc ha hb) fun E σ H zq=>by
 obtain ⟨ρ,F0,H0,F,o,ok,e,k⟩:=zq
 obtain ⟨x,ex,e⟩:=bind_some e
 refine ⟨ρ,F0,H0,F,x,ok,ex,fun F1 H1 g1=>?_⟩
 cases x with
 | true=>rw [if_pos rfl]; exact ⟨ρ,F0,H0,F1,o,ok.grow g1,e,k.ext g1.ext⟩
 | false=>rw [if_neg (by decide)]; exact ⟨ρ,F0,H0,F1,o,ok.grow g1,e,k.ext g1.ext⟩
theorem EnvOk.set {K:Frag} {F0 F:Fz} {H0 H:Hp} {σ:L2.St} {ρ:Rho} {i:Nat} {d:D} {v:V} (ok:EnvOk K F0 H0 F σ H ρ) (r:Rep K F H d v):EnvOk K F0 H0 F (σ.set i (some v)) H (ρ.set i (.val d)) where
 base:=ok.base
 val:=fun j d' h=>by
  by_cases hj:i=j
  ·subst hj
   by_cases hl:i < ρ.length
   ·rw [List.getElem?_set_self hl] at h
    cases h
    exact ⟨v,by rw [List.getElem?_set_self (by rw [<-ok.len]; exact hl)],r⟩
   ·rw [List.getElem?_eq_none (by rw [List.length_set]; omega)] at h; cases h
  ·rw [List.getElem?_set_ne hj] at h ⊢; exact ok.val j d' h
 own:=fun j ds h=>by
  by_cases hj:i=j
  ·subst hj
   by_cases hl:i < ρ.length
   ·rw [List.getElem?_set_self hl] at h; cases h
   ·rw [List.getElem?_eq_none (by rw [List.length_set]; omega)] at h; cases h
  ·rw [List.getElem?_set_ne hj] at h ⊢; exact ok.own j ds h
 inj:=fun j k ds es a h1 h2 h3 h4=>by
  have n1:i≠j:=by
   rintro rfl
   by_cases hl:i < ρ.length
   ·rw [List.getElem?_set_self hl] at h1; cases h1
   ·rw [List.getElem?_eq_none (by rw [List.length_set]; omega)] at h1; cases h1
  have n2:i≠k:=by
   rintro rfl
   by_cases hl:i < ρ.length
   ·rw [List.getElem?_set_self hl] at h2; cases h2
   ·rw [List.getElem?_eq_none (by rw [List.length_set]; omega)] at h2; cases h2
  rw [List.getElem?_set_ne n1] at h1 h3
  rw [List.getElem?_set_ne n2] at h2 h4
  exact ok.inj j k ds es a h1 h2 h3 h4
 len:=by rw [List.length_set,List.length_set,ok.len]
 fz:=ok.fz
noncomputable def ZM (i:Nat) (f:DE):DS:=fun ρ=>(f ρ).map fun d=>.nx (ρ.set i (.val d))
theorem ZF {i:Nat} {x:Str} {pos':Pos} (hN:X.N.Nodup) (hi:X.N[i]?=some x) (hx:Loc X.env.scope x) (he:ED X e f) (hs:swapsWith e (some (.Name x pos')) pos.line X.env=pure false:=by rfl)
  (hf:X.fn x=true\/X.env.scope.names.lookup x=some .local:=by first | exact .inl rfl | exact .inr rfl | assumption):SD X (.Assign [.Name x pos'] e pos) (ZM i f):=
 PS.imp (Zds hN hi hx he hs hf) fun E σ H zq=>by
  obtain ⟨ρ,F0,H0,F,o,ok,e,k⟩:=zq
  obtain ⟨d,ed,rfl⟩:=map_some e
  exact ⟨ρ,F0,H0,F,d,ok,ed,fun v F' H' g r=>k _ F' H' g.ext ((ok.grow g).set r)⟩
theorem EnvOk.setOwn {K:Frag} {F0 F:Fz} {H0 H:Hp} {σ:L2.St} {ρ:Rho} {i:Nat} {ds:List D} {vs:List V} {p:Addr} (ok:EnvOk K F0 H0 F σ H ρ) (hp:H p=none) (hk:K.lookup p=none) (r:RepL K F H ds vs) :
  EnvOk K F0 H0 F (σ.set i (some (.ref p))) (upd H p (.lst vs)) (ρ.set i (.own ds)):=by
 have gr:Grow F H F (upd H p (.lst vs)):=.laid0 hp
 have ok1:=ok.grow gr
 have nF:¬ F p:=fun z=>by
  rcases ok.fz p z with z | ⟨o,z⟩
  ·exact z hp
  ·rw [hk] at z; cases z
 have oth:∀ (j:Nat) ds' a,ρ[j]?=some (.own ds')->σ[j]?=some (some (.ref a))->a≠p:=fun j ds' a h1 h2=>by
  obtain ⟨b,xs,h3,h4,_⟩:=ok.own j ds' h1
  rw [h2] at h3; cases h3
  exact ZR h4 hp
 refine ⟨ok1.base,fun j d' h=>?_,fun j ds' h=>?_,fun j k ds' es a h1 h2 h3 h4=>?_,by rw [List.length_set,List.length_set,ok.len],ok1.fz⟩
 ·by_cases hj:i=j
  ·subst hj
   by_cases hl:i < ρ.length
   ·rw [List.getElem?_set_self hl] at h; cases h
   ·rw [List.getElem?_eq_none (by rw [List.length_set]; omega)] at h; cases h
  ·rw [List.getElem?_set_ne hj] at h ⊢; exact ok1.val j d' h
 ·by_cases hj:i=j
  ·subst hj
   by_cases hl:i < ρ.length
   ·rw [List.getElem?_set_self hl] at h
    cases h
    exact ⟨p,vs,by rw [List.getElem?_set_self (by rw [<-ok.len]; exact hl)],ZZ,nF,ok.base.same.free hp,r.grow gr⟩
   ·rw [List.getElem?_eq_none (by rw [List.length_set]; omega)] at h; cases h
  ·rw [List.getElem?_set_ne hj] at h ⊢; exact ok1.own j ds' h
 ·by_cases hj:i=j
  ·by_cases hk':i=k
   ·exact hj.symm.trans hk'
   ·subst hj
    rw [List.getElem?_set_ne hk'] at h2 h4
    by_cases hl:i < σ.length
    ·rw [List.getElem?_set_self hl] at h3
     cases h3
     exact absurd rfl (oth k es p h2 h4)
    ·rw [List.getElem?_eq_none (by rw [List.length_set]; omega)] at h3; cases h3
  ·by_cases hk':i=k
   ·subst hk'
    rw [List.getElem?_set_ne hj] at h1 h3
    by_cases hl:i < σ.length
    ·rw [List.getElem?_set_self hl] at h4
     cases h4
     exact absurd rfl (oth j ds' p h1 h3)
    ·rw [List.getElem?_eq_none (by rw [List.length_set]; omega)] at h4; cases h4
   ·rw [List.getElem?_set_ne hj] at h1 h3
    rw [List.getElem?_set_ne hk'] at h2 h4
    exact ok.inj j k ds' es a h1 h2 h3 h4
noncomputable def ZoX (K:Frag) (t:TA):TE:=fun σ H Q=>t σ H fun xs H1=>xs.length<=sizeLine/\∀ p,H1 p=none->K.lookup p=none->Q (.ref p) (upd H1 p (.lst xs))
theorem ZlI {es:List Expr} {t:TA} (h:PA X es t):PE X (.List es pos) (ZoX X.K t):=by
 intro pins s σ H Q I hq
 refine wpAny_List_spliced (thn (h pos pins s σ H _ I hq) fun us s1 ⟨xs,H1,I1,r,z,q⟩=>⟨by rw [<-r.length]; exact z,?_⟩)
 have hf:H1 s1.heap.objs.size=none:=I1.hok.fresh (Nat.le_refl _)
 have hk:X.K.lookup s1.heap.objs.size=none:=by
  cases e:X.K.lookup s1.heap.objs.size with
  | none=>rfl
  | some o=>exact absurd (Heap.lt_size (I1.kIn _ o e)) (Nat.lt_irrefl _)
 refine ⟨.ref s1.heap.objs.size,upd H1 s1.heap.objs.size (.lst xs),I1.laid (t':=s1.toks) (fun b u e=>Heap.get?_push_of_some _ e) (Nat.le_refl _) ?_,rfl,q _ hf hk⟩
 exact ⟨z,us,0,r,Heap.get?_push_size _ rfl⟩
noncomputable def Zc3 (i:Nat) (as:DA):DS:=fun ρ=>(as ρ).bind fun xs=>if xs.length<=lim then some (.nx (ρ.set i (.own xs))) else none
theorem Zhe {i:Nat} {x:Str} {pos' lpos:Pos} {es:List Expr} {as:DA} (hN:X.N.Nodup) (hi:X.N[i]?=some x) (hx:Loc X.env.scope x) (ha:AD X es as) (hs:swapsWith (.List es lpos) (some (.Name x pos')) pos.line X.env=pure false:=by rfl)
  (hf:X.fn x=true\/X.env.scope.names.lookup x=some .local:=by first | exact .inl rfl | exact .inr rfl | assumption):SD X (.Assign [.Name x pos'] (.List es lpos) pos) (Zc3 i as):=
 PS.imp (Zds hN hi hx (ZlI ha) hs hf) fun E σ H zq=>by
  obtain ⟨ρ,F0,H0,F,o,ok,e,k⟩:=zq
  obtain ⟨xs,ex,e⟩:=bind_some e
  obtain ⟨hl,rfl⟩:=Ys e
  exact ⟨ρ,F0,H0,F,xs,ok,ex,fun vs F1 H1 g1 r1=>⟨by rw [<-r1.length]; exact Q4 hl,fun p hp hk=>k _ F1 _ (g1.trans (.laid0 hp)).ext ((ok.grow g1).setOwn hp hk r1)⟩⟩
theorem Za3 {K:Frag} {F:Fz} {H:Hp} {a:Addr} {xs ys:List V} (ha:H a=some (.lst xs)) (hF:¬ F a):Ext K F H F (upd H a (.lst ys)) where
 sub:=fun _ h=>h
 ls:=fun b zs hb h=>by
  have ne:b≠a:=fun z=>hF (z ▸ hb)
  rcases h with (h | ⟨o,h⟩) | h
  ·exact .inl (.inl (by rw [ZU ne]; exact h))
  ·exact .inl (.inr ⟨o,by rw [ZU ne]; exact h⟩)
  ·exact .inr h
 ts:=fun b zs h=>by
  rcases h with (h | ⟨o,h⟩) | h
  ·have ne:b≠a:=by rintro rfl; rw [ha] at h; cases h
   exact .inl (.inl (by rw [ZU ne]; exact h))
  ·have ne:b≠a:=by rintro rfl; rw [ha] at h; cases h
   exact .inl (.inr ⟨o,by rw [ZU ne]; exact h⟩)
  ·exact .inr h
theorem EnvOk.wrt {K:Frag} {F0 F:Fz} {H0 H:Hp} {σ:L2.St} {ρ:Rho} {i:Nat} {ds ds':List D} {xs ys:List V} {a:Addr} (ok:EnvOk K F0 H0 F σ H ρ) (ho:ρ[i]?=some (.own ds)) (hs:σ[i]?=some (some (.ref a)))
  (ha:H a=some (.lst xs)) (r:RepL K F H ds' ys):EnvOk K F0 H0 F σ (upd H a (.lst ys)) (ρ.set i (.own ds')):=by
 obtain ⟨a',xs',h1,h2,h3,h4,h5⟩:=ok.own i ds ho
 rw [hs] at h1; cases h1
 rw [ha] at h2; cases h2
 have hl:i < ρ.length:=(List.getElem?_eq_some_iff.mp ho).1
 have x:=Za3 (K:=K) (ys:=ys) ha h3
 refine ⟨⟨fun b o q=>?_,ok.base.sub,fun b z=>?_⟩,fun j d' h=>?_,fun j es h=>?_,fun j k es fs b q1 q2 q3 q4=>?_,by rw [List.length_set,ok.len],fun b z=>?_⟩
 ·have ne:b≠a:=ZR q h4
  rw [ZU ne]; exact ok.base.same b o q
 ·rcases ok.base.new b z with z1 | ⟨z1,z2⟩
  ·exact .inl z1
  ·refine .inr ⟨z1,?_⟩
   by_cases e:b=a
   ·rw [e,ZZ]; simp
   ·rw [ZU e]; exact z2
 ·have hj:i≠j:=by rintro rfl; rw [List.getElem?_set_self hl] at h; cases h
  rw [List.getElem?_set_ne hj] at h
  obtain ⟨v,e1,e2⟩:=ok.val j d' h
  exact ⟨v,e1,Rep.ext x e2⟩
 ·by_cases hj:i=j
  ·subst hj
   rw [List.getElem?_set_self hl] at h
   cases h
   exact ⟨a,ys,hs,ZZ,h3,h4,RepL.ext x r⟩
  ·rw [List.getElem?_set_ne hj] at h
   obtain ⟨b,zs,e1,e2,e3,e4,e5⟩:=ok.own j es h
   have ne:b≠a:=by rintro rfl; exact hj (ok.inj i j ds es b ho h hs e1)
   exact ⟨b,zs,e1,by rw [ZU ne]; exact e2,e3,e4,RepL.ext x e5⟩
 ·have get:∀ (j:Nat) es,(ρ.set i (.own ds'))[j]?=some (.own es)->∃ es',ρ[j]?=some (.own es'):=fun j es h=>by
   by_cases hj:i=j
   ·exact ⟨ds,hj ▸ ho⟩
   ·rw [List.getElem?_set_ne hj] at h; exact ⟨es,h⟩
  obtain ⟨e1,g1⟩:=get j es q1
  obtain ⟨e2,g2⟩:=get k fs q2
  exact ok.inj j k e1 e2 b g1 g2 q3 q4
 ·rcases ok.fz b z with z1 | z1
  ·left
   by_cases e:b=a
   ·rw [e,ZZ]; simp
   ·rw [ZU e]; exact z1
  ·exact .inr z1
noncomputable def ZmH (i:Nat) (f:DE):DS:=fun ρ=>match ρ[i]? with
 | some (.own ds)=>(f ρ).bind fun d=>if ds.length < lim then some (.nx (ρ.set i (.own (ds++[d])))) else none
 | _=>none
theorem Zhg {i:Nat} {x:Expr} {pos' apos:Pos} (hx:PE X x (ZoE i)) (he:ED X e f)
  (hbase:attributeBase x "append" X.env (eval x X.env)=eval x X.env:=by rfl)
  (hfew:((backTo pos' (starEach [e] X.env)).all (fun x=>!x.1)&&(backToKw pos' (keywordEach [] X.env)).all (fun x=>x.1.isSome)
   && decide ([e].length+([]:List Keyword).length+(if ([]:List Keyword).isEmpty then 0 else 1) < 30))=true:=by rfl)
  (hline:(apos.endLine==pos'.line)=true:=by rfl) (hs:starEach [e] X.env=(false,eval e X.env)::starEach [] X.env:=by rfl) (hplain:(backTo pos' (starEach [] X.env)).any (·.1)=false:=by rfl)
  (hsw:swapsWith (.Call (.Attribute x "append" apos) [e] [] pos') none pos.line X.env=pure false:=by rfl) :
  SD X (.Expr (.Call (.Attribute x "append" apos) [e] [] pos') pos) (ZmH i f):=
 PS.imp (ZlB (ZjB PySem.F.plainAttrs_list PySem.F.slot_list_append PySem.F.type_list_append ZaR hx (YQ he Va hs) hbase hfew hline hs hplain) hsw) fun E σ H zq=>by
  obtain ⟨ρ,F0,H0,F,o,ok,e,k⟩:=zq
  unfold ZmH at e
  split at e
  ·rename_i ds ho
   obtain ⟨d,ed,e⟩:=bind_some e
   obtain ⟨hl,rfl⟩:=Ys e
   obtain ⟨a,xs,h1,h2,h3,h4,h5⟩:=ok.own i ds ho
   refine ⟨_,h1,.inl ⟨rfl,xs,.of h2⟩,ρ,F0,H0,F,d,ok,ed,fun v F1 H1 g1 r1=>?_⟩
   have ok1:=ok.grow g1
   have h2':=g1.same _ _ h2
   obtain ⟨a',xs',q1,q2,q3,q4,q5⟩:=ok1.own i ds ho
   rw [h1] at q1; cases q1
   rw [h2'] at q2; cases q2
   refine ⟨a,xs,v,rfl,rfl,h2',?_,k _ F1 _ (g1.ext.trans (Za3 h2' q3)) (ok1.wrt ho h1 h2' (q5.append (.cons r1 .nil)))⟩
   rw [<-q5.length]
   exact Nat.lt_of_lt_of_le hl (Q4 (Nat.le_refl _))
  ·cases e
end
section
variable {X:Cx} {pos:Pos} {st:Stmt} {rest:List Stmt} {g g':DS} {e:Expr} {f:DE} {t:DT}
noncomputable def Jf (t:DT) (g:DS):Nat->DS
 | 0,_=>none
 | n+1,ρ=>(t ρ).bind fun b=>match b with
  | true=>(match g ρ with | some (.nx ρ')=>Jf t g n ρ' | some (.ct ρ')=>Jf t g n ρ' | some (.bk ρ')=>some (.nx ρ') | r=>r)
  | false=>some (.nx ρ)
theorem Zjo {c:Expr} {body:List Stmt} (n:Nat) (hp:PassesOwn (model X.prog X.w) X.A X.env X.xe) (hc:TD X c t) (hb:SDs X body g):SD X (.While c body [] pos) (Jf t g n):=
 PS.imp (Zjv hp hc hb) fun E σ H zq=>by
  obtain ⟨ρ,F0,H0,F,o,ok,e,k⟩:=zq
  refine ⟨fun m σ' H'=>∃ ρ' F',EnvOk X.K F0 H0 F' σ' H' ρ'/\Ext X.K F H F' H'/\Jf t g m ρ'=some o,⟨n,ρ,F,ok,.refl,e⟩,?_⟩
  rintro m σ1 H1 ⟨ρ1,F1,ok1,x1,e1⟩
  cases m with
  | zero=>cases e1
  | succ m=>
   unfold Jf at e1
   obtain ⟨b,eb,e1⟩:=bind_some e1
   refine ⟨ρ1,F0,H0,F1,b,ok1,eb,fun F2 H2 g2=>?_⟩
   have x2:=x1.trans (g2.ext (K:=X.K))
   cases b with
   | false=>
    refine Zp3 ?_
    cases e1
    exact k σ1 F2 H2 x2 (ok1.grow g2)
   | true=>
    refine Zpo ?_
    refine ⟨fun σ' H'=>∃ ρ' F',EnvOk X.K F0 H0 F' σ' H' ρ'/\Ext X.K F H F' H'/\Jf t g m ρ'=some o,fun σ' H' z=>⟨m,by omega,z⟩,?_⟩
    simp only at e1
    cases eg:g ρ1 with
    | none=>rw [eg] at e1; cases e1
    | some o1=>
     rw [eg] at e1
     refine ⟨ρ1,F0,H0,F2,o1,ok1.grow g2,eg,?_⟩
     cases o1 with
     | nx ρ2=>exact fun σ' F' H' x ok'=>⟨ρ2,F',ok',x2.trans x,e1⟩
     | ct ρ2=>exact fun σ' F' H' x ok'=>⟨ρ2,F',ok',x2.trans x,e1⟩
     | bk ρ2=>cases e1; exact fun σ' F' H' x ok'=>k σ' F' H' (x2.trans x) ok'
     | rt d=>cases e1; exact k
noncomputable abbrev DG:=D->Rho->Option Rho
inductive Zq3 (K:Frag) (b:DG) (v:V) (σ:L2.St) (H:Hp) (Q:L2.St->Hp->Prop):Prop
 | mk (ρ:Rho) (F0:Fz) (H0:Hp) (F:Fz) (d:D) (ρ':Rho) (ok:EnvOk K F0 H0 F σ H ρ) (r:Rep K F H d v) (e:b d ρ=some ρ') (q:∀ σ' F' H',Grow F H F' H'->EnvOk K F0 H0 F' σ' H' ρ'->Q σ' H')
noncomputable def rdG (K:Frag) (b:DG):TG:=fun v σ H Q=>Zq3 K b v σ H Q
noncomputable def GD (X:Cx) (tg:Expr) (b:DG):Prop:=PG X tg (rdG X.K b)
theorem PG.imp {tg:Expr} {t t':TG} (h:PG X tg t) (i:∀ v σ H Q,t' v σ H Q->t v σ H Q):PG X tg t':=fun pins s σ H v u Q I r q=>h pins s σ H v u Q I r (i v σ H Q q)
noncomputable def Zz (i:Nat):DG:=fun d ρ=>some (ρ.set i (.val d))
theorem Yx {i:Nat} {x:Str} (hN:X.N.Nodup) (hi:X.N[i]?=some x) (hx:Loc X.env.scope x) (hf:X.fn x=true\/X.env.scope.names.lookup x=some .local:=by first | exact .inl rfl | exact .inr rfl | assumption):GD X (.Name x pos) (Zz i):=
 PG.imp (ZeG hN hi hx hf) fun v σ H Q ⟨ρ,F0,H0,F,d,ρ',ok,r,e,q⟩=>by cases e; exact q _ F H .refl (ok.set r)
noncomputable def Y1 (i j:Nat):DG:=fun d ρ=>match d with | .tup [a,b]=>some ((ρ.set i (.val a)).set j (.val b)) | _=>none
theorem Wt {i j:Nat} {x y:Str} {p1 p2:Pos} {k} (hc:X.calm=true) (hN:X.N.Nodup) (hi:X.N[i]?=some x) (hj:X.N[j]?=some y) (hx:Loc X.env.scope x) (hy:Loc X.env.scope y)
  (hf:X.fn x=true\/X.env.scope.names.lookup x=some .local:=by first | exact .inl rfl | exact .inr rfl | assumption)
  (hf':X.fn y=true\/X.env.scope.names.lookup y=some .local:=by first | exact .inl rfl | exact .inr rfl | assumption):GD X (.Tuple [.Name x p1,.Name y p2] k pos) (Y1 i j):=
 PG.imp (Zns (n:=2) hc (Zfv (ZeG hN hi hx hf) (Zfv (ZeG hN hj hy hf') ZlG))) fun v σ H Q zq=>by
  obtain ⟨ρ,F0,H0,F,d,ρ',ok,r,e,q⟩:=zq
  unfold Y1 at e
  split at e
  ·rename_i a b
   cases e
   unfold Rep at r
   obtain ⟨p,xs,rfl,ht,hl⟩:=r
   obtain ⟨va,vb,rfl,ra,rb⟩:=Zjq hl
   refine ⟨p,_,rfl,ht,rfl,va,[vb],rfl,vb,[],rfl,rfl,?_⟩
   exact q _ F H .refl ((ok.set ra).set rb)
  ·cases e
noncomputable def QM (b:DG) (g:DS):List D->DS
 | [],ρ=>some (.nx ρ)
 | x::xs,ρ=>(b x ρ).bind fun ρ1=>match g ρ1 with
  | some (.nx ρ2)=>QM b g xs ρ2
  | some (.ct ρ2)=>QM b g xs ρ2
  | some (.bk ρ2)=>some (.nx ρ2)
  | r=>r
noncomputable def V6 (it:Rho->Option (List D)) (b:DG) (g:DS):DS:=fun ρ=>(it ρ).bind fun xs=>QM b g xs ρ
noncomputable def FW (K:Frag) (F0:Fz) (H0:Hp) (F:Fz) (H:Hp) (b:DG) (g:DS) (xs:List D) (o:Out) (i:Nat) (σ':L2.St) (H':Hp):Prop:=
 ∃ ρ' F',EnvOk K F0 H0 F' σ' H' ρ'/\Ext K F H F' H'/\QM b g (xs.drop i) ρ'=some o
noncomputable def ZqR (K:Frag) (tl:TE):TI:=fun σ H R=>tl σ H fun x H1=>∃ a,x=.ref a/\(((∃ xs,SqL K H1 a xs)/\R (Itl K a) H1)\/((∃ xs,SqT K H1 a xs)/\R (Itt K a) H1))
theorem Znr {tg l:Expr} {tl:TE} (hl:PE X l tl):PI X tg l (ZqR X.K tl):=by
 intro pins s σ H R I h
 refine thn (hl pins s σ H _ I h) fun v s1 zq=>?_
 obtain ⟨x,H1,I1,r1,q1⟩:=zq
 obtain ⟨a,e,q1⟩:=q1
 subst e
 cases r1
 have fpk:∀ b∈[s1.heap.objs.size],ZbM X pins H1 b:=fun b hb=>by
  have e:b=s1.heap.objs.size:=by simpa using hb
  subst e
  exact I1.fpOk (Nat.le_refl _) (I1.hok.fresh (Nat.le_refl _))
 rcases q1 with ⟨⟨xs,hq⟩,q⟩ | ⟨⟨xs,hq⟩,q⟩
 ·obtain ⟨its,rv,p,hz⟩:=I1.list hq
  refine wpAny_pyIter_list p.isList ?_
  exact ⟨s1.heap.objs.size,[s1.heap.objs.size],_,_,H1,rfl,I1.kept (t':=s1.toks) fun b o e=>Heap.get?_push_of_some _ e,ZgY a _,⟨_,Heap.get?_push_size _ rfl,rfl,rfl⟩,fpk,q⟩
 ·obtain ⟨its,rv,p,hz⟩:=I1.tuple hq
  refine wpAny_pyIter_tuple (show s1.heap.IsTuple a its.toArray from p) ?_
  exact ⟨s1.heap.objs.size,[s1.heap.objs.size],_,_,H1,rfl,I1.kept (t':=s1.toks) fun b o e=>Heap.get?_push_of_some _ e,Zf0 a _,⟨_,Heap.get?_push_size _ rfl,rfl,rfl⟩,fpk,q⟩
noncomputable def YR (f:DE):Rho->Option (List D):=fun ρ=>(f ρ).bind fun d=>match d with | .lst xs=>some xs | .tup xs=>some xs | _=>none
noncomputable def QC (lo:Int) (n:Nat):List D:=(List.range n).map fun (k:Nat)=>D.int (lo+(k:Int))
noncomputable def Wn (i:Int):Bool:=decide (-(2 ^ 62)<=i)&&decide (i < 2 ^ 62)
noncomputable def ZbC (f:DE):Rho->Option (List D):=fun ρ=>(f ρ).bind fun d=>match d with | .int j=>if Wn j then some (QC 0 j.toNat) else none | _=>none
noncomputable def Zh6 (f g:DE):Rho->Option (List D):=fun ρ=>(f ρ).bind fun d=>(g ρ).bind fun d'=>match d,d' with | .int i,.int j=>if Wn i&&Wn j then some (QC i (j-i).toNat) else none | _,_=>none
theorem ZcD {i:Int} (h:Wn i=true):-(2 ^ 62)<=i/\i < 2 ^ 62:=by
 obtain ⟨a,b⟩:=Bool.and_eq_true_iff.mp h; exact ⟨of_decide_eq_true a,of_decide_eq_true b⟩
noncomputable def rel (i:Nat) (ρ:Rho):Rho:=match ρ[i]? with | some (.own ds)=>ρ.set i (.val (.lst ds)) | _=>ρ
theorem EnvOk.rel {K:Frag} {F0 F:Fz} {H0 H:Hp} {σ:L2.St} {ρ:Rho} (ok:EnvOk K F0 H0 F σ H ρ) (i:Nat):∃ F',EnvOk K F0 H0 F' σ H (rel i ρ)/\Ext K F H F' H:=by
 unfold L3.rel
 split
 ·rename_i ds ho
  obtain ⟨a,xs,h1,h2,h3,h4,h5⟩:=ok.own i ds ho
  have x:Ext K F H (fun b=>F b\/b=a) H:=⟨fun b z=>.inl z,fun b ys _ z=>z,fun b ys z=>z⟩
  have hl:i < ρ.length:=(List.getElem?_eq_some_iff.mp ho).1
  have old:∀ (j:Nat) es,(ρ.set i (.val (.lst ds)))[j]?=some (.own es)->i≠j/\ρ[j]?=some (.own es):=fun j es h=>by
   by_cases hj:i=j
   ·subst hj; rw [List.getElem?_set_self hl] at h; cases h
   ·rw [List.getElem?_set_ne hj] at h; exact ⟨hj,h⟩
  refine ⟨fun b=>F b\/b=a,⟨⟨ok.base.same,fun b z=>.inl (ok.base.sub b z),fun b z=>?_⟩,fun j d h=>?_,fun j es h=>?_,fun j k es fs b q1 q2 q3 q4=>?_,by rw [List.length_set,ok.len],fun b z=>?_⟩,x⟩
  ·rcases z with z | rfl
   ·exact ok.base.new b z
   ·exact .inr ⟨h4,by rw [h2]; simp⟩
  ·by_cases hj:i=j
   ·subst hj
    rw [List.getElem?_set_self hl] at h
    cases h
    refine ⟨_,h1,?_⟩
    unfold Rep
    exact ⟨a,xs,rfl,.inr rfl,.of h2,RepL.ext x h5⟩
   ·rw [List.getElem?_set_ne hj] at h
    obtain ⟨v,e1,e2⟩:=ok.val j d h
    exact ⟨v,e1,Rep.ext x e2⟩
  ·obtain ⟨hj,h⟩:=old j es h
   obtain ⟨b,ys,e1,e2,e3,e4,e5⟩:=ok.own j es h
   refine ⟨b,ys,e1,e2,fun z=>?_,e4,RepL.ext x e5⟩
   rcases z with z | rfl
   ·exact e3 z
   ·exact hj (ok.inj i j ds es b ho h h1 e1)
  ·obtain ⟨_,q1⟩:=old j es q1
   obtain ⟨_,q2⟩:=old k fs q2
   exact ok.inj j k es fs b q1 q2 q3 q4
  ·rcases z with z | rfl
   ·exact ok.fz b z
   ·exact .inl (by rw [h2]; simp)
 ·exact ⟨F,ok,.refl⟩
noncomputable def ZoI (i:Nat) (g:DS):DS:=fun ρ=>g (rel i ρ)
theorem Zm4 (i:Nat) (h:SD X st g):SD X st (ZoI i g):=PS.imp h fun E σ H zq=>by
 obtain ⟨ρ,F0,H0,F,o,ok,e,k⟩:=zq
 obtain ⟨F',ok',x⟩:=ok.rel i
 exact ⟨_,F0,H0,F',o,ok',e,k.ext x⟩
mutual
noncomputable def noL:D->Bool
 | .lst _=>false
 | .tup xs=>ZnK xs
 | _=>true
noncomputable def ZnK:List D->Bool
 | []=>true
 | d::ds=>noL d&&ZnK ds
end
mutual
theorem Rep.noL {K:Frag} {F F':Fz} {H:Hp}:∀ {d:D} {v:V},L3.noL d=true->Rep K F H d v->Rep K F' H d v
 | .non,_,_,h=>h
 | .bl _,_,_,h=>h
 | .int _,_,_,h=>h
 | .str _,_,_,h=>h
 | .tup ds,_,n,h=>by
  unfold Rep at h ⊢
  obtain ⟨a,xs,rfl,ht,hr⟩:=h
  exact ⟨a,xs,rfl,ht,RepL.noL (by simpa [L3.noL] using n) hr⟩
 | .lst ds,_,n,h=>by simp [L3.noL] at n
theorem RepL.noL {K:Frag} {F F':Fz} {H:Hp}:∀ {ds:List D} {vs:List V},ZnK ds=true->RepL K F H ds vs->RepL K F' H ds vs
 | [],_,_,h=>by rw [h.unnil]; exact .nil
 | d::ds,_,n,h=>by
  obtain ⟨y,ys,rfl,h1,h2⟩:=h.uncons
  have n':L3.noL d=true/\ZnK ds=true:=by simpa [ZnK] using n
  exact .cons (Rep.noL n'.1 h1) (RepL.noL n'.2 h2)
end
end
noncomputable def Zq (n:Nat) (g:DS):List D->Option D:=fun xs=>(g (xs.map .val++List.replicate (n-xs.length) .no)).bind fun o=>match o with | .rt d=>some d | .nx _=>some .non | _=>none
section
variable {P:Program} {w:World} {K:Frag} {mg:Str->Option Value} {base:Heap}
theorem ZqV {x qual:Str} {st:Stmt} {f:Addr} {fd:FuncData} {N ps:List Str} {k:Nat} {g:DS} (F:Fun K x qual st f fd) (S:Zt N ps (Zi st))
  (hb:∀ (cdv:Value) (A:Around) (outer:List Env) (s:Shared) (H:Hp) (E:XK),Room k (A.deeper (envOfC qual (Zi st) s.heap.objs.size f cdv)) ->
   SDs (ZfR CX0 P w K mg base N qual (Zi st) f cdv A outer s H E).nox (Q7 st) g):FnD P w K mg base (k+1) f fd ps (Zq N.length g):=by
 have hpl:ps.length<=N.length:=by have:=congrArg List.length S.pre; rw [List.length_take] at this; omega
 refine F.ok S (fun vs H Q E h=>?_) (fun cdv A outer s H vs Q E hr h=>⟨_,hb cdv A outer s H E hr,?_⟩)
 ·obtain ⟨xs,F,d,hl,hr,_⟩:=h
  rw [<-hr.length,hl]
 ·obtain ⟨xs,Fz,d,hl,hr',hfz,e,q⟩:=h
  obtain ⟨o,eo,e⟩:=bind_some e
  have hlv:=hr'.length
  refine ⟨_,Fz,H,Fz,o,⟨.refl,fun i d' h=>?_,fun i ds h=>?_,fun i j ds es a h=>?_,?_,hfz⟩,eo,?_⟩
  ·have hi:i < xs.length:=by
    by_cases hi:i < xs.length
    ·exact hi
    ·rw [List.getElem?_append_right (by simpa using hi),List.getElem?_replicate] at h
     split at h <;> cases h
   rw [List.getElem?_append_left (by simpa using hi),List.getElem?_map,List.getElem?_eq_getElem hi] at h
   cases h
   obtain ⟨v,ev,rv⟩:=hr'.get (show xs[i]?=some xs[i] by simp [hi])
   refine ⟨v,?_,rv⟩
   unfold L2.start
   rw [List.getElem?_append_left (by simp; omega),List.getElem?_map,ev]; rfl
  ·by_cases hi:i < xs.length
   ·rw [List.getElem?_append_left (by simpa using hi),List.getElem?_map,List.getElem?_eq_getElem hi] at h; cases h
   ·rw [List.getElem?_append_right (by simpa using hi),List.getElem?_replicate] at h
    split at h <;> cases h
  ·by_cases hi:i < xs.length
   ·rw [List.getElem?_append_left (by simpa using hi),List.getElem?_map,List.getElem?_eq_getElem hi] at h; cases h
   ·rw [List.getElem?_append_right (by simpa using hi),List.getElem?_replicate] at h
    split at h <;> cases h
  ·unfold L2.start; simp; omega
  ·cases o with
   | rt d'=>cases e; exact fun v F' H' g r=>q v F' H' g r
   | nx ρ=>cases e; exact fun σ' F' H' x ok=>q _ F' H' ok.base (by unfold Rep; rfl)
   | bk ρ=>cases e
   | ct ρ=>cases e
end
section
variable {X:Cx} {pins:List (Addr×Obj)} {σ:L2.St} {H:Hp} {s:Shared} {h':Heap}
theorem ZaT {t':Nat} {e it:Addr} {o:HO} (I:Inv X pins σ H s) (f1:ZbM X pins H e) (f2:ZbM X pins H it) (k:∀ b u,b≠e->b≠it->s.heap.get? b=some u->h'.get? b=some u)
  (new:ObjOk X.prog X.w (upd H s.heap.objs.size o) h' s.heap.objs.size o):Inv X pins σ (upd H s.heap.objs.size o) { s with heap:=h',toks:=t' }:=by
 have hp:H s.heap.objs.size=none:=I.hok.fresh (Nat.le_refl _)
 have inH:∀ {b:Addr} {u:Obj},s.heap.get? b=some u->b≠s.heap.objs.size:=fun q=>Nat.ne_of_lt (Heap.lt_size q)
 have kk:∀ b u,b ∉ [e,it]->s.heap.get? b=some u->h'.get? b=some u:=fun b u hb q=>k b u (fun z=>hb (by simp [z])) (fun z=>hb (by simp [z])) q
 have nT:∀ b u,H b=some u->b ∉ [e,it]:=fun b u q z=>by
  rcases List.mem_cons.mp z with z | z
  ·rw [z,f1.1] at q; cases q
  ·rw [List.mem_singleton] at z; rw [z,f2.1] at q; cases q
 refine I.step (g':=s.gens) (d':=s.drawn) (ch:=[e,it]) (fun b hb=>?_) (fun b u _ _ hc q _=>kk b u hc q) (fun b u _ _ hc q _=>⟨u.slots,kk b u hc q⟩) (fun b u hc q n=>?_) (fun b u hc q=>⟨u,kk b u hc q⟩)
  (fun b xs q=>?_) (fun b u xs q=>?_) (fun b ps q=>⟨#[],?_⟩) (fun m hm=>?_) (fun b u q=>?_) I.bare
 ·rcases List.mem_cons.mp hb with z | z
  ·subst z; exact ⟨f1.2.2.2.1,f1.2.1,f1.2.2.2.2.1,f1.2.2.2.2.2⟩
  ·rw [List.mem_singleton] at z; subst z; exact ⟨f2.2.2.2.1,f2.2.1,f2.2.2.2.2.1,f2.2.2.2.2.2⟩
 ·rw [ZU (inH q)]; exact n
 ·rw [ZU (ZR q hp)]; exact q
 ·rw [ZU (ZR q hp)]; exact q
 ·rw [ZU (ZR q hp),q]; simp
 ·obtain ⟨ob,es,ep,ho,r⟩:=hm
  exact ⟨ob,es,ep,k _ ob (fun z=>f1.2.1 z.symm) (fun z=>f2.2.1 z.symm) ho,r⟩
 ·by_cases hb:b=s.heap.objs.size
  ·subst hb
   rw [ZZ] at q
   cases q
   exact new
  ·rw [ZU hb] at q
   refine (I.hok b u q).stay (fun c v hc r=>kk c v ?_ r) (fun c r=>by rw [ZU (ZR r hp)]; exact r) fun c xs r=>by rw [ZU (ZR r hp)]; exact r
   rcases hc with z | z
   ·rw [z]; exact nT b u q
   ·exact nT c _ z
end
noncomputable def Ite (K : Frag) (a : Addr) (tup : Bool) : It :=
  ⟨fun i H => ∃ xs x, (if tup then SqT K H a xs else SqL K H a xs) /\ xs[i]? = some x,
   fun i H x H' => ∃ p y, (∀ xs, (if tup then SqT K H a xs else SqL K H a xs) -> xs[i]? = some y) /\ H p = none /\ x = .ref p /\ H' = upd H p (.tup [.int i, y]),
   fun i H => ∃ xs, (if tup then SqT K H a xs else SqL K H a xs) /\ xs.length <= i⟩
theorem Zf3 {P:Program} {w:World} {K:Frag} {elts:List Expr} {k:Nat} {pos:Pos} (a e it:Addr) (hei:e≠it) :
  ZiZ P w K (.Tuple elts k pos) (Ite K a false) [e,it] e (fun i h=>(∃ old,IsEnum h e it i old)/\h.IsListIter it a i) where
 mem:=by simp
 obj:=fun i h st b hb=>by
  obtain ⟨⟨old,he⟩,o,h1,h2,h3⟩:=st
  rcases List.mem_cons.mp hb with z | z
  ·subst z; exact ⟨_,he,fun v z=>by have z':Data.fields _=Data.cell v:=z; cases z'⟩
  ·rw [List.mem_singleton] at z; subst z; exact ⟨o,h1,fun v z=>by rw [h3] at z; cases z⟩
 keep:=fun i h h' st kp=>by
  obtain ⟨⟨old,he⟩,st⟩:=st
  exact ⟨⟨old,kp e (by simp) _ he⟩,st.at fun o q=>kp it (by simp) o q⟩
 item:=by
  intro X hP hw hK hc i pins s σ H E I hf st hg
  subst hP hw hK
  obtain ⟨xs,x,hq,hx⟩:=hg
  have hq:SqL X.K H a xs:=hq
  obtain ⟨⟨old,he⟩,hit⟩:=st
  obtain ⟨its,rv,p,hz⟩:=I.list hq
  obtain ⟨u,hu,ru⟩:=rv.get hx
  have f1:=hf e (by simp)
  have f2:=hf it (by simp)
  refine wpAny_pyNext_enum_item he hit p.isList (x:=u) (by simpa using hu) hei fun h1 he1 hit1 ht1 hz1 kp=>?_
  have hp:H s.heap.objs.size=none:=I.hok.fresh (Nat.le_refl _)
  have I1:Inv X pins σ (upd H s.heap.objs.size (.tup [.int i,x])) { s with heap:=h1,toks:=s.toks+1 }:=
   ZaT I f1 f2 (fun b ob h1' h2' q=>kp b ob h1' h2' q) ⟨by show 2<=sizeLine; decide,[.int i s.toks,u],.cons ⟨_,rfl⟩ (.cons ru .nil),⟨_,ht1,rfl,_,rfl⟩⟩
  refine ⟨_,rfl,wpAny_letOwnedTupleGo_enum (s:={ s with heap:=h1,toks:=s.toks+1 }) he1 fun h2 he2 hs2=>?_⟩
  have ne:∀ {b},H b=none->b∈[e,it]->b≠s.heap.objs.size:=fun {b} _ hb=>by
   rcases List.mem_cons.mp hb with z | z
   ·rw [z]; exact Nat.ne_of_lt (Heap.lt_size he)
   ·rw [List.mem_singleton] at z; rw [z]; obtain ⟨o,q,_⟩:=hit; exact Nat.ne_of_lt (Heap.lt_size q)
  have fz:∀ b∈[e,it],upd H s.heap.objs.size (.tup [.int i,x]) b=none:=fun b hb=>by rw [ZU (ne (hf b hb).1 hb)]; exact (hf b hb).1
  have I2:Inv X pins σ (upd H s.heap.objs.size (.tup [.int i,x])) { s with heap:=h2,toks:=s.toks+1 }:=
   L2.Inv.turned (s:={ s with heap:=h1,toks:=s.toks+1 }) (t':=s.toks+1) (it:=e) I1 (fun b ob hb q=>(hs2.2 b hb).trans q) (fz e (by simp)) f1.2.1 f1.2.2.2.1 f1.2.2.2.2.1 f1.2.2.2.2.2
  exact ⟨.ref s.heap.objs.size,_,I2,rfl,⟨s.heap.objs.size,x,fun xs' hq'=>by rw [I.list_inj (show SqL X.K H a xs' from hq') hq]; exact hx,hp,rfl,rfl⟩,⟨⟨u,he2⟩,hit1.at fun ob q=>(hs2.2 it (Ne.symm hei)).trans q⟩,fz⟩
 done:=by
  intro X hP hw hK hc i pins s σ H E I hf st hg
  subst hP hw hK
  obtain ⟨xs,hq,hx⟩:=hg
  have hq:SqL X.K H a xs:=hq
  obtain ⟨⟨old,he⟩,hit⟩:=st
  obtain ⟨its,rv,p,hz⟩:=I.list hq
  have hl:=rv.length
  have f2:=hf it (by simp)
  exact wpAny_pyNext_enum_end (I.ok.hd hc) he hit p.isList (by simp; omega) fun h1 hb=>⟨rfl,I.turned (t':=s.toks) (it:=it) (fun b ob hb' q=>hb b ob hb' q) f2.1 f2.2.1 f2.2.2.2.1 f2.2.2.2.2.1 f2.2.2.2.2.2⟩
 self:=fun _ _ _ _ _ st h=>by
  obtain ⟨⟨old,he⟩,_⟩:=st
  exact wpAny_pyIter_enum he h
open PySem.AutoSeq1 (wpAny_loadPart')
section
variable {prog:Program} {w:World} {A:Around} {E:Value->Shared->Prop} {s:Shared}
theorem Zgl {it t:Addr} {i:Nat} {its:Array Value} {x:Value} {Q:Value->Shared->Prop} (hi:s.heap.IsTupleIter it t i) (ht:s.heap.IsTuple t its) (hx:its[i]?=some x)
  (q:∀ k,k.IsTupleIter it t (i+1)->Heap.SameBut it s.heap k->Q x { s with heap:=k }):wpAny (model prog w) A (Builtin.SmallTypes.nextOf (.ref it)) Q E s:=by
 obtain ⟨o,ho,hc,hd⟩:=id hi
 obtain ⟨ot,hot,_,nt,hdt⟩:=ht
 unfold Builtin.SmallTypes.nextOf
 refine wpAny_bind (wpAny_callSpecial?_slot (name:=Str.ofString "__next__") hi.typeIs F.slot_tuple_iterator_next (wpAny_call_entry F.slot_tuple_iterator_next hi.typeIs F.entry_tuple_iterator_next ?_ (F.args_tuple_iterator_next_1 _)))
 show wpAny _ _ (field (.ref it) 0 >>= _) _ _ s; refine wpAny_bind (wpAny_field ho hd (x:=.ref t) rfl ?_)
 show wpAny _ _ (if (Value.ref t==Value.none)=true then _ else _) _ _ s; rw [if_neg (show ¬ ((Value.ref t==Value.none)=true) from Bool.false_ne_true)]
 show wpAny _ _ (field (.ref it) 1 >>= _) _ _ s; refine wpAny_bind (wpAny_field ho hd (x:=.int i 0) rfl ?_)
 show wpAny _ _ (seqItems? (.ref t) >>= _) _ _ s; refine wpAny_bind (wpAny_seqItems hot hdt ?_)
 simp only [Int.toNat_natCast,hx]
 refine wpAny_bind (wpAny_setField ho hd (by simp) (wpAny_pure ⟨x,rfl,wpAny_pure (q _ ⟨_,Heap.get?_update_self _ ho (Obj.isFreed_of_fields (Obj.data_mapFields hd _)),(Obj.cls_mapFields ..).trans hc,by rw [Obj.data_mapFields hd]; simp [rawInt]⟩ (Heap.SameBut.update ..))⟩))
theorem ZhO {it t:Addr} {i:Nat} {its:Array Value} {Q:Value->Shared->Prop} (hh:A.handled=none) (hi:s.heap.IsTupleIter it t i) (ht:s.heap.IsTuple t its) (hx:its[i]?=none)
  (q:∀ k e,Heap.ExtBut it s.heap k->(∃ o,k.get? e=some o/\o.cls=.type "StopIteration")->E (.ref e) { s with heap:=k }):wpAny (model prog w) A (Builtin.SmallTypes.nextOf (.ref it)) Q E s:=by
 obtain ⟨o,ho,hc,hd⟩:=id hi
 obtain ⟨ot,hot,_,nt,hdt⟩:=ht
 unfold Builtin.SmallTypes.nextOf
 refine wpAny_bind (wpAny_callSpecial?_slot (name:=Str.ofString "__next__") hi.typeIs F.slot_tuple_iterator_next (wpAny_call_entry F.slot_tuple_iterator_next hi.typeIs F.entry_tuple_iterator_next ?_ (F.args_tuple_iterator_next_1 _)))
 show wpAny _ _ (field (.ref it) 0 >>= _) _ _ s; refine wpAny_bind (wpAny_field ho hd (x:=.ref t) rfl ?_)
 show wpAny _ _ (if (Value.ref t==Value.none)=true then _ else _) _ _ s; rw [if_neg (show ¬ ((Value.ref t==Value.none)=true) from Bool.false_ne_true)]
 show wpAny _ _ (field (.ref it) 1 >>= _) _ _ s; refine wpAny_bind (wpAny_field ho hd (x:=.int i 0) rfl ?_)
 show wpAny _ _ (seqItems? (.ref t) >>= _) _ _ s; refine wpAny_bind (wpAny_seqItems hot hdt ?_)
 simp only [Int.toNat_natCast,hx]
 refine wpAny_bind (wpAny_rule (wpAny_bind (wpAny_setField ho hd (by simp) ?_)))
 show wpAny _ _ (newExc (.type "StopIteration") [] >>= _) _ _ _; refine wpAny_bind ?_
 simp only [newExc,newTuple]
 refine wpAny_bind (wpAny_newObj_type ?_ (by size_fits)); refine wpAny_bind (m:=firstArgMember _ _) (wpAny_of_eq (a:=Value.none) (by first | rfl | (simp only [firstArgMember]; rfl)) ?_)
 refine wpAny_newObj_type ?_ (by size_fits); simp only [raiseNew]; refine wpAny_bind (wpAny_handled ?_)
 first | rw [show A.in1.handled=none from hh] | rw [hh]
 refine wpAny_bind (wpAny_pure (wpAny_throw ?_))
 exact q _ _ (((Heap.SameBut.update ..).extBut.push _).push _) ⟨_,Heap.get?_push_size _ rfl,rfl⟩
theorem Zgz {e it t:Addr} {i:Nat} {its:Array Value} {x old:Value} {Q:Value->Shared->Prop} (he:IsEnum s.heap e it i old) (hi:s.heap.IsTupleIter it t i) (ht:s.heap.IsTuple t its) (hx:its[i]?=some x) (hne:e≠it)
  (q:∀ k,IsEnumOut k e it ((i:Int)+1) x s.heap.objs.size->k.IsTupleIter it t (i+1)->k.get? s.heap.objs.size=some { cls:=.type "tuple",data:=.seq #[.int i s.toks,x] }->k.objs.size=s.heap.objs.size+1 ->
   (∀ b o,b≠e->b≠it->s.heap.get? b=some o->k.get? b=some o)->Q (.ref s.heap.objs.size) { s with heap:=k,toks:=s.toks+1 }) :
  wpAny (model prog w) A (Builtin.«enumerate.__next__» ⟨[.ref e],[]⟩) (fun fin s'=>∃ v,fin=.done (.ret v)/\Q v s') E s:=by
 obtain ⟨hp,gs,dr,tk,os⟩:=s
 show wpAny _ _ (field (.ref e) 2 >>= _) _ _ _; refine wpAny_bind (wpAny_field he rfl (x:=.ref it) rfl ?_)
 refine wpAny_bind (Zgl hi ht hx fun k1 hi1 sb1=>?_)
 replace sb1:Heap.SameBut it hp k1:=sb1
 have en1:IsEnum k1 e it i old:=(sb1.2 e hne).trans he
 show wpAny _ _ (field (.ref e) 3 >>= _) _ _ ⟨k1,gs,dr,tk,os⟩; refine wpAny_bind (wpAny_field en1 rfl (x:=rawInt i) rfl ?_)
 show wpAny _ _ (field (.ref e) 4 >>= _) _ _ ⟨k1,gs,dr,tk,os⟩; refine wpAny_bind (wpAny_field en1 rfl (x:=.none) rfl ?_)
 show wpAny _ _ (mkInt i >>= _) _ _ ⟨k1,gs,dr,tk,os⟩; refine wpAny_bind (wpAny_mkInt ?_)
 show wpAny _ _ (setField (.ref e) 3 (rawInt ((i:Int)+1)) >>= _) _ _ ⟨k1,gs,dr,tk+1,os⟩; refine wpAny_bind (wpAny_setField_rec en1 (by simp) fun k2 en2 sb2=>?_)
 replace sb2:Heap.SameBut e k1 k2:=sb2; replace en2:IsEnum k2 e it ((i:Int)+1) old:=en2
 show wpAny _ _ (setField (.ref e) 4 .none >>= _) _ _ ⟨k2,gs,dr,tk+1,os⟩; refine wpAny_bind (wpAny_setField_rec en2 (by simp) fun k3 en3 sb3=>?_)
 replace sb3:Heap.SameBut e k2 k3:=sb3; replace en3:IsEnum k3 e it ((i:Int)+1) old:=en3
 show wpAny _ _ (newTuple [.int i tk,x] >>= _) _ _ ⟨k3,gs,dr,tk+1,os⟩; refine wpAny_bind (wpAny_newTuple ?_)
 have en4:IsEnum (k3.push { cls:=.type "tuple",data:=.seq #[.int i tk,x] }) e it ((i:Int)+1) old:=Heap.get?_push_of_some _ en3
 generalize h4:k3.push { cls:=.type "tuple",data:=.seq #[.int i tk,x] }=k4 at en4
 have z3:k3.objs.size=hp.objs.size:=by rw [sb3.1,sb2.1,sb1.1]
 have lt:e < hp.objs.size:=Heap.lt_size he
 have t4:k4.get? hp.objs.size=some { cls:=.type "tuple",data:=.seq #[.int i tk,x] }:=by rw [<-h4,<-z3]; exact Heap.get?_push_size _ rfl
 have z4:k4.objs.size=hp.objs.size+1:=by rw [<-h4,Heap.size_push,z3]
 have old4:∀ b o,b≠e->b≠it->hp.get? b=some o->k4.get? b=some o:=fun b o n1 n2 hb=>by
  rw [<-h4]; exact Heap.get?_push_of_some _ (sb3.extBut b o n1 (sb2.extBut b o n1 (sb1.extBut b o n2 hb)))
 have hi4:k4.IsTupleIter it t (i+1):=by
  rw [<-h4]; obtain ⟨o,ho,r⟩:=(hi1.extBut sb2.extBut (Ne.symm hne)).extBut sb3.extBut (Ne.symm hne); exact ⟨o,Heap.get?_push_of_some _ ho,r⟩
 show wpAny _ _ (Builtin.SmallTypes.ownedTupleIsFree (.ref e) >>= _) _ _ ⟨k4,gs,dr,tk+1,os⟩
 rw [z3]
 clear h4 en3 sb3 en2 sb2 en1 sb1 hi1 z3 k3 k2 k1
 refine wpAny_bind ?_
 unfold Builtin.SmallTypes.ownedTupleIsFree; refine wpAny_bind (wpAny_field en4 rfl (x:=.none) rfl (wpAny_pure ?_))
 simp only [if_true]
 refine wpAny_bind (wpAny_rule ?_); refine wpAny_bind (wpAny_field en4 rfl (x:=old) rfl ?_); refine wpAny_bind (wpAny_setField_rec en4 (by simp) fun k5 en5 sb5=>?_)
 replace sb5:Heap.SameBut e k4 k5:=sb5; replace en5:IsEnum k5 e it ((i:Int)+1) x:=en5
 show wpAny _ _ (Builtin.SmallTypes.ownedTupleHandOut (.ref e) (.ref hp.objs.size) >>= _) _ _ ⟨k5,gs,dr,tk+1,os⟩
 refine wpAny_bind ?_
 unfold Builtin.SmallTypes.ownedTupleHandOut; refine wpAny_bind (wpAny_setField_rec en5 (by simp) fun k6 en6 sb6=>?_)
 replace sb6:Heap.SameBut e k5 k6:=sb6; replace en6:IsEnumOut k6 e it ((i:Int)+1) x hp.objs.size:=en6
 refine wpAny_setField_rec en6 (by simp) fun k7 en7 sb7=>?_
 replace sb7:Heap.SameBut e k6 k7:=sb7; replace en7:IsEnumOut k7 e it ((i:Int)+1) x hp.objs.size:=en7
 have up:∀ b o,b≠e->k4.get? b=some o->k7.get? b=some o:=fun b o n hb=>sb7.extBut b o n (sb6.extBut b o n (sb5.extBut b o n hb))
 refine wpAny_bind (wpAny_letGo (wpAny_pure ⟨_,rfl,q k7 en7 ?_ (up _ _ (Nat.ne_of_gt lt) t4) (by rw [sb7.1,sb6.1,sb5.1,z4]) fun b o n1 n2 hb=>up b o n1 (old4 b o n1 n2 hb)⟩))
 obtain ⟨o,ho,r⟩:=hi4; exact ⟨o,up it o (Ne.symm hne) ho,r⟩
theorem ZgA {e it t:Addr} {i:Nat} {its:Array Value} {x old:Value} {Q:Option Value->Shared->Prop} (he:IsEnum s.heap e it i old) (hi:s.heap.IsTupleIter it t i) (ht:s.heap.IsTuple t its) (hx:its[i]?=some x) (hne:e≠it)
  (q:∀ k,IsEnumOut k e it ((i:Int)+1) x s.heap.objs.size->k.IsTupleIter it t (i+1)->k.get? s.heap.objs.size=some { cls:=.type "tuple",data:=.seq #[.int i s.toks,x] }->k.objs.size=s.heap.objs.size+1 ->
   (∀ b o,b≠e->b≠it->s.heap.get? b=some o->k.get? b=some o)->Q (some (.ref s.heap.objs.size)) { s with heap:=k,toks:=s.toks+1 }):wpAny (model prog w) A (pyNext (.ref e)) Q E s:=by
 have ty:s.TypeIs (.ref e) "enumerate":=⟨_,he,rfl⟩
 unfold pyNext
 exact wpAny_bind (wpAny_attempt (wpAny_callSpecial?_slot (name:=Str.ofString "__next__") ty F.slot_enumerate_next (wpAny_call_entry F.slot_enumerate_next ty F.entry_enumerate_next
  (Zgz he hi ht hx hne fun k a b c d o=>wpAny_pure (q k a b c d o)) (F.args_enumerate_next_1 _))))
theorem Ziw {e it t:Addr} {i:Nat} {its:Array Value} {old:Value} {Q:Option Value->Shared->Prop} (hh:A.handled=none) (he:IsEnum s.heap e it i old) (hi:s.heap.IsTupleIter it t i) (ht:s.heap.IsTuple t its) (hx:its[i]?=none)
  (q:∀ k,Heap.ExtBut it s.heap k->Q none { s with heap:=k }):wpAny (model prog w) A (pyNext (.ref e)) Q E s:=by
 have ty:s.TypeIs (.ref e) "enumerate":=⟨_,he,rfl⟩
 unfold pyNext
 refine wpAny_bind (wpAny_attempt (wpAny_callSpecial?_slot (name:=Str.ofString "__next__") ty F.slot_enumerate_next (wpAny_call_entry F.slot_enumerate_next ty F.entry_enumerate_next ?_ (F.args_enumerate_next_1 _))))
 show wpAny _ _ (field (.ref e) 2 >>= _) _ _ _; refine wpAny_bind (wpAny_field he rfl (x:=.ref it) rfl ?_)
 refine wpAny_bind (ZhO hh hi ht hx fun k x kb zq=>?_)
 obtain ⟨o,ho,hc⟩:=zq
 refine wpAny_bind (wpAny_isInstance (T:="StopIteration") (b:=true) ⟨o,ho,hc⟩ isSubtype_stop ?_)
 exact wpAny_pure (q _ kb)
theorem Ziv (t:Addr) (its:Array Value) (n:Nat) (dd:Option Addr) (sl:Array (Option Value)) :
  Meets (Builtin.«enumerate.__new__» ⟨[.type "enumerate",.ref t],[]⟩) (fun _ R s=>s.heap.get? t=some { cls:=.type "tuple",dict:=dd,data:=.seq its n,slots:=sl } /\
   R (.ok (.ret (.ref (s.heap.push { cls:=.type "tuple_iterator",data:=.fields #[.ref t,.int 0 0] }).objs.size)))
    { s with heap:=(s.heap.push { cls:=.type "tuple_iterator",data:=.fields #[.ref t,.int 0 0] }).push { cls:=.type "enumerate",data:=.fields #[.none,.bool false,.ref s.heap.objs.size,rawInt 0,.none,.none] } }):=
 .of_wp fun prog w A R s h=>by
  obtain ⟨hp,gs,dr,tk,os⟩:=s; obtain ⟨ht,h⟩:=h; have hsub:=sub_enumerate
  have hT:Heap.IsTuple (Shared.heap ⟨hp,gs,dr,tk,os⟩) t its:=⟨_,ht,rfl,n,rfl⟩
  wp_walk using wpAny_loadPart' ht
  refine wpAny_stack_any fun st=>wpAny_pure ?_
  split
  ·rename_i c _ _ _ _ _
   cases (c==Value.type "enumerate")
   ·wp_walk using wpAny_loadPart' ht,wpAny_pyIter_tuple hT
    exact ⟨_,rfl,h⟩
   ·wp_walk using wpAny_loadPart' ht,wpAny_pyIter_tuple hT
    exact ⟨_,rfl,h⟩
  ·wp_walk using wpAny_loadPart' ht,wpAny_pyIter_tuple hT
   exact ⟨_,rfl,h⟩
theorem ZgB {t:Addr} {its:Array Value} {Q:Value->Shared->Prop} (ht:s.heap.IsTuple t its)
  (h:∀ k,IsEnum k (s.heap.objs.size+1) s.heap.objs.size 0 .none->k.IsTupleIter s.heap.objs.size t 0->k.objs.size=s.heap.objs.size+2->(∀ b o,s.heap.get? b=some o->k.get? b=some o)->Q (.ref (s.heap.objs.size+1)) { s with heap:=k }) :
  wpAny (model prog w) A (call (.type "enumerate") [.ref t]) Q E s:=by
 obtain ⟨⟨c,dd,dt,sl⟩,ho,hc,n,hd⟩:=ht
 replace hc:c=.type "tuple":=hc; replace hd:dt=.seq its n:=hd; subst hc hd
 refine callType_new F.called_enumerate (by decide) (F.typeCall_enumerate_1 _) (F.newCall_enumerate_1 _) (fun obj=>F.args_object_init_2 obj _) F.entry_enumerate_new (Ziv t its n dd sl) ⟨ho,?_⟩
 have z1:(s.heap.push { cls:=.type "tuple_iterator",data:=.fields #[.ref t,.int 0 0] }).objs.size=s.heap.objs.size+1:=Heap.size_push ..
 show _/\_
 rw [z1]
 have en:IsEnum ((s.heap.push { cls:=.type "tuple_iterator",data:=.fields #[.ref t,.int 0 0] }).push { cls:=.type "enumerate",data:=.fields #[.none,.bool false,.ref s.heap.objs.size,rawInt 0,.none,.none] }) (s.heap.objs.size+1) s.heap.objs.size 0 .none:=by
  have:=Heap.get?_push_size (s.heap.push { cls:=.type "tuple_iterator",data:=.fields #[.ref t,.int 0 0] }) (o:={ cls:=.type "enumerate",data:=.fields #[.none,.bool false,.ref s.heap.objs.size,rawInt 0,.none,.none] }) rfl
  rw [z1] at this; exact this
 exact ⟨⟨_,en,rfl⟩,h _ en ⟨_,Heap.get?_push_of_some _ (Heap.get?_push_size _ rfl),rfl,rfl⟩ (by rw [Heap.size_push,z1]) fun b o x=>Heap.get?_push_of_some _ (Heap.get?_push_of_some _ x)⟩
end
theorem Zf2 {P:Program} {w:World} {K:Frag} {elts:List Expr} {k:Nat} {pos:Pos} (a e it:Addr) (hei:e≠it) :
  ZiZ P w K (.Tuple elts k pos) (Ite K a true) [e,it] e (fun i h=>(∃ old,IsEnum h e it i old)/\h.IsTupleIter it a i) where
 mem:=by simp
 obj:=fun i h st b hb=>by
  obtain ⟨⟨old,he⟩,o,h1,h2,h3⟩:=st
  rcases List.mem_cons.mp hb with z | z
  ·subst z; exact ⟨_,he,fun v z=>by have z':Data.fields _=Data.cell v:=z; cases z'⟩
  ·rw [List.mem_singleton] at z; subst z; exact ⟨o,h1,fun v z=>by rw [h3] at z; cases z⟩
 keep:=fun i h h' st kp=>by
  obtain ⟨⟨old,he⟩,st⟩:=st
  exact ⟨⟨old,kp e (by simp) _ he⟩,st.at fun o q=>kp it (by simp) o q⟩
 item:=by
  intro X hP hw hK hc i pins s σ H E I hf st hg
  subst hP hw hK
  obtain ⟨xs,x,hq,hx⟩:=hg
  have hq:SqT X.K H a xs:=hq
  obtain ⟨⟨old,he⟩,hit⟩:=st
  obtain ⟨its,rv,p,hz⟩:=I.tuple hq
  obtain ⟨u,hu,ru⟩:=rv.get hx
  have f1:=hf e (by simp)
  have f2:=hf it (by simp)
  refine ZgA he hit (show s.heap.IsTuple a its.toArray from p) (x:=u) (by simpa using hu) hei fun h1 he1 hit1 ht1 hz1 kp=>?_
  have hp:H s.heap.objs.size=none:=I.hok.fresh (Nat.le_refl _)
  have I1:Inv X pins σ (upd H s.heap.objs.size (.tup [.int i,x])) { s with heap:=h1,toks:=s.toks+1 }:=
   ZaT I f1 f2 (fun b ob h1' h2' q=>kp b ob h1' h2' q) ⟨by show 2<=sizeLine; decide,[.int i s.toks,u],.cons ⟨_,rfl⟩ (.cons ru .nil),⟨_,ht1,rfl,_,rfl⟩⟩
  refine ⟨_,rfl,wpAny_letOwnedTupleGo_enum (s:={ s with heap:=h1,toks:=s.toks+1 }) he1 fun h2 he2 hs2=>?_⟩
  have ne:∀ {b},H b=none->b∈[e,it]->b≠s.heap.objs.size:=fun {b} _ hb=>by
   rcases List.mem_cons.mp hb with z | z
   ·rw [z]; exact Nat.ne_of_lt (Heap.lt_size he)
   ·rw [List.mem_singleton] at z; rw [z]; obtain ⟨o,q,_⟩:=hit; exact Nat.ne_of_lt (Heap.lt_size q)
  have fz:∀ b∈[e,it],upd H s.heap.objs.size (.tup [.int i,x]) b=none:=fun b hb=>by rw [ZU (ne (hf b hb).1 hb)]; exact (hf b hb).1
  have I2:Inv X pins σ (upd H s.heap.objs.size (.tup [.int i,x])) { s with heap:=h2,toks:=s.toks+1 }:=
   L2.Inv.turned (s:={ s with heap:=h1,toks:=s.toks+1 }) (t':=s.toks+1) (it:=e) I1 (fun b ob hb q=>(hs2.2 b hb).trans q) (fz e (by simp)) f1.2.1 f1.2.2.2.1 f1.2.2.2.2.1 f1.2.2.2.2.2
  exact ⟨.ref s.heap.objs.size,_,I2,rfl,⟨s.heap.objs.size,x,fun xs' hq'=>by rw [I.tuple_inj (show SqT X.K H a xs' from hq') hq]; exact hx,hp,rfl,rfl⟩,⟨⟨u,he2⟩,hit1.at fun ob q=>(hs2.2 it (Ne.symm hei)).trans q⟩,fz⟩
 done:=by
  intro X hP hw hK hc i pins s σ H E I hf st hg
  subst hP hw hK
  obtain ⟨xs,hq,hx⟩:=hg
  have hq:SqT X.K H a xs:=hq
  obtain ⟨⟨old,he⟩,hit⟩:=st
  obtain ⟨its,rv,p,hz⟩:=I.tuple hq
  have hl:=rv.length
  have f2:=hf it (by simp)
  exact Ziw (I.ok.hd hc) he hit (show s.heap.IsTuple a its.toArray from p) (by simp; omega) fun h1 hb=>⟨rfl,I.turned (t':=s.toks) (it:=it) (fun b ob hb' q=>hb b ob hb' q) f2.1 f2.2.1 f2.2.2.2.1 f2.2.2.2.2.1 f2.2.2.2.2.2⟩
 self:=fun _ _ _ _ _ st h=>by
  obtain ⟨⟨old,he⟩,_⟩:=st
  exact wpAny_pyIter_enum he h
noncomputable def Zd1 (cells:List (Str×Addr)):List (Str×NameKind)->List (Str×Addr)->List (Str×Addr)
 | [],acc=>acc
 | (n,k)::r,acc=>if k==.free then Zd1 cells r ((n,(cells.lookup n).getD 0)::acc) else Zd1 cells r acc
theorem Zci {env:Env}:∀ (names:List (Str×NameKind)) (acc:List (Str×Addr)),(∀ y∈names,y.2=.free->∃ c,env.cells.lookup y.1=some c) ->
  (forIn names acc fun y cs=>match y with | (name,kind)=>(if kind==NameKind.free then do let c <- cellOf env name; pure (ForInStep.yield ((name,c)::cs)) else pure (ForInStep.yield cs):Sem (ForInStep (List (Str×Addr)))))=pure (Zd1 env.cells names acc)
 | [],acc,_=>rfl
 | (n,k)::r,acc,h=>by
  rw [List.forIn_cons]
  have ih:=fun acc=>Zci r acc fun y hy=>h y (List.mem_cons_of_mem _ hy)
  by_cases hk:k=.free
  ·subst hk
   obtain ⟨c,e⟩:=h (n,.free) List.mem_cons_self rfl
   have e':env.cells.lookup n=some c:=e
   have:cellOf env n=pure c:=by unfold cellOf; rw [e']
   have b:(NameKind.free==NameKind.free)=true:=rfl
   simp only [b,if_true,this,Zd1,e',Option.getD_some]
   exact ih _
  ·have b:(k==NameKind.free)=false:=by simpa using hk
   simp only [b,Bool.false_eq_true,if_false,Zd1]
   exact ih _
theorem Ue {scope:Scope} {env:Env} (h:∀ y∈scope.names,y.2=.free->∃ c,env.cells.lookup y.1=some c):closureFor scope env=pure (Zd1 env.cells scope.names []):=by
 have e:=Zci (env:=env) scope.names [] h
 unfold closureFor
 have q:(forIn scope.names ([]:List (Str×Addr)) fun y cs=>match y with | (name,kind)=>(if kind==NameKind.free then do let c <- cellOf env name; pure (ForInStep.yield ((name,c)::cs)) else pure (ForInStep.yield cs):Sem (ForInStep (List (Str×Addr))))) >>= pure=pure (Zd1 env.cells scope.names []):=by rw [e]; rfl
 exact q
theorem VF {cells:List (Str×Addr)}:∀ (names:List (Str×NameKind)) (acc:List (Str×Addr)) (x:Str) (c:Addr),(∀ y∈names,y.2=.free->∃ c,cells.lookup y.1=some c) ->
  (Zd1 cells names acc).lookup x=some c->cells.lookup x=some c\/acc.lookup x=some c
 | [],acc,x,c,_,e=>.inr e
 | (n,k)::r,acc,x,c,h,e=>by
  have h':=fun y hy=>h y (List.mem_cons_of_mem (n,k) hy)
  unfold Zd1 at e
  by_cases hk:(k==NameKind.free)=true
  ·rw [if_pos hk] at e
   rcases VF r _ x c h' e with z | z
   ·exact .inl z
   ·rw [List.lookup_cons] at z
    cases q:x==n with
    | true=>
     rw [q] at z
     obtain ⟨c',e'⟩:=h (n,k) List.mem_cons_self (eq_of_beq hk)
     have e':cells.lookup n=some c':=e'
     rw [e'] at z
     left
     rw [eq_of_beq q,e']; exact z
    | false=>rw [q] at z; exact .inr z
  ·rw [if_neg hk] at e
   exact VF r acc x c h' e
theorem Zam {cells : List (Str × Addr)} : ∀ (names : List (Str × NameKind)) (acc : List (Str × Addr)) (x : Str), ((∃ y ∈ names, y.1 = x /\ y.2 = .free) \/ ∃ c, acc.lookup x = some c) -> ∃ c, (Zd1 cells names acc).lookup x = some c
  | [], acc, x, h => by
    rcases h with ⟨y, hy, _⟩ | h
    · cases hy
    · exact h
  | (n, k) :: r, acc, x, h => by
    unfold Zd1
    by_cases hk : (k == NameKind.free) = true
    · rw [if_pos hk]
      apply Zam r
      rcases h with ⟨y, hy, e1, e2⟩ | ⟨c, h⟩
      · rcases List.mem_cons.mp hy with rfl | hy
        · right; exact ⟨(cells.lookup n).getD 0, by rw [List.lookup_cons]; have : (x == n) = true := by rw [<- e1]; exact beq_self_eq_true _
                                                    rw [this]⟩
        · left; exact ⟨y, hy, e1, e2⟩
      · right
        rw [List.lookup_cons]
        cases q : x == n with
        | true => exact ⟨_, rfl⟩
        | false => exact ⟨c, h⟩
    · rw [if_neg hk]
      apply Zam r
      rcases h with ⟨y, hy, e1, e2⟩ | h
      · rcases List.mem_cons.mp hy with rfl | hy
        · have e2 : k = NameKind.free := e2
          exact absurd (by rw [e2]; rfl) hk
        · left; exact ⟨y, hy, e1, e2⟩
      · exact .inr h
noncomputable def Z1 (X:Cx) (N:List Str) (scope:Scope) (C:Addr) (s3:Shared) (H3:Hp) (fp:List Addr):Cx where
 prog:=X.prog
 w:=X.w
 K:=X.K
 mg:=X.mg
 base:=X.base
 A:=X.A
 N:=N
 s₀:=s3
 H₀:=H3
 env:=compEnvC scope (Zd1 X.env.cells scope.names []) C X.env
 outer:=X.stack
 stack:=X.stack
 ex:=fp
 fn:=fun _=>false
 calm:=true
 pn:=[]
 xe:=fun _ _=>False
structure CompScope (X:Cx) (scope:Scope):Prop where
 kind:scope.kind=.function
 nocell:∀ y∈scope.names,y.2≠.cell
 loc:∀ y∈scope.names,y.2=.local->scope.names.lookup y.1=some .local
 free:∀ y∈scope.names,y.2=.free->X.env.kindOf y.1=some .cell\/X.env.kindOf y.1=some .free
theorem Jh {scope:Scope} {env:Env} {x:Str} {k:NameKind} (h:(relabel scope env).names.lookup x=some k):(k=.cell\/k=.free)->(∀ y∈scope.names,y.2≠.cell)->∃ y∈scope.names,y.1=x/\y.2=.free:=by
 intro hk hn
 have gen:∀ (names:List (Str×NameKind)),(∀ y∈names,y.2≠.cell)->(names.map fun (n,k)=>if (k==NameKind.free&&env.scope.kind==.function&&env.kindOf n==some .cell) then (n,NameKind.cell) else (n,k)).lookup x=some k->∃ y∈names,y.1=x/\y.2=.free:=by
  intro names
  induction names with
  | nil=>intro _ e; cases e
  | cons y r ih=>
   intro hn e
   obtain ⟨n,k'⟩:=y
   have hn':=fun y hy=>hn y (List.mem_cons_of_mem (n,k') hy)
   simp only [List.map_cons] at e
   by_cases c:(k'==NameKind.free&&env.scope.kind==.function&&env.kindOf n==some .cell)=true
   ·rw [if_pos c,List.lookup_cons] at e
    cases q:x==n with
    | true=>
     have kf:k'=.free:=by
      have:=(Bool.and_eq_true_iff.mp (Bool.and_eq_true_iff.mp c).1).1
      exact eq_of_beq this
     exact ⟨_,List.mem_cons_self,(eq_of_beq q).symm,kf⟩
    | false=>
     rw [q] at e
     obtain ⟨y,hy,e1⟩:=ih hn' e
     exact ⟨y,List.mem_cons_of_mem _ hy,e1⟩
   ·rw [if_neg c,List.lookup_cons] at e
    cases q:x==n with
    | true=>
     rw [q] at e
     cases e
     rcases hk with rfl | rfl
     ·exact absurd rfl (hn (n,.cell) List.mem_cons_self)
     ·exact ⟨_,List.mem_cons_self,(eq_of_beq q).symm,rfl⟩
    | false=>
     rw [q] at e
     obtain ⟨y,hy,e1⟩:=ih hn' e
     exact ⟨y,List.mem_cons_of_mem _ hy,e1⟩
 exact gen scope.names hn h
section
variable {X:Cx} {pins:List (Addr×Obj)} {σ:L2.St} {H:Hp} {s:Shared}
theorem CompScope.cells {scope:Scope} (S:CompScope X scope) (ok:X.Ok):∀ y∈scope.names,y.2=.free->∃ c,X.env.cells.lookup y.1=some c:=fun y hy e=>ok.has y.1 (S.free y hy e)
theorem Zcf {scope:Scope} (S:CompScope X scope) {N:List Str} {fp:List Addr} {h4:Heap} {m:Str->Option Value} {σ':L2.St} (I:Inv X pins σ H s) (hc:X.calm=true) (hf:∀ b∈fp,ZbM X pins H b) (hlt:∀ b∈fp,b < s.heap.objs.size)
  (hk:∀ b o,s.heap.get? b=some o->h4.get? b=some o) (hn:h4.Ns s.heap.objs.size m) (hl:σ'.length=N.length)
  (hσ:∀ (i:Nat) x v,N[i]?=some x->σ'[i]?=some (some v)->Vis (relabel scope X.env) x->((relabel scope X.env).names.lookup x≠some .local)/\∃ j:Nat,X.N[j]?=some x/\σ[j]?=some (some v)/\Vis X.env.scope x/\X.env.kindOf x≠some .local) {t':Nat} :
  Inv (Z1 X N scope s.heap.objs.size s H fp) [] σ' H { s with heap:=h4,toks:=t' }:=by
 have hcell:=S.cells I.ok
 have sub:∀ x c,(Zd1 X.env.cells scope.names []).lookup x=some c->X.env.cells.lookup x=some c:=fun x c e=>by
  rcases VF scope.names [] x c hcell e with z | z
  ·exact z
  ·cases z
 refine ⟨⟨I.ok.mod,S.kind,I.ok.glob,I.ok.blt,Nat.le_refl _,fun x y c h1 h2=>I.ok.inj x y c (sub x c h1) (sub y c h2),fun x hx=>?_,fun x c h _=>(Bool.false_ne_true (show false=true from h)).elim,fun _=>I.ok.hd hc,I.ok.frames,.inl rfl,fun b hb=>⟨Nat.ne_of_lt (hlt b hb),fun x c e=>(hf b hb).2.2.2.2.1 x c (sub x c e)⟩,I.bs,Nat.le_trans I.ok.bsz I.sz,fun b o e hb=>?_,fun b hb z=>?_,I.stack,I.stkFree⟩,
  rfl,I.bare,Un.kept hk,⟨m,hn,fun i x v e1 e2 e3=>?_⟩,fun x c e=>?_,I.hok.fresh (Nat.le_refl _),fun x c e=>I.freeC x c (sub x c e),fun p hp=>absurd (show p∈([]:List (Addr×Obj)) from hp) (by simp),I.hok.kept hk,hl⟩
 ·obtain ⟨y,hy,e1,e2⟩:∃ y∈scope.names,y.1=x/\y.2=.free:=by
   rcases hx with hx | hx
   ·exact Jh (show (relabel scope X.env).names.lookup x=some .cell from hx) (.inl rfl) S.nocell
   ·exact Jh (show (relabel scope X.env).names.lookup x=some .free from hx) (.inr rfl) S.nocell
  exact Zam scope.names [] x (.inl ⟨y,hy,e1,e2⟩)
 ·obtain ⟨_,_,_,h,_⟩:=hf b hb
  rcases h with h | h
  ·exact I.ok.noex b o e h
  ·exact absurd (Nat.lt_of_lt_of_le (Nat.lt_of_lt_of_le (Heap.lt_size e) I.ok.bsz) h) (Nat.lt_irrefl _)
 ·have z:b∈frs X.stack:=z
  obtain ⟨_,h1,h2,_⟩:=hf b hb
  rcases List.mem_cons.mp (I.stkSub b z) with q | q
  ·exact h1 q
  ·exact h2 q
 ·obtain ⟨nl,j,g1,g2,g3,g4⟩:=hσ i x v e1 e2 e3
  obtain ⟨m0,_,hl0⟩:=I.loc
  obtain ⟨u,r,l⟩:=hl0 j x v g1 g2 g3
  refine ⟨u,r,?_⟩
  rcases l with ⟨l,_⟩ | ⟨_,c,ec,hcl⟩
  ·exact absurd l g4
  ·have kx:(relabel scope X.env).names.lookup x=some .cell\/(relabel scope X.env).names.lookup x=some .free:=by
    rcases e3 with z | z | z
    ·exact absurd z nl
    ·exact .inl z
    ·exact .inr z
   obtain ⟨y,hy,y1,y2⟩:∃ y∈scope.names,y.1=x/\y.2=.free:=by
    rcases kx with z | z
    ·exact Jh z (.inl rfl) S.nocell
    ·exact Jh z (.inr rfl) S.nocell
   obtain ⟨c',ec'⟩:=Zam (cells:=X.env.cells) scope.names [] x (.inl ⟨y,hy,y1,y2⟩)
   have:c'=c:=by have:=sub x c' ec'; rw [ec] at this; exact (Option.some.inj this).symm
   subst this
   refine .inr ⟨kx,c',ec',?_⟩
   obtain ⟨o,ho,hd⟩:=hcl
   exact ⟨o,hk _ o ho,hd⟩
 ·obtain ⟨v,o,ho,hd⟩:=I.cell x c (sub x c e)
  exact ⟨v,o,hk _ o ho,hd⟩
theorem ZfT {scope:Scope} {N:List Str} {fp:List Addr} {σ':L2.St} {H':Hp} {s':Shared} (I:Inv X pins σ H s) (hf:∀ b∈fp,ZbM X pins H b) (J:Inv (Z1 X N scope s.heap.objs.size s H fp) [] σ' H' s') :
  ∀ h'',Heap.SameBut s.heap.objs.size s'.heap h''->Inv X pins σ H' { s' with heap:=h'' }:=by
 intro h'' hs
 have nC:∀ {b:Addr} {o:Obj},s.heap.get? b=some o->b≠s.heap.objs.size:=fun e=>Nat.ne_of_lt (Heap.lt_size e)
 have kp:∀ b,b≠s.heap.objs.size->∀ o,s'.heap.get? b=some o->h''.get? b=some o:=fun b hb o e=>(hs.2 b hb).trans e
 have hU:=J.base
 refine I.call' (ch:=fp) (s':={ s' with heap:=h'' }) J.os ⟨fun b o e n h1 h2=>kp b (nC e) o (hU.keep b o e n h1 h2),fun b o e n h1 h2=>?_,hU.free,fun b o e h2=>?_,hU.tups,hU.frzs,hU.tbls⟩ (fun b u e=>?_) J.bare (fun b hb=>?_)
 ·obtain ⟨sl,q⟩:=hU.slot b o e n h1 h2
  exact ⟨sl,kp b (nC e) _ q⟩
 ·obtain ⟨o',q⟩:=hU.there b o e h2
  exact ⟨o',kp b (nC e) _ q⟩
 ·have fr:H' s.heap.objs.size=none:=J.free
  refine (J.hok b u e).stay (fun c v hc q=>kp c ?_ v q) (fun _ q=>q) fun _ _ q=>q
  rcases hc with z | z
  ·rw [z]; exact ZR e fr
  ·exact ZR z fr
 ·obtain ⟨_,h1,_,h3,h4,h5⟩:=hf b hb
  exact ⟨h3,h1,h4,h5⟩
end
theorem wpx {α:Type} {M:Model} {A:Around} {m:Sem α} {Q:α->Shared->Prop} {E:Value->Shared->Prop} {s:Shared} (h:wpAny M A m Q (fun _ _=>False) s):wpAny M A m Q E s:=wpAny_mono h (fun _ _ q=>q) fun _ _ z=>z.elim
noncomputable def PTs (X:Cx) (ifs:List Expr) (t:TT):Prop:=
 ∀ (pins:List (Addr×Obj)) (s:Shared) (σ:L2.St) (H:Hp) (Q:Bool->Hp->Prop),L2.Inv X pins σ H s->t σ H Q ->
  wpAny (model X.prog X.w) X.A (forIn ifs true fun c r=>if r=true then do let ok <- isTrue c X.env (eval c X.env); pure (ForInStep.yield ok) else pure (ForInStep.yield r)) (TP X pins σ Q) X.xe s
theorem Zlx {X:Cx}:PTs X [] (fun _ H Q=>Q true H):=fun pins s σ H Q I h=>wpAny_tests_nil ⟨H,I,h⟩
theorem Zlw {X:Cx} {c:Expr} {t:TT} (h:PT X c t):PTs X [c] t:=fun pins s σ H Q I q=>wpAny_tests_one (h pins s σ H Q I q)
section
variable {X:Cx} {pins:List (Addr×Obj)} {σ:L2.St} {H:Hp} {s:Shared}
theorem ZiI {Y:Cx} {tg elt iter:Expr} {ifs:List Expr} {scope:Scope} {pos:Pos} {fp:List Addr} {it Dl:Addr} {tn:Nat->Heap->Prop} {J:It} {g:TG} {te:TE} {tt:TT} {R:Result->Shared->Prop}
  (T:ZiZ Y.prog Y.w Y.K tg J fp it tn) (hc:Y.calm=true) (hxe:Y.xe=fun _ _=>False) (hex:Y.ex=fp) (hpn:Y.pn=[]) (hg:PG Y tg g) (hi:PTs Y ifs tt) (he:PE Y elt te)
  (W:Nat->Nat->L2.St->Hp->Prop) (Done:L2.St->Hp->Prop)
  (turn:∀ i m σ H,W i m σ H->(J.stop i H/\Done σ H)\/(J.go i H/\∀ x H',J.yld i H x H'->g x σ H' fun σ2 H2=>tt σ2 H2 fun b H3=>if b=true then te σ2 H3 fun v H4=>∃ ys,H4 Dl=some (.lst ys)/\ys.length < sizeLine/\∃ m',m' < m/\W (i+1) m' σ2 (upd H4 Dl (.lst (ys++[v]))) else ∃ m',m' < m/\W (i+1) m' σ2 H3))
  (fin:∀ σ' H' s',L2.Inv Y [] σ' H' s'->Done σ' H'->R (.ok .next) s')
  (I:L2.Inv Y [] σ H s) (st:tn 0 s.heap) (hf:∀ b∈fp,H b=none) (m:Nat) (w:W 0 m σ H) :
  codeAny (model Y.prog Y.w) Y.A (.compLoop (.ListComp elt [⟨tg,iter,ifs,0⟩] scope pos) 0 (.ref it) (.ref Dl) Y.env) R s:=by
 have fpY:∀ {H':Hp} (ok:Y.Ok),(∀ b∈fp,H' b=none)->∀ b∈fp,ZbM Y [] H' b:=fun {H'} ok h b hb=>by
  have hb':b∈Y.ex:=by rw [hex]; exact hb
  exact ⟨h b hb,(ok.exf b hb').1,ok.exfs b hb',.inl hb',(ok.exf b hb').2,fun p hp=>by rw [hpn] at hp; exact absurd (show p∈([]:List (Addr×Obj)) from hp) (by simp)⟩
 refine codeAny_loop rfl (fun n s'=>∃ i σ' H',L2.Inv Y [] σ' H' s'/\tn i s'.heap/\(∀ b∈fp,H' b=none)/\W i n σ' H') (fun n s1 hI=>?_) m ⟨0,σ,H,I,st,hf,w⟩
 obtain ⟨i,σ1,H1,I1,st1,fr1,w1⟩:=hI
 show wpAny _ Y.A ((compTurn (.ListComp elt [⟨tg,iter,ifs,0⟩] scope pos) 0 (.ref it) (.ref Dl) Y.env).onRaise (fun x=>do noteFrame x Y.env; theTreesLotGoes x)) _ _ s1
 refine wpAny_noted ?_
 rw [compTurn_list]
 refine wpAny_bind (wpAny_standAt (wpAny_bind ?_))
 rcases turn i n σ1 H1 w1 with ⟨stop,dn⟩ | ⟨go,step⟩
 ·refine wpx (thn (T.done Y rfl rfl rfl hc i [] s1 σ1 H1 _ I1 (fpY I1.ok fr1) st1 stop) fun r s2 zq=>?_)
  obtain ⟨hr,I2⟩:=zq
  subst hr
  exact wpAny_pure (fin σ1 H1 s2 I2 dn)
 ·refine wpx (thn (T.item Y rfl rfl rfl hc i [] s1 σ1 H1 _ I1 (fpY I1.ok fr1) st1 go) fun r s2 zq=>?_)
  obtain ⟨u,hr,h2⟩:=zq
  subst hr
  refine wpAny_bind (wpx (thn h2 fun _ s3 zq=>?_))
  obtain ⟨x,H3,I3,r3,y3,st3,fr3⟩:=zq
  have I3':=I3.pinned (fpY I3.ok fr3) (T.obj _ _ st3)
  have hg':=hg _ s3 σ1 H3 x u _ I3' r3 (step x H3 y3)
  rw [hxe] at hg'
  refine wpAny_bind (wpx (thn hg' fun _ s4 zq=>?_))
  obtain ⟨σ4,H4,I4,q4⟩:=zq
  have hi':=hi _ s4 σ4 H4 _ I4 q4
  rw [hxe] at hi'
  refine wpAny_bind (wpx (thn hi' fun b s5 zq=>?_))
  obtain ⟨H5,I5,q5⟩:=zq
  have back:∀ {σ7:L2.St} {H7:Hp} {s7:Shared},L2.Inv Y ([]++UB fp s3.heap) σ7 H7 s7->(∃ m',m' < n/\W (i+1) m' σ7 H7)->∃ m,m < n/\∃ i σ' H',L2.Inv Y [] σ' H' s7/\tn i s7.heap/\(∀ b∈fp,H' b=none)/\W i m σ' H':=fun {σ7 H7 s7} I7 zq=>by
   obtain ⟨m',hm,w7⟩:=zq
   have pin:=fun (b:Addr) (hb:b∈fp) (o:Obj) (e:s3.heap.get? b=some o)=>I7.pin (b,o) (List.mem_append_right _ (List.mem_append_right _ (QW hb e)))
   refine ⟨m',hm,i+1,σ7,H7,I7.unpinned,T.keep _ _ _ st3 fun b hb o e=>(pin b hb o e).1,fun b hb=>?_,w7⟩
   obtain ⟨o,e,_⟩:=T.obj _ _ st3 b hb
   exact (pin b hb o e).2.1
  cases b with
  | false=>
   rw [if_neg (by decide)] at q5
   exact wpAny_pure ⟨rfl,back I5 q5⟩
  | true=>
   rw [if_pos rfl] at q5
   have he':=he _ s5 σ4 H5 _ I5 q5
   rw [hxe] at he'
   refine wpAny_bind (wpAny_bind (wpx (thn he' fun vu s6 zq=>?_)))
   obtain ⟨v,H6,I6,r6,ys,hD,hz,q6⟩:=zq
   have ha:=ZaR _ s6 σ4 H6 (.ref Dl) [v] (.ref Dl) [vu] (fun _ H7=>∃ m',m' < n/\W (i+1) m' σ4 H7) I6 rfl (.cons r6 .nil) ⟨Dl,ys,v,rfl,rfl,hD,hz,q6⟩
   rw [hxe] at ha
   exact wpAny_bind (wpx (thn ha fun _ s7 ⟨_,H7,I7,_,q7⟩=>wpAny_pure (wpAny_pure ⟨rfl,back I7 q7⟩)))
noncomputable def Zg1 (K:Frag) (wi:TI) (Pt:It->Hp->Addr->(L2.St->Hp->Prop)->Prop):TE:=fun σ H Q=>wi σ H fun J H1=>∀ Dl,H1 Dl=none->K.lookup Dl=none->Pt J (upd H1 Dl (.lst [])) Dl fun _ H'=>Q (.ref Dl) H'
noncomputable def Zap (X:Cx) (N:List Str) (scope:Scope) (σ:L2.St) (g:TG) (tt:TT) (te:TE):It->Hp->Addr->(L2.St->Hp->Prop)->Prop:=fun J H Dl Done=>
 ∃ (σ':L2.St) (W:Nat->Nat->L2.St->Hp->Prop),σ'.length=N.length /\
  (∀ (i:Nat) x v,N[i]?=some x->σ'[i]?=some (some v)->Vis (relabel scope X.env) x->((relabel scope X.env).names.lookup x≠some .local)/\∃ j:Nat,X.N[j]?=some x/\σ[j]?=some (some v)/\Vis X.env.scope x/\X.env.kindOf x≠some .local) /\
  (∃ m,W 0 m σ' H) /\
  ∀ i m σ H,W i m σ H->(J.stop i H/\Done σ H)\/(J.go i H/\∀ x H',J.yld i H x H'->g x σ H' fun σ2 H2=>tt σ2 H2 fun b H3=>if b=true then te σ2 H3 fun v H4=>∃ ys,H4 Dl=some (.lst ys)/\ys.length < sizeLine/\∃ m',m' < m/\W (i+1) m' σ2 (upd H4 Dl (.lst (ys++[v]))) else ∃ m',m' < m/\W (i+1) m' σ2 H3)
theorem ZfS {tg elt iter:Expr} {ifs:List Expr} {scope:Scope} {pos:Pos} {N:List Str} {g:TG} {te:TE} {tt:TT} {wi:TI} {Q:VK} {RR:Value->Addr->Result->Shared->Prop} {E:Value->Shared->Prop}
  (S:CompScope X scope) (hc:X.calm=true) {it:Addr} {fp:List Addr} {tn:Nat->Heap->Prop} {J:It} {H2:Hp} {s2:Shared} (I2:L2.Inv X pins σ H2 s2) (T:ZiZ X.prog X.w X.K tg J fp it tn) (st2:tn 0 s2.heap) (f2:∀ b∈fp,ZbM X pins H2 b)
  (hg:∀ C s3 H3 fp,PG (Z1 X N scope C s3 H3 fp) tg g) (hi:∀ C s3 H3 fp,PTs (Z1 X N scope C s3 H3 fp) ifs tt) (he:∀ C s3 H3 fp,PE (Z1 X N scope C s3 H3 fp) elt te)
  (hb:∀ Dl,H2 Dl=none->X.K.lookup Dl=none->Zap X N scope σ g tt te J (upd H2 Dl (.lst [])) Dl fun _ H'=>Q (.ref Dl) H')
  (hRR:∀ Dl C H' (s':Shared) m,(∀ h'',Heap.SameBut C s'.heap h''->L2.Inv X pins σ H' { s' with heap:=h'' })->ZbM X pins H' C->s'.heap.Ns C m->Q (.ref Dl) H'->RR (.ref Dl) C (.ok .next) s') :
  wpAny (model X.prog X.w) X.A (newList []) (fun acc s₃=>wpAny (model X.prog X.w) X.A (newFunctionEnv scope X.env.globals (Zd1 X.env.cells scope.names []) [] X.env.qual none .none (some X.env)) (fun cenv s₄=>
   codeAny (model X.prog X.w) X.A (.compStart (.ListComp elt [⟨tg,iter,ifs,0⟩] scope pos) 0 (.ref it) acc { cenv with scope:=relabel scope X.env }) (RR acc cenv.locals) s₄) E s₃) E s2:=by
 refine wpAny_newObj_type ?_
 have hD:H2 s2.heap.objs.size=none:=I2.hok.fresh (Nat.le_refl _)
 have I3:L2.Inv X pins σ (upd H2 s2.heap.objs.size (.lst [])) { s2 with heap:=s2.heap.push { cls:=.type "list",dict:=none,data:=.seq ([]:List Value).toArray } }:=
  I2.laid (t':=s2.toks) (fun b u e=>Heap.get?_push_of_some _ e) (Nat.le_refl _) ⟨Nat.zero_le _,[],0,.nil,Heap.get?_push_size _ rfl⟩
 have lt:∀ b∈fp,b < s2.heap.objs.size:=fun b hb'=>by obtain ⟨o,e,_⟩:=T.obj _ _ st2 b hb'; exact Heap.lt_size e
 have f3:∀ b∈fp,ZbM X pins (upd H2 s2.heap.objs.size (.lst [])) b:=fun b hb'=>by
  obtain ⟨h0,h1,h2,h3,h4,h5⟩:=f2 b hb'
  exact ⟨by rw [ZU (Nat.ne_of_lt (lt b hb'))]; exact h0,h1,h2,h3,h4,h5⟩
 have hKD:X.K.lookup s2.heap.objs.size=none:=by
  cases e:X.K.lookup s2.heap.objs.size with
  | none=>rfl
  | some o=>exact absurd (Heap.lt_size (I2.kIn _ o e)) (Nat.lt_irrefl _)
 obtain ⟨σ',W,hl,hσ,⟨m0,w0⟩,turn⟩:=hb _ hD hKD
 generalize hs3:({ s2 with heap:=s2.heap.push { cls:=.type "list",dict:=none,data:=.seq ([]:List Value).toArray } }:Shared)=s3 at I3
 have h3:s3.heap=s2.heap.push { cls:=.type "list",dict:=none,data:=.seq ([]:List Value).toArray }:=by rw [<-hs3]
 have lt3:∀ b∈fp,b < s3.heap.objs.size:=fun b hb'=>by rw [h3,Heap.size_push]; exact Nat.lt_succ_of_lt (lt b hb')
 refine wpAny_newFunctionEnv S.nocell (by intro y hy; simp at hy) (fun h4 hn4 hs4=>?_) S.kind
 have kp:∀ b o,s3.heap.get? b=some o->h4.get? b=some o:=fun b o e=>hs4.extBut b o (Nat.ne_of_lt (Heap.lt_size e)) (Heap.get?_push_of_some _ e)
 have I4:L2.Inv (Z1 X N scope s3.heap.objs.size s3 (upd H2 s2.heap.objs.size (.lst [])) fp) [] σ' (upd H2 s2.heap.objs.size (.lst [])) { s3 with heap:=h4,toks:=s3.toks+([]:List (Str×Value)).length }:=
  Zcf S I3 hc f3 lt3 kp hn4 hl hσ
 have st4:tn 0 h4:=T.keep _ _ _ st2 fun b hb' o e=>kp b o (by rw [h3]; exact Heap.get?_push_of_some _ e)
 have loop:codeAny (model X.prog X.w) X.A (.compLoop (.ListComp elt [⟨tg,iter,ifs,0⟩] scope pos) 0 (.ref it) (.ref s2.heap.objs.size) (compEnvC scope (Zd1 X.env.cells scope.names []) s3.heap.objs.size X.env)) (RR (.ref s2.heap.objs.size) s3.heap.objs.size)
   { s3 with heap:=h4,toks:=s3.toks+([]:List (Str×Value)).length }:=by
  refine ZiI (Y:=Z1 X N scope s3.heap.objs.size s3 (upd H2 s2.heap.objs.size (.lst [])) fp) T rfl rfl rfl rfl (hg _ _ _ _) (hi _ _ _ _) (he _ _ _ _) W _ turn (fun σ5 H5 s5 I5 dn=>?_) I4 st4 (fun b hb'=>(f3 b hb').1) m0 w0
  obtain ⟨mC,hnC,_⟩:=I5.loc
  have big:s3.heap.objs.size<=s3.heap.objs.size:=Nat.le_refl _
  refine hRR _ s3.heap.objs.size H5 s5 mC (ZfT I3 f3 I5) ?_ hnC dn
  have q:=I3.fpOk (H':=H5) big I5.free
  exact q
 exact codeAny_compStart_list loop (T.self _ 0 _ _ _ st4 loop)
theorem ZlJ {tg elt iter:Expr} {ifs:List Expr} {scope:Scope} {pos:Pos} {N:List Str} {g:TG} {te:TE} {tt:TT} {wi:TI} (S:CompScope X scope) (hc:X.calm=true) (hit:PI X tg iter wi)
  (hg:∀ C s3 H3 fp,PG (Z1 X N scope C s3 H3 fp) tg g) (hi:∀ C s3 H3 fp,PTs (Z1 X N scope C s3 H3 fp) ifs tt) (he:∀ C s3 H3 fp,PE (Z1 X N scope C s3 H3 fp) elt te)
  (hs:∀ x,foldedSetIterable iter X.env x=pure x:=by intro _; rfl) :
  PE X (.ListComp elt [⟨tg,iter,ifs,0⟩] scope pos) (fun σ H Q=>Zg1 X.K wi (Zap X N scope σ g tt te) σ H Q):=by
 intro pins s σ H Q I h
 rw [eval_ListComp]
 refine wpAny_comprehension_free (use:=none) rfl hs (Ue (S.cells I.ok)) S.kind S.loc (wpAny_mono (hit pins s σ H _ I h) (fun xv s₁ h₁=>wpAny_mono h₁ (fun itv s₂ h₂=>?_) fun _ _ z=>z) fun _ _ z=>z)
 obtain ⟨it,fp,tn,J,H2,rfl,I2,T,st2,f2,hb⟩:=h₂
 refine ZfS (RR:=fun acc C=>compPost (model X.prog X.w) X.A X.xe none (EP X pins σ Q) acc C) (wi:=wi) S hc I2 T st2 f2 hg hi he hb ?_
 intro Dl C H' s' m hI hC hn q
 exact ⟨m,hn,fun h'' hs''=>⟨.ref Dl,H',hI h'' hs'',rfl,q⟩⟩
end
noncomputable def ZmJ (K:Frag) (F:Fz) (H:Hp) (J:It) (xs:List D):Prop:=∀ F' H',Ext K F H F' H' ->
 (∀ i d,xs[i]?=some d->J.go i H'/\∀ x H'',J.yld i H' x H''->∃ F'',Grow F' H' F'' H''/\Rep K F'' H'' d x)/\∀ i,xs.length<=i->J.stop i H'
noncomputable abbrev DI:=Rho->Option (List D)
inductive Zq2 (K:Frag) (it:DI) (σ:L2.St) (H:Hp) (R:It->Hp->Prop):Prop
 | mk (ρ:Rho) (F0:Fz) (H0:Hp) (F:Fz) (xs:List D) (ok:EnvOk K F0 H0 F σ H ρ) (e:it ρ=some xs) (q:∀ J F1 H1,Grow F H F1 H1->ZmJ K F1 H1 J xs->R J H1)
noncomputable def rdI (K:Frag) (it:DI):TI:=fun σ H R=>Zq2 K it σ H R
noncomputable def ID (X:Cx) (tg e:Expr) (it:DI):Prop:=PI X tg e (rdI X.K it)
theorem PI.imp {X:Cx} {tg e:Expr} {t t':TI} (h:PI X tg e t) (i:∀ σ H R,t' σ H R->t σ H R):PI X tg e t':=fun pins s σ H R I q=>h pins s σ H R I (i σ H R q)
section
variable {X:Cx} {pos:Pos} {tg l:Expr} {f:DE}
theorem Zh4 {K:Frag} {F:Fz} {H:Hp} {a:Addr} {xs:List D} {vs:List V} (hf:F a) (hq:SqL K H a vs) (hr:RepL K F H xs vs):ZmJ K F H (Itl K a) xs:=fun F' H' e=>by
 have hq':=e.ls a vs hf hq
 refine ⟨fun i d hd=>?_,fun i hi=>⟨vs,hq',by rw [<-hr.length]; exact hi⟩⟩
 obtain ⟨v,hv,rv⟩:=hr.get hd
 refine ⟨⟨vs,v,hq',hv⟩,fun x H'' y=>?_⟩
 obtain ⟨rfl,y⟩:=y
 have:=y vs hq'
 rw [hv] at this; cases this
 exact ⟨F',.refl,Rep.ext e rv⟩
theorem ZjR {K:Frag} {F:Fz} {H:Hp} {a:Addr} {xs:List D} {vs:List V} (hq:SqT K H a vs) (hr:RepL K F H xs vs):ZmJ K F H (Itt K a) xs:=fun F' H' e=>by
 have hq':=e.ts a vs hq
 refine ⟨fun i d hd=>?_,fun i hi=>⟨vs,hq',by rw [<-hr.length]; exact hi⟩⟩
 obtain ⟨v,hv,rv⟩:=hr.get hd
 refine ⟨⟨vs,v,hq',hv⟩,fun x H'' y=>?_⟩
 obtain ⟨rfl,y⟩:=y
 have:=y vs hq'
 rw [hv] at this; cases this
 exact ⟨F',.refl,Rep.ext e rv⟩
theorem ZfH {K:Frag} {F:Fz} {H:Hp} {lo:Int} {n:Nat}:ZmJ K F H (Itr lo n) (QC lo n):=fun F' H' e=>by
 refine ⟨fun i d hd=>?_,fun i hi=>(show n<=i from by simpa [QC] using hi)⟩
 have hl:i < n:=by have:=(List.getElem?_eq_some_iff.mp hd).1; simpa [QC] using this
 refine ⟨hl,fun x H'' y=>?_⟩
 obtain ⟨rfl,rfl⟩:=y
 refine ⟨F',.refl,?_⟩
 have:d=.int (lo+(i:Int)):=by
  unfold QC at hd
  rw [List.getElem?_map,List.getElem?_range hl] at hd
  simpa using hd.symm
 subst this
 exact Yl _
noncomputable def Qa (n:Nat):List D->List D
 | []=>[]
 | d::ds=>.tup [.int n,d]::Qa (n+1) ds
theorem Za4:∀ (ds:List D) (n i:Nat),(Qa n ds)[i]?=(ds[i]?).map fun d=>.tup [.int ((n+i:Nat):Int),d]
 | [],n,i=>by simp [Qa]
 | d::ds,n,0=>by simp [Qa]
 | d::ds,n,i+1=>by
  simp only [Qa,List.getElem?_cons_succ]
  rw [Za4 ds (n+1) i,show n+1+i=n+(i+1) by omega]
theorem V3:∀ (ds:List D) (n:Nat),(Qa n ds).length=ds.length
 | [],n=>rfl
 | d::ds,n=>by simp [Qa,V3 ds]
theorem Zgq {K:Frag} {F:Fz} {H:Hp} {a:Addr} {xs:List D} {vs:List V} (hf:F a) (hq:SqL K H a vs) (hr:RepL K F H xs vs):ZmJ K F H (Ite K a false) (Qa 0 xs):=fun F' H' e=>by
 have hq':=e.ls a vs hf hq
 refine ⟨fun i d hd=>?_,fun i hi=>⟨vs,hq',by rw [<-hr.length]; rw [V3] at hi; exact hi⟩⟩
 rw [Za4,Nat.zero_add] at hd
 obtain ⟨d',hd',rfl⟩:=map_some hd
 obtain ⟨v,hv,rv⟩:=hr.get hd'
 refine ⟨⟨vs,v,hq',hv⟩,fun x H'' y=>?_⟩
 obtain ⟨p,z,y,hp,rfl,rfl⟩:=y
 have:=y vs hq'
 rw [hv] at this; cases this
 refine ⟨F',.laid0 hp,?_⟩
 unfold Rep
 exact ⟨p,_,rfl,.of ZZ,.cons (Yl _) (.cons ((Rep.ext e rv).grow (.laid0 hp)) .nil)⟩
theorem Zgp {K:Frag} {F:Fz} {H:Hp} {a:Addr} {xs:List D} {vs:List V} (hq:SqT K H a vs) (hr:RepL K F H xs vs):ZmJ K F H (Ite K a true) (Qa 0 xs):=fun F' H' e=>by
 have hq':=e.ts a vs hq
 refine ⟨fun i d hd=>?_,fun i hi=>⟨vs,hq',by rw [<-hr.length]; rw [V3] at hi; exact hi⟩⟩
 rw [Za4,Nat.zero_add] at hd
 obtain ⟨d',hd',rfl⟩:=map_some hd
 obtain ⟨v,hv,rv⟩:=hr.get hd'
 refine ⟨⟨vs,v,hq',hv⟩,fun x H'' y=>?_⟩
 obtain ⟨p,z,y,hp,rfl,rfl⟩:=y
 have:=y vs hq'
 rw [hv] at this; cases this
 refine ⟨F',.laid0 hp,?_⟩
 unfold Rep
 exact ⟨p,_,rfl,.of ZZ,.cons (Yl _) (.cons ((Rep.ext e rv).grow (.laid0 hp)) .nil)⟩
theorem UF (hl:ED X l f):ID X tg l (YR f):=PI.imp (Znr hl) fun σ H R zq=>by
 obtain ⟨ρ,F0,H0,F,xs,ok,ex,q⟩:=zq
 obtain ⟨d,ed,ex⟩:=bind_some ex
 refine ⟨ρ,F0,H0,F,d,ok,ed,fun v F1 H1 g1 r1=>?_⟩
 split at ex
 ·cases ex
  unfold Rep at r1
  obtain ⟨a,vs,rfl,hf,hq,hr⟩:=r1
  exact ⟨a,rfl,.inl ⟨⟨vs,hq⟩,q _ F1 H1 g1 (Zh4 hf hq hr)⟩⟩
 ·cases ex
  unfold Rep at r1
  obtain ⟨a,vs,rfl,hq,hr⟩:=r1
  exact ⟨a,rfl,.inr ⟨⟨vs,hq⟩,q _ F1 H1 g1 (ZjR hq hr)⟩⟩
 ·cases ex
theorem VB {a:Expr} {p pos2:Pos} (hgl:Gl X "range") (hm:X.mg "range"=none) (ha:ED X a f) (hst:starEach [a] X.env=[(false,eval a X.env)]:=by rfl):ID X tg (.Call (.Name "range" p) [a] [] pos2) (ZbC f):=
 PI.imp (Zhv hgl hm (Zc ha Zh hst) hst) fun σ H R zq=>by
  obtain ⟨ρ,F0,H0,F,xs,ok,ex,q⟩:=zq
  obtain ⟨d,ed,ex⟩:=bind_some ex
  split at ex
  ·rename_i j
   obtain ⟨hj,rfl⟩:=Ys ex
   refine ⟨ρ,F0,H0,F,[.int j],ok,by simp [Zb,Zk,ed],fun vs F1 H1 g1 r1=>?_⟩
   obtain ⟨v,rfl,rv⟩:=J5 r1
   unfold Rep at rv
   subst rv
   have:=ZcD hj
   exact ⟨j,rfl,this.1,this.2,q _ F1 H1 g1 ZfH⟩
  ·cases ex
theorem Zl9 {a a' : Expr} {f' : DE} {p pos2 : Pos} (hgl : Gl X "range") (hm : X.mg "range" = none) (ha : ED X a f) (ha' : ED X a' f') (hst : starEach [a, a'] X.env = [(false, eval a X.env), (false, eval a' X.env)] := by rfl) (hst2 : starEach [a'] X.env = [(false, eval a' X.env)] := by rfl) :
    ID X tg (.Call (.Name "range" p) [a, a'] [] pos2) (Zh6 f f') :=
  PI.imp (Zhu hgl hm (Zc ha (Zc ha' Zh hst2) (by rw [hst, hst2])) hst hst2) fun σ H R zq => by
    obtain ⟨ρ, F0, H0, F, xs, ok, ex, q⟩ := zq
    obtain ⟨d, ed, ex⟩ := bind_some ex
    obtain ⟨d', ed', ex⟩ := bind_some ex
    cases d with
    | int i =>
     cases d' with
     | int j =>
      have ex : (if (Wn i && Wn j) = true then some (QC i (j - i).toNat) else none) = some xs := ex
      obtain ⟨hj, rfl⟩ := Ys ex
      obtain ⟨hi, hj⟩ := Bool.and_eq_true_iff.mp hj
      refine ⟨ρ, F0, H0, F, [.int i, .int j], ok, by simp [Zb, Zk, ed, ed'], fun vs F1 H1 g1 r1 => ?_⟩
      obtain ⟨v, v', rfl, rv, rv'⟩ := Zjq r1
      unfold Rep at rv rv'
      subst rv rv'
      have h1 := ZcD hi; have h2 := ZcD hj
      exact ⟨i, j, rfl, ⟨h1.1, h1.2, h2.1, h2.2⟩, q _ F1 H1 g1 ZfH⟩
     | _ => cases ex
    | _ => cases ex
noncomputable def Zpt (K:Frag) (ta:TA):TI:=fun σ H R=>ta σ H fun vs H1=>∃ a,vs=[.ref a]/\(((∃ xs,SqL K H1 a xs)/\R (Ite K a false) H1)\/((∃ xs,SqT K H1 a xs)/\R (Ite K a true) H1))
theorem ZlF {elts:List Expr} {k:Nat} {tpos p:Pos} {ta:TA} (hg:Gl X "enumerate") (hm:X.mg "enumerate"=none) (ha:PA X [l] ta) (hs:starEach [l] X.env=[(false,eval l X.env)]:=by rfl) :
  PI X (.Tuple elts k tpos) (.Call (.Name "enumerate" p) [l] [] pos) (Zpt X.K ta):=by
 intro pins s σ H R I h
 refine Call_ (Vc I hg hm boot_enumerate (PyProof.Rows.callWith_type1 (thn (ha pos pins s σ H _ I h) fun us s1 zq=>?_) hs rfl))
 obtain ⟨vs,H1,I1,r1,q1⟩:=zq
 obtain ⟨a,e,q1⟩:=q1
 subst e
 cases r1 with
 | cons r rr=>
  cases rr
  cases r
  have fpk:∀ b∈[s1.heap.objs.size+1,s1.heap.objs.size],ZbM X pins H1 b:=fun b hb=>by
   have:s1.heap.objs.size<=b:=by
    rcases List.mem_cons.mp hb with z | z
    ·omega
    ·rw [List.mem_singleton] at z; omega
   exact I1.fpOk this (I1.hok.fresh this)
  rcases q1 with ⟨⟨xs,hq⟩,q⟩ | ⟨⟨xs,hq⟩,q⟩
  ·obtain ⟨its,rv,p,hz⟩:=I1.list hq
   refine call_enumerate_list p.isList fun h' he hit hsz kp=>wpAny_pyIter_enum (s:={ s1 with heap:=h' }) he ?_
   exact ⟨_,[s1.heap.objs.size+1,s1.heap.objs.size],_,_,H1,rfl,I1.kept (t':=s1.toks) kp,Zf3 a _ _ (Nat.succ_ne_self _),⟨⟨_,he⟩,hit⟩,fpk,q⟩
  ·obtain ⟨its,rv,p,hz⟩:=I1.tuple hq
   refine ZgB (show s1.heap.IsTuple a its.toArray from p) fun h' he hit hsz kp=>wpAny_pyIter_enum (s:={ s1 with heap:=h' }) he ?_
   exact ⟨_,[s1.heap.objs.size+1,s1.heap.objs.size],_,_,H1,rfl,I1.kept (t':=s1.toks) kp,Zf2 a _ _ (Nat.succ_ne_self _),⟨⟨_,he⟩,hit⟩,fpk,q⟩
noncomputable def JN (f:DE):DI:=fun ρ=>(YR f ρ).map (Qa 0)
theorem Zc0 {elts:List Expr} {k:Nat} {tpos p:Pos} (hg:Gl X "enumerate") (hm:X.mg "enumerate"=none) (ha:ED X l f) (hs:starEach [l] X.env=[(false,eval l X.env)]:=by rfl) :
  ID X (.Tuple elts k tpos) (.Call (.Name "enumerate" p) [l] [] pos) (JN f):=PI.imp (ZlF hg hm (Zc ha Zh hs) hs) fun σ H R zq=>by
 obtain ⟨ρ,F0,H0,F,xs,ok,ex,q⟩:=zq
 obtain ⟨ys,ey,rfl⟩:=map_some ex
 clear ex
 obtain ⟨d,ed,ex⟩:=bind_some ey
 refine ⟨ρ,F0,H0,F,[d],ok,by simp [Zb,Zk,ed],fun vs F1 H1 g1 r1=>?_⟩
 obtain ⟨v,rfl,rv⟩:=J5 r1
 split at ex
 ·cases ex
  unfold Rep at rv
  obtain ⟨a,vs,rfl,hf,hq,hr⟩:=rv
  exact ⟨a,rfl,.inl ⟨⟨vs,hq⟩,q _ F1 H1 g1 (Zgq hf hq hr)⟩⟩
 ·cases ex
  unfold Rep at rv
  obtain ⟨a,vs,rfl,hq,hr⟩:=rv
  exact ⟨a,rfl,.inr ⟨⟨vs,hq⟩,q _ F1 H1 g1 (Zgp hq hr)⟩⟩
 ·cases ex
theorem Jp {body:List Stmt} {b:DG} {g:DS} {it:DI} {e:Expr} (hp:PassesOwn (model X.prog X.w) X.A X.env X.xe) (hc:X.calm=true) (hi:ID X tg e it) (hg:GD X tg b) (hb:SDs X body g)
  (hs:∀ x,foldedSetIterable e X.env x=pure x:=by intro _; rfl):SD X (.For tg e body [] pos) (V6 it b g):=
 PS.imp (Znp hp hc hi hg hb hs) fun E σ H zq=>by
  obtain ⟨ρ,F0,H0,F,o,ok,e,k⟩:=zq
  obtain ⟨xs,ex,e⟩:=bind_some e
  refine ⟨ρ,F0,H0,F,xs,ok,ex,fun J F1 H1 g1 hJ=>?_⟩
  have k1:=k.ext g1.ext
  refine ⟨fun i m σ' H'=>m=xs.length-i/\i<=xs.length/\FW X.K F0 H0 F1 H1 b g xs o i σ' H',⟨xs.length,by simp,Nat.zero_le _,ρ,F1,ok.grow g1,.refl,e⟩,?_⟩
  rintro i m σ1 H2 ⟨rfl,hi,ρ1,F2,ok2,x2,e2⟩
  obtain ⟨hgo,hst⟩:=hJ F2 H2 x2
  by_cases hlt:i < xs.length
  ·obtain ⟨go,yl⟩:=hgo i xs[i] (by simp [hlt])
   refine .inr ⟨go,FW X.K F0 H0 F1 H1 b g xs o (i+1),fun σ' H' w=>⟨xs.length-(i+1),by omega,rfl,hlt,w⟩,fun x H3 y=>?_⟩
   obtain ⟨F3,g3,rx⟩:=yl x H3 y
   rw [List.drop_eq_getElem_cons hlt] at e2
   unfold QM at e2
   obtain ⟨ρ2,eb,e2⟩:=bind_some e2
   refine ⟨ρ1,F0,H0,F3,xs[i],ρ2,ok2.grow g3,rx,eb,fun σ4 F4 H4 g4 ok4=>?_⟩
   cases eg:g ρ2 with
   | none=>rw [eg] at e2; cases e2
   | some o1=>
    rw [eg] at e2
    have x4:=(x2.trans (g3.ext (K:=X.K))).trans (g4.ext (K:=X.K))
    refine ⟨ρ2,F0,H0,F4,o1,ok4,eg,?_⟩
    cases o1 with
    | nx ρ3=>exact fun σ5 F5 H5 x5 ok5=>⟨ρ3,F5,ok5,x4.trans x5,e2⟩
    | ct ρ3=>exact fun σ5 F5 H5 x5 ok5=>⟨ρ3,F5,ok5,x4.trans x5,e2⟩
    | bk ρ3=>cases e2; exact fun σ5 F5 H5 x5 ok5=>k1 σ5 F5 H5 (x4.trans x5) ok5
    | rt d=>cases e2; exact k1
  ·have ei:i=xs.length:=by omega
   subst ei
   refine .inl ⟨hst _ (Nat.le_refl _),?_⟩
   rw [List.drop_eq_nil_of_le (Nat.le_refl _)] at e2
   cases e2
   exact k1 σ1 F2 H2 x2 ok2
end
noncomputable def Yh (b:DG) (t:DT) (f:DE):List D->Rho->Option (List D)
 | [],_=>some []
 | x::xs,ρ=>(b x ρ).bind fun ρ1=>(t ρ1).bind fun c=>match c with
  | true=>(f ρ1).bind fun d=>(Yh b t f xs ρ1).map (d::·)
  | false=>Yh b t f xs ρ1
noncomputable def JE (caps:List (Option Nat)) (ρ:Rho):Rho:=caps.map fun c=>match c.bind (ρ[·]?) with | some (.val d)=>.val d | _=>.no
noncomputable def Zbc (caps:List (Option Nat)) (σ:L2.St):L2.St:=caps.map fun c=>c.bind fun j=>(σ[j]?).join
structure ZmK (X:Cx) (N:List Str) (scope:Scope) (caps:List (Option Nat)):Prop where
 len:caps.length=N.length
 ok:∀ (i j:Nat) (x:Str),caps[i]?=some (some j)->N[i]?=some x->X.N[j]?=some x/\Vis X.env.scope x/\X.env.kindOf x≠some .local/\(relabel scope X.env).names.lookup x≠some .local
noncomputable def YH (caps:List (Option Nat)) (it:DI) (b:DG) (t:DT) (f:DE):DE:=fun ρ=>(it ρ).bind fun xs=>if xs.length<=lim then (Yh b t f xs (JE caps ρ)).map .lst else none
noncomputable def NoOwn (ρ:Rho):Prop:=∀ (i:Nat) ds,ρ[i]?≠some (.own ds)
theorem NoOwn.set {ρ:Rho} (h:NoOwn ρ) (i:Nat) (d:D):NoOwn (ρ.set i (.val d)):=fun j ds e=>by
 by_cases hj:i=j
 ·subst hj
  by_cases hl:i < ρ.length
  ·rw [List.getElem?_set_self hl] at e; cases e
  ·rw [List.getElem?_eq_none (by rw [List.length_set]; omega)] at e; cases e
 ·rw [List.getElem?_set_ne hj] at e; exact h j ds e
noncomputable def Zbj (b:DG):Prop:=∀ d ρ ρ',b d ρ=some ρ'->NoOwn ρ->NoOwn ρ'
theorem Yc (i:Nat):Zbj (Zz i):=fun d ρ ρ' e h=>by cases e; exact h.set i d
theorem ZbW (i j:Nat):Zbj (Y1 i j):=fun d ρ ρ' e h=>by
 unfold Y1 at e
 split at e
 ·cases e; exact (h.set _ _).set _ _
 ·cases e
theorem Zan (caps:List (Option Nat)) (ρ:Rho):NoOwn (JE caps ρ):=fun i ds e=>by
 unfold JE at e
 rw [List.getElem?_map] at e
 obtain ⟨c,_,e⟩:=map_some e
 split at e <;> cases e
theorem EnvOk.wrtD {K:Frag} {F0 F:Fz} {H0 H:Hp} {σ:L2.St} {ρ:Rho} {xs ys:List V} {a:Addr} (ok:EnvOk K F0 H0 F σ H ρ) (no:NoOwn ρ) (ha:H a=some (.lst xs)) (hF:¬ F a) (h0:H0 a=none):EnvOk K F0 H0 F σ (upd H a (.lst ys)) ρ:=by
 have x:=Za3 (K:=K) (ys:=ys) ha hF
 refine ⟨⟨fun b o q=>?_,ok.base.sub,fun b z=>?_⟩,fun j d' h=>?_,fun j es h=>absurd h (no j es),fun j k es fs b q1=>absurd q1 (no j es),ok.len,fun b z=>?_⟩
 ·rw [ZU (ZR q h0)]; exact ok.base.same b o q
 ·rcases ok.base.new b z with z1 | ⟨z1,z2⟩
  ·exact .inl z1
  ·refine .inr ⟨z1,?_⟩
   by_cases e:b=a
   ·rw [e,ZZ]; simp
   ·rw [ZU e]; exact z2
 ·obtain ⟨v,e1,e2⟩:=ok.val j d' h
  exact ⟨v,e1,Rep.ext x e2⟩
 ·rcases ok.fz b z with z1 | z1
  ·left
   by_cases e:b=a
   ·rw [e,ZZ]; simp
   ·rw [ZU e]; exact z1
  ·exact .inr z1
theorem EnvOk.capt {X:Cx} {N:List Str} {scope:Scope} {caps:List (Option Nat)} {F0 F:Fz} {H0 H:Hp} {σ:L2.St} {ρ:Rho} (ok:EnvOk X.K F0 H0 F σ H ρ):EnvOk X.K F H F (Zbc caps σ) H (JE caps ρ) where
 base:=.refl
 val:=fun i d h=>by
  unfold JE at h
  rw [List.getElem?_map] at h
  obtain ⟨c,ec,h⟩:=map_some h
  split at h
  ·rename_i d' e
   cases h
   obtain ⟨j,rfl,ej⟩:=bind_some e
   obtain ⟨v,e1,e2⟩:=ok.val j _ ej
   refine ⟨v,?_,e2⟩
   unfold Zbc
   rw [List.getElem?_map,ec]
   simp [e1]
  ·cases h
 own:=fun i ds h=>absurd h (Zan caps ρ i ds)
 inj:=fun i j ds es a h=>absurd h (Zan caps ρ i ds)
 len:=by simp [JE,Zbc]
 fz:=ok.fz
noncomputable def TDs (X:Cx) (ifs:List Expr) (t:DT):Prop:=PTs X ifs (rdT X.K t)
noncomputable def ZH:DT:=fun _=>some true
theorem QJ {X:Cx}:TDs X [] ZH:=fun pins s σ H Q I zq=>by
 obtain ⟨ρ,F0,H0,F,d,ok,e,q⟩:=zq
 cases e
 exact Zlx pins s σ H Q I (q F H .refl)
theorem Zex {X:Cx} {c:Expr} {t:DT} (h:TD X c t):TDs X [c] t:=Zlw h
section
variable {X:Cx} {pos:Pos} {tg elt iter:Expr} {ifs:List Expr}
theorem Zhp {scope:Scope} {N:List Str} {caps:List (Option Nat)} {b:DG} {t:DT} {f:DE} {it:DI} (C:ZmK X N scope caps) (hno:Zbj b) {σ:L2.St} {H:Hp} {Q:VK} (h:rd X.K (YH caps it b t f) σ H Q) :
  Zg1 X.K (rdI X.K it) (Zap X N scope σ (rdG X.K b) (rdT X.K t) (rd X.K f)) σ H Q:=by
  obtain ⟨ρ,F0,H0,F,d,ok,e,q⟩:=h
  obtain ⟨xs,ex,e⟩:=bind_some e
  by_cases hz:xs.length<=lim
  ·rw [if_pos hz] at e
   obtain ⟨ds,ec,rfl⟩:=map_some e
   refine ⟨ρ,F0,H0,F,xs,ok,ex,fun J F1 H1 g1 hJ Dl hD hK=>?_⟩
   have ok1:=ok.grow g1
   have nF1:¬ F1 Dl:=fun z=>by
    rcases ok1.fz Dl z with z | ⟨o,z⟩
    ·exact z hD
    ·rw [hK] at z; cases z
   have oks:EnvOk X.K F1 H1 F1 (Zbc caps σ) (upd H1 Dl (.lst [])) (JE caps ρ):=(EnvOk.capt (N:=N) (scope:=scope) ok1).grow (.laid0 hD)
   have gx:Ext X.K F1 H1 F1 (upd H1 Dl (.lst [])):=(Grow.laid0 hD).ext
   refine ⟨Zbc caps σ,fun i m σ2 H2=>m=xs.length-i/\i<=xs.length/\∃ ρ2 F2 ys pre post,EnvOk X.K F1 H1 F2 σ2 H2 ρ2/\NoOwn ρ2/\Ext X.K F1 H1 F2 H2/\H2 Dl=some (.lst ys)/\¬ F2 Dl/\RepL X.K F2 H2 pre ys/\pre.length<=i/\Yh b t f (xs.drop i) ρ2=some post/\ds=pre++post,
    by simp [Zbc,C.len],fun i x v e1 e2 e3=>?_,⟨xs.length,by simp,Nat.zero_le _,JE caps ρ,F1,[],[],ds,oks,Zan _ _,gx,ZZ,nF1,.nil,Nat.le_refl _,ec,rfl⟩,?_⟩
   ·unfold Zbc at e2
    rw [List.getElem?_map] at e2
    obtain ⟨c,ecap,e2⟩:=map_some e2
    obtain ⟨j,rfl,e2⟩:=bind_some e2
    obtain ⟨h1,h2,h3,h4⟩:=C.ok i j x ecap e1
    exact ⟨h4,j,h1,by simpa [Option.join_eq_some_iff] using e2,h2,h3⟩
   ·rintro i m σ2 H2 ⟨rfl,hi',ρ2,F2,ys,pre,post,ok2,no2,x2,hD2,nF2,rp2,hl2,e2,ed⟩
    obtain ⟨hgo,hst⟩:=hJ F2 H2 x2
    by_cases hlt:i < xs.length
    ·obtain ⟨go,yl⟩:=hgo i xs[i] (by simp [hlt])
     refine .inr ⟨go,fun x H3 y=>?_⟩
     obtain ⟨F3,g3,rx⟩:=yl x H3 y
     rw [List.drop_eq_getElem_cons hlt] at e2
     unfold Yh at e2
     obtain ⟨ρ3,eb,e2⟩:=bind_some e2
     obtain ⟨c,et,e2⟩:=bind_some e2
     have no3:=hno _ _ _ eb no2
     refine ⟨ρ2,F1,H1,F3,xs[i],ρ3,ok2.grow g3,rx,eb,fun σ4 F4 H4 g4 ok4=>⟨ρ3,F1,H1,F4,c,ok4,et,fun F5 H5 g5=>?_⟩⟩
     have g35:=g3.trans (g4.trans g5)
     have nF5:∀ {F6:Fz} {H6:Hp},Grow F2 H2 F6 H6->¬ F6 Dl:=fun {F6 H6} g6 z=>by
      rcases g6.new Dl z with z | z
      ·exact nF2 z
      ·rw [hD2] at z; cases z.1
     cases c with
     | false=>
      refine Zp3 ?_
      exact ⟨xs.length-(i+1),by omega,rfl,hlt,ρ3,F5,ys,pre,post,ok4.grow g5,no3,x2.trans g35.ext,g35.same _ _ hD2,nF5 g35,rp2.grow g35,by omega,e2,ed⟩
     | true=>
      refine Zpo ?_
      obtain ⟨d,ef,e2⟩:=bind_some e2
      obtain ⟨post',e3,rfl⟩:=map_some e2
      refine ⟨ρ3,F1,H1,F5,d,ok4.grow g5,ef,fun v F6 H6 g6 r6=>?_⟩
      have g36:=g35.trans g6
      have hD6:=g36.same _ _ hD2
      have xo:=Za3 (K:=X.K) (ys:=ys++[v]) hD6 (nF5 g36)
      refine ⟨ys,hD6,?_,xs.length-(i+1),by omega,rfl,hlt,ρ3,F6,ys++[v],pre++[d],post',((ok4.grow g5).grow g6).wrtD no3 hD6 (nF5 g36) hD,no3,(x2.trans g36.ext).trans xo,ZZ,nF5 g36,RepL.ext xo ((rp2.grow g36).append (.cons r6 .nil)),by simp; omega,e3,by simp [ed]⟩
      rw [<-rp2.length]
      have:sizeLine=16777216:=sizeLine_eq
      unfold lim at hz
      omega
    ·have ei:i=xs.length:=by omega
     subst ei
     refine .inl ⟨hst _ (Nat.le_refl _),?_⟩
     rw [List.drop_eq_nil_of_le (Nat.le_refl _)] at e2
     cases e2
     rw [List.append_nil] at ed
     subst ed
     have b:=ok2.base
     refine q (.ref Dl) (fun a=>F2 a\/a=Dl) H2 (g1.trans ⟨b.same,fun a z=>.inl (b.sub a z),fun a z=>?_⟩) ?_
     ·rcases z with z | rfl
      ·exact b.new a z
      ·exact .inr ⟨hD,by rw [hD2]; simp⟩
     ·unfold Rep
      have xx:Ext X.K F2 H2 (fun a=>F2 a\/a=Dl) H2:=⟨fun a z=>.inl z,fun a ys _ z=>z,fun a ys z=>z⟩
      exact ⟨Dl,ys,rfl,.inr rfl,.of hD2,RepL.ext xx rp2⟩
  ·rw [if_neg hz] at e; cases e
theorem QN {scope:Scope} {N:List Str} {caps:List (Option Nat)} {b:DG} {t:DT} {f:DE} {it:DI} (S:CompScope X scope) (C:ZmK X N scope caps) (hc:X.calm=true) (hit:ID X tg iter it) (hno:Zbj b)
  (hg:∀ C s3 H3 fp,GD (Z1 X N scope C s3 H3 fp) tg b) (hi:∀ C s3 H3 fp,TDs (Z1 X N scope C s3 H3 fp) ifs t) (he:∀ C s3 H3 fp,ED (Z1 X N scope C s3 H3 fp) elt f)
  (hs:∀ x,foldedSetIterable iter X.env x=pure x:=by intro _; rfl) :
  ED X (.ListComp elt [⟨tg,iter,ifs,0⟩] scope pos) (YH caps it b t f):=
 PE.imp (ZlJ (N:=N) (g:=rdG X.K b) (tt:=rdT X.K t) (te:=rd X.K f) S hc hit hg hi he hs) fun σ H Q h=>Zhp C hno h
end
section
variable {prog:Program} {w:World} {A:Around} {E:Value->Shared->Prop} {s:Shared}
theorem ZgZ {t sl:Addr} {items:Array Value} {vl vu:Value} {lo hi:Option Int} {Q:Value->Shared->Prop} (ht:IsTup s.heap t items) (hs:s.heap.IsSliceOf sl vl vu .none) (pl:IsPart vl lo) (pu:IsPart vu hi)
  (hw:HT.sIx items.size 0 lo=0/\HT.sIx items.size items.size hi=items.size) (h:Q (.ref t) s):wpAny (model prog w) A (getItem (.ref t) (.ref sl)) Q E s:=by
 obtain ⟨os,hos,hcs,hds⟩:=id hs
 have hTs:s.TypeIs (.ref sl) "slice":=⟨os,hos,hcs⟩
 unfold getItem
 try with_reducible refine wpAny_holding ?_
 first | refine wpAny_bind (wpAny_pure ?_) | skip
 refine wpAny_bind (wpAny_sequenceKey ht.typeIs (by decide) ?_)
 refine wpAny_bind (wpAny_callSpecial?_slot (name:=Str.ofString "__getitem__") ht.typeIs PyProof.Rows.slot_tuple_getitem
  (wpAny_call_entry PyProof.Rows.slot_tuple_getitem ht.typeIs entry_tuple_getitem ?_ (args_tuple_getitem _ _)))
 show wpAny _ _ (Builtin.Tuple.tupleItemsOf (.ref t) >>= _) _ _ s
 refine wpAny_bind (tupleItemsOf_ ht ?_)
 refine wpAny_bind (wpAny_typeOf hTs ?_)
 rw [if_pos (by decide)]
 refine wpAny_bind (HT.sliceApplied_gen hs pl pu ?_)
 rw [hw.1,hw.2,Nat.sub_zero]
 have hyes:((((0:Nat):Int)==0&&(1:Int)==1&&items.size==items.size)=true):=by simp
 show wpAny _ _ (if ((((0:Nat):Int)==0&&(1:Int)==1&&items.size==items.size)=true) then _ else _) _ _ s
 rw [if_pos hyes]
 unfold Builtin.Tuple.tupleIsExact
 refine wpAny_bind (wpAny_bind (wpAny_typeOf ht.typeIs (wpAny_pure ?_)))
 rw [if_pos (by decide)]
 refine wpAny_bind (wpAny_rule (wpAny_bind (wpAny_pure (wpAny_pure ?_))))
 exact ⟨_,rfl,wpAny_pure h⟩
theorem Zc1 {α β:Type} {f g:α->Option β}:∀ {l:List α},(∀ m,m∈l->f m=g m)->l.filterMap f=l.filterMap g
 | [],_=>rfl
 | x::l,h=>by
  rw [List.filterMap_cons,List.filterMap_cons,h x List.mem_cons_self,Zc1 fun m hm=>h m (List.mem_cons_of_mem _ hm)]
theorem Zfq {α:Type} (xs:List α):((List.range xs.length).filterMap fun (m:Nat)=>xs[(((xs.length:Nat):Int)-1+(m:Int)*(-1)).toNat]?)=xs.reverse:=by
 have e:∀ m,m∈List.range xs.length->xs[(((xs.length:Nat):Int)-1+(m:Int)*(-1)).toNat]?=xs.reverse[m]?:=fun m hm=>by
  have hm:=List.mem_range.mp hm
  rw [List.getElem?_reverse hm]
  congr 1
  omega
 rw [Zc1 e]
 have hl:xs.length=xs.reverse.length:=by simp
 rw [hl]
 generalize xs.reverse=ys
 clear e hl
 induction ys with
 | nil=>rfl
 | cons y ys ih=>
  rw [List.length_cons,List.range_succ_eq_map,List.filterMap_cons]
  simp only [List.getElem?_cons_zero,List.filterMap_map]
  congr 1
theorem Zld {t sl:Addr} {items:Array Value} {u:Tok} {Q:Value->Shared->Prop} (ht:IsTup s.heap t items) (hs:s.heap.IsSliceOf sl .none .none (.int (-1) u)) (hsz:items.size<=sizeLine)
  (h:Q (.ref s.heap.objs.size) { s with heap:=s.heap.push { cls:=.type "tuple",data:=.seq items.toList.reverse.toArray } }):wpAny (model prog w) A (getItem (.ref t) (.ref sl)) Q E s:=by
 obtain ⟨os,hos,hcs,hds⟩:=id hs
 have hTs:s.TypeIs (.ref sl) "slice":=⟨os,hos,hcs⟩
 unfold getItem
 try with_reducible refine wpAny_holding ?_
 first | refine wpAny_bind (wpAny_pure ?_) | skip
 refine wpAny_bind (wpAny_sequenceKey ht.typeIs (by decide) ?_)
 refine wpAny_bind (wpAny_callSpecial?_slot (name:=Str.ofString "__getitem__") ht.typeIs PyProof.Rows.slot_tuple_getitem
  (wpAny_call_entry PyProof.Rows.slot_tuple_getitem ht.typeIs entry_tuple_getitem ?_ (args_tuple_getitem _ _)))
 show wpAny _ _ (Builtin.Tuple.tupleItemsOf (.ref t) >>= _) _ _ s
 refine wpAny_bind (tupleItemsOf_ ht ?_)
 refine wpAny_bind (wpAny_typeOf hTs ?_)
 rw [if_pos (by decide)]
 refine wpAny_bind (?_:wpAny _ _ _ _ _ s)
 unfold Builtin.Slice.sliceApplied Builtin.Slice.sliceFields
 refine wpAny_bind (wpAny_bind (wpAny_field hos hds (x:=.none) rfl (wpAny_bind (wpAny_field hos hds (x:=.none) rfl (wpAny_bind (wpAny_field hos hds (x:=.int (-1) u) rfl (wpAny_pure ?_)))))))
 refine wpAny_bind (slicePart_int ?_)
 show wpAny _ _ (if (((-1:Int))==0)=true then _ else _) _ _ s
 rw [if_neg (by decide)]
 refine wpAny_bind (slicePart_none (wpAny_bind (slicePart_none (wpAny_bind (wpAny_pure ?_)))))
 have ad:Builtin.Slice.sliceAdjust none none (-1) (items.size:Int)=((items.size:Int)-1,-1):=rfl
 have pl:Builtin.Slice.slicePlaces ((items.size:Int)-1) (-1) (-1)=items.size:=by
  unfold Builtin.Slice.slicePlaces
  rw [if_neg (by decide)]
  by_cases hz:(items.size:Int)-1 > -1
  ·rw [if_pos hz]
   have:(-(-1:Int))=1:=by decide
   rw [this,Int.ediv_one]
   omega
  ·rw [if_neg hz]; omega
 show wpAny _ _ (match Builtin.Slice.sliceAdjust none none (-1) (items.size:Int) with | (lo,hi)=>pure (lo,(-1:Int),Builtin.Slice.slicePlaces lo hi (-1))) _ _ s
 rw [ad]
 show wpAny _ _ (pure ((items.size:Int)-1,(-1:Int),Builtin.Slice.slicePlaces ((items.size:Int)-1) (-1) (-1))) _ _ s
 rw [pl]
 refine wpAny_pure ?_
 have hno:¬ ((((items.size:Int)-1==0)&&((-1:Int)==1)&&(items.size==items.size))=true):=by
  rw [show ((-1:Int)==1)=false from rfl]
  simp
 show wpAny _ _ (if (((items.size:Int)-1==0)&&((-1:Int)==1)&&(items.size==items.size))=true then _ else _) _ _ s
 rw [if_neg hno]
 have ep:((List.range items.size).filterMap fun (k:Nat)=>items[((items.size:Int)-1+(k:Int)*(-1)).toNat]?).toArray=items.toList.reverse.toArray:=by
  have:=Zfq items.toList
  rw [Array.length_toList] at this
  rw [<-this]
  simp
 rw [ep]
 have htake:sizeOk (.seq items.toList.reverse.toArray):=by
  show items.toList.reverse.toArray.size<=sizeLine
  simpa using hsz
 first
  | exact wpAny_bind (m:=Builtin.Tuple.tupleExact _) (wpAny_newObj_type (wpAny_pure ⟨_,rfl,wpAny_pure h⟩) htake)
  | exact wpAny_bind (m:=Builtin.Tuple.tupleExact _) (wpAny_newObj_type (wpAny_bind (wpAny_pure (wpAny_pure ⟨_,rfl,wpAny_pure h⟩))) htake)
  | exact wpAny_bind (wpAny_bind (m:=Builtin.Tuple.tupleExact _) (wpAny_newObj_type (wpAny_pure (wpAny_pure ⟨_,rfl,wpAny_pure h⟩)) htake))
  | exact wpAny_bind (wpAny_bind (m:=Builtin.Tuple.tupleExact _) (wpAny_newObj_type (wpAny_pure ⟨_,rfl,wpAny_pure h⟩) htake))
theorem ZdG (its:List Value):slicePick its.toArray none none (some (-1))=its.reverse.toArray:=by
 unfold slicePick
 have b:sliceBounds none none (some (-1)) its.toArray.size=((its.length:Int)-1,-1,-1):=by
  simp [sliceBounds]
 rw [b]
 congr 1
 unfold sliceRange
 simp only [show ¬ ((-1:Int) > 0) by decide,if_false,List.filterMap_map]
 have hc:(if (its.length:Int)-1 > -1 then ((its.length:Int)-1 - -1 - -1-1) / (- -1) else 0).toNat=its.length:=by
  split
  ·rw [show (- -1:Int)=1 by decide,Int.ediv_one]; omega
  ·omega
 rw [hc,<-Zfq its]
 apply Zc1
 intro m hm
 simp only [Function.comp]
 rw [show (((its.length:Nat):Int)-1+-1*(m:Int))=(((its.length:Nat):Int)-1+(m:Int)*(-1)) by omega]
 simp
end
noncomputable def cutD {α:Type} (xs:List α) (lo hi:Option Int):List α:=(xs.drop (HT.sIx xs.length 0 lo)).take (HT.sIx xs.length xs.length hi-HT.sIx xs.length 0 lo)
theorem RepL.cut {K:Frag} {F:Fz} {H:Hp} {ds:List D} {vs:List V} (h:RepL K F H ds vs) (lo hi:Option Int):RepL K F H (cutD ds lo hi) (ZgO vs lo hi):=by
 unfold cutD ZgO
 rw [h.length]
 exact (h.drop _).take _
section
variable {X:Cx} {pos:Pos} {e:Expr} {f:DE}
noncomputable abbrev DO:=Rho->Option (Option Int)
inductive Zq1 (K:Frag) (p:DO) (σ:L2.St) (H:Hp) (Q:Option Int->Hp->Prop):Prop
 | mk (ρ:Rho) (F0:Fz) (H0:Hp) (F:Fz) (o:Option Int) (ok:EnvOk K F0 H0 F σ H ρ) (e:p ρ=some o) (q:∀ F' H',Grow F H F' H'->Q o H')
noncomputable def rdO (K:Frag) (p:DO):TO:=fun σ H Q=>Zq1 K p σ H Q
noncomputable def OD (X:Cx) (e:Option Expr) (p:DO):Prop:=PO X e (rdO X.K p)
theorem PO.imp {e:Option Expr} {t t':TO} (h:PO X e t) (i:∀ σ H Q,t' σ H Q->t σ H Q):PO X e t':=fun pins s σ H Q I q=>h pins s σ H Q I (i σ H Q q)
noncomputable def Z2:DO:=fun _=>some none
noncomputable def ZN (f:DE):DO:=fun ρ=>(f ρ).bind fun d=>match d with | .int i=>some (some i) | _=>none
theorem Yv:OD X none Z2:=PO.imp ZlD fun σ H Q ⟨ρ,F0,H0,F,o,ok,e,q⟩=>by cases e; exact q F H .refl
theorem Z6 (h:ED X e f):OD X (some e) (ZN f):=PO.imp (Zhs h) fun σ H Q zq=>by
 obtain ⟨ρ,F0,H0,F,o,ok,eo,q⟩:=zq
 obtain ⟨d,ed,eo⟩:=bind_some eo
 refine ⟨ρ,F0,H0,F,d,ok,ed,fun v F1 H1 g1 r1=>?_⟩
 split at eo
 ·cases eo
  unfold Rep at r1
  exact ⟨_,r1,q F1 H1 g1⟩
 ·cases eo
noncomputable def Zqx (K:Frag):V->Option Int->Option Int->Hp->VK->Prop:=fun x lo hi H Q=>∃ a xs,x=.ref a/\((SqL K H a xs/\∀ p,H p=none->Q (.ref p) (upd H p (.lst (ZgO xs lo hi)))) \/
 (SqT K H a xs/\(ZgO xs lo hi=xs->Q (.ref a) H)/\∀ p,H p=none->Q (.ref p) (upd H p (.tup (ZgO xs lo hi)))))
theorem Zm3:SlR X (Zqx X.K):=by
 intro pins s σ H x v vl vu lo hi sl Q I rx hs pl pu h
 obtain ⟨a,xs,rfl,h⟩:=h
 rcases h with ⟨hx,q⟩ | ⟨hx,q1,q2⟩
 ·exact Zlk pins s σ H _ v vl vu lo hi sl Q I rx hs pl pu ⟨a,xs,rfl,hx,q⟩
 ·by_cases hw:HT.sIx xs.length 0 lo=0/\HT.sIx xs.length xs.length hi=xs.length
  ·cases rx
   obtain ⟨its,r,ht,hz⟩:=I.tuple hx
   have hlen:its.toArray.size=xs.length:=by rw [List.size_toArray]; exact r.length.symm
   refine ⟨"tuple",_,PyProof.Rows.slot_tuple_getitem.lookup,ht.typeIs,?_⟩
   refine ZgZ ht hs pl pu (by rw [hlen]; exact hw) ⟨.ref a,H,I,rfl,q1 ?_⟩
   unfold ZgO
   rw [hw.1,hw.2]
   simp
  ·exact Zm1 pins s σ H _ v vl vu lo hi sl Q I rx hs pl pu ⟨a,xs,rfl,hx,hw,q2⟩
noncomputable def Za6 (lo hi:Option Int):D->Option D
 | .lst xs=>some (.lst (cutD xs lo hi))
 | .tup xs=>some (.tup (cutD xs lo hi))
 | _=>none
noncomputable def dSl (f:DE) (l h:DO):DE:=fun ρ=>(f ρ).bind fun x=>(l ρ).bind fun lo=>(h ρ).bind fun hi=>Za6 lo hi x
theorem V4 {lo hi:Option Expr} {l h:DO} {p2:Pos} (he:ED X e f) (hl:OD X lo l) (hh:OD X hi h):ED X (.Subscript e (.Slice lo hi none p2) pos) (dSl f l h):=
 PE.imp (Zfw Zm3 he hl hh) fun σ H Q zq=>by
  obtain ⟨ρ,F0,H0,F,d,ok,e,q⟩:=zq
  obtain ⟨x,ex,e⟩:=bind_some e
  obtain ⟨lo,el,e⟩:=bind_some e
  obtain ⟨hi,eh,e⟩:=bind_some e
  refine ⟨ρ,F0,H0,F,x,ok,ex,fun v F1 H1 g1 r1=>⟨ρ,F0,H0,F1,lo,ok.grow g1,el,fun F2 H2 g2=>⟨ρ,F0,H0,F2,hi,(ok.grow g1).grow g2,eh,fun F3 H3 g3=>?_⟩⟩⟩
  have g13:=g1.trans (g2.trans g3)
  have r3:=(r1.grow g2).grow g3
  unfold Za6 at e
  split at e
  ·cases e
   unfold Rep at r3
   obtain ⟨a,vs,rfl,hf,hq,hr⟩:=r3
   exact ⟨a,vs,rfl,.inl ⟨hq,fun p hp=>q _ _ _ (g13.trans (.laid hp)) (Y7 hp (hr.cut lo hi))⟩⟩
  ·rename_i ds
   cases e
   have r3':=r3
   unfold Rep at r3
   obtain ⟨a,vs,rfl,hq,hr⟩:=r3
   refine ⟨a,vs,rfl,.inr ⟨hq,fun ec=>q _ F3 H3 g13 ?_,fun p hp=>q _ F3 _ (g13.trans (.laid0 hp)) ?_⟩⟩
   ·unfold Rep
    refine ⟨a,vs,rfl,hq,?_⟩
    have:=hr.cut lo hi
    rw [ec] at this
    exact this
   ·unfold Rep
    exact ⟨p,_,rfl,.of ZZ,(hr.cut lo hi).grow (.laid0 hp)⟩
  ·cases e
noncomputable def Zml (f:DE):DE:=fun ρ=>(f ρ).bind fun x=>match x with | .lst xs=>some (.lst xs.reverse) | .tup xs=>some (.tup xs.reverse) | _=>none
theorem Zoi {p1 p2 p3:Pos} {j:Nat} (he:ED X e f):ED X (.Subscript e (.Slice none none (some (.UnaryOp .USub (.Constant (.int 1) j p1) p3)) p2) pos) (Zml f):=by
 intro pins s σ H Q I h
 obtain ⟨ρ,F0,H0,F,d,ok,ed,q⟩:=h
 obtain ⟨x,ex,ed⟩:=bind_some ed
 refine Subscript_ (thn (he pins s σ H (fun v H'=>∃ F',Grow F H F' H'/\Rep X.K F' H' x v) I ⟨ρ,F0,H0,F,x,ok,ex,fun v F' H' g r=>⟨F',g,r⟩⟩) fun v s1 zq=>?_)
 obtain ⟨xv,H1,I1,r1,F1,g1,rx⟩:=zq
 refine wpAny_Slice ?_
 rw [evalPart_none]
 refine wpAny_pure ?_
 refine wpAny_pure ?_
 refine thn (Zhs (Znu Zkq ZkE) pins s1 σ H1 (fun o H'=>o=some (-1)/\H'=H1) I1 ⟨1,rfl,_,rfl,rfl,rfl⟩) fun vs s3 zq=>?_
 obtain ⟨o,H3,I3,ps,eo,eH⟩:=zq
 subst eo eH
 obtain ⟨u,rfl⟩:∃ u,vs=.int (-1) u:=by cases ps; exact ⟨_,rfl⟩
 have I4:Inv X pins σ H3 { s3 with heap:=s3.heap.push { cls:=.type "slice",data:=.fields #[.none,.none,.int (-1) u] } }:=I3.kept (t':=s3.toks) fun b ob q=>Heap.get?_push_of_some _ q
 have hs:(s3.heap.push { cls:=.type "slice",data:=.fields #[.none,.none,.int (-1) u] }).IsSliceOf s3.heap.objs.size .none .none (.int (-1) u):=Heap.IsSliceOf.new ..
 have fin:∃ T id,typeLookup (.type T) "__getitem__"=pure (some (.builtin id))/\Shared.TypeIs { s3 with heap:=s3.heap.push { cls:=.type "slice",data:=.fields #[.none,.none,.int (-1) u] } } v T /\
   wpAny (model X.prog X.w) X.A (getItem v (.ref s3.heap.objs.size)) (EP X pins σ Q) X.xe { s3 with heap:=s3.heap.push { cls:=.type "slice",data:=.fields #[.none,.none,.int (-1) u] } }:=by
  split at ed
  ·cases ed
   unfold Rep at rx
   obtain ⟨a,vs,rfl,hf,hq,hr⟩:=rx
   cases r1
   obtain ⟨its,rv,ht,hz⟩:=I4.list hq
   have hlen:=rv.length
   refine ⟨"list",_,slot_list_getitem.lookup,ht.isList.typeIs,?_⟩
   refine wpAny_getItem_list_slice ht.isList hs .none .none (.int _ _) (by simp) ?_ (by rw [List.size_toArray] <;> omega)
   rw [ZdG]
   refine ⟨.ref _,_,I4.laid (t':=s3.toks) (o:=.lst vs.reverse) (fun b ob q=>Heap.get?_push_of_some _ q) (Nat.le_refl _) ?_,rfl,q _ _ _ (g1.trans (.laid (I4.hok.fresh (Nat.le_refl _)))) (Y7 (I4.hok.fresh (Nat.le_refl _)) hr.reverse)⟩
   exact ⟨by rw [List.length_reverse]; exact hz,_,0,rv.reverse,Heap.get?_push_size _ rfl⟩
  ·cases ed
   unfold Rep at rx
   obtain ⟨a,vs,rfl,hq,hr⟩:=rx
   cases r1
   obtain ⟨its,rv,ht,hz⟩:=I4.tuple hq
   have hlen:=rv.length
   refine ⟨"tuple",_,PyProof.Rows.slot_tuple_getitem.lookup,ht.typeIs,?_⟩
   refine Zld ht hs (by rw [List.size_toArray]; omega) ?_
   have hp:=I4.hok.fresh (a:=(s3.heap.push { cls:=.type "slice",data:=.fields #[.none,.none,.int (-1) u] }).objs.size) (Nat.le_refl _)
   refine ⟨.ref _,_,I4.laid (t':=s3.toks) (o:=.tup vs.reverse) (fun b ob q=>Heap.get?_push_of_some _ q) (Nat.le_refl _) ?_,rfl,q _ F1 _ (g1.trans (.laid0 hp)) ?_⟩
   ·exact ⟨by rw [List.length_reverse]; exact hz,_,rv.reverse,IsTup.new _ _⟩
   ·unfold Rep
    exact ⟨_,_,rfl,.of ZZ,hr.reverse.grow (.laid0 hp)⟩
  ·cases ed
 obtain ⟨T,id,hT,ht,hg⟩:=fin
 show wpAny (model X.prog X.w) X.A (subscriptTail e (.Slice none none (some (.UnaryOp .USub (.Constant (.int 1) j p1) p3)) p2) v (.ref s3.heap.objs.size)) (EP X pins σ Q) X.xe _
 exact tail_any (ops:=[v,.ref s3.heap.objs.size]) ht hT hg (by with_unfolding_all rfl)
end
noncomputable def ZpN (prog:Program) (w:World) (A:Around) (op:CmpOp) (G:Heap->Prop) (P:Nat->Value->Prop) (bt:Nat->Nat->Bool):Prop:=
 ∀ i j vi vj (s:Shared) (Q:Value->Shared->Prop) (E:Value->Shared->Prop),G s.heap->P i vi->P j vj->Q (.bool (bt i j)) s->wpAny (model prog w) A (richCompare op vi vj) Q E s
section
variable {prog:Program} {w:World} {A:Around} {R:Result->Shared->Prop} {I:Addr} {fp wr:List Addr} {n:Nat} {P:Nat->Value->Prop} {St:Nat->Heap->Prop}
theorem ZhQ (W:Walks prog w A.in1 I fp wr n P St) (G:Heap->Prop) (S:Addr) (hG:∀ h h',G h->(∀ b o,b ∉ wr->b≠S->h.get? b=some o->h'.get? b=some o)->G h') (bt:Nat->Nat->Bool) (hcmp:ZpN prog w A.in1 .Lt G P bt) (hSf:S ∉ fp) :
  ∀ (k j:Nat) (s:Shared) (vb:Value) (c:Nat),n-(j+1)=k->j+1<=n->G s.heap->St (j+1) s.heap->P (argBest bt j) vb->s.heap.get? S=some { cls:=.type "list",dict:=none,data:=.seq #[vb,vb] c,slots:=#[] } ->
  (∀ v h' tk,P (argBest bt (n-1)) v->(∀ b o,b ∉ wr->b≠S->s.heap.get? b=some o->h'.get? b=some o)->R (.ok (.ret v)) { s with heap:=h',toks:=tk }) ->
  codeAny (model prog w) A (.builtin "min.loop" ⟨[.ref I,.none,.ref S],[]⟩) R s:=by
 have hSw:S ∉ wr:=fun h=>hSf (W.sub _ h)
 have hname:(toString "min"++toString ".loop":String)="min.loop":=by decide
 intro k
 induction k with
 | zero=>
  intro j s vb c hk hj hg hst hPb hS hR
  have hin:j+1=n:=by omega
  refine codeAny_builtin F.entry_min_loop ?_
  rw [Around.under_plainId F.plain_min_loop _]; show wpAny _ A.in1 (seqItems? (.ref S) >>= _) _ _ s; refine wpAny_bind (wpAny_seqItems hS rfl ?_)
  show wpAny _ A.in1 (tryCatch (pyNext (.ref I)) _ >>= _) _ _ s; refine wpAny_bind (wpAny_tryCatch (W.done s _ _ (hin ▸ hst) fun h' tk hk'=>?_))
  have hS':=hk' S _ hSw hS
  show wpAny _ A.in1 (updateSeq S (fun _=>#[]) >>= _) _ _ _; refine wpAny_bind (wpAny_updateSeq hS' rfl (wpAny_bind (wpAny_letGo (wpAny_pure ?_))))
  exact hR vb _ tk (by rw [<-hin]; exact hPb) fun b o hbw hbS e=>(Heap.get?_update_other _ _ (Ne.symm hbS)).trans (hk' b o hbw e)
 | succ k ih=>
  intro j s vb c hk hj hg hst hPb hS hR
  have hlt:j+1 < n:=by omega
  refine codeAny_builtin F.entry_min_loop ?_
  rw [Around.under_plainId F.plain_min_loop _]; show wpAny _ A.in1 (seqItems? (.ref S) >>= _) _ _ s; refine wpAny_bind (wpAny_seqItems hS rfl ?_)
  show wpAny _ A.in1 (tryCatch (pyNext (.ref I)) _ >>= _) _ _ s; refine wpAny_bind (wpAny_tryCatch (W.item (j+1) s _ _ hlt hst fun v h' tk hP hst' hk'=>?_))
  have hS':=hk' S _ hSw hS
  have hg':G h':=hG _ _ hg fun b o h1 _ e=>hk' b o h1 e
  show wpAny _ A.in1 (tryCatch (holding [v,v] (richCompare .Lt v vb >>= _)) _ >>= _) _ _ _; refine wpAny_bind (wpAny_tryCatch (wpAny_holding (wpAny_bind (hcmp (j+1) (argBest bt j) v vb _ _ _ hg' hP hPb ?_))))
  refine wpAny_bind (wpAny_holding (wpAny_truthy_bool (wpAny_bind (wpAny_letGo (wpAny_pure ?_)))))
  cases hb:bt (j+1) (argBest bt j) with
  | true=>
   simp only [if_true]
   refine wpAny_bind (wpAny_updateSeq hS' rfl (wpAny_bind (wpAny_letGo ?_)))
   rw [hname]
   refine wpAny_pure ⟨plainId_quiet F.plain_min_loop _,ih (j+1) _ v _ (by omega) hlt (hG _ _ hg' fun b o _ h2 e=>(Heap.get?_update_other _ _ (Ne.symm h2)).trans e) (W.frame _ _ _ hst' fun b hbf o e=>(Heap.get?_update_other _ _ (fun h:S=b=>hSf (by rw [h]; exact hbf))).trans e) (by simp only [argBest,hb,if_true]; exact hP) (Heap.get?_update_self _ hS' rfl) fun v' h'' tk'' hP' hk''=>?_⟩
   exact hR v' h'' tk'' hP' fun b o hbw hbS e=>hk'' b o hbw hbS ((Heap.get?_update_other _ _ (Ne.symm hbS)).trans (hk' b o hbw e))
  | false=>
   simp only [Bool.false_eq_true,if_false]
   refine wpAny_bind (wpAny_letGo ?_)
   rw [hname]
   refine wpAny_pure ⟨plainId_quiet F.plain_min_loop _,ih (j+1) _ vb c (by omega) hlt hg' hst' (by simp only [argBest,hb,Bool.false_eq_true,if_false]; exact hPb) hS' fun v' h'' tk'' hP' hk''=>?_⟩
   exact hR v' h'' tk'' hP' fun b o hbw hbS e=>hk'' b o hbw hbS (hk' b o hbw e)
theorem Zgm (W:Walks prog w A.in1 I fp wr n P St) (G:Heap->Prop) (S:Addr) (hG:∀ h h',G h->(∀ b o,b ∉ wr->b≠S->h.get? b=some o->h'.get? b=some o)->G h') (bt:Nat->Nat->Bool) (hcmp:ZpN prog w A.in1 .Lt G P bt) (hSf:S ∉ fp) (hn:0 < n) {s:Shared} {c:Nat} (hg:G s.heap) (hst:St 0 s.heap)
  (hS:s.heap.get? S=some { cls:=.type "list",dict:=none,data:=.seq #[] c,slots:=#[] })
  (hR:∀ v h' tk,P (argBest bt (n-1)) v->(∀ b o,b ∉ wr->b≠S->s.heap.get? b=some o->h'.get? b=some o)->R (.ok (.ret v)) { s with heap:=h',toks:=tk }) :
  codeAny (model prog w) A (.builtin "min.loop" ⟨[.ref I,.none,.ref S],[]⟩) R s:=by
 have hSw:S ∉ wr:=fun h=>hSf (W.sub _ h)
 have hname:(toString "min"++toString ".loop":String)="min.loop":=by decide
 refine codeAny_builtin F.entry_min_loop ?_
 rw [Around.under_plainId F.plain_min_loop _]; show wpAny _ A.in1 (seqItems? (.ref S) >>= _) _ _ s; refine wpAny_bind (wpAny_seqItems hS rfl ?_)
 show wpAny _ A.in1 (tryCatch (pyNext (.ref I)) _ >>= _) _ _ s; refine wpAny_bind (wpAny_tryCatch (W.item 0 s _ _ hn hst fun v h' tk hP hst' hk'=>?_))
 have hS':=hk' S _ hSw hS
 have hg':G h':=hG _ _ hg fun b o h1 _ e=>hk' b o h1 e
 show wpAny _ A.in1 (updateSeq S (fun _=>#[v,v]) >>= _) _ _ _; refine wpAny_bind (wpAny_updateSeq hS' rfl ?_)
 rw [hname]
 refine wpAny_pure ⟨plainId_quiet F.plain_min_loop _,ZhQ W G S hG bt hcmp hSf _ 0 _ v _ rfl hn (hG _ _ hg' fun b o _ h2 e=>(Heap.get?_update_other _ _ (Ne.symm h2)).trans e) (W.frame _ _ _ hst' fun b hbf o e=>(Heap.get?_update_other _ _ (fun h:S=b=>hSf (by rw [h]; exact hbf))).trans e) hP (Heap.get?_update_self _ hS' rfl) fun v' h'' tk'' hP' hk''=>?_⟩
 exact hR v' h'' tk'' hP' fun b o hbw hbS e=>hk'' b o hbw hbS ((Heap.get?_update_other _ _ (Ne.symm hbS)).trans (hk' b o hbw e))
theorem ZhR {x:Value} {Q:Value->Shared->Prop} {E:Value->Shared->Prop} {s:Shared}
  (h:wpAny (model prog w) A.in1 (pyIter x) (fun it s₂=>∃ I fp wr n P St bt,it=.ref I/\Walks prog w A.in1 I fp wr n P St/\St 0 s₂.heap/\(∀ b∈fp,b < s₂.heap.objs.size)/\0 < n/\ZpN prog w A.in1 .Lt (fun h'=>∀ b o,b ∉ wr->s₂.heap.get? b=some o->h'.get? b=some o) P bt /\
   ∀ v h' tk,P (argBest bt (n-1)) v->(∀ b o,b ∉ wr->s₂.heap.get? b=some o->h'.get? b=some o)->Q v { s₂ with heap:=h',toks:=tk }) E s) :
  wpAny (model prog w) A (call (.builtin "min") [x]) Q E s:=by
 have hname:(toString "min"++toString ".loop":String)="min.loop":=by decide
 refine call_function_tree F.kind_min F.plain_min F.entry_min (F.args_min1 _) ?_
 show wpAny _ A.in1 (Builtin.Builtins.bindParams "min" ["key","default"] 0 ⟨[],[]⟩ >>= _) _ _ s
 refine wpAny_bind (wpAny_of_eq (show Builtin.Builtins.bindParams "min" ["key","default"] 0 ⟨[],[]⟩=pure [none,none] from rfl) (wpAny_bind (wpAny_pure (wpAny_bind (wpAny_mono h (fun it s₂ h₂=>?_) fun _ _ e=>e)))))
 obtain ⟨I,fp,wr,n,P,St,bt,rfl,W,hst,hfp,hn,hcmp,hQ⟩:=h₂
 refine wpAny_bind (wpAny_newObj_type ?_)
 have hSf:s₂.heap.objs.size ∉ fp:=fun hm=>Nat.lt_irrefl _ (hfp _ hm)
 rw [hname]
 refine wpAny_pure ⟨plainId_quiet F.plain_min_loop _,Zgm W (fun h'=>∀ b o,b ∉ wr->s₂.heap.get? b=some o->h'.get? b=some o) s₂.heap.objs.size (fun h1 h2 g k b o hb e=>k b o hb (Nat.ne_of_lt (Heap.lt_size e)) (g b o hb e)) bt hcmp hSf hn (fun b o _ e=>Heap.get?_push_of_some _ e) (W.frame _ _ _ hst fun b _ o e=>Heap.get?_push_of_some _ e) (Heap.get?_push_size _ rfl) fun v h' tk hP hk=>?_⟩
 exact hQ v h' tk hP fun b o hbw e=>hk b o hbw (Nat.ne_of_lt (Heap.lt_size e)) (Heap.get?_push_of_some _ e)
end
section
variable {X:Cx} {pins:List (Addr×Obj)} {σ:L2.St} {H:Hp} {s:Shared}
theorem ZfI {A':Around} {a:Addr} {vs:List V} {Q:Value->Shared->Prop} {E:Value->Shared->Prop} (hh:A'.handled=none) (I:Inv X pins σ H s) (h:SqL X.K H a vs\/SqT X.K H a vs)
  (q:∀ (it:Addr) (fp wr:List Addr) (its:Array Value) (St:Nat->Heap->Prop) (h2:Heap),Vals vs its.toList->Walks X.prog X.w A' it fp wr its.size (fun i v=>its[i]?=some v) St->St 0 h2->(∀ b∈fp,b < h2.objs.size) ->
   (∀ b o,s.heap.get? b=some o->h2.get? b=some o/\b ∉ wr)->Q (.ref it) { s with heap:=h2 }):wpAny (model X.prog X.w) A' (pyIter (.ref a)) Q E s:=by
 rcases h with h | h
 ·obtain ⟨its,rv,p,hz⟩:=I.list h
  have hl:=p.isList
  have hlt:a < s.heap.objs.size:=by obtain ⟨_,e,_⟩:=hl; exact Heap.lt_size e
  refine wpAny_pyIter_list hl ?_
  refine q s.heap.objs.size [s.heap.objs.size,a] [s.heap.objs.size] its.toArray _ _ (by simpa using rv) (Walks.list hh _ a (Nat.ne_of_lt hlt) its.toArray) ⟨⟨_,Heap.get?_push_size _ rfl,rfl,rfl⟩,hl.push _⟩ (fun b hb=>?_) fun b o e=>⟨Heap.get?_push_of_some _ e,fun hb=>?_⟩
  ·rw [Heap.size_push]
   rcases List.mem_cons.mp hb with rfl | hb
   ·exact Nat.lt_succ_self _
   ·rw [List.mem_singleton] at hb; subst hb; exact Nat.lt_succ_of_lt hlt
  ·rw [List.mem_singleton] at hb; subst hb; exact absurd (Heap.lt_size e) (Nat.lt_irrefl _)
 ·obtain ⟨its,rv,p,hz⟩:=I.tuple h
  have hl:s.heap.IsTuple a its.toArray:=p
  have hlt:a < s.heap.objs.size:=by obtain ⟨_,e,_⟩:=hl; exact Heap.lt_size e
  refine wpAny_pyIter_tuple hl ?_
  refine q s.heap.objs.size [s.heap.objs.size,a] [s.heap.objs.size] its.toArray _ _ (by simpa using rv) (Walks.tuple hh _ a (Nat.ne_of_lt hlt) its.toArray) ⟨⟨_,Heap.get?_push_size _ rfl,rfl,rfl⟩,hl.push _⟩ (fun b hb=>?_) fun b o e=>⟨Heap.get?_push_of_some _ e,fun hb=>?_⟩
  ·rw [Heap.size_push]
   rcases List.mem_cons.mp hb with rfl | hb
   ·exact Nat.lt_succ_self _
   ·rw [List.mem_singleton] at hb; subst hb; exact Nat.lt_succ_of_lt hlt
  ·rw [List.mem_singleton] at hb; subst hb; exact absurd (Heap.lt_size e) (Nat.lt_irrefl _)
end
noncomputable def Qx:D->Option (List D)
 | .lst xs=>some xs
 | .tup xs=>some xs
 | _=>none
theorem ZeE {K:Frag} {F:Fz} {H:Hp} {d:D} {xs:List D} {v:V} (h:Qx d=some xs) (r:Rep K F H d v):∃ a vs,v=.ref a/\(SqL K H a vs\/SqT K H a vs)/\RepL K F H xs vs:=by
 unfold Qx at h
 split at h
 ·cases h; unfold Rep at r; obtain ⟨a,vs,rfl,_,h1,h2⟩:=r; exact ⟨a,vs,rfl,.inl h1,h2⟩
 ·cases h; unfold Rep at r; obtain ⟨a,vs,rfl,h1,h2⟩:=r; exact ⟨a,vs,rfl,.inr h1,h2⟩
 ·cases h
noncomputable def Zbf:List D->Option (List Bool)
 | []=>some []
 | .bl b::r=>(Zbf r).map (b::·)
 | _::_=>none
theorem Zd6:∀ {ds:List D} {bs:List Bool} {i:Nat} {d:D},Zbf ds=some bs->ds[i]?=some d->∃ b,bs[i]?=some b/\d=.bl b
 | [],_,_,_,_,e=>by simp at e
 | d0::ds,bs,i,d,h,e=>by
  cases d0 with
  | bl b=>
   obtain ⟨bs',h',rfl⟩:=map_some (show (Zbf ds).map (b::·)=some bs from h)
   cases i with
   | zero=>simp at e; subst e; exact ⟨b,rfl,rfl⟩
   | succ i=>obtain ⟨b',e1,e2⟩:=Zd6 (i:=i) h' (by simpa using e); exact ⟨b',by simpa using e1,e2⟩
  | _=>cases h
theorem Zd5:∀ {ds:List D} {bs:List Bool},Zbf ds=some bs->ds.length=bs.length
 | [],bs,h=>by cases h; rfl
 | d0::ds,bs,h=>by
  cases d0 with
  | bl b=>
   obtain ⟨bs',h',rfl⟩:=map_some (show (Zbf ds).map (b::·)=some bs from h)
   simp [Zd5 h']
  | _=>cases h
theorem ZiY (bs:List Bool):(List.range bs.length).all (fun i=>bs[i]?.getD false)=bs.all id:=by
 induction bs with
 | nil=>rfl
 | cons b bs ih=>
  rw [List.length_cons,List.range_succ_eq_map,List.all_cons,List.all_cons,List.all_map,<-ih]
  congr 1
noncomputable def Zrj:List D->Option D
 | [d]=>(Qx d).bind fun xs=>(Zbf xs).map fun bs=>.bl (bs.any id)
 | _=>none
noncomputable def Zmn:List D->Option D
 | [d]=>(Qx d).bind fun xs=>(Zbf xs).map fun bs=>.bl (bs.all id)
 | _=>none
section
variable {X:Cx}
theorem Zev {A:Around} {K:Frag} {F:Fz} {H:Hp} {xs:List D} {bs:List Bool} {vs:List V} {its:Array Value} (hr:RepL K F H xs vs) (hb:Zbf xs=some bs) (rv:Vals vs its.toList) :
  TruthOf X.prog X.w A (fun i v=>its[i]?=some v) fun i=>bs[i]?.getD false:=fun i v s Q E hv hQ=>by
 have hi:i < xs.length:=by
  have:=(Array.getElem?_eq_some_iff.mp hv).1
  rw [hr.length,rv.length]; simpa using this
 obtain ⟨x,ex,rx⟩:=hr.get (show xs[i]?=some xs[i] by simp [hi])
 obtain ⟨b,eb,ed⟩:=Zd6 hb (show xs[i]?=some xs[i] by simp [hi])
 rw [ed] at rx
 unfold Rep at rx
 subst rx
 obtain ⟨u,eu,ru⟩:=rv.get ex
 have:v=u:=by
  rw [Array.getElem?_toList] at eu
  rw [hv] at eu
  exact Option.some.inj eu
 subst this
 cases ru
 have hQ':Q ((bs[i]?).getD false) s:=hQ
 rw [eb] at hQ'
 exact wpAny_truthy_bool hQ'
theorem Zmq (hc:X.calm=true):Zaa X (.builtin "all") Zmn:=by
 intro pins s σ H vs us Q I r h
 obtain ⟨xs,F,d,r1,e,q⟩:=h
 unfold Zmn at e
 split at e
 ·rename_i d0
  obtain ⟨ys,es,e⟩:=bind_some e
  obtain ⟨bs,eb,rfl⟩:=map_some e
  obtain ⟨v,rfl,rv0⟩:=J5 r1
  obtain ⟨a,ws,rfl,hq,hr⟩:=ZeE es rv0
  obtain ⟨u,rfl,ru⟩:=Zbq r
  cases ru
  refine call_all_walk (ZfI (A':=X.A.in1) (I.ok.hd hc) I hq fun it fp wr its St h2 rv W st fpl kp=>⟨it,fp,wr,its.size,_,St,_,rfl,W,st,Zev hr eb rv,fun h' tk hk=>?_⟩)
  have hz:its.size=bs.length:=by rw [<-Zd5 eb,hr.length,rv.length]; simp
  rw [hz,ZiY]
  exact ⟨.bl _,H,I.kept (t':=tk) fun b o e=>hk b o (kp b o e).2 (kp b o e).1,rfl,q _ F H .refl (Uz _)⟩
 ·cases e
noncomputable def U7:List D->Option (List Int)
 | []=>some []
 | .int b::r=>(U7 r).map (b::·)
 | _::_=>none
theorem Zak:∀ {ds:List D} {ns:List Int},U7 ds=some ns->ds=ns.map .int
 | [],ns,h=>by cases h; rfl
 | d0::ds,ns,h=>by
  cases d0 with
  | int b=>
   obtain ⟨bs',h',rfl⟩:=map_some (show (U7 ds).map (b::·)=some ns from h)
   rw [Zak h']; rfl
  | _=>cases h
theorem ZaV:∀ (ns:List Int),U7 (ns.map .int)=some ns
 | []=>rfl
 | n::ns=>by show (U7 (ns.map .int)).map (n::·)=_; rw [ZaV ns]; rfl
end
noncomputable def ltD:D->D->Bool
 | .int i,.int j=>decide (i < j)
 | .tup xs,.tup ys=>HT.lexLt ((U7 xs).getD []) ((U7 ys).getD [])
 | _,_=>false
noncomputable def isI:D->Bool
 | .int _=>true
 | _=>false
noncomputable def isT:D->Bool
 | .tup xs=>(U7 xs).isSome
 | _=>false
noncomputable def Zch (ds:List D):Bool:=ds.all isI||ds.all isT
noncomputable def ZgP (lt:D->D->Bool):D->List D->D
 | b,[]=>b
 | b,x::xs=>ZgP lt (if lt x b then x else b) xs
theorem Zeb (lt:D->D->Bool):∀ (xs:List D) (b x:D),ZgP lt b (xs++[x])=if lt x (ZgP lt b xs) then x else ZgP lt b xs
 | [],b,x=>rfl
 | y::xs,b,x=>by simp only [List.cons_append,ZgP]; exact Zeb lt xs _ x
theorem WU (lt:D->D->Bool) (d:D) (ds:List D):∀ k,k<=ds.length->(d::ds)[argBest (fun i j=>lt ((d::ds)[i]?.getD .non) ((d::ds)[j]?.getD .non)) k]?=some (ZgP lt d (ds.take k))
 | 0,_=>by simp [argBest,ZgP]
 | k+1,hk=>by
  have ih:=WU lt d ds k (by omega)
  have e:ds.take (k+1)=ds.take k++[ds[k]]:=by rw [List.take_add_one]; simp [show k < ds.length by omega]
  rw [e,Zeb]
  unfold argBest
  have e1:(d::ds)[k+1]?=some ds[k]:=by simp [show k < ds.length by omega]
  simp only [ih,e1,Option.getD_some]
  split
  ·exact e1
  ·exact ih
noncomputable def ZdW:List D->Option D
 | [d]=>(Qx d).bind fun xs=>match xs with
  | []=>none
  | x::r=>if Zch (x::r) then some (ZgP ltD x r) else none
 | _=>none
section
variable {X:Cx} {pins:List (Addr×Obj)} {σ:L2.St} {H:Hp} {s:Shared} {F:Fz}
theorem J8:∀ {ns:List Int} {vs:List V} {us:List Value},RepL X.K F H (ns.map .int) vs->Vals vs us->IntsAre us ns
 | [],vs,us,h,r=>by rw [List.map_nil] at h; rw [h.unnil] at r; cases r; exact .nil
 | n::ns,vs,us,h,r=>by
  rw [List.map_cons] at h
  obtain ⟨y,ys,rfl,h1,h2⟩:=h.uncons
  unfold Rep at h1
  subst h1
  cases r with
  | cons r1 r2=>
   obtain ⟨t,rfl⟩:=r1
   exact .cons n t (J8 h2 r2)
theorem ZjM {A:Around} (hu:A.units < cLine) (I:Inv X pins σ H s) {d e:D} {x y:V} {u v:Value} {h':Heap} {s':Shared} {Q:Value->Shared->Prop} {E:Value->Shared->Prop} (hk:((isI d&&isI e)||(isT d&&isT e))=true)
  (r1:Rep X.K F H d x) (r2:Rep X.K F H e y) (q1:RelV x u) (q2:RelV y v) (kp:∀ b o,s.heap.get? b=some o->s'.heap.get? b=some o) (q:Q (.bool (ltD d e)) s'):wpAny (model X.prog X.w) A (richCompare .Lt u v) Q E s':=by
 cases d with
 | int i=>cases e with
  | int j=>
   unfold Rep at r1 r2
   subst r1 r2
   obtain ⟨t,rfl⟩:=q1
   obtain ⟨t',rfl⟩:=q2
   exact HT.rcLt_int A s' i t j t' X.prog X.w E Q q
  | _=>simp [isI,isT] at hk
 | tup xs=>cases e with
  | tup ys=>
   have hk:((U7 xs).isSome&&(U7 ys).isSome)=true:=by simpa [isI,isT] using hk
   obtain ⟨k1,k2⟩:=Bool.and_eq_true_iff.mp hk
   obtain ⟨ns,en⟩:=Option.isSome_iff_exists.mp k1
   obtain ⟨ms,em⟩:=Option.isSome_iff_exists.mp k2
   have e1:=Zak en; have e2:=Zak em
   subst e1 e2
   unfold Rep at r1 r2
   obtain ⟨a,vs,rfl,h1,l1⟩:=r1
   obtain ⟨b,ws,rfl,h2,l2⟩:=r2
   cases q1; cases q2
   obtain ⟨its,rv,p,_⟩:=I.tuple h1
   obtain ⟨its2,rv2,p2,_⟩:=I.tuple h2
   have p':IsTup s'.heap a its.toArray:=by obtain ⟨o,ho,r⟩:=p; exact ⟨o,kp a o ho,r⟩
   have p2':IsTup s'.heap b its2.toArray:=by obtain ⟨o,ho,r⟩:=p2; exact ⟨o,kp b o ho,r⟩
   have q':Q (.bool (HT.lexLt ((U7 (ns.map .int)).getD []) ((U7 (ms.map .int)).getD []))) s':=q
   rw [ZaV,ZaV] at q'
   exact HT.lt_tupInts (ns:=ns) (ms:=ms) p' p2' (by simpa using J8 l1 rv) (by simpa using J8 l2 rv2) hu q'
  | _=>simp [isI,isT] at hk
 | _=>simp [isI,isT] at hk
theorem ZgG {ds:List D} (h:Zch ds=true) {i j:Nat} {d e:D} (h1:ds[i]?=some d) (h2:ds[j]?=some e):((isI d&&isI e)||(isT d&&isT e))=true:=by
 have m1:=List.mem_of_getElem? h1
 have m2:=List.mem_of_getElem? h2
 rcases Bool.or_eq_true_iff.mp h with h | h
 ·have:=List.all_eq_true.mp h
  rw [this d m1,this e m2]; rfl
 ·have:=List.all_eq_true.mp h
  rw [this d m1,this e m2]; simp
theorem ZiP (hc:X.calm=true) (hu:X.A.units+64 < cLine):Zaa X (.builtin "min") ZdW:=by
 intro pins s σ H vs us Q I r h
 obtain ⟨xs,F,d,r1,e,q⟩:=h
 unfold ZdW at e
 split at e
 ·rename_i d0
  obtain ⟨ys,es,e⟩:=bind_some e
  cases ys with
  | nil=>cases e
  | cons y ys=>
   have e:(if Zch (y::ys)=true then some (ZgP ltD y ys) else none)=some d:=e
   obtain ⟨hca,rfl⟩:=Ys e
   obtain ⟨v,rfl,rv0⟩:=J5 r1
   obtain ⟨a,ws,rfl,hq,hr⟩:=ZeE es rv0
   obtain ⟨u,rfl,ru⟩:=Zbq r
   cases ru
   have hu':X.A.in1.units < cLine:=by show X.A.units+1 < cLine; omega
   refine ZhR (ZfI (A':=X.A.in1) (I.ok.hd hc) I hq fun it fp wr its St h2 rv W st fpl kp=>⟨it,fp,wr,its.size,_,St,fun i j=>ltD ((y::ys)[i]?.getD .non) ((y::ys)[j]?.getD .non),rfl,W,st,fpl,?_,fun i j vi vj s' Q' E' hG hi hj hQ=>?_,fun v h' tk hv hk=>?_⟩)
   ·have h1:=hr.length; have h2:=rv.length; simp at h1 h2; omega
   ·have gt:∀ {i:Nat} {v:Value},its[i]?=some v->∃ d x,(y::ys)[i]?=some d/\Rep X.K F H d x/\RelV x v:=fun {i v} hv=>by
     have hi:i < (y::ys).length:=by
      have:=(Array.getElem?_eq_some_iff.mp hv).1
      rw [hr.length,rv.length]; simpa using this
     obtain ⟨x,ex,rx⟩:=hr.get (show (y::ys)[i]?=some (y::ys)[i] by simp [hi])
     obtain ⟨u,eu,ru⟩:=rv.get ex
     have:v=u:=by rw [Array.getElem?_toList] at eu; rw [hv] at eu; exact Option.some.inj eu
     subst this
     exact ⟨_,x,by simp [hi],rx,ru⟩
    obtain ⟨d1,x1,e1,p1,q1⟩:=gt hi
    obtain ⟨d2,x2,e2,p2,q2⟩:=gt hj
    have hQ:Q' (.bool (ltD ((y::ys)[i]?.getD .non) ((y::ys)[j]?.getD .non))) s':=hQ
    rw [e1,e2] at hQ
    exact ZjM (h':=h2) hu' I (ZgG hca e1 e2) p1 p2 q1 q2 (fun b o e=>hG b o (kp b o e).2 (kp b o e).1) hQ
   ·have hz:its.size-1=ys.length:=by have h1:=hr.length; have h2:=rv.length; simp at h1 h2; omega
    have hb:=WU ltD y ys ys.length (Nat.le_refl _)
    rw [List.take_length] at hb
    rw [hz] at hv
    obtain ⟨x,ex,rx⟩:=hr.get hb
    obtain ⟨u,eu,ru⟩:=rv.get ex
    have:v=u:=by rw [Array.getElem?_toList] at eu; rw [hv] at eu; exact Option.some.inj eu
    subst this
    exact ⟨x,H,I.kept (t':=tk) fun b o e=>hk b o (kp b o e).2 (kp b o e).1,ru,q _ F H .refl rx⟩
 ·cases e
noncomputable def ZdO (x:D):List D->Option Nat
 | []=>none
 | y::ys=>if deq y x then some 0 else (ZdO x ys).map (·+1)
theorem Zcb (x:D):∀ {ys:List D} {j:Nat},ZdO x ys=some j->(∃ y,ys[j]?=some y/\deq y x=true)/\∀ (m:Nat) y,m < j->ys[m]?=some y->deq y x=false
 | [],j,h=>by cases h
 | y::ys,j,h=>by
  unfold ZdO at h
  by_cases c:deq y x=true
  ·rw [if_pos c] at h
   cases h
   exact ⟨⟨y,rfl,c⟩,fun m z hm=>absurd hm (Nat.not_lt_zero _)⟩
  ·rw [if_neg c] at h
   obtain ⟨k,hk,rfl⟩:=map_some h
   obtain ⟨⟨z,h1,h2⟩,h3⟩:=Zcb x hk
   refine ⟨⟨z,by simpa using h1,h2⟩,fun m z hm hz=>?_⟩
   cases m with
   | zero=>simp at hz; subst hz; simpa using c
   | succ m=>exact h3 m z (by omega) (by simpa using hz)
end
section
variable {X:Cx}
noncomputable def ZgD:D->D->Option D
 | .lst xs,x=>if okD x&&okD (.lst xs)&&decide (xs.length<=lim) then (ZdO x xs).map fun (j:Nat)=>D.int (j:Int) else none
 | _,_=>none
noncomputable def ZqB (K:Frag):V->List V->Hp->VK->Prop:=fun v vs H Q=>∃ x y F d u,vs=[u]/\Rep K F H x v/\Rep K F H y u/\ZgD x y=some d/\∀ w F' H',Grow F H F' H'->Rep K F' H' d w->Q w H'
theorem Zdh:∀ (ds:List D) (i:Nat),(Qw ds)[i]?=(ds[i]?).map JX
 | [],i=>by simp [Qw]
 | d::ds,0=>by simp [Qw]
 | d::ds,i+1=>by simp [Qw,Zdh ds i]
theorem WG {h:Heap}:∀ {vs:List Value} {xs:List PyData} {as:List Addr},ReadsAll h vs xs as->PyData.canLayAll0 xs=true->∀ (i:Nat) v,vs[i]?=some v->∃ d,xs[i]?=some d/\SeqAt.readOf h v=d
 | _,_,_,.nil,_,i,v,e=>by simp at e
 | _,_,_,.cons r1 r2,hc,i,v,e=>by
  have hc':=(by simpa [PyData.canLayAll0] using hc:_/\_)
  cases i with
  | zero=>simp at e; subst e; exact ⟨_,rfl,SeqAt.readOf_eq hc'.1 r1⟩
  | succ i=>obtain ⟨d,e1,e2⟩:=WG r2 hc'.2 i v (by simpa using e); exact ⟨d,by simpa using e1,e2⟩
theorem ZjK (hu:X.A.units+64 < cLine):MtR X "list.index" (ZqB X.K):=by
 intro pins s σ H x xs v us Q I rx rs h
 obtain ⟨dx,dy,F,d,u,rfl,r1,r2,e,q⟩:=h
 cases dx with
 | lst ds=>
  have e:(if (okD dy&&okD (.lst ds)&&decide (ds.length<=lim))=true then (ZdO dy ds).map fun (j:Nat)=>D.int (j:Int) else none)=some d:=e
  by_cases hk:(okD dy&&okD (.lst ds)&&decide (ds.length<=lim))=true
  ·rw [if_pos hk] at e
   obtain ⟨j,ej,rfl⟩:=map_some e
   obtain ⟨hk,hz⟩:=Bool.and_eq_true_iff.mp hk
   obtain ⟨k1,k2⟩:=Bool.and_eq_true_iff.mp hk
   have hz:ds.length<=lim:=of_decide_eq_true hz
   obtain ⟨w,rfl,rw'⟩:=Zbq rs
   obtain ⟨bs,a2⟩:=QB I r2 rw'
   unfold Rep at r1
   obtain ⟨a,vs,rfl,hf,hq,hr⟩:=r1
   cases rx
   obtain ⟨its,rv,pl,_⟩:=I.list hq
   obtain ⟨as,ra⟩:=UY I hr rv
   have d1:=okD.dep k1; have c1:=okD.can k1
   have c2:=okD.can k2
   simp only [JX,PyData.canLay0] at c2
   obtain ⟨⟨cls,dd,data,sl⟩,ho,hc,n,hd⟩:=pl.isList
   simp only at hc hd
   subst hc hd
   have hlen:its.length=ds.length:=by rw [<-rv.length,hr.length]
   obtain ⟨⟨y,y1,y2⟩,no⟩:=Zcb dy ej
   have hj:j < ds.length:=(List.getElem?_eq_some_iff.mp y1).1
   have rd:∀ (i:Nat) (hi:i < its.toArray.size) y,ds[i]?=some y->PyData.eqv (SeqAt.readOf s.heap its.toArray[i]) (JX dy)=deq y dy:=fun i hi y ey=>by
    obtain ⟨d',e1,e2⟩:=WG ra c2 i its.toArray[i] (by simp)
    rw [Zdh,ey] at e1
    cases e1
    rw [e2]; rfl
   have hm:min (PyData.depthAll (Qw ds)) (JX dy).depth<=30:=Nat.le_trans (Nat.min_le_right _ _) d1
   refine call_meets PySem.F.slot_list_index ⟨_,ho,rfl⟩ PySem.F.entry_list_index (PySem.F.args_list_index_2 _ _)
    (SeqAt.list_indexAt a its.toArray n dd sl w (fun y=>PyData.eqv (SeqAt.readOf s.heap y) (JX dy)) j (by simp; omega) (by unfold lim at hz; omega) (by rw [rd j (by simp; omega) y y1]; exact y2) fun m hm hlt=>?_)
    ⟨ho,SeqAt.items_eqAt (by simpa using ra) a2 c2 c1 (by omega),.int j,H,I.tok _,⟨_,rfl⟩,q _ F H .refl (Yl _)⟩
   have hml:m < ds.length:=by simp at hm; omega
   rw [rd m hm ds[m] (by simp [hml])]
   exact no m _ hlt (by simp [hml])
  ·rw [if_neg hk] at e; cases e
 | _=>cases e
theorem Zj4 {o e:Expr} {f g:DE} {apos cpos:Pos} (hu:X.A.units+64 < cLine) (ho:ED X o f) (he:ED X e g)
  (hbase:attributeBase o "index" X.env (eval o X.env)=eval o X.env:=by rfl)
  (hfew:((backTo cpos (starEach [e] X.env)).all (fun x=>!x.1)&&(backToKw cpos (keywordEach [] X.env)).all (fun x=>x.1.isSome)
   && decide ([e].length+([]:List Keyword).length+(if ([]:List Keyword).isEmpty then 0 else 1) < 30))=true:=by rfl)
  (hline:(apos.endLine==cpos.line)=true:=by rfl) (hs:starEach [e] X.env=(false,eval e X.env)::starEach [] X.env:=by rfl) (hplain:(backTo cpos (starEach [] X.env)).any (·.1)=false:=by rfl) :
  ED X (.Call (.Attribute o "index" apos) [e] [] cpos) (Ze ZgD f g):=
 PE.imp (ZjB PySem.F.plainAttrs_list PySem.F.slot_list_index PySem.F.type_list_index (ZjK hu) ho (Zc he Zh hs) hbase hfew hline hs hplain) fun σ H Q zq=>by
  obtain ⟨ρ,F0,H0,F,d,ok,e,q⟩:=zq
  obtain ⟨x,ex,e⟩:=bind_some e
  obtain ⟨y,ey,e⟩:=bind_some e
  refine ⟨ρ,F0,H0,F,x,ok,ex,fun v F1 H1 g1 r1=>?_⟩
  cases x with
  | lst ds=>
   have r1':=r1
   unfold Rep at r1
   obtain ⟨a,vs,rfl,hf,hq,hr⟩:=r1
   refine ⟨.inl ⟨rfl,vs,hq⟩,ρ,F0,H0,F1,[y],ok.grow g1,by simp [Zb,Zk,ey],fun ws F2 H2 g2 r2=>?_⟩
   obtain ⟨u,rfl,ru⟩:=J5 r2
   exact ⟨_,_,F2,d,u,rfl,r1'.grow g2,ru,e,fun w F3 H3 g3 r3=>q w F3 H3 (g1.trans (g2.trans g3)) r3⟩
  | _=>cases e
end
end L3
set_option linter.unusedVariables false
set_option linter.unusedSimpArgs false
namespace SetTab
open PySem PySem.SetTable
noncomputable def Ris (xs:List Nat):Prop:=xs.Pairwise (· < ·)
theorem Ris.get {xs:List Nat} (h:Ris xs) {i j:Nat} (hij:i < j) (hj:j < xs.length):xs[i]'(by omega) < xs[j]:=List.pairwise_iff_getElem.mp h i j (by omega) hj hij
theorem Zkh {xs:Array Nat} (h:Ris xs.toList) (j:Nat):∀ (fuel lo hi:Nat),hi-lo<=fuel->lo<=hi->hi<=xs.size->(∀ a (ha:a < xs.size),a < lo->xs[a] < j)->(∀ a (ha:a < xs.size),hi<=a->j<=xs[a]) ->
  ∃ r,below.go xs j fuel lo hi=r/\r<=xs.size/\(∀ a (ha:a < xs.size),a < r->xs[a] < j)/\(∀ a (ha:a < xs.size),r<=a->j<=xs[a]):=by
 intro fuel
 induction fuel with
 | zero=>
  intro lo hi h1 h2 h3 h4 h5
  exact ⟨lo,rfl,by omega,h4,fun a ha hl=>h5 a ha (by omega)⟩
 | succ fuel ih=>
  intro lo hi h1 h2 h3 h4 h5
  unfold below.go
  by_cases c:lo < hi
  ·rw [if_pos c]
   have hm:(lo+hi) / 2 < xs.size:=by omega
   have e:xs.getD ((lo+hi) / 2) j=xs[(lo+hi) / 2]:=by simp [Array.getD,hm]
   show ∃ r,(if xs.getD ((lo+hi) / 2) j < j then below.go xs j fuel ((lo+hi) / 2+1) hi else below.go xs j fuel lo ((lo+hi) / 2))=r/\_
   rw [e]
   by_cases c2:xs[(lo+hi) / 2] < j
   ·rw [if_pos c2]
    refine ih _ _ (by omega) (by omega) h3 (fun a ha hl=>?_) h5
    by_cases e2:a=(lo+hi) / 2
    ·subst e2; exact c2
    ·have:=h.get (i:=a) (j:=(lo+hi) / 2) (by omega) (by simpa using hm)
     simp only [Array.getElem_toList] at this
     omega
   ·rw [if_neg c2]
    refine ih _ _ (by omega) (by omega) (by omega) h4 (fun a ha hl=>?_)
    by_cases e2:a=(lo+hi) / 2
    ·subst e2; omega
    ·have:=h.get (i:=(lo+hi) / 2) (j:=a) (by omega) (by simpa using ha)
     simp only [Array.getElem_toList] at this
     omega
  ·rw [if_neg c]
   exact ⟨lo,rfl,by omega,h4,fun a ha hl=>h5 a ha (by omega)⟩
theorem WD {xs:Array Nat} (h:Ris xs.toList) (j:Nat):below xs j<=xs.size/\(∀ a (ha:a < xs.size),a < below xs j->xs[a] < j)/\(∀ a (ha:a < xs.size),below xs j<=a->j<=xs[a]):=by
 obtain ⟨r,e,h1,h2,h3⟩:=Zkh h j xs.size 0 xs.size (by omega) (by omega) (Nat.le_refl _) (fun a _ hl=>by omega) (fun a ha hl=>by omega)
 have e':below xs j=r:=e
 rw [e']; exact ⟨h1,h2,h3⟩
theorem Zc8 {xs:Array Nat} (h:Ris xs.toList) {i:Nat} (hi:i < xs.size):below xs xs[i]=i:=by
 obtain ⟨h1,h2,h3⟩:=WD h xs[i]
 rcases Nat.lt_trichotomy (below xs xs[i]) i with c | c | c
 ·have a:=h3 (below xs xs[i]) (by omega) (Nat.le_refl _)
  have b:=h.get (i:=below xs xs[i]) (j:=i) c (by simpa using hi)
  simp only [Array.getElem_toList] at b
  omega
 ·exact c
 ·have:=h2 i hi c; omega
theorem Q0 {t:SetTable} (h:Ris t.place.toList) {i:Nat} (hi:i < t.place.size):t.slot t.place[i]=.live i:=by
 unfold slot
 simp only [Zc8 h hi]
 have:t.place[i]?=some t.place[i]:=by simp [hi]
 rw [this]; simp
theorem Zg6 {t:SetTable} (h:Ris t.place.toList) (hd:t.dummies=#[]) {j:Nat} (hj:j ∉ t.place.toList):t.slot j=.empty:=by
 unfold slot
 have n1:¬ (t.place[below t.place j]?==some j)=true:=by
  intro e
  have e':t.place[below t.place j]?=some j:=by simpa using e
  obtain ⟨hl,e2⟩:=Array.getElem?_eq_some_iff.mp e'
  exact hj (by rw [<-e2]; exact Array.getElem_mem_toList hl)
 simp only [if_neg n1]
 have n2:has t.dummies j=false:=by rw [hd]; simp [has]
 rw [n2]; simp
noncomputable def adv (mask:Nat) (p:Probe):Probe:=
 if p.more > 0 then { p with j:=p.j+1,more:=p.more-1 } else
 { p with j:=(leap mask p.i p.perturb).1,more:=runEnd mask (leap mask p.i p.perturb).1-(leap mask p.i p.perturb).1,i:=(leap mask p.i p.perturb).1,perturb:=(leap mask p.i p.perturb).2 }
theorem ZgI (t:SetTable) (p:Probe):t.advance p=adv t.mask p:=rfl
noncomputable def st (mask:Nat) (h:Int):Probe:={ j:=bits h % (mask+1),more:=runEnd mask (bits h % (mask+1))-bits h % (mask+1),i:=bits h % (mask+1),perturb:=bits h,dummy:=none }
noncomputable def nth (mask:Nat) (p:Probe):Nat->Probe
 | 0=>p
 | k+1=>adv mask (nth mask p k)
theorem UD (mask:Nat) (p:Probe) (a:Nat):∀ b,nth mask p (a+b)=nth mask (nth mask p a) b
 | 0=>rfl
 | b+1=>by show adv mask (nth mask p (a+b))=adv mask (nth mask (nth mask p a) b); rw [UD mask p a b]
structure Run (mask:Nat) (p:Probe):Prop where
 il:p.i<=mask
 jm:p.j+p.more=runEnd mask p.i
 ij:p.i<=p.j
 dn:p.dummy=none
theorem QA {mask i:Nat} (h:i<=mask):i<=runEnd mask i/\runEnd mask i<=mask/\runEnd mask i<=i+9:=by unfold runEnd; split <;> omega
theorem Run.adv {mask:Nat} {p:Probe} (h:Run mask p):Run mask (adv mask p):=by
 unfold SetTab.adv
 have r:=QA h.il
 by_cases c:p.more > 0
 ·rw [if_pos c]; exact ⟨h.il,by have:=h.jm; simp only; omega,by have:=h.ij; simp only; omega,h.dn⟩
 ·rw [if_neg c]
  have l:(leap mask p.i p.perturb).1<=mask:=by unfold leap; have:=Nat.mod_lt (p.i*5+1+p.perturb / 32) (show 0 < mask+1 by omega); simp only; omega
  have r2:=QA l
  exact ⟨l,by simp only; omega,Nat.le_refl _,h.dn⟩
theorem Run.nth {mask:Nat} {p:Probe} (h:Run mask p):∀ k,Run mask (nth mask p k)
 | 0=>h
 | k+1=>(Run.nth h k).adv
theorem Run.jle {mask:Nat} {p:Probe} (h:Run mask p):p.j<=mask:=by have:=QA h.il; have:=h.jm; omega
theorem Run.st (mask:Nat) (h:Int):Run mask (st mask h):=by
 have l:bits h % (mask+1)<=mask:=by have:=Nat.mod_lt (bits h) (show 0 < mask+1 by omega); omega
 have r:=QA l
 exact ⟨l,by show _+_=_; simp only [SetTab.st]; omega,Nat.le_refl _,rfl⟩
theorem ZeO {mask:Nat}:∀ (k:Nat) {p:Probe},Run mask p->k<=p.more->nth mask p k={ p with j:=p.j+k,more:=p.more-k }
 | 0,p,_,_=>rfl
 | k+1,p,h,hk=>by
  show SetTab.adv mask (nth mask p k)=_
  rw [ZeO k h (by omega)]
  unfold SetTab.adv
  rw [if_pos (by simp only; omega)]
  simp only [Probe.mk.injEq,and_true,true_and]
  omega
theorem ZcQ {mask:Nat} {p:Probe} (h:Run mask p):nth mask p (p.more+1) =
  { p with j:=(leap mask p.i p.perturb).1,more:=runEnd mask (leap mask p.i p.perturb).1-(leap mask p.i p.perturb).1,i:=(leap mask p.i p.perturb).1,perturb:=(leap mask p.i p.perturb).2 }:=by
 show SetTab.adv mask (nth mask p p.more)=_
 rw [ZeO p.more h (Nat.le_refl _)]
 unfold SetTab.adv
 rw [if_neg (by simp)]
noncomputable def lcg (M i:Nat):Nat:=(i*5+1) % M
noncomputable def ZbB (M i:Nat):Nat->Nat
 | 0=>i
 | k+1=>lcg M (ZbB M i k)
theorem Zp8 {mask:Nat}:∀ (m:Nat) {p:Probe},Run mask p->p.perturb=0->∃ k,k<=10*m/\Run mask (nth mask p k)/\(nth mask p k).i=ZbB (mask+1) p.i m/\(nth mask p k).perturb=0/\(0 < m->(nth mask p k).j=(nth mask p k).i)
 | 0,p,h,e=>⟨0,by omega,h,rfl,e,by omega⟩
 | m+1,p,h,e=>by
  obtain ⟨k,hk,r,ei,ep,_⟩:=Zp8 m h e
  refine ⟨k+((nth mask p k).more+1),?_,Run.nth h _,?_⟩
  ·have:=QA r.il; have:=r.jm; have:=r.ij; omega
  ·rw [UD,ZcQ r]
   simp only [leap,ep,ei]
   refine ⟨?_,by simp,fun _=>trivial⟩
   show (ZbB (mask+1) p.i m*5+1+0 / 32) % (mask+1)=lcg (mask+1) (ZbB (mask+1) p.i m)
   unfold lcg; simp
theorem Zp7 {mask:Nat}:∀ (m:Nat) {p:Probe},Run mask p->p.perturb < 32 ^ m->∃ k,k<=10*m/\Run mask (nth mask p k)/\(nth mask p k).perturb=0
 | 0,p,h,e=>⟨0,by omega,h,by simp at e; exact e⟩
 | m+1,p,h,e=>by
  have lp:(nth mask p (p.more+1)).perturb=p.perturb / 32:=by rw [ZcQ h]; rfl
  have hr:=Run.nth h (p.more+1)
  obtain ⟨k,hk,r,ep⟩:=Zp7 m hr (by rw [lp]; exact Nat.div_lt_of_lt_mul (by rw [Nat.pow_succ] at e; omega))
  refine ⟨(p.more+1)+k,?_,by rw [UD]; exact r,by rw [UD]; exact ep⟩
  have:=QA h.il; have:=h.jm; have:=h.ij; omega
noncomputable def ZgM (mask:Nat):Prop:=∀ i,i<=mask->∀ j,j<=mask->∃ m,0 < m/\m<=mask+1/\ZbB (mask+1) i m=j
theorem ZpE {mask:Nat} (F:ZgM mask) {p:Probe} (h:Run mask p) (hp:p.perturb < 2 ^ 64) {s:Nat} (hs:s<=mask):∃ k,k < 10*turns mask/\(nth mask p k).j=s:=by
 obtain ⟨k1,h1,r1,e1⟩:=Zp7 13 h (Nat.lt_of_lt_of_le hp (by decide))
 obtain ⟨m,m0,m1,em⟩:=F _ r1.il s hs
 obtain ⟨k2,h2,r2,ei,_,ej⟩:=Zp8 m r1 e1
 refine ⟨k1+k2,?_,?_⟩
 ·unfold turns; omega
 ·rw [UD,ej m0,ei,em]
theorem ZiT (h:Int):bits h < 2 ^ 64:=by
 unfold bits
 have:=Int.emod_lt_of_pos h (show (0:Int) < 2 ^ 64 by decide)
 have:=Int.emod_nonneg h (show (2 ^ 64:Int)≠0 by decide)
 omega
noncomputable def ZhB (M:Nat):Nat->Nat->List Nat
 | 0,_=>[]
 | k+1,i=>i::ZhB M k (lcg M i)
theorem ZdI (M i:Nat):∀ k,ZbB M i (k+1)=ZbB M (lcg M i) k
 | 0=>rfl
 | k+1=>by show lcg M (ZbB M i (k+1))=lcg M (ZbB M (lcg M i) k); rw [ZdI M i k]
noncomputable def Zpv (mask:Nat):Bool:=((List.range (mask+1)).all fun j=>(ZhB (mask+1) (mask+1) 0).contains j)&&ZbB (mask+1) 0 (mask+1)==0
theorem ZdE (M:Nat):∀ (k i j:Nat),j∈ZhB M k i->∃ m,m < k/\ZbB M i m=j
 | 0,i,j,h=>by simp [ZhB] at h
 | k+1,i,j,h=>by
  unfold ZhB at h
  rcases List.mem_cons.mp h with e | h
  ·exact ⟨0,by omega,e.symm⟩
  ·obtain ⟨m,hm,e⟩:=ZdE M k _ _ h
   exact ⟨m+1,by omega,by rw [ZdI]; exact e⟩
theorem Zaj (M i a:Nat):∀ b,ZbB M i (a+b)=ZbB M (ZbB M i a) b
 | 0=>rfl
 | b+1=>by show lcg M (ZbB M i (a+b))=lcg M (ZbB M (ZbB M i a) b); rw [Zaj M i a b]
theorem ZeW {mask:Nat} (h:Zpv mask=true):ZgM mask:=by
 have hh:=Bool.and_eq_true_iff.mp h
 have h0:ZbB (mask+1) 0 (mask+1)=0:=by simpa using hh.2
 have get:∀ j,j<=mask->∃ m,m < mask+1/\ZbB (mask+1) 0 m=j:=fun j hj=>by
  have h2:=List.all_eq_true.mp hh.1 j (List.mem_range.mpr (by omega))
  exact ZdE _ _ _ _ (List.contains_iff_mem.mp h2)
 intro i hi j hj
 obtain ⟨a,ha,ea⟩:=get i hi
 obtain ⟨b,hb,eb⟩:=get j hj
 by_cases c:a < b
 ·refine ⟨b-a,by omega,by omega,?_⟩
  rw [<-ea,<-Zaj,show a+(b-a)=b by omega,eb]
 ·refine ⟨mask+1-a+b,by omega,by omega,?_⟩
  rw [<-ea,<-Zaj,show a+(mask+1-a+b)=(mask+1)+b by omega,Zaj,h0,eb]
theorem Zod:ZgM 7:=ZeW (by decide +kernel)
theorem Zoe:ZgM 31:=ZeW (by decide +kernel)
theorem Zmc:ZgM 127:=ZeW (by decide +kernel)
noncomputable def Reach (mask:Nat) (L:List Nat) (h:Int) (s:Nat):Prop:=∃ k,(nth mask (st mask h) k).j=s/\∀ k',k' < k->(nth mask (st mask h) k').j∈L
theorem Reach.mono {mask:Nat} {L L':List Nat} {h:Int} {s:Nat} (r:Reach mask L h s) (hs:∀ x∈L,x∈L'):Reach mask L' h s:=
 let ⟨k,e,a⟩:=r; ⟨k,e,fun k' hk=>hs _ (a k' hk)⟩
structure TI {α:Type} (t:SetTable) (es:Array (Int×α)):Prop where
 size:t.place.size=es.size
 dm:t.dummies=#[]
 ris:Ris t.place.toList
 le:∀ s∈t.place.toList,s<=t.mask
 full:ZgM t.mask
 room:es.size<=t.mask
 odd:t.mask % 2=1
 reach:∀ i (h1:i < t.place.size) (h2:i < es.size),Reach t.mask t.place.toList es[i].1 t.place[i]
theorem Ris.nodup {xs:List Nat} (h:Ris xs):xs.Nodup:=List.Pairwise.imp (fun h=>Nat.ne_of_lt h) h
theorem Zb9 {L:List Nat} {mask:Nat} (nd:L.Nodup) (hl:L.length<=mask):∃ s,s<=mask/\s ∉ L:=by
 apply Classical.byContradiction
 intro h
 have all:∀ s,s<=mask->s∈L:=fun s hs=>Classical.byContradiction fun n=>h ⟨s,hs,n⟩
 have:(List.range (mask+1)).length<=L.length:=by
  have pm:(List.range (mask+1)).Perm (L.filter fun s=>decide (s<=mask)):=(List.perm_ext_iff_of_nodup List.nodup_range (nd.sublist List.filter_sublist)).mpr fun a=>by
   rw [List.mem_range,List.mem_filter]
   exact ⟨fun h=>⟨all a (by omega),by simp; omega⟩,fun h=>by have:=h.2; simp at this; omega⟩
  rw [pm.length_eq]
  exact List.length_filter_le _ _
 rw [List.length_range] at this
 omega
theorem Zgw {L:List Nat} {mask:Nat} (F:ZgM mask) (nd:L.Nodup) (hl:L.length<=mask) {p:Probe} (h:Run mask p) (hp:p.perturb < 2 ^ 64) :
  ∃ m,m < 10*turns mask/\(nth mask p m).j ∉ L/\∀ m',m' < m->(nth mask p m').j∈L:=by
 obtain ⟨s,hs,ns⟩:=Zb9 nd hl
 obtain ⟨k,hk,e⟩:=ZpE F h hp hs
 have ex:∃ m,(nth mask p m).j ∉ L:=⟨k,by rw [e]; exact ns⟩
 have dec:∀ b:Nat,(∀ m',m' < b->(nth mask p m').j∈L)\/∃ m,m < b/\(nth mask p m).j ∉ L/\∀ m',m' < m->(nth mask p m').j∈L:=by
  intro b
  induction b with
  | zero=>left; intro m' h; omega
  | succ b ih=>
   rcases ih with ih | ⟨m,h1,h2,h3⟩
   ·by_cases c:(nth mask p b).j∈L
    ·left; intro m' hm
     by_cases e:m'=b
     ·rw [e]; exact c
     ·exact ih m' (by omega)
    ·right; exact ⟨b,by omega,c,ih⟩
   ·right; exact ⟨m,by omega,h2,h3⟩
 rcases dec (k+1) with h1 | ⟨m,h1,h2,h3⟩
 ·have:=h1 k (by omega)
  rw [e] at this
  exact absurd this ns
 ·exact ⟨m,by omega,h2,h3⟩
theorem Zjw {α:Type} {t:SetTable} {es:Array (Int×α)} (I:TI t es) (hashAt:Nat->Int) (h:Int):∀ (m:Nat) {p:Probe} {fuel:Nat},Run t.mask p->m < fuel->(nth t.mask p m).j ∉ t.place.toList->(∀ m',m' < m->(nth t.mask p m').j∈t.place.toList) ->
  (probe.go t hashAt h fuel p=some (.empty (nth t.mask p m).j none)/\∀ m',m' < m->∀ i (hi:i < t.place.size),t.place[i]=(nth t.mask p m').j->hashAt i≠h) \/
  (∃ m1 i,m1 < m/\∃ hi:i < t.place.size,t.place[i]=(nth t.mask p m1).j/\hashAt i=h/\probe.go t hashAt h fuel p=some (.candidate (nth t.mask p m1).j i (nth t.mask p (m1+1))) /\
   ∀ m',m' < m1->∀ i (hi:i < t.place.size),t.place[i]=(nth t.mask p m').j->hashAt i≠h):=by
 intro m
 induction m with
 | zero=>
  intro p fuel r hf he ha
  obtain ⟨f,rfl⟩:∃ f,fuel=f+1:=⟨fuel-1,by omega⟩
  left
  refine ⟨?_,fun m' h=>by omega⟩
  unfold probe.go
  have e:t.slot p.j=.empty:=Zg6 I.ris I.dm he
  rw [e]
  show some (Met.empty p.j p.dummy)=_
  rw [r.dn]; rfl
 | succ m ih=>
  intro p fuel r hf he ha
  obtain ⟨f,rfl⟩:∃ f,fuel=f+1:=⟨fuel-1,by omega⟩
  have hl:p.j∈t.place.toList:=ha 0 (by omega)
  obtain ⟨i,hi,ei⟩:=List.mem_iff_getElem.mp hl
  have hi':i < t.place.size:=by simpa using hi
  have ei':t.place[i]=p.j:=by simpa using ei
  have es:t.slot p.j=.live i:=by rw [<-ei']; exact Q0 I.ris hi'
  have sh:∀ q,nth t.mask p (q+1)=nth t.mask (adv t.mask p) q:=fun q=>by rw [Nat.add_comm,UD]; rfl
  unfold probe.go
  rw [es]
  dsimp only
  by_cases c:hashAt i=h
  ·right
   refine ⟨0,i,by omega,hi',ei',c,?_,fun m' h=>by omega⟩
   rw [if_pos (by simpa using c)]; rfl
  ·rw [if_neg (by simpa using c)]
   have uniq:∀ i2 (hi2:i2 < t.place.size),t.place[i2]=p.j->i2=i:=fun i2 hi2 e2=>by
    have a:=Zc8 I.ris hi2; have b:=Zc8 I.ris hi'
    rw [e2] at a; rw [ei'] at b; rw [<-a,b]
   rw [ZgI]
   rcases ih (p:=adv t.mask p) (fuel:=f) r.adv (by omega) (by rw [<-sh]; exact he) (fun m' hm=>by rw [<-sh]; exact ha _ (by omega)) with ⟨e,n⟩ | ⟨m1,i1,h1,hi1,e1,e2,e3,n⟩
   ·left
    refine ⟨by rw [e,sh],fun m' hm i2 hi2 e2=>?_⟩
    cases m' with
    | zero=>have:=uniq i2 hi2 e2; rw [this]; exact c
    | succ m'=>exact n m' (by omega) i2 hi2 (by rw [e2,sh])
   ·right
    refine ⟨m1+1,i1,by omega,hi1,by rw [e1,sh],e2,by rw [e3,sh,sh],fun m' hm i2 hi2 e2=>?_⟩
    cases m' with
    | zero=>have:=uniq i2 hi2 e2; rw [this]; exact c
    | succ m'=>exact n m' (by omega) i2 hi2 (by rw [e2,sh])
theorem toList_insertAt {α:Type} (xs:Array α) (p:Nat) (x:α):(insertAt xs p x).toList=xs.toList.take p++x::xs.toList.drop p:=by
 unfold insertAt
 simp [List.take_of_length_le]
theorem Zgb {xs:Array Nat} (h:Ris xs.toList) {j:Nat} (hj:j ∉ xs.toList):Ris (insertAt xs (below xs j) j).toList:=by
 rw [toList_insertAt]
 obtain ⟨h1,h2,h3⟩:=WD h j
 unfold Ris
 rw [List.pairwise_append]
 refine ⟨h.sublist (List.take_sublist _ _),?_,?_⟩
 ·refine List.Pairwise.cons (fun b hb=>?_) (h.sublist (List.drop_sublist _ _))
  obtain ⟨i,hi,e⟩:=List.mem_iff_getElem.mp hb
  rw [List.getElem_drop] at e
  simp only [List.length_drop,Array.length_toList] at hi
  have:=h3 (below xs j+i) (by omega) (by omega)
  have ne:b≠j:=fun z=>hj (z ▸ List.mem_of_mem_drop hb)
  simp only [Array.getElem_toList] at e
  omega
 ·intro a ha b hb
  obtain ⟨i,hi,e⟩:=List.mem_iff_getElem.mp ha
  rw [List.getElem_take] at e
  simp only [List.length_take,Array.length_toList] at hi
  have l1:=h2 i (by omega) (by omega)
  simp only [Array.getElem_toList] at e
  rcases List.mem_cons.mp hb with rfl | hb
  ·omega
  ·obtain ⟨i2,hi2,e2⟩:=List.mem_iff_getElem.mp hb
   rw [List.getElem_drop] at e2
   simp only [List.length_drop,Array.length_toList] at hi2
   have:=h3 (below xs j+i2) (by omega) (by omega)
   simp only [Array.getElem_toList] at e2
   omega
theorem ZbX {α:Type} (xs:Array α) (p:Nat) (x y:α):y∈(insertAt xs p x).toList ↔ y=x\/y∈xs.toList:=by
 rw [toList_insertAt,List.mem_append,List.mem_cons]
 constructor
 ·rintro (h | h | h)
  ·exact .inr (List.mem_of_mem_take h)
  ·exact .inl h
  ·exact .inr (List.mem_of_mem_drop h)
 ·rintro (h | h)
  ·exact .inr (.inl h)
  ·rw [<-List.take_append_drop p xs.toList] at h
   rcases List.mem_append.mp h with h | h
   ·exact .inl h
   ·exact .inr (.inr h)
theorem ZeH {α:Type} (xs:Array α) (p:Nat) (x:α):(insertAt xs p x).toList.Perm (x::xs.toList):=by
 rw [toList_insertAt]
 refine List.perm_middle.trans ?_
 rw [List.take_append_drop]
theorem Q1 {α:Type} (xs:Array α) (p:Nat) (x:α):(insertAt xs p x).size=xs.size+1:=by
 have:=(ZeH xs p x).length_eq
 simpa using this
theorem Zgt {α β:Type} (xs:Array α) (ys:Array β) (hs:xs.size=ys.size) (p:Nat) (hp:p<=xs.size) (x:α) (y:β) {i:Nat} (h1:i < (insertAt xs p x).size) (h2:i < (insertAt ys p y).size) :
  ((insertAt xs p x)[i]=x/\(insertAt ys p y)[i]=y)\/∃ (k:Nat) (k1:k < xs.size) (k2:k < ys.size),(insertAt xs p x)[i]=xs[k]/\(insertAt ys p y)[i]=ys[k]:=by
 have gx:(insertAt xs p x)[i]=(xs.toList.take p++x::xs.toList.drop p)[i]'(by rw [<-toList_insertAt]; simpa using h1):=by
  rw [<-Array.getElem_toList]; congr 1; exact toList_insertAt xs p x
 have gy:(insertAt ys p y)[i]=(ys.toList.take p++y::ys.toList.drop p)[i]'(by rw [<-toList_insertAt]; simpa using h2):=by
  rw [<-Array.getElem_toList]; congr 1; exact toList_insertAt ys p y
 have lx:(xs.toList.take p).length=p:=by simp; omega
 have ly:(ys.toList.take p).length=p:=by simp; omega
 rw [gx,gy]
 rcases Nat.lt_trichotomy i p with c | c | c
 ·right
  refine ⟨i,by omega,by omega,?_,?_⟩
  ·rw [List.getElem_append_left (by omega)]; simp
  ·rw [List.getElem_append_left (by omega)]; simp
 ·left
  subst c
  constructor
  ·rw [List.getElem_append_right (by omega)]; simp [lx]
  ·rw [List.getElem_append_right (by omega)]; simp [ly]
 ·right
  have z1:=Q1 xs p x
  refine ⟨i-1,by omega,by omega,?_,?_⟩
  ·rw [List.getElem_append_right (by omega)]
   simp only [lx]
   obtain ⟨q,hq⟩:∃ q,i-p=q+1:=⟨i-p-1,by omega⟩
   simp only [hq,List.getElem_cons_succ,List.getElem_drop,Array.getElem_toList]
   congr 1; omega
  ·rw [List.getElem_append_right (by omega)]
   simp only [ly]
   obtain ⟨q,hq⟩:∃ q,i-p=q+1:=⟨i-p-1,by omega⟩
   simp only [hq,List.getElem_cons_succ,List.getElem_drop,Array.getElem_toList]
   congr 1; omega
theorem TI.put {α:Type} {t:SetTable} {es:Array (Int×α)} (I:TI t es) {h:Int} {x:α} {m:Nat} (hf:(nth t.mask (st t.mask h) m).j ∉ t.place.toList) (ha:∀ m',m' < m->(nth t.mask (st t.mask h) m').j∈t.place.toList) (hz:es.size+1<=t.mask) :
  TI (t.put (nth t.mask (st t.mask h) m).j).1 (insertAt es (t.put (nth t.mask (st t.mask h) m).j).2 (h,x)):=by
 have hd:has t.dummies (nth t.mask (st t.mask h) m).j=false:=by rw [I.dm]; simp [has]
 have e:t.put (nth t.mask (st t.mask h) m).j=({ t with place:=insertAt t.place (below t.place (nth t.mask (st t.mask h) m).j) (nth t.mask (st t.mask h) m).j },below t.place (nth t.mask (st t.mask h) m).j):=by
  unfold SetTable.put; rw [hd]; rfl
 rw [e]
 obtain ⟨b1,_,_⟩:=WD I.ris (nth t.mask (st t.mask h) m).j
 refine ⟨?_,I.dm,Zgb I.ris hf,fun s hs=>?_,I.full,?_,I.odd,fun i h1 h2=>?_⟩
 ·show (insertAt _ _ _).size=(insertAt _ _ _).size
  rw [Q1,Q1,I.size]
 ·rcases (ZbX _ _ _ _).mp hs with rfl | hs
  ·exact ((Run.st t.mask h).nth m).jle
  ·exact I.le s hs
 ·rw [Q1]; exact hz
 ·have sub:∀ y∈t.place.toList,y∈(insertAt t.place (below t.place (nth t.mask (st t.mask h) m).j) (nth t.mask (st t.mask h) m).j).toList:=fun y hy=>(ZbX _ _ _ _).mpr (.inr hy)
  rcases Zgt t.place es I.size (below t.place (nth t.mask (st t.mask h) m).j) b1 (nth t.mask (st t.mask h) m).j (h,x) h1 h2 with ⟨e1,e2⟩ | ⟨k,k1,k2,e1,e2⟩
  ·show Reach t.mask _ _ _
   rw [e1,e2]
   exact ⟨m,rfl,fun m' hm=>sub _ (ha m' hm)⟩
  ·show Reach t.mask _ _ _
   rw [e1,e2]
   exact (I.reach k k1 k2).mono sub
noncomputable def lp (mask:Nat) (p:Probe):Probe:=nth mask p (p.more+1)
noncomputable def rs (mask:Nat) (p:Probe):Nat->Probe
 | 0=>p
 | r+1=>lp mask (rs mask p r)
theorem Zhm (mask:Nat) (p:Probe):∀ r,rs mask p (r+1)=rs mask (lp mask p) r
 | 0=>rfl
 | r+1=>by show lp mask (rs mask p (r+1))=lp mask (rs mask (lp mask p) r); rw [Zhm mask p r]
structure RunS (mask:Nat) (p:Probe):Prop extends Run mask p where
 ji:p.j=p.i
theorem RunS.lp {mask:Nat} {p:Probe} (h:RunS mask p):RunS mask (lp mask p)/\(SetTab.lp mask p).perturb=p.perturb / 32/\(SetTab.lp mask p).i=(p.i*5+1+p.perturb / 32) % (mask+1):=by
 have e:=ZcQ h.toRun
 have r:=Run.nth h.toRun (p.more+1)
 unfold SetTab.lp
 rw [e] at r ⊢
 exact ⟨⟨r,rfl⟩,rfl,rfl⟩
theorem RunS.rs {mask:Nat} {p:Probe} (h:RunS mask p):∀ r,RunS mask (rs mask p r)/\(SetTab.rs mask p r).perturb=p.perturb / 32 ^ r
 | 0=>⟨h,by simp [SetTab.rs]⟩
 | r+1=>by
  obtain ⟨h1,h2⟩:=RunS.rs h r
  obtain ⟨l1,l2,_⟩:=h1.lp
  refine ⟨l1,?_⟩
  show (SetTab.lp mask (SetTab.rs mask p r)).perturb=_
  rw [l2,h2,Nat.div_div_eq_div_mul,Nat.pow_succ]
theorem rs0 {mask:Nat} {p:Probe} (h:RunS mask p) (hp:p.perturb=0):∀ m,(rs mask p m).i=ZbB (mask+1) p.i m
 | 0=>rfl
 | m+1=>by
  obtain ⟨h1,h2⟩:=h.rs m
  obtain ⟨_,_,l3⟩:=h1.lp
  show (SetTab.lp mask (SetTab.rs mask p m)).i=_
  rw [l3,rs0 h hp m,h2,hp]
  simp [ZbB,lcg]
theorem Zky (mask:Nat) (p:Probe) (a:Nat):∀ b,rs mask p (a+b)=rs mask (rs mask p a) b
 | 0=>rfl
 | b+1=>by show lp mask (rs mask p (a+b))=lp mask (rs mask (rs mask p a) b); rw [Zky mask p a b]
theorem ZgE {mask:Nat} (F:ZgM mask) {p:Probe} (h:RunS mask p) (hp:p.perturb < 2 ^ 64) {s:Nat} (hs:s<=mask):∃ r,r < turns mask/\(rs mask p r).i=s:=by
 obtain ⟨h1,h2⟩:=h.rs 13
 have z:(rs mask p 13).perturb=0:=by rw [h2]; exact Nat.div_eq_of_lt (Nat.lt_of_lt_of_le hp (by decide))
 obtain ⟨m,m0,m1,em⟩:=F _ h1.il s hs
 exact ⟨13+m,by unfold turns; omega,by rw [Zky,rs0 h1 z,em]⟩
theorem RunS.st (mask:Nat) (h:Int):RunS mask (st mask h):=⟨Run.st mask h,rfl⟩
theorem Zil {mask:Nat} {owner:Array (Option Nat)} {L:List Nat} (hL:∀ s,s<=mask->((owner.getD s (some 0)).isNone=true ↔ s ∉ L)) :
  ∀ (r:Nat) {p:Probe} {fuel:Nat},RunS mask p->r < fuel->(rs mask p r).i ∉ L ->
   ∃ m,layClean.free mask owner fuel p.i p.perturb=some (nth mask p m).j/\(nth mask p m).j ∉ L/\∀ m',m' < m->(nth mask p m').j∈L:=by
 intro r
 induction r with
 | zero=>
  intro p fuel h hf hn
  obtain ⟨f,rfl⟩:∃ f,fuel=f+1:=⟨fuel-1,by omega⟩
  have hn':p.i ∉ L:=hn
  unfold layClean.free
  have e:(List.range (runEnd mask p.i+1-p.i)).find? (fun k=>(owner.getD (p.i+k) (some 0)).isNone)=some 0:=by
   rw [List.find?_range_eq_some]
   have:=QA h.il
   exact ⟨(hL _ (by have:=h.il; omega)).mpr (by simpa using hn'),List.mem_range.mpr (by omega),fun j hj=>by omega⟩
  rw [e]
  refine ⟨0,by show some (p.i+0)=some p.j; rw [h.ji]; rfl,by show p.j ∉ L; rw [h.ji]; exact hn',fun m' hm=>by omega⟩
 | succ r ih=>
  intro p fuel h hf hn
  obtain ⟨f,rfl⟩:∃ f,fuel=f+1:=⟨fuel-1,by omega⟩
  have re:=QA h.il
  have jm:=h.jm
  have ji:=h.ji
  have inrun:∀ k,k<=p.more->(nth mask p k).j=p.i+k:=fun k hk=>by rw [ZeO k h.toRun hk,<-ji]
  unfold layClean.free
  cases e:(List.range (runEnd mask p.i+1-p.i)).find? (fun k=>(owner.getD (p.i+k) (some 0)).isNone) with
  | some k=>
   rw [List.find?_range_eq_some] at e
   obtain ⟨e1,e2,e3⟩:=e
   have hk:k<=p.more:=by have:=List.mem_range.mp e2; omega
   refine ⟨k,by show some (p.i+k)=_; rw [inrun k hk],?_,fun m' hm=>?_⟩
   ·rw [inrun k hk]; exact (hL _ (by omega)).mp e1
   ·rw [inrun m' (by omega)]
    have:=e3 m' hm
    apply Classical.byContradiction
    intro z
    have:=(hL (p.i+m') (by omega)).mpr z
    simp [this] at e3
    have:=e3 m' hm
    simp_all
  | none=>
   have all:∀ k,k<=p.more->p.i+k∈L:=fun k hk=>by
    rw [List.find?_eq_none] at e
    have:=e k (List.mem_range.mpr (by omega))
    apply Classical.byContradiction
    intro z
    exact this ((hL _ (by omega)).mpr z)
   obtain ⟨l1,l2,l3⟩:=h.lp
   have hl:(leap mask p.i p.perturb)=((lp mask p).i,(lp mask p).perturb):=by rw [l2,l3]; rfl
   obtain ⟨m,em,en,ea⟩:=ih (p:=lp mask p) (fuel:=f) l1 (by omega) (by rw [<-Zhm]; exact hn)
   have sh:∀ q,nth mask p (p.more+1+q)=nth mask (lp mask p) q:=fun q=>UD mask p (p.more+1) q
   refine ⟨p.more+1+m,?_,by rw [sh]; exact en,fun m' hm=>?_⟩
   ·show (match leap mask p.i p.perturb with | (i,perturb)=>layClean.free mask owner f i perturb)=_
    rw [hl]
    show layClean.free mask owner f (lp mask p).i (lp mask p).perturb=_
    rw [em,sh]
   ·by_cases c:m'<=p.more
    ·rw [inrun m' c]; exact all m' c
    ·obtain ⟨q,rfl⟩:∃ q,m'=p.more+1+q:=⟨m'-(p.more+1),by omega⟩
     rw [sh]; exact ea q (by omega)
structure LC (mask:Nat) (hs:List Int) (owner:Array (Option Nat)) (S:List Nat):Prop where
 osz:owner.size=mask+1
 nd:S.Nodup
 le:∀ s∈S,s<=mask
 at_:∀ i (hi:i < S.length),owner[S[i]]?=some (some i)
 off:∀ s,s<=mask->s ∉ S->owner[s]?=some none
 reach:∀ i (hi:i < S.length) (hi2:i < hs.length),Reach mask S hs[i] S[i]
theorem LC.none_iff {mask:Nat} {hs:List Int} {owner:Array (Option Nat)} {S:List Nat} (I:LC mask hs owner S) (s:Nat) (h:s<=mask):((owner.getD s (some 0)).isNone=true ↔ s ∉ S):=by
 have hb:s < owner.size:=by rw [I.osz]; omega
 have e:owner.getD s (some 0)=owner[s]:=by simp [Array.getD,hb]
 rw [e]
 constructor
 ·intro z hm
  obtain ⟨i,hi,ei⟩:=List.mem_iff_getElem.mp hm
  have:=I.at_ i hi
  rw [ei,Array.getElem?_eq_getElem hb] at this
  have:=Option.some.inj this
  rw [this] at z; simp at z
 ·intro hn
  have:=I.off s h hn
  rw [Array.getElem?_eq_getElem hb] at this
  rw [Option.some.inj this]; rfl
theorem LC.next {mask:Nat} (F:ZgM mask) {hs:List Int} {owner:Array (Option Nat)} {S:List Nat} (I:LC mask hs owner S) (hz:S.length < hs.length) (hr:S.length<=mask) :
  ∃ j,layClean.free mask owner (turns mask) (bits hs[S.length] % (mask+1)) (bits hs[S.length])=some j/\LC mask hs (owner.setIfInBounds j (some S.length)) (S++[j]):=by
 obtain ⟨s,h1,h2⟩:=Zb9 I.nd hr
 obtain ⟨r,r1,r2⟩:=ZgE F (RunS.st mask hs[S.length]) (ZiT _) h1
 obtain ⟨m,e,n,a⟩:=Zil (L:=S) (I.none_iff) r (RunS.st mask hs[S.length]) r1 (by rw [r2]; exact h2)
 refine ⟨_,e,?_⟩
 have jl:(nth mask (st mask hs[S.length]) m).j<=mask:=((Run.st mask _).nth m).jle
 refine ⟨by simp [I.osz],?_,?_,?_,?_,?_⟩
 ·rw [List.nodup_append]
  refine ⟨I.nd,by simp,fun x hx y hy=>?_⟩
  rw [List.mem_singleton] at hy; subst hy
  intro z; exact n (z ▸ hx)
 ·intro x hx
  rcases List.mem_append.mp hx with hx | hx
  ·exact I.le x hx
  ·rw [List.mem_singleton] at hx; subst hx; exact jl
 ·intro i hi
  by_cases c:i < S.length
  ·rw [List.getElem_append_left c,Array.getElem?_setIfInBounds_ne]
   ·exact I.at_ i c
   ·intro z; exact n (by rw [z]; exact List.getElem_mem c)
  ·have e:i=S.length:=by simp at hi; omega
   subst e
   rw [List.getElem_append_right (Nat.le_refl _)]
   simp only [Nat.sub_self,List.getElem_cons_zero]
   rw [Array.getElem?_setIfInBounds_self_of_lt (by rw [I.osz]; omega)]
 ·intro s hs hn
  rw [Array.getElem?_setIfInBounds_ne]
  ·exact I.off s hs (fun z=>hn (List.mem_append_left _ z))
  ·intro z; exact hn (by rw [z]; simp)
 ·intro i hi hi2
  by_cases c:i < S.length
  ·rw [List.getElem_append_left c]
   exact (I.reach i c hi2).mono fun x hx=>List.mem_append_left _ hx
  ·have e:i=S.length:=by simp at hi; omega
   subst e
   rw [List.getElem_append_right (Nat.le_refl _)]
   simp only [Nat.sub_self,List.getElem_cons_zero]
   exact ⟨m,rfl,fun m' hm=>List.mem_append_left _ (a m' hm)⟩
theorem ZjN {mask:Nat} (F:ZgM mask) {hs:List Int} (hr:hs.length<=mask):∀ (n:Nat) {owner:Array (Option Nat)} {S:List Nat},S.length+n=hs.length->LC mask hs owner S ->
  ∃ owner' S',(hs.drop S.length).foldl (fun acc h=>do
   let (owner,k) <- acc
   let j <- layClean.free mask owner (turns mask) (bits h % (mask+1)) (bits h)
   pure (owner.setIfInBounds j (some k),k+1)) (some (owner,S.length))=some (owner',S'.length)/\S'.length=hs.length/\LC mask hs owner' S':=by
 intro n
 induction n with
 | zero=>
  intro owner S e I
  rw [List.drop_eq_nil_of_le (by omega)]
  exact ⟨owner,S,rfl,by omega,I⟩
 | succ n ih=>
  intro owner S e I
  have hl:S.length < hs.length:=by omega
  rw [List.drop_eq_getElem_cons hl,List.foldl_cons]
  obtain ⟨j,ej,I'⟩:=I.next F hl (by omega)
  have step:(do
   let (owner,k) <- some (owner,S.length)
   let j <- layClean.free mask owner (turns mask) (bits hs[S.length] % (mask+1)) (bits hs[S.length])
   pure (owner.setIfInBounds j (some k),k+1))=some (owner.setIfInBounds j (some S.length),(S++[j]).length):=by
   show (do
    let j <- layClean.free mask owner (turns mask) (bits hs[S.length] % (mask+1)) (bits hs[S.length])
    pure (owner.setIfInBounds j (some S.length),S.length+1))=_
   rw [ej]; simp
  rw [step]
  have:=ih (S:=S++[j]) (by simp; omega) I'
  have e2:(S++[j]).length=S.length+1:=by simp
  rw [e2] at this ⊢
  exact this
theorem ZeR {mask:Nat} (F:ZgM mask) (hs:Array Int) (hr:hs.size<=mask):∃ owner S,layClean mask hs=some owner/\S.length=hs.size/\LC mask hs.toList owner S:=by
 have I0:LC mask hs.toList (Array.replicate (mask+1) none) []:=⟨by simp,List.nodup_nil,fun s h=>by simp at h,fun i h=>by simp at h,fun s h _=>by simp [Array.getElem?_replicate]; omega,fun i h=>by simp at h⟩
 obtain ⟨owner',S',e,el,I⟩:=ZjN F (hs:=hs.toList) (by simpa using hr) hs.size (S:=[]) (by simp) I0
 refine ⟨owner',S',?_,by simpa using el,I⟩
 unfold layClean
 rw [<-Array.foldl_toList]
 simp only [List.length_nil,List.drop_zero] at e
 rw [e]; rfl
theorem Zl0 {α:Type} {mask finger moves:Nat} {led plain:Bool} (F:ZgM mask) (hodd:mask % 2=1) (es:Array (Int×α)) (hr:es.size<=mask) :
  ∃ t order,laid mask finger moves led plain (es.map (·.1))=some (t,order)/\t.mask=mask/\t.led=led/\t.plain=plain/\t.moves=moves/\(order.filterMap (es[·]?)).size=es.size/\TI t (order.filterMap (es[·]?))/\(order.filterMap (es[·]?)).toList.Perm es.toList:=by
 obtain ⟨owner,S,e,el,I⟩:=ZeR F (es.map (·.1)) (by simpa using hr)
 have el':S.length=es.size:=by simpa using el
 let live:=(List.range (mask+1)).filterMap fun j=>(owner.getD j none).map (j,·)
 have hlive:∀ a b,(a,b)∈live ↔ ∃ h:b < S.length,S[b]=a:=by
  intro a b
  show (a,b)∈(List.range (mask+1)).filterMap _ ↔ _
  rw [List.mem_filterMap]
  constructor
  ·rintro ⟨j,hj,ej⟩
   have hj':j<=mask:=by have:=List.mem_range.mp hj; omega
   have hb:j < owner.size:=by rw [I.osz]; omega
   have eg:owner.getD j none=owner[j]:=by simp [Array.getD,hb]
   rw [eg] at ej
   cases q:owner[j] with
   | none=>rw [q] at ej; simp at ej
   | some c=>
    rw [q] at ej
    simp only [Option.map_some,Option.some.injEq,Prod.mk.injEq] at ej
    obtain ⟨rfl,rfl⟩:=ej
    have:j∈S:=Classical.byContradiction fun n=>by
     have:=I.off j hj' n
     rw [Array.getElem?_eq_getElem hb,q] at this; simp at this
    obtain ⟨i,hi,ei⟩:=List.mem_iff_getElem.mp this
    have:=I.at_ i hi
    rw [ei,Array.getElem?_eq_getElem hb,q] at this
    have:c=i:=by simpa using this
    subst this
    exact ⟨hi,ei⟩
  ·rintro ⟨h,rfl⟩
   have hl:=I.le S[b] (List.getElem_mem h)
   refine ⟨S[b],List.mem_range.mpr (by omega),?_⟩
   have hb:S[b] < owner.size:=by rw [I.osz]; omega
   have:=I.at_ b h
   rw [Array.getElem?_eq_getElem hb] at this
   have eg:owner.getD S[b] none=owner[S[b]]:=by simp [Array.getD,hb]
   rw [eg,Option.some.inj this]; rfl
 have sorted:live.Pairwise (fun a b=>a.1 < b.1):=by
  refine List.Pairwise.filterMap _ (fun a a' h b hb b' hb'=>?_) List.pairwise_lt_range
  cases q:owner.getD a none with
  | none=>rw [q] at hb; simp at hb
  | some c=>cases q':owner.getD a' none with
   | none=>rw [q'] at hb'; simp at hb'
   | some c'=>
    rw [q] at hb; rw [q'] at hb'
    simp at hb hb'
    rw [<-hb,<-hb']; exact h
 have ordp:(live.map (·.2)).Perm (List.range es.size):=by
  refine (List.perm_ext_iff_of_nodup ?_ List.nodup_range).mpr fun b=>?_
  ·show (live.map (·.2)).Pairwise (·≠·)
   rw [List.pairwise_map]
   refine List.Pairwise.imp_of_mem (fun {x y} hx hy h z=>?_) sorted
   obtain ⟨h1,e1⟩:=(hlive x.1 x.2).mp hx
   obtain ⟨h2,e2⟩:=(hlive y.1 y.2).mp hy
   have:x.1=y.1:=by rw [<-e1,<-e2]; congr 1
   omega
  ·rw [List.mem_map,List.mem_range]
   constructor
   ·rintro ⟨⟨a,c⟩,hm,rfl⟩
    obtain ⟨h,_⟩:=(hlive a c).mp hm
    simpa [<-el'] using h
   ·intro h
    exact ⟨(S[b]'(by omega),b),(hlive _ _).mpr ⟨by omega,rfl⟩,rfl⟩
 have esl:((live.map (·.2)).toArray.filterMap (es[·]?)).toList=live.filterMap fun q=>es[q.2]?:=by
  rw [Array.toList_filterMap,List.filterMap_map]; rfl
 have mapl:live.filterMap (fun q=>es[q.2]?)=live.pmap (fun q (h:q.2 < es.size)=>es[q.2]) (fun q hq=>by
   obtain ⟨h,_⟩:=(hlive q.1 q.2).mp hq; omega):=by
  have gen:∀ (l:List (Nat×Nat)) (hl:∀ q∈l,q.2 < es.size),l.filterMap (fun q=>es[q.2]?)=l.pmap (fun q (h:q.2 < es.size)=>es[q.2]) hl:=by
   intro l
   induction l with
   | nil=>intro _; rfl
   | cons q l ih=>
    intro hl
    have h0:=hl q List.mem_cons_self
    rw [List.filterMap_cons,Array.getElem?_eq_getElem h0,List.pmap_cons,ih (fun x hx=>hl x (List.mem_cons_of_mem _ hx))]
  exact gen live _
 have sz:((live.map (·.2)).toArray.filterMap (es[·]?)).size=es.size:=by
  rw [<-Array.length_toList,esl,mapl,List.length_pmap]
  have:=ordp.length_eq
  simpa using this
 refine ⟨{ mask,place:=(live.map (·.1)).toArray,dummies:=#[],finger,led,moves,plain },(live.map (·.2)).toArray,?_,rfl,rfl,rfl,rfl,sz,?_,?_⟩
 ·unfold laid
  rw [e]; rfl
 ·have ll:live.length=es.size:=by have:=ordp.length_eq; simpa using this
  refine ⟨by rw [sz]; simpa using ll,rfl,?_,?_,F,by rw [sz]; exact hr,hodd,?_⟩
  ·show Ris (live.map (·.1))
   exact List.pairwise_map.mpr sorted
  ·intro s hs
   obtain ⟨⟨a,b⟩,hm,rfl⟩:=List.mem_map.mp (show s∈live.map (·.1) from hs)
   obtain ⟨h,e2⟩:=(hlive a b).mp hm
   exact e2 ▸ I.le _ (List.getElem_mem h)
  ·intro i h1 h2
   have hi:i < live.length:=by simpa using h1
   have g1:(live.map (·.1)).toArray[i]'(by simpa using hi)=live[i].1:=by simp
   obtain ⟨hb,eb⟩:=(hlive live[i].1 live[i].2).mp (List.getElem_mem hi)
   have g2:((live.map (·.2)).toArray.filterMap (es[·]?))[i]=es[live[i].2]'(by omega):=by
    rw [<-Array.getElem_toList]
    have:((live.map (·.2)).toArray.filterMap (es[·]?)).toList=live.pmap (fun q (h:q.2 < es.size)=>es[q.2]) (fun q hq=>by
     obtain ⟨h,_⟩:=(hlive q.1 q.2).mp hq; omega):=esl.trans mapl
    simp only [this,List.getElem_pmap]
   show Reach mask (live.map (·.1)) _ _
   rw [g2,g1]
   have r:=I.reach live[i].2 hb (by simp; omega)
   have e3:(es.map (·.1)).toList[live[i].2]'(by simp; omega)=(es[live[i].2]'(by omega)).1:=by simp
   rw [e3,eb] at r
   refine r.mono fun x hx=>?_
   obtain ⟨k,hk,ek⟩:=List.mem_iff_getElem.mp hx
   exact List.mem_map.mpr ⟨(x,k),(hlive x k).mpr ⟨hk,ek⟩,rfl⟩
 ·rw [Array.toList_filterMap]
  refine (ordp.filterMap _).trans ?_
  have:(List.range es.size).filterMap (es[·]?)=es.toList:=by
   apply List.ext_getElem?
   intro i
   have gen:∀ (m:Nat),m<=es.size->(List.range m).filterMap (es[·]?)=es.toList.take m:=by
    intro m
    induction m with
    | zero=>intro _; simp
    | succ m ih=>
     intro h
     rw [List.range_succ,List.filterMap_append,ih (by omega),List.take_succ]
     congr 1
     simp [Array.getElem?_eq_getElem (show m < es.size by omega)]
   rw [gen es.size (Nat.le_refl _)]
   simp [List.take_of_length_le]
  rw [this]
end SetTab
namespace L3
open PySem PySem.Spec PyProof.Rows L2 SetTab PySem.SetTable
section
variable {prog:Program} {w:World} {A:Around} {E:Value->Shared->Prop} {s:Shared}
noncomputable abbrev TK (prog:Program) (w:World) (h:Heap) (ks:List Int) (a:Addr):Prop:=IsTupleKey (intKind prog w) h ks a
noncomputable abbrev kh (prog:Program) (w:World) (ks:List Int):Int:=tupleKeyHash (intKind prog w) ks
theorem Zb3 {ks:List Int} {vs:List Value} (h:ItemsAre (intKind prog w) ks vs):∀ v∈vs,∃ i t,v=.int i t:=by
 induction h with
 | nil=>intro v hv; cases hv
 | @cons k v ks vs h1 _ ih=>
  intro u hu
  rcases List.mem_cons.mp hu with rfl | hu
  ·obtain ⟨t,e⟩:=Value.isInt_shape (k:=k) (v:=u) h1
   exact ⟨k,t,e⟩
  ·exact ih u hu
theorem ZbN {ks:List Int} {a:Addr} {Q:Bool->Shared->Prop} (hk:TK prog w s.heap ks a) (h:Q false s):wpAny (model prog w) A (ofAClassStatement 8 (.ref a)) Q E s:=by
 have hT:=hk.typeIs
 obtain ⟨o,items,n,ho,_,hd,hi⟩:=hk
 unfold ofAClassStatement
 refine wpAny_bind (wpAny_typeOf hT ?_)
 show wpAny _ _ (do let u <- (if ("tuple"=="tuple")=true then pure true else isSubtype (.type "tuple") (.type "tuple")); _) _ _ s
 refine wpAny_bind ?_
 rw [if_pos (by decide)]
 refine wpAny_pure ?_
 simp only [Bool.not_true,Bool.false_eq_true,if_false]
 refine wpAny_bind (wpAny_seqItems ho hd ?_)
 show wpAny _ _ (forIn items _ _ >>= _) _ _ s
 refine wpAny_bind ?_
 rw [<-Array.forIn_toList]
 refine wpAny_forIn_list _ (fun rest r s'=>r.1=none/\s'=s/\∀ v∈rest,∃ i t,v=Value.int i t) _ ?_ ?_ _ _ ⟨rfl,rfl,Zb3 hi⟩
 ·rintro v rest r s' ⟨hr,rfl,hall⟩
  obtain ⟨i,t,rfl⟩:=hall v List.mem_cons_self
  show wpAny _ _ (pure false >>= _) _ _ _
  refine wpAny_bind (wpAny_pure ?_)
  simp only [Bool.false_eq_true,if_false]
  exact wpAny_pure ⟨rfl,rfl,fun u hu=>hall u (List.mem_cons_of_mem _ hu)⟩
 ·rintro ⟨r1,r2⟩ s' ⟨hr,rfl,_⟩
  simp only at hr
  subst hr
  exact wpAny_pure h
theorem ZgW {ks:List Int} {a:Addr} {Q:Bool->Shared->Prop} (hk:TK prog w s.heap ks a) (h:Q true s):wpAny (model prog w) A (hashByValue 8 (.ref a)) Q E s:=by
 have hT:=hk.typeIs
 obtain ⟨o,items,n,ho,_,hd,hi⟩:=hk
 unfold hashByValue
 refine wpAny_bind (wpAny_specialOf hT F.slot_tuple_hash.lookup ?_)
 show wpAny _ _ (seqItems? (.ref a) >>= _) _ _ s
 refine wpAny_bind (wpAny_seqItems ho hd ?_)
 show wpAny _ _ (forIn items _ _ >>= _) _ _ s
 refine wpAny_bind ?_
 rw [<-Array.forIn_toList]
 refine wpAny_forIn_list _ (fun rest r s'=>r.1=none/\s'=s/\∀ v∈rest,∃ i t,v=Value.int i t) _ ?_ ?_ _ _ ⟨rfl,rfl,Zb3 hi⟩
 ·rintro v rest r s' ⟨hr,rfl,hall⟩
  obtain ⟨i,t,rfl⟩:=hall v List.mem_cons_self
  show wpAny _ _ (pure true >>= _) _ _ _
  refine wpAny_bind (wpAny_pure ?_)
  simp only [Bool.not_true,Bool.false_eq_true,if_false]
  exact wpAny_pure ⟨rfl,rfl,fun u hu=>hall u (List.mem_cons_of_mem _ hu)⟩
 ·rintro ⟨r1,r2⟩ s' ⟨hr,rfl,_⟩
  simp only at hr
  subst hr
  exact wpAny_pure h
theorem Zla {ks:List Int} {a:Addr} {ys:List Value} {Q:Bool->Shared->Prop} (hk:TK prog w s.heap ks a) (hys:∀ y∈ys,∃ ks' b,y=.ref b/\TK prog w s.heap ks' b) (h:Q false s):wpAny (model prog w) A (searchCouldBeSeen (.ref a) ys) Q E s:=by
 unfold searchCouldBeSeen
 refine wpAny_bind ?_
 refine wpAny_forIn_list _ (fun rest r s'=>r.1=none/\s'=s/\∀ y∈rest,∃ ks' b,y=Value.ref b/\TK prog w s.heap ks' b) _ ?_ ?_ _ _ ⟨rfl,rfl,hys⟩
 ·rintro v rest r s' ⟨hr,rfl,hall⟩
  obtain ⟨ks',b,rfl,hb⟩:=hall v List.mem_cons_self
  have hall':=fun u hu=>hall u (List.mem_cons_of_mem _ hu)
  show wpAny _ _ (if ((a==b)||(carriedByValue (.ref a)&&carriedByValue (.ref b)))=true then _ else _) _ _ _
  by_cases c:((a==b)||(carriedByValue (.ref a)&&carriedByValue (.ref b)))=true
  ·rw [if_pos c]
   exact wpAny_pure ⟨rfl,rfl,hall'⟩
  ·rw [if_neg c]
   refine wpAny_bind (wpAny_eqIsQuiet_tuple hk ?_)
   simp only [Bool.not_true,Bool.false_eq_true,if_false]
   refine wpAny_bind (wpAny_eqIsQuiet_tuple hb ?_)
   simp only [Bool.not_true,Bool.false_eq_true,if_false]
   refine wpAny_bind (ZbN hk ?_)
   simp only [Bool.false_eq_true,if_false]
   refine wpAny_bind (ZbN hb ?_)
   simp only [Bool.false_eq_true,if_false]
   exact wpAny_pure ⟨rfl,rfl,hall'⟩
 ·rintro ⟨r1,r2⟩ s' ⟨hr,rfl,_⟩
  simp only at hr
  subst hr
  exact wpAny_pure h
end
structure TSet (prog:Program) (w:World) (h:Heap) (a:Addr) (o:Obj) (es:Array (Int×Value)) (ep:Nat) (t:SetTable) (keys:List (List Int)):Prop where
 ho:h.get? a=some o
 hd:o.data=.set es ep t
 ti:TI t es
 size:keys.length=es.size
 key:∀ (i:Nat) k,keys[i]?=some k->∃ b,es[i]?=some (kh prog w k,.ref b)/\TK prog w h k b
section
variable {prog:Program} {w:World} {A:Around} {E:Value->Shared->Prop} {s:Shared} {a:Addr} {o:Obj} {es:Array (Int×Value)} {ep:Nat} {t:SetTable} {keys:List (List Int)}
theorem TSet.fits (T:TSet prog w s.heap a o es ep t keys):t.fits es.size=true:=by
 have h1:=T.ti.size; have h2:=T.ti.dm; have h3:=T.ti.room
 simp [SetTable.fits,SetTable.fill,h1,h2,h3]
theorem TSet.get (T:TSet prog w s.heap a o es ep t keys) {i:Nat} (hi:i < es.size):∃ k b,keys[i]?=some k/\es[i]?=some (kh prog w k,.ref b)/\TK prog w s.heap k b:=by
 have hi':i < keys.length:=by rw [T.size]; exact hi
 obtain ⟨b,h1,h2⟩:=T.key i keys[i] (by simp [hi'])
 exact ⟨_,b,by simp [hi'],h1,h2⟩
theorem ZgV (T:TSet prog w s.heap a o es ep t keys) {k:List Int} {b:Addr} (hu:A.units < cLine) (hk:TK prog w s.heap k b) {m:Nat} (hm:m < 10*turns t.mask)
  (hf:(nth t.mask (st t.mask (kh prog w k)) m).j ∉ t.place.toList) (ha:∀ m',m' < m->(nth t.mask (st t.mask (kh prog w k)) m').j∈t.place.toList) {Q:SetFound->Shared->Prop}
  (q1:k∈keys->Q (.there none) s) (q2:k ∉ keys->Q (.free (nth t.mask (st t.mask (kh prog w k)) m).j false) s) :
  ∀ (d m0 fuel:Nat) (stand:Option Probe),m0+d=m->d < fuel->stand.getD (t.probeStart (kh prog w k))=nth t.mask (st t.mask (kh prog w k)) m0 ->
   (∀ m',m' < m0->∀ i (hi:i < t.place.size),t.place[i]=(nth t.mask (st t.mask (kh prog w k)) m').j->keys[i]?≠some k) ->
   wpAny (model prog w) A (setSearchFrom a (.ref b) (kh prog w k) true fuel stand) Q E s:=by
 have I:=T.ti
 intro d
 induction d using Nat.strongRecOn with
 | ind d ih=>
  intro m0 fuel stand hd hfu hst hno
  cases fuel with
  | zero=>omega
  | succ fuel=>
   unfold setSearchFrom
   refine wpAny_bind (wpAny_setState_of T.ho T.hd T.fits ?_)
   dsimp only
   have hg:t.gaveWay=false:=by simp [SetTable.gaveWay,I.odd]
   rw [if_neg (by rw [hg]; decide),hst]
   have run:=(Run.st t.mask (kh prog w k)).nth m0
   have hadd:∀ x,nth t.mask (nth t.mask (st t.mask (kh prog w k)) m0) x=nth t.mask (st t.mask (kh prog w k)) (m0+x):=fun x=>(UD t.mask _ m0 x).symm
   have pg:=Zjw I (fun i=>(es[i]?.map (·.1)).getD 0) (kh prog w k) d (fuel:=10*turns t.mask) run (by omega) (by rw [hadd,hd]; exact hf) (fun m' hm'=>by rw [hadd]; exact ha _ (by omega))
   rcases pg with ⟨e,hn⟩ | ⟨m1,i,hm1,hi,epl,ehash,e,hn⟩
   ·have e':t.probe (fun i=>(es[i]?.map (·.1)).getD 0) (kh prog w k) (nth t.mask (st t.mask (kh prog w k)) m0)=some (.empty (nth t.mask (st t.mask (kh prog w k)) m).j none):=by
     rw [hadd,hd] at e; exact e
    generalize hp:t.probe _ (kh prog w k) (nth t.mask (st t.mask (kh prog w k)) m0)=r
    have hr:=hp.symm.trans e'
    subst hr
    dsimp only
    refine wpAny_pure (q2 fun hmem=>?_)
    obtain ⟨i,hi,ei⟩:=List.mem_iff_getElem.mp hmem
    have hie:i < es.size:=by rw [<-T.size]; exact hi
    have hip:i < t.place.size:=by rw [I.size]; exact hie
    obtain ⟨b',h1,h2⟩:=T.key i k (by rw [<-ei]; simp [hi])
    have h1':es[i]=(kh prog w k,.ref b'):=by
     have:=Array.getElem?_eq_getElem hie
     rw [h1] at this; exact (Option.some.inj this).symm
    obtain ⟨k0,r1,r2⟩:=I.reach i hip hie
    rw [h1'] at r1 r2
    have hk0:k0 < m:=by
     rcases Nat.lt_trichotomy k0 m with z | z | z
     ·exact z
     ·subst z; exact absurd (by rw [r1]; simp) hf
     ·exact absurd (r2 m z) hf
    by_cases c:k0 < m0
    ·exact hno k0 c i hip r1.symm (by rw [<-ei]; simp [hi])
    ·refine hn (k0-m0) (by omega) i hip ?_ ?_
     ·rw [hadd,show m0+(k0-m0)=k0 by omega]; exact r1.symm
     ·simp [h1]
   ·have e':t.probe (fun i=>(es[i]?.map (·.1)).getD 0) (kh prog w k) (nth t.mask (st t.mask (kh prog w k)) m0)=some (.candidate (nth t.mask (st t.mask (kh prog w k)) (m0+m1)).j i (nth t.mask (st t.mask (kh prog w k)) (m0+m1+1))):=by
     rw [hadd,hadd,<-Nat.add_assoc] at e; exact e
    generalize hp:t.probe _ (kh prog w k) (nth t.mask (st t.mask (kh prog w k)) m0)=r
    have hr:=hp.symm.trans e'
    subst hr
    dsimp only
    have hie:i < es.size:=by rw [<-I.size]; exact hi
    obtain ⟨k',c,g1,g2,g3⟩:=T.get hie
    have seen:t.led=false->∀ y∈((es.filter (·.1==kh prog w k)).toList.map (·.2)),∃ ks' b,y=Value.ref b/\TK prog w s.heap ks' b:=fun _ y hy=>by
     obtain ⟨p,hp,rfl⟩:=List.mem_map.mp hy
     have hp':p∈es:=by simp at hp; exact hp.1
     obtain ⟨j,hj,ej⟩:=Array.mem_iff_getElem.mp hp'
     obtain ⟨k2,c2,g1',g2',g3'⟩:=T.get hj
     have:p=(kh prog w k2,.ref c2):=by
      rw [<-ej]
      have:=Array.getElem?_eq_getElem hj
      rw [g2'] at this; exact (Option.some.inj this).symm
     subst this
     exact ⟨k2,c2,rfl,g3'⟩
    cases hl:t.led
    case false=>
     simp only [Bool.not_false,if_true]
     refine wpAny_bind (Zla hk (seen hl) ?_)
     simp only [Bool.false_eq_true,if_false]
     rw [g2]
     dsimp only
     refine wpAny_bind (wpAny_holding (wpAny_eqBool_tuple hu g3 hk ?_))
     refine wpAny_bind (wpAny_setState_of T.ho T.hd T.fits ?_)
     dsimp only
     by_cases ek:k'=k
     ·subst ek
      rw [decide_eq_true rfl,if_pos (by decide)]
      exact wpAny_pure (q1 (List.mem_of_getElem? g1))
     ·rw [decide_eq_false ek,if_neg (by decide)]
      have sm:t.sameMemory t.moves t.mask=some true:=by simp [SetTable.sameMemory]
      rw [sm]
      dsimp only
      have sl:t.slot (nth t.mask (st t.mask (kh prog w k)) (m0+m1)).j=.live i:=by
       have:=Q0 I.ris hi
       rw [epl,hadd] at this
       exact this
      rw [if_pos rfl,sl]
      dsimp only
      rw [g2]
      dsimp only
      refine wpAny_bind (wpAny_isSame_ref_self (wpAny_bind (wpAny_pure ?_)))
      rw [if_pos rfl]
      dsimp only
      rw [if_neg (by decide)]
      refine ih (d-m1-1) (by omega) (m0+m1+1) fuel _ (by omega) (by omega) rfl fun m' hm' i' hi' ep'=>?_
      by_cases c1:m' < m0
      ·exact hno m' c1 i' hi' ep'
      ·by_cases c2:m'=m0+m1
       ·subst c2
        have:i'=i:=by
         have e1:t.place[i']=t.place[i]:=by rw [ep',epl,hadd]
         have l1:=Q0 I.ris hi'
         have l2:=Q0 I.ris hi
         rw [e1,l2] at l1
         injection l1 with l1; exact l1.symm
        subst this
        rw [g1]
        exact fun z=>ek (Option.some.inj z)
       ·intro z
        have hie':i' < es.size:=by rw [<-I.size]; exact hi'
        obtain ⟨b',z1,z2⟩:=T.key i' k z
        refine hn (m'-m0) (by omega) i' hi' ?_ ?_
        ·rw [hadd,show m0+(m'-m0)=m' by omega]; exact ep'
        ·simp [z1]
    case true=>
     simp only [Bool.not_true,Bool.false_eq_true,if_false]
     rw [g2]
     dsimp only
     refine wpAny_bind (wpAny_holding (wpAny_eqBool_tuple hu g3 hk ?_))
     refine wpAny_bind (wpAny_setState_of T.ho T.hd T.fits ?_)
     dsimp only
     by_cases ek:k'=k
     ·subst ek
      rw [decide_eq_true rfl,if_pos (by decide)]
      exact wpAny_pure (q1 (List.mem_of_getElem? g1))
     ·rw [decide_eq_false ek,if_neg (by decide)]
      have sm:t.sameMemory t.moves t.mask=some true:=by simp [SetTable.sameMemory]
      rw [sm]
      dsimp only
      have sl:t.slot (nth t.mask (st t.mask (kh prog w k)) (m0+m1)).j=.live i:=by
       have:=Q0 I.ris hi
       rw [epl,hadd] at this
       exact this
      rw [if_pos rfl,sl]
      dsimp only
      rw [g2]
      dsimp only
      refine wpAny_bind (wpAny_isSame_ref_self (wpAny_bind (wpAny_pure ?_)))
      rw [if_pos rfl]
      dsimp only
      rw [if_neg (by decide)]
      refine ih (d-m1-1) (by omega) (m0+m1+1) fuel _ (by omega) (by omega) rfl fun m' hm' i' hi' ep'=>?_
      by_cases c1:m' < m0
      ·exact hno m' c1 i' hi' ep'
      ·by_cases c2:m'=m0+m1
       ·subst c2
        have:i'=i:=by
         have e1:t.place[i']=t.place[i]:=by rw [ep',epl,hadd]
         have l1:=Q0 I.ris hi'
         have l2:=Q0 I.ris hi
         rw [e1,l2] at l1
         injection l1 with l1; exact l1.symm
        subst this
        rw [g1]
        exact fun z=>ek (Option.some.inj z)
       ·intro z
        have hie':i' < es.size:=by rw [<-I.size]; exact hi'
        obtain ⟨b',z1,z2⟩:=T.key i' k z
        refine hn (m'-m0) (by omega) i' hi' ?_ ?_
        ·rw [hadd,show m0+(m'-m0)=m' by omega]; exact ep'
        ·simp [z1]
end
noncomputable def Al (prog:Program) (w:World) (h:Heap):List (List Int)->List (Int×Value)->Prop
 | [],l=>l=[]
 | k::ks,l=>∃ b r,l=(kh prog w k,.ref b)::r/\TK prog w h k b/\Al prog w h ks r
section
variable {prog:Program} {w:World} {h h':Heap}
theorem Al.length:∀ {ks:List (List Int)} {l:List (Int×Value)},Al prog w h ks l->ks.length=l.length
 | [],l,a=>by unfold Al at a; subst a; rfl
 | k::ks,l,a=>by unfold Al at a; obtain ⟨b,r,rfl,_,a⟩:=a; simp [a.length]
theorem Al.get:∀ {ks:List (List Int)} {l:List (Int×Value)} {i:Nat} {k:List Int},Al prog w h ks l->ks[i]?=some k->∃ b,l[i]?=some (kh prog w k,.ref b)/\TK prog w h k b
 | [],l,i,k,a,e=>by simp at e
 | k0::ks,l,i,k,a,e=>by
  unfold Al at a
  obtain ⟨b,r,rfl,t,a⟩:=a
  cases i with
  | zero=>simp at e; subst e; exact ⟨b,rfl,t⟩
  | succ i=>obtain ⟨b',e1,e2⟩:=Al.get (i:=i) a (by simpa using e); exact ⟨b',by simpa using e1,e2⟩
theorem Al.keep (kp:∀ k b,TK prog w h k b->TK prog w h' k b):∀ {ks:List (List Int)} {l:List (Int×Value)},Al prog w h ks l->Al prog w h' ks l
 | [],l,a=>a
 | k::ks,l,a=>by
  unfold Al at a ⊢
  obtain ⟨b,r,e,t,a⟩:=a
  exact ⟨b,r,e,kp _ _ t,a.keep kp⟩
theorem Al.append:∀ {ks ks':List (List Int)} {l l':List (Int×Value)},Al prog w h ks l->Al prog w h ks' l'->Al prog w h (ks++ks') (l++l')
 | [],ks',l,l',a,a'=>by unfold Al at a; subst a; exact a'
 | k::ks,ks',l,l',a,a'=>by
  unfold Al at a
  obtain ⟨b,r,rfl,t,a⟩:=a
  show Al prog w h (k::(ks++ks')) _
  unfold Al
  exact ⟨b,r++l',rfl,t,a.append a'⟩
theorem Al.take:∀ {ks:List (List Int)} {l:List (Int×Value)} (n:Nat),Al prog w h ks l->Al prog w h (ks.take n) (l.take n)
 | _,_,0,_=>by simp [Al]
 | [],l,n+1,a=>by unfold Al at a; subst a; simp [Al]
 | k::ks,l,n+1,a=>by
  unfold Al at a
  obtain ⟨b,r,rfl,t,a⟩:=a
  simp only [List.take_succ_cons]
  unfold Al
  exact ⟨b,_,rfl,t,a.take n⟩
theorem Al.drop:∀ {ks:List (List Int)} {l:List (Int×Value)} (n:Nat),Al prog w h ks l->Al prog w h (ks.drop n) (l.drop n)
 | _,_,0,a=>a
 | [],l,n+1,a=>by unfold Al at a; subst a; simp [Al]
 | k::ks,l,n+1,a=>by
  unfold Al at a
  obtain ⟨b,r,rfl,t,a⟩:=a
  exact a.drop n
theorem Al.one {k:List Int} {b:Addr} (t:TK prog w h k b):Al prog w h [k] [(kh prog w k,.ref b)]:=by unfold Al; exact ⟨b,[],rfl,t,by simp [Al]⟩
theorem Al.perm {l l':List (Int×Value)} (p:l'.Perm l):∀ {ks:List (List Int)},Al prog w h ks l->∃ ks',Al prog w h ks' l'/\ks'.Perm ks:=by
 have gen:∀ {l l':List (Int×Value)},l.Perm l'->∀ {ks:List (List Int)},Al prog w h ks l->∃ ks',Al prog w h ks' l'/\ks'.Perm ks:=by
  intro l l' p
  induction p with
  | nil=>intro ks a; exact ⟨ks,a,.refl _⟩
  | cons x p ih=>
   intro ks a
   cases ks with
   | nil=>unfold Al at a; cases a
   | cons k ks=>
    unfold Al at a
    obtain ⟨b,r,e,t,a⟩:=a
    injection e with e1 e2
    subst e1 e2
    obtain ⟨ks',a',p'⟩:=ih a
    exact ⟨k::ks',by unfold Al; exact ⟨b,_,rfl,t,a'⟩,p'.cons k⟩
  | swap x y l=>
   intro ks a
   cases ks with
   | nil=>unfold Al at a; cases a
   | cons k ks=>
    unfold Al at a
    obtain ⟨b,r,e,t,a⟩:=a
    injection e with e1 e2
    subst e1 e2
    cases ks with
    | nil=>unfold Al at a; cases a
    | cons k2 ks=>
     unfold Al at a
     obtain ⟨b2,r2,e,t2,a⟩:=a
     injection e with e1 e2
     subst e1 e2
     refine ⟨k2::k::ks,?_,.swap _ _ _⟩
     unfold Al
     refine ⟨b2,_,rfl,t2,?_⟩
     unfold Al
     exact ⟨b,_,rfl,t,a⟩
  | trans p1 p2 ih1 ih2=>
   intro ks a
   obtain ⟨ks1,a1,q1⟩:=ih1 a
   obtain ⟨ks2,a2,q2⟩:=ih2 a1
   exact ⟨ks2,a2,q2.trans q1⟩
 exact fun {ks} a=>gen p.symm a
end
noncomputable def SetI (G:Addr->Prop) (prog:Program) (w:World) (h:Heap) (a:Addr) (keys:List (List Int)):Prop:=∃ o es ep t,h.get? a=some o/\o.ExactSet/\o.data=.set es ep t/\TI t es/\Al prog w h keys es.toList/\keys.Nodup /\
 (t.mask=7\/t.mask=31\/t.mask=127)/\es.size*5 < t.mask*3/\t.plain=true/\t.led=(!w.params.followText "set-order")/\∀ p∈es.toList,∃ b,p.2=Value.ref b/\G b
theorem Zik {m:Nat} (h:m=7\/m=31\/m=127):ZgM m:=by
 rcases h with rfl | rfl | rfl
 ·exact Zod
 ·exact Zoe
 ·exact Zmc
theorem TK.keep {prog:Program} {w:World} {h h':Heap} {a:Addr} {o:Obj} {es ep t} (ho:h.get? a=some o) (hd:o.data=.set es ep t) (sb:Heap.SameBut a h h') {k:List Int} {b:Addr} (hk:TK prog w h k b):TK prog w h' k b:=by
 obtain ⟨ob,items,n,hb,hc,hdb,hi⟩:=hk
 have ne:b≠a:=by
  rintro rfl
  rw [ho] at hb; cases hb
  rw [hd] at hdb; cases hdb
 exact ⟨ob,items,n,(sb.2 b ne).trans hb,hc,hdb,hi⟩
noncomputable def Znd (es:Array (Int×Value)) (l:Option (SetTable×Array Nat)):Sem (Array (Int×Value)×SetTable):=do
 let some (t,order):=l | unsupported "internal:set-table-without-room"
 let out:=order.filterMap (es[·]?)
 if out.size != es.size then unsupported "internal:set-table-lost-an-element"
 pure (out,t)
section
variable {prog:Program} {w:World} {A:Around} {E:Value->Shared->Prop} {s:Shared} {a:Addr} {keys:List (List Int)}
theorem Zdj {h:Heap} {o:Obj} {es es':Array (Int×Value)} {ep:Nat} {t t':SetTable} (ho:h.get? a=some o) (hd:o.data=.set es ep t):(h.update a (Obj.putSet es' t')).get? a=some { o with data:=.set es' (ep+1) t' }:=by
 have:=Heap.get?_update_self (Obj.putSet es' t') ho (by rw [putSet_of es' t' hd]; rfl)
 rw [putSet_of es' t' hd] at this; exact this
theorem ZgU {G:Addr->Prop} (S:SetI G prog w s.heap a keys) {k:List Int} {b:Addr} (hG:G b) (hu:A.units < cLine) (hk:TK prog w s.heap k b) (hz:keys.length < 70) {Q:Bool->Shared->Prop}
  (q:∀ r h' tk keys',Heap.SameBut a s.heap h'->SetI G prog w h' a keys'->(∀ x,x∈keys' ↔ x∈keys\/x=k)->keys'.length<=keys.length+1->Q r { s with heap:=h',toks:=tk }):wpAny (model prog w) A (setAdd a (.ref b)) Q E s:=by
 unfold setAdd
 refine wpAny_holding (wpAny_bind (wpAny_pyHash_tuple hu hk ?_))
 generalize s.toks+(k.length+1)=tk0
 obtain ⟨o,es,ep,t,ho,hc,hd,I,al,nd,hm,hf,hpl0,hld0,hgs⟩:=id S
 have hal:keys.length=es.size:=al.length
 have T:TSet prog w ({ s with toks:=tk0 }:Shared).heap a o es ep t keys:=⟨ho,hd,I,hal,fun i k' e=>by
  obtain ⟨b',e1,e2⟩:=al.get e
  exact ⟨b',by rw [Array.getElem?_toList] at e1; exact e1,e2⟩⟩
 unfold setAddHashed setAddHashedIn
 refine wpAny_holding (wpAny_bind (wpAny_setState_of T.ho T.hd T.fits ?_))
 dsimp only
 have bs:byScan (.ref b) es=false:=by simp [byScan,Value.scannable]
 rw [bs,if_neg (by decide)]
 obtain ⟨m,m1,m2,m3⟩:=Zgw I.full I.ris.nodup (by have:=I.size; have:=I.room; simp; omega) (Run.st t.mask (kh prog w k)) (ZiT _)
 have hmask:t.mask<=127:=by rcases hm with h | h | h <;> omega
 refine wpAny_bind ?_
 unfold setSearch
 refine ZgV T hu hk m1 m2 m3 (fun hin=>?_) (fun hout=>?_) m 0 100000 none (by omega) (by unfold turns at m1; omega) rfl (fun m' hm'=>absurd hm' (Nat.not_lt_zero _))
 ·dsimp only
  exact wpAny_pure (q false s.heap tk0 keys (Heap.SameBut.refl a s.heap) S (fun x=>⟨.inl,fun z=>z.elim id fun e=>e ▸ hin⟩) (by omega))
 ·dsimp only
  refine wpAny_bind (wpAny_setState_of T.ho T.hd T.fits ?_)
  dsimp only
  have hroom:es.size+1<=t.mask:=by rcases hm with h | h | h <;> omega
  have P:=I.put (x:=Value.ref b) m2 m3 hroom
  have hpm:(t.put (nth t.mask (st t.mask (kh prog w k)) m).j).1.mask=t.mask:=rfl
  have hpp:(t.put (nth t.mask (st t.mask (kh prog w k)) m).j).1.plain=t.plain:=rfl
  have hpq:(t.put (nth t.mask (st t.mask (kh prog w k)) m).j).1.led=t.led:=rfl
  generalize t.put (nth t.mask (st t.mask (kh prog w k)) m).j=tp at P hpm hpp hpq
  obtain ⟨t1,p⟩:=tp
  dsimp only at P hpm hpp hpq ⊢
  rw [hpl0] at hpp
  rw [hld0] at hpq
  have hgi:∀ q∈(SetTable.insertAt es p (kh prog w k,Value.ref b)).toList,∃ b,q.2=Value.ref b/\G b:=fun q hq=>by
   rw [SetTab.toList_insertAt] at hq
   rcases List.mem_append.mp hq with z | z
   ·exact hgs q (List.mem_of_mem_take z)
   ·rcases List.mem_cons.mp z with y | y
    ·exact ⟨b,by rw [y],hG⟩
    ·exact hgs q (List.mem_of_mem_drop y)
  have cont:wpAny (model prog w) A (do
    storeSet a (SetTable.insertAt es p (kh prog w k,.ref b)) t1
    if (!false&&t1.tooFull)=true then do
     setRelay a (SetTable.grown (es.size+1))
     pure true
    else pure true) Q E ({ s with toks:=tk0 }:Shared):=by
   have hsz:(SetTable.insertAt es p (kh prog w k,Value.ref b)).size=es.size+1:=Q1 _ _ _
   have hsl:(sizeLine:Nat)=16777216:=sizeLine_eq
   refine wpAny_bind (wpAny_storeSet_of T.ho T.hd ?_ (by rw [hsz]; omega))
   have sb1:Heap.SameBut a s.heap (s.heap.update a (Obj.putSet (SetTable.insertAt es p (kh prog w k,.ref b)) t1)):=Heap.SameBut.update s.heap a _
   have g1:(s.heap.update a (Obj.putSet (SetTable.insertAt es p (kh prog w k,.ref b)) t1)).get? a=some { o with data:=.set (SetTable.insertAt es p (kh prog w k,.ref b)) (ep+1) t1 }:=Zdj ho hd
   have kp1:∀ k b,TK prog w s.heap k b->TK prog w (s.heap.update a (Obj.putSet (SetTable.insertAt es p (kh prog w k,.ref b)) t1)) k b:=fun k' b' hk'=>by
    obtain ⟨ob,items,n,hb,hcb,hdb,hi⟩:=hk'
    have ne:b'≠a:=by
     rintro rfl
     rw [ho] at hb; cases hb
     rw [hd] at hdb; cases hdb
    exact ⟨ob,items,n,((Heap.SameBut.update s.heap a _).2 b' ne).trans hb,hcb,hdb,hi⟩
   have kp:∀ k' b',TK prog w s.heap k' b'->TK prog w (s.heap.update a (Obj.putSet (SetTable.insertAt es p (kh prog w k,.ref b)) t1)) k' b':=fun k' b' hk'=>TK.keep ho hd sb1 hk'
   have al1:Al prog w (s.heap.update a (Obj.putSet (SetTable.insertAt es p (kh prog w k,.ref b)) t1)) (keys.take p++k::keys.drop p) (SetTable.insertAt es p (kh prog w k,Value.ref b)).toList:=by
    rw [SetTab.toList_insertAt]
    exact ((al.take p).append ((Al.one hk).append (al.drop p))).keep kp
   have pm:(keys.take p++k::keys.drop p).Perm (k::keys):=by
    have:=(List.perm_middle (a:=k) (l₁:=keys.take p) (l₂:=keys.drop p))
    rw [List.take_append_drop] at this
    exact this
   have nd1:(keys.take p++k::keys.drop p).Nodup:=pm.nodup_iff.mpr (List.nodup_cons.mpr ⟨hout,nd⟩)
   have mem1:∀ x,x∈keys.take p++k::keys.drop p ↔ x∈keys\/x=k:=fun x=>by rw [pm.mem_iff,List.mem_cons]; exact or_comm
   have len1:(keys.take p++k::keys.drop p).length<=keys.length+1:=by rw [pm.length_eq]; simp
   have hm1:t1.mask=7\/t1.mask=31\/t1.mask=127:=by rw [hpm]; exact hm
   have hfill:t1.fill=es.size+1:=by
    have h1:=P.size; have h2:=P.dm
    simp [SetTable.fill,h2,h1,hsz]
   by_cases tf:t1.tooFull=true
   ·rw [tf,if_pos (by decide)]
    have tf':(es.size+1)*5>=t.mask*3:=by
     simp only [SetTable.tooFull,hfill,hpm] at tf
     simpa using tf
    refine wpAny_bind ?_
    unfold setRelay
    have T1:TSet prog w (s.heap.update a (Obj.putSet (SetTable.insertAt es p (kh prog w k,.ref b)) t1)) a _ (SetTable.insertAt es p (kh prog w k,.ref b)) (ep+1) t1 (keys.take p++k::keys.drop p):=⟨g1,rfl,P,by rw [al1.length,Array.length_toList],fun i k' e=>by
     obtain ⟨b',e1,e2⟩:=al1.get e
     exact ⟨b',by rw [Array.getElem?_toList] at e1; exact e1,e2⟩⟩
    refine wpAny_bind (wpAny_setState_of g1 rfl (T1.fits (s:={ s with heap:=_ })) ?_)
    dsimp only
    have big:∃ M,SetTable.sizeAbove (SetTable.grown (es.size+1))=M+1/\(M=7\/M=31\/M=127)/\(es.size+1)*5 < M*3:=by
     have e5:es.size=4/\t.mask=7\/es.size=18/\t.mask=31:=by
      have h70:es.size < 70:=by omega
      rcases hm with h | h | h
      ·rw [h] at hf tf'; omega
      ·rw [h] at hf tf'; omega
      ·rw [h] at hf tf'; omega
     rcases e5 with ⟨e5,_⟩ | ⟨e5,_⟩
     ·rw [e5]; exact ⟨31,by decide,by decide,by decide⟩
     ·rw [e5]; exact ⟨127,by decide,by decide,by decide⟩
    obtain ⟨M,eM,hM,hMf⟩:=big
    rw [eM,if_neg (by omega)]
    obtain ⟨t2,order,el,l1,l2,l3,l4,l5,l6,l7⟩:=Zl0 (finger:=t1.finger) (moves:=t1.movedTo M) (led:=t1.led) (plain:=t1.plain) (Zik hM) (by rcases hM with h | h | h <;> omega) (SetTable.insertAt es p (kh prog w k,Value.ref b)) (by rw [hsz]; omega)
    have er:t1.relaid ((SetTable.insertAt es p (kh prog w k,Value.ref b)).map (·.1)) (SetTable.grown (es.size+1))=some (t2,order):=by
     unfold SetTable.relaid
     rw [eM]
     exact el
    rw [er]
    show wpAny _ _ (Znd (SetTable.insertAt es p (kh prog w k,Value.ref b)) (some (t2,order)) >>= _) _ _ _
    unfold Znd
    dsimp only
    rw [l5,if_neg (by simp)]
    refine wpAny_bind (wpAny_pure ?_)
    dsimp only
    refine wpAny_storeSet_of (s:={ s with heap:=_,toks:=tk0 }) g1 rfl ?_ (by rw [l5,hsz]; omega)
    have sb2:=Heap.SameBut.update (s.heap.update a (Obj.putSet (SetTable.insertAt es p (kh prog w k,.ref b)) t1)) a (Obj.putSet (order.filterMap ((SetTable.insertAt es p (kh prog w k,Value.ref b))[·]?)) t2)
    have g2:(Heap.update (s.heap.update a (Obj.putSet (SetTable.insertAt es p (kh prog w k,.ref b)) t1)) a (Obj.putSet (order.filterMap ((SetTable.insertAt es p (kh prog w k,Value.ref b))[·]?)) t2)).get? a=some { o with data:=.set _ (ep+1+1) t2 }:=Zdj (o:={ o with data:=.set (SetTable.insertAt es p (kh prog w k,Value.ref b)) (ep+1) t1 }) g1 rfl
    obtain ⟨keys2,al2,pm2⟩:=Al.perm l7 al1
    refine wpAny_pure (q true _ tk0 keys2 (sb1.trans sb2) ⟨_,_,_,t2,g2,hc,rfl,l6,al2.keep fun k' b' hk'=>TK.keep g1 rfl sb2 hk',pm2.nodup_iff.mpr nd1,by rw [l1]; exact hM,by rw [l1,l5,hsz]; exact hMf,by rw [l3]; exact hpp,by rw [l2]; exact hpq,fun q hq=>hgi q (l7.mem_iff.mp hq)⟩ (fun x=>by rw [pm2.mem_iff]; exact mem1 x) (by rw [pm2.length_eq]; exact len1))
   ·have tf0:t1.tooFull=false:=by simpa using tf
    rw [tf0,if_neg (by decide)]
    have tf':(es.size+1)*5 < t1.mask*3:=by
     simp only [SetTable.tooFull,hfill] at tf0
     simpa using tf0
    exact wpAny_pure (q true _ tk0 _ sb1 ⟨_,_,_,t1,g1,hc,rfl,P,al1,nd1,hm1,by rw [hsz]; exact tf',hpp,hpq,hgi⟩ mem1 len1)
  by_cases hpl:t1.plain=true
  ·rw [if_pos hpl]
   refine wpAny_bind (ZgW (s:={ s with toks:=tk0 }) hk ?_)
   rw [if_pos rfl]
   exact cont
  ·rw [if_neg hpl]
   refine wpAny_bind (wpAny_pure ?_)
   rw [if_pos rfl]
   exact cont
end
set_option maxHeartbeats 2000000
section
variable {prog:Program} {w:World} {A:Around} {R:Result->Shared->Prop} {I S:Addr} {fp wr:List Addr} {n:Nat} {P:Nat->Value->Prop} {St:Nat->Heap->Prop}
theorem TK.kept {h h':Heap} {k:List Int} {b:Addr} (hk:TK prog w h k b) (hw:∀ x∈wr,∃ o vs,h.get? x=some o/\o.data=.fields vs) (kp:∀ b o,b ∉ wr->h.get? b=some o->h'.get? b=some o):TK prog w h' k b:=by
 obtain ⟨ob,items,n,hb,hcb,hdb,hi⟩:=hk
 refine ⟨ob,items,n,kp b ob (fun hm=>?_) hb,hcb,hdb,hi⟩
 obtain ⟨o,vs,h1,h2⟩:=hw b hm
 rw [hb] at h1; cases h1
 rw [hdb] at h2; cases h2
theorem SetI.kept {G:Addr->Prop} {h h':Heap} {keys:List (List Int)} (X:SetI G prog w h S keys) (hSw:S ∉ wr) (hw:∀ x∈wr,∃ o vs,h.get? x=some o/\o.data=.fields vs) (kp:∀ b o,b ∉ wr->h.get? b=some o->h'.get? b=some o):SetI G prog w h' S keys:=by
 obtain ⟨o,es,ep,t,h1,h2,h3,h4,h5,r⟩:=X
 exact ⟨o,es,ep,t,kp _ _ hSw h1,h2,h3,h4,h5.keep fun k b hk=>TK.kept hk hw kp,r⟩
theorem Zjn {G:Addr->Prop} (W:Walks prog w A.in1 I fp wr n P St) (hSf:S ∉ fp) (hw:∀ i h,St i h->∀ x∈wr,∃ o vs,h.get? x=some o/\o.data=.fields vs) (h0:Heap) (hS0:h0.get? S=none) (kw:∀ b o,h0.get? b=some o->b ∉ wr) (ks:List (List Int)) (hks:ks.length=n)
  (hP:∀ i v k,P i v->ks[i]?=some k->∃ b,v=.ref b/\TK prog w h0 k b/\G b) (hn:n<=70) (hu:A.in1.units < cLine) :
  ∀ (d i:Nat) (s:Shared) (keys:List (List Int)),n-i=d->i<=n->(∀ b o,h0.get? b=some o->s.heap.get? b=some o)->St i s.heap->SetI G prog w s.heap S keys->(∀ x,x∈keys ↔ x∈ks.take i)->keys.length<=i ->
   (∀ h' tk keys',SetI G prog w h' S keys'->(∀ x,x∈keys' ↔ x∈ks)->(∀ b o,h0.get? b=some o->h'.get? b=some o)->R (.ok (.ret .none)) { s with heap:=h',toks:=tk }) ->
   codeAny (model prog w) A (.builtin "set.update.loop" ⟨[.ref S,.ref I],[]⟩) R s:=by
 have hSw:S ∉ wr:=fun h=>hSf (W.sub _ h)
 intro d
 induction d with
 | zero=>
  intro i s keys hk hi hg hst hS hmem hlen hR
  have hin:i=n:=by omega
  subst hin
  refine codeAny_builtin F.entry_set_update_loop ?_
  rw [Around.under_plainId F.plain_set_update_loop _]; show wpAny _ A.in1 (pyNext (.ref I) >>= _) _ _ s; refine wpAny_bind (W.done s _ _ hst fun h' tk hk'=>?_)
  show wpAny _ A.in1 (ret Value.none) _ _ _
  refine wpAny_pure (hR h' tk keys (hS.kept hSw (hw _ _ hst) hk') (fun x=>by rw [hmem x,<-hks,List.take_length]) fun b o e=>hk' b o (kw b o e) (hg b o e))
 | succ d ih=>
  intro i s keys hk hi hg hst hS hmem hlen hR
  have hlt:i < n:=by omega
  refine codeAny_builtin F.entry_set_update_loop ?_
  rw [Around.under_plainId F.plain_set_update_loop _]; show wpAny _ A.in1 (pyNext (.ref I) >>= _) _ _ s; refine wpAny_bind (W.item i s _ _ hlt hst fun v h' tk hPv hst' hk'=>?_)
  obtain ⟨b,rfl,hkb,hgb⟩:=hP i v ks[i] hPv (by simp [show i < ks.length by omega])
  have hS':=hS.kept hSw (hw _ _ hst) hk'
  have hg':∀ b o,h0.get? b=some o->h'.get? b=some o:=fun b o e=>hk' b o (kw b o e) (hg b o e)
  have hkb':TK prog w h' ks[i] b:=by obtain ⟨ob,items,m,hb,r⟩:=hkb; exact ⟨ob,items,m,hg' _ _ hb,r⟩
  show wpAny _ A.in1 (holding [Value.ref b] (setAdd S (.ref b)) >>= _) _ _ _
  refine wpAny_bind (wpAny_holding (ZgU (hG:=hgb) (s:={ s with heap:=h',toks:=tk }) hS' hu hkb' (by omega) fun r h'' tk'' keys'' sb hS'' hm'' hl''=>?_))
  refine wpAny_pure ⟨plainId_quiet F.plain_set_update_loop _,ih (i+1) _ keys'' (by omega) hlt (fun b o e=>?_) (W.frame _ _ _ hst' fun b hb o e=>?_) hS'' (fun x=>?_) (by omega) fun h3 tk3 keys3 a1 a2 a3=>hR h3 tk3 keys3 a1 a2 a3⟩
  ·exact (sb.2 b fun z=>by rw [z,hS0] at e; cases e).trans (hg' b o e)
  ·exact (sb.2 b fun z=>hSf (z ▸ hb)).trans e
  ·have e:ks.take (i+1)=ks.take i++[ks[i]]:=by rw [List.take_add_one]; simp [show i < ks.length by omega]
   rw [hm'' x,hmem x,e,List.mem_append,List.mem_singleton]
end
section
variable {prog:Program} {w:World} {A:Around} {E:Value->Shared->Prop} {s:Shared}
set_option maxHeartbeats 3200000 in
theorem Zez (a:Value) {Q₁:Value->Shared->Prop}
  (h:Q₁ (.ref s.heap.objs.size) { s with heap:=s.heap.push { cls:=.type "set",dict:=none,data:=.set #[] 0 (.fresh 0 0 (!w.params.followText "set-order")) } }) :
  codeAny (model prog w) A (.call (.builtin "set.__new__") ⟨[.type "set",a],[]⟩) (wants Q₁ E) s:=by
 refine codeAny_of_tree ?_
 show wpAny _ A.in1 (do checkBuiltinCall "set.__new__" ⟨[.type "set",a],[]⟩; again (.builtin "set.__new__" ⟨[.type "set",a],[]⟩)) _ _ s
 refine wpAny_bind (wpAny_of_eq (F.newCall_set_1 a) (wpAny_pure ⟨plainId_quiet F.plain_set_new _,codeAny_builtin F.entry_set_new ?_⟩))
 rw [Around.under_plainId F.plain_set_new _]
 unfold Builtin.«set.__new__» Builtin.Frozenset.newClass
 have hsub:=sub_set_self
 obtain ⟨hp,g,d,tk,os⟩:=s
 dsimp only
 wp_walk
 refine wpAny_askSetting (wpAny_pure ?_)
 dsimp only
 simp only [newObj]
 refine wpAny_bind (wpAny_alloc (wpAny_pure ?_))
 exact wpAny_pure h
theorem Zfm {G:Addr->Prop} {l:Addr} {T:String} {Q:Value->Shared->Prop} {ks:List (List Int)} (hT0:s.TypeIs (.ref l) T) (hsls:isSubtype (.type T) (.type "set")=pure false) (hslf:isSubtype (.type T) (.type "frozenset")=pure false) (hne:(Value.type T==Value.type "dict")=false)
  (hn:ks.length<=70) (hu:A.units+8 < cLine)
  (hit:∀ (A':Around) (s1:Shared) (Q':Value->Shared->Prop),A'.handled=A.handled->(∀ b o,s.heap.get? b=some o->s1.heap.get? b=some o) ->
   (∀ (it:Addr) (fp wr:List Addr) (St:Nat->Heap->Prop) (P:Nat->Value->Prop) (h2:Heap),(∀ A'':Around,A''.handled=A.handled->Walks prog w A'' it fp wr ks.length P St)->St 0 h2->s.heap.objs.size ∉ fp->(∀ i h,St i h->∀ x∈wr,∃ o vs,h.get? x=some o/\o.data=.fields vs)->(∀ b o,s1.heap.get? b=some o->h2.get? b=some o/\b ∉ wr) ->
    (∀ i v k,P i v->ks[i]?=some k->∃ b,v=.ref b/\TK prog w s.heap k b/\G b)->Q' (.ref it) { s1 with heap:=h2 })->s.heap.objs.size < s1.heap.objs.size->wpAny (model prog w) A' (pyIter (.ref l)) Q' E s1)
  (h:∀ (h':Heap) (tk:Nat) keys,SetI G prog w h' s.heap.objs.size keys->(∀ x,x∈keys ↔ x∈ks)->(∀ b o,s.heap.get? b=some o->h'.get? b=some o)->Q (.ref s.heap.objs.size) { s with heap:=h',toks:=tk }) :
  wpAny (model prog w) A (call (.type "set") [.ref l]) Q E s:=by
 obtain ⟨c,tl,hmro⟩:=F.called_set.mro
 have hmade:=F.called_set.made
 have hsub:=F.called_set.sub
 refine wpAny_call (codeAny_of_tree ?_)
 show wpAny _ _ (callAny (.type "set") _) _ _ _
 refine wpAny_pure ⟨Code.quiet_builtin _ (by decide +kernel),codeAny_builtin F.entry_type_call ?_⟩
 rw [Around.under_plain (weight_type_call_type "set" [.ref l] []) rfl]
 have h1:=F.called_set.notType
 have h2:=F.called_set.canCreate
 have hct:=F.typeCall_set_1 (.ref l)
 repeat (any_goals (first | assumption | wp_step))
 refine codeAny_mono (Zez (.ref l) (E:=E) (Q₁:=fun obj s₁=>∃ led:Bool,Nonempty (PLift (led=(!w.params.followText "set-order")))/\obj=.ref s.heap.objs.size/\s₁={ s with heap:=s.heap.push { cls:=.type "set",dict:=none,data:=.set #[] 0 (.fresh 0 0 led) } }) ⟨_,⟨⟨rfl⟩⟩,rfl,rfl⟩) fun r s₁ hr=>?_
 cases r with
 | error e=>exact hr
 | ok fl=>
  cases fl with
  | ret obj=>
   obtain ⟨led,hled,rfl,rfl⟩:=hr
   have hS:(s.heap.push { cls:=.type "set",dict:=none,data:=.set #[] 0 (.fresh 0 0 led) }).get? s.heap.objs.size=some { cls:=.type "set",dict:=none,data:=.set #[] 0 (.fresh 0 0 led) }:=Heap.get?_push_size _ rfl
   have hT:Shared.TypeIs { s with heap:=s.heap.push { cls:=.type "set",dict:=none,data:=.set #[] 0 (.fresh 0 0 led) } } (.ref s.heap.objs.size) "set":=⟨_,hS,rfl⟩
   have hli:=F.called_set.init.lookup
   have hbi:=F.called_set.init.bind (.ref s.heap.objs.size)
   repeat (any_goals (first | assumption | wp_step))
   refine codeAny_mono (codeAny_call_builtin (R:=wants (fun r s₂=>r=.none/\∃ h' tk keys,s₂={ s with heap:=h',toks:=tk }/\SetI G prog w h' s.heap.objs.size keys/\(∀ x,x∈keys ↔ x∈ks)/\(∀ b o,s.heap.get? b=some o->h'.get? b=some o)) E) F.called_set.init.plain F.entry_set_init (check_set_init_1 hT ?_)) fun r₂ s₂ hr₂=>?_
   ·have hT1:Shared.TypeIs { s with heap:=s.heap.push { cls:=.type "set",dict:=none,data:=.set #[] 0 (.fresh 0 0 led) } } (.ref l) T:=by
     obtain ⟨o,ho,hc⟩:=hT0
     exact ⟨o,Heap.get?_push_of_some _ ho,hc⟩
    unfold Builtin.«set.__init__» noKeywords Builtin.Frozenset.updateFrom
    generalize hPI:pyIter=PI
    wp_walk
    subst hPI
    refine hit _ _ _ (by simp) (fun b o e=>Heap.get?_push_of_some _ e) (fun it fp wr St P h2 W st nf hw kp hP=>?_) (by rw [Heap.size_push]; exact Nat.lt_succ_self _)
    refine wpAny_bind (wpAny_runValue ?_)
    have hS2:=(kp _ _ hS).1
    refine Zjn (W _ (by simp)) nf hw s.heap (Heap.get?_none_of_le (Nat.le_refl _)) (fun b o e=>(kp b o (Heap.get?_push_of_some _ e)).2) ks rfl hP hn (by simp; omega) (ks.length-0) 0 ({ s with heap:=h2 }:Shared) [] (by omega) (Nat.zero_le _) (fun b o e=>(kp b o (Heap.get?_push_of_some _ e)).1) st ?_ (fun x=>by simp) (Nat.le_refl _) fun h' tk keys' a1 a2 a3=>?_
    ·refine ⟨_,#[],0,.fresh 0 0 led,hS2,⟨rfl,rfl,rfl⟩,rfl,?_,by simp [Al],List.nodup_nil,.inl rfl,(show 0*5 < 7*3 by decide),rfl,hled.elim fun x=>x.down,fun p hp=>by cases hp⟩
     exact ⟨rfl,rfl,by simp [Ris,SetTable.fresh],by simp [SetTable.fresh],Zod,(show 0<=7 by decide),(show 7 % 2=1 by decide),fun i h1=>absurd h1 (Nat.not_lt_zero _)⟩
    ·show wpAny _ _ _ _ _ _
     refine wpAny_pure ?_
     show wpAny _ _ (ret Value.none) _ _ _
     exact wpAny_pure ⟨rfl,h',tk,keys',rfl,a1,a2,a3⟩
   ·cases r₂ with
    | error e=>exact hr₂
    | ok fl₂=>
     cases fl₂ with
     | ret r=>
      obtain ⟨rfl,h',tk,keys,rfl,hS',hm',hk'⟩:=hr₂
      repeat (any_goals (first | assumption | wp_step))
      exact h _ _ keys hS' hm' hk'
     | _=>exact hr₂.elim
  | _=>exact hr.elim
end
noncomputable def WH:List (List Int)->List (List Int)
 | []=>[]
 | k::r=>if k∈r then WH r else k::WH r
theorem mem_nubI:∀ {ks:List (List Int)} {x:List Int},x∈WH ks ↔ x∈ks
 | [],x=>by simp [WH]
 | k::r,x=>by
  unfold WH
  by_cases c:k∈r
  ·rw [if_pos c,mem_nubI,List.mem_cons]
   exact ⟨.inr,fun z=>z.elim (fun e=>e ▸ c) id⟩
  ·rw [if_neg c,List.mem_cons,List.mem_cons,mem_nubI]
theorem Wr:∀ (ks:List (List Int)),(WH ks).Nodup
 | []=>List.nodup_nil
 | k::r=>by
  unfold WH
  by_cases c:k∈r
  ·rw [if_pos c]; exact Wr r
  ·rw [if_neg c]; exact List.nodup_cons.mpr ⟨fun z=>c (mem_nubI.mp z),Wr r⟩
theorem ZcR {α:Type} [DecidableEq α]:∀ {l m:List α},l.Nodup->(∀ x∈l,x∈m)->l.length<=m.length
 | [],m,_,_=>Nat.zero_le _
 | x::l,m,nd,h=>by
  obtain ⟨h1,h2⟩:=List.nodup_cons.mp nd
  have hm:=h x List.mem_cons_self
  have:=ZcR (l:=l) (m:=m.erase x) h2 fun y hy=>(List.mem_erase_of_ne (fun (e:y=x)=>h1 (by rw [<-e]; exact hy))).mpr (h y (List.mem_cons_of_mem _ hy))
  rw [List.length_erase_of_mem hm] at this
  have:0 < m.length:=List.length_pos_of_mem hm
  simp; omega
theorem ZhN {l m:List (List Int)} (h1:l.Nodup) (h2:m.Nodup) (h:∀ x,x∈l ↔ x∈m):l.length=m.length:=
 Nat.le_antisymm (ZcR h1 fun x hx=>(h x).mp hx) (ZcR h2 fun x hx=>(h x).mpr hx)
noncomputable def VV:List D->Option (List (List Int))
 | []=>some []
 | .tup ys::r=>(U7 ys).bind fun k=>(VV r).map (k::·)
 | _::_=>none
theorem Ws:∀ {xs:List D} {ks:List (List Int)} {i:Nat} {k:List Int},VV xs=some ks->ks[i]?=some k->xs[i]?=some (.tup (k.map .int))
 | [],ks,i,k,h,e=>by cases h; simp at e
 | d::xs,ks,i,k,h,e=>by
  cases d with
  | tup ys=>
   obtain ⟨k0,h1,h2⟩:=bind_some (show (U7 ys).bind (fun k=>(VV xs).map (k::·))=some ks from h)
   obtain ⟨ks',h3,rfl⟩:=map_some h2
   cases i with
   | zero=>simp at e; subst e; simp [Zak h1]
   | succ i=>simpa using Ws h3 (by simpa using e)
  | _=>cases h
theorem Zb2:∀ {xs:List D} {ks:List (List Int)},VV xs=some ks->ks.length=xs.length
 | [],ks,h=>by cases h; rfl
 | d::xs,ks,h=>by
  cases d with
  | tup ys=>
   obtain ⟨k0,h1,h2⟩:=bind_some (show (U7 ys).bind (fun k=>(VV xs).map (k::·))=some ks from h)
   obtain ⟨ks',h3,rfl⟩:=map_some h2
   simp [Zb2 h3]
  | _=>cases h
noncomputable def WA:D->Option D:=fun d=>(Qx d).bind fun xs=>(VV xs).bind fun ks=>if ks.length<=70 then some (.int (WH ks).length) else none
section
variable {X:Cx} {pins:List (Addr×Obj)} {σ:L2.St} {H:Hp} {s:Shared} {F:Fz}
theorem VW:∀ {vs:List Value} {ns:List Int},IntsAre vs ns->ItemsAre (intKind X.prog X.w) ns vs
 | _,_,.nil=>.nil
 | _,_,.cons n t h=>.cons (intKind_is _ _ _ _) (VW h)
theorem ZoS (I:Inv X pins σ H s) {k:List Int} {x:V} {v:Value} (r:Rep X.K F H (.tup (k.map .int)) x) (rv:RelV x v):∃ b,v=.ref b/\TK X.prog X.w s.heap k b:=by
 unfold Rep at r
 obtain ⟨a,vs,rfl,h1,l1⟩:=r
 cases rv
 obtain ⟨its,rv,p,_⟩:=I.tuple h1
 obtain ⟨o,ho,hc,n,hd⟩:=p
 exact ⟨a,rfl,o,its.toArray,n,ho,hc,hd,by simpa using VW (J8 l1 rv)⟩
theorem Zlm {A:Around} (hh:A.handled=none) (hu:A.units+8 < cLine) (I:Inv X pins σ H s) {d:D} {xs:List D} {ks:List (List Int)} {x:V} {v:Value} {Q:Value->Shared->Prop} {E:Value->Shared->Prop} (hs:Qx d=some xs) (hk:VV xs=some ks) (hn:ks.length<=70)
  (r:Rep X.K F H d x) (rv:RelV x v) (q:∀ (h':Heap) (tk:Nat) keys,SetI (fun b=>∃ (j:Nat) (dd:D) (ff:Nat),xs[j]?=some dd/\Rep X.K F H dd (.ref b)) X.prog X.w h' s.heap.objs.size keys->(∀ x,x∈keys ↔ x∈ks)->(∀ b o,s.heap.get? b=some o->h'.get? b=some o)->Q (.ref s.heap.objs.size) { s with heap:=h',toks:=tk }) :
  wpAny (model X.prog X.w) A (call (.type "set") [v]) Q E s:=by
 obtain ⟨a,vs,rfl,hq,hr⟩:=ZeE hs r
 cases rv
 have keyP:∀ {its:List Value},Vals vs its->∀ (i:Nat) v k,its[i]?=some v->ks[i]?=some k->∃ b,v=.ref b/\TK X.prog X.w s.heap k b/\∃ (j:Nat) (dd:D) (ff:Nat),xs[j]?=some dd/\Rep X.K F H dd (.ref b):=fun {its} rv i v k hv hki=>by
  obtain ⟨x,ex,rx⟩:=hr.get (Ws hk hki)
  obtain ⟨u,eu,ru⟩:=rv.get ex
  rw [hv] at eu; cases eu
  obtain ⟨b,e1,e2⟩:=ZoS I rx ru
  have rx':=rx
  unfold Rep at rx'
  obtain ⟨a',vs',e3,_⟩:=rx'
  subst e3
  cases ru
  cases e1
  exact ⟨_,rfl,e2,i,_,0,Ws hk hki,rx⟩
 have hlen:∀ {its:List Value},Vals vs its->ks.length=its.length:=fun rv=>by rw [Zb2 hk,hr.length,rv.length]
 rcases hq with hq | hq
 ·obtain ⟨its,rv,p,hz⟩:=I.list hq
  have hl:=p.isList
  have hlt:a < s.heap.objs.size:=by obtain ⟨_,e,_⟩:=hl; exact Heap.lt_size e
  refine Zfm hl.typeIs PySem.F.sub_list_set PySem.F.sub_list_frozenset (by decide) hn hu (fun A' s1 Q' hA kp q' hsz=>?_) q
  have hl1:s1.heap.IsList a its.toArray:=hl.at fun o e=>kp a o e
  refine wpAny_pyIter_list hl1 ?_
  refine q' s1.heap.objs.size [s1.heap.objs.size,a] [s1.heap.objs.size] (fun i h=>h.IsListIter s1.heap.objs.size a i/\h.IsList a its.toArray) (fun i v=>its.toArray[i]?=some v) _ (fun A'' hA''=>?_) ⟨⟨_,Heap.get?_push_size _ rfl,rfl,rfl⟩,hl1.push _⟩ ?_ (fun i h st x hx=>?_) (fun b o e=>⟨Heap.get?_push_of_some _ e,fun hb=>?_⟩) (fun i v k hv hki=>keyP rv i v k (by simpa using hv) hki)
  ·have:=Walks.list (prog:=X.prog) (w:=X.w) (A:=A'') (hA''.trans hh) s1.heap.objs.size a (Nat.ne_of_lt (Nat.lt_trans hlt hsz)) its.toArray
   have z:its.toArray.size=ks.length:=by rw [hlen rv]; simp
   rw [z] at this
   exact this
  ·intro hb
   rcases List.mem_cons.mp hb with z | hb
   ·exact absurd z (Nat.ne_of_lt hsz)
   ·rw [List.mem_singleton] at hb; exact absurd hb (Nat.ne_of_gt hlt)
  ·rw [List.mem_singleton] at hx; subst hx
   obtain ⟨⟨o,h1,h2,h3⟩,_⟩:=st
   exact ⟨o,_,h1,h3⟩
  ·rw [List.mem_singleton] at hb; subst hb; exact absurd (Heap.lt_size e) (Nat.lt_irrefl _)
 ·obtain ⟨its,rv,p,hz⟩:=I.tuple hq
  have hl:s.heap.IsTuple a its.toArray:=p
  have hlt:a < s.heap.objs.size:=by obtain ⟨_,e,_⟩:=hl; exact Heap.lt_size e
  refine Zfm p.typeIs PySem.F.sub_tuple_set PySem.F.sub_tuple_frozenset (by decide) hn hu (fun A' s1 Q' hA kp q' hsz=>?_) q
  have hl1:s1.heap.IsTuple a its.toArray:=hl.at fun o e=>kp a o e
  refine wpAny_pyIter_tuple hl1 ?_
  refine q' s1.heap.objs.size [s1.heap.objs.size,a] [s1.heap.objs.size] (fun i h=>h.IsTupleIter s1.heap.objs.size a i/\h.IsTuple a its.toArray) (fun i v=>its.toArray[i]?=some v) _ (fun A'' hA''=>?_) ⟨⟨_,Heap.get?_push_size _ rfl,rfl,rfl⟩,hl1.push _⟩ ?_ (fun i h st x hx=>?_) (fun b o e=>⟨Heap.get?_push_of_some _ e,fun hb=>?_⟩) (fun i v k hv hki=>keyP rv i v k (by simpa using hv) hki)
  ·have:=Walks.tuple (prog:=X.prog) (w:=X.w) (A:=A'') (hA''.trans hh) s1.heap.objs.size a (Nat.ne_of_lt (Nat.lt_trans hlt hsz)) its.toArray
   have z:its.toArray.size=ks.length:=by rw [hlen rv]; simp
   rw [z] at this
   exact this
  ·intro hb
   rcases List.mem_cons.mp hb with z | hb
   ·exact absurd z (Nat.ne_of_lt hsz)
   ·rw [List.mem_singleton] at hb; exact absurd hb (Nat.ne_of_gt hlt)
  ·rw [List.mem_singleton] at hx; subst hx
   obtain ⟨⟨o,h1,h2,h3⟩,_⟩:=st
   exact ⟨o,_,h1,h3⟩
  ·rw [List.mem_singleton] at hb; subst hb; exact absurd (Heap.lt_size e) (Nat.lt_irrefl _)
theorem ZdU {e:Expr} {f:DE} {p1 p2 p3 p4:Pos} (hc:X.calm=true) (hu:X.A.units+64 < cLine) (hgl:Gl X "len") (hml:X.mg "len"=none) (hgs:Gl X "set") (hms:X.mg "set"=none) (he:ED X e f)
  (hst:starEach [e] X.env=[(false,eval e X.env)]:=by rfl) (hst2:starEach [Expr.Call (.Name "set" p2) [e] [] p3] X.env=[(false,eval (.Call (.Name "set" p2) [e] [] p3) X.env)]:=by rfl) :
  ED X (.Call (.Name "len" p1) [.Call (.Name "set" p2) [e] [] p3] [] p4) (Jc WA f):=by
 intro pins s σ H Q I h
 obtain ⟨ρ,F0,H0,F,d,ok,ed,q⟩:=h
 obtain ⟨x,ex,ed⟩:=bind_some ed
 obtain ⟨xs,es,ed⟩:=bind_some ed
 obtain ⟨ks,ek,ed⟩:=bind_some ed
 obtain ⟨hn,rfl⟩:=Ys ed
 refine wpAny_Call_Name_kw (Vc I hgl hml PySem.boot_len (PyProof.Rows.callWith_builtin1 ?_ (by rw [hst2]; rfl) (by rfl)) (by decide) (by decide))
 rw [hst2]
 show wpAny _ _ (spliced ((false,eval (.Call (.Name "set" p2) [e] [] p3) X.env)::[])) _ _ s
 refine Calls.spliced_cons (wpAny_Call_Name_kw (Vc I hgs hms PyProof.Rows.boot_set (PyProof.Rows.callWith_type1 ?_ (by rw [hst]; rfl) (by rfl)) (by decide) (by decide)))
 rw [hst]
 show wpAny _ _ (spliced ((false,eval e X.env)::[])) _ _ s
 refine Calls.spliced_cons (thn (he pins s σ H (fun v H'=>∃ F',Grow F H F' H'/\Rep X.K F' H' x v) I ⟨ρ,F0,H0,F,x,ok,ex,fun v F' H' g r=>⟨F',g,r⟩⟩) fun u s1 ⟨v,H1,I1,r1,F1,g1,rx⟩=>Calls.spliced_nil ?_)
 refine Zlm (A:=X.A) (I1.ok.hd hc) (by omega) I1 es ek hn rx r1 fun h' tk keys hS hm kp=>Calls.spliced_nil ?_
 obtain ⟨o,ens,ep,t,h1,h2,h3,h4,h5,h6,h7,h8⟩:=hS
 have hlen:ens.size=(WH ks).length:=by
  have e1:keys.length=ens.size:=h5.length
  rw [<-e1]
  exact ZhN h6 (Wr ks) fun y=>by rw [hm y,mem_nubI]
 have hroom:=h4.room
 have hmk:t.mask<=127:=by rcases h7 with z | z | z <;> omega
 refine call_len_set (s:={ s1 with heap:=h',toks:=tk }) h1 h2 h3 (by have z1:=h4.size; have z2:=h4.dm; simp [SetTable.fits,SetTable.fill,z1,z2,hroom]) (by omega) ?_
 rw [hlen]
 exact ⟨.int _,H1,I1.kept (t':=_) kp,⟨_,rfl⟩,q _ F1 H1 g1 (Yl _)⟩
end
end L3
namespace L3
open PySem PySem.Spec PyProof.Rows L2
noncomputable def tyD:D->String
 | .non=>"NoneType"
 | .bl _=>"bool"
 | .int _=>"int"
 | .str _=>"str"
 | .tup _=>"tuple"
 | .lst _=>"list"
inductive Ty where
 | int | bool | tuple | str | list
noncomputable def Ty.nm:Ty->String
 | .int=>"int"
 | .bool=>"bool"
 | .tuple=>"tuple"
 | .str=>"str"
 | .list=>"list"
noncomputable def Zp5:Ty->D->Bool
 | .int,.int _=>true
 | .int,.bl _=>true
 | .bool,.bl _=>true
 | .tuple,.tup _=>true
 | .str,.str _=>true
 | .list,.lst _=>true
 | _,_=>false
theorem ZnY (K:Frag) (T:Ty) (d:D):kitOne K (.type (tyD d)) (.type T.nm)=some (Zp5 T d):=by
 cases T <;> cases d <;> rfl
noncomputable def W7 (T:Ty) (d:D):Option D:=some (.bl (Zp5 T d))
section
variable {X:Cx} {pins:List (Addr×Obj)} {σ:L2.St} {H:Hp} {s:Shared} {F:Fz} {pos:Pos} {e:Expr} {f:DE}
theorem Zn9 {A:Around} {E:Value->Shared->Prop} {Q:Value->Shared->Prop} {c:Value} {b:Bool} (I:Inv X pins σ H s) {d:D} {x:V} {u:Value} (r:Rep X.K F H d x) (rx:RelV x u) (e:kitOne X.K (.type (tyD d)) c=some b) (h:∀ tk,Q (.bool b) { s with toks:=tk }) :
  wpAny (model X.prog X.w) A (call (.builtin "isinstance") [u,c]) Q E s:=by
 cases d with
 | non=>unfold Rep at r; subst r; exact VX I rx .non e h
 | bl y=>unfold Rep at r; subst r; exact VX I rx (.bl y) e h
 | int y=>unfold Rep at r; subst r; exact VX I rx (.int y) e h
 | str y=>unfold Rep at r; subst r; exact VX I rx (.str y) e h
 | tup ds=>
  unfold Rep at r
  obtain ⟨a,vs,rfl,hq,_⟩:=r
  cases rx
  obtain ⟨its,_,⟨o,h1,h2,_⟩,_⟩:=I.tuple hq
  exact kia_one PySem.W.kitx_tuple I.kIn ⟨o,h1,h2⟩ e (fun z=>nomatch z) h
 | lst ds=>
  unfold Rep at r
  obtain ⟨a,vs,rfl,_,hq,_⟩:=r
  cases rx
  obtain ⟨its,_,p,_⟩:=I.list hq
  obtain ⟨o,h1,h2,_⟩:=p.isList
  exact kia_one PySem.W.kitx_list I.kIn ⟨o,h1,h2⟩ e (fun z=>nomatch z) h
theorem WP {T:Ty} {x:Str} {p1 p2:Pos} (hg:Gl X "isinstance") (hm:X.mg "isinstance"=none) (hgx:Gl X x) (hmx:X.mg x=none) (hv:bootBuiltins x=some (.type T.nm)) (he:ED X e f)
  (hn:x≠"__name__":=by decide) (hd:(x==("__debug__":Str))=false:=by decide) (hst:starEach [e,Expr.Name x p2] X.env=[(false,eval e X.env),(false,eval (.Name x p2) X.env)]:=by rfl)
  (hst2:starEach [Expr.Name x p2] X.env=[(false,eval (.Name x p2) X.env)]:=by rfl) :
  ED X (.Call (.Name "isinstance" p1) [e,.Name x p2] [] pos) (Jc (W7 T) f):=by
 intro pins s σ H Q I h
 obtain ⟨ρ,F0,H0,F,d,ok,ed,q⟩:=h
 obtain ⟨y,ey,ed⟩:=bind_some ed
 cases ed
 refine wpAny_Call_Name_kw (Vc I hg hm PyProof.Rows.boot_isinstance (PyProof.Rows.callWith_builtin1 ?_ (by rw [hst,hst2]) (by rw [hst2]; rfl)) (by decide) (by decide))
 rw [hst]
 show wpAny _ _ (spliced ((false,eval e X.env)::(false,eval (.Name x p2) X.env)::[])) _ _ s
 refine Calls.spliced_cons (thn (he pins s σ H (fun v H'=>∃ F',Grow F H F' H'/\Rep X.K F' H' y v) I ⟨ρ,F0,H0,F,y,ok,ey,fun v F' H' g r=>⟨F',g,r⟩⟩) fun u s1 zq=>?_)
 obtain ⟨v,H1,I1,r1,F1,g1,rx⟩:=zq
 refine Calls.spliced_cons ?_
 refine Vc I1 hgx hmx hv (Calls.spliced_nil ?_) hn hd
 exact Zn9 I1 rx r1 (ZnY X.K T y) fun tk=>⟨.bl _,H1,I1.tok tk,rfl,q _ F1 H1 g1 (Uz _)⟩
noncomputable def Zrk:List D->Option D
 | [.int i]=>some (.int (if i < 0 then -i else i))
 | _=>none
noncomputable def Za7:List D->Option D
 | [.int i]=>some (.int i)
 | [.bl b]=>some (.int (if b then 1 else 0))
 | _=>none
theorem Zmp:Zaa X (.type "int") Za7:=by
 intro pins s σ H vs us Q I r h
 obtain ⟨xs,F,d,r1,e,q⟩:=h
 unfold Za7 at e
 split at e
 ·rename_i i
  cases e
  obtain ⟨v,rfl,h1⟩:=J5 r1
  unfold Rep at h1
  subst h1
  exact Zd4 pins s σ H _ us Q I r (.inl ⟨i,rfl,q _ F H .refl (Yl _)⟩)
 ·rename_i b
  cases e
  obtain ⟨v,rfl,h1⟩:=J5 r1
  unfold Rep at h1
  subst h1
  exact Zd4 pins s σ H _ us Q I r (.inr ⟨b,rfl,q _ F H .refl (Yl _)⟩)
 ·cases e
noncomputable def ZmG:D->Option D
 | .non=>some (.bl true)
 | _=>some (.bl false)
theorem Zl4 {K:Frag} {d:D} {v:V} (r:Rep K F H d v):(decide (v=.non):Bool)=(match d with | .non=>true | _=>false):=by
 cases d with
 | non=>unfold Rep at r; subst r; rfl
 | bl y=>unfold Rep at r; subst r; rfl
 | int y=>unfold Rep at r; subst r; rfl
 | str y=>unfold Rep at r; subst r; rfl
 | tup ds=>unfold Rep at r; obtain ⟨a,vs,rfl,_⟩:=r; rfl
 | lst ds=>unfold Rep at r; obtain ⟨a,vs,rfl,_⟩:=r; rfl
theorem ZkS {j} {p2:Pos} (he:ED X e f):ED X (.Compare e [.Is] [.Constant .none j p2] pos) (Jc ZmG f):=PE.imp (Znx (Zny he)) fun σ H Q zq=>by
 obtain ⟨ρ,F0,H0,F,d,ok,ed,q⟩:=zq
 obtain ⟨y,ey,ed⟩:=bind_some ed
 refine ⟨ρ,F0,H0,F,y,ok,ey,fun v F1 H1 g1 r1=>?_⟩
 show Q (V.bl (decide (v=V.non))) H1
 rw [Zl4 r1]
 refine q _ F1 H1 g1 ?_
 cases y <;> (cases ed; exact Uz _)
end
noncomputable def Yd (P:Program) (w:World) (K:Frag) (mg:Str->Option Value) (base:Heap) (x:Str) (k:Nat) (ps:List Str) (fn:List D->Option D):Prop:=
 ∃ f fd,FnD P w K mg base k f fd ps fn/\mg x=some (.ref f)/\keepIn K (.ref f)=true/\Binds K fd ps []
section
variable {X:Cx} {pos:Pos}
theorem Zo {x:Str} {k k':Nat} {ps:List Str} {fn:List D->Option D} {p:Pos} {e:Expr} {es:List Expr} {as:DA} (F:Yd X.prog X.w X.K X.mg X.base x k ps fn) (hr:Room k' X.A) (hk:k<=k') (hg:Gl X x)
  (ha:AD X (e::es) as) (hdb:(x==("__debug__":Str))=false:=by decide) (he:starEach (e::es) X.env=(false,eval e X.env)::starEach es X.env:=by rfl) (hpl:(backTo pos (starEach es X.env)).any (·.1)=false:=by rfl) :
  ED X (.Call (.Name x p) (e::es) [] pos) (dFn ps.length fn as):=by
 obtain ⟨f,fd,h1,h2,h3,h4⟩:=F
 exact Zpz h1 (hr.mono hk) hg h2 h3 h4 ha hdb he hpl
noncomputable def Zor (sc scope:Scope):Bool:=
 scope.kind==.function&&scope.names.all (fun y=>y.2 != .cell)&&scope.names.all (fun y=>y.2 != .local||scope.names.lookup y.1==some .local) &&
  scope.names.all fun y=>y.2 != .free||(sc.names.lookup y.1==some .cell||sc.names.lookup y.1==some .free)
theorem Qb {sc scope:Scope} (h:X.env.scope=sc) (c:Zor sc scope=true):CompScope X scope:=by
 unfold Zor at c
 simp only [Bool.and_eq_true,List.all_eq_true] at c
 obtain ⟨⟨⟨c1,c2⟩,c3⟩,c4⟩:=c
 refine ⟨eq_of_beq c1,fun y hy e=>?_,fun y hy e=>?_,fun y hy e=>?_⟩
 ·have:=c2 y hy; rw [e] at this; cases this
 ·have:=c3 y hy
  rw [e] at this
  exact eq_of_beq (by simpa using this)
 ·have:=c4 y hy
  rw [e] at this
  have:(sc.names.lookup y.1==some .cell||sc.names.lookup y.1==some .free)=true:=by simpa using this
  rw [<-h] at this
  rcases Bool.or_eq_true_iff.mp this with z | z
  ·exact .inl (eq_of_beq z)
  ·exact .inr (eq_of_beq z)
noncomputable def ZpS (sc scope:Scope):List (Str×NameKind):=scope.names.map fun (n,k)=>if (k==.free&&sc.kind==.function&&sc.names.lookup n==some .cell) then (n,.cell) else (n,k)
noncomputable def Zos (sc scope:Scope) (XN N:List Str) (caps:List (Option Nat)):Bool:=
 caps.length==N.length&&(List.range caps.length).all fun i=>match caps[i]?,N[i]? with
  | some (some j),some x=>XN[j]?==some x&&(sc.names.lookup x==some .cell||sc.names.lookup x==some .free)&&(ZpS sc scope).lookup x != some .local
  | _,_=>true
theorem Qc {sc scope:Scope} {XN N:List Str} {caps:List (Option Nat)} (h:X.env.scope=sc) (hN:X.N=XN) (c:Zos sc scope XN N caps=true):ZmK X N scope caps:=by
 unfold Zos at c
 rw [Bool.and_eq_true,List.all_eq_true] at c
 obtain ⟨c1,c2⟩:=c
 refine ⟨eq_of_beq c1,fun i j x e1 e2=>?_⟩
 have hi:i < caps.length:=(List.getElem?_eq_some_iff.mp e1).1
 have:=c2 i (List.mem_range.mpr hi)
 rw [e1,e2] at this
 simp only [Bool.and_eq_true] at this
 obtain ⟨⟨d1,d2⟩,d3⟩:=this
 subst h hN
 have hk:X.env.scope.names.lookup x=some .cell\/X.env.scope.names.lookup x=some .free:=by
  rcases Bool.or_eq_true_iff.mp d2 with z | z
  ·exact .inl (eq_of_beq z)
  ·exact .inr (eq_of_beq z)
 refine ⟨eq_of_beq d1,.inr hk,fun z=>?_,fun z=>?_⟩
 ·have z:X.env.scope.names.lookup x=some .local:=z
  rcases hk with q | q <;> (rw [q] at z; cases z)
 ·have z':(ZpS X.env.scope scope).lookup x=some .local:=z
  rw [z'] at d3; simp at d3
end
structure Blt (mg:Str->Option Value):Prop where
 len:mg "len"=none
 range:mg "range"=none
 enumerate:mg "enumerate"=none
 min:mg "min"=none
 max:mg "max"=none
 abs:mg "abs"=none
 sum:mg "sum"=none
 any:mg "any"=none
 all:mg "all"=none
 set:mg "set"=none
 sorted:mg "sorted"=none
 tuple:mg "tuple"=none
 list:mg "list"=none
 int:mg "int"=none
 str:mg "str"=none
 bool:mg "bool"=none
 isinstance:mg "isinstance"=none
 reversed:mg "reversed"=none
section
variable {P:Program} {w:World} {K:Frag} {mg:Str->Option Value} {base:Heap}
theorem Q6 {x qual:Str} {st:Stmt} {f:Addr} {fd:FuncData} {N ps:List Str} {k n:Nat} {g:DS} {fn:List D->Option D} (F:Fun K x qual st f fd) (S:Zt N ps (Zi st)) (hn:N.length=n) (hf:fn=Zq n g)
  (hb:∀ (cdv:Value) (A:Around) (outer:List Env) (s:Shared) (H:Hp) (E:XK),Room k (A.deeper (envOfC qual (Zi st) s.heap.objs.size f cdv)) ->
   ∃ g',g'=g/\SDs (ZfR CX0 P w K mg base N qual (Zi st) f cdv A outer s H E).nox (Q7 st) g'):FnD P w K mg base (k+1) f fd ps fn:=by
 subst hn hf
 exact ZqV F S fun cdv A outer s H E hr=>by
  obtain ⟨g',rfl,h⟩:=hb cdv A outer s H E hr
  exact h
end
section
variable {X:Cx} {tg elt iter:Expr} {ifs:List Expr}
theorem ZlC {scope:Scope} {pos pos' spos:Pos} {N:List Str} {g:TG} {te:TE} {tt:TT} {wi:TI} {i:Nat} {x:Str} (S:CompScope X scope) (hc:X.calm=true) (hit:PI X tg iter wi)
  (hg:∀ C s3 H3 fp,PG (Z1 X N scope C s3 H3 fp) tg g) (hi:∀ C s3 H3 fp,PTs (Z1 X N scope C s3 H3 fp) ifs tt) (he:∀ C s3 H3 fp,PE (Z1 X N scope C s3 H3 fp) elt te)
  (hN:X.N.Nodup) (hx1:X.N[i]?=some x) (hx:Loc X.env.scope x) (hsw:swapsWith (.ListComp elt [⟨tg,iter,ifs,0⟩] scope pos) (some (.Name x pos')) spos.line X.env=pure true)
  (hf:X.fn x=true\/X.env.scope.names.lookup x=some .local) (hs:∀ x,foldedSetIterable iter X.env x=pure x) :
  PS X (.Assign [.Name x pos'] (.ListComp elt [⟨tg,iter,ifs,0⟩] scope pos) spos) (fun D σ H=>Zg1 X.K wi (Zap X N scope σ g tt te) σ H fun v H'=>D.nx (σ.set i (some v)) H'):=by
 intro pins s σ H D I h
 rw [exec_Assign_Name_used _ _ _ _ hsw]
 refine wpAny_bind (wpAny_standAt (wpAny_bind ?_))
 show wpAny _ X.A (do let _ <- comprehension (.ListComp elt [⟨tg,iter,ifs,0⟩] scope pos) scope X.env _ (newList []) false (eval iter X.env) (some (assign (.Name x pos') X.env))) _ _ s
 refine wpAny_bind (wpAny_mono (wpAny_comprehension_free (use:=some (assign (.Name x pos') X.env)) (Q:=fun _ s'=>SP X pins D .next s') rfl hs (Ue (S.cells I.ok)) S.kind S.loc
  (wpAny_mono (hit pins s σ H _ I h) (fun xv s₁ h₁=>wpAny_mono h₁ (fun itv s₂ h₂=>?_) fun _ _ z=>z) fun _ _ z=>z)) (fun _ s' hq=>wpAny_pure (wpAny_pure hq)) fun _ _ z=>z)
 obtain ⟨it,fp,tn,J,H2,rfl,I2,T,st2,f2,hb⟩:=h₂
 refine ZfS (Q:=fun v H'=>D.nx (σ.set i (some v)) H') (RR:=fun acc C=>compPost (model X.prog X.w) X.A X.xe (some (assign (.Name x pos') X.env)) (fun _ s'=>SP X pins D .next s') acc C) (wi:=wi) S hc I2 T st2 f2 hg hi he hb ?_
 intro Dl C H' s' m hI hC hn q
 have I':Inv X pins σ H' s':=hI s'.heap (Heap.SameBut.refl _ _)
 show wpAny _ X.A (assign (.Name x pos') X.env (.ref Dl)) _ _ s'
 obtain ⟨oC,es,ep,hoC,r⟩:=id hn
 have hdC:∀ v,oC.data≠.cell v:=fun v z=>by
  obtain ⟨r1,_⟩:=r
  rw [z] at r1; cases r1
 have I1:=I'.pinned (fp:=[C]) (fun b hb=>by rw [List.mem_singleton] at hb; subst hb; exact hC) fun b hb=>by
  rw [List.mem_singleton] at hb; subst hb; exact ⟨oC,hoC,hdC⟩
 refine wpAny_assign_Name (Zae I1 hN hx1 hx (v:=.ref Dl) rfl (fun s2 J2=>?_) hf)
 have pC:s2.heap.get? C=some oC:=(J2.pin (C,oC) (List.mem_append_right _ (List.mem_append_right _ (QW (by simp) hoC)))).1
 refine ⟨m,⟨oC,es,ep,pC,r⟩,fun h' sb=>⟨_,H',?_,q⟩⟩
 have J3:=J2.unpinned
 obtain ⟨c1,c2,c3,c4,c5,c6⟩:=hC
 exact J3.turned (t':=s2.toks) (it:=C) (fun b o hb e=>(sb.2 b hb).trans e) c1 c2 c4 c5 c6
theorem Zhf {scope:Scope} {pos pos' spos:Pos} {N:List Str} {caps:List (Option Nat)} {b:DG} {t:DT} {f:DE} {it:DI} {i:Nat} {x:Str} (hN:X.N.Nodup) (hx1:X.N[i]?=some x) (hx:Loc X.env.scope x)
  (S:CompScope X scope) (C:ZmK X N scope caps) (hc:X.calm=true) (hit:ID X tg iter it) (hno:Zbj b)
  (hg:∀ C s3 H3 fp,GD (Z1 X N scope C s3 H3 fp) tg b) (hi:∀ C s3 H3 fp,TDs (Z1 X N scope C s3 H3 fp) ifs t) (he:∀ C s3 H3 fp,ED (Z1 X N scope C s3 H3 fp) elt f)
  (hsw:swapsWith (.ListComp elt [⟨tg,iter,ifs,0⟩] scope pos) (some (.Name x pos')) spos.line X.env=pure true:=by rfl)
  (hf:X.fn x=true\/X.env.scope.names.lookup x=some .local:=by first | exact .inl rfl | exact .inr rfl | assumption) (hs:∀ x,foldedSetIterable iter X.env x=pure x:=by intro _; rfl) :
  SD X (.Assign [.Name x pos'] (.ListComp elt [⟨tg,iter,ifs,0⟩] scope pos) spos) (ZM i (YH caps it b t f)):=
 PS.imp (ZlC (N:=N) (g:=rdG X.K b) (tt:=rdT X.K t) (te:=rd X.K f) S hc hit hg hi he hN hx1 hx hsw hf hs) fun E σ H zq=>by
  obtain ⟨ρ,F0,H0,F,o,ok,e,k⟩:=zq
  obtain ⟨d,ed,rfl⟩:=map_some e
  exact Zhp C hno ⟨ρ,F0,H0,F,d,ok,ed,fun v F' H' g r=>k _ F' H' g.ext ((ok.grow g).set r)⟩
end
theorem ZnW {K:Frag} {H:Hp} {a:Addr} {ns:List Int} {fn:List D->Option D} {n:Nat} {E:XK} (hl:ns.length<=n) (hS:SqL K H a (ns.map V.int)) (h:∀ ns:List Int,fn [.lst (ns.map .int)]=some (.bl true)):spD K 1 fn [.ref a] H (fun v _=>v=.bl true) E:=by
 refine ⟨[.lst (ns.map .int)],fun b=>b=a,.bl true,rfl,.cons ?_ .nil,fun b hb=>?_,h ns,fun w F' H' _ r=>by unfold Rep at r; exact r⟩
 ·unfold Rep
  refine ⟨a,_,rfl,rfl,hS,?_⟩
  generalize ns=l
  induction l with
  | nil=>exact .nil
  | cons k l ih=>exact .cons (Yl _) ih
 ·subst hb
  rcases hS with (h | ⟨o,h⟩) | ⟨o,_,_,h,_⟩
  ·exact .inl (by rw [h]; simp)
  ·exact .inl (by rw [h]; simp)
  ·exact .inr ⟨o,h⟩
noncomputable def GlobK (K:Frag) (x:Str) (d:D):Prop:=∃ a od i j t u n sl,nsIn K mainGlobals x=some (some (.ref a))/\K.lookup a=some ⟨.type "tuple",od,.seq #[.int i t,.int j u] n,sl⟩/\d=.tup [.int i,.int j]
section
variable {prog:Program} {w:World} {A:Around} {E:Value->Shared->Prop} {s:Shared}
end
section
variable {X:Cx} {pos:Pos} {tg l:Expr} {f:DE}
end
noncomputable def OkD (P:Program) (w:World) (K:Frag) (mg:Str->Option Value) (base:Heap) (n:Str) (st:Stmt) (k:Nat) (ps:List Str) (fn:List D->Option D):Prop:=∀ {f:Addr} {fd:FuncData},Fun K n n st f fd->FnD P w K mg base k f fd ps fn
noncomputable def Df (K:Frag) (n:Str) (st:Stmt):Prop:=∃ f fd,nsIn K mainGlobals n=some (some (.ref f))/\Fun K n n st f fd/\keepIn K (.ref f)=true
theorem Df.mk {K:Frag} {n:Str} {st:Stmt} {f:Addr} {oc kV dc pm cd ct:Value} {od an:Option Addr} {sl:Array (Option Value)} (a:nsIn K mainGlobals n=some (some (.ref f))) (l:K.lookup f=some ⟨oc,od,.func (fnOf n n (VD st) (Q7 st) (Zi st) .none kV dc pm an cd ct),sl⟩)
  (e:PySem.W.codeIn K cd n=true) (k:keepIn K (.ref f)=true):Df K n st:=⟨f,_,a,Zoc l e k,k⟩
section
variable {P:Program} {w:World} {K:Frag} {mg:Str->Option Value} {base h:Heap} {n:Str} {st:Stmt} {k:Nat} {ps:List Str} {fn:List D->Option D}
theorem dk (X:K.In h) (G:h.Ns mainGlobals mg) (a:Df K n st) (o:OkD P w K mg base n st k ps fn)
  (hb:∀ (kV doc pm:Value) (an:Option Addr) (cdv ct:Value) (us:List Value),us.length=ps.length->bindArgs (fnOf n n (VD st) (Q7 st) (Zi st) .none kV doc pm an cdv ct) ⟨us,[]⟩=pure (ps.zip us)):Yd P w K mg base n k ps fn:=by
 obtain ⟨f,fd,a1,F,a2⟩:=a
 exact ⟨f,fd,o F,mg_of X G a1,a2,F.binds hb⟩
end
end L3
namespace L3
open PySem PySem.Spec PyProof.Rows L2 SetTab PySem.SetTable
section
variable {prog:Program} {w:World} {A:Around} {E:Value->Shared->Prop} {s:Shared} {it S:Addr} {o:Obj} {es:Array (Int×Value)} {ep:Nat} {t:SetTable}
end
section
variable {prog:Program} {w:World} {A:Around} {s:Shared} {R:Result->Shared->Prop} {it S x:Addr} {fp wr:List Addr} {n:Nat} {P:Nat->Value->Prop} {St:Nat->Heap->Prop}
end
section
variable {prog:Program} {w:World} {A:Around} {E:Value->Shared->Prop} {s:Shared} {it S:Addr} {o:Obj} {es:Array (Int×Value)} {ep:Nat} {t:SetTable}
end
end L3
namespace So
open PySem PySem.W PyProof.Rows
noncomputable def run (c:Nat->Nat->Bool) {α:Type}:KasT α->α
 | .ret a=>a
 | .ask i j k=>run c (k (c i j))
variable {n:Nat} {c:Nat->Nat->Bool}
end So
namespace L3
open PySem PySem.Spec PyProof.Rows L2 SetTab PySem.SetTable PySem.W
section
variable {prog:Program} {w:World} {A:Around} {E:Value->Shared->Prop} {s:Shared} {Q:Bool->Shared->Prop}
end
section
variable {X:Cx} {pins:List (Addr×Obj)} {σ:L2.St} {H:Hp} {s:Shared} {F:Fz}
end
end L3
namespace L3
open PySem PySem.Spec PyProof.Rows L2
section
variable {X:Cx}
end
section
variable {X:Cx}
end
noncomputable def Zc4:DS:=fun _=>none
theorem VO {X:Cx} {e c:Option Expr} {pos:Pos}:SD X (.Raise e c pos) Zc4:=fun pins s σ H D I h=>by
 obtain ⟨ρ,F0,H0,F,o,ok,e,k⟩:=h
 cases e
section
variable {X:Cx} {pins:List (Addr×Obj)} {s:Shared} {σ:L2.St} {H:Hp}
noncomputable def Zmm:D->D->Option D
 | .int i,.int j=>YM (.int i) (.int j)
 | .tup a,.int j=>if j=2/\a≠[]/\a.length+a.length<=lim then some (.tup (a++a)) else none
 | _,_=>none
end
theorem Jg {es rest:List Expr} {x1} {pos:Pos} {env:Env}:starEach (.Tuple es x1 pos::rest) env=(false,eval (.Tuple es x1 pos) env)::starEach rest env:=rfl
end L3
namespace HT
open PySem PyProof.Rows
section
open PySem.SeqAt
open PySem.AutoSeq1 (wpAny_loadPart')
open PySem.MeetsSeq PySem.MeetsSeq2 PySem.MeetsSeq3
end
section
variable {prog:Program} {w:World} {A:Around} {E:Value->Shared->Prop} {s:Shared}
end
end HT
namespace L3
open PySem PySem.Spec PyProof.Rows L2
section
variable {X:Cx} {pins:List (Addr×Obj)} {σ:L2.St} {H:Hp} {s:Shared} {F:Fz}
end
end L3
set_option maxHeartbeats 8000000
namespace Pl
open PySem PySem.Spec PyProof.Rows L2 L3
noncomputable def ZkO:DS:=(ZT (Ze QH (Ze YM (Ze QH (Ze dIx (Zd 1) (Zg (.int 0))) (Ze dIx (Zd 0) (Zg (.int 0)))) (Ze QH (Ze dIx (Zd 2) (Zg (.int 1))) (Ze dIx (Zd 0) (Zg (.int 1))))) (Ze YM (Ze QH (Ze dIx (Zd 1) (Zg (.int 1))) (Ze dIx (Zd 0) (Zg (.int 1)))) (Ze QH (Ze dIx (Zd 2) (Zg (.int 0))) (Ze dIx (Zd 0) (Zg (.int 0)))))))
noncomputable def Vi:List D->Option D:=Zq 3 ZkO
noncomputable def WI:DS:=(ZT (Ze dGt (dFn 3 Vi (Zb (Zd 0) (Zb (Zd 1) (Zb (Zd 2) Zk)))) (Zg (.int 0))))
noncomputable def YS:List D->Option D:=Zq 3 WI
noncomputable def Ve:DS:=(ZT (Q8 dLe dLe (Zv ZgC (Zb (Zd 0) (Zb (Zd 1) Zk))) (Zd 2) (Zv ZdX (Zb (Zd 0) (Zb (Zd 1) Zk)))))
noncomputable def YI:List D->Option D:=Zq 3 Ve
noncomputable def ZdL:DS:=(Zp (ZM 2 (Ze dIx (Zd 0) (Zg (.int 0))))
 (Zp (ZM 3 (Ze dIx (Zd 0) (Zg (.int 1))))
 (Zp (ZY (Zn (Ze QI (dFn 3 Vi (Zb (Zd 2) (Zb (Zd 3) (Zb (Zd 1) Zk)))) (Zg (.int 0)))) (ZT (Zg (.bl false))) ZA)
 (ZT (Za9 (dFn 3 YI (Zb (Ze dIx (Zd 2) (Zg (.int 0))) (Zb (Ze dIx (Zd 3) (Zg (.int 0))) (Zb (Ze dIx (Zd 1) (Zg (.int 0))) Zk)))) (dFn 3 YI (Zb (Ze dIx (Zd 2) (Zg (.int 1))) (Zb (Ze dIx (Zd 3) (Zg (.int 1))) (Zb (Ze dIx (Zd 1) (Zg (.int 1))) Zk)))))))))
noncomputable def QG:List D->Option D:=Zq 4 ZdL
noncomputable def Zb6:DS:=(ZT (YH [none,some 0] (ZbC (Zv Qs (Zb (Zd 0) Zk))) (Zz 0) ZH (Qr (Zb (Ze dIx (Zd 1) (Ze QH (Zd 0) (Zg (.int 1)))) (Zb (Ze dIx (Zd 1) (Zd 0)) Zk)))))
noncomputable def QX:List D->Option D:=Zq 1 Zb6
noncomputable def JA:DS:=(Zp (ZY (Zn (Ze dLt (Zd 1) (Zv Qs (Zb (Zd 0) Zk)))) (ZT (Ze dIx (Zd 0) (Zd 1))) ZA)
 (ZT (Zg (.int 0))))
noncomputable def YJ:List D->Option D:=Zq 2 JA
noncomputable def WL:DS:=(Zp (ZM 2 (Ze Yu (Ze YM (Ze ZE (Ze ZE (dFn 2 YJ (Zb (Zd 0) (Zb (Zd 1) Zk))) (Ze YM (Zg (.int 7919)) (Zd 1))) (Zg (.int 1))) (Zg (.int 48271))) (Zg (.int 2147483647))))
 (ZT (Ze Yu (Ze ZE (Ze ZE (Ze YM (Zd 2) (Zd 2)) (Ze YM (Zg (.int 7)) (Zd 2))) (Zd 1)) (Zg (.int 2147483629)))))
noncomputable def ZS:List D->Option D:=Zq 3 WL
noncomputable def WM:DS:=(Zp (ZM 2 (Ze Yu (Ze YM (Ze ZE (Ze ZE (Zd 0) (Ze YM (Zg (.int 104729)) (Zd 1))) (Zg (.int 17))) (Zg (.int 69621))) (Zg (.int 2147483647))))
 (ZT (Ze Yu (Ze ZE (Ze ZE (Ze YM (Zd 2) (Zd 2)) (Ze YM (Zg (.int 3)) (Zd 2))) (Zd 1)) (Zg (.int 2147483629)))))
noncomputable def Zw:List D->Option D:=Zq 3 WM
noncomputable def V1:DS:=(ZT (Za9 (Jc (W7 .int) (Zd 0)) (Za9 (ZoJ (Jc (W7 .bool) (Zd 0))) (Q8 dLe dLe (Zd 1) (Zd 0) (Zd 2)))))
noncomputable def Y0:List D->Option D:=Zq 3 V1
noncomputable def ZeV:DS:=(ZT (Ze QH (Ze YM (Ze QH (Ze dIx (Zd 1) (Zg (.int 0))) (Ze dIx (Zd 0) (Zg (.int 0)))) (Ze QH (Ze dIx (Zd 2) (Zg (.int 1))) (Ze dIx (Zd 0) (Zg (.int 1))))) (Ze YM (Ze QH (Ze dIx (Zd 1) (Zg (.int 1))) (Ze dIx (Zd 0) (Zg (.int 1)))) (Ze QH (Ze dIx (Zd 2) (Zg (.int 0))) (Ze dIx (Zd 0) (Zg (.int 0)))))))
noncomputable def Z3:List D->Option D:=Zq 3 ZeV
noncomputable def ZdM:DS:=(Zp (ZY (Zn (Ze QI (dFn 3 Z3 (Zb (Zd 0) (Zb (Zd 1) (Zb (Zd 2) Zk)))) (Zg (.int 0)))) (ZT (Zg (.bl false))) ZA)
 (ZT (Za9 (Q8 dLe dLe (Zv ZgC (Zb (Ze dIx (Zd 0) (Zg (.int 0))) (Zb (Ze dIx (Zd 1) (Zg (.int 0))) Zk))) (Ze dIx (Zd 2) (Zg (.int 0))) (Zv ZdX (Zb (Ze dIx (Zd 0) (Zg (.int 0))) (Zb (Ze dIx (Zd 1) (Zg (.int 0))) Zk)))) (Q8 dLe dLe (Zv ZgC (Zb (Ze dIx (Zd 0) (Zg (.int 1))) (Zb (Ze dIx (Zd 1) (Zg (.int 1))) Zk))) (Ze dIx (Zd 2) (Zg (.int 1))) (Zv ZdX (Zb (Ze dIx (Zd 0) (Zg (.int 1))) (Zb (Ze dIx (Zd 1) (Zg (.int 1))) Zk)))))))
noncomputable def YG:List D->Option D:=Zq 3 ZdM
noncomputable def ZaZ:DS:=(ZT (Ze dIx (Zd 0) (Ze Yu (Ze ZE (Zd 1) (Zd 2)) (Zv Qs (Zb (Zd 0) Zk)))))
noncomputable def Zx:List D->Option D:=Zq 3 ZaZ
noncomputable def Za1:DS:=(Zp (ZM 1 (Zg (.int 0)))
 (Zp (V6 (JN (Zd 0)) (Y1 2 3) (Zp (ZM 4 (dFn 3 Zx (Zb (Zd 0) (Zb (Zd 2) (Zb (Zg (.int 1)) Zk)))))
 (ZM 1 (Ze QH (Ze ZE (Zd 1) (Ze YM (Ze dIx (Zd 3) (Zg (.int 0))) (Ze dIx (Zd 4) (Zg (.int 1))))) (Ze YM (Ze dIx (Zd 3) (Zg (.int 1))) (Ze dIx (Zd 4) (Zg (.int 0))))))))
 (ZT (Zd 1))))
noncomputable def YW:List D->Option D:=Zq 5 Za1
noncomputable def UJ:DS:=(Zp (ZM 1 (Zv UO (Zb (Zd 0) Zk)))
 (Zp (ZY (Zn (Ze dLt (dFn 1 YW (Zb (Zd 1) Zk)) (Zg (.int 0)))) (ZM 1 (Zml (Zd 1))) ZA)
 (Zp (ZM 2 (Ze ZgD (Zd 1) (Zv ZdW (Zb (Zd 1) Zk))))
 (ZT (Zv Yo (Zb (Ze ZE (dSl (Zd 1) (ZN (Zd 2)) Z2) (dSl (Zd 1) Z2 (ZN (Zd 2)))) Zk))))))
noncomputable def Ye:List D->Option D:=Zq 3 UJ
noncomputable def Za0:DS:=(Zp (ZY (Wf (Zn (dFn 3 YG (Zb (Zd 0) (Zb (Zd 1) (Zb (Zd 2) Zk))))) (Wf (Zn (dFn 3 YG (Zb (Zd 0) (Zb (Zd 1) (Zb (Zd 3) Zk))))) (Wf (Zn (dFn 3 YG (Zb (Zd 2) (Zb (Zd 3) (Zb (Zd 0) Zk))))) (Zn (dFn 3 YG (Zb (Zd 2) (Zb (Zd 3) (Zb (Zd 1) Zk)))))))) (ZT (Zg (.bl true))) ZA)
 (Zp (ZY (Zn (Ze dGe (Ze YM (dFn 3 Z3 (Zb (Zd 0) (Zb (Zd 1) (Zb (Zd 2) Zk)))) (dFn 3 Z3 (Zb (Zd 0) (Zb (Zd 1) (Zb (Zd 3) Zk))))) (Zg (.int 0)))) (ZT (Zg (.bl false))) ZA)
 (ZT (Ze dLt (Ze YM (dFn 3 Z3 (Zb (Zd 2) (Zb (Zd 3) (Zb (Zd 0) Zk)))) (dFn 3 Z3 (Zb (Zd 2) (Zb (Zd 3) (Zb (Zd 1) Zk))))) (Zg (.int 0))))))
noncomputable def YU:List D->Option D:=Zq 4 Za0
noncomputable def WJ:DS:=(Zp (Zc3 1 Zk)
 (Zp (V6 (JN (Zd 0)) (Y1 2 3) (ZmH 1 (dFn 3 Z3 (Zb (Zd 3) (Zb (dFn 3 Zx (Zb (Zd 0) (Zb (Zd 2) (Zb (Zg (.int 1)) Zk)))) (Zb (dFn 3 Zx (Zb (Zd 0) (Zb (Zd 2) (Zb (Zg (.int 2)) Zk)))) Zk))))))
 (ZoI 1 (ZT (Zd 1)))))
noncomputable def Qg:List D->Option D:=Zq 4 WJ
noncomputable def Vg:DS:=(Zp (ZM 1 (Zv Qs (Zb (Zd 0) Zk)))
 (Zp (ZY (Wf (Zn (Ze dLt (Jc WA (Zd 0)) (Zd 1))) (Zn (Ze ZfQ (Zg (.int 0)) (dFn 1 Qg (Zb (Zd 0) Zk))))) (ZT (Zg (.bl false))) ZA)
 (Zp (V6 (ZbC (Zd 1)) (Zz 2) (V6 (Zh6 (Ze ZE (Zd 2) (Zg (.int 2))) (Zd 1)) (Zz 3) (ZY (Zn (Ze QI (Ze Yu (Ze ZE (Zd 3) (Zg (.int 1))) (Zd 1)) (Zd 2))) (Zp (ZM 4 (Ze dIx (Zd 0) (Zd 3)))
 (Zp (ZM 5 (dFn 3 Zx (Zb (Zd 0) (Zb (Zd 3) (Zb (Zg (.int 1)) Zk)))))
 (ZY (Zn (dFn 4 YU (Zb (Ze dIx (Zd 0) (Zd 2)) (Zb (dFn 3 Zx (Zb (Zd 0) (Zb (Zd 2) (Zb (Zg (.int 1)) Zk)))) (Zb (Zd 4) (Zb (Zd 5) Zk)))))) (ZT (Zg (.bl false))) ZA))) ZA)))
 (ZT (Zg (.bl true))))))
noncomputable def Yn:List D->Option D:=Zq 6 Vg
noncomputable def WK:DS:=(ZT (YH [none,some 1,some 0] (ZbC (Zd 2)) (Zz 0) ZH (Qr (Zb (Ze Yu (dFn 2 Zw (Zb (Zd 2) (Zb (Ze YM (Zg (.int 2)) (Zd 0)) Zk))) (Zd 1)) (Zb (Ze Yu (dFn 2 Zw (Zb (Zd 2) (Zb (Ze ZE (Ze YM (Zg (.int 2)) (Zd 0)) (Zg (.int 1))) Zk))) (Zd 1)) Zk)))))
noncomputable def Ya:List D->Option D:=Zq 3 WK
noncomputable def Zb7:DS:=(Zp (ZM 2 (Ze ZE (Zg (.int 1)) (Ze Yu (Zd 0) (Zg (.int 5)))))
 (Zp (ZM 3 (Ze ZE (Zg (.int 1)) (Ze Yu (Ze Qu (Zd 0) (Zg (.int 5))) (Zg (.int 5)))))
 (Zp (ZM 4 (Ze ZE (Zg (.int 1)) (Zv ZdX (Zb (Zd 2) (Zb (Zd 3) Zk)))))
 (Zp (ZM 5 (Ze ZE (Ze ZE (Wz (Zb (Qr (Zb (Zg (.int 0)) (Zb (Zg (.int 0)) Zk))) Zk)) (YH [none,some 1,some 0] (ZbC (Zd 2)) (Zz 0) ZH (Qr (Zb (Ze ZE (Zg (.int 1)) (Zd 0)) (Zb (Ze QH (Jc Zce (Zg (.int 1))) (Ze Yu (dFn 2 Zw (Zb (Zd 2) (Zb (Zd 0) Zk))) (Zd 1))) Zk))))) (Wz (Zb (Qr (Zb (Zd 4) (Zb (Zg (.int 0)) Zk))) Zk))))
 (Zp (ZM 5 (Ze ZE (Zd 5) (YH [none,some 4,some 1,some 0] (ZbC (Zd 3)) (Zz 0) ZH (Qr (Zb (Ze QH (Ze QH (Zd 1) (Zg (.int 1))) (Zd 0)) (Zb (Ze ZE (Zg (.int 1)) (Ze Yu (dFn 2 Zw (Zb (Zd 3) (Zb (Ze ZE (Zg (.int 9)) (Zd 0)) Zk))) (Zd 2))) Zk))))))
 (Zp (ZM 6 (Wz Zk))
 (Zp (Jf (Zn (Ze QI (Zv Qs (Zb (Zd 6) Zk)) (Zv Qs (Zb (Zd 5) Zk)))) (Zp (ZM 6 (Zd 5))
 (ZM 5 (YH [none,none,some 6] (JN (Zd 6)) (Y1 0 1) (Zn (Ze QI (dFn 3 Z3 (Zb (Ze dIx (Zd 2) (Ze QH (Zd 0) (Zg (.int 1)))) (Zb (Zd 1) (Zb (dFn 3 Zx (Zb (Zd 2) (Zb (Zd 0) (Zb (Zg (.int 1)) Zk)))) Zk)))) (Zg (.int 0)))) (Zd 1)))) 3000)
 (ZT (Zd 5)))))))))
noncomputable def QY:List D->Option D:=Zq 7 Zb7
noncomputable def ZaY:DS:=(Zp (ZM 2 (dFn 3 Ya (Zb (Ze Qu (Zd 0) (Zg (.int 2))) (Zb (Zd 1) (Zb (Ze ZE (Zg (.int 3)) (Ze Yu (Ze Qu (Zd 0) (Zg (.int 2))) (Zg (.int 5)))) Zk)))))
 (Zp (ZY (Wf (Zn (Ze U4 (Ze Yu (Zd 0) (Zg (.int 2))) (Zg (.int 1)))) (Yk (Zn (dFn 1 Yn (Zb (Zd 2) Zk))))) (ZM 2 (dFn 2 QY (Zb (Ze Qu (Zd 0) (Zg (.int 2))) (Zb (Zd 1) Zk)))) ZA)
 (Zp (ZM 3 (Ze Qu (Ze YM (Ze Yu (Ze Qu (Zd 0) (Zg (.int 512))) (Zg (.int 3))) (Zd 1)) (Zg (.int 4))))
 (ZT (dFn 1 Ye (Zb (YH [none,none,some 3] (YR (Zd 2)) (Y1 0 1) ZH (Qr (Zb (Ze QH (Zd 0) (Zd 2)) (Zb (Zd 1) Zk)))) Zk))))))
noncomputable def Y9:List D->Option D:=Zq 4 ZaY
noncomputable def VY:DS:=(ZT (Ze dLt (dFn 3 Vi (Zb (Zd 0) (Zb (Zd 1) (Zb (Zd 2) Zk)))) (Zg (.int 0))))
noncomputable def YZ:List D->Option D:=Zq 3 VY
noncomputable def UI:DS:=(Zp (ZY (Zn (dFn 3 YS (Zb (Zd 0) (Zb (Zd 1) (Zb (Zd 2) Zk))))) (ZT (dFn 3 YZ (Zb (Zd 0) (Zb (Zd 1) (Zb (Zd 3) Zk))))) ZA)
 (ZT (Za9 (dFn 3 YZ (Zb (Zd 0) (Zb (Zd 1) (Zb (Zd 2) Zk)))) (dFn 3 YS (Zb (Zd 0) (Zb (Zd 1) (Zb (Zd 3) Zk)))))))
noncomputable def YT:List D->Option D:=Zq 4 UI
noncomputable def Qf:DS:=(Zp (ZY (Wf (Zn (dFn 2 QG (Zb (Zd 0) (Zb (Ze dIx (Zd 1) (Zg (.int 0))) Zk)))) (Zn (dFn 2 QG (Zb (Zd 0) (Zb (Ze dIx (Zd 1) (Zg (.int 1))) Zk))))) (ZT (Zg (.bl true))) ZA)
 (Zp (ZY (Wf (Zn (dFn 2 QG (Zb (Zd 1) (Zb (Ze dIx (Zd 0) (Zg (.int 0))) Zk)))) (Zn (dFn 2 QG (Zb (Zd 1) (Zb (Ze dIx (Zd 0) (Zg (.int 1))) Zk))))) (ZT (Zg (.bl true))) ZA)
 (ZT (Za9 (dFn 4 YT (Zb (Ze dIx (Zd 0) (Zg (.int 0))) (Zb (Ze dIx (Zd 0) (Zg (.int 1))) (Zb (Ze dIx (Zd 1) (Zg (.int 0))) (Zb (Ze dIx (Zd 1) (Zg (.int 1))) Zk))))) (dFn 4 YT (Zb (Ze dIx (Zd 1) (Zg (.int 0))) (Zb (Ze dIx (Zd 1) (Zg (.int 1))) (Zb (Ze dIx (Zd 0) (Zg (.int 0))) (Zb (Ze dIx (Zd 0) (Zg (.int 1))) Zk)))))))))
noncomputable def ZL:List D->Option D:=Zq 2 Qf
noncomputable def Zgu:DS:=(ZT (Za9 (Jc (W7 .int) (Zd 0)) (ZoJ (Jc (W7 .bool) (Zd 0)))))
noncomputable def U2:List D->Option D:=Zq 1 Zgu
noncomputable def Wu:DS:=(ZT (Za9 (dFn 1 U2 (Zb (Zd 0) Zk)) (Q8 dLe dLe (Jc Zce (Zg (.int 100))) (Zd 0) (Zg (.int 100)))))
noncomputable def Qy:List D->Option D:=Zq 1 Wu
noncomputable def ZaX:DS:=(ZT (Za9 (Jc (W7 .tuple) (Zd 0)) (Za9 (Ze U4 (Zv Qs (Zb (Zd 0) Zk)) (Zg (.int 2))) (Za9 (dFn 1 Qy (Zb (Ze dIx (Zd 0) (Zg (.int 0))) Zk)) (dFn 1 Qy (Zb (Ze dIx (Zd 0) (Zg (.int 1))) Zk))))))
noncomputable def YE:List D->Option D:=Zq 1 ZaX
noncomputable def Qp:DS:=(Zp (V6 (YR (Zd 0)) (Zz 1) (ZY (Yk (Zn (dFn 1 YE (Zb (Zd 1) Zk)))) (ZT (Zg (.bl false))) ZA))
 (ZT (Ze U4 (Jc WA (Zd 0)) (Zv Qs (Zb (Zd 0) Zk)))))
noncomputable def ZJ:List D->Option D:=Zq 2 Qp
noncomputable def YK:DS:=(Zp (ZY (Yk (Zn (Jc (W7 .tuple) (Zd 0)))) (ZT (Zg (.bl false))) ZA)
 (ZT (Za9 (Q8 dLe dLe (Zg (.int 3)) (Zv Qs (Zb (Zd 0) Zk)) (Zg (.int 12))) (dFn 1 ZJ (Zb (Zd 0) Zk)))))
noncomputable def ZD:List D->Option D:=Zq 1 YK
noncomputable def JO:DS:=(ZT (YH [none,some 0] (ZbC (Zv Qs (Zb (Zd 0) Zk))) (Zz 0) ZH (dFn 3 Vi (Zb (Ze dIx (Zd 1) (Ze QH (Zd 0) (Zg (.int 2)))) (Zb (Ze dIx (Zd 1) (Ze QH (Zd 0) (Zg (.int 1)))) (Zb (Ze dIx (Zd 1) (Zd 0)) Zk))))))
noncomputable def Yt:List D->Option D:=Zq 1 JO
noncomputable def QQ:DS:=(ZT (dOr (Ze ZfQ (Ze dIx (Zd 0) (Zg (.int 0))) (Zd 1)) (Ze ZfQ (Ze dIx (Zd 0) (Zg (.int 1))) (Zd 1))))
noncomputable def Zu:List D->Option D:=Zq 2 QQ
noncomputable def Ji:DS:=(Zp (ZM 1 (dFn 1 QX (Zb (Zd 0) Zk)))
 (Zp (V6 (JN (Zd 1)) (Y1 2 3) (V6 (YR (dSl (Zd 1) Z2 (ZN (Zd 2)))) (Zz 4) (ZY (Jn (Yk (Zn (dFn 2 Zu (Zb (Zd 3) (Zb (Zd 4) Zk))))) (Zn (dFn 2 ZL (Zb (Zd 3) (Zb (Zd 4) Zk))))) (ZT (Zg (.bl false))) ZA)))
 (ZT (Zg (.bl true)))))
noncomputable def Yi:List D->Option D:=Zq 5 Ji
noncomputable def Uh:DS:=(ZT (dFn 3 YS (Zb (Ze dIx (Zd 0) (Jc Zce (Zg (.int 1)))) (Zb (Ze dIx (Zd 0) (Zg (.int 0))) (Zb (Ze dIx (Zd 0) (Zg (.int 1))) Zk)))))
noncomputable def YF:List D->Option D:=Zq 1 Uh
noncomputable def QD:DS:=(Zp (ZY (Wf (Yk (Zn (dFn 1 ZD (Zb (Zd 0) Zk)))) (Zn (Ze QI (Ze dIx (Zd 0) (Zg (.int 0))) (Zv ZdW (Zb (Zd 0) Zk))))) (ZT (Zg (.bl false))) ZA)
 (Zp (ZY (Zn (Ze ZfQ (Zg (.int 0)) (dFn 1 Yt (Zb (Zd 0) Zk)))) (ZT (Zg (.bl false))) ZA)
 (ZT (Za9 (dFn 1 YF (Zb (Zd 0) Zk)) (dFn 1 Yi (Zb (Zd 0) Zk))))))
noncomputable def Z0:List D->Option D:=Zq 1 QD
noncomputable def Jz:DS:=(Zp (ZY (Wf (Yk (Zn (Jc (W7 .tuple) (Zd 0)))) (Zn (Ze QI (Zv Qs (Zb (Zd 0) Zk)) (Zg (.int 2))))) (ZT (Zg (.bl false))) ZA)
 (ZT (Za9 (dFn 3 Y0 (Zb (Ze dIx (Zd 0) (Zg (.int 0))) (Zb (Jc Zce (Zg (.int 100))) (Zb (Zg (.int 100)) Zk)))) (dFn 3 Y0 (Zb (Ze dIx (Zd 0) (Zg (.int 1))) (Zb (Jc Zce (Zg (.int 100))) (Zb (Zg (.int 100)) Zk)))))))
noncomputable def Ym:List D->Option D:=Zq 1 Jz
noncomputable def Y6:DS:=(Zp (ZY (Wf (Yk (Zn (Jc (W7 .tuple) (Zd 0)))) (Yk (Zn (Q8 dLe dLe (Zg (.int 3)) (Zv Qs (Zb (Zd 0) Zk)) (Zg (.int 12)))))) (ZT (Zg (.bl false))) ZA)
 (Zp (ZY (Zn (Ze QI (YH [none] (YR (Zd 0)) (Zz 0) (Yk (Zn (dFn 1 Ym (Zb (Zd 0) Zk)))) (Zd 0)) (Wz Zk))) (ZT (Zg (.bl false))) ZA)
 (ZT (Za9 (dFn 1 Yn (Zb (Zd 0) Zk)) (Za9 (Ze dGt (dFn 1 YW (Zb (Zd 0) Zk)) (Zg (.int 0))) (Ze U4 (Ze dIx (Zd 0) (Zg (.int 0))) (Zv ZdW (Zb (Zd 0) Zk))))))))
noncomputable def Zy:List D->Option D:=Zq 1 Y6
noncomputable def Zgv:DS:=(Zp (ZM 1 (Wz (Zb (Jc Zce (Zg (.int 1))) (Zb (Zg (.int 0)) (Zb (Zg (.int 1)) (Zb (Zg (.int 101)) (Zb (Jc Zce (Zg (.int 101))) (Zb (Zg (.bl true)) (Zb (Zg (.bl false)) (Zb (Zg .non) (Zb (Zg (.str (Str.ofString ""))) (Zb (Zg (.str (Str.ofString "0"))) (Zb (Qr Zk) (Zb (Wz Zk) (Zb (Qr (Zb (Zg (.int 0)) Zk)) (Zb (Qr (Zb (Zg (.int 0)) (Zb (Zg (.int 1)) Zk))) (Zb (Qr (Zb (Zg (.int 1)) (Zb (Zg (.int 1)) Zk))) (Zb (Qr (Zb (Zg (.int 0)) (Zb (Zg (.int 101)) Zk))) (Zb (Qr (Zb (Zg (.bl true)) (Zb (Zg (.int 0)) Zk))) (Zb (Wz (Zb (Zg (.int 0)) (Zb (Zg (.int 1)) Zk))) Zk))))))))))))))))))))
 (ZT (Ze dIx (Ze ZE (Zd 1) (Wz (Zb (Qr (Zb (Zg (.int 0)) (Zb (Zg .non) Zk))) (Zb (Qr (Zb (Qr (Zb (Zg (.int 0)) (Zb (Zg (.int 0)) Zk))) Zk)) (Zb (Qr (Zb (Zg (.int 0)) (Zb (Zg (.int 0)) (Zb (Zg (.int 0)) Zk)))) (Zb (Zg (.int 2)) (Zb (Qr (Zb (Jc Zce (Zg (.int 1))) (Zb (Zg (.int 5)) Zk))) (Zb (Qr (Zb (Zg (.int 2)) (Zb (Zg (.int 2)) Zk))) (Zb (Qr (Zb (Zg (.str (Str.ofString "0"))) (Zb (Zg (.int 1)) Zk))) Zk))))))))) (Ze Yu (Zd 0) (Zg (.int 25))))))
noncomputable def Zcc:List D->Option D:=Zq 2 Zgv
noncomputable def J9 (fr:List D->Option D):DS:=(Zp (ZY (Jn (Zn (Ze dGt (Zd 2) (Zg (.int 0)))) (Jn (Zn (Jc (W7 .tuple) (Zd 0))) (Jn (Zn (Ze dGt (Zv Qs (Zb (Zd 0) Zk)) (Zg (.int 0)))) (Zn (Ze dGt (Ze Yu (Zd 1) (Zg (.int 6))) (Zg (.int 0))))))) (Zp (ZM 3 (Ze Yu (Ze Qu (Zd 1) (Zg (.int 6))) (Zv Qs (Zb (Zd 0) Zk))))
 (Zp (ZM 4 (dFn 3 fr (Zb (Ze dIx (Zd 0) (Zd 3)) (Zb (Ze Qu (Zd 1) (Zg (.int 72))) (Zb (Ze QH (Zd 2) (Zg (.int 1))) Zk)))))
 (ZT (Ze ZE (Ze ZE (dSl (Zd 0) Z2 (ZN (Zd 3))) (Qr (Zb (Zd 4) Zk))) (dSl (Zd 0) (ZN (Ze ZE (Zd 3) (Zg (.int 1)))) Z2))))) ZA)
 (Zp (ZY (Jn (Zn (Jc (W7 .tuple) (Zd 0))) (Jn (Zn (Ze dGt (Zv Qs (Zb (Zd 0) Zk)) (Zg (.int 0)))) (Zn (Ze U4 (Ze Yu (Ze Qu (Zd 1) (Zg (.int 6))) (Zg (.int 2))) (Zg (.int 0)))))) (Zp (ZM 5 (Wz (Zb (Zv UO (Zb (Zd 0) Zk)) (Zb (dSl (Zd 0) Z2 (ZN (Jc Zce (Zg (.int 1))))) (Zb (Ze ZE (Zd 0) (dSl (Zd 0) (ZN (Jc Zce (Zg (.int 1)))) Z2)) (Zb (Ze ZE (dSl (Zd 0) (ZN (Zg (.int 1))) Z2) (dSl (Zd 0) Z2 (ZN (Zg (.int 1))))) (Zb (Zml (Zd 0)) (Zb (Ze Zmm (Zd 0) (Zg (.int 2))) Zk))))))))
 (ZT (Ze dIx (Zd 5) (Ze Yu (Ze Qu (Zd 1) (Zg (.int 12))) (Zg (.int 6)))))) ZA)
 (Zp (ZY (Jn (Zn (Jc (W7 .int) (Zd 0))) (Zn (Ze U4 (Ze Yu (Ze Qu (Zd 1) (Zg (.int 6))) (Zg (.int 2))) (Zg (.int 0))))) (ZT (Ze dIx (Wz (Zb (Zv UN (Zb (Zd 0) Zk)) (Zb (Jc Zce (Zd 0)) (Zb (Ze ZE (Zd 0) (Zg (.int 1))) (Zb (Ze U4 (Zd 0) (Zg (.int 1))) (Zb (Ze ZE (Zd 0) (Zg (.int 97))) (Zb (Ze QH (Zd 0) (Zg (.int 1))) Zk))))))) (Ze Yu (Ze Qu (Zd 1) (Zg (.int 12))) (Zg (.int 6))))) ZA)
 (ZT (dFn 1 Zcc (Zb (Ze Qu (Zd 1) (Zg (.int 6))) Zk))))))
@[simp] theorem Zon (i:Nat) (ρ:Rho):Zd i ρ=(match ρ[i]? with | some (.val d)=>some d | _=>none):=rfl
@[simp] theorem Zop (d:D) (ρ:Rho):Zg d ρ=some d:=rfl
@[simp] theorem V5 (r:D->D->Option D) (f g:DE) (ρ:Rho):Ze r f g ρ=(f ρ).bind fun x=>(g ρ).bind fun y=>r x y:=by unfold Ze; rfl
@[simp] theorem Zqa (r:D->Option D) (f:DE) (ρ:Rho):Jc r f ρ=(f ρ).bind r:=rfl
@[simp] theorem ZiE (f:DE) (ρ:Rho):Zn f ρ=(f ρ).bind fun d=>match d with | .bl b=>some b | _=>none:=rfl
@[simp] theorem ZoK (r r':D->D->Option D) (f g h:DE) (ρ:Rho):Q8 r r' f g h ρ=(f ρ).bind fun x=>(g ρ).bind fun y=>(r x y).bind fun z=>match z with
 | .bl true=>(h ρ).bind fun u=>r' y u
 | .bl false=>some (.bl false)
 | _=>none:=rfl
@[simp] theorem ZkT (f g:DE) (ρ:Rho):Za9 f g ρ=(f ρ).bind fun x=>match x with | .bl true=>g ρ | .bl false=>some (.bl false) | _=>none:=rfl
@[simp] theorem ZqX (f g:DE) (ρ:Rho):dOr f g ρ=(f ρ).bind fun x=>match x with | .bl true=>some (.bl true) | .bl false=>g ρ | _=>none:=rfl
@[simp] theorem Zqb (f:DE) (ρ:Rho):ZoJ f ρ=(f ρ).bind fun x=>match x with | .bl k=>some (.bl (!k)) | _=>none:=rfl
@[simp] theorem ZoT (f g:DT) (ρ:Rho):Jn f g ρ=(f ρ).bind fun x=>match x with | true=>g ρ | false=>some false:=rfl
@[simp] theorem Zfi (f g:DT) (ρ:Rho):Wf f g ρ=(f ρ).bind fun x=>match x with | true=>some true | false=>g ρ:=rfl
@[simp] theorem Zlf (f:DT) (ρ:Rho):Yk f ρ=(f ρ).bind fun x=>some (!x):=rfl
@[simp] theorem Zjg (ρ:Rho):ZH ρ=some true:=rfl
@[simp] theorem Zqc (ρ:Rho):Zk ρ=some []:=rfl
@[simp] theorem VE (f:DE) (a:DA) (ρ:Rho):Zb f a ρ=(f ρ).bind fun x=>(a ρ).bind fun xs=>some (x::xs):=rfl
@[simp] theorem ZiD (as:DA) (ρ:Rho):Qr as ρ=(as ρ).bind fun xs=>if xs.length<=lim then some (.tup xs) else none:=by unfold Qr; rfl
@[simp] theorem Zoo (as:DA) (ρ:Rho):Wz as ρ=(as ρ).bind fun xs=>if xs.length<=lim then some (.lst xs) else none:=by unfold Wz; rfl
@[simp] theorem Ze0 (r:List D->Option D) (as:DA) (ρ:Rho):Zv r as ρ=(as ρ).bind r:=by unfold Zv; rfl
@[simp] theorem ZpD (n:Nat) (fn:List D->Option D) (as:DA) (ρ:Rho):dFn n fn as ρ=(as ρ).bind fun xs=>if xs.length=n then fn xs else none:=by unfold dFn; rfl
@[simp] theorem ZpC (ρ:Rho):ZA ρ=some (.nx ρ):=rfl
@[simp] theorem Zs (g g':DS) (ρ:Rho):Zp g g' ρ=(match g ρ with | some (.nx ρ1)=>g' ρ1 | r=>r):=by unfold Zp; rfl
@[simp] theorem WQ (f:DE) (ρ:Rho):ZT f ρ=(f ρ).map .rt:=by unfold ZT; rfl
@[simp] theorem Qj (t:DT) (g g':DS) (ρ:Rho):ZY t g g' ρ=(t ρ).bind fun b=>match b with | true=>g ρ | false=>g' ρ:=by unfold ZY; rfl
@[simp] theorem Qi (i:Nat) (f:DE) (ρ:Rho):ZM i f ρ=(f ρ).map fun d=>.nx (ρ.set i (.val d)):=by unfold ZM; rfl
@[simp] theorem UP (it:DI) (b:DG) (g:DS) (ρ:Rho):V6 it b g ρ=(it ρ).bind fun xs=>QM b g xs ρ:=by unfold V6; rfl
@[simp] theorem Zpp (f:DE) (ρ:Rho):YR f ρ=(f ρ).bind fun d=>match d with | .lst xs=>some xs | .tup xs=>some xs | _=>none:=rfl
@[simp] theorem Zn8 (f:DE) (ρ:Rho):ZbC f ρ=(f ρ).bind fun d=>match d with | .int j=>if Wn j then some (QC 0 j.toNat) else none | _=>none:=by unfold ZbC; rfl
@[simp] theorem Zp4 (f g:DE) (ρ:Rho):Zh6 f g ρ=(f ρ).bind fun d=>(g ρ).bind fun d'=>match d,d' with | .int i,.int j=>if Wn i&&Wn j then some (QC i (j-i).toNat) else none | _,_=>none:=by unfold Zh6; rfl
@[simp] theorem WB (caps:List (Option Nat)) (it:DI) (b:DG) (t:DT) (f:DE) (ρ:Rho):YH caps it b t f ρ=(it ρ).bind fun xs=>if xs.length<=lim then (Yh b t f xs (JE caps ρ)).map .lst else none:=by unfold YH; rfl
@[simp] theorem ZpB (f:DE) (l h:DO) (ρ:Rho):dSl f l h ρ=(f ρ).bind fun x=>(l ρ).bind fun lo=>(h ρ).bind fun hi=>Za6 lo hi x:=rfl
@[simp] theorem ZlT (ρ:Rho):Z2 ρ=some none:=rfl
@[simp] theorem ZlS (f:DE) (ρ:Rho):ZN f ρ=(f ρ).bind fun d=>match d with | .int i=>some (some i) | _=>none:=rfl
@[simp] theorem Zp9 (f:DE) (ρ:Rho):Zml f ρ=(f ρ).bind fun x=>match x with | .lst xs=>some (.lst xs.reverse) | .tup xs=>some (.tup xs.reverse) | _=>none:=rfl
@[simp] theorem Zmt (i:Nat) (d:D) (ρ:Rho):Zz i d ρ=some (ρ.set i (.val d)):=rfl
@[simp] theorem Zc9 (i j:Nat) (a b:D) (ρ:Rho):Y1 i j (.tup [a,b]) ρ=some ((ρ.set i (.val a)).set j (.val b)):=rfl
@[simp] theorem Zqr (i j:Int):QH (.int i) (.int j)=some (.int (i-j)):=rfl
@[simp] theorem Zou (i j:Int):ZE (.int i) (.int j)=some (.int (i+j)):=rfl
@[simp] theorem ZqD (i:Int):Zce (.int i)=some (.int (-i)):=rfl
@[simp] theorem ZqI (i j:Int):dLt (.int i) (.int j)=some (.bl (decide (i < j))):=rfl
@[simp] theorem Zp2 (i j:Int):dLe (.int i) (.int j)=some (.bl (decide (i<=j))):=rfl
@[simp] theorem Zrh (i j:Int):dGt (.int i) (.int j)=some (.bl (decide (j < i))):=rfl
@[simp] theorem Zri (i j:Int):dGe (.int i) (.int j)=some (.bl (decide (j<=i))):=rfl
theorem VA {i j:Int} (h:(-18446744073709551616 < i/\i < 18446744073709551616)\/(-18446744073709551616 < j/\j < 18446744073709551616)):YM (.int i) (.int j)=some (.int (i*j)):=by
 have:ZmI i j=true:=by
  unfold ZmI
  rcases h with ⟨a,b⟩ | ⟨a,b⟩
  ·rw [Bool.or_eq_true_iff]; left; simp; omega
  ·rw [Bool.or_eq_true_iff]; right; simp; omega
 show (if ZmI i j=true then _ else _)=_
 rw [if_pos this]
theorem Qq {i j:Int} (h:0 < j):Yu (.int i) (.int j)=some (.int (i % j)):=by
 show (if decide (0 < j)=true then _ else _)=_
 rw [if_pos (by simpa using h)]
theorem Wy {i j:Int} (h:0 < j) (h2:j < 1073741824):Qu (.int i) (.int j)=some (.int (i / j)):=by
 show (if (decide (0 < j)&&decide (j < 1073741824))=true then _ else _)=_
 rw [if_pos (by simp [h,h2])]
@[simp] theorem ZqN (a b:D):dIx (.tup [a,b]) (.int 0)=some a:=rfl
@[simp] theorem ZqM (a b:D):dIx (.tup [a,b]) (.int 1)=some b:=rfl
@[simp] theorem ZpX (i j:Int):ZgC [.int i,.int j]=some (.int (if j < i then j else i)):=rfl
@[simp] theorem ZpY (i j:Int):ZdX [.int i,.int j]=some (.int (if j > i then j else i)):=rfl
@[simp] theorem Zp0 (xs:List D):Qs [.lst xs]=some (.int xs.length):=rfl
@[simp] theorem ZpZ (xs:List D):Qs [.tup xs]=some (.int xs.length):=rfl
@[simp] theorem Zpy (i j:Int):U4 (.int i) (.int j)=some (.bl (decide (i=j))):=by
 show (if (okD (.int i)&&okD (.int j))=true then _ else _)=_
 rw [if_pos (by rfl)]
 congr 2
@[simp] theorem ZnL (i j:Int):QI (.int i) (.int j)=some (.bl (!decide (i=j))):=by
 show (if (okD (.int i)&&okD (.int j))=true then _ else _)=_
 rw [if_pos (by rfl)]
 congr 3
@[simp] theorem ZqH (i j:Bool):QI (.bl i) (.bl j)=some (.bl (i != j)):=by
 cases i <;> cases j <;> rfl
@[simp] theorem ZqW (i j:Bool):U4 (.bl i) (.bl j)=some (.bl (i==j)):=by
 cases i <;> cases j <;> rfl
noncomputable abbrev Pt:=Int×Int
noncomputable def pD (p:Pt):D:=.tup [.int p.1,.int p.2]
noncomputable def Sm (p:Pt):Prop:=(-1000000<=p.1/\p.1<=1000000)/\(-1000000<=p.2/\p.2<=1000000)
noncomputable def ZQ (a b c:Pt):Int:=(b.1-a.1)*(c.2-a.2)-(b.2-a.2)*(c.1-a.1)
theorem V2 {a b c:Pt} (ha:Sm a) (hb:Sm b) (hc:Sm c):Vi [pD a,pD b,pD c]=some (.int (ZQ a b c)):=by
 obtain ⟨⟨a1,a2⟩,a3,a4⟩:=ha
 obtain ⟨⟨b1,b2⟩,b3,b4⟩:=hb
 obtain ⟨⟨c1,c2⟩,c3,c4⟩:=hc
 have m1:=VA (i:=b.1-a.1) (j:=c.2-a.2) (.inl (by omega))
 have m2:=VA (i:=b.2-a.2) (j:=c.1-a.1) (.inl (by omega))
 simp [Vi,Zq,ZkO,pD,ZQ,m1,m2]
theorem Yy {a b c:Pt} (ha:Sm a) (hb:Sm b) (hc:Sm c):Z3 [pD a,pD b,pD c]=some (.int (ZQ a b c)):=V2 ha hb hc
noncomputable def Zms (i j n:Int):Bool:=decide ((if j < i then j else i)<=n)&&decide (n<=(if j > i then j else i))
@[simp] theorem W6 (i j n:Int):YI [.int i,.int j,.int n]=some (.bl (Zms i j n)):=by
 simp [YI,Zq,Ve,Zms]
 by_cases h:(if j < i then j else i)<=n
 ·simp [h]
 ·simp [h]
noncomputable def onZ (a b c:Pt):Bool:=decide (ZQ a b c=0)&&Zms a.1 b.1 c.1&&Zms a.2 b.2 c.2
@[simp] theorem Zrb (p:Pt):dIx (pD p) (.int 0)=some (.int p.1):=rfl
@[simp] theorem Zra (p:Pt):dIx (pD p) (.int 1)=some (.int p.2):=rfl
noncomputable def sD (s:Pt×Pt):D:=.tup [pD s.1,pD s.2]
@[simp] theorem Zq9 (s:Pt×Pt):dIx (sD s) (.int 0)=some (pD s.1):=rfl
@[simp] theorem Zq8 (s:Pt×Pt):dIx (sD s) (.int 1)=some (pD s.2):=rfl
theorem Ua {a b c:Pt} (ha:Sm a) (hb:Sm b) (hc:Sm c):QG [sD (a,b),pD c]=some (.bl (onZ a b c)):=by
 simp [QG,Zq,ZdL,V2 ha hb hc,W6,onZ]
 by_cases h:ZQ a b c=0
 ·simp [h]
  cases Zms a.1 b.1 c.1 <;> simp
 ·simp [h]
theorem Ub {a b c:Pt} (ha:Sm a) (hb:Sm b) (hc:Sm c):YG [pD a,pD b,pD c]=some (.bl (onZ a b c)):=by
 simp [YG,Zq,ZdM,Yy ha hb hc,onZ,Zms]
 by_cases h:ZQ a b c=0
 ·simp [h]
  by_cases h1:(if b.1 < a.1 then b.1 else a.1)<=c.1
  ·simp [h1]
   by_cases h2:c.1<=(if b.1 > a.1 then b.1 else a.1)
   ·simp [h2]
    by_cases h3:(if b.2 < a.2 then b.2 else a.2)<=c.2
    ·simp [h3]
    ·simp [h3]
   ·simp [h2]
  ·simp [h1]
 ·simp [h]
theorem YD {n:Nat} (h:n<=1000):n<=lim:=by unfold lim; omega
@[simp] theorem Zrg:(0<=lim)=True:=by simp
@[simp] theorem Zrf:(1<=lim)=True:=by rw [eq_true (YD (by omega))]
@[simp] theorem Zre:(2<=lim)=True:=by rw [eq_true (YD (by omega))]
@[simp] theorem ZqK:(0+1+1<=lim)=True:=by rw [eq_true (YD (by omega))]
@[simp] theorem Zrd:(3<=lim)=True:=by rw [eq_true (YD (by omega))]
@[simp] theorem ZqJ:(0+1+1+1<=lim)=True:=by rw [eq_true (YD (by omega))]
@[simp] theorem Zrc:(4<=lim)=True:=by rw [eq_true (YD (by omega))]
theorem Zcg {t:DT} {f:DE} {rest:Rho} {p:D->Bool} {g:D->D}:∀ {xs:List D} {s0:Sl},(∀ x∈xs,t (.val x::rest)=some (p x))->(∀ x∈xs,p x=true->f (.val x::rest)=some (g x)) ->
  Yh (Zz 0) t f xs (s0::rest)=some ((xs.filter p).map g)
 | [],s0,_,_=>rfl
 | x::xs,s0,ht,hf=>by
  have ih:=Zcg (xs:=xs) (s0:=.val x) (t:=t) (f:=f) (rest:=rest) (p:=p) (g:=g) (fun y hy=>ht y (List.mem_cons_of_mem _ hy)) (fun y hy=>hf y (List.mem_cons_of_mem _ hy))
  have h1:=ht x List.mem_cons_self
  have h2:=hf x List.mem_cons_self
  simp only [Yh,Zmt,List.set_cons_zero,Option.bind_some,h1]
  cases hp:p x with
  | true=>simp [h2 hp,ih,hp]
  | false=>simp [ih,hp]
theorem Ud {f:DE} {rest:Rho} {g:D->D} {xs:List D} {s0:Sl} (hf:∀ x∈xs,f (.val x::rest)=some (g x)):Yh (Zz 0) ZH f xs (s0::rest)=some (xs.map g):=by
 have:=Zcg (t:=ZH) (f:=f) (rest:=rest) (p:=fun _=>true) (g:=g) (xs:=xs) (s0:=s0) (fun _ _=>rfl) (fun x hx _=>hf x hx)
 rw [List.filter_eq_self.mpr (fun _ _=>rfl)] at this
 exact this
noncomputable def cyc (ps:List Pt) (i:Int):Pt:=ps[(i % (ps.length:Int)).toNat]?.getD (0,0)
theorem ZeS {n:Nat} {i:Int} (h1:-(n:Int)<=i) (h2:i < n):ixN n i=some (i % (n:Int)).toNat:=by
 unfold ixN
 by_cases h:0<=i
 ·rw [if_pos h,if_pos h2,Int.emod_eq_of_lt h h2]
 ·rw [if_neg h,if_pos h1]
  have:i % (n:Int)=i+n:=by
   rw [<-Int.add_emod_right]
   exact Int.emod_eq_of_lt (by omega) (by omega)
  rw [this]
theorem Ze4 {ps:List Pt} {i:Int} (h1:-(ps.length:Int)<=i) (h2:i < ps.length):atI (ps.map pD) i=some (pD (cyc ps i)):=by
 have hn:0 < (ps.length:Int):=by omega
 have k1:=Int.emod_nonneg i (show (ps.length:Int)≠0 by omega)
 have k2:=Int.emod_lt_of_pos i hn
 unfold atI cyc
 rw [List.length_map,ZeS h1 h2]
 have hl:(i % (ps.length:Int)).toNat < ps.length:=by omega
 simp [hl]
theorem Jx {ps:List Pt} {i:Int} (h1:-(ps.length:Int)<=i) (h2:i < ps.length):dIx (.tup (ps.map pD)) (.int i)=some (pD (cyc ps i)):=Ze4 h1 h2
theorem Zl3 {ps:List Pt} {i:Int} (h1:-(ps.length:Int)<=i) (h2:i < ps.length):dIx (.lst (ps.map pD)) (.int i)=some (pD (cyc ps i)):=Ze4 h1 h2
theorem UR (ps:List Pt) (i:Int):cyc ps (i % ps.length)=cyc ps i:=by unfold cyc; rw [Int.emod_emod]
theorem QO (ps:List Pt) (i:Int):cyc ps (i+ps.length)=cyc ps i:=by unfold cyc; rw [Int.add_emod_right]
theorem YX {ps:List Pt} (h:ps≠[]) (i:Int):cyc ps i∈ps:=by
 have hn:0 < (ps.length:Int):=by have:=List.length_pos_iff.mpr h; omega
 have k1:=Int.emod_nonneg i (show (ps.length:Int)≠0 by omega)
 have k2:=Int.emod_lt_of_pos i hn
 unfold cyc
 have hl:(i % (ps.length:Int)).toNat < ps.length:=by omega
 simp [hl]
theorem UQ {ps:List Pt} {k:Nat} (h:k < ps.length):cyc ps k=ps[k]:=by
 unfold cyc
 rw [Int.emod_eq_of_lt (by omega) (by omega)]
 simp [h]
theorem YO {n:Int} (h1:-1000000<=n) (h2:n<=1000000):Wn n=true:=by
 unfold Wn
 simp
 omega
noncomputable def All (P:Pt->Prop) (ps:List Pt):Prop:=∀ p∈ps,P p
noncomputable def Jo (ps:List Pt) (k:Int):Pt×Pt:=(cyc ps k,cyc ps (k+1))
noncomputable def Y4 (ps:List Pt):List (Pt×Pt):=(List.range ps.length).map fun (k:Nat)=>Jo ps ((k:Int)-1)
theorem Zah (lo:Int) (n:Nat):(QC lo n).length=n:=by simp [QC]
theorem Zjm {ps : List Pt} : Yh (Zz 0) ZH (Qr (Zb (Ze dIx (Zd 1) (Ze QH (Zd 0) (Zg (.int 1)))) (Zb (Ze dIx (Zd 1) (Zd 0)) Zk))) (QC 0 ps.length) (.no :: [.val (.tup (ps.map pD))]) =
      some ((QC 0 ps.length).map fun x => match x with | .int i => sD (Jo ps (i - 1)) | _ => .non) := by
    refine Ud fun x hx => ?_
    unfold QC at hx
    obtain ⟨k, hk, rfl⟩ := List.mem_map.mp hx
    have hk := List.mem_range.mp hk
    have e1 := Jx (ps := ps) (i := (0 + (k : Int)) - 1) (by omega) (by omega)
    have e2 := Jx (ps := ps) (i := (0 + (k : Int))) (by omega) (by omega)
    simp only [Int.zero_add] at e1 e2
    simp [e1, e2, sD, Jo]
theorem Zg9 {ps:List Pt} (h0:ps.length<=1000):Wn (ps.length:Int)=true:=YO (by omega) (by omega)
theorem Zha {ps:List Pt} (h0:ps.length<=1000):(QC 0 ps.length).length<=lim:=by rw [Zah]; exact YD h0
theorem ZdR {ps:List Pt} (h0:ps.length<=1000):QX [.tup (ps.map pD)]=some (.lst ((Y4 ps).map sD)):=by
 simp -implicitDefEqProofs [QX,Zq,Zb6,Zg9 h0,Zha h0,JE,Zjm]
 simp [Y4,QC]
theorem JB {a b c:Pt} (ha:Sm a) (hb:Sm b) (hc:Sm c):YS [pD a,pD b,pD c]=some (.bl (decide (0 < ZQ a b c))):=by
 simp -implicitDefEqProofs [YS,Zq,WI,V2 ha hb hc]
noncomputable def SmS (s:Pt×Pt):Prop:=Sm s.1/\Sm s.2
theorem Zhb {ps:List Pt} (h:All Sm ps):∀ s∈Y4 ps,SmS s:=fun s hs=>by
 obtain ⟨k,hk,rfl⟩:=List.mem_map.mp hs
 have hk:=List.mem_range.mp hk
 have ne:ps≠[]:=fun z=>by rw [z] at hk; simp at hk
 exact ⟨h _ (YX ne _),h _ (YX ne _)⟩
theorem UX (ps:List Pt):(Y4 ps).length=ps.length:=by simp [Y4]
theorem Zn7 {c:D} {xs:List D} (h:Qx c=some xs) (i:Int):dIx c (.int i)=atI xs i:=by
 cases c <;> first | (cases h; rfl) | cases h
theorem ZhX {c:D} {xs:List D} (h:Qx c=some xs):Qs [c]=some (.int xs.length):=by
 cases c <;> first | (cases h; rfl) | cases h
theorem Zh5 {f:DE} {ρ:Rho} {c:D} {xs:List D} (hf:f ρ=some c) (h:Qx c=some xs):YR f ρ=some xs:=by
 unfold YR
 rw [hf]
 cases c <;> first | (cases h; rfl) | cases h
theorem ZcY {f:DE} {ρ:Rho} {c:D} {xs:List D} (hf:f ρ=some c) (h:Qx c=some xs):JN f ρ=some (Qa 0 xs):=by
 unfold JN
 rw [Zh5 hf h]; rfl
theorem Zh3 {c:D} {ps:List Pt} (h:Qx c=some (ps.map pD)) {i:Int} (h1:-(ps.length:Int)<=i) (h2:i < ps.length):dIx c (.int i)=some (pD (cyc ps i)):=by rw [Zn7 h,Ze4 h1 h2]
noncomputable def Zjb (d k:Int):Int:=(((d+7919*k+1)*48271 % 2147483647)*((d+7919*k+1)*48271 % 2147483647)+7*((d+7919*k+1)*48271 % 2147483647)+k) % 2147483629
noncomputable def US (ns:List Int) (k:Nat):Int:=ns[k]?.getD 0
theorem Zj2 (ns:List Int) (k:Nat):YJ [.lst (ns.map .int),.int k]=some (.int (US ns k)):=by
 unfold US
 by_cases h:k < ns.length
 ·have e:dIx (.lst (ns.map D.int)) (.int k)=some (.int ns[k]):=by
   show atI (ns.map D.int) (k:Int)=_
   exact Zmu (by simp [h])
  simp -implicitDefEqProofs [YJ,Zq,JA,h,e]
 ·simp -implicitDefEqProofs [YJ,Zq,JA,h]
theorem Za2 (ns:List Int) (k:Nat):ZS [.lst (ns.map .int),.int k]=some (.int (Zjb (US ns k) k)):=by
 have m1:=VA (i:=7919) (j:=(k:Int)) (.inl (by omega))
 have m2:=VA (i:=US ns k+7919*(k:Int)+1) (j:=48271) (.inr (by omega))
 have h1:=Int.emod_nonneg ((US ns k+7919*(k:Int)+1)*48271) (show (2147483647:Int)≠0 by omega)
 have h2:=Int.emod_lt_of_pos ((US ns k+7919*(k:Int)+1)*48271) (show (0:Int) < 2147483647 by omega)
 have d1:=Qq (i:=(US ns k+7919*(k:Int)+1)*48271) (j:=2147483647) (by omega)
 have m3:=VA (i:=(US ns k+7919*(k:Int)+1)*48271 % 2147483647) (j:=(US ns k+7919*(k:Int)+1)*48271 % 2147483647) (.inl (by omega))
 have m4:=VA (i:=7) (j:=(US ns k+7919*(k:Int)+1)*48271 % 2147483647) (.inl (by omega))
 have d2:=fun x=>Qq (i:=x) (j:=2147483629) (by omega)
 simp -implicitDefEqProofs [ZS,Zq,WL,Zj2,m1,m2,d1,m3,m4,d2,Zjb]
theorem ZjL (d k:Int):0<=Zjb d k/\Zjb d k < 2147483629:=⟨Int.emod_nonneg _ (by omega),Int.emod_lt_of_pos _ (by omega)⟩
noncomputable def JQ (n k:Int):Int:=(((n+104729*k+17)*69621 % 2147483647)*((n+104729*k+17)*69621 % 2147483647)+3*((n+104729*k+17)*69621 % 2147483647)+k) % 2147483629
theorem UM (n k:Int):Zw [.int n,.int k]=some (.int (JQ n k)):=by
 have m1:=VA (i:=104729) (j:=k) (.inl (by omega))
 have m2:=VA (i:=n+104729*k+17) (j:=69621) (.inr (by omega))
 have h1:=Int.emod_nonneg ((n+104729*k+17)*69621) (show (2147483647:Int)≠0 by omega)
 have h2:=Int.emod_lt_of_pos ((n+104729*k+17)*69621) (show (0:Int) < 2147483647 by omega)
 have d1:=Qq (i:=(n+104729*k+17)*69621) (j:=2147483647) (by omega)
 have m3:=VA (i:=(n+104729*k+17)*69621 % 2147483647) (j:=(n+104729*k+17)*69621 % 2147483647) (.inl (by omega))
 have m4:=VA (i:=3) (j:=(n+104729*k+17)*69621 % 2147483647) (.inl (by omega))
 have d2:=fun x=>Qq (i:=x) (j:=2147483629) (by omega)
 simp -implicitDefEqProofs [Zw,Zq,WM,m1,m2,d1,m3,m4,d2,JQ]
theorem ZiA (n k:Int):0<=JQ n k/\JQ n k < 2147483629:=⟨Int.emod_nonneg _ (by omega),Int.emod_lt_of_pos _ (by omega)⟩
theorem U1 {c:D} {ps:List Pt} (h:Qx c=some (ps.map pD)) (hne:ps≠[]) (i j:Int):Zx [c,.int i,.int j]=some (pD (cyc ps (i+j))):=by
 have hn:0 < (ps.length:Int):=by have:=List.length_pos_iff.mpr hne; omega
 have k1:=Int.emod_nonneg (i+j) (show (ps.length:Int)≠0 by omega)
 have k2:=Int.emod_lt_of_pos (i+j) hn
 have e:=Zh3 h (i:=(i+j) % (ps.length:Int)) (by omega) k2
 have d:=Qq (i:=i+j) (j:=(ps.length:Int)) hn
 have l:=ZhX h
 rw [List.length_map] at l
 simp -implicitDefEqProofs [Zx,Zq,ZaZ,l,d,e]
 rw [UR]
noncomputable def Ze5 (ps:List Pt):Int->List Pt->Int
 | _,[]=>0
 | k,a::r=>(a.1*(cyc ps (k+1)).2-a.2*(cyc ps (k+1)).1)+Ze5 ps (k+1) r
noncomputable def ZbE (ps:List Pt):Int:=Ze5 ps 0 ps
theorem ZlV {i j:Int} (h1:-1000000<=i) (h2:i<=1000000):YM (.int i) (.int j)=some (.int (i*j)):=VA (.inl (by omega))
theorem ZiW {c:D} {ps:List Pt} (h:Qx c=some (ps.map pD)) (hne:ps≠[]) {a:Pt} (ha:Sm a) (found k:Int) (s4:Sl) :
  (Zp (ZM 4 (dFn 3 Zx (Zb (Zd 0) (Zb (Zd 2) (Zb (Zg (.int 1)) Zk)))))
 (ZM 1 (Ze QH (Ze ZE (Zd 1) (Ze YM (Ze dIx (Zd 3) (Zg (.int 0))) (Ze dIx (Zd 4) (Zg (.int 1))))) (Ze YM (Ze dIx (Zd 3) (Zg (.int 1))) (Ze dIx (Zd 4) (Zg (.int 0))))))) [.val c,.val (.int found),.val (.int k),.val (pD a),s4] =
  some (.nx [.val c,.val (.int (found+(a.1*(cyc ps (k+1)).2-a.2*(cyc ps (k+1)).1))),.val (.int k),.val (pD a),.val (pD (cyc ps (k+1)))]):=by
 obtain ⟨⟨a1,a2⟩,a3,a4⟩:=ha
 have m1:=ZlV (i:=a.1) (j:=(cyc ps (k+1)).2) a1 a2
 have m2:=ZlV (i:=a.2) (j:=(cyc ps (k+1)).1) a3 a4
 have e:=U1 h hne k 1
 simp -implicitDefEqProofs [e,m1,m2]
 omega
theorem Zed {c:D} {ps:List Pt} (h:Qx c=some (ps.map pD)) (hne:ps≠[]):∀ (ys:List Pt) (k:Nat) (found:Int) (s2 s3 s4:Sl),All Sm ys->∃ t2 t3 t4,
  QM (Y1 2 3) (Zp (ZM 4 (dFn 3 Zx (Zb (Zd 0) (Zb (Zd 2) (Zb (Zg (.int 1)) Zk)))))
 (ZM 1 (Ze QH (Ze ZE (Zd 1) (Ze YM (Ze dIx (Zd 3) (Zg (.int 0))) (Ze dIx (Zd 4) (Zg (.int 1))))) (Ze YM (Ze dIx (Zd 3) (Zg (.int 1))) (Ze dIx (Zd 4) (Zg (.int 0)))))))
   (Qa k (ys.map pD)) [.val c,.val (.int found),s2,s3,s4]=some (.nx [.val c,.val (.int (found+Ze5 ps k ys)),t2,t3,t4])
 | [],k,found,s2,s3,s4,_=>⟨s2,s3,s4,by simp [Qa,QM,Ze5]⟩
 | a::ys,k,found,s2,s3,s4,hs=>by
  have st:=ZiW h hne (hs a List.mem_cons_self) found k s4
  obtain ⟨t2,t3,t4,ih⟩:=Zed h hne ys (k+1) (found+(a.1*(cyc ps ((k:Int)+1)).2-a.2*(cyc ps ((k:Int)+1)).1)) (.val (.int k)) (.val (pD a)) (.val (pD (cyc ps ((k:Int)+1)))) fun p hp=>hs p (List.mem_cons_of_mem _ hp)
  refine ⟨t2,t3,t4,?_⟩
  simp only [List.map_cons,Qa,QM,Zc9,List.set_cons_zero,List.set_cons_succ,Option.bind_some]
  rw [st]
  show QM _ _ _ _=_
  rw [ih]
  simp only [Ze5]
  rw [Int.add_assoc]
  rfl
theorem ZfM {c:D} {ps:List Pt} (h:Qx c=some (ps.map pD)) (hne:ps≠[]) (hs:All Sm ps):YW [c]=some (.int (ZbE ps)):=by
 obtain ⟨t2,t3,t4,e⟩:=Zed h hne ps 0 0 .no .no .no hs
 unfold YW Zq Za1
 show (Zp _ (Zp _ _) [.val c,.no,.no,.no,.no]).bind _=_
 rw [Zs]
 show (Zp _ _ [.val c,.val (.int 0),.no,.no,.no]).bind _=_
 rw [Zs,UP]
 have e0:JN (Zd 0) [.val c,.val (.int 0),.no,.no,.no]=some (Qa 0 (ps.map pD)):=ZcY rfl h
 rw [e0,Option.bind_some,e]
 rw [Int.zero_add]
 rfl
noncomputable def Zav (ps:List Pt):Int->List Pt->List (Pt×Pt)
 | _,[]=>[]
 | k,a::r=>(a,cyc ps (k+1))::Zav ps (k+1) r
theorem WF (ps:List Pt):∀ (ys:List Pt) (k:Nat),ps.drop k=ys->Zav ps k ys=(List.range ys.length).map fun (j:Nat)=>Jo ps (((k+j:Nat)):Int)
 | [],k,_=>rfl
 | a::ys,k,h=>by
  have hk:k < ps.length:=by
   by_cases z:k < ps.length
   ·exact z
   ·rw [List.drop_eq_nil_of_le (by omega)] at h; cases h
  rw [List.drop_eq_getElem_cons hk] at h
  injection h with h1 h2
  have ih:=WF ps ys (k+1) h2
  unfold Zav
  rw [List.length_cons,List.range_succ_eq_map,List.map_cons,List.map_map]
  congr 1
  ·unfold Jo
   rw [Nat.add_zero,UQ hk,h1]
  ·rw [show ((k:Int)+1)=((k+1:Nat):Int) by omega,ih]
   apply List.map_congr_left
   intro j _
   simp only [Function.comp]
   congr 1
   omega
theorem okL {ds:List D} (h:∀ d∈ds,okD d=true/\(JX d).depth<=5):PyData.canLayAll0 (Qw ds)=true/\PyData.depthAll (Qw ds)<=5:=by
 induction ds with
 | nil=>simp [Qw,PyData.canLayAll0,PyData.depthAll]
 | cons d ds ih=>
  obtain ⟨h1,h2⟩:=h d List.mem_cons_self
  obtain ⟨i1,i2⟩:=ih fun e he=>h e (List.mem_cons_of_mem _ he)
  simp [Qw,PyData.canLayAll0,PyData.depthAll,okD.can h1,i1]
  omega
theorem ZhI {ds:List D} (h:∀ d∈ds,okD d=true/\(JX d).depth<=5):okD (.lst ds)=true/\(JX (.lst ds)).depth<=6:=by
 obtain ⟨h1,h2⟩:=okL h
 simp [okD,JX,PyData.canLay0,PyData.depth,h1]
 omega
theorem ZhH {ds:List D} (h:∀ d∈ds,okD d=true/\(JX d).depth<=5):okD (.tup ds)=true/\(JX (.tup ds)).depth<=6:=by
 obtain ⟨h1,h2⟩:=okL h
 simp [okD,JX,PyData.canLay0,PyData.depth,h1]
 omega
theorem ZlP (i:Int):okD (.int i)=true/\(JX (.int i)).depth<=5:=⟨rfl,Nat.zero_le _⟩
theorem VR (p:Pt):okD (pD p)=true/\(JX (pD p)).depth<=5:=by
 refine ⟨rfl,?_⟩
 simp [pD,JX,Qw,PyData.depth,PyData.depthAll]
theorem ZiB (i j:Int):deq (.int i) (.int j)=decide (i=j):=by
 show PyData.eqv (.int i) (.int j)=_
 simp only [PyData.eqv]
 rfl
theorem Zcd (p q:Pt):deq (pD p) (pD q)=decide (p=q):=by
 show PyData.eqv (.tuple [.int p.1,.int p.2]) (.tuple [.int q.1,.int q.2])=_
 simp only [PyData.eqv,PyData.eqvAll,Bool.and_true]
 rw [Bool.eq_iff_iff]
 simp [Prod.ext_iff]
theorem Zib (i:Int) (ns:List Int):ZfQ (.int i) (.lst (ns.map .int))=some (.bl (decide (i∈ns))):=by
 have h1:okD (.lst (ns.map D.int))=true:=(ZhI fun d hd=>by obtain ⟨n,_,rfl⟩:=List.mem_map.mp hd; exact ZlP n).1
 have h2:okD (.int i)=true:=rfl
 show Option.map D.bl (if (okD (.int i)&&okD (.lst (ns.map D.int)))=true then some ((ns.map D.int).any fun y=>deq y (.int i)) else none)=_
 rw [h1,h2,if_pos (by decide)]
 show some (D.bl _)=_
 congr 2
 rw [Bool.eq_iff_iff,List.any_eq_true,decide_eq_true_eq]
 constructor
 ·rintro ⟨x,hx,q⟩
  obtain ⟨n,hn,rfl⟩:=List.mem_map.mp hx
  rw [ZiB] at q
  have:=of_decide_eq_true q
  subst this; exact hn
 ·intro h
  exact ⟨.int i,List.mem_map.mpr ⟨i,h,rfl⟩,by rw [ZiB]; simp⟩
noncomputable def ZcT (a b c d:Pt):Bool:=(onZ a b c||onZ a b d||onZ c d a||onZ c d b)||(decide (ZQ a b c*ZQ a b d < 0)&&decide (ZQ c d a*ZQ c d b < 0))
theorem ZbR {a b c:Pt} (ha:Sm a) (hb:Sm b) (hc:Sm c):-18446744073709551616 < ZQ a b c/\ZQ a b c < 18446744073709551616:=by
 obtain ⟨⟨a1,a2⟩,a3,a4⟩:=ha
 obtain ⟨⟨b1,b2⟩,b3,b4⟩:=hb
 obtain ⟨⟨c1,c2⟩,c3,c4⟩:=hc
 have key:∀ x y:Int,-2000000<=x->x<=2000000->-2000000<=y->y<=2000000->-4000000000000<=x*y/\x*y<=4000000000000:=by
  intro x y h1 h2 h3 h4
  have n:(x*y).natAbs<=2000000*2000000:=by
   rw [Int.natAbs_mul]
   exact Nat.mul_le_mul (by omega) (by omega)
  omega
 have k1:=key (b.1-a.1) (c.2-a.2) (by omega) (by omega) (by omega) (by omega)
 have k2:=key (b.2-a.2) (c.1-a.1) (by omega) (by omega) (by omega) (by omega)
 unfold ZQ
 omega
theorem Zj1 {a b c d:Pt} (ha:Sm a) (hb:Sm b) (hc:Sm c) (hd:Sm d):YU [pD a,pD b,pD c,pD d]=some (.bl (ZcT a b c d)):=by
 have o1:=Ub ha hb hc
 have o2:=Ub ha hb hd
 have o3:=Ub hc hd ha
 have o4:=Ub hc hd hb
 have t1:=Yy ha hb hc
 have t2:=Yy ha hb hd
 have t3:=Yy hc hd ha
 have t4:=Yy hc hd hb
 have m1:=VA (i:=ZQ a b c) (j:=ZQ a b d) (.inl (ZbR ha hb hc))
 have m2:=VA (i:=ZQ c d a) (j:=ZQ c d b) (.inl (ZbR hc hd ha))
 unfold ZcT
 have e1:(ZY (Wf (Zn (dFn 3 YG (Zb (Zd 0) (Zb (Zd 1) (Zb (Zd 2) Zk))))) (Wf (Zn (dFn 3 YG (Zb (Zd 0) (Zb (Zd 1) (Zb (Zd 3) Zk))))) (Wf (Zn (dFn 3 YG (Zb (Zd 2) (Zb (Zd 3) (Zb (Zd 0) Zk))))) (Zn (dFn 3 YG (Zb (Zd 2) (Zb (Zd 3) (Zb (Zd 1) Zk)))))))) (ZT (Zg (.bl true))) ZA) [.val (pD a),.val (pD b),.val (pD c),.val (pD d)] =
   if (onZ a b c||onZ a b d||onZ c d a||onZ c d b)=true then some (.rt (.bl true)) else some (.nx [.val (pD a),.val (pD b),.val (pD c),.val (pD d)]):=by
  cases q1:onZ a b c with
  | true=>rw [q1] at o1; simp -implicitDefEqProofs [o1]
  | false=>
   rw [q1] at o1
   cases q2:onZ a b d with
   | true=>rw [q2] at o2; simp -implicitDefEqProofs [o1,o2]
   | false=>
    rw [q2] at o2
    cases q3:onZ c d a with
    | true=>rw [q3] at o3; simp -implicitDefEqProofs [o1,o2,o3]
    | false=>
     rw [q3] at o3
     cases q4:onZ c d b with
     | true=>rw [q4] at o4; simp -implicitDefEqProofs [o1,o2,o3,o4]
     | false=>rw [q4] at o4; simp -implicitDefEqProofs [o1,o2,o3,o4]
 unfold YU Zq Za0
 show (Zp _ (Zp _ _) [.val (pD a),.val (pD b),.val (pD c),.val (pD d)]).bind _=_
 rw [Zs,e1]
 by_cases ho:(onZ a b c||onZ a b d||onZ c d a||onZ c d b)=true
 ·rw [if_pos ho,ho]; rfl
 ·rw [if_neg ho]
  have ho':(onZ a b c||onZ a b d||onZ c d a||onZ c d b)=false:=by simpa using ho
  rw [ho',Bool.false_or]
  show (Zp _ _ [.val (pD a),.val (pD b),.val (pD c),.val (pD d)]).bind _=_
  by_cases hn:ZQ a b c*ZQ a b d < 0
  ·have:¬ 0<=ZQ a b c*ZQ a b d:=by omega
   simp -implicitDefEqProofs [t1,t2,t3,t4,m1,m2,this,hn]
  ·have:0<=ZQ a b c*ZQ a b d:=by omega
   simp -implicitDefEqProofs [t1,t2,m1,this,hn]
theorem VC {b:DG} {g:DS} {R:Rho->Prop} {bad:D->Bool} {d:D}:∀ {xs:List D},(∀ x∈xs,∀ ρ,R ρ->∃ ρ1,b x ρ=some ρ1/\if bad x=true then g ρ1=some (.rt d) else ∃ ρ2,R ρ2/\g ρ1=some (.nx ρ2)) ->
  ∀ ρ,R ρ->if xs.any bad=true then QM b g xs ρ=some (.rt d) else ∃ ρ2,R ρ2/\QM b g xs ρ=some (.nx ρ2)
 | [],h,ρ,hr=>by
  rw [if_neg (by simp)]
  exact ⟨ρ,hr,rfl⟩
 | x::xs,h,ρ,hr=>by
  obtain ⟨ρ1,e1,h1⟩:=h x List.mem_cons_self ρ hr
  have ih:=VC (xs:=xs) (b:=b) (g:=g) (R:=R) (bad:=bad) (d:=d) fun y hy=>h y (List.mem_cons_of_mem _ hy)
  rw [List.any_cons]
  by_cases hb:bad x=true
  ·rw [if_pos hb] at h1
   rw [hb,Bool.true_or,if_pos rfl]
   unfold QM
   rw [e1,Option.bind_some,h1]
  ·rw [if_neg hb] at h1
   obtain ⟨ρ2,r2,h2⟩:=h1
   have hb':bad x=false:=by simpa using hb
   rw [hb',Bool.false_or]
   have e:QM b g (x::xs) ρ=QM b g xs ρ2:=by
    conv=>lhs; unfold QM
    rw [e1,Option.bind_some,h2]
   rw [e]
   exact ih ρ2 r2
noncomputable def JJ (ps:List Pt):List Int:=(List.range ps.length).map fun (k:Nat)=>ZQ (cyc ps k) (cyc ps ((k:Int)+1)) (cyc ps ((k:Int)+2))
theorem Zle {c:D} {ps:List Pt} (h:Qx c=some (ps.map pD)) (hne:ps≠[]) (hps:All Sm ps) {a:Pt} (ha:Sm a) (acc:List Int) (hl:acc.length < 1000) (k:Int) :
  (ZmH 1 (dFn 3 Z3 (Zb (Zd 3) (Zb (dFn 3 Zx (Zb (Zd 0) (Zb (Zd 2) (Zb (Zg (.int 1)) Zk)))) (Zb (dFn 3 Zx (Zb (Zd 0) (Zb (Zd 2) (Zb (Zg (.int 2)) Zk)))) Zk))))) [.val c,.own (acc.map .int),.val (.int k),.val (pD a)] =
  some (.nx [.val c,.own ((acc++[ZQ a (cyc ps (k+1)) (cyc ps (k+2))]).map .int),.val (.int k),.val (pD a)]):=by
 have e1:=U1 h hne k 1
 have e2:=U1 h hne k 2
 have e3:=Yy ha (hps _ (YX hne (k+1))) (hps _ (YX hne (k+2)))
 have hl':acc.length < lim:=by unfold lim; omega
 unfold ZmH
 simp -implicitDefEqProofs [e1,e2,e3,hl']
theorem Zg0 {c:D} {ps:List Pt} (h:Qx c=some (ps.map pD)) (hne:ps≠[]) (hps:All Sm ps):∀ (ys:List Pt) (k:Nat) (acc:List Int) (s2 s3:Sl),All Sm ys->ps.drop k=ys->acc.length+ys.length<=1000->∃ t2 t3,
  QM (Y1 2 3) (ZmH 1 (dFn 3 Z3 (Zb (Zd 3) (Zb (dFn 3 Zx (Zb (Zd 0) (Zb (Zd 2) (Zb (Zg (.int 1)) Zk)))) (Zb (dFn 3 Zx (Zb (Zd 0) (Zb (Zd 2) (Zb (Zg (.int 2)) Zk)))) Zk)))))
   (Qa k (ys.map pD)) [.val c,.own (acc.map .int),s2,s3]=some (.nx [.val c,.own ((acc++(List.range ys.length).map fun (j:Nat)=>ZQ (cyc ps ((k+j:Nat):Int)) (cyc ps (((k+j:Nat):Int)+1)) (cyc ps (((k+j:Nat):Int)+2))).map .int),t2,t3])
 | [],k,acc,s2,s3,_,_,_=>⟨s2,s3,by simp [Qa,QM]⟩
 | a::ys,k,acc,s2,s3,hs,hdr,hl=>by
  have hk:k < ps.length:=by
   by_cases z:k < ps.length
   ·exact z
   ·rw [List.drop_eq_nil_of_le (by omega)] at hdr; cases hdr
  rw [List.drop_eq_getElem_cons hk] at hdr
  injection hdr with h1 h2
  have st:=Zle h hne hps (hs a List.mem_cons_self) acc (by simp at hl; omega) k
  obtain ⟨t2,t3,ih⟩:=Zg0 h hne hps ys (k+1) (acc++[ZQ a (cyc ps ((k:Int)+1)) (cyc ps ((k:Int)+2))]) (.val (.int k)) (.val (pD a)) (fun p hp=>hs p (List.mem_cons_of_mem _ hp)) h2 (by simp at hl ⊢; omega)
  refine ⟨t2,t3,?_⟩
  simp only [List.map_cons,Qa,QM,Zc9,List.set_cons_zero,List.set_cons_succ,Option.bind_some]
  rw [st]
  show QM _ _ _ _=_
  rw [ih]
  congr 5
  rw [List.append_assoc,List.length_cons,List.range_succ_eq_map,List.map_cons,List.map_map]
  refine congrArg (fun z=>List.map D.int (acc++z)) ?_
  rw [List.singleton_append]
  congr 1
  ·rw [<-h1,<-UQ hk,Nat.add_zero]
  ·apply List.map_congr_left
   intro j _
   simp only [Function.comp]
   have:((k+1+j:Nat):Int)=((k+(j+1):Nat):Int):=by omega
   rw [this]
theorem Zio {c:D} {ps:List Pt} (h:Qx c=some (ps.map pD)) (hne:ps≠[]) (hps:All Sm ps) (hl:ps.length<=1000):Qg [c]=some (.lst ((JJ ps).map .int)):=by
 obtain ⟨t2,t3,e⟩:=Zg0 h hne hps ps 0 [] .no .no hps rfl (by simpa using hl)
 unfold Qg Zq WJ
 show (Zp _ (Zp _ _) [.val c,.no,.no,.no]).bind _=_
 rw [Zs]
 have e0:Zc3 1 Zk [.val c,.no,.no,.no]=some (.nx [.val c,.own [],.no,.no]):=by
  unfold Zc3
  simp -implicitDefEqProofs
 rw [e0]
 show (Zp _ _ [.val c,.own [],.no,.no]).bind _=_
 rw [Zs,UP]
 have e1:JN (Zd 0) [.val c,.own [],.no,.no]=some (Qa 0 (ps.map pD)):=ZcY rfl h
 rw [e1,Option.bind_some]
 have e':=e
 simp only [List.map_nil,List.nil_append,Nat.zero_add] at e'
 rw [e']
 show (ZoI 1 (ZT (Zd 1)) _).bind _=_
 unfold ZoI L3.rel
 simp -implicitDefEqProofs
 unfold JJ
 simp
noncomputable def ZfG (p:Pt):List Int:=[p.1,p.2]
theorem ZjQ {p q:Pt} (h:ZfG p=ZfG q):p=q:=by
 unfold ZfG at h
 injection h with h1 h2
 injection h2 with h2 _
 exact Prod.ext h1 h2
theorem Zb1:∀ (ps:List Pt),VV (ps.map pD)=some (ps.map ZfG)
 | []=>rfl
 | p::ps=>by
  show (U7 [.int p.1,.int p.2]).bind (fun k=>(VV (ps.map pD)).map (k::·))=_
  rw [Zb1 ps]
  rfl
theorem ZkH (ks:List (List Int)):(WH ks).length < ks.length ↔ ¬ ks.Nodup:=by
 have le:∀ ks:List (List Int),(WH ks).length<=ks.length:=by
  intro ks
  induction ks with
  | nil=>exact Nat.le_refl _
  | cons k r ih=>
   unfold WH
   split
   ·simp; omega
   ·simp; omega
 induction ks with
 | nil=>simp [WH]
 | cons k r ih=>
  have l:=le r
  unfold WH
  by_cases c:k∈r
  ·rw [if_pos c]
   simp [c]
   omega
  ·rw [if_neg c]
   simp [c,ih]
theorem VT (ps:List Pt):(ps.map ZfG).Nodup ↔ ps.Nodup:=by
 induction ps with
 | nil=>simp
 | cons p ps ih=>
  rw [List.map_cons,List.nodup_cons,List.nodup_cons,ih]
  have:ZfG p∈ps.map ZfG ↔ p∈ps:=by
   rw [List.mem_map]
   exact ⟨fun ⟨q,hq,e⟩=>ZjQ e ▸ hq,fun h=>⟨p,h,rfl⟩⟩
  rw [this]
theorem ZfF {c:D} {ps:List Pt} (h:Qx c=some (ps.map pD)) (hl:ps.length<=70):WA c=some (.int (WH (ps.map ZfG)).length):=by
 unfold WA
 rw [h,Option.bind_some,Zb1,Option.bind_some,if_pos (by simpa using hl)]
noncomputable def Zki (ps:List Pt) (i j:Int):Bool:=!decide ((j+1) % (ps.length:Int)=i)&&ZcT (cyc ps i) (cyc ps (i+1)) (cyc ps j) (cyc ps (j+1))
noncomputable def ZeY (ps:List Pt) (i:Nat):Bool:=(List.range (ps.length-(i+2))).any fun j=>Zki ps i ((i+2+j:Nat):Int)
noncomputable def badAny (ps:List Pt):Bool:=(List.range ps.length).any fun i=>ZeY ps i
noncomputable def Q5 (ps:List Pt):Bool:=decide ps.Nodup&&!decide (0∈JJ ps)&&!badAny ps
theorem Zl8 {c:D} {ps:List Pt} (h:Qx c=some (ps.map pD)) (hne:ps≠[]) (hps:All Sm ps) {i j:Nat} (hi:i < ps.length) (hj:j < ps.length) (s4 s5:Sl) :
  if Zki ps i j=true then (ZY (Zn (Ze QI (Ze Yu (Ze ZE (Zd 3) (Zg (.int 1))) (Zd 1)) (Zd 2))) (Zp (ZM 4 (Ze dIx (Zd 0) (Zd 3)))
 (Zp (ZM 5 (dFn 3 Zx (Zb (Zd 0) (Zb (Zd 3) (Zb (Zg (.int 1)) Zk)))))
 (ZY (Zn (dFn 4 YU (Zb (Ze dIx (Zd 0) (Zd 2)) (Zb (dFn 3 Zx (Zb (Zd 0) (Zb (Zd 2) (Zb (Zg (.int 1)) Zk)))) (Zb (Zd 4) (Zb (Zd 5) Zk)))))) (ZT (Zg (.bl false))) ZA))) ZA) [.val c,.val (.int ps.length),.val (.int i),.val (.int j),s4,s5]=some (.rt (.bl false))
  else ∃ t4 t5,(ZY (Zn (Ze QI (Ze Yu (Ze ZE (Zd 3) (Zg (.int 1))) (Zd 1)) (Zd 2))) (Zp (ZM 4 (Ze dIx (Zd 0) (Zd 3)))
 (Zp (ZM 5 (dFn 3 Zx (Zb (Zd 0) (Zb (Zd 3) (Zb (Zg (.int 1)) Zk)))))
 (ZY (Zn (dFn 4 YU (Zb (Ze dIx (Zd 0) (Zd 2)) (Zb (dFn 3 Zx (Zb (Zd 0) (Zb (Zd 2) (Zb (Zg (.int 1)) Zk)))) (Zb (Zd 4) (Zb (Zd 5) Zk)))))) (ZT (Zg (.bl false))) ZA))) ZA) [.val c,.val (.int ps.length),.val (.int i),.val (.int j),s4,s5]=some (.nx [.val c,.val (.int ps.length),.val (.int i),.val (.int j),t4,t5]):=by
 have hn:0 < (ps.length:Int):=by omega
 have d:=Qq (i:=(j:Int)+1) (j:=(ps.length:Int)) hn
 have x1:=Zh3 h (i:=(j:Int)) (by omega) (by omega)
 have x2:=Zh3 h (i:=(i:Int)) (by omega) (by omega)
 have n1:=U1 h hne j 1
 have n2:=U1 h hne i 1
 have m:=Zj1 (hps _ (YX hne (i:Int))) (hps _ (YX hne ((i:Int)+1))) (hps _ (YX hne (j:Int))) (hps _ (YX hne ((j:Int)+1)))
 unfold Zki
 by_cases c1:((j:Int)+1) % (ps.length:Int)=i
 ·rw [if_neg (by simp [c1])]
  refine ⟨s4,s5,?_⟩
  simp -implicitDefEqProofs [d,c1]
 ·cases hm:ZcT (cyc ps i) (cyc ps ((i:Int)+1)) (cyc ps j) (cyc ps ((j:Int)+1)) with
  | true=>
   rw [hm] at m
   rw [if_pos (by simp [c1])]
   simp -implicitDefEqProofs [d,c1,x1,x2,n1,n2,m]
  | false=>
   rw [hm] at m
   rw [if_neg (by simp)]
   refine ⟨.val (pD (cyc ps j)),.val (pD (cyc ps ((j:Int)+1))),?_⟩
   simp -implicitDefEqProofs [d,c1,x1,x2,n1,n2,m]
noncomputable def igB:DS:=(ZY (Zn (Ze QI (Ze Yu (Ze ZE (Zd 3) (Zg (.int 1))) (Zd 1)) (Zd 2))) (Zp (ZM 4 (Ze dIx (Zd 0) (Zd 3)))
 (Zp (ZM 5 (dFn 3 Zx (Zb (Zd 0) (Zb (Zd 3) (Zb (Zg (.int 1)) Zk)))))
 (ZY (Zn (dFn 4 YU (Zb (Ze dIx (Zd 0) (Zd 2)) (Zb (dFn 3 Zx (Zb (Zd 0) (Zb (Zd 2) (Zb (Zg (.int 1)) Zk)))) (Zb (Zd 4) (Zb (Zd 5) Zk)))))) (ZT (Zg (.bl false))) ZA))) ZA)
theorem ZjV {c:D} {ps:List Pt} (h:Qx c=some (ps.map pD)) (hne:ps≠[]) (hps:All Sm ps) (hl:ps.length<=1000) {i:Nat} (hi:i < ps.length) (s3 s4 s5:Sl) :
  if ZeY ps i=true then (V6 (Zh6 (Ze ZE (Zd 2) (Zg (.int 2))) (Zd 1)) (Zz 3) igB) [.val c,.val (.int ps.length),.val (.int i),s3,s4,s5]=some (.rt (.bl false))
  else ∃ t3 t4 t5,(V6 (Zh6 (Ze ZE (Zd 2) (Zg (.int 2))) (Zd 1)) (Zz 3) igB) [.val c,.val (.int ps.length),.val (.int i),s3,s4,s5]=some (.nx [.val c,.val (.int ps.length),.val (.int i),t3,t4,t5]):=by
 have e0:Zh6 (Ze ZE (Zd 2) (Zg (.int 2))) (Zd 1) [.val c,.val (.int ps.length),.val (.int i),s3,s4,s5]=some (QC ((i:Int)+2) (ps.length-(i+2))):=by
  have r1:=YO (n:=(i:Int)+2) (by omega) (by omega)
  have r2:=YO (n:=(ps.length:Int)) (by omega) (by omega)
  have e:((ps.length:Int)-((i:Int)+2)).toNat=ps.length-(i+2):=by omega
  simp -implicitDefEqProofs [r1,r2,e]
 rw [UP,e0,Option.bind_some]
 have hx:∀ x∈QC ((i:Int)+2) (ps.length-(i+2)),∃ j:Nat,j < ps.length/\x=.int j/\i+2<=j:=fun x hx=>by
  unfold QC at hx
  obtain ⟨k,hk,rfl⟩:=List.mem_map.mp hx
  have:=List.mem_range.mp hk
  exact ⟨i+2+k,by omega,rfl,by omega⟩
 have S:=VC (b:=Zz 3) (g:=igB) (R:=fun ρ=>∃ s3 s4 s5,ρ=[.val c,.val (.int ps.length),.val (.int i),s3,s4,s5]) (bad:=fun x=>match x with | .int j=>Zki ps i j | _=>false) (d:=.bl false) (xs:=QC ((i:Int)+2) (ps.length-(i+2)))
  (fun x hx' ρ hr=>by
   obtain ⟨s3,s4,s5,rfl⟩:=hr
   obtain ⟨j,hj,rfl,_⟩:=hx x hx'
   refine ⟨_,rfl,?_⟩
   have b:=Zl8 h hne hps hi hj s4 s5
   by_cases hb:Zki ps i j=true
   ·rw [if_pos hb] at b ⊢
    exact b
   ·rw [if_neg hb] at b ⊢
    obtain ⟨t4,t5,b⟩:=b
    exact ⟨_,⟨_,_,_,rfl⟩,b⟩) _ ⟨s3,s4,s5,rfl⟩
 have ea:(QC ((i:Int)+2) (ps.length-(i+2))).any (fun x=>match x with | .int j=>Zki ps i j | _=>false)=ZeY ps i:=by
  unfold QC ZeY
  rw [List.any_map]
  rfl
 rw [ea] at S
 by_cases hb:ZeY ps i=true
 ·rw [if_pos hb] at S ⊢; exact S
 ·rw [if_neg hb] at S ⊢
  obtain ⟨ρ2,⟨t3,t4,t5,rfl⟩,e⟩:=S
  exact ⟨t3,t4,t5,e⟩
theorem ZjU {c:D} {ps:List Pt} (h:Qx c=some (ps.map pD)) (hne:ps≠[]) (hps:All Sm ps) (hl:ps.length<=1000) :
  if badAny ps=true then (V6 (ZbC (Zd 1)) (Zz 2) (V6 (Zh6 (Ze ZE (Zd 2) (Zg (.int 2))) (Zd 1)) (Zz 3) igB)) [.val c,.val (.int ps.length),.no,.no,.no,.no]=some (.rt (.bl false))
  else ∃ ρ,(V6 (ZbC (Zd 1)) (Zz 2) (V6 (Zh6 (Ze ZE (Zd 2) (Zg (.int 2))) (Zd 1)) (Zz 3) igB)) [.val c,.val (.int ps.length),.no,.no,.no,.no]=some (.nx ρ):=by
 have e0:ZbC (Zd 1) [.val c,.val (.int ps.length),.no,.no,.no,.no]=some (QC 0 ps.length):=by
  have r2:=YO (n:=(ps.length:Int)) (by omega) (by omega)
  simp -implicitDefEqProofs [r2]
 rw [UP,e0,Option.bind_some]
 have S:=VC (b:=Zz 2) (g:=(V6 (Zh6 (Ze ZE (Zd 2) (Zg (.int 2))) (Zd 1)) (Zz 3) igB)) (R:=fun ρ=>∃ s2 s3 s4 s5,ρ=[.val c,.val (.int ps.length),s2,s3,s4,s5]) (bad:=fun x=>match x with | .int i=>ZeY ps i.toNat | _=>false) (d:=.bl false) (xs:=QC 0 ps.length)
  (fun x hx' ρ hr=>by
   obtain ⟨s2,s3,s4,s5,rfl⟩:=hr
   unfold QC at hx'
   obtain ⟨i,hi,rfl⟩:=List.mem_map.mp hx'
   have hi:=List.mem_range.mp hi
   have e:(0:Int)+(i:Int)=i:=by omega
   rw [e]
   refine ⟨_,rfl,?_⟩
   have b:=ZjV h hne hps hl hi s3 s4 s5
   show if ZeY ps ((i:Int).toNat)=true then _ else _
   rw [Int.toNat_natCast]
   by_cases hb:ZeY ps i=true
   ·rw [if_pos hb] at b ⊢
    exact b
   ·rw [if_neg hb] at b ⊢
    obtain ⟨t3,t4,t5,b⟩:=b
    exact ⟨_,⟨_,_,_,_,rfl⟩,b⟩) _ ⟨.no,.no,.no,.no,rfl⟩
 have ea:(QC 0 ps.length).any (fun x=>match x with | .int i=>ZeY ps i.toNat | _=>false)=badAny ps:=by
  unfold QC badAny
  rw [List.any_map]
  have:((fun x=>match x with | .int i=>ZeY ps i.toNat | _=>false) ∘ fun (k:Nat)=>D.int (0+(k:Int)))=fun i=>ZeY ps i:=by
   funext k
   show ZeY ps ((0+(k:Int)).toNat)=ZeY ps k
   rw [Int.zero_add,Int.toNat_natCast]
  rw [this]
 rw [ea] at S
 by_cases hb:badAny ps=true
 ·rw [if_pos hb] at S ⊢; exact S
 ·rw [if_neg hb] at S ⊢
  obtain ⟨ρ2,_,e⟩:=S
  exact ⟨ρ2,e⟩
theorem ZfL {c:D} {ps:List Pt} (h:Qx c=some (ps.map pD)) (hne:ps≠[]) (hps:All Sm ps) (hl:ps.length<=70):Yn [c]=some (.bl (Q5 ps)):=by
 have l:=ZhX h
 rw [List.length_map] at l
 have ls:=ZfF h hl
 have tn:=Zio h hne hps (by omega)
 have ii:=Zib 0 (JJ ps)
 have nl:=ZkH (ps.map ZfG)
 rw [List.length_map,VT] at nl
 have O:=ZjU h hne hps (by omega)
 unfold Yn Zq Vg
 show (Zp _ (Zp _ (Zp _ _)) [.val c,.no,.no,.no,.no,.no]).bind _=_
 have e1:ZM 1 (Zv Qs (Zb (Zd 0) Zk)) [.val c,.no,.no,.no,.no,.no]=some (.nx [.val c,.val (.int ps.length),.no,.no,.no,.no]):=by
  simp -implicitDefEqProofs [l]
 rw [Zs,e1]
 show (Zp _ (Zp _ _) [.val c,.val (.int ps.length),.no,.no,.no,.no]).bind _=_
 have e2:(ZY (Wf (Zn (Ze dLt (Jc WA (Zd 0)) (Zd 1))) (Zn (Ze ZfQ (Zg (.int 0)) (dFn 1 Qg (Zb (Zd 0) Zk))))) (ZT (Zg (.bl false))) ZA) [.val c,.val (.int ps.length),.no,.no,.no,.no] =
   if (decide ps.Nodup&&!decide (0∈JJ ps))=true then some (.nx [.val c,.val (.int ps.length),.no,.no,.no,.no]) else some (.rt (.bl false)):=by
  by_cases hnd:ps.Nodup
  ·have q:¬ (WH (ps.map ZfG)).length < ps.length:=fun z=>nl.mp z hnd
   have q':¬ (((WH (ps.map ZfG)).length:Nat):Int) < (ps.length:Int):=by omega
   by_cases h0:0∈JJ ps
   ·simp -implicitDefEqProofs [ls,tn,ii,q',hnd,h0,q]
   ·simp -implicitDefEqProofs [ls,tn,ii,q',hnd,h0,q]
  ·have q:(WH (ps.map ZfG)).length < ps.length:=nl.mpr hnd
   have q':(((WH (ps.map ZfG)).length:Nat):Int) < (ps.length:Int):=by omega
   simp -implicitDefEqProofs [ls,tn,ii,q',hnd,q]
 rw [Zs,e2]
 unfold Q5
 by_cases hg:(decide ps.Nodup&&!decide (0∈JJ ps))=true
 ·rw [if_pos hg,hg,Bool.true_and]
  show (Zp _ _ [.val c,.val (.int ps.length),.no,.no,.no,.no]).bind _=_
  rw [Zs]
  by_cases hb:badAny ps=true
  ·rw [if_pos hb] at O
   have O':(V6 (ZbC (Zd 1)) (Zz 2) (V6 (Zh6 (Ze ZE (Zd 2) (Zg (.int 2))) (Zd 1)) (Zz 3) igB)) [.val c,.val (.int ps.length),.no,.no,.no,.no]=some (.rt (.bl false)):=O
   unfold igB at O'
   rw [O',hb]
   rfl
  ·rw [if_neg hb] at O
   obtain ⟨ρ,O'⟩:=O
   unfold igB at O'
   have hb':badAny ps=false:=by simpa using hb
   rw [O',hb']
   rfl
 ·rw [if_neg hg]
  have hg':(decide ps.Nodup&&!decide (0∈JJ ps))=false:=by simpa using hg
  rw [hg',Bool.false_and]
  rfl
noncomputable def Zlh (n wide:Int) (k:Nat):Pt:=(JQ n (2*(k:Int)) % wide,JQ n (2*(k:Int)+1) % wide)
noncomputable def YA (n wide:Int) (many:Nat):List Pt:=(List.range many).map (Zlh n wide)
theorem Wh (n wide:Int) (many:Nat):(YA n wide many).length=many:=by simp [YA]
theorem ZbT {n wide:Int} {many:Nat} (hw:0 < wide):All (fun p=>(0<=p.1/\p.1 < wide)/\(0<=p.2/\p.2 < wide)) (YA n wide many):=fun p hp=>by
 obtain ⟨k,_,rfl⟩:=List.mem_map.mp hp
 exact ⟨⟨Int.emod_nonneg _ (by omega),Int.emod_lt_of_pos _ hw⟩,Int.emod_nonneg _ (by omega),Int.emod_lt_of_pos _ hw⟩
theorem Zjh {n wide:Int} (hw:0 < wide) (many:Nat):Yh (Zz 0) ZH (Qr (Zb (Ze Yu (dFn 2 Zw (Zb (Zd 2) (Zb (Ze YM (Zg (.int 2)) (Zd 0)) Zk))) (Zd 1)) (Zb (Ze Yu (dFn 2 Zw (Zb (Zd 2) (Zb (Ze ZE (Ze YM (Zg (.int 2)) (Zd 0)) (Zg (.int 1))) Zk))) (Zd 1)) Zk))) (QC 0 many) (.no::[.val (.int wide),.val (.int n)]) =
  some ((QC 0 many).map fun x=>match x with | .int k=>pD (Zlh n wide k.toNat) | _=>.non):=by
 refine Ud fun x hx=>?_
 unfold QC at hx
 obtain ⟨k,hk,rfl⟩:=List.mem_map.mp hx
 have m:=VA (i:=2) (j:=(k:Int)) (.inl (by omega))
 have e1:=UM n (2*(k:Int))
 have e2:=UM n (2*(k:Int)+1)
 have d:=fun z=>Qq (i:=z) (j:=wide) hw
 simp only [Int.zero_add]
 simp -implicitDefEqProofs [m,e1,e2,d,pD,Zlh]
theorem ZdQ {n wide:Int} (hw:0 < wide) {many:Nat} (hm:many<=1000):Ya [.int n,.int wide,.int many]=some (.lst ((YA n wide many).map pD)):=by
 have r:=YO (n:=(many:Int)) (by omega) (by omega)
 have hl:(QC 0 many).length<=lim:=by rw [Zah]; exact YD hm
 have cl:=Zjh (n:=n) hw many
 simp -implicitDefEqProofs [Ya,Zq,WK,r,hl,JE,cl]
 simp [YA,QC]
noncomputable def ltZ (p q:Pt):Bool:=decide (p.1 < q.1\/(p.1=q.1/\p.2 < q.2))
theorem ZnN (p q:Pt):ltD (pD p) (pD q)=ltZ p q:=by
 show HT.lexLt [p.1,p.2] [q.1,q.2]=_
 unfold ltZ
 rw [HT.lexLt_cons,HT.lexLt_cons,HT.lexLt_nil_nil]
 by_cases h1:p.1=q.1
 ·rw [if_pos h1]
  by_cases h2:p.2=q.2
  ·rw [if_pos h2]; simp [h1,h2]
  ·rw [if_neg h2]; simp [h1]
 ·rw [if_neg h1]; simp [h1]
noncomputable def Zc7:Pt->List Pt->Pt
 | b,[]=>b
 | b,x::xs=>Zc7 (if ltZ x b then x else b) xs
theorem Ze2:∀ (xs:List Pt) (b:Pt),ZgP ltD (pD b) (xs.map pD)=pD (Zc7 b xs)
 | [],b=>rfl
 | x::xs,b=>by
  simp only [List.map_cons,ZgP,Zc7,ZnN]
  cases ltZ x b
  ·exact Ze2 xs b
  ·exact Ze2 xs x
noncomputable def Zes:List Pt->Pt
 | []=>(0,0)
 | b::xs=>Zc7 b xs
theorem Zec:∀ (xs:List Pt) (b:Pt),Zc7 b xs∈b::xs
 | [],b=>List.mem_singleton.mpr rfl
 | x::xs,b=>by
  unfold Zc7
  have:=Zec xs (if ltZ x b then x else b)
  rcases List.mem_cons.mp this with h | h
  ·rw [h]
   cases ltZ x b
   ·simp
   ·simp
  ·exact List.mem_cons_of_mem _ (List.mem_cons_of_mem _ h)
theorem ZfC {ps:List Pt} (h:ps≠[]):Zes ps∈ps:=by
 cases ps with
 | nil=>exact absurd rfl h
 | cons b xs=>exact Zec xs b
theorem ZgH (ps:List Pt):Zch (ps.map pD)=true:=by
 unfold Zch
 rw [Bool.or_eq_true_iff]
 right
 rw [List.all_eq_true]
 intro d hd
 obtain ⟨p,_,rfl⟩:=List.mem_map.mp hd
 rfl
theorem ZhS {ps:List Pt} (h:ps≠[]) {c:D} (hc:Qx c=some (ps.map pD)):ZdW [c]=some (pD (Zes ps)):=by
 cases ps with
 | nil=>exact absurd rfl h
 | cons b xs=>
  show (Qx c).bind _=_
  rw [hc,Option.bind_some]
  show (if Zch (pD b::xs.map pD)=true then some (ZgP ltD (pD b) (xs.map pD)) else none)=_
  rw [if_pos (by have:=ZgH (b::xs); exact this),Ze2]
  rfl
noncomputable def Zet (m:Pt):List Pt->Nat
 | []=>0
 | x::xs=>if x=m then 0 else Zet m xs+1
theorem ZdN {m:Pt}:∀ {ps:List Pt},m∈ps->ZdO (pD m) (ps.map pD)=some (Zet m ps)
 | [],h=>by cases h
 | x::xs,h=>by
  simp only [List.map_cons,ZdO,Zet,Zcd]
  by_cases e:x=m
  ·rw [if_pos (by simp [e]),if_pos e]
  ·rw [if_neg (by simp [e]),if_neg e]
   have:m∈xs:=(List.mem_cons.mp h).resolve_left fun z=>e z.symm
   rw [ZdN this]; rfl
theorem Zic {m:Pt}:∀ {ps:List Pt},m∈ps->Zet m ps < ps.length/\ps[Zet m ps]?=some m
 | [],h=>by cases h
 | x::xs,h=>by
  unfold Zet
  by_cases e:x=m
  ·rw [if_pos e]; simp [e]
  ·rw [if_neg e]
   have:m∈xs:=(List.mem_cons.mp h).resolve_left fun z=>e z.symm
   obtain ⟨h1,h2⟩:=Zic this
   exact ⟨by simp; exact h1,by rw [List.getElem?_cons_succ]; exact h2⟩
theorem Zl6 {ps:List Pt} {m:Pt} (h:m∈ps) (hl:ps.length<=1000):ZgD (.lst (ps.map pD)) (pD m)=some (.int (Zet m ps:Nat)):=by
 have h1:okD (.lst (ps.map pD))=true:=(ZhI fun d hd=>by obtain ⟨n,_,rfl⟩:=List.mem_map.mp hd; exact VR n).1
 have h2:okD (pD m)=true:=rfl
 have h3:(ps.map pD).length<=lim:=by rw [List.length_map]; exact YD hl
 show (if (okD (pD m)&&okD (.lst (ps.map pD))&&decide ((ps.map pD).length<=lim))=true then (ZdO (pD m) (ps.map pD)).map fun (j:Nat)=>D.int (j:Int) else none)=_
 rw [h1,h2,if_pos (by simpa using h3),ZdN h]
 rfl
noncomputable def Zlr (l:List Pt):List Pt:=l.drop (Zet (Zes l) l)++l.take (Zet (Zes l) l)
noncomputable def Zb4 (ps:List Pt):List Pt:=Zlr (if ZbE ps < 0 then ps.reverse else ps)
theorem Zkb {α:Type} (xs:List α) (k:Nat) (h:k<=xs.length):cutD xs (some (k:Int)) none=xs.drop k:=by
 unfold L3.cutD
 rw [HT.sIx_nat,HT.sIx_none,Nat.min_eq_left h,List.take_of_length_le (by simp)]
theorem ZkU {α:Type} (xs:List α) (k:Nat) (h:k<=xs.length):cutD xs none (some (k:Int))=xs.take k:=by
 unfold L3.cutD
 rw [HT.sIx_nat,HT.sIx_none,Nat.min_eq_left h]
 simp
theorem ZbV {l:List Pt} (hne:l≠[]) (hl:l.length<=1000) (c:D):(Zp (ZM 2 (Ze ZgD (Zd 1) (Zv ZdW (Zb (Zd 1) Zk))))
 (ZT (Zv Yo (Zb (Ze ZE (dSl (Zd 1) (ZN (Zd 2)) Z2) (dSl (Zd 1) Z2 (ZN (Zd 2)))) Zk)))) [.val c,.val (.lst (l.map pD)),.no]=some (.rt (.tup ((Zlr l).map pD))):=by
 have m:=ZhS hne (c:=.lst (l.map pD)) rfl
 have i:=Zl6 (ZfC hne) hl
 obtain ⟨k1,_⟩:=Zic (ZfC hne)
 have c1:=Zkb (l.map pD) (Zet (Zes l) l) (by simp; omega)
 have c2:=ZkU (l.map pD) (Zet (Zes l) l) (by simp; omega)
 have s1:∀ lo hi,Za6 lo hi (.lst (l.map pD))=some (.lst (cutD (l.map pD) lo hi)):=fun _ _=>rfl
 have ad:ZE (.lst ((l.map pD).drop (Zet (Zes l) l))) (.lst ((l.map pD).take (Zet (Zes l) l)))=some (.lst ((Zlr l).map pD)):=by
  show (if _ then _ else _)=_
  rw [if_pos (by simp; exact YD (by omega))]
  unfold Zlr
  rw [List.map_append,List.map_drop,List.map_take]
 have e1:ZM 2 (Ze ZgD (Zd 1) (Zv ZdW (Zb (Zd 1) Zk))) [.val c,.val (.lst (l.map pD)),.no]=some (.nx [.val c,.val (.lst (l.map pD)),.val (.int (Zet (Zes l) l:Nat))]):=by
  simp -implicitDefEqProofs [m,i]
 rw [Zs,e1]
 show ZT _ [.val c,.val (.lst (l.map pD)),.val (.int (Zet (Zes l) l:Nat))]=_
 have e2:(Ze ZE (dSl (Zd 1) (ZN (Zd 2)) Z2) (dSl (Zd 1) Z2 (ZN (Zd 2)))) [.val c,.val (.lst (l.map pD)),.val (.int (Zet (Zes l) l:Nat))]=some (.lst ((Zlr l).map pD)):=by
  simp only [V5,ZpB,Zon,ZlS,ZlT,List.getElem?_cons_succ,List.getElem?_cons_zero,Option.bind_some,s1,c1,c2,ad]
 rw [WQ,Ze0,VE,e2]
 rfl
theorem Zip {c:D} {ps:List Pt} (h:Qx c=some (ps.map pD)) (hne:ps≠[]) (hps:All Sm ps) (hl:ps.length<=1000):Ye [c]=some (.tup ((Zb4 ps).map pD)):=by
 have l1:UO [c]=some (.lst (ps.map pD)):=by cases c <;> first | (cases h; rfl) | cases h
 have a:=ZfM (c:=.lst (ps.map pD)) rfl hne hps
 unfold Ye Zq UJ Zb4
 show (Zp _ (Zp _ (Zp _ _)) [.val c,.no,.no]).bind _=_
 have e1:ZM 1 (Zv UO (Zb (Zd 0) Zk)) [.val c,.no,.no]=some (.nx [.val c,.val (.lst (ps.map pD)),.no]):=by
  simp -implicitDefEqProofs [l1]
 rw [Zs,e1]
 show (Zp _ (Zp _ _) [.val c,.val (.lst (ps.map pD)),.no]).bind _=_
 rw [Zs]
 by_cases ha:ZbE ps < 0
 ·have e2:(ZY (Zn (Ze dLt (dFn 1 YW (Zb (Zd 1) Zk)) (Zg (.int 0)))) (ZM 1 (Zml (Zd 1))) ZA) [.val c,.val (.lst (ps.map pD)),.no]=some (.nx [.val c,.val (.lst (ps.reverse.map pD)),.no]):=by
   simp -implicitDefEqProofs [a,ha]
  rw [e2,if_pos ha]
  show (Zp _ _ [.val c,.val (.lst (ps.reverse.map pD)),.no]).bind _=_
  rw [ZbV (by simpa using hne) (by simpa using hl)]
  rfl
 ·have e2:(ZY (Zn (Ze dLt (dFn 1 YW (Zb (Zd 1) Zk)) (Zg (.int 0)))) (ZM 1 (Zml (Zd 1))) ZA) [.val c,.val (.lst (ps.map pD)),.no]=some (.nx [.val c,.val (.lst (ps.map pD)),.no]):=by
   simp -implicitDefEqProofs [a,ha]
  rw [e2,if_neg ha]
  show (Zp _ _ [.val c,.val (.lst (ps.map pD)),.no]).bind _=_
  rw [ZbV hne hl]
  rfl
theorem Zdq (l:List Pt):(Zlr l).Perm l:=by
 unfold Zlr
 exact List.perm_append_comm.trans (by rw [List.take_append_drop])
theorem ZeT (ps:List Pt):(Zb4 ps).Perm ps:=by
 unfold Zb4
 split
 ·exact (Zdq _).trans (List.reverse_perm ps)
 ·exact Zdq _
noncomputable def ZgN (ps:List Pt):Int->List Pt->List Pt
 | _,[]=>[]
 | k,a::r=>if ZQ (cyc ps (k-1)) a (cyc ps (k+1))=0 then ZgN ps (k+1) r else a::ZgN ps (k+1) r
noncomputable def walk:Pt->List Pt->Pt->List Pt
 | _,[],_=>[]
 | p,[a],n=>if ZQ p a n=0 then [] else [a]
 | p,a::b::r,n=>if ZQ p a b=0 then walk a (b::r) n else a::walk a (b::r) n
noncomputable def Zar (ps:List Pt):List Pt:=ZgN ps 0 ps
theorem Zfe:∀ (xs:List Pt) (p y n:Pt) (ys:List Pt),walk p (xs++y::ys) n=walk p xs y++walk ((p::xs).getLast (by simp)) (y::ys) n
 | [],p,y,n,ys=>rfl
 | [a],p,y,n,ys=>by
  show walk p (a::y::ys) n=_
  simp only [walk,List.getLast_cons_cons,List.getLast_singleton]
  split <;> rfl
 | a::b::xs,p,y,n,ys=>by
  have ih:=Zfe (b::xs) a y n ys
  show walk p (a::b::(xs++y::ys)) n=_
  have e:((p::a::b::xs).getLast (by simp))=((a::b::xs).getLast (by simp)):=List.getLast_cons_cons ..
  rw [e]
  simp only [walk]
  simp only [List.cons_append] at ih
  split
  ·rw [ih]
  ·rw [ih]; rfl
theorem ZdP (ps:List Pt):∀ (ys:List Pt) (k:Nat),ps.drop k=ys->ZgN ps k ys=walk (cyc ps ((k:Int)-1)) ys (cyc ps 0)
 | [],k,_=>rfl
 | [a],k,h=>by
  have hk:k+1=ps.length:=by
   have:=congrArg List.length h
   simp at this; omega
  have e:cyc ps ((k:Int)+1)=cyc ps 0:=by
   have:=QO ps 0
   rw [Int.zero_add] at this
   rw [<-this]
   congr 1
   omega
  unfold ZgN walk
  rw [e]
  rfl
 | a::b::r,k,h=>by
  have hk:k < ps.length:=by
   by_cases z:k < ps.length
   ·exact z
   ·rw [List.drop_eq_nil_of_le (by omega)] at h; cases h
  rw [List.drop_eq_getElem_cons hk] at h
  injection h with h1 h2
  have hk1:k+1 < ps.length:=by
   by_cases z:k+1 < ps.length
   ·exact z
   ·rw [List.drop_eq_nil_of_le (by omega)] at h2; cases h2
  have h2':=h2
  rw [List.drop_eq_getElem_cons hk1] at h2'
  injection h2' with h3 _
  have ih:=ZdP ps (b::r) (k+1) h2
  have e1:cyc ps ((k:Int)+1)=b:=by
   have:=UQ hk1
   rw [<-h3,<-this]; rfl
  have e2:cyc ps (((k+1:Nat):Int)-1)=a:=by
   have:=UQ hk
   rw [<-h1,<-this]; congr 1; omega
  rw [e2] at ih
  have ih':ZgN ps ((k:Int)+1) (b::r)=walk a (b::r) (cyc ps 0):=ih
  conv=>lhs; unfold ZgN
  rw [e1,ih']
  rfl
theorem Zf4 {p:Pt} {ps:List Pt}:Zar (p::ps)=walk ((p::ps).getLast (by simp)) (p::ps) p:=by
 have h:=ZdP (p::ps) (p::ps) 0 rfl
 have e0:cyc (p::ps) 0=p:=UQ (ps:=p::ps) (k:=0) (by simp)
 have e1:cyc (p::ps) (((0:Nat):Int)-1)=(p::ps).getLast (by simp):=by
  have a:=QO (p::ps) (((0:Nat):Int)-1)
  rw [<-a]
  have b:=UQ (ps:=p::ps) (k:=ps.length) (by simp)
  have c:(((0:Nat):Int)-1+(((p::ps).length:Nat):Int))=(ps.length:Int):=by simp; omega
  rw [c,b,List.getLast_eq_getElem]
  simp
 rw [e0,e1] at h
 exact h
theorem Zal (ps:List Pt):∀ (ys:List Pt) (k:Int),(ZgN ps k ys).Sublist ys
 | [],k=>List.Sublist.refl _
 | a::r,k=>by
  unfold ZgN
  split
  ·exact (Zal ps r _).cons _
  ·exact (Zal ps r _).cons₂ _
noncomputable def ZmF:DT:=(Zn (Ze QI (dFn 3 Z3 (Zb (Ze dIx (Zd 2) (Ze QH (Zd 0) (Zg (.int 1)))) (Zb (Zd 1) (Zb (dFn 3 Zx (Zb (Zd 2) (Zb (Zd 0) (Zb (Zg (.int 1)) Zk)))) Zk)))) (Zg (.int 0))))
theorem ZkP {ps:List Pt} (hne:ps≠[]) (hps:All Sm ps):∀ (ys:List Pt) (k:Nat) (s0 s1:Sl),All Sm ys->k+ys.length<=ps.length->Yh (Y1 0 1) ZmF (Zd 1) (Qa k (ys.map pD)) (s0::s1::[.val (.lst (ps.map pD))])=some ((ZgN ps k ys).map pD)
 | [],k,s0,s1,_,_=>rfl
 | a::ys,k,s0,s1,hs,hl=>by
  simp only [List.length_cons] at hl
  have x:=Zl3 (ps:=ps) (i:=(k:Int)-1) (by omega) (by omega)
  have n:=U1 (c:=.lst (ps.map pD)) (ps:=ps) rfl hne k 1
  have t:=Yy (hps _ (YX hne ((k:Int)-1))) (hs a List.mem_cons_self) (hps _ (YX hne ((k:Int)+1)))
  have ih:=ZkP hne hps ys (k+1) (.val (.int k)) (.val (pD a)) (fun p hp=>hs p (List.mem_cons_of_mem _ hp)) (by omega)
  have e:ZmF [.val (.int k),.val (pD a),.val (.lst (ps.map pD))]=some (!decide (ZQ (cyc ps ((k:Int)-1)) a (cyc ps ((k:Int)+1))=0)):=by
   unfold ZmF
   simp -implicitDefEqProofs [x,n,t]
  have ih':Yh (Y1 0 1) ZmF (Zd 1) (Qa (k+1) (ys.map pD)) [.val (.int k),.val (pD a),.val (.lst (ps.map pD))]=some ((ZgN ps ((k:Int)+1) ys).map pD):=ih
  simp only [List.map_cons,Qa,Yh,Zc9,List.set_cons_zero,List.set_cons_succ,Option.bind_some]
  rw [e]
  unfold ZgN
  by_cases ht:ZQ (cyc ps ((k:Int)-1)) a (cyc ps ((k:Int)+1))=0
  ·rw [if_pos ht]
   simp only [ht,decide_true,Bool.not_true,Option.bind_some]
   exact ih'
  ·rw [if_neg ht]
   simp only [ht,decide_false,Bool.not_false,Option.bind_some]
   rw [ih']
   rfl
noncomputable def Vr:DS:=(Zp (ZM 6 (Zd 5)) (ZM 5 (YH [none,none,some 6] (JN (Zd 6)) (Y1 0 1) ZmF (Zd 1))))
theorem Zjp {ps:List Pt} (hne:ps≠[]) (hps:All Sm ps) (hl:ps.length<=1000) (a b c d e:Sl) (l:Sl):Vr [a,b,c,d,e,.val (.lst (ps.map pD)),l]=some (.nx [a,b,c,d,e,.val (.lst ((Zar ps).map pD)),.val (.lst (ps.map pD))]):=by
 unfold Vr
 have e1:ZM 6 (Zd 5) [a,b,c,d,e,.val (.lst (ps.map pD)),l]=some (.nx [a,b,c,d,e,.val (.lst (ps.map pD)),.val (.lst (ps.map pD))]):=by
  simp -implicitDefEqProofs
 rw [Zs,e1]
 show ZM 5 _ [a,b,c,d,e,.val (.lst (ps.map pD)),.val (.lst (ps.map pD))]=_
 rw [Qi,WB]
 have e2:JN (Zd 6) [a,b,c,d,e,.val (.lst (ps.map pD)),.val (.lst (ps.map pD))]=some (Qa 0 (ps.map pD)):=ZcY rfl rfl
 rw [e2,Option.bind_some,if_pos (by rw [V3,List.length_map]; exact YD hl)]
 have e3:=ZkP hne hps ps 0 .no .no hps (by omega)
 have e3':Yh (Y1 0 1) ZmF (Zd 1) (Qa 0 (ps.map pD)) (JE [none,none,some 6] [a,b,c,d,e,.val (.lst (ps.map pD)),.val (.lst (ps.map pD))])=some ((Zar ps).map pD):=e3
 rw [e3']
 rfl
structure SawI (far:Int) (L U:List Pt):Prop where
 ln:L≠[]
 un:U≠[]
 lx:((0,0)::L++[(far,0)]:List Pt).Pairwise (fun p q=>p.1 < q.1)
 ux:((far,0)::U++[(0,0)]:List Pt).Pairwise (fun p q=>q.1 < p.1)
 ly:∀ p∈L,p.2 < 0
 uy:∀ p∈U,0 < p.2
noncomputable def QV (far:Int) (L U:List Pt):List Pt:=(0,0)::(L++(far,0)::U)
theorem Zac:∀ (xs:List Pt) (p n:Pt),(walk p xs n).Sublist xs
 | [],p,n=>List.Sublist.refl _
 | [a],p,n=>by
  unfold walk
  split
  ·exact List.nil_sublist _
  ·exact List.Sublist.refl _
 | a::b::r,p,n=>by
  unfold walk
  split
  ·exact (Zac (b::r) a n).cons _
  ·exact (Zac (b::r) a n).cons₂ _
theorem Zcu (p a n:Pt):ZQ p a n=(a.1-p.1)*(n.2-a.2)-(a.2-p.2)*(n.1-a.1):=by
 unfold ZQ
 have e1:n.2-p.2=(n.2-a.2)+(a.2-p.2):=by omega
 have e2:n.1-p.1=(n.1-a.1)+(a.1-p.1):=by omega
 rw [e1,e2,Int.mul_add,Int.mul_add,Int.mul_comm (a.1-p.1) (a.2-p.2)]
 omega
theorem ZfO {p a n:Pt} (h1:p.1 < a.1) (h2:a.1 < n.1) (h3:a.2 < p.2) (h:ZQ p a n=0):n.2 < a.2:=by
 rw [Zcu] at h
 apply Int.not_le.mp
 intro hle
 have q1:0<=(a.1-p.1)*(n.2-a.2):=Int.mul_nonneg (by omega) (by omega)
 have q2:(a.2-p.2)*(n.1-a.1) < 0:=Int.mul_neg_of_neg_of_pos (by omega) (by omega)
 omega
theorem Zko {p a n:Pt} (h1:a.1 < p.1) (h2:n.1 < a.1) (h3:p.2 < a.2) (h:ZQ p a n=0):a.2 < n.2:=by
 rw [Zcu] at h
 apply Int.not_le.mp
 intro hle
 have q1:0<=(a.1-p.1)*(n.2-a.2):=Int.mul_nonneg_of_nonpos_of_nonpos (by omega) (by omega)
 have q2:(a.2-p.2)*(n.1-a.1) < 0:=Int.mul_neg_of_pos_of_neg (by omega) (by omega)
 omega
theorem ZfP:∀ (r:List Pt) (p a n:Pt),(p::(a::r)++[n]:List Pt).Pairwise (fun p q=>p.1 < q.1)->a.2 < p.2->walk p (a::r) n=[]->n.2 < a.2
 | [],p,a,n,hx,hy,hw=>by
  simp at hx
  have ht:ZQ p a n=0:=by
   unfold walk at hw
   by_cases z:ZQ p a n=0
   ·exact z
   ·rw [if_neg z] at hw; cases hw
  exact ZfO hx.1.1 hx.2 hy ht
 | b::r,p,a,n,hx,hy,hw=>by
  have hx':(a::(b::r)++[n]:List Pt).Pairwise (fun p q=>p.1 < q.1):=(List.pairwise_cons.mp hx).2
  have ab:a.1 < b.1:=(List.pairwise_cons.mp hx').1 b (by simp)
  have pa:p.1 < a.1:=(List.pairwise_cons.mp hx).1 a (by simp)
  unfold walk at hw
  by_cases z:ZQ p a b=0
  ·rw [if_pos z] at hw
   have hb:=ZfO pa ab hy z
   have:=ZfP r a b n hx' hb hw
   omega
  ·rw [if_neg z] at hw; cases hw
theorem Zkp:∀ (r:List Pt) (p a n:Pt),(p::(a::r)++[n]:List Pt).Pairwise (fun p q=>q.1 < p.1)->p.2 < a.2->walk p (a::r) n=[]->a.2 < n.2
 | [],p,a,n,hx,hy,hw=>by
  simp at hx
  have ht:ZQ p a n=0:=by
   unfold walk at hw
   by_cases z:ZQ p a n=0
   ·exact z
   ·rw [if_neg z] at hw; cases hw
  exact Zko hx.1.1 hx.2 hy ht
 | b::r,p,a,n,hx,hy,hw=>by
  have hx':(a::(b::r)++[n]:List Pt).Pairwise (fun p q=>q.1 < p.1):=(List.pairwise_cons.mp hx).2
  have ab:b.1 < a.1:=(List.pairwise_cons.mp hx').1 b (by simp)
  have pa:a.1 < p.1:=(List.pairwise_cons.mp hx).1 a (by simp)
  unfold walk at hw
  by_cases z:ZQ p a b=0
  ·rw [if_pos z] at hw
   have hb:=Zko pa ab hy z
   have:=Zkp r a b n hx' hb hw
   omega
  ·rw [if_neg z] at hw; cases hw
theorem SawI.low {far:Int} {L U:List Pt} (S:SawI far L U):∀ p∈L,0 < p.1/\p.1 < far:=fun p hp=>by
 have h:=S.lx
 refine ⟨(List.pairwise_cons.mp h).1 p (by simp [hp]),?_⟩
 have h2:=(List.pairwise_cons.mp h).2
 exact (List.pairwise_append.mp h2).2.2 p hp (far,0) (by simp)
theorem SawI.upp {far:Int} {L U:List Pt} (S:SawI far L U):∀ p∈U,0 < p.1/\p.1 < far:=fun p hp=>by
 have h:=S.ux
 have h1:=(List.pairwise_cons.mp h).1 p (by simp [hp])
 have h2:=(List.pairwise_cons.mp h).2
 exact ⟨(List.pairwise_append.mp h2).2.2 p hp (0,0) (by simp),h1⟩
theorem SawI.step {far:Int} {L U:List Pt} (S:SawI far L U):Zar (QV far L U)=QV far (walk (0,0) L (far,0)) (walk (far,0) U (0,0))/\SawI far (walk (0,0) L (far,0)) (walk (far,0) U (0,0)):=by
 have sL:=Zac L (0,0) (far,0)
 have sU:=Zac U (far,0) (0,0)
 refine ⟨?_,?_,?_,?_,?_,fun p hp=>S.ly p (sL.mem hp),fun p hp=>S.uy p (sU.mem hp)⟩
 ·obtain ⟨l1,L',rfl⟩:∃ l1 L',L=l1::L':=by
   cases L with
   | nil=>exact absurd rfl S.ln
   | cons a r=>exact ⟨a,r,rfl⟩
  obtain ⟨u1,U',rfl⟩:∃ u1 U',U=u1::U':=by
   cases U with
   | nil=>exact absurd rfl S.un
   | cons a r=>exact ⟨a,r,rfl⟩
  unfold QV
  rw [Zf4]
  have g1:(((0,0):Pt)::((l1::L')++(far,0)::u1::U')).getLast (by simp)=(u1::U').getLast (by simp):=by
   rw [List.getLast_cons (by simp),List.getLast_append_of_ne_nil (by simp) (by simp),List.getLast_cons (by simp)]
  rw [g1]
  have sp:((0,0):Pt)::((l1::L')++(far,0)::u1::U')=((0,0)::l1::L')++(far,0)::u1::U':=rfl
  rw [sp,Zfe]
  have lu:=(u1::U').getLast_mem (by simp)
  have ll:=(l1::L').getLast_mem (by simp)
  generalize hlu:(u1::U').getLast (by simp)=q at lu
  have qx:=S.upp q lu
  have qy:=S.uy q lu
  have l1x:=S.low l1 (by simp)
  have l1y:=S.ly l1 (by simp)
  have t1:ZQ q (0,0) l1≠0:=by
   have e:ZQ q (0,0) l1=q.2*l1.1-q.1*l1.2:=by
    rw [Zcu]; simp
    rw [Int.neg_mul,Int.neg_mul]; omega
   have z1:0 < q.2*l1.1:=Int.mul_pos qy l1x.1
   have z2:q.1*l1.2 < 0:=Int.mul_neg_of_pos_of_neg qx.1 l1y
   omega
  have w1:walk q ((0,0)::l1::L') (far,0)=(0,0)::walk (0,0) (l1::L') (far,0):=by
   conv=>lhs; unfold walk
   rw [if_neg t1]
  rw [w1]
  have g2:(q::(0,0)::l1::L').getLast (by simp)=(l1::L').getLast (by simp):=by
   rw [List.getLast_cons (by simp),List.getLast_cons (by simp)]
  rw [g2]
  generalize hll:(l1::L').getLast (by simp)=m at ll
  have mx:=S.low m ll
  have my:=S.ly m ll
  have u1x:=S.upp u1 (by simp)
  have u1y:=S.uy u1 (by simp)
  have t2:ZQ m (far,0) u1≠0:=by
   have e:ZQ m (far,0) u1=(far-m.1)*u1.2+m.2*(u1.1-far):=by
    rw [Zcu]; simp
    rw [Int.neg_mul]; omega
   have z1:0 < (far-m.1)*u1.2:=Int.mul_pos (by omega) u1y
   have z2:0 < m.2*(u1.1-far):=Int.mul_pos_of_neg_of_neg my (by omega)
   omega
  have w2:walk m ((far,0)::u1::U') (0,0)=(far,0)::walk (far,0) (u1::U') (0,0):=by
   conv=>lhs; unfold walk
   rw [if_neg t2]
  rw [w2]
  rfl
 ·intro hw
  obtain ⟨l1,L',rfl⟩:∃ l1 L',L=l1::L':=by
   cases L with
   | nil=>exact absurd rfl S.ln
   | cons a r=>exact ⟨a,r,rfl⟩
  have:=ZfP L' (0,0) l1 (far,0) S.lx (S.ly l1 (by simp)) hw
  have:=S.ly l1 (by simp)
  simp at *
  omega
 ·intro hw
  obtain ⟨u1,U',rfl⟩:∃ u1 U',U=u1::U':=by
   cases U with
   | nil=>exact absurd rfl S.un
   | cons a r=>exact ⟨a,r,rfl⟩
  have:=Zkp U' (far,0) u1 (0,0) S.ux (S.uy u1 (by simp)) hw
  have:=S.uy u1 (by simp)
  simp at *
  omega
 ·exact S.lx.sublist ((sL.append (List.Sublist.refl _)).cons₂ _)
 ·exact S.ux.sublist ((sU.append (List.Sublist.refl _)).cons₂ _)
noncomputable def Zlo:DT:=(Zn (Ze QI (Zv Qs (Zb (Zd 6) Zk)) (Zv Qs (Zb (Zd 5) Zk))))
theorem Zm5 (a b c d e:Sl) (ps left:List Pt):Zlo [a,b,c,d,e,.val (.lst (ps.map pD)),.val (.lst (left.map pD))]=some (!decide (left.length=ps.length)):=by
 unfold Zlo
 simp -implicitDefEqProofs
 by_cases h:left.length=ps.length
 ·simp [h]
 ·have:¬ (left.length:Int)=(ps.length:Int):=by omega
  simp [h,this]
theorem ZcC (far:Int) (L U:List Pt):(QV far L U).length=L.length+U.length+2:=by simp [QV]; omega
theorem Zhj (far:Int) (L U:List Pt):QV far L U≠[]:=by simp [QV]
theorem Zfn {far:Int} (a b c d e:Sl):∀ (m:Nat) (L U left:List Pt),SawI far L U->All Sm (QV far L U)->(QV far L U).length<=1000->(left=[]\/(QV far L U=Zar left)) ->
  ((QV far L U).length+1<=m\/(left.length=(QV far L U).length/\1<=m)) ->
  ∃ L' U',SawI far L' U'/\Zar (QV far L' U')=QV far L' U'/\(QV far L' U').Sublist (QV far L U)/\∃ l,
   Jf Zlo Vr m [a,b,c,d,e,.val (.lst ((QV far L U).map pD)),.val (.lst (left.map pD))]=some (.nx [a,b,c,d,e,.val (.lst ((QV far L' U').map pD)),l])
 | 0,L,U,left,S,hs,hl,hst,hm=>by omega
 | m+1,L,U,left,S,hs,hl,hst,hm=>by
  have t:=Zm5 a b c d e (QV far L U) left
  by_cases heq:left.length=(QV far L U).length
  ·refine ⟨L,U,S,?_,List.Sublist.refl _,.val (.lst (left.map pD)),?_⟩
   ·rcases hst with rfl | hst
    ·rw [ZcC] at heq; simp at heq
    ·have sub:(Zar left).Sublist left:=Zal left left 0
     rw [<-hst] at sub
     have:=sub.eq_of_length heq.symm
     rw [this]
     rw [this] at hst
     exact hst.symm
   ·unfold Jf
    rw [t]
    simp [heq]
  ·have hm':(QV far L U).length+1<=m+1:=by
    rcases hm with hm | ⟨hm,_⟩
    ·exact hm
    ·exact absurd hm heq
   have bd:=Zjp (Zhj far L U) hs hl a b c d e (.val (.lst (left.map pD)))
   obtain ⟨st,S'⟩:=S.step
   have sub:(Zar (QV far L U)).Sublist (QV far L U):=Zal _ _ 0
   have un:Jf Zlo Vr (m+1) [a,b,c,d,e,.val (.lst ((QV far L U).map pD)),.val (.lst (left.map pD))]=Jf Zlo Vr m [a,b,c,d,e,.val (.lst ((Zar (QV far L U)).map pD)),.val (.lst ((QV far L U).map pD))]:=by
    conv=>lhs; unfold Jf
    rw [t,bd]
    simp [heq]
   rw [un]
   rw [st] at sub ⊢
   have:=Zfn (far:=far) a b c d e m _ _ (QV far L U) S' (fun p hp=>hs p (sub.mem hp)) (Nat.le_trans sub.length_le hl) (.inr st.symm) (by
    have l:=sub.length_le
    have p:1<=(QV far L U).length:=by rw [ZcC]; omega
    omega)
   obtain ⟨L',U',h1,h2,h3,l,h4⟩:=this
   exact ⟨L',U',h1,h2,h3.trans sub,l,h4⟩
noncomputable def ZcU (n wide:Int) (k:Nat):Pt:=(1+(k:Int),-1-JQ n k % wide)
noncomputable def W5 (n wide far:Int) (k:Nat):Pt:=(far-1-(k:Int),1+JQ n (9+(k:Int)) % wide)
theorem ZnP {n wide:Int} (hw:0 < wide) (m:Nat):Yh (Zz 0) ZH (Qr (Zb (Ze ZE (Zg (.int 1)) (Zd 0)) (Zb (Ze QH (Jc Zce (Zg (.int 1))) (Ze Yu (dFn 2 Zw (Zb (Zd 2) (Zb (Zd 0) Zk))) (Zd 1))) Zk))) (QC 0 m) (.no::[.val (.int wide),.val (.int n)]) =
  some ((QC 0 m).map fun x=>match x with | .int k=>pD (ZcU n wide k.toNat) | _=>.non):=by
 refine Ud fun x hx=>?_
 unfold QC at hx
 obtain ⟨k,hk,rfl⟩:=List.mem_map.mp hx
 have e1:=UM n (k:Int)
 have d:=fun z=>Qq (i:=z) (j:=wide) hw
 simp only [Int.zero_add]
 simp -implicitDefEqProofs [e1,d,pD,ZcU]
theorem Zma {n wide far:Int} (hw:0 < wide) (m:Nat):Yh (Zz 0) ZH (Qr (Zb (Ze QH (Ze QH (Zd 1) (Zg (.int 1))) (Zd 0)) (Zb (Ze ZE (Zg (.int 1)) (Ze Yu (dFn 2 Zw (Zb (Zd 3) (Zb (Ze ZE (Zg (.int 9)) (Zd 0)) Zk))) (Zd 2))) Zk))) (QC 0 m) (.no::[.val (.int far),.val (.int wide),.val (.int n)]) =
  some ((QC 0 m).map fun x=>match x with | .int k=>pD (W5 n wide far k.toNat) | _=>.non):=by
 refine Ud fun x hx=>?_
 unfold QC at hx
 obtain ⟨k,hk,rfl⟩:=List.mem_map.mp hx
 have e1:=UM n (9+(k:Int))
 have d:=fun z=>Qq (i:=z) (j:=wide) hw
 simp only [Int.zero_add]
 simp -implicitDefEqProofs [e1,d,pD,W5]
theorem ZjG (m:Nat) (f:Nat->Pt):(QC 0 m).map (fun x=>match x with | .int k=>pD (f k.toNat) | _=>.non)=((List.range m).map f).map pD:=by
 unfold QC
 rw [List.map_map,List.map_map]
 apply List.map_congr_left
 intro k _
 simp only [Function.comp]
 rw [Int.zero_add,Int.toNat_natCast]
theorem Zhi {n wide far:Int} (hw:0 < wide) {lo hi:Nat} (h1:1<=lo) (h2:1<=hi) (hf1:(lo:Int) < far) (hf2:(hi:Int) < far):SawI far ((List.range lo).map (ZcU n wide)) ((List.range hi).map (W5 n wide far)):=by
 have mp:∀ z,0<=z % wide:=fun z=>Int.emod_nonneg z (by omega)
 refine ⟨?_,?_,?_,?_,fun p hp=>?_,fun p hp=>?_⟩
 ·intro z; have:=congrArg List.length z; simp at this; omega
 ·intro z; have:=congrArg List.length z; simp at this; omega
 ·rw [List.cons_append,List.pairwise_cons]
  refine ⟨fun q hq=>?_,?_⟩
  ·rcases List.mem_append.mp hq with hq | hq
   ·obtain ⟨k,_,rfl⟩:=List.mem_map.mp hq
    show (0:Int) < 1+k; omega
   ·rw [List.mem_singleton] at hq; subst hq
    show (0:Int) < far; omega
  ·rw [List.pairwise_append]
   refine ⟨?_,List.pairwise_singleton _ _,fun p hp q hq=>?_⟩
   ·rw [List.pairwise_map]
    exact List.pairwise_lt_range.imp fun {i j} h=>by show 1+(i:Int) < 1+(j:Int); omega
   ·obtain ⟨k,hk,rfl⟩:=List.mem_map.mp hp
    have hk:=List.mem_range.mp hk
    rw [List.mem_singleton] at hq; subst hq
    show 1+(k:Int) < far; omega
 ·rw [List.cons_append,List.pairwise_cons]
  refine ⟨fun q hq=>?_,?_⟩
  ·rcases List.mem_append.mp hq with hq | hq
   ·obtain ⟨k,_,rfl⟩:=List.mem_map.mp hq
    show far-1-(k:Int) < far; omega
   ·rw [List.mem_singleton] at hq; subst hq
    show (0:Int) < far; omega
  ·rw [List.pairwise_append]
   refine ⟨?_,List.pairwise_singleton _ _,fun p hp q hq=>?_⟩
   ·rw [List.pairwise_map]
    exact List.pairwise_lt_range.imp fun {i j} h=>by show far-1-(j:Int) < far-1-(i:Int); omega
   ·obtain ⟨k,hk,rfl⟩:=List.mem_map.mp hp
    have hk:=List.mem_range.mp hk
    rw [List.mem_singleton] at hq; subst hq
    show (0:Int) < far-1-(k:Int); omega
 ·obtain ⟨k,_,rfl⟩:=List.mem_map.mp hp
  have:=mp (JQ n k)
  show -1-JQ n k % wide < 0; omega
 ·obtain ⟨k,_,rfl⟩:=List.mem_map.mp hp
  have:=mp (JQ n (9+(k:Int)))
  show 0 < 1+JQ n (9+(k:Int)) % wide; omega
noncomputable def Rg (m:Int) (p:Pt):Prop:=(-m<=p.1/\p.1<=m)/\(-m<=p.2/\p.2<=m)
theorem Ze7 {xs ys:List D} (h:xs.length+ys.length<=1000):ZE (.lst xs) (.lst ys)=some (.lst (xs++ys)):=by
 show (if _ then _ else _)=_
 rw [if_pos (YD h)]
theorem Zmf {n wide:Int} (hw:0 < wide) (hw2:wide<=1000):∃ far L U,SawI far L U/\Zar (QV far L U)=QV far L U/\(∀ p∈QV far L U,(0<=p.1/\p.1<=6)/\(-wide<=p.2/\p.2<=wide))/\(QV far L U).length<=12 /\
  QY [.int n,.int wide]=some (.lst ((QV far L U).map pD)):=by
 have q1:=Int.emod_nonneg n (show (5:Int)≠0 by omega)
 have q2:=Int.emod_lt_of_pos n (show (0:Int) < 5 by omega)
 have q3:=Int.emod_nonneg (n / 5) (show (5:Int)≠0 by omega)
 have q4:=Int.emod_lt_of_pos (n / 5) (show (0:Int) < 5 by omega)
 obtain ⟨lo,hlo⟩:∃ lo:Nat,(lo:Int)=1+n % 5:=⟨(1+n % 5).toNat,by omega⟩
 obtain ⟨hi,hhi⟩:∃ hi:Nat,(hi:Int)=1+n / 5 % 5:=⟨(1+n / 5 % 5).toNat,by omega⟩
 have mp:∀ z,0<=z % wide/\z % wide < wide:=fun z=>⟨Int.emod_nonneg z (by omega),Int.emod_lt_of_pos z hw⟩
 generalize hfar:1+max (lo:Int) (hi:Int)=far
 have S0:=Zhi (n:=n) (wide:=wide) (far:=far) hw (lo:=lo) (hi:=hi) (by omega) (by omega) (by omega) (by omega)
 have B0:∀ p∈QV far ((List.range lo).map (ZcU n wide)) ((List.range hi).map (W5 n wide far)),(0<=p.1/\p.1<=6)/\(-wide<=p.2/\p.2<=wide):=by
  intro p hp
  unfold QV at hp
  rcases List.mem_cons.mp hp with rfl | hp
  ·exact ⟨⟨by omega,by omega⟩,by simp; omega,by simp; omega⟩
  ·rcases List.mem_append.mp hp with hp | hp
   ·obtain ⟨k,hk,rfl⟩:=List.mem_map.mp hp
    have hk:=List.mem_range.mp hk
    have:=mp (JQ n k)
    show (0<=1+(k:Int)/\1+(k:Int)<=6)/\(-wide<=-1-JQ n k % wide/\-1-JQ n k % wide<=wide)
    omega
   ·rcases List.mem_cons.mp hp with rfl | hp
    ·show (0<=far/\far<=6)/\(-wide<=0/\0<=wide)
     omega
    ·obtain ⟨k,hk,rfl⟩:=List.mem_map.mp hp
     have hk:=List.mem_range.mp hk
     have:=mp (JQ n (9+(k:Int)))
     show (0<=far-1-(k:Int)/\far-1-(k:Int)<=6)/\(-wide<=1+JQ n (9+(k:Int)) % wide/\1+JQ n (9+(k:Int)) % wide<=wide)
     omega
 have Zpl:(QV far ((List.range lo).map (ZcU n wide)) ((List.range hi).map (W5 n wide far))).length<=12:=by rw [ZcC]; simp; omega
 have Sm0:All Sm (QV far ((List.range lo).map (ZcU n wide)) ((List.range hi).map (W5 n wide far))):=fun p hp=>by
  have:=B0 p hp
  exact ⟨⟨by omega,by omega⟩,by omega,by omega⟩
 obtain ⟨L',U',h1,h2,h3,l,h4⟩:=Zfn (far:=far) (.val (.int n)) (.val (.int wide)) (.val (.int lo)) (.val (.int hi)) (.val (.int far)) 3000 _ _ [] S0 Sm0 (by omega) (.inl rfl) (.inl (by omega))
 refine ⟨far,L',U',h1,h2,fun p hp=>B0 p (h3.mem hp),Nat.le_trans h3.length_le Zpl,?_⟩
 have d5:=Qq (i:=n) (j:=5) (by omega)
 have v5:=Wy (i:=n) (j:=5) (by omega) (by omega)
 have d5':=Qq (i:=n / 5) (j:=5) (by omega)
 have r1:=YO (n:=(lo:Int)) (by omega) (by omega)
 have r2:=YO (n:=(hi:Int)) (by omega) (by omega)
 have k1:(QC 0 lo).length<=lim:=by rw [Zah]; exact YD (by omega)
 have k2:(QC 0 hi).length<=lim:=by rw [Zah]; exact YD (by omega)
 have cl:=ZnP (n:=n) hw lo
 have ch:=Zma (n:=n) (far:=far) hw hi
 rw [ZjG] at cl ch
 unfold QY Zq Zb7
 show (Zp _ (Zp _ (Zp _ (Zp _ (Zp _ (Zp _ (Zp _ _)))))) [.val (.int n),.val (.int wide),.no,.no,.no,.no,.no]).bind _=_
 have e1:ZM 2 (Ze ZE (Zg (.int 1)) (Ze Yu (Zd 0) (Zg (.int 5)))) [.val (.int n),.val (.int wide),.no,.no,.no,.no,.no]=some (.nx [.val (.int n),.val (.int wide),.val (.int lo),.no,.no,.no,.no]):=by
  simp -implicitDefEqProofs [d5,hlo]
 rw [Zs,e1]
 show (Zp _ (Zp _ (Zp _ (Zp _ (Zp _ (Zp _ _))))) [.val (.int n),.val (.int wide),.val (.int lo),.no,.no,.no,.no]).bind _=_
 have e2:ZM 3 (Ze ZE (Zg (.int 1)) (Ze Yu (Ze Qu (Zd 0) (Zg (.int 5))) (Zg (.int 5)))) [.val (.int n),.val (.int wide),.val (.int lo),.no,.no,.no,.no]=some (.nx [.val (.int n),.val (.int wide),.val (.int lo),.val (.int hi),.no,.no,.no]):=by
  simp -implicitDefEqProofs [v5,d5',hhi]
 rw [Zs,e2]
 show (Zp _ (Zp _ (Zp _ (Zp _ (Zp _ _)))) [.val (.int n),.val (.int wide),.val (.int lo),.val (.int hi),.no,.no,.no]).bind _=_
 have e3:ZM 4 (Ze ZE (Zg (.int 1)) (Zv ZdX (Zb (Zd 2) (Zb (Zd 3) Zk)))) [.val (.int n),.val (.int wide),.val (.int lo),.val (.int hi),.no,.no,.no]=some (.nx [.val (.int n),.val (.int wide),.val (.int lo),.val (.int hi),.val (.int far),.no,.no]):=by
  simp -implicitDefEqProofs
  rw [<-hfar]; omega
 rw [Zs,e3]
 show (Zp _ (Zp _ (Zp _ (Zp _ _))) [.val (.int n),.val (.int wide),.val (.int lo),.val (.int hi),.val (.int far),.no,.no]).bind _=_
 have c1:(YH [none,some 1,some 0] (ZbC (Zd 2)) (Zz 0) ZH (Qr (Zb (Ze ZE (Zg (.int 1)) (Zd 0)) (Zb (Ze QH (Jc Zce (Zg (.int 1))) (Ze Yu (dFn 2 Zw (Zb (Zd 2) (Zb (Zd 0) Zk))) (Zd 1))) Zk)))) [.val (.int n),.val (.int wide),.val (.int lo),.val (.int hi),.val (.int far),.no,.no]=some (.lst (((List.range lo).map (ZcU n wide)).map pD)):=by
  have i:ZbC (Zd 2) [.val (.int n),.val (.int wide),.val (.int lo),.val (.int hi),.val (.int far),.no,.no]=some (QC 0 lo):=by simp -implicitDefEqProofs [r1]
  rw [WB,i,Option.bind_some,if_pos k1]
  have cl':Yh (Zz 0) ZH (Qr (Zb (Ze ZE (Zg (.int 1)) (Zd 0)) (Zb (Ze QH (Jc Zce (Zg (.int 1))) (Ze Yu (dFn 2 Zw (Zb (Zd 2) (Zb (Zd 0) Zk))) (Zd 1))) Zk))) (QC 0 lo) (JE [none,some 1,some 0] [.val (.int n),.val (.int wide),.val (.int lo),.val (.int hi),.val (.int far),.no,.no])=_:=cl
  rw [cl']; rfl
 have a1:=Ze7 (xs:=[pD (0,0)]) (ys:=((List.range lo).map (ZcU n wide)).map pD) (by simp; omega)
 have a2:=Ze7 (xs:=[pD (0,0)]++((List.range lo).map (ZcU n wide)).map pD) (ys:=[pD (far,0)]) (by simp; omega)
 have e4:ZM 5 (Ze ZE (Ze ZE (Wz (Zb (Qr (Zb (Zg (.int 0)) (Zb (Zg (.int 0)) Zk))) Zk)) (YH [none,some 1,some 0] (ZbC (Zd 2)) (Zz 0) ZH (Qr (Zb (Ze ZE (Zg (.int 1)) (Zd 0)) (Zb (Ze QH (Jc Zce (Zg (.int 1))) (Ze Yu (dFn 2 Zw (Zb (Zd 2) (Zb (Zd 0) Zk))) (Zd 1))) Zk))))) (Wz (Zb (Qr (Zb (Zd 4) (Zb (Zg (.int 0)) Zk))) Zk))) [.val (.int n),.val (.int wide),.val (.int lo),.val (.int hi),.val (.int far),.no,.no] =
   some (.nx [.val (.int n),.val (.int wide),.val (.int lo),.val (.int hi),.val (.int far),.val (.lst ([pD (0,0)]++((List.range lo).map (ZcU n wide)).map pD++[pD (far,0)])),.no]):=by
  rw [Qi,V5,V5,c1]
  have l1:Wz (Zb (Qr (Zb (Zg (.int 0)) (Zb (Zg (.int 0)) Zk))) Zk) [.val (.int n),.val (.int wide),.val (.int lo),.val (.int hi),.val (.int far),.no,.no]=some (.lst [pD (0,0)]):=by simp -implicitDefEqProofs [pD]
  have l2:Wz (Zb (Qr (Zb (Zd 4) (Zb (Zg (.int 0)) Zk))) Zk) [.val (.int n),.val (.int wide),.val (.int lo),.val (.int hi),.val (.int far),.no,.no]=some (.lst [pD (far,0)]):=by simp -implicitDefEqProofs [pD]
  rw [l1,l2]
  simp only [Option.bind_some,a1,a2]
  rfl
 rw [Zs,e4]
 show (Zp _ (Zp _ (Zp _ _)) [.val (.int n),.val (.int wide),.val (.int lo),.val (.int hi),.val (.int far),.val (.lst ([pD (0,0)]++((List.range lo).map (ZcU n wide)).map pD++[pD (far,0)])),.no]).bind _=_
 have c2:(YH [none,some 4,some 1,some 0] (ZbC (Zd 3)) (Zz 0) ZH (Qr (Zb (Ze QH (Ze QH (Zd 1) (Zg (.int 1))) (Zd 0)) (Zb (Ze ZE (Zg (.int 1)) (Ze Yu (dFn 2 Zw (Zb (Zd 3) (Zb (Ze ZE (Zg (.int 9)) (Zd 0)) Zk))) (Zd 2))) Zk)))) [.val (.int n),.val (.int wide),.val (.int lo),.val (.int hi),.val (.int far),.val (.lst ([pD (0,0)]++((List.range lo).map (ZcU n wide)).map pD++[pD (far,0)])),.no]=some (.lst (((List.range hi).map (W5 n wide far)).map pD)):=by
  have i:∀ Z:List D,ZbC (Zd 3) [.val (.int n),.val (.int wide),.val (.int lo),.val (.int hi),.val (.int far),.val (.lst Z),.no]=some (QC 0 hi):=fun Z=>by simp -implicitDefEqProofs [r2]
  rw [WB,i,Option.bind_some,if_pos k2]
  have ch':Yh (Zz 0) ZH (Qr (Zb (Ze QH (Ze QH (Zd 1) (Zg (.int 1))) (Zd 0)) (Zb (Ze ZE (Zg (.int 1)) (Ze Yu (dFn 2 Zw (Zb (Zd 3) (Zb (Ze ZE (Zg (.int 9)) (Zd 0)) Zk))) (Zd 2))) Zk))) (QC 0 hi) (JE [none,some 4,some 1,some 0] [.val (.int n),.val (.int wide),.val (.int lo),.val (.int hi),.val (.int far),.val (.lst ([pD (0,0)]++((List.range lo).map (ZcU n wide)).map pD++[pD (far,0)])),.no])=_:=ch
  rw [ch']; rfl
 have a3:=Ze7 (xs:=[pD (0,0)]++((List.range lo).map (ZcU n wide)).map pD++[pD (far,0)]) (ys:=((List.range hi).map (W5 n wide far)).map pD) (by simp; omega)
 have sw:[pD (0,0)]++((List.range lo).map (ZcU n wide)).map pD++[pD (far,0)]++((List.range hi).map (W5 n wide far)).map pD=(QV far ((List.range lo).map (ZcU n wide)) ((List.range hi).map (W5 n wide far))).map pD:=by
  simp [QV]
 rw [sw] at a3
 have e5:ZM 5 (Ze ZE (Zd 5) (YH [none,some 4,some 1,some 0] (ZbC (Zd 3)) (Zz 0) ZH (Qr (Zb (Ze QH (Ze QH (Zd 1) (Zg (.int 1))) (Zd 0)) (Zb (Ze ZE (Zg (.int 1)) (Ze Yu (dFn 2 Zw (Zb (Zd 3) (Zb (Ze ZE (Zg (.int 9)) (Zd 0)) Zk))) (Zd 2))) Zk))))) [.val (.int n),.val (.int wide),.val (.int lo),.val (.int hi),.val (.int far),.val (.lst ([pD (0,0)]++((List.range lo).map (ZcU n wide)).map pD++[pD (far,0)])),.no] =
   some (.nx [.val (.int n),.val (.int wide),.val (.int lo),.val (.int hi),.val (.int far),.val (.lst ((QV far ((List.range lo).map (ZcU n wide)) ((List.range hi).map (W5 n wide far))).map pD)),.no]):=by
  rw [Qi,V5,c2]
  show (((some _).bind _:Option D)).map _=_
  simp only [Option.bind_some,a3]
  rfl
 rw [Zs,e5]
 generalize hss:QV far ((List.range lo).map (ZcU n wide)) ((List.range hi).map (W5 n wide far))=ss at h4
 show (Zp _ (Zp _ _) [.val (.int n),.val (.int wide),.val (.int lo),.val (.int hi),.val (.int far),.val (.lst (ss.map pD)),.no]).bind _=_
 have e6:ZM 6 (Wz Zk) [.val (.int n),.val (.int wide),.val (.int lo),.val (.int hi),.val (.int far),.val (.lst (ss.map pD)),.no]=some (.nx [.val (.int n),.val (.int wide),.val (.int lo),.val (.int hi),.val (.int far),.val (.lst (ss.map pD)),.val (.lst [])]):=by
  simp -implicitDefEqProofs
 rw [Zs,e6]
 show (Zp (Jf Zlo Vr 3000) _ [.val (.int n),.val (.int wide),.val (.int lo),.val (.int hi),.val (.int far),.val (.lst (ss.map pD)),.val (.lst [])]).bind _=_
 have h4':Jf Zlo Vr 3000 [.val (.int n),.val (.int wide),.val (.int lo),.val (.int hi),.val (.int far),.val (.lst (ss.map pD)),.val (.lst [])]=_:=h4
 rw [Zs,h4']
 rfl
noncomputable def shf (by_:Int) (p:Pt):Pt:=(p.1-by_,p.2)
theorem Zkw (b:Int):∀ (ys:List Pt) (s0 s1:Sl),Yh (Y1 0 1) ZH (Qr (Zb (Ze QH (Zd 0) (Zd 2)) (Zb (Zd 1) Zk))) (ys.map pD) (s0::s1::[.val (.int b)])=some ((ys.map (shf b)).map pD)
 | [],s0,s1=>rfl
 | a::ys,s0,s1=>by
  have ih:=Zkw b ys (.val (.int a.1)) (.val (.int a.2))
  have e:(Qr (Zb (Ze QH (Zd 0) (Zd 2)) (Zb (Zd 1) Zk))) [.val (.int a.1),.val (.int a.2),.val (.int b)]=some (pD (shf b a)):=by
   simp -implicitDefEqProofs [pD,shf]
  have st:Y1 0 1 (pD a) (s0::s1::[.val (.int b)])=some [.val (.int a.1),.val (.int a.2),.val (.int b)]:=rfl
  simp only [List.map_cons,Yh,st,Option.bind_some,Zjg,e]
  have ih':Yh (Y1 0 1) ZH (Qr (Zb (Ze QH (Zd 0) (Zd 2)) (Zb (Zd 1) Zk))) (ys.map pD) [.val (.int a.1),.val (.int a.2),.val (.int b)]=_:=ih
  rw [ih']
  rfl
noncomputable def SrcZ (wide:Int) (qs:List Pt):Prop:=
 (Q5 qs=true/\3<=qs.length/\qs.length<=7/\∀ p∈qs,(0<=p.1/\p.1 < wide)/\(0<=p.2/\p.2 < wide)) \/
 (∃ far L U,qs=QV far L U/\SawI far L U/\Zar (QV far L U)=QV far L U/\(∀ p∈qs,(0<=p.1/\p.1<=6)/\(-wide<=p.2/\p.2<=wide))/\qs.length<=12)
theorem SrcZ.ne {wide:Int} {qs:List Pt} (h:SrcZ wide qs):qs≠[]:=by
 rcases h with ⟨_,h,_⟩ | ⟨far,L,U,rfl,_⟩
 ·intro z; rw [z] at h; simp at h
 ·exact Zhj _ _ _
theorem SrcZ.len {wide:Int} {qs:List Pt} (h:SrcZ wide qs):qs.length<=12:=by
 rcases h with ⟨_,_,h,_⟩ | ⟨far,L,U,_,_,_,_,h⟩
 ·omega
 ·exact h
theorem SrcZ.rng {wide:Int} (hw:3<=wide) {qs:List Pt} (h:SrcZ wide qs):∀ p∈qs,(0<=p.1/\p.1<=wide+3)/\(-wide<=p.2/\p.2<=wide):=fun p hp=>by
 rcases h with ⟨_,_,_,h⟩ | ⟨far,L,U,_,_,_,h,_⟩
 ·have:=h p hp; omega
 ·have:=h p hp; omega
theorem Zj0 {n wide:Int} (hw:3<=wide) (hw2:wide<=1000):∃ qs b,SrcZ wide qs/\0<=b/\b<=wide/\Y9 [.int n,.int wide]=some (.tup ((Zb4 (qs.map (shf b))).map pD)):=by
 have w0:0 < wide:=by omega
 have q1:=Int.emod_nonneg (n / 2) (show (5:Int)≠0 by omega)
 have q2:=Int.emod_lt_of_pos (n / 2) (show (0:Int) < 5 by omega)
 have q3:=Int.emod_nonneg (n / 512) (show (3:Int)≠0 by omega)
 have q4:=Int.emod_lt_of_pos (n / 512) (show (0:Int) < 3 by omega)
 obtain ⟨many,hm⟩:∃ many:Nat,(many:Int)=3+n / 2 % 5:=⟨(3+n / 2 % 5).toNat,by omega⟩
 have sp:=ZdQ (n:=n / 2) w0 (many:=many) (by omega)
 have rg:=ZbT (n:=n / 2) (many:=many) w0
 have sl:=Wh (n / 2) wide many
 have smS:All Sm (YA (n / 2) wide many):=fun p hp=>by have:=rg p hp; exact ⟨⟨by omega,by omega⟩,by omega,by omega⟩
 have neS:YA (n / 2) wide many≠[]:=by intro z; rw [z] at sl; simp at sl; omega
 have gd:=ZfL (c:=.lst ((YA (n / 2) wide many).map pD)) rfl neS smS (by omega)
 obtain ⟨far,L,U,s1,s2,s3,s4,s5⟩:=Zmf (n:=n / 2) w0 hw2
 have v2:=Wy (i:=n) (j:=2) (by omega) (by omega)
 have d5:=Qq (i:=n / 2) (j:=5) (by omega)
 have d2:=Qq (i:=n) (j:=2) (by omega)
 have v512:=Wy (i:=n) (j:=512) (by omega) (by omega)
 have d3:=Qq (i:=n / 512) (j:=3) (by omega)
 have m1:=VA (i:=n / 512 % 3) (j:=wide) (.inl (by omega))
 have hb:0<=n / 512 % 3*wide / 4/\n / 512 % 3*wide / 4<=wide:=by
  have a:0<=n / 512 % 3*wide:=Int.mul_nonneg q3 (by omega)
  have b:n / 512 % 3*wide<=2*wide:=Int.mul_le_mul_of_nonneg_right (by omega) (by omega)
  omega
 have v4:=Wy (i:=n / 512 % 3*wide) (j:=4) (by omega) (by omega)
 have tail:∀ (qs:List Pt),SrcZ wide qs->(Zp (ZM 3 (Ze Qu (Ze YM (Ze Yu (Ze Qu (Zd 0) (Zg (.int 512))) (Zg (.int 3))) (Zd 1)) (Zg (.int 4))))
 (ZT (dFn 1 Ye (Zb (YH [none,none,some 3] (YR (Zd 2)) (Y1 0 1) ZH (Qr (Zb (Ze QH (Zd 0) (Zd 2)) (Zb (Zd 1) Zk)))) Zk)))) [.val (.int n),.val (.int wide),.val (.lst (qs.map pD)),.no]=some (.rt (.tup ((Zb4 (qs.map (shf (n / 512 % 3*wide / 4)))).map pD))):=by
  intro qs hq
  have e1:ZM 3 (Ze Qu (Ze YM (Ze Yu (Ze Qu (Zd 0) (Zg (.int 512))) (Zg (.int 3))) (Zd 1)) (Zg (.int 4))) [.val (.int n),.val (.int wide),.val (.lst (qs.map pD)),.no]=some (.nx [.val (.int n),.val (.int wide),.val (.lst (qs.map pD)),.val (.int (n / 512 % 3*wide / 4))]):=by
   simp -implicitDefEqProofs [v512,d3,m1,v4]
  rw [Zs,e1]
  generalize n / 512 % 3*wide / 4=b at hb
  show ZT _ [.val (.int n),.val (.int wide),.val (.lst (qs.map pD)),.val (.int b)]=_
  have e2:YR (Zd 2) [.val (.int n),.val (.int wide),.val (.lst (qs.map pD)),.val (.int b)]=some (qs.map pD):=Zh5 rfl rfl
  have e3:=Zkw b qs .no .no
  have e3':Yh (Y1 0 1) ZH (Qr (Zb (Ze QH (Zd 0) (Zd 2)) (Zb (Zd 1) Zk))) (qs.map pD) (JE [none,none,some 3] [.val (.int n),.val (.int wide),.val (.lst (qs.map pD)),.val (.int b)])=_:=e3
  have hl:=hq.len
  have e4:(YH [none,none,some 3] (YR (Zd 2)) (Y1 0 1) ZH (Qr (Zb (Ze QH (Zd 0) (Zd 2)) (Zb (Zd 1) Zk)))) [.val (.int n),.val (.int wide),.val (.lst (qs.map pD)),.val (.int b)]=some (.lst ((qs.map (shf b)).map pD)):=by
   rw [WB,e2,Option.bind_some,if_pos (by rw [List.length_map]; exact YD (by omega)),e3']
   rfl
  have ne:qs.map (shf b)≠[]:=by simpa using hq.ne
  have sm:All Sm (qs.map (shf b)):=fun p hp=>by
   obtain ⟨q,hq',rfl⟩:=List.mem_map.mp hp
   have:=hq.rng hw q hq'
   show ((-1000000<=q.1-b/\q.1-b<=1000000))/\(-1000000<=q.2/\q.2<=1000000)
   omega
  have o:=Zip (c:=.lst ((qs.map (shf b)).map pD)) rfl ne sm (by simp; omega)
  rw [WQ,ZpD,VE,e4]
  show (((some [D.lst ((qs.map (shf b)).map pD)]:Option (List D)).bind fun xs=>if xs.length=1 then Ye xs else none)).map _=_
  rw [Option.bind_some,if_pos (show ([D.lst ((qs.map (shf b)).map pD)]:List D).length=1 from rfl),o]
  rfl
 unfold Y9 Zq ZaY
 show ∃ qs b,SrcZ wide qs/\0<=b/\b<=wide/\(Zp _ (Zp _ (Zp _ _)) [.val (.int n),.val (.int wide),.no,.no]).bind _=_
 have e1:ZM 2 (dFn 3 Ya (Zb (Ze Qu (Zd 0) (Zg (.int 2))) (Zb (Zd 1) (Zb (Ze ZE (Zg (.int 3)) (Ze Yu (Ze Qu (Zd 0) (Zg (.int 2))) (Zg (.int 5)))) Zk)))) [.val (.int n),.val (.int wide),.no,.no]=some (.nx [.val (.int n),.val (.int wide),.val (.lst ((YA (n / 2) wide many).map pD)),.no]):=by
  simp -implicitDefEqProofs [v2,d5,<-hm,sp]
 have e2:(ZY (Wf (Zn (Ze U4 (Ze Yu (Zd 0) (Zg (.int 2))) (Zg (.int 1)))) (Yk (Zn (dFn 1 Yn (Zb (Zd 2) Zk))))) (ZM 2 (dFn 2 QY (Zb (Ze Qu (Zd 0) (Zg (.int 2))) (Zb (Zd 1) Zk)))) ZA) [.val (.int n),.val (.int wide),.val (.lst ((YA (n / 2) wide many).map pD)),.no] =
   if n % 2=1\/Q5 (YA (n / 2) wide many)=false then some (.nx [.val (.int n),.val (.int wide),.val (.lst ((QV far L U).map pD)),.no]) else some (.nx [.val (.int n),.val (.int wide),.val (.lst ((YA (n / 2) wide many).map pD)),.no]):=by
  by_cases c1:n % 2=1
  ·rw [if_pos (.inl c1)]
   simp -implicitDefEqProofs [d2,c1,v2,s5]
  ·cases hg:Q5 (YA (n / 2) wide many) with
   | true=>
    rw [hg] at gd
    rw [if_neg (by simp [c1])]
    simp -implicitDefEqProofs [d2,c1,gd]
   | false=>
    rw [hg] at gd
    rw [if_pos (.inr rfl)]
    simp -implicitDefEqProofs [d2,c1,gd,v2,s5]
 by_cases hsaw:n % 2=1\/Q5 (YA (n / 2) wide many)=false
 ·rw [if_pos hsaw] at e2
  have src:SrcZ wide (QV far L U):=.inr ⟨far,L,U,rfl,s1,s2,s3,s4⟩
  refine ⟨QV far L U,n / 512 % 3*wide / 4,src,hb.1,hb.2,?_⟩
  rw [Zs,e1]
  show (Zp _ (Zp _ _) [.val (.int n),.val (.int wide),.val (.lst ((YA (n / 2) wide many).map pD)),.no]).bind _=_
  rw [Zs,e2]
  show (Zp _ _ [.val (.int n),.val (.int wide),.val (.lst ((QV far L U).map pD)),.no]).bind _=_
  rw [tail _ src]
  rfl
 ·rw [if_neg hsaw] at e2
  have hg:Q5 (YA (n / 2) wide many)=true:=by
   cases hg:Q5 (YA (n / 2) wide many) with
   | true=>rfl
   | false=>exact absurd (.inr hg) hsaw
  have src:SrcZ wide (YA (n / 2) wide many):=.inl ⟨hg,by omega,by omega,rg⟩
  refine ⟨_,n / 512 % 3*wide / 4,src,hb.1,hb.2,?_⟩
  rw [Zs,e1]
  show (Zp _ (Zp _ _) [.val (.int n),.val (.int wide),.val (.lst ((YA (n / 2) wide many).map pD)),.no]).bind _=_
  rw [Zs,e2]
  show (Zp _ _ [.val (.int n),.val (.int wide),.val (.lst ((YA (n / 2) wide many).map pD)),.no]).bind _=_
  rw [tail _ src]
  rfl
noncomputable def ZiG (s:Pt×Pt):Int:=s.1.1*s.2.2-s.1.2*s.2.1
theorem Zbg (ps:List Pt):∀ (ys:List Pt) (k:Int),Ze5 ps k ys=((Zav ps k ys).map ZiG).sum
 | [],k=>rfl
 | a::r,k=>by
  unfold Ze5 Zav
  rw [List.map_cons,List.sum_cons,Zbg ps r]
  rfl
end Pl
namespace Pg
noncomputable def S:Nat->(Nat->Int)->Int
 | 0,_=>0
 | n+1,f=>S n f+f n
theorem S_congr:∀ {n:Nat} {f g:Nat->Int},(∀ j,j < n->f j=g j)->S n f=S n g
 | 0,_,_,_=>rfl
 | n+1,f,g,h=>by
  have e1:=S_congr (n:=n) (f:=f) (g:=g) (fun j hj=>h j (by omega))
  have e2:=h n (by omega)
  simp only [S,e1,e2]
theorem Zov:∀ {n a b:Nat} {f g:Nat->Int},a < n->b < n->a≠b->(∀ j,j < n->j≠a->j≠b->f j=g j) ->
  S n f-S n g=(f a-g a)+(f b-g b):=by
 have one:∀ {n a:Nat} {f g:Nat->Int},a < n->(∀ j,j < n->j≠a->f j=g j)->S n f-S n g=f a-g a:=by
  intro n
  induction n with
  | zero=>intro a f g h; omega
  | succ n ih=>
   intro a f g ha h
   simp only [S]
   by_cases e:a=n
   ·subst e
    have:=S_congr (n:=a) (f:=f) (g:=g) (fun j hj=>h j (by omega) (by omega))
    omega
   ·have:=ih (a:=a) (f:=f) (g:=g) (by omega) (fun j hj hn=>h j (by omega) hn)
    have:=h n (by omega) (by omega)
    omega
 intro n
 induction n with
 | zero=>intro a b f g h; omega
 | succ n ih=>
  intro a b f g ha hb hab h
  simp only [S]
  by_cases e:a=n
  ·subst e
   have:=one (n:=a) (a:=b) (f:=f) (g:=g) (by omega) (fun j hj hn=>h j (by omega) (by omega) hn)
   omega
  ·by_cases e2:b=n
   ·subst e2
    have:=one (n:=b) (a:=a) (f:=f) (g:=g) (by omega) (fun j hj hn=>h j (by omega) hn (by omega))
    omega
   ·have:=ih (a:=a) (b:=b) (f:=f) (g:=g) (by omega) (by omega) hab (fun j hj h1 h2=>h j (by omega) h1 h2)
    have:=h n (by omega) (by omega) (by omega)
    omega
theorem Zi2:∀ {n a:Nat} {f:Nat->Int},a < n->(∀ j,j < n->j≠a->f j=0)->S n f=f a:=by
 intro n
 induction n with
 | zero=>intro a f h; omega
 | succ n ih=>
  intro a f ha h
  simp only [S]
  by_cases e:a=n
  ·subst e
   have z:∀ m,m<=a->S m f=0:=by
    intro m
    induction m with
    | zero=>intro _; rfl
    | succ m ihm=>intro hm; simp only [S]; have:=ihm (by omega); have:=h m (by omega) (by omega); omega
   have:=z a (by omega)
   omega
  ·have:=ih (a:=a) (f:=f) (by omega) (fun j hj hn=>h j (by omega) hn)
   have:=h n (by omega) (by omega)
   omega
noncomputable def cr (ax ay bx by_ cx cy:Int):Int:=(bx-ax)*(cy-ay)-(by_-ay)*(cx-ax)
section
variable (n:Nat) (x y:Nat->Int)
noncomputable def nx (i:Nat):Nat:=if i+1=n then 0 else i+1
noncomputable def pv (i:Nat):Nat:=if i=0 then n-1 else i-1
noncomputable def lo (i:Nat):Nat:=if x i < x (nx n i) then i else nx n i
noncomputable def hi (i:Nat):Nat:=if x i < x (nx n i) then nx n i else i
noncomputable def d (i:Nat):Int:=if x i < x (nx n i) then 1 else -1
noncomputable def sd (i k:Nat):Int:=cr (x (lo n x i)) (y (lo n x i)) (x (hi n x i)) (y (hi n x i)) (x k) (y k)
noncomputable def B (j i:Nat):Prop:=
 if x (lo n x j) < x (lo n x i) then 0 < sd n x y j (lo n x i)
 else if x (lo n x i) < x (lo n x j) then sd n x y i (lo n x j) < 0
 else if x (hi n x j) < x (hi n x i) then sd n x y i (hi n x j) < 0
 else 0 < sd n x y j (hi n x i)
noncomputable def crs (j:Nat) (t:Int):Prop:=x (lo n x j)<=t/\t < x (hi n x j)
structure Yj:Prop where
 n3:3<=n
 dx:∀ i j,i < n->j < n->x i=x j->i=j
 off:∀ i k,i < n->k < n->x (lo n x i) < x k->x k < x (hi n x i)->sd n x y i k≠0
 apart:∀ e f,e < n->f < n->e≠f->e≠nx n f->f≠nx n e ->
  ¬ (sd n x y e (lo n x f) < 0/\0 < sd n x y e (hi n x f)/\0 < sd n x y f (lo n x e)/\sd n x y f (hi n x e) < 0) /\
  ¬ (0 < sd n x y e (lo n x f)/\sd n x y e (hi n x f) < 0/\sd n x y f (lo n x e) < 0/\0 < sd n x y f (hi n x e))
end
section
variable {n:Nat} {x y:Nat->Int}
theorem nx_lt {i:Nat} (h:i < n):nx n i < n:=by unfold nx; split <;> omega
theorem ZeF {i:Nat} (h:i < n):pv n i < n:=by unfold pv; split <;> omega
theorem ZlU {i:Nat} (h:i < n):nx n (pv n i)=i:=by unfold nx pv; grind
theorem Zo8 {i:Nat} (h:i < n):pv n (nx n i)=i:=by unfold nx pv; grind
theorem Zpi {i:Nat} (h3:3<=n) (h:i < n):nx n i≠i:=by unfold nx; grind
theorem ZkG {i:Nat} (h3:3<=n) (h:i < n):nx n (nx n i)≠i:=by unfold nx; grind
theorem Zjt {i:Nat} (h3:3<=n) (h:i < n):pv n i≠i:=by unfold pv; grind
theorem U6 {i:Nat} (h:i < n):lo n x i < n:=by unfold lo; split <;> first | exact h | exact nx_lt h
theorem UG {i:Nat} (h:i < n):hi n x i < n:=by unfold hi; split <;> first | exact h | exact nx_lt h
theorem ZhW (i:Nat):(lo n x i=i/\hi n x i=nx n i/\d n x i=1/\x i < x (nx n i))\/(lo n x i=nx n i/\hi n x i=i/\d n x i=-1/\¬ x i < x (nx n i)):=by
 unfold lo hi d; split <;> simp_all
theorem Y8 (s:Yj n x y) {i:Nat} (h:i < n):x (lo n x i) < x (hi n x i):=by
 have h1:=nx_lt h
 have h2:=Zpi s.n3 h
 have h3:=s.dx i (nx n i) h h1
 rcases ZhW (n:=n) (x:=x) i with ⟨e1,e2,_,_⟩ | ⟨e1,e2,_,_⟩ <;> rw [e1,e2] <;> omega
theorem ZpW {e f:Nat} (h1:x (lo n x e)≠x (lo n x f)) (h2:x (lo n x e)≠x (hi n x f)) (h3:x (hi n x e)≠x (lo n x f)) (h4:x (hi n x e)≠x (hi n x f)) :
  e≠f/\e≠nx n f/\f≠nx n e:=by
 rcases ZhW (n:=n) (x:=x) e with ⟨a1,a2,_,_⟩ | ⟨a1,a2,_,_⟩ <;> rcases ZhW (n:=n) (x:=x) f with ⟨b1,b2,_,_⟩ | ⟨b1,b2,_,_⟩ <;>
  rw [a1,b1] at h1 <;> rw [a1,b2] at h2 <;> rw [a2,b1] at h3 <;> rw [a2,b2] at h4 <;> grind
theorem ZpO (s:Yj n x y) {e f:Nat} (he:e < n) (hf:f < n) (h1:x (lo n x f) < x (hi n x e)) (h2:x (hi n x e) < x (hi n x f)) :
  B n x y f e ↔ 0 < sd n x y f (hi n x e):=by
 have xe:=Y8 s he
 have xf:=Y8 s hf
 have le:=U6 (x:=x) he
 have lf:=U6 (x:=x) hf
 have ge:=UG (x:=x) he
 have gf:=UG (x:=x) hf
 have o1:=s.off f (hi n x e) hf ge h1 h2
 unfold B
 by_cases c1:x (lo n x f) < x (lo n x e)
 ·rw [if_pos c1]
  have o2:=s.off f (lo n x e) hf le c1 (by omega)
  have nsh:=ZpW (n:=n) (x:=x) (e:=e) (f:=f) (by omega) (by omega) (by omega) (by omega)
  have ap:=s.apart f e hf he (Ne.symm nsh.1) nsh.2.2 nsh.2.1
  unfold sd at *
  generalize x (lo n x e)=ax at *; generalize y (lo n x e)=ay at *; generalize x (hi n x e)=bx at *; generalize y (hi n x e)=by_ at *
  generalize x (lo n x f)=cx at *; generalize y (lo n x f)=cy at *; generalize x (hi n x f)=dx at *; generalize y (hi n x f)=dy at *
  have i1:(dx-cx)*cr ax ay bx by_ cx cy=(ax-cx)*cr cx cy dx dy bx by_-(bx-cx)*cr cx cy dx dy ax ay:=by unfold cr; grind
  have i2:(dx-cx)*cr ax ay bx by_ dx dy=(dx-bx)*cr cx cy dx dy ax ay-(dx-ax)*cr cx cy dx dy bx by_:=by unfold cr; grind
  generalize cr ax ay bx by_ cx cy=p at *; generalize cr ax ay bx by_ dx dy=q at *; generalize cr cx cy dx dy ax ay=r at *; generalize cr cx cy dx dy bx by_=v at *
  constructor
  ·intro hr
   apply Classical.byContradiction
   intro hv
   have hv':v < 0:=by omega
   have z1:(ax-cx)*v < 0:=Int.mul_neg_of_pos_of_neg (by omega) hv'
   have z2:0 < (bx-cx)*r:=Int.mul_pos (by omega) hr
   have z3:0 < (dx-bx)*r:=Int.mul_pos (by omega) hr
   have z4:(dx-ax)*v < 0:=Int.mul_neg_of_pos_of_neg (by omega) hv'
   have p1:p < 0:=by
    apply Classical.byContradiction; intro hp
    have:0<=(dx-cx)*p:=Int.mul_nonneg (by omega) (by omega)
    omega
   have q1:0 < q:=by
    apply Classical.byContradiction; intro hq
    have:(dx-cx)*q<=0:=Int.mul_nonpos_of_nonneg_of_nonpos (by omega) (by omega)
    omega
   exact ap.2 ⟨hr,hv',p1,q1⟩
  ·intro hv
   apply Classical.byContradiction
   intro hr
   have hr':r < 0:=by omega
   have z1:0 < (ax-cx)*v:=Int.mul_pos (by omega) hv
   have z2:(bx-cx)*r < 0:=Int.mul_neg_of_pos_of_neg (by omega) hr'
   have z3:(dx-bx)*r < 0:=Int.mul_neg_of_pos_of_neg (by omega) hr'
   have z4:0 < (dx-ax)*v:=Int.mul_pos (by omega) hv
   have p1:0 < p:=by
    apply Classical.byContradiction; intro hp
    have:(dx-cx)*p<=0:=Int.mul_nonpos_of_nonneg_of_nonpos (by omega) (by omega)
    omega
   have q1:q < 0:=by
    apply Classical.byContradiction; intro hq
    have:0<=(dx-cx)*q:=Int.mul_nonneg (by omega) (by omega)
    omega
   exact ap.1 ⟨hr',hv,p1,q1⟩
 ·rw [if_neg c1]
  by_cases c2:x (lo n x e) < x (lo n x f)
  ·rw [if_pos c2]
   have o2:=s.off e (lo n x f) he lf c2 h1
   have nsh:=ZpW (n:=n) (x:=x) (e:=e) (f:=f) (by omega) (by omega) (by omega) (by omega)
   have ap:=s.apart e f he hf nsh.1 nsh.2.1 nsh.2.2
   unfold sd at *
   generalize x (lo n x e)=ax at *; generalize y (lo n x e)=ay at *; generalize x (hi n x e)=bx at *; generalize y (hi n x e)=by_ at *
   generalize x (lo n x f)=cx at *; generalize y (lo n x f)=cy at *; generalize x (hi n x f)=dx at *; generalize y (hi n x f)=dy at *
   have i1:(bx-cx)*cr ax ay bx by_ dx dy=(ax-bx)*cr cx cy dx dy bx by_-(dx-bx)*cr ax ay bx by_ cx cy:=by unfold cr; grind
   have i2:(bx-cx)*cr cx cy dx dy ax ay=(ax-cx)*cr cx cy dx dy bx by_-(dx-cx)*cr ax ay bx by_ cx cy:=by unfold cr; grind
   generalize cr ax ay bx by_ cx cy=p at *; generalize cr ax ay bx by_ dx dy=q at *; generalize cr cx cy dx dy ax ay=r at *; generalize cr cx cy dx dy bx by_=v at *
   constructor
   ·intro hp
    apply Classical.byContradiction
    intro hv
    have hv':v < 0:=by omega
    have z1:0 < (ax-bx)*v:=Int.mul_pos_of_neg_of_neg (by omega) hv'
    have z2:(dx-bx)*p < 0:=Int.mul_neg_of_pos_of_neg (by omega) hp
    have z3:0 < (ax-cx)*v:=Int.mul_pos_of_neg_of_neg (by omega) hv'
    have z4:(dx-cx)*p < 0:=Int.mul_neg_of_pos_of_neg (by omega) hp
    have q1:0 < q:=by
     apply Classical.byContradiction; intro hq
     have:(bx-cx)*q<=0:=Int.mul_nonpos_of_nonneg_of_nonpos (by omega) (by omega)
     omega
    have r1:0 < r:=by
     apply Classical.byContradiction; intro hq
     have:(bx-cx)*r<=0:=Int.mul_nonpos_of_nonneg_of_nonpos (by omega) (by omega)
     omega
    exact ap.1 ⟨hp,q1,r1,hv'⟩
   ·intro hv
    apply Classical.byContradiction
    intro hp
    have hp':0 < p:=by omega
    have z1:(ax-bx)*v < 0:=Int.mul_neg_of_neg_of_pos (by omega) hv
    have z2:0 < (dx-bx)*p:=Int.mul_pos (by omega) hp'
    have z3:(ax-cx)*v < 0:=Int.mul_neg_of_neg_of_pos (by omega) hv
    have z4:0 < (dx-cx)*p:=Int.mul_pos (by omega) hp'
    have q1:q < 0:=by
     apply Classical.byContradiction; intro hq
     have:0<=(bx-cx)*q:=Int.mul_nonneg (by omega) (by omega)
     omega
    have r1:r < 0:=by
     apply Classical.byContradiction; intro hq
     have:0<=(bx-cx)*r:=Int.mul_nonneg (by omega) (by omega)
     omega
    exact ap.2 ⟨hp',q1,r1,hv⟩
  ·rw [if_neg c2,if_neg (by omega)]
end
section
variable {n:Nat} {x y:Nat->Int}
theorem Zdp (s:Yj n x y) {e f:Nat} (he:e < n) (hf:f < n) (h1:x (lo n x e)=x (lo n x f)) (h2:x (hi n x e)=x (hi n x f)):e=f:=by
 have l:=s.dx _ _ (U6 he) (U6 hf) h1
 have g:=s.dx _ _ (UG he) (UG hf) h2
 have a:=ZkG s.n3 he
 have b:=ZkG s.n3 hf
 rcases ZhW (n:=n) (x:=x) e with ⟨a1,a2,_,_⟩ | ⟨a1,a2,_,_⟩ <;> rcases ZhW (n:=n) (x:=x) f with ⟨b1,b2,_,_⟩ | ⟨b1,b2,_,_⟩ <;>
  rw [a1,b1] at l <;> rw [a2,b2] at g
 ·exact l
 ·grind
 ·grind
 ·exact g
theorem Zbp (s:Yj n x y) {e f:Nat} (he:e < n) (hf:f < n) (hne:e≠f) (h1:x (lo n x e) < x (hi n x f)) (h2:x (lo n x f) < x (hi n x e)) :
  B n x y e f ↔ ¬ B n x y f e:=by
 have xe:=Y8 s he
 have xf:=Y8 s hf
 unfold B
 by_cases c1:x (lo n x e) < x (lo n x f)
 ·rw [if_pos c1,if_neg (by omega),if_pos c1]
  have:=s.off e (lo n x f) he (U6 hf) c1 h2
  omega
 ·by_cases c2:x (lo n x f) < x (lo n x e)
  ·rw [if_neg c1,if_pos c2,if_pos c2]
   have:=s.off f (lo n x e) hf (U6 he) c2 h1
   omega
  ·rw [if_neg c1,if_neg c2,if_neg c2,if_neg c1]
   have h3:x (hi n x e)≠x (hi n x f):=fun z=>hne (Zdp s he hf (by omega) z)
   by_cases c3:x (hi n x e) < x (hi n x f)
   ·rw [if_pos c3,if_neg (by omega)]
    have:=s.off f (hi n x e) hf (UG he) (by omega) c3
    omega
   ·rw [if_neg c3,if_pos (by omega)]
    have:=s.off e (hi n x f) he (UG hf) (by omega) (by omega)
    omega
theorem Zkm (i:Nat):¬ B n x y i i:=by
 unfold B
 simp only [Int.lt_irrefl,if_false]
 unfold sd cr
 grind
theorem ZpP (s:Yj n x y) {e f k:Nat} (he:e < n) (hf:f < n) (hk:lo n x e=k\/hi n x e=k) (h1:x (lo n x f) < x k) (h2:x k < x (hi n x f)) :
  B n x y f e ↔ 0 < sd n x y f k:=by
 rcases hk with rfl | rfl
 ·unfold B; rw [if_pos h1]
 ·exact ZpO s he hf h1 h2
theorem ZoC (s:Yj n x y) {e f k:Nat} (he:e < n) (hf:f < n) (hk:lo n x e=k\/hi n x e=k) (h1:x (lo n x f) < x k) (h2:x k < x (hi n x f)) :
  B n x y e f ↔ ¬ 0 < sd n x y f k:=by
 rw [<-ZpP s he hf hk h1 h2]
 have xe:=Y8 s he
 refine Zbp s he hf ?_ ?_ ?_
 ·rintro rfl; rcases hk with rfl | rfl <;> omega
 ·rcases hk with rfl | rfl <;> omega
 ·rcases hk with rfl | rfl <;> omega
end
noncomputable instance (n:Nat) (x y:Nat->Int) (j i:Nat):Decidable (B n x y j i):=by unfold B; infer_instance
noncomputable instance (n:Nat) (x:Nat->Int) (j:Nat) (t:Int):Decidable (crs n x j t):=by unfold crs; infer_instance
noncomputable def c (n:Nat) (x y:Nat->Int) (i:Nat) (t:Int):Int:=S n fun j=>if crs n x j t/\B n x y j i then d n x j else 0
noncomputable def W (n:Nat) (x y:Nat->Int) (i:Nat) (t:Int):Int:=c n x y i t+(if d n x i=1 then 1 else 0)
section
variable {n:Nat} {x y:Nat->Int}
theorem Uc (j:Nat):(lo n x j=j/\hi n x j=nx n j)\/(lo n x j=nx n j/\hi n x j=j):=by
 rcases ZhW (n:=n) (x:=x) j with ⟨a,b,_⟩ | ⟨a,b,_⟩
 ·exact .inl ⟨a,b⟩
 ·exact .inr ⟨a,b⟩
theorem Zc5 (s:Yj n x y) {j k:Nat} (hj:j < n) (hk:k < n) (h1:j≠k) (h2:j≠pv n k):crs n x j (x k-1) ↔ crs n x j (x k):=by
 have a1:lo n x j≠k/\hi n x j≠k:=by
  have:nx n j≠k:=fun z=>h2 (by rw [<-z,Zo8 hj])
  rcases Uc (n:=n) (x:=x) j with ⟨a,b⟩ | ⟨a,b⟩ <;> rw [a,b] <;> exact ⟨by assumption,by assumption⟩
 have b1:x (lo n x j)≠x k:=fun z=>a1.1 (s.dx _ _ (U6 hj) hk z)
 have b2:x (hi n x j)≠x k:=fun z=>a1.2 (s.dx _ _ (UG hj) hk z)
 unfold crs
 omega
theorem Zkc (s:Yj n x y) {j k:Nat} (hj:j < n) (hk:k < n) (h1:j≠k) (h2:j≠pv n k) (h:crs n x j (x k)):x (lo n x j) < x k/\x k < x (hi n x j):=by
 have h':=(Zc5 s hj hk h1 h2).mpr h
 unfold crs at h h'
 omega
theorem ZoL (s:Yj n x y) {k:Nat} (hk:k < n) :
  (lo n x k=k\/hi n x k=k)/\(lo n x (pv n k)=k\/hi n x (pv n k)=k):=by
 have e:=ZlU (n:=n) hk
 constructor
 ·rcases Uc (n:=n) (x:=x) k with ⟨a,b⟩ | ⟨a,b⟩ <;> simp [a,b]
 ·rcases Uc (n:=n) (x:=x) (pv n k) with ⟨a,b⟩ | ⟨a,b⟩ <;> simp [a,b,e]
theorem ZpA (s:Yj n x y) {k:Nat} (hk:k < n) :
  ((d n x k=1/\lo n x k=k/\crs n x k (x k)/\¬ crs n x k (x k-1))\/(d n x k=-1/\hi n x k=k/\¬ crs n x k (x k)/\crs n x k (x k-1))) /\
  ((d n x (pv n k)=1/\hi n x (pv n k)=k/\¬ crs n x (pv n k) (x k)/\crs n x (pv n k) (x k-1))\/(d n x (pv n k)=-1/\lo n x (pv n k)=k/\crs n x (pv n k) (x k)/\¬ crs n x (pv n k) (x k-1))):=by
 have e:=ZlU (n:=n) hk
 have l1:=Y8 s hk
 have l2:=Y8 s (ZeF hk)
 unfold crs
 constructor
 ·rcases ZhW (n:=n) (x:=x) k with ⟨a,b,c,_⟩ | ⟨a,b,c,_⟩
  ·left; rw [a] at l1 ⊢; exact ⟨c,rfl,by omega,by omega⟩
  ·right; rw [b] at l1 ⊢; exact ⟨c,rfl,by omega,by omega⟩
 ·rcases ZhW (n:=n) (x:=x) (pv n k) with ⟨a,b,c,_⟩ | ⟨a,b,c,_⟩
  ·left; rw [e] at b; rw [b] at l2 ⊢; exact ⟨c,rfl,by omega,by omega⟩
  ·right; rw [e] at a; rw [a] at l2 ⊢; exact ⟨c,rfl,by omega,by omega⟩
theorem ZqP (s:Yj n x y) {i:Nat} {t:Int} (hi':i < n) (h0:crs n x i (t-1)) (h1:crs n x i t):c n x y i (t-1)=c n x y i t:=by
 unfold c
 by_cases hv:∃ k,k < n/\x k=t
 ·obtain ⟨k,hk,rfl⟩:=hv
  have sp:x (lo n x i) < x k/\x k < x (hi n x i):=by unfold crs at h0 h1; omega
  have hp:=ZeF (n:=n) hk
  have b1:=ZoC s hk hi' (ZoL s hk).1 sp.1 sp.2
  have b2:=ZoC s hp hi' (ZoL s hk).2 sp.1 sp.2
  have q:=Zov (n:=n) (a:=k) (b:=pv n k) (f:=fun j=>if crs n x j (x k-1)/\B n x y j i then d n x j else 0) (g:=fun j=>if crs n x j (x k)/\B n x y j i then d n x j else 0)
   hk hp (Ne.symm (Zjt s.n3 hk)) (fun j hj h1 h2=>by
    have:=Zc5 s hj hk h1 h2
    simp only [this])
  have z:=ZpA s hk
  have:(if crs n x k (x k-1)/\B n x y k i then d n x k else 0)-(if crs n x k (x k)/\B n x y k i then d n x k else 0)+((if crs n x (pv n k) (x k-1)/\B n x y (pv n k) i then d n x (pv n k) else 0)-(if crs n x (pv n k) (x k)/\B n x y (pv n k) i then d n x (pv n k) else 0))=0:=by
   simp only [b1,b2]
   by_cases hb:0 < sd n x y i k
   ·simp [hb]
   ·rcases z.1 with ⟨p1,p2,p3,p4⟩ | ⟨p1,p2,p3,p4⟩ <;> rcases z.2 with ⟨q1,q2,q3,q4⟩ | ⟨q1,q2,q3,q4⟩ <;> simp [hb,p1,p3,p4,q1,q3,q4]
  omega
 ·refine S_congr fun j hj=>?_
  have a1:x (lo n x j)≠t:=fun z=>hv ⟨_,U6 hj,z⟩
  have a2:x (hi n x j)≠t:=fun z=>hv ⟨_,UG hj,z⟩
  have:crs n x j (t-1) ↔ crs n x j t:=by unfold crs; omega
  simp only [this]
theorem Znz (s:Yj n x y) {j k:Nat} (hk:k < n) (hj:j < n) (h1:j≠k) (h2:j≠pv n k) (h:crs n x j (x k)):B n x y j k ↔ B n x y j (pv n k):=by
 have sp:=Zkc s hj hk h1 h2 h
 rw [ZpP s hk hj (ZoL s hk).1 sp.1 sp.2,ZpP s (ZeF hk) hj (ZoL s hk).2 sp.1 sp.2]
noncomputable def tk (x:Nat->Int) (n k i:Nat):Int:=if lo n x i=k then x k else x k-1
theorem ZqO (s:Yj n x y) {k:Nat} (hk:k < n):W n x y (pv n k) (tk x n k (pv n k))=W n x y k (tk x n k k):=by
 have hp:=ZeF (n:=n) hk
 have z:=ZpA s hk
 have l1:=Y8 s hk
 have l2:=Y8 s hp
 have q:=Zov (n:=n) (a:=k) (b:=pv n k) (f:=fun j=>if crs n x j (tk x n k (pv n k))/\B n x y j (pv n k) then d n x j else 0) (g:=fun j=>if crs n x j (tk x n k k)/\B n x y j k then d n x j else 0)
   hk hp (Ne.symm (Zjt s.n3 hk)) (fun j hj h1 h2=>by
    have e:=Zc5 s hj hk h1 h2
    have e2:∀ i,crs n x j (tk x n k i) ↔ crs n x j (x k):=fun i=>by unfold tk; split <;> first | rfl | exact e
    by_cases hc:crs n x j (x k)
    ·have:=Znz s hk hj h1 h2 hc
     simp only [e2,this]
    ·simp only [e2,hc,false_and,if_false])
 have irr1:=Zkm (n:=n) (x:=x) (y:=y) k
 have irr2:=Zkm (n:=n) (x:=x) (y:=y) (pv n k)
 simp only [irr1,irr2,and_false,if_false] at q
 unfold W c
 rcases z.1 with ⟨p1,p2,p3,p4⟩ | ⟨p1,p2,p3,p4⟩ <;> rcases z.2 with ⟨q1,q2,q3,q4⟩ | ⟨q1,q2,q3,q4⟩
 ·have t1:tk x n k k=x k:=by unfold tk; rw [if_pos p2]
  have t2:tk x n k (pv n k)=x k-1:=by
   unfold tk; rw [if_neg]; intro z; rw [z,q2] at l2; omega
  simp only [t1,t2,p1,p3,p4,q1,q3,q4] at q ⊢
  simp at q ⊢
  omega
 ·have t1:tk x n k k=x k:=by unfold tk; rw [if_pos p2]
  have t2:tk x n k (pv n k)=x k:=by unfold tk; rw [if_pos q2]
  have an:=Zbp s hk hp (Ne.symm (Zjt s.n3 hk)) (by rw [p2]; rw [q2] at l2; exact l2) (by rw [q2]; rw [p2] at l1; exact l1)
  simp only [t1,t2,p1,p3,p4,q1,q3,q4,an] at q ⊢
  by_cases hb:B n x y (pv n k) k <;> simp [hb] at q ⊢ <;> omega
 ·have t1:tk x n k k=x k-1:=by
   unfold tk; rw [if_neg]; intro z; rw [z,p2] at l1; omega
  have t2:tk x n k (pv n k)=x k-1:=by
   unfold tk; rw [if_neg]; intro z; rw [z,q2] at l2; omega
  have an:=Zbp s hk hp (Ne.symm (Zjt s.n3 hk)) (by rw [q2]; rw [p2] at l1; exact l1) (by rw [p2]; rw [q2] at l2; exact l2)
  simp only [t1,t2,p1,p3,p4,q1,q3,q4,an] at q ⊢
  by_cases hb:B n x y (pv n k) k <;> simp [hb] at q ⊢ <;> omega
 ·have t1:tk x n k k=x k-1:=by
   unfold tk; rw [if_neg]; intro z; rw [z,p2] at l1; omega
  have t2:tk x n k (pv n k)=x k:=by unfold tk; rw [if_pos q2]
  simp only [t1,t2,p1,p3,p4,q1,q3,q4] at q ⊢
  simp at q ⊢
  omega
theorem ZpI (s:Yj n x y) {i:Nat} (hi':i < n):∀ (m:Nat) (t:Int),t=x (lo n x i)+m->crs n x i t->W n x y i t=W n x y i (x (lo n x i)):=by
 intro m
 induction m with
 | zero=>intro t e _; rw [e]; simp
 | succ m ih=>
  intro t e h
  have h0:crs n x i (t-1):=by unfold crs at h ⊢; omega
  have:=ih (t-1) (by omega) h0
  rw [<-this]
  unfold W
  rw [ZqP s hi' h0 h]
theorem ZmA (s:Yj n x y) {i:Nat} (hi':i < n) {t:Int} (h:crs n x i t):W n x y i t=W n x y i (x (lo n x i)):=
 ZpI s hi' (t-x (lo n x i)).toNat t (by unfold crs at h; omega) h
theorem Zoq (s:Yj n x y) {k:Nat} (hk:k < n):crs n x k (tk x n k k)/\crs n x (pv n k) (tk x n k (pv n k)):=by
 have z:=ZpA s hk
 have l1:=Y8 s hk
 have l2:=Y8 s (ZeF hk)
 constructor
 ·rcases z.1 with ⟨p1,p2,p3,p4⟩ | ⟨p1,p2,p3,p4⟩
  ·unfold tk; rw [if_pos p2]; exact p3
  ·unfold tk; rw [if_neg]; exact p4
   intro z; rw [z,p2] at l1; omega
 ·rcases z.2 with ⟨p1,p2,p3,p4⟩ | ⟨p1,p2,p3,p4⟩
  ·unfold tk; rw [if_neg]; exact p4
   intro z; rw [z,p2] at l2; omega
  ·unfold tk; rw [if_pos p2]; exact p3
noncomputable def w (n:Nat) (x y:Nat->Int) (i:Nat):Int:=W n x y i (x (lo n x i))
theorem ZmN (s:Yj n x y) {k:Nat} (hk:k < n):w n x y (pv n k)=w n x y k:=by
 have a:=Zoq s hk
 have b:=ZqO s hk
 rw [ZmA s hk a.1,ZmA s (ZeF hk) a.2] at b
 exact b
theorem ZoQ (s:Yj n x y):∀ {k:Nat},k < n->w n x y k=w n x y 0:=by
 intro k
 induction k with
 | zero=>intro _; rfl
 | succ k ih=>
  intro h
  have:=ZmN s h
  have e:pv n (k+1)=k:=by unfold pv; simp
  rw [e] at this
  rw [<-this,ih (by omega)]
theorem Zmq (s:Yj n x y) {i:Nat} (hi':i < n) {t:Int} (h:crs n x i t):c n x y i t+(if d n x i=1 then 1 else 0)=w n x y 0:=by
 have e:=ZmA s hi' h
 have e2:=ZoQ s hi'
 exact e.trans e2
theorem ZmO (s:Yj n x y) (hm:∀ i,0 < i->i < n->x 0 < x i):w n x y 0=if 0 < cr (x (n-1)) (y (n-1)) (x 0) (y 0) (x 1) (y 1) then 1 else 0:=by
 have n3:=s.n3
 have e1:nx n 0=1:=by unfold nx; rw [if_neg]; omega
 have up:x 0 < x (nx n 0):=by rw [e1]; exact hm 1 (by omega) (by omega)
 have l0:lo n x 0=0:=by unfold lo; rw [if_pos up]
 have h0:hi n x 0=1:=by unfold hi; rw [if_pos up,e1]
 have d0:d n x 0=1:=by unfold d; rw [if_pos up]
 have ep:pv n 0=n-1:=by unfold pv; simp
 have e2:nx n (n-1)=0:=by unfold nx; rw [if_pos]; omega
 have dn:¬ x (n-1) < x (nx n (n-1)):=by rw [e2]; have:=hm (n-1) (by omega) (by omega); omega
 have l1:lo n x (n-1)=0:=by unfold lo; rw [if_neg dn,e2]
 have h1:hi n x (n-1)=n-1:=by unfold hi; rw [if_neg dn]
 have d1:d n x (n-1)=-1:=by unfold d; rw [if_neg dn]
 unfold w W c
 rw [Zi2 (a:=n-1) (by omega) (fun j hj hne=>?_)]
 ·rw [l0,d0,d1]
  have cq:crs n x (n-1) (x 0):=by unfold crs; rw [l1,h1]; have:=hm (n-1) (by omega) (by omega); omega
  have bq:B n x y (n-1) 0 ↔ ¬ 0 < cr (x (n-1)) (y (n-1)) (x 0) (y 0) (x 1) (y 1):=by
   rw [Zbp s (by omega) (by omega) (by omega) (by rw [l1,h0]; exact hm 1 (by omega) (by omega)) (by rw [l0,h1]; exact hm (n-1) (by omega) (by omega))]
   have same:cr (x (n-1)) (y (n-1)) (x 0) (y 0) (x 1) (y 1)=cr (x 0) (y 0) (x 1) (y 1) (x (n-1)) (y (n-1)):=by unfold cr; grind
   have same2:cr (x (n-1)) (y (n-1)) (x 0) (y 0) (x 1) (y 1)=- cr (x 0) (y 0) (x (n-1)) (y (n-1)) (x 1) (y 1):=by unfold cr; grind
   have u1:sd n x y 0 (n-1)=cr (x 0) (y 0) (x 1) (y 1) (x (n-1)) (y (n-1)):=by unfold sd; rw [l0,h0]
   have u2:sd n x y (n-1) 1=cr (x 0) (y 0) (x (n-1)) (y (n-1)) (x 1) (y 1):=by unfold sd; rw [l1,h1]
   unfold B
   rw [l0,l1,h0,h1,if_neg (by omega),if_neg (by omega),u1,u2]
   split <;> omega
  simp only [cq,bq,true_and]
  split <;> split <;> simp_all
 ·rw [if_neg]
  rintro ⟨hc,hb⟩
  by_cases hj0:j=0
  ·rw [hj0] at hb; exact Zkm 0 hb
  ·have a:=Uc (n:=n) (x:=x) j
   have b:nx n j≠0:=by unfold nx; split <;> omega
   have c1:x 0 < x (lo n x j):=by
    rcases a with ⟨a,_⟩ | ⟨a,_⟩ <;> rw [a]
    ·exact hm j (by omega) hj
    ·exact hm _ (by omega) (nx_lt hj)
   unfold crs at hc
   rw [l0] at hc
   omega
end
theorem Zi3:∀ (n:Nat) (f g:Nat->Int),S n (fun j=>f j+g j)=S n f+S n g
 | 0,_,_=>rfl
 | n+1,f,g=>by simp only [S,Zi3 n f g]; omega
theorem Zee (k:Int):∀ (n:Nat) (f:Nat->Int),S n (fun j=>k*f j)=k*S n f
 | 0,_=>by simp [S]
 | n+1,f=>by simp only [S,Zee k n f]; grind
theorem ZfX:∀ (n:Nat),S n (fun _=>0)=0
 | 0=>rfl
 | n+1=>by simp only [S,ZfX n]; rfl
theorem Zi0:∀ (m n:Nat) (f:Nat->Nat->Int),S m (fun i=>S n (fun j=>f i j))=S n (fun j=>S m (fun i=>f i j))
 | 0,n,f=>by simp only [S,ZfX]
 | m+1,n,f=>by simp only [S,Zi0 m n f,Zi3]
theorem Zda:∀ {n:Nat} {f:Nat->Int},(∀ j,j < n->0<=f j)->0<=S n f
 | 0,_,_=>by simp [S]
 | n+1,f,h=>by
  have:=Zda (n:=n) (f:=f) (fun j hj=>h j (by omega))
  have:=h n (by omega)
  simp only [S]; omega
theorem Zow {n:Nat} {f:Nat->Int} (h:∀ j,j < n->0<=f j) {k:Nat} (hk:k < n) (hp:0 < f k):0 < S n f:=by
 induction n with
 | zero=>omega
 | succ n ih=>
  simp only [S]
  by_cases e:k=n
  ·subst e
   have:=Zda (n:=k) (f:=f) (fun j hj=>h j (by omega))
   omega
  ·have:=ih (fun j hj=>h j (by omega)) (by omega)
   have:=h n (by omega)
   omega
theorem Zox {n:Nat} (hn:0 < n) (g:Nat->Int):S n (fun i=>g i-g (nx n i))=0:=by
 have part:∀ m,m+1<=n->S m (fun i=>g i-g (nx n i))=g 0-g m:=by
  intro m
  induction m with
  | zero=>intro _; simp [S]
  | succ m ih=>
   intro h
   have e:nx n m=m+1:=by unfold nx; rw [if_neg]; omega
   simp only [S,ih (by omega),e]; omega
 obtain ⟨m,rfl⟩:∃ m,n=m+1:=⟨n-1,by omega⟩
 have e:nx (m+1) m=0:=by unfold nx; simp
 simp only [S,part m (by omega),e]; omega
theorem Ze1 (n:Nat) (f:Nat->Int):∃ R:Nat,∀ i,i < n->-(R:Int)<=f i/\f i < R:=by
 induction n with
 | zero=>exact ⟨0,fun i h=>by omega⟩
 | succ n ih=>
  obtain ⟨R,h⟩:=ih
  refine ⟨R+(f n).natAbs+1,fun i hi=>?_⟩
  by_cases e:i=n
  ·subst e; omega
  ·have:=h i (by omega); omega
theorem ZnT (h b:Int) (hb:b<=h):∀ N:Nat,S N (fun m=>if h<=b+m then 1 else 0)=if h<=b+N then b+N-h else 0
 | 0=>by simp only [S]; split <;> omega
 | N+1=>by
  simp only [S,ZnT h b hb N]
  split <;> split <;> omega
theorem Zie {n:Nat} (A:Nat->Prop) [DecidablePred A] (h dd:Nat->Int) (w0:Int) (hw:w0=0\/w0=1)
  (hd:∀ i,i < n->dd i=1\/dd i=-1)
  (inj:∀ i j,i < n->j < n->A i->A j->h i=h j->i=j)
  (low:∀ i,i < n->A i->S n (fun j=>if A j/\h j < h i then dd j else 0)+(if dd i=1 then 1 else 0)=w0)
  (tot:S n (fun j=>if A j then dd j else 0)=0) :
  0<=(2*w0-1)*S n (fun j=>if A j then-dd j*h j else 0) /\
  ((∃ i,i < n/\A i/\dd i=2*w0-1)->0 < (2*w0-1)*S n (fun j=>if A j then-dd j*h j else 0)):=by
 obtain ⟨R,hR⟩:=Ze1 n h
 have pat:∀ i,i < n->A i->S n (fun j=>if A j/\h j<=h i then dd j else 0)=w0+dd i-(if dd i=1 then 1 else 0):=by
  intro i hi ai
  have e:=low i hi ai
  have q:S n (fun j=>if A j/\h j<=h i then dd j else 0)=S n (fun j=>(if A j/\h j < h i then dd j else 0)+(if j=i then dd i else 0)):=by
   refine S_congr fun j hj=>?_
   by_cases aj:A j
   ·by_cases e2:j=i
    ·subst e2; simp [aj]
    ·have ne:h j≠h i:=fun z=>e2 (inj j i hj hi aj ai z)
     by_cases l:h j < h i
     ·have:h j<=h i:=by omega
      simp [aj,l,this,e2]
     ·have:¬ h j<=h i:=by omega
      simp [aj,l,this,e2]
   ·have e2:j≠i:=fun z=>aj (z ▸ ai)
    simp [aj,e2]
  rw [q,Zi3,Zi2 (a:=i) (f:=fun j=>if j=i then dd i else 0) hi (fun j _ hne=>by simp [hne])]
  simp only [if_true]
  omega
 have ps:∀ m:Nat,0<=(2*w0-1)*S n (fun j=>if A j/\h j<=-(R:Int)-1+m then dd j else 0):=by
  intro m
  induction m with
  | zero=>
   have:S n (fun j=>if A j/\h j<=-(R:Int)-1+(0:Nat) then dd j else 0)=0:=by
    refine (S_congr fun j hj=>?_).trans (ZfX n)
    have:=hR j hj
    rw [if_neg]; rintro ⟨_,z⟩; omega
   rw [this]; simp
  | succ m ih=>
   by_cases ex:∃ i,i < n/\A i/\h i=-(R:Int)-1+((m+1:Nat):Int)
   ·obtain ⟨i,hi,ai,e⟩:=ex
    rw [<-e,pat i hi ai]
    rcases hw with rfl | rfl <;> rcases hd i hi with e1 | e1 <;> simp [e1]
   ·have:S n (fun j=>if A j/\h j<=-(R:Int)-1+((m+1:Nat):Int) then dd j else 0)=S n (fun j=>if A j/\h j<=-(R:Int)-1+m then dd j else 0):=by
     refine S_congr fun j hj=>?_
     by_cases aj:A j
     ·have ne:h j≠-(R:Int)-1+((m+1:Nat):Int):=fun z=>ex ⟨j,hj,aj,z⟩
      have:h j<=-(R:Int)-1+((m+1:Nat):Int) ↔ h j<=-(R:Int)-1+m:=by omega
      simp only [aj,this]
     ·simp [aj]
    rw [this]; exact ih
 have lay:S n (fun j=>if A j then-dd j*h j else 0)=S (2*R+1) (fun m=>S n (fun j=>if A j/\h j<=-(R:Int)-1+m then dd j else 0)):=by
  rw [Zi0]
  have q:S n (fun j=>S (2*R+1) (fun m=>if A j/\h j<=-(R:Int)-1+m then dd j else 0))=S n (fun j=>(if A j then-dd j*h j else 0)+R*(if A j then dd j else 0)):=by
   refine S_congr fun j hj=>?_
   by_cases aj:A j
   ·have hr:=hR j hj
    have e:S (2*R+1) (fun m=>if A j/\h j<=-(R:Int)-1+m then dd j else 0)=dd j*S (2*R+1) (fun m=>if h j<=(-(R:Int)-1)+m then 1 else 0):=by
     rw [<-Zee]
     refine S_congr fun m _=>?_
     simp only [aj,true_and]
     split <;> simp
    rw [e,ZnT _ _ (by omega)]
    simp only [aj,if_true]
    rw [if_pos (by omega)]
    have:(-(R:Int)-1)+((2*R+1:Nat):Int)-h j=R-h j:=by omega
    rw [this]
    grind
   ·simp only [aj,false_and,if_false,ZfX]; simp
  rw [q,Zi3,Zee,tot]; simp
 have lay2:(2*w0-1)*S n (fun j=>if A j then-dd j*h j else 0)=S (2*R+1) (fun m=>(2*w0-1)*S n (fun j=>if A j/\h j<=-(R:Int)-1+m then dd j else 0)):=by
  rw [lay,Zee]
 rw [lay2]
 refine ⟨Zda fun m _=>ps m,?_⟩
 rintro ⟨i,hi,ai,di⟩
 have hr:=hR i hi
 refine Zow (fun m _=>ps m) (k:=(h i+R+1).toNat) (by omega) ?_
 have e:-(R:Int)-1+((h i+R+1).toNat:Int)=h i:=by omega
 rw [e,pat i hi ai]
 rcases hw with rfl | rfl <;> simp at di <;> simp [di]
section
variable (n:Nat) (x y:Nat->Int)
noncomputable def bw (i:Nat):Int:=x (hi n x i)-x (lo n x i)
noncomputable def Pr:Nat->Int
 | 0=>1
 | m+1=>Pr m*bw n x m
noncomputable def K (i:Nat):Int:=Pr n x n / bw n x i
noncomputable def H (t:Int) (i:Nat):Int:=K n x i*(2*y (lo n x i)*bw n x i+(y (hi n x i)-y (lo n x i))*(2*t+1-2*x (lo n x i)))
noncomputable def A2:Int:=S n fun i=>x i*y (nx n i)-y i*x (nx n i)
end
section
variable {n:Nat} {x y:Nat->Int}
theorem ZiR (s:Yj n x y) {i:Nat} (h:i < n):0 < bw n x i:=by have:=Y8 s h; unfold bw; omega
theorem ZkZ (s:Yj n x y):∀ {m:Nat},m<=n->0 < Pr n x m:=by
 intro m
 induction m with
 | zero=>intro _; unfold Pr; decide
 | succ m ih=>intro h; exact Int.mul_pos (ih (by omega)) (ZiR s (by omega))
theorem Zoy {i:Nat}:∀ {m:Nat},i < m->bw n x i ∣ Pr n x m:=by
 intro m
 induction m with
 | zero=>intro h; omega
 | succ m ih=>
  intro h
  unfold Pr
  by_cases e:i=m
  ·subst e; exact Int.dvd_mul_left _ _
  ·exact Int.dvd_trans (ih (by omega)) (Int.dvd_mul_right _ _)
theorem ZmB (s:Yj n x y) {i:Nat} (h:i < n):K n x i*bw n x i=Pr n x n:=Int.ediv_mul_cancel (Zoy h)
noncomputable def Nn (n:Nat) (x y:Nat->Int) (j i:Nat) (s:Int):Int:=
 bw n x j*(y (lo n x i)*bw n x i+(y (hi n x i)-y (lo n x i))*(s-x (lo n x i)))-bw n x i*(y (lo n x j)*bw n x j+(y (hi n x j)-y (lo n x j))*(s-x (lo n x j)))
theorem Zk1 (j i:Nat) (a b s:Int):(b-a)*Nn n x y j i s=(b-s)*Nn n x y j i a+(s-a)*Nn n x y j i b:=by unfold Nn; grind
theorem Zk0 (j i:Nat):Nn n x y j i (x (lo n x i))=bw n x i*sd n x y j (lo n x i):=by unfold Nn sd cr bw; grind
theorem Zoz (j i:Nat):Nn n x y j i (x (lo n x j))=- (bw n x j*sd n x y i (lo n x j)):=by unfold Nn sd cr bw; grind
theorem Zk2 (j i:Nat):Nn n x y j i (x (hi n x i))=bw n x i*sd n x y j (hi n x i):=by unfold Nn sd cr bw; grind
theorem ZoA (j i:Nat):Nn n x y j i (x (hi n x j))=- (bw n x j*sd n x y i (hi n x j)):=by unfold Nn sd cr bw; grind
theorem B_H (s:Yj n x y) {j i:Nat} {t:Int} (hj:j < n) (hi':i < n) (hne:j≠i) (cj:crs n x j t) (ci:crs n x i t) (hb:B n x y j i):H n x y t j < H n x y t i:=by
 have wi:=ZiR s hi'
 have wj:=ZiR s hj
 unfold crs at cj ci
 have hb':¬ B n x y i j:=by
  have:=Zbp s hi' hj (Ne.symm hne) (by omega) (by omega)
  exact fun z=>(this.mp z) hb
 obtain ⟨a,ha1,ha2,ha3⟩:∃ a:Int,a<=t/\0<=Nn n x y j i a/\(Nn n x y j i a=0->x (lo n x i)=x (lo n x j)):=by
  by_cases c1:x (lo n x j) < x (lo n x i)
  ·refine ⟨x (lo n x i),by omega,?_,?_⟩ <;> rw [Zk0] <;> unfold B at hb <;> rw [if_pos c1] at hb <;> have:=Int.mul_pos wi hb <;> omega
  ·by_cases c2:x (lo n x i) < x (lo n x j)
   ·have hb2:=hb
    unfold B at hb2
    rw [if_neg c1,if_pos c2] at hb2
    have:=Int.mul_neg_of_pos_of_neg wj hb2
    refine ⟨x (lo n x j),by omega,?_,?_⟩ <;> rw [Zoz] <;> omega
   ·have e:=s.dx _ _ (U6 (x:=x) hi') (U6 (x:=x) hj) (by omega)
    refine ⟨x (lo n x i),by omega,?_,fun _=>by omega⟩
    rw [Zk0,e]
    have:sd n x y j (lo n x j)=0:=by unfold sd cr; grind
    rw [this]; simp
 obtain ⟨b,hb1,hb2,hb3⟩:∃ b:Int,t+1<=b/\0<=Nn n x y j i b/\(Nn n x y j i b=0->x (hi n x i)=x (hi n x j)):=by
  by_cases c1:x (hi n x j) < x (hi n x i)
  ·have q:=ZpO s hj hi' (by omega) c1
   have o:=s.off i (hi n x j) hi' (UG hj) (by omega) c1
   have:sd n x y i (hi n x j) < 0:=by
    have:¬ 0 < sd n x y i (hi n x j):=fun z=>hb' (q.mpr z)
    omega
   have:=Int.mul_neg_of_pos_of_neg wj this
   refine ⟨x (hi n x j),by omega,?_,?_⟩ <;> rw [ZoA] <;> omega
  ·by_cases c2:x (hi n x i) < x (hi n x j)
   ·have q:=ZpO s hi' hj (by omega) c2
    have:=Int.mul_pos wi (q.mp hb)
    refine ⟨x (hi n x i),by omega,?_,?_⟩ <;> rw [Zk2] <;> omega
   ·have e:=s.dx _ _ (UG (x:=x) hi') (UG (x:=x) hj) (by omega)
    refine ⟨x (hi n x i),by omega,?_,fun _=>by omega⟩
    rw [Zk2,e]
    have:sd n x y j (hi n x j)=0:=by unfold sd cr; grind
    rw [this]; simp
 have nz:0 < Nn n x y j i a\/0 < Nn n x y j i b:=by
  by_cases z1:Nn n x y j i a=0
  ·by_cases z2:Nn n x y j i b=0
   ·exact absurd (Zdp s hi' hj (ha3 z1) (hb3 z2)) (Ne.symm hne)
   ·omega
  ·omega
 have l1:=Zk1 (n:=n) (x:=x) (y:=y) j i a b t
 have l2:=Zk1 (n:=n) (x:=x) (y:=y) j i a b (t+1)
 have pos:0 < (b-a)*(Nn n x y j i t+Nn n x y j i (t+1)):=by
  have e:(b-a)*(Nn n x y j i t+Nn n x y j i (t+1))=(2*b-2*t-1)*Nn n x y j i a+(2*t+1-2*a)*Nn n x y j i b:=by
   rw [Int.mul_add,l1,l2]; grind
  rw [e]
  have z1:0<=(2*b-2*t-1)*Nn n x y j i a:=Int.mul_nonneg (by omega) ha2
  have z2:0<=(2*t+1-2*a)*Nn n x y j i b:=Int.mul_nonneg (by omega) hb2
  rcases nz with z | z
  ·have:0 < (2*b-2*t-1)*Nn n x y j i a:=Int.mul_pos (by omega) z
   omega
  ·have:0 < (2*t+1-2*a)*Nn n x y j i b:=Int.mul_pos (by omega) z
   omega
 have pos2:0 < Nn n x y j i t+Nn n x y j i (t+1):=by
  apply Classical.byContradiction; intro z
  have:(b-a)*(Nn n x y j i t+Nn n x y j i (t+1))<=0:=Int.mul_nonpos_of_nonneg_of_nonpos (by omega) (by omega)
  omega
 have ki:=ZmB s hi'
 have kj:=ZmB s hj
 have pp:=ZkZ s (Nat.le_refl n)
 have e:bw n x i*bw n x j*(H n x y t i-H n x y t j)=Pr n x n*(Nn n x y j i t+Nn n x y j i (t+1)):=by
  have e1:bw n x i*bw n x j*H n x y t i=Pr n x n*(bw n x j*(2*y (lo n x i)*bw n x i+(y (hi n x i)-y (lo n x i))*(2*t+1-2*x (lo n x i)))):=by
   unfold H; rw [<-ki]; grind
  have e2:bw n x i*bw n x j*H n x y t j=Pr n x n*(bw n x i*(2*y (lo n x j)*bw n x j+(y (hi n x j)-y (lo n x j))*(2*t+1-2*x (lo n x j)))):=by
   unfold H; rw [<-kj]; grind
  rw [Int.mul_sub,e1,e2]; unfold Nn; grind
 apply Classical.byContradiction; intro z
 have z1:bw n x i*bw n x j*(H n x y t i-H n x y t j)<=0:=Int.mul_nonpos_of_nonneg_of_nonpos (Int.le_of_lt (Int.mul_pos wi wj)) (by omega)
 have z2:=Int.mul_pos pp pos2
 omega
theorem ZpM (s:Yj n x y) {i:Nat} (h:i < n) (b:Int) (hb:b<=x (lo n x i)):∀ T:Nat,
  S T (fun m=>if crs n x i (b+m) then H n x y (b+m) i else 0) =
   if b+T<=x (lo n x i) then 0 else if b+T<=x (hi n x i) then K n x i*(2*y (lo n x i)*bw n x i*(b+T-x (lo n x i))+(y (hi n x i)-y (lo n x i))*((b+T-x (lo n x i))*(b+T-x (lo n x i))))
   else Pr n x n*(bw n x i*(y (lo n x i)+y (hi n x i))):=by
 have lh:=Y8 s h
 have km:=ZmB s h
 have full:∀ z:Int,z=x (hi n x i)->K n x i*(2*y (lo n x i)*bw n x i*(z-x (lo n x i))+(y (hi n x i)-y (lo n x i))*((z-x (lo n x i))*(z-x (lo n x i))))=Pr n x n*(bw n x i*(y (lo n x i)+y (hi n x i))):=by
  intro z e
  have:z-x (lo n x i)=bw n x i:=by unfold bw; omega
  rw [this,<-km]; grind
 intro T
 induction T with
 | zero=>simp only [S]; rw [if_pos (by omega)]
 | succ T ih=>
  simp only [S,ih]
  by_cases c1:b+T+1<=x (lo n x i)
  ·rw [if_pos (by omega),if_neg (by unfold crs; omega),if_pos (by omega)]; rfl
  ·by_cases c2:b+T+1<=x (hi n x i)
   ·have cc:crs n x i (b+T):=by unfold crs; omega
    rw [if_pos cc,if_neg (c:=b+((T+1:Nat):Int)<=x (lo n x i)) (by omega),if_pos (c:=b+((T+1:Nat):Int)<=x (hi n x i)) (by omega)]
    have e:((T+1:Nat):Int)=(T:Int)+1:=by omega
    rw [e]
    unfold H
    by_cases c3:b+T<=x (lo n x i)
    ·rw [if_pos c3]
     have:b+(T:Int)=x (lo n x i):=by omega
     have e3:b+((T:Int)+1)=x (lo n x i)+1:=by omega
     rw [this,e3]; grind
    ·rw [if_neg c3,if_pos (by omega)]
     grind
   ·have cc:¬ crs n x i (b+T):=by unfold crs; omega
    rw [if_neg cc,if_neg (c:=b+((T+1:Nat):Int)<=x (lo n x i)) (by omega),if_neg (c:=b+((T+1:Nat):Int)<=x (hi n x i)) (by omega)]
    rw [if_neg (by omega)]
    by_cases c3:b+T<=x (hi n x i)
    ·rw [if_pos c3,full (b+T) (by omega)]; simp
    ·rw [if_neg c3]; simp
theorem ZmC (s:Yj n x y):Pr n x n*A2 n x y=S n (fun i=>- d n x i*(Pr n x n*(bw n x i*(y (lo n x i)+y (hi n x i))))):=by
 have e1:A2 n x y=S n (fun i=>- d n x i*(bw n x i*(y (lo n x i)+y (hi n x i)))):=by
  have z:=Zox (n:=n) (by have:=s.n3; omega) (fun i=>- (x i*y i))
  have:A2 n x y=S n (fun i=>- d n x i*(bw n x i*(y (lo n x i)+y (hi n x i)))+(- (x i*y i) - - (x (nx n i)*y (nx n i)))):=by
   unfold A2
   refine S_congr fun i hi'=>?_
   unfold bw
   rcases ZhW (n:=n) (x:=x) i with ⟨a,b,c,_⟩ | ⟨a,b,c,_⟩ <;> rw [a,b,c] <;> grind
  rw [this,Zi3,z]; simp
 rw [e1,<-Zee]
 refine S_congr fun i _=>?_
 grind
theorem Zqe (s:Yj n x y) (t:Int):S n (fun j=>if crs n x j t then d n x j else 0)=0:=by
 have z:=Zox (n:=n) (by have:=s.n3; omega) (fun i=>if x i<=t then 1 else 0)
 refine (S_congr fun i hi'=>?_).trans z
 have l:=Y8 s hi'
 have q:crs n x i t ↔ x (lo n x i)<=t/\t < x (hi n x i):=Iff.rfl
 simp only [q]
 rcases ZhW (n:=n) (x:=x) i with ⟨a,b,c,_⟩ | ⟨a,b,c,_⟩ <;> rw [a,b] at l <;> simp only [a,b,c] <;> split <;> split <;> split <;> omega
theorem ZiX (s:Yj n x y) (hm:∀ i,0 < i->i < n->x 0 < x i) :
  0 < (2*(if 0 < cr (x (n-1)) (y (n-1)) (x 0) (y 0) (x 1) (y 1) then 1 else 0:Int)-1)*A2 n x y:=by
 have n3:=s.n3
 have hw:=ZmO s hm
 generalize hq:(if 0 < cr (x (n-1)) (y (n-1)) (x 0) (y 0) (x 1) (y 1) then 1 else 0:Int)=w0 at *
 have hw0:w0=0\/w0=1:=by rw [<-hq]; split <;> simp
 have gap:∀ t:Int,0<=(2*w0-1)*S n (fun j=>if crs n x j t then-d n x j*H n x y t j else 0) /\
   ((∃ i,i < n/\crs n x i t/\d n x i=2*w0-1)->0 < (2*w0-1)*S n (fun j=>if crs n x j t then-d n x j*H n x y t j else 0)):=by
  intro t
  have ord:∀ i j,i < n->j < n->crs n x i t->crs n x j t->i≠j->(B n x y j i ↔ H n x y t j < H n x y t i):=by
   intro i j hi' hj ci cj hne
   have an:B n x y i j ↔ ¬ B n x y j i:=Zbp s hi' hj hne (by unfold crs at ci cj; omega) (by unfold crs at ci cj; omega)
   constructor
   ·exact fun hb=>B_H s hj hi' (Ne.symm hne) cj ci hb
   ·intro hl
    apply Classical.byContradiction; intro hb
    have:=B_H s hi' hj hne ci cj (an.mpr hb)
    omega
  refine Zie (fun j=>crs n x j t) (H n x y t) (d n x) w0 hw0 ?_ ?_ ?_ (Zqe s t)
  ·intro i _
   rcases ZhW (n:=n) (x:=x) i with ⟨_,_,c,_⟩ | ⟨_,_,c,_⟩ <;> simp [c]
  ·intro i j hi' hj ci cj e
   apply Classical.byContradiction; intro hne
   have a:=ord i j hi' hj ci cj hne
   have b:=ord j i hj hi' cj ci (Ne.symm hne)
   have an:B n x y i j ↔ ¬ B n x y j i:=Zbp s hi' hj hne (by unfold crs at ci cj; omega) (by unfold crs at ci cj; omega)
   rw [a,b] at an
   omega
  ·intro i hi' ci
   have:=Zmq s hi' ci
   rw [hw] at this
   rw [<-this]
   unfold c
   congr 1
   refine S_congr fun j hj=>?_
   by_cases cj:crs n x j t
   ·by_cases e:j=i
    ·subst e; simp [Zkm]
    ·have:=ord i j hi' hj ci cj (Ne.symm e)
     simp only [cj,this]
   ·simp only [cj,false_and]
 obtain ⟨R,hR⟩:=Ze1 n (fun i=>x i-x 0)
 have e:Pr n x n*A2 n x y=S (R+1) (fun m=>S n (fun j=>if crs n x j (x 0+m) then-d n x j*H n x y (x 0+m) j else 0)):=by
  rw [ZmC s,Zi0]
  refine S_congr fun i hi'=>?_
  have lb:∀ k,k < n->x 0<=x k:=fun k hk=>by
   by_cases z:k=0
   ·subst z; omega
   ·have:=hm k (by omega) hk; omega
  have hs:=ZpM s hi' (x 0) (lb _ (U6 hi')) (R+1)
  have l:=Y8 s hi'
  have u:=hR _ (UG (x:=x) hi')
  rw [if_neg (by omega),if_neg (by omega)] at hs
  rw [<-hs,<-Zee]
  refine S_congr fun m _=>?_
  split <;> simp
 have pp:=ZkZ s (Nat.le_refl n)
 have tot:0 < Pr n x n*((2*w0-1)*A2 n x y):=by
  have e2:Pr n x n*((2*w0-1)*A2 n x y)=(2*w0-1)*(Pr n x n*A2 n x y):=by grind
  rw [e2,e,<-Zee]
  refine Zow (fun m _=>(gap _).1) (k:=0) (by omega) ((gap _).2 ?_)
  have e1:nx n 0=1:=by unfold nx; rw [if_neg]; omega
  have up:x 0 < x (nx n 0):=by rw [e1]; exact hm 1 (by omega) (by omega)
  have e3:nx n (n-1)=0:=by unfold nx; rw [if_pos]; omega
  have dn:¬ x (n-1) < x (nx n (n-1)):=by rw [e3]; have:=hm (n-1) (by omega) (by omega); omega
  rcases hw0 with rfl | rfl
  ·refine ⟨n-1,by omega,?_,by unfold d; rw [if_neg dn]; rfl⟩
   unfold crs lo hi
   rw [if_neg dn,if_neg dn,e3]
   have:=hm (n-1) (by omega) (by omega)
   simp; omega
  ·refine ⟨0,by omega,?_,by unfold d; rw [if_pos up]; rfl⟩
   unfold crs lo hi
   rw [if_pos up,if_pos up]
   simp; omega
 apply Classical.byContradiction; intro z
 have:Pr n x n*((2*w0-1)*A2 n x y)<=0:=Int.mul_nonpos_of_nonneg_of_nonpos (by omega) (by omega)
 omega
end
noncomputable abbrev P2:=Int×Int
noncomputable def turn (a b c:P2):Int:=(b.1-a.1)*(c.2-a.2)-(b.2-a.2)*(c.1-a.1)
noncomputable def onS (a b c:P2):Prop:=turn a b c=0/\(min a.1 b.1<=c.1/\c.1<=max a.1 b.1)/\(min a.2 b.2<=c.2/\c.2<=max a.2 b.2)
noncomputable def meet (a b c d:P2):Prop:=onS a b c\/onS a b d\/onS c d a\/onS c d b\/(turn a b c*turn a b d < 0/\turn c d a*turn c d b < 0)
noncomputable def lexlt (a b:P2):Prop:=a.1 < b.1\/(a.1=b.1/\a.2 < b.2)
structure Good (n:Nat) (p:Nat->P2):Prop where
 n3:3<=n
 inj:∀ i j,i < n->j < n->p i=p j->i=j
 turns:∀ i,i < n->turn (p i) (p (nx n i)) (p (nx n (nx n i)))≠0
 apart:∀ i j,i < n->j < n->i≠j->i≠nx n j->j≠nx n i->¬ meet (p i) (p (nx n i)) (p j) (p (nx n j))
noncomputable def area (n:Nat) (p:Nat->P2):Int:=S n fun i=>(p i).1*(p (nx n i)).2-(p i).2*(p (nx n i)).1
theorem ZjE {a b c:P2} (h:onS a b c):onS b a c:=by
 unfold onS turn at *
 obtain ⟨h1,h2,h3⟩:=h
 refine ⟨by grind,by rw [Int.min_comm,Int.max_comm]; exact h2,by rw [Int.min_comm,Int.max_comm]; exact h3⟩
theorem ZhD {a b c:P2} (h:turn a b c=0) (h1:lexlt a c) (h2:lexlt c b):onS a b c:=by
 unfold turn at h
 unfold lexlt at h1 h2
 obtain ⟨ax,ay⟩:=a; obtain ⟨bx,by_⟩:=b; obtain ⟨cx,cy⟩:=c
 simp only at *
 refine ⟨h,?_⟩
 simp only
 have hx:ax<=cx/\cx<=bx:=by omega
 refine ⟨by omega,?_⟩
 by_cases e:ax=bx
 ·omega
 ·have w:0 < bx-ax:=by omega
  have e1:(bx-ax)*(cy-ay)=(by_-ay)*(cx-ax):=by omega
  have e2:(bx-ax)*(by_-cy)=(by_-ay)*(bx-cx):=by grind
  by_cases s:ay<=by_
  ·have z1:0<=(by_-ay)*(cx-ax):=Int.mul_nonneg (by omega) (by omega)
   have z2:0<=(by_-ay)*(bx-cx):=Int.mul_nonneg (by omega) (by omega)
   have y1:0<=cy-ay:=by
    apply Classical.byContradiction; intro q
    have:=Int.mul_neg_of_pos_of_neg w (show cy-ay < 0 by omega); omega
   have y2:0<=by_-cy:=by
    apply Classical.byContradiction; intro q
    have:=Int.mul_neg_of_pos_of_neg w (show by_-cy < 0 by omega); omega
   omega
  ·have z1:(by_-ay)*(cx-ax)<=0:=Int.mul_nonpos_of_nonpos_of_nonneg (by omega) (by omega)
   have z2:(by_-ay)*(bx-cx)<=0:=Int.mul_nonpos_of_nonpos_of_nonneg (by omega) (by omega)
   have y1:cy-ay<=0:=by
    apply Classical.byContradiction; intro q
    have:=Int.mul_pos w (show 0 < cy-ay by omega); omega
   have y2:by_-cy<=0:=by
    apply Classical.byContradiction; intro q
    have:=Int.mul_pos w (show 0 < by_-cy by omega); omega
   omega
section
variable {n:Nat} {p:Nat->P2} {M:Int}
noncomputable def shX (M:Int) (p:Nat->P2) (i:Nat):Int:=M*(p i).1+(p i).2
noncomputable def shY (p:Nat->P2) (i:Nat):Int:=(p i).2
theorem Zhc {i j:Nat} (hb:∀ k,k < n->-M < 2*(p k).2/\2*(p k).2 < M) (hi':i < n) (hj:j < n):shX M p i < shX M p j ↔ lexlt (p i) (p j):=by
 have a:=hb i hi'
 have b:=hb j hj
 unfold shX lexlt
 rcases Int.lt_trichotomy (p i).1 (p j).1 with h | h | h
 ·have:M<=M*((p j).1-(p i).1):=by
   have:=Int.mul_le_mul_of_nonneg_left (c:=M) (show 1<=(p j).1-(p i).1 by omega) (by omega)
   omega
  rw [Int.mul_sub] at this
  omega
 ·rw [h]; omega
 ·have:M<=M*((p i).1-(p j).1):=by
   have:=Int.mul_le_mul_of_nonneg_left (c:=M) (show 1<=(p i).1-(p j).1 by omega) (by omega)
   omega
  rw [Int.mul_sub] at this
  omega
theorem Zll (i j k:Nat):cr (shX M p i) (shY p i) (shX M p j) (shY p j) (shX M p k) (shY p k)=M*turn (p i) (p j) (p k):=by
 unfold cr shX shY turn; grind
theorem Zo2 {i j:Nat} (hb:∀ k,k < n->-M < 2*(p k).2/\2*(p k).2 < M) (g:Good n p) (hi':i < n) (hj:j < n) (e:shX M p i=shX M p j):i=j:=by
 have a:=Zhc (M:=M) hb hi' hj
 have b:=Zhc (M:=M) hb hj hi'
 unfold lexlt at a b
 exact g.inj i j hi' hj (Prod.ext (by omega) (by omega))
theorem Zg8 (g:Good n p) (hM:0 < M) (hb:∀ k,k < n->-M < 2*(p k).2/\2*(p k).2 < M):Yj n (shX M p) (shY p) where
 n3:=g.n3
 dx:=fun i j hi' hj e=>Zo2 hb g hi' hj e
 off:=by
  intro i k hi' hk h1 h2 z
  unfold sd at z
  rw [Zll] at z
  have z':turn (p (lo n (shX M p) i)) (p (hi n (shX M p) i)) (p k)=0:=by
   rcases Int.mul_eq_zero.mp z with q | q
   ·omega
   ·exact q
  have l1:=(Zhc hb (U6 hi') hk).mp h1
  have l2:=(Zhc hb hk (UG hi')).mp h2
  have o:=ZhD z' l1 l2
  have o':onS (p i) (p (nx n i)) (p k):=by
   rcases Uc (n:=n) (x:=shX M p) i with ⟨a,b⟩ | ⟨a,b⟩ <;> rw [a,b] at o
   ·exact o
   ·exact ZjE o
  have k1:k≠i:=by
   rintro rfl
   rcases Uc (n:=n) (x:=shX M p) k with ⟨a,b⟩ | ⟨a,b⟩ <;> rw [a] at h1 <;> rw [b] at h2 <;> omega
  have k2:k≠nx n i:=by
   rintro rfl
   rcases Uc (n:=n) (x:=shX M p) i with ⟨a,b⟩ | ⟨a,b⟩ <;> rw [a] at h1 <;> rw [b] at h2 <;> omega
  by_cases c1:i=nx n k
  ·have hp:=ZeF (n:=n) hk
   have e:=ZlU (n:=n) hk
   by_cases c2:pv n k=nx n i
   ·-- three corners
    have e3:k=nx n (nx n i):=by rw [<-c2,e]
    have:=g.turns i hi'
    rw [<-e3] at this
    exact this o'.1
   ·refine g.apart i (pv n k) hi' hp ?_ ?_ c2 (.inr (.inl ?_))
    ·rintro rfl; exact k2 e.symm
    ·rw [e]; exact Ne.symm k1
    ·rw [e]; exact o'
  ·exact g.apart i k hi' hk (Ne.symm k1) c1 k2 (.inl o')
 apart:=by
  intro e f he hf h1 h2 h3
  have na:=g.apart e f he hf h1 h2 h3
  have key:∀ i k,k < n->(0 < sd n (shX M p) (shY p) i k->0 < turn (p (lo n (shX M p) i)) (p (hi n (shX M p) i)) (p k))/\(sd n (shX M p) (shY p) i k < 0->turn (p (lo n (shX M p) i)) (p (hi n (shX M p) i)) (p k) < 0):=by
   intro i k hk
   unfold sd
   rw [Zll]
   constructor
   ·intro z
    apply Classical.byContradiction; intro q
    have:=Int.mul_nonpos_of_nonneg_of_nonpos (Int.le_of_lt hM) (show turn (p (lo n (shX M p) i)) (p (hi n (shX M p) i)) (p k)<=0 by omega)
    omega
   ·intro z
    apply Classical.byContradiction; intro q
    have:=Int.mul_nonneg (Int.le_of_lt hM) (show 0<=turn (p (lo n (shX M p) i)) (p (hi n (shX M p) i)) (p k) by omega)
    omega
  have flip:∀ a b c:P2,turn b a c=- turn a b c:=by intro a b c; unfold turn; grind
  have fin:turn (p (lo n (shX M p) e)) (p (hi n (shX M p) e)) (p (lo n (shX M p) f))*turn (p (lo n (shX M p) e)) (p (hi n (shX M p) e)) (p (hi n (shX M p) f)) < 0 ->
    turn (p (lo n (shX M p) f)) (p (hi n (shX M p) f)) (p (lo n (shX M p) e))*turn (p (lo n (shX M p) f)) (p (hi n (shX M p) f)) (p (hi n (shX M p) e)) < 0->False:=by
   intro a b
   refine na (.inr (.inr (.inr (.inr ?_))))
   rcases Uc (n:=n) (x:=shX M p) e with ⟨a1,a2⟩ | ⟨a1,a2⟩ <;> rcases Uc (n:=n) (x:=shX M p) f with ⟨b1,b2⟩ | ⟨b1,b2⟩ <;> rw [a1,a2,b1,b2] at a b
   ·exact ⟨a,b⟩
   ·rw [flip (p f),flip (p f)] at b
    exact ⟨by rw [Int.mul_comm]; exact a,by grind⟩
   ·rw [flip (p e),flip (p e)] at a
    exact ⟨by grind,by rw [Int.mul_comm]; exact b⟩
   ·rw [flip (p f),flip (p f)] at b
    rw [flip (p e),flip (p e)] at a
    exact ⟨by grind,by grind⟩
  constructor
  ·rintro ⟨q1,q2,q3,q4⟩
   exact fin (Int.mul_neg_of_neg_of_pos ((key _ _ (U6 hf)).2 q1) ((key _ _ (UG hf)).1 q2)) (Int.mul_neg_of_pos_of_neg ((key _ _ (U6 he)).1 q3) ((key _ _ (UG he)).2 q4))
  ·rintro ⟨q1,q2,q3,q4⟩
   exact fin (Int.mul_neg_of_pos_of_neg ((key _ _ (U6 hf)).1 q1) ((key _ _ (UG hf)).2 q2)) (Int.mul_neg_of_neg_of_pos ((key _ _ (U6 he)).2 q3) ((key _ _ (UG he)).1 q4))
end
theorem Zpk {M z:Int} (hM:0 < M):0 < M*z ↔ 0 < z:=by
 constructor
 ·intro h
  apply Classical.byContradiction; intro q
  have:=Int.mul_nonpos_of_nonneg_of_nonpos (Int.le_of_lt hM) (show z<=0 by omega)
  omega
 ·exact fun h=>Int.mul_pos hM h
theorem area_turn {n:Nat} {p:Nat->P2} (g:Good n p) (hm:∀ i,0 < i->i < n->lexlt (p 0) (p i)):0 < area n p ↔ 0 < turn (p (n-1)) (p 0) (p 1):=by
 have n3:=g.n3
 obtain ⟨R,hR⟩:=Ze1 n (fun i=>(p i).2)
 have hb:∀ k,k < n->-(2*(R:Int)+1) < 2*(p k).2/\2*(p k).2 < 2*(R:Int)+1:=fun k hk=>by have:=hR k hk; omega
 have hM:0 < (2*(R:Int)+1):=by omega
 have s:=Zg8 g hM hb
 have q:=ZiX s (fun i h0 hi'=>(Zhc hb (by omega) hi').mpr (hm i h0 hi'))
 rw [Zll] at q
 have ea:A2 n (shX (2*(R:Int)+1) p) (shY p)=(2*(R:Int)+1)*area n p:=by
  unfold A2 area
  rw [<-Zee]
  refine S_congr fun i _=>?_
  unfold shX shY; grind
 rw [ea] at q
 have sgn:0 < (2*(R:Int)+1)*turn (p (n-1)) (p 0) (p 1) ↔ 0 < turn (p (n-1)) (p 0) (p 1):=Zpk hM
 simp only [sgn] at q
 by_cases c:0 < turn (p (n-1)) (p 0) (p 1)
 ·rw [if_pos c] at q
  have:0 < (2*(R:Int)+1)*area n p:=by omega
  simp only [c,iff_true]
  exact (Zpk hM).mp this
 ·rw [if_neg c] at q
  have:¬ 0 < (2*(R:Int)+1)*area n p:=by omega
  simp only [c,iff_false]
  intro z
  exact this ((Zpk hM).mpr z)
end Pg
namespace Pl
open PySem PySem.Spec PyProof.Rows L2 L3
theorem WC {ps:List Pt} (hd:ps.Nodup) (hne:ps≠[]) {i j:Int} (h:cyc ps i=cyc ps j):i % (ps.length:Int)=j % (ps.length:Int):=by
 have hn:0 < (ps.length:Int):=by have:=List.length_pos_iff.mpr hne; omega
 have a1:=Int.emod_nonneg i (show (ps.length:Int)≠0 by omega)
 have a2:=Int.emod_lt_of_pos i hn
 have b1:=Int.emod_nonneg j (show (ps.length:Int)≠0 by omega)
 have b2:=Int.emod_lt_of_pos j hn
 rw [<-UR ps i,<-UR ps j] at h
 obtain ⟨a,ha⟩:∃ a:Nat,(a:Int)=i % (ps.length:Int):=⟨(i % (ps.length:Int)).toNat,by omega⟩
 obtain ⟨b,hb⟩:∃ b:Nat,(b:Int)=j % (ps.length:Int):=⟨(j % (ps.length:Int)).toNat,by omega⟩
 rw [<-ha,<-hb] at h ⊢
 rw [UQ (show a < ps.length by omega),UQ (show b < ps.length by omega)] at h
 have:=(List.getElem_inj hd).mp h
 omega
theorem ZcS {n i j k:Int} (hi0:0<=i) (hi:i < n) (hj0:0<=j) (hj:j < n) (h:(i+k) % n=(j+k) % n):i=j:=by
 have:=(Int.emod_add_cancel_right k).mp h
 rw [Int.emod_eq_of_lt hi0 hi,Int.emod_eq_of_lt hj0 hj] at this
 exact this
theorem WR (ps:List Pt) (m c:Int):cyc ps (m % (ps.length:Int)+c)=cyc ps (m+c):=by
 unfold cyc
 rw [Int.emod_add_emod]
noncomputable def rp (ps:List Pt) (k:Int) (i:Nat):Pt:=cyc ps ((i:Int)+k)
theorem Zhn {ps:List Pt} (k:Int) {i:Nat} (hi:i < ps.length):rp ps k (Pg.nx ps.length i)=cyc ps ((i:Int)+k+1):=by
 unfold rp Pg.nx
 split
 next h=>
  have:=QO ps (((0:Nat):Int)+k)
  rw [<-this]
  congr 1
  omega
 next h=>congr 1; omega
theorem Zlq {ps:List Pt} (k:Int) {i:Nat} (hi:i < ps.length):rp ps k (Pg.nx ps.length (Pg.nx ps.length i))=cyc ps ((i:Int)+k+2):=by
 rw [Zhn k (Pg.nx_lt hi)]
 unfold Pg.nx
 split
 next h=>
  have:=QO ps (((0:Nat):Int)+k+1)
  rw [<-this]
  congr 1
  omega
 next h=>congr 1; omega
theorem ZnE (a b c:Pt):onZ a b c=true ↔ Pg.onS a b c:=by
 unfold onZ Pg.onS Zms Pg.turn ZQ
 simp only [Bool.and_eq_true,decide_eq_true_eq]
 rw [show (if b.1 < a.1 then b.1 else a.1)=min a.1 b.1 by omega,show (if b.1 > a.1 then b.1 else a.1)=max a.1 b.1 by omega,show (if b.2 < a.2 then b.2 else a.2)=min a.2 b.2 by omega,show (if b.2 > a.2 then b.2 else a.2)=max a.2 b.2 by omega]
 exact and_assoc
theorem VU (a b c d:Pt):ZcT a b c d=true ↔ Pg.meet a b c d:=by
 unfold ZcT Pg.meet
 simp only [Bool.or_eq_true,Bool.and_eq_true,decide_eq_true_eq,ZnE]
 unfold Pg.turn ZQ
 constructor
 ·rintro ((((h | h) | h) | h) | h)
  ·exact .inl h
  ·exact .inr (.inl h)
  ·exact .inr (.inr (.inl h))
  ·exact .inr (.inr (.inr (.inl h)))
  ·exact .inr (.inr (.inr (.inr h)))
 ·rintro (h | h | h | h | h)
  ·exact .inl (.inl (.inl (.inl h)))
  ·exact .inl (.inl (.inl (.inr h)))
  ·exact .inl (.inl (.inr h))
  ·exact .inl (.inr h)
  ·exact .inr h
theorem ZaS {a b c d:Pt} (h:Pg.meet a b c d):Pg.meet c d a b:=by
 unfold Pg.meet at *
 rcases h with h | h | h | h | ⟨h1,h2⟩
 ·exact .inr (.inr (.inl h))
 ·exact .inr (.inr (.inr (.inl h)))
 ·exact .inl h
 ·exact .inr (.inl h)
 ·exact .inr (.inr (.inr (.inr ⟨h2,h1⟩)))
theorem Zif {ps:List Pt} (hne:ps≠[]) (h:Q5 ps=true) (m:Int):ZQ (cyc ps m) (cyc ps (m+1)) (cyc ps (m+2))≠0:=by
 have hn:0 < (ps.length:Int):=by have:=List.length_pos_iff.mpr hne; omega
 have a1:=Int.emod_nonneg m (show (ps.length:Int)≠0 by omega)
 have a2:=Int.emod_lt_of_pos m hn
 unfold Q5 at h
 simp only [Bool.and_eq_true,decide_eq_true_eq,Bool.not_eq_true',decide_eq_false_iff_not] at h
 obtain ⟨⟨_,ht⟩,_⟩:=h
 intro z
 apply ht
 unfold JJ
 refine List.mem_map.mpr ⟨(m % (ps.length:Int)).toNat,List.mem_range.mpr (by omega),?_⟩
 rw [show (((m % (ps.length:Int)).toNat:Nat):Int)=m % (ps.length:Int) by omega,WR,WR,UR]
 exact z
theorem Zb5 {ps:List Pt} (h:Q5 ps=true) {a b:Nat} (hab:a+2<=b) (hb:b < ps.length) (hw:((b:Int)+1) % (ps.length:Int)≠a):¬ Pg.meet (cyc ps a) (cyc ps ((a:Int)+1)) (cyc ps b) (cyc ps ((b:Int)+1)):=by
 unfold Q5 at h
 simp only [Bool.and_eq_true,decide_eq_true_eq,Bool.not_eq_true',decide_eq_false_iff_not] at h
 obtain ⟨_,hB⟩:=h
 intro z
 have:badAny ps=true:=by
  unfold badAny
  rw [List.any_eq_true]
  refine ⟨a,List.mem_range.mpr (by omega),?_⟩
  unfold ZeY
  rw [List.any_eq_true]
  refine ⟨b-(a+2),List.mem_range.mpr (by omega),?_⟩
  rw [show a+2+(b-(a+2))=b by omega]
  unfold Zki
  rw [Bool.and_eq_true]
  exact ⟨by simpa using hw,(VU _ _ _ _).mpr z⟩
 rw [this] at hB
 cases hB
theorem Zmb {ps:List Pt} (h3:3<=ps.length) (h:Q5 ps=true) (k:Int):Pg.Good ps.length (rp ps k):=by
 have hne:ps≠[]:=fun z=>by rw [z] at h3; simp at h3
 have hd:ps.Nodup:=by
  unfold Q5 at h
  simp only [Bool.and_eq_true,decide_eq_true_eq] at h
  exact h.1.1
 have hn:0 < (ps.length:Int):=by omega
 refine ⟨h3,?_,?_,?_⟩
 ·intro i j hi hj e
  have:=WC hd hne e
  have:=ZcS (by omega) (by omega) (by omega) (by omega) this
  omega
 ·intro i hi
  rw [Zhn k hi,Zlq k hi]
  exact Zif hne h _
 ·intro i j hi hj hij h1 h2
  rw [Zhn k hi,Zhn k hj]
  unfold rp
  have a1:=Int.emod_nonneg ((i:Int)+k) (show (ps.length:Int)≠0 by omega)
  have a2:=Int.emod_lt_of_pos ((i:Int)+k) hn
  have b1:=Int.emod_nonneg ((j:Int)+k) (show (ps.length:Int)≠0 by omega)
  have b2:=Int.emod_lt_of_pos ((j:Int)+k) hn
  have nab:((i:Int)+k) % (ps.length:Int)≠((j:Int)+k) % (ps.length:Int):=fun e=>by
   have:=ZcS (by omega) (by omega) (by omega) (by omega) e
   omega
  have nx1:(((j:Int)+k) % (ps.length:Int)+1) % (ps.length:Int)≠((i:Int)+k) % (ps.length:Int):=fun e=>by
   rw [Int.emod_add_emod] at e
   have e':((Pg.nx ps.length j:Nat)+k) % (ps.length:Int)=((i:Int)+k) % (ps.length:Int):=by
    rw [<-e]
    unfold Pg.nx
    split
    next q=>
     rw [show (j:Int)+k+1=((0:Nat):Int)+k+ps.length by omega,Int.add_emod_right]
    next q=>congr 1; omega
   have:=ZcS (by omega) (by have:=Pg.nx_lt hj; omega) (by omega) (by omega) e'
   omega
  have nx2:(((i:Int)+k) % (ps.length:Int)+1) % (ps.length:Int)≠((j:Int)+k) % (ps.length:Int):=fun e=>by
   rw [Int.emod_add_emod] at e
   have e':((Pg.nx ps.length i:Nat)+k) % (ps.length:Int)=((j:Int)+k) % (ps.length:Int):=by
    rw [<-e]
    unfold Pg.nx
    split
    next q=>
     rw [show (i:Int)+k+1=((0:Nat):Int)+k+ps.length by omega,Int.add_emod_right]
    next q=>congr 1; omega
   have:=ZcS (by omega) (by have:=Pg.nx_lt hi; omega) (by omega) (by omega) e'
   omega
  rw [<-WR ps ((i:Int)+k),<-WR ps ((j:Int)+k),<-UR ps ((i:Int)+k),<-UR ps ((j:Int)+k)]
  obtain ⟨a,ha⟩:∃ a:Nat,(a:Int)=((i:Int)+k) % (ps.length:Int):=⟨(((i:Int)+k) % (ps.length:Int)).toNat,by omega⟩
  obtain ⟨b,hb⟩:∃ b:Nat,(b:Int)=((j:Int)+k) % (ps.length:Int):=⟨(((j:Int)+k) % (ps.length:Int)).toNat,by omega⟩
  rw [<-ha] at a2 nab nx1 nx2 ⊢
  rw [<-hb] at b2 nab nx1 nx2 ⊢
  have lt1:∀ {m c:Nat},m+1=c->c < ps.length->((m:Int)+1) % (ps.length:Int)=c:=fun {m c} e hc=>by
   rw [Int.emod_eq_of_lt (by omega) (by omega)]; omega
  by_cases hlt:a < b
  ·have:a+1≠b:=fun e=>nx2 (lt1 e (by omega))
   exact Zb5 h (by omega) (by omega) nx1
  ·have:b+1≠a:=fun e=>nx1 (lt1 e (by omega))
   exact fun z=>Zb5 h (a:=b) (b:=a) (by omega) (by omega) nx2 (ZaS z)
theorem ZhT (p q:Pt):ltZ p q=true ↔ Pg.lexlt p q:=by unfold ltZ Pg.lexlt; simp
theorem Zc6:∀ (xs:List Pt) (b:Pt),∀ x∈b::xs,¬ Pg.lexlt x (Zc7 b xs)
 | [],b,x,h=>by
  rw [List.mem_singleton] at h; subst h
  unfold Zc7 Pg.lexlt; omega
 | y::ys,b,x,h=>by
  unfold Zc7
  cases hl:ltZ y b with
  | true=>
   have ih:=Zc6 ys y
   simp only [if_true]
   rcases List.mem_cons.mp h with rfl | h
   ·have i0:=ih y List.mem_cons_self
    have l:=(ZhT _ _).mp hl
    unfold Pg.lexlt at *; omega
   ·exact ih x h
  | false=>
   have ih:=Zc6 ys b
   simp only [Bool.false_eq_true,if_false]
   rcases List.mem_cons.mp h with rfl | h
   ·exact ih x List.mem_cons_self
   ·rcases List.mem_cons.mp h with rfl | h
    ·have i0:=ih b List.mem_cons_self
     have l:¬ Pg.lexlt x b:=fun z=>by rw [(ZhT _ _).mpr z] at hl; cases hl
     unfold Pg.lexlt at *; omega
    ·exact ih x (List.mem_cons_of_mem _ h)
theorem ZlY {ps:List Pt} (hne:ps≠[]):∀ x∈ps,¬ Pg.lexlt x (Zes ps):=by
 cases ps with
 | nil=>exact absurd rfl hne
 | cons b xs=>exact Zc6 xs b
theorem ZnR {a b:Pt} (h1:¬ Pg.lexlt a b) (h2:a≠b):Pg.lexlt b a:=by
 have:a.1≠b.1\/a.2≠b.2:=by
  apply Classical.byContradiction; intro z
  apply h2
  exact Prod.ext (by omega) (by omega)
 unfold Pg.lexlt at *
 omega
theorem ZmW (f:Nat->Int):∀ (n:Nat),((List.range n).map f).sum=Pg.S n f
 | 0=>rfl
 | n+1=>by
  rw [List.range_succ,List.map_append,List.sum_append,ZmW f n]
  simp [Pg.S]
theorem ZfY (g:Int->Int):∀ (n:Nat),Pg.S n (fun i=>g ((i:Int)+1))+g 0=Pg.S n (fun i=>g i)+g n
 | 0=>rfl
 | n+1=>by
  have ih:=ZfY g n
  simp only [Pg.S]
  have:((n+1:Nat):Int)=(n:Int)+1:=by omega
  rw [this]
  omega
theorem Zi1 (n:Nat):∀ (k:Nat) (g:Int->Int),(∀ i,g (i+n)=g i)->Pg.S n (fun i=>g ((i:Int)+k))=Pg.S n (fun i=>g i)
 | 0,g,h=>Pg.S_congr fun j _=>by simp
 | k+1,g,h=>by
  have ih:=Zi1 n k (fun i=>g (i+1)) fun i=>by
   show g (i+n+1)=g (i+1)
   rw [show i+(n:Int)+1=i+1+n by omega,h]
  have s:=ZfY g n
  have z:=h 0
  rw [Int.zero_add] at z
  have e:Pg.S n (fun i=>g ((i:Int)+((k+1:Nat):Int)))=Pg.S n (fun i=>g ((i:Int)+k+1)):=Pg.S_congr fun j _=>by congr 1
  rw [e]
  have ih':Pg.S n (fun i=>g ((i:Int)+k+1))=Pg.S n (fun i=>g ((i:Int)+1)):=ih
  rw [ih']
  omega
theorem Zmw (ps:List Pt):ZbE ps=Pg.S ps.length (fun (j:Nat)=>ZiG (Jo ps (j:Int))):=by
 have e:=WF ps ps 0 rfl
 unfold ZbE
 rw [Zbg]
 have e':Zav ps ((0:Nat):Int) ps=Zav ps 0 ps:=rfl
 rw [<-e',e,List.map_map,<-ZmW]
 congr 1
 apply List.map_congr_left
 intro j _
 simp only [Function.comp,Nat.zero_add]
theorem Zmv {ps:List Pt} (k:Nat):Pg.area ps.length (rp ps k)=ZbE ps:=by
 rw [Zmw,<-Zi1 ps.length k (fun i=>ZiG (Jo ps i)) (fun i=>by
  unfold Jo
  rw [QO,show i+(ps.length:Int)+1=i+1+ps.length by omega,QO])]
 unfold Pg.area
 refine Pg.S_congr fun i hi=>?_
 rw [Zhn _ hi]
 rfl
end Pl
namespace Pg
noncomputable def cx (u v:P2):Int:=u.1*v.2-u.2*v.1
noncomputable def vh (u:P2):Prop:=0 < u.1\/(u.1=0/\0 < u.2)
noncomputable instance (u:P2):Decidable (vh u):=by unfold vh; infer_instance
noncomputable def hc (u v:P2):Int:=if ¬ vh u/\vh v/\0 < cx u v then 1 else if vh u/\¬ vh v/\cx u v < 0 then -1 else 0
section
variable {n:Nat} {q:Nat->P2}
end
section
variable (n:Nat) (x y:Nat->Int)
end
section
variable {n:Nat} {x y:Nat->Int}
end
section
variable {n:Nat} {p:Nat->P2} {M:Int}
end
noncomputable instance (a b:P2):Decidable (lexlt a b):=by unfold lexlt; infer_instance
section
variable {a0 b0:Int} {A N:Nat} {l h:P2}
end
noncomputable def ZkV (s e:P2) (a b:Int):Prop:=if e.1 < s.1 then (e.1<=a/\a < s.1)/\0 < turn e s (a,b) else (s.1<=a/\a < e.1)/\0 < turn s e (a,b)
noncomputable instance (s e:P2) (a b:Int):Decidable (ZkV s e a b):=by unfold ZkV; infer_instance
section
variable {n:Nat} {p:Nat->P2} {M:Int}
end
end Pg
namespace Pl
open PySem PySem.Spec PyProof.Rows L2 L3
noncomputable def tq (p:Pt):Pt:=(p.2,-p.1)
noncomputable def gr (t:Int) (p:Pt):Pt:=(t*p.1,t*p.2)
theorem ZoR (ps:List Pt):okD (.tup (ps.map pD))=true:=(ZhH fun d hd=>by obtain ⟨n,_,rfl⟩:=List.mem_map.mp hd; exact VR n).1
theorem Zmk:∀ (ps:List Pt),deq (.tup (ps.map pD)) (.tup (ps.map pD))=true:=fun ps=>by
 show PyData.eqv (.tuple (Qw (ps.map pD))) (.tuple (Qw (ps.map pD)))=true
 simp only [PyData.eqv]
 induction ps with
 | nil=>rfl
 | cons p r ih=>
  have e:=Zcd p p
  simp only [List.map_cons,Qw,PyData.eqvAll,Bool.and_eq_true_iff]
  exact ⟨by rw [show PyData.eqv (JX (pD p)) (JX (pD p))=deq (pD p) (pD p) from rfl,e]; simp,ih⟩
theorem Zmi (ps:List Pt):U4 (.tup (ps.map pD)) (.tup (ps.map pD))=some (.bl true):=by
 unfold U4
 rw [ZoR,Zmk]; rfl
noncomputable def tn (p:Pt):Pt:=(-p.2,p.1)
end Pl
namespace Hu
open Pg (P2 turn lexlt)
noncomputable def sub (b a:P2):P2:=(b.1-a.1,b.2-a.2)
noncomputable def ZpU:List P2->P2->List P2
 | b::a::r,s=>if 0 < turn a b s then b::a::r else ZpU (a::r) s
 | w,_=>w
noncomputable def stk:List P2->List P2->List P2
 | w,[]=>w
 | w,s::r=>stk (s::ZpU w s) r
noncomputable def above (q:P2):List P2->Prop
 | b::a::r=>0<=turn a b q/\above q (a::r)
 | _=>True
end Hu
namespace Pl
open PySem PySem.Spec PyProof.Rows L2 L3
set_option maxHeartbeats 4000000
noncomputable def Zl7 (x:Int):Bool:=decide (-100<=x)&&decide (x<=100)
noncomputable def plB:D->Bool
 | .int x=>Zl7 x
 | _=>false
noncomputable def spB:D->Bool
 | .tup [a,b]=>plB a&&plB b
 | _=>false
theorem Zlb (d:D):U2 [d]=some (.bl (match d with | .int _=>true | _=>false)):=by
 cases d <;> rfl
theorem ZlE (d:D):Qy [d]=some (.bl (plB d)):=by
 have w:=Zlb d
 cases d with
 | int x=>
  simp -implicitDefEqProofs [Qy,Zq,Wu,w,plB,Zl7]
  by_cases h:-100<=x
  ·simp -implicitDefEqProofs [h]
  ·simp -implicitDefEqProofs [h]
 | _=>simp -implicitDefEqProofs [Qy,Zq,Wu,w,plB]
theorem ZjH (d:D):Y0 [d,.int (-100),.int 100]=some (.bl (plB d)):=by
 cases d with
 | int x=>
  have i1:W7 .int (.int x)=some (.bl true):=rfl
  have i2:W7 .bool (.int x)=some (.bl false):=rfl
  simp -implicitDefEqProofs [Y0,Zq,V1,plB,Zl7,i1,i2]
  by_cases h:-100<=x
  ·simp -implicitDefEqProofs [h]
  ·simp -implicitDefEqProofs [h]
 | _=>rfl
theorem Zh7 (d:D):YE [d]=some (.bl (spB d)):=by
 cases d with
 | tup ds=>
  match ds with
  | []=>rfl
  | [a]=>rfl
  | [a,b]=>
   have i1:W7 .tuple (.tup [a,b])=some (.bl true):=rfl
   simp -implicitDefEqProofs [YE,Zq,ZaX,ZlE,spB,i1]
   cases plB a <;> simp -implicitDefEqProofs
  | a::b::c::t=>
   have i1:W7 .tuple (.tup (a::b::c::t))=some (.bl true):=rfl
   have n2:¬ ((t.length:Int)+1+1+1=2):=by omega
   simp -implicitDefEqProofs [YE,Zq,ZaX,spB,i1,n2]
 | _=>rfl
theorem ZbZ (d:D):Ym [d]=some (.bl (spB d)):=by
 cases d with
 | tup ds=>
  match ds with
  | []=>rfl
  | [a]=>rfl
  | [a,b]=>
   have i1:W7 .tuple (.tup [a,b])=some (.bl true):=rfl
   simp -implicitDefEqProofs [Ym,Zq,Jz,ZjH,spB,i1]
   cases plB a <;> simp -implicitDefEqProofs
  | a::b::c::t=>
   have i1:W7 .tuple (.tup (a::b::c::t))=some (.bl true):=rfl
   have n2:¬ ((t.length:Int)+1+1+1=2):=by omega
   simp -implicitDefEqProofs [Ym,Zq,Jz,spB,i1,n2]
 | _=>rfl
theorem ZmY {d:D} (h:spB d=true):∃ p:Pt,d=pD p/\Rg 100 p:=by
 unfold spB at h
 split at h
 ·rename_i a b
  obtain ⟨h1,h2⟩:=Bool.and_eq_true_iff.mp h
  unfold plB at h1 h2
  split at h1
  ·split at h2
   ·rename_i x _ y
    unfold Zl7 at h1 h2
    simp at h1 h2
    exact ⟨(x,y),rfl,h1,h2⟩
   ·cases h2
  ·cases h1
 ·cases h
theorem Zg5:∀ {ds:List D},(∀ d∈ds,spB d=true)->∃ ps:List Pt,ds=ps.map pD/\All (Rg 100) ps
 | [],_=>⟨[],rfl,fun _ h=>by simp at h⟩
 | d::ds,h=>by
  obtain ⟨p,rfl,hp⟩:=ZmY (h d List.mem_cons_self)
  obtain ⟨ps,rfl,hps⟩:=Zg5 fun x hx=>h x (List.mem_cons_of_mem _ hx)
  exact ⟨p::ps,rfl,fun q hq=>by
   rcases List.mem_cons.mp hq with rfl | hq
   ·exact hp
   ·exact hps q hq⟩
theorem Zku {p:Pt} (h:Rg 100 p):spB (pD p)=true:=by
 obtain ⟨⟨a,b⟩,c,d⟩:=h
 show (Zl7 p.1&&Zl7 p.2)=true
 unfold Zl7
 simp [a,b,c,d]
theorem Znc {p:Pt} (h:Rg 100 p):Sm p:=by
 obtain ⟨⟨a,b⟩,c,d⟩:=h
 exact ⟨⟨by omega,by omega⟩,by omega,by omega⟩
theorem VL {a b c:Pt} (ha:Sm a) (hb:Sm b) (hc:Sm c):YZ [pD a,pD b,pD c]=some (.bl (decide (ZQ a b c < 0))):=by
 simp -implicitDefEqProofs [YZ,Zq,VY,V2 ha hb hc]
theorem Zhz {a b c d:Pt} (ha:Sm a) (hb:Sm b) (hc:Sm c) (hd:Sm d):YT [pD a,pD b,pD c,pD d]=some (.bl (decide (ZQ a b c*ZQ a b d < 0))):=by
 have e1:=JB ha hb hc
 have e2:=JB ha hb hd
 have e3:=VL ha hb hc
 have e4:=VL ha hb hd
 have key:∀ x y:Int,decide (x*y < 0)=(if 0 < x then decide (y < 0) else (decide (x < 0)&&decide (0 < y))):=by
  intro x y
  by_cases h:0 < x
  ·rw [if_pos h]
   refine decide_eq_decide.mpr ⟨fun q=>?_,fun q=>Int.mul_neg_of_pos_of_neg h q⟩
   by_cases hy:y < 0
   ·exact hy
   ·have:=Int.mul_nonneg (Int.le_of_lt h) (Int.not_lt.mp hy); omega
  ·rw [if_neg h]
   by_cases h2:x < 0
   ·simp only [h2,decide_true,Bool.true_and]
    refine decide_eq_decide.mpr ⟨fun q=>?_,fun q=>Int.mul_neg_of_neg_of_pos h2 q⟩
    by_cases hy:0 < y
    ·exact hy
    ·have:=Int.mul_nonneg_of_nonpos_of_nonpos (Int.le_of_lt h2) (Int.not_lt.mp hy); omega
   ·have:x=0:=by omega
    subst this
    simp
 rw [key]
 by_cases h:0 < ZQ a b c
 ·simp -implicitDefEqProofs [YT,Zq,UI,e1,e2,e3,e4,h]
 ·simp -implicitDefEqProofs [YT,Zq,UI,e1,e2,e3,e4,h]
  by_cases h2:ZQ a b c < 0
  ·simp -implicitDefEqProofs [h2]
  ·simp -implicitDefEqProofs [h2]
theorem Zlj {s t:Pt×Pt} (hs:SmS s) (ht:SmS t):ZL [sD s,sD t]=some (.bl (ZcT s.1 s.2 t.1 t.2)):=by
 obtain ⟨a,b⟩:=hs
 obtain ⟨c,d⟩:=ht
 have o1:=Ua a b c
 have o2:=Ua a b d
 have o3:=Ua c d a
 have o4:=Ua c d b
 have p1:=Zhz a b c d
 have p2:=Zhz c d a b
 have es:sD (s.1,s.2)=sD s:=rfl
 have et:sD (t.1,t.2)=sD t:=rfl
 rw [es] at o1 o2
 rw [et] at o3 o4
 unfold ZcT
 cases h1:onZ s.1 s.2 t.1
 ·cases h2:onZ s.1 s.2 t.2
  ·cases h3:onZ t.1 t.2 s.1
   ·cases h4:onZ t.1 t.2 s.2
    ·simp -implicitDefEqProofs [ZL,Zq,Qf,o1,o2,o3,o4,p1,p2,h1,h2,h3,h4]
     by_cases h5:ZQ s.1 s.2 t.1*ZQ s.1 s.2 t.2 < 0
     ·simp -implicitDefEqProofs [h5]
     ·simp -implicitDefEqProofs [h5]
    ·simp -implicitDefEqProofs [ZL,Zq,Qf,o1,o2,o3,o4,h1,h2,h3,h4]
   ·simp -implicitDefEqProofs [ZL,Zq,Qf,o1,o2,o3,h1,h2,h3]
  ·simp -implicitDefEqProofs [ZL,Zq,Qf,o1,o2,h1,h2]
 ·simp -implicitDefEqProofs [ZL,Zq,Qf,o1,h1]
noncomputable def comB (s t:Pt×Pt):Bool:=(decide (s.1=t.1)||decide (s.1=t.2))||(decide (s.2=t.1)||decide (s.2=t.2))
theorem ZkL (p a b:Pt):ZfQ (pD p) (sD (a,b))=some (.bl (decide (p=a)||decide (p=b))):=by
 have h1:okD (sD (a,b))=true:=(ZhH fun d hd=>by
  rcases List.mem_cons.mp hd with rfl | hd
  ·exact VR a
  ·rcases List.mem_cons.mp hd with rfl | hd
   ·exact VR b
   ·cases hd).1
 have h2:okD (pD p)=true:=(VR p).1
 show Option.map D.bl (if (okD (pD p)&&okD (sD (a,b)))=true then some ([pD a,pD b].any fun y=>deq y (pD p)) else none)=_
 rw [h1,h2,if_pos (by decide)]
 show some (D.bl (deq (pD a) (pD p)||(deq (pD b) (pD p)||false)))=_
 rw [Zcd,Zcd,Bool.or_false,decide_eq_decide.mpr (eq_comm (a:=a) (b:=p)),decide_eq_decide.mpr (eq_comm (a:=b) (b:=p))]
theorem ZpF (s t:Pt×Pt):Zu [sD s,sD t]=some (.bl (comB s t)):=by
 have e1:=ZkL s.1 t.1 t.2
 have e2:=ZkL s.2 t.1 t.2
 have et:sD (t.1,t.2)=sD t:=rfl
 rw [et] at e1 e2
 unfold comB
 simp -implicitDefEqProofs [Zu,Zq,QQ,e1,e2]
 cases (decide (s.1=t.1)||decide (s.1=t.2)) <;> simp -implicitDefEqProofs
noncomputable def JR (s t:Pt×Pt):Bool:=!comB s t&&ZcT s.1 s.2 t.1 t.2
noncomputable def apB:DS:=(V6 (YR (dSl (Zd 1) Z2 (ZN (Zd 2)))) (Zz 4) (ZY (Jn (Yk (Zn (dFn 2 Zu (Zb (Zd 3) (Zb (Zd 4) Zk))))) (Zn (dFn 2 ZL (Zb (Zd 3) (Zb (Zd 4) Zk))))) (ZT (Zg (.bl false))) ZA))
theorem Zmo {s t:Pt×Pt} (hs:SmS s) (ht:SmS t) (a b c:Sl):(Jn (Yk (Zn (dFn 2 Zu (Zb (Zd 3) (Zb (Zd 4) Zk))))) (Zn (dFn 2 ZL (Zb (Zd 3) (Zb (Zd 4) Zk))))) [a,b,c,.val (sD s),.val (sD t)]=some (JR s t):=by
 have e1:=ZpF s t
 have e2:=Zlj hs ht
 unfold JR
 cases h:comB s t
 ·simp -implicitDefEqProofs [e1,e2,h]
 ·simp -implicitDefEqProofs [e1,h]
theorem Zkj {ss:List (Pt×Pt)} (hl:ss.length<=1000) (hss:∀ s∈ss,SmS s) (k:Nat) (hk:k < ss.length) {s:Pt×Pt} (hs:SmS s) (a t4:Sl) :
  ((ss.take k).any (JR s)=true->apB [a,.val (.lst (ss.map sD)),.val (.int k),.val (sD s),t4]=some (.rt (.bl false))) /\
  ((ss.take k).any (JR s)=false->∃ t4',apB [a,.val (.lst (ss.map sD)),.val (.int k),.val (sD s),t4]=some (.nx [a,.val (.lst (ss.map sD)),.val (.int k),.val (sD s),t4'])):=by
 have lp:∀ (ys:List (Pt×Pt)) (t4:Sl),(∀ t∈ys,SmS t) ->
   (ys.any (JR s)=true->QM (Zz 4) (ZY (Jn (Yk (Zn (dFn 2 Zu (Zb (Zd 3) (Zb (Zd 4) Zk))))) (Zn (dFn 2 ZL (Zb (Zd 3) (Zb (Zd 4) Zk))))) (ZT (Zg (.bl false))) ZA) (ys.map sD) [a,.val (.lst (ss.map sD)),.val (.int k),.val (sD s),t4]=some (.rt (.bl false))) /\
   (ys.any (JR s)=false->∃ t4',QM (Zz 4) (ZY (Jn (Yk (Zn (dFn 2 Zu (Zb (Zd 3) (Zb (Zd 4) Zk))))) (Zn (dFn 2 ZL (Zb (Zd 3) (Zb (Zd 4) Zk))))) (ZT (Zg (.bl false))) ZA) (ys.map sD) [a,.val (.lst (ss.map sD)),.val (.int k),.val (sD s),t4]=some (.nx [a,.val (.lst (ss.map sD)),.val (.int k),.val (sD s),t4'])):=by
  intro ys
  induction ys with
  | nil=>exact fun t4 _=>⟨fun z=>by simp at z,fun _=>⟨t4,rfl⟩⟩
  | cons t ys ih=>
   intro t4 hys
   have ht:=hys t List.mem_cons_self
   have e:=Zmo hs ht a (.val (.lst (ss.map sD))) (.val (.int k))
   have ih:=ih (.val (sD t)) fun x hx=>hys x (List.mem_cons_of_mem _ hx)
   cases h:JR s t
   ·have st:QM (Zz 4) (ZY (Jn (Yk (Zn (dFn 2 Zu (Zb (Zd 3) (Zb (Zd 4) Zk))))) (Zn (dFn 2 ZL (Zb (Zd 3) (Zb (Zd 4) Zk))))) (ZT (Zg (.bl false))) ZA) ((t::ys).map sD) [a,.val (.lst (ss.map sD)),.val (.int k),.val (sD s),t4]=QM (Zz 4) (ZY (Jn (Yk (Zn (dFn 2 Zu (Zb (Zd 3) (Zb (Zd 4) Zk))))) (Zn (dFn 2 ZL (Zb (Zd 3) (Zb (Zd 4) Zk))))) (ZT (Zg (.bl false))) ZA) (ys.map sD) [a,.val (.lst (ss.map sD)),.val (.int k),.val (sD s),.val (sD t)]:=by
     rw [List.map_cons,QM]
     show (Option.bind (some [a,.val (.lst (ss.map sD)),.val (.int k),.val (sD s),.val (sD t)]) _)=_
     rw [Option.bind_some,Qj,e,h]
     rfl
    rw [st]
    refine ⟨fun z=>ih.1 ?_,fun z=>ih.2 ?_⟩
    ·simpa [h] using z
    ·simpa [h] using z
   ·refine ⟨fun _=>?_,fun z=>by simp [h] at z⟩
    rw [List.map_cons,QM]
    show (Option.bind (some [a,.val (.lst (ss.map sD)),.val (.int k),.val (sD s),.val (sD t)]) _)=_
    rw [Option.bind_some,Qj,e,h]
    rfl
 have it:YR (dSl (Zd 1) Z2 (ZN (Zd 2))) [a,.val (.lst (ss.map sD)),.val (.int k),.val (sD s),t4]=some ((ss.take k).map sD):=by
  have:Za6 none (some (k:Int)) (.lst (ss.map sD))=some (.lst ((ss.take k).map sD)):=by
   show some (D.lst (cutD (ss.map sD) none (some (k:Int))))=_
   rw [ZkU _ _ (by simp; omega),List.map_take]
  simp -implicitDefEqProofs [this]
 unfold apB
 rw [UP,it,Option.bind_some]
 exact lp (ss.take k) t4 fun t ht=>hss t (List.mem_of_mem_take ht)
noncomputable def Y3 (ss:List (Pt×Pt)) (j:Nat):Bool:=match ss[j]? with | some s=>(ss.take j).any (JR s) | none=>false
theorem Zmy {ss:List (Pt×Pt)} (hl:ss.length<=1000) (hss:∀ s∈ss,SmS s) (a:Sl):∀ (ys:List (Pt×Pt)) (k:Nat) (t2 t3 t4:Sl),ss.drop k=ys ->
  ((∃ j,k<=j/\Y3 ss j=true)->QM (Y1 2 3) apB (Qa k (ys.map sD)) [a,.val (.lst (ss.map sD)),t2,t3,t4]=some (.rt (.bl false))) /\
  ((¬ ∃ j,k<=j/\Y3 ss j=true)->∃ u2 u3 u4,QM (Y1 2 3) apB (Qa k (ys.map sD)) [a,.val (.lst (ss.map sD)),t2,t3,t4]=some (.nx [a,.val (.lst (ss.map sD)),u2,u3,u4])):=by
 intro ys
 induction ys with
 | nil=>
  intro k t2 t3 t4 hd
  have hk:ss.length<=k:=List.drop_eq_nil_iff.mp hd
  refine ⟨fun zq=>?_,fun _=>⟨t2,t3,t4,rfl⟩⟩
  obtain ⟨j,hj,hc⟩:=zq
  unfold Y3 at hc
  rw [List.getElem?_eq_none (by omega)] at hc
  cases hc
 | cons s ys ih=>
  intro k t2 t3 t4 hd
  have hk:k < ss.length:=by
   by_cases h:k < ss.length
   ·exact h
   ·rw [List.drop_eq_nil_iff.mpr (by omega)] at hd; cases hd
  have hg:ss[k]?=some s:=by
   have:=congrArg (·[0]?) hd
   simpa using this
  have hd':ss.drop (k+1)=ys:=by
   rw [<-List.drop_drop,hd]; rfl
  have hs:SmS s:=hss s (List.mem_of_getElem? hg)
  have inn:=Zkj hl hss k hk hs a t4
  have hca:Y3 ss k=(ss.take k).any (JR s):=by unfold Y3; rw [hg]
  have st:QM (Y1 2 3) apB (Qa k ((s::ys).map sD)) [a,.val (.lst (ss.map sD)),t2,t3,t4]=(match apB [a,.val (.lst (ss.map sD)),.val (.int k),.val (sD s),t4] with
   | some (.nx ρ2)=>QM (Y1 2 3) apB (Qa (k+1) (ys.map sD)) ρ2
   | some (.ct ρ2)=>QM (Y1 2 3) apB (Qa (k+1) (ys.map sD)) ρ2
   | some (.bk ρ2)=>some (.nx ρ2)
   | r=>r):=by
   simp only [List.map_cons,Qa,QM,Zc9,List.set_cons_zero,List.set_cons_succ,Option.bind_some] <;> rfl
  rw [st]
  cases h:(ss.take k).any (JR s)
  ·obtain ⟨t4',e⟩:=inn.2 h
   rw [e]
   have ih:=ih (k+1) (.val (.int k)) (.val (sD s)) t4' hd'
   have same:(∃ j,k<=j/\Y3 ss j=true) ↔ (∃ j,k+1<=j/\Y3 ss j=true):=by
    refine ⟨fun ⟨j,hj,hc⟩=>⟨j,?_,hc⟩,fun ⟨j,hj,hc⟩=>⟨j,by omega,hc⟩⟩
    by_cases hjk:j=k
    ·subst hjk; rw [hca,h] at hc; cases hc
    ·omega
   exact ⟨fun z=>ih.1 (same.mp z),fun z=>ih.2 fun q=>z (same.mpr q)⟩
  ·rw [inn.1 h]
   exact ⟨fun _=>rfl,fun z=>absurd ⟨k,Nat.le_refl _,by rw [hca,h]⟩ z⟩
theorem Zmx {ps:List Pt} (hl:ps.length<=1000) (hps:All Sm ps) [Decidable (∃ j,Y3 (Y4 ps) j=true)]:Yi [.tup (ps.map pD)]=some (.bl (!decide (∃ j,Y3 (Y4 ps) j=true))):=by
 have lp:=Zmy (ss:=Y4 ps) (by rw [UX]; exact hl) (Zhb hps) (.val (.tup (ps.map pD))) (Y4 ps) 0 .no .no .no rfl
 have e1:ZM 1 (dFn 1 QX (Zb (Zd 0) Zk)) [.val (.tup (ps.map pD)),.no,.no,.no,.no]=some (.nx [.val (.tup (ps.map pD)),.val (.lst ((Y4 ps).map sD)),.no,.no,.no]):=by
  simp -implicitDefEqProofs [ZdR hl]
 unfold Yi Zq Ji
 show (Zp _ (Zp _ _) [.val (.tup (ps.map pD)),.no,.no,.no,.no]).bind _=_
 rw [Zs,e1]
 show (Zp (V6 (JN (Zd 1)) (Y1 2 3) apB) _ [.val (.tup (ps.map pD)),.val (.lst ((Y4 ps).map sD)),.no,.no,.no]).bind _=_
 have it:JN (Zd 1) [.val (.tup (ps.map pD)),.val (.lst ((Y4 ps).map sD)),.no,.no,.no]=some (Qa 0 ((Y4 ps).map sD)):=rfl
 rw [Zs,UP,it,Option.bind_some]
 by_cases h:∃ j,Y3 (Y4 ps) j=true
 ·rw [lp.1 (by obtain ⟨j,hj⟩:=h; exact ⟨j,Nat.zero_le _,hj⟩)]
  simp [h]
 ·obtain ⟨a,b,c,e⟩:=lp.2 fun ⟨j,_,hj⟩=>h ⟨j,hj⟩
  rw [e]
  simp [h]
theorem Wj {ps:List Pt} {k:Nat} (h:k < ps.length):(Y4 ps)[k]?=some (Jo ps ((k:Int)-1)):=by
 unfold Y4
 rw [List.getElem?_map,List.getElem?_range h]
 rfl
theorem clashAt_iff {ps:List Pt} {j:Nat}:Y3 (Y4 ps) j=true ↔ ∃ i,i < j/\j < ps.length/\JR (Jo ps ((j:Int)-1)) (Jo ps ((i:Int)-1))=true:=by
 by_cases h:j < ps.length
 ·unfold Y3
  rw [Wj h]
  simp only [List.any_eq_true]
  constructor
  ·rintro ⟨t,ht,q⟩
   obtain ⟨i,hi,e⟩:=List.getElem_of_mem ht
   rw [List.length_take,UX] at hi
   have hij:i < j:=by omega
   refine ⟨i,hij,h,?_⟩
   rw [List.getElem_take] at e
   have g:=Wj (ps:=ps) (k:=i) (by omega)
   rw [List.getElem?_eq_getElem (by rw [UX]; omega),e] at g
   rw [<-Option.some.inj g]; exact q
  ·rintro ⟨i,hi,_,q⟩
   refine ⟨_,?_,q⟩
   have g:=Wj (ps:=ps) (k:=i) (by omega)
   have:((Y4 ps).take j)[i]?=some (Jo ps ((i:Int)-1)):=by rw [List.getElem?_take_of_lt hi]; exact g
   exact List.mem_of_getElem? this
 ·unfold Y3
  rw [List.getElem?_eq_none (by rw [UX]; omega)]
  exact ⟨fun z=>(by cases z),fun ⟨_,_,z,_⟩=>absurd z h⟩
theorem ZiJ {ps:List Pt} (h3:3<=ps.length) (hd:ps.Nodup) {i k:Nat} (hik:i < k) (hk:k < ps.length):comB (Jo ps ((k:Int)-1)) (Jo ps ((i:Int)-1))=true ↔ (k=i+1\/(i=0/\k+1=ps.length)):=by
 have hne:ps≠[]:=fun z=>by rw [z] at h3; simp at h3
 have n0:(0:Int) < ps.length:=by omega
 have mk:∀ m:Int,0<=m->m < ps.length->m % (ps.length:Int)=m:=fun m a b=>Int.emod_eq_of_lt a b
 have mn:∀ m:Int,m=-1->m % (ps.length:Int)=ps.length-1:=fun m e=>by
  subst e
  rw [<-Int.add_emod_right,mk _ (by omega) (by omega)]; omega
 unfold comB Jo
 simp only [Bool.or_eq_true,decide_eq_true_eq]
 rw [show (k:Int)-1+1=k by omega,show (i:Int)-1+1=i by omega]
 constructor
 ·rintro ((z | z) | (z | z))
  ·have:=WC hd hne z
   rw [mk ((k:Int)-1) (by omega) (by omega)] at this
   by_cases h0:i=0
   ·subst h0; rw [mn _ (by omega)] at this; omega
   ·rw [mk _ (by omega) (by omega)] at this; omega
  ·have:=WC hd hne z
   rw [mk ((k:Int)-1) (by omega) (by omega),mk _ (by omega) (by omega)] at this
   left; omega
  ·have:=WC hd hne z
   rw [mk (k:Int) (by omega) (by omega)] at this
   by_cases h0:i=0
   ·subst h0; rw [mn _ (by omega)] at this; right; omega
   ·rw [mk _ (by omega) (by omega)] at this; omega
  ·have:=WC hd hne z
   rw [mk (k:Int) (by omega) (by omega),mk _ (by omega) (by omega)] at this
   omega
 ·rintro (rfl | ⟨rfl,h⟩)
  ·left; right
   rw [show ((i+1:Nat):Int)-1=i by omega]
  ·right; left
   rw [<-QO ps (((0:Nat):Int)-1)]
   congr 1; omega
theorem Zd0 {ps : List Pt} (h3 : 3 <= ps.length) (hd : ps.Nodup) : (∃ j, Y3 (Y4 ps) j = true) ↔ badAny ps = true := by
  have n0 : (0 : Int) < ps.length := by omega
  have mk : ∀ m : Int, 0 <= m -> m < ps.length -> m % (ps.length : Int) = m := fun m a b => Int.emod_eq_of_lt a b
  have badI : badAny ps = true ↔ ∃ a b : Nat, a + 2 <= b /\ b < ps.length /\ ((b : Int) + 1) % (ps.length : Int) ≠ a /\ Pg.meet (cyc ps a) (cyc ps ((a : Int) + 1)) (cyc ps b) (cyc ps ((b : Int) + 1)) := by
    unfold badAny ZeY
    simp only [List.any_eq_true, List.mem_range]
    constructor
    · rintro ⟨a, ha, j, hj, q⟩
      unfold Zki at q
      rw [Bool.and_eq_true] at q
      exact ⟨a, a + 2 + j, by omega, by omega, by simpa using q.1, (VU _ _ _ _).mp q.2⟩
    · rintro ⟨a, b, h1, h2, h4, h5⟩
      refine ⟨a, by omega, b - (a + 2), by omega, ?_⟩
      rw [show a + 2 + (b - (a + 2)) = b by omega]
      unfold Zki
      rw [Bool.and_eq_true]
      exact ⟨by simpa using h4, (VU _ _ _ _).mpr h5⟩
  have clI : (∃ j, Y3 (Y4 ps) j = true) ↔ ∃ i k : Nat, i + 2 <= k /\ k < ps.length /\ ¬ (i = 0 /\ k + 1 = ps.length) /\ Pg.meet (cyc ps ((k : Int) - 1)) (cyc ps k) (cyc ps ((i : Int) - 1)) (cyc ps i) := by
    constructor
    · rintro ⟨k, hk⟩
      obtain ⟨i, h1, h2, q⟩ := clashAt_iff.mp hk
      unfold JR at q
      rw [Bool.and_eq_true] at q
      have nc : ¬ comB (Jo ps ((k : Int) - 1)) (Jo ps ((i : Int) - 1)) = true := by
        intro z; rw [z] at q; exact absurd q.1 (by decide)
      rw [ZiJ h3 hd h1 h2] at nc
      have m := (VU _ _ _ _).mp q.2
      unfold Jo at m
      simp only at m
      rw [show (k : Int) - 1 + 1 = k by omega, show (i : Int) - 1 + 1 = i by omega] at m
      exact ⟨i, k, by omega, h2, fun z => nc (.inr z), m⟩
    · rintro ⟨i, k, h1, h2, h4, m⟩
      refine ⟨k, clashAt_iff.mpr ⟨i, by omega, h2, ?_⟩⟩
      unfold JR
      rw [Bool.and_eq_true]
      refine ⟨?_, ?_⟩
      · cases z : comB (Jo ps ((k : Int) - 1)) (Jo ps ((i : Int) - 1)) with
        | false => rfl
        | true => rcases (ZiJ h3 hd (by omega) h2).mp z with z | z
                  · omega
                  · exact absurd z h4
      · refine (VU _ _ _ _).mpr ?_
        unfold Jo
        simp only
        rw [show (k : Int) - 1 + 1 = k by omega, show (i : Int) - 1 + 1 = i by omega]
        exact m
  rw [badI, clI]
  constructor
  · rintro ⟨i, k, h1, h2, h4, m⟩
    by_cases h0 : i = 0
    · subst h0
      refine ⟨k - 1, ps.length - 1, by omega, by omega, ?_, ?_⟩
      · rw [show ((ps.length - 1 : Nat) : Int) + 1 = ps.length by omega, Int.emod_self]; omega
      · have e1 : cyc ps (((0 : Nat) : Int) - 1) = cyc ps ((ps.length - 1 : Nat) : Int) := by
          rw [<- QO ps (((0 : Nat) : Int) - 1)]; congr 1; omega
        have e2 : cyc ps ((0 : Nat) : Int) = cyc ps (((ps.length - 1 : Nat) : Int) + 1) := by
          rw [<- QO ps ((0 : Nat) : Int)]; congr 1; omega
        rw [<- e1, <- e2, show ((k - 1 : Nat) : Int) = (k : Int) - 1 by omega, show (k : Int) - 1 + 1 = k by omega]
        exact m
    · refine ⟨i - 1, k - 1, by omega, by omega, ?_, ?_⟩
      · rw [show ((k - 1 : Nat) : Int) + 1 = k by omega, mk _ (by omega) (by omega)]; omega
      · rw [show ((i - 1 : Nat) : Int) = (i : Int) - 1 by omega, show ((k - 1 : Nat) : Int) = (k : Int) - 1 by omega, show (i : Int) - 1 + 1 = i by omega, show (k : Int) - 1 + 1 = k by omega]
        exact ZaS m
  · rintro ⟨a, b, h1, h2, h4, m⟩
    by_cases hb : b + 1 < ps.length
    · refine ⟨a + 1, b + 1, by omega, hb, by omega, ?_⟩
      rw [show ((b + 1 : Nat) : Int) - 1 = b by omega, show ((a + 1 : Nat) : Int) - 1 = a by omega, show ((b + 1 : Nat) : Int) = (b : Int) + 1 by omega, show ((a + 1 : Nat) : Int) = (a : Int) + 1 by omega]
      exact ZaS m
    · have hb' : b = ps.length - 1 := by omega
      subst hb'
      rw [show ((ps.length - 1 : Nat) : Int) + 1 = ps.length by omega, Int.emod_self] at h4
      have ha : a ≠ 0 := fun z => h4 (by rw [z]; rfl)
      refine ⟨0, a + 1, by omega, by omega, by omega, ?_⟩
      have e1 : cyc ps (((0 : Nat) : Int) - 1) = cyc ps ((ps.length - 1 : Nat) : Int) := by
        rw [<- QO ps (((0 : Nat) : Int) - 1)]; congr 1; omega
      have e2 : cyc ps ((0 : Nat) : Int) = cyc ps (((ps.length - 1 : Nat) : Int) + 1) := by
        rw [<- QO ps ((0 : Nat) : Int)]; congr 1; omega
      rw [e1, e2, show ((a + 1 : Nat) : Int) - 1 = a by omega, show ((a + 1 : Nat) : Int) = (a : Int) + 1 by omega]
      exact m
noncomputable def ZbQ (ps:List Pt):List Int:=(List.range ps.length).map fun (k:Nat)=>ZQ (cyc ps ((k:Int)-2)) (cyc ps ((k:Int)-1)) (cyc ps k)
theorem ZbP {ps:List Pt} (hne:ps≠[]) (x:Int):x∈ZbQ ps ↔ x∈JJ ps:=by
 have hn:0 < (ps.length:Int):=by have:=List.length_pos_iff.mpr hne; omega
 have put:∀ m:Int,∃ k:Nat,k < ps.length/\(k:Int)=m % (ps.length:Int):=fun m=>⟨(m % (ps.length:Int)).toNat,by
  have a1:=Int.emod_nonneg m (show (ps.length:Int)≠0 by omega)
  have a2:=Int.emod_lt_of_pos m hn
  omega,by
  have a1:=Int.emod_nonneg m (show (ps.length:Int)≠0 by omega)
  omega⟩
 unfold ZbQ JJ
 simp only [List.mem_map,List.mem_range]
 constructor
 ·rintro ⟨k,hk,rfl⟩
  obtain ⟨j,hj,e⟩:=put ((k:Int)-2)
  refine ⟨j,hj,?_⟩
  rw [e,UR,WR,WR,show (k:Int)-2+1=k-1 by omega,show (k:Int)-2+2=k by omega]
 ·rintro ⟨k,hk,rfl⟩
  obtain ⟨j,hj,e⟩:=put ((k:Int)+2)
  refine ⟨j,hj,?_⟩
  rw [e,UR,Int.sub_eq_add_neg,Int.sub_eq_add_neg,WR,WR,show (k:Int)+2+-2=k by omega,show (k:Int)+2+-1=k+1 by omega]
theorem Zkr {ps:List Pt} (hps:All Sm ps) (h2:2<=ps.length):∀ (ks:List Nat) (s0:Sl),(∀ k∈ks,k < ps.length)->Yh (Zz 0) ZH (dFn 3 Vi (Zb (Ze dIx (Zd 1) (Ze QH (Zd 0) (Zg (.int 2)))) (Zb (Ze dIx (Zd 1) (Ze QH (Zd 0) (Zg (.int 1)))) (Zb (Ze dIx (Zd 1) (Zd 0)) Zk)))) (ks.map fun (k:Nat)=>D.int k) (s0::[.val (.tup (ps.map pD))]) =
  some ((ks.map fun (k:Nat)=>ZQ (cyc ps ((k:Int)-2)) (cyc ps ((k:Int)-1)) (cyc ps k)).map .int)
 | [],_,_=>rfl
 | k::ks,s0,h=>by
  have hne:ps≠[]:=fun z=>by rw [z] at h2; simp at h2
  have hk:=h k List.mem_cons_self
  have ih:=Zkr hps h2 ks (.val (.int k)) fun x hx=>h x (List.mem_cons_of_mem _ hx)
  have i1:=Jx (ps:=ps) (i:=(k:Int)-2) (by omega) (by omega)
  have i2:=Jx (ps:=ps) (i:=(k:Int)-1) (by omega) (by omega)
  have i3:=Jx (ps:=ps) (i:=(k:Int)) (by omega) (by omega)
  have t:=V2 (hps _ (YX hne ((k:Int)-2))) (hps _ (YX hne ((k:Int)-1))) (hps _ (YX hne (k:Int)))
  simp -implicitDefEqProofs [Yh,i1,i2,i3,t,ih]
theorem Zpj (n:Nat):QC 0 n=(List.range n).map fun (k:Nat)=>D.int k:=by
 unfold QC
 refine List.map_congr_left fun k _=>?_
 rw [Int.zero_add]
theorem Zje {ps:List Pt} (hps:All Sm ps) (h2:2<=ps.length) (hl:ps.length<=1000):Yt [.tup (ps.map pD)]=some (.lst ((ZbQ ps).map .int)):=by
 have cl:=Zkr hps h2 (List.range ps.length) .no fun k hk=>List.mem_range.mp hk
 have r:=Zg9 hl
 have l:(QC 0 ps.length).length<=lim:=Zha hl
 have e:Yh (Zz 0) ZH (dFn 3 Vi (Zb (Ze dIx (Zd 1) (Ze QH (Zd 0) (Zg (.int 2)))) (Zb (Ze dIx (Zd 1) (Ze QH (Zd 0) (Zg (.int 1)))) (Zb (Ze dIx (Zd 1) (Zd 0)) Zk)))) (QC 0 ps.length) (.no::[.val (.tup (ps.map pD))])=some ((ZbQ ps).map .int):=by
  rw [Zpj]; exact cl
 simp -implicitDefEqProofs [Yt,Zq,JO,r,l,JE,e]
theorem ZnS {ps:List Pt} (hps:All Sm ps) (h2:2<=ps.length):YF [.tup (ps.map pD)]=some (.bl (decide (0 < ZQ (cyc ps (-1)) (cyc ps 0) (cyc ps 1)))):=by
 have hne:ps≠[]:=fun z=>by rw [z] at h2; simp at h2
 have i1:=Jx (ps:=ps) (i:=-1) (by omega) (by omega)
 have i2:=Jx (ps:=ps) (i:=0) (by omega) (by omega)
 have i3:=Jx (ps:=ps) (i:=1) (by omega) (by omega)
 have t:=JB (hps _ (YX hne (-1))) (hps _ (YX hne 0)) (hps _ (YX hne 1))
 simp -implicitDefEqProofs [YF,Zq,Uh,i1,i2,i3,t]
theorem neP (p q:Pt):QI (pD p) (pD q)=some (.bl (!decide (p=q))):=by
 show (if (okD (pD p)&&okD (pD q))=true then some (D.bl (!deq (pD p) (pD q))) else none)=_
 rw [(VR p).1,(VR q).1,if_pos (by decide),Zcd]
theorem eqP (p q:Pt):U4 (pD p) (pD q)=some (.bl (decide (p=q))):=by
 show (if (okD (pD p)&&okD (pD q))=true then some (D.bl (deq (pD p) (pD q))) else none)=_
 rw [(VR p).1,(VR q).1,if_pos (by decide),Zcd]
theorem Zeu (c:Sl):∀ (ds:List D) (s1:Sl),(ds.all spB=false->QM (Zz 1) (ZY (Yk (Zn (dFn 1 YE (Zb (Zd 1) Zk)))) (ZT (Zg (.bl false))) ZA) ds [c,s1]=some (.rt (.bl false))) /\
  (ds.all spB=true->∃ t1,QM (Zz 1) (ZY (Yk (Zn (dFn 1 YE (Zb (Zd 1) Zk)))) (ZT (Zg (.bl false))) ZA) ds [c,s1]=some (.nx [c,t1]))
 | [],s1=>⟨fun z=>by simp at z,fun _=>⟨s1,rfl⟩⟩
 | d::ds,s1=>by
  have ih:=Zeu c ds (.val d)
  have e:(ZY (Yk (Zn (dFn 1 YE (Zb (Zd 1) Zk)))) (ZT (Zg (.bl false))) ZA) [c,.val d]=if spB d=true then some (.nx [c,.val d]) else some (.rt (.bl false)):=by
   simp -implicitDefEqProofs [Zh7]
   cases spB d <;> simp -implicitDefEqProofs
  have st:QM (Zz 1) (ZY (Yk (Zn (dFn 1 YE (Zb (Zd 1) Zk)))) (ZT (Zg (.bl false))) ZA) (d::ds) [c,s1]=(match (if spB d=true then some (Out.nx [c,.val d]) else some (Out.rt (.bl false))) with
   | some (.nx ρ2)=>QM (Zz 1) (ZY (Yk (Zn (dFn 1 YE (Zb (Zd 1) Zk)))) (ZT (Zg (.bl false))) ZA) ds ρ2
   | some (.ct ρ2)=>QM (Zz 1) (ZY (Yk (Zn (dFn 1 YE (Zb (Zd 1) Zk)))) (ZT (Zg (.bl false))) ZA) ds ρ2
   | some (.bk ρ2)=>some (.nx ρ2)
   | r=>r):=by
   rw [QM,<-e]
   rfl
  rw [st]
  cases h:spB d
  ·exact ⟨fun _=>rfl,fun z=>by simp [h] at z⟩
  ·refine ⟨fun z=>ih.1 (by simpa [h] using z),fun z=>ih.2 (by simpa [h] using z)⟩
theorem ZgX {ds:List D} (h:ds.all spB=false):ZJ [.tup ds]=some (.bl false):=by
 have e:=(Zeu (.val (.tup ds)) ds .no).1 h
 unfold ZJ Zq Qp
 show (Zp _ _ [.val (.tup ds),.no]).bind _=_
 have it:YR (Zd 0) [.val (.tup ds),.no]=some ds:=rfl
 rw [Zs,UP,it,Option.bind_some,e]
 rfl
theorem ZhM:∀ (ks:List (List Int)),(WH ks).length<=ks.length
 | []=>Nat.le_refl _
 | k::ks=>by
  have:=ZhM ks
  unfold WH
  split
  ·rw [List.length_cons]; omega
  ·rw [List.length_cons,List.length_cons]; omega
theorem ZnJ (ks:List (List Int)):(WH ks).length=ks.length ↔ ks.Nodup:=by
 have h1:=ZkH ks
 have h2:(WH ks).length<=ks.length:=by
  by_cases z:ks.Nodup
  ·by_cases q:ks.length < (WH ks).length
   ·exact absurd q (Nat.not_lt.mpr (ZhM ks))
   ·omega
  ·exact Nat.le_of_lt (h1.mpr z)
 constructor
 ·intro e
  by_cases z:ks.Nodup
  ·exact z
  ·have:=h1.mpr z; omega
 ·intro z
  by_cases q:(WH ks).length < ks.length
  ·exact absurd z (h1.mp q)
  ·omega
theorem Zjd {ps:List Pt} (hps:All (Rg 100) ps) (hl:ps.length<=70):ZJ [.tup (ps.map pD)]=some (.bl (decide ps.Nodup)):=by
 have ha:(ps.map pD).all spB=true:=by
  rw [List.all_eq_true]
  intro d hd
  obtain ⟨p,hp,rfl⟩:=List.mem_map.mp hd
  exact Zku (hps p hp)
 obtain ⟨t1,e⟩:=(Zeu (.val (.tup (ps.map pD))) (ps.map pD) .no).2 ha
 unfold ZJ Zq Qp
 show (Zp _ _ [.val (.tup (ps.map pD)),.no]).bind _=_
 have it:YR (Zd 0) [.val (.tup (ps.map pD)),.no]=some (ps.map pD):=rfl
 have ls:=ZfF (c:=.tup (ps.map pD)) (ps:=ps) rfl hl
 have nb:(((WH (ps.map ZfG)).length:Int)=((ps.length:Nat):Int)) ↔ ps.Nodup:=by
  rw [<-VT,<-ZnJ,List.length_map]; omega
 rw [Zs,UP,it,Option.bind_some,e]
 simp -implicitDefEqProofs [ls,nb]
noncomputable def UE (n:Nat):Bool:=decide (3<=n)&&decide (n<=12)
theorem Zkd {d:D} (h:∀ ds,d≠.tup ds):ZD [d]=some (.bl false):=by
 cases d with
 | tup ds=>exact absurd rfl (h ds)
 | _=>rfl
theorem Zbb (ds:List D):ZD [.tup ds]=if UE ds.length=true then ZJ [.tup ds] else some (.bl false):=by
 have i1:W7 .tuple (.tup ds)=some (.bl true):=rfl
 unfold UE
 by_cases h1:3<=ds.length
 ·have h1':(3:Int)<=ds.length:=by omega
  by_cases h2:ds.length<=12
  ·have h2':(ds.length:Int)<=12:=by omega
   simp -implicitDefEqProofs [ZD,Zq,YK,i1,h1,h2,h1',h2']
   cases ZJ [.tup ds] <;> rfl
  ·have h2':¬ (ds.length:Int)<=12:=by omega
   simp -implicitDefEqProofs [ZD,Zq,YK,i1,h1,h2,h1',h2']
 ·have h1':¬ (3:Int)<=ds.length:=by omega
  simp -implicitDefEqProofs [ZD,Zq,YK,i1,h1,h1']
noncomputable def dp (d:D):Nat:=(JX d).depth
noncomputable def Lay (n:Nat) (d:D):Prop:=(JX d).canLay0=true/\dp d<=n
theorem ZaP {n:Nat} {d:D} (h:Lay n d) (hn:n<=30):okD d=true:=by
 unfold okD
 rw [h.1,Bool.true_and]
 have:=h.2
 unfold dp at this
 exact decide_eq_true (by omega)
theorem Zpm {n:Nat}:∀ {ds:List D},(∀ e∈ds,Lay n e) ↔ (PyData.canLayAll0 (Qw ds)=true/\PyData.depthAll (Qw ds)<=n)
 | []=>by simp [Qw,PyData.depthAll,PyData.canLayAll0]
 | d::ds=>by
  have ih:=Zpm (n:=n) (ds:=ds)
  simp only [List.mem_cons,forall_eq_or_imp,Qw,PyData.depthAll,PyData.canLayAll0,Bool.and_eq_true,ih]
  unfold Lay dp
  constructor
  ·rintro ⟨⟨a,b⟩,c,e⟩; exact ⟨⟨a,c⟩,by omega⟩
  ·rintro ⟨⟨a,c⟩,e⟩; exact ⟨⟨a,by omega⟩,c,by omega⟩
theorem lay_tup {n:Nat} {ds:List D}:Lay (n+1) (.tup ds) ↔ ∀ e∈ds,Lay n e:=by
 rw [Zpm]
 unfold Lay dp
 simp only [JX,PyData.depth,PyData.canLay0]
 constructor
 ·rintro ⟨a,b⟩; exact ⟨a,by omega⟩
 ·rintro ⟨a,b⟩; exact ⟨a,by omega⟩
theorem lay_lst {n:Nat} {ds:List D}:Lay (n+1) (.lst ds) ↔ ∀ e∈ds,Lay n e:=by
 rw [Zpm]
 unfold Lay dp
 simp only [JX,PyData.depth,PyData.canLay0]
 constructor
 ·rintro ⟨a,b⟩; exact ⟨a,by omega⟩
 ·rintro ⟨a,b⟩; exact ⟨a,by omega⟩
theorem ZkI {xs:List D} (h:Lay 30 (.lst xs)):QI (.lst xs) (.lst [])=some (.bl (!xs.isEmpty)):=by
 show (if (okD (.lst xs)&&okD (.lst []))=true then some (D.bl (!deq (.lst xs) (.lst []))) else none)=_
 rw [ZaP h (Nat.le_refl _),if_pos (by rfl)]
 cases xs with
 | nil=>rfl
 | cons x xs=>
  have:deq (.lst (x::xs)) (.lst [])=false:=by
   show PyData.eqv (.list (JX x::Qw xs)) (.list [])=false
   simp [PyData.eqv,PyData.eqvAll]
  rw [this]; rfl
noncomputable def ZmT:D->Pt
 | .tup [.int x,.int y]=>(x,y)
 | _=>(0,0)
theorem Zcw (ps:List Pt):(ps.map pD).map ZmT=ps:=by
 rw [List.map_map]
 have:(ZmT ∘ pD)=id:=by funext p; rfl
 rw [this,List.map_id]
noncomputable def Uo (ps:List Pt):Bool:=Q5 ps&&decide (0 < ZbE ps)&&decide (cyc ps 0=Zes ps)
noncomputable def isPl:D->Bool
 | .tup ds=>UE ds.length&&ds.all spB&&Uo (ds.map ZmT)
 | _=>false
theorem Zig {ps:List Pt} (h3:3<=ps.length) (hg:Q5 ps=true) (hm:cyc ps 0=Zes ps):0 < ZbE ps ↔ 0 < ZQ (cyc ps (-1)) (cyc ps 0) (cyc ps 1):=by
 have hne:ps≠[]:=fun z=>by rw [z] at h3; simp at h3
 have hd:ps.Nodup:=by
  unfold Q5 at hg
  simp only [Bool.and_eq_true,decide_eq_true_eq] at hg
  exact hg.1.1
 have G:=Zmb h3 hg 0
 have q:=Pg.area_turn G fun i h0 hi=>by
  show Pg.lexlt (cyc ps (((0:Nat):Int)+0)) (cyc ps ((i:Int)+0))
  rw [Int.add_zero,Int.add_zero]
  refine ZnR (a:=cyc ps (i:Int)) (b:=cyc ps ((0:Nat):Int)) ?_ fun z=>?_
  ·show ¬ Pg.lexlt (cyc ps (i:Int)) (cyc ps 0)
   rw [hm]; exact ZlY hne _ (YX hne _)
  ·have:=WC hd hne z
   rw [Int.emod_eq_of_lt (by omega) (by omega),Int.emod_eq_of_lt (by omega) (by omega)] at this
   omega
 have ea:Pg.area ps.length (rp ps 0)=ZbE ps:=Zmv 0
 rw [ea] at q
 rw [q]
 have e1:rp ps 0 (ps.length-1)=cyc ps (-1):=by
  show cyc ps (((ps.length-1:Nat):Int)+0)=_
  rw [<-QO ps (-1)]; congr 1; omega
 rw [e1]
 exact Iff.rfl
theorem lenOk_iff {n:Nat}:UE n=true ↔ 3<=n/\n<=12:=by unfold UE; simp
theorem Ze6 {ds:List D} (h:ds.all spB=true):∃ ps:List Pt,ds=ps.map pD/\All (Rg 100) ps:=Zg5 (List.all_eq_true.mp h)
theorem ZcZ {ps:List Pt} (h1:UE ps.length=true) (h2:All (Rg 100) ps):isPl (.tup (ps.map pD))=Uo ps:=by
 have:(ps.map pD).all spB=true:=List.all_eq_true.mpr fun d hd=>by obtain ⟨p,hp,rfl⟩:=List.mem_map.mp hd; exact Zku (h2 p hp)
 show (UE (ps.map pD).length&&(ps.map pD).all spB&&Uo ((ps.map pD).map ZmT))=_
 rw [List.length_map,h1,this,Zcw]; rfl
theorem Zfu {ps:List Pt} (h1:UE ps.length=true) (h2:All (Rg 100) ps):Z0 [.tup (ps.map pD)]=some (.bl (Uo ps)):=by
 obtain ⟨h3,h12⟩:=lenOk_iff.mp h1
 have hps:All Sm ps:=fun p hp=>Znc (h2 p hp)
 have hne:ps≠[]:=fun z=>by rw [z] at h3; simp at h3
 have cb:ZD [.tup (ps.map pD)]=some (.bl (decide ps.Nodup)):=by
  rw [Zbb,List.length_map,if_pos h1]; exact Zjd h2 (by omega)
 have i0:=Jx (ps:=ps) (i:=0) (by omega) (by omega)
 have mn:=ZhS (ps:=ps) hne (c:=.tup (ps.map pD)) rfl
 have ta:=Zje hps (by omega) (by omega)
 have inn:=Zib 0 (ZbQ ps)
 have lf:=ZnS hps (by omega)
 have ap:=@Zmx ps (by omega) hps (Classical.propDecidable _)
 by_cases hd:ps.Nodup
 ·by_cases hm:cyc ps 0=Zes ps
  ·by_cases ht:0∈ZbQ ps
   ·have:Uo ps=false:=by
     have:0∈JJ ps:=(ZbP hne 0).mp ht
     unfold Uo Q5; simp [this]
    rw [this]
    simp -implicitDefEqProofs [Z0,Zq,QD,cb,i0,mn,neP,hd,hm,ta,inn,ht]
   ·have ht':¬ 0∈JJ ps:=fun z=>ht ((ZbP hne 0).mpr z)
    by_cases hc:∃ j,Y3 (Y4 ps) j=true
    ·have hb:=(Zd0 h3 hd).mp hc
     have:Uo ps=false:=by unfold Uo Q5; simp [hb]
     rw [this]
     simp only [hc,decide_true,Bool.not_true] at ap
     simp -implicitDefEqProofs [Z0,Zq,QD,cb,i0,mn,neP,hd,hm,ta,inn,ht,lf,ap]
     cases decide (0 < ZQ (cyc ps (-1)) (Zes ps) (cyc ps 1)) <;> rfl
    ·have hb:badAny ps=false:=by
      cases q:badAny ps with
      | false=>rfl
      | true=>exact absurd ((Zd0 h3 hd).mpr q) hc
     have hg:Q5 ps=true:=by unfold Q5; simp [hd,ht',hb]
     have gl:=Zig h3 hg hm
     have:Uo ps=decide (0 < ZQ (cyc ps (-1)) (cyc ps 0) (cyc ps 1)):=by
      unfold Uo
      rw [hg,decide_eq_true hm,Bool.true_and,Bool.and_true]
      exact decide_eq_decide.mpr gl
     rw [this]
     simp only [hc,decide_false,Bool.not_false] at ap
     by_cases hlt:0 < ZQ (cyc ps (-1)) (cyc ps 0) (cyc ps 1)
     ·simp -implicitDefEqProofs [Z0,Zq,QD,cb,i0,mn,neP,hd,<-hm,ta,inn,ht,lf,ap,hlt]
     ·simp -implicitDefEqProofs [Z0,Zq,QD,cb,i0,mn,neP,hd,<-hm,ta,inn,ht,lf,ap,hlt]
  ·have:Uo ps=false:=by unfold Uo; simp [hm]
   rw [this]
   simp -implicitDefEqProofs [Z0,Zq,QD,cb,i0,mn,neP,hd,hm]
 ·have:Uo ps=false:=by unfold Uo Q5; simp [hd]
  rw [this]
  simp -implicitDefEqProofs [Z0,Zq,QD,cb,hd]
theorem Zh8 (d:D):Z0 [d]=some (.bl (isPl d)):=by
 have no:∀ d:D,ZD [d]=some (.bl false)->Z0 [d]=some (.bl false):=fun d e=>by
  simp -implicitDefEqProofs [Z0,Zq,QD,e]
 cases d with
 | tup ds=>
  by_cases h1:UE ds.length=true
  ·cases h2:ds.all spB
   ·rw [no _ (by rw [Zbb,if_pos h1]; exact ZgX h2)]
    simp [isPl,h2]
   ·obtain ⟨ps,rfl,hr⟩:=Ze6 h2
    rw [List.length_map] at h1
    rw [Zfu h1 hr,ZcZ h1 hr]
  ·rw [no _ (by rw [Zbb,if_neg h1])]
   have:UE ds.length=false:=by simpa using h1
   simp [isPl,this]
 | _=>exact no _ (Zkd (by intro ds z; cases z))
theorem ZnO:∀ (ds:List D) (s0:Sl),Yh (Zz 0) (Yk (Zn (dFn 1 Ym (Zb (Zd 0) Zk)))) (Zd 0) ds (s0::[])=some (ds.filter fun d=>!spB d)
 | [],_=>rfl
 | d::ds,s0=>by
  have ih:=ZnO ds (.val d)
  cases h:spB d
  ·simp -implicitDefEqProofs [Yh,ZbZ,h,ih]
  ·simp -implicitDefEqProofs [Yh,ZbZ,h,ih]
theorem Zb0 {d:D} (hdp:Lay 30 d):Zy [d]=some (.bl (isPl d)):=by
 cases d with
 | tup ds=>
  have i1:W7 .tuple (.tup ds)=some (.bl true):=rfl
  by_cases h1:UE ds.length=true
  ·obtain ⟨h3,h12⟩:=lenOk_iff.mp h1
   have h3':(3:Int)<=ds.length:=by omega
   have h12':(ds.length:Int)<=12:=by omega
   have cl:=ZnO ds .no
   have hl:ds.length<=lim:=YD (by omega)
   have nn:QI (.lst (ds.filter fun d=>!spB d)) (.lst [])=some (.bl (!(ds.filter fun d=>!spB d).isEmpty)):=ZkI (by
    have:Lay (29+1) (.tup ds):=hdp
    exact lay_lst.mpr fun e he=>lay_tup.mp this e (List.mem_filter.mp he).1)
   cases h2:ds.all spB
   ·have:(ds.filter fun d=>!spB d).isEmpty=false:=by
     cases q:(ds.filter fun d=>!spB d).isEmpty with
     | false=>rfl
     | true=>
      rw [List.isEmpty_iff,List.filter_eq_nil_iff] at q
      have:ds.all spB=true:=List.all_eq_true.mpr fun e he=>by simpa using q e he
      rw [this] at h2; cases h2
    rw [this] at nn
    have z:isPl (.tup ds)=false:=by simp [isPl,h2]
    rw [z]
    simp -implicitDefEqProofs [Zy,Zq,Y6,i1,h3',h12',JE,cl,hl,nn]
   ·have:(ds.filter fun d=>!spB d).isEmpty=true:=by
     rw [List.isEmpty_iff,List.filter_eq_nil_iff]
     intro e he
     simpa using List.all_eq_true.mp h2 e he
    rw [this] at nn
    obtain ⟨ps,rfl,hr⟩:=Ze6 h2
    rw [List.length_map] at h1 h3' h12' h3 h12 hl
    rw [ZcZ h1 hr]
    have hps:All Sm ps:=fun p hp=>Znc (hr p hp)
    have hne:ps≠[]:=fun z=>by rw [z] at h3; simp at h3
    have gd:=ZfL (c:=.tup (ps.map pD)) (ps:=ps) rfl hne hps (by omega)
    have ar:=ZfM (c:=.tup (ps.map pD)) (ps:=ps) rfl hne hps
    have i0:=Jx (ps:=ps) (i:=0) (by omega) (by omega)
    have mn:=ZhS (ps:=ps) hne (c:=.tup (ps.map pD)) rfl
    unfold Uo
    simp -implicitDefEqProofs [Zy,Zq,Y6,i1,h3',h12',JE,cl,hl,nn,gd,ar,i0,mn,eqP]
    cases Q5 ps
    ·simp -implicitDefEqProofs
    ·by_cases h0:0 < ZbE ps
     ·simp -implicitDefEqProofs [h0]
     ·simp -implicitDefEqProofs [h0]
  ·have z:UE ds.length=false:=by simpa using h1
   have z2:isPl (.tup ds)=false:=by simp [isPl,z]
   rw [z2]
   have:¬ (3<=ds.length/\ds.length<=12):=fun q=>h1 (lenOk_iff.mpr q)
   by_cases h3:(3:Int)<=ds.length
   ·have h12:¬ (ds.length:Int)<=12:=by omega
    simp -implicitDefEqProofs [Zy,Zq,Y6,i1,h3,h12]
   ·simp -implicitDefEqProofs [Zy,Zq,Y6,i1,h3]
 | _=>rfl
theorem Lay.up {a b:Nat} {d:D} (h:Lay a d) (hab:a<=b):Lay b d:=⟨h.1,Nat.le_trans h.2 hab⟩
theorem WE (s:String):PyData.strOk (Str.ofString s)=true:=by
 unfold PyData.strOk
 rw [Str.ofString_eq_toList]
 rw [Array.all_eq_true']
 intro x hx
 have hx:x∈s.toList.map Char.toNat:=by simpa using hx
 obtain ⟨c,_,rfl⟩:=List.mem_map.mp hx
 have hc:c.val < 0x110000:=by
  have v:=c.valid
  unfold UInt32.isValidChar Nat.isValidChar at v
  have:c.val.toNat < 0x110000:=by omega
  exact this
 simpa using (show c.toNat < 0x110000 from hc)
theorem Zh0 (i:Int):Lay 0 (.int i):=⟨rfl,Nat.le_refl _⟩
noncomputable def ZmX:DT:=(Jn (Zn (Ze dGt (Zd 2) (Zg (.int 0)))) (Jn (Zn (Jc (W7 .tuple) (Zd 0))) (Jn (Zn (Ze dGt (Zv Qs (Zb (Zd 0) Zk)) (Zg (.int 0)))) (Zn (Ze dGt (Ze Yu (Zd 1) (Zg (.int 6))) (Zg (.int 0)))))))
noncomputable def Zli:DT:=(Jn (Zn (Jc (W7 .tuple) (Zd 0))) (Jn (Zn (Ze dGt (Zv Qs (Zb (Zd 0) Zk)) (Zg (.int 0)))) (Zn (Ze U4 (Ze Yu (Ze Qu (Zd 1) (Zg (.int 6))) (Zg (.int 2))) (Zg (.int 0))))))
noncomputable def ZmD:DT:=(Jn (Zn (Jc (W7 .int) (Zd 0))) (Zn (Ze U4 (Ze Yu (Ze Qu (Zd 1) (Zg (.int 6))) (Zg (.int 2))) (Zg (.int 0)))))
noncomputable def spA (fr:List D->Option D):DS:=(Zp (ZM 3 (Ze Yu (Ze Qu (Zd 1) (Zg (.int 6))) (Zv Qs (Zb (Zd 0) Zk))))
 (Zp (ZM 4 (dFn 3 fr (Zb (Ze dIx (Zd 0) (Zd 3)) (Zb (Ze Qu (Zd 1) (Zg (.int 72))) (Zb (Ze QH (Zd 2) (Zg (.int 1))) Zk)))))
 (ZT (Ze ZE (Ze ZE (dSl (Zd 0) Z2 (ZN (Zd 3))) (Qr (Zb (Zd 4) Zk))) (dSl (Zd 0) (ZN (Ze ZE (Zd 3) (Zg (.int 1)))) Z2)))))
noncomputable def Zkv:DS:=(Zp (ZM 5 (Wz (Zb (Zv UO (Zb (Zd 0) Zk)) (Zb (dSl (Zd 0) Z2 (ZN (Jc Zce (Zg (.int 1))))) (Zb (Ze ZE (Zd 0) (dSl (Zd 0) (ZN (Jc Zce (Zg (.int 1)))) Z2)) (Zb (Ze ZE (dSl (Zd 0) (ZN (Zg (.int 1))) Z2) (dSl (Zd 0) Z2 (ZN (Zg (.int 1))))) (Zb (Zml (Zd 0)) (Zb (Ze Zmm (Zd 0) (Zg (.int 2))) Zk))))))))
 (ZT (Ze dIx (Zd 5) (Ze Yu (Ze Qu (Zd 1) (Zg (.int 12))) (Zg (.int 6))))))
noncomputable def spC:DS:=(ZT (Ze dIx (Wz (Zb (Zv UN (Zb (Zd 0) Zk)) (Zb (Jc Zce (Zd 0)) (Zb (Ze ZE (Zd 0) (Zg (.int 1))) (Zb (Ze U4 (Zd 0) (Zg (.int 1))) (Zb (Ze ZE (Zd 0) (Zg (.int 97))) (Zb (Ze QH (Zd 0) (Zg (.int 1))) Zk))))))) (Ze Yu (Ze Qu (Zd 1) (Zg (.int 12))) (Zg (.int 6)))))
noncomputable def spE:DS:=(ZT (dFn 1 Zcc (Zb (Ze Qu (Zd 1) (Zg (.int 6))) Zk)))
theorem ZjY (fr:List D->Option D):J9 fr=Zp (ZY ZmX (spA fr) ZA) (Zp (ZY Zli Zkv ZA) (Zp (ZY ZmD spC ZA) spE)):=rfl
theorem ZnV (p:Pt):Lay 1 (pD p):=lay_tup.mpr fun e he=>by
 simp only [List.mem_cons,List.not_mem_nil,or_false] at he
 rcases he with rfl | rfl <;> exact Zh0 _
end Pl
namespace L3
open PySem PySem.Spec PyProof.Rows L2
section
variable {X:Cx} {pos:Pos} {e:Expr} {f g:DE}
noncomputable def Zqv:V->Option Int->Option Int->Hp->VK->Prop:=fun x lo hi H Q=>∃ z,x=.str z/\z.length<=lim/\Q (.str (Txt.slice z lo hi)) H
theorem ZhA {v:Value} {o:Option Int} (p:IsPart v o):∃ l:Option (Int×Tok),partValue l=v/\l.map (·.1)=o:=by
 cases p with
 | none=>exact ⟨none,rfl,rfl⟩
 | int i t=>exact ⟨some (i,t),rfl,rfl⟩
theorem Zm2:SlR X Zqv:=by
 intro pins s σ H x v vl vu lo hi sl Q I rx hs pl pu h
 obtain ⟨z,rfl,hz,q⟩:=h
 obtain ⟨t,rfl⟩:=rx
 obtain ⟨l,rfl,rfl⟩:=ZhA pl
 obtain ⟨u,rfl,rfl⟩:=ZhA pu
 exact ⟨"str",_,PySem.F.slot_str_getitem.lookup,typeIs_str _ _ _,wpAny_getItem_str_slice (l:=l) (u:=u) (st:=none) hs rfl (post_val_or_str ⟨Nat.le_trans (Txt.slice_le z _ _) (Q4 hz),fun t' k=>⟨.str _,H,I.tok k,⟨_,rfl⟩,q⟩⟩)⟩
noncomputable def ZbD (lo hi:Option Int):D->Option D
 | .str z=>if z.length<=lim then some (.str (Txt.slice z lo hi)) else none
 | _=>none
noncomputable def ZdV (f:DE) (l h:DO):DE:=fun ρ=>(f ρ).bind fun x=>(l ρ).bind fun lo=>(h ρ).bind fun hi=>ZbD lo hi x
theorem WN {lo hi:Option Expr} {l h:DO} {p2:Pos} (he:ED X e f) (hl:OD X lo l) (hh:OD X hi h):ED X (.Subscript e (.Slice lo hi none p2) pos) (ZdV f l h):=
 PE.imp (Zfw Zm2 he hl hh) fun σ H Q zq=>by
  obtain ⟨ρ,F0,H0,F,d,ok,e,q⟩:=zq
  obtain ⟨x,ex,e⟩:=bind_some e
  obtain ⟨lo,el,e⟩:=bind_some e
  obtain ⟨hi,eh,e⟩:=bind_some e
  refine ⟨ρ,F0,H0,F,x,ok,ex,fun v F1 H1 g1 r1=>⟨ρ,F0,H0,F1,lo,ok.grow g1,el,fun F2 H2 g2=>⟨ρ,F0,H0,F2,hi,(ok.grow g1).grow g2,eh,fun F3 H3 g3=>?_⟩⟩⟩
  unfold ZbD at e
  split at e
  ·obtain ⟨hz,rfl⟩:=Ys e
   unfold Rep at r1
   subst r1
   exact ⟨_,rfl,hz,q _ F3 H3 (g1.trans (g2.trans g3)) (by unfold Rep; rfl)⟩
  ·cases e
noncomputable def dFs (sep:Str):D->D->Option D
 | .int i,.int j=>if i.natAbs.log2 < 1920/\j.natAbs.log2 < 1920/\(Str.empty++(toString i:Str)++sep++(toString j:Str)).length<=lim then some (.str (Str.empty++(toString i:Str)++sep++(toString j:Str))) else none
 | _,_=>none
theorem Zmj {a b:Expr} {sep:Str} {j} {p1 p2 p3:Pos} (ha:ED X a f) (hb:ED X b g) :
  ED X (.JoinedStr [.FormattedValue a (-1) none p1,.Constant (.str sep) j p2,.FormattedValue b (-1) none p3] pos) (Ze (dFs sep) f g):=by
 intro pins s σ H Q I h
 obtain ⟨ρ,F0,H0,F,d,ok,ed,q⟩:=h
 obtain ⟨x,ex,ed⟩:=bind_some ed
 obtain ⟨y,ey,ed⟩:=bind_some ed
 unfold dFs at ed
 split at ed
 ·rename_i i k _
  obtain ⟨⟨h1,h2,h3⟩,rfl⟩:=Ys ed
  have h3:=Q4 h3
  have l1:(Str.empty++(toString i:Str)).length<=sizeLine:=by rw [strLen_append,strLen_append] at h3; omega
  have l2:(Str.empty++(toString i:Str)++sep).length<=sizeLine:=by rw [strLen_append] at h3; omega
  refine PyProof.Rows.JoinedStr_many (PyProof.Rows.joinParts_cons (PyProof.Rows.FormattedValue_plain (thn (ha pins s σ H (fun v H'=>∃ F',Grow F H F' H'/\Rep X.K F' H' (.int i) v) I ⟨ρ,F0,H0,F,_,ok,ex,fun v F' H' g r=>⟨F',g,r⟩⟩) fun v s1 zq=>?_)))
  obtain ⟨xv,H1,I1,r1,F1,g1,rx⟩:=zq
  unfold Rep at rx
  subst rx
  obtain ⟨t,rfl⟩:=r1
  refine PyProof.Rows.formatField_int_small h1 ⟨l1,PyProof.Rows.joinParts_cons (Calls.Constant_str ⟨l2,?_⟩)⟩
  have I2:=(I1.tok (s1.toks+1+1)).tok (s1.toks+1+1+1)
  refine PyProof.Rows.joinParts_cons (PyProof.Rows.FormattedValue_plain (thn (hb pins _ σ H1 (fun v H'=>∃ F',Grow F1 H1 F' H'/\Rep X.K F' H' (.int k) v) I2 ⟨ρ,F0,H0,F1,_,ok.grow g1,ey,fun v F' H' g r=>⟨F',g,r⟩⟩) fun v s2 zq=>?_))
  obtain ⟨xv,H2,I2,r2,F2,g2,rx⟩:=zq
  unfold Rep at rx
  subst rx
  obtain ⟨t,rfl⟩:=r2
  exact PyProof.Rows.formatField_int_small h2 ⟨h3,PyProof.Rows.joinParts_nil ⟨.str _,H2,(I2.tok _).tok _,⟨_,rfl⟩,q _ F2 H2 (g1.trans g2) (by unfold Rep; rfl)⟩ h3⟩
 ·cases ed
noncomputable def Zbr:List D->Option (List Str)
 | []=>some []
 | .str z::r=>(Zbr r).map (z::·)
 | _=>none
noncomputable def JD:D->D->Option D
 | .str sep,.lst ds=>(Zbr ds).bind fun zs=>if (zs.map (·.length)).sum+zs.length*sep.length<=lim then some (.str (Txt.join sep zs)) else none
 | _,_=>none
theorem Zfj {K:Frag} {F:Fz} {H:Hp}:∀ {ds:List D} {vs:List V} {us:List Value} {zs:List Str},RepL K F H ds vs->Vals vs us->Zbr ds=some zs->StrsAre us zs
 | [],vs,us,zs,r,v,e=>by
  cases e
  cases r.unnil
  cases v
  exact .nil
 | d::ds,vs,us,zs,r,v,e=>by
  obtain ⟨w,vs',rfl,r1,r2⟩:=r.uncons
  cases d with
  | str z=>
   obtain ⟨zs',e',rfl⟩:=map_some e
   unfold Rep at r1
   subst r1
   cases v with
   | cons v1 v2=>
    obtain ⟨t,rfl⟩:=v1
    exact .cons z t (Zfj r2 v2 e')
  | _=>cases e
noncomputable def Zo6 (K:Frag):V->List V->Hp->VK->Prop:=fun x xs H Q=>∃ sep F ds u zs,x=.str sep/\xs=[u]/\Rep K F H (.lst ds) u/\Zbr ds=some zs/\(zs.map (·.length)).sum+zs.length*sep.length<=lim/\Q (.str (Txt.join sep zs)) H
theorem ZlW:MtM X "str.join" (Zo6 X.K):=by
 intro pins s σ H x xs v us Q I rx rv h
 obtain ⟨sep,F,ds,u,zs,rfl,rfl,r,ez,hz,q⟩:=h
 obtain ⟨t,rfl⟩:=rx
 obtain ⟨u',rfl,ru⟩:=rv.one
 unfold Rep at r
 obtain ⟨a,vs,rfl,hf,hq,hr⟩:=r
 cases ru
 obtain ⟨its,rv,pl,_⟩:=I.list hq
 have hlen:(2:Nat) ^ 24=16777216:=by decide
 refine PyProof.Rows.join_list pl.isList (by simpa using Zfj hr rv ez) ?_ fun t' k=>⟨.str _,H,I.tok k,⟨_,rfl⟩,q⟩
 have:=Q4 hz
 unfold sizeLine at this
 omega
theorem Za5 {o:Expr} {apos cpos:Pos} (ho:ED X o f) (he:ED X e g)
  (hbase:attributeBase o "join" X.env (eval o X.env)=eval o X.env:=by rfl)
  (hfew:((backTo cpos (starEach [e] X.env)).all (fun x=>!x.1)&&(backToKw cpos (keywordEach [] X.env)).all (fun x=>x.1.isSome)
   && decide ([e].length+([]:List Keyword).length+(if ([]:List Keyword).isEmpty then 0 else 1) < 30))=true:=by rfl)
  (hline:(apos.endLine==cpos.line)=true:=by rfl) (hs:starEach [e] X.env=(false,eval e X.env)::starEach [] X.env:=by rfl) (hplain:(backTo cpos (starEach [] X.env)).any (·.1)=false:=by rfl) :
  ED X (.Call (.Attribute o "join" apos) [e] [] cpos) (Ze JD f g):=
 PE.imp (ZjB PySem.F.plainAttrs_str PySem.F.slot_str_join PySem.F.type_str_join ZlW ho (Zc he Zh hs) hbase hfew hline hs hplain) fun σ H Q zq=>by
  obtain ⟨ρ,F0,H0,F,d,ok,e,q⟩:=zq
  obtain ⟨x,ex,e⟩:=bind_some e
  obtain ⟨y,ey,e⟩:=bind_some e
  unfold JD at e
  split at e
  ·rename_i sep ds _
   obtain ⟨zs,ez,e⟩:=bind_some e
   obtain ⟨hz,rfl⟩:=Ys e
   refine ⟨ρ,F0,H0,F,_,ok,ex,fun v F1 H1 g1 r1=>?_⟩
   unfold Rep at r1
   subst r1
   refine ⟨rfl,ρ,F0,H0,F1,[.lst ds],ok.grow g1,by simp [Zb,Zk,ey],fun ws F2 H2 g2 r2=>?_⟩
   obtain ⟨u,rfl,ru⟩:=J5 r2
   exact ⟨sep,F2,ds,u,zs,rfl,rfl,ru,ez,hz,q _ F2 H2 (g1.trans g2) (by unfold Rep; rfl)⟩
  ·cases e
end
end L3
namespace Pl
open PySem PySem.Spec PyProof.Rows L2 L3
noncomputable def Vd:DS:=(Zp (ZM 1 (Ze dIx (Zd 0) (Zg (.int 0))))
 (Zp (ZM 2 (Ze dIx (Zd 0) (Zg (.int 1))))
 (ZT (Ze (dFs (Str.ofString ",")) (Zd 1) (Zd 2)))))
noncomputable def Z9:List D->Option D:=Zq 3 Vd
noncomputable def ZdK:DS:=(Zp (ZY (Yk (Zn (dFn 1 Z0 (Zb (Zd 0) Zk)))) Zc4 ZA)
 (ZT (Ze JD (Zg (.str (Str.ofString " "))) (YH [none] (YR (Zd 0)) (Zz 0) ZH (dFn 1 Z9 (Zb (Zd 0) Zk))))))
noncomputable def QF:List D->Option D:=Zq 1 ZdK
noncomputable def Vf:DS:=(Zp (ZM 1 (Zg (.str (Str.ofString ""))))
 (Zp (V6 (YR (Zd 0)) (Y1 2 3) (ZM 1 (Ze ZE (Ze ZE (Ze ZE (Ze ZE (Zd 1) (Zg (.str (Str.ofString " ")))) (Zv UN (Zb (Zd 2) Zk))) (Zg (.str (Str.ofString ",")))) (Zv UN (Zb (Zd 3) Zk)))))
 (ZT (ZdV (Zd 1) (ZN (Zg (.int 1))) Z2))))
noncomputable def ZP:List D->Option D:=Zq 4 Vf
noncomputable def tx (i:Int):Str:=Str.ofString (toString i)
noncomputable def spT (p:Pt):Str:=tx p.1++Str.ofString ","++tx p.2
theorem Uq {a b:Str} (h:a.cps.toList=b.cps.toList):a=b:=by
 cases a; cases b
 congr 1
 exact Array.toList_inj.mp h
theorem Wg (a b:Str):(a++b).cps.toList=a.cps.toList++b.cps.toList:=by
 show (a.cps++b.cps).toList=_
 simp
theorem Zey (a:Str):Str.empty++a=a:=Uq (by rw [Wg]; rfl)
theorem Zaq (a b c:Str):a++b++c=a++(b++c):=Uq (by simp only [Wg,List.append_assoc])
theorem Qk (a:Str):a.length=a.cps.toList.length:=by show a.cps.size=_; simp
theorem Z7 (a b:Str):(a++b).length=a.length+b.length:=by rw [Qk,Qk,Qk,Wg,List.length_append]
theorem Vb {a b:Str} (ha:PyData.strOk a=true) (hb:PyData.strOk b=true):PyData.strOk (a++b)=true:=by
 unfold PyData.strOk at *
 show Array.all (a.cps++b.cps) _=true
 rw [Array.all_eq_true'] at *
 intro x hx
 rcases Array.mem_append.mp hx with h | h
 ·exact ha x h
 ·exact hb x h
theorem Zlc:∀ k:Fin 1999,(Str.ofString (toString ((k.val:Int)-999))).length<=4:=by decide +kernel
theorem ZbO {i:Int} (h:-999<=i/\i<=999):(tx i).length<=4:=by
 have:=Zlc ⟨(i+999).toNat,by omega⟩
 rw [show (((i+999).toNat:Nat):Int)-999=i by omega] at this
 exact this
theorem ZdZ:(Str.ofString ",").length=1:=by decide +kernel
theorem Q9:(Str.ofString " ").length=1:=by decide +kernel
theorem Zat {p:Pt} (h:Rg 999 p):(spT p).length<=9:=by
 unfold spT
 have h1:=ZbO (i:=p.1) (by unfold Rg at h; omega)
 have h2:=ZbO (i:=p.2) (by unfold Rg at h; omega)
 rw [Z7,Z7,ZdZ]
 omega
theorem Zkt (p:Pt):PyData.strOk (spT p)=true:=Vb (Vb (WE _) (WE _)) (WE _)
theorem ZfE {i:Int} (h:-999<=i/\i<=999):i.natAbs.log2 < 1920:=by
 have h1:i.natAbs<=999:=by omega
 by_cases h0:i.natAbs=0
 ·rw [h0]; decide
 ·have h2:i.natAbs.log2<=i.natAbs:=Nat.log2_le_self _
  omega
theorem ZqU {i j:Int} (hi:-999<=i/\i<=999) (hj:-999<=j/\j<=999):dFs (Str.ofString ",") (.int i) (.int j)=some (.str (spT (i,j))):=by
 have h1:=ZbO hi
 have h2:=ZbO hj
 have e:Str.empty++Str.ofString (toString i)++Str.ofString ","++Str.ofString (toString j)=spT (i,j):=by
  rw [Zey]; rfl
 show (if i.natAbs.log2 < 1920/\j.natAbs.log2 < 1920/\(Str.empty++Str.ofString (toString i)++Str.ofString ","++Str.ofString (toString j)).length<=lim then some (D.str (Str.empty++Str.ofString (toString i)++Str.ofString ","++Str.ofString (toString j))) else none)=_
 rw [e,if_pos ⟨ZfE hi,ZfE hj,YD (Nat.le_trans (Zat (p:=(i,j)) ⟨⟨hi.1,hi.2⟩,⟨hj.1,hj.2⟩⟩) (by decide))⟩]
theorem Zk9 {p:Pt} (h:Rg 999 p):Z9 [pD p]=some (.str (spT p)):=by
 obtain ⟨x,y⟩:=p
 have h1:-999<=x/\x<=999:=by unfold Rg at h; simp at h; omega
 have h2:-999<=y/\y<=999:=by unfold Rg at h; simp at h; omega
 have e:=ZqU h1 h2
 unfold Z9 Zq Vd
 simp -implicitDefEqProofs [pD,e]
theorem ZmM:∀ (ps:List Pt) (s0:Sl),All (Rg 999) ps->Yh (Zz 0) ZH (dFn 1 Z9 (Zb (Zd 0) Zk)) (ps.map pD) (s0::[])=some (ps.map fun p=>.str (spT p))
 | [],_,_=>rfl
 | p::ps,s0,h=>by
  have ih:=ZmM ps (.val (pD p)) fun q hq=>h q (List.mem_cons_of_mem _ hq)
  simp -implicitDefEqProofs [Yh,ZH,Zk9 (h p List.mem_cons_self),ih]
theorem Zks:∀ ps:List Pt,Zbr (ps.map fun p=>D.str (spT p))=some (ps.map spT)
 | []=>rfl
 | p::ps=>by
  show (Zbr (ps.map _)).map _=_
  rw [Zks ps]; rfl
noncomputable def QE:List Pt->Str
 | []=>Str.empty
 | p::ps=>Str.ofString " "++(spT p++QE ps)
theorem Zc2:∀ {ps:List Pt},All (Rg 999) ps->(QE ps).length<=10*ps.length
 | [],_=>Nat.le_refl _
 | p::ps,h=>by
  have ih:=Zc2 (ps:=ps) fun q hq=>h q (List.mem_cons_of_mem _ hq)
  have:=Zat (h p List.mem_cons_self)
  show (Str.ofString " "++(spT p++QE ps)).length<=_
  rw [Z7,Z7,Q9,List.length_cons]
  omega
theorem ZhG:PyData.strOk Str.empty=true:=by decide +kernel
theorem Zim:∀ ps:List Pt,PyData.strOk (QE ps)=true
 | []=>ZhG
 | p::ps=>Vb (WE _) (Vb (Zkt p) (Zim ps))
noncomputable def VM:List Pt->Str
 | []=>Str.empty
 | p::ps=>spT p++QE ps
theorem Zew (ps:List Pt):PyData.strOk (VM ps)=true:=by
 cases ps with
 | nil=>exact ZhG
 | cons p ps=>exact Vb (Zkt p) (Zim ps)
theorem ZdJ:∀ ps:List Pt,Str.join (Str.ofString " ") (ps.map spT)=VM ps
 | []=>rfl
 | [p]=>Uq (by
   show (spT p).cps.toList=(spT p++Str.empty).cps.toList
   rw [Wg]
   show _=_++[]
   rw [List.append_nil])
 | p::q::ps=>by
  have ih:=ZdJ (q::ps)
  show spT p++Str.ofString " "++Str.join (Str.ofString " ") ((q::ps).map spT)=spT p++(Str.ofString " "++(spT q++QE ps))
  rw [ih,Zaq]; rfl
theorem Zg3:∀ {ps:List Pt},All (Rg 999) ps->((ps.map spT).map (·.length)).sum<=9*ps.length
 | [],_=>Nat.le_refl _
 | p::ps,h=>by
  have ih:=Zg3 (ps:=ps) fun q hq=>h q (List.mem_cons_of_mem _ hq)
  have:=Zat (h p List.mem_cons_self)
  simp only [List.map_cons,List.sum_cons,List.length_cons] at *
  omega
theorem Zn4 {ps:List Pt} (hl:ps.length<=12) (h:All (Rg 999) ps):JD (.str (Str.ofString " ")) (.lst (ps.map fun p=>.str (spT p)))=some (.str (VM ps)):=by
 unfold JD
 show (Zbr _).bind _=_
 have hs:=Zg3 h
 rw [Zks,Option.bind_some,if_pos (YD (by rw [Q9,List.length_map]; omega))]
 show some (D.str (PySem.Builtin.Str.glued _ _))=_
 rw [StrLaws.glued_eq_join,ZdJ]
theorem Znb {ps:List Pt} (h:All (Rg 100) ps):All (Rg 999) ps:=fun p hp=>by
 have:=h p hp
 unfold Rg at *
 omega
theorem ZgT {ps:List Pt} (h1:UE ps.length=true) (h2':All (Rg 100) ps) (h3:Uo ps=true):QF [.tup (ps.map pD)]=some (.str (VM ps)):=by
 have hl:=lenOk_iff.mp h1
 have h2:=Znb h2'
 have e:=Zfu h1 h2'
 rw [h3] at e
 have j:=Zn4 hl.2 h2
 have c:=ZmM ps .no h2
 have z:(ps.map pD).length<=lim:=YD (by rw [List.length_map]; omega)
 have s1:ZY (Yk (Zn (dFn 1 Z0 (Zb (Zd 0) Zk)))) Zc4 ZA [.val (.tup (ps.map pD))]=some (.nx [.val (.tup (ps.map pD))]):=by
  simp -implicitDefEqProofs [e]
 have s2:YH [none] (YR (Zd 0)) (Zz 0) ZH (dFn 1 Z9 (Zb (Zd 0) Zk)) [.val (.tup (ps.map pD))]=some (.lst (ps.map fun p=>.str (spT p))):=by
  show (if (ps.map pD).length<=lim then (Yh (Zz 0) ZH (dFn 1 Z9 (Zb (Zd 0) Zk)) (ps.map pD) [.no]).map D.lst else none)=_
  rw [if_pos z,c]; rfl
 unfold QF Zq ZdK
 show (Zp _ _ [.val (.tup (ps.map pD))]).bind _=_
 rw [Zs,s1]
 show (((Ze JD (Zg (.str (Str.ofString " "))) _ [.val (.tup (ps.map pD))]).map Out.rt:Option Out).bind _)=_
 show ((((YH _ _ _ _ _ [.val (.tup (ps.map pD))]).bind fun y=>JD (.str (Str.ofString " ")) y).map Out.rt:Option Out).bind _)=_
 rw [s2,Option.bind_some,j]; rfl
noncomputable def lwB:DS:=(ZM 1 (Ze ZE (Ze ZE (Ze ZE (Ze ZE (Zd 1) (Zg (.str (Str.ofString " ")))) (Zv UN (Zb (Zd 2) Zk))) (Zg (.str (Str.ofString ",")))) (Zv UN (Zb (Zd 3) Zk))))
theorem ZoM {a b:Str} (h:(a++b).length<=1000):ZE (.str a) (.str b)=some (.str (a++b)):=by
 rw [Z7] at h
 show (if a.length+b.length<=lim then some (D.str (a++b)) else none)=_
 rw [if_pos (YD h)]
theorem ZlZ {t:D} {z:Str} {p:Pt} (h:Rg 999 p) (hz:z.length<=500):lwB [.val t,.val (.str z),.val (.int p.1),.val (.int p.2)]=some (.nx [.val t,.val (.str (z++(Str.ofString " "++spT p))),.val (.int p.1),.val (.int p.2)]):=by
 have h1:-999<=p.1/\p.1<=999:=by unfold Rg at h; omega
 have h2:-999<=p.2/\p.2<=999:=by unfold Rg at h; omega
 have l1:=ZbO h1
 have l2:=ZbO h2
 have c1:=ZdZ
 have c2:=Q9
 have i1:UN [.int p.1]=some (.str (tx p.1)):=by show (if p.1.natAbs.log2 < 1920 then some (D.str (Str.ofString (toString p.1))) else none)=_; rw [if_pos (ZfE h1)]; rfl
 have i2:UN [.int p.2]=some (.str (tx p.2)):=by show (if p.2.natAbs.log2 < 1920 then some (D.str (Str.ofString (toString p.2))) else none)=_; rw [if_pos (ZfE h2)]; rfl
 have a1:ZE (.str z) (.str (Str.ofString " "))=some (.str (z++Str.ofString " ")):=ZoM (by rw [Z7]; omega)
 have a2:ZE (.str (z++Str.ofString " ")) (.str (tx p.1))=some (.str (z++Str.ofString " "++tx p.1)):=ZoM (by rw [Z7,Z7]; omega)
 have a3:ZE (.str (z++Str.ofString " "++tx p.1)) (.str (Str.ofString ","))=some (.str (z++Str.ofString " "++tx p.1++Str.ofString ",")):=ZoM (by rw [Z7,Z7,Z7]; omega)
 have a4:ZE (.str (z++Str.ofString " "++tx p.1++Str.ofString ",")) (.str (tx p.2))=some (.str (z++Str.ofString " "++tx p.1++Str.ofString ","++tx p.2)):=ZoM (by rw [Z7,Z7,Z7,Z7]; omega)
 have e:z++Str.ofString " "++tx p.1++Str.ofString ","++tx p.2=z++(Str.ofString " "++spT p):=by
  unfold spT
  simp only [Zaq]
 rw [e] at a4
 unfold lwB
 generalize Str.ofString " "=bl at *
 generalize Str.ofString ","=cm at *
 simp -implicitDefEqProofs [i1,i2,a1,a2,a3,a4]
theorem ZfD {t:D}:∀ (ps:List Pt) (z:Str) (a b:Sl),All (Rg 999) ps->z.length+10*ps.length<=500->∃ a' b',QM (Y1 2 3) lwB (ps.map pD) [.val t,.val (.str z),a,b]=some (.nx [.val t,.val (.str (z++QE ps)),a',b'])
 | [],z,a,b,_,_=>⟨a,b,by
   have:z++QE []=z:=Uq (by rw [Wg]; exact List.append_nil _)
   rw [this]; rfl⟩
 | p::ps,z,a,b,h,hz=>by
  have hp:=h p List.mem_cons_self
  have hl:=Zat hp
  rw [List.length_cons] at hz
  obtain ⟨a',b',ih⟩:=ZfD ps (z++(Str.ofString " "++spT p)) (.val (.int p.1)) (.val (.int p.2)) (fun q hq=>h q (List.mem_cons_of_mem _ hq)) (by rw [Z7,Z7,Q9]; omega)
  refine ⟨a',b',?_⟩
  have e:z++QE (p::ps)=z++(Str.ofString " "++spT p)++QE ps:=by
   show z++(Str.ofString " "++(spT p++QE ps))=_
   simp only [Zaq]
  rw [e,<-ih]
  show (match lwB [.val t,.val (.str z),.val (.int p.1),.val (.int p.2)] with
   | some (.nx ρ2)=>QM (Y1 2 3) lwB (ps.map pD) ρ2
   | some (.ct ρ2)=>QM (Y1 2 3) lwB (ps.map pD) ρ2
   | some (.bk ρ2)=>some (.nx ρ2)
   | r=>r)=_
  rw [ZlZ hp (by omega)]
theorem ZiF {p:Pt} {ps:List Pt} (h:All (Rg 999) (p::ps)):Txt.slice (Str.empty++QE (p::ps)) (some 1) none=VM (p::ps):=by
 rw [Zey]
 have hl:1<=(QE (p::ps)).length:=by
  show 1<=(Str.ofString " "++(spT p++QE ps)).length
  rw [Z7,Q9]; omega
 rw [PyProof.Rows.slice_from_eq (b:=((QE (p::ps)).length:Int)) (by decide) (by omega) rfl]
 apply Uq
 show (List.take _ (List.drop 1 (Str.ofString " "++(spT p++QE ps)).cps.toList))=(spT p++QE ps).cps.toList
 have hb:(Str.ofString " ").cps.toList=[32]:=by decide +kernel
 have hc:(Str.ofString " "++(spT p++QE ps)).cps.toList=32::(spT p++QE ps).cps.toList:=by rw [Wg,hb]; rfl
 rw [hc]
 show List.take _ (spT p++QE ps).cps.toList=_
 rw [List.take_of_length_le]
 rw [Qk]
 show _<=(((Str.ofString " "++(spT p++QE ps)).cps.toList.length:Int)-1).toNat
 rw [hc,List.length_cons]
 omega
theorem ZbY {ps:List Pt} (h0:ps≠[]) (hl:ps.length<=12) (h2:All (Rg 999) ps):ZP [.tup (ps.map pD)]=some (.str (VM ps)):=by
 obtain ⟨a',b',lp⟩:=ZfD (t:=.tup (ps.map pD)) ps (Str.ofString "") .no .no h2 (by rw [show (Str.ofString "").length=0 by decide +kernel]; omega)
 have e0:Str.ofString ""=Str.empty:=by decide +kernel
 have s1:ZM 1 (Zg (.str (Str.ofString ""))) [.val (.tup (ps.map pD)),.no,.no,.no]=some (.nx [.val (.tup (ps.map pD)),.val (.str (Str.ofString "")),.no,.no]):=rfl
 have it:YR (Zd 0) [.val (.tup (ps.map pD)),.val (.str (Str.ofString "")),.no,.no]=some (ps.map pD):=rfl
 unfold ZP Zq Vf
 show (Zp _ (Zp (V6 (YR (Zd 0)) (Y1 2 3) lwB) _) [.val (.tup (ps.map pD)),.no,.no,.no]).bind _=_
 rw [Zs,s1]
 show (Zp (V6 (YR (Zd 0)) (Y1 2 3) lwB) _ [.val (.tup (ps.map pD)),.val (.str (Str.ofString "")),.no,.no]).bind _=_
 rw [Zs,UP,it,Option.bind_some,lp]
 show (((ZbD (some 1) none (.str (Str.ofString ""++QE ps))).map Out.rt:Option Out).bind _)=_
 have hf:=Zc2 h2
 have hz:(Str.ofString ""++QE ps).length<=lim:=YD (by rw [e0,Zey]; omega)
 show ((((if (Str.ofString ""++QE ps).length<=lim then some (D.str (Txt.slice (Str.ofString ""++QE ps) (some 1) none)) else none):Option D).map Out.rt:Option Out).bind _)=_
 rw [if_pos hz,e0]
 cases ps with
 | nil=>exact absurd rfl h0
 | cons p ps=>rw [ZiF h2]; rfl
end Pl
namespace L3
open PySem PySem.Spec PyProof.Rows L2
section
variable {X:Cx} {pos:Pos} {e:Expr} {f g:DE}
theorem Zj5 {x z:Str} {t:Tok} (hg:Gl X x) (hm:X.mg x=some (.str z t)) (hd:(x==("__debug__":Str))=false:=by decide):ED X (.Name x pos) (Zg (.str z)):=
 PE.imp (ZcF hg hm (v:=.str z) ⟨t,rfl⟩ hd) fun σ H Q ⟨ρ,F0,H0,F,d,ok,e,q⟩=>by cases e; exact q _ F H .refl (by unfold Rep; rfl)
noncomputable def Zj8:D->D->Option D
 | .str i,.str j=>some (.bl (!(Builtin.Str.occurrences j i 0 j.length 1).isEmpty))
 | _,_=>none
theorem Zph:Op2 X (compareOp .In) Zj8:=by
 intro pins s σ H x y v u Q I rx ry h
 obtain ⟨dx,dy,F,d,r1,r2,e,q⟩:=h
 unfold Zj8 at e
 split at e
 ·cases e
  unfold Rep at r1 r2
  subst r1 r2
  exact ZhC pins s σ H _ _ v u Q I rx ry ⟨_,_,rfl,rfl,q _ F H .refl (by unfold Rep; rfl)⟩
 ·cases e
noncomputable def ZdY:List D->Option D
 | [.str x]=>if x.length<=640 then (PySem.intText? x).map .int else none
 | _=>none
theorem ZkX:Zaa X (.type "int") ZdY:=by
 intro pins s σ H vs us Q I r h
 obtain ⟨xs,F,d,r1,e,q⟩:=h
 unfold ZdY at e
 split at e
 ·rename_i x
  by_cases hl:x.length<=640
  ·rw [if_pos hl] at e
   obtain ⟨n,en,rfl⟩:=map_some e
   obtain ⟨v,rfl,h1⟩:=J5 r1
   unfold Rep at h1
   subst h1
   obtain ⟨u,rfl,ru⟩:=r.one
   obtain ⟨t,rfl⟩:=ru
   exact PySem.W.KIN.call_text en hl ⟨.int n,H,I.tok _,⟨_,rfl⟩,q _ F H .refl (Yl _)⟩
  ·rw [if_neg hl] at e; cases e
 ·cases e
noncomputable def rSM (K:Frag) (r:D->D->Option D):V->List V->Hp->VK->Prop:=fun x xs H Q=>∃ z u F dy d,x=.str z/\xs=[u]/\Rep K F H dy u/\r (.str z) dy=some d/\∀ w F' H',Grow F H F' H'->Rep K F' H' d w->Q w H'
theorem Wv {name:Str} {id:String} {r:D->D->Option D} (slot:Slot "str" name id) (hty:typeOf (.builtin id)=pure (.type "method_descriptor")) (hm:MtM X id (rSM X.K r)) (hr:∀ x y d,r x y=some d->∃ z,x=.str z)
  {o:Expr} {apos cpos:Pos} (ho:ED X o f) (he:ED X e g)
  (hbase:attributeBase o name X.env (eval o X.env)=eval o X.env:=by rfl)
  (hfew:((backTo cpos (starEach [e] X.env)).all (fun x=>!x.1)&&(backToKw cpos (keywordEach [] X.env)).all (fun x=>x.1.isSome)
   && decide ([e].length+([]:List Keyword).length+(if ([]:List Keyword).isEmpty then 0 else 1) < 30))=true:=by rfl)
  (hline:(apos.endLine==cpos.line)=true:=by rfl) (hs:starEach [e] X.env=(false,eval e X.env)::starEach [] X.env:=by rfl) (hplain:(backTo cpos (starEach [] X.env)).any (·.1)=false:=by rfl) :
  ED X (.Call (.Attribute o name apos) [e] [] cpos) (Ze r f g):=
 PE.imp (ZjB PySem.F.plainAttrs_str slot hty hm ho (Zc he Zh hs) hbase hfew hline hs hplain) fun σ H Q zq=>by
  obtain ⟨ρ,F0,H0,F,d,ok,e,q⟩:=zq
  obtain ⟨x,ex,e⟩:=bind_some e
  obtain ⟨y,ey,e⟩:=bind_some e
  obtain ⟨z,rfl⟩:=hr _ _ _ e
  refine ⟨ρ,F0,H0,F,_,ok,ex,fun v F1 H1 g1 r1=>?_⟩
  unfold Rep at r1
  subst r1
  refine ⟨rfl,ρ,F0,H0,F1,[y],ok.grow g1,by simp [Zb,Zk,ey],fun ws F2 H2 g2 r2=>?_⟩
  obtain ⟨u,rfl,ru⟩:=J5 r2
  exact ⟨z,u,F2,y,d,rfl,rfl,ru,e,fun w F3 H3 g3 r3=>q w F3 H3 (g1.trans (g2.trans g3)) r3⟩
noncomputable def JC:D->D->Option D
 | .str x,.str y=>some (.bl (Txt.startswith x y))
 | _,_=>none
theorem ZaQ:MtM X "str.startswith" (rSM X.K JC):=by
 intro pins s σ H x xs v us Q I rx rv h
 obtain ⟨z,u,F,dy,d,rfl,rfl,r,e,q⟩:=h
 cases dy with
 | str y=>
  cases e
  unfold Rep at r
  subst r
  obtain ⟨t,rfl⟩:=rx
  obtain ⟨u',rfl,ru⟩:=rv.one
  obtain ⟨t',rfl⟩:=ru
  exact SC.startswith ⟨.bl _,H,I,rfl,q _ F H .refl (by unfold Rep; rfl)⟩
 | _=>cases e
noncomputable def Za8:D->D->Option D
 | .str x,.str y=>some (.int (Txt.find x y))
 | _,_=>none
theorem ZlX:MtM X "str.find" (rSM X.K Za8):=by
 intro pins s σ H x xs v us Q I rx rv h
 obtain ⟨z,u,F,dy,d,rfl,rfl,r,e,q⟩:=h
 cases dy with
 | str y=>
  cases e
  unfold Rep at r
  subst r
  obtain ⟨t,rfl⟩:=rx
  obtain ⟨u',rfl,ru⟩:=rv.one
  obtain ⟨t',rfl⟩:=ru
  exact SC.find ⟨.int _,H,I.tok _,⟨_,rfl⟩,q _ F H .refl (Yl _)⟩
 | _=>cases e
noncomputable def Yg:D->D->Option D
 | .str x,.str y=>if (y.length==0)=false/\x.length<=lim/\(Builtin.Str.partsBetween x (Builtin.Str.occurrences x y 0 x.length (x.length+1)) y.length).length<=lim/\(Txt.split x y).length<=lim then some (.lst ((Txt.split x y).map .str)) else none
 | _,_=>none
theorem Zdf:∀ l:List (Str×Tok),Vals (l.map fun p=>V.str p.1) (strValues l)
 | []=>.nil
 | p::l=>.cons ⟨p.2,rfl⟩ (Zdf l)
theorem Zdr {K:Frag} {F:Fz} {H:Hp}:∀ zs:List Str,RepL K F H (zs.map .str) (zs.map .str)
 | []=>.nil
 | z::zs=>.cons (by unfold Rep; rfl) (Zdr zs)
theorem QU:MtM X "str.split" (rSM X.K Yg):=by
 intro pins s σ H x xs v us Q I rx rv h
 obtain ⟨z,u,F,dy,d,rfl,rfl,r,e,q⟩:=h
 cases dy with
 | str y=>
  unfold Yg at e
  obtain ⟨⟨hy,hz,hz2,hz3⟩,rfl⟩:=Ys e
  unfold Rep at r
  subst r
  obtain ⟨t,rfl⟩:=rx
  obtain ⟨u',rfl,ru⟩:=rv.one
  obtain ⟨t',rfl⟩:=ru
  have hz:=Q4 hz
  have hz2:=Q4 hz2
  have key:∀ (l:List (Str×Tok)) (tk:Nat),l.map (·.1)=Txt.split z y->EP X pins σ Q (.ref s.heap.objs.size) { s with heap:=s.heap.push { cls:=.type "list",data:=.seq (strValues l).toArray },toks:=tk }:=fun l tk el=>by
   have fr:=I.hok.fresh (Nat.le_refl s.heap.objs.size)
   have ev:(Txt.split z y).map V.str=l.map fun p=>V.str p.1:=by rw [<-el,List.map_map]; rfl
   refine ⟨.ref s.heap.objs.size,_,I.laid (t':=tk) (o:=.lst ((Txt.split z y).map V.str)) (fun b ob q=>Heap.get?_push_of_some _ q) (Nat.le_refl _) ⟨by rw [List.length_map]; exact Q4 hz3,_,0,by rw [ev]; exact Zdf l,Heap.get?_push_size _ rfl⟩,rfl,q _ _ _ (.laid fr) (Y7 fr (Zdr _))⟩
  cases h1:(decide (z.length < y.length)||decide (Builtin.Str.strKind z < Builtin.Str.strKind y))
  ·cases hf:(Builtin.Str.occurrences z y 0 z.length (z.length+1)).isEmpty
   ·refine call_meets PySem.F.slot_str_split (typeIs_str _ _ _) PySem.F.entry_str_split (PySem.F.args_str_split_2 _ _) (meets_str_split_sep z y t t' h1 hy hf hz hz2) ?_
    show wants _ _ _ { s with toks:=_,heap:=s.heap.push { cls:=.type "list",data:=.seq (strsFrom s.toks (Builtin.Str.partsBetween z (Builtin.Str.occurrences z y 0 z.length (z.length+1)) y.length)).toArray } }
    rw [strsFrom_eq]
    exact key (numbered s.toks _) _ ((numbered_texts _ _).trans ((if_neg (ne_true_of_eq_false h1)).trans (if_neg (ne_true_of_eq_false hf))).symm)
   ·exact call_meets PySem.F.slot_str_split (typeIs_str _ _ _) PySem.F.entry_str_split (PySem.F.args_str_split_2 _ _) (meets_str_split_not_found z y t t' h1 hy hf)
     (key [(z,t)] s.toks ((if_neg (ne_true_of_eq_false h1)).trans (if_pos hf)).symm)
  ·exact call_meets PySem.F.slot_str_split (typeIs_str _ _ _) PySem.F.entry_str_split (PySem.F.args_str_split_2 _ _) (meets_str_split_cannot_occur z y t t' h1)
    (key [(z,t)] s.toks (if_pos h1).symm)
 | _=>cases e
end
noncomputable def Zq6 (h:Heap) (it:Addr) (x:Str) (i:Nat):Prop:=∃ t,h.IsStrIter it "str_ascii_iterator" x t i\/h.IsStrIter it "str_iterator" x t i
noncomputable def Its (x:Str):It:=⟨fun i _=>i < x.length,fun i H v H'=>H'=H/\∃ c,x.cps[i]?=some c/\v=.str ⟨#[c]⟩,fun i _=>x.length<=i⟩
theorem Zff {P:Program} {w:World} {K:Frag} {tg:Expr} (x:Str) (it:Addr):ZiZ P w K tg (Its x) [it] it (fun i h=>Zq6 h it x i) where
 mem:=by simp
 obj:=fun i h st b hb=>by
  have e:b=it:=by simpa using hb
  subst e
  obtain ⟨t,st⟩:=st
  rcases st with ⟨o,e,c,d⟩ | ⟨o,e,c,d⟩
  ·exact ⟨o,e,fun v z=>by rw [d] at z; cases z⟩
  ·exact ⟨o,e,fun v z=>by rw [d] at z; cases z⟩
 keep:=fun i h h' st k=>by
  obtain ⟨t,st⟩:=st
  rcases st with ⟨o,e,r⟩ | ⟨o,e,r⟩
  ·exact ⟨t,.inl ⟨o,k it (by simp) o e,r⟩⟩
  ·exact ⟨t,.inr ⟨o,k it (by simp) o e,r⟩⟩
 item:=by
  intro X hP hw hK hc i pins s σ H E I hf st hg
  subst hP hw hK
  have hg:i < x.cps.size:=hg
  have hx:x.cps[i]?=some x.cps[i]:=by simp [hg]
  obtain ⟨f0,f1,f2,f3,f4,f5⟩:=hf it (by simp)
  obtain ⟨t,st⟩:=st
  rcases st with st | st
  ·refine wpAny_pyNext_ascii_item st hx fun h' st' sb=>?_
   have I1:Inv X pins σ H { s with heap:=h',toks:=s.toks+1 }:=I.turned (t':=s.toks+1) (fun b o hb e=>(sb.2 b hb).trans e) f0 f1 f3 f4 f5
   obtain ⟨o,e,c,d⟩:=id st'
   exact ⟨_,rfl,Zih (s:={ s with heap:=h',toks:=s.toks+1 }) e c d (by decide) ⟨.str ⟨#[x.cps[i]]⟩,H,I1,⟨_,rfl⟩,⟨rfl,_,hx,rfl⟩,⟨t,.inl st'⟩,fun b hb=>(hf b hb).1⟩⟩
  ·refine wpAny_pyNext_wide_item st hx fun h' st' sb=>?_
   have I1:Inv X pins σ H { s with heap:=h',toks:=s.toks+1 }:=I.turned (t':=s.toks+1) (fun b o hb e=>(sb.2 b hb).trans e) f0 f1 f3 f4 f5
   obtain ⟨o,e,c,d⟩:=id st'
   exact ⟨_,rfl,Zih (s:={ s with heap:=h',toks:=s.toks+1 }) e c d (by decide) ⟨.str ⟨#[x.cps[i]]⟩,H,I1,⟨_,rfl⟩,⟨rfl,_,hx,rfl⟩,⟨t,.inr st'⟩,fun b hb=>(hf b hb).1⟩⟩
 done:=by
  intro X hP hw hK hc i pins s σ H E I hf st hg
  subst hP hw hK
  have hg:x.cps.size<=i:=hg
  have hx:x.cps[i]?=none:=by simp [hg]
  obtain ⟨f0,f1,f2,f3,f4,f5⟩:=hf it (by simp)
  obtain ⟨t,st⟩:=st
  rcases st with st | st
  ·exact wpAny_pyNext_ascii_end (I.ok.hd hc) st hx fun h' eb=>⟨rfl,I.turned (t':=s.toks) (fun b o hb e=>eb b o hb e) f0 f1 f3 f4 f5⟩
  ·exact wpAny_pyNext_wide_end (I.ok.hd hc) st hx fun h' eb=>⟨rfl,I.turned (t':=s.toks) (fun b o hb e=>eb b o hb e) f0 f1 f3 f4 f5⟩
 self:=fun _ _ _ _ _ st h=>by
  obtain ⟨t,st⟩:=st
  rcases st with st | st
  ·exact wpAny_pyIter_striter_ascii st h
  ·exact wpAny_pyIter_striter_wide st h
section
variable {X:Cx} {pos:Pos} {tg l:Expr} {f:DE}
noncomputable def ZqQ (tl:TE):TI:=fun σ H R=>tl σ H fun v H1=>∃ x,v=.str x/\R (Its x) H1
theorem Znq {tl:TE} (hl:PE X l tl):PI X tg l (ZqQ tl):=by
 intro pins s σ H R I h
 refine thn (hl pins s σ H _ I h) fun v s1 zq=>?_
 obtain ⟨xv,H1,I1,r1,x,e,q⟩:=zq
 subst e
 obtain ⟨t,rfl⟩:=r1
 cases ha:x.cps.all (· < 128)
 ·exact wpAny_pyIter_wide ha ⟨_,[s1.heap.objs.size],_,Its x,H1,rfl,I1.kept (t':=s1.toks) (fun b ob q=>Heap.get?_push_of_some _ q),Zff x _,⟨t,.inr ⟨_,Heap.get?_push_size _ rfl,rfl,rfl⟩⟩,fun b hb=>by
   rw [List.mem_singleton] at hb; subst hb
   exact I1.fpOk (Nat.le_refl _) (I1.hok.fresh (Nat.le_refl _)),q⟩
 ·exact wpAny_pyIter_ascii ha ⟨_,[s1.heap.objs.size],_,Its x,H1,rfl,I1.kept (t':=s1.toks) (fun b ob q=>Heap.get?_push_of_some _ q),Zff x _,⟨t,.inl ⟨_,Heap.get?_push_size _ rfl,rfl,rfl⟩⟩,fun b hb=>by
   rw [List.mem_singleton] at hb; subst hb
   exact I1.fpOk (Nat.le_refl _) (I1.hok.fresh (Nat.le_refl _)),q⟩
noncomputable def chD (x:Str):List D:=x.cps.toList.map fun c=>.str ⟨#[c]⟩
noncomputable def ZcX (f:DE):DI:=fun ρ=>(f ρ).bind fun d=>match d with | .str x=>some (chD x) | _=>none
theorem ZkN (hl:ED X l f):ID X tg l (ZcX f):=PI.imp (Znq hl) fun σ H R zq=>by
 obtain ⟨ρ,F0,H0,F,xs,ok,ex,q⟩:=zq
 obtain ⟨d,ed,ex⟩:=bind_some ex
 refine ⟨ρ,F0,H0,F,d,ok,ed,fun v F1 H1 g1 r1=>?_⟩
 split at ex
 ·rename_i x
  cases ex
  unfold Rep at r1
  refine ⟨x,r1,q _ F1 H1 g1 fun F' H' _=>⟨fun i d hd=>?_,fun i hi=>?_⟩⟩
  ·unfold chD at hd
   rw [List.getElem?_map] at hd
   obtain ⟨c,ec,rfl⟩:=map_some hd
   have hi:i < x.cps.size:=by have:=(List.getElem?_eq_some_iff.mp ec).1; simpa using this
   refine ⟨hi,fun v H'' zq=>?_⟩
   obtain ⟨eH,c',ec',ev⟩:=zq
   subst eH ev
   have:c'=c:=by
    have e1:x.cps[i]?=some c:=by simpa using ec
    rw [e1] at ec'; cases ec'; rfl
   subst this
   exact ⟨F',.refl,by unfold Rep; rfl⟩
  ·have:x.cps.size<=i:=by simpa [chD] using hi
   exact this
 ·cases ex
end
end L3
namespace L3
open PySem
theorem J6 (x y d:D) (h:Yg x y=some d):∃ z,x=.str z:=by
 cases x with
 | str z=>exact ⟨z,rfl⟩
 | _=>cases h
theorem UA (x y d:D) (h:JC x y=some d):∃ z,x=.str z:=by
 cases x with
 | str z=>exact ⟨z,rfl⟩
 | _=>cases h
theorem Znj (x y d:D) (h:Za8 x y=some d):∃ z,x=.str z:=by
 cases x with
 | str z=>exact ⟨z,rfl⟩
 | _=>cases h
end L3
namespace L3
open PySem PySem.Spec PyProof.Rows L2
noncomputable def Ex0 (h:Heap) (e C:Addr):Prop:=∃ oe vs,h.get? e=some oe/\oe.cls=.ref C/\oe.dict=none/\oe.data=.fields vs/\vs[1]?=some .none
noncomputable def Ex1 (h:Heap) (e C T:Addr):Prop:=∃ oe vs oT ts,h.get? e=some oe/\oe.cls=.ref C/\oe.dict=none/\oe.data=.fields vs/\vs[1]?=some (.ref T)/\T≠e/\h.get? T=some oT/\oT.data=.fields ts/\ts[3]?=some .none
noncomputable def Zkl (fs:List Addr) (h h':Heap) (P:Addr->Prop):Prop:=∀ b o,h.get? b=some o->¬ P b->(b ∉ fs->h'.get? b=some o)/\∃ sl,h'.get? b=some { o with slots:=sl }
theorem Vj (f:Array Value->Array Value) (o:Obj):(Obj.mapFields f o).dict=o.dict:=by
 unfold Obj.mapFields
 split <;> rfl
section
variable {M:Model} {A:Around} {E:Value->Shared->Prop} {s:Shared} {base:Heap} {env:Env} {outer:List Env} {L e C:Addr} {Q:Unit->Shared->Prop}
theorem ZdS {head:Value} {hadNext:Bool} {oe:Obj} {vs:Array Value} (hfr:A.frames=some (env::outer)) (hl:s.heap.FunFrames base (env::outer)) (hf:env.frame=some L) (he:s.heap.get? e=some oe) (hcl:oe.cls=.ref C) (hdi:oe.dict=none)
  (hd:oe.data=.fields vs) (hsz:1 < vs.size)
  (h:∀ h' T,Zkl (frs (env::outer)) s.heap h' (·=e)->Ex1 h' e C T->s.heap.get? T=none->h'.FunFrames base (env::outer)->s.heap.objs.size<=h'.objs.size->Q () { s with heap:=h' }) :
  wpAny M A (do let a <- frameOf env; let pl <- entryPlaceOf L hadNext; let b <- EntryCells.newEntry head a .none (rawInt L) .none pl; setField (.ref e) 1 b) (fun _ s'=>wpAny M A (setFlight (.ref e) none) Q E s') E s:=by
 have hene:e ∉ frs (env::outer):=fun hm=>by
  obtain ⟨_,o,ho,hnf⟩:=hl.mem hm
  rw [he] at ho; cases ho; exact hnf vs hd
 refine wpAny_bind (wpAny_frameOf_fun hfr hl hf fun h1 so=>wpAny_bind (wpAny_entryPlaceOf fun pl hpl=>?_))
 unfold EntryCells.newEntry newFields
 refine wpAny_bind (wpAny_newObj_type ?_ (hpl.sizeOk5 _ _ _ _ _) )
 have he1:h1.get? e=some oe:=(so.2.1 e hene).trans he
 generalize hTo:({ cls:=.type "traceback",dict:=none,data:=.fields ([head,.ref L,.none,rawInt L,.none]++(if pl.isEmpty then List.replicate 6 Value.none else pl)).toArray }:Obj)=oT
 have hTd:oT.data=.fields ([head,.ref L,.none,rawInt L,.none]++(if pl.isEmpty then List.replicate 6 Value.none else pl)).toArray:=by rw [<-hTo]
 have hTf:oT.isFreed=false:=Obj.isFreed_of_fields hTd
 have he2:(h1.push oT).get? e=some oe:=Heap.get?_push_of_some _ he1
 refine wpAny_setField he2 hd hsz ?_
 have hTe:h1.objs.size≠e:=Nat.ne_of_gt (Heap.lt_size he1)
 have hd3:=Obj.data_mapFields hd (·.setIfInBounds 1 (Value.ref h1.objs.size))
 have he3:=Heap.get?_update_self (Obj.mapFields (·.setIfInBounds 1 (Value.ref h1.objs.size))) he2 (Obj.isFreed_of_fields hd3)
 have hT3:((h1.push oT).update e (Obj.mapFields (·.setIfInBounds 1 (Value.ref h1.objs.size)))).get? h1.objs.size=some oT:=(Heap.get?_update_other _ _ (Ne.symm hTe)).trans (Heap.get?_push_size h1 hTf)
 unfold setFlight
 refine wpAny_bind (wpAny_field he3 hd3 (x:=.ref h1.objs.size) (by simp [hsz]) ?_)
 rw [if_pos (show (Value.ref h1.objs.size != Value.none)=true by simp)]
 refine wpAny_setField hT3 hTd (by simp only [List.size_toArray,List.length_append,List.length_cons,List.length_nil]; omega) ?_
 have hz:h1.objs.size=s.heap.objs.size:=so.1
 have keep:∀ b o,b≠e->h1.get? b=some o->(((h1.push oT).update e (Obj.mapFields (·.setIfInBounds 1 (Value.ref h1.objs.size)))).update h1.objs.size (Obj.mapFields (·.setIfInBounds 3 ((none:Option Addr).elim Value.none fun f=>rawInt f)))).get? b=some o:=fun b o hb eb=>by
  have hbT:h1.objs.size≠b:=Nat.ne_of_gt (Heap.lt_size eb)
  rw [Heap.get?_update_other _ _ hbT,Heap.get?_update_other _ _ (Ne.symm hb)]
  exact Heap.get?_push_of_some _ eb
 refine h _ h1.objs.size (fun b o eb hb=>?_) ⟨_,_,_,_,?_,(Obj.cls_mapFields _ _).trans hcl,(Vj _ _).trans hdi,hd3,by simp [hsz],hTe,Heap.get?_update_self _ hT3 (Obj.isFreed_of_fields (Obj.data_mapFields hTd _)),Obj.data_mapFields hTd _,by simp⟩ (by rw [hz]; exact Heap.get?_none_of_le (Nat.le_refl _)) ?_ ?_
 ·refine ⟨fun hbf=>keep b o hb ((so.2.1 b hbf).trans eb),?_⟩
  obtain ⟨sl,e1⟩:=so.2.2 b o eb
  exact ⟨sl,keep b _ hb e1⟩
 ·rw [Heap.get?_update_other _ _ hTe]; exact he3
 ·refine hl.of_keeps fun b o eb hnf=>?_
  obtain ⟨sl,e1⟩:=so.2.2 b o eb
  exact ⟨_,keep b _ (fun z=>by rw [z,he] at eb; cases eb; exact hnf vs hd) e1,rfl⟩
 ·rw [Heap.size_update,Heap.size_update,Heap.size_push,hz]; exact Nat.le_succ _
theorem Zgk (hfr:A.frames=some (env::outer)) (hl:s.heap.FunFrames base (env::outer)) (hf:env.frame=some L) (x:Ex0 s.heap e C)
  (h:∀ h' T,Zkl (frs (env::outer)) s.heap h' (·=e)->Ex1 h' e C T->s.heap.get? T=none->h'.FunFrames base (env::outer)->s.heap.objs.size<=h'.objs.size->Q () { s with heap:=h' }) :
  wpAny M A (noteFrame (.ref e) env) (fun _ s'=>wpAny M A (setFlight (.ref e) none) Q E s') E s:=by
 obtain ⟨oe,vs,he,hc,hdi,hd,h1⟩:=x
 unfold noteFrame
 simp only [hf]
 refine wpAny_bind (wpAny_field he hd h1 ?_)
 rw [if_neg (by decide)]
 exact ZdS hfr hl hf he hc hdi hd (Array.getElem?_eq_some_iff.mp h1).1 h
theorem ZdC {T:Addr} (hfr:A.frames=some (env::outer)) (hl:s.heap.FunFrames base (env::outer)) (hf:env.frame=some L) (x:Ex1 s.heap e C T)
  (h:∀ h' T',Zkl (frs (env::outer)) s.heap h' (fun b=>b=e\/b=T)->Ex1 h' e C T'->s.heap.get? T'=none->h'.FunFrames base (env::outer)->s.heap.objs.size<=h'.objs.size->Q () { s with heap:=h' }) :
  wpAny M A (noteFrame (.ref e) env) (fun _ s'=>wpAny M A (setFlight (.ref e) none) Q E s') E s:=by
 obtain ⟨oe,vs,oT,ts,he,hc,hdi,hd,h1,hTe,hT,hTd,h3⟩:=x
 unfold noteFrame
 simp only [hf]
 refine wpAny_bind (wpAny_field he hd h1 ?_)
 rw [if_pos (show (Value.ref T != Value.none)=true by simp)]
 refine wpAny_bind (wpAny_field hT hTd h3 ?_)
 rw [if_neg (show ¬ ((Value.none==rawInt L)=true) by simp [rawInt])]
 refine wpAny_bind (wpAny_setField hT hTd (Array.getElem?_eq_some_iff.mp h3).1 ?_)
 have oth:∀ b,b≠T->(s.heap.update T (Obj.mapFields (·.setIfInBounds 3 Value.none))).get? b=s.heap.get? b:=fun b hb=>Heap.get?_update_other _ _ (Ne.symm hb)
 have hsz:(s.heap.update T (Obj.mapFields (·.setIfInBounds 3 Value.none))).objs.size=s.heap.objs.size:=Heap.size_update ..
 have hl':(s.heap.update T (Obj.mapFields (·.setIfInBounds 3 Value.none))).FunFrames base (env::outer):=hl.of_keeps fun b o eb hnf=>⟨o,(oth b fun z=>by rw [z,hT] at eb; cases eb; exact hnf ts hTd).trans eb,rfl⟩
 refine ZdS (s:={ s with heap:=s.heap.update T (Obj.mapFields (·.setIfInBounds 3 Value.none)) }) hfr hl' hf ((oth e (Ne.symm hTe)).trans he) hc hdi hd (Array.getElem?_eq_some_iff.mp h1).1 fun h' T' st ex ht ff hz=>?_
 refine h h' T' (fun b o eb hb=>?_) ex ?_ ff (by rw [<-hsz]; exact hz)
 ·have:=st b o ((oth b fun z=>hb (.inr z)).trans eb) fun z=>hb (.inl z)
  exact this
 ·cases q:s.heap.get? T' with
  | none=>rfl
  | some o'=>
   by_cases z:T'=T
   ·subst z
    have:=Heap.get?_update_self (Obj.mapFields (·.setIfInBounds 3 Value.none)) hT (Obj.isFreed_of_fields (Obj.data_mapFields hTd _))
    rw [this] at ht; cases ht
   ·have:=oth T' z
    rw [q] at this
    rw [this] at ht; cases ht
end
section
variable {P:Program} {w:World} {H H':Hp} {h h' h'':Heap} {a:Addr} {o:HO} {fs:List Addr}
theorem Zgj (x:ObjOk P w H h a o):∃ u,h.get? a=some u:=by
 cases o with
 | lst xs=>obtain ⟨_,_,_,_,e⟩:=x; exact ⟨_,e⟩
 | tup xs=>obtain ⟨_,_,_,_,e,_⟩:=x; exact ⟨_,e⟩
 | dK kvs=>obtain ⟨_,_,_,_,o,_,_,e,_⟩:=x; exact ⟨_,e⟩
 | dT kvs=>obtain ⟨_,_,_,_,o,_,_,e,_⟩:=x; exact ⟨_,e⟩
 | set S n=>obtain ⟨o,_,_,_,e,_⟩:=x; exact ⟨_,e⟩
 | ins C dx fs=>obtain ⟨_,_,_,e,_⟩:=x; exact ⟨_,e⟩
 | own y=>obtain ⟨_,e⟩:=x; exact ⟨_,e⟩
 | xd fs=>obtain ⟨_,⟨_,_,_,e,_⟩,_⟩:=x; exact ⟨_,e⟩
 | rng lo hi=>obtain ⟨_,_,_,e⟩:=x; exact ⟨_,e⟩
 | frz ob u=>obtain ⟨e,_⟩:=x; exact ⟨_,e⟩
 | tbl ps=>exact ⟨_,(show h.get? a=some _ from x)⟩
 | met f y=>exact ⟨_,(show h.get? a=some _ from x)⟩
 | ext φ=>obtain ⟨_,⟨_,e⟩,_⟩:=x; exact ⟨_,e⟩
theorem U0 (x:HOk P w H h) (e:h.get? a=none):H a=none:=by
 cases q:H a with
 | none=>rfl
 | some u=>
  obtain ⟨v,z⟩:=Zgj (x a u q)
  rw [e] at z; cases z
theorem JW (u:Un fs [] H H' h h') (e:h'.get? a=none):h.get? a=none:=by
 cases q:h.get? a with
 | none=>rfl
 | some o=>
  obtain ⟨o',z⟩:=u.there a o q (by simp)
  rw [e] at z; cases z
theorem Zct {R:Addr->Prop} (u:Un fs [] H H' h h') (ok:HOk P w H' h') (fr:∀ b∈fs,H' b=none) (st:Zkl fs h' h'' R) (hR:∀ b,R b->H' b=none/\h.get? b=none):Un fs [] H H' h h''/\HOk P w H' h'':=by
 have nR:∀ b o,h.get? b=some o->¬ R b:=fun b o e z=>by rw [(hR b z).2] at e; cases e
 have nT:∀ b o,H' b=some o->¬ R b:=fun b o e z=>by rw [(hR b z).1] at e; cases e
 refine ⟨⟨fun b o q n hb hx=>(st b o (u.keep b o q n hb hx) (nR b o q)).1 hb,fun b o q n hb hx=>?_,u.free,fun b o q hx=>?_,u.tups,u.frzs,u.tbls⟩,fun b o q=>?_⟩
 ·obtain ⟨sl,e1⟩:=u.slot b o q n hb hx
  obtain ⟨sl',e2⟩:=(st b _ e1 (nR b o q)).2
  exact ⟨sl',e2⟩
 ·obtain ⟨o',e1⟩:=u.there b o q hx
  obtain ⟨sl',e2⟩:=(st b _ e1 (nR b o q)).2
  exact ⟨_,e2⟩
 ·refine (ok b o q).stay (fun c v hc e=>?_) (fun _ z=>z) fun _ _ z=>z
  have hc':∃ u,H' c=some u:=by
   rcases hc with rfl | hc
   ·exact ⟨_,q⟩
   ·exact ⟨_,hc⟩
  obtain ⟨u',hu⟩:=hc'
  exact (st c v e (nT c u' hu)).1 fun z=>by rw [fr c z] at hu; cases hu
end
noncomputable def CX1 (P:Program) (w:World) (C:Addr):CXT:=fun outer H s E e s'=>∃ ea T H',e=.ref ea/\s'.os=s.os/\AllBare s'.gens/\Un (frs outer) [] H H' s.heap s'.heap/\HOk P w H' s'.heap/\H' ea=none/\H' T=none/\s.heap.get? ea=none/\s.heap.get? T=none/\Ex1 s'.heap ea C T/\E (.ref C) none H'
section
variable {X:Cx} {pins:List (Addr×Obj)} {σ:L2.St} {H:Hp} {s s':Shared} {E:XK} {C:Addr} {M:Model}
theorem ZeQ {h':Heap} {e:Addr} {args:List Value} (I:Inv X pins σ H s) (hx:X.ex=[]) (hs:X.stack=X.env::X.outer) (hf:X.env.frame=some X.env.locals) (hm:Heap.MadeExcOf s.heap h' e (.ref C) args) (hw:E (.ref C) none H) :
  wpAny M X.A (leaving X.env (.ref e)) (fun _ s''=>CX1 X.prog X.w C X.outer X.H₀ X.s₀ E (.ref e) s'') (fun e' s''=>CX1 X.prog X.w C X.outer X.H₀ X.s₀ E e' s'') { s with heap:=h' }:=by
 have hfr:X.A.frames=some (X.env::X.outer):=by rw [<-hs]; exact I.ok.frames
 have hl:s.heap.FunFrames X.base (X.env::X.outer):=by rw [<-hs]; exact I.stack
 have hl':h'.FunFrames X.base (X.env::X.outer):=hl.of_keeps fun b o eb _=>⟨o,hm.keeps b o eb,rfl⟩
 have u0:Un (frs X.stack) [] H H s.heap h':=Un.kept hm.keeps
 have ok0:HOk X.prog X.w H h':=I.hok.kept hm.keeps
 have He:H e=none:=U0 I.hok hm.new
 unfold leaving
 refine wpAny_bind (Zgk (C:=C) (s:={ s with heap:=h' }) hfr hl' hf ?_ fun h'' T st ex hT _ _=>?_)
 ·obtain ⟨t,he,_⟩:=hm.there
  exact ⟨_,_,he,rfl,rfl,rfl,rfl⟩
 ·rw [<-hs] at st
  obtain ⟨u2,ok2⟩:=Zct u0 ok0 I.stkFree st fun b z=>by subst z; exact ⟨He,hm.new⟩
  have J:Inv X pins σ H { s with heap:=h'' }:=I.call' (s':={ s with heap:=h'' }) (ch:=[]) rfl u2 ok2 I.bare (fun b z=>nomatch z)
  have b0:=I.base
  have b1:=J.base
  rw [hx] at b0 b1
  have sT:=JW u0 hT
  exact ⟨e,T,H,rfl,I.os,I.bare,b1,ok2,He,U0 I.hok sT,JW b0 hm.new,JW b0 sT,ex,hw⟩
theorem Zgo {e:Value} (I:Inv X pins σ H s) (hx:X.ex=[]) (hs:X.stack=X.env::X.outer) (hf:X.env.frame=some X.env.locals) (c:CX1 X.prog X.w C X.stack H s E e s') :
  wpAny M X.A (leaving X.env e) (fun _ s''=>CX1 X.prog X.w C X.outer X.H₀ X.s₀ E e s'') (fun e' s''=>CX1 X.prog X.w C X.outer X.H₀ X.s₀ E e' s'') s':=by
 obtain ⟨ea,T,H',rfl,os,bare,u,ok,He,HT,se,sT,ex,hw⟩:=c
 have hfr:X.A.frames=some (X.env::X.outer):=by rw [<-hs]; exact I.ok.frames
 have J:Inv X pins σ H' s':=I.call' (ch:=[]) os u ok bare (fun b z=>nomatch z)
 have hl:s'.heap.FunFrames X.base (X.env::X.outer):=by rw [<-hs]; exact J.stack
 unfold leaving
 refine wpAny_bind (ZdC hfr hl hf ex fun h'' T' st ex' hT' _ _=>?_)
 rw [<-hs] at st
 obtain ⟨u2,ok2⟩:=Zct u ok J.stkFree st fun b z=>by
  rcases z with z | z
  ·subst z; exact ⟨He,se⟩
  ·subst z; exact ⟨HT,sT⟩
 have J2:Inv X pins σ H' { s' with heap:=h'' }:=I.call' (s':={ s' with heap:=h'' }) (ch:=[]) os u2 ok2 bare (fun b z=>nomatch z)
 have b0:=I.base
 have b1:=J2.base
 rw [hx] at b0 b1
 exact ⟨ea,T',H',rfl,J.os,bare,b1,ok2,He,U0 ok hT',JW b0 se,JW b0 (JW u hT'),ex',hw⟩
theorem ZhU {e:Value} {Q:Unit->Shared->Prop} {E':Value->Shared->Prop} (I:Inv X pins σ H s) (hs:X.stack=X.env::X.outer) (hf:X.env.frame=some X.env.locals) (c:CX1 X.prog X.w C X.stack H s E e s')
  (h:∀ s'',CX1 X.prog X.w C X.stack H s E e s''->Q () s''):wpAny M X.A (noteFrame e X.env) (fun _ s2=>wpAny M X.A (setFlight e none) Q E' s2) E' s':=by
 obtain ⟨ea,T,H',rfl,os,bare,u,ok,He,HT,se,sT,ex,hw⟩:=c
 have hfr:X.A.frames=some (X.env::X.outer):=by rw [<-hs]; exact I.ok.frames
 have J:Inv X pins σ H' s':=I.call' (ch:=[]) os u ok bare (fun b z=>nomatch z)
 have hl:s'.heap.FunFrames X.base (X.env::X.outer):=by rw [<-hs]; exact J.stack
 refine ZdC hfr hl hf ex fun h'' T' st ex' hT' _ _=>?_
 rw [<-hs] at st
 obtain ⟨u2,ok2⟩:=Zct u ok J.stkFree st fun b z=>by
  rcases z with z | z
  ·subst z; exact ⟨He,se⟩
  ·subst z; exact ⟨HT,sT⟩
 exact h _ ⟨ea,T',H',rfl,os,bare,u2,ok2,He,U0 ok hT',se,JW u hT',ex',hw⟩
theorem ZeX {A:Around} {e:Value} {Q:Unit->Shared->Prop} {E':Value->Shared->Prop} (I:Inv X pins σ H s) (c:CX1 X.prog X.w C X.stack H s E e s')
  (h:∀ s'',CX1 X.prog X.w C X.stack H s E e s''->Q () s''):wpAny M A (setFlight e none) Q E' s':=by
 obtain ⟨ea,T,H',rfl,os,bare,u,ok,He,HT,se,sT,ex,hw⟩:=c
 have J:Inv X pins σ H' s':=I.call' (ch:=[]) os u ok bare (fun b z=>nomatch z)
 obtain ⟨oe,vs,oT,ts,he,hc,hdi,hd,h1,hTe,hT,hTd,h3⟩:=ex
 have hsz:=(Array.getElem?_eq_some_iff.mp h3).1
 have oth:∀ b,b≠T->(s'.heap.update T (Obj.mapFields (·.setIfInBounds 3 Value.none))).get? b=s'.heap.get? b:=fun b hb=>Heap.get?_update_other _ _ (Ne.symm hb)
 refine wpAny_setFlight_none he hd h1 hT hTd hsz ?_
 obtain ⟨u2,ok2⟩:=Zct (R:=(·=T)) (h'':=s'.heap.update T (Obj.mapFields (·.setIfInBounds 3 Value.none))) u ok J.stkFree (fun b o e hb=>⟨fun _=>(oth b hb).trans e,o.slots,(oth b hb).trans e⟩) fun b z=>by subst z; exact ⟨HT,sT⟩
 exact h _ ⟨ea,T,H',rfl,os,bare,u2,ok2,He,HT,se,sT,⟨oe,vs,_,_,(oth ea (Ne.symm hTe)).trans he,hc,hdi,hd,h1,hTe,Heap.get?_update_self _ hT (Obj.isFreed_of_fields (Obj.data_mapFields hTd _)),Obj.data_mapFields hTd _,by simp [hsz]⟩,hw⟩
end
end L3
namespace L3
open PySem PySem.Spec PyProof.Rows L2 PySem.W
section
variable {prog:Program} {w:World} {A:Around} {E:Value->Shared->Prop} {s:Shared} {K:Frag} {x D:Addr} {ox:Obj}
theorem Zis {h:Heap} {g:Array GenState} {d:Drawn} {t:Nat} {os:OsState} {M:Model} {nameV:Value} {Q:Unit->Shared->Prop} (L:Looks M h (isInstance (.ref x) (.type "BaseException")) true) (hq:Q () ⟨h,g,d,t,os⟩) :
  wpAny M A (checkBuiltinCall "BaseException.__getattribute__" ⟨[.ref x,nameV],[]⟩) Q E ⟨h,g,d,t,os⟩:=by
 have hk:builtinKind "BaseException.__getattribute__"=some .slot:=by decide +kernel
 have hsplit:splitId "BaseException.__getattribute__"=some ("BaseException","__getattribute__"):=by decide +kernel
 have ha:=F.args_bexc_ga (.ref x) nameV
 simp only [checkBuiltinCall,hk,hsplit]
 refine wpAny_bind (L.at ?_)
 repeat (first | wp_step)
 exact hq
theorem Zir {Q:Option Value->Shared->Prop} (hga:findIn K (.ref D) "__getattribute__"=some (some (.builtin "BaseException.__getattribute__"))) (hgt:findIn K (.ref D) "__getattr__"=some none) (hb:mroIn K D (.type "BaseException")=some true)
  (ha:findIn K (.ref D) "__class__"=some (some (.builtin "object.__class__"))) (hn:specialIn K (.builtin "object.__class__") "__get__"=some (some (.builtin "getset_descriptor.__get__"))) (htk:takesIn K (.builtin "object.__class__")=some true) (hm:mroIn K D (.type "object")=some true)
  (X:K.In s.heap) (I:InstAt s.heap x ox D none) (h:Q (some (.ref D)) { s with toks:=s.toks+1 }):wpAny (model prog w) A (getAttr? (.ref x) "__class__") Q E s:=by
 obtain ⟨hh,g,d,t,os⟩:=s
 have L0:=I.type (M:=model prog w)
 have L1:=looks_findIn (M:=model prog w) X hga
 have L2:=looks_findIn (M:=model prog w) X hgt
 have L3:=looks_findIn (M:=model prog w) X ha
 have L4:=looks_specialIn (M:=model prog w) X hn
 have L5:=looks_takesIn (M:=model prog w) X htk
 have L6:=looks_mroIn (M:=model prog w) X hb
 unfold getAttr? getAttrBy? getAttrBy
 refine wpAny_bind (wpAny_mkText (wpAny_bind (wpAny_attempt (wpAny_holding (wpAny_bind (L0.at (wpAny_bind (L1.at ?_))))))))
 show wpAny _ _ (getAttrByItsOwn _ _ _ _ _ _) _ _ _
 unfold getAttrByItsOwn hookBefore callGetattribute
 refine wpAny_bind ?_
 show wpAny _ _ (typeLookup (.ref D) "__getattr__") _ _ _
 refine L2.at ?_
 refine wpAny_bind (wpAny_attempt (wpAny_holding ?_))
 show wpAny _ _ (boundAndCalled _ _ _) _ _ _
 unfold boundAndCalled
 refine wpAny_bind (wpAny_of_eq (F.excAttr_ValueError.ga.bind (.ref x)) ?_)
 have LI:Looks (model prog w) hh (isInstance (.ref x) (.type "BaseException")) true:=L0.andThen L6
 refine wpAny_call (codeAny_call_builtin F.excAttr_ValueError.ga.plain F.entry_bexc_ga ?_)
 refine Zis LI ?_
 have hf:findObj K D none "__class__"=some (.bind (.builtin "getset_descriptor.__get__") (.builtin "object.__class__")):=by
  obtain ⟨cd,hc,_⟩:=Option.bind_eq_some_iff.mp hm
  unfold findObj
  rw [hc,Option.bind_some,ha,Option.bind_some]
  simp [hn,htk]
 have LF:=looks_find (M:=model prog w) X I hf
 show wpAny _ _ (Builtin.«object.__getattribute__» _) _ _ _
 unfold Builtin.«object.__getattribute__»
 refine wpAny_bind (wpAny_pure ?_)
 dsimp only
 refine wpAny_bind (wpAny_pure ?_)
 refine wpAny_bind (L0.at (wpAny_bind (LF.at ?_)))
 dsimp only
 unfold Builtin.ObjectAttr.bindTo
 dsimp only
 refine wpAny_bind (wpAny_holding (wpAny_call (class_get (s:=⟨hh,g,d,t+1,os⟩) (ox:=ox) (od:=none) X I hm ?_)))
 refine wpAny_pure ?_
 show wpAny _ _ (handedOut (.ref D)) _ _ _
 exact wpAny_pure (wpAny_pure h)
theorem ZjP (hga : findIn K (.ref D) "__getattribute__" = some (some (.builtin "BaseException.__getattribute__"))) (hgt : findIn K (.ref D) "__getattr__" = some none) (hb : mroIn K D (.type "BaseException") = some true)
    (ha : findIn K (.ref D) "__class__" = some (some (.builtin "object.__class__"))) (hn : specialIn K (.builtin "object.__class__") "__get__" = some (some (.builtin "getset_descriptor.__get__"))) (htk : takesIn K (.builtin "object.__class__") = some true) (hm : mroIn K D (.type "object") = some true) :
    KitX K (.ref x) (.ref D) (fun h => InstAt h x ox D none) := by
  have cls : ∃ c d cd sl, K.lookup D = some ⟨c, d, .cls cd, sl⟩ := by
    obtain ⟨cd, hc, _⟩ := Option.bind_eq_some_iff.mp hm
    unfold clsIn at hc
    split at hc
    · rename_i c' d' cd' sl' ho
      exact ⟨c', d', cd', sl', ho⟩
    · cases hc
  obtain ⟨c', d', cd', sl', ho⟩ := cls
  exact { ty := fun _ _ _ I => I.type
          it := fun _ _ X _ => by
            intro A' Q' E' s' k q
            unfold isType loadHead
            exact wpAny_bind (wpAny_loadPart (k _ _ (X _ _ ho)) (wpAny_pure q))
          ne := fun h tp dd its n sl X htp => by
            refine Bool.eq_false_iff.mpr fun q => ?_
            have e : D = tp := Value.ref.inj (beq_iff_eq.mp q)
            subst e
            have z := (X _ _ ho).symm.trans htp
            cases z
          ca := fun X I k => Zir hga hgt hb ha hn htk hm X I k }
end
end L3
namespace L3
open PySem PySem.Spec PyProof.Rows L2
noncomputable abbrev Zk3 (K:Frag) (C:Addr):Prop:=PySem.W.excIn K C [.type "ValueError",.type "Exception",.type "BaseException",.type "object"] "ValueError.__new__"=true
theorem Ziq {K:Frag} {h:Heap} {C:Addr} {bmB:List Value} {newId:String} (X:K.In h) (q:PySem.W.excIn K C bmB newId=true) :
  ∃ bm N nm qn bs hdct sn sub ab col dd k0 k1 k2 k3 k5 mN,h.get? C=some (excClassObj nm qn C N bs bm hdct sn sub ab col dd k0 k1 k2 k3 k5 newId)/\h.Ns N mN/\mN "__init__"=none/\OwnTail h bmB bm:=by
 unfold PySem.W.excIn at q
 split at q
 ·rename_i dd cd sl ho
  split at q
  ·rename_i C' bm k0 k1 k2 k3 n k5 hm hs
   simp only [Bool.and_eq_true,beq_iff_eq,Bool.not_eq_true'] at q
   obtain ⟨⟨⟨⟨⟨rfl,rfl⟩,hdel⟩,ht⟩,hok⟩,hni⟩:=q
   obtain ⟨nm,bs,mro,ns,qn,hd,sn,sub,ab,col,del⟩:=cd
   dsimp only at hm hdel hok hni
   subst hm hdel
   obtain ⟨l⟩:=sl
   dsimp only at hs
   subst hs
   exact ⟨bm,ns,nm,qn,bs,hd,sn,sub,ab,col,dd,k0,k1,k2,k3,k5,_,X _ _ ho,.of_isNs (PySem.W.isNs_of_in X hok),PySem.W.nsMap_none_of_in X hok hni,PySem.W.tail_of_in X ht⟩
  ·cases q
 ·cases q
section
variable {X:Cx} {pins:List (Addr×Obj)} {σ:L2.St} {H:Hp} {s s':Shared} {C:Addr}
theorem Zaf {E:XK} {x:Str} {np cpos pos:Pos} {a:Expr} {es:List Expr} {t:TA} (hq:Zk3 X.K C) (hg:Gl X x) (hm:X.mg x=some (.ref C)) (hh:X.A.handled=none) (ha:PA X (a::es) t)
  (hxe:∀ pins σ H s h' e args,Inv X pins σ H s->Heap.MadeExcOf s.heap h' e (.ref C) args->E (.ref C) none H->X.xe (.ref e) { s with heap:=h' })
  (hd:(x==("__debug__":Str))=false:=by decide) (hbk:∃ y rest,backTo cpos (starEach (a::es) X.env)=(false,y)::rest:=by exact ⟨_,_,rfl⟩) (hpl:(backTo cpos (starEach (a::es) X.env)).any (·.1)=false:=by rfl) :
  PS X (.Raise (some (.Call (.Name x np) (a::es) [] cpos)) none pos) (fun _ σ H=>t σ H fun vs H1=>vs.length<=sizeLine/\E (.ref C) none H1):=by
 intro pins s σ H D I h
 obtain ⟨bm,N,nm,qn,bs,hdct,sn,sub,ab,col,dd,k0,k1,k2,k3,k5,mN,hC,hN,hni,TL⟩:=Ziq I.mod.kin hq
 refine wpAny_Raise_call_subU (nm:=nm) (q:=qn) (C:=C) (N:=N) (bs:=bs) (bm:=bm) (hdct:=hdct) (sn:=sn) (sub:=sub) (ab:=ab) (col:=col) (dd:=dd) (k0:=k0) (k1:=k1) (k2:=k2) (k3:=k3) (k5:=k5) PySem.F.excBase_ValueError (by decide) PySem.F.excBase_ValueError (TL.hasType (X:="BaseException") (by decide)) hh hpl hni (ZcV I hg hm ⟨rfl,?_⟩ hd)
 have hp:=ha cpos pins s σ H _ I h
 obtain ⟨y,rest,eb⟩:=hbk
 rw [eb] at hp ⊢
 refine Calls.evalArgs_plain (thn hp fun us s1 zq=>?_)
 obtain ⟨vs,H1,I1,r1,q1,q2⟩:=zq
 refine ⟨rfl,?_,I1.bk _ _ hC,hN.keeps I1.bk,TL.keeps I1.bk,fun h' e hm=>hxe pins σ H1 s1 h' e us I1 hm q2⟩
 show us.length<=sizeLine
 rw [<-r1.length]; exact q1
noncomputable abbrev ZmE (X:Cx) (e:Addr) (o:Obj) (pn:List (Addr×Obj)):Cx:={ X with A:=X.A.mark (some (.ref e)),calm:=false,pn:=(e,o)::pn,xe:=fun _ _=>False }
theorem ZjT {e:Addr} {o:Obj} (I:Inv X pins σ H s) (h:s.heap.get? e=some o/\H e=none/\e≠X.env.locals/\e ∉ X.fs/\∀ v,o.data≠.cell v):Inv (ZmE X e o (X.pn++pins)) [] σ H s:=
 ⟨⟨I.ok.mod,I.ok.kind,I.ok.glob,I.ok.blt,I.ok.above,I.ok.inj,I.ok.has,I.ok.cab,(fun z=>nomatch z),I.ok.frames,I.ok.stk,I.ok.exf,I.ok.bs,I.ok.bsz,I.ok.noex,I.ok.exfs,I.ok.funs,I.ok.frf⟩,
  I.os,I.bare,I.base,I.loc,I.cell,I.free,I.freeC,fun p hp=>by
   rw [List.append_nil] at hp
   rcases List.mem_cons.mp hp with rfl | hp
   ·exact h
   ·exact I.pin p hp,I.hok,I.len⟩
theorem Zgr {e:Addr} {o:Obj} {pins':List (Addr×Obj)} (ok:X.Ok) (I:Inv (ZmE X e o (X.pn++pins)) pins' σ H s):Inv X pins σ H s:=
 ⟨ok,I.os,I.bare,I.base,I.loc,I.cell,I.free,I.freeC,fun p hp=>I.pin p (List.mem_append_left _ (List.mem_cons_of_mem _ hp)),I.hok,I.len⟩
theorem Zh9 {h':Heap} {m':Str->Option Value} {tk:Nat} (I:Inv X pins σ H s) (hn:h'.Ns X.env.locals m') (hs:Heap.SameBut X.env.locals s.heap h'):Inv X pins (List.replicate X.N.length none) H { s with heap:=h',toks:=tk }:=by
 have neL:∀ b o,X.s₀.heap.get? b=some o->b≠X.env.locals:=fun b o e=>Nat.ne_of_lt (Nat.lt_of_lt_of_le (Heap.lt_size e) I.ok.above)
 refine ⟨I.ok,I.os,I.bare,⟨fun b o e n hb hx=>(hs.2 b (neL b o e)).trans (I.base.keep b o e n hb hx),fun b o e n hb hx=>?_,I.base.free,fun b o e hx=>?_,I.base.tups,I.base.frzs,I.base.tbls⟩,⟨m',hn,fun i x v _ e2 _=>?_⟩,fun x c e=>?_,I.free,I.freeC,fun p hp=>?_,fun b u e=>?_,by simp⟩
 ·obtain ⟨sl,e1⟩:=I.base.slot b o e n hb hx
  exact ⟨sl,(hs.2 b (neL b o e)).trans e1⟩
 ·obtain ⟨o',e1⟩:=I.base.there b o e hx
  exact ⟨o',(hs.2 b (neL b o e)).trans e1⟩
 ·rw [List.getElem?_replicate] at e2
  split at e2 <;> cases e2
 ·obtain ⟨v,z⟩:=I.cell x c e
  exact ⟨v,z.sameBut hs (I.cne x c e)⟩
 ·obtain ⟨e,n,ne,nf,d⟩:=I.pin p hp
  exact ⟨(hs.2 p.1 ne).trans e,n,ne,nf,d⟩
 ·refine (I.hok b u e).stay (fun c v hc q=>(hs.2 c ?_).trans q) (fun _ z=>z) fun _ _ z=>z
  rintro rfl
  rcases hc with rfl | hc
  ·rw [I.free] at e; cases e
  ·rw [I.free] at hc; cases hc
theorem Zno {i:Nat} {n c:Str} {np hp pos:Pos} {body suite:List Stmt} {b0:Stmt} {tb:XK->TS} {ts:Addr->TS} (hs:X.stack=X.env::X.outer) (hf:X.env.frame=some X.env.locals) (hq:Zk3 X.K C) (hg:Gl X c) (hm:X.mg c=some (.ref C))
  (hN:X.N.Nodup) (hi:X.N[i]?=some n) (hl:X.env.scope.names.lookup n=some .local)
  (hb:∀ (pn:List (Addr×Obj)) (W:Value->Shared->Prop) (E:XK),JS (CX1 X.prog X.w C) { X with pn:=pn,xe:=W } E->PSs { X with pn:=pn,xe:=W } body (tb E))
  (hsu:∀ (ea:Addr) (oe:Obj) (pn:List (Addr×Obj)),oe.cls=.ref C->oe.dict=none->(∃ vs,oe.data=.fields vs)->PSs (ZmE X ea oe pn) (b0::suite) (ts ea)) (hd:(c==("__debug__":Str))=false:=by decide) :
  PS X (.Try body [.ExceptHandler (some (.Name c np)) (some n) (b0::suite) hp] [] [] pos)
   (fun D σ H=>∃ E:XK,tb E { nx:=fun _ _=>False,rt:=fun _ _=>False } σ H/\∀ (σ':L2.St) (H':Hp) (ea:Addr),E (.ref C) none H'->σ'.length=X.N.length->ts ea { nx:=fun _ _=>False,rt:=D.rt } (σ'.set i (some (.ref ea))) H'):=by
 intro pins s σ H D I ⟨E,h1,h2⟩
 refine wpAny_Try_except ?_
 let W:Value->Shared->Prop:=fun e s'=>∃ pins' σ1 H1 s1,Inv { X with pn:=X.pn++pins } pins' σ1 H1 s1/\CX1 X.prog X.w C X.stack H1 s1 E e s'
 have I2:Inv { X with pn:=X.pn++pins,xe:=W } [] σ H s:=⟨⟨I.ok.mod,I.ok.kind,I.ok.glob,I.ok.blt,I.ok.above,I.ok.inj,I.ok.has,I.ok.cab,I.ok.hd,I.ok.frames,I.ok.stk,I.ok.exf,I.ok.bs,I.ok.bsz,I.ok.noex,I.ok.exfs,I.ok.funs,I.ok.frf⟩,
  I.os,I.bare,I.base,I.loc,I.cell,I.free,I.freeC,fun p hp=>I.pin p (by rw [List.append_nil] at hp; exact hp),I.hok,I.len⟩
 have hpass:JS (CX1 X.prog X.w C) { X with pn:=X.pn++pins,xe:=W } E:=fun pins' σ1 H1 s1 e s' J cx=>⟨pins',σ1,H1,s1,⟨⟨J.ok.mod,J.ok.kind,J.ok.glob,J.ok.blt,J.ok.above,J.ok.inj,J.ok.has,J.ok.cab,J.ok.hd,J.ok.frames,J.ok.stk,J.ok.exf,J.ok.bs,J.ok.bsz,J.ok.noex,J.ok.exfs,J.ok.funs,J.ok.frf⟩,
  J.os,J.bare,J.base,J.loc,J.cell,J.free,J.freeC,J.pin,J.hok,J.len⟩,cx⟩
 refine wpAny_mono (hb _ W E hpass [] s σ H _ I2 h1) (fun f s' q=>?_) (fun e s' q=>?_)
 ·cases f with
  | next=>obtain ⟨_,_,_,q⟩:=q; exact q.elim
  | brk=>obtain ⟨_,_,_,q⟩:=q; exact q.elim
  | cont=>obtain ⟨_,_,_,q⟩:=q; exact q.elim
  | ret u=>obtain ⟨_,_,_,_,_,q⟩:=q; exact q.elim
 ·obtain ⟨pins',σ1,H1,s1,J0,cx⟩:=q
  have J:Inv X pins σ1 H1 s1:=⟨I.ok,J0.os,J0.bare,J0.base,J0.loc,J0.cell,J0.free,J0.freeC,fun p hp=>J0.pin p (List.mem_append_left _ hp),J0.hok,J0.len⟩
  refine ZhU J hs hf cx fun s2 c2=>?_
  have hinv:∀ {s2:Shared} {e:Value},CX1 X.prog X.w C X.stack H1 s1 E e s2->∃ ea oe H',e=.ref ea/\E (.ref C) none H'/\s2.heap.get? ea=some oe/\oe.cls=.ref C/\oe.dict=none/\(∃ vs,oe.data=.fields vs)/\Inv (ZmE X ea oe (X.pn++pins)) [] σ1 H' s2:=by
   intro s2 e c2
   obtain ⟨ea,T,H',rfl,os,bare,u,ok,He,HT,se,sT,⟨oe,vs,oT,ts',he,hc,hdi,hdd,h1,_⟩,hw⟩:=c2
   have K2:Inv X pins σ1 H' s2:=J.call' (ch:=[]) os u ok bare (fun b z=>nomatch z)
   have nst:ea ∉ frs X.stack:=fun z=>by
    obtain ⟨_,o,ho,hnf⟩:=K2.stack.mem z
    rw [he] at ho; cases ho; exact hnf vs hdd
   have nst':ea ∉ X.env.locals::X.fs:=by
    rw [hs] at nst
    unfold frs at nst
    rw [List.filterMap_cons,hf] at nst
    exact nst
   exact ⟨ea,oe,H',rfl,hw,he,hc,hdi,⟨vs,hdd⟩,ZjT K2 ⟨he,He,fun z=>nst' (by rw [z]; exact List.mem_cons_self),fun z=>nst' (List.mem_cons_of_mem _ z),fun v z=>by rw [hdd] at z; cases z⟩⟩
  obtain ⟨ea,oe,H2,rfl,_,he,hc,_,_,Kh⟩:=hinv c2
  obtain ⟨bm,N,nm,qn,bs,hdct,sn,sub,ab,col,dd,k0,k1,k2,k3,k5,mN,hC,hNs,hni,TL⟩:=Ziq Kh.kIn hq
  refine wpAny_handleBy_cons (codeAny_handlers_test (ZcV Kh hg hm ?_ hd)) (by intro q; cases q)
  obtain ⟨hh2,g2,d2,t2,os2⟩:=s2
  refine wpAny_excMatches_sub_self hC he hc (TL.hasType (X:="BaseException") (by decide)) (codeAny_handlers_suite_as ?_)
  refine ZeX J c2 fun s3 c3=>?_
  obtain ⟨ea',oe3,H3,e3,hw3,he3,hc3,hdi3,hv3,Kh3⟩:=hinv c3
  cases e3
  refine Zae (X:=ZmE X ea oe3 (X.pn++pins)) Kh3 hN hi (.inl hl) (v:=.ref ea) rfl (fun s4 I4=>?_) (.inr hl)
  refine wpAny_mono (hsu ea oe3 _ hc3 hdi3 hv3 [] s4 _ H3 _ I4 (h2 σ1 H3 ea hw3 Kh3.len)) (fun f s5 q=>?_) (fun _ _ z=>z.elim)
  cases f with
  | next=>obtain ⟨_,_,_,q⟩:=q; exact q.elim
  | brk=>obtain ⟨_,_,_,q⟩:=q; exact q.elim
  | cont=>obtain ⟨_,_,_,q⟩:=q; exact q.elim
  | ret u=>
   obtain ⟨v,σ',H',I5,r,q⟩:=q
   have I6:=Zgr J.ok I5
   obtain ⟨m,hn,_⟩:=id I6.loc
   refine wpAny_nameGoes hl hn (by rw [I6.ok.kind]; rfl) fun h' m' hn' hsame=>?_
   exact ⟨v,_,H',Zh9 I6 hn' hsame,r,q⟩
theorem Zhd {hds:List ExceptHandler} {h0:ExceptHandler} {body:List Stmt} {g:DS} {pos:Pos} (h:SDs X.nox body g):SD X (.Try body (h0::hds) [] [] pos) g:=by
 intro pins s σ H D I hw
 refine wpAny_Try_except (wpAny_mono (h pins s σ H D (I.wish _) hw) (fun f s' q=>?_) fun _ _ z=>z.elim)
 have q:=q.unwish
 cases f with
 | next=>exact wpAny_execs_nil q
 | brk=>exact q
 | cont=>exact q
 | ret u=>exact q
end
noncomputable def rdR (K:Frag) (W:Hp->Prop) (g:DS):TS:=fun _ σ H=>∃ ρ F0 H0 F,EnvOk K F0 H0 F σ H ρ/\g ρ=some (.rt (.bl true))/\∀ F' H',Grow F0 H0 F' H'->W H'
noncomputable def ZoN (g:DS):Prop:=∀ ρ o,g ρ=some o->∃ ρ',o=.nx ρ'
theorem Zai {i:Nat} {f:DE}:ZoN (ZM i f):=fun ρ o e=>by
 obtain ⟨d,_,rfl⟩:=map_some e
 exact ⟨_,rfl⟩
section
variable {X:Cx} {W:Hp->Prop} {st:Stmt} {rest a:List Stmt} {g g':DS} {c:Expr} {t:DT} {pos:Pos}
theorem ZeD (h1:SD X st g) (n:ZoN g) (h2:PSs X rest (rdR X.K W g')):PSs X (st::rest) (rdR X.K W (Zp g g')):=PSs.imp (J7 h1 h2) fun E σ H zq=>by
 obtain ⟨ρ,F0,H0,F,ok,e,k⟩:=zq
 unfold Zp at e
 cases e1:g ρ with
 | none=>rw [e1] at e; cases e
 | some o1=>
  obtain ⟨ρ1,rfl⟩:=n ρ o1 e1
  rw [e1] at e
  exact ⟨ρ,F0,H0,F,.nx ρ1,ok,e1,fun σ' F' H' x ok'=>⟨ρ1,F0,H0,F',ok',e,k⟩⟩
theorem Zo4 (hc:TD X c t) (hr:PSs X a (fun _ _ H=>W H)):PSs X (.If c a [] pos::rest) (rdR X.K W (Zp (ZY t (ZT (Zg (.bl true))) ZA) (ZT (Zg (.bl false))))):=by
 have h0:PSs X rest (fun _ _ _=>False):=fun _ _ _ _ _ _ h=>h.elim
 have h1:PSs X [] (fun _ _ _=>False):=fun _ _ _ _ _ _ h=>h.elim
 refine PSs.imp (J7 (ZlA hc hr h1) h0) fun E σ H zq=>?_
 obtain ⟨ρ,F0,H0,F,ok,e,k⟩:=zq
 unfold Zp ZY at e
 cases e1:t ρ with
 | none=>rw [e1] at e; cases e
 | some b=>
  cases b with
  | false=>rw [e1] at e; cases e
  | true=>exact ⟨ρ,F0,H0,F,true,ok,e1,fun F' H' gr=>k F' H' (ok.base.trans gr)⟩
end
noncomputable def spX (K:Frag) (n:Nat) (fx:List D->Option D) (C:Addr):Sp:=fun vs H _ E=>∃ xs F,xs.length=n/\RepL K F H xs vs/\(∀ a,F a->H a≠none\/∃ o,K.lookup a=some o)/\fx xs=some (.bl true)/\∀ F' H',Grow F H F' H'->E (.ref C) none H'
section
variable {P:Program} {w:World} {K:Frag} {mg:Str->Option Value} {base:Heap}
theorem Zpw {x qual:Str} {st:Stmt} {f C:Addr} {fd:FuncData} {N ps:List Str} {k:Nat} {g:DS} (F:Fun K x qual st f fd) (S:Zt N ps (Zi st))
  (hb:∀ (cdv:Value) (A:Around) (outer:List Env) (s:Shared) (H:Hp) (E:XK),Room k (A.deeper (envOfC qual (Zi st) s.heap.objs.size f cdv)) ->
   PSs (ZfR (CX1 P w C) P w K mg base N qual (Zi st) f cdv A outer s H E) (Q7 st) (rdR K (fun H'=>E (.ref C) none H') g)):Zfd P w K mg base (CX1 P w C) (k+1) f fd ps (spX K ps.length (Zq N.length g) C):=by
 have hpl:ps.length<=N.length:=by have:=congrArg List.length S.pre; rw [List.length_take] at this; omega
 obtain ⟨oc,od,kV,doc,pm,an,cdv,ct,osl,rfl,lk,hcd⟩:=F.ex
 refine Zof lk hcd S (fun vs H Q E h=>?_) (fun A outer s H vs Q E hr h=>⟨_,hb cdv A outer s H E hr,?_⟩)
 ·obtain ⟨xs,F,hl,hr,_⟩:=h
  rw [<-hr.length,hl]
 ·obtain ⟨xs,Fz,hl,hr',hfz,e,q⟩:=h
  obtain ⟨o,eo,e⟩:=bind_some e
  have hlv:=hr'.length
  have eo':o=.rt (.bl true):=by
   cases o with
   | rt d'=>cases e; rfl
   | nx ρ=>cases e
   | bk ρ=>cases e
   | ct ρ=>cases e
  subst eo'
  refine ⟨_,Fz,H,Fz,⟨.refl,fun i d' h=>?_,fun i ds h=>?_,fun i j ds es a h=>?_,?_,hfz⟩,eo,q⟩
  ·have hi:i < xs.length:=by
    by_cases hi:i < xs.length
    ·exact hi
    ·rw [List.getElem?_append_right (by simpa using hi),List.getElem?_replicate] at h
     split at h <;> cases h
   rw [List.getElem?_append_left (by simpa using hi),List.getElem?_map,List.getElem?_eq_getElem hi] at h
   cases h
   obtain ⟨v,ev,rv⟩:=hr'.get (show xs[i]?=some xs[i] by simp [hi])
   refine ⟨v,?_,rv⟩
   unfold L2.start
   rw [List.getElem?_append_left (by simp; omega),List.getElem?_map,ev]; rfl
  ·by_cases hi:i < xs.length
   ·rw [List.getElem?_append_left (by simpa using hi),List.getElem?_map,List.getElem?_eq_getElem hi] at h; cases h
   ·rw [List.getElem?_append_right (by simpa using hi),List.getElem?_replicate] at h
    split at h <;> cases h
  ·by_cases hi:i < xs.length
   ·rw [List.getElem?_append_left (by simpa using hi),List.getElem?_map,List.getElem?_eq_getElem hi] at h; cases h
   ·rw [List.getElem?_append_right (by simpa using hi),List.getElem?_replicate] at h
    split at h <;> cases h
  ·unfold L2.start; simp; omega
noncomputable def Zk5 (P:Program) (w:World) (K:Frag) (mg:Str->Option Value) (base:Heap) (x:Str) (k:Nat) (ps:List Str) (fx:List D->Option D) (C:Addr):Prop:=
 ∃ f fd,Zfd P w K mg base (CX1 P w C) k f fd ps (spX K ps.length fx C)/\mg x=some (.ref f)/\keepIn K (.ref f)=true/\Binds K fd ps []
theorem Zab {N:List Str} {qual:Str} {scope:Scope} {f C:Addr} {cd:Value} {A:Around} {outer:List Env} {s:Shared} {H:Hp} {E:XK}:∀ pins σ H1 s1 h' e args,Inv (ZfR (CX1 P w C) P w K mg base N qual scope f cd A outer s H E) pins σ H1 s1 ->
  Heap.MadeExcOf s1.heap h' e (.ref C) args->E (.ref C) none H1->(ZfR (CX1 P w C) P w K mg base N qual scope f cd A outer s H E).xe (.ref e) { s1 with heap:=h' }:=
 fun pins σ H1 s1 h' e args I hm hw=>ZeQ I rfl rfl rfl hm hw
end
structure ZoP (K:Frag) (D:Addr):Prop where
 hga:PySem.W.findIn K (.ref D) "__getattribute__"=some (some (.builtin "BaseException.__getattribute__"))
 hgt:PySem.W.findIn K (.ref D) "__getattr__"=some none
 hb:PySem.W.mroIn K D (.type "BaseException")=some true
 ha:PySem.W.findIn K (.ref D) "__class__"=some (some (.builtin "object.__class__"))
 hn:PySem.W.specialIn K (.builtin "object.__class__") "__get__"=some (some (.builtin "getset_descriptor.__get__"))
 htk:PySem.W.takesIn K (.builtin "object.__class__")=some true
 hm:PySem.W.mroIn K D (.type "object")=some true
section
variable {X:Cx} {C e:Addr} {o:Obj} {pn:List (Addr×Obj)} {vc:V} {cv:Value} {b:Bool}
theorem Zbd (hc:o.cls=.ref C) (hd:o.dict=none) (hv:∃ vs,o.data=.fields vs) (Z:ZoP X.K C) (rv:∀ u,RelV vc u->u=cv) (e1:kitOne X.K (.ref C) cv=some b) :
  W9 (ZmE X e o pn) (.builtin "isinstance") (fun vs H Q=>vs=[.ref e,vc]/\Q (.bl b) H):=by
 intro pins s σ H xs us Q I r ⟨ex,q⟩
 subst ex
 cases r with
 | cons r1 r=>
  cases r with
  | cons r2 r=>
   cases r
   cases r1
   cases rv _ r2
   obtain ⟨he,_⟩:=I.pin (e,o) List.mem_cons_self
   obtain ⟨vs,hv⟩:=hv
   exact kia_one (ZjP Z.hga Z.hgt Z.hb Z.ha Z.hn Z.htk Z.hm) I.kIn ⟨he,hc,by unfold PySem.W.notCls; rw [hv],by rw [hd]; trivial⟩ e1 (fun z=>nomatch z) fun tk=>⟨.bl b,H,I.tok tk,rfl,q⟩
end
section
variable {X:Cx} {pins:List (Addr×Obj)} {σ:L2.St} {H:Hp} {s s':Shared} {C B:Addr}
end
noncomputable def Ex2 (h:Heap) (e C T:Addr):Prop:=∃ oe vs oT ts,h.get? e=some oe/\oe.cls=.ref C/\oe.dict=none/\oe.data=.fields vs/\vs[1]?=some (.ref T)/\T≠e/\h.get? T=some oT/\oT.data=.fields ts/\3 < ts.size
theorem Ex1.two {h:Heap} {e C T:Addr} (x:Ex1 h e C T):Ex2 h e C T:=by
 obtain ⟨oe,vs,oT,ts,he,hc,hdi,hd,h1,hTe,hT,hTd,h3⟩:=x
 exact ⟨oe,vs,oT,ts,he,hc,hdi,hd,h1,hTe,hT,hTd,(Array.getElem?_eq_some_iff.mp h3).1⟩
theorem Ex2.off {h h':Heap} {e C T:Addr} (x:Ex2 h e C T) (k:∀ b,b=e\/b=T->h'.get? b=h.get? b):Ex2 h' e C T:=by
 obtain ⟨oe,vs,oT,ts,he,hc,hdi,hd,h1,hTe,hT,hTd,h3⟩:=x
 exact ⟨oe,vs,oT,ts,(k e (.inl rfl)).trans he,hc,hdi,hd,h1,hTe,(k T (.inr rfl)).trans hT,hTd,h3⟩
section
variable {M:Model} {A:Around} {E:Value->Shared->Prop} {s:Shared} {base:Heap} {env:Env} {outer:List Env} {L e C:Addr} {Q:Unit->Shared->Prop}
theorem Zix {head:Value} {hadNext:Bool} {oe:Obj} {vs:Array Value} (hfr:A.frames=some (env::outer)) (hl:s.heap.FunFrames base (env::outer)) (hf:env.frame=some L) (he:s.heap.get? e=some oe) (hcl:oe.cls=.ref C) (hdi:oe.dict=none)
  (hd:oe.data=.fields vs) (hsz:1 < vs.size)
  (h:∀ h' T,Zkl (frs (env::outer)) s.heap h' (·=e)->Ex2 h' e C T->s.heap.get? T=none->Q () { s with heap:=h' }) :
  wpAny M A (do let a <- frameOf env; let pl <- entryPlaceOf L hadNext; let b <- EntryCells.newEntry head a .none (rawInt L) .none pl; setField (.ref e) 1 b) Q E s:=by
 have hene:e ∉ frs (env::outer):=fun hm=>by
  obtain ⟨_,o,ho,hnf⟩:=hl.mem hm
  rw [he] at ho; cases ho; exact hnf vs hd
 refine wpAny_bind (wpAny_frameOf_fun hfr hl hf fun h1 so=>wpAny_bind (wpAny_entryPlaceOf fun pl hpl=>?_))
 unfold EntryCells.newEntry newFields
 refine wpAny_bind (wpAny_newObj_type ?_ (hpl.sizeOk5 _ _ _ _ _) )
 have he1:h1.get? e=some oe:=(so.2.1 e hene).trans he
 generalize hTo:({ cls:=.type "traceback",dict:=none,data:=.fields ([head,.ref L,.none,rawInt L,.none]++(if pl.isEmpty then List.replicate 6 Value.none else pl)).toArray }:Obj)=oT
 have hTd:oT.data=.fields ([head,.ref L,.none,rawInt L,.none]++(if pl.isEmpty then List.replicate 6 Value.none else pl)).toArray:=by rw [<-hTo]
 have hTf:oT.isFreed=false:=Obj.isFreed_of_fields hTd
 have he2:(h1.push oT).get? e=some oe:=Heap.get?_push_of_some _ he1
 refine wpAny_setField he2 hd hsz ?_
 have hTe:h1.objs.size≠e:=Nat.ne_of_gt (Heap.lt_size he1)
 have hd3:=Obj.data_mapFields hd (·.setIfInBounds 1 (Value.ref h1.objs.size))
 have he3:=Heap.get?_update_self (Obj.mapFields (·.setIfInBounds 1 (Value.ref h1.objs.size))) he2 (Obj.isFreed_of_fields hd3)
 have hT3:((h1.push oT).update e (Obj.mapFields (·.setIfInBounds 1 (Value.ref h1.objs.size)))).get? h1.objs.size=some oT:=(Heap.get?_update_other _ _ (Ne.symm hTe)).trans (Heap.get?_push_size h1 hTf)
 have hz:h1.objs.size=s.heap.objs.size:=so.1
 have keep:∀ b o,b≠e->h1.get? b=some o->((h1.push oT).update e (Obj.mapFields (·.setIfInBounds 1 (Value.ref h1.objs.size)))).get? b=some o:=fun b o hb eb=>by
  rw [Heap.get?_update_other _ _ (Ne.symm hb)]
  exact Heap.get?_push_of_some _ eb
 refine h _ h1.objs.size (fun b o eb hb=>?_) ⟨_,_,oT,_,he3,(Obj.cls_mapFields _ _).trans hcl,(Vj _ _).trans hdi,hd3,by simp [hsz],hTe,hT3,hTd,by simp only [List.size_toArray,List.length_append,List.length_cons,List.length_nil]; omega⟩ (by rw [hz]; exact Heap.get?_none_of_le (Nat.le_refl _))
 refine ⟨fun hbf=>keep b o hb ((so.2.1 b hbf).trans eb),?_⟩
 obtain ⟨sl,e1⟩:=so.2.2 b o eb
 exact ⟨sl,keep b _ hb e1⟩
theorem Zfy {T:Addr} (hfr:A.frames=some (env::outer)) (hl:s.heap.FunFrames base (env::outer)) (hf:env.frame=some L) (x:Ex2 s.heap e C T)
  (h:∀ h' T',Zkl (frs (env::outer)) s.heap h' (fun b=>b=e\/b=T)->Ex2 h' e C T'->(T'=T\/s.heap.get? T'=none)->Q () { s with heap:=h' }) :
  wpAny M A (noteFrame (.ref e) env) Q E s:=by
 obtain ⟨oe,vs,oT,ts,he,hc,hdi,hd,h1,hTe,hT,hTd,h3⟩:=id x
 unfold noteFrame
 simp only [hf]
 refine wpAny_bind (wpAny_field he hd h1 ?_)
 rw [if_pos (show (Value.ref T != Value.none)=true by simp)]
 refine wpAny_bind (wpAny_field hT hTd (x:=ts[3]) (by simp [h3]) ?_)
 by_cases hm:(ts[3]==rawInt L)=true
 ·rw [if_pos hm]
  exact wpAny_pure (h s.heap T (fun b o eb _=>⟨fun _=>eb,o.slots,eb⟩) x (.inl rfl))
 ·rw [if_neg hm]
  refine wpAny_bind (wpAny_setField hT hTd h3 ?_)
  have oth:∀ b,b≠T->(s.heap.update T (Obj.mapFields (·.setIfInBounds 3 Value.none))).get? b=s.heap.get? b:=fun b hb=>Heap.get?_update_other _ _ (Ne.symm hb)
  have hl':(s.heap.update T (Obj.mapFields (·.setIfInBounds 3 Value.none))).FunFrames base (env::outer):=hl.of_keeps fun b o eb hnf=>⟨o,(oth b fun z=>by rw [z,hT] at eb; cases eb; exact hnf ts hTd).trans eb,rfl⟩
  refine Zix (s:={ s with heap:=s.heap.update T (Obj.mapFields (·.setIfInBounds 3 Value.none)) }) hfr hl' hf ((oth e (Ne.symm hTe)).trans he) hc hdi hd (Array.getElem?_eq_some_iff.mp h1).1 fun h' T' st ex ht=>?_
  refine h h' T' (fun b o eb hb=>st b o ((oth b fun z=>hb (.inr z)).trans eb) fun z=>hb (.inl z)) ex (.inr ?_)
  cases q:s.heap.get? T' with
  | none=>rfl
  | some o'=>
   by_cases z:T'=T
   ·subst z
    have:=Heap.get?_update_self (Obj.mapFields (·.setIfInBounds 3 Value.none)) hT (Obj.isFreed_of_fields (Obj.data_mapFields hTd _))
    rw [this] at ht; cases ht
   ·have:=oth T' z
    rw [q] at this
    rw [this] at ht; cases ht
theorem Zca {T:Addr} {fs:List Addr} {fr:Option Addr} (x:Ex2 s.heap e C T) (h:∀ h',Zkl fs s.heap h' (·=T)->Ex2 h' e C T->(fr=none->Ex1 h' e C T)->Q () { s with heap:=h' }):wpAny M A (setFlight (.ref e) fr) Q E s:=by
 obtain ⟨oe,vs,oT,ts,he,hc,hdi,hd,h1,hTe,hT,hTd,h3⟩:=x
 unfold setFlight
 refine wpAny_bind (wpAny_field he hd h1 ?_)
 rw [if_pos (show (Value.ref T != Value.none)=true by simp)]
 refine wpAny_setField hT hTd h3 ?_
 have oth:∀ b,b≠T->(s.heap.update T (Obj.mapFields (·.setIfInBounds 3 (fr.elim Value.none fun f=>rawInt f)))).get? b=s.heap.get? b:=fun b hb=>Heap.get?_update_other _ _ (Ne.symm hb)
 have hT':=Heap.get?_update_self (Obj.mapFields (·.setIfInBounds 3 (fr.elim Value.none fun f=>rawInt f))) hT (Obj.isFreed_of_fields (Obj.data_mapFields hTd _))
 refine h _ (fun b o eb hb=>⟨fun _=>(oth b hb).trans eb,o.slots,(oth b hb).trans eb⟩) ⟨oe,vs,_,_,(oth e (Ne.symm hTe)).trans he,hc,hdi,hd,h1,hTe,hT',Obj.data_mapFields hTd _,by simpa using h3⟩ fun z=>?_
 subst z
 exact ⟨oe,vs,_,_,(oth e (Ne.symm hTe)).trans he,hc,hdi,hd,h1,hTe,hT',Obj.data_mapFields hTd _,by simp [h3]⟩
theorem ZdD {x:Value} {env env':Env} (h:env.frame=env'.frame):noteFrame x env=noteFrame x env':=by
 unfold noteFrame PySem.frameOf
 rw [h]
end
section
variable {P:Program} {w:World} {H H':Hp} {h h' h'':Heap} {a:Addr} {o:HO} {fs:List Addr}
theorem VJ {ch:List Addr} {R:Addr->Prop} (u:Un fs ch H H' h h') (ok:HOk P w H' h') (fr:∀ b∈fs,H' b=none) (st:Zkl fs h' h'' R) (hR:∀ b,R b->H' b=none/\h.get? b=none):Un fs ch H H' h h''/\HOk P w H' h'':=by
 have nR:∀ b o,h.get? b=some o->¬ R b:=fun b o e z=>by rw [(hR b z).2] at e; cases e
 have nT:∀ b o,H' b=some o->¬ R b:=fun b o e z=>by rw [(hR b z).1] at e; cases e
 refine ⟨⟨fun b o q n hb hx=>(st b o (u.keep b o q n hb hx) (nR b o q)).1 hb,fun b o q n hb hx=>?_,u.free,fun b o q hx=>?_,u.tups,u.frzs,u.tbls⟩,fun b o q=>?_⟩
 ·obtain ⟨sl,e1⟩:=u.slot b o q n hb hx
  obtain ⟨sl',e2⟩:=(st b _ e1 (nR b o q)).2
  exact ⟨sl',e2⟩
 ·obtain ⟨o',e1⟩:=u.there b o q hx
  obtain ⟨sl',e2⟩:=(st b _ e1 (nR b o q)).2
  exact ⟨_,e2⟩
 ·refine (ok b o q).stay (fun c v hc e=>?_) (fun _ z=>z) fun _ _ z=>z
  have hc':∃ u,H' c=some u:=by
   rcases hc with rfl | hc
   ·exact ⟨_,q⟩
   ·exact ⟨_,hc⟩
  obtain ⟨u',hu⟩:=hc'
  exact (st c v e (nT c u' hu)).1 fun z=>by rw [fr c z] at hu; cases hu
theorem Zad {ch:List Addr} (u:Un fs ch H H' h h') (hc:∀ b∈ch,∃ o,h'.get? b=some o) (e:h'.get? a=none):h.get? a=none:=by
 cases q:h.get? a with
 | none=>rfl
 | some o=>
  by_cases ha:a∈ch
  ·obtain ⟨o',z⟩:=hc a ha
   rw [e] at z; cases z
  ·obtain ⟨o',z⟩:=u.there a o q ha
   rw [e] at z; cases z
end
noncomputable def CX2 (P:Program) (w:World) (C:Addr) (ch:List Addr):CXT:=fun outer H s E e s'=>∃ ea T H',e=.ref ea/\s'.os=s.os/\AllBare s'.gens/\Un (frs outer) ch H H' s.heap s'.heap/\(∀ b∈ch,∃ o,s'.heap.get? b=some o)/\HOk P w H' s'.heap/\H' ea=none/\H' T=none/\s.heap.get? ea=none/\s.heap.get? T=none/\Ex2 s'.heap ea C T/\E (.ref C) none H'
noncomputable def ChOk (X:Cx) (pins:List (Addr×Obj)) (H:Hp) (s:Shared) (ch:List Addr):Prop:=∀ b∈ch,ZbM X pins H b/\∃ o,s.heap.get? b=some o
noncomputable def Zbi (X:Cx) (C:Addr) (E:XK):Prop:=∀ (pins:List (Addr×Obj)) (σ:L2.St) (H:Hp) (s:Shared) (ch:List Addr) (e:Value) (s':Shared),Inv X pins σ H s->ChOk X pins H s ch->CX2 X.prog X.w C ch X.stack H s E e s'->X.xe e s'
section
variable {X:Cx} {pins:List (Addr×Obj)} {σ:L2.St} {H:Hp} {s s':Shared} {E:XK} {C:Addr} {M:Model}
theorem ChOk.ch {ch:List Addr} (h:ChOk X pins H s ch):∀ b∈ch,(b∈X.ex\/X.s₀.heap.objs.size<=b)/\b≠X.env.locals/\(∀ x c,X.env.cells.lookup x=some c->c≠b)/\∀ p∈X.pn++pins,p.1≠b:=fun b hb=>by
 obtain ⟨⟨_,h1,_,h3,h4,h5⟩,_⟩:=h b hb
 exact ⟨h3,h1,h4,h5⟩
theorem ZhY {ch:List Addr} {e:Value} (I:Inv X pins σ H s) (hx:X.ex=[]) (hs:X.stack=X.env::X.outer) (hf:X.env.frame=some X.env.locals) (hc:ChOk X pins H s ch) (c:CX2 X.prog X.w C ch X.stack H s E e s') :
  wpAny M X.A (leaving X.env e) (fun _ s''=>CX1 X.prog X.w C X.outer X.H₀ X.s₀ E e s'') (fun e' s''=>CX1 X.prog X.w C X.outer X.H₀ X.s₀ E e' s'') s':=by
 obtain ⟨ea,T,H',rfl,os,bare,u,hch,ok,He,HT,se,sT,ex,hw⟩:=c
 have hfr:X.A.frames=some (X.env::X.outer):=by rw [<-hs]; exact I.ok.frames
 have J:Inv X pins σ H' s':=I.call' (ch:=ch) os u ok bare hc.ch
 have hl:s'.heap.FunFrames X.base (X.env::X.outer):=by rw [<-hs]; exact J.stack
 have b0:=I.base
 rw [hx] at b0
 unfold leaving
 refine wpAny_bind (Zfy hfr hl hf ex fun h2 T' st ex' hT'=>?_)
 rw [<-hs] at st
 obtain ⟨u2,ok2⟩:=VJ u ok J.stkFree st fun b z=>by
  rcases z with z | z
  ·subst z; exact ⟨He,se⟩
  ·subst z; exact ⟨HT,sT⟩
 have nT:H' T'=none/\s.heap.get? T'=none:=by
  rcases hT' with z | z
  ·subst z; exact ⟨HT,sT⟩
  ·exact ⟨U0 ok z,Zad u hch z⟩
 refine Zca (fs:=frs X.stack) ex' fun h3 st3 _ ex3=>?_
 obtain ⟨u3,ok3⟩:=VJ u2 ok2 J.stkFree st3 fun b z=>by subst z; exact nT
 have J3:Inv X pins σ H' { s' with heap:=h3 }:=I.call' (s':={ s' with heap:=h3 }) (ch:=ch) os u3 ok3 bare hc.ch
 have b3:=J3.base
 rw [hx] at b3
 exact ⟨ea,T',H',rfl,J.os,bare,b3,ok3,He,nT.1,JW b0 se,JW b0 nT.2,ex3 rfl,hw⟩
theorem Zhy {P:Program} {w:World} {K:Frag} {mg:Str->Option Value} {base:Heap} {N:List Str} {qual:Str} {scope:Scope} {f:Addr} {cd:Value} {A:Around} {outer:List Env} {s:Shared} {H:Hp} :
  Zbi (ZfR (CX1 P w C) P w K mg base N qual scope f cd A outer s H E) C E:=fun pins σ H s ch e s' I hc c=>ZhY I rfl rfl rfl hc c
theorem Zdv {P:Program} {w:World} {K:Frag} {mg:Str->Option Value} {base:Heap} {N:List Str} {qual:Str} {scope:Scope} {f:Addr} {cd:Value} {A:Around} {outer:List Env} {s:Shared} {H:Hp} :
  JS (CX1 P w C) (ZfR (CX1 P w C) P w K mg base N qual scope f cd A outer s H E) E:=fun pins σ H s e s' I c=>Zgo I rfl rfl rfl c
theorem Zke {scope:Scope} {N:List Str} {fp:List Addr} {pn pins':List (Addr×Obj)} {W:Value->Shared->Prop} {σ1:L2.St} {H1:Hp} {s1:Shared} {e acc:Value} {Q:Value->Shared->Prop}
  (hs:X.stack=X.env::X.outer) (hf:X.env.frame=some X.env.locals) (I:Inv X pins σ H s) (hc:ChOk X pins H s fp)
  (J:Inv { Z1 X N scope s.heap.objs.size s H fp with pn:=pn,xe:=W } pins' σ1 H1 s1) (hfp:∀ b∈fp,∃ o,s1.heap.get? b=some o) (c:CX1 X.prog X.w C X.stack H1 s1 E e s') (hX:Zbi X C E) :
  notedBy (model X.prog X.w) X.A (Z1 X N scope s.heap.objs.size s H fp).env (fun x s''=>compPost (model X.prog X.w) X.A X.xe none Q acc s.heap.objs.size (.error x) s'') e s':=by
 obtain ⟨ea,T,H',rfl,os,bare,u,ok,He,HT,se,sT,ex,hw⟩:=c
 have hfr:X.A.frames=some (X.env::X.outer):=by rw [<-hs]; exact I.ok.frames
 have J':=J.call' (s':=s') (H':=H') (ch:=[]) os u ok bare (fun b z=>nomatch z)
 have hU:Un (frs X.stack) fp H H1 s.heap s1.heap:=J.base
 have u1:Un (frs X.stack) fp H H' s.heap s'.heap:=hU.trans (u.mono (fun _ z=>z) (fun b z=>nomatch z))
 have os1:s'.os=s.os:=os.trans J.os
 have hch:∀ b∈fp,∃ o,s'.heap.get? b=some o:=fun b hb=>by
  obtain ⟨o,e1⟩:=hfp b hb
  exact u.there b o e1 (by simp)
 have J0:Inv X pins σ H' s':=I.call' (ch:=fp) os1 u1 ok bare hc.ch
 have hl:s'.heap.FunFrames X.base (X.env::X.outer):=by rw [<-hs]; exact J0.stack
 have se0:s.heap.get? ea=none:=Zad hU hfp se
 have sT0:s.heap.get? T=none:=Zad hU hfp sT
 obtain ⟨m,hn,_⟩:=J'.loc
 have fC:H' s.heap.objs.size=none:=J'.free
 obtain ⟨oC,esC,epC,hoC,hrC⟩:=hn
 have hoC:s'.heap.get? s.heap.objs.size=some oC:=hoC
 have hC1:∃ o,s1.heap.get? s.heap.objs.size=some o:=by
  obtain ⟨m1,hn1,_⟩:=J.loc
  obtain ⟨o1,_,_,h1,_⟩:=hn1
  exact ⟨o1,h1⟩
 have nCf:s.heap.objs.size ∉ frs X.stack:=fun z=>by
  obtain ⟨_,o,ho,_⟩:=I.stack.mem z
  exact Nat.lt_irrefl _ (Heap.lt_size ho)
 have nCe:s.heap.objs.size≠ea:=fun z=>by obtain ⟨o,q⟩:=hC1; rw [z,se] at q; cases q
 have nCT:s.heap.objs.size≠T:=fun z=>by obtain ⟨o,q⟩:=hC1; rw [z,sT] at q; cases q
 have sC:s.heap.get? s.heap.objs.size=none:=Heap.get?_none_of_le (Nat.le_refl _)
 unfold notedBy
 rw [ZdD (show (Z1 X N scope s.heap.objs.size s H fp).env.frame=X.env.frame from rfl)]
 refine Zfy hfr hl hf ex.two fun h2 T' st ex2 hT'=>?_
 rw [<-hs] at st
 obtain ⟨u2,ok2⟩:=VJ u1 ok J0.stkFree st fun b z=>by
  rcases z with z | z
  ·subst z; exact ⟨He,se0⟩
  ·subst z; exact ⟨HT,sT0⟩
 have nT:H' T'=none/\s.heap.get? T'=none/\s.heap.objs.size≠T':=by
  rcases hT' with z | z
  ·subst z; exact ⟨HT,sT0,nCT⟩
  ·exact ⟨U0 ok z,Zad u1 hch z,fun q=>by rw [q,z] at hoC; cases hoC⟩
 have hoC2:h2.get? s.heap.objs.size=some oC:=(st _ oC hoC fun z=>z.elim nCe nCT).1 nCf
 have hch2:∀ b∈fp,∃ o,h2.get? b=some o:=fun b hb=>by
  obtain ⟨o,e1⟩:=hch b hb
  obtain ⟨_,o0,e0⟩:=hc b hb
  obtain ⟨sl,e2⟩:=(st b o e1 fun z=>by
   rcases z with z | z
   ·rw [z,se0] at e0; cases e0
   ·rw [z,sT0] at e0; cases e0).2
  exact ⟨_,e2⟩
 refine ⟨m,⟨oC,esC,epC,hoC2,hrC⟩,fun h3 hsb cenv _=>?_⟩
 have ex3:Ex2 h3 ea C T':=ex2.off fun b hb=>hsb.2 b (by
  rcases hb with z | z
  ·rw [z]; exact Ne.symm nCe
  ·rw [z]; exact Ne.symm nT.2.2)
 have st3:Zkl (frs X.stack) h2 h3 (·=s.heap.objs.size):=fun b o eb hb=>⟨fun _=>(hsb.2 b hb).trans eb,o.slots,(hsb.2 b hb).trans eb⟩
 obtain ⟨u3,ok3⟩:=VJ u2 ok2 J0.stkFree st3 fun b z=>by subst z; exact ⟨fC,sC⟩
 have hch3:∀ b∈fp,∃ o,h3.get? b=some o:=fun b hb=>by
  obtain ⟨o,e1⟩:=hch2 b hb
  obtain ⟨_,o0,e0⟩:=hc b hb
  exact ⟨o,(hsb.2 b fun z=>by rw [z,sC] at e0; cases e0).trans e1⟩
 obtain ⟨oe,vs,oT,ts,he,hcl,hdi,hd,h1,hTe,hT,hTd,h3s⟩:=id ex3
 unfold PySem.passOn
 refine wpAny_bind (wpAny_field he hd h1 ?_)
 rw [if_neg (show ¬ ((Value.ref T'==Value.none)=true) by simp)]
 refine wpAny_bind (Zca (s:={ s' with heap:=h3 }) (fs:=frs X.stack) ex3 fun h4 st4 ex4 _=>wpAny_throw ?_)
 obtain ⟨u4,ok4⟩:=VJ u3 ok3 J0.stkFree st4 fun b z=>by subst z; exact ⟨nT.1,nT.2.1⟩
 refine hX pins σ H s fp _ _ I hc ⟨ea,T',H',rfl,os1,bare,u4,fun b hb=>?_,ok4,He,nT.1,se0,nT.2.1,ex4,hw⟩
 obtain ⟨o,e1⟩:=hch3 b hb
 obtain ⟨_,o0,e0⟩:=hc b hb
 obtain ⟨sl,e2⟩:=(st4 b o e1 fun z=>by rw [z,nT.2.1] at e0; cases e0).2
 exact ⟨_,e2⟩
end
section
variable {X:Cx} {pins:List (Addr×Obj)} {σ:L2.St} {H:Hp} {s:Shared}
theorem ZgF {Y:Cx} {C:Addr} {E:XK} {tg elt iter:Expr} {ifs:List Expr} {scope:Scope} {pos:Pos} {fp:List Addr} {it Dl:Addr} {tn:Nat->Heap->Prop} {J:It} {g:TG} {te:TE} {tt:TT} {R:Result->Shared->Prop}
  (T:ZiZ Y.prog Y.w Y.K tg J fp it tn) (hc:Y.calm=true) (hxe:Y.xe=fun _ _=>False) (hex:Y.ex=fp) (hpn:Y.pn=[]) (hg:PG Y tg g) (hi:PTs Y ifs tt) (he:∀ (pn:List (Addr×Obj)) (W:Value->Shared->Prop),JS (CX1 Y.prog Y.w C) { Y with pn:=pn,xe:=W } E->PE { Y with pn:=pn,xe:=W } elt te)
  (err:∀ (pn pins':List (Addr×Obj)) (W:Value->Shared->Prop) (σ1:L2.St) (H1:Hp) (s1:Shared) (e:Value) (s':Shared),Inv { Y with pn:=pn,xe:=W } pins' σ1 H1 s1->(∀ b∈fp,∃ o,s1.heap.get? b=some o)->CX1 Y.prog Y.w C Y.stack H1 s1 E e s'->notedBy (model Y.prog Y.w) Y.A Y.env (fun x s''=>R (.error x) s'') e s')
  (W:Nat->Nat->L2.St->Hp->Prop) (Done:L2.St->Hp->Prop)
  (turn:∀ i m σ H,W i m σ H->(J.stop i H/\Done σ H)\/(J.go i H/\∀ x H',J.yld i H x H'->g x σ H' fun σ2 H2=>tt σ2 H2 fun b H3=>if b=true then te σ2 H3 fun v H4=>∃ ys,H4 Dl=some (.lst ys)/\ys.length < sizeLine/\∃ m',m' < m/\W (i+1) m' σ2 (upd H4 Dl (.lst (ys++[v]))) else ∃ m',m' < m/\W (i+1) m' σ2 H3))
  (fin:∀ σ' H' s',L2.Inv Y [] σ' H' s'->Done σ' H'->R (.ok .next) s')
  (I:L2.Inv Y [] σ H s) (st:tn 0 s.heap) (hf:∀ b∈fp,H b=none) (m:Nat) (w:W 0 m σ H) :
  codeAny (model Y.prog Y.w) Y.A (.compLoop (.ListComp elt [⟨tg,iter,ifs,0⟩] scope pos) 0 (.ref it) (.ref Dl) Y.env) R s:=by
 have fpY:∀ {H':Hp} (ok:Y.Ok),(∀ b∈fp,H' b=none)->∀ b∈fp,ZbM Y [] H' b:=fun {H'} ok h b hb=>by
  have hb':b∈Y.ex:=by rw [hex]; exact hb
  exact ⟨h b hb,(ok.exf b hb').1,ok.exfs b hb',.inl hb',(ok.exf b hb').2,fun p hp=>by rw [hpn] at hp; exact absurd (show p∈([]:List (Addr×Obj)) from hp) (by simp)⟩
 refine codeAny_loop rfl (fun n s'=>∃ i σ' H',L2.Inv Y [] σ' H' s'/\tn i s'.heap/\(∀ b∈fp,H' b=none)/\W i n σ' H') (fun n s1 hI=>?_) m ⟨0,σ,H,I,st,hf,w⟩
 obtain ⟨i,σ1,H1,I1,st1,fr1,w1⟩:=hI
 show wpAny _ Y.A ((compTurn (.ListComp elt [⟨tg,iter,ifs,0⟩] scope pos) 0 (.ref it) (.ref Dl) Y.env).onRaise (fun x=>do noteFrame x Y.env; theTreesLotGoes x)) _ _ s1
 refine wpAny_noted ?_
 rw [compTurn_list]
 refine wpAny_bind (wpAny_standAt (wpAny_bind ?_))
 rcases turn i n σ1 H1 w1 with ⟨stop,dn⟩ | ⟨go,step⟩
 ·refine wpx (thn (T.done Y rfl rfl rfl hc i [] s1 σ1 H1 _ I1 (fpY I1.ok fr1) st1 stop) fun r s2 zq=>?_)
  obtain ⟨hr,I2⟩:=zq
  subst hr
  exact wpAny_pure (fin σ1 H1 s2 I2 dn)
 ·refine wpx (thn (T.item Y rfl rfl rfl hc i [] s1 σ1 H1 _ I1 (fpY I1.ok fr1) st1 go) fun r s2 zq=>?_)
  obtain ⟨u,hr,h2⟩:=zq
  subst hr
  refine wpAny_bind (wpx (thn h2 fun _ s3 zq=>?_))
  obtain ⟨x,H3,I3,r3,y3,st3,fr3⟩:=zq
  have I3':=I3.pinned (fpY I3.ok fr3) (T.obj _ _ st3)
  have hg':=hg _ s3 σ1 H3 x u _ I3' r3 (step x H3 y3)
  rw [hxe] at hg'
  refine wpAny_bind (wpx (thn hg' fun _ s4 zq=>?_))
  obtain ⟨σ4,H4,I4,q4⟩:=zq
  have hi':=hi _ s4 σ4 H4 _ I4 q4
  rw [hxe] at hi'
  refine wpAny_bind (wpx (thn hi' fun b s5 zq=>?_))
  obtain ⟨H5,I5,q5⟩:=zq
  have back:∀ {σ7:L2.St} {H7:Hp} {s7:Shared},L2.Inv Y ([]++UB fp s3.heap) σ7 H7 s7->(∃ m',m' < n/\W (i+1) m' σ7 H7)->∃ m,m < n/\∃ i σ' H',L2.Inv Y [] σ' H' s7/\tn i s7.heap/\(∀ b∈fp,H' b=none)/\W i m σ' H':=fun {σ7 H7 s7} I7 zq=>by
   obtain ⟨m',hm,w7⟩:=zq
   have pin:=fun (b:Addr) (hb:b∈fp) (o:Obj) (e:s3.heap.get? b=some o)=>I7.pin (b,o) (List.mem_append_right _ (List.mem_append_right _ (QW hb e)))
   refine ⟨m',hm,i+1,σ7,H7,I7.unpinned,T.keep _ _ _ st3 fun b hb o e=>(pin b hb o e).1,fun b hb=>?_,w7⟩
   obtain ⟨o,e,_⟩:=T.obj _ _ st3 b hb
   exact (pin b hb o e).2.1
  cases b with
  | false=>
   rw [if_neg (by decide)] at q5
   exact wpAny_pure ⟨rfl,back I5 q5⟩
  | true=>
   rw [if_pos rfl] at q5
   let Wx:Value->Shared->Prop:=fun e s'=>∃ pins' σ1 H1 s1,Inv { Y with pn:=UB fp s3.heap,xe:=fun _ _=>False } pins' σ1 H1 s1/\CX1 Y.prog Y.w C Y.stack H1 s1 E e s'
   have I5':Inv { Y with pn:=UB fp s3.heap,xe:=Wx } [] σ4 H5 s5:=⟨⟨I5.ok.mod,I5.ok.kind,I5.ok.glob,I5.ok.blt,I5.ok.above,I5.ok.inj,I5.ok.has,I5.ok.cab,I5.ok.hd,I5.ok.frames,I5.ok.stk,I5.ok.exf,I5.ok.bs,I5.ok.bsz,I5.ok.noex,I5.ok.exfs,I5.ok.funs,I5.ok.frf⟩,
    I5.os,I5.bare,I5.base,I5.loc,I5.cell,I5.free,I5.freeC,fun p hp=>I5.pin p (List.mem_append_right _ (by rw [List.append_nil] at hp; exact hp)),I5.hok,I5.len⟩
   have hpass:JS (CX1 Y.prog Y.w C) { Y with pn:=UB fp s3.heap,xe:=Wx } E:=fun pins' σ1 H1 s1 e s' J cx=>⟨pins',σ1,H1,s1,⟨⟨J.ok.mod,J.ok.kind,J.ok.glob,J.ok.blt,J.ok.above,J.ok.inj,J.ok.has,J.ok.cab,J.ok.hd,J.ok.frames,J.ok.stk,J.ok.exf,J.ok.bs,J.ok.bsz,J.ok.noex,J.ok.exfs,J.ok.funs,J.ok.frf⟩,
    J.os,J.bare,J.base,J.loc,J.cell,J.free,J.freeC,J.pin,J.hok,J.len⟩,cx⟩
   have he':=he (UB fp s3.heap) Wx hpass [] s5 σ4 H5 _ I5' q5
   refine wpAny_bind (wpAny_bind (wpAny_mono he' (fun vu s6 ⟨v,H6,I6',r6,ys,hD,hz,q6⟩=>?_) fun e s' ⟨pins',σ1,H1,s1,J0,cx⟩=>err _ _ _ σ1 H1 s1 e s' J0 (fun b hb=>?_) cx))
   ·have I6:Inv Y ([]++UB fp s3.heap) σ4 H6 s6:=⟨I5.ok,I6'.os,I6'.bare,I6'.base,I6'.loc,I6'.cell,I6'.free,I6'.freeC,fun p hp=>I6'.pin p (by
     rw [hpn] at hp
     exact List.mem_append_left _ hp),I6'.hok,I6'.len⟩
    have ha:=ZaR _ s6 σ4 H6 (.ref Dl) [v] (.ref Dl) [vu] (fun _ H7=>∃ m',m' < n/\W (i+1) m' σ4 H7) I6 rfl (.cons r6 .nil) ⟨Dl,ys,v,rfl,rfl,hD,hz,q6⟩
    rw [hxe] at ha
    exact wpAny_bind (wpx (thn ha fun _ s7 ⟨_,H7,I7,_,q7⟩=>wpAny_pure (wpAny_pure ⟨rfl,back I7 q7⟩)))
   ·obtain ⟨o,e1,_⟩:=T.obj _ _ st3 b hb
    exact ⟨o,(J0.pin (b,o) (List.mem_append_left _ (QW hb e1))).1⟩
theorem ZiH {C:Addr} {E1:XK} {tg elt iter:Expr} {ifs:List Expr} {scope:Scope} {pos:Pos} {N:List Str} {g:TG} {te:TE} {tt:TT} {wi:TI} {Q:VK} {R1:Value->Shared->Prop} {E:Value->Shared->Prop}
  (S:CompScope X scope) (hc:X.calm=true) {it:Addr} {fp:List Addr} {tn:Nat->Heap->Prop} {J:It} {H2:Hp} {s2:Shared} (I2:L2.Inv X pins σ H2 s2) (T:ZiZ X.prog X.w X.K tg J fp it tn) (st2:tn 0 s2.heap) (f2:∀ b∈fp,ZbM X pins H2 b)
  (hg:∀ C s3 H3 fp,PG (Z1 X N scope C s3 H3 fp) tg g) (hi:∀ C s3 H3 fp,PTs (Z1 X N scope C s3 H3 fp) ifs tt) (he:∀ Ca s3 H3 fp (pn:List (Addr×Obj)) (W:Value->Shared->Prop),JS (CX1 X.prog X.w C) { Z1 X N scope Ca s3 H3 fp with pn:=pn,xe:=W } E1->PE { Z1 X N scope Ca s3 H3 fp with pn:=pn,xe:=W } elt te) (hs0:X.stack=X.env::X.outer) (hf0:X.env.frame=some X.env.locals) (hX:Zbi X C E1)
  (hb:∀ Dl,H2 Dl=none->X.K.lookup Dl=none->Zap X N scope σ g tt te J (upd H2 Dl (.lst [])) Dl fun _ H'=>Q (.ref Dl) H')
  (hRR:∀ Dl C H' (s':Shared) m,(∀ h'',Heap.SameBut C s'.heap h''->L2.Inv X pins σ H' { s' with heap:=h'' })->ZbM X pins H' C->s'.heap.Ns C m->Q (.ref Dl) H'->compPost (model X.prog X.w) X.A X.xe none R1 (.ref Dl) C (.ok .next) s') :
  wpAny (model X.prog X.w) X.A (newList []) (fun acc s₃=>wpAny (model X.prog X.w) X.A (newFunctionEnv scope X.env.globals (Zd1 X.env.cells scope.names []) [] X.env.qual none .none (some X.env)) (fun cenv s₄=>
   codeAny (model X.prog X.w) X.A (.compStart (.ListComp elt [⟨tg,iter,ifs,0⟩] scope pos) 0 (.ref it) acc { cenv with scope:=relabel scope X.env }) (compPost (model X.prog X.w) X.A X.xe none R1 acc cenv.locals) s₄) E s₃) E s2:=by
 refine wpAny_newObj_type ?_
 have hD:H2 s2.heap.objs.size=none:=I2.hok.fresh (Nat.le_refl _)
 have I3:L2.Inv X pins σ (upd H2 s2.heap.objs.size (.lst [])) { s2 with heap:=s2.heap.push { cls:=.type "list",dict:=none,data:=.seq ([]:List Value).toArray } }:=
  I2.laid (t':=s2.toks) (fun b u e=>Heap.get?_push_of_some _ e) (Nat.le_refl _) ⟨Nat.zero_le _,[],0,.nil,Heap.get?_push_size _ rfl⟩
 have lt:∀ b∈fp,b < s2.heap.objs.size:=fun b hb'=>by obtain ⟨o,e,_⟩:=T.obj _ _ st2 b hb'; exact Heap.lt_size e
 have f3:∀ b∈fp,ZbM X pins (upd H2 s2.heap.objs.size (.lst [])) b:=fun b hb'=>by
  obtain ⟨h0,h1,h2,h3,h4,h5⟩:=f2 b hb'
  exact ⟨by rw [ZU (Nat.ne_of_lt (lt b hb'))]; exact h0,h1,h2,h3,h4,h5⟩
 have hKD:X.K.lookup s2.heap.objs.size=none:=by
  cases e:X.K.lookup s2.heap.objs.size with
  | none=>rfl
  | some o=>exact absurd (Heap.lt_size (I2.kIn _ o e)) (Nat.lt_irrefl _)
 obtain ⟨σ',W,hl,hσ,⟨m0,w0⟩,turn⟩:=hb _ hD hKD
 generalize hs3:({ s2 with heap:=s2.heap.push { cls:=.type "list",dict:=none,data:=.seq ([]:List Value).toArray } }:Shared)=s3 at I3
 have h3:s3.heap=s2.heap.push { cls:=.type "list",dict:=none,data:=.seq ([]:List Value).toArray }:=by rw [<-hs3]
 have lt3:∀ b∈fp,b < s3.heap.objs.size:=fun b hb'=>by rw [h3,Heap.size_push]; exact Nat.lt_succ_of_lt (lt b hb')
 refine wpAny_newFunctionEnv S.nocell (by intro y hy; simp at hy) (fun h4 hn4 hs4=>?_) S.kind
 have kp:∀ b o,s3.heap.get? b=some o->h4.get? b=some o:=fun b o e=>hs4.extBut b o (Nat.ne_of_lt (Heap.lt_size e)) (Heap.get?_push_of_some _ e)
 have I4:L2.Inv (Z1 X N scope s3.heap.objs.size s3 (upd H2 s2.heap.objs.size (.lst [])) fp) [] σ' (upd H2 s2.heap.objs.size (.lst [])) { s3 with heap:=h4,toks:=s3.toks+([]:List (Str×Value)).length }:=
  Zcf S I3 hc f3 lt3 kp hn4 hl hσ
 have st4:tn 0 h4:=T.keep _ _ _ st2 fun b hb' o e=>kp b o (by rw [h3]; exact Heap.get?_push_of_some _ e)
 have loop:codeAny (model X.prog X.w) X.A (.compLoop (.ListComp elt [⟨tg,iter,ifs,0⟩] scope pos) 0 (.ref it) (.ref s2.heap.objs.size) (compEnvC scope (Zd1 X.env.cells scope.names []) s3.heap.objs.size X.env)) (compPost (model X.prog X.w) X.A X.xe none R1 (.ref s2.heap.objs.size) s3.heap.objs.size)
   { s3 with heap:=h4,toks:=s3.toks+([]:List (Str×Value)).length }:=by
  refine ZgF (C:=C) (E:=E1) (Y:=Z1 X N scope s3.heap.objs.size s3 (upd H2 s2.heap.objs.size (.lst [])) fp) T rfl rfl rfl rfl (hg _ _ _ _) (hi _ _ _ _) (he _ _ _ _) (fun pn pins' Wx σ1 H1 s1 e s' J0 hfp cx=>Zke hs0 hf0 I3 (fun b hb'=>⟨f3 b hb',by obtain ⟨o,e,_⟩:=T.obj _ _ st2 b hb'; exact ⟨o,by rw [h3]; exact Heap.get?_push_of_some _ e⟩⟩) J0 hfp cx hX) W _ turn (fun σ5 H5 s5 I5 dn=>?_) I4 st4 (fun b hb'=>(f3 b hb').1) m0 w0
  obtain ⟨mC,hnC,_⟩:=I5.loc
  have big:s3.heap.objs.size<=s3.heap.objs.size:=Nat.le_refl _
  refine hRR _ s3.heap.objs.size H5 s5 mC (ZfT I3 f3 I5) ?_ hnC dn
  have q:=I3.fpOk (H':=H5) big I5.free
  exact q
 exact codeAny_compStart_list loop (T.self _ 0 _ _ _ st4 loop)
theorem Zjz {C:Addr} {E1:XK} {tg elt iter:Expr} {ifs:List Expr} {scope:Scope} {pos:Pos} {N:List Str} {g:TG} {te:TE} {tt:TT} {wi:TI} (S:CompScope X scope) (hc:X.calm=true) (hit:PI X tg iter wi)
  (hg:∀ C s3 H3 fp,PG (Z1 X N scope C s3 H3 fp) tg g) (hi:∀ C s3 H3 fp,PTs (Z1 X N scope C s3 H3 fp) ifs tt) (he:∀ Ca s3 H3 fp (pn:List (Addr×Obj)) (W:Value->Shared->Prop),JS (CX1 X.prog X.w C) { Z1 X N scope Ca s3 H3 fp with pn:=pn,xe:=W } E1->PE { Z1 X N scope Ca s3 H3 fp with pn:=pn,xe:=W } elt te) (hs0:X.stack=X.env::X.outer) (hf0:X.env.frame=some X.env.locals) (hX:Zbi X C E1)
  (hs:∀ x,foldedSetIterable iter X.env x=pure x:=by intro _; rfl) :
  PE X (.ListComp elt [⟨tg,iter,ifs,0⟩] scope pos) (fun σ H Q=>Zg1 X.K wi (Zap X N scope σ g tt te) σ H Q):=by
 intro pins s σ H Q I h
 rw [eval_ListComp]
 refine wpAny_comprehension_free (use:=none) rfl hs (Ue (S.cells I.ok)) S.kind S.loc (wpAny_mono (hit pins s σ H _ I h) (fun xv s₁ h₁=>wpAny_mono h₁ (fun itv s₂ h₂=>?_) fun _ _ z=>z) fun _ _ z=>z)
 obtain ⟨it,fp,tn,J,H2,rfl,I2,T,st2,f2,hb⟩:=h₂
 refine ZiH (C:=C) (E1:=E1) (R1:=EP X pins σ Q) (wi:=wi) S hc I2 T st2 f2 hg hi he hs0 hf0 hX hb ?_
 intro Dl C H' s' m hI hC hn q
 exact ⟨m,hn,fun h'' hs''=>⟨.ref Dl,H',hI h'' hs'',rfl,q⟩⟩
end
noncomputable def rdX (K:Frag) (W:Hp->Prop) (p:DT):TE:=fun σ H _=>∃ ρ F0 H0 F,EnvOk K F0 H0 F σ H ρ/\p ρ=some true/\∀ F' H',Grow F0 H0 F' H'->W H'
noncomputable def EX (X:Cx) (W:Hp->Prop) (e:Expr) (p:DT):Prop:=PE X e (rdX X.K W p)
noncomputable def Zls (b:DG) (f:DE) (p:DT):List D->Rho->Option Bool
 | [],_=>some false
 | x::xs,ρ=>(b x ρ).bind fun ρ1=>(p ρ1).bind fun r=>match r with
  | true=>some true
  | false=>(f ρ1).bind fun _=>Zls b f p xs ρ1
noncomputable def ZgR (caps:List (Option Nat)) (it:DI) (b:DG) (f:DE) (p:DT):DT:=fun ρ=>(it ρ).bind fun xs=>if xs.length<=lim then Zls b f p xs (JE caps ρ) else none
theorem ZlH {X:Cx} {e:Expr} {t u:TE} (h1:PE X e t) (h2:PE X e u):PE X e (fun σ H Q=>t σ H Q\/u σ H Q):=fun pins s σ H Q I h=>h.elim (h1 pins s σ H Q I) (h2 pins s σ H Q I)
section
variable {X:Cx} {pos:Pos} {tg elt iter:Expr} {C:Addr} {E1:XK}
theorem Zjs {W0:Hp->Prop} {p:DT} {scope:Scope} {N:List Str} {caps:List (Option Nat)} {b:DG} {f:DE} {it:DI} (C0:ZmK X N scope caps) (hno:Zbj b) {σ:L2.St} {H:Hp} {Q:VK} (h:rdX X.K W0 (ZgR caps it b f p) σ H Q) :
  Zg1 X.K (rdI X.K it) (Zap X N scope σ (rdG X.K b) (rdT X.K ZH) (fun σ H Q=>rd X.K f σ H Q\/rdX X.K W0 p σ H Q)) σ H Q:=by
  obtain ⟨ρ,F0,H0,F,ok,e,q⟩:=h
  obtain ⟨xs,ex,e⟩:=bind_some e
  by_cases hz:xs.length<=lim
  ·rw [if_pos hz] at e
   refine ⟨ρ,F0,H0,F,xs,ok,ex,fun J F1 H1 g1 hJ Dl hD hK=>?_⟩
   have ok1:=ok.grow g1
   have nF1:¬ F1 Dl:=fun z=>by
    rcases ok1.fz Dl z with z | ⟨o,z⟩
    ·exact z hD
    ·rw [hK] at z; cases z
   have oks:EnvOk X.K F1 H1 F1 (Zbc caps σ) (upd H1 Dl (.lst [])) (JE caps ρ):=(EnvOk.capt (N:=N) (scope:=scope) ok1).grow (.laid0 hD)
   have gx:Ext X.K F1 H1 F1 (upd H1 Dl (.lst [])):=(Grow.laid0 hD).ext
   refine ⟨Zbc caps σ,fun i m σ2 H2=>m=xs.length-i/\i<=xs.length/\∃ ρ2 F2 ys pre,EnvOk X.K F1 H1 F2 σ2 H2 ρ2/\NoOwn ρ2/\Ext X.K F1 H1 F2 H2/\H2 Dl=some (.lst ys)/\¬ F2 Dl/\RepL X.K F2 H2 pre ys/\pre.length<=i/\Zls b f p (xs.drop i) ρ2=some true,
    by simp [Zbc,C0.len],fun i x v e1 e2 e3=>?_,⟨xs.length,by simp,Nat.zero_le _,JE caps ρ,F1,[],[],oks,Zan _ _,gx,ZZ,nF1,.nil,Nat.le_refl _,e⟩,?_⟩
   ·unfold Zbc at e2
    rw [List.getElem?_map] at e2
    obtain ⟨c,ecap,e2⟩:=map_some e2
    obtain ⟨j,rfl,e2⟩:=bind_some e2
    obtain ⟨h1,h2,h3,h4⟩:=C0.ok i j x ecap e1
    exact ⟨h4,j,h1,by simpa [Option.join_eq_some_iff] using e2,h2,h3⟩
   ·rintro i m σ2 H2 ⟨rfl,hi',ρ2,F2,ys,pre,ok2,no2,x2,hD2,nF2,rp2,hl2,e2⟩
    obtain ⟨hgo,hst⟩:=hJ F2 H2 x2
    by_cases hlt:i < xs.length
    ·obtain ⟨go,yl⟩:=hgo i xs[i] (by simp [hlt])
     refine .inr ⟨go,fun x H3 y=>?_⟩
     obtain ⟨F3,g3,rx⟩:=yl x H3 y
     rw [List.drop_eq_getElem_cons hlt] at e2
     unfold Zls at e2
     obtain ⟨ρ3,eb,e2⟩:=bind_some e2
     obtain ⟨r,ep,e2⟩:=bind_some e2
     have no3:=hno _ _ _ eb no2
     refine ⟨ρ2,F1,H1,F3,xs[i],ρ3,ok2.grow g3,rx,eb,fun σ4 F4 H4 g4 ok4=>⟨ρ3,F1,H1,F4,true,ok4,rfl,fun F5 H5 g5=>?_⟩⟩
     have g35:=g3.trans (g4.trans g5)
     have nF5:∀ {F6:Fz} {H6:Hp},Grow F2 H2 F6 H6->¬ F6 Dl:=fun {F6 H6} g6 z=>by
      rcases g6.new Dl z with z | z
      ·exact nF2 z
      ·rw [hD2] at z; cases z.1
     refine Zpo ?_
     cases r with
     | true=>exact .inr ⟨ρ3,F1,H1,F5,ok4.grow g5,ep,fun F' H' gr=>q F' H' ((ok.base.trans g1).trans gr)⟩
     | false=>
      obtain ⟨d,ef,e3⟩:=bind_some e2
      refine .inl ⟨ρ3,F1,H1,F5,d,ok4.grow g5,ef,fun v F6 H6 g6 r6=>?_⟩
      have g36:=g35.trans g6
      have hD6:=g36.same _ _ hD2
      have xo:=Za3 (K:=X.K) (ys:=ys++[v]) hD6 (nF5 g36)
      refine ⟨ys,hD6,?_,xs.length-(i+1),by omega,rfl,hlt,ρ3,F6,ys++[v],pre++[d],((ok4.grow g5).grow g6).wrtD no3 hD6 (nF5 g36) hD,no3,(x2.trans g36.ext).trans xo,ZZ,nF5 g36,RepL.ext xo ((rp2.grow g36).append (.cons r6 .nil)),by simp; omega,e3⟩
      rw [<-rp2.length]
      have:sizeLine=16777216:=sizeLine_eq
      unfold lim at hz
      omega
    ·have ei:i=xs.length:=by omega
     subst ei
     rw [List.drop_eq_nil_of_le (Nat.le_refl _)] at e2
     cases e2
  ·rw [if_neg hz] at e; cases e
theorem Zmh {scope:Scope} {N:List Str} {caps:List (Option Nat)} {b:DG} {f:DE} {p:DT} {it:DI} {W0:Hp->Prop} (S:CompScope X scope) (C0:ZmK X N scope caps) (hc:X.calm=true) (hit:ID X tg iter it) (hno:Zbj b)
  (hg:∀ C s3 H3 fp,GD (Z1 X N scope C s3 H3 fp) tg b)
  (he:∀ Ca s3 H3 fp (pn:List (Addr×Obj)) (W:Value->Shared->Prop),JS (CX1 X.prog X.w C) { Z1 X N scope Ca s3 H3 fp with pn:=pn,xe:=W } E1->ED { Z1 X N scope Ca s3 H3 fp with pn:=pn,xe:=W } elt f)
  (hx:∀ Ca s3 H3 fp (pn:List (Addr×Obj)) (W:Value->Shared->Prop),JS (CX1 X.prog X.w C) { Z1 X N scope Ca s3 H3 fp with pn:=pn,xe:=W } E1->EX { Z1 X N scope Ca s3 H3 fp with pn:=pn,xe:=W } W0 elt p)
  (hs0:X.stack=X.env::X.outer) (hf0:X.env.frame=some X.env.locals) (hX:Zbi X C E1)
  (hs:∀ x,foldedSetIterable iter X.env x=pure x:=by intro _; rfl) :
  EX X W0 (.ListComp elt [⟨tg,iter,[],0⟩] scope pos) (ZgR caps it b f p):=
 PE.imp (Zjz (N:=N) (g:=rdG X.K b) (tt:=rdT X.K ZH) (te:=fun σ H Q=>rd X.K f σ H Q\/rdX X.K W0 p σ H Q) S hc hit hg (fun _ _ _ _=>QJ) (fun Ca s3 H3 fp pn W hp=>ZlH (he Ca s3 H3 fp pn W hp) (hx Ca s3 H3 fp pn W hp)) hs0 hf0 hX hs) fun σ H Q h=>Zjs C0 hno h
end
section
variable {X:Cx} {pos:Pos} {C:Addr} {E1:XK} {W:Hp->Prop} {e e1 e2:Expr} {es:List Expr}
noncomputable def xFn (n:Nat) (fx:List D->Option D) (a:DA):DT:=fun ρ=>(a ρ).bind fun xs=>if xs.length=n then (fx xs).bind fun b=>(match b with | .bl b=>some b | _=>none) else none
theorem Zit {x:Str} {k k':Nat} {ps:List Str} {fx:List D->Option D} {a:DA} {p:Pos} (d:Zk5 X.prog X.w X.K X.mg X.base x k ps fx C) (hr:Room k' X.A) (hk:k<=k') (hg:Gl X x) (ha:AD X (e::es) a) (hp:JS (CX1 X.prog X.w C) X E1)
  (hdb:(x==("__debug__":Str))=false:=by decide) (he:starEach (e::es) X.env=(false,eval e X.env)::starEach es X.env:=by rfl) (hpl:(backTo pos (starEach es X.env)).any (·.1)=false:=by rfl) :
  EX X (fun H'=>E1 (.ref C) none H') (.Call (.Name x p) (e::es) [] pos) (xFn ps.length fx a):=by
 obtain ⟨fA,fdA,fnA,mA,kA,bA⟩:=d
 refine PE.imp (ZeI (dvs:=[]) fnA (hr.mono hk) hg mA kA bA .nil hp ha hdb he hpl) fun σ H Q zq=>?_
 obtain ⟨ρ,F0,H0,F,ok,ep,q⟩:=zq
 obtain ⟨xs,ex,ep⟩:=bind_some ep
 by_cases hl:xs.length=ps.length
 ·rw [if_pos hl] at ep
  obtain ⟨b,eb,ep⟩:=bind_some ep
  have hb:b=.bl true:=by
   cases b with
   | bl b=>cases ep; rfl
   | _=>cases ep
  subst hb
  refine ⟨ρ,F0,H0,F,xs,ok,ex,fun vs F1 H1 g1 r1=>?_⟩
  have ok1:=ok.grow g1
  exact ⟨xs,F1,hl,by rw [List.append_nil]; exact r1,ok1.fz,eb,fun F' H' g=>q F' H' (ok1.base.trans g)⟩
 ·rw [if_neg hl] at ep; cases ep
theorem ZcG {X:Cx} {es:List Expr}:PA X es (fun _ _ _=>False):=fun _ _ _ _ _ _ _ h=>h.elim
noncomputable def ZoD (p1:DT) (f1:DE) (p2:DT):DT:=fun ρ=>(p1 ρ).bind fun r=>match r with
 | true=>some true
 | false=>(f1 ρ).bind fun _=>p2 ρ
theorem Zmg {p1 p2:DT} {f1:DE} {x1} (h1:EX X W e1 p1) (d1:ED X e1 f1) (h2:EX X W e2 p2) (hs:starEach [e1,e2] X.env=(false,eval e1 X.env)::starEach [e2] X.env:=by rfl) (hs2:starEach [e2] X.env=(false,eval e2 X.env)::starEach [] X.env:=by rfl) :
  EX X W (.Tuple [e1,e2] x1 pos) (ZoD p1 f1 p2):=by
 intro pins s σ H Q I ⟨ρ,F0,H0,F,ok,ep,q⟩
 obtain ⟨r,er,ep⟩:=bind_some ep
 cases r with
 | true=>exact Zhw (YQ h1 ZcG hs) pins s σ H Q I ⟨ρ,F0,H0,F,ok,er,q⟩
 | false=>
  obtain ⟨d,ed,ep⟩:=bind_some ep
  refine Zhw (YQ d1 (YQ h2 ZcG hs2) hs) pins s σ H Q I ⟨ρ,F0,H0,F,d,ok,ed,fun v F1 H1 g1 r1=>⟨ρ,F0,H0,F1,ok.grow g1,ep,q⟩⟩
theorem Ziu {T:String} {x:Str} {p:DT} {np:Pos} (he:EX X W e p) (hg:Gl X x) (hm:X.mg x=none) (hv:bootBuiltins x=some (.type T)) (hn:x≠"__name__":=by decide) (hdb:(x==("__debug__":Str))=false:=by decide)
  (hs:starEach [e] X.env=(false,eval e X.env)::starEach [] X.env:=by rfl) (hpl:(backTo pos (starEach [] X.env)).any (·.1)=false:=by rfl):EX X W (.Call (.Name x np) [e] [] pos) p:=
 PE.imp (Zdu (T:=T) (r:=fun _ _ _=>False) (fun pins s σ H xs us Q I r h=>h.elim) hg hm hv (YQ he ZcG hs) hn hdb hs hpl) fun σ H Q h=>h
theorem Zm8 {i:Nat} {x:Str} {p:DT} {pos':Pos} {rest:List Stmt} (hN:X.N.Nodup) (hi:X.N[i]?=some x) (hx:Loc X.env.scope x) (he:EX X W e p) (hs:swapsWith e (some (.Name x pos')) pos.line X.env=pure false:=by rfl)
  (hf:X.fn x=true\/X.env.scope.names.lookup x=some .local:=by first | exact .inl rfl | exact .inr rfl | assumption) :
  PSs X (.Assign [.Name x pos'] e pos::rest) (fun _ σ H=>∃ ρ F0 H0 F,EnvOk X.K F0 H0 F σ H ρ/\p ρ=some true/\∀ F' H',Grow F0 H0 F' H'->W H'):=
 PSs.imp (J7 (Zds hN hi hx he hs hf) (show PSs X rest (fun _ _ _=>False) from fun _ _ _ _ _ _ h=>h.elim)) fun D σ H h=>h
theorem Zm9 {p:DT} (he:EX X W e p):PSs X [.Return (some e) pos] (fun _ σ H=>∃ ρ F0 H0 F,EnvOk X.K F0 H0 F σ H ρ/\p ρ=some true/\∀ F' H',Grow F0 H0 F' H'->W H'):=
 PSs.imp (Vw (ZkB he)) fun D σ H h=>h
end
noncomputable def dX (p:DT):DS:=fun ρ=>(p ρ).bind fun b=>match b with | true=>some (.rt (.bl true)) | false=>some (.nx ρ)
noncomputable def Zj7 (p:DT):DS:=fun ρ=>(p ρ).map fun b=>.rt (.bl b)
section
variable {X:Cx} {W:Hp->Prop} {st:Stmt} {rest a:List Stmt} {g g':DS} {c e:Expr} {t p:DT} {f:DE} {pos pos':Pos}
theorem Zqs {i:Nat} {x:Str} (hN:X.N.Nodup) (hi:X.N[i]?=some x) (hx:Loc X.env.scope x) (hE:EX X W e p) (hD:ED X e f) (h2:PSs X rest (rdR X.K W g')) (hs:swapsWith e (some (.Name x pos')) pos.line X.env=pure false:=by rfl)
  (hf:X.fn x=true\/X.env.scope.names.lookup x=some .local:=by first | exact .inl rfl | exact .inr rfl | assumption) :
  PSs X (.Assign [.Name x pos'] e pos::rest) (rdR X.K W (Zp (dX p) (Zp (ZM i f) g'))):=by
 intro pins s σ H D I ⟨ρ,F0,H0,F,ok,e1,k⟩
 cases ep:p ρ with
 | none=>
  unfold Zp dX at e1
  rw [ep] at e1; cases e1
 | some b=>
  cases b with
  | true=>exact Zm8 hN hi hx hE hs hf pins s σ H D I ⟨ρ,F0,H0,F,ok,ep,k⟩
  | false=>
   have e2:Zp (ZM i f) g' ρ=some (.rt (.bl true)):=by
    have z:dX p ρ=some (.nx ρ):=by unfold dX; rw [ep]; rfl
    unfold Zp at e1
    rw [z] at e1
    exact e1
   exact ZeD (ZF hN hi hx hD hs hf) Zai h2 pins s σ H D I ⟨ρ,F0,H0,F,ok,e2,k⟩
theorem Zfp (hc:TD X c t) (hr:PSs X a (fun _ _ H=>W H)) (h2:PSs X rest (rdR X.K W g')):PSs X (.If c a [] pos::rest) (rdR X.K W (Zp (ZY t (ZT (Zg (.bl true))) ZA) g')):=by
 intro pins s σ H D I ⟨ρ,F0,H0,F,ok,e1,k⟩
 cases ep:t ρ with
 | none=>
  unfold Zp ZY at e1
  rw [ep] at e1; cases e1
 | some b=>
  cases b with
  | true=>
   refine Zo4 (rest:=rest) hc hr pins s σ H D I ⟨ρ,F0,H0,F,ok,?_,k⟩
   unfold Zp ZY
   rw [ep]; rfl
  | false=>
   have e2:g' ρ=some (.rt (.bl true)):=by
    have z:ZY t (ZT (Zg (.bl true))) ZA ρ=some (.nx ρ):=by unfold ZY; rw [ep]; rfl
    unfold Zp at e1
    rw [z] at e1
    exact e1
   have hn:PSs X a (fun _ _ _=>False):=fun _ _ _ _ _ _ h=>h.elim
   exact J7 (ZlA hc hn ZK) h2 pins s σ H D I ⟨ρ,F0,H0,F,false,ok,ep,fun F' H' gr=>⟨ρ,F0,H0,F',.nx ρ,ok.grow gr,rfl,fun σ' F2 H2 x2 ok2=>⟨ρ,F0,H0,F2,ok2,e2,k⟩⟩⟩
theorem Zlp (hE:EX X W e p):PSs X [.Return (some e) pos] (rdR X.K W (Zj7 p)):=by
 intro pins s σ H D I ⟨ρ,F0,H0,F,ok,e1,k⟩
 obtain ⟨b,ep,e2⟩:=map_some e1
 cases e2
 exact Zm9 hE pins s σ H D I ⟨ρ,F0,H0,F,ok,ep,k⟩
theorem Zfo:PSs X rest (rdR X.K W (ZT (Zg (.bl false)))):=fun pins s σ H D I ⟨ρ,F0,H0,F,ok,e1,k⟩=>by cases e1
end
end L3
namespace Pl
open PySem PySem.Spec PyProof.Rows L2 L3
noncomputable def V0:DS:=(ZT (Za9 (Ze QI (Zd 0) (Zg (.str (Str.ofString "")))) (Zv Zmn (Zb (YH [none] (ZcX (Zd 0)) (Zz 0) ZH (Ze Zj8 (Zd 0) (Zg (.str (Str.ofString "0123456789"))))) Zk))))
noncomputable def Z4:List D->Option D:=Zq 1 V0
noncomputable def VZ:DS:=(Zp (ZM 1 (dIf (Zn (Ze JC (Zd 0) (Zg (.str (Str.ofString "-"))))) (ZdV (Zd 0) (ZN (Zg (.int 1))) Z2) (Zd 0)))
 (Zp (ZY (Wf (Yk (Zn (dFn 1 Z4 (Zb (Zd 1) Zk)))) (Zn (Ze dGt (Zv Qs (Zb (Zd 1) Zk)) (Zv Qs (Zb (Zv UN (Zb (Zg (.int 100)) Zk)) Zk))))) Zc4 ZA)
 (ZT (Zv ZdY (Zb (Zd 0) Zk)))))
noncomputable def ZI:List D->Option D:=Zq 2 VZ
noncomputable def ZaW:DS:=(Zp (ZM 1 (Ze Yg (Zd 0) (Zg (.str (Str.ofString ",")))))
 (Zp (ZY (Zn (Ze QI (Zv Qs (Zb (Zd 1) Zk)) (Zg (.int 2)))) Zc4 ZA)
 (ZT (Qr (Zb (dFn 1 ZI (Zb (Ze dIx (Zd 1) (Zg (.int 0))) Zk)) (Zb (dFn 1 ZI (Zb (Ze dIx (Zd 1) (Zg (.int 1))) Zk)) Zk))))))
noncomputable def ZO:List D->Option D:=Zq 2 ZaW
noncomputable def Zii:DS:=(Zp (ZM 1 (Zv Yo (Zb (YH [none] (YR (Ze Yg (Zd 0) (Zg (.str (Str.ofString " "))))) (Zz 0) ZH (dFn 1 ZO (Zb (Zd 0) Zk))) Zk)))
 (Zp (ZY (Yk (Zn (dFn 1 Z0 (Zb (Zd 1) Zk)))) Zc4 ZA)
 (Zp (ZY (Zn (Ze QI (dFn 1 QF (Zb (Zd 1) Zk)) (Zd 0))) Zc4 ZA)
 (ZT (Zd 1)))))
noncomputable def UL:List D->Option D:=Zq 2 Zii
noncomputable def Vh:DS:=(Zp (ZM 2 (Ze Yg (Zd 0) (Zg (.str (Str.ofString " ")))))
 (Zp (ZM 3 (Ze Yu (Ze Qu (Zd 1) (Zg (.int 8))) (Zv Qs (Zb (Zd 2) Zk))))
 (Zp (ZM 4 (Ze Yu (Ze Qu (Zd 1) (Zg (.int 8))) (Ze ZE (Zv Qs (Zb (Zd 0) Zk)) (Zg (.int 1)))))
 (Zp (ZM 5 (Ze Yu (Zd 1) (Zg (.int 8))))
 (Zp (ZY (Zn (Ze U4 (Zd 5) (Zg (.int 0)))) (ZT (Ze ZE (ZdV (Zd 0) Z2 (ZN (Zd 4))) (ZdV (Zd 0) (ZN (Ze ZE (Zd 4) (Zg (.int 1)))) Z2))) ZA)
 (Zp (ZY (Zn (Ze dLt (Zd 5) (Zg (.int 3)))) (Zp (ZM 6 (Ze dIx (Zg (.str (Str.ofString " 0123456789,,-+_\n\t"))) (Ze Yu (Ze Qu (Zd 1) (Zg (.int 7))) (Zg (.int 18)))))
 (ZT (Ze ZE (Ze ZE (ZdV (Zd 0) Z2 (ZN (Zd 4))) (Zd 6)) (ZdV (Zd 0) (ZN (Ze QH (Ze ZE (Zd 4) (Zd 5)) (Zg (.int 1)))) Z2)))) ZA)
 (Zp (ZY (Zn (Ze U4 (Zd 5) (Zg (.int 3)))) (ZT (Ze JD (Zg (.str (Str.ofString " "))) (Ze ZE (dSl (Zd 2) Z2 (ZN (Zd 3))) (dSl (Zd 2) (ZN (Ze ZE (Zd 3) (Zg (.int 1)))) Z2)))) ZA)
 (Zp (ZY (Zn (Ze U4 (Zd 5) (Zg (.int 4)))) (ZT (Ze JD (Zg (.str (Str.ofString " "))) (Ze ZE (Ze ZE (dSl (Zd 2) Z2 (ZN (Zd 3))) (dSl (Zd 2) (ZN (Zd 3)) (ZN (Ze ZE (Zd 3) (Zg (.int 1)))))) (dSl (Zd 2) (ZN (Zd 3)) Z2)))) ZA)
 (Zp (ZY (Zn (Ze U4 (Zd 5) (Zg (.int 5)))) (Zp (ZM 7 (Ze ZE (dSl (Zd 2) (ZN (Ze ZE (Zd 3) (Zg (.int 1)))) (ZN (Ze ZE (Zd 3) (Zg (.int 2))))) (dSl (Zd 2) (ZN (Zd 3)) (ZN (Ze ZE (Zd 3) (Zg (.int 1)))))))
 (ZT (Ze JD (Zg (.str (Str.ofString " "))) (Ze ZE (Ze ZE (dSl (Zd 2) Z2 (ZN (Zd 3))) (Zd 7)) (dSl (Zd 2) (ZN (Ze ZE (Zd 3) (Zg (.int 2)))) Z2))))) ZA)
 (Zp (ZM 8 (Ze Yg (Zg (.str (Str.ofString "0,0 1,0 -1,5 00,1 -0,1 100,7 101,3 3 2,2,2 9,-9 +1,2 1,"))) (Zg (.str (Str.ofString " ")))))
 (ZT (Ze JD (Zg (.str (Str.ofString " "))) (Ze ZE (Ze ZE (dSl (Zd 2) Z2 (ZN (Zd 3))) (Wz (Zb (Ze dIx (Zd 8) (Ze Yu (Ze Qu (Zd 1) (Zg (.int 7))) (Zg (.int 12)))) Zk))) (dSl (Zd 2) (ZN (Ze ZE (Zd 3) (Zg (.int 1)))) Z2))))))))))))))
noncomputable def Yb:List D->Option D:=Zq 9 Vh
noncomputable def Ui:DS:=(Zp (ZM 1 (ZdV (Zd 0) (ZN (Zv Za7 (Zb (Ze JC (Zd 0) (Zg (.str (Str.ofString "-")))) Zk))) Z2))
 (Zp (ZY (Wf (Yk (Zn (Q8 dLe dLe (Zg (.int 1)) (Zv Qs (Zb (Zd 1) Zk)) (Zg (.int 3))))) (Zn (Ze QI (YH [none] (ZcX (Zd 1)) (Zz 0) (Zn (Ze dLt (Ze Za8 (Zg (.str (Str.ofString "0123456789"))) (Zd 0)) (Zg (.int 0)))) (Zd 0)) (Wz Zk)))) (ZT (Zg .non)) ZA)
 (ZT (Zv ZdY (Zb (Zd 0) Zk)))))
noncomputable def ZX:List D->Option D:=Zq 2 Ui
noncomputable def Zb8:DS:=(Zp (ZM 1 (Qr Zk))
 (Zp (V6 (YR (Ze Yg (Zd 0) (Zg (.str (Str.ofString " "))))) (Zz 2) (Zp (ZM 3 (YH [none] (YR (Ze Yg (Zd 2) (Zg (.str (Str.ofString ","))))) (Zz 0) ZH (dFn 1 ZX (Zb (Zd 0) Zk))))
 (Zp (ZY (Wf (Zn (Ze QI (Zv Qs (Zb (Zd 3) Zk)) (Zg (.int 2)))) (Zn (Ze ZfQ (Zg .non) (Zd 3)))) (ZT (Zg .non)) ZA)
 (ZM 1 (Ze ZE (Zd 1) (Qr (Zb (Zv Yo (Zb (Zd 3) Zk)) Zk)))))))
 (Zp (ZY (Wf (Yk (Zn (dFn 1 Zy (Zb (Zd 1) Zk)))) (Zn (Ze QI (dFn 1 ZP (Zb (Zd 1) Zk)) (Zd 0)))) (ZT (Zg .non)) ZA)
 (ZT (Zd 1)))))
noncomputable def Qh:List D->Option D:=Zq 4 Zb8
noncomputable def Jy:DS:=(Zp (ZM 1 (dIf (Zn (Ze JC (Zd 0) (Zg (.str (Str.ofString "-"))))) (ZdV (Zd 0) (ZN (Zg (.int 1))) Z2) (Zd 0)))
 (Zp (ZY (Wf (Yk (Zn (dFn 1 Z4 (Zb (Zd 1) Zk)))) (Zn (Ze dGt (Zv Qs (Zb (Zd 1) Zk)) (Zv Qs (Zb (Zv UN (Zb (Zg (.int 100)) Zk)) Zk))))) (ZT (Zg (.bl true))) ZA)
 (ZT (Zg (.bl false)))))
noncomputable def ZG:List D->Option D:=Zq 2 Jy
noncomputable def UH:DS:=(Zp (ZM 1 (Ze Yg (Zd 0) (Zg (.str (Str.ofString ",")))))
 (Zp (ZY (Zn (Ze QI (Zv Qs (Zb (Zd 1) Zk)) (Zg (.int 2)))) (ZT (Zg (.bl true))) ZA)
 (Zj7 (ZoD (xFn 1 ZG (Zb (Ze dIx (Zd 1) (Zg (.int 0))) Zk)) (dFn 1 ZI (Zb (Ze dIx (Zd 1) (Zg (.int 0))) Zk)) (xFn 1 ZG (Zb (Ze dIx (Zd 1) (Zg (.int 1))) Zk))))))
noncomputable def ZW:List D->Option D:=Zq 2 UH
noncomputable def ZeU:DS:=(Zp (dX (ZgR [none] (YR (Ze Yg (Zd 0) (Zg (.str (Str.ofString " "))))) (Zz 0) (dFn 1 ZO (Zb (Zd 0) Zk)) (xFn 1 ZW (Zb (Zd 0) Zk))))
 (Zp (ZM 1 (Zv Yo (Zb (YH [none] (YR (Ze Yg (Zd 0) (Zg (.str (Str.ofString " "))))) (Zz 0) ZH (dFn 1 ZO (Zb (Zd 0) Zk))) Zk)))
 (Zp (ZY (Yk (Zn (dFn 1 Z0 (Zb (Zd 1) Zk)))) (ZT (Zg (.bl true))) ZA)
 (Zp (ZY (Zn (Ze QI (dFn 1 QF (Zb (Zd 1) Zk)) (Zd 0))) (ZT (Zg (.bl true))) ZA)
 (ZT (Zg (.bl false)))))))
noncomputable def UK:List D->Option D:=Zq 2 ZeU
noncomputable def YV:List D->Option D:=fun ds=>(UK ds).bind fun b=>match b with | .bl true=>some .non | _=>UL ds
end Pl
namespace Pl
open PySem PySem.Spec PyProof.Rows L2 L3 PySem.Builtin.Str
theorem ZbS {x y:Str} (h:∀ c∈y.cps.toList,c∈x.cps.toList) (hx:PyData.strOk x=true):PyData.strOk y=true:=by
 unfold PyData.strOk at *
 rw [Array.all_eq_true'] at *
 intro c hc
 exact hx c (by simpa using h c (by simpa using hc))
theorem Zg7 (x:Str) (lo hi:Option Int):∀ c∈(Txt.slice x lo hi).cps.toList,c∈x.cps.toList:=fun c hc=>by
 unfold Txt.slice at hc
 split at hc
 ·exact hc
 ·have hc:c∈(strSliceIndices lo hi 1 x.length).filterMap (x.cps[·]?):=by simpa using hc
  obtain ⟨i,_,e⟩:=List.mem_filterMap.mp hc
  simpa using Array.mem_of_getElem? e
theorem VN {x:Str} (hx:PyData.strOk x=true) (lo hi:Option Int):PyData.strOk (Txt.slice x lo hi)=true:=ZbS (Zg7 x lo hi) hx
theorem ZjC (x:Str) (i j:Nat):∀ c∈(Builtin.Str.strSub x i j).cps.toList,c∈x.cps.toList:=fun c hc=>by
 unfold Builtin.Str.strSub at hc
 have hc:c∈(x.cps.extract i j).toList:=hc
 rw [Array.toList_extract] at hc
 exact List.mem_of_mem_drop (List.mem_of_mem_take hc)
theorem ZjD (x:Str) (i j:Nat):(Builtin.Str.strSub x i j).length<=x.length:=by
 unfold Builtin.Str.strSub
 show (x.cps.extract i j).size<=x.cps.size
 rw [Array.size_extract]
 omega
theorem Zas {x y z:Str} (h:z∈Txt.split x y):(∀ c∈z.cps.toList,c∈x.cps.toList)/\z.length<=x.length:=by
 unfold Txt.split at h
 split at h
 ·cases List.mem_singleton.mp h; exact ⟨fun _ z=>z,Nat.le_refl _⟩
 ·split at h
  ·cases List.mem_singleton.mp h; exact ⟨fun _ z=>z,Nat.le_refl _⟩
  ·unfold Builtin.Str.partsBetween at h
   obtain ⟨⟨i,j⟩,_,rfl⟩:=List.mem_map.mp h
   exact ⟨ZjC x i j,ZjD x i j⟩
theorem VG (x:Str) (cuts:List Nat) (k:Nat):(Builtin.Str.partsBetween x cuts k).length=cuts.length+1:=by
 unfold Builtin.Str.partsBetween
 simp
theorem ZhK (x y:Str):(Builtin.Str.partsBetween x (Builtin.Str.occurrences x y 0 x.length (x.length+1)) y.length).length<=x.length+2:=by
 rw [VG]
 have:=StrLaws.occ_length_le x y 0 x.length (x.length+1)
 omega
theorem JY (x y:Str):(Txt.split x y).length<=x.length+2:=by
 unfold Txt.split
 split
 ·simp
 ·split
  ·simp
  ·exact ZhK x y
theorem Zjj (x y:Str):Txt.split x y≠[]:=by
 unfold Txt.split
 split
 ·simp
 ·split
  ·simp
  ·intro z
   have:=VG x (Builtin.Str.occurrences x y 0 x.length (x.length+1)) y.length
   rw [z] at this; simp at this
theorem Wi {x y:Str} (hy:(y.length==0)=false) (hx:x.length<=90000):Yg (.str x) (.str y)=some (.lst ((Txt.split x y).map .str)):=by
 show (if (y.length==0)=false/\x.length<=lim/\(partsBetween x (occurrences x y 0 x.length (x.length+1)) y.length).length<=lim/\(Txt.split x y).length<=lim then some (D.lst ((Txt.split x y).map .str)) else none)=_
 have h1:=ZhK x y
 have h2:=JY x y
 rw [if_pos ⟨hy,by unfold lim; omega,by unfold lim; omega,by unfold lim; omega⟩]
noncomputable def wt (ws:List Str):Nat:=(ws.map fun w=>w.length+1).sum
theorem ZgS:wt []=0:=rfl
theorem JV (w:Str) (ws:List Str):wt (w::ws)=w.length+1+wt ws:=by simp [wt]
theorem JI (a b:List Str):wt (a++b)=wt a+wt b:=by simp [wt]
theorem Zcr:∀ ws:List Str,ws.length<=wt ws
 | []=>Nat.le_refl _
 | w::ws=>by have:=Zcr ws; rw [JV,List.length_cons]; omega
theorem Zkn:∀ ws:List Str,(ws.map (·.length)).sum+ws.length*1=wt ws
 | []=>rfl
 | w::ws=>by have:=Zkn ws; rw [JV]; simp only [List.map_cons,List.sum_cons,List.length_cons] at *; omega
theorem Zk7 (n:Nat):∀ ws:List Str,wt (ws.take n)<=wt ws:=by
 intro ws
 induction ws generalizing n with
 | nil=>simp
 | cons w ws ih=>
  cases n with
  | zero=>simp [wt]
  | succ n=>
   rw [List.take_succ_cons,JV,JV]
   have:=ih n
   omega
theorem Zk8 (n:Nat):∀ ws:List Str,wt (ws.drop n)<=wt ws:=by
 intro ws
 induction ws generalizing n with
 | nil=>simp
 | cons w ws ih=>
  cases n with
  | zero=>simp
  | succ n=>
   rw [List.drop_succ_cons,JV]
   have:=ih n
   omega
theorem ZmL (ws:List Str) (lo hi:Option Int):wt (L3.cutD ws lo hi)<=wt ws:=by
 unfold L3.cutD
 exact Nat.le_trans (Zk7 _ _) (Zk8 _ _)
theorem ZcW:∀ (ws:List Str),ws≠[]->(Str.join (Str.ofString " ") ws).length+1=wt ws
 | [],h=>absurd rfl h
 | [w],_=>by rw [JV]; show w.length+1=_; rw [ZgS]
 | w::v::ws,_=>by
  have ih:=ZcW (v::ws) (by simp)
  rw [JV,<-ih]
  show (w++Str.ofString " "++Str.join (Str.ofString " ") (v::ws)).length+1=_
  rw [Z7,Z7,Q9]
  omega
theorem Zji (x:Str):wt (Txt.split x (Str.ofString " "))<=x.length+1:=by
 have one:wt [x]=x.length+1:=by rw [JV,ZgS]
 unfold Txt.split
 split
 ·exact Nat.le_of_eq one
 ·split
  ·exact Nat.le_of_eq one
  ·have g:=PySem.StrLaws.glued_between_self x (Str.ofString " ") (x.length+1)
   rw [StrLaws.glued_eq_join] at g
   have:=ZcW (Builtin.Str.partsBetween x (Builtin.Str.occurrences x (Str.ofString " ") 0 x.length (x.length+1)) (Str.ofString " ").length) (fun z=>by
    have:=VG x (Builtin.Str.occurrences x (Str.ofString " ") 0 x.length (x.length+1)) (Str.ofString " ").length
    rw [z] at this; simp at this)
   rw [g] at this
   omega
theorem Zh1:∀ (ws:List Str),(∀ w∈ws,PyData.strOk w=true)->PyData.strOk (Str.join (Str.ofString " ") ws)=true
 | [],_=>ZhG
 | [w],h=>h w List.mem_cons_self
 | w::v::ws,h=>Vb (Vb (h w List.mem_cons_self) (WE _)) (Zh1 (v::ws) fun u hu=>h u (List.mem_cons_of_mem _ hu))
theorem Zdi:∀ ws:List Str,Zbr (ws.map .str)=some ws
 | []=>rfl
 | w::ws=>by
  show (Zbr (ws.map .str)).map _=_
  rw [Zdi ws]; rfl
theorem Zpn {ws:List Str} (h:wt ws<=90000):JD (.str (Str.ofString " ")) (.lst (ws.map .str))=some (.str (Str.join (Str.ofString " ") ws)):=by
 show (Zbr _).bind _=_
 have e:=Zkn ws
 rw [Zdi,Option.bind_some,Q9,e,if_pos (by unfold lim; omega)]
 show some (D.str (Builtin.Str.glued _ _))=_
 rw [StrLaws.glued_eq_join]
theorem Zh2 (ws:List Str):(Str.join (Str.ofString " ") ws).length<=wt ws:=by
 cases ws with
 | nil=>exact Nat.zero_le _
 | cons w ws=>have:=ZcW (w::ws) (by simp); omega
theorem Zka (ws:List Str) (lo hi:Option Int):L3.cutD (ws.map D.str) lo hi=(L3.cutD ws lo hi).map D.str:=by
 unfold L3.cutD
 rw [List.length_map,List.map_take,List.map_drop]
theorem Zj9 {ws:List Str} {lo hi:Option Int} {w:Str} (h:w∈L3.cutD ws lo hi):w∈ws:=by
 unfold L3.cutD at h
 exact List.mem_of_mem_drop (List.mem_of_mem_take h)
theorem ZkY {a b:List Str} (h:wt a+wt b<=90000):ZE (.lst (a.map .str)) (.lst (b.map .str))=some (.lst ((a++b).map .str)):=by
 have h1:=Zcr a
 have h2:=Zcr b
 show (if (a.map D.str).length+(b.map D.str).length<=lim then some (D.lst (a.map D.str++b.map D.str)) else none)=_
 rw [if_pos (by rw [List.length_map,List.length_map]; unfold lim; omega),List.map_append]
theorem ZpH {a b:Str} (h:a.length+b.length<=90000):ZE (.str a) (.str b)=some (.str (a++b)):=by
 show (if a.length+b.length<=lim then some (D.str (a++b)) else none)=_
 rw [if_pos (by unfold lim; omega)]
end Pl
namespace Pl
open PySem PySem.Spec PyProof.Rows L2 L3
@[simp] theorem ZoF (x y:Str):JC (.str x) (.str y)=some (.bl (Txt.startswith x y)):=rfl
@[simp] theorem Zp6 (b:Bool):Za7 [.bl b]=some (.int (if b then 1 else 0)):=rfl
@[simp] theorem Zqd (n:Nat) (fx:List D->Option D) (a:DA) (ρ:Rho):xFn n fx a ρ=(a ρ).bind fun xs=>if xs.length=n then (fx xs).bind fun b=>(match b with | .bl b=>some b | _=>none) else none:=rfl
noncomputable abbrev FIG:Str:=Str.ofString "0123456789"
noncomputable def dig (c:Nat):Bool:=decide (c∈FIG.cps.toList)
theorem Zpx:FIG.cps.toList=[48,49,50,51,52,53,54,55,56,57]:=by decide +kernel
theorem dig_iff {c:Nat}:dig c=true ↔ 48<=c/\c<=57:=by
 unfold dig
 rw [Zpx]
 simp
 omega
theorem Zpq (c:Nat):Zj8 (.str ⟨#[c]⟩) (.str FIG)=some (.bl (dig c)):=by
 have:=StrLaws.found_one FIG c
 show some (D.bl (!(Builtin.Str.occurrences FIG ⟨#[c]⟩ 0 FIG.length 1).isEmpty))=_
 rw [this]; rfl
theorem Zme (c:Nat):∃ i:Int,Za8 (.str FIG) (.str ⟨#[c]⟩)=some (.int i)/\decide (i < 0)=!dig c:=by
 have f:=StrLaws.found_one FIG c
 refine ⟨_,rfl,?_⟩
 unfold Txt.find dig
 cases h:Builtin.Str.occurrences FIG ⟨#[c]⟩ 0 FIG.length 1 with
 | nil=>rw [h] at f; rw [<-f]; rfl
 | cons i r=>
  rw [h] at f
  rw [<-f]
  show decide ((i:Int) < 0)=!(!false)
  simp
theorem ZkQ:∀ (cs:List Nat) (s0:Sl),Yh (Zz 0) ZH (Ze Zj8 (Zd 0) (Zg (.str FIG))) (cs.map fun c=>.str ⟨#[c]⟩) (s0::[])=some (cs.map fun c=>.bl (dig c))
 | [],_=>rfl
 | c::cs,s0=>by
  have ih:=ZkQ cs (.val (.str ⟨#[c]⟩))
  simp -implicitDefEqProofs [Yh,Zpq,ih]
theorem ZiS:∀ cs:List Nat,Zbf (cs.map fun c=>D.bl (dig c))=some (cs.map dig)
 | []=>rfl
 | c::cs=>by
  have ih:=ZiS cs
  simp [Zbf,ih]
theorem neS {a b:Str} (ha:PyData.strOk a=true) (hb:PyData.strOk b=true):QI (.str a) (.str b)=some (.bl (!decide (a=b))):=by
 have o:=ZaP (d:=.str a) (n:=0) ⟨ha,Nat.le_refl _⟩ (by decide)
 have o2:=ZaP (d:=.str b) (n:=0) ⟨hb,Nat.le_refl _⟩ (by decide)
 unfold QI
 rw [o,o2]
 show some (D.bl (!PyData.eqv (.str a) (.str b)))=_
 have:PyData.eqv (.str a) (.str b)=decide (a=b):=by
  by_cases h:a=b
  ·subst h; simp [PyData.eqv]
  ·simp [PyData.eqv,h]
 rw [this]
theorem Zpl {z:Str}:z=Str.ofString "" ↔ z.length=0:=by
 have e0:Str.ofString ""=Str.empty:=by decide +kernel
 rw [e0]
 constructor
 ·intro h; subst h; rfl
 ·intro h
  apply Uq
  rw [Qk] at h
  exact List.eq_nil_of_length_eq_zero h
theorem Zoh {z:Str} (h:PyData.strOk z=true) (hl:z.length<=90000):Z4 [.str z]=some (.bl (!decide (z.length=0)&&z.cps.toList.all dig)):=by
 have n:=neS h (WE "")
 have c:=ZkQ z.cps.toList .no
 have b:=ZiS z.cps.toList
 have lz:(chD z).length<=lim:=by unfold chD; rw [List.length_map,<-Qk]; unfold lim; omega
 have q:decide (z=Str.ofString "")=decide (z.length=0):=by simp only [Zpl]
 rw [q] at n
 have a:Zmn [.lst (z.cps.toList.map fun c=>D.bl (dig c))]=some (.bl (z.cps.toList.all dig)):=by
  show ((Zbf _).map fun bs=>D.bl (bs.all id))=_
  rw [b]
  simp [List.all_map]
 have d:YH [none] (ZcX (Zd 0)) (Zz 0) ZH (Ze Zj8 (Zd 0) (Zg (.str FIG))) [.val (.str z)]=some (.lst (z.cps.toList.map fun c=>D.bl (dig c))):=by
  show (if (chD z).length<=lim then (Yh _ _ _ (chD z) [.no]).map D.lst else none)=_
  rw [if_pos lz]
  unfold chD
  rw [c]; rfl
 have t:Zv Zmn (Zb (YH [none] (ZcX (Zd 0)) (Zz 0) ZH (Ze Zj8 (Zd 0) (Zg (.str FIG)))) Zk) [.val (.str z)]=some (.bl (z.cps.toList.all dig)):=by
  rw [Ze0,VE,d]
  exact a
 unfold Z4 Zq V0
 show ((Za9 (Ze QI (Zd 0) (Zg (.str (Str.ofString "")))) (Zv Zmn (Zb (YH [none] (ZcX (Zd 0)) (Zz 0) ZH (Ze Zj8 (Zd 0) (Zg (.str FIG)))) Zk)) [.val (.str z)]).map Out.rt).bind _=_
 have m:Za9 (Ze QI (Zd 0) (Zg (.str (Str.ofString "")))) (Zv Zmn (Zb (YH [none] (ZcX (Zd 0)) (Zz 0) ZH (Ze Zj8 (Zd 0) (Zg (.str FIG)))) Zk)) [.val (.str z)]=some (.bl (!decide (z.length=0)&&z.cps.toList.all dig)):=by
  rw [ZkT]
  show (((QI (.str z) (.str (Str.ofString ""))).bind _:Option D))=_
  rw [n]
  cases decide (z.length=0)
  ·exact t
  ·rfl
 rw [m]; rfl
noncomputable abbrev DASH:Str:=Str.ofString "-"
noncomputable def Yz (z:Str):Str:=if Txt.startswith z DASH then Txt.slice z (some 1) none else z
noncomputable def numOk (z:Str):Bool:=(decide (1<=(Yz z).length)&&decide ((Yz z).length<=3))&&(Yz z).cps.toList.all dig
noncomputable def Wq (z:Str):Int:=(intText? z).getD 0
theorem Zin {z:Str} (h:PyData.strOk z=true):PyData.strOk (Yz z)=true:=by
 unfold Yz
 split
 ·exact VN h _ _
 ·exact h
theorem ZfK (z:Str):(Yz z).length<=z.length:=by
 unfold Yz
 split
 ·exact Txt.slice_le z _ _
 ·exact Nat.le_refl _
theorem Zm0 (z:Str):Txt.slice z (some 0) none=z:=by
 rw [PyProof.Rows.slice_from_eq (b:=(z.length:Int)) (by decide) (by omega) rfl]
 apply Uq
 show List.take _ (List.drop 0 z.cps.toList)=_
 rw [List.drop_zero,List.take_of_length_le]
 rw [Qk]; omega
theorem ZqG:∀ a:Fin 10,(intText? ⟨#[45,48+a.val]⟩).isSome=true:=by decide +kernel
theorem ZqF:∀ a b:Fin 10,(intText? ⟨#[45,48+a.val,48+b.val]⟩).isSome=true:=by decide +kernel
theorem ZqE:∀ a b c:Fin 10,(intText? ⟨#[45,48+a.val,48+b.val,48+c.val]⟩).isSome=true:=by decide +kernel
theorem Zom:DASH.cps=#[45]:=by decide +kernel
theorem Zfk {z:Str} (h:Txt.startswith z DASH=true):∃ r,z.cps.toList=45::r/\(Txt.slice z (some 1) none).cps.toList=r:=by
 unfold Txt.startswith Builtin.Str.subAt at h
 have dl:DASH.length=1:=by decide +kernel
 rw [dl,Zom] at h
 simp only [Bool.and_eq_true,decide_eq_true_eq,beq_iff_eq] at h
 obtain ⟨h1,h2⟩:=h
 have h2:(z.cps.extract 0 1).toList=[45]:=by rw [h2]
 rw [Array.toList_extract] at h2
 cases hz:z.cps.toList with
 | nil=>rw [hz] at h2; simp at h2
 | cons c r=>
  rw [hz] at h2
  have hc:c=45:=by simpa using h2
  subst hc
  refine ⟨r,rfl,?_⟩
  rw [PyProof.Rows.slice_from_eq (b:=(z.length:Int)) (by decide) (by omega) rfl]
  show List.take _ (List.drop 1 z.cps.toList)=r
  have hl:=Qk z
  rw [hz] at hl
  rw [hz]
  show List.take _ r=r
  rw [List.take_of_length_le]
  rw [hl,List.length_cons]; omega
theorem ZjI {z:Str} (h:numOk z=true):∃ n,intText? z=some n:=by
 unfold numOk at h
 simp only [Bool.and_eq_true,decide_eq_true_eq] at h
 obtain ⟨⟨h1,h3⟩,ha⟩:=h
 have fig:∀ {c:Nat},dig c=true->∃ a:Fin 10,c=48+a.val:=fun {c} hc=>by
  have:=dig_iff.mp hc
  exact ⟨⟨c-48,by omega⟩,by show c=48+(c-48); omega⟩
 by_cases hs:Txt.startswith z DASH=true
 ·obtain ⟨r,hz,hr⟩:=Zfk hs
  have ef:Yz z=Txt.slice z (some 1) none:=if_pos hs
  rw [Qk,ef,hr] at h1 h3
  rw [ef,hr] at ha
  have key:∀ y:Str,z.cps.toList=y.cps.toList->(intText? y).isSome=true->∃ n,intText? z=some n:=fun y hy hi=>by
   rw [Uq hy]
   exact Option.isSome_iff_exists.mp hi
  match r,hz,ha,h1,h3 with
  | [a],hz,ha,_,_=>
   simp at ha
   obtain ⟨a,rfl⟩:=fig ha
   exact key ⟨#[45,48+a.val]⟩ hz (ZqG a)
  | [a,b],hz,ha,_,_=>
   simp at ha
   obtain ⟨a,rfl⟩:=fig ha.1
   obtain ⟨b,rfl⟩:=fig ha.2
   exact key ⟨#[45,48+a.val,48+b.val]⟩ hz (ZqF a b)
  | [a,b,c],hz,ha,_,_=>
   simp at ha
   obtain ⟨a,rfl⟩:=fig ha.1
   obtain ⟨b,rfl⟩:=fig ha.2.1
   obtain ⟨c,rfl⟩:=fig ha.2.2
   exact key ⟨#[45,48+a.val,48+b.val,48+c.val]⟩ hz (ZqE a b c)
  | [],_,_,h1,_=>simp at h1
  | a::b::c::d::r,_,_,_,h3=>simp at h3
 ·have ef:Yz z=z:=if_neg hs
  rw [ef] at h1 h3 ha
  refine ⟨_,PySem.intText_digits (fun c hc=>?_) (fun e=>?_) (by omega)⟩
  ·have:=dig_iff.mp (List.all_eq_true.mp ha c hc)
   exact this
  ·rw [Qk,e] at h1; simp at h1
theorem Zgx {z:Str} (h:numOk z=true):z.length<=4:=by
 unfold numOk at h
 simp only [Bool.and_eq_true,decide_eq_true_eq] at h
 obtain ⟨⟨h1,h3⟩,ha⟩:=h
 by_cases hs:Txt.startswith z DASH=true
 ·obtain ⟨r,hz,hr⟩:=Zfk hs
  have ef:Yz z=Txt.slice z (some 1) none:=if_pos hs
  rw [Qk,ef,hr] at h3
  rw [Qk,hz,List.length_cons]; omega
 ·have ef:Yz z=z:=if_neg hs
  rw [ef] at h3; omega
theorem ZkK {z:Str} (h:numOk z=true):ZdY [.str z]=some (.int (Wq z)):=by
 obtain ⟨n,e⟩:=ZjI h
 have:=Zgx h
 show (if z.length<=640 then (PySem.intText? z).map D.int else none)=_
 rw [if_pos (by omega)]
 unfold Wq
 rw [e]; rfl
theorem Zkz {z:Str} (hl:z.length<=90000) (a:Sl):ZM 1 (dIf (Zn (Ze JC (Zd 0) (Zg (.str DASH)))) (ZdV (Zd 0) (ZN (Zg (.int 1))) Z2) (Zd 0)) [.val (.str z),a]=some (.nx [.val (.str z),.val (.str (Yz z))]):=by
 have e:(dIf (Zn (Ze JC (Zd 0) (Zg (.str DASH)))) (ZdV (Zd 0) (ZN (Zg (.int 1))) Z2) (Zd 0)) [.val (.str z),a]=some (.str (Yz z)):=by
  show (match Txt.startswith z DASH with | true=>ZbD (some 1) none (.str z) | false=>some (.str z))=_
  unfold Yz
  cases Txt.startswith z DASH
  ·rfl
  ·show (if z.length<=lim then some (D.str (Txt.slice z (some 1) none)) else none)=_
   rw [if_pos (by unfold lim; omega)]; rfl
 rw [Qi,e]; rfl
noncomputable abbrev rnT:DT:=(Wf (Yk (Zn (dFn 1 Z4 (Zb (Zd 1) Zk)))) (Zn (Ze dGt (Zv Qs (Zb (Zd 1) Zk)) (Zv Qs (Zb (Zv UN (Zb (Zg (.int 100)) Zk)) Zk)))))
theorem ZeP:Zv Qs (Zb (Zv UN (Zb (Zg (.int 100)) Zk)) Zk)=fun _=>some (.int 3):=by
 funext ρ
 have s:UN [.int 100]=some (.str (Str.ofString (toString (100:Int)))):=by
  show (if (100:Int).natAbs.log2 < 1920 then some (D.str (Str.ofString (toString (100:Int)))) else none)=_
  rw [if_pos (by decide)]
 have l:(Str.ofString (toString (100:Int))).length=3:=by decide +kernel
 show (Option.bind ((UN [.int 100]).bind fun x=>some [x]) Qs:Option D)=_
 rw [s]
 show (if (Str.ofString (toString (100:Int))).length<=lim then some (D.int ((Str.ofString (toString (100:Int))).length:Nat)) else none)=_
 rw [l,if_pos (by unfold lim; omega)]; rfl
theorem Zho {z:Str} (h:PyData.strOk z=true) (hl:z.length<=90000):rnT [.val (.str z),.val (.str (Yz z))]=some (!numOk z):=by
 have fl:=ZfK z
 have f:=Zoh (Zin h) (z:=Yz z) (by omega)
 have lz:Qs [.str (Yz z)]=some (.int (Yz z).length):=by
  show (if (Yz z).length<=lim then some (D.int ((Yz z).length:Nat)) else none)=_
  rw [if_pos (by unfold lim; omega)]
 have t2:(Zn (Ze dGt (Zv Qs (Zb (Zd 1) Zk)) (Zv Qs (Zb (Zv UN (Zb (Zg (.int 100)) Zk)) Zk)))) [.val (.str z),.val (.str (Yz z))]=some (decide ((3:Int) < (Yz z).length)):=by
  rw [ZeP]
  show ((((Qs [.str (Yz z)]).bind fun x=>dGt x (.int 3)).bind _:Option Bool))=_
  rw [lz]; rfl
 have t1:(Yk (Zn (dFn 1 Z4 (Zb (Zd 1) Zk)))) [.val (.str z),.val (.str (Yz z))]=some (!(!decide ((Yz z).length=0)&&(Yz z).cps.toList.all dig)):=by
  show ((((Z4 [.str (Yz z)]).bind _:Option Bool)).bind _:Option Bool)=_
  rw [f]; rfl
 show (Wf (Yk (Zn (dFn 1 Z4 (Zb (Zd 1) Zk)))) _) [.val (.str z),.val (.str (Yz z))]=_
 rw [Zfi,t1,Option.bind_some,t2]
 unfold numOk
 cases ha:(Yz z).cps.toList.all dig
 ·simp
 ·by_cases h0:(Yz z).length=0
  ·simp [h0]
  ·have h1:decide (1<=(Yz z).length)=true:=by simp; omega
   simp only [h0,h1,decide_false,Bool.not_false,Bool.and_self,Bool.not_true,Bool.true_and,Bool.and_true]
   congr 1
   by_cases h3:(Yz z).length<=3
   ·simp [h3]; omega
   ·simp [h3]; omega
theorem Zna {z:Str} (h:PyData.strOk z=true) (hl:z.length<=90000):ZG [.str z]=some (.bl (!numOk z)):=by
 have s1:=Zkz hl .no
 have t:=Zho h hl
 unfold ZG Zq Jy
 show (Zp (ZM 1 _) (Zp (ZY rnT _ _) _) [.val (.str z),.no]).bind _=_
 rw [Zs,s1]
 show (Zp (ZY rnT _ _) _ [.val (.str z),.val (.str (Yz z))]).bind _=_
 rw [Zs,Qj,t]
 cases numOk z <;> rfl
theorem Zo5 {z:Str} (h:PyData.strOk z=true) (hl:z.length<=90000) (hn:numOk z=true):ZI [.str z]=some (.int (Wq z)):=by
 have s1:=Zkz hl .no
 have t:=Zho h hl
 have i:=ZkK hn
 rw [hn] at t
 unfold ZI Zq VZ
 show (Zp (ZM 1 _) (Zp (ZY rnT _ _) _) [.val (.str z),.no]).bind _=_
 rw [Zs,s1]
 show (Zp (ZY rnT _ _) _ [.val (.str z),.val (.str (Yz z))]).bind _=_
 rw [Zs,Qj,t]
 show (((ZdY [.str z]).map Out.rt:Option Out).bind _)=_
 rw [i]; rfl
noncomputable def UZ (z:Str):D:=if numOk z then .int (Wq z) else .non
theorem ZkF:∀ (cs:List Nat) (s0:Sl),Yh (Zz 0) (Zn (Ze dLt (Ze Za8 (Zg (.str FIG)) (Zd 0)) (Zg (.int 0)))) (Zd 0) (cs.map fun c=>.str ⟨#[c]⟩) (s0::[])=some ((cs.filter fun c=>!dig c).map fun c=>.str ⟨#[c]⟩)
 | [],_=>rfl
 | c::cs,s0=>by
  have ih:=ZkF cs (.val (.str ⟨#[c]⟩))
  obtain ⟨i,e,q⟩:=Zme c
  cases h:dig c
  ·rw [h] at q
   simp -implicitDefEqProofs [Yh,e,q,ih,h]
  ·rw [h] at q
   simp -implicitDefEqProofs [Yh,e,q,ih,h]
theorem ZnU {cs:List Nat} (h:∀ c∈cs,PyData.strOk ⟨#[c]⟩=true):Lay 30 (.lst (cs.map fun c=>.str ⟨#[c]⟩)):=by
 refine lay_lst.mpr fun e he=>?_
 obtain ⟨c,hc,rfl⟩:=List.mem_map.mp he
 exact ⟨h c hc,Nat.zero_le _⟩
theorem ZnQ {z:Str} (h:PyData.strOk z=true) (hl:z.length<=90000):ZX [.str z]=some (UZ z):=by
 have fl:=ZfK z
 have fo:=Zin h
 have s1:ZM 1 (ZdV (Zd 0) (ZN (Zv Za7 (Zb (Ze JC (Zd 0) (Zg (.str DASH))) Zk))) Z2) [.val (.str z),.no]=some (.nx [.val (.str z),.val (.str (Yz z))]):=by
  have e:(ZdV (Zd 0) (ZN (Zv Za7 (Zb (Ze JC (Zd 0) (Zg (.str DASH))) Zk))) Z2) [.val (.str z),.no]=some (.str (Yz z)):=by
   show ZbD (some (if Txt.startswith z DASH then 1 else 0)) none (.str z)=_
   show (if z.length<=lim then some (D.str (Txt.slice z (some (if Txt.startswith z DASH then 1 else 0)) none)) else none)=_
   rw [if_pos (by unfold lim; omega)]
   unfold Yz
   cases Txt.startswith z DASH
   ·show some (D.str (Txt.slice z (some 0) none))=_
    rw [Zm0]; rfl
   ·rfl
  rw [Qi,e]; rfl
 have lz:Qs [.str (Yz z)]=some (.int (Yz z).length):=by
  show (if (Yz z).length<=lim then some (D.int ((Yz z).length:Nat)) else none)=_
  rw [if_pos (by unfold lim; omega)]
 have t1:(Yk (Zn (Q8 dLe dLe (Zg (.int 1)) (Zv Qs (Zb (Zd 1) Zk)) (Zg (.int 3))))) [.val (.str z),.val (.str (Yz z))]=some (!(decide (1<=(Yz z).length)&&decide ((Yz z).length<=3))):=by
  have e:(Q8 dLe dLe (Zg (.int 1)) (Zv Qs (Zb (Zd 1) Zk)) (Zg (.int 3))) [.val (.str z),.val (.str (Yz z))]=some (.bl (decide (1<=(Yz z).length)&&decide ((Yz z).length<=3))):=by
   show ((Qs [.str (Yz z)]).bind fun y=>(dLe (.int 1) y).bind fun z=>match z with
    | .bl true=>dLe y (.int 3)
    | .bl false=>some (.bl false)
    | _=>none)=_
   rw [lz,Option.bind_some,Zp2,Option.bind_some]
   have q1:decide ((1:Int)<=((Yz z).length:Int))=decide (1<=(Yz z).length):=by
    by_cases c:1<=(Yz z).length
    ·simp [c]; omega
    ·simp [c]; omega
   have q3:decide (((Yz z).length:Int)<=3)=decide ((Yz z).length<=3):=by
    by_cases c:(Yz z).length<=3
    ·simp [c]; omega
    ·simp [c]; omega
   rw [q1]
   cases decide (1<=(Yz z).length)
   ·rfl
   ·show dLe (.int ((Yz z).length:Nat)) (.int 3)=_
    rw [Zp2,q3]; rfl
  rw [Zlf,ZiE,e]; rfl
 have t2:(Zn (Ze QI (YH [none] (ZcX (Zd 1)) (Zz 0) (Zn (Ze dLt (Ze Za8 (Zg (.str FIG)) (Zd 0)) (Zg (.int 0)))) (Zd 0)) (Wz Zk))) [.val (.str z),.val (.str (Yz z))]=some (!(Yz z).cps.toList.all dig):=by
  have c:=ZkF (Yz z).cps.toList .no
  have lc:(chD (Yz z)).length<=lim:=by unfold chD; rw [List.length_map,<-Qk]; unfold lim; omega
  have d:YH [none] (ZcX (Zd 1)) (Zz 0) (Zn (Ze dLt (Ze Za8 (Zg (.str FIG)) (Zd 0)) (Zg (.int 0)))) (Zd 0) [.val (.str z),.val (.str (Yz z))]=some (.lst (((Yz z).cps.toList.filter fun c=>!dig c).map fun c=>.str ⟨#[c]⟩)):=by
   show (if (chD (Yz z)).length<=lim then (Yh _ _ _ (chD (Yz z)) [.no]).map D.lst else none)=_
   rw [if_pos lc]
   unfold chD
   rw [c]; rfl
  have n:=ZkI (ZnU (cs:=(Yz z).cps.toList.filter fun c=>!dig c) fun c hc=>ZbS (x:=Yz z) (fun c' hc'=>by
   have:c'=c:=by simpa using hc'
   subst this
   exact (List.mem_filter.mp hc).1) fo)
  rw [ZiE,V5,d]
  show ((QI (.lst (((Yz z).cps.toList.filter fun c=>!dig c).map fun c=>.str ⟨#[c]⟩)) (.lst [])).bind _:Option Bool)=_
  rw [n]
  show some (!(((Yz z).cps.toList.filter fun c=>!dig c).map _).isEmpty)=_
  congr 2
  generalize (Yz z).cps.toList=cs
  induction cs with
  | nil=>rfl
  | cons c cs ih=>
   cases hc:dig c
   ·simp [hc]
   ·simp [hc] at ih ⊢
    exact ih
 unfold ZX Zq Ui
 show (Zp (ZM 1 _) (Zp (ZY (Wf (Yk (Zn (Q8 dLe dLe (Zg (.int 1)) (Zv Qs (Zb (Zd 1) Zk)) (Zg (.int 3))))) _) _ _) _) [.val (.str z),.no]).bind _=_
 rw [Zs,s1]
 show (Zp (ZY (Wf _ _) _ _) _ [.val (.str z),.val (.str (Yz z))]).bind _=_
 rw [Zs,Qj,Zfi,t1,Option.bind_some]
 unfold UZ
 have hd:numOk z=((decide (1<=(Yz z).length)&&decide ((Yz z).length<=3))&&(Yz z).cps.toList.all dig):=rfl
 cases h1:(decide (1<=(Yz z).length)&&decide ((Yz z).length<=3))
 ·rw [h1,Bool.false_and] at hd
  rw [hd]; rfl
 ·rw [h1,Bool.true_and] at hd
  show ((match (((Zn (Ze QI _ (Wz Zk))) [.val (.str z),.val (.str (Yz z))]).bind fun b=>match b with | true=>ZT (Zg .non) [.val (.str z),.val (.str (Yz z))] | false=>ZA [.val (.str z),.val (.str (Yz z))]) with
   | some (.nx ρ1)=>ZT (Zv ZdY (Zb (Zd 0) Zk)) ρ1
   | r=>r).bind _:Option D)=_
  rw [t2,<-hd]
  cases hn:numOk z
  ·rfl
  ·show (((ZdY [.str z]).map Out.rt:Option Out).bind _)=_
   rw [ZkK hn]; rfl
noncomputable abbrev COM:Str:=Str.ofString ","
noncomputable abbrev BLK:Str:=Str.ofString " "
noncomputable def Zbh (x:Str):Prop:=PyData.strOk x=true/\x.length<=90000
theorem UW {x y z:Str} (h:Zbh x) (hz:z∈Txt.split x y):Zbh z:=by
 obtain ⟨a,b⟩:=Zas hz
 exact ⟨ZbS a h.1,Nat.le_trans b h.2⟩
theorem ZkW:(COM.length==0)=false:=by decide +kernel
theorem ZfW:(BLK.length==0)=false:=by decide +kernel
noncomputable def spotOk (w:Str):Bool:=match Txt.split w COM with | [p,q]=>numOk p&&numOk q | _=>false
noncomputable def W3 (w:Str):Pt:=match Txt.split w COM with | [p,q]=>(Wq p,Wq q) | _=>(0,0)
theorem Zkx {w:Str} (h:Zbh w):ZM 1 (Ze Yg (Zd 0) (Zg (.str COM))) [.val (.str w),.no]=some (.nx [.val (.str w),.val (.lst ((Txt.split w COM).map .str))]):=by
 have e:=Wi ZkW h.2
 rw [Qi]
 show ((Yg (.str w) (.str COM)).map _:Option Out)=_
 rw [e]; rfl
theorem Zp1 {α:Type} {l:List α} (h:l.length=2):∃ a b,l=[a,b]:=by
 match l,h with
 | [a,b],_=>exact ⟨a,b,rfl⟩
theorem Zhl {w:Str} (a:Sl):(Zn (Ze QI (Zv Qs (Zb (Zd 1) Zk)) (Zg (.int 2)))) [a,.val (.lst ((Txt.split w COM).map .str))]=some (!decide ((Txt.split w COM).length=2)):=by
 show ((QI (.int (((Txt.split w COM).map D.str).length:Nat)) (.int 2)).bind _:Option Bool)=_
 rw [ZnL,List.length_map]
 show some (!decide (((Txt.split w COM).length:Int)=2))=_
 congr 2
 by_cases h:(Txt.split w COM).length=2
 ·simp [h]
 ·simp [h]; omega
theorem Zo3 {w:Str} (h:Zbh w):ZW [.str w]=some (.bl (!spotOk w)):=by
 have s1:=Zkx h
 have t:=Zhl (w:=w) (.val (.str w))
 unfold ZW Zq UH
 show (Zp (ZM 1 _) (Zp (ZY (Zn (Ze QI _ _)) _ _) _) [.val (.str w),.no]).bind _=_
 rw [Zs,s1]
 show (Zp (ZY (Zn (Ze QI _ _)) _ _) _ [.val (.str w),.val (.lst ((Txt.split w COM).map .str))]).bind _=_
 rw [Zs,Qj,t]
 by_cases hl:(Txt.split w COM).length=2
 ·obtain ⟨p,q,e⟩:=Zp1 hl
  have hp:=UW h (z:=p) (by rw [e]; simp)
  have hq:=UW h (z:=q) (by rw [e]; simp)
  have x1:=Zna hp.1 hp.2
  have x2:=Zna hq.1 hq.2
  have v1:=Zo5 hp.1 hp.2
  have sp:spotOk w=(numOk p&&numOk q):=by unfold spotOk; rw [e]
  rw [sp,e]
  show (((Zj7 _ [.val (.str w),.val (.lst [.str p,.str q])]):Option Out).bind _)=_
  have m:(ZoD (xFn 1 ZG (Zb (Ze dIx (Zd 1) (Zg (.int 0))) Zk)) (dFn 1 ZI (Zb (Ze dIx (Zd 1) (Zg (.int 0))) Zk)) (xFn 1 ZG (Zb (Ze dIx (Zd 1) (Zg (.int 1))) Zk))) [.val (.str w),.val (.lst [.str p,.str q])]=some (!(numOk p&&numOk q)):=by
   have a1:(xFn 1 ZG (Zb (Ze dIx (Zd 1) (Zg (.int 0))) Zk)) [.val (.str w),.val (.lst [.str p,.str q])]=some (!numOk p):=by
    show ((ZG [.str p]).bind _:Option Bool)=_
    rw [x1]; rfl
   have a2:(xFn 1 ZG (Zb (Ze dIx (Zd 1) (Zg (.int 1))) Zk)) [.val (.str w),.val (.lst [.str p,.str q])]=some (!numOk q):=by
    show ((ZG [.str q]).bind _:Option Bool)=_
    rw [x2]; rfl
   unfold ZoD
   rw [a1]
   cases hn:numOk p
   ·rfl
   ·have b1:(dFn 1 ZI (Zb (Ze dIx (Zd 1) (Zg (.int 0))) Zk)) [.val (.str w),.val (.lst [.str p,.str q])]=some (.int (Wq p)):=v1 hn
    show (Option.bind ((dFn 1 ZI (Zb (Ze dIx (Zd 1) (Zg (.int 0))) Zk)) [.val (.str w),.val (.lst [.str p,.str q])]) fun _=>_)=_
    rw [b1,Option.bind_some,a2]; rfl
  unfold Zj7
  rw [m]; rfl
 ·have sp:spotOk w=false:=by
   unfold spotOk
   split
   ·rename_i p q e; rw [e] at hl; exact absurd rfl hl
   ·rfl
  rw [sp]
  simp only [hl,decide_false,Bool.not_false]
  rfl
theorem ZpR {w:Str} (h:Zbh w) (hs:spotOk w=true):ZO [.str w]=some (pD (W3 w)):=by
 have s1:=Zkx h
 have t:=Zhl (w:=w) (.val (.str w))
 have hl:∃ p q,Txt.split w COM=[p,q]/\numOk p=true/\numOk q=true:=by
  unfold spotOk at hs
  split at hs
  ·rename_i p q e
   exact ⟨p,q,e,(Bool.and_eq_true_iff.mp hs).1,(Bool.and_eq_true_iff.mp hs).2⟩
  ·cases hs
 obtain ⟨p,q,e,n1,n2⟩:=hl
 have hp:=UW h (z:=p) (by rw [e]; simp)
 have hq:=UW h (z:=q) (by rw [e]; simp)
 have v1:=Zo5 hp.1 hp.2 n1
 have v2:=Zo5 hq.1 hq.2 n2
 have sv:W3 w=(Wq p,Wq q):=by unfold W3; rw [e]
 rw [sv]
 rw [e] at s1 t
 unfold ZO Zq ZaW
 show (Zp (ZM 1 _) (Zp (ZY (Zn (Ze QI _ _)) _ _) _) [.val (.str w),.no]).bind _=_
 rw [Zs,s1]
 show (Zp (ZY (Zn (Ze QI _ _)) _ _) _ [.val (.str w),.val (.lst [.str p,.str q])]).bind _=_
 have t':(Zn (Ze QI (Zv Qs (Zb (Zd 1) Zk)) (Zg (.int 2)))) [.val (.str w),.val (.lst [.str p,.str q])]=some false:=t
 rw [Zs,Qj,t']
 show (((Qr (Zb (dFn 1 ZI (Zb (Ze dIx (Zd 1) (Zg (.int 0))) Zk)) (Zb (dFn 1 ZI (Zb (Ze dIx (Zd 1) (Zg (.int 1))) Zk)) Zk)) [.val (.str w),.val (.lst [.str p,.str q])]).map Out.rt:Option Out).bind _)=_
 have b1:(dFn 1 ZI (Zb (Ze dIx (Zd 1) (Zg (.int 0))) Zk)) [.val (.str w),.val (.lst [.str p,.str q])]=some (.int (Wq p)):=v1
 have b2:(dFn 1 ZI (Zb (Ze dIx (Zd 1) (Zg (.int 1))) Zk)) [.val (.str w),.val (.lst [.str p,.str q])]=some (.int (Wq q)):=v2
 rw [ZiD,VE,b1,Option.bind_some,VE,b2]
 show (((if (2:Nat)<=lim then some (D.tup [.int (Wq p),.int (Wq q)]) else none).map Out.rt:Option Out).bind _)=_
 rw [if_pos (by unfold lim; omega)]; rfl
theorem Zne:∀ (ws:List Str) (s0:Sl),(∀ w∈ws,Zbh w)->Zls (Zz 0) (dFn 1 ZO (Zb (Zd 0) Zk)) (xFn 1 ZW (Zb (Zd 0) Zk)) (ws.map .str) (s0::[])=some (!ws.all spotOk)
 | [],_,_=>rfl
 | w::ws,s0,h=>by
  have ih:=Zne ws (.val (.str w)) fun u hu=>h u (List.mem_cons_of_mem _ hu)
  have x:=Zo3 (h w List.mem_cons_self)
  have v:=ZpR (h w List.mem_cons_self)
  have a:(xFn 1 ZW (Zb (Zd 0) Zk)) [.val (.str w)]=some (!spotOk w):=by
   show ((ZW [.str w]).bind _:Option Bool)=_
   rw [x]; rfl
  show (Option.bind ((xFn 1 ZW (Zb (Zd 0) Zk)) [.val (.str w)]) fun r=>match r with
   | true=>some true
   | false=>((dFn 1 ZO (Zb (Zd 0) Zk)) [.val (.str w)]).bind fun _=>Zls (Zz 0) (dFn 1 ZO (Zb (Zd 0) Zk)) (xFn 1 ZW (Zb (Zd 0) Zk)) (ws.map .str) [.val (.str w)])=_
  rw [a]
  cases hs:spotOk w
  ·simp [hs]
  ·have b:(dFn 1 ZO (Zb (Zd 0) Zk)) [.val (.str w)]=some (pD (W3 w)):=v hs
   rw [List.all_cons,hs,Bool.true_and,<-ih]
   show (Option.bind ((dFn 1 ZO (Zb (Zd 0) Zk)) [.val (.str w)]) fun _=>_)=_
   rw [b]; rfl
theorem ZmQ:∀ (ws:List Str) (s0:Sl),(∀ w∈ws,Zbh w)->ws.all spotOk=true->Yh (Zz 0) ZH (dFn 1 ZO (Zb (Zd 0) Zk)) (ws.map .str) (s0::[])=some ((ws.map W3).map pD)
 | [],_,_,_=>rfl
 | w::ws,s0,h,hs=>by
  rw [List.all_cons] at hs
  have hs:=Bool.and_eq_true_iff.mp hs
  have ih:=ZmQ ws (.val (.str w)) (fun u hu=>h u (List.mem_cons_of_mem _ hu)) hs.2
  have v:=ZpR (h w List.mem_cons_self) hs.1
  simp -implicitDefEqProofs [Yh,v,ih]
noncomputable def Je (x:Str):List Str:=Txt.split x BLK
noncomputable def YB (x:Str):List Pt:=(Je x).map W3
noncomputable def goodT (x:Str):Bool:=(Je x).all spotOk
theorem Zcs {x:Str} (h:Zbh x):∀ w∈Je x,Zbh w:=fun w hw=>UW h hw
theorem Zde {x:Str} (h:Zbh x):((Je x).map D.str).length<=lim:=by
 rw [List.length_map]
 have:=JY x BLK
 have:=h.2
 unfold Je lim
 omega
theorem ZfJ {x:Str} (h:Zbh x) (a:Sl):YR (Ze Yg (Zd 0) (Zg (.str BLK))) [.val (.str x),a]=some ((Je x).map .str):=by
 have e:=Wi ZfW h.2
 show ((Yg (.str x) (.str BLK)).bind _:Option (List D))=_
 rw [e]; rfl
noncomputable def Zcj (x:Str):D:=if goodT x&&isPl (.tup ((YB x).map pD))&&decide (VM (YB x)=x) then .tup ((YB x).map pD) else .non
theorem ZjS {d:D} (h:isPl d=true):∃ ps:List Pt,d=.tup (ps.map pD)/\UE ps.length=true/\All (Rg 100) ps/\Uo ps=true:=by
 cases d with
 | tup ds=>
  by_cases h1:UE ds.length=true
  ·by_cases h2:ds.all spB=true
   ·obtain ⟨ps,rfl,hr⟩:=Ze6 h2
    rw [List.length_map] at h1
    rw [ZcZ h1 hr] at h
    exact ⟨ps,rfl,h1,hr,h⟩
   ·simp [isPl,h2] at h
  ·have:UE ds.length=false:=by simpa using h1
   simp [isPl,this] at h
 | _=>simp [isPl] at h
theorem Zgn {a b:List Pt} (h:a.map pD=b.map pD):a=b:=by
 have:=congrArg (List.map ZmT) h
 rwa [Zcw,Zcw] at this
theorem Zdo {x:Str} (h:isPl (.tup ((YB x).map pD))=true):UE (YB x).length=true/\All (Rg 100) (YB x)/\Uo (YB x)=true:=by
 obtain ⟨ps,e,a,b,c⟩:=ZjS h
 have:YB x=ps:=Zgn (D.tup.inj e)
 rw [this]
 exact ⟨a,b,c⟩
section
variable {x:Str}
noncomputable abbrev Zni:DT:=(ZgR [none] (YR (Ze Yg (Zd 0) (Zg (.str (Str.ofString " "))))) (Zz 0) (dFn 1 ZO (Zb (Zd 0) Zk)) (xFn 1 ZW (Zb (Zd 0) Zk)))
theorem Zqt (h:Zbh x):Zni [.val (.str x),.no]=some (!goodT x):=by
 unfold Zni ZgR
 rw [ZfJ h]
 show (if ((Je x).map D.str).length<=lim then Zls _ _ _ ((Je x).map .str) [.no] else none)=_
 rw [if_pos (Zde h),Zne _ _ (Zcs h)]; rfl
theorem ZkA (h:Zbh x) (hg:goodT x=true):ZM 1 (Zv Yo (Zb (YH [none] (YR (Ze Yg (Zd 0) (Zg (.str (Str.ofString " "))))) (Zz 0) ZH (dFn 1 ZO (Zb (Zd 0) Zk))) Zk)) [.val (.str x),.no]=some (.nx [.val (.str x),.val (.tup ((YB x).map pD))]):=by
 have d:YH [none] (YR (Ze Yg (Zd 0) (Zg (.str (Str.ofString " "))))) (Zz 0) ZH (dFn 1 ZO (Zb (Zd 0) Zk)) [.val (.str x),.no]=some (.lst ((YB x).map pD)):=by
  rw [WB,ZfJ h,Option.bind_some,if_pos (Zde h)]
  show (Yh _ _ _ ((Je x).map .str) [.no]).map D.lst=_
  rw [ZmQ _ _ (Zcs h) hg]; rfl
 rw [Qi,Ze0,VE,d]; rfl
theorem Znh (a:Sl):(Yk (Zn (dFn 1 Z0 (Zb (Zd 1) Zk)))) [a,.val (.tup ((YB x).map pD))]=some (!isPl (.tup ((YB x).map pD))):=by
 have e:=Zh8 (.tup ((YB x).map pD))
 show (((Z0 [.tup ((YB x).map pD)]).bind _:Option Bool).bind _:Option Bool)=_
 rw [e]; rfl
theorem Zng (h:Zbh x) (hp:isPl (.tup ((YB x).map pD))=true):(Zn (Ze QI (dFn 1 QF (Zb (Zd 1) Zk)) (Zd 0))) [.val (.str x),.val (.tup ((YB x).map pD))]=some (!decide (VM (YB x)=x)):=by
 obtain ⟨a,b,c⟩:=Zdo hp
 have w:=ZgT a b c
 have n:=neS (Zew (YB x)) h.1
 show (((QF [.tup ((YB x).map pD)]).bind fun y=>QI y (.str x)).bind _:Option Bool)=_
 rw [w,Option.bind_some,n]; rfl
theorem Zlt (h:Zbh x):UK [.str x]=some (.bl (match Zcj x with | .non=>true | _=>false)):=by
 have x1:=Zqt h
 unfold UK Zq ZeU
 show (Zp (dX Zni) _ [.val (.str x),.no]).bind _=_
 rw [Zs]
 unfold Zcj
 cases hg:goodT x
 ·have e:dX Zni [.val (.str x),.no]=some (.rt (.bl true)):=by unfold dX; rw [x1,hg]; rfl
  rw [e]; rfl
 ·have e:dX Zni [.val (.str x),.no]=some (.nx [.val (.str x),.no]):=by unfold dX; rw [x1,hg]; rfl
  rw [e]
  have s:=ZkA h hg
  show (Zp (ZM 1 _) _ [.val (.str x),.no]).bind _=_
  rw [Zs,s]
  show (Zp (ZY (Yk _) _ _) _ [.val (.str x),.val (.tup ((YB x).map pD))]).bind _=_
  rw [Zs,Qj,Znh]
  cases hp:isPl (.tup ((YB x).map pD))
  ·rfl
  ·show (Zp (ZY (Zn (Ze QI _ _)) _ _) _ [.val (.str x),.val (.tup ((YB x).map pD))]).bind _=_
   rw [Zs,Qj,Zng h hp]
   cases decide (VM (YB x)=x) <;> rfl
theorem Znf (h:Zbh x) (ha:∀ z,Zcj x=z->z≠.non):UL [.str x]=some (Zcj x):=by
 have hn:=ha _ rfl
 unfold Zcj at hn ⊢
 split at hn
 ·rename_i hc
  rw [if_pos hc]
  simp only [Bool.and_eq_true] at hc
  obtain ⟨⟨hg,hp⟩,ht⟩:=hc
  have s:=ZkA h hg
  have t1:=Znh (x:=x) (.val (.str x))
  have t2:=Zng h hp
  rw [hp] at t1
  rw [ht] at t2
  unfold UL Zq Zii
  show (Zp (ZM 1 _) _ [.val (.str x),.no]).bind _=_
  rw [Zs,s]
  show (Zp (ZY (Yk _) _ _) _ [.val (.str x),.val (.tup ((YB x).map pD))]).bind _=_
  rw [Zs,Qj,t1]
  show (Zp (ZY (Zn (Ze QI _ _)) _ _) _ [.val (.str x),.val (.tup ((YB x).map pD))]).bind _=_
  rw [Zs,Qj,t2]; rfl
 ·exact absurd rfl hn
theorem Zmd (h:Zbh x):YV [.str x]=some (Zcj x):=by
 have rx:=Zlt h
 unfold YV
 rw [rx,Option.bind_some]
 by_cases hn:Zcj x=.non
 ·rw [hn]
 ·have r:=Znf h (fun z e q=>hn (e.trans q))
  have hz:∃ ds,Zcj x=.tup ds:=by
   unfold Zcj at hn ⊢
   split
   ·exact ⟨_,rfl⟩
   ·rename_i hc; rw [if_neg hc] at hn; exact absurd rfl hn
  obtain ⟨ds,hz⟩:=hz
  rw [hz] at r ⊢
  exact r
end
noncomputable abbrev duT:DT:=(Wf (Zn (Ze QI (Zv Qs (Zb (Zd 3) Zk)) (Zg (.int 2)))) (Zn (Ze ZfQ (Zg .non) (Zd 3))))
noncomputable abbrev duB:DS:=(Zp (ZM 3 (YH [none] (YR (Ze Yg (Zd 2) (Zg (.str (Str.ofString ","))))) (Zz 0) ZH (dFn 1 ZX (Zb (Zd 0) Zk))))
 (Zp (ZY duT (ZT (Zg .non)) ZA)
 (ZM 1 (Ze ZE (Zd 1) (Qr (Zb (Zv Yo (Zb (Zd 3) Zk)) Zk))))))
theorem ZnI:∀ (ws:List Str) (s0:Sl),(∀ w∈ws,Zbh w)->Yh (Zz 0) ZH (dFn 1 ZX (Zb (Zd 0) Zk)) (ws.map .str) (s0::[])=some (ws.map UZ)
 | [],_,_=>rfl
 | w::ws,s0,h=>by
  have ih:=ZnI ws (.val (.str w)) fun u hu=>h u (List.mem_cons_of_mem _ hu)
  have v:=ZnQ (h w List.mem_cons_self).1 (h w List.mem_cons_self).2
  simp -implicitDefEqProofs [Yh,v,ih]
theorem Zfx (z:Str):Lay 0 (UZ z):=by
 unfold UZ
 split
 ·exact Zh0 _
 ·exact ⟨rfl,Nat.le_refl _⟩
theorem ZjJ (z:Str):deq (UZ z) .non=!numOk z:=by
 unfold UZ
 cases numOk z
 ·rfl
 ·rfl
theorem Zgs (p q:Str):ZfQ .non (.lst [UZ p,UZ q])=some (.bl (!numOk p||!numOk q)):=by
 have l:Lay 1 (.lst [UZ p,UZ q]):=lay_lst.mpr fun e he=>by
  rcases List.mem_cons.mp he with rfl | he
  ·exact Zfx p
  ·cases List.mem_singleton.mp he; exact Zfx q
 have o:=ZaP l (by decide)
 have o0:okD .non=true:=ZaP (d:=.non) (n:=0) ⟨rfl,Nat.le_refl _⟩ (by decide)
 unfold ZfQ
 show ((if okD .non&&okD (.lst [UZ p,UZ q]) then some ([UZ p,UZ q].any fun y=>deq y .non) else none).map D.bl:Option D)=_
 rw [o,o0]
 show some (D.bl ([UZ p,UZ q].any fun y=>deq y .non))=_
 simp [ZjJ]
theorem Zok {X:D} {acc:D} {w:Str} (h:Zbh w) (a:Sl):ZM 3 (YH [none] (YR (Ze Yg (Zd 2) (Zg (.str (Str.ofString ","))))) (Zz 0) ZH (dFn 1 ZX (Zb (Zd 0) Zk))) [.val X,.val acc,.val (.str w),a]=some (.nx [.val X,.val acc,.val (.str w),.val (.lst ((Txt.split w COM).map UZ))]):=by
 have e:=Wi ZkW h.2
 have it:YR (Ze Yg (Zd 2) (Zg (.str (Str.ofString ",")))) [.val X,.val acc,.val (.str w),a]=some ((Txt.split w COM).map .str):=by
  show ((Yg (.str w) (.str COM)).bind _:Option (List D))=_
  rw [e]; rfl
 have l:((Txt.split w COM).map D.str).length<=lim:=by
  rw [List.length_map]
  have:=JY w COM
  have:=h.2
  unfold lim; omega
 rw [Qi,WB,it,Option.bind_some,if_pos l]
 show (((Yh _ _ _ ((Txt.split w COM).map .str) [.no]).map D.lst).map _:Option Out)=_
 rw [ZnI _ _ fun z hz=>UW h hz]; rfl
theorem Zol {X:D} {acc:List Pt} {w:Str} (h:Zbh w) (hl:acc.length<=95000) (a:Sl) :
  (spotOk w=false->duB [.val X,.val (.tup (acc.map pD)),.val (.str w),a]=some (.rt .non)) /\
  (spotOk w=true->∃ a',duB [.val X,.val (.tup (acc.map pD)),.val (.str w),a]=some (.nx [.val X,.val (.tup ((acc++[W3 w]).map pD)),.val (.str w),a'])):=by
 have s:=Zok (X:=X) (acc:=.tup (acc.map pD)) h a
 have t1:(Zn (Ze QI (Zv Qs (Zb (Zd 3) Zk)) (Zg (.int 2)))) [.val X,.val (.tup (acc.map pD)),.val (.str w),.val (.lst ((Txt.split w COM).map UZ))]=some (!decide ((Txt.split w COM).length=2)):=by
  show ((QI (.int (((Txt.split w COM).map UZ).length:Nat)) (.int 2)).bind _:Option Bool)=_
  rw [ZnL,List.length_map]
  show some (!decide (((Txt.split w COM).length:Int)=2))=_
  congr 2
  by_cases h:(Txt.split w COM).length=2
  ·simp [h]
  ·simp [h]; omega
 unfold duB
 rw [Zs,s]
 show (_->Zp (ZY duT _ _) _ [.val X,.val (.tup (acc.map pD)),.val (.str w),.val (.lst ((Txt.split w COM).map UZ))]=_)/\(_->∃ a',Zp (ZY duT _ _) _ [.val X,.val (.tup (acc.map pD)),.val (.str w),.val (.lst ((Txt.split w COM).map UZ))]=_)
 rw [Zs,Qj]
 unfold duT
 rw [Zfi,t1,Option.bind_some]
 by_cases hl2:(Txt.split w COM).length=2
 ·obtain ⟨p,q,e⟩:=Zp1 hl2
  have sp:spotOk w=(numOk p&&numOk q):=by unfold spotOk; rw [e]
  have sv:W3 w=(Wq p,Wq q):=by unfold W3; rw [e]
  have i:=Zgs p q
  rw [sp,sv,e]
  have t2:(Zn (Ze ZfQ (Zg .non) (Zd 3))) [.val X,.val (.tup (acc.map pD)),.val (.str w),.val (.lst ([p,q].map UZ))]=some (!numOk p||!numOk q):=by
   show ((ZfQ .non (.lst [UZ p,UZ q])).bind _:Option Bool)=_
   rw [i]; rfl
  have d2:(!decide ([p,q].length=2))=false:=rfl
  rw [d2]
  dsimp only
  rw [t2]
  constructor
  ·intro hf
   have:(!numOk p||!numOk q)=true:=by
    rw [<-Bool.not_and,hf]; rfl
   rw [this]; rfl
  ·intro ht
   have hh:=Bool.and_eq_true_iff.mp ht
   have:(!numOk p||!numOk q)=false:=by rw [<-Bool.not_and,ht]; rfl
   rw [this]
   refine ⟨.val (.lst ([p,q].map UZ)),?_⟩
   have n1:UZ p=.int (Wq p):=by unfold UZ; rw [hh.1]; rfl
   have n2:UZ q=.int (Wq q):=by unfold UZ; rw [hh.2]; rfl
   have ad:ZE (.tup (acc.map pD)) (.tup [.tup [.int (Wq p),.int (Wq q)]])=some (.tup ((acc++[(Wq p,Wq q)]).map pD)):=by
    show (if (acc.map pD).length+1<=lim then some (D.tup (acc.map pD++[.tup [.int (Wq p),.int (Wq q)]])) else none)=_
    rw [if_pos (by rw [List.length_map]; unfold lim; omega),List.map_append]; rfl
   have tp:(Qr (Zb (Zv Yo (Zb (Zd 3) Zk)) Zk)) [.val X,.val (.tup (acc.map pD)),.val (.str w),.val (.lst ([p,q].map UZ))]=some (.tup [.tup [.int (Wq p),.int (Wq q)]]):=by
    rw [ZiD]
    show (if (1:Nat)<=lim then some (D.tup [.tup [UZ p,UZ q]]) else none)=_
    rw [if_pos (by unfold lim; omega),n1,n2]
   show ZM 1 (Ze ZE (Zd 1) (Qr (Zb (Zv Yo (Zb (Zd 3) Zk)) Zk))) [.val X,.val (.tup (acc.map pD)),.val (.str w),.val (.lst ([p,q].map UZ))]=_
   rw [Qi,V5,tp]
   show ((ZE (.tup (acc.map pD)) (.tup [.tup [.int (Wq p),.int (Wq q)]])).map _:Option Out)=_
   rw [ad]; rfl
 ·have sp:spotOk w=false:=by
   unfold spotOk
   split
   ·rename_i p q e; rw [e] at hl2; exact absurd rfl hl2
   ·rfl
  have d2:(!decide ((Txt.split w COM).length=2))=true:=by simp [hl2]
  rw [d2]
  exact ⟨fun _=>rfl,fun z=>by rw [sp] at z; cases z⟩
theorem Ziz {X:D}:∀ (ws:List Str) (acc:List Pt) (a b:Sl),(∀ w∈ws,Zbh w)->acc.length+ws.length<=95000 ->
  (ws.all spotOk=false->QM (Zz 2) duB (ws.map .str) [.val X,.val (.tup (acc.map pD)),a,b]=some (.rt .non)) /\
  (ws.all spotOk=true->∃ a' b',QM (Zz 2) duB (ws.map .str) [.val X,.val (.tup (acc.map pD)),a,b]=some (.nx [.val X,.val (.tup ((acc++ws.map W3).map pD)),a',b']))
 | [],acc,a,b,_,_=>⟨fun z=>(by cases z),fun _=>⟨a,b,(by rw [show List.map W3 []=[] from rfl,List.append_nil]; rfl)⟩⟩
 | w::ws,acc,a,b,h,hl=>by
  rw [List.length_cons] at hl
  obtain ⟨o1,o2⟩:=Zol (X:=X) (acc:=acc) (h w List.mem_cons_self) (by omega) b
  have fx:QM (Zz 2) duB ((w::ws).map .str) [.val X,.val (.tup (acc.map pD)),a,b]=(match duB [.val X,.val (.tup (acc.map pD)),.val (.str w),b] with
   | some (.nx ρ2)=>QM (Zz 2) duB (ws.map .str) ρ2
   | some (.ct ρ2)=>QM (Zz 2) duB (ws.map .str) ρ2
   | some (.bk ρ2)=>some (.nx ρ2)
   | r=>r):=rfl
  rw [fx,List.all_cons]
  cases hs:spotOk w
  ·rw [o1 hs]
   exact ⟨fun _=>rfl,fun z=>by cases z⟩
  ·obtain ⟨a',e⟩:=o2 hs
   rw [e]
   have ih:=Ziz (X:=X) ws (acc++[W3 w]) (.val (.str w)) a' (fun u hu=>h u (List.mem_cons_of_mem _ hu)) (by rw [List.length_append]; simp; omega)
   rw [List.append_assoc] at ih
   exact ih
theorem ZhZ (ps:List Pt):Lay 2 (.tup (ps.map pD)):=lay_tup.mpr fun e he=>by
 obtain ⟨p,_,rfl⟩:=List.mem_map.mp he
 exact ZnV p
theorem Zj6 {x:Str} (h:Zbh x):Qh [.str x]=some (Zcj x):=by
 have hw:=Zcs h
 have hc:=JY x BLK
 have lp:=Ziz (X:=.str x) (Je x) [] .no .no hw (by have:=h.2; unfold Je; simp; omega)
 have s1:ZM 1 (Qr Zk) [.val (.str x),.no,.no,.no]=some (.nx [.val (.str x),.val (.tup []),.no,.no]):=by
  rw [Qi,ZiD]
  show ((if (0:Nat)<=lim then some (D.tup []) else none).map _:Option Out)=_
  rw [if_pos (Nat.zero_le _)]; rfl
 have it:YR (Ze Yg (Zd 0) (Zg (.str (Str.ofString " ")))) [.val (.str x),.val (.tup []),.no,.no]=some ((Je x).map .str):=by
  have e:=Wi ZfW h.2
  show ((Yg (.str x) (.str BLK)).bind _:Option (List D))=_
  rw [e]; rfl
 unfold Qh Zq Zb8
 show (Zp (ZM 1 (Qr Zk)) (Zp (V6 _ (Zz 2) duB) _) [.val (.str x),.no,.no,.no]).bind _=_
 rw [Zs,s1]
 show (Zp (V6 _ (Zz 2) duB) _ [.val (.str x),.val (.tup []),.no,.no]).bind _=_
 rw [Zs,UP,it,Option.bind_some]
 unfold Zcj
 cases hg:goodT x
 ·have:=lp.1 hg
  rw [show QM (Zz 2) duB ((Je x).map .str) [.val (.str x),.val (.tup []),.no,.no]=some (.rt .non) from this]
  rfl
 ·obtain ⟨a',b',e⟩:=lp.2 hg
  rw [show QM (Zz 2) duB ((Je x).map .str) [.val (.str x),.val (.tup []),.no,.no]=some (.nx [.val (.str x),.val (.tup ((YB x).map pD)),a',b']) from e]
  show (Zp (ZY (Wf (Yk (Zn (dFn 1 Zy (Zb (Zd 1) Zk)))) (Zn (Ze QI (dFn 1 ZP (Zb (Zd 1) Zk)) (Zd 0)))) _ _) _ [.val (.str x),.val (.tup ((YB x).map pD)),a',b']).bind _=_
  have pl:=Zb0 (d:=.tup ((YB x).map pD)) ((ZhZ _).up (by decide))
  have t1:(Yk (Zn (dFn 1 Zy (Zb (Zd 1) Zk)))) [.val (.str x),.val (.tup ((YB x).map pD)),a',b']=some (!isPl (.tup ((YB x).map pD))):=by
   show (((Zy [.tup ((YB x).map pD)]).bind _:Option Bool).bind _:Option Bool)=_
   rw [pl]; rfl
  rw [Zs,Qj,Zfi,t1,Option.bind_some]
  cases hp:isPl (.tup ((YB x).map pD))
  ·rfl
  ·obtain ⟨a,b,c⟩:=Zdo hp
   have hl:=lenOk_iff.mp a
   have w:=ZbY (ps:=YB x) (by intro z; rw [z] at hl; simp at hl) hl.2 (Znb b)
   have n:=neS (Zew (YB x)) h.1
   have t2:(Zn (Ze QI (dFn 1 ZP (Zb (Zd 1) Zk)) (Zd 0))) [.val (.str x),.val (.tup ((YB x).map pD)),a',b']=some (!decide (VM (YB x)=x)):=by
    show (((ZP [.tup ((YB x).map pD)]).bind fun y=>QI y (.str x)).bind _:Option Bool)=_
    rw [w,Option.bind_some,n]; rfl
   rw [show (!true)=false from rfl]
   dsimp only
   rw [t2]
   cases decide (VM (YB x)=x) <;> rfl
theorem Zkk {x:Str}:Zcj x=.non\/(∃ ps:List Pt,Zcj x=.tup (ps.map pD)/\isPl (.tup (ps.map pD))=true):=by
 unfold Zcj
 split
 ·rename_i hc
  simp only [Bool.and_eq_true] at hc
  exact .inr ⟨_,rfl,hc.1.2⟩
 ·exact .inl rfl
theorem ZiU {α:Type} {xs:List α} {j:Int} (h0:0<=j) (h1:j < xs.length):∃ d∈xs,atI xs j=some d:=by
 obtain ⟨k,rfl⟩:∃ k:Nat,(k:Int)=j:=⟨j.toNat,by omega⟩
 have hk:k < xs.length:=by omega
 refine ⟨xs[k],List.getElem_mem hk,?_⟩
 unfold atI
 rw [ZeS (by omega) (by omega),Int.emod_eq_of_lt (by omega) (by omega)]
 show xs[((k:Int)).toNat]?=_
 rw [Int.toNat_natCast,List.getElem?_eq_getElem hk]
theorem Zjl {x:Str} (h:x.length<=90000) (lo hi:Option Int):ZbD lo hi (.str x)=some (.str (Txt.slice x lo hi)):=by
 show (if x.length<=lim then some (D.str (Txt.slice x lo hi)) else none)=_
 rw [if_pos (by unfold lim; omega)]
theorem Zau (ws:List Str) (lo hi:Option Int):Za6 lo hi (.lst (ws.map .str))=some (.lst ((L3.cutD ws lo hi).map .str)):=by
 show some (D.lst (L3.cutD (ws.map D.str) lo hi))=_
 rw [Zka]
theorem Zaw {t:DT} {a b:DS} {ρ:Rho} {d:D} (ht:t ρ=some true) (ha:a ρ=some (.rt d)):Zp (ZY t a ZA) b ρ=some (.rt d):=by
 rw [Zs,Qj,ht,Option.bind_some,ha]
theorem Zax {t:DT} {a b:DS} {ρ:Rho} (ht:t ρ=some false):Zp (ZY t a ZA) b ρ=b ρ:=by
 rw [Zs,Qj,ht,Option.bind_some]
 rfl
noncomputable abbrev MARKS:Str:=Str.ofString " 0123456789,,-+_\n\t"
noncomputable abbrev SOME:Str:=Str.ofString "0,0 1,0 -1,5 00,1 -0,1 100,7 101,3 3 2,2,2 9,-9 +1,2 1,"
theorem ZdF:MARKS.cps.toList.length=18:=by decide +kernel
theorem Zfl:SOME.length=55:=by decide +kernel
theorem Zjk:(Txt.split SOME BLK).length=12:=by decide +kernel
theorem ZnM {i:Int} (h0:0<=i) (h1:i < 18):∃ c,dIx (.str MARKS) (.int i)=some (.str ⟨#[c]⟩)/\PyData.strOk ⟨#[c]⟩=true:=by
 obtain ⟨c,hc,e⟩:=ZiU (xs:=MARKS.cps.toList) h0 (by rw [ZdF]; exact h1)
 have hl:MARKS.length<=lim:=by rw [Qk,ZdF]; unfold lim; omega
 refine ⟨c,?_,ZbS (x:=MARKS) (fun c' hc'=>?_) (WE _)⟩
 ·show (if MARKS.length<=lim then (atI MARKS.cps.toList i).map fun c=>D.str ⟨#[c]⟩ else none)=_
  rw [if_pos hl,e]; rfl
 ·have:c'=c:=by simpa using hc'
  rw [this]; exact hc
theorem ZmZ {i:Int} (h0:0<=i) (h1:i < 12):∃ u,dIx (.lst ((Txt.split SOME BLK).map .str)) (.int i)=some (.str u)/\PyData.strOk u=true/\u.length<=55:=by
 obtain ⟨d,hd,e⟩:=ZiU (xs:=(Txt.split SOME BLK).map D.str) h0 (by rw [List.length_map,Zjk]; exact h1)
 obtain ⟨u,hu,rfl⟩:=List.mem_map.mp hd
 obtain ⟨a,b⟩:=Zas hu
 exact ⟨u,e,ZbS a (WE _),by rw [Zfl] at b; exact b⟩
section
variable {x:Str} {n:Int}
theorem ZiL (hn:0<=n) (hx:PyData.strOk x=true) (hl:x.length<=20000):∃ y,Yb [.str x,.int n]=some (.str y)/\PyData.strOk y=true/\y.length+30<=4*(x.length+30):=by
 have sp:=Wi (x:=x) ZfW (by omega)
 have wW:=Zji x
 have wk:∀ w∈Txt.split x BLK,PyData.strOk w=true:=fun w hw=>ZbS (Zas hw).1 hx
 have w0:=Zjj x BLK
 generalize hW:Txt.split x BLK=W at sp wW wk w0
 have wl:0 < W.length:=List.length_pos_iff.mpr w0
 have v8:=Wy (i:=n) (j:=8) (by omega) (by omega)
 have v7:=Wy (i:=n) (j:=7) (by omega) (by omega)
 have m8:=Qq (i:=n) (j:=8) (by omega)
 have mw:=Qq (i:=n / 8) (j:=(W.length:Int)) (by omega)
 have mp:=Qq (i:=n / 8) (j:=(x.length:Int)+1) (by omega)
 have m18:=Qq (i:=n / 7) (j:=18) (by omega)
 have m12:=Qq (i:=n / 7) (j:=12) (by omega)
 have lx:Qs [.str x]=some (.int x.length):=by
  show (if x.length<=lim then some (D.int (x.length:Nat)) else none)=_
  rw [if_pos (by unfold lim; omega)]
 generalize ha:n / 8 % (W.length:Int)=at' at mw
 generalize hp:n / 8 % ((x.length:Int)+1)=pl at mp
 have k0:0<=n % 8:=Int.emod_nonneg _ (by omega)
 have k8:n % 8 < 8:=Int.emod_lt_of_pos _ (by omega)
 generalize hk:n % 8=kd at m8 k0 k8
 have s1:ZM 2 (Ze Yg (Zd 0) (Zg (.str (Str.ofString " ")))) [.val (.str x),.val (.int n),.no,.no,.no,.no,.no,.no,.no]=some (.nx [.val (.str x),.val (.int n),.val (.lst (W.map .str)),.no,.no,.no,.no,.no,.no]):=by
  rw [Qi]
  show ((Yg (.str x) (.str BLK)).map _:Option Out)=_
  rw [sp]; rfl
 have s2:ZM 3 (Ze Yu (Ze Qu (Zd 1) (Zg (.int 8))) (Zv Qs (Zb (Zd 2) Zk))) [.val (.str x),.val (.int n),.val (.lst (W.map .str)),.no,.no,.no,.no,.no,.no]=some (.nx [.val (.str x),.val (.int n),.val (.lst (W.map .str)),.val (.int at'),.no,.no,.no,.no,.no]):=by
  rw [Qi]
  show ((((Qu (.int n) (.int 8)).bind fun y=>Yu y (.int ((W.map D.str).length:Nat))).map _):Option Out)=_
  rw [v8,Option.bind_some,List.length_map,mw]; rfl
 have s3:ZM 4 (Ze Yu (Ze Qu (Zd 1) (Zg (.int 8))) (Ze ZE (Zv Qs (Zb (Zd 0) Zk)) (Zg (.int 1)))) [.val (.str x),.val (.int n),.val (.lst (W.map .str)),.val (.int at'),.no,.no,.no,.no,.no]=some (.nx [.val (.str x),.val (.int n),.val (.lst (W.map .str)),.val (.int at'),.val (.int pl),.no,.no,.no,.no]):=by
  rw [Qi]
  show ((((Qu (.int n) (.int 8)).bind fun y=>((Qs [.str x]).bind fun u=>ZE u (.int 1)).bind fun z=>Yu y z).map _):Option Out)=_
  rw [v8,Option.bind_some,lx,Option.bind_some,Zou,Option.bind_some,mp]; rfl
 have s4:ZM 5 (Ze Yu (Zd 1) (Zg (.int 8))) [.val (.str x),.val (.int n),.val (.lst (W.map .str)),.val (.int at'),.val (.int pl),.no,.no,.no,.no]=some (.nx [.val (.str x),.val (.int n),.val (.lst (W.map .str)),.val (.int at'),.val (.int pl),.val (.int kd),.no,.no,.no]):=by
  rw [Qi]
  show ((Yu (.int n) (.int 8)).map _:Option Out)=_
  rw [m8]; rfl
 have lx9:x.length<=90000:=by omega
 have tq:∀ (j:Int) (a b c:Sl),(Zn (Ze U4 (Zd 5) (Zg (.int j)))) [.val (.str x),.val (.int n),.val (.lst (W.map .str)),.val (.int at'),.val (.int pl),.val (.int kd),a,b,c]=some (decide (kd=j)):=fun j a b c=>by
  show ((U4 (.int kd) (.int j)).bind _:Option Bool)=_
  rw [Zpy]; rfl
 have tl:(Zn (Ze dLt (Zd 5) (Zg (.int 3)))) [.val (.str x),.val (.int n),.val (.lst (W.map .str)),.val (.int at'),.val (.int pl),.val (.int kd),.no,.no,.no]=some (decide (kd < 3)):=by
  show ((dLt (.int kd) (.int 3)).bind _:Option Bool)=_
  rw [ZqI]; rfl
 have cw:=fun (lo hi:Option Int)=>ZmL W lo hi
 have ck:∀ (lo hi:Option Int),∀ w∈L3.cutD W lo hi,PyData.strOk w=true:=fun lo hi w hw=>wk w (Zj9 hw)
 have fin:∀ (ws:List Str),wt ws<=4*(x.length+1)+56->(∀ w∈ws,PyData.strOk w=true)->JD (.str (Str.ofString " ")) (.lst (ws.map .str))=some (.str (Str.join BLK ws))/\PyData.strOk (Str.join BLK ws)=true/\(Str.join BLK ws).length+30<=4*(x.length+30):=fun ws h1 h2=>by
  have jl:=Zh2 ws
  have jl:(Str.join BLK ws).length<=wt ws:=jl
  exact ⟨Zpn (by omega),Zh1 ws h2,by omega⟩
 unfold Yb Zq Vh
 show ∃ y,(Zp (ZM 2 _) (Zp (ZM 3 _) _) [.val (.str x),.val (.int n),.no,.no,.no,.no,.no,.no,.no]).bind _=some (D.str y)/\_
 rw [Zs,s1]
 show ∃ y,(Zp (ZM 3 _) (Zp (ZM 4 _) _) [.val (.str x),.val (.int n),.val (.lst (W.map .str)),.no,.no,.no,.no,.no,.no]).bind _=some (D.str y)/\_
 rw [Zs,s2]
 show ∃ y,(Zp (ZM 4 _) (Zp (ZM 5 _) _) [.val (.str x),.val (.int n),.val (.lst (W.map .str)),.val (.int at'),.no,.no,.no,.no,.no]).bind _=some (D.str y)/\_
 rw [Zs,s3]
 show ∃ y,(Zp (ZM 5 _) (Zp (ZY (Zn (Ze U4 _ _)) _ _) _) [.val (.str x),.val (.int n),.val (.lst (W.map .str)),.val (.int at'),.val (.int pl),.no,.no,.no,.no]).bind _=some (D.str y)/\_
 rw [Zs,s4]
 show ∃ y,(Zp (ZY (Zn (Ze U4 _ _)) _ _) _ [.val (.str x),.val (.int n),.val (.lst (W.map .str)),.val (.int at'),.val (.int pl),.val (.int kd),.no,.no,.no]).bind _=some (D.str y)/\_
 by_cases c0:kd=0
 ·have l1:=Txt.slice_le x none (some pl)
  have l2:=Txt.slice_le x (some (pl+1)) none
  have e:(Ze ZE (ZdV (Zd 0) Z2 (ZN (Zd 4))) (ZdV (Zd 0) (ZN (Ze ZE (Zd 4) (Zg (.int 1)))) Z2)) [.val (.str x),.val (.int n),.val (.lst (W.map .str)),.val (.int at'),.val (.int pl),.val (.int kd),.no,.no,.no]=some (.str (Txt.slice x none (some pl)++Txt.slice x (some (pl+1)) none)):=by
   show ((ZbD none (some pl) (.str x)).bind fun u=>(ZbD (some (pl+1)) none (.str x)).bind fun v=>ZE u v)=_
   rw [Zjl lx9,Option.bind_some,Zjl lx9,Option.bind_some,ZpH (by omega)]
  rw [Zaw (d:=.str (Txt.slice x none (some pl)++Txt.slice x (some (pl+1)) none)) (by rw [tq]; simp [c0]) (by rw [WQ,e]; rfl)]
  exact ⟨_,rfl,Vb (VN hx _ _) (VN hx _ _),by rw [Z7]; omega⟩
 rw [Zax (by rw [tq]; simp [c0])]
 show ∃ y,(Zp (ZY (Zn (Ze dLt _ _)) _ _) _ [.val (.str x),.val (.int n),.val (.lst (W.map .str)),.val (.int at'),.val (.int pl),.val (.int kd),.no,.no,.no]).bind _=some (D.str y)/\_
 by_cases c3:kd < 3
 ·obtain ⟨c,em,om⟩:=ZnM (i:=n / 7 % 18) (Int.emod_nonneg _ (by omega)) (Int.emod_lt_of_pos _ (by omega))
  have l1:=Txt.slice_le x none (some pl)
  have l2:=Txt.slice_le x (some (pl+kd-1)) none
  have lm:(⟨#[c]⟩:Str).length=1:=rfl
  have sm:ZM 6 (Ze dIx (Zg (.str (Str.ofString " 0123456789,,-+_\n\t"))) (Ze Yu (Ze Qu (Zd 1) (Zg (.int 7))) (Zg (.int 18)))) [.val (.str x),.val (.int n),.val (.lst (W.map .str)),.val (.int at'),.val (.int pl),.val (.int kd),.no,.no,.no]=some (.nx [.val (.str x),.val (.int n),.val (.lst (W.map .str)),.val (.int at'),.val (.int pl),.val (.int kd),.val (.str ⟨#[c]⟩),.no,.no]):=by
   rw [Qi]
   show (((((Qu (.int n) (.int 7)).bind fun y=>Yu y (.int 18)).bind fun z=>dIx (.str MARKS) z).map _):Option Out)=_
   rw [v7,Option.bind_some,m18,Option.bind_some,em]; rfl
  have e:(Ze ZE (Ze ZE (ZdV (Zd 0) Z2 (ZN (Zd 4))) (Zd 6)) (ZdV (Zd 0) (ZN (Ze QH (Ze ZE (Zd 4) (Zd 5)) (Zg (.int 1)))) Z2)) [.val (.str x),.val (.int n),.val (.lst (W.map .str)),.val (.int at'),.val (.int pl),.val (.int kd),.val (.str ⟨#[c]⟩),.no,.no]=some (.str (Txt.slice x none (some pl)++⟨#[c]⟩++Txt.slice x (some (pl+kd-1)) none)):=by
   show (((ZbD none (some pl) (.str x)).bind fun u=>ZE u (.str ⟨#[c]⟩)).bind fun u=>(ZbD (some (pl+kd-1)) none (.str x)).bind fun v=>ZE u v)=_
   rw [Zjl lx9,Option.bind_some,ZpH (by omega),Option.bind_some,Zjl lx9,Option.bind_some,ZpH (by rw [Z7]; omega)]
  rw [Zaw (d:=.str (Txt.slice x none (some pl)++⟨#[c]⟩++Txt.slice x (some (pl+kd-1)) none)) (by rw [tl]; simp [c3]) (by rw [Zs,sm]; show ZT _ _=_; rw [WQ,e]; rfl)]
  exact ⟨_,rfl,Vb (Vb (VN hx _ _) om) (VN hx _ _),by rw [Z7,Z7]; omega⟩
 rw [Zax (by rw [tl]; simp [c3])]
 show ∃ y,(Zp (ZY (Zn (Ze U4 _ _)) _ _) _ [.val (.str x),.val (.int n),.val (.lst (W.map .str)),.val (.int at'),.val (.int pl),.val (.int kd),.no,.no,.no]).bind _=some (D.str y)/\_
 by_cases c4:kd=3
 ·have q1:=cw none (some at')
  have q2:=cw (some (at'+1)) none
  obtain ⟨f1,f2,f3⟩:=fin (L3.cutD W none (some at')++L3.cutD W (some (at'+1)) none) (by rw [JI]; omega) (fun w hw=>(List.mem_append.mp hw).elim (ck _ _ w) (ck _ _ w))
  have e:(Ze JD (Zg (.str (Str.ofString " "))) (Ze ZE (dSl (Zd 2) Z2 (ZN (Zd 3))) (dSl (Zd 2) (ZN (Ze ZE (Zd 3) (Zg (.int 1)))) Z2))) [.val (.str x),.val (.int n),.val (.lst (W.map .str)),.val (.int at'),.val (.int pl),.val (.int kd),.no,.no,.no]=some (.str (Str.join BLK (L3.cutD W none (some at')++L3.cutD W (some (at'+1)) none))):=by
   show (((Za6 none (some at') (.lst (W.map .str))).bind fun u=>(Za6 (some (at'+1)) none (.lst (W.map .str))).bind fun v=>ZE u v).bind fun z=>JD (.str (Str.ofString " ")) z)=_
   rw [Zau,Option.bind_some,Zau,Option.bind_some,ZkY (by omega),Option.bind_some,f1]
  rw [Zaw (d:=.str (Str.join BLK (L3.cutD W none (some at')++L3.cutD W (some (at'+1)) none))) (by rw [tq]; simp [c4]) (by rw [WQ,e]; rfl)]
  exact ⟨_,rfl,f2,f3⟩
 rw [Zax (by rw [tq]; simp [c4])]
 show ∃ y,(Zp (ZY (Zn (Ze U4 _ _)) _ _) _ [.val (.str x),.val (.int n),.val (.lst (W.map .str)),.val (.int at'),.val (.int pl),.val (.int kd),.no,.no,.no]).bind _=some (D.str y)/\_
 by_cases c5:kd=4
 ·have q1:=cw none (some at')
  have q2:=cw (some at') (some (at'+1))
  have q3:=cw (some at') none
  obtain ⟨f1,f2,f3⟩:=fin (L3.cutD W none (some at')++L3.cutD W (some at') (some (at'+1))++L3.cutD W (some at') none) (by rw [JI,JI]; omega) (fun w hw=>(List.mem_append.mp hw).elim (fun hw=>(List.mem_append.mp hw).elim (ck _ _ w) (ck _ _ w)) (ck _ _ w))
  have e:(Ze JD (Zg (.str (Str.ofString " "))) (Ze ZE (Ze ZE (dSl (Zd 2) Z2 (ZN (Zd 3))) (dSl (Zd 2) (ZN (Zd 3)) (ZN (Ze ZE (Zd 3) (Zg (.int 1)))))) (dSl (Zd 2) (ZN (Zd 3)) Z2))) [.val (.str x),.val (.int n),.val (.lst (W.map .str)),.val (.int at'),.val (.int pl),.val (.int kd),.no,.no,.no]=some (.str (Str.join BLK (L3.cutD W none (some at')++L3.cutD W (some at') (some (at'+1))++L3.cutD W (some at') none))):=by
   show ((((Za6 none (some at') (.lst (W.map .str))).bind fun u=>(Za6 (some at') (some (at'+1)) (.lst (W.map .str))).bind fun v=>ZE u v).bind fun u=>(Za6 (some at') none (.lst (W.map .str))).bind fun v=>ZE u v).bind fun z=>JD (.str (Str.ofString " ")) z)=_
   rw [Zau,Option.bind_some,Zau,Option.bind_some,ZkY (by omega),Option.bind_some,Zau,Option.bind_some,ZkY (by rw [JI]; omega),Option.bind_some,f1]
  rw [Zaw (d:=.str (Str.join BLK (L3.cutD W none (some at')++L3.cutD W (some at') (some (at'+1))++L3.cutD W (some at') none))) (by rw [tq]; simp [c5]) (by rw [WQ,e]; rfl)]
  exact ⟨_,rfl,f2,f3⟩
 rw [Zax (by rw [tq]; simp [c5])]
 show ∃ y,(Zp (ZY (Zn (Ze U4 _ _)) _ _) _ [.val (.str x),.val (.int n),.val (.lst (W.map .str)),.val (.int at'),.val (.int pl),.val (.int kd),.no,.no,.no]).bind _=some (D.str y)/\_
 by_cases c6:kd=5
 ·have q1:=cw none (some at')
  have q2:=cw (some (at'+1)) (some (at'+2))
  have q3:=cw (some at') (some (at'+1))
  have q4:=cw (some (at'+2)) none
  obtain ⟨f1,f2,f3⟩:=fin (L3.cutD W none (some at')++(L3.cutD W (some (at'+1)) (some (at'+2))++L3.cutD W (some at') (some (at'+1)))++L3.cutD W (some (at'+2)) none) (by rw [JI,JI,JI]; omega)
   (fun w hw=>(List.mem_append.mp hw).elim (fun hw=>(List.mem_append.mp hw).elim (ck _ _ w) (fun hw=>(List.mem_append.mp hw).elim (ck _ _ w) (ck _ _ w))) (ck _ _ w))
  have sl:ZM 7 (Ze ZE (dSl (Zd 2) (ZN (Ze ZE (Zd 3) (Zg (.int 1)))) (ZN (Ze ZE (Zd 3) (Zg (.int 2))))) (dSl (Zd 2) (ZN (Zd 3)) (ZN (Ze ZE (Zd 3) (Zg (.int 1)))))) [.val (.str x),.val (.int n),.val (.lst (W.map .str)),.val (.int at'),.val (.int pl),.val (.int kd),.no,.no,.no]=some (.nx [.val (.str x),.val (.int n),.val (.lst (W.map .str)),.val (.int at'),.val (.int pl),.val (.int kd),.no,.val (.lst ((L3.cutD W (some (at'+1)) (some (at'+2))++L3.cutD W (some at') (some (at'+1))).map .str)),.no]):=by
   rw [Qi]
   show (((Za6 (some (at'+1)) (some (at'+2)) (.lst (W.map .str))).bind fun u=>(Za6 (some at') (some (at'+1)) (.lst (W.map .str))).bind fun v=>ZE u v).map _:Option Out)=_
   rw [Zau,Option.bind_some,Zau,Option.bind_some,ZkY (by omega)]; rfl
  have e:(Ze JD (Zg (.str (Str.ofString " "))) (Ze ZE (Ze ZE (dSl (Zd 2) Z2 (ZN (Zd 3))) (Zd 7)) (dSl (Zd 2) (ZN (Ze ZE (Zd 3) (Zg (.int 2)))) Z2))) [.val (.str x),.val (.int n),.val (.lst (W.map .str)),.val (.int at'),.val (.int pl),.val (.int kd),.no,.val (.lst ((L3.cutD W (some (at'+1)) (some (at'+2))++L3.cutD W (some at') (some (at'+1))).map .str)),.no]=some (.str (Str.join BLK (L3.cutD W none (some at')++(L3.cutD W (some (at'+1)) (some (at'+2))++L3.cutD W (some at') (some (at'+1)))++L3.cutD W (some (at'+2)) none))):=by
   show ((((Za6 none (some at') (.lst (W.map .str))).bind fun u=>ZE u (.lst ((L3.cutD W (some (at'+1)) (some (at'+2))++L3.cutD W (some at') (some (at'+1))).map .str))).bind fun u=>(Za6 (some (at'+2)) none (.lst (W.map .str))).bind fun v=>ZE u v).bind fun z=>JD (.str (Str.ofString " ")) z)=_
   rw [Zau,Option.bind_some,ZkY (by rw [JI]; omega),Option.bind_some,Zau,Option.bind_some,ZkY (by rw [JI,JI]; omega),Option.bind_some,f1]
  rw [Zaw (d:=.str (Str.join BLK (L3.cutD W none (some at')++(L3.cutD W (some (at'+1)) (some (at'+2))++L3.cutD W (some at') (some (at'+1)))++L3.cutD W (some (at'+2)) none))) (by rw [tq]; simp [c6]) (by rw [Zs,sl]; show ZT _ _=_; rw [WQ,e]; rfl)]
  exact ⟨_,rfl,f2,f3⟩
 rw [Zax (by rw [tq]; simp [c6])]
 obtain ⟨u,eu,ou,lu⟩:=ZmZ (i:=n / 7 % 12) (Int.emod_nonneg _ (by omega)) (Int.emod_lt_of_pos _ (by omega))
 have sS:=Wi (x:=SOME) ZfW (by rw [Zfl]; omega)
 have s8:ZM 8 (Ze Yg (Zg (.str (Str.ofString "0,0 1,0 -1,5 00,1 -0,1 100,7 101,3 3 2,2,2 9,-9 +1,2 1,"))) (Zg (.str (Str.ofString " ")))) [.val (.str x),.val (.int n),.val (.lst (W.map .str)),.val (.int at'),.val (.int pl),.val (.int kd),.no,.no,.no]=some (.nx [.val (.str x),.val (.int n),.val (.lst (W.map .str)),.val (.int at'),.val (.int pl),.val (.int kd),.no,.no,.val (.lst ((Txt.split SOME BLK).map .str))]):=by
  rw [Qi]
  show ((Yg (.str SOME) (.str BLK)).map _:Option Out)=_
  rw [sS]; rfl
 have q1:=cw none (some at')
 have q2:=cw (some (at'+1)) none
 have wu:wt [u]=u.length+1:=by rw [JV,ZgS]
 obtain ⟨f1,f2,f3⟩:=fin (L3.cutD W none (some at')++[u]++L3.cutD W (some (at'+1)) none) (by rw [JI,JI,wu]; omega)
  (fun w hw=>(List.mem_append.mp hw).elim (fun hw=>(List.mem_append.mp hw).elim (ck _ _ w) (fun hw=>by cases List.mem_singleton.mp hw; exact ou)) (ck _ _ w))
 have e:(Ze JD (Zg (.str (Str.ofString " "))) (Ze ZE (Ze ZE (dSl (Zd 2) Z2 (ZN (Zd 3))) (Wz (Zb (Ze dIx (Zd 8) (Ze Yu (Ze Qu (Zd 1) (Zg (.int 7))) (Zg (.int 12)))) Zk))) (dSl (Zd 2) (ZN (Ze ZE (Zd 3) (Zg (.int 1)))) Z2))) [.val (.str x),.val (.int n),.val (.lst (W.map .str)),.val (.int at'),.val (.int pl),.val (.int kd),.no,.no,.val (.lst ((Txt.split SOME BLK).map .str))]=some (.str (Str.join BLK (L3.cutD W none (some at')++[u]++L3.cutD W (some (at'+1)) none))):=by
  have eL:(Wz (Zb (Ze dIx (Zd 8) (Ze Yu (Ze Qu (Zd 1) (Zg (.int 7))) (Zg (.int 12)))) Zk)) [.val (.str x),.val (.int n),.val (.lst (W.map .str)),.val (.int at'),.val (.int pl),.val (.int kd),.no,.no,.val (.lst ((Txt.split SOME BLK).map .str))]=some (.lst ([u].map .str)):=by
   rw [Zoo,VE]
   show ((((((Qu (.int n) (.int 7)).bind fun y=>Yu y (.int 12)).bind fun z=>dIx (.lst ((Txt.split SOME BLK).map .str)) z).bind fun z=>some [z]):Option (List D)).bind fun xs=>if xs.length<=lim then some (D.lst xs) else none)=_
   rw [v7,Option.bind_some,m12,Option.bind_some,eu]
   show (if (1:Nat)<=lim then some (D.lst [.str u]) else none)=_
   rw [if_pos (by unfold lim; omega)]; rfl
  rw [V5,Zop,Option.bind_some,V5,V5,eL]
  show ((((Za6 none (some at') (.lst (W.map .str))).bind fun u'=>ZE u' (.lst ([u].map .str))).bind fun u'=>(Za6 (some (at'+1)) none (.lst (W.map .str))).bind fun v=>ZE u' v).bind fun z=>JD (.str (Str.ofString " ")) z)=_
  rw [Zau,Option.bind_some,ZkY (by rw [wu]; omega),Option.bind_some,Zau,Option.bind_some,ZkY (by rw [JI,wu]; omega),Option.bind_some,f1]
 refine ⟨_,?_,f2,f3⟩
 show (Zp (ZM 8 _) _ [.val (.str x),.val (.int n),.val (.lst (W.map .str)),.val (.int at'),.val (.int pl),.val (.int kd),.no,.no,.no]).bind _=_
 rw [Zs,s8]
 show (ZT _ [.val (.str x),.val (.int n),.val (.lst (W.map .str)),.val (.int at'),.val (.int pl),.val (.int kd),.no,.no,.val (.lst ((Txt.split SOME BLK).map .str))]).bind _=_
 rw [WQ,e]; rfl
end
theorem Zht {n wide:Int} (hw:3<=wide) (hw2:wide<=100):∃ ps:List Pt,Y9 [.int n,.int wide]=some (.tup (ps.map pD))/\ps≠[]/\ps.length<=12/\All (Rg 999) ps:=by
 obtain ⟨qs,b,src,b0,b1,pl⟩:=Zj0 (n:=n) (wide:=wide) hw (by omega)
 have pm:=ZeT (qs.map (shf b))
 refine ⟨_,pl,fun z=>?_,?_,fun p hp=>?_⟩
 ·have:=pm.length_eq
  rw [z,List.length_map] at this
  exact src.ne (List.eq_nil_of_length_eq_zero this.symm)
 ·rw [pm.length_eq,List.length_map]
  exact src.len
 ·obtain ⟨r,hr,rfl⟩:=List.mem_map.mp (pm.mem_iff.mp hp)
  have:=src.rng hw r hr
  show (-999<=r.1-b/\r.1-b<=999)/\(-999<=r.2/\r.2<=999)
  omega
theorem Zf5 {n:Int} {k:Nat} (h1:1<=k) (hk:k<=12):(Option.bind (Ya [.int n,.int 5,.int k]) fun x=>Yo [x])=some (.tup ((YA n 5 k).map pD))/\YA n 5 k≠[]/\(YA n 5 k).length<=12/\All (Rg 999) (YA n 5 k):=by
 have sp:=ZdQ (n:=n) (wide:=5) (by decide) (many:=k) (by omega)
 refine ⟨by rw [sp]; rfl,fun z=>?_,by rw [Wh]; omega,fun p hp=>?_⟩
 ·have:=Wh n 5 k
  rw [z] at this; simp at this; omega
 ·obtain ⟨⟨a,b⟩,c,d⟩:=ZbT (n:=n) (wide:=5) (by decide) p hp
  show (-999<=p.1/\p.1<=999)/\(-999<=p.2/\p.2<=999)
  omega
theorem Zjf {ps:List Pt} (h:All (Rg 999) ps) (hl:ps.length<=12):(VM ps).length<=120:=by
 cases ps with
 | nil=>exact Nat.zero_le _
 | cons p ps=>
  have h1:=Zat (h p List.mem_cons_self)
  have h2:=Zc2 (ps:=ps) fun q hq=>h q (List.mem_cons_of_mem _ hq)
  show (spT p++QE ps).length<=120
  rw [Z7]
  rw [List.length_cons] at hl
  omega
end Pl
namespace Pl.k03
open PySem PySem.Spec PyProof.Rows L2 L3 Pl
noncomputable def Zoa:DS:=(Zp (ZM 1 (dFn 2 ZS (Zb (Zd 0) (Zb (Zg (.int 1)) Zk))))
 (Zp (ZM 2 (dFn 2 Y9 (Zb (dFn 2 ZS (Zb (Zd 0) (Zb (Zg (.int 0)) Zk))) (Zb (Ze dIx (Qr (Zb (Zg (.int 4)) (Zb (Zg (.int 9)) (Zb (Zg (.int 100)) Zk)))) (Ze Yu (Ze Qu (Zd 1) (Zg (.int 3))) (Zg (.int 3)))) Zk))))
 (Zp (ZY (Zn (Ze U4 (Ze Yu (Ze Qu (Zd 1) (Zg (.int 9))) (Zg (.int 5))) (Zg (.int 1)))) (ZM 2 (Zv Yo (Zb (dFn 3 Ya (Zb (dFn 2 ZS (Zb (Zd 0) (Zb (Zg (.int 2)) Zk))) (Zb (Zg (.int 5)) (Zb (Ze ZE (Zg (.int 3)) (Ze Yu (Ze Qu (Zd 1) (Zg (.int 45))) (Zg (.int 3)))) Zk)))) Zk))) ZA)
 (Zp (ZM 3 (dFn 1 ZP (Zb (Zd 2) Zk)))
 (Zp (V6 (ZbC (Ze YM (Ze Yu (Zd 1) (Zg (.int 3))) (Ze ZE (Zg (.int 1)) (Ze Yu (Ze Qu (Zd 1) (Zg (.int 450))) (Zg (.int 2)))))) (Zz 4) (ZM 3 (dFn 2 Yb (Zb (Zd 3) (Zb (dFn 2 Zw (Zb (Zd 1) (Zb (Zd 4) Zk))) Zk)))))
 (Zp (ZM 5 (dFn 1 YV (Zb (Zd 3) Zk)))
 (ZT (Za9 (Ze U4 (Zd 5) (dFn 1 Qh (Zb (Zd 3) Zk))) (dOr (Jc ZmG (Zd 5)) (dFn 1 Zy (Zb (Zd 5) Zk)))))))))))
noncomputable def Zgy:List D->Option D:=Zq 6 Zoa
def top (i:Nat):Stmt:=PySem.Challenge.pw_plotstead_k03_whole_read.main.body.getD i (.Pass ⟨0,0,0,0⟩)
section
variable {P:Program} {w:World} {K:Frag} {mg:Str->Option Value} {base:Heap}
noncomputable abbrev Zhk:Stmt:=top 5
noncomputable abbrev ZoB:List Str:=["a","b","c"]
theorem Zln:Zt ZoB ["a","b","c"] (Zi Zhk):=⟨rfl,rfl,rfl,by decide +kernel,rfl,by decide +kernel,by decide +kernel⟩
noncomputable abbrev Zem (P:Program) (w:World) (K:Frag) (mg:Str->Option Value) (base:Heap):=Yd P w K mg base "turn" 1 ["a","b","c"] Vi
theorem ZlN (B:Blt mg):OkD P w K mg base "turn" Zhk 1 ["a","b","c"] Vi:=fun F=>Q6 F Zln rfl rfl fun cdv A outer s H E hr=>by
 refine ⟨_,?_,(Zm (Zr (Zl JM (Zl Qe (Zl JM (ZC Yp (Za (pv 1)) Zf (fun _ _=>rfl)) (ZC Yp (Za (pv 0)) Zf (fun _ _=>rfl))) (Zl JM (ZC Yp (Za (pv 2)) Zf (fun _ _=>rfl)) (ZC Yp (Za (pv 0)) Zf (fun _ _=>rfl)))) (Zl Qe (Zl JM (ZC Yp (Za (pv 1)) Zf (fun _ _=>rfl)) (ZC Yp (Za (pv 0)) Zf (fun _ _=>rfl))) (Zl JM (ZC Yp (Za (pv 2)) Zf (fun _ _=>rfl)) (ZC Yp (Za (pv 0)) Zf (fun _ _=>rfl)))))))⟩
 rfl
noncomputable abbrev Ut:Stmt:=top 6
noncomputable abbrev Zeg:List Str:=["a","b","c"]
theorem Zcy:Zt Zeg ["a","b","c"] (Zi Ut):=⟨rfl,rfl,rfl,by decide +kernel,rfl,by decide +kernel,by decide +kernel⟩
noncomputable abbrev UT (P:Program) (w:World) (K:Frag) (mg:Str->Option Value) (base:Heap):=Yd P w K mg base "turns_left" 2 ["a","b","c"] YS
theorem ZcI (B:Blt mg) (d_turn:Zem P w K mg base):OkD P w K mg base "turns_left" Ut 2 ["a","b","c"] YS:=fun F=>Q6 F Zcy rfl rfl fun cdv A outer s H E hr=>by
 refine ⟨_,?_,(Zm (Zr (Uj ZoH (Zo d_turn hr (by decide) rfl (Zc (Za (pv 0)) (Zc (Za (pv 1)) (Zc (Za (pv 2)) Zh)))) Zf (ZV _))))⟩
 rfl
noncomputable abbrev JZ:Stmt:=top 7
noncomputable abbrev Zdb:List Str:=["a","b","c"]
theorem Zbs:Zt Zdb ["a","b","c"] (Zi JZ):=⟨rfl,rfl,rfl,by decide +kernel,rfl,by decide +kernel,by decide +kernel⟩
noncomputable abbrev Wc (P:Program) (w:World) (K:Frag) (mg:Str->Option Value) (base:Heap):=Yd P w K mg base "turns_right" 2 ["a","b","c"] YZ
theorem Zbv (B:Blt mg) (d_turn:Zem P w K mg base):OkD P w K mg base "turns_right" JZ 2 ["a","b","c"] YZ:=fun F=>Q6 F Zbs rfl rfl fun cdv A outer s H E hr=>by
 refine ⟨_,?_,(Zm (Zr (Uj ZlR (Zo d_turn hr (by decide) rfl (Zc (Za (pv 0)) (Zc (Za (pv 1)) (Zc (Za (pv 2)) Zh)))) Zf (ZV _))))⟩
 rfl
noncomputable abbrev Jr:Stmt:=top 8
noncomputable abbrev ZbG:List Str:=["one","other","number"]
theorem Zay:Zt ZbG ["one","other","number"] (Zi Jr):=⟨rfl,rfl,rfl,by decide +kernel,rfl,by decide +kernel,by decide +kernel⟩
noncomputable abbrev Vm (P:Program) (w:World) (K:Frag) (mg:Str->Option Value) (base:Heap):=Yd P w K mg base "lies_between" 1 ["one","other","number"] YI
theorem ZaI (B:Blt mg):OkD P w K mg base "lies_between" Jr 1 ["one","other","number"] YI:=fun F=>Q6 F Zay rfl rfl fun cdv A outer s H E hr=>by
 refine ⟨_,?_,(Zm (Zr (U3 Zer Zer (ZB (ZiQ rfl) rfl B.min PyProof.Rows.boot_min (Zc (Za (pv 0)) (Zc (Za (pv 1)) Zh))) (Za (pv 2)) (ZB (ZfV rfl) rfl B.max PyProof.Rows.boot_max (Zc (Za (pv 0)) (Zc (Za (pv 1)) Zh))))))⟩
 rfl
noncomputable abbrev ZaC:Stmt:=top 9
noncomputable abbrev Zi5:List Str:=["side","spot","a","b"]
theorem sc_lies_on:Zt Zi5 ["side","spot"] (Zi ZaC):=⟨rfl,rfl,rfl,by decide +kernel,rfl,by decide +kernel,by decide +kernel⟩
noncomputable abbrev Zen (P:Program) (w:World) (K:Frag) (mg:Str->Option Value) (base:Heap):=Yd P w K mg base "lies_on" 2 ["side","spot"] QG
theorem Zgf (B:Blt mg) (d_turn:Zem P w K mg base) (d_lies_between:Vm P w K mg base):OkD P w K mg base "lies_on" ZaC 2 ["side","spot"] QG:=fun F=>Q6 F sc_lies_on rfl rfl fun cdv A outer s H E hr=>by
 refine ⟨_,?_,(Zj (ZF (i:=2) sc_lies_on.nd rfl (Or.inl rfl) (ZC Yp (Za (pv 0)) Zf (fun _ _=>rfl)))
   (Zj (ZF (i:=3) sc_lies_on.nd rfl (Or.inl rfl) (ZC Yp (Za (pv 0)) Zf (fun _ _=>rfl)))
   (Zj (YN (Z8 (Zeq hr.units) (Zo d_turn hr (by decide) rfl (Zc (Za (pv 2)) (Zc (Za (pv 3)) (Zc (Za (pv 1)) Zh)))) Zf (ZV _)) (Zm (Zr Up)) ZK)
   (Zm (Zr (Qt (Zo d_lies_between hr (by decide) rfl (Zc (ZC Yp (Za (pv 2)) Zf (fun _ _=>rfl)) (Zc (ZC Yp (Za (pv 3)) Zf (fun _ _=>rfl)) (Zc (ZC Yp (Za (pv 1)) Zf (fun _ _=>rfl)) Zh)))) (QR (Zo d_lies_between hr (by decide) rfl (Zc (ZC Yp (Za (pv 2)) Zf (fun _ _=>rfl)) (Zc (ZC Yp (Za (pv 3)) Zf (fun _ _=>rfl)) (Zc (ZC Yp (Za (pv 1)) Zf (fun _ _=>rfl)) Zh)))))))))))⟩
 rfl
noncomputable abbrev Uv:Stmt:=top 10
noncomputable abbrev Zei:List Str:=["a","b","c","d"]
theorem ZcA:Zt Zei ["a","b","c","d"] (Zi Uv):=⟨rfl,rfl,rfl,by decide +kernel,rfl,by decide +kernel,by decide +kernel⟩
noncomputable abbrev WY (P:Program) (w:World) (K:Frag) (mg:Str->Option Value) (base:Heap):=Yd P w K mg base "line_parts" 3 ["a","b","c","d"] YT
theorem ZcK (B:Blt mg) (d_turns_left:UT P w K mg base) (d_turns_right:Wc P w K mg base):OkD P w K mg base "line_parts" Uv 3 ["a","b","c","d"] YT:=fun F=>Q6 F ZcA rfl rfl fun cdv A outer s H E hr=>by
 refine ⟨_,?_,(Zj (YN (Yq (Zo d_turns_left hr (by decide) rfl (Zc (Za (pv 0)) (Zc (Za (pv 1)) (Zc (Za (pv 2)) Zh))))) (Zm (Zr (Zo d_turns_right hr (by decide) rfl (Zc (Za (pv 0)) (Zc (Za (pv 1)) (Zc (Za (pv 3)) Zh)))))) ZK)
   (Zm (Zr (Qt (Zo d_turns_right hr (by decide) rfl (Zc (Za (pv 0)) (Zc (Za (pv 1)) (Zc (Za (pv 2)) Zh)))) (QR (Zo d_turns_left hr (by decide) rfl (Zc (Za (pv 0)) (Zc (Za (pv 1)) (Zc (Za (pv 3)) Zh)))))))))⟩
 rfl
noncomputable abbrev Uu:Stmt:=top 11
noncomputable abbrev Zeh:List Str:=["one","other"]
theorem Zcz:Zt Zeh ["one","other"] (Zi Uu):=⟨rfl,rfl,rfl,by decide +kernel,rfl,by decide +kernel,by decide +kernel⟩
noncomputable abbrev WX (P:Program) (w:World) (K:Frag) (mg:Str->Option Value) (base:Heap):=Yd P w K mg base "sides_meet" 4 ["one","other"] ZL
theorem ZcJ (B:Blt mg) (d_lies_on:Zen P w K mg base) (d_line_parts:WY P w K mg base):OkD P w K mg base "sides_meet" Uu 4 ["one","other"] ZL:=fun F=>Q6 F Zcz rfl rfl fun cdv A outer s H E hr=>by
 refine ⟨_,?_,(Zj (YN (Zfg (QZ (Yq (Zo d_lies_on hr (by decide) rfl (Zc (Za (pv 0)) (Zc (ZC Yp (Za (pv 1)) Zf (fun _ _=>rfl)) Zh)))) (Qv (Yq (Zo d_lies_on hr (by decide) rfl (Zc (Za (pv 0)) (Zc (ZC Yp (Za (pv 1)) Zf (fun _ _=>rfl)) Zh))))))) (Zm (Zr Up)) ZK)
   (Zj (YN (Zfg (QZ (Yq (Zo d_lies_on hr (by decide) rfl (Zc (Za (pv 1)) (Zc (ZC Yp (Za (pv 0)) Zf (fun _ _=>rfl)) Zh)))) (Qv (Yq (Zo d_lies_on hr (by decide) rfl (Zc (Za (pv 1)) (Zc (ZC Yp (Za (pv 0)) Zf (fun _ _=>rfl)) Zh))))))) (Zm (Zr Up)) ZK)
   (Zm (Zr (Qt (Zo d_line_parts hr (by decide) rfl (Zc (ZC Yp (Za (pv 0)) Zf (fun _ _=>rfl)) (Zc (ZC Yp (Za (pv 0)) Zf (fun _ _=>rfl)) (Zc (ZC Yp (Za (pv 1)) Zf (fun _ _=>rfl)) (Zc (ZC Yp (Za (pv 1)) Zf (fun _ _=>rfl)) Zh))))) (QR (Zo d_line_parts hr (by decide) rfl (Zc (ZC Yp (Za (pv 1)) Zf (fun _ _=>rfl)) (Zc (ZC Yp (Za (pv 1)) Zf (fun _ _=>rfl)) (Zc (ZC Yp (Za (pv 0)) Zf (fun _ _=>rfl)) (Zc (ZC Yp (Za (pv 0)) Zf (fun _ _=>rfl)) Zh)))))))))))⟩
 rfl
noncomputable abbrev Wl:Stmt:=top 16
noncomputable abbrev ZgK:List Str:=["thing"]
theorem ZeB:Zt ZgK ["thing"] (Zi Wl):=⟨rfl,rfl,rfl,by decide +kernel,rfl,by decide +kernel,by decide +kernel⟩
noncomputable abbrev Zcn (P:Program) (w:World) (K:Frag) (mg:Str->Option Value) (base:Heap):=Yd P w K mg base "is_whole" 1 ["thing"] U2
theorem ZeK (B:Blt mg):OkD P w K mg base "is_whole" Wl 1 ["thing"] U2:=fun F=>Q6 F ZeB rfl rfl fun cdv A outer s H E hr=>by
 refine ⟨_,?_,(Zm (Zr (Qt (WP (T:=.int) rfl B.isinstance rfl B.int PyProof.Rows.boot_int (Za (pv 0))) (QR (ZkR (WP (T:=.bool) rfl B.isinstance rfl B.bool PyProof.Rows.boot_bool (Za (pv 0))))))))⟩
 rfl
noncomputable abbrev Wm:Stmt:=top 17
noncomputable abbrev ZgL:List Str:=["thing"]
theorem ZeC:Zt ZgL ["thing"] (Zi Wm):=⟨rfl,rfl,rfl,by decide +kernel,rfl,by decide +kernel,by decide +kernel⟩
noncomputable abbrev Zco (P:Program) (w:World) (K:Frag) (mg:Str->Option Value) (base:Heap):=Yd P w K mg base "is_place" 2 ["thing"] Qy
theorem ZeL (B:Blt mg) (d_is_whole:Zcn P w K mg base) (c_FARTHEST:∃ t,mg "FARTHEST"=some (.int 100 t)):OkD P w K mg base "is_place" Wm 2 ["thing"] Qy:=fun F=>Q6 F ZeC rfl rfl fun cdv A outer s H E hr=>by
 refine ⟨_,?_,(Zm (Zr (Qt (Zo d_is_whole hr (by decide) rfl (Zc (Za (pv 0)) Zh)) (QR (U3 Zer Zer (Ziy ZhL (Ww rfl c_FARTHEST.choose_spec)) (Za (pv 0)) (Ww rfl c_FARTHEST.choose_spec))))))⟩
 rfl
noncomputable abbrev ZaD:Stmt:=top 18
noncomputable abbrev Zi6:List Str:=["thing"]
theorem Zf7:Zt Zi6 ["thing"] (Zi ZaD):=⟨rfl,rfl,rfl,by decide +kernel,rfl,by decide +kernel,by decide +kernel⟩
noncomputable abbrev Zeo (P:Program) (w:World) (K:Frag) (mg:Str->Option Value) (base:Heap):=Yd P w K mg base "is_spot" 3 ["thing"] YE
theorem Zgg (B:Blt mg) (d_is_place:Zco P w K mg base):OkD P w K mg base "is_spot" ZaD 3 ["thing"] YE:=fun F=>Q6 F Zf7 rfl rfl fun cdv A outer s H E hr=>by
 refine ⟨_,?_,(Zm (Zr (Qt (WP (T:=.tuple) rfl B.isinstance rfl B.tuple PyProof.Rows.boot_tuple (Za (pv 0))) (Qt (Uj (Zja hr.units) (ZB Jd rfl B.len PySem.boot_len (Zc (Za (pv 0)) Zh)) Zf (ZV _)) (Qt (Zo d_is_place hr (by decide) rfl (Zc (ZC Yp (Za (pv 0)) Zf (fun _ _=>rfl)) Zh)) (QR (Zo d_is_place hr (by decide) rfl (Zc (ZC Yp (Za (pv 0)) Zf (fun _ _=>rfl)) Zh))))))))⟩
 rfl
noncomputable abbrev Qn:Stmt:=top 19
noncomputable abbrev Wa:List Str:=["thing","part"]
theorem sc_are_unlike_spots:Zt Wa ["thing"] (Zi Qn):=⟨rfl,rfl,rfl,by decide +kernel,rfl,by decide +kernel,by decide +kernel⟩
noncomputable abbrev Jl (P:Program) (w:World) (K:Frag) (mg:Str->Option Value) (base:Heap):=Yd P w K mg base "are_unlike_spots" 4 ["thing"] ZJ
theorem Vz (B:Blt mg) (d_is_spot:Zeo P w K mg base):OkD P w K mg base "are_unlike_spots" Qn 4 ["thing"] ZJ:=fun F=>Q6 F sc_are_unlike_spots rfl rfl fun cdv A outer s H E hr=>by
 refine ⟨_,?_,(Zj (Jp PassesOwn.never rfl (UF (Za (pv 0))) (Yx (i:=1) sc_are_unlike_spots.nd rfl (Or.inl rfl)) (Zm (YN (QP (Yq (Zo d_is_spot hr (by decide) rfl (Zc (Za (pv 1)) Zh)))) (Zm (Zr Up)) ZK)))
   (Zm (Zr (Uj (Zja hr.units) (ZdU rfl hr.units rfl B.len rfl B.set (Za (pv 0))) (ZB Jd rfl B.len PySem.boot_len (Zc (Za (pv 0)) Zh)) (ZV _)))))⟩
 rfl
noncomputable abbrev Qm:Stmt:=top 20
noncomputable abbrev V9:List Str:=["thing"]
theorem Vq:Zt V9 ["thing"] (Zi Qm):=⟨rfl,rfl,rfl,by decide +kernel,rfl,by decide +kernel,by decide +kernel⟩
noncomputable abbrev Jk (P:Program) (w:World) (K:Frag) (mg:Str->Option Value) (base:Heap):=Yd P w K mg base "could_be_corners" 5 ["thing"] ZD
theorem Vy (B:Blt mg) (c_FEWEST_CORNERS:∃ t,mg "FEWEST_CORNERS"=some (.int 3 t)) (c_MOST_CORNERS:∃ t,mg "MOST_CORNERS"=some (.int 12 t)) (d_are_unlike_spots:Jl P w K mg base):OkD P w K mg base "could_be_corners" Qm 5 ["thing"] ZD:=fun F=>Q6 F Vq rfl rfl fun cdv A outer s H E hr=>by
 refine ⟨_,?_,(Zj (YN (QP (Yq (WP (T:=.tuple) rfl B.isinstance rfl B.tuple PyProof.Rows.boot_tuple (Za (pv 0))))) (Zm (Zr Up)) ZK)
   (Zm (Zr (Qt (U3 Zer Zer (Ww rfl c_FEWEST_CORNERS.choose_spec) (ZB Jd rfl B.len PySem.boot_len (Zc (Za (pv 0)) Zh)) (Ww rfl c_MOST_CORNERS.choose_spec)) (QR (Zo d_are_unlike_spots hr (by decide) rfl (Zc (Za (pv 0)) Zh)))))))⟩
 rfl
noncomputable abbrev Yr:Stmt:=top 21
noncomputable abbrev JT:List Str:=["corners"]
theorem VP:Zt JT ["corners"] (Zi Yr):=⟨rfl,rfl,rfl,by decide +kernel,rfl,by decide +kernel,by decide +kernel⟩
noncomputable abbrev JU (P:Program) (w:World) (K:Frag) (mg:Str->Option Value) (base:Heap):=Yd P w K mg base "turns_all_round" 2 ["corners"] Yt
theorem VQ (B:Blt mg) (d_turn:Zem P w K mg base):OkD P w K mg base "turns_all_round" Yr 2 ["corners"] Yt:=fun F=>Q6 F VP rfl rfl fun cdv A outer s H E hr=>by
 refine ⟨_,?_,(Zm (Zr (QN (N:=["k","corners"]) (caps:=[none,some 0]) (Qb (sc:=Zi Yr) rfl (by decide +kernel)) (Qc (sc:=Zi Yr) (XN:=JT) rfl rfl (by decide +kernel)) rfl (VB rfl B.range (ZB Jd rfl B.len PySem.boot_len (Zc (Za (pv 0)) Zh))) (Yc 0) (fun _ _ _ _=>Yx (i:=0) (show (["k","corners"]:List Str).Nodup by decide +kernel) rfl (Or.inl rfl)) (fun _ _ _ _=>QJ) (fun _ _ _ _=>(Zo d_turn hr (by decide) rfl (Zc (ZC Yp (Za (pv 1)) (Zl JM (Za (pv 0)) Zf) (fun _ _=>rfl)) (Zc (ZC Yp (Za (pv 1)) (Zl JM (Za (pv 0)) Zf) (fun _ _=>rfl)) (Zc (ZC Yp (Za (pv 1)) (Za (pv 0)) (fun _ _=>rfl)) Zh))))))))⟩
 rfl
noncomputable abbrev JK:Stmt:=top 22
noncomputable abbrev Zck:List Str:=["corners"]
theorem ZeA:Zt Zck ["corners"] (Zi JK):=⟨rfl,rfl,rfl,by decide +kernel,rfl,by decide +kernel,by decide +kernel⟩
noncomputable abbrev Zcm (P:Program) (w:World) (K:Frag) (mg:Str->Option Value) (base:Heap):=Yd P w K mg base "sides_of" 1 ["corners"] QX
theorem ZeJ (B:Blt mg):OkD P w K mg base "sides_of" JK 1 ["corners"] QX:=fun F=>Q6 F ZeA rfl rfl fun cdv A outer s H E hr=>by
 refine ⟨_,?_,(Zm (Zr (QN (N:=["k","corners"]) (caps:=[none,some 0]) (Qb (sc:=Zi JK) rfl (by decide +kernel)) (Qc (sc:=Zi JK) (XN:=Zck) rfl rfl (by decide +kernel)) rfl (VB rfl B.range (ZB Jd rfl B.len PySem.boot_len (Zc (Za (pv 0)) Zh))) (Yc 0) (fun _ _ _ _=>Yx (i:=0) (show (["k","corners"]:List Str).Nodup by decide +kernel) rfl (Or.inl rfl)) (fun _ _ _ _=>QJ) (fun _ _ _ _=>(JP (Zc (ZC Yp (Za (pv 1)) (Zl JM (Za (pv 0)) Zf) (fun _ _=>rfl)) (Zc (ZC Yp (Za (pv 1)) (Za (pv 0)) (fun _ _=>rfl)) Zh)))))))⟩
 rfl
noncomputable abbrev Y2:Stmt:=top 23
noncomputable abbrev U8:List Str:=["one","other"]
theorem Ur:Zt U8 ["one","other"] (Zi Y2):=⟨rfl,rfl,rfl,by decide +kernel,rfl,by decide +kernel,by decide +kernel⟩
noncomputable abbrev QS (P:Program) (w:World) (K:Frag) (mg:Str->Option Value) (base:Heap):=Yd P w K mg base "have_common_corner" 1 ["one","other"] Zu
theorem UC (B:Blt mg):OkD P w K mg base "have_common_corner" Y2 1 ["one","other"] Zu:=fun F=>Q6 F Ur rfl rfl fun cdv A outer s H E hr=>by
 refine ⟨_,?_,(Zm (Zr (Zoj (Uj (ZnG hr.units) (ZC Yp (Za (pv 0)) Zf (fun _ _=>rfl)) (Za (pv 1)) (by rfl)) (QR (Uj (ZnG hr.units) (ZC Yp (Za (pv 0)) Zf (fun _ _=>rfl)) (Za (pv 1)) (by rfl))))))⟩
 rfl
noncomputable abbrev Ql:Stmt:=top 24
noncomputable abbrev V8:List Str:=["corners","sides","k","side","other"]
theorem sc_sides_keep_apart:Zt V8 ["corners"] (Zi Ql):=⟨rfl,rfl,rfl,by decide +kernel,rfl,by decide +kernel,by decide +kernel⟩
noncomputable abbrev Jj (P:Program) (w:World) (K:Frag) (mg:Str->Option Value) (base:Heap):=Yd P w K mg base "sides_keep_apart" 5 ["corners"] Yi
theorem Vx (B:Blt mg) (d_sides_of:Zcm P w K mg base) (d_have_common_corner:QS P w K mg base) (d_sides_meet:WX P w K mg base):OkD P w K mg base "sides_keep_apart" Ql 5 ["corners"] Yi:=fun F=>Q6 F sc_sides_keep_apart rfl rfl fun cdv A outer s H E hr=>by
 refine ⟨_,?_,(Zj (ZF (i:=1) sc_sides_keep_apart.nd rfl (Or.inl rfl) (Zo d_sides_of hr (by decide) rfl (Zc (Za (pv 0)) Zh)))
   (Zj (Jp PassesOwn.never rfl (Zc0 rfl B.enumerate (Za (pv 1))) (Wt (i:=2) (j:=3) rfl sc_sides_keep_apart.nd rfl rfl (Or.inl rfl) (Or.inl rfl)) (Zm (Jp PassesOwn.never rfl (UF (V4 (Za (pv 1)) Yv (Z6 (Za (pv 2))))) (Yx (i:=4) sc_sides_keep_apart.nd rfl (Or.inl rfl)) (Zm (YN (Zfg (Zk6 (QP (Yq (Zo d_have_common_corner hr (by decide) rfl (Zc (Za (pv 3)) (Zc (Za (pv 4)) Zh))))) (Zjc (Yq (Zo d_sides_meet hr (by decide) rfl (Zc (Za (pv 3)) (Zc (Za (pv 4)) Zh))))))) (Zm (Zr Up)) ZK)))))
   (Zm (Zr Up))))⟩
 rfl
noncomputable abbrev QK:Stmt:=top 25
noncomputable abbrev W8:List Str:=["corners"]
theorem Wk:Zt W8 ["corners"] (Zi QK):=⟨rfl,rfl,rfl,by decide +kernel,rfl,by decide +kernel,by decide +kernel⟩
noncomputable abbrev Ul (P:Program) (w:World) (K:Frag) (mg:Str->Option Value) (base:Heap):=Yd P w K mg base "inside_is_left" 3 ["corners"] YF
theorem Wo (B:Blt mg) (d_turns_left:UT P w K mg base):OkD P w K mg base "inside_is_left" QK 3 ["corners"] YF:=fun F=>Q6 F Wk rfl rfl fun cdv A outer s H E hr=>by
 refine ⟨_,?_,(Zm (Zr (Zo d_turns_left hr (by decide) rfl (Zc (ZC Yp (Za (pv 0)) (Ziy ZhL Zf) (fun _ _=>rfl)) (Zc (ZC Yp (Za (pv 0)) Zf (fun _ _=>rfl)) (Zc (ZC Yp (Za (pv 0)) Zf (fun _ _=>rfl)) Zh))))))⟩
 rfl
noncomputable abbrev ZaE:Stmt:=top 26
noncomputable abbrev Zi7:List Str:=["thing"]
theorem Zf8:Zt Zi7 ["thing"] (Zi ZaE):=⟨rfl,rfl,rfl,by decide +kernel,rfl,by decide +kernel,by decide +kernel⟩
noncomputable abbrev Wd (P:Program) (w:World) (K:Frag) (mg:Str->Option Value) (base:Heap):=Yd P w K mg base "is_plot" 6 ["thing"] Z0
theorem Zgh (B:Blt mg) (d_could_be_corners:Jk P w K mg base) (d_turns_all_round:JU P w K mg base) (d_inside_is_left:Ul P w K mg base) (d_sides_keep_apart:Jj P w K mg base):OkD P w K mg base "is_plot" ZaE 6 ["thing"] Z0:=fun F=>Q6 F Zf8 rfl rfl fun cdv A outer s H E hr=>by
 refine ⟨_,?_,(Zj (YN (Zfg (QZ (QP (Yq (Zo d_could_be_corners hr (by decide) rfl (Zc (Za (pv 0)) Zh)))) (Qv (Z8 (Zeq hr.units) (ZC Yp (Za (pv 0)) Zf (fun _ _=>rfl)) (ZB (ZiP rfl hr.units) rfl B.min PyProof.Rows.boot_min (Zc (Za (pv 0)) Zh)) (ZV _))))) (Zm (Zr Up)) ZK)
   (Zj (YN (Z8 (ZnG hr.units) Zf (Zo d_turns_all_round hr (by decide) rfl (Zc (Za (pv 0)) Zh)) (by rfl)) (Zm (Zr Up)) ZK)
   (Zm (Zr (Qt (Zo d_inside_is_left hr (by decide) rfl (Zc (Za (pv 0)) Zh)) (QR (Zo d_sides_keep_apart hr (by decide) rfl (Zc (Za (pv 0)) Zh))))))))⟩
 rfl
noncomputable abbrev Jq:Stmt:=top 28
noncomputable abbrev ZbF:List Str:=["spot","x","y"]
theorem sc_written_spot:Zt ZbF ["spot"] (Zi Jq):=⟨rfl,rfl,rfl,by decide +kernel,rfl,by decide +kernel,by decide +kernel⟩
noncomputable abbrev Vl (P:Program) (w:World) (K:Frag) (mg:Str->Option Value) (base:Heap):=Yd P w K mg base "written_spot" 1 ["spot"] Z9
theorem ZaH (B:Blt mg):OkD P w K mg base "written_spot" Jq 1 ["spot"] Z9:=fun F=>Q6 F sc_written_spot rfl rfl fun cdv A outer s H E hr=>by
 refine ⟨_,?_,(Zj (ZF (i:=1) sc_written_spot.nd rfl (Or.inl rfl) (ZC Yp (Za (pv 0)) Zf (fun _ _=>rfl)))
   (Zj (ZF (i:=2) sc_written_spot.nd rfl (Or.inl rfl) (ZC Yp (Za (pv 0)) Zf (fun _ _=>rfl)))
   (Zm (Zr (Zmj (Za (pv 1)) (Za (pv 2)))))))⟩
 rfl
noncomputable abbrev Us:Stmt:=top 29
noncomputable abbrev Zef:List Str:=["plot"]
theorem Zf6:Zt Zef ["plot"] (Zi Us):=⟨rfl,rfl,rfl,by decide +kernel,rfl,by decide +kernel,by decide +kernel⟩
noncomputable abbrev Zbm (P:Program) (w:World) (K:Frag) (mg:Str->Option Value) (base:Heap):=Yd P w K mg base "written" 7 ["plot"] QF
theorem Zge (B:Blt mg) (d_is_plot:Wd P w K mg base) (d_written_spot:Vl P w K mg base):OkD P w K mg base "written" Us 7 ["plot"] QF:=fun F=>Q6 F Zf6 rfl rfl fun cdv A outer s H E hr=>by
 refine ⟨_,?_,(Zj (YN (QP (Yq (Zo d_is_plot hr (by decide) rfl (Zc (Za (pv 0)) Zh)))) (Zm VO) ZK)
   (Zm (Zr (Za5 YL (QN (N:=["corner"]) (caps:=[none]) (Qb (sc:=Zi Us) rfl (by decide +kernel)) (Qc (sc:=Zi Us) (XN:=Zef) rfl rfl (by decide +kernel)) rfl (UF (Za (pv 0))) (Yc 0) (fun _ _ _ _=>Yx (i:=0) (show (["corner"]:List Str).Nodup by decide +kernel) rfl (Or.inl rfl)) (fun _ _ _ _=>QJ) (fun _ _ _ _=>(Zo d_written_spot hr (by decide) rfl (Zc (Za (pv 0)) Zh))))))))⟩
 rfl
noncomputable abbrev Qo:Stmt:=top 32
noncomputable abbrev Wb:List Str:=["text"]
theorem Zbt:Zt Wb ["text"] (Zi Qo):=⟨rfl,rfl,rfl,by decide +kernel,rfl,by decide +kernel,by decide +kernel⟩
noncomputable abbrev Ug (P:Program) (w:World) (K:Frag) (mg:Str->Option Value) (base:Heap):=Yd P w K mg base "are_figures" 1 ["text"] Z4
theorem Zbx (B:Blt mg) (c_FIGURES:∃ t,mg "FIGURES"=some (.str (Str.ofString "0123456789") t)):OkD P w K mg base "are_figures" Qo 1 ["text"] Z4:=fun F=>Q6 F Zbt rfl rfl fun cdv A outer s H E hr=>by
 refine ⟨_,?_,(Zm (Zr (Qt (Uj (Zeq hr.units) (Za (pv 0)) YL (ZV _)) (QR (ZB (Zmq rfl) rfl B.all PyProof.Rows.boot_all (Zc (QN (N:=["sign"]) (caps:=[none]) (Qb (sc:=Zi Qo) rfl (by decide +kernel)) (Qc (sc:=Zi Qo) (XN:=Wb) rfl rfl (by decide +kernel)) rfl (ZkN (Za (pv 0))) (Yc 0) (fun _ _ _ _=>Yx (i:=0) (show (["sign"]:List Str).Nodup by decide +kernel) rfl (Or.inl rfl)) (fun _ _ _ _=>QJ) (fun _ _ _ _=>(Uj Zph (Za (pv 0)) (Zj5 rfl c_FIGURES.choose_spec) (by rfl)))) Zh))))))⟩
 rfl
noncomputable abbrev QT:Stmt:=top 33
noncomputable abbrev Zdc:List Str:=["text","figures"]
theorem sc_read_number:Zt Zdc ["text"] (Zi QT):=⟨rfl,rfl,rfl,by decide +kernel,rfl,by decide +kernel,by decide +kernel⟩
noncomputable abbrev Uf (P:Program) (w:World) (K:Frag) (mg:Str->Option Value) (base:Heap):=Yd P w K mg base "read_number" 2 ["text"] ZI
theorem Zbw (B:Blt mg) (d_are_figures:Ug P w K mg base) (c_FARTHEST:∃ t,mg "FARTHEST"=some (.int 100 t)):OkD P w K mg base "read_number" QT 2 ["text"] ZI:=fun F=>Q6 F sc_read_number rfl rfl fun cdv A outer s H E hr=>by
 refine ⟨_,?_,(Zj (ZF (i:=1) sc_read_number.nd rfl (Or.inl rfl) (ZfN (Yq (Wv PySem.F.slot_str_startswith PySem.F.type_str_startswith ZaQ UA (Za (pv 0)) YL)) (WN (Za (pv 0)) (Z6 Zf) Yv) (Za (pv 0))))
   (Zj (YN (Zfg (QZ (QP (Yq (Zo d_are_figures hr (by decide) rfl (Zc (Za (pv 1)) Zh)))) (Qv (Z8 ZoH (ZB Jd rfl B.len PySem.boot_len (Zc (Za (pv 1)) Zh)) (ZB Jd rfl B.len PySem.boot_len (Zc (Yf Zkg rfl B.str PyProof.Rows.boot_str (Zc (Ww rfl c_FARTHEST.choose_spec) Zh)) Zh)) (ZV _))))) (Zm VO) ZK)
   (Zm (Zr (Yf ZkX rfl B.int PyProof.Rows.boot_int (Zc (Za (pv 0)) Zh))))))⟩
 rfl
noncomputable abbrev J1:Stmt:=top 34
noncomputable abbrev Ze8:List Str:=["text","parts"]
theorem sc_read_spot:Zt Ze8 ["text"] (Zi J1):=⟨rfl,rfl,rfl,by decide +kernel,rfl,by decide +kernel,by decide +kernel⟩
noncomputable abbrev VH (P:Program) (w:World) (K:Frag) (mg:Str->Option Value) (base:Heap):=Yd P w K mg base "read_spot" 3 ["text"] ZO
theorem Zdw (B:Blt mg) (d_read_number:Uf P w K mg base):OkD P w K mg base "read_spot" J1 3 ["text"] ZO:=fun F=>Q6 F sc_read_spot rfl rfl fun cdv A outer s H E hr=>by
 refine ⟨_,?_,(Zj (ZF (i:=1) sc_read_spot.nd rfl (Or.inl rfl) (Wv PySem.F.slot_str_split PySem.F.type_str_split QU J6 (Za (pv 0)) YL))
   (Zj (YN (Z8 (Zeq hr.units) (ZB Jd rfl B.len PySem.boot_len (Zc (Za (pv 1)) Zh)) Zf (ZV _)) (Zm VO) ZK)
   (Zm (Zr (JP (Zc (Zo d_read_number hr (by decide) rfl (Zc (ZC Yp (Za (pv 1)) Zf (fun _ _=>rfl)) Zh)) (Zc (Zo d_read_number hr (by decide) rfl (Zc (ZC Yp (Za (pv 1)) Zf (fun _ _=>rfl)) Zh)) Zh)))))))⟩
 rfl
noncomputable abbrev U9:Stmt:=top 35
noncomputable abbrev ZfZ:List Str:=["text","corners"]
theorem sc_read:Zt ZfZ ["text"] (Zi U9):=⟨rfl,rfl,rfl,by decide +kernel,rfl,by decide +kernel,by decide +kernel⟩
noncomputable abbrev Zi9 (P:Program) (w:World) (K:Frag) (mg:Str->Option Value) (base:Heap):=Yd P w K mg base "read" 8 ["text"] UL
theorem ZlO (B:Blt mg) (d_read_spot:VH P w K mg base) (d_is_plot:Wd P w K mg base) (d_written:Zbm P w K mg base):OkD P w K mg base "read" U9 8 ["text"] UL:=fun F=>Q6 F sc_read rfl rfl fun cdv A outer s H E hr=>by
 refine ⟨_,?_,(Zj (ZF (i:=1) sc_read.nd rfl (Or.inl rfl) (Yf Zbe rfl B.tuple PyProof.Rows.boot_tuple (Zc (QN (N:=["part"]) (caps:=[none]) (Qb (sc:=Zi U9) rfl (by decide +kernel)) (Qc (sc:=Zi U9) (XN:=ZfZ) rfl rfl (by decide +kernel)) rfl (UF (Wv PySem.F.slot_str_split PySem.F.type_str_split QU J6 (Za (pv 0)) YL)) (Yc 0) (fun _ _ _ _=>Yx (i:=0) (show (["part"]:List Str).Nodup by decide +kernel) rfl (Or.inl rfl)) (fun _ _ _ _=>QJ) (fun _ _ _ _=>(Zo d_read_spot hr (by decide) rfl (Zc (Za (pv 0)) Zh)))) Zh)))
   (Zj (YN (QP (Yq (Zo d_is_plot hr (by decide) rfl (Zc (Za (pv 1)) Zh)))) (Zm VO) ZK)
   (Zj (YN (Z8 (Zeq hr.units) (Zo d_written hr (by decide) rfl (Zc (Za (pv 1)) Zh)) (Za (pv 0)) (ZV _)) (Zm VO) ZK)
   (Zm (Zr (Za (pv 1)))))))⟩
 rfl
noncomputable abbrev Jw:Stmt:=top 37
noncomputable abbrev ZbL:List Str:=["_law_script","_law_k"]
theorem ZaB:Zt ZbL ["_law_script","_law_k"] (Zi Jw):=⟨rfl,rfl,rfl,by decide +kernel,rfl,by decide +kernel,by decide +kernel⟩
noncomputable abbrev Vp (P:Program) (w:World) (K:Frag) (mg:Str->Option Value) (base:Heap):=Yd P w K mg base "_law_cell_at" 1 ["_law_script","_law_k"] YJ
theorem ZaO (B:Blt mg):OkD P w K mg base "_law_cell_at" Jw 1 ["_law_script","_law_k"] YJ:=fun F=>Q6 F ZaB rfl rfl fun cdv A outer s H E hr=>by
 refine ⟨_,?_,(Zj (YN (Z8 ZlR (Za (pv 1)) (ZB Jd rfl B.len PySem.boot_len (Zc (Za (pv 0)) Zh)) (ZV _)) (Zm (Zr (ZC Yp (Za (pv 0)) (Za (pv 1)) (fun _ _=>rfl)))) ZK)
   (Zm (Zr Zf)))⟩
 rfl
noncomputable abbrev Ux:Stmt:=top 38
noncomputable abbrev Zek:List Str:=["_law_script","_law_k","_law_drawn_here"]
theorem sc__law_mixed:Zt Zek ["_law_script","_law_k"] (Zi Ux):=⟨rfl,rfl,rfl,by decide +kernel,rfl,by decide +kernel,by decide +kernel⟩
noncomputable abbrev W1 (P:Program) (w:World) (K:Frag) (mg:Str->Option Value) (base:Heap):=Yd P w K mg base "_law_mixed" 2 ["_law_script","_law_k"] ZS
theorem ZcN (B:Blt mg) (d__law_cell_at:Vp P w K mg base):OkD P w K mg base "_law_mixed" Ux 2 ["_law_script","_law_k"] ZS:=fun F=>Q6 F sc__law_mixed rfl rfl fun cdv A outer s H E hr=>by
 refine ⟨_,?_,(Zj (ZF (i:=2) sc__law_mixed.nd rfl (Or.inl rfl) (Zl QL (Zl Qe (Zl Z5 (Zl Z5 (Zo d__law_cell_at hr (by decide) rfl (Zc (Za (pv 0)) (Zc (Za (pv 1)) Zh))) (Zl Qe Zf (Za (pv 1)))) Zf) Zf) Zf))
   (Zm (Zr (Zl QL (Zl Z5 (Zl Z5 (Zl Qe (Za (pv 2)) (Za (pv 2))) (Zl Qe Zf (Za (pv 2)))) (Za (pv 1))) Zf))))⟩
 rfl
noncomputable abbrev Uy:Stmt:=top 39
noncomputable abbrev Zel:List Str:=["_law_number_here","_law_k","_law_drawn_here"]
theorem sc__law_drawn:Zt Zel ["_law_number_here","_law_k"] (Zi Uy):=⟨rfl,rfl,rfl,by decide +kernel,rfl,by decide +kernel,by decide +kernel⟩
noncomputable abbrev Jm (P:Program) (w:World) (K:Frag) (mg:Str->Option Value) (base:Heap):=Yd P w K mg base "_law_drawn" 1 ["_law_number_here","_law_k"] Zw
theorem ZcP (B:Blt mg):OkD P w K mg base "_law_drawn" Uy 1 ["_law_number_here","_law_k"] Zw:=fun F=>Q6 F sc__law_drawn rfl rfl fun cdv A outer s H E hr=>by
 refine ⟨_,?_,(Zj (ZF (i:=2) sc__law_drawn.nd rfl (Or.inl rfl) (Zl QL (Zl Qe (Zl Z5 (Zl Z5 (Za (pv 0)) (Zl Qe Zf (Za (pv 1)))) Zf) Zf) Zf))
   (Zm (Zr (Zl QL (Zl Z5 (Zl Z5 (Zl Qe (Za (pv 2)) (Za (pv 2))) (Zl Qe Zf (Za (pv 2)))) (Za (pv 1))) Zf))))⟩
 rfl
noncomputable abbrev J4:Stmt:=top 40
noncomputable abbrev Zdd:List Str:=["_law_thing","_law_low","_law_high"]
theorem Zbu:Zt Zdd ["_law_thing","_law_low","_law_high"] (Zi J4):=⟨rfl,rfl,rfl,by decide +kernel,rfl,by decide +kernel,by decide +kernel⟩
noncomputable abbrev We (P:Program) (w:World) (K:Frag) (mg:Str->Option Value) (base:Heap):=Yd P w K mg base "_law_number" 1 ["_law_thing","_law_low","_law_high"] Y0
theorem Zby (B:Blt mg):OkD P w K mg base "_law_number" J4 1 ["_law_thing","_law_low","_law_high"] Y0:=fun F=>Q6 F Zbu rfl rfl fun cdv A outer s H E hr=>by
 refine ⟨_,?_,(Zm (Zr (Qt (WP (T:=.int) rfl B.isinstance rfl B.int PyProof.Rows.boot_int (Za (pv 0))) (Qt (ZkR (WP (T:=.bool) rfl B.isinstance rfl B.bool PyProof.Rows.boot_bool (Za (pv 0)))) (QR (U3 Zer Zer (Za (pv 1)) (Za (pv 0)) (Za (pv 2))))))))⟩
 rfl
noncomputable abbrev Vs:Stmt:=top 41
noncomputable abbrev Ze9:List Str:=["_law_a","_law_b","_law_c"]
theorem Zdl:Zt Ze9 ["_law_a","_law_b","_law_c"] (Zi Vs):=⟨rfl,rfl,rfl,by decide +kernel,rfl,by decide +kernel,by decide +kernel⟩
noncomputable abbrev Ja (P:Program) (w:World) (K:Frag) (mg:Str->Option Value) (base:Heap):=Yd P w K mg base "_law_turn" 1 ["_law_a","_law_b","_law_c"] Z3
theorem Zdx (B:Blt mg):OkD P w K mg base "_law_turn" Vs 1 ["_law_a","_law_b","_law_c"] Z3:=fun F=>Q6 F Zdl rfl rfl fun cdv A outer s H E hr=>by
 refine ⟨_,?_,(Zm (Zr (Zl JM (Zl Qe (Zl JM (ZC Yp (Za (pv 1)) Zf (fun _ _=>rfl)) (ZC Yp (Za (pv 0)) Zf (fun _ _=>rfl))) (Zl JM (ZC Yp (Za (pv 2)) Zf (fun _ _=>rfl)) (ZC Yp (Za (pv 0)) Zf (fun _ _=>rfl)))) (Zl Qe (Zl JM (ZC Yp (Za (pv 1)) Zf (fun _ _=>rfl)) (ZC Yp (Za (pv 0)) Zf (fun _ _=>rfl))) (Zl JM (ZC Yp (Za (pv 2)) Zf (fun _ _=>rfl)) (ZC Yp (Za (pv 0)) Zf (fun _ _=>rfl)))))))⟩
 rfl
noncomputable abbrev ZaF:Stmt:=top 42
noncomputable abbrev Zi8:List Str:=["_law_a","_law_b","_law_c"]
theorem Zf9:Zt Zi8 ["_law_a","_law_b","_law_c"] (Zi ZaF):=⟨rfl,rfl,rfl,by decide +kernel,rfl,by decide +kernel,by decide +kernel⟩
noncomputable abbrev Zep (P:Program) (w:World) (K:Frag) (mg:Str->Option Value) (base:Heap):=Yd P w K mg base "_law_on" 2 ["_law_a","_law_b","_law_c"] YG
theorem Zgi (B:Blt mg) (d__law_turn:Ja P w K mg base):OkD P w K mg base "_law_on" ZaF 2 ["_law_a","_law_b","_law_c"] YG:=fun F=>Q6 F Zf9 rfl rfl fun cdv A outer s H E hr=>by
 refine ⟨_,?_,(Zj (YN (Z8 (Zeq hr.units) (Zo d__law_turn hr (by decide) rfl (Zc (Za (pv 0)) (Zc (Za (pv 1)) (Zc (Za (pv 2)) Zh)))) Zf (ZV _)) (Zm (Zr Up)) ZK)
   (Zm (Zr (Qt (U3 Zer Zer (ZB (ZiQ rfl) rfl B.min PyProof.Rows.boot_min (Zc (ZC Yp (Za (pv 0)) Zf (fun _ _=>rfl)) (Zc (ZC Yp (Za (pv 1)) Zf (fun _ _=>rfl)) Zh))) (ZC Yp (Za (pv 2)) Zf (fun _ _=>rfl)) (ZB (ZfV rfl) rfl B.max PyProof.Rows.boot_max (Zc (ZC Yp (Za (pv 0)) Zf (fun _ _=>rfl)) (Zc (ZC Yp (Za (pv 1)) Zf (fun _ _=>rfl)) Zh)))) (QR (U3 Zer Zer (ZB (ZiQ rfl) rfl B.min PyProof.Rows.boot_min (Zc (ZC Yp (Za (pv 0)) Zf (fun _ _=>rfl)) (Zc (ZC Yp (Za (pv 1)) Zf (fun _ _=>rfl)) Zh))) (ZC Yp (Za (pv 2)) Zf (fun _ _=>rfl)) (ZB (ZfV rfl) rfl B.max PyProof.Rows.boot_max (Zc (ZC Yp (Za (pv 0)) Zf (fun _ _=>rfl)) (Zc (ZC Yp (Za (pv 1)) Zf (fun _ _=>rfl)) Zh)))))))))⟩
 rfl
noncomputable abbrev Vt:Stmt:=top 43
noncomputable abbrev Zfa:List Str:=["_law_corners","_law_at","_law_by"]
theorem Zdm:Zt Zfa ["_law_corners","_law_at","_law_by"] (Zi Vt):=⟨rfl,rfl,rfl,by decide +kernel,rfl,by decide +kernel,by decide +kernel⟩
noncomputable abbrev Jb (P:Program) (w:World) (K:Frag) (mg:Str->Option Value) (base:Heap):=Yd P w K mg base "_law_next" 1 ["_law_corners","_law_at","_law_by"] Zx
theorem Zdz (B:Blt mg):OkD P w K mg base "_law_next" Vt 1 ["_law_corners","_law_at","_law_by"] Zx:=fun F=>Q6 F Zdm rfl rfl fun cdv A outer s H E hr=>by
 refine ⟨_,?_,(Zm (Zr (ZC Yp (Za (pv 0)) (Zl QL (Zl Z5 (Za (pv 1)) (Za (pv 2))) (ZB Jd rfl B.len PySem.boot_len (Zc (Za (pv 0)) Zh))) (fun _ _=>rfl))))⟩
 rfl
noncomputable abbrev Vv:Stmt:=top 44
noncomputable abbrev Zfc:List Str:=["_law_corners","_law_found_here","_law_at","_law_a","_law_b"]
theorem sc__law_area:Zt Zfc ["_law_corners"] (Zi Vv):=⟨rfl,rfl,rfl,by decide +kernel,rfl,by decide +kernel,by decide +kernel⟩
noncomputable abbrev VI (P:Program) (w:World) (K:Frag) (mg:Str->Option Value) (base:Heap):=Yd P w K mg base "_law_area" 2 ["_law_corners"] YW
theorem ZdB (B:Blt mg) (d__law_next:Jb P w K mg base):OkD P w K mg base "_law_area" Vv 2 ["_law_corners"] YW:=fun F=>Q6 F sc__law_area rfl rfl fun cdv A outer s H E hr=>by
 refine ⟨_,?_,(Zj (ZF (i:=1) sc__law_area.nd rfl (Or.inl rfl) Zf)
   (Zj (Jp PassesOwn.never rfl (Zc0 rfl B.enumerate (Za (pv 0))) (Wt (i:=2) (j:=3) rfl sc__law_area.nd rfl rfl (Or.inl rfl) (Or.inl rfl)) (Zj (ZF (i:=4) sc__law_area.nd rfl (Or.inl rfl) (Zo d__law_next hr (by decide) rfl (Zc (Za (pv 0)) (Zc (Za (pv 2)) (Zc Zf Zh)))))
   (Zm (ZF (i:=1) sc__law_area.nd rfl (Or.inl rfl) (Zl JM (Zl Z5 (Za (pv 1)) (Zl Qe (ZC Yp (Za (pv 3)) Zf (fun _ _=>rfl)) (ZC Yp (Za (pv 4)) Zf (fun _ _=>rfl)))) (Zl Qe (ZC Yp (Za (pv 3)) Zf (fun _ _=>rfl)) (ZC Yp (Za (pv 4)) Zf (fun _ _=>rfl))))))))
   (Zm (Zr (Za (pv 1))))))⟩
 rfl
noncomputable abbrev Q3:Stmt:=top 45
noncomputable abbrev Zbl:List Str:=["_law_corners","_law_found_here","_law_at"]
theorem sc__law_in_order:Zt Zbl ["_law_corners"] (Zi Q3):=⟨rfl,rfl,rfl,by decide +kernel,rfl,by decide +kernel,by decide +kernel⟩
noncomputable abbrev UV (P:Program) (w:World) (K:Frag) (mg:Str->Option Value) (base:Heap):=Yd P w K mg base "_law_in_order" 3 ["_law_corners"] Ye
theorem W4 (B:Blt mg) (d__law_area:VI P w K mg base):OkD P w K mg base "_law_in_order" Q3 3 ["_law_corners"] Ye:=fun F=>Q6 F sc__law_in_order rfl rfl fun cdv A outer s H E hr=>by
 refine ⟨_,?_,(Zj (ZF (i:=1) sc__law_in_order.nd rfl (Or.inl rfl) (Yf Zot rfl B.list PyProof.Rows.boot_list (Zc (Za (pv 0)) Zh)))
   (Zj (YN (Z8 ZlR (Zo d__law_area hr (by decide) rfl (Zc (Za (pv 1)) Zh)) Zf (ZV _)) (Zm (ZF (i:=1) sc__law_in_order.nd rfl (Or.inl rfl) (Zoi (Za (pv 1))))) ZK)
   (Zj (ZF (i:=2) sc__law_in_order.nd rfl (Or.inl rfl) (Zj4 hr.units (Za (pv 1)) (ZB (ZiP rfl hr.units) rfl B.min PyProof.Rows.boot_min (Zc (Za (pv 1)) Zh))))
   (Zm (Zr (Yf Zbe rfl B.tuple PyProof.Rows.boot_tuple (Zc (Zl Z5 (V4 (Za (pv 1)) (Z6 (Za (pv 2))) Yv) (V4 (Za (pv 1)) Yv (Z6 (Za (pv 2))))) Zh)))))))⟩
 rfl
noncomputable abbrev Vu:Stmt:=top 46
noncomputable abbrev Zfb:List Str:=["_law_a","_law_b","_law_c","_law_d"]
theorem Zdn:Zt Zfb ["_law_a","_law_b","_law_c","_law_d"] (Zi Vu):=⟨rfl,rfl,rfl,by decide +kernel,rfl,by decide +kernel,by decide +kernel⟩
noncomputable abbrev Zbo (P:Program) (w:World) (K:Frag) (mg:Str->Option Value) (base:Heap):=Yd P w K mg base "_law_meet" 3 ["_law_a","_law_b","_law_c","_law_d"] YU
theorem ZdA (B:Blt mg) (d__law_on:Zep P w K mg base) (d__law_turn:Ja P w K mg base):OkD P w K mg base "_law_meet" Vu 3 ["_law_a","_law_b","_law_c","_law_d"] YU:=fun F=>Q6 F Zdn rfl rfl fun cdv A outer s H E hr=>by
 refine ⟨_,?_,(Zj (YN (Zfg (QZ (Yq (Zo d__law_on hr (by decide) rfl (Zc (Za (pv 0)) (Zc (Za (pv 1)) (Zc (Za (pv 2)) Zh))))) (QZ (Yq (Zo d__law_on hr (by decide) rfl (Zc (Za (pv 0)) (Zc (Za (pv 1)) (Zc (Za (pv 3)) Zh))))) (QZ (Yq (Zo d__law_on hr (by decide) rfl (Zc (Za (pv 2)) (Zc (Za (pv 3)) (Zc (Za (pv 0)) Zh))))) (Qv (Yq (Zo d__law_on hr (by decide) rfl (Zc (Za (pv 2)) (Zc (Za (pv 3)) (Zc (Za (pv 1)) Zh)))))))))) (Zm (Zr Up)) ZK)
   (Zj (YN (Z8 ZqC (Zl Qe (Zo d__law_turn hr (by decide) rfl (Zc (Za (pv 0)) (Zc (Za (pv 1)) (Zc (Za (pv 2)) Zh)))) (Zo d__law_turn hr (by decide) rfl (Zc (Za (pv 0)) (Zc (Za (pv 1)) (Zc (Za (pv 3)) Zh))))) Zf (ZV _)) (Zm (Zr Up)) ZK)
   (Zm (Zr (Uj ZlR (Zl Qe (Zo d__law_turn hr (by decide) rfl (Zc (Za (pv 2)) (Zc (Za (pv 3)) (Zc (Za (pv 0)) Zh)))) (Zo d__law_turn hr (by decide) rfl (Zc (Za (pv 2)) (Zc (Za (pv 3)) (Zc (Za (pv 1)) Zh))))) Zf (ZV _))))))⟩
 rfl
noncomputable abbrev Uw:Stmt:=top 47
noncomputable abbrev Zej:List Str:=["_law_corners","_law_found_here","_law_at","_law_a"]
theorem sc__law_turns:Zt Zej ["_law_corners"] (Zi Uw):=⟨rfl,rfl,rfl,by decide +kernel,rfl,by decide +kernel,by decide +kernel⟩
noncomputable abbrev WZ (P:Program) (w:World) (K:Frag) (mg:Str->Option Value) (base:Heap):=Yd P w K mg base "_law_turns" 2 ["_law_corners"] Qg
theorem ZcL (B:Blt mg) (d__law_turn:Ja P w K mg base) (d__law_next:Jb P w K mg base):OkD P w K mg base "_law_turns" Uw 2 ["_law_corners"] Qg:=fun F=>Q6 F sc__law_turns rfl rfl fun cdv A outer s H E hr=>by
 refine ⟨_,?_,(Zj (Zhe (i:=1) sc__law_turns.nd rfl (Or.inl rfl) Zh)
   (Zj (Jp PassesOwn.never rfl (Zc0 rfl B.enumerate (Za (pv 0))) (Wt (i:=2) (j:=3) rfl sc__law_turns.nd rfl rfl (Or.inl rfl) (Or.inl rfl)) (Zm (Zhg (i:=1) (pv 1) (Zo d__law_turn hr (by decide) rfl (Zc (Za (pv 3)) (Zc (Zo d__law_next hr (by decide) rfl (Zc (Za (pv 0)) (Zc (Za (pv 2)) (Zc Zf Zh)))) (Zc (Zo d__law_next hr (by decide) rfl (Zc (Za (pv 0)) (Zc (Za (pv 2)) (Zc Zf Zh)))) Zh)))))))
   (Zm (Zm4 1 (Zr (Za (pv 1)))))))⟩
 rfl
noncomputable abbrev Ju:Stmt:=top 48
noncomputable abbrev ZbJ:List Str:=["_law_corners","_law_many","_law_one","_law_other","_law_c","_law_d"]
theorem sc__law_is_good:Zt ZbJ ["_law_corners"] (Zi Ju):=⟨rfl,rfl,rfl,by decide +kernel,rfl,by decide +kernel,by decide +kernel⟩
noncomputable abbrev JH (P:Program) (w:World) (K:Frag) (mg:Str->Option Value) (base:Heap):=Yd P w K mg base "_law_is_good" 4 ["_law_corners"] Yn
theorem ZaM (B:Blt mg) (d__law_turns:WZ P w K mg base) (d__law_next:Jb P w K mg base) (d__law_meet:Zbo P w K mg base):OkD P w K mg base "_law_is_good" Ju 4 ["_law_corners"] Yn:=fun F=>Q6 F sc__law_is_good rfl rfl fun cdv A outer s H E hr=>by
 refine ⟨_,?_,(Zj (ZF (i:=1) sc__law_is_good.nd rfl (Or.inl rfl) (ZB Jd rfl B.len PySem.boot_len (Zc (Za (pv 0)) Zh)))
   (Zj (YN (Zfg (QZ (Z8 ZlR (ZdU rfl hr.units rfl B.len rfl B.set (Za (pv 0))) (Za (pv 1)) (ZV _)) (Qv (Z8 (ZnG hr.units) Zf (Zo d__law_turns hr (by decide) rfl (Zc (Za (pv 0)) Zh)) (by rfl))))) (Zm (Zr Up)) ZK)
   (Zj (Jp PassesOwn.never rfl (VB rfl B.range (Za (pv 1))) (Yx (i:=2) sc__law_is_good.nd rfl (Or.inl rfl)) (Zm (Jp PassesOwn.never rfl (Zl9 rfl B.range (Zl Z5 (Za (pv 2)) Zf) (Za (pv 1))) (Yx (i:=3) sc__law_is_good.nd rfl (Or.inl rfl)) (Zm (YN (Z8 (Zeq hr.units) (Zl QL (Zl Z5 (Za (pv 3)) Zf) (Za (pv 1))) (Za (pv 2)) (ZV _)) (Zj (ZF (i:=4) sc__law_is_good.nd rfl (Or.inl rfl) (ZC Yp (Za (pv 0)) (Za (pv 3)) (fun _ _=>rfl)))
   (Zj (ZF (i:=5) sc__law_is_good.nd rfl (Or.inl rfl) (Zo d__law_next hr (by decide) rfl (Zc (Za (pv 0)) (Zc (Za (pv 3)) (Zc Zf Zh)))))
   (Zm (YN (Yq (Zo d__law_meet hr (by decide) rfl (Zc (ZC Yp (Za (pv 0)) (Za (pv 2)) (fun _ _=>rfl)) (Zc (Zo d__law_next hr (by decide) rfl (Zc (Za (pv 0)) (Zc (Za (pv 2)) (Zc Zf Zh)))) (Zc (Za (pv 4)) (Zc (Za (pv 5)) Zh)))))) (Zm (Zr Up)) ZK)))) ZK)))))
   (Zm (Zr Up)))))⟩
 rfl
noncomputable abbrev Qz:Stmt:=top 49
noncomputable abbrev WV:List Str:=["_law_number_here","_law_wide","_law_many"]
theorem ZcB:Zt WV ["_law_number_here","_law_wide","_law_many"] (Zi Qz):=⟨rfl,rfl,rfl,by decide +kernel,rfl,by decide +kernel,by decide +kernel⟩
noncomputable abbrev UU (P:Program) (w:World) (K:Frag) (mg:Str->Option Value) (base:Heap):=Yd P w K mg base "_law_spots" 2 ["_law_number_here","_law_wide","_law_many"] Ya
theorem ZcM (B:Blt mg) (d__law_drawn:Jm P w K mg base):OkD P w K mg base "_law_spots" Qz 2 ["_law_number_here","_law_wide","_law_many"] Ya:=fun F=>Q6 F ZcB rfl rfl fun cdv A outer s H E hr=>by
 refine ⟨_,?_,(Zm (Zr (QN (N:=["_law_k","_law_wide","_law_number_here"]) (caps:=[none,some 1,some 0]) (Qb (sc:=Zi Qz) rfl (by decide +kernel)) (Qc (sc:=Zi Qz) (XN:=WV) rfl rfl (by decide +kernel)) rfl (VB rfl B.range (Za (pv 2))) (Yc 0) (fun _ _ _ _=>Yx (i:=0) (show (["_law_k","_law_wide","_law_number_here"]:List Str).Nodup by decide +kernel) rfl (Or.inl rfl)) (fun _ _ _ _=>QJ) (fun _ _ _ _=>(JP (Zc (Zl QL (Zo d__law_drawn hr (by decide) rfl (Zc (Za (pv 2)) (Zc (Zl Qe Zf (Za (pv 0))) Zh))) (Za (pv 1))) (Zc (Zl QL (Zo d__law_drawn hr (by decide) rfl (Zc (Za (pv 2)) (Zc (Zl Z5 (Zl Qe Zf (Za (pv 0))) Zf) Zh))) (Za (pv 1))) Zh)))))))⟩
 rfl
noncomputable abbrev YY:Stmt:=top 50
noncomputable abbrev U5:List Str:=["_law_number_here","_law_wide","_law_lows","_law_highs","_law_far","_law_found_here","_law_left"]
theorem sc__law_saw:Zt U5 ["_law_number_here","_law_wide"] (Zi YY):=⟨rfl,rfl,rfl,by decide +kernel,rfl,by decide +kernel,by decide +kernel⟩
noncomputable abbrev Zcp (P:Program) (w:World) (K:Frag) (mg:Str->Option Value) (base:Heap):=Yd P w K mg base "_law_saw" 2 ["_law_number_here","_law_wide"] QY
theorem ZeM (B:Blt mg) (d__law_drawn:Jm P w K mg base) (d__law_turn:Ja P w K mg base) (d__law_next:Jb P w K mg base):OkD P w K mg base "_law_saw" YY 2 ["_law_number_here","_law_wide"] QY:=fun F=>Q6 F sc__law_saw rfl rfl fun cdv A outer s H E hr=>by
 refine ⟨_,?_,(Zj (ZF (i:=2) sc__law_saw.nd rfl (Or.inl rfl) (Zl Z5 Zf (Zl QL (Za (pv 0)) Zf)))
   (Zj (ZF (i:=3) sc__law_saw.nd rfl (Or.inl rfl) (Zl Z5 Zf (Zl QL (Zl VS (Za (pv 0)) Zf) Zf)))
   (Zj (ZF (i:=4) sc__law_saw.nd rfl (Or.inr rfl) (Zl Z5 Zf (ZB (ZfV rfl) rfl B.max PyProof.Rows.boot_max (Zc (Za (pv 2)) (Zc (Za (pv 3)) Zh)))))
   (Zj (ZF (i:=5) sc__law_saw.nd rfl (Or.inl rfl) (Zl Z5 (Zl Z5 (WO (Zc (JP (Zc Zf (Zc Zf Zh))) Zh Jg)) (QN (N:=["_law_k","_law_wide","_law_number_here"]) (caps:=[none,some 1,some 0]) (Qb (sc:=Zi YY) rfl (by decide +kernel)) (Qc (sc:=Zi YY) (XN:=U5) rfl rfl (by decide +kernel)) rfl (VB rfl B.range (Za (pv 2))) (Yc 0) (fun _ _ _ _=>Yx (i:=0) (show (["_law_k","_law_wide","_law_number_here"]:List Str).Nodup by decide +kernel) rfl (Or.inl rfl)) (fun _ _ _ _=>QJ) (fun _ _ _ _=>(JP (Zc (Zl Z5 Zf (Za (pv 0))) (Zc (Zl JM (Ziy ZhL Zf) (Zl QL (Zo d__law_drawn hr (by decide) rfl (Zc (Za (pv 2)) (Zc (Za (pv 0)) Zh))) (Za (pv 1)))) Zh)))))) (WO (Zc (JP (Zc (Za (pv 4)) (Zc Zf Zh))) Zh Jg))))
   (Zj (ZF (i:=5) sc__law_saw.nd rfl (Or.inl rfl) (Zl Z5 (Za (pv 5)) (QN (N:=["_law_k","_law_far","_law_wide","_law_number_here"]) (caps:=[none,some 4,some 1,some 0]) (Qb (sc:=Zi YY) rfl (by decide +kernel)) (Qc (sc:=Zi YY) (XN:=U5) rfl rfl (by decide +kernel)) rfl (VB rfl B.range (Za (pv 3))) (Yc 0) (fun _ _ _ _=>Yx (i:=0) (show (["_law_k","_law_far","_law_wide","_law_number_here"]:List Str).Nodup by decide +kernel) rfl (Or.inl rfl)) (fun _ _ _ _=>QJ) (fun _ _ _ _=>(JP (Zc (Zl JM (Zl JM (Za (pv 1)) Zf) (Za (pv 0))) (Zc (Zl Z5 Zf (Zl QL (Zo d__law_drawn hr (by decide) rfl (Zc (Za (pv 3)) (Zc (Zl Z5 Zf (Za (pv 0))) Zh))) (Za (pv 2)))) Zh)))))))
   (Zj (ZF (i:=6) sc__law_saw.nd rfl (Or.inr rfl) (WO Zh))
   (Zj (Zjo 3000 PassesOwn.never (Z8 (Zeq hr.units) (ZB Jd rfl B.len PySem.boot_len (Zc (Za (pv 6)) Zh)) (ZB Jd rfl B.len PySem.boot_len (Zc (Za (pv 5)) Zh)) (ZV _)) (Zj (ZF (i:=6) sc__law_saw.nd rfl (Or.inr rfl) (Za (pv 5)))
   (Zm (Zhf (i:=5) sc__law_saw.nd rfl (Or.inl rfl) (N:=["_law_at","_law_a","_law_left"]) (caps:=[none,none,some 6]) (Qb (sc:=Zi YY) rfl (by decide +kernel)) (Qc (sc:=Zi YY) (XN:=U5) rfl rfl (by decide +kernel)) rfl (Zc0 rfl B.enumerate (Za (pv 6))) (ZbW 0 1) (fun _ _ _ _=>Wt (i:=0) (j:=1) rfl (show (["_law_at","_law_a","_law_left"]:List Str).Nodup by decide +kernel) rfl rfl (Or.inl rfl) (Or.inl rfl)) (fun _ _ _ _=>Zex (Z8 (Zeq hr.units) (Zo d__law_turn hr (by decide) rfl (Zc (ZC Yp (Za (pv 2)) (Zl JM (Za (pv 0)) Zf) (fun _ _=>rfl)) (Zc (Za (pv 1)) (Zc (Zo d__law_next hr (by decide) rfl (Zc (Za (pv 2)) (Zc (Za (pv 0)) (Zc Zf Zh)))) Zh)))) Zf (ZV _))) (fun _ _ _ _=>(Za (pv 1)))))))
   (Zm (Zr (Za (pv 5)))))))))))⟩
 rfl
noncomputable abbrev Q2:Stmt:=top 51
noncomputable abbrev Zbk:List Str:=["_law_number_here","_law_wide","_law_found_here","_law_by"]
theorem sc__law_plot:Zt Zbk ["_law_number_here","_law_wide"] (Zi Q2):=⟨rfl,rfl,rfl,by decide +kernel,rfl,by decide +kernel,by decide +kernel⟩
noncomputable abbrev Zbn (P:Program) (w:World) (K:Frag) (mg:Str->Option Value) (base:Heap):=Yd P w K mg base "_law_plot" 5 ["_law_number_here","_law_wide"] Y9
theorem Zdy (B:Blt mg) (d__law_spots:UU P w K mg base) (d__law_is_good:JH P w K mg base) (d__law_saw:Zcp P w K mg base) (d__law_in_order:UV P w K mg base):OkD P w K mg base "_law_plot" Q2 5 ["_law_number_here","_law_wide"] Y9:=fun F=>Q6 F sc__law_plot rfl rfl fun cdv A outer s H E hr=>by
 refine ⟨_,?_,(Zj (ZF (i:=2) sc__law_plot.nd rfl (Or.inl rfl) (Zo d__law_spots hr (by decide) rfl (Zc (Zl VS (Za (pv 0)) Zf) (Zc (Za (pv 1)) (Zc (Zl Z5 Zf (Zl QL (Zl VS (Za (pv 0)) Zf) Zf)) Zh)))))
   (Zj (YN (Zfg (QZ (Z8 (Zja hr.units) (Zl QL (Za (pv 0)) Zf) Zf (ZV _)) (Qv (QP (Yq (Zo d__law_is_good hr (by decide) rfl (Zc (Za (pv 2)) Zh))))))) (Zm (ZF (i:=2) sc__law_plot.nd rfl (Or.inl rfl) (Zo d__law_saw hr (by decide) rfl (Zc (Zl VS (Za (pv 0)) Zf) (Zc (Za (pv 1)) Zh))))) ZK)
   (Zj (ZF (i:=3) sc__law_plot.nd rfl (Or.inr rfl) (Zl VS (Zl Qe (Zl QL (Zl VS (Za (pv 0)) Zf) Zf) (Za (pv 1))) Zf))
   (Zm (Zr (Zo d__law_in_order hr (by decide) rfl (Zc (QN (N:=["_law_x","_law_y","_law_by"]) (caps:=[none,none,some 3]) (Qb (sc:=Zi Q2) rfl (by decide +kernel)) (Qc (sc:=Zi Q2) (XN:=Zbk) rfl rfl (by decide +kernel)) rfl (UF (Za (pv 2))) (ZbW 0 1) (fun _ _ _ _=>Wt (i:=0) (j:=1) rfl (show (["_law_x","_law_y","_law_by"]:List Str).Nodup by decide +kernel) rfl rfl (Or.inl rfl) (Or.inl rfl)) (fun _ _ _ _=>QJ) (fun _ _ _ _=>(JP (Zc (Zl JM (Za (pv 0)) (Za (pv 2))) (Zc (Za (pv 1)) Zh))))) Zh)))))))⟩
 rfl
noncomputable abbrev Jt:Stmt:=top 52
noncomputable abbrev ZbI:List Str:=["_law_thing"]
theorem Zaz:Zt ZbI ["_law_thing"] (Zi Jt):=⟨rfl,rfl,rfl,by decide +kernel,rfl,by decide +kernel,by decide +kernel⟩
noncomputable abbrev Vn (P:Program) (w:World) (K:Frag) (mg:Str->Option Value) (base:Heap):=Yd P w K mg base "_law_is_spot" 2 ["_law_thing"] Ym
theorem ZaK (B:Blt mg) (d__law_number:We P w K mg base):OkD P w K mg base "_law_is_spot" Jt 2 ["_law_thing"] Ym:=fun F=>Q6 F Zaz rfl rfl fun cdv A outer s H E hr=>by
 refine ⟨_,?_,(Zj (YN (Zfg (QZ (QP (Yq (WP (T:=.tuple) rfl B.isinstance rfl B.tuple PyProof.Rows.boot_tuple (Za (pv 0))))) (Qv (Z8 (Zeq hr.units) (ZB Jd rfl B.len PySem.boot_len (Zc (Za (pv 0)) Zh)) Zf (ZV _))))) (Zm (Zr Up)) ZK)
   (Zm (Zr (Qt (Zo d__law_number hr (by decide) rfl (Zc (ZC Yp (Za (pv 0)) Zf (fun _ _=>rfl)) (Zc (Ziy ZhL Zf) (Zc Zf Zh)))) (QR (Zo d__law_number hr (by decide) rfl (Zc (ZC Yp (Za (pv 0)) Zf (fun _ _=>rfl)) (Zc (Ziy ZhL Zf) (Zc Zf Zh)))))))))⟩
 rfl
noncomputable abbrev Y5:Stmt:=top 53
noncomputable abbrev Vk:List Str:=["_law_thing"]
theorem ZaA:Zt Vk ["_law_thing"] (Zi Y5):=⟨rfl,rfl,rfl,by decide +kernel,rfl,by decide +kernel,by decide +kernel⟩
noncomputable abbrev JG (P:Program) (w:World) (K:Frag) (mg:Str->Option Value) (base:Heap):=Yd P w K mg base "_law_is_plot" 5 ["_law_thing"] Zy
theorem ZaL (B:Blt mg) (d__law_is_spot:Vn P w K mg base) (d__law_is_good:JH P w K mg base) (d__law_area:VI P w K mg base):OkD P w K mg base "_law_is_plot" Y5 5 ["_law_thing"] Zy:=fun F=>Q6 F ZaA rfl rfl fun cdv A outer s H E hr=>by
 refine ⟨_,?_,(Zj (YN (Zfg (QZ (QP (Yq (WP (T:=.tuple) rfl B.isinstance rfl B.tuple PyProof.Rows.boot_tuple (Za (pv 0))))) (Qv (QP (Zfh Zer Zer Zf (ZB Jd rfl B.len PySem.boot_len (Zc (Za (pv 0)) Zh)) Zf))))) (Zm (Zr Up)) ZK)
   (Zj (YN (Z8 (Zeq hr.units) (QN (N:=["_law_part"]) (caps:=[none]) (Qb (sc:=Zi Y5) rfl (by decide +kernel)) (Qc (sc:=Zi Y5) (XN:=Vk) rfl rfl (by decide +kernel)) rfl (UF (Za (pv 0))) (Yc 0) (fun _ _ _ _=>Yx (i:=0) (show (["_law_part"]:List Str).Nodup by decide +kernel) rfl (Or.inl rfl)) (fun _ _ _ _=>Zex (QP (Yq (Zo d__law_is_spot hr (by decide) rfl (Zc (Za (pv 0)) Zh))))) (fun _ _ _ _=>(Za (pv 0)))) (WO Zh) (ZV _)) (Zm (Zr Up)) ZK)
   (Zm (Zr (Qt (Zo d__law_is_good hr (by decide) rfl (Zc (Za (pv 0)) Zh)) (Qt (Uj ZoH (Zo d__law_area hr (by decide) rfl (Zc (Za (pv 0)) Zh)) Zf (ZV _)) (QR (Uj (Zja hr.units) (ZC Yp (Za (pv 0)) Zf (fun _ _=>rfl)) (ZB (ZiP rfl hr.units) rfl B.min PyProof.Rows.boot_min (Zc (Za (pv 0)) Zh)) (ZV _)))))))))⟩
 rfl
noncomputable abbrev Js:Stmt:=top 54
noncomputable abbrev ZbH:List Str:=["_law_corners","_law_found_here","_law_x","_law_y"]
theorem sc__law_written:Zt ZbH ["_law_corners"] (Zi Js):=⟨rfl,rfl,rfl,by decide +kernel,rfl,by decide +kernel,by decide +kernel⟩
noncomputable abbrev JF (P:Program) (w:World) (K:Frag) (mg:Str->Option Value) (base:Heap):=Yd P w K mg base "_law_written" 1 ["_law_corners"] ZP
theorem ZaJ (B:Blt mg):OkD P w K mg base "_law_written" Js 1 ["_law_corners"] ZP:=fun F=>Q6 F sc__law_written rfl rfl fun cdv A outer s H E hr=>by
 refine ⟨_,?_,(Zj (ZF (i:=1) sc__law_written.nd rfl (Or.inl rfl) YL)
   (Zj (Jp PassesOwn.never rfl (UF (Za (pv 0))) (Wt (i:=2) (j:=3) rfl sc__law_written.nd rfl rfl (Or.inl rfl) (Or.inl rfl)) (Zm (ZF (i:=1) sc__law_written.nd rfl (Or.inl rfl) (Zl Z5 (Zl Z5 (Zl Z5 (Zl Z5 (Za (pv 1)) YL) (Yf Zkg rfl B.str PyProof.Rows.boot_str (Zc (Za (pv 2)) Zh))) YL) (Yf Zkg rfl B.str PyProof.Rows.boot_str (Zc (Za (pv 3)) Zh))))))
   (Zm (Zr (WN (Za (pv 1)) (Z6 Zf) Yv)))))⟩
 rfl
noncomputable abbrev Jv:Stmt:=top 55
noncomputable abbrev ZbK:List Str:=["_law_text","_law_number_here","_law_words","_law_at","_law_place","_law_kind","_law_mark","_law_led","_law_some"]
theorem sc__law_changed:Zt ZbK ["_law_text","_law_number_here"] (Zi Jv):=⟨rfl,rfl,rfl,by decide +kernel,rfl,by decide +kernel,by decide +kernel⟩
noncomputable abbrev Vo (P:Program) (w:World) (K:Frag) (mg:Str->Option Value) (base:Heap):=Yd P w K mg base "_law_changed" 1 ["_law_text","_law_number_here"] Yb
theorem ZaN (B:Blt mg):OkD P w K mg base "_law_changed" Jv 1 ["_law_text","_law_number_here"] Yb:=fun F=>Q6 F sc__law_changed rfl rfl fun cdv A outer s H E hr=>by
 refine ⟨_,?_,(Zj (ZF (i:=2) sc__law_changed.nd rfl (Or.inl rfl) (Wv PySem.F.slot_str_split PySem.F.type_str_split QU J6 (Za (pv 0)) YL))
   (Zj (ZF (i:=3) sc__law_changed.nd rfl (Or.inl rfl) (Zl QL (Zl VS (Za (pv 1)) Zf) (ZB Jd rfl B.len PySem.boot_len (Zc (Za (pv 2)) Zh))))
   (Zj (ZF (i:=4) sc__law_changed.nd rfl (Or.inl rfl) (Zl QL (Zl VS (Za (pv 1)) Zf) (Zl Z5 (ZB Jd rfl B.len PySem.boot_len (Zc (Za (pv 0)) Zh)) Zf)))
   (Zj (ZF (i:=5) sc__law_changed.nd rfl (Or.inl rfl) (Zl QL (Za (pv 1)) Zf))
   (Zj (YN (Z8 (Zja hr.units) (Za (pv 5)) Zf (ZV _)) (Zm (Zr (Zl Z5 (WN (Za (pv 0)) Yv (Z6 (Za (pv 4)))) (WN (Za (pv 0)) (Z6 (Zl Z5 (Za (pv 4)) Zf)) Yv)))) ZK)
   (Zj (YN (Z8 ZlR (Za (pv 5)) Zf (ZV _)) (Zj (ZF (i:=6) sc__law_changed.nd rfl (Or.inl rfl) (ZC Yp YL (Zl QL (Zl VS (Za (pv 1)) Zf) Zf) (fun _ _=>rfl)))
   (Zm (Zr (Zl Z5 (Zl Z5 (WN (Za (pv 0)) Yv (Z6 (Za (pv 4)))) (Za (pv 6))) (WN (Za (pv 0)) (Z6 (Zl JM (Zl Z5 (Za (pv 4)) (Za (pv 5))) Zf)) Yv))))) ZK)
   (Zj (YN (Z8 (Zja hr.units) (Za (pv 5)) Zf (ZV _)) (Zm (Zr (Za5 YL (Zl Z5 (V4 (Za (pv 2)) Yv (Z6 (Za (pv 3)))) (V4 (Za (pv 2)) (Z6 (Zl Z5 (Za (pv 3)) Zf)) Yv))))) ZK)
   (Zj (YN (Z8 (Zja hr.units) (Za (pv 5)) Zf (ZV _)) (Zm (Zr (Za5 YL (Zl Z5 (Zl Z5 (V4 (Za (pv 2)) Yv (Z6 (Za (pv 3)))) (V4 (Za (pv 2)) (Z6 (Za (pv 3))) (Z6 (Zl Z5 (Za (pv 3)) Zf)))) (V4 (Za (pv 2)) (Z6 (Za (pv 3))) Yv))))) ZK)
   (Zj (YN (Z8 (Zja hr.units) (Za (pv 5)) Zf (ZV _)) (Zj (ZF (i:=7) sc__law_changed.nd rfl (Or.inl rfl) (Zl Z5 (V4 (Za (pv 2)) (Z6 (Zl Z5 (Za (pv 3)) Zf)) (Z6 (Zl Z5 (Za (pv 3)) Zf))) (V4 (Za (pv 2)) (Z6 (Za (pv 3))) (Z6 (Zl Z5 (Za (pv 3)) Zf)))))
   (Zm (Zr (Za5 YL (Zl Z5 (Zl Z5 (V4 (Za (pv 2)) Yv (Z6 (Za (pv 3)))) (Za (pv 7))) (V4 (Za (pv 2)) (Z6 (Zl Z5 (Za (pv 3)) Zf)) Yv)))))) ZK)
   (Zj (ZF (i:=8) sc__law_changed.nd rfl (Or.inl rfl) (Wv PySem.F.slot_str_split PySem.F.type_str_split QU J6 YL YL))
   (Zm (Zr (Za5 YL (Zl Z5 (Zl Z5 (V4 (Za (pv 2)) Yv (Z6 (Za (pv 3)))) (WO (Zc (ZC Yp (Za (pv 8)) (Zl QL (Zl VS (Za (pv 1)) Zf) Zf) (fun _ _=>rfl)) Zh))) (V4 (Za (pv 2)) (Z6 (Zl Z5 (Za (pv 3)) Zf)) Yv)))))))))))))))⟩
 rfl
noncomputable abbrev YC:Stmt:=top 56
noncomputable abbrev Uk:List Str:=["_law_word","_law_plain"]
theorem sc__law_number_of:Zt Uk ["_law_word"] (Zi YC):=⟨rfl,rfl,rfl,by decide +kernel,rfl,by decide +kernel,by decide +kernel⟩
noncomputable abbrev Um (P:Program) (w:World) (K:Frag) (mg:Str->Option Value) (base:Heap):=Yd P w K mg base "_law_number_of" 1 ["_law_word"] ZX
theorem Wp (B:Blt mg):OkD P w K mg base "_law_number_of" YC 1 ["_law_word"] ZX:=fun F=>Q6 F sc__law_number_of rfl rfl fun cdv A outer s H E hr=>by
 refine ⟨_,?_,(Zj (ZF (i:=1) sc__law_number_of.nd rfl (Or.inl rfl) (WN (Za (pv 0)) (Z6 (Yf Zmp rfl B.int PyProof.Rows.boot_int (Zc (Wv PySem.F.slot_str_startswith PySem.F.type_str_startswith ZaQ UA (Za (pv 0)) YL) Zh))) Yv))
   (Zj (YN (Zfg (QZ (QP (Zfh Zer Zer Zf (ZB Jd rfl B.len PySem.boot_len (Zc (Za (pv 1)) Zh)) Zf)) (Qv (Z8 (Zeq hr.units) (QN (N:=["_law_mark"]) (caps:=[none]) (Qb (sc:=Zi YC) rfl (by decide +kernel)) (Qc (sc:=Zi YC) (XN:=Uk) rfl rfl (by decide +kernel)) rfl (ZkN (Za (pv 1))) (Yc 0) (fun _ _ _ _=>Yx (i:=0) (show (["_law_mark"]:List Str).Nodup by decide +kernel) rfl (Or.inl rfl)) (fun _ _ _ _=>Zex (Z8 ZlR (Wv PySem.F.slot_str_find PySem.F.type_str_find ZlX Znj YL (Za (pv 0))) Zf (ZV _))) (fun _ _ _ _=>(Za (pv 0)))) (WO Zh) (ZV _))))) (Zm (Zr ZdT)) ZK)
   (Zm (Zr (Yf ZkX rfl B.int PyProof.Rows.boot_int (Zc (Za (pv 0)) Zh))))))⟩
 rfl
noncomputable abbrev JL:Stmt:=top 57
noncomputable abbrev Zcl:List Str:=["_law_text","_law_found_here","_law_word","_law_parts"]
theorem sc__law_due:Zt Zcl ["_law_text"] (Zi JL):=⟨rfl,rfl,rfl,by decide +kernel,rfl,by decide +kernel,by decide +kernel⟩
noncomputable abbrev Zcq (P:Program) (w:World) (K:Frag) (mg:Str->Option Value) (base:Heap):=Yd P w K mg base "_law_due" 6 ["_law_text"] Qh
theorem ZeN (B:Blt mg) (d__law_number_of:Um P w K mg base) (d__law_is_plot:JG P w K mg base) (d__law_written:JF P w K mg base):OkD P w K mg base "_law_due" JL 6 ["_law_text"] Qh:=fun F=>Q6 F sc__law_due rfl rfl fun cdv A outer s H E hr=>by
 refine ⟨_,?_,(Zj (ZF (i:=1) sc__law_due.nd rfl (Or.inl rfl) (JP Zh))
   (Zj (Jp PassesOwn.never rfl (UF (Wv PySem.F.slot_str_split PySem.F.type_str_split QU J6 (Za (pv 0)) YL)) (Yx (i:=2) sc__law_due.nd rfl (Or.inl rfl)) (Zj (Zhf (i:=3) sc__law_due.nd rfl (Or.inl rfl) (N:=["_law_part"]) (caps:=[none]) (Qb (sc:=Zi JL) rfl (by decide +kernel)) (Qc (sc:=Zi JL) (XN:=Zcl) rfl rfl (by decide +kernel)) rfl (UF (Wv PySem.F.slot_str_split PySem.F.type_str_split QU J6 (Za (pv 2)) YL)) (Yc 0) (fun _ _ _ _=>Yx (i:=0) (show (["_law_part"]:List Str).Nodup by decide +kernel) rfl (Or.inl rfl)) (fun _ _ _ _=>QJ) (fun _ _ _ _=>(Zo d__law_number_of hr (by decide) rfl (Zc (Za (pv 0)) Zh))))
   (Zj (YN (Zfg (QZ (Z8 (Zeq hr.units) (ZB Jd rfl B.len PySem.boot_len (Zc (Za (pv 3)) Zh)) Zf (ZV _)) (Qv (Z8 (ZnG hr.units) ZdT (Za (pv 3)) (by rfl))))) (Zm (Zr ZdT)) ZK)
   (Zm (ZF (i:=1) sc__law_due.nd rfl (Or.inl rfl) (Zl Z5 (Za (pv 1)) (JP (Zc (Yf Zbe rfl B.tuple PyProof.Rows.boot_tuple (Zc (Za (pv 3)) Zh)) Zh))))))))
   (Zj (YN (Zfg (QZ (QP (Yq (Zo d__law_is_plot hr (by decide) rfl (Zc (Za (pv 1)) Zh)))) (Qv (Z8 (Zeq hr.units) (Zo d__law_written hr (by decide) rfl (Zc (Za (pv 1)) Zh)) (Za (pv 0)) (ZV _))))) (Zm (Zr ZdT)) ZK)
   (Zm (Zr (Za (pv 1)))))))⟩
 rfl
noncomputable abbrev Qd:Stmt:=top 58
noncomputable abbrev WW:List Str:=["_law_text","_law_found_here","e","_law_good"]
theorem sc__law_found:Zt WW ["_law_text"] (Zi Qd):=⟨rfl,rfl,rfl,by decide +kernel,rfl,by decide +kernel,by decide +kernel⟩
noncomputable abbrev W2 (P:Program) (w:World) (K:Frag) (mg:Str->Option Value) (base:Heap):=Yd P w K mg base "_law_found" 9 ["_law_text"] YV
noncomputable abbrev Zga:Stmt:=top 59
noncomputable abbrev ZpL:List Str:=["_law_script","_law_number_here","_law_plot_here","_law_text","_law_k","_law_found_here"]
theorem sc_law:Zt ZpL ["_law_script"] (Zi Zga):=⟨rfl,rfl,rfl,by decide +kernel,rfl,by decide +kernel,by decide +kernel⟩
theorem ZnF (B:Blt mg) (d__law_mixed:W1 P w K mg base) (d__law_plot:Zbn P w K mg base) (d__law_spots:UU P w K mg base) (d__law_written:JF P w K mg base) (d__law_changed:Vo P w K mg base) (d__law_drawn:Jm P w K mg base) (d__law_found:W2 P w K mg base) (d__law_due:Zcq P w K mg base) (d__law_is_plot:JG P w K mg base):OkD P w K mg base "law" Zga 10 ["_law_script"] Zgy:=fun F=>Q6 F sc_law rfl rfl fun cdv A outer s H E hr=>by
 refine ⟨_,?_,(Zj (ZF (i:=1) sc_law.nd rfl (Or.inl rfl) (Zo d__law_mixed hr (by decide) rfl (Zc (Za (pv 0)) (Zc Zf Zh))))
   (Zj (ZF (i:=2) sc_law.nd rfl (Or.inl rfl) (Zo d__law_plot hr (by decide) rfl (Zc (Zo d__law_mixed hr (by decide) rfl (Zc (Za (pv 0)) (Zc Zf Zh))) (Zc (ZC Yp (JP (Zc Zf (Zc Zf (Zc Zf Zh)))) (Zl QL (Zl VS (Za (pv 1)) Zf) Zf) (fun _ _=>rfl)) Zh))))
   (Zj (YN (Z8 (Zja hr.units) (Zl QL (Zl VS (Za (pv 1)) Zf) Zf) Zf (ZV _)) (Zm (ZF (i:=2) sc_law.nd rfl (Or.inl rfl) (Yf Zbe rfl B.tuple PyProof.Rows.boot_tuple (Zc (Zo d__law_spots hr (by decide) rfl (Zc (Zo d__law_mixed hr (by decide) rfl (Zc (Za (pv 0)) (Zc Zf Zh))) (Zc Zf (Zc (Zl Z5 Zf (Zl QL (Zl VS (Za (pv 1)) Zf) Zf)) Zh)))) Zh)))) ZK)
   (Zj (ZF (i:=3) sc_law.nd rfl (Or.inl rfl) (Zo d__law_written hr (by decide) rfl (Zc (Za (pv 2)) Zh)))
   (Zj (Jp PassesOwn.never rfl (VB rfl B.range (Zl Qe (Zl QL (Za (pv 1)) Zf) (Zl Z5 Zf (Zl QL (Zl VS (Za (pv 1)) Zf) Zf)))) (Yx (i:=4) sc_law.nd rfl (Or.inl rfl)) (Zm (ZF (i:=3) sc_law.nd rfl (Or.inl rfl) (Zo d__law_changed hr (by decide) rfl (Zc (Za (pv 3)) (Zc (Zo d__law_drawn hr (by decide) rfl (Zc (Za (pv 1)) (Zc (Za (pv 4)) Zh))) Zh))))))
   (Zj (ZF (i:=5) sc_law.nd rfl (Or.inl rfl) (Zo d__law_found hr (by decide) rfl (Zc (Za (pv 3)) Zh)))
   (Zm (Zr (Qt (Uj (Zja hr.units) (Za (pv 5)) (Zo d__law_due hr (by decide) rfl (Zc (Za (pv 3)) Zh)) (ZV _)) (QR (Zoj (ZkS (Za (pv 5))) (QR (Zo d__law_is_plot hr (by decide) rfl (Zc (Za (pv 5)) Zh))))))))))))))⟩
 rfl
end
noncomputable abbrev lwL:DS:=(ZM 3 (dFn 2 Yb (Zb (Zd 3) (Zb (dFn 2 Zw (Zb (Zd 1) (Zb (Zd 4) Zk))) Zk))))
theorem ZmS {S T:D} {m k:Int} {x:Str} (hx:PyData.strOk x=true) (hl:x.length<=20000) (b:Sl):∃ y,lwL [.val S,.val (.int m),.val T,.val (.str x),.val (.int k),b]=some (.nx [.val S,.val (.int m),.val T,.val (.str y),.val (.int k),b])/\PyData.strOk y=true/\y.length+30<=4*(x.length+30):=by
 obtain ⟨y,e,o,l⟩:=ZiL (x:=x) (n:=JQ m k) (ZiA m k).1 hx hl
 have d:=UM m k
 refine ⟨y,?_,o,l⟩
 unfold lwL
 rw [Qi]
 show ((((Zw [.int m,.int k]).bind fun z=>some [z]).bind fun zs=>some (D.str x::zs)).bind fun xs=>if xs.length=2 then Yb xs else none).map _=_
 rw [d]
 show (Yb [.str x,.int (JQ m k)]).map _=_
 rw [e]; rfl
theorem ZkJ {S T:D} {m:Int} {b:Sl}:∀ (j:Nat) (ks:List Int) (x:Str) (a:Sl),ks.length<=j->j<=4->PyData.strOk x=true->x.length+30<=150*4 ^ (4-j)->∃ y a',QM (Zz 4) lwL (ks.map .int) [.val S,.val (.int m),.val T,.val (.str x),a,b]=some (.nx [.val S,.val (.int m),.val T,.val (.str y),a',b])/\PyData.strOk y=true/\y.length+30<=150*4 ^ 4
 | j,[],x,a,_,hj,hx,hl=>⟨x,a,rfl,hx,Nat.le_trans hl (Nat.mul_le_mul_left _ (Nat.pow_le_pow_right (by decide) (by omega)))⟩
 | 0,k::ks,_,_,h,_,_,_=>by simp at h
 | j+1,k::ks,x,a,h,hj,hx,hl=>by
  have p4:(4:Nat) ^ (4-(j+1))<=4 ^ 3:=Nat.pow_le_pow_right (by decide) (by omega)
  have h2:x.length+30<=150*4 ^ 3:=Nat.le_trans hl (Nat.mul_le_mul_left _ p4)
  have h3:150*4 ^ 3=9600:=by decide
  obtain ⟨y,e,o,l⟩:=ZmS (S:=S) (T:=T) (m:=m) (k:=k) hx (by omega) b
  have p5:(4:Nat) ^ (4-j)=4*4 ^ (4-(j+1)):=by
   rw [show 4-j=(4-(j+1))+1 by omega,Nat.pow_succ,Nat.mul_comm]
  obtain ⟨z,a',ih,o2,l2⟩:=ZkJ (S:=S) (T:=T) (m:=m) (b:=b) j ks y (.val (.int k)) (by simpa using h) (by omega) o (by rw [p5]; omega)
  refine ⟨z,a',?_,o2,l2⟩
  rw [<-ih]
  show (match lwL [.val S,.val (.int m),.val T,.val (.str x),.val (.int k),b] with
   | some (.nx ρ2)=>QM (Zz 4) lwL (ks.map .int) ρ2
   | some (.ct ρ2)=>QM (Zz 4) lwL (ks.map .int) ρ2
   | some (.bk ρ2)=>some (.nx ρ2)
   | r=>r)=_
  rw [e]
theorem ZnX (ns:List Int):Zgy [.lst (ns.map .int)]=some (.bl true):=by
 have x0:ZS [.lst (ns.map .int),.int 0]=some (.int (Zjb (US ns 0) 0)):=Za2 ns 0
 have x1:ZS [.lst (ns.map .int),.int 1]=some (.int (Zjb (US ns 1) 1)):=Za2 ns 1
 have x2:ZS [.lst (ns.map .int),.int 2]=some (.int (Zjb (US ns 2) 2)):=Za2 ns 2
 have r1:=ZjL (US ns 1) 1
 generalize Zjb (US ns 0) 0=m0 at x0
 generalize Zjb (US ns 1) 1=m1 at x1 r1
 generalize Zjb (US ns 2) 2=m2 at x2
 generalize hS:D.lst (ns.map .int)=S at x0 x1 x2
 have e3:=Qq (i:=m1) (j:=3) (by omega)
 have v3:=Wy (i:=m1) (j:=3) (by omega) (by omega)
 have e33:=Qq (i:=m1 / 3) (j:=3) (by omega)
 have v9:=Wy (i:=m1) (j:=9) (by omega) (by omega)
 have e95:=Qq (i:=m1 / 9) (j:=5) (by omega)
 have v45:=Wy (i:=m1) (j:=45) (by omega) (by omega)
 have e453:=Qq (i:=m1 / 45) (j:=3) (by omega)
 have v450:=Wy (i:=m1) (j:=450) (by omega) (by omega)
 have e4502:=Qq (i:=m1 / 450) (j:=2) (by omega)
 have l3:(3:Nat)<=lim:=YD (by decide)
 obtain ⟨wide,hw,hwide⟩:∃ wide,(wide=4\/wide=9\/wide=100)/\dIx (.tup [.int 4,.int 9,.int 100]) (.int (m1 / 3 % 3))=some (.int wide):=by
  have:m1 / 3 % 3=0\/m1 / 3 % 3=1\/m1 / 3 % 3=2:=by omega
  rcases this with h | h | h
  ·rw [h]; exact ⟨4,.inl rfl,rfl⟩
  ·rw [h]; exact ⟨9,.inr (.inl rfl),rfl⟩
  ·rw [h]; exact ⟨100,.inr (.inr rfl),rfl⟩
 obtain ⟨ps0,p0,h01,h02,h03⟩:=Zht (n:=m0) (wide:=wide) (by omega) (by omega)
 have s1:ZM 1 (dFn 2 ZS (Zb (Zd 0) (Zb (Zg (.int 1)) Zk))) [.val S,.no,.no,.no,.no,.no]=some (.nx [.val S,.val (.int m1),.no,.no,.no,.no]):=by
  simp -implicitDefEqProofs [x1]
 have s2:ZM 2 (dFn 2 Y9 (Zb (dFn 2 ZS (Zb (Zd 0) (Zb (Zg (.int 0)) Zk))) (Zb (Ze dIx (Qr (Zb (Zg (.int 4)) (Zb (Zg (.int 9)) (Zb (Zg (.int 100)) Zk)))) (Ze Yu (Ze Qu (Zd 1) (Zg (.int 3))) (Zg (.int 3)))) Zk))) [.val S,.val (.int m1),.no,.no,.no,.no]=some (.nx [.val S,.val (.int m1),.val (.tup (ps0.map pD)),.no,.no,.no]):=by
  generalize D.tup (ps0.map pD)=t0 at p0 ⊢
  simp -implicitDefEqProofs [x0,v3,e33,l3,hwide,p0]
 have s3:∃ ps:List Pt,ZY (Zn (Ze U4 (Ze Yu (Ze Qu (Zd 1) (Zg (.int 9))) (Zg (.int 5))) (Zg (.int 1)))) (ZM 2 (Zv Yo (Zb (dFn 3 Ya (Zb (dFn 2 ZS (Zb (Zd 0) (Zb (Zg (.int 2)) Zk))) (Zb (Zg (.int 5)) (Zb (Ze ZE (Zg (.int 3)) (Ze Yu (Ze Qu (Zd 1) (Zg (.int 45))) (Zg (.int 3)))) Zk)))) Zk))) ZA [.val S,.val (.int m1),.val (.tup (ps0.map pD)),.no,.no,.no]=some (.nx [.val S,.val (.int m1),.val (.tup (ps.map pD)),.no,.no,.no])/\ps≠[]/\ps.length<=12/\All (Rg 999) ps:=by
  by_cases q:m1 / 9 % 5=1
  ·generalize D.tup (ps0.map pD)=t0 at *
   obtain ⟨k,hk⟩:∃ k:Nat,(k:Int)=3+m1 / 45 % 3:=⟨(3+m1 / 45 % 3).toNat,by omega⟩
   obtain ⟨a,b,c,d⟩:=Zf5 (n:=m2) (k:=k) (by omega) (by omega)
   rw [hk] at a
   refine ⟨_,?_,b,c,d⟩
   generalize D.tup ((YA m2 5 k).map pD)=t1 at *
   cases z:Ya [.int m2,.int 5,.int (3+m1 / 45 % 3)] with
   | none=>rw [z] at a; cases a
   | some y=>
    rw [z] at a
    have a':Yo [y]=some t1:=a
    simp -implicitDefEqProofs [v9,e95,q,x2,v45,e453,z,a']
  ·refine ⟨ps0,?_,h01,h02,h03⟩
   generalize D.tup (ps0.map pD)=t0
   simp -implicitDefEqProofs [v9,e95,q]
 obtain ⟨ps,s3,g1,g2,g3⟩:=s3
 have lw:=ZbY g1 g2 g3
 have tl:=Zjf g3 g2
 have s4:ZM 3 (dFn 1 ZP (Zb (Zd 2) Zk)) [.val S,.val (.int m1),.val (.tup (ps.map pD)),.no,.no,.no]=some (.nx [.val S,.val (.int m1),.val (.tup (ps.map pD)),.val (.str (VM ps)),.no,.no]):=by
  rw [Qi]
  show ((ZP [.tup (ps.map pD)]).map _:Option Out)=_
  rw [lw]; rfl
 have tok:=Zew ps
 generalize D.tup (ps.map pD)=T at *
 generalize VM ps=t at *
 have it:∃ ks:List Int,ZbC (Ze YM (Ze Yu (Zd 1) (Zg (.int 3))) (Ze ZE (Zg (.int 1)) (Ze Yu (Ze Qu (Zd 1) (Zg (.int 450))) (Zg (.int 2))))) [.val S,.val (.int m1),.val T,.val (.str t),.no,.no]=some (ks.map .int)/\ks.length<=4:=by
  have hm:YM (.int (m1 % 3)) (.int (1+m1 / 450 % 2))=some (.int (m1 % 3*(1+m1 / 450 % 2))):=ZlV (by omega) (by omega)
  have hr:0<=m1 % 3*(1+m1 / 450 % 2)/\m1 % 3*(1+m1 / 450 % 2)<=4:=by
   have a:m1 % 3=0\/m1 % 3=1\/m1 % 3=2:=by omega
   have b:m1 / 450 % 2=0\/m1 / 450 % 2=1:=by omega
   rcases a with a | a | a <;> rcases b with b | b <;> rw [a,b] <;> decide
  generalize m1 % 3*(1+m1 / 450 % 2)=c at hm hr
  refine ⟨(List.range c.toNat).map fun (k:Nat)=>0+(k:Int),?_,by simp; omega⟩
  have e:(Ze YM (Ze Yu (Zd 1) (Zg (.int 3))) (Ze ZE (Zg (.int 1)) (Ze Yu (Ze Qu (Zd 1) (Zg (.int 450))) (Zg (.int 2))))) [.val S,.val (.int m1),.val T,.val (.str t),.no,.no]=some (.int c):=by
   show ((Yu (.int m1) (.int 3)).bind fun x=>(((Qu (.int m1) (.int 450)).bind fun y=>Yu y (.int 2)).bind fun z=>ZE (.int 1) z).bind fun y=>YM x y)=_
   rw [e3,Option.bind_some,v450,Option.bind_some,e4502,Option.bind_some,Zou,Option.bind_some,hm]
  rw [Zn8,e,Option.bind_some]
  show (if Wn c then some (QC 0 c.toNat) else none)=_
  rw [YO (by omega) (by omega)]
  show some (QC 0 c.toNat)=_
  unfold QC
  rw [List.map_map]; rfl
 obtain ⟨ks,it,hks⟩:=it
 obtain ⟨y,a',lp,oy,ly⟩:=ZkJ (S:=S) (T:=T) (m:=m1) (b:=.no) 4 ks t .no hks (Nat.le_refl _) tok (by simp; omega)
 have h38:150*4 ^ 4=38400:=by decide
 have hy:Zbh y:=⟨oy,by omega⟩
 have fd:=Zmd hy
 have du:=Zj6 hy
 have ap:=Zkk (x:=y)
 unfold Zgy Zq Zoa
 show (Zp _ (Zp _ _) [.val S,.no,.no,.no,.no,.no]).bind _=_
 rw [Zs,s1]
 show (Zp _ (Zp _ _) [.val S,.val (.int m1),.no,.no,.no,.no]).bind _=_
 rw [Zs,s2]
 show (Zp _ (Zp _ _) [.val S,.val (.int m1),.val _,.no,.no,.no]).bind _=_
 rw [Zs,s3]
 show (Zp _ (Zp _ _) [.val S,.val (.int m1),.val T,.no,.no,.no]).bind _=_
 rw [Zs,s4]
 show (Zp (V6 _ (Zz 4) lwL) (Zp _ _) [.val S,.val (.int m1),.val T,.val (.str t),.no,.no]).bind _=_
 rw [Zs,UP,it,Option.bind_some,lp]
 show (Zp (ZM 5 _) _ [.val S,.val (.int m1),.val T,.val (.str y),a',.no]).bind _=_
 have s5:ZM 5 (dFn 1 YV (Zb (Zd 3) Zk)) [.val S,.val (.int m1),.val T,.val (.str y),a',.no]=some (.nx [.val S,.val (.int m1),.val T,.val (.str y),a',.val (Zcj y)]):=by
  rw [Qi]
  show ((YV [.str y]).map _:Option Out)=_
  rw [fd]; rfl
 rw [Zs,s5]
 show (((Za9 (Ze U4 (Zd 5) (dFn 1 Qh (Zb (Zd 3) Zk))) (dOr (Jc ZmG (Zd 5)) (dFn 1 Zy (Zb (Zd 5) Zk)))) [.val S,.val (.int m1),.val T,.val (.str y),a',.val (Zcj y)]).map Out.rt:Option Out).bind _=_
 have b1:(Ze U4 (Zd 5) (dFn 1 Qh (Zb (Zd 3) Zk))) [.val S,.val (.int m1),.val T,.val (.str y),a',.val (Zcj y)]=some (.bl true):=by
  show ((Qh [.str y]).bind fun z=>U4 (Zcj y) z)=_
  rw [du,Option.bind_some]
  rcases ap with e | ⟨qs,e,_⟩
  ·rw [e]; rfl
  ·rw [e]; exact Zmi qs
 have b2:(dOr (Jc ZmG (Zd 5)) (dFn 1 Zy (Zb (Zd 5) Zk))) [.val S,.val (.int m1),.val T,.val (.str y),a',.val (Zcj y)]=some (.bl true):=by
  rcases ap with e | ⟨qs,e,pl⟩
  ·rw [e]; rfl
  ·rw [e]
   show Zy [.tup (qs.map pD)]=_
   rw [Zb0 ((ZhZ qs).up (by decide)),pl]
 rw [ZkT,b1]
 show (((dOr (Jc ZmG (Zd 5)) (dFn 1 Zy (Zb (Zd 5) Zk))) [.val S,.val (.int m1),.val T,.val (.str y),a',.val (Zcj y)]).map Out.rt:Option Out).bind _=_
 rw [b2]; rfl
section
variable {P:Program} {w:World} {K:Frag} {mg:Str->Option Value} {base:Heap}
theorem ZaG {f C:Addr} {fd:FuncData} (B:Blt mg) (d_are_figures:Ug P w K mg base) (c_FARTHEST:∃ t,mg "FARTHEST"=some (.int 100 t)) (hq:Zk3 K C) (hm:mg "NoText"=some (.ref C)) (F:Fun K "read_number" "read_number" QT f fd) :
  Zfd P w K mg base (CX1 P w C) 2 f fd ["text"] (spX K 1 ZG C):=by
 refine Zpw (g:=Jy) F sc_read_number fun cdv A outer s H E hr=>?_
 exact PSs.imp (ZeD (ZF (i:=1) sc_read_number.nd rfl (Or.inl rfl) (ZfN (Yq (Wv PySem.F.slot_str_startswith PySem.F.type_str_startswith ZaQ UA (Za (pv 0)) YL)) (WN (Za (pv 0)) (Z6 Zf) Yv) (Za (pv 0)))) Zai
   (Zfp (Zfg (QZ (QP (Yq (Zo d_are_figures hr (by decide) rfl (Zc (Za (pv 1)) Zh)))) (Qv (Z8 ZoH (ZB Jd rfl B.len PySem.boot_len (Zc (Za (pv 1)) Zh)) (ZB Jd rfl B.len PySem.boot_len (Zc (Yf Zkg rfl B.str PyProof.Rows.boot_str (Zc (Ww rfl c_FARTHEST.choose_spec) Zh)) Zh)) (ZV _))))) (PSs.imp (Vw (Zaf (E:=E) hq rfl hm hr.hd (YQ Zdt Va) Zab)) fun _ _ H h=>⟨by decide,h⟩)
   Zfo)) fun _ _ _ h=>h
theorem ZcH {f C:Addr} {fd:FuncData} (B:Blt mg) (d_read_number:Uf P w K mg base) (x_read_number:Zk5 P w K mg base "read_number" 2 ["text"] ZG C) (hq:Zk3 K C) (hm:mg "NoText"=some (.ref C)) (F:Fun K "read_spot" "read_spot" J1 f fd) :
  Zfd P w K mg base (CX1 P w C) 3 f fd ["text"] (spX K 1 ZW C):=by
 refine Zpw (g:=UH) F sc_read_spot fun cdv A outer s H E hr=>?_
 exact PSs.imp (ZeD (ZF (i:=1) sc_read_spot.nd rfl (Or.inl rfl) (Wv PySem.F.slot_str_split PySem.F.type_str_split QU J6 (Za (pv 0)) YL)) Zai
   (Zfp (Z8 (Zeq hr.units) (ZB Jd rfl B.len PySem.boot_len (Zc (Za (pv 1)) Zh)) Zf (ZV _)) (PSs.imp (Vw (Zaf (E:=E) hq rfl hm hr.hd (YQ Zdt Va) Zab)) fun _ _ H h=>⟨by decide,h⟩)
   (Zlp (Zmg (Zit x_read_number hr (by decide) rfl (Zc (ZC Yp (Za (pv 1)) Zf (fun _ _=>rfl)) Zh) Zdv) (Zo d_read_number hr (by decide) rfl (Zc (ZC Yp (Za (pv 1)) Zf (fun _ _=>rfl)) Zh)) (Zit x_read_number hr (by decide) rfl (Zc (ZC Yp (Za (pv 1)) Zf (fun _ _=>rfl)) Zh) Zdv))))) fun _ _ _ h=>h
theorem ZjF {f C:Addr} {fd:FuncData} (B:Blt mg) (d_is_plot:Wd P w K mg base) (d_written:Zbm P w K mg base) (d_read_spot:VH P w K mg base) (x_read_spot:Zk5 P w K mg base "read_spot" 3 ["text"] ZW C) (hq:Zk3 K C) (hm:mg "NoText"=some (.ref C)) (F:Fun K "read" "read" U9 f fd) :
  Zfd P w K mg base (CX1 P w C) 8 f fd ["text"] (spX K 1 UK C):=by
 refine Zpw (g:=ZeU) F sc_read fun cdv A outer s H E hr=>?_
 exact PSs.imp (Zqs (i:=1) sc_read.nd rfl (Or.inl rfl) (Ziu (Zmh (C:=C) (E1:=E) (N:=["part"]) (caps:=[none]) (Qb (sc:=Zi U9) rfl (by decide +kernel)) (Qc (sc:=Zi U9) (XN:=ZfZ) rfl rfl (by decide +kernel)) rfl (UF (Wv PySem.F.slot_str_split PySem.F.type_str_split QU J6 (Za (pv 0)) YL)) (Yc 0) (fun _ _ _ _=>Yx (i:=0) (show (["part"]:List Str).Nodup by decide +kernel) rfl (Or.inl rfl)) (fun _ _ _ _ _ _ hp=>(Zo d_read_spot hr (by decide) rfl (Zc (Za (pv 0)) Zh))) (fun _ _ _ _ _ _ hp=>(Zit x_read_spot hr (by decide) rfl (Zc (Za (pv 0)) Zh) hp)) rfl rfl Zhy) rfl B.tuple PyProof.Rows.boot_tuple) (Yf Zbe rfl B.tuple PyProof.Rows.boot_tuple (Zc (QN (N:=["part"]) (caps:=[none]) (Qb (sc:=Zi U9) rfl (by decide +kernel)) (Qc (sc:=Zi U9) (XN:=ZfZ) rfl rfl (by decide +kernel)) rfl (UF (Wv PySem.F.slot_str_split PySem.F.type_str_split QU J6 (Za (pv 0)) YL)) (Yc 0) (fun _ _ _ _=>Yx (i:=0) (show (["part"]:List Str).Nodup by decide +kernel) rfl (Or.inl rfl)) (fun _ _ _ _=>QJ) (fun _ _ _ _=>(Zo d_read_spot hr (by decide) rfl (Zc (Za (pv 0)) Zh)))) Zh))
   (Zfp (QP (Yq (Zo d_is_plot hr (by decide) rfl (Zc (Za (pv 1)) Zh)))) (PSs.imp (Vw (Zaf (E:=E) hq rfl hm hr.hd (YQ Zdt Va) Zab)) fun _ _ H h=>⟨by decide,h⟩)
   (Zfp (Z8 (Zeq hr.units) (Zo d_written hr (by decide) rfl (Zc (Za (pv 1)) Zh)) (Za (pv 0)) (ZV _)) (PSs.imp (Vw (Zaf (E:=E) hq rfl hm hr.hd (YQ Zdt Va) Zab)) fun _ _ H h=>⟨by decide,h⟩)
   Zfo))) fun _ _ _ h=>h
noncomputable def Zij:DS:=(Zp (ZM 1 (dFn 1 UL (Zb (Zd 0) Zk)))
 (ZT (Ze dIx (Wz (Zb (Zd 1) (Zb (Qr Zk) Zk))) (Zv Za7 (Zb (Jc ZmG (Zd 1)) Zk)))))
theorem ZhE (B:Blt mg) (d_read:Zi9 P w K mg base):OkD P w K mg base "_law_found" Qd 9 ["_law_text"] (Zq 4 Zij):=fun F=>Q6 F sc__law_found rfl rfl fun cdv A outer s H E hr=>by
 refine ⟨_,?_,(Zj (Zhd (Zm (ZF (i:=1) sc__law_found.nd rfl (Or.inl rfl) (Zo d_read hr (by decide) rfl (Zc (Za (pv 0)) Zh)))))
   (Zm (Zr (ZC Yp (WO (Zc (Za (pv 1)) (Zc (JP Zh) Zh Jg))) (Yf Zmp rfl B.int PyProof.Rows.boot_int (Zc (ZkS (Za (pv 1))) Zh)) (fun _ _=>rfl)))))⟩
 rfl
noncomputable def spR (K:Frag) (fx:List D->Option D):Sp:=fun vs H Q _=>∃ xs F,xs.length=1/\RepL K F H xs vs/\(∀ a,F a->H a≠none\/∃ o,K.lookup a=some o)/\fx xs=some (.bl true)/\∀ F' H',Grow F H F' H'->Q .non H'
theorem ZhF {f C C1 C2:Addr} {fd:FuncData} (B:Blt mg) (x_read:Zk5 P w K mg base "read" 8 ["text"] UK C) (hq:Zk3 K C) (hm:mg "NoText"=some (.ref C)) (Z:ZoP K C) (m1:mg "PlotError"=some (.ref C1)) (m2:mg "NoPlot"=some (.ref C2)) (m3:mg "ValueError"=none)
  (k1:kitOne K (.ref C) (.ref C1)=some true) (k2:kitOne K (.ref C) (.type "ValueError")=some true) (k3:kitOne K (.ref C) (.ref C2)=some false) (F:Fun K "_law_found" "_law_found" Qd f fd) :
  Zfd P w K mg base CX0 9 f fd ["_law_text"] (spR K UK):=by
 refine F.ok sc__law_found (fun vs H Q E h=>?_) (fun cdv A outer s H vs Q E hr h=>?_)
 ·obtain ⟨xs,F,hl,hr,_⟩:=h
  rw [<-hr.length,hl]; rfl
 ·obtain ⟨xs,Fz,hl,hr',hfz,e,q⟩:=h
  obtain ⟨fA,fdA,fnA,mA,kA,bA⟩:=x_read
  have h0:∀ rest,PSs (ZfR CX0 P w K mg base WW "_law_found" (Zi Qd) f cdv A outer s H E).nox rest (fun _ _ _=>False):=fun _ _ _ _ _ _ _ h=>h.elim
  refine ⟨_,J7 (Zno (i:=2) (C:=C) (ts:=fun ea D σ H=>σ[2]?=some (some (.ref ea))/\σ.length=4/\∀ H',Same H H'->D.rt .non H') rfl rfl hq rfl hm sc__law_found.nd rfl rfl
   (fun pn W E hp=>Vw (Zds (i:=1) sc__law_found.nd rfl (Or.inl rfl) (ZeI (x:="read") fnA (hr.mono (by decide)) rfl mA kA bA .nil hp (YQ (pv 0) Va))))
   (fun ea oe pn c1 c2 c3=>PSs.imp (J7 (Zds (i:=3) sc__law_found.nd rfl (Or.inl rfl)
     (Zhx (Zag (Zbd (vc:=.ref C1) c1 c2 c3 Z (fun _ r=>r) k1) rfl B.isinstance PyProof.Rows.boot_isinstance (YQ (pv 2) (YQ (ZcF (v:=.ref C1) rfl m1 rfl) Va)))
     (Zhx (Zag (Zbd (vc:=.ty "ValueError") c1 c2 c3 Z (fun _ r=>r) k2) rfl B.isinstance PyProof.Rows.boot_isinstance (YQ (pv 2) (YQ (ZlL (v:=.ty "ValueError") (u:=.type "ValueError") rfl m3 rfl rfl) Va)))
     (ZkC (ZkD (Zag (Zbd (vc:=.ref C2) c1 c2 c3 Z (fun _ r=>r) k3) rfl B.isinstance PyProof.Rows.boot_isinstance (YQ (pv 2) (YQ (ZcF (v:=.ref C2) rfl m2 rfl) Va))))))))
    (Zm (Zr (ZC Yp (WO (Zc (JP Zh) (Zc ZdT Zh) Jg)) (Yf Zmp rfl B.int PyProof.Rows.boot_int (Zc (Za (pv 3)) Zh)) (fun _ _=>rfl))))) fun D σ H1 hh=>?_)) (h0 _),?_⟩
  ·obtain ⟨h1,h2,h3⟩:=hh
   refine ⟨.ref ea,h1,rfl,true,rfl,?_⟩
   refine ⟨.ref ea,h1,rfl,true,rfl,?_⟩
   refine ⟨.ref ea,h1,rfl,false,rfl,?_⟩
   show rdS K _ _ (σ.set 3 (some (.bl true))) H1
   refine ⟨[.no,.no,.no,.val (.bl true)],fun _=>False,H1,fun _=>False,.rt .non,⟨.refl,fun i d e=>?_,fun i ds e=>?_,fun i j ds es a e=>?_,by simp [h2],fun a z=>z.elim⟩,rfl,fun v F' H' g r=>?_⟩
   ·match i,e with
    | 0,e=>cases e
    | 1,e=>cases e
    | 2,e=>cases e
    | 3,e=>cases e; exact ⟨.bl true,by simp [h2],by unfold Rep; rfl⟩
   ·match i,e with
    | 0,e=>cases e
    | 1,e=>cases e
    | 2,e=>cases e
    | 3,e=>cases e
   ·match i,e with
    | 0,e=>cases e
    | 1,e=>cases e
    | 2,e=>cases e
    | 3,e=>cases e
   ·unfold Rep at r
    subst r
    exact h3 H' g.same
  ·match xs,hl with
   | [x],_=>
    obtain ⟨v,vs',rfl,r1,r2⟩:=hr'.uncons
    cases r2.unnil
    refine ⟨fun _ _ H1=>∀ H2,Same H1 H2->Q .non H2,⟨v,rfl,[x],Fz,rfl,hr',hfz,e,fun F' H' g H2 sm=>?_⟩,fun σ' H' ea hE hlen=>⟨?_,?_,hE⟩⟩
    ·exact q F' H2 ⟨g.same.trans sm,g.sub,fun a z=>(g.new a z).elim .inl fun ⟨z1,z2⟩=>.inr ⟨z1,fun z3=>z2 (sm.free z3)⟩⟩
    ·rw [List.getElem?_set_self (by rw [hlen]; show 2 < 4; decide)]
    ·rw [List.length_set]; exact hlen
theorem ZeZ {g g':DS} {ρ:Rho} {o:Out} (n:ZoN g) (e:Zp g g' ρ=some o):∃ ρ',g ρ=some (.nx ρ')/\g' ρ'=some o:=by
 unfold Zp at e
 cases e1:g ρ with
 | none=>rw [e1] at e; cases e
 | some o1=>
  obtain ⟨ρ1,rfl⟩:=n ρ o1 e1
  rw [e1] at e
  exact ⟨ρ1,rfl,e⟩
theorem ZkM {t:DT} {ρ ρ':Rho} (e:ZY t Zc4 ZA ρ=some (.nx ρ')):ρ'=ρ:=by
 obtain ⟨b,_,e⟩:=bind_some e
 cases b with
 | true=>cases e
 | false=>cases e; rfl
theorem ZfB {t:DT}:ZoN (ZY t Zc4 ZA):=fun ρ o e=>by
 obtain ⟨b,_,e⟩:=bind_some e
 cases b with
 | true=>cases e
 | false=>cases e; exact ⟨_,rfl⟩
theorem Zjr {x d:D} (e:UL [x]=some d):∃ ds,d=.tup ds:=by
 obtain ⟨o,eo,e⟩:=bind_some e
 unfold Zii at eo
 obtain ⟨ρ1,e1,eo⟩:=ZeZ Zai eo
 obtain ⟨ρ2,e2,eo⟩:=ZeZ ZfB eo
 obtain ⟨ρ3,e3,eo⟩:=ZeZ ZfB eo
 cases ZkM e2
 cases ZkM e3
 obtain ⟨t,et,q⟩:=map_some e1
 cases q
 cases eo
 cases e
 obtain ⟨ys,_,et⟩:=bind_some et
 unfold Yo at et
 split at et
 ·cases et; exact ⟨_,rfl⟩
 ·cases et; exact ⟨_,rfl⟩
 ·cases et
theorem ZjZ {x d:D} (e:UL [x]=some d):Zq 4 Zij [x]=some d:=by
 obtain ⟨ds,rfl⟩:=Zjr e
 have e1:ZM 1 (dFn 1 UL (Zb (Zd 0) Zk)) [.val x,.no,.no,.no]=some (.nx [.val x,.val (.tup ds),.no,.no]):=by
  show ((UL [x]).map _:Option Out)=_
  rw [e]; rfl
 show (Zp _ _ [.val x,.no,.no,.no]).bind _=_
 unfold Zp
 rw [e1]
 rfl
theorem ZcO {C C1 C2:Addr} (B:Blt mg) (d_read:Zi9 P w K mg base) (x_read:Zk5 P w K mg base "read" 8 ["text"] UK C) (hq:Zk3 K C) (hm:mg "NoText"=some (.ref C)) (Z:ZoP K C) (m1:mg "PlotError"=some (.ref C1)) (m2:mg "NoPlot"=some (.ref C2)) (m3:mg "ValueError"=none)
  (k1:kitOne K (.ref C) (.ref C1)=some true) (k2:kitOne K (.ref C) (.type "ValueError")=some true) (k3:kitOne K (.ref C) (.ref C2)=some false):OkD P w K mg base "_law_found" Qd 9 ["_law_text"] YV:=by
 intro f fd F
 have V:=ZhE B d_read F
 have R:=ZhF B x_read hq hm Z m1 m2 m3 k1 k2 k3 F
 refine ⟨fun vs H Q E h=>?_,fun A outer s H args us vs Q E hr e0 hb hv h=>?_⟩
 ·obtain ⟨xs,F,d,hl,hr,_⟩:=h
  rw [<-hr.length,hl]
 ·obtain ⟨xs,Fz,d,hl,hr',hfz,e,q⟩:=h
  match xs,hl with
  | [x],_=>
   obtain ⟨b,eb,e⟩:=bind_some e
   by_cases hb':b=.bl true
   ·subst hb'
    cases e
    exact R.run A outer s H args us vs Q E hr e0 hb hv ⟨[x],Fz,rfl,hr',hfz,eb,fun F' H' g=>q _ F' H' g (by unfold Rep; rfl)⟩
   ·have e':UL [x]=some d:=by
     cases b with
     | bl b=>
      cases b with
      | true=>exact absurd rfl hb'
      | false=>exact e
     | _=>exact e
    exact V.run A outer s H args us vs Q E hr e0 hb hv ⟨[x],Fz,d,rfl,hr',hfz,ZjZ e',q⟩
end
noncomputable def ExcK (K:Frag):Prop:=∃ C C1 C2:Addr,nsIn K mainGlobals "NoText"=some (some (.ref C))/\nsIn K mainGlobals "PlotError"=some (some (.ref C1))/\nsIn K mainGlobals "NoPlot"=some (some (.ref C2))/\nsIn K mainGlobals "ValueError"=some none/\Zk3 K C/\ZoP K C /\
 kitOne K (.ref C) (.ref C1)=some true/\kitOne K (.ref C) (.type "ValueError")=some true/\kitOne K (.ref C) (.ref C2)=some false
theorem ExcK.mk {K:Frag} {C C1 C2:Addr} (a:nsIn K mainGlobals "NoText"=some (some (.ref C))) (b:nsIn K mainGlobals "PlotError"=some (some (.ref C1))) (c:nsIn K mainGlobals "NoPlot"=some (some (.ref C2))) (d:nsIn K mainGlobals "ValueError"=some none) (e:PySem.W.excIn K C [.type "ValueError",.type "Exception",.type "BaseException",.type "object"] "ValueError.__new__"=true)
  (f1:PySem.W.findIn K (.ref C) "__getattribute__"=some (some (.builtin "BaseException.__getattribute__"))) (f2:PySem.W.findIn K (.ref C) "__getattr__"=some none) (f3:PySem.W.mroIn K C (.type "BaseException")=some true)
  (f4:PySem.W.findIn K (.ref C) "__class__"=some (some (.builtin "object.__class__"))) (f5:PySem.W.specialIn K (.builtin "object.__class__") "__get__"=some (some (.builtin "getset_descriptor.__get__"))) (f6:PySem.W.takesIn K (.builtin "object.__class__")=some true) (f7:PySem.W.mroIn K C (.type "object")=some true)
  (k1:kitOne K (.ref C) (.ref C1)=some true) (k2:kitOne K (.ref C) (.type "ValueError")=some true) (k3:kitOne K (.ref C) (.ref C2)=some false):ExcK K:=⟨C,C1,C2,a,b,c,d,e,⟨f1,f2,f3,f4,f5,f6,f7⟩,k1,k2,k3⟩
theorem all_mk {l:PySem.W.OpenLaw} {w:World} {K:Frag} {h:Heap} {mg:Str->Option Value} {fa:Addr} (X:K.In h) (G:h.Ns mainGlobals mg) (hfa:mg "law"=some (.ref fa))
  (a0:Df K "turn" Zhk)
  (a1:Df K "turns_left" Ut)
  (a2:Df K "turns_right" JZ)
  (a3:Df K "lies_between" Jr)
  (a4:Df K "lies_on" ZaC)
  (a5:Df K "line_parts" Uv)
  (a6:Df K "sides_meet" Uu)
  (a7:Df K "is_whole" Wl)
  (a8:Df K "is_place" Wm)
  (a9:Df K "is_spot" ZaD)
  (a10:Df K "are_unlike_spots" Qn)
  (a11:Df K "could_be_corners" Qm)
  (a12:Df K "turns_all_round" Yr)
  (a13:Df K "sides_of" JK)
  (a14:Df K "have_common_corner" Y2)
  (a15:Df K "sides_keep_apart" Ql)
  (a16:Df K "inside_is_left" QK)
  (a17:Df K "is_plot" ZaE)
  (a18:Df K "written_spot" Jq)
  (a19:Df K "written" Us)
  (a20:Df K "are_figures" Qo)
  (a21:Df K "read_number" QT)
  (a22:Df K "read_spot" J1)
  (a23:Df K "read" U9)
  (a24:Df K "_law_cell_at" Jw)
  (a25:Df K "_law_mixed" Ux)
  (a26:Df K "_law_drawn" Uy)
  (a27:Df K "_law_number" J4)
  (a28:Df K "_law_turn" Vs)
  (a29:Df K "_law_on" ZaF)
  (a30:Df K "_law_next" Vt)
  (a31:Df K "_law_area" Vv)
  (a32:Df K "_law_in_order" Q3)
  (a33:Df K "_law_meet" Vu)
  (a34:Df K "_law_turns" Uw)
  (a35:Df K "_law_is_good" Ju)
  (a36:Df K "_law_spots" Qz)
  (a37:Df K "_law_saw" YY)
  (a38:Df K "_law_plot" Q2)
  (a39:Df K "_law_is_spot" Jt)
  (a40:Df K "_law_is_plot" Y5)
  (a41:Df K "_law_written" Js)
  (a42:Df K "_law_changed" Jv)
  (a43:Df K "_law_number_of" YC)
  (a44:Df K "_law_due" JL)
  (a45:Df K "_law_found" Qd)
  (a46:Df K "law" Zga)
  {t_FARTHEST:Tok} (g_FARTHEST:nsIn K mainGlobals "FARTHEST"=some (some (.int 100 t_FARTHEST)))
  {t_FEWEST_CORNERS:Tok} (g_FEWEST_CORNERS:nsIn K mainGlobals "FEWEST_CORNERS"=some (some (.int 3 t_FEWEST_CORNERS)))
  {t_MOST_CORNERS:Tok} (g_MOST_CORNERS:nsIn K mainGlobals "MOST_CORNERS"=some (some (.int 12 t_MOST_CORNERS)))
  {t_FIGURES:Tok} (g_FIGURES:nsIn K mainGlobals "FIGURES"=some (some (.str (Str.ofString "0123456789") t_FIGURES)))
  (z_len:nsIn K mainGlobals "len"=some none)
  (z_range:nsIn K mainGlobals "range"=some none)
  (z_enumerate:nsIn K mainGlobals "enumerate"=some none)
  (z_min:nsIn K mainGlobals "min"=some none)
  (z_max:nsIn K mainGlobals "max"=some none)
  (z_abs:nsIn K mainGlobals "abs"=some none)
  (z_sum:nsIn K mainGlobals "sum"=some none)
  (z_any:nsIn K mainGlobals "any"=some none)
  (z_all:nsIn K mainGlobals "all"=some none)
  (z_set:nsIn K mainGlobals "set"=some none)
  (z_sorted:nsIn K mainGlobals "sorted"=some none)
  (z_tuple:nsIn K mainGlobals "tuple"=some none)
  (z_list:nsIn K mainGlobals "list"=some none)
  (z_int:nsIn K mainGlobals "int"=some none)
  (z_str:nsIn K mainGlobals "str"=some none)
  (z_bool:nsIn K mainGlobals "bool"=some none)
  (z_isinstance:nsIn K mainGlobals "isinstance"=some none)
  (z_reversed:nsIn K mainGlobals "reversed"=some none)
  (z_exc:ExcK K)
  : ∃ fd:FuncData,(∀ (s:Shared) (v:Value),BindsTo s fd ⟨[v],[]⟩ [("_law_script",v)])/\∀ base:Heap,K.In base->base.Ns mainGlobals mg->Zfd l.prog w K mg base CX0 10 fa fd ["_law_script"] (spD K 1 Zgy):=by
 obtain ⟨f,fd,b1,F,b2⟩:=a46
 have e:=hfa.symm.trans (mg_of X G b1)
 cases e
 have B:Blt mg:=⟨mg_none_of X G z_len,mg_none_of X G z_range,mg_none_of X G z_enumerate,mg_none_of X G z_min,mg_none_of X G z_max,mg_none_of X G z_abs,mg_none_of X G z_sum,mg_none_of X G z_any,mg_none_of X G z_all,mg_none_of X G z_set,mg_none_of X G z_sorted,mg_none_of X G z_tuple,mg_none_of X G z_list,mg_none_of X G z_int,mg_none_of X G z_str,mg_none_of X G z_bool,mg_none_of X G z_isinstance,mg_none_of X G z_reversed⟩
 have c_FARTHEST:∃ t,mg "FARTHEST"=some (.int 100 t):=⟨_,mg_of X G g_FARTHEST⟩
 have c_FEWEST_CORNERS:∃ t,mg "FEWEST_CORNERS"=some (.int 3 t):=⟨_,mg_of X G g_FEWEST_CORNERS⟩
 have c_MOST_CORNERS:∃ t,mg "MOST_CORNERS"=some (.int 12 t):=⟨_,mg_of X G g_MOST_CORNERS⟩
 have c_FIGURES:∃ t,mg "FIGURES"=some (.str (Str.ofString "0123456789") t):=⟨_,mg_of X G g_FIGURES⟩
 obtain ⟨oc,od,kV,doc,pm,an,cdv,ct,osl,rfl,lk,hcd⟩:=id F.ex
 refine ⟨fnOf "law" "law" (VD Zga) (Q7 Zga) (Zi Zga) .none kV doc pm an cdv ct,fun s v=>.of_eq rfl,fun base _ _=>?_⟩
 have d_turn:Zem l.prog w K mg base:=dk X G a0 (ZlN B) fun _ _ _ _ _ _ us hl=>match us,hl with | [_,_,_],_=>rfl
 have d_turns_left:UT l.prog w K mg base:=dk X G a1 (ZcI B d_turn) fun _ _ _ _ _ _ us hl=>match us,hl with | [_,_,_],_=>rfl
 have d_turns_right:Wc l.prog w K mg base:=dk X G a2 (Zbv B d_turn) fun _ _ _ _ _ _ us hl=>match us,hl with | [_,_,_],_=>rfl
 have d_lies_between:Vm l.prog w K mg base:=dk X G a3 (ZaI B) fun _ _ _ _ _ _ us hl=>match us,hl with | [_,_,_],_=>rfl
 have d_lies_on:Zen l.prog w K mg base:=dk X G a4 (Zgf B d_turn d_lies_between) fun _ _ _ _ _ _ us hl=>match us,hl with | [_,_],_=>rfl
 have d_line_parts:WY l.prog w K mg base:=dk X G a5 (ZcK B d_turns_left d_turns_right) fun _ _ _ _ _ _ us hl=>match us,hl with | [_,_,_,_],_=>rfl
 have d_sides_meet:WX l.prog w K mg base:=dk X G a6 (ZcJ B d_lies_on d_line_parts) fun _ _ _ _ _ _ us hl=>match us,hl with | [_,_],_=>rfl
 have d_is_whole:Zcn l.prog w K mg base:=dk X G a7 (ZeK B) fun _ _ _ _ _ _ us hl=>match us,hl with | [_],_=>rfl
 have d_is_place:Zco l.prog w K mg base:=dk X G a8 (ZeL B d_is_whole c_FARTHEST) fun _ _ _ _ _ _ us hl=>match us,hl with | [_],_=>rfl
 have d_is_spot:Zeo l.prog w K mg base:=dk X G a9 (Zgg B d_is_place) fun _ _ _ _ _ _ us hl=>match us,hl with | [_],_=>rfl
 have d_are_unlike_spots:Jl l.prog w K mg base:=dk X G a10 (Vz B d_is_spot) fun _ _ _ _ _ _ us hl=>match us,hl with | [_],_=>rfl
 have d_could_be_corners:Jk l.prog w K mg base:=dk X G a11 (Vy B c_FEWEST_CORNERS c_MOST_CORNERS d_are_unlike_spots) fun _ _ _ _ _ _ us hl=>match us,hl with | [_],_=>rfl
 have d_turns_all_round:JU l.prog w K mg base:=dk X G a12 (VQ B d_turn) fun _ _ _ _ _ _ us hl=>match us,hl with | [_],_=>rfl
 have d_sides_of:Zcm l.prog w K mg base:=dk X G a13 (ZeJ B) fun _ _ _ _ _ _ us hl=>match us,hl with | [_],_=>rfl
 have d_have_common_corner:QS l.prog w K mg base:=dk X G a14 (UC B) fun _ _ _ _ _ _ us hl=>match us,hl with | [_,_],_=>rfl
 have d_sides_keep_apart:Jj l.prog w K mg base:=dk X G a15 (Vx B d_sides_of d_have_common_corner d_sides_meet) fun _ _ _ _ _ _ us hl=>match us,hl with | [_],_=>rfl
 have d_inside_is_left:Ul l.prog w K mg base:=dk X G a16 (Wo B d_turns_left) fun _ _ _ _ _ _ us hl=>match us,hl with | [_],_=>rfl
 have d_is_plot:Wd l.prog w K mg base:=dk X G a17 (Zgh B d_could_be_corners d_turns_all_round d_inside_is_left d_sides_keep_apart) fun _ _ _ _ _ _ us hl=>match us,hl with | [_],_=>rfl
 have d_written_spot:Vl l.prog w K mg base:=dk X G a18 (ZaH B) fun _ _ _ _ _ _ us hl=>match us,hl with | [_],_=>rfl
 have d_written:Zbm l.prog w K mg base:=dk X G a19 (Zge B d_is_plot d_written_spot) fun _ _ _ _ _ _ us hl=>match us,hl with | [_],_=>rfl
 have d_are_figures:Ug l.prog w K mg base:=dk X G a20 (Zbx B c_FIGURES) fun _ _ _ _ _ _ us hl=>match us,hl with | [_],_=>rfl
 have d_read_number:Uf l.prog w K mg base:=dk X G a21 (Zbw B d_are_figures c_FARTHEST) fun _ _ _ _ _ _ us hl=>match us,hl with | [_],_=>rfl
 have d_read_spot:VH l.prog w K mg base:=dk X G a22 (Zdw B d_read_number) fun _ _ _ _ _ _ us hl=>match us,hl with | [_],_=>rfl
 have d_read:Zi9 l.prog w K mg base:=dk X G a23 (ZlO B d_read_spot d_is_plot d_written) fun _ _ _ _ _ _ us hl=>match us,hl with | [_],_=>rfl
 have d__law_cell_at:Vp l.prog w K mg base:=dk X G a24 (ZaO B) fun _ _ _ _ _ _ us hl=>match us,hl with | [_,_],_=>rfl
 have d__law_mixed:W1 l.prog w K mg base:=dk X G a25 (ZcN B d__law_cell_at) fun _ _ _ _ _ _ us hl=>match us,hl with | [_,_],_=>rfl
 have d__law_drawn:Jm l.prog w K mg base:=dk X G a26 (ZcP B) fun _ _ _ _ _ _ us hl=>match us,hl with | [_,_],_=>rfl
 have d__law_number:We l.prog w K mg base:=dk X G a27 (Zby B) fun _ _ _ _ _ _ us hl=>match us,hl with | [_,_,_],_=>rfl
 have d__law_turn:Ja l.prog w K mg base:=dk X G a28 (Zdx B) fun _ _ _ _ _ _ us hl=>match us,hl with | [_,_,_],_=>rfl
 have d__law_on:Zep l.prog w K mg base:=dk X G a29 (Zgi B d__law_turn) fun _ _ _ _ _ _ us hl=>match us,hl with | [_,_,_],_=>rfl
 have d__law_next:Jb l.prog w K mg base:=dk X G a30 (Zdz B) fun _ _ _ _ _ _ us hl=>match us,hl with | [_,_,_],_=>rfl
 have d__law_area:VI l.prog w K mg base:=dk X G a31 (ZdB B d__law_next) fun _ _ _ _ _ _ us hl=>match us,hl with | [_],_=>rfl
 have d__law_in_order:UV l.prog w K mg base:=dk X G a32 (W4 B d__law_area) fun _ _ _ _ _ _ us hl=>match us,hl with | [_],_=>rfl
 have d__law_meet:Zbo l.prog w K mg base:=dk X G a33 (ZdA B d__law_on d__law_turn) fun _ _ _ _ _ _ us hl=>match us,hl with | [_,_,_,_],_=>rfl
 have d__law_turns:WZ l.prog w K mg base:=dk X G a34 (ZcL B d__law_turn d__law_next) fun _ _ _ _ _ _ us hl=>match us,hl with | [_],_=>rfl
 have d__law_is_good:JH l.prog w K mg base:=dk X G a35 (ZaM B d__law_turns d__law_next d__law_meet) fun _ _ _ _ _ _ us hl=>match us,hl with | [_],_=>rfl
 have d__law_spots:UU l.prog w K mg base:=dk X G a36 (ZcM B d__law_drawn) fun _ _ _ _ _ _ us hl=>match us,hl with | [_,_,_],_=>rfl
 have d__law_saw:Zcp l.prog w K mg base:=dk X G a37 (ZeM B d__law_drawn d__law_turn d__law_next) fun _ _ _ _ _ _ us hl=>match us,hl with | [_,_],_=>rfl
 have d__law_plot:Zbn l.prog w K mg base:=dk X G a38 (Zdy B d__law_spots d__law_is_good d__law_saw d__law_in_order) fun _ _ _ _ _ _ us hl=>match us,hl with | [_,_],_=>rfl
 have d__law_is_spot:Vn l.prog w K mg base:=dk X G a39 (ZaK B d__law_number) fun _ _ _ _ _ _ us hl=>match us,hl with | [_],_=>rfl
 have d__law_is_plot:JG l.prog w K mg base:=dk X G a40 (ZaL B d__law_is_spot d__law_is_good d__law_area) fun _ _ _ _ _ _ us hl=>match us,hl with | [_],_=>rfl
 have d__law_written:JF l.prog w K mg base:=dk X G a41 (ZaJ B) fun _ _ _ _ _ _ us hl=>match us,hl with | [_],_=>rfl
 have d__law_changed:Vo l.prog w K mg base:=dk X G a42 (ZaN B) fun _ _ _ _ _ _ us hl=>match us,hl with | [_,_],_=>rfl
 have d__law_number_of:Um l.prog w K mg base:=dk X G a43 (Wp B) fun _ _ _ _ _ _ us hl=>match us,hl with | [_],_=>rfl
 have d__law_due:Zcq l.prog w K mg base:=dk X G a44 (ZeN B d__law_number_of d__law_is_plot d__law_written) fun _ _ _ _ _ _ us hl=>match us,hl with | [_],_=>rfl
 obtain ⟨C,C1,C2,n0,n1,n2,n3,q0,Z,k1,k2,k3⟩:=z_exc
 have x_read_number:Zk5 l.prog w K mg base "read_number" 2 ["text"] ZG C:=by
  obtain ⟨fA,fdA,e1,FA,e2⟩:=a21
  exact ⟨fA,fdA,ZaG B d_are_figures c_FARTHEST q0 (mg_of X G n0) FA,mg_of X G e1,e2,FA.binds fun _ _ _ _ _ _ us hl=>match us,hl with | [_],_=>rfl⟩
 have x_read_spot:Zk5 l.prog w K mg base "read_spot" 3 ["text"] ZW C:=by
  obtain ⟨fA,fdA,e1,FA,e2⟩:=a22
  exact ⟨fA,fdA,ZcH B d_read_number x_read_number q0 (mg_of X G n0) FA,mg_of X G e1,e2,FA.binds fun _ _ _ _ _ _ us hl=>match us,hl with | [_],_=>rfl⟩
 have x_read:Zk5 l.prog w K mg base "read" 8 ["text"] UK C:=by
  obtain ⟨fA,fdA,e1,FA,e2⟩:=a23
  exact ⟨fA,fdA,ZjF B d_is_plot d_written d_read_spot x_read_spot q0 (mg_of X G n0) FA,mg_of X G e1,e2,FA.binds fun _ _ _ _ _ _ us hl=>match us,hl with | [_],_=>rfl⟩
 have d__law_found:W2 l.prog w K mg base:=dk X G a45 (ZcO B d_read x_read q0 (mg_of X G n0) Z (mg_of X G n1) (mg_of X G n2) (mg_none_of X G n3) k1 k2 k3) fun _ _ _ _ _ _ us hl=>match us,hl with | [_],_=>rfl
 exact ZnF B d__law_mixed d__law_plot d__law_spots d__law_written d__law_changed d__law_drawn d__law_found d__law_due d__law_is_plot F
theorem walk {l:PySem.W.OpenLaw} {q:Program} {loose:List Str} {XP:(Str->Option Value)->Heap->Prop} {YP:World->Heap->Prop} {d:DefRec} {K:Params->Frag} (hn:l.most=some 63) (hdf:d.params.defaults=[])
  (hY:∀ (w:World) (h:Heap),YP w h->(K w.params).In h)
  (F:∀ (w:World) (mg:Str->Option Value) (fa:Addr) (h:Heap),(K w.params).In h->h.Ns mainGlobals mg->mg d.name=some (.ref fa) ->
   ∃ fd:FuncData,(∀ (s:Shared) (u:Value),BindsTo s fd ⟨[u],[]⟩ [("_law_script",u)])/\∀ base:Heap,(K w.params).In base->base.Ns mainGlobals mg->Zfd l.prog w (K w.params) mg base CX0 10 fa fd ["_law_script"] (spD (K w.params) 1 Zgy)) :
  PySem.W.WalkO q loose XP YP l.row.toRowW d [] (fun f vs=>PySem.call f vs):=
 L2.walk_of (n:=63) (k:=10) (x:="_law_script") (CX:=fun _=>CX0) (sp:=fun w=>spD (K w.params) 1 Zgy) hn (by decide) hdf ⟨rfl,by decide,by decide⟩ hY F (fun w H a ns hl _ hS=>ZnW hl hS ZnX) fun _ _ _ _ _ z=>z
end Pl.k03
namespace PySem.W.Fast
def tw16055769511037892867:=0
def tw18196714735447917012:=0
def tw15325606219007287157:=0
def tw1521649525444738751:=0
def tw14393548165914384473:=0
def tw14360045115441706602:=0
def tw7425782675740069186:=0
def tw4708304918564353040:=0
def tw15898434648573070915:=0
def tw2189543526514278438:=0
def tw9646909061057266321:=0
def tw4351515866095853749:=0
def tw4553669787906277837:=0
def tw13411637416050626650:=0
def tw12775498270866099310:=0
def tw4274357461545726068:=0
def tw16420198241464828495:=0
def tw13209492342217913260:=0
def tw5508627803780421520:=0
def tw3013235685926129527:=0
def tw15175219242081612138:=0
def tw12546706509110716577:=0
def tw2894762700342923175:=0
def tw13233409228902054133:=0
end PySem.W.Fast
open PySem PySem.W PyProof.Rows
set_option maxRecDepth 100000 in
set_option maxHeartbeats 0 in
theorem PySem.Challenge.cw_plotstead_k03_whole_read_holds : PySem.Challenge.rw_plotstead_k03_whole_read.Holds := by
 w_on; o_law; k_head; (case hw=>w_witness2)
 k_fill
 refine Pl.k03.walk (l:=PySem.Challenge.rw_plotstead_k03_whole_read) rfl rfl (fun w h Y=>PySem.W.kIn_of Y) ?F
 case F=>
  intro w mg fa h KX G hmg
  refine' Pl.k03.all_mk KX G hmg ?_ ?_ ?_ ?_ ?_ ?_ ?_ ?_ ?_ ?_ ?_ ?_ ?_ ?_ ?_ ?_ ?_ ?_ ?_ ?_ ?_ ?_ ?_ ?_ ?_ ?_ ?_ ?_ ?_ ?_ ?_ ?_ ?_ ?_ ?_ ?_ ?_ ?_ ?_ ?_ ?_ ?_ ?_ ?_ ?_ ?_ ?_ ?_ ?_ ?_ ?_ ?_ ?_ ?_ ?_ ?_ ?_ ?_ ?_ ?_ ?_ ?_ ?_ ?_ ?_ ?_ ?_ ?_ ?_ ?_
  all_goals first | (apply L3.Df.mk; k_is; k_is; k_is; k_is) | (apply L3.GlobK.mk; k_is; k_is) | k_is | skip
  ·refine' Pl.k03.ExcK.mk ?yy0 ?yy1 ?yy2 ?yy3 ?yy4 ?yy5 ?yy6 ?yy7 ?yy8 ?yy9 ?yy10 ?yy11 ?yy12 ?yy13 ?yy14
   case yy0=>k_is
   case yy1=>k_is
   case yy2=>k_is
   case yy3=>k_is
   case yy4=>k_exc
   case yy5=>k_is
   case yy6=>k_is
   case yy7=>k_is
   case yy8=>k_is
   case yy9=>k_is
   case yy10=>k_is
   case yy11=>k_is
   case yy12=>kit_is
   case yy13=>kit_is
   case yy14=>kit_is
