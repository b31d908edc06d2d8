import PyProof.Rows.All
import Wide.All
import OpenK.AllK
import Wide.FinOn
import Lean
import PyProof.EqAt
import PyProof.EqKinds
import PyProof.TupleCall
import PySem.SetTable
import KE.KRevIter
import PyProof.FactsAll.set_1
import KE.KSortTup
import PyProof.FactsAll.tuple_2
import PyProof.ListMulRoad
import KE.KIntText
import PySem.Challenge.RW_plotstead_k30_whole_cut
open PySem.W (Frag nsIn mg_none_of kitOne mg_of kia_one fnOf findIn keepIn mroIn)
set_option Elab.async false
set_option linter.all false
set_option maxRecDepth 100000
noncomputable section
def A1:=@Classical.byContradiction
def A3:=@List.mem_cons_of_mem
def A4:=@List.mem_cons
def A5:=@Option.bind_some
def A6:=@List.mem_cons_self
def A7:=@Nat.le_refl
def A8:=@List.mem_map
def A9:=@Int.lt_or_le
def A0:=@List.mem_singleton
def A_:=@List.length_map
def Aa:=@Int.mul_nonpos_of_nonneg_of_nonpos
def Ab:=@Int.mul_neg_of_pos_of_neg
def Ac:=@List.size_toArray
def Ad:=@Bool.and_eq_true_iff
def Ae:=@List.mem_range
def Af:=@Bool.false_eq_true
def Ag:=@Int.emod_lt_of_pos
def Ah:=@Int.emod_nonneg
def Ai:=@Int.le_of_lt
def Aj:=@Nat.lt_of_lt_of_le
def Ak:=@List.getElem?_set_self
def Am:=@Nat.ne_of_lt
def An:=@List.getElem?_set_ne
def Ao:=@Ne.symm
def Ap:=@List.getElem?_eq_some_iff
def Aq:=@List.drop_eq_getElem_cons
def Ar:=@Int.mul_nonpos_of_nonpos_of_nonneg
def As:=@Bool.and_eq_true
def At:=@List.pairwise_cons
def Au:=@List.map_cons
def Av:=@Array.getElem?_eq_getElem
def Aw:=@Int.mul_pos
def Ax:=@Nat.le_trans
def Ay:=@PyProof.Rows.slot_tuple_getitem
def Az:=@Array.getElem?_toList
def a_:=@List.getElem?_eq_getElem
def aa:=@List.all_eq_true
def ae:=@List.nodup_cons
def af:=@List.getElem?_append_left
def ag:=@List.length_pos_iff
def ah:=@List.drop_eq_nil_of_le
def am:=@Int.mul_nonneg
def ao:=@List.length_set
def aq:=@Nat.lt_irrefl
def au:=@List.getElem?_map
def av:=@List.mem_of_getElem?
def aw:=@Array.getElem_toList
def az:=@List.mem_append_right
def B1:=@List.take_append_drop
def B2:=@PySem.boot_len
def B3:=@List.cons_append
def B4:=@Int.emod_eq_of_lt
def B5:=@List.getElem_append_right
def B6:=@Int.mul_pos_of_neg_of_neg
def B7:=@Int.mul_neg_of_neg_of_pos
def B8:=@Bool.not_false
def B9:=@Bool.not_true
def B_:=@List.length_cons
def Ba:=@Array.length_toList
def Bb:=@List.map_congr_left
def Bc:=@List.getElem?_eq_none
def Be:=@Nat.zero_le
def Bf:=@List.getElem?_cons_succ
def Bg:=@List.getElem?_append_right
def Bh:=@Int.zero_add
def Bi:=@List.perm_append_comm
def Bj:=@List.map_map
def Bk:=@List.mem_append
def Bl:=@PyProof.Rows.callWith_type1
def Bm:=@Array.forIn_toList
def Bn:=@List.mem_iff_getElem
def Bo:=@Int.mul_comm
def Bp:=@List.pairwise_map
def Bq:=@Int.lt_trichotomy
def Br:=@PyProof.Rows.callWith_builtin1
def Bs:=@Int.mul_eq_zero
def Bt:=@List.eq_nil_of_length_eq_zero
def Bu:=@Int.mul_le_mul_of_nonneg_left
def Bv:=@Bool.false_ne_true
def Bw:=@Prod.ext
def Bx:=@List.getElem_append_left
def By:=@PyProof.Rows.boot_tuple
def Bz:=@List.append_assoc
def b5:=@List.filterMap_cons
def b6:=@Bool.or_eq_true_iff
def b7:=@Array.getElem?_eq_some_iff
def b8:=@Nat.min_le_right
def b9:=@List.length_append
def b_:=@PyProof.Rows.boot_min
def ba:=@List.pairwise_iff_getElem
def bc:=@List.pairwise_append
def be:=@List.getElem?_cons_zero
def bf:=@List.any_eq_true
def bg:=@List.range_succ_eq_map
def bh:=@Int.mul_zero
def bi:=@List.map_append
def bo:=@Int.toNat_natCast
def bp:=@List.reverse_cons
def br:=@List.Sublist.refl
def bu:=@Int.mul_nonneg_of_nonpos_of_nonpos
def bv:=@List.mem_append_left
def C3:=@List.rel_of_pairwise_cons
def C4:=@List.length_take
def C5:=@Nat.lt_succ_self
def C6:=@List.getElem_mem
def C7:=@PySem.mem_of_lookup
def C8:=@List.length_reverse
def C9:=@List.getElem?_replicate
def C0:=@Bool.or_false
def C_:=@List.length_nil
def Ca:=@List.set_cons_zero
def Cb:=@Int.add_emod_right
def Cc:=@Bool.eq_iff_iff
def Cd:=@Array.getElem?_eq_none
def Ce:=@Int.mul_le_mul_of_nonpos_left
def Cf:=@Int.emod_add_emod
def Cg:=@List.flatMap_cons
def Ch:=@List.nodup_nil
def Ci:=@PyProof.Rows.boot_max
def Cj:=@List.lookup_cons
def Ck:=@List.sum_cons
namespace L2
open PySem PySem.Spec PyProof.Rows
abbrev Key:=Sum Int Str
def Zml:Key->Value->Bool
 | .inl k,v=>Value.isInt k v
 | .inr x,v=>Value.isStrOf x v
def ZoQ(w:World):Key->Int
 | .inl k=>hashInt k
 | .inr x=>hashStr w x
theorem Yd:∀{k:Key} {v:Value},Zml k v=true->(∃ i t,k=Sum.inl i/\v=Value.int i t)\/(∃ x t,k=Sum.inr x/\v=Value.str x t)
 | .inl i,v,h=>by
  obtain⟨t,e⟩:=Value.isInt_shape (k:=i) (v:=v) h;exact .inl ⟨i,t,rfl,e⟩
 | .inr x,v,h=>by
  obtain⟨t,e⟩:=Value.isStrOf_shape (x:=x) (v:=v) h;exact .inr ⟨x,t,rfl,e⟩
theorem Zmk(a b:Int):decide ((Sum.inl a:Key)=Sum.inl b)=(a==b):=by
 by_cases e:a=b
 ·subst e;simp
 ·have h:¬ (Sum.inl a:Key)=Sum.inl b:=fun q=>e (Sum.inl.inj q);rw[decide_eq_false h];exact(beq_eq_false_iff_ne.mpr e).symm
theorem Zmh(a b:Str):decide ((Sum.inr a:Key)=Sum.inr b)=decide (a=b):=by
 by_cases e:a=b
 ·subst e;simp
 ·have h:¬ (Sum.inr a:Key)=Sum.inr b:=fun q=>e (Sum.inr.inj q);rw[decide_eq_false h,decide_eq_false e]
theorem Zmj(a:Int)(b:Str):decide ((Sum.inl a:Key)=Sum.inr b)=false:=decide_eq_false (fun q=>nomatch q)
theorem Zmi(a:Str)(b:Int):decide ((Sum.inr a:Key)=Sum.inl b)=false:=decide_eq_false (fun q=>nomatch q)
def Zf7(prog:Program)(w:World):PySem.KeyKind prog w Key where
 is:=Zml
 hash:=ZoQ w
 inj:=fun v a b ha hb=>by
  rcases Yd ha with⟨i,t,rfl,rfl⟩ | ⟨x,t,rfl,rfl⟩
  ·rcases Yd hb with⟨j,u,rfl,e⟩ | ⟨y,u,rfl,e⟩
   ·injection e with e1 _;rw[e1]
   ·exact nomatch e
  ·rcases Yd hb with⟨j,u,rfl,e⟩ | ⟨y,u,rfl,e⟩
   ·exact nomatch e
   ·injection e with e1 _;rw[e1]
 byValue:=fun k v h=>by
  rcases Yd h with⟨i,t,rfl,rfl⟩ | ⟨x,t,rfl,rfl⟩<;>rfl
 pyHash:=fun hv h=>by
  rcases Yd hv with⟨i,t,rfl,rfl⟩ | ⟨x,t,rfl,rfl⟩
  ·exact wpAny_pyHash_int h
  ·exact wpAny_pyHash_str h
 eqBool:=fun hu hv h=>by
  rcases Yd hu with⟨i,t,rfl,rfl⟩ | ⟨x,t,rfl,rfl⟩
  ·rcases Yd hv with⟨j,u,rfl,rfl⟩ | ⟨y,u,rfl,rfl⟩
   ·rw[Zmk]at h;exact wpAny_eqBool_int h
   ·rw[Zmj]at h;exact SeqAt.EqAt.int_str i t y u _ _ _ _ h
  ·rcases Yd hv with⟨j,u,rfl,rfl⟩ | ⟨y,u,rfl,rfl⟩
   ·rw[Zmi]at h;exact SeqAt.EqAt.str_int x t j u _ _ _ _ h
   ·rw[Zmh]at h;exact wpAny_eqBool_str h
 «strs»:=fun k x t v h=>by
  rcases Yd h with⟨i,u,rfl,e⟩ | ⟨y,u,rfl,e⟩
  ·exact nomatch e
  ·injection e with e1 _;subst e1;cases v<;>rfl
inductive V where
 | non | bl (b:Bool) | int (i:Int) | str (x:Str) | byt (b:Array UInt8) | flt (b:UInt64) | ref (a:Addr) | ty (n:String)
 deriving DecidableEq
noncomputable def RelV:V->Value->Prop
 | .non,u=>u=Value.none
 | .bl b,u=>u=Value.bool b
 | .int i,u=>∃ t,u=Value.int i t
 | .str x,u=>∃ t,u=Value.str x t
 | .byt b,u=>∃ t,u=Value.bytes b t
 | .flt b,u=>∃ t,u=Value.float b t
 | .ref a,u=>u=Value.ref a
 | .ty n,u=>u=Value.type n
abbrev Vals:List V->List Value->Prop:=Paired RelV
theorem Vals.length{xs:List V}{us:List Value}(r:Vals xs us):xs.length=us.length:=Paired.length r
theorem Vals.get:∀{xs:List V} {us:List Value} {i:Nat} {x:V},Vals xs us->xs[i]?=some x->∃ u,us[i]?=some u/\RelV x u
 | _,_,_,_,.nil,e=>by simp at e
 | _,_,0,_,.cons r _,e=>by simp at e;subst e;exact⟨_,rfl,r⟩
 | _,_,i+1,x,.cons _ t,e=>by
  obtain⟨u,h1,h2⟩:=Vals.get (i:=i) (x:=x) t (by simpa using e);exact⟨u,by simpa using h1,h2⟩
theorem Vals.append:∀{xs ys:List V} {us ws:List Value},Vals xs us->Vals ys ws->Vals (xs++ys) (us++ws)
 | _,_,_,_,.nil,s=>s
 | _,_,_,_,.cons r t,s=>.cons r (Vals.append t s)
theorem Vals.take:∀{xs:List V} {us:List Value} (n:Nat),Vals xs us->Vals (xs.take n) (us.take n)
 | _,_,0,_=>.nil
 | _,_,_+1,.nil=>.nil
 | _,_,n+1,.cons r t=>.cons r (Vals.take n t)
theorem Vals.drop:∀{xs:List V} {us:List Value} (n:Nat),Vals xs us->Vals (xs.drop n) (us.drop n)
 | _,_,0,r=>r
 | _,_,_+1,.nil=>.nil
 | _,_,n+1,.cons _ t=>Vals.drop n t
def ZnZ:Option V->Option Value->Prop
 | some v,some u=>RelV v u
 | none,none=>True
 | _,_=>False
def KV{κ:Type}:List (κ×V)->List (κ×Value)->Prop:=Paired fun(p:κ×V) (q:κ×Value)=>p.1=q.1/\RelV p.2 q.2
def kV:Key->V
 | .inl i=>.int i
 | .inr x=>.str x
inductive HO where
 | lst (xs:List V)
 | tup (xs:List V)
 | dK (kvs:List (Key×V)) | dT (kvs:List (List Key×V))
 | set (S:Int->Bool) (n:Nat)
 | ins (C dx:Addr) (fs:List (Str×V))
 | own (x:Addr)
 | xd (fs:List (Str×V))
 | met (f x:Addr)
 | rng (lo hi:Int)
 | frz (o:Obj) (u:HO)
 | tbl (ps:Array Value)
 | ext (φ:Heap->Prop)
abbrev Hp:=Addr->Option HO
noncomputable def upd(H:Hp)(a:Addr)(o:HO):Hp:=fun b=>if b=a then some o else H b
theorem ZP{H:Hp}{a:Addr}{o:HO}:upd H a o a=some o:=by unfold upd;rw[if_pos rfl]
theorem ZJ{H:Hp}{a b:Addr}{o:HO}(h:b≠a):upd H a o b=H b:=by unfold upd;rw[if_neg h]
theorem ZG{H:Hp}{a b:Addr}{o:HO}(h:H a=some o)(h':H b=none):a≠b:=by
 intro e;subst e;rw[h]at h';cases h'
def TupD(h:Heap)(a:Addr)(items:Array Value):Prop:=∃ o,h.get? a=some o/\o.cls=.type "tuple"/\o.dict=none/\∃ n,o.data=.seq items n
theorem TupD.tup{h:Heap}{a:Addr}{items:Array Value}(x:TupD h a items):IsTup h a items:=let ⟨o,e,c,_,d⟩:=x;⟨o,e,c,d⟩
theorem TupD.lt{h:Heap}{a:Addr}{items:Array Value}(x:TupD h a items):a<h.objs.size:=let ⟨_,e,_⟩:=x;Heap.lt_size e
theorem TupD.new(h:Heap)(items:Array Value):TupD (h.push {cls:=.type "tuple",data:=.seq items}) h.objs.size items:=⟨_,Heap.get?_push_size _ rfl,rfl,rfl,_,rfl⟩
section
variable(P:Program)(w:World)
def ObjOk(H:Hp)(h:Heap)(a:Addr):HO->Prop
 | .lst xs=>xs.length<=sizeLine/\∃(its:List Value) (n:Nat),Vals xs its/\h.get? a=some {cls:=.type "list",data:=.seq its.toArray n}
 | .tup xs=>xs.length<=sizeLine/\∃ its:List Value,Vals xs its/\TupD h a its.toArray
 | .dK kvs=>kvs.length<=sizeLine/\(a==sysModules)=false/\∃ vs,KV kvs vs/\h.DictOf (Zf7 P w) a vs
 | .dT kvs=>kvs.length<=sizeLine/\(a==sysModules)=false/\∃ xs:List (List Key×Addr×Value),
   Paired (fun(p:List Key×V) (q:List Key×Addr×Value)=>p.1=q.1/\H q.2.1=some (.tup (p.1.map kV))/\RelV p.2 q.2.2) kvs xs /\
   ∃ o es ep,h.get? a=some o/\o.ExactDict/\o.data=.dict es ep/\es.toList=xs.map (entryOfKey (tupleKind (Zf7 P w)))/\(xs.map (·.1)).Nodup
 | .set S n=>h.SetOf (intKind P w) a S n
 | .ins C dx fs=>H dx=some (.own a)/\fs.length<=1000/\dx≠a/\h.get? a=some (PySem.W.instObj C dx) /\
   ∃ mA,h.Ns1 dx mA/\(∀ f,ZnZ (fs.lookup f) (mA f))/\PySem.Within mA (fs.map (·.1))
 | .own _=>∃ o,h.get? a=some o
 | .xd fs=>∃ mA,h.Ns1 a mA/\∀ f,ZnZ (fs.lookup f) (mA f)
 | .rng lo hi=>∃ t u v,h.get? a=some {cls:=.type "range",data:=.fields #[.int lo t,.int hi u,.int 1 v]}
 | .frz o u=>h.get? a=some o/\ObjOk H h a u
 | .tbl ps=>h.get? a=some {cls:=.none,data:=.fields ps}
 | .met f x=>h.get? a=some (PySem.W.methodObj (.ref f) (.ref x))
 | .ext φ=>φ h/\(∃ o,h.get? a=some o)/\∀ h1 h2:Heap,φ h1->(∀ o,h1.get? a=some o->h2.get? a=some o)->φ h2
def HOk(H:Hp)(h:Heap):Prop:=∀ a o,H a=some o->ObjOk P w H h a o
end
section
variable{P:Program}{w:World}{H H':Hp}{h h':Heap}{a:Addr}{o:HO}
theorem ObjOk.lt(x:ObjOk P w H h a o):a<h.objs.size:=by
 cases o with
 | lst xs=>obtain⟨_,_,_,_,e⟩:=x;exact Heap.lt_size e
 | tup xs=>obtain⟨_,_,_,p⟩:=x;exact p.lt
 | dK kvs=>obtain⟨_,_,_,_,o,_,_,e,_⟩:=x;exact Heap.lt_size e
 | dT kvs=>obtain⟨_,_,_,_,o,_,_,e,_⟩:=x;exact Heap.lt_size e
 | set S n=>obtain⟨o,_,_,_,e,_⟩:=x;exact Heap.lt_size e
 | ins C dx fs=>obtain⟨_,_,_,e,_⟩:=x;exact Heap.lt_size e
 | own y=>obtain⟨_,e⟩:=x;exact Heap.lt_size e
 | xd fs=>obtain⟨_,⟨_,_,_,e,_⟩,_⟩:=x;exact Heap.lt_size e
 | rng lo hi=>obtain⟨_,_,_,e⟩:=x;exact Heap.lt_size e
 | frz ob u=>obtain⟨e,_⟩:=x;exact Heap.lt_size e
 | tbl ps=>exact Heap.lt_size (show h.get? a=some _ from x)
 | met f y=>exact Heap.lt_size (show h.get? a=some _ from x)
 | ext φ=>obtain⟨_,⟨_,e⟩,_⟩:=x;exact Heap.lt_size e
theorem Paired.mapP{α β:Type}{F G:α->β->Prop}:∀{l₁:List α} {l₂:List β},Paired F l₁ l₂->(∀ a b,F a b->G a b)->Paired G l₁ l₂
 | _,_,.nil,_=>.nil
 | _,_,.cons r t,f=>.cons (f _ _ r) (Paired.mapP t f)
theorem ObjOk.stay(x:ObjOk P w H h a o)(k:∀ b u,(b=a\/H b=some (.own a))->h.get? b=some u->h'.get? b=some u)
  (ho:∀ b,H b=some (.own a)->H' b=some (.own a))(ht:∀ b xs,H b=some (.tup xs)->H' b=some (.tup xs)):ObjOk P w H' h' a o:=by
 induction o with
 | lst xs=>obtain⟨z,its,n,r,e⟩:=x;exact⟨z,its,n,r,k _ _ (.inl rfl) e⟩
 | tup xs=>obtain⟨z,its,r,ob,e,c⟩:=x;exact⟨z,its,r,ob,k _ _ (.inl rfl) e,c⟩
 | dK kvs=>obtain⟨z,y,vs,r,ob,es,ep,e,c⟩:=x;exact⟨z,y,vs,r,ob,es,ep,k _ _ (.inl rfl) e,c⟩
 | dT kvs=>
  obtain⟨z,y,xs,r,ob,es,ep,e,c⟩:=x;exact⟨z,y,xs,Paired.mapP r fun p q z=>⟨z.1,ht _ _ z.2.1,z.2.2⟩,ob,es,ep,k _ _ (.inl rfl) e,c⟩
 | set S n=>obtain⟨ob,es,ep,t,e,c⟩:=x;exact⟨ob,es,ep,t,k _ _ (.inl rfl) e,c⟩
 | ins C dx fs=>
  obtain⟨d,z,ne,e,mA,⟨od,es,ep,e2,c⟩,r⟩:=x;exact⟨ho _ d,z,ne,k _ _ (.inl rfl) e,mA,⟨od,es,ep,k _ _ (.inr d) e2,c⟩,r⟩
 | own y=>obtain⟨ob,e⟩:=x;exact⟨ob,k _ _ (.inl rfl) e⟩
 | xd fs=>obtain⟨mA,⟨od,es,ep,e,c⟩,r⟩:=x;exact⟨mA,⟨od,es,ep,k _ _ (.inl rfl) e,c⟩,r⟩
 | rng lo hi=>obtain⟨t,u,v,e⟩:=x;exact⟨t,u,v,k _ _ (.inl rfl) e⟩
 | frz ob u ih=>obtain⟨e,q⟩:=x;exact⟨k _ _ (.inl rfl) e,ih q⟩
 | tbl ps=>
  have e:h.get? a=some {cls:=.none,data:=.fields ps}:=x;show h'.get? a=some {cls:=.none,data:=.fields ps};exact k a _ (.inl rfl) e
 | met f y=>
  have e:h.get? a=some (PySem.W.methodObj (.ref f) (.ref y)):=x;show h'.get? a=some (PySem.W.methodObj (.ref f) (.ref y));exact k a _ (.inl rfl) e
 | ext φ=>obtain⟨p,⟨o,e⟩,st⟩:=x;exact⟨st _ _ p fun o q=>k _ _ (.inl rfl) q,⟨o,k _ _ (.inl rfl) e⟩,st⟩
theorem HOk.lt(x:HOk P w H h)(e:H a=some o):a<h.objs.size:=(x a o e).lt
theorem HOk.fresh(x:HOk P w H h)(e:h.objs.size<=a):H a=none:=by
 cases q:H a with
 | none=>rfl
 | some u=>exact absurd (Aj (x.lt q) e) (aq _)
theorem HOk.kept(x:HOk P w H h)(k:∀ b u,h.get? b=some u->h'.get? b=some u):HOk P w H h':=fun a o e=>
 (x a o e).stay (fun b u _ q=>k b u q) (fun _ q=>q) fun _ _ q=>q
theorem HOk.laid(x:HOk P w H h)(k:∀ b u,h.get? b=some u->h'.get? b=some u)(hp:h.objs.size<=a)(new:ObjOk P w (upd H a o) h' a o):HOk P w (upd H a o) h':=fun b u e=>by
 have hn:=x.fresh hp;by_cases hb:b=a
 ·subst hb;rw[ZP]at e;cases e;exact new
 ·rw[ZJ hb]at e;exact(x b u e).stay (fun c v _ q=>k c v q) (fun c q=>by rw[ZJ (ZG q hn)];exact q) fun c xs q=>by rw[ZJ (ZG q hn)];exact q
end
def Rd(H:Hp)(a:Addr)(u:HO):Prop:=H a=some u\/∃ o,H a=some (.frz o u)
theorem Rd.ok{P:Program}{w:World}{H:Hp}{h:Heap}{a:Addr}{u:HO}(r:Rd H a u)(x:HOk P w H h):ObjOk P w H h a u:=by
 rcases r with r | ⟨o,r⟩
 ·exact x a u r
 ·obtain⟨_,q⟩:=x a _ r;exact q
def Mut:Option HO->Prop
 | some (.lst _)=>True
 | some (.dK _)=>True
 | some (.dT _)=>True
 | some (.set _ _)=>True
 | some (.ins _ _ _)=>True
 | some (.ext _)=>True
 | _=>False
section
variable{P:Program}{w:World}{H:Hp}{h h':Heap}{x e:Addr}{o':HO}
theorem HOk.write(ok:HOk P w H h)(mu:Mut (H x))(he:e=x\/H e=some (.own x))(k:∀ b u,b≠e->h.get? b=some u->h'.get? b=some u)(heo:∃ u,h'.get? e=some u)
  (new:ObjOk P w (upd H x o') h' x o'):HOk P w (upd H x o') h':=fun b u q=>by
 have nown:∀ c y,H c=some (.own y)->c≠x:=fun c y r z=>by subst z;rw[r]at mu;exact mu
 have ntup:∀ c xs,H c=some (.tup xs)->c≠x:=fun c xs r z=>by subst z;rw[r]at mu;exact mu
 by_cases hb:b=x
 ·subst hb;rw[ZP]at q;cases q;exact new
 ·rw[ZJ hb]at q;by_cases hbe:b=e
  ·have q':H b=some (.own x):=by
    rcases he with z | z
    ·exact absurd (hbe.trans z) hb
    ·rw[hbe];exact z
   rw[q]at q';cases q';obtain⟨v,hv⟩:=heo;exact⟨v,by rw[hbe];exact hv⟩
  ·refine(ok b u q).stay (fun c v hc r=>k c v ?_ r) (fun c r=>by rw[ZJ (nown c b r)];exact r) fun c xs r=>by rw[ZJ (ntup c xs r)];exact r
   rcases hc with rfl | hc
   ·exact hbe
   ·rintro rfl;rcases he with z | z
    ·exact nown c b hc z
    ·rw[hc]at z;cases z;exact hb rfl
end
structure Un(fs ex:List Addr)(H H':Hp)(h h':Heap):Prop where
 keep:∀ b o,h.get? b=some o->H b=none->b ∉ fs->b ∉ ex->h'.get? b=some o
 slot:∀ b o,h.get? b=some o->H b=none->b∈fs->b ∉ ex->∃ sl,h'.get? b=some {o with slots:=sl}
 free:∀ b o,h.get? b=some o->H b=none->b ∉ ex->H' b=none
 there:∀ b o,h.get? b=some o->b ∉ ex->∃ o',h'.get? b=some o'
 tups:∀ b xs,H b=some (.tup xs)->H' b=some (.tup xs)
 frzs:∀ b o u,H b=some (.frz o u)->H' b=some (.frz o u)
 tbls:∀ b ps,H b=some (.tbl ps)->∃ more,H' b=some (.tbl (ps++more))
section
variable{fs fs' ex ex':List Addr}{H H1 H2:Hp}{h h1 h2 h':Heap}{a x e:Addr}{o:HO}
theorem Un.any(u:Un fs ex H H1 h h1){b:Addr}{ob:Obj}(q:h.get? b=some ob)(n:H b=none)(hx:b ∉ ex):∃ sl,h1.get? b=some {ob with slots:=sl}:=by
 by_cases hb:b∈fs
 ·exact u.slot b ob q n hb hx
 ·exact⟨ob.slots,u.keep b ob q n hb hx⟩
theorem Un.kept(k:∀ b u,h.get? b=some u->h'.get? b=some u):Un fs ex H H h h':=
 ⟨fun b ob q _ _ _=>k b ob q,fun b ob q _ _ _=>⟨ob.slots,k b ob q⟩,fun _ _ _ n _=>n,fun b ob q _=>⟨ob,k b ob q⟩,fun _ _ q=>q,fun _ _ _ q=>q,fun _ ps q=>⟨#[],by rw[q];simp⟩⟩
theorem Un.refl:Un fs ex H H h h:=Un.kept fun _ _ q=>q
theorem Un.laid(k:∀ b u,h.get? b=some u->h'.get? b=some u)(hp:h.objs.size<=a)(hn:H a=none):Un fs ex H (upd H a o) h h' where
 keep:=fun b u q _ _ _=>k b u q
 slot:=fun b u q _ _ _=>⟨u.slots,k b u q⟩
 free:=fun b u q n _=>by rw[ZJ (Am (Aj (Heap.lt_size q) hp))];exact n
 there:=fun b u q _=>⟨u,k b u q⟩
 tups:=fun b xs q=>by rw[ZJ (ZG q hn)];exact q
 frzs:=fun b u xs q=>by rw[ZJ (ZG q hn)];exact q
 tbls:=fun b ps q=>⟨#[],by rw[ZJ (ZG q hn),q];simp⟩
theorem Un.write(mu:Mut (H x))(he:e=x\/H e=some (.own x))(k:∀ b u,b≠e->h.get? b=some u->h'.get? b=some u)(heo:∃ u,h'.get? e=some u):Un fs ex H (upd H x o) h h':=by
 have hx:∀ b,H b=none->b≠x:=fun b n z=>by subst z;rw[n]at mu;exact mu
 have hb:∀ b,H b=none->b≠e:=fun b n z=>by
  subst z;rcases he with r | r
  ·exact hx b n r
  ·rw[n]at r;cases r
 have hm:∀ b u,H b=some u->¬ Mut (some u)->b≠x:=fun b u q nm z=>by subst z;rw[q]at mu;exact nm mu
 refine⟨fun b u q n _ _=>k b u (hb b n) q,fun b u q n _ _=>⟨u.slots,k b u (hb b n) q⟩,fun b u q n _=>by rw[ZJ (hx b n)];exact n,fun b u q _=>?_,
  fun b xs q=>by rw[ZJ (hm b _ q fun z=>z)];exact q,fun b u xs q=>by rw[ZJ (hm b _ q fun z=>z)];exact q,fun b ps q=>⟨#[],by rw[ZJ (hm b _ q fun z=>z),q];simp⟩⟩
 by_cases hbe:b=e
 ·subst hbe;exact heo
 ·exact⟨u,k b u hbe q⟩
end
def trk(h:Heap)(H:Hp):List Addr:=(List.range h.objs.size).filter fun a=>(H a).isSome
def Zii(h:Heap)(H:Hp):Heap:=PySem.W.hideAll h (trk h H)
theorem Zgn(h:Heap)(H:Hp):(Zii h H).objs.size=h.objs.size:=PySem.W.hideAll_size _ _
theorem Zih{h:Heap}{H:Hp}{b:Addr}{o:Obj}(e:h.get? b=some o)(n:H b=none):(Zii h H).get? b=some o:=
 PySem.W.hideAll_get _ e fun hm=>by
  have q:(H b).isSome=true:=(List.mem_filter.mp hm).2;rw[n]at q;simp at q
theorem Zj8{h:Heap}{H:Hp}{b:Addr}{o:Obj}(e:(Zii h H).get? b=some o):h.get? b=some o/\H b=none:=by
 have e':h.get? b=some o:=PySem.W.of_hideAll (trk h H) e;refine⟨e',?_⟩;cases q:H b with
 | none=>rfl
 | some x=>
  have hm:b∈trk h H:=List.mem_filter.mpr ⟨Ae.mpr (Heap.lt_size e'),by simp[q]⟩;have z:(Zii h H).get? b=none:=PySem.W.hideAll_none (trk h H) hm;rw[z]at e;cases e
def ZkM(g h:Heap)(L:Addr):List (Addr×Obj):=(List.range h.objs.size).filterMap fun a=>if a=L\/(g.get? a).isSome=true then none else(h.get? a).map fun o=>(a,o)
noncomputable def rest(g h:Heap)(L d:Addr):List (Addr×Obj):=(ZkM g h L).filter fun p=>decide (p.1≠d)
structure Mod(K:Frag)(mg:Str->Option Value)(base:Heap):Prop where
 kin:K.In base
 glob:base.Ns mainGlobals mg
 blt:∃ mb,base.Ns builtinsNs mb/\∀ x:Str,x≠"__name__"->mb x=bootBuiltins x
 nolimit:base.NoLimit
structure Cx where
 prog:Program
 w:World
 K:Frag
 mg:Str->Option Value
 base:Heap
 A:Around
 N:List Str
 s₀:Shared
 H₀:Hp
 env:Env
 outer:List Env
 stack:List Env
 ex:List Addr
 fn:Str->Bool
 calm:Bool
 pn:List (Addr×Obj)
 xe:Value->Shared->Prop
def frs(l:List Env):List Addr:=l.filterMap (·.frame)
abbrev Cx.fs(X:Cx):List Addr:=frs X.outer
def Vis(sc:Scope)(x:Str):Prop:=sc.names.lookup x=some .local\/sc.names.lookup x=some .cell\/sc.names.lookup x=some .free
def Loc(sc:Scope)(x:Str):Prop:=sc.names.lookup x=some .local\/sc.names.lookup x=some .cell
def Zo9(env:Env)(h:Heap)(m:Str->Option Value)(x:Str)(u:Value):Prop:=
 (env.kindOf x=some .local/\m x=some u)\/((env.kindOf x=some .cell\/env.kindOf x=some .free)/\∃ c,env.cells.lookup x=some c/\h.IsCell c (some u))
structure Cx.Ok(X:Cx):Prop where
 mod:Mod X.K X.mg X.base
 kind:X.env.scope.kind=.function
 glob:X.env.globals=mainGlobals
 blt:X.env.builtins=builtinsNs
 above:X.s₀.heap.objs.size<=X.env.locals
 inj:∀ x y c,X.env.cells.lookup x=some c->X.env.cells.lookup y=some c->x=y
 has:∀ x,(X.env.kindOf x=some .cell\/X.env.kindOf x=some .free)->∃ c,X.env.cells.lookup x=some c
 cab:∀ x c,X.fn x=true->X.env.cells.lookup x=some c->X.s₀.heap.objs.size<=c
 hd:X.calm=true->X.A.handled=none
 frames:X.A.frames=some X.stack
 stk:X.stack=X.outer\/(X.stack=X.env::X.outer/\X.env.frame=some X.env.locals)
 exf:∀ b∈X.ex,b≠X.env.locals/\∀ x c,X.env.cells.lookup x=some c->c≠b
 bs:∀ b o,X.base.get? b=some o->X.s₀.heap.get? b=some o/\X.H₀ b=none
 bsz:X.base.objs.size<=X.s₀.heap.objs.size
 noex:∀ b o,X.base.get? b=some o->b ∉ X.ex
 exfs:∀ b∈X.ex,b ∉ X.fs
 funs:X.s₀.heap.FunFrames X.base X.outer
 frf:∀ b∈X.fs,X.H₀ b=none
structure Inv(X:Cx)(pins:List (Addr×Obj))(σ:List (Option V))(H:Hp)(s:Shared):Prop where
 ok:X.Ok
 os:s.os=X.s₀.os
 bare:AllBare s.gens
 base:Un X.fs X.ex X.H₀ H X.s₀.heap s.heap
 loc:∃ m,s.heap.Ns X.env.locals m/\∀(i:Nat) (x:Str) (v:V),X.N[i]?=some x->σ[i]?=some (some v)->Vis X.env.scope x->∃ u,RelV v u/\Zo9 X.env s.heap m x u
 cell:∀ x c,X.env.cells.lookup x=some c->∃ v,s.heap.IsCell c v
 free:H X.env.locals=none
 freeC:∀ x c,X.env.cells.lookup x=some c->H c=none
 pin:∀ p∈X.pn++pins,s.heap.get? p.1=some p.2/\H p.1=none/\p.1≠X.env.locals/\p.1 ∉ X.fs/\∀ v,p.2.data≠.cell v
 hok:HOk X.prog X.w H s.heap
 len:σ.length=X.N.length
section
variable{X:Cx}{pins:List (Addr×Obj)}{σ:List (Option V)}{H H':Hp}{s:Shared}{h':Heap}
theorem Cx.Ok.nofr(ok:X.Ok){b:Addr}{o:Obj}(e:X.base.get? b=some o):b ∉ X.fs:=fun hb=>by
 have:=(ok.funs.mem hb).1;rw[e]at this;cases this
theorem Inv.bs(I:Inv X pins σ H s):∀ b o,X.base.get? b=some o->s.heap.get? b=some o/\H b=none:=fun b o e=>
 ⟨I.base.keep b o (I.ok.bs b o e).1 (I.ok.bs b o e).2 (I.ok.nofr e) (I.ok.noex b o e),I.base.free b o (I.ok.bs b o e).1 (I.ok.bs b o e).2 (I.ok.noex b o e)⟩
theorem Inv.bk(I:Inv X pins σ H s):∀ b o,X.base.get? b=some o->s.heap.get? b=some o:=fun b o e=>(I.bs b o e).1
theorem Inv.mod(I:Inv X pins σ H s):Mod X.K X.mg X.base:=I.ok.mod
theorem Inv.kIn(I:Inv X pins σ H s):X.K.In s.heap:=I.ok.mod.kin.keeps I.bk
theorem Inv.lt(I:Inv X pins σ H s):X.env.locals<s.heap.objs.size:=let ⟨_,hn,_⟩:=I.loc;hn.lt
theorem Inv.sz(I:Inv X pins σ H s):X.s₀.heap.objs.size<=s.heap.objs.size:=Ax I.ok.above (Nat.le_of_lt I.lt)
theorem Inv.nofs(I:Inv X pins σ H s){a:Addr}(h:s.heap.objs.size<=a):a ∉ X.fs:=fun hb=>by
 obtain⟨_,o,ho,_⟩:=I.ok.funs.mem hb;exact absurd (Aj (Heap.lt_size ho) (Ax I.sz h)) (aq _)
theorem Inv.cne(I:Inv X pins σ H s):∀ x c,X.env.cells.lookup x=some c->c≠X.env.locals:=fun x c e z=>by
 obtain⟨v,o,ho,hd⟩:=I.cell x c e;obtain⟨m,⟨o',es,ep,ho',hd',_⟩,_⟩:=I.loc;rw[z,ho']at ho;cases ho;rw[hd']at hd;cases hd
theorem Inv.funs(I:Inv X pins σ H s):s.heap.FunFrames X.base X.outer:=by
 have all:∀(l:List Env),(∀ b∈frs l,b∈X.fs)->X.s₀.heap.FunFrames X.base l->s.heap.FunFrames X.base l:=by
  intro l
  induction l with
  | nil=>intro _ _;trivial
  | cons env r ih=>
   intro hs hl;obtain⟨hk,⟨L,o,hf,hn,ho,hd⟩,hr⟩:=hl;have hL:L∈X.fs:=hs L (by unfold frs;rw[b5,hf];exact A6);obtain⟨sl,e⟩:=I.base.slot L o ho (I.ok.frf L hL) hL fun z=>I.ok.exfs L z hL;exact⟨hk,⟨L,_,hf,hn,e,hd⟩,ih (fun b hb=>hs b (by unfold frs;rw[b5,hf];exact A3 _ hb)) hr⟩
 exact all X.outer (fun _ hb=>hb) I.ok.funs
theorem Inv.stack(I:Inv X pins σ H s):s.heap.FunFrames X.base X.stack:=by
 rcases I.ok.stk with e | ⟨e,hf⟩
 ·rw[e];exact I.funs
 ·rw[e];obtain⟨m,hn,_⟩:=I.loc;refine .cons (by rw[I.ok.kind];decide) hf hn ?_ I.funs;exact Heap.get?_none_of_le (Ax I.ok.bsz I.ok.above)
theorem Inv.stkSub(I:Inv X pins σ H s):∀ b∈frs X.stack,b∈X.env.locals::X.fs:=fun b hb=>by
 rcases I.ok.stk with e | ⟨e,hf⟩
 ·rw[e]at hb;exact A3 _ hb
 ·rw[e]at hb;unfold frs at hb;rw[b5,hf]at hb;exact hb
theorem Inv.stkFree(I:Inv X pins σ H s):∀ b∈frs X.stack,H b=none:=fun b hb=>by
 rcases A4.mp (I.stkSub b hb) with e | hb
 ·rw[e];exact I.free
 ·obtain⟨_,o,ho,_⟩:=I.ok.funs.mem hb;exact I.base.free b o ho (I.ok.frf b hb) fun z=>I.ok.exfs b z hb
theorem Inv.step{g':Array GenState}{t':Nat}{d':Drawn}{ch:List Addr}(I:Inv X pins σ H s)
  (hch:∀ b∈ch,(b∈X.ex\/X.s₀.heap.objs.size<=b)/\b≠X.env.locals/\(∀ x c,X.env.cells.lookup x=some c->c≠b)/\∀ p∈X.pn++pins,p.1≠b)
  (keep:∀ b o,b≠X.env.locals->b ∉ X.fs->b ∉ ch->s.heap.get? b=some o->H b=none->h'.get? b=some o)
  (slot:∀ b o,b≠X.env.locals->b∈X.fs->b ∉ ch->s.heap.get? b=some o->H b=none->∃ sl,h'.get? b=some {o with slots:=sl})(free:∀ b o,b ∉ ch->s.heap.get? b=some o->H b=none->H' b=none)
  (there:∀ b o,b ∉ ch->s.heap.get? b=some o->∃ o',h'.get? b=some o')
  (tups:∀ b xs,H b=some (.tup xs)->H' b=some (.tup xs))(frzs:∀ b o u,H b=some (.frz o u)->H' b=some (.frz o u))(tbls:∀ b ps,H b=some (.tbl ps)->∃ more,H' b=some (.tbl (ps++more)))
  (ns:∀ m,s.heap.Ns X.env.locals m->h'.Ns X.env.locals m)(hok:HOk X.prog X.w H' h')(hg:AllBare g'):
  Inv X pins σ H' {s with heap:=h',gens:=g',drawn:=d',toks:=t'}:=by
 have neL:∀ b o,X.s₀.heap.get? b=some o->b≠X.env.locals:=fun b o e=>Am (Aj (Heap.lt_size e) I.ok.above);have neC:∀ b o,X.s₀.heap.get? b=some o->b ∉ X.ex->b ∉ ch:=fun b o e hx hb=>by
  rcases(hch b hb).1 with z | z
  ·exact hx z
  ·exact absurd (Aj (Heap.lt_size e) z) (aq _)
 have cellK:∀ x c,X.env.cells.lookup x=some c->∀ v,s.heap.IsCell c v->h'.IsCell c v:=fun x c e v zq=>by
  obtain⟨o,ho,hd⟩:=zq;have nch:c ∉ ch:=fun z=>(hch c z).2.2.1 x c e rfl;by_cases hc:c∈X.fs
  ·obtain⟨sl,q⟩:=slot c o (I.cne x c e) hc nch ho (I.freeC x c e);exact⟨_,q,hd⟩
  ·exact⟨o,keep c o (I.cne x c e) hc nch ho (I.freeC x c e),hd⟩
 refine⟨I.ok,I.os,hg,⟨fun b o e n hb hx=>?_,fun b o e n hb hx=>?_,fun b o e n hx=>?_,fun b o e hx=>?_,fun b xs e=>tups b xs (I.base.tups b xs e),fun b o xs e=>frzs b o xs (I.base.frzs b o xs e),fun b ps e=>?_⟩,?_,fun x c e=>?_,?_,fun x c e=>?_,fun p hp=>?_,hok,I.len⟩
 ·exact keep b o (neL b o e) hb (neC b o e hx) (I.base.keep b o e n hb hx) (I.base.free b o e n hx)
 ·obtain⟨sl,e1⟩:=I.base.slot b o e n hb hx;obtain⟨sl',e2⟩:=slot b _ (neL b o e) hb (neC b o e hx) e1 (I.base.free b o e n hx);exact⟨sl',e2⟩
 ·obtain⟨o',e1⟩:=I.base.there b o e hx;exact free b o' (neC b o e hx) e1 (I.base.free b o e n hx)
 ·obtain⟨o',e1⟩:=I.base.there b o e hx;exact there b o' (neC b o e hx) e1
 ·obtain⟨m1,e1⟩:=I.base.tbls b ps e;obtain⟨m2,e2⟩:=tbls b _ e1;exact⟨m1++m2,by rw[e2,Array.append_assoc]⟩
 ·obtain⟨m,hn,hl⟩:=I.loc;refine⟨m,ns m hn,fun i x v e1 e2 e3=>?_⟩;obtain⟨u,r,l⟩:=hl i x v e1 e2 e3;refine⟨u,r,?_⟩;rcases l with l | ⟨k,c,e,z⟩
  ·exact .inl l
  ·exact .inr ⟨k,c,e,cellK x c e _ z⟩
 ·obtain⟨v,z⟩:=I.cell x c e;exact⟨v,cellK x c e v z⟩
 ·obtain⟨m,⟨o,_,_,ho,_⟩,_⟩:=I.loc;exact free _ o (fun z=>(hch _ z).2.1 rfl) ho I.free
 ·obtain⟨v,o,ho,hd⟩:=I.cell x c e;exact free c o (fun z=>(hch c z).2.2.1 x c e rfl) ho (I.freeC x c e)
 ·obtain⟨e,n,ne,nf,d⟩:=I.pin p hp;have nch:p.1 ∉ ch:=fun z=>(hch p.1 z).2.2.2 p hp rfl;exact⟨keep p.1 p.2 ne nf nch e n,free p.1 p.2 nch e n,ne,nf,d⟩
theorem Inv.un{t':Nat}(I:Inv X pins σ H s)(u:Un X.fs [] H H' s.heap h')(hok:HOk X.prog X.w H' h'):Inv X pins σ H' {s with heap:=h',toks:=t'}:=by
 obtain⟨m,⟨o,es,ep,ho,r⟩,_⟩:=id I.loc;obtain⟨sl,hL⟩:=u.any ho I.free (by simp);exact I.step (g':=s.gens) (d':=s.drawn) (ch:=[]) (fun _ z=>nomatch z) (fun b o _ hb _ e n=>u.keep b o e n hb (by simp)) (fun b o _ hb _ e n=>u.slot b o e n hb (by simp)) (fun b o _ e n=>u.free b o e n (by simp)) (fun b o _ e=>u.there b o e (by simp)) u.tups u.frzs u.tbls (fun m' hm=>by
  obtain⟨o',es',ep',ho',r'⟩:=hm;rw[ho]at ho';cases ho';exact⟨_,es',ep',hL,r'⟩) hok I.bare
theorem Inv.call{g':Array GenState}{t':Nat}{d':Drawn}{ch:List Addr}(I:Inv X pins σ H s)(u:Un (frs X.stack) ch H H' s.heap h')(hok:HOk X.prog X.w H' h')(hg:AllBare g')
  (hch:∀ b∈ch,(b∈X.ex\/X.s₀.heap.objs.size<=b)/\b≠X.env.locals/\(∀ x c,X.env.cells.lookup x=some c->c≠b)/\∀ p∈X.pn++pins,p.1≠b):
  Inv X pins σ H' {s with heap:=h',gens:=g',drawn:=d',toks:=t'}:=by
 obtain⟨m,⟨o,es,ep,ho,r⟩,_⟩:=id I.loc;obtain⟨sl,hL⟩:=u.any ho I.free fun z=>(hch _ z).2.1 rfl;exact I.step (ch:=ch) hch (fun b o hL hb hc e n=>u.keep b o e n (fun z=>(A4.mp (I.stkSub b z)).elim hL hb) hc) (fun b o _ _ hc e n=>u.any e n hc) (fun b o hc e n=>u.free b o e n hc) (fun b o hc e=>u.there b o e hc) u.tups u.frzs u.tbls (fun m' hm=>by
  obtain⟨o',es',ep',ho',r'⟩:=hm;rw[ho]at ho';cases ho';exact⟨_,es',ep',hL,r'⟩) hok hg
theorem Inv.turned{t':Nat}{it:Addr}(I:Inv X pins σ H s)(k:∀ b o,b≠it->s.heap.get? b=some o->h'.get? b=some o)(hn:H it=none)(hL:it≠X.env.locals)
  (h1:it∈X.ex\/X.s₀.heap.objs.size<=it)(h2:∀ x c,X.env.cells.lookup x=some c->c≠it)(h3:∀ p∈X.pn++pins,p.1≠it):Inv X pins σ H {s with heap:=h',toks:=t'}:=by
 have nit:∀ b u,H b=some u->b≠it:=fun b u e z=>by rw[z,hn]at e;cases e
 refine I.step (g':=s.gens) (d':=s.drawn) (ch:=[it]) (fun b hb=>?_) (fun b o _ _ hc e _=>k b o (fun z=>hc (by simp[z])) e) (fun b o _ _ hc e _=>⟨o.slots,k b o (fun z=>hc (by simp[z])) e⟩) (fun _ _ _ _ n=>n)
  (fun b o hc e=>⟨o,k b o (fun z=>hc (by simp[z])) e⟩) (fun _ _ e=>e) (fun _ _ _ e=>e) (fun b ps e=>⟨#[],by rw[e];simp⟩) (fun m hm=>?_) (fun b u e=>?_) I.bare
 ·have e:b=it:=by simpa using hb
  subst e;exact⟨h1,hL,h2,h3⟩
 ·obtain⟨o,es,ep,ho,r⟩:=hm;exact⟨o,es,ep,k _ o (Ao hL) ho,r⟩
 ·refine(I.hok b u e).stay (fun c v hc q=>k c v ?_ q) (fun _ q=>q) fun _ _ q=>q;rcases hc with z | z
  ·rw[z];exact nit b u e
  ·exact nit c _ z
theorem Inv.tok(I:Inv X pins σ H s)(t:Nat):Inv X pins σ H {s with toks:=t}:=I.un (h':=s.heap) (t':=t) Un.refl I.hok
theorem Inv.kept{t':Nat}(I:Inv X pins σ H s)(k:∀ b u,s.heap.get? b=some u->h'.get? b=some u):Inv X pins σ H {s with heap:=h',toks:=t'}:=I.un (Un.kept k) (I.hok.kept k)
theorem Inv.laid{a:Addr}{o:HO}{t':Nat}(I:Inv X pins σ H s)(k:∀ b u,s.heap.get? b=some u->h'.get? b=some u)(hp:s.heap.objs.size<=a)(new:ObjOk X.prog X.w (upd H a o) h' a o):
  Inv X pins σ (upd H a o) {s with heap:=h',toks:=t'}:=I.un (Un.laid k hp (I.hok.fresh hp)) (I.hok.laid k hp new)
theorem Inv.write{x e:Addr}{o:HO}{t':Nat}(I:Inv X pins σ H s)(mu:Mut (H x))(he:e=x\/H e=some (.own x))(k:∀ b u,b≠e->s.heap.get? b=some u->h'.get? b=some u)(heo:∃ u,h'.get? e=some u)
  (new:ObjOk X.prog X.w (upd H x o) h' x o):Inv X pins σ (upd H x o) {s with heap:=h',toks:=t'}:=I.un (Un.write mu he k heo) (I.hok.write mu he k heo new)
theorem Inv.pins_of{pins':List (Addr×Obj)}(I:Inv X pins σ H s)(h:∀ p∈pins',s.heap.get? p.1=some p.2/\H p.1=none/\p.1≠X.env.locals/\p.1 ∉ X.fs/\∀ v,p.2.data≠.cell v):Inv X pins' σ H s:=
 ⟨I.ok,I.os,I.bare,I.base,I.loc,I.cell,I.free,I.freeC,fun p hp=>(Bk.mp hp).elim (fun z=>I.pin p (bv _ z)) (h p),I.hok,I.len⟩
theorem ZdC{N:List Str}(hN:N.Nodup){i j:Nat}{x:Str}(a:N[i]?=some x)(b:N[j]?=some x):i=j:=by
 obtain⟨h1,e1⟩:=Ap.mp a;obtain⟨h2,e2⟩:=Ap.mp b;exact(List.getElem_inj hN).mp (e1.trans e2.symm)
theorem Zfh{M:Model}{A:Around}{E:Value->Shared->Prop}{i:Nat}{x:Str}{v:V}{u:Value}{Q:Unit->Shared->Prop}(I:Inv X pins σ H s)(hN:X.N.Nodup)(hi:X.N[i]?=some x)(hx:Loc X.env.scope x)(r:RelV v u)
  (h:∀ s',Inv X pins (σ.set i (some v)) H s'->(∃ a,Heap.SameBut a s.heap s'.heap/\(a=X.env.locals\/X.env.cells.lookup x=some a))->Q () s')(hf:X.fn x=true\/X.env.scope.names.lookup x=some .local:=by first | exact .inl rfl | exact .inr rfl | assumption):wpAny M A (storeName X.env x u) Q E s:=by
 obtain⟨m,hn,hl⟩:=id I.loc;have hcls:(X.env.scope.kind==.class||(X.env.scope.kind==.module&&X.env.locals != X.env.globals))=false:=by rw[I.ok.kind];rfl
 have hiσ:i < σ.length:=by rw[I.len];exact(Ap.mp hi).1
 have cne:=I.cne;have tracked:∀{a:Addr} {h':Heap},(∃ o,s.heap.get? a=some o/\H a=none)->Heap.SameBut a s.heap h'->HOk X.prog X.w H h':=fun {a h'} ha hs b ob e=>by
  obtain⟨_,_,hfree⟩:=ha;refine(I.hok b ob e).stay (fun c w' hc q=>(hs.2 c ?_).trans q) (fun _ q=>q) fun _ _ q=>q;rintro rfl;rcases hc with rfl | hc
  ·rw[hfree]at e;cases e
  ·rw[hfree]at hc;cases hc
 rcases hx with hk | hk
 ·refine wpAny_storeName_local hk hn (fun h' hn' hs=>?_) hcls;obtain⟨oL,_,_,hoL,_⟩:=id hn;refine h _ ⟨I.ok,I.os,I.bare,⟨fun b o e n hb hx=>?_,fun b o e n hb hx=>?_,I.base.free,fun b o e hx=>?_,I.base.tups,I.base.frzs,I.base.tbls⟩,⟨_,hn',fun j y v' e1 e2 e3=>?_⟩,fun y c e=>?_,I.free,I.freeC,fun p hp=>?_,tracked ⟨oL,hoL,I.free⟩ hs,by simpa using I.len⟩ ⟨_,hs,.inl rfl⟩
  ·exact(hs.2 b (Am (Aj (Heap.lt_size e) I.ok.above))).trans (I.base.keep b o e n hb hx)
  ·obtain⟨sl,e1⟩:=I.base.slot b o e n hb hx;exact⟨sl,(hs.2 b (Am (Aj (Heap.lt_size e) I.ok.above))).trans e1⟩
  ·obtain⟨o',e1⟩:=I.base.there b o e hx;exact⟨o',(hs.2 b (Am (Aj (Heap.lt_size e) I.ok.above))).trans e1⟩
  ·by_cases hj:j=i
   ·subst hj;rw[hi]at e1;cases e1;rw[Ak hiσ]at e2;cases e2;exact⟨u,r,.inl ⟨hk,by simp⟩⟩
   ·rw[An (Ao hj)]at e2;obtain⟨u',r',q⟩:=hl j y v' e1 e2 e3;refine⟨u',r',?_⟩;rcases q with⟨k,e⟩ | ⟨k,c,e,z⟩
    ·refine .inl ⟨k,?_⟩;have:y≠x:=fun e=>hj (ZdC hN e1 (e ▸ hi));simp[this,e]
    ·exact .inr ⟨k,c,e,z.sameBut hs (cne y c e)⟩
  ·obtain⟨w',z⟩:=I.cell y c e;exact⟨w',z.sameBut hs (cne y c e)⟩
  ·obtain⟨e,n,ne,nf,d⟩:=I.pin p hp;exact⟨(hs.2 p.1 ne).trans e,n,ne,nf,d⟩
 ·have hfn:X.fn x=true:=by
   rcases hf with z | z
   ·exact z
   ·rw[z]at hk;cases hk
  obtain⟨c,hc⟩:=I.ok.has x (.inl hk);obtain⟨w',z⟩:=I.cell x c hc;refine wpAny_storeName_cell I.ok.kind hk hc z (fun h' hc' hs=>?_);obtain⟨oc,hoc,hocd⟩:=id z;refine h {s with heap:=h'} ⟨I.ok,I.os,I.bare,⟨fun b o e n hb hx=>?_,fun b o e n hb hx=>?_,I.base.free,fun b o e hx=>?_,I.base.tups,I.base.frzs,I.base.tbls⟩,⟨m,hn.sameBut hs (Ao (cne x c hc)),fun j y v' e1 e2 e3=>?_⟩,fun y c' e=>?_,I.free,I.freeC,fun p hp=>?_,tracked ⟨oc,hoc,I.freeC x c hc⟩ hs,by simpa using I.len⟩ ⟨c,hs,.inr hc⟩
  ·exact(hs.2 b (Am (Aj (Heap.lt_size e) (I.ok.cab x c hfn hc)))).trans (I.base.keep b o e n hb hx)
  ·obtain⟨sl,e1⟩:=I.base.slot b o e n hb hx;exact⟨sl,(hs.2 b (Am (Aj (Heap.lt_size e) (I.ok.cab x c hfn hc)))).trans e1⟩
  ·obtain⟨o',e1⟩:=I.base.there b o e hx;exact⟨o',(hs.2 b (Am (Aj (Heap.lt_size e) (I.ok.cab x c hfn hc)))).trans e1⟩
  ·by_cases hj:j=i
   ·subst hj;rw[hi]at e1;cases e1;rw[Ak hiσ]at e2;cases e2;exact⟨u,r,.inr ⟨.inl hk,c,hc,hc'⟩⟩
   ·rw[An (Ao hj)]at e2;obtain⟨u',r',q⟩:=hl j y v' e1 e2 e3;refine⟨u',r',?_⟩;rcases q with q | ⟨k,c',e,z'⟩
    ·exact .inl q
    ·refine .inr ⟨k,c',e,z'.sameBut hs ?_⟩;rintro rfl;exact hj (ZdC hN e1 (I.ok.inj _ _ _ e hc ▸ hi))
  ·by_cases hcc:c'=c
   ·subst hcc;exact⟨_,hc'⟩
   ·obtain⟨w2,z2⟩:=I.cell y c' e;exact⟨w2,z2.sameBut hs hcc⟩
  ·obtain⟨e,n,ne,nf,d⟩:=I.pin p hp;refine⟨(hs.2 p.1 ?_).trans e,n,ne,nf,d⟩;intro q;rw[q,hoc]at e;have q':oc=p.2:=Option.some.inj e;exact d w' (by rw[<-q'];exact hocd)
theorem Vw{M:Model}{A:Around}{E:Value->Shared->Prop}{i:Nat}{x:Str}{v:V}{u:Value}{Q:Unit->Shared->Prop}(I:Inv X pins σ H s)(hN:X.N.Nodup)(hi:X.N[i]?=some x)(hx:Loc X.env.scope x)(r:RelV v u)
  (h:∀ s',Inv X pins (σ.set i (some v)) H s'->Q () s')(hf:X.fn x=true\/X.env.scope.names.lookup x=some .local:=by first | exact .inl rfl | exact .inr rfl | assumption):wpAny M A (storeName X.env x u) Q E s:=
 Zfh I hN hi hx r (fun s' I' _=>h s' I') hf
theorem Inv.call'{s':Shared}{ch:List Addr}(I:Inv X pins σ H s)(ho:s'.os=s.os)(u:Un (frs X.stack) ch H H' s.heap s'.heap)(hok:HOk X.prog X.w H' s'.heap)(hg:AllBare s'.gens)
  (hch:∀ b∈ch,(b∈X.ex\/X.s₀.heap.objs.size<=b)/\b≠X.env.locals/\(∀ x c,X.env.cells.lookup x=some c->c≠b)/\∀ p∈X.pn++pins,p.1≠b):Inv X pins σ H' s':=by
 obtain⟨h',g',d',t',o'⟩:=s';have e:o'=s.os:=ho;subst e;exact I.call (g':=g') (t':=t') (d':=d') u hok hg hch
end
abbrev XK:=Value->Option Addr->Hp->Prop
abbrev St:=List (Option V)
abbrev VK:=V->Hp->Prop
abbrev TE:=St->Hp->VK->Prop
abbrev TT:=St->Hp->(Bool->Hp->Prop)->Prop
abbrev TA:=St->Hp->(List V->Hp->Prop)->Prop
structure Zjo where
 nx:St->Hp->Prop
 rt:VK
 bk:St->Hp->Prop:=fun _ _=>False
 ct:St->Hp->Prop:=fun _ _=>False
abbrev TS:=Zjo->St->Hp->Prop
inductive EP(X:Cx)(pins:List (Addr×Obj))(σ:St)(Q:VK)(u:Value)(s':Shared):Prop
 | mk (v:V) (H':Hp) (I:Inv X pins σ H' s') (r:RelV v u) (q:Q v H')
def TP(X:Cx)(pins:List (Addr×Obj))(σ:St)(Q:Bool->Hp->Prop)(b:Bool)(s':Shared):Prop:=∃ H',Inv X pins σ H' s'/\Q b H'
inductive AP(X:Cx)(pins:List (Addr×Obj))(σ:St)(Q:List V->Hp->Prop)(us:List Value)(s':Shared):Prop
 | mk (vs:List V) (H':Hp) (I:Inv X pins σ H' s') (r:Vals vs us) (q:Q vs H')
def SP(X:Cx)(pins:List (Addr×Obj))(D:Zjo)(f:Flow)(s':Shared):Prop:=
 match f with
 | .next=>∃ σ' H',Inv X pins σ' H' s'/\D.nx σ' H'
 | .brk=>∃ σ' H',Inv X pins σ' H' s'/\D.bk σ' H'
 | .cont=>∃ σ' H',Inv X pins σ' H' s'/\D.ct σ' H'
 | .ret u=>∃ v σ' H',Inv X pins σ' H' s'/\RelV v u/\D.rt v H'
noncomputable def PE(X:Cx)(e:Expr)(t:TE):Prop:=
 ∀(pins:List (Addr×Obj)) (s:Shared) (σ:St) (H:Hp) (Q:VK),Inv X pins σ H s->t σ H Q->wpAny (model X.prog X.w) X.A (eval e X.env) (EP X pins σ Q) X.xe s
def PT(X:Cx)(e:Expr)(t:TT):Prop:=
 ∀(pins:List (Addr×Obj)) (s:Shared) (σ:St) (H:Hp) (Q:Bool->Hp->Prop),Inv X pins σ H s->t σ H Q->wpAny (model X.prog X.w) X.A (isTrue e X.env (eval e X.env)) (TP X pins σ Q) X.xe s
def PW(X:Cx)(e:Expr)(t:TT):Prop:=
 ∀(whole:Sem Value) (pins:List (Addr×Obj)) (s:Shared) (σ:St) (H:Hp) (Q:Bool->Hp->Prop),Inv X pins σ H s->t σ H Q->wpAny (model X.prog X.w) X.A (isTrue e X.env whole) (TP X pins σ Q) X.xe s
theorem PW.pt{X:Cx}{e:Expr}{t:TT}(h:PW X e t):PT X e t:=h _
def PA(X:Cx)(es:List Expr)(t:TA):Prop:=
 ∀(pos:Pos) (pins:List (Addr×Obj)) (s:Shared) (σ:St) (H:Hp) (Q:List V->Hp->Prop),Inv X pins σ H s->t σ H Q->wpAny (model X.prog X.w) X.A (spliced (backTo pos (starEach es X.env))) (AP X pins σ Q) X.xe s
def PS(X:Cx)(st:Stmt)(t:TS):Prop:=
 ∀(pins:List (Addr×Obj)) (s:Shared) (σ:St) (H:Hp) (D:Zjo),Inv X pins σ H s->t D σ H->wpAny (model X.prog X.w) X.A (exec st X.env) (SP X pins D) X.xe s
def PSs(X:Cx)(st:List Stmt)(t:TS):Prop:=
 ∀(pins:List (Addr×Obj)) (s:Shared) (σ:St) (H:Hp) (D:Zjo),Inv X pins σ H s->t D σ H->wpAny (model X.prog X.w) X.A (execs st X.env) (SP X pins D) X.xe s
theorem thn{α:Type}{t:Sem α}{Q Q':α->Shared->Prop}{M:Model}{A:Around}{E:Value->Shared->Prop}{s:Shared}(h:wpAny M A t Q E s)(hQ:∀ a s,Q a s->Q' a s):wpAny M A t Q' E s:=wpAny_mono h hQ fun _ _ x=>x
section
variable{X:Cx}
def Zla(i:Nat):TE:=fun σ H Q=>∃ v,σ[i]?=some (some v)/\Q v H
def tC(v:V):TE:=fun _ H Q=>Q v H
theorem ZlE{i:Nat}{x:Str}{pos:Pos}(hN:X.N[i]?=some x)(hv:Vis X.env.scope x)(hd:(x==("__debug__":Str))=false:=by decide)(hcd:(x==("__classdict__":Str))=false:=by decide):PE X (.Name x pos) (Zla i):=by
 intro pins s σ H Q I h;obtain⟨v,e,h⟩:=h;obtain⟨m,hn,hl⟩:=I.loc;obtain⟨u,r,l⟩:=hl i x v hN e hv;have fin:EP X pins σ Q u s:=⟨v,H,I,r,h⟩;rcases l with⟨hk,hm⟩ | ⟨hk,c,hc,hcell⟩
 ·exact wpAny_Name (wpAny_loadName_local I.ok.kind hk hn hm fin) hd
 ·rcases hk with hk | hk
  ·exact wpAny_Name (wpAny_loadName_cell I.ok.kind hk hc hcell fin) hd
  ·exact wpAny_Name (wpAny_loadName_free I.ok.kind hk hc hcell fin hcd) hd
theorem ZiY{i j pos}:PE X (.Constant (.int i) j pos) (tC (.int i)):=fun _ _ _ H _ I h=>wpAny_Constant_int ⟨.int i,H,I.tok _,⟨_,rfl⟩,h⟩
theorem Znu{b j pos}:PE X (.Constant (.bool b) j pos) (tC (.bl b)):=fun _ _ _ H _ I h=>Constant_bool ⟨.bl b,H,I,rfl,h⟩
theorem ZlH{x j pos}:PE X (.Constant (.str x) j pos) (tC (.str x)):=fun _ _ _ H _ I h=>Calls.Constant_str ⟨.str x,H,I.tok _,⟨_,rfl⟩,h⟩
noncomputable def Gl(X:Cx)(x:Str):Prop:=X.env.kindOf x=some .globalImplicit
theorem Zgi{E:Value->Shared->Prop}{pins:List (Addr×Obj)}{s:Shared}{σ:St}{H:Hp}{x:Str}{u:Value}{pos:Pos}{Q:Value->Shared->Prop}(I:Inv X pins σ H s)(hg:Gl X x)(hm:X.mg x=some u)(h:Q u s)
  (hd:(x==("__debug__":Str))=false:=by decide):wpAny (model X.prog X.w) X.A (eval (.Name x pos) X.env) Q E s:=
 Calls.Name_function_global I.ok.kind hg (Calls.loadGlobal_global (by rw[I.ok.glob];exact I.mod.glob.keeps I.bk) hm h) hd
theorem Jg{E:Value->Shared->Prop}{pins:List (Addr×Obj)}{s:Shared}{σ:St}{H:Hp}{x:Str}{u:Value}{pos:Pos}{Q:Value->Shared->Prop}(I:Inv X pins σ H s)(hg:Gl X x)(hm:X.mg x=none)(hv:bootBuiltins x=some u)(h:Q u s)
  (hn:x≠"__name__":=by decide)(hd:(x==("__debug__":Str))=false:=by decide):wpAny (model X.prog X.w) X.A (eval (.Name x pos) X.env) Q E s:=by
 obtain⟨mb,h1,h2⟩:=I.mod.blt;exact Calls.Name_function_global I.ok.kind hg (Calls.loadGlobal_builtin (by rw[I.ok.glob];exact I.mod.glob.keeps I.bk) hm (by rw[I.ok.blt];exact h1.keeps I.bk) ((h2 x hn).trans hv) h) hd
theorem ZjX{x:Str}{v:V}{u:Value}{pos:Pos}(hg:Gl X x)(hm:X.mg x=some u)(r:RelV v u)(hd:(x==("__debug__":Str))=false:=by decide):PE X (.Name x pos) (tC v):=
 fun _ _ _ H _ I h=>Zgi I hg hm ⟨v,H,I,r,h⟩ hd
variable{a b:Expr}{ta tb:TE}{pos:Pos}
def tB(t:TE):TT:=fun σ H Q=>t σ H fun x H1=>∃ c,x=.bl c/\Q c H1
theorem Zlx{e:Expr}{t:TE}(h:PE X e t)(he:∀ whole,isTrue e X.env whole=(do let v <- whole;standAt e.pos;holding [v] (truthy v)):=by intro _;rfl):PT X e (tB t):=by
 intro pins s σ H Q I hw;refine isTrue_plain (thn (h pins s σ H _ I hw) fun v s1 zq=>?_) (he _);obtain⟨x,H1,I1,r1,q1⟩:=zq;obtain⟨d,rfl,q⟩:=q1;cases r1;exact wpAny_truthy_bool ⟨H1,I1,q⟩
variable{tA tB':TT}{rest:List Expr}
def Zoz(t u:TT):TT:=fun σ H Q=>t σ H fun c H1=>if c=true then u σ H1 Q else Q false H1
def tOr(t u:TT):TT:=fun σ H Q=>t σ H fun c H1=>if c=true then Q true H1 else u σ H1 Q
def Zos(t:TT):TT:=fun σ H Q=>t σ H fun c H1=>Q (!c) H1
theorem ZjL(ha:PT X a tA):PW X (.BoolOp .And [a] pos) tA:=by
 intro wh pins s σ H Q I h;refine isTrue_and (thn (ha pins s σ H Q I h) fun c s1 e=>?_);cases c with
 | true=>exact isTrue_and_nil e
 | false=>exact e
theorem Zlv(ha:PT X a tA):PW X (.BoolOp .Or [a] pos) tA:=by
 intro wh pins s σ H Q I h;refine isTrue_or (thn (ha pins s σ H Q I h) fun c s1 e=>?_);cases c with
 | false=>exact isTrue_or_nil e
 | true=>exact e
theorem Zlw(ha:PT X a tA)(hb:PW X (.BoolOp .And (b::rest) pos) tB'):PW X (.BoolOp .And (a::b::rest) pos) (Zoz tA tB'):=by
 intro wh pins s σ H Q I h;refine isTrue_and (thn (ha pins s σ H _ I h) fun c s1 zq=>?_);obtain⟨H1,I1,q1⟩:=zq;cases c with
 | true=>exact hb wh pins s1 σ H1 Q I1 q1
 | false=>exact⟨H1,I1,q1⟩
theorem Znp(ha:PT X a tA)(hb:PW X (.BoolOp .Or (b::rest) pos) tB'):PW X (.BoolOp .Or (a::b::rest) pos) (tOr tA tB'):=by
 intro wh pins s σ H Q I h;refine isTrue_or (thn (ha pins s σ H _ I h) fun c s1 zq=>?_);obtain⟨H1,I1,q1⟩:=zq;cases c with
 | true=>exact⟨H1,I1,q1⟩
 | false=>exact hb wh pins s1 σ H1 Q I1 q1
theorem Zly(ha:PT X a tA):PT X (.UnaryOp .Not a pos) (Zos tA):=by
 intro pins s σ H Q I h;exact isTrue_not (ha pins s σ H (fun c H1=>Q (!c) H1) I h)
def Znk(ta tb:TE):TE:=fun σ H Q=>ta σ H fun x H1=>∃ c,x=.bl c/\if c=true then tb σ H1 Q else Q (.bl false) H1
def Zne(ta:TE):TE:=fun σ H Q=>ta σ H fun x H1=>∃ c,x=.bl c/\Q (.bl (!c)) H1
theorem ZlI{op}{t:TE}(h:PE X a t):PE X (.BoolOp op [a] pos) t:=fun pins s σ H Q I hw=>BoolOp_one (h pins s σ H Q I hw)
theorem ZlM(ha:PE X a ta)(hb:PE X (.BoolOp .And (b::rest) pos) tb):PE X (.BoolOp .And (a::b::rest) pos) (Znk ta tb):=by
 intro pins s σ H Q I h;refine BoolOp_and (thn (ha pins s σ H _ I h) fun v s1 zq=>?_);obtain⟨x,H1,I1,r1,q1⟩:=zq;obtain⟨c,rfl,q1⟩:=q1;cases r1;refine wpAny_truthy_bool ?_;cases c with
 | true=>exact hb pins s1 σ H1 Q I1 q1
 | false=>exact⟨.bl false,H1,I1,rfl,q1⟩
theorem ZlJ(ha:PE X a ta):PE X (.UnaryOp .Not a pos) (Zne ta):=by
 intro pins s σ H Q I h;refine UnaryOp_ (thn (ha pins s σ H _ I h) fun v s1 zq=>?_);obtain⟨x,H1,I1,r1,q1⟩:=zq;obtain⟨c,rfl,q1⟩:=q1;cases r1;exact not_of (wpAny_truthy_bool ⟨.bl (!c),H1,I1,rfl,q1⟩)
def tIf(t:TT)(ta tb:TE):TE:=fun σ H Q=>t σ H fun c H1=>if c=true then ta σ H1 Q else tb σ H1 Q
theorem ZhV{c:Expr}(hc:PT X c tA)(ha:PE X a ta)(hb:PE X b tb):PE X (.IfExp c a b pos) (tIf tA ta tb):=by
 intro pins s σ H Q I h;refine wpAny_IfExp (thn (hc pins s σ H _ I h) fun d s1 zq=>?_);obtain⟨H1,I1,q1⟩:=zq;cases d with
 | true=>exact ha pins s1 σ H1 Q I1 q1
 | false=>exact hb pins s1 σ H1 Q I1 q1
end
noncomputable def SqL(K:Frag)(H:Hp)(a:Addr)(xs:List V):Prop:=
 Rd H a (.lst xs) \/
  ∃(o:Obj) (its:Array Value) (n:Nat),K.lookup a=some o/\o.cls=.type "list"/\o.dict=none/\o.data=.seq its n/\its.size<=sizeLine/\Vals xs its.toList
noncomputable def SqT(K:Frag)(H:Hp)(a:Addr)(xs:List V):Prop:=
 Rd H a (.tup xs) \/
  ∃(o:Obj) (its:Array Value) (n:Nat),K.lookup a=some o/\o.cls=.type "tuple"/\o.dict=none/\o.data=.seq its n/\its.size<=sizeLine/\Vals xs its.toList
def Zo2:Value->Option V
 | .none=>some .non
 | .bool b=>some (.bl b)
 | .int i _=>some (.int i)
 | .str x _=>some (.str x)
 | .bytes b _=>some (.byt b)
 | .float b _=>some (.flt b)
 | .ref a=>some (.ref a)
 | .type n=>some (.ty n)
 | _=>none
theorem RelV.abs{x:V}{u:Value}(r:RelV x u):Zo2 u=some x:=by
 cases x with
 | non=>cases r;rfl
 | bl _=>cases r;rfl
 | int _=>obtain⟨t,rfl⟩:=r;rfl
 | str _=>obtain⟨t,rfl⟩:=r;rfl
 | byt _=>obtain⟨t,rfl⟩:=r;rfl
 | flt _=>obtain⟨t,rfl⟩:=r;rfl
 | ref _=>cases r;rfl
 | ty _=>cases r;rfl
theorem RelV.inj{x y:V}{u:Value}(r:RelV x u)(q:RelV y u):x=y:=Option.some.inj (r.abs.symm.trans q.abs)
theorem Vals.inj:∀{xs ys:List V} {us:List Value},Vals xs us->Vals ys us->xs=ys
 | _,_,_,.nil,.nil=>rfl
 | _,_,_,.cons r t,.cons r' t'=>by rw[r.inj r',Vals.inj t t']
section
variable{X:Cx}{pins:List (Addr×Obj)}{σ:St}{H:Hp}{s:Shared}{a:Addr}{xs ys:List V}
theorem SqL.of{K:Frag}(h:H a=some (.lst xs)):SqL K H a xs:=.inl (.inl h)
theorem SqT.of{K:Frag}(h:H a=some (.tup xs)):SqT K H a xs:=.inl (.inl h)
theorem Inv.list(I:Inv X pins σ H s)(h:SqL X.K H a xs):∃ its:List Value,Vals xs its/\PlainL s.heap a its.toArray/\xs.length<=sizeLine:=by
 rcases h with h | ⟨o,its,n,hk,hc,hd,hs,hz,r⟩
 ·obtain⟨z,its,n,r,e⟩:=h.ok I.hok;exact⟨its,r,⟨_,n,e,rfl,rfl,rfl⟩,z⟩
 ·refine⟨its.toList,r,⟨o,n,I.kIn a o hk,hc,hd,by simpa using hs⟩,?_⟩;have e:=r.length;simp only[Ba]at e;omega
theorem Inv.tupleD(I:Inv X pins σ H s)(h:SqT X.K H a xs):∃ its:List Value,Vals xs its/\TupD s.heap a its.toArray/\xs.length<=sizeLine:=by
 rcases h with h | ⟨o,its,n,hk,hc,hdd,hs,hz,r⟩
 ·obtain⟨z,its,r,p⟩:=h.ok I.hok;exact⟨its,r,p,z⟩
 ·refine⟨its.toList,r,⟨o,I.kIn a o hk,hc,hdd,n,by simpa using hs⟩,?_⟩;have e:=r.length;simp only[Ba]at e;omega
theorem Inv.tuple(I:Inv X pins σ H s)(h:SqT X.K H a xs):∃ its:List Value,Vals xs its/\IsTup s.heap a its.toArray/\xs.length<=sizeLine:=by
 obtain⟨its,r,p,z⟩:=I.tupleD h;exact⟨its,r,p.tup,z⟩
theorem Inv.list_inj(I:Inv X pins σ H s)(h:SqL X.K H a xs)(h':SqL X.K H a ys):xs=ys:=by
 obtain⟨its,r,⟨o,n,e,_,_,d⟩,_⟩:=I.list h;obtain⟨its',r',⟨o',n',e',_,_,d'⟩,_⟩:=I.list h';rw[e]at e';cases e';rw[d]at d';injection d' with d1 _;have:its=its':=by simpa using congrArg Array.toList d1
 subst this;exact r.inj r'
theorem Inv.tuple_inj(I:Inv X pins σ H s)(h:SqT X.K H a xs)(h':SqT X.K H a ys):xs=ys:=by
 obtain⟨its,r,⟨o,e,_,n,d⟩,_⟩:=I.tuple h;obtain⟨its',r',⟨o',e',_,n',d'⟩,_⟩:=I.tuple h';rw[e]at e';cases e';rw[d]at d';injection d' with d1 _;have:its=its':=by simpa using congrArg Array.toList d1
 subst this;exact r.inj r'
end
abbrev Cx.wish(X:Cx)(E:Value->Shared->Prop):Cx:={X with xe:=E}
abbrev Cx.nox(X:Cx):Cx:=X.wish fun _ _=>False
theorem Cx.Ok.wish{X:Cx}(ok:X.Ok)(E:Value->Shared->Prop):(X.wish E).Ok:=
 ⟨ok.mod,ok.kind,ok.glob,ok.blt,ok.above,ok.inj,ok.has,ok.cab,ok.hd,ok.frames,ok.stk,ok.exf,ok.bs,ok.bsz,ok.noex,ok.exfs,ok.funs,ok.frf⟩
theorem Cx.Ok.unwish{X:Cx}{E:Value->Shared->Prop}(ok:(X.wish E).Ok):X.Ok:=
 ⟨ok.mod,ok.kind,ok.glob,ok.blt,ok.above,ok.inj,ok.has,ok.cab,ok.hd,ok.frames,ok.stk,ok.exf,ok.bs,ok.bsz,ok.noex,ok.exfs,ok.funs,ok.frf⟩
section
variable{X:Cx}{pins:List (Addr×Obj)}{σ:St}{H:Hp}{s:Shared}{E:Value->Shared->Prop}
theorem Inv.wish(I:Inv X pins σ H s)(E:Value->Shared->Prop):Inv (X.wish E) pins σ H s:=⟨I.ok.wish E,I.os,I.bare,I.base,I.loc,I.cell,I.free,I.freeC,I.pin,I.hok,I.len⟩
theorem Inv.unwish(I:Inv (X.wish E) pins σ H s):Inv X pins σ H s:=⟨I.ok.unwish,I.os,I.bare,I.base,I.loc,I.cell,I.free,I.freeC,I.pin,I.hok,I.len⟩
theorem SP.unwish{D:Zjo}{f:Flow}{s':Shared}(h:SP (X.wish E) pins D f s'):SP X pins D f s':=by
 cases f with
 | next=>obtain⟨σ',H',I,q⟩:=h;exact⟨σ',H',I.unwish,q⟩
 | brk=>obtain⟨σ',H',I,q⟩:=h;exact⟨σ',H',I.unwish,q⟩
 | cont=>obtain⟨σ',H',I,q⟩:=h;exact⟨σ',H',I.unwish,q⟩
 | ret u=>obtain⟨v,σ',H',I,r,q⟩:=h;exact⟨v,σ',H',I.unwish,r,q⟩
theorem PSs.nox{st:List Stmt}{t:TS}(h:PSs X.nox st t):PSs X st t:=fun pins s σ H D I hw=>
 wpAny_mono (h pins s σ H D (I.wish _) hw) (fun _ _ q=>q.unwish) fun _ _ z=>False.elim z
end
section
variable{X:Cx}{st:Stmt}{rest:List Stmt}{t u:TS}{e:Expr}{te:TE}{pos:Pos}
def Znf:TS:=fun D σ H=>D.nx σ H
def Zoq(t u:TS):TS:=fun D σ H=>t {D with nx:=u D} σ H
theorem ZjR:PSs X [] Znf:=fun _ _ σ H _ I h=>wpAny_execs_nil ⟨σ,H,I,h⟩
theorem ZhQ(h1:PS X st t)(h2:PSs X rest u):PSs X (st::rest) (Zoq t u):=by
 intro pins s σ H D I h;refine wpAny_execs_cons (thn (h1 pins s σ H {D with nx:=u D} I h) fun f s1 q=>?_);cases f with
 | next=>
  obtain⟨σ',H',I',q⟩:=q;exact h2 pins s1 σ' H' D I' q
 | ret v=>exact q
 | brk=>exact q
 | cont=>exact q
theorem ZjQ(h1:PS X st t):PSs X [st] t:=by
 intro pins s σ H D I h;refine wpAny_execs_cons (thn (h1 pins s σ H D I h) fun f s1 q=>?_);cases f with
 | next=>exact wpAny_execs_nil q
 | ret v=>exact q
 | brk=>exact q
 | cont=>exact q
theorem Inv.quiet{pins:List (Addr×Obj)}{σ:St}{H:Hp}{s:Shared}(I:Inv X pins σ H s):interactive X.env=false:=by simp[interactive,I.ok.kind]
def Znh(te:TE):TS:=fun D σ H=>te σ H fun _ H1=>D.nx σ H1
theorem ZfG(he:PE X e te)(hs:swapsWith e none pos.line X.env=pure false:=by rfl):PS X (.Expr e pos) (Znh te):=by
 intro pins s σ H D I h;exact wpAny_Expr_any (thn (he pins s σ H _ I h) fun v s1 ⟨x,H1,I1,r1,q1⟩=>⟨σ,H1,I1,q1⟩) I.quiet hs
def Zor(te:TE):TS:=fun D σ H=>te σ H D.rt
theorem Zlz(he:PE X e te):PS X (.Return (some e) pos) (Zor te):=by
 intro pins s σ H D I h;exact wpAny_Return_some (thn (he pins s σ H _ I h) fun v s1 ⟨x,H1,I1,r1,q1⟩=>⟨x,σ,H1,I1,r1,q1⟩)
def Zov(c:TT)(t u:TS):TS:=fun D σ H=>c σ H fun b H1=>if b=true then t D σ H1 else u D σ H1
theorem Znq{c:Expr}{a b:List Stmt}{tc:TT}(hc:PT X c tc)(ha:PSs X a t)(hb:PSs X b u):PS X (.If c a b pos) (Zov tc t u):=by
 intro pins s σ H D I h;refine wpAny_If (thn (hc pins s σ H _ I h) fun d s1 zq=>?_);obtain⟨H1,I1,q1⟩:=zq;cases d with
 | true=>exact ha pins s1 σ H1 D I1 q1
 | false=>exact hb pins s1 σ H1 D I1 q1
end
abbrev TG:=V->St->Hp->(St->Hp->Prop)->Prop
abbrev TGs:=List V->St->Hp->(St->Hp->Prop)->Prop
def PG(X:Cx)(target:Expr)(t:TG):Prop:=
 ∀(pins:List (Addr×Obj)) (s:Shared) (σ:St) (H:Hp) (v:V) (u:Value) (Q:St->Hp->Prop),Inv X pins σ H s->RelV v u->t v σ H Q ->
  wpAny (model X.prog X.w) X.A (assign target X.env u) (fun _ s'=>∃ σ' H',Inv X pins σ' H' s'/\Q σ' H') X.xe s
def PGs(X:Cx)(ts:List Expr)(t:TGs):Prop:=
 ∀(pins:List (Addr×Obj)) (s:Shared) (σ:St) (H:Hp) (vs:List V) (us:List Value) (Q:St->Hp->Prop),Inv X pins σ H s->Vals vs us->t vs σ H Q ->
  wpAny (model X.prog X.w) X.A (assignInOrder ((assignEach ts X.env).map (·.2)) us) (fun _ s'=>∃ σ' H',Inv X pins σ' H' s'/\Q σ' H') X.xe s
abbrev TSet:=V->V->V->Hp->(Hp->Prop)->Prop
abbrev TIp:=V->V->Hp->VK->Prop
def PIp(X:Cx)(op:Operator)(t:TIp):Prop:=
 ∀(pins:List (Addr×Obj)) (s:Shared) (σ:St) (H:Hp) (x y:V) (v u:Value) (Q:VK),Inv X pins σ H s->RelV x v->RelV y u->t x y H Q ->
  wpAny (model X.prog X.w) X.A (inplaceOp op v u) (EP X pins σ Q) X.xe s
section
variable{X:Cx}{pos:Pos}
def Zmu(i:Nat):TG:=fun v σ H Q=>Q (σ.set i (some v)) H
theorem Zcp{i:Nat}{x:Str}(hN:X.N.Nodup)(hi:X.N[i]?=some x)(hx:Loc X.env.scope x)(hf:X.fn x=true\/X.env.scope.names.lookup x=some .local:=by first | exact .inl rfl | exact .inr rfl | assumption):PG X (.Name x pos) (Zmu i):=by
 intro pins s σ H v u Q I r h;exact wpAny_assign_Name (Vw I hN hi hx r (fun s' I'=>⟨_,H,I',h⟩) hf)
def ZoX:TGs:=fun vs σ H Q=>vs=[]/\Q σ H
def ZnI(t:TG)(u:TGs):TGs:=fun vs σ H Q=>∃ v r,vs=v::r/\t v σ H fun σ' H'=>u r σ' H' Q
theorem ZjV:PGs X [] ZoX:=by
 intro pins s σ H vs us Q I r h;obtain⟨e,h⟩:=h;subst e;cases r;exact assignInOrder_nil ⟨σ,H,I,h⟩
theorem Zdu{e:Expr}{es:List Expr}{t:TG}{u:TGs}(h1:PG X e t)(h2:PGs X es u)
  (hs:(assignEach (e::es) X.env).map (·.2)=assign e X.env::(assignEach es X.env).map (·.2):=by rfl):PGs X (e::es) (ZnI t u):=by
 intro pins s σ H vs us Q I r h;obtain⟨v,vr,e1,h⟩:=h;subst e1;cases r with
 | cons r rr=>
  rw[hs];refine assignInOrder_cons (thn (h1 pins s σ H _ _ _ I r h) fun _ s1 zq=>?_);obtain⟨σ1,H1,I1,q1⟩:=zq;exact h2 pins s1 σ1 H1 _ _ Q I1 rr q1
def ZoW(K:Frag)(n:Nat)(t:TGs):TG:=fun v σ H Q=>∃ a xs,v=.ref a/\SqT K H a xs/\xs.length=n/\t xs σ H Q
theorem ZlD{es:List Expr}{k:Nat}{t:TGs}{n:Nat}(hc:X.calm=true)(h:PGs X es t)
  (hn:(assignEach es X.env).length=n:=by rfl)(hst:(assignEach es X.env).findIdx? (·.1)=none:=by rfl):PG X (.Tuple es k pos) (ZoW X.K n t):=by
 intro pins s σ H v u Q I r hw;obtain⟨a,xs,e1,hq,hl,hw⟩:=hw;subst e1;cases r;obtain⟨its,rv,ht,hz⟩:=I.tuple hq;refine assign_Tuple_tuple (I.ok.hd hc) ht (by simp[hn,<-hl,rv.length]) hst fun h' hx=>?_;have I1:Inv X pins σ H {s with heap:=h'}:=I.kept (t':=s.toks) fun b o e=>hx b o (Am (Heap.lt_size e)) e;exact h pins _ σ H xs _ Q I1 (by simpa using rv) hw
def Zoy(te:TE)(g:TG):TS:=fun D σ H=>te σ H fun x H1=>g x σ H1 D.nx
theorem ZfF{i:Nat}{x:Str}{e:Expr}{te:TE}{pos':Pos}(hN:X.N.Nodup)(hi:X.N[i]?=some x)(hx:Loc X.env.scope x)(he:PE X e te)(hs:swapsWith e (some (.Name x pos')) pos.line X.env=pure false:=by rfl)(hf:X.fn x=true\/X.env.scope.names.lookup x=some .local:=by first | exact .inl rfl | exact .inr rfl | assumption):
  PS X (.Assign [.Name x pos'] e pos) (Zoy te (Zmu i)):=by
 intro pins s σ H D I h;refine wpAny_Assign_Name (thn (he pins s σ H _ I h) fun v s1 zq=>?_) hs;obtain⟨y,H1,I1,r1,q1⟩:=zq;exact Vw I1 hN hi hx r1 (fun s2 I2=>⟨_,H1,I2,q1⟩) hf
def Zox(i:Nat)(te:TE)(ti:TIp):TS:=fun D σ H=>∃ x,σ[i]?=some (some x)/\te σ H fun y H1=>ti x y H1 fun z H2=>D.nx (σ.set i (some z)) H2
theorem ZlB{i:Nat}{x:Str}{e:Expr}{te:TE}{op:Operator}{ti:TIp}{pos':Pos}(hN:X.N.Nodup)(hi:X.N[i]?=some x)(hx:Loc X.env.scope x)(he:PE X e te)(ho:PIp X op ti)(hf:X.fn x=true\/X.env.scope.names.lookup x=some .local:=by first | exact .inl rfl | exact .inr rfl | assumption):
  PS X (.AugAssign (.Name x pos') op e pos) (Zox i te ti):=by
 intro pins s σ H D I h;obtain⟨v,e1,h⟩:=h;obtain⟨m,hn,hl⟩:=I.loc;have vis:Vis X.env.scope x:=by rcases hx with k | k;exact .inl k;exact .inr (.inl k)
 obtain⟨u,r,l⟩:=hl i x v hi e1 vis;refine wpAny_AugAssign_Name ?_;have go:wpAny (model X.prog X.w) X.A (eval e X.env) (fun w s₂=>wpAny (model X.prog X.w) X.A (inplaceOp op u w) (fun r s₃=>wpAny (model X.prog X.w) X.A (storeName X.env x r) (fun _=>SP X pins D .next) X.xe s₃) X.xe s₂) X.xe s:=by
  refine thn (he pins s σ H _ I h) fun w s1 zq=>?_;obtain⟨y,H1,I1,r1,q1⟩:=zq;refine thn (ho pins s1 σ H1 v y u w _ I1 r r1 q1) fun z s2 zq=>?_;obtain⟨zv,H2,I2,r2,q2⟩:=zq;exact Vw I2 hN hi hx r2 (fun s3 I3=>⟨_,H2,I3,q2⟩) hf
 rcases l with⟨hk,hm⟩ | ⟨hk,c,hc,hcell⟩
 ·exact wpAny_loadName_local I.ok.kind hk hn hm go
 ·rcases hk with hk | hk
  ·exact wpAny_loadName_cell I.ok.kind hk hc hcell go
  ·rcases hx with k | k
   ·have:X.env.scope.names.lookup x=some .free:=hk;rw[k]at this;cases this
   ·have:X.env.scope.names.lookup x=some .free:=hk;rw[k]at this;cases this
def ipI(f:Int->Int->Int):TIp:=fun x y H Q=>∃ i j,x=.int i/\y=.int j/\Q (.int (f i j)) H
theorem Zmq:PIp X .Add (ipI fun i j=>i+j):=by
 intro pins s σ H x y v u Q I r1 r2 h;obtain⟨i,j,e1,e2,q⟩:=h;subst e1;subst e2;obtain⟨t,rfl⟩:=r1;obtain⟨t',rfl⟩:=r2;exact iadd_int ⟨.int _,H,I.tok _,⟨_,rfl⟩,q⟩
end
section
variable{X:Cx}{pos:Pos}
def Zk9(c:TT)(tb:TS):TS:=fun D σ H=>∃ W:Nat->St->Hp->Prop,(∃ m,W m σ H)/\∀ m σ H,W m σ H ->
 c σ H fun b H1=>if b=true then ∃ N:St->Hp->Prop,(∀ σ' H',N σ' H'->∃ m',m'<m/\W m' σ' H')/\tb {D with nx:=N,ct:=N,bk:=D.nx} σ H1 else D.nx σ H1
theorem ZhR{c:Expr}{body:List Stmt}{tc:TT}{tb:TS}(hp:PassesOwn (model X.prog X.w) X.A X.env X.xe)(hc:PT X c tc)(hb:PSs X body tb):PS X (.While c body [] pos) (Zk9 tc tb):=by
 intro pins s σ H D I h;obtain⟨W,⟨m0,w0⟩,turn⟩:=h;refine wpAny_While (codeAny_whileLoop (fun n s'=>∃ σ' H',Inv X pins σ' H' s'/\W n σ' H') ?_ m0 ⟨σ,H,I,w0⟩);rintro n s1 ⟨σ1,H1,I1,w1⟩;refine wpAny_passesOwn hp (thn (hc pins s1 σ1 H1 _ I1 (turn n σ1 H1 w1)) fun b s2 zq=>?_);obtain⟨H2,I2,q2⟩:=zq;cases b with
 | true=>
  obtain⟨N,hN,q2⟩:=q2;rw[if_pos rfl];refine wpAny_passesOwn hp (thn (hb pins s2 σ1 H2 _ I2 q2) fun f s3 q3=>?_);cases f with
  | next=>
   obtain⟨σ3,H3,I3,n3⟩:=q3;obtain⟨m',hm,w3⟩:=hN σ3 H3 n3;exact⟨m',hm,σ3,H3,I3,w3⟩
  | cont=>
   obtain⟨σ3,H3,I3,n3⟩:=q3;obtain⟨m',hm,w3⟩:=hN σ3 H3 n3;exact⟨m',hm,σ3,H3,I3,w3⟩
  | brk=>exact q3
  | ret v=>exact q3
 | false=>
  rw[if_neg Bv];exact wpAny_execs_nil ⟨σ1,H2,I2,q2⟩
end
structure It where
 go:Nat->Hp->Prop
 yld:Nat->Hp->V->Hp->Prop
 stop:Nat->Hp->Prop
def Zcc(X:Cx)(pins:List (Addr×Obj))(H:Hp)(b:Addr):Prop:=
 H b=none/\b≠X.env.locals/\b ∉ X.fs/\(b∈X.ex\/X.s₀.heap.objs.size<=b)/\(∀ x c,X.env.cells.lookup x=some c->c≠b)/\∀ p∈X.pn++pins,p.1≠b
theorem Inv.fpOk{X:Cx}{pins:List (Addr×Obj)}{σ:St}{H H':Hp}{s:Shared}{b:Addr}(I:Inv X pins σ H s)(hb:s.heap.objs.size<=b)(hn:H' b=none):Zcc X pins H' b:=by
 refine⟨hn,Nat.ne_of_gt (Aj I.lt hb),I.nofs hb,.inr (Ax I.sz hb),fun x c e z=>?_,fun p hp z=>?_⟩
 ·obtain⟨v,q⟩:=I.cell x c e;exact absurd (Aj q.lt (by rw[z];exact hb)) (aq _)
 ·exact absurd (Aj (Heap.lt_size (I.pin p hp).1) (by rw[z];exact hb)) (aq _)
structure Zjj(P:Program)(w:World)(K:Frag)(tg:Expr)(J:It)(fp:List Addr)(it:Addr)(tn:Nat->Heap->Prop):Prop where
 mem:it∈fp
 obj:∀ i h,tn i h->∀ b∈fp,∃ o,h.get? b=some o/\∀ v,o.data≠.cell v
 keep:∀ i h h',tn i h->(∀ b∈fp,∀ o,h.get? b=some o->h'.get? b=some o)->tn i h'
 item:∀(X:Cx),X.prog=P->X.w=w->X.K=K->X.calm=true->∀(i:Nat) (pins:List (Addr×Obj)) (s:Shared) (σ:St) (H:Hp) (E:Value->Shared->Prop),Inv X pins σ H s->(∀ b∈fp,Zcc X pins H b)->tn i s.heap->J.go i H ->
  wpAny (model P w) X.A (pyNext (.ref it)) (fun r s1=>∃ u,r=some u /\
   wpAny (model P w) X.A (letOwnedTupleGo tg (.ref it) u) (fun _ s2=>∃ x H',Inv X pins σ H' s2/\RelV x u/\J.yld i H x H'/\tn (i+1) s2.heap/\∀ b∈fp,H' b=none) E s1) E s
 done:∀(X:Cx),X.prog=P->X.w=w->X.K=K->X.calm=true->∀(i:Nat) (pins:List (Addr×Obj)) (s:Shared) (σ:St) (H:Hp) (E:Value->Shared->Prop),Inv X pins σ H s->(∀ b∈fp,Zcc X pins H b)->tn i s.heap->J.stop i H ->
  wpAny (model P w) X.A (pyNext (.ref it)) (fun r s1=>r=none/\Inv X pins σ H s1) E s
 self:∀(A:Around) (i:Nat) (s:Shared) (Q:Value->Shared->Prop) (E:Value->Shared->Prop),tn i s.heap->Q (.ref it) s->wpAny (model P w) A (pyIter (.ref it)) Q E s
abbrev TI:=St->Hp->(It->Hp->Prop)->Prop
def PIE(X:Cx)(pins:List (Addr×Obj))(σ:St)(tg:Expr)(R:It->Hp->Prop)(itv:Value)(s2:Shared):Prop:=
 ∃(it:Addr) (fp:List Addr) (tn:Nat->Heap->Prop) (J:It) (H':Hp),itv=.ref it/\Inv X pins σ H' s2/\Zjj X.prog X.w X.K tg J fp it tn/\tn 0 s2.heap/\(∀ b∈fp,Zcc X pins H' b)/\R J H'
def PI(X:Cx)(tg iter:Expr)(wi:TI):Prop:=
 ∀(pins:List (Addr×Obj)) (s:Shared) (σ:St) (H:Hp) (R:It->Hp->Prop),Inv X pins σ H s->wi σ H R ->
  wpAny (model X.prog X.w) X.A (eval iter X.env) (fun v s1=>wpAny (model X.prog X.w) X.A (pyIter v) (PIE X pins σ tg R) X.xe s1) X.xe s
theorem Zkp {M : Model} {A : Around} {E : Value -> Shared -> Prop} {s : Shared} {tg : Expr} {it : Addr} {u : Value} {o : Obj} {n : String} {vs : Array Value} {Q : Unit -> Shared -> Prop} (ho : s.heap.get? it = some o) (hc : o.cls = .type n) (hd : o.data = .fields vs)
    (hn : ["enumerate", "zip", "dict_itemiterator", "dict_reverseitemiterator", "odict_iterator", "itertools.zip_longest", "itertools.pairwise"].contains n = false) (hQ : Q () s) : wpAny M A (letOwnedTupleGo tg (.ref it) u) Q E s := by
  unfold letOwnedTupleGo
  cases tg <;> first
    | exact wpAny_pure hQ
    | (cases u <;> first
        | exact wpAny_pure hQ
        | (refine wpAny_bind (wpAny_load ho ?_)
           rw [hc, hd]
           show wpAny M A (if (["enumerate", "zip", "dict_itemiterator", "dict_reverseitemiterator", "odict_iterator", "itertools.zip_longest", "itertools.pairwise"].contains n && vs[0]? == some (rawInt _)) = true then _ else _) Q E s
           rw [if_neg (by intro h; rw [hn, Bool.false_and] at h; cases h)]
           exact wpAny_pure hQ))
def Itl(K:Frag)(a:Addr):It:=
 ⟨fun i H=>∃ xs x,SqL K H a xs/\xs[i]?=some x,fun i H x H'=>H'=H/\∀ xs,SqL K H a xs->xs[i]?=some x,fun i H=>∃ xs,SqL K H a xs/\xs.length<=i⟩
def Itt(K:Frag)(a:Addr):It:=
 ⟨fun i H=>∃ xs x,SqT K H a xs/\xs[i]?=some x,fun i H x H'=>H'=H/\∀ xs,SqT K H a xs->xs[i]?=some x,fun i H=>∃ xs,SqT K H a xs/\xs.length<=i⟩
def Itr(lo:Int)(n:Nat):It:=⟨fun i _=>i<n,fun i H x H'=>H'=H/\x=.int (lo+i),fun i _=>n<=i⟩
theorem Ze9{P:Program}{w:World}{K:Frag}{tg:Expr}(a it:Addr):Zjj P w K tg (Itl K a) [it] it (fun i h=>h.IsListIter it a i) where
 mem:=by simp
 obj:=fun i h st b hb=>by
  have e:b=it:=by simpa using hb
  subst e;obtain⟨o,e,c,d⟩:=st;exact⟨o,e,fun v z=>by rw[d]at z;cases z⟩
 keep:=fun i h h' st k=>st.at fun o e=>k it (by simp) o e
 item:=by
  intro X hP hw hK hc i pins s σ H E I hf st hg;subst hP hw hK;obtain⟨xs,x,hq,hx⟩:=hg;obtain⟨its,rv,p,hz⟩:=I.list hq;obtain⟨u,hu,ru⟩:=rv.get hx;obtain⟨f0,f1,f2,f3,f4,f5⟩:=hf it (by simp);refine wpAny_pyNext_list_item st p.isList (x:=u) (by simpa using hu) fun h' st' sb=>?_;have I1:Inv X pins σ H {s with heap:=h'}:=I.turned (t':=s.toks) (fun b o hb e=>(sb.2 b hb).trans e) f0 f1 f3 f4 f5;obtain⟨o,e,c,d⟩:=id st';exact⟨u,rfl,Zkp (s:={s with heap:=h'}) e c d (by decide) ⟨x,H,I1,ru,⟨rfl,fun ys hy=>by rw[I.list_inj hy hq];exact hx⟩,st',fun b hb=>(hf b hb).1⟩⟩
 done:=by
  intro X hP hw hK hc i pins s σ H E I hf st hg;subst hP hw hK;obtain⟨xs,hq,hx⟩:=hg;obtain⟨its,rv,p,hz⟩:=I.list hq;obtain⟨f0,f1,f2,f3,f4,f5⟩:=hf it (by simp);have hl:=rv.length;exact wpAny_pyNext_list_end (I.ok.hd hc) st p.isList (by simp;omega) fun h' eb=>⟨rfl,I.turned (t':=s.toks) (fun b o hb e=>eb b o hb e) f0 f1 f3 f4 f5⟩
 self:=fun _ _ _ _ _ st h=>wpAny_pyIter_listiter st h
theorem Zd8{P:Program}{w:World}{K:Frag}{tg:Expr}(a it:Addr):Zjj P w K tg (Itt K a) [it] it (fun i h=>h.IsTupleIter it a i) where
 mem:=by simp
 obj:=fun i h st b hb=>by
  have e:b=it:=by simpa using hb
  subst e;obtain⟨o,e,c,d⟩:=st;exact⟨o,e,fun v z=>by rw[d]at z;cases z⟩
 keep:=fun i h h' st k=>st.at fun o e=>k it (by simp) o e
 item:=by
  intro X hP hw hK hc i pins s σ H E I hf st hg;subst hP hw hK;obtain⟨xs,x,hq,hx⟩:=hg;obtain⟨its,rv,p,hz⟩:=I.tuple hq;obtain⟨u,hu,ru⟩:=rv.get hx;obtain⟨f0,f1,f2,f3,f4,f5⟩:=hf it (by simp);refine wpAny_pyNext_tuple_item st (show s.heap.IsTuple a its.toArray from p) (x:=u) (by simpa using hu) fun h' st' sb=>?_;have I1:Inv X pins σ H {s with heap:=h'}:=I.turned (t':=s.toks) (fun b o hb e=>(sb.2 b hb).trans e) f0 f1 f3 f4 f5;obtain⟨o,e,c,d⟩:=id st';exact⟨u,rfl,Zkp (s:={s with heap:=h'}) e c d (by decide) ⟨x,H,I1,ru,⟨rfl,fun ys hy=>by rw[I.tuple_inj hy hq];exact hx⟩,st',fun b hb=>(hf b hb).1⟩⟩
 done:=by
  intro X hP hw hK hc i pins s σ H E I hf st hg;subst hP hw hK;obtain⟨xs,hq,hx⟩:=hg;obtain⟨its,rv,p,hz⟩:=I.tuple hq;obtain⟨f0,f1,f2,f3,f4,f5⟩:=hf it (by simp);have hl:=rv.length;exact wpAny_pyNext_tuple_end (I.ok.hd hc) st (show s.heap.IsTuple a its.toArray from p) (by simp;omega) fun h' eb=>⟨rfl,I.turned (t':=s.toks) (fun b o hb e=>eb b o hb e) f0 f1 f3 f4 f5⟩
 self:=fun _ _ _ _ _ st h=>wpAny_pyIter_tupleiter st h
theorem Zd9{P:Program}{w:World}{K:Frag}{tg:Expr}(it:Addr)(lo:Int)(n:Nat):Zjj P w K tg (Itr lo n) [it] it (fun i h=>IsRangeIter h it (lo+(i:Nat)*1) ((n:Int)-(i:Nat)) 1) where
 mem:=by simp
 obj:=fun i h st b hb=>by
  have e:b=it:=by simpa using hb
  subst e;exact⟨_,st,fun v z=>by
   have z':Data.fields _=Data.cell v:=z;cases z'⟩
 keep:=fun i h h' st k=>k it (by simp) _ st
 item:=by
  intro X hP hw hK hc i pins s σ H E I hf st hg;subst hP hw hK;obtain⟨f0,f1,f2,f3,f4,f5⟩:=hf it (by simp);have W:=Walks.range (prog:=X.prog) (w:=X.w) (I.ok.hd hc) it lo 1 n;refine W.item i s _ _ hg st fun v h' tk hv st' kk=>?_;obtain⟨t,rfl⟩:=hv;have I1:Inv X pins σ H {s with heap:=h',toks:=tk}:=I.turned (fun b o hb e=>kk b o (by simpa using hb) e) f0 f1 f3 f4 f5;refine⟨_,rfl,Zkp (s:={s with heap:=h',toks:=tk}) (n:="range_iterator") st' rfl rfl (by decide) ⟨.int (lo+i),H,I1,⟨t,?_⟩,⟨rfl,rfl⟩,st',fun b hb=>(hf b hb).1⟩⟩;rw[Int.mul_one]
 done:=by
  intro X hP hw hK hc i pins s σ H E I hf st hg;subst hP hw hK;obtain⟨f0,f1,f2,f3,f4,f5⟩:=hf it (by simp);exact wpAny_pyNext_range_end (I.ok.hd hc) st (by have:n<=i:=hg;omega) fun h' eb=>⟨rfl,I.turned (t':=s.toks) (fun b o hb e=>eb b o hb e) f0 f1 f3 f4 f5⟩
 self:=fun _ _ _ _ _ st h=>wpAny_pyIter_rangeiter st h
section
variable{X:Cx}{tg:Expr}
theorem Zds{pins:List (Addr×Obj)}{σ:St}{H:Hp}{s:Shared}{R:It->Hp->Prop}{E:Value->Shared->Prop}{lo hi:Int}{t u v:Tok}{tk:Nat}(I:Inv X pins σ H s)(h1:-(2 ^ 62)<=lo)(h2:lo<2 ^ 62)(h3:-(2 ^ 62)<=hi)(h4:hi<2 ^ 62)
  (q:R (Itr lo (hi-lo).toNat) H):wpAny (model X.prog X.w) X.A (pyIter (.ref s.heap.objs.size)) (PIE X pins σ tg R) E {s with heap:=s.heap.push {cls:=.type "range",data:=.fields #[.int lo t,.int hi u,.int 1 v]},toks:=tk}:=by
 refine wpAny_pyIter_range (IsRange.new ..) (small_one h1 h2 h3 h4) ?_;have I1:Inv X pins σ H {s with heap:=s.heap.push {cls:=.type "range",data:=.fields #[.int lo t,.int hi u,.int 1 v]},toks:=tk}:=I.kept fun b o e=>Heap.get?_push_of_some _ e;refine⟨(s.heap.push {cls:=.type "range",data:=.fields #[.int lo t,.int hi u,.int 1 v]}).objs.size,[(s.heap.push {cls:=.type "range",data:=.fields #[.int lo t,.int hi u,.int 1 v]}).objs.size],_,_,H,rfl,
  I1.kept (t':=tk) fun b o e=>Heap.get?_push_of_some _ e,Zd9 _ lo (hi-lo).toNat,?_,fun b hb=>?_,q⟩
 ·have e1:lo+((0:Nat):Int)*1=lo:=by simp
  have e2:(((hi-lo).toNat:Nat):Int)-((0:Nat):Int)=Builtin.Range.rangeSize lo hi 1:=by rw[rangeSize_one];split<;>omega
  show IsRangeIter _ _ (lo+((0:Nat):Int)*1) ((((hi-lo).toNat:Nat):Int)-((0:Nat):Int)) 1;rw[e1,e2];exact Heap.get?_push_size _ rfl
 ·have e:b=(s.heap.push {cls:=.type "range",data:=.fields #[.int lo t,.int hi u,.int 1 v]}).objs.size:=by simpa using hb
  subst e;exact I1.fpOk (A7 _) (I1.hok.fresh (A7 _))
def ZnG(ta:TA):TI:=fun σ H R=>ta σ H fun vs H1=>∃ j:Int,vs=[.int j]/\-(2 ^ 62)<=j/\j<2 ^ 62/\R (Itr 0 j.toNat) H1
def ZnF(ta:TA):TI:=fun σ H R=>ta σ H fun vs H1=>∃ i j:Int,vs=[.int i,.int j]/\(-(2 ^ 62)<=i/\i<2 ^ 62/\-(2 ^ 62)<=j/\j<2 ^ 62)/\R (Itr i (j-i).toNat) H1
theorem ZfN{a:Expr}{ta:TA}{p pos:Pos}(hg:Gl X "range")(hm:X.mg "range"=none)(ha:PA X [a] ta)(hs:starEach [a] X.env=[(false,eval a X.env)]:=by rfl):PI X tg (.Call (.Name "range" p) [a] [] pos) (ZnG ta):=by
 intro pins s σ H R I h;refine Call_ (Jg I hg hm boot_range (Bl (thn (ha pos pins s σ H _ I h) fun us s1 zq=>?_) hs rfl));obtain⟨vs,H1,I1,r1,q1⟩:=zq;obtain⟨j,e,q1,q2,q⟩:=q1;subst e;cases r1 with
 | cons r rr=>
  cases rr;obtain⟨t,rfl⟩:=r;exact call_range_1 (Zds I1 (by omega) (by omega) q1 q2 (by simpa using q))
theorem ZfM{a b:Expr}{ta:TA}{p pos:Pos}(hg:Gl X "range")(hm:X.mg "range"=none)(ha:PA X [a,b] ta)(hs:starEach [a,b] X.env=[(false,eval a X.env),(false,eval b X.env)]:=by rfl)(hs2:starEach [b] X.env=[(false,eval b X.env)]:=by rfl):
  PI X tg (.Call (.Name "range" p) [a,b] [] pos) (ZnF ta):=by
 intro pins s σ H R I h;refine Call_ (Jg I hg hm boot_range (Bl (thn (ha pos pins s σ H _ I h) fun us s1 zq=>?_) (by rw[hs,hs2]) (by rw[hs2];rfl)));obtain⟨vs,H1,I1,r1,q1⟩:=zq;obtain⟨i,j,e,⟨q1,q2,q3,q4⟩,q⟩:=q1;subst e;cases r1 with
 | cons r rr=>
  cases rr with
  | cons r' rr=>
   cases rr;obtain⟨t,rfl⟩:=r;obtain⟨t',rfl⟩:=r';exact call_range_2 (Zds I1 q1 q2 q3 q4 q)
def Zow(wi:TI)(g:TG)(tb:TS):TS:=fun D σ H=>wi σ H fun J H1=>∃ W:Nat->Nat->St->Hp->Prop,(∃ m,W 0 m σ H1)/\∀ i m σ H,W i m σ H ->
 (J.stop i H/\D.nx σ H)\/(J.go i H/\∃ N:St->Hp->Prop,(∀ σ' H',N σ' H'->∃ m',m'<m/\W (i+1) m' σ' H')/\∀ x H',J.yld i H x H'->g x σ H' fun σ2 H2=>tb {D with nx:=N,ct:=N,bk:=D.nx} σ2 H2)
def Zbg(fp:List Addr)(h:Heap):List (Addr×Obj):=fp.filterMap fun b=>(h.get? b).map fun o=>(b,o)
theorem JL{fp:List Addr}{h:Heap}{b:Addr}{o:Obj}(hb:b∈fp)(e:h.get? b=some o):(b,o)∈Zbg fp h:=List.mem_filterMap.mpr ⟨b,hb,by rw[e];rfl⟩
theorem ZfX{fp:List Addr}{h:Heap}{p:Addr×Obj}(hp:p∈Zbg fp h):p.1∈fp/\h.get? p.1=some p.2:=by
 obtain⟨b,hb,e⟩:=List.mem_filterMap.mp hp;cases q:h.get? b with
 | none=>rw[q]at e;cases e
 | some o=>
  rw[q]at e;have e':(b,o)=p:=Option.some.inj e;subst e';exact⟨hb,q⟩
theorem Inv.pinned{pins:List (Addr×Obj)}{σ:St}{H:Hp}{s:Shared}{fp:List Addr}(I:Inv X pins σ H s)(hf:∀ b∈fp,Zcc X pins H b)(ho:∀ b∈fp,∃ o,s.heap.get? b=some o/\∀ v,o.data≠.cell v):Inv X (pins++Zbg fp s.heap) σ H s:=
 I.pins_of fun p hp=>(Bk.mp hp).elim (fun z=>I.pin p (az _ z)) fun z=>by
  obtain⟨hb,e⟩:=ZfX z;obtain⟨f0,f1,f2,_⟩:=hf p.1 hb;obtain⟨o,e',d⟩:=ho p.1 hb;rw[e]at e';cases e';exact⟨e,f0,f1,f2,d⟩
theorem Inv.unpinned{pins pl:List (Addr×Obj)}{σ:St}{H:Hp}{s:Shared}(I:Inv X (pins++pl) σ H s):Inv X pins σ H s:=I.pins_of fun p hp=>I.pin p (az _ (bv _ hp))
theorem ZlA{iter:Expr}{body:List Stmt}{wi:TI}{g:TG}{tb:TS}{pos:Pos}(hp:PassesOwn (model X.prog X.w) X.A X.env X.xe)(hc:X.calm=true)(hi:PI X tg iter wi)(hg:PG X tg g)(hb:PSs X body tb)
  (hs:∀ x,foldedSetIterable iter X.env x=pure x:=by intro _;rfl):PS X (.For tg iter body [] pos) (Zow wi g tb):=by
 intro pins s σ H D I h;refine wpAny_For (thn (hi pins s σ H _ I h) fun v s1 h1=>thn h1 fun itv s2 h2=>?_) hs;obtain⟨it,fp,tn,J,H2,e,I2,T,st2,f2,W,⟨m0,w0⟩,turn⟩:=h2;subst e;have stat:∀{H':Hp},(∀ b∈fp,H' b=none)->∀ b∈fp,Zcc X pins H' b:=fun hn b hb=>⟨hn b hb,(f2 b hb).2⟩;refine codeAny_forLoop_any (fun n s'=>∃ i σ' H',Inv X pins σ' H' s'/\tn i s'.heap/\(∀ b∈fp,H' b=none)/\W i n σ' H') ?_ m0 ⟨0,σ,H2,I2,st2,fun b hb=>(f2 b hb).1,w0⟩;rintro n s3 ⟨i,σ3,H3,I3,st3,fr3,w3⟩;rcases turn i n σ3 H3 w3 with⟨stop,qn⟩ | ⟨go,N,hN,step⟩
 ·refine wpAny_passesOwn hp (thn (T.done X rfl rfl rfl hc i pins s3 σ3 H3 X.xe I3 (stat fr3) st3 stop) fun r s4 zq=>?_);obtain⟨hr,I4⟩:=zq;subst hr;exact wpAny_execs_nil ⟨σ3,H3,I4,qn⟩
 ·refine wpAny_passesOwn hp (thn (T.item X rfl rfl rfl hc i pins s3 σ3 H3 X.xe I3 (stat fr3) st3 go) fun r s4 zq=>?_);obtain⟨u,hr,h4⟩:=zq;subst hr;refine wpAny_passesOwn hp (thn h4 fun _ s5 zq=>?_);obtain⟨x,H5,I5,r5,y5,st5,fr5⟩:=zq;have I5':=I5.pinned (stat fr5) (T.obj _ _ st5);refine wpAny_passesOwn hp (thn (hg _ s5 σ3 H5 x u _ I5' r5 (step x H5 y5)) fun _ s6 zq=>?_);obtain⟨σ6,H6,I6,q6⟩:=zq;refine wpAny_passesOwn hp (thn (hb _ s6 σ6 H6 _ I6 q6) fun f s7 q7=>?_);have again:∀{σ7:St} {H7:Hp},Inv X (pins++Zbg fp s5.heap) σ7 H7 s7->N σ7 H7->∃ m,m<n/\∃ i σ' H',Inv X pins σ' H' s7/\tn i s7.heap/\(∀ b∈fp,H' b=none)/\W i m σ' H':=fun {σ7 H7} I7 n7=>by
   obtain⟨m',hm,w7⟩:=hN σ7 H7 n7;refine⟨m',hm,i+1,σ7,H7,I7.unpinned,T.keep _ _ _ st5 fun b hb o e=>(I7.pin (b,o) (az _ (az _ (JL hb e)))).1,fun b hb=>?_,w7⟩;obtain⟨o,e,d⟩:=T.obj _ _ st5 b hb;exact(I7.pin (b,o) (az _ (az _ (JL hb e)))).2.1
  cases f with
  | next=>obtain⟨σ7,H7,I7,n7⟩:=q7;exact again I7 n7
  | cont=>obtain⟨σ7,H7,I7,n7⟩:=q7;exact again I7 n7
  | brk=>obtain⟨σ7,H7,I7,q7⟩:=q7;exact⟨σ7,H7,I7.unpinned,q7⟩
  | ret v=>obtain⟨x7,σ7,H7,I7,r7,q7⟩:=q7;exact⟨x7,σ7,H7,I7.unpinned,r7,q7⟩
end
abbrev R2:=V->V->Hp->VK->Prop
def OpR(X:Cx)(f:Value->Value->Sem Value)(r:R2):Prop:=
 ∀(pins:List (Addr×Obj)) (s:Shared) (σ:St) (H:Hp) (x y:V) (v u:Value) (Q:VK),Inv X pins σ H s->RelV x v->RelV y u->r x y H Q ->
  wpAny (model X.prog X.w) X.A (f v u) (EP X pins σ Q) X.xe s
def UnR(X:Cx)(f:Value->Sem Value)(r:V->Hp->VK->Prop):Prop:=
 ∀(pins:List (Addr×Obj)) (s:Shared) (σ:St) (H:Hp) (x:V) (v:Value) (Q:VK),Inv X pins σ H s->RelV x v->r x H Q ->
  wpAny (model X.prog X.w) X.A (f v) (EP X pins σ Q) X.xe s
def WE(X:Cx)(f:Value)(r:List V->Hp->VK->Prop):Prop:=
 ∀(pins:List (Addr×Obj)) (s:Shared) (σ:St) (H:Hp) (xs:List V) (us:List Value) (Q:VK),Inv X pins σ H s->Vals xs us->r xs H Q ->
  wpAny (model X.prog X.w) X.A (call f us) (EP X pins σ Q) X.xe s
def tOp(r:R2)(ta tb:TE):TE:=fun σ H Q=>ta σ H fun x H1=>tb σ H1 fun y H2=>r x y H2 Q
def tUn(r:V->Hp->VK->Prop)(ta:TE):TE:=fun σ H Q=>ta σ H fun x H1=>r x H1 Q
def rI(C:Int->Int->Prop)(g:Int->Int->V):R2:=fun x y H Q=>∃ i j,x=.int i/\y=.int j/\C i j/\Q (g i j) H
def rI0(g:Int->Int->V):R2:=fun x y H Q=>∃ i j,x=.int i/\y=.int j/\Q (g i j) H
def rU(g:Int->V):V->Hp->VK->Prop:=fun x H Q=>∃ i,x=.int i/\Q (g i) H
section
variable{X:Cx}{a b c:Expr}{ta tb tc:TE}{pos:Pos}
theorem ZnV(ha:PE X a ta)(hb:PE X b tb){pins:List (Addr×Obj)}{s:Shared}{σ:St}{H:Hp}{R:V->V->Hp->Prop}(I:Inv X pins σ H s)
  (h:ta σ H fun x H1=>tb σ H1 fun y H2=>R x y H2){Q:Value->Shared->Prop}{f:Value->Value->Sem Value}
  (hf:∀ v u s2 x y H2,Inv X pins σ H2 s2->RelV x v->RelV y u->R x y H2->wpAny (model X.prog X.w) X.A (f v u) Q X.xe s2):
  wpAny (model X.prog X.w) X.A (eval a X.env) (fun v s₁=>wpAny (model X.prog X.w) X.A (eval b X.env) (fun u s₂=>wpAny (model X.prog X.w) X.A (f v u) Q X.xe s₂) X.xe s₁) X.xe s:=by
 refine thn (ha pins s σ H _ I h) fun v s1 zq=>?_;obtain⟨x,H1,I1,r1,q1⟩:=zq;refine thn (hb pins s1 σ H1 _ I1 q1) fun u s2 zq=>?_;obtain⟨y,H2,I2,r2,q2⟩:=zq;exact hf v u s2 x y H2 I2 r1 r2 q2
theorem Zns{op:Operator}{r:R2}(ho:OpR X (binaryOp op) r)(ha:PE X a ta)(hb:PE X b tb):PE X (.BinOp a op b pos) (tOp r ta tb):=by
 intro pins s σ H Q I h;exact wpAny_BinOp (ZnV ha hb I h fun v u s2 x y H2 I2 rx ry q=>ho pins s2 σ H2 x y v u Q I2 rx ry q)
theorem ZlF{op:UnaryOp}{r:V->Hp->VK->Prop}(ho:UnR X (unaryOp op) r)(ha:PE X a ta):PE X (.UnaryOp op a pos) (tUn r ta):=by
 intro pins s σ H Q I h;exact UnaryOp_ (thn (ha pins s σ H _ I h) fun v s1 ⟨x,H1,I1,r1,q1⟩=>ho pins s1 σ H1 x v Q I1 r1 q1)
theorem opI{f:Value->Value->Sem Value}{C:Int->Int->Prop}{g:Int->Int->Int}
  (rule:∀(i j:Int) (t u:Tok) (s:Shared) (Q:Value->Shared->Prop) (E:Value->Shared->Prop),C i j->Q (.int (g i j) s.toks) {s with toks:=s.toks+1}->wpAny (model X.prog X.w) X.A (f (.int i t) (.int j u)) Q E s):
  OpR X f (rI C fun i j=>.int (g i j)):=by
 intro pins s σ H x y v u Q I rx ry h;obtain⟨i,j,rfl,rfl,hc,q⟩:=h;obtain⟨t,rfl⟩:=rx;obtain⟨t',rfl⟩:=ry;exact rule i j t t' s _ _ hc ⟨.int (g i j),H,I.tok _,⟨_,rfl⟩,q⟩
theorem Zn6{f:Value->Value->Sem Value}{g:Int->Int->Int}
  (rule:∀(i j:Int) (t u:Tok) (s:Shared) (Q:Value->Shared->Prop) (E:Value->Shared->Prop),Q (.int (g i j) s.toks) {s with toks:=s.toks+1}->wpAny (model X.prog X.w) X.A (f (.int i t) (.int j u)) Q E s):
  OpR X f (rI0 fun i j=>.int (g i j)):=by
 intro pins s σ H x y v u Q I rx ry h;obtain⟨i,j,rfl,rfl,q⟩:=h;obtain⟨t,rfl⟩:=rx;obtain⟨t',rfl⟩:=ry;exact rule i j t t' s _ _ ⟨.int (g i j),H,I.tok _,⟨_,rfl⟩,q⟩
theorem ZmX{f:Value->Value->Sem Value}{g:Int->Int->Bool}
  (rule:∀(i j:Int) (t u:Tok) (s:Shared) (Q:Value->Shared->Prop) (E:Value->Shared->Prop),Q (.bool (g i j)) s->wpAny (model X.prog X.w) X.A (f (.int i t) (.int j u)) Q E s):
  OpR X f (rI0 fun i j=>.bl (g i j)):=by
 intro pins s σ H x y v u Q I rx ry h;obtain⟨i,j,rfl,rfl,q⟩:=h;obtain⟨t,rfl⟩:=rx;obtain⟨t',rfl⟩:=ry;exact rule i j t t' s _ _ ⟨.bl (g i j),H,I,rfl,q⟩
def Zpa(i j:Int):Prop:=0<j/\j<1073741824
def CMul(i j:Int):Prop:=(-(2 ^ 64)<i/\i<2 ^ 64)\/(-(2 ^ 64)<j/\j<2 ^ 64)
theorem CMul.ok{i j:Int}(h:CMul i j):IntMulOk i j:=by
 rcases h with⟨h1,h2⟩ | ⟨h1,h2⟩
 ·exact .of_left (intBits_le_64 h1 h2)
 ·exact .of_right (intBits_le_64 h1 h2)
theorem ZlR:OpR X (binaryOp .Add) (rI0 fun i j=>.int (i+j)):=Zn6 fun _ _ _ _ _ _ _ q=>add_int q
theorem ZlO:OpR X (binaryOp .Sub) (rI0 fun i j=>.int (i-j)):=Zn6 fun _ _ _ _ _ _ _ q=>sub_int q
theorem ZlP:OpR X (binaryOp .Mult) (rI CMul fun i j=>.int (i*j)):=opI fun _ _ _ _ _ _ _ hc q=>mul_int q hc.ok
theorem Zj2:OpR X (binaryOp .FloorDiv) (rI Zpa fun i j=>.int (i/j)):=opI fun i j _ _ _ _ _ hc q=>by
 have h1:(0:Int)<j:=hc.1;have h2:j<1073741824:=hc.2;exact floordiv_int (by omega) (by rw[Int.fdiv_eq_ediv_of_nonneg i (by omega)];exact q) (.inl (PyProof.noPylong_small (by omega)))
theorem ZlQ:OpR X (binaryOp .Mod) (rI (fun _ j=>0<j) fun i j=>.int (i%j)):=opI fun i j _ _ _ _ _ hc q=>by
 have h1:(0:Int)<j:=hc;exact mod_int' (by omega) (by rw[Int.fmod_eq_emod_of_nonneg i (by omega)];exact q)
theorem unI{f:Value->Sem Value}{g:Int->Int}
  (rule:∀(i:Int) (t:Tok) (s:Shared) (Q:Value->Shared->Prop) (E:Value->Shared->Prop),Q (.int (g i) s.toks) {s with toks:=s.toks+1}->wpAny (model X.prog X.w) X.A (f (.int i t)) Q E s):
  UnR X f (rU fun i=>.int (g i)):=by
 intro pins s σ H x v Q I rx h;obtain⟨i,rfl,q⟩:=h;obtain⟨t,rfl⟩:=rx;exact rule i t s _ _ ⟨.int (g i),H,I.tok _,⟨_,rfl⟩,q⟩
theorem ZiN:UnR X (unaryOp .USub) (rU fun i=>.int (-i)):=unI fun _ _ _ _ _ q=>neg_int q
end
section
variable{X:Cx}{a b c:Expr}{ta tb tc:TE}{pos:Pos}
theorem Znw:OpR X (compareOp .Lt) (rI0 fun i j=>.bl (decide (i<j))):=ZmX fun _ _ _ _ _ _ _ q=>lt_int q
theorem Znx:OpR X (compareOp .LtE) (rI0 fun i j=>.bl (decide (i<=j))):=ZmX fun _ _ _ _ _ _ _ q=>le_int q
theorem Zny:OpR X (compareOp .Gt) (rI0 fun i j=>.bl (decide (j<i))):=ZmX fun _ _ _ _ _ _ _ q=>gt_int q
theorem Znz:OpR X (compareOp .GtE) (rI0 fun i j=>.bl (decide (j<=i))):=ZmX fun _ _ _ _ _ _ _ q=>ge_int q
theorem Z4(b:Expr){op:CmpOp}(h:op≠.In:=by decide)(h2:op≠.NotIn:=by decide):behindInMarks op b=false:=by
 have e1:(op==CmpOp.In)=false:=by cases op<;>first | rfl | exact absurd rfl h
 have e2:(op==CmpOp.NotIn)=false:=by cases op<;>first | rfl | exact absurd rfl h2
 cases b<;>simp[behindInMarks,e1,e2]
theorem ZjZ{op:CmpOp}{r:R2}(ho:OpR X (compareOp op) r)(ha:PE X a ta)(hb:PE X b tb)(hm:behindInMarks op b=false):PE X (.Compare a [op] [b] pos) (tOp r ta tb):=by
 intro pins s σ H Q I h;exact wpAny_Compare1 (ZnV ha hb I h fun v u s2 x y H2 I2 rx ry q=>ho pins s2 σ H2 x y v u Q I2 rx ry q) hm
def Zlb(t:TE):TT:=fun σ H Q=>t σ H fun x H'=>∃ k,x=.bl k/\Q k H'
theorem ZjP{op:CmpOp}{r:R2}(ho:OpR X (compareOp op) r)(ha:PE X a ta)(hb:PE X b tb)(hm:behindInMarks op b=false):PT X (.Compare a [op] [b] pos) (Zlb (tOp r ta tb)):=by
 intro pins s σ H Q I h;refine wpAny_isTrue_Compare1 (thn (ha pins s σ H _ I h) fun v s1 ⟨x,H1,I1,r1,q1⟩=>thn (hb pins s1 σ H1 _ I1 q1) fun u s2 ⟨y,H2,I2,r2,q2⟩=>
  thn (ho pins s2 σ H2 x y v u _ I2 r1 r2 q2) fun c s3 ⟨z,H3,I3,r3,k,e,q3⟩=>?_) hm
 subst e;cases r3;exact wpAny_truthy_bool ⟨H3,I3,q3⟩
def Zfg(r r':R2)(ta tb tc:TE):TE:=fun σ H Q=>ta σ H fun x H1=>tb σ H1 fun y H2=>r x y H2 fun z H3=>∃ k,z=.bl k /\
 (if k=true then tc σ H3 fun w' H4=>r' y w' H4 Q else Q (.bl false) H3)
theorem ZhW{op op':CmpOp}{r r':R2}(ho:OpR X (compareOp op) r)(ho':OpR X (compareOp op') r')(ha:PE X a ta)(hb:PE X b tb)(hc:PE X c tc)
  (hm:lastMarks [op,op'] [b,c]=false:=by with_unfolding_all rfl):PE X (.Compare a [op,op'] [b,c] pos) (Zfg r r' ta tb tc):=by
 intro pins s σ H Q I h;refine Compare_chain (thn (ha pins s σ H _ I h) fun v s1 ⟨x,H1,I1,r1,q1⟩=>chain_link (thn (hb pins s1 σ H1 _ I1 q1) fun u s2 ⟨y,H2,I2,r2,q2⟩=>
  thn (ho pins s2 σ H2 x y v u _ I2 r1 r2 q2) fun d s3 ⟨z,H3,I3,r3,k,e,q3⟩=>?_)) hm
 subst e;cases r3;refine wpAny_truthy_bool ?_;cases k with
 | false=>exact ite_ff ⟨.bl false,H3,I3,rfl,q3⟩
 | true=>exact ite_tt (chain_last (thn (hc pins s3 σ H3 _ I3 q3) fun w' s4 ⟨z',H4,I4,r4,q4⟩=>ho' pins s4 σ H4 y z' u w' Q I4 r2 r4 q4))
theorem ZhP{op op':CmpOp}{r r':R2}(ho:OpR X (compareOp op) r)(ho':OpR X (compareOp op') r')(ha:PE X a ta)(hb:PE X b tb)(hc:PE X c tc)
  (hm:lastMarks [op,op'] [b,c]=false:=by with_unfolding_all rfl):PT X (.Compare a [op,op'] [b,c] pos) (Zlb (Zfg r r' ta tb tc)):=by
 intro pins s σ H Q I h;refine isTrue_chain (thn (ha pins s σ H _ I h) fun v s1 ⟨x,H1,I1,r1,q1⟩=>test_link (thn (hb pins s1 σ H1 _ I1 q1) fun u s2 ⟨y,H2,I2,r2,q2⟩=>
  thn (ho pins s2 σ H2 x y v u _ I2 r1 r2 q2) fun d s3 ⟨z,H3,I3,r3,k,e,q3⟩=>?_)) hm
 subst e;cases r3;refine wpAny_truthy_bool ?_;cases k with
 | false=>
  obtain⟨k',e',q'⟩:=q3;cases e';exact ite_ff ⟨H3,I3,q'⟩
 | true=>
  refine ite_tt (test_last (thn (hc pins s3 σ H3 _ I3 q3) fun w' s4 ⟨z',H4,I4,r4,q4⟩=>thn (ho' pins s4 σ H4 y z' u w' _ I4 r2 r4 q4) fun d' s5 zq=>?_));obtain⟨z2,H5,I5,r5,k2,e2,q5⟩:=zq;subst e2;cases r5;exact wpAny_truthy_bool ⟨H5,I5,q5⟩
theorem Zbv:(sizeLine:Nat)<2 ^ 63:=by rw[sizeLine_eq];decide
theorem Zem:OpR X (binaryOp .Add) (fun x y H Q=>∃ i j,x=.str i/\y=.str j/\i.length+j.length<=sizeLine/\Q (.str (i++j)) H):=by
 intro pins s σ H x y v u Q I rx ry h;obtain⟨i,j,rfl,rfl,hz,q⟩:=h;obtain⟨t,rfl⟩:=rx;obtain⟨t',rfl⟩:=ry;exact add_str (fun t' tk=>⟨.str (i++j),H,I.tok _,⟨_,rfl⟩,q⟩) hz
theorem VD{x:V}{us:List Value}(r:Vals [x] us):∃ u,us=[u]/\RelV x u:=by
 cases r with
 | cons r1 r2=>cases r2;exact⟨_,rfl,r1⟩
theorem Zk6{x y:V}{us:List Value}(r:Vals [x,y] us):∃ u w',us=[u,w']/\RelV x u/\RelV y w':=by
 cases r with
 | cons r1 r2=>
  cases r2 with
  | cons r3 r4=>cases r4;exact⟨_,_,rfl,r1,r3⟩
theorem Zg5(hc:X.calm=true):WE X (.builtin "max") (fun xs H Q=>∃ i j,xs=[.int i,.int j]/\Q (.int (if j>i then j else i)) H):=by
 intro pins s σ H xs us Q I r h;obtain⟨i,j,rfl,q⟩:=h;obtain⟨u,w',rfl,⟨t,rfl⟩,⟨t',rfl⟩⟩:=Zk6 r;refine max_two_ints (I.ok.hd hc) fun h' tk k=>⟨_,H,I.kept k,?_,q⟩;by_cases hj:j>i
 ·rw[if_pos hj,if_pos hj];exact⟨_,rfl⟩
 ·rw[if_neg hj,if_neg hj];exact⟨_,rfl⟩
theorem Zg4(hc:X.calm=true):WE X (.builtin "min") (fun xs H Q=>∃ i j,xs=[.int i,.int j]/\Q (.int (if j<i then j else i)) H):=by
 intro pins s σ H xs us Q I r h;obtain⟨i,j,rfl,q⟩:=h;obtain⟨u,w',rfl,⟨t,rfl⟩,⟨t',rfl⟩⟩:=Zk6 r;refine min_two_ints (I.ok.hd hc) fun h' tk k=>⟨_,H,I.kept k,?_,q⟩;by_cases hj:j<i
 ·rw[if_pos hj,if_pos hj];exact⟨_,rfl⟩
 ·rw[if_neg hj,if_neg hj];exact⟨_,rfl⟩
end
structure ObjM(h:Heap)(x dx C:Addr)(mA:Str->Option Value):Prop where
 obj:h.get? x=some (PySem.W.instObj C dx)
 ns:h.Ns1 dx mA
 ne:dx≠x
theorem Zgb{h:Heap}{dx:Addr}{mA:Str->Option Value}(n:h.Ns1 dx mA):∃ od,h.get? dx=some od/\∀ name,PySem.W.lookIn name od=some (mA name):=by
 obtain⟨o,es,ep,ho,hd,hk,_,hm⟩:=n;refine⟨o,ho,fun name=>?_⟩;have e:=hm name;unfold nsFind findBy at e;rw[<-Array.find?_toList]at e;unfold PySem.W.lookIn;rw[hd];dsimp only;split
 ·rename_i y q
  rw[q]at e;exact congrArg some e
 ·rename_i q
  rw[q]at e;have a:es.toList.any (·.refKey)=false:=by
   rw[List.any_eq_false];intro y hy;obtain⟨z,t,hkey⟩:=hk y (Array.mem_toList_iff.mp hy);simp[DictEntry.refKey,hkey]
  have a':¬ es.toList.any (·.refKey)=true:=by rw[a];exact Bv
  rw[if_neg a'];exact congrArg some e
theorem ObjM.look{h:Heap}{x dx C:Addr}{mA:Str->Option Value}(I:ObjM h x dx C mA):∃ od,PySem.W.InstAt h x (PySem.W.instObj C dx) C (some od)/\∀ name,PySem.W.lookIn name od=some (mA name):=
 let ⟨od,ho,hl⟩:=Zgb I.ns
 ⟨od,⟨I.obj,rfl,rfl,ho⟩,hl⟩
section
variable{prog:Program}{w:World}{A:Around}{E:Value->Shared->Prop}{s:Shared}{K:Frag}{x dx C f:Addr}{mA:Str->Option Value}{name:Str}{v:Value}
end
section
variable{P:Program}{w:World}{H H':Hp}{h h':Heap}{a C dx:Addr}{fs fs':List (Str×V)}
theorem Zkk(hok:HOk P w H h)(e:H a=some (.ins C dx fs)):∃ mA,ObjM h a dx C mA/\(∀ f,ZnZ (fs.lookup f) (mA f))/\PySem.Within mA (fs.map (·.1))/\fs.length<=1000/\H dx=some (.own a):=by
 obtain⟨d,z,ne,ob,mA,n,r,q⟩:=(show ObjOk P w H h a (.ins C dx fs) from hok a _ e);exact⟨mA,⟨ob,n,ne⟩,r,q,z,d⟩
end
structure Cls(K:Frag)(C:Addr):Prop where
 pg:PySem.W.plainGet K C Str.empty=true
 hd:PySem.W.hasDictIn K C=true
 po:PySem.W.plainOver K C=true
 sa:findIn K (.ref C) "__setattr__"=some (some (.builtin "object.__setattr__"))
theorem Cls.get{K:Frag}{C:Addr}(c:Cls K C)(f:Str):PySem.W.plainGet K C f=true:=c.pg
section
variable{X:Cx}{pins:List (Addr×Obj)}{σ:St}{H:Hp}{s:Shared}{a C dx:Addr}{fs:List (Str×V)}{f:Str}{v:V}{A:Around}{E:Value->Shared->Prop}
end
section
variable{X:Cx}{o e value:Expr}{f:Str}{pos pos' tpos:Pos}{ta tv:TE}
end
section
variable{X:Cx}{pins:List (Addr×Obj)}{σ:St}{H:Hp}{s:Shared}{A:Around}{E:Value->Shared->Prop}{Q:Value->Shared->Prop}{c:Value}{b:Bool}
inductive Ze5(K:Frag)(H:Hp):V->Value->Prop where
 | non:Ze5 K H .non (.type "NoneType")
 | bl (x:Bool):Ze5 K H (.bl x) (.type "bool")
 | int (i:Int):Ze5 K H (.int i) (.type "int")
 | str (x:Str):Ze5 K H (.str x) (.type "str")
 | flt (x:UInt64):Ze5 K H (.flt x) (.type "float")
 | lst {a:Addr} {xs:List V} (e:H a=some (.lst xs)):Ze5 K H (.ref a) (.type "list")
 | frz {a:Addr} {o:Obj} {xs:List V} (e:H a=some (.frz o (.lst xs))):Ze5 K H (.ref a) (.type "list")
 | tup {a:Addr} {xs:List V} (e:H a=some (.tup xs)):Ze5 K H (.ref a) (.type "tuple")
 | dK {a:Addr} {kvs:List (Key×V)} (e:H a=some (.dK kvs)):Ze5 K H (.ref a) (.type "dict")
 | dT {a:Addr} {kvs:List (List Key×V)} (e:H a=some (.dT kvs)):Ze5 K H (.ref a) (.type "dict")
 | ins {a C dx:Addr} {fs:List (Str×V)} (e:H a=some (.ins C dx fs)) (cl:Cls K C) (ha:findIn K (.ref C) "__class__"=some (some (.builtin "object.__class__")))
   (hn:PySem.W.specialIn K (.builtin "object.__class__") "__get__"=some (some (.builtin "getset_descriptor.__get__"))) (htk:PySem.W.takesIn K (.builtin "object.__class__")=some true)
   (hm:mroIn K C (.type "object")=some true):Ze5 K H (.ref a) (.ref C)
theorem UE{x:V}{u t:Value}(I:Inv X pins σ H s)(rx:RelV x u)(ty:Ze5 X.K H x t)(e:kitOne X.K t c=some b)(h:∀ tk,Q (.bool b) {s with toks:=tk}):
  wpAny (model X.prog X.w) A (call (.builtin "isinstance") [u,c]) Q E s:=by
 cases ty with
 | non=>cases (show u=Value.none from rx);exact kia_one PySem.W.kitx_none I.kIn True.intro e (fun z=>nomatch z) h
 | bl y=>cases (show u=Value.bool y from rx);exact kia_one PySem.W.kitx_bool I.kIn True.intro e (fun z=>nomatch z) h
 | int i=>obtain⟨t,q⟩:=(show ∃ t,u=Value.int i t from rx);cases q;exact kia_one PySem.W.kitx_int I.kIn True.intro e (fun z=>nomatch z) h
 | str y=>obtain⟨t,q⟩:=(show ∃ t,u=Value.str y t from rx);cases q;exact kia_one PySem.W.kitx_str I.kIn True.intro e (fun z=>nomatch z) h
 | flt y=>obtain⟨t,q⟩:=(show ∃ t,u=Value.float y t from rx);cases q;exact kia_one PySem.W.kitx_float I.kIn True.intro e (fun z=>nomatch z) h
 | @lst a xs ea=>
  cases (show u=Value.ref a from rx);obtain⟨_,_,n,_,h1⟩:=(show ObjOk X.prog X.w H s.heap a (.lst xs) from I.hok a _ ea);exact kia_one PySem.W.kitx_list I.kIn ⟨_,h1,rfl⟩ e (fun z=>nomatch z) h
 | @frz a ob xs ea=>
  cases (show u=Value.ref a from rx);obtain⟨_,_,_,n,_,h1⟩:=(show ObjOk X.prog X.w H s.heap a (.frz ob (.lst xs)) from I.hok a _ ea);exact kia_one PySem.W.kitx_list I.kIn ⟨_,h1,rfl⟩ e (fun z=>nomatch z) h
 | @tup a xs ea=>
  cases (show u=Value.ref a from rx);obtain⟨_,_,_,p⟩:=(show ObjOk X.prog X.w H s.heap a (.tup xs) from I.hok a _ ea);obtain⟨o,h1,h2,_⟩:=p;exact kia_one PySem.W.kitx_tuple I.kIn ⟨o,h1,h2⟩ e (fun z=>nomatch z) h
 | @dK a kvs ea=>
  cases (show u=Value.ref a from rx);obtain⟨_,_,vs,_,p⟩:=(show ObjOk X.prog X.w H s.heap a (.dK kvs) from I.hok a _ ea);obtain⟨o,es,ep,h1,h2,_⟩:=p;exact kia_one PySem.W.kitx_dict I.kIn ⟨o,h1,h2.1⟩ e (fun z=>nomatch z) h
 | @dT a kvs ea=>
  cases (show u=Value.ref a from rx);obtain⟨_,_,xs,_,o,es,ep,h1,h2,_⟩:=(show ObjOk X.prog X.w H s.heap a (.dT kvs) from I.hok a _ ea);exact kia_one PySem.W.kitx_dict I.kIn ⟨o,h1,h2.1⟩ e (fun z=>nomatch z) h
 | @ins a C dx fs ea cl ha hn htk hm=>
  cases (show u=Value.ref a from rx);obtain⟨mA,O,_⟩:=Zkk I.hok ea;obtain⟨od,J,_⟩:=O.look;exact kia_one (PySem.W.kitx_own (cl.get _) cl.hd ha hn htk hm) I.kIn J e (fun z=>nomatch z) h
end
structure Room(k:Nat)(A:Around):Prop where
 hd:A.handled=none
 dp:A.depth+3*k+5<recursionLimit
 un:A.units+16*k+200<cLine
theorem Room.mono{j k:Nat}{A:Around}(r:Room k A)(h:j<=k):Room j A:=⟨r.hd,by have:=r.dp;omega,by have:=r.un;omega⟩
theorem Room.deeper{k:Nat}{A:Around}(r:Room (k+1) A)(env:Env):Room k (A.deeper env):=
 ⟨r.hd,by have:=r.dp;show A.depth+1+3*k+5<_;omega,by have:=r.un;show A.units+3+16*k+200<_;omega⟩
theorem Room.depth{k:Nat}{A:Around}(r:Room k A):A.depth<recursionLimit:=by have:=r.dp;omega
theorem Room.units{k:Nat}{A:Around}(r:Room k A):A.units+64<cLine:=by have:=r.un;omega
def Zot:TA:=fun _ H Q=>Q [] H
def Zni(ta:TE)(tr:TA):TA:=fun σ H Q=>ta σ H fun x H1=>tr σ H1 fun xs H2=>Q (x::xs) H2
section
variable{X:Cx}{e:Expr}{es:List Expr}{te:TE}{t:TA}{pos:Pos}
theorem ZdA:PA X [] Zot:=fun _ _ _ _ H Q I h=>Calls.spliced_nil ⟨[],H,I,.nil,h⟩
theorem Zas(ha:PE X e te)(hr:PA X es t)(hs:starEach (e::es) X.env=(false,eval e X.env)::starEach es X.env:=by rfl):PA X (e::es) (Zni te t):=by
 intro pos pins s σ H Q I h;rw[hs];show wpAny _ _ (spliced ((false,eval e X.env)::backTo pos (starEach es X.env))) _ _ s;refine Calls.spliced_cons (thn (ha pins s σ H _ I h) fun u s1 zq=>?_);obtain⟨x,H1,I1,r1,q1⟩:=zq;exact thn (hr pos pins s1 σ H1 _ I1 q1) fun us s2 ⟨xs,H2,I2,r2,q2⟩=>⟨x::xs,H2,I2,.cons r1 r2,q2⟩
def Zop(t:TA):TE:=fun σ H Q=>t σ H fun xs H1=>xs.length<=sizeLine/\∀ p,H1 p=none->Q (.ref p) (upd H1 p (.tup xs))
def Zou(t:TA):TE:=fun σ H Q=>t σ H fun xs H1=>xs.length<=sizeLine/\∀ p,H1 p=none->Q (.ref p) (upd H1 p (.lst xs))
theorem ZlG{x1}(h:PA X es t):PE X (.Tuple es x1 pos) (Zop t):=by
 intro pins s σ H Q I hq;refine wpAny_Tuple_spliced (thn (h pos pins s σ H _ I hq) fun us s1 ⟨xs,H1,I1,r,z,q⟩=>⟨by rw[<-r.length];exact z,?_⟩);have hf:H1 s1.heap.objs.size=none:=I1.hok.fresh (A7 _);refine⟨.ref s1.heap.objs.size,upd H1 s1.heap.objs.size (.tup xs),I1.laid (t':=s1.toks) (fun b u e=>Heap.get?_push_of_some _ e) (A7 _) ?_,rfl,q _ hf⟩;exact⟨z,us,r,⟨_,Heap.get?_push_size _ rfl,rfl,rfl,_,rfl⟩⟩
theorem ZlK(h:PA X es t):PE X (.List es pos) (Zou t):=by
 intro pins s σ H Q I hq;refine wpAny_List_spliced (thn (h pos pins s σ H _ I hq) fun us s1 ⟨xs,H1,I1,r,z,q⟩=>⟨by rw[<-r.length];exact z,?_⟩);have hf:H1 s1.heap.objs.size=none:=I1.hok.fresh (A7 _);refine⟨.ref s1.heap.objs.size,upd H1 s1.heap.objs.size (.lst xs),I1.laid (t':=s1.toks) (fun b u e=>Heap.get?_push_of_some _ e) (A7 _) ?_,rfl,q _ hf⟩;exact⟨z,us,0,r,Heap.get?_push_size _ rfl⟩
end
abbrev Sp:=List V->Hp->VK->XK->Prop
abbrev CXT:=List Env->Hp->Shared->XK->Value->Shared->Prop
structure Zm5(P:Program)(w:World)(K:Frag)(mg:Str->Option Value)(base:Heap)(A:Around)(outer:List Env)(s:Shared)(H:Hp):Prop where
 frames:A.frames=some outer
 mod:Mod K mg base
 bs:∀ b o,base.get? b=some o->s.heap.get? b=some o/\H b=none
 bsz:base.objs.size<=s.heap.objs.size
 funs:s.heap.FunFrames base outer
 frf:∀ b∈frs outer,H b=none
 hok:HOk P w H s.heap
 bare:AllBare s.gens
def CE(outer:List Env)(P:Program)(w:World)(H:Hp)(s:Shared)(Q:VK)(u:Value)(s':Shared):Prop:=
 ∃ v H',s'.os=s.os/\AllBare s'.gens/\Un (frs outer) [] H H' s.heap s'.heap/\HOk P w H' s'.heap/\RelV v u/\Q v H'
def CR(CX:CXT)(outer:List Env)(P:Program)(w:World)(H:Hp)(s:Shared)(Q:VK)(E:XK)(r:Result)(s':Shared):Prop:=
 match r with
 | .ok (.ret u)=>CE outer P w H s Q u s'
 | .ok _=>False
 | .error e=>CX outer H s E e s'
structure ZiJ(P:Program)(w:World)(K:Frag)(mg:Str->Option Value)(base:Heap)(CX:CXT)(k:Nat)(f:Addr)(fd:FuncData)(ps:List Str)(sp:Sp):Prop where
 len:∀ vs H Q E,sp vs H Q E->vs.length=ps.length
 run:∀(A:Around) (outer:List Env) (s:Shared) (H:Hp) (args:Args) (us:List Value) (vs:List V) (Q:VK) (E:XK),Room k A->Zm5 P w K mg base A outer s H->BindsTo s fd args (ps.zip us)->Vals vs us->sp vs H Q E ->
  codeAny (model P w) A (.call (.ref f) args) (CR CX outer P w H s Q E) s
section
variable{X:Cx}{pins:List (Addr×Obj)}{σ:St}{H:Hp}{s s':Shared}
theorem Inv.env0(I:Inv X pins σ H s):Zm5 X.prog X.w X.K X.mg X.base X.A X.stack s H:=
 ⟨I.ok.frames,I.ok.mod,I.bs,Ax I.ok.bsz I.sz,I.stack,I.stkFree,I.hok,I.bare⟩
theorem Inv.after{Q:VK}{u:Value}(I:Inv X pins σ H s)(h:CE X.stack X.prog X.w H s Q u s'):EP X pins σ Q u s':=by
 obtain⟨v,H',os,bare,un,hok,r,q⟩:=h;obtain⟨hh,g,d,t,os'⟩:=s';obtain rfl:os'=s.os:=os;exact⟨v,H',I.call (h':=hh) (g':=g) (d':=d) (t':=t) (ch:=[]) un hok bare (fun b z=>absurd z (by simp)),r,q⟩
end
def Znj(sp:Sp)(dvs:List V)(E:XK)(t:TA):TE:=fun σ H Q=>t σ H fun vs H1=>sp (vs++dvs) H1 Q E
def Binds(K:Frag)(fd:FuncData)(ps:List Str)(ds:List Value):Prop:=
 ∀(s:Shared) (us:List Value),K.In s.heap->(us++ds).length=ps.length->BindsTo s fd ⟨us,[]⟩ (ps.zip (us++ds))
theorem Binds.all{K:Frag}{fd:FuncData}{ps:List Str}(h:∀ us:List Value,us.length=ps.length->bindArgs fd ⟨us,[]⟩=pure (ps.zip us)):Binds K fd ps []:=fun s us _ hl=>by
 rw[List.append_nil]at hl ⊢;exact .of_eq (h us hl)
def Zhp(CX:CXT)(X:Cx)(E:XK):Prop:=∀(pins:List (Addr×Obj)) (σ:St) (H:Hp) (s:Shared) (e:Value) (s':Shared),Inv X pins σ H s->CX X.stack H s E e s'->X.xe e s'
section
variable{X:Cx}{CX:CXT}{k:Nat}{f C:Addr}{fd:FuncData}{ps:List Str}{sp:Sp}{dvs:List V}{ds:List Value}{E:XK}{x m:Str}{p pos apos:Pos}{e o:Expr}{es:List Expr}{ta:TE}{t:TA}
theorem Zlr{pins:List (Addr×Obj)}{σ:St}{H:Hp}{s:Shared}{Q:VK}{us:List Value}{vs:List V}(F:ZiJ X.prog X.w X.K X.mg X.base CX k f fd ps sp)(hr:Room k X.A)(hb:Binds X.K fd ps ds)(hd:Vals dvs ds)(hx:Zhp CX X E)
  (I:Inv X pins σ H s)(r:Vals vs us)(h:sp (vs++dvs) H Q E):wpAny (model X.prog X.w) X.A (call (.ref f) us) (EP X pins σ Q) X.xe s:=by
 have r2:Vals (vs++dvs) (us++ds):=r.append hd;have hl:(us++ds).length=ps.length:=by rw[<-r2.length];exact F.len _ _ _ _ h
 refine wpAny_call (codeAny_mono (F.run X.A X.stack s H ⟨us,[]⟩ (us++ds) (vs++dvs) Q E hr I.env0 (hb s us I.kIn hl) r2 h) fun r s' hq=>?_);cases r with
 | error e=>exact hx pins σ H s e s' I hq
 | ok fl=>
  cases fl with
  | ret u=>exact I.after hq
  | next=>exact False.elim hq
  | brk=>exact False.elim hq
  | cont=>exact False.elim hq
theorem Zj0(F:ZiJ X.prog X.w X.K X.mg X.base CX k f fd ps sp)(hr:Room k X.A)(hg:Gl X x)(hm:X.mg x=some (.ref f))(hk:keepIn X.K (.ref f)=true)(hb:Binds X.K fd ps ds)(hd:Vals dvs ds)(hx:Zhp CX X E)
  (ha:PA X (e::es) t)(hdb:(x==("__debug__":Str))=false:=by decide)(he:starEach (e::es) X.env=(false,eval e X.env)::starEach es X.env:=by rfl)(hpl:(backTo pos (starEach es X.env)).any (·.1)=false:=by rfl):
  PE X (.Call (.Name x p) (e::es) [] pos) (Znj sp dvs E t):=by
 intro pins s σ H Q I h;refine wpAny_Call_Name_kw (Zgi I hg hm ?_ hdb);refine PySem.W.callWith_K (h₀:=X.base) I.ok.mod.kin hk (thn (ha pos pins s σ H _ I h) fun us s1 ⟨vs,H1,I1,r,q⟩=>⟨I1.kIn,?_⟩) he hpl;exact Zlr F hr hb hd hx I1 r q
end
section
variable{X:Cx}{CX:CXT}{k:Nat}{f C:Addr}{fd:FuncData}{ps ks:List Str}{sp:Sp}{E:XK}{x m:Str}{p pos apos kpos:Pos}{e o:Expr}{es:List Expr}{kws:List Keyword}{te ta:TE}{t tk:TA}{nm:Option Str}
variable{g:List Value->List Value->List Value}{gV:List V->List V->List V}
end
structure Zx(N P:List Str)(sc:Scope):Prop where
 kind:sc.kind=.function
 co:sc.isCoroutine=false
 gen:sc.isGenerator=false
 nd:N.Nodup
 pre:N.take P.length=P
 par:∀ x∈P,sc.names.lookup x=some .local\/sc.names.lookup x=some .cell
 nofree:∀ y∈sc.names,y.2≠.free
theorem ZbS{kindOf:Str->Option NameKind}{x:Str}:∀{binds:List (Str×Value)} {m:Str->Option Value},(∀ v,(x,v) ∉ binds)->bindL kindOf binds m x=m x
 | [],_,_=>rfl
 | (n,v)::r,m,h=>by
  unfold bindL;rw[ZbS fun w hw=>h w (A3 _ hw)];split
  ·have:x≠n:=by rintro rfl;exact h v A6
   simp[this]
  ·rfl
theorem ZbU{kindOf:Str->Option NameKind}{x:Str}:∀{binds:List (Str×Value)} {m:Str->Option Value},(∀ v,(x,v) ∉ binds)->bindC kindOf binds m x=m x
 | [],_,_=>rfl
 | (n,v)::r,m,h=>by
  unfold bindC;rw[ZbU fun w hw=>h w (A3 _ hw)];split
  ·rfl
  ·have:x≠n:=by rintro rfl;exact h v A6
   simp[this]
theorem ZbT{kindOf:Str->Option NameKind}{x:Str}{v:Value}:∀{P:List Str} {vs:List Value} {i:Nat} {m:Str->Option Value},P.Nodup->P[i]?=some x->vs[i]?=some v->kindOf x=some .local ->
  bindL kindOf (P.zip vs) m x=some v
 | [],_,_,_,_,h,_,_=>by simp at h
 | _::_,[],_,_,_,_,h,_=>by simp at h
 | p::P,w::vs,0,m,nd,h1,h2,hk=>by
  simp at h1 h2;subst h1;subst h2;show bindL kindOf ((p,w)::P.zip vs) m p=_;unfold bindL;rw[ZbS fun v hv=>(ae.mp nd).1 (List.of_mem_zip hv).1,if_pos hk];simp
 | p::P,w::vs,i+1,m,nd,h1,h2,hk=>by
  show bindL kindOf ((p,w)::P.zip vs) m x=_;unfold bindL;exact ZbT (i:=i) (ae.mp nd).2 (by simpa using h1) (by simpa using h2) hk
theorem ZbV{kindOf:Str->Option NameKind}{x:Str}{v:Value}:∀{P:List Str} {vs:List Value} {i:Nat} {m:Str->Option Value},P.Nodup->P[i]?=some x->vs[i]?=some v->kindOf x≠some .local ->
  bindC kindOf (P.zip vs) m x=some v
 | [],_,_,_,_,h,_,_=>by simp at h
 | _::_,[],_,_,_,_,h,_=>by simp at h
 | p::P,w::vs,0,m,nd,h1,h2,hk=>by
  simp at h1 h2;subst h1;subst h2;show bindC kindOf ((p,w)::P.zip vs) m p=_;unfold bindC;rw[ZbU fun v hv=>(ae.mp nd).1 (List.of_mem_zip hv).1,if_neg hk];simp
 | p::P,w::vs,i+1,m,nd,h1,h2,hk=>by
  show bindC kindOf ((p,w)::P.zip vs) m x=_;unfold bindC;exact ZbV (i:=i) (ae.mp nd).2 (by simpa using h1) (by simpa using h2) hk
def start(N:List Str)(vs:List V):St:=vs.map some++List.replicate (N.length-vs.length) none
def Zjd(CX:CXT)(P:Program)(w:World)(K:Frag)(mg:Str->Option Value)(base:Heap)(N:List Str)(qual:Str)(scope:Scope)(f:Addr)(cd:Value)(A:Around)(outer:List Env)(s:Shared)(H:Hp)(E:XK):Cx where
 prog:=P
 w:=w
 K:=K
 mg:=mg
 base:=base
 A:=A.deeper (envOfC qual scope s.heap.objs.size f cd)
 N:=N
 s₀:=s
 H₀:=H
 env:=envOfC qual scope s.heap.objs.size f cd
 outer:=outer
 stack:=envOfC qual scope s.heap.objs.size f cd::outer
 ex:=[]
 calm:=true
 fn:=fun _=>true
 pn:=[]
 xe:=fun e s'=>wpAny (model P w) (A.deeper (envOfC qual scope s.heap.objs.size f cd)) (leaving (envOfC qual scope s.heap.objs.size f cd) e) (fun _ s''=>CX outer H s E e s'') (fun e' s''=>CX outer H s E e' s'') s'
theorem Zd0{sc:Scope}{n:Nat}{x:Str}(h:sc.names.lookup x=some .cell):∃ c,(cellsFrom n sc.names []).lookup x=some c:=by
 have q:=PySem.W.cellsFrom_some sc.names n [] (.inl h);exact Option.isSome_iff_exists.mp q
theorem Zgm{CX:CXT}{P:Program}{w:World}{K:Frag}{mg:Str->Option Value}{base:Heap}{N ps:List Str}{qual:Str}{scope:Scope}{f:Addr}{cd:Value}{A:Around}{outer:List Env}{s s1:Shared}{H:Hp}{E:XK}{us:List Value}{vs:List V}
  (S:Zx N ps scope)(hd:A.handled=none)(e0:Zm5 P w K mg base A outer s H)(hl:vs.length=ps.length)(r:Vals vs us)
  (x:InCallC s s.heap.objs.size (bindL (envOfC qual scope s.heap.objs.size f cd).kindOf (ps.zip us) fun _=>none) (cellsFrom (s.heap.objs.size+1) scope.names []) (bindC (envOfC qual scope s.heap.objs.size f cd).kindOf (ps.zip us) fun _=>none) s1):
  Inv (Zjd CX P w K mg base N qual scope f cd A outer s H E) [] (start N vs) H s1:=by
 have hpl:ps.length<=N.length:=by have:=congrArg List.length S.pre;rw[C4]at this;omega
 obtain⟨h1,tk,rfl,hk⟩:=x.done;have noA:∀ b:Addr,b ∉ (Zjd CX P w K mg base N qual scope f cd A outer s H E).ex:=fun b z=>absurd (show b∈([]:List Addr) from z) (by simp);refine⟨⟨e0.mod,S.kind,rfl,rfl,A7 _,fun y z c h1 h2=>?_,fun y hy=>?_,fun y c _ h=>?_,fun _=>hd,Around.frames_deeper e0.frames,.inr ⟨rfl,rfl⟩,fun b z=>absurd z (noA b),e0.bs,e0.bsz,fun b _ _=>noA b,fun b z=>absurd z (noA b),e0.funs,e0.frf⟩,
  rfl,e0.bare,Un.kept hk,⟨_,x.toInCall.ns,fun i y v h1 h2 h3=>?_⟩,fun y c h=>⟨_,x.cell y c h⟩,e0.hok.fresh (A7 _),fun y c h=>?_,fun p hp=>absurd (show p∈([]:List (Addr×Obj)) from hp) (by simp),e0.hok.kept hk,?_⟩
 ·exact name_of_addr x.apart (C7 h1) (C7 h2)
 ·have hy:scope.names.lookup y=some .cell\/scope.names.lookup y=some .free:=hy;rcases hy with hy | hy
  ·exact Zd0 hy
  ·exact absurd rfl (S.nofree _ (C7 hy))
 ·exact Nat.le_of_lt (x.above y c (C7 h))
 ·have hi:i<vs.length:=by
   unfold start at h2;by_cases hi:i<vs.length
   ·exact hi
   ·rw[Bg (by simpa using hi)]at h2;rw[C9]at h2;split at h2<;>cases h2
  have ha:vs[i]?=some v:=by
   unfold start at h2;rw[af (by simpa using hi),au]at h2;cases e:vs[i]? with
   | none=>rw[e]at h2;cases h2
   | some a=>rw[e]at h2;cases h2;rfl
  obtain⟨u,hu,rv⟩:=r.get ha;have hp:ps[i]?=some y:=by
   rw[<-S.pre,List.getElem?_take_of_lt (by omega)];exact h1
  have ndP:ps.Nodup:=by rw[<-S.pre];exact S.nd.sublist (List.take_sublist _ _)
  refine⟨u,rv,?_⟩;rcases S.par y (av hp) with k | k
  ·exact .inl ⟨k,ZbT ndP hp hu k⟩
  ·obtain⟨c,e⟩:=Zd0 (n:=s.heap.objs.size+1) k;refine .inr ⟨.inl k,c,e,?_⟩;have q:=x.cell y c e;rw[ZbV ndP hp hu (by show scope.names.lookup y≠_;rw[k];decide)]at q;exact q
 ·exact e0.hok.fresh (Nat.le_of_lt (x.above y c (C7 h)))
 ·unfold start;show _=N.length;rw[b9,A_,List.length_replicate];omega
theorem ZnK{CX:CXT}{P:Program}{w:World}{K:Frag}{mg:Str->Option Value}{base:Heap}{k:Nat}{f:Addr}{name qual:Str}{params:Arguments}{body:List Stmt}{scope:Scope}{dV kV doc pm cdv ct oc:Value}{an od:Option Addr}
  {osl:Array (Option Value)}{N ps:List Str}{sp:Sp}(lk:K.lookup f=some ⟨oc,od,.func (fnOf name qual params body scope dV kV doc pm an cdv ct),osl⟩)(hcd:PySem.W.codeIn K cdv qual=true)(S:Zx N ps scope)
  (len:∀ vs H Q E,sp vs H Q E->vs.length=ps.length)
  (hbody:∀(A:Around) (outer:List Env) (s:Shared) (H:Hp) (vs:List V) (Q:VK) (E:XK),Room k (A.deeper (envOfC qual scope s.heap.objs.size f cdv))->sp vs H Q E ->
   ∃ t,PSs (Zjd CX P w K mg base N qual scope f cdv A outer s H E) body t/\t {nx:=fun _ H'=>Q .non H',rt:=Q} (start N vs) H) :
  ZiJ P w K mg base CX (k+1) f (fnOf name qual params body scope dV kV doc pm an cdv ct) ps sp:=by
 refine⟨len,fun A outer s H args us vs Q E hr e0 hb r hsp=>?_⟩;have hl:=len _ _ _ _ hsp;have KX:K.In s.heap:=e0.mod.kin.keeps fun b o e=>(e0.bs b o e).1;have lim:s.heap.NoLimit:=e0.mod.nolimit.keeps fun b o e=>(e0.bs b o e).1;have hkind:∀ y∈ps.zip us,scope.names.lookup y.1=some .local\/(scope.names.lookup y.1=some .cell/\((cellsFrom (s.heap.objs.size+1) scope.names []).lookup y.1).isSome=true):=fun⟨n,v⟩ hy=>by
  rcases S.par n (List.of_mem_zip hy).1 with q | q
  ·exact .inl q
  ·exact .inr ⟨q,PySem.W.cellsFrom_some _ _ _ (.inl q)⟩
 refine codeAny_call_function hr.depth (KX _ _ lk) rfl S.co S.gen rfl (PySem.W.codeRec_of KX hcd) (hb _ _ _ _ ?_);refine wpAny_newFunctionEnv_cells S.kind hkind fun env he s1 x=>?_;subst he;refine⟨lim.keeps x.toInCall.keep,codeAny_func ?_⟩;obtain⟨t,ht,hq⟩:=hbody A outer s H vs Q E (hr.deeper _) hsp;have I:Inv (Zjd CX P w K mg base N qual scope f cdv A outer s H E) [] (start N vs) H s1:=Zgm S hr.hd e0 hl r x;refine wpAny_mono (ht [] s1 (start N vs) H _ I hq) (fun fl s' hs=>?_) fun e s' hs=>hs;have fin:∀{σ':St} {H':Hp} {v:V} {u:Value},Inv (Zjd CX P w K mg base N qual scope f cdv A outer s H E) [] σ' H' s'->RelV v u->Q v H'->CE outer P w H s Q u s':=
  fun {σ' H' v u} J rv q=>⟨v,H',J.os,J.bare,J.base,J.hok,rv,q⟩
 cases fl with
 | ret u=>
  obtain⟨v,σ',H',J,rv,q⟩:=hs;exact fin J rv q
 | next=>
  obtain⟨σ',H',J,q⟩:=hs;exact fin (v:=V.non) (u:=Value.none) J rfl q
 | brk=>
  obtain⟨_,_,_,q⟩:=hs;exact False.elim q
 | cont=>
  obtain⟨_,_,_,q⟩:=hs;exact False.elim q
section
variable{X:Cx}{x:Str}{p pos:Pos}{e:Expr}{es:List Expr}{t:TA}{id T:String}{r:List V->Hp->VK->Prop}
def tCB(r:List V->Hp->VK->Prop)(t:TA):TE:=fun σ H Q=>t σ H fun vs H1=>r vs H1 Q
theorem ZhX(hc:WE X (.builtin id) r)(hg:Gl X x)(hm:X.mg x=none)(hv:bootBuiltins x=some (.builtin id))(ha:PA X (e::es) t)(hn:x≠"__name__":=by decide)(hdb:(x==("__debug__":Str))=false:=by decide)
  (he:starEach (e::es) X.env=(false,eval e X.env)::starEach es X.env:=by rfl)(hpl:(backTo pos (starEach es X.env)).any (·.1)=false:=by rfl):PE X (.Call (.Name x p) (e::es) [] pos) (tCB r t):=by
 intro pins s σ H Q I h;refine wpAny_Call_Name_kw (Jg I hg hm hv ?_ hn hdb);exact Br (thn (ha pos pins s σ H _ I h) fun us s1 ⟨vs,H1,I1,r1,q1⟩=>hc pins s1 σ H1 vs us Q I1 r1 q1) he hpl
theorem Zbh(hc:WE X (.type T) r)(hg:Gl X x)(hm:X.mg x=none)(hv:bootBuiltins x=some (.type T))(ha:PA X (e::es) t)(hn:x≠"__name__":=by decide)(hdb:(x==("__debug__":Str))=false:=by decide)
  (he:starEach (e::es) X.env=(false,eval e X.env)::starEach es X.env:=by rfl)(hpl:(backTo pos (starEach es X.env)).any (·.1)=false:=by rfl):PE X (.Call (.Name x p) (e::es) [] pos) (tCB r t):=by
 intro pins s σ H Q I h;refine wpAny_Call_Name_kw (Jg I hg hm hv ?_ hn hdb);exact Bl (thn (ha pos pins s σ H _ I h) fun us s1 ⟨vs,H1,I1,r1,q1⟩=>hc pins s1 σ H1 vs us Q I1 r1 q1) he hpl
end
end L2
namespace HT
open PySem PyProof.Rows
def lexLt:List Int->List Int->Bool
 | [],[]=>false
 | [],_::_=>true
 | _::_,[]=>false
 | x::xs,y::ys=>if x=y then lexLt xs ys else decide (x<y)
theorem lexLt_cons(x y:Int)(xs ys:List Int):lexLt (x::xs) (y::ys)=if x=y then lexLt xs ys else decide (x<y):=rfl
theorem lexLt_nil_nil:lexLt [] []=false:=rfl
theorem Wt(y:Int)(ys:List Int):lexLt [] (y::ys)=true:=rfl
theorem Wu(x:Int)(xs:List Int):lexLt (x::xs) []=false:=rfl
theorem Zip(A:Around)(s:Shared)(a:Int)(t:Tok)(c:Int)(u:Tok):∃ e,SeqAt.EqAt A s (.int a t) (.int c u) e/\(e=true ↔ a=c):=
 ⟨(a==c),SeqAt.EqAt.int_int a t c u,by simp⟩
theorem rcLt_int(A:Around)(s:Shared)(a:Int)(t:Tok)(c:Int)(u:Tok)(prog:Program)(w:World)(E:Value->Shared->Prop)(Q:Value->Shared->Prop)(h:Q (.bool (decide (a<c))) s):
  wpAny (model prog w) A (richCompare .Lt (.int a t) (.int c u)) Q E s:=
 (PyProof.Rows.lt_int h:wpAny (model prog w) A (compareOp .Lt (.int a t) (.int c u)) Q E s)
section
open PySem.SeqAt
open PySem.AutoSeq1 (wpAny_loadPart')
open PySem.MeetsSeq PySem.MeetsSeq2 PySem.MeetsSeq3
theorem Zaj(l b:Addr)(items items2:Array Value)(n n2:Nat)(dd dd2:Option Addr)(sl sl2:Array (Option Value))(ns ms:List Int)(hi:IntsAre items.toList ns)(hj:IntsAre items2.toList ms):
  Meets (Builtin.«tuple.__lt__» ⟨[.ref l,.ref b],[]⟩)
   (fun _ R s=>s.heap.get? l=some {cls:=.type "tuple",dict:=dd,data:=.seq items n,slots:=sl}/\s.heap.get? b=some {cls:=.type "tuple",dict:=dd2,data:=.seq items2 n2,slots:=sl2} /\
    R (.ok (.ret (.bool (lexLt ns ms)))) s):=
 .of_wp fun prog w A R s h=>by
  obtain⟨hp,g,d,tk,os⟩:=s;obtain⟨hl,hb,h⟩:=h;have f2:=AutoSeq1.sub_tuple_tuple;have z1:items.size=ns.length:=by rw[<-hi.length];simp
  have z2:items2.size=ms.length:=by rw[<-hj.length];simp
  wp_walk using wpAny_loadPart' hl,wpAny_loadPart' hb,wpAny_forIn_list _ (fun rest b s'=>b.1=none/\s'=⟨hp,g,d,tk,os⟩/\∃(vs ws:List Value) (ns' ms':List Int),rest=vs.zip ws /\
   IntsAre vs ns'/\IntsAre ws ms'/\ns'.length+items2.size=ms'.length+items.size/\R (.ok (.ret (.bool (lexLt ns' ms')))) ⟨hp,g,d,tk,os⟩) _
  case turn=>
   rintro⟨y,x⟩ rest b s' ⟨hb',rfl,vs,ws,ns',ms',hz,hvi,hwi,hlen,hR⟩;cases hvi with
   | nil=>rw[List.zip_nil_left]at hz;cases hz
   | cons a t hvi'=>
    cases hwi with
    | nil=>rw[List.zip_nil_right]at hz;cases hz
    | cons c u hwi'=>
     rw[List.zip_cons_cons]at hz;injection hz with hyx hrest;injection hyx with hy hx;subst hy hx;rw[lexLt_cons]at hR;simp only[B_]at hlen;obtain⟨e,he,hiff⟩:=Zip A.in1 ⟨hp,g,d,tk,os⟩ a t c u;refine wpAny_bind (he prog w _ _ ?_);cases e with
     | true=>
      rw[if_pos (hiff.mp rfl)]at hR
      wp_walk
      exact⟨rfl,rfl,_,_,_,_,hrest,hvi',hwi',by omega,hR⟩
     | false=>
      rw[if_neg (fun q=>absurd (hiff.mpr q) Bv)]at hR;have hri:=rcLt_int A.in1 ⟨hp,g,d,tk,os⟩ a t c u prog w
      wp_walk using hri
      exact⟨_,rfl,by simpa using hR⟩
  case fin=>
   rintro⟨b1,b2⟩ s' ⟨hb',rfl,vs,ws,ns',ms',hz,hvi,hwi,hlen,hR⟩;simp only at hb';subst hb';have hv:lexLt ns' ms'=decide (items.size<items2.size):=by
    cases hvi with
    | nil=>
     cases hwi with
     | nil=>
      simp only[C_]at hlen;rw[lexLt_nil_nil];exact(decide_eq_false (by omega)).symm
     | cons c u hw=>
      simp only[C_,B_]at hlen;rw[Wt];exact(decide_eq_true (by omega)).symm
    | cons a t hv=>
     cases hwi with
     | nil=>
      simp only[C_,B_]at hlen;rw[Wu];exact(decide_eq_false (by omega)).symm
     | cons c u hw=>
      rw[List.zip_cons_cons]at hz;cases hz
   rw[hv]at hR
   wp_walk
   exact⟨_,rfl,by simpa[Builtin.Tuple.tupleCompareSizes]using hR⟩
  case h=>
   exact⟨rfl,rfl,items.toList,items2.toList,ns,ms,rfl,hi,hj,by omega,h⟩
end
section
variable{prog:Program}{w:World}{A:Around}{E:Value->Shared->Prop}{s:Shared}
theorem lt_tupInts{l b:Addr}{items items2:Array Value}{ns ms:List Int}{Q:Value->Shared->Prop}(hl:IsTup s.heap l items)(hb:IsTup s.heap b items2)(hi:IntsAre items.toList ns)(hj:IntsAre items2.toList ms)
  (hu:A.units<cLine)(h:Q (.bool (lexLt ns ms)) s):wpAny (model prog w) A (compareOp .Lt (.ref l) (.ref b)) Q E s:=by
 obtain⟨⟨cls,dd,data,sl⟩,ho,hc,n,hd⟩:=id hl;obtain⟨⟨cls2,dd2,data2,sl2⟩,ho2,hc2,n2,hd2⟩:=id hb;simp only at hc hd hc2 hd2;subst hc hd hc2 hd2;exact richCompare_meets_room (op:=.Lt) ⟨_,ho,rfl⟩ ⟨_,ho2,rfl⟩ PySem.F.slot_tuple_lt PySem.F.entry_tuple_lt (PySem.F.args_tuple_lt_2 _ _) (Zaj l b items items2 n n2 dd dd2 sl sl2 ns ms hi hj)
  ⟨ho,ho2,show Value.bool (lexLt ns ms)≠Value.notImplemented/\Q (.bool (lexLt ns ms)) s from⟨(fun x=>nomatch x),h⟩⟩ hu
theorem cat_tup{t b:Addr}{vs ws:List Value}{Q:Value->Shared->Prop}(ht:IsTup s.heap t vs.toArray)(hb:IsTup s.heap b ws.toArray)(hv:vs≠[])
  (h1:ws=[]->Q (.ref t) s)(h2:ws≠[]->Q (.ref s.heap.objs.size) {s with heap:=s.heap.push {cls:=.type "tuple",data:=.seq (vs++ws).toArray}})
  (hsz:vs.length+ws.length<=sizeLine):wpAny (model prog w) A (binaryOp .Add (.ref t) (.ref b)) Q E s:=by
 obtain⟨⟨cls,dd,data,sl⟩,ho,hc,n,hd⟩:=id ht;obtain⟨⟨cls2,dd2,data2,sl2⟩,ho2,hc2,n2,hd2⟩:=id hb;simp only at hc hd hc2 hd2;subst hc hd hc2 hd2;have e:vs.toArray++ws.toArray=(vs++ws).toArray:=by simp
 by_cases hw:ws=[]
 ·exact concat_meets ⟨_,ho,rfl⟩ ⟨_,ho2,rfl⟩ noFill_tuple_add seq_tuple_add PySem.F.slot_tuple_add PySem.F.entry_tuple_add (PySem.F.args_tuple_add_2 _ _)
   (tuple_addW1 t b vs.toArray ws.toArray n n2 dd dd2 sl sl2 (by simpa using hv) (by simp[hw])) ⟨ho,ho2,h1 hw⟩
 ·refine concat_meets ⟨_,ho,rfl⟩ ⟨_,ho2,rfl⟩ noFill_tuple_add seq_tuple_add PySem.F.slot_tuple_add PySem.F.entry_tuple_add (PySem.F.args_tuple_add_2 _ _)
   (tuple_addW2 t b vs.toArray ws.toArray n n2 dd dd2 sl sl2 (by simpa using hv) (by simpa using hw) (by rw[Ac,Ac];exact hsz)) ⟨ho,ho2,?_⟩
  rw[e];exact h2 hw
noncomputable def sIx(n d:Nat):Option Int->Nat
 | none=>d
 | some v=>if v<0 then(v+(n:Int)).toNat else min v.toNat n
theorem sIx_none(n d:Nat):sIx n d none=d:=rfl
theorem sIx_nat(n d k:Nat):sIx n d (some (k:Int))=min k n:=by
 show(if(k:Int)<0 then((k:Int)+(n:Int)).toNat else min (k:Int).toNat n)=min k n;rw[if_neg (by omega),bo]
theorem Zlq(n d:Nat)(hd:d<=n)(o:Option Int):sIx n d o<=n:=by
 cases o with
 | none=>exact hd
 | some v=>
  show(if v<0 then(v+(n:Int)).toNat else min v.toNat n)<=n;by_cases hv:v<0
  ·rw[if_pos hv];omega
  ·rw[if_neg hv];exact b8 _ _
theorem Zg2(v:Int)(n d:Nat):(if v<0 then max (v+(n:Int)) 0 else min v (n:Int))=((sIx n d (some v):Nat):Int):=by
 show(if v<0 then max (v+(n:Int)) 0 else min v (n:Int))=(((if v<0 then(v+(n:Int)).toNat else min v.toNat n):Nat):Int);by_cases hv:v<0
 ·simp only[if_pos hv];omega
 ·simp only[if_neg hv];omega
theorem ZeY(lo hi:Option Int)(n:Nat):Builtin.Slice.sliceAdjust lo hi 1 (n:Int)=(((sIx n 0 lo:Nat):Int),((sIx n n hi:Nat):Int)):=by
 have h1:¬ ((1:Int)<0):=by omega
 unfold Builtin.Slice.sliceAdjust;simp only[h1,if_false];refine Bw ?_ ?_
 ·cases lo with
  | none=>rfl
  | some v=>exact Zg2 v n 0
 ·cases hi with
  | none=>rfl
  | some v=>exact Zg2 v n n
theorem Zel(i j:Nat):Builtin.Slice.slicePlaces (i:Int) (j:Int) 1=j-i:=by
 unfold Builtin.Slice.slicePlaces;have h1:(1:Int)>0:=by omega
 simp only[h1,if_true,Int.ediv_one];split<;>omega
theorem WL{v:Value}{o:Option Int}{Q:Option Int->Shared->Prop}(p:IsPart v o)(h:Q o s):wpAny (model prog w) A (Builtin.Slice.slicePartIndex v) Q E s:=by
 cases p with
 | none=>exact slicePart_none h
 | int i t=>exact slicePart_int h
theorem sliceApplied_gen{sl:Addr}{vl vu:Value}{lo hi:Option Int}{n:Nat}{Q:Int×Int×Nat->Shared->Prop}(hs:s.heap.IsSliceOf sl vl vu .none)(pl:IsPart vl lo)(pu:IsPart vu hi)
  (h:Q (((sIx n 0 lo:Nat):Int),1,sIx n n hi-sIx n 0 lo) s):wpAny (model prog w) A (Builtin.Slice.sliceApplied (.ref sl) (pure (n:Int))) Q E s:=by
 obtain⟨os,hos,hcs,hds⟩:=id hs;unfold Builtin.Slice.sliceApplied Builtin.Slice.sliceFields;refine wpAny_bind (wpAny_bind (wpAny_field hos hds (x:=vl) rfl (wpAny_bind (wpAny_field hos hds (x:=vu) rfl (wpAny_bind (wpAny_field hos hds (x:=.none) rfl (wpAny_pure ?_)))))));refine wpAny_bind (slicePart_none ?_);show wpAny _ _ (if((1:Int)==0)=true then _ else _) _ _ s;rw[if_neg (by decide)];refine wpAny_bind (WL pl (wpAny_bind (WL pu (wpAny_bind (wpAny_pure ?_)))));show wpAny _ _ (match Builtin.Slice.sliceAdjust lo hi 1 (n:Int) with | (lo,hi)=>pure (lo,(1:Int),Builtin.Slice.slicePlaces lo hi 1)) _ _ s;rw[ZeY lo hi n];show wpAny _ _ (pure (((sIx n 0 lo:Nat):Int),(1:Int),Builtin.Slice.slicePlaces ((sIx n 0 lo:Nat):Int) ((sIx n n hi:Nat):Int) 1)) _ _ s;rw[Zel];exact wpAny_pure h
theorem ZhT(xs:Array Value)(i k:Nat):((List.range k).filterMap fun(m:Nat)=>xs[((i:Int)+(m:Int)*1).toNat]?).toArray=((xs.toList.drop i).take k).toArray:=by
 have e:(fun(m:Nat)=>xs[((i:Int)+(m:Int)*1).toNat]?)=fun m=>xs[i+m]?:=by
  funext m
  have:((i:Int)+(m:Int)*1).toNat=i+m:=by omega
  rw[this]
 rw[e];have:=pick_run xs i k;rw[List.filterMap_map]at this;have e2:((fun x=>xs[x]?) ∘ fun x=>i+x)=fun m=>xs[i+m]?:=rfl;rw[e2]at this;rw[this]
theorem getItem_tuple_cut{t sl:Addr}{items:Array Value}{vl vu:Value}{lo hi:Option Int}{Q:Value->Shared->Prop}(ht:IsTup s.heap t items)(hs:s.heap.IsSliceOf sl vl vu .none)(pl:IsPart vl lo)(pu:IsPart vu hi)
  (hw:¬ (sIx items.size 0 lo=0/\sIx items.size items.size hi=items.size))
  (h:Q (.ref s.heap.objs.size) {s with heap:=s.heap.push {cls:=.type "tuple",data:=.seq ((items.toList.drop (sIx items.size 0 lo)).take (sIx items.size items.size hi-sIx items.size 0 lo)).toArray}})
  (hsz:items.size<=sizeLine):wpAny (model prog w) A (getItem (.ref t) (.ref sl)) Q E s:=by
 have htake:sizeOk (.seq ((items.toList.drop (sIx items.size 0 lo)).take (sIx items.size items.size hi-sIx items.size 0 lo)).toArray):=by
  show((items.toList.drop (sIx items.size 0 lo)).take (sIx items.size items.size hi-sIx items.size 0 lo)).toArray.size<=sizeLine;rw[Ac,C4,List.length_drop,Ba];omega
 have hj:sIx items.size items.size hi<=items.size:=Zlq _ _ (A7 _) hi;obtain⟨os,hos,hcs,hds⟩:=id hs;have hTs:s.TypeIs (.ref sl) "slice":=⟨os,hos,hcs⟩;unfold getItem
 try with_reducible refine wpAny_holding ?_
 first | refine wpAny_bind (wpAny_pure ?_) | skip
 refine wpAny_bind (wpAny_sequenceKey ht.typeIs (by decide) ?_);refine wpAny_bind (wpAny_callSpecial?_slot (name:=Str.ofString "__getitem__") ht.typeIs Ay
  (wpAny_call_entry Ay ht.typeIs entry_tuple_getitem ?_ (args_tuple_getitem _ _)))
 show wpAny _ _ (Builtin.Tuple.tupleItemsOf (.ref t) >>= _) _ _ s;refine wpAny_bind (tupleItemsOf_ ht ?_);refine wpAny_bind (wpAny_typeOf hTs ?_);rw[if_pos (by decide)];refine wpAny_bind (sliceApplied_gen hs pl pu ?_);have hno:¬ ((((sIx items.size 0 lo:Nat):Int)==0&&(1:Int)==1&&(sIx items.size items.size hi-sIx items.size 0 lo)==items.size)=true):=by
  intro q;rw[As,As]at q;have q1:((sIx items.size 0 lo:Nat):Int)=0:=eq_of_beq q.1.1;have q2:sIx items.size items.size hi-sIx items.size 0 lo=items.size:=eq_of_beq q.2;exact hw ⟨by omega,by omega⟩
 show wpAny _ _ (if(((sIx items.size 0 lo:Nat):Int)==0&&(1:Int)==1&&(sIx items.size items.size hi-sIx items.size 0 lo)==items.size)=true then _ else _) _ _ s;rw[if_neg hno,ZhT]
 first
  | exact wpAny_bind (m:=Builtin.Tuple.tupleExact _) (wpAny_newObj_type (wpAny_pure ⟨_,rfl,wpAny_pure h⟩) htake)
  | exact wpAny_bind (m:=Builtin.Tuple.tupleExact _) (wpAny_newObj_type (wpAny_bind (wpAny_pure (wpAny_pure ⟨_,rfl,wpAny_pure h⟩))) htake)
  | exact wpAny_bind (wpAny_bind (m:=Builtin.Tuple.tupleExact _) (wpAny_newObj_type (wpAny_pure (wpAny_pure ⟨_,rfl,wpAny_pure h⟩)) htake))
  | exact wpAny_bind (wpAny_bind (m:=Builtin.Tuple.tupleExact _) (wpAny_newObj_type (wpAny_pure ⟨_,rfl,wpAny_pure h⟩) htake))
end
end HT
namespace L2
open PySem PySem.Spec PyProof.Rows
abbrev TO:=St->Hp->(Option Int->Hp->Prop)->Prop
def PO(X:Cx)(e:Option Expr)(t:TO):Prop:=
 ∀(pins:List (Addr×Obj)) (s:Shared) (σ:St) (H:Hp) (Q:Option Int->Hp->Prop),Inv X pins σ H s->t σ H Q ->
  wpAny (model X.prog X.w) X.A (evalPart e X.env) (fun u s'=>∃ o H',Inv X pins σ H' s'/\IsPart u o/\Q o H') X.xe s
def Zjw:TO:=fun _ H Q=>Q none H
def Znd(t:TE):TO:=fun σ H Q=>t σ H fun x H1=>∃ i,x=.int i/\Q (some i) H1
section
variable{X:Cx}{e:Expr}{te:TE}{lo hi:Option Expr}{tl th:TO}{pos p2:Pos}
theorem ZjT:PO X none Zjw:=by
 intro pins s σ H Q I h;rw[evalPart_none];exact wpAny_pure ⟨none,H,I,.none,h⟩
theorem ZfI(h:PE X e te):PO X (some e) (Znd te):=by
 intro pins s σ H Q I hw;rw[evalPart_some];refine thn (h pins s σ H _ I hw) fun u s1 zq=>?_;obtain⟨x,H1,I1,r1,q1⟩:=zq;obtain⟨i,rfl,q⟩:=q1;obtain⟨t,rfl⟩:=r1;exact⟨some i,H1,I1,.int i t,q⟩
def SlR(X:Cx)(r:V->Option Int->Option Int->Hp->VK->Prop):Prop:=
 ∀(pins:List (Addr×Obj)) (s:Shared) (σ:St) (H:Hp) (x:V) (v vl vu:Value) (lo hi:Option Int) (sl:Addr) (Q:VK),Inv X pins σ H s->RelV x v->s.heap.IsSliceOf sl vl vu .none->IsPart vl lo->IsPart vu hi->r x lo hi H Q ->
  ∃ T id,typeLookup (.type T) "__getitem__"=pure (some (.builtin id))/\s.TypeIs v T/\wpAny (model X.prog X.w) X.A (getItem v (.ref sl)) (EP X pins σ Q) X.xe s
def tSl(r:V->Option Int->Option Int->Hp->VK->Prop)(te:TE)(tl th:TO):TE:=fun σ H Q=>te σ H fun x H1=>tl σ H1 fun l H2=>th σ H2 fun u H3=>r x l u H3 Q
theorem ZhU{r:V->Option Int->Option Int->Hp->VK->Prop}(hr:SlR X r)(he:PE X e te)(hl:PO X lo tl)(hu:PO X hi th):PE X (.Subscript e (.Slice lo hi none p2) pos) (tSl r te tl th):=by
 intro pins s σ H Q I h;refine Subscript_ (thn (he pins s σ H _ I h) fun v s1 zq=>?_);obtain⟨x,H1,I1,r1,q1⟩:=zq;refine wpAny_Slice (thn (hl pins s1 σ H1 _ I1 q1) fun vl s2 ⟨l,H2,I2,pl,q2⟩=>thn (hu pins s2 σ H2 _ I2 q2) fun vu s3 zq=>?_);obtain⟨u,H3,I3,pu,q3⟩:=zq;rw[evalPart_none];refine wpAny_pure ?_;have I4:Inv X pins σ H3 {s3 with heap:=s3.heap.push {cls:=.type "slice",data:=.fields #[vl,vu,.none]}}:=I3.kept (t':=s3.toks) fun b ob q=>Heap.get?_push_of_some _ q;obtain⟨T,id,hT,ht,hg⟩:=hr pins {s3 with heap:=s3.heap.push {cls:=.type "slice",data:=.fields #[vl,vu,.none]}} σ H3 x v vl vu l u s3.heap.objs.size Q I4 r1 (Heap.IsSliceOf.new ..) pl pu q3;show wpAny (model X.prog X.w) X.A (subscriptTail e (.Slice lo hi none p2) v (.ref s3.heap.objs.size)) (EP X pins σ Q) X.xe {s3 with heap:=s3.heap.push {cls:=.type "slice",data:=.fields #[vl,vu,.none]}};exact tail_any (ops:=[.ref s3.heap.objs.size,v]) ht hT hg (by with_unfolding_all rfl)
def Ze3(xs:List V)(lo hi:Option Int):List V:=(xs.drop (HT.sIx xs.length 0 lo)).take (HT.sIx xs.length xs.length hi-HT.sIx xs.length 0 lo)
theorem Wi(xs:List V)(lo hi:Option Int):(Ze3 xs lo hi).length<=xs.length:=by
 unfold Ze3;rw[C4,List.length_drop];omega
def ZoB(K:Frag):V->Option Int->Option Int->Hp->VK->Prop:=fun x lo hi H Q=>∃ a xs,x=.ref a/\SqT K H a xs /\
 ¬ (HT.sIx xs.length 0 lo=0/\HT.sIx xs.length xs.length hi=xs.length)/\∀ p,H p=none->Q (.ref p) (upd H p (.tup (Ze3 xs lo hi)))
theorem Zlg:SlR X (ZoB X.K):=by
 intro pins s σ H x v vl vu lo hi sl Q I rx hs pl pu h;obtain⟨a,xs,rfl,hx,hw,q⟩:=h;cases rx;obtain⟨its,r,ht,hz⟩:=I.tuple hx;have hlen:its.toArray.size=xs.length:=by rw[Ac];exact r.length.symm
 refine⟨"tuple",_,Ay.lookup,ht.typeIs,?_⟩;refine HT.getItem_tuple_cut ht hs pl pu (by rw[hlen];exact hw) ?_ (by rw[hlen];exact hz);rw[hlen];refine⟨.ref s.heap.objs.size,_,I.laid (t':=s.toks) (o:=.tup (Ze3 xs lo hi)) (fun b ob q=>Heap.get?_push_of_some _ q) (A7 _) ?_,rfl,q _ (I.hok.fresh (A7 _))⟩;exact⟨Ax (Wi xs lo hi) hz,_,(r.drop (HT.sIx xs.length 0 lo)).take (HT.sIx xs.length xs.length hi-HT.sIx xs.length 0 lo),TupD.new _ _⟩
theorem Vals.nil_iff{xs:List V}{us:List Value}(r:Vals xs us):us=[] ↔ xs=[]:=by
 cases r with
 | nil=>simp
 | cons _ _=>simp
end
def ixN(n:Nat)(i:Int):Option Nat:=if 0<=i then(if i<n then some i.toNat else none) else if -(n:Int)<=i then some (i+n).toNat else none
def atI{α:Type}(xs:List α)(i:Int):Option α:=(ixN xs.length i).bind fun j=>xs[j]?
theorem Zkh{n:Nat}{i:Int}{j:Nat}(h:ixN n i=some j):seqIndex? i n=some j/\j<n/\-(n:Int)<=i/\i<n:=by
 unfold ixN at h;by_cases h0:0<=i
 ·rw[if_pos h0]at h;by_cases h1:i<n
  ·rw[if_pos h1]at h;have e:i.toNat=j:=Option.some.inj h;exact⟨by rw[seqIndex_of h0 h1,e],by omega,by omega,h1⟩
  ·rw[if_neg h1]at h;cases h
 ·rw[if_neg h0]at h;by_cases h1:-(n:Int)<=i
  ·rw[if_pos h1]at h;have e:(i+n).toNat=j:=Option.some.inj h;exact⟨by rw[seqIndex_neg (by omega) h1,e],by omega,h1,by omega⟩
  ·rw[if_neg h1]at h;cases h
theorem ZcY{α:Type}{xs:List α}{i:Int}{v:α}(h:atI xs i=some v):∃ j,seqIndex? i xs.length=some j/\xs[j]?=some v/\j<xs.length/\-(xs.length:Int)<=i/\i<xs.length:=by
 unfold atI at h;cases e:ixN xs.length i with
 | none=>rw[e]at h;cases h
 | some j=>
  rw[e]at h;obtain⟨h1,h2,h3,h4⟩:=Zkh e;exact⟨j,h1,h,h2,h3,h4⟩
theorem ZkI{α:Type}{xs:List α}{j:Nat}{v:α}(h:xs[j]?=some v):atI xs (j:Int)=some v:=by
 have hj:j<xs.length:=(Ap.mp h).1;have e:ixN xs.length (j:Int)=some j:=by
  unfold ixN;rw[if_pos (by omega),if_pos (by omega)];simp
 unfold atI;rw[e];exact h
def Zho(b:Expr):Prop:=∀ o i,subscripted b false o i=operate [o,i] (getItem o i)
def IxR(X:Cx)(r:R2):Prop:=
 ∀(value slice:Expr) (pins:List (Addr×Obj)) (s:Shared) (σ:St) (H:Hp) (x y:V) (v u:Value) (Q:VK),Inv X pins σ H s->RelV x v->RelV y u->r x y H Q ->
  subscripted slice false v u=operate [v,u] (getItem v u)->wpAny (model X.prog X.w) X.A (subscriptTail value slice v u) (EP X pins σ Q) X.xe s
def MtR(X:Cx)(id:String)(r:V->List V->Hp->VK->Prop):Prop:=
 ∀(pins:List (Addr×Obj)) (s:Shared) (σ:St) (H:Hp) (x:V) (xs:List V) (v:Value) (us:List Value) (Q:VK),Inv X pins σ H s->RelV x v->Vals xs us->r x xs H Q ->
  wpAny (model X.prog X.w) X.A (call (.builtin id) (v::us)) (EP X pins σ Q) X.xe s
section
variable{X:Cx}{a b:Expr}{ta tb:TE}{pos:Pos}
theorem Znt{r:R2}(hr:IxR X r)(ha:PE X a ta)(hb:PE X b tb)(hs:Zho b):PE X (.Subscript a b pos) (tOp r ta tb):=by
 intro pins s σ H Q I h;exact Subscript_ (ZnV ha hb I h fun v u s2 x y H2 I2 rx ry q=>hr a b pins s2 σ H2 x y v u Q I2 rx ry q (hs _ _))
def ZoH(K:Frag):R2:=fun x y H Q=>∃ p xs i v,x=.ref p/\y=.int i/\SqL K H p xs/\atI xs i=some v/\Q v H
def ZoF(K:Frag):R2:=fun x y H Q=>∃ p xs i v,x=.ref p/\y=.int i/\SqT K H p xs/\atI xs i=some v/\Q v H
def ZoG:R2:=fun x y H Q=>∃ z i c,x=.str z/\y=.int i/\z.length<=sizeLine/\atI z.cps.toList i=some c/\Q (.str ⟨#[c]⟩) H
theorem Zkg:IxR X (ZoH X.K):=by
 intro value slice pins s σ H x y v u Q I rx ry h hs;obtain⟨p,xs,i,z,rfl,rfl,hq,he,q⟩:=h;cases rx;obtain⟨t,rfl⟩:=ry;obtain⟨its,r,pl,hz⟩:=I.list hq;obtain⟨j,h1,h2,h3,h4,h5⟩:=ZcY he;obtain⟨w,ew,rw'⟩:=r.get h2;have hl:=r.length;have hn:=Zbv;have fin:EP X pins σ Q w s:=⟨z,H,I,rw',q⟩;by_cases h0:0<=i
 ·have hj:i.toNat=j:=by
   rw[seqIndex_of h0 h5]at h1;exact Option.some.inj h1
  exact item_listR pl.isList h0 (by omega) (by rw[hj];simpa using ew) fin hs
 ·have hj:(i+(its.toArray.size:Int)).toNat=j:=by
   rw[seqIndex_neg (by omega) h4]at h1;rw[Ac,<-hl];exact Option.some.inj h1
  exact subscriptTail_builtinR (x:=w) pl.isList.typeIs slot_list_getitem.lookup
   (wpAny_getItem_list_neg (Q:=fun r s'=>r=w/\EP X pins σ Q r s') pl.isList (by omega) (by rw[Ac]<;>omega) (by omega) (by rw[hj];simpa using ew) ⟨rfl,fin⟩) hs
theorem Zmm:IxR X (ZoF X.K):=by
 intro value slice pins s σ H x y v u Q I rx ry h hs;obtain⟨p,xs,i,z,rfl,rfl,hq,he,q⟩:=h;cases rx;obtain⟨t,rfl⟩:=ry;obtain⟨its,r,pl,hz⟩:=I.tuple hq;obtain⟨j,h1,h2,h3,h4,h5⟩:=ZcY he;obtain⟨w,ew,rw'⟩:=r.get h2;have hl:=r.length;have hn:=Zbv;have fin:EP X pins σ Q w s:=⟨z,H,I,rw',q⟩;exact subscriptTail_builtinR (x:=w) pl.typeIs slot_tuple_getitem.lookup
  (getItem_tuple (j:=j) (Q:=fun r s'=>r=w/\EP X pins σ Q r s') pl (by omega) (by omega) (by rw[Ac,<-hl];exact h1) (by simpa using ew) ⟨rfl,fin⟩) hs
theorem Zmn:IxR X ZoG:=by
 intro value slice pins s σ H x y v u Q I rx ry h hs;obtain⟨z,i,c,rfl,rfl,hz,he,q⟩:=h;obtain⟨t,rfl⟩:=rx;obtain⟨t',rfl⟩:=ry;obtain⟨j,h1,h2,h3,h4,h5⟩:=ZcY he;have hl:z.cps.toList.length=z.length:=by simp[Str.length]
 rw[hl]at h1 h4 h5;have hn:=Zbv;exact tail_any (typeIs_str s z t) slot_str_getitem.lookup (getItem_str (c:=c) (by
  have e1:decide (i < -(2 ^ 63:Int))=false:=decide_eq_false (by omega);have e2:decide (i>=2 ^ 63)=false:=decide_eq_false (by omega);rw[e1,e2,C0]) (by rw[h1];simpa using h2) ⟨.str ⟨#[c]⟩,H,I.tok _,⟨_,rfl⟩,q⟩) hs
theorem Za8(lo hi:Option Int)(n:Nat):(sliceBounds lo hi none n).1=((HT.sIx n 0 lo:Nat):Int)/\(sliceBounds lo hi none n).2.1=((HT.sIx n n hi:Nat):Int)/\(sliceBounds lo hi none n).2.2=1:=by
 refine⟨?_,?_,rfl⟩
 ·cases lo with
  | none=>simp[sliceBounds,HT.sIx]
  | some i=>
   simp only[sliceBounds,HT.sIx,Option.getD_none,show(1:Int)>0 by decide,if_true];by_cases h:i<0
   ·simp only[h,if_true]<;>omega
   ·simp only[h,if_false]<;>omega
 ·cases hi with
  | none=>simp[sliceBounds,HT.sIx]
  | some i=>
   simp only[sliceBounds,HT.sIx,Option.getD_none,show(1:Int)>0 by decide,if_true];by_cases h:i<0
   ·simp only[h,if_true]<;>omega
   ·simp only[h,if_false]<;>omega
theorem Zal(its:List Value)(lo hi:Option Int):slicePick its.toArray lo hi none=((its.drop (HT.sIx its.length 0 lo)).take (HT.sIx its.length its.length hi-HT.sIx its.length 0 lo)).toArray:=by
 obtain⟨h1,h2,h3⟩:=Za8 lo hi its.toArray.size;unfold slicePick;rw[h1,h2,h3];simp only[sliceRange_one,pick_run,Ac]<;>rfl
def ZoC(K:Frag):V->Option Int->Option Int->Hp->VK->Prop:=fun x lo hi H Q=>∃ a xs,x=.ref a/\SqL K H a xs/\∀ p,H p=none->Q (.ref p) (upd H p (.lst (Ze3 xs lo hi)))
theorem ZjA:SlR X (ZoC X.K):=by
 intro pins s σ H x v vl vu lo hi sl Q I rx hs pl pu h;obtain⟨a,xs,rfl,hx,q⟩:=h;cases rx;obtain⟨its,r,ht,hz⟩:=I.list hx;have hlen:=r.length;refine⟨"list",_,slot_list_getitem.lookup,ht.isList.typeIs,?_⟩;refine wpAny_getItem_list_slice ht.isList hs pl pu .none (by simp) ?_ (by rw[Ac]<;>omega);rw[Zal,<-hlen];refine⟨.ref s.heap.objs.size,_,I.laid (t':=s.toks) (o:=.lst (Ze3 xs lo hi)) (fun b ob q=>Heap.get?_push_of_some _ q) (A7 _) ?_,rfl,q _ (I.hok.fresh (A7 _))⟩;exact⟨Ax (Wi xs lo hi) hz,_,0,(r.drop (HT.sIx xs.length 0 lo)).take (HT.sIx xs.length xs.length hi-HT.sIx xs.length 0 lo),Heap.get?_push_size _ rfl⟩
theorem Ve:WE X (.builtin "len") (fun xs H Q=>∃ p ys,xs=[.ref p]/\(SqL X.K H p ys\/SqT X.K H p ys)/\Q (.int ys.length) H):=by
 intro pins s σ H xs us Q I r h;obtain⟨p,ys,rfl,hq,q⟩:=h;obtain⟨u,rfl,rx⟩:=VD r;cases rx;have hn:=Zbv;rcases hq with hq | hq
 ·obtain⟨its,r',pl,hz⟩:=I.list hq;have hlen:=r'.length;exact Calls.call_len_list pl.isList (by simp only[Ac]<;>omega) ⟨.int ys.length,H,I.tok _,⟨s.toks+1,by rw[Ac,hlen]⟩,q⟩
 ·obtain⟨its,r',pl,hz⟩:=I.tuple hq;have hlen:=r'.length;exact len_tuple pl (by simp only[Ac]<;>omega) ⟨.int ys.length,H,I.tok _,⟨s.toks+1,by rw[Ac,hlen]⟩,q⟩
theorem ZbO:WE X (.builtin "len") (fun xs H Q=>∃ z,xs=[.str z]/\z.length<=sizeLine/\Q (.int z.length) H):=by
 intro pins s σ H xs us Q I r h;obtain⟨z,rfl,hz,q⟩:=h;obtain⟨u,rfl,t,rfl⟩:=VD r;have hn:=Zbv;exact len_str (by omega) ⟨.int z.length,H,I.tok _,⟨_,rfl⟩,q⟩
theorem Vd:WE X (.type "list") (fun xs H Q=>∃ p ys,xs=[.ref p]/\(SqL X.K H p ys\/SqT X.K H p ys)/\∀ l,H l=none->Q (.ref l) (upd H l (.lst ys))):=by
 intro pins s σ H xs us Q I r h;obtain⟨p,ys,rfl,hq,q⟩:=h;obtain⟨u,rfl,rx⟩:=VD r;cases rx;have fin:∀(its:List Value),Vals ys its->ys.length<=sizeLine->∀(h':Heap) (c':Nat),(∀ b o',s.heap.get? b=some o'->h'.get? b=some o') ->
   h'.get? s.heap.objs.size=some {cls:=.type "list",dict:=none,data:=.seq its.toArray c',slots:=#[]}->EP X pins σ Q (.ref s.heap.objs.size) {s with heap:=h'}:=fun its r' hz h' c' kp e=>
  ⟨.ref s.heap.objs.size,_,I.laid (t':=s.toks) kp (A7 _) (show ObjOk X.prog X.w _ h' _ (.lst ys) from⟨hz,its,c',r',e⟩),rfl,q _ (I.hok.fresh (A7 _))⟩
 rcases hq with hq | hq
 ·obtain⟨its,r',pl,hz⟩:=I.list hq;have hlen:=r'.length;obtain⟨o,ho,hc,n,hd⟩:=pl.isList;exact call_list_seq p (.inl rfl) ho hc hd (fun h' c' kp e=>fin its r' hz h' c' kp e) (by simp only[Ac]<;>omega)
 ·obtain⟨its,r',pl,hz⟩:=I.tuple hq;have hlen:=r'.length;obtain⟨o,ho,hc,n,hd⟩:=pl;exact call_list_seq p (.inr rfl) ho hc hd (fun h' c' kp e=>fin its r' hz h' c' kp e) (by simp only[Ac]<;>omega)
theorem UQ:WE X (.type "tuple") (fun xs H Q=>∃ p ys,xs=[.ref p]/\((SqL X.K H p ys/\∀ l,H l=none->Q (.ref l) (upd H l (.tup ys)))\/(SqT X.K H p ys/\Q (.ref p) H))):=by
 intro pins s σ H xs us Q I r h;obtain⟨p,ys,rfl,h⟩:=h;obtain⟨u,rfl,rx⟩:=VD r;cases rx;rcases h with⟨hq,q⟩ | ⟨hq,q⟩
 ·obtain⟨its,r',pl,hz⟩:=I.list hq;have hlen:=r'.length;refine call_tuple_list pl.isList (fun h' kp=>?_) (by simp only[Ac]<;>omega);have I1:Inv X pins σ H {s with heap:=h'}:=I.kept (t':=s.toks) kp;have I2:Inv X pins σ (upd H h'.objs.size (.tup ys)) {s with heap:=h'.push {cls:=.type "tuple",data:=.seq its.toArray}}:=
   I1.laid (t':=s.toks) (fun b o e=>Heap.get?_push_of_some _ e) (A7 _) (show ObjOk X.prog X.w _ _ _ (.tup ys) from⟨hz,its,r',TupD.new _ _⟩)
  exact⟨.ref h'.objs.size,_,I2,rfl,q _ (I1.hok.fresh (A7 _))⟩
 ·obtain⟨its,r',pl,hz⟩:=I.tuple hq;exact call_tuple_same pl ⟨.ref p,H,I,rfl,q⟩
def tyV(K:Frag)(T:String)(x:V)(H:Hp):Prop:=match x with
 | .str _=>T="str"
 | .int _=>T="int"
 | .ref p=>(T="list"/\∃ xs,SqL K H p xs)\/(T="tuple"/\∃ o,K.lookup p=some o/\o.cls=.type "tuple"/\o.dict=none) \/
   (T="dict"/\((∃ kvs,H p=some (.dK kvs))\/∃ kvs,H p=some (.dT kvs)))\/(T="set"/\∃ S n,H p=some (.set S n))
 | _=>False
theorem Zk7{pins:List (Addr×Obj)}{σ:St}{H:Hp}{s:Shared}{T:String}{x:V}{v:Value}(I:Inv X pins σ H s)(r:RelV x v)(ty:tyV X.K T x H):
  s.TypeIs v T/\∀ a,v=.ref a->∃ ob,s.heap.get? a=some ob/\ob.dict=none:=by
 cases x with
 | str z=>
  obtain⟨t,rfl⟩:=r;cases (show T="str" from ty);exact⟨typeIs_str s z t,fun _ e=>nomatch e⟩
 | int i=>
  obtain⟨t,rfl⟩:=r;cases (show T="int" from ty);exact⟨typeIs_int s i t,fun _ e=>nomatch e⟩
 | ref p=>
  cases r;rcases ty with⟨rfl,xs,hq⟩ | ⟨rfl,o,hk,hc,hd⟩ | ⟨rfl,hk⟩ | ⟨rfl,S,n,hk⟩
  ·obtain⟨its,_,pl,_⟩:=I.list hq;refine⟨pl.isList.typeIs,fun a e=>?_⟩;cases e;obtain⟨o,n,e,c,hd,_⟩:=pl;exact⟨o,e,hd⟩
  ·refine⟨⟨o,I.kIn p o hk,hc⟩,fun a e=>?_⟩;cases e;exact⟨o,I.kIn _ o hk,hd⟩
  ·have z:∃ o,s.heap.get? p=some o/\o.ExactDict:=by
    rcases hk with⟨kvs,hk⟩ | ⟨kvs,hk⟩
    ·obtain⟨_,_,_,_,o,_,_,e,ex,_⟩:=I.hok p _ hk;exact⟨o,e,ex⟩
    ·obtain⟨_,_,_,_,o,_,_,e,ex,_⟩:=I.hok p _ hk;exact⟨o,e,ex⟩
   obtain⟨o,e,ex⟩:=z;refine⟨⟨o,e,ex.1⟩,fun a e2=>?_⟩;cases e2;exact⟨o,e,ex.2.1⟩
  ·obtain⟨o,_,_,_,e,ex,_⟩:=I.hok p _ hk;refine⟨⟨o,e,ex.1⟩,fun a e2=>?_⟩;cases e2;exact⟨o,e,ex.2.1⟩
 | _=>exact False.elim ty
def tBM(K:Frag)(T:String)(r:V->List V->Hp->VK->Prop)(to:TE)(t:TA):TE:=fun σ H Q=>to σ H fun x H1=>tyV K T x H1/\t σ H1 fun xs H2=>r x xs H2 Q
variable{o e:Expr}{es:List Expr}{to:TE}{t:TA}{name:Str}{apos cpos:Pos}{T id:String}{r:V->List V->Hp->VK->Prop}
theorem Zj1(pa:PlainAttrs T)(slot:Slot T name id)(hty:typeOf (.builtin id)=pure (.type "method_descriptor"))(hm:MtR X id r)(ho:PE X o to)(ha:PA X (e::es) t)
  (hbase:attributeBase o name X.env (eval o X.env)=eval o X.env:=by rfl)
  (hfew:((backTo cpos (starEach (e::es) X.env)).all (fun x=>!x.1)&&(backToKw cpos (keywordEach [] X.env)).all (fun x=>x.1.isSome)
   && decide ((e::es).length+([]:List Keyword).length+(if([]:List Keyword).isEmpty then 0 else 1)<30))=true:=by rfl)
  (hline:(apos.endLine==cpos.line)=true:=by rfl) (hs:starEach (e::es) X.env=(false,eval e X.env)::starEach es X.env:=by rfl) (hplain:(backTo cpos (starEach es X.env)).any (·.1)=false:=by rfl) :
  PE X (.Call (.Attribute o name apos) (e::es) [] cpos) (tBM X.K T r to t):=by
 intro pins s σ H Q I h;refine wpAny_Call_method_late hbase hfew hline rfl (thn (ho pins s σ H _ I h) fun v s1 zq=>?_);obtain⟨x,H1,I1,r1,ty,q1⟩:=zq;obtain⟨h1,h2⟩:=Zk7 I1 r1 ty;refine⟨T,id,pa,slot,hty,h1,h2,?_⟩;have hA:=ha cpos pins s1 σ H1 _ I1 q1;rw[hs]at hA ⊢;refine Calls.callWith_builtin (by show(false||(backTo cpos (starEach es X.env)).any (·.1))=false;rw[hplain]<;>rfl) (Calls.evalArgs_plain ?_);exact thn hA fun us s2 ⟨vs,H2,I2,r2,q2⟩=>hm pins s2 σ H2 x vs v us Q I2 r1 r2 q2
end
def MtM(X:Cx)(id:String)(r:V->List V->Hp->VK->Prop):Prop:=
 ∀(pins:List (Addr×Obj)) (s:Shared) (σ:St) (H:Hp) (x:V) (xs:List V) (v:Value) (us:List Value) (Q:VK),Inv X pins σ H s->RelV x v->Vals xs us->r x xs H Q ->
  wpAny (model X.prog X.w) X.A (call (.builtin id) (v::us)) (EP X pins σ Q) X.xe s
theorem Vals.one:∀{x:V} {us:List Value},Vals [x] us->∃ u,us=[u]/\RelV x u
 | _,_,.cons r .nil=>⟨_,rfl,r⟩
theorem Vals.reverse{xs:List V}{us:List Value}(h:Vals xs us):Vals xs.reverse us.reverse:=by
 induction h with
 | nil=>exact .nil
 | cons r t ih=>rw[bp,bp];exact Vals.append ih (.cons r .nil)
section
variable{X:Cx}{pins:List (Addr×Obj)}{σ:St}{H:Hp}{s:Shared}{l b:Addr}{xs ys zs:List V}
theorem Inv.lset{its its':List Value}{n:Nat}{f:Array Value->Array Value}{t':Nat}(I:Inv X pins σ H s)(hH:H l=some (.lst xs))
  (e:s.heap.get? l=some {cls:=.type "list",data:=.seq its.toArray n})(hf:f its.toArray=its'.toArray)(hv:Vals ys its')(hz:ys.length<=sizeLine):
  Inv X pins σ (upd H l (.lst ys)) {s with heap:=s.heap.update l (Obj.mapSeq f),toks:=t'}:=by
 have q:=PySem.IsL.update e f;rw[hf]at q;refine I.write (x:=l) (e:=l) (by rw[hH];exact trivial) (.inl rfl) (fun b' u hb hu=>(Heap.get?_update_other s.heap (Obj.mapSeq f) (Ao hb)).trans hu) ⟨_,q⟩ ?_;exact⟨hz,its',_,hv,q⟩
theorem Inv.lnew{its:List Value}{t':Nat}(I:Inv X pins σ H s)(hv:Vals ys its)(hz:ys.length<=sizeLine):
  Inv X pins σ (upd H s.heap.objs.size (.lst ys)) {s with heap:=s.heap.push {cls:=.type "list",data:=.seq its.toArray},toks:=t'}:=
 I.laid (fun _ _ q=>Heap.get?_push_of_some _ q) (A7 _) ⟨hz,its,0,hv,Heap.get?_push_size _ rfl⟩
theorem Inv.fresh(I:Inv X pins σ H s):H s.heap.objs.size=none:=I.hok.fresh (A7 _)
theorem Inv.lstM(I:Inv X pins σ H s)(hH:H l=some (.lst xs)):xs.length<=sizeLine/\∃(its:List Value) (n:Nat),Vals xs its/\xs.length=its.length/\s.heap.get? l=some {cls:=.type "list",data:=.seq its.toArray n}:=by
 obtain⟨z,its,n,r,e⟩:=I.hok l _ hH;exact⟨z,its,n,r,r.length,e⟩
end
section
variable{X:Cx}
def ZjK:V->List V->Hp->VK->Prop:=fun x vs H Q=>∃ l xs y,x=.ref l/\vs=[y]/\H l=some (.lst xs)/\xs.length<sizeLine/\Q .non (upd H l (.lst (xs++[y])))
theorem Zbs:MtM X "list.append" ZjK:=by
 intro pins s σ H x vs v us Q I rx rv h;obtain⟨l,xs,y,rfl,rfl,hH,hz,q⟩:=h;cases rx;obtain⟨u,rfl,ru⟩:=rv.one;obtain⟨z,its,n,r,hl,e⟩:=I.lstM hH;refine call_meets F.slot_list_append ⟨_,e,rfl⟩ F.entry_list_append (F.args_list_append_2 _ _) (PySem.list_append l its.toArray n u (by rw[Ac];omega)) ⟨e,?_⟩;refine⟨.non,_,I.lset (its':=its++[u]) hH e (by simp) (r.append (.cons ru .nil)) ?_,rfl,q⟩;rw[b9,List.length_singleton];omega
end
section
variable{prog:Program}{w:World}{A:Around}{E:Value->Shared->Prop}{s:Shared}
end
section
variable{X:Cx}
end
end L2
namespace Att
open PySem PySem.W PySem.Calls PyProof.Rows
theorem V7{P:Params}{h:Heap}:∀(ns:List Int) (vs:List Value),WellAll P h vs (ns.map WData.int)->IntsAre vs ns:=by
 intro ns
 induction ns with
 | nil=>
  intro vs w;rw[List.map_nil]at w;cases w;exact .nil
 | cons n ns ih=>
  intro vs w;rw[Au]at w;cases w with
  | cons a b=>
   cases a;exact .cons _ _ (ih _ b)
theorem Zfq{l:OpenLaw}{n:Nat}(hn:l.most=some n){P:Params}{h:Heap}{args:List WData}{vals:List Value}
  (hpre:l.row.toRowW.claim.pre args=true)(hwl:WellAll P h vals args):
  ∃ a vs ns,vals=[Value.ref a]/\args=[WData.list (ns.map WData.int)]/\h.get? a=some {cls:=.type "list",data:=.seq vs.toArray}/\IntsAre vs ns/\ns.length<=n:=by
 have hsh:WShape.hasAll [] args [.list .int]=true:=(pre_splitW hpre).1;have hc:l.pre.holds [] {args:=args}=true:=(pre_splitW hpre).2;obtain⟨d,r,rfl,h1,h2⟩:=hasAllW_cons hsh;obtain rfl:=hasAllW_nil h2;obtain⟨xs,rfl,h3⟩:=hasW_list h1;obtain⟨ns,rfl⟩:=items_int h3;have hlen:ns.length<=n:=by
  unfold OpenLaw.pre at hc;have h4:(WTm.not (.lt (.lit (.int (n:Int))) (.len (.arg 0)))).holds [] {args:=[.list (ns.map .int)]}=true:=by
   have h4:=(holds_andW hc).1;rw[hn]at h4;exact h4
  have h5:=condW_of h4 (w_not (w_lt w_lit (w_len_list (w_arg rfl))));rw[A_]at h5;refine Nat.le_of_not_lt fun q=>?_;have q':(n:Int)<((ns.length:Nat):Int):=by omega
  first
   | (rw[decide_eq_true q']at h5;exact absurd h5 (by decide))
   | (simp at h5;omega)
 cases hwl with
 | cons w1 w2=>
  cases w2;cases w1 with
  | list ho hall=>exact⟨_,_,ns,rfl,rfl,ho,V7 ns _ hall,hlen⟩
theorem ZfH(l:OpenLaw)(args:List WData):l.row.toRowW.claim.post args (.bool true) args=true:=
 postW_of (r:=l.row.toRowW) (X:=(true==true))
  (show WShape.has [] (.bool true) .bool=true by first | rfl | decide | simp[WShape.has,WShape.arms,WShape.armsAll])
  (show(WTm.eq .res (.lit (.bool true))).value [] {args:=args,res:=some (.bool true),after:=args}=some (.bool (true==true)) from w_eq_bool (w_res rfl) w_lit) rfl
theorem attach_call{l:OpenLaw}{n:Nat}{q:Program}{loose:List Str}{XP:(Str->Option Value)->Heap->Prop}{YP:World->Heap->Prop}{d:DefRec}
  (hn:l.most=some n)(hdf:d.params.defaults=[])
  (call:∀(w:World) (s₀ s₁:Shared) (mg mb:Str->Option Value) (fa:Addr) (o:Obj) (pm cd doc:Value) (a:Addr) (vs:List Value) (ns:List Int),
   Ground q loose [] XP w s₀ mg mb s₁.heap->YP w s₁.heap ->
   s₁.heap.get? fa=some o->o.data=.func (docDef d.name d.params d.body d.scope pm cd doc)->s₁.heap.CodeRec cd d.name->mg d.name=some (.ref fa) ->
   s₁.heap.get? a=some {cls:=.type "list",data:=.seq vs.toArray}->IntsAre vs ns->ns.length<=n->s₁.gens=#[] ->
   codeAny (model l.prog w) callerA (.call (.ref fa) ⟨[.ref a],[]⟩) (fun r s'=>r=.ok (.ret (.bool true))/\OldK s₁.heap s'.heap/\s'.os=s₁.os/\AllBare s'.gens) s₁) :
  WalkO q loose XP YP l.row.toRowW d [] (fun f vs=>PySem.call f vs):=by
 intro w s₀ s₁ mg mb G Y fa o pm cd doc dV kV ho hd hcd hD hmg hg args vals as hpre hlay hrd hwl hlo;obtain rfl:dV=.none:=Dflts.none hD hdf;obtain rfl:kV=.none:=Dflts.noKw hD;obtain⟨a,vs,ns,rfl,rfl,hobj,hints,hlen⟩:=Zfq hn hpre hwl;refine enter_call (codeAny_mono (call w s₀ s₁ mg mb fa o pm cd doc a vs ns G Y ho (fd_plain hd) hcd hmg hobj hints hlen hg) fun r s' hq=>?_);obtain⟨rfl,h2,h3,h4⟩:=hq;exact⟨.inl ⟨.bool true,.bool true,[],rfl,fun _=>rfl,.bool true,ZfH l _,fun _=>⟨List.Pairwise.nil,fun _ hm=>(nomatch hm)⟩⟩,h2,h3,h4⟩
section
variable{prog:Program}{w:World}{A:Around}{E:Value->Shared->Prop}{s:Shared}{K:Frag}
end
end Att
namespace L2
open PySem PySem.Spec PyProof.Rows
theorem Za6:∀{vs:List Value} {ns:List Int},IntsAre vs ns->Vals (ns.map V.int) vs
 | _,_,.nil=>.nil
 | _,_,.cons n t h=>.cons ⟨t,rfl⟩ (Za6 h)
def Zn0(H:Hp):Prop:=∀ b,H b=none\/∃ o xs,H b=some (.frz o (.lst xs))
theorem Zh8{P:Program}{w:World}{K:Frag}{mg mb:Str->Option Value}{CX:CXT}{k:Nat}{fa a:Addr}{fd:FuncData}{x:Str}{sp:Sp}{s₁:Shared}{vs:List Value}{ns:List Int}
  (KX:K.In s₁.heap)(hns:s₁.heap.Ns mainGlobals mg)(hb:s₁.heap.Ns builtinsNs mb)(hbb:∀ x:Str,x≠"__name__"->mb x=bootBuiltins x)(hlim:s₁.heap.NoLimit)(hg:s₁.gens=#[])
  (ha:s₁.heap.get? a=some {cls:=.type "list",data:=.seq vs.toArray})(hi:IntsAre vs ns)(hl:ns.length<=sizeLine)(hr:Room k callerA)
  (F:∀ base:Heap,K.In base->base.Ns mainGlobals mg->ZiJ P w K mg base CX k fa fd [x] sp)(hbind:∀(s:Shared) (u:Value),BindsTo s fd ⟨[u],[]⟩ [(x,u)])
  (hsp:∀ H:Hp,Zn0 H->SqL K H a (ns.map V.int)->sp [.ref a] H (fun v _=>v=.bl true) fun _ _ _=>False)
  (hCX:∀ H e s',CX [] H s₁ (fun _ _ _=>False) e s'->False):
  codeAny (model P w) callerA (.call (.ref fa) ⟨[.ref a],[]⟩) (fun r s'=>r=.ok (.ret (.bool true))/\OldK s₁.heap s'.heap/\s'.os=s₁.os/\AllBare s'.gens) s₁:=by
 have rv:=Za6 hi;have lenV:=hi.length;have core:∀ H:Hp,Zn0 H->SqL K H a (ns.map V.int)->HOk P w H s₁.heap->(∀ b,H b≠none->b=a)->(H a≠none->K.lookup a=none) ->
   codeAny (model P w) callerA (.call (.ref fa) ⟨[.ref a],[]⟩) (fun r s'=>r=.ok (.ret (.bool true))/\OldK s₁.heap s'.heap/\s'.os=s₁.os/\AllBare s'.gens) s₁:=by
  intro H hO hS hok hA hK;have base_of:∀{b:Addr} {o:Obj},s₁.heap.get? b=some o->H b=none->(Zii s₁.heap H).get? b=some o:=fun e n=>Zih e n;have noA:∀{b:Addr} {o:Obj} {es:Array DictEntry} {ep:Nat},s₁.heap.get? b=some o->o.data=.dict es ep->H b=none:=fun {b o es ep} e d=>by
   cases q:H b with
   | none=>rfl
   | some u=>
    have e':b=a:=hA b (by rw[q];simp);subst e';rw[ha]at e;cases e;have d':Data.seq vs.toArray _=Data.dict es ep:=d;cases d'
  have nsK:∀{b:Addr} {m:Str->Option Value},s₁.heap.Ns b m->(Zii s₁.heap H).Ns b m:=fun {b m} ⟨o,es,ep,e,d,r⟩=>⟨o,es,ep,base_of e (noA e d),d,r⟩;have hKb:K.In (Zii s₁.heap H):=fun b o e=>base_of (KX b o e) (by
   cases q:H b with
   | none=>rfl
   | some u=>
    have e':b=a:=hA b (by rw[q];simp);subst e';rw[hK (by rw[q];simp)]at e;cases e)
  have hM:Mod K mg (Zii s₁.heap H):=⟨hKb,nsK hns,⟨mb,nsK hb,hbb⟩,let ⟨mc,h1,h2⟩:=hlim;⟨mc,nsK h1,h2⟩⟩;have e0:Zm5 P w K mg (Zii s₁.heap H) callerA [] s₁ H:=⟨rfl,hM,fun b o e=>Zj8 e,Nat.le_of_eq (Zgn _ _),trivial,fun b hb=>absurd (show b∈([]:List Addr) from hb) (by simp),hok,.of_eq hg⟩;refine codeAny_mono ((F _ hKb (nsK hns)).run callerA [] s₁ H ⟨[.ref a],[]⟩ [.ref a] [.ref a] _ _ hr e0 (hbind s₁ (.ref a)) (.cons rfl .nil) (hsp H hO hS)) fun r s' h=>?_;cases r with
  | error e=>exact(hCX H e s' h).elim
  | ok fl=>
   cases fl with
   | next=>exact False.elim h
   | brk=>exact False.elim h
   | cont=>exact False.elim h
   | ret u=>
    obtain⟨v,H',os,bare,un,hok',r',q⟩:=h;have q':v=.bl true:=q;subst q';obtain rfl:u=Value.bool true:=r';refine⟨rfl,OldK.of_keep fun b o e=>?_,os,bare⟩;cases q:H b with
    | none=>exact un.keep b o e q (by intro z;exact absurd (show b∈([]:List Addr) from z) (by simp)) (by simp)
    | some u=>
     rcases hO b with z | ⟨ob,xs,z⟩
     ·rw[q]at z;cases z
     ·have z2:=un.frzs b ob _ z;obtain⟨e1,_⟩:=hok b _ z;obtain⟨e2,_⟩:=hok' b _ z2;rw[e]at e1;cases e1;exact e2
 cases hk:K.lookup a with
 | some o=>
  have e:=KX a o hk;rw[ha]at e;cases e;refine core (fun _=>none) (fun _=>.inl rfl) (.inr ⟨_,vs.toArray,_,hk,rfl,rfl,rfl,by rw[Ac,lenV];exact hl,by simpa using rv⟩) (fun b u z=>by have z':(none:Option HO)=some u:=z;cases z') (fun b z=>absurd rfl z) fun z=>absurd rfl z
 | none=>
  refine core (fun b=>if b=a then some (.frz {cls:=.type "list",data:=.seq vs.toArray} (.lst (ns.map V.int))) else none) (fun b=>?_) (.inl (.inr ⟨{cls:=.type "list",data:=.seq vs.toArray},if_pos rfl⟩)) (fun b u z=>?_) (fun b z=>?_) fun _=>hk
  ·by_cases hb:b=a
   ·exact .inr ⟨_,_,if_pos hb⟩
   ·exact .inl (if_neg hb)
  ·by_cases hb:b=a
   ·have z':=(if_pos hb).symm.trans z;cases z';subst hb;exact⟨ha,by rw[A_];exact hl,vs,_,rv,ha⟩
   ·have z':=(if_neg hb).symm.trans z;cases z'
  ·by_cases hb:b=a
   ·exact hb
   ·exact absurd (if_neg hb) z
theorem walk_of{l:PySem.W.OpenLaw}{n k:Nat}{q:Program}{loose:List Str}{XP:(Str->Option Value)->Heap->Prop}{YP:World->Heap->Prop}{d:DefRec}{K:Params->Frag}{CX:World->CXT}{sp:World->Sp}{x:Str}
  (hn:l.most=some n)(hn2:n<=sizeLine)(hdf:d.params.defaults=[])(hr:Room k callerA)
  (hY:∀(w:World) (h:Heap),YP w h->(K w.params).In h)
  (F:∀(w:World) (mg:Str->Option Value) (fa:Addr) (h:Heap),(K w.params).In h->h.Ns mainGlobals mg->mg d.name=some (.ref fa) ->
   ∃ fd:FuncData,(∀(s:Shared) (u:Value),BindsTo s fd ⟨[u],[]⟩ [(x,u)]) /\
    ∀ base:Heap,(K w.params).In base->base.Ns mainGlobals mg->ZiJ l.prog w (K w.params) mg base (CX w) k fa fd [x] (sp w))
  (hsp:∀(w:World) (H:Hp) (a:Addr) (ns:List Int),ns.length<=n->Zn0 H->SqL (K w.params) H a (ns.map V.int)->sp w [.ref a] H (fun v _=>v=.bl true) fun _ _ _=>False)
  (hCX:∀(w:World) (H:Hp) (s:Shared) (e:Value) (s':Shared),CX w [] H s (fun _ _ _=>False) e s'->False) :
  PySem.W.WalkO q loose XP YP l.row.toRowW d [] (fun f vs=>PySem.call f vs):=by
 refine Att.attach_call hn hdf fun w s₀ s₁ mg mb fa o pm cd doc a vs ns G Y ho hd hcd hmg hobj hints hlen hg=>?_;have KX:=hY w _ Y;obtain⟨fd,hb,hF⟩:=F w mg fa _ KX G.T.g hmg;exact Zh8 KX G.T.g G.T.b G.T.builtins G.T.nolimit hg hobj hints (Ax hlen hn2) hr hF hb (fun H hO hS=>hsp w H a ns hlen hO hS) fun H e s'=>hCX w H s₁ e s'
def Um(s:Stmt):Arguments:=match s with
 | .FunctionDef _ a _ _ _ _ _ _ _ _=>a
 | _=>{posonlyargs:=[],args:=[],vararg:=none,kwonlyargs:=[],kw_defaults:=[],kwarg:=none,defaults:=[]}
def QS(s:Stmt):List Stmt:=match s with
 | .FunctionDef _ _ b _ _ _ _ _ _ _=>b
 | _=>[]
noncomputable def Zf(s:Stmt):Scope:=match s with
 | .FunctionDef _ _ _ _ _ _ sc _ _ _=>sc
 | _=>{kind:=.function,names:=[],isGenerator:=false,isCoroutine:=false}
abbrev CX0:CXT:=fun _ _ _ _ _ _=>False
abbrev E0:XK:=fun _ _ _=>False
theorem Znv{X:Cx}:Zhp CX0 X E0:=fun _ _ _ _ _ _ _ h=>h.elim
structure Fun(K:Frag)(x qual:Str)(st:Stmt)(f:Addr)(fd:FuncData):Prop where
 ex:∃(oc:Value) (od:Option Addr) (kV doc pm:Value) (an:Option Addr) (cdv ct:Value) (osl:Array (Option Value)),
  fd=fnOf x qual (Um st) (QS st) (Zf st) .none kV doc pm an cdv ct/\K.lookup f=some ⟨oc,od,.func fd,osl⟩/\PySem.W.codeIn K cdv qual=true
 kp:keepIn K (.ref f)=true
section
variable{P:Program}{w:World}{K:Frag}{mg:Str->Option Value}{base:Heap}
theorem Fun.ok{x qual:Str}{st:Stmt}{f:Addr}{fd:FuncData}{N ps:List Str}{k:Nat}{sp:Sp}(F:Fun K x qual st f fd)(S:Zx N ps (Zf st))(len:∀ vs H Q E,sp vs H Q E->vs.length=ps.length)
  (hbody:∀(cdv:Value) (A:Around) (outer:List Env) (s:Shared) (H:Hp) (vs:List V) (Q:VK) (E:XK),Room k (A.deeper (envOfC qual (Zf st) s.heap.objs.size f cdv))->sp vs H Q E ->
   ∃ t,PSs (Zjd CX0 P w K mg base N qual (Zf st) f cdv A outer s H E).nox (QS st) t/\t {nx:=fun _ H'=>Q .non H',rt:=Q} (start N vs) H):ZiJ P w K mg base CX0 (k+1) f fd ps sp:=by
 obtain⟨oc,od,kV,doc,pm,an,cdv,ct,osl,rfl,lk,hcd⟩:=F.ex;refine ZnK lk hcd S len fun A outer s H vs Q E hr hsp=>?_;obtain⟨t,h,q⟩:=hbody cdv A outer s H vs Q E hr hsp;exact⟨t,h.nox,q⟩
theorem Fun.binds{x qual:Str}{st:Stmt}{f:Addr}{fd:FuncData}{ps:List Str}(F:Fun K x qual st f fd)
  (h:∀(kV doc pm:Value) (an:Option Addr) (cdv ct:Value) (us:List Value),us.length=ps.length->bindArgs (fnOf x qual (Um st) (QS st) (Zf st) .none kV doc pm an cdv ct) ⟨us,[]⟩=pure (ps.zip us)):Binds K fd ps []:=by
 obtain⟨oc,od,kV,doc,pm,an,cdv,ct,osl,rfl,lk,hcd⟩:=F.ex;exact .all (h kV doc pm an cdv ct)
theorem Zmv{x qual:Str}{st:Stmt}{f:Addr}{oc:Value}{od an:Option Addr}{osl:Array (Option Value)}{kV doc pm cdv ct:Value}(l:K.lookup f=some ⟨oc,od,.func (fnOf x qual (Um st) (QS st) (Zf st) .none kV doc pm an cdv ct),osl⟩)
  (c:PySem.W.codeIn K cdv qual=true)(k:keepIn K (.ref f)=true):Fun K x qual st f (fnOf x qual (Um st) (QS st) (Zf st) .none kV doc pm an cdv ct):=⟨⟨oc,od,kV,doc,pm,an,cdv,ct,osl,rfl,l,c⟩,k⟩
end
section
variable{X:Cx}
theorem pv(i:Nat){x:Str}{pos:Pos}(hN:X.N[i]?=some x:=by rfl)(hv:Vis X.env.scope x:=by first | exact Or.inl rfl | exact Or.inr (Or.inl rfl) | exact Or.inr (Or.inr rfl))(hd:(x==("__debug__":Str))=false:=by decide)
  (hcd:(x==("__classdict__":Str))=false:=by decide):PE X (.Name x pos) (Zla i):=ZlE hN hv hd hcd
end
theorem Zoc{A B:Prop}(h:B):if false=true then A else B:=by
 rw[if_neg Bv];exact h
theorem Zob{A B:Prop}(h:A):if true=true then A else B:=by
 rw[if_pos rfl];exact h
def Same(H H':Hp):Prop:=∀ b o,H b=some o->H' b=some o
theorem Same.refl(H:Hp):Same H H:=fun _ _ h=>h
theorem Same.trans{H H1 H2:Hp}(a:Same H H1)(b:Same H1 H2):Same H H2:=fun c o h=>b c o (a c o h)
theorem Same.free{H H':Hp}(e:Same H H'){l:Addr}(h:H' l=Option.none):H l=Option.none:=by
 cases q:H l with
 | none=>rfl
 | some o=>
  rw[e l o q]at h;cases h
theorem Same.seq{K:Frag}{H H':Hp}{a:Addr}{xs:List V}(e:Same H H')(h:SqL K H a xs):SqL K H' a xs:=by
 rcases h with(h | ⟨o,h⟩) | h
 ·exact .inl (.inl (e _ _ h))
 ·exact .inl (.inr ⟨o,e _ _ h⟩)
 ·exact .inr h
end L2
namespace L3
open PySem PySem.Spec PyProof.Rows L2
inductive D where
 | non | bl (b:Bool) | int (i:Int) | str (x:Str) | tup (xs:List D) | lst (xs:List D)
 deriving Inhabited
abbrev Fz:=Addr->Prop
mutual
noncomputable def Rep(K:Frag)(F:Fz)(H:Hp):D->V->Prop
 | .non,v=>v=.non
 | .bl b,v=>v=.bl b
 | .int i,v=>v=.int i
 | .str x,v=>v=.str x
 | .tup ds,v=>∃ a xs,v=.ref a/\SqT K H a xs/\RepL K F H ds xs
 | .lst ds,v=>∃ a xs,v=.ref a/\F a/\SqL K H a xs/\RepL K F H ds xs
noncomputable def RepL(K:Frag)(F:Fz)(H:Hp):List D->List V->Prop
 | [],xs=>xs=[]
 | d::ds,xs=>∃ y ys,xs=y::ys/\Rep K F H d y/\RepL K F H ds ys
end
structure Ext(K:Frag)(F:Fz)(H:Hp)(F':Fz)(H':Hp):Prop where
 sub:∀ a,F a->F' a
 ls:∀ a xs,F a->SqL K H a xs->SqL K H' a xs
 ts:∀ a xs,SqT K H a xs->SqT K H' a xs
theorem Ext.refl{K:Frag}{F:Fz}{H:Hp}:Ext K F H F H:=⟨fun _ h=>h,fun _ _ _ h=>h,fun _ _ h=>h⟩
theorem Ext.trans{K:Frag}{F F1 F2:Fz}{H H1 H2:Hp}(a:Ext K F H F1 H1)(b:Ext K F1 H1 F2 H2):Ext K F H F2 H2:=
 ⟨fun x h=>b.sub x (a.sub x h),fun x xs hf h=>b.ls x xs (a.sub x hf) (a.ls x xs hf h),fun x xs h=>b.ts x xs (a.ts x xs h)⟩
mutual
theorem Rep.ext{K:Frag}{F F':Fz}{H H':Hp}(e:Ext K F H F' H'):∀{d:D} {v:V},Rep K F H d v->Rep K F' H' d v
 | .non,_,h=>h
 | .bl _,_,h=>h
 | .int _,_,h=>h
 | .str _,_,h=>h
 | .tup ds,_,h=>by
  unfold Rep at h ⊢;obtain⟨a,xs,rfl,ht,hr⟩:=h;exact⟨a,xs,rfl,e.ts a xs ht,RepL.ext e hr⟩
 | .lst ds,_,h=>by
  unfold Rep at h ⊢;obtain⟨a,xs,rfl,hf,hl,hr⟩:=h;exact⟨a,xs,rfl,e.sub a hf,e.ls a xs hf hl,RepL.ext e hr⟩
theorem RepL.ext{K:Frag}{F F':Fz}{H H':Hp}(e:Ext K F H F' H'):∀{ds:List D} {vs:List V},RepL K F H ds vs->RepL K F' H' ds vs
 | [],_,h=>h
 | d::ds,_,h=>by
  unfold RepL at h ⊢;obtain⟨y,ys,rfl,h1,h2⟩:=h;exact⟨y,ys,rfl,Rep.ext e h1,RepL.ext e h2⟩
end
theorem RepL.length{K:Frag}{F:Fz}{H:Hp}:∀{ds:List D} {vs:List V},RepL K F H ds vs->ds.length=vs.length
 | [],_,h=>by unfold RepL at h;subst h;rfl
 | d::ds,_,h=>by
  unfold RepL at h;obtain⟨y,ys,rfl,_,h2⟩:=h;simp[RepL.length h2]
theorem RepL.nil{K:Frag}{F:Fz}{H:Hp}:RepL K F H [] []:=by unfold RepL;rfl
theorem RepL.cons{K:Frag}{F:Fz}{H:Hp}{d:D}{ds:List D}{v:V}{vs:List V}(h1:Rep K F H d v)(h2:RepL K F H ds vs):RepL K F H (d::ds) (v::vs):=by
 unfold RepL;exact⟨v,vs,rfl,h1,h2⟩
theorem RepL.uncons{K:Frag}{F:Fz}{H:Hp}{d:D}{ds:List D}{vs:List V}(h:RepL K F H (d::ds) vs):∃ y ys,vs=y::ys/\Rep K F H d y/\RepL K F H ds ys:=by
 unfold RepL at h;exact h
theorem RepL.unnil{K:Frag}{F:Fz}{H:Hp}{vs:List V}(h:RepL K F H [] vs):vs=[]:=by unfold RepL at h;exact h
theorem RepL.get{K:Frag}{F:Fz}{H:Hp}:∀{ds:List D} {vs:List V} {i:Nat} {d:D},RepL K F H ds vs->ds[i]?=some d->∃ v,vs[i]?=some v/\Rep K F H d v
 | [],_,_,_,_,e=>by simp at e
 | d::ds,_,0,d',h,e=>by
  obtain⟨y,ys,rfl,h1,_⟩:=h.uncons;simp at e;subst e;exact⟨y,rfl,h1⟩
 | d::ds,_,i+1,d',h,e=>by
  obtain⟨y,ys,rfl,_,h2⟩:=h.uncons;obtain⟨v,e1,r⟩:=RepL.get (i:=i) h2 (by simpa using e);exact⟨v,by simpa using e1,r⟩
theorem RepL.append{K:Frag}{F:Fz}{H:Hp}:∀{ds es:List D} {vs ws:List V},RepL K F H ds vs->RepL K F H es ws->RepL K F H (ds++es) (vs++ws)
 | [],_,_,_,h,h'=>by rw[h.unnil];exact h'
 | d::ds,es,_,ws,h,h'=>by
  obtain⟨y,ys,rfl,h1,h2⟩:=h.uncons;exact .cons h1 (RepL.append h2 h')
theorem RepL.take{K:Frag}{F:Fz}{H:Hp}:∀{ds:List D} {vs:List V} (n:Nat),RepL K F H ds vs->RepL K F H (ds.take n) (vs.take n)
 | _,_,0,_=>by simp;exact .nil
 | [],_,_+1,h=>by rw[h.unnil];simp;exact .nil
 | d::ds,_,n+1,h=>by
  obtain⟨y,ys,rfl,h1,h2⟩:=h.uncons;exact .cons h1 (RepL.take n h2)
theorem RepL.drop{K:Frag}{F:Fz}{H:Hp}:∀{ds:List D} {vs:List V} (n:Nat),RepL K F H ds vs->RepL K F H (ds.drop n) (vs.drop n)
 | _,_,0,h=>h
 | [],_,_+1,h=>by rw[h.unnil];simp;exact .nil
 | d::ds,_,n+1,h=>by
  obtain⟨y,ys,rfl,h1,h2⟩:=h.uncons;exact RepL.drop n h2
theorem RepL.reverse{K:Frag}{F:Fz}{H:Hp}:∀{ds:List D} {vs:List V},RepL K F H ds vs->RepL K F H ds.reverse vs.reverse
 | [],_,h=>by rw[h.unnil];exact .nil
 | d::ds,_,h=>by
  obtain⟨y,ys,rfl,h1,h2⟩:=h.uncons;rw[bp,bp];exact(RepL.reverse h2).append (.cons h1 .nil)
structure Grow(F:Fz)(H:Hp)(F':Fz)(H':Hp):Prop where
 same:Same H H'
 sub:∀ a,F a->F' a
 new:∀ a,F' a->F a\/(H a=none/\H' a≠none)
theorem Grow.refl{F:Fz}{H:Hp}:Grow F H F H:=⟨Same.refl H,fun _ h=>h,fun _ h=>.inl h⟩
theorem Same.tup{K:Frag}{H H':Hp}{a:Addr}{xs:List V}(e:Same H H')(h:SqT K H a xs):SqT K H' a xs:=by
 rcases h with(h | ⟨o,h⟩) | h
 ·exact .inl (.inl (e _ _ h))
 ·exact .inl (.inr ⟨o,e _ _ h⟩)
 ·exact .inr h
theorem Grow.ext{K:Frag}{F F':Fz}{H H':Hp}(g:Grow F H F' H'):Ext K F H F' H':=⟨g.sub,fun _ _ _ h=>g.same.seq h,fun _ _ h=>Same.tup g.same h⟩
theorem Grow.trans{F F1 F2:Fz}{H H1 H2:Hp}(a:Grow F H F1 H1)(b:Grow F1 H1 F2 H2):Grow F H F2 H2:=
 ⟨a.same.trans b.same,fun x h=>b.sub x (a.sub x h),fun x h=>(b.new x h).elim (fun z=>(a.new x z).elim .inl fun⟨z1,z2⟩=>.inr ⟨z1,fun z3=>z2 (b.same.free z3)⟩) fun⟨z1,z2⟩=>.inr ⟨a.same.free z1,z2⟩⟩
theorem Grow.laid{F:Fz}{H:Hp}{p:Addr}{o:HO}(h:H p=none):Grow F H (fun a=>F a\/a=p) (upd H p o):=
 ⟨fun b u q=>by rw[ZJ (ZG q h)];exact q,fun a z=>.inl z,fun a z=>z.elim .inl fun e=>.inr (by rw[e,ZP];exact⟨h,by simp⟩)⟩
theorem Grow.laid0{F:Fz}{H:Hp}{p:Addr}{o:HO}(h:H p=none):Grow F H F (upd H p o):=
 ⟨fun b u q=>by rw[ZJ (ZG q h)];exact q,fun a z=>z,fun a z=>.inl z⟩
theorem Rep.grow{K:Frag}{F F':Fz}{H H':Hp}{d:D}{v:V}(h:Rep K F H d v)(g:Grow F H F' H'):Rep K F' H' d v:=Rep.ext g.ext h
theorem RepL.grow{K:Frag}{F F':Fz}{H H':Hp}{d:List D}{v:List V}(h:RepL K F H d v)(g:Grow F H F' H'):RepL K F' H' d v:=RepL.ext g.ext h
inductive Sl where
 | no | val (d:D) | own (ds:List D)
abbrev Rho:=List Sl
structure EnvOk(K:Frag)(F0:Fz)(H0:Hp)(F:Fz)(σ:L2.St)(H:Hp)(ρ:Rho):Prop where
 base:Grow F0 H0 F H
 val:∀(i:Nat) d,ρ[i]?=some (.val d)->∃ v,σ[i]?=some (some v)/\Rep K F H d v
 own:∀(i:Nat) ds,ρ[i]?=some (.own ds)->∃ a xs,σ[i]?=some (some (.ref a))/\H a=some (.lst xs)/\¬ F a/\H0 a=none/\RepL K F H ds xs
 inj:∀(i j:Nat) ds es a,ρ[i]?=some (.own ds)->ρ[j]?=some (.own es)->σ[i]?=some (some (.ref a))->σ[j]?=some (some (.ref a))->i=j
 len:ρ.length=σ.length
 fz:∀ a,F a->H a≠none\/∃ o,K.lookup a=some o
theorem EnvOk.grow{K:Frag}{F0 F F':Fz}{H0 H H':Hp}{σ:L2.St}{ρ:Rho}(e:EnvOk K F0 H0 F σ H ρ)(g:Grow F H F' H'):EnvOk K F0 H0 F' σ H' ρ where
 base:=e.base.trans g
 val:=fun i d h=>let ⟨v,h1,h2⟩:=e.val i d h;⟨v,h1,h2.grow g⟩
 own:=fun i ds h=>by
  obtain⟨a,xs,h1,h2,h3,h4,h5⟩:=e.own i ds h;refine⟨a,xs,h1,g.same _ _ h2,fun z=>?_,h4,h5.grow g⟩;rcases g.new a z with z | z
  ·exact h3 z
  ·rw[h2]at z;cases z.1
 inj:=e.inj
 len:=e.len
 fz:=fun a z=>by
  rcases g.new a z with z | z
  ·rcases e.fz a z with z | z
   ·exact .inl fun z2=>z (g.same.free z2)
   ·exact .inr z
  ·exact .inl z.2
abbrev DE:=Rho->Option D
abbrev DT:=Rho->Option Bool
abbrev DA:=Rho->Option (List D)
inductive RdP(K:Frag)(f:DE)(σ:L2.St)(H:Hp)(Q:VK):Prop
 | mk (ρ:Rho) (F0:Fz) (H0:Hp) (F:Fz) (d:D) (ok:EnvOk K F0 H0 F σ H ρ) (e:f ρ=some d) (q:∀ v F' H',Grow F H F' H'->Rep K F' H' d v->Q v H')
def rd(K:Frag)(f:DE):TE:=fun σ H Q=>RdP K f σ H Q
inductive Zo3(K:Frag)(f:DT)(σ:L2.St)(H:Hp)(Q:Bool->Hp->Prop):Prop
 | mk (ρ:Rho) (F0:Fz) (H0:Hp) (F:Fz) (d:Bool) (ok:EnvOk K F0 H0 F σ H ρ) (e:f ρ=some d) (q:∀ F' H',Grow F H F' H'->Q d H')
def rdT(K:Frag)(f:DT):TT:=fun σ H Q=>Zo3 K f σ H Q
inductive Zo8(K:Frag)(f:DA)(σ:L2.St)(H:Hp)(Q:List V->Hp->Prop):Prop
 | mk (ρ:Rho) (F0:Fz) (H0:Hp) (F:Fz) (d:List D) (ok:EnvOk K F0 H0 F σ H ρ) (e:f ρ=some d) (q:∀ v F' H',Grow F H F' H'->RepL K F' H' d v->Q v H')
def rdA(K:Frag)(f:DA):TA:=fun σ H Q=>Zo8 K f σ H Q
noncomputable def ED(X:Cx)(e:Expr)(f:DE):Prop:=PE X e (rd X.K f)
def TD(X:Cx)(e:Expr)(f:DT):Prop:=PT X e (rdT X.K f)
def WTD(X:Cx)(e:Expr)(f:DT):Prop:=PW X e (rdT X.K f)
def AD(X:Cx)(es:List Expr)(f:DA):Prop:=PA X es (rdA X.K f)
theorem PE.imp{X:Cx}{e:Expr}{t t':TE}(h:PE X e t)(i:∀ σ H Q,t' σ H Q->t σ H Q):PE X e t':=fun pins s σ H Q I q=>h pins s σ H Q I (i σ H Q q)
theorem PT.imp{X:Cx}{e:Expr}{t t':TT}(h:PT X e t)(i:∀ σ H Q,t' σ H Q->t σ H Q):PT X e t':=fun pins s σ H Q I q=>h pins s σ H Q I (i σ H Q q)
theorem PW.imp{X:Cx}{e:Expr}{t t':TT}(h:PW X e t)(i:∀ σ H Q,t' σ H Q->t σ H Q):PW X e t':=fun wh pins s σ H Q I q=>h wh pins s σ H Q I (i σ H Q q)
theorem PA.imp{X:Cx}{e:List Expr}{t t':TA}(h:PA X e t)(i:∀ σ H Q,t' σ H Q->t σ H Q):PA X e t':=fun pos pins s σ H Q I q=>h pos pins s σ H Q I (i σ H Q q)
theorem PS.imp{X:Cx}{e:Stmt}{t t':TS}(h:PS X e t)(i:∀ D σ H,t' D σ H->t D σ H):PS X e t':=fun pins s σ H D I q=>h pins s σ H D I (i D σ H q)
theorem PSs.imp{X:Cx}{e:List Stmt}{t t':TS}(h:PSs X e t)(i:∀ D σ H,t' D σ H->t D σ H):PSs X e t':=fun pins s σ H D I q=>h pins s σ H D I (i D σ H q)
section
variable{X:Cx}{pos:Pos}
noncomputable def Zd(i:Nat):DE:=fun ρ=>match ρ[i]? with | some (.val d)=>some d | _=>none
noncomputable def Zi(d:D):DE:=fun _=>some d
theorem ZgQ{i:Nat}{ρ:Rho}{d:D}(h:Zd i ρ=some d):ρ[i]?=some (.val d):=by
 unfold Zd at h;split at h
 ·rename_i e;rw[e];cases h;rfl
 ·cases h
theorem Za{i:Nat}{e:Expr}(h:PE X e (Zla i)):ED X e (Zd i):=PE.imp h fun σ H Q zq=>by
 obtain⟨ρ,F0,H0,F,d,ok,e,q⟩:=zq;obtain⟨v,h1,h2⟩:=ok.val i d (ZgQ e);exact⟨v,h1,q v F H .refl h2⟩
theorem Ze{i:Int}{j}:ED X (.Constant (.int i) j pos) (Zi (.int i)):=PE.imp ZiY fun σ H Q zq=>by
 obtain⟨ρ,F0,H0,F,d,ok,e,q⟩:=zq;cases e;exact q _ F H .refl (by unfold Rep;rfl)
theorem Jy{b:Bool}{j}:ED X (.Constant (.bool b) j pos) (Zi (.bl b)):=PE.imp Znu fun σ H Q zq=>by
 obtain⟨ρ,F0,H0,F,d,ok,e,q⟩:=zq;cases e;exact q _ F H .refl (by unfold Rep;rfl)
theorem ZdQ{x:Str}{j}:ED X (.Constant (.str x) j pos) (Zi (.str x)):=PE.imp ZlH fun σ H Q zq=>by
 obtain⟨ρ,F0,H0,F,d,ok,e,q⟩:=zq;cases e;exact q _ F H .refl (by unfold Rep;rfl)
theorem Zkx{x:Str}{i:Int}{t:Tok}(hg:Gl X x)(hm:X.mg x=some (.int i t))(hd:(x==("__debug__":Str))=false:=by decide):ED X (.Name x pos) (Zi (.int i)):=
 PE.imp (ZjX hg hm (v:=.int i) ⟨t,rfl⟩ hd) fun σ H Q ⟨ρ,F0,H0,F,d,ok,e,q⟩=>by cases e;exact q _ F H .refl (by unfold Rep;rfl)
inductive R2P(K:Frag)(r:D->D->Option D)(v u:V)(H:Hp)(Q:VK):Prop
 | mk (x y:D) (F:Fz) (d:D) (r1:Rep K F H x v) (r2:Rep K F H y u) (e:r x y=some d) (q:∀ w F' H',Grow F H F' H'->Rep K F' H' d w->Q w H')
noncomputable def r2(K:Frag)(r:D->D->Option D):R2:=fun v u H Q=>R2P K r v u H Q
noncomputable def Zg(r:D->D->Option D)(f g:DE):DE:=fun ρ=>(f ρ).bind fun x=>(g ρ).bind fun y=>r x y
theorem bind_some{α β:Type}{o:Option α}{f:α->Option β}{b:β}(h:o.bind f=some b):∃ a,o=some a/\f a=some b:=by
 cases o with
 | none=>cases h
 | some a=>exact⟨a,rfl,h⟩
theorem Zdq{K:Frag}{r:D->D->Option D}{f g:DE}{σ:L2.St}{H:Hp}{Q:VK}(h:rd K (Zg r f g) σ H Q):tOp (r2 K r) (rd K f) (rd K g) σ H Q:=by
 obtain⟨ρ,F0,H0,F,d,ok,e,q⟩:=h;obtain⟨x,ex,e⟩:=bind_some e;obtain⟨y,ey,e⟩:=bind_some e;exact⟨ρ,F0,H0,F,x,ok,ex,fun v F1 H1 g1 r1=>⟨ρ,F0,H0,F1,y,ok.grow g1,ey,fun u F2 H2 g2 r2'=>
  ⟨x,y,F2,d,r1.grow g2,r2',e,fun w F3 H3 g3 r3=>q w F3 H3 (g1.trans (g2.trans g3)) r3⟩⟩⟩
def Op2(X:Cx)(f:Value->Value->Sem Value)(r:D->D->Option D):Prop:=OpR X f (r2 X.K r)
variable{a b c:Expr}{f g h:DE}
theorem Zl{op:Operator}{r:D->D->Option D}(ho:Op2 X (binaryOp op) r)(ha:ED X a f)(hb:ED X b g):ED X (.BinOp a op b pos) (Zg r f g):=
 PE.imp (Zns ho ha hb) fun _ _ _=>Zdq
theorem ZbH{op:CmpOp}{r:D->D->Option D}(ho:Op2 X (compareOp op) r)(ha:ED X a f)(hb:ED X b g)(hm:behindInMarks op b=false):ED X (.Compare a [op] [b] pos) (Zg r f g):=
 PE.imp (ZjZ ho ha hb hm) fun _ _ _=>Zdq
noncomputable def Zo(f:DE):DT:=fun ρ=>(f ρ).bind fun d=>match d with | .bl b=>some b | _=>none
theorem Zaq{K:Frag}{f:DE}{σ:L2.St}{H:Hp}{Q:Bool->Hp->Prop}(h:rdT K (Zo f) σ H Q):rd K f σ H fun x H'=>∃ k,x=.bl k/\Q k H':=by
 obtain⟨ρ,F0,H0,F,k,ok,e,q⟩:=h;obtain⟨d,ed,e⟩:=bind_some e;cases d with
 | bl b=>
  cases e;exact⟨ρ,F0,H0,F,_,ok,ed,fun v F' H' g r=>⟨k,by unfold Rep at r;exact r,q F' H' g⟩⟩
 | _=>cases e
theorem Ya{op:CmpOp}{r:D->D->Option D}(ho:Op2 X (compareOp op) r)(ha:ED X a f)(hb:ED X b g)(hm:behindInMarks op b=false):TD X (.Compare a [op] [b] pos) (Zo (Zg r f g)):=
 PT.imp (ZjP ho ha hb hm) fun σ H Q q=>Zdq (Zaq q)
theorem Qp(ha:ED X a f)(he:∀ whole,isTrue a X.env whole=(do let v <- whole;standAt a.pos;holding [v] (truthy v)):=by intro _;rfl):TD X a (Zo f):=
 PT.imp (Zlx ha he) fun σ H Q q=>Zaq q
def J0(r r':D->D->Option D)(f g h:DE):DE:=fun ρ=>(f ρ).bind fun x=>(g ρ).bind fun y=>(r x y).bind fun z=>match z with
 | .bl true=>(h ρ).bind fun u=>r' y u
 | .bl false=>some (.bl false)
 | _=>none
theorem Zdr{K:Frag}{r r':D->D->Option D}{f g h:DE}{σ:L2.St}{H:Hp}{Q:VK}(q:rd K (J0 r r' f g h) σ H Q):Zfg (r2 K r) (r2 K r') (rd K f) (rd K g) (rd K h) σ H Q:=by
 obtain⟨ρ,F0,H0,F,d,ok,e,q⟩:=q;obtain⟨x,ex,e⟩:=bind_some e;obtain⟨y,ey,e⟩:=bind_some e;obtain⟨z,ez,e⟩:=bind_some e;refine⟨ρ,F0,H0,F,x,ok,ex,fun v F1 H1 g1 r1=>⟨ρ,F0,H0,F1,y,ok.grow g1,ey,fun u F2 H2 g2 r2'=>
  ⟨x,y,F2,z,r1.grow g2,r2',ez,fun w F3 H3 g3 r3=>?_⟩⟩⟩
 cases z with
 | bl k=>
  refine⟨k,by unfold Rep at r3;exact r3,?_⟩;cases k with
  | true=>
   rw[if_pos rfl];obtain⟨u',eu,e⟩:=bind_some e;exact⟨ρ,F0,H0,F3,u',((ok.grow g1).grow g2).grow g3,eu,fun w' F4 H4 g4 r4=>⟨y,u',F4,d,(r2'.grow g3).grow g4,r4,e,fun w5 F5 H5 g5 r5=>q w5 F5 H5 (g1.trans (g2.trans (g3.trans (g4.trans g5)))) r5⟩⟩
  | false=>
   rw[if_neg (by decide)];cases e;exact q _ F3 H3 (g1.trans (g2.trans g3)) (by unfold Rep;rfl)
 | _=>cases e
theorem UM{op op':CmpOp}{r r':D->D->Option D}(ho:Op2 X (compareOp op) r)(ho':Op2 X (compareOp op') r')(ha:ED X a f)(hb:ED X b g)(hc:ED X c h)
  (hm:lastMarks [op,op'] [b,c]=false:=by with_unfolding_all rfl):ED X (.Compare a [op,op'] [b,c] pos) (J0 r r' f g h):=
 PE.imp (ZhW ho ho' ha hb hc hm) fun _ _ _=>Zdr
theorem ZhD{op op':CmpOp}{r r':D->D->Option D}(ho:Op2 X (compareOp op) r)(ho':Op2 X (compareOp op') r')(ha:ED X a f)(hb:ED X b g)(hc:ED X c h)
  (hm:lastMarks [op,op'] [b,c]=false:=by with_unfolding_all rfl):TD X (.Compare a [op,op'] [b,c] pos) (Zo (J0 r r' f g h)):=
 PT.imp (ZhP ho ho' ha hb hc hm) fun σ H Q q=>Zdr (Zaq q)
def Zhx(f g:DE):DE:=fun ρ=>(f ρ).bind fun x=>match x with | .bl true=>g ρ | .bl false=>some (.bl false) | _=>none
def ZnP(f:DE):DE:=fun ρ=>(f ρ).bind fun x=>match x with | .bl k=>some (.bl (!k)) | _=>none
def Zec(f g:DT):DT:=fun ρ=>(f ρ).bind fun x=>match x with | true=>g ρ | false=>some false
def Vv(f g:DT):DT:=fun ρ=>(f ρ).bind fun x=>match x with | true=>some true | false=>g ρ
def Ji(f:DT):DT:=fun ρ=>(f ρ).bind fun x=>some (!x)
variable{rest:List Expr}{t u:DT}
theorem W3{op}(h:ED X a f):ED X (.BoolOp op [a] pos) f:=ZlI h
theorem Vc(ha:ED X a f)(hb:ED X (.BoolOp .And (b::rest) pos) g):ED X (.BoolOp .And (a::b::rest) pos) (Zhx f g):=PE.imp (ZlM ha hb) fun σ H Q zq=>by
 obtain⟨ρ,F0,H0,F,d,ok,e,q⟩:=zq;obtain⟨x,ex,e⟩:=bind_some e;refine⟨ρ,F0,H0,F,x,ok,ex,fun v F1 H1 g1 r1=>?_⟩;cases x with
 | bl k=>
  refine⟨k,by unfold Rep at r1;exact r1,?_⟩;cases k with
  | true=>rw[if_pos rfl];exact⟨ρ,F0,H0,F1,d,ok.grow g1,e,fun w F2 H2 g2 r2=>q w F2 H2 (g1.trans g2) r2⟩
  | false=>rw[if_neg (by decide)];cases e;exact q _ F1 H1 g1 (by unfold Rep;rfl)
 | _=>cases e
theorem ZmA(ha:ED X a f):ED X (.UnaryOp .Not a pos) (ZnP f):=PE.imp (ZlJ ha) fun σ H Q zq=>by
 obtain⟨ρ,F0,H0,F,d,ok,e,q⟩:=zq;obtain⟨x,ex,e⟩:=bind_some e;refine⟨ρ,F0,H0,F,x,ok,ex,fun v F1 H1 g1 r1=>?_⟩;cases x with
 | bl k=>refine⟨k,by unfold Rep at r1;exact r1,?_⟩;cases e;exact q _ F1 H1 g1 (by unfold Rep;rfl)
 | _=>cases e
theorem Zhy(ha:TD X a t):WTD X (.BoolOp .And [a] pos) t:=ZjL ha
theorem J9(ha:TD X a t):WTD X (.BoolOp .Or [a] pos) t:=Zlv ha
theorem Zjp(ha:TD X a t)(hb:WTD X (.BoolOp .And (b::rest) pos) u):WTD X (.BoolOp .And (a::b::rest) pos) (Zec t u):=PW.imp (Zlw ha hb) fun σ H Q zq=>by
 obtain⟨ρ,F0,H0,F,d,ok,e,q⟩:=zq;obtain⟨x,ex,e⟩:=bind_some e;refine⟨ρ,F0,H0,F,x,ok,ex,fun F1 H1 g1=>?_⟩;cases x with
 | true=>rw[if_pos rfl];exact⟨ρ,F0,H0,F1,d,ok.grow g1,e,fun F2 H2 g2=>q F2 H2 (g1.trans g2)⟩
 | false=>rw[if_neg (by decide)];cases e;exact q F1 H1 g1
theorem Jj(ha:TD X a t)(hb:WTD X (.BoolOp .Or (b::rest) pos) u):WTD X (.BoolOp .Or (a::b::rest) pos) (Vv t u):=PW.imp (Znp ha hb) fun σ H Q zq=>by
 obtain⟨ρ,F0,H0,F,d,ok,e,q⟩:=zq;obtain⟨x,ex,e⟩:=bind_some e;refine⟨ρ,F0,H0,F,x,ok,ex,fun F1 H1 g1=>?_⟩;cases x with
 | false=>rw[if_neg (by decide)];exact⟨ρ,F0,H0,F1,d,ok.grow g1,e,fun F2 H2 g2=>q F2 H2 (g1.trans g2)⟩
 | true=>rw[if_pos rfl];cases e;exact q F1 H1 g1
theorem ZiO(h:WTD X a t):TD X a t:=L2.PW.pt h
theorem Ux(ha:TD X a t):TD X (.UnaryOp .Not a pos) (Ji t):=PT.imp (Zly ha) fun σ H Q zq=>by
 obtain⟨ρ,F0,H0,F,d,ok,e,q⟩:=zq;obtain⟨x,ex,e⟩:=bind_some e;cases e;exact⟨ρ,F0,H0,F,x,ok,ex,fun F1 H1 g1=>q F1 H1 g1⟩
def dIf(t:DT)(f g:DE):DE:=fun ρ=>(t ρ).bind fun x=>match x with | true=>f ρ | false=>g ρ
theorem Zir(hc:TD X c t)(ha:ED X a f)(hb:ED X b g):ED X (.IfExp c a b pos) (dIf t f g):=PE.imp (ZhV hc ha hb) fun σ H Q zq=>by
 obtain⟨ρ,F0,H0,F,d,ok,e,q⟩:=zq;obtain⟨x,ex,e⟩:=bind_some e;refine⟨ρ,F0,H0,F,x,ok,ex,fun F1 H1 g1=>?_⟩;cases x with
 | true=>rw[if_pos rfl];exact⟨ρ,F0,H0,F1,d,ok.grow g1,e,fun w F2 H2 g2 r2=>q w F2 H2 (g1.trans g2) r2⟩
 | false=>rw[if_neg (by decide)];exact⟨ρ,F0,H0,F1,d,ok.grow g1,e,fun w F2 H2 g2 r2=>q w F2 H2 (g1.trans g2) r2⟩
noncomputable def r1(K:Frag)(r:D->Option D):V->Hp->VK->Prop:=fun v H Q=>∃ x F d,Rep K F H x v/\r x=some d/\∀ w F' H',Grow F H F' H'->Rep K F' H' d w->Q w H'
noncomputable def Jz(r:D->Option D)(f:DE):DE:=fun ρ=>(f ρ).bind r
def Op1(X:Cx)(f:Value->Sem Value)(r:D->Option D):Prop:=UnR X f (r1 X.K r)
theorem Zkw{op:UnaryOp}{r:D->Option D}(ho:Op1 X (unaryOp op) r)(ha:ED X a f):ED X (.UnaryOp op a pos) (Jz r f):=PE.imp (ZlF ho ha) fun σ H Q zq=>by
 obtain⟨ρ,F0,H0,F,d,ok,e,q⟩:=zq;obtain⟨x,ex,e⟩:=bind_some e;exact⟨ρ,F0,H0,F,x,ok,ex,fun v F1 H1 g1 r1=>⟨x,F1,d,r1,e,fun w F2 H2 g2 r2=>q w F2 H2 (g1.trans g2) r2⟩⟩
noncomputable def Zm:DA:=fun _=>some []
noncomputable def Zb(f:DE)(a:DA):DA:=fun ρ=>(f ρ).bind fun x=>(a ρ).bind fun xs=>some (x::xs)
variable{es:List Expr}{as:DA}
theorem Zh:AD X [] Zm:=PA.imp ZdA fun σ H Q ⟨ρ,F0,H0,F,d,ok,e,q⟩=>by cases e;exact q _ F H .refl .nil
theorem Zc(ha:ED X a f)(hr:AD X es as)(hs:starEach (a::es) X.env=(false,eval a X.env)::starEach es X.env:=by rfl):AD X (a::es) (Zb f as):=PA.imp (Zas ha hr hs) fun σ H Q zq=>by
 obtain⟨ρ,F0,H0,F,d,ok,e,q⟩:=zq;obtain⟨x,ex,e⟩:=bind_some e;obtain⟨xs,exs,e⟩:=bind_some e;cases e;exact⟨ρ,F0,H0,F,x,ok,ex,fun v F1 H1 g1 r1=>⟨ρ,F0,H0,F1,xs,ok.grow g1,exs,fun vs F2 H2 g2 r2=>q _ F2 H2 (g1.trans g2) (.cons (r1.grow g2) r2)⟩⟩
noncomputable def lim:Nat:=100000
theorem JX{n:Nat}(h:n<=lim):n<=sizeLine:=by have:sizeLine=16777216:=sizeLine_eq;unfold lim at h;omega
noncomputable def QD(as:DA):DE:=fun ρ=>(as ρ).bind fun xs=>if xs.length<=lim then some (.tup xs) else none
def Za4(as:DA):DE:=fun ρ=>(as ρ).bind fun xs=>if xs.length<=lim then some (.lst xs) else none
theorem Ye{c:Prop}[Decidable c]{α:Type}{x y:α}(h:(if c then some x else none)=some y):c/\x=y:=by
 by_cases hc:c
 ·rw[if_pos hc]at h;exact⟨hc,Option.some.inj h⟩
 ·rw[if_neg hc]at h;cases h
theorem Jh{x1}(ha:AD X es as):ED X (.Tuple es x1 pos) (QD as):=PE.imp (ZlG ha) fun σ H Q zq=>by
 obtain⟨ρ,F0,H0,F,d,ok,e,q⟩:=zq;obtain⟨xs,exs,e⟩:=bind_some e;obtain⟨hl,rfl⟩:=Ye e;refine⟨ρ,F0,H0,F,xs,ok,exs,fun vs F1 H1 g1 r1=>⟨by rw[<-r1.length];exact JX hl,fun p hp=>q _ F1 _ (g1.trans (.laid0 hp)) ?_⟩⟩;unfold Rep;exact⟨p,vs,rfl,.of ZP,r1.grow (.laid0 hp)⟩
theorem YF{K:Frag}{F:Fz}{H:Hp}{p:Addr}{ds:List D}{vs:List V}(hp:H p=none)(r:RepL K F H ds vs):Rep K (fun a=>F a\/a=p) (upd H p (.lst vs)) (.lst ds) (.ref p):=by
 unfold Rep;exact⟨p,vs,rfl,.inr rfl,.of ZP,r.grow (.laid hp)⟩
theorem W4(ha:AD X es as):ED X (.List es pos) (Za4 as):=PE.imp (ZlK ha) fun σ H Q zq=>by
 obtain⟨ρ,F0,H0,F,d,ok,e,q⟩:=zq;obtain⟨xs,exs,e⟩:=bind_some e;obtain⟨hl,rfl⟩:=Ye e;exact⟨ρ,F0,H0,F,xs,ok,exs,fun vs F1 H1 g1 r1=>⟨by rw[<-r1.length];exact JX hl,fun p hp=>q _ _ _ (g1.trans (.laid hp)) (YF hp r1)⟩⟩
inductive RCP(K:Frag)(r:List D->Option D)(vs:List V)(H:Hp)(Q:VK):Prop
 | mk (xs:List D) (F:Fz) (d:D) (r1:RepL K F H xs vs) (e:r xs=some d) (q:∀ w F' H',Grow F H F' H'->Rep K F' H' d w->Q w H')
def rC(K:Frag)(r:List D->Option D):List V->Hp->VK->Prop:=fun vs H Q=>RCP K r vs H Q
noncomputable def ZI(r:List D->Option D)(as:DA):DE:=fun ρ=>(as ρ).bind r
def WF(X:Cx)(f:Value)(r:List D->Option D):Prop:=WE X f (rC X.K r)
theorem ZfC{K:Frag}{r:List D->Option D}{as:DA}{σ:L2.St}{H:Hp}{Q:VK}(h:rd K (ZI r as) σ H Q):tCB (rC K r) (rdA K as) σ H Q:=by
 obtain⟨ρ,F0,H0,F,d,ok,e,q⟩:=h;obtain⟨xs,exs,e⟩:=bind_some e;exact⟨ρ,F0,H0,F,xs,ok,exs,fun vs F1 H1 g1 r1=>⟨xs,F1,d,r1,e,fun w F2 H2 g2 r2=>q w F2 H2 (g1.trans g2) r2⟩⟩
theorem ZD{id:String}{x:Str}{p:Pos}{e:Expr}{r:List D->Option D}(hc:WF X (.builtin id) r)(hg:Gl X x)(hm:X.mg x=none)(hv:bootBuiltins x=some (.builtin id))(ha:AD X (e::es) as)(hn:x≠"__name__":=by decide)(hdb:(x==("__debug__":Str))=false:=by decide)
  (he:starEach (e::es) X.env=(false,eval e X.env)::starEach es X.env:=by rfl)(hpl:(backTo pos (starEach es X.env)).any (·.1)=false:=by rfl):ED X (.Call (.Name x p) (e::es) [] pos) (ZI r as):=
 PE.imp (ZhX hc hg hm hv ha hn hdb he hpl) fun _ _ _=>ZfC
theorem Jx{T:String}{x:Str}{p:Pos}{e:Expr}{r:List D->Option D}(hc:WF X (.type T) r)(hg:Gl X x)(hm:X.mg x=none)(hv:bootBuiltins x=some (.type T))(ha:AD X (e::es) as)(hn:x≠"__name__":=by decide)(hdb:(x==("__debug__":Str))=false:=by decide)
  (he:starEach (e::es) X.env=(false,eval e X.env)::starEach es X.env:=by rfl)(hpl:(backTo pos (starEach es X.env)).any (·.1)=false:=by rfl):ED X (.Call (.Name x p) (e::es) [] pos) (ZI r as):=
 PE.imp (Zbh hc hg hm hv ha hn hdb he hpl) fun _ _ _=>ZfC
def spD(K:Frag)(n:Nat)(fn:List D->Option D):Sp:=fun vs H Q _=>∃ xs F d,xs.length=n/\RepL K F H xs vs/\(∀ a,F a->H a≠none\/∃ o,K.lookup a=some o)/\fn xs=some d/\∀ w F' H',Grow F H F' H'->Rep K F' H' d w->Q w H'
def FnD(P:Program)(w:World)(K:Frag)(mg:Str->Option Value)(base:Heap)(k:Nat)(f:Addr)(fd:FuncData)(ps:List Str)(fn:List D->Option D):Prop:=ZiJ P w K mg base CX0 k f fd ps (spD K ps.length fn)
noncomputable def dFn(n:Nat)(fn:List D->Option D)(as:DA):DE:=fun ρ=>(as ρ).bind fun xs=>if xs.length=n then fn xs else none
theorem ZnN{k:Nat}{f:Addr}{fd:FuncData}{ps:List Str}{fn:List D->Option D}{x:Str}{p:Pos}{e:Expr}(F:FnD X.prog X.w X.K X.mg X.base k f fd ps fn)(hr:Room k X.A)(hg:Gl X x)(hm:X.mg x=some (.ref f))(hk:keepIn X.K (.ref f)=true)(hb:Binds X.K fd ps [])
  (ha:AD X (e::es) as)(hdb:(x==("__debug__":Str))=false:=by decide)(he:starEach (e::es) X.env=(false,eval e X.env)::starEach es X.env:=by rfl)(hpl:(backTo pos (starEach es X.env)).any (·.1)=false:=by rfl):
  ED X (.Call (.Name x p) (e::es) [] pos) (dFn ps.length fn as):=PE.imp (Zj0 F hr hg hm hk hb .nil Znv ha hdb he hpl) fun σ H Q zq=>by
 obtain⟨ρ,F0,H0,Fr,d,ok,e,q⟩:=zq;obtain⟨xs,exs,e⟩:=bind_some e;by_cases hl:xs.length=ps.length
 ·rw[if_pos hl]at e;refine⟨ρ,F0,H0,Fr,xs,ok,exs,fun vs F1 H1 g1 r1=>?_⟩;show spD X.K ps.length fn (vs++[]) H1 Q E0;rw[List.append_nil];exact⟨xs,F1,d,hl,r1,(ok.grow g1).fz,e,fun w F2 H2 g2 r2=>q w F2 H2 (g1.trans g2) r2⟩
 ·rw[if_neg hl]at e;cases e
end
theorem Z3{K:Frag}{F:Fz}{H:Hp}(i:Int):Rep K F H (.int i) (.int i):=by unfold Rep;rfl
theorem Jf{K:Frag}{F:Fz}{H:Hp}(i:Bool):Rep K F H (.bl i) (.bl i):=by unfold Rep;rfl
mutual
noncomputable def YS:D->PyData
 | .non=>.none
 | .bl b=>.bool b
 | .int i=>.int i
 | .str x=>.str x
 | .tup xs=>.tuple (ZU xs)
 | .lst xs=>.list (ZU xs)
noncomputable def ZU:List D->List PyData
 | []=>[]
 | d::ds=>YS d::ZU ds
end
section
variable{X:Cx}{pins:List (Addr×Obj)}{σ:L2.St}{H:Hp}{s:Shared}{F:Fz}
mutual
theorem Yi(I:Inv X pins σ H s):∀{d:D} {v:V} {u:Value},Rep X.K F H d v->RelV v u->∃ as,Reads s.heap u (YS d) as
 | .non,v,u,h,r=>by unfold Rep at h;subst h;cases r;exact⟨_,.none⟩
 | .bl b,v,u,h,r=>by unfold Rep at h;subst h;cases r;exact⟨_,.bool b⟩
 | .int i,v,u,h,r=>by unfold Rep at h;subst h;obtain⟨t,rfl⟩:=r;exact⟨_,.int i t⟩
 | .str x,v,u,h,r=>by unfold Rep at h;subst h;obtain⟨t,rfl⟩:=r;exact⟨_,.str x t⟩
 | .tup ds,v,u,h,r=>by
  unfold Rep at h;obtain⟨a,xs,rfl,hq,hl⟩:=h;cases r;obtain⟨its,rv,⟨o,e,c,n,hd⟩,_⟩:=I.tuple hq;obtain⟨as,ra⟩:=Qk I hl rv;exact⟨_,.tuple e c hd (by simpa using ra)⟩
 | .lst ds,v,u,h,r=>by
  unfold Rep at h;obtain⟨a,xs,rfl,_,hq,hl⟩:=h;cases r;obtain⟨its,rv,pl,_⟩:=I.list hq;obtain⟨o,e,c,n,hd⟩:=pl.isList;obtain⟨as,ra⟩:=Qk I hl rv;exact⟨_,.list e c hd (by simpa using ra)⟩
theorem Qk(I:Inv X pins σ H s):∀{ds:List D} {vs:List V} {us:List Value},RepL X.K F H ds vs->Vals vs us->∃ as,ReadsAll s.heap us (ZU ds) as
 | [],vs,us,h,r=>by rw[h.unnil]at r;cases r;exact⟨_,.nil⟩
 | d::ds,vs,us,h,r=>by
  obtain⟨y,ys,rfl,h1,h2⟩:=h.uncons;cases r with
  | cons r1 r2=>
   obtain⟨as,a1⟩:=Yi I h1 r1;obtain⟨bs,a2⟩:=Qk I h2 r2;exact⟨_,.cons a1 a2⟩
end
end
noncomputable def okD(d:D):Bool:=(YS d).canLay0&&decide ((YS d).depth<=30)
noncomputable def deq(x y:D):Bool:=PyData.eqv (YS x) (YS y)
def Ze2(x y:D):Option D:=if okD x&&okD y then some (.bl (deq x y)) else none
noncomputable def Qi(x y:D):Option D:=if okD x&&okD y then some (.bl (!deq x y)) else none
theorem okD.can{d:D}(h:okD d=true):(YS d).canLay0=true:=(Ad.mp h).1
theorem okD.dep{d:D}(h:okD d=true):(YS d).depth<=30:=of_decide_eq_true (Ad.mp h).2
section
variable{X:Cx}
theorem ZmZ(hu:X.A.units+64<cLine):Op2 X (compareOp .Eq) Ze2:=by
 intro pins s σ H x y v u Q I rx ry h;obtain⟨dx,dy,F,d,r1,r2,e,q⟩:=h;obtain⟨hk,rfl⟩:=Ye e;obtain⟨k1,k2⟩:=Ad.mp hk;obtain⟨as,a1⟩:=Yi I r1 rx;obtain⟨bs,a2⟩:=Yi I r2 ry;have d1:=okD.dep k1;have d2:=okD.dep k2;exact SeqAt.eqOverData _ _ _ _ _ _ _ _ _ _ _ _ a1 a2 (okD.can k1) (okD.can k2) (by have:min (YS dx).depth (YS dy).depth<=30:=Ax (Nat.min_le_left _ _) d1;omega) ⟨.bl _,H,I,rfl,q _ F H .refl (Jf _)⟩
theorem ZdB(hu:X.A.units+64<cLine):Op2 X (compareOp .NotEq) Qi:=by
 intro pins s σ H x y v u Q I rx ry h;obtain⟨dx,dy,F,d,r1,r2,e,q⟩:=h;obtain⟨hk,rfl⟩:=Ye e;obtain⟨k1,k2⟩:=Ad.mp hk;obtain⟨as,a1⟩:=Yi I r1 rx;obtain⟨bs,a2⟩:=Yi I r2 ry;have d1:=okD.dep k1;have d2:=okD.dep k2;exact SeqAt.neOverData _ _ _ _ _ _ _ _ _ _ _ _ a1 a2 (okD.can k1) (okD.can k2) (by have:min (YS dx).depth (YS dy).depth<=30:=Ax (Nat.min_le_left _ _) d1;omega) ⟨.bl _,H,I,rfl,q _ F H .refl (Jf _)⟩
def dIn(x:D):D->Option Bool
 | .tup xs=>if okD x&&okD (.tup xs) then some (xs.any fun y=>deq y x) else none
 | .lst xs=>if okD x&&okD (.lst xs) then some (xs.any fun y=>deq y x) else none
 | _=>none
def Zm1(x y:D):Option D:=(dIn x y).map .bl
def Yy(x y:D):Option D:=(dIn x y).map fun b=>.bl (!b)
theorem Jk(x:D):∀ xs:List D,(ZU xs).any (fun y=>PyData.eqv y (YS x))=xs.any fun y=>deq y x
 | []=>by simp[ZU]
 | y::xs=>by simp[ZU,deq,Jk x xs]
theorem ZoJ(hu:X.A.units+64<cLine):Op2 X (compareOp .In) Zm1:=by
 intro pins s σ H x y v u Q I rx ry h;obtain⟨dx,dy,F,d,r1,r2,e,q⟩:=h;obtain⟨as,a1⟩:=Yi I r1 rx;obtain⟨bs,a2⟩:=Yi I r2 ry;cases dy with
 | tup ds=>
  have e:Option.map D.bl (if(okD dx&&okD (.tup ds))=true then some (ds.any fun y=>deq y dx) else none)=some d:=e;by_cases hk:(okD dx&&okD (.tup ds))=true
  ·rw[if_pos hk]at e;cases e;obtain⟨k1,k2⟩:=Ad.mp hk;have d1:=okD.dep k1;have d2:=okD.dep k2;have c2:=(okD.can k2);simp only[YS,PyData.canLay0,PyData.depth]at a2 d2 c2;refine SeqAt.in_tuple_reads a2 a1 c2 (okD.can k1) (by have:min (PyData.depthAll (ZU ds)) (YS dx).depth<=30:=Ax (b8 _ _) d1;omega) ⟨.bl _,H,I,rfl,q _ F H .refl ?_⟩;rw[Jk];exact Jf _
  ·rw[if_neg hk]at e;cases e
 | lst ds=>
  have e:Option.map D.bl (if(okD dx&&okD (.lst ds))=true then some (ds.any fun y=>deq y dx) else none)=some d:=e;by_cases hk:(okD dx&&okD (.lst ds))=true
  ·rw[if_pos hk]at e;cases e;obtain⟨k1,k2⟩:=Ad.mp hk;have d1:=okD.dep k1;have d2:=okD.dep k2;have c2:=(okD.can k2);simp only[YS,PyData.canLay0,PyData.depth]at a2 d2 c2;refine SeqAt.in_list_reads a2 a1 c2 (okD.can k1) (by have:min (PyData.depthAll (ZU ds)) (YS dx).depth<=30:=Ax (b8 _ _) d1;omega) ⟨.bl _,H,I,rfl,q _ F H .refl ?_⟩;rw[Jk];exact Jf _
  ·rw[if_neg hk]at e;cases e
 | _=>cases e
theorem Zcw(hu:X.A.units+64<cLine):Op2 X (compareOp .NotIn) Yy:=by
 intro pins s σ H x y v u Q I rx ry h;obtain⟨dx,dy,F,d,r1,r2,e,q⟩:=h;obtain⟨as,a1⟩:=Yi I r1 rx;obtain⟨bs,a2⟩:=Yi I r2 ry;cases dy with
 | tup ds=>
  have e:Option.map (fun b=>D.bl (!b)) (if(okD dx&&okD (.tup ds))=true then some (ds.any fun y=>deq y dx) else none)=some d:=e;by_cases hk:(okD dx&&okD (.tup ds))=true
  ·rw[if_pos hk]at e;cases e;obtain⟨k1,k2⟩:=Ad.mp hk;have d1:=okD.dep k1;have d2:=okD.dep k2;have c2:=(okD.can k2);simp only[YS,PyData.canLay0,PyData.depth]at a2 d2 c2;refine SeqAt.notIn_tuple_reads a2 a1 c2 (okD.can k1) (by have:min (PyData.depthAll (ZU ds)) (YS dx).depth<=30:=Ax (b8 _ _) d1;omega) ⟨.bl _,H,I,rfl,q _ F H .refl ?_⟩;rw[Jk];exact Jf _
  ·rw[if_neg hk]at e;cases e
 | lst ds=>
  have e:Option.map (fun b=>D.bl (!b)) (if(okD dx&&okD (.lst ds))=true then some (ds.any fun y=>deq y dx) else none)=some d:=e;by_cases hk:(okD dx&&okD (.lst ds))=true
  ·rw[if_pos hk]at e;cases e;obtain⟨k1,k2⟩:=Ad.mp hk;have d1:=okD.dep k1;have d2:=okD.dep k2;have c2:=(okD.can k2);simp only[YS,PyData.canLay0,PyData.depth]at a2 d2 c2;refine SeqAt.notIn_list_reads a2 a1 c2 (okD.can k1) (by have:min (PyData.depthAll (ZU ds)) (YS dx).depth<=30:=Ax (b8 _ _) d1;omega) ⟨.bl _,H,I,rfl,q _ F H .refl ?_⟩;rw[Jk];exact Jf _
  ·rw[if_neg hk]at e;cases e
 | _=>cases e
def dI(C:Int->Int->Bool)(g:Int->Int->D):D->D->Option D
 | .int i,.int j=>if C i j then some (g i j) else none
 | _,_=>none
theorem o_I{f:Value->Value->Sem Value}{C:Int->Int->Prop}{c:Int->Int->Bool}{g:Int->Int->V}{gd:Int->Int->D}(h:OpR X f (rI C g))(hc:∀ i j,c i j=true->C i j)(hg:∀ i j K F H,Rep K F H (gd i j) (g i j)):Op2 X f (dI c gd):=by
 intro pins s σ H x y v u Q I rx ry q;obtain⟨dx,dy,F,d,r1,r2,e,q⟩:=q;cases dx with
 | int i=>cases dy with
  | int j=>
   unfold dI at e;obtain⟨k,rfl⟩:=Ye e;unfold Rep at r1 r2;subst r1 r2;exact h pins s σ H _ _ v u Q I rx ry ⟨i,j,rfl,rfl,hc i j k,q _ F H .refl (hg i j _ _ _)⟩
  | _=>cases e
 | _=>cases e
theorem ZlW{f:Value->Value->Sem Value}{g:Int->Int->V}{gd:Int->Int->D}(h:OpR X f (rI0 g))(hg:∀ i j K F H,Rep K F H (gd i j) (g i j)):Op2 X f (dI (fun _ _=>true) gd):=by
 refine o_I (C:=fun _ _=>True) ?_ (fun _ _ _=>trivial) hg;intro pins s σ H x y v u Q I rx ry q;obtain⟨i,j,e1,e2,_,q⟩:=q;exact h pins s σ H x y v u Q I rx ry ⟨i,j,e1,e2,q⟩
noncomputable def Qy:D->D->Option D:=dI (fun _ _=>true) fun i j=>.int (i-j)
theorem QW:Op2 X (binaryOp .Sub) Qy:=ZlW ZlO fun i j _ _ _=>Z3 _
def Zk2(i j:Int):Bool:=(decide (-(2 ^ 64)<i)&&decide (i<2 ^ 64))||(decide (-(2 ^ 64)<j)&&decide (j<2 ^ 64))
theorem ZkF(i j:Int)(h:Zk2 i j=true):CMul i j:=by
 unfold Zk2 at h;rcases b6.mp h with h | h
 ·obtain⟨a,b⟩:=Ad.mp h;exact .inl ⟨of_decide_eq_true a,of_decide_eq_true b⟩
 ·obtain⟨a,b⟩:=Ad.mp h;exact .inr ⟨of_decide_eq_true a,of_decide_eq_true b⟩
noncomputable def YQ:D->D->Option D:=dI Zk2 fun i j=>.int (i*j)
theorem YU:Op2 X (binaryOp .Mult) YQ:=o_I ZlP ZkF fun i j _ _ _=>Z3 _
noncomputable def Q1:D->D->Option D:=dI (fun _ j=>decide (0<j)) fun i j=>.int (i%j)
theorem Jr:Op2 X (binaryOp .Mod) Q1:=o_I ZlQ (fun _ _ h=>of_decide_eq_true h) fun i j _ _ _=>Z3 _
def Zcb:D->D->Option D:=dI (fun _ j=>decide (0<j)&&decide (j<1073741824)) fun i j=>.int (i/j)
theorem Zep:Op2 X (binaryOp .FloorDiv) Zcb:=o_I Zj2 (fun _ _ h=>by obtain⟨a,b⟩:=Ad.mp h;exact⟨of_decide_eq_true a,of_decide_eq_true b⟩) fun i j _ _ _=>Z3 _
def dLt:D->D->Option D:=dI (fun _ _=>true) fun i j=>.bl (decide (i<j))
theorem ZlV:Op2 X (compareOp .Lt) dLt:=ZlW Znw fun i j _ _ _=>Jf _
def dLe:D->D->Option D:=dI (fun _ _=>true) fun i j=>.bl (decide (i<=j))
theorem ZfY:Op2 X (compareOp .LtE) dLe:=ZlW Znx fun i j _ _ _=>Jf _
def dGt:D->D->Option D:=dI (fun _ _=>true) fun i j=>.bl (decide (j<i))
theorem ZmY:Op2 X (compareOp .Gt) dGt:=ZlW Zny fun i j _ _ _=>Jf _
def dGe:D->D->Option D:=dI (fun _ _=>true) fun i j=>.bl (decide (j<=i))
theorem ZoK:Op2 X (compareOp .GtE) dGe:=ZlW Znz fun i j _ _ _=>Jf _
def Zit:D->Option D
 | .int i=>some (.int (-i))
 | _=>none
theorem Zj9:Op1 X (unaryOp .USub) Zit:=by
 intro pins s σ H x v Q I rx h;obtain⟨dx,F,d,r1,e,q⟩:=h;cases dx with
 | int i=>cases e;unfold Rep at r1;subst r1;exact ZiN pins s σ H _ v Q I rx ⟨i,rfl,q _ F H .refl (Z3 _)⟩
 | _=>cases e
theorem Zg3{pins:List (Addr×Obj)}{s:Shared}{σ:L2.St}{H:Hp}{l b:Addr}{xs zs:List V}{Q:VK}(I:Inv X pins σ H s)(hl:SqL X.K H l xs)(hb:SqL X.K H b zs)(hz:xs.length+zs.length<=sizeLine)
  (q:∀ p,H p=none->Q (.ref p) (upd H p (.lst (xs++zs)))):wpAny (model X.prog X.w) X.A (binaryOp .Add (.ref l) (.ref b)) (EP X pins σ Q) X.xe s:=by
 obtain⟨its,r,pl,z⟩:=I.list hl;obtain⟨its2,r2,pl2,z2⟩:=I.list hb;have hl1:=r.length;have hl2:=r2.length;have ea:its.toArray++its2.toArray=(its++its2).toArray:=by simp
 obtain⟨⟨cls,dd,data,sl⟩,ho,hc,n,hd⟩:=pl.isList;obtain⟨⟨cls2,dd2,data2,sl2⟩,ho2,hc2,n2,hd2⟩:=pl2.isList;simp only at hc hd hc2 hd2;subst hc hd hc2 hd2;refine concat_meets ⟨_,ho,rfl⟩ ⟨_,ho2,rfl⟩ noFill_list_add seq_list_add PySem.F.slot_list_add PySem.F.entry_list_add (PySem.F.args_list_add_2 _ _) (list_addW l b its.toArray its2.toArray n n2 dd dd2 sl sl2 (by rw[Ac,Ac];omega)) ⟨ho,ho2,?_⟩;rw[ea];exact⟨.ref _,_,I.lnew (t':=s.toks) (r.append r2) (by rw[b9];omega),rfl,q _ I.fresh⟩
theorem ZiE{pins:List (Addr×Obj)}{s:Shared}{σ:L2.St}{H:Hp}{a b:Addr}{xs ys:List V}{Q:VK}(I:Inv X pins σ H s)(ha:SqT X.K H a xs)(hb:SqT X.K H b ys)(hz:xs.length+ys.length<=sizeLine)
  (q0:xs=[]->Q (.ref b) H)(q1:ys=[]->Q (.ref a) H)(q2:∀ p,H p=none->Q (.ref p) (upd H p (.tup (xs++ys)))):wpAny (model X.prog X.w) X.A (binaryOp .Add (.ref a) (.ref b)) (EP X pins σ Q) X.xe s:=by
 obtain⟨its,r1,p1,_⟩:=I.tuple ha;obtain⟨its2,r2,p2,_⟩:=I.tuple hb;by_cases h0:its=[]
 ·obtain⟨⟨cls,dd,data,sl⟩,ho,hc,n,hd⟩:=id p1;obtain⟨⟨cls2,dd2,data2,sl2⟩,ho2,hc2,n2,hd2⟩:=id p2;simp only at hc hd hc2 hd2;subst hc hd hc2 hd2;exact concat_meets ⟨_,ho,rfl⟩ ⟨_,ho2,rfl⟩ noFill_tuple_add seq_tuple_add PySem.F.slot_tuple_add PySem.F.entry_tuple_add (PySem.F.args_tuple_add_2 _ _)
   (tuple_addW0 a b its.toArray its2.toArray n n2 dd dd2 sl sl2 (by simp[h0])) ⟨ho,ho2,⟨.ref b,H,I,rfl,q0 (r1.nil_iff.mp h0)⟩⟩
 ·refine HT.cat_tup p1 p2 h0 (fun z=>⟨.ref a,H,I,rfl,q1 (r2.nil_iff.mp z)⟩) (fun z=>?_) (by rw[<-r1.length,<-r2.length];exact hz);refine⟨.ref s.heap.objs.size,_,I.laid (t':=s.toks) (o:=.tup (xs++ys)) (fun b ob q=>Heap.get?_push_of_some _ q) (A7 _) ?_,rfl,q2 _ (I.hok.fresh (A7 _))⟩;exact⟨by rw[b9];exact hz,_,r1.append r2,TupD.new _ _⟩
noncomputable def Yn:D->D->Option D
 | .int i,.int j=>some (.int (i+j))
 | .lst a,.lst b=>if a.length+b.length<=lim then some (.lst (a++b)) else none
 | .tup a,.tup b=>if a.length+b.length<=lim then some (.tup (a++b)) else none
 | .str a,.str b=>if a.length+b.length<=lim then some (.str (a++b)) else none
 | _,_=>none
theorem Qd:Op2 X (binaryOp .Add) Yn:=by
 intro pins s σ H x y v u Q I rx ry q;obtain⟨dx,dy,F,d,r1,r2,e,q⟩:=q;cases dx with
 | int i=>cases dy with
  | int j=>
   cases e;unfold Rep at r1 r2;subst r1 r2;exact ZlR pins s σ H _ _ v u Q I rx ry ⟨i,j,rfl,rfl,q _ F H .refl (Z3 _)⟩
  | _=>cases e
 | str i=>cases dy with
  | str j=>
   unfold Yn at e;obtain⟨hl,rfl⟩:=Ye e;unfold Rep at r1 r2;subst r1 r2;exact Zem pins s σ H _ _ v u Q I rx ry ⟨i,j,rfl,rfl,JX hl,q _ F H .refl (by unfold Rep;rfl)⟩
  | _=>cases e
 | lst a=>cases dy with
  | lst b=>
   unfold Yn at e;obtain⟨hl,rfl⟩:=Ye e;unfold Rep at r1 r2;obtain⟨l1,xs,rfl,f1,h1,k1⟩:=r1;obtain⟨l2,ys,rfl,f2,h2,k2⟩:=r2;cases rx;cases ry;refine Zg3 I h1 h2 (by rw[<-k1.length,<-k2.length];exact JX hl) fun p hp=>q _ _ _ (.laid hp) (YF hp (k1.append k2))
  | _=>cases e
 | tup a=>cases dy with
  | tup b=>
   unfold Yn at e;obtain⟨hl,rfl⟩:=Ye e;have r1':=r1;have r2':=r2;unfold Rep at r1 r2;obtain⟨l1,xs,rfl,h1,k1⟩:=r1;obtain⟨l2,ys,rfl,h2,k2⟩:=r2;cases rx;cases ry;refine ZiE I h1 h2 (by rw[<-k1.length,<-k2.length];exact JX hl) (fun z=>?_) (fun z=>?_) fun p hp=>q _ F _ (.laid0 hp) ?_
   ·have:a=[]:=Bt (by rw[k1.length,z];rfl);subst this;exact q _ F H .refl r2'
   ·have:b=[]:=Bt (by rw[k2.length,z];rfl);subst this;rw[List.append_nil]at q;exact q _ F H .refl r1'
   ·unfold Rep;exact⟨p,xs++ys,rfl,.of ZP,(k1.append k2).grow (.laid0 hp)⟩
  | _=>cases e
 | _=>cases e
noncomputable def dIx:D->D->Option D
 | .lst xs,.int i=>atI xs i
 | .tup xs,.int i=>atI xs i
 | .str z,.int i=>if z.length<=lim then(atI z.cps.toList i).map fun c=>.str ⟨#[c]⟩ else none
 | _,_=>none
def IxD(X:Cx)(r:D->D->Option D):Prop:=IxR X (r2 X.K r)
theorem ZB{a b:Expr}{f g:DE}{pos:Pos}{r:D->D->Option D}(hr:IxD X r)(ha:ED X a f)(hb:ED X b g)(hs:Zho b):ED X (.Subscript a b pos) (Zg r f g):=PE.imp (Znt hr ha hb hs) fun _ _ _=>Zdq
theorem Zhc{K:Frag}{F:Fz}{H:Hp}{ds:List D}{vs:List V}{i:Int}{d:D}(r:RepL K F H ds vs)(h:atI ds i=some d):∃ v,atI vs i=some v/\Rep K F H d v:=by
 unfold atI at h ⊢;obtain⟨j,e1,e2⟩:=bind_some h;obtain⟨v,e3,e4⟩:=r.get e2;exact⟨v,by rw[<-r.length,e1];exact e3,e4⟩
theorem Yx:IxD X dIx:=by
 intro value slice pins s σ H x y v u Q I rx ry h hs;obtain⟨dx,dy,F,d,r1,r2,e,q⟩:=h;cases dy with
 | int i=>
  unfold Rep at r2;subst r2;cases dx with
  | lst ds=>
   unfold Rep at r1;obtain⟨l,xs,rfl,hf,hl,hr⟩:=r1;obtain⟨w',e1,e2⟩:=Zhc hr e;exact Zkg value slice pins s σ H _ _ v u Q I rx ry ⟨l,xs,i,w',rfl,rfl,hl,e1,q _ F H .refl e2⟩ hs
  | tup ds=>
   unfold Rep at r1;obtain⟨l,xs,rfl,hl,hr⟩:=r1;obtain⟨w',e1,e2⟩:=Zhc hr e;exact Zmm value slice pins s σ H _ _ v u Q I rx ry ⟨l,xs,i,w',rfl,rfl,hl,e1,q _ F H .refl e2⟩ hs
  | str z=>
   unfold Rep at r1;subst r1;have e:(if z.length<=lim then(atI z.cps.toList i).map fun c=>D.str ⟨#[c]⟩ else none)=some d:=e;by_cases hz:z.length<=lim
   ·rw[if_pos hz]at e;obtain⟨c,e1,rfl⟩:∃ c,atI z.cps.toList i=some c/\D.str ⟨#[c]⟩=d:=by
     cases q1:atI z.cps.toList i with
     | none=>rw[q1]at e;cases e
     | some c=>rw[q1]at e;exact⟨c,rfl,Option.some.inj e⟩
    exact Zmn value slice pins s σ H _ _ v u Q I rx ry ⟨z,i,c,rfl,rfl,JX hz,e1,q _ F H .refl (by unfold Rep;rfl)⟩ hs
   ·rw[if_neg hz]at e;cases e
  | _=>cases e
 | _=>cases dx<;>cases e
noncomputable def Q9:List D->Option D
 | [.lst xs]=>some (.int xs.length)
 | [.tup xs]=>some (.int xs.length)
 | [.str z]=>if z.length<=lim then some (.int z.length) else none
 | _=>none
theorem Ug{K:Frag}{F:Fz}{H:Hp}{d:D}{vs:List V}(h:RepL K F H [d] vs):∃ v,vs=[v]/\Rep K F H d v:=by
 obtain⟨y,ys,rfl,h1,h2⟩:=h.uncons;rw[h2.unnil];exact⟨y,rfl,h1⟩
theorem ZhO{K:Frag}{F:Fz}{H:Hp}{d d':D}{vs:List V}(h:RepL K F H [d,d'] vs):∃ v v',vs=[v,v']/\Rep K F H d v/\Rep K F H d' v':=by
 obtain⟨y,ys,rfl,h1,h2⟩:=h.uncons;obtain⟨v',rfl,h3⟩:=Ug h2;exact⟨y,v',rfl,h1,h3⟩
theorem UR:WF X (.builtin "len") Q9:=by
 intro pins s σ H vs us Q I r h;obtain⟨xs,F,d,r1,e,q⟩:=h;unfold Q9 at e;split at e
 ·rename_i ds
  cases e;obtain⟨v,rfl,h1⟩:=Ug r1;unfold Rep at h1;obtain⟨a,ys,rfl,_,hl,hr⟩:=h1;refine Ve pins s σ H _ us Q I r ⟨a,ys,rfl,.inl hl,?_⟩;rw[<-hr.length];exact q _ F H .refl (Z3 _)
 ·rename_i ds
  cases e;obtain⟨v,rfl,h1⟩:=Ug r1;unfold Rep at h1;obtain⟨a,ys,rfl,hl,hr⟩:=h1;refine Ve pins s σ H _ us Q I r ⟨a,ys,rfl,.inr hl,?_⟩;rw[<-hr.length];exact q _ F H .refl (Z3 _)
 ·rename_i z
  obtain⟨hz,rfl⟩:=Ye e;obtain⟨v,rfl,h1⟩:=Ug r1;unfold Rep at h1;subst h1;exact ZbO pins s σ H _ us Q I r ⟨z,rfl,JX hz,q _ F H .refl (Z3 _)⟩
 ·cases e
def JA:List D->Option D
 | [.lst xs]=>some (.lst xs)
 | [.tup xs]=>some (.lst xs)
 | _=>none
theorem Zjg:WF X (.type "list") JA:=by
 intro pins s σ H vs us Q I r h;obtain⟨xs,F,d,r1,e,q⟩:=h;unfold JA at e;split at e
 ·rename_i ds
  cases e;obtain⟨v,rfl,h1⟩:=Ug r1;unfold Rep at h1;obtain⟨a,ys,rfl,_,hl,hr⟩:=h1;exact Vd pins s σ H _ us Q I r ⟨a,ys,rfl,.inl hl,fun p hp=>q _ _ _ (.laid hp) (YF hp hr)⟩
 ·rename_i ds
  cases e;obtain⟨v,rfl,h1⟩:=Ug r1;unfold Rep at h1;obtain⟨a,ys,rfl,hl,hr⟩:=h1;exact Vd pins s σ H _ us Q I r ⟨a,ys,rfl,.inr hl,fun p hp=>q _ _ _ (.laid hp) (YF hp hr)⟩
 ·cases e
def YC:List D->Option D
 | [.lst xs]=>some (.tup xs)
 | [.tup xs]=>some (.tup xs)
 | _=>none
theorem ZcU:WF X (.type "tuple") YC:=by
 intro pins s σ H vs us Q I r h;obtain⟨xs,F,d,r1,e,q⟩:=h;unfold YC at e;split at e
 ·rename_i ds
  cases e;obtain⟨v,rfl,h1⟩:=Ug r1;unfold Rep at h1;obtain⟨a,ys,rfl,_,hl,hr⟩:=h1;refine UQ pins s σ H _ us Q I r ⟨a,ys,rfl,.inl ⟨hl,fun p hp=>q _ F _ (.laid0 hp) ?_⟩⟩;unfold Rep;exact⟨p,ys,rfl,.of ZP,hr.grow (.laid0 hp)⟩
 ·rename_i ds
  cases e;obtain⟨v,rfl,h1⟩:=Ug r1;have h1':=h1;unfold Rep at h1;obtain⟨a,ys,rfl,hl,hr⟩:=h1;exact UQ pins s σ H _ us Q I r ⟨a,ys,rfl,.inr ⟨hl,q _ F H .refl h1'⟩⟩
 ·cases e
def ZeG:List D->Option D
 | [.int i,.int j]=>some (.int (if j<i then j else i))
 | _=>none
def ZbJ:List D->Option D
 | [.int i,.int j]=>some (.int (if j>i then j else i))
 | _=>none
theorem Zg7(hc:X.calm=true):WF X (.builtin "min") ZeG:=by
 intro pins s σ H vs us Q I r h;obtain⟨xs,F,d,r1,e,q⟩:=h;unfold ZeG at e;split at e
 ·rename_i i j
  cases e;obtain⟨v,v',rfl,h1,h2⟩:=ZhO r1;unfold Rep at h1 h2;subst h1 h2;exact Zg4 hc pins s σ H _ us Q I r ⟨i,j,rfl,q _ F H .refl (Z3 _)⟩
 ·cases e
theorem Zd1(hc:X.calm=true):WF X (.builtin "max") ZbJ:=by
 intro pins s σ H vs us Q I r h;obtain⟨xs,F,d,r1,e,q⟩:=h;unfold ZbJ at e;split at e
 ·rename_i i j
  cases e;obtain⟨v,v',rfl,h1,h2⟩:=ZhO r1;unfold Rep at h1 h2;subst h1 h2;exact Zg5 hc pins s σ H _ us Q I r ⟨i,j,rfl,q _ F H .refl (Z3 _)⟩
 ·cases e
end
inductive Out where
 | nx (ρ:Rho) | rt (d:D) | bk (ρ:Rho) | ct (ρ:Rho)
abbrev DS:=Rho->Option Out
def EndOk(K:Frag)(F0:Fz)(H0:Hp)(F:Fz)(H:Hp)(E:Zjo):Out->Prop
 | .nx ρ=>∀ σ' F' H',Ext K F H F' H'->EnvOk K F0 H0 F' σ' H' ρ->E.nx σ' H'
 | .bk ρ=>∀ σ' F' H',Ext K F H F' H'->EnvOk K F0 H0 F' σ' H' ρ->E.bk σ' H'
 | .ct ρ=>∀ σ' F' H',Ext K F H F' H'->EnvOk K F0 H0 F' σ' H' ρ->E.ct σ' H'
 | .rt d=>∀ v F' H',Grow F0 H0 F' H'->Rep K F' H' d v->E.rt v H'
inductive Zo4(K:Frag)(g:DS)(E:Zjo)(σ:L2.St)(H:Hp):Prop
 | mk (ρ:Rho) (F0:Fz) (H0:Hp) (F:Fz) (o:Out) (ok:EnvOk K F0 H0 F σ H ρ) (e:g ρ=some o) (k:EndOk K F0 H0 F H E o)
def rdS(K:Frag)(g:DS):TS:=fun E σ H=>Zo4 K g E σ H
theorem EndOk.ext{K:Frag}{F0:Fz}{H0:Hp}{F F':Fz}{H H':Hp}{E:Zjo}{o:Out}(h:EndOk K F0 H0 F H E o)(x:Ext K F H F' H'):EndOk K F0 H0 F' H' E o:=by
 cases o with
 | nx ρ=>exact fun σ' F2 H2 e ok=>h σ' F2 H2 (x.trans e) ok
 | bk ρ=>exact fun σ' F2 H2 e ok=>h σ' F2 H2 (x.trans e) ok
 | ct ρ=>exact fun σ' F2 H2 e ok=>h σ' F2 H2 (x.trans e) ok
 | rt d=>exact h
def SD(X:Cx)(st:Stmt)(g:DS):Prop:=PS X st (rdS X.K g)
def SDs(X:Cx)(st:List Stmt)(g:DS):Prop:=PSs X st (rdS X.K g)
section
variable{X:Cx}{pos:Pos}{st:Stmt}{rest:List Stmt}{g g':DS}{e:Expr}{f:DE}{t:DT}
noncomputable def ZV:DS:=fun ρ=>some (.nx ρ)
noncomputable def Zp(g g':DS):DS:=fun ρ=>match g ρ with | some (.nx ρ1)=>g' ρ1 | r=>r
theorem ZX:SDs X [] ZV:=PSs.imp ZjR fun E σ H ⟨ρ,F0,H0,F,o,ok,e,k⟩=>by cases e;exact k σ F H .refl ok
theorem Zn(h:SD X st g):SDs X [st] g:=ZjQ h
theorem Zj(h1:SD X st g)(h2:SDs X rest g'):SDs X (st::rest) (Zp g g'):=PSs.imp (ZhQ h1 h2) fun E σ H zq=>by
 obtain⟨ρ,F0,H0,F,o,ok,e,k⟩:=zq;unfold Zp at e;cases e1:g ρ with
 | none=>rw[e1]at e;cases e
 | some o1=>
  rw[e1]at e;cases o1 with
  | nx ρ1=>exact⟨ρ,F0,H0,F,_,ok,e1,fun σ' F' H' x ok'=>⟨ρ1,F0,H0,F',o,ok',e,k.ext x⟩⟩
  | rt d=>cases e;exact⟨ρ,F0,H0,F,_,ok,e1,k⟩
  | bk ρ1=>cases e;exact⟨ρ,F0,H0,F,_,ok,e1,k⟩
  | ct ρ1=>cases e;exact⟨ρ,F0,H0,F,_,ok,e1,k⟩
noncomputable def Yc(f:DE):DS:=fun ρ=>(f ρ).map .rt
theorem map_some{α β:Type}{o:Option α}{f:α->β}{b:β}(h:o.map f=some b):∃ a,o=some a/\f a=b:=by
 cases o with
 | none=>cases h
 | some a=>exact⟨a,rfl,Option.some.inj h⟩
theorem Zy(he:ED X e f):SD X (.Return (some e) pos) (Yc f):=PS.imp (Zlz he) fun E σ H zq=>by
 obtain⟨ρ,F0,H0,F,o,ok,e,k⟩:=zq;obtain⟨d,ed,rfl⟩:=map_some e;exact⟨ρ,F0,H0,F,d,ok,ed,fun v F' H' g r=>k v F' H' (ok.base.trans g) r⟩
noncomputable def QC(t:DT)(g g':DS):DS:=fun ρ=>(t ρ).bind fun b=>match b with | true=>g ρ | false=>g' ρ
theorem QI{c:Expr}{a b:List Stmt}(hc:TD X c t)(ha:SDs X a g)(hb:SDs X b g'):SD X (.If c a b pos) (QC t g g'):=PS.imp (Znq hc ha hb) fun E σ H zq=>by
 obtain⟨ρ,F0,H0,F,o,ok,e,k⟩:=zq;obtain⟨x,ex,e⟩:=bind_some e;refine⟨ρ,F0,H0,F,x,ok,ex,fun F1 H1 g1=>?_⟩;cases x with
 | true=>rw[if_pos rfl];exact⟨ρ,F0,H0,F1,o,ok.grow g1,e,k.ext g1.ext⟩
 | false=>rw[if_neg (by decide)];exact⟨ρ,F0,H0,F1,o,ok.grow g1,e,k.ext g1.ext⟩
theorem EnvOk.set{K:Frag}{F0 F:Fz}{H0 H:Hp}{σ:L2.St}{ρ:Rho}{i:Nat}{d:D}{v:V}(ok:EnvOk K F0 H0 F σ H ρ)(r:Rep K F H d v):EnvOk K F0 H0 F (σ.set i (some v)) H (ρ.set i (.val d)) where
 base:=ok.base
 val:=fun j d' h=>by
  by_cases hj:i=j
  ·subst hj;by_cases hl:i < ρ.length
   ·rw[Ak hl]at h;cases h;exact⟨v,by rw[Ak (by rw[<-ok.len];exact hl)],r⟩
   ·rw[Bc (by rw[ao];omega)]at h;cases h
  ·rw[An hj]at h ⊢;exact ok.val j d' h
 own:=fun j ds h=>by
  by_cases hj:i=j
  ·subst hj;by_cases hl:i < ρ.length
   ·rw[Ak hl]at h;cases h
   ·rw[Bc (by rw[ao];omega)]at h;cases h
  ·rw[An hj]at h ⊢;exact ok.own j ds h
 inj:=fun j k ds es a h1 h2 h3 h4=>by
  have n1:i≠j:=by
   rintro rfl;by_cases hl:i < ρ.length
   ·rw[Ak hl]at h1;cases h1
   ·rw[Bc (by rw[ao];omega)]at h1;cases h1
  have n2:i≠k:=by
   rintro rfl;by_cases hl:i < ρ.length
   ·rw[Ak hl]at h2;cases h2
   ·rw[Bc (by rw[ao];omega)]at h2;cases h2
  rw[An n1]at h1 h3;rw[An n2]at h2 h4;exact ok.inj j k ds es a h1 h2 h3 h4
 len:=by rw[ao,ao,ok.len]
 fz:=ok.fz
noncomputable def Z9(i:Nat)(f:DE):DS:=fun ρ=>(f ρ).map fun d=>.nx (ρ.set i (.val d))
theorem ZQ{i:Nat}{x:Str}{pos':Pos}(hN:X.N.Nodup)(hi:X.N[i]?=some x)(hx:Loc X.env.scope x)(he:ED X e f)(hs:swapsWith e (some (.Name x pos')) pos.line X.env=pure false:=by rfl)
  (hf:X.fn x=true\/X.env.scope.names.lookup x=some .local:=by first | exact .inl rfl | exact .inr rfl | assumption):SD X (.Assign [.Name x pos'] e pos) (Z9 i f):=
 PS.imp (ZfF hN hi hx he hs hf) fun E σ H zq=>by
  obtain⟨ρ,F0,H0,F,o,ok,e,k⟩:=zq;obtain⟨d,ed,rfl⟩:=map_some e;exact⟨ρ,F0,H0,F,d,ok,ed,fun v F' H' g r=>k _ F' H' g.ext ((ok.grow g).set r)⟩
theorem EnvOk.setOwn{K:Frag}{F0 F:Fz}{H0 H:Hp}{σ:L2.St}{ρ:Rho}{i:Nat}{ds:List D}{vs:List V}{p:Addr}(ok:EnvOk K F0 H0 F σ H ρ)(hp:H p=none)(hk:K.lookup p=none)(r:RepL K F H ds vs):
  EnvOk K F0 H0 F (σ.set i (some (.ref p))) (upd H p (.lst vs)) (ρ.set i (.own ds)):=by
 have gr:Grow F H F (upd H p (.lst vs)):=.laid0 hp;have ok1:=ok.grow gr;have nF:¬ F p:=fun z=>by
  rcases ok.fz p z with z | ⟨o,z⟩
  ·exact z hp
  ·rw[hk]at z;cases z
 have oth:∀(j:Nat) ds' a,ρ[j]?=some (.own ds')->σ[j]?=some (some (.ref a))->a≠p:=fun j ds' a h1 h2=>by
  obtain⟨b,xs,h3,h4,_⟩:=ok.own j ds' h1;rw[h2]at h3;cases h3;exact ZG h4 hp
 refine⟨ok1.base,fun j d' h=>?_,fun j ds' h=>?_,fun j k ds' es a h1 h2 h3 h4=>?_,by rw[ao,ao,ok.len],ok1.fz⟩
 ·by_cases hj:i=j
  ·subst hj;by_cases hl:i < ρ.length
   ·rw[Ak hl]at h;cases h
   ·rw[Bc (by rw[ao];omega)]at h;cases h
  ·rw[An hj]at h ⊢;exact ok1.val j d' h
 ·by_cases hj:i=j
  ·subst hj;by_cases hl:i < ρ.length
   ·rw[Ak hl]at h;cases h;exact⟨p,vs,by rw[Ak (by rw[<-ok.len];exact hl)],ZP,nF,ok.base.same.free hp,r.grow gr⟩
   ·rw[Bc (by rw[ao];omega)]at h;cases h
  ·rw[An hj]at h ⊢;exact ok1.own j ds' h
 ·by_cases hj:i=j
  ·by_cases hk':i=k
   ·exact hj.symm.trans hk'
   ·subst hj;rw[An hk']at h2 h4;by_cases hl:i < σ.length
    ·rw[Ak hl]at h3;cases h3;exact absurd rfl (oth k es p h2 h4)
    ·rw[Bc (by rw[ao];omega)]at h3;cases h3
  ·by_cases hk':i=k
   ·subst hk';rw[An hj]at h1 h3;by_cases hl:i < σ.length
    ·rw[Ak hl]at h4;cases h4;exact absurd rfl (oth j ds' p h1 h3)
    ·rw[Bc (by rw[ao];omega)]at h4;cases h4
   ·rw[An hj]at h1 h3;rw[An hk']at h2 h4;exact ok.inj j k ds' es a h1 h2 h3 h4
def Zng(K:Frag)(t:TA):TE:=fun σ H Q=>t σ H fun xs H1=>xs.length<=sizeLine/\∀ p,H1 p=none->K.lookup p=none->Q (.ref p) (upd H1 p (.lst xs))
theorem ZjW{es:List Expr}{t:TA}(h:PA X es t):PE X (.List es pos) (Zng X.K t):=by
 intro pins s σ H Q I hq;refine wpAny_List_spliced (thn (h pos pins s σ H _ I hq) fun us s1 ⟨xs,H1,I1,r,z,q⟩=>⟨by rw[<-r.length];exact z,?_⟩);have hf:H1 s1.heap.objs.size=none:=I1.hok.fresh (A7 _);have hk:X.K.lookup s1.heap.objs.size=none:=by
  cases e:X.K.lookup s1.heap.objs.size with
  | none=>rfl
  | some o=>exact absurd (Heap.lt_size (I1.kIn _ o e)) (aq _)
 refine⟨.ref s1.heap.objs.size,upd H1 s1.heap.objs.size (.lst xs),I1.laid (t':=s1.toks) (fun b u e=>Heap.get?_push_of_some _ e) (A7 _) ?_,rfl,q _ hf hk⟩;exact⟨z,us,0,r,Heap.get?_push_size _ rfl⟩
def Up(i:Nat)(as:DA):DS:=fun ρ=>(as ρ).bind fun xs=>if xs.length<=lim then some (.nx (ρ.set i (.own xs))) else none
theorem Zbc{i:Nat}{x:Str}{pos' lpos:Pos}{es:List Expr}{as:DA}(hN:X.N.Nodup)(hi:X.N[i]?=some x)(hx:Loc X.env.scope x)(ha:AD X es as)(hs:swapsWith (.List es lpos) (some (.Name x pos')) pos.line X.env=pure false:=by rfl)
  (hf:X.fn x=true\/X.env.scope.names.lookup x=some .local:=by first | exact .inl rfl | exact .inr rfl | assumption):SD X (.Assign [.Name x pos'] (.List es lpos) pos) (Up i as):=
 PS.imp (ZfF hN hi hx (ZjW ha) hs hf) fun E σ H zq=>by
  obtain⟨ρ,F0,H0,F,o,ok,e,k⟩:=zq;obtain⟨xs,ex,e⟩:=bind_some e;obtain⟨hl,rfl⟩:=Ye e;exact⟨ρ,F0,H0,F,xs,ok,ex,fun vs F1 H1 g1 r1=>⟨by rw[<-r1.length];exact JX hl,fun p hp hk=>k _ F1 _ (g1.trans (.laid0 hp)).ext ((ok.grow g1).setOwn hp hk r1)⟩⟩
theorem We{K:Frag}{F:Fz}{H:Hp}{a:Addr}{xs ys:List V}(ha:H a=some (.lst xs))(hF:¬ F a):Ext K F H F (upd H a (.lst ys)) where
 sub:=fun _ h=>h
 ls:=fun b zs hb h=>by
  have ne:b≠a:=fun z=>hF (z ▸ hb);rcases h with(h | ⟨o,h⟩) | h
  ·exact .inl (.inl (by rw[ZJ ne];exact h))
  ·exact .inl (.inr ⟨o,by rw[ZJ ne];exact h⟩)
  ·exact .inr h
 ts:=fun b zs h=>by
  rcases h with(h | ⟨o,h⟩) | h
  ·have ne:b≠a:=by rintro rfl;rw[ha]at h;cases h
   exact .inl (.inl (by rw[ZJ ne];exact h))
  ·have ne:b≠a:=by rintro rfl;rw[ha]at h;cases h
   exact .inl (.inr ⟨o,by rw[ZJ ne];exact h⟩)
  ·exact .inr h
theorem EnvOk.wrt{K:Frag}{F0 F:Fz}{H0 H:Hp}{σ:L2.St}{ρ:Rho}{i:Nat}{ds ds':List D}{xs ys:List V}{a:Addr}(ok:EnvOk K F0 H0 F σ H ρ)(ho:ρ[i]?=some (.own ds))(hs:σ[i]?=some (some (.ref a)))
  (ha:H a=some (.lst xs))(r:RepL K F H ds' ys):EnvOk K F0 H0 F σ (upd H a (.lst ys)) (ρ.set i (.own ds')):=by
 obtain⟨a',xs',h1,h2,h3,h4,h5⟩:=ok.own i ds ho;rw[hs]at h1;cases h1;rw[ha]at h2;cases h2;have hl:i < ρ.length:=(Ap.mp ho).1;have x:=We (K:=K) (ys:=ys) ha h3;refine⟨⟨fun b o q=>?_,ok.base.sub,fun b z=>?_⟩,fun j d' h=>?_,fun j es h=>?_,fun j k es fs b q1 q2 q3 q4=>?_,by rw[ao,ok.len],fun b z=>?_⟩
 ·have ne:b≠a:=ZG q h4;rw[ZJ ne];exact ok.base.same b o q
 ·rcases ok.base.new b z with z1 | ⟨z1,z2⟩
  ·exact .inl z1
  ·refine .inr ⟨z1,?_⟩;by_cases e:b=a
   ·rw[e,ZP];simp
   ·rw[ZJ e];exact z2
 ·have hj:i≠j:=by rintro rfl;rw[Ak hl]at h;cases h
  rw[An hj]at h;obtain⟨v,e1,e2⟩:=ok.val j d' h;exact⟨v,e1,Rep.ext x e2⟩
 ·by_cases hj:i=j
  ·subst hj;rw[Ak hl]at h;cases h;exact⟨a,ys,hs,ZP,h3,h4,RepL.ext x r⟩
  ·rw[An hj]at h;obtain⟨b,zs,e1,e2,e3,e4,e5⟩:=ok.own j es h;have ne:b≠a:=by rintro rfl;exact hj (ok.inj i j ds es b ho h hs e1)
   exact⟨b,zs,e1,by rw[ZJ ne];exact e2,e3,e4,RepL.ext x e5⟩
 ·have get:∀(j:Nat) es,(ρ.set i (.own ds'))[j]?=some (.own es)->∃ es',ρ[j]?=some (.own es'):=fun j es h=>by
   by_cases hj:i=j
   ·exact⟨ds,hj ▸ ho⟩
   ·rw[An hj]at h;exact⟨es,h⟩
  obtain⟨e1,g1⟩:=get j es q1;obtain⟨e2,g2⟩:=get k fs q2;exact ok.inj j k e1 e2 b g1 g2 q3 q4
 ·rcases ok.fz b z with z1 | z1
  ·left;by_cases e:b=a
   ·rw[e,ZP];simp
   ·rw[ZJ e];exact z1
  ·exact .inr z1
def ZeI(i:Nat)(f:DE):DS:=fun ρ=>match ρ[i]? with
 | some (.own ds)=>(f ρ).bind fun d=>if ds.length<lim then some (.nx (ρ.set i (.own (ds++[d])))) else none
 | _=>none
theorem VI{i:Nat}{x:Expr}{pos' apos:Pos}(hx:PE X x (Zla i))(he:ED X e f)
  (hbase:attributeBase x "append" X.env (eval x X.env)=eval x X.env:=by rfl)
  (hfew:((backTo pos' (starEach [e] X.env)).all (fun x=>!x.1)&&(backToKw pos' (keywordEach [] X.env)).all (fun x=>x.1.isSome)
   && decide ([e].length+([]:List Keyword).length+(if([]:List Keyword).isEmpty then 0 else 1)<30))=true:=by rfl)
  (hline:(apos.endLine==pos'.line)=true:=by rfl) (hs:starEach [e] X.env=(false,eval e X.env)::starEach [] X.env:=by rfl) (hplain:(backTo pos' (starEach [] X.env)).any (·.1)=false:=by rfl)
  (hsw:swapsWith (.Call (.Attribute x "append" apos) [e] [] pos') none pos.line X.env=pure false:=by rfl) :
  SD X (.Expr (.Call (.Attribute x "append" apos) [e] [] pos') pos) (ZeI i f):=
 PS.imp (ZfG (Zj1 PySem.F.plainAttrs_list PySem.F.slot_list_append PySem.F.type_list_append Zbs hx (Zas he ZdA hs) hbase hfew hline hs hplain) hsw) fun E σ H zq=>by
  obtain⟨ρ,F0,H0,F,o,ok,e,k⟩:=zq;unfold ZeI at e;split at e
  ·rename_i ds ho
   obtain⟨d,ed,e⟩:=bind_some e;obtain⟨hl,rfl⟩:=Ye e;obtain⟨a,xs,h1,h2,h3,h4,h5⟩:=ok.own i ds ho;refine⟨_,h1,.inl ⟨rfl,xs,.of h2⟩,ρ,F0,H0,F,d,ok,ed,fun v F1 H1 g1 r1=>?_⟩;have ok1:=ok.grow g1;have h2':=g1.same _ _ h2;obtain⟨a',xs',q1,q2,q3,q4,q5⟩:=ok1.own i ds ho;rw[h1]at q1;cases q1;rw[h2']at q2;cases q2;refine⟨a,xs,v,rfl,rfl,h2',?_,k _ F1 _ (g1.ext.trans (We h2' q3)) (ok1.wrt ho h1 h2' (q5.append (.cons r1 .nil)))⟩;rw[<-q5.length];exact Aj hl (JX (A7 _))
  ·cases e
end
section
variable{X:Cx}{pos:Pos}{st:Stmt}{rest:List Stmt}{g g':DS}{e:Expr}{f:DE}{t:DT}
noncomputable def ZT(t:DT)(g:DS):Nat->DS
 | 0,_=>none
 | n+1,ρ=>(t ρ).bind fun b=>match b with
  | true=>(match g ρ with | some (.nx ρ')=>ZT t g n ρ' | some (.ct ρ')=>ZT t g n ρ' | some (.bk ρ')=>some (.nx ρ') | r=>r)
  | false=>some (.nx ρ)
theorem Zam{c:Expr}{body:List Stmt}(n:Nat)(hp:PassesOwn (model X.prog X.w) X.A X.env X.xe)(hc:TD X c t)(hb:SDs X body g):SD X (.While c body [] pos) (ZT t g n):=
 PS.imp (ZhR hp hc hb) fun E σ H zq=>by
  obtain⟨ρ,F0,H0,F,o,ok,e,k⟩:=zq;refine⟨fun m σ' H'=>∃ ρ' F',EnvOk X.K F0 H0 F' σ' H' ρ'/\Ext X.K F H F' H'/\ZT t g m ρ'=some o,⟨n,ρ,F,ok,.refl,e⟩,?_⟩;rintro m σ1 H1 ⟨ρ1,F1,ok1,x1,e1⟩;cases m with
  | zero=>cases e1
  | succ m=>
   unfold ZT at e1;obtain⟨b,eb,e1⟩:=bind_some e1;refine⟨ρ1,F0,H0,F1,b,ok1,eb,fun F2 H2 g2=>?_⟩;have x2:=x1.trans (g2.ext (K:=X.K));cases b with
   | false=>
    refine Zoc ?_;cases e1;exact k σ1 F2 H2 x2 (ok1.grow g2)
   | true=>
    refine Zob ?_;refine⟨fun σ' H'=>∃ ρ' F',EnvOk X.K F0 H0 F' σ' H' ρ'/\Ext X.K F H F' H'/\ZT t g m ρ'=some o,fun σ' H' z=>⟨m,by omega,z⟩,?_⟩;simp only at e1;cases eg:g ρ1 with
    | none=>rw[eg]at e1;cases e1
    | some o1=>
     rw[eg]at e1;refine⟨ρ1,F0,H0,F2,o1,ok1.grow g2,eg,?_⟩;cases o1 with
     | nx ρ2=>exact fun σ' F' H' x ok'=>⟨ρ2,F',ok',x2.trans x,e1⟩
     | ct ρ2=>exact fun σ' F' H' x ok'=>⟨ρ2,F',ok',x2.trans x,e1⟩
     | bk ρ2=>cases e1;exact fun σ' F' H' x ok'=>k σ' F' H' (x2.trans x) ok'
     | rt d=>cases e1;exact k
abbrev DG:=D->Rho->Option Rho
inductive Zo7(K:Frag)(b:DG)(v:V)(σ:L2.St)(H:Hp)(Q:L2.St->Hp->Prop):Prop
 | mk (ρ:Rho) (F0:Fz) (H0:Hp) (F:Fz) (d:D) (ρ':Rho) (ok:EnvOk K F0 H0 F σ H ρ) (r:Rep K F H d v) (e:b d ρ=some ρ') (q:∀ σ' F' H',Grow F H F' H'->EnvOk K F0 H0 F' σ' H' ρ'->Q σ' H')
def rdG(K:Frag)(b:DG):TG:=fun v σ H Q=>Zo7 K b v σ H Q
def GD(X:Cx)(tg:Expr)(b:DG):Prop:=PG X tg (rdG X.K b)
theorem PG.imp{tg:Expr}{t t':TG}(h:PG X tg t)(i:∀ v σ H Q,t' v σ H Q->t v σ H Q):PG X tg t':=fun pins s σ H v u Q I r q=>h pins s σ H v u Q I r (i v σ H Q q)
noncomputable def ZC(i:Nat):DG:=fun d ρ=>some (ρ.set i (.val d))
theorem YG{i:Nat}{x:Str}(hN:X.N.Nodup)(hi:X.N[i]?=some x)(hx:Loc X.env.scope x)(hf:X.fn x=true\/X.env.scope.names.lookup x=some .local:=by first | exact .inl rfl | exact .inr rfl | assumption):GD X (.Name x pos) (ZC i):=
 PG.imp (Zcp hN hi hx hf) fun v σ H Q ⟨ρ,F0,H0,F,d,ρ',ok,r,e,q⟩=>by cases e;exact q _ F H .refl (ok.set r)
noncomputable def Y7(i j:Nat):DG:=fun d ρ=>match d with | .tup [a,b]=>some ((ρ.set i (.val a)).set j (.val b)) | _=>none
theorem V8{i j:Nat}{x y:Str}{p1 p2:Pos}{k}(hc:X.calm=true)(hN:X.N.Nodup)(hi:X.N[i]?=some x)(hj:X.N[j]?=some y)(hx:Loc X.env.scope x)(hy:Loc X.env.scope y)
  (hf:X.fn x=true\/X.env.scope.names.lookup x=some .local:=by first | exact .inl rfl | exact .inr rfl | assumption)
  (hf':X.fn y=true\/X.env.scope.names.lookup y=some .local:=by first | exact .inl rfl | exact .inr rfl | assumption):GD X (.Tuple [.Name x p1,.Name y p2] k pos) (Y7 i j):=
 PG.imp (ZlD (n:=2) hc (Zdu (Zcp hN hi hx hf) (Zdu (Zcp hN hj hy hf') ZjV))) fun v σ H Q zq=>by
  obtain⟨ρ,F0,H0,F,d,ρ',ok,r,e,q⟩:=zq;unfold Y7 at e;split at e
  ·rename_i a b
   cases e;unfold Rep at r;obtain⟨p,xs,rfl,ht,hl⟩:=r;obtain⟨va,vb,rfl,ra,rb⟩:=ZhO hl;refine⟨p,_,rfl,ht,rfl,va,[vb],rfl,vb,[],rfl,rfl,?_⟩;exact q _ F H .refl ((ok.set ra).set rb)
  ·cases e
noncomputable def U1(b:DG)(g:DS):List D->DS
 | [],ρ=>some (.nx ρ)
 | x::xs,ρ=>(b x ρ).bind fun ρ1=>match g ρ1 with
  | some (.nx ρ2)=>U1 b g xs ρ2
  | some (.ct ρ2)=>U1 b g xs ρ2
  | some (.bk ρ2)=>some (.nx ρ2)
  | r=>r
def W8(it:Rho->Option (List D))(b:DG)(g:DS):DS:=fun ρ=>(it ρ).bind fun xs=>U1 b g xs ρ
def FW(K:Frag)(F0:Fz)(H0:Hp)(F:Fz)(H:Hp)(b:DG)(g:DS)(xs:List D)(o:Out)(i:Nat)(σ':L2.St)(H':Hp):Prop:=
 ∃ ρ' F',EnvOk K F0 H0 F' σ' H' ρ'/\Ext K F H F' H'/\U1 b g (xs.drop i) ρ'=some o
def ZoV(K:Frag)(tl:TE):TI:=fun σ H R=>tl σ H fun x H1=>∃ a,x=.ref a/\(((∃ xs,SqL K H1 a xs)/\R (Itl K a) H1)\/((∃ xs,SqT K H1 a xs)/\R (Itt K a) H1))
theorem ZlC{tg l:Expr}{tl:TE}(hl:PE X l tl):PI X tg l (ZoV X.K tl):=by
 intro pins s σ H R I h;refine thn (hl pins s σ H _ I h) fun v s1 zq=>?_;obtain⟨x,H1,I1,r1,q1⟩:=zq;obtain⟨a,e,q1⟩:=q1;subst e;cases r1;have fpk:∀ b∈[s1.heap.objs.size],Zcc X pins H1 b:=fun b hb=>by
  have e:b=s1.heap.objs.size:=by simpa using hb
  subst e;exact I1.fpOk (A7 _) (I1.hok.fresh (A7 _))
 rcases q1 with⟨⟨xs,hq⟩,q⟩ | ⟨⟨xs,hq⟩,q⟩
 ·obtain⟨its,rv,p,hz⟩:=I1.list hq;refine wpAny_pyIter_list p.isList ?_;exact⟨s1.heap.objs.size,[s1.heap.objs.size],_,_,H1,rfl,I1.kept (t':=s1.toks) fun b o e=>Heap.get?_push_of_some _ e,Ze9 a _,⟨_,Heap.get?_push_size _ rfl,rfl,rfl⟩,fpk,q⟩
 ·obtain⟨its,rv,p,hz⟩:=I1.tuple hq;refine wpAny_pyIter_tuple (show s1.heap.IsTuple a its.toArray from p) ?_;exact⟨s1.heap.objs.size,[s1.heap.objs.size],_,_,H1,rfl,I1.kept (t':=s1.toks) fun b o e=>Heap.get?_push_of_some _ e,Zd8 a _,⟨_,Heap.get?_push_size _ rfl,rfl,rfl⟩,fpk,q⟩
noncomputable def YO(f:DE):Rho->Option (List D):=fun ρ=>(f ρ).bind fun d=>match d with | .lst xs=>some xs | .tup xs=>some xs | _=>none
noncomputable def QB(lo:Int)(n:Nat):List D:=(List.range n).map fun(k:Nat)=>D.int (lo+(k:Int))
def Vl(i:Int):Bool:=decide (-(2 ^ 62)<=i)&&decide (i<2 ^ 62)
def Ww(f:DE):Rho->Option (List D):=fun ρ=>(f ρ).bind fun d=>match d with | .int j=>if Vl j then some (QB 0 j.toNat) else none | _=>none
def Zgl(f g:DE):Rho->Option (List D):=fun ρ=>(f ρ).bind fun d=>(g ρ).bind fun d'=>match d,d' with | .int i,.int j=>if Vl i&&Vl j then some (QB i (j-i).toNat) else none | _,_=>none
theorem Zap{i:Int}(h:Vl i=true):-(2 ^ 62)<=i/\i<2 ^ 62:=by
 obtain⟨a,b⟩:=Ad.mp h;exact⟨of_decide_eq_true a,of_decide_eq_true b⟩
def rel(i:Nat)(ρ:Rho):Rho:=match ρ[i]? with | some (.own ds)=>ρ.set i (.val (.lst ds)) | _=>ρ
theorem EnvOk.rel{K:Frag}{F0 F:Fz}{H0 H:Hp}{σ:L2.St}{ρ:Rho}(ok:EnvOk K F0 H0 F σ H ρ)(i:Nat):∃ F',EnvOk K F0 H0 F' σ H (rel i ρ)/\Ext K F H F' H:=by
 unfold L3.rel;split
 ·rename_i ds ho
  obtain⟨a,xs,h1,h2,h3,h4,h5⟩:=ok.own i ds ho;have x:Ext K F H (fun b=>F b\/b=a) H:=⟨fun b z=>.inl z,fun b ys _ z=>z,fun b ys z=>z⟩;have hl:i < ρ.length:=(Ap.mp ho).1;have old:∀(j:Nat) es,(ρ.set i (.val (.lst ds)))[j]?=some (.own es)->i≠j/\ρ[j]?=some (.own es):=fun j es h=>by
   by_cases hj:i=j
   ·subst hj;rw[Ak hl]at h;cases h
   ·rw[An hj]at h;exact⟨hj,h⟩
  refine⟨fun b=>F b\/b=a,⟨⟨ok.base.same,fun b z=>.inl (ok.base.sub b z),fun b z=>?_⟩,fun j d h=>?_,fun j es h=>?_,fun j k es fs b q1 q2 q3 q4=>?_,by rw[ao,ok.len],fun b z=>?_⟩,x⟩
  ·rcases z with z | rfl
   ·exact ok.base.new b z
   ·exact .inr ⟨h4,by rw[h2];simp⟩
  ·by_cases hj:i=j
   ·subst hj;rw[Ak hl]at h;cases h;refine⟨_,h1,?_⟩;unfold Rep;exact⟨a,xs,rfl,.inr rfl,.of h2,RepL.ext x h5⟩
   ·rw[An hj]at h;obtain⟨v,e1,e2⟩:=ok.val j d h;exact⟨v,e1,Rep.ext x e2⟩
  ·obtain⟨hj,h⟩:=old j es h;obtain⟨b,ys,e1,e2,e3,e4,e5⟩:=ok.own j es h;refine⟨b,ys,e1,e2,fun z=>?_,e4,RepL.ext x e5⟩;rcases z with z | rfl
   ·exact e3 z
   ·exact hj (ok.inj i j ds es b ho h h1 e1)
  ·obtain⟨_,q1⟩:=old j es q1;obtain⟨_,q2⟩:=old k fs q2;exact ok.inj j k es fs b q1 q2 q3 q4
  ·rcases z with z | rfl
   ·exact ok.fz b z
   ·exact .inl (by rw[h2];simp)
 ·exact⟨F,ok,.refl⟩
def Zk1(i:Nat)(g:DS):DS:=fun ρ=>g (rel i ρ)
theorem ZiT(i:Nat)(h:SD X st g):SD X st (Zk1 i g):=PS.imp h fun E σ H zq=>by
 obtain⟨ρ,F0,H0,F,o,ok,e,k⟩:=zq;obtain⟨F',ok',x⟩:=ok.rel i;exact⟨_,F0,H0,F',o,ok',e,k.ext x⟩
mutual
def noL:D->Bool
 | .lst _=>false
 | .tup xs=>ZkV xs
 | _=>true
def ZkV:List D->Bool
 | []=>true
 | d::ds=>noL d&&ZkV ds
end
mutual
theorem Rep.noL{K:Frag}{F F':Fz}{H:Hp}:∀{d:D} {v:V},L3.noL d=true->Rep K F H d v->Rep K F' H d v
 | .non,_,_,h=>h
 | .bl _,_,_,h=>h
 | .int _,_,_,h=>h
 | .str _,_,_,h=>h
 | .tup ds,_,n,h=>by
  unfold Rep at h ⊢;obtain⟨a,xs,rfl,ht,hr⟩:=h;exact⟨a,xs,rfl,ht,RepL.noL (by simpa[L3.noL]using n) hr⟩
 | .lst ds,_,n,h=>by simp[L3.noL]at n
theorem RepL.noL{K:Frag}{F F':Fz}{H:Hp}:∀{ds:List D} {vs:List V},ZkV ds=true->RepL K F H ds vs->RepL K F' H ds vs
 | [],_,_,h=>by rw[h.unnil];exact .nil
 | d::ds,_,n,h=>by
  obtain⟨y,ys,rfl,h1,h2⟩:=h.uncons;have n':L3.noL d=true/\ZkV ds=true:=by simpa[ZkV]using n
  exact .cons (Rep.noL n'.1 h1) (RepL.noL n'.2 h2)
end
def ZbK(i:Nat)(f:DE):DE:=fun ρ=>(f (rel i ρ)).bind fun d=>if noL d then some d else none
theorem ZgH(i:Nat)(h:ED X e f):ED X e (ZbK i f):=PE.imp h fun σ H Q zq=>by
 obtain⟨ρ,F0,H0,F,d,ok,e,q⟩:=zq;obtain⟨d',ed,e⟩:=bind_some e;obtain⟨n,rfl⟩:=Ye e;obtain⟨F1,ok1,x1⟩:=ok.rel i;exact⟨_,F0,H0,F1,d',ok1,ed,fun v F' H' g r=>q v F H' ⟨g.same,fun _ z=>z,fun _ z=>.inl z⟩ (Rep.noL n r)⟩
def Zff(i:Nat)(t:DT):DT:=fun ρ=>t (rel i ρ)
theorem Zju(i:Nat)(h:TD X e t):TD X e (Zff i t):=PT.imp h fun σ H Q zq=>by
 obtain⟨ρ,F0,H0,F,d,ok,e,q⟩:=zq;obtain⟨F1,ok1,x1⟩:=ok.rel i;exact⟨_,F0,H0,F1,d,ok1,e,fun F' H' g=>q F H' ⟨g.same,fun _ z=>z,fun _ z=>.inl z⟩⟩
end
noncomputable def ZA(n:Nat)(g:DS):List D->Option D:=fun xs=>(g (xs.map .val++List.replicate (n-xs.length) .no)).bind fun o=>match o with | .rt d=>some d | .nx _=>some .non | _=>none
section
variable{P:Program}{w:World}{K:Frag}{mg:Str->Option Value}{base:Heap}
theorem ZoY{x qual:Str}{st:Stmt}{f:Addr}{fd:FuncData}{N ps:List Str}{k:Nat}{g:DS}(F:Fun K x qual st f fd)(S:Zx N ps (Zf st))
  (hb:∀(cdv:Value) (A:Around) (outer:List Env) (s:Shared) (H:Hp) (E:XK),Room k (A.deeper (envOfC qual (Zf st) s.heap.objs.size f cdv)) ->
   SDs (Zjd CX0 P w K mg base N qual (Zf st) f cdv A outer s H E).nox (QS st) g):FnD P w K mg base (k+1) f fd ps (ZA N.length g):=by
 have hpl:ps.length<=N.length:=by have:=congrArg List.length S.pre;rw[C4]at this;omega
 refine F.ok S (fun vs H Q E h=>?_) (fun cdv A outer s H vs Q E hr h=>⟨_,hb cdv A outer s H E hr,?_⟩)
 ·obtain⟨xs,F,d,hl,hr,_⟩:=h;rw[<-hr.length,hl]
 ·obtain⟨xs,Fz,d,hl,hr',hfz,e,q⟩:=h;obtain⟨o,eo,e⟩:=bind_some e;have hlv:=hr'.length;refine⟨_,Fz,H,Fz,o,⟨.refl,fun i d' h=>?_,fun i ds h=>?_,fun i j ds es a h=>?_,?_,hfz⟩,eo,?_⟩
  ·have hi:i<xs.length:=by
    by_cases hi:i<xs.length
    ·exact hi
    ·rw[Bg (by simpa using hi),C9]at h;split at h<;>cases h
   rw[af (by simpa using hi),au,a_ hi]at h;cases h;obtain⟨v,ev,rv⟩:=hr'.get (show xs[i]?=some xs[i] by simp[hi]);refine⟨v,?_,rv⟩;unfold L2.start;rw[af (by simp;omega),au,ev];rfl
  ·by_cases hi:i<xs.length
   ·rw[af (by simpa using hi),au,a_ hi]at h;cases h
   ·rw[Bg (by simpa using hi),C9]at h;split at h<;>cases h
  ·by_cases hi:i<xs.length
   ·rw[af (by simpa using hi),au,a_ hi]at h;cases h
   ·rw[Bg (by simpa using hi),C9]at h;split at h<;>cases h
  ·unfold L2.start;simp;omega
  ·cases o with
   | rt d'=>cases e;exact fun v F' H' g r=>q v F' H' g r
   | nx ρ=>cases e;exact fun σ' F' H' x ok=>q _ F' H' ok.base (by unfold Rep;rfl)
   | bk ρ=>cases e
   | ct ρ=>cases e
end
section
variable{X:Cx}{pins:List (Addr×Obj)}{σ:L2.St}{H:Hp}{s:Shared}{h':Heap}
theorem V6{t':Nat}{e it:Addr}{o:HO}(I:Inv X pins σ H s)(f1:Zcc X pins H e)(f2:Zcc X pins H it)(k:∀ b u,b≠e->b≠it->s.heap.get? b=some u->h'.get? b=some u)
  (new:ObjOk X.prog X.w (upd H s.heap.objs.size o) h' s.heap.objs.size o):Inv X pins σ (upd H s.heap.objs.size o) {s with heap:=h',toks:=t'}:=by
 have hp:H s.heap.objs.size=none:=I.hok.fresh (A7 _);have inH:∀{b:Addr} {u:Obj},s.heap.get? b=some u->b≠s.heap.objs.size:=fun q=>Am (Heap.lt_size q);have kk:∀ b u,b ∉ [e,it]->s.heap.get? b=some u->h'.get? b=some u:=fun b u hb q=>k b u (fun z=>hb (by simp[z])) (fun z=>hb (by simp[z])) q;have nT:∀ b u,H b=some u->b ∉ [e,it]:=fun b u q z=>by
  rcases A4.mp z with z | z
  ·rw[z,f1.1]at q;cases q
  ·rw[A0]at z;rw[z,f2.1]at q;cases q
 refine I.step (g':=s.gens) (d':=s.drawn) (ch:=[e,it]) (fun b hb=>?_) (fun b u _ _ hc q _=>kk b u hc q) (fun b u _ _ hc q _=>⟨u.slots,kk b u hc q⟩) (fun b u hc q n=>?_) (fun b u hc q=>⟨u,kk b u hc q⟩)
  (fun b xs q=>?_) (fun b u xs q=>?_) (fun b ps q=>⟨#[],?_⟩) (fun m hm=>?_) (fun b u q=>?_) I.bare
 ·rcases A4.mp hb with z | z
  ·subst z;exact⟨f1.2.2.2.1,f1.2.1,f1.2.2.2.2.1,f1.2.2.2.2.2⟩
  ·rw[A0]at z;subst z;exact⟨f2.2.2.2.1,f2.2.1,f2.2.2.2.2.1,f2.2.2.2.2.2⟩
 ·rw[ZJ (inH q)];exact n
 ·rw[ZJ (ZG q hp)];exact q
 ·rw[ZJ (ZG q hp)];exact q
 ·rw[ZJ (ZG q hp),q];simp
 ·obtain⟨ob,es,ep,ho,r⟩:=hm;exact⟨ob,es,ep,k _ ob (fun z=>f1.2.1 z.symm) (fun z=>f2.2.1 z.symm) ho,r⟩
 ·by_cases hb:b=s.heap.objs.size
  ·subst hb;rw[ZP]at q;cases q;exact new
  ·rw[ZJ hb]at q;refine(I.hok b u q).stay (fun c v hc r=>kk c v ?_ r) (fun c r=>by rw[ZJ (ZG r hp)];exact r) fun c xs r=>by rw[ZJ (ZG r hp)];exact r
   rcases hc with z | z
   ·rw[z];exact nT b u q
   ·exact nT c _ z
end
def Ite (K : Frag) (a : Addr) (tup : Bool) : It :=
  ⟨fun i H => ∃ xs x, (if tup then SqT K H a xs else SqL K H a xs) /\ xs[i]? = some x,
   fun i H x H' => ∃ p y, (∀ xs, (if tup then SqT K H a xs else SqL K H a xs) -> xs[i]? = some y) /\ H p = none /\ x = .ref p /\ H' = upd H p (.tup [.int i, y]),
   fun i H => ∃ xs, (if tup then SqT K H a xs else SqL K H a xs) /\ xs.length <= i⟩
theorem Zeb{P:Program}{w:World}{K:Frag}{elts:List Expr}{k:Nat}{pos:Pos}(a e it:Addr)(hei:e≠it):
  Zjj P w K (.Tuple elts k pos) (Ite K a false) [e,it] e (fun i h=>(∃ old,IsEnum h e it i old)/\h.IsListIter it a i) where
 mem:=by simp
 obj:=fun i h st b hb=>by
  obtain⟨⟨old,he⟩,o,h1,h2,h3⟩:=st;rcases A4.mp hb with z | z
  ·subst z;exact⟨_,he,fun v z=>by have z':Data.fields _=Data.cell v:=z;cases z'⟩
  ·rw[A0]at z;subst z;exact⟨o,h1,fun v z=>by rw[h3]at z;cases z⟩
 keep:=fun i h h' st kp=>by
  obtain⟨⟨old,he⟩,st⟩:=st;exact⟨⟨old,kp e (by simp) _ he⟩,st.at fun o q=>kp it (by simp) o q⟩
 item:=by
  intro X hP hw hK hc i pins s σ H E I hf st hg;subst hP hw hK;obtain⟨xs,x,hq,hx⟩:=hg;have hq:SqL X.K H a xs:=hq;obtain⟨⟨old,he⟩,hit⟩:=st;obtain⟨its,rv,p,hz⟩:=I.list hq;obtain⟨u,hu,ru⟩:=rv.get hx;have f1:=hf e (by simp);have f2:=hf it (by simp);refine wpAny_pyNext_enum_item he hit p.isList (x:=u) (by simpa using hu) hei fun h1 he1 hit1 ht1 hz1 kp=>?_;have hp:H s.heap.objs.size=none:=I.hok.fresh (A7 _);have I1:Inv X pins σ (upd H s.heap.objs.size (.tup [.int i,x])) {s with heap:=h1,toks:=s.toks+1}:=
   V6 I f1 f2 (fun b ob h1' h2' q=>kp b ob h1' h2' q) ⟨by show 2<=sizeLine;decide,[.int i s.toks,u],.cons ⟨_,rfl⟩ (.cons ru .nil),⟨_,ht1,rfl,rfl,_,rfl⟩⟩
  refine⟨_,rfl,wpAny_letOwnedTupleGo_enum (s:={s with heap:=h1,toks:=s.toks+1}) he1 fun h2 he2 hs2=>?_⟩;have ne:∀{b},H b=none->b∈[e,it]->b≠s.heap.objs.size:=fun {b} _ hb=>by
   rcases A4.mp hb with z | z
   ·rw[z];exact Am (Heap.lt_size he)
   ·rw[A0]at z;rw[z];obtain⟨o,q,_⟩:=hit;exact Am (Heap.lt_size q)
  have fz:∀ b∈[e,it],upd H s.heap.objs.size (.tup [.int i,x]) b=none:=fun b hb=>by rw[ZJ (ne (hf b hb).1 hb)];exact(hf b hb).1
  have I2:Inv X pins σ (upd H s.heap.objs.size (.tup [.int i,x])) {s with heap:=h2,toks:=s.toks+1}:=
   L2.Inv.turned (s:={s with heap:=h1,toks:=s.toks+1}) (t':=s.toks+1) (it:=e) I1 (fun b ob hb q=>(hs2.2 b hb).trans q) (fz e (by simp)) f1.2.1 f1.2.2.2.1 f1.2.2.2.2.1 f1.2.2.2.2.2
  exact⟨.ref s.heap.objs.size,_,I2,rfl,⟨s.heap.objs.size,x,fun xs' hq'=>by rw[I.list_inj (show SqL X.K H a xs' from hq') hq];exact hx,hp,rfl,rfl⟩,⟨⟨u,he2⟩,hit1.at fun ob q=>(hs2.2 it (Ao hei)).trans q⟩,fz⟩
 done:=by
  intro X hP hw hK hc i pins s σ H E I hf st hg;subst hP hw hK;obtain⟨xs,hq,hx⟩:=hg;have hq:SqL X.K H a xs:=hq;obtain⟨⟨old,he⟩,hit⟩:=st;obtain⟨its,rv,p,hz⟩:=I.list hq;have hl:=rv.length;have f2:=hf it (by simp);exact wpAny_pyNext_enum_end (I.ok.hd hc) he hit p.isList (by simp;omega) fun h1 hb=>⟨rfl,I.turned (t':=s.toks) (it:=it) (fun b ob hb' q=>hb b ob hb' q) f2.1 f2.2.1 f2.2.2.2.1 f2.2.2.2.2.1 f2.2.2.2.2.2⟩
 self:=fun _ _ _ _ _ st h=>by
  obtain⟨⟨old,he⟩,_⟩:=st;exact wpAny_pyIter_enum he h
open PySem.AutoSeq1 (wpAny_loadPart')
section
variable{prog:Program}{w:World}{A:Around}{E:Value->Shared->Prop}{s:Shared}
theorem Zeq{it t:Addr}{i:Nat}{its:Array Value}{x:Value}{Q:Value->Shared->Prop}(hi:s.heap.IsTupleIter it t i)(ht:s.heap.IsTuple t its)(hx:its[i]?=some x)
  (q:∀ k,k.IsTupleIter it t (i+1)->Heap.SameBut it s.heap k->Q x {s with heap:=k}):wpAny (model prog w) A (Builtin.SmallTypes.nextOf (.ref it)) Q E s:=by
 obtain⟨o,ho,hc,hd⟩:=id hi;obtain⟨ot,hot,_,nt,hdt⟩:=ht;unfold Builtin.SmallTypes.nextOf;refine wpAny_bind (wpAny_callSpecial?_slot (name:=Str.ofString "__next__") hi.typeIs F.slot_tuple_iterator_next (wpAny_call_entry F.slot_tuple_iterator_next hi.typeIs F.entry_tuple_iterator_next ?_ (F.args_tuple_iterator_next_1 _)));show wpAny _ _ (field (.ref it) 0 >>= _) _ _ s;refine wpAny_bind (wpAny_field ho hd (x:=.ref t) rfl ?_);show wpAny _ _ (if(Value.ref t==Value.none)=true then _ else _) _ _ s;rw[if_neg (show ¬ ((Value.ref t==Value.none)=true) from Bv)];show wpAny _ _ (field (.ref it) 1 >>= _) _ _ s;refine wpAny_bind (wpAny_field ho hd (x:=.int i 0) rfl ?_);show wpAny _ _ (seqItems? (.ref t) >>= _) _ _ s;refine wpAny_bind (wpAny_seqItems hot hdt ?_);simp only[bo,hx];refine wpAny_bind (wpAny_setField ho hd (by simp) (wpAny_pure ⟨x,rfl,wpAny_pure (q _ ⟨_,Heap.get?_update_self _ ho (Obj.isFreed_of_fields (Obj.data_mapFields hd _)),(Obj.cls_mapFields ..).trans hc,by rw[Obj.data_mapFields hd];simp[rawInt]⟩ (Heap.SameBut.update ..))⟩))
theorem Zf4{it t:Addr}{i:Nat}{its:Array Value}{Q:Value->Shared->Prop}(hh:A.handled=none)(hi:s.heap.IsTupleIter it t i)(ht:s.heap.IsTuple t its)(hx:its[i]?=none)
  (q:∀ k e,Heap.ExtBut it s.heap k->(∃ o,k.get? e=some o/\o.cls=.type "StopIteration")->E (.ref e) {s with heap:=k}):wpAny (model prog w) A (Builtin.SmallTypes.nextOf (.ref it)) Q E s:=by
 obtain⟨o,ho,hc,hd⟩:=id hi;obtain⟨ot,hot,_,nt,hdt⟩:=ht;unfold Builtin.SmallTypes.nextOf;refine wpAny_bind (wpAny_callSpecial?_slot (name:=Str.ofString "__next__") hi.typeIs F.slot_tuple_iterator_next (wpAny_call_entry F.slot_tuple_iterator_next hi.typeIs F.entry_tuple_iterator_next ?_ (F.args_tuple_iterator_next_1 _)));show wpAny _ _ (field (.ref it) 0 >>= _) _ _ s;refine wpAny_bind (wpAny_field ho hd (x:=.ref t) rfl ?_);show wpAny _ _ (if(Value.ref t==Value.none)=true then _ else _) _ _ s;rw[if_neg (show ¬ ((Value.ref t==Value.none)=true) from Bv)];show wpAny _ _ (field (.ref it) 1 >>= _) _ _ s;refine wpAny_bind (wpAny_field ho hd (x:=.int i 0) rfl ?_);show wpAny _ _ (seqItems? (.ref t) >>= _) _ _ s;refine wpAny_bind (wpAny_seqItems hot hdt ?_);simp only[bo,hx];refine wpAny_bind (wpAny_rule (wpAny_bind (wpAny_setField ho hd (by simp) ?_)));show wpAny _ _ (newExc (.type "StopIteration") [] >>= _) _ _ _;refine wpAny_bind ?_;simp only[newExc,newTuple];refine wpAny_bind (wpAny_newObj_type ?_ (by size_fits));refine wpAny_bind (m:=firstArgMember _ _) (wpAny_of_eq (a:=Value.none) (by first | rfl | (simp only[firstArgMember];rfl)) ?_)
 refine wpAny_newObj_type ?_ (by size_fits);simp only[raiseNew];refine wpAny_bind (wpAny_handled ?_)
 first | rw[show A.in1.handled=none from hh] | rw[hh]
 refine wpAny_bind (wpAny_pure (wpAny_throw ?_));exact q _ _ (((Heap.SameBut.update ..).extBut.push _).push _) ⟨_,Heap.get?_push_size _ rfl,rfl⟩
theorem ZeD{e it t:Addr}{i:Nat}{its:Array Value}{x old:Value}{Q:Value->Shared->Prop}(he:IsEnum s.heap e it i old)(hi:s.heap.IsTupleIter it t i)(ht:s.heap.IsTuple t its)(hx:its[i]?=some x)(hne:e≠it)
  (q:∀ k,IsEnumOut k e it ((i:Int)+1) x s.heap.objs.size->k.IsTupleIter it t (i+1)->k.get? s.heap.objs.size=some {cls:=.type "tuple",data:=.seq #[.int i s.toks,x]}->k.objs.size=s.heap.objs.size+1 ->
   (∀ b o,b≠e->b≠it->s.heap.get? b=some o->k.get? b=some o)->Q (.ref s.heap.objs.size) {s with heap:=k,toks:=s.toks+1}) :
  wpAny (model prog w) A (Builtin.«enumerate.__next__» ⟨[.ref e],[]⟩) (fun fin s'=>∃ v,fin=.done (.ret v)/\Q v s') E s:=by
 obtain⟨hp,gs,dr,tk,os⟩:=s;show wpAny _ _ (field (.ref e) 2 >>= _) _ _ _;refine wpAny_bind (wpAny_field he rfl (x:=.ref it) rfl ?_);refine wpAny_bind (Zeq hi ht hx fun k1 hi1 sb1=>?_)
 replace sb1:Heap.SameBut it hp k1:=sb1
 have en1:IsEnum k1 e it i old:=(sb1.2 e hne).trans he;show wpAny _ _ (field (.ref e) 3 >>= _) _ _ ⟨k1,gs,dr,tk,os⟩;refine wpAny_bind (wpAny_field en1 rfl (x:=rawInt i) rfl ?_);show wpAny _ _ (field (.ref e) 4 >>= _) _ _ ⟨k1,gs,dr,tk,os⟩;refine wpAny_bind (wpAny_field en1 rfl (x:=.none) rfl ?_);show wpAny _ _ (mkInt i >>= _) _ _ ⟨k1,gs,dr,tk,os⟩;refine wpAny_bind (wpAny_mkInt ?_);show wpAny _ _ (setField (.ref e) 3 (rawInt ((i:Int)+1)) >>= _) _ _ ⟨k1,gs,dr,tk+1,os⟩;refine wpAny_bind (wpAny_setField_rec en1 (by simp) fun k2 en2 sb2=>?_)
 replace sb2:Heap.SameBut e k1 k2:=sb2;replace en2:IsEnum k2 e it ((i:Int)+1) old:=en2
 show wpAny _ _ (setField (.ref e) 4 .none >>= _) _ _ ⟨k2,gs,dr,tk+1,os⟩;refine wpAny_bind (wpAny_setField_rec en2 (by simp) fun k3 en3 sb3=>?_)
 replace sb3:Heap.SameBut e k2 k3:=sb3;replace en3:IsEnum k3 e it ((i:Int)+1) old:=en3
 show wpAny _ _ (newTuple [.int i tk,x] >>= _) _ _ ⟨k3,gs,dr,tk+1,os⟩;refine wpAny_bind (wpAny_newTuple ?_);have en4:IsEnum (k3.push {cls:=.type "tuple",data:=.seq #[.int i tk,x]}) e it ((i:Int)+1) old:=Heap.get?_push_of_some _ en3;generalize h4:k3.push {cls:=.type "tuple",data:=.seq #[.int i tk,x]}=k4 at en4;have z3:k3.objs.size=hp.objs.size:=by rw[sb3.1,sb2.1,sb1.1]
 have lt:e<hp.objs.size:=Heap.lt_size he;have t4:k4.get? hp.objs.size=some {cls:=.type "tuple",data:=.seq #[.int i tk,x]}:=by rw[<-h4,<-z3];exact Heap.get?_push_size _ rfl
 have z4:k4.objs.size=hp.objs.size+1:=by rw[<-h4,Heap.size_push,z3]
 have old4:∀ b o,b≠e->b≠it->hp.get? b=some o->k4.get? b=some o:=fun b o n1 n2 hb=>by
  rw[<-h4];exact Heap.get?_push_of_some _ (sb3.extBut b o n1 (sb2.extBut b o n1 (sb1.extBut b o n2 hb)))
 have hi4:k4.IsTupleIter it t (i+1):=by
  rw[<-h4];obtain⟨o,ho,r⟩:=(hi1.extBut sb2.extBut (Ao hne)).extBut sb3.extBut (Ao hne);exact⟨o,Heap.get?_push_of_some _ ho,r⟩
 show wpAny _ _ (Builtin.SmallTypes.ownedTupleIsFree (.ref e) >>= _) _ _ ⟨k4,gs,dr,tk+1,os⟩;rw[z3];clear h4 en3 sb3 en2 sb2 en1 sb1 hi1 z3 k3 k2 k1;refine wpAny_bind ?_;unfold Builtin.SmallTypes.ownedTupleIsFree;refine wpAny_bind (wpAny_field en4 rfl (x:=.none) rfl (wpAny_pure ?_));simp only[if_true];refine wpAny_bind (wpAny_rule ?_);refine wpAny_bind (wpAny_field en4 rfl (x:=old) rfl ?_);refine wpAny_bind (wpAny_setField_rec en4 (by simp) fun k5 en5 sb5=>?_)
 replace sb5:Heap.SameBut e k4 k5:=sb5;replace en5:IsEnum k5 e it ((i:Int)+1) x:=en5
 show wpAny _ _ (Builtin.SmallTypes.ownedTupleHandOut (.ref e) (.ref hp.objs.size) >>= _) _ _ ⟨k5,gs,dr,tk+1,os⟩;refine wpAny_bind ?_;unfold Builtin.SmallTypes.ownedTupleHandOut;refine wpAny_bind (wpAny_setField_rec en5 (by simp) fun k6 en6 sb6=>?_)
 replace sb6:Heap.SameBut e k5 k6:=sb6;replace en6:IsEnumOut k6 e it ((i:Int)+1) x hp.objs.size:=en6
 refine wpAny_setField_rec en6 (by simp) fun k7 en7 sb7=>?_
 replace sb7:Heap.SameBut e k6 k7:=sb7;replace en7:IsEnumOut k7 e it ((i:Int)+1) x hp.objs.size:=en7
 have up:∀ b o,b≠e->k4.get? b=some o->k7.get? b=some o:=fun b o n hb=>sb7.extBut b o n (sb6.extBut b o n (sb5.extBut b o n hb));refine wpAny_bind (wpAny_letGo (wpAny_pure ⟨_,rfl,q k7 en7 ?_ (up _ _ (Nat.ne_of_gt lt) t4) (by rw[sb7.1,sb6.1,sb5.1,z4]) fun b o n1 n2 hb=>up b o n1 (old4 b o n1 n2 hb)⟩));obtain⟨o,ho,r⟩:=hi4;exact⟨o,up it o (Ao hne) ho,r⟩
theorem ZeE{e it t:Addr}{i:Nat}{its:Array Value}{x old:Value}{Q:Option Value->Shared->Prop}(he:IsEnum s.heap e it i old)(hi:s.heap.IsTupleIter it t i)(ht:s.heap.IsTuple t its)(hx:its[i]?=some x)(hne:e≠it)
  (q:∀ k,IsEnumOut k e it ((i:Int)+1) x s.heap.objs.size->k.IsTupleIter it t (i+1)->k.get? s.heap.objs.size=some {cls:=.type "tuple",data:=.seq #[.int i s.toks,x]}->k.objs.size=s.heap.objs.size+1 ->
   (∀ b o,b≠e->b≠it->s.heap.get? b=some o->k.get? b=some o)->Q (some (.ref s.heap.objs.size)) {s with heap:=k,toks:=s.toks+1}):wpAny (model prog w) A (pyNext (.ref e)) Q E s:=by
 have ty:s.TypeIs (.ref e) "enumerate":=⟨_,he,rfl⟩;unfold pyNext;exact wpAny_bind (wpAny_attempt (wpAny_callSpecial?_slot (name:=Str.ofString "__next__") ty F.slot_enumerate_next (wpAny_call_entry F.slot_enumerate_next ty F.entry_enumerate_next
  (ZeD he hi ht hx hne fun k a b c d o=>wpAny_pure (q k a b c d o)) (F.args_enumerate_next_1 _))))
theorem ZgG{e it t:Addr}{i:Nat}{its:Array Value}{old:Value}{Q:Option Value->Shared->Prop}(hh:A.handled=none)(he:IsEnum s.heap e it i old)(hi:s.heap.IsTupleIter it t i)(ht:s.heap.IsTuple t its)(hx:its[i]?=none)
  (q:∀ k,Heap.ExtBut it s.heap k->Q none {s with heap:=k}):wpAny (model prog w) A (pyNext (.ref e)) Q E s:=by
 have ty:s.TypeIs (.ref e) "enumerate":=⟨_,he,rfl⟩;unfold pyNext;refine wpAny_bind (wpAny_attempt (wpAny_callSpecial?_slot (name:=Str.ofString "__next__") ty F.slot_enumerate_next (wpAny_call_entry F.slot_enumerate_next ty F.entry_enumerate_next ?_ (F.args_enumerate_next_1 _))));show wpAny _ _ (field (.ref e) 2 >>= _) _ _ _;refine wpAny_bind (wpAny_field he rfl (x:=.ref it) rfl ?_);refine wpAny_bind (Zf4 hh hi ht hx fun k x kb zq=>?_);obtain⟨o,ho,hc⟩:=zq;refine wpAny_bind (wpAny_isInstance (T:="StopIteration") (b:=true) ⟨o,ho,hc⟩ isSubtype_stop ?_);exact wpAny_pure (q _ kb)
theorem ZgF(t:Addr)(its:Array Value)(n:Nat)(dd:Option Addr)(sl:Array (Option Value)):
  Meets (Builtin.«enumerate.__new__» ⟨[.type "enumerate",.ref t],[]⟩) (fun _ R s=>s.heap.get? t=some {cls:=.type "tuple",dict:=dd,data:=.seq its n,slots:=sl} /\
   R (.ok (.ret (.ref (s.heap.push {cls:=.type "tuple_iterator",data:=.fields #[.ref t,.int 0 0]}).objs.size)))
    {s with heap:=(s.heap.push {cls:=.type "tuple_iterator",data:=.fields #[.ref t,.int 0 0]}).push {cls:=.type "enumerate",data:=.fields #[.none,.bool false,.ref s.heap.objs.size,rawInt 0,.none,.none]}}):=
 .of_wp fun prog w A R s h=>by
  obtain⟨hp,gs,dr,tk,os⟩:=s;obtain⟨ht,h⟩:=h;have hsub:=sub_enumerate;have hT:Heap.IsTuple (Shared.heap ⟨hp,gs,dr,tk,os⟩) t its:=⟨_,ht,rfl,n,rfl⟩
  wp_walk using wpAny_loadPart' ht
  refine wpAny_stack_any fun st=>wpAny_pure ?_;split
  ·rename_i c _ _ _ _ _
   cases (c==Value.type "enumerate")
   ·wp_walk using wpAny_loadPart' ht,wpAny_pyIter_tuple hT
    exact⟨_,rfl,h⟩
   ·wp_walk using wpAny_loadPart' ht,wpAny_pyIter_tuple hT
    exact⟨_,rfl,h⟩
  ·wp_walk using wpAny_loadPart' ht,wpAny_pyIter_tuple hT
   exact⟨_,rfl,h⟩
theorem ZeF{t:Addr}{its:Array Value}{Q:Value->Shared->Prop}(ht:s.heap.IsTuple t its)
  (h:∀ k,IsEnum k (s.heap.objs.size+1) s.heap.objs.size 0 .none->k.IsTupleIter s.heap.objs.size t 0->k.objs.size=s.heap.objs.size+2->(∀ b o,s.heap.get? b=some o->k.get? b=some o)->Q (.ref (s.heap.objs.size+1)) {s with heap:=k}):
  wpAny (model prog w) A (call (.type "enumerate") [.ref t]) Q E s:=by
 obtain⟨⟨c,dd,dt,sl⟩,ho,hc,n,hd⟩:=ht
 replace hc:c=.type "tuple":=hc;replace hd:dt=.seq its n:=hd;subst hc hd
 refine callType_new F.called_enumerate (by decide) (F.typeCall_enumerate_1 _) (F.newCall_enumerate_1 _) (fun obj=>F.args_object_init_2 obj _) F.entry_enumerate_new (ZgF t its n dd sl) ⟨ho,?_⟩;have z1:(s.heap.push {cls:=.type "tuple_iterator",data:=.fields #[.ref t,.int 0 0]}).objs.size=s.heap.objs.size+1:=Heap.size_push ..;show _/\_;rw[z1];have en:IsEnum ((s.heap.push {cls:=.type "tuple_iterator",data:=.fields #[.ref t,.int 0 0]}).push {cls:=.type "enumerate",data:=.fields #[.none,.bool false,.ref s.heap.objs.size,rawInt 0,.none,.none]}) (s.heap.objs.size+1) s.heap.objs.size 0 .none:=by
  have:=Heap.get?_push_size (s.heap.push {cls:=.type "tuple_iterator",data:=.fields #[.ref t,.int 0 0]}) (o:={cls:=.type "enumerate",data:=.fields #[.none,.bool false,.ref s.heap.objs.size,rawInt 0,.none,.none]}) rfl;rw[z1]at this;exact this
 exact⟨⟨_,en,rfl⟩,h _ en ⟨_,Heap.get?_push_of_some _ (Heap.get?_push_size _ rfl),rfl,rfl⟩ (by rw[Heap.size_push,z1]) fun b o x=>Heap.get?_push_of_some _ (Heap.get?_push_of_some _ x)⟩
end
theorem Zea{P:Program}{w:World}{K:Frag}{elts:List Expr}{k:Nat}{pos:Pos}(a e it:Addr)(hei:e≠it):
  Zjj P w K (.Tuple elts k pos) (Ite K a true) [e,it] e (fun i h=>(∃ old,IsEnum h e it i old)/\h.IsTupleIter it a i) where
 mem:=by simp
 obj:=fun i h st b hb=>by
  obtain⟨⟨old,he⟩,o,h1,h2,h3⟩:=st;rcases A4.mp hb with z | z
  ·subst z;exact⟨_,he,fun v z=>by have z':Data.fields _=Data.cell v:=z;cases z'⟩
  ·rw[A0]at z;subst z;exact⟨o,h1,fun v z=>by rw[h3]at z;cases z⟩
 keep:=fun i h h' st kp=>by
  obtain⟨⟨old,he⟩,st⟩:=st;exact⟨⟨old,kp e (by simp) _ he⟩,st.at fun o q=>kp it (by simp) o q⟩
 item:=by
  intro X hP hw hK hc i pins s σ H E I hf st hg;subst hP hw hK;obtain⟨xs,x,hq,hx⟩:=hg;have hq:SqT X.K H a xs:=hq;obtain⟨⟨old,he⟩,hit⟩:=st;obtain⟨its,rv,p,hz⟩:=I.tuple hq;obtain⟨u,hu,ru⟩:=rv.get hx;have f1:=hf e (by simp);have f2:=hf it (by simp);refine ZeE he hit (show s.heap.IsTuple a its.toArray from p) (x:=u) (by simpa using hu) hei fun h1 he1 hit1 ht1 hz1 kp=>?_;have hp:H s.heap.objs.size=none:=I.hok.fresh (A7 _);have I1:Inv X pins σ (upd H s.heap.objs.size (.tup [.int i,x])) {s with heap:=h1,toks:=s.toks+1}:=
   V6 I f1 f2 (fun b ob h1' h2' q=>kp b ob h1' h2' q) ⟨by show 2<=sizeLine;decide,[.int i s.toks,u],.cons ⟨_,rfl⟩ (.cons ru .nil),⟨_,ht1,rfl,rfl,_,rfl⟩⟩
  refine⟨_,rfl,wpAny_letOwnedTupleGo_enum (s:={s with heap:=h1,toks:=s.toks+1}) he1 fun h2 he2 hs2=>?_⟩;have ne:∀{b},H b=none->b∈[e,it]->b≠s.heap.objs.size:=fun {b} _ hb=>by
   rcases A4.mp hb with z | z
   ·rw[z];exact Am (Heap.lt_size he)
   ·rw[A0]at z;rw[z];obtain⟨o,q,_⟩:=hit;exact Am (Heap.lt_size q)
  have fz:∀ b∈[e,it],upd H s.heap.objs.size (.tup [.int i,x]) b=none:=fun b hb=>by rw[ZJ (ne (hf b hb).1 hb)];exact(hf b hb).1
  have I2:Inv X pins σ (upd H s.heap.objs.size (.tup [.int i,x])) {s with heap:=h2,toks:=s.toks+1}:=
   L2.Inv.turned (s:={s with heap:=h1,toks:=s.toks+1}) (t':=s.toks+1) (it:=e) I1 (fun b ob hb q=>(hs2.2 b hb).trans q) (fz e (by simp)) f1.2.1 f1.2.2.2.1 f1.2.2.2.2.1 f1.2.2.2.2.2
  exact⟨.ref s.heap.objs.size,_,I2,rfl,⟨s.heap.objs.size,x,fun xs' hq'=>by rw[I.tuple_inj (show SqT X.K H a xs' from hq') hq];exact hx,hp,rfl,rfl⟩,⟨⟨u,he2⟩,hit1.at fun ob q=>(hs2.2 it (Ao hei)).trans q⟩,fz⟩
 done:=by
  intro X hP hw hK hc i pins s σ H E I hf st hg;subst hP hw hK;obtain⟨xs,hq,hx⟩:=hg;have hq:SqT X.K H a xs:=hq;obtain⟨⟨old,he⟩,hit⟩:=st;obtain⟨its,rv,p,hz⟩:=I.tuple hq;have hl:=rv.length;have f2:=hf it (by simp);exact ZgG (I.ok.hd hc) he hit (show s.heap.IsTuple a its.toArray from p) (by simp;omega) fun h1 hb=>⟨rfl,I.turned (t':=s.toks) (it:=it) (fun b ob hb' q=>hb b ob hb' q) f2.1 f2.2.1 f2.2.2.2.1 f2.2.2.2.2.1 f2.2.2.2.2.2⟩
 self:=fun _ _ _ _ _ st h=>by
  obtain⟨⟨old,he⟩,_⟩:=st;exact wpAny_pyIter_enum he h
def ZcS(cells:List (Str×Addr)):List (Str×NameKind)->List (Str×Addr)->List (Str×Addr)
 | [],acc=>acc
 | (n,k)::r,acc=>if k==.free then ZcS cells r ((n,(cells.lookup n).getD 0)::acc) else ZcS cells r acc
theorem Zac{env:Env}:∀(names:List (Str×NameKind)) (acc:List (Str×Addr)),(∀ y∈names,y.2=.free->∃ c,env.cells.lookup y.1=some c) ->
  (forIn names acc fun y cs=>match y with | (name,kind)=>(if kind==NameKind.free then do let c <- cellOf env name;pure (ForInStep.yield ((name,c)::cs)) else pure (ForInStep.yield cs):Sem (ForInStep (List (Str×Addr)))))=pure (ZcS env.cells names acc)
 | [],acc,_=>rfl
 | (n,k)::r,acc,h=>by
  rw[List.forIn_cons];have ih:=fun acc=>Zac r acc fun y hy=>h y (A3 _ hy);by_cases hk:k=.free
  ·subst hk;obtain⟨c,e⟩:=h (n,.free) A6 rfl;have e':env.cells.lookup n=some c:=e;have:cellOf env n=pure c:=by unfold cellOf;rw[e']
   have b:(NameKind.free==NameKind.free)=true:=rfl;simp only[b,if_true,this,ZcS,e',Option.getD_some];exact ih _
  ·have b:(k==NameKind.free)=false:=by simpa using hk
   simp only[b,Af,if_false,ZcS];exact ih _
theorem UO{scope:Scope}{env:Env}(h:∀ y∈scope.names,y.2=.free->∃ c,env.cells.lookup y.1=some c):closureFor scope env=pure (ZcS env.cells scope.names []):=by
 have e:=Zac (env:=env) scope.names [] h;unfold closureFor;have q:(forIn scope.names ([]:List (Str×Addr)) fun y cs=>match y with | (name,kind)=>(if kind==NameKind.free then do let c <- cellOf env name;pure (ForInStep.yield ((name,c)::cs)) else pure (ForInStep.yield cs):Sem (ForInStep (List (Str×Addr))))) >>= pure=pure (ZcS env.cells scope.names []):=by rw[e];rfl
 exact q
theorem Ut{cells:List (Str×Addr)}:∀(names:List (Str×NameKind)) (acc:List (Str×Addr)) (x:Str) (c:Addr),(∀ y∈names,y.2=.free->∃ c,cells.lookup y.1=some c) ->
  (ZcS cells names acc).lookup x=some c->cells.lookup x=some c\/acc.lookup x=some c
 | [],acc,x,c,_,e=>.inr e
 | (n,k)::r,acc,x,c,h,e=>by
  have h':=fun y hy=>h y (A3 (n,k) hy);unfold ZcS at e;by_cases hk:(k==NameKind.free)=true
  ·rw[if_pos hk]at e;rcases Ut r _ x c h' e with z | z
   ·exact .inl z
   ·rw[Cj]at z;cases q:x==n with
    | true=>
     rw[q]at z;obtain⟨c',e'⟩:=h (n,k) A6 (eq_of_beq hk);have e':cells.lookup n=some c':=e';rw[e']at z;left;rw[eq_of_beq q,e'];exact z
    | false=>rw[q]at z;exact .inr z
  ·rw[if_neg hk]at e;exact Ut r acc x c h' e
theorem VC {cells : List (Str × Addr)} : ∀ (names : List (Str × NameKind)) (acc : List (Str × Addr)) (x : Str), ((∃ y ∈ names, y.1 = x /\ y.2 = .free) \/ ∃ c, acc.lookup x = some c) -> ∃ c, (ZcS cells names acc).lookup x = some c
  | [], acc, x, h => by
    rcases h with ⟨y, hy, _⟩ | h
    · cases hy
    · exact h
  | (n, k) :: r, acc, x, h => by
    unfold ZcS
    by_cases hk : (k == NameKind.free) = true
    · rw [if_pos hk]
      apply VC r
      rcases h with ⟨y, hy, e1, e2⟩ | ⟨c, h⟩
      · rcases A4.mp hy with rfl | hy
        · right; exact ⟨(cells.lookup n).getD 0, by rw [Cj]; have : (x == n) = true := by rw [<- e1]; exact beq_self_eq_true _
                                                    rw [this]⟩
        · left; exact ⟨y, hy, e1, e2⟩
      · right
        rw [Cj]
        cases q : x == n with
        | true => exact ⟨_, rfl⟩
        | false => exact ⟨c, h⟩
    · rw [if_neg hk]
      apply VC r
      rcases h with ⟨y, hy, e1, e2⟩ | h
      · rcases A4.mp hy with rfl | hy
        · have e2 : k = NameKind.free := e2
          exact absurd (by rw [e2]; rfl) hk
        · left; exact ⟨y, hy, e1, e2⟩
      · exact .inr h
def YX(X:Cx)(N:List Str)(scope:Scope)(C:Addr)(s3:Shared)(H3:Hp)(fp:List Addr):Cx where
 prog:=X.prog
 w:=X.w
 K:=X.K
 mg:=X.mg
 base:=X.base
 A:=X.A
 N:=N
 s₀:=s3
 H₀:=H3
 env:=compEnvC scope (ZcS X.env.cells scope.names []) C X.env
 outer:=X.stack
 stack:=X.stack
 ex:=fp
 fn:=fun _=>false
 calm:=true
 pn:=[]
 xe:=fun _ _=>False
structure CompScope(X:Cx)(scope:Scope):Prop where
 kind:scope.kind=.function
 nocell:∀ y∈scope.names,y.2≠.cell
 loc:∀ y∈scope.names,y.2=.local->scope.names.lookup y.1=some .local
 free:∀ y∈scope.names,y.2=.free->X.env.kindOf y.1=some .cell\/X.env.kindOf y.1=some .free
theorem QE{scope:Scope}{env:Env}{x:Str}{k:NameKind}(h:(relabel scope env).names.lookup x=some k):(k=.cell\/k=.free)->(∀ y∈scope.names,y.2≠.cell)->∃ y∈scope.names,y.1=x/\y.2=.free:=by
 intro hk hn;have gen:∀(names:List (Str×NameKind)),(∀ y∈names,y.2≠.cell)->(names.map fun(n,k)=>if(k==NameKind.free&&env.scope.kind==.function&&env.kindOf n==some .cell) then(n,NameKind.cell) else(n,k)).lookup x=some k->∃ y∈names,y.1=x/\y.2=.free:=by
  intro names
  induction names with
  | nil=>intro _ e;cases e
  | cons y r ih=>
   intro hn e;obtain⟨n,k'⟩:=y;have hn':=fun y hy=>hn y (A3 (n,k') hy);simp only[Au]at e;by_cases c:(k'==NameKind.free&&env.scope.kind==.function&&env.kindOf n==some .cell)=true
   ·rw[if_pos c,Cj]at e;cases q:x==n with
    | true=>
     have kf:k'=.free:=by
      have:=(Ad.mp (Ad.mp c).1).1;exact eq_of_beq this
     exact⟨_,A6,(eq_of_beq q).symm,kf⟩
    | false=>
     rw[q]at e;obtain⟨y,hy,e1⟩:=ih hn' e;exact⟨y,A3 _ hy,e1⟩
   ·rw[if_neg c,Cj]at e;cases q:x==n with
    | true=>
     rw[q]at e;cases e;rcases hk with rfl | rfl
     ·exact absurd rfl (hn (n,.cell) A6)
     ·exact⟨_,A6,(eq_of_beq q).symm,rfl⟩
    | false=>
     rw[q]at e;obtain⟨y,hy,e1⟩:=ih hn' e;exact⟨y,A3 _ hy,e1⟩
 exact gen scope.names hn h
section
variable{X:Cx}{pins:List (Addr×Obj)}{σ:L2.St}{H:Hp}{s:Shared}
theorem CompScope.cells{scope:Scope}(S:CompScope X scope)(ok:X.Ok):∀ y∈scope.names,y.2=.free->∃ c,X.env.cells.lookup y.1=some c:=fun y hy e=>ok.has y.1 (S.free y hy e)
theorem ZeL{scope:Scope}(S:CompScope X scope){N:List Str}{fp:List Addr}{h4:Heap}{m:Str->Option Value}{σ':L2.St}(I:Inv X pins σ H s)(hc:X.calm=true)(hf:∀ b∈fp,Zcc X pins H b)(hlt:∀ b∈fp,b<s.heap.objs.size)
  (hk:∀ b o,s.heap.get? b=some o->h4.get? b=some o)(hn:h4.Ns s.heap.objs.size m)(hl:σ'.length=N.length)
  (hσ:∀(i:Nat) x v,N[i]?=some x->σ'[i]?=some (some v)->Vis (relabel scope X.env) x->((relabel scope X.env).names.lookup x≠some .local)/\∃ j:Nat,X.N[j]?=some x/\σ[j]?=some (some v)/\Vis X.env.scope x/\X.env.kindOf x≠some .local){t':Nat}:
  Inv (YX X N scope s.heap.objs.size s H fp) [] σ' H {s with heap:=h4,toks:=t'}:=by
 have hcell:=S.cells I.ok;have sub:∀ x c,(ZcS X.env.cells scope.names []).lookup x=some c->X.env.cells.lookup x=some c:=fun x c e=>by
  rcases Ut scope.names [] x c hcell e with z | z
  ·exact z
  ·cases z
 refine⟨⟨I.ok.mod,S.kind,I.ok.glob,I.ok.blt,A7 _,fun x y c h1 h2=>I.ok.inj x y c (sub x c h1) (sub y c h2),fun x hx=>?_,fun x c h _=>(Bv (show false=true from h)).elim,fun _=>I.ok.hd hc,I.ok.frames,.inl rfl,fun b hb=>⟨Am (hlt b hb),fun x c e=>(hf b hb).2.2.2.2.1 x c (sub x c e)⟩,I.bs,Ax I.ok.bsz I.sz,fun b o e hb=>?_,fun b hb z=>?_,I.stack,I.stkFree⟩,
  rfl,I.bare,Un.kept hk,⟨m,hn,fun i x v e1 e2 e3=>?_⟩,fun x c e=>?_,I.hok.fresh (A7 _),fun x c e=>I.freeC x c (sub x c e),fun p hp=>absurd (show p∈([]:List (Addr×Obj)) from hp) (by simp),I.hok.kept hk,hl⟩
 ·obtain⟨y,hy,e1,e2⟩:∃ y∈scope.names,y.1=x/\y.2=.free:=by
   rcases hx with hx | hx
   ·exact QE (show(relabel scope X.env).names.lookup x=some .cell from hx) (.inl rfl) S.nocell
   ·exact QE (show(relabel scope X.env).names.lookup x=some .free from hx) (.inr rfl) S.nocell
  exact VC scope.names [] x (.inl ⟨y,hy,e1,e2⟩)
 ·obtain⟨_,_,_,h,_⟩:=hf b hb;rcases h with h | h
  ·exact I.ok.noex b o e h
  ·exact absurd (Aj (Aj (Heap.lt_size e) I.ok.bsz) h) (aq _)
 ·have z:b∈frs X.stack:=z;obtain⟨_,h1,h2,_⟩:=hf b hb;rcases A4.mp (I.stkSub b z) with q | q
  ·exact h1 q
  ·exact h2 q
 ·obtain⟨nl,j,g1,g2,g3,g4⟩:=hσ i x v e1 e2 e3;obtain⟨m0,_,hl0⟩:=I.loc;obtain⟨u,r,l⟩:=hl0 j x v g1 g2 g3;refine⟨u,r,?_⟩;rcases l with⟨l,_⟩ | ⟨_,c,ec,hcl⟩
  ·exact absurd l g4
  ·have kx:(relabel scope X.env).names.lookup x=some .cell\/(relabel scope X.env).names.lookup x=some .free:=by
    rcases e3 with z | z | z
    ·exact absurd z nl
    ·exact .inl z
    ·exact .inr z
   obtain⟨y,hy,y1,y2⟩:∃ y∈scope.names,y.1=x/\y.2=.free:=by
    rcases kx with z | z
    ·exact QE z (.inl rfl) S.nocell
    ·exact QE z (.inr rfl) S.nocell
   obtain⟨c',ec'⟩:=VC (cells:=X.env.cells) scope.names [] x (.inl ⟨y,hy,y1,y2⟩);have:c'=c:=by have:=sub x c' ec';rw[ec]at this;exact(Option.some.inj this).symm
   subst this;refine .inr ⟨kx,c',ec',?_⟩;obtain⟨o,ho,hd⟩:=hcl;exact⟨o,hk _ o ho,hd⟩
 ·obtain⟨v,o,ho,hd⟩:=I.cell x c (sub x c e);exact⟨v,o,hk _ o ho,hd⟩
theorem ZiC{scope:Scope}{N:List Str}{fp:List Addr}{σ':L2.St}{H':Hp}{s':Shared}(I:Inv X pins σ H s)(hf:∀ b∈fp,Zcc X pins H b)(J:Inv (YX X N scope s.heap.objs.size s H fp) [] σ' H' s'):
  ∀ h'',Heap.SameBut s.heap.objs.size s'.heap h''->Inv X pins σ H' {s' with heap:=h''}:=by
 intro h'' hs;have nC:∀{b:Addr} {o:Obj},s.heap.get? b=some o->b≠s.heap.objs.size:=fun e=>Am (Heap.lt_size e);have kp:∀ b,b≠s.heap.objs.size->∀ o,s'.heap.get? b=some o->h''.get? b=some o:=fun b hb o e=>(hs.2 b hb).trans e;have hU:=J.base;refine I.call' (ch:=fp) (s':={s' with heap:=h''}) J.os ⟨fun b o e n h1 h2=>kp b (nC e) o (hU.keep b o e n h1 h2),fun b o e n h1 h2=>?_,hU.free,fun b o e h2=>?_,hU.tups,hU.frzs,hU.tbls⟩ (fun b u e=>?_) J.bare (fun b hb=>?_)
 ·obtain⟨sl,q⟩:=hU.slot b o e n h1 h2;exact⟨sl,kp b (nC e) _ q⟩
 ·obtain⟨o',q⟩:=hU.there b o e h2;exact⟨o',kp b (nC e) _ q⟩
 ·have fr:H' s.heap.objs.size=none:=J.free;refine(J.hok b u e).stay (fun c v hc q=>kp c ?_ v q) (fun _ q=>q) fun _ _ q=>q;rcases hc with z | z
  ·rw[z];exact ZG e fr
  ·exact ZG z fr
 ·obtain⟨_,h1,_,h3,h4,h5⟩:=hf b hb;exact⟨h3,h1,h4,h5⟩
end
theorem wpx{α:Type}{M:Model}{A:Around}{m:Sem α}{Q:α->Shared->Prop}{E:Value->Shared->Prop}{s:Shared}(h:wpAny M A m Q (fun _ _=>False) s):wpAny M A m Q E s:=wpAny_mono h (fun _ _ q=>q) fun _ _ z=>z.elim
def PTs(X:Cx)(ifs:List Expr)(t:TT):Prop:=
 ∀(pins:List (Addr×Obj)) (s:Shared) (σ:L2.St) (H:Hp) (Q:Bool->Hp->Prop),L2.Inv X pins σ H s->t σ H Q ->
  wpAny (model X.prog X.w) X.A (forIn ifs true fun c r=>if r=true then do let ok <- isTrue c X.env (eval c X.env);pure (ForInStep.yield ok) else pure (ForInStep.yield r)) (TP X pins σ Q) X.xe s
theorem ZjO{X:Cx}:PTs X [] (fun _ H Q=>Q true H):=fun pins s σ H Q I h=>wpAny_tests_nil ⟨H,I,h⟩
theorem ZjN{X:Cx}{c:Expr}{t:TT}(h:PT X c t):PTs X [c] t:=fun pins s σ H Q I q=>wpAny_tests_one (h pins s σ H Q I q)
section
variable{X:Cx}{pins:List (Addr×Obj)}{σ:L2.St}{H:Hp}{s:Shared}
theorem Zg1{Y:Cx}{tg elt iter:Expr}{ifs:List Expr}{scope:Scope}{pos:Pos}{fp:List Addr}{it Dl:Addr}{tn:Nat->Heap->Prop}{J:It}{g:TG}{te:TE}{tt:TT}{R:Result->Shared->Prop}
  (T:Zjj Y.prog Y.w Y.K tg J fp it tn)(hc:Y.calm=true)(hxe:Y.xe=fun _ _=>False)(hex:Y.ex=fp)(hpn:Y.pn=[])(hg:PG Y tg g)(hi:PTs Y ifs tt)(he:PE Y elt te)
  (W:Nat->Nat->L2.St->Hp->Prop)(Done:L2.St->Hp->Prop)
  (turn:∀ i m σ H,W i m σ H->(J.stop i H/\Done σ H)\/(J.go i H/\∀ x H',J.yld i H x H'->g x σ H' fun σ2 H2=>tt σ2 H2 fun b H3=>if b=true then te σ2 H3 fun v H4=>∃ ys,H4 Dl=some (.lst ys)/\ys.length<sizeLine/\∃ m',m'<m/\W (i+1) m' σ2 (upd H4 Dl (.lst (ys++[v]))) else ∃ m',m'<m/\W (i+1) m' σ2 H3))
  (fin:∀ σ' H' s',L2.Inv Y [] σ' H' s'->Done σ' H'->R (.ok .next) s')
  (I:L2.Inv Y [] σ H s)(st:tn 0 s.heap)(hf:∀ b∈fp,H b=none)(m:Nat)(w:W 0 m σ H):
  codeAny (model Y.prog Y.w) Y.A (.compLoop (.ListComp elt [⟨tg,iter,ifs,0⟩] scope pos) 0 (.ref it) (.ref Dl) Y.env) R s:=by
 have fpY:∀{H':Hp} (ok:Y.Ok),(∀ b∈fp,H' b=none)->∀ b∈fp,Zcc Y [] H' b:=fun {H'} ok h b hb=>by
  have hb':b∈Y.ex:=by rw[hex];exact hb
  exact⟨h b hb,(ok.exf b hb').1,ok.exfs b hb',.inl hb',(ok.exf b hb').2,fun p hp=>by rw[hpn]at hp;exact absurd (show p∈([]:List (Addr×Obj)) from hp) (by simp)⟩
 refine codeAny_loop rfl (fun n s'=>∃ i σ' H',L2.Inv Y [] σ' H' s'/\tn i s'.heap/\(∀ b∈fp,H' b=none)/\W i n σ' H') (fun n s1 hI=>?_) m ⟨0,σ,H,I,st,hf,w⟩;obtain⟨i,σ1,H1,I1,st1,fr1,w1⟩:=hI;show wpAny _ Y.A ((compTurn (.ListComp elt [⟨tg,iter,ifs,0⟩] scope pos) 0 (.ref it) (.ref Dl) Y.env).onRaise (fun x=>do noteFrame x Y.env;theTreesLotGoes x)) _ _ s1;refine wpAny_noted ?_;rw[compTurn_list];refine wpAny_bind (wpAny_standAt (wpAny_bind ?_));rcases turn i n σ1 H1 w1 with⟨stop,dn⟩ | ⟨go,step⟩
 ·refine wpx (thn (T.done Y rfl rfl rfl hc i [] s1 σ1 H1 _ I1 (fpY I1.ok fr1) st1 stop) fun r s2 zq=>?_);obtain⟨hr,I2⟩:=zq;subst hr;exact wpAny_pure (fin σ1 H1 s2 I2 dn)
 ·refine wpx (thn (T.item Y rfl rfl rfl hc i [] s1 σ1 H1 _ I1 (fpY I1.ok fr1) st1 go) fun r s2 zq=>?_);obtain⟨u,hr,h2⟩:=zq;subst hr;refine wpAny_bind (wpx (thn h2 fun _ s3 zq=>?_));obtain⟨x,H3,I3,r3,y3,st3,fr3⟩:=zq;have I3':=I3.pinned (fpY I3.ok fr3) (T.obj _ _ st3);have hg':=hg _ s3 σ1 H3 x u _ I3' r3 (step x H3 y3);rw[hxe]at hg';refine wpAny_bind (wpx (thn hg' fun _ s4 zq=>?_));obtain⟨σ4,H4,I4,q4⟩:=zq;have hi':=hi _ s4 σ4 H4 _ I4 q4;rw[hxe]at hi';refine wpAny_bind (wpx (thn hi' fun b s5 zq=>?_));obtain⟨H5,I5,q5⟩:=zq;have back:∀{σ7:L2.St} {H7:Hp} {s7:Shared},L2.Inv Y ([]++Zbg fp s3.heap) σ7 H7 s7->(∃ m',m'<n/\W (i+1) m' σ7 H7)->∃ m,m<n/\∃ i σ' H',L2.Inv Y [] σ' H' s7/\tn i s7.heap/\(∀ b∈fp,H' b=none)/\W i m σ' H':=fun {σ7 H7 s7} I7 zq=>by
   obtain⟨m',hm,w7⟩:=zq;have pin:=fun(b:Addr) (hb:b∈fp) (o:Obj) (e:s3.heap.get? b=some o)=>I7.pin (b,o) (az _ (az _ (JL hb e)));refine⟨m',hm,i+1,σ7,H7,I7.unpinned,T.keep _ _ _ st3 fun b hb o e=>(pin b hb o e).1,fun b hb=>?_,w7⟩;obtain⟨o,e,_⟩:=T.obj _ _ st3 b hb;exact(pin b hb o e).2.1
  cases b with
  | false=>
   rw[if_neg (by decide)]at q5;exact wpAny_pure ⟨rfl,back I5 q5⟩
  | true=>
   rw[if_pos rfl]at q5;have he':=he _ s5 σ4 H5 _ I5 q5;rw[hxe]at he';refine wpAny_bind (wpAny_bind (wpx (thn he' fun vu s6 zq=>?_)));obtain⟨v,H6,I6,r6,ys,hD,hz,q6⟩:=zq;have ha:=Zbs _ s6 σ4 H6 (.ref Dl) [v] (.ref Dl) [vu] (fun _ H7=>∃ m',m'<n/\W (i+1) m' σ4 H7) I6 rfl (.cons r6 .nil) ⟨Dl,ys,v,rfl,rfl,hD,hz,q6⟩;rw[hxe]at ha;exact wpAny_bind (wpx (thn ha fun _ s7 ⟨_,H7,I7,_,q7⟩=>wpAny_pure (wpAny_pure ⟨rfl,back I7 q7⟩)))
def Zjx(K:Frag)(wi:TI)(Pt:It->Hp->Addr->(L2.St->Hp->Prop)->Prop):TE:=fun σ H Q=>wi σ H fun J H1=>∀ Dl,H1 Dl=none->K.lookup Dl=none->Pt J (upd H1 Dl (.lst [])) Dl fun _ H'=>Q (.ref Dl) H'
def Zdh(X:Cx)(N:List Str)(scope:Scope)(σ:L2.St)(g:TG)(tt:TT)(te:TE):It->Hp->Addr->(L2.St->Hp->Prop)->Prop:=fun J H Dl Done=>
 ∃(σ':L2.St) (W:Nat->Nat->L2.St->Hp->Prop),σ'.length=N.length /\
  (∀(i:Nat) x v,N[i]?=some x->σ'[i]?=some (some v)->Vis (relabel scope X.env) x->((relabel scope X.env).names.lookup x≠some .local)/\∃ j:Nat,X.N[j]?=some x/\σ[j]?=some (some v)/\Vis X.env.scope x/\X.env.kindOf x≠some .local) /\
  (∃ m,W 0 m σ' H) /\
  ∀ i m σ H,W i m σ H->(J.stop i H/\Done σ H)\/(J.go i H/\∀ x H',J.yld i H x H'->g x σ H' fun σ2 H2=>tt σ2 H2 fun b H3=>if b=true then te σ2 H3 fun v H4=>∃ ys,H4 Dl=some (.lst ys)/\ys.length<sizeLine/\∃ m',m'<m/\W (i+1) m' σ2 (upd H4 Dl (.lst (ys++[v]))) else ∃ m',m'<m/\W (i+1) m' σ2 H3)
theorem ZdZ{tg elt iter:Expr}{ifs:List Expr}{scope:Scope}{pos:Pos}{N:List Str}{g:TG}{te:TE}{tt:TT}{wi:TI}{Q:VK}{RR:Value->Addr->Result->Shared->Prop}{E:Value->Shared->Prop}
  (S:CompScope X scope)(hc:X.calm=true){it:Addr}{fp:List Addr}{tn:Nat->Heap->Prop}{J:It}{H2:Hp}{s2:Shared}(I2:L2.Inv X pins σ H2 s2)(T:Zjj X.prog X.w X.K tg J fp it tn)(st2:tn 0 s2.heap)(f2:∀ b∈fp,Zcc X pins H2 b)
  (hg:∀ C s3 H3 fp,PG (YX X N scope C s3 H3 fp) tg g)(hi:∀ C s3 H3 fp,PTs (YX X N scope C s3 H3 fp) ifs tt)(he:∀ C s3 H3 fp,PE (YX X N scope C s3 H3 fp) elt te)
  (hb:∀ Dl,H2 Dl=none->X.K.lookup Dl=none->Zdh X N scope σ g tt te J (upd H2 Dl (.lst [])) Dl fun _ H'=>Q (.ref Dl) H')
  (hRR:∀ Dl C H' (s':Shared) m,(∀ h'',Heap.SameBut C s'.heap h''->L2.Inv X pins σ H' {s' with heap:=h''})->Zcc X pins H' C->s'.heap.Ns C m->Q (.ref Dl) H'->RR (.ref Dl) C (.ok .next) s'):
  wpAny (model X.prog X.w) X.A (newList []) (fun acc s₃=>wpAny (model X.prog X.w) X.A (newFunctionEnv scope X.env.globals (ZcS X.env.cells scope.names []) [] X.env.qual none .none (some X.env)) (fun cenv s₄=>
   codeAny (model X.prog X.w) X.A (.compStart (.ListComp elt [⟨tg,iter,ifs,0⟩] scope pos) 0 (.ref it) acc {cenv with scope:=relabel scope X.env}) (RR acc cenv.locals) s₄) E s₃) E s2:=by
 refine wpAny_newObj_type ?_;have hD:H2 s2.heap.objs.size=none:=I2.hok.fresh (A7 _);have I3:L2.Inv X pins σ (upd H2 s2.heap.objs.size (.lst [])) {s2 with heap:=s2.heap.push {cls:=.type "list",dict:=none,data:=.seq ([]:List Value).toArray}}:=
  I2.laid (t':=s2.toks) (fun b u e=>Heap.get?_push_of_some _ e) (A7 _) ⟨Be _,[],0,.nil,Heap.get?_push_size _ rfl⟩
 have lt:∀ b∈fp,b<s2.heap.objs.size:=fun b hb'=>by obtain⟨o,e,_⟩:=T.obj _ _ st2 b hb';exact Heap.lt_size e
 have f3:∀ b∈fp,Zcc X pins (upd H2 s2.heap.objs.size (.lst [])) b:=fun b hb'=>by
  obtain⟨h0,h1,h2,h3,h4,h5⟩:=f2 b hb';exact⟨by rw[ZJ (Am (lt b hb'))];exact h0,h1,h2,h3,h4,h5⟩
 have hKD:X.K.lookup s2.heap.objs.size=none:=by
  cases e:X.K.lookup s2.heap.objs.size with
  | none=>rfl
  | some o=>exact absurd (Heap.lt_size (I2.kIn _ o e)) (aq _)
 obtain⟨σ',W,hl,hσ,⟨m0,w0⟩,turn⟩:=hb _ hD hKD;generalize hs3:({s2 with heap:=s2.heap.push {cls:=.type "list",dict:=none,data:=.seq ([]:List Value).toArray}}:Shared)=s3 at I3;have h3:s3.heap=s2.heap.push {cls:=.type "list",dict:=none,data:=.seq ([]:List Value).toArray}:=by rw[<-hs3]
 have lt3:∀ b∈fp,b<s3.heap.objs.size:=fun b hb'=>by rw[h3,Heap.size_push];exact Nat.lt_succ_of_lt (lt b hb')
 refine wpAny_newFunctionEnv S.nocell (by intro y hy;simp at hy) (fun h4 hn4 hs4=>?_) S.kind;have kp:∀ b o,s3.heap.get? b=some o->h4.get? b=some o:=fun b o e=>hs4.extBut b o (Am (Heap.lt_size e)) (Heap.get?_push_of_some _ e);have I4:L2.Inv (YX X N scope s3.heap.objs.size s3 (upd H2 s2.heap.objs.size (.lst [])) fp) [] σ' (upd H2 s2.heap.objs.size (.lst [])) {s3 with heap:=h4,toks:=s3.toks+([]:List (Str×Value)).length}:=
  ZeL S I3 hc f3 lt3 kp hn4 hl hσ
 have st4:tn 0 h4:=T.keep _ _ _ st2 fun b hb' o e=>kp b o (by rw[h3];exact Heap.get?_push_of_some _ e);have loop:codeAny (model X.prog X.w) X.A (.compLoop (.ListComp elt [⟨tg,iter,ifs,0⟩] scope pos) 0 (.ref it) (.ref s2.heap.objs.size) (compEnvC scope (ZcS X.env.cells scope.names []) s3.heap.objs.size X.env)) (RR (.ref s2.heap.objs.size) s3.heap.objs.size)
   {s3 with heap:=h4,toks:=s3.toks+([]:List (Str×Value)).length}:=by
  refine Zg1 (Y:=YX X N scope s3.heap.objs.size s3 (upd H2 s2.heap.objs.size (.lst [])) fp) T rfl rfl rfl rfl (hg _ _ _ _) (hi _ _ _ _) (he _ _ _ _) W _ turn (fun σ5 H5 s5 I5 dn=>?_) I4 st4 (fun b hb'=>(f3 b hb').1) m0 w0;obtain⟨mC,hnC,_⟩:=I5.loc;have big:s3.heap.objs.size<=s3.heap.objs.size:=A7 _;refine hRR _ s3.heap.objs.size H5 s5 mC (ZiC I3 f3 I5) ?_ hnC dn;have q:=I3.fpOk (H':=H5) big I5.free;exact q
 exact codeAny_compStart_list loop (T.self _ 0 _ _ _ st4 loop)
theorem ZjY{tg elt iter:Expr}{ifs:List Expr}{scope:Scope}{pos:Pos}{N:List Str}{g:TG}{te:TE}{tt:TT}{wi:TI}(S:CompScope X scope)(hc:X.calm=true)(hit:PI X tg iter wi)
  (hg:∀ C s3 H3 fp,PG (YX X N scope C s3 H3 fp) tg g)(hi:∀ C s3 H3 fp,PTs (YX X N scope C s3 H3 fp) ifs tt)(he:∀ C s3 H3 fp,PE (YX X N scope C s3 H3 fp) elt te)
  (hs:∀ x,foldedSetIterable iter X.env x=pure x:=by intro _;rfl):
  PE X (.ListComp elt [⟨tg,iter,ifs,0⟩] scope pos) (fun σ H Q=>Zjx X.K wi (Zdh X N scope σ g tt te) σ H Q):=by
 intro pins s σ H Q I h;rw[eval_ListComp];refine wpAny_comprehension_free (use:=none) rfl hs (UO (S.cells I.ok)) S.kind S.loc (wpAny_mono (hit pins s σ H _ I h) (fun xv s₁ h₁=>wpAny_mono h₁ (fun itv s₂ h₂=>?_) fun _ _ z=>z) fun _ _ z=>z);obtain⟨it,fp,tn,J,H2,rfl,I2,T,st2,f2,hb⟩:=h₂;refine ZdZ (RR:=fun acc C=>compPost (model X.prog X.w) X.A X.xe none (EP X pins σ Q) acc C) (wi:=wi) S hc I2 T st2 f2 hg hi he hb ?_;intro Dl C H' s' m hI hC hn q;exact⟨m,hn,fun h'' hs''=>⟨.ref Dl,H',hI h'' hs'',rfl,q⟩⟩
end
def Zk3(K:Frag)(F:Fz)(H:Hp)(J:It)(xs:List D):Prop:=∀ F' H',Ext K F H F' H' ->
 (∀ i d,xs[i]?=some d->J.go i H'/\∀ x H'',J.yld i H' x H''->∃ F'',Grow F' H' F'' H''/\Rep K F'' H'' d x)/\∀ i,xs.length<=i->J.stop i H'
abbrev DI:=Rho->Option (List D)
inductive Zo6(K:Frag)(it:DI)(σ:L2.St)(H:Hp)(R:It->Hp->Prop):Prop
 | mk (ρ:Rho) (F0:Fz) (H0:Hp) (F:Fz) (xs:List D) (ok:EnvOk K F0 H0 F σ H ρ) (e:it ρ=some xs) (q:∀ J F1 H1,Grow F H F1 H1->Zk3 K F1 H1 J xs->R J H1)
def rdI(K:Frag)(it:DI):TI:=fun σ H R=>Zo6 K it σ H R
def ID(X:Cx)(tg e:Expr)(it:DI):Prop:=PI X tg e (rdI X.K it)
theorem PI.imp{X:Cx}{tg e:Expr}{t t':TI}(h:PI X tg e t)(i:∀ σ H R,t' σ H R->t σ H R):PI X tg e t':=fun pins s σ H R I q=>h pins s σ H R I (i σ H R q)
section
variable{X:Cx}{pos:Pos}{tg l:Expr}{f:DE}
theorem Zgj{K:Frag}{F:Fz}{H:Hp}{a:Addr}{xs:List D}{vs:List V}(hf:F a)(hq:SqL K H a vs)(hr:RepL K F H xs vs):Zk3 K F H (Itl K a) xs:=fun F' H' e=>by
 have hq':=e.ls a vs hf hq;refine⟨fun i d hd=>?_,fun i hi=>⟨vs,hq',by rw[<-hr.length];exact hi⟩⟩;obtain⟨v,hv,rv⟩:=hr.get hd;refine⟨⟨vs,v,hq',hv⟩,fun x H'' y=>?_⟩;obtain⟨rfl,y⟩:=y;have:=y vs hq';rw[hv]at this;cases this;exact⟨F',.refl,Rep.ext e rv⟩
theorem Zia{K:Frag}{F:Fz}{H:Hp}{a:Addr}{xs:List D}{vs:List V}(hq:SqT K H a vs)(hr:RepL K F H xs vs):Zk3 K F H (Itt K a) xs:=fun F' H' e=>by
 have hq':=e.ts a vs hq;refine⟨fun i d hd=>?_,fun i hi=>⟨vs,hq',by rw[<-hr.length];exact hi⟩⟩;obtain⟨v,hv,rv⟩:=hr.get hd;refine⟨⟨vs,v,hq',hv⟩,fun x H'' y=>?_⟩;obtain⟨rfl,y⟩:=y;have:=y vs hq';rw[hv]at this;cases this;exact⟨F',.refl,Rep.ext e rv⟩
theorem ZdI{K:Frag}{F:Fz}{H:Hp}{lo:Int}{n:Nat}:Zk3 K F H (Itr lo n) (QB lo n):=fun F' H' e=>by
 refine⟨fun i d hd=>?_,fun i hi=>(show n<=i from by simpa[QB]using hi)⟩;have hl:i<n:=by have:=(Ap.mp hd).1;simpa[QB]using this
 refine⟨hl,fun x H'' y=>?_⟩;obtain⟨rfl,rfl⟩:=y;refine⟨F',.refl,?_⟩;have:d=.int (lo+(i:Int)):=by
  unfold QB at hd;rw[au,List.getElem?_range hl]at hd;simpa using hd.symm
 subst this;exact Z3 _
noncomputable def YI(n:Nat):List D->List D
 | []=>[]
 | d::ds=>.tup [.int n,d]::YI (n+1) ds
theorem Wf:∀(ds:List D) (n i:Nat),(YI n ds)[i]?=(ds[i]?).map fun d=>.tup [.int ((n+i:Nat):Int),d]
 | [],n,i=>by simp[YI]
 | d::ds,n,0=>by simp[YI]
 | d::ds,n,i+1=>by
  simp only[YI,Bf];rw[Wf ds (n+1) i,show n+1+i=n+(i+1) by omega]
theorem UL:∀(ds:List D) (n:Nat),(YI n ds).length=ds.length
 | [],n=>rfl
 | d::ds,n=>by simp[YI,UL ds]
theorem Zex{K:Frag}{F:Fz}{H:Hp}{a:Addr}{xs:List D}{vs:List V}(hf:F a)(hq:SqL K H a vs)(hr:RepL K F H xs vs):Zk3 K F H (Ite K a false) (YI 0 xs):=fun F' H' e=>by
 have hq':=e.ls a vs hf hq;refine⟨fun i d hd=>?_,fun i hi=>⟨vs,hq',by rw[<-hr.length];rw[UL]at hi;exact hi⟩⟩;rw[Wf,Nat.zero_add]at hd;obtain⟨d',hd',rfl⟩:=map_some hd;obtain⟨v,hv,rv⟩:=hr.get hd';refine⟨⟨vs,v,hq',hv⟩,fun x H'' y=>?_⟩;obtain⟨p,z,y,hp,rfl,rfl⟩:=y;have:=y vs hq';rw[hv]at this;cases this;refine⟨F',.laid0 hp,?_⟩;unfold Rep;exact⟨p,_,rfl,.of ZP,.cons (Z3 _) (.cons ((Rep.ext e rv).grow (.laid0 hp)) .nil)⟩
theorem Zew{K:Frag}{F:Fz}{H:Hp}{a:Addr}{xs:List D}{vs:List V}(hq:SqT K H a vs)(hr:RepL K F H xs vs):Zk3 K F H (Ite K a true) (YI 0 xs):=fun F' H' e=>by
 have hq':=e.ts a vs hq;refine⟨fun i d hd=>?_,fun i hi=>⟨vs,hq',by rw[<-hr.length];rw[UL]at hi;exact hi⟩⟩;rw[Wf,Nat.zero_add]at hd;obtain⟨d',hd',rfl⟩:=map_some hd;obtain⟨v,hv,rv⟩:=hr.get hd';refine⟨⟨vs,v,hq',hv⟩,fun x H'' y=>?_⟩;obtain⟨p,z,y,hp,rfl,rfl⟩:=y;have:=y vs hq';rw[hv]at this;cases this;refine⟨F',.laid0 hp,?_⟩;unfold Rep;exact⟨p,_,rfl,.of ZP,.cons (Z3 _) (.cons ((Rep.ext e rv).grow (.laid0 hp)) .nil)⟩
theorem UG(hl:ED X l f):ID X tg l (YO f):=PI.imp (ZlC hl) fun σ H R zq=>by
 obtain⟨ρ,F0,H0,F,xs,ok,ex,q⟩:=zq;obtain⟨d,ed,ex⟩:=bind_some ex;refine⟨ρ,F0,H0,F,d,ok,ed,fun v F1 H1 g1 r1=>?_⟩;split at ex
 ·cases ex;unfold Rep at r1;obtain⟨a,vs,rfl,hf,hq,hr⟩:=r1;exact⟨a,rfl,.inl ⟨⟨vs,hq⟩,q _ F1 H1 g1 (Zgj hf hq hr)⟩⟩
 ·cases ex;unfold Rep at r1;obtain⟨a,vs,rfl,hq,hr⟩:=r1;exact⟨a,rfl,.inr ⟨⟨vs,hq⟩,q _ F1 H1 g1 (Zia hq hr)⟩⟩
 ·cases ex
theorem U0{a:Expr}{p pos2:Pos}(hgl:Gl X "range")(hm:X.mg "range"=none)(ha:ED X a f)(hst:starEach [a] X.env=[(false,eval a X.env)]:=by rfl):ID X tg (.Call (.Name "range" p) [a] [] pos2) (Ww f):=
 PI.imp (ZfN hgl hm (Zc ha Zh hst) hst) fun σ H R zq=>by
  obtain⟨ρ,F0,H0,F,xs,ok,ex,q⟩:=zq;obtain⟨d,ed,ex⟩:=bind_some ex;split at ex
  ·rename_i j
   obtain⟨hj,rfl⟩:=Ye ex;refine⟨ρ,F0,H0,F,[.int j],ok,by simp[Zb,Zm,ed],fun vs F1 H1 g1 r1=>?_⟩;obtain⟨v,rfl,rv⟩:=Ug r1;unfold Rep at rv;subst rv;have:=Zap hj;exact⟨j,rfl,this.1,this.2,q _ F1 H1 g1 ZdI⟩
  ·cases ex
theorem Zkn {a a' : Expr} {f' : DE} {p pos2 : Pos} (hgl : Gl X "range") (hm : X.mg "range" = none) (ha : ED X a f) (ha' : ED X a' f') (hst : starEach [a, a'] X.env = [(false, eval a X.env), (false, eval a' X.env)] := by rfl) (hst2 : starEach [a'] X.env = [(false, eval a' X.env)] := by rfl) :
    ID X tg (.Call (.Name "range" p) [a, a'] [] pos2) (Zgl f f') :=
  PI.imp (ZfM hgl hm (Zc ha (Zc ha' Zh hst2) (by rw [hst, hst2])) hst hst2) fun σ H R zq => by
    obtain ⟨ρ, F0, H0, F, xs, ok, ex, q⟩ := zq
    obtain ⟨d, ed, ex⟩ := bind_some ex
    obtain ⟨d', ed', ex⟩ := bind_some ex
    cases d with
    | int i =>
     cases d' with
     | int j =>
      have ex : (if (Vl i && Vl j) = true then some (QB i (j - i).toNat) else none) = some xs := ex
      obtain ⟨hj, rfl⟩ := Ye ex
      obtain ⟨hi, hj⟩ := Ad.mp hj
      refine ⟨ρ, F0, H0, F, [.int i, .int j], ok, by simp [Zb, Zm, ed, ed'], fun vs F1 H1 g1 r1 => ?_⟩
      obtain ⟨v, v', rfl, rv, rv'⟩ := ZhO r1
      unfold Rep at rv rv'
      subst rv rv'
      have h1 := Zap hi; have h2 := Zap hj
      exact ⟨i, j, rfl, ⟨h1.1, h1.2, h2.1, h2.2⟩, q _ F1 H1 g1 ZdI⟩
     | _ => cases ex
    | _ => cases ex
def ZnH(K:Frag)(ta:TA):TI:=fun σ H R=>ta σ H fun vs H1=>∃ a,vs=[.ref a]/\(((∃ xs,SqL K H1 a xs)/\R (Ite K a false) H1)\/((∃ xs,SqT K H1 a xs)/\R (Ite K a true) H1))
theorem ZjU{elts:List Expr}{k:Nat}{tpos p:Pos}{ta:TA}(hg:Gl X "enumerate")(hm:X.mg "enumerate"=none)(ha:PA X [l] ta)(hs:starEach [l] X.env=[(false,eval l X.env)]:=by rfl):
  PI X (.Tuple elts k tpos) (.Call (.Name "enumerate" p) [l] [] pos) (ZnH X.K ta):=by
 intro pins s σ H R I h;refine Call_ (Jg I hg hm boot_enumerate (Bl (thn (ha pos pins s σ H _ I h) fun us s1 zq=>?_) hs rfl));obtain⟨vs,H1,I1,r1,q1⟩:=zq;obtain⟨a,e,q1⟩:=q1;subst e;cases r1 with
 | cons r rr=>
  cases rr;cases r;have fpk:∀ b∈[s1.heap.objs.size+1,s1.heap.objs.size],Zcc X pins H1 b:=fun b hb=>by
   have:s1.heap.objs.size<=b:=by
    rcases A4.mp hb with z | z
    ·omega
    ·rw[A0]at z;omega
   exact I1.fpOk this (I1.hok.fresh this)
  rcases q1 with⟨⟨xs,hq⟩,q⟩ | ⟨⟨xs,hq⟩,q⟩
  ·obtain⟨its,rv,p,hz⟩:=I1.list hq;refine call_enumerate_list p.isList fun h' he hit hsz kp=>wpAny_pyIter_enum (s:={s1 with heap:=h'}) he ?_;exact⟨_,[s1.heap.objs.size+1,s1.heap.objs.size],_,_,H1,rfl,I1.kept (t':=s1.toks) kp,Zeb a _ _ (Nat.succ_ne_self _),⟨⟨_,he⟩,hit⟩,fpk,q⟩
  ·obtain⟨its,rv,p,hz⟩:=I1.tuple hq;refine ZeF (show s1.heap.IsTuple a its.toArray from p) fun h' he hit hsz kp=>wpAny_pyIter_enum (s:={s1 with heap:=h'}) he ?_;exact⟨_,[s1.heap.objs.size+1,s1.heap.objs.size],_,_,H1,rfl,I1.kept (t':=s1.toks) kp,Zea a _ _ (Nat.succ_ne_self _),⟨⟨_,he⟩,hit⟩,fpk,q⟩
def QG(f:DE):DI:=fun ρ=>(YO f ρ).map (YI 0)
theorem ZaK{elts:List Expr}{k:Nat}{tpos p:Pos}(hg:Gl X "enumerate")(hm:X.mg "enumerate"=none)(ha:ED X l f)(hs:starEach [l] X.env=[(false,eval l X.env)]:=by rfl):
  ID X (.Tuple elts k tpos) (.Call (.Name "enumerate" p) [l] [] pos) (QG f):=PI.imp (ZjU hg hm (Zc ha Zh hs) hs) fun σ H R zq=>by
 obtain⟨ρ,F0,H0,F,xs,ok,ex,q⟩:=zq;obtain⟨ys,ey,rfl⟩:=map_some ex;clear ex;obtain⟨d,ed,ex⟩:=bind_some ey;refine⟨ρ,F0,H0,F,[d],ok,by simp[Zb,Zm,ed],fun vs F1 H1 g1 r1=>?_⟩;obtain⟨v,rfl,rv⟩:=Ug r1;split at ex
 ·cases ex;unfold Rep at rv;obtain⟨a,vs,rfl,hf,hq,hr⟩:=rv;exact⟨a,rfl,.inl ⟨⟨vs,hq⟩,q _ F1 H1 g1 (Zex hf hq hr)⟩⟩
 ·cases ex;unfold Rep at rv;obtain⟨a,vs,rfl,hq,hr⟩:=rv;exact⟨a,rfl,.inr ⟨⟨vs,hq⟩,q _ F1 H1 g1 (Zew hq hr)⟩⟩
 ·cases ex
theorem UW{body:List Stmt}{b:DG}{g:DS}{it:DI}{e:Expr}(hp:PassesOwn (model X.prog X.w) X.A X.env X.xe)(hc:X.calm=true)(hi:ID X tg e it)(hg:GD X tg b)(hb:SDs X body g)
  (hs:∀ x,foldedSetIterable e X.env x=pure x:=by intro _;rfl):SD X (.For tg e body [] pos) (W8 it b g):=
 PS.imp (ZlA hp hc hi hg hb hs) fun E σ H zq=>by
  obtain⟨ρ,F0,H0,F,o,ok,e,k⟩:=zq;obtain⟨xs,ex,e⟩:=bind_some e;refine⟨ρ,F0,H0,F,xs,ok,ex,fun J F1 H1 g1 hJ=>?_⟩;have k1:=k.ext g1.ext;refine⟨fun i m σ' H'=>m=xs.length-i/\i<=xs.length/\FW X.K F0 H0 F1 H1 b g xs o i σ' H',⟨xs.length,by simp,Be _,ρ,F1,ok.grow g1,.refl,e⟩,?_⟩;rintro i m σ1 H2 ⟨rfl,hi,ρ1,F2,ok2,x2,e2⟩;obtain⟨hgo,hst⟩:=hJ F2 H2 x2;by_cases hlt:i<xs.length
  ·obtain⟨go,yl⟩:=hgo i xs[i] (by simp[hlt]);refine .inr ⟨go,FW X.K F0 H0 F1 H1 b g xs o (i+1),fun σ' H' w=>⟨xs.length-(i+1),by omega,rfl,hlt,w⟩,fun x H3 y=>?_⟩;obtain⟨F3,g3,rx⟩:=yl x H3 y;rw[Aq hlt]at e2;unfold U1 at e2;obtain⟨ρ2,eb,e2⟩:=bind_some e2;refine⟨ρ1,F0,H0,F3,xs[i],ρ2,ok2.grow g3,rx,eb,fun σ4 F4 H4 g4 ok4=>?_⟩;cases eg:g ρ2 with
   | none=>rw[eg]at e2;cases e2
   | some o1=>
    rw[eg]at e2;have x4:=(x2.trans (g3.ext (K:=X.K))).trans (g4.ext (K:=X.K));refine⟨ρ2,F0,H0,F4,o1,ok4,eg,?_⟩;cases o1 with
    | nx ρ3=>exact fun σ5 F5 H5 x5 ok5=>⟨ρ3,F5,ok5,x4.trans x5,e2⟩
    | ct ρ3=>exact fun σ5 F5 H5 x5 ok5=>⟨ρ3,F5,ok5,x4.trans x5,e2⟩
    | bk ρ3=>cases e2;exact fun σ5 F5 H5 x5 ok5=>k1 σ5 F5 H5 (x4.trans x5) ok5
    | rt d=>cases e2;exact k1
  ·have ei:i=xs.length:=by omega
   subst ei;refine .inl ⟨hst _ (A7 _),?_⟩;rw[ah (A7 _)]at e2;cases e2;exact k1 σ1 F2 H2 x2 ok2
end
noncomputable def ZW(b:DG)(t:DT)(f:DE):List D->Rho->Option (List D)
 | [],_=>some []
 | x::xs,ρ=>(b x ρ).bind fun ρ1=>(t ρ1).bind fun c=>match c with
  | true=>(f ρ1).bind fun d=>(ZW b t f xs ρ1).map (d::·)
  | false=>ZW b t f xs ρ1
def Qj(caps:List (Option Nat))(ρ:Rho):Rho:=caps.map fun c=>match c.bind (ρ[·]?) with | some (.val d)=>.val d | _=>.no
def ZcT(caps:List (Option Nat))(σ:L2.St):L2.St:=caps.map fun c=>c.bind fun j=>(σ[j]?).join
structure Zm6(X:Cx)(N:List Str)(scope:Scope)(caps:List (Option Nat)):Prop where
 len:caps.length=N.length
 ok:∀(i j:Nat) (x:Str),caps[i]?=some (some j)->N[i]?=some x->X.N[j]?=some x/\Vis X.env.scope x/\X.env.kindOf x≠some .local/\(relabel scope X.env).names.lookup x≠some .local
noncomputable def Ys(caps:List (Option Nat))(it:DI)(b:DG)(t:DT)(f:DE):DE:=fun ρ=>(it ρ).bind fun xs=>if xs.length<=lim then(ZW b t f xs (Qj caps ρ)).map .lst else none
def NoOwn(ρ:Rho):Prop:=∀(i:Nat) ds,ρ[i]?≠some (.own ds)
theorem NoOwn.set{ρ:Rho}(h:NoOwn ρ)(i:Nat)(d:D):NoOwn (ρ.set i (.val d)):=fun j ds e=>by
 by_cases hj:i=j
 ·subst hj;by_cases hl:i < ρ.length
  ·rw[Ak hl]at e;cases e
  ·rw[Bc (by rw[ao];omega)]at e;cases e
 ·rw[An hj]at e;exact h j ds e
def Zb3(b:DG):Prop:=∀ d ρ ρ',b d ρ=some ρ'->NoOwn ρ->NoOwn ρ'
theorem Z5(i:Nat):Zb3 (ZC i):=fun d ρ ρ' e h=>by cases e;exact h.set i d
theorem UY(i j:Nat):Zb3 (Y7 i j):=fun d ρ ρ' e h=>by
 unfold Y7 at e;split at e
 ·cases e;exact(h.set _ _).set _ _
 ·cases e
theorem ZaV(caps:List (Option Nat))(ρ:Rho):NoOwn (Qj caps ρ):=fun i ds e=>by
 unfold Qj at e;rw[au]at e;obtain⟨c,_,e⟩:=map_some e;split at e<;>cases e
theorem EnvOk.wrtD{K:Frag}{F0 F:Fz}{H0 H:Hp}{σ:L2.St}{ρ:Rho}{xs ys:List V}{a:Addr}(ok:EnvOk K F0 H0 F σ H ρ)(no:NoOwn ρ)(ha:H a=some (.lst xs))(hF:¬ F a)(h0:H0 a=none):EnvOk K F0 H0 F σ (upd H a (.lst ys)) ρ:=by
 have x:=We (K:=K) (ys:=ys) ha hF;refine⟨⟨fun b o q=>?_,ok.base.sub,fun b z=>?_⟩,fun j d' h=>?_,fun j es h=>absurd h (no j es),fun j k es fs b q1=>absurd q1 (no j es),ok.len,fun b z=>?_⟩
 ·rw[ZJ (ZG q h0)];exact ok.base.same b o q
 ·rcases ok.base.new b z with z1 | ⟨z1,z2⟩
  ·exact .inl z1
  ·refine .inr ⟨z1,?_⟩;by_cases e:b=a
   ·rw[e,ZP];simp
   ·rw[ZJ e];exact z2
 ·obtain⟨v,e1,e2⟩:=ok.val j d' h;exact⟨v,e1,Rep.ext x e2⟩
 ·rcases ok.fz b z with z1 | z1
  ·left;by_cases e:b=a
   ·rw[e,ZP];simp
   ·rw[ZJ e];exact z1
  ·exact .inr z1
theorem EnvOk.capt{X:Cx}{N:List Str}{scope:Scope}{caps:List (Option Nat)}{F0 F:Fz}{H0 H:Hp}{σ:L2.St}{ρ:Rho}(ok:EnvOk X.K F0 H0 F σ H ρ):EnvOk X.K F H F (ZcT caps σ) H (Qj caps ρ) where
 base:=.refl
 val:=fun i d h=>by
  unfold Qj at h;rw[au]at h;obtain⟨c,ec,h⟩:=map_some h;split at h
  ·rename_i d' e
   cases h;obtain⟨j,rfl,ej⟩:=bind_some e;obtain⟨v,e1,e2⟩:=ok.val j _ ej;refine⟨v,?_,e2⟩;unfold ZcT;rw[au,ec];simp[e1]
  ·cases h
 own:=fun i ds h=>absurd h (ZaV caps ρ i ds)
 inj:=fun i j ds es a h=>absurd h (ZaV caps ρ i ds)
 len:=by simp[Qj,ZcT]
 fz:=ok.fz
def TDs(X:Cx)(ifs:List Expr)(t:DT):Prop:=PTs X ifs (rdT X.K t)
noncomputable def ZH:DT:=fun _=>some true
theorem Q2{X:Cx}:TDs X [] ZH:=fun pins s σ H Q I zq=>by
 obtain⟨ρ,F0,H0,F,d,ok,e,q⟩:=zq;cases e;exact ZjO pins s σ H Q I (q F H .refl)
theorem VF{X:Cx}{c:Expr}{t:DT}(h:TD X c t):TDs X [c] t:=ZjN h
section
variable{X:Cx}{pos:Pos}{tg elt iter:Expr}{ifs:List Expr}
theorem ZfB{scope:Scope}{N:List Str}{caps:List (Option Nat)}{b:DG}{t:DT}{f:DE}{it:DI}(C:Zm6 X N scope caps)(hno:Zb3 b){σ:L2.St}{H:Hp}{Q:VK}(h:rd X.K (Ys caps it b t f) σ H Q):
  Zjx X.K (rdI X.K it) (Zdh X N scope σ (rdG X.K b) (rdT X.K t) (rd X.K f)) σ H Q:=by
  obtain⟨ρ,F0,H0,F,d,ok,e,q⟩:=h;obtain⟨xs,ex,e⟩:=bind_some e;by_cases hz:xs.length<=lim
  ·rw[if_pos hz]at e;obtain⟨ds,ec,rfl⟩:=map_some e;refine⟨ρ,F0,H0,F,xs,ok,ex,fun J F1 H1 g1 hJ Dl hD hK=>?_⟩;have ok1:=ok.grow g1;have nF1:¬ F1 Dl:=fun z=>by
    rcases ok1.fz Dl z with z | ⟨o,z⟩
    ·exact z hD
    ·rw[hK]at z;cases z
   have oks:EnvOk X.K F1 H1 F1 (ZcT caps σ) (upd H1 Dl (.lst [])) (Qj caps ρ):=(EnvOk.capt (N:=N) (scope:=scope) ok1).grow (.laid0 hD);have gx:Ext X.K F1 H1 F1 (upd H1 Dl (.lst [])):=(Grow.laid0 hD).ext;refine⟨ZcT caps σ,fun i m σ2 H2=>m=xs.length-i/\i<=xs.length/\∃ ρ2 F2 ys pre post,EnvOk X.K F1 H1 F2 σ2 H2 ρ2/\NoOwn ρ2/\Ext X.K F1 H1 F2 H2/\H2 Dl=some (.lst ys)/\¬ F2 Dl/\RepL X.K F2 H2 pre ys/\pre.length<=i/\ZW b t f (xs.drop i) ρ2=some post/\ds=pre++post,
    by simp[ZcT,C.len],fun i x v e1 e2 e3=>?_,⟨xs.length,by simp,Be _,Qj caps ρ,F1,[],[],ds,oks,ZaV _ _,gx,ZP,nF1,.nil,A7 _,ec,rfl⟩,?_⟩
   ·unfold ZcT at e2;rw[au]at e2;obtain⟨c,ecap,e2⟩:=map_some e2;obtain⟨j,rfl,e2⟩:=bind_some e2;obtain⟨h1,h2,h3,h4⟩:=C.ok i j x ecap e1;exact⟨h4,j,h1,by simpa[Option.join_eq_some_iff]using e2,h2,h3⟩
   ·rintro i m σ2 H2 ⟨rfl,hi',ρ2,F2,ys,pre,post,ok2,no2,x2,hD2,nF2,rp2,hl2,e2,ed⟩;obtain⟨hgo,hst⟩:=hJ F2 H2 x2;by_cases hlt:i<xs.length
    ·obtain⟨go,yl⟩:=hgo i xs[i] (by simp[hlt]);refine .inr ⟨go,fun x H3 y=>?_⟩;obtain⟨F3,g3,rx⟩:=yl x H3 y;rw[Aq hlt]at e2;unfold ZW at e2;obtain⟨ρ3,eb,e2⟩:=bind_some e2;obtain⟨c,et,e2⟩:=bind_some e2;have no3:=hno _ _ _ eb no2;refine⟨ρ2,F1,H1,F3,xs[i],ρ3,ok2.grow g3,rx,eb,fun σ4 F4 H4 g4 ok4=>⟨ρ3,F1,H1,F4,c,ok4,et,fun F5 H5 g5=>?_⟩⟩;have g35:=g3.trans (g4.trans g5);have nF5:∀{F6:Fz} {H6:Hp},Grow F2 H2 F6 H6->¬ F6 Dl:=fun {F6 H6} g6 z=>by
      rcases g6.new Dl z with z | z
      ·exact nF2 z
      ·rw[hD2]at z;cases z.1
     cases c with
     | false=>
      refine Zoc ?_;exact⟨xs.length-(i+1),by omega,rfl,hlt,ρ3,F5,ys,pre,post,ok4.grow g5,no3,x2.trans g35.ext,g35.same _ _ hD2,nF5 g35,rp2.grow g35,by omega,e2,ed⟩
     | true=>
      refine Zob ?_;obtain⟨d,ef,e2⟩:=bind_some e2;obtain⟨post',e3,rfl⟩:=map_some e2;refine⟨ρ3,F1,H1,F5,d,ok4.grow g5,ef,fun v F6 H6 g6 r6=>?_⟩;have g36:=g35.trans g6;have hD6:=g36.same _ _ hD2;have xo:=We (K:=X.K) (ys:=ys++[v]) hD6 (nF5 g36);refine⟨ys,hD6,?_,xs.length-(i+1),by omega,rfl,hlt,ρ3,F6,ys++[v],pre++[d],post',((ok4.grow g5).grow g6).wrtD no3 hD6 (nF5 g36) hD,no3,(x2.trans g36.ext).trans xo,ZP,nF5 g36,RepL.ext xo ((rp2.grow g36).append (.cons r6 .nil)),by simp;omega,e3,by simp[ed]⟩;rw[<-rp2.length];have:sizeLine=16777216:=sizeLine_eq;unfold lim at hz;omega
    ·have ei:i=xs.length:=by omega
     subst ei;refine .inl ⟨hst _ (A7 _),?_⟩;rw[ah (A7 _)]at e2;cases e2;rw[List.append_nil]at ed;subst ed;have b:=ok2.base;refine q (.ref Dl) (fun a=>F2 a\/a=Dl) H2 (g1.trans ⟨b.same,fun a z=>.inl (b.sub a z),fun a z=>?_⟩) ?_
     ·rcases z with z | rfl
      ·exact b.new a z
      ·exact .inr ⟨hD,by rw[hD2];simp⟩
     ·unfold Rep;have xx:Ext X.K F2 H2 (fun a=>F2 a\/a=Dl) H2:=⟨fun a z=>.inl z,fun a ys _ z=>z,fun a ys z=>z⟩;exact⟨Dl,ys,rfl,.inr rfl,.of hD2,RepL.ext xx rp2⟩
  ·rw[if_neg hz]at e;cases e
theorem Qx{scope:Scope}{N:List Str}{caps:List (Option Nat)}{b:DG}{t:DT}{f:DE}{it:DI}(S:CompScope X scope)(C:Zm6 X N scope caps)(hc:X.calm=true)(hit:ID X tg iter it)(hno:Zb3 b)
  (hg:∀ C s3 H3 fp,GD (YX X N scope C s3 H3 fp) tg b)(hi:∀ C s3 H3 fp,TDs (YX X N scope C s3 H3 fp) ifs t)(he:∀ C s3 H3 fp,ED (YX X N scope C s3 H3 fp) elt f)
  (hs:∀ x,foldedSetIterable iter X.env x=pure x:=by intro _;rfl):
  ED X (.ListComp elt [⟨tg,iter,ifs,0⟩] scope pos) (Ys caps it b t f):=
 PE.imp (ZjY (N:=N) (g:=rdG X.K b) (tt:=rdT X.K t) (te:=rd X.K f) S hc hit hg hi he hs) fun σ H Q h=>ZfB C hno h
end
section
variable{prog:Program}{w:World}{A:Around}{E:Value->Shared->Prop}{s:Shared}
theorem Zfa{t sl:Addr}{items:Array Value}{vl vu:Value}{lo hi:Option Int}{Q:Value->Shared->Prop}(ht:IsTup s.heap t items)(hs:s.heap.IsSliceOf sl vl vu .none)(pl:IsPart vl lo)(pu:IsPart vu hi)
  (hw:HT.sIx items.size 0 lo=0/\HT.sIx items.size items.size hi=items.size)(h:Q (.ref t) s):wpAny (model prog w) A (getItem (.ref t) (.ref sl)) Q E s:=by
 obtain⟨os,hos,hcs,hds⟩:=id hs;have hTs:s.TypeIs (.ref sl) "slice":=⟨os,hos,hcs⟩;unfold getItem
 try with_reducible refine wpAny_holding ?_
 first | refine wpAny_bind (wpAny_pure ?_) | skip
 refine wpAny_bind (wpAny_sequenceKey ht.typeIs (by decide) ?_);refine wpAny_bind (wpAny_callSpecial?_slot (name:=Str.ofString "__getitem__") ht.typeIs Ay
  (wpAny_call_entry Ay ht.typeIs entry_tuple_getitem ?_ (args_tuple_getitem _ _)))
 show wpAny _ _ (Builtin.Tuple.tupleItemsOf (.ref t) >>= _) _ _ s;refine wpAny_bind (tupleItemsOf_ ht ?_);refine wpAny_bind (wpAny_typeOf hTs ?_);rw[if_pos (by decide)];refine wpAny_bind (HT.sliceApplied_gen hs pl pu ?_);rw[hw.1,hw.2,Nat.sub_zero];have hyes:((((0:Nat):Int)==0&&(1:Int)==1&&items.size==items.size)=true):=by simp
 show wpAny _ _ (if((((0:Nat):Int)==0&&(1:Int)==1&&items.size==items.size)=true) then _ else _) _ _ s;rw[if_pos hyes];unfold Builtin.Tuple.tupleIsExact;refine wpAny_bind (wpAny_bind (wpAny_typeOf ht.typeIs (wpAny_pure ?_)));rw[if_pos (by decide)];refine wpAny_bind (wpAny_rule (wpAny_bind (wpAny_pure (wpAny_pure ?_))));exact⟨_,rfl,wpAny_pure h⟩
theorem ZaO{α β:Type}{f g:α->Option β}:∀{l:List α},(∀ m,m∈l->f m=g m)->l.filterMap f=l.filterMap g
 | [],_=>rfl
 | x::l,h=>by
  rw[b5,b5,h x A6,ZaO fun m hm=>h m (A3 _ hm)]
theorem Zdp{α:Type}(xs:List α):((List.range xs.length).filterMap fun(m:Nat)=>xs[(((xs.length:Nat):Int)-1+(m:Int)*(-1)).toNat]?)=xs.reverse:=by
 have e:∀ m,m∈List.range xs.length->xs[(((xs.length:Nat):Int)-1+(m:Int)*(-1)).toNat]?=xs.reverse[m]?:=fun m hm=>by
  have hm:=Ae.mp hm;rw[List.getElem?_reverse hm]
  congr 1
  omega
 rw[ZaO e];have hl:xs.length=xs.reverse.length:=by simp
 rw[hl];generalize xs.reverse=ys;clear e hl
 induction ys with
 | nil=>rfl
 | cons y ys ih=>
  rw[B_,bg,b5];simp only[be,List.filterMap_map]
  congr 1
theorem Zjs{t sl:Addr}{items:Array Value}{u:Tok}{Q:Value->Shared->Prop}(ht:IsTup s.heap t items)(hs:s.heap.IsSliceOf sl .none .none (.int (-1) u))(hsz:items.size<=sizeLine)
  (h:Q (.ref s.heap.objs.size) {s with heap:=s.heap.push {cls:=.type "tuple",data:=.seq items.toList.reverse.toArray}}):wpAny (model prog w) A (getItem (.ref t) (.ref sl)) Q E s:=by
 obtain⟨os,hos,hcs,hds⟩:=id hs;have hTs:s.TypeIs (.ref sl) "slice":=⟨os,hos,hcs⟩;unfold getItem
 try with_reducible refine wpAny_holding ?_
 first | refine wpAny_bind (wpAny_pure ?_) | skip
 refine wpAny_bind (wpAny_sequenceKey ht.typeIs (by decide) ?_);refine wpAny_bind (wpAny_callSpecial?_slot (name:=Str.ofString "__getitem__") ht.typeIs Ay
  (wpAny_call_entry Ay ht.typeIs entry_tuple_getitem ?_ (args_tuple_getitem _ _)))
 show wpAny _ _ (Builtin.Tuple.tupleItemsOf (.ref t) >>= _) _ _ s;refine wpAny_bind (tupleItemsOf_ ht ?_);refine wpAny_bind (wpAny_typeOf hTs ?_);rw[if_pos (by decide)];refine wpAny_bind (?_:wpAny _ _ _ _ _ s);unfold Builtin.Slice.sliceApplied Builtin.Slice.sliceFields;refine wpAny_bind (wpAny_bind (wpAny_field hos hds (x:=.none) rfl (wpAny_bind (wpAny_field hos hds (x:=.none) rfl (wpAny_bind (wpAny_field hos hds (x:=.int (-1) u) rfl (wpAny_pure ?_)))))));refine wpAny_bind (slicePart_int ?_);show wpAny _ _ (if(((-1:Int))==0)=true then _ else _) _ _ s;rw[if_neg (by decide)];refine wpAny_bind (slicePart_none (wpAny_bind (slicePart_none (wpAny_bind (wpAny_pure ?_)))));have ad:Builtin.Slice.sliceAdjust none none (-1) (items.size:Int)=((items.size:Int)-1,-1):=rfl;have pl:Builtin.Slice.slicePlaces ((items.size:Int)-1) (-1) (-1)=items.size:=by
  unfold Builtin.Slice.slicePlaces;rw[if_neg (by decide)];by_cases hz:(items.size:Int)-1 > -1
  ·rw[if_pos hz];have:(-(-1:Int))=1:=by decide
   rw[this,Int.ediv_one];omega
  ·rw[if_neg hz];omega
 show wpAny _ _ (match Builtin.Slice.sliceAdjust none none (-1) (items.size:Int) with | (lo,hi)=>pure (lo,(-1:Int),Builtin.Slice.slicePlaces lo hi (-1))) _ _ s;rw[ad];show wpAny _ _ (pure ((items.size:Int)-1,(-1:Int),Builtin.Slice.slicePlaces ((items.size:Int)-1) (-1) (-1))) _ _ s;rw[pl];refine wpAny_pure ?_;have hno:¬ ((((items.size:Int)-1==0)&&((-1:Int)==1)&&(items.size==items.size))=true):=by
  rw[show((-1:Int)==1)=false from rfl];simp
 show wpAny _ _ (if(((items.size:Int)-1==0)&&((-1:Int)==1)&&(items.size==items.size))=true then _ else _) _ _ s;rw[if_neg hno];have ep:((List.range items.size).filterMap fun(k:Nat)=>items[((items.size:Int)-1+(k:Int)*(-1)).toNat]?).toArray=items.toList.reverse.toArray:=by
  have:=Zdp items.toList;rw[Ba]at this;rw[<-this];simp
 rw[ep];have htake:sizeOk (.seq items.toList.reverse.toArray):=by
  show items.toList.reverse.toArray.size<=sizeLine;simpa using hsz
 first
  | exact wpAny_bind (m:=Builtin.Tuple.tupleExact _) (wpAny_newObj_type (wpAny_pure ⟨_,rfl,wpAny_pure h⟩) htake)
  | exact wpAny_bind (m:=Builtin.Tuple.tupleExact _) (wpAny_newObj_type (wpAny_bind (wpAny_pure (wpAny_pure ⟨_,rfl,wpAny_pure h⟩))) htake)
  | exact wpAny_bind (wpAny_bind (m:=Builtin.Tuple.tupleExact _) (wpAny_newObj_type (wpAny_pure (wpAny_pure ⟨_,rfl,wpAny_pure h⟩)) htake))
  | exact wpAny_bind (wpAny_bind (m:=Builtin.Tuple.tupleExact _) (wpAny_newObj_type (wpAny_pure ⟨_,rfl,wpAny_pure h⟩) htake))
theorem Zbu(its:List Value):slicePick its.toArray none none (some (-1))=its.reverse.toArray:=by
 unfold slicePick;have b:sliceBounds none none (some (-1)) its.toArray.size=((its.length:Int)-1,-1,-1):=by
  simp[sliceBounds]
 rw[b]
 congr 1
 unfold sliceRange;simp only[show ¬ ((-1:Int)>0) by decide,if_false,List.filterMap_map];have hc:(if(its.length:Int)-1 > -1 then((its.length:Int)-1 - -1 - -1-1)/(- -1) else 0).toNat=its.length:=by
  split
  ·rw[show(- -1:Int)=1 by decide,Int.ediv_one];omega
  ·omega
 rw[hc,<-Zdp its];apply ZaO;intro m hm;simp only[Function.comp];rw[show(((its.length:Nat):Int)-1+-1*(m:Int))=(((its.length:Nat):Int)-1+(m:Int)*(-1)) by omega];simp
end
def cutD{α:Type}(xs:List α)(lo hi:Option Int):List α:=(xs.drop (HT.sIx xs.length 0 lo)).take (HT.sIx xs.length xs.length hi-HT.sIx xs.length 0 lo)
theorem RepL.cut{K:Frag}{F:Fz}{H:Hp}{ds:List D}{vs:List V}(h:RepL K F H ds vs)(lo hi:Option Int):RepL K F H (cutD ds lo hi) (Ze3 vs lo hi):=by
 unfold cutD Ze3;rw[h.length];exact(h.drop _).take _
section
variable{X:Cx}{pos:Pos}{e:Expr}{f:DE}
abbrev DO:=Rho->Option (Option Int)
inductive Zo5(K:Frag)(p:DO)(σ:L2.St)(H:Hp)(Q:Option Int->Hp->Prop):Prop
 | mk (ρ:Rho) (F0:Fz) (H0:Hp) (F:Fz) (o:Option Int) (ok:EnvOk K F0 H0 F σ H ρ) (e:p ρ=some o) (q:∀ F' H',Grow F H F' H'->Q o H')
def rdO(K:Frag)(p:DO):TO:=fun σ H Q=>Zo5 K p σ H Q
def OD(X:Cx)(e:Option Expr)(p:DO):Prop:=PO X e (rdO X.K p)
theorem PO.imp{e:Option Expr}{t t':TO}(h:PO X e t)(i:∀ σ H Q,t' σ H Q->t σ H Q):PO X e t':=fun pins s σ H Q I q=>h pins s σ H Q I (i σ H Q q)
def UB:DO:=fun _=>some none
def UA(f:DE):DO:=fun ρ=>(f ρ).bind fun d=>match d with | .int i=>some (some i) | _=>none
theorem ZaA:OD X none UB:=PO.imp ZjT fun σ H Q ⟨ρ,F0,H0,F,o,ok,e,q⟩=>by cases e;exact q F H .refl
theorem Zaz(h:ED X e f):OD X (some e) (UA f):=PO.imp (ZfI h) fun σ H Q zq=>by
 obtain⟨ρ,F0,H0,F,o,ok,eo,q⟩:=zq;obtain⟨d,ed,eo⟩:=bind_some eo;refine⟨ρ,F0,H0,F,d,ok,ed,fun v F1 H1 g1 r1=>?_⟩;split at eo
 ·cases eo;unfold Rep at r1;exact⟨_,r1,q F1 H1 g1⟩
 ·cases eo
def ZoD(K:Frag):V->Option Int->Option Int->Hp->VK->Prop:=fun x lo hi H Q=>∃ a xs,x=.ref a/\((SqL K H a xs/\∀ p,H p=none->Q (.ref p) (upd H p (.lst (Ze3 xs lo hi)))) \/
 (SqT K H a xs/\(Ze3 xs lo hi=xs->Q (.ref a) H)/\∀ p,H p=none->Q (.ref p) (upd H p (.tup (Ze3 xs lo hi)))))
theorem Zlh:SlR X (ZoD X.K):=by
 intro pins s σ H x v vl vu lo hi sl Q I rx hs pl pu h;obtain⟨a,xs,rfl,h⟩:=h;rcases h with⟨hx,q⟩ | ⟨hx,q1,q2⟩
 ·exact ZjA pins s σ H _ v vl vu lo hi sl Q I rx hs pl pu ⟨a,xs,rfl,hx,q⟩
 ·by_cases hw:HT.sIx xs.length 0 lo=0/\HT.sIx xs.length xs.length hi=xs.length
  ·cases rx;obtain⟨its,r,ht,hz⟩:=I.tuple hx;have hlen:its.toArray.size=xs.length:=by rw[Ac];exact r.length.symm
   refine⟨"tuple",_,Ay.lookup,ht.typeIs,?_⟩;refine Zfa ht hs pl pu (by rw[hlen];exact hw) ⟨.ref a,H,I,rfl,q1 ?_⟩;unfold Ze3;rw[hw.1,hw.2];simp
  ·exact Zlg pins s σ H _ v vl vu lo hi sl Q I rx hs pl pu ⟨a,xs,rfl,hx,hw,q2⟩
def Zk0(lo hi:Option Int):D->Option D
 | .lst xs=>some (.lst (cutD xs lo hi))
 | .tup xs=>some (.tup (cutD xs lo hi))
 | _=>none
def dSl(f:DE)(l h:DO):DE:=fun ρ=>(f ρ).bind fun x=>(l ρ).bind fun lo=>(h ρ).bind fun hi=>Zk0 lo hi x
theorem Ziq{lo hi:Option Expr}{l h:DO}{p2:Pos}(he:ED X e f)(hl:OD X lo l)(hh:OD X hi h):ED X (.Subscript e (.Slice lo hi none p2) pos) (dSl f l h):=
 PE.imp (ZhU Zlh he hl hh) fun σ H Q zq=>by
  obtain⟨ρ,F0,H0,F,d,ok,e,q⟩:=zq;obtain⟨x,ex,e⟩:=bind_some e;obtain⟨lo,el,e⟩:=bind_some e;obtain⟨hi,eh,e⟩:=bind_some e;refine⟨ρ,F0,H0,F,x,ok,ex,fun v F1 H1 g1 r1=>⟨ρ,F0,H0,F1,lo,ok.grow g1,el,fun F2 H2 g2=>⟨ρ,F0,H0,F2,hi,(ok.grow g1).grow g2,eh,fun F3 H3 g3=>?_⟩⟩⟩;have g13:=g1.trans (g2.trans g3);have r3:=(r1.grow g2).grow g3;unfold Zk0 at e;split at e
  ·cases e;unfold Rep at r3;obtain⟨a,vs,rfl,hf,hq,hr⟩:=r3;exact⟨a,vs,rfl,.inl ⟨hq,fun p hp=>q _ _ _ (g13.trans (.laid hp)) (YF hp (hr.cut lo hi))⟩⟩
  ·rename_i ds
   cases e;have r3':=r3;unfold Rep at r3;obtain⟨a,vs,rfl,hq,hr⟩:=r3;refine⟨a,vs,rfl,.inr ⟨hq,fun ec=>q _ F3 H3 g13 ?_,fun p hp=>q _ F3 _ (g13.trans (.laid0 hp)) ?_⟩⟩
   ·unfold Rep;refine⟨a,vs,rfl,hq,?_⟩;have:=hr.cut lo hi;rw[ec]at this;exact this
   ·unfold Rep;exact⟨p,_,rfl,.of ZP,(hr.cut lo hi).grow (.laid0 hp)⟩
  ·cases e
def ZmD(f:DE):DE:=fun ρ=>(f ρ).bind fun x=>match x with | .lst xs=>some (.lst xs.reverse) | .tup xs=>some (.tup xs.reverse) | _=>none
theorem Zmz{p1 p2 p3:Pos}{j:Nat}(he:ED X e f):ED X (.Subscript e (.Slice none none (some (.UnaryOp .USub (.Constant (.int 1) j p1) p3)) p2) pos) (ZmD f):=by
 intro pins s σ H Q I h;obtain⟨ρ,F0,H0,F,d,ok,ed,q⟩:=h;obtain⟨x,ex,ed⟩:=bind_some ed;refine Subscript_ (thn (he pins s σ H (fun v H'=>∃ F',Grow F H F' H'/\Rep X.K F' H' x v) I ⟨ρ,F0,H0,F,x,ok,ex,fun v F' H' g r=>⟨F',g,r⟩⟩) fun v s1 zq=>?_);obtain⟨xv,H1,I1,r1,F1,g1,rx⟩:=zq;refine wpAny_Slice ?_;rw[evalPart_none];refine wpAny_pure ?_;refine wpAny_pure ?_;refine thn (ZfI (ZlF ZiN ZiY) pins s1 σ H1 (fun o H'=>o=some (-1)/\H'=H1) I1 ⟨1,rfl,_,rfl,rfl,rfl⟩) fun vs s3 zq=>?_;obtain⟨o,H3,I3,ps,eo,eH⟩:=zq;subst eo eH;obtain⟨u,rfl⟩:∃ u,vs=.int (-1) u:=by cases ps;exact⟨_,rfl⟩
 have I4:Inv X pins σ H3 {s3 with heap:=s3.heap.push {cls:=.type "slice",data:=.fields #[.none,.none,.int (-1) u]}}:=I3.kept (t':=s3.toks) fun b ob q=>Heap.get?_push_of_some _ q;have hs:(s3.heap.push {cls:=.type "slice",data:=.fields #[.none,.none,.int (-1) u]}).IsSliceOf s3.heap.objs.size .none .none (.int (-1) u):=Heap.IsSliceOf.new ..;have fin:∃ T id,typeLookup (.type T) "__getitem__"=pure (some (.builtin id))/\Shared.TypeIs {s3 with heap:=s3.heap.push {cls:=.type "slice",data:=.fields #[.none,.none,.int (-1) u]}} v T /\
   wpAny (model X.prog X.w) X.A (getItem v (.ref s3.heap.objs.size)) (EP X pins σ Q) X.xe {s3 with heap:=s3.heap.push {cls:=.type "slice",data:=.fields #[.none,.none,.int (-1) u]}}:=by
  split at ed
  ·cases ed;unfold Rep at rx;obtain⟨a,vs,rfl,hf,hq,hr⟩:=rx;cases r1;obtain⟨its,rv,ht,hz⟩:=I4.list hq;have hlen:=rv.length;refine⟨"list",_,slot_list_getitem.lookup,ht.isList.typeIs,?_⟩;refine wpAny_getItem_list_slice ht.isList hs .none .none (.int _ _) (by simp) ?_ (by rw[Ac]<;>omega);rw[Zbu];refine⟨.ref _,_,I4.laid (t':=s3.toks) (o:=.lst vs.reverse) (fun b ob q=>Heap.get?_push_of_some _ q) (A7 _) ?_,rfl,q _ _ _ (g1.trans (.laid (I4.hok.fresh (A7 _)))) (YF (I4.hok.fresh (A7 _)) hr.reverse)⟩;exact⟨by rw[C8];exact hz,_,0,rv.reverse,Heap.get?_push_size _ rfl⟩
  ·cases ed;unfold Rep at rx;obtain⟨a,vs,rfl,hq,hr⟩:=rx;cases r1;obtain⟨its,rv,ht,hz⟩:=I4.tuple hq;have hlen:=rv.length;refine⟨"tuple",_,Ay.lookup,ht.typeIs,?_⟩;refine Zjs ht hs (by rw[Ac];omega) ?_;have hp:=I4.hok.fresh (a:=(s3.heap.push {cls:=.type "slice",data:=.fields #[.none,.none,.int (-1) u]}).objs.size) (A7 _);refine⟨.ref _,_,I4.laid (t':=s3.toks) (o:=.tup vs.reverse) (fun b ob q=>Heap.get?_push_of_some _ q) (A7 _) ?_,rfl,q _ F1 _ (g1.trans (.laid0 hp)) ?_⟩
   ·exact⟨by rw[C8];exact hz,_,rv.reverse,TupD.new _ _⟩
   ·unfold Rep;exact⟨_,_,rfl,.of ZP,hr.reverse.grow (.laid0 hp)⟩
  ·cases ed
 obtain⟨T,id,hT,ht,hg⟩:=fin;show wpAny (model X.prog X.w) X.A (subscriptTail e (.Slice none none (some (.UnaryOp .USub (.Constant (.int 1) j p1) p3)) p2) v (.ref s3.heap.objs.size)) (EP X pins σ Q) X.xe _;exact tail_any (ops:=[v,.ref s3.heap.objs.size]) ht hT hg (by with_unfolding_all rfl)
end
def Zn3(prog:Program)(w:World)(A:Around)(op:CmpOp)(G:Heap->Prop)(P:Nat->Value->Prop)(bt:Nat->Nat->Bool):Prop:=
 ∀ i j vi vj (s:Shared) (Q:Value->Shared->Prop) (E:Value->Shared->Prop),G s.heap->P i vi->P j vj->Q (.bool (bt i j)) s->wpAny (model prog w) A (richCompare op vi vj) Q E s
section
variable{prog:Program}{w:World}{A:Around}{R:Result->Shared->Prop}{I:Addr}{fp wr:List Addr}{n:Nat}{P:Nat->Value->Prop}{St:Nat->Heap->Prop}
theorem Zf8(W:Walks prog w A.in1 I fp wr n P St)(G:Heap->Prop)(S:Addr)(hG:∀ h h',G h->(∀ b o,b ∉ wr->b≠S->h.get? b=some o->h'.get? b=some o)->G h')(bt:Nat->Nat->Bool)(hcmp:Zn3 prog w A.in1 .Lt G P bt)(hSf:S ∉ fp):
  ∀(k j:Nat) (s:Shared) (vb:Value) (c:Nat),n-(j+1)=k->j+1<=n->G s.heap->St (j+1) s.heap->P (argBest bt j) vb->s.heap.get? S=some {cls:=.type "list",dict:=none,data:=.seq #[vb,vb] c,slots:=#[]} ->
  (∀ v h' tk,P (argBest bt (n-1)) v->(∀ b o,b ∉ wr->b≠S->s.heap.get? b=some o->h'.get? b=some o)->R (.ok (.ret v)) {s with heap:=h',toks:=tk}) ->
  codeAny (model prog w) A (.builtin "min.loop" ⟨[.ref I,.none,.ref S],[]⟩) R s:=by
 have hSw:S ∉ wr:=fun h=>hSf (W.sub _ h);have hname:(toString "min"++toString ".loop":String)="min.loop":=by decide
 intro k
 induction k with
 | zero=>
  intro j s vb c hk hj hg hst hPb hS hR;have hin:j+1=n:=by omega
  refine codeAny_builtin F.entry_min_loop ?_;rw[Around.under_plainId F.plain_min_loop _];show wpAny _ A.in1 (seqItems? (.ref S) >>= _) _ _ s;refine wpAny_bind (wpAny_seqItems hS rfl ?_);show wpAny _ A.in1 (tryCatch (pyNext (.ref I)) _ >>= _) _ _ s;refine wpAny_bind (wpAny_tryCatch (W.done s _ _ (hin ▸ hst) fun h' tk hk'=>?_));have hS':=hk' S _ hSw hS;show wpAny _ A.in1 (updateSeq S (fun _=>#[]) >>= _) _ _ _;refine wpAny_bind (wpAny_updateSeq hS' rfl (wpAny_bind (wpAny_letGo (wpAny_pure ?_))));exact hR vb _ tk (by rw[<-hin];exact hPb) fun b o hbw hbS e=>(Heap.get?_update_other _ _ (Ao hbS)).trans (hk' b o hbw e)
 | succ k ih=>
  intro j s vb c hk hj hg hst hPb hS hR;have hlt:j+1<n:=by omega
  refine codeAny_builtin F.entry_min_loop ?_;rw[Around.under_plainId F.plain_min_loop _];show wpAny _ A.in1 (seqItems? (.ref S) >>= _) _ _ s;refine wpAny_bind (wpAny_seqItems hS rfl ?_);show wpAny _ A.in1 (tryCatch (pyNext (.ref I)) _ >>= _) _ _ s;refine wpAny_bind (wpAny_tryCatch (W.item (j+1) s _ _ hlt hst fun v h' tk hP hst' hk'=>?_));have hS':=hk' S _ hSw hS;have hg':G h':=hG _ _ hg fun b o h1 _ e=>hk' b o h1 e;show wpAny _ A.in1 (tryCatch (holding [v,v] (richCompare .Lt v vb >>= _)) _ >>= _) _ _ _;refine wpAny_bind (wpAny_tryCatch (wpAny_holding (wpAny_bind (hcmp (j+1) (argBest bt j) v vb _ _ _ hg' hP hPb ?_))));refine wpAny_bind (wpAny_holding (wpAny_truthy_bool (wpAny_bind (wpAny_letGo (wpAny_pure ?_)))));cases hb:bt (j+1) (argBest bt j) with
  | true=>
   simp only[if_true];refine wpAny_bind (wpAny_updateSeq hS' rfl (wpAny_bind (wpAny_letGo ?_)));rw[hname];refine wpAny_pure ⟨plainId_quiet F.plain_min_loop _,ih (j+1) _ v _ (by omega) hlt (hG _ _ hg' fun b o _ h2 e=>(Heap.get?_update_other _ _ (Ao h2)).trans e) (W.frame _ _ _ hst' fun b hbf o e=>(Heap.get?_update_other _ _ (fun h:S=b=>hSf (by rw[h];exact hbf))).trans e) (by simp only[argBest,hb,if_true];exact hP) (Heap.get?_update_self _ hS' rfl) fun v' h'' tk'' hP' hk''=>?_⟩;exact hR v' h'' tk'' hP' fun b o hbw hbS e=>hk'' b o hbw hbS ((Heap.get?_update_other _ _ (Ao hbS)).trans (hk' b o hbw e))
  | false=>
   simp only[Af,if_false];refine wpAny_bind (wpAny_letGo ?_);rw[hname];refine wpAny_pure ⟨plainId_quiet F.plain_min_loop _,ih (j+1) _ vb c (by omega) hlt hg' hst' (by simp only[argBest,hb,Af,if_false];exact hPb) hS' fun v' h'' tk'' hP' hk''=>?_⟩;exact hR v' h'' tk'' hP' fun b o hbw hbS e=>hk'' b o hbw hbS (hk' b o hbw e)
theorem Zer(W:Walks prog w A.in1 I fp wr n P St)(G:Heap->Prop)(S:Addr)(hG:∀ h h',G h->(∀ b o,b ∉ wr->b≠S->h.get? b=some o->h'.get? b=some o)->G h')(bt:Nat->Nat->Bool)(hcmp:Zn3 prog w A.in1 .Lt G P bt)(hSf:S ∉ fp)(hn:0<n){s:Shared}{c:Nat}(hg:G s.heap)(hst:St 0 s.heap)
  (hS:s.heap.get? S=some {cls:=.type "list",dict:=none,data:=.seq #[] c,slots:=#[]})
  (hR:∀ v h' tk,P (argBest bt (n-1)) v->(∀ b o,b ∉ wr->b≠S->s.heap.get? b=some o->h'.get? b=some o)->R (.ok (.ret v)) {s with heap:=h',toks:=tk}):
  codeAny (model prog w) A (.builtin "min.loop" ⟨[.ref I,.none,.ref S],[]⟩) R s:=by
 have hSw:S ∉ wr:=fun h=>hSf (W.sub _ h);have hname:(toString "min"++toString ".loop":String)="min.loop":=by decide
 refine codeAny_builtin F.entry_min_loop ?_;rw[Around.under_plainId F.plain_min_loop _];show wpAny _ A.in1 (seqItems? (.ref S) >>= _) _ _ s;refine wpAny_bind (wpAny_seqItems hS rfl ?_);show wpAny _ A.in1 (tryCatch (pyNext (.ref I)) _ >>= _) _ _ s;refine wpAny_bind (wpAny_tryCatch (W.item 0 s _ _ hn hst fun v h' tk hP hst' hk'=>?_));have hS':=hk' S _ hSw hS;have hg':G h':=hG _ _ hg fun b o h1 _ e=>hk' b o h1 e;show wpAny _ A.in1 (updateSeq S (fun _=>#[v,v]) >>= _) _ _ _;refine wpAny_bind (wpAny_updateSeq hS' rfl ?_);rw[hname];refine wpAny_pure ⟨plainId_quiet F.plain_min_loop _,Zf8 W G S hG bt hcmp hSf _ 0 _ v _ rfl hn (hG _ _ hg' fun b o _ h2 e=>(Heap.get?_update_other _ _ (Ao h2)).trans e) (W.frame _ _ _ hst' fun b hbf o e=>(Heap.get?_update_other _ _ (fun h:S=b=>hSf (by rw[h];exact hbf))).trans e) hP (Heap.get?_update_self _ hS' rfl) fun v' h'' tk'' hP' hk''=>?_⟩;exact hR v' h'' tk'' hP' fun b o hbw hbS e=>hk'' b o hbw hbS ((Heap.get?_update_other _ _ (Ao hbS)).trans (hk' b o hbw e))
theorem Zf9{x:Value}{Q:Value->Shared->Prop}{E:Value->Shared->Prop}{s:Shared}
  (h:wpAny (model prog w) A.in1 (pyIter x) (fun it s₂=>∃ I fp wr n P St bt,it=.ref I/\Walks prog w A.in1 I fp wr n P St/\St 0 s₂.heap/\(∀ b∈fp,b<s₂.heap.objs.size)/\0<n/\Zn3 prog w A.in1 .Lt (fun h'=>∀ b o,b ∉ wr->s₂.heap.get? b=some o->h'.get? b=some o) P bt /\
   ∀ v h' tk,P (argBest bt (n-1)) v->(∀ b o,b ∉ wr->s₂.heap.get? b=some o->h'.get? b=some o)->Q v {s₂ with heap:=h',toks:=tk}) E s) :
  wpAny (model prog w) A (call (.builtin "min") [x]) Q E s:=by
 have hname:(toString "min"++toString ".loop":String)="min.loop":=by decide
 refine call_function_tree F.kind_min F.plain_min F.entry_min (F.args_min1 _) ?_;show wpAny _ A.in1 (Builtin.Builtins.bindParams "min" ["key","default"] 0 ⟨[],[]⟩ >>= _) _ _ s;refine wpAny_bind (wpAny_of_eq (show Builtin.Builtins.bindParams "min" ["key","default"] 0 ⟨[],[]⟩=pure [none,none] from rfl) (wpAny_bind (wpAny_pure (wpAny_bind (wpAny_mono h (fun it s₂ h₂=>?_) fun _ _ e=>e)))));obtain⟨I,fp,wr,n,P,St,bt,rfl,W,hst,hfp,hn,hcmp,hQ⟩:=h₂;refine wpAny_bind (wpAny_newObj_type ?_);have hSf:s₂.heap.objs.size ∉ fp:=fun hm=>aq _ (hfp _ hm);rw[hname];refine wpAny_pure ⟨plainId_quiet F.plain_min_loop _,Zer W (fun h'=>∀ b o,b ∉ wr->s₂.heap.get? b=some o->h'.get? b=some o) s₂.heap.objs.size (fun h1 h2 g k b o hb e=>k b o hb (Am (Heap.lt_size e)) (g b o hb e)) bt hcmp hSf hn (fun b o _ e=>Heap.get?_push_of_some _ e) (W.frame _ _ _ hst fun b _ o e=>Heap.get?_push_of_some _ e) (Heap.get?_push_size _ rfl) fun v h' tk hP hk=>?_⟩;exact hQ v h' tk hP fun b o hbw e=>hk b o hbw (Am (Heap.lt_size e)) (Heap.get?_push_of_some _ e)
end
section
variable{X:Cx}{pins:List (Addr×Obj)}{σ:L2.St}{H:Hp}{s:Shared}
theorem ZaH{A':Around}{a:Addr}{vs:List V}{Q:Value->Shared->Prop}{E:Value->Shared->Prop}(hh:A'.handled=none)(I:Inv X pins σ H s)(h:SqL X.K H a vs\/SqT X.K H a vs)
  (q:∀(it:Addr) (fp wr:List Addr) (its:Array Value) (St:Nat->Heap->Prop) (h2:Heap),Vals vs its.toList->Walks X.prog X.w A' it fp wr its.size (fun i v=>its[i]?=some v) St->St 0 h2->(∀ b∈fp,b<h2.objs.size) ->
   (∀ b o,s.heap.get? b=some o->h2.get? b=some o/\b ∉ wr)->Q (.ref it) {s with heap:=h2}):wpAny (model X.prog X.w) A' (pyIter (.ref a)) Q E s:=by
 rcases h with h | h
 ·obtain⟨its,rv,p,hz⟩:=I.list h;have hl:=p.isList;have hlt:a<s.heap.objs.size:=by obtain⟨_,e,_⟩:=hl;exact Heap.lt_size e
  refine wpAny_pyIter_list hl ?_;refine q s.heap.objs.size [s.heap.objs.size,a] [s.heap.objs.size] its.toArray _ _ (by simpa using rv) (Walks.list hh _ a (Am hlt) its.toArray) ⟨⟨_,Heap.get?_push_size _ rfl,rfl,rfl⟩,hl.push _⟩ (fun b hb=>?_) fun b o e=>⟨Heap.get?_push_of_some _ e,fun hb=>?_⟩
  ·rw[Heap.size_push];rcases A4.mp hb with rfl | hb
   ·exact C5 _
   ·rw[A0]at hb;subst hb;exact Nat.lt_succ_of_lt hlt
  ·rw[A0]at hb;subst hb;exact absurd (Heap.lt_size e) (aq _)
 ·obtain⟨its,rv,p,hz⟩:=I.tuple h;have hl:s.heap.IsTuple a its.toArray:=p;have hlt:a<s.heap.objs.size:=by obtain⟨_,e,_⟩:=hl;exact Heap.lt_size e
  refine wpAny_pyIter_tuple hl ?_;refine q s.heap.objs.size [s.heap.objs.size,a] [s.heap.objs.size] its.toArray _ _ (by simpa using rv) (Walks.tuple hh _ a (Am hlt) its.toArray) ⟨⟨_,Heap.get?_push_size _ rfl,rfl,rfl⟩,hl.push _⟩ (fun b hb=>?_) fun b o e=>⟨Heap.get?_push_of_some _ e,fun hb=>?_⟩
  ·rw[Heap.size_push];rcases A4.mp hb with rfl | hb
   ·exact C5 _
   ·rw[A0]at hb;subst hb;exact Nat.lt_succ_of_lt hlt
  ·rw[A0]at hb;subst hb;exact absurd (Heap.lt_size e) (aq _)
end
noncomputable def Yu:D->Option (List D)
 | .lst xs=>some xs
 | .tup xs=>some xs
 | _=>none
theorem VV{K:Frag}{F:Fz}{H:Hp}{d:D}{xs:List D}{v:V}(h:Yu d=some xs)(r:Rep K F H d v):∃ a vs,v=.ref a/\(SqL K H a vs\/SqT K H a vs)/\RepL K F H xs vs:=by
 unfold Yu at h;split at h
 ·cases h;unfold Rep at r;obtain⟨a,vs,rfl,_,h1,h2⟩:=r;exact⟨a,vs,rfl,.inl h1,h2⟩
 ·cases h;unfold Rep at r;obtain⟨a,vs,rfl,h1,h2⟩:=r;exact⟨a,vs,rfl,.inr h1,h2⟩
 ·cases h
def ZaX:List D->Option (List Bool)
 | []=>some []
 | .bl b::r=>(ZaX r).map (b::·)
 | _::_=>none
theorem ZbR:∀{ds:List D} {bs:List Bool} {i:Nat} {d:D},ZaX ds=some bs->ds[i]?=some d->∃ b,bs[i]?=some b/\d=.bl b
 | [],_,_,_,_,e=>by simp at e
 | d0::ds,bs,i,d,h,e=>by
  cases d0 with
  | bl b=>
   obtain⟨bs',h',rfl⟩:=map_some (show(ZaX ds).map (b::·)=some bs from h);cases i with
   | zero=>simp at e;subst e;exact⟨b,rfl,rfl⟩
   | succ i=>obtain⟨b',e1,e2⟩:=ZbR (i:=i) h' (by simpa using e);exact⟨b',by simpa using e1,e2⟩
  | _=>cases h
theorem ZbQ:∀{ds:List D} {bs:List Bool},ZaX ds=some bs->ds.length=bs.length
 | [],bs,h=>by cases h;rfl
 | d0::ds,bs,h=>by
  cases d0 with
  | bl b=>
   obtain⟨bs',h',rfl⟩:=map_some (show(ZaX ds).map (b::·)=some bs from h);simp[ZbQ h']
  | _=>cases h
theorem Zhk(bs:List Bool):(List.range bs.length).any (fun i=>bs[i]?.getD false)=bs.any id:=by
 induction bs with
 | nil=>rfl
 | cons b bs ih=>
  rw[B_,bg,List.any_cons,List.any_cons,List.any_map,<-ih]
  congr 1
def Zm3:List D->Option D
 | [d]=>(Yu d).bind fun xs=>(ZaX xs).map fun bs=>.bl (bs.any id)
 | _=>none
section
variable{X:Cx}
theorem Zce{A:Around}{K:Frag}{F:Fz}{H:Hp}{xs:List D}{bs:List Bool}{vs:List V}{its:Array Value}(hr:RepL K F H xs vs)(hb:ZaX xs=some bs)(rv:Vals vs its.toList):
  TruthOf X.prog X.w A (fun i v=>its[i]?=some v) fun i=>bs[i]?.getD false:=fun i v s Q E hv hQ=>by
 have hi:i<xs.length:=by
  have:=(b7.mp hv).1;rw[hr.length,rv.length];simpa using this
 obtain⟨x,ex,rx⟩:=hr.get (show xs[i]?=some xs[i] by simp[hi]);obtain⟨b,eb,ed⟩:=ZbR hb (show xs[i]?=some xs[i] by simp[hi]);rw[ed]at rx;unfold Rep at rx;subst rx;obtain⟨u,eu,ru⟩:=rv.get ex;have:v=u:=by
  rw[Az]at eu;rw[hv]at eu;exact Option.some.inj eu
 subst this;cases ru;have hQ':Q ((bs[i]?).getD false) s:=hQ;rw[eb]at hQ';exact wpAny_truthy_bool hQ'
theorem ZnU(hc:X.calm=true):WF X (.builtin "any") Zm3:=by
 intro pins s σ H vs us Q I r h;obtain⟨xs,F,d,r1,e,q⟩:=h;unfold Zm3 at e;split at e
 ·rename_i d0
  obtain⟨ys,es,e⟩:=bind_some e;obtain⟨bs,eb,rfl⟩:=map_some e;obtain⟨v,rfl,rv0⟩:=Ug r1;obtain⟨a,ws,rfl,hq,hr⟩:=VV es rv0;obtain⟨u,rfl,ru⟩:=VD r;cases ru;refine call_any_walk (ZaH (A':=X.A.in1) (I.ok.hd hc) I hq fun it fp wr its St h2 rv W st fpl kp=>⟨it,fp,wr,its.size,_,St,_,rfl,W,st,Zce hr eb rv,fun h' tk hk=>?_⟩);have hz:its.size=bs.length:=by rw[<-ZbQ eb,hr.length,rv.length];simp
  rw[hz,Zhk];exact⟨.bl _,H,I.kept (t':=tk) fun b o e=>hk b o (kp b o e).2 (kp b o e).1,rfl,q _ F H .refl (Jf _)⟩
 ·cases e
def Q6:List D->Option (List Int)
 | []=>some []
 | .int b::r=>(Q6 r).map (b::·)
 | _::_=>none
theorem JO:∀{ds:List D} {ns:List Int},Q6 ds=some ns->ds=ns.map .int
 | [],ns,h=>by cases h;rfl
 | d0::ds,ns,h=>by
  cases d0 with
  | int b=>
   obtain⟨bs',h',rfl⟩:=map_some (show(Q6 ds).map (b::·)=some ns from h);rw[JO h'];rfl
  | _=>cases h
theorem UF:∀(ns:List Int),Q6 (ns.map .int)=some ns
 | []=>rfl
 | n::ns=>by show(Q6 (ns.map .int)).map (n::·)=_;rw[UF ns];rfl
def WJ:Int->List Int->Bool
 | _,[]=>true
 | a,n::ns=>decide (-(2 ^ 63)<=n)&&decide (n<2 ^ 63)&&decide (-(2 ^ 63)<=a+n)&&decide (a+n<2 ^ 63)&&WJ (a+n) ns
def ZkZ:List D->Option D
 | [d]=>(Yu d).bind fun xs=>(Q6 xs).bind fun ns=>if WJ 0 ns then some (.int ns.sum) else none
 | _=>none
theorem Jq(n:Int)(f:Nat->Int):∀ k,preSum (fun i=>match i with | 0=>n | i+1=>f i) (k+1)=n+preSum f k
 | 0=>by simp[preSum]
 | k+1=>by
  rw[preSum,Jq n f k];show n+preSum f k+f k=n+(preSum f k+f k);omega
theorem Zbz(n:Int)(ns:List Int):(fun i=>((n::ns)[i]?).getD 0)=fun i=>match i with | 0=>n | i+1=>(ns[i]?).getD 0:=by
 funext i
 cases i<;>rfl
theorem VX:∀(ns:List Int),preSum (fun i=>(ns[i]?).getD 0) ns.length=ns.sum
 | []=>rfl
 | n::ns=>by rw[Zbz,B_,Jq,VX ns,Ck]
theorem WI:∀(ns:List Int) (a:Int),WJ a ns=true->∀ j,j<ns.length->InLong ((ns[j]?).getD 0)/\InLong (a+preSum (fun i=>(ns[i]?).getD 0) (j+1))
 | [],a,_,j,hj=>by simp at hj
 | n::ns,a,h,j,hj=>by
  unfold WJ at h;simp only[As,decide_eq_true_eq]at h;obtain⟨⟨⟨⟨h1,h2⟩,h3⟩,h4⟩,h5⟩:=h;rw[Zbz,Jq];cases j with
  | zero=>exact⟨⟨h1,h2⟩,by simp[preSum];exact⟨h3,h4⟩⟩
  | succ j=>
   obtain⟨q1,q2⟩:=WI ns (a+n) h5 j (by simpa using hj);refine⟨by simpa using q1,?_⟩;rw[Int.add_assoc]at q2;exact q2
theorem ZnS(hc:X.calm=true):WF X (.builtin "sum") ZkZ:=by
 intro pins s σ H vs us Q I r h;obtain⟨xs,F,d,r1,e,q⟩:=h;unfold ZkZ at e;split at e
 ·rename_i d0
  obtain⟨ys,es,e⟩:=bind_some e;obtain⟨ns,en,e⟩:=bind_some e;obtain⟨ho,rfl⟩:=Ye e;obtain⟨v,rfl,rv0⟩:=Ug r1;obtain⟨a,ws,rfl,hq,hr⟩:=VV es rv0;obtain⟨u,rfl,ru⟩:=VD r;cases ru;have ey:=JO en;subst ey;refine call_sum_walk (ZaH (A':=X.A.in1) (I.ok.hd hc) I hq fun it fp wr its St h2 rv W st fpl kp=>⟨it,fp,wr,its.size,_,St,fun i=>(ns[i]?).getD 0,rfl,W,st,fpl,fun i v hv=>?_,fun j hj=>?_,fun h' tk t' hk=>?_⟩)
  ·have hi:i<ns.length:=by
    have:=(b7.mp hv).1;have h1:=hr.length;have h2:=rv.length;simp at h1 h2;omega
   obtain⟨x,ex,rx⟩:=hr.get (show(ns.map D.int)[i]?=some (.int ns[i]) by simp[hi]);unfold Rep at rx;subst rx;obtain⟨u,eu,ru⟩:=rv.get ex;have:v=u:=by rw[Az]at eu;rw[hv]at eu;exact Option.some.inj eu
   subst this;obtain⟨t,rfl⟩:=ru;exact⟨t,by simp[hi]⟩
  ·have hz:its.size=ns.length:=by have h1:=hr.length;have h2:=rv.length;simp at h1 h2;omega
   rw[hz]at hj;have:=WI ns 0 ho j hj;rw[Bh]at this;exact this
  ·have hz:its.size=ns.length:=by have h1:=hr.length;have h2:=rv.length;simp at h1 h2;omega
   rw[hz,VX];exact⟨.int _,H,I.kept (t':=tk) fun b o e=>hk b o (kp b o e).2 (kp b o e).1,⟨t',rfl⟩,q _ F H .refl (Z3 _)⟩
 ·cases e
end
def ltD:D->D->Bool
 | .int i,.int j=>decide (i<j)
 | .tup xs,.tup ys=>HT.lexLt ((Q6 xs).getD []) ((Q6 ys).getD [])
 | _,_=>false
def isI:D->Bool
 | .int _=>true
 | _=>false
def isT:D->Bool
 | .tup xs=>(Q6 xs).isSome
 | _=>false
def Zab(ds:List D):Bool:=ds.all isI||ds.all isT
def Ze4(lt:D->D->Bool):D->List D->D
 | b,[]=>b
 | b,x::xs=>Ze4 lt (if lt x b then x else b) xs
theorem ZbW(lt:D->D->Bool):∀(xs:List D) (b x:D),Ze4 lt b (xs++[x])=if lt x (Ze4 lt b xs) then x else Ze4 lt b xs
 | [],b,x=>rfl
 | y::xs,b,x=>by simp only[B3,Ze4];exact ZbW lt xs _ x
theorem Vf(lt:D->D->Bool)(d:D)(ds:List D):∀ k,k<=ds.length->(d::ds)[argBest (fun i j=>lt ((d::ds)[i]?.getD .non) ((d::ds)[j]?.getD .non)) k]?=some (Ze4 lt d (ds.take k))
 | 0,_=>by simp[argBest,Ze4]
 | k+1,hk=>by
  have ih:=Vf lt d ds k (by omega);have e:ds.take (k+1)=ds.take k++[ds[k]]:=by rw[List.take_add_one];simp[show k<ds.length by omega]
  rw[e,ZbW];unfold argBest;have e1:(d::ds)[k+1]?=some ds[k]:=by simp[show k<ds.length by omega]
  simp only[ih,e1,Option.getD_some];split
  ·exact e1
  ·exact ih
def Wx:List D->Option D
 | [d]=>(Yu d).bind fun xs=>match xs with
  | []=>none
  | x::r=>if Zab (x::r) then some (Ze4 ltD x r) else none
 | _=>none
section
variable{X:Cx}{pins:List (Addr×Obj)}{σ:L2.St}{H:Hp}{s:Shared}{F:Fz}
theorem Q5:∀{ns:List Int} {vs:List V} {us:List Value},RepL X.K F H (ns.map .int) vs->Vals vs us->IntsAre us ns
 | [],vs,us,h,r=>by rw[List.map_nil]at h;rw[h.unnil]at r;cases r;exact .nil
 | n::ns,vs,us,h,r=>by
  rw[Au]at h;obtain⟨y,ys,rfl,h1,h2⟩:=h.uncons;unfold Rep at h1;subst h1;cases r with
  | cons r1 r2=>
   obtain⟨t,rfl⟩:=r1;exact .cons n t (Q5 h2 r2)
theorem Zh5{A:Around}(hu:A.units<cLine)(I:Inv X pins σ H s){d e:D}{x y:V}{u v:Value}{h':Heap}{s':Shared}{Q:Value->Shared->Prop}{E:Value->Shared->Prop}(hk:((isI d&&isI e)||(isT d&&isT e))=true)
  (r1:Rep X.K F H d x)(r2:Rep X.K F H e y)(q1:RelV x u)(q2:RelV y v)(kp:∀ b o,s.heap.get? b=some o->s'.heap.get? b=some o)(q:Q (.bool (ltD d e)) s'):wpAny (model X.prog X.w) A (richCompare .Lt u v) Q E s':=by
 cases d with
 | int i=>cases e with
  | int j=>
   unfold Rep at r1 r2;subst r1 r2;obtain⟨t,rfl⟩:=q1;obtain⟨t',rfl⟩:=q2;exact HT.rcLt_int A s' i t j t' X.prog X.w E Q q
  | _=>simp[isI,isT]at hk
 | tup xs=>cases e with
  | tup ys=>
   have hk:((Q6 xs).isSome&&(Q6 ys).isSome)=true:=by simpa[isI,isT]using hk
   obtain⟨k1,k2⟩:=Ad.mp hk;obtain⟨ns,en⟩:=Option.isSome_iff_exists.mp k1;obtain⟨ms,em⟩:=Option.isSome_iff_exists.mp k2;have e1:=JO en;have e2:=JO em;subst e1 e2;unfold Rep at r1 r2;obtain⟨a,vs,rfl,h1,l1⟩:=r1;obtain⟨b,ws,rfl,h2,l2⟩:=r2;cases q1;cases q2;obtain⟨its,rv,p,_⟩:=I.tuple h1;obtain⟨its2,rv2,p2,_⟩:=I.tuple h2;have p':IsTup s'.heap a its.toArray:=by obtain⟨o,ho,r⟩:=p;exact⟨o,kp a o ho,r⟩
   have p2':IsTup s'.heap b its2.toArray:=by obtain⟨o,ho,r⟩:=p2;exact⟨o,kp b o ho,r⟩
   have q':Q (.bool (HT.lexLt ((Q6 (ns.map .int)).getD []) ((Q6 (ms.map .int)).getD []))) s':=q;rw[UF,UF]at q';exact HT.lt_tupInts (ns:=ns) (ms:=ms) p' p2' (by simpa using Q5 l1 rv) (by simpa using Q5 l2 rv2) hu q'
  | _=>simp[isI,isT]at hk
 | _=>simp[isI,isT]at hk
theorem ZeN{ds:List D}(h:Zab ds=true){i j:Nat}{d e:D}(h1:ds[i]?=some d)(h2:ds[j]?=some e):((isI d&&isI e)||(isT d&&isT e))=true:=by
 have m1:=av h1;have m2:=av h2;rcases b6.mp h with h | h
 ·have:=aa.mp h;rw[this d m1,this e m2];rfl
 ·have:=aa.mp h;rw[this d m1,this e m2];simp
theorem Zg6(hc:X.calm=true)(hu:X.A.units+64<cLine):WF X (.builtin "min") Wx:=by
 intro pins s σ H vs us Q I r h;obtain⟨xs,F,d,r1,e,q⟩:=h;unfold Wx at e;split at e
 ·rename_i d0
  obtain⟨ys,es,e⟩:=bind_some e;cases ys with
  | nil=>cases e
  | cons y ys=>
   have e:(if Zab (y::ys)=true then some (Ze4 ltD y ys) else none)=some d:=e;obtain⟨hca,rfl⟩:=Ye e;obtain⟨v,rfl,rv0⟩:=Ug r1;obtain⟨a,ws,rfl,hq,hr⟩:=VV es rv0;obtain⟨u,rfl,ru⟩:=VD r;cases ru;have hu':X.A.in1.units<cLine:=by show X.A.units+1<cLine;omega
   refine Zf9 (ZaH (A':=X.A.in1) (I.ok.hd hc) I hq fun it fp wr its St h2 rv W st fpl kp=>⟨it,fp,wr,its.size,_,St,fun i j=>ltD ((y::ys)[i]?.getD .non) ((y::ys)[j]?.getD .non),rfl,W,st,fpl,?_,fun i j vi vj s' Q' E' hG hi hj hQ=>?_,fun v h' tk hv hk=>?_⟩)
   ·have h1:=hr.length;have h2:=rv.length;simp at h1 h2;omega
   ·have gt:∀{i:Nat} {v:Value},its[i]?=some v->∃ d x,(y::ys)[i]?=some d/\Rep X.K F H d x/\RelV x v:=fun {i v} hv=>by
     have hi:i<(y::ys).length:=by
      have:=(b7.mp hv).1;rw[hr.length,rv.length];simpa using this
     obtain⟨x,ex,rx⟩:=hr.get (show(y::ys)[i]?=some (y::ys)[i] by simp[hi]);obtain⟨u,eu,ru⟩:=rv.get ex;have:v=u:=by rw[Az]at eu;rw[hv]at eu;exact Option.some.inj eu
     subst this;exact⟨_,x,by simp[hi],rx,ru⟩
    obtain⟨d1,x1,e1,p1,q1⟩:=gt hi;obtain⟨d2,x2,e2,p2,q2⟩:=gt hj;have hQ:Q' (.bool (ltD ((y::ys)[i]?.getD .non) ((y::ys)[j]?.getD .non))) s':=hQ;rw[e1,e2]at hQ;exact Zh5 (h':=h2) hu' I (ZeN hca e1 e2) p1 p2 q1 q2 (fun b o e=>hG b o (kp b o e).2 (kp b o e).1) hQ
   ·have hz:its.size-1=ys.length:=by have h1:=hr.length;have h2:=rv.length;simp at h1 h2;omega
    have hb:=Vf ltD y ys ys.length (A7 _);rw[List.take_length]at hb;rw[hz]at hv;obtain⟨x,ex,rx⟩:=hr.get hb;obtain⟨u,eu,ru⟩:=rv.get ex;have:v=u:=by rw[Az]at eu;rw[hv]at eu;exact Option.some.inj eu
    subst this;exact⟨x,H,I.kept (t':=tk) fun b o e=>hk b o (kp b o e).2 (kp b o e).1,ru,q _ F H .refl rx⟩
 ·cases e
def UI(x:D):List D->Option Nat
 | []=>none
 | y::ys=>if deq y x then some 0 else(UI x ys).map (·+1)
theorem JP(x:D):∀{ys:List D} {j:Nat},UI x ys=some j->(∃ y,ys[j]?=some y/\deq y x=true)/\∀(m:Nat) y,m<j->ys[m]?=some y->deq y x=false
 | [],j,h=>by cases h
 | y::ys,j,h=>by
  unfold UI at h;by_cases c:deq y x=true
  ·rw[if_pos c]at h;cases h;exact⟨⟨y,rfl,c⟩,fun m z hm=>absurd hm (Nat.not_lt_zero _)⟩
  ·rw[if_neg c]at h;obtain⟨k,hk,rfl⟩:=map_some h;obtain⟨⟨z,h1,h2⟩,h3⟩:=JP x hk;refine⟨⟨z,by simpa using h1,h2⟩,fun m z hm hz=>?_⟩;cases m with
   | zero=>simp at hz;subst hz;simpa using c
   | succ m=>exact h3 m z (by omega) (by simpa using hz)
end
section
variable{X:Cx}
def ZbM:D->D->Option D
 | .lst xs,x=>if okD x&&okD (.lst xs)&&decide (xs.length<=lim) then(UI x xs).map fun(j:Nat)=>D.int (j:Int) else none
 | _,_=>none
def ZoI(K:Frag):V->List V->Hp->VK->Prop:=fun v vs H Q=>∃ x y F d u,vs=[u]/\Rep K F H x v/\Rep K F H y u/\ZbM x y=some d/\∀ w F' H',Grow F H F' H'->Rep K F' H' d w->Q w H'
theorem Uw:∀(ds:List D) (i:Nat),(ZU ds)[i]?=(ds[i]?).map YS
 | [],i=>by simp[ZU]
 | d::ds,0=>by simp[ZU]
 | d::ds,i+1=>by simp[ZU,Uw ds i]
theorem QF{h:Heap}:∀{vs:List Value} {xs:List PyData} {as:List Addr},ReadsAll h vs xs as->PyData.canLayAll0 xs=true->∀(i:Nat) v,vs[i]?=some v->∃ d,xs[i]?=some d/\SeqAt.readOf h v=d
 | _,_,_,.nil,_,i,v,e=>by simp at e
 | _,_,_,.cons r1 r2,hc,i,v,e=>by
  have hc':=(by simpa[PyData.canLayAll0]using hc:_/\_);cases i with
  | zero=>simp at e;subst e;exact⟨_,rfl,SeqAt.readOf_eq hc'.1 r1⟩
  | succ i=>obtain⟨d,e1,e2⟩:=QF r2 hc'.2 i v (by simpa using e);exact⟨d,by simpa using e1,e2⟩
theorem Zh3(hu:X.A.units+64<cLine):MtR X "list.index" (ZoI X.K):=by
 intro pins s σ H x xs v us Q I rx rs h;obtain⟨dx,dy,F,d,u,rfl,r1,r2,e,q⟩:=h;cases dx with
 | lst ds=>
  have e:(if(okD dy&&okD (.lst ds)&&decide (ds.length<=lim))=true then(UI dy ds).map fun(j:Nat)=>D.int (j:Int) else none)=some d:=e;by_cases hk:(okD dy&&okD (.lst ds)&&decide (ds.length<=lim))=true
  ·rw[if_pos hk]at e;obtain⟨j,ej,rfl⟩:=map_some e;obtain⟨hk,hz⟩:=Ad.mp hk;obtain⟨k1,k2⟩:=Ad.mp hk;have hz:ds.length<=lim:=of_decide_eq_true hz;obtain⟨w,rfl,rw'⟩:=VD rs;obtain⟨bs,a2⟩:=Yi I r2 rw';unfold Rep at r1;obtain⟨a,vs,rfl,hf,hq,hr⟩:=r1;cases rx;obtain⟨its,rv,pl,_⟩:=I.list hq;obtain⟨as,ra⟩:=Qk I hr rv;have d1:=okD.dep k1;have c1:=okD.can k1;have c2:=okD.can k2;simp only[YS,PyData.canLay0]at c2;obtain⟨⟨cls,dd,data,sl⟩,ho,hc,n,hd⟩:=pl.isList;simp only at hc hd;subst hc hd;have hlen:its.length=ds.length:=by rw[<-rv.length,hr.length]
   obtain⟨⟨y,y1,y2⟩,no⟩:=JP dy ej;have hj:j<ds.length:=(Ap.mp y1).1;have rd:∀(i:Nat) (hi:i<its.toArray.size) y,ds[i]?=some y->PyData.eqv (SeqAt.readOf s.heap its.toArray[i]) (YS dy)=deq y dy:=fun i hi y ey=>by
    obtain⟨d',e1,e2⟩:=QF ra c2 i its.toArray[i] (by simp);rw[Uw,ey]at e1;cases e1;rw[e2];rfl
   have hm:min (PyData.depthAll (ZU ds)) (YS dy).depth<=30:=Ax (b8 _ _) d1;refine call_meets PySem.F.slot_list_index ⟨_,ho,rfl⟩ PySem.F.entry_list_index (PySem.F.args_list_index_2 _ _)
    (SeqAt.list_indexAt a its.toArray n dd sl w (fun y=>PyData.eqv (SeqAt.readOf s.heap y) (YS dy)) j (by simp;omega) (by unfold lim at hz;omega) (by rw[rd j (by simp;omega) y y1];exact y2) fun m hm hlt=>?_)
    ⟨ho,SeqAt.items_eqAt (by simpa using ra) a2 c2 c1 (by omega),.int j,H,I.tok _,⟨_,rfl⟩,q _ F H .refl (Z3 _)⟩
   have hml:m<ds.length:=by simp at hm;omega
   rw[rd m hm ds[m] (by simp[hml])];exact no m _ hlt (by simp[hml])
  ·rw[if_neg hk]at e;cases e
 | _=>cases e
theorem ZdR{o e:Expr}{f g:DE}{apos cpos:Pos}(hu:X.A.units+64<cLine)(ho:ED X o f)(he:ED X e g)
  (hbase:attributeBase o "index" X.env (eval o X.env)=eval o X.env:=by rfl)
  (hfew:((backTo cpos (starEach [e] X.env)).all (fun x=>!x.1)&&(backToKw cpos (keywordEach [] X.env)).all (fun x=>x.1.isSome)
   && decide ([e].length+([]:List Keyword).length+(if([]:List Keyword).isEmpty then 0 else 1)<30))=true:=by rfl)
  (hline:(apos.endLine==cpos.line)=true:=by rfl) (hs:starEach [e] X.env=(false,eval e X.env)::starEach [] X.env:=by rfl) (hplain:(backTo cpos (starEach [] X.env)).any (·.1)=false:=by rfl) :
  ED X (.Call (.Attribute o "index" apos) [e] [] cpos) (Zg ZbM f g):=
 PE.imp (Zj1 PySem.F.plainAttrs_list PySem.F.slot_list_index PySem.F.type_list_index (Zh3 hu) ho (Zc he Zh hs) hbase hfew hline hs hplain) fun σ H Q zq=>by
  obtain⟨ρ,F0,H0,F,d,ok,e,q⟩:=zq;obtain⟨x,ex,e⟩:=bind_some e;obtain⟨y,ey,e⟩:=bind_some e;refine⟨ρ,F0,H0,F,x,ok,ex,fun v F1 H1 g1 r1=>?_⟩;cases x with
  | lst ds=>
   have r1':=r1;unfold Rep at r1;obtain⟨a,vs,rfl,hf,hq,hr⟩:=r1;refine⟨.inl ⟨rfl,vs,hq⟩,ρ,F0,H0,F1,[y],ok.grow g1,by simp[Zb,Zm,ey],fun ws F2 H2 g2 r2=>?_⟩;obtain⟨u,rfl,ru⟩:=Ug r2;exact⟨_,_,F2,d,u,rfl,r1'.grow g2,ru,e,fun w F3 H3 g3 r3=>q w F3 H3 (g1.trans (g2.trans g3)) r3⟩
  | _=>cases e
end
end L3
set_option linter.unusedVariables false
set_option linter.unusedSimpArgs false
namespace SetTab
open PySem PySem.SetTable
def Ris(xs:List Nat):Prop:=xs.Pairwise (· < ·)
theorem Ris.get{xs:List Nat}(h:Ris xs){i j:Nat}(hij:i<j)(hj:j<xs.length):xs[i]'(by omega)<xs[j]:=ba.mp h i j (by omega) hj hij
theorem ZiF{xs:Array Nat}(h:Ris xs.toList)(j:Nat):∀(fuel lo hi:Nat),hi-lo<=fuel->lo<=hi->hi<=xs.size->(∀ a (ha:a<xs.size),a<lo->xs[a]<j)->(∀ a (ha:a<xs.size),hi<=a->j<=xs[a]) ->
  ∃ r,below.go xs j fuel lo hi=r/\r<=xs.size/\(∀ a (ha:a<xs.size),a<r->xs[a]<j)/\(∀ a (ha:a<xs.size),r<=a->j<=xs[a]):=by
 intro fuel
 induction fuel with
 | zero=>
  intro lo hi h1 h2 h3 h4 h5;exact⟨lo,rfl,by omega,h4,fun a ha hl=>h5 a ha (by omega)⟩
 | succ fuel ih=>
  intro lo hi h1 h2 h3 h4 h5;unfold below.go;by_cases c:lo<hi
  ·rw[if_pos c];have hm:(lo+hi)/2<xs.size:=by omega
   have e:xs.getD ((lo+hi)/2) j=xs[(lo+hi)/2]:=by simp[Array.getD,hm]
   show ∃ r,(if xs.getD ((lo+hi)/2) j<j then below.go xs j fuel ((lo+hi)/2+1) hi else below.go xs j fuel lo ((lo+hi)/2))=r/\_;rw[e];by_cases c2:xs[(lo+hi)/2]<j
   ·rw[if_pos c2];refine ih _ _ (by omega) (by omega) h3 (fun a ha hl=>?_) h5;by_cases e2:a=(lo+hi)/2
    ·subst e2;exact c2
    ·have:=h.get (i:=a) (j:=(lo+hi)/2) (by omega) (by simpa using hm);simp only[aw]at this;omega
   ·rw[if_neg c2];refine ih _ _ (by omega) (by omega) (by omega) h4 (fun a ha hl=>?_);by_cases e2:a=(lo+hi)/2
    ·subst e2;omega
    ·have:=h.get (i:=(lo+hi)/2) (j:=a) (by omega) (by simpa using ha);simp only[aw]at this;omega
  ·rw[if_neg c];exact⟨lo,rfl,by omega,h4,fun a ha hl=>h5 a ha (by omega)⟩
theorem Qo{xs:Array Nat}(h:Ris xs.toList)(j:Nat):below xs j<=xs.size/\(∀ a (ha:a<xs.size),a<below xs j->xs[a]<j)/\(∀ a (ha:a<xs.size),below xs j<=a->j<=xs[a]):=by
 obtain⟨r,e,h1,h2,h3⟩:=ZiF h j xs.size 0 xs.size (by omega) (by omega) (A7 _) (fun a _ hl=>by omega) (fun a ha hl=>by omega);have e':below xs j=r:=e;rw[e'];exact⟨h1,h2,h3⟩
theorem Za0{xs:Array Nat}(h:Ris xs.toList){i:Nat}(hi:i<xs.size):below xs xs[i]=i:=by
 obtain⟨h1,h2,h3⟩:=Qo h xs[i];rcases Nat.lt_trichotomy (below xs xs[i]) i with c | c | c
 ·have a:=h3 (below xs xs[i]) (by omega) (A7 _);have b:=h.get (i:=below xs xs[i]) (j:=i) c (by simpa using hi);simp only[aw]at b;omega
 ·exact c
 ·have:=h2 i hi c;omega
theorem Uy{t:SetTable}(h:Ris t.place.toList){i:Nat}(hi:i<t.place.size):t.slot t.place[i]=.live i:=by
 unfold slot;simp only[Za0 h hi];have:t.place[i]?=some t.place[i]:=by simp[hi]
 rw[this];simp
theorem Zfk{t:SetTable}(h:Ris t.place.toList)(hd:t.dummies=#[]){j:Nat}(hj:j ∉ t.place.toList):t.slot j=.empty:=by
 unfold slot;have n1:¬ (t.place[below t.place j]?==some j)=true:=by
  intro e;have e':t.place[below t.place j]?=some j:=by simpa using e
  obtain⟨hl,e2⟩:=b7.mp e';exact hj (by rw[<-e2];exact Array.getElem_mem_toList hl)
 simp only[if_neg n1];have n2:has t.dummies j=false:=by rw[hd];simp[has]
 rw[n2];simp
def adv(mask:Nat)(p:Probe):Probe:=
 if p.more>0 then {p with j:=p.j+1,more:=p.more-1} else
 {p with j:=(leap mask p.i p.perturb).1,more:=runEnd mask (leap mask p.i p.perturb).1-(leap mask p.i p.perturb).1,i:=(leap mask p.i p.perturb).1,perturb:=(leap mask p.i p.perturb).2}
theorem ZeX(t:SetTable)(p:Probe):t.advance p=adv t.mask p:=rfl
noncomputable def st(mask:Nat)(h:Int):Probe:={j:=bits h%(mask+1),more:=runEnd mask (bits h%(mask+1))-bits h%(mask+1),i:=bits h%(mask+1),perturb:=bits h,dummy:=none}
noncomputable def nth(mask:Nat)(p:Probe):Nat->Probe
 | 0=>p
 | k+1=>adv mask (nth mask p k)
theorem Js(mask:Nat)(p:Probe)(a:Nat):∀ b,nth mask p (a+b)=nth mask (nth mask p a) b
 | 0=>rfl
 | b+1=>by show adv mask (nth mask p (a+b))=adv mask (nth mask (nth mask p a) b);rw[Js mask p a b]
structure Run(mask:Nat)(p:Probe):Prop where
 il:p.i<=mask
 jm:p.j+p.more=runEnd mask p.i
 ij:p.i<=p.j
 dn:p.dummy=none
theorem Qc{mask i:Nat}(h:i<=mask):i<=runEnd mask i/\runEnd mask i<=mask/\runEnd mask i<=i+9:=by unfold runEnd;split<;>omega
theorem Run.adv{mask:Nat}{p:Probe}(h:Run mask p):Run mask (adv mask p):=by
 unfold SetTab.adv;have r:=Qc h.il;by_cases c:p.more>0
 ·rw[if_pos c];exact⟨h.il,by have:=h.jm;simp only;omega,by have:=h.ij;simp only;omega,h.dn⟩
 ·rw[if_neg c];have l:(leap mask p.i p.perturb).1<=mask:=by unfold leap;have:=Nat.mod_lt (p.i*5+1+p.perturb/32) (show 0<mask+1 by omega);simp only;omega
  have r2:=Qc l;exact⟨l,by simp only;omega,A7 _,h.dn⟩
theorem Run.nth{mask:Nat}{p:Probe}(h:Run mask p):∀ k,Run mask (nth mask p k)
 | 0=>h
 | k+1=>(Run.nth h k).adv
theorem Run.jle{mask:Nat}{p:Probe}(h:Run mask p):p.j<=mask:=by have:=Qc h.il;have:=h.jm;omega
theorem Run.st(mask:Nat)(h:Int):Run mask (st mask h):=by
 have l:bits h%(mask+1)<=mask:=by have:=Nat.mod_lt (bits h) (show 0<mask+1 by omega);omega
 have r:=Qc l;exact⟨l,by show _+_=_;simp only[SetTab.st];omega,A7 _,rfl⟩
theorem Zcz{mask:Nat}:∀(k:Nat) {p:Probe},Run mask p->k<=p.more->nth mask p k={p with j:=p.j+k,more:=p.more-k}
 | 0,p,_,_=>rfl
 | k+1,p,h,hk=>by
  show SetTab.adv mask (nth mask p k)=_;rw[Zcz k h (by omega)];unfold SetTab.adv;rw[if_pos (by simp only;omega)];simp only[Probe.mk.injEq,and_true,true_and];omega
theorem ZaB{mask:Nat}{p:Probe}(h:Run mask p):nth mask p (p.more+1) =
  {p with j:=(leap mask p.i p.perturb).1,more:=runEnd mask (leap mask p.i p.perturb).1-(leap mask p.i p.perturb).1,i:=(leap mask p.i p.perturb).1,perturb:=(leap mask p.i p.perturb).2}:=by
 show SetTab.adv mask (nth mask p p.more)=_;rw[Zcz p.more h (A7 _)];unfold SetTab.adv;rw[if_neg (by simp)]
def lcg(M i:Nat):Nat:=(i*5+1)%M
def Wv(M i:Nat):Nat->Nat
 | 0=>i
 | k+1=>lcg M (Wv M i k)
theorem ZnL{mask:Nat}:∀(m:Nat) {p:Probe},Run mask p->p.perturb=0->∃ k,k<=10*m/\Run mask (nth mask p k)/\(nth mask p k).i=Wv (mask+1) p.i m/\(nth mask p k).perturb=0/\(0<m->(nth mask p k).j=(nth mask p k).i)
 | 0,p,h,e=>⟨0,by omega,h,rfl,e,by omega⟩
 | m+1,p,h,e=>by
  obtain⟨k,hk,r,ei,ep,_⟩:=ZnL m h e;refine⟨k+((nth mask p k).more+1),?_,Run.nth h _,?_⟩
  ·have:=Qc r.il;have:=r.jm;have:=r.ij;omega
  ·rw[Js,ZaB r];simp only[leap,ep,ei];refine⟨?_,by simp,fun _=>trivial⟩;show(Wv (mask+1) p.i m*5+1+0/32)%(mask+1)=lcg (mask+1) (Wv (mask+1) p.i m);unfold lcg;simp
theorem Zog{mask:Nat}:∀(m:Nat) {p:Probe},Run mask p->p.perturb<32 ^ m->∃ k,k<=10*m/\Run mask (nth mask p k)/\(nth mask p k).perturb=0
 | 0,p,h,e=>⟨0,by omega,h,by simp at e;exact e⟩
 | m+1,p,h,e=>by
  have lp:(nth mask p (p.more+1)).perturb=p.perturb/32:=by rw[ZaB h];rfl
  have hr:=Run.nth h (p.more+1);obtain⟨k,hk,r,ep⟩:=Zog m hr (by rw[lp];exact Nat.div_lt_of_lt_mul (by rw[Nat.pow_succ]at e;omega));refine⟨(p.more+1)+k,?_,by rw[Js];exact r,by rw[Js];exact ep⟩;have:=Qc h.il;have:=h.jm;have:=h.ij;omega
def Ze1(mask:Nat):Prop:=∀ i,i<=mask->∀ j,j<=mask->∃ m,0<m/\m<=mask+1/\Wv (mask+1) i m=j
theorem ZnR{mask:Nat}(F:Ze1 mask){p:Probe}(h:Run mask p)(hp:p.perturb<2 ^ 64){s:Nat}(hs:s<=mask):∃ k,k<10*turns mask/\(nth mask p k).j=s:=by
 obtain⟨k1,h1,r1,e1⟩:=Zog 13 h (Aj hp (by decide));obtain⟨m,m0,m1,em⟩:=F _ r1.il s hs;obtain⟨k2,h2,r2,ei,_,ej⟩:=ZnL m r1 e1;refine⟨k1+k2,?_,?_⟩
 ·unfold turns;omega
 ·rw[Js,ej m0,ei,em]
theorem Zg9(h:Int):bits h<2 ^ 64:=by
 unfold bits;have:=Ag h (show(0:Int)<2 ^ 64 by decide);have:=Ah h (show(2 ^ 64:Int)≠0 by decide);omega
def ZfS(M:Nat):Nat->Nat->List Nat
 | 0,_=>[]
 | k+1,i=>i::ZfS M k (lcg M i)
theorem Zbw(M i:Nat):∀ k,Wv M i (k+1)=Wv M (lcg M i) k
 | 0=>rfl
 | k+1=>by show lcg M (Wv M i (k+1))=lcg M (Wv M (lcg M i) k);rw[Zbw M i k]
def ZnJ(mask:Nat):Bool:=((List.range (mask+1)).all fun j=>(ZfS (mask+1) (mask+1) 0).contains j)&&Wv (mask+1) 0 (mask+1)==0
theorem Zbt(M:Nat):∀(k i j:Nat),j∈ZfS M k i->∃ m,m<k/\Wv M i m=j
 | 0,i,j,h=>by simp[ZfS]at h
 | k+1,i,j,h=>by
  unfold ZfS at h;rcases A4.mp h with e | h
  ·exact⟨0,by omega,e.symm⟩
  ·obtain⟨m,hm,e⟩:=Zbt M k _ _ h;exact⟨m+1,by omega,by rw[Zbw];exact e⟩
theorem Vy(M i a:Nat):∀ b,Wv M i (a+b)=Wv M (Wv M i a) b
 | 0=>rfl
 | b+1=>by show lcg M (Wv M i (a+b))=lcg M (Wv M (Wv M i a) b);rw[Vy M i a b]
theorem ZcK{mask:Nat}(h:ZnJ mask=true):Ze1 mask:=by
 have hh:=Ad.mp h;have h0:Wv (mask+1) 0 (mask+1)=0:=by simpa using hh.2
 have get:∀ j,j<=mask->∃ m,m<mask+1/\Wv (mask+1) 0 m=j:=fun j hj=>by
  have h2:=aa.mp hh.1 j (Ae.mpr (by omega));exact Zbt _ _ _ _ (List.contains_iff_mem.mp h2)
 intro i hi j hj;obtain⟨a,ha,ea⟩:=get i hi;obtain⟨b,hb,eb⟩:=get j hj;by_cases c:a<b
 ·refine⟨b-a,by omega,by omega,?_⟩;rw[<-ea,<-Vy,show a+(b-a)=b by omega,eb]
 ·refine⟨mask+1-a+b,by omega,by omega,?_⟩;rw[<-ea,<-Vy,show a+(mask+1-a+b)=(mask+1)+b by omega,Vy,h0,eb]
theorem Zmw:Ze1 7:=ZcK (by decide +kernel)
theorem Zmx:Ze1 31:=ZcK (by decide +kernel)
theorem Zkr:Ze1 127:=ZcK (by decide +kernel)
def Reach(mask:Nat)(L:List Nat)(h:Int)(s:Nat):Prop:=∃ k,(nth mask (st mask h) k).j=s/\∀ k',k'<k->(nth mask (st mask h) k').j∈L
theorem Reach.mono{mask:Nat}{L L':List Nat}{h:Int}{s:Nat}(r:Reach mask L h s)(hs:∀ x∈L,x∈L'):Reach mask L' h s:=
 let ⟨k,e,a⟩:=r;⟨k,e,fun k' hk=>hs _ (a k' hk)⟩
structure TI{α:Type}(t:SetTable)(es:Array (Int×α)):Prop where
 size:t.place.size=es.size
 dm:t.dummies=#[]
 ris:Ris t.place.toList
 le:∀ s∈t.place.toList,s<=t.mask
 full:Ze1 t.mask
 room:es.size<=t.mask
 odd:t.mask%2=1
 reach:∀ i (h1:i<t.place.size) (h2:i<es.size),Reach t.mask t.place.toList es[i].1 t.place[i]
theorem Ris.nodup{xs:List Nat}(h:Ris xs):xs.Nodup:=List.Pairwise.imp (fun h=>Am h) h
theorem W1{L:List Nat}{mask:Nat}(nd:L.Nodup)(hl:L.length<=mask):∃ s,s<=mask/\s ∉ L:=by
 apply A1;intro h;have all:∀ s,s<=mask->s∈L:=fun s hs=>A1 fun n=>h ⟨s,hs,n⟩;have:(List.range (mask+1)).length<=L.length:=by
  have pm:(List.range (mask+1)).Perm (L.filter fun s=>decide (s<=mask)):=(List.perm_ext_iff_of_nodup List.nodup_range (nd.sublist List.filter_sublist)).mpr fun a=>by
   rw[Ae,List.mem_filter];exact⟨fun h=>⟨all a (by omega),by simp;omega⟩,fun h=>by have:=h.2;simp at this;omega⟩
  rw[pm.length_eq];exact List.length_filter_le _ _
 rw[List.length_range]at this;omega
theorem Zez{L:List Nat}{mask:Nat}(F:Ze1 mask)(nd:L.Nodup)(hl:L.length<=mask){p:Probe}(h:Run mask p)(hp:p.perturb<2 ^ 64):
  ∃ m,m<10*turns mask/\(nth mask p m).j ∉ L/\∀ m',m'<m->(nth mask p m').j∈L:=by
 obtain⟨s,hs,ns⟩:=W1 nd hl;obtain⟨k,hk,e⟩:=ZnR F h hp hs;have ex:∃ m,(nth mask p m).j ∉ L:=⟨k,by rw[e];exact ns⟩;have dec:∀ b:Nat,(∀ m',m'<b->(nth mask p m').j∈L)\/∃ m,m<b/\(nth mask p m).j ∉ L/\∀ m',m'<m->(nth mask p m').j∈L:=by
  intro b
  induction b with
  | zero=>left;intro m' h;omega
  | succ b ih=>
   rcases ih with ih | ⟨m,h1,h2,h3⟩
   ·by_cases c:(nth mask p b).j∈L
    ·left;intro m' hm;by_cases e:m'=b
     ·rw[e];exact c
     ·exact ih m' (by omega)
    ·right;exact⟨b,by omega,c,ih⟩
   ·right;exact⟨m,by omega,h2,h3⟩
 rcases dec (k+1) with h1 | ⟨m,h1,h2,h3⟩
 ·have:=h1 k (by omega);rw[e]at this;exact absurd this ns
 ·exact⟨m,by omega,h2,h3⟩
theorem ZhS{α:Type}{t:SetTable}{es:Array (Int×α)}(I:TI t es)(hashAt:Nat->Int)(h:Int):∀(m:Nat) {p:Probe} {fuel:Nat},Run t.mask p->m<fuel->(nth t.mask p m).j ∉ t.place.toList->(∀ m',m'<m->(nth t.mask p m').j∈t.place.toList) ->
  (probe.go t hashAt h fuel p=some (.empty (nth t.mask p m).j none)/\∀ m',m'<m->∀ i (hi:i<t.place.size),t.place[i]=(nth t.mask p m').j->hashAt i≠h) \/
  (∃ m1 i,m1<m/\∃ hi:i<t.place.size,t.place[i]=(nth t.mask p m1).j/\hashAt i=h/\probe.go t hashAt h fuel p=some (.candidate (nth t.mask p m1).j i (nth t.mask p (m1+1))) /\
   ∀ m',m'<m1->∀ i (hi:i<t.place.size),t.place[i]=(nth t.mask p m').j->hashAt i≠h):=by
 intro m
 induction m with
 | zero=>
  intro p fuel r hf he ha;obtain⟨f,rfl⟩:∃ f,fuel=f+1:=⟨fuel-1,by omega⟩;left;refine⟨?_,fun m' h=>by omega⟩;unfold probe.go;have e:t.slot p.j=.empty:=Zfk I.ris I.dm he;rw[e];show some (Met.empty p.j p.dummy)=_;rw[r.dn];rfl
 | succ m ih=>
  intro p fuel r hf he ha;obtain⟨f,rfl⟩:∃ f,fuel=f+1:=⟨fuel-1,by omega⟩;have hl:p.j∈t.place.toList:=ha 0 (by omega);obtain⟨i,hi,ei⟩:=Bn.mp hl;have hi':i<t.place.size:=by simpa using hi
  have ei':t.place[i]=p.j:=by simpa using ei
  have es:t.slot p.j=.live i:=by rw[<-ei'];exact Uy I.ris hi'
  have sh:∀ q,nth t.mask p (q+1)=nth t.mask (adv t.mask p) q:=fun q=>by rw[Nat.add_comm,Js];rfl
  unfold probe.go;rw[es];dsimp only;by_cases c:hashAt i=h
  ·right;refine⟨0,i,by omega,hi',ei',c,?_,fun m' h=>by omega⟩;rw[if_pos (by simpa using c)];rfl
  ·rw[if_neg (by simpa using c)];have uniq:∀ i2 (hi2:i2<t.place.size),t.place[i2]=p.j->i2=i:=fun i2 hi2 e2=>by
    have a:=Za0 I.ris hi2;have b:=Za0 I.ris hi';rw[e2]at a;rw[ei']at b;rw[<-a,b]
   rw[ZeX];rcases ih (p:=adv t.mask p) (fuel:=f) r.adv (by omega) (by rw[<-sh];exact he) (fun m' hm=>by rw[<-sh];exact ha _ (by omega)) with⟨e,n⟩ | ⟨m1,i1,h1,hi1,e1,e2,e3,n⟩
   ·left;refine⟨by rw[e,sh],fun m' hm i2 hi2 e2=>?_⟩;cases m' with
    | zero=>have:=uniq i2 hi2 e2;rw[this];exact c
    | succ m'=>exact n m' (by omega) i2 hi2 (by rw[e2,sh])
   ·right;refine⟨m1+1,i1,by omega,hi1,by rw[e1,sh],e2,by rw[e3,sh,sh],fun m' hm i2 hi2 e2=>?_⟩;cases m' with
    | zero=>have:=uniq i2 hi2 e2;rw[this];exact c
    | succ m'=>exact n m' (by omega) i2 hi2 (by rw[e2,sh])
theorem toList_insertAt{α:Type}(xs:Array α)(p:Nat)(x:α):(insertAt xs p x).toList=xs.toList.take p++x::xs.toList.drop p:=by
 unfold insertAt;simp[List.take_of_length_le]
theorem Zek{xs:Array Nat}(h:Ris xs.toList){j:Nat}(hj:j ∉ xs.toList):Ris (insertAt xs (below xs j) j).toList:=by
 rw[toList_insertAt];obtain⟨h1,h2,h3⟩:=Qo h j;unfold Ris;rw[bc];refine⟨h.sublist (List.take_sublist _ _),?_,?_⟩
 ·refine List.Pairwise.cons (fun b hb=>?_) (h.sublist (List.drop_sublist _ _));obtain⟨i,hi,e⟩:=Bn.mp hb;rw[List.getElem_drop]at e;simp only[List.length_drop,Ba]at hi;have:=h3 (below xs j+i) (by omega) (by omega);have ne:b≠j:=fun z=>hj (z ▸ List.mem_of_mem_drop hb);simp only[aw]at e;omega
 ·intro a ha b hb;obtain⟨i,hi,e⟩:=Bn.mp ha;rw[List.getElem_take]at e;simp only[C4,Ba]at hi;have l1:=h2 i (by omega) (by omega);simp only[aw]at e;rcases A4.mp hb with rfl | hb
  ·omega
  ·obtain⟨i2,hi2,e2⟩:=Bn.mp hb;rw[List.getElem_drop]at e2;simp only[List.length_drop,Ba]at hi2;have:=h3 (below xs j+i2) (by omega) (by omega);simp only[aw]at e2;omega
theorem WR{α:Type}(xs:Array α)(p:Nat)(x y:α):y∈(insertAt xs p x).toList ↔ y=x\/y∈xs.toList:=by
 rw[toList_insertAt,Bk,A4];constructor
 ·rintro(h | h | h)
  ·exact .inr (List.mem_of_mem_take h)
  ·exact .inl h
  ·exact .inr (List.mem_of_mem_drop h)
 ·rintro(h | h)
  ·exact .inr (.inl h)
  ·rw[<-B1 p xs.toList]at h;rcases Bk.mp h with h | h
   ·exact .inl h
   ·exact .inr (.inr h)
theorem Zcq{α:Type}(xs:Array α)(p:Nat)(x:α):(insertAt xs p x).toList.Perm (x::xs.toList):=by
 rw[toList_insertAt];refine List.perm_middle.trans ?_;rw[B1]
theorem Qq{α:Type}(xs:Array α)(p:Nat)(x:α):(insertAt xs p x).size=xs.size+1:=by
 have:=(Zcq xs p x).length_eq;simpa using this
theorem Zey{α β:Type}(xs:Array α)(ys:Array β)(hs:xs.size=ys.size)(p:Nat)(hp:p<=xs.size)(x:α)(y:β){i:Nat}(h1:i<(insertAt xs p x).size)(h2:i<(insertAt ys p y).size):
  ((insertAt xs p x)[i]=x/\(insertAt ys p y)[i]=y)\/∃(k:Nat) (k1:k<xs.size) (k2:k<ys.size),(insertAt xs p x)[i]=xs[k]/\(insertAt ys p y)[i]=ys[k]:=by
 have gx:(insertAt xs p x)[i]=(xs.toList.take p++x::xs.toList.drop p)[i]'(by rw[<-toList_insertAt];simpa using h1):=by
  rw[<-aw];congr 1;exact toList_insertAt xs p x
 have gy:(insertAt ys p y)[i]=(ys.toList.take p++y::ys.toList.drop p)[i]'(by rw[<-toList_insertAt];simpa using h2):=by
  rw[<-aw];congr 1;exact toList_insertAt ys p y
 have lx:(xs.toList.take p).length=p:=by simp;omega
 have ly:(ys.toList.take p).length=p:=by simp;omega
 rw[gx,gy];rcases Nat.lt_trichotomy i p with c | c | c
 ·right;refine⟨i,by omega,by omega,?_,?_⟩
  ·rw[Bx (by omega)];simp
  ·rw[Bx (by omega)];simp
 ·left;subst c;constructor
  ·rw[B5 (by omega)];simp[lx]
  ·rw[B5 (by omega)];simp[ly]
 ·right;have z1:=Qq xs p x;refine⟨i-1,by omega,by omega,?_,?_⟩
  ·rw[B5 (by omega)];simp only[lx];obtain⟨q,hq⟩:∃ q,i-p=q+1:=⟨i-p-1,by omega⟩;simp only[hq,List.getElem_cons_succ,List.getElem_drop,aw]
   congr 1;omega
  ·rw[B5 (by omega)];simp only[ly];obtain⟨q,hq⟩:∃ q,i-p=q+1:=⟨i-p-1,by omega⟩;simp only[hq,List.getElem_cons_succ,List.getElem_drop,aw]
   congr 1;omega
theorem TI.put{α:Type}{t:SetTable}{es:Array (Int×α)}(I:TI t es){h:Int}{x:α}{m:Nat}(hf:(nth t.mask (st t.mask h) m).j ∉ t.place.toList)(ha:∀ m',m'<m->(nth t.mask (st t.mask h) m').j∈t.place.toList)(hz:es.size+1<=t.mask):
  TI (t.put (nth t.mask (st t.mask h) m).j).1 (insertAt es (t.put (nth t.mask (st t.mask h) m).j).2 (h,x)):=by
 have hd:has t.dummies (nth t.mask (st t.mask h) m).j=false:=by rw[I.dm];simp[has]
 have e:t.put (nth t.mask (st t.mask h) m).j=({t with place:=insertAt t.place (below t.place (nth t.mask (st t.mask h) m).j) (nth t.mask (st t.mask h) m).j},below t.place (nth t.mask (st t.mask h) m).j):=by
  unfold SetTable.put;rw[hd];rfl
 rw[e];obtain⟨b1,_,_⟩:=Qo I.ris (nth t.mask (st t.mask h) m).j;refine⟨?_,I.dm,Zek I.ris hf,fun s hs=>?_,I.full,?_,I.odd,fun i h1 h2=>?_⟩
 ·show(insertAt _ _ _).size=(insertAt _ _ _).size;rw[Qq,Qq,I.size]
 ·rcases(WR _ _ _ _).mp hs with rfl | hs
  ·exact((Run.st t.mask h).nth m).jle
  ·exact I.le s hs
 ·rw[Qq];exact hz
 ·have sub:∀ y∈t.place.toList,y∈(insertAt t.place (below t.place (nth t.mask (st t.mask h) m).j) (nth t.mask (st t.mask h) m).j).toList:=fun y hy=>(WR _ _ _ _).mpr (.inr hy);rcases Zey t.place es I.size (below t.place (nth t.mask (st t.mask h) m).j) b1 (nth t.mask (st t.mask h) m).j (h,x) h1 h2 with⟨e1,e2⟩ | ⟨k,k1,k2,e1,e2⟩
  ·show Reach t.mask _ _ _;rw[e1,e2];exact⟨m,rfl,fun m' hm=>sub _ (ha m' hm)⟩
  ·show Reach t.mask _ _ _;rw[e1,e2];exact(I.reach k k1 k2).mono sub
noncomputable def lp(mask:Nat)(p:Probe):Probe:=nth mask p (p.more+1)
noncomputable def rs(mask:Nat)(p:Probe):Nat->Probe
 | 0=>p
 | r+1=>lp mask (rs mask p r)
theorem Zfy(mask:Nat)(p:Probe):∀ r,rs mask p (r+1)=rs mask (lp mask p) r
 | 0=>rfl
 | r+1=>by show lp mask (rs mask p (r+1))=lp mask (rs mask (lp mask p) r);rw[Zfy mask p r]
structure RunS(mask:Nat)(p:Probe):Prop extends Run mask p where
 ji:p.j=p.i
theorem RunS.lp{mask:Nat}{p:Probe}(h:RunS mask p):RunS mask (lp mask p)/\(SetTab.lp mask p).perturb=p.perturb/32/\(SetTab.lp mask p).i=(p.i*5+1+p.perturb/32)%(mask+1):=by
 have e:=ZaB h.toRun;have r:=Run.nth h.toRun (p.more+1);unfold SetTab.lp;rw[e]at r ⊢;exact⟨⟨r,rfl⟩,rfl,rfl⟩
theorem RunS.rs{mask:Nat}{p:Probe}(h:RunS mask p):∀ r,RunS mask (rs mask p r)/\(SetTab.rs mask p r).perturb=p.perturb/32 ^ r
 | 0=>⟨h,by simp[SetTab.rs]⟩
 | r+1=>by
  obtain⟨h1,h2⟩:=RunS.rs h r;obtain⟨l1,l2,_⟩:=h1.lp;refine⟨l1,?_⟩;show(SetTab.lp mask (SetTab.rs mask p r)).perturb=_;rw[l2,h2,Nat.div_div_eq_div_mul,Nat.pow_succ]
theorem rs0{mask:Nat}{p:Probe}(h:RunS mask p)(hp:p.perturb=0):∀ m,(rs mask p m).i=Wv (mask+1) p.i m
 | 0=>rfl
 | m+1=>by
  obtain⟨h1,h2⟩:=h.rs m;obtain⟨_,_,l3⟩:=h1.lp;show(SetTab.lp mask (SetTab.rs mask p m)).i=_;rw[l3,rs0 h hp m,h2,hp];simp[Wv,lcg]
theorem ZiV(mask:Nat)(p:Probe)(a:Nat):∀ b,rs mask p (a+b)=rs mask (rs mask p a) b
 | 0=>rfl
 | b+1=>by show lp mask (rs mask p (a+b))=lp mask (rs mask (rs mask p a) b);rw[ZiV mask p a b]
theorem ZeK{mask:Nat}(F:Ze1 mask){p:Probe}(h:RunS mask p)(hp:p.perturb<2 ^ 64){s:Nat}(hs:s<=mask):∃ r,r<turns mask/\(rs mask p r).i=s:=by
 obtain⟨h1,h2⟩:=h.rs 13;have z:(rs mask p 13).perturb=0:=by rw[h2];exact Nat.div_eq_of_lt (Aj hp (by decide))
 obtain⟨m,m0,m1,em⟩:=F _ h1.il s hs;exact⟨13+m,by unfold turns;omega,by rw[ZiV,rs0 h1 z,em]⟩
theorem RunS.st(mask:Nat)(h:Int):RunS mask (st mask h):=⟨Run.st mask h,rfl⟩
theorem Zgs{mask:Nat}{owner:Array (Option Nat)}{L:List Nat}(hL:∀ s,s<=mask->((owner.getD s (some 0)).isNone=true ↔ s ∉ L)):
  ∀(r:Nat) {p:Probe} {fuel:Nat},RunS mask p->r<fuel->(rs mask p r).i ∉ L ->
   ∃ m,layClean.free mask owner fuel p.i p.perturb=some (nth mask p m).j/\(nth mask p m).j ∉ L/\∀ m',m'<m->(nth mask p m').j∈L:=by
 intro r
 induction r with
 | zero=>
  intro p fuel h hf hn;obtain⟨f,rfl⟩:∃ f,fuel=f+1:=⟨fuel-1,by omega⟩;have hn':p.i ∉ L:=hn;unfold layClean.free;have e:(List.range (runEnd mask p.i+1-p.i)).find? (fun k=>(owner.getD (p.i+k) (some 0)).isNone)=some 0:=by
   rw[List.find?_range_eq_some];have:=Qc h.il;exact⟨(hL _ (by have:=h.il;omega)).mpr (by simpa using hn'),Ae.mpr (by omega),fun j hj=>by omega⟩
  rw[e];refine⟨0,by show some (p.i+0)=some p.j;rw[h.ji];rfl,by show p.j ∉ L;rw[h.ji];exact hn',fun m' hm=>by omega⟩
 | succ r ih=>
  intro p fuel h hf hn;obtain⟨f,rfl⟩:∃ f,fuel=f+1:=⟨fuel-1,by omega⟩;have re:=Qc h.il;have jm:=h.jm;have ji:=h.ji;have inrun:∀ k,k<=p.more->(nth mask p k).j=p.i+k:=fun k hk=>by rw[Zcz k h.toRun hk,<-ji]
  unfold layClean.free;cases e:(List.range (runEnd mask p.i+1-p.i)).find? (fun k=>(owner.getD (p.i+k) (some 0)).isNone) with
  | some k=>
   rw[List.find?_range_eq_some]at e;obtain⟨e1,e2,e3⟩:=e;have hk:k<=p.more:=by have:=Ae.mp e2;omega
   refine⟨k,by show some (p.i+k)=_;rw[inrun k hk],?_,fun m' hm=>?_⟩
   ·rw[inrun k hk];exact(hL _ (by omega)).mp e1
   ·rw[inrun m' (by omega)];have:=e3 m' hm;apply A1;intro z;have:=(hL (p.i+m') (by omega)).mpr z;simp[this]at e3;have:=e3 m' hm;simp_all
  | none=>
   have all:∀ k,k<=p.more->p.i+k∈L:=fun k hk=>by
    rw[List.find?_eq_none]at e;have:=e k (Ae.mpr (by omega));apply A1;intro z;exact this ((hL _ (by omega)).mpr z)
   obtain⟨l1,l2,l3⟩:=h.lp;have hl:(leap mask p.i p.perturb)=((lp mask p).i,(lp mask p).perturb):=by rw[l2,l3];rfl
   obtain⟨m,em,en,ea⟩:=ih (p:=lp mask p) (fuel:=f) l1 (by omega) (by rw[<-Zfy];exact hn);have sh:∀ q,nth mask p (p.more+1+q)=nth mask (lp mask p) q:=fun q=>Js mask p (p.more+1) q;refine⟨p.more+1+m,?_,by rw[sh];exact en,fun m' hm=>?_⟩
   ·show(match leap mask p.i p.perturb with | (i,perturb)=>layClean.free mask owner f i perturb)=_;rw[hl];show layClean.free mask owner f (lp mask p).i (lp mask p).perturb=_;rw[em,sh]
   ·by_cases c:m'<=p.more
    ·rw[inrun m' c];exact all m' c
    ·obtain⟨q,rfl⟩:∃ q,m'=p.more+1+q:=⟨m'-(p.more+1),by omega⟩;rw[sh];exact ea q (by omega)
structure LC(mask:Nat)(hs:List Int)(owner:Array (Option Nat))(S:List Nat):Prop where
 osz:owner.size=mask+1
 nd:S.Nodup
 le:∀ s∈S,s<=mask
 at_:∀ i (hi:i<S.length),owner[S[i]]?=some (some i)
 off:∀ s,s<=mask->s ∉ S->owner[s]?=some none
 reach:∀ i (hi:i<S.length) (hi2:i<hs.length),Reach mask S hs[i] S[i]
theorem LC.none_iff{mask:Nat}{hs:List Int}{owner:Array (Option Nat)}{S:List Nat}(I:LC mask hs owner S)(s:Nat)(h:s<=mask):((owner.getD s (some 0)).isNone=true ↔ s ∉ S):=by
 have hb:s<owner.size:=by rw[I.osz];omega
 have e:owner.getD s (some 0)=owner[s]:=by simp[Array.getD,hb]
 rw[e];constructor
 ·intro z hm;obtain⟨i,hi,ei⟩:=Bn.mp hm;have:=I.at_ i hi;rw[ei,Av hb]at this;have:=Option.some.inj this;rw[this]at z;simp at z
 ·intro hn;have:=I.off s h hn;rw[Av hb]at this;rw[Option.some.inj this];rfl
theorem LC.next{mask:Nat}(F:Ze1 mask){hs:List Int}{owner:Array (Option Nat)}{S:List Nat}(I:LC mask hs owner S)(hz:S.length<hs.length)(hr:S.length<=mask):
  ∃ j,layClean.free mask owner (turns mask) (bits hs[S.length]%(mask+1)) (bits hs[S.length])=some j/\LC mask hs (owner.setIfInBounds j (some S.length)) (S++[j]):=by
 obtain⟨s,h1,h2⟩:=W1 I.nd hr;obtain⟨r,r1,r2⟩:=ZeK F (RunS.st mask hs[S.length]) (Zg9 _) h1;obtain⟨m,e,n,a⟩:=Zgs (L:=S) (I.none_iff) r (RunS.st mask hs[S.length]) r1 (by rw[r2];exact h2);refine⟨_,e,?_⟩;have jl:(nth mask (st mask hs[S.length]) m).j<=mask:=((Run.st mask _).nth m).jle;refine⟨by simp[I.osz],?_,?_,?_,?_,?_⟩
 ·rw[List.nodup_append];refine⟨I.nd,by simp,fun x hx y hy=>?_⟩;rw[A0]at hy;subst hy;intro z;exact n (z ▸ hx)
 ·intro x hx;rcases Bk.mp hx with hx | hx
  ·exact I.le x hx
  ·rw[A0]at hx;subst hx;exact jl
 ·intro i hi;by_cases c:i<S.length
  ·rw[Bx c,Array.getElem?_setIfInBounds_ne]
   ·exact I.at_ i c
   ·intro z;exact n (by rw[z];exact C6 c)
  ·have e:i=S.length:=by simp at hi;omega
   subst e;rw[B5 (A7 _)];simp only[Nat.sub_self,List.getElem_cons_zero];rw[Array.getElem?_setIfInBounds_self_of_lt (by rw[I.osz];omega)]
 ·intro s hs hn;rw[Array.getElem?_setIfInBounds_ne]
  ·exact I.off s hs (fun z=>hn (bv _ z))
  ·intro z;exact hn (by rw[z];simp)
 ·intro i hi hi2;by_cases c:i<S.length
  ·rw[Bx c];exact(I.reach i c hi2).mono fun x hx=>bv _ hx
  ·have e:i=S.length:=by simp at hi;omega
   subst e;rw[B5 (A7 _)];simp only[Nat.sub_self,List.getElem_cons_zero];exact⟨m,rfl,fun m' hm=>bv _ (a m' hm)⟩
theorem Zh7{mask:Nat}(F:Ze1 mask){hs:List Int}(hr:hs.length<=mask):∀(n:Nat) {owner:Array (Option Nat)} {S:List Nat},S.length+n=hs.length->LC mask hs owner S ->
  ∃ owner' S',(hs.drop S.length).foldl (fun acc h=>do
   let (owner,k) <- acc
   let j <- layClean.free mask owner (turns mask) (bits h%(mask+1)) (bits h)
   pure (owner.setIfInBounds j (some k),k+1)) (some (owner,S.length))=some (owner',S'.length)/\S'.length=hs.length/\LC mask hs owner' S':=by
 intro n
 induction n with
 | zero=>
  intro owner S e I;rw[ah (by omega)];exact⟨owner,S,rfl,by omega,I⟩
 | succ n ih=>
  intro owner S e I;have hl:S.length<hs.length:=by omega
  rw[Aq hl,List.foldl_cons];obtain⟨j,ej,I'⟩:=I.next F hl (by omega);have step:(do
   let (owner,k) <- some (owner,S.length)
   let j <- layClean.free mask owner (turns mask) (bits hs[S.length]%(mask+1)) (bits hs[S.length])
   pure (owner.setIfInBounds j (some k),k+1))=some (owner.setIfInBounds j (some S.length),(S++[j]).length):=by
   show(do
    let j <- layClean.free mask owner (turns mask) (bits hs[S.length]%(mask+1)) (bits hs[S.length])
    pure (owner.setIfInBounds j (some S.length),S.length+1))=_
   rw[ej];simp
  rw[step];have:=ih (S:=S++[j]) (by simp;omega) I';have e2:(S++[j]).length=S.length+1:=by simp
  rw[e2]at this ⊢;exact this
theorem ZcE{mask:Nat}(F:Ze1 mask)(hs:Array Int)(hr:hs.size<=mask):∃ owner S,layClean mask hs=some owner/\S.length=hs.size/\LC mask hs.toList owner S:=by
 have I0:LC mask hs.toList (Array.replicate (mask+1) none) []:=⟨by simp,Ch,fun s h=>by simp at h,fun i h=>by simp at h,fun s h _=>by simp[Array.getElem?_replicate];omega,fun i h=>by simp at h⟩;obtain⟨owner',S',e,el,I⟩:=Zh7 F (hs:=hs.toList) (by simpa using hr) hs.size (S:=[]) (by simp) I0;refine⟨owner',S',?_,by simpa using el,I⟩;unfold layClean;rw[<-Array.foldl_toList];simp only[C_,List.drop_zero]at e;rw[e];rfl
theorem Zke{α:Type}{mask finger moves:Nat}{led plain:Bool}(F:Ze1 mask)(hodd:mask%2=1)(es:Array (Int×α))(hr:es.size<=mask):
  ∃ t order,laid mask finger moves led plain (es.map (·.1))=some (t,order)/\t.mask=mask/\t.led=led/\t.plain=plain/\t.moves=moves/\(order.filterMap (es[·]?)).size=es.size/\TI t (order.filterMap (es[·]?))/\(order.filterMap (es[·]?)).toList.Perm es.toList:=by
 obtain⟨owner,S,e,el,I⟩:=ZcE F (es.map (·.1)) (by simpa using hr);have el':S.length=es.size:=by simpa using el
 let live:=(List.range (mask+1)).filterMap fun j=>(owner.getD j none).map (j,·)
 have hlive:∀ a b,(a,b)∈live ↔ ∃ h:b<S.length,S[b]=a:=by
  intro a b;show(a,b)∈(List.range (mask+1)).filterMap _ ↔ _;rw[List.mem_filterMap];constructor
  ·rintro⟨j,hj,ej⟩;have hj':j<=mask:=by have:=Ae.mp hj;omega
   have hb:j<owner.size:=by rw[I.osz];omega
   have eg:owner.getD j none=owner[j]:=by simp[Array.getD,hb]
   rw[eg]at ej;cases q:owner[j]with
   | none=>rw[q]at ej;simp at ej
   | some c=>
    rw[q]at ej;simp only[Option.map_some,Option.some.injEq,Prod.mk.injEq]at ej;obtain⟨rfl,rfl⟩:=ej;have:j∈S:=A1 fun n=>by
     have:=I.off j hj' n;rw[Av hb,q]at this;simp at this
    obtain⟨i,hi,ei⟩:=Bn.mp this;have:=I.at_ i hi;rw[ei,Av hb,q]at this;have:c=i:=by simpa using this
    subst this;exact⟨hi,ei⟩
  ·rintro⟨h,rfl⟩;have hl:=I.le S[b] (C6 h);refine⟨S[b],Ae.mpr (by omega),?_⟩;have hb:S[b]<owner.size:=by rw[I.osz];omega
   have:=I.at_ b h;rw[Av hb]at this;have eg:owner.getD S[b] none=owner[S[b]]:=by simp[Array.getD,hb]
   rw[eg,Option.some.inj this];rfl
 have sorted:live.Pairwise (fun a b=>a.1<b.1):=by
  refine List.Pairwise.filterMap _ (fun a a' h b hb b' hb'=>?_) List.pairwise_lt_range;cases q:owner.getD a none with
  | none=>rw[q]at hb;simp at hb
  | some c=>cases q':owner.getD a' none with
   | none=>rw[q']at hb';simp at hb'
   | some c'=>
    rw[q]at hb;rw[q']at hb';simp at hb hb';rw[<-hb,<-hb'];exact h
 have ordp:(live.map (·.2)).Perm (List.range es.size):=by
  refine(List.perm_ext_iff_of_nodup ?_ List.nodup_range).mpr fun b=>?_
  ·show(live.map (·.2)).Pairwise (·≠·);rw[Bp];refine List.Pairwise.imp_of_mem (fun {x y} hx hy h z=>?_) sorted;obtain⟨h1,e1⟩:=(hlive x.1 x.2).mp hx;obtain⟨h2,e2⟩:=(hlive y.1 y.2).mp hy;have:x.1=y.1:=by rw[<-e1,<-e2];congr 1
   omega
  ·rw[A8,Ae];constructor
   ·rintro⟨⟨a,c⟩,hm,rfl⟩;obtain⟨h,_⟩:=(hlive a c).mp hm;simpa[<-el']using h
   ·intro h;exact⟨(S[b]'(by omega),b),(hlive _ _).mpr ⟨by omega,rfl⟩,rfl⟩
 have esl:((live.map (·.2)).toArray.filterMap (es[·]?)).toList=live.filterMap fun q=>es[q.2]?:=by
  rw[Array.toList_filterMap,List.filterMap_map];rfl
 have mapl:live.filterMap (fun q=>es[q.2]?)=live.pmap (fun q (h:q.2<es.size)=>es[q.2]) (fun q hq=>by
   obtain⟨h,_⟩:=(hlive q.1 q.2).mp hq;omega):=by
  have gen:∀(l:List (Nat×Nat)) (hl:∀ q∈l,q.2<es.size),l.filterMap (fun q=>es[q.2]?)=l.pmap (fun q (h:q.2<es.size)=>es[q.2]) hl:=by
   intro l
   induction l with
   | nil=>intro _;rfl
   | cons q l ih=>
    intro hl;have h0:=hl q A6;rw[b5,Av h0,List.pmap_cons,ih (fun x hx=>hl x (A3 _ hx))]
  exact gen live _
 have sz:((live.map (·.2)).toArray.filterMap (es[·]?)).size=es.size:=by
  rw[<-Ba,esl,mapl,List.length_pmap];have:=ordp.length_eq;simpa using this
 refine⟨{mask,place:=(live.map (·.1)).toArray,dummies:=#[],finger,led,moves,plain},(live.map (·.2)).toArray,?_,rfl,rfl,rfl,rfl,sz,?_,?_⟩
 ·unfold laid;rw[e];rfl
 ·have ll:live.length=es.size:=by have:=ordp.length_eq;simpa using this
  refine⟨by rw[sz];simpa using ll,rfl,?_,?_,F,by rw[sz];exact hr,hodd,?_⟩
  ·show Ris (live.map (·.1));exact Bp.mpr sorted
  ·intro s hs;obtain⟨⟨a,b⟩,hm,rfl⟩:=A8.mp (show s∈live.map (·.1) from hs);obtain⟨h,e2⟩:=(hlive a b).mp hm;exact e2 ▸ I.le _ (C6 h)
  ·intro i h1 h2;have hi:i<live.length:=by simpa using h1
   have g1:(live.map (·.1)).toArray[i]'(by simpa using hi)=live[i].1:=by simp
   obtain⟨hb,eb⟩:=(hlive live[i].1 live[i].2).mp (C6 hi);have g2:((live.map (·.2)).toArray.filterMap (es[·]?))[i]=es[live[i].2]'(by omega):=by
    rw[<-aw];have:((live.map (·.2)).toArray.filterMap (es[·]?)).toList=live.pmap (fun q (h:q.2<es.size)=>es[q.2]) (fun q hq=>by
     obtain⟨h,_⟩:=(hlive q.1 q.2).mp hq;omega):=esl.trans mapl
    simp only[this,List.getElem_pmap]
   show Reach mask (live.map (·.1)) _ _;rw[g2,g1];have r:=I.reach live[i].2 hb (by simp;omega);have e3:(es.map (·.1)).toList[live[i].2]'(by simp;omega)=(es[live[i].2]'(by omega)).1:=by simp
   rw[e3,eb]at r;refine r.mono fun x hx=>?_;obtain⟨k,hk,ek⟩:=Bn.mp hx;exact A8.mpr ⟨(x,k),(hlive x k).mpr ⟨hk,ek⟩,rfl⟩
 ·rw[Array.toList_filterMap];refine(ordp.filterMap _).trans ?_;have:(List.range es.size).filterMap (es[·]?)=es.toList:=by
   apply List.ext_getElem?;intro i;have gen:∀(m:Nat),m<=es.size->(List.range m).filterMap (es[·]?)=es.toList.take m:=by
    intro m
    induction m with
    | zero=>intro _;simp
    | succ m ih=>
     intro h;rw[List.range_succ,List.filterMap_append,ih (by omega),List.take_succ]
     congr 1
     simp[Av (show m<es.size by omega)]
   rw[gen es.size (A7 _)];simp[List.take_of_length_le]
  rw[this]
end SetTab
namespace L3
open PySem PySem.Spec PyProof.Rows L2 SetTab PySem.SetTable
section
variable{prog:Program}{w:World}{A:Around}{E:Value->Shared->Prop}{s:Shared}
abbrev TK(prog:Program)(w:World)(h:Heap)(ks:List Int)(a:Addr):Prop:=IsTupleKey (intKind prog w) h ks a
abbrev kh(prog:Program)(w:World)(ks:List Int):Int:=tupleKeyHash (intKind prog w) ks
theorem JN{ks:List Int}{vs:List Value}(h:ItemsAre (intKind prog w) ks vs):∀ v∈vs,∃ i t,v=.int i t:=by
 induction h with
 | nil=>intro v hv;cases hv
 | @cons k v ks vs h1 _ ih=>
  intro u hu;rcases A4.mp hu with rfl | hu
  ·obtain⟨t,e⟩:=Value.isInt_shape (k:=k) (v:=u) h1;exact⟨k,t,e⟩
  ·exact ih u hu
theorem wp_ofClass{ks:List Int}{a:Addr}{Q:Bool->Shared->Prop}(hk:TK prog w s.heap ks a)(h:Q false s):wpAny (model prog w) A (ofAClassStatement 8 (.ref a)) Q E s:=by
 have hT:=hk.typeIs;obtain⟨o,items,n,ho,_,hd,hi⟩:=hk;unfold ofAClassStatement;refine wpAny_bind (wpAny_typeOf hT ?_);show wpAny _ _ (do let u <- (if("tuple"=="tuple")=true then pure true else isSubtype (.type "tuple") (.type "tuple"));_) _ _ s;refine wpAny_bind ?_;rw[if_pos (by decide)];refine wpAny_pure ?_;simp only[B9,Af,if_false];refine wpAny_bind (wpAny_seqItems ho hd ?_);show wpAny _ _ (forIn items _ _ >>= _) _ _ s;refine wpAny_bind ?_;rw[<-Bm];refine wpAny_forIn_list _ (fun rest r s'=>r.1=none/\s'=s/\∀ v∈rest,∃ i t,v=Value.int i t) _ ?_ ?_ _ _ ⟨rfl,rfl,JN hi⟩
 ·rintro v rest r s' ⟨hr,rfl,hall⟩;obtain⟨i,t,rfl⟩:=hall v A6;show wpAny _ _ (pure false >>= _) _ _ _;refine wpAny_bind (wpAny_pure ?_);simp only[Af,if_false];exact wpAny_pure ⟨rfl,rfl,fun u hu=>hall u (A3 _ hu)⟩
 ·rintro⟨r1,r2⟩ s' ⟨hr,rfl,_⟩;simp only at hr;subst hr;exact wpAny_pure h
theorem wp_hashBV{ks:List Int}{a:Addr}{Q:Bool->Shared->Prop}(hk:TK prog w s.heap ks a)(h:Q true s):wpAny (model prog w) A (hashByValue 8 (.ref a)) Q E s:=by
 have hT:=hk.typeIs;obtain⟨o,items,n,ho,_,hd,hi⟩:=hk;unfold hashByValue;refine wpAny_bind (wpAny_specialOf hT F.slot_tuple_hash.lookup ?_);show wpAny _ _ (seqItems? (.ref a) >>= _) _ _ s;refine wpAny_bind (wpAny_seqItems ho hd ?_);show wpAny _ _ (forIn items _ _ >>= _) _ _ s;refine wpAny_bind ?_;rw[<-Bm];refine wpAny_forIn_list _ (fun rest r s'=>r.1=none/\s'=s/\∀ v∈rest,∃ i t,v=Value.int i t) _ ?_ ?_ _ _ ⟨rfl,rfl,JN hi⟩
 ·rintro v rest r s' ⟨hr,rfl,hall⟩;obtain⟨i,t,rfl⟩:=hall v A6;show wpAny _ _ (pure true >>= _) _ _ _;refine wpAny_bind (wpAny_pure ?_);simp only[B9,Af,if_false];exact wpAny_pure ⟨rfl,rfl,fun u hu=>hall u (A3 _ hu)⟩
 ·rintro⟨r1,r2⟩ s' ⟨hr,rfl,_⟩;simp only at hr;subst hr;exact wpAny_pure h
end
structure TSet(prog:Program)(w:World)(h:Heap)(a:Addr)(o:Obj)(es:Array (Int×Value))(ep:Nat)(t:SetTable)(keys:List (List Int)):Prop where
 ho:h.get? a=some o
 hd:o.data=.set es ep t
 ti:TI t es
 size:keys.length=es.size
 key:∀(i:Nat) k,keys[i]?=some k->∃ b,es[i]?=some (kh prog w k,.ref b)/\TK prog w h k b
section
variable{prog:Program}{w:World}{A:Around}{E:Value->Shared->Prop}{s:Shared}{a:Addr}{o:Obj}{es:Array (Int×Value)}{ep:Nat}{t:SetTable}{keys:List (List Int)}
theorem TSet.fits(T:TSet prog w s.heap a o es ep t keys):t.fits es.size=true:=by
 have h1:=T.ti.size;have h2:=T.ti.dm;have h3:=T.ti.room;simp[SetTable.fits,SetTable.fill,h1,h2,h3]
end
noncomputable def Al(prog:Program)(w:World)(h:Heap):List (List Int)->List (Int×Value)->Prop
 | [],l=>l=[]
 | k::ks,l=>∃ b r,l=(kh prog w k,.ref b)::r/\TK prog w h k b/\Al prog w h ks r
section
variable{prog:Program}{w:World}{h h':Heap}
end
def SetI(G:Addr->Prop)(prog:Program)(w:World)(h:Heap)(a:Addr)(keys:List (List Int)):Prop:=∃ o es ep t,h.get? a=some o/\o.ExactSet/\o.data=.set es ep t/\TI t es/\Al prog w h keys es.toList/\keys.Nodup /\
 (t.mask=7\/t.mask=31\/t.mask=127)/\es.size*5<t.mask*3/\t.plain=true/\t.led=(!w.params.followText "set-order")/\∀ p∈es.toList,∃ b,p.2=Value.ref b/\G b
theorem Zgr{m:Nat}(h:m=7\/m=31\/m=127):Ze1 m:=by
 rcases h with rfl | rfl | rfl
 ·exact Zmw
 ·exact Zmx
 ·exact Zkr
def Zlu(es:Array (Int×Value))(l:Option (SetTable×Array Nat)):Sem (Array (Int×Value)×SetTable):=do
 let some (t,order):=l | unsupported "internal:set-table-without-room"
 let out:=order.filterMap (es[·]?)
 if out.size != es.size then unsupported "internal:set-table-lost-an-element"
 pure (out,t)
section
variable{prog:Program}{w:World}{A:Around}{E:Value->Shared->Prop}{s:Shared}{a:Addr}{keys:List (List Int)}
theorem Za7{h:Heap}{o:Obj}{es es':Array (Int×Value)}{ep:Nat}{t t':SetTable}(ho:h.get? a=some o)(hd:o.data=.set es ep t):(h.update a (Obj.putSet es' t')).get? a=some {o with data:=.set es' (ep+1) t'}:=by
 have:=Heap.get?_update_self (Obj.putSet es' t') ho (by rw[putSet_of es' t' hd];rfl);rw[putSet_of es' t' hd]at this;exact this
end
set_option maxHeartbeats 2000000
section
variable{prog:Program}{w:World}{A:Around}{R:Result->Shared->Prop}{I S:Addr}{fp wr:List Addr}{n:Nat}{P:Nat->Value->Prop}{St:Nat->Heap->Prop}
end
section
variable{prog:Program}{w:World}{A:Around}{E:Value->Shared->Prop}{s:Shared}
set_option maxHeartbeats 3200000 in
theorem Zci(a:Value){Q₁:Value->Shared->Prop}
  (h:Q₁ (.ref s.heap.objs.size) {s with heap:=s.heap.push {cls:=.type "set",dict:=none,data:=.set #[] 0 (.fresh 0 0 (!w.params.followText "set-order"))}}):
  codeAny (model prog w) A (.call (.builtin "set.__new__") ⟨[.type "set",a],[]⟩) (wants Q₁ E) s:=by
 refine codeAny_of_tree ?_;show wpAny _ A.in1 (do checkBuiltinCall "set.__new__" ⟨[.type "set",a],[]⟩;again (.builtin "set.__new__" ⟨[.type "set",a],[]⟩)) _ _ s;refine wpAny_bind (wpAny_of_eq (F.newCall_set_1 a) (wpAny_pure ⟨plainId_quiet F.plain_set_new _,codeAny_builtin F.entry_set_new ?_⟩));rw[Around.under_plainId F.plain_set_new _];unfold Builtin.«set.__new__» Builtin.Frozenset.newClass;have hsub:=sub_set_self;obtain⟨hp,g,d,tk,os⟩:=s;dsimp only
 wp_walk
 refine wpAny_askSetting (wpAny_pure ?_);dsimp only;simp only[newObj];refine wpAny_bind (wpAny_alloc (wpAny_pure ?_));exact wpAny_pure h
end
noncomputable def nubI:List (List Int)->List (List Int)
 | []=>[]
 | k::r=>if k∈r then nubI r else k::nubI r
theorem mem_nubI:∀{ks:List (List Int)} {x:List Int},x∈nubI ks ↔ x∈ks
 | [],x=>by simp[nubI]
 | k::r,x=>by
  unfold nubI;by_cases c:k∈r
  ·rw[if_pos c,mem_nubI,A4];exact⟨.inr,fun z=>z.elim (fun e=>e ▸ c) id⟩
  ·rw[if_neg c,A4,A4,mem_nubI]
theorem nodup_nubI:∀(ks:List (List Int)),(nubI ks).Nodup
 | []=>Ch
 | k::r=>by
  unfold nubI;by_cases c:k∈r
  ·rw[if_pos c];exact nodup_nubI r
  ·rw[if_neg c];exact ae.mpr ⟨fun z=>c (mem_nubI.mp z),nodup_nubI r⟩
theorem nodup_le{α:Type}[DecidableEq α]:∀{l m:List α},l.Nodup->(∀ x∈l,x∈m)->l.length<=m.length
 | [],m,_,_=>Be _
 | x::l,m,nd,h=>by
  obtain⟨h1,h2⟩:=ae.mp nd;have hm:=h x A6;have:=nodup_le (l:=l) (m:=m.erase x) h2 fun y hy=>(List.mem_erase_of_ne (fun(e:y=x)=>h1 (by rw[<-e];exact hy))).mpr (h y (A3 _ hy));rw[List.length_erase_of_mem hm]at this;have:0<m.length:=List.length_pos_of_mem hm;simp;omega
noncomputable def keysOf:List D->Option (List (List Int))
 | []=>some []
 | .tup ys::r=>(Q6 ys).bind fun k=>(keysOf r).map (k::·)
 | _::_=>none
theorem keysOf_get:∀{xs:List D} {ks:List (List Int)} {i:Nat} {k:List Int},keysOf xs=some ks->ks[i]?=some k->xs[i]?=some (.tup (k.map .int))
 | [],ks,i,k,h,e=>by cases h;simp at e
 | d::xs,ks,i,k,h,e=>by
  cases d with
  | tup ys=>
   obtain⟨k0,h1,h2⟩:=bind_some (show(Q6 ys).bind (fun k=>(keysOf xs).map (k::·))=some ks from h);obtain⟨ks',h3,rfl⟩:=map_some h2;cases i with
   | zero=>simp at e;subst e;simp[JO h1]
   | succ i=>simpa using keysOf_get h3 (by simpa using e)
  | _=>cases h
theorem keysOf_len:∀{xs:List D} {ks:List (List Int)},keysOf xs=some ks->ks.length=xs.length
 | [],ks,h=>by cases h;rfl
 | d::xs,ks,h=>by
  cases d with
  | tup ys=>
   obtain⟨k0,h1,h2⟩:=bind_some (show(Q6 ys).bind (fun k=>(keysOf xs).map (k::·))=some ks from h);obtain⟨ks',h3,rfl⟩:=map_some h2;simp[keysOf_len h3]
  | _=>cases h
def dLenSet:D->Option D:=fun d=>(Yu d).bind fun xs=>(keysOf xs).bind fun ks=>if ks.length<=70 then some (.int (nubI ks).length) else none
section
variable{X:Cx}{pins:List (Addr×Obj)}{σ:L2.St}{H:Hp}{s:Shared}{F:Fz}
theorem UD:∀{vs:List Value} {ns:List Int},IntsAre vs ns->ItemsAre (intKind X.prog X.w) ns vs
 | _,_,.nil=>.nil
 | _,_,.cons n t h=>.cons (intKind_is _ _ _ _) (UD h)
theorem tk_of(I:Inv X pins σ H s){k:List Int}{x:V}{v:Value}(r:Rep X.K F H (.tup (k.map .int)) x)(rv:RelV x v):∃ b,v=.ref b/\TK X.prog X.w s.heap k b:=by
 unfold Rep at r;obtain⟨a,vs,rfl,h1,l1⟩:=r;cases rv;obtain⟨its,rv,p,_⟩:=I.tuple h1;obtain⟨o,ho,hc,n,hd⟩:=p;exact⟨a,rfl,o,its.toArray,n,ho,hc,hd,by simpa using UD (Q5 l1 rv)⟩
end
end L3
namespace L3
open PySem PySem.Spec PyProof.Rows L2
def tyD:D->String
 | .non=>"NoneType"
 | .bl _=>"bool"
 | .int _=>"int"
 | .str _=>"str"
 | .tup _=>"tuple"
 | .lst _=>"list"
inductive Ty where
 | int | bool | tuple | str | list
def Ty.nm:Ty->String
 | .int=>"int"
 | .bool=>"bool"
 | .tuple=>"tuple"
 | .str=>"str"
 | .list=>"list"
def Zof:Ty->D->Bool
 | .int,.int _=>true
 | .int,.bl _=>true
 | .bool,.bl _=>true
 | .tuple,.tup _=>true
 | .str,.str _=>true
 | .list,.lst _=>true
 | _,_=>false
theorem Zmg(K:Frag)(T:Ty)(d:D):kitOne K (.type (tyD d)) (.type T.nm)=some (Zof T d):=by
 cases T<;>cases d<;>rfl
def ZeH(T:Ty)(d:D):Option D:=some (.bl (Zof T d))
section
variable{X:Cx}{pins:List (Addr×Obj)}{σ:L2.St}{H:Hp}{s:Shared}{F:Fz}{pos:Pos}{e:Expr}{f:DE}
theorem Zmp{A:Around}{E:Value->Shared->Prop}{Q:Value->Shared->Prop}{c:Value}{b:Bool}(I:Inv X pins σ H s){d:D}{x:V}{u:Value}(r:Rep X.K F H d x)(rx:RelV x u)(e:kitOne X.K (.type (tyD d)) c=some b)(h:∀ tk,Q (.bool b) {s with toks:=tk}):
  wpAny (model X.prog X.w) A (call (.builtin "isinstance") [u,c]) Q E s:=by
 cases d with
 | non=>unfold Rep at r;subst r;exact UE I rx .non e h
 | bl y=>unfold Rep at r;subst r;exact UE I rx (.bl y) e h
 | int y=>unfold Rep at r;subst r;exact UE I rx (.int y) e h
 | str y=>unfold Rep at r;subst r;exact UE I rx (.str y) e h
 | tup ds=>
  unfold Rep at r;obtain⟨a,vs,rfl,hq,_⟩:=r;cases rx;obtain⟨its,_,⟨o,h1,h2,_⟩,_⟩:=I.tuple hq;exact kia_one PySem.W.kitx_tuple I.kIn ⟨o,h1,h2⟩ e (fun z=>nomatch z) h
 | lst ds=>
  unfold Rep at r;obtain⟨a,vs,rfl,_,hq,_⟩:=r;cases rx;obtain⟨its,_,p,_⟩:=I.list hq;obtain⟨o,h1,h2,_⟩:=p.isList;exact kia_one PySem.W.kitx_list I.kIn ⟨o,h1,h2⟩ e (fun z=>nomatch z) h
theorem ZbG{T:Ty}{x:Str}{p1 p2:Pos}(hg:Gl X "isinstance")(hm:X.mg "isinstance"=none)(hgx:Gl X x)(hmx:X.mg x=none)(hv:bootBuiltins x=some (.type T.nm))(he:ED X e f)
  (hn:x≠"__name__":=by decide)(hd:(x==("__debug__":Str))=false:=by decide)(hst:starEach [e,Expr.Name x p2] X.env=[(false,eval e X.env),(false,eval (.Name x p2) X.env)]:=by rfl)
  (hst2:starEach [Expr.Name x p2] X.env=[(false,eval (.Name x p2) X.env)]:=by rfl):
  ED X (.Call (.Name "isinstance" p1) [e,.Name x p2] [] pos) (Jz (ZeH T) f):=by
 intro pins s σ H Q I h;obtain⟨ρ,F0,H0,F,d,ok,ed,q⟩:=h;obtain⟨y,ey,ed⟩:=bind_some ed;cases ed;refine wpAny_Call_Name_kw (Jg I hg hm PyProof.Rows.boot_isinstance (Br ?_ (by rw[hst,hst2]) (by rw[hst2];rfl)) (by decide) (by decide));rw[hst];show wpAny _ _ (spliced ((false,eval e X.env)::(false,eval (.Name x p2) X.env)::[])) _ _ s;refine Calls.spliced_cons (thn (he pins s σ H (fun v H'=>∃ F',Grow F H F' H'/\Rep X.K F' H' y v) I ⟨ρ,F0,H0,F,y,ok,ey,fun v F' H' g r=>⟨F',g,r⟩⟩) fun u s1 zq=>?_);obtain⟨v,H1,I1,r1,F1,g1,rx⟩:=zq;refine Calls.spliced_cons ?_;refine Jg I1 hgx hmx hv (Calls.spliced_nil ?_) hn hd;exact Zmp I1 rx r1 (Zmg X.K T y) fun tk=>⟨.bl _,H1,I1.tok tk,rfl,q _ F1 H1 g1 (Jf _)⟩
end
noncomputable def YB(P:Program)(w:World)(K:Frag)(mg:Str->Option Value)(base:Heap)(x:Str)(k:Nat)(ps:List Str)(fn:List D->Option D):Prop:=
 ∃ f fd,FnD P w K mg base k f fd ps fn/\mg x=some (.ref f)/\keepIn K (.ref f)=true/\Binds K fd ps []
section
variable{X:Cx}{pos:Pos}
theorem Zt{x:Str}{k k':Nat}{ps:List Str}{fn:List D->Option D}{p:Pos}{e:Expr}{es:List Expr}{as:DA}(F:YB X.prog X.w X.K X.mg X.base x k ps fn)(hr:Room k' X.A)(hk:k<=k')(hg:Gl X x)
  (ha:AD X (e::es) as)(hdb:(x==("__debug__":Str))=false:=by decide)(he:starEach (e::es) X.env=(false,eval e X.env)::starEach es X.env:=by rfl)(hpl:(backTo pos (starEach es X.env)).any (·.1)=false:=by rfl):
  ED X (.Call (.Name x p) (e::es) [] pos) (dFn ps.length fn as):=by
 obtain⟨f,fd,h1,h2,h3,h4⟩:=F;exact ZnN h1 (hr.mono hk) hg h2 h3 h4 ha hdb he hpl
def ZmK(sc scope:Scope):Bool:=
 scope.kind==.function&&scope.names.all (fun y=>y.2 != .cell)&&scope.names.all (fun y=>y.2 != .local||scope.names.lookup y.1==some .local) &&
  scope.names.all fun y=>y.2 != .free||(sc.names.lookup y.1==some .cell||sc.names.lookup y.1==some .free)
theorem YW{sc scope:Scope}(h:X.env.scope=sc)(c:ZmK sc scope=true):CompScope X scope:=by
 unfold ZmK at c;simp only[As,aa]at c;obtain⟨⟨⟨c1,c2⟩,c3⟩,c4⟩:=c;refine⟨eq_of_beq c1,fun y hy e=>?_,fun y hy e=>?_,fun y hy e=>?_⟩
 ·have:=c2 y hy;rw[e]at this;cases this
 ·have:=c3 y hy;rw[e]at this;exact eq_of_beq (by simpa using this)
 ·have:=c4 y hy;rw[e]at this;have:(sc.names.lookup y.1==some .cell||sc.names.lookup y.1==some .free)=true:=by simpa using this
  rw[<-h]at this;rcases b6.mp this with z | z
  ·exact .inl (eq_of_beq z)
  ·exact .inr (eq_of_beq z)
def Zn5(sc scope:Scope):List (Str×NameKind):=scope.names.map fun(n,k)=>if(k==.free&&sc.kind==.function&&sc.names.lookup n==some .cell) then(n,.cell) else(n,k)
def ZmM(sc scope:Scope)(XN N:List Str)(caps:List (Option Nat)):Bool:=
 caps.length==N.length&&(List.range caps.length).all fun i=>match caps[i]?,N[i]? with
  | some (some j),some x=>XN[j]?==some x&&(sc.names.lookup x==some .cell||sc.names.lookup x==some .free)&&(Zn5 sc scope).lookup x != some .local
  | _,_=>true
theorem YY{sc scope:Scope}{XN N:List Str}{caps:List (Option Nat)}(h:X.env.scope=sc)(hN:X.N=XN)(c:ZmM sc scope XN N caps=true):Zm6 X N scope caps:=by
 unfold ZmM at c;rw[As,aa]at c;obtain⟨c1,c2⟩:=c;refine⟨eq_of_beq c1,fun i j x e1 e2=>?_⟩;have hi:i<caps.length:=(Ap.mp e1).1;have:=c2 i (Ae.mpr hi);rw[e1,e2]at this;simp only[As]at this;obtain⟨⟨d1,d2⟩,d3⟩:=this;subst h hN;have hk:X.env.scope.names.lookup x=some .cell\/X.env.scope.names.lookup x=some .free:=by
  rcases b6.mp d2 with z | z
  ·exact .inl (eq_of_beq z)
  ·exact .inr (eq_of_beq z)
 refine⟨eq_of_beq d1,.inr hk,fun z=>?_,fun z=>?_⟩
 ·have z:X.env.scope.names.lookup x=some .local:=z;rcases hk with q | q<;>(rw[q]at z;cases z)
 ·have z':(Zn5 X.env.scope scope).lookup x=some .local:=z;rw[z']at d3;simp at d3
end
structure Blt(mg:Str->Option Value):Prop where
 len:mg "len"=none
 range:mg "range"=none
 enumerate:mg "enumerate"=none
 min:mg "min"=none
 max:mg "max"=none
 abs:mg "abs"=none
 sum:mg "sum"=none
 any:mg "any"=none
 all:mg "all"=none
 set:mg "set"=none
 sorted:mg "sorted"=none
 tuple:mg "tuple"=none
 list:mg "list"=none
 int:mg "int"=none
 str:mg "str"=none
 bool:mg "bool"=none
 isinstance:mg "isinstance"=none
 reversed:mg "reversed"=none
section
variable{P:Program}{w:World}{K:Frag}{mg:Str->Option Value}{base:Heap}
theorem Uj{x qual:Str}{st:Stmt}{f:Addr}{fd:FuncData}{N ps:List Str}{k n:Nat}{g:DS}{fn:List D->Option D}(F:Fun K x qual st f fd)(S:Zx N ps (Zf st))(hn:N.length=n)(hf:fn=ZA n g)
  (hb:∀(cdv:Value) (A:Around) (outer:List Env) (s:Shared) (H:Hp) (E:XK),Room k (A.deeper (envOfC qual (Zf st) s.heap.objs.size f cdv)) ->
   ∃ g',g'=g/\SDs (Zjd CX0 P w K mg base N qual (Zf st) f cdv A outer s H E).nox (QS st) g'):FnD P w K mg base (k+1) f fd ps fn:=by
 subst hn hf;exact ZoY F S fun cdv A outer s H E hr=>by
  obtain⟨g',rfl,h⟩:=hb cdv A outer s H E hr;exact h
end
section
variable{X:Cx}{tg elt iter:Expr}{ifs:List Expr}
theorem ZjS{scope:Scope}{pos pos' spos:Pos}{N:List Str}{g:TG}{te:TE}{tt:TT}{wi:TI}{i:Nat}{x:Str}(S:CompScope X scope)(hc:X.calm=true)(hit:PI X tg iter wi)
  (hg:∀ C s3 H3 fp,PG (YX X N scope C s3 H3 fp) tg g)(hi:∀ C s3 H3 fp,PTs (YX X N scope C s3 H3 fp) ifs tt)(he:∀ C s3 H3 fp,PE (YX X N scope C s3 H3 fp) elt te)
  (hN:X.N.Nodup)(hx1:X.N[i]?=some x)(hx:Loc X.env.scope x)(hsw:swapsWith (.ListComp elt [⟨tg,iter,ifs,0⟩] scope pos) (some (.Name x pos')) spos.line X.env=pure true)
  (hf:X.fn x=true\/X.env.scope.names.lookup x=some .local)(hs:∀ x,foldedSetIterable iter X.env x=pure x):
  PS X (.Assign [.Name x pos'] (.ListComp elt [⟨tg,iter,ifs,0⟩] scope pos) spos) (fun D σ H=>Zjx X.K wi (Zdh X N scope σ g tt te) σ H fun v H'=>D.nx (σ.set i (some v)) H'):=by
 intro pins s σ H D I h;rw[exec_Assign_Name_used _ _ _ _ hsw];refine wpAny_bind (wpAny_standAt (wpAny_bind ?_));show wpAny _ X.A (do let _ <- comprehension (.ListComp elt [⟨tg,iter,ifs,0⟩] scope pos) scope X.env _ (newList []) false (eval iter X.env) (some (assign (.Name x pos') X.env))) _ _ s;refine wpAny_bind (wpAny_mono (wpAny_comprehension_free (use:=some (assign (.Name x pos') X.env)) (Q:=fun _ s'=>SP X pins D .next s') rfl hs (UO (S.cells I.ok)) S.kind S.loc
  (wpAny_mono (hit pins s σ H _ I h) (fun xv s₁ h₁=>wpAny_mono h₁ (fun itv s₂ h₂=>?_) fun _ _ z=>z) fun _ _ z=>z)) (fun _ s' hq=>wpAny_pure (wpAny_pure hq)) fun _ _ z=>z)
 obtain⟨it,fp,tn,J,H2,rfl,I2,T,st2,f2,hb⟩:=h₂;refine ZdZ (Q:=fun v H'=>D.nx (σ.set i (some v)) H') (RR:=fun acc C=>compPost (model X.prog X.w) X.A X.xe (some (assign (.Name x pos') X.env)) (fun _ s'=>SP X pins D .next s') acc C) (wi:=wi) S hc I2 T st2 f2 hg hi he hb ?_;intro Dl C H' s' m hI hC hn q;have I':Inv X pins σ H' s':=hI s'.heap (Heap.SameBut.refl _ _);show wpAny _ X.A (assign (.Name x pos') X.env (.ref Dl)) _ _ s';obtain⟨oC,es,ep,hoC,r⟩:=id hn;have hdC:∀ v,oC.data≠.cell v:=fun v z=>by
  obtain⟨r1,_⟩:=r;rw[z]at r1;cases r1
 have I1:=I'.pinned (fp:=[C]) (fun b hb=>by rw[A0]at hb;subst hb;exact hC) fun b hb=>by
  rw[A0]at hb;subst hb;exact⟨oC,hoC,hdC⟩
 refine wpAny_assign_Name (Vw I1 hN hx1 hx (v:=.ref Dl) rfl (fun s2 J2=>?_) hf);have pC:s2.heap.get? C=some oC:=(J2.pin (C,oC) (az _ (az _ (JL (by simp) hoC)))).1;refine⟨m,⟨oC,es,ep,pC,r⟩,fun h' sb=>⟨_,H',?_,q⟩⟩;have J3:=J2.unpinned;obtain⟨c1,c2,c3,c4,c5,c6⟩:=hC;exact J3.turned (t':=s2.toks) (it:=C) (fun b o hb e=>(sb.2 b hb).trans e) c1 c2 c4 c5 c6
theorem Zcj{scope:Scope}{pos pos' spos:Pos}{N:List Str}{caps:List (Option Nat)}{b:DG}{t:DT}{f:DE}{it:DI}{i:Nat}{x:Str}(hN:X.N.Nodup)(hx1:X.N[i]?=some x)(hx:Loc X.env.scope x)
  (S:CompScope X scope)(C:Zm6 X N scope caps)(hc:X.calm=true)(hit:ID X tg iter it)(hno:Zb3 b)
  (hg:∀ C s3 H3 fp,GD (YX X N scope C s3 H3 fp) tg b)(hi:∀ C s3 H3 fp,TDs (YX X N scope C s3 H3 fp) ifs t)(he:∀ C s3 H3 fp,ED (YX X N scope C s3 H3 fp) elt f)
  (hsw:swapsWith (.ListComp elt [⟨tg,iter,ifs,0⟩] scope pos) (some (.Name x pos')) spos.line X.env=pure true:=by rfl)
  (hf:X.fn x=true\/X.env.scope.names.lookup x=some .local:=by first | exact .inl rfl | exact .inr rfl | assumption)(hs:∀ x,foldedSetIterable iter X.env x=pure x:=by intro _;rfl):
  SD X (.Assign [.Name x pos'] (.ListComp elt [⟨tg,iter,ifs,0⟩] scope pos) spos) (Z9 i (Ys caps it b t f)):=
 PS.imp (ZjS (N:=N) (g:=rdG X.K b) (tt:=rdT X.K t) (te:=rd X.K f) S hc hit hg hi he hN hx1 hx hsw hf hs) fun E σ H zq=>by
  obtain⟨ρ,F0,H0,F,o,ok,e,k⟩:=zq;obtain⟨d,ed,rfl⟩:=map_some e;exact ZfB C hno ⟨ρ,F0,H0,F,d,ok,ed,fun v F' H' g r=>k _ F' H' g.ext ((ok.grow g).set r)⟩
end
theorem Zme{K:Frag}{H:Hp}{a:Addr}{ns:List Int}{fn:List D->Option D}{n:Nat}{E:XK}(hl:ns.length<=n)(hS:SqL K H a (ns.map V.int))(h:∀ ns:List Int,fn [.lst (ns.map .int)]=some (.bl true)):spD K 1 fn [.ref a] H (fun v _=>v=.bl true) E:=by
 refine⟨[.lst (ns.map .int)],fun b=>b=a,.bl true,rfl,.cons ?_ .nil,fun b hb=>?_,h ns,fun w F' H' _ r=>by unfold Rep at r;exact r⟩
 ·unfold Rep;refine⟨a,_,rfl,rfl,hS,?_⟩;generalize ns=l
  induction l with
  | nil=>exact .nil
  | cons k l ih=>exact .cons (Z3 _) ih
 ·subst hb;rcases hS with(h | ⟨o,h⟩) | ⟨o,_,_,h,_⟩
  ·exact .inl (by rw[h];simp)
  ·exact .inl (by rw[h];simp)
  ·exact .inr ⟨o,h⟩
def GlobK(K:Frag)(x:Str)(d:D):Prop:=∃ a i j t u n sl,nsIn K mainGlobals x=some (some (.ref a))/\K.lookup a=some ⟨.type "tuple",none,.seq #[.int i t,.int j u] n,sl⟩/\d=.tup [.int i,.int j]
section
variable{prog:Program}{w:World}{A:Around}{E:Value->Shared->Prop}{s:Shared}
end
section
variable{X:Cx}{pos:Pos}{tg l:Expr}{f:DE}
end
noncomputable def OkD(P:Program)(w:World)(K:Frag)(mg:Str->Option Value)(base:Heap)(n:Str)(st:Stmt)(k:Nat)(ps:List Str)(fn:List D->Option D):Prop:=∀{f:Addr} {fd:FuncData},Fun K n n st f fd->FnD P w K mg base k f fd ps fn
noncomputable def Df(K:Frag)(n:Str)(st:Stmt):Prop:=∃ f fd,nsIn K mainGlobals n=some (some (.ref f))/\Fun K n n st f fd/\keepIn K (.ref f)=true
theorem Df.mk{K:Frag}{n:Str}{st:Stmt}{f:Addr}{oc kV dc pm cd ct:Value}{od an:Option Addr}{sl:Array (Option Value)}(a:nsIn K mainGlobals n=some (some (.ref f)))(l:K.lookup f=some ⟨oc,od,.func (fnOf n n (Um st) (QS st) (Zf st) .none kV dc pm an cd ct),sl⟩)
  (e:PySem.W.codeIn K cd n=true)(k:keepIn K (.ref f)=true):Df K n st:=⟨f,_,a,Zmv l e k,k⟩
section
variable{P:Program}{w:World}{K:Frag}{mg:Str->Option Value}{base h:Heap}{n:Str}{st:Stmt}{k:Nat}{ps:List Str}{fn:List D->Option D}
theorem dk(X:K.In h)(G:h.Ns mainGlobals mg)(a:Df K n st)(o:OkD P w K mg base n st k ps fn)
  (hb:∀(kV doc pm:Value) (an:Option Addr) (cdv ct:Value) (us:List Value),us.length=ps.length->bindArgs (fnOf n n (Um st) (QS st) (Zf st) .none kV doc pm an cdv ct) ⟨us,[]⟩=pure (ps.zip us)):YB P w K mg base n k ps fn:=by
 obtain⟨f,fd,a1,F,a2⟩:=a;exact⟨f,fd,o F,mg_of X G a1,a2,F.binds hb⟩
end
end L3
namespace Pg
noncomputable def S:Nat->(Nat->Int)->Int
 | 0,_=>0
 | n+1,f=>S n f+f n
theorem S_congr:∀{n:Nat} {f g:Nat->Int},(∀ j,j<n->f j=g j)->S n f=S n g
 | 0,_,_,_=>rfl
 | n+1,f,g,h=>by
  have e1:=S_congr (n:=n) (f:=f) (g:=g) (fun j hj=>h j (by omega));have e2:=h n (by omega);simp only[S,e1,e2]
theorem ZkP:∀{n a b:Nat} {f g:Nat->Int},a<n->b<n->a≠b->(∀ j,j<n->j≠a->j≠b->f j=g j) ->
  S n f-S n g=(f a-g a)+(f b-g b):=by
 have one:∀{n a:Nat} {f g:Nat->Int},a<n->(∀ j,j<n->j≠a->f j=g j)->S n f-S n g=f a-g a:=by
  intro n
  induction n with
  | zero=>intro a f g h;omega
  | succ n ih=>
   intro a f g ha h;simp only[S];by_cases e:a=n
   ·subst e;have:=S_congr (n:=a) (f:=f) (g:=g) (fun j hj=>h j (by omega) (by omega));omega
   ·have:=ih (a:=a) (f:=f) (g:=g) (by omega) (fun j hj hn=>h j (by omega) hn);have:=h n (by omega) (by omega);omega
 intro n
 induction n with
 | zero=>intro a b f g h;omega
 | succ n ih=>
  intro a b f g ha hb hab h;simp only[S];by_cases e:a=n
  ·subst e;have:=one (n:=a) (a:=b) (f:=f) (g:=g) (by omega) (fun j hj hn=>h j (by omega) (by omega) hn);omega
  ·by_cases e2:b=n
   ·subst e2;have:=one (n:=b) (a:=a) (f:=f) (g:=g) (by omega) (fun j hj hn=>h j (by omega) hn (by omega));omega
   ·have:=ih (a:=a) (b:=b) (f:=f) (g:=g) (by omega) (by omega) hab (fun j hj h1 h2=>h j (by omega) h1 h2);have:=h n (by omega) (by omega) (by omega);omega
theorem Zc3:∀{n a:Nat} {f:Nat->Int},a<n->(∀ j,j<n->j≠a->f j=0)->S n f=f a:=by
 intro n
 induction n with
 | zero=>intro a f h;omega
 | succ n ih=>
  intro a f ha h;simp only[S];by_cases e:a=n
  ·subst e;have z:∀ m,m<=a->S m f=0:=by
    intro m
    induction m with
    | zero=>intro _;rfl
    | succ m ihm=>intro hm;simp only[S];have:=ihm (by omega);have:=h m (by omega) (by omega);omega
   have:=z a (by omega);omega
  ·have:=ih (a:=a) (f:=f) (by omega) (fun j hj hn=>h j (by omega) hn);have:=h n (by omega) (by omega);omega
noncomputable def cr(ax ay bx by_ cx cy:Int):Int:=(bx-ax)*(cy-ay)-(by_-ay)*(cx-ax)
section
variable(n:Nat)(x y:Nat->Int)
noncomputable def nx(i:Nat):Nat:=if i+1=n then 0 else i+1
noncomputable def pv(i:Nat):Nat:=if i=0 then n-1 else i-1
noncomputable def lo(i:Nat):Nat:=if x i<x (nx n i) then i else nx n i
noncomputable def hi(i:Nat):Nat:=if x i<x (nx n i) then nx n i else i
noncomputable def d(i:Nat):Int:=if x i<x (nx n i) then 1 else -1
noncomputable def sd(i k:Nat):Int:=cr (x (lo n x i)) (y (lo n x i)) (x (hi n x i)) (y (hi n x i)) (x k) (y k)
noncomputable def B(j i:Nat):Prop:=
 if x (lo n x j)<x (lo n x i) then 0<sd n x y j (lo n x i)
 else if x (lo n x i)<x (lo n x j) then sd n x y i (lo n x j)<0
 else if x (hi n x j)<x (hi n x i) then sd n x y i (hi n x j)<0
 else 0<sd n x y j (hi n x i)
noncomputable def crs(j:Nat)(t:Int):Prop:=x (lo n x j)<=t/\t<x (hi n x j)
structure ZK:Prop where
 n3:3<=n
 dx:∀ i j,i<n->j<n->x i=x j->i=j
 off:∀ i k,i<n->k<n->x (lo n x i)<x k->x k<x (hi n x i)->sd n x y i k≠0
 apart:∀ e f,e<n->f<n->e≠f->e≠nx n f->f≠nx n e ->
  ¬ (sd n x y e (lo n x f)<0/\0<sd n x y e (hi n x f)/\0<sd n x y f (lo n x e)/\sd n x y f (hi n x e)<0) /\
  ¬ (0<sd n x y e (lo n x f)/\sd n x y e (hi n x f)<0/\sd n x y f (lo n x e)<0/\0<sd n x y f (hi n x e))
end
section
variable{n:Nat}{x y:Nat->Int}
theorem nx_lt{i:Nat}(h:i<n):nx n i<n:=by unfold nx;split<;>omega
theorem pv_lt{i:Nat}(h:i<n):pv n i<n:=by unfold pv;split<;>omega
theorem Qe{i:Nat}(h:i<n):nx n (pv n i)=i:=by unfold nx pv;grind
theorem JT{i:Nat}(h:i<n):pv n (nx n i)=i:=by unfold nx pv;grind
theorem Zka{i:Nat}(h3:3<=n)(h:i<n):nx n i≠i:=by unfold nx;grind
theorem Zf0{i:Nat}(h3:3<=n)(h:i<n):nx n (nx n i)≠i:=by unfold nx;grind
theorem ZfD{i:Nat}(h3:3<=n)(h:i<n):pv n i≠i:=by unfold pv;grind
theorem U5{i j:Nat}(h:i<n)(h':j<n)(e:nx n i=nx n j):i=j:=by unfold nx at e;grind
theorem YV{i:Nat}(h:i<n):lo n x i<n:=by unfold lo;split<;>first | exact h | exact nx_lt h
theorem Y1{i:Nat}(h:i<n):hi n x i<n:=by unfold hi;split<;>first | exact h | exact nx_lt h
theorem Zet(i:Nat):(lo n x i=i/\hi n x i=nx n i/\d n x i=1/\x i<x (nx n i))\/(lo n x i=nx n i/\hi n x i=i/\d n x i=-1/\¬ x i<x (nx n i)):=by
 unfold lo hi d;split<;>simp_all
theorem Yp(s:ZK n x y){i:Nat}(h:i<n):x (lo n x i)<x (hi n x i):=by
 have h1:=nx_lt h;have h2:=Zka s.n3 h;have h3:=s.dx i (nx n i) h h1;rcases Zet (n:=n) (x:=x) i with⟨e1,e2,_,_⟩ | ⟨e1,e2,_,_⟩<;>rw[e1,e2]<;>omega
theorem Zn8{e f:Nat}(h1:x (lo n x e)≠x (lo n x f))(h2:x (lo n x e)≠x (hi n x f))(h3:x (hi n x e)≠x (lo n x f))(h4:x (hi n x e)≠x (hi n x f)):
  e≠f/\e≠nx n f/\f≠nx n e:=by
 rcases Zet (n:=n) (x:=x) e with⟨a1,a2,_,_⟩ | ⟨a1,a2,_,_⟩<;>rcases Zet (n:=n) (x:=x) f with⟨b1,b2,_,_⟩ | ⟨b1,b2,_,_⟩ <;>
  rw[a1,b1]at h1<;>rw[a1,b2]at h2<;>rw[a2,b1]at h3<;>rw[a2,b2]at h4<;>grind
theorem ZmU(s:ZK n x y){e f:Nat}(he:e<n)(hf:f<n)(h1:x (lo n x f)<x (hi n x e))(h2:x (hi n x e)<x (hi n x f)):
  B n x y f e ↔ 0<sd n x y f (hi n x e):=by
 have xe:=Yp s he;have xf:=Yp s hf;have le:=YV (x:=x) he;have lf:=YV (x:=x) hf;have ge:=Y1 (x:=x) he;have gf:=Y1 (x:=x) hf;have o1:=s.off f (hi n x e) hf ge h1 h2;unfold B;by_cases c1:x (lo n x f)<x (lo n x e)
 ·rw[if_pos c1];have o2:=s.off f (lo n x e) hf le c1 (by omega);have nsh:=Zn8 (n:=n) (x:=x) (e:=e) (f:=f) (by omega) (by omega) (by omega) (by omega);have ap:=s.apart f e hf he (Ao nsh.1) nsh.2.2 nsh.2.1;unfold sd at *;generalize x (lo n x e)=ax at *;generalize y (lo n x e)=ay at *;generalize x (hi n x e)=bx at *;generalize y (hi n x e)=by_ at *;generalize x (lo n x f)=cx at *;generalize y (lo n x f)=cy at *;generalize x (hi n x f)=dx at *;generalize y (hi n x f)=dy at *;have i1:(dx-cx)*cr ax ay bx by_ cx cy=(ax-cx)*cr cx cy dx dy bx by_-(bx-cx)*cr cx cy dx dy ax ay:=by unfold cr;grind
  have i2:(dx-cx)*cr ax ay bx by_ dx dy=(dx-bx)*cr cx cy dx dy ax ay-(dx-ax)*cr cx cy dx dy bx by_:=by unfold cr;grind
  generalize cr ax ay bx by_ cx cy=p at *;generalize cr ax ay bx by_ dx dy=q at *;generalize cr cx cy dx dy ax ay=r at *;generalize cr cx cy dx dy bx by_=v at *;constructor
  ·intro hr;apply A1;intro hv;have hv':v<0:=by omega
   have z1:(ax-cx)*v<0:=Ab (by omega) hv';have z2:0<(bx-cx)*r:=Aw (by omega) hr;have z3:0<(dx-bx)*r:=Aw (by omega) hr;have z4:(dx-ax)*v<0:=Ab (by omega) hv';have p1:p<0:=by
    apply A1;intro hp;have:0<=(dx-cx)*p:=am (by omega) (by omega);omega
   have q1:0<q:=by
    apply A1;intro hq;have:(dx-cx)*q<=0:=Aa (by omega) (by omega);omega
   exact ap.2 ⟨hr,hv',p1,q1⟩
  ·intro hv;apply A1;intro hr;have hr':r<0:=by omega
   have z1:0<(ax-cx)*v:=Aw (by omega) hv;have z2:(bx-cx)*r<0:=Ab (by omega) hr';have z3:(dx-bx)*r<0:=Ab (by omega) hr';have z4:0<(dx-ax)*v:=Aw (by omega) hv;have p1:0<p:=by
    apply A1;intro hp;have:(dx-cx)*p<=0:=Aa (by omega) (by omega);omega
   have q1:q<0:=by
    apply A1;intro hq;have:0<=(dx-cx)*q:=am (by omega) (by omega);omega
   exact ap.1 ⟨hr',hv,p1,q1⟩
 ·rw[if_neg c1];by_cases c2:x (lo n x e)<x (lo n x f)
  ·rw[if_pos c2];have o2:=s.off e (lo n x f) he lf c2 h1;have nsh:=Zn8 (n:=n) (x:=x) (e:=e) (f:=f) (by omega) (by omega) (by omega) (by omega);have ap:=s.apart e f he hf nsh.1 nsh.2.1 nsh.2.2;unfold sd at *;generalize x (lo n x e)=ax at *;generalize y (lo n x e)=ay at *;generalize x (hi n x e)=bx at *;generalize y (hi n x e)=by_ at *;generalize x (lo n x f)=cx at *;generalize y (lo n x f)=cy at *;generalize x (hi n x f)=dx at *;generalize y (hi n x f)=dy at *;have i1:(bx-cx)*cr ax ay bx by_ dx dy=(ax-bx)*cr cx cy dx dy bx by_-(dx-bx)*cr ax ay bx by_ cx cy:=by unfold cr;grind
   have i2:(bx-cx)*cr cx cy dx dy ax ay=(ax-cx)*cr cx cy dx dy bx by_-(dx-cx)*cr ax ay bx by_ cx cy:=by unfold cr;grind
   generalize cr ax ay bx by_ cx cy=p at *;generalize cr ax ay bx by_ dx dy=q at *;generalize cr cx cy dx dy ax ay=r at *;generalize cr cx cy dx dy bx by_=v at *;constructor
   ·intro hp;apply A1;intro hv;have hv':v<0:=by omega
    have z1:0<(ax-bx)*v:=B6 (by omega) hv';have z2:(dx-bx)*p<0:=Ab (by omega) hp;have z3:0<(ax-cx)*v:=B6 (by omega) hv';have z4:(dx-cx)*p<0:=Ab (by omega) hp;have q1:0<q:=by
     apply A1;intro hq;have:(bx-cx)*q<=0:=Aa (by omega) (by omega);omega
    have r1:0<r:=by
     apply A1;intro hq;have:(bx-cx)*r<=0:=Aa (by omega) (by omega);omega
    exact ap.1 ⟨hp,q1,r1,hv'⟩
   ·intro hv;apply A1;intro hp;have hp':0<p:=by omega
    have z1:(ax-bx)*v<0:=B7 (by omega) hv;have z2:0<(dx-bx)*p:=Aw (by omega) hp';have z3:(ax-cx)*v<0:=B7 (by omega) hv;have z4:0<(dx-cx)*p:=Aw (by omega) hp';have q1:q<0:=by
     apply A1;intro hq;have:0<=(bx-cx)*q:=am (by omega) (by omega);omega
    have r1:r<0:=by
     apply A1;intro hq;have:0<=(bx-cx)*r:=am (by omega) (by omega);omega
    exact ap.2 ⟨hp',q1,r1,hv⟩
  ·rw[if_neg c2,if_neg (by omega)]
end
section
variable{n:Nat}{x y:Nat->Int}
theorem VQ(s:ZK n x y){e f:Nat}(he:e<n)(hf:f<n)(h1:x (lo n x e)=x (lo n x f))(h2:x (hi n x e)=x (hi n x f)):e=f:=by
 have l:=s.dx _ _ (YV he) (YV hf) h1;have g:=s.dx _ _ (Y1 he) (Y1 hf) h2;have a:=Zf0 s.n3 he;have b:=Zf0 s.n3 hf;rcases Zet (n:=n) (x:=x) e with⟨a1,a2,_,_⟩ | ⟨a1,a2,_,_⟩<;>rcases Zet (n:=n) (x:=x) f with⟨b1,b2,_,_⟩ | ⟨b1,b2,_,_⟩ <;>
  rw[a1,b1]at l<;>rw[a2,b2]at g
 ·exact l
 ·grind
 ·grind
 ·exact g
theorem J8(s:ZK n x y){e f:Nat}(he:e<n)(hf:f<n)(hne:e≠f)(h1:x (lo n x e)<x (hi n x f))(h2:x (lo n x f)<x (hi n x e)):
  B n x y e f ↔ ¬ B n x y f e:=by
 have xe:=Yp s he;have xf:=Yp s hf;unfold B;by_cases c1:x (lo n x e)<x (lo n x f)
 ·rw[if_pos c1,if_neg (by omega),if_pos c1];have:=s.off e (lo n x f) he (YV hf) c1 h2;omega
 ·by_cases c2:x (lo n x f)<x (lo n x e)
  ·rw[if_neg c1,if_pos c2,if_pos c2];have:=s.off f (lo n x e) hf (YV he) c2 h1;omega
  ·rw[if_neg c1,if_neg c2,if_neg c2,if_neg c1];have h3:x (hi n x e)≠x (hi n x f):=fun z=>hne (VQ s he hf (by omega) z);by_cases c3:x (hi n x e)<x (hi n x f)
   ·rw[if_pos c3,if_neg (by omega)];have:=s.off f (hi n x e) hf (Y1 he) (by omega) c3;omega
   ·rw[if_neg c3,if_pos (by omega)];have:=s.off e (hi n x f) he (Y1 hf) (by omega) (by omega);omega
theorem WG(i:Nat):¬ B n x y i i:=by
 unfold B;simp only[Int.lt_irrefl,if_false];unfold sd cr;grind
theorem Zm7(s:ZK n x y){e f k:Nat}(he:e<n)(hf:f<n)(hk:lo n x e=k\/hi n x e=k)(h1:x (lo n x f)<x k)(h2:x k<x (hi n x f)):
  B n x y f e ↔ 0<sd n x y f k:=by
 rcases hk with rfl | rfl
 ·unfold B;rw[if_pos h1]
 ·exact ZmU s he hf h1 h2
theorem ZmV(s:ZK n x y){e f k:Nat}(he:e<n)(hf:f<n)(hk:lo n x e=k\/hi n x e=k)(h1:x (lo n x f)<x k)(h2:x k<x (hi n x f)):
  B n x y e f ↔ ¬ 0<sd n x y f k:=by
 rw[<-Zm7 s he hf hk h1 h2];have xe:=Yp s he;refine J8 s he hf ?_ ?_ ?_
 ·rintro rfl;rcases hk with rfl | rfl<;>omega
 ·rcases hk with rfl | rfl<;>omega
 ·rcases hk with rfl | rfl<;>omega
end
noncomputable instance(n:Nat)(x y:Nat->Int)(j i:Nat):Decidable (B n x y j i):=by unfold B;infer_instance
noncomputable instance(n:Nat)(x:Nat->Int)(j:Nat)(t:Int):Decidable (crs n x j t):=by unfold crs;infer_instance
noncomputable def c(n:Nat)(x y:Nat->Int)(i:Nat)(t:Int):Int:=S n fun j=>if crs n x j t/\B n x y j i then d n x j else 0
noncomputable def W(n:Nat)(x y:Nat->Int)(i:Nat)(t:Int):Int:=c n x y i t+(if d n x i=1 then 1 else 0)
section
variable{n:Nat}{x y:Nat->Int}
theorem Z8(j:Nat):(lo n x j=j/\hi n x j=nx n j)\/(lo n x j=nx n j/\hi n x j=j):=by
 rcases Zet (n:=n) (x:=x) j with⟨a,b,_⟩ | ⟨a,b,_⟩
 ·exact .inl ⟨a,b⟩
 ·exact .inr ⟨a,b⟩
theorem VB(s:ZK n x y){j k:Nat}(hj:j<n)(hk:k<n)(h1:j≠k)(h2:j≠pv n k):crs n x j (x k-1) ↔ crs n x j (x k):=by
 have a1:lo n x j≠k/\hi n x j≠k:=by
  have:nx n j≠k:=fun z=>h2 (by rw[<-z,JT hj]);rcases Z8 (n:=n) (x:=x) j with⟨a,b⟩ | ⟨a,b⟩<;>rw[a,b]<;>exact⟨by assumption,by assumption⟩
 have b1:x (lo n x j)≠x k:=fun z=>a1.1 (s.dx _ _ (YV hj) hk z);have b2:x (hi n x j)≠x k:=fun z=>a1.2 (s.dx _ _ (Y1 hj) hk z);unfold crs;omega
theorem ZdY(s:ZK n x y){j k:Nat}(hj:j<n)(hk:k<n)(h1:j≠k)(h2:j≠pv n k)(h:crs n x j (x k)):x (lo n x j)<x k/\x k<x (hi n x j):=by
 have h':=(VB s hj hk h1 h2).mpr h;unfold crs at h h';omega
theorem ZmN(s:ZK n x y){k:Nat}(hk:k<n):
  (lo n x k=k\/hi n x k=k)/\(lo n x (pv n k)=k\/hi n x (pv n k)=k):=by
 have e:=Qe (n:=n) hk;constructor
 ·rcases Z8 (n:=n) (x:=x) k with⟨a,b⟩ | ⟨a,b⟩<;>simp[a,b]
 ·rcases Z8 (n:=n) (x:=x) (pv n k) with⟨a,b⟩ | ⟨a,b⟩<;>simp[a,b,e]
theorem Zm0(s:ZK n x y){k:Nat}(hk:k<n):
  ((d n x k=1/\lo n x k=k/\crs n x k (x k)/\¬ crs n x k (x k-1))\/(d n x k=-1/\hi n x k=k/\¬ crs n x k (x k)/\crs n x k (x k-1))) /\
  ((d n x (pv n k)=1/\hi n x (pv n k)=k/\¬ crs n x (pv n k) (x k)/\crs n x (pv n k) (x k-1))\/(d n x (pv n k)=-1/\lo n x (pv n k)=k/\crs n x (pv n k) (x k)/\¬ crs n x (pv n k) (x k-1))):=by
 have e:=Qe (n:=n) hk;have l1:=Yp s hk;have l2:=Yp s (pv_lt hk);unfold crs;constructor
 ·rcases Zet (n:=n) (x:=x) k with⟨a,b,c,_⟩ | ⟨a,b,c,_⟩
  ·left;rw[a]at l1 ⊢;exact⟨c,rfl,by omega,by omega⟩
  ·right;rw[b]at l1 ⊢;exact⟨c,rfl,by omega,by omega⟩
 ·rcases Zet (n:=n) (x:=x) (pv n k) with⟨a,b,c,_⟩ | ⟨a,b,c,_⟩
  ·left;rw[e]at b;rw[b]at l2 ⊢;exact⟨c,rfl,by omega,by omega⟩
  ·right;rw[e]at a;rw[a]at l2 ⊢;exact⟨c,rfl,by omega,by omega⟩
theorem ZoU(s:ZK n x y){i:Nat}{t:Int}(hi':i<n)(h0:crs n x i (t-1))(h1:crs n x i t):c n x y i (t-1)=c n x y i t:=by
 unfold c;by_cases hv:∃ k,k<n/\x k=t
 ·obtain⟨k,hk,rfl⟩:=hv;have sp:x (lo n x i)<x k/\x k<x (hi n x i):=by unfold crs at h0 h1;omega
  have hp:=pv_lt (n:=n) hk;have b1:=ZmV s hk hi' (ZmN s hk).1 sp.1 sp.2;have b2:=ZmV s hp hi' (ZmN s hk).2 sp.1 sp.2;have q:=ZkP (n:=n) (a:=k) (b:=pv n k) (f:=fun j=>if crs n x j (x k-1)/\B n x y j i then d n x j else 0) (g:=fun j=>if crs n x j (x k)/\B n x y j i then d n x j else 0)
   hk hp (Ao (ZfD s.n3 hk)) (fun j hj h1 h2=>by
    have:=VB s hj hk h1 h2;simp only[this])
  have z:=Zm0 s hk;have:(if crs n x k (x k-1)/\B n x y k i then d n x k else 0)-(if crs n x k (x k)/\B n x y k i then d n x k else 0)+((if crs n x (pv n k) (x k-1)/\B n x y (pv n k) i then d n x (pv n k) else 0)-(if crs n x (pv n k) (x k)/\B n x y (pv n k) i then d n x (pv n k) else 0))=0:=by
   simp only[b1,b2];by_cases hb:0<sd n x y i k
   ·simp[hb]
   ·rcases z.1 with⟨p1,p2,p3,p4⟩ | ⟨p1,p2,p3,p4⟩<;>rcases z.2 with⟨q1,q2,q3,q4⟩ | ⟨q1,q2,q3,q4⟩<;>simp[hb,p1,p3,p4,q1,q3,q4]
  omega
 ·refine S_congr fun j hj=>?_;have a1:x (lo n x j)≠t:=fun z=>hv ⟨_,YV hj,z⟩;have a2:x (hi n x j)≠t:=fun z=>hv ⟨_,Y1 hj,z⟩;have:crs n x j (t-1) ↔ crs n x j t:=by unfold crs;omega
  simp only[this]
theorem ZlN(s:ZK n x y){j k:Nat}(hk:k<n)(hj:j<n)(h1:j≠k)(h2:j≠pv n k)(h:crs n x j (x k)):B n x y j k ↔ B n x y j (pv n k):=by
 have sp:=ZdY s hj hk h1 h2 h;rw[Zm7 s hk hj (ZmN s hk).1 sp.1 sp.2,Zm7 s (pv_lt hk) hj (ZmN s hk).2 sp.1 sp.2]
noncomputable def tk(x:Nat->Int)(n k i:Nat):Int:=if lo n x i=k then x k else x k-1
theorem ZoT(s:ZK n x y){k:Nat}(hk:k<n):W n x y (pv n k) (tk x n k (pv n k))=W n x y k (tk x n k k):=by
 have hp:=pv_lt (n:=n) hk;have z:=Zm0 s hk;have l1:=Yp s hk;have l2:=Yp s hp;have q:=ZkP (n:=n) (a:=k) (b:=pv n k) (f:=fun j=>if crs n x j (tk x n k (pv n k))/\B n x y j (pv n k) then d n x j else 0) (g:=fun j=>if crs n x j (tk x n k k)/\B n x y j k then d n x j else 0)
   hk hp (Ao (ZfD s.n3 hk)) (fun j hj h1 h2=>by
    have e:=VB s hj hk h1 h2;have e2:∀ i,crs n x j (tk x n k i) ↔ crs n x j (x k):=fun i=>by unfold tk;split<;>first | rfl | exact e
    by_cases hc:crs n x j (x k)
    ·have:=ZlN s hk hj h1 h2 hc;simp only[e2,this]
    ·simp only[e2,hc,false_and,if_false])
 have irr1:=WG (n:=n) (x:=x) (y:=y) k;have irr2:=WG (n:=n) (x:=x) (y:=y) (pv n k);simp only[irr1,irr2,and_false,if_false]at q;unfold W c;rcases z.1 with⟨p1,p2,p3,p4⟩ | ⟨p1,p2,p3,p4⟩<;>rcases z.2 with⟨q1,q2,q3,q4⟩ | ⟨q1,q2,q3,q4⟩
 ·have t1:tk x n k k=x k:=by unfold tk;rw[if_pos p2]
  have t2:tk x n k (pv n k)=x k-1:=by
   unfold tk;rw[if_neg];intro z;rw[z,q2]at l2;omega
  simp only[t1,t2,p1,p3,p4,q1,q3,q4]at q ⊢;simp at q ⊢;omega
 ·have t1:tk x n k k=x k:=by unfold tk;rw[if_pos p2]
  have t2:tk x n k (pv n k)=x k:=by unfold tk;rw[if_pos q2]
  have an:=J8 s hk hp (Ao (ZfD s.n3 hk)) (by rw[p2];rw[q2]at l2;exact l2) (by rw[q2];rw[p2]at l1;exact l1);simp only[t1,t2,p1,p3,p4,q1,q3,q4,an]at q ⊢;by_cases hb:B n x y (pv n k) k<;>simp[hb]at q ⊢<;>omega
 ·have t1:tk x n k k=x k-1:=by
   unfold tk;rw[if_neg];intro z;rw[z,p2]at l1;omega
  have t2:tk x n k (pv n k)=x k-1:=by
   unfold tk;rw[if_neg];intro z;rw[z,q2]at l2;omega
  have an:=J8 s hk hp (Ao (ZfD s.n3 hk)) (by rw[q2];rw[p2]at l1;exact l1) (by rw[p2];rw[q2]at l2;exact l2);simp only[t1,t2,p1,p3,p4,q1,q3,q4,an]at q ⊢;by_cases hb:B n x y (pv n k) k<;>simp[hb]at q ⊢<;>omega
 ·have t1:tk x n k k=x k-1:=by
   unfold tk;rw[if_neg];intro z;rw[z,p2]at l1;omega
  have t2:tk x n k (pv n k)=x k:=by unfold tk;rw[if_pos q2]
  simp only[t1,t2,p1,p3,p4,q1,q3,q4]at q ⊢;simp at q ⊢;omega
theorem ZnW(s:ZK n x y){i:Nat}(hi':i<n):∀(m:Nat) (t:Int),t=x (lo n x i)+m->crs n x i t->W n x y i t=W n x y i (x (lo n x i)):=by
 intro m
 induction m with
 | zero=>intro t e _;rw[e];simp
 | succ m ih=>
  intro t e h;have h0:crs n x i (t-1):=by unfold crs at h ⊢;omega
  have:=ih (t-1) (by omega) h0;rw[<-this];unfold W;rw[ZoU s hi' h0 h]
theorem ZkO(s:ZK n x y){i:Nat}(hi':i<n){t:Int}(h:crs n x i t):W n x y i t=W n x y i (x (lo n x i)):=
 ZnW s hi' (t-x (lo n x i)).toNat t (by unfold crs at h;omega) h
theorem ZmJ(s:ZK n x y){k:Nat}(hk:k<n):crs n x k (tk x n k k)/\crs n x (pv n k) (tk x n k (pv n k)):=by
 have z:=Zm0 s hk;have l1:=Yp s hk;have l2:=Yp s (pv_lt hk);constructor
 ·rcases z.1 with⟨p1,p2,p3,p4⟩ | ⟨p1,p2,p3,p4⟩
  ·unfold tk;rw[if_pos p2];exact p3
  ·unfold tk;rw[if_neg];exact p4;intro z;rw[z,p2]at l1;omega
 ·rcases z.2 with⟨p1,p2,p3,p4⟩ | ⟨p1,p2,p3,p4⟩
  ·unfold tk;rw[if_neg];exact p4;intro z;rw[z,p2]at l2;omega
  ·unfold tk;rw[if_pos p2];exact p3
noncomputable def w(n:Nat)(x y:Nat->Int)(i:Nat):Int:=W n x y i (x (lo n x i))
theorem Zk4(s:ZK n x y){k:Nat}(hk:k<n):w n x y (pv n k)=w n x y k:=by
 have a:=ZmJ s hk;have b:=ZoT s hk;rw[ZkO s hk a.1,ZkO s (pv_lt hk) a.2]at b;exact b
theorem Zk5(s:ZK n x y):∀{k:Nat},k<n->w n x y k=w n x y 0:=by
 intro k
 induction k with
 | zero=>intro _;rfl
 | succ k ih=>
  intro h;have:=Zk4 s h;have e:pv n (k+1)=k:=by unfold pv;simp
  rw[e]at this;rw[<-this,ih (by omega)]
theorem ZcV(s:ZK n x y){i:Nat}(hi':i<n){t:Int}(h:crs n x i t):c n x y i t+(if d n x i=1 then 1 else 0)=w n x y 0:=by
 have e:=ZkO s hi' h;have e2:=Zk5 s hi';exact e.trans e2
theorem ZiK(s:ZK n x y)(hm:∀ i,0<i->i<n->x 0<x i):w n x y 0=if 0<cr (x (n-1)) (y (n-1)) (x 0) (y 0) (x 1) (y 1) then 1 else 0:=by
 have n3:=s.n3;have e1:nx n 0=1:=by unfold nx;rw[if_neg];omega
 have up:x 0<x (nx n 0):=by rw[e1];exact hm 1 (by omega) (by omega)
 have l0:lo n x 0=0:=by unfold lo;rw[if_pos up]
 have h0:hi n x 0=1:=by unfold hi;rw[if_pos up,e1]
 have d0:d n x 0=1:=by unfold d;rw[if_pos up]
 have ep:pv n 0=n-1:=by unfold pv;simp
 have e2:nx n (n-1)=0:=by unfold nx;rw[if_pos];omega
 have dn:¬ x (n-1)<x (nx n (n-1)):=by rw[e2];have:=hm (n-1) (by omega) (by omega);omega
 have l1:lo n x (n-1)=0:=by unfold lo;rw[if_neg dn,e2]
 have h1:hi n x (n-1)=n-1:=by unfold hi;rw[if_neg dn]
 have d1:d n x (n-1)=-1:=by unfold d;rw[if_neg dn]
 unfold w W c;rw[Zc3 (a:=n-1) (by omega) (fun j hj hne=>?_)]
 ·rw[l0,d0,d1];have cq:crs n x (n-1) (x 0):=by unfold crs;rw[l1,h1];have:=hm (n-1) (by omega) (by omega);omega
  have bq:B n x y (n-1) 0 ↔ ¬ 0<cr (x (n-1)) (y (n-1)) (x 0) (y 0) (x 1) (y 1):=by
   rw[J8 s (by omega) (by omega) (by omega) (by rw[l1,h0];exact hm 1 (by omega) (by omega)) (by rw[l0,h1];exact hm (n-1) (by omega) (by omega))];have same:cr (x (n-1)) (y (n-1)) (x 0) (y 0) (x 1) (y 1)=cr (x 0) (y 0) (x 1) (y 1) (x (n-1)) (y (n-1)):=by unfold cr;grind
   have same2:cr (x (n-1)) (y (n-1)) (x 0) (y 0) (x 1) (y 1)=- cr (x 0) (y 0) (x (n-1)) (y (n-1)) (x 1) (y 1):=by unfold cr;grind
   have u1:sd n x y 0 (n-1)=cr (x 0) (y 0) (x 1) (y 1) (x (n-1)) (y (n-1)):=by unfold sd;rw[l0,h0]
   have u2:sd n x y (n-1) 1=cr (x 0) (y 0) (x (n-1)) (y (n-1)) (x 1) (y 1):=by unfold sd;rw[l1,h1]
   unfold B;rw[l0,l1,h0,h1,if_neg (by omega),if_neg (by omega),u1,u2];split<;>omega
  simp only[cq,bq,true_and];split<;>split<;>simp_all
 ·rw[if_neg];rintro⟨hc,hb⟩;by_cases hj0:j=0
  ·rw[hj0]at hb;exact WG 0 hb
  ·have a:=Z8 (n:=n) (x:=x) j;have b:nx n j≠0:=by unfold nx;split<;>omega
   have c1:x 0<x (lo n x j):=by
    rcases a with⟨a,_⟩ | ⟨a,_⟩<;>rw[a]
    ·exact hm j (by omega) hj
    ·exact hm _ (by omega) (nx_lt hj)
   unfold crs at hc;rw[l0]at hc;omega
end
theorem Zc4:∀(n:Nat) (f g:Nat->Int),S n (fun j=>f j+g j)=S n f+S n g
 | 0,_,_=>rfl
 | n+1,f,g=>by simp only[S,Zc4 n f g];omega
theorem Wz(k:Int):∀(n:Nat) (f:Nat->Int),S n (fun j=>k*f j)=k*S n f
 | 0,_=>by simp[S]
 | n+1,f=>by simp only[S,Wz k n f];grind
theorem Zb1:∀(n:Nat),S n (fun _=>0)=0
 | 0=>rfl
 | n+1=>by simp only[S,Zb1 n];rfl
theorem Zhl:∀(m n:Nat) (f:Nat->Nat->Int),S m (fun i=>S n (fun j=>f i j))=S n (fun j=>S m (fun i=>f i j))
 | 0,n,f=>by simp only[S,Zb1]
 | m+1,n,f=>by simp only[S,Zhl m n f,Zc4]
theorem Za1:∀{n:Nat} {f:Nat->Int},(∀ j,j<n->0<=f j)->0<=S n f
 | 0,_,_=>by simp[S]
 | n+1,f,h=>by
  have:=Za1 (n:=n) (f:=f) (fun j hj=>h j (by omega));have:=h n (by omega);simp only[S];omega
theorem ZmQ{n:Nat}{f:Nat->Int}(h:∀ j,j<n->0<=f j){k:Nat}(hk:k<n)(hp:0<f k):0<S n f:=by
 induction n with
 | zero=>omega
 | succ n ih=>
  simp only[S];by_cases e:k=n
  ·subst e;have:=Za1 (n:=k) (f:=f) (fun j hj=>h j (by omega));omega
  ·have:=ih (fun j hj=>h j (by omega)) (by omega);have:=h n (by omega);omega
theorem ZkQ{n:Nat}(hn:0<n)(g:Nat->Int):S n (fun i=>g i-g (nx n i))=0:=by
 have part:∀ m,m+1<=n->S m (fun i=>g i-g (nx n i))=g 0-g m:=by
  intro m
  induction m with
  | zero=>intro _;simp[S]
  | succ m ih=>
   intro h;have e:nx n m=m+1:=by unfold nx;rw[if_neg];omega
   simp only[S,ih (by omega),e];omega
 obtain⟨m,rfl⟩:∃ m,n=m+1:=⟨n-1,by omega⟩;have e:nx (m+1) m=0:=by unfold nx;simp
 simp only[S,part m (by omega),e];omega
theorem ZaW(n:Nat)(f:Nat->Int):∃ R:Nat,∀ i,i<n->-(R:Int)<=f i/\f i<R:=by
 induction n with
 | zero=>exact⟨0,fun i h=>by omega⟩
 | succ n ih=>
  obtain⟨R,h⟩:=ih;refine⟨R+(f n).natAbs+1,fun i hi=>?_⟩;by_cases e:i=n
  ·subst e;omega
  ·have:=h i (by omega);omega
theorem Zmc(h b:Int)(hb:b<=h):∀ N:Nat,S N (fun m=>if h<=b+m then 1 else 0)=if h<=b+N then b+N-h else 0
 | 0=>by simp only[S];split<;>omega
 | N+1=>by
  simp only[S,Zmc h b hb N];split<;>split<;>omega
theorem Zgo{n:Nat}(A:Nat->Prop)[DecidablePred A](h dd:Nat->Int)(w0:Int)(hw:w0=0\/w0=1)
  (hd:∀ i,i<n->dd i=1\/dd i=-1)
  (inj:∀ i j,i<n->j<n->A i->A j->h i=h j->i=j)
  (low:∀ i,i<n->A i->S n (fun j=>if A j/\h j<h i then dd j else 0)+(if dd i=1 then 1 else 0)=w0)
  (tot:S n (fun j=>if A j then dd j else 0)=0):
  0<=(2*w0-1)*S n (fun j=>if A j then-dd j*h j else 0) /\
  ((∃ i,i<n/\A i/\dd i=2*w0-1)->0<(2*w0-1)*S n (fun j=>if A j then-dd j*h j else 0)):=by
 obtain⟨R,hR⟩:=ZaW n h;have pat:∀ i,i<n->A i->S n (fun j=>if A j/\h j<=h i then dd j else 0)=w0+dd i-(if dd i=1 then 1 else 0):=by
  intro i hi ai;have e:=low i hi ai;have q:S n (fun j=>if A j/\h j<=h i then dd j else 0)=S n (fun j=>(if A j/\h j<h i then dd j else 0)+(if j=i then dd i else 0)):=by
   refine S_congr fun j hj=>?_;by_cases aj:A j
   ·by_cases e2:j=i
    ·subst e2;simp[aj]
    ·have ne:h j≠h i:=fun z=>e2 (inj j i hj hi aj ai z);by_cases l:h j<h i
     ·have:h j<=h i:=by omega
      simp[aj,l,this,e2]
     ·have:¬ h j<=h i:=by omega
      simp[aj,l,this,e2]
   ·have e2:j≠i:=fun z=>aj (z ▸ ai);simp[aj,e2]
  rw[q,Zc4,Zc3 (a:=i) (f:=fun j=>if j=i then dd i else 0) hi (fun j _ hne=>by simp[hne])];simp only[if_true];omega
 have ps:∀ m:Nat,0<=(2*w0-1)*S n (fun j=>if A j/\h j<=-(R:Int)-1+m then dd j else 0):=by
  intro m
  induction m with
  | zero=>
   have:S n (fun j=>if A j/\h j<=-(R:Int)-1+(0:Nat) then dd j else 0)=0:=by
    refine(S_congr fun j hj=>?_).trans (Zb1 n);have:=hR j hj;rw[if_neg];rintro⟨_,z⟩;omega
   rw[this];simp
  | succ m ih=>
   by_cases ex:∃ i,i<n/\A i/\h i=-(R:Int)-1+((m+1:Nat):Int)
   ·obtain⟨i,hi,ai,e⟩:=ex;rw[<-e,pat i hi ai];rcases hw with rfl | rfl<;>rcases hd i hi with e1 | e1<;>simp[e1]
   ·have:S n (fun j=>if A j/\h j<=-(R:Int)-1+((m+1:Nat):Int) then dd j else 0)=S n (fun j=>if A j/\h j<=-(R:Int)-1+m then dd j else 0):=by
     refine S_congr fun j hj=>?_;by_cases aj:A j
     ·have ne:h j≠-(R:Int)-1+((m+1:Nat):Int):=fun z=>ex ⟨j,hj,aj,z⟩;have:h j<=-(R:Int)-1+((m+1:Nat):Int) ↔ h j<=-(R:Int)-1+m:=by omega
      simp only[aj,this]
     ·simp[aj]
    rw[this];exact ih
 have lay:S n (fun j=>if A j then-dd j*h j else 0)=S (2*R+1) (fun m=>S n (fun j=>if A j/\h j<=-(R:Int)-1+m then dd j else 0)):=by
  rw[Zhl];have q:S n (fun j=>S (2*R+1) (fun m=>if A j/\h j<=-(R:Int)-1+m then dd j else 0))=S n (fun j=>(if A j then-dd j*h j else 0)+R*(if A j then dd j else 0)):=by
   refine S_congr fun j hj=>?_;by_cases aj:A j
   ·have hr:=hR j hj;have e:S (2*R+1) (fun m=>if A j/\h j<=-(R:Int)-1+m then dd j else 0)=dd j*S (2*R+1) (fun m=>if h j<=(-(R:Int)-1)+m then 1 else 0):=by
     rw[<-Wz];refine S_congr fun m _=>?_;simp only[aj,true_and];split<;>simp
    rw[e,Zmc _ _ (by omega)];simp only[aj,if_true];rw[if_pos (by omega)];have:(-(R:Int)-1)+((2*R+1:Nat):Int)-h j=R-h j:=by omega
    rw[this];grind
   ·simp only[aj,false_and,if_false,Zb1];simp
  rw[q,Zc4,Wz,tot];simp
 have lay2:(2*w0-1)*S n (fun j=>if A j then-dd j*h j else 0)=S (2*R+1) (fun m=>(2*w0-1)*S n (fun j=>if A j/\h j<=-(R:Int)-1+m then dd j else 0)):=by
  rw[lay,Wz]
 rw[lay2];refine⟨Za1 fun m _=>ps m,?_⟩;rintro⟨i,hi,ai,di⟩;have hr:=hR i hi;refine ZmQ (fun m _=>ps m) (k:=(h i+R+1).toNat) (by omega) ?_;have e:-(R:Int)-1+((h i+R+1).toNat:Int)=h i:=by omega
 rw[e,pat i hi ai];rcases hw with rfl | rfl<;>simp at di<;>simp[di]
section
variable(n:Nat)(x y:Nat->Int)
noncomputable def bw(i:Nat):Int:=x (hi n x i)-x (lo n x i)
def Pr:Nat->Int
 | 0=>1
 | m+1=>Pr m*bw n x m
noncomputable def K(i:Nat):Int:=Pr n x n/bw n x i
noncomputable def H(t:Int)(i:Nat):Int:=K n x i*(2*y (lo n x i)*bw n x i+(y (hi n x i)-y (lo n x i))*(2*t+1-2*x (lo n x i)))
def A2:Int:=S n fun i=>x i*y (nx n i)-y i*x (nx n i)
end
section
variable{n:Nat}{x y:Nat->Int}
theorem US(s:ZK n x y){i:Nat}(h:i<n):0<bw n x i:=by have:=Yp s h;unfold bw;omega
theorem Zjl(s:ZK n x y):∀{m:Nat},m<=n->0<Pr n x m:=by
 intro m
 induction m with
 | zero=>intro _;unfold Pr;decide
 | succ m ih=>intro h;exact Aw (ih (by omega)) (US s (by omega))
theorem ZmR{i:Nat}:∀{m:Nat},i<m->bw n x i ∣ Pr n x m:=by
 intro m
 induction m with
 | zero=>intro h;omega
 | succ m ih=>
  intro h;unfold Pr;by_cases e:i=m
  ·subst e;exact Int.dvd_mul_left _ _
  ·exact Int.dvd_trans (ih (by omega)) (Int.dvd_mul_right _ _)
theorem ZkT(s:ZK n x y){i:Nat}(h:i<n):K n x i*bw n x i=Pr n x n:=Int.ediv_mul_cancel (ZmR h)
noncomputable def Nn(n:Nat)(x y:Nat->Int)(j i:Nat)(s:Int):Int:=
 bw n x j*(y (lo n x i)*bw n x i+(y (hi n x i)-y (lo n x i))*(s-x (lo n x i)))-bw n x i*(y (lo n x j)*bw n x j+(y (hi n x j)-y (lo n x j))*(s-x (lo n x j)))
theorem Zhr(j i:Nat)(a b s:Int):(b-a)*Nn n x y j i s=(b-s)*Nn n x y j i a+(s-a)*Nn n x y j i b:=by unfold Nn;grind
theorem Zd5(j i:Nat):Nn n x y j i (x (lo n x i))=bw n x i*sd n x y j (lo n x i):=by unfold Nn sd cr bw;grind
theorem Zjm(j i:Nat):Nn n x y j i (x (lo n x j))=- (bw n x j*sd n x y i (lo n x j)):=by unfold Nn sd cr bw;grind
theorem Zd6(j i:Nat):Nn n x y j i (x (hi n x i))=bw n x i*sd n x y j (hi n x i):=by unfold Nn sd cr bw;grind
theorem Zjn(j i:Nat):Nn n x y j i (x (hi n x j))=- (bw n x j*sd n x y i (hi n x j)):=by unfold Nn sd cr bw;grind
theorem B_H(s:ZK n x y){j i:Nat}{t:Int}(hj:j<n)(hi':i<n)(hne:j≠i)(cj:crs n x j t)(ci:crs n x i t)(hb:B n x y j i):H n x y t j<H n x y t i:=by
 have wi:=US s hi';have wj:=US s hj;unfold crs at cj ci;have hb':¬ B n x y i j:=by
  have:=J8 s hi' hj (Ao hne) (by omega) (by omega);exact fun z=>(this.mp z) hb
 obtain⟨a,ha1,ha2,ha3⟩:∃ a:Int,a<=t/\0<=Nn n x y j i a/\(Nn n x y j i a=0->x (lo n x i)=x (lo n x j)):=by
  by_cases c1:x (lo n x j)<x (lo n x i)
  ·refine⟨x (lo n x i),by omega,?_,?_⟩<;>rw[Zd5]<;>unfold B at hb<;>rw[if_pos c1]at hb<;>have:=Aw wi hb<;>omega
  ·by_cases c2:x (lo n x i)<x (lo n x j)
   ·have hb2:=hb;unfold B at hb2;rw[if_neg c1,if_pos c2]at hb2;have:=Ab wj hb2;refine⟨x (lo n x j),by omega,?_,?_⟩<;>rw[Zjm]<;>omega
   ·have e:=s.dx _ _ (YV (x:=x) hi') (YV (x:=x) hj) (by omega);refine⟨x (lo n x i),by omega,?_,fun _=>by omega⟩;rw[Zd5,e];have:sd n x y j (lo n x j)=0:=by unfold sd cr;grind
    rw[this];simp
 obtain⟨b,hb1,hb2,hb3⟩:∃ b:Int,t+1<=b/\0<=Nn n x y j i b/\(Nn n x y j i b=0->x (hi n x i)=x (hi n x j)):=by
  by_cases c1:x (hi n x j)<x (hi n x i)
  ·have q:=ZmU s hj hi' (by omega) c1;have o:=s.off i (hi n x j) hi' (Y1 hj) (by omega) c1;have:sd n x y i (hi n x j)<0:=by
    have:¬ 0<sd n x y i (hi n x j):=fun z=>hb' (q.mpr z);omega
   have:=Ab wj this;refine⟨x (hi n x j),by omega,?_,?_⟩<;>rw[Zjn]<;>omega
  ·by_cases c2:x (hi n x i)<x (hi n x j)
   ·have q:=ZmU s hi' hj (by omega) c2;have:=Aw wi (q.mp hb);refine⟨x (hi n x i),by omega,?_,?_⟩<;>rw[Zd6]<;>omega
   ·have e:=s.dx _ _ (Y1 (x:=x) hi') (Y1 (x:=x) hj) (by omega);refine⟨x (hi n x i),by omega,?_,fun _=>by omega⟩;rw[Zd6,e];have:sd n x y j (hi n x j)=0:=by unfold sd cr;grind
    rw[this];simp
 have nz:0<Nn n x y j i a\/0<Nn n x y j i b:=by
  by_cases z1:Nn n x y j i a=0
  ·by_cases z2:Nn n x y j i b=0
   ·exact absurd (VQ s hi' hj (ha3 z1) (hb3 z2)) (Ao hne)
   ·omega
  ·omega
 have l1:=Zhr (n:=n) (x:=x) (y:=y) j i a b t;have l2:=Zhr (n:=n) (x:=x) (y:=y) j i a b (t+1);have pos:0<(b-a)*(Nn n x y j i t+Nn n x y j i (t+1)):=by
  have e:(b-a)*(Nn n x y j i t+Nn n x y j i (t+1))=(2*b-2*t-1)*Nn n x y j i a+(2*t+1-2*a)*Nn n x y j i b:=by
   rw[Int.mul_add,l1,l2];grind
  rw[e];have z1:0<=(2*b-2*t-1)*Nn n x y j i a:=am (by omega) ha2;have z2:0<=(2*t+1-2*a)*Nn n x y j i b:=am (by omega) hb2;rcases nz with z | z
  ·have:0<(2*b-2*t-1)*Nn n x y j i a:=Aw (by omega) z;omega
  ·have:0<(2*t+1-2*a)*Nn n x y j i b:=Aw (by omega) z;omega
 have pos2:0<Nn n x y j i t+Nn n x y j i (t+1):=by
  apply A1;intro z;have:(b-a)*(Nn n x y j i t+Nn n x y j i (t+1))<=0:=Aa (by omega) (by omega);omega
 have ki:=ZkT s hi';have kj:=ZkT s hj;have pp:=Zjl s (A7 n);have e:bw n x i*bw n x j*(H n x y t i-H n x y t j)=Pr n x n*(Nn n x y j i t+Nn n x y j i (t+1)):=by
  have e1:bw n x i*bw n x j*H n x y t i=Pr n x n*(bw n x j*(2*y (lo n x i)*bw n x i+(y (hi n x i)-y (lo n x i))*(2*t+1-2*x (lo n x i)))):=by
   unfold H;rw[<-ki];grind
  have e2:bw n x i*bw n x j*H n x y t j=Pr n x n*(bw n x i*(2*y (lo n x j)*bw n x j+(y (hi n x j)-y (lo n x j))*(2*t+1-2*x (lo n x j)))):=by
   unfold H;rw[<-kj];grind
  rw[Int.mul_sub,e1,e2];unfold Nn;grind
 apply A1;intro z;have z1:bw n x i*bw n x j*(H n x y t i-H n x y t j)<=0:=Aa (Ai (Aw wi wj)) (by omega);have z2:=Aw pp pos2;omega
theorem Zn2(s:ZK n x y){i:Nat}(h:i<n)(b:Int)(hb:b<=x (lo n x i)):∀ T:Nat,
  S T (fun m=>if crs n x i (b+m) then H n x y (b+m) i else 0) =
   if b+T<=x (lo n x i) then 0 else if b+T<=x (hi n x i) then K n x i*(2*y (lo n x i)*bw n x i*(b+T-x (lo n x i))+(y (hi n x i)-y (lo n x i))*((b+T-x (lo n x i))*(b+T-x (lo n x i))))
   else Pr n x n*(bw n x i*(y (lo n x i)+y (hi n x i))):=by
 have lh:=Yp s h;have km:=ZkT s h;have full:∀ z:Int,z=x (hi n x i)->K n x i*(2*y (lo n x i)*bw n x i*(z-x (lo n x i))+(y (hi n x i)-y (lo n x i))*((z-x (lo n x i))*(z-x (lo n x i))))=Pr n x n*(bw n x i*(y (lo n x i)+y (hi n x i))):=by
  intro z e;have:z-x (lo n x i)=bw n x i:=by unfold bw;omega
  rw[this,<-km];grind
 intro T
 induction T with
 | zero=>simp only[S];rw[if_pos (by omega)]
 | succ T ih=>
  simp only[S,ih];by_cases c1:b+T+1<=x (lo n x i)
  ·rw[if_pos (by omega),if_neg (by unfold crs;omega),if_pos (by omega)];rfl
  ·by_cases c2:b+T+1<=x (hi n x i)
   ·have cc:crs n x i (b+T):=by unfold crs;omega
    rw[if_pos cc,if_neg (c:=b+((T+1:Nat):Int)<=x (lo n x i)) (by omega),if_pos (c:=b+((T+1:Nat):Int)<=x (hi n x i)) (by omega)];have e:((T+1:Nat):Int)=(T:Int)+1:=by omega
    rw[e];unfold H;by_cases c3:b+T<=x (lo n x i)
    ·rw[if_pos c3];have:b+(T:Int)=x (lo n x i):=by omega
     have e3:b+((T:Int)+1)=x (lo n x i)+1:=by omega
     rw[this,e3];grind
    ·rw[if_neg c3,if_pos (by omega)];grind
   ·have cc:¬ crs n x i (b+T):=by unfold crs;omega
    rw[if_neg cc,if_neg (c:=b+((T+1:Nat):Int)<=x (lo n x i)) (by omega),if_neg (c:=b+((T+1:Nat):Int)<=x (hi n x i)) (by omega)];rw[if_neg (by omega)];by_cases c3:b+T<=x (hi n x i)
    ·rw[if_pos c3,full (b+T) (by omega)];simp
    ·rw[if_neg c3];simp
theorem ZkU(s:ZK n x y):Pr n x n*A2 n x y=S n (fun i=>- d n x i*(Pr n x n*(bw n x i*(y (lo n x i)+y (hi n x i))))):=by
 have e1:A2 n x y=S n (fun i=>- d n x i*(bw n x i*(y (lo n x i)+y (hi n x i)))):=by
  have z:=ZkQ (n:=n) (by have:=s.n3;omega) (fun i=>- (x i*y i));have:A2 n x y=S n (fun i=>- d n x i*(bw n x i*(y (lo n x i)+y (hi n x i)))+(- (x i*y i) - - (x (nx n i)*y (nx n i)))):=by
   unfold A2;refine S_congr fun i hi'=>?_;unfold bw;rcases Zet (n:=n) (x:=x) i with⟨a,b,c,_⟩ | ⟨a,b,c,_⟩<;>rw[a,b,c]<;>grind
  rw[this,Zc4,z];simp
 rw[e1,<-Wz];refine S_congr fun i _=>?_;grind
theorem Zoo(s:ZK n x y)(t:Int):S n (fun j=>if crs n x j t then d n x j else 0)=0:=by
 have z:=ZkQ (n:=n) (by have:=s.n3;omega) (fun i=>if x i<=t then 1 else 0);refine(S_congr fun i hi'=>?_).trans z;have l:=Yp s hi';have q:crs n x i t ↔ x (lo n x i)<=t/\t<x (hi n x i):=Iff.rfl;simp only[q];rcases Zet (n:=n) (x:=x) i with⟨a,b,c,_⟩ | ⟨a,b,c,_⟩<;>rw[a,b]at l<;>simp only[a,b,c]<;>split<;>split<;>split<;>omega
theorem ZbZ(s:ZK n x y)(hm:∀ i,0<i->i<n->x 0<x i):
  0<(2*(if 0<cr (x (n-1)) (y (n-1)) (x 0) (y 0) (x 1) (y 1) then 1 else 0:Int)-1)*A2 n x y:=by
 have n3:=s.n3;have hw:=ZiK s hm;generalize hq:(if 0<cr (x (n-1)) (y (n-1)) (x 0) (y 0) (x 1) (y 1) then 1 else 0:Int)=w0 at *;have hw0:w0=0\/w0=1:=by rw[<-hq];split<;>simp
 have gap:∀ t:Int,0<=(2*w0-1)*S n (fun j=>if crs n x j t then-d n x j*H n x y t j else 0) /\
   ((∃ i,i<n/\crs n x i t/\d n x i=2*w0-1)->0<(2*w0-1)*S n (fun j=>if crs n x j t then-d n x j*H n x y t j else 0)):=by
  intro t;have ord:∀ i j,i<n->j<n->crs n x i t->crs n x j t->i≠j->(B n x y j i ↔ H n x y t j<H n x y t i):=by
   intro i j hi' hj ci cj hne;have an:B n x y i j ↔ ¬ B n x y j i:=J8 s hi' hj hne (by unfold crs at ci cj;omega) (by unfold crs at ci cj;omega);constructor
   ·exact fun hb=>B_H s hj hi' (Ao hne) cj ci hb
   ·intro hl;apply A1;intro hb;have:=B_H s hi' hj hne ci cj (an.mpr hb);omega
  refine Zgo (fun j=>crs n x j t) (H n x y t) (d n x) w0 hw0 ?_ ?_ ?_ (Zoo s t)
  ·intro i _;rcases Zet (n:=n) (x:=x) i with⟨_,_,c,_⟩ | ⟨_,_,c,_⟩<;>simp[c]
  ·intro i j hi' hj ci cj e;apply A1;intro hne;have a:=ord i j hi' hj ci cj hne;have b:=ord j i hj hi' cj ci (Ao hne);have an:B n x y i j ↔ ¬ B n x y j i:=J8 s hi' hj hne (by unfold crs at ci cj;omega) (by unfold crs at ci cj;omega);rw[a,b]at an;omega
  ·intro i hi' ci;have:=ZcV s hi' ci;rw[hw]at this;rw[<-this];unfold c
   congr 1
   refine S_congr fun j hj=>?_;by_cases cj:crs n x j t
   ·by_cases e:j=i
    ·subst e;simp[WG]
    ·have:=ord i j hi' hj ci cj (Ao e);simp only[cj,this]
   ·simp only[cj,false_and]
 obtain⟨R,hR⟩:=ZaW n (fun i=>x i-x 0);have e:Pr n x n*A2 n x y=S (R+1) (fun m=>S n (fun j=>if crs n x j (x 0+m) then-d n x j*H n x y (x 0+m) j else 0)):=by
  rw[ZkU s,Zhl];refine S_congr fun i hi'=>?_;have lb:∀ k,k<n->x 0<=x k:=fun k hk=>by
   by_cases z:k=0
   ·subst z;omega
   ·have:=hm k (by omega) hk;omega
  have hs:=Zn2 s hi' (x 0) (lb _ (YV hi')) (R+1);have l:=Yp s hi';have u:=hR _ (Y1 (x:=x) hi');rw[if_neg (by omega),if_neg (by omega)]at hs;rw[<-hs,<-Wz];refine S_congr fun m _=>?_;split<;>simp
 have pp:=Zjl s (A7 n);have tot:0<Pr n x n*((2*w0-1)*A2 n x y):=by
  have e2:Pr n x n*((2*w0-1)*A2 n x y)=(2*w0-1)*(Pr n x n*A2 n x y):=by grind
  rw[e2,e,<-Wz];refine ZmQ (fun m _=>(gap _).1) (k:=0) (by omega) ((gap _).2 ?_);have e1:nx n 0=1:=by unfold nx;rw[if_neg];omega
  have up:x 0<x (nx n 0):=by rw[e1];exact hm 1 (by omega) (by omega)
  have e3:nx n (n-1)=0:=by unfold nx;rw[if_pos];omega
  have dn:¬ x (n-1)<x (nx n (n-1)):=by rw[e3];have:=hm (n-1) (by omega) (by omega);omega
  rcases hw0 with rfl | rfl
  ·refine⟨n-1,by omega,?_,by unfold d;rw[if_neg dn];rfl⟩;unfold crs lo hi;rw[if_neg dn,if_neg dn,e3];have:=hm (n-1) (by omega) (by omega);simp;omega
  ·refine⟨0,by omega,?_,by unfold d;rw[if_pos up];rfl⟩;unfold crs lo hi;rw[if_pos up,if_pos up];simp;omega
 apply A1;intro z;have:Pr n x n*((2*w0-1)*A2 n x y)<=0:=Aa (by omega) (by omega);omega
end
abbrev P2:=Int×Int
noncomputable def turn(a b c:P2):Int:=(b.1-a.1)*(c.2-a.2)-(b.2-a.2)*(c.1-a.1)
noncomputable def onS(a b c:P2):Prop:=turn a b c=0/\(min a.1 b.1<=c.1/\c.1<=max a.1 b.1)/\(min a.2 b.2<=c.2/\c.2<=max a.2 b.2)
noncomputable def meet(a b c d:P2):Prop:=onS a b c\/onS a b d\/onS c d a\/onS c d b\/(turn a b c*turn a b d<0/\turn c d a*turn c d b<0)
def lexlt(a b:P2):Prop:=a.1<b.1\/(a.1=b.1/\a.2<b.2)
structure Good(n:Nat)(p:Nat->P2):Prop where
 n3:3<=n
 inj:∀ i j,i<n->j<n->p i=p j->i=j
 turns:∀ i,i<n->turn (p i) (p (nx n i)) (p (nx n (nx n i)))≠0
 apart:∀ i j,i<n->j<n->i≠j->i≠nx n j->j≠nx n i->¬ meet (p i) (p (nx n i)) (p j) (p (nx n j))
def area(n:Nat)(p:Nat->P2):Int:=S n fun i=>(p i).1*(p (nx n i)).2-(p i).2*(p (nx n i)).1
theorem onS_symm{a b c:P2}(h:onS a b c):onS b a c:=by
 unfold onS turn at *;obtain⟨h1,h2,h3⟩:=h;refine⟨by grind,by rw[Int.min_comm,Int.max_comm];exact h2,by rw[Int.min_comm,Int.max_comm];exact h3⟩
theorem Zbl{a b c:P2}(h:turn a b c=0)(h1:lexlt a c)(h2:lexlt c b):onS a b c:=by
 unfold turn at h;unfold lexlt at h1 h2;obtain⟨ax,ay⟩:=a;obtain⟨bx,by_⟩:=b;obtain⟨cx,cy⟩:=c;simp only at *;refine⟨h,?_⟩;simp only;have hx:ax<=cx/\cx<=bx:=by omega
 refine⟨by omega,?_⟩;by_cases e:ax=bx
 ·omega
 ·have w:0<bx-ax:=by omega
  have e1:(bx-ax)*(cy-ay)=(by_-ay)*(cx-ax):=by omega
  have e2:(bx-ax)*(by_-cy)=(by_-ay)*(bx-cx):=by grind
  by_cases s:ay<=by_
  ·have z1:0<=(by_-ay)*(cx-ax):=am (by omega) (by omega);have z2:0<=(by_-ay)*(bx-cx):=am (by omega) (by omega);have y1:0<=cy-ay:=by
    apply A1;intro q;have:=Ab w (show cy-ay<0 by omega);omega
   have y2:0<=by_-cy:=by
    apply A1;intro q;have:=Ab w (show by_-cy<0 by omega);omega
   omega
  ·have z1:(by_-ay)*(cx-ax)<=0:=Ar (by omega) (by omega);have z2:(by_-ay)*(bx-cx)<=0:=Ar (by omega) (by omega);have y1:cy-ay<=0:=by
    apply A1;intro q;have:=Aw w (show 0<cy-ay by omega);omega
   have y2:by_-cy<=0:=by
    apply A1;intro q;have:=Aw w (show 0<by_-cy by omega);omega
   omega
section
variable{n:Nat}{p:Nat->P2}{M:Int}
noncomputable def shX(M:Int)(p:Nat->P2)(i:Nat):Int:=M*(p i).1+(p i).2
def shY(p:Nat->P2)(i:Nat):Int:=(p i).2
theorem VH{i j:Nat}(hb:∀ k,k<n->-M<2*(p k).2/\2*(p k).2<M)(hi':i<n)(hj:j<n):shX M p i<shX M p j ↔ lexlt (p i) (p j):=by
 have a:=hb i hi';have b:=hb j hj;unfold shX lexlt;rcases Bq (p i).1 (p j).1 with h | h | h
 ·have:M<=M*((p j).1-(p i).1):=by
   have:=Bu (c:=M) (show 1<=(p j).1-(p i).1 by omega) (by omega);omega
  rw[Int.mul_sub]at this;omega
 ·rw[h];omega
 ·have:M<=M*((p i).1-(p j).1):=by
   have:=Bu (c:=M) (show 1<=(p i).1-(p j).1 by omega) (by omega);omega
  rw[Int.mul_sub]at this;omega
theorem Zch(i j k:Nat):cr (shX M p i) (shY p i) (shX M p j) (shY p j) (shX M p k) (shY p k)=M*turn (p i) (p j) (p k):=by
 unfold cr shX shY turn;grind
theorem Znm{i j:Nat}(hb:∀ k,k<n->-M<2*(p k).2/\2*(p k).2<M)(g:Good n p)(hi':i<n)(hj:j<n)(e:shX M p i=shX M p j):i=j:=by
 have a:=VH (M:=M) hb hi' hj;have b:=VH (M:=M) hb hj hi';unfold lexlt at a b;exact g.inj i j hi' hj (Bw (by omega) (by omega))
theorem Za9(g:Good n p)(hM:0<M)(hb:∀ k,k<n->-M<2*(p k).2/\2*(p k).2<M):ZK n (shX M p) (shY p) where
 n3:=g.n3
 dx:=fun i j hi' hj e=>Znm hb g hi' hj e
 off:=by
  intro i k hi' hk h1 h2 z;unfold sd at z;rw[Zch]at z;have z':turn (p (lo n (shX M p) i)) (p (hi n (shX M p) i)) (p k)=0:=by
   rcases Bs.mp z with q | q
   ·omega
   ·exact q
  have l1:=(VH hb (YV hi') hk).mp h1;have l2:=(VH hb hk (Y1 hi')).mp h2;have o:=Zbl z' l1 l2;have o':onS (p i) (p (nx n i)) (p k):=by
   rcases Z8 (n:=n) (x:=shX M p) i with⟨a,b⟩ | ⟨a,b⟩<;>rw[a,b]at o
   ·exact o
   ·exact onS_symm o
  have k1:k≠i:=by
   rintro rfl;rcases Z8 (n:=n) (x:=shX M p) k with⟨a,b⟩ | ⟨a,b⟩<;>rw[a]at h1<;>rw[b]at h2<;>omega
  have k2:k≠nx n i:=by
   rintro rfl;rcases Z8 (n:=n) (x:=shX M p) i with⟨a,b⟩ | ⟨a,b⟩<;>rw[a]at h1<;>rw[b]at h2<;>omega
  by_cases c1:i=nx n k
  ·have hp:=pv_lt (n:=n) hk;have e:=Qe (n:=n) hk;by_cases c2:pv n k=nx n i
   ·-- three corners
    have e3:k=nx n (nx n i):=by rw[<-c2,e]
    have:=g.turns i hi';rw[<-e3]at this;exact this o'.1
   ·refine g.apart i (pv n k) hi' hp ?_ ?_ c2 (.inr (.inl ?_))
    ·rintro rfl;exact k2 e.symm
    ·rw[e];exact Ao k1
    ·rw[e];exact o'
  ·exact g.apart i k hi' hk (Ao k1) c1 k2 (.inl o')
 apart:=by
  intro e f he hf h1 h2 h3;have na:=g.apart e f he hf h1 h2 h3;have key:∀ i k,k<n->(0<sd n (shX M p) (shY p) i k->0<turn (p (lo n (shX M p) i)) (p (hi n (shX M p) i)) (p k))/\(sd n (shX M p) (shY p) i k<0->turn (p (lo n (shX M p) i)) (p (hi n (shX M p) i)) (p k)<0):=by
   intro i k hk;unfold sd;rw[Zch];constructor
   ·intro z;apply A1;intro q;have:=Aa (Ai hM) (show turn (p (lo n (shX M p) i)) (p (hi n (shX M p) i)) (p k)<=0 by omega);omega
   ·intro z;apply A1;intro q;have:=am (Ai hM) (show 0<=turn (p (lo n (shX M p) i)) (p (hi n (shX M p) i)) (p k) by omega);omega
  have flip:∀ a b c:P2,turn b a c=- turn a b c:=by intro a b c;unfold turn;grind
  have fin:turn (p (lo n (shX M p) e)) (p (hi n (shX M p) e)) (p (lo n (shX M p) f))*turn (p (lo n (shX M p) e)) (p (hi n (shX M p) e)) (p (hi n (shX M p) f))<0 ->
    turn (p (lo n (shX M p) f)) (p (hi n (shX M p) f)) (p (lo n (shX M p) e))*turn (p (lo n (shX M p) f)) (p (hi n (shX M p) f)) (p (hi n (shX M p) e))<0->False:=by
   intro a b;refine na (.inr (.inr (.inr (.inr ?_))));rcases Z8 (n:=n) (x:=shX M p) e with⟨a1,a2⟩ | ⟨a1,a2⟩<;>rcases Z8 (n:=n) (x:=shX M p) f with⟨b1,b2⟩ | ⟨b1,b2⟩<;>rw[a1,a2,b1,b2]at a b
   ·exact⟨a,b⟩
   ·rw[flip (p f),flip (p f)]at b;exact⟨by rw[Bo];exact a,by grind⟩
   ·rw[flip (p e),flip (p e)]at a;exact⟨by grind,by rw[Bo];exact b⟩
   ·rw[flip (p f),flip (p f)]at b;rw[flip (p e),flip (p e)]at a;exact⟨by grind,by grind⟩
  constructor
  ·rintro⟨q1,q2,q3,q4⟩;exact fin (B7 ((key _ _ (YV hf)).2 q1) ((key _ _ (Y1 hf)).1 q2)) (Ab ((key _ _ (YV he)).1 q3) ((key _ _ (Y1 he)).2 q4))
  ·rintro⟨q1,q2,q3,q4⟩;exact fin (Ab ((key _ _ (YV hf)).1 q1) ((key _ _ (Y1 hf)).2 q2)) (B7 ((key _ _ (YV he)).2 q3) ((key _ _ (Y1 he)).1 q4))
end
theorem Zkc{M z:Int}(hM:0<M):0<M*z ↔ 0<z:=by
 constructor
 ·intro h;apply A1;intro q;have:=Aa (Ai hM) (show z<=0 by omega);omega
 ·exact fun h=>Aw hM h
theorem area_turn{n:Nat}{p:Nat->P2}(g:Good n p)(hm:∀ i,0<i->i<n->lexlt (p 0) (p i)):0<area n p ↔ 0<turn (p (n-1)) (p 0) (p 1):=by
 have n3:=g.n3;obtain⟨R,hR⟩:=ZaW n (fun i=>(p i).2);have hb:∀ k,k<n->-(2*(R:Int)+1)<2*(p k).2/\2*(p k).2<2*(R:Int)+1:=fun k hk=>by have:=hR k hk;omega
 have hM:0<(2*(R:Int)+1):=by omega
 have s:=Za9 g hM hb;have q:=ZbZ s (fun i h0 hi'=>(VH hb (by omega) hi').mpr (hm i h0 hi'));rw[Zch]at q;have ea:A2 n (shX (2*(R:Int)+1) p) (shY p)=(2*(R:Int)+1)*area n p:=by
  unfold A2 area;rw[<-Wz];refine S_congr fun i _=>?_;unfold shX shY;grind
 rw[ea]at q;have sgn:0<(2*(R:Int)+1)*turn (p (n-1)) (p 0) (p 1) ↔ 0<turn (p (n-1)) (p 0) (p 1):=Zkc hM;simp only[sgn]at q;by_cases c:0<turn (p (n-1)) (p 0) (p 1)
 ·rw[if_pos c]at q;have:0<(2*(R:Int)+1)*area n p:=by omega
  simp only[c,iff_true];exact(Zkc hM).mp this
 ·rw[if_neg c]at q;have:¬ 0<(2*(R:Int)+1)*area n p:=by omega
  simp only[c,iff_false];intro z;exact this ((Zkc hM).mpr z)
theorem area_nz{n:Nat}{p:Nat->P2}(g:Good n p)(hm:∀ i,0<i->i<n->lexlt (p 0) (p i)):area n p≠0:=by
 have n3:=g.n3;obtain⟨R,hR⟩:=ZaW n (fun i=>(p i).2);have hb:∀ k,k<n->-(2*(R:Int)+1)<2*(p k).2/\2*(p k).2<2*(R:Int)+1:=fun k hk=>by have:=hR k hk;omega
 have hM:0<(2*(R:Int)+1):=by omega
 have s:=Za9 g hM hb;have q:=ZbZ s (fun i h0 hi'=>(VH hb (by omega) hi').mpr (hm i h0 hi'));have ea:A2 n (shX (2*(R:Int)+1) p) (shY p)=(2*(R:Int)+1)*area n p:=by
  unfold A2 area;rw[<-Wz];refine S_congr fun i _=>?_;unfold shX shY;grind
 rw[ea]at q;intro z;rw[z]at q;simp at q
theorem Zon(u v w a b x:P2):turn u v w*turn a b x=turn v w x*turn a b u+turn w u x*turn a b v+turn u v x*turn a b w:=by unfold turn;grind
theorem bary1(u v w x:P2):turn u v w=turn v w x+turn w u x+turn u v x:=by unfold turn;grind
theorem turn_rot(a b c:P2):turn b c a=turn a b c:=by unfold turn;grind
theorem turn_swap(a b c:P2):turn b a c=- turn a b c:=by unfold turn;grind
theorem turn_self(a b:P2):turn a b a=0:=by unfold turn;grind
theorem turn_self'(a b:P2):turn a b b=0:=by unfold turn;grind
def inT(u v w x:P2):Prop:=0<=turn u v x/\0<=turn v w x/\0<=turn w u x
theorem pp{a b:Int}(ha:0<a)(hb:0<b):0<a*b:=Aw ha hb
theorem pn{a b:Int}(ha:0<a)(hb:b<0):a*b<0:=Ab ha hb
theorem np{a b:Int}(ha:a<0)(hb:0<b):a*b<0:=B7 ha hb
theorem nn{a b:Int}(ha:a<0)(hb:b<0):0<a*b:=B6 ha hb
theorem pp0{a b:Int}(ha:0<=a)(hb:0<=b):0<=a*b:=am ha hb
theorem QY{a b:Int}(h:a*b<0):(a<0/\0<b)\/(0<a/\b<0):=by
 rcases Bq a 0 with ha | ha | ha
 ·rcases Bq b 0 with hb | hb | hb
  ·have:=nn ha hb;omega
  ·subst hb;simp at h
  ·exact .inl ⟨ha,hb⟩
 ·subst ha;simp at h
 ·rcases Bq b 0 with hb | hb | hb
  ·exact .inr ⟨ha,hb⟩
  ·subst hb;simp at h
  ·have:=pp ha hb;omega
theorem Zj3{s t v a b:P2}(h0:turn s t v=0)(h1:turn a b s<turn a b v)(h2:turn a b v<turn a b t):onS s t v:=by
 have e1:(v.1-s.1)*(turn a b t-turn a b s)=(t.1-s.1)*(turn a b v-turn a b s):=by unfold turn at *;grind
 have e2:(v.2-s.2)*(turn a b t-turn a b s)=(t.2-s.2)*(turn a b v-turn a b s):=by unfold turn at *;grind
 have k:∀{p q m n:Int},p*m=q*n->0<n->n<m->(0<=q->0<=p/\p<=q)/\(q<=0->q<=p/\p<=0):=by
  intro p q m n e hn hm;constructor
  ·intro hq;have h3:0<=q*n:=pp0 hq (by omega);refine⟨?_,?_⟩
   ·rcases A9 p 0 with hp | hp
    ·have:=np hp (show 0<m by omega);omega
    ·exact hp
   ·rcases A9 q p with hp | hp
    ·have h5:q*n<=q*m:=Bu (by omega) hq;have h6:q*m<p*m:=Int.mul_lt_mul_of_pos_right hp (by omega);omega
    ·exact hp
  ·intro hq;have h3:q*n<=0:=Ar hq (by omega);refine⟨?_,?_⟩
   ·rcases A9 p q with hp | hp
    ·have h5:q*m<=q*n:=Ce hq (by omega);have h6:p*m<q*m:=Int.mul_lt_mul_of_pos_right hp (by omega);omega
    ·exact hp
   ·rcases A9 0 p with hp | hp
    ·have:=pp hp (show 0<m by omega);omega
    ·exact hp
 obtain⟨a1,a2⟩:=k e1 (by omega) (by omega);obtain⟨b1,b2⟩:=k e2 (by omega) (by omega);refine⟨h0,?_,?_⟩
 ·rcases Int.le_total 0 (t.1-s.1) with h | h
  ·have:=a1 h;omega
  ·have:=a2 h;omega
 ·rcases Int.le_total 0 (t.2-s.2) with h | h
  ·have:=b1 h;omega
  ·have:=b2 h;omega
theorem ZgV{u v w s t:P2}(hA:0<turn u v w)(hs:turn w u s<0)(ht:0<turn w u t)(nt:¬ inT u v w t)(fu:turn s t u<0)(fw:0<turn s t w):meet u v s t\/meet v w s t:=by
 have bt:=Zon u v w s t t;have bs:=Zon u v w s t s;have st0:turn s t t=0:=turn_self' s t;have ss0:turn s t s=0:=turn_self s t;have at1:=bary1 u v w t;have as1:=bary1 u v w s;rw[st0,bh]at bt;rw[ss0,bh]at bs;rcases Bq (turn s t v) 0 with fv | fv | fv
 ·-- v with u: the line parts v and w
  right;have gt:turn v w t<0:=by
   rcases A9 (turn v w t) 0 with h | h
   ·exact h
   ·exfalso;have h1:turn v w t*turn s t u<=0:=Aa h (by omega);have h2:=pn ht fv;have h3:0<turn u v t:=by
     rcases A9 0 (turn u v t) with z | z
     ·exact z
     ·have:=Ar z (show 0<=turn s t w by omega);omega
    exact nt ⟨by omega,h,by omega⟩
  have gs:0<turn v w s:=by
   rcases A9 0 (turn v w s) with h | h
   ·exact h
   ·exfalso;have h1:0<=turn v w s*turn s t u:=by
     have:=pp0 (show 0<=-(turn v w s) by omega) (show 0<=-(turn s t u) by omega);rw[Int.neg_mul_neg]at this;exact this
    have h2:=nn hs fv;have h3:0<turn u v s:=by omega
    have h4:=pp h3 fw;omega
  refine .inr (.inr (.inr (.inr ⟨?_,?_⟩)))
  ·exact pn gs gt
  ·exact np fv fw
 ·-- v on the line
  left;rw[fv,bh]at bt bs;have neg:turn v w t<0/\turn u v t<0:=by
   rcases Bq (turn v w t) 0 with h | h | h
   ·refine⟨h,?_⟩;have h1:=nn h fu;rcases A9 (turn u v t) 0 with z | z
    ·exact z
    ·have:=pp0 z (show 0<=turn s t w by omega);omega
   ·exfalso;rw[h,Int.zero_mul]at bt;have z:turn u v t=0:=by
     have:turn u v t*turn s t w=0:=by omega
     rcases Bs.mp this with z | z
     ·exact z
     ·omega
    exact nt ⟨by omega,by omega,by omega⟩
   ·exfalso;have h1:=pn h fu;have h2:0<turn u v t:=by
     rcases A9 0 (turn u v t) with z | z
     ·exact z
     ·have:=Ar z (show 0<=turn s t w by omega);omega
    exact nt ⟨by omega,by omega,by omega⟩
  have hv:turn w u v=turn u v w:=by rw[turn_rot,turn_rot]
  have o:=Zj3 (a:=w) (b:=u) fv (by omega) (by omega);exact .inr (.inr (.inr (.inl o)))
 ·left;have gt:turn u v t<0:=by
   rcases A9 (turn u v t) 0 with h | h
   ·exact h
   ·exfalso;have h1:0<=turn u v t*turn s t w:=pp0 h (by omega);have h2:=pp ht fv;have h3:0<turn v w t:=by
     rcases A9 0 (turn v w t) with z | z
     ·exact z
     ·have:=pp0 (show 0<=-(turn v w t) by omega) (show 0<=-(turn s t u) by omega);rw[Int.neg_mul_neg]at this;omega
    exact nt ⟨by omega,by omega,by omega⟩
  have gs:0<turn u v s:=by
   rcases A9 0 (turn u v s) with h | h
   ·exact h
   ·exfalso;have h1:turn u v s*turn s t w<=0:=Ar h (by omega);have h2:=np hs fv;have h3:0<turn v w s:=by omega
    have h4:=pn h3 fu;omega
  refine .inr (.inr (.inr (.inr ⟨?_,?_⟩)))
  ·exact pn gs gt
  ·exact np fu fv
theorem V5{a b c d:P2}(h:meet a b c d):meet a b d c:=by
 rcases h with h | h | h | h | ⟨h1,h2⟩
 ·exact .inr (.inl h)
 ·exact .inl h
 ·exact .inr (.inr (.inl (onS_symm h)))
 ·exact .inr (.inr (.inr (.inl (onS_symm h))))
 ·refine .inr (.inr (.inr (.inr ⟨by rw[Bo];exact h1,?_⟩)));rw[turn_swap c d a,turn_swap c d b,Int.neg_mul_neg];exact h2
theorem WT{a b c d:P2}(h:meet a b c d):meet b a c d:=by
 rcases h with h | h | h | h | ⟨h1,h2⟩
 ·exact .inl (onS_symm h)
 ·exact .inr (.inl (onS_symm h))
 ·exact .inr (.inr (.inr (.inl h)))
 ·exact .inr (.inr (.inl h))
 ·refine .inr (.inr (.inr (.inr ⟨?_,by rw[Bo];exact h2⟩)));rw[turn_swap a b c,turn_swap a b d,Int.neg_mul_neg];exact h1
theorem Ju{a b c d:P2}(h:meet a b c d):meet c d a b:=by
 rcases h with h | h | h | h | ⟨h1,h2⟩
 ·exact .inr (.inr (.inl h))
 ·exact .inr (.inr (.inr (.inl h)))
 ·exact .inl h
 ·exact .inr (.inl h)
 ·exact .inr (.inr (.inr (.inr ⟨h2,h1⟩)))
theorem ZgM {u v w s t : P2} (hA : 0 < turn u v w) (ns : ¬ inT u v w s) (nt : ¬ inT u v w t) (h : meet u w s t) : meet u v s t \/ meet v w s t := by
  have inOn : ∀ {x : P2}, onS u w x -> inT u v w x := by
    intro x ⟨h0, hx, hy⟩
    have b := bary1 u v w x
    have z : turn w u x = 0 := by rw [turn_swap]; omega
    refine ⟨?_, ?_, by omega⟩
    · rcases A9 (turn u v x) 0 with h | h
      · exfalso
        have e1 : (x.1 - u.1) * turn u v w = (w.1 - u.1) * turn u v x := by unfold turn at *; grind
        have e2 : (x.2 - u.2) * turn u v w = (w.2 - u.2) * turn u v x := by unfold turn at *; grind
        have k : ∀ {p q m n : Int}, p * m = q * n -> 0 < m -> n < 0 -> (0 <= p /\ p <= q \/ q <= p /\ p <= 0) -> q = 0 := by
          intro p q m n e hm hn hp
          rcases Bq q 0 with hq | hq | hq
          · have h1 := nn hq hn
            have h2 : p * m <= 0 := Ar (by omega) (by omega)
            omega
          · exact hq
          · have h1 := pn hq hn
            have h2 : 0 <= p * m := pp0 (by omega) (by omega)
            omega
        have q1 := k e1 hA h (by omega)
        have q2 := k e2 hA h (by omega)
        have : turn u v w = 0 := by unfold turn; rw [q1, q2]; simp
        omega
      · exact h
    · rcases A9 (turn v w x) 0 with h | h
      · exfalso
        have e1 : (x.1 - w.1) * turn u v w = (u.1 - w.1) * turn v w x := by unfold turn at *; grind
        have e2 : (x.2 - w.2) * turn u v w = (u.2 - w.2) * turn v w x := by unfold turn at *; grind
        have k : ∀ {p q m n : Int}, p * m = q * n -> 0 < m -> n < 0 -> (0 <= p /\ p <= q \/ q <= p /\ p <= 0) -> q = 0 := by
          intro p q m n e hm hn hp
          rcases Bq q 0 with hq | hq | hq
          · have h1 := nn hq hn
            have h2 : p * m <= 0 := Ar (by omega) (by omega)
            omega
          · exact hq
          · have h1 := pn hq hn
            have h2 : 0 <= p * m := pp0 (by omega) (by omega)
            omega
        have q1 := k e1 hA h (by omega)
        have q2 := k e2 hA h (by omega)
        have : turn u v w = 0 := by unfold turn; have e3 : u.1 = w.1 := by omega
                                    have e4 : u.2 = w.2 := by omega
                                    rw [<- e3, <- e4]; grind
        omega
      · exact h
  rcases h with h | h | h | h | ⟨h1, h2⟩
  · exact absurd (inOn h) ns
  · exact absurd (inOn h) nt
  · exact .inl (.inr (.inr (.inl h)))
  · exact .inr (.inr (.inr (.inr (.inl h))))
  · have f1 := turn_swap u w s
    have f2 := turn_swap u w t
    have e0 : turn s t u - turn s t w = turn u w t - turn u w s := by unfold turn; grind
    rcases QY h1 with ⟨a, b⟩ | ⟨a, b⟩
    · have c : 0 < turn s t u /\ turn s t w < 0 := by
        rcases QY h2 with ⟨c, d⟩ | ⟨c, d⟩
        · omega
        · exact ⟨c, d⟩
      have e1 := turn_swap s t u
      have e2 := turn_swap s t w
      rcases ZgV (s := t) (t := s) hA (by omega) (by omega) ns (by omega) (by omega) with z | z
      · exact .inl (V5 z)
      · exact .inr (V5 z)
    · have c : turn s t u < 0 /\ 0 < turn s t w := by
        rcases QY h2 with ⟨c, d⟩ | ⟨c, d⟩
        · exact ⟨c, d⟩
        · omega
      exact ZgV hA (by omega) (by omega) nt c.1 c.2
noncomputable def cx(u v:P2):Int:=u.1*v.2-u.2*v.1
def vh(u:P2):Prop:=0<u.1\/(u.1=0/\0<u.2)
noncomputable instance(u:P2):Decidable (vh u):=by unfold vh;infer_instance
noncomputable def hc(u v:P2):Int:=if ¬ vh u/\vh v/\0<cx u v then 1 else if vh u/\¬ vh v/\cx u v<0 then -1 else 0
def ng(u:P2):P2:=(-u.1,-u.2)
def na(u v:P2):Prop:=cx u v=0->(vh u ↔ vh v)
section
variable{n:Nat}{q:Nat->P2}
theorem Zjk:∀(k:Nat) (f:Nat->Int),S (k+1) f=f 0+S k (fun t=>f (t+1))
 | 0,f=>by simp[S]
 | k+1,f=>by
  have ih:=Zjk k f;have e:S (k+1+1) f=S (k+1) f+f (k+1):=rfl;have e':S (k+1) (fun t=>f (t+1))=S k (fun t=>f (t+1))+f (k+1):=rfl;rw[e,e',ih];omega
end
section
variable(n:Nat)(x y:Nat->Int)
def sdp(j:Nat)(u v:Int):Int:=cr (x (lo n x j)) (y (lo n x j)) (x (hi n x j)) (y (hi n x j)) u v
def wn(u v:Int):Int:=S n fun j=>if crs n x j u/\0<sdp n x y j u v then d n x j else 0
end
section
variable{n:Nat}{x y:Nat->Int}
theorem ZkR(s:ZK n x y){j i:Nat}(hj:j<n)(hi':i<n)(hne:j≠i)(o1:x (lo n x i)<x (hi n x j))(o2:x (lo n x j)<x (hi n x i))(hb:B n x y j i):
  ∃ a b:Int,(a=x (lo n x i)\/a=x (lo n x j))/\(b=x (hi n x i)\/b=x (hi n x j))/\0<=Nn n x y j i a/\0<=Nn n x y j i b/\(0<Nn n x y j i a\/0<Nn n x y j i b):=by
 have wi:=US s hi';have wj:=US s hj;have li:=Yp s hi';have lj:=Yp s hj;have hb':¬ B n x y i j:=by
  have:=J8 s hi' hj (Ao hne) (by omega) (by omega);exact fun z=>(this.mp z) hb
 obtain⟨a,ha1,ha2,ha3⟩:∃ a:Int,(a=x (lo n x i)\/a=x (lo n x j))/\0<=Nn n x y j i a/\(Nn n x y j i a=0->x (lo n x i)=x (lo n x j)):=by
  by_cases c1:x (lo n x j)<x (lo n x i)
  ·refine⟨x (lo n x i),.inl rfl,?_,?_⟩<;>rw[Zd5]<;>unfold B at hb<;>rw[if_pos c1]at hb<;>have:=Aw wi hb<;>omega
  ·by_cases c2:x (lo n x i)<x (lo n x j)
   ·have hb2:=hb;unfold B at hb2;rw[if_neg c1,if_pos c2]at hb2;have:=Ab wj hb2;refine⟨x (lo n x j),.inr rfl,?_,?_⟩<;>rw[Zjm]<;>omega
   ·have e:=s.dx _ _ (YV (x:=x) hi') (YV (x:=x) hj) (by omega);refine⟨x (lo n x i),.inl rfl,?_,fun _=>by omega⟩;rw[Zd5,e];have:sd n x y j (lo n x j)=0:=by unfold sd cr;grind
    rw[this];simp
 obtain⟨b,hb1,hb2,hb3⟩:∃ b:Int,(b=x (hi n x i)\/b=x (hi n x j))/\0<=Nn n x y j i b/\(Nn n x y j i b=0->x (hi n x i)=x (hi n x j)):=by
  by_cases c1:x (hi n x j)<x (hi n x i)
  ·have q:=ZmU s hj hi' (by omega) c1;have o:=s.off i (hi n x j) hi' (Y1 hj) (by omega) c1;have:sd n x y i (hi n x j)<0:=by
    have:¬ 0<sd n x y i (hi n x j):=fun z=>hb' (q.mpr z);omega
   have:=Ab wj this;refine⟨x (hi n x j),.inr rfl,?_,?_⟩<;>rw[Zjn]<;>omega
  ·by_cases c2:x (hi n x i)<x (hi n x j)
   ·have q:=ZmU s hi' hj (by omega) c2;have:=Aw wi (q.mp hb);refine⟨x (hi n x i),.inl rfl,?_,?_⟩<;>rw[Zd6]<;>omega
   ·have e:=s.dx _ _ (Y1 (x:=x) hi') (Y1 (x:=x) hj) (by omega);refine⟨x (hi n x i),.inl rfl,?_,fun _=>by omega⟩;rw[Zd6,e];have:sd n x y j (hi n x j)=0:=by unfold sd cr;grind
    rw[this];simp
 refine⟨a,b,ha1,hb1,ha2,hb2,?_⟩;by_cases z1:Nn n x y j i a=0
 ·by_cases z2:Nn n x y j i b=0
  ·exact absurd (VQ s hi' hj (ha3 z1) (hb3 z2)) (Ao hne)
  ·omega
 ·omega
theorem Zhq(s:ZK n x y){j i:Nat}(hj:j<n)(hi':i<n)(hne:j≠i){t:Int}(a1:x (lo n x i)<t)(a2:t<x (hi n x i))(b1:x (lo n x j)<t)(b2:t<x (hi n x j))(hb:B n x y j i):0<Nn n x y j i t:=by
 obtain⟨a,b,ha,hb',h1,h2,h3⟩:=ZkR s hj hi' hne (by omega) (by omega) hb;have l:=Zhr (n:=n) (x:=x) (y:=y) j i a b t;have at':a<t:=by omega
 have bt:t<b:=by omega
 have pos:0<(b-a)*Nn n x y j i t:=by
  rw[l];have z1:0<=(b-t)*Nn n x y j i a:=am (by omega) h1;have z2:0<=(t-a)*Nn n x y j i b:=am (by omega) h2;rcases h3 with z | z
  ·have:=Aw (show 0<b-t by omega) z;omega
  ·have:=Aw (show 0<t-a by omega) z;omega
 apply A1;intro z;have:=Aa (show 0<=b-a by omega) (show Nn n x y j i t<=0 by omega);omega
theorem ZiS(j i:Nat)(u v:Int):bw n x i*sdp n x y j u v=bw n x j*sdp n x y i u v+Nn n x y j i u:=by unfold sdp cr Nn bw;grind
theorem ZkS(j i:Nat)(t:Int):Nn n x y i j t=- Nn n x y j i t:=by unfold Nn;omega
theorem Zfo(j k:Nat):sdp n x y j (x k) (y k)=sd n x y j k:=rfl
def Cn(n:Nat)(x y:Nat->Int)(u v:Int):Prop:=∀ k,k<n->x k=u->y k=v
theorem Zlm(j:Nat):sdp n x y j (x (lo n x j)) (y (lo n x j))=0:=by unfold sdp cr;grind
theorem ZgX(s:ZK n x y){u v:Int}(hv:Cn n x y u v){j:Nat}(hj:j<n)(h1:crs n x j u)(h2:0<sdp n x y j u v):x (lo n x j)<u/\u<x (hi n x j):=by
 unfold crs at h1;refine⟨?_,h1.2⟩;apply A1;intro z;have e:x (lo n x j)=u:=by omega
 have e2:=hv _ (YV hj) e;rw[<-e,<-e2,Zlm]at h2;omega
theorem ZdP(f:Nat->Int)(P:Nat->Prop):∀(n:Nat),(∃ i,i<n/\P i)->∃ i,i<n/\P i/\∀ j,j<n->P j->f j<=f i
 | 0,⟨i,h,_⟩=>by omega
 | n+1,⟨i,h,p⟩=>by
  by_cases e:∃ i,i<n/\P i
  ·obtain⟨m,hm,pm,mm⟩:=ZdP f P n e;by_cases q:P n/\f m<=f n
   ·refine⟨n,by omega,q.1,fun j hj pj=>?_⟩;by_cases z:j=n
    ·rw[z];omega
    ·have:=mm j (by omega) pj;omega
   ·refine⟨m,by omega,pm,fun j hj pj=>?_⟩;by_cases z:j=n
    ·subst z;have:¬ f m<=f j:=fun w=>q ⟨pj,w⟩;omega
    ·exact mm j (by omega) pj
  ·have z:i=n:=by
    apply A1;intro z;exact e ⟨i,by omega,p⟩
   subst z;refine⟨i,by omega,p,fun j hj pj=>?_⟩;by_cases z:j=i
   ·rw[z];omega
   ·exact absurd ⟨j,by omega,pj⟩ e
theorem Zoh(i:Nat):d n x i=1\/d n x i=-1:=by
 rcases Zet (n:=n) (x:=x) i with⟨_,_,c,_⟩ | ⟨_,_,c,_⟩<;>simp[c]
theorem Zna(s:ZK n x y)(w1:w n x y 0=1){u v:Int}(hv:Cn n x y u v):wn n x y u v=0\/wn n x y u v=1:=by
 by_cases em:∃ i,i<n/\(crs n x i u/\0<sdp n x y i u v)
 ·obtain⟨i,hi',⟨ci,pi⟩,mx⟩:=ZdP (H n x y u) (fun i=>crs n x i u/\0<sdp n x y i u v) n em;have si:=ZgX s hv hi' ci pi;have wi:=US s hi';have e:wn n x y u v=c n x y i u+d n x i:=by
   have:wn n x y u v=S n (fun j=>(if crs n x j u/\B n x y j i then d n x j else 0)+(if j=i then d n x i else 0)):=by
    refine S_congr fun j hj=>?_;by_cases e1:j=i
    ·subst e1;simp[ci,pi,WG]
    ·simp only[e1,if_false,Int.add_zero];by_cases cj:crs n x j u
     ·have iff:0<sdp n x y j u v ↔ B n x y j i:=by
       constructor
       ·intro pj;have sj:=ZgX s hv hj cj pj;apply A1;intro nb;have bb:=(J8 s hi' hj (Ao e1) (by omega) (by omega)).mpr nb;have h1:=B_H s hi' hj (Ao e1) ci cj bb;have h2:=mx j hj ⟨cj,pj⟩;omega
       ·intro bj;have wj:=US s hj;by_cases st:x (lo n x j)<u
        ·have np:=Zhq s hj hi' e1 si.1 si.2 st cj.2 bj;have id:=ZiS (n:=n) (x:=x) (y:=y) j i u v;have m:=Aw wj pi;apply A1;intro z;have:=Aa (Ai wi) (show sdp n x y j u v<=0 by omega);omega
        ·exfalso;have e2:x (lo n x j)=u:=by have:=cj.1;omega
         have e3:=hv _ (YV hj) e2;unfold B at bj;rw[if_neg (by omega),if_pos (by omega),<-Zfo,e2,e3]at bj;omega
      simp only[cj,iff]
     ·simp[cj]
   rw[this,Zc4,Zc3 (a:=i) (f:=fun j=>if j=i then d n x i else 0) hi' (fun j _ hne=>by simp[hne])];simp only[if_true];rfl
  have ca:=ZcV s hi' ci;rw[w1]at ca;rcases Zoh (n:=n) (x:=x) i with q | q<;>simp[q]at ca<;>omega
 ·left;unfold wn;refine(S_congr fun j hj=>?_).trans (Zb1 n);rw[if_neg];exact fun z=>em ⟨j,hj,z⟩
theorem Zjq(s:ZK n x y)(w1:w n x y 0=1){u v:Int}(hv:Cn n x y u v){k:Nat}(hk:k<n)(h0:sdp n x y k u v=0)(h1:x (lo n x k)<u)(h2:u<x (hi n x k)):
  wn n x y u v=if d n x k=1 then 0 else 1:=by
 have wk:=US s hk;have ck:crs n x k u:=⟨by omega,h2⟩;have e:wn n x y u v=c n x y k u:=by
  refine S_congr fun j hj=>?_;by_cases e1:j=k
  ·subst e1;simp[h0,WG]
  ·by_cases cj:crs n x j u
   ·have wj:=US s hj;have st:x (lo n x j)<u:=by
     apply A1;intro z;have e2:x (lo n x j)=u:=by have:=cj.1;omega
     have e3:=hv _ (YV hj) e2;have:=s.off k (lo n x j) hk (YV hj) (by omega) (by omega);rw[<-Zfo,e2,e3]at this;exact this h0
    have id:=ZiS (n:=n) (x:=x) (y:=y) j k u v;rw[h0,bh,Bh]at id;have iff:0<sdp n x y j u v ↔ B n x y j k:=by
     constructor
     ·intro pj;apply A1;intro nb;have bb:=(J8 s hk hj (Ao e1) (by have:=cj.2;omega) (by omega)).mpr nb;have np:=Zhq s hk hj (Ao e1) st cj.2 h1 h2 bb;rw[ZkS j k]at np;have:=Aw wk pj;omega
     ·intro bj;have np:=Zhq s hj hk e1 h1 h2 st cj.2 bj;apply A1;intro z;have:=Aa (Ai wk) (show sdp n x y j u v<=0 by omega);omega
    simp only[cj,iff]
   ·simp[cj]
 have ca:=ZcV s hk ck;rw[w1]at ca;rw[e];rcases Zoh (n:=n) (x:=x) k with q | q<;>simp[q]at ca ⊢<;>omega
end
structure Way(n:Nat)(p:Nat->P2):Prop where
 n3:3<=n
 inj:∀ i j,i<n->j<n->p i=p j->i=j
 tri:∀ i,i<n->nx n (nx n (nx n i))=i->turn (p i) (p (nx n i)) (p (nx n (nx n i)))≠0
 apart:∀ i j,i<n->j<n->i≠j->i≠nx n j->j≠nx n i->¬ meet (p i) (p (nx n i)) (p j) (p (nx n j))
theorem Good.way{n:Nat}{p:Nat->P2}(g:Good n p):Way n p:=⟨g.n3,g.inj,fun i hi _=>g.turns i hi,g.apart⟩
theorem Way.rot{n:Nat}{p:Nat->P2}(g:Way n p):Way n (fun i=>p (nx n i)):=by
 refine⟨g.n3,fun i j hi hj e=>U5 hi hj (g.inj _ _ (nx_lt hi) (nx_lt hj) e),fun i hi e=>?_,fun i j hi hj h1 h2 h3=>?_⟩
 ·exact g.tri (nx n i) (nx_lt hi) (by rw[e])
 ·refine g.apart (nx n i) (nx n j) (nx_lt hi) (nx_lt hj) (fun e=>h1 (U5 hi hj e)) (fun e=>h2 (U5 hi (nx_lt hj) e)) (fun e=>h3 (U5 hj (nx_lt hi) e))
section
variable{n:Nat}{p:Nat->P2}{M:Int}
theorem Zlj{i j:Nat}(hb:∀ k,k<n->-M<2*(p k).2/\2*(p k).2<M)(g:Way n p)(hi':i<n)(hj:j<n)(e:shX M p i=shX M p j):i=j:=by
 have a:=VH (M:=M) hb hi' hj;have b:=VH (M:=M) hb hj hi';unfold lexlt at a b;exact g.inj i j hi' hj (Bw (by omega) (by omega))
theorem JI(g:Way n p)(hM:0<M)(hb:∀ k,k<n->-M<2*(p k).2/\2*(p k).2<M):ZK n (shX M p) (shY p) where
 n3:=g.n3
 dx:=fun i j hi' hj e=>Zlj hb g hi' hj e
 off:=by
  intro i k hi' hk h1 h2 z;unfold sd at z;rw[Zch]at z;have z':turn (p (lo n (shX M p) i)) (p (hi n (shX M p) i)) (p k)=0:=by
   rcases Bs.mp z with q | q
   ·omega
   ·exact q
  have l1:=(VH hb (YV hi') hk).mp h1;have l2:=(VH hb hk (Y1 hi')).mp h2;have o:=Zbl z' l1 l2;have o':onS (p i) (p (nx n i)) (p k):=by
   rcases Z8 (n:=n) (x:=shX M p) i with⟨a,b⟩ | ⟨a,b⟩<;>rw[a,b]at o
   ·exact o
   ·exact onS_symm o
  have k1:k≠i:=by
   rintro rfl;rcases Z8 (n:=n) (x:=shX M p) k with⟨a,b⟩ | ⟨a,b⟩<;>rw[a]at h1<;>rw[b]at h2<;>omega
  have k2:k≠nx n i:=by
   rintro rfl;rcases Z8 (n:=n) (x:=shX M p) i with⟨a,b⟩ | ⟨a,b⟩<;>rw[a]at h1<;>rw[b]at h2<;>omega
  by_cases c1:i=nx n k
  ·have hp:=pv_lt (n:=n) hk;have e:=Qe (n:=n) hk;by_cases c2:pv n k=nx n i
   ·-- three corners
    have e3:k=nx n (nx n i):=by rw[<-c2,e]
    have:=g.tri i hi' (by rw[<-e3];exact c1.symm);rw[<-e3]at this;exact this o'.1
   ·refine g.apart i (pv n k) hi' hp ?_ ?_ c2 (.inr (.inl ?_))
    ·rintro rfl;exact k2 e.symm
    ·rw[e];exact Ao k1
    ·rw[e];exact o'
  ·exact g.apart i k hi' hk (Ao k1) c1 k2 (.inl o')
 apart:=by
  intro e f he hf h1 h2 h3;have na:=g.apart e f he hf h1 h2 h3;have key:∀ i k,k<n->(0<sd n (shX M p) (shY p) i k->0<turn (p (lo n (shX M p) i)) (p (hi n (shX M p) i)) (p k))/\(sd n (shX M p) (shY p) i k<0->turn (p (lo n (shX M p) i)) (p (hi n (shX M p) i)) (p k)<0):=by
   intro i k hk;unfold sd;rw[Zch];constructor
   ·intro z;apply A1;intro q;have:=Aa (Ai hM) (show turn (p (lo n (shX M p) i)) (p (hi n (shX M p) i)) (p k)<=0 by omega);omega
   ·intro z;apply A1;intro q;have:=am (Ai hM) (show 0<=turn (p (lo n (shX M p) i)) (p (hi n (shX M p) i)) (p k) by omega);omega
  have flip:∀ a b c:P2,turn b a c=- turn a b c:=by intro a b c;unfold turn;grind
  have fin:turn (p (lo n (shX M p) e)) (p (hi n (shX M p) e)) (p (lo n (shX M p) f))*turn (p (lo n (shX M p) e)) (p (hi n (shX M p) e)) (p (hi n (shX M p) f))<0 ->
    turn (p (lo n (shX M p) f)) (p (hi n (shX M p) f)) (p (lo n (shX M p) e))*turn (p (lo n (shX M p) f)) (p (hi n (shX M p) f)) (p (hi n (shX M p) e))<0->False:=by
   intro a b;refine na (.inr (.inr (.inr (.inr ?_))));rcases Z8 (n:=n) (x:=shX M p) e with⟨a1,a2⟩ | ⟨a1,a2⟩<;>rcases Z8 (n:=n) (x:=shX M p) f with⟨b1,b2⟩ | ⟨b1,b2⟩<;>rw[a1,a2,b1,b2]at a b
   ·exact⟨a,b⟩
   ·rw[flip (p f),flip (p f)]at b;exact⟨by rw[Bo];exact a,by grind⟩
   ·rw[flip (p e),flip (p e)]at a;exact⟨by grind,by rw[Bo];exact b⟩
   ·rw[flip (p f),flip (p f)]at b;rw[flip (p e),flip (p e)]at a;exact⟨by grind,by grind⟩
  constructor
  ·rintro⟨q1,q2,q3,q4⟩;exact fin (B7 ((key _ _ (YV hf)).2 q1) ((key _ _ (Y1 hf)).1 q2)) (Ab ((key _ _ (YV he)).1 q3) ((key _ _ (Y1 he)).2 q4))
  ·rintro⟨q1,q2,q3,q4⟩;exact fin (Ab ((key _ _ (YV hf)).1 q1) ((key _ _ (Y1 hf)).2 q2)) (B7 ((key _ _ (YV he)).2 q3) ((key _ _ (Y1 he)).1 q4))
end
section
variable{n:Nat}{x y:Nat->Int}
theorem Zm9(s:ZK n x y){k:Nat}(hk:k<n):
  wn n x y (x k) (y k)=(if d n x (pv n k)=d n x k then(if d n x k=1 then 0 else 1) else(if cr (x (pv n k)) (y (pv n k)) (x k) (y k) (x (nx n k)) (y (nx n k))<0 then 1 else 0))+(w n x y 0-1):=by
 have hp:=pv_lt (n:=n) hk;have hne:=ZfD s.n3 hk;have enx:=Qe (n:=n) hk;have sk:sd n x y k k=0:=by
  unfold sd cr;rcases Z8 (n:=n) (x:=x) k with⟨a,b⟩ | ⟨a,b⟩<;>rw[a,b]<;>grind
 have sp:sd n x y (pv n k) k=0:=by
  unfold sd cr;rcases Z8 (n:=n) (x:=x) (pv n k) with⟨a,b⟩ | ⟨a,b⟩<;>rw[a,b,enx]<;>grind
 have key:∀ f,f<n->(lo n x f=k\/hi n x f=k)->∀ t,(t=x k\/t=x k-1)->c n x y f t-wn n x y (x k) (y k) =
   (if crs n x k t/\B n x y k f then d n x k else 0)+(if crs n x (pv n k) t/\B n x y (pv n k) f then d n x (pv n k) else 0):=by
  intro f hf hfk t ht';have q:=ZkP (n:=n) (a:=k) (b:=pv n k) (f:=fun j=>if crs n x j t/\B n x y j f then d n x j else 0) (g:=fun j=>if crs n x j (x k)/\0<sdp n x y j (x k) (y k) then d n x j else 0)
   hk hp (Ao hne) (fun j hj h1 h2=>by
    have e:crs n x j t ↔ crs n x j (x k):=by
     rcases ht' with rfl | rfl
     ·exact Iff.rfl
     ·exact VB s hj hk h1 h2
    simp only[e];by_cases cj:crs n x j (x k)
    ·have sp:=ZdY s hj hk h1 h2 cj;have:=Zm7 s hf hj hfk sp.1 sp.2;simp only[cj,this,Zfo]
    ·simp[cj])
  have e1:sdp n x y k (x k) (y k)=0:=sk;have e2:sdp n x y (pv n k) (x k) (y k)=0:=sp;simp only[e1,e2,Int.lt_irrefl,and_false,if_false,Int.sub_zero]at q;exact q
 have z:=Zm0 s hk;have ak:=ZmN s hk;rcases z.1 with⟨p1,p2,p3,p4⟩ | ⟨p1,p2,p3,p4⟩<;>rcases z.2 with⟨q1,q2,q3,q4⟩ | ⟨q1,q2,q3,q4⟩
 ·have ca:=ZcV s hk p3;have kk:=key k hk ak.1 (x k) (.inl rfl);simp[p1,q3,WG]at ca kk;simp[p1,q1];omega
 ·have ca:=ZcV s hk p3;have kk:=key k hk ak.1 (x k) (.inl rfl);have hik:hi n x k=nx n k:=by
   rcases Z8 (n:=n) (x:=x) k with⟨a,b⟩ | ⟨a,b⟩
   ·exact b
   ·rw[a]at p2;exact absurd p2 (Zka s.n3 hk)
  have hip:hi n x (pv n k)=pv n k:=by
   rcases Z8 (n:=n) (x:=x) (pv n k) with⟨a,b⟩ | ⟨a,b⟩
   ·rw[a]at q2;exact absurd q2 hne
   ·exact b
  have bb:B n x y (pv n k) k ↔ cr (x (pv n k)) (y (pv n k)) (x k) (y k) (x (nx n k)) (y (nx n k))<0:=by
   unfold B;rw[p2,q2,hik,hip,if_neg (by omega),if_neg (by omega)];have e1:sd n x y k (pv n k)=cr (x (pv n k)) (y (pv n k)) (x k) (y k) (x (nx n k)) (y (nx n k)):=by unfold sd;rw[p2,hik];unfold cr;grind
   have e2:sd n x y (pv n k) (nx n k)=- cr (x (pv n k)) (y (pv n k)) (x k) (y k) (x (nx n k)) (y (nx n k)):=by unfold sd;rw[q2,hip];unfold cr;grind
   rw[e1,e2];split<;>omega
  simp[p1,q1,q3,WG,bb]at ca kk ⊢;split<;>rename_i h<;>simp[h]at kk<;>omega
 ·have c4:=q4;have ca:=ZcV s hp q4;have kk:=key (pv n k) hp ak.2 (x k-1) (.inr rfl);have hik:lo n x k=nx n k:=by
   rcases Z8 (n:=n) (x:=x) k with⟨a,b⟩ | ⟨a,b⟩
   ·rw[b]at p2;exact absurd p2 (Zka s.n3 hk)
   ·exact a
  have hip:lo n x (pv n k)=pv n k:=by
   rcases Z8 (n:=n) (x:=x) (pv n k) with⟨a,b⟩ | ⟨a,b⟩
   ·exact a
   ·rw[b]at q2;exact absurd q2 hne
  have bb:B n x y k (pv n k) ↔ cr (x (pv n k)) (y (pv n k)) (x k) (y k) (x (nx n k)) (y (nx n k))<0:=by
   unfold B;rw[p2,q2,hik,hip];have e1:sd n x y k (pv n k)=- cr (x (pv n k)) (y (pv n k)) (x k) (y k) (x (nx n k)) (y (nx n k)):=by unfold sd;rw[p2,hik];unfold cr;grind
   have e2:sd n x y (pv n k) (nx n k)=cr (x (pv n k)) (y (pv n k)) (x k) (y k) (x (nx n k)) (y (nx n k)):=by unfold sd;rw[q2,hip]
   have ne:x (nx n k)≠x (pv n k):=fun e=>by
    have:=s.dx _ _ (nx_lt hk) hp e;have e2:=Zf0 s.n3 hp;rw[enx]at e2;exact e2 this
   rw[e1,e2];split
   ·omega
   ·rw[if_pos (by omega)]
  simp[p1,q1,q4,p4,WG,bb]at ca kk ⊢;split<;>rename_i h<;>simp[h]at kk<;>omega
 ·have ca:=ZcV s hp q3;have kk:=key (pv n k) hp ak.2 (x k) (.inl rfl);simp[p1,q1,p3,WG]at ca kk ⊢;omega
end
section
variable{n:Nat}{p:Nat->P2}{M:Int}
end
theorem Zhm:∀(b a:Nat) (f:Nat->Int),S (a+b) f=S a f+S b (fun i=>f (a+i))
 | 0,a,f=>by simp[S]
 | b+1,a,f=>by
  have ih:=Zhm b a f;have e:S (a+(b+1)) f=S (a+b) f+f (a+b):=rfl;have e':S (b+1) (fun i=>f (a+i))=S b (fun i=>f (a+i))+f (a+b):=rfl;rw[e,e',ih];omega
theorem ZnY(n:Nat)(f:Nat->Int):S n (fun i=>- f i)=- S n f:=by
 have:=Wz (-1) n f;rw[<-Int.neg_one_mul,<-this];exact S_congr fun j _=>by omega
theorem ZnX(n:Nat)(f h:Nat->Int):S n (fun i=>f i-h i)=S n f-S n h:=by
 have:=Zc4 n f (fun i=>- h i);rw[ZnY]at this;rw[Int.sub_eq_add_neg,<-this];exact S_congr fun j _=>by omega
def cnt(P:Nat)(Q:Int):Int:=S P fun i=>if(P:Int) ∣ Q*i then 1 else 0
def CS(n:Nat)(p:Nat->P2)(F:P2->P2->Int):Int:=S n fun j=>F (p j) (p (nx n j))
noncomputable def sp(m:Nat)(p:Nat->P2)(i:Nat):P2:=if i=0 then p 0 else p (m+i-1)
theorem sp0(m:Nat)(p:Nat->P2):sp m p 0=p 0:=rfl
theorem spS(m:Nat)(p:Nat->P2)(i:Nat):sp m p (i+1)=p (m+i):=by unfold sp;rw[if_neg (by omega)];congr 1
theorem Zs{n i:Nat}(h:i+1<n):nx n i=i+1:=by unfold nx;rw[if_neg (by omega)]
theorem Yj{n i:Nat}(h:i+1=n):nx n i=0:=by unfold nx;rw[if_pos h]
theorem YT{n i:Nat}(h:0<i):pv n i=i-1:=by unfold pv;rw[if_neg (by omega)]
theorem ZaT{n m:Nat}{p:Nat->P2}{F:P2->P2->Int}(h1:0<m)(h2:m<n)(ha:F (p 0) (p m)+F (p m) (p 0)=0):CS n p F=CS (m+1) p F+CS (n-m+1) (sp m p) F:=by
 have e1:CS (m+1) p F=S m (fun j=>F (p j) (p (j+1)))+F (p m) (p 0):=by
  show S m (fun j=>F (p j) (p (nx (m+1) j)))+F (p m) (p (nx (m+1) m))=_;rw[Yj rfl,S_congr (g:=fun j=>F (p j) (p (j+1))) fun j hj=>by rw[Zs (by omega)]]
 have e2:CS (n-m+1) (sp m p) F=F (p 0) (p m)+S (n-m) (fun t=>F (p (m+t)) (p (nx n (m+t)))):=by
  unfold CS;rw[Zjk];have a:F (sp m p 0) (sp m p (nx (n-m+1) 0))=F (p 0) (p m):=by rw[Zs (by omega),spS,sp0];rfl
  rw[a]
  congr 1
  refine S_congr fun t ht=>?_;rw[spS];by_cases hl:t+1=n-m
  ·rw[Yj (by omega),Yj (by omega),sp0]
  ·rw[Zs (by omega),Zs (by omega),spS];rfl
 have e3:CS n p F=S m (fun j=>F (p j) (p (j+1)))+S (n-m) (fun t=>F (p (m+t)) (p (nx n (m+t)))):=by
  unfold CS;have:n=m+(n-m):=by omega
  have q:=Zhm (n-m) m (fun j=>F (p j) (p (nx n j)));rw[<-this]at q;rw[q]
  congr 1
  exact S_congr fun j hj=>by rw[Zs (by omega)]
 rw[e1,e2,e3];omega
structure Diag(n:Nat)(p:Nat->P2)(m:Nat):Prop where
 h1:2<=m
 h2:m+2<=n
 ap:∀ j,j<n->j≠0->j+1≠m->j≠m->j+1≠n->¬ meet (p 0) (p m) (p j) (p (j+1))
 t1:m=2->turn (p 0) (p 1) (p 2)≠0
 t2:n=m+2->turn (p 0) (p m) (p (m+1))≠0
section
variable{n m:Nat}{p:Nat->P2}
theorem Diag.way1(g:Way n p)(D:Diag n p m):Way (m+1) p:=by
 have h1:=D.h1;have h2:=D.h2;refine⟨by omega,fun i j hi hj e=>g.inj i j (by omega) (by omega) e,fun i hi e=>?_,fun i j hi hj a1 a2 a3=>?_⟩
 ·-- three corners
  have m2:m=2:=by unfold nx at e;grind
  have:=D.t1 m2;subst m2
  match i,hi with
  | 0,_=>exact this
  | 1,_=>rw[show nx (2+1) 1=2 from rfl,show nx (2+1) 2=0 from rfl,turn_rot];exact this
  | 2,_=>rw[show nx (2+1) 2=0 from rfl,show nx (2+1) 0=1 from rfl,turn_rot,turn_rot];exact this
 ·by_cases ci:i=m
  ·subst ci;have cj:j<i:=by omega
   rw[Yj rfl]at a3 ⊢;rw[Zs (by omega)]at a2 ⊢;exact fun z=>D.ap j (by omega) (by omega) (by omega) (by omega) (by omega) (WT z)
  ·by_cases cj:j=m
   ·subst cj;rw[Yj rfl]at a2 ⊢;rw[Zs (by omega)]at a3 ⊢;exact fun z=>D.ap i (by omega) (by omega) (by omega) (by omega) (by omega) (WT (Ju z))
   ·rw[Zs (by omega)]at a2 ⊢;rw[Zs (by omega)]at a3 ⊢;have:=g.apart i j (by omega) (by omega) a1;rw[Zs (n:=n) (i:=j) (by omega),Zs (n:=n) (i:=i) (by omega)]at this;exact this a2 a3
theorem Diag.way2(g:Way n p)(D:Diag n p m):Way (n-m+1) (sp m p):=by
 have h1:=D.h1;have h2:=D.h2;have nxs:∀ i,i+1<n-m+1->sp m p (nx (n-m+1) (i+1))=p (nx n (m+i)):=fun i hi=>by
  by_cases hl:i+1=n-m
  ·rw[Yj (by omega),Yj (by omega),sp0]
  ·rw[Zs (by omega),Zs (by omega),spS];rfl
 have nx0:sp m p (nx (n-m+1) 0)=p m:=by rw[Zs (by omega),spS];rfl
 refine⟨by omega,fun i j hi hj e=>?_,fun i hi e=>?_,fun i j hi hj a1 a2 a3=>?_⟩
 ·match i,j with
  | 0,0=>rfl
  | 0,j+1=>rw[spS,sp0]at e;have:=g.inj _ _ (by omega) (by omega) e;omega
  | i+1,0=>rw[spS,sp0]at e;have:=g.inj _ _ (by omega) (by omega) e;omega
  | i+1,j+1=>rw[spS,spS]at e;have:=g.inj _ _ (by omega) (by omega) e;omega
 ·have m2:n=m+2:=by unfold nx at e;grind
  have:=D.t2 m2;have e3:n-m+1=3:=by omega
  rw[e3]at hi ⊢;have s1:sp m p 1=p m:=spS m p 0;have s2:sp m p 2=p (m+1):=spS m p 1
  match i,hi with
  | 0,_=>rw[show nx 3 0=1 from rfl,show nx 3 1=2 from rfl,sp0,s1,s2];exact this
  | 1,_=>rw[show nx 3 1=2 from rfl,show nx 3 2=0 from rfl,sp0,s1,s2,turn_rot];exact this
  | 2,_=>rw[show nx 3 2=0 from rfl,show nx 3 0=1 from rfl,sp0,s1,s2,turn_rot,turn_rot];exact this
 ·match i,j with
  | 0,0=>exact absurd rfl a1
  | 0,j+1=>
   rw[nx0,nxs j hj,spS,sp0];have b1:j≠0:=fun z=>by subst z;rw[Zs (by omega)]at a3;exact a3 rfl
   have b2:m+j+1≠n:=fun z=>by rw[Yj (by omega)]at a2;exact a2 rfl
   rw[Zs (by omega)];exact D.ap (m+j) (by omega) (by omega) (by omega) (by omega) b2
  | i+1,0=>
   rw[nx0,nxs i hi,spS,sp0];have b1:i≠0:=fun z=>by subst z;rw[Zs (by omega)]at a2;exact a2 rfl
   have b2:m+i+1≠n:=fun z=>by rw[Yj (by omega)]at a3;exact a3 rfl
   rw[Zs (by omega)];exact fun z=>D.ap (m+i) (by omega) (by omega) (by omega) (by omega) b2 (Ju z)
  | i+1,j+1=>
   rw[nxs i hi,nxs j hj,spS,spS];refine g.apart (m+i) (m+j) (by omega) (by omega) (by omega) (fun z=>?_) (fun z=>?_)
   ·by_cases hl:m+j+1=n
    ·rw[Yj hl]at z;omega
    ·rw[Zs (by omega)]at z;rw[Zs (by omega)]at a2;omega
   ·by_cases hl:m+i+1=n
    ·rw[Yj hl]at z;omega
    ·rw[Zs (by omega)]at z;rw[Zs (by omega)]at a3;omega
end
noncomputable def fx(h k t:Int):Int:=if h<=0/\0<k/\0<t then 1 else if k<=0/\0<h/\t<0 then -1 else 0
theorem Zkq(h k t:Int):fx h k t+fx k h (-t)=0:=by unfold fx;grind
theorem Vq{h k t:Int}(a:h<=0)(b:0<k):fx h k t=if 0<t then 1 else 0:=by unfold fx;grind
theorem Vr{h k t:Int}(a:0<h)(b:k<=0):fx h k t=if t<0 then -1 else 0:=by unfold fx;grind
theorem ZaM{h k t:Int}(a:h<=0)(b:k<=0):fx h k t=0:=by unfold fx;grind
theorem ZaN{h k t:Int}(a:0<h)(b:0<k):fx h k t=0:=by unfold fx;grind
theorem pn0{a b:Int}(ha:0<=a)(hb:b<=0):a*b<=0:=Aa ha hb
theorem np0{a b:Int}(ha:a<=0)(hb:0<=b):a*b<=0:=Ar ha hb
theorem nn0{a b:Int}(ha:a<=0)(hb:b<=0):0<=a*b:=by have:=pp0 (show 0<=-a by omega) (show 0<=-b by omega);rw[Int.neg_mul_neg]at this;exact this
theorem tri_in{h1 h2 h3 t1 t2 t3:Int}(e:t2*h1+t3*h2+t1*h3=0)(p1:0<t1)(p2:0<t2)(p3:0<t3)(nz:h1≠0\/h2≠0\/h3≠0):fx h1 h2 t1+fx h2 h3 t2+fx h3 h1 t3=1:=by
 rcases A9 0 h1 with a | a<;>rcases A9 0 h2 with b | b<;>rcases A9 0 h3 with c | c
 ·have:=pp p2 a;have:=pp p3 b;have:=pp p1 c;omega
 ·rw[ZaN a b,Vr b c,Vq c a];(repeat' split)<;>omega
 ·rw[Vr a b,Vq b c,ZaN c a];(repeat' split)<;>omega
 ·rw[Vr a b,ZaM b c,Vq c a];(repeat' split)<;>omega
 ·rw[Vq a b,ZaN b c,Vr c a];(repeat' split)<;>omega
 ·rw[Vq a b,Vr b c,ZaM c a];(repeat' split)<;>omega
 ·rw[ZaM a b,Vq b c,Vr c a];(repeat' split)<;>omega
 ·exfalso;have x1:=pn0 (Ai p2) a;have x2:=pn0 (Ai p3) b;have x3:=pn0 (Ai p1) c;have z1:t2*h1=0:=by omega
  have z2:t3*h2=0:=by omega
  have z3:t1*h3=0:=by omega
  rcases Bs.mp z1 with q | q<;>rcases Bs.mp z2 with r | r<;>rcases Bs.mp z3 with s | s<;>omega
theorem Zfc{h1 h2 h3 t1 t2 t3:Int}(e:t2*h1+t3*h2+t1*h3=0)(A:0<t1+t2+t3)(ng:t1<0\/t2<0\/t3<0)(a:h1<=0)(b:0<h2)(c:h3<=0):fx h1 h2 t1+fx h2 h3 t2+fx h3 h1 t3=0:=by
 rw[Vq a b,Vr b c,ZaM c a];by_cases q:0<t1<;>by_cases r:t2<0
 ·rw[if_pos q,if_pos r];rfl
 ·exfalso;have:=pn0 (show 0<=t2 by omega) a;have:=pn0 (show 0<=t1 by omega) c;have:=np (show t3<0 by omega) b;omega
 ·exfalso;have:=nn0 (show t2<=0 by omega) a;have:=nn0 (show t1<=0 by omega) c;have:=pp (show 0<t3 by omega) b;omega
 ·rw[if_neg q,if_neg r];rfl
theorem Zfb{h1 h2 h3 t1 t2 t3:Int}(e:t2*h1+t3*h2+t1*h3=0)(A:0<t1+t2+t3)(ng:t1<0\/t2<0\/t3<0)(a:0<h1)(b:h2<=0)(c:0<h3):fx h1 h2 t1+fx h2 h3 t2+fx h3 h1 t3=0:=by
 rw[Vr a b,Vq b c,ZaN c a];by_cases q:t1<0<;>by_cases r:0<t2
 ·rw[if_pos q,if_pos r];rfl
 ·exfalso;have:=np0 (show t2<=0 by omega) (Ai a);have:=np q c;have:=pn0 (show 0<=t3 by omega) b;omega
 ·exfalso;have:=pp r a;have:=pp0 (show 0<=t1 by omega) (Ai c);have:=nn0 (show t3<=0 by omega) b;omega
 ·rw[if_neg q,if_neg r];rfl
theorem tri_out{h1 h2 h3 t1 t2 t3:Int}(e:t2*h1+t3*h2+t1*h3=0)(A:0<t1+t2+t3)(ng:t1<0\/t2<0\/t3<0):fx h1 h2 t1+fx h2 h3 t2+fx h3 h1 t3=0:=by
 rcases A9 0 h1 with a | a<;>rcases A9 0 h2 with b | b<;>rcases A9 0 h3 with c | c
 ·rw[ZaN a b,ZaN b c,ZaN c a];rfl
 ·have:=Zfb (h1:=h2) (h2:=h3) (h3:=h1) (t1:=t2) (t2:=t3) (t3:=t1) (by omega) (by omega) (by omega) b c a;omega
 ·exact Zfb e A ng a b c
 ·have:=Zfc (h1:=h3) (h2:=h1) (h3:=h2) (t1:=t3) (t2:=t1) (t3:=t2) (by omega) (by omega) (by omega) c a b;omega
 ·have:=Zfb (h1:=h3) (h2:=h1) (h3:=h2) (t1:=t3) (t2:=t1) (t3:=t2) (by omega) (by omega) (by omega) c a b;omega
 ·exact Zfc e A ng a b c
 ·have:=Zfc (h1:=h2) (h2:=h3) (h3:=h1) (t1:=t2) (t2:=t3) (t3:=t1) (by omega) (by omega) (by omega) b c a;omega
 ·rw[ZaM a b,ZaM b c,ZaM c a];rfl
theorem Zk8{h1 h2 h3 t1 t2 t3:Int}(e:t2*h1+t3*h2+t1*h3=0)(p1:0<t1)(p2:0<t2)(p3:t3=0)(n1:h1≠0)(n3:h3≠0):(h1<0/\0<h3/\fx h1 h2 t1+fx h2 h3 t2+fx h3 h1 t3=1)\/(h3<0/\0<h1/\fx h1 h2 t1+fx h2 h3 t2+fx h3 h1 t3=0):=by
 subst p3;rcases A9 0 h1 with a | a
 ·right;have c:h3<0:=by
   rcases A9 h3 0 with c | c
   ·exact c
   ·have:=pp p2 a;have:=pp0 (Ai p1) c;omega
  refine⟨c,a,?_⟩;rcases A9 0 h2 with b | b
  ·rw[ZaN a b,Vr b (by omega),Vq (by omega) a];(repeat' split)<;>omega
  ·rw[Vr a b,ZaM b (by omega),Vq (by omega) a];(repeat' split)<;>omega
 ·left;have c:0<h3:=by
   rcases A9 0 h3 with c | c
   ·exact c
   ·have:=pn p2 (show h1<0 by omega);have:=pn0 (Ai p1) c;omega
  refine⟨by omega,c,?_⟩;rcases A9 0 h2 with b | b
  ·rw[Vq a b,ZaN b c,Vr c a];(repeat' split)<;>omega
  ·rw[ZaM a b,Vq b c,Vr c a];(repeat' split)<;>omega
noncomputable def X(M:Int)(a:P2):Int:=M*a.1+a.2
def FX(M:Int)(q a b:P2):Int:=fx (X M a-X M q) (X M b-X M q) (turn a b q)
theorem Zdb(M:Int)(q a b:P2):FX M q a b+FX M q b a=0:=by
 unfold FX;rw[turn_swap a b q];exact Zkq _ _ _
theorem Zha(M:Int)(u v w x:P2):turn v w x*(X M u-X M x)+turn w u x*(X M v-X M x)+turn u v x*(X M w-X M x)=0:=by unfold turn X;grind
noncomputable def Bd(M:Int)(q:P2):Prop:=-M<2*q.2/\2*q.2<M
theorem X_lt{M:Int}{a b:P2}(ha:Bd M a)(hb:Bd M b):X M a<X M b ↔ lexlt a b:=by
 have q:=VH (n:=2) (M:=M) (p:=fun i=>if i=0 then a else b) (i:=0) (j:=1) (fun k _=>by
  by_cases c:k=0
  ·simp only[c,if_true];exact ha
  ·simp only[c,if_false];exact hb) (by omega) (by omega)
 exact q
theorem ZkN{M:Int}{a b:P2}(ha:Bd M a)(hb:Bd M b)(e:X M a=X M b):a=b:=by
 have q1:=X_lt ha hb;have q2:=X_lt hb ha;unfold lexlt at q1 q2;exact Bw (by omega) (by omega)
theorem Zjr{M:Int}(hM:0<M)(n:Nat)(p:Nat->P2)(q:P2):wn n (shX M p) (shY p) (X M q) q.2=CS n p (FX M q):=by
 unfold wn CS;refine S_congr fun j _=>?_;have c1:∀ a b:P2,cr (X M a) a.2 (X M b) b.2 (X M q) q.2=M*turn a b q:=by intro a b;unfold cr X turn;grind
 have ex:∀ i,shX M p i=X M (p i):=fun i=>rfl;have ey:∀ i,shY p i=(p i).2:=fun i=>rfl;unfold FX;rcases Zet (n:=n) (x:=shX M p) j with⟨a,b,c,l⟩ | ⟨a,b,c,l⟩
 ·have hP:(crs n (shX M p) j (X M q)/\0<sdp n (shX M p) (shY p) j (X M q) q.2) ↔ ((X M (p j)<=X M q/\X M q<X M (p (nx n j)))/\0<turn (p j) (p (nx n j)) q):=by
   unfold crs sdp;rw[a,b];simp only[ex,ey];rw[c1,Zkc hM]
  simp only[ex]at l;simp only[hP,c];unfold fx;split<;>split<;>(try split)<;>omega
 ·have hP:(crs n (shX M p) j (X M q)/\0<sdp n (shX M p) (shY p) j (X M q) q.2) ↔ ((X M (p (nx n j))<=X M q/\X M q<X M (p j))/\turn (p j) (p (nx n j)) q<0):=by
   unfold crs sdp;rw[a,b];simp only[ex,ey];rw[c1,Zkc hM,turn_swap];omega
  simp only[ex]at l;simp only[hP,c];unfold fx;split<;>split<;>(try split)<;>omega
noncomputable def O(M:Int)(n:Nat)(p:Nat->P2):Int:=w n (shX M p) (shY p) 0
def loc(M:Int)(a b c:P2):Int:=if(if X M a<X M b then(1:Int) else -1)=(if X M b<X M c then 1 else -1) then(if(if X M b<X M c then(1:Int) else -1)=1 then 0 else 1) else(if turn a b c<0 then 1 else 0)
theorem ZoN{M z:Int}(hM:0<M):M*z<0 ↔ z<0:=by
 have:=Zkc (z:=-z) hM;rw[Int.mul_neg]at this;omega
theorem Zix{M:Int}{n:Nat}{p:Nat->P2}(hM:0<M)(hb:∀ k,k<n->Bd M (p k))(g:Way n p){k:Nat}(hk:k<n):
  CS n p (FX M (p k))=loc M (p (pv n k)) (p k) (p (nx n k))+(O M n p-1):=by
 have s:=JI g hM hb;have q:=Zm9 s hk;have e:=Zjr hM n p (p k);have e2:wn n (shX M p) (shY p) (shX M p k) (shY p k)=wn n (shX M p) (shY p) (X M (p k)) (p k).2:=rfl;rw[e2,e]at q;rw[q];unfold O loc
 congr 1
 rw[Zch];simp only[ZoN hM];unfold d;rw[Qe hk];rfl
theorem ZmP{n:Nat}(hn:0<n)(f:Nat->Int):S n (fun i=>f (nx n i))=S n f:=by
 have:=ZkQ hn f;rw[ZnX]at this;omega
theorem ZmI{n:Nat}(hn:0<n)(p:Nat->P2)(F:P2->P2->Int):CS n (fun i=>p (nx n i)) F=CS n p F:=by
 unfold CS;exact ZmP hn (fun j=>F (p j) (p (nx n j)))
section
variable{n:Nat}{x y:Nat->Int}
theorem Zgc(i:Nat):nx n (lo n (fun i=>x (nx n i)) i)=lo n x (nx n i):=by unfold lo;simp only;split<;>rfl
theorem Zi9(i:Nat):nx n (hi n (fun i=>x (nx n i)) i)=hi n x (nx n i):=by unfold hi;simp only;split<;>rfl
theorem ZmC(i:Nat):d n (fun i=>x (nx n i)) i=d n x (nx n i):=by unfold d;simp only
theorem ZkE(i:Nat)(t:Int):crs n (fun i=>x (nx n i)) i t ↔ crs n x (nx n i) t:=by unfold crs;simp only[Zgc,Zi9]
theorem Zn4(i j:Nat):B n (fun i=>x (nx n i)) (fun i=>y (nx n i)) i j ↔ B n x y (nx n i) (nx n j):=by unfold B sd;simp only[Zgc,Zi9]
theorem ZnT(hn:0<n)(i:Nat)(t:Int):c n (fun i=>x (nx n i)) (fun i=>y (nx n i)) i t=c n x y (nx n i) t:=by
 unfold c;refine Eq.trans (S_congr fun j _=>?_) (ZmP hn fun j=>if crs n x j t/\B n x y j (nx n i) then d n x j else 0);simp only[ZkE,Zn4,ZmC]
theorem Znb(s:ZK n x y):w n (fun i=>x (nx n i)) (fun i=>y (nx n i)) 0=w n x y 0:=by
 have n3:=s.n3;have e:=Zk5 s (nx_lt (n:=n) (i:=0) (by omega));rw[<-e];unfold w W;rw[ZnT (by omega),ZmC];simp only[Zgc]
end
theorem ZiI{M:Int}{n:Nat}{p:Nat->P2}(hM:0<M)(hb:∀ k,k<n->Bd M (p k))(g:Way n p):O M n (fun i=>p (nx n i))=O M n p:=
 Znb (JI g hM hb)
theorem S_w{n:Nat}{x x' y y':Nat->Int}(n0:0<n)(hx:∀ i,i<n->x i=x' i)(hy:∀ i,i<n->y i=y' i):w n x y 0=w n x' y' 0:=by
 have l:∀ i,i<n->lo n x i=lo n x' i:=fun i hi'=>by unfold lo;rw[hx i hi',hx _ (nx_lt hi')]
 have h:∀ i,i<n->hi n x i=hi n x' i:=fun i hi'=>by unfold hi;rw[hx i hi',hx _ (nx_lt hi')]
 have dd:∀ i,i<n->d n x i=d n x' i:=fun i hi'=>by unfold d;rw[hx i hi',hx _ (nx_lt hi')]
 have xl:∀ i,i<n->x (lo n x i)=x' (lo n x' i):=fun i hi'=>by rw[hx _ (YV hi'),l i hi']
 have xh:∀ i,i<n->x (hi n x i)=x' (hi n x' i):=fun i hi'=>by rw[hx _ (Y1 hi'),h i hi']
 have yl:∀ i,i<n->y (lo n x i)=y' (lo n x' i):=fun i hi'=>by rw[hy _ (YV hi'),l i hi']
 have yh:∀ i,i<n->y (hi n x i)=y' (hi n x' i):=fun i hi'=>by rw[hy _ (Y1 hi'),h i hi']
 have sl:∀ i j,i<n->j<n->sd n x y i (lo n x j)=sd n x' y' i (lo n x' j):=fun i j hi' hj=>by unfold sd;rw[xl i hi',xh i hi',yl i hi',yh i hi',xl j hj,yl j hj]
 have sh:∀ i j,i<n->j<n->sd n x y i (hi n x j)=sd n x' y' i (hi n x' j):=fun i j hi' hj=>by unfold sd;rw[xl i hi',xh i hi',yl i hi',yh i hi',xh j hj,yh j hj]
 have cc:∀ i t,i<n->(crs n x i t ↔ crs n x' i t):=fun i t hi'=>by unfold crs;rw[xl i hi',xh i hi']
 have bb:∀ i j,i<n->j<n->(B n x y i j ↔ B n x' y' i j):=fun i j hi' hj=>by
  unfold B;rw[xl i hi',xl j hj,xh i hi',xh j hj,sl i j hi' hj,sl j i hj hi',sh i j hi' hj,sh j i hj hi']
 unfold w W c;rw[dd 0 n0,xl 0 n0]
 congr 1
 refine S_congr fun j hj=>?_;simp only[cc j _ hj,bb j 0 hj n0,dd j hj]
theorem Zc5{M:Int}{n:Nat}{p q:Nat->P2}(n0:0<n)(h:∀ i,i<n->p i=q i):O M n p=O M n q:=
 S_w n0 (fun i hi'=>by unfold shX;rw[h i hi']) (fun i hi'=>by unfold shY;rw[h i hi'])
theorem Way.congr{n:Nat}{p q:Nat->P2}(g:Way n p)(h:∀ i,i<n->p i=q i):Way n q:=by
 refine⟨g.n3,fun i j hi' hj e=>g.inj i j hi' hj (by rw[h i hi',h j hj];exact e),fun i hi' e=>?_,fun i j hi' hj a b c=>?_⟩
 ·have:=g.tri i hi' e;rw[h i hi',h _ (nx_lt hi'),h _ (nx_lt (nx_lt hi'))]at this;exact this
 ·have:=g.apart i j hi' hj a b c;rw[h i hi',h _ (nx_lt hi'),h j hj,h _ (nx_lt hj)]at this;exact this
section
variable{n:Nat}{p:Nat->P2}
theorem Way.off(g:Way n p){i k:Nat}(hi':i<n)(hk:k<n)(k1:k≠i)(k2:k≠nx n i):¬ onS (p i) (p (nx n i)) (p k):=by
 intro o;by_cases c1:i=nx n k
 ·have hp:=pv_lt (n:=n) hk;have e:=Qe (n:=n) hk;by_cases c2:pv n k=nx n i
  ·have e3:k=nx n (nx n i):=by rw[<-c2,e]
   have:=g.tri i hi' (by rw[<-e3];exact c1.symm);rw[<-e3]at this;exact this o.1
  ·refine g.apart i (pv n k) hi' hp ?_ ?_ c2 (.inr (.inl ?_))
   ·rintro rfl;exact k2 e.symm
   ·rw[e];exact Ao k1
   ·rw[e];exact o
 ·exact g.apart i k hi' hk (Ao k1) c1 k2 (.inl o)
theorem on_edge{u v w x:P2}(hA:0<turn u v w)(h:inT u v w x)(z:turn u v x=0):onS u v x:=by
 obtain⟨h1,h2,h3⟩:=h;have b:=bary1 u v w x;have e1:(x.1-u.1)*turn u v w=(v.1-u.1)*turn w u x:=by unfold turn at *;grind
 have e2:(x.2-u.2)*turn u v w=(v.2-u.2)*turn w u x:=by unfold turn at *;grind
 have k:∀{p q m t:Int},p*m=q*t->0<m->0<=t->t<=m->(0<=q->0<=p/\p<=q)/\(q<=0->q<=p/\p<=0):=by
  intro p q m t e hm ht hl;constructor
  ·intro hq;have a1:=pp0 hq ht;have a2:q*t<=q*m:=Bu hl hq;refine⟨?_,?_⟩
   ·rcases A9 p 0 with c | c
    ·have:=np c hm;omega
    ·exact c
   ·exact Int.le_of_mul_le_mul_right (by omega) hm
  ·intro hq;have a1:=np0 hq ht;have a2:q*m<=q*t:=Ce hq hl;refine⟨Int.le_of_mul_le_mul_right (by omega) hm,?_⟩;rcases A9 0 p with c | c
   ·have:=pp c hm;omega
   ·exact c
 obtain⟨a1,a2⟩:=k e1 hA h3 (by omega);obtain⟨b1,b2⟩:=k e2 hA h3 (by omega);refine⟨z,?_,?_⟩
 ·rcases Int.le_total 0 (v.1-u.1) with q | q
  ·have:=a1 q;omega
  ·have:=a2 q;omega
 ·rcases Int.le_total 0 (v.2-u.2) with q | q
  ·have:=b1 q;omega
  ·have:=b2 q;omega
theorem ZaJ{u v w x:P2}(h:inT u v w x):inT v w u x:=⟨h.2.1,h.2.2,h.1⟩
theorem Diag.off{m:Nat}(g:Way n p)(D:Diag n p m){k:Nat}(hk:k<n)(k0:k≠0)(km:k≠m):¬ onS (p 0) (p m) (p k):=by
 intro o;have h1:=D.h1;have h2:=D.h2;by_cases c:k+1=m
 ·by_cases c2:k=1
  ·have:=D.t1 (by omega);subst c2;have e:m=2:=by omega
   subst e;have o1:=o.1;have:turn (p 0) (p 2) (p 1)=- turn (p 0) (p 1) (p 2):=by unfold turn;grind
   omega
  ·have:=D.ap (k-1) (by omega) (by omega) (by omega) (by omega) (by omega);rw[show k-1+1=k by omega]at this;exact this (.inr (.inl o))
 ·by_cases c3:k+1=n
  ·by_cases c2:k=m+1
   ·have:=D.t2 (by omega);subst c2;exact this o.1
   ·have:=D.ap (k-1) (by omega) (by omega) (by omega) (by omega) (by omega);rw[show k-1+1=k by omega]at this;exact this (.inr (.inl o))
  ·exact D.ap k hk k0 c km c3 (.inl o)
structure Ear(n:Nat)(p:Nat->P2)(v:Nat):Prop where
 lt:v<n
 left:0<turn (p (pv n v)) (p v) (p (nx n v))
 out:∀ k,k<n->k≠v->k≠pv n v->k≠nx n v->¬ inT (p (pv n v)) (p v) (p (nx n v)) (p k)
theorem Ear.unrot(hn:3<=n){v:Nat}(e:Ear n (fun i=>p (nx n i)) v):Ear n p (nx n v):=by
 refine⟨nx_lt e.lt,?_,fun k hk a b c=>?_⟩
 ·have:=e.left;simp only[Qe e.lt]at this;rw[JT e.lt];exact this
 ·rw[JT e.lt]at b ⊢;have:=e.out (pv n k) (pv_lt hk) (fun z=>a (by rw[<-z,Qe hk])) (fun z=>b (by rw[<-Qe (n:=n) hk,z,Qe e.lt])) (fun z=>c (by rw[<-z,Qe hk]));simp only[Qe e.lt,Qe hk]at this;exact this
theorem Ear.diag(g:Way n p)(h4:4<=n)(e:Ear n p 1):Diag n p 2:=by
 have e1:nx n 1=2:=Zs (by omega);have e0:pv n 1=0:=YT (by omega);have l:=e.left;have out:=e.out;rw[e1,e0]at l out;have n0:nx n 0=1:=Zs (by omega);refine⟨by omega,by omega,fun j hj a b c d'=>?_,fun _=>by omega,fun hn=>?_⟩
 ·intro mt;have nj:nx n j=j+1:=Zs (by omega);rcases ZgM l (out j hj (by omega) (by omega) (by omega)) (out (j+1) (by omega) (by omega) (by omega) (by omega)) mt with z | z
  ·have:=g.apart 0 j (by omega) hj (by omega) (by omega) (by omega);rw[n0,nj]at this;exact this z
  ·have:=g.apart 1 j (by omega) hj (by omega) (by omega) (by omega);rw[e1,nj]at this;exact this z
 ·intro z;have z':turn (p 0) (p 2) (p 3)=0:=z;have o3:=out 3 (by omega) (by omega) (by omega) (by omega);have f1:=g.off (i:=2) (k:=0) (by omega) (by omega) (by omega) (by rw[Zs (by omega)];omega);have f2:=g.off (i:=3) (k:=2) (by omega) (by omega) (by omega) (by rw[Yj (by omega)];omega);rw[Zs (show 2+1<n by omega)]at f1;rw[Yj (show 3+1=n by omega)]at f2;have b:=bary1 (p 0) (p 1) (p 2) (p 3);have w0:turn (p 2) (p 0) (p 3)=0:=by rw[turn_swap];omega
  rcases A9 (turn (p 0) (p 1) (p 3)) 0 with q | q
  ·-- 0 between 2 and 3
   have q2:turn (p 0) (p 1) (p 2)=turn (p 0) (p 1) (p 2):=rfl;refine f1 (onS_symm ?_);refine Zj3 (a:=p 0) (b:=p 1) ?_ ?_ ?_
   ·have h:turn (p 3) (p 2) (p 0)=- turn (p 0) (p 2) (p 3):=by unfold turn;grind
    show turn (p 3) (p 2) (p 0)=0;rw[h,z'];rfl
   ·rw[turn_self];exact q
   ·rw[turn_self];exact l
  ·rcases A9 (turn (p 1) (p 2) (p 3)) 0 with r | r
   ·refine f2 ?_;refine Zj3 (a:=p 1) (b:=p 2) ?_ ?_ ?_
    ·have h:turn (p 3) (p 0) (p 2)=turn (p 0) (p 2) (p 3):=by unfold turn;grind
     rw[h,z']
    ·rw[turn_self'];exact r
    ·rw[turn_self',turn_rot];exact l
   ·exact o3 ⟨q,r,by omega⟩
end
section
variable{n m:Nat}{p:Nat->P2}{M:Int}
theorem Zld(h1:2<=m)(h2:m+2<=n){i:Nat}(hi':i+1<n-m+1):sp m p (nx (n-m+1) (i+1))=p (nx n (m+i)):=by
 by_cases hl:i+1=n-m
 ·rw[Yj (by omega),Yj (by omega),sp0]
 ·rw[Zs (by omega),Zs (by omega),spS];rfl
theorem Zcf(h1:2<=m)(h2:m+2<=n)(hb:∀ k,k<n->Bd M (p k)):∀ k,k<n-m+1->Bd M (sp m p k)
 | 0,_=>hb 0 (by omega)
 | k+1,hk=>by rw[spS];exact hb _ (by omega)
theorem Zje(hM:0<M)(hb:∀ k,k<n->Bd M (p k))(g:Way n p)(h1:2<=m)(h2:m+2<=n)(g2:Way (n-m+1) (sp m p)){t:Nat}(t1:0<t)(t2:m+t<n):
  CS (m+1) p (FX M (p (m+t)))=O M n p-O M (n-m+1) (sp m p):=by
 have q:=ZaT (n:=n) (m:=m) (p:=p) (F:=FX M (p (m+t))) (by omega) (by omega) (Zdb _ _ _ _);have a:=Zix hM hb g (k:=m+t) t2;have b:=Zix hM (Zcf h1 h2 hb) g2 (k:=t+1) (by omega);rw[Zld h1 h2 (by omega)]at b;have e1:sp m p (t+1)=p (m+t):=spS m p t;have e2:sp m p (pv (n-m+1) (t+1))=p (pv n (m+t)):=by
  rw[YT (by omega),YT (by omega),show t+1-1=t-1+1 by omega,spS]
  congr 1;omega
 rw[e1,e2]at b;omega
theorem ZkC(hM:0<M)(hb:∀ k,k<n->Bd M (p k))(g:Way n p)(h1:2<=m)(h2:m+2<=n)(g1:Way (m+1) p){t:Nat}(t1:0<t)(t2:t<m):
  CS (n-m+1) (sp m p) (FX M (p t))=O M n p-O M (m+1) p:=by
 have q:=ZaT (n:=n) (m:=m) (p:=p) (F:=FX M (p t)) (by omega) (by omega) (Zdb _ _ _ _);have a:=Zix hM hb g (k:=t) (by omega);have b:=Zix hM (fun k hk=>hb k (by omega)) g1 (k:=t) (by omega);rw[YT (by omega),Zs (by omega)]at a b;omega
theorem cs3(p:Nat->P2)(F:P2->P2->Int):CS 3 p F=F (p 0) (p 1)+F (p 1) (p 2)+F (p 2) (p 0):=by
 show 0+F (p 0) (p (nx 3 0))+F (p 1) (p (nx 3 1))+F (p 2) (p (nx 3 2))=_;rw[show nx 3 0=1 from rfl,show nx 3 1=2 from rfl,show nx 3 2=0 from rfl];omega
theorem Ear.rest(hM:0<M)(hb:∀ k,k<n->Bd M (p k))(g:Way n p)(h4:4<=n)(e:Ear n p 1):Way (n-2+1) (sp 2 p)/\O M (n-2+1) (sp 2 p)=O M n p:=by
 have D:=e.diag g h4;have g2:=D.way2 g;refine⟨g2,?_⟩;have q:=Zje hM hb g (by omega) (by omega) g2 (t:=1) (by omega) (by omega);have e1:nx n 1=2:=Zs (by omega);have e0:pv n 1=0:=YT (by omega);have l:=e.left;have o:=e.out 3 (by omega) (by omega) (by rw[e0];omega) (by rw[e1];omega);rw[e1,e0]at l o;rw[cs3]at q;have b:=bary1 (p 0) (p 1) (p 2) (p 3);have z:=tri_out (Zha M (p 0) (p 1) (p 2) (p 3)) (by omega) (by
  apply A1;intro c;exact o ⟨by omega,by omega,by omega⟩)
 unfold FX at q;have q':fx (X M (p 0)-X M (p 3)) (X M (p 1)-X M (p 3)) (turn (p 0) (p 1) (p 3))+fx (X M (p 1)-X M (p 3)) (X M (p 2)-X M (p 3)) (turn (p 1) (p 2) (p 3))+fx (X M (p 2)-X M (p 3)) (X M (p 0)-X M (p 3)) (turn (p 2) (p 0) (p 3))=O M n p-O M (n-2+1) (sp 2 p):=q;omega
theorem Zkb{u v w x:P2}(hA:0<turn u v w)(h1:X M x<X M u)(h2:X M x<X M v)(h3:X M x<X M w):¬ inT u v w x:=by
 rintro⟨a,b,c⟩;have e:=Zha M u v w x;have f:=bary1 u v w x;have k1:=pp0 b (show 0<=X M u-X M x by omega);have k2:=pp0 c (show 0<=X M v-X M x by omega);have k3:=pp0 a (show 0<=X M w-X M x by omega);rcases A9 0 (turn v w x) with z | z
 ·have:=pp z (show 0<X M u-X M x by omega);omega
 ·rcases A9 0 (turn w u x) with z2 | z2
  ·have:=pp z2 (show 0<X M v-X M x by omega);omega
  ·have:=pp (show 0<turn u v x by omega) (show 0<X M w-X M x by omega);omega
theorem O_left(hM:0<M)(hb:∀ k,k<n->Bd M (p k))(g:Way n p)(hm:∀ i,0<i->i<n->X M (p 0)<X M (p i)):O M n p=if 0<turn (p (n-1)) (p 0) (p 1) then 1 else 0:=by
 have s:=JI g hM hb;have q:=ZiK s hm;rw[Zch]at q;simp only[Zkc hM]at q;exact q
theorem Zg0{u v w z s t:P2}(hA:0<turn u v w)(a:0<turn v w z)(c:0<turn u v z)(b:0<=turn w u z)
  (fv:turn s t v<0)(fz:0<turn s t z)(gs:0<turn v z s)(gt:turn v z t<0):
  (turn w u z<turn w u s\/turn w u z<turn w u t) /\
  (0<turn w u s->¬ inT u v w s->meet u v s t/\turn u v s<0/\0<turn u v t) /\
  (0<turn w u t->¬ inT u v w t->meet v w s t/\turn v w t<0/\0<turn v w s):=by
 have bz:=bary1 u v w z;have hLz:turn w u z<turn u v w:=by omega
 have e0:turn s t v-turn s t z=turn v z t-turn v z s:=by unfold turn;grind
 have eL:turn v z s*turn w u t-turn v z t*turn w u s=- turn s t v*turn w u z+turn s t z*turn u v w:=by unfold turn;grind
 refine⟨?_,fun ls ns=>?_,fun lt nt=>?_⟩
 ·apply A1;intro q;have q1:turn w u s<=turn w u z:=by omega
  have q2:turn w u t<=turn w u z:=by omega
  have k1:turn v z s*turn w u t<=turn v z s*turn w u z:=Bu q2 (by omega);have k2:turn v z t*turn w u z<=turn v z t*turn w u s:=Ce (by omega) q1;have k3:turn s t z*turn w u z<turn s t z*turn u v w:=Int.mul_lt_mul_of_pos_left hLz fz;have k4:(turn s t v-turn s t z)*turn w u z=(turn v z t-turn v z s)*turn w u z:=by rw[e0]
  rw[Int.sub_mul,Int.sub_mul]at k4;rw[Int.neg_mul]at eL;omega
 ·have id1:turn u v w*turn v z s=turn v w s*turn u v z-turn u v s*turn v w z:=by unfold turn;grind
  have bs:=bary1 u v w s;have g1:turn u v s<0:=by
   rcases A9 (turn u v s) 0 with h | h
   ·exact h
   ·exfalso;have h2:turn v w s<0:=by
     rcases A9 (turn v w s) 0 with h2 | h2
     ·exact h2
     ·exact absurd ⟨h,h2,by omega⟩ ns
    have:=np h2 c;have:=pp0 h (Ai a);have:=pp hA gs;omega
  have id2:turn v z s*turn u v t-turn v z t*turn u v s=- turn s t v*turn u v z:=by unfold turn;grind
  have g2:0<turn u v t:=by
   rcases A9 0 (turn u v t) with h | h
   ·exact h
   ·exfalso;have:=pn0 (Ai gs) h;have:=nn gt g1;have:=pp (show 0 < - turn s t v by omega) c;omega
  have id3:turn v z s*(turn u v w*turn s t u)=(- turn s t v)*(turn u v z*turn w u s)+(turn u v s*turn s t v)*turn w u z+(- turn u v s)*(turn s t z*turn u v w):=by unfold turn;grind
  have g3:0<turn s t u:=by
   rcases A9 0 (turn s t u) with h | h
   ·exact h
   ·exfalso;have:=pn0 (Ai gs) (pn0 (Ai hA) h);have:=pp (show 0 < - turn s t v by omega) (pp c ls);have:=pp0 (Ai (nn g1 fv)) b;have:=pp (show 0 < - turn u v s by omega) (pp fz hA);omega
  exact⟨.inr (.inr (.inr (.inr ⟨np g1 g2,pn g3 fv⟩))),g1,g2⟩
 ·have id1:turn u v w*turn v z t=turn v w t*turn u v z-turn u v t*turn v w z:=by unfold turn;grind
  have bt:=bary1 u v w t;have g1:turn v w t<0:=by
   rcases A9 (turn v w t) 0 with h | h
   ·exact h
   ·exfalso;have h2:turn u v t<0:=by
     rcases A9 (turn u v t) 0 with h2 | h2
     ·exact h2
     ·exact absurd ⟨h2,h,by omega⟩ nt
    have:=np h2 a;have:=pp0 h (Ai c);have:=pn hA gt;omega
  have id2:turn v z s*turn v w t-turn v z t*turn v w s=- turn s t v*turn v w z:=by unfold turn;grind
  have g2:0<turn v w s:=by
   rcases A9 0 (turn v w s) with h | h
   ·exact h
   ·exfalso;have:=nn0 (Ai gt) h;have:=pn gs g1;have:=pp (show 0 < - turn s t v by omega) a;omega
  have id3:(- turn v z t)*(turn u v w*turn s t w)=(- turn s t v)*(turn v w z*turn w u t)+(turn v w t*turn s t v)*turn w u z+(- turn v w t)*(turn s t z*turn u v w):=by unfold turn;grind
  have g3:0<turn s t w:=by
   rcases A9 0 (turn s t w) with h | h
   ·exact h
   ·exfalso;have:=pn0 (show 0<=- turn v z t by omega) (pn0 (Ai hA) h);have:=pp (show 0 < - turn s t v by omega) (pp a lt);have:=pp0 (Ai (nn g1 fv)) b;have:=pp (show 0 < - turn v w t by omega) (pp fz hA);omega
  exact⟨.inr (.inr (.inr (.inr ⟨pn g2 g1,np fv g3⟩))),g1,g2⟩
end
theorem ZfZ{n:Nat}(h:3<=n):nx n 1=2:=Zs (by omega)
theorem on_param{a b c:P2}(h:onS a b c)(ne:a≠b):∃ K r:Int,0<K/\0<=r/\r<=K/\(r=K->c=b)/\∀ x y:P2,K*turn x y c=(K-r)*turn x y a+r*turn x y b:=by
 obtain⟨h0,h1,h2⟩:=h;have key:∀ K r:Int,K*(c.1-a.1)=r*(b.1-a.1)->K*(c.2-a.2)=r*(b.2-a.2)->∀ x y:P2,K*turn x y c=(K-r)*turn x y a+r*turn x y b:=by
  intro K r e1 e2 x y;unfold turn;grind
 by_cases hx:a.1=b.1
 ·have hy:a.2≠b.2:=fun z=>ne (Bw hx z);have c1:c.1=a.1:=by omega
  rcases A9 a.2 b.2 with l | l
  ·refine⟨b.2-a.2,c.2-a.2,by omega,by omega,by omega,fun z=>Bw (by omega) (by omega),key _ _ ?_ ?_⟩
   ·rw[c1,hx];grind
   ·exact Bo _ _
  ·refine⟨a.2-b.2,a.2-c.2,by omega,by omega,by omega,fun z=>Bw (by omega) (by omega),key _ _ ?_ ?_⟩
   ·rw[c1,hx];grind
   ·grind
 ·unfold turn at h0;rcases A9 a.1 b.1 with l | l
  ·refine⟨b.1-a.1,c.1-a.1,by omega,by omega,by omega,fun z=>?_,key _ _ (Bo _ _) (by grind)⟩;refine Bw (by omega) ?_;have:(b.1-a.1)*(c.2-b.2)=0:=by grind
   rcases Bs.mp this with q | q<;>omega
  ·refine⟨a.1-b.1,a.1-c.1,by omega,by omega,by omega,fun z=>?_,key _ _ (by grind) (by grind)⟩;refine Bw (by omega) ?_;have:(b.1-a.1)*(c.2-b.2)=0:=by grind
   rcases Bs.mp this with q | q<;>omega
section
variable{n m:Nat}{p:Nat->P2}{M:Int}
theorem ZcO(hM:0<M)(hb:∀ k,k<n->Bd M (p k))(g:Way n p)(h4:4<=n)(hm:∀ i,0<i->i<n->X M (p 0)<X M (p i))(hO:O M n p=1):
  Ear n p 0\/∃ m,Diag n p m/\0<turn (p (n-1)) (p 0) (p m)/\0<turn (p 0) (p 1) (p m):=by
 have hA:0<turn (p (n-1)) (p 0) (p 1):=by
  have:=O_left hM hb g hm;rw[hO]at this;apply A1;intro c;rw[if_neg c]at this;omega
 have e0:pv n 0=n-1:=by unfold pv;rw[if_pos rfl]
 have e1:nx n 0=1:=Zs (by omega);have en:nx n (n-1)=0:=Yj (by omega);by_cases ex:∃ k,k<n/\(1<k/\k<n-1/\inT (p (n-1)) (p 0) (p 1) (p k))
 ·right;obtain⟨m,hmn,⟨m1,m2,hin⟩,mx⟩:=ZdP (fun k=>turn (p 1) (p (n-1)) (p k)) (fun k=>1<k/\k<n-1/\inT (p (n-1)) (p 0) (p 1) (p k)) n ex;have bz:=bary1 (p (n-1)) (p 0) (p 1) (p m);have b:0<=turn (p 1) (p (n-1)) (p m):=hin.2.2;have a:0<turn (p 0) (p 1) (p m):=by
   have f:=g.off (i:=0) (k:=m) (by omega) hmn (by omega) (by omega);rw[e1]at f;have h0:=hin.2.1;rcases A9 0 (turn (p 0) (p 1) (p m)) with q | q
   ·exact q
   ·exact absurd (on_edge (by rw[turn_rot];exact hA) (ZaJ hin) (by omega)) f
  have c:0<turn (p (n-1)) (p 0) (p m):=by
   have f:=g.off (i:=n-1) (k:=m) (by omega) hmn (by omega) (by omega);rw[en]at f;have h0:=hin.1;rcases A9 0 (turn (p (n-1)) (p 0) (p m)) with q | q
   ·exact q
   ·exact absurd (on_edge hA hin (by omega)) f
  have L1:turn (p 1) (p (n-1)) (p 1)=0:=turn_self _ _;have Ln:turn (p 1) (p (n-1)) (p (n-1))=0:=turn_self' _ _;have far:∀ i,i<n->i≠0->turn (p 1) (p (n-1)) (p m)<turn (p 1) (p (n-1)) (p i)->¬ inT (p (n-1)) (p 0) (p 1) (p i):=by
   intro i hi' i0 h t;have i1:i≠1:=by rintro rfl;omega
   have i2:i≠n-1:=by rintro rfl;omega
   have:=mx i hi' ⟨by omega,by omega,t⟩;omega
  have onz:∀ i,i<n->i≠0->i≠m->¬ onS (p 0) (p m) (p i):=by
   intro i hi' i0 im o;obtain⟨K,r,hK,r0,rK,re,lin⟩:=on_param o (fun z=>by have:=g.inj _ _ (by omega) hmn z;omega);have rl:r<K:=by
    rcases A9 r K with q | q
    ·exact q
    ·have:=g.inj _ _ hi' hmn (re (by omega));omega
   have q1:=lin (p 1) (p (n-1));have q2:=lin (p 0) (p 1);have q3:=lin (p (n-1)) (p 0);rw[turn_self,bh]at q2;rw[turn_self',bh]at q3;have hv:turn (p 1) (p (n-1)) (p 0)=turn (p (n-1)) (p 0) (p 1):=by rw[turn_rot,turn_rot]
   have lt:turn (p 1) (p (n-1)) (p m)<turn (p 1) (p (n-1)) (p i):=by
    have k1:(K-r)*turn (p 1) (p (n-1)) (p m)<(K-r)*turn (p 1) (p (n-1)) (p 0):=Int.mul_lt_mul_of_pos_left (by omega) (by omega);have k2:K*turn (p 1) (p (n-1)) (p m)<K*turn (p 1) (p (n-1)) (p i):=by
     have:K*turn (p 1) (p (n-1)) (p m)=(K-r)*turn (p 1) (p (n-1)) (p m)+r*turn (p 1) (p (n-1)) (p m):=by grind
     omega
    exact Int.lt_of_mul_lt_mul_left k2 (by omega)
   have pos:∀{z:Int},0<=K*z->0<=z:=by
    intro z hz;rcases A9 z 0 with q | q
    ·have:=pn hK q;omega
    ·exact q
   have k3:=pp0 r0 (Ai a);have k4:=pp0 r0 (Ai c);exact far i hi' i0 lt ⟨pos (by omega),pos (by omega),by omega⟩
  refine⟨m,⟨by omega,by omega,fun j hj j0 jm1 jm jn=>?_,fun h=>?_,fun h=>?_⟩,c,a⟩
  ·have nj:nx n j=j+1:=Zs (by omega);have f0:=g.off (i:=j) (k:=0) hj (by omega) (by omega) (by omega);have fm:=g.off (i:=j) (k:=m) hj hmn (by omega) (by omega);rw[nj]at f0 fm;have core:∀ i i',((i=j/\i'=j+1)\/(i=j+1/\i'=j))->turn (p i) (p i') (p 0)<0->0<turn (p i) (p i') (p m)->0<turn (p 0) (p m) (p i)->turn (p 0) (p m) (p i')<0->False:=by
    intro i i' hii fv fz gs gt;have cr:=Zg0 hA a c b fv fz gs gt;have mt:∀ x y:P2,meet x y (p i) (p i')->meet x y (p j) (p (j+1)):=by
     intro x y h;rcases hii with⟨rfl,rfl⟩ | ⟨rfl,rfl⟩
     ·exact h
     ·exact V5 h
    rcases cr.1 with h | h
    ·obtain⟨x1,x2,x3⟩:=cr.2.1 (by omega) (far i (by omega) (by omega) h);have i1:i≠n-1:=by rintro rfl;rw[turn_self]at x2;omega
     have i2:i'≠n-1:=by rintro rfl;rw[turn_self]at x3;omega
     have:=g.apart (n-1) j (by omega) hj (by omega) (by omega) (by omega);rw[en,nj]at this;exact this (mt _ _ x1)
    ·obtain⟨x1,x2,x3⟩:=cr.2.2 (by omega) (far i' (by omega) (by omega) h);have i1:i≠1:=by rintro rfl;rw[turn_self']at x3;omega
     have i2:i'≠1:=by rintro rfl;rw[turn_self']at x2;omega
     have:=g.apart 0 j (by omega) hj (by omega) (by omega) (by omega);rw[e1,nj]at this;exact this (mt _ _ x1)
   rintro(h | h | h | h | ⟨h,h'⟩)
   ·exact onz j hj j0 jm h
   ·exact onz (j+1) (by omega) (by omega) jm1 h
   ·exact f0 h
   ·exact fm h
   ·have s1:=turn_swap (p j) (p (j+1)) (p 0);have s2:=turn_swap (p j) (p (j+1)) (p m);have ee:turn (p j) (p (j+1)) (p 0)-turn (p j) (p (j+1)) (p m)=turn (p 0) (p m) (p (j+1))-turn (p 0) (p m) (p j):=by unfold turn;grind
    rcases QY h' with⟨q1,q2⟩ | ⟨q1,q2⟩
    ·rcases QY h with⟨r1,r2⟩ | ⟨r1,r2⟩
     ·omega
     ·exact core j (j+1) (.inl ⟨rfl,rfl⟩) q1 q2 r1 r2
    ·rcases QY h with⟨r1,r2⟩ | ⟨r1,r2⟩
     ·exact core (j+1) j (.inr ⟨rfl,rfl⟩) (by omega) (by omega) r2 r1
     ·omega
  ·rw[h]at a;omega
  ·have e:m+1=n-1:=by omega
   rw[e,turn_rot];omega
 ·left;refine⟨by omega,by rw[e0,e1];exact hA,fun k hk a b c=>?_⟩;rw[e0]at b ⊢;rw[e1]at c ⊢;exact fun t=>ex ⟨k,hk,by omega,by omega,t⟩
theorem Ear.rot(hn:3<=n){v:Nat}(hv:v<n)(e:Ear n p (nx n v)):Ear n (fun i=>p (nx n i)) v:=by
 refine⟨hv,?_,fun k hk a b c=>?_⟩
 ·have:=e.left;rw[JT hv]at this;simp only[Qe hv];exact this
 ·have:=e.out (nx n k) (nx_lt hk) (fun z=>a (U5 hk hv z)) (fun z=>b (by rw[JT hv]at z;rw[<-z,JT hk])) (fun z=>c (U5 hk (nx_lt hv) z));rw[JT hv]at this;simp only[Qe hv];exact this
theorem ZkA(hM:0<M)(hb:∀ k,k<n->Bd M (p k))(g:Way n p)(hO:O M n p=1)(e:Ear n p 1){q:P2}(hq:Bd M q)(nq:∀ i,i<n->q≠p i)
  (i3:inT (p 0) (p 1) (p 2) q)(s1:¬ onS (p 0) (p 1) q)(s2:¬ onS (p 1) (p 2) q)(s3:n=3->¬ onS (p 2) (p 0) q):CS n p (FX M q)≠0:=by
 have n3:=g.n3;have l:=e.left;have pv1:pv n 1=0:=YT (by omega);rw[pv1,ZfZ n3]at l;have hX:∀ i,i<n->X M (p i)-X M q≠0:=fun i hi' z=>nq i hi' (ZkN hq (hb i hi') (by omega));have t1:0<turn (p 0) (p 1) q:=by
  have:=i3.1;rcases A9 0 (turn (p 0) (p 1) q) with z | z
  ·exact z
  ·exact absurd (on_edge l i3 (by omega)) s1
 have t2:0<turn (p 1) (p 2) q:=by
  have:=i3.2.1;rcases A9 0 (turn (p 1) (p 2) q) with z | z
  ·exact z
  ·exact absurd (on_edge (by rw[turn_rot];exact l) (ZaJ i3) (by omega)) s2
 have t3:=i3.2.2;have bx:=Zha M (p 0) (p 1) (p 2) q;have x0:=hX 0 (by omega);have x2:=hX 2 (by omega);have three:CS 3 p (FX M q)=fx (X M (p 0)-X M q) (X M (p 1)-X M q) (turn (p 0) (p 1) q)+fx (X M (p 1)-X M q) (X M (p 2)-X M q) (turn (p 1) (p 2) q)+fx (X M (p 2)-X M q) (X M (p 0)-X M q) (turn (p 2) (p 0) q):=cs3 p _;by_cases h3:n=3
 ·subst h3;have t3':0<turn (p 2) (p 0) q:=by
   rcases A9 0 (turn (p 2) (p 0) q) with z | z
   ·exact z
   ·exact absurd (on_edge (by rw[turn_rot,turn_rot];exact l) (ZaJ (ZaJ i3)) (by omega)) (s3 rfl)
  rw[three,tri_in bx t1 t2 t3' (.inl x0)];omega
 ·have h4:4<=n:=by omega
  obtain⟨gR,oR⟩:=e.rest hM hb g h4;rw[hO]at oR;have sR:=JI gR hM (Zcf (by omega) (by omega) hb);have cn:Cn (n-2+1) (shX M (sp 2 p)) (shY (sp 2 p)) (X M q) q.2:=by
   intro k hk ek;have:=ZkN (Zcf (by omega) (by omega) hb k hk) hq ek;show(sp 2 p k).2=q.2;rw[this]
  have w01:=Zna sR oR cn;rw[Zjr hM]at w01;have sp:=ZaT (n:=n) (m:=2) (p:=p) (F:=FX M q) (by omega) (by omega) (Zdb _ _ _ _);rw[sp];have three':CS (2+1) p (FX M q)=CS 3 p (FX M q):=rfl;rcases A9 0 (turn (p 2) (p 0) q) with z | z
  ·rw[three',three,tri_in bx t1 t2 z (.inl x0)];omega
  ·rcases Zk8 bx t1 t2 (by omega) x0 x2 with⟨a,b,c⟩ | ⟨a,b,c⟩
   ·rw[three',three,c];omega
   ·have n0:nx (n-2+1) 0=1:=Zs (by omega);have e0:shX M (Pg.sp 2 p) 0=X M (p 0):=rfl;have e1:shX M (Pg.sp 2 p) 1=X M (p 2):=rfl;have y0:shY (Pg.sp 2 p) 0=(p 0).2:=rfl;have y1:shY (Pg.sp 2 p) 1=(p 2).2:=rfl;have ng:¬ shX M (Pg.sp 2 p) 0<shX M (Pg.sp 2 p) (nx (n-2+1) 0):=by rw[n0,e0,e1];omega
    have lo0:lo (n-2+1) (shX M (Pg.sp 2 p)) 0=1:=by unfold lo;rw[if_neg ng,n0]
    have hi0:hi (n-2+1) (shX M (Pg.sp 2 p)) 0=0:=by unfold hi;rw[if_neg ng]
    have d0:d (n-2+1) (shX M (Pg.sp 2 p)) 0=-1:=by unfold d;rw[if_neg ng]
    have side:=Zjq sR oR cn (k:=0) (by omega) (by
     unfold sdp;rw[lo0,hi0,e0,e1,y0,y1];have:cr (X M (p 2)) (p 2).2 (X M (p 0)) (p 0).2 (X M q) q.2=M*turn (p 2) (p 0) q:=by unfold cr X turn;grind
     rw[this,show turn (p 2) (p 0) q=0 by omega,bh]) (by rw[lo0,e1];omega) (by rw[hi0,e0];omega)
    rw[d0,Zjr hM]at side;rw[three',three,c,side];decide
end
section
variable{n m:Nat}{p:Nat->P2}{M:Int}
theorem ZgK(hM:0<M){q:P2}(hq:Bd M q):∀(v:Nat) (p:Nat->P2),(∀ k,k<n->Bd M (p k))->Way n p->O M n p=1->0<v->Ear n p v->(∀ i,i<n->q≠p i) ->
  inT (p (pv n v)) (p v) (p (nx n v)) q->¬ onS (p (pv n v)) (p v) q->¬ onS (p v) (p (nx n v)) q->(n=3->¬ onS (p (nx n v)) (p (pv n v)) q)->CS n p (FX M q)≠0
 | 0,_,_,_,_,h,_,_,_,_,_,_=>by omega
 | 1,p,hb,g,hO,_,e,nq,i3,s1,s2,s3=>by
  have n3:=g.n3;have pv1:pv n 1=0:=YT (by omega);rw[pv1,ZfZ n3]at *;exact ZkA hM hb g hO e hq nq i3 s1 s2 s3
 | v+2,p,hb,g,hO,_,e,nq,i3,s1,s2,s3=>by
  have n3:=g.n3;have lt:=e.lt;have hv:v+1<n:=by omega
  have ev:nx n (v+1)=v+2:=Zs (by omega);have epv:pv n (v+2)=v+1:=YT (by omega);have r:=ZgK hM hq (v+1) (fun i=>p (nx n i)) (fun k hk=>hb _ (nx_lt hk)) g.rot (by rw[ZiI hM hb g];exact hO) (by omega)
   (Ear.rot n3 hv (by rw[ev];exact e)) (fun i hi'=>nq _ (nx_lt hi'))
  simp only[Qe hv,ev]at r;rw[epv]at *;rw[<-ZmI (by omega) p];exact r i3 s1 s2 s3
theorem Zkz(hM:0<M)(hb:∀ k,k<n->Bd M (p k))(g:Way n p)(D:Diag n p m)(hO:O M n p=1)(o1:O M (m+1) p=1)(o2:O M (n-m+1) (sp m p)=1)
  {v:Nat}(v0:0<v)(vm:v<m)(e:Ear (m+1) p v):Ear n p v:=by
 have h1:=D.h1;have h2:=D.h2;have a1:pv (m+1) v=v-1:=YT v0;have a2:pv n v=v-1:=YT v0;have b1:nx (m+1) v=v+1:=Zs (by omega);have b2:nx n v=v+1:=Zs (by omega);have l:=e.left;have out:=e.out;rw[a1,b1]at l out;refine⟨by omega,by rw[a2,b2];exact l,fun k hk c1 c2 c3=>?_⟩;rw[a2]at c2 ⊢;rw[b2]at c3 ⊢;by_cases hkm:k<=m
 ·exact out k (by omega) c1 c2 c3
 ·intro t;obtain⟨i,rfl⟩:∃ i,k=m+i:=⟨k-m,by omega⟩;have z:=Zje hM hb g h1 h2 (D.way2 g) (t:=i) (by omega) hk;rw[hO,o2]at z;have f1:=g.off (i:=v-1) (k:=m+i) (by omega) hk (by omega) (by rw[Zs (by omega)];omega);rw[Zs (by omega),show v-1+1=v by omega]at f1;have f2:=g.off (i:=v) (k:=m+i) (by omega) hk (by omega) (by rw[Zs (by omega)];omega);rw[b2]at f2;have r:=ZgK hM (hb _ hk) v p (fun k hk=>hb k (by omega)) (D.way1 g) o1 v0 e (fun j hj z=>by have:=g.inj _ _ hk (by omega) z;omega);rw[a1,b1]at r;refine r t f1 f2 (fun h3 o=>?_) z;have e1:v=1:=by omega
  have e2:m=2:=by omega
  subst e1;subst e2;exact D.off g hk (by omega) (by omega) (onS_symm o)
theorem Zky(hM:0<M)(hb:∀ k,k<n->Bd M (p k))(g:Way n p)(D:Diag n p m)(hO:O M n p=1)(o1:O M (m+1) p=1)(o2:O M (n-m+1) (sp m p)=1)
  {i:Nat}(i0:0<i)(hi':m+i<n)(e:Ear (n-m+1) (sp m p) (i+1)):Ear n p (m+i):=by
 have h1:=D.h1;have h2:=D.h2;have ps:sp m p (pv (n-m+1) (i+1))=p (m+i-1):=by
  rw[YT (by omega),show i+1-1=i-1+1 by omega,spS];congr 1;omega
 have ns:sp m p (nx (n-m+1) (i+1))=p (nx n (m+i)):=Zld h1 h2 (by omega);have cs:sp m p (i+1)=p (m+i):=spS m p i;have a2:pv n (m+i)=m+i-1:=YT (by omega);have l:=e.left;have out:=e.out;rw[ps,ns,cs]at l;refine⟨hi',by rw[a2];exact l,fun k hk c1 c2 c3=>?_⟩;rw[a2]at c2 ⊢;by_cases hkm:0<k/\k<m
 ·intro t;have z:=ZkC hM hb g h1 h2 (D.way1 g) (t:=k) hkm.1 hkm.2;rw[hO,o1]at z;have f1:=g.off (i:=m+i-1) (k:=k) (by omega) hk (by omega) (by rw[Zs (by omega)];omega);rw[Zs (by omega),show m+i-1+1=m+i by omega]at f1;have f2:=g.off (i:=m+i) (k:=k) hi' hk c1 c3;have r:=ZgK hM (hb _ hk) (i+1) (sp m p) (Zcf h1 h2 hb) (D.way2 g) o2 (by omega) e (fun j hj z=>by
   match j with
   | 0=>have:=g.inj _ _ hk (by omega) z;omega
   | j+1=>rw[spS]at z;have:=g.inj _ _ hk (by omega) z;omega)
  rw[ps,ns,cs]at r;refine r t f1 f2 (fun h3 o=>?_) z;have e1:i=1:=by omega
  have e2:n=m+2:=by omega
  subst e1;rw[Yj (by omega),show m+1-1=m by omega]at o;exact D.off g hk (by omega) (by omega) o
 ·by_cases k0:k=0
  ·subst k0;have:=out 0 (by omega) (by omega) (by rw[YT (by omega)];omega) (fun z=>c3 (by
    by_cases hl:i+1=n-m
    ·rw[Yj (by omega)]
    ·rw[Zs (by omega)]at z;omega))
   rw[ps,ns,cs,sp0]at this;exact this
  ·obtain⟨j,rfl⟩:∃ j,k=m+j:=⟨k-m,by omega⟩;have:=out (j+1) (by omega) (by omega) (by rw[YT (by omega)];omega) (fun z=>c3 (by
    by_cases hl:i+1=n-m
    ·rw[Yj (by omega)]at z;omega
    ·rw[Zs (by omega)]at z;rw[Zs (by omega)];omega))
   rw[ps,ns,cs,spS]at this;exact this
def Es(n:Nat)(p:Nat->P2):Prop:=∀ e,e<n->∃ v,v≠e/\v≠nx n e/\Ear n p v
theorem Es.unrot(hn:3<=n)(h:Es n (fun i=>p (nx n i))):Es n p:=by
 intro e he;obtain⟨v,h1,h2,h3⟩:=h (pv n e) (pv_lt he);rw[Qe he]at h2;exact⟨nx n v,fun z=>h1 (by rw[<-z,JT h3.lt]),fun z=>h2 (U5 h3.lt he z),h3.unrot hn⟩
theorem Way.rotp(g:Way n p):Way n (fun i=>p (pv n i)):=by
 have inj:∀{i j},i<n->j<n->pv n i=pv n j->i=j:=fun {i j} hi' hj e=>by rw[<-Qe (n:=n) hi',<-Qe (n:=n) hj,e]
 have nn:∀{i},i<n->pv n (nx n i)=nx n (pv n i):=fun {i} h=>by rw[JT h,Qe h]
 refine⟨g.n3,fun i j hi' hj e=>inj hi' hj (g.inj _ _ (pv_lt hi') (pv_lt hj) e),fun i hi' e=>?_,fun i j hi' hj h1 h2 h3=>?_⟩
 ·have:=g.tri (pv n i) (pv_lt hi') (by rw[<-nn hi',<-nn (nx_lt hi'),<-nn (nx_lt (nx_lt hi')),e]);rw[<-nn hi',<-nn (nx_lt hi')]at this;exact this
 ·have:=g.apart (pv n i) (pv n j) (pv_lt hi') (pv_lt hj) (fun e=>h1 (inj hi' hj e)) (fun e=>h2 (inj hi' (nx_lt hj) (by rw[e,nn hj]))) (fun e=>h3 (inj hj (nx_lt hi') (by rw[e,nn hi'])));rw[<-nn hi',<-nn hj]at this;exact this
theorem Ear.rotp(hn:3<=n){v:Nat}(e:Ear n p v):Ear n (fun i=>p (pv n i)) (nx n v):=by
 have hv:=e.lt;refine⟨nx_lt hv,?_,fun k hk a b c=>?_⟩
 ·simp only[JT hv,JT (nx_lt hv)];exact e.left
 ·simp only[JT hv,JT (nx_lt hv)];rw[JT hv]at b;exact e.out (pv n k) (pv_lt hk) (fun z=>a (by rw[<-z,Qe hk])) (fun z=>b (by rw[<-Qe (n:=n) hk,z,Qe hv])) (fun z=>c (by rw[<-z,Qe hk]))
theorem Zio(hM:0<M)(hb:∀ k,k<n->Bd M (p k))(g:Way n p)(hO:O M n p=1)(hm:∀ i,0<i->i<n->X M (p 0)<X M (p i))
  (ih:∀ n' p',n'<n->(∀ k,k<n'->Bd M (p' k))->Way n' p'->O M n' p'=1->Es n' p'):Es n p:=by
 have n3:=g.n3;by_cases h3:n=3
 ·subst h3;have hA:0<turn (p 2) (p 0) (p 1):=by
   have:=O_left hM hb g hm;rw[hO]at this;apply A1;intro c;rw[if_neg c]at this;omega
  have hB:0<turn (p 0) (p 1) (p 2):=by rw[turn_rot];exact hA
  have hC:0<turn (p 1) (p 2) (p 0):=by rw[turn_rot];exact hB
  intro e he
  match e,he with
  | 0,_=>exact⟨2,by decide,by decide,by decide,hC,fun k hk a b c=>by match k,hk with | 0,_=>exact absurd rfl c | 1,_=>exact absurd rfl b | 2,_=>exact absurd rfl a⟩
  | 1,_=>exact⟨0,by decide,by decide,by decide,hA,fun k hk a b c=>by match k,hk with | 0,_=>exact absurd rfl a | 1,_=>exact absurd rfl c | 2,_=>exact absurd rfl b⟩
  | 2,_=>exact⟨1,by decide,by decide,by decide,hB,fun k hk a b c=>by match k,hk with | 0,_=>exact absurd rfl b | 1,_=>exact absurd rfl a | 2,_=>exact absurd rfl c⟩
 ·have h4:4<=n:=by omega
  have nx0:nx n 0=1:=Zs (by omega);have pv0:pv n 0=n-1:=by unfold pv;rw[if_pos rfl]
  rcases ZcO hM hb g h4 hm hO with e0 | ⟨m,D,c,a⟩
  ·intro e he;by_cases tch:e≠0/\nx n e≠0
   ·exact⟨0,Ao tch.1,Ao tch.2,e0⟩
   ·have g':=g.rotp;have hb':∀ k,k<n->Bd M (p (pv n k)):=fun k hk=>hb _ (pv_lt hk);have o':O M n (fun i=>p (pv n i))=1:=by
     rw[<-ZiI hM hb' g',<-hO];exact Zc5 (by omega) (fun i hi'=>by rw[JT hi'])
    have e1:Ear n (fun i=>p (pv n i)) 1:=by have:=e0.rotp n3;rw[nx0]at this;exact this
    obtain⟨gR,oR⟩:=e1.rest hM hb' g' h4;rw[o']at oR;obtain⟨v,v1,v2,ev⟩:=ih (n-2+1) _ (by omega) (Zcf (by omega) (by omega) hb') gR oR 0 (by omega);rw[Zs (by omega)]at v2;have vl:=ev.lt;have R0:sp 2 (fun i=>p (pv n i)) 0=p (n-1):=by rw[sp0,pv0]
    have Rk:∀ k,0<k->sp 2 (fun i=>p (pv n i)) k=p k:=fun k hk=>by
     obtain⟨j,rfl⟩:∃ j,k=j+1:=⟨k-1,by omega⟩;rw[spS,YT (by omega)];congr 1;omega
    have pvR:pv (n-2+1) v=v-1:=YT (by omega);have pvP:pv n v=v-1:=YT (by omega);have nxP:nx n v=v+1:=Zs (by omega);have nR:sp 2 (fun i=>p (pv n i)) (nx (n-2+1) v)=p (v+1):=by
     by_cases hl:v+1=n-2+1
     ·rw[Yj hl,R0];congr 1;omega
     ·rw[Zs (by omega),Rk _ (by omega)]
    have l:=ev.left;have out:=ev.out;rw[pvR]at l out;rw[nR,Rk v (by omega),Rk (v-1) (by omega)]at l;have nxe:nx n e=0->e=n-1:=fun z=>by
     by_cases hl:e+1=n
     ·omega
     ·rw[Zs (by omega)]at z;omega
    refine⟨v,by omega,?_,by omega,by rw[pvP,nxP];exact l,fun k hk c1 c2 c3=>?_⟩
    ·by_cases ee:e=0
     ·subst ee;rw[nx0];omega
     ·have:nx n e=0:=by
       apply A1;intro z;exact tch ⟨ee,z⟩
      rw[this];omega
    ·rw[pvP]at c2 ⊢;rw[nxP]at c3 ⊢;by_cases k0:k=0
     ·subst k0;exact Zkb l (hm _ (by omega) (by omega)) (hm _ (by omega) (by omega)) (hm _ (by omega) (by omega))
     ·by_cases kn:k=n-1
      ·have:=out 0 (by omega) (by omega) (by omega) (by rw[Zs (by omega)];omega);rw[nR,Rk v (by omega),Rk (v-1) (by omega),R0,<-kn]at this;exact this
      ·have:=out k (by omega) c1 c2 (by
        by_cases hl:v+1=n-2+1
        ·rw[Yj hl];exact k0
        ·rw[Zs (by omega)];exact c3)
       rw[nR,Rk v (by omega),Rk (v-1) (by omega),Rk k (by omega)]at this;exact this
  ·have h1:=D.h1;have h2:=D.h2;have o1:O M (m+1) p=1:=by
    rw[O_left hM (fun k hk=>hb k (by omega)) (D.way1 g) (fun i i0 hi'=>hm i i0 (by omega)),if_pos];rw[show m+1-1=m by omega,<-turn_rot];exact a
   have o2:O M (n-m+1) (sp m p)=1:=by
    rw[O_left hM (Zcf h1 h2 hb) (D.way2 g) (fun i i0 hi'=>by
     obtain⟨j,rfl⟩:∃ j,i=j+1:=⟨i-1,by omega⟩;rw[spS,sp0];exact hm _ (by omega) (by omega)),if_pos]
    rw[show n-m+1-1=n-m-1+1 by omega,spS,sp0,show sp m p 1=p m from spS m p 0,show m+(n-m-1)=n-1 by omega];exact c
   intro e he;by_cases em:e<m
   ·obtain⟨v,v1,v2,ev⟩:=ih (n-m+1) _ (by omega) (Zcf h1 h2 hb) (D.way2 g) o2 0 (by omega);rw[Zs (by omega)]at v2;have vl:=ev.lt;obtain⟨i,rfl⟩:∃ i,v=i+1:=⟨v-1,by omega⟩;refine⟨m+i,by omega,by rw[Zs (by omega)];omega,Zky hM hb g D hO o1 o2 (by omega) (by omega) ev⟩
   ·obtain⟨v,v1,v2,ev⟩:=ih (m+1) p (by omega) (fun k hk=>hb k (by omega)) (D.way1 g) o1 m (by omega);rw[Yj rfl]at v2;have vl:=ev.lt;refine⟨v,by omega,?_,Zkz hM hb g D hO o1 o2 (by omega) (by omega) ev⟩;by_cases hl:e+1=n
    ·rw[Yj hl];exact v2
    ·rw[Zs (by omega)];omega
theorem Zmy(hM:0<M)(ih:∀ n' p',n'<n->(∀ k,k<n'->Bd M (p' k))->Way n' p'->O M n' p'=1->Es n' p'):∀(l:Nat) (p:Nat->P2),l<n->(∀ k,k<n->Bd M (p k))->Way n p->O M n p=1->(∀ i,i<n->i≠l->X M (p l)<X M (p i))->Es n p
 | 0,p,hl,hb,g,hO,hm=>Zio hM hb g hO (fun i h0 hi'=>hm i hi' (by omega)) ih
 | l+1,p,hl,hb,g,hO,hm=>by
  have e:nx n l=l+1:=Zs hl;refine Es.unrot g.n3 (Zmy hM ih l (fun i=>p (nx n i)) (by omega) (fun k hk=>hb _ (nx_lt hk)) g.rot (by rw[ZiI hM hb g];exact hO) (fun i hi' hne=>?_));simp only[e];exact hm _ (nx_lt hi') (fun z=>hne (U5 hi' (by omega) (by rw[z,e])))
theorem ZnO(hM:0<M):∀(N n:Nat) (p:Nat->P2),n<N->(∀ k,k<n->Bd M (p k))->Way n p->O M n p=1->Es n p
 | 0,_,_,h,_,_,_=>by omega
 | N+1,n,p,h,hb,g,hO=>by
  have n3:=g.n3;obtain⟨l,hl,_,mx⟩:=ZdP (fun k=>- X M (p k)) (fun _=>True) n ⟨0,by omega,trivial⟩;refine Zmy hM (fun n' p' hn hb' g' o'=>ZnO hM N n' p' (by omega) hb' g' o') l p hl hb g hO (fun i hi' hne=>?_);have:=mx i hi' trivial;rcases A9 (X M (p l)) (X M (p i)) with q | q
  ·exact q
  ·exact absurd (g.inj _ _ hi' hl (ZkN (hb i hi') (hb l hl) (by omega))) hne
end
noncomputable def lp(L:List P2)(i:Nat):P2:=L[i]?.getD (0,0)
structure Wy(M:Int)(L:List P2):Prop where
 bd:∀ q∈L,Bd M q
 way:Way L.length (lp L)
 o:O M L.length (lp L)=1
def Rl(L L':List P2):Prop:=∃ xs ys,L=xs++ys/\L'=ys++xs
theorem Rl.symm{L L':List P2}:Rl L L'->Rl L' L | ⟨xs,ys,a,b⟩=>⟨ys,xs,b,a⟩
theorem lp_mem{L:List P2}{i:Nat}(h:i<L.length):lp L i∈L:=by unfold lp;simp[h]
theorem Wy.bd'{M:Int}{L:List P2}(h:Wy M L):∀ k,k<L.length->Bd M (lp L k):=fun k hk=>h.bd _ (lp_mem hk)
theorem Wy.rot1{M:Int}(hM:0<M){a:P2}{t:List P2}(h:Wy M (a::t)):Wy M (t++[a]):=by
 have n3:=h.way.n3;have e:(t++[a]).length=(a::t).length:=by simp
 have q:∀ i,i<(a::t).length->lp (a::t) (nx (a::t).length i)=lp (t++[a]) i:=by
  intro i hi;by_cases c:i+1=(a::t).length
  ·rw[Yj c];unfold lp;have:i=t.length:=by simp at c;omega
   subst this;simp
  ·rw[Zs (by omega)];unfold lp;have:i<t.length:=by simp at hi c;omega
   rw[af this];simp
 refine⟨fun q hq=>h.bd q (by simpa[or_comm]using hq),?_,?_⟩
 ·rw[e];exact h.way.rot.congr q
 ·rw[e,<-Zc5 (by omega) q,ZiI hM h.bd' h.way];exact h.o
theorem Wy.rot{M:Int}(hM:0<M):∀{xs ys:List P2},Wy M (xs++ys)->Wy M (ys++xs)
 | [],ys,h=>by simpa using h
 | a::xs,ys,h=>by
  have h':Wy M (a::(xs++ys)):=h;have:=(Wy.rot1 hM h');rw[Bz]at this;have:=Wy.rot hM this;simpa using this
theorem Wy.rl{M:Int}(hM:0<M){L L':List P2}(h:Wy M L)(r:Rl L L'):Wy M L':=by
 obtain⟨xs,ys,rfl,rfl⟩:=r;exact Wy.rot hM h
theorem Wy.nodup{M:Int}{L:List P2}(h:Wy M L):L.Nodup:=by
 rw[List.Nodup,ba];intro i j hi hj hij e;have:=h.way.inj i j hi hj (by unfold lp;simp[hi,hj,e]);omega
theorem Wy.cut{M:Int}(hM:0<M){a b c:P2}{t:List P2}(h:Wy M (a::b::c::t))(ht:t≠[])(l:0<turn a b c)(out:∀ x∈t,¬ inT a b c x):Wy M (a::c::t):=by
 have hl:0<t.length:=ag.mpr ht;have hn:(a::b::c::t).length=t.length+3:=by simp
 have ear:Ear (a::b::c::t).length (lp (a::b::c::t)) 1:=by
  have e0:pv (a::b::c::t).length 1=0:=YT (by omega);have e2:nx (a::b::c::t).length 1=2:=Zs (by rw[hn];omega);refine⟨by rw[hn];omega,?_,fun k hk h1 h2 h3=>?_⟩
  ·rw[e0,e2];exact l
  ·rw[e0]at h2 ⊢;rw[e2]at h3 ⊢
   match k,h1,h2,h3 with
   | k+3,_,_,_=>
    have hk':k<t.length:=by rw[hn]at hk;omega
    have:lp (a::b::c::t) (k+3)=t[k]:=by unfold lp;simp[hk']
    rw[this];exact out _ (C6 hk')
 obtain⟨g,o⟩:=ear.rest hM h.bd' h.way (by rw[hn];omega);have e:(a::b::c::t).length-2+1=(a::c::t).length:=by simp
 have q:∀ i,i<(a::c::t).length->sp 2 (lp (a::b::c::t)) i=lp (a::c::t) i:=by
  intro i hi
  match i with
  | 0=>rfl
  | i+1=>
   rw[spS];unfold lp
   match i with
   | 0=>rfl
   | i+1=>rw[show 2+(i+1)=i+3 by omega];simp
 rw[e]at g o;refine⟨fun x hx=>h.bd x ?_,g.congr q,by rw[<-Zc5 (by simp) q,o];exact h.o⟩;rcases A4.mp hx with z | z
 ·rw[z];simp
 ·rcases A4.mp z with y | y
  ·rw[y];simp
  ·simp[y]
theorem Wy.three{M:Int}(hM:0<M){a b c:P2}(h:Wy M [a,b,c]):0<turn a b c:=by
 obtain⟨v,_,_,e⟩:=ZnO hM 4 3 _ (by omega) h.bd' h.way h.o 0 (by omega);have l:=e.left;have lt:=e.lt
 match v,lt,l with
 | 0,_,l=>have:0<turn c a b:=l;rw[<-turn_rot c a b]at this;exact this
 | 1,_,l=>exact l
 | 2,_,l=>have:0<turn b c a:=l;rw[turn_rot]at this;exact this
def pathE:List P2->List (P2×P2)
 | a::b::t=>(a,b)::pathE (b::t)
 | _=>[]
noncomputable def cycE:List P2->List (P2×P2)
 | []=>[]
 | a::t=>pathE (a::(t++[a]))
theorem VY:∀(xs:List P2) (b:P2) (ys:List P2),pathE (xs++b::ys)=pathE (xs++[b])++pathE (b::ys)
 | [],b,ys=>by simp[pathE]
 | [x],b,ys=>by simp[pathE]
 | x::y::xs,b,ys=>by
  have ih:=VY (y::xs) b ys;simp only[B3]at ih;simp[pathE,ih]
theorem Ziv(xs ys:List P2):(cycE (xs++ys)).Perm (cycE (ys++xs)):=by
 match xs,ys with
 | [],ys=>simp
 | x::xs,[]=>simp
 | x::xs,y::ys=>
  show(pathE (x::((xs++y::ys)++[x]))).Perm (pathE (y::((ys++x::xs)++[y])));have e1:x::((xs++y::ys)++[x])=(x::xs)++y::(ys++[x]):=by simp
  have e2:y::((ys++x::xs)++[y])=(y::ys)++x::(xs++[y]):=by simp
  rw[e1,e2,VY,VY (y::ys)];exact Bi
theorem cycE_rl{L L':List P2}(r:Rl L L'):(cycE L).Perm (cycE L'):=by
 obtain⟨xs,ys,rfl,rfl⟩:=r;exact Ziv xs ys
theorem Zbi:∀{L:List P2} {e:P2×P2},e∈pathE L->e.1∈L/\e.2∈L
 | [],e,h=>by simp[pathE]at h
 | [a],e,h=>by simp[pathE]at h
 | a::b::t,e,h=>by
  rcases A4.mp (show e∈(a,b)::pathE (b::t) from h) with z | z
  ·subst z;simp
  ·have:=Zbi z;exact⟨A3 _ this.1,A3 _ this.2⟩
theorem Ziw{L:List P2}{e:P2×P2}(h:e∈cycE L):e.1∈L/\e.2∈L:=by
 cases L with
 | nil=>simp[cycE]at h
 | cons a t=>
  have:=Zbi (show e∈pathE (a::(t++[a])) from h);simp at this ⊢;grind
theorem ZdW(a b c:P2)(t:List P2):cycE (a::b::c::t)=(a,b)::(b,c)::pathE (c::(t++[a]))/\cycE (a::c::t)=(a,c)::pathE (c::(t++[a])):=⟨rfl,rfl⟩
theorem turn_ne{a b c:P2}(h:0<turn a b c):a≠b/\b≠c/\a≠c:=by
 refine⟨?_,?_,?_⟩
 ·rintro rfl;unfold turn at h;grind
 ·rintro rfl;rw[turn_self']at h;omega
 ·rintro rfl;rw[turn_self]at h;omega
noncomputable def sw(e:P2×P2):P2×P2:=(e.2,e.1)
def bdE(E:List (P2×P2)):List (P2×P2):=E.filter fun e=>!decide (sw e∈E)
theorem ZmB{P Q R:Prop}[Decidable P][Decidable Q][Decidable R](h:P ↔ Q\/R):(!decide P)=(!decide R&&!decide Q):=by
 by_cases q:Q<;>by_cases r:R<;>simp[h,q,r]
structure Cutting(L:List P2)(ts:List (List P2)):Prop where
 len:ts.length+2=L.length
 each:∀ t∈ts,∃ a b c,t=[a,b,c]/\0<turn a b c/\a∈L/\b∈L/\c∈L
 nd:(ts.flatMap cycE).Nodup
 bd:(bdE (ts.flatMap cycE)).Perm (cycE L)
 ar:∀ F:P2×P2->Int,(∀ e,F e+F (sw e)=0)->((ts.flatMap cycE).map F).sum=((cycE L).map F).sum
theorem sum_perm{l m:List Int}(p:l.Perm m):l.sum=m.sum:=by
 induction p with
 | nil=>rfl
 | cons x _ ih=>simp[ih]
 | swap x y l=>simp;omega
 | trans _ _ h1 h2=>exact h1.trans h2
theorem Cutting.last{a b c:P2}(h:0<turn a b c):Cutting [a,b,c] [[a,b,c]]:=by
 obtain⟨h1,h2,h3⟩:=turn_ne h;have e:([[a,b,c]].flatMap cycE)=[(a,b),(b,c),(c,a)]:=rfl;refine⟨rfl,fun t ht=>?_,?_,?_,fun F _=>by rw[e];rfl⟩
 ·rw[A0]at ht;exact⟨a,b,c,ht,h,by simp,by simp,by simp⟩
 ·rw[e];simp;grind
 ·rw[e];have:bdE [(a,b),(b,c),(c,a)]=[(a,b),(b,c),(c,a)]:=by
   unfold bdE;rw[List.filter_eq_self];intro x hx;simp[sw]at hx ⊢;grind
  rw[this];exact .refl _
theorem Zik{R:List P2}{ts:List (List P2)}(each:∀ t∈ts,∃ a b c,t=[a,b,c]/\0<turn a b c/\a∈R/\b∈R/\c∈R){e:P2×P2}(h:e∈ts.flatMap cycE):e.1∈R/\e.2∈R:=by
 obtain⟨t,ht,he⟩:=List.mem_flatMap.mp h;obtain⟨a,b,c,rfl,_,h1,h2,h3⟩:=each t ht;have:=Ziw he;simp at this;grind
theorem Cutting.step{L R:List P2}{a b c:P2}{t:List P2}{ts:List (List P2)}(nd:L.Nodup)(rl:Rl L (a::b::c::t))(rr:Rl R (a::c::t))(l:0<turn a b c)(h:Cutting R ts):Cutting L ([a,b,c]::ts):=by
 obtain⟨h1,h2,h3⟩:=turn_ne l;have pL:L.Perm (a::b::c::t):=by obtain⟨xs,ys,rfl,e⟩:=rl;rw[e];exact Bi
 have pR:R.Perm (a::c::t):=by obtain⟨xs,ys,rfl,e⟩:=rr;rw[e];exact Bi
 have nd1:(a::b::c::t).Nodup:=pL.nodup_iff.mp nd;have bR:b ∉ R:=fun z=>by
  have:=pR.mem_iff.mp z;simp at this nd1;grind
 have sub:∀ x,x∈R->x∈L:=fun x hx=>by
  have:=pR.mem_iff.mp hx;rw[pL.mem_iff];simp at this ⊢;grind
 have mem:∀{e:P2×P2},e∈ts.flatMap cycE->e.1≠b/\e.2≠b:=fun {e} he=>by
  have:=Zik h.each he;exact⟨fun z=>bR (z ▸ this.1),fun z=>bR (z ▸ this.2)⟩
 have pc:=cycE_rl rr;rw[(ZdW a b c t).2]at pc;have pl:=cycE_rl rl;rw[(ZdW a b c t).1]at pl;have acb:(a,c)∈bdE (ts.flatMap cycE):=(h.bd.trans pc).mem_iff.mpr (by simp);have ac:(a,c)∈ts.flatMap cycE/\(c,a) ∉ ts.flatMap cycE:=by
  unfold bdE at acb;rw[List.mem_filter]at acb;exact⟨acb.1,by simpa[sw]using acb.2⟩
 have eE:(([a,b,c]::ts).flatMap cycE)=(a,b)::(b,c)::(c,a)::ts.flatMap cycE:=rfl;refine⟨by have:=h.len;have e1:=pL.length_eq;have e2:=pR.length_eq;simp at e1 e2 ⊢;omega,fun s hs=>?_,?_,?_,fun F hF=>?_⟩
 ·rcases A4.mp hs with z | z
  ·exact⟨a,b,c,z,l,pL.mem_iff.mpr (by simp),pL.mem_iff.mpr (by simp),pL.mem_iff.mpr (by simp)⟩
  ·obtain⟨x,y,u,e,p,q1,q2,q3⟩:=h.each s z;exact⟨x,y,u,e,p,sub _ q1,sub _ q2,sub _ q3⟩
 ·rw[eE,ae,ae,ae];refine⟨fun z=>?_,fun z=>?_,ac.2,h.nd⟩
  ·rcases A4.mp z with z | z
   ·exact h1 (Prod.ext_iff.mp z).1
   ·rcases A4.mp z with z | z
    ·exact h3 (Prod.ext_iff.mp z).1
    ·exact(mem z).2 rfl
  ·rcases A4.mp z with z | z
   ·exact h2 (Prod.ext_iff.mp z).1
   ·exact(mem z).1 rfl
 ·refine List.Perm.trans ?_ pl.symm;rw[eE];have f1:(b,a) ∉ (a,b)::(b,c)::(c,a)::ts.flatMap cycE:=fun z=>by
   simp only[A4,Prod.mk.injEq]at z;rcases z with z | z | z | z
   ·exact h1 z.2
   ·exact h3 z.2
   ·exact h2 z.1
   ·exact(mem z).1 rfl
  have f2:(c,b) ∉ (a,b)::(b,c)::(c,a)::ts.flatMap cycE:=fun z=>by
   simp only[A4,Prod.mk.injEq]at z;rcases z with z | z | z | z
   ·exact h3 z.1.symm
   ·exact h2 z.1.symm
   ·exact h1 z.2.symm
   ·exact(mem z).2 rfl
  have f3:(a,c)∈(a,b)::(b,c)::(c,a)::ts.flatMap cycE:=by simp[ac.1]
  have step:bdE ((a,b)::(b,c)::(c,a)::ts.flatMap cycE)=(a,b)::(b,c)::(bdE (ts.flatMap cycE)).filter fun e=>!decide (e=(a,c)):=by
   unfold bdE;rw[List.filter_cons_of_pos (by show(!decide (sw (a,b)∈_))=true;rw[decide_eq_false (show ¬ sw (a,b)∈_ from f1)];rfl),List.filter_cons_of_pos (by show(!decide (sw (b,c)∈_))=true;rw[decide_eq_false (show ¬ sw (b,c)∈_ from f2)];rfl),List.filter_cons_of_neg (by show ¬ (!decide (sw (c,a)∈_))=true;rw[decide_eq_true (show sw (c,a)∈_ from f3)];decide),List.filter_filter]
   congr 2
   refine List.filter_congr fun e he=>?_;have m:=mem he;have:(sw e∈(a,b)::(b,c)::(c,a)::ts.flatMap cycE) ↔ (sw e∈ts.flatMap cycE\/e=(a,c)):=by
    unfold sw;simp only[A4,Prod.mk.injEq];constructor
    ·rintro(z | z | z | z)
     ·exact absurd z.2 m.1
     ·exact absurd z.1 m.2
     ·exact .inr (Bw z.2 z.1)
     ·exact .inl z
    ·rintro(z | z)
     ·exact .inr (.inr (.inr z))
     ·subst z;simp
   exact ZmB this
  rw[step];refine List.Perm.cons _ (List.Perm.cons _ ?_);have pp':=(h.bd.trans pc).filter (fun e=>!decide (e=(a,c)));refine pp'.trans ?_;rw[List.filter_cons_of_neg (by simp),List.filter_eq_self.mpr];intro e he;have ndc:((a,c)::pathE (c::(t++[a]))).Nodup:=(h.bd.trans pc).nodup_iff.mp (h.nd.sublist List.filter_sublist);have:=(ae.mp ndc).1;simp;rintro rfl;exact this he
 ·rw[eE];have e1:=h.ar F hF;have e2:=sum_perm (pc.map F);have e3:=sum_perm (pl.map F);simp only[Au,Ck]at e2 e3 ⊢;rw[e3,e1,e2];have:=hF (a,c);unfold sw at this;simp only at this;omega
def pA(L:List P2)(k:Nat):P2:=lp L (pv L.length (pv L.length k))
noncomputable def pB(L:List P2)(k:Nat):P2:=lp L (pv L.length k)
def comes(L:List P2)(a b c:P2):Prop:=0<turn a b c/\∀ x∈L,x≠a->x≠b->x≠c->¬ inT a b c x
open Classical in
def comB(L:List P2)(k:Nat):Bool:=decide (comes L (pA L k) (pB L k) (lp L k))
noncomputable def fk(L:List P2):Nat:=((List.range L.length).find? (comB L)).getD 0
def pieces:Nat->List P2->List (List P2)
 | 0,L=>[L]
 | f+1,L=>if L.length<=3 then[L] else[pA L (fk L),pB L (fk L),lp L (fk L)]::pieces f (L.erase (pB L (fk L)))
theorem ZgL{L:List P2}(h3:3<=L.length){v:Nat}(e:Ear L.length (lp L) v):comB L (nx L.length v)=true:=by
 unfold comB;refine @decide_eq_true _ (Classical.propDecidable _) ?_;unfold pA pB;rw[JT e.lt];refine⟨e.left,fun x hx h1 h2 h4=>?_⟩;obtain⟨i,hi,rfl⟩:=List.getElem_of_mem hx;have ei:lp L i=L[i]:=by unfold lp;simp[hi]
 rw[<-ei]at h1 h2 h4 ⊢;exact e.out i hi (fun z=>h2 (by rw[z])) (fun z=>h1 (by rw[z])) (fun z=>h4 (by rw[z]))
theorem fk_ok{M:Int}(hM:0<M){L:List P2}(h:Wy M L):fk L<L.length/\comB L (fk L)=true/\∀ j,j<fk L->comB L j=false:=by
 have n3:=h.way.n3;obtain⟨v,_,_,e⟩:=ZnO hM (L.length+1) L.length _ (by omega) h.bd' h.way h.o 0 (by omega);have c:=ZgL n3 e;have lt:=nx_lt e.lt;unfold fk;cases q:(List.range L.length).find? (comB L) with
 | none=>
  rw[List.find?_eq_none]at q;exact absurd c (q _ (Ae.mpr lt))
 | some k=>
  rw[List.find?_range_eq_some]at q;refine⟨Ae.mp q.2.1,q.1,fun j hj=>?_⟩;have:=q.2.2 j hj;simpa using this
theorem ZcC{xs ys:List P2}{i:Nat}:lp (xs++ys) (xs.length+i)=lp ys i:=by unfold lp;rw[Bg (by omega)];simp
theorem Zhf{L:List P2}(nd:L.Nodup)(h4:4<=L.length){v:Nat}(hv:v<L.length):∃ t,t≠[]/\Rl L (lp L (pv L.length v)::lp L v::lp L (nx L.length v)::t)/\Rl (L.erase (lp L v)) (lp L (pv L.length v)::lp L (nx L.length v)::t):=by
 have er:∀{xs ys:List P2} {b:P2},L=xs++b::ys->L.erase b=xs++ys:=by
  intro xs ys b e;subst e;have:b ∉ xs:=fun z=>by
   rw[List.nodup_append]at nd;exact nd.2.2 b z b (by simp) rfl
  rw[List.erase_append_right _ this,List.erase_cons_head]
 match v with
 | 0=>
  have pe:pv L.length 0=L.length-1:=by unfold pv;rw[if_pos rfl]
  rw[pe,Zs (by omega)]
  match L,h4 with
  | b::c::t,h4=>
   have tn:t≠[]:=by rintro rfl;simp at h4
   obtain⟨t',a,rfl⟩:∃ t' a,t=t'++[a]:=⟨t.dropLast,t.getLast tn,(List.dropLast_concat_getLast tn).symm⟩;have ea:lp (b::c::(t'++[a])) ((b::c::(t'++[a])).length-1)=a:=by unfold lp;simp
   have eb:lp (b::c::(t'++[a])) 0=b:=rfl;have ec:lp (b::c::(t'++[a])) 1=c:=rfl;rw[ea,eb,ec];refine⟨t',by rintro rfl;simp at h4,⟨b::c::t',[a],by simp,by simp⟩,?_⟩;rw[er (xs:=[]) (b:=b) rfl];exact⟨c::t',[a],by simp,by simp⟩
 | v+1=>
  have pe:pv L.length (v+1)=v:=YT (by omega);rw[pe];obtain⟨L1,a,b,L2,e,l1⟩:∃ L1 a b L2,L=L1++a::b::L2/\L1.length=v:=by
   refine⟨L.take v,L[v],L[v+1],L.drop (v+2),?_,by simp;omega⟩;rw[<-Aq hv,<-Aq (show v<L.length by omega),B1]
  have ea:lp L v=a:=by rw[e,<-l1,show L1.length=L1.length+0 from rfl,ZcC];rfl
  have eb:lp L (v+1)=b:=by rw[e,<-l1,ZcC];rfl
  have hlen:L.length=L1.length+L2.length+2:=by rw[e];simp;omega
  rw[ea,eb,er (xs:=L1++[a]) (ys:=L2) (b:=b) (by rw[e];simp)];cases L2 with
  | nil=>
   have en:nx L.length (v+1)=0:=Yj (by simp at hlen;omega);rw[en]
   match L1,l1,e with
   | [],l1,_=>simp at hlen;omega
   | c::L1,l1,e=>
    have ec:lp L 0=c:=by rw[e];rfl
    rw[ec];refine⟨L1,by rintro rfl;simp at hlen;omega,⟨c::L1,[a,b],by rw[e],by simp⟩,⟨c::L1,[a],by simp,by simp⟩⟩
  | cons c L2=>
   have en:nx L.length (v+1)=v+2:=Zs (by simp at hlen;omega);have ec:lp L (v+2)=c:=by rw[e,<-l1,ZcC];rfl
   rw[en,ec];refine⟨L2++L1,?_,⟨L1,a::b::c::L2,by rw[e],by simp⟩,⟨L1,a::c::L2,by simp,by simp⟩⟩;intro z;have:=congrArg List.length z;rw[b9,C_]at this;rw[B_]at hlen;omega
theorem ZiD{L:List P2}{k:Nat}(h:comB L k=true):comes L (pA L k) (pB L k) (lp L k):=by
 unfold comB at h;exact @of_decide_eq_true _ (Classical.propDecidable _) h
theorem Wy.next{M:Int}(hM:0<M){L:List P2}(h:Wy M L)(h4:4<=L.length):
  ∃ t,t≠[]/\Rl L (pA L (fk L)::pB L (fk L)::lp L (fk L)::t)/\Rl (L.erase (pB L (fk L))) (pA L (fk L)::lp L (fk L)::t)/\0<turn (pA L (fk L)) (pB L (fk L)) (lp L (fk L))/\Wy M (L.erase (pB L (fk L))):=by
 obtain⟨k1,k2,_⟩:=fk_ok hM h;have cm:=ZiD k2;obtain⟨t,tn,r1,r2⟩:=Zhf h.nodup h4 (pv_lt (n:=L.length) k1);rw[Qe k1]at r1 r2;change Rl L (pA L (fk L)::pB L (fk L)::lp L (fk L)::t) at r1;change Rl (L.erase (pB L (fk L))) (pA L (fk L)::lp L (fk L)::t) at r2;refine⟨t,tn,r1,r2,cm.1,?_⟩;have w1:=h.rl hM r1;refine Wy.rl hM (Wy.cut hM w1 tn cm.1 fun x hx=>?_) r2.symm;have nd:=w1.nodup;have p1:L.Perm (pA L (fk L)::pB L (fk L)::lp L (fk L)::t):=by obtain⟨xs,ys,e1,e2⟩:=r1;rw[e2,e1];exact Bi
 simp only[ae,A4,not_or]at nd;refine cm.2 x (p1.mem_iff.mpr (by simp[hx])) ?_ ?_ ?_
 ·rintro rfl;exact nd.1.2.2 hx
 ·rintro rfl;exact nd.2.1.2 hx
 ·rintro rfl;exact nd.2.2.1 hx
theorem cutting{M:Int}(hM:0<M):∀(f:Nat) (L:List P2),Wy M L->L.length<=f+3->Cutting L (pieces f L)
 | 0,L,h,hl=>by
  have n3:=h.way.n3
  match L,n3,hl with
  | [a,b,c],_,_=>exact Cutting.last (h.three hM)
 | f+1,L,h,hl=>by
  have n3:=h.way.n3;unfold pieces;by_cases c:L.length<=3
  ·rw[if_pos c]
   match L,n3,c with
   | [a,b,c],_,_=>exact Cutting.last (h.three hM)
  ·rw[if_neg c];obtain⟨t,tn,r1,r2,l,w⟩:=h.next hM (by omega);refine Cutting.step h.nodup r1 r2 l (cutting hM f _ w ?_);have:pB L (fk L)∈L:=by
    obtain⟨xs,ys,e1,e2⟩:=r1;have p1:L.Perm (pA L (fk L)::pB L (fk L)::lp L (fk L)::t):=by rw[e2,e1];exact Bi
    exact p1.mem_iff.mpr (by simp)
   rw[List.length_erase_of_mem this];omega
end Pg
namespace L3
open PySem PySem.Spec PyProof.Rows L2 SetTab PySem.SetTable
theorem Zdk:Manifest.owners.lookup (String.ofList ['r','o','t','a','r','e','t','i','_','t','e','s'].reverse)=some Manifest.sig_set_iterator:=by kernel_rfl
theorem si_next:Slot "set_iterator" "__next__" "set_iterator.__next__":=
 .of (owner:="set_iterator") (n:="__next__") (by rw[typeLookup_type,builtinLookup_eq_fast];kernel_rfl) (by decide +kernel) (by decide +kernel) (by decide +kernel)
  (by first | exact .inl (by decide +kernel) | exact .inr (by decide +kernel)) (by rw[isSubtype_type];kernel_rfl)
theorem Zfl:Slot "set_iterator" "__iter__" "set_iterator.__iter__":=
 .of (owner:="set_iterator") (n:="__iter__") (by rw[typeLookup_type,builtinLookup_eq_fast];kernel_rfl) (by decide +kernel) (by decide +kernel) (by decide +kernel)
  (by first | exact .inl (by decide +kernel) | exact .inr (by decide +kernel)) (by rw[isSubtype_type];kernel_rfl)
theorem Zdl:entryFor table "set_iterator.__next__"=some Builtin.«set_iterator.__next__»:=entryFor_of_tree (by kernel_rfl)
theorem ZhI:entryFor table "set_iterator.__iter__"=some Builtin.«dict_keyiterator.__iter__»:=
 entryFor_alias (id':="dict_keyiterator.__iter__") (by kernel_rfl) (by first | rfl | decide +kernel | (unfold String.splitOn;simp +decide [String.splitOnAux])) (by decide +kernel) (by kernel_rfl)
theorem Zfn:entryFor table "set.__iter__"=some Builtin.«frozenset.__iter__»:=
 entryFor_alias (id':="frozenset.__iter__") (by kernel_rfl) (by first | rfl | decide +kernel | (unfold String.splitOn;simp +decide [String.splitOnAux])) (by decide +kernel) (by kernel_rfl)
theorem Zdm(a:Value):argsOk "set_iterator.__next__" ⟨[a],[]⟩:=by
 unfold argsOk;rw[signature?_of (id:="set_iterator.__next__") (n:=['_','_','t','x','e','n','_','_']) (o:=['r','o','t','a','r','e','t','i','_','t','e','s']) (by kernel_rfl) Zdk];kernel_rfl
theorem ZhJ(a:Value):argsOk "set_iterator.__iter__" ⟨[a],[]⟩:=by
 unfold argsOk;rw[signature?_of (id:="set_iterator.__iter__") (n:=['_','_','r','e','t','i','_','_']) (o:=['r','o','t','a','r','e','t','i','_','t','e','s']) (by kernel_rfl) Zdk];kernel_rfl
theorem ZgC{α:Type}:∀(l:List α) (i:Nat) (h:i<l.length),(l[i]::l.eraseIdx i).Perm l
 | [],i,h=>by simp at h
 | a::l,0,h=>by simp
 | a::l,i+1,h=>by
  have ih:=ZgC l i (by simpa using h);simp only[List.getElem_cons_succ,List.eraseIdx_cons_succ];exact(List.Perm.swap a _ _).trans (ih.cons a)
theorem ZfL{α:Type}(next:Nat->Nat):∀(fuel k:Nat) (left:List α) (out:Array α),fuel=left.length->(pickOrder.go next fuel k left out).toList.Perm (out.toList++left)
 | 0,k,left,out,h=>by
  have:left=[]:=Bt h.symm;subst this;simp[pickOrder.go]
 | fuel+1,k,left,out,h=>by
  unfold pickOrder.go;have hl:next k%left.length<left.length:=Nat.mod_lt _ (by omega);have e:left[next k%left.length]?=some left[next k%left.length]:=a_ hl;rw[e];have ih:=ZfL next fuel (k+1) (left.eraseIdx (next k%left.length)) (out.push left[next k%left.length]) (by rw[List.length_eraseIdx,if_pos hl];omega);refine ih.trans ?_;rw[Array.toList_push,Bz];refine List.Perm.append_left _ ?_;exact(ZgC left _ hl)
theorem ZfK{α:Type}(next:Nat->Nat)(xs:Array α):(pickOrder next xs).toList.Perm xs.toList:=by
 have:=ZfL next xs.size 0 xs.toList #[] (by simp);rw[List.nil_append]at this;exact this
theorem ZeQ{xs:Array Nat}(h:Ris xs.toList){i:Nat}(hi:i<xs.size):below xs (xs[i]+1)=i+1:=by
 obtain⟨h1,h2,h3⟩:=Qo h (xs[i]+1);have ris:∀ a b (ha:a<xs.size) (hb:b<xs.size),a<b->xs[a]<xs[b]:=fun a b ha hb hab=>by
  have:=ba.mp h a b (by simpa using ha) (by simpa using hb) hab;simpa using this
 rcases Nat.lt_trichotomy (below xs (xs[i]+1)) (i+1) with c | c | c
 ·exfalso;have:=h3 i hi (by omega);omega
 ·exact c
 ·exfalso;have hs:i+1<xs.size:=by omega
  have:=h2 (i+1) hs (by omega);have:=ris i (i+1) hi hs (by omega);omega
def byT(w:World):Bool:=w.params.followText "set-order"
def Zbk(w:World)(S:Addr)(ep:Nat)(es:Array (Int×Value)):Array (Int×Value):=if byT w then pickOrder (w.params.setOrder S ep) es else es
theorem Zat(w:World)(S:Addr)(ep:Nat)(es:Array (Int×Value)):(Zbk w S ep es).toList.Perm es.toList:=by
 unfold Zbk;split
 ·exact ZfK _ _
 ·exact .refl _
theorem JK(w:World)(S:Addr)(ep:Nat)(es:Array (Int×Value)):(Zbk w S ep es).size=es.size:=by simpa using(Zat w S ep es).length_eq
def IsSI(h:Heap)(it S:Addr)(slot i n ep:Nat):Prop:=∃ o,h.get? it=some o/\o.cls=.type "set_iterator"/\o.data=.fields #[rawInt slot,rawInt i,.ref S,rawInt n,rawInt ep]
theorem IsSI.at{h h':Heap}{it S:Addr}{slot i n ep:Nat}(x:IsSI h it S slot i n ep)(k:∀ o,h.get? it=some o->h'.get? it=some o):IsSI h' it S slot i n ep:=let ⟨o,ho,r⟩:=x;⟨o,k _ ho,r⟩
section
variable{prog:Program}{w:World}{A:Around}{E:Value->Shared->Prop}{s:Shared}{it S:Addr}{o:Obj}{es:Array (Int×Value)}{ep:Nat}{t:SetTable}
theorem IsSI.ty{slot i n ep:Nat}(x:IsSI s.heap it S slot i n ep):s.TypeIs (.ref it) "set_iterator":=let ⟨o,ho,hc,_⟩:=x;⟨o,ho,hc⟩
theorem JC{Q:Bool->Shared->Prop}(h:Q (byT w) s):wpAny (model prog w) A setsByText Q E s:=by
 unfold setsByText;exact wpAny_bind (wpAny_askSetting (wpAny_pure h))
theorem ZjD{slot i:Nat}{x:Value}{hx:Int}{Q:Option Value->Shared->Prop}(hi:IsSI s.heap it S slot i es.size ep)(ho:s.heap.get? S=some o)(hd:o.data=.set es ep t)(hf:t.fits es.size=true)(I:TI t es)(hpl:t.plain=true)(hld:t.led=!byT w)
  (hb:byT w=false->below t.place slot=i)(hxx:(Zbk w S ep es)[i]?=some (hx,x))
  (q:∀ k slot',IsSI k it S slot' (i+1) es.size ep->Heap.SameBut it s.heap k->(byT w=false->below t.place slot'=i+1)->Q (some x) {s with heap:=k}):wpAny (model prog w) A (pyNext (.ref it)) Q E s:=by
 obtain⟨oi,hoi,hci,hdi⟩:=id hi;unfold pyNext;refine wpAny_bind (wpAny_attempt (wpAny_callSpecial?_slot (name:=Str.ofString "__next__") hi.ty si_next (wpAny_call_entry si_next hi.ty Zdl ?_ (Zdm _))));unfold Builtin.«set_iterator.__next__»;refine wpAny_bind (wpAny_of_eq (a:=(Value.ref it,[])) rfl ?_);refine wpAny_bind (m:=fieldsOf (.ref it)) ?_;unfold fieldsOf;refine wpAny_bind (wpAny_load hoi ?_);rw[hdi];refine wpAny_pure ?_;dsimp only;refine wpAny_bind (m:=setEntries S) ?_;unfold setEntries;refine wpAny_bind (wpAny_setState_of ho hd hf (wpAny_pure ?_));rw[if_neg (by simp)];show wpAny _ _ (setNext S slot i ep >>= _) _ _ s;have fin:∀ slot':Nat,(byT w=false->below t.place slot'=i+1)->wpAny (model prog w) A.in1 (do
   setField (Value.ref it) 0 (rawInt slot')
   setField (Value.ref it) 1 (rawInt ((i:Int)+1))
   ret x) (fun fin s'=>∃ v,fin=Fin.done (Flow.ret v)/\wpAny (model prog w) A (pure (some v)) Q E s') (fun e s'=>wpAny (model prog w) A (do
     let r <- isInstance e (Value.type "StopIteration")
     if r=true then pure none else throw e) Q E s') s:=fun slot' hs=>by
  refine wpAny_bind (wpAny_setField hoi hdi (by simp) ?_);have ho1:=Heap.get?_update_self (fun o=>o.mapFields fun v=>v.setIfInBounds 0 (rawInt slot')) hoi (Obj.isFreed_of_fields (Obj.data_mapFields hdi _));have hd1:(oi.mapFields fun v=>v.setIfInBounds 0 (rawInt slot')).data=.fields #[rawInt slot',rawInt i,.ref S,rawInt es.size,rawInt ep]:=by rw[Obj.data_mapFields hdi];simp
  refine wpAny_bind (wpAny_setField (s:={s with heap:=s.heap.update it (Obj.mapFields fun v=>v.setIfInBounds 0 (rawInt slot'))}) ho1 hd1 (by simp) ?_);refine wpAny_pure ⟨x,rfl,wpAny_pure (q _ slot' ?_ ((Heap.SameBut.update ..).trans (Heap.SameBut.update ..)) hs)⟩;have ho2:=Heap.get?_update_self (fun o=>o.mapFields fun v=>v.setIfInBounds 1 (rawInt ((i:Int)+1))) ho1 (Obj.isFreed_of_fields (Obj.data_mapFields hd1 _));exact⟨_,ho2,(Obj.cls_mapFields ..).trans ((Obj.cls_mapFields ..).trans hci),by rw[Obj.data_mapFields hd1];simp⟩
 refine wpAny_bind ?_;unfold setNext;refine wpAny_bind (wpAny_setState_of ho hd hf ?_);dsimp only;refine wpAny_bind (JC ?_);have hlt:i<es.size:=by
  have:=(b7.mp hxx).1;rw[JK]at this;exact this
 cases hbt:byT w with
 | true=>
  rw[if_pos rfl,if_neg (by simp)];refine wpAny_bind ?_;unfold setWalk;refine wpAny_bind (wpAny_setState_of ho hd hf ?_);dsimp only;refine wpAny_bind (JC ?_);rw[hbt,if_pos rfl];refine wpAny_bind (wpAny_askSetting (wpAny_pure ?_));unfold Zbk at hxx;rw[hbt,if_pos rfl]at hxx;refine wpAny_pure ?_;show wpAny _ _ (match ((pickOrder (w.params.setOrder S ep) es)[i]?).map fun e=>(e.2,slot) with | some (x,next)=>_ | none=>_) _ _ s;rw[hxx];exact fin slot fun z=>by rw[hbt]at z;cases z
 | false=>
  rw[if_neg (by simp)];unfold Zbk at hxx;rw[hbt,if_neg (by simp)]at hxx;have hb':=hb hbt;have hpi:t.place[i]?=some (t.place[i]'(by rw[I.size];exact hlt)):=Av _;have hnx:=ZeQ I.ris (show i<t.place.size by rw[I.size];exact hlt);show wpAny _ _ (if(!t.plain&&decide (es.size>1))=true then _ else _) _ _ s;rw[hpl,if_neg (by simp)];refine wpAny_bind ?_;show wpAny _ _ (if(!t.led&&!es.isEmpty)=true then _ else _) _ _ s;rw[hld,hbt,if_neg (by simp)];refine wpAny_pure ?_;refine wpAny_pure ?_;rw[hb',hxx,hpi];exact fin _ fun _=>hnx
theorem Zli{slot i:Nat}{Q:Option Value->Shared->Prop}(hh:A.handled=none)(hi:IsSI s.heap it S slot i es.size ep)(ho:s.heap.get? S=some o)(hd:o.data=.set es ep t)(hf:t.fits es.size=true)(I:TI t es)(hpl:t.plain=true)(hld:t.led=!byT w)
  (hb:byT w=false->below t.place slot=i)(he:i=es.size)
  (q:∀ k,Heap.ExtBut it s.heap k->Q none {s with heap:=k}):wpAny (model prog w) A (pyNext (.ref it)) Q E s:=by
 obtain⟨oi,hoi,hci,hdi⟩:=id hi;unfold pyNext;refine wpAny_bind (wpAny_attempt (wpAny_callSpecial?_slot (name:=Str.ofString "__next__") hi.ty si_next (wpAny_call_entry si_next hi.ty Zdl ?_ (Zdm _))));unfold Builtin.«set_iterator.__next__»;refine wpAny_bind (wpAny_of_eq (a:=(Value.ref it,[])) rfl ?_);refine wpAny_bind (m:=fieldsOf (.ref it)) ?_;unfold fieldsOf;refine wpAny_bind (wpAny_load hoi ?_);rw[hdi];refine wpAny_pure ?_;dsimp only;refine wpAny_bind (m:=setEntries S) ?_;unfold setEntries;refine wpAny_bind (wpAny_setState_of ho hd hf (wpAny_pure ?_));rw[if_neg (by simp)];show wpAny _ _ (setNext S slot i ep >>= _) _ _ s;have fin:wpAny (model prog w) A.in1 (do
   setField (Value.ref it) 2 Value.none
   let r <- newExc (Value.type "StopIteration") []
   raiseNew (α:=Fin) r) (fun fin s'=>∃ v,fin=Fin.done (Flow.ret v)/\wpAny (model prog w) A (pure (some v)) Q E s') (fun e s'=>wpAny (model prog w) A (do
     let r <- isInstance e (Value.type "StopIteration")
     if r=true then pure none else throw e) Q E s') s:=by
  refine wpAny_bind (wpAny_setField hoi hdi (by simp) ?_);refine wpAny_bind ?_;simp only[newExc,newTuple];refine wpAny_bind (wpAny_newObj_type ?_ (by size_fits));refine wpAny_bind (m:=firstArgMember _ _) (wpAny_of_eq (a:=Value.none) (by first | rfl | (simp only[firstArgMember];rfl)) ?_)
  refine wpAny_newObj_type ?_ (by size_fits);simp only[raiseNew];refine wpAny_bind (wpAny_handled ?_)
  first | rw[show A.in1.handled=none from hh] | rw[hh]
  refine wpAny_bind (wpAny_pure (wpAny_throw ?_));refine wpAny_bind (wpAny_isInstance (T:="StopIteration") (b:=true) ⟨_,Heap.get?_push_size _ rfl,rfl⟩ isSubtype_stop ?_);exact wpAny_pure (q _ (((Heap.SameBut.update ..).extBut.push _).push _))
 refine wpAny_bind ?_;unfold setNext;refine wpAny_bind (wpAny_setState_of ho hd hf ?_);dsimp only;refine wpAny_bind (JC ?_);have hno:(Zbk w S ep es)[i]?=none:=Cd (by rw[JK];omega);cases hbt:byT w with
 | true=>
  rw[if_pos rfl,if_neg (by simp)];refine wpAny_bind ?_;unfold setWalk;refine wpAny_bind (wpAny_setState_of ho hd hf ?_);dsimp only;refine wpAny_bind (JC ?_);rw[hbt,if_pos rfl];refine wpAny_bind (wpAny_askSetting (wpAny_pure ?_));unfold Zbk at hno;rw[hbt,if_pos rfl]at hno;refine wpAny_pure ?_;show wpAny _ _ (match ((pickOrder (w.params.setOrder S ep) es)[i]?).map fun e=>(e.2,slot) with | some (x,next)=>_ | none=>_) _ _ s;rw[hno];exact fin
 | false=>
  rw[if_neg (by simp)];have hb':=hb hbt;have hne:es[i]?=none:=Cd (by omega);show wpAny _ _ (if(!t.plain&&decide (es.size>1))=true then _ else _) _ _ s;rw[hpl,if_neg (by simp)];refine wpAny_bind ?_;show wpAny _ _ (if(!t.led&&!es.isEmpty)=true then _ else _) _ _ s;rw[hld,hbt,if_neg (by simp)];refine wpAny_pure ?_;refine wpAny_pure ?_;rw[hb',hne];exact fin
structure Zm4(w:World)(S:Addr)(o:Obj)(es:Array (Int×Value))(ep:Nat)(t:SetTable):Prop where
 hd:o.data=.set es ep t
 hf:t.fits es.size=true
 I:TI t es
 hpl:t.plain=true
 hld:t.led=!byT w
theorem Walks.set(hh:A.handled=none)(W:Zm4 w S o es ep t)(hne:S≠it):Walks prog w A it [it,S] [it] es.size (fun i v=>∃ hx,(Zbk w S ep es)[i]?=some (hx,v)) (fun i h=>i<=es.size/\(∃ slot,IsSI h it S slot i es.size ep/\(byT w=false->below t.place slot=i))/\h.get? S=some o) where
 sub:=fun b hb=>by simp at hb;simp[hb]
 frame:=fun _ _ _ ⟨a,⟨slot,x,y⟩,z⟩ hk=>⟨a,⟨slot,x.at fun o e=>hk it (by simp) o e,y⟩,hk S (by simp) o z⟩
 item:=fun i s Q E hi ⟨a,⟨slot,x,y⟩,z⟩ hQ=>by
  have hz:i<(Zbk w S ep es).size:=by rw[JK];exact hi
  have e:(Zbk w S ep es)[i]?=some (((Zbk w S ep es)[i]).1,((Zbk w S ep es)[i]).2):=Av hz;exact ZjD x z W.hd W.hf W.I W.hpl W.hld y e fun k slot' k1 k2 k3=>hQ _ k s.toks ⟨_,e⟩ ⟨hi,⟨slot',k1,k3⟩,(k2.2 S hne).trans z⟩ fun b ob hb eo=>k2.extBut b ob (fun h=>hb (by simp[h])) eo
 done:=fun s Q E ⟨a,⟨slot,x,y⟩,z⟩ hQ=>Zli hh x z W.hd W.hf W.I W.hpl W.hld y rfl fun k kb=>hQ k s.toks fun b ob hb eo=>kb b ob (fun h=>hb (by simp[h])) eo
 self:=fun i s Q E ⟨a,⟨slot,x,y⟩,z⟩ hQ=>by
  refine wpAny_pyIter_slot x.ty Zfl (wpAny_call_entry Zfl x.ty ZhI ?_ (ZhJ _));show wpAny _ _ (ret (.ref it)) _ _ s;exact wpAny_pure ⟨_,rfl,"set_iterator",_,x.ty,si_next.lookup,hQ⟩
theorem Zeh{Q:Value->Shared->Prop}(W:Zm4 w S o es ep t)(ho:s.heap.get? S=some o)(hc:o.cls=.type "set")
  (q:Q (.ref s.heap.objs.size) {s with heap:=s.heap.push {cls:=.type "set_iterator",data:=.fields #[rawInt 0,rawInt 0,.ref S,rawInt es.size,rawInt ep]}}):wpAny (model prog w) A (pyIter (.ref S)) Q E s:=by
 have hT:s.TypeIs (.ref S) "set":=⟨o,ho,hc⟩;refine wpAny_pyIter_slot hT PySem.F.slot_set_iter (wpAny_call_entry PySem.F.slot_set_iter hT Zfn ?_ (PySem.F.args_set_iter_1 _));unfold Builtin.«frozenset.__iter__»;refine wpAny_bind (wpAny_of_eq (a:=S) rfl ?_);refine wpAny_bind (m:=Builtin.Frozenset.sizeOf S) ?_;unfold Builtin.Frozenset.sizeOf setEntries;refine wpAny_bind (wpAny_bind (wpAny_setState_of ho W.hd W.hf (wpAny_pure (wpAny_pure ?_))));refine wpAny_bind (m:=setDrawn S) ?_;unfold setDrawn;refine wpAny_bind (wpAny_setState_of ho W.hd W.hf ?_);dsimp only;refine wpAny_bind (JC (wpAny_pure ?_));rw[if_neg (by
  show ¬ ((!byT w&&(!t.plain&&decide (es.size>1)))=true);rw[W.hpl];simp)]
 refine wpAny_bind (wpAny_pure ?_);refine wpAny_bind (m:=setEpoch S) ?_;unfold setEpoch;refine wpAny_bind (wpAny_setState_of ho W.hd W.hf (wpAny_pure ?_));refine wpAny_bind (m:=newFields _ _) ?_;unfold newFields;refine wpAny_newObj_type ?_ (by size_fits);exact wpAny_pure ⟨_,rfl,"set_iterator",_,⟨_,Heap.get?_push_size _ rfl,rfl⟩,si_next.lookup,q⟩
end
section
variable{prog:Program}{w:World}{A:Around}{s:Shared}{R:Result->Shared->Prop}{it S x:Addr}{fp wr:List Addr}{n:Nat}{P:Nat->Value->Prop}{St:Nat->Heap->Prop}
theorem Zku{T:String}{res:Value}{c₀:Nat}{h1:Heap}(hT:s.TypeIs (.ref x) T)(h2:(Value.type T==Value.type "list")=false)(h3:(Value.type T==Value.type "tuple")=false)(hSx:S≠x)
  (hS:s.heap.get? S=some {cls:=.type "list",data:=.seq #[] c₀})
  (hi:∀(Q:Value->Shared->Prop) (E:Value->Shared->Prop),Q (.ref it) {s with heap:=h1}->wpAny (model prog w) A.in1 (pyIter (.ref x)) Q E s)
  (hh:∀(Q:Bool->Shared->Prop) (E:Value->Shared->Prop),Q false {s with heap:=h1}->wpAny (model prog w) A.in1 (Builtin.List.listLengthHint (.ref x)) Q E {s with heap:=h1})
  (W:Walks prog w A.in1 it fp wr n P St)(hst:St 0 h1)(hSf:S ∉ fp)(kp:∀ b o,s.heap.get? b=some o->h1.get? b=some o)(hn:n<=sizeLine)
  (hR:∀ h' tk acc' c',(∀ b o,b≠S->b ∉ wr->s.heap.get? b=some o->h'.get? b=some o)->h'.get? S=some {cls:=.type "list",dict:=none,data:=.seq acc' c',slots:=#[]}->ItemsOf P acc' n->R (.ok (.ret res)) {s with heap:=h',toks:=tk}):
  wpAny (model prog w) A.in1 (Builtin.List.listExtendWith (.ref S) (.ref x) res)
   (fun fin s'=>match fin with | .done f=>R (.ok f) s' | .again c'=>c'.quiet=true/\codeAny (model prog w) A c' R s') (fun e s'=>R (.error e) s') s:=by
 have WS:=W.toS;have key:∀(h:Heap) (c₁:Nat),St 0 h->(∀ b o,b≠S->s.heap.get? b=some o->h.get? b=some o)->h.get? S=some {cls:=.type "list",data:=.seq #[] c₁} ->
   codeAny (model prog w) A (.builtin "list.extend.loop" ⟨[.ref S,.ref it,res],[]⟩) R {s with heap:=h}:=by
  intro h c₁ hit hk hS₁;refine codeAny_extend_loopS WS hn S hSf res n 0 _ #[] c₁ rfl (Be _) hit hS₁ (ItemsOf.nil _) fun s' acc' c' hm hS' hacc=>?_;rw[Moved.eq_with hm];refine hR s'.heap s'.toks acc' c' (fun b o hb hbw e=>hm.heap b o (fun hmem=>?_) (hk b o hb e)) hS' hacc;rcases A4.mp hmem with e' | hmem
  ·exact hb e'
  ·exact hbw hmem
 unfold Builtin.List.listExtendWith;refine wpAny_bind (wpAny_typeOf hT ?_);have e1:Builtin.List.listSameRef (.ref S) (.ref x)=false:=by simp[Builtin.List.listSameRef,hSx]
 simp only[e1,h2,h3,C0,Af,if_false];refine wpAny_bind (hi _ _ ?_);refine wpAny_bind (wpAny_holding (hh _ _ ?_));have hS₁:=kp _ _ hS;refine wpAny_ite_split (fun _=>?_) (fun _=>wpAny_pure ⟨plainId_quiet F.plain_extend_loop _,key _ c₀ hst (fun b o _ e=>kp b o e) hS₁⟩);refine wpAny_bind (wpAny_rule ?_);refine wpAny_bind ?_;show wpAny _ _ (updateSeq S (·.push .none) >>= fun _=>updateSeq S (·.pop)) _ _ _;refine wpAny_bind (wpAny_updateSeq hS₁ rfl ?_);have hS₂:=Heap.get?_update_self (Obj.mapSeq (·.push Value.none)) hS₁ rfl;refine wpAny_updateSeq (hz:=by seq_fits) hS₂ rfl ?_;have hS₃:=Heap.get?_update_self (Obj.mapSeq (·.pop)) hS₂ rfl;have oth:∀ b o,b≠S->h1.get? b=some o->((h1.update S (Obj.mapSeq (·.push Value.none))).update S (Obj.mapSeq (·.pop))).get? b=some o:=
  fun b o hb e=>(Heap.get?_update_other _ _ (Ao hb)).trans ((Heap.get?_update_other _ _ (Ao hb)).trans e)
 refine wpAny_pure ⟨plainId_quiet F.plain_extend_loop _,key _ _ ?_ (fun b o hb e=>oth b o hb (kp b o e)) hS₃⟩;exact W.frame 0 _ _ hst fun b hb o e=>oth b o (fun h=>hSf (h ▸ hb)) e
end
section
variable{prog:Program}{w:World}{A:Around}{E:Value->Shared->Prop}{s:Shared}{it S:Addr}{o:Obj}{es:Array (Int×Value)}{ep:Nat}{t:SetTable}
theorem Zig{Q:Bool->Shared->Prop}(hT:s.TypeIs (.ref S) "set")(h:Q false s):wpAny (model prog w) A (Builtin.List.listLengthHint (.ref S)) Q E s:=by
 unfold Builtin.List.listLengthHint;refine wpAny_bind (wpAny_specialOf hT PySem.F.slot_set_len.lookup ?_);have hs:splitId "set.__len__"=some ("set","__len__"):=by decide +kernel
 dsimp only;rw[hs];dsimp only;refine wpAny_bind (wpAny_isInstance hT sub_set_self ?_);rw[if_neg (by simp),if_pos (by decide +kernel)];exact wpAny_bind (wpAny_typeOf hT (wpAny_pure h))
theorem ZcR {Q : List Value -> Shared -> Prop} (hh : A.handled = none) (W : Zm4 w S o es ep t) (ho : s.heap.get? S = some o) (hc : o.cls = .type "set") (hsz : es.size <= 1000)
    (q : ∀ h' tk, (∀ b o, s.heap.get? b = some o -> h'.get? b = some o) -> Q ((Zbk w S ep es).toList.map (·.2)) { s with heap := h', toks := tk }) : wpAny (model prog w) A (collect (.ref S)) Q E s := by
  unfold collect
  refine wpAny_bind (wpAny_runValue (codeAny_builtin entry_proto_collect' ?_))
  show wpAny _ _ (do again (.builtin "list.__iadd__" ⟨[<- newList [], .ref S], []⟩)) _ _ s
  refine wpAny_bind (wpAny_newList (wpAny_pure ⟨Code.quiet_builtin _ (by decide +kernel), codeAny_builtin entry_list_iadd' ?_⟩))
  show wpAny _ _ (Builtin.List.listExtendWith (.ref s.heap.objs.size) (.ref S) (.ref s.heap.objs.size)) _ _ { s with heap := s.heap.push (seqObj "list" #[] 0) }
  have ho' : (s.heap.push (seqObj "list" #[] 0)).get? S = some o := Heap.get?_push_of_some _ ho
  have hlt : S < s.heap.objs.size := Heap.lt_size ho
  have hz1 : (s.heap.push (seqObj "list" #[] 0)).objs.size = s.heap.objs.size + 1 := Heap.size_push ..
  rw [Around.under_plainId (show plainId "list.__iadd__" = true by decide +kernel) _]
  have hI : (s.heap.push (seqObj "list" #[] 0)).objs.size ≠ S := fun e => by
    have : s.heap.objs.size < S := by rw [<- e, hz1]; exact C5 _
    exact aq _ (Nat.lt_trans this hlt)
  refine Zku (R := fun r s' => match r with
      | .ok (.ret v) => wpAny (model prog w) A (match v with
        | .ref a => do
          let o <- load a
          match o.data with
          | .seq xs _ => pure xs.toList
          | _ => unsupported "internal:collect"
        | _ => unsupported "internal:collect") Q E s'
      | .ok _ => False
      | .error e => E e s') (s := { s with heap := s.heap.push (seqObj "list" #[] 0) }) (T := "set") (c₀ := 0) (it := (s.heap.push (seqObj "list" #[] 0)).objs.size)
    (h1 := (s.heap.push (seqObj "list" #[] 0)).push { cls := .type "set_iterator", data := .fields #[rawInt 0, rawInt 0, .ref S, rawInt es.size, rawInt ep] })
    ⟨o, ho', hc⟩ (by decide) (by decide) (Nat.ne_of_gt hlt) (Heap.get?_push_size _ rfl) (fun Q' E' hq => Zeh W ho' hc hq) (fun Q' E' hq => Zig ⟨o, Heap.get?_push_of_some _ ho', hc⟩ hq)
    (Walks.set (A := A.in1) hh W (Ao hI)) ⟨Be _, ⟨0, ⟨_, Heap.get?_push_size _ rfl, rfl, rfl⟩, fun _ => ?_⟩, Heap.get?_push_of_some _ ho'⟩ ?_ (fun b ob e => Heap.get?_push_of_some _ e) (by rw [sizeLine_eq]; omega) fun h' tk acc' c' kp hS' hacc => ?_
  · have h0 := (Qo W.I.ris 0).2.1
    by_cases z : below t.place 0 = 0
    · exact z
    · have h1 := (Qo W.I.ris 0).1
      have := h0 0 (by omega) (by omega)
      omega
  · intro hm
    rcases A4.mp hm with z | hm
    · rw [hz1] at z; exact Am (C5 _) z
    · rw [A0] at hm; exact absurd hm (Nat.ne_of_gt hlt)
  · show wpAny (model prog w) A (do
          let o <- load s.heap.objs.size
          match o.data with
          | .seq xs _ => pure xs.toList
          | _ => unsupported "internal:collect") Q E _
    refine wpAny_bind (wpAny_load hS' ?_)
    have ea : acc'.toList = (Zbk w S ep es).toList.map (·.2) := by
      refine List.ext_getElem? fun j => ?_
      rw [Az, au, Az]
      by_cases hj : j < es.size
      · have hj' : j < acc'.size := by rw [hacc.1]; exact hj
        have e : acc'[j]? = some acc'[j] := Av hj'
        obtain ⟨hx, e2⟩ := hacc.2 j _ e
        rw [e, e2]; rfl
      · rw [Cd (by rw [hacc.1]; omega), Cd (by rw [JK]; omega)]; rfl
    show wpAny _ _ (pure acc'.toList) Q E _
    rw [ea]
    exact wpAny_pure (q h' tk fun b ob e => kp b ob (Am (Heap.lt_size e)) (fun hm => by
      rw [A0, hz1] at hm
      have := Heap.lt_size e
      rw [hm] at this
      exact absurd (Nat.lt_trans (C5 _) this) (aq _)) (Heap.get?_push_of_some _ e))
end
end L3
namespace So
open PySem PySem.W PyProof.Rows
def run(c:Nat->Nat->Bool){α:Type}:KasT α->α
 | .ret a=>a
 | .ask i j k=>run c (k (c i j))
theorem JJ(c:Nat->Nat->Bool){α β:Type}(f:α->KasT β):∀ t:KasT α,run c (t.bind f)=run c (f (run c t))
 | .ret _=>rfl
 | .ask i j k=>JJ c f (k (c i j))
structure Ord(n:Nat)(c:Nat->Nat->Bool):Prop where
 irr:∀ i,i<n->c i i=false
 tr:∀ i j k,i<n->j<n->k<n->c i j=true->c j k=true->c i k=true
 tri:∀ i j,i<n->j<n->i≠j->c i j=true\/c j i=true
variable{n:Nat}{c:Nat->Nat->Bool}
theorem Ord.flip(o:Ord n c){i j:Nat}(hi:i<n)(hj:j<n)(hne:i≠j)(h:c i j=false):c j i=true:=by
 rcases o.tri i j hi hj hne with z | z
 ·rw[h]at z;cases z
 ·exact z
structure Pm(n:Nat)(p:Array Nat):Prop where
 perm:p.toList.Perm (List.range n)
theorem Pm.size{p:Array Nat}(h:Pm n p):p.size=n:=by have:=h.perm.length_eq;simpa using this
theorem Pm.get{p:Array Nat}(h:Pm n p){k:Nat}(hk:k<n):p[k]?=some (p.getD k 0)/\p.getD k 0<n:=by
 have hs:=h.size;have e:p[k]?=some (p.getD k 0):=by simp[hs,hk]
 refine⟨e,?_⟩;have:p.getD k 0∈p.toList:=by
  rw[<-Az]at e;exact av e
 exact Ae.mp (h.perm.mem_iff.mp this)
theorem Pm.inj{p:Array Nat}(h:Pm n p){i j:Nat}(hi:i<n)(hj:j<n)(e:p.getD i 0=p.getD j 0):i=j:=by
 have nd:p.toList.Nodup:=h.perm.nodup_iff.mpr List.nodup_range;have a:=(h.get hi).1;have b:=(h.get hj).1;rw[e,<-b]at a;have hs:=h.size;rw[<-Az,<-Az]at a;exact(List.getElem?_inj (by simpa[hs]using hi) nd).mp a
def SortTo(c:Nat->Nat->Bool)(p:Array Nat)(k:Nat):Prop:=∀ i j,i<j->j<k->c (p.getD i 0) (p.getD j 0)=true
theorem Zd3(o:Ord n c){p:Array Nat}(h:Pm n p){k:Nat}(hk:k<=n)(ha:∀ i,1<=i->i<k->c (p.getD (i-1) 0) (p.getD i 0)=true):SortTo c p k:=by
 intro i j hij hj
 induction j with
 | zero=>omega
 | succ j ih=>
  have s:=ha (j+1) (by omega) hj;rw[Nat.add_sub_cancel]at s;by_cases e:i=j
  ·rw[e];exact s
  ·exact o.tr _ _ _ (h.get (by omega)).2 (h.get (by omega)).2 (h.get (by omega)).2 (ih (by omega) (by omega)) s
theorem Zhd(o:Ord n c){p:Array Nat}(h:Pm n p):∀(f m:Nat),1<=m->m+f<=n->∃ r,run c (kas_asc p f m)=r/\m<=r/\r<=m+f/\(∀ i,m<=i->i<r->c (p.getD (i-1) 0) (p.getD i 0)=true)/\(r<m+f->c (p.getD r 0) (p.getD (r-1) 0)=true)
 | 0,m,_,_=>⟨m,rfl,A7 _,A7 _,fun i a b=>by omega,fun a=>by omega⟩
 | f+1,m,h1,h2=>by
  unfold kas_asc;simp only[run];by_cases e:c (p.getD m 0) (p.getD (m-1) 0)=true
  ·rw[if_pos e];exact⟨m,rfl,A7 _,by omega,fun i a b=>by omega,fun _=>e⟩
  ·rw[if_neg e];obtain⟨r,e1,e2,e3,e4,e5⟩:=Zhd o h f (m+1) (by omega) (by omega);refine⟨r,e1,by omega,by omega,fun i a b=>?_,fun a=>e5 (by omega)⟩;by_cases z:i=m
   ·subst z;have g1:=(h.get (k:=i) (by omega)).2;have g2:=(h.get (k:=i-1) (by omega)).2;refine o.flip g1 g2 (fun q=>?_) (by simpa using e);have:=h.inj (by omega) (by omega) q;omega
   ·exact e4 i (by omega) b
theorem ZgN(o:Ord n c){p:Array Nat}(h:Pm n p):∀(f m:Nat),1<=m->m+f<=n->∃ r,run c (kas_desc f p m 0)=(p,r,0)/\m<=r/\r<=m+f/\(∀ i,m<=i->i<r->c (p.getD i 0) (p.getD (i-1) 0)=true)
 | 0,m,_,_=>⟨m,rfl,A7 _,A7 _,fun i a b=>by omega⟩
 | f+1,m,h1,h2=>by
  unfold kas_desc;simp only[run];by_cases e:c (p.getD m 0) (p.getD (m-1) 0)=true
  ·rw[if_pos e,if_neg (by omega)];obtain⟨r,e1,e2,e3,e4⟩:=ZgN o h f (m+1) (by omega) (by omega);refine⟨r,e1,by omega,by omega,fun i a b=>?_⟩;by_cases z:i=m
   ·subst z;exact e
   ·exact e4 i (by omega) b
  ·rw[if_neg e];simp only[run];have g1:=(h.get (k:=m) (by omega)).2;have g2:=(h.get (k:=m-1) (by omega)).2;have:c (p.getD (m-1) 0) (p.getD m 0)=true:=o.flip g1 g2 (fun q=>by have:=h.inj (by omega) (by omega) q;omega) (by simpa using e);rw[this,if_pos rfl];exact⟨m,rfl,A7 _,by omega,fun i a b=>by omega⟩
theorem Zlt{p:Array Nat}(h:Pm n p)(i j:Nat):Pm n (kas_rev p i j):=⟨((mirror_perm p i j _).toList).trans h.perm⟩
theorem ZfA{p:Array Nat}{m k:Nat}(hm:m<=p.size):(kas_rev p 0 m).getD k 0=if k<m then p.getD (m-1-k) 0 else p.getD k 0:=by
 have e:=getElem?_mirror_all (xs:=p) (i:=0) hm k;have a:(kas_rev p 0 m).getD k 0=((kas_rev p 0 m)[k]?).getD 0:=by simp
 rw[a];unfold kas_rev;rw[e];by_cases z:k<m
 ·rw[if_pos ⟨by omega,z⟩,if_pos z,Nat.zero_add];simp
 ·rw[if_neg (by omega),if_neg z];simp
theorem ZiA(o:Ord n c){p:Array Nat}(h:Pm n p)(hn:2<=n):∃ m p',run c (kas_count n p)=(m,p')/\Pm n p'/\1<=m/\m<=n/\SortTo c p' m:=by
 unfold kas_count;rw[JJ];obtain⟨r,e1,e2,e3,e4,e5⟩:=Zhd o h (n-1) 1 (A7 _) (by omega);rw[e1];have st:SortTo c p r:=Zd3 o h (by omega) e4;by_cases z:r=n
 ·rw[if_pos (by simpa using z)];exact⟨r,p,rfl,h,e2,by omega,st⟩
 ·rw[if_neg (by simpa using z)];by_cases y:r>1
  ·rw[if_pos y];simp only[run];rw[st 0 (r-1) (by omega) (by omega),if_pos rfl];exact⟨r,p,rfl,h,e2,by omega,st⟩
  ·rw[if_neg y];have r1:r=1:=by omega
   subst r1;have d0:=e5 (by omega);unfold kas_descPart;rw[JJ];obtain⟨q,f1,f2,f3,f4⟩:=ZgN o h (n-(1+1)) (1+1) (by omega) (by omega);rw[f1];simp only;rw[if_neg (by omega)];unfold kas_tail3;rw[JJ];have hp:=Zlt h 0 q;obtain⟨m,g1,g2,g3,g4,_⟩:=Zhd o hp (n-q) q (by omega) (by omega);rw[g1];refine⟨m,kas_rev p 0 q,rfl,hp,by omega,by omega,Zd3 o hp (by omega) fun i a b=>?_⟩;by_cases w:i<q
   ·rw[ZfA (by rw[h.size];omega),ZfA (by rw[h.size];omega),if_pos (by omega),if_pos w];by_cases v:q-1-i+1=1
    ·rw[show q-1-(i-1)=1 by omega,show q-1-i=0 by omega];exact d0
    ·have:=f4 (q-1-(i-1)) (by omega) (by omega);rw[show q-1-(i-1)-1=q-1-i by omega]at this;exact this
   ·exact g4 i (by omega) b
theorem Zar(o:Ord n c){p:Array Nat}(h:Pm n p){k:Nat}(hk:k<n)(st:SortTo c p k):∀(f l r:Nat),r<=l+f->l<=r->r<=k->(∀ i,i<l->c (p.getD i 0) (p.getD k 0)=true)->(∀ i,r<=i->i<k->c (p.getD k 0) (p.getD i 0)=true) ->
  ∃ m,run c (kas_place p k f l r)=m/\m<=k/\(∀ i,i<m->c (p.getD i 0) (p.getD k 0)=true)/\(∀ i,m<=i->i<k->c (p.getD k 0) (p.getD i 0)=true)
 | 0,l,r,h1,h2,h3,a,b=>⟨l,rfl,by omega,a,fun i x y=>b i (by omega) y⟩
 | f+1,l,r,h1,h2,h3,a,b=>by
  unfold kas_place;by_cases z:l>=r
  ·rw[if_pos z];exact⟨l,rfl,by omega,a,fun i x y=>b i (by omega) y⟩
  ·rw[if_neg z];simp only[run];have gk:=(h.get hk).2;by_cases e:c (p.getD k 0) (p.getD ((l+r)/2) 0)=true
   ·rw[if_pos e];refine Zar o h hk st f l ((l+r)/2) (by omega) (by omega) (by omega) a fun i x y=>?_;by_cases w:i=(l+r)/2
    ·rw[w];exact e
    ·exact o.tr _ _ _ gk (h.get (by omega)).2 (h.get (by omega)).2 e (st _ _ (by omega) y)
   ·rw[if_neg e];have q:c (p.getD ((l+r)/2) 0) (p.getD k 0)=true:=o.flip gk (h.get (by omega)).2 (fun q=>by have:=h.inj hk (by omega) q;omega) (by simpa using e);refine Zar o h hk st f ((l+r)/2+1) r (by omega) (by omega) h3 (fun i x=>?_) b;by_cases w:i=(l+r)/2
    ·rw[w];exact q
    ·exact o.tr _ _ _ (h.get (by omega)).2 (h.get (by omega)).2 gk (st _ _ (by omega) (by omega)) q
theorem Zg8{p:Array Nat}{k m i:Nat}(hk:k<p.size)(hm:m<=k):(bubble p k (k-m)).getD i 0=if i=m then p.getD k 0 else if m<i/\i<=k then p.getD (i-1) 0 else p.getD i 0:=by
 have e:=getElem?_bubble hk (k-m) (by omega) i;have a:(bubble p k (k-m)).getD i 0=((bubble p k (k-m))[i]?).getD 0:=by simp
 rw[a,e,show k-(k-m)=m by omega];by_cases z:i=m
 ·rw[if_pos z,if_pos z];simp
 ·rw[if_neg z,if_neg z];by_cases y:m<i/\i<=k
  ·rw[if_pos y,if_pos y];simp
  ·rw[if_neg y,if_neg y];simp
theorem Zjh(o:Ord n c):∀(f k:Nat) (p:Array Nat),Pm n p->SortTo c p k->1<=k->k+f=n->∃ q,run c (kas_bin f p k)=q/\Pm n q/\SortTo c q n
 | 0,k,p,h,st,_,e=>⟨p,rfl,h,by rw[<-e];exact st⟩
 | f+1,k,p,h,st,h1,e=>by
  unfold kas_bin;rw[JJ];obtain⟨m,e1,e2,e3,e4⟩:=Zar o h (k:=k) (by omega) st k 0 k (by omega) (by omega) (by omega) (fun i x=>by omega) (fun i x y=>by omega);rw[e1];have hs:=h.size;refine Zjh o f (k+1) (bubble p k (k-m)) ⟨((bubble_perm p k _).toList).trans h.perm⟩ (fun i j hij hj=>?_) (by omega) (by omega);rw[Zg8 (by omega) e2,Zg8 (by omega) e2];by_cases a:i=m
  ·rw[if_pos a,if_neg (by omega),if_pos (by omega)];exact e4 (j-1) (by omega) (by omega)
  ·rw[if_neg a];by_cases b:j=m
   ·rw[if_pos b,if_neg (by omega)];exact e3 i (by omega)
   ·rw[if_neg b];by_cases x:m<i/\i<=k
    ·rw[if_pos x,if_pos (by omega)];exact st _ _ (by omega) (by omega)
    ·rw[if_neg x];by_cases y:m<j/\j<=k
     ·rw[if_pos y];exact st _ _ (by omega) (by omega)
     ·rw[if_neg y];exact st _ _ (by omega) (by omega)
theorem sort_ok(o:Ord n c)(hn:2<=n):Pm n (run c (kas_sort n))/\SortTo c (run c (kas_sort n)) n:=by
 have h0:Pm n (List.toArray (List.range n)):=⟨by simp⟩;unfold kas_sort;rw[JJ];obtain⟨m,p',e1,e2,e3,e4,e5⟩:=ZiA o h0 hn;rw[e1];simp only;by_cases z:m<n
 ·rw[if_pos z,show max m 1=m by omega];obtain⟨q,f1,f2,f3⟩:=Zjh o (n-m) m p' e2 e5 e3 (by omega);rw[f1];exact⟨f2,f3⟩
 ·rw[if_neg z];have:m=n:=by omega
  subst this;exact⟨e2,e5⟩
noncomputable def Bd(n:Nat){α:Type}(P:α->Prop):KasT α->Prop
 | .ret a=>P a
 | .ask i j k=>i<n/\j<n/\∀ b,Bd n P (k b)
theorem Bd.bind{α β:Type}{P:α->Prop}{Q:β->Prop}{f:α->KasT β}(hf:∀ a,P a->Bd n Q (f a)):∀{t:KasT α},Bd n P t->Bd n Q (t.bind f)
 | .ret a,h=>hf a h
 | .ask i j k,h=>⟨h.1,h.2.1,fun b=>Bd.bind hf (h.2.2 b)⟩
theorem wp_run{cmp:Nat->Nat->(Bool->Shared->Prop)->Shared->Prop}{I:Shared->Prop}(hc:∀ i j C s,i<n->j<n->I s->(∀ s',I s'->C (c i j) s')->cmp i j C s){α:Type}{P:α->Prop}{Q:α->Shared->Prop}:
  ∀{t:KasT α} {s:Shared},Bd n P t->I s->(∀ s',I s'->Q (run c t) s')->t.kasWp cmp Q s
 | .ret a,s,_,hI,hQ=>hQ s hI
 | .ask i j k,s,h,hI,hQ=>hc i j _ s h.1 h.2.1 hI fun s' hI'=>wp_run hc (h.2.2 (c i j)) hI' hQ
def Els(n:Nat)(p:Array Nat):Prop:=∀ x∈p.toList,x<n
theorem Els.get{p:Array Nat}(h:Els n p)(hn:0<n)(k:Nat):p.getD k 0<n:=by
 by_cases hk:k<p.size
 ·have e:p[k]?=some (p.getD k 0):=by simp[hk]
  rw[<-Az]at e;exact h _ (av e)
 ·have:p.getD k 0=0:=by simp[hk]
  omega
theorem Els.rev{p:Array Nat}(h:Els n p)(i j:Nat):Els n (kas_rev p i j):=fun x hx=>h x ((mirror_perm p i j _).toList.mem_iff.mp hx)
theorem Els.bub{p:Array Nat}(h:Els n p)(i j:Nat):Els n (bubble p i j):=fun x hx=>h x ((bubble_perm p i j).toList.mem_iff.mp hx)
theorem Zhe(hn:0<n){p:Array Nat}(h:Els n p):∀ f m,Bd n (fun _=>True) (kas_asc p f m)
 | 0,m=>trivial
 | f+1,m=>⟨h.get hn _,h.get hn _,fun b=>by cases b<;>first | exact trivial | exact Zhe hn h f (m+1)⟩
theorem ZaQ(hn:0<n):∀(f:Nat) (p:Array Nat) (m q:Nat),Els n p->Bd n (fun r=>Els n r.1) (kas_desc f p m q)
 | 0,p,m,q,h=>h
 | f+1,p,m,q,h=>⟨h.get hn _,h.get hn _,fun b=>by
   cases b
   ·exact⟨h.get hn _,h.get hn _,fun d=>by cases d<;>first | exact h | exact ZaQ hn f p _ _ h⟩
   ·show Bd n _ (if q>0 then _ else _);split
    ·exact ZaQ hn f _ _ _ (h.rev _ _)
    ·exact ZaQ hn f _ _ _ h⟩
theorem Zdg(hn:0<n){p:Array Nat}(h:Els n p)(m k:Nat):Bd n (fun r=>Els n r.2) (kas_tail3 m k p):=by
 unfold kas_tail3;refine Bd.bind (P:=fun _=>True) (fun a _=>?_) (Zhe hn (h.rev 0 m) _ _);exact h.rev 0 m
theorem ZfR(hn:0<n){p:Array Nat}(h:Els n p)(m k:Nat):Bd n (fun r=>Els n r.2) (kas_descPart m k p):=
 Bd.bind (fun r hr=>by
  show Bd n _ (if r.2.2>0 then _ else _);split
  ·exact Zdg hn (hr.rev _ _) _ _
  ·exact Zdg hn hr _ _) (ZaQ hn _ _ _ _ h)
theorem ZiB(hn:0<n){p:Array Nat}(h:Els n p)(k:Nat):Bd n (fun r=>Els n r.2) (kas_count k p):=
 Bd.bind (fun m _=>by
  show Bd n _ (if(m==k)=true then _ else if m>1 then _ else _);split
  ·exact h
  ·split
   ·exact⟨h.get hn _,h.get hn _,fun b=>by cases b<;>first | exact h | exact ZfR hn (h.rev _ _) _ _⟩
   ·exact ZfR hn h _ _) (Zhe hn h _ _)
theorem Zdt(hn:0<n){p:Array Nat}(h:Els n p)(k:Nat):∀ f l r,Bd n (fun _=>True) (kas_place p k f l r)
 | 0,l,r=>trivial
 | f+1,l,r=>by
  show Bd n _ (if l>=r then _ else _);split
  ·exact trivial
  ·exact⟨h.get hn _,h.get hn _,fun b=>by cases b<;>exact Zdt hn h k f _ _⟩
theorem Zji(hn:0<n):∀(f:Nat) (p:Array Nat) (k:Nat),Els n p->Bd n (fun r=>Els n r) (kas_bin f p k)
 | 0,p,k,h=>h
 | f+1,p,k,h=>Bd.bind (fun l _=>Zji hn f _ _ (h.bub _ _)) (Zdt hn h k _ _ _)
theorem sort_bd(hn:0<n):Bd n (fun r=>Els n r) (kas_sort n):=
 Bd.bind (fun r hr=>by
  show Bd n _ (if r.1<n then _ else _);split
  ·exact Zji hn _ _ _ hr
  ·exact hr) (ZiB hn (fun x hx=>Ae.mp (by simpa using hx)) n)
end So
namespace L3
open PySem PySem.Spec PyProof.Rows L2 SetTab PySem.SetTable PySem.W
section
variable{prog:Program}{w:World}{A:Around}{E:Value->Shared->Prop}{s:Shared}{Q:Bool->Shared->Prop}
theorem Zl5{a:Addr}{vs:List Value}{n:Nat}{P:PySem.Fin->Shared->Prop}(ho:s.heap.get? a=some (seqObj "list" vs.toArray n))(h2:vs.length<2)
  (q:∀ h' c,(∀ b o,b≠a->s.heap.get? b=some o->h'.get? b=some o)->h'.get? a=some (seqObj "list" vs.toArray c)->P (.done (.ret .none)) {s with heap:=h'}):
  wpAny (model prog w) A (Builtin.«list.sort» ⟨[.ref a],[]⟩) P E s:=by
 have s1:=Heap.SameBut.update s.heap a (Obj.mapSeq fun _=>(#[]:Array Value));obtain⟨e1,ho1⟩:∃ e1,(s.heap.update a (Obj.mapSeq fun _=>(#[]:Array Value))).get? a=some (seqObj "list" #[] e1):=⟨_,get?_update_seq ho fun _=>#[]⟩;rw[list_sort_plain];refine wpAny_bind (listItems_at ho rfl ?_);refine wpAny_bind (listUpdate_at ho rfl ?_ (by rw[Ac,sizeLine_eq];omega) (Be _));refine wpAny_bind (seqEpoch_at ho1 rfl ?_);refine wpAny_bind (wpAny_newTuple ?_ (by show vs.length<=_;rw[sizeLine_eq];omega));refine wpAny_bind (wpAny_newList ?_ (Be _));refine wpAny_holding ?_;show wpAny (model prog w) A _ P E {s with heap:=((s.heap.update a (Obj.mapSeq fun _=>(#[]:Array Value))).push (seqObj "tuple" vs.toArray 0)).push (seqObj "list" #[] 0)};dsimp only;have hn2:vs.toArray.size<2:=by rw[Ac];omega
 have kp:∀ b o,b≠a->s.heap.get? b=some o->(((s.heap.update a (Obj.mapSeq fun _=>(#[]:Array Value))).push (seqObj "tuple" vs.toArray 0)).push (seqObj "list" #[] 0)).get? b=some o:=fun b o hb e=>
  Heap.get?_push_of_some _ (Heap.get?_push_of_some _ ((s1.2 b hb).trans e))
 have hoa:(((s.heap.update a (Obj.mapSeq fun _=>(#[]:Array Value))).push (seqObj "tuple" vs.toArray 0)).push (seqObj "list" #[] 0)).get? a=some (seqObj "list" #[] e1):=Heap.get?_push_of_some _ (Heap.get?_push_of_some _ ho1);generalize ((s.heap.update a (Obj.mapSeq fun _=>(#[]:Array Value))).push (seqObj "tuple" vs.toArray 0)).push (seqObj "list" #[] 0)=h3 at kp hoa;rw[if_pos hn2,if_pos hn2];refine wpAny_bind (wpAny_pure ?_);rw[StateT.run_pure];refine wpAny_bind (wpAny_pure ?_);dsimp only;have eo:(vs.toArray.zip vs.toArray).map (·.2)=vs.toArray:=by
  apply Array.toList_inj.mp;rw[Array.toList_map,Array.toList_zip,<-List.unzip_snd,List.unzip_zip (by simp)]
 refine wpAny_bind (seqEpoch_at hoa rfl ?_);have s2:=Heap.SameBut.update h3 a (Obj.mapSeq fun _=>vs.toArray);obtain⟨c2,hc2⟩:∃ c2,(h3.update a (Obj.mapSeq fun _=>vs.toArray)).get? a=some (seqObj "list" vs.toArray c2):=⟨_,get?_update_seq hoa fun _=>vs.toArray⟩;refine wpAny_bind (listUpdate_at hoa rfl ?_ (Be _) (by
  refine Ax (Nat.le_of_eq ?_) (show vs.length<=_ by rw[sizeLine_eq];omega);show((vs.toArray.zip vs.toArray).map (·.2)).size=_;rw[eo];simp))
 simp only[bne_self_eq_false,Af,if_false];have eo':(h3.update a (Obj.mapSeq fun _=>(vs.toArray.zip vs.toArray).map (·.2)))=h3.update a (Obj.mapSeq fun _=>vs.toArray):=by rw[eo]
 refine wpAny_pure ?_;show P _ {s with heap:=h3.update a (Obj.mapSeq fun _=>(vs.toArray.zip vs.toArray).map (·.2))};rw[eo'];exact q _ c2 (fun b o hb e=>(s2.2 b hb).trans (kp b o hb e)) hc2
end
theorem Zgf:∀ k:List Int,HT.lexLt k k=false
 | []=>rfl
 | a::k=>by rw[HT.lexLt_cons,if_pos rfl];exact Zgf k
theorem Zi3:∀ a b c:List Int,HT.lexLt a b=true->HT.lexLt b c=true->HT.lexLt a c=true
 | [],[],_,h,_=>by cases h
 | [],_::_,[],_,h=>by cases h
 | [],_::_,_::_,_,_=>rfl
 | _::_,[],_,h,_=>by cases h
 | _::_,_::_,[],_,h=>by cases h
 | x::a,y::b,z::c,h1,h2=>by
  rw[HT.lexLt_cons]at h1 h2 ⊢;by_cases e1:x=y
  ·rw[if_pos e1]at h1;by_cases e2:y=z
   ·rw[if_pos e2]at h2;rw[if_pos (e1.trans e2)];exact Zi3 a b c h1 h2
   ·rw[if_neg e2]at h2;rw[if_neg (by omega),e1];exact h2
  ·rw[if_neg e1]at h1;have h1':=of_decide_eq_true h1;by_cases e2:y=z
   ·rw[if_pos e2]at h2;rw[if_neg (by omega)];exact decide_eq_true (by omega)
   ·rw[if_neg e2]at h2;have h2':=of_decide_eq_true h2;rw[if_neg (by omega)];exact decide_eq_true (by omega)
theorem Zgd:∀ a b:List Int,a.length=b.length->a≠b->HT.lexLt a b=true\/HT.lexLt b a=true
 | [],[],_,h=>absurd rfl h
 | [],_::_,h,_=>by simp at h
 | _::_,[],h,_=>by simp at h
 | x::a,y::b,hl,hn=>by
  rw[HT.lexLt_cons,HT.lexLt_cons];by_cases e:x=y
  ·subst e;rw[if_pos rfl,if_pos rfl];exact Zgd a b (by simpa using hl) fun z=>hn (by rw[z])
  ·rw[if_neg e,if_neg (Ao e)];rcases Int.lt_or_gt_of_ne e with h | h
   ·exact .inl (decide_eq_true h)
   ·exact .inr (decide_eq_true h)
def ZdL(k:List Int):List (List Int)->List (List Int)
 | []=>[k]
 | x::r=>if k=x then x::r else if HT.lexLt k x=true then k::x::r else x::ZdL k r
def srtK:List (List Int)->List (List Int)
 | []=>[]
 | k::ks=>ZdL k (srtK ks)
theorem insK_mem{k x:List Int}:∀{l:List (List Int)},x∈ZdL k l ↔ x=k\/x∈l
 | []=>by simp[ZdL]
 | y::r=>by
  unfold ZdL;by_cases e:k=y
  ·rw[if_pos e];subst e;simp
  ·rw[if_neg e];by_cases h:HT.lexLt k y=true
   ·rw[if_pos h];simp
   ·rw[if_neg h,A4,insK_mem,A4];constructor
    ·rintro(z | z | z)
     ·exact .inr (.inl z)
     ·exact .inl z
     ·exact .inr (.inr z)
    ·rintro(z | z | z)
     ·exact .inr (.inl z)
     ·exact .inl z
     ·exact .inr (.inr z)
theorem srtK_mem{x:List Int}:∀{l:List (List Int)},x∈srtK l ↔ x∈l
 | []=>by simp[srtK]
 | k::l=>by unfold srtK;rw[insK_mem,srtK_mem,A4]
def ZiH(l:List (List Int)):Prop:=l.Pairwise fun a b=>HT.lexLt a b=true
noncomputable def kD(k:List Int):D:=.tup (k.map .int)
def dSortSet:D->Option D:=fun d=>(Yu d).bind fun xs=>(keysOf xs).bind fun ks=>if ks.length<=60/\ks.all (fun k=>k.length==2)=true then some (.lst ((srtK ks).map kD)) else none
section
variable{X:Cx}{pins:List (Addr×Obj)}{σ:L2.St}{H:Hp}{s:Shared}{F:Fz}
end
end L3
namespace L3
open PySem PySem.Spec PyProof.Rows L2
section
variable{X:Cx}
end
section
variable{X:Cx}
end
end L3
set_option maxHeartbeats 8000000
namespace Pl
open PySem PySem.Spec PyProof.Rows L2 L3
def Zja:DS:=(Yc (Zg Qy (Zg YQ (Zg Qy (Zg dIx (Zd 1) (Zi (.int 0))) (Zg dIx (Zd 0) (Zi (.int 0)))) (Zg Qy (Zg dIx (Zd 2) (Zi (.int 1))) (Zg dIx (Zd 0) (Zi (.int 1))))) (Zg YQ (Zg Qy (Zg dIx (Zd 1) (Zi (.int 1))) (Zg dIx (Zd 0) (Zi (.int 1)))) (Zg Qy (Zg dIx (Zd 2) (Zi (.int 0))) (Zg dIx (Zd 0) (Zi (.int 0)))))))
def W2:List D->Option D:=ZA 3 Zja
def U6:DS:=(Yc (Zg dGt (dFn 3 W2 (Zb (Zd 0) (Zb (Zd 1) (Zb (Zd 2) Zm)))) (Zi (.int 0))))
def Yb:List D->Option D:=ZA 3 U6
def JY:DS:=(Yc (J0 dLe dLe (ZI ZeG (Zb (Zd 0) (Zb (Zd 1) Zm))) (Zd 2) (ZI ZbJ (Zb (Zd 0) (Zb (Zd 1) Zm)))))
def Yl:List D->Option D:=ZA 3 JY
def ZbA:DS:=(Zp (Z9 2 (Zg dIx (Zd 0) (Zi (.int 0))))
 (Zp (Z9 3 (Zg dIx (Zd 0) (Zi (.int 1))))
 (Zp (QC (Zo (Zg Qi (dFn 3 W2 (Zb (Zd 2) (Zb (Zd 3) (Zb (Zd 1) Zm)))) (Zi (.int 0)))) (Yc (Zi (.bl false))) ZV)
 (Yc (Zhx (dFn 3 Yl (Zb (Zg dIx (Zd 2) (Zi (.int 0))) (Zb (Zg dIx (Zd 3) (Zi (.int 0))) (Zb (Zg dIx (Zd 1) (Zi (.int 0))) Zm)))) (dFn 3 Yl (Zb (Zg dIx (Zd 2) (Zi (.int 1))) (Zb (Zg dIx (Zd 3) (Zi (.int 1))) (Zb (Zg dIx (Zd 1) (Zi (.int 1))) Zm)))))))))
def Qw:List D->Option D:=ZA 4 ZbA
def WY:DS:=(Yc (Ys [none,some 0] (Ww (ZI Q9 (Zb (Zd 0) Zm))) (ZC 0) ZH (QD (Zb (Zg dIx (Zd 1) (Zg Qy (Zd 0) (Zi (.int 1)))) (Zb (Zg dIx (Zd 1) (Zd 0)) Zm)))))
def Y2:List D->Option D:=ZA 1 WY
def Jv:DS:=(Yc (ZI Zm3 (Zb (Ys [none,some 1] (YO (dFn 1 Y2 (Zb (Zd 0) Zm))) (ZC 0) ZH (dFn 2 Qw (Zb (Zd 0) (Zb (Zd 1) Zm)))) Zm)))
def Z7:List D->Option D:=ZA 2 Jv
def Z6:DS:=(Zp (Z9 2 (Zg dIx (Zd 0) (Zi (.int 0))))
 (Zp (Z9 3 (Zg dIx (Zd 0) (Zi (.int 1))))
 (Zp (QC (Zo (Zg dGt (Zg dIx (Zd 2) (Zi (.int 1))) (Zg dIx (Zd 3) (Zi (.int 1))))) (Zp (Z9 2 (Zg dIx (Zd 0) (Zi (.int 1))))
 (Z9 3 (Zg dIx (Zd 0) (Zi (.int 0))))) ZV)
 (Yc (Zhx (J0 dLe dLt (Zg dIx (Zd 2) (Zi (.int 1))) (Zg dIx (Zd 1) (Zi (.int 1))) (Zg dIx (Zd 3) (Zi (.int 1)))) (dFn 3 Yb (Zb (Zd 2) (Zb (Zd 3) (Zb (Zd 1) Zm)))))))))
def Zr:List D->Option D:=ZA 4 Z6
def ZcI:DS:=(Zp (QC (Zo (dFn 2 Z7 (Zb (Zd 0) (Zb (Zd 1) Zm)))) (Yc (Zi (.str (Str.ofString "on")))) ZV)
 (Zp (Z9 2 (Ys [none,some 1] (YO (dFn 1 Y2 (Zb (Zd 0) Zm))) (ZC 0) (Zo (dFn 2 Zr (Zb (Zd 0) (Zb (Zd 1) Zm)))) (Zd 0)))
 (Yc (dIf (Zo (Zg Ze2 (Zg Q1 (ZI Q9 (Zb (Zd 2) Zm)) (Zi (.int 2))) (Zi (.int 1)))) (Zi (.str (Str.ofString "in"))) (Zi (.str (Str.ofString "out")))))))
def Qv:List D->Option D:=ZA 3 ZcI
def QQ:DS:=(Zp (QC (Zo (Zg dLt (Zd 1) (ZI Q9 (Zb (Zd 0) Zm)))) (Yc (Zg dIx (Zd 0) (Zd 1))) ZV)
 (Yc (Zi (.int 0))))
def Ym:List D->Option D:=ZA 2 QQ
def U9:DS:=(Zp (Z9 2 (Zg Q1 (Zg YQ (Zg Yn (Zg Yn (dFn 2 Ym (Zb (Zd 0) (Zb (Zd 1) Zm))) (Zg YQ (Zi (.int 7919)) (Zd 1))) (Zi (.int 1))) (Zi (.int 48271))) (Zi (.int 2147483647))))
 (Yc (Zg Q1 (Zg Yn (Zg Yn (Zg YQ (Zd 2) (Zd 2)) (Zg YQ (Zi (.int 7)) (Zd 2))) (Zd 1)) (Zi (.int 2147483629)))))
def ZR:List D->Option D:=ZA 3 U9
def Va:DS:=(Zp (Z9 2 (Zg Q1 (Zg YQ (Zg Yn (Zg Yn (Zd 0) (Zg YQ (Zi (.int 104729)) (Zd 1))) (Zi (.int 17))) (Zi (.int 69621))) (Zi (.int 2147483647))))
 (Yc (Zg Q1 (Zg Yn (Zg Yn (Zg YQ (Zd 2) (Zd 2)) (Zg YQ (Zi (.int 3)) (Zd 2))) (Zd 1)) (Zi (.int 2147483629)))))
def Zv:List D->Option D:=ZA 3 Va
def UH:DS:=(Yc (Zhx (Jz (ZeH .int) (Zd 0)) (Zhx (ZnP (Jz (ZeH .bool) (Zd 0))) (J0 dLe dLe (Zd 1) (Zd 0) (Zd 2)))))
def Yw:List D->Option D:=ZA 3 UH
def ZcJ:DS:=(Yc (Zg Qy (Zg YQ (Zg Qy (Zg dIx (Zd 1) (Zi (.int 0))) (Zg dIx (Zd 0) (Zi (.int 0)))) (Zg Qy (Zg dIx (Zd 2) (Zi (.int 1))) (Zg dIx (Zd 0) (Zi (.int 1))))) (Zg YQ (Zg Qy (Zg dIx (Zd 1) (Zi (.int 1))) (Zg dIx (Zd 0) (Zi (.int 1)))) (Zg Qy (Zg dIx (Zd 2) (Zi (.int 0))) (Zg dIx (Zd 0) (Zi (.int 0)))))))
def ZM:List D->Option D:=ZA 3 ZcJ
def ZbB:DS:=(Zp (QC (Zo (Zg Qi (dFn 3 ZM (Zb (Zd 0) (Zb (Zd 1) (Zb (Zd 2) Zm)))) (Zi (.int 0)))) (Yc (Zi (.bl false))) ZV)
 (Yc (Zhx (J0 dLe dLe (ZI ZeG (Zb (Zg dIx (Zd 0) (Zi (.int 0))) (Zb (Zg dIx (Zd 1) (Zi (.int 0))) Zm))) (Zg dIx (Zd 2) (Zi (.int 0))) (ZI ZbJ (Zb (Zg dIx (Zd 0) (Zi (.int 0))) (Zb (Zg dIx (Zd 1) (Zi (.int 0))) Zm)))) (J0 dLe dLe (ZI ZeG (Zb (Zg dIx (Zd 0) (Zi (.int 1))) (Zb (Zg dIx (Zd 1) (Zi (.int 1))) Zm))) (Zg dIx (Zd 2) (Zi (.int 1))) (ZI ZbJ (Zb (Zg dIx (Zd 0) (Zi (.int 1))) (Zb (Zg dIx (Zd 1) (Zi (.int 1))) Zm)))))))
def Yk:List D->Option D:=ZA 3 ZbB
def Wa:DS:=(Yc (Zg dIx (Zd 0) (Zg Q1 (Zg Yn (Zd 1) (Zd 2)) (ZI Q9 (Zb (Zd 0) Zm)))))
noncomputable def Zk:List D->Option D:=ZA 3 Wa
def Wc:DS:=(Zp (Z9 1 (Zi (.int 0)))
 (Zp (W8 (QG (Zd 0)) (Y7 2 3) (Zp (Z9 4 (dFn 3 Zk (Zb (Zd 0) (Zb (Zd 2) (Zb (Zi (.int 1)) Zm)))))
 (Z9 1 (Zg Qy (Zg Yn (Zd 1) (Zg YQ (Zg dIx (Zd 3) (Zi (.int 0))) (Zg dIx (Zd 4) (Zi (.int 1))))) (Zg YQ (Zg dIx (Zd 3) (Zi (.int 1))) (Zg dIx (Zd 4) (Zi (.int 0))))))))
 (Yc (Zd 1))))
def ZN:List D->Option D:=ZA 5 Wc
def Jw:DS:=(Zp (Z9 1 (ZI JA (Zb (Zd 0) Zm)))
 (Zp (QC (Zo (Zg dLt (dFn 1 ZN (Zb (Zd 1) Zm)) (Zi (.int 0)))) (Z9 1 (ZmD (Zd 1))) ZV)
 (Zp (Z9 2 (Zg ZbM (Zd 1) (ZI Wx (Zb (Zd 1) Zm))))
 (Yc (ZI YC (Zb (Zg Yn (dSl (Zd 1) (UA (Zd 2)) UB) (dSl (Zd 1) UB (UA (Zd 2)))) Zm))))))
def ZS:List D->Option D:=ZA 3 Jw
def Wb:DS:=(Zp (QC (Vv (Zo (dFn 3 Yk (Zb (Zd 0) (Zb (Zd 1) (Zb (Zd 2) Zm))))) (Vv (Zo (dFn 3 Yk (Zb (Zd 0) (Zb (Zd 1) (Zb (Zd 3) Zm))))) (Vv (Zo (dFn 3 Yk (Zb (Zd 2) (Zb (Zd 3) (Zb (Zd 0) Zm))))) (Zo (dFn 3 Yk (Zb (Zd 2) (Zb (Zd 3) (Zb (Zd 1) Zm)))))))) (Yc (Zi (.bl true))) ZV)
 (Zp (QC (Zo (Zg dGe (Zg YQ (dFn 3 ZM (Zb (Zd 0) (Zb (Zd 1) (Zb (Zd 2) Zm)))) (dFn 3 ZM (Zb (Zd 0) (Zb (Zd 1) (Zb (Zd 3) Zm))))) (Zi (.int 0)))) (Yc (Zi (.bl false))) ZV)
 (Yc (Zg dLt (Zg YQ (dFn 3 ZM (Zb (Zd 2) (Zb (Zd 3) (Zb (Zd 0) Zm)))) (dFn 3 ZM (Zb (Zd 2) (Zb (Zd 3) (Zb (Zd 1) Zm))))) (Zi (.int 0))))))
def Yr:List D->Option D:=ZA 4 Wb
def U7:DS:=(Zp (Up 1 Zm)
 (Zp (W8 (QG (Zd 0)) (Y7 2 3) (ZeI 1 (dFn 3 ZM (Zb (Zd 3) (Zb (dFn 3 Zk (Zb (Zd 0) (Zb (Zd 2) (Zb (Zi (.int 1)) Zm)))) (Zb (dFn 3 Zk (Zb (Zd 0) (Zb (Zd 2) (Zb (Zi (.int 2)) Zm)))) Zm))))))
 (Zk1 1 (Yc (Zd 1)))))
def YL:List D->Option D:=ZA 4 U7
def JZ:DS:=(Zp (Z9 1 (ZI Q9 (Zb (Zd 0) Zm)))
 (Zp (QC (Vv (Zo (Zg dLt (Jz dLenSet (Zd 0)) (Zd 1))) (Zo (Zg Zm1 (Zi (.int 0)) (dFn 1 YL (Zb (Zd 0) Zm))))) (Yc (Zi (.bl false))) ZV)
 (Zp (W8 (Ww (Zd 1)) (ZC 2) (W8 (Zgl (Zg Yn (Zd 2) (Zi (.int 2))) (Zd 1)) (ZC 3) (QC (Zo (Zg Qi (Zg Q1 (Zg Yn (Zd 3) (Zi (.int 1))) (Zd 1)) (Zd 2))) (Zp (Z9 4 (Zg dIx (Zd 0) (Zd 3)))
 (Zp (Z9 5 (dFn 3 Zk (Zb (Zd 0) (Zb (Zd 3) (Zb (Zi (.int 1)) Zm)))))
 (QC (Zo (dFn 4 Yr (Zb (Zg dIx (Zd 0) (Zd 2)) (Zb (dFn 3 Zk (Zb (Zd 0) (Zb (Zd 2) (Zb (Zi (.int 1)) Zm)))) (Zb (Zd 4) (Zb (Zd 5) Zm)))))) (Yc (Zi (.bl false))) ZV))) ZV)))
 (Yc (Zi (.bl true))))))
def ZZ:List D->Option D:=ZA 6 JZ
def U8:DS:=(Yc (Ys [none,some 1,some 0] (Ww (Zd 2)) (ZC 0) ZH (QD (Zb (Zg Q1 (dFn 2 Zv (Zb (Zd 2) (Zb (Zg YQ (Zi (.int 2)) (Zd 0)) Zm))) (Zd 1)) (Zb (Zg Q1 (dFn 2 Zv (Zb (Zd 2) (Zb (Zg Yn (Zg YQ (Zi (.int 2)) (Zd 0)) (Zi (.int 1))) Zm))) (Zd 1)) Zm)))))
def YM:List D->Option D:=ZA 3 U8
def W0:DS:=(Zp (Z9 2 (Zg Yn (Zi (.int 1)) (Zg Q1 (Zd 0) (Zi (.int 5)))))
 (Zp (Z9 3 (Zg Yn (Zi (.int 1)) (Zg Q1 (Zg Zcb (Zd 0) (Zi (.int 5))) (Zi (.int 5)))))
 (Zp (Z9 4 (Zg Yn (Zi (.int 1)) (ZI ZbJ (Zb (Zd 2) (Zb (Zd 3) Zm)))))
 (Zp (Z9 5 (Zg Yn (Zg Yn (Za4 (Zb (QD (Zb (Zi (.int 0)) (Zb (Zi (.int 0)) Zm))) Zm)) (Ys [none,some 1,some 0] (Ww (Zd 2)) (ZC 0) ZH (QD (Zb (Zg Yn (Zi (.int 1)) (Zd 0)) (Zb (Zg Qy (Jz Zit (Zi (.int 1))) (Zg Q1 (dFn 2 Zv (Zb (Zd 2) (Zb (Zd 0) Zm))) (Zd 1))) Zm))))) (Za4 (Zb (QD (Zb (Zd 4) (Zb (Zi (.int 0)) Zm))) Zm))))
 (Zp (Z9 5 (Zg Yn (Zd 5) (Ys [none,some 4,some 1,some 0] (Ww (Zd 3)) (ZC 0) ZH (QD (Zb (Zg Qy (Zg Qy (Zd 1) (Zi (.int 1))) (Zd 0)) (Zb (Zg Yn (Zi (.int 1)) (Zg Q1 (dFn 2 Zv (Zb (Zd 3) (Zb (Zg Yn (Zi (.int 9)) (Zd 0)) Zm))) (Zd 2))) Zm))))))
 (Zp (Z9 6 (Za4 Zm))
 (Zp (ZT (Zo (Zg Qi (ZI Q9 (Zb (Zd 6) Zm)) (ZI Q9 (Zb (Zd 5) Zm)))) (Zp (Z9 6 (Zd 5))
 (Z9 5 (Ys [none,none,some 6] (QG (Zd 6)) (Y7 0 1) (Zo (Zg Qi (dFn 3 ZM (Zb (Zg dIx (Zd 2) (Zg Qy (Zd 0) (Zi (.int 1)))) (Zb (Zd 1) (Zb (dFn 3 Zk (Zb (Zd 2) (Zb (Zd 0) (Zb (Zi (.int 1)) Zm)))) Zm)))) (Zi (.int 0)))) (Zd 1)))) 3000)
 (Yc (Zd 5)))))))))
def Qn:List D->Option D:=ZA 7 W0
def V9:DS:=(Zp (Z9 2 (dFn 3 YM (Zb (Zg Zcb (Zd 0) (Zi (.int 2))) (Zb (Zd 1) (Zb (Zg Yn (Zi (.int 3)) (Zg Q1 (Zg Zcb (Zd 0) (Zi (.int 2))) (Zi (.int 5)))) Zm)))))
 (Zp (QC (Vv (Zo (Zg Ze2 (Zg Q1 (Zd 0) (Zi (.int 2))) (Zi (.int 1)))) (Ji (Zo (dFn 1 ZZ (Zb (Zd 2) Zm))))) (Z9 2 (dFn 2 Qn (Zb (Zg Zcb (Zd 0) (Zi (.int 2))) (Zb (Zd 1) Zm)))) ZV)
 (Zp (Z9 3 (Zg Zcb (Zg YQ (Zg Q1 (Zg Zcb (Zd 0) (Zi (.int 512))) (Zi (.int 3))) (Zd 1)) (Zi (.int 4))))
 (Yc (dFn 1 ZS (Zb (Ys [none,none,some 3] (YO (Zd 2)) (Y7 0 1) ZH (QD (Zb (Zg Qy (Zd 0) (Zd 2)) (Zb (Zd 1) Zm)))) Zm))))))
def YH:List D->Option D:=ZA 4 V9
@[simp] theorem ZdU(i:Nat)(ρ:Rho):Zd i ρ=(match ρ[i]? with | some (.val d)=>some d | _=>none):=rfl
@[simp] theorem ZmH(d:D)(ρ:Rho):Zi d ρ=some d:=rfl
@[simp] theorem Qg(r:D->D->Option D)(f g:DE)(ρ:Rho):Zg r f g ρ=(f ρ).bind fun x=>(g ρ).bind fun y=>r x y:=by unfold Zg;rfl
@[simp] theorem ZbI(r:D->Option D)(f:DE)(ρ:Rho):Jz r f ρ=(f ρ).bind r:=rfl
@[simp] theorem Uo(f:DE)(ρ:Rho):Zo f ρ=(f ρ).bind fun d=>match d with | .bl b=>some b | _=>none:=rfl
@[simp] theorem Zm2(r r':D->D->Option D)(f g h:DE)(ρ:Rho):J0 r r' f g h ρ=(f ρ).bind fun x=>(g ρ).bind fun y=>(r x y).bind fun z=>match z with
 | .bl true=>(h ρ).bind fun u=>r' y u
 | .bl false=>some (.bl false)
 | _=>none:=rfl
@[simp] theorem Zom(f g:DE)(ρ:Rho):Zhx f g ρ=(f ρ).bind fun x=>match x with | .bl true=>g ρ | .bl false=>some (.bl false) | _=>none:=rfl
@[simp] theorem Zok(f:DE)(ρ:Rho):ZnP f ρ=(f ρ).bind fun x=>match x with | .bl k=>some (.bl (!k)) | _=>none:=rfl
@[simp] theorem Zjv(f g:DT)(ρ:Rho):Zec f g ρ=(f ρ).bind fun x=>match x with | true=>g ρ | false=>some false:=rfl
@[simp] theorem Zdf(f g:DT)(ρ:Rho):Vv f g ρ=(f ρ).bind fun x=>match x with | true=>some true | false=>g ρ:=rfl
@[simp] theorem Zfe(f:DT)(ρ:Rho):Ji f ρ=(f ρ).bind fun x=>some (!x):=rfl
@[simp] theorem ZhE(ρ:Rho):ZH ρ=some true:=rfl
@[simp] theorem Zo0(t:DT)(f g:DE)(ρ:Rho):dIf t f g ρ=(t ρ).bind fun x=>match x with | true=>f ρ | false=>g ρ:=rfl
@[simp] theorem ZmF(ρ:Rho):Zm ρ=some []:=rfl
@[simp] theorem Uq(f:DE)(a:DA)(ρ:Rho):Zb f a ρ=(f ρ).bind fun x=>(a ρ).bind fun xs=>some (x::xs):=rfl
@[simp] theorem Zoi(as:DA)(ρ:Rho):QD as ρ=(as ρ).bind fun xs=>if xs.length<=lim then some (.tup xs) else none:=by unfold QD;rfl
@[simp] theorem Zol(as:DA)(ρ:Rho):Za4 as ρ=(as ρ).bind fun xs=>if xs.length<=lim then some (.lst xs) else none:=by unfold Za4;rfl
@[simp] theorem JB(r:List D->Option D)(as:DA)(ρ:Rho):ZI r as ρ=(as ρ).bind r:=by unfold ZI;rfl
@[simp] theorem ZmG(n:Nat)(fn:List D->Option D)(as:DA)(ρ:Rho):dFn n fn as ρ=(as ρ).bind fun xs=>if xs.length=n then fn xs else none:=by unfold dFn;rfl
@[simp] theorem ZnQ(ρ:Rho):ZV ρ=some (.nx ρ):=rfl
@[simp] theorem Zz(g g':DS)(ρ:Rho):Zp g g' ρ=(match g ρ with | some (.nx ρ1)=>g' ρ1 | r=>r):=by unfold Zp;rfl
@[simp] theorem W6(f:DE)(ρ:Rho):Yc f ρ=(f ρ).map .rt:=by unfold Yc;rfl
@[simp] theorem ZbL(t:DT)(g g':DS)(ρ:Rho):QC t g g' ρ=(t ρ).bind fun b=>match b with | true=>g ρ | false=>g' ρ:=by unfold QC;rfl
@[simp] theorem W5(i:Nat)(f:DE)(ρ:Rho):Z9 i f ρ=(f ρ).map fun d=>.nx (ρ.set i (.val d)):=by unfold Z9;rfl
@[simp] theorem W7(it:DI)(b:DG)(g:DS)(ρ:Rho):W8 it b g ρ=(it ρ).bind fun xs=>U1 b g xs ρ:=by unfold W8;rfl
@[simp] theorem ZnD(f:DE)(ρ:Rho):YO f ρ=(f ρ).bind fun d=>match d with | .lst xs=>some xs | .tup xs=>some xs | _=>none:=rfl
@[simp] theorem Zoe(f:DE)(ρ:Rho):Ww f ρ=(f ρ).bind fun d=>match d with | .int j=>if Vl j then some (QB 0 j.toNat) else none | _=>none:=by unfold Ww;rfl
@[simp] theorem Zod(f g:DE)(ρ:Rho):Zgl f g ρ=(f ρ).bind fun d=>(g ρ).bind fun d'=>match d,d' with | .int i,.int j=>if Vl i&&Vl j then some (QB i (j-i).toNat) else none | _,_=>none:=by unfold Zgl;rfl
@[simp] theorem Ja(caps:List (Option Nat))(it:DI)(b:DG)(t:DT)(f:DE)(ρ:Rho):Ys caps it b t f ρ=(it ρ).bind fun xs=>if xs.length<=lim then(ZW b t f xs (Qj caps ρ)).map .lst else none:=by unfold Ys;rfl
@[simp] theorem ZkB(f:DE)(l h:DO)(ρ:Rho):dSl f l h ρ=(f ρ).bind fun x=>(l ρ).bind fun lo=>(h ρ).bind fun hi=>Zk0 lo hi x:=rfl
@[simp] theorem Zcy(ρ:Rho):UB ρ=some none:=rfl
@[simp] theorem Zcx(f:DE)(ρ:Rho):UA f ρ=(f ρ).bind fun d=>match d with | .int i=>some (some i) | _=>none:=rfl
@[simp] theorem Zoj(f:DE)(ρ:Rho):ZmD f ρ=(f ρ).bind fun x=>match x with | .lst xs=>some (.lst xs.reverse) | .tup xs=>some (.tup xs.reverse) | _=>none:=rfl
@[simp] theorem Zhb(i:Nat)(d:D)(ρ:Rho):ZC i d ρ=some (ρ.set i (.val d)):=rfl
@[simp] theorem ZcX(i j:Nat)(a b:D)(ρ:Rho):Y7 i j (.tup [a,b]) ρ=some ((ρ.set i (.val a)).set j (.val b)):=rfl
@[simp] theorem ZoA(i j:Int):Qy (.int i) (.int j)=some (.int (i-j)):=rfl
@[simp] theorem Zo1(i j:Int):Yn (.int i) (.int j)=some (.int (i+j)):=rfl
@[simp] theorem ZoL(i:Int):Zit (.int i)=some (.int (-i)):=rfl
@[simp] theorem Zpf(i j:Int):dLt (.int i) (.int j)=some (.bl (decide (i<j))):=rfl
@[simp] theorem Zpl(i j:Int):dLe (.int i) (.int j)=some (.bl (decide (i<=j))):=rfl
@[simp] theorem Zpm(i j:Int):dGt (.int i) (.int j)=some (.bl (decide (j<i))):=rfl
@[simp] theorem Zpn(i j:Int):dGe (.int i) (.int j)=some (.bl (decide (j<=i))):=rfl
theorem Uh{i j:Int}(h:(-18446744073709551616<i/\i<18446744073709551616)\/(-18446744073709551616<j/\j<18446744073709551616)):YQ (.int i) (.int j)=some (.int (i*j)):=by
 have:Zk2 i j=true:=by
  unfold Zk2;rcases h with⟨a,b⟩ | ⟨a,b⟩
  ·rw[b6];left;simp;omega
  ·rw[b6];right;simp;omega
 show(if Zk2 i j=true then _ else _)=_;rw[if_pos this]
theorem JV{i j:Int}(h:0<j):Q1 (.int i) (.int j)=some (.int (i%j)):=by
 show(if decide (0<j)=true then _ else _)=_;rw[if_pos (by simpa using h)]
theorem Zis{i j:Int}(h:0<j)(h2:j<1073741824):Zcb (.int i) (.int j)=some (.int (i/j)):=by
 show(if(decide (0<j)&&decide (j<1073741824))=true then _ else _)=_;rw[if_pos (by simp[h,h2])]
@[simp] theorem ZoS(a b:D):dIx (.tup [a,b]) (.int 0)=some a:=rfl
@[simp] theorem ZoR(a b:D):dIx (.tup [a,b]) (.int 1)=some b:=rfl
@[simp] theorem Zn9(i j:Int):ZeG [.int i,.int j]=some (.int (if j<i then j else i)):=rfl
@[simp] theorem Zoa(i j:Int):ZbJ [.int i,.int j]=some (.int (if j>i then j else i)):=rfl
@[simp] theorem Zma(xs:List D):Q9 [.lst xs]=some (.int xs.length):=rfl
@[simp] theorem Zi4(xs:List D):Q9 [.tup xs]=some (.int xs.length):=rfl
@[simp] theorem ZnM(i j:Int):Ze2 (.int i) (.int j)=some (.bl (decide (i=j))):=by
 show(if(okD (.int i)&&okD (.int j))=true then _ else _)=_;rw[if_pos (by rfl)]
 congr 2
@[simp] theorem Zl2(i j:Int):Qi (.int i) (.int j)=some (.bl (!decide (i=j))):=by
 show(if(okD (.int i)&&okD (.int j))=true then _ else _)=_;rw[if_pos (by rfl)]
 congr 3
@[simp] theorem ZoM(i j:Bool):Qi (.bl i) (.bl j)=some (.bl (i != j)):=by
 cases i<;>cases j<;>rfl
@[simp] theorem ZoZ(i j:Bool):Ze2 (.bl i) (.bl j)=some (.bl (i==j)):=by
 cases i<;>cases j<;>rfl
abbrev Pt:=Int×Int
noncomputable def pD(p:Pt):D:=.tup [.int p.1,.int p.2]
noncomputable def Sm(p:Pt):Prop:=(-1000000<=p.1/\p.1<=1000000)/\(-1000000<=p.2/\p.2<=1000000)
noncomputable def Zw(a b c:Pt):Int:=(b.1-a.1)*(c.2-a.2)-(b.2-a.2)*(c.1-a.1)
theorem ZaP{a b c:Pt}(ha:Sm a)(hb:Sm b)(hc:Sm c):W2 [pD a,pD b,pD c]=some (.int (Zw a b c)):=by
 obtain⟨⟨a1,a2⟩,a3,a4⟩:=ha;obtain⟨⟨b1,b2⟩,b3,b4⟩:=hb;obtain⟨⟨c1,c2⟩,c3,c4⟩:=hc;have m1:=Uh (i:=b.1-a.1) (j:=c.2-a.2) (.inl (by omega));have m2:=Uh (i:=b.2-a.2) (j:=c.1-a.1) (.inl (by omega));simp[W2,ZA,Zja,pD,Zw,m1,m2]
theorem Yf{a b c:Pt}(ha:Sm a)(hb:Sm b)(hc:Sm c):ZM [pD a,pD b,pD c]=some (.int (Zw a b c)):=ZaP ha hb hc
def ZkG(i j n:Int):Bool:=decide ((if j<i then j else i)<=n)&&decide (n<=(if j>i then j else i))
@[simp] theorem Vs(i j n:Int):Yl [.int i,.int j,.int n]=some (.bl (ZkG i j n)):=by
 simp[Yl,ZA,JY,ZkG];by_cases h:(if j<i then j else i)<=n
 ·simp[h]
 ·simp[h]
noncomputable def onZ(a b c:Pt):Bool:=decide (Zw a b c=0)&&ZkG a.1 b.1 c.1&&ZkG a.2 b.2 c.2
@[simp] theorem Zpe(p:Pt):dIx (pD p) (.int 0)=some (.int p.1):=rfl
@[simp] theorem Zpd(p:Pt):dIx (pD p) (.int 1)=some (.int p.2):=rfl
noncomputable def sD(s:Pt×Pt):D:=.tup [pD s.1,pD s.2]
@[simp] theorem Zpc(s:Pt×Pt):dIx (sD s) (.int 0)=some (pD s.1):=rfl
@[simp] theorem Zpb(s:Pt×Pt):dIx (sD s) (.int 1)=some (pD s.2):=rfl
theorem ZcM{a b c:Pt}(ha:Sm a)(hb:Sm b)(hc:Sm c):Qw [sD (a,b),pD c]=some (.bl (onZ a b c)):=by
 simp[Qw,ZA,ZbA,ZaP ha hb hc,Vs,onZ];by_cases h:Zw a b c=0
 ·simp[h];cases ZkG a.1 b.1 c.1<;>simp
 ·simp[h]
theorem Q8{a b c:Pt}(ha:Sm a)(hb:Sm b)(hc:Sm c):Yk [pD a,pD b,pD c]=some (.bl (onZ a b c)):=by
 simp[Yk,ZA,ZbB,Yf ha hb hc,onZ,ZkG];by_cases h:Zw a b c=0
 ·simp[h];by_cases h1:(if b.1<a.1 then b.1 else a.1)<=c.1
  ·simp[h1];by_cases h2:c.1<=(if b.1>a.1 then b.1 else a.1)
   ·simp[h2];by_cases h3:(if b.2<a.2 then b.2 else a.2)<=c.2
    ·simp[h3]
    ·simp[h3]
   ·simp[h2]
  ·simp[h1]
 ·simp[h]
theorem Z0{n:Nat}(h:n<=1000):n<=lim:=by unfold lim;omega
@[simp] theorem Zpk:(0<=lim)=True:=by simp
@[simp] theorem Zpj:(1<=lim)=True:=by rw[eq_true (Z0 (by omega))]
@[simp] theorem Zpi:(2<=lim)=True:=by rw[eq_true (Z0 (by omega))]
@[simp] theorem ZoP:(0+1+1<=lim)=True:=by rw[eq_true (Z0 (by omega))]
@[simp] theorem Zph:(3<=lim)=True:=by rw[eq_true (Z0 (by omega))]
@[simp] theorem ZoO:(0+1+1+1<=lim)=True:=by rw[eq_true (Z0 (by omega))]
@[simp] theorem Zpg:(4<=lim)=True:=by rw[eq_true (Z0 (by omega))]
theorem Zaa{t:DT}{f:DE}{rest:Rho}{p:D->Bool}{g:D->D}:∀{xs:List D} {s0:Sl},(∀ x∈xs,t (.val x::rest)=some (p x))->(∀ x∈xs,p x=true->f (.val x::rest)=some (g x)) ->
  ZW (ZC 0) t f xs (s0::rest)=some ((xs.filter p).map g)
 | [],s0,_,_=>rfl
 | x::xs,s0,ht,hf=>by
  have ih:=Zaa (xs:=xs) (s0:=.val x) (t:=t) (f:=f) (rest:=rest) (p:=p) (g:=g) (fun y hy=>ht y (A3 _ hy)) (fun y hy=>hf y (A3 _ hy));have h1:=ht x A6;have h2:=hf x A6;simp only[ZW,Zhb,Ca,A5,h1];cases hp:p x with
  | true=>simp[h2 hp,ih,hp]
  | false=>simp[ih,hp]
theorem Jc{f:DE}{rest:Rho}{g:D->D}{xs:List D}{s0:Sl}(hf:∀ x∈xs,f (.val x::rest)=some (g x)):ZW (ZC 0) ZH f xs (s0::rest)=some (xs.map g):=by
 have:=Zaa (t:=ZH) (f:=f) (rest:=rest) (p:=fun _=>true) (g:=g) (xs:=xs) (s0:=s0) (fun _ _=>rfl) (fun x hx _=>hf x hx);rw[List.filter_eq_self.mpr (fun _ _=>rfl)]at this;exact this
noncomputable def cyc(ps:List Pt)(i:Int):Pt:=ps[(i%(ps.length:Int)).toNat]?.getD (0,0)
theorem Zki{n:Nat}{i:Int}(h1:-(n:Int)<=i)(h2:i<n):ixN n i=some (i%(n:Int)).toNat:=by
 unfold ixN;by_cases h:0<=i
 ·rw[if_pos h,if_pos h2,B4 h h2]
 ·rw[if_neg h,if_pos h1];have:i%(n:Int)=i+n:=by
   rw[<-Cb];exact B4 (by omega) (by omega)
  rw[this]
theorem ZcZ{ps:List Pt}{i:Int}(h1:-(ps.length:Int)<=i)(h2:i<ps.length):atI (ps.map pD) i=some (pD (cyc ps i)):=by
 have hn:0<(ps.length:Int):=by omega
 have k1:=Ah i (show(ps.length:Int)≠0 by omega);have k2:=Ag i hn;unfold atI cyc;rw[A_,Zki h1 h2];have hl:(i%(ps.length:Int)).toNat<ps.length:=by omega
 simp[hl]
theorem ZcF{ps:List Pt}{i:Int}(h1:-(ps.length:Int)<=i)(h2:i<ps.length):dIx (.tup (ps.map pD)) (.int i)=some (pD (cyc ps i)):=ZcZ h1 h2
theorem Zkj{ps:List Pt}{i:Int}(h1:-(ps.length:Int)<=i)(h2:i<ps.length):dIx (.lst (ps.map pD)) (.int i)=some (pD (cyc ps i)):=ZcZ h1 h2
theorem Y4(ps:List Pt)(i:Int):cyc ps (i%ps.length)=cyc ps i:=by unfold cyc;rw[Int.emod_emod]
theorem Y6(ps:List Pt)(i:Int):cyc ps (i+ps.length)=cyc ps i:=by unfold cyc;rw[Cb]
theorem Y5{ps:List Pt}(h:ps≠[])(i:Int):cyc ps i∈ps:=by
 have hn:0<(ps.length:Int):=by have:=ag.mpr h;omega
 have k1:=Ah i (show(ps.length:Int)≠0 by omega);have k2:=Ag i hn;unfold cyc;have hl:(i%(ps.length:Int)).toNat<ps.length:=by omega
 simp[hl]
theorem ZO{ps:List Pt}{k:Nat}(h:k<ps.length):cyc ps k=ps[k]:=by
 unfold cyc;rw[B4 (by omega) (by omega)];simp[h]
theorem YE{n:Int}(h1:-1000000<=n)(h2:n<=1000000):Vl n=true:=by
 unfold Vl;simp;omega
noncomputable def All(P:Pt->Prop)(ps:List Pt):Prop:=∀ p∈ps,P p
def JR(ps:List Pt)(k:Int):Pt×Pt:=(cyc ps k,cyc ps (k+1))
def Yg(ps:List Pt):List (Pt×Pt):=(List.range ps.length).map fun(k:Nat)=>JR ps ((k:Int)-1)
theorem Vx(lo:Int)(n:Nat):(QB lo n).length=n:=by simp[QB]
theorem ZhH {ps : List Pt} : ZW (ZC 0) ZH (QD (Zb (Zg dIx (Zd 1) (Zg Qy (Zd 0) (Zi (.int 1)))) (Zb (Zg dIx (Zd 1) (Zd 0)) Zm))) (QB 0 ps.length) (.no :: [.val (.tup (ps.map pD))]) =
      some ((QB 0 ps.length).map fun x => match x with | .int i => sD (JR ps (i - 1)) | _ => .non) := by
    refine Jc fun x hx => ?_
    unfold QB at hx
    obtain ⟨k, hk, rfl⟩ := A8.mp hx
    have hk := Ae.mp hk
    have e1 := ZcF (ps := ps) (i := (0 + (k : Int)) - 1) (by omega) (by omega)
    have e2 := ZcF (ps := ps) (i := (0 + (k : Int))) (by omega) (by omega)
    simp only [Bh] at e1 e2
    simp [e1, e2, sD, JR]
theorem ZjB{ps:List Pt}(h0:ps.length<=1000):Vl (ps.length:Int)=true:=YE (by omega) (by omega)
theorem ZjC{ps:List Pt}(h0:ps.length<=1000):(QB 0 ps.length).length<=lim:=by rw[Vx];exact Z0 h0
theorem Vb{ps:List Pt}(h0:ps.length<=1000):Y2 [.tup (ps.map pD)]=some (.lst ((Yg ps).map sD)):=by
 simp -implicitDefEqProofs[Y2,ZA,WY,ZjB h0,ZjC h0,Qj,ZhH];simp[Yg,QB]
theorem ZbP{α:Type}(f:α->Bool):∀(xs:List α),ZaX (xs.map fun x=>D.bl (f x))=some (xs.map f)
 | []=>rfl
 | x::xs=>by show(ZaX (xs.map fun x=>D.bl (f x))).map (f x::·)=_;rw[ZbP f xs];rfl
theorem QR{a b c:Pt}(ha:Sm a)(hb:Sm b)(hc:Sm c):Yb [pD a,pD b,pD c]=some (.bl (decide (0<Zw a b c))):=by
 simp -implicitDefEqProofs[Yb,ZA,U6,ZaP ha hb hc]
def SmS(s:Pt×Pt):Prop:=Sm s.1/\Sm s.2
theorem Zbb{ps:List Pt}(h:All Sm ps):∀ s∈Yg ps,SmS s:=fun s hs=>by
 obtain⟨k,hk,rfl⟩:=A8.mp hs;have hk:=Ae.mp hk;have ne:ps≠[]:=fun z=>by rw[z]at hk;simp at hk
 exact⟨h _ (Y5 ne _),h _ (Y5 ne _)⟩
theorem WN(ps:List Pt):(Yg ps).length=ps.length:=by simp[Yg]
theorem QZ{ps:List Pt}{c:Pt}(h0:ps.length<=1000)(hs:All Sm ps)(hc:Sm c):Z7 [.tup (ps.map pD),pD c]=some (.bl ((Yg ps).any fun s=>onZ s.1 s.2 c)):=by
 have hl:(Yg ps).length<=lim:=by rw[WN];exact Z0 h0
 have key:∀ x∈(Yg ps).map sD,∃ s∈Yg ps,x=sD s:=fun x hx=>by obtain⟨s,h1,h2⟩:=A8.mp hx;exact⟨s,h1,h2.symm⟩
 have hcl:ZW (ZC 0) ZH (dFn 2 Qw (Zb (Zd 0) (Zb (Zd 1) Zm))) ((Yg ps).map sD) (.no::[.val (pD c)])=some (((Yg ps).map fun s=>D.bl (onZ s.1 s.2 c))):=by
  have:∀(ss:List (Pt×Pt)) (s0:Sl),(∀ s∈ss,SmS s)->ZW (ZC 0) ZH (dFn 2 Qw (Zb (Zd 0) (Zb (Zd 1) Zm))) (ss.map sD) (s0::[.val (pD c)])=some ((ss.map fun s=>D.bl (onZ s.1 s.2 c))):=by
   intro ss
   induction ss with
   | nil=>intro _ _;rfl
   | cons s ss ih=>
    intro s0 hss;obtain⟨h1,h2⟩:=hss s A6;have e:=ZcM h1 h2 hc;have ih':=ih (.val (sD s)) fun s hs=>hss s (A3 _ hs);simp -implicitDefEqProofs[ZW,e,ih']
  exact this _ _ (Zbb hs)
 simp -implicitDefEqProofs[Z7,ZA,Jv,Vb h0,hl,Qj,hcl,Zm3,Yu,ZbP]
def QH(s:Pt×Pt)(c:Pt):Bool:=if s.2.2<s.1.2 then(decide (s.2.2<=c.2)&&decide (c.2<s.1.2))&&decide (0<Zw s.2 s.1 c) else(decide (s.1.2<=c.2)&&decide (c.2<s.2.2))&&decide (0<Zw s.1 s.2 c)
theorem ZgA{s:Pt×Pt}{c:Pt}(hs:SmS s)(hc:Sm c):Zr [sD s,pD c]=some (.bl (QH s c)):=by
 obtain⟨h1,h2⟩:=hs;by_cases h:s.2.2<s.1.2
 ·simp -implicitDefEqProofs[Zr,ZA,Z6,QR h2 h1 hc,h,QH];by_cases c1:s.2.2<=c.2
  ·by_cases c2:c.2<s.1.2
   ·simp -implicitDefEqProofs[c1,c2]
   ·simp -implicitDefEqProofs[c1,c2]
  ·simp -implicitDefEqProofs[c1]
 ·simp -implicitDefEqProofs[Zr,ZA,Z6,QR h1 h2 hc,h,QH];by_cases c1:s.1.2<=c.2
  ·by_cases c2:c.2<s.2.2
   ·simp -implicitDefEqProofs[c1,c2]
   ·simp -implicitDefEqProofs[c1,c2]
  ·simp -implicitDefEqProofs[c1]
def YR(ps:List Pt)(c:Pt):String:=if(Yg ps).any (fun s=>onZ s.1 s.2 c) then "on" else if((Yg ps).filter fun s=>QH s c).length%2=1 then "in" else "out"
theorem Ziz{c:Pt}(hc:Sm c):∀(ss:List (Pt×Pt)) (s0:Sl),(∀ s∈ss,SmS s)->ZW (ZC 0) (Zo (dFn 2 Zr (Zb (Zd 0) (Zb (Zd 1) Zm)))) (Zd 0) (ss.map sD) (s0::[.val (pD c)])=some (((ss.filter fun s=>QH s c).map sD)):=by
 intro ss
 induction ss with
 | nil=>intro _ _;rfl
 | cons s ss ih=>
  intro s0 hss;have e:=ZgA (hss s A6) hc;have ih':=ih (.val (sD s)) fun s hs=>hss s (A3 _ hs);cases hx:QH s c with
  | true=>simp -implicitDefEqProofs[ZW,e,ih',hx]
  | false=>simp -implicitDefEqProofs[ZW,e,ih',hx]
theorem Zhz{ps:List Pt}{c:Pt}(h0:ps.length<=1000)(hs:All Sm ps)(hc:Sm c)(ho:(Yg ps).any (fun s=>onZ s.1 s.2 c)=true):Qv [.tup (ps.map pD),pD c]=some (.str (Str.ofString "on")):=by
 have e:=QZ h0 hs hc;rw[ho]at e;simp -implicitDefEqProofs[Qv,ZA,ZcI,e]
theorem ZhA{ps:List Pt}{c:Pt}(h0:ps.length<=1000)(hs:All Sm ps)(hc:Sm c)(ho:(Yg ps).any (fun s=>onZ s.1 s.2 c)=false):(Z9 2 (Ys [none,some 1] (YO (dFn 1 Y2 (Zb (Zd 0) Zm))) (ZC 0) (Zo (dFn 2 Zr (Zb (Zd 0) (Zb (Zd 1) Zm)))) (Zd 0))) [.val (.tup (ps.map pD)),.val (pD c),.no] =
  some (.nx [.val (.tup (ps.map pD)),.val (pD c),.val (.lst (((Yg ps).filter fun s=>QH s c).map sD))]):=by
 have hl:(Yg ps).length<=lim:=by rw[WN];exact Z0 h0
 have hcl:=Ziz hc (Yg ps) .no (Zbb hs);simp -implicitDefEqProofs[Vb h0,hl,Qj,hcl]
theorem Ze8(l:D)(r c:D)(ss:List (Pt×Pt)):(Yc (dIf (Zo (Zg Ze2 (Zg Q1 (ZI Q9 (Zb (Zd 2) Zm)) (Zi (.int 2))) (Zi (.int 1)))) (Zi (.str (Str.ofString "in"))) (Zi (.str (Str.ofString "out"))))) [.val r,.val c,.val (.lst (ss.map sD))] =
  some (.rt (.str (Str.ofString (if ss.length%2=1 then "in" else "out")))):=by
 have hm:=JV (i:=((ss.length:Nat):Int)) (j:=2) (by omega);by_cases hc2:ss.length%2=1
 ·have:((ss.length:Nat):Int)%2=1:=by omega
  simp -implicitDefEqProofs[hm,hc2,this]
 ·have:¬ ((ss.length:Nat):Int)%2=1:=by omega
  simp -implicitDefEqProofs[hm,hc2,this]
theorem Zgv{ps:List Pt}{c:Pt}(h0:ps.length<=1000)(hs:All Sm ps)(hc:Sm c):Qv [.tup (ps.map pD),pD c]=some (.str (Str.ofString (YR ps c))):=by
 unfold YR;cases ho:(Yg ps).any (fun s=>onZ s.1 s.2 c) with
 | true=>rw[if_pos rfl];exact Zhz h0 hs hc ho
 | false=>
  rw[if_neg (by decide)];have e:=QZ h0 hs hc;rw[ho]at e;have e2:=ZhA h0 hs hc ho;have e3:=Ze8 .non (.tup (ps.map pD)) (pD c) ((Yg ps).filter fun s=>QH s c);have e1:(QC (Zo (dFn 2 Z7 (Zb (Zd 0) (Zb (Zd 1) Zm)))) (Yc (Zi (.str (Str.ofString "on")))) ZV) [.val (.tup (ps.map pD)),.val (pD c),.no]=some (.nx [.val (.tup (ps.map pD)),.val (pD c),.no]):=by
   simp -implicitDefEqProofs[e]
  unfold Qv ZA ZcI;simp only[Au,List.map_nil,B_,C_,B3,List.nil_append];show(Zp _ (Zp _ _) [.val (.tup (ps.map pD)),.val (pD c),.no]).bind _=_;rw[Zz,e1];show(Zp _ _ [.val (.tup (ps.map pD)),.val (pD c),.no]).bind _=_;rw[Zz,e2];show(Yc _ _).bind _=_;rw[e3];rfl
theorem Zmo{c:D}{xs:List D}(h:Yu c=some xs)(i:Int):dIx c (.int i)=atI xs i:=by
 cases c<;>first | (cases h;rfl) | cases h
theorem Zgg{c:D}{xs:List D}(h:Yu c=some xs):Q9 [c]=some (.int xs.length):=by
 cases c<;>first | (cases h;rfl) | cases h
theorem Zgk{f:DE}{ρ:Rho}{c:D}{xs:List D}(hf:f ρ=some c)(h:Yu c=some xs):YO f ρ=some xs:=by
 unfold YO;rw[hf];cases c<;>first | (cases h;rfl) | cases h
theorem Vz{f:DE}{ρ:Rho}{c:D}{xs:List D}(hf:f ρ=some c)(h:Yu c=some xs):QG f ρ=some (YI 0 xs):=by
 unfold QG;rw[Zgk hf h];rfl
theorem WW{c:D}{ps:List Pt}(h:Yu c=some (ps.map pD)){i:Int}(h1:-(ps.length:Int)<=i)(h2:i<ps.length):dIx c (.int i)=some (pD (cyc ps i)):=by rw[Zmo h,ZcZ h1 h2]
def ZkW(d k:Int):Int:=(((d+7919*k+1)*48271%2147483647)*((d+7919*k+1)*48271%2147483647)+7*((d+7919*k+1)*48271%2147483647)+k)%2147483629
def UP(ns:List Int)(k:Nat):Int:=ns[k]?.getD 0
theorem Zin(ns:List Int)(k:Nat):Ym [.lst (ns.map .int),.int k]=some (.int (UP ns k)):=by
 unfold UP;by_cases h:k<ns.length
 ·have e:dIx (.lst (ns.map D.int)) (.int k)=some (.int ns[k]):=by
   show atI (ns.map D.int) (k:Int)=_;exact ZkI (by simp[h])
  simp -implicitDefEqProofs[Ym,ZA,QQ,h,e]
 ·simp -implicitDefEqProofs[Ym,ZA,QQ,h]
theorem ZbE(ns:List Int)(k:Nat):ZR [.lst (ns.map .int),.int k]=some (.int (ZkW (UP ns k) k)):=by
 have m1:=Uh (i:=7919) (j:=(k:Int)) (.inl (by omega));have m2:=Uh (i:=UP ns k+7919*(k:Int)+1) (j:=48271) (.inr (by omega));have h1:=Ah ((UP ns k+7919*(k:Int)+1)*48271) (show(2147483647:Int)≠0 by omega);have h2:=Ag ((UP ns k+7919*(k:Int)+1)*48271) (show(0:Int)<2147483647 by omega);have d1:=JV (i:=(UP ns k+7919*(k:Int)+1)*48271) (j:=2147483647) (by omega);have m3:=Uh (i:=(UP ns k+7919*(k:Int)+1)*48271%2147483647) (j:=(UP ns k+7919*(k:Int)+1)*48271%2147483647) (.inl (by omega));have m4:=Uh (i:=7) (j:=(UP ns k+7919*(k:Int)+1)*48271%2147483647) (.inl (by omega));have d2:=fun x=>JV (i:=x) (j:=2147483629) (by omega);simp -implicitDefEqProofs[ZR,ZA,U9,Zin,m1,m2,d1,m3,m4,d2,ZkW]
def JW(n k:Int):Int:=(((n+104729*k+17)*69621%2147483647)*((n+104729*k+17)*69621%2147483647)+3*((n+104729*k+17)*69621%2147483647)+k)%2147483629
theorem UK(n k:Int):Zv [.int n,.int k]=some (.int (JW n k)):=by
 have m1:=Uh (i:=104729) (j:=k) (.inl (by omega));have m2:=Uh (i:=n+104729*k+17) (j:=69621) (.inr (by omega));have h1:=Ah ((n+104729*k+17)*69621) (show(2147483647:Int)≠0 by omega);have h2:=Ag ((n+104729*k+17)*69621) (show(0:Int)<2147483647 by omega);have d1:=JV (i:=(n+104729*k+17)*69621) (j:=2147483647) (by omega);have m3:=Uh (i:=(n+104729*k+17)*69621%2147483647) (j:=(n+104729*k+17)*69621%2147483647) (.inl (by omega));have m4:=Uh (i:=3) (j:=(n+104729*k+17)*69621%2147483647) (.inl (by omega));have d2:=fun x=>JV (i:=x) (j:=2147483629) (by omega);simp -implicitDefEqProofs[Zv,ZA,Va,m1,m2,d1,m3,m4,d2,JW]
theorem Qa{c:D}{ps:List Pt}(h:Yu c=some (ps.map pD))(hne:ps≠[])(i j:Int):Zk [c,.int i,.int j]=some (pD (cyc ps (i+j))):=by
 have hn:0<(ps.length:Int):=by have:=ag.mpr hne;omega
 have k1:=Ah (i+j) (show(ps.length:Int)≠0 by omega);have k2:=Ag (i+j) hn;have e:=WW h (i:=(i+j)%(ps.length:Int)) (by omega) k2;have d:=JV (i:=i+j) (j:=(ps.length:Int)) hn;have l:=Zgg h;rw[A_]at l;simp -implicitDefEqProofs[Zk,ZA,Wa,l,d,e];rw[Y4]
def Zc1(ps:List Pt):Int->List Pt->Int
 | _,[]=>0
 | k,a::r=>(a.1*(cyc ps (k+1)).2-a.2*(cyc ps (k+1)).1)+Zc1 ps (k+1) r
def Qf(ps:List Pt):Int:=Zc1 ps 0 ps
theorem Zl3{i j:Int}(h1:-1000000<=i)(h2:i<=1000000):YQ (.int i) (.int j)=some (.int (i*j)):=Uh (.inl (by omega))
theorem Zhg{c:D}{ps:List Pt}(h:Yu c=some (ps.map pD))(hne:ps≠[]){a:Pt}(ha:Sm a)(found k:Int)(s4:Sl):
  (Zp (Z9 4 (dFn 3 Zk (Zb (Zd 0) (Zb (Zd 2) (Zb (Zi (.int 1)) Zm)))))
 (Z9 1 (Zg Qy (Zg Yn (Zd 1) (Zg YQ (Zg dIx (Zd 3) (Zi (.int 0))) (Zg dIx (Zd 4) (Zi (.int 1))))) (Zg YQ (Zg dIx (Zd 3) (Zi (.int 1))) (Zg dIx (Zd 4) (Zi (.int 0))))))) [.val c,.val (.int found),.val (.int k),.val (pD a),s4] =
  some (.nx [.val c,.val (.int (found+(a.1*(cyc ps (k+1)).2-a.2*(cyc ps (k+1)).1))),.val (.int k),.val (pD a),.val (pD (cyc ps (k+1)))]):=by
 obtain⟨⟨a1,a2⟩,a3,a4⟩:=ha;have m1:=Zl3 (i:=a.1) (j:=(cyc ps (k+1)).2) a1 a2;have m2:=Zl3 (i:=a.2) (j:=(cyc ps (k+1)).1) a3 a4;have e:=Qa h hne k 1;simp -implicitDefEqProofs[e,m1,m2];omega
theorem Zb0{c:D}{ps:List Pt}(h:Yu c=some (ps.map pD))(hne:ps≠[]):∀(ys:List Pt) (k:Nat) (found:Int) (s2 s3 s4:Sl),All Sm ys->∃ t2 t3 t4,
  U1 (Y7 2 3) (Zp (Z9 4 (dFn 3 Zk (Zb (Zd 0) (Zb (Zd 2) (Zb (Zi (.int 1)) Zm)))))
 (Z9 1 (Zg Qy (Zg Yn (Zd 1) (Zg YQ (Zg dIx (Zd 3) (Zi (.int 0))) (Zg dIx (Zd 4) (Zi (.int 1))))) (Zg YQ (Zg dIx (Zd 3) (Zi (.int 1))) (Zg dIx (Zd 4) (Zi (.int 0)))))))
   (YI k (ys.map pD)) [.val c,.val (.int found),s2,s3,s4]=some (.nx [.val c,.val (.int (found+Zc1 ps k ys)),t2,t3,t4])
 | [],k,found,s2,s3,s4,_=>⟨s2,s3,s4,by simp[YI,U1,Zc1]⟩
 | a::ys,k,found,s2,s3,s4,hs=>by
  have st:=Zhg h hne (hs a A6) found k s4;obtain⟨t2,t3,t4,ih⟩:=Zb0 h hne ys (k+1) (found+(a.1*(cyc ps ((k:Int)+1)).2-a.2*(cyc ps ((k:Int)+1)).1)) (.val (.int k)) (.val (pD a)) (.val (pD (cyc ps ((k:Int)+1)))) fun p hp=>hs p (A3 _ hp);refine⟨t2,t3,t4,?_⟩;simp only[Au,YI,U1,ZcX,Ca,List.set_cons_succ,A5];rw[st];show U1 _ _ _ _=_;rw[ih];simp only[Zc1];rw[Int.add_assoc];rfl
theorem VA{c:D}{ps:List Pt}(h:Yu c=some (ps.map pD))(hne:ps≠[])(hs:All Sm ps):ZN [c]=some (.int (Qf ps)):=by
 obtain⟨t2,t3,t4,e⟩:=Zb0 h hne ps 0 0 .no .no .no hs;unfold ZN ZA Wc;show(Zp _ (Zp _ _) [.val c,.no,.no,.no,.no]).bind _=_;rw[Zz];show(Zp _ _ [.val c,.val (.int 0),.no,.no,.no]).bind _=_;rw[Zz,W7];have e0:QG (Zd 0) [.val c,.val (.int 0),.no,.no,.no]=some (YI 0 (ps.map pD)):=Vz rfl h;rw[e0,A5,e];rw[Bh];rfl
def Yh(ps:List Pt):Int->List Pt->List (Pt×Pt)
 | _,[]=>[]
 | k,a::r=>(a,cyc ps (k+1))::Yh ps (k+1) r
theorem Jl(ps:List Pt):∀(ys:List Pt) (k:Nat),ps.drop k=ys->Yh ps k ys=(List.range ys.length).map fun(j:Nat)=>JR ps (((k+j:Nat)):Int)
 | [],k,_=>rfl
 | a::ys,k,h=>by
  have hk:k<ps.length:=by
   by_cases z:k<ps.length
   ·exact z
   ·rw[ah (by omega)]at h;cases h
  rw[Aq hk]at h;injection h with h1 h2;have ih:=Jl ps ys (k+1) h2;unfold Yh;rw[B_,bg,Au,Bj]
  congr 1
  ·unfold JR;rw[Nat.add_zero,ZO hk,h1]
  ·rw[show((k:Int)+1)=((k+1:Nat):Int) by omega,ih];apply Bb;intro j _;simp only[Function.comp]
   congr 1
   omega
theorem WM{ps:List Pt}(hne:ps≠[]):(Yh ps 0 ps).Perm (Yg ps):=by
 have e:=Jl ps ps 0 rfl;have e':Yh ps 0 ps=(List.range ps.length).map fun(j:Nat)=>JR ps (j:Int):=by
  have:Yh ps ((0:Nat):Int) ps=Yh ps 0 ps:=rfl;rw[<-this,e];apply Bb;intro j _;rw[Nat.zero_add]
 rw[e'];unfold Yg;obtain⟨n,hn⟩:∃ n,ps.length=n+1:=⟨ps.length-1,by have:=ag.mpr hne;omega⟩;rw[hn];have l1:(List.range (n+1)).map (fun(j:Nat)=>JR ps (j:Int))=(List.range n).map (fun(j:Nat)=>JR ps (j:Int))++[JR ps (n:Int)]:=by
  rw[List.range_succ,bi];rfl
 have l2:(List.range (n+1)).map (fun(k:Nat)=>JR ps ((k:Int)-1))=JR ps (n:Int)::(List.range n).map (fun(j:Nat)=>JR ps (j:Int)):=by
  rw[bg,Au,Bj]
  congr 1
  ·unfold JR;rw[<-Y6 ps (((0:Nat):Int)-1),<-Y6 ps (((0:Nat):Int)-1+1),hn]
   congr 2<;>omega
  ·apply Bb;intro j _;simp only[Function.comp]
   congr 1
   omega
 rw[l1,l2];exact Bi
theorem okL{ds:List D}(h:∀ d∈ds,okD d=true/\(YS d).depth<=5):PyData.canLayAll0 (ZU ds)=true/\PyData.depthAll (ZU ds)<=5:=by
 induction ds with
 | nil=>simp[ZU,PyData.canLayAll0,PyData.depthAll]
 | cons d ds ih=>
  obtain⟨h1,h2⟩:=h d A6;obtain⟨i1,i2⟩:=ih fun e he=>h e (A3 _ he);simp[ZU,PyData.canLayAll0,PyData.depthAll,okD.can h1,i1];omega
theorem Zcv{ds:List D}(h:∀ d∈ds,okD d=true/\(YS d).depth<=5):okD (.lst ds)=true/\(YS (.lst ds)).depth<=6:=by
 obtain⟨h1,h2⟩:=okL h;simp[okD,YS,PyData.canLay0,PyData.depth,h1];omega
theorem Zj5{ds:List D}(h:∀ d∈ds,okD d=true/\(YS d).depth<=5):okD (.tup ds)=true/\(YS (.tup ds)).depth<=6:=by
 obtain⟨h1,h2⟩:=okL h;simp[okD,YS,PyData.canLay0,PyData.depth,h1];omega
theorem Zj7(i:Int):okD (.int i)=true/\(YS (.int i)).depth<=5:=⟨rfl,Be _⟩
theorem V4(p:Pt):okD (pD p)=true/\(YS (pD p)).depth<=5:=by
 refine⟨rfl,?_⟩;simp[pD,YS,ZU,PyData.depth,PyData.depthAll]
theorem ZgP(i j:Int):deq (.int i) (.int j)=decide (i=j):=by
 show PyData.eqv (.int i) (.int j)=_;simp only[PyData.eqv];rfl
theorem Wg(p q:Pt):deq (pD p) (pD q)=decide (p=q):=by
 show PyData.eqv (.tuple [.int p.1,.int p.2]) (.tuple [.int q.1,.int q.2])=_;simp only[PyData.eqv,PyData.eqvAll,Bool.and_true];rw[Cc];simp[Prod.ext_iff]
theorem Zkl(i:Int)(ns:List Int):Zm1 (.int i) (.lst (ns.map .int))=some (.bl (decide (i∈ns))):=by
 have h1:okD (.lst (ns.map D.int))=true:=(Zcv fun d hd=>by obtain⟨n,_,rfl⟩:=A8.mp hd;exact Zj7 n).1;have h2:okD (.int i)=true:=rfl;show Option.map D.bl (if(okD (.int i)&&okD (.lst (ns.map D.int)))=true then some ((ns.map D.int).any fun y=>deq y (.int i)) else none)=_;rw[h1,h2,if_pos (by decide)];show some (D.bl _)=_
 congr 2
 rw[Cc,bf,decide_eq_true_eq];constructor
 ·rintro⟨x,hx,q⟩;obtain⟨n,hn,rfl⟩:=A8.mp hx;rw[ZgP]at q;have:=of_decide_eq_true q;subst this;exact hn
 ·intro h;exact⟨.int i,A8.mpr ⟨i,h,rfl⟩,by rw[ZgP];simp⟩
def Zes(a b c d:Pt):Bool:=(onZ a b c||onZ a b d||onZ c d a||onZ c d b)||(decide (Zw a b c*Zw a b d<0)&&decide (Zw c d a*Zw c d b<0))
theorem WH{a b c:Pt}(ha:Sm a)(hb:Sm b)(hc:Sm c):-18446744073709551616<Zw a b c/\Zw a b c<18446744073709551616:=by
 obtain⟨⟨a1,a2⟩,a3,a4⟩:=ha;obtain⟨⟨b1,b2⟩,b3,b4⟩:=hb;obtain⟨⟨c1,c2⟩,c3,c4⟩:=hc;have key:∀ x y:Int,-2000000<=x->x<=2000000->-2000000<=y->y<=2000000->-4000000000000<=x*y/\x*y<=4000000000000:=by
  intro x y h1 h2 h3 h4;have n:(x*y).natAbs<=2000000*2000000:=by
   rw[Int.natAbs_mul];exact Nat.mul_le_mul (by omega) (by omega)
  omega
 have k1:=key (b.1-a.1) (c.2-a.2) (by omega) (by omega) (by omega) (by omega);have k2:=key (b.2-a.2) (c.1-a.1) (by omega) (by omega) (by omega) (by omega);unfold Zw;omega
theorem Zim{a b c d:Pt}(ha:Sm a)(hb:Sm b)(hc:Sm c)(hd:Sm d):Yr [pD a,pD b,pD c,pD d]=some (.bl (Zes a b c d)):=by
 have o1:=Q8 ha hb hc;have o2:=Q8 ha hb hd;have o3:=Q8 hc hd ha;have o4:=Q8 hc hd hb;have t1:=Yf ha hb hc;have t2:=Yf ha hb hd;have t3:=Yf hc hd ha;have t4:=Yf hc hd hb;have m1:=Uh (i:=Zw a b c) (j:=Zw a b d) (.inl (WH ha hb hc));have m2:=Uh (i:=Zw c d a) (j:=Zw c d b) (.inl (WH hc hd ha));unfold Zes;have e1:(QC (Vv (Zo (dFn 3 Yk (Zb (Zd 0) (Zb (Zd 1) (Zb (Zd 2) Zm))))) (Vv (Zo (dFn 3 Yk (Zb (Zd 0) (Zb (Zd 1) (Zb (Zd 3) Zm))))) (Vv (Zo (dFn 3 Yk (Zb (Zd 2) (Zb (Zd 3) (Zb (Zd 0) Zm))))) (Zo (dFn 3 Yk (Zb (Zd 2) (Zb (Zd 3) (Zb (Zd 1) Zm)))))))) (Yc (Zi (.bl true))) ZV) [.val (pD a),.val (pD b),.val (pD c),.val (pD d)] =
   if(onZ a b c||onZ a b d||onZ c d a||onZ c d b)=true then some (.rt (.bl true)) else some (.nx [.val (pD a),.val (pD b),.val (pD c),.val (pD d)]):=by
  cases q1:onZ a b c with
  | true=>rw[q1]at o1;simp -implicitDefEqProofs[o1]
  | false=>
   rw[q1]at o1;cases q2:onZ a b d with
   | true=>rw[q2]at o2;simp -implicitDefEqProofs[o1,o2]
   | false=>
    rw[q2]at o2;cases q3:onZ c d a with
    | true=>rw[q3]at o3;simp -implicitDefEqProofs[o1,o2,o3]
    | false=>
     rw[q3]at o3;cases q4:onZ c d b with
     | true=>rw[q4]at o4;simp -implicitDefEqProofs[o1,o2,o3,o4]
     | false=>rw[q4]at o4;simp -implicitDefEqProofs[o1,o2,o3,o4]
 unfold Yr ZA Wb;show(Zp _ (Zp _ _) [.val (pD a),.val (pD b),.val (pD c),.val (pD d)]).bind _=_;rw[Zz,e1];by_cases ho:(onZ a b c||onZ a b d||onZ c d a||onZ c d b)=true
 ·rw[if_pos ho,ho];rfl
 ·rw[if_neg ho];have ho':(onZ a b c||onZ a b d||onZ c d a||onZ c d b)=false:=by simpa using ho
  rw[ho',Bool.false_or];show(Zp _ _ [.val (pD a),.val (pD b),.val (pD c),.val (pD d)]).bind _=_;by_cases hn:Zw a b c*Zw a b d<0
  ·have:¬ 0<=Zw a b c*Zw a b d:=by omega
   simp -implicitDefEqProofs[t1,t2,t3,t4,m1,m2,this,hn]
  ·have:0<=Zw a b c*Zw a b d:=by omega
   simp -implicitDefEqProofs[t1,t2,m1,this,hn]
theorem Q7{b:DG}{g:DS}{R:Rho->Prop}{bad:D->Bool}{d:D}:∀{xs:List D},(∀ x∈xs,∀ ρ,R ρ->∃ ρ1,b x ρ=some ρ1/\if bad x=true then g ρ1=some (.rt d) else ∃ ρ2,R ρ2/\g ρ1=some (.nx ρ2)) ->
  ∀ ρ,R ρ->if xs.any bad=true then U1 b g xs ρ=some (.rt d) else ∃ ρ2,R ρ2/\U1 b g xs ρ=some (.nx ρ2)
 | [],h,ρ,hr=>by
  rw[if_neg (by simp)];exact⟨ρ,hr,rfl⟩
 | x::xs,h,ρ,hr=>by
  obtain⟨ρ1,e1,h1⟩:=h x A6 ρ hr;have ih:=Q7 (xs:=xs) (b:=b) (g:=g) (R:=R) (bad:=bad) (d:=d) fun y hy=>h y (A3 _ hy);rw[List.any_cons];by_cases hb:bad x=true
  ·rw[if_pos hb]at h1;rw[hb,Bool.true_or,if_pos rfl];unfold U1;rw[e1,A5,h1]
  ·rw[if_neg hb]at h1;obtain⟨ρ2,r2,h2⟩:=h1;have hb':bad x=false:=by simpa using hb
   rw[hb',Bool.false_or];have e:U1 b g (x::xs) ρ=U1 b g xs ρ2:=by
    conv=>lhs;unfold U1
    rw[e1,A5,h2]
   rw[e];exact ih ρ2 r2
def Je(ps:List Pt):List Int:=(List.range ps.length).map fun(k:Nat)=>Zw (cyc ps k) (cyc ps ((k:Int)+1)) (cyc ps ((k:Int)+2))
theorem Zjt{c:D}{ps:List Pt}(h:Yu c=some (ps.map pD))(hne:ps≠[])(hps:All Sm ps){a:Pt}(ha:Sm a)(acc:List Int)(hl:acc.length<1000)(k:Int):
  (ZeI 1 (dFn 3 ZM (Zb (Zd 3) (Zb (dFn 3 Zk (Zb (Zd 0) (Zb (Zd 2) (Zb (Zi (.int 1)) Zm)))) (Zb (dFn 3 Zk (Zb (Zd 0) (Zb (Zd 2) (Zb (Zi (.int 2)) Zm)))) Zm))))) [.val c,.own (acc.map .int),.val (.int k),.val (pD a)] =
  some (.nx [.val c,.own ((acc++[Zw a (cyc ps (k+1)) (cyc ps (k+2))]).map .int),.val (.int k),.val (pD a)]):=by
 have e1:=Qa h hne k 1;have e2:=Qa h hne k 2;have e3:=Yf ha (hps _ (Y5 hne (k+1))) (hps _ (Y5 hne (k+2)));have hl':acc.length<lim:=by unfold lim;omega
 unfold ZeI;simp -implicitDefEqProofs[e1,e2,e3,hl']
theorem Zfd{c:D}{ps:List Pt}(h:Yu c=some (ps.map pD))(hne:ps≠[])(hps:All Sm ps):∀(ys:List Pt) (k:Nat) (acc:List Int) (s2 s3:Sl),All Sm ys->ps.drop k=ys->acc.length+ys.length<=1000->∃ t2 t3,
  U1 (Y7 2 3) (ZeI 1 (dFn 3 ZM (Zb (Zd 3) (Zb (dFn 3 Zk (Zb (Zd 0) (Zb (Zd 2) (Zb (Zi (.int 1)) Zm)))) (Zb (dFn 3 Zk (Zb (Zd 0) (Zb (Zd 2) (Zb (Zi (.int 2)) Zm)))) Zm)))))
   (YI k (ys.map pD)) [.val c,.own (acc.map .int),s2,s3]=some (.nx [.val c,.own ((acc++(List.range ys.length).map fun(j:Nat)=>Zw (cyc ps ((k+j:Nat):Int)) (cyc ps (((k+j:Nat):Int)+1)) (cyc ps (((k+j:Nat):Int)+2))).map .int),t2,t3])
 | [],k,acc,s2,s3,_,_,_=>⟨s2,s3,by simp[YI,U1]⟩
 | a::ys,k,acc,s2,s3,hs,hdr,hl=>by
  have hk:k<ps.length:=by
   by_cases z:k<ps.length
   ·exact z
   ·rw[ah (by omega)]at hdr;cases hdr
  rw[Aq hk]at hdr;injection hdr with h1 h2;have st:=Zjt h hne hps (hs a A6) acc (by simp at hl;omega) k;obtain⟨t2,t3,ih⟩:=Zfd h hne hps ys (k+1) (acc++[Zw a (cyc ps ((k:Int)+1)) (cyc ps ((k:Int)+2))]) (.val (.int k)) (.val (pD a)) (fun p hp=>hs p (A3 _ hp)) h2 (by simp at hl ⊢;omega);refine⟨t2,t3,?_⟩;simp only[Au,YI,U1,ZcX,Ca,List.set_cons_succ,A5];rw[st];show U1 _ _ _ _=_;rw[ih]
  congr 5
  rw[Bz,B_,bg,Au,Bj];refine congrArg (fun z=>List.map D.int (acc++z)) ?_;rw[List.singleton_append]
  congr 1
  ·rw[<-h1,<-ZO hk,Nat.add_zero]
  ·apply Bb;intro j _;simp only[Function.comp];have:((k+1+j:Nat):Int)=((k+(j+1):Nat):Int):=by omega
   rw[this]
theorem Zgw{c:D}{ps:List Pt}(h:Yu c=some (ps.map pD))(hne:ps≠[])(hps:All Sm ps)(hl:ps.length<=1000):YL [c]=some (.lst ((Je ps).map .int)):=by
 obtain⟨t2,t3,e⟩:=Zfd h hne hps ps 0 [] .no .no hps rfl (by simpa using hl);unfold YL ZA U7;show(Zp _ (Zp _ _) [.val c,.no,.no,.no]).bind _=_;rw[Zz];have e0:Up 1 Zm [.val c,.no,.no,.no]=some (.nx [.val c,.own [],.no,.no]):=by
  unfold Up;simp -implicitDefEqProofs
 rw[e0];show(Zp _ _ [.val c,.own [],.no,.no]).bind _=_;rw[Zz,W7];have e1:QG (Zd 0) [.val c,.own [],.no,.no]=some (YI 0 (ps.map pD)):=Vz rfl h;rw[e1,A5];have e':=e;simp only[List.map_nil,List.nil_append,Nat.zero_add]at e';rw[e'];show(Zk1 1 (Yc (Zd 1)) _).bind _=_;unfold Zk1 L3.rel;simp -implicitDefEqProofs;unfold Je;simp
def Zev(p:Pt):List Int:=[p.1,p.2]
theorem Zh9{p q:Pt}(h:Zev p=Zev q):p=q:=by
 unfold Zev at h;injection h with h1 h2;injection h2 with h2 _;exact Bw h1 h2
theorem WV:∀(ps:List Pt),keysOf (ps.map pD)=some (ps.map Zev)
 | []=>rfl
 | p::ps=>by
  show(Q6 [.int p.1,.int p.2]).bind (fun k=>(keysOf (ps.map pD)).map (k::·))=_;rw[WV ps];rfl
theorem ZlX(ks:List (List Int)):(nubI ks).length<ks.length ↔ ¬ ks.Nodup:=by
 have le:∀ ks:List (List Int),(nubI ks).length<=ks.length:=by
  intro ks
  induction ks with
  | nil=>exact A7 _
  | cons k r ih=>
   unfold nubI;split
   ·simp;omega
   ·simp;omega
 induction ks with
 | nil=>simp[nubI]
 | cons k r ih=>
  have l:=le r;unfold nubI;by_cases c:k∈r
  ·rw[if_pos c];simp[c];omega
  ·rw[if_neg c];simp[c,ih]
theorem ZaC(ps:List Pt):(ps.map Zev).Nodup ↔ ps.Nodup:=by
 induction ps with
 | nil=>simp
 | cons p ps ih=>
  rw[Au,ae,ae,ih];have:Zev p∈ps.map Zev ↔ p∈ps:=by
   rw[A8];exact⟨fun⟨q,hq,e⟩=>Zh9 e ▸ hq,fun h=>⟨p,h,rfl⟩⟩
  rw[this]
theorem Zh6{c:D}{ps:List Pt}(h:Yu c=some (ps.map pD))(hl:ps.length<=70):dLenSet c=some (.int (nubI (ps.map Zev)).length):=by
 unfold dLenSet;rw[h,A5,WV,A5,if_pos (by simpa using hl)]
def ZiG(ps:List Pt)(i j:Int):Bool:=!decide ((j+1)%(ps.length:Int)=i)&&Zes (cyc ps i) (cyc ps (i+1)) (cyc ps j) (cyc ps (j+1))
def Zca(ps:List Pt)(i:Nat):Bool:=(List.range (ps.length-(i+2))).any fun j=>ZiG ps i ((i+2+j:Nat):Int)
def badAny(ps:List Pt):Bool:=(List.range ps.length).any fun i=>Zca ps i
def Qt(ps:List Pt):Bool:=decide ps.Nodup&&!decide (0∈Je ps)&&!badAny ps
theorem Zkm{c:D}{ps:List Pt}(h:Yu c=some (ps.map pD))(hne:ps≠[])(hps:All Sm ps){i j:Nat}(hi:i<ps.length)(hj:j<ps.length)(s4 s5:Sl):
  if ZiG ps i j=true then(QC (Zo (Zg Qi (Zg Q1 (Zg Yn (Zd 3) (Zi (.int 1))) (Zd 1)) (Zd 2))) (Zp (Z9 4 (Zg dIx (Zd 0) (Zd 3)))
 (Zp (Z9 5 (dFn 3 Zk (Zb (Zd 0) (Zb (Zd 3) (Zb (Zi (.int 1)) Zm)))))
 (QC (Zo (dFn 4 Yr (Zb (Zg dIx (Zd 0) (Zd 2)) (Zb (dFn 3 Zk (Zb (Zd 0) (Zb (Zd 2) (Zb (Zi (.int 1)) Zm)))) (Zb (Zd 4) (Zb (Zd 5) Zm)))))) (Yc (Zi (.bl false))) ZV))) ZV) [.val c,.val (.int ps.length),.val (.int i),.val (.int j),s4,s5]=some (.rt (.bl false))
  else ∃ t4 t5,(QC (Zo (Zg Qi (Zg Q1 (Zg Yn (Zd 3) (Zi (.int 1))) (Zd 1)) (Zd 2))) (Zp (Z9 4 (Zg dIx (Zd 0) (Zd 3)))
 (Zp (Z9 5 (dFn 3 Zk (Zb (Zd 0) (Zb (Zd 3) (Zb (Zi (.int 1)) Zm)))))
 (QC (Zo (dFn 4 Yr (Zb (Zg dIx (Zd 0) (Zd 2)) (Zb (dFn 3 Zk (Zb (Zd 0) (Zb (Zd 2) (Zb (Zi (.int 1)) Zm)))) (Zb (Zd 4) (Zb (Zd 5) Zm)))))) (Yc (Zi (.bl false))) ZV))) ZV) [.val c,.val (.int ps.length),.val (.int i),.val (.int j),s4,s5]=some (.nx [.val c,.val (.int ps.length),.val (.int i),.val (.int j),t4,t5]):=by
 have hn:0<(ps.length:Int):=by omega
 have d:=JV (i:=(j:Int)+1) (j:=(ps.length:Int)) hn;have x1:=WW h (i:=(j:Int)) (by omega) (by omega);have x2:=WW h (i:=(i:Int)) (by omega) (by omega);have n1:=Qa h hne j 1;have n2:=Qa h hne i 1;have m:=Zim (hps _ (Y5 hne (i:Int))) (hps _ (Y5 hne ((i:Int)+1))) (hps _ (Y5 hne (j:Int))) (hps _ (Y5 hne ((j:Int)+1)));unfold ZiG;by_cases c1:((j:Int)+1)%(ps.length:Int)=i
 ·rw[if_neg (by simp[c1])];refine⟨s4,s5,?_⟩;simp -implicitDefEqProofs[d,c1]
 ·cases hm:Zes (cyc ps i) (cyc ps ((i:Int)+1)) (cyc ps j) (cyc ps ((j:Int)+1)) with
  | true=>
   rw[hm]at m;rw[if_pos (by simp[c1])];simp -implicitDefEqProofs[d,c1,x1,x2,n1,n2,m]
  | false=>
   rw[hm]at m;rw[if_neg (by simp)];refine⟨.val (pD (cyc ps j)),.val (pD (cyc ps ((j:Int)+1))),?_⟩;simp -implicitDefEqProofs[d,c1,x1,x2,n1,n2,m]
def igB:DS:=(QC (Zo (Zg Qi (Zg Q1 (Zg Yn (Zd 3) (Zi (.int 1))) (Zd 1)) (Zd 2))) (Zp (Z9 4 (Zg dIx (Zd 0) (Zd 3)))
 (Zp (Z9 5 (dFn 3 Zk (Zb (Zd 0) (Zb (Zd 3) (Zb (Zi (.int 1)) Zm)))))
 (QC (Zo (dFn 4 Yr (Zb (Zg dIx (Zd 0) (Zd 2)) (Zb (dFn 3 Zk (Zb (Zd 0) (Zb (Zd 2) (Zb (Zi (.int 1)) Zm)))) (Zb (Zd 4) (Zb (Zd 5) Zm)))))) (Yc (Zi (.bl false))) ZV))) ZV)
theorem Zif{c:D}{ps:List Pt}(h:Yu c=some (ps.map pD))(hne:ps≠[])(hps:All Sm ps)(hl:ps.length<=1000){i:Nat}(hi:i<ps.length)(s3 s4 s5:Sl):
  if Zca ps i=true then(W8 (Zgl (Zg Yn (Zd 2) (Zi (.int 2))) (Zd 1)) (ZC 3) igB) [.val c,.val (.int ps.length),.val (.int i),s3,s4,s5]=some (.rt (.bl false))
  else ∃ t3 t4 t5,(W8 (Zgl (Zg Yn (Zd 2) (Zi (.int 2))) (Zd 1)) (ZC 3) igB) [.val c,.val (.int ps.length),.val (.int i),s3,s4,s5]=some (.nx [.val c,.val (.int ps.length),.val (.int i),t3,t4,t5]):=by
 have e0:Zgl (Zg Yn (Zd 2) (Zi (.int 2))) (Zd 1) [.val c,.val (.int ps.length),.val (.int i),s3,s4,s5]=some (QB ((i:Int)+2) (ps.length-(i+2))):=by
  have r1:=YE (n:=(i:Int)+2) (by omega) (by omega);have r2:=YE (n:=(ps.length:Int)) (by omega) (by omega);have e:((ps.length:Int)-((i:Int)+2)).toNat=ps.length-(i+2):=by omega
  simp -implicitDefEqProofs[r1,r2,e]
 rw[W7,e0,A5];have hx:∀ x∈QB ((i:Int)+2) (ps.length-(i+2)),∃ j:Nat,j<ps.length/\x=.int j/\i+2<=j:=fun x hx=>by
  unfold QB at hx;obtain⟨k,hk,rfl⟩:=A8.mp hx;have:=Ae.mp hk;exact⟨i+2+k,by omega,rfl,by omega⟩
 have S:=Q7 (b:=ZC 3) (g:=igB) (R:=fun ρ=>∃ s3 s4 s5,ρ=[.val c,.val (.int ps.length),.val (.int i),s3,s4,s5]) (bad:=fun x=>match x with | .int j=>ZiG ps i j | _=>false) (d:=.bl false) (xs:=QB ((i:Int)+2) (ps.length-(i+2)))
  (fun x hx' ρ hr=>by
   obtain⟨s3,s4,s5,rfl⟩:=hr;obtain⟨j,hj,rfl,_⟩:=hx x hx';refine⟨_,rfl,?_⟩;have b:=Zkm h hne hps hi hj s4 s5;by_cases hb:ZiG ps i j=true
   ·rw[if_pos hb]at b ⊢;exact b
   ·rw[if_neg hb]at b ⊢;obtain⟨t4,t5,b⟩:=b;exact⟨_,⟨_,_,_,rfl⟩,b⟩) _ ⟨s3,s4,s5,rfl⟩
 have ea:(QB ((i:Int)+2) (ps.length-(i+2))).any (fun x=>match x with | .int j=>ZiG ps i j | _=>false)=Zca ps i:=by
  unfold QB Zca;rw[List.any_map];rfl
 rw[ea]at S;by_cases hb:Zca ps i=true
 ·rw[if_pos hb]at S ⊢;exact S
 ·rw[if_neg hb]at S ⊢;obtain⟨ρ2,⟨t3,t4,t5,rfl⟩,e⟩:=S;exact⟨t3,t4,t5,e⟩
theorem Zie{c:D}{ps:List Pt}(h:Yu c=some (ps.map pD))(hne:ps≠[])(hps:All Sm ps)(hl:ps.length<=1000):
  if badAny ps=true then(W8 (Ww (Zd 1)) (ZC 2) (W8 (Zgl (Zg Yn (Zd 2) (Zi (.int 2))) (Zd 1)) (ZC 3) igB)) [.val c,.val (.int ps.length),.no,.no,.no,.no]=some (.rt (.bl false))
  else ∃ ρ,(W8 (Ww (Zd 1)) (ZC 2) (W8 (Zgl (Zg Yn (Zd 2) (Zi (.int 2))) (Zd 1)) (ZC 3) igB)) [.val c,.val (.int ps.length),.no,.no,.no,.no]=some (.nx ρ):=by
 have e0:Ww (Zd 1) [.val c,.val (.int ps.length),.no,.no,.no,.no]=some (QB 0 ps.length):=by
  have r2:=YE (n:=(ps.length:Int)) (by omega) (by omega);simp -implicitDefEqProofs[r2]
 rw[W7,e0,A5];have S:=Q7 (b:=ZC 2) (g:=(W8 (Zgl (Zg Yn (Zd 2) (Zi (.int 2))) (Zd 1)) (ZC 3) igB)) (R:=fun ρ=>∃ s2 s3 s4 s5,ρ=[.val c,.val (.int ps.length),s2,s3,s4,s5]) (bad:=fun x=>match x with | .int i=>Zca ps i.toNat | _=>false) (d:=.bl false) (xs:=QB 0 ps.length)
  (fun x hx' ρ hr=>by
   obtain⟨s2,s3,s4,s5,rfl⟩:=hr;unfold QB at hx';obtain⟨i,hi,rfl⟩:=A8.mp hx';have hi:=Ae.mp hi;have e:(0:Int)+(i:Int)=i:=by omega
   rw[e];refine⟨_,rfl,?_⟩;have b:=Zif h hne hps hl hi s3 s4 s5;show if Zca ps ((i:Int).toNat)=true then _ else _;rw[bo];by_cases hb:Zca ps i=true
   ·rw[if_pos hb]at b ⊢;exact b
   ·rw[if_neg hb]at b ⊢;obtain⟨t3,t4,t5,b⟩:=b;exact⟨_,⟨_,_,_,_,rfl⟩,b⟩) _ ⟨.no,.no,.no,.no,rfl⟩
 have ea:(QB 0 ps.length).any (fun x=>match x with | .int i=>Zca ps i.toNat | _=>false)=badAny ps:=by
  unfold QB badAny;rw[List.any_map];have:((fun x=>match x with | .int i=>Zca ps i.toNat | _=>false) ∘ fun(k:Nat)=>D.int (0+(k:Int)))=fun i=>Zca ps i:=by
   funext k
   show Zca ps ((0+(k:Int)).toNat)=Zca ps k;rw[Bh,bo]
  rw[this]
 rw[ea]at S;by_cases hb:badAny ps=true
 ·rw[if_pos hb]at S ⊢;exact S
 ·rw[if_neg hb]at S ⊢;obtain⟨ρ2,_,e⟩:=S;exact⟨ρ2,e⟩
theorem ZdO{c:D}{ps:List Pt}(h:Yu c=some (ps.map pD))(hne:ps≠[])(hps:All Sm ps)(hl:ps.length<=70):ZZ [c]=some (.bl (Qt ps)):=by
 have l:=Zgg h;rw[A_]at l;have ls:=Zh6 h hl;have tn:=Zgw h hne hps (by omega);have ii:=Zkl 0 (Je ps);have nl:=ZlX (ps.map Zev);rw[A_,ZaC]at nl;have O:=Zie h hne hps (by omega);unfold ZZ ZA JZ;show(Zp _ (Zp _ (Zp _ _)) [.val c,.no,.no,.no,.no,.no]).bind _=_;have e1:Z9 1 (ZI Q9 (Zb (Zd 0) Zm)) [.val c,.no,.no,.no,.no,.no]=some (.nx [.val c,.val (.int ps.length),.no,.no,.no,.no]):=by
  simp -implicitDefEqProofs[l]
 rw[Zz,e1];show(Zp _ (Zp _ _) [.val c,.val (.int ps.length),.no,.no,.no,.no]).bind _=_;have e2:(QC (Vv (Zo (Zg dLt (Jz dLenSet (Zd 0)) (Zd 1))) (Zo (Zg Zm1 (Zi (.int 0)) (dFn 1 YL (Zb (Zd 0) Zm))))) (Yc (Zi (.bl false))) ZV) [.val c,.val (.int ps.length),.no,.no,.no,.no] =
   if(decide ps.Nodup&&!decide (0∈Je ps))=true then some (.nx [.val c,.val (.int ps.length),.no,.no,.no,.no]) else some (.rt (.bl false)):=by
  by_cases hnd:ps.Nodup
  ·have q:¬ (nubI (ps.map Zev)).length<ps.length:=fun z=>nl.mp z hnd;have q':¬ (((nubI (ps.map Zev)).length:Nat):Int)<(ps.length:Int):=by omega
   by_cases h0:0∈Je ps
   ·simp -implicitDefEqProofs[ls,tn,ii,q',hnd,h0,q]
   ·simp -implicitDefEqProofs[ls,tn,ii,q',hnd,h0,q]
  ·have q:(nubI (ps.map Zev)).length<ps.length:=nl.mpr hnd;have q':(((nubI (ps.map Zev)).length:Nat):Int)<(ps.length:Int):=by omega
   simp -implicitDefEqProofs[ls,tn,ii,q',hnd,q]
 rw[Zz,e2];unfold Qt;by_cases hg:(decide ps.Nodup&&!decide (0∈Je ps))=true
 ·rw[if_pos hg,hg,Bool.true_and];show(Zp _ _ [.val c,.val (.int ps.length),.no,.no,.no,.no]).bind _=_;rw[Zz];by_cases hb:badAny ps=true
  ·rw[if_pos hb]at O;have O':(W8 (Ww (Zd 1)) (ZC 2) (W8 (Zgl (Zg Yn (Zd 2) (Zi (.int 2))) (Zd 1)) (ZC 3) igB)) [.val c,.val (.int ps.length),.no,.no,.no,.no]=some (.rt (.bl false)):=O;unfold igB at O';rw[O',hb];rfl
  ·rw[if_neg hb]at O;obtain⟨ρ,O'⟩:=O;unfold igB at O';have hb':badAny ps=false:=by simpa using hb
   rw[O',hb'];rfl
 ·rw[if_neg hg];have hg':(decide ps.Nodup&&!decide (0∈Je ps))=false:=by simpa using hg
  rw[hg',Bool.false_and];rfl
def Zjy(n wide:Int)(k:Nat):Pt:=(JW n (2*(k:Int))%wide,JW n (2*(k:Int)+1)%wide)
def YJ(n wide:Int)(many:Nat):List Pt:=(List.range many).map (Zjy n wide)
theorem Zef(n wide:Int)(many:Nat):(YJ n wide many).length=many:=by simp[YJ]
theorem Zee{n wide:Int}{many:Nat}(hw:0<wide):All (fun p=>(0<=p.1/\p.1<wide)/\(0<=p.2/\p.2<wide)) (YJ n wide many):=fun p hp=>by
 obtain⟨k,_,rfl⟩:=A8.mp hp;exact⟨⟨Ah _ (by omega),Ag _ hw⟩,Ah _ (by omega),Ag _ hw⟩
theorem ZhG{n wide:Int}(hw:0<wide)(many:Nat):ZW (ZC 0) ZH (QD (Zb (Zg Q1 (dFn 2 Zv (Zb (Zd 2) (Zb (Zg YQ (Zi (.int 2)) (Zd 0)) Zm))) (Zd 1)) (Zb (Zg Q1 (dFn 2 Zv (Zb (Zd 2) (Zb (Zg Yn (Zg YQ (Zi (.int 2)) (Zd 0)) (Zi (.int 1))) Zm))) (Zd 1)) Zm))) (QB 0 many) (.no::[.val (.int wide),.val (.int n)]) =
  some ((QB 0 many).map fun x=>match x with | .int k=>pD (Zjy n wide k.toNat) | _=>.non):=by
 refine Jc fun x hx=>?_;unfold QB at hx;obtain⟨k,hk,rfl⟩:=A8.mp hx;have m:=Uh (i:=2) (j:=(k:Int)) (.inl (by omega));have e1:=UK n (2*(k:Int));have e2:=UK n (2*(k:Int)+1);have d:=fun z=>JV (i:=z) (j:=wide) hw;simp only[Bh];simp -implicitDefEqProofs[m,e1,e2,d,pD,Zjy]
theorem Zgx{n wide:Int}(hw:0<wide){many:Nat}(hm:many<=1000):YM [.int n,.int wide,.int many]=some (.lst ((YJ n wide many).map pD)):=by
 have r:=YE (n:=(many:Int)) (by omega) (by omega);have hl:(QB 0 many).length<=lim:=by rw[Vx];exact Z0 hm
 have cl:=ZhG (n:=n) hw many;simp -implicitDefEqProofs[YM,ZA,U8,r,hl,Qj,cl];simp[YJ,QB]
def ltZ(p q:Pt):Bool:=decide (p.1<q.1\/(p.1=q.1/\p.2<q.2))
theorem Zl4(p q:Pt):ltD (pD p) (pD q)=ltZ p q:=by
 show HT.lexLt [p.1,p.2] [q.1,q.2]=_;unfold ltZ;rw[HT.lexLt_cons,HT.lexLt_cons,HT.lexLt_nil_nil];by_cases h1:p.1=q.1
 ·rw[if_pos h1];by_cases h2:p.2=q.2
  ·rw[if_pos h2];simp[h1,h2]
  ·rw[if_neg h2];simp[h1]
 ·rw[if_neg h1];simp[h1]
def ZaZ:Pt->List Pt->Pt
 | b,[]=>b
 | b,x::xs=>ZaZ (if ltZ x b then x else b) xs
theorem ZcW:∀(xs:List Pt) (b:Pt),Ze4 ltD (pD b) (xs.map pD)=pD (ZaZ b xs)
 | [],b=>rfl
 | x::xs,b=>by
  simp only[Au,Ze4,ZaZ,Zl4];cases ltZ x b
  ·exact ZcW xs b
  ·exact ZcW xs x
noncomputable def YZ:List Pt->Pt
 | []=>(0,0)
 | b::xs=>ZaZ b xs
theorem ZbX:∀(xs:List Pt) (b:Pt),ZaZ b xs∈b::xs
 | [],b=>A0.mpr rfl
 | x::xs,b=>by
  unfold ZaZ;have:=ZbX xs (if ltZ x b then x else b);rcases A4.mp this with h | h
  ·rw[h];cases ltZ x b
   ·simp
   ·simp
  ·exact A3 _ (A3 _ h)
theorem Y9{ps:List Pt}(h:ps≠[]):YZ ps∈ps:=by
 cases ps with
 | nil=>exact absurd rfl h
 | cons b xs=>exact ZbX xs b
theorem ZeO(ps:List Pt):Zab (ps.map pD)=true:=by
 unfold Zab;rw[b6];right;rw[aa];intro d hd;obtain⟨p,_,rfl⟩:=A8.mp hd;rfl
theorem ZdE{ps:List Pt}(h:ps≠[]){c:D}(hc:Yu c=some (ps.map pD)):Wx [c]=some (pD (YZ ps)):=by
 cases ps with
 | nil=>exact absurd rfl h
 | cons b xs=>
  show(Yu c).bind _=_;rw[hc,A5];show(if Zab (pD b::xs.map pD)=true then some (Ze4 ltD (pD b) (xs.map pD)) else none)=_;rw[if_pos (by have:=ZeO (b::xs);exact this),ZcW];rfl
noncomputable def Qm(m:Pt):List Pt->Nat
 | []=>0
 | x::xs=>if x=m then 0 else Qm m xs+1
theorem Wd{m:Pt}:∀{ps:List Pt},m∈ps->UI (pD m) (ps.map pD)=some (Qm m ps)
 | [],h=>by cases h
 | x::xs,h=>by
  simp only[Au,UI,Qm,Wg];by_cases e:x=m
  ·rw[if_pos (by simp[e]),if_pos e]
  ·rw[if_neg (by simp[e]),if_neg e];have:m∈xs:=(A4.mp h).resolve_left fun z=>e z.symm;rw[Wd this];rfl
theorem UZ{m:Pt}:∀{ps:List Pt},m∈ps->Qm m ps<ps.length/\ps[Qm m ps]?=some m
 | [],h=>by cases h
 | x::xs,h=>by
  unfold Qm;by_cases e:x=m
  ·rw[if_pos e];simp[e]
  ·rw[if_neg e];have:m∈xs:=(A4.mp h).resolve_left fun z=>e z.symm;obtain⟨h1,h2⟩:=UZ this;exact⟨by simp;exact h1,by rw[Bf];exact h2⟩
theorem ZcG{ps:List Pt}{m:Pt}(h:m∈ps)(hl:ps.length<=1000):ZbM (.lst (ps.map pD)) (pD m)=some (.int (Qm m ps:Nat)):=by
 have h1:okD (.lst (ps.map pD))=true:=(Zcv fun d hd=>by obtain⟨n,_,rfl⟩:=A8.mp hd;exact V4 n).1;have h2:okD (pD m)=true:=rfl;have h3:(ps.map pD).length<=lim:=by rw[A_];exact Z0 hl
 show(if(okD (pD m)&&okD (.lst (ps.map pD))&&decide ((ps.map pD).length<=lim))=true then(UI (pD m) (ps.map pD)).map fun(j:Nat)=>D.int (j:Int) else none)=_;rw[h1,h2,if_pos (by simpa using h3),Wd h];rfl
noncomputable def YK(l:List Pt):List Pt:=l.drop (Qm (YZ l) l)++l.take (Qm (YZ l) l)
def Y0(ps:List Pt):List Pt:=YK (if Qf ps<0 then ps.reverse else ps)
theorem ZaS{α:Type}(xs:List α)(k:Nat)(h:k<=xs.length):cutD xs (some (k:Int)) none=xs.drop k:=by
 unfold L3.cutD;rw[HT.sIx_nat,HT.sIx_none,Nat.min_eq_left h,List.take_of_length_le (by simp)]
theorem ZgU{α:Type}(xs:List α)(k:Nat)(h:k<=xs.length):cutD xs none (some (k:Int))=xs.take k:=by
 unfold L3.cutD;rw[HT.sIx_nat,HT.sIx_none,Nat.min_eq_left h];simp
theorem WP{l:List Pt}(hne:l≠[])(hl:l.length<=1000)(c:D):(Zp (Z9 2 (Zg ZbM (Zd 1) (ZI Wx (Zb (Zd 1) Zm))))
 (Yc (ZI YC (Zb (Zg Yn (dSl (Zd 1) (UA (Zd 2)) UB) (dSl (Zd 1) UB (UA (Zd 2)))) Zm)))) [.val c,.val (.lst (l.map pD)),.no]=some (.rt (.tup ((YK l).map pD))):=by
 have m:=ZdE hne (c:=.lst (l.map pD)) rfl;have i:=ZcG (Y9 hne) hl;obtain⟨k1,_⟩:=UZ (Y9 hne);have c1:=ZaS (l.map pD) (Qm (YZ l) l) (by simp;omega);have c2:=ZgU (l.map pD) (Qm (YZ l) l) (by simp;omega);have s1:∀ lo hi,Zk0 lo hi (.lst (l.map pD))=some (.lst (cutD (l.map pD) lo hi)):=fun _ _=>rfl;have ad:Yn (.lst ((l.map pD).drop (Qm (YZ l) l))) (.lst ((l.map pD).take (Qm (YZ l) l)))=some (.lst ((YK l).map pD)):=by
  show(if _ then _ else _)=_;rw[if_pos (by simp;exact Z0 (by omega))];unfold YK;rw[bi,List.map_drop,List.map_take]
 have e1:Z9 2 (Zg ZbM (Zd 1) (ZI Wx (Zb (Zd 1) Zm))) [.val c,.val (.lst (l.map pD)),.no]=some (.nx [.val c,.val (.lst (l.map pD)),.val (.int (Qm (YZ l) l:Nat))]):=by
  simp -implicitDefEqProofs[m,i]
 rw[Zz,e1];show Yc _ [.val c,.val (.lst (l.map pD)),.val (.int (Qm (YZ l) l:Nat))]=_;have e2:(Zg Yn (dSl (Zd 1) (UA (Zd 2)) UB) (dSl (Zd 1) UB (UA (Zd 2)))) [.val c,.val (.lst (l.map pD)),.val (.int (Qm (YZ l) l:Nat))]=some (.lst ((YK l).map pD)):=by
  simp only[Qg,ZkB,ZdU,Zcx,Zcy,Bf,be,A5,s1,c1,c2,ad]
 rw[W6,JB,Uq,e2];rfl
theorem Zgy{c:D}{ps:List Pt}(h:Yu c=some (ps.map pD))(hne:ps≠[])(hps:All Sm ps)(hl:ps.length<=1000):ZS [c]=some (.tup ((Y0 ps).map pD)):=by
 have l1:JA [c]=some (.lst (ps.map pD)):=by cases c<;>first | (cases h;rfl) | cases h
 have a:=VA (c:=.lst (ps.map pD)) rfl hne hps;unfold ZS ZA Jw Y0;show(Zp _ (Zp _ (Zp _ _)) [.val c,.no,.no]).bind _=_;have e1:Z9 1 (ZI JA (Zb (Zd 0) Zm)) [.val c,.no,.no]=some (.nx [.val c,.val (.lst (ps.map pD)),.no]):=by
  simp -implicitDefEqProofs[l1]
 rw[Zz,e1];show(Zp _ (Zp _ _) [.val c,.val (.lst (ps.map pD)),.no]).bind _=_;rw[Zz];by_cases ha:Qf ps<0
 ·have e2:(QC (Zo (Zg dLt (dFn 1 ZN (Zb (Zd 1) Zm)) (Zi (.int 0)))) (Z9 1 (ZmD (Zd 1))) ZV) [.val c,.val (.lst (ps.map pD)),.no]=some (.nx [.val c,.val (.lst (ps.reverse.map pD)),.no]):=by
   simp -implicitDefEqProofs[a,ha]
  rw[e2,if_pos ha];show(Zp _ _ [.val c,.val (.lst (ps.reverse.map pD)),.no]).bind _=_;rw[WP (by simpa using hne) (by simpa using hl)];rfl
 ·have e2:(QC (Zo (Zg dLt (dFn 1 ZN (Zb (Zd 1) Zm)) (Zi (.int 0)))) (Z9 1 (ZmD (Zd 1))) ZV) [.val c,.val (.lst (ps.map pD)),.no]=some (.nx [.val c,.val (.lst (ps.map pD)),.no]):=by
   simp -implicitDefEqProofs[a,ha]
  rw[e2,if_neg ha];show(Zp _ _ [.val c,.val (.lst (ps.map pD)),.no]).bind _=_;rw[WP hne hl];rfl
theorem VU(l:List Pt):(YK l).Perm l:=by
 unfold YK;exact Bi.trans (by rw[B1])
theorem ZcH(ps:List Pt):(Y0 ps).Perm ps:=by
 unfold Y0;split
 ·exact(VU _).trans (List.reverse_perm ps)
 ·exact VU _
def ZcL(ps:List Pt):Int->List Pt->List Pt
 | _,[]=>[]
 | k,a::r=>if Zw (cyc ps (k-1)) a (cyc ps (k+1))=0 then ZcL ps (k+1) r else a::ZcL ps (k+1) r
noncomputable def walk:Pt->List Pt->Pt->List Pt
 | _,[],_=>[]
 | p,[a],n=>if Zw p a n=0 then[] else[a]
 | p,a::b::r,n=>if Zw p a b=0 then walk a (b::r) n else a::walk a (b::r) n
def UV(ps:List Pt):List Pt:=ZcL ps 0 ps
theorem Zdc:∀(xs:List Pt) (p y n:Pt) (ys:List Pt),walk p (xs++y::ys) n=walk p xs y++walk ((p::xs).getLast (by simp)) (y::ys) n
 | [],p,y,n,ys=>rfl
 | [a],p,y,n,ys=>by
  show walk p (a::y::ys) n=_;simp only[walk,List.getLast_cons_cons,List.getLast_singleton];split<;>rfl
 | a::b::xs,p,y,n,ys=>by
  have ih:=Zdc (b::xs) a y n ys;show walk p (a::b::(xs++y::ys)) n=_;have e:((p::a::b::xs).getLast (by simp))=((a::b::xs).getLast (by simp)):=List.getLast_cons_cons ..;rw[e];simp only[walk];simp only[B3]at ih;split
  ·rw[ih]
  ·rw[ih];rfl
theorem ZbC(ps:List Pt):∀(ys:List Pt) (k:Nat),ps.drop k=ys->ZcL ps k ys=walk (cyc ps ((k:Int)-1)) ys (cyc ps 0)
 | [],k,_=>rfl
 | [a],k,h=>by
  have hk:k+1=ps.length:=by
   have:=congrArg List.length h;simp at this;omega
  have e:cyc ps ((k:Int)+1)=cyc ps 0:=by
   have:=Y6 ps 0;rw[Bh]at this;rw[<-this]
   congr 1
   omega
  unfold ZcL walk;rw[e];rfl
 | a::b::r,k,h=>by
  have hk:k<ps.length:=by
   by_cases z:k<ps.length
   ·exact z
   ·rw[ah (by omega)]at h;cases h
  rw[Aq hk]at h;injection h with h1 h2;have hk1:k+1<ps.length:=by
   by_cases z:k+1<ps.length
   ·exact z
   ·rw[ah (by omega)]at h2;cases h2
  have h2':=h2;rw[Aq hk1]at h2';injection h2' with h3 _;have ih:=ZbC ps (b::r) (k+1) h2;have e1:cyc ps ((k:Int)+1)=b:=by
   have:=ZO hk1;rw[<-h3,<-this];rfl
  have e2:cyc ps (((k+1:Nat):Int)-1)=a:=by
   have:=ZO hk;rw[<-h1,<-this];congr 1;omega
  rw[e2]at ih;have ih':ZcL ps ((k:Int)+1) (b::r)=walk a (b::r) (cyc ps 0):=ih
  conv=>lhs;unfold ZcL
  rw[e1,ih'];rfl
theorem Zed{p:Pt}{ps:List Pt}:UV (p::ps)=walk ((p::ps).getLast (by simp)) (p::ps) p:=by
 have h:=ZbC (p::ps) (p::ps) 0 rfl;have e0:cyc (p::ps) 0=p:=ZO (ps:=p::ps) (k:=0) (by simp);have e1:cyc (p::ps) (((0:Nat):Int)-1)=(p::ps).getLast (by simp):=by
  have a:=Y6 (p::ps) (((0:Nat):Int)-1);rw[<-a];have b:=ZO (ps:=p::ps) (k:=ps.length) (by simp);have c:(((0:Nat):Int)-1+(((p::ps).length:Nat):Int))=(ps.length:Int):=by simp;omega
  rw[c,b,List.getLast_eq_getElem];simp
 rw[e0,e1]at h;exact h
theorem UJ(ps:List Pt):∀(ys:List Pt) (k:Int),(ZcL ps k ys).Sublist ys
 | [],k=>br _
 | a::r,k=>by
  unfold ZcL;split
  ·exact(UJ ps r _).cons _
  ·exact(UJ ps r _).cons₂ _
theorem ZdN(ps:List Pt):∀(ys:List Pt) (k:Nat),ps.drop k=ys->(ZcL ps k ys).length=ys.length->∀ j:Nat,k<=j->j<ps.length->Zw (cyc ps ((j:Int)-1)) (cyc ps j) (cyc ps ((j:Int)+1))≠0
 | [],k,h,_,j,h1,h2=>by
  have:=congrArg List.length h;simp at this;omega
 | a::r,k,h,hl,j,h1,h2=>by
  have hk:k<ps.length:=by omega
  rw[Aq hk]at h;injection h with e1 e2;have sub:=(UJ ps r ((k:Int)+1)).length_le;unfold ZcL at hl;by_cases ht:Zw (cyc ps ((k:Int)-1)) a (cyc ps ((k:Int)+1))=0
  ·rw[if_pos ht]at hl;simp at hl;omega
  ·rw[if_neg ht]at hl;by_cases hj:j=k
   ·subst hj;rw[ZO hk,e1];exact ht
   ·exact ZdN ps r (k+1) e2 (by simp at hl;exact hl) j (by omega) h2
def ZkY:DT:=(Zo (Zg Qi (dFn 3 ZM (Zb (Zg dIx (Zd 2) (Zg Qy (Zd 0) (Zi (.int 1)))) (Zb (Zd 1) (Zb (dFn 3 Zk (Zb (Zd 2) (Zb (Zd 0) (Zb (Zi (.int 1)) Zm)))) Zm)))) (Zi (.int 0))))
theorem Zjb{ps:List Pt}(hne:ps≠[])(hps:All Sm ps):∀(ys:List Pt) (k:Nat) (s0 s1:Sl),All Sm ys->k+ys.length<=ps.length->ZW (Y7 0 1) ZkY (Zd 1) (YI k (ys.map pD)) (s0::s1::[.val (.lst (ps.map pD))])=some ((ZcL ps k ys).map pD)
 | [],k,s0,s1,_,_=>rfl
 | a::ys,k,s0,s1,hs,hl=>by
  simp only[B_]at hl;have x:=Zkj (ps:=ps) (i:=(k:Int)-1) (by omega) (by omega);have n:=Qa (c:=.lst (ps.map pD)) (ps:=ps) rfl hne k 1;have t:=Yf (hps _ (Y5 hne ((k:Int)-1))) (hs a A6) (hps _ (Y5 hne ((k:Int)+1)));have ih:=Zjb hne hps ys (k+1) (.val (.int k)) (.val (pD a)) (fun p hp=>hs p (A3 _ hp)) (by omega);have e:ZkY [.val (.int k),.val (pD a),.val (.lst (ps.map pD))]=some (!decide (Zw (cyc ps ((k:Int)-1)) a (cyc ps ((k:Int)+1))=0)):=by
   unfold ZkY;simp -implicitDefEqProofs[x,n,t]
  have ih':ZW (Y7 0 1) ZkY (Zd 1) (YI (k+1) (ys.map pD)) [.val (.int k),.val (pD a),.val (.lst (ps.map pD))]=some ((ZcL ps ((k:Int)+1) ys).map pD):=ih;simp only[Au,YI,ZW,ZcX,Ca,List.set_cons_succ,A5];rw[e];unfold ZcL;by_cases ht:Zw (cyc ps ((k:Int)-1)) a (cyc ps ((k:Int)+1))=0
  ·rw[if_pos ht];simp only[ht,decide_true,B9,A5];exact ih'
  ·rw[if_neg ht];simp only[ht,decide_false,B8,A5];rw[ih'];rfl
def Ua:DS:=(Zp (Z9 6 (Zd 5)) (Z9 5 (Ys [none,none,some 6] (QG (Zd 6)) (Y7 0 1) ZkY (Zd 1))))
theorem ZhM{ps:List Pt}(hne:ps≠[])(hps:All Sm ps)(hl:ps.length<=1000)(a b c d e:Sl)(l:Sl):Ua [a,b,c,d,e,.val (.lst (ps.map pD)),l]=some (.nx [a,b,c,d,e,.val (.lst ((UV ps).map pD)),.val (.lst (ps.map pD))]):=by
 unfold Ua;have e1:Z9 6 (Zd 5) [a,b,c,d,e,.val (.lst (ps.map pD)),l]=some (.nx [a,b,c,d,e,.val (.lst (ps.map pD)),.val (.lst (ps.map pD))]):=by
  simp -implicitDefEqProofs
 rw[Zz,e1];show Z9 5 _ [a,b,c,d,e,.val (.lst (ps.map pD)),.val (.lst (ps.map pD))]=_;rw[W5,Ja];have e2:QG (Zd 6) [a,b,c,d,e,.val (.lst (ps.map pD)),.val (.lst (ps.map pD))]=some (YI 0 (ps.map pD)):=Vz rfl rfl;rw[e2,A5,if_pos (by rw[UL,A_];exact Z0 hl)];have e3:=Zjb hne hps ps 0 .no .no hps (by omega);have e3':ZW (Y7 0 1) ZkY (Zd 1) (YI 0 (ps.map pD)) (Qj [none,none,some 6] [a,b,c,d,e,.val (.lst (ps.map pD)),.val (.lst (ps.map pD))])=some ((UV ps).map pD):=e3;rw[e3'];rfl
structure SawI(far:Int)(L U:List Pt):Prop where
 ln:L≠[]
 un:U≠[]
 lx:((0,0)::L++[(far,0)]:List Pt).Pairwise (fun p q=>p.1<q.1)
 ux:((far,0)::U++[(0,0)]:List Pt).Pairwise (fun p q=>q.1<p.1)
 ly:∀ p∈L,p.2<0
 uy:∀ p∈U,0<p.2
noncomputable def ZL(far:Int)(L U:List Pt):List Pt:=(0,0)::(L++(far,0)::U)
theorem Vu:∀(xs:List Pt) (p n:Pt),(walk p xs n).Sublist xs
 | [],p,n=>br _
 | [a],p,n=>by
  unfold walk;split
  ·exact List.nil_sublist _
  ·exact br _
 | a::b::r,p,n=>by
  unfold walk;split
  ·exact(Vu (b::r) a n).cons _
  ·exact(Vu (b::r) a n).cons₂ _
theorem Zai(p a n:Pt):Zw p a n=(a.1-p.1)*(n.2-a.2)-(a.2-p.2)*(n.1-a.1):=by
 unfold Zw;have e1:n.2-p.2=(n.2-a.2)+(a.2-p.2):=by omega
 have e2:n.1-p.1=(n.1-a.1)+(a.1-p.1):=by omega
 rw[e1,e2,Int.mul_add,Int.mul_add,Bo (a.1-p.1) (a.2-p.2)];omega
theorem ZdS{p a n:Pt}(h1:p.1<a.1)(h2:a.1<n.1)(h3:a.2<p.2)(h:Zw p a n=0):n.2<a.2:=by
 rw[Zai]at h;apply Int.not_le.mp;intro hle;have q1:0<=(a.1-p.1)*(n.2-a.2):=am (by omega) (by omega);have q2:(a.2-p.2)*(n.1-a.1)<0:=B7 (by omega) (by omega);omega
theorem ZiL{p a n:Pt}(h1:a.1<p.1)(h2:n.1<a.1)(h3:p.2<a.2)(h:Zw p a n=0):a.2<n.2:=by
 rw[Zai]at h;apply Int.not_le.mp;intro hle;have q1:0<=(a.1-p.1)*(n.2-a.2):=bu (by omega) (by omega);have q2:(a.2-p.2)*(n.1-a.1)<0:=Ab (by omega) (by omega);omega
theorem ZdT:∀(r:List Pt) (p a n:Pt),(p::(a::r)++[n]:List Pt).Pairwise (fun p q=>p.1<q.1)->a.2<p.2->walk p (a::r) n=[]->n.2<a.2
 | [],p,a,n,hx,hy,hw=>by
  simp at hx;have ht:Zw p a n=0:=by
   unfold walk at hw;by_cases z:Zw p a n=0
   ·exact z
   ·rw[if_neg z]at hw;cases hw
  exact ZdS hx.1.1 hx.2 hy ht
 | b::r,p,a,n,hx,hy,hw=>by
  have hx':(a::(b::r)++[n]:List Pt).Pairwise (fun p q=>p.1<q.1):=(At.mp hx).2;have ab:a.1<b.1:=(At.mp hx').1 b (by simp);have pa:p.1<a.1:=(At.mp hx).1 a (by simp);unfold walk at hw;by_cases z:Zw p a b=0
  ·rw[if_pos z]at hw;have hb:=ZdS pa ab hy z;have:=ZdT r a b n hx' hb hw;omega
  ·rw[if_neg z]at hw;cases hw
theorem ZiM:∀(r:List Pt) (p a n:Pt),(p::(a::r)++[n]:List Pt).Pairwise (fun p q=>q.1<p.1)->p.2<a.2->walk p (a::r) n=[]->a.2<n.2
 | [],p,a,n,hx,hy,hw=>by
  simp at hx;have ht:Zw p a n=0:=by
   unfold walk at hw;by_cases z:Zw p a n=0
   ·exact z
   ·rw[if_neg z]at hw;cases hw
  exact ZiL hx.1.1 hx.2 hy ht
 | b::r,p,a,n,hx,hy,hw=>by
  have hx':(a::(b::r)++[n]:List Pt).Pairwise (fun p q=>q.1<p.1):=(At.mp hx).2;have ab:b.1<a.1:=(At.mp hx').1 b (by simp);have pa:a.1<p.1:=(At.mp hx).1 a (by simp);unfold walk at hw;by_cases z:Zw p a b=0
  ·rw[if_pos z]at hw;have hb:=ZiL pa ab hy z;have:=ZiM r a b n hx' hb hw;omega
  ·rw[if_neg z]at hw;cases hw
theorem SawI.low{far:Int}{L U:List Pt}(S:SawI far L U):∀ p∈L,0<p.1/\p.1<far:=fun p hp=>by
 have h:=S.lx;refine⟨(At.mp h).1 p (by simp[hp]),?_⟩;have h2:=(At.mp h).2;exact(bc.mp h2).2.2 p hp (far,0) (by simp)
theorem SawI.upp{far:Int}{L U:List Pt}(S:SawI far L U):∀ p∈U,0<p.1/\p.1<far:=fun p hp=>by
 have h:=S.ux;have h1:=(At.mp h).1 p (by simp[hp]);have h2:=(At.mp h).2;exact⟨(bc.mp h2).2.2 p hp (0,0) (by simp),h1⟩
theorem SawI.step{far:Int}{L U:List Pt}(S:SawI far L U):UV (ZL far L U)=ZL far (walk (0,0) L (far,0)) (walk (far,0) U (0,0))/\SawI far (walk (0,0) L (far,0)) (walk (far,0) U (0,0)):=by
 have sL:=Vu L (0,0) (far,0);have sU:=Vu U (far,0) (0,0);refine⟨?_,?_,?_,?_,?_,fun p hp=>S.ly p (sL.mem hp),fun p hp=>S.uy p (sU.mem hp)⟩
 ·obtain⟨l1,L',rfl⟩:∃ l1 L',L=l1::L':=by
   cases L with
   | nil=>exact absurd rfl S.ln
   | cons a r=>exact⟨a,r,rfl⟩
  obtain⟨u1,U',rfl⟩:∃ u1 U',U=u1::U':=by
   cases U with
   | nil=>exact absurd rfl S.un
   | cons a r=>exact⟨a,r,rfl⟩
  unfold ZL;rw[Zed];have g1:(((0,0):Pt)::((l1::L')++(far,0)::u1::U')).getLast (by simp)=(u1::U').getLast (by simp):=by
   rw[List.getLast_cons (by simp),List.getLast_append_of_ne_nil (by simp) (by simp),List.getLast_cons (by simp)]
  rw[g1];have sp:((0,0):Pt)::((l1::L')++(far,0)::u1::U')=((0,0)::l1::L')++(far,0)::u1::U':=rfl;rw[sp,Zdc];have lu:=(u1::U').getLast_mem (by simp);have ll:=(l1::L').getLast_mem (by simp);generalize hlu:(u1::U').getLast (by simp)=q at lu;have qx:=S.upp q lu;have qy:=S.uy q lu;have l1x:=S.low l1 (by simp);have l1y:=S.ly l1 (by simp);have t1:Zw q (0,0) l1≠0:=by
   have e:Zw q (0,0) l1=q.2*l1.1-q.1*l1.2:=by
    rw[Zai];simp;rw[Int.neg_mul,Int.neg_mul];omega
   have z1:0<q.2*l1.1:=Aw qy l1x.1;have z2:q.1*l1.2<0:=Ab qx.1 l1y;omega
  have w1:walk q ((0,0)::l1::L') (far,0)=(0,0)::walk (0,0) (l1::L') (far,0):=by
   conv=>lhs;unfold walk
   rw[if_neg t1]
  rw[w1];have g2:(q::(0,0)::l1::L').getLast (by simp)=(l1::L').getLast (by simp):=by
   rw[List.getLast_cons (by simp),List.getLast_cons (by simp)]
  rw[g2];generalize hll:(l1::L').getLast (by simp)=m at ll;have mx:=S.low m ll;have my:=S.ly m ll;have u1x:=S.upp u1 (by simp);have u1y:=S.uy u1 (by simp);have t2:Zw m (far,0) u1≠0:=by
   have e:Zw m (far,0) u1=(far-m.1)*u1.2+m.2*(u1.1-far):=by
    rw[Zai];simp;rw[Int.neg_mul];omega
   have z1:0<(far-m.1)*u1.2:=Aw (by omega) u1y;have z2:0<m.2*(u1.1-far):=B6 my (by omega);omega
  have w2:walk m ((far,0)::u1::U') (0,0)=(far,0)::walk (far,0) (u1::U') (0,0):=by
   conv=>lhs;unfold walk
   rw[if_neg t2]
  rw[w2];rfl
 ·intro hw;obtain⟨l1,L',rfl⟩:∃ l1 L',L=l1::L':=by
   cases L with
   | nil=>exact absurd rfl S.ln
   | cons a r=>exact⟨a,r,rfl⟩
  have:=ZdT L' (0,0) l1 (far,0) S.lx (S.ly l1 (by simp)) hw;have:=S.ly l1 (by simp);simp at *;omega
 ·intro hw;obtain⟨u1,U',rfl⟩:∃ u1 U',U=u1::U':=by
   cases U with
   | nil=>exact absurd rfl S.un
   | cons a r=>exact⟨a,r,rfl⟩
  have:=ZiM U' (far,0) u1 (0,0) S.ux (S.uy u1 (by simp)) hw;have:=S.uy u1 (by simp);simp at *;omega
 ·exact S.lx.sublist ((sL.append (br _)).cons₂ _)
 ·exact S.ux.sublist ((sU.append (br _)).cons₂ _)
def ZjG:DT:=(Zo (Zg Qi (ZI Q9 (Zb (Zd 6) Zm)) (ZI Q9 (Zb (Zd 5) Zm))))
theorem Zlp(a b c d e:Sl)(ps left:List Pt):ZjG [a,b,c,d,e,.val (.lst (ps.map pD)),.val (.lst (left.map pD))]=some (!decide (left.length=ps.length)):=by
 unfold ZjG;simp -implicitDefEqProofs;by_cases h:left.length=ps.length
 ·simp[h]
 ·have:¬ (left.length:Int)=(ps.length:Int):=by omega
  simp[h,this]
theorem Qh(far:Int)(L U:List Pt):(ZL far L U).length=L.length+U.length+2:=by simp[ZL];omega
theorem Zcn(far:Int)(L U:List Pt):ZL far L U≠[]:=by simp[ZL]
theorem Zdo{far:Int}(a b c d e:Sl):∀(m:Nat) (L U left:List Pt),SawI far L U->All Sm (ZL far L U)->(ZL far L U).length<=1000->(left=[]\/(ZL far L U=UV left)) ->
  ((ZL far L U).length+1<=m\/(left.length=(ZL far L U).length/\1<=m)) ->
  ∃ L' U',SawI far L' U'/\UV (ZL far L' U')=ZL far L' U'/\(ZL far L' U').Sublist (ZL far L U)/\∃ l,
   ZT ZjG Ua m [a,b,c,d,e,.val (.lst ((ZL far L U).map pD)),.val (.lst (left.map pD))]=some (.nx [a,b,c,d,e,.val (.lst ((ZL far L' U').map pD)),l])
 | 0,L,U,left,S,hs,hl,hst,hm=>by omega
 | m+1,L,U,left,S,hs,hl,hst,hm=>by
  have t:=Zlp a b c d e (ZL far L U) left;by_cases heq:left.length=(ZL far L U).length
  ·refine⟨L,U,S,?_,br _,.val (.lst (left.map pD)),?_⟩
   ·rcases hst with rfl | hst
    ·rw[Qh]at heq;simp at heq
    ·have sub:(UV left).Sublist left:=UJ left left 0;rw[<-hst]at sub;have:=sub.eq_of_length heq.symm;rw[this];rw[this]at hst;exact hst.symm
   ·unfold ZT;rw[t];simp[heq]
  ·have hm':(ZL far L U).length+1<=m+1:=by
    rcases hm with hm | ⟨hm,_⟩
    ·exact hm
    ·exact absurd hm heq
   have bd:=ZhM (Zcn far L U) hs hl a b c d e (.val (.lst (left.map pD)));obtain⟨st,S'⟩:=S.step;have sub:(UV (ZL far L U)).Sublist (ZL far L U):=UJ _ _ 0;have un:ZT ZjG Ua (m+1) [a,b,c,d,e,.val (.lst ((ZL far L U).map pD)),.val (.lst (left.map pD))]=ZT ZjG Ua m [a,b,c,d,e,.val (.lst ((UV (ZL far L U)).map pD)),.val (.lst ((ZL far L U).map pD))]:=by
    conv=>lhs;unfold ZT
    rw[t,bd];simp[heq]
   rw[un];rw[st]at sub ⊢;have:=Zdo (far:=far) a b c d e m _ _ (ZL far L U) S' (fun p hp=>hs p (sub.mem hp)) (Ax sub.length_le hl) (.inr st.symm) (by
    have l:=sub.length_le;have p:1<=(ZL far L U).length:=by rw[Qh];omega
    omega)
   obtain⟨L',U',h1,h2,h3,l,h4⟩:=this;exact⟨L',U',h1,h2,h3.trans sub,l,h4⟩
def ZaE(n wide:Int)(k:Nat):Pt:=(1+(k:Int),-1-JW n k%wide)
def Vp(n wide far:Int)(k:Nat):Pt:=(far-1-(k:Int),1+JW n (9+(k:Int))%wide)
theorem Zl7{n wide:Int}(hw:0<wide)(m:Nat):ZW (ZC 0) ZH (QD (Zb (Zg Yn (Zi (.int 1)) (Zd 0)) (Zb (Zg Qy (Jz Zit (Zi (.int 1))) (Zg Q1 (dFn 2 Zv (Zb (Zd 2) (Zb (Zd 0) Zm))) (Zd 1))) Zm))) (QB 0 m) (.no::[.val (.int wide),.val (.int n)]) =
  some ((QB 0 m).map fun x=>match x with | .int k=>pD (ZaE n wide k.toNat) | _=>.non):=by
 refine Jc fun x hx=>?_;unfold QB at hx;obtain⟨k,hk,rfl⟩:=A8.mp hx;have e1:=UK n (k:Int);have d:=fun z=>JV (i:=z) (j:=wide) hw;simp only[Bh];simp -implicitDefEqProofs[e1,d,pD,ZaE]
theorem Zko{n wide far:Int}(hw:0<wide)(m:Nat):ZW (ZC 0) ZH (QD (Zb (Zg Qy (Zg Qy (Zd 1) (Zi (.int 1))) (Zd 0)) (Zb (Zg Yn (Zi (.int 1)) (Zg Q1 (dFn 2 Zv (Zb (Zd 3) (Zb (Zg Yn (Zi (.int 9)) (Zd 0)) Zm))) (Zd 2))) Zm))) (QB 0 m) (.no::[.val (.int far),.val (.int wide),.val (.int n)]) =
  some ((QB 0 m).map fun x=>match x with | .int k=>pD (Vp n wide far k.toNat) | _=>.non):=by
 refine Jc fun x hx=>?_;unfold QB at hx;obtain⟨k,hk,rfl⟩:=A8.mp hx;have e1:=UK n (9+(k:Int));have d:=fun z=>JV (i:=z) (j:=wide) hw;simp only[Bh];simp -implicitDefEqProofs[e1,d,pD,Vp]
theorem Zh0(m:Nat)(f:Nat->Pt):(QB 0 m).map (fun x=>match x with | .int k=>pD (f k.toNat) | _=>.non)=((List.range m).map f).map pD:=by
 unfold QB;rw[Bj,Bj];apply Bb;intro k _;simp only[Function.comp];rw[Bh,bo]
theorem Zfs{n wide far:Int}(hw:0<wide){lo hi:Nat}(h1:1<=lo)(h2:1<=hi)(hf1:(lo:Int)<far)(hf2:(hi:Int)<far):SawI far ((List.range lo).map (ZaE n wide)) ((List.range hi).map (Vp n wide far)):=by
 have mp:∀ z,0<=z%wide:=fun z=>Ah z (by omega);refine⟨?_,?_,?_,?_,fun p hp=>?_,fun p hp=>?_⟩
 ·intro z;have:=congrArg List.length z;simp at this;omega
 ·intro z;have:=congrArg List.length z;simp at this;omega
 ·rw[B3,At];refine⟨fun q hq=>?_,?_⟩
  ·rcases Bk.mp hq with hq | hq
   ·obtain⟨k,_,rfl⟩:=A8.mp hq;show(0:Int)<1+k;omega
   ·rw[A0]at hq;subst hq;show(0:Int)<far;omega
  ·rw[bc];refine⟨?_,List.pairwise_singleton _ _,fun p hp q hq=>?_⟩
   ·rw[Bp];exact List.pairwise_lt_range.imp fun {i j} h=>by show 1+(i:Int)<1+(j:Int);omega
   ·obtain⟨k,hk,rfl⟩:=A8.mp hp;have hk:=Ae.mp hk;rw[A0]at hq;subst hq;show 1+(k:Int)<far;omega
 ·rw[B3,At];refine⟨fun q hq=>?_,?_⟩
  ·rcases Bk.mp hq with hq | hq
   ·obtain⟨k,_,rfl⟩:=A8.mp hq;show far-1-(k:Int)<far;omega
   ·rw[A0]at hq;subst hq;show(0:Int)<far;omega
  ·rw[bc];refine⟨?_,List.pairwise_singleton _ _,fun p hp q hq=>?_⟩
   ·rw[Bp];exact List.pairwise_lt_range.imp fun {i j} h=>by show far-1-(j:Int)<far-1-(i:Int);omega
   ·obtain⟨k,hk,rfl⟩:=A8.mp hp;have hk:=Ae.mp hk;rw[A0]at hq;subst hq;show(0:Int)<far-1-(k:Int);omega
 ·obtain⟨k,_,rfl⟩:=A8.mp hp;have:=mp (JW n k);show -1-JW n k%wide<0;omega
 ·obtain⟨k,_,rfl⟩:=A8.mp hp;have:=mp (JW n (9+(k:Int)));show 0<1+JW n (9+(k:Int))%wide;omega
def Rg(m:Int)(p:Pt):Prop:=(-m<=p.1/\p.1<=m)/\(-m<=p.2/\p.2<=m)
theorem Zc2{xs ys:List D}(h:xs.length+ys.length<=1000):Yn (.lst xs) (.lst ys)=some (.lst (xs++ys)):=by
 show(if _ then _ else _)=_;rw[if_pos (Z0 h)]
theorem Zks{n wide:Int}(hw:0<wide)(hw2:wide<=1000):∃ far L U,SawI far L U/\UV (ZL far L U)=ZL far L U/\(∀ p∈ZL far L U,(0<=p.1/\p.1<=6)/\(-wide<=p.2/\p.2<=wide))/\(ZL far L U).length<=12 /\
  Qn [.int n,.int wide]=some (.lst ((ZL far L U).map pD)):=by
 have q1:=Ah n (show(5:Int)≠0 by omega);have q2:=Ag n (show(0:Int)<5 by omega);have q3:=Ah (n/5) (show(5:Int)≠0 by omega);have q4:=Ag (n/5) (show(0:Int)<5 by omega);obtain⟨lo,hlo⟩:∃ lo:Nat,(lo:Int)=1+n%5:=⟨(1+n%5).toNat,by omega⟩;obtain⟨hi,hhi⟩:∃ hi:Nat,(hi:Int)=1+n/5%5:=⟨(1+n/5%5).toNat,by omega⟩;have mp:∀ z,0<=z%wide/\z%wide<wide:=fun z=>⟨Ah z (by omega),Ag z hw⟩;generalize hfar:1+max (lo:Int) (hi:Int)=far;have S0:=Zfs (n:=n) (wide:=wide) (far:=far) hw (lo:=lo) (hi:=hi) (by omega) (by omega) (by omega) (by omega);have B0:∀ p∈ZL far ((List.range lo).map (ZaE n wide)) ((List.range hi).map (Vp n wide far)),(0<=p.1/\p.1<=6)/\(-wide<=p.2/\p.2<=wide):=by
  intro p hp;unfold ZL at hp;rcases A4.mp hp with rfl | hp
  ·exact⟨⟨by omega,by omega⟩,by simp;omega,by simp;omega⟩
  ·rcases Bk.mp hp with hp | hp
   ·obtain⟨k,hk,rfl⟩:=A8.mp hp;have hk:=Ae.mp hk;have:=mp (JW n k);show(0<=1+(k:Int)/\1+(k:Int)<=6)/\(-wide<=-1-JW n k%wide/\-1-JW n k%wide<=wide);omega
   ·rcases A4.mp hp with rfl | hp
    ·show(0<=far/\far<=6)/\(-wide<=0/\0<=wide);omega
    ·obtain⟨k,hk,rfl⟩:=A8.mp hp;have hk:=Ae.mp hk;have:=mp (JW n (9+(k:Int)));show(0<=far-1-(k:Int)/\far-1-(k:Int)<=6)/\(-wide<=1+JW n (9+(k:Int))%wide/\1+JW n (9+(k:Int))%wide<=wide);omega
 have len0:(ZL far ((List.range lo).map (ZaE n wide)) ((List.range hi).map (Vp n wide far))).length<=12:=by rw[Qh];simp;omega
 have Sm0:All Sm (ZL far ((List.range lo).map (ZaE n wide)) ((List.range hi).map (Vp n wide far))):=fun p hp=>by
  have:=B0 p hp;exact⟨⟨by omega,by omega⟩,by omega,by omega⟩
 obtain⟨L',U',h1,h2,h3,l,h4⟩:=Zdo (far:=far) (.val (.int n)) (.val (.int wide)) (.val (.int lo)) (.val (.int hi)) (.val (.int far)) 3000 _ _ [] S0 Sm0 (by omega) (.inl rfl) (.inl (by omega));refine⟨far,L',U',h1,h2,fun p hp=>B0 p (h3.mem hp),Ax h3.length_le len0,?_⟩;have d5:=JV (i:=n) (j:=5) (by omega);have v5:=Zis (i:=n) (j:=5) (by omega) (by omega);have d5':=JV (i:=n/5) (j:=5) (by omega);have r1:=YE (n:=(lo:Int)) (by omega) (by omega);have r2:=YE (n:=(hi:Int)) (by omega) (by omega);have k1:(QB 0 lo).length<=lim:=by rw[Vx];exact Z0 (by omega)
 have k2:(QB 0 hi).length<=lim:=by rw[Vx];exact Z0 (by omega)
 have cl:=Zl7 (n:=n) hw lo;have ch:=Zko (n:=n) (far:=far) hw hi;rw[Zh0]at cl ch;unfold Qn ZA W0;show(Zp _ (Zp _ (Zp _ (Zp _ (Zp _ (Zp _ (Zp _ _)))))) [.val (.int n),.val (.int wide),.no,.no,.no,.no,.no]).bind _=_;have e1:Z9 2 (Zg Yn (Zi (.int 1)) (Zg Q1 (Zd 0) (Zi (.int 5)))) [.val (.int n),.val (.int wide),.no,.no,.no,.no,.no]=some (.nx [.val (.int n),.val (.int wide),.val (.int lo),.no,.no,.no,.no]):=by
  simp -implicitDefEqProofs[d5,hlo]
 rw[Zz,e1];show(Zp _ (Zp _ (Zp _ (Zp _ (Zp _ (Zp _ _))))) [.val (.int n),.val (.int wide),.val (.int lo),.no,.no,.no,.no]).bind _=_;have e2:Z9 3 (Zg Yn (Zi (.int 1)) (Zg Q1 (Zg Zcb (Zd 0) (Zi (.int 5))) (Zi (.int 5)))) [.val (.int n),.val (.int wide),.val (.int lo),.no,.no,.no,.no]=some (.nx [.val (.int n),.val (.int wide),.val (.int lo),.val (.int hi),.no,.no,.no]):=by
  simp -implicitDefEqProofs[v5,d5',hhi]
 rw[Zz,e2];show(Zp _ (Zp _ (Zp _ (Zp _ (Zp _ _)))) [.val (.int n),.val (.int wide),.val (.int lo),.val (.int hi),.no,.no,.no]).bind _=_;have e3:Z9 4 (Zg Yn (Zi (.int 1)) (ZI ZbJ (Zb (Zd 2) (Zb (Zd 3) Zm)))) [.val (.int n),.val (.int wide),.val (.int lo),.val (.int hi),.no,.no,.no]=some (.nx [.val (.int n),.val (.int wide),.val (.int lo),.val (.int hi),.val (.int far),.no,.no]):=by
  simp -implicitDefEqProofs;rw[<-hfar];omega
 rw[Zz,e3];show(Zp _ (Zp _ (Zp _ (Zp _ _))) [.val (.int n),.val (.int wide),.val (.int lo),.val (.int hi),.val (.int far),.no,.no]).bind _=_;have c1:(Ys [none,some 1,some 0] (Ww (Zd 2)) (ZC 0) ZH (QD (Zb (Zg Yn (Zi (.int 1)) (Zd 0)) (Zb (Zg Qy (Jz Zit (Zi (.int 1))) (Zg Q1 (dFn 2 Zv (Zb (Zd 2) (Zb (Zd 0) Zm))) (Zd 1))) Zm)))) [.val (.int n),.val (.int wide),.val (.int lo),.val (.int hi),.val (.int far),.no,.no]=some (.lst (((List.range lo).map (ZaE n wide)).map pD)):=by
  have i:Ww (Zd 2) [.val (.int n),.val (.int wide),.val (.int lo),.val (.int hi),.val (.int far),.no,.no]=some (QB 0 lo):=by simp -implicitDefEqProofs[r1]
  rw[Ja,i,A5,if_pos k1];have cl':ZW (ZC 0) ZH (QD (Zb (Zg Yn (Zi (.int 1)) (Zd 0)) (Zb (Zg Qy (Jz Zit (Zi (.int 1))) (Zg Q1 (dFn 2 Zv (Zb (Zd 2) (Zb (Zd 0) Zm))) (Zd 1))) Zm))) (QB 0 lo) (Qj [none,some 1,some 0] [.val (.int n),.val (.int wide),.val (.int lo),.val (.int hi),.val (.int far),.no,.no])=_:=cl;rw[cl'];rfl
 have a1:=Zc2 (xs:=[pD (0,0)]) (ys:=((List.range lo).map (ZaE n wide)).map pD) (by simp;omega);have a2:=Zc2 (xs:=[pD (0,0)]++((List.range lo).map (ZaE n wide)).map pD) (ys:=[pD (far,0)]) (by simp;omega);have e4:Z9 5 (Zg Yn (Zg Yn (Za4 (Zb (QD (Zb (Zi (.int 0)) (Zb (Zi (.int 0)) Zm))) Zm)) (Ys [none,some 1,some 0] (Ww (Zd 2)) (ZC 0) ZH (QD (Zb (Zg Yn (Zi (.int 1)) (Zd 0)) (Zb (Zg Qy (Jz Zit (Zi (.int 1))) (Zg Q1 (dFn 2 Zv (Zb (Zd 2) (Zb (Zd 0) Zm))) (Zd 1))) Zm))))) (Za4 (Zb (QD (Zb (Zd 4) (Zb (Zi (.int 0)) Zm))) Zm))) [.val (.int n),.val (.int wide),.val (.int lo),.val (.int hi),.val (.int far),.no,.no] =
   some (.nx [.val (.int n),.val (.int wide),.val (.int lo),.val (.int hi),.val (.int far),.val (.lst ([pD (0,0)]++((List.range lo).map (ZaE n wide)).map pD++[pD (far,0)])),.no]):=by
  rw[W5,Qg,Qg,c1];have l1:Za4 (Zb (QD (Zb (Zi (.int 0)) (Zb (Zi (.int 0)) Zm))) Zm) [.val (.int n),.val (.int wide),.val (.int lo),.val (.int hi),.val (.int far),.no,.no]=some (.lst [pD (0,0)]):=by simp -implicitDefEqProofs[pD]
  have l2:Za4 (Zb (QD (Zb (Zd 4) (Zb (Zi (.int 0)) Zm))) Zm) [.val (.int n),.val (.int wide),.val (.int lo),.val (.int hi),.val (.int far),.no,.no]=some (.lst [pD (far,0)]):=by simp -implicitDefEqProofs[pD]
  rw[l1,l2];simp only[A5,a1,a2];rfl
 rw[Zz,e4];show(Zp _ (Zp _ (Zp _ _)) [.val (.int n),.val (.int wide),.val (.int lo),.val (.int hi),.val (.int far),.val (.lst ([pD (0,0)]++((List.range lo).map (ZaE n wide)).map pD++[pD (far,0)])),.no]).bind _=_;have c2:(Ys [none,some 4,some 1,some 0] (Ww (Zd 3)) (ZC 0) ZH (QD (Zb (Zg Qy (Zg Qy (Zd 1) (Zi (.int 1))) (Zd 0)) (Zb (Zg Yn (Zi (.int 1)) (Zg Q1 (dFn 2 Zv (Zb (Zd 3) (Zb (Zg Yn (Zi (.int 9)) (Zd 0)) Zm))) (Zd 2))) Zm)))) [.val (.int n),.val (.int wide),.val (.int lo),.val (.int hi),.val (.int far),.val (.lst ([pD (0,0)]++((List.range lo).map (ZaE n wide)).map pD++[pD (far,0)])),.no]=some (.lst (((List.range hi).map (Vp n wide far)).map pD)):=by
  have i:∀ Z:List D,Ww (Zd 3) [.val (.int n),.val (.int wide),.val (.int lo),.val (.int hi),.val (.int far),.val (.lst Z),.no]=some (QB 0 hi):=fun Z=>by simp -implicitDefEqProofs[r2]
  rw[Ja,i,A5,if_pos k2];have ch':ZW (ZC 0) ZH (QD (Zb (Zg Qy (Zg Qy (Zd 1) (Zi (.int 1))) (Zd 0)) (Zb (Zg Yn (Zi (.int 1)) (Zg Q1 (dFn 2 Zv (Zb (Zd 3) (Zb (Zg Yn (Zi (.int 9)) (Zd 0)) Zm))) (Zd 2))) Zm))) (QB 0 hi) (Qj [none,some 4,some 1,some 0] [.val (.int n),.val (.int wide),.val (.int lo),.val (.int hi),.val (.int far),.val (.lst ([pD (0,0)]++((List.range lo).map (ZaE n wide)).map pD++[pD (far,0)])),.no])=_:=ch;rw[ch'];rfl
 have a3:=Zc2 (xs:=[pD (0,0)]++((List.range lo).map (ZaE n wide)).map pD++[pD (far,0)]) (ys:=((List.range hi).map (Vp n wide far)).map pD) (by simp;omega);have sw:[pD (0,0)]++((List.range lo).map (ZaE n wide)).map pD++[pD (far,0)]++((List.range hi).map (Vp n wide far)).map pD=(ZL far ((List.range lo).map (ZaE n wide)) ((List.range hi).map (Vp n wide far))).map pD:=by
  simp[ZL]
 rw[sw]at a3;have e5:Z9 5 (Zg Yn (Zd 5) (Ys [none,some 4,some 1,some 0] (Ww (Zd 3)) (ZC 0) ZH (QD (Zb (Zg Qy (Zg Qy (Zd 1) (Zi (.int 1))) (Zd 0)) (Zb (Zg Yn (Zi (.int 1)) (Zg Q1 (dFn 2 Zv (Zb (Zd 3) (Zb (Zg Yn (Zi (.int 9)) (Zd 0)) Zm))) (Zd 2))) Zm))))) [.val (.int n),.val (.int wide),.val (.int lo),.val (.int hi),.val (.int far),.val (.lst ([pD (0,0)]++((List.range lo).map (ZaE n wide)).map pD++[pD (far,0)])),.no] =
   some (.nx [.val (.int n),.val (.int wide),.val (.int lo),.val (.int hi),.val (.int far),.val (.lst ((ZL far ((List.range lo).map (ZaE n wide)) ((List.range hi).map (Vp n wide far))).map pD)),.no]):=by
  rw[W5,Qg,c2];show(((some _).bind _:Option D)).map _=_;simp only[A5,a3];rfl
 rw[Zz,e5];generalize hss:ZL far ((List.range lo).map (ZaE n wide)) ((List.range hi).map (Vp n wide far))=ss at h4;show(Zp _ (Zp _ _) [.val (.int n),.val (.int wide),.val (.int lo),.val (.int hi),.val (.int far),.val (.lst (ss.map pD)),.no]).bind _=_;have e6:Z9 6 (Za4 Zm) [.val (.int n),.val (.int wide),.val (.int lo),.val (.int hi),.val (.int far),.val (.lst (ss.map pD)),.no]=some (.nx [.val (.int n),.val (.int wide),.val (.int lo),.val (.int hi),.val (.int far),.val (.lst (ss.map pD)),.val (.lst [])]):=by
  simp -implicitDefEqProofs
 rw[Zz,e6];show(Zp (ZT ZjG Ua 3000) _ [.val (.int n),.val (.int wide),.val (.int lo),.val (.int hi),.val (.int far),.val (.lst (ss.map pD)),.val (.lst [])]).bind _=_;have h4':ZT ZjG Ua 3000 [.val (.int n),.val (.int wide),.val (.int lo),.val (.int hi),.val (.int far),.val (.lst (ss.map pD)),.val (.lst [])]=_:=h4;rw[Zz,h4'];rfl
noncomputable def shf(by_:Int)(p:Pt):Pt:=(p.1-by_,p.2)
theorem ZiP(b:Int):∀(ys:List Pt) (s0 s1:Sl),ZW (Y7 0 1) ZH (QD (Zb (Zg Qy (Zd 0) (Zd 2)) (Zb (Zd 1) Zm))) (ys.map pD) (s0::s1::[.val (.int b)])=some ((ys.map (shf b)).map pD)
 | [],s0,s1=>rfl
 | a::ys,s0,s1=>by
  have ih:=ZiP b ys (.val (.int a.1)) (.val (.int a.2));have e:(QD (Zb (Zg Qy (Zd 0) (Zd 2)) (Zb (Zd 1) Zm))) [.val (.int a.1),.val (.int a.2),.val (.int b)]=some (pD (shf b a)):=by
   simp -implicitDefEqProofs[pD,shf]
  have st:Y7 0 1 (pD a) (s0::s1::[.val (.int b)])=some [.val (.int a.1),.val (.int a.2),.val (.int b)]:=rfl;simp only[Au,ZW,st,A5,ZhE,e];have ih':ZW (Y7 0 1) ZH (QD (Zb (Zg Qy (Zd 0) (Zd 2)) (Zb (Zd 1) Zm))) (ys.map pD) [.val (.int a.1),.val (.int a.2),.val (.int b)]=_:=ih;rw[ih'];rfl
def SrcZ(wide:Int)(qs:List Pt):Prop:=
 (Qt qs=true/\3<=qs.length/\qs.length<=7/\∀ p∈qs,(0<=p.1/\p.1<wide)/\(0<=p.2/\p.2<wide)) \/
 (∃ far L U,qs=ZL far L U/\SawI far L U/\UV (ZL far L U)=ZL far L U/\(∀ p∈qs,(0<=p.1/\p.1<=6)/\(-wide<=p.2/\p.2<=wide))/\qs.length<=12)
theorem SrcZ.ne{wide:Int}{qs:List Pt}(h:SrcZ wide qs):qs≠[]:=by
 rcases h with⟨_,h,_⟩ | ⟨far,L,U,rfl,_⟩
 ·intro z;rw[z]at h;simp at h
 ·exact Zcn _ _ _
theorem SrcZ.len{wide:Int}{qs:List Pt}(h:SrcZ wide qs):qs.length<=12:=by
 rcases h with⟨_,_,h,_⟩ | ⟨far,L,U,_,_,_,_,h⟩
 ·omega
 ·exact h
theorem SrcZ.rng{wide:Int}(hw:3<=wide){qs:List Pt}(h:SrcZ wide qs):∀ p∈qs,(0<=p.1/\p.1<=wide+3)/\(-wide<=p.2/\p.2<=wide):=fun p hp=>by
 rcases h with⟨_,_,_,h⟩ | ⟨far,L,U,_,_,_,h,_⟩
 ·have:=h p hp;omega
 ·have:=h p hp;omega
theorem Zil{n wide:Int}(hw:3<=wide)(hw2:wide<=1000):∃ qs b,SrcZ wide qs/\0<=b/\b<=wide/\YH [.int n,.int wide]=some (.tup ((Y0 (qs.map (shf b))).map pD)):=by
 have w0:0<wide:=by omega
 have q1:=Ah (n/2) (show(5:Int)≠0 by omega);have q2:=Ag (n/2) (show(0:Int)<5 by omega);have q3:=Ah (n/512) (show(3:Int)≠0 by omega);have q4:=Ag (n/512) (show(0:Int)<3 by omega);obtain⟨many,hm⟩:∃ many:Nat,(many:Int)=3+n/2%5:=⟨(3+n/2%5).toNat,by omega⟩;have sp:=Zgx (n:=n/2) w0 (many:=many) (by omega);have rg:=Zee (n:=n/2) (many:=many) w0;have sl:=Zef (n/2) wide many;have smS:All Sm (YJ (n/2) wide many):=fun p hp=>by have:=rg p hp;exact⟨⟨by omega,by omega⟩,by omega,by omega⟩
 have neS:YJ (n/2) wide many≠[]:=by intro z;rw[z]at sl;simp at sl;omega
 have gd:=ZdO (c:=.lst ((YJ (n/2) wide many).map pD)) rfl neS smS (by omega);obtain⟨far,L,U,s1,s2,s3,s4,s5⟩:=Zks (n:=n/2) w0 hw2;have v2:=Zis (i:=n) (j:=2) (by omega) (by omega);have d5:=JV (i:=n/2) (j:=5) (by omega);have d2:=JV (i:=n) (j:=2) (by omega);have v512:=Zis (i:=n) (j:=512) (by omega) (by omega);have d3:=JV (i:=n/512) (j:=3) (by omega);have m1:=Uh (i:=n/512%3) (j:=wide) (.inl (by omega));have hb:0<=n/512%3*wide/4/\n/512%3*wide/4<=wide:=by
  have a:0<=n/512%3*wide:=am q3 (by omega);have b:n/512%3*wide<=2*wide:=Int.mul_le_mul_of_nonneg_right (by omega) (by omega);omega
 have v4:=Zis (i:=n/512%3*wide) (j:=4) (by omega) (by omega);have tail:∀(qs:List Pt),SrcZ wide qs->(Zp (Z9 3 (Zg Zcb (Zg YQ (Zg Q1 (Zg Zcb (Zd 0) (Zi (.int 512))) (Zi (.int 3))) (Zd 1)) (Zi (.int 4))))
 (Yc (dFn 1 ZS (Zb (Ys [none,none,some 3] (YO (Zd 2)) (Y7 0 1) ZH (QD (Zb (Zg Qy (Zd 0) (Zd 2)) (Zb (Zd 1) Zm)))) Zm)))) [.val (.int n),.val (.int wide),.val (.lst (qs.map pD)),.no]=some (.rt (.tup ((Y0 (qs.map (shf (n/512%3*wide/4)))).map pD))):=by
  intro qs hq;have e1:Z9 3 (Zg Zcb (Zg YQ (Zg Q1 (Zg Zcb (Zd 0) (Zi (.int 512))) (Zi (.int 3))) (Zd 1)) (Zi (.int 4))) [.val (.int n),.val (.int wide),.val (.lst (qs.map pD)),.no]=some (.nx [.val (.int n),.val (.int wide),.val (.lst (qs.map pD)),.val (.int (n/512%3*wide/4))]):=by
   simp -implicitDefEqProofs[v512,d3,m1,v4]
  rw[Zz,e1];generalize n/512%3*wide/4=b at hb;show Yc _ [.val (.int n),.val (.int wide),.val (.lst (qs.map pD)),.val (.int b)]=_;have e2:YO (Zd 2) [.val (.int n),.val (.int wide),.val (.lst (qs.map pD)),.val (.int b)]=some (qs.map pD):=Zgk rfl rfl;have e3:=ZiP b qs .no .no;have e3':ZW (Y7 0 1) ZH (QD (Zb (Zg Qy (Zd 0) (Zd 2)) (Zb (Zd 1) Zm))) (qs.map pD) (Qj [none,none,some 3] [.val (.int n),.val (.int wide),.val (.lst (qs.map pD)),.val (.int b)])=_:=e3;have hl:=hq.len;have e4:(Ys [none,none,some 3] (YO (Zd 2)) (Y7 0 1) ZH (QD (Zb (Zg Qy (Zd 0) (Zd 2)) (Zb (Zd 1) Zm)))) [.val (.int n),.val (.int wide),.val (.lst (qs.map pD)),.val (.int b)]=some (.lst ((qs.map (shf b)).map pD)):=by
   rw[Ja,e2,A5,if_pos (by rw[A_];exact Z0 (by omega)),e3'];rfl
  have ne:qs.map (shf b)≠[]:=by simpa using hq.ne
  have sm:All Sm (qs.map (shf b)):=fun p hp=>by
   obtain⟨q,hq',rfl⟩:=A8.mp hp;have:=hq.rng hw q hq';show((-1000000<=q.1-b/\q.1-b<=1000000))/\(-1000000<=q.2/\q.2<=1000000);omega
  have o:=Zgy (c:=.lst ((qs.map (shf b)).map pD)) rfl ne sm (by simp;omega);rw[W6,ZmG,Uq,e4];show(((some [D.lst ((qs.map (shf b)).map pD)]:Option (List D)).bind fun xs=>if xs.length=1 then ZS xs else none)).map _=_;rw[A5,if_pos (show([D.lst ((qs.map (shf b)).map pD)]:List D).length=1 from rfl),o];rfl
 unfold YH ZA V9;show ∃ qs b,SrcZ wide qs/\0<=b/\b<=wide/\(Zp _ (Zp _ (Zp _ _)) [.val (.int n),.val (.int wide),.no,.no]).bind _=_;have e1:Z9 2 (dFn 3 YM (Zb (Zg Zcb (Zd 0) (Zi (.int 2))) (Zb (Zd 1) (Zb (Zg Yn (Zi (.int 3)) (Zg Q1 (Zg Zcb (Zd 0) (Zi (.int 2))) (Zi (.int 5)))) Zm)))) [.val (.int n),.val (.int wide),.no,.no]=some (.nx [.val (.int n),.val (.int wide),.val (.lst ((YJ (n/2) wide many).map pD)),.no]):=by
  simp -implicitDefEqProofs[v2,d5,<-hm,sp]
 have e2:(QC (Vv (Zo (Zg Ze2 (Zg Q1 (Zd 0) (Zi (.int 2))) (Zi (.int 1)))) (Ji (Zo (dFn 1 ZZ (Zb (Zd 2) Zm))))) (Z9 2 (dFn 2 Qn (Zb (Zg Zcb (Zd 0) (Zi (.int 2))) (Zb (Zd 1) Zm)))) ZV) [.val (.int n),.val (.int wide),.val (.lst ((YJ (n/2) wide many).map pD)),.no] =
   if n%2=1\/Qt (YJ (n/2) wide many)=false then some (.nx [.val (.int n),.val (.int wide),.val (.lst ((ZL far L U).map pD)),.no]) else some (.nx [.val (.int n),.val (.int wide),.val (.lst ((YJ (n/2) wide many).map pD)),.no]):=by
  by_cases c1:n%2=1
  ·rw[if_pos (.inl c1)];simp -implicitDefEqProofs[d2,c1,v2,s5]
  ·cases hg:Qt (YJ (n/2) wide many) with
   | true=>
    rw[hg]at gd;rw[if_neg (by simp[c1])];simp -implicitDefEqProofs[d2,c1,gd]
   | false=>
    rw[hg]at gd;rw[if_pos (.inr rfl)];simp -implicitDefEqProofs[d2,c1,gd,v2,s5]
 by_cases hsaw:n%2=1\/Qt (YJ (n/2) wide many)=false
 ·rw[if_pos hsaw]at e2;have src:SrcZ wide (ZL far L U):=.inr ⟨far,L,U,rfl,s1,s2,s3,s4⟩;refine⟨ZL far L U,n/512%3*wide/4,src,hb.1,hb.2,?_⟩;rw[Zz,e1];show(Zp _ (Zp _ _) [.val (.int n),.val (.int wide),.val (.lst ((YJ (n/2) wide many).map pD)),.no]).bind _=_;rw[Zz,e2];show(Zp _ _ [.val (.int n),.val (.int wide),.val (.lst ((ZL far L U).map pD)),.no]).bind _=_;rw[tail _ src];rfl
 ·rw[if_neg hsaw]at e2;have hg:Qt (YJ (n/2) wide many)=true:=by
   cases hg:Qt (YJ (n/2) wide many) with
   | true=>rfl
   | false=>exact absurd (.inr hg) hsaw
  have src:SrcZ wide (YJ (n/2) wide many):=.inl ⟨hg,by omega,by omega,rg⟩;refine⟨_,n/512%3*wide/4,src,hb.1,hb.2,?_⟩;rw[Zz,e1];show(Zp _ (Zp _ _) [.val (.int n),.val (.int wide),.val (.lst ((YJ (n/2) wide many).map pD)),.no]).bind _=_;rw[Zz,e2];show(Zp _ _ [.val (.int n),.val (.int wide),.val (.lst ((YJ (n/2) wide many).map pD)),.no]).bind _=_;rw[tail _ src];rfl
theorem U3:∀(ns:List Int) (a:Int) (m:Nat),ns.length<=m->m<=1000->-(1000000000000*(1001-(m:Int)))<=a->a<=1000000000000*(1001-(m:Int))->(∀ n∈ns,-1000000000000<=n/\n<=1000000000000)->WJ a ns=true
 | [],a,m,_,_,_,_,_=>rfl
 | n::ns,a,m,hl,hm,h1,h2,h=>by
  have hn:=h n A6;simp only[B_]at hl;have ih:=U3 ns (a+n) (m-1) (by omega) (by omega) (by omega) (by omega) fun x hx=>h x (A3 _ hx);unfold WJ;rw[ih];simp;omega
theorem Znl{ns:List Int}(hl:ns.length<=1000)(h:∀ n∈ns,-1000000000000<=n/\n<=1000000000000):ZkZ [.lst (ns.map .int)]=some (.int ns.sum):=by
 have s:=U3 ns 0 1000 hl (by omega) (by omega) (by omega) h;unfold ZkZ;simp only[Yu,A5,UF];rw[if_pos s]
noncomputable def ZF(s:Pt×Pt):Int:=s.1.1*s.2.2-s.1.2*s.2.1
theorem WQ{x y a b:Int}(h1:-a<=x)(h2:x<=a)(h3:-b<=y)(h4:y<=b):-(a*b)<=x*y/\x*y<=a*b:=by
 have n:(x*y).natAbs<=a.natAbs*b.natAbs:=by
  rw[Int.natAbs_mul];exact Nat.mul_le_mul (by omega) (by omega)
 have e:((a.natAbs*b.natAbs:Nat):Int)=a*b:=by
  rw[Int.natCast_mul,Int.natAbs_of_nonneg (by omega),Int.natAbs_of_nonneg (by omega)]
 omega
theorem Uu(ps:List Pt):∀(ys:List Pt) (k:Int),Zc1 ps k ys=((Yh ps k ys).map ZF).sum
 | [],k=>rfl
 | a::r,k=>by
  unfold Zc1 Yh;rw[Au,Ck,Uu ps r];rfl
theorem Zdv{l m:List Int}(p:l.Perm m):l.sum=m.sum:=by
 induction p with
 | nil=>rfl
 | cons x _ ih=>simp[ih]
 | swap x y l=>simp;omega
 | trans _ _ ih1 ih2=>rw[ih1,ih2]
theorem ZeV{ps:List Pt}(hne:ps≠[]):Qf ps=((Yg ps).map ZF).sum:=by
 unfold Qf;rw[Uu];exact Zdv ((WM hne).map _)
noncomputable def Ql(f:Pt×Pt->Int):List Pt->Int
 | a::b::r=>f (a,b)+Ql f (b::r)
 | _=>0
theorem Uz(f:Pt×Pt->Int):∀(xs:List Pt) (b:Pt) (ys:List Pt),Ql f (xs++b::ys)=Ql f (xs++[b])+Ql f (b::ys)
 | [],b,ys=>by simp[Ql]
 | [a],b,ys=>by simp[Ql]
 | a::c::r,b,ys=>by
  have ih:=Uz f (c::r) b ys;simp only[B3,Ql]at ih ⊢;rw[ih,Int.add_assoc]
theorem VG(f:Pt×Pt->Int)(ps:List Pt):∀(ys:List Pt) (k:Nat),ps.drop k=ys->((Yh ps k ys).map f).sum=Ql f (ys++[cyc ps 0])
 | [],k,_=>rfl
 | [a],k,h=>by
  have hk:k+1=ps.length:=by
   have:=congrArg List.length h;simp at this;omega
  have e:cyc ps ((k:Int)+1)=cyc ps 0:=by
   have:=Y6 ps 0;rw[Bh]at this;rw[<-this]
   congr 1
   omega
  simp[Yh,e,Ql]
 | a::b::r,k,h=>by
  have hk:k<ps.length:=by
   by_cases z:k<ps.length
   ·exact z
   ·rw[ah (by omega)]at h;cases h
  rw[Aq hk]at h;injection h with h1 h2;have hk1:k+1<ps.length:=by
   by_cases z:k+1<ps.length
   ·exact z
   ·rw[ah (by omega)]at h2;cases h2
  have h2':=h2;rw[Aq hk1]at h2';injection h2' with h3 _;have ih:=VG f ps (b::r) (k+1) h2;have e1:cyc ps ((k:Int)+1)=b:=by
   have:=ZO hk1;rw[<-h3,<-this];rfl
  have ih':((Yh ps ((k:Int)+1) (b::r)).map f).sum=Ql f (b::r++[cyc ps 0]):=ih
  conv=>lhs;unfold Yh
  rw[Au,Ck,e1,ih'];rfl
noncomputable def Z1(f:Pt×Pt->Int):List Pt->Int
 | []=>0
 | a::r=>Ql f (a::r++[a])
theorem Zba(f:Pt×Pt->Int){ps:List Pt}(hne:ps≠[]):((Yg ps).map f).sum=Z1 f ps:=by
 rw[<-Zdv ((WM hne).map f)];cases ps with
 | nil=>exact absurd rfl hne
 | cons a r=>
  have:=VG f (a::r) (a::r) 0 rfl;have e:Yh (a::r) ((0:Nat):Int) (a::r)=Yh (a::r) 0 (a::r):=rfl;rw[e]at this;rw[this];have e0:cyc (a::r) 0=a:=ZO (ps:=a::r) (k:=0) (by simp);rw[e0];rfl
theorem Zae(f:Pt×Pt->Int)(xs ys:List Pt):Z1 f (xs++ys)=Z1 f (ys++xs):=by
 cases xs with
 | nil=>simp
 | cons a r=>
  cases ys with
  | nil=>simp
  | cons b q=>
   show Ql f ((a::r++b::q)++[a])=Ql f ((b::q++a::r)++[b]);rw[Bz,Bz];show Ql f ((a::r)++b::(q++[a]))=Ql f ((b::q)++a::(r++[b]));rw[Uz f (a::r) b,Uz f (b::q) a,Int.add_comm];rfl
theorem ZfO(f:Pt×Pt->Int):∀(xs:List Pt) (a b:Pt),Ql f (xs++[a,b])=Ql f (xs++[a])+f (a,b):=fun xs a b=>by
 rw[Uz f xs a [b]];simp[Ql]
theorem Zdx(f:Pt×Pt->Int):∀(xs:List Pt),Ql f xs.reverse=Ql (fun s=>f (s.2,s.1)) xs
 | []=>rfl
 | [a]=>rfl
 | a::b::r=>by
  have ih:=Zdx f (b::r);simp only[bp,Bz,B3,List.nil_append]at ih ⊢;rw[ZfO,ih];simp only[Ql];rw[Int.add_comm]
theorem ZeS(f:Pt×Pt->Int)(xs:List Pt):Z1 f xs.reverse=Z1 (fun s=>f (s.2,s.1)) xs:=by
 cases xs with
 | nil=>rfl
 | cons a r=>
  rw[bp,Zae];show Ql f (a::r.reverse++[a])=Ql _ (a::r++[a]);rw[<-Zdx];simp
theorem Zc0(f:Pt×Pt->Int)(l:List Pt):Z1 f (YK l)=Z1 f l:=by
 unfold YK;rw[Zae,B1]
theorem Zdy(f:Pt×Pt->Int):∀(xs:List Pt),Ql (fun s=>- f s) xs=- Ql f xs
 | []=>rfl
 | [a]=>rfl
 | a::b::r=>by simp only[Ql,Zdy f (b::r)];omega
theorem ZeT(f:Pt×Pt->Int)(xs:List Pt):Z1 (fun s=>- f s) xs=- Z1 f xs:=by
 cases xs with
 | nil=>rfl
 | cons a r=>exact Zdy f _
theorem Zdz(f:Pt×Pt->Int)(g:Pt->Pt):∀(xs:List Pt),Ql f (xs.map g)=Ql (fun s=>f (g s.1,g s.2)) xs
 | []=>rfl
 | [a]=>rfl
 | a::b::r=>by
  have ih:=Zdz f g (b::r);simp only[Au,Ql]at ih ⊢;rw[ih]
theorem ZeU(f:Pt×Pt->Int)(g:Pt->Pt)(xs:List Pt):Z1 f (xs.map g)=Z1 (fun s=>f (g s.1,g s.2)) xs:=by
 cases xs with
 | nil=>rfl
 | cons a r=>
  show Ql f (List.map g (a::r)++[g a])=Ql _ (a::r++[a]);rw[<-Zdz];simp
theorem Zdw(f:Pt×Pt->Int)(u:Pt->Int):∀(a:Pt) (xs:List Pt) (b:Pt),Ql (fun s=>f s+(u s.2-u s.1)) (a::xs++[b])=Ql f (a::xs++[b])+(u b-u a)
 | a,[],b=>by simp[Ql]
 | a,c::r,b=>by
  have ih:=Zdw f u c r b;simp only[B3,Ql]at ih ⊢;rw[ih];omega
theorem Zad(f:Pt×Pt->Int)(u:Pt->Int)(xs:List Pt):Z1 (fun s=>f s+(u s.2-u s.1)) xs=Z1 f xs:=by
 cases xs with
 | nil=>rfl
 | cons a r=>
  have:=Zdw f u a r a;show Ql _ (a::r++[a])=Ql _ (a::r++[a]);rw[this];omega
theorem Yt{ps:List Pt}(hne:ps≠[]):Qf ps=Z1 ZF ps:=by
 rw[ZeV hne,Zba _ hne]
theorem W9(s:Pt×Pt):ZF (s.2,s.1)=- ZF s:=by
 unfold ZF;simp only;rw[Bo s.2.1,Bo s.2.2];omega
theorem ZgY(b:Int)(s:Pt×Pt):ZF (shf b s.1,shf b s.2)=ZF s+(- (b*s.2.2) - - (b*s.1.2)):=by
 unfold ZF shf;simp only[Int.sub_mul,Int.mul_sub];rw[Bo s.1.2 b];omega
theorem ZeR(b:Int)(xs:List Pt):Z1 ZF (xs.map (shf b))=Z1 ZF xs:=by
 rw[ZeU];have:(fun s:Pt×Pt=>ZF (shf b s.1,shf b s.2))=fun s=>ZF s+((fun p:Pt=>- (b*p.2)) s.2-(fun p:Pt=>- (b*p.2)) s.1):=funext fun s=>ZgY b s;rw[this];exact Zad ZF (fun p:Pt=>- (b*p.2)) xs
theorem Vt(xs:List Pt):Z1 ZF xs.reverse=- Z1 ZF xs:=by
 rw[ZeS,<-ZeT]
 congr 1
 exact funext fun s=>W9 s
theorem ZeW{ps:List Pt}(hne:ps≠[]):Z1 ZF (Y0 ps)=((Z1 ZF ps).natAbs:Int):=by
 unfold Y0;rw[Zc0,Yt hne];by_cases h:Z1 ZF ps<0
 ·rw[if_pos h,Vt];omega
 ·rw[if_neg h];omega
theorem ZgT{ps:List Pt}(hd:ps.Nodup)(hne:ps≠[]){i j:Int}(h:cyc ps i=cyc ps j):i%(ps.length:Int)=j%(ps.length:Int):=by
 have hn:0<(ps.length:Int):=by have:=ag.mpr hne;omega
 have a1:=Ah i (show(ps.length:Int)≠0 by omega);have a2:=Ag i hn;have b1:=Ah j (show(ps.length:Int)≠0 by omega);have b2:=Ag j hn;rw[<-Y4 ps i,<-Y4 ps j]at h;obtain⟨a,ha⟩:∃ a:Nat,(a:Int)=i%(ps.length:Int):=⟨(i%(ps.length:Int)).toNat,by omega⟩;obtain⟨b,hb⟩:∃ b:Nat,(b:Int)=j%(ps.length:Int):=⟨(j%(ps.length:Int)).toNat,by omega⟩;rw[<-ha,<-hb]at h ⊢;rw[ZO (show a<ps.length by omega),ZO (show b<ps.length by omega)]at h;have:=(List.getElem_inj hd).mp h;omega
theorem Jt{n i j k:Int}(hi0:0<=i)(hi:i<n)(hj0:0<=j)(hj:j<n)(h:(i+k)%n=(j+k)%n):i=j:=by
 have:=(Int.emod_add_cancel_right k).mp h;rw[B4 hi0 hi,B4 hj0 hj]at this;exact this
theorem UN(ps:List Pt)(m c:Int):cyc ps (m%(ps.length:Int)+c)=cyc ps (m+c):=by
 unfold cyc;rw[Cf]
def rp(ps:List Pt)(k:Int)(i:Nat):Pt:=cyc ps ((i:Int)+k)
theorem Wq{ps:List Pt}(k:Int){i:Nat}(hi:i<ps.length):rp ps k (Pg.nx ps.length i)=cyc ps ((i:Int)+k+1):=by
 unfold rp Pg.nx;split
 next h=>
  have:=Y6 ps (((0:Nat):Int)+k);rw[<-this]
  congr 1
  omega
 next h=>congr 1;omega
theorem Zfz{ps:List Pt}(k:Int){i:Nat}(hi:i<ps.length):rp ps k (Pg.nx ps.length (Pg.nx ps.length i))=cyc ps ((i:Int)+k+2):=by
 rw[Wq k (Pg.nx_lt hi)];unfold Pg.nx;split
 next h=>
  have:=Y6 ps (((0:Nat):Int)+k+1);rw[<-this]
  congr 1
  omega
 next h=>congr 1;omega
theorem ZfV(a b c:Pt):onZ a b c=true ↔ Pg.onS a b c:=by
 unfold onZ Pg.onS ZkG Pg.turn Zw;simp only[As,decide_eq_true_eq];rw[show(if b.1<a.1 then b.1 else a.1)=min a.1 b.1 by omega,show(if b.1>a.1 then b.1 else a.1)=max a.1 b.1 by omega,show(if b.2<a.2 then b.2 else a.2)=min a.2 b.2 by omega,show(if b.2>a.2 then b.2 else a.2)=max a.2 b.2 by omega];exact and_assoc
theorem ZdF(a b c d:Pt):Zes a b c d=true ↔ Pg.meet a b c d:=by
 unfold Zes Pg.meet;simp only[Bool.or_eq_true,As,decide_eq_true_eq,ZfV];unfold Pg.turn Zw;constructor
 ·rintro((((h | h) | h) | h) | h)
  ·exact .inl h
  ·exact .inr (.inl h)
  ·exact .inr (.inr (.inl h))
  ·exact .inr (.inr (.inr (.inl h)))
  ·exact .inr (.inr (.inr (.inr h)))
 ·rintro(h | h | h | h | h)
  ·exact .inl (.inl (.inl (.inl h)))
  ·exact .inl (.inl (.inl (.inr h)))
  ·exact .inl (.inl (.inr h))
  ·exact .inl (.inr h)
  ·exact .inr h
theorem Ju{a b c d:Pt}(h:Pg.meet a b c d):Pg.meet c d a b:=by
 unfold Pg.meet at *;rcases h with h | h | h | h | ⟨h1,h2⟩
 ·exact .inr (.inr (.inl h))
 ·exact .inr (.inr (.inr (.inl h)))
 ·exact .inl h
 ·exact .inr (.inl h)
 ·exact .inr (.inr (.inr (.inr ⟨h2,h1⟩)))
theorem Zby{ps:List Pt}(hne:ps≠[])(h:Qt ps=true)(m:Int):Zw (cyc ps m) (cyc ps (m+1)) (cyc ps (m+2))≠0:=by
 have hn:0<(ps.length:Int):=by have:=ag.mpr hne;omega
 have a1:=Ah m (show(ps.length:Int)≠0 by omega);have a2:=Ag m hn;unfold Qt at h;simp only[As,decide_eq_true_eq,Bool.not_eq_true',decide_eq_false_iff_not]at h;obtain⟨⟨_,ht⟩,_⟩:=h;intro z;apply ht;unfold Je;refine A8.mpr ⟨(m%(ps.length:Int)).toNat,Ae.mpr (by omega),?_⟩;rw[show(((m%(ps.length:Int)).toNat:Nat):Int)=m%(ps.length:Int) by omega,UN,UN,Y4];exact z
theorem WX{ps:List Pt}(h:Qt ps=true){a b:Nat}(hab:a+2<=b)(hb:b<ps.length)(hw:((b:Int)+1)%(ps.length:Int)≠a):¬ Pg.meet (cyc ps a) (cyc ps ((a:Int)+1)) (cyc ps b) (cyc ps ((b:Int)+1)):=by
 unfold Qt at h;simp only[As,decide_eq_true_eq,Bool.not_eq_true',decide_eq_false_iff_not]at h;obtain⟨_,hB⟩:=h;intro z;have:badAny ps=true:=by
  unfold badAny;rw[bf];refine⟨a,Ae.mpr (by omega),?_⟩;unfold Zca;rw[bf];refine⟨b-(a+2),Ae.mpr (by omega),?_⟩;rw[show a+2+(b-(a+2))=b by omega];unfold ZiG;rw[As];exact⟨by simpa using hw,(ZdF _ _ _ _).mpr z⟩
 rw[this]at hB;cases hB
theorem Zgp{ps:List Pt}(h3:3<=ps.length)(h:Qt ps=true)(k:Int):Pg.Good ps.length (rp ps k):=by
 have hne:ps≠[]:=fun z=>by rw[z]at h3;simp at h3
 have hd:ps.Nodup:=by
  unfold Qt at h;simp only[As,decide_eq_true_eq]at h;exact h.1.1
 have hn:0<(ps.length:Int):=by omega
 refine⟨h3,?_,?_,?_⟩
 ·intro i j hi hj e;have:=ZgT hd hne e;have:=Jt (by omega) (by omega) (by omega) (by omega) this;omega
 ·intro i hi;rw[Wq k hi,Zfz k hi];exact Zby hne h _
 ·intro i j hi hj hij h1 h2;rw[Wq k hi,Wq k hj];unfold rp;have a1:=Ah ((i:Int)+k) (show(ps.length:Int)≠0 by omega);have a2:=Ag ((i:Int)+k) hn;have b1:=Ah ((j:Int)+k) (show(ps.length:Int)≠0 by omega);have b2:=Ag ((j:Int)+k) hn;have nab:((i:Int)+k)%(ps.length:Int)≠((j:Int)+k)%(ps.length:Int):=fun e=>by
   have:=Jt (by omega) (by omega) (by omega) (by omega) e;omega
  have nx1:(((j:Int)+k)%(ps.length:Int)+1)%(ps.length:Int)≠((i:Int)+k)%(ps.length:Int):=fun e=>by
   rw[Cf]at e;have e':((Pg.nx ps.length j:Nat)+k)%(ps.length:Int)=((i:Int)+k)%(ps.length:Int):=by
    rw[<-e];unfold Pg.nx;split
    next q=>
     rw[show(j:Int)+k+1=((0:Nat):Int)+k+ps.length by omega,Cb]
    next q=>congr 1;omega
   have:=Jt (by omega) (by have:=Pg.nx_lt hj;omega) (by omega) (by omega) e';omega
  have nx2:(((i:Int)+k)%(ps.length:Int)+1)%(ps.length:Int)≠((j:Int)+k)%(ps.length:Int):=fun e=>by
   rw[Cf]at e;have e':((Pg.nx ps.length i:Nat)+k)%(ps.length:Int)=((j:Int)+k)%(ps.length:Int):=by
    rw[<-e];unfold Pg.nx;split
    next q=>
     rw[show(i:Int)+k+1=((0:Nat):Int)+k+ps.length by omega,Cb]
    next q=>congr 1;omega
   have:=Jt (by omega) (by have:=Pg.nx_lt hi;omega) (by omega) (by omega) e';omega
  rw[<-UN ps ((i:Int)+k),<-UN ps ((j:Int)+k),<-Y4 ps ((i:Int)+k),<-Y4 ps ((j:Int)+k)];obtain⟨a,ha⟩:∃ a:Nat,(a:Int)=((i:Int)+k)%(ps.length:Int):=⟨(((i:Int)+k)%(ps.length:Int)).toNat,by omega⟩;obtain⟨b,hb⟩:∃ b:Nat,(b:Int)=((j:Int)+k)%(ps.length:Int):=⟨(((j:Int)+k)%(ps.length:Int)).toNat,by omega⟩;rw[<-ha]at a2 nab nx1 nx2 ⊢;rw[<-hb]at b2 nab nx1 nx2 ⊢;have lt1:∀{m c:Nat},m+1=c->c<ps.length->((m:Int)+1)%(ps.length:Int)=c:=fun {m c} e hc=>by
   rw[B4 (by omega) (by omega)];omega
  by_cases hlt:a<b
  ·have:a+1≠b:=fun e=>nx2 (lt1 e (by omega));exact WX h (by omega) (by omega) nx1
  ·have:b+1≠a:=fun e=>nx1 (lt1 e (by omega));exact fun z=>WX h (a:=b) (b:=a) (by omega) (by omega) nx2 (Ju z)
theorem Zga(p q:Pt):ltZ p q=true ↔ Pg.lexlt p q:=by unfold ltZ Pg.lexlt;simp
theorem ZaY:∀(xs:List Pt) (b:Pt),∀ x∈b::xs,¬ Pg.lexlt x (ZaZ b xs)
 | [],b,x,h=>by
  rw[A0]at h;subst h;unfold ZaZ Pg.lexlt;omega
 | y::ys,b,x,h=>by
  unfold ZaZ;cases hl:ltZ y b with
  | true=>
   have ih:=ZaY ys y;simp only[if_true];rcases A4.mp h with rfl | h
   ·have i0:=ih y A6;have l:=(Zga _ _).mp hl;unfold Pg.lexlt at *;omega
   ·exact ih x h
  | false=>
   have ih:=ZaY ys b;simp only[Af,if_false];rcases A4.mp h with rfl | h
   ·exact ih x A6
   ·rcases A4.mp h with rfl | h
    ·have i0:=ih b A6;have l:¬ Pg.lexlt x b:=fun z=>by rw[(Zga _ _).mpr z]at hl;cases hl
     unfold Pg.lexlt at *;omega
    ·exact ih x (A3 _ h)
theorem ZaD{ps:List Pt}(hne:ps≠[]):∀ x∈ps,¬ Pg.lexlt x (YZ ps):=by
 cases ps with
 | nil=>exact absurd rfl hne
 | cons b xs=>exact ZaY xs b
theorem Zge{a b:Pt}(h1:¬ Pg.lexlt a b)(h2:a≠b):Pg.lexlt b a:=by
 have:a.1≠b.1\/a.2≠b.2:=by
  apply A1;intro z;apply h2;exact Bw (by omega) (by omega)
 unfold Pg.lexlt at *;omega
theorem Zlc(f:Nat->Int):∀(n:Nat),((List.range n).map f).sum=Pg.S n f
 | 0=>rfl
 | n+1=>by
  rw[List.range_succ,bi,List.sum_append,Zlc f n];simp[Pg.S]
theorem Zd4(g:Int->Int):∀(n:Nat),Pg.S n (fun i=>g ((i:Int)+1))+g 0=Pg.S n (fun i=>g i)+g n
 | 0=>rfl
 | n+1=>by
  have ih:=Zd4 g n;simp only[Pg.S];have:((n+1:Nat):Int)=(n:Int)+1:=by omega
  rw[this];omega
theorem Zhn(n:Nat):∀(k:Nat) (g:Int->Int),(∀ i,g (i+n)=g i)->Pg.S n (fun i=>g ((i:Int)+k))=Pg.S n (fun i=>g i)
 | 0,g,h=>Pg.S_congr fun j _=>by simp
 | k+1,g,h=>by
  have ih:=Zhn n k (fun i=>g (i+1)) fun i=>by
   show g (i+n+1)=g (i+1);rw[show i+(n:Int)+1=i+1+n by omega,h]
  have s:=Zd4 g n;have z:=h 0;rw[Bh]at z;have e:Pg.S n (fun i=>g ((i:Int)+((k+1:Nat):Int)))=Pg.S n (fun i=>g ((i:Int)+k+1)):=Pg.S_congr fun j _=>by congr 1
  rw[e];have ih':Pg.S n (fun i=>g ((i:Int)+k+1))=Pg.S n (fun i=>g ((i:Int)+1)):=ih;rw[ih'];omega
theorem ZkJ(ps:List Pt):Qf ps=Pg.S ps.length (fun(j:Nat)=>ZF (JR ps (j:Int))):=by
 have e:=Jl ps ps 0 rfl;unfold Qf;rw[Uu];have e':Yh ps ((0:Nat):Int) ps=Yh ps 0 ps:=rfl;rw[<-e',e,Bj,<-Zlc]
 congr 1
 apply Bb;intro j _;simp only[Function.comp,Nat.zero_add]
theorem Zhh{ps:List Pt}(k:Nat):Pg.area ps.length (rp ps k)=Qf ps:=by
 rw[ZkJ,<-Zhn ps.length k (fun i=>ZF (JR ps i)) (fun i=>by
  unfold JR;rw[Y6,show i+(ps.length:Int)+1=i+1+ps.length by omega,Y6])]
 unfold Pg.area;refine Pg.S_congr fun i hi=>?_;rw[Wq _ hi];rfl
theorem Zgq{ps:List Pt}(h3:3<=ps.length)(h:Qt ps=true):Qf ps≠0:=by
 have hne:ps≠[]:=fun z=>by rw[z]at h3;simp at h3
 have g:=Zgp h3 h (Qm (YZ ps) ps:Nat);obtain⟨k1,k2⟩:=UZ (Y9 hne);have e0:rp ps (Qm (YZ ps) ps:Nat) 0=YZ ps:=by
  unfold rp;rw[show(((0:Nat):Int)+((Qm (YZ ps) ps:Nat):Int))=((Qm (YZ ps) ps:Nat):Int) by omega,ZO k1];rw[a_ k1]at k2;exact Option.some.inj k2
 rw[<-Zhh (ps:=ps) (Qm (YZ ps) ps)];refine Pg.area_nz g fun i h0 hi=>?_;rw[e0];refine Zge (ZaD hne _ (Y5 hne _)) fun z=>?_;have:=g.inj i 0 hi (by omega) (z.trans e0.symm);omega
theorem ZaU(s:Pt×Pt)(q:Pt):QH s q=decide (Pg.fx (s.1.2-q.2) (s.2.2-q.2) (Zw s.1 s.2 q)≠0):=by
 have sw:Zw s.2 s.1 q=- Zw s.1 s.2 q:=Pg.turn_swap s.1 s.2 q;unfold QH;rw[sw,Cc];unfold Pg.fx;by_cases h:s.2.2<s.1.2
 ·rw[if_pos h];simp only[As,decide_eq_true_eq];constructor
  ·rintro⟨⟨h1,h2⟩,h3⟩;rw[if_neg (by omega),if_pos (by omega)];decide
  ·intro z;by_cases c1:s.1.2-q.2<=0/\0<s.2.2-q.2/\0<Zw s.1 s.2 q
   ·omega
   ·rw[if_neg c1]at z;by_cases c2:s.2.2-q.2<=0/\0<s.1.2-q.2/\Zw s.1 s.2 q<0
    ·omega
    ·rw[if_neg c2]at z;exact absurd rfl z
 ·rw[if_neg h];simp only[As,decide_eq_true_eq];constructor
  ·rintro⟨⟨h1,h2⟩,h3⟩;rw[if_pos (by omega)];decide
  ·intro z;by_cases c1:s.1.2-q.2<=0/\0<s.2.2-q.2/\0<Zw s.1 s.2 q
   ·omega
   ·rw[if_neg c1]at z;by_cases c2:s.2.2-q.2<=0/\0<s.1.2-q.2/\Zw s.1 s.2 q<0
    ·omega
    ·rw[if_neg c2]at z;exact absurd rfl z
theorem ZaL(h k t:Int):Pg.fx h k t=0\/Pg.fx h k t=1\/Pg.fx h k t=-1:=by
 unfold Pg.fx;split
 ·simp
 ·split<;>simp
theorem ZfU{u v w x:Pt}(h:0<Pg.turn u v w)(o:Pg.onS u w x):Pg.inT u v w x:=by
 have ne:u≠w:=(Pg.turn_ne h).2.2;obtain⟨K,r,hK,r0,rK,_,lin⟩:=Pg.on_param o ne;have pos:∀{z:Int},0<=K*z->0<=z:=by
  intro z hz;rcases A9 z 0 with q | q
  ·have:=Pg.pn hK q;omega
  ·exact q
 have a1:=lin u v;have a2:=lin v w;rw[Pg.turn_self,bh]at a1;rw[Pg.turn_self',bh,show Pg.turn v w u=Pg.turn u v w from Pg.turn_rot u v w]at a2;have b1:=Pg.pp0 r0 (Ai h);have b2:=Pg.pp0 (show 0<=K-r by omega) (Ai h);have o0:=o.1;refine⟨pos (by omega),pos (by omega),?_⟩;rw[Pg.turn_swap];omega
theorem Za5{a b c:Pt}(h:0<Zw a b c)(q:Pt):YR [a,b,c] q="out" ↔ ¬ Pg.inT a b c q:=by
 have h':0<Pg.turn a b c:=h;have es:Yg [a,b,c]=[(c,a),(a,b),(b,c)]:=rfl;have hA:Pg.turn a b c=Pg.turn b c q+Pg.turn c a q+Pg.turn a b q:=Pg.bary1 a b c q;have ey:Pg.turn b c q*(a.2-q.2)+Pg.turn c a q*(b.2-q.2)+Pg.turn a b q*(c.2-q.2)=0:=by unfold Pg.turn;grind
 unfold YR;rw[es];have cnt:(([(c,a),(a,b),(b,c)]:List (Pt×Pt)).filter fun s=>QH s q).length%2=1 ↔ (Pg.fx (a.2-q.2) (b.2-q.2) (Pg.turn a b q)+Pg.fx (b.2-q.2) (c.2-q.2) (Pg.turn b c q)+Pg.fx (c.2-q.2) (a.2-q.2) (Pg.turn c a q))%2=1:=by
  have e1:QH (c,a) q=decide (Pg.fx (c.2-q.2) (a.2-q.2) (Pg.turn c a q)≠0):=ZaU (c,a) q;have e2:QH (a,b) q=decide (Pg.fx (a.2-q.2) (b.2-q.2) (Pg.turn a b q)≠0):=ZaU (a,b) q;have e3:QH (b,c) q=decide (Pg.fx (b.2-q.2) (c.2-q.2) (Pg.turn b c q)≠0):=ZaU (b,c) q;simp only[List.filter_cons,List.filter_nil,e1,e2,e3];rcases ZaL (c.2-q.2) (a.2-q.2) (Pg.turn c a q) with x | x | x<;>rcases ZaL (a.2-q.2) (b.2-q.2) (Pg.turn a b q) with y | y | y<;>rcases ZaL (b.2-q.2) (c.2-q.2) (Pg.turn b c q) with z | z | z<;>rw[x,y,z]<;>simp
 by_cases hin:Pg.inT a b c q
 ·simp only[hin,not_true,iff_false];obtain⟨t1,t2,t3⟩:=hin;by_cases on:(([(c,a),(a,b),(b,c)]:List (Pt×Pt)).any fun s=>onZ s.1 s.2 q)=true
  ·rw[if_pos on];decide
  ·rw[if_neg on];simp only[List.any_cons,List.any_nil,C0,Bool.or_eq_true,not_or,ZfV]at on;have p1:0<Pg.turn a b q:=by
    rcases A9 0 (Pg.turn a b q) with z | z
    ·exact z
    ·exact absurd (Pg.on_edge h' ⟨t1,t2,t3⟩ (by omega)) on.2.1
   have p2:0<Pg.turn b c q:=by
    rcases A9 0 (Pg.turn b c q) with z | z
    ·exact z
    ·exact absurd (Pg.on_edge (by rw[Pg.turn_rot];exact h') ⟨t2,t3,t1⟩ (by omega)) on.2.2
   have p3:0<Pg.turn c a q:=by
    rcases A9 0 (Pg.turn c a q) with z | z
    ·exact z
    ·exact absurd (Pg.on_edge (by rw[Pg.turn_rot,Pg.turn_rot];exact h') ⟨t3,t1,t2⟩ (by omega)) on.1
   have nz:a.2-q.2≠0\/b.2-q.2≠0\/c.2-q.2≠0:=by
    apply A1;intro z;have e1:a.2=b.2:=by omega
    have e2:b.2=c.2:=by omega
    have:Pg.turn a b c=0:=by unfold Pg.turn;rw[e1,e2];simp
    omega
   rw[if_pos (cnt.mpr (by rw[Pg.tri_in ey p1 p2 p3 nz];decide))];decide
 ·simp only[hin,not_false_iff,iff_true];have on:¬ (([(c,a),(a,b),(b,c)]:List (Pt×Pt)).any fun s=>onZ s.1 s.2 q)=true:=by
   simp only[List.any_cons,List.any_nil,C0,Bool.or_eq_true,not_or,ZfV];refine⟨fun o=>hin (ZfU h' (Pg.onS_symm o)),fun o=>hin ?_,fun o=>hin ?_⟩
   ·have:=ZfU (u:=b) (v:=c) (w:=a) (by rw[Pg.turn_rot];exact h') (Pg.onS_symm o);exact⟨this.2.2,this.1,this.2.1⟩
   ·have:=ZfU (u:=c) (v:=a) (w:=b) (by rw[Pg.turn_rot,Pg.turn_rot];exact h') (Pg.onS_symm o);exact⟨this.2.1,this.2.2,this.1⟩
  rw[if_neg on,if_neg];rw[cnt,Pg.tri_out ey (by omega) (by
   apply A1;intro z;exact hin ⟨by omega,by omega,by omega⟩)]
  decide
def ZbN(L:List Pt)(a b c:Pt):Bool:=decide (0<Zw a b c)&&L.all fun x=>(decide (x=a)||decide (x=b)||decide (x=c))||decide (YR [a,b,c] x="out")
theorem ZeM(L:List Pt)(a b c:Pt):ZbN L a b c=true ↔ Pg.comes L a b c:=by
 unfold ZbN Pg.comes;rw[As,decide_eq_true_eq];constructor
 ·rintro⟨h,al⟩;refine⟨h,fun x hx n1 n2 n3=>?_⟩;have:=aa.mp al x hx;simp only[n1,n2,n3,decide_false,C0,Bool.false_or,decide_eq_true_eq]at this;exact(Za5 h x).mp this
 ·rintro⟨h,al⟩;refine⟨h,aa.mpr fun x hx=>?_⟩;by_cases n1:x=a
  ·simp[n1]
  ·by_cases n2:x=b
   ·simp[n2]
   ·by_cases n3:x=c
    ·simp[n3]
    ·simp only[n1,n2,n3,decide_false,C0,Bool.false_or,decide_eq_true_eq];exact(Za5 h x).mpr (al x hx n1 n2 n3)
end Pl
namespace L3
open PySem PySem.Spec PyProof.Rows L2
section
variable{X:Cx}{pins:List (Addr×Obj)}{s:Shared}{σ:L2.St}{H:Hp}
end
theorem U4{es rest:List Expr}{x1}{pos:Pos}{env:Env}:starEach (.Tuple es x1 pos::rest) env=(false,eval (.Tuple es x1 pos) env)::starEach rest env:=rfl
section
variable{X:Cx}{pos:Pos}{e:Expr}{f g:DE}
end
section
variable{X:Cx}{pos:Pos}{e:Expr}{f g:DE}
end
def Its(x:Str):It:=⟨fun i _=>i<x.length,fun i H v H'=>H'=H/\∃ c,x.cps[i]?=some c/\v=.str ⟨#[c]⟩,fun i _=>x.length<=i⟩
section
variable{X:Cx}{pos:Pos}{tg l:Expr}{f:DE}
end
end L3
namespace L3
open PySem
end L3
namespace L3
open PySem PySem.Spec PyProof.Rows L2
section
open PySem.AutoSeq1 (wpAny_loadPart')
open PySem.MeetsSeq PySem.SeqAt
theorem ZjJ(l:Addr)(its:Array Value)(n:Nat)(x:Value)(e:Value->Bool)(j:Nat)(hj:j<its.size)(yes:e its[j]=true)(hz:its.size<=sizeLine):∀(k i:Nat),j-i=k->i<=j->(∀ m (hm:m<its.size),i<=m->m<j->e its[m]=false) ->
  Meets (Builtin.«list.remove.loop» ⟨[.ref l,x,rawInt i],[]⟩) (fun A R s=>s.heap.get? l=some {cls:=.type "list",dict:=none,data:=.seq its n,slots:=#[]}/\(∀ y,y∈its->EqAt A.in1 s y x (e y)) /\
   R (.ok (.ret .none)) {s with heap:=s.heap.update l (Obj.mapSeq fun xs=>xs.eraseIdxIfInBounds j)}):=by
 intro k
 induction k with
 | zero=>
  intro i hk hij no prog w A R s hh;obtain⟨hp,g,d,tk,os⟩:=s;obtain⟨hl,he,h⟩:=hh;obtain rfl:i=j:=by omega
  wp_walk using wpAny_loadPart' hl
  rw[show its[((i:Nat):Int).toNat]?=some its[i] by simp[hj]];refine wpAny_bind (he _ (Array.getElem_mem hj) prog w _ _ ?_);rw[yes];have hz2:(its.eraseIdxIfInBounds i).size<=sizeLine+1:=Ax (size_erased its i) (Nat.le_succ_of_le hz)
  wp_walk using(wpAny_updateSeq hl rfl (hz:=hz) (_hz':=hz2)),wpAny_loadPart' hl
  simpa using h
 | succ k ih=>
  intro i hk hij no prog w A R s hh;obtain⟨hp,g,d,tk,os⟩:=s;obtain⟨hl,he,h⟩:=hh;have lt:i<its.size:=by omega
  wp_walk using wpAny_loadPart' hl
  rw[show its[((i:Nat):Int).toNat]?=some its[i] by simp[lt]];refine wpAny_bind (he _ (Array.getElem_mem lt) prog w _ _ ?_);rw[no i lt (A7 _) (by omega)]
  wp_walk
  rw[show((i:Int)+1)=((i+1:Nat):Int) by push_cast;rfl];exact⟨plainId_quiet plain_remove_loop _,codeAny_builtin entry_remove_loop (by
   rw[Around.under_plainId plain_remove_loop _];exact ih (i+1) (by omega) (by omega) (fun m hm a b=>no m hm (by omega) b) prog w A R _ ⟨hl,he,h⟩)⟩
theorem Znn(l:Addr)(its:Array Value)(n:Nat)(x:Value)(e:Value->Bool)(j:Nat)(hj:j<its.size)(yes:e its[j]=true)(no:∀ m (hm:m<its.size),m<j->e its[m]=false)(hz:its.size<=sizeLine):
  Meets (Builtin.«list.remove» ⟨[.ref l,x],[]⟩) (fun A R s=>s.heap.get? l=some {cls:=.type "list",dict:=none,data:=.seq its n,slots:=#[]}/\(∀ y,y∈its->EqAt A.in1 s y x (e y)) /\
   R (.ok (.ret .none)) {s with heap:=s.heap.update l (Obj.mapSeq fun xs=>xs.eraseIdxIfInBounds j)}):=by
 intro prog w A R s hh;obtain⟨hp,g,d,tk,os⟩:=s;obtain⟨hl,he,h⟩:=hh
 wp_walk using wpAny_loadPart' hl
 exact⟨plainId_quiet plain_remove_loop _,codeAny_builtin entry_remove_loop (by
  rw[Around.under_plainId plain_remove_loop _];exact ZjJ l its n x e j hj yes hz _ 0 rfl (Be _) (fun m hm _ b=>no m hm b) prog w A R _ ⟨hl,he,h⟩)⟩
end
section
variable{X:Cx}{pos:Pos}{e:Expr}{f:DE}
def ZoE(K:Frag):V->List V->Hp->VK->Prop:=fun x vs H Q=>∃ l xs ds y F u j,x=.ref l/\vs=[u]/\H l=some (.lst xs)/\RepL K F H ds xs/\Rep K F H y u/\(okD y=true/\okD (.lst ds)=true/\ds.length<=lim)/\UI y ds=some j/\Q .non (upd H l (.lst (xs.eraseIdx j)))
theorem Zd7{us:List V}{vs:List Value}(h:Vals us vs):∀ j,Vals (us.eraseIdx j) (vs.eraseIdx j):=by
 induction h with
 | nil=>intro j;simp;exact .nil
 | cons a b ih=>
  intro j;cases j with
  | zero=>exact b
  | succ j=>exact .cons a (ih j)
theorem WO{K:Frag}{F:Fz}{H:Hp}:∀{ds:List D} {vs:List V} (j:Nat),RepL K F H ds vs->RepL K F H (ds.eraseIdx j) (vs.eraseIdx j)
 | [],vs,j,h=>by rw[h.unnil];simp;exact .nil
 | d::ds,vs,j,h=>by
  obtain⟨y,ys,rfl,h1,h2⟩:=h.uncons;cases j with
  | zero=>exact h2
  | succ j=>exact .cons h1 (WO j h2)
theorem Zf5(hu:X.A.units+64<cLine):MtM X "list.remove" (ZoE X.K):=by
 intro pins s σ H x vs v us Q I rx rv h;obtain⟨l,xs,ds,dy,F,u0,j,rfl,rfl,hH,r1,r2,⟨k1,k2,hz⟩,ej,q⟩:=h;cases rx;obtain⟨w,rfl,rw'⟩:=VD rv;obtain⟨z,its,n,r,hl,eo⟩:=I.lstM hH;obtain⟨bs,a2⟩:=Yi I r2 rw';obtain⟨as,ra⟩:=Qk I r1 r;have d1:=okD.dep k1;have c1:=okD.can k1;have c2:=okD.can k2;simp only[YS,PyData.canLay0]at c2;have hlen:its.length=ds.length:=by rw[<-r.length,r1.length]
 obtain⟨⟨y,y1,y2⟩,no⟩:=JP dy ej;have hj:j<ds.length:=(Ap.mp y1).1;have rd:∀(i:Nat) (hi:i<its.toArray.size) y,ds[i]?=some y->PyData.eqv (SeqAt.readOf s.heap its.toArray[i]) (YS dy)=deq y dy:=fun i hi y ey=>by
  obtain⟨d',e1,e2⟩:=QF ra c2 i its.toArray[i] (by simp);rw[Uw,ey]at e1;cases e1;rw[e2];rfl
 have hm:min (PyData.depthAll (ZU ds)) (YS dy).depth<=30:=Ax (b8 _ _) d1;have hs:ds.length<=sizeLine:=JX hz;refine call_meets PySem.F.slot_list_remove ⟨_,eo,rfl⟩ PySem.F.entry_list_remove (PySem.F.args_list_remove_2 _ _)
  (Znn l its.toArray n w (fun y=>PyData.eqv (SeqAt.readOf s.heap y) (YS dy)) j (by simp;omega) (by rw[rd j (by simp;omega) y y1];exact y2) (fun m hm hlt=>?_) (by simp;omega))
  ⟨eo,SeqAt.items_eqAt (by simpa using ra) a2 c2 c1 (by omega),?_⟩
 ·have hml:m<ds.length:=by simp at hm;omega
  rw[rd m hm ds[m] (by simp[hml])];exact no m _ hlt (by simp[hml])
 ·refine⟨.non,_,I.lset (its':=its.eraseIdx j) hH eo (by simp[List.eraseIdxIfInBounds_toArray]) (Zd7 r j) ?_,rfl,q⟩;have:=List.length_eraseIdx_le xs j;have:=r.length;omega
def ZmE(i:Nat)(f:DE):DS:=fun ρ=>match ρ[i]? with
 | some (.own ds)=>(f ρ).bind fun d=>if okD d=true/\okD (.lst ds)=true/\ds.length<=lim then(UI d ds).map fun j=>.nx (ρ.set i (.own (ds.eraseIdx j))) else none
 | _=>none
theorem Zfp{i:Nat}{x:Expr}{pos' apos:Pos}(hu:X.A.units+64<cLine)(hx:PE X x (Zla i))(he:ED X e f)
  (hbase:attributeBase x "remove" X.env (eval x X.env)=eval x X.env:=by rfl)
  (hfew:((backTo pos' (starEach [e] X.env)).all (fun x=>!x.1)&&(backToKw pos' (keywordEach [] X.env)).all (fun x=>x.1.isSome)
   && decide ([e].length+([]:List Keyword).length+(if([]:List Keyword).isEmpty then 0 else 1)<30))=true:=by rfl)
  (hline:(apos.endLine==pos'.line)=true:=by rfl) (hs:starEach [e] X.env=(false,eval e X.env)::starEach [] X.env:=by rfl) (hplain:(backTo pos' (starEach [] X.env)).any (·.1)=false:=by rfl)
  (hsw:swapsWith (.Call (.Attribute x "remove" apos) [e] [] pos') none pos.line X.env=pure false:=by rfl) :
  SD X (.Expr (.Call (.Attribute x "remove" apos) [e] [] pos') pos) (ZmE i f):=
 PS.imp (ZfG (Zj1 PySem.F.plainAttrs_list PySem.F.slot_list_remove PySem.F.type_list_remove (Zf5 hu) hx (Zas he ZdA hs) hbase hfew hline hs hplain) hsw) fun E σ H zq=>by
  obtain⟨ρ,F0,H0,F,o,ok,e,k⟩:=zq;unfold ZmE at e;split at e
  ·rename_i ds ho
   obtain⟨d,ed,e⟩:=bind_some e;obtain⟨hl,e⟩:(okD d=true/\okD (.lst ds)=true/\ds.length<=lim)/\(UI d ds).map (fun j=>Out.nx (ρ.set i (.own (ds.eraseIdx j))))=some o:=by
    by_cases c:okD d=true/\okD (.lst ds)=true/\ds.length<=lim
    ·rw[if_pos c]at e;exact⟨c,e⟩
    ·rw[if_neg c]at e;cases e
   obtain⟨j,ej,rfl⟩:=map_some e;obtain⟨a,xs,h1,h2,h3,h4,h5⟩:=ok.own i ds ho;refine⟨_,h1,.inl ⟨rfl,xs,.of h2⟩,ρ,F0,H0,F,d,ok,ed,fun v F1 H1 g1 r1=>?_⟩;have ok1:=ok.grow g1;have h2':=g1.same _ _ h2;obtain⟨a',xs',q1,q2,q3,q4,q5⟩:=ok1.own i ds ho;rw[h1]at q1;cases q1;rw[h2']at q2;cases q2;exact⟨a,xs,ds,d,F1,v,j,rfl,rfl,h2',q5,r1,hl,ej,k _ F1 _ (g1.ext.trans (We h2' q3)) (ok1.wrt ho h1 h2' (WO j q5))⟩
  ·cases e
theorem ZeP:WE X (.type "list") (fun xs H Q=>∃ p ys,xs=[.ref p]/\(SqL X.K H p ys\/SqT X.K H p ys)/\∀ l,H l=none->X.K.lookup l=none->Q (.ref l) (upd H l (.lst ys))):=by
 intro pins s σ H xs us Q I r h;obtain⟨p,ys,rfl,hq,q⟩:=h;obtain⟨u,rfl,rx⟩:=VD r;cases rx;have hk:X.K.lookup s.heap.objs.size=none:=by
  cases e:X.K.lookup s.heap.objs.size with
  | none=>rfl
  | some o=>exact absurd (Heap.lt_size (I.kIn _ o e)) (aq _)
 have done:∀(its:List Value),Vals ys its->ys.length<=sizeLine->∀(h':Heap) (c:Nat),(∀ b o',s.heap.get? b=some o'->h'.get? b=some o') ->
   h'.get? s.heap.objs.size=some {cls:=.type "list",dict:=none,data:=.seq its.toArray c,slots:=#[]}->EP X pins σ Q (.ref s.heap.objs.size) {s with heap:=h'}:=fun its r2 hz h' c kp e=>
  ⟨.ref s.heap.objs.size,_,I.laid (t':=s.toks) kp (A7 _) (show ObjOk X.prog X.w _ h' _ (.lst ys) from⟨hz,its,c,r2,e⟩),rfl,q _ (I.hok.fresh (A7 _)) hk⟩
 rcases hq with hq | hq
 ·obtain⟨its,r2,pl,hz⟩:=I.list hq;have hl:=r2.length;obtain⟨o,ho,hc,n,hd⟩:=pl.isList;exact call_list_seq p (.inl rfl) ho hc hd (fun h' c kp e=>done its r2 hz h' c kp e) (by simp only[Ac];omega)
 ·obtain⟨its,r2,pl,hz⟩:=I.tuple hq;have hl:=r2.length;obtain⟨o,ho,hc,n,hd⟩:=pl;exact call_list_seq p (.inr rfl) ho hc hd (fun h' c kp e=>done its r2 hz h' c kp e) (by simp only[Ac];omega)
def ZaR(i:Nat)(f:DE):DS:=fun ρ=>(f ρ).bind fun d=>(Yu d).bind fun xs=>some (.nx (ρ.set i (.own xs)))
theorem Zei{i:Nat}{x:Str}{pos' p1 p2:Pos}(hN:X.N.Nodup)(hi:X.N[i]?=some x)(hx:Loc X.env.scope x)(hgl:Gl X "list")(hml:X.mg "list"=none)(he:ED X e f)
  (hst:starEach [e] X.env=(false,eval e X.env)::starEach [] X.env:=by rfl)(hpl:(backTo p2 (starEach [] X.env)).any (·.1)=false:=by rfl)
  (hs:swapsWith (.Call (.Name "list" p1) [e] [] p2) (some (.Name x pos')) pos.line X.env=pure false:=by rfl)
  (hf:X.fn x=true\/X.env.scope.names.lookup x=some .local:=by first | exact .inl rfl | exact .inr rfl | assumption):SD X (.Assign [.Name x pos'] (.Call (.Name "list" p1) [e] [] p2) pos) (ZaR i f):=
 PS.imp (ZfF hN hi hx (Zbh ZeP hgl hml PyProof.Rows.boot_list (Zas he ZdA hst) (by decide) (by decide) hst hpl) hs hf) fun E σ H zq=>by
  obtain⟨ρ,F0,H0,F,o,ok,e,k⟩:=zq;obtain⟨d,ed,e⟩:=bind_some e;obtain⟨xs,ex,e⟩:=bind_some e;cases e;refine⟨ρ,F0,H0,F,d,ok,ed,fun v F1 H1 g1 r1=>?_⟩;obtain⟨a,vs,rfl,hq,hr⟩:=VV ex r1;exact⟨a,vs,rfl,hq,fun p hp hk=>k _ F1 _ (g1.trans (.laid0 hp)).ext ((ok.grow g1).setOwn hp hk hr)⟩
def Ziu(i:Nat)(f:DE):DS:=fun ρ=>match ρ[i]? with
 | some (.val (.int a))=>(f ρ).bind fun d=>match d with | .int b=>some (.nx (ρ.set i (.val (.int (a+b))))) | _=>none
 | _=>none
theorem Zln{i:Nat}{x:Str}{pos':Pos}(hN:X.N.Nodup)(hi:X.N[i]?=some x)(hx:Loc X.env.scope x)(he:ED X e f)
  (hf:X.fn x=true\/X.env.scope.names.lookup x=some .local:=by first | exact .inl rfl | exact .inr rfl | assumption):SD X (.AugAssign (.Name x pos') .Add e pos) (Ziu i f):=
 PS.imp (ZlB hN hi hx he Zmq hf) fun E σ H zq=>by
  obtain⟨ρ,F0,H0,F,o,ok,e,k⟩:=zq;unfold Ziu at e;split at e
  ·rename_i a ha
   obtain⟨d,ed,e⟩:=bind_some e;cases d with
   | int b=>
    cases e;obtain⟨v,e1,e2⟩:=ok.val i _ ha;unfold Rep at e2;subst e2;refine⟨_,e1,ρ,F0,H0,F,_,ok,ed,fun v F' H' g r=>?_⟩;unfold Rep at r;subst r;exact⟨_,_,rfl,rfl,k _ F' H' g.ext ((ok.grow g).set (Z3 _))⟩
   | _=>cases e
  ·cases e
end
section
open PySem.MeetsSeq PySem.SeqAt
theorem Znc(l:Addr)(its:Array Value)(n:Nat)(dd:Option Addr)(sl:Array (Option Value))(x:Value)(e:Value->Bool)(j:Nat)(hj:j<its.size)(yes:e its[j]=true)(no:∀ m (hm:m<its.size),m<j->e its[m]=false):
  Meets (Builtin.«tuple.index» ⟨[.ref l,x],[]⟩) (fun A R s=>s.heap.get? l=some {cls:=.type "tuple",dict:=dd,data:=.seq its n,slots:=sl}/\(∀ y,y∈its->EqAt A.in1 s y x (e y)) /\
   R (.ok (.ret (.int j s.toks))) {s with toks:=s.toks+1}):=
 .of_wp fun prog w A R s hh=>by
  obtain⟨hl,he,h⟩:=hh;unfold Builtin.«tuple.index»;refine wpAny_bind (wpAny_of_eq (a:=(Value.ref l,[x])) rfl ?_);refine wpAny_bind (wpAny_tupleItemsOf hl rfl ?_);refine wpAny_bind (wpAny_pure ?_);refine wpAny_bind (wpAny_pure ?_);dsimp only;rw[Std.Legacy.Range.forIn_eq_forIn_range'];refine wpAny_bind ?_;refine wpAny_forIn_list _ (fun left r s'=>r.1=none/\s'=s/\∃ i,i<=j/\left=List.range' i (its.size-i) 1) _ (fun v left r s' hr=>?_) (fun r s' hr=>?_) _ _ ⟨rfl,rfl,0,Be _,by simp[Std.Legacy.Range.size]⟩
  ·obtain⟨_,rfl,i,hi,hv⟩:=hr;have li:i<its.size:=by omega
   rw[show its.size-i=(its.size-i-1)+1 by omega,List.range'_succ]at hv;injection hv with hv1 hv2;subst hv1;rw[show its[v]?=some its[v] by simp[li]];dsimp only;refine wpAny_bind (he _ (Array.getElem_mem li) prog w _ _ ?_);by_cases c:v=j
   ·subst c;rw[yes,if_pos rfl];refine wpAny_bind ?_;unfold retInt;refine wpAny_bind (wpAny_mkInt ?_);exact wpAny_pure (wpAny_pure (wpAny_pure ⟨_,rfl,h⟩))
   ·rw[no v li (by omega),if_neg (by decide)];exact wpAny_pure ⟨rfl,rfl,v+1,by omega,by rw[hv2];congr 1⟩
  ·obtain⟨_,rfl,i,hi,hv⟩:=hr;have:=congrArg List.length hv;simp at this;omega
end
section
variable{X:Cx}
def ZcP:D->D->Option D
 | .lst xs,x=>ZbM (.lst xs) x
 | .tup xs,x=>if okD x&&okD (.lst xs)&&decide (xs.length<=lim) then(UI x xs).map fun(j:Nat)=>D.int (j:Int) else none
 | _,_=>none
def Zno(K:Frag):V->List V->Hp->VK->Prop:=fun v vs H Q=>∃ xs y F d u,vs=[u]/\Rep K F H (.tup xs) v/\Rep K F H y u/\ZcP (.tup xs) y=some d/\∀ w F' H',Grow F H F' H'->Rep K F' H' d w->Q w H'
theorem Zf6(hu:X.A.units+64<cLine):MtR X "tuple.index" (Zno X.K):=by
 intro pins s σ H x xs v us Q I rx rs h;obtain⟨ds,dy,F,d,u,rfl,r1,r2,e,q⟩:=h;have e:(if(okD dy&&okD (.lst ds)&&decide (ds.length<=lim))=true then(UI dy ds).map fun(j:Nat)=>D.int (j:Int) else none)=some d:=e;by_cases hk:(okD dy&&okD (.lst ds)&&decide (ds.length<=lim))=true
 ·rw[if_pos hk]at e;obtain⟨j,ej,rfl⟩:=map_some e;obtain⟨hk,hz⟩:=Ad.mp hk;obtain⟨k1,k2⟩:=Ad.mp hk;have hz:ds.length<=lim:=of_decide_eq_true hz;obtain⟨w,rfl,rw'⟩:=VD rs;obtain⟨bs,a2⟩:=Yi I r2 rw';unfold Rep at r1;obtain⟨a,vs,rfl,hq,hr⟩:=r1;cases rx;obtain⟨its,rv,pl,_⟩:=I.tuple hq;obtain⟨as,ra⟩:=Qk I hr rv;have d1:=okD.dep k1;have c1:=okD.can k1;have c2:=okD.can k2;simp only[YS,PyData.canLay0]at c2;obtain⟨⟨cls,dd,data,sl⟩,ho,hc,n,hd⟩:=pl;simp only at hc hd;subst hc hd;have hlen:its.length=ds.length:=by rw[<-rv.length,hr.length]
  obtain⟨⟨y,y1,y2⟩,no⟩:=JP dy ej;have hj:j<ds.length:=(Ap.mp y1).1;have rd:∀(i:Nat) (hi:i<its.toArray.size) y,ds[i]?=some y->PyData.eqv (SeqAt.readOf s.heap its.toArray[i]) (YS dy)=deq y dy:=fun i hi y ey=>by
   obtain⟨d',e1,e2⟩:=QF ra c2 i its.toArray[i] (by simp);rw[Uw,ey]at e1;cases e1;rw[e2];rfl
  have hm:min (PyData.depthAll (ZU ds)) (YS dy).depth<=30:=Ax (b8 _ _) d1;refine call_meets PySem.F.slot_tuple_index ⟨_,ho,rfl⟩ PySem.F.entry_tuple_index (PySem.F.args_tuple_index_2 _ _)
   (Znc a its.toArray n dd sl w (fun y=>PyData.eqv (SeqAt.readOf s.heap y) (YS dy)) j (by simp;omega) (by rw[rd j (by simp;omega) y y1];exact y2) fun m hm hlt=>?_)
   ⟨ho,SeqAt.items_eqAt (by simpa using ra) a2 c2 c1 (by omega),.int j,H,I.tok _,⟨_,rfl⟩,q _ F H .refl (Z3 _)⟩
  have hml:m<ds.length:=by simp at hm;omega
  rw[rd m hm ds[m] (by simp[hml])];exact no m _ hlt (by simp[hml])
 ·rw[if_neg hk]at e;cases e
theorem Znr{e:Expr}{t t':TE}(h:PE X e t)(h':PE X e t'):PE X e (fun σ H Q=>t σ H Q\/t' σ H Q):=by
 intro pins s σ H Q I z;rcases z with z | z
 ·exact h pins s σ H Q I z
 ·exact h' pins s σ H Q I z
def tBT(K:Frag)(r:V->List V->Hp->VK->Prop)(to:TE)(t:TA):TE:=fun σ H Q=>to σ H fun x H1=>(∃ a xs,x=.ref a/\SqT K H1 a xs)/\t σ H1 fun xs H2=>r x xs H2 Q
theorem ZlL{o e:Expr}{to:TE}{t:TA}{name:Str}{apos cpos:Pos}{id:String}{r:V->List V->Hp->VK->Prop}(slot:Slot "tuple" name id)(hty:typeOf (.builtin id)=pure (.type "method_descriptor"))(hm:MtR X id r)(ho:PE X o to)(ha:PA X [e] t)
  (hbase:attributeBase o name X.env (eval o X.env)=eval o X.env)
  (hfew:((backTo cpos (starEach [e] X.env)).all (fun x=>!x.1)&&(backToKw cpos (keywordEach [] X.env)).all (fun x=>x.1.isSome)
   && decide ([e].length+([]:List Keyword).length+(if([]:List Keyword).isEmpty then 0 else 1)<30))=true)
  (hline:(apos.endLine==cpos.line)=true) (hs:starEach [e] X.env=(false,eval e X.env)::starEach [] X.env) (hplain:(backTo cpos (starEach [] X.env)).any (·.1)=false) :
  PE X (.Call (.Attribute o name apos) [e] [] cpos) (tBT X.K r to t):=by
 intro pins s σ H Q I h;refine wpAny_Call_method_late hbase hfew hline rfl (thn (ho pins s σ H _ I h) fun v s1 zq=>?_);obtain⟨x,H1,I1,r1,ty,q1⟩:=zq;obtain⟨a,xs,rfl,hq⟩:=ty;have r1':=r1;cases r1;obtain⟨its,rv,⟨ob,hob,hcl,hdc,_⟩,_⟩:=I1.tupleD hq;refine⟨"tuple",id,PySem.F.plainAttrs_tuple,slot,hty,⟨ob,hob,hcl⟩,(fun b z=>by cases z;exact⟨ob,hob,hdc⟩),?_⟩;have hA:=ha cpos pins s1 σ H1 _ I1 q1;rw[hs]at hA ⊢;refine Calls.callWith_builtin (by show(false||(backTo cpos (starEach [] X.env)).any (·.1))=false;rw[hplain];rfl) (Calls.evalArgs_plain ?_);exact thn hA fun us s2 ⟨vs,H2,I2,r2,q2⟩=>hm pins s2 σ H2 _ vs _ us Q I2 r1' r2 q2
theorem ZgJ{o e:Expr}{f g:DE}{apos cpos:Pos}(hu:X.A.units+64<cLine)(ho:ED X o f)(he:ED X e g)
  (hbase:attributeBase o "index" X.env (eval o X.env)=eval o X.env:=by rfl)
  (hfew:((backTo cpos (starEach [e] X.env)).all (fun x=>!x.1)&&(backToKw cpos (keywordEach [] X.env)).all (fun x=>x.1.isSome)
   && decide ([e].length+([]:List Keyword).length+(if([]:List Keyword).isEmpty then 0 else 1)<30))=true:=by rfl)
  (hline:(apos.endLine==cpos.line)=true:=by rfl) (hs:starEach [e] X.env=(false,eval e X.env)::starEach [] X.env:=by rfl) (hplain:(backTo cpos (starEach [] X.env)).any (·.1)=false:=by rfl) :
  ED X (.Call (.Attribute o "index" apos) [e] [] cpos) (Zg ZcP f g):=
 PE.imp (Znr (ZdR hu ho he hbase hfew hline hs hplain) (ZlL PySem.F.slot_tuple_index PySem.F.type_tuple_index (Zf6 hu) ho (Zc he Zh hs) hbase hfew hline hs hplain)) fun σ H Q zq=>by
  obtain⟨ρ,F0,H0,F,d,ok,e,q⟩:=zq;obtain⟨x,ex,e⟩:=bind_some e;obtain⟨y,ey,e⟩:=bind_some e;cases x with
  | lst ds=>
   exact .inl ⟨ρ,F0,H0,F,d,ok,by show(f ρ).bind (fun x=>(g ρ).bind fun y=>ZbM x y)=_;rw[ex,A5,ey,A5];exact e,q⟩
  | tup ds=>
   refine .inr ⟨ρ,F0,H0,F,_,ok,ex,fun v F1 H1 g1 r1=>?_⟩;have r1':=r1;unfold Rep at r1;obtain⟨a,vs,rfl,hq,hr⟩:=r1;refine⟨⟨a,vs,rfl,hq⟩,ρ,F0,H0,F1,[y],ok.grow g1,by simp[Zb,Zm,ey],fun ws F2 H2 g2 r2=>?_⟩;obtain⟨u,rfl,ru⟩:=Ug r2;exact⟨_,_,F2,d,u,rfl,r1'.grow g2,ru,e,fun w F3 H3 g3 r3=>q w F3 H3 (g1.trans (g2.trans g3)) r3⟩
  | _=>cases e
end
end L3
namespace L4
open PySem PySem.Spec PyProof.Rows L2 L3 SetTab PySem.SetTable PySem.W
abbrev K2:=List (List Int)
inductive Its(prog:Program)(w:World)(h:Heap):K2->List Value->Prop
 | nil:Its prog w h [] []
 | cons {k:List Int} {b:Addr} {ks:K2} {vs:List Value}:L3.TK prog w h k b->Its prog w h ks vs->Its prog w h (k::ks) (.ref b::vs)
noncomputable def TK(prog:Program)(w:World)(h:Heap)(ks:K2)(a:Addr):Prop:=∃ o items n,h.get? a=some o/\o.cls=.type "tuple"/\o.data=.seq items n/\Its prog w h ks items.toList
def kh(prog:Program)(w:World)(ks:K2):Int:=reduceHash (Builtin.Tuple.tupleHashOf (ks.map (L3.kh prog w)))
section
variable{prog:Program}{w:World}{h h':Heap}
theorem Its.length{ks:K2}{vs:List Value}(x:Its prog w h ks vs):ks.length=vs.length:=by
 induction x with
 | nil=>rfl
 | cons _ _ ih=>simp[ih]
theorem Its.inj{x y:K2}{vs:List Value}(hx:Its prog w h x vs)(hy:Its prog w h y vs):x=y:=by
 induction hx generalizing y with
 | nil=>cases hy;rfl
 | cons t1 _ ih=>
  cases hy with
  | cons t2 r2=>rw[IsTupleKey.inj t1 t2,ih r2]
def Kp(h h':Heap):Prop:=∀ b o items n,h.get? b=some o->o.cls=.type "tuple"->o.data=.seq items n->h'.get? b=some o
theorem tk_kp(kp:Kp h h'){k:List Int}{b:Addr}(t:L3.TK prog w h k b):L3.TK prog w h' k b:=by
 obtain⟨o,its,n,ho,hc,hd,hi⟩:=t;exact⟨o,its,n,kp b o its n ho hc hd,hc,hd,hi⟩
theorem Its.kp(kp:Kp h h'){ks:K2}{vs:List Value}(x:Its prog w h ks vs):Its prog w h' ks vs:=by
 induction x with
 | nil=>exact .nil
 | cons t _ ih=>exact .cons (tk_kp kp t) ih
theorem TK.kp(kp:Kp h h'){ks:K2}{a:Addr}(t:TK prog w h ks a):TK prog w h' ks a:=by
 obtain⟨o,its,n,ho,hc,hd,hi⟩:=t;exact⟨o,its,n,kp a o its n ho hc hd,hc,hd,hi.kp kp⟩
theorem Kp.of(k:∀ b o,h.get? b=some o->h'.get? b=some o):Kp h h':=fun b o _ _ e _ _=>k b o e
theorem TK.inj{a:Addr}{x y:K2}(hx:TK prog w h x a)(hy:TK prog w h y a):x=y:=by
 obtain⟨o,its,n,ho,_,hd,hi⟩:=hx;obtain⟨o2,its2,n2,ho2,_,hd2,hi2⟩:=hy;rw[ho]at ho2;cases ho2;rw[hd]at hd2;cases hd2;exact hi.inj hi2
theorem TK.typeIs{s:Shared}{ks:K2}{a:Addr}(x:TK prog w s.heap ks a):s.TypeIs (.ref a) "tuple":=let ⟨o,_,_,ho,hc,_⟩:=x;⟨o,ho,hc⟩
end
section
variable{prog:Program}{w:World}{A:Around}{E:Value->Shared->Prop}{s:Shared}
theorem Zic{ks:List Int}{a:Addr}{Q:Bool->Shared->Prop}(hk:L3.TK prog w s.heap ks a)(h:Q true s):wpAny (model prog w) A (eqIsQuiet 7 (.ref a)) Q E s:=by
 have hT:=hk.typeIs;obtain⟨o,items,n,ho,_,hd,hi⟩:=hk;have by_v:=hi.byValue;unfold eqIsQuiet;refine wpAny_bind (wpAny_specialOf hT F.slot_tuple_eq.lookup ?_);show wpAny _ _ (isInstance (.ref a) (.type "tuple") >>= _) _ _ s;refine wpAny_bind (wpAny_isInstance hT isSubtype_tuple_tuple ?_)
 first | rw[if_neg (by decide)] | simp only[B9,B8,Af,if_false]
 refine wpAny_bind (wpAny_seqItems ho hd ?_);refine wpAny_bind ?_;show wpAny _ _ (forIn items _ _) _ _ s;rw[<-Bm];refine wpAny_forIn_list _ (fun left r s'=>r.1=none/\s'=s/\∀ v∈left,carriedByValue v=true) _ (fun v left r s' hr=>?_) (fun r s' hr=>?_) _ _ ⟨rfl,rfl,by_v⟩
 ·obtain⟨_,rfl,al⟩:=hr;rw[eqIsQuiet_byValue _ (al v A6)];refine wpAny_bind (wpAny_pure ?_)
  first | rw[if_neg (by decide)] | simp only[B9,B8,Af,if_false]
  exact wpAny_pure ⟨rfl,rfl,fun u z=>al u (A3 _ z)⟩
 ·obtain⟨r1,r2⟩:=r;obtain⟨e,rfl,_⟩:=hr;cases e;exact wpAny_pure h
theorem Zid{ks:List Int}{a:Addr}{Q:Bool->Shared->Prop}(hk:L3.TK prog w s.heap ks a)(h:Q false s):wpAny (model prog w) A (ofAClassStatement 7 (.ref a)) Q E s:=by
 have hT:=hk.typeIs;obtain⟨o,items,n,ho,_,hd,hi⟩:=hk;unfold ofAClassStatement;refine wpAny_bind (wpAny_typeOf hT ?_);show wpAny _ _ (do let u <- (if("tuple"=="tuple")=true then pure true else isSubtype (.type "tuple") (.type "tuple"));_) _ _ s;refine wpAny_bind ?_;rw[if_pos (by decide)];refine wpAny_pure ?_
 first | rw[if_neg (by decide)] | simp only[B9,B8,Af,if_false]
 refine wpAny_bind (wpAny_seqItems ho hd ?_);show wpAny _ _ (forIn items _ _ >>= _) _ _ s;refine wpAny_bind ?_;rw[<-Bm];refine wpAny_forIn_list _ (fun left r s'=>r.1=none/\s'=s/\∀ v∈left,∃ i t,v=Value.int i t) _ (fun v left r s' hr=>?_) (fun r s' hr=>?_) _ _ ⟨rfl,rfl,JN hi⟩
 ·obtain⟨_,rfl,al⟩:=hr;obtain⟨i,t,rfl⟩:=al v A6;show wpAny _ _ (pure false >>= _) _ _ _;refine wpAny_bind (wpAny_pure ?_)
  first | rw[if_neg (by decide)] | simp only[B9,B8,Af,if_false]
  exact wpAny_pure ⟨rfl,rfl,fun u z=>al u (A3 _ z)⟩
 ·obtain⟨r1,r2⟩:=r;obtain⟨e,rfl,_⟩:=hr;cases e;exact wpAny_pure h
theorem Zmr{ks:List Int}{a:Addr}{Q:Bool->Shared->Prop}(hk:L3.TK prog w s.heap ks a)(h:Q true s):wpAny (model prog w) A (hashByValue 7 (.ref a)) Q E s:=by
 have hT:=hk.typeIs;obtain⟨o,items,n,ho,_,hd,hi⟩:=hk;unfold hashByValue;refine wpAny_bind (wpAny_specialOf hT F.slot_tuple_hash.lookup ?_);show wpAny _ _ (seqItems? (.ref a) >>= _) _ _ s;refine wpAny_bind (wpAny_seqItems ho hd ?_);show wpAny _ _ (forIn items _ _ >>= _) _ _ s;refine wpAny_bind ?_;rw[<-Bm];refine wpAny_forIn_list _ (fun left r s'=>r.1=none/\s'=s/\∀ v∈left,∃ i t,v=Value.int i t) _ (fun v left r s' hr=>?_) (fun r s' hr=>?_) _ _ ⟨rfl,rfl,JN hi⟩
 ·obtain⟨_,rfl,al⟩:=hr;obtain⟨i,t,rfl⟩:=al v A6;show wpAny _ _ (pure true >>= _) _ _ _;refine wpAny_bind (wpAny_pure ?_)
  first | rw[if_neg (by decide)] | simp only[B9,B8,Af,if_false]
  exact wpAny_pure ⟨rfl,rfl,fun u z=>al u (A3 _ z)⟩
 ·obtain⟨r1,r2⟩:=r;obtain⟨e,rfl,_⟩:=hr;cases e;exact wpAny_pure h
theorem quiet_t{ks:K2}{a:Addr}{Q:Bool->Shared->Prop}(hk:TK prog w s.heap ks a)(h:Q true s):wpAny (model prog w) A (eqIsQuiet 8 (.ref a)) Q E s:=by
 have hT:=hk.typeIs;obtain⟨o,items,n,ho,_,hd,hi⟩:=hk;unfold eqIsQuiet;refine wpAny_bind (wpAny_specialOf hT F.slot_tuple_eq.lookup ?_);show wpAny _ _ (isInstance (.ref a) (.type "tuple") >>= _) _ _ s;refine wpAny_bind (wpAny_isInstance hT isSubtype_tuple_tuple ?_)
 first | rw[if_neg (by decide)] | simp only[B9,B8,Af,if_false]
 refine wpAny_bind (wpAny_seqItems ho hd ?_);refine wpAny_bind ?_;show wpAny _ _ (forIn items _ _) _ _ s;rw[<-Bm];refine wpAny_forIn_list _ (fun left r s'=>r.1=none/\s'=s/\∃ kl,Its prog w s.heap kl left) _ (fun v left r s' hr=>?_) (fun r s' hr=>?_) _ _ ⟨rfl,rfl,ks,hi⟩
 ·obtain⟨_,rfl,kl,al⟩:=hr;cases al with
  | cons t al=>
   refine wpAny_bind (Zic t ?_)
   first | rw[if_neg (by decide)] | simp only[B9,B8,Af,if_false]
   exact wpAny_pure ⟨rfl,rfl,_,al⟩
 ·obtain⟨r1,r2⟩:=r;obtain⟨e,rfl,_⟩:=hr;cases e;exact wpAny_pure h
theorem wp_ofClass{ks:K2}{a:Addr}{Q:Bool->Shared->Prop}(hk:TK prog w s.heap ks a)(h:Q false s):wpAny (model prog w) A (ofAClassStatement 8 (.ref a)) Q E s:=by
 have hT:=hk.typeIs;obtain⟨o,items,n,ho,_,hd,hi⟩:=hk;unfold ofAClassStatement;refine wpAny_bind (wpAny_typeOf hT ?_);show wpAny _ _ (do let u <- (if("tuple"=="tuple")=true then pure true else isSubtype (.type "tuple") (.type "tuple"));_) _ _ s;refine wpAny_bind ?_;rw[if_pos (by decide)];refine wpAny_pure ?_
 first | rw[if_neg (by decide)] | simp only[B9,B8,Af,if_false]
 refine wpAny_bind (wpAny_seqItems ho hd ?_);show wpAny _ _ (forIn items _ _ >>= _) _ _ s;refine wpAny_bind ?_;rw[<-Bm];refine wpAny_forIn_list _ (fun left r s'=>r.1=none/\s'=s/\∃ kl,Its prog w s.heap kl left) _ (fun v left r s' hr=>?_) (fun r s' hr=>?_) _ _ ⟨rfl,rfl,ks,hi⟩
 ·obtain⟨_,rfl,kl,al⟩:=hr;cases al with
  | cons t al=>
   refine wpAny_bind (Zid t ?_)
   first | rw[if_neg (by decide)] | simp only[B9,B8,Af,if_false]
   exact wpAny_pure ⟨rfl,rfl,_,al⟩
 ·obtain⟨r1,r2⟩:=r;obtain⟨e,rfl,_⟩:=hr;cases e;exact wpAny_pure h
theorem wp_hashBV{ks:K2}{a:Addr}{Q:Bool->Shared->Prop}(hk:TK prog w s.heap ks a)(h:Q true s):wpAny (model prog w) A (hashByValue 8 (.ref a)) Q E s:=by
 have hT:=hk.typeIs;obtain⟨o,items,n,ho,_,hd,hi⟩:=hk;unfold hashByValue;refine wpAny_bind (wpAny_specialOf hT F.slot_tuple_hash.lookup ?_);show wpAny _ _ (seqItems? (.ref a) >>= _) _ _ s;refine wpAny_bind (wpAny_seqItems ho hd ?_);show wpAny _ _ (forIn items _ _ >>= _) _ _ s;refine wpAny_bind ?_;rw[<-Bm];refine wpAny_forIn_list _ (fun left r s'=>r.1=none/\s'=s/\∃ kl,Its prog w s.heap kl left) _ (fun v left r s' hr=>?_) (fun r s' hr=>?_) _ _ ⟨rfl,rfl,ks,hi⟩
 ·obtain⟨_,rfl,kl,al⟩:=hr;cases al with
  | cons t al=>
   refine wpAny_bind (Zmr t ?_)
   first | rw[if_neg (by decide)] | simp only[B9,B8,Af,if_false]
   exact wpAny_pure ⟨rfl,rfl,_,al⟩
 ·obtain⟨r1,r2⟩:=r;obtain⟨e,rfl,_⟩:=hr;cases e;exact wpAny_pure h
theorem hash_t{ks:K2}{a:Addr}{Q:Int->Shared->Prop}(hu:A.units+1<cLine)(hk:TK prog w s.heap ks a)(h:∀ tk,Q (kh prog w ks) {s with toks:=tk}):wpAny (model prog w) A (pyHash (.ref a)) Q E s:=by
 have hT:=hk.typeIs;obtain⟨o,items,n,ho,_,hd,hi⟩:=hk;unfold pyHash
 first | unfold pyHashByItsType | skip
 first | refine wpAny_bind (wpAny_cRoomFor_or (.inr (Nat.lt_of_succ_lt hu)) ?_) | skip
 refine wpAny_bind (wpAny_specialOf hT F.slot_tuple_hash.lookup ?_);show wpAny _ _ (if(some (Value.builtin "tuple.__hash__")==some Value.none)=true then _ else _) Q E s;rw[if_neg (by rw[beq_builtin_none];exact Bv)];refine wpAny_bind (wpAny_specialOf hT F.slot_tuple_hash.lookup ?_);show wpAny _ _ (callSpecialIfBoundUnlessNone? (.ref a) "__hash__" _ >>= _) Q E s;refine wpAny_bind (wpAny_callSpecialIfBoundUnlessNone?_slot hT F.slot_tuple_hash (wpAny_call_entry F.slot_tuple_hash hT F.entry_tuple_hash ?_ (F.args_tuple_hash_1 _)));show wpAny _ _ (Builtin.Tuple.tupleItemsOf (.ref a) >>= _) _ _ s;refine wpAny_bind (wpAny_tupleItemsOf ho hd ?_);refine wpAny_bind ?_;rw[<-Bm];refine wpAny_forIn_list _ (fun left (b:Array Int) s'=>∃ done kl tk,ks=done++kl/\Its prog w s.heap kl left/\b.toList=done.map (L3.kh prog w)/\s'={s with toks:=tk})
  _ (fun v left b s' hr=>?_) (fun b s' hr=>?_) _ _ ⟨[],ks,s.toks,rfl,hi,rfl,rfl⟩
 ·obtain⟨done,kl,tk,rfl,al,hb,rfl⟩:=hr;cases al with
  | @cons k b0 kl _ t al=>
   refine wpAny_bind (wpAny_pyHash_tuple (s:={s with toks:=tk}) hu t ?_)
   first
    | exact wpAny_pure ⟨done++[k],kl,_,by simp,al,by simp[hb],rfl⟩
    | exact wpAny_bind (wpAny_pure (wpAny_pure ⟨done++[k],kl,_,by simp,al,by simp[hb],rfl⟩))
 ·obtain⟨done,kl,tk,rfl,al,hb,rfl⟩:=hr;cases al;rw[List.append_nil]at h;show wpAny _ _ (retInt (Builtin.Tuple.tupleHashOf b.toList)) _ _ _;rw[hb];refine wpAny_ret_mkInt ?_;show wpAny _ _ (if(decide (-(2:Int) ^ 63<=Builtin.Tuple.tupleHashOf (done.map (L3.kh prog w)))&&decide (Builtin.Tuple.tupleHashOf (done.map (L3.kh prog w))<2 ^ 63))=true then _ else _) Q E _;unfold kh reduceHash at h;by_cases c:(decide (-(2:Int) ^ 63<=Builtin.Tuple.tupleHashOf (done.map (L3.kh prog w)))&&decide (Builtin.Tuple.tupleHashOf (done.map (L3.kh prog w))<2 ^ 63))=true
  ·rw[if_pos c];rw[if_pos c]at h;exact wpAny_pure (h _)
  ·rw[if_neg c];rw[if_neg c]at h;exact wpAny_bind (wpAny_rule (wpAny_pure (h _)))
theorem Zkv{x y:K2}{a b:Addr}{P:PySem.Fin->Shared->Prop}(hu:A.units<cLine)(hx:TK prog w s.heap x a)(hy:TK prog w s.heap y b)(h:P (.done (.ret (.bool (decide (x=y))))) s):
  wpAny (model prog w) A (Builtin.«tuple.__eq__» ⟨[.ref a,.ref b],[]⟩) P E s:=by
 have hTb:=hy.typeIs;obtain⟨oa,xs,na,hoa,_,hda,hia⟩:=hx;obtain⟨ob,ys,nb,hob,_,hdb,hib⟩:=hy;show wpAny _ _ (isInstance (.ref b) (.type "tuple") >>= _) _ _ s;refine wpAny_bind (wpAny_isInstance hTb isSubtype_tuple_tuple ?_)
 first | rw[if_neg (by decide)] | simp only[B9,B8,Af,if_false]
 refine wpAny_bind (wpAny_tupleItemsOf hoa hda ?_);refine wpAny_bind (wpAny_tupleItemsOf hob hdb ?_);refine wpAny_bind ?_;refine wpAny_forIn_list _ (fun left r s'=>r.1=none/\s'=s/\∃ x1 y1 xs1 ys1,left=List.zip xs1 ys1/\Its prog w s.heap x1 xs1/\Its prog w s.heap y1 ys1/\(x1=y1 ↔ x=y)/\((xs1.length==ys1.length)=(xs.size==ys.size)))
  _ (fun uv left r s' hr=>?_) (fun r s' hr=>?_) _ _ ⟨rfl,rfl,x,y,xs.toList,ys.toList,rfl,hia,hib,Iff.rfl,by simp⟩
 ·obtain⟨u,v⟩:=uv;obtain⟨_,rfl,x1,y1,xs1,ys1,hz,hx1,hy1,hd,hl⟩:=hr;cases hx1 with
  | nil=>simp at hz
  | @cons k1 b1 x2 xs2 t1 hx2=>
   cases hy1 with
   | nil=>simp at hz
   | @cons k2 b2 y2 ys2 t2 hy2=>
    simp only[List.zip_cons_cons,List.cons.injEq,Prod.mk.injEq]at hz;obtain⟨⟨rfl,rfl⟩,rfl⟩:=hz;refine wpAny_bind (wpAny_eqBool_tuple hu t1 t2 ?_);by_cases hk:k1=k2
    ·subst hk;rw[decide_eq_true rfl,if_neg (by decide)];exact wpAny_pure ⟨rfl,rfl,x2,y2,xs2,ys2,rfl,hx2,hy2,by rw[<-hd];simp,by simpa using hl⟩
    ·rw[decide_eq_false hk,if_pos (by decide)];rw[decide_eq_false (fun z=>by have:=hd.mpr z;injection this with z1 _;exact hk z1)]at h;exact wpAny_bind (wpAny_pure (wpAny_pure (wpAny_pure h)))
 ·obtain⟨r1,r2⟩:=r;obtain⟨e,rfl,x1,y1,xs1,ys1,hz,hx1,hy1,hd,hl⟩:=hr;cases e;refine wpAny_pure ?_;have fin:(xs.size==ys.size)=decide (x=y):=by
   rw[<-hl,show decide (x=y)=decide (x1=y1) from decide_eq_decide.mpr hd.symm];cases hx1 with
   | nil=>
    cases hy1 with
    | nil=>simp
    | cons _ _=>simp
   | cons _ _=>
    cases hy1 with
    | nil=>simp
    | cons _ _=>simp at hz
  show P (.done (.ret (.bool (xs.size==ys.size)))) _;rw[fin];exact h
theorem eq_t{x y:K2}{a b:Addr}{Q:Bool->Shared->Prop}(hu:A.units+1<cLine)(hx:TK prog w s.heap x a)(hy:TK prog w s.heap y b)(h:Q (decide (x=y)) s):wpAny (model prog w) A (eqBool (.ref a) (.ref b)) Q E s:=by
 unfold eqBool
 try with_reducible refine wpAny_holding ?_
 show wpAny _ _ (if(Value.ref a==Value.ref b)=true then _ else _) Q E s;by_cases hab:(Value.ref a==Value.ref b)=true
 ·rw[if_pos hab];have e:a=b:=by have:=eq_of_beq hab;injection this
  subst e;obtain rfl:=hx.inj hy;exact wpAny_bind (wpAny_rule (wpAny_pure (by simpa using h)))
 ·rw[if_neg hab];exact wpAny_bind (wpAny_richCompare_same_room (op:=.Eq) hx.typeIs hy.typeIs F.slot_tuple_eq
   (wpAny_call_entry F.slot_tuple_eq hx.typeIs F.entry_tuple_eq (Zkv hu hx hy ⟨_,rfl,(fun e=>nomatch e),wpAny_truthy_bool h⟩) (F.args_tuple_eq_2 _ _)) (Nat.lt_of_succ_lt hu))
end
end L4
namespace L4
open PySem PySem.Spec PyProof.Rows L2 L3 SetTab PySem.SetTable
structure TSet(prog:Program)(w:World)(h:Heap)(a:Addr)(o:Obj)(es:Array (Int×Value))(ep:Nat)(t:SetTable)(keys:List K2):Prop where
 ho:h.get? a=some o
 hd:o.data=.set es ep t
 ti:TI t es
 size:keys.length=es.size
 key:∀(i:Nat) k,keys[i]?=some k->∃ b,es[i]?=some (kh prog w k,.ref b)/\TK prog w h k b
section
variable{prog:Program}{w:World}{A:Around}{E:Value->Shared->Prop}{s:Shared}{a:Addr}{o:Obj}{es:Array (Int×Value)}{ep:Nat}{t:SetTable}{keys:List K2}
theorem TSet.fits(T:TSet prog w s.heap a o es ep t keys):t.fits es.size=true:=by
 have h1:=T.ti.size;have h2:=T.ti.dm;have h3:=T.ti.room;simp[SetTable.fits,SetTable.fill,h1,h2,h3]
end
noncomputable def Al(prog:Program)(w:World)(h:Heap):List K2->List (Int×Value)->Prop
 | [],l=>l=[]
 | k::ks,l=>∃ b r,l=(kh prog w k,.ref b)::r/\TK prog w h k b/\Al prog w h ks r
section
variable{prog:Program}{w:World}{h h':Heap}
end
def SetI(G:Addr->Prop)(prog:Program)(w:World)(h:Heap)(a:Addr)(keys:List K2):Prop:=∃ o es ep t,h.get? a=some o/\o.ExactSet/\o.data=.set es ep t/\TI t es/\Al prog w h keys es.toList/\keys.Nodup /\
 (t.mask=7\/t.mask=31\/t.mask=127)/\es.size*5<t.mask*3/\t.plain=true/\t.led=(!w.params.followText "set-order")/\∀ p∈es.toList,∃ b,p.2=Value.ref b/\G b
section
variable{prog:Program}{w:World}{A:Around}{E:Value->Shared->Prop}{s:Shared}{a:Addr}{keys:List K2}
end
section
variable{prog:Program}{w:World}{A:Around}{R:Result->Shared->Prop}{I S:Addr}{fp wr:List Addr}{n:Nat}{P:Nat->Value->Prop}{St:Nat->Heap->Prop}
end
section
variable{prog:Program}{w:World}{A:Around}{E:Value->Shared->Prop}{s:Shared}
end
noncomputable def nubI:List K2->List K2
 | []=>[]
 | k::r=>if k∈r then nubI r else k::nubI r
theorem mem_nubI:∀{ks:List K2} {x:K2},x∈nubI ks ↔ x∈ks
 | [],x=>by simp[nubI]
 | k::r,x=>by
  unfold nubI;by_cases c:k∈r
  ·rw[if_pos c,mem_nubI,A4];exact⟨.inr,fun z=>z.elim (fun e=>e ▸ c) id⟩
  ·rw[if_neg c,A4,A4,mem_nubI]
theorem nodup_nubI:∀(ks:List K2),(nubI ks).Nodup
 | []=>Ch
 | k::r=>by
  unfold nubI;by_cases c:k∈r
  ·rw[if_pos c];exact nodup_nubI r
  ·rw[if_neg c];exact ae.mpr ⟨fun z=>c (mem_nubI.mp z),nodup_nubI r⟩
theorem nodup_len{l m:List K2}(h1:l.Nodup)(h2:m.Nodup)(h:∀ x,x∈l ↔ x∈m):l.length=m.length:=
 Nat.le_antisymm (nodup_le h1 fun x hx=>(h x).mp hx) (nodup_le h2 fun x hx=>(h x).mpr hx)
noncomputable def keysOf:List D->Option (List K2)
 | []=>some []
 | .tup ys::r=>(L3.keysOf ys).bind fun k=>(keysOf r).map (k::·)
 | _::_=>none
noncomputable def kD(k:K2):D:=.tup (k.map L3.kD)
theorem ZdM:∀{ys:List D} {k:K2},L3.keysOf ys=some k->ys=k.map L3.kD
 | [],k,h=>by cases h;rfl
 | d::ys,k,h=>by
  cases d with
  | tup zs=>
   obtain⟨k0,h1,h2⟩:=bind_some (show(Q6 zs).bind (fun k=>(L3.keysOf ys).map (k::·))=some k from h);obtain⟨ks',h3,rfl⟩:=map_some h2;rw[ZdM h3,JO h1];rfl
  | _=>cases h
theorem keysOf_get:∀{xs:List D} {ks:List K2} {i:Nat} {k:K2},keysOf xs=some ks->ks[i]?=some k->xs[i]?=some (kD k)
 | [],ks,i,k,h,e=>by cases h;simp at e
 | d::xs,ks,i,k,h,e=>by
  cases d with
  | tup ys=>
   obtain⟨k0,h1,h2⟩:=bind_some (show(L3.keysOf ys).bind (fun k=>(keysOf xs).map (k::·))=some ks from h);obtain⟨ks',h3,rfl⟩:=map_some h2;cases i with
   | zero=>simp at e;subst e;simp[ZdM h1,kD]
   | succ i=>simpa using keysOf_get h3 (by simpa using e)
  | _=>cases h
theorem keysOf_len:∀{xs:List D} {ks:List K2},keysOf xs=some ks->ks.length=xs.length
 | [],ks,h=>by cases h;rfl
 | d::xs,ks,h=>by
  cases d with
  | tup ys=>
   obtain⟨k0,h1,h2⟩:=bind_some (show(L3.keysOf ys).bind (fun k=>(keysOf xs).map (k::·))=some ks from h);obtain⟨ks',h3,rfl⟩:=map_some h2;simp[keysOf_len h3]
  | _=>cases h
def dLenSet:D->Option D:=fun d=>(Yu d).bind fun xs=>(keysOf xs).bind fun ks=>if ks.length<=70 then some (.int (nubI ks).length) else none
section
variable{X:Cx}{pins:List (Addr×Obj)}{σ:L2.St}{H:Hp}{s:Shared}{F:Fz}
theorem Zi7(I:Inv X pins σ H s):∀{ks:K2} {us:List V} {vs:List Value},RepL X.K F H (ks.map L3.kD) us->Vals us vs->Its X.prog X.w s.heap ks vs
 | [],us,vs,r,rv=>by rw[r.unnil]at rv;cases rv;exact .nil
 | k::ks,us,vs,r,rv=>by
  obtain⟨y,ys,rfl,h1,h2⟩:=r.uncons;cases rv with
  | cons a b=>
   obtain⟨b0,rfl,t⟩:=L3.tk_of I h1 a;exact .cons t (Zi7 I h2 b)
theorem tk_of(I:Inv X pins σ H s){k:K2}{x:V}{v:Value}(r:Rep X.K F H (kD k) x)(rv:RelV x v):∃ b,v=.ref b/\TK X.prog X.w s.heap k b:=by
 unfold kD Rep at r;obtain⟨a,vs,rfl,h1,l1⟩:=r;cases rv;obtain⟨its,rv,p,_⟩:=I.tuple h1;obtain⟨o,ho,hc,n,hd⟩:=p;exact⟨a,rfl,o,its.toArray,n,ho,hc,hd,by simpa using Zi7 I l1 rv⟩
end
end L4
namespace L4
open PySem PySem.Spec PyProof.Rows L2 L3 SetTab PySem.SetTable PySem.W
def Vo:K2->K2->Bool
 | [],[]=>false
 | [],_::_=>true
 | _::_,[]=>false
 | a::x,b::y=>if a=b then Vo x y else HT.lexLt a b
section
variable{prog:Program}{w:World}{A:Around}{E:Value->Shared->Prop}{s:Shared}{Q:Bool->Shared->Prop}
theorem ZaI:∀{ks:List Int} {vs:List Value},PySem.ItemsAre (intKind prog w) ks vs->IntsAre vs ks
 | _,_,.nil=>.nil
 | _,_,.cons (k:=k) h r=>by
  obtain⟨t,rfl⟩:=Value.isInt_shape h;exact .cons k t (ZaI r)
theorem ZnE{x y:Addr}{k1 k2:List Int}{P:Value->Shared->Prop}(hu:A.units<cLine)(h1:L3.TK prog w s.heap k1 x)(h2:L3.TK prog w s.heap k2 y)(q:P (.bool (HT.lexLt k1 k2)) s):wpAny (model prog w) A (richCompare .Lt (.ref x) (.ref y)) P E s:=by
 obtain⟨o1,i1,n1,a1,b1,c1,d1⟩:=h1;obtain⟨o2,i2,n2,a2,b2,c2,d2⟩:=h2;exact HT.lt_tupInts (ns:=k1) (ms:=k2) ⟨o1,a1,b1,n1,c1⟩ ⟨o2,a2,b2,n2,c2⟩ (ZaI d1) (ZaI d2) hu q
theorem Zi2(hu:A.units<cLine):∀(k1 k2:K2) (v1 v2:List Value) (i:Nat),Its prog w s.heap k1 v1->Its prog w s.heap k2 v2->k1.length=k2.length->Q (Vo k1 k2) s->KatLex prog w A false false Q (v1.zip v2) i s
 | [],[],_,_,i,.nil,.nil,_,h=>h
 | [],_::_,_,_,i,_,_,hl,_=>by simp at hl
 | _::_,[],_,_,i,_,_,hl,_=>by simp at hl
 | a::k1,b::k2,_,_,i,.cons ta i1,.cons tb i2,hl,h=>by
  refine kat_cons (wpAny_eqBool_tuple hu ta tb ?_);unfold Vo at h;by_cases e:a=b
  ·rw[if_pos e]at h;rw[decide_eq_true e];exact kat_yes (Zi2 hu k1 k2 _ _ (i+1) i1 i2 (by simpa using hl) h)
  ·rw[if_neg e]at h;rw[decide_eq_false e];refine kat_no ?_;rw[Bool.false_and];exact kat_one _ _ (show wpAny (model prog w) A (richCompare .Lt _ _) _ _ s from ZnE hu ta tb h)
theorem ZnA{x y:Addr}{k1 k2:K2}(hu:A.units<cLine)(h1:TK prog w s.heap k1 x)(h2:TK prog w s.heap k2 y)(hl:k1.length=k2.length)(q:Q (Vo k1 k2) s):wpAny (model prog w) A (keyLt' (tuples' false) (.ref x) (.ref y)) Q E s:=by
 obtain⟨o1,i1,n1,a1,b1,c1,d1⟩:=h1;obtain⟨o2,i2,n2,a2,b2,c2,d2⟩:=h2;refine kat_lt a1 c1 a2 c2 ?_;have e1:i1.size=k1.length:=by have:=d1.length;simpa using this.symm
 have e2:i2.size=k2.length:=by have:=d2.length;simpa using this.symm
 rw[show decide (i1.size<i2.size)=false by rw[e1,e2,hl];simp];exact Zi2 hu k1 k2 _ _ 0 d1 d2 hl q
theorem ZnB{a:Addr}{vs:List Value}{ks:List K2}{n m:Nat}{P:PySem.Fin->Shared->Prop}(ho:s.heap.get? a=some (seqObj "list" vs.toArray n))(h2:2<=vs.length)(h64:vs.length<64)(hu:A.units<cLine)(hlen:ks.length=vs.length)
  (hord:So.Ord vs.length fun i j=>Vo (ks.getD i []) (ks.getD j []))(hm:∀ k∈ks,k.length=m+1)(hk:∀(i:Nat) (v:Value) (k:K2),vs[i]?=some v->ks[i]?=some k->∃ b,v=Value.ref b/\TK prog w s.heap k b)
  (q:∀ p:Array Nat,So.Pm vs.length p->So.SortTo (fun i j=>Vo (ks.getD i []) (ks.getD j [])) p vs.length->∀ h' c,(∀ b o,b≠a->s.heap.get? b=some o->h'.get? b=some o)->h'.get? a=some (seqObj "list" (p.toList.map fun i=>vs.getD i Value.none).toArray c)->P (.done (.ret .none)) {s with heap:=h'}):
  wpAny (model prog w) A (Builtin.«list.sort» ⟨[.ref a],[]⟩) P E s:=by
 have s1:=Heap.SameBut.update s.heap a (Obj.mapSeq fun _=>(#[]:Array Value));obtain⟨e1,ho1⟩:∃ e1,(s.heap.update a (Obj.mapSeq fun _=>(#[]:Array Value))).get? a=some (seqObj "list" #[] e1):=⟨_,get?_update_seq ho fun _=>#[]⟩;rw[list_sort_plain];refine wpAny_bind (listItems_at ho rfl ?_);refine wpAny_bind (listUpdate_at ho rfl ?_ (by rw[Ac,sizeLine_eq];omega) (Be _));refine wpAny_bind (seqEpoch_at ho1 rfl ?_);refine wpAny_bind (wpAny_newTuple ?_ (by show vs.length<=_;rw[sizeLine_eq];omega));refine wpAny_bind (wpAny_newList ?_ (Be _));refine wpAny_holding ?_;show wpAny (model prog w) A _ P E {s with heap:=((s.heap.update a (Obj.mapSeq fun _=>(#[]:Array Value))).push (seqObj "tuple" vs.toArray 0)).push (seqObj "list" #[] 0)};dsimp only;have hn2:¬ vs.toArray.size<2:=by rw[Ac];omega
 rw[if_neg hn2,if_neg hn2];have kp:∀ b o,b≠a->s.heap.get? b=some o->(((s.heap.update a (Obj.mapSeq fun _=>(#[]:Array Value))).push (seqObj "tuple" vs.toArray 0)).push (seqObj "list" #[] 0)).get? b=some o:=fun b o hb e=>
  Heap.get?_push_of_some _ (Heap.get?_push_of_some _ ((s1.2 b hb).trans e))
 have hoa:(((s.heap.update a (Obj.mapSeq fun _=>(#[]:Array Value))).push (seqObj "tuple" vs.toArray 0)).push (seqObj "list" #[] 0)).get? a=some (seqObj "list" #[] e1):=Heap.get?_push_of_some _ (Heap.get?_push_of_some _ ho1);have tk:∀(i:Nat) (v:Value) (k:K2),vs[i]?=some v->ks[i]?=some k->∃ b,v=Value.ref b/\TK prog w (((s.heap.update a (Obj.mapSeq fun _=>(#[]:Array Value))).push (seqObj "tuple" vs.toArray 0)).push (seqObj "list" #[] 0)) k b:=fun i v k h1 h2=>by
  obtain⟨b,rfl,t⟩:=hk i v k h1 h2;refine⟨b,rfl,t.kp fun b o items nn g1 g2 g3=>kp b o (fun z=>?_) g1⟩;rw[z,ho]at g1;cases g1;have g2':Value.type "list"=Value.type "tuple":=g2;exact absurd g2' (by simp)
 generalize ((s.heap.update a (Obj.mapSeq fun _=>(#[]:Array Value))).push (seqObj "tuple" vs.toArray 0)).push (seqObj "list" #[] 0)=h3 at kp hoa tk;have gk:∀ i,i<vs.length->∃ k b,ks[i]?=some k/\ks.getD i []=k/\vs[i]?=some (Value.ref b)/\vs.getD i Value.none=Value.ref b/\TK prog w h3 k b/\k.length=m+1:=fun i hi=>by
  have e1:ks[i]?=some ks[i]:=a_ (by omega);have e2:vs[i]?=some vs[i]:=a_ hi;obtain⟨b,e3,e4⟩:=tk i _ _ e2 e1;refine⟨ks[i],b,e1,by simp[e1],by rw[e2,e3],by simp[e2,e3],e4,hm _ (C6 _)⟩
 have n0:0<vs.length:=by omega
 obtain⟨fs,kt,hfl,hfi⟩:∃ fs,KatTups h3 vs fs/\0<fs.length/\∀ v∈fs,∃ b o,v=Value.ref b/\h3.get? b=some o/\o.cls=.type "tuple":=by
  have go:∀(l:List Value),(∀ v∈l,∃ k b,v=Value.ref b/\TK prog w h3 k b/\k.length=m+1)->∃ fs,KatTups h3 l fs/\fs.length=l.length/\∀ v∈fs,∃ b o,v=Value.ref b/\h3.get? b=some o/\o.cls=.type "tuple":=by
   intro l
   induction l with
   | nil=>exact fun _=>⟨[],KatTups.nil,rfl,fun v hv=>by cases hv⟩
   | cons v l ih=>
    intro h;obtain⟨fs,f1,f2,f3⟩:=ih fun x hx=>h x (A3 _ hx);obtain⟨k,b,rfl,⟨ob,items,nn,g1,g2,g3,g4⟩,g5⟩:=h v A6;generalize e:items.toList=il at g4;cases g4 with
    | nil=>simp at g5
    | @cons k0 b0 kr vr t0 r0=>
     obtain⟨o0,i0,n0,q1,q2,_⟩:=t0;refine⟨Value.ref b0::fs,KatTups.cons g1 g2 g3 (by rw[<-Az,e];rfl) f1,by simp[f2],fun x hx=>?_⟩;rcases A4.mp hx with z | z
     ·exact⟨_,_,z,q1,q2⟩
     ·exact f3 x z
  obtain⟨fs,f1,f2,f3⟩:=go vs fun v hv=>by
   obtain⟨i,hi,e⟩:=List.getElem_of_mem hv;obtain⟨k,b,_,_,x3,_,x5,x6⟩:=gk i hi;rw[a_ hi,e]at x3;exact⟨k,b,Option.some.inj x3,x5,x6⟩
  exact⟨fs,f1,by omega,f3⟩
 refine wpAny_bind (kat_kind (s:={s with heap:=h3}) kt hfl (T:=.type "tuple") (fun v hv=>?_) (by decide) ?_)
 ·obtain⟨b,o,rfl,q1,q2⟩:=hfi v hv;rw[<-q2];exact(Looks.ld q1).andThen .now
 have e0:(Value.type "tuple" != Value.type "tuple")=false:=by decide
 rw[e0];have so:=So.sort_ok hord h2;have hcmp:∀ i j C (s':Shared),i<vs.length->j<vs.length->s'={s with heap:=h3}->(∀ s'',s''={s with heap:=h3}->C (Vo (ks.getD i []) (ks.getD j [])) s'')->kas_ask prog w A (tuples' false) vs i j C s':=by
  intro i j C s' hi hj e hC;subst e;obtain⟨k1,b1,_,x2,_,x4,x5,x6⟩:=gk i hi;obtain⟨k2,b2,_,y2,_,y4,y5,y6⟩:=gk j hj;unfold kas_ask;rw[x4,y4];rw[x2,y2]at hC;exact ZnA (s:={s with heap:=h3}) hu x5 y5 (by rw[x6,y6]) (hC _ rfl)
 have run:=So.wp_run (cmp:=kas_ask prog w A (tuples' false) vs) (I:=fun s'=>s'={s with heap:=h3}) hcmp (Q:=fun p s'=>p=So.run (fun i j=>Vo (ks.getD i []) (ks.getD j [])) (kas_sort vs.length)/\s'={s with heap:=h3}) (So.sort_bd n0) rfl fun s' e=>⟨rfl,e⟩;refine wpAny_bind (wpAny_mono (kat_run (Q:=fun st' s'=>∃ p:Array Nat,p.size=vs.length/\arrOf st'=p.map (kas_item (vs.toArray.zip vs.toArray))/\failedOf st'=none/\p=So.run (fun i j=>Vo (ks.getD i []) (ks.getD j [])) (kas_sort vs.length)/\s'={s with heap:=h3})
  rfl h2 h64 (fun p' st' s' a1 a2 a3 a4=>⟨p',a1,a2,a3,a4.1,a4.2⟩) run) ?_ fun _ _ e=>e)
 rintro⟨⟨⟩,st'⟩ s' ⟨p,hp,har,hf,ep,rfl⟩;rw[<-ep]at so;dsimp only;have hout:=kat_snds rfl har;have hsz:(List.toArray (p.toList.map fun i=>vs.getD i Value.none)).size=vs.length:=by rw[Ac,A_,Ba,hp]
 rw[hout];have s2:=Heap.SameBut.update h3 a (Obj.mapSeq fun _=>List.toArray (p.toList.map fun i=>vs.getD i Value.none));obtain⟨c2,hc2⟩:∃ c2,(h3.update a (Obj.mapSeq fun _=>List.toArray (p.toList.map fun i=>vs.getD i Value.none))).get? a=some (seqObj "list" (List.toArray (p.toList.map fun i=>vs.getD i Value.none)) c2):=⟨_,get?_update_seq hoa fun _=>List.toArray (p.toList.map fun i=>vs.getD i Value.none)⟩;refine wpAny_bind (seqEpoch_at hoa rfl ?_);refine wpAny_bind (listUpdate_at hoa rfl ?_ (Be _) (Ax (Nat.le_of_eq hsz) (by rw[sizeLine_eq];omega)));rw[hf];simp only[bne_self_eq_false,Af,if_false];exact wpAny_pure (q p so.1 so.2 _ c2 (fun b o hb e=>(s2.2 b hb).trans (kp b o hb e)) hc2)
end
theorem JM:∀ k:K2,Vo k k=false
 | []=>rfl
 | a::k=>by unfold Vo;rw[if_pos rfl];exact JM k
theorem ZaF:∀ a b c:K2,Vo a b=true->Vo b c=true->Vo a c=true
 | [],[],_,h,_=>by cases h
 | [],_::_,[],_,h=>by cases h
 | [],_::_,_::_,_,_=>rfl
 | _::_,[],_,h,_=>by cases h
 | _::_,_::_,[],_,h=>by cases h
 | x::a,y::b,z::c,h1,h2=>by
  unfold Vo at h1 h2 ⊢;by_cases e1:x=y
  ·subst e1;rw[if_pos rfl]at h1;by_cases e2:x=z
   ·rw[if_pos e2]at h2;rw[if_pos e2];exact ZaF a b c h1 h2
   ·rw[if_neg e2]at h2;rw[if_neg e2];exact h2
  ·rw[if_neg e1]at h1;by_cases e2:y=z
   ·subst e2;rw[if_neg e1];exact h1
   ·rw[if_neg e2]at h2;have h3:=Zi3 x y z h1 h2;by_cases e3:x=z
    ·rw[e3,Zgf]at h3;cases h3
    ·rw[if_neg e3];exact h3
def Sh(m:Nat)(k:K2):Prop:=k.length=m+1/\∀ x∈k,x.length=2
theorem ZdG:∀ a b:K2,a.length=b.length->(∀ x∈a,x.length=2)->(∀ x∈b,x.length=2)->a≠b->Vo a b=true\/Vo b a=true
 | [],[],_,_,_,h=>absurd rfl h
 | [],_::_,h,_,_,_=>by simp at h
 | _::_,[],h,_,_,_=>by simp at h
 | x::a,y::b,hl,h1,h2,hn=>by
  unfold Vo;by_cases e:x=y
  ·subst e;rw[if_pos rfl,if_pos rfl];exact ZdG a b (by simpa using hl) (fun z hz=>h1 z (A3 _ hz)) (fun z hz=>h2 z (A3 _ hz)) fun z=>hn (by rw[z])
  ·rw[if_neg e,if_neg (Ao e)];exact Zgd x y (by rw[h1 x A6,h2 y A6]) e
theorem ZiQ{m:Nat}{a b:K2}(ha:Sh m a)(hb:Sh m b)(h:a≠b):Vo a b=true\/Vo b a=true:=ZdG a b (by rw[ha.1,hb.1]) ha.2 hb.2 h
def ZdL(k:K2):List K2->List K2
 | []=>[k]
 | x::r=>if k=x then x::r else if Vo k x=true then k::x::r else x::ZdL k r
def srtK:List K2->List K2
 | []=>[]
 | k::ks=>ZdL k (srtK ks)
theorem insK_mem{k x:K2}:∀{l:List K2},x∈ZdL k l ↔ x=k\/x∈l
 | []=>by simp[ZdL]
 | y::r=>by
  unfold ZdL;by_cases e:k=y
  ·rw[if_pos e];subst e;simp
  ·rw[if_neg e];by_cases h:Vo k y=true
   ·rw[if_pos h];simp
   ·rw[if_neg h,A4,insK_mem,A4];exact or_left_comm
theorem srtK_mem{x:K2}:∀{l:List K2},x∈srtK l ↔ x∈l
 | []=>by simp[srtK]
 | k::l=>by unfold srtK;rw[insK_mem,srtK_mem,A4]
def ZiH(l:List K2):Prop:=l.Pairwise fun a b=>Vo a b=true
theorem ZdK{m:Nat}{k:K2}(hk':Sh m k):∀{l:List K2},ZiH l->(∀ x∈l,Sh m x)->ZiH (ZdL k l)
 | [],_,_=>by simp[ZdL,ZiH]
 | y::r,h,hl=>by
  obtain⟨h1,h2⟩:=At.mp h;unfold ZdL;by_cases e:k=y
  ·rw[if_pos e];exact h
  ·rw[if_neg e];by_cases hk:Vo k y=true
   ·rw[if_pos hk];refine At.mpr ⟨fun z hz=>?_,h⟩;rcases A4.mp hz with q | q
    ·rw[q];exact hk
    ·exact ZaF _ _ _ hk (h1 z q)
   ·rw[if_neg hk];refine At.mpr ⟨fun z hz=>?_,ZdK hk' h2 fun x hx=>hl x (A3 _ hx)⟩;rcases insK_mem.mp hz with q | q
    ·rw[q];rcases ZiQ hk' (hl y A6) e with w | w
     ·exact absurd w hk
     ·exact w
    ·exact h1 z q
theorem srtK_ris{m:Nat}:∀{l:List K2},(∀ x∈l,Sh m x)->ZiH (srtK l)
 | [],_=>List.Pairwise.nil
 | k::l,h=>ZdK (h k A6) (srtK_ris fun x hx=>h x (A3 _ hx)) fun x hx=>h x (A3 _ (srtK_mem.mp hx))
theorem ris_eq:∀{l m:List K2},ZiH l->ZiH m->(∀ x,x∈l ↔ x∈m)->l=m
 | [],[],_,_,_=>rfl
 | [],y::m,_,_,h=>absurd ((h y).mpr A6) (by simp)
 | x::l,[],_,_,h=>absurd ((h x).mp A6) (by simp)
 | x::l,y::m,h1,h2,h=>by
  obtain⟨a1,a2⟩:=At.mp h1;obtain⟨b1,b2⟩:=At.mp h2;have e:x=y:=by
   rcases A4.mp ((h x).mp A6) with q | q
   ·exact q
   ·rcases A4.mp ((h y).mpr A6) with w | w
    ·exact w.symm
    ·have:=ZaF _ _ _ (b1 x q) (a1 y w);rw[JM]at this;cases this
  subst e
  congr 1
  refine ris_eq a2 b2 fun z=>?_;have hz:=h z;rw[A4,A4]at hz;constructor
  ·intro q;rcases hz.mp (.inr q) with w | w
   ·subst w;have:=a1 z q;rw[JM]at this;cases this
   ·exact w
  ·intro q;rcases hz.mpr (.inr q) with w | w
   ·subst w;have:=b1 z q;rw[JM]at this;cases this
   ·exact w
theorem ris_nodup{l:List K2}(h:ZiH l):l.Nodup:=h.imp fun {a b} h e=>by subst e;rw[JM]at h;cases h
theorem nubI_len:∀ ks:List K2,(nubI ks).length<=ks.length
 | []=>A7 _
 | k::ks=>by
  have ih:=nubI_len ks;unfold nubI;split<;>simp<;>omega
def shB(ks:List K2):Bool:=match ks with
 | []=>true
 | k::_=>decide (0<k.length)&&ks.all fun x=>decide (x.length=k.length)&&x.all fun y=>decide (y.length=2)
theorem ZiR{ks:List K2}(h:shB ks=true):∃ m,∀ k∈ks,Sh m k:=by
 cases ks with
 | nil=>exact⟨0,fun k hk=>by cases hk⟩
 | cons k ks=>
  obtain⟨h1,h2⟩:=Ad.mp (show(decide (0<k.length)&&(k::ks).all fun x=>decide (x.length=k.length)&&x.all fun y=>decide (y.length=2))=true from h);have h1:=of_decide_eq_true h1;refine⟨k.length-1,fun x hx=>?_⟩;obtain⟨a,b⟩:=Ad.mp (aa.mp h2 x hx);have a:=of_decide_eq_true a;exact⟨by omega,fun y hy=>of_decide_eq_true (aa.mp b y hy)⟩
section
variable{X:Cx}{pins:List (Addr×Obj)}{σ:L2.St}{H:Hp}{s:Shared}{F:Fz}
theorem Zdi{A:Around}{E:Value->Shared->Prop}{vals:List Value}{kk:List K2}{m:Nat}{h2:Heap}{tk:Nat}{Q:VK}(hu:A.units+8<cLine)(I:Inv X pins σ H s)(kp:∀ b o,s.heap.get? b=some o->h2.get? b=some o)(sz:s.heap.objs.size<=h2.objs.size)(hvl:vals.length<=60)(klen:kk.length=vals.length)
  (knd:kk.Nodup)(ksh:∀ k∈kk,Sh m k)(kt:∀(i:Nat) (v:Value) (k:K2),vals[i]?=some v->kk[i]?=some k->∃ b,v=Value.ref b/\TK X.prog X.w h2 k b/\Rep X.K F H (kD k) (.ref b))
  (q:∀ w F' H',Grow F H F' H'->Rep X.K F' H' (.lst ((srtK kk).map kD)) w->Q w H'):
  wpAny (model X.prog X.w) A (do
   let l <- newList vals
   let _ <- holding [l] (call (.builtin "list.sort") [l] [])
   ret l) (fun fin s'=>∃ v,fin=PySem.Fin.done (Flow.ret v)/\EP X pins σ Q v s') E {s with heap:=h2,toks:=tk}:=by
 refine wpAny_bind (wpAny_newList ?_ (by rw[sizeLine_eq];omega));have hoL:(h2.push (seqObj "list" vals.toArray 0)).get? h2.objs.size=some (seqObj "list" vals.toArray 0):=Heap.get?_push_size _ rfl;have done:∀(ys:List Value) (zs:List K2) (h3:Heap) (c:Nat),(∀ b o,b≠h2.objs.size->(h2.push (seqObj "list" vals.toArray 0)).get? b=some o->h3.get? b=some o)->h3.get? h2.objs.size=some (seqObj "list" ys.toArray c)->zs.length=ys.length ->
   zs=srtK kk->(∀(i:Nat) (v:Value) (k:K2),ys[i]?=some v->zs[i]?=some k->∃ b,v=Value.ref b/\TK X.prog X.w h2 k b/\Rep X.K F H (kD k) (.ref b)) ->
   EP X pins σ Q (.ref h2.objs.size) {s with heap:=h3,toks:=tk}:=by
  intro ys zs h3 c k3 ho3 hlz hz hyz;obtain⟨us,ru,rl⟩:∃ us,Vals us ys/\RepL X.K F H (zs.map kD) us:=by
   have go:∀(ys:List Value) (zs:List K2),zs.length=ys.length->(∀(i:Nat) (v:Value) (k:K2),ys[i]?=some v->zs[i]?=some k->∃ b,v=Value.ref b/\TK X.prog X.w h2 k b/\Rep X.K F H (kD k) (.ref b))->∃ us,Vals us ys/\RepL X.K F H (zs.map kD) us:=by
    intro ys
    induction ys with
    | nil=>
     intro zs hl _;have e:zs=[]:=Bt (by simpa using hl);subst e;exact⟨[],.nil,.nil⟩
    | cons y ys ih=>
     intro zs hl hh;cases zs with
     | nil=>simp at hl
     | cons z zs=>
      obtain⟨us,u1,u2⟩:=ih zs (by simpa using hl) fun i v k a b=>hh (i+1) v k (by simpa using a) (by simpa using b);obtain⟨b,rfl,_,t3⟩:=hh 0 y z rfl rfl;exact⟨.ref b::us,.cons rfl u1,.cons t3 u2⟩
   exact go ys zs hlz hyz
  have hf:H h2.objs.size=none:=I.hok.fresh sz;have hul:us.length<=sizeLine:=by
   rw[ru.length,<-hlz,hz];have e2:(srtK kk).length=(nubI kk).length:=nodup_len (ris_nodup (srtK_ris ksh)) (nodup_nubI kk) fun y=>by rw[srtK_mem,mem_nubI]
   have e3:=nubI_len kk;rw[e2,sizeLine_eq];omega
  rw[hz]at rl;refine⟨.ref h2.objs.size,upd H h2.objs.size (.lst us),I.laid (t':=tk) (fun b o e=>k3 b o (fun z=>?_) (Heap.get?_push_of_some _ (kp _ _ e))) sz ?_,rfl,q _ _ _ (.laid hf) (YF hf rl)⟩
  ·have:=Heap.lt_size e;rw[z]at this;exact absurd (Aj this sz) (aq _)
  ·exact⟨hul,ys,c,ru,ho3⟩
 refine wpAny_bind (wpAny_holding (wpAny_call_entry slot_list_sort ⟨_,hoL,rfl⟩ entry_list_sort ?_ (args_list_sort _)));by_cases h2n:vals.length<2
 ·refine Zl5 (s:={s with heap:=h2.push (seqObj "list" vals.toArray 0),toks:=tk}) hoL h2n fun h3 c k3 ho3=>⟨_,rfl,?_⟩;refine wpAny_pure ⟨_,rfl,done vals kk h3 c k3 ho3 (by omega) ?_ kt⟩;refine ris_eq ?_ (srtK_ris ksh) fun x=>by rw[srtK_mem]
  match kk,klen with
  | [],_=>exact List.Pairwise.nil
  | [a],_=>exact List.pairwise_singleton ..
  | a::b::r,kl=>simp at kl;omega
 ·have hkv:∀ i,i<vals.length->kk[i]?=some (kk.getD i [])/\kk.getD i []∈kk:=fun i hi=>by
   have hi':i<kk.length:=by omega
   have e:kk[i]?=some (kk.getD i []):=by simp[hi']
   exact⟨e,av e⟩
  have inj:∀ i j,i<vals.length->j<vals.length->kk.getD i []=kk.getD j []->i=j:=fun i j hi hj e=>by
   have a:=(hkv i hi).1;have b:=(hkv j hj).1;rw[e,<-b]at a;exact(List.getElem?_inj (by omega) knd).mp a
  have hord:So.Ord vals.length fun i j=>Vo (kk.getD i []) (kk.getD j []):=
   ⟨fun i _=>JM _,fun i j k _ _ _ h1 h2=>ZaF _ _ _ h1 h2,fun i j hi hj hne=>ZiQ (ksh _ (hkv i hi).2) (ksh _ (hkv j hj).2) fun e=>hne (inj i j hi hj e)⟩
  refine ZnB (s:={s with heap:=h2.push (seqObj "list" vals.toArray 0),toks:=tk}) (ks:=kk) (m:=m) hoL (by omega) (by omega) (show A.units+1<cLine by omega) (by omega) hord (fun k hk=>(ksh k hk).1) (fun i v k hv hk=>?_) fun p pm st h3 c k3 ho3=>⟨_,rfl,?_⟩
  ·obtain⟨b,e1,t,_⟩:=kt i v k hv hk;exact⟨b,e1,t.kp (.of fun b o e=>Heap.get?_push_of_some _ e)⟩
  ·refine wpAny_pure ⟨_,rfl,done _ (p.toList.map fun i=>kk.getD i []) h3 c k3 ho3 (by simp) ?_ fun i v k hv hk=>?_⟩
   ·refine ris_eq ?_ (srtK_ris ksh) fun x=>?_
    ·unfold ZiH;rw[Bp,ba];intro i j hi hj hij;have hs:=pm.size;have hi':i<vals.length:=by simpa[hs]using hi
     have hj':j<vals.length:=by simpa[hs]using hj
     have:=st i j hij hj';simpa[hs,hi',hj']using this
    ·rw[srtK_mem,A8];constructor
     ·rintro⟨i,hi,rfl⟩;have:=Ae.mp (pm.perm.mem_iff.mp hi);exact(hkv i this).2
     ·intro hx;obtain⟨i,hi,e⟩:=List.getElem_of_mem hx;exact⟨i,pm.perm.mem_iff.mpr (Ae.mpr (by omega)),by simp[hi,e]⟩
   ·rw[au]at hv hk;cases e:p.toList[i]? with
    | none=>rw[e]at hv;cases hv
    | some m=>
     rw[e]at hv hk;cases hv;cases hk;have hm':m<vals.length:=Ae.mp (pm.perm.mem_iff.mp (av e));refine kt m _ _ ?_ (hkv m hm').1;simp[hm']
def dSortSet:D->Option D:=fun d=>(Yu d).bind fun xs=>(keysOf xs).bind fun ks=>if ks.length<=60/\shB ks=true then some (.lst ((srtK ks).map kD)) else none
def dSortL:D->Option D:=fun d=>match d with
 | .lst xs=>(keysOf xs).bind fun ks=>if ks.length<=60/\shB ks=true/\ks.Nodup then some (.lst ((srtK ks).map kD)) else none
 | _=>none
theorem ed_sort{e:Expr}{f:DE}{p1 p4:Pos}(hu:X.A.units+64<cLine)(hgl:Gl X "sorted")(hml:X.mg "sorted"=none)(he:ED X e f)
  (hst:starEach [e] X.env=[(false,eval e X.env)]:=by rfl):ED X (.Call (.Name "sorted" p1) [e] [] p4) (Jz dSortL f):=by
 intro pins s σ H Q I h;obtain⟨ρ,F0,H0,F,d,ok,ed,q⟩:=h;obtain⟨x,ex,ed⟩:=bind_some ed;cases x with
 | lst xs=>
  obtain⟨ks,ek,ed⟩:=bind_some ed;obtain⟨⟨hn,hsh,nd⟩,rfl⟩:=Ye ed;obtain⟨m,hsh⟩:=ZiR hsh;refine wpAny_Call_Name_kw (Jg I hgl hml PyProof.Rows.boot_sorted (Br ?_ (by rw[hst];rfl) (by rfl)) (by decide) (by decide));rw[hst];show wpAny _ _ (spliced ((false,eval e X.env)::[])) _ _ s;refine Calls.spliced_cons (thn (he pins s σ H (fun v H'=>∃ F',Grow F H F' H'/\Rep X.K F' H' (.lst xs) v) I ⟨ρ,F0,H0,F,_,ok,ex,fun v F' H' g r=>⟨F',g,r⟩⟩) fun u s1 ⟨v,H1,I1,r1,F1,g1,rx⟩=>Calls.spliced_nil ?_);unfold Rep at rx;obtain⟨a,vs,rfl,hf,hq,hr⟩:=rx;cases r1;obtain⟨its,rv,p,hz⟩:=I1.list hq;have hl:=p.isList;have hlen:ks.length=its.length:=by rw[keysOf_len ek,hr.length,rv.length]
  refine Calls.call_function_entry kind_sorted plain_sorted entry_sorted (args_sorted1 _) ?_;unfold Builtin.«sorted»;refine wpAny_bind (m:=checkCount "sorted" 1 1 _) (wpAny_pure ?_);refine wpAny_bind (collect_list hl ?_ (by rw[sizeLine_eq];omega));have keep:∀ b o,s1.heap.get? b=some o->((s1.heap.push (seqObj "list" #[] 0)).update s1.heap.objs.size (Obj.mapSeq (·++its.toArray))).get? b=some o:=fun b o q=>by
   have hlt:b<s1.heap.objs.size:=Heap.lt_size q;rw[Heap.get?_update_ne _ _ _ _ (Am hlt),Heap.get?_push_ne _ _ _ (Am hlt)];exact q
  refine Zdi (A:=X.A.in1) (m:=m) (F:=F1) (tk:=s1.toks) (show X.A.units+1+8<cLine by omega) I1 keep (by rw[Heap.size_update,Heap.size_push];exact Nat.le_succ _) (by omega) hlen nd hsh (fun i v k hv hk=>?_) fun w F' H' g r=>q w F' H' (g1.trans g) r;obtain⟨y,ey,ry⟩:=hr.get (keysOf_get ek hk);obtain⟨u2,eu,ru⟩:=rv.get ey;rw[hv]at eu;cases eu;obtain⟨b,rfl,t⟩:=tk_of I1 ry ru;have ry':=ry;unfold kD Rep at ry';obtain⟨a',vs',e3,_⟩:=ry';subst e3;cases ru;exact⟨_,rfl,t.kp (.of keep),ry⟩
 | _=>cases ed
end
end L4
namespace L5
open PySem PySem.Spec PyProof.Rows L2 L3 L4 SetTab PySem.SetTable
structure KY(prog:Program)(w:World)(α:Type)[DecidableEq α] where
 is:Heap->α->Addr->Prop
 hash:α->Int
 kp:∀{h h':Heap} {k:α} {b:Addr},Kp h h'->is h k b->is h' k b
 pyHash:∀{A:Around} {E:Value->Shared->Prop} {s:Shared} {k:α} {b:Addr} {Q:Int->Shared->Prop},A.units+1<cLine->is s.heap k b->(∀ tk,Q (hash k) {s with toks:=tk})->wpAny (model prog w) A (PySem.pyHash (.ref b)) Q E s
 eqB:∀{A:Around} {E:Value->Shared->Prop} {s:Shared} {x y:α} {a b:Addr} {Q:Bool->Shared->Prop},A.units+1<cLine->is s.heap x a->is s.heap y b->Q (decide (x=y)) s->wpAny (model prog w) A (eqBool (.ref a) (.ref b)) Q E s
 quiet:∀{A:Around} {E:Value->Shared->Prop} {s:Shared} {k:α} {b:Addr} {Q:Bool->Shared->Prop},is s.heap k b->Q true s->wpAny (model prog w) A (eqIsQuiet 8 (.ref b)) Q E s
 ofC:∀{A:Around} {E:Value->Shared->Prop} {s:Shared} {k:α} {b:Addr} {Q:Bool->Shared->Prop},is s.heap k b->Q false s->wpAny (model prog w) A (ofAClassStatement 8 (.ref b)) Q E s
 hbv:∀{A:Around} {E:Value->Shared->Prop} {s:Shared} {k:α} {b:Addr} {Q:Bool->Shared->Prop},is s.heap k b->Q true s->wpAny (model prog w) A (hashByValue 8 (.ref b)) Q E s
def yI(prog:Program)(w:World):KY prog w (List Int) where
 is:=L3.TK prog w
 hash:=L3.kh prog w
 kp:=fun kp t=>L4.tk_kp kp t
 pyHash:=fun hu hk h=>wpAny_pyHash_tuple (Nat.lt_of_succ_lt hu) hk (h _)
 eqB:=fun hu hx hy h=>wpAny_eqBool_tuple (Nat.lt_of_succ_lt hu) hx hy h
 quiet:=fun hk h=>wpAny_eqIsQuiet_tuple hk h
 ofC:=fun hk h=>L3.wp_ofClass hk h
 hbv:=fun hk h=>L3.wp_hashBV hk h
def yN(prog:Program)(w:World):KY prog w L4.K2 where
 is:=L4.TK prog w
 hash:=L4.kh prog w
 kp:=fun kp t=>t.kp kp
 pyHash:=fun hu hk h=>L4.hash_t hu hk h
 eqB:=fun hu hx hy h=>L4.eq_t hu hx hy h
 quiet:=fun hk h=>L4.quiet_t hk h
 ofC:=fun hk h=>L4.wp_ofClass hk h
 hbv:=fun hk h=>L4.wp_hashBV hk h
section
variable{prog:Program}{w:World}{α:Type}[DecidableEq α]{Y:KY prog w α}{A:Around}{E:Value->Shared->Prop}{s:Shared}
theorem KY.seen{ks:α}{a:Addr}{ys:List Value}{Q:Bool->Shared->Prop}(hk:Y.is s.heap ks a)(hys:∀ y∈ys,∃ ks' b,y=.ref b/\Y.is s.heap ks' b)(h:Q false s):wpAny (model prog w) A (searchCouldBeSeen (.ref a) ys) Q E s:=by
 unfold searchCouldBeSeen;refine wpAny_bind ?_;refine wpAny_forIn_list _ (fun left r s'=>r.1=none/\s'=s/\∀ y∈left,∃ ks' b,y=Value.ref b/\Y.is s.heap ks' b) _ (fun v left r s' hr=>?_) (fun r s' hr=>?_) _ _ ⟨rfl,rfl,hys⟩
 ·obtain⟨_,rfl,al⟩:=hr;obtain⟨ks',b,rfl,hb⟩:=al v A6;have al':=fun u hu=>al u (A3 _ hu);show wpAny _ _ (if((a==b)||(carriedByValue (.ref a)&&carriedByValue (.ref b)))=true then _ else _) _ _ _;by_cases c:((a==b)||(carriedByValue (.ref a)&&carriedByValue (.ref b)))=true
  ·rw[if_pos c];exact wpAny_pure ⟨rfl,rfl,al'⟩
  ·rw[if_neg c];refine wpAny_bind (Y.quiet hk ?_);rw[if_neg (by decide)];refine wpAny_bind (Y.quiet hb ?_);rw[if_neg (by decide)];refine wpAny_bind (Y.ofC hk ?_);rw[if_neg (by decide)];refine wpAny_bind (Y.ofC hb ?_);rw[if_neg (by decide)];exact wpAny_pure ⟨rfl,rfl,al'⟩
 ·obtain⟨r1,r2⟩:=r;obtain⟨e,rfl,_⟩:=hr;cases e;exact wpAny_pure h
end
section
variable{α:Type}[DecidableEq α]
def Zh2:List α->List α
 | []=>[]
 | k::r=>if k∈r then Zh2 r else k::Zh2 r
theorem mem_nubG:∀{ks:List α} {x:α},x∈Zh2 ks ↔ x∈ks
 | [],x=>by simp[Zh2]
 | k::r,x=>by
  unfold Zh2;by_cases c:k∈r
  ·rw[if_pos c,mem_nubG,A4];exact⟨.inr,fun z=>z.elim (fun e=>e ▸ c) id⟩
  ·rw[if_neg c,A4,A4,mem_nubG]
theorem QX:∀(ks:List α),(Zh2 ks).Nodup
 | []=>Ch
 | k::r=>by
  unfold Zh2;by_cases c:k∈r
  ·rw[if_pos c];exact QX r
  ·rw[if_neg c];exact ae.mpr ⟨fun z=>c (mem_nubG.mp z),QX r⟩
theorem ZaG{l m:List α}(h1:l.Nodup)(h2:m.Nodup)(h:∀ x,x∈l ↔ x∈m):l.length=m.length:=
 Nat.le_antisymm (L3.nodup_le h1 fun x hx=>(h x).mp hx) (L3.nodup_le h2 fun x hx=>(h x).mpr hx)
end
structure TSet{prog:Program}{w:World}{α:Type}[DecidableEq α](Y:KY prog w α)(h:Heap)(a:Addr)(o:Obj)(es:Array (Int×Value))(ep:Nat)(t:SetTable)(keys:List α):Prop where
 ho:h.get? a=some o
 hd:o.data=.set es ep t
 ti:TI t es
 size:keys.length=es.size
 key:∀(i:Nat) k,keys[i]?=some k->∃ b,es[i]?=some (Y.hash k,.ref b)/\Y.is h k b
section
variable{prog:Program}{w:World}{α:Type}[DecidableEq α]{Y:KY prog w α}{A:Around}{E:Value->Shared->Prop}{s:Shared}{a:Addr}{o:Obj}{es:Array (Int×Value)}{ep:Nat}{t:SetTable}{keys:List α}
theorem TSet.fits(T:TSet Y s.heap a o es ep t keys):t.fits es.size=true:=by
 have h1:=T.ti.size;have h2:=T.ti.dm;have h3:=T.ti.room;simp[SetTable.fits,SetTable.fill,h1,h2,h3]
theorem TSet.get(T:TSet Y s.heap a o es ep t keys){i:Nat}(hi:i<es.size):∃ k b,keys[i]?=some k/\es[i]?=some (Y.hash k,.ref b)/\Y.is s.heap k b:=by
 have hi':i<keys.length:=by rw[T.size];exact hi
 obtain⟨b,h1,h2⟩:=T.key i keys[i] (by simp[hi']);exact⟨_,b,by simp[hi'],h1,h2⟩
theorem Ze7(T:TSet Y s.heap a o es ep t keys){k:α}{b:Addr}(hu:A.units+1<cLine)(hk:Y.is s.heap k b){m:Nat}(hm:m<10*turns t.mask)
  (hf:(nth t.mask (st t.mask (Y.hash k)) m).j ∉ t.place.toList)(ha:∀ m',m'<m->(nth t.mask (st t.mask (Y.hash k)) m').j∈t.place.toList){Q:SetFound->Shared->Prop}
  (q1:k∈keys->Q (.there none) s)(q2:k ∉ keys->Q (.free (nth t.mask (st t.mask (Y.hash k)) m).j false) s):
  ∀(d m0 fuel:Nat) (stand:Option Probe),m0+d=m->d<fuel->stand.getD (t.probeStart (Y.hash k))=nth t.mask (st t.mask (Y.hash k)) m0 ->
   (∀ m',m'<m0->∀ i (hi:i<t.place.size),t.place[i]=(nth t.mask (st t.mask (Y.hash k)) m').j->keys[i]?≠some k) ->
   wpAny (model prog w) A (setSearchFrom a (.ref b) (Y.hash k) true fuel stand) Q E s:=by
 have I:=T.ti;intro d
 induction d using Nat.strongRecOn with
 | ind d ih=>
  intro m0 fuel stand hd hfu hst hno;cases fuel with
  | zero=>omega
  | succ fuel=>
   unfold setSearchFrom;refine wpAny_bind (wpAny_setState_of T.ho T.hd T.fits ?_);dsimp only;have hg:t.gaveWay=false:=by simp[SetTable.gaveWay,I.odd]
   rw[if_neg (by rw[hg];decide),hst];have run:=(Run.st t.mask (Y.hash k)).nth m0;have hadd:∀ x,nth t.mask (nth t.mask (st t.mask (Y.hash k)) m0) x=nth t.mask (st t.mask (Y.hash k)) (m0+x):=fun x=>(Js t.mask _ m0 x).symm;have pg:=ZhS I (fun i=>(es[i]?.map (·.1)).getD 0) (Y.hash k) d (fuel:=10*turns t.mask) run (by omega) (by rw[hadd,hd];exact hf) (fun m' hm'=>by rw[hadd];exact ha _ (by omega));rcases pg with⟨e,hn⟩ | ⟨m1,i,hm1,hi,epl,ehash,e,hn⟩
   ·have e':t.probe (fun i=>(es[i]?.map (·.1)).getD 0) (Y.hash k) (nth t.mask (st t.mask (Y.hash k)) m0)=some (.empty (nth t.mask (st t.mask (Y.hash k)) m).j none):=by
     rw[hadd,hd]at e;exact e
    generalize hp:t.probe _ (Y.hash k) (nth t.mask (st t.mask (Y.hash k)) m0)=r;have hr:=hp.symm.trans e';subst hr;dsimp only;refine wpAny_pure (q2 fun hmem=>?_);obtain⟨i,hi,ei⟩:=Bn.mp hmem;have hie:i<es.size:=by rw[<-T.size];exact hi
    have hip:i<t.place.size:=by rw[I.size];exact hie
    obtain⟨b',h1,h2⟩:=T.key i k (by rw[<-ei];simp[hi]);have h1':es[i]=(Y.hash k,.ref b'):=by
     have:=Av hie;rw[h1]at this;exact(Option.some.inj this).symm
    obtain⟨k0,r1,r2⟩:=I.reach i hip hie;rw[h1']at r1 r2;have hk0:k0<m:=by
     rcases Nat.lt_trichotomy k0 m with z | z | z
     ·exact z
     ·subst z;exact absurd (by rw[r1];simp) hf
     ·exact absurd (r2 m z) hf
    by_cases c:k0<m0
    ·exact hno k0 c i hip r1.symm (by rw[<-ei];simp[hi])
    ·refine hn (k0-m0) (by omega) i hip ?_ ?_
     ·rw[hadd,show m0+(k0-m0)=k0 by omega];exact r1.symm
     ·simp[h1]
   ·have e':t.probe (fun i=>(es[i]?.map (·.1)).getD 0) (Y.hash k) (nth t.mask (st t.mask (Y.hash k)) m0)=some (.candidate (nth t.mask (st t.mask (Y.hash k)) (m0+m1)).j i (nth t.mask (st t.mask (Y.hash k)) (m0+m1+1))):=by
     rw[hadd,hadd,<-Nat.add_assoc]at e;exact e
    generalize hp:t.probe _ (Y.hash k) (nth t.mask (st t.mask (Y.hash k)) m0)=r;have hr:=hp.symm.trans e';subst hr;dsimp only;have hie:i<es.size:=by rw[<-I.size];exact hi
    obtain⟨k',c,g1,g2,g3⟩:=T.get hie;have seen:t.led=false->∀ y∈((es.filter (·.1==Y.hash k)).toList.map (·.2)),∃ ks' b,y=Value.ref b/\Y.is s.heap ks' b:=fun _ y hy=>by
     obtain⟨p,hp,rfl⟩:=A8.mp hy;have hp':p∈es:=by simp at hp;exact hp.1
     obtain⟨j,hj,ej⟩:=Array.mem_iff_getElem.mp hp';obtain⟨k2,c2,g1',g2',g3'⟩:=T.get hj;have:p=(Y.hash k2,.ref c2):=by
      rw[<-ej];have:=Av hj;rw[g2']at this;exact(Option.some.inj this).symm
     subst this;exact⟨k2,c2,rfl,g3'⟩
    cases hl:t.led
    all_goals first
     | (simp only[B8,if_true];refine wpAny_bind (Y.seen hk (seen hl) ?_);simp only[Af,if_false])
     | simp only[B9,Af,if_false]
    all_goals
     rw[g2];dsimp only;refine wpAny_bind (wpAny_holding (Y.eqB hu g3 hk ?_));refine wpAny_bind (wpAny_setState_of T.ho T.hd T.fits ?_);dsimp only;by_cases ek:k'=k
     ·subst ek;rw[decide_eq_true rfl,if_pos (by decide)];exact wpAny_pure (q1 (av g1))
     ·rw[decide_eq_false ek,if_neg (by decide)];have sm:t.sameMemory t.moves t.mask=some true:=by simp[SetTable.sameMemory]
      rw[sm];dsimp only;have sl:t.slot (nth t.mask (st t.mask (Y.hash k)) (m0+m1)).j=.live i:=by
       have:=Uy I.ris hi;rw[epl,hadd]at this;exact this
      rw[if_pos rfl,sl];dsimp only;rw[g2];dsimp only;refine wpAny_bind (wpAny_isSame_ref_self (wpAny_bind (wpAny_pure ?_)));rw[if_pos rfl];dsimp only;rw[if_neg (by decide)];refine ih (d-m1-1) (by omega) (m0+m1+1) fuel _ (by omega) (by omega) rfl fun m' hm' i' hi' ep'=>?_;by_cases c1:m'<m0
      ·exact hno m' c1 i' hi' ep'
      ·by_cases c2:m'=m0+m1
       ·subst c2;have:i'=i:=by
         have e1:t.place[i']=t.place[i]:=by rw[ep',epl,hadd]
         have l1:=Uy I.ris hi';have l2:=Uy I.ris hi;rw[e1,l2]at l1;injection l1 with l1;exact l1.symm
        subst this;rw[g1];exact fun z=>ek (Option.some.inj z)
       ·intro z;have hie':i'<es.size:=by rw[<-I.size];exact hi'
        obtain⟨b',z1,z2⟩:=T.key i' k z;refine hn (m'-m0) (by omega) i' hi' ?_ ?_
        ·rw[hadd,show m0+(m'-m0)=m' by omega];exact ep'
        ·simp[z1]
end
noncomputable def Al{prog:Program}{w:World}{α:Type}[DecidableEq α](Y:KY prog w α)(h:Heap):List α->List (Int×Value)->Prop
 | [],l=>l=[]
 | k::ks,l=>∃ b r,l=(Y.hash k,.ref b)::r/\Y.is h k b/\Al Y h ks r
section
variable{prog:Program}{w:World}{α:Type}[DecidableEq α]{Y:KY prog w α}{h h':Heap}
theorem Al.length:∀{ks:List α} {l:List (Int×Value)},Al Y h ks l->ks.length=l.length
 | [],l,a=>by unfold Al at a;subst a;rfl
 | k::ks,l,a=>by unfold Al at a;obtain⟨b,r,rfl,_,a⟩:=a;simp[a.length]
theorem Al.get:∀{ks:List α} {l:List (Int×Value)} {i:Nat} {k:α},Al Y h ks l->ks[i]?=some k->∃ b,l[i]?=some (Y.hash k,.ref b)/\Y.is h k b
 | [],l,i,k,a,e=>by simp at e
 | k0::ks,l,i,k,a,e=>by
  unfold Al at a;obtain⟨b,r,rfl,t,a⟩:=a;cases i with
  | zero=>simp at e;subst e;exact⟨b,rfl,t⟩
  | succ i=>obtain⟨b',e1,e2⟩:=Al.get (i:=i) a (by simpa using e);exact⟨b',by simpa using e1,e2⟩
theorem Al.keep(kp:∀ k b,Y.is h k b->Y.is h' k b):∀{ks:List α} {l:List (Int×Value)},Al Y h ks l->Al Y h' ks l
 | [],l,a=>a
 | k::ks,l,a=>by
  unfold Al at a ⊢;obtain⟨b,r,e,t,a⟩:=a;exact⟨b,r,e,kp _ _ t,a.keep kp⟩
theorem Al.append:∀{ks ks':List α} {l l':List (Int×Value)},Al Y h ks l->Al Y h ks' l'->Al Y h (ks++ks') (l++l')
 | [],ks',l,l',a,a'=>by unfold Al at a;subst a;exact a'
 | k::ks,ks',l,l',a,a'=>by
  unfold Al at a;obtain⟨b,r,rfl,t,a⟩:=a;show Al Y h (k::(ks++ks')) _;unfold Al;exact⟨b,r++l',rfl,t,a.append a'⟩
theorem Al.take:∀{ks:List α} {l:List (Int×Value)} (n:Nat),Al Y h ks l->Al Y h (ks.take n) (l.take n)
 | _,_,0,_=>by simp[Al]
 | [],l,n+1,a=>by unfold Al at a;subst a;simp[Al]
 | k::ks,l,n+1,a=>by
  unfold Al at a;obtain⟨b,r,rfl,t,a⟩:=a;simp only[List.take_succ_cons];unfold Al;exact⟨b,_,rfl,t,a.take n⟩
theorem Al.drop:∀{ks:List α} {l:List (Int×Value)} (n:Nat),Al Y h ks l->Al Y h (ks.drop n) (l.drop n)
 | _,_,0,a=>a
 | [],l,n+1,a=>by unfold Al at a;subst a;simp[Al]
 | k::ks,l,n+1,a=>by
  unfold Al at a;obtain⟨b,r,rfl,t,a⟩:=a;exact a.drop n
theorem Al.one{k:α}{b:Addr}(t:Y.is h k b):Al Y h [k] [(Y.hash k,.ref b)]:=by unfold Al;exact⟨b,[],rfl,t,by simp[Al]⟩
theorem Al.perm{l l':List (Int×Value)}(p:l'.Perm l):∀{ks:List α},Al Y h ks l->∃ ks',Al Y h ks' l'/\ks'.Perm ks:=by
 have gen:∀{l l':List (Int×Value)},l.Perm l'->∀{ks:List α},Al Y h ks l->∃ ks',Al Y h ks' l'/\ks'.Perm ks:=by
  intro l l' p
  induction p with
  | nil=>intro ks a;exact⟨ks,a,.refl _⟩
  | cons x p ih=>
   intro ks a;cases ks with
   | nil=>unfold Al at a;cases a
   | cons k ks=>
    unfold Al at a;obtain⟨b,r,e,t,a⟩:=a;injection e with e1 e2;subst e1 e2;obtain⟨ks',a',p'⟩:=ih a;exact⟨k::ks',by unfold Al;exact⟨b,_,rfl,t,a'⟩,p'.cons k⟩
  | swap x y l=>
   intro ks a;cases ks with
   | nil=>unfold Al at a;cases a
   | cons k ks=>
    unfold Al at a;obtain⟨b,r,e,t,a⟩:=a;injection e with e1 e2;subst e1 e2;cases ks with
    | nil=>unfold Al at a;cases a
    | cons k2 ks=>
     unfold Al at a;obtain⟨b2,r2,e,t2,a⟩:=a;injection e with e1 e2;subst e1 e2;refine⟨k2::k::ks,?_,.swap _ _ _⟩;unfold Al;refine⟨b2,_,rfl,t2,?_⟩;unfold Al;exact⟨b,_,rfl,t,a⟩
  | trans p1 p2 ih1 ih2=>
   intro ks a;obtain⟨ks1,a1,q1⟩:=ih1 a;obtain⟨ks2,a2,q2⟩:=ih2 a1;exact⟨ks2,a2,q2.trans q1⟩
 exact fun {ks} a=>gen p.symm a
end
def SetI(G:Addr->Prop){prog:Program}{w:World}{α:Type}[DecidableEq α](Y:KY prog w α)(h:Heap)(a:Addr)(keys:List α):Prop:=∃ o es ep t,h.get? a=some o/\o.ExactSet/\o.data=.set es ep t/\TI t es/\Al Y h keys es.toList/\keys.Nodup /\
 (t.mask=7\/t.mask=31\/t.mask=127)/\es.size*5<t.mask*3/\t.plain=true/\t.led=(!w.params.followText "set-order")/\∀ p∈es.toList,∃ b,p.2=Value.ref b/\G b
theorem KY.keep{prog:Program}{w:World}{α:Type}[DecidableEq α]{Y:KY prog w α}{h h':Heap}{a:Addr}{o:Obj}{es ep t}(ho:h.get? a=some o)(hd:o.data=.set es ep t)(sb:Heap.SameBut a h h'){k:α}{b:Addr}(hk:Y.is h k b):Y.is h' k b:=
 Y.kp (fun b o' items n hb _ hdb=>(sb.2 b fun z=>by rw[z,ho]at hb;cases hb;rw[hd]at hdb;cases hdb).trans hb) hk
section
variable{prog:Program}{w:World}{α:Type}[DecidableEq α]{Y:KY prog w α}{A:Around}{E:Value->Shared->Prop}{s:Shared}{a:Addr}{keys:List α}
theorem Ze6{G:Addr->Prop}(S:SetI G Y s.heap a keys){k:α}{b:Addr}(hG:G b)(hu:A.units+1<cLine)(hk:Y.is s.heap k b)(hz:keys.length<70){Q:Bool->Shared->Prop}
  (q:∀ r h' tk keys',Heap.SameBut a s.heap h'->SetI G Y h' a keys'->(∀ x,x∈keys' ↔ x∈keys\/x=k)->keys'.length<=keys.length+1->Q r {s with heap:=h',toks:=tk}):wpAny (model prog w) A (setAdd a (.ref b)) Q E s:=by
 unfold setAdd;refine wpAny_holding (wpAny_bind (Y.pyHash hu hk fun tk0=>?_));obtain⟨o,es,ep,t,ho,hc,hd,I,al,nd,hm,hf,hpl0,hld0,hgs⟩:=id S;have hal:keys.length=es.size:=al.length;have T:TSet Y ({s with toks:=tk0}:Shared).heap a o es ep t keys:=⟨ho,hd,I,hal,fun i k' e=>by
  obtain⟨b',e1,e2⟩:=al.get e;exact⟨b',by rw[Az]at e1;exact e1,e2⟩⟩
 unfold setAddHashed setAddHashedIn;refine wpAny_holding (wpAny_bind (wpAny_setState_of T.ho T.hd T.fits ?_));dsimp only;have bs:byScan (.ref b) es=false:=by simp[byScan,Value.scannable]
 rw[bs,if_neg (by decide)];obtain⟨m,m1,m2,m3⟩:=Zez I.full I.ris.nodup (by have:=I.size;have:=I.room;simp;omega) (Run.st t.mask (Y.hash k)) (Zg9 _);have hmask:t.mask<=127:=by rcases hm with h | h | h<;>omega
 refine wpAny_bind ?_;unfold setSearch;refine Ze7 T hu hk m1 m2 m3 (fun hin=>?_) (fun hout=>?_) m 0 100000 none (by omega) (by unfold turns at m1;omega) rfl (fun m' hm'=>absurd hm' (Nat.not_lt_zero _))
 ·dsimp only;exact wpAny_pure (q false s.heap tk0 keys (Heap.SameBut.refl a s.heap) S (fun x=>⟨.inl,fun z=>z.elim id fun e=>e ▸ hin⟩) (by omega))
 ·dsimp only;refine wpAny_bind (wpAny_setState_of T.ho T.hd T.fits ?_);dsimp only;have hroom:es.size+1<=t.mask:=by rcases hm with h | h | h<;>omega
  have P:=I.put (x:=Value.ref b) m2 m3 hroom;have hpm:(t.put (nth t.mask (st t.mask (Y.hash k)) m).j).1.mask=t.mask:=rfl;have hpp:(t.put (nth t.mask (st t.mask (Y.hash k)) m).j).1.plain=t.plain:=rfl;have hpq:(t.put (nth t.mask (st t.mask (Y.hash k)) m).j).1.led=t.led:=rfl;generalize t.put (nth t.mask (st t.mask (Y.hash k)) m).j=tp at P hpm hpp hpq;obtain⟨t1,p⟩:=tp;dsimp only at P hpm hpp hpq ⊢;rw[hpl0]at hpp;rw[hld0]at hpq;have hgi:∀ q∈(SetTable.insertAt es p (Y.hash k,Value.ref b)).toList,∃ b,q.2=Value.ref b/\G b:=fun q hq=>by
   rw[SetTab.toList_insertAt]at hq;rcases Bk.mp hq with z | z
   ·exact hgs q (List.mem_of_mem_take z)
   ·rcases A4.mp z with y | y
    ·exact⟨b,by rw[y],hG⟩
    ·exact hgs q (List.mem_of_mem_drop y)
  have cont:wpAny (model prog w) A (do
    storeSet a (SetTable.insertAt es p (Y.hash k,.ref b)) t1
    if(!false&&t1.tooFull)=true then do
     setRelay a (SetTable.grown (es.size+1))
     pure true
    else pure true) Q E ({s with toks:=tk0}:Shared):=by
   have hsz:(SetTable.insertAt es p (Y.hash k,Value.ref b)).size=es.size+1:=Qq _ _ _;have hsl:(sizeLine:Nat)=16777216:=sizeLine_eq;refine wpAny_bind (wpAny_storeSet_of T.ho T.hd ?_ (by rw[hsz];omega));have sb1:Heap.SameBut a s.heap (s.heap.update a (Obj.putSet (SetTable.insertAt es p (Y.hash k,.ref b)) t1)):=Heap.SameBut.update s.heap a _;have g1:(s.heap.update a (Obj.putSet (SetTable.insertAt es p (Y.hash k,.ref b)) t1)).get? a=some {o with data:=.set (SetTable.insertAt es p (Y.hash k,.ref b)) (ep+1) t1}:=Za7 ho hd;have kp:∀ k' b',Y.is s.heap k' b'->Y.is (s.heap.update a (Obj.putSet (SetTable.insertAt es p (Y.hash k,.ref b)) t1)) k' b':=fun k' b' hk'=>KY.keep ho hd sb1 hk';have al1:Al Y (s.heap.update a (Obj.putSet (SetTable.insertAt es p (Y.hash k,.ref b)) t1)) (keys.take p++k::keys.drop p) (SetTable.insertAt es p (Y.hash k,Value.ref b)).toList:=by
    rw[SetTab.toList_insertAt];exact((al.take p).append ((Al.one hk).append (al.drop p))).keep kp
   have pm:(keys.take p++k::keys.drop p).Perm (k::keys):=by
    have:=(List.perm_middle (a:=k) (l₁:=keys.take p) (l₂:=keys.drop p));rw[B1]at this;exact this
   have nd1:(keys.take p++k::keys.drop p).Nodup:=pm.nodup_iff.mpr (ae.mpr ⟨hout,nd⟩);have mem1:∀ x,x∈keys.take p++k::keys.drop p ↔ x∈keys\/x=k:=fun x=>by rw[pm.mem_iff,A4];exact or_comm
   have len1:(keys.take p++k::keys.drop p).length<=keys.length+1:=by rw[pm.length_eq];simp
   have hm1:t1.mask=7\/t1.mask=31\/t1.mask=127:=by rw[hpm];exact hm
   have hfill:t1.fill=es.size+1:=by
    have h1:=P.size;have h2:=P.dm;simp[SetTable.fill,h2,h1,hsz]
   by_cases tf:t1.tooFull=true
   ·rw[tf,if_pos (by decide)];have tf':(es.size+1)*5>=t.mask*3:=by
     simp only[SetTable.tooFull,hfill,hpm]at tf;simpa using tf
    refine wpAny_bind ?_;unfold setRelay;have T1:TSet Y (s.heap.update a (Obj.putSet (SetTable.insertAt es p (Y.hash k,.ref b)) t1)) a _ (SetTable.insertAt es p (Y.hash k,.ref b)) (ep+1) t1 (keys.take p++k::keys.drop p):=⟨g1,rfl,P,by rw[al1.length,Ba],fun i k' e=>by
     obtain⟨b',e1,e2⟩:=al1.get e;exact⟨b',by rw[Az]at e1;exact e1,e2⟩⟩
    refine wpAny_bind (wpAny_setState_of g1 rfl (T1.fits (s:={s with heap:=_})) ?_);dsimp only;have big:∃ M,SetTable.sizeAbove (SetTable.grown (es.size+1))=M+1/\(M=7\/M=31\/M=127)/\(es.size+1)*5<M*3:=by
     have e5:es.size=4/\t.mask=7\/es.size=18/\t.mask=31:=by
      have h70:es.size<70:=by omega
      rcases hm with h | h | h
      ·rw[h]at hf tf';omega
      ·rw[h]at hf tf';omega
      ·rw[h]at hf tf';omega
     rcases e5 with⟨e5,_⟩ | ⟨e5,_⟩
     ·rw[e5];exact⟨31,by decide,by decide,by decide⟩
     ·rw[e5];exact⟨127,by decide,by decide,by decide⟩
    obtain⟨M,eM,hM,hMf⟩:=big;rw[eM,if_neg (by omega)];obtain⟨t2,order,el,l1,l2,l3,l4,l5,l6,l7⟩:=Zke (finger:=t1.finger) (moves:=t1.movedTo M) (led:=t1.led) (plain:=t1.plain) (Zgr hM) (by rcases hM with h | h | h<;>omega) (SetTable.insertAt es p (Y.hash k,Value.ref b)) (by rw[hsz];omega);have er:t1.relaid ((SetTable.insertAt es p (Y.hash k,Value.ref b)).map (·.1)) (SetTable.grown (es.size+1))=some (t2,order):=by
     unfold SetTable.relaid;rw[eM];exact el
    rw[er];show wpAny _ _ (Zlu (SetTable.insertAt es p (Y.hash k,Value.ref b)) (some (t2,order)) >>= _) _ _ _;unfold Zlu;dsimp only;rw[l5,if_neg (by simp)];refine wpAny_bind (wpAny_pure ?_);dsimp only;refine wpAny_storeSet_of (s:={s with heap:=_,toks:=tk0}) g1 rfl ?_ (by rw[l5,hsz];omega);have sb2:=Heap.SameBut.update (s.heap.update a (Obj.putSet (SetTable.insertAt es p (Y.hash k,.ref b)) t1)) a (Obj.putSet (order.filterMap ((SetTable.insertAt es p (Y.hash k,Value.ref b))[·]?)) t2);have g2:(Heap.update (s.heap.update a (Obj.putSet (SetTable.insertAt es p (Y.hash k,.ref b)) t1)) a (Obj.putSet (order.filterMap ((SetTable.insertAt es p (Y.hash k,Value.ref b))[·]?)) t2)).get? a=some {o with data:=.set _ (ep+1+1) t2}:=Za7 (o:={o with data:=.set (SetTable.insertAt es p (Y.hash k,Value.ref b)) (ep+1) t1}) g1 rfl;obtain⟨keys2,al2,pm2⟩:=Al.perm l7 al1;refine wpAny_pure (q true _ tk0 keys2 (sb1.trans sb2) ⟨_,_,_,t2,g2,hc,rfl,l6,al2.keep fun k' b' hk'=>KY.keep g1 rfl sb2 hk',pm2.nodup_iff.mpr nd1,by rw[l1];exact hM,by rw[l1,l5,hsz];exact hMf,by rw[l3];exact hpp,by rw[l2];exact hpq,fun q hq=>hgi q (l7.mem_iff.mp hq)⟩ (fun x=>by rw[pm2.mem_iff];exact mem1 x) (by rw[pm2.length_eq];exact len1))
   ·have tf0:t1.tooFull=false:=by simpa using tf
    rw[tf0,if_neg (by decide)];have tf':(es.size+1)*5<t1.mask*3:=by
     simp only[SetTable.tooFull,hfill]at tf0;simpa using tf0
    exact wpAny_pure (q true _ tk0 _ sb1 ⟨_,_,_,t1,g1,hc,rfl,P,al1,nd1,hm1,by rw[hsz];exact tf',hpp,hpq,hgi⟩ mem1 len1)
  by_cases hpl:t1.plain=true
  ·rw[if_pos hpl];refine wpAny_bind (Y.hbv (s:={s with toks:=tk0}) hk ?_);rw[if_pos rfl];exact cont
  ·rw[if_neg hpl];refine wpAny_bind (wpAny_pure ?_);rw[if_pos rfl];exact cont
end
section
variable{prog:Program}{w:World}{α:Type}[DecidableEq α]{Y:KY prog w α}{A:Around}{R:Result->Shared->Prop}{I S:Addr}{fp wr:List Addr}{n:Nat}{P:Nat->Value->Prop}{St:Nat->Heap->Prop}
theorem KY.kept{h h':Heap}{k:α}{b:Addr}(hk:Y.is h k b)(hw:∀ x∈wr,∃ o vs,h.get? x=some o/\o.data=.fields vs)(kp:∀ b o,b ∉ wr->h.get? b=some o->h'.get? b=some o):Y.is h' k b:=
 Y.kp (fun b o items n hb _ hdb=>kp b o (fun hm=>by
  obtain⟨o2,vs,h1,h2⟩:=hw b hm;rw[hb]at h1;cases h1;rw[hdb]at h2;cases h2) hb) hk
theorem SetI.kept{G:Addr->Prop}{h h':Heap}{keys:List α}(X:SetI G Y h S keys)(hSw:S ∉ wr)(hw:∀ x∈wr,∃ o vs,h.get? x=some o/\o.data=.fields vs)(kp:∀ b o,b ∉ wr->h.get? b=some o->h'.get? b=some o):SetI G Y h' S keys:=by
 obtain⟨o,es,ep,t,h1,h2,h3,h4,h5,r⟩:=X;exact⟨o,es,ep,t,kp _ _ hSw h1,h2,h3,h4,h5.keep fun k b hk=>KY.kept hk hw kp,r⟩
theorem ZhK{G:Addr->Prop}(W:Walks prog w A.in1 I fp wr n P St)(hSf:S ∉ fp)(hw:∀ i h,St i h->∀ x∈wr,∃ o vs,h.get? x=some o/\o.data=.fields vs)(h0:Heap)(hS0:h0.get? S=none)(kw:∀ b o,h0.get? b=some o->b ∉ wr)(ks:List α)(hks:ks.length=n)
  (hP:∀ i v k,P i v->ks[i]?=some k->∃ b,v=.ref b/\Y.is h0 k b/\G b)(hn:n<=70)(hu:A.in1.units+1<cLine):
  ∀(d i:Nat) (s:Shared) (keys:List α),n-i=d->i<=n->(∀ b o,h0.get? b=some o->s.heap.get? b=some o)->St i s.heap->SetI G Y s.heap S keys->(∀ x,x∈keys ↔ x∈ks.take i)->keys.length<=i ->
   (∀ h' tk keys',SetI G Y h' S keys'->(∀ x,x∈keys' ↔ x∈ks)->(∀ b o,h0.get? b=some o->h'.get? b=some o)->R (.ok (.ret .none)) {s with heap:=h',toks:=tk}) ->
   codeAny (model prog w) A (.builtin "set.update.loop" ⟨[.ref S,.ref I],[]⟩) R s:=by
 have hSw:S ∉ wr:=fun h=>hSf (W.sub _ h);intro d
 induction d with
 | zero=>
  intro i s keys hk hi hg hst hS hmem hlen hR;have hin:i=n:=by omega
  subst hin;refine codeAny_builtin F.entry_set_update_loop ?_;rw[Around.under_plainId F.plain_set_update_loop _];show wpAny _ A.in1 (pyNext (.ref I) >>= _) _ _ s;refine wpAny_bind (W.done s _ _ hst fun h' tk hk'=>?_);show wpAny _ A.in1 (ret Value.none) _ _ _;refine wpAny_pure (hR h' tk keys (hS.kept hSw (hw _ _ hst) hk') (fun x=>by rw[hmem x,<-hks,List.take_length]) fun b o e=>hk' b o (kw b o e) (hg b o e))
 | succ d ih=>
  intro i s keys hk hi hg hst hS hmem hlen hR;have hlt:i<n:=by omega
  refine codeAny_builtin F.entry_set_update_loop ?_;rw[Around.under_plainId F.plain_set_update_loop _];show wpAny _ A.in1 (pyNext (.ref I) >>= _) _ _ s;refine wpAny_bind (W.item i s _ _ hlt hst fun v h' tk hPv hst' hk'=>?_);obtain⟨b,rfl,hkb,hgb⟩:=hP i v ks[i] hPv (by simp[show i<ks.length by omega]);have hS':=hS.kept hSw (hw _ _ hst) hk';have hg':∀ b o,h0.get? b=some o->h'.get? b=some o:=fun b o e=>hk' b o (kw b o e) (hg b o e);have hkb':Y.is h' ks[i] b:=Y.kp (.of hg') hkb;show wpAny _ A.in1 (holding [Value.ref b] (setAdd S (.ref b)) >>= _) _ _ _;refine wpAny_bind (wpAny_holding (Ze6 (hG:=hgb) (s:={s with heap:=h',toks:=tk}) hS' hu hkb' (by omega) fun r h'' tk'' keys'' sb hS'' hm'' hl''=>?_));refine wpAny_pure ⟨plainId_quiet F.plain_set_update_loop _,ih (i+1) _ keys'' (by omega) hlt (fun b o e=>?_) (W.frame _ _ _ hst' fun b hb o e=>?_) hS'' (fun x=>?_) (by omega) fun h3 tk3 keys3 a1 a2 a3=>hR h3 tk3 keys3 a1 a2 a3⟩
  ·exact(sb.2 b fun z=>by rw[z,hS0]at e;cases e).trans (hg' b o e)
  ·exact(sb.2 b fun z=>hSf (z ▸ hb)).trans e
  ·have e:ks.take (i+1)=ks.take i++[ks[i]]:=by rw[List.take_add_one];simp[show i<ks.length by omega]
   rw[hm'' x,hmem x,e,Bk,A0]
end
section
variable{prog:Program}{w:World}{α:Type}[DecidableEq α]{Y:KY prog w α}{A:Around}{E:Value->Shared->Prop}{s:Shared}
theorem Zdn{G:Addr->Prop}{l:Addr}{T:String}{Q:Value->Shared->Prop}{ks:List α}(hT0:s.TypeIs (.ref l) T)(hsls:isSubtype (.type T) (.type "set")=pure false)(hslf:isSubtype (.type T) (.type "frozenset")=pure false)(hne:(Value.type T==Value.type "dict")=false)
  (hn:ks.length<=70)(hu:A.units+8<cLine)
  (hit:∀(A':Around) (s1:Shared) (Q':Value->Shared->Prop),A'.handled=A.handled->(∀ b o,s.heap.get? b=some o->s1.heap.get? b=some o) ->
   (∀(it:Addr) (fp wr:List Addr) (St:Nat->Heap->Prop) (P:Nat->Value->Prop) (h2:Heap),(∀ A'':Around,A''.handled=A.handled->Walks prog w A'' it fp wr ks.length P St)->St 0 h2->s.heap.objs.size ∉ fp->(∀ i h,St i h->∀ x∈wr,∃ o vs,h.get? x=some o/\o.data=.fields vs)->(∀ b o,s1.heap.get? b=some o->h2.get? b=some o/\b ∉ wr) ->
    (∀ i v k,P i v->ks[i]?=some k->∃ b,v=.ref b/\Y.is s.heap k b/\G b)->Q' (.ref it) {s1 with heap:=h2})->s.heap.objs.size<s1.heap.objs.size->wpAny (model prog w) A' (pyIter (.ref l)) Q' E s1)
  (h:∀(h':Heap) (tk:Nat) keys,SetI G Y h' s.heap.objs.size keys->(∀ x,x∈keys ↔ x∈ks)->(∀ b o,s.heap.get? b=some o->h'.get? b=some o)->Q (.ref s.heap.objs.size) {s with heap:=h',toks:=tk}) :
  wpAny (model prog w) A (call (.type "set") [.ref l]) Q E s:=by
 obtain⟨c,tl,hmro⟩:=F.called_set.mro;have hmade:=F.called_set.made;have hsub:=F.called_set.sub;refine wpAny_call (codeAny_of_tree ?_);show wpAny _ _ (callAny (.type "set") _) _ _ _;refine wpAny_pure ⟨Code.quiet_builtin _ (by decide +kernel),codeAny_builtin F.entry_type_call ?_⟩;rw[Around.under_plain (weight_type_call_type "set" [.ref l] []) rfl];have h1:=F.called_set.notType;have h2:=F.called_set.canCreate;have hct:=F.typeCall_set_1 (.ref l)
 repeat (any_goals (first | assumption | wp_step))
 refine codeAny_mono (Zci (.ref l) (E:=E) (Q₁:=fun obj s₁=>∃ led:Bool,Nonempty (PLift (led=(!w.params.followText "set-order")))/\obj=.ref s.heap.objs.size/\s₁={s with heap:=s.heap.push {cls:=.type "set",dict:=none,data:=.set #[] 0 (.fresh 0 0 led)}}) ⟨_,⟨⟨rfl⟩⟩,rfl,rfl⟩) fun r s₁ hr=>?_;cases r with
 | error e=>exact hr
 | ok fl=>
  cases fl with
  | ret obj=>
   obtain⟨led,hled,rfl,rfl⟩:=hr;have hS:(s.heap.push {cls:=.type "set",dict:=none,data:=.set #[] 0 (.fresh 0 0 led)}).get? s.heap.objs.size=some {cls:=.type "set",dict:=none,data:=.set #[] 0 (.fresh 0 0 led)}:=Heap.get?_push_size _ rfl;have hT:Shared.TypeIs {s with heap:=s.heap.push {cls:=.type "set",dict:=none,data:=.set #[] 0 (.fresh 0 0 led)}} (.ref s.heap.objs.size) "set":=⟨_,hS,rfl⟩;have hli:=F.called_set.init.lookup;have hbi:=F.called_set.init.bind (.ref s.heap.objs.size)
   repeat (any_goals (first | assumption | wp_step))
   refine codeAny_mono (codeAny_call_builtin (R:=wants (fun r s₂=>r=.none/\∃ h' tk keys,s₂={s with heap:=h',toks:=tk}/\SetI G Y h' s.heap.objs.size keys/\(∀ x,x∈keys ↔ x∈ks)/\(∀ b o,s.heap.get? b=some o->h'.get? b=some o)) E) F.called_set.init.plain F.entry_set_init (check_set_init_1 hT ?_)) fun r₂ s₂ hr₂=>?_
   ·have hT1:Shared.TypeIs {s with heap:=s.heap.push {cls:=.type "set",dict:=none,data:=.set #[] 0 (.fresh 0 0 led)}} (.ref l) T:=by
     obtain⟨o,ho,hc⟩:=hT0;exact⟨o,Heap.get?_push_of_some _ ho,hc⟩
    unfold Builtin.«set.__init__» noKeywords Builtin.Frozenset.updateFrom;generalize hPI:pyIter=PI
    wp_walk
    subst hPI;refine hit _ _ _ (by simp) (fun b o e=>Heap.get?_push_of_some _ e) (fun it fp wr St P h2 W st nf hw kp hP=>?_) (by rw[Heap.size_push];exact C5 _);refine wpAny_bind (wpAny_runValue ?_);have hS2:=(kp _ _ hS).1;refine ZhK (W _ (by simp)) nf hw s.heap (Heap.get?_none_of_le (A7 _)) (fun b o e=>(kp b o (Heap.get?_push_of_some _ e)).2) ks rfl hP hn (by simp;omega) (ks.length-0) 0 ({s with heap:=h2}:Shared) [] (by omega) (Be _) (fun b o e=>(kp b o (Heap.get?_push_of_some _ e)).1) st ?_ (fun x=>by simp) (A7 _) fun h' tk keys' a1 a2 a3=>?_
    ·refine⟨_,#[],0,.fresh 0 0 led,hS2,⟨rfl,rfl,rfl⟩,rfl,?_,by simp[Al],Ch,.inl rfl,(show 0*5<7*3 by decide),rfl,hled.elim fun x=>x.down,fun p hp=>by cases hp⟩;exact⟨rfl,rfl,by simp[Ris,SetTable.fresh],by simp[SetTable.fresh],Zmw,(show 0<=7 by decide),(show 7%2=1 by decide),fun i h1=>absurd h1 (Nat.not_lt_zero _)⟩
    ·show wpAny _ _ _ _ _ _;refine wpAny_pure ?_;show wpAny _ _ (ret Value.none) _ _ _;exact wpAny_pure ⟨rfl,h',tk,keys',rfl,a1,a2,a3⟩
   ·cases r₂ with
    | error e=>exact hr₂
    | ok fl₂=>
     cases fl₂ with
     | ret r=>
      obtain⟨rfl,h',tk,keys,rfl,hS',hm',hk'⟩:=hr₂
      repeat (any_goals (first | assumption | wp_step))
      exact h _ _ keys hS' hm' hk'
     | _=>exact hr₂.elim
  | _=>exact hr.elim
end
section
variable{X:Cx}{pins:List (Addr×Obj)}{σ:L2.St}{H:Hp}{s:Shared}{F:Fz}
structure RD(X:Cx){α:Type}[DecidableEq α](Y:KY X.prog X.w α) where
 kd:α->D
 ks:List D->Option (List α)
 get:∀{xs:List D} {l:List α} {i:Nat} {k:α},ks xs=some l->l[i]?=some k->xs[i]?=some (kd k)
 len:∀{xs:List D} {l:List α},ks xs=some l->l.length=xs.length
 tk:∀{pins:List (Addr×Obj)} {σ:L2.St} {H:Hp} {s:Shared} {F:Fz},Inv X pins σ H s->∀{k:α} {x:V} {v:Value},Rep X.K F H (kd k) x->RelV x v->∃ b,x=.ref b/\v=.ref b/\Y.is s.heap k b
variable{α:Type}[DecidableEq α]{Y:KY X.prog X.w α}
theorem Zfm(R:RD X Y){A:Around}(hh:A.handled=none)(hu:A.units+8<cLine)(I:Inv X pins σ H s){d:D}{xs:List D}{ks:List α}{x:V}{v:Value}{Q:Value->Shared->Prop}{E:Value->Shared->Prop}(hs:Yu d=some xs)(hk:R.ks xs=some ks)(hn:ks.length<=70)
  (r:Rep X.K F H d x)(rv:RelV x v)(q:∀(h':Heap) (tk:Nat) keys,SetI (fun b=>∃(j:Nat) (dd:D) (ff:Nat),xs[j]?=some dd/\Rep X.K F H dd (.ref b)) Y h' s.heap.objs.size keys->(∀ x,x∈keys ↔ x∈ks)->(∀ b o,s.heap.get? b=some o->h'.get? b=some o)->Q (.ref s.heap.objs.size) {s with heap:=h',toks:=tk}):
  wpAny (model X.prog X.w) A (call (.type "set") [v]) Q E s:=by
 obtain⟨a,vs,rfl,hq,hr⟩:=VV hs r;cases rv;have keyP:∀{its:List Value},Vals vs its->∀(i:Nat) v k,its[i]?=some v->ks[i]?=some k->∃ b,v=.ref b/\Y.is s.heap k b/\∃(j:Nat) (dd:D) (ff:Nat),xs[j]?=some dd/\Rep X.K F H dd (.ref b):=fun {its} rv i v k hv hki=>by
  obtain⟨x,ex,rx⟩:=hr.get (R.get hk hki);obtain⟨u,eu,ru⟩:=rv.get ex;rw[hv]at eu;cases eu;obtain⟨b,e0,e1,e2⟩:=R.tk I rx ru;subst e0;exact⟨b,e1,e2,i,_,0,R.get hk hki,rx⟩
 have hlen:∀{its:List Value},Vals vs its->ks.length=its.length:=fun rv=>by rw[R.len hk,hr.length,rv.length]
 rcases hq with hq | hq
 ·obtain⟨its,rv,p,hz⟩:=I.list hq;have hl:=p.isList;have hlt:a<s.heap.objs.size:=by obtain⟨_,e,_⟩:=hl;exact Heap.lt_size e
  refine Zdn hl.typeIs PySem.F.sub_list_set PySem.F.sub_list_frozenset (by decide) hn hu (fun A' s1 Q' hA kp q' hsz=>?_) q;have hl1:s1.heap.IsList a its.toArray:=hl.at fun o e=>kp a o e;refine wpAny_pyIter_list hl1 ?_;refine q' s1.heap.objs.size [s1.heap.objs.size,a] [s1.heap.objs.size] (fun i h=>h.IsListIter s1.heap.objs.size a i/\h.IsList a its.toArray) (fun i v=>its.toArray[i]?=some v) _ (fun A'' hA''=>?_) ⟨⟨_,Heap.get?_push_size _ rfl,rfl,rfl⟩,hl1.push _⟩ ?_ (fun i h st x hx=>?_) (fun b o e=>⟨Heap.get?_push_of_some _ e,fun hb=>?_⟩) (fun i v k hv hki=>keyP rv i v k (by simpa using hv) hki)
  ·have:=Walks.list (prog:=X.prog) (w:=X.w) (A:=A'') (hA''.trans hh) s1.heap.objs.size a (Am (Nat.lt_trans hlt hsz)) its.toArray;have z:its.toArray.size=ks.length:=by rw[hlen rv];simp
   rw[z]at this;exact this
  ·intro hb;rcases A4.mp hb with z | hb
   ·exact absurd z (Am hsz)
   ·rw[A0]at hb;exact absurd hb (Nat.ne_of_gt hlt)
  ·rw[A0]at hx;subst hx;obtain⟨⟨o,h1,h2,h3⟩,_⟩:=st;exact⟨o,_,h1,h3⟩
  ·rw[A0]at hb;subst hb;exact absurd (Heap.lt_size e) (aq _)
 ·obtain⟨its,rv,p,hz⟩:=I.tuple hq;have hl:s.heap.IsTuple a its.toArray:=p;have hlt:a<s.heap.objs.size:=by obtain⟨_,e,_⟩:=hl;exact Heap.lt_size e
  refine Zdn p.typeIs PySem.F.sub_tuple_set PySem.F.sub_tuple_frozenset (by decide) hn hu (fun A' s1 Q' hA kp q' hsz=>?_) q;have hl1:s1.heap.IsTuple a its.toArray:=hl.at fun o e=>kp a o e;refine wpAny_pyIter_tuple hl1 ?_;refine q' s1.heap.objs.size [s1.heap.objs.size,a] [s1.heap.objs.size] (fun i h=>h.IsTupleIter s1.heap.objs.size a i/\h.IsTuple a its.toArray) (fun i v=>its.toArray[i]?=some v) _ (fun A'' hA''=>?_) ⟨⟨_,Heap.get?_push_size _ rfl,rfl,rfl⟩,hl1.push _⟩ ?_ (fun i h st x hx=>?_) (fun b o e=>⟨Heap.get?_push_of_some _ e,fun hb=>?_⟩) (fun i v k hv hki=>keyP rv i v k (by simpa using hv) hki)
  ·have:=Walks.tuple (prog:=X.prog) (w:=X.w) (A:=A'') (hA''.trans hh) s1.heap.objs.size a (Am (Nat.lt_trans hlt hsz)) its.toArray;have z:its.toArray.size=ks.length:=by rw[hlen rv];simp
   rw[z]at this;exact this
  ·intro hb;rcases A4.mp hb with z | hb
   ·exact absurd z (Am hsz)
   ·rw[A0]at hb;exact absurd hb (Nat.ne_of_gt hlt)
  ·rw[A0]at hx;subst hx;obtain⟨⟨o,h1,h2,h3⟩,_⟩:=st;exact⟨o,_,h1,h3⟩
  ·rw[A0]at hb;subst hb;exact absurd (Heap.lt_size e) (aq _)
def ZgR(R:RD X Y):D->Option D:=fun d=>(Yu d).bind fun xs=>(R.ks xs).bind fun ks=>if ks.length<=70 then some (.int (Zh2 ks).length) else none
theorem ZgI(R:RD X Y){e:Expr}{f:DE}{p1 p2 p3 p4:Pos}(hc:X.calm=true)(hu:X.A.units+64<cLine)(hgl:Gl X "len")(hml:X.mg "len"=none)(hgs:Gl X "set")(hms:X.mg "set"=none)(he:ED X e f)
  (hst:starEach [e] X.env=[(false,eval e X.env)]:=by rfl)(hst2:starEach [Expr.Call (.Name "set" p2) [e] [] p3] X.env=[(false,eval (.Call (.Name "set" p2) [e] [] p3) X.env)]:=by rfl):
  ED X (.Call (.Name "len" p1) [.Call (.Name "set" p2) [e] [] p3] [] p4) (Jz (ZgR R) f):=by
 intro pins s σ H Q I h;obtain⟨ρ,F0,H0,F,d,ok,ed,q⟩:=h;obtain⟨x,ex,ed⟩:=bind_some ed;obtain⟨xs,es,ed⟩:=bind_some ed;obtain⟨ks,ek,ed⟩:=bind_some ed;obtain⟨hn,rfl⟩:=Ye ed;refine wpAny_Call_Name_kw (Jg I hgl hml B2 (Br ?_ (by rw[hst2];rfl) (by rfl)) (by decide) (by decide));rw[hst2];show wpAny _ _ (spliced ((false,eval (.Call (.Name "set" p2) [e] [] p3) X.env)::[])) _ _ s;refine Calls.spliced_cons (wpAny_Call_Name_kw (Jg I hgs hms PyProof.Rows.boot_set (Bl ?_ (by rw[hst];rfl) (by rfl)) (by decide) (by decide)));rw[hst];show wpAny _ _ (spliced ((false,eval e X.env)::[])) _ _ s;refine Calls.spliced_cons (thn (he pins s σ H (fun v H'=>∃ F',Grow F H F' H'/\Rep X.K F' H' x v) I ⟨ρ,F0,H0,F,x,ok,ex,fun v F' H' g r=>⟨F',g,r⟩⟩) fun u s1 ⟨v,H1,I1,r1,F1,g1,rx⟩=>Calls.spliced_nil ?_);refine Zfm R (A:=X.A) (I1.ok.hd hc) (by omega) I1 es ek hn rx r1 fun h' tk keys hS hm kp=>Calls.spliced_nil ?_;obtain⟨o,ens,ep,t,h1,h2,h3,h4,h5,h6,h7,h8⟩:=hS;have hlen:ens.size=(Zh2 ks).length:=by
  have e1:keys.length=ens.size:=h5.length;rw[<-e1];exact ZaG h6 (QX ks) fun y=>by rw[hm y,mem_nubG]
 have hroom:=h4.room;have hmk:t.mask<=127:=by rcases h7 with z | z | z<;>omega
 refine call_len_set (s:={s1 with heap:=h',toks:=tk}) h1 h2 h3 (by have z1:=h4.size;have z2:=h4.dm;simp[SetTable.fits,SetTable.fill,z1,z2,hroom]) (by omega) ?_;rw[hlen];exact⟨.int _,H1,I1.kept (t':=_) kp,⟨_,rfl⟩,q _ F1 H1 g1 (Z3 _)⟩
def rI:RD X (yI X.prog X.w) where
 kd:=L3.kD
 ks:=L3.keysOf
 get:=L3.keysOf_get
 len:=L3.keysOf_len
 tk:=by
  intro pins σ H s F I k x v r rv;obtain⟨b,e,t⟩:=L3.tk_of I r rv;unfold L3.kD Rep at r;obtain⟨a,vs,rfl,_⟩:=r;cases rv;cases e;exact⟨_,rfl,rfl,t⟩
def rN:RD X (yN X.prog X.w) where
 kd:=L4.kD
 ks:=L4.keysOf
 get:=L4.keysOf_get
 len:=L4.keysOf_len
 tk:=by
  intro pins σ H s F I k x v r rv;obtain⟨b,e,t⟩:=L4.tk_of I r rv;unfold L4.kD Rep at r;obtain⟨a,vs,rfl,_⟩:=r;cases rv;cases e;exact⟨_,rfl,rfl,t⟩
theorem Zmb:ZgR (X:=X) rI=L3.dLenSet:=by
 funext d
 unfold ZgR L3.dLenSet
 congr 1
 funext xs
 congr 1
 funext ks
 rw[ZaG (QX ks) (L3.nodup_nubI ks) fun x=>by rw[mem_nubG,L3.mem_nubI]]
theorem Zl9:ZgR (X:=X) rN=L4.dLenSet:=by
 funext d
 unfold ZgR L4.dLenSet
 congr 1
 funext xs
 congr 1
 funext ks
 rw[ZaG (QX ks) (L4.nodup_nubI ks) fun x=>by rw[mem_nubG,L4.mem_nubI]]
theorem ed_lenI{e:Expr}{f:DE}{p1 p2 p3 p4:Pos}(hc:X.calm=true)(hu:X.A.units+64<cLine)(hgl:Gl X "len")(hml:X.mg "len"=none)(hgs:Gl X "set")(hms:X.mg "set"=none)(he:ED X e f)
  (hst:starEach [e] X.env=[(false,eval e X.env)]:=by rfl)(hst2:starEach [Expr.Call (.Name "set" p2) [e] [] p3] X.env=[(false,eval (.Call (.Name "set" p2) [e] [] p3) X.env)]:=by rfl):
  ED X (.Call (.Name "len" p1) [.Call (.Name "set" p2) [e] [] p3] [] p4) (Jz L3.dLenSet f):=by
 rw[<-Zmb (X:=X)];exact ZgI rI hc hu hgl hml hgs hms he hst hst2
theorem ed_lenN{e:Expr}{f:DE}{p1 p2 p3 p4:Pos}(hc:X.calm=true)(hu:X.A.units+64<cLine)(hgl:Gl X "len")(hml:X.mg "len"=none)(hgs:Gl X "set")(hms:X.mg "set"=none)(he:ED X e f)
  (hst:starEach [e] X.env=[(false,eval e X.env)]:=by rfl)(hst2:starEach [Expr.Call (.Name "set" p2) [e] [] p3] X.env=[(false,eval (.Call (.Name "set" p2) [e] [] p3) X.env)]:=by rfl):
  ED X (.Call (.Name "len" p1) [.Call (.Name "set" p2) [e] [] p3] [] p4) (Jz L4.dLenSet f):=by
 rw[<-Zl9 (X:=X)];exact ZgI rN hc hu hgl hml hgs hms he hst hst2
end
end L5
namespace L5
open PySem PySem.Spec PyProof.Rows L2 L3 L4 SetTab PySem.SetTable PySem.W
section
variable{X:Cx}{pins:List (Addr×Obj)}{σ:L2.St}{H:Hp}{s:Shared}{F:Fz}
theorem ed_sortset{e:Expr}{f:DE}{p1 p2 p3 p4:Pos}(hc:X.calm=true)(hu:X.A.units+64<cLine)(hgl:Gl X "sorted")(hml:X.mg "sorted"=none)(hgs:Gl X "set")(hms:X.mg "set"=none)(he:ED X e f)
  (hst:starEach [e] X.env=[(false,eval e X.env)]:=by rfl)(hst2:starEach [Expr.Call (.Name "set" p2) [e] [] p3] X.env=[(false,eval (.Call (.Name "set" p2) [e] [] p3) X.env)]:=by rfl):
  ED X (.Call (.Name "sorted" p1) [.Call (.Name "set" p2) [e] [] p3] [] p4) (Jz L4.dSortSet f):=by
 intro pins s σ H Q I h;obtain⟨ρ,F0,H0,F,d,ok,ed,q⟩:=h;obtain⟨x,ex,ed⟩:=bind_some ed;obtain⟨xs,es,ed⟩:=bind_some ed;obtain⟨ks,ek,ed⟩:=bind_some ed;obtain⟨⟨hn,hsh⟩,rfl⟩:=Ye ed;obtain⟨m,hsh⟩:=ZiR hsh;refine wpAny_Call_Name_kw (Jg I hgl hml PyProof.Rows.boot_sorted (Br ?_ (by rw[hst2];rfl) (by rfl)) (by decide) (by decide));rw[hst2];show wpAny _ _ (spliced ((false,eval (.Call (.Name "set" p2) [e] [] p3) X.env)::[])) _ _ s;refine Calls.spliced_cons (wpAny_Call_Name_kw (Jg I hgs hms PyProof.Rows.boot_set (Bl ?_ (by rw[hst];rfl) (by rfl)) (by decide) (by decide)));rw[hst];show wpAny _ _ (spliced ((false,eval e X.env)::[])) _ _ s;refine Calls.spliced_cons (thn (he pins s σ H (fun v H'=>∃ F',Grow F H F' H'/\Rep X.K F' H' x v) I ⟨ρ,F0,H0,F,x,ok,ex,fun v F' H' g r=>⟨F',g,r⟩⟩) fun u s1 ⟨v,H1,I1,r1,F1,g1,rx⟩=>Calls.spliced_nil ?_);refine Zfm rN (A:=X.A) (I1.ok.hd hc) (by omega) I1 es ek (by omega) rx r1 fun h' tk keys hS hm kp=>Calls.spliced_nil ?_;obtain⟨o,ens,ep,t,h1,h2,h3,h4,h5,h6,h7,h8,h9,h10,h11⟩:=hS;have hroom:=h4.room;have hfit:t.fits ens.size=true:=by have z1:=h4.size;have z2:=h4.dm;simp[SetTable.fits,SetTable.fill,z1,z2,hroom]
 have W:Zm4 X.w s1.heap.objs.size o ens ep t:=⟨h3,hfit,h4,h9,h10⟩;have hns:ens.size<=60:=by
  have e1:keys.length=ens.size:=h5.length;have e2:(L4.nubI ks).length=keys.length:=L4.nodup_len (L4.nodup_nubI ks) h6 fun y=>by rw[L4.mem_nubI,hm y]
  have e3:=L4.nubI_len ks;omega
 obtain⟨kk,kl,km,kt⟩:∃ kk:List K2,kk.length=ens.size/\kk.Perm keys/\∀(i:Nat) (v:Value) (k:K2),((Zbk X.w s1.heap.objs.size ep ens).toList.map (·.2))[i]?=some v->kk[i]?=some k->∃ b,v=Value.ref b/\L4.TK X.prog X.w h' k b/\Rep X.K F1 H1 (kD k) (.ref b):=by
  obtain⟨kk,al2,pm2⟩:=Al.perm (Zat X.w s1.heap.objs.size ep ens) h5;refine⟨kk,by rw[al2.length];simp[JK],pm2,fun i v k hv hk=>?_⟩;obtain⟨b,e1,e2⟩:=al2.get hk;rw[au,e1]at hv;cases hv;obtain⟨b',e3,j,dd,_,e4,e5⟩:=h11 _ ((Zat X.w s1.heap.objs.size ep ens).mem_iff.mp (av e1));cases e3;have hj:j<xs.length:=(Ap.mp e4).1;have hj2:j<ks.length:=by rw[L4.keysOf_len ek];exact hj
  have e6:=L4.keysOf_get ek (a_ hj2);rw[e4]at e6;cases e6;obtain⟨b2,e7,t2⟩:=L4.tk_of I1 e5 (show L2.RelV (.ref b) (.ref b) from rfl);cases e7;have:=L4.TK.inj (t2.kp (.of kp)) e2;rw[this]at e5;exact⟨b,rfl,e2,e5⟩
 generalize hvs:(Zbk X.w s1.heap.objs.size ep ens).toList.map (·.2)=vals at kt;have hvl:vals.length=ens.size:=by rw[<-hvs];simp[JK]
 have kin:∀ k,k∈kk ↔ k∈ks:=fun k=>by rw[km.mem_iff,hm k]
 refine Calls.call_function_entry kind_sorted plain_sorted entry_sorted (args_sorted1 _) ?_;unfold Builtin.«sorted»;refine wpAny_bind (m:=checkCount "sorted" 1 1 _) (wpAny_pure ?_);refine wpAny_bind (ZcR (s:={s1 with heap:=h',toks:=tk}) (A:=X.A.in1) (I1.ok.hd hc) W h1 h2.1 (by omega) fun h2' tk2 kp2=>?_);rw[hvs];have es':L4.srtK kk=L4.srtK ks:=L4.ris_eq (L4.srtK_ris fun k hk=>hsh k ((kin k).mp hk)) (L4.srtK_ris hsh) fun x=>by rw[L4.srtK_mem,L4.srtK_mem,kin]
 refine Zdi (s:=s1) (A:=X.A.in1) (m:=m) (F:=F1) (h2:=h2') (tk:=tk2) (show X.A.units+1+8<cLine by omega) I1 (fun b o e=>kp2 _ _ (kp _ _ e)) (Nat.le_of_lt (Heap.lt_size (kp2 _ _ h1))) (by omega) (by omega) (km.nodup_iff.mpr h6) (fun k hk=>hsh k ((kin k).mp hk)) (fun i v k hv hk=>?_) fun w F' H' g r=>q w F' H' (g1.trans g) (by rw[<-es'];exact r);obtain⟨b,a1,a2,a3⟩:=kt i v k hv hk;exact⟨b,a1,a2.kp (.of kp2),a3⟩
end
end L5
namespace HT
open PySem PyProof.Rows
section
open PySem.SeqAt
open PySem.AutoSeq1 (wpAny_loadPart')
open PySem.MeetsSeq PySem.MeetsSeq2 PySem.MeetsSeq3
end
section
variable{prog:Program}{w:World}{A:Around}{E:Value->Shared->Prop}{s:Shared}
end
end HT
namespace L3
open PySem PySem.Spec PyProof.Rows L2
section
variable{X:Cx}{pins:List (Addr×Obj)}{σ:L2.St}{H:Hp}{s:Shared}{F:Fz}
end
end L3
namespace Pl
open PySem PySem.Spec PyProof.Rows L2 L3
def QP:DS:=(Zp (QC (Vv (Ji (Zo (Jz (ZeH .tuple) (Zd 0)))) (Zo (Zg Qi (ZI Q9 (Zb (Zd 0) Zm)) (Zi (.int 2))))) (Yc (Zi (.bl false))) ZV)
 (Yc (Zhx (dFn 3 Yw (Zb (Zg dIx (Zd 0) (Zi (.int 0))) (Zb (Jz Zit (Zi (.int 100))) (Zb (Zi (.int 100)) Zm)))) (dFn 3 Yw (Zb (Zg dIx (Zd 0) (Zi (.int 1))) (Zb (Jz Zit (Zi (.int 100))) (Zb (Zi (.int 100)) Zm)))))))
def ZY:List D->Option D:=ZA 1 QP
def YA:DS:=(Zp (QC (Vv (Ji (Zo (Jz (ZeH .tuple) (Zd 0)))) (Ji (Zo (J0 dLe dLe (Zi (.int 3)) (ZI Q9 (Zb (Zd 0) Zm)) (Zi (.int 12)))))) (Yc (Zi (.bl false))) ZV)
 (Zp (QC (Zo (Zg Qi (Ys [none] (YO (Zd 0)) (ZC 0) (Ji (Zo (dFn 1 ZY (Zb (Zd 0) Zm)))) (Zd 0)) (Za4 Zm))) (Yc (Zi (.bl false))) ZV)
 (Yc (Zhx (dFn 1 ZZ (Zb (Zd 0) Zm)) (Zhx (Zg dGt (dFn 1 ZN (Zb (Zd 0) Zm)) (Zi (.int 0))) (Zg Ze2 (Zg dIx (Zd 0) (Zi (.int 0))) (ZI Wx (Zb (Zd 0) Zm))))))))
def ZE:List D->Option D:=ZA 1 YA
def QO:DS:=(Zp (Z9 1 (Zg ZcP (Zd 0) (ZI Wx (Zb (Zd 0) Zm))))
 (Yc (ZI YC (Zb (Zg Yn (dSl (Zd 0) (UA (Zd 1)) UB) (dSl (Zd 0) UB (UA (Zd 1)))) Zm))))
def Zq:List D->Option D:=ZA 2 QO
def WZ:DS:=(Yc (QD (Zb (Zg dIx (Zd 0) (Zg Qy (Zd 1) (Zi (.int 2)))) (Zb (Zg dIx (Zd 0) (Zg Qy (Zd 1) (Zi (.int 1)))) (Zb (Zg dIx (Zd 0) (Zd 1)) Zm)))))
def Y3:List D->Option D:=ZA 2 WZ
def Ui:DS:=(Zp (QC (Ji (Zo (dFn 3 Yb (Zb (Zg dIx (Zd 0) (Zi (.int 0))) (Zb (Zg dIx (Zd 0) (Zi (.int 1))) (Zb (Zg dIx (Zd 0) (Zi (.int 2))) Zm)))))) (Yc (Zi (.bl false))) ZV)
 (Zp (W8 (YO (Zd 1)) (ZC 2) (QC (Zec (Zo (Zg Yy (Zd 2) (Zd 0))) (Zo (Zg Qi (dFn 2 Qv (Zb (Zd 0) (Zb (Zd 2) Zm))) (Zi (.str (Str.ofString "out")))))) (Yc (Zi (.bl false))) ZV))
 (Yc (Zi (.bl true)))))
def Yq:List D->Option D:=ZA 3 Ui
def Qu:DS:=(Zp (Z9 1 (Zi (.int 0)))
 (Zp (ZT (Ji (Zo (dFn 2 Yq (Zb (dFn 2 Y3 (Zb (Zd 0) (Zb (Zd 1) Zm))) (Zb (Zd 0) Zm))))) (Ziu 1 (Zi (.int 1))) 3000)
 (Yc (dFn 2 Y3 (Zb (Zd 0) (Zb (Zd 1) Zm))))))
def Zu:List D->Option D:=ZA 2 Qu
def Zmt:DS:=(Zp (Up 1 Zm)
 (Zp (ZaR 2 (Zd 0))
 (Zp (ZT (Zff 2 (Zo (Zg dGt (ZI Q9 (Zb (Zd 2) Zm)) (Zi (.int 3))))) (Zp (Z9 3 (ZbK 2 (dFn 1 Zu (Zb (Zd 2) Zm))))
 (Zp (ZeI 1 (dFn 1 Zq (Zb (Zd 3) Zm)))
 (ZmE 2 (Zg dIx (Zd 3) (Zi (.int 1)))))) 3000)
 (Zp (ZeI 1 (ZbK 2 (dFn 1 Zq (Zb (Zd 2) Zm))))
 (Zk1 1 (Yc (ZI YC (Zb (Jz L4.dSortL (Zd 1)) Zm))))))))
def ZcN:List D->Option D:=ZA 4 Zmt
def QU(s:Pt×Pt):Int:=(s.1.1-s.2.1)*(s.1.2+s.2.2)
theorem ZeJ(s:Pt×Pt):ZF s=QU s+((fun p:Pt=>p.1*p.2) s.2-(fun p:Pt=>p.1*p.2) s.1):=by
 unfold ZF QU;simp only[Int.sub_mul,Int.mul_add];rw[Bo s.2.1 s.1.2];omega
theorem Zde:∀(xs:List Pt) (p n:Pt),(p::xs++[n]:List Pt).Pairwise (fun p q=>p.1<q.1)->p.2<=0->n.2=0->(∀ q∈xs,q.2<0)->(xs=[]->p.2<0)->0<Ql QU (p::xs++[n])
 | [],p,n,hp,h1,h2,h3,h4=>by
  have l:=C3 hp (a':=n) (by simp);have:=h4 rfl;have m:=B6 (show p.1-n.1<0 by omega) (show p.2+n.2<0 by omega);simp[Ql,QU];exact m
 | q::r,p,n,hp,h1,h2,h3,h4=>by
  have l:=C3 hp (a':=q) (by simp);have hq:=h3 q A6;have ih:=Zde r q n (List.Pairwise.of_cons hp) (by omega) h2 (fun z hz=>h3 z (A3 _ hz)) fun _=>hq;have m:=B6 (show p.1-q.1<0 by omega) (show p.2+q.2<0 by omega);show 0<QU (p,q)+Ql QU (q::r++[n]);have m':0<QU (p,q):=m;omega
theorem Zdd:∀(xs:List Pt) (p n:Pt),(p::xs++[n]:List Pt).Pairwise (fun p q=>q.1<p.1)->0<=p.2->n.2=0->(∀ q∈xs,0<q.2)->(xs=[]->0<p.2)->0<Ql QU (p::xs++[n])
 | [],p,n,hp,h1,h2,h3,h4=>by
  have l:=C3 hp (a':=n) (by simp);have:=h4 rfl;have m:=Aw (show 0<p.1-n.1 by omega) (show 0<p.2+n.2 by omega);simp[Ql,QU];exact m
 | q::r,p,n,hp,h1,h2,h3,h4=>by
  have l:=C3 hp (a':=q) (by simp);have hq:=h3 q A6;have ih:=Zdd r q n (List.Pairwise.of_cons hp) (by omega) h2 (fun z hz=>h3 z (A3 _ hz)) fun _=>hq;have m:=Aw (show 0<p.1-q.1 by omega) (show 0<p.2+q.2 by omega);show 0<QU (p,q)+Ql QU (q::r++[n]);have m':0<QU (p,q):=m;omega
theorem ZbY(ps:List Pt):Z1 ZF ps=Z1 QU ps:=by
 have:ZF=fun s=>QU s+((fun p:Pt=>p.1*p.2) s.2-(fun p:Pt=>p.1*p.2) s.1):=funext ZeJ;rw[this];exact Zad QU (fun p:Pt=>p.1*p.2) ps
theorem ZhN{far:Int}{L U:List Pt}(S:SawI far L U):0<Z1 ZF (ZL far L U):=by
 rw[ZbY];have e:Z1 QU (ZL far L U)=Ql QU ((0,0)::L++[(far,0)])+Ql QU ((far,0)::U++[(0,0)]):=by
  unfold ZL Z1;show Ql QU ((0,0)::(L++(far,0)::U)++[(0,0)])=_;have:=Uz QU ((0,0)::L) (far,0) (U++[(0,0)]);rw[B3,Bz];exact this
 have a:=Zde L (0,0) (far,0) S.lx (by simp) rfl S.ly fun z=>absurd z S.ln;have b:=Zdd U (far,0) (0,0) S.ux (by simp) rfl S.uy fun z=>absurd z S.un;omega
theorem Zft{far:Int}{L U:List Pt}(S:SawI far L U):(ZL far L U).Nodup:=by
 have a:((0,0)::L++[(far,0)]:List Pt).Nodup:=S.lx.imp fun {p q} h e=>by rw[e]at h;omega
 have b:U.Nodup:=by
  have:=S.ux;rw[B3,At]at this;have:=(bc.mp this.2).1;exact this.imp fun {p q} h e=>by rw[e]at h;omega
 have e:ZL far L U=((0,0)::L++[(far,0)])++U:=by simp[ZL]
 rw[e];refine List.nodup_append.mpr ⟨a,b,fun p hp q hq z=>?_⟩;subst z;have u:=S.uy p hq;rcases Bk.mp hp with hp | hp
 ·rcases A4.mp hp with rfl | hp
  ·simp at u
  ·have:=S.ly p hp;omega
 ·rw[A0]at hp;subst hp;simp at u
theorem SrcZ.len3{wide:Int}{qs:List Pt}(h:SrcZ wide qs):3<=qs.length:=by
 rcases h with⟨_,h,_⟩ | ⟨far,L,U,rfl,S,_⟩
 ·exact h
 ·rw[Qh];have:=ag.mpr S.ln;omega
theorem SrcZ.area{wide:Int}{qs:List Pt}(h:SrcZ wide qs):Z1 ZF qs≠0:=by
 have hne:=h.ne;rcases h with⟨h,h3,_⟩ | ⟨far,L,U,rfl,S,_⟩
 ·rw[<-Yt hne];exact Zgq h3 h
 ·have:=ZhN S;omega
theorem Ziy(a b c e:Pt)(f:Pt->Int)(hf:f=Prod.fst\/f=Prod.snd):Pg.turn c e a*f b-Pg.turn c e b*f a=Pg.turn a b e*f c-Pg.turn a b c*f e:=by
 rcases hf with rfl | rfl<;>unfold Pg.turn<;>grind
theorem ZgZ(a b c e:Pt):Pg.turn c e a-Pg.turn c e b=Pg.turn a b e-Pg.turn a b c:=by
 unfold Pg.turn;grind
theorem ZdD{a b c e:Pt}(f:Pt->Int)(hf:f=Prod.fst\/f=Prod.snd)(m:Int)(ha:f a<=m)(hb:f b<=m)(hab:f a<m\/f b<m)(hc:m<=f c)(he:m<=f e):
  ¬ (Pg.turn a b c*Pg.turn a b e<0/\Pg.turn c e a*Pg.turn c e b<0):=by
 rintro⟨h1,h2⟩;have i1:=Ziy a b c e f hf;have i2:=ZgZ a b c e;have sg:∀{u v:Int},u*v<0->(0<u/\v<0)\/(u<0/\0<v):=fun {u v} h=>by
  rcases Bq u 0 with q | q | q
  ·right;refine⟨q,?_⟩;apply A1;intro z;have:=bu (show u<=0 by omega) (show v<=0 by omega);omega
  ·rw[q]at h;simp at h
  ·left;refine⟨q,?_⟩;apply A1;intro z;have:=am (show 0<=u by omega) (show 0<=v by omega);omega
 generalize Pg.turn a b c=γ at *;generalize Pg.turn a b e=δ at *;generalize Pg.turn c e a=α at *;generalize Pg.turn c e b=β at *;have k:α*(f b-m)-β*(f a-m)=δ*(f c-m)-γ*(f e-m):=by
  simp only[Int.mul_sub];have:α*m-β*m=δ*m-γ*m:=by rw[<-Int.sub_mul,<-Int.sub_mul,i2]
  omega
 have np:∀{u v:Int},0<u->v<=0->u*v<=0:=fun h1 h2=>Aa (Ai h1) h2;have nn:∀{u v:Int},u<0->v<=0->0<=u*v:=fun h1 h2=>bu (Ai h1) h2;have pp:∀{u v:Int},0<u->0<=v->0<=u*v:=fun h1 h2=>am (Ai h1) h2;have pn:∀{u v:Int},u<0->0<=v->u*v<=0:=fun h1 h2=>Ar (Ai h1) h2;rcases sg h2 with⟨a1,b1⟩ | ⟨a1,b1⟩<;>rcases sg h1 with⟨g1,d1⟩ | ⟨g1,d1⟩
 ·omega
 ·have z1:=np a1 (show f b-m<=0 by omega);have z2:=nn b1 (show f a-m<=0 by omega);have z3:=pp d1 (show 0<=f c-m by omega);have z4:=pn g1 (show 0<=f e-m by omega);rcases hab with q | q
  ·have:=B6 b1 (show f a-m<0 by omega);omega
  ·have:=Ab a1 (show f b-m<0 by omega);omega
 ·have z1:=nn a1 (show f b-m<=0 by omega);have z2:=np b1 (show f a-m<=0 by omega);have z3:=pn d1 (show 0<=f c-m by omega);have z4:=pp g1 (show 0<=f e-m by omega);rcases hab with q | q
  ·have:=Ab b1 (show f a-m<0 by omega);omega
  ·have:=B6 a1 (show f b-m<0 by omega);omega
 ·omega
theorem ZfT{a b c:Pt}(h:Pg.onS a b c):(min a.1 b.1<=c.1/\c.1<=max a.1 b.1)/\(min a.2 b.2<=c.2/\c.2<=max a.2 b.2):=h.2
theorem Zhj{a b c e:Pt}(h:max a.1 b.1<min c.1 e.1):¬ Pg.meet a b c e:=by
 rintro(q | q | q | q | q)
 ·have:=ZfT q;omega
 ·have:=ZfT q;omega
 ·have:=ZfT q;omega
 ·have:=ZfT q;omega
 ·exact ZdD Prod.fst (.inl rfl) (min c.1 e.1) (by show a.1<=_;omega) (by show b.1<=_;omega) (.inl (by show a.1<_;omega)) (by show _<=c.1;omega) (by show _<=e.1;omega) q
theorem ZkK{a b c e:Pt}(ha:a.2<=0)(hb:b.2<=0)(hab:a.2<0\/b.2<0)(hc:0<=c.2)(he:0<=e.2)(hce:0<c.2\/0<e.2)
  (h1:a≠c)(h2:a≠e)(h3:b≠c)(h4:b≠e):¬ Pg.meet a b c e:=by
 have key:∀{a b c:Pt},(a.2<=0/\b.2<=0/\(a.2<0\/b.2<0)/\0<=c.2)\/(0<=a.2/\0<=b.2/\(0<a.2\/0<b.2)/\c.2<=0)->a≠c->b≠c->¬ Pg.onS a b c:=by
  intro a b c h n1 n2 o;have r:=ZfT o;have t:=o.1;unfold Pg.turn at t;have c0:c.2=0:=by omega
  by_cases q:a.2=0
  ·rw[c0,q]at t;have bz:b.2≠0:=by omega
   have e1:(b.1-a.1)*(0-0)-(b.2-0)*(c.1-a.1)=-(b.2*(c.1-a.1)):=by grind
   rw[e1]at t;have:c.1-a.1=0:=by
    rcases Bs.mp (show b.2*(c.1-a.1)=0 by omega) with t | t
    ·omega
    ·omega
   exact n1 (Bw (by omega) (by omega))
  ·have:b.2=0:=by omega
   rw[c0,this]at t;have e1:(b.1-a.1)*(0-a.2)-(0-a.2)*(c.1-a.1)=a.2*(c.1-b.1):=by grind
   rw[e1]at t;rcases Bs.mp t with w | w
   ·omega
   ·exact n2 (Bw (by omega) (by omega))
 rintro(q | q | q | q | q)
 ·exact key (.inl ⟨ha,hb,hab,hc⟩) h1 h3 q
 ·exact key (.inl ⟨ha,hb,hab,he⟩) h2 h4 q
 ·exact key (.inr ⟨hc,he,hce,ha⟩) (Ao h1) (Ao h2) q
 ·exact key (.inr ⟨hc,he,hce,hb⟩) (Ao h3) (Ao h4) q
 ·exact ZdD Prod.snd (.inr rfl) 0 ha hb hab hc he q
theorem VW{R:Pt->Pt->Prop}{l:List Pt}(h:l.Pairwise R){i j:Nat}{a b:Pt}(ha:l[i]?=some a)(hb:l[j]?=some b)(hij:i<j):R a b:=by
 obtain⟨h1,rfl⟩:=Ap.mp ha;obtain⟨h2,rfl⟩:=Ap.mp hb;exact ba.mp h i j h1 h2 hij
theorem ZiU{far:Int}{L U:List Pt}{k:Nat}(hk:k<=(ZL far L U).length):(ZL far L U++[(0,0)])[k]?=some (cyc (ZL far L U) (k:Int)):=by
 by_cases h:k<(ZL far L U).length
 ·rw[af h,a_ h,ZO h]
 ·have e:k=(ZL far L U).length:=by omega
  rw[e,Bg (A7 _)];have:=Y6 (ZL far L U) 0;rw[Bh]at this;rw[this];have z:cyc (ZL far L U) 0=(0,0):=ZO (ps:=ZL far L U) (k:=0) (by rw[Qh];omega);rw[z];simp
theorem VP{far:Int}{L U:List Pt}{k:Nat}(hk:k<=L.length+1):((0,0)::L++[(far,0)]:List Pt)[k]?=some (cyc (ZL far L U) (k:Int)):=by
 rw[<-ZiU (by rw[Qh];omega)];have e:ZL far L U++[(0,0)]=((0,0)::L++[(far,0)])++(U++[(0,0)]):=by simp[ZL]
 rw[e];exact(af (l₁:=((0,0)::L++[(far,0)]:List Pt)) (l₂:=U++[(0,0)]) (by simp;omega)).symm
theorem VO{far:Int}{L U:List Pt}{k:Nat}(hk:k<=U.length+1):((far,0)::U++[(0,0)]:List Pt)[k]?=some (cyc (ZL far L U) ((L.length+1+k:Nat):Int)):=by
 rw[<-ZiU (by rw[Qh];omega)];have e:ZL far L U++[(0,0)]=((0,0)::L)++((far,0)::U++[(0,0)]):=by simp[ZL]
 rw[e,Bg (l₁:=((0,0)::L:List Pt)) (l₂:=((far,0)::U++[(0,0)]:List Pt)) (i:=L.length+1+k) (by simp)]
 congr 1
 simp
theorem Zfu{far:Int}{L U:List Pt}(S:SawI far L U){k:Nat}(h1:1<=k)(h2:k<=L.length):(cyc (ZL far L U) (k:Int)).2<0:=by
 have e:=VP (far:=far) (L:=L) (U:=U) (k:=k) (by omega);obtain⟨m,rfl⟩:∃ m,k=m+1:=⟨k-1,by omega⟩;rw[B3,Bf,af (by omega)]at e;exact S.ly _ (av e)
theorem Zfr{far:Int}{L U:List Pt}(S:SawI far L U){k:Nat}(h1:1<=k)(h2:k<=U.length):0<(cyc (ZL far L U) ((L.length+1+k:Nat):Int)).2:=by
 have e:=VO (far:=far) (L:=L) (U:=U) (k:=k) (by omega);obtain⟨m,rfl⟩:∃ m,k=m+1:=⟨k-1,by omega⟩;rw[B3,Bf,af (by omega)]at e;exact S.uy _ (av e)
theorem Zlo{far:Int}{L U:List Pt}:cyc (ZL far L U) ((0:Nat):Int)=(0,0):=ZO (ps:=ZL far L U) (k:=0) (by rw[Qh];omega)
theorem Zcm{far:Int}{L U:List Pt}:cyc (ZL far L U) ((L.length+1:Nat):Int)=(far,0):=by
 have e:=VO (far:=far) (L:=L) (U:=U) (k:=0) (by omega);have:((far,0)::U++[(0,0)]:List Pt)[0]?=some (far,0):=rfl;rw[this]at e;exact(Option.some.inj e).symm
theorem ZjF{far:Int}{L U:List Pt}:cyc (ZL far L U) ((L.length+1+(U.length+1):Nat):Int)=(0,0):=by
 have e:=VO (far:=far) (L:=L) (U:=U) (k:=U.length+1) (by omega);have:((far,0)::U++[(0,0)]:List Pt)[U.length+1]?=some (0,0):=by simp
 rw[this]at e;exact(Option.some.inj e).symm
theorem Zfv{far:Int}{L U:List Pt}(S:SawI far L U){i j:Nat}(hij:i+2<=j)(hj:j<(ZL far L U).length)(hw:((j:Int)+1)%((ZL far L U).length:Int)≠i):
  ¬ Pg.meet (cyc (ZL far L U) i) (cyc (ZL far L U) ((i:Int)+1)) (cyc (ZL far L U) j) (cyc (ZL far L U) ((j:Int)+1)):=by
 have hn:(ZL far L U).length=L.length+U.length+2:=Qh _ _ _;have l1:=ag.mpr S.ln;have u1:=ag.mpr S.un;have ei:(i:Int)+1=((i+1:Nat):Int):=by omega
 have ej:(j:Int)+1=((j+1:Nat):Int):=by omega
 rw[ei,ej];by_cases c1:j<=L.length
 ·have a:=VP (far:=far) (L:=L) (U:=U) (k:=i) (by omega);have b:=VP (far:=far) (L:=L) (U:=U) (k:=i+1) (by omega);have c:=VP (far:=far) (L:=L) (U:=U) (k:=j) (by omega);have d:=VP (far:=far) (L:=L) (U:=U) (k:=j+1) (by omega);have p1:=VW S.lx a b (by omega);have p2:=VW S.lx b c (by omega);have p3:=VW S.lx c d (by omega);exact Zhj (by omega)
 ·by_cases c2:L.length+1<=i
  ·obtain⟨i',rfl⟩:∃ i',i=L.length+1+i':=⟨i-(L.length+1),by omega⟩;obtain⟨j',rfl⟩:∃ j',j=L.length+1+j':=⟨j-(L.length+1),by omega⟩;have a:=VO (far:=far) (L:=L) (U:=U) (k:=i') (by omega);have b:=VO (far:=far) (L:=L) (U:=U) (k:=i'+1) (by omega);have c:=VO (far:=far) (L:=L) (U:=U) (k:=j') (by omega);have d:=VO (far:=far) (L:=L) (U:=U) (k:=j'+1) (by omega);have p1:=VW S.ux a b (by omega);have p2:=VW S.ux b c (by omega);have p3:=VW S.ux c d (by omega);have e1:L.length+1+i'+1=L.length+1+(i'+1):=by omega
   have e2:L.length+1+j'+1=L.length+1+(j'+1):=by omega
   rw[e1,e2];exact fun z=>Zhj (by omega) (Ju z)
  ·obtain⟨j',rfl⟩:∃ j',j=L.length+1+j':=⟨j-(L.length+1),by omega⟩;have e2:L.length+1+j'+1=L.length+1+(j'+1):=by omega
   rw[e2];have ZnL:(0:Int)<far:=by
    have:=VW S.lx (i:=0) (j:=L.length+1) (VP (U:=U) (by omega)) (VP (U:=U) (by omega)) (by omega);rw[Zlo,Zcm]at this;exact this
   have ay:(i=0/\cyc (ZL far L U) (i:Int)=(0,0))\/(cyc (ZL far L U) (i:Int)).2<0:=by
    by_cases q:i=0
    ·left;subst q;exact⟨rfl,Zlo⟩
    ·right;exact Zfu S (by omega) (by omega)
   have by':(i=L.length/\cyc (ZL far L U) ((i+1:Nat):Int)=(far,0))\/(i≠L.length/\(cyc (ZL far L U) ((i+1:Nat):Int)).2<0):=by
    by_cases q:i=L.length
    ·left;subst q;exact⟨rfl,Zcm⟩
    ·right;exact⟨q,Zfu S (by omega) (by omega)⟩
   have cy:(j'=0/\cyc (ZL far L U) ((L.length+1+j':Nat):Int)=(far,0))\/(j'≠0/\0<(cyc (ZL far L U) ((L.length+1+j':Nat):Int)).2):=by
    by_cases q:j'=0
    ·left;subst q;exact⟨rfl,Zcm⟩
    ·right;exact⟨q,Zfr S (by omega) (by omega)⟩
   have ey:(j'=U.length/\cyc (ZL far L U) ((L.length+1+(j'+1):Nat):Int)=(0,0))\/(j'≠U.length/\0<(cyc (ZL far L U) ((L.length+1+(j'+1):Nat):Int)).2):=by
    by_cases q:j'=U.length
    ·left;subst q;exact⟨rfl,ZjF⟩
    ·right;exact⟨q,Zfr S (by omega) (by omega)⟩
   have wz:¬ (i=0/\j'=U.length):=by
    rintro⟨q1,q2⟩;apply hw;rw[q1,q2,hn,show((L.length+1+U.length:Nat):Int)+1=((L.length+U.length+2:Nat):Int) by omega,Int.emod_self];rfl
   generalize cyc (ZL far L U) (i:Int)=a at *;generalize cyc (ZL far L U) ((i+1:Nat):Int)=b at *;generalize cyc (ZL far L U) ((L.length+1+j':Nat):Int)=c at *;generalize cyc (ZL far L U) ((L.length+1+(j'+1):Nat):Int)=e at *;have v1:a.2<=0:=by
    rcases ay with⟨_,q⟩ | q
    ·rw[q];simp
    ·omega
   have v2:b.2<=0:=by
    rcases by' with⟨_,q⟩ | ⟨_,q⟩
    ·rw[q];simp
    ·omega
   have v3:0<=c.2:=by
    rcases cy with⟨_,q⟩ | ⟨_,q⟩
    ·rw[q];simp
    ·omega
   have v4:0<=e.2:=by
    rcases ey with⟨_,q⟩ | ⟨_,q⟩
    ·rw[q];simp
    ·omega
   refine ZkK v1 v2 (by omega) v3 v4 (by omega) ?_ ?_ ?_ ?_
   ·intro z;subst z;rcases ay with⟨_,q⟩ | q
    ·rcases cy with⟨_,r⟩ | ⟨_,r⟩
     ·rw[q]at r;have:=congrArg Prod.fst r;simp at this;omega
     ·omega
    ·omega
   ·intro z;subst z;rcases ay with⟨_,q⟩ | q
    ·rcases ey with⟨_,r⟩ | ⟨_,r⟩
     ·omega
     ·rw[q]at r;simp at r
    ·omega
   ·intro z;subst z;rcases by' with⟨_,q⟩ | ⟨_,q⟩
    ·rcases cy with⟨_,r⟩ | ⟨_,r⟩
     ·omega
     ·rw[q]at r;simp at r
    ·omega
   ·intro z;subst z;rcases by' with⟨_,q⟩ | ⟨_,q⟩
    ·rcases ey with⟨_,r⟩ | ⟨_,r⟩
     ·rw[q]at r;have:=congrArg Prod.fst r;simp at this;omega
     ·rw[q]at r;simp at r
    ·omega
theorem ZhL{far:Int}{L U:List Pt}(S:SawI far L U)(hst:UV (ZL far L U)=ZL far L U):Qt (ZL far L U)=true:=by
 have hne:=Zcn far L U;have hn0:0<((ZL far L U).length:Int):=by have:=ag.mpr hne;omega
 unfold Qt;simp only[As,decide_eq_true_eq,Bool.not_eq_true',decide_eq_false_iff_not];refine⟨⟨Zft S,?_⟩,?_⟩
 ·intro z;unfold Je at z;obtain⟨k,hk,e⟩:=A8.mp z;have hk:=Ae.mp hk;have al:=ZdN (ZL far L U) (ZL far L U) 0 rfl (by
   have:ZcL (ZL far L U) ((0:Nat):Int) (ZL far L U)=UV (ZL far L U):=rfl;rw[this,hst])
  have t:=al (((k:Int)+1)%((ZL far L U).length:Int)).toNat (Be _) (by
   have:=Ah ((k:Int)+1) (show((ZL far L U).length:Int)≠0 by omega);have:=Ag ((k:Int)+1) hn0;omega)
  have en:(((((k:Int)+1)%((ZL far L U).length:Int)).toNat:Nat):Int)=((k:Int)+1)%((ZL far L U).length:Int):=by
   have:=Ah ((k:Int)+1) (show((ZL far L U).length:Int)≠0 by omega);omega
  rw[en]at t;have q1:=UN (ZL far L U) ((k:Int)+1) (-1);have q2:=UN (ZL far L U) ((k:Int)+1) 1;have q3:=Y4 (ZL far L U) ((k:Int)+1);rw[show(k:Int)+1+-1=k by omega]at q1;rw[show(k:Int)+1+1=(k:Int)+2 by omega]at q2;rw[Int.sub_eq_add_neg,q1,q2,q3]at t;exact t e
 ·cases hb:badAny (ZL far L U) with
  | false=>rfl
  | true=>
   exfalso;unfold badAny at hb;rw[bf]at hb;obtain⟨i,hi,hb⟩:=hb;unfold Zca at hb;rw[bf]at hb;obtain⟨j,hj,hb⟩:=hb;have hi:=Ae.mp hi;have hj:=Ae.mp hj;unfold ZiG at hb;rw[As]at hb;exact Zfv S (i:=i) (j:=i+2+j) (by omega) (by omega) (by simpa using hb.1) ((ZdF _ _ _ _).mp hb.2)
theorem SrcZ.good{wide:Int}{qs:List Pt}(h:SrcZ wide qs):Qt qs=true:=by
 rcases h with⟨h,_⟩ | ⟨far,L,U,rfl,S,hst,_⟩
 ·exact h
 ·exact ZhL S hst
structure GoodC(ps:List Pt):Prop where
 n3:3<=ps.length
 nd:ps.Nodup
 tn:∀ m:Int,Zw (cyc ps m) (cyc ps (m+1)) (cyc ps (m+2))≠0
 ap:∀ i j:Int,i%(ps.length:Int)≠j%(ps.length:Int)->(i+1)%(ps.length:Int)≠j%(ps.length:Int)->(j+1)%(ps.length:Int)≠i%(ps.length:Int)->¬ Pg.meet (cyc ps i) (cyc ps (i+1)) (cyc ps j) (cyc ps (j+1))
theorem Zij{ps:List Pt}(h3:3<=ps.length)(h:Qt ps=true):GoodC ps:=by
 have hne:ps≠[]:=fun z=>by rw[z]at h3;simp at h3
 have hd:ps.Nodup:=by
  unfold Qt at h;simp only[As,decide_eq_true_eq]at h;exact h.1.1
 have hn:0<(ps.length:Int):=by omega
 refine⟨h3,hd,Zby hne h,fun i j h1 h2 h3'=>?_⟩;have g:=Zgp h3 h 0;have a1:=Ah i (show(ps.length:Int)≠0 by omega);have a2:=Ag i hn;have b1:=Ah j (show(ps.length:Int)≠0 by omega);have b2:=Ag j hn;obtain⟨a,ha⟩:∃ a:Nat,(a:Int)=i%(ps.length:Int):=⟨(i%(ps.length:Int)).toNat,by omega⟩;obtain⟨b,hb⟩:∃ b:Nat,(b:Int)=j%(ps.length:Int):=⟨(j%(ps.length:Int)).toNat,by omega⟩;have nxm:∀{m:Nat},m<ps.length->((Pg.nx ps.length m:Nat):Int)=((m:Int)+1)%(ps.length:Int):=fun {m} hm=>by
  unfold Pg.nx;split
  next q=>rw[show(m:Int)+1=(ps.length:Int) by omega,Int.emod_self];rfl
  next q=>rw[B4 (by omega) (by omega)];omega
 have e1:((a:Int)+1)%(ps.length:Int)=(i+1)%(ps.length:Int):=by rw[ha,Cf]
 have e2:((b:Int)+1)%(ps.length:Int)=(j+1)%(ps.length:Int):=by rw[hb,Cf]
 have q:=g.apart a b (by omega) (by omega) (by omega) (fun z=>h3' (by rw[<-e2,<-nxm (show b<ps.length by omega),<-z,ha])) (fun z=>h2 (by rw[<-e1,<-nxm (show a<ps.length by omega),<-z,hb]));rw[Wq 0 (by omega),Wq 0 (by omega)]at q;unfold rp at q;rw[Int.add_zero,Int.add_zero,ha,hb,UN,UN,Y4,Y4]at q;exact q
theorem Us{ps:List Pt}(hne:ps≠[])(f:Pt->Pt)(i:Int):cyc (ps.map f) i=f (cyc ps i):=by
 have hn:0<(ps.length:Int):=by have:=ag.mpr hne;omega
 have a1:=Ah i (show(ps.length:Int)≠0 by omega);have a2:=Ag i hn;obtain⟨a,ha⟩:∃ a:Nat,(a:Int)=i%(ps.length:Int):=⟨(i%(ps.length:Int)).toNat,by omega⟩;rw[<-Y4 ps i,<-Y4 (ps.map f) i,A_,<-ha,ZO (show a<ps.length by omega),ZO (show a<(ps.map f).length by rw[A_];omega)];simp
theorem Jb(xs ys:List Pt)(hne:xs++ys≠[])(i:Int):cyc (ys++xs) i=cyc (xs++ys) (i+xs.length):=by
 have hn:0<((xs++ys).length:Int):=by have:=ag.mpr hne;omega
 have hl:(ys++xs).length=(xs++ys).length:=by simp;omega
 have a1:=Ah i (show((xs++ys).length:Int)≠0 by omega);have a2:=Ag i hn;obtain⟨a,ha⟩:∃ a:Nat,(a:Int)=i%((xs++ys).length:Int):=⟨(i%((xs++ys).length:Int)).toNat,by omega⟩;rw[<-Y4 (ys++xs) i,hl,<-ha,ZO (show a<(ys++xs).length by omega),<-UN (xs++ys) i xs.length,<-ha];simp only[b9]at a2 ha hn;by_cases c:a<ys.length
 ·rw[show(a:Int)+(xs.length:Int)=((xs.length+a:Nat):Int) by omega,ZO (show xs.length+a<(xs++ys).length by simp;omega)];rw[Bx c,B5 (by omega)];simp
 ·have e:=Y6 (xs++ys) ((a:Int)+xs.length-(xs++ys).length);rw[Int.sub_add_cancel]at e;rw[e];have:(a:Int)+xs.length-(xs++ys).length=((a-ys.length:Nat):Int):=by simp;omega
  rw[this,ZO (show a-ys.length<(xs++ys).length by simp;omega)];rw[B5 (by omega),Bx (by omega)]
theorem Ur{ps:List Pt}(hne:ps≠[])(i:Int):cyc ps.reverse i=cyc ps (-1-i):=by
 have hn:0<(ps.length:Int):=by have:=ag.mpr hne;omega
 have a1:=Ah i (show(ps.length:Int)≠0 by omega);have a2:=Ag i hn;obtain⟨a,ha⟩:∃ a:Nat,(a:Int)=i%(ps.length:Int):=⟨(i%(ps.length:Int)).toNat,by omega⟩;have e0:cyc ps (-1-i)=cyc ps (-1-i%(ps.length:Int)):=by
  unfold cyc;rw[Int.sub_emod,Int.sub_emod (-1) (i%(ps.length:Int)),Int.emod_emod]
 rw[<-Y4 ps.reverse i,C8,e0,<-ha,ZO (show a<ps.reverse.length by simp;omega)];have e:=Y6 ps (-1-(a:Int));rw[<-e,show -1-(a:Int)+ps.length=((ps.length-1-a:Nat):Int) by omega,ZO (show ps.length-1-a<ps.length by omega)];rw[List.getElem_reverse]
theorem Uk{n i j k:Int}(h:i%n≠j%n):(k-i)%n≠(k-j)%n:=fun e=>h (by
 have a:=Int.emod_emod_of_dvd (k-i) (Int.dvd_refl n);have:(k-(k-i))%n=(k-(k-j))%n:=by rw[Int.sub_emod,e,<-Int.sub_emod]
 rw[show k-(k-i)=i by omega,show k-(k-j)=j by omega]at this;exact this)
theorem Ul{n i j k:Int}(h:i%n≠j%n):(i+k)%n≠(j+k)%n:=fun e=>h ((Int.emod_add_cancel_right k).mp e)
theorem Zh4{a b c e:Pt}(h:Pg.meet b a e c):Pg.meet a b c e:=by
 have o:∀{a b c:Pt},Pg.onS b a c->Pg.onS a b c:=fun h=>Pg.onS_symm h;unfold Pg.meet at *;rcases h with h | h | h | h | ⟨h1,h2⟩
 ·exact .inr (.inl (o h))
 ·exact .inl (o h)
 ·exact .inr (.inr (.inr (.inl (o h))))
 ·exact .inr (.inr (.inl (o h)))
 ·refine .inr (.inr (.inr (.inr ⟨?_,?_⟩)))
  ·have e1:Pg.turn b a e*Pg.turn b a c=Pg.turn a b c*Pg.turn a b e:=by unfold Pg.turn;grind
   rw[<-e1];exact h1
  ·have e1:Pg.turn e c b*Pg.turn e c a=Pg.turn c e a*Pg.turn c e b:=by unfold Pg.turn;grind
   rw[<-e1];exact h2
theorem ZhB(a b c:Pt):Zw c b a=- Zw a b c:=by unfold Zw;grind
theorem GoodC.rev{ps:List Pt}(g:GoodC ps):GoodC ps.reverse:=by
 have hne:ps≠[]:=fun z=>by have:=g.n3;rw[z]at this;simp at this
 refine⟨by rw[C8];exact g.n3,((List.reverse_perm ps).nodup_iff.mpr g.nd),fun m=>?_,fun i j h1 h2 h3=>?_⟩
 ·rw[Ur hne,Ur hne,Ur hne];have:=g.tn (-1-(m+2));rw[show -1-(m+2)+1=-1-(m+1) by omega,show -1-(m+2)+2=-1-m by omega]at this;rw[ZhB];omega
 ·rw[C8]at h1 h2 h3;rw[Ur hne,Ur hne,Ur hne,Ur hne];have q:=g.ap (-1-(i+1)) (-1-(j+1)) (by
   have:=Uk (k:=-2) h1;rw[show -1-(i+1)=-2-i by omega,show -1-(j+1)=-2-j by omega];exact this) (by
   have:=Uk (k:=-1) h3;rw[show -1-(i+1)+1=-1-i by omega];exact Ao this) (by
   have:=Uk (k:=-1) h2;rw[show -1-(j+1)+1=-1-j by omega];exact Ao this)
  rw[show -1-(i+1)+1=-1-i by omega,show -1-(j+1)+1=-1-j by omega]at q;exact fun z=>q (Zh4 z)
theorem GoodC.rot{xs ys:List Pt}(g:GoodC (xs++ys)):GoodC (ys++xs):=by
 have hne:xs++ys≠[]:=fun z=>by have:=g.n3;rw[z]at this;simp at this
 have hl:(ys++xs).length=(xs++ys).length:=by simp;omega
 refine⟨by rw[hl];exact g.n3,(Bi.nodup_iff).mp g.nd,fun m=>?_,fun i j h1 h2 h3=>?_⟩
 ·rw[Jb _ _ hne,Jb _ _ hne,Jb _ _ hne];have:=g.tn (m+xs.length);rw[show m+(xs.length:Int)+1=m+1+xs.length by omega,show m+(xs.length:Int)+2=m+2+xs.length by omega]at this;exact this
 ·rw[hl]at h1 h2 h3;rw[Jb _ _ hne,Jb _ _ hne,Jb _ _ hne,Jb _ _ hne];have q:=g.ap (i+xs.length) (j+xs.length) (Ul h1) (by
   have:=Ul (k:=(xs.length:Int)) h2;rw[show i+(xs.length:Int)+1=i+1+xs.length by omega];exact this) (by
   have:=Ul (k:=(xs.length:Int)) h3;rw[show j+(xs.length:Int)+1=j+1+xs.length by omega];exact this)
  rw[show i+(xs.length:Int)+1=i+1+xs.length by omega,show j+(xs.length:Int)+1=j+1+xs.length by omega]at q;exact q
theorem GoodC.inOrd{ps:List Pt}(g:GoodC ps):GoodC (Y0 ps):=by
 have r:∀ l:List Pt,GoodC l->GoodC (YK l):=fun l h=>by
  unfold YK;apply GoodC.rot;rw[B1];exact h
 unfold Y0;split
 ·exact r _ g.rev
 ·exact r _ g
def mv(u v:Int)(p:Pt):Pt:=(p.1+u,p.2+v)
theorem Zcd(u v:Int)(a b c:Pt):Pg.turn (mv u v a) (mv u v b) (mv u v c)=Pg.turn a b c:=by unfold Pg.turn mv;grind
theorem ZhY{u v:Int}{a b c:Pt}(h:Pg.onS (mv u v a) (mv u v b) (mv u v c)):Pg.onS a b c:=by
 unfold Pg.onS at *;rw[Zcd]at h;unfold mv at h;simp only at h;omega
theorem GoodC.mv{ps:List Pt}(g:GoodC ps)(u v:Int):GoodC (ps.map (mv u v)):=by
 have hne:ps≠[]:=fun z=>by have:=g.n3;rw[z]at this;simp at this
 refine⟨by rw[A_];exact g.n3,?_,fun m=>?_,fun i j h1 h2 h3=>?_⟩
 ·rw[List.Nodup,Bp];refine g.nd.imp fun {a b} h e=>h ?_;unfold Pl.mv at e;have e1:=congrArg Prod.fst e;have e2:=congrArg Prod.snd e;simp only at e1 e2;exact Bw (by omega) (by omega)
 ·rw[Us hne,Us hne,Us hne];have:=g.tn m;have e:=Zcd u v (cyc ps m) (cyc ps (m+1)) (cyc ps (m+2));unfold Pg.turn at e;unfold Zw at this ⊢;rw[e];exact this
 ·rw[A_]at h1 h2 h3;rw[Us hne,Us hne,Us hne,Us hne];intro z;apply g.ap i j h1 h2 h3;unfold Pg.meet at z ⊢;simp only[Zcd]at z;rcases z with z | z | z | z | z
  ·exact .inl (ZhY z)
  ·exact .inr (.inl (ZhY z))
  ·exact .inr (.inr (.inl (ZhY z)))
  ·exact .inr (.inr (.inr (.inl (ZhY z))))
  ·exact .inr (.inr (.inr (.inr z)))
end Pl
namespace Pg
noncomputable instance(a b:P2):Decidable (lexlt a b):=by unfold lexlt;infer_instance
section
variable{a0 b0:Int}{A N:Nat}{l h:P2}
end
def Zjf(s e:P2)(a b:Int):Prop:=if e.1<s.1 then(e.1<=a/\a<s.1)/\0<turn e s (a,b) else(s.1<=a/\a<e.1)/\0<turn s e (a,b)
noncomputable instance(s e:P2)(a b:Int):Decidable (Zjf s e a b):=by unfold Zjf;infer_instance
section
variable{n:Nat}{p:Nat->P2}{M:Int}
end
end Pg
namespace Pl
open PySem PySem.Spec PyProof.Rows L2 L3
theorem GoodC.rp{ps:List Pt}(g:GoodC ps)(k:Int):Pg.Good ps.length (rp ps k):=by
 have h3:=g.n3;have hne:ps≠[]:=fun z=>by rw[z]at h3;simp at h3
 have hn:0<(ps.length:Int):=by omega
 have nxm:∀{m:Nat},m<ps.length->((Pg.nx ps.length m:Nat)+k)%(ps.length:Int)=((m:Int)+k+1)%(ps.length:Int):=fun {m} hm=>by
  unfold Pg.nx;split
  next q=>rw[show(m:Int)+k+1=((0:Nat):Int)+k+ps.length by omega,Cb]
  next q=>congr 1;omega
 refine⟨h3,?_,?_,?_⟩
 ·intro i j hi hj e;have:=ZgT g.nd hne e;have:=Jt (by omega) (by omega) (by omega) (by omega) this;omega
 ·intro i hi;rw[Wq k hi,Zfz k hi];exact g.tn _
 ·intro i j hi hj hij h1 h2;rw[Wq k hi,Wq k hj];unfold Pl.rp;refine g.ap _ _ ?_ ?_ ?_
  ·intro e;have:=Jt (by omega) (by omega) (by omega) (by omega) e;omega
  ·intro e;rw[<-nxm hi]at e;have:=Jt (by omega) (by have:=Pg.nx_lt hi;omega) (by omega) (by omega) e;omega
  ·intro e;rw[<-nxm hj]at e;have:=Jt (by omega) (by have:=Pg.nx_lt hj;omega) (by omega) (by omega) e;omega
theorem Zib{ps:List Pt}{m:Pt}(h:m∈ps)(hl:ps.length<=1000):ZcP (.tup (ps.map pD)) (pD m)=some (.int (Qm m ps:Nat)):=ZcG h hl
theorem ZeB{l:List Pt}(hne:l≠[])(hl:l.length<=1000):Zq [.lst (l.map pD)]=some (.tup ((YK l).map pD)):=by
 have m:=ZdE hne (c:=.lst (l.map pD)) rfl;have i:ZcP (.lst (l.map pD)) (pD (YZ l))=some (.int (Qm (YZ l) l:Nat)):=ZcG (Y9 hne) hl;obtain⟨k1,_⟩:=UZ (Y9 hne);have c1:=ZaS (l.map pD) (Qm (YZ l) l) (by simp;omega);have c2:=ZgU (l.map pD) (Qm (YZ l) l) (by simp;omega);have s1:∀ lo hi,Zk0 lo hi (.lst (l.map pD))=some (.lst (cutD (l.map pD) lo hi)):=fun _ _=>rfl;have ad:Yn (.lst ((l.map pD).drop (Qm (YZ l) l))) (.lst ((l.map pD).take (Qm (YZ l) l)))=some (.lst ((YK l).map pD)):=by
  show(if _ then _ else _)=_;rw[if_pos (by simp;exact Z0 (by omega))];unfold YK;rw[bi,List.map_drop,List.map_take]
 unfold Zq ZA QO;show(Zp _ _ [.val (.lst (l.map pD)),.no]).bind _=_;have e1:Z9 1 (Zg ZcP (Zd 0) (ZI Wx (Zb (Zd 0) Zm))) [.val (.lst (l.map pD)),.no]=some (.nx [.val (.lst (l.map pD)),.val (.int (Qm (YZ l) l:Nat))]):=by
  simp -implicitDefEqProofs[m,i]
 rw[Zz,e1];show(Yc _ [.val (.lst (l.map pD)),.val (.int (Qm (YZ l) l:Nat))]).bind _=_;have e2:(Zg Yn (dSl (Zd 0) (UA (Zd 1)) UB) (dSl (Zd 0) UB (UA (Zd 1)))) [.val (.lst (l.map pD)),.val (.int (Qm (YZ l) l:Nat))]=some (.lst ((YK l).map pD)):=by
  simp only[Qg,ZkB,ZdU,Zcx,Zcy,Bf,be,A5,s1,c1,c2,ad]
 rw[W6,JB,Uq,e2];rfl
theorem ZeA{l:List Pt}(hne:l≠[])(hl:l.length<=1000):Zq [.tup (l.map pD)]=some (.tup ((YK l).map pD)):=by
 have m:=ZdE hne (c:=.tup (l.map pD)) rfl;have i:=Zib (Y9 hne) hl;obtain⟨k1,_⟩:=UZ (Y9 hne);have c1:=ZaS (l.map pD) (Qm (YZ l) l) (by simp;omega);have c2:=ZgU (l.map pD) (Qm (YZ l) l) (by simp;omega);have s1:∀ lo hi,Zk0 lo hi (.tup (l.map pD))=some (.tup (cutD (l.map pD) lo hi)):=fun _ _=>rfl;have ad:Yn (.tup ((l.map pD).drop (Qm (YZ l) l))) (.tup ((l.map pD).take (Qm (YZ l) l)))=some (.tup ((YK l).map pD)):=by
  show(if _ then _ else _)=_;rw[if_pos (by simp;exact Z0 (by omega))];unfold YK;rw[bi,List.map_drop,List.map_take]
 unfold Zq ZA QO;show(Zp _ _ [.val (.tup (l.map pD)),.no]).bind _=_;have e1:Z9 1 (Zg ZcP (Zd 0) (ZI Wx (Zb (Zd 0) Zm))) [.val (.tup (l.map pD)),.no]=some (.nx [.val (.tup (l.map pD)),.val (.int (Qm (YZ l) l:Nat))]):=by
  simp -implicitDefEqProofs[m,i]
 rw[Zz,e1];show(Yc _ [.val (.tup (l.map pD)),.val (.int (Qm (YZ l) l:Nat))]).bind _=_;have e2:(Zg Yn (dSl (Zd 0) (UA (Zd 1)) UB) (dSl (Zd 0) UB (UA (Zd 1)))) [.val (.tup (l.map pD)),.val (.int (Qm (YZ l) l:Nat))]=some (.tup ((YK l).map pD)):=by
  simp only[Qg,ZkB,ZdU,Zcx,Zcy,Bf,be,A5,s1,c1,c2,ad]
 rw[W6,JB,Uq,e2];rfl
noncomputable def tD(l:List Pt):D:=.tup (l.map pD)
theorem ZbD{L:List Pt}(h2:2<=L.length){k:Nat}(hk:k<L.length):Y3 [.lst (L.map pD),.int k]=some (tD [cyc L ((k:Int)-2),cyc L ((k:Int)-1),cyc L k]):=by
 have i2:=WW (c:=.lst (L.map pD)) (ps:=L) rfl (i:=(k:Int)-2) (by omega) (by omega);have i1:=WW (c:=.lst (L.map pD)) (ps:=L) rfl (i:=(k:Int)-1) (by omega) (by omega);have i0:=WW (c:=.lst (L.map pD)) (ps:=L) rfl (i:=(k:Int)) (by omega) (by omega);unfold tD;simp -implicitDefEqProofs[Y3,ZA,WZ,i2,i1,i0]
theorem ZlY(p a b c:Pt):Yy (pD p) (tD [a,b,c])=some (.bl (!(decide (p=a)||decide (p=b)||decide (p=c)))):=by
 have h1:okD (tD [a,b,c])=true:=(Zj5 fun d hd=>by obtain⟨n,_,rfl⟩:=A8.mp hd;exact V4 n).1;have h2:okD (pD p)=true:=(V4 p).1;show Option.map (fun b=>D.bl (!b)) (if(okD (pD p)&&okD (tD [a,b,c]))=true then some ([pD a,pD b,pD c].any fun y=>deq y (pD p)) else none)=_;rw[h1,h2,if_pos (by decide)];show some (D.bl (!(deq (pD a) (pD p)||(deq (pD b) (pD p)||(deq (pD c) (pD p)||false)))))=_;rw[Wg,Wg,Wg,C0,decide_eq_decide.mpr (eq_comm (a:=a) (b:=p)),decide_eq_decide.mpr (eq_comm (a:=b) (b:=p)),decide_eq_decide.mpr (eq_comm (a:=c) (b:=p)),Bool.or_assoc]
theorem ZlZ{a b:Str}(ha:okD (.str a)=true)(hb:okD (.str b)=true):Qi (.str a) (.str b)=some (.bl (!decide (a=b))):=by
 show(if(okD (.str a)&&okD (.str b))=true then some (D.bl (!deq (.str a) (.str b))) else none)=_;rw[ha,hb,if_pos (by decide)];have:deq (.str a) (.str b)=decide (a=b):=by
  show PyData.eqv (.str a) (.str b)=_;by_cases e:a=b
  ·subst e;simp[PyData.eqv]
  ·simp[PyData.eqv,e]
 rw[this]
theorem Zl0(ps:List Pt)(q:Pt):Qi (.str (Str.ofString (YR ps q))) (.str (Str.ofString "out"))=some (.bl (!decide (YR ps q="out"))):=by
 have:YR ps q="on"\/YR ps q="in"\/YR ps q="out":=by
  unfold YR;split
  ·exact .inl rfl
  ·split
   ·exact .inr (.inl rfl)
   ·exact .inr (.inr rfl)
 rcases this with h | h | h<;>rw[h,ZlZ (by decide +kernel) (by decide +kernel)]
 ·rw[decide_eq_false (show ¬ Str.ofString "on"=Str.ofString "out" by decide +kernel)];rfl
 ·rw[decide_eq_false (show ¬ Str.ofString "in"=Str.ofString "out" by decide +kernel)];rfl
 ·rw[decide_eq_true rfl];rfl
abbrev coT:DT:=(Zec (Zo (Zg Yy (Zd 2) (Zd 0))) (Zo (Zg Qi (dFn 2 Qv (Zb (Zd 0) (Zb (Zd 2) Zm))) (Zi (.str (Str.ofString "out"))))))
theorem ZgB{L:List Pt}{a b c:Pt}(hL:All Sm L)(ha:Sm a)(hb:Sm b)(hc:Sm c):Yq [tD [a,b,c],.lst (L.map pD)]=some (.bl (ZbN L a b c)):=by
 have tl:=QR ha hb hc;have x0:dIx (tD [a,b,c]) (.int 0)=some (pD a):=rfl;have x1:dIx (tD [a,b,c]) (.int 1)=some (pD b):=rfl;have x2:dIx (tD [a,b,c]) (.int 2)=some (pD c):=rfl;unfold ZbN;by_cases h:0<Zw a b c
 ·have hs:All Sm [a,b,c]:=fun p hp=>by
   rcases A4.mp hp with rfl | hp
   ·exact ha
   ·rcases A4.mp hp with rfl | hp
    ·exact hb
    ·rw[A0]at hp;subst hp;exact hc
  have lp:=Q7 (b:=ZC 2) (g:=QC coT (Yc (Zi (.bl false))) ZV) (R:=fun ρ=>∃ s2,ρ=[.val (tD [a,b,c]),.val (.lst (L.map pD)),s2])
   (bad:=fun d=>match d with | .tup [.int x,.int y]=>!((decide ((x,y)=a)||decide ((x,y)=b)||decide ((x,y)=c))||decide (YR [a,b,c] (x,y)="out")) | _=>false) (d:=.bl false) (xs:=L.map pD) (fun x hx ρ hr=>by
    obtain⟨s2,rfl⟩:=hr;obtain⟨p,hp,rfl⟩:=A8.mp hx;refine⟨[.val (tD [a,b,c]),.val (.lst (L.map pD)),.val (pD p)],rfl,?_⟩;have w:=Zgv (ps:=[a,b,c]) (c:=p) (by simp) hs (hL p hp);have ni:=ZlY p a b c;have no:=Zl0 [a,b,c] p;have w':Qv [tD [a,b,c],pD p]=some (.str (Str.ofString (YR [a,b,c] p))):=w;have et:coT [.val (tD [a,b,c]),.val (.lst (L.map pD)),.val (pD p)]=some (!((decide (p=a)||decide (p=b)||decide (p=c))||decide (YR [a,b,c] p="out"))):=by
     simp only[coT,Zjv,Uo,Qg,ZdU,ZmH,ZmG,Uq,ZmF,Bf,be,A5,ni];cases (decide (p=a)||decide (p=b)||decide (p=c))
     ·simp only[B8,Bool.false_or];rw[if_pos (show[tD [a,b,c],pD p].length=2 from rfl),w',A5,no];rfl
     ·rfl
    show if(!((decide (p=a)||decide (p=b)||decide (p=c))||decide (YR [a,b,c] p="out")))=true then _ else _;rw[ZbL,et];cases (!((decide (p=a)||decide (p=b)||decide (p=c))||decide (YR [a,b,c] p="out"))) with
    | true=>rfl
    | false=>exact⟨_,⟨_,rfl⟩,rfl⟩) [.val (tD [a,b,c]),.val (.lst (L.map pD)),.no] ⟨_,rfl⟩
  have an:((L.map pD).any fun d=>match d with | .tup [.int x,.int y]=>!((decide ((x,y)=a)||decide ((x,y)=b)||decide ((x,y)=c))||decide (YR [a,b,c] (x,y)="out")) | _=>false)=!(L.all fun x=>(decide (x=a)||decide (x=b)||decide (x=c))||decide (YR [a,b,c] x="out")):=by
   rw[List.any_map,List.not_all_eq_any_not];rfl
  rw[an]at lp;unfold Yq ZA Ui;show(Zp _ (Zp _ _) [.val (tD [a,b,c]),.val (.lst (L.map pD)),.no]).bind _=_;have e1:(QC (Ji (Zo (dFn 3 Yb (Zb (Zg dIx (Zd 0) (Zi (.int 0))) (Zb (Zg dIx (Zd 0) (Zi (.int 1))) (Zb (Zg dIx (Zd 0) (Zi (.int 2))) Zm)))))) (Yc (Zi (.bl false))) ZV) [.val (tD [a,b,c]),.val (.lst (L.map pD)),.no]=some (.nx [.val (tD [a,b,c]),.val (.lst (L.map pD)),.no]):=by
   simp -implicitDefEqProofs[x0,x1,x2,tl,h]
  rw[Zz,e1];show(Zp _ _ [.val (tD [a,b,c]),.val (.lst (L.map pD)),.no]).bind _=_;have e2:YO (Zd 1) [.val (tD [a,b,c]),.val (.lst (L.map pD)),.no]=some (L.map pD):=rfl;rw[Zz,W7,e2,A5];rw[decide_eq_true h,Bool.true_and];cases q:(L.all fun x=>(decide (x=a)||decide (x=b)||decide (x=c))||decide (YR [a,b,c] x="out")) with
  | true=>
   rw[q,if_neg (by decide)]at lp;obtain⟨ρ2,⟨s2,rfl⟩,e3⟩:=lp;have e4:U1 (ZC 2) (QC (Zec (Zo (Zg Yy (Zd 2) (Zd 0))) (Zo (Zg Qi (dFn 2 Qv (Zb (Zd 0) (Zb (Zd 2) Zm))) (Zi (.str (Str.ofString "out")))))) (Yc (Zi (.bl false))) ZV) (L.map pD) [.val (tD [a,b,c]),.val (.lst (L.map pD)),.no]=_:=e3;rw[e4];rfl
  | false=>
   rw[q,if_pos (by decide)]at lp;have e4:U1 (ZC 2) (QC (Zec (Zo (Zg Yy (Zd 2) (Zd 0))) (Zo (Zg Qi (dFn 2 Qv (Zb (Zd 0) (Zb (Zd 2) Zm))) (Zi (.str (Str.ofString "out")))))) (Yc (Zi (.bl false))) ZV) (L.map pD) [.val (tD [a,b,c]),.val (.lst (L.map pD)),.no]=_:=lp;rw[e4];rfl
 ·have hh:decide (0<Zw a b c)=false:=decide_eq_false h;unfold Yq ZA Ui;show(Zp _ (Zp _ _) [.val (tD [a,b,c]),.val (.lst (L.map pD)),.no]).bind _=_;have e1:(QC (Ji (Zo (dFn 3 Yb (Zb (Zg dIx (Zd 0) (Zi (.int 0))) (Zb (Zg dIx (Zd 0) (Zi (.int 1))) (Zb (Zg dIx (Zd 0) (Zi (.int 2))) Zm)))))) (Yc (Zi (.bl false))) ZV) [.val (tD [a,b,c]),.val (.lst (L.map pD)),.no]=some (.rt (.bl false)):=by
   simp -implicitDefEqProofs[x0,x1,x2,tl,h]
  rw[Zz,e1,hh];rfl
theorem ZdV{L:List Pt}{i:Int}{j:Nat}(h:i%(L.length:Int)=j):cyc L i=Pg.lp L j:=by
 unfold cyc Pg.lp;rw[h];rfl
theorem ZfE{n k:Nat}(hk:k<n):((k:Int)-1)%(n:Int)=(Pg.pv n k:Nat):=by
 unfold Pg.pv;by_cases h:k=0
 ·subst h;rw[if_pos rfl];have:((0:Nat):Int)-1=(n-1:Nat)-(n:Int):=by omega
  rw[this,Int.sub_emod_right];exact B4 (by omega) (by omega)
 ·rw[if_neg h];rw[show(k:Int)-1=((k-1:Nat):Int) by omega];exact B4 (by omega) (by omega)
theorem ZjM{n k:Nat}(hk:k<n):((k:Int)-2)%(n:Int)=(Pg.pv n (Pg.pv n k):Nat):=by
 rw[show(k:Int)-2=((k:Int)-1)-1 by omega,Int.sub_emod,ZfE hk,<-ZfE (Pg.pv_lt hk)];rw[Int.sub_emod (Pg.pv n k:Nat) 1]
 congr 2
 exact(B4 (by omega) (by have:=Pg.pv_lt (n:=n) hk;omega)).symm
theorem ZiX{L:List Pt}{k:Nat}(hk:k<L.length):[cyc L ((k:Int)-2),cyc L ((k:Int)-1),cyc L k]=[Pg.pA L k,Pg.pB L k,Pg.lp L k]:=by
 rw[ZdV (ZjM hk),ZdV (ZfE hk),ZdV (j:=k) (B4 (by omega) (by omega))];rfl
theorem ZmL(L:List Pt)(k:Nat):Pg.comB L k=ZbN L (Pg.pA L k) (Pg.pB L k) (Pg.lp L k):=by
 rw[Cc,ZeM];unfold Pg.comB;exact @decide_eq_true_iff _ (Classical.propDecidable _)
theorem Zkd{L:List Pt}(hL:All Sm L)(h0:0<L.length){i:Nat}(hi:i<L.length):Sm (Pg.lp L i):=hL _ (Pg.lp_mem hi)
abbrev fiT:DT:=(Ji (Zo (dFn 2 Yq (Zb (dFn 2 Y3 (Zb (Zd 0) (Zb (Zd 1) Zm))) (Zb (Zd 0) Zm)))))
theorem Zgt{L:List Pt}(hL:All Sm L)(h2:2<=L.length){k:Nat}(hk:k<L.length):fiT [.val (.lst (L.map pD)),.val (.int k)]=some (!Pg.comB L k):=by
 have p:=ZbD h2 hk;rw[ZiX hk]at p;have c:=ZgB hL (Zkd hL (by omega) (Pg.pv_lt (Pg.pv_lt hk))) (Zkd hL (by omega) (Pg.pv_lt hk)) (Zkd hL (by omega) hk);have c':Yq [tD [Pg.pA L k,Pg.pB L k,Pg.lp L k],.lst (L.map pD)]=some (.bl (Pg.comB L k)):=by rw[ZmL];exact c
 simp -implicitDefEqProofs[fiT,p,c']
theorem Zgu{L:List Pt}(hL:All Sm L)(h2:2<=L.length){K:Nat}(hK:K<L.length)(yes:Pg.comB L K=true)(no:∀ j,j<K->Pg.comB L j=false):∀(d k m:Nat),k+d=K->d<m ->
  ZT fiT (Ziu 1 (Zi (.int 1))) m [.val (.lst (L.map pD)),.val (.int k)]=some (.nx [.val (.lst (L.map pD)),.val (.int K)])
 | 0,k,m+1,e,h=>by
  obtain rfl:k=K:=by omega
  unfold ZT;rw[Zgt hL h2 hK,yes];rfl
 | d+1,k,m+1,e,h=>by
  have ih:=Zgu hL h2 hK yes no d (k+1) m (by omega) (by omega);unfold ZT;rw[Zgt hL h2 (show k<L.length by omega),no k (by omega)];have b:Ziu 1 (Zi (.int 1)) [.val (.lst (L.map pD)),.val (.int k)]=some (.nx [.val (.lst (L.map pD)),.val (.int ((k+1:Nat):Int))]):=rfl;show(match Ziu 1 (Zi (.int 1)) [.val (.lst (L.map pD)),.val (.int k)]with | some (.nx ρ')=>ZT fiT (Ziu 1 (Zi (.int 1))) m ρ' | some (.ct ρ')=>ZT fiT (Ziu 1 (Zi (.int 1))) m ρ' | some (.bk ρ')=>some (.nx ρ') | r=>r)=_;rw[b];exact ih
theorem Zgz{M:Int}(hM:0<M){L:List Pt}(h:Pg.Wy M L)(hL:All Sm L)(hl:L.length<=1000):Zu [.lst (L.map pD)]=some (tD [Pg.pA L (Pg.fk L),Pg.pB L (Pg.fk L),Pg.lp L (Pg.fk L)]):=by
 have n3:=h.way.n3;obtain⟨k1,k2,k3⟩:=Pg.fk_ok hM h;have lp:=Zgu hL (by omega) k1 k2 k3 (Pg.fk L) 0 3000 (by omega) (by omega);have p:=ZbD (L:=L) (by omega) k1;rw[ZiX k1]at p;unfold Zu ZA Qu;show(Zp _ (Zp _ _) [.val (.lst (L.map pD)),.no]).bind _=_;have e0:Z9 1 (Zi (.int 0)) [.val (.lst (L.map pD)),.no]=some (.nx [.val (.lst (L.map pD)),.val (.int 0)]):=rfl;rw[Zz,e0];show(Zp (ZT fiT (Ziu 1 (Zi (.int 1))) 3000) _ [.val (.lst (L.map pD)),.val (.int (0:Nat))]).bind _=_;rw[Zz,lp];show(Yc _ [.val (.lst (L.map pD)),.val (.int (Pg.fk L))]).bind _=_;simp -implicitDefEqProofs[p]
theorem ZbF(b:Pt):∀(L:List Pt),b∈L->(L.map pD).eraseIdx (Qm b L)=(L.erase b).map pD
 | [],h=>by cases h
 | x::L,h=>by
  unfold Qm;by_cases e:x=b
  ·subst e;simp
  ·rw[if_neg e,List.erase_cons_tail (by simpa using e)];have:b∈L:=(A4.mp h).resolve_left fun z=>e z.symm;simp[ZbF b L this]
theorem ZmO{i:Nat}{f:DE}{ρ:Rho}{ds:List D}{d:D}(h1:ρ[i]?=some (.own ds))(h2:f ρ=some d)(h3:ds.length<1000):ZeI i f ρ=some (.nx (ρ.set i (.own (ds++[d])))):=by
 unfold ZeI;rw[h1];dsimp only;rw[h2,A5,if_pos (Aj h3 (Z0 (A7 _)))]
abbrev cuT:DT:=(Zff 2 (Zo (Zg dGt (ZI Q9 (Zb (Zd 2) Zm)) (Zi (.int 3)))))
abbrev cuB:DS:=(Zp (Z9 3 (ZbK 2 (dFn 1 Zu (Zb (Zd 2) Zm)))) (Zp (ZeI 1 (dFn 1 Zq (Zb (Zd 3) Zm))) (ZmE 2 (Zg dIx (Zd 3) (Zi (.int 1))))))
theorem ZcQ(p:D)(acc:List D)(L:List Pt)(s3:Sl):cuT [.val p,.own acc,.own (L.map pD),s3]=some (decide (3<L.length)):=by
 show(Zo (Zg dGt (ZI Q9 (Zb (Zd 2) Zm)) (Zi (.int 3)))) [.val p,.own acc,.val (.lst (L.map pD)),s3]=_;simp -implicitDefEqProofs;omega
theorem ZkD{M:Int}(hM:0<M){L:List Pt}(h:Pg.Wy M L)(h4:4<=L.length)(hL:All Sm L)(hl:L.length<=100)(p:D)(acc:List D)(ha:acc.length<=100)(s3:Sl):
  cuB [.val p,.own acc,.own (L.map pD),s3]=some (.nx [.val p,.own (acc++[tD (YK [Pg.pA L (Pg.fk L),Pg.pB L (Pg.fk L),Pg.lp L (Pg.fk L)])]),.own ((L.erase (Pg.pB L (Pg.fk L))).map pD),.val (tD [Pg.pA L (Pg.fk L),Pg.pB L (Pg.fk L),Pg.lp L (Pg.fk L)])]):=by
 have f:=Zgz hM h hL (by omega);obtain⟨k1,_,_⟩:=Pg.fk_ok hM h;have bm:Pg.pB L (Pg.fk L)∈L:=Pg.lp_mem (Pg.pv_lt k1);generalize Pg.pA L (Pg.fk L)=a at *;generalize Pg.pB L (Pg.fk L)=b at *;generalize Pg.lp L (Pg.fk L)=c at *;have lf:=ZeA (l:=[a,b,c]) (by simp) (by simp);have lf':Zq [tD [a,b,c]]=some (tD (YK [a,b,c])):=lf;have e1:Z9 3 (ZbK 2 (dFn 1 Zu (Zb (Zd 2) Zm))) [.val p,.own acc,.own (L.map pD),s3]=some (.nx [.val p,.own acc,.own (L.map pD),.val (tD [a,b,c])]):=by
  have:ZbK 2 (dFn 1 Zu (Zb (Zd 2) Zm)) [.val p,.own acc,.own (L.map pD),s3]=some (tD [a,b,c]):=by
   show((dFn 1 Zu (Zb (Zd 2) Zm)) [.val p,.own acc,.val (.lst (L.map pD)),s3]).bind _=_;have:(dFn 1 Zu (Zb (Zd 2) Zm)) [.val p,.own acc,.val (.lst (L.map pD)),s3]=some (tD [a,b,c]):=by
    simp -implicitDefEqProofs[f]
   rw[this];rfl
  rw[W5,this];rfl
 have e2:ZeI 1 (dFn 1 Zq (Zb (Zd 3) Zm)) [.val p,.own acc,.own (L.map pD),.val (tD [a,b,c])]=some (.nx [.val p,.own (acc++[tD (YK [a,b,c])]),.own (L.map pD),.val (tD [a,b,c])]):=by
  have:(dFn 1 Zq (Zb (Zd 3) Zm)) [.val p,.own acc,.own (L.map pD),.val (tD [a,b,c])]=some (tD (YK [a,b,c])):=by
   simp -implicitDefEqProofs[lf']
  exact ZmO rfl this (by omega)
 have e3:ZmE 2 (Zg dIx (Zd 3) (Zi (.int 1))) [.val p,.own (acc++[tD (YK [a,b,c])]),.own (L.map pD),.val (tD [a,b,c])]=some (.nx [.val p,.own (acc++[tD (YK [a,b,c])]),.own ((L.erase b).map pD),.val (tD [a,b,c])]):=by
  have x1:(Zg dIx (Zd 3) (Zi (.int 1))) [.val p,.own (acc++[tD (YK [a,b,c])]),.own (L.map pD),.val (tD [a,b,c])]=some (pD b):=rfl;have h1:okD (.lst (L.map pD))=true:=(Zcv fun d hd=>by obtain⟨n,_,rfl⟩:=A8.mp hd;exact V4 n).1;have h2:okD (pD b)=true:=(V4 b).1;show((Zg dIx (Zd 3) (Zi (.int 1))) [.val p,.own (acc++[tD (YK [a,b,c])]),.own (L.map pD),.val (tD [a,b,c])]).bind (fun d=>if okD d=true/\okD (.lst (L.map pD))=true/\(L.map pD).length<=lim then(UI d (L.map pD)).map _ else none)=_;rw[x1,A5,if_pos ⟨h2,h1,by rw[A_];exact Z0 (by omega)⟩,Wd bm];show some (Out.nx _)=_;rw[ZbF b L bm];rfl
 show Zp _ (Zp _ _) [.val p,.own acc,.own (L.map pD),s3]=_;rw[Zz,e1];show Zp _ _ [.val p,.own acc,.own (L.map pD),.val (tD [a,b,c])]=_;rw[Zz,e2];exact e3
theorem ZgW{M:Int}(hM:0<M)(p:D):∀(f:Nat) (L:List Pt) (acc:List D) (s3:Sl) (m:Nat),Pg.Wy M L->All Sm L->L.length<=f+3->acc.length+L.length<=100->f<m ->
  ∃ init last t3,Pg.pieces f L=init++[last]/\last.length=3/\ZT cuT cuB m [.val p,.own acc,.own (L.map pD),s3]=some (.nx [.val p,.own (acc++init.map fun t=>tD (YK t)),.own (last.map pD),t3])
 | 0,L,acc,s3,m+1,h,hL,hl,ha,hm=>by
  have n3:=h.way.n3;refine⟨[],L,s3,rfl,by omega,?_⟩;unfold ZT;rw[ZcQ,decide_eq_false (by omega)];simp
 | f+1,L,acc,s3,m+1,h,hL,hl,ha,hm=>by
  have n3:=h.way.n3;by_cases c:L.length<=3
  ·refine⟨[],L,s3,by unfold Pg.pieces;rw[if_pos c];rfl,by omega,?_⟩;unfold ZT;rw[ZcQ,decide_eq_false (by omega)];simp
  ·obtain⟨t,tn,r1,r2,l,w⟩:=h.next hM (by omega);obtain⟨k1,_,_⟩:=Pg.fk_ok hM h;have bm:Pg.pB L (Pg.fk L)∈L:=Pg.lp_mem (Pg.pv_lt k1);have le:=List.length_erase_of_mem bm;obtain⟨init,last,t3,e1,e2,e3⟩:=ZgW hM p f (L.erase (Pg.pB L (Pg.fk L))) (acc++[tD (YK [Pg.pA L (Pg.fk L),Pg.pB L (Pg.fk L),Pg.lp L (Pg.fk L)])]) (.val (tD [Pg.pA L (Pg.fk L),Pg.pB L (Pg.fk L),Pg.lp L (Pg.fk L)])) m w (fun q hq=>hL q (List.mem_of_mem_erase hq)) (by omega) (by simp;omega) (by omega);refine⟨[Pg.pA L (Pg.fk L),Pg.pB L (Pg.fk L),Pg.lp L (Pg.fk L)]::init,last,t3,by unfold Pg.pieces;rw[if_neg c,e1];rfl,e2,?_⟩;unfold ZT;rw[ZcQ,decide_eq_true (by omega)];show(match cuB [.val p,.own acc,.own (L.map pD),s3]with | some (.nx ρ')=>ZT cuT cuB m ρ' | some (.ct ρ')=>ZT cuT cuB m ρ' | some (.bk ρ')=>some (.nx ρ') | r=>r)=_;rw[ZkD hM h (by omega) hL (by omega) p acc (by omega) s3];show ZT cuT cuB m _=_;rw[e3];simp
theorem Zkt{M:Int}(hM:0<M){ps:List Pt}(h:Pg.Wy M ps)(hs:All Sm ps)(hl:ps.length<=60):ZcN [tD ps]=(L4.dSortL (.lst ((Pg.pieces ps.length ps).map fun t=>tD (YK t)))).bind fun d=>YC [d]:=by
 obtain⟨init,last,t3,e1,e2,e3⟩:=ZgW hM (tD ps) ps.length ps [] .no 3000 h hs (by omega) (by simp;omega) (by omega);unfold ZcN ZA Zmt;show(Zp _ (Zp _ (Zp _ (Zp _ _))) [.val (tD ps),.no,.no,.no]).bind _=_;have x0:Up 1 Zm [.val (tD ps),.no,.no,.no]=some (.nx [.val (tD ps),.own [],.no,.no]):=by
  unfold Up;simp -implicitDefEqProofs
 rw[Zz,x0];show(Zp _ (Zp _ (Zp _ _)) [.val (tD ps),.own [],.no,.no]).bind _=_;have x1:ZaR 2 (Zd 0) [.val (tD ps),.own [],.no,.no]=some (.nx [.val (tD ps),.own [],.own (ps.map pD),.no]):=rfl;rw[Zz,x1];show(Zp (ZT cuT cuB 3000) (Zp _ _) [.val (tD ps),.own [],.own (ps.map pD),.no]).bind _=_;rw[Zz,e3];show(Zp _ _ [.val (tD ps),.own ([]++init.map fun t=>tD (YK t)),.own (last.map pD),t3]).bind _=_;have ne:last≠[]:=fun z=>by rw[z]at e2;simp at e2
 have lf:Zq [.lst (last.map pD)]=some (tD (YK last)):=ZeB ne (by omega);have ln:init.length<=100:=by
  have cu:=Pg.cutting hM ps.length ps h (by omega);have:=cu.len;rw[e1]at this;simp at this;omega
 have x2:ZeI 1 (ZbK 2 (dFn 1 Zq (Zb (Zd 2) Zm))) [.val (tD ps),.own ([]++init.map fun t=>tD (YK t)),.own (last.map pD),t3]=some (.nx [.val (tD ps),.own ((Pg.pieces ps.length ps).map fun t=>tD (YK t)),.own (last.map pD),t3]):=by
  have:ZbK 2 (dFn 1 Zq (Zb (Zd 2) Zm)) [.val (tD ps),.own ([]++init.map fun t=>tD (YK t)),.own (last.map pD),t3]=some (tD (YK last)):=by
   show((dFn 1 Zq (Zb (Zd 2) Zm)) [.val (tD ps),.own ([]++init.map fun t=>tD (YK t)),.val (.lst (last.map pD)),t3]).bind _=_;have:(dFn 1 Zq (Zb (Zd 2) Zm)) [.val (tD ps),.own ([]++init.map fun t=>tD (YK t)),.val (.lst (last.map pD)),t3]=some (tD (YK last)):=by
    simp -implicitDefEqProofs[lf]
   rw[this,A5];have nl:noL (tD (YK last))=true:=by
    show ZkV ((YK last).map pD)=true;generalize YK last=q
    induction q with
    | nil=>rfl
    | cons a q ih=>exact ih
   rw[if_pos nl]
  have a:=ZmO (i:=1) (ρ:=[.val (tD ps),.own ([]++init.map fun t=>tD (YK t)),.own (last.map pD),t3]) rfl this (by simp;omega);rw[a,e1];simp
 rw[Zz,x2];show(Zk1 1 (Yc _) [.val (tD ps),.own ((Pg.pieces ps.length ps).map fun t=>tD (YK t)),.own (last.map pD),t3]).bind _=_;show((Yc (ZI YC (Zb (Jz L4.dSortL (Zd 1)) Zm))) [.val (tD ps),.val (.lst ((Pg.pieces ps.length ps).map fun t=>tD (YK t))),.own (last.map pD),t3]).bind _=_;rw[W6,JB,Uq,ZbI];show((((L4.dSortL (.lst ((Pg.pieces ps.length ps).map fun t=>tD (YK t)))).bind fun x=>(Zm _).bind fun xs=>some (x::xs)).bind YC).map Out.rt).bind _=_;cases L4.dSortL (.lst ((Pg.pieces ps.length ps).map fun t=>tD (YK t))) with
 | none=>rfl
 | some d=>
  show((YC [d]).map Out.rt).bind _=YC [d];cases YC [d]<;>rfl
noncomputable def tn(p:Pt):Pt:=(-p.2,p.1)
def Rt(l m:List Pt):Prop:=l≠[]/\m.length=l.length/\∃ k:Int,∀ i,cyc m i=cyc l (i+k)
theorem Rt.ne{l m:List Pt}(h:Rt l m):m≠[]:=fun z=>by
 have:=h.2.1;rw[z]at this;exact h.1 (Bt this.symm)
theorem Zfx{l:List Pt}(hne:l≠[]):Rt l (YK l):=by
 have e:=B1 (Qm (YZ l) l) l;refine⟨hne,(VU l).length_eq,(l.take (Qm (YZ l) l)).length,fun i=>?_⟩;have:=Jb (l.take (Qm (YZ l) l)) (l.drop (Qm (YZ l) l)) (by rw[e];exact hne) i;rw[e]at this;exact this
theorem Zjc{l:List Pt}{x:Pt}(h:x∈l):∃ i:Int,x=cyc l i:=by
 obtain⟨i,hi,e⟩:=List.getElem_of_mem h;exact⟨i,by rw[ZO hi,e]⟩
theorem Rt.mem{l m:List Pt}(h:Rt l m){x:Pt}:x∈m ↔ x∈l:=by
 have hm:=h.ne;obtain⟨a,b,k,c⟩:=h;constructor
 ·intro q;obtain⟨i,rfl⟩:=Zjc q;rw[c];exact Y5 a _
 ·intro q;obtain⟨i,rfl⟩:=Zjc q;have:=c (i-k);rw[Int.sub_add_cancel]at this;rw[<-this];exact Y5 hm _
theorem ZcA{l m:List Pt}(hl:l≠[])(hm:m≠[])(h:∀ x,x∈m ↔ x∈l):YZ m=YZ l:=by
 by_cases e:YZ m=YZ l
 ·exact e
 ·have h1:=ZaD hl (YZ m) ((h _).mp (Y9 hm));have h2:=ZaD hm (YZ l) ((h _).mpr (Y9 hl));exact absurd (Zge h1 e) h2
theorem ZgS{l:List Pt}(hne:l≠[]):cyc (YK l) 0=YZ l:=by
 obtain⟨h1,h2⟩:=UZ (Y9 hne);have e:=B1 (Qm (YZ l) l) l;have:=Jb (l.take (Qm (YZ l) l)) (l.drop (Qm (YZ l) l)) (by rw[e];exact hne) 0;rw[e,C4,Nat.min_eq_left (by omega),Bh]at this;unfold YK;rw[this,ZO h1];rw[a_ h1]at h2;exact Option.some.inj h2
theorem Wh{l:List Pt}(hne:l≠[]):cyc (YK l) 0=YZ (YK l):=by
 rw[ZgS hne];exact(ZcA hne (Zfx hne).ne fun x=>(Zfx hne).mem).symm
end Pl
namespace Hu
open Pg (P2 turn lexlt)
def conv:List P2->Prop
 | c::b::a::r=>0<turn a b c/\conv (b::a::r)
 | _=>True
end Hu
namespace Pl
open PySem PySem.Spec PyProof.Rows L2 L3
set_option maxHeartbeats 4000000
def ZkX(x:Int):Bool:=decide (-100<=x)&&decide (x<=100)
def plB:D->Bool
 | .int x=>ZkX x
 | _=>false
def spB:D->Bool
 | .tup [a,b]=>plB a&&plB b
 | _=>false
theorem Zh1(d:D):Yw [d,.int (-100),.int 100]=some (.bl (plB d)):=by
 cases d with
 | int x=>
  have i1:ZeH .int (.int x)=some (.bl true):=rfl;have i2:ZeH .bool (.int x)=some (.bl false):=rfl;simp -implicitDefEqProofs[Yw,ZA,UH,plB,ZkX,i1,i2];by_cases h:-100<=x
  ·simp -implicitDefEqProofs[h]
  ·simp -implicitDefEqProofs[h]
 | _=>rfl
theorem WU(d:D):ZY [d]=some (.bl (spB d)):=by
 cases d with
 | tup ds=>
  match ds with
  | []=>rfl
  | [a]=>rfl
  | [a,b]=>
   have i1:ZeH .tuple (.tup [a,b])=some (.bl true):=rfl;simp -implicitDefEqProofs[ZY,ZA,QP,Zh1,spB,i1];cases plB a<;>simp -implicitDefEqProofs
  | a::b::c::t=>
   have i1:ZeH .tuple (.tup (a::b::c::t))=some (.bl true):=rfl;have n2:¬ ((t.length:Int)+1+1+1=2):=by omega
   simp -implicitDefEqProofs[ZY,ZA,QP,spB,i1,n2]
 | _=>rfl
theorem Zle{d:D}(h:spB d=true):∃ p:Pt,d=pD p/\Rg 100 p:=by
 unfold spB at h;split at h
 ·rename_i a b
  obtain⟨h1,h2⟩:=Ad.mp h;unfold plB at h1 h2;split at h1
  ·split at h2
   ·rename_i x _ y
    unfold ZkX at h1 h2;simp at h1 h2;exact⟨(x,y),rfl,h1,h2⟩
   ·cases h2
  ·cases h1
 ·cases h
theorem Zfj:∀{ds:List D},(∀ d∈ds,spB d=true)->∃ ps:List Pt,ds=ps.map pD/\All (Rg 100) ps
 | [],_=>⟨[],rfl,fun _ h=>by simp at h⟩
 | d::ds,h=>by
  obtain⟨p,rfl,hp⟩:=Zle (h d A6);obtain⟨ps,rfl,hps⟩:=Zfj fun x hx=>h x (A3 _ hx);exact⟨p::ps,rfl,fun q hq=>by
   rcases A4.mp hq with rfl | hq
   ·exact hp
   ·exact hps q hq⟩
theorem Zlf{p:Pt}(h:Rg 100 p):spB (pD p)=true:=by
 obtain⟨⟨a,b⟩,c,d⟩:=h;show(ZkX p.1&&ZkX p.2)=true;unfold ZkX;simp[a,b,c,d]
theorem Zls{p:Pt}(h:Rg 100 p):Sm p:=by
 obtain⟨⟨a,b⟩,c,d⟩:=h;exact⟨⟨by omega,by omega⟩,by omega,by omega⟩
theorem eqP(p q:Pt):Ze2 (pD p) (pD q)=some (.bl (decide (p=q))):=by
 show(if(okD (pD p)&&okD (pD q))=true then some (D.bl (deq (pD p) (pD q))) else none)=_;rw[(V4 p).1,(V4 q).1,if_pos (by decide),Wg]
def ZcD(n:Nat):Bool:=decide (3<=n)&&decide (n<=12)
def dp(d:D):Nat:=(YS d).depth
def Lay(n:Nat)(d:D):Prop:=(YS d).canLay0=true/\dp d<=n
theorem Zj6{n:Nat}{d:D}(h:Lay n d)(hn:n<=30):okD d=true:=by
 unfold okD;rw[h.1,Bool.true_and];have:=h.2;unfold dp at this;exact decide_eq_true (by omega)
theorem ZnC{n:Nat}:∀{ds:List D},(∀ e∈ds,Lay n e) ↔ (PyData.canLayAll0 (ZU ds)=true/\PyData.depthAll (ZU ds)<=n)
 | []=>by simp[ZU,PyData.depthAll,PyData.canLayAll0]
 | d::ds=>by
  have ih:=ZnC (n:=n) (ds:=ds);simp only[A4,forall_eq_or_imp,ZU,PyData.depthAll,PyData.canLayAll0,As,ih];unfold Lay dp;constructor
  ·rintro⟨⟨a,b⟩,c,e⟩;exact⟨⟨a,c⟩,by omega⟩
  ·rintro⟨⟨a,c⟩,e⟩;exact⟨⟨a,by omega⟩,c,by omega⟩
theorem lay_tup{n:Nat}{ds:List D}:Lay (n+1) (.tup ds) ↔ ∀ e∈ds,Lay n e:=by
 rw[ZnC];unfold Lay dp;simp only[YS,PyData.depth,PyData.canLay0];constructor
 ·rintro⟨a,b⟩;exact⟨a,by omega⟩
 ·rintro⟨a,b⟩;exact⟨a,by omega⟩
theorem lay_lst{n:Nat}{ds:List D}:Lay (n+1) (.lst ds) ↔ ∀ e∈ds,Lay n e:=by
 rw[ZnC];unfold Lay dp;simp only[YS,PyData.depth,PyData.canLay0];constructor
 ·rintro⟨a,b⟩;exact⟨a,by omega⟩
 ·rintro⟨a,b⟩;exact⟨a,by omega⟩
theorem Zl1{xs:List D}(h:Lay 30 (.lst xs)):Qi (.lst xs) (.lst [])=some (.bl (!xs.isEmpty)):=by
 show(if(okD (.lst xs)&&okD (.lst []))=true then some (D.bl (!deq (.lst xs) (.lst []))) else none)=_;rw[Zj6 h (A7 _),if_pos (by rfl)];cases xs with
 | nil=>rfl
 | cons x xs=>
  have:deq (.lst (x::xs)) (.lst [])=false:=by
   show PyData.eqv (.list (YS x::ZU xs)) (.list [])=false;simp[PyData.eqv,PyData.eqvAll]
  rw[this];rfl
def ZmW:D->Pt
 | .tup [.int x,.int y]=>(x,y)
 | _=>(0,0)
theorem ZhC(ps:List Pt):(ps.map pD).map ZmW=ps:=by
 rw[Bj];have:(ZmW ∘ pD)=id:=by funext p;rfl
 rw[this,List.map_id]
def Zco(ps:List Pt):Bool:=Qt ps&&decide (0<Qf ps)&&decide (cyc ps 0=YZ ps)
def Zi8:D->Bool
 | .tup ds=>ZcD ds.length&&ds.all spB&&Zco (ds.map ZmW)
 | _=>false
theorem lenOk_iff{n:Nat}:ZcD n=true ↔ 3<=n/\n<=12:=by unfold ZcD;simp
theorem ZkL{ds:List D}(h:ds.all spB=true):∃ ps:List Pt,ds=ps.map pD/\All (Rg 100) ps:=Zfj (aa.mp h)
theorem ZdJ{ps:List Pt}(h1:ZcD ps.length=true)(h2:All (Rg 100) ps):Zi8 (.tup (ps.map pD))=Zco ps:=by
 have:(ps.map pD).all spB=true:=aa.mpr fun d hd=>by obtain⟨p,hp,rfl⟩:=A8.mp hd;exact Zlf (h2 p hp)
 show(ZcD (ps.map pD).length&&(ps.map pD).all spB&&Zco ((ps.map pD).map ZmW))=_;rw[A_,h1,this,ZhC];rfl
theorem Zl6:∀(ds:List D) (s0:Sl),ZW (ZC 0) (Ji (Zo (dFn 1 ZY (Zb (Zd 0) Zm)))) (Zd 0) ds (s0::[])=some (ds.filter fun d=>!spB d)
 | [],_=>rfl
 | d::ds,s0=>by
  have ih:=Zl6 ds (.val d);cases h:spB d
  ·simp -implicitDefEqProofs[ZW,WU,h,ih]
  ·simp -implicitDefEqProofs[ZW,WU,h,ih]
theorem Zeu{d:D}(hdp:Lay 30 d):ZE [d]=some (.bl (Zi8 d)):=by
 cases d with
 | tup ds=>
  have i1:ZeH .tuple (.tup ds)=some (.bl true):=rfl;by_cases h1:ZcD ds.length=true
  ·obtain⟨h3,h12⟩:=lenOk_iff.mp h1;have h3':(3:Int)<=ds.length:=by omega
   have h12':(ds.length:Int)<=12:=by omega
   have cl:=Zl6 ds .no;have hl:ds.length<=lim:=Z0 (by omega);have nn:Qi (.lst (ds.filter fun d=>!spB d)) (.lst [])=some (.bl (!(ds.filter fun d=>!spB d).isEmpty)):=Zl1 (by
    have:Lay (29+1) (.tup ds):=hdp;exact lay_lst.mpr fun e he=>lay_tup.mp this e (List.mem_filter.mp he).1)
   cases h2:ds.all spB
   ·have:(ds.filter fun d=>!spB d).isEmpty=false:=by
     cases q:(ds.filter fun d=>!spB d).isEmpty with
     | false=>rfl
     | true=>
      rw[List.isEmpty_iff,List.filter_eq_nil_iff]at q;have:ds.all spB=true:=aa.mpr fun e he=>by simpa using q e he
      rw[this]at h2;cases h2
    rw[this]at nn;have z:Zi8 (.tup ds)=false:=by simp[Zi8,h2]
    rw[z];simp -implicitDefEqProofs[ZE,ZA,YA,i1,h3',h12',Qj,cl,hl,nn]
   ·have:(ds.filter fun d=>!spB d).isEmpty=true:=by
     rw[List.isEmpty_iff,List.filter_eq_nil_iff];intro e he;simpa using aa.mp h2 e he
    rw[this]at nn;obtain⟨ps,rfl,hr⟩:=ZkL h2;rw[A_]at h1 h3' h12' h3 h12 hl;rw[ZdJ h1 hr];have hps:All Sm ps:=fun p hp=>Zls (hr p hp);have hne:ps≠[]:=fun z=>by rw[z]at h3;simp at h3
    have gd:=ZdO (c:=.tup (ps.map pD)) (ps:=ps) rfl hne hps (by omega);have ar:=VA (c:=.tup (ps.map pD)) (ps:=ps) rfl hne hps;have i0:=ZcF (ps:=ps) (i:=0) (by omega) (by omega);have mn:=ZdE (ps:=ps) hne (c:=.tup (ps.map pD)) rfl;unfold Zco;simp -implicitDefEqProofs[ZE,ZA,YA,i1,h3',h12',Qj,cl,hl,nn,gd,ar,i0,mn,eqP];cases Qt ps
    ·simp -implicitDefEqProofs
    ·by_cases h0:0<Qf ps
     ·simp -implicitDefEqProofs[h0]
     ·simp -implicitDefEqProofs[h0]
  ·have z:ZcD ds.length=false:=by simpa using h1
   have z2:Zi8 (.tup ds)=false:=by simp[Zi8,z]
   rw[z2];have:¬ (3<=ds.length/\ds.length<=12):=fun q=>h1 (lenOk_iff.mpr q);by_cases h3:(3:Int)<=ds.length
   ·have h12:¬ (ds.length:Int)<=12:=by omega
    simp -implicitDefEqProofs[ZE,ZA,YA,i1,h3,h12]
   ·simp -implicitDefEqProofs[ZE,ZA,YA,i1,h3]
 | _=>rfl
theorem ZcB{ps:List Pt}{i:Nat}(h:i<ps.length):rp ps 0 i=Pg.lp ps i:=by
 unfold rp;rw[Int.add_zero];exact ZdV (B4 (by omega) (by omega))
theorem Zm8{ps:List Pt}(g:GoodC ps)(h0:cyc ps 0=YZ ps)(ha:0<Qf ps)(hr:∀ p∈ps,Rg 1000 p):Pg.Wy 2001 ps:=by
 have n3:=g.n3;have hne:ps≠[]:=fun z=>by rw[z]at n3;simp at n3
 have gd:=g.rp 0;have wy:Pg.Way ps.length (Pg.lp ps):=gd.way.congr fun i hi=>ZcB hi;have bd:∀ q∈ps,Pg.Bd 2001 q:=fun q hq=>by have:=hr q hq;unfold Rg at this;unfold Pg.Bd;omega
 have bd':∀ k,k<ps.length->Pg.Bd 2001 (Pg.lp ps k):=fun k hk=>bd _ (Pg.lp_mem hk);have e0:Pg.lp ps 0=YZ ps:=by
  rw[<-ZcB (show 0<ps.length by omega),<-h0];rfl
 have lx:∀ i,0<i->i<ps.length->Pg.lexlt (Pg.lp ps 0) (Pg.lp ps i):=fun i i0 hi=>by
  rw[e0];refine Zge (ZaD hne _ (Pg.lp_mem hi)) fun z=>?_;rw[<-e0]at z;have:=wy.inj _ _ hi (by omega) z;omega
 have trq:0<Pg.turn (Pg.lp ps (ps.length-1)) (Pg.lp ps 0) (Pg.lp ps 1):=by
  have:=(Pg.area_turn gd (fun i i0 hi=>by rw[ZcB hi,ZcB (show 0<ps.length by omega)];exact lx i i0 hi)).mp (by have:=Zhh (ps:=ps) 0;rw[show((0:Nat):Int)=0 from rfl]at this;rw[this];exact ha);rw[ZcB (show ps.length-1<ps.length by omega),ZcB (show 0<ps.length by omega),ZcB (show 1<ps.length by omega)]at this;exact this
 refine⟨bd,wy,?_⟩;rw[Pg.O_left (by omega) bd' wy (fun i i0 hi=>(Pg.X_lt (bd' 0 (by omega)) (bd' i hi)).mpr (lx i i0 hi)),if_pos trq]
theorem ZiZ(f:Pt×Pt->Int):∀(xs:List Pt),Ql f xs=((Pg.pathE xs).map f).sum
 | []=>rfl
 | [a]=>rfl
 | a::b::r=>by
  have ih:=ZiZ f (b::r);simp only[Ql,Pg.pathE,Au,Ck];rw[ih]
theorem Zd2(f:Pt×Pt->Int)(xs:List Pt):Z1 f xs=((Pg.cycE xs).map f).sum:=by
 cases xs with
 | nil=>rfl
 | cons a r=>exact ZiZ f _
theorem Zdj(ps:List Pt):∀(ys:List Pt) (k:Nat),ps.drop k=ys->Yh ps k ys=Pg.pathE (ys++[cyc ps 0])
 | [],k,_=>rfl
 | [a],k,h=>by
  have hk:k+1=ps.length:=by
   have:=congrArg List.length h;simp at this;omega
  have e:cyc ps ((k:Int)+1)=cyc ps 0:=by
   have:=Y6 ps 0;rw[Bh]at this;rw[<-this]
   congr 1
   omega
  simp[Yh,e,Pg.pathE]
 | a::b::r,k,h=>by
  have hk:k<ps.length:=by
   by_cases z:k<ps.length
   ·exact z
   ·rw[ah (by omega)]at h;cases h
  rw[Aq hk]at h;injection h with h1 h2;have hk1:k+1<ps.length:=by
   by_cases z:k+1<ps.length
   ·exact z
   ·rw[ah (by omega)]at h2;cases h2
  have h2':=h2;rw[Aq hk1]at h2';injection h2' with h3 _;have ih:=Zdj ps (b::r) (k+1) h2;have e1:cyc ps ((k:Int)+1)=b:=by
   have:=ZO hk1;rw[<-h3,<-this];rfl
  have ih':Yh ps ((k:Int)+1) (b::r)=Pg.pathE (b::r++[cyc ps 0]):=ih
  conv=>lhs;unfold Yh
  rw[e1,ih'];rfl
theorem Zeg{ps:List Pt}(hne:ps≠[]):Yh ps 0 ps=Pg.cycE ps:=by
 have:=Zdj ps ps 0 rfl;cases ps with
 | nil=>exact absurd rfl hne
 | cons a r=>
  have e:cyc (a::r) 0=a:=by
   have:=ZO (ps:=a::r) (k:=0) (by simp);simpa using this
  rw[e]at this;exact this
theorem ZiW(l:List Pt):Pg.Rl l (YK l):=⟨l.take (Qm (YZ l) l),l.drop (Qm (YZ l) l),(B1 _ _).symm,rfl⟩
theorem rl3{a b c:Pt}{l:List Pt}(h:Pg.Rl [a,b,c] l):l=[a,b,c]\/l=[b,c,a]\/l=[c,a,b]:=by
 obtain⟨xs,ys,e,rfl⟩:=h
 match xs,e with
 | [],e=>simp at e;subst e;exact .inl rfl
 | [x],e=>simp at e;obtain⟨rfl,rfl⟩:=e;exact .inr (.inl rfl)
 | [x,y],e=>simp at e;obtain⟨rfl,rfl,rfl⟩:=e;exact .inr (.inr rfl)
 | [x,y,z],e=>simp at e;obtain⟨rfl,rfl,rfl,rfl⟩:=e;exact .inl rfl
 | x::y::z::w::r,e=>simp at e
theorem ZkH{E E':List (Pt×Pt)}(p:E'.Perm E):(Pg.bdE E').Perm (Pg.bdE E):=by
 unfold Pg.bdE;have:(fun e=>!decide (Pg.sw e∈E'))=fun e=>!decide (Pg.sw e∈E):=funext fun e=>by rw[decide_eq_decide.mpr p.mem_iff]
 rw[this];exact p.filter _
theorem ZdX{L:List Pt}{ts fs:List (List Pt)}(C:Pg.Cutting L ts)(p:fs.Perm (ts.map YK)):Pg.Cutting L fs:=by
 have pe:(fs.flatMap Pg.cycE).Perm (ts.flatMap Pg.cycE):=by
  refine(p.flatMap_right _).trans ?_;clear p C
  induction ts with
  | nil=>exact .refl _
  | cons t ts ih=>
   simp only[Au,Cg];exact(Pg.cycE_rl (ZiW t)).symm.append ih
 refine⟨by rw[p.length_eq,A_];exact C.len,fun t ht=>?_,pe.nodup_iff.mpr C.nd,(ZkH pe).trans C.bd,fun F hF=>(Pg.sum_perm (pe.map F)).trans (C.ar F hF)⟩;obtain⟨t0,h0,rfl⟩:=A8.mp (p.mem_iff.mp ht);obtain⟨a,b,c,rfl,h1,h2,h3,h4⟩:=C.each t0 h0;rcases rl3 (ZiW [a,b,c]) with e | e | e<;>rw[e]
 ·exact⟨a,b,c,rfl,h1,h2,h3,h4⟩
 ·exact⟨b,c,a,rfl,by rw[Pg.turn_rot];exact h1,h3,h4,h2⟩
 ·exact⟨c,a,b,rfl,by rw[Pg.turn_rot,Pg.turn_rot];exact h1,h4,h2,h3⟩
theorem Zcr{L:List Pt}{ts:List (List Pt)}(C:Pg.Cutting L ts):ts.Nodup:=by
 have each:=C.each;have nd:=C.nd;clear C
 induction ts with
 | nil=>exact Ch
 | cons t ts ih=>
  rw[Cg,List.nodup_append]at nd;refine ae.mpr ⟨fun z=>?_,ih (fun s hs=>each s (A3 _ hs)) nd.2.1⟩;obtain⟨a,b,c,e,_⟩:=each t A6;have m:(a,b)∈Pg.cycE t:=by rw[e];show(a,b)∈[(a,b),(b,c),(c,a)];simp
  exact nd.2.2 (a,b) m (a,b) (List.mem_flatMap.mpr ⟨t,z,m⟩) rfl
theorem ZfQ{a b c:Pt}(h:0<Zw a b c)(hm:cyc [a,b,c] 0=YZ [a,b,c]):Zco [a,b,c]=true:=by
 obtain⟨h1,h2,h3⟩:=Pg.turn_ne (show 0<Pg.turn a b c from h);have tn:Je [a,b,c]=[Zw a b c,Zw b c a,Zw c a b]:=by simp[Je,List.range_succ,cyc]
 have e1:Zw b c a=Zw a b c:=Pg.turn_rot a b c;have e2:Zw c a b=Zw a b c:=(Pg.turn_rot b c a).trans e1;have bad:badAny [a,b,c]=false:=by simp[badAny,Zca,ZiG,List.range_succ]
 have ar:Qf [a,b,c]=Zw a b c:=by
  rw[Yt (by simp)];show ZF (a,b)+(ZF (b,c)+(ZF (c,a)+0))=_;unfold ZF Zw;grind
 unfold Zco Qt;rw[tn,bad,ar,e1,e2];have nd:[a,b,c].Nodup:=by simp;exact⟨⟨h1,h3⟩,h2⟩
 have nz:¬ 0∈[Zw a b c,Zw a b c,Zw a b c]:=by simp;omega
 simp[nd,nz,h,hm]
theorem Zn7{n:Nat}{ds:List D}(h:∀ d∈ds,okD d=true/\(YS d).depth<=n):PyData.canLayAll0 (ZU ds)=true/\PyData.depthAll (ZU ds)<=n:=by
 induction ds with
 | nil=>simp[ZU,PyData.canLayAll0,PyData.depthAll]
 | cons d ds ih=>
  obtain⟨h1,h2⟩:=h d A6;obtain⟨i1,i2⟩:=ih fun e he=>h e (A3 _ he);simp[ZU,PyData.canLayAll0,PyData.depthAll,okD.can h1,i1];omega
theorem ZlS(p:Pt):okD (pD p)=true/\(YS (pD p)).depth<=3:=by
 refine⟨rfl,?_⟩;simp[pD,YS,ZU,PyData.depth,PyData.depthAll]
theorem ZfW(t:List Pt):okD (tD t)=true/\(YS (tD t)).depth<=4:=by
 obtain⟨h1,h2⟩:=Zn7 (n:=3) (ds:=t.map pD) fun d hd=>by obtain⟨p,_,rfl⟩:=A8.mp hd;exact ZlS p
 simp[tD,okD,YS,PyData.canLay0,PyData.depth,h1];omega
theorem Zi0(ts:List (List Pt)):okD (.lst (ts.map tD))=true:=by
 obtain⟨h1,h2⟩:=Zn7 (n:=4) (ds:=ts.map tD) fun d hd=>by obtain⟨p,_,rfl⟩:=A8.mp hd;exact ZfW p
 simp[okD,YS,PyData.canLay0,PyData.depth,h1];omega
theorem ZgE:∀(t u:List Pt),PyData.eqvAll (ZU (t.map pD)) (ZU (u.map pD))=decide (t=u)
 | [],[]=>rfl
 | [],q::u=>by simp[ZU,PyData.eqvAll]
 | p::t,[]=>by simp[ZU,PyData.eqvAll]
 | p::t,q::u=>by
  have ih:=ZgE t u;have e:=Wg p q;simp only[Au,ZU,PyData.eqvAll];rw[show PyData.eqv (YS (pD p)) (YS (pD q))=deq (pD p) (pD q) from rfl,e,ih,Cc];simp
theorem ZgO(t u:List Pt):deq (tD t) (tD u)=decide (t=u):=by
 show PyData.eqv (.tuple (ZU (t.map pD))) (.tuple (ZU (u.map pD)))=_;simp only[PyData.eqv];exact ZgE t u
theorem ZgD:∀(ts:List (List Pt)),PyData.eqvAll (ZU (ts.map tD)) (ZU (ts.map tD))=true
 | []=>rfl
 | t::ts=>by
  have ih:=ZgD ts;have e:=ZgO t t;simp only[Au,ZU,PyData.eqvAll];rw[show PyData.eqv (YS (tD t)) (YS (tD t))=deq (tD t) (tD t) from rfl,e,ih];simp
theorem Zi1(ts:List (List Pt)):Qi (.lst (ts.map tD)) (.lst (ts.map tD))=some (.bl false):=by
 have:deq (.lst (ts.map tD)) (.lst (ts.map tD))=true:=by
  show PyData.eqv (.list (ZU (ts.map tD))) (.list (ZU (ts.map tD)))=true;simp only[PyData.eqv];exact ZgD ts
 unfold Qi;rw[Zi0,this];rfl
theorem Zf2(t:List Pt)(ts:List (List Pt)):Yy (tD t) (.lst (ts.map tD))=some (.bl (!decide (t∈ts))):=by
 show Option.map (fun b=>D.bl (!b)) (if(okD (tD t)&&okD (.lst (ts.map tD)))=true then some ((ts.map tD).any fun y=>deq y (tD t)) else none)=_;rw[(ZfW t).1,Zi0,if_pos (by decide)];have:((ts.map tD).any fun y=>deq y (tD t))=decide (t∈ts):=by
  rw[Cc,bf,decide_eq_true_eq];constructor
  ·rintro⟨x,hx,q⟩;obtain⟨u,hu,rfl⟩:=A8.mp hx;rw[ZgO]at q;have:=of_decide_eq_true q;subst this;exact hu
  ·intro h;exact⟨tD t,A8.mpr ⟨t,h,rfl⟩,by rw[ZgO];simp⟩
 rw[this];rfl
theorem Zf1(p:Pt)(ps:List Pt)(h:p∈ps):Yy (pD p) (tD ps)=some (.bl false):=by
 show Option.map (fun b=>D.bl (!b)) (if(okD (pD p)&&okD (tD ps))=true then some ((ps.map pD).any fun y=>deq y (pD p)) else none)=_;rw[(ZlS p).1,(ZfW ps).1,if_pos (by decide)];have:((ps.map pD).any fun y=>deq y (pD p))=true:=bf.mpr ⟨pD p,A8.mpr ⟨p,h,rfl⟩,by rw[Wg];simp⟩;rw[this];rfl
noncomputable def k2(p:Pt):List Int:=[p.1,p.2]
noncomputable def UC(t:List Pt):L4.K2:=t.map k2
theorem Zi6(t:List Pt):L4.kD (UC t)=tD t:=by
 unfold L4.kD UC tD;rw[Bj];rfl
theorem Zi5:∀(t:List Pt),L3.keysOf (t.map pD)=some (UC t)
 | []=>rfl
 | p::t=>by
  have ih:=Zi5 t;show(Q6 [.int p.1,.int p.2]).bind (fun k=>(L3.keysOf (t.map pD)).map (k::·))=_;rw[ih];rfl
theorem ZdH:∀(ts:List (List Pt)),L4.keysOf (ts.map tD)=some (ts.map UC)
 | []=>rfl
 | t::ts=>by
  have ih:=ZdH ts;show(L3.keysOf (t.map pD)).bind (fun k=>(L4.keysOf (ts.map tD)).map (k::·))=_;rw[ih,Zi5];rfl
def unk(k:L4.K2):List Pt:=k.map fun x=>(x.getD 0 0,x.getD 1 0)
theorem VE(t:List Pt):unk (UC t)=t:=by
 unfold unk UC;rw[Bj];exact List.map_id' t
theorem Zkf{t u:List Pt}(h:UC t=UC u):t=u:=by rw[<-VE t,h,VE]
theorem Zll{m:Nat}{ts:List (List Pt)}(h:∀ t∈ts,t.length=m+1):L4.shB (ts.map UC)=true:=by
 cases ts with
 | nil=>rfl
 | cons t ts=>
  have ht:=h t A6;show(decide (0<(UC t).length)&&((t::ts).map UC).all fun x=>decide (x.length=(UC t).length)&&x.all fun y=>decide (y.length=2))=true;rw[As];refine⟨decide_eq_true (by unfold UC;rw[A_];omega),aa.mpr fun x hx=>?_⟩;obtain⟨u,hu,rfl⟩:=A8.mp hx;rw[As];refine⟨decide_eq_true (by unfold UC;rw[A_,A_,ht,h u hu]),aa.mpr fun y hy=>?_⟩;obtain⟨p,_,rfl⟩:=A8.mp hy;rfl
theorem Zlk{m:Nat}{ts:List (List Pt)}(h:∀ t∈ts,t.length=m+1):∀ k∈ts.map UC,L4.Sh m k:=fun k hk=>by
 obtain⟨t,ht,rfl⟩:=A8.mp hk;refine⟨by unfold UC;rw[A_];exact h t ht,fun x hx=>?_⟩;obtain⟨p,_,rfl⟩:=A8.mp hx;rfl
def Wo(ts:List (List Pt)):List (List Pt):=(L4.srtK (ts.map UC)).map unk
theorem Zak(ts:List (List Pt)):(Wo ts).map UC=L4.srtK (ts.map UC):=by
 unfold Wo;rw[Bj]
 conv=>rhs;rw[<-List.map_id' (L4.srtK (ts.map UC))]
 refine Bb fun k hk=>?_;obtain⟨t,_,rfl⟩:=A8.mp (L4.srtK_mem.mp hk);show UC (unk (UC t))=UC t;rw[VE]
theorem srtT_mem{ts:List (List Pt)}{t:List Pt}:t∈Wo ts ↔ t∈ts:=by
 unfold Wo;rw[A8];constructor
 ·rintro⟨k,hk,rfl⟩;obtain⟨u,hu,rfl⟩:=A8.mp (L4.srtK_mem.mp hk);rw[VE];exact hu
 ·intro h;exact⟨UC t,L4.srtK_mem.mpr (A8.mpr ⟨t,h,rfl⟩),VE t⟩
theorem WK{m:Nat}{ts:List (List Pt)}(h:∀ t∈ts,t.length=m+1):(Wo ts).Nodup:=by
 have r:=L4.ris_nodup (L4.srtK_ris (Zlk h));rw[<-Zak,List.Nodup,Bp]at r;exact r.imp fun {a b} z e=>z (by rw[e])
theorem Zfi{m:Nat}{ts:List (List Pt)}(nd:ts.Nodup)(h:∀ t∈ts,t.length=m+1):(Wo ts).Perm ts:=
 (List.perm_ext_iff_of_nodup (WK h) nd).mpr fun t=>srtT_mem
theorem Zbx{ts:List (List Pt)}(nd:ts.Nodup):(ts.map UC).Nodup:=by
 rw[List.Nodup,Bp];exact nd.imp fun {a b} z e=>z (Zkf e)
theorem Zcg{m:Nat}{ts:List (List Pt)}(nd:ts.Nodup)(h:∀ t∈ts,t.length=m+1)(hl:ts.length<=60):L4.dSortL (.lst (ts.map tD))=some (.lst ((Wo ts).map tD)):=by
 show(L4.keysOf (ts.map tD)).bind (fun ks=>if ks.length<=60/\L4.shB ks=true/\ks.Nodup then some (D.lst ((L4.srtK ks).map L4.kD)) else none)=_;rw[ZdH,A5,if_pos ⟨by rw[A_];exact hl,Zll h,Zbx nd⟩,<-Zak,Bj]
 congr 2
 exact Bb fun t _=>Zi6 t
theorem ZhF{m:Nat}{ts us:List (List Pt)}(h:∀ t∈ts,t.length=m+1)(p:ts.Perm us):Wo ts=Wo us:=by
 unfold Wo;rw[L4.ris_eq (L4.srtK_ris (Zlk h)) (L4.srtK_ris (Zlk (m:=m) fun t ht=>h t (p.mem_iff.mpr ht))) fun x=>by rw[L4.srtK_mem,L4.srtK_mem,(p.map UC).mem_iff]]
theorem Zjz{m:Nat}{ts:List (List Pt)}(h:∀ t∈ts,t.length=m+1)(hl:ts.length<=60):L4.dSortSet (.tup ((Wo ts).map tD))=some (.lst ((Wo ts).map tD)):=by
 have h':∀ t∈Wo ts,t.length=m+1:=fun t ht=>h t (srtT_mem.mp ht);have ll:(Wo ts).length<=60:=by
  have:=L3.nodup_le (WK h) (m:=ts) fun x hx=>srtT_mem.mp hx;omega
 show(L4.keysOf ((Wo ts).map tD)).bind (fun ks=>if ks.length<=60/\L4.shB ks=true then some (D.lst ((L4.srtK ks).map L4.kD)) else none)=_;rw[ZdH,A5,if_pos ⟨by rw[A_];exact ll,Zll h'⟩];have e:L4.srtK ((Wo ts).map UC)=(Wo ts).map UC:=by
  refine L4.ris_eq (L4.srtK_ris (Zlk h')) ?_ fun x=>L4.srtK_mem;rw[Zak];exact L4.srtK_ris (Zlk h)
 rw[e,Bj]
 congr 2
 exact Bb fun t _=>Zi6 t
theorem Zl8{ts:List (List Pt)}(nd:ts.Nodup)(hl:ts.length<=70):L4.dLenSet (.lst (ts.map tD))=some (.int ts.length):=by
 show(L4.keysOf (ts.map tD)).bind (fun ks=>if ks.length<=70 then some (D.int (L4.nubI ks).length) else none)=_;rw[ZdH,A5,if_pos (by rw[A_];exact hl)];have:=L4.nodup_len (L4.nodup_nubI (ts.map UC)) (Zbx nd) fun x=>L4.mem_nubI;rw[this,A_]
abbrev paT:DT:=(Vv (Ji (Zo (dFn 1 ZE (Zb (Zd 4) Zm)))) (Vv (Zo (Zg Qi (ZI Q9 (Zb (Zd 4) Zm)) (Zi (.int 3)))) (Zo (Zg Qi (Ys [none,some 1] (YO (Zd 4)) (ZC 0) (Zo (Zg Yy (Zd 0) (Zd 1))) (Zd 0)) (Za4 Zm)))))
abbrev paS:DE:=(Ys [none,some 4] (Ww (Zi (.int 3))) (ZC 0) ZH (QD (Zb (Zg dIx (Zd 1) (Zd 0)) (Zb (dFn 3 Zk (Zb (Zd 1) (Zb (Zd 0) (Zb (Zi (.int 1)) Zm)))) Zm))))
abbrev paB:DS:=(Zp (QC paT (Yc (Zi (.bl false))) ZV) (Z9 3 (Zg Yn (Zd 3) paS)))
def pr(e:Pt×Pt):List Pt:=[e.1,e.2]
theorem ZjI(E:List (Pt×Pt)):E.map sD=(E.map pr).map tD:=by rw[Bj];rfl
theorem Zmd(t:List Pt):Lay 30 (tD t):=⟨okD.can (ZfW t).1,Ax (ZfW t).2 (by omega)⟩
theorem Zf3{ps:List Pt}:∀(ys:List Pt) (s0:Sl),(∀ p∈ys,p∈ps)->ZW (ZC 0) (Zo (Zg Yy (Zd 0) (Zd 1))) (Zd 0) (ys.map pD) [s0,.val (tD ps)]=some []
 | [],s0,_=>rfl
 | y::ys,s0,h=>by
  have ih:=Zf3 (ps:=ps) ys (.val (pD y)) fun p hp=>h p (A3 _ hp);have hy:=Zf1 y ps (h y A6);simp -implicitDefEqProofs[ZW,hy,ih]
structure Zb2(ps:List Pt)(t:List Pt):Prop where
 pl:Zco t=true
 tri:∃ a b c,t=[a,b,c]/\a∈ps/\b∈ps/\c∈ps
theorem ZfP{ps:List Pt}(hr:All (Rg 100) ps){t:List Pt}(h:Zb2 ps t)(S F:Sl)(acc:List (Pt×Pt))(ha:acc.length<=500):
  paB [S,.val (tD ps),F,.val (.lst (acc.map sD)),.val (tD t),.no]=some (.nx [S,.val (tD ps),F,.val (.lst ((acc++Pg.cycE t).map sD)),.val (tD t),.no]):=by
 obtain⟨hp,a,b,c,rfl,h1,h2,h3⟩:=h;have hm:∀ p∈[a,b,c],p∈ps:=fun p hp=>by
  rcases A4.mp hp with rfl | hp
  ·exact h1
  ·rcases A4.mp hp with rfl | hp
   ·exact h2
   ·rw[A0]at hp;subst hp;exact h3
 have ip:ZE [tD [a,b,c]]=some (.bl true):=by
  rw[Zeu (Zmd _)];have:=ZdJ (ps:=[a,b,c]) rfl fun p hp=>hr p (hm p hp);rw[show Zi8 (tD [a,b,c])=Zi8 (.tup ([a,b,c].map pD)) from rfl,this,hp]
 have nc:=Zf3 (ps:=ps) [a,b,c] .no hm;have cm:(Ys [none,some 1] (YO (Zd 4)) (ZC 0) (Zo (Zg Yy (Zd 0) (Zd 1))) (Zd 0)) [S,.val (tD ps),F,.val (.lst (acc.map sD)),.val (tD [a,b,c]),.no]=some (.lst []):=by
  have e1:YO (Zd 4) [S,.val (tD ps),F,.val (.lst (acc.map sD)),.val (tD [a,b,c]),.no]=some ([a,b,c].map pD):=rfl;have e2:Qj [none,some 1] [S,.val (tD ps),F,.val (.lst (acc.map sD)),.val (tD [a,b,c]),.no]=[.no,.val (tD ps)]:=rfl;rw[Ja,e1,A5,if_pos (Z0 (by simp)),e2,nc];rfl
 have ln:Q9 [tD [a,b,c]]=some (.int 3):=rfl;have et:paT [S,.val (tD ps),F,.val (.lst (acc.map sD)),.val (tD [a,b,c]),.no]=some false:=by
  have nn:Qi (.lst []) (.lst [])=some (.bl false):=rfl;have l0:(Za4 Zm) [S,.val (tD ps),F,.val (.lst (acc.map sD)),.val (tD [a,b,c]),.no]=some (.lst []):=by
   simp -implicitDefEqProofs
  have q1:(Zo (dFn 1 ZE (Zb (Zd 4) Zm))) [S,.val (tD ps),F,.val (.lst (acc.map sD)),.val (tD [a,b,c]),.no]=some true:=by
   simp -implicitDefEqProofs[ip]
  have q2:(Zo (Zg Qi (ZI Q9 (Zb (Zd 4) Zm)) (Zi (.int 3)))) [S,.val (tD ps),F,.val (.lst (acc.map sD)),.val (tD [a,b,c]),.no]=some false:=by
   simp -implicitDefEqProofs[ln]
  have q3:(Zo (Zg Qi (Ys [none,some 1] (YO (Zd 4)) (ZC 0) (Zo (Zg Yy (Zd 0) (Zd 1))) (Zd 0)) (Za4 Zm))) [S,.val (tD ps),F,.val (.lst (acc.map sD)),.val (tD [a,b,c]),.no]=some false:=by
   rw[Uo,Qg,cm,A5,l0,A5,nn];rfl
  rw[paT,Zdf,Zfe,q1,A5,A5];show(Vv _ _) _=_;rw[Zdf,q2,A5];exact q3
 have sd:paS [S,.val (tD ps),F,.val (.lst (acc.map sD)),.val (tD [a,b,c]),.no]=some (.lst ((Pg.cycE [a,b,c]).map sD)):=by
  have e1:Ww (Zi (.int 3)) [S,.val (tD ps),F,.val (.lst (acc.map sD)),.val (tD [a,b,c]),.no]=some [.int 0,.int 1,.int 2]:=rfl;have e2:Qj [none,some 4] [S,.val (tD ps),F,.val (.lst (acc.map sD)),.val (tD [a,b,c]),.no]=[.no,.val (tD [a,b,c])]:=rfl;have n0:Zk [tD [a,b,c],.int 0,.int 1]=some (pD b):=Qa (c:=tD [a,b,c]) (ps:=[a,b,c]) rfl (by simp) 0 1;have n1:Zk [tD [a,b,c],.int 1,.int 1]=some (pD c):=Qa (c:=tD [a,b,c]) (ps:=[a,b,c]) rfl (by simp) 1 1;have n2:Zk [tD [a,b,c],.int 2,.int 1]=some (pD a):=by
   have:=Qa (c:=tD [a,b,c]) (ps:=[a,b,c]) rfl (by simp) 2 1;rw[this];simp[cyc]
  have i0:dIx (tD [a,b,c]) (.int 0)=some (pD a):=rfl;have i1:dIx (tD [a,b,c]) (.int 1)=some (pD b):=rfl;have i2:dIx (tD [a,b,c]) (.int 2)=some (pD c):=rfl;rw[paS,Ja,e1,A5,if_pos (Z0 (by simp)),e2];have:ZW (ZC 0) ZH (QD (Zb (Zg dIx (Zd 1) (Zd 0)) (Zb (dFn 3 Zk (Zb (Zd 1) (Zb (Zd 0) (Zb (Zi (.int 1)) Zm)))) Zm))) [.int 0,.int 1,.int 2] [.no,.val (tD [a,b,c])]=some ([(a,b),(b,c),(c,a)].map sD):=by
   simp -implicitDefEqProofs[ZW,n0,n1,n2,i0,i1,i2,sD]
  rw[this];rfl
 have ad:Yn (.lst (acc.map sD)) (.lst ((Pg.cycE [a,b,c]).map sD))=some (.lst ((acc++Pg.cycE [a,b,c]).map sD)):=by
  have l3:((Pg.cycE [a,b,c]).map sD).length=3:=rfl;show(if(acc.map sD).length+((Pg.cycE [a,b,c]).map sD).length<=lim then _ else _)=_;rw[if_pos (Z0 (by rw[l3,A_];omega)),bi]
 show Zp _ _ [S,.val (tD ps),F,.val (.lst (acc.map sD)),.val (tD [a,b,c]),.no]=_;have e0:QC paT (Yc (Zi (.bl false))) ZV [S,.val (tD ps),F,.val (.lst (acc.map sD)),.val (tD [a,b,c]),.no]=some (.nx [S,.val (tD ps),F,.val (.lst (acc.map sD)),.val (tD [a,b,c]),.no]):=by
  rw[ZbL,et];rfl
 rw[Zz,e0];show Z9 3 _ [S,.val (tD ps),F,.val (.lst (acc.map sD)),.val (tD [a,b,c]),.no]=_;have v3:Zd 3 [S,.val (tD ps),F,.val (.lst (acc.map sD)),.val (tD [a,b,c]),.no]=some (.lst (acc.map sD)):=rfl;rw[W5,Qg,v3,A5,sd,A5,ad];rfl
theorem Zbj{ps:List Pt}(hr:All (Rg 100) ps)(S F:Sl):∀(ys:List (List Pt)) (acc:List (Pt×Pt)) (s4:Sl),(∀ t∈ys,Zb2 ps t)->acc.length+3*ys.length<=500->∃ t4,
  U1 (ZC 4) paB (ys.map tD) [S,.val (tD ps),F,.val (.lst (acc.map sD)),s4,.no]=some (.nx [S,.val (tD ps),F,.val (.lst ((acc++ys.flatMap Pg.cycE).map sD)),t4,.no])
 | [],acc,s4,_,_=>⟨s4,by simp[U1]⟩
 | t::ys,acc,s4,h,hl=>by
  have ht:=h t A6;have l3:(Pg.cycE t).length=3:=by obtain⟨_,a,b,c,rfl,_⟩:=ht;rfl
  obtain⟨t4,ih⟩:=Zbj hr S F ys (acc++Pg.cycE t) (.val (tD t)) (fun u hu=>h u (A3 _ hu)) (by simp at hl ⊢;omega);refine⟨t4,?_⟩;have st:=ZfP hr ht S F acc (by simp at hl;omega);show((ZC 4 (tD t) [S,.val (tD ps),F,.val (.lst (acc.map sD)),s4,.no]).bind fun ρ1=>match paB ρ1 with | some (.nx ρ2)=>U1 (ZC 4) paB (ys.map tD) ρ2 | some (.ct ρ2)=>U1 (ZC 4) paB (ys.map tD) ρ2 | some (.bk ρ2)=>some (.nx ρ2) | r=>r)=_;have bn:ZC 4 (tD t) [S,.val (tD ps),F,.val (.lst (acc.map sD)),s4,.no]=some [S,.val (tD ps),F,.val (.lst (acc.map sD)),.val (tD t),.no]:=rfl;rw[bn,A5,st];show U1 (ZC 4) paB (ys.map tD) _=_;rw[ih,Cg,Bz]
abbrev leT:DT:=(Zo (Zg Yy (QD (Zb (Zg dIx (Zd 0) (Zi (.int 1))) (Zb (Zg dIx (Zd 0) (Zi (.int 0))) Zm))) (Zd 1)))
theorem Zgh(E:List (Pt×Pt)):∀(ys:List (Pt×Pt)) (s0:Sl),ZW (ZC 0) leT (Zd 0) (ys.map sD) [s0,.val (.lst (E.map sD))]=some ((ys.filter fun e=>!decide (Pg.sw e∈E)).map sD)
 | [],s0=>rfl
 | y::ys,s0=>by
  have ih:=Zgh E ys (.val (sD y));have ni:Yy (sD (y.2,y.1)) (.lst (E.map sD))=some (.bl (!decide (Pg.sw y∈E))):=by
   rw[ZjI];have:=Zf2 (pr (y.2,y.1)) (E.map pr);rw[show sD (y.2,y.1)=tD (pr (y.2,y.1)) from rfl,this]
   congr 3
   rw[decide_eq_decide,A8];constructor
   ·rintro⟨e,he,h⟩;have:e=Pg.sw y:=by
     unfold pr at h;injection h with h1 h2;injection h2 with h2 _;exact Bw h1 h2
    rw[<-this];exact he
   ·exact fun h=>⟨_,h,rfl⟩
  have x1:dIx (sD y) (.int 1)=some (pD y.2):=rfl;have x0:dIx (sD y) (.int 0)=some (pD y.1):=rfl;have te:leT [.val (sD y),.val (.lst (E.map sD))]=some (!decide (Pg.sw y∈E)):=by
   have tu:(QD (Zb (Zg dIx (Zd 0) (Zi (.int 1))) (Zb (Zg dIx (Zd 0) (Zi (.int 0))) Zm))) [.val (sD y),.val (.lst (E.map sD))]=some (sD (y.2,y.1)):=by
    simp -implicitDefEqProofs[x1,x0,sD]
   have v1:Zd 1 [.val (sD y),.val (.lst (E.map sD))]=some (.lst (E.map sD)):=rfl;rw[leT,Uo,Qg,tu,A5,v1,A5,ni];rfl
  simp only[Au,ZW,Zhb,Ca,A5,te];rw[List.filter_cons];cases c:(!decide (Pg.sw y∈E))
  ·simp only[Af,if_false];exact ih
  ·simp only[if_true];have v0:Zd 0 [.val (sD y),.val (.lst (E.map sD))]=some (sD y):=rfl;rw[v0];simp only[A5,ih];rfl
theorem ZfJ{ps:List Pt}(hne:ps≠[]):∀(ys:List Pt) (k:Nat) (s0 s1:Sl),ZW (Y7 0 1) ZH (QD (Zb (Zd 1) (Zb (dFn 3 Zk (Zb (Zd 2) (Zb (Zd 0) (Zb (Zi (.int 1)) Zm)))) Zm))) (YI k (ys.map pD)) [s0,s1,.val (tD ps)]=some ((Yh ps k ys).map sD)
 | [],k,s0,s1=>rfl
 | y::ys,k,s0,s1=>by
  have ih:=ZfJ hne ys (k+1) (.val (.int k)) (.val (pD y));have nx:=Qa (c:=tD ps) (ps:=ps) rfl hne k 1;have ih':ZW (Y7 0 1) ZH (QD (Zb (Zd 1) (Zb (dFn 3 Zk (Zb (Zd 2) (Zb (Zd 0) (Zb (Zi (.int 1)) Zm)))) Zm))) (YI (k+1) (ys.map pD)) [.val (.int k),.val (pD y),.val (tD ps)]=some ((Yh ps ((k:Int)+1) ys).map sD):=ih;unfold Yh;simp -implicitDefEqProofs[YI,ZW,nx,ih',sD]
theorem Zhi:∀(ys:List (List Pt)) (s0:Sl),(∀ t∈ys,t≠[]/\All Sm t)->ZW (ZC 0) ZH (dFn 1 ZN (Zb (Zd 0) Zm)) (ys.map tD) [s0]=some ((ys.map Qf).map .int)
 | [],s0,_=>rfl
 | t::ys,s0,h=>by
  have ih:=Zhi ys (.val (tD t)) fun u hu=>h u (A3 _ hu);obtain⟨h1,h2⟩:=h t A6;have ar:=VA (c:=tD t) (ps:=t) rfl h1 h2;simp -implicitDefEqProofs[ZW,ar,ih]
end Pl
namespace Pl.k30
open PySem PySem.Spec PyProof.Rows L2 L3 Pl
def Zms:DS:=(Zp (Z9 1 (dFn 2 YH (Zb (dFn 2 ZR (Zb (Zd 0) (Zb (Zi (.int 0)) Zm))) (Zb (Zg dIx (QD (Zb (Zi (.int 4)) (Zb (Zi (.int 9)) (Zb (Zi (.int 100)) Zm)))) (Zg Q1 (dFn 2 ZR (Zb (Zd 0) (Zb (Zi (.int 1)) Zm))) (Zi (.int 3)))) Zm))))
 (Zp (Z9 2 (dFn 1 ZcN (Zb (Zd 1) Zm)))
 (Zp (QC (Vv (Ji (Zo (Jz (ZeH .tuple) (Zd 2)))) (Vv (Zo (Zg Qi (ZI Q9 (Zb (Zd 2) Zm)) (Zg Qy (ZI Q9 (Zb (Zd 1) Zm)) (Zi (.int 2))))) (Zo (Zg Qi (ZI JA (Zb (Zd 2) Zm)) (Jz L4.dSortSet (Zd 2)))))) (Yc (Zi (.bl false))) ZV)
 (Zp (Z9 3 (Za4 Zm))
 (Zp (W8 (YO (Zd 2)) (ZC 4) (Zp (QC (Vv (Ji (Zo (dFn 1 ZE (Zb (Zd 4) Zm)))) (Vv (Zo (Zg Qi (ZI Q9 (Zb (Zd 4) Zm)) (Zi (.int 3)))) (Zo (Zg Qi (Ys [none,some 1] (YO (Zd 4)) (ZC 0) (Zo (Zg Yy (Zd 0) (Zd 1))) (Zd 0)) (Za4 Zm))))) (Yc (Zi (.bl false))) ZV)
 (Z9 3 (Zg Yn (Zd 3) (Ys [none,some 4] (Ww (Zi (.int 3))) (ZC 0) ZH (QD (Zb (Zg dIx (Zd 1) (Zd 0)) (Zb (dFn 3 Zk (Zb (Zd 1) (Zb (Zd 0) (Zb (Zi (.int 1)) Zm)))) Zm))))))))
 (Zp (QC (Zo (Zg Qi (Jz L4.dLenSet (Zd 3)) (ZI Q9 (Zb (Zd 3) Zm)))) (Yc (Zi (.bl false))) ZV)
 (Zp (Z9 5 (Ys [none,some 3] (YO (Zd 3)) (ZC 0) (Zo (Zg Yy (QD (Zb (Zg dIx (Zd 0) (Zi (.int 1))) (Zb (Zg dIx (Zd 0) (Zi (.int 0))) Zm))) (Zd 1))) (Zd 0)))
 (Zp (QC (Zo (Zg Qi (Jz L4.dSortL (Zd 5)) (Jz L4.dSortL (Ys [none,none,some 1] (QG (Zd 1)) (Y7 0 1) ZH (QD (Zb (Zd 1) (Zb (dFn 3 Zk (Zb (Zd 2) (Zb (Zd 0) (Zb (Zi (.int 1)) Zm)))) Zm))))))) (Yc (Zi (.bl false))) ZV)
 (Yc (Zg Ze2 (ZI ZkZ (Zb (Ys [none] (YO (Zd 2)) (ZC 0) ZH (dFn 1 ZN (Zb (Zd 0) Zm))) Zm)) (dFn 1 ZN (Zb (Zd 1) Zm))))))))))))
def ZeC:List D->Option D:=ZA 6 Zms
noncomputable def top(i:Nat):Stmt:=PySem.Challenge.pw_plotstead_k30_whole_cut.main.body.getD i (.Pass ⟨0,0,0,0⟩)
section
variable{P:Program}{w:World}{K:Frag}{mg:Str->Option Value}{base:Heap}
abbrev Zfw:Stmt:=top 1
abbrev ZmS:List Str:=["a","b","c"]
theorem ZjE:Zx ZmS ["a","b","c"] (Zf Zfw):=⟨rfl,rfl,rfl,by decide +kernel,rfl,by decide +kernel,by decide +kernel⟩
abbrev Zhw(P:Program)(w:World)(K:Frag)(mg:Str->Option Value)(base:Heap):=YB P w K mg base "turn" 1 ["a","b","c"] W2
theorem Zj4(B:Blt mg):OkD P w K mg base "turn" Zfw 1 ["a","b","c"] W2:=fun F=>Uj F ZjE rfl rfl fun cdv A outer s H E hr=>by
 refine⟨_,?_,(Zn (Zy (Zl QW (Zl YU (Zl QW (ZB Yx (Za (pv 1)) Ze (fun _ _=>rfl)) (ZB Yx (Za (pv 0)) Ze (fun _ _=>rfl))) (Zl QW (ZB Yx (Za (pv 2)) Ze (fun _ _=>rfl)) (ZB Yx (Za (pv 0)) Ze (fun _ _=>rfl)))) (Zl YU (Zl QW (ZB Yx (Za (pv 1)) Ze (fun _ _=>rfl)) (ZB Yx (Za (pv 0)) Ze (fun _ _=>rfl))) (Zl QW (ZB Yx (Za (pv 2)) Ze (fun _ _=>rfl)) (ZB Yx (Za (pv 0)) Ze (fun _ _=>rfl)))))))⟩;rfl
abbrev Jm:Stmt:=top 2
abbrev Zb4:List Str:=["a","b","c"]
theorem Zan:Zx Zb4 ["a","b","c"] (Zf Jm):=⟨rfl,rfl,rfl,by decide +kernel,rfl,by decide +kernel,by decide +kernel⟩
abbrev JE(P:Program)(w:World)(K:Frag)(mg:Str->Option Value)(base:Heap):=YB P w K mg base "turns_left" 2 ["a","b","c"] Yb
theorem Zau(B:Blt mg)(d_turn:Zhw P w K mg base):OkD P w K mg base "turns_left" Jm 2 ["a","b","c"] Yb:=fun F=>Uj F Zan rfl rfl fun cdv A outer s H E hr=>by
 refine⟨_,?_,(Zn (Zy (ZbH ZmY (Zt d_turn hr (by decide) rfl (Zc (Za (pv 0)) (Zc (Za (pv 1)) (Zc (Za (pv 2)) Zh)))) Ze (Z4 _))))⟩;rfl
abbrev QJ:Stmt:=top 3
abbrev WA:List Str:=["one","other","number"]
theorem VJ:Zx WA ["one","other","number"] (Zf QJ):=⟨rfl,rfl,rfl,by decide +kernel,rfl,by decide +kernel,by decide +kernel⟩
abbrev J4(P:Program)(w:World)(K:Frag)(mg:Str->Option Value)(base:Heap):=YB P w K mg base "lies_between" 1 ["one","other","number"] Yl
theorem VZ(B:Blt mg):OkD P w K mg base "lies_between" QJ 1 ["one","other","number"] Yl:=fun F=>Uj F VJ rfl rfl fun cdv A outer s H E hr=>by
 refine⟨_,?_,(Zn (Zy (UM ZfY ZfY (ZD (Zg7 rfl) rfl B.min b_ (Zc (Za (pv 0)) (Zc (Za (pv 1)) Zh))) (Za (pv 2)) (ZD (Zd1 rfl) rfl B.max Ci (Zc (Za (pv 0)) (Zc (Za (pv 1)) Zh))))))⟩;rfl
abbrev VS:Stmt:=top 4
abbrev Zht:List Str:=["side","spot","a","b"]
theorem sc_lies_on:Zx Zht ["side","spot"] (Zf VS):=⟨rfl,rfl,rfl,by decide +kernel,rfl,by decide +kernel,by decide +kernel⟩
abbrev Zb8(P:Program)(w:World)(K:Frag)(mg:Str->Option Value)(base:Heap):=YB P w K mg base "lies_on" 2 ["side","spot"] Qw
theorem Zen(B:Blt mg)(d_turn:Zhw P w K mg base)(d_lies_between:J4 P w K mg base):OkD P w K mg base "lies_on" VS 2 ["side","spot"] Qw:=fun F=>Uj F sc_lies_on rfl rfl fun cdv A outer s H E hr=>by
 refine⟨_,?_,(Zj (ZQ (i:=2) sc_lies_on.nd rfl (Or.inl rfl) (ZB Yx (Za (pv 0)) Ze (fun _ _=>rfl)))
   (Zj (ZQ (i:=3) sc_lies_on.nd rfl (Or.inl rfl) (ZB Yx (Za (pv 0)) Ze (fun _ _=>rfl)))
   (Zj (QI (Ya (ZdB hr.units) (Zt d_turn hr (by decide) rfl (Zc (Za (pv 2)) (Zc (Za (pv 3)) (Zc (Za (pv 1)) Zh)))) Ze (Z4 _)) (Zn (Zy Jy)) ZX)
   (Zn (Zy (Vc (Zt d_lies_between hr (by decide) rfl (Zc (ZB Yx (Za (pv 2)) Ze (fun _ _=>rfl)) (Zc (ZB Yx (Za (pv 3)) Ze (fun _ _=>rfl)) (Zc (ZB Yx (Za (pv 1)) Ze (fun _ _=>rfl)) Zh)))) (W3 (Zt d_lies_between hr (by decide) rfl (Zc (ZB Yx (Za (pv 2)) Ze (fun _ _=>rfl)) (Zc (ZB Yx (Za (pv 3)) Ze (fun _ _=>rfl)) (Zc (ZB Yx (Za (pv 1)) Ze (fun _ _=>rfl)) Zh)))))))))))⟩
 rfl
abbrev QV:Stmt:=top 7
abbrev Zaf:List Str:=["corners"]
theorem Zck:Zx Zaf ["corners"] (Zf QV):=⟨rfl,rfl,rfl,by decide +kernel,rfl,by decide +kernel,by decide +kernel⟩
abbrev U2(P:Program)(w:World)(K:Frag)(mg:Str->Option Value)(base:Heap):=YB P w K mg base "sides_of" 1 ["corners"] Y2
theorem Zcs(B:Blt mg):OkD P w K mg base "sides_of" QV 1 ["corners"] Y2:=fun F=>Uj F Zck rfl rfl fun cdv A outer s H E hr=>by
 refine⟨_,?_,(Zn (Zy (Qx (N:=["k","corners"]) (caps:=[none,some 0]) (YW (sc:=Zf QV) rfl (by decide +kernel)) (YY (sc:=Zf QV) (XN:=Zaf) rfl rfl (by decide +kernel)) rfl (U0 rfl B.range (ZD UR rfl B.len B2 (Zc (Za (pv 0)) Zh))) (Z5 0) (fun _ _ _ _=>YG (i:=0) (show(["k","corners"]:List Str).Nodup by decide +kernel) rfl (Or.inl rfl)) (fun _ _ _ _=>Q2) (fun _ _ _ _=>(Jh (Zc (ZB Yx (Za (pv 1)) (Zl QW (Za (pv 0)) Ze) (fun _ _=>rfl)) (Zc (ZB Yx (Za (pv 1)) (Za (pv 0)) (fun _ _=>rfl)) Zh)))))))⟩;rfl
abbrev Q3:Stmt:=top 8
abbrev Za2:List Str:=["corners","start"]
theorem sc_least_first:Zx Za2 ["corners"] (Zf Q3):=⟨rfl,rfl,rfl,by decide +kernel,rfl,by decide +kernel,by decide +kernel⟩
abbrev UT(P:Program)(w:World)(K:Frag)(mg:Str->Option Value)(base:Heap):=YB P w K mg base "least_first" 1 ["corners"] Zq
theorem Wr(B:Blt mg):OkD P w K mg base "least_first" Q3 1 ["corners"] Zq:=fun F=>Uj F sc_least_first rfl rfl fun cdv A outer s H E hr=>by
 refine⟨_,?_,(Zj (ZQ (i:=1) sc_least_first.nd rfl (Or.inl rfl) (ZgJ hr.units (Za (pv 0)) (ZD (Zg6 rfl hr.units) rfl B.min b_ (Zc (Za (pv 0)) Zh))))
   (Zn (Zy (Jx ZcU rfl B.tuple By (Zc (Zl Qd (Ziq (Za (pv 0)) (Zaz (Za (pv 1))) ZaA) (Ziq (Za (pv 0)) ZaA (Zaz (Za (pv 1))))) Zh)))))⟩
 rfl
abbrev Yo:Stmt:=top 10
abbrev JD:List Str:=["plot","spot"]
theorem Vk:Zx JD ["plot","spot"] (Zf Yo):=⟨rfl,rfl,rfl,by decide +kernel,rfl,by decide +kernel,by decide +kernel⟩
abbrev JF(P:Program)(w:World)(K:Frag)(mg:Str->Option Value)(base:Heap):=YB P w K mg base "lies_on_fence" 3 ["plot","spot"] Z7
theorem Vm(B:Blt mg)(d_sides_of:U2 P w K mg base)(d_lies_on:Zb8 P w K mg base):OkD P w K mg base "lies_on_fence" Yo 3 ["plot","spot"] Z7:=fun F=>Uj F Vk rfl rfl fun cdv A outer s H E hr=>by
 refine⟨_,?_,(Zn (Zy (ZD (ZnU rfl) rfl B.any PyProof.Rows.boot_any (Zc (Qx (N:=["side","spot"]) (caps:=[none,some 1]) (YW (sc:=Zf Yo) rfl (by decide +kernel)) (YY (sc:=Zf Yo) (XN:=JD) rfl rfl (by decide +kernel)) rfl (UG (Zt d_sides_of hr (by decide) rfl (Zc (Za (pv 0)) Zh))) (Z5 0) (fun _ _ _ _=>YG (i:=0) (show(["side","spot"]:List Str).Nodup by decide +kernel) rfl (Or.inl rfl)) (fun _ _ _ _=>Q2) (fun _ _ _ _=>(Zt d_lies_on hr (by decide) rfl (Zc (Za (pv 0)) (Zc (Za (pv 1)) Zh))))) Zh))))⟩;rfl
abbrev Z2:Stmt:=top 11
abbrev Q0:List Str:=["side","spot","low","high"]
theorem sc_is_crossed_going_right:Zx Q0 ["side","spot"] (Zf Z2):=⟨rfl,rfl,rfl,by decide +kernel,rfl,by decide +kernel,by decide +kernel⟩
abbrev YN(P:Program)(w:World)(K:Frag)(mg:Str->Option Value)(base:Heap):=YB P w K mg base "is_crossed_going_right" 3 ["side","spot"] Zr
theorem QN(B:Blt mg)(d_turns_left:JE P w K mg base):OkD P w K mg base "is_crossed_going_right" Z2 3 ["side","spot"] Zr:=fun F=>Uj F sc_is_crossed_going_right rfl rfl fun cdv A outer s H E hr=>by
 refine⟨_,?_,(Zj (ZQ (i:=2) sc_is_crossed_going_right.nd rfl (Or.inl rfl) (ZB Yx (Za (pv 0)) Ze (fun _ _=>rfl)))
   (Zj (ZQ (i:=3) sc_is_crossed_going_right.nd rfl (Or.inl rfl) (ZB Yx (Za (pv 0)) Ze (fun _ _=>rfl)))
   (Zj (QI (Ya ZmY (ZB Yx (Za (pv 2)) Ze (fun _ _=>rfl)) (ZB Yx (Za (pv 3)) Ze (fun _ _=>rfl)) (Z4 _)) (Zj (ZQ (i:=2) sc_is_crossed_going_right.nd rfl (Or.inl rfl) (ZB Yx (Za (pv 0)) Ze (fun _ _=>rfl)))
   (Zn (ZQ (i:=3) sc_is_crossed_going_right.nd rfl (Or.inl rfl) (ZB Yx (Za (pv 0)) Ze (fun _ _=>rfl))))) ZX)
   (Zn (Zy (Vc (UM ZfY ZlV (ZB Yx (Za (pv 2)) Ze (fun _ _=>rfl)) (ZB Yx (Za (pv 1)) Ze (fun _ _=>rfl)) (ZB Yx (Za (pv 3)) Ze (fun _ _=>rfl))) (W3 (Zt d_turns_left hr (by decide) rfl (Zc (Za (pv 2)) (Zc (Za (pv 3)) (Zc (Za (pv 1)) Zh)))))))))))⟩
 rfl
abbrev VR:Stmt:=top 12
abbrev Zhs:List Str:=["plot","spot","crossed"]
theorem sc_where:Zx Zhs ["plot","spot"] (Zf VR):=⟨rfl,rfl,rfl,by decide +kernel,rfl,by decide +kernel,by decide +kernel⟩
abbrev Zhv(P:Program)(w:World)(K:Frag)(mg:Str->Option Value)(base:Heap):=YB P w K mg base "where" 4 ["plot","spot"] Qv
theorem ZhZ(B:Blt mg)(d_lies_on_fence:JF P w K mg base)(d_sides_of:U2 P w K mg base)(d_is_crossed_going_right:YN P w K mg base):OkD P w K mg base "where" VR 4 ["plot","spot"] Qv:=fun F=>Uj F sc_where rfl rfl fun cdv A outer s H E hr=>by
 refine⟨_,?_,(Zj (QI (Qp (Zt d_lies_on_fence hr (by decide) rfl (Zc (Za (pv 0)) (Zc (Za (pv 1)) Zh)))) (Zn (Zy ZdQ)) ZX)
   (Zj (Zcj (i:=2) sc_where.nd rfl (Or.inl rfl) (N:=["side","spot"]) (caps:=[none,some 1]) (YW (sc:=Zf VR) rfl (by decide +kernel)) (YY (sc:=Zf VR) (XN:=Zhs) rfl rfl (by decide +kernel)) rfl (UG (Zt d_sides_of hr (by decide) rfl (Zc (Za (pv 0)) Zh))) (Z5 0) (fun _ _ _ _=>YG (i:=0) (show(["side","spot"]:List Str).Nodup by decide +kernel) rfl (Or.inl rfl)) (fun _ _ _ _=>VF (Qp (Zt d_is_crossed_going_right hr (by decide) rfl (Zc (Za (pv 0)) (Zc (Za (pv 1)) Zh))))) (fun _ _ _ _=>(Za (pv 0))))
   (Zn (Zy (Zir (Ya (ZmZ hr.units) (Zl Jr (ZD UR rfl B.len B2 (Zc (Za (pv 2)) Zh)) Ze) Ze (Z4 _)) ZdQ ZdQ)))))⟩
 rfl
abbrev UX:Stmt:=top 14
abbrev ZeZ:List Str:=["corners","k"]
theorem Zcl:Zx ZeZ ["corners","k"] (Zf UX):=⟨rfl,rfl,rfl,by decide +kernel,rfl,by decide +kernel,by decide +kernel⟩
abbrev Zag(P:Program)(w:World)(K:Frag)(mg:Str->Option Value)(base:Heap):=YB P w K mg base "piece_at" 1 ["corners","k"] Y3
theorem Zct(B:Blt mg):OkD P w K mg base "piece_at" UX 1 ["corners","k"] Y3:=fun F=>Uj F Zcl rfl rfl fun cdv A outer s H E hr=>by
 refine⟨_,?_,(Zn (Zy (Jh (Zc (ZB Yx (Za (pv 0)) (Zl QW (Za (pv 1)) Ze) (fun _ _=>rfl)) (Zc (ZB Yx (Za (pv 0)) (Zl QW (Za (pv 1)) Ze) (fun _ _=>rfl)) (Zc (ZB Yx (Za (pv 0)) (Za (pv 1)) (fun _ _=>rfl)) Zh))))))⟩;rfl
abbrev Ub:Stmt:=top 15
abbrev Zc6:List Str:=["piece","corners","corner"]
theorem sc_comes_off:Zx Zc6 ["piece","corners"] (Zf Ub):=⟨rfl,rfl,rfl,by decide +kernel,rfl,by decide +kernel,by decide +kernel⟩
abbrev Wl(P:Program)(w:World)(K:Frag)(mg:Str->Option Value)(base:Heap):=YB P w K mg base "comes_off" 5 ["piece","corners"] Yq
theorem Zbm(B:Blt mg)(d_turns_left:JE P w K mg base)(d_where:Zhv P w K mg base):OkD P w K mg base "comes_off" Ub 5 ["piece","corners"] Yq:=fun F=>Uj F sc_comes_off rfl rfl fun cdv A outer s H E hr=>by
 refine⟨_,?_,(Zj (QI (Ux (Qp (Zt d_turns_left hr (by decide) rfl (Zc (ZB Yx (Za (pv 0)) Ze (fun _ _=>rfl)) (Zc (ZB Yx (Za (pv 0)) Ze (fun _ _=>rfl)) (Zc (ZB Yx (Za (pv 0)) Ze (fun _ _=>rfl)) Zh)))))) (Zn (Zy Jy)) ZX)
   (Zj (UW PassesOwn.never rfl (UG (Za (pv 1))) (YG (i:=2) sc_comes_off.nd rfl (Or.inl rfl)) (Zn (QI (ZiO (Zjp (Ya (Zcw hr.units) (Za (pv 2)) (Za (pv 0)) (by rfl)) (Zhy (Ya (ZdB hr.units) (Zt d_where hr (by decide) rfl (Zc (Za (pv 0)) (Zc (Za (pv 2)) Zh))) ZdQ (Z4 _))))) (Zn (Zy Jy)) ZX)))
   (Zn (Zy Jy))))⟩
 rfl
abbrev YD:Stmt:=top 16
abbrev Uv:List Str:=["corners","k"]
theorem sc_first_to_come_off:Zx Uv ["corners"] (Zf YD):=⟨rfl,rfl,rfl,by decide +kernel,rfl,by decide +kernel,by decide +kernel⟩
abbrev Qz(P:Program)(w:World)(K:Frag)(mg:Str->Option Value)(base:Heap):=YB P w K mg base "first_to_come_off" 6 ["corners"] Zu
theorem JU(B:Blt mg)(d_comes_off:Wl P w K mg base)(d_piece_at:Zag P w K mg base):OkD P w K mg base "first_to_come_off" YD 6 ["corners"] Zu:=fun F=>Uj F sc_first_to_come_off rfl rfl fun cdv A outer s H E hr=>by
 refine⟨_,?_,(Zj (ZQ (i:=1) sc_first_to_come_off.nd rfl (Or.inl rfl) Ze)
   (Zj (Zam 3000 PassesOwn.never (Ux (Qp (Zt d_comes_off hr (by decide) rfl (Zc (Zt d_piece_at hr (by decide) rfl (Zc (Za (pv 0)) (Zc (Za (pv 1)) Zh))) (Zc (Za (pv 0)) Zh))))) (Zn (Zln (i:=1) sc_first_to_come_off.nd rfl (Or.inl rfl) Ze)))
   (Zn (Zy (Zt d_piece_at hr (by decide) rfl (Zc (Za (pv 0)) (Zc (Za (pv 1)) Zh)))))))⟩
 rfl
abbrev ZjH:Stmt:=top 17
abbrev Zn1:List Str:=["plot","parts","rest","piece"]
theorem sc_cut:Zx Zn1 ["plot"] (Zf ZjH):=⟨rfl,rfl,rfl,by decide +kernel,rfl,by decide +kernel,by decide +kernel⟩
abbrev ZmT(P:Program)(w:World)(K:Frag)(mg:Str->Option Value)(base:Heap):=YB P w K mg base "cut" 7 ["plot"] ZcN
theorem ZlU(B:Blt mg)(c_FEWEST_CORNERS:∃ t,mg "FEWEST_CORNERS"=some (.int 3 t))(d_first_to_come_off:Qz P w K mg base)(d_least_first:UT P w K mg base):OkD P w K mg base "cut" ZjH 7 ["plot"] ZcN:=fun F=>Uj F sc_cut rfl rfl fun cdv A outer s H E hr=>by
 refine⟨_,?_,(Zj (Zbc (i:=1) sc_cut.nd rfl (Or.inl rfl) Zh)
   (Zj (Zei (i:=2) sc_cut.nd rfl (Or.inl rfl) rfl B.list (Za (pv 0)))
   (Zj (Zam 3000 PassesOwn.never (Zju 2 (Ya ZmY (ZD UR rfl B.len B2 (Zc (Za (pv 2)) Zh)) (Zkx rfl c_FEWEST_CORNERS.choose_spec) (Z4 _))) (Zj (ZQ (i:=3) sc_cut.nd rfl (Or.inl rfl) (ZgH 2 (Zt d_first_to_come_off hr (by decide) rfl (Zc (Za (pv 2)) Zh))))
   (Zj (VI (i:=1) (pv 1) (Zt d_least_first hr (by decide) rfl (Zc (Za (pv 3)) Zh)))
   (Zn (Zfp (i:=2) hr.units (pv 2) (ZB Yx (Za (pv 3)) Ze (fun _ _=>rfl)))))))
   (Zj (VI (i:=1) (pv 1) (ZgH 2 (Zt d_least_first hr (by decide) rfl (Zc (Za (pv 2)) Zh))))
   (Zn (ZiT 1 (Zy (Jx ZcU rfl B.tuple By (Zc (L4.ed_sort hr.units rfl B.sorted (Za (pv 1))) Zh)))))))))⟩
 rfl
abbrev QM:Stmt:=top 19
abbrev WD:List Str:=["_law_script","_law_k"]
theorem VN:Zx WD ["_law_script","_law_k"] (Zf QM):=⟨rfl,rfl,rfl,by decide +kernel,rfl,by decide +kernel,by decide +kernel⟩
abbrev J7(P:Program)(w:World)(K:Frag)(mg:Str->Option Value)(base:Heap):=YB P w K mg base "_law_cell_at" 1 ["_law_script","_law_k"] Ym
theorem V3(B:Blt mg):OkD P w K mg base "_law_cell_at" QM 1 ["_law_script","_law_k"] Ym:=fun F=>Uj F VN rfl rfl fun cdv A outer s H E hr=>by
 refine⟨_,?_,(Zj (QI (Ya ZlV (Za (pv 1)) (ZD UR rfl B.len B2 (Zc (Za (pv 0)) Zh)) (Z4 _)) (Zn (Zy (ZB Yx (Za (pv 0)) (Za (pv 1)) (fun _ _=>rfl)))) ZX)
   (Zn (Zy Ze)))⟩
 rfl
abbrev Jo:Stmt:=top 20
abbrev Zb6:List Str:=["_law_script","_law_k","_law_drawn_here"]
theorem sc__law_mixed:Zx Zb6 ["_law_script","_law_k"] (Zf Jo):=⟨rfl,rfl,rfl,by decide +kernel,rfl,by decide +kernel,by decide +kernel⟩
abbrev Vj(P:Program)(w:World)(K:Frag)(mg:Str->Option Value)(base:Heap):=YB P w K mg base "_law_mixed" 2 ["_law_script","_law_k"] ZR
theorem Zax(B:Blt mg)(d__law_cell_at:J7 P w K mg base):OkD P w K mg base "_law_mixed" Jo 2 ["_law_script","_law_k"] ZR:=fun F=>Uj F sc__law_mixed rfl rfl fun cdv A outer s H E hr=>by
 refine⟨_,?_,(Zj (ZQ (i:=2) sc__law_mixed.nd rfl (Or.inl rfl) (Zl Jr (Zl YU (Zl Qd (Zl Qd (Zt d__law_cell_at hr (by decide) rfl (Zc (Za (pv 0)) (Zc (Za (pv 1)) Zh))) (Zl YU Ze (Za (pv 1)))) Ze) Ze) Ze))
   (Zn (Zy (Zl Jr (Zl Qd (Zl Qd (Zl YU (Za (pv 2)) (Za (pv 2))) (Zl YU Ze (Za (pv 2)))) (Za (pv 1))) Ze))))⟩
 rfl
abbrev Jp:Stmt:=top 21
abbrev Zb7:List Str:=["_law_number_here","_law_k","_law_drawn_here"]
theorem sc__law_drawn:Zx Zb7 ["_law_number_here","_law_k"] (Zf Jp):=⟨rfl,rfl,rfl,by decide +kernel,rfl,by decide +kernel,by decide +kernel⟩
abbrev JH(P:Program)(w:World)(K:Frag)(mg:Str->Option Value)(base:Heap):=YB P w K mg base "_law_drawn" 1 ["_law_number_here","_law_k"] Zv
theorem Zay(B:Blt mg):OkD P w K mg base "_law_drawn" Jp 1 ["_law_number_here","_law_k"] Zv:=fun F=>Uj F sc__law_drawn rfl rfl fun cdv A outer s H E hr=>by
 refine⟨_,?_,(Zj (ZQ (i:=2) sc__law_drawn.nd rfl (Or.inl rfl) (Zl Jr (Zl YU (Zl Qd (Zl Qd (Za (pv 0)) (Zl YU Ze (Za (pv 1)))) Ze) Ze) Ze))
   (Zn (Zy (Zl Jr (Zl Qd (Zl Qd (Zl YU (Za (pv 2)) (Za (pv 2))) (Zl YU Ze (Za (pv 2)))) (Za (pv 1))) Ze))))⟩
 rfl
abbrev Q4:Stmt:=top 22
abbrev Za3:List Str:=["_law_thing","_law_low","_law_high"]
theorem Wp:Zx Za3 ["_law_thing","_law_low","_law_high"] (Zf Q4):=⟨rfl,rfl,rfl,by decide +kernel,rfl,by decide +kernel,by decide +kernel⟩
abbrev UU(P:Program)(w:World)(K:Frag)(mg:Str->Option Value)(base:Heap):=YB P w K mg base "_law_number" 1 ["_law_thing","_law_low","_law_high"] Yw
theorem Ws(B:Blt mg):OkD P w K mg base "_law_number" Q4 1 ["_law_thing","_law_low","_law_high"] Yw:=fun F=>Uj F Wp rfl rfl fun cdv A outer s H E hr=>by
 refine⟨_,?_,(Zn (Zy (Vc (ZbG (T:=.int) rfl B.isinstance rfl B.int PyProof.Rows.boot_int (Za (pv 0))) (Vc (ZmA (ZbG (T:=.bool) rfl B.isinstance rfl B.bool PyProof.Rows.boot_bool (Za (pv 0)))) (W3 (UM ZfY ZfY (Za (pv 1)) (Za (pv 0)) (Za (pv 2))))))))⟩;rfl
abbrev Uc:Stmt:=top 23
abbrev Zc7:List Str:=["_law_a","_law_b","_law_c"]
theorem Zbd:Zx Zc7 ["_law_a","_law_b","_law_c"] (Zf Uc):=⟨rfl,rfl,rfl,by decide +kernel,rfl,by decide +kernel,by decide +kernel⟩
abbrev QA(P:Program)(w:World)(K:Frag)(mg:Str->Option Value)(base:Heap):=YB P w K mg base "_law_turn" 1 ["_law_a","_law_b","_law_c"] ZM
theorem Zbn(B:Blt mg):OkD P w K mg base "_law_turn" Uc 1 ["_law_a","_law_b","_law_c"] ZM:=fun F=>Uj F Zbd rfl rfl fun cdv A outer s H E hr=>by
 refine⟨_,?_,(Zn (Zy (Zl QW (Zl YU (Zl QW (ZB Yx (Za (pv 1)) Ze (fun _ _=>rfl)) (ZB Yx (Za (pv 0)) Ze (fun _ _=>rfl))) (Zl QW (ZB Yx (Za (pv 2)) Ze (fun _ _=>rfl)) (ZB Yx (Za (pv 0)) Ze (fun _ _=>rfl)))) (Zl YU (Zl QW (ZB Yx (Za (pv 1)) Ze (fun _ _=>rfl)) (ZB Yx (Za (pv 0)) Ze (fun _ _=>rfl))) (Zl QW (ZB Yx (Za (pv 2)) Ze (fun _ _=>rfl)) (ZB Yx (Za (pv 0)) Ze (fun _ _=>rfl)))))))⟩;rfl
abbrev VT:Stmt:=top 24
abbrev Zhu:List Str:=["_law_a","_law_b","_law_c"]
theorem Zej:Zx Zhu ["_law_a","_law_b","_law_c"] (Zf VT):=⟨rfl,rfl,rfl,by decide +kernel,rfl,by decide +kernel,by decide +kernel⟩
abbrev Zb9(P:Program)(w:World)(K:Frag)(mg:Str->Option Value)(base:Heap):=YB P w K mg base "_law_on" 2 ["_law_a","_law_b","_law_c"] Yk
theorem Zeo(B:Blt mg)(d__law_turn:QA P w K mg base):OkD P w K mg base "_law_on" VT 2 ["_law_a","_law_b","_law_c"] Yk:=fun F=>Uj F Zej rfl rfl fun cdv A outer s H E hr=>by
 refine⟨_,?_,(Zj (QI (Ya (ZdB hr.units) (Zt d__law_turn hr (by decide) rfl (Zc (Za (pv 0)) (Zc (Za (pv 1)) (Zc (Za (pv 2)) Zh)))) Ze (Z4 _)) (Zn (Zy Jy)) ZX)
   (Zn (Zy (Vc (UM ZfY ZfY (ZD (Zg7 rfl) rfl B.min b_ (Zc (ZB Yx (Za (pv 0)) Ze (fun _ _=>rfl)) (Zc (ZB Yx (Za (pv 1)) Ze (fun _ _=>rfl)) Zh))) (ZB Yx (Za (pv 2)) Ze (fun _ _=>rfl)) (ZD (Zd1 rfl) rfl B.max Ci (Zc (ZB Yx (Za (pv 0)) Ze (fun _ _=>rfl)) (Zc (ZB Yx (Za (pv 1)) Ze (fun _ _=>rfl)) Zh)))) (W3 (UM ZfY ZfY (ZD (Zg7 rfl) rfl B.min b_ (Zc (ZB Yx (Za (pv 0)) Ze (fun _ _=>rfl)) (Zc (ZB Yx (Za (pv 1)) Ze (fun _ _=>rfl)) Zh))) (ZB Yx (Za (pv 2)) Ze (fun _ _=>rfl)) (ZD (Zd1 rfl) rfl B.max Ci (Zc (ZB Yx (Za (pv 0)) Ze (fun _ _=>rfl)) (Zc (ZB Yx (Za (pv 1)) Ze (fun _ _=>rfl)) Zh)))))))))⟩
 rfl
abbrev Ud:Stmt:=top 25
abbrev Zc8:List Str:=["_law_corners","_law_at","_law_by"]
theorem Zbe:Zx Zc8 ["_law_corners","_law_at","_law_by"] (Zf Ud):=⟨rfl,rfl,rfl,by decide +kernel,rfl,by decide +kernel,by decide +kernel⟩
abbrev Y8(P:Program)(w:World)(K:Frag)(mg:Str->Option Value)(base:Heap):=YB P w K mg base "_law_next" 1 ["_law_corners","_law_at","_law_by"] Zk
theorem Zbp(B:Blt mg):OkD P w K mg base "_law_next" Ud 1 ["_law_corners","_law_at","_law_by"] Zk:=fun F=>Uj F Zbe rfl rfl fun cdv A outer s H E hr=>by
 refine⟨_,?_,(Zn (Zy (ZB Yx (Za (pv 0)) (Zl Jr (Zl Qd (Za (pv 1)) (Za (pv 2))) (ZD UR rfl B.len B2 (Zc (Za (pv 0)) Zh))) (fun _ _=>rfl))))⟩;rfl
abbrev Uf:Stmt:=top 26
abbrev Zda:List Str:=["_law_corners","_law_found","_law_at","_law_a","_law_b"]
theorem sc__law_area:Zx Zda ["_law_corners"] (Zf Uf):=⟨rfl,rfl,rfl,by decide +kernel,rfl,by decide +kernel,by decide +kernel⟩
abbrev Jd(P:Program)(w:World)(K:Frag)(mg:Str->Option Value)(base:Heap):=YB P w K mg base "_law_area" 2 ["_law_corners"] ZN
theorem Zbr(B:Blt mg)(d__law_next:Y8 P w K mg base):OkD P w K mg base "_law_area" Uf 2 ["_law_corners"] ZN:=fun F=>Uj F sc__law_area rfl rfl fun cdv A outer s H E hr=>by
 refine⟨_,?_,(Zj (ZQ (i:=1) sc__law_area.nd rfl (Or.inl rfl) Ze)
   (Zj (UW PassesOwn.never rfl (ZaK rfl B.enumerate (Za (pv 0))) (V8 (i:=2) (j:=3) rfl sc__law_area.nd rfl rfl (Or.inl rfl) (Or.inl rfl)) (Zj (ZQ (i:=4) sc__law_area.nd rfl (Or.inl rfl) (Zt d__law_next hr (by decide) rfl (Zc (Za (pv 0)) (Zc (Za (pv 2)) (Zc Ze Zh)))))
   (Zn (ZQ (i:=1) sc__law_area.nd rfl (Or.inl rfl) (Zl QW (Zl Qd (Za (pv 1)) (Zl YU (ZB Yx (Za (pv 3)) Ze (fun _ _=>rfl)) (ZB Yx (Za (pv 4)) Ze (fun _ _=>rfl)))) (Zl YU (ZB Yx (Za (pv 3)) Ze (fun _ _=>rfl)) (ZB Yx (Za (pv 4)) Ze (fun _ _=>rfl))))))))
   (Zn (Zy (Za (pv 1))))))⟩
 rfl
abbrev Qs:Stmt:=top 27
abbrev Wk:List Str:=["_law_corners","_law_found","_law_at"]
theorem sc__law_in_order:Zx Wk ["_law_corners"] (Zf Qs):=⟨rfl,rfl,rfl,by decide +kernel,rfl,by decide +kernel,by decide +kernel⟩
abbrev JG(P:Program)(w:World)(K:Frag)(mg:Str->Option Value)(base:Heap):=YB P w K mg base "_law_in_order" 3 ["_law_corners"] ZS
theorem Vn(B:Blt mg)(d__law_area:Jd P w K mg base):OkD P w K mg base "_law_in_order" Qs 3 ["_law_corners"] ZS:=fun F=>Uj F sc__law_in_order rfl rfl fun cdv A outer s H E hr=>by
 refine⟨_,?_,(Zj (ZQ (i:=1) sc__law_in_order.nd rfl (Or.inl rfl) (Jx Zjg rfl B.list PyProof.Rows.boot_list (Zc (Za (pv 0)) Zh)))
   (Zj (QI (Ya ZlV (Zt d__law_area hr (by decide) rfl (Zc (Za (pv 1)) Zh)) Ze (Z4 _)) (Zn (ZQ (i:=1) sc__law_in_order.nd rfl (Or.inl rfl) (Zmz (Za (pv 1))))) ZX)
   (Zj (ZQ (i:=2) sc__law_in_order.nd rfl (Or.inl rfl) (ZdR hr.units (Za (pv 1)) (ZD (Zg6 rfl hr.units) rfl B.min b_ (Zc (Za (pv 1)) Zh))))
   (Zn (Zy (Jx ZcU rfl B.tuple By (Zc (Zl Qd (Ziq (Za (pv 1)) (Zaz (Za (pv 2))) ZaA) (Ziq (Za (pv 1)) ZaA (Zaz (Za (pv 2))))) Zh)))))))⟩
 rfl
abbrev Ue:Stmt:=top 28
abbrev Zc9:List Str:=["_law_a","_law_b","_law_c","_law_d"]
theorem Zbf:Zx Zc9 ["_law_a","_law_b","_law_c","_law_d"] (Zf Ue):=⟨rfl,rfl,rfl,by decide +kernel,rfl,by decide +kernel,by decide +kernel⟩
abbrev Wn(P:Program)(w:World)(K:Frag)(mg:Str->Option Value)(base:Heap):=YB P w K mg base "_law_meet" 3 ["_law_a","_law_b","_law_c","_law_d"] Yr
theorem Zbq(B:Blt mg)(d__law_on:Zb9 P w K mg base)(d__law_turn:QA P w K mg base):OkD P w K mg base "_law_meet" Ue 3 ["_law_a","_law_b","_law_c","_law_d"] Yr:=fun F=>Uj F Zbf rfl rfl fun cdv A outer s H E hr=>by
 refine⟨_,?_,(Zj (QI (ZiO (Jj (Qp (Zt d__law_on hr (by decide) rfl (Zc (Za (pv 0)) (Zc (Za (pv 1)) (Zc (Za (pv 2)) Zh))))) (Jj (Qp (Zt d__law_on hr (by decide) rfl (Zc (Za (pv 0)) (Zc (Za (pv 1)) (Zc (Za (pv 3)) Zh))))) (Jj (Qp (Zt d__law_on hr (by decide) rfl (Zc (Za (pv 2)) (Zc (Za (pv 3)) (Zc (Za (pv 0)) Zh))))) (J9 (Qp (Zt d__law_on hr (by decide) rfl (Zc (Za (pv 2)) (Zc (Za (pv 3)) (Zc (Za (pv 1)) Zh)))))))))) (Zn (Zy Jy)) ZX)
   (Zj (QI (Ya ZoK (Zl YU (Zt d__law_turn hr (by decide) rfl (Zc (Za (pv 0)) (Zc (Za (pv 1)) (Zc (Za (pv 2)) Zh)))) (Zt d__law_turn hr (by decide) rfl (Zc (Za (pv 0)) (Zc (Za (pv 1)) (Zc (Za (pv 3)) Zh))))) Ze (Z4 _)) (Zn (Zy Jy)) ZX)
   (Zn (Zy (ZbH ZlV (Zl YU (Zt d__law_turn hr (by decide) rfl (Zc (Za (pv 2)) (Zc (Za (pv 3)) (Zc (Za (pv 0)) Zh)))) (Zt d__law_turn hr (by decide) rfl (Zc (Za (pv 2)) (Zc (Za (pv 3)) (Zc (Za (pv 1)) Zh))))) Ze (Z4 _))))))⟩
 rfl
abbrev Jn:Stmt:=top 29
abbrev Zb5:List Str:=["_law_corners","_law_found","_law_at","_law_a"]
theorem sc__law_turns:Zx Zb5 ["_law_corners"] (Zf Jn):=⟨rfl,rfl,rfl,by decide +kernel,rfl,by decide +kernel,by decide +kernel⟩
abbrev Vh(P:Program)(w:World)(K:Frag)(mg:Str->Option Value)(base:Heap):=YB P w K mg base "_law_turns" 2 ["_law_corners"] YL
theorem Zav(B:Blt mg)(d__law_turn:QA P w K mg base)(d__law_next:Y8 P w K mg base):OkD P w K mg base "_law_turns" Jn 2 ["_law_corners"] YL:=fun F=>Uj F sc__law_turns rfl rfl fun cdv A outer s H E hr=>by
 refine⟨_,?_,(Zj (Zbc (i:=1) sc__law_turns.nd rfl (Or.inl rfl) Zh)
   (Zj (UW PassesOwn.never rfl (ZaK rfl B.enumerate (Za (pv 0))) (V8 (i:=2) (j:=3) rfl sc__law_turns.nd rfl rfl (Or.inl rfl) (Or.inl rfl)) (Zn (VI (i:=1) (pv 1) (Zt d__law_turn hr (by decide) rfl (Zc (Za (pv 3)) (Zc (Zt d__law_next hr (by decide) rfl (Zc (Za (pv 0)) (Zc (Za (pv 2)) (Zc Ze Zh)))) (Zc (Zt d__law_next hr (by decide) rfl (Zc (Za (pv 0)) (Zc (Za (pv 2)) (Zc Ze Zh)))) Zh)))))))
   (Zn (ZiT 1 (Zy (Za (pv 1)))))))⟩
 rfl
abbrev QL:Stmt:=top 30
abbrev WC:List Str:=["_law_corners","_law_many","_law_one","_law_other","_law_c","_law_d"]
theorem sc__law_is_good:Zx WC ["_law_corners"] (Zf QL):=⟨rfl,rfl,rfl,by decide +kernel,rfl,by decide +kernel,by decide +kernel⟩
abbrev QT(P:Program)(w:World)(K:Frag)(mg:Str->Option Value)(base:Heap):=YB P w K mg base "_law_is_good" 4 ["_law_corners"] ZZ
theorem V2(B:Blt mg)(d__law_turns:Vh P w K mg base)(d__law_next:Y8 P w K mg base)(d__law_meet:Wn P w K mg base):OkD P w K mg base "_law_is_good" QL 4 ["_law_corners"] ZZ:=fun F=>Uj F sc__law_is_good rfl rfl fun cdv A outer s H E hr=>by
 refine⟨_,?_,(Zj (ZQ (i:=1) sc__law_is_good.nd rfl (Or.inl rfl) (ZD UR rfl B.len B2 (Zc (Za (pv 0)) Zh)))
   (Zj (QI (ZiO (Jj (Ya ZlV (L5.ed_lenI rfl hr.units rfl B.len rfl B.set (Za (pv 0))) (Za (pv 1)) (Z4 _)) (J9 (Ya (ZoJ hr.units) Ze (Zt d__law_turns hr (by decide) rfl (Zc (Za (pv 0)) Zh)) (by rfl))))) (Zn (Zy Jy)) ZX)
   (Zj (UW PassesOwn.never rfl (U0 rfl B.range (Za (pv 1))) (YG (i:=2) sc__law_is_good.nd rfl (Or.inl rfl)) (Zn (UW PassesOwn.never rfl (Zkn rfl B.range (Zl Qd (Za (pv 2)) Ze) (Za (pv 1))) (YG (i:=3) sc__law_is_good.nd rfl (Or.inl rfl)) (Zn (QI (Ya (ZdB hr.units) (Zl Jr (Zl Qd (Za (pv 3)) Ze) (Za (pv 1))) (Za (pv 2)) (Z4 _)) (Zj (ZQ (i:=4) sc__law_is_good.nd rfl (Or.inl rfl) (ZB Yx (Za (pv 0)) (Za (pv 3)) (fun _ _=>rfl)))
   (Zj (ZQ (i:=5) sc__law_is_good.nd rfl (Or.inl rfl) (Zt d__law_next hr (by decide) rfl (Zc (Za (pv 0)) (Zc (Za (pv 3)) (Zc Ze Zh)))))
   (Zn (QI (Qp (Zt d__law_meet hr (by decide) rfl (Zc (ZB Yx (Za (pv 0)) (Za (pv 2)) (fun _ _=>rfl)) (Zc (Zt d__law_next hr (by decide) rfl (Zc (Za (pv 0)) (Zc (Za (pv 2)) (Zc Ze Zh)))) (Zc (Za (pv 4)) (Zc (Za (pv 5)) Zh)))))) (Zn (Zy Jy)) ZX)))) ZX)))))
   (Zn (Zy Jy)))))⟩
 rfl
abbrev Qb:Stmt:=top 31
abbrev Vg:List Str:=["_law_number_here","_law_wide","_law_many"]
theorem Zao:Zx Vg ["_law_number_here","_law_wide","_law_many"] (Zf Qb):=⟨rfl,rfl,rfl,by decide +kernel,rfl,by decide +kernel,by decide +kernel⟩
abbrev Vi(P:Program)(w:World)(K:Frag)(mg:Str->Option Value)(base:Heap):=YB P w K mg base "_law_spots" 2 ["_law_number_here","_law_wide","_law_many"] YM
theorem Zaw(B:Blt mg)(d__law_drawn:JH P w K mg base):OkD P w K mg base "_law_spots" Qb 2 ["_law_number_here","_law_wide","_law_many"] YM:=fun F=>Uj F Zao rfl rfl fun cdv A outer s H E hr=>by
 refine⟨_,?_,(Zn (Zy (Qx (N:=["_law_k","_law_wide","_law_number_here"]) (caps:=[none,some 1,some 0]) (YW (sc:=Zf Qb) rfl (by decide +kernel)) (YY (sc:=Zf Qb) (XN:=Vg) rfl rfl (by decide +kernel)) rfl (U0 rfl B.range (Za (pv 2))) (Z5 0) (fun _ _ _ _=>YG (i:=0) (show(["_law_k","_law_wide","_law_number_here"]:List Str).Nodup by decide +kernel) rfl (Or.inl rfl)) (fun _ _ _ _=>Q2) (fun _ _ _ _=>(Jh (Zc (Zl Jr (Zt d__law_drawn hr (by decide) rfl (Zc (Za (pv 2)) (Zc (Zl YU Ze (Za (pv 0))) Zh))) (Za (pv 1))) (Zc (Zl Jr (Zt d__law_drawn hr (by decide) rfl (Zc (Za (pv 2)) (Zc (Zl Qd (Zl YU Ze (Za (pv 0))) Ze) Zh))) (Za (pv 1))) Zh)))))))⟩;rfl
abbrev Yv:Stmt:=top 32
abbrev JQ:List Str:=["_law_number_here","_law_wide","_law_lows","_law_highs","_law_far","_law_found","_law_left"]
theorem sc__law_saw:Zx JQ ["_law_number_here","_law_wide"] (Zf Yv):=⟨rfl,rfl,rfl,by decide +kernel,rfl,by decide +kernel,by decide +kernel⟩
abbrev Zah(P:Program)(w:World)(K:Frag)(mg:Str->Option Value)(base:Heap):=YB P w K mg base "_law_saw" 2 ["_law_number_here","_law_wide"] Qn
theorem Zcu(B:Blt mg)(d__law_drawn:JH P w K mg base)(d__law_turn:QA P w K mg base)(d__law_next:Y8 P w K mg base):OkD P w K mg base "_law_saw" Yv 2 ["_law_number_here","_law_wide"] Qn:=fun F=>Uj F sc__law_saw rfl rfl fun cdv A outer s H E hr=>by
 refine⟨_,?_,(Zj (ZQ (i:=2) sc__law_saw.nd rfl (Or.inl rfl) (Zl Qd Ze (Zl Jr (Za (pv 0)) Ze)))
   (Zj (ZQ (i:=3) sc__law_saw.nd rfl (Or.inl rfl) (Zl Qd Ze (Zl Jr (Zl Zep (Za (pv 0)) Ze) Ze)))
   (Zj (ZQ (i:=4) sc__law_saw.nd rfl (Or.inr rfl) (Zl Qd Ze (ZD (Zd1 rfl) rfl B.max Ci (Zc (Za (pv 2)) (Zc (Za (pv 3)) Zh)))))
   (Zj (ZQ (i:=5) sc__law_saw.nd rfl (Or.inl rfl) (Zl Qd (Zl Qd (W4 (Zc (Jh (Zc Ze (Zc Ze Zh))) Zh U4)) (Qx (N:=["_law_k","_law_wide","_law_number_here"]) (caps:=[none,some 1,some 0]) (YW (sc:=Zf Yv) rfl (by decide +kernel)) (YY (sc:=Zf Yv) (XN:=JQ) rfl rfl (by decide +kernel)) rfl (U0 rfl B.range (Za (pv 2))) (Z5 0) (fun _ _ _ _=>YG (i:=0) (show(["_law_k","_law_wide","_law_number_here"]:List Str).Nodup by decide +kernel) rfl (Or.inl rfl)) (fun _ _ _ _=>Q2) (fun _ _ _ _=>(Jh (Zc (Zl Qd Ze (Za (pv 0))) (Zc (Zl QW (Zkw Zj9 Ze) (Zl Jr (Zt d__law_drawn hr (by decide) rfl (Zc (Za (pv 2)) (Zc (Za (pv 0)) Zh))) (Za (pv 1)))) Zh)))))) (W4 (Zc (Jh (Zc (Za (pv 4)) (Zc Ze Zh))) Zh U4))))
   (Zj (ZQ (i:=5) sc__law_saw.nd rfl (Or.inl rfl) (Zl Qd (Za (pv 5)) (Qx (N:=["_law_k","_law_far","_law_wide","_law_number_here"]) (caps:=[none,some 4,some 1,some 0]) (YW (sc:=Zf Yv) rfl (by decide +kernel)) (YY (sc:=Zf Yv) (XN:=JQ) rfl rfl (by decide +kernel)) rfl (U0 rfl B.range (Za (pv 3))) (Z5 0) (fun _ _ _ _=>YG (i:=0) (show(["_law_k","_law_far","_law_wide","_law_number_here"]:List Str).Nodup by decide +kernel) rfl (Or.inl rfl)) (fun _ _ _ _=>Q2) (fun _ _ _ _=>(Jh (Zc (Zl QW (Zl QW (Za (pv 1)) Ze) (Za (pv 0))) (Zc (Zl Qd Ze (Zl Jr (Zt d__law_drawn hr (by decide) rfl (Zc (Za (pv 3)) (Zc (Zl Qd Ze (Za (pv 0))) Zh))) (Za (pv 2)))) Zh)))))))
   (Zj (ZQ (i:=6) sc__law_saw.nd rfl (Or.inr rfl) (W4 Zh))
   (Zj (Zam 3000 PassesOwn.never (Ya (ZdB hr.units) (ZD UR rfl B.len B2 (Zc (Za (pv 6)) Zh)) (ZD UR rfl B.len B2 (Zc (Za (pv 5)) Zh)) (Z4 _)) (Zj (ZQ (i:=6) sc__law_saw.nd rfl (Or.inr rfl) (Za (pv 5)))
   (Zn (Zcj (i:=5) sc__law_saw.nd rfl (Or.inl rfl) (N:=["_law_at","_law_a","_law_left"]) (caps:=[none,none,some 6]) (YW (sc:=Zf Yv) rfl (by decide +kernel)) (YY (sc:=Zf Yv) (XN:=JQ) rfl rfl (by decide +kernel)) rfl (ZaK rfl B.enumerate (Za (pv 6))) (UY 0 1) (fun _ _ _ _=>V8 (i:=0) (j:=1) rfl (show(["_law_at","_law_a","_law_left"]:List Str).Nodup by decide +kernel) rfl rfl (Or.inl rfl) (Or.inl rfl)) (fun _ _ _ _=>VF (Ya (ZdB hr.units) (Zt d__law_turn hr (by decide) rfl (Zc (ZB Yx (Za (pv 2)) (Zl QW (Za (pv 0)) Ze) (fun _ _=>rfl)) (Zc (Za (pv 1)) (Zc (Zt d__law_next hr (by decide) rfl (Zc (Za (pv 2)) (Zc (Za (pv 0)) (Zc Ze Zh)))) Zh)))) Ze (Z4 _))) (fun _ _ _ _=>(Za (pv 1)))))))
   (Zn (Zy (Za (pv 5)))))))))))⟩
 rfl
abbrev Qr:Stmt:=top 33
abbrev Wj:List Str:=["_law_number_here","_law_wide","_law_found","_law_by"]
theorem sc__law_plot:Zx Wj ["_law_number_here","_law_wide"] (Zf Qr):=⟨rfl,rfl,rfl,by decide +kernel,rfl,by decide +kernel,by decide +kernel⟩
abbrev Wm(P:Program)(w:World)(K:Frag)(mg:Str->Option Value)(base:Heap):=YB P w K mg base "_law_plot" 5 ["_law_number_here","_law_wide"] YH
theorem Zbo(B:Blt mg)(d__law_spots:Vi P w K mg base)(d__law_is_good:QT P w K mg base)(d__law_saw:Zah P w K mg base)(d__law_in_order:JG P w K mg base):OkD P w K mg base "_law_plot" Qr 5 ["_law_number_here","_law_wide"] YH:=fun F=>Uj F sc__law_plot rfl rfl fun cdv A outer s H E hr=>by
 refine⟨_,?_,(Zj (ZQ (i:=2) sc__law_plot.nd rfl (Or.inl rfl) (Zt d__law_spots hr (by decide) rfl (Zc (Zl Zep (Za (pv 0)) Ze) (Zc (Za (pv 1)) (Zc (Zl Qd Ze (Zl Jr (Zl Zep (Za (pv 0)) Ze) Ze)) Zh)))))
   (Zj (QI (ZiO (Jj (Ya (ZmZ hr.units) (Zl Jr (Za (pv 0)) Ze) Ze (Z4 _)) (J9 (Ux (Qp (Zt d__law_is_good hr (by decide) rfl (Zc (Za (pv 2)) Zh))))))) (Zn (ZQ (i:=2) sc__law_plot.nd rfl (Or.inl rfl) (Zt d__law_saw hr (by decide) rfl (Zc (Zl Zep (Za (pv 0)) Ze) (Zc (Za (pv 1)) Zh))))) ZX)
   (Zj (ZQ (i:=3) sc__law_plot.nd rfl (Or.inr rfl) (Zl Zep (Zl YU (Zl Jr (Zl Zep (Za (pv 0)) Ze) Ze) (Za (pv 1))) Ze))
   (Zn (Zy (Zt d__law_in_order hr (by decide) rfl (Zc (Qx (N:=["_law_x","_law_y","_law_by"]) (caps:=[none,none,some 3]) (YW (sc:=Zf Qr) rfl (by decide +kernel)) (YY (sc:=Zf Qr) (XN:=Wj) rfl rfl (by decide +kernel)) rfl (UG (Za (pv 2))) (UY 0 1) (fun _ _ _ _=>V8 (i:=0) (j:=1) rfl (show(["_law_x","_law_y","_law_by"]:List Str).Nodup by decide +kernel) rfl rfl (Or.inl rfl) (Or.inl rfl)) (fun _ _ _ _=>Q2) (fun _ _ _ _=>(Jh (Zc (Zl QW (Za (pv 0)) (Za (pv 2))) (Zc (Za (pv 1)) Zh))))) Zh)))))))⟩
 rfl
abbrev QK:Stmt:=top 34
abbrev WB:List Str:=["_law_thing"]
theorem VL:Zx WB ["_law_thing"] (Zf QK):=⟨rfl,rfl,rfl,by decide +kernel,rfl,by decide +kernel,by decide +kernel⟩
abbrev J5(P:Program)(w:World)(K:Frag)(mg:Str->Option Value)(base:Heap):=YB P w K mg base "_law_is_spot" 2 ["_law_thing"] ZY
theorem V0(B:Blt mg)(d__law_number:UU P w K mg base):OkD P w K mg base "_law_is_spot" QK 2 ["_law_thing"] ZY:=fun F=>Uj F VL rfl rfl fun cdv A outer s H E hr=>by
 refine⟨_,?_,(Zj (QI (ZiO (Jj (Ux (Qp (ZbG (T:=.tuple) rfl B.isinstance rfl B.tuple By (Za (pv 0))))) (J9 (Ya (ZdB hr.units) (ZD UR rfl B.len B2 (Zc (Za (pv 0)) Zh)) Ze (Z4 _))))) (Zn (Zy Jy)) ZX)
   (Zn (Zy (Vc (Zt d__law_number hr (by decide) rfl (Zc (ZB Yx (Za (pv 0)) Ze (fun _ _=>rfl)) (Zc (Zkw Zj9 Ze) (Zc Ze Zh)))) (W3 (Zt d__law_number hr (by decide) rfl (Zc (ZB Yx (Za (pv 0)) Ze (fun _ _=>rfl)) (Zc (Zkw Zj9 Ze) (Zc Ze Zh)))))))))⟩
 rfl
abbrev Yz:Stmt:=top 35
abbrev J1:List Str:=["_law_thing"]
theorem VM:Zx J1 ["_law_thing"] (Zf Yz):=⟨rfl,rfl,rfl,by decide +kernel,rfl,by decide +kernel,by decide +kernel⟩
abbrev J6(P:Program)(w:World)(K:Frag)(mg:Str->Option Value)(base:Heap):=YB P w K mg base "_law_is_plot" 5 ["_law_thing"] ZE
theorem V1(B:Blt mg)(d__law_is_spot:J5 P w K mg base)(d__law_is_good:QT P w K mg base)(d__law_area:Jd P w K mg base):OkD P w K mg base "_law_is_plot" Yz 5 ["_law_thing"] ZE:=fun F=>Uj F VM rfl rfl fun cdv A outer s H E hr=>by
 refine⟨_,?_,(Zj (QI (ZiO (Jj (Ux (Qp (ZbG (T:=.tuple) rfl B.isinstance rfl B.tuple By (Za (pv 0))))) (J9 (Ux (ZhD ZfY ZfY Ze (ZD UR rfl B.len B2 (Zc (Za (pv 0)) Zh)) Ze))))) (Zn (Zy Jy)) ZX)
   (Zj (QI (Ya (ZdB hr.units) (Qx (N:=["_law_part"]) (caps:=[none]) (YW (sc:=Zf Yz) rfl (by decide +kernel)) (YY (sc:=Zf Yz) (XN:=J1) rfl rfl (by decide +kernel)) rfl (UG (Za (pv 0))) (Z5 0) (fun _ _ _ _=>YG (i:=0) (show(["_law_part"]:List Str).Nodup by decide +kernel) rfl (Or.inl rfl)) (fun _ _ _ _=>VF (Ux (Qp (Zt d__law_is_spot hr (by decide) rfl (Zc (Za (pv 0)) Zh))))) (fun _ _ _ _=>(Za (pv 0)))) (W4 Zh) (Z4 _)) (Zn (Zy Jy)) ZX)
   (Zn (Zy (Vc (Zt d__law_is_good hr (by decide) rfl (Zc (Za (pv 0)) Zh)) (Vc (ZbH ZmY (Zt d__law_area hr (by decide) rfl (Zc (Za (pv 0)) Zh)) Ze (Z4 _)) (W3 (ZbH (ZmZ hr.units) (ZB Yx (Za (pv 0)) Ze (fun _ _=>rfl)) (ZD (Zg6 rfl hr.units) rfl B.min b_ (Zc (Za (pv 0)) Zh)) (Z4 _)))))))))⟩
 rfl
abbrev JS:Stmt:=top 36
abbrev Ze0:List Str:=["_law_script","_law_plot_here","_law_found","_law_sides","_law_part","_law_left"]
theorem sc_law:Zx Ze0 ["_law_script"] (Zf JS):=⟨rfl,rfl,rfl,by decide +kernel,rfl,by decide +kernel,by decide +kernel⟩
theorem ZlT(B:Blt mg)(d__law_plot:Wm P w K mg base)(d__law_mixed:Vj P w K mg base)(d_cut:ZmT P w K mg base)(d__law_is_plot:J6 P w K mg base)(d__law_next:Y8 P w K mg base)(d__law_area:Jd P w K mg base):OkD P w K mg base "law" JS 8 ["_law_script"] ZeC:=fun F=>Uj F sc_law rfl rfl fun cdv A outer s H E hr=>by
 refine⟨_,?_,(Zj (ZQ (i:=1) sc_law.nd rfl (Or.inr rfl) (Zt d__law_plot hr (by decide) rfl (Zc (Zt d__law_mixed hr (by decide) rfl (Zc (Za (pv 0)) (Zc Ze Zh))) (Zc (ZB Yx (Jh (Zc Ze (Zc Ze (Zc Ze Zh)))) (Zl Jr (Zt d__law_mixed hr (by decide) rfl (Zc (Za (pv 0)) (Zc Ze Zh))) Ze) (fun _ _=>rfl)) Zh))))
   (Zj (ZQ (i:=2) sc_law.nd rfl (Or.inl rfl) (Zt d_cut hr (by decide) rfl (Zc (Za (pv 1)) Zh)))
   (Zj (QI (ZiO (Jj (Ux (Qp (ZbG (T:=.tuple) rfl B.isinstance rfl B.tuple By (Za (pv 2))))) (Jj (Ya (ZdB hr.units) (ZD UR rfl B.len B2 (Zc (Za (pv 2)) Zh)) (Zl QW (ZD UR rfl B.len B2 (Zc (Za (pv 1)) Zh)) Ze) (Z4 _)) (J9 (Ya (ZdB hr.units) (Jx Zjg rfl B.list PyProof.Rows.boot_list (Zc (Za (pv 2)) Zh)) (L5.ed_sortset rfl hr.units rfl B.sorted rfl B.set (Za (pv 2))) (Z4 _)))))) (Zn (Zy Jy)) ZX)
   (Zj (ZQ (i:=3) sc_law.nd rfl (Or.inr rfl) (W4 Zh))
   (Zj (UW PassesOwn.never rfl (UG (Za (pv 2))) (YG (i:=4) sc_law.nd rfl (Or.inr rfl)) (Zj (QI (ZiO (Jj (Ux (Qp (Zt d__law_is_plot hr (by decide) rfl (Zc (Za (pv 4)) Zh)))) (Jj (Ya (ZdB hr.units) (ZD UR rfl B.len B2 (Zc (Za (pv 4)) Zh)) Ze (Z4 _)) (J9 (Ya (ZdB hr.units) (Qx (N:=["_law_spot","_law_plot_here"]) (caps:=[none,some 1]) (YW (sc:=Zf JS) rfl (by decide +kernel)) (YY (sc:=Zf JS) (XN:=Ze0) rfl rfl (by decide +kernel)) rfl (UG (Za (pv 4))) (Z5 0) (fun _ _ _ _=>YG (i:=0) (show(["_law_spot","_law_plot_here"]:List Str).Nodup by decide +kernel) rfl (Or.inl rfl)) (fun _ _ _ _=>VF (Ya (Zcw hr.units) (Za (pv 0)) (Za (pv 1)) (by rfl))) (fun _ _ _ _=>(Za (pv 0)))) (W4 Zh) (Z4 _)))))) (Zn (Zy Jy)) ZX)
   (Zn (ZQ (i:=3) sc_law.nd rfl (Or.inr rfl) (Zl Qd (Za (pv 3)) (Qx (N:=["_law_at","_law_part"]) (caps:=[none,some 4]) (YW (sc:=Zf JS) rfl (by decide +kernel)) (YY (sc:=Zf JS) (XN:=Ze0) rfl rfl (by decide +kernel)) rfl (U0 rfl B.range Ze) (Z5 0) (fun _ _ _ _=>YG (i:=0) (show(["_law_at","_law_part"]:List Str).Nodup by decide +kernel) rfl (Or.inl rfl)) (fun _ _ _ _=>Q2) (fun _ _ _ _=>(Jh (Zc (ZB Yx (Za (pv 1)) (Za (pv 0)) (fun _ _=>rfl)) (Zc (Zt d__law_next hr (by decide) rfl (Zc (Za (pv 1)) (Zc (Za (pv 0)) (Zc Ze Zh)))) Zh))))))))))
   (Zj (QI (Ya (ZdB hr.units) (L5.ed_lenN rfl hr.units rfl B.len rfl B.set (Za (pv 3))) (ZD UR rfl B.len B2 (Zc (Za (pv 3)) Zh)) (Z4 _)) (Zn (Zy Jy)) ZX)
   (Zj (Zcj (i:=5) sc_law.nd rfl (Or.inl rfl) (N:=["_law_pair","_law_sides"]) (caps:=[none,some 3]) (YW (sc:=Zf JS) rfl (by decide +kernel)) (YY (sc:=Zf JS) (XN:=Ze0) rfl rfl (by decide +kernel)) rfl (UG (Za (pv 3))) (Z5 0) (fun _ _ _ _=>YG (i:=0) (show(["_law_pair","_law_sides"]:List Str).Nodup by decide +kernel) rfl (Or.inl rfl)) (fun _ _ _ _=>VF (Ya (Zcw hr.units) (Jh (Zc (ZB Yx (Za (pv 0)) Ze (fun _ _=>rfl)) (Zc (ZB Yx (Za (pv 0)) Ze (fun _ _=>rfl)) Zh))) (Za (pv 1)) (by rfl))) (fun _ _ _ _=>(Za (pv 0))))
   (Zj (QI (Ya (ZdB hr.units) (L4.ed_sort hr.units rfl B.sorted (Za (pv 5))) (L4.ed_sort hr.units rfl B.sorted (Qx (N:=["_law_at","_law_a","_law_plot_here"]) (caps:=[none,none,some 1]) (YW (sc:=Zf JS) rfl (by decide +kernel)) (YY (sc:=Zf JS) (XN:=Ze0) rfl rfl (by decide +kernel)) rfl (ZaK rfl B.enumerate (Za (pv 1))) (UY 0 1) (fun _ _ _ _=>V8 (i:=0) (j:=1) rfl (show(["_law_at","_law_a","_law_plot_here"]:List Str).Nodup by decide +kernel) rfl rfl (Or.inl rfl) (Or.inl rfl)) (fun _ _ _ _=>Q2) (fun _ _ _ _=>(Jh (Zc (Za (pv 1)) (Zc (Zt d__law_next hr (by decide) rfl (Zc (Za (pv 2)) (Zc (Za (pv 0)) (Zc Ze Zh)))) Zh)))))) (Z4 _)) (Zn (Zy Jy)) ZX)
   (Zn (Zy (ZbH (ZmZ hr.units) (ZD (ZnS rfl) rfl B.sum PyProof.Rows.boot_sum (Zc (Qx (N:=["_law_part"]) (caps:=[none]) (YW (sc:=Zf JS) rfl (by decide +kernel)) (YY (sc:=Zf JS) (XN:=Ze0) rfl rfl (by decide +kernel)) rfl (UG (Za (pv 2))) (Z5 0) (fun _ _ _ _=>YG (i:=0) (show(["_law_part"]:List Str).Nodup by decide +kernel) rfl (Or.inl rfl)) (fun _ _ _ _=>Q2) (fun _ _ _ _=>(Zt d__law_area hr (by decide) rfl (Zc (Za (pv 0)) Zh)))) Zh)) (Zt d__law_area hr (by decide) rfl (Zc (Za (pv 1)) Zh)) (Z4 _))))))))))))⟩
 rfl
end
theorem Zmf(ns:List Int):ZeC [.lst (ns.map .int)]=some (.bl true):=by
 have x0:ZR [.lst (ns.map .int),.int 0]=some (.int (ZkW (UP ns 0) 0)):=ZbE ns 0;have x1:ZR [.lst (ns.map .int),.int 1]=some (.int (ZkW (UP ns 1) 1)):=ZbE ns 1;generalize ZkW (UP ns 0) 0=m0 at x0;generalize ZkW (UP ns 1) 1=m1 at x1;generalize hS:D.lst (ns.map .int)=S at x0 x1;have d3:=JV (i:=m1) (j:=3) (by omega);obtain⟨wide,hw,hwide⟩:∃ wide,(wide=4\/wide=9\/wide=100)/\dIx (.tup [.int 4,.int 9,.int 100]) (.int (m1%3))=some (.int wide):=by
  have:m1%3=0\/m1%3=1\/m1%3=2:=by omega
  rcases this with h | h | h
  ·rw[h];exact⟨4,.inl rfl,rfl⟩
  ·rw[h];exact⟨9,.inr (.inl rfl),rfl⟩
  ·rw[h];exact⟨100,.inr (.inr rfl),rfl⟩
 have w3:3<=wide:=by omega
 obtain⟨qs,b,src,b0,b1,pl⟩:=Zil (n:=m0) (wide:=wide) w3 (by omega);have ne:qs.map (shf b)≠[]:=by simpa using src.ne
 have pm:=ZcH (qs.map (shf b));have hr:All (Rg 100) (Y0 (qs.map (shf b))):=fun p hp=>by
  obtain⟨r,hr,rfl⟩:=A8.mp (pm.mem_iff.mp hp);show(-100<=r.1-b/\r.1-b<=100)/\(-100<=r.2/\r.2<=100);rcases src with⟨_,_,_,h⟩ | ⟨far,L,U,_,_,_,h,_⟩
  ·have:=h r hr;omega
  ·have:=h r hr;omega
 have hlen:(Y0 (qs.map (shf b))).length=qs.length:=by rw[pm.length_eq,A_]
 have hl3:=src.len3;have hl12:=src.len;have ar:=ZeW ne;rw[ZeR]at ar;have nz:=src.area;have gc:GoodC (Y0 (qs.map (shf b))):=by
  have g1:=Zij hl3 src.good;have e:qs.map (shf b)=qs.map (mv (-b) 0):=by
   apply Bb;intro p _;unfold shf mv;exact Bw (by simp only;omega) (by simp only;omega)
  rw[e];exact(g1.mv (-b) 0).inOrd
 have h0:cyc (Y0 (qs.map (shf b))) 0=YZ (Y0 (qs.map (shf b))):=by
  unfold Y0;split
  ·exact Wh (by simpa using ne)
  ·exact Wh ne
 have hne:Y0 (qs.map (shf b))≠[]:=fun z=>by
  rw[z]at hlen;simp at hlen;omega
 generalize Y0 (qs.map (shf b))=ps at pl hr hlen ar gc h0 hne;have ha:0<Qf ps:=by rw[Yt hne,ar];omega
 have W:=Zm8 gc h0 ha fun p hp=>by have:=hr p hp;unfold Rg at this ⊢;omega
 have sm:All Sm ps:=fun p hp=>Zls (hr p hp);have C:=Pg.cutting (M:=2001) (by omega) ps.length ps W (by omega);have cf:=Zkt (M:=2001) (by omega) W sm (by omega);generalize Pg.pieces ps.length ps=ts0 at C cf;have C1:=ZdX C (.refl _);have nd1:=Zcr C1;have l1:∀ t∈ts0.map YK,t.length=2+1:=fun t ht=>by obtain⟨_,_,_,rfl,_⟩:=C1.each t ht;rfl
 have len1:(ts0.map YK).length<=60:=by have:=C1.len;omega
 have so:=Zcg nd1 l1 len1;rw[Bj]at so;have so':L4.dSortL (.lst (ts0.map fun t=>tD (YK t)))=some (.lst ((Wo (ts0.map YK)).map tD)):=so;rw[so']at cf;have cf':ZcN [tD ps]=some (.tup ((Wo (ts0.map YK)).map tD)):=cf;have ss:=Zjz l1 len1;have C2:=ZdX C (Zfi nd1 l1);have each2:∀ t∈Wo (ts0.map YK),Zb2 ps t:=fun t ht=>by
  obtain⟨a,b,c,e,h1,h2,h3,h4⟩:=C2.each t ht;refine⟨?_,a,b,c,e,h2,h3,h4⟩;subst e;obtain⟨t0,ht0,e0⟩:=A8.mp (srtT_mem.mp ht);refine ZfQ h1 ?_;rw[<-e0];exact Wh fun z=>by rw[z]at e0;simp[YK]at e0
 generalize Wo (ts0.map YK)=fs at cf' ss C2 each2;have flen:fs.length+2=ps.length:=C2.len;have elen:(fs.flatMap Pg.cycE).length=3*fs.length:=by
  have:∀(l:List (List Pt)),(∀ t∈l,Zb2 ps t)->(l.flatMap Pg.cycE).length=3*l.length:=by
   intro l
   induction l with
   | nil=>intro _;rfl
   | cons t l ih=>
    intro h;obtain⟨_,a,b,c,e,_⟩:=h t A6;rw[Cg,b9,ih fun u hu=>h u (A3 _ hu),e];show 3+3*l.length=3*(l.length+1);omega
  exact this fs each2
 obtain⟨t4,lp⟩:=Zbj hr (.val S) (.val (.tup (fs.map tD))) fs [] .no each2 (by simp;omega);rw[List.nil_append]at lp;have nd:=C2.nd;have bd:=C2.bd;have arE:=C2.ar ZF fun e=>by
  have:=W9 e;unfold Pg.sw;omega
 have lc:=Zgh (fs.flatMap Pg.cycE) (fs.flatMap Pg.cycE) .no;have areas:(fs.map Qf).sum=Qf ps:=by
  rw[Yt hne,Zd2,<-arE];have:∀(l:List (List Pt)),(∀ t∈l,Zb2 ps t)->(l.map Qf).sum=((l.flatMap Pg.cycE).map ZF).sum:=by
   intro l
   induction l with
   | nil=>intro _;rfl
   | cons t l ih=>
    intro h;obtain⟨_,a,b,c,e,_⟩:=h t A6;rw[Cg,bi,List.sum_append,Au,Ck,ih fun u hu=>h u (A3 _ hu),Yt (by rw[e];simp),Zd2]
  exact this fs each2
 have acl:=Zhi fs .no fun t ht=>by
  obtain⟨_,a,b,c,e,h1,h2,h3⟩:=each2 t ht;refine⟨by rw[e];simp,fun p hp=>sm p ?_⟩;rw[e]at hp;rcases A4.mp hp with rfl | hp
  ·exact h1
  ·rcases A4.mp hp with rfl | hp
   ·exact h2
   ·rw[A0]at hp;subst hp;exact h3
 have arng:∀ n∈fs.map Qf,-1000000000000<=n/\n<=1000000000000:=fun n hn=>by
  obtain⟨t,ht,rfl⟩:=A8.mp hn;obtain⟨pz,a,b,c,e,h1,h2,h3⟩:=each2 t ht;subst e;have r1:=hr a h1;have r2:=hr b h2;have r3:=hr c h3;rw[Yt (by simp)];have key:∀ p q:Pt,Rg 100 p->Rg 100 q->-20000<=ZF (p,q)/\ZF (p,q)<=20000:=fun p q hp hq=>by
   unfold Rg at hp hq;have k1:=WQ (x:=p.1) (y:=q.2) (a:=100) (b:=100) (by omega) (by omega) (by omega) (by omega);have k2:=WQ (x:=p.2) (y:=q.1) (a:=100) (b:=100) (by omega) (by omega) (by omega) (by omega);unfold ZF;simp only;omega
  have c1:=key a b r1 r2;have c2:=key b c r2 r3;have c3:=key c a r3 r1;show _<=ZF (a,b)+(ZF (b,c)+(ZF (c,a)+0))/\ZF (a,b)+(ZF (b,c)+(ZF (c,a)+0))<=_;omega
 have sm1:=Znl (ns:=fs.map Qf) (by rw[A_];omega) arng;rw[areas]at sm1;have la:=VA (c:=tD ps) (ps:=ps) rfl hne sm;have pc:=ZfJ hne ps 0 .no .no;have pc':ZW (Y7 0 1) ZH (QD (Zb (Zd 1) (Zb (dFn 3 Zk (Zb (Zd 2) (Zb (Zd 0) (Zb (Zi (.int 1)) Zm)))) Zm))) (YI 0 (ps.map pD)) [.no,.no,.val (tD ps)]=some ((Pg.cycE ps).map sD):=by
  rw[<-Zeg hne];exact pc
 have prn:∀{l:List (Pt×Pt)},l.Nodup->(l.map pr).Nodup:=fun {l} h=>by
  rw[List.Nodup,Bp];exact h.imp fun {a b} z e=>z (by
   unfold pr at e;injection e with e1 e2;injection e2 with e2 _;exact Bw e1 e2)
 have prl:∀{l:List (Pt×Pt)},∀ t∈l.map pr,t.length=1+1:=fun {l} t ht=>by obtain⟨e,_,rfl⟩:=A8.mp ht;rfl
 have ls:=Zl8 (prn nd) (by rw[A_,elen];omega);rw[<-ZjI,A_]at ls;have bl:(Pg.bdE (fs.flatMap Pg.cycE)).length<=60:=by
  have:=List.length_filter_le (fun e=>!decide (Pg.sw e∈fs.flatMap Pg.cycE)) (fs.flatMap Pg.cycE);unfold Pg.bdE;omega
 have ndb:(Pg.bdE (fs.flatMap Pg.cycE)).Nodup:=nd.sublist List.filter_sublist;have s1:=Zcg (prn ndb) prl (by rw[A_];exact bl);have s2:=Zcg (prn (bd.nodup_iff.mp ndb)) prl (by rw[A_,<-bd.length_eq];exact bl);rw[<-ZhF prl (bd.map pr)]at s2;rw[<-ZjI]at s1 s2;generalize hb:Wo ((Pg.bdE (fs.flatMap Pg.cycE)).map pr)=bs at s1 s2;have nb:=Zi1 bs;have lc':ZW (ZC 0) leT (Zd 0) ((fs.flatMap Pg.cycE).map sD) [.no,.val (.lst ((fs.flatMap Pg.cycE).map sD))]=some ((Pg.bdE (fs.flatMap Pg.cycE)).map sD):=lc;have nf:=Zi1 fs;generalize Pg.bdE (fs.flatMap Pg.cycE)=B at s1 lc';generalize hE:fs.flatMap Pg.cycE=E at lp ls lc' elen;generalize Pg.cycE ps=CP at pc' s2;have pl':YH [.int m0,.int wide]=some (tD ps):=pl;unfold ZeC ZA Zms;show(Zp _ (Zp _ (Zp _ (Zp _ (Zp _ (Zp _ (Zp _ (Zp _ _))))))) [.val S,.no,.no,.no,.no,.no]).bind _=_;have e1:Z9 1 (dFn 2 YH (Zb (dFn 2 ZR (Zb (Zd 0) (Zb (Zi (.int 0)) Zm))) (Zb (Zg dIx (QD (Zb (Zi (.int 4)) (Zb (Zi (.int 9)) (Zb (Zi (.int 100)) Zm)))) (Zg Q1 (dFn 2 ZR (Zb (Zd 0) (Zb (Zi (.int 1)) Zm))) (Zi (.int 3)))) Zm))) [.val S,.no,.no,.no,.no,.no]=some (.nx [.val S,.val (tD ps),.no,.no,.no,.no]):=by
  simp -implicitDefEqProofs[x0,x1,d3,hwide,pl']
 rw[Zz,e1];show(Zp _ (Zp _ (Zp _ (Zp _ (Zp _ (Zp _ (Zp _ _)))))) [.val S,.val (tD ps),.no,.no,.no,.no]).bind _=_;have e2:Z9 2 (dFn 1 ZcN (Zb (Zd 1) Zm)) [.val S,.val (tD ps),.no,.no,.no,.no]=some (.nx [.val S,.val (tD ps),.val (.tup (fs.map tD)),.no,.no,.no]):=by
  simp -implicitDefEqProofs[cf']
 rw[Zz,e2];show(Zp _ (Zp _ (Zp _ (Zp _ (Zp _ (Zp _ _))))) [.val S,.val (tD ps),.val (.tup (fs.map tD)),.no,.no,.no]).bind _=_;have e3:(QC (Vv (Ji (Zo (Jz (ZeH .tuple) (Zd 2)))) (Vv (Zo (Zg Qi (ZI Q9 (Zb (Zd 2) Zm)) (Zg Qy (ZI Q9 (Zb (Zd 1) Zm)) (Zi (.int 2))))) (Zo (Zg Qi (ZI JA (Zb (Zd 2) Zm)) (Jz L4.dSortSet (Zd 2)))))) (Yc (Zi (.bl false))) ZV) [.val S,.val (tD ps),.val (.tup (fs.map tD)),.no,.no,.no]=some (.nx [.val S,.val (tD ps),.val (.tup (fs.map tD)),.no,.no,.no]):=by
  have q1:(Zo (Jz (ZeH .tuple) (Zd 2))) [.val S,.val (tD ps),.val (.tup (fs.map tD)),.no,.no,.no]=some true:=rfl;have q2:(Zo (Zg Qi (ZI Q9 (Zb (Zd 2) Zm)) (Zg Qy (ZI Q9 (Zb (Zd 1) Zm)) (Zi (.int 2))))) [.val S,.val (tD ps),.val (.tup (fs.map tD)),.no,.no,.no]=some false:=by
   have k1:Q9 [tD ps]=some (.int ps.length):=by unfold tD;rw[Zi4,A_]
   have k2:Q9 [.tup (fs.map tD)]=some (.int fs.length):=by rw[Zi4,A_]
   have k3:decide ((fs.length:Int)=(ps.length:Int)-2)=true:=decide_eq_true (by omega);rw[Uo,Qg,Qg,JB,JB];show(((Q9 [.tup (fs.map tD)]).bind fun x=>((Q9 [tD ps]).bind fun y=>Qy y (.int 2)).bind fun y=>Qi x y).bind _)=_;rw[k1,k2];show((Qi (.int fs.length) (.int ((ps.length:Int)-2))).bind _)=_;rw[Zl2,k3];rfl
  have q3:(Zo (Zg Qi (ZI JA (Zb (Zd 2) Zm)) (Jz L4.dSortSet (Zd 2)))) [.val S,.val (tD ps),.val (.tup (fs.map tD)),.no,.no,.no]=some false:=by
   rw[Uo,Qg,ZbI];show((L4.dSortSet (.tup (fs.map tD))).bind fun y=>Qi (.lst (fs.map tD)) y).bind _=_;rw[ss,A5,nf];rfl
  rw[ZbL,Zdf,Zfe,q1,A5,A5];show((Vv _ _ _).bind _)=_;rw[Zdf,q2,A5];show((Zo _ _).bind _)=_;rw[q3];rfl
 rw[Zz,e3];show(Zp _ (Zp _ (Zp _ (Zp _ (Zp _ _)))) [.val S,.val (tD ps),.val (.tup (fs.map tD)),.no,.no,.no]).bind _=_;have e4:Z9 3 (Za4 Zm) [.val S,.val (tD ps),.val (.tup (fs.map tD)),.no,.no,.no]=some (.nx [.val S,.val (tD ps),.val (.tup (fs.map tD)),.val (.lst []),.no,.no]):=by
  simp -implicitDefEqProofs
 rw[Zz,e4];show(Zp (W8 (YO (Zd 2)) (ZC 4) paB) (Zp _ (Zp _ (Zp _ _))) [.val S,.val (tD ps),.val (.tup (fs.map tD)),.val (.lst []),.no,.no]).bind _=_;have e5:W8 (YO (Zd 2)) (ZC 4) paB [.val S,.val (tD ps),.val (.tup (fs.map tD)),.val (.lst []),.no,.no]=some (.nx [.val S,.val (tD ps),.val (.tup (fs.map tD)),.val (.lst (E.map sD)),t4,.no]):=by
  have it:YO (Zd 2) [.val S,.val (tD ps),.val (.tup (fs.map tD)),.val (.lst []),.no,.no]=some (fs.map tD):=rfl;rw[W7,it,A5];exact lp
 rw[Zz,e5];show(Zp _ (Zp _ (Zp _ _)) [.val S,.val (tD ps),.val (.tup (fs.map tD)),.val (.lst (E.map sD)),t4,.no]).bind _=_;have e6:(QC (Zo (Zg Qi (Jz L4.dLenSet (Zd 3)) (ZI Q9 (Zb (Zd 3) Zm)))) (Yc (Zi (.bl false))) ZV) [.val S,.val (tD ps),.val (.tup (fs.map tD)),.val (.lst (E.map sD)),t4,.no]=some (.nx [.val S,.val (tD ps),.val (.tup (fs.map tD)),.val (.lst (E.map sD)),t4,.no]):=by
  have k2:Q9 [.lst (E.map sD)]=some (.int E.length):=by rw[Zma,A_]
  rw[ZbL,Uo,Qg,ZbI,JB];show(((L4.dLenSet (.lst (E.map sD))).bind fun x=>(Q9 [.lst (E.map sD)]).bind fun y=>Qi x y).bind _).bind _=_;rw[ls,k2];show((Qi (.int E.length) (.int E.length)).bind _).bind _=_;rw[Zl2,decide_eq_true rfl];rfl
 rw[Zz,e6];show(Zp _ (Zp _ _) [.val S,.val (tD ps),.val (.tup (fs.map tD)),.val (.lst (E.map sD)),t4,.no]).bind _=_;have e7:Z9 5 (Ys [none,some 3] (YO (Zd 3)) (ZC 0) leT (Zd 0)) [.val S,.val (tD ps),.val (.tup (fs.map tD)),.val (.lst (E.map sD)),t4,.no]=some (.nx [.val S,.val (tD ps),.val (.tup (fs.map tD)),.val (.lst (E.map sD)),t4,.val (.lst (B.map sD))]):=by
  have i1:YO (Zd 3) [.val S,.val (tD ps),.val (.tup (fs.map tD)),.val (.lst (E.map sD)),t4,.no]=some (E.map sD):=rfl;have i2:Qj [none,some 3] [.val S,.val (tD ps),.val (.tup (fs.map tD)),.val (.lst (E.map sD)),t4,.no]=[.no,.val (.lst (E.map sD))]:=rfl;rw[W5,Ja,i1,A5,if_pos (Z0 (by rw[A_];omega)),i2,lc'];rfl
 rw[Zz,e7];show(Zp _ _ [.val S,.val (tD ps),.val (.tup (fs.map tD)),.val (.lst (E.map sD)),t4,.val (.lst (B.map sD))]).bind _=_;have e8:(QC (Zo (Zg Qi (Jz L4.dSortL (Zd 5)) (Jz L4.dSortL (Ys [none,none,some 1] (QG (Zd 1)) (Y7 0 1) ZH (QD (Zb (Zd 1) (Zb (dFn 3 Zk (Zb (Zd 2) (Zb (Zd 0) (Zb (Zi (.int 1)) Zm)))) Zm))))))) (Yc (Zi (.bl false))) ZV) [.val S,.val (tD ps),.val (.tup (fs.map tD)),.val (.lst (E.map sD)),t4,.val (.lst (B.map sD))]=some (.nx [.val S,.val (tD ps),.val (.tup (fs.map tD)),.val (.lst (E.map sD)),t4,.val (.lst (B.map sD))]):=by
  have cm:(Ys [none,none,some 1] (QG (Zd 1)) (Y7 0 1) ZH (QD (Zb (Zd 1) (Zb (dFn 3 Zk (Zb (Zd 2) (Zb (Zd 0) (Zb (Zi (.int 1)) Zm)))) Zm)))) [.val S,.val (tD ps),.val (.tup (fs.map tD)),.val (.lst (E.map sD)),t4,.val (.lst (B.map sD))]=some (.lst (CP.map sD)):=by
   have i1:QG (Zd 1) [.val S,.val (tD ps),.val (.tup (fs.map tD)),.val (.lst (E.map sD)),t4,.val (.lst (B.map sD))]=some (YI 0 (ps.map pD)):=Vz rfl rfl;have i2:Qj [none,none,some 1] [.val S,.val (tD ps),.val (.tup (fs.map tD)),.val (.lst (E.map sD)),t4,.val (.lst (B.map sD))]=[.no,.no,.val (tD ps)]:=rfl;have el:∀(l:List D) (k:Nat),(YI k l).length=l.length:=by
    intro l
    induction l with
    | nil=>intro k;rfl
    | cons d l ih=>intro k;simp[YI,ih]
   rw[Ja,i1,A5,if_pos (Z0 (by rw[el,A_];omega)),i2,pc'];rfl
  rw[ZbL,Uo,Qg,ZbI,ZbI,cm];show(((L4.dSortL (.lst (B.map sD))).bind fun x=>(L4.dSortL (.lst (CP.map sD))).bind fun y=>Qi x y).bind _).bind _=_;rw[s1,s2];show((Qi (.lst (bs.map tD)) (.lst (bs.map tD))).bind _).bind _=_;rw[nb];rfl
 rw[Zz,e8];show(Yc _ [.val S,.val (tD ps),.val (.tup (fs.map tD)),.val (.lst (E.map sD)),t4,.val (.lst (B.map sD))]).bind _=_;have cm:(Ys [none] (YO (Zd 2)) (ZC 0) ZH (dFn 1 ZN (Zb (Zd 0) Zm))) [.val S,.val (tD ps),.val (.tup (fs.map tD)),.val (.lst (E.map sD)),t4,.val (.lst (B.map sD))]=some (.lst ((fs.map Qf).map .int)):=by
  have i1:YO (Zd 2) [.val S,.val (tD ps),.val (.tup (fs.map tD)),.val (.lst (E.map sD)),t4,.val (.lst (B.map sD))]=some (fs.map tD):=rfl;have i2:Qj [none] [.val S,.val (tD ps),.val (.tup (fs.map tD)),.val (.lst (E.map sD)),t4,.val (.lst (B.map sD))]=[.no]:=rfl;rw[Ja,i1,A5,if_pos (Z0 (by rw[A_];omega)),i2,acl];rfl
 rw[W6,Qg,JB,Uq,cm];show(Option.map _ ((ZkZ [.lst ((fs.map Qf).map .int)]).bind fun x=>(ZN [tD ps]).bind fun y=>Ze2 x y)).bind _=_;rw[sm1,la];show(Option.map _ (Ze2 (.int (Qf ps)) (.int (Qf ps)))).bind _=_;rw[ZnM,decide_eq_true rfl];rfl
theorem all_mk{l:PySem.W.OpenLaw}{w:World}{K:Frag}{h:Heap}{mg:Str->Option Value}{fa:Addr}(X:K.In h)(G:h.Ns mainGlobals mg)(hfa:mg "law"=some (.ref fa))
  (a0:Df K "turn" Zfw)
  (a1:Df K "turns_left" Jm)
  (a2:Df K "lies_between" QJ)
  (a3:Df K "lies_on" VS)
  (a4:Df K "sides_of" QV)
  (a5:Df K "least_first" Q3)
  (a6:Df K "lies_on_fence" Yo)
  (a7:Df K "is_crossed_going_right" Z2)
  (a8:Df K "where" VR)
  (a9:Df K "piece_at" UX)
  (a10:Df K "comes_off" Ub)
  (a11:Df K "first_to_come_off" YD)
  (a12:Df K "cut" ZjH)
  (a13:Df K "_law_cell_at" QM)
  (a14:Df K "_law_mixed" Jo)
  (a15:Df K "_law_drawn" Jp)
  (a16:Df K "_law_number" Q4)
  (a17:Df K "_law_turn" Uc)
  (a18:Df K "_law_on" VT)
  (a19:Df K "_law_next" Ud)
  (a20:Df K "_law_area" Uf)
  (a21:Df K "_law_in_order" Qs)
  (a22:Df K "_law_meet" Ue)
  (a23:Df K "_law_turns" Jn)
  (a24:Df K "_law_is_good" QL)
  (a25:Df K "_law_spots" Qb)
  (a26:Df K "_law_saw" Yv)
  (a27:Df K "_law_plot" Qr)
  (a28:Df K "_law_is_spot" QK)
  (a29:Df K "_law_is_plot" Yz)
  (a30:Df K "law" JS)
  {t_FEWEST_CORNERS:Tok}(g_FEWEST_CORNERS:nsIn K mainGlobals "FEWEST_CORNERS"=some (some (.int 3 t_FEWEST_CORNERS)))
  (z_len:nsIn K mainGlobals "len"=some none)
  (z_range:nsIn K mainGlobals "range"=some none)
  (z_enumerate:nsIn K mainGlobals "enumerate"=some none)
  (z_min:nsIn K mainGlobals "min"=some none)
  (z_max:nsIn K mainGlobals "max"=some none)
  (z_abs:nsIn K mainGlobals "abs"=some none)
  (z_sum:nsIn K mainGlobals "sum"=some none)
  (z_any:nsIn K mainGlobals "any"=some none)
  (z_all:nsIn K mainGlobals "all"=some none)
  (z_set:nsIn K mainGlobals "set"=some none)
  (z_sorted:nsIn K mainGlobals "sorted"=some none)
  (z_tuple:nsIn K mainGlobals "tuple"=some none)
  (z_list:nsIn K mainGlobals "list"=some none)
  (z_int:nsIn K mainGlobals "int"=some none)
  (z_str:nsIn K mainGlobals "str"=some none)
  (z_bool:nsIn K mainGlobals "bool"=some none)
  (z_isinstance:nsIn K mainGlobals "isinstance"=some none)
  (z_reversed:nsIn K mainGlobals "reversed"=some none)
  : ∃ fd:FuncData,(∀(s:Shared) (v:Value),BindsTo s fd ⟨[v],[]⟩ [("_law_script",v)])/\∀ base:Heap,K.In base->base.Ns mainGlobals mg->ZiJ l.prog w K mg base CX0 8 fa fd ["_law_script"] (spD K 1 ZeC):=by
 obtain⟨f,fd,b1,F,b2⟩:=a30;have e:=hfa.symm.trans (mg_of X G b1);cases e;have B:Blt mg:=⟨mg_none_of X G z_len,mg_none_of X G z_range,mg_none_of X G z_enumerate,mg_none_of X G z_min,mg_none_of X G z_max,mg_none_of X G z_abs,mg_none_of X G z_sum,mg_none_of X G z_any,mg_none_of X G z_all,mg_none_of X G z_set,mg_none_of X G z_sorted,mg_none_of X G z_tuple,mg_none_of X G z_list,mg_none_of X G z_int,mg_none_of X G z_str,mg_none_of X G z_bool,mg_none_of X G z_isinstance,mg_none_of X G z_reversed⟩;have c_FEWEST_CORNERS:∃ t,mg "FEWEST_CORNERS"=some (.int 3 t):=⟨_,mg_of X G g_FEWEST_CORNERS⟩;obtain⟨oc,od,kV,doc,pm,an,cdv,ct,osl,rfl,lk,hcd⟩:=id F.ex;refine⟨fnOf "law" "law" (Um JS) (QS JS) (Zf JS) .none kV doc pm an cdv ct,fun s v=>.of_eq rfl,fun base _ _=>?_⟩;have d_turn:Zhw l.prog w K mg base:=dk X G a0 (Zj4 B) fun _ _ _ _ _ _ us hl=>match us,hl with | [_,_,_],_=>rfl;have d_turns_left:JE l.prog w K mg base:=dk X G a1 (Zau B d_turn) fun _ _ _ _ _ _ us hl=>match us,hl with | [_,_,_],_=>rfl;have d_lies_between:J4 l.prog w K mg base:=dk X G a2 (VZ B) fun _ _ _ _ _ _ us hl=>match us,hl with | [_,_,_],_=>rfl;have d_lies_on:Zb8 l.prog w K mg base:=dk X G a3 (Zen B d_turn d_lies_between) fun _ _ _ _ _ _ us hl=>match us,hl with | [_,_],_=>rfl;have d_sides_of:U2 l.prog w K mg base:=dk X G a4 (Zcs B) fun _ _ _ _ _ _ us hl=>match us,hl with | [_],_=>rfl;have d_least_first:UT l.prog w K mg base:=dk X G a5 (Wr B) fun _ _ _ _ _ _ us hl=>match us,hl with | [_],_=>rfl
 have d_lies_on_fence:JF l.prog w K mg base:=dk X G a6 (Vm B d_sides_of d_lies_on) fun _ _ _ _ _ _ us hl=>match us,hl with | [_,_],_=>rfl;have d_is_crossed_going_right:YN l.prog w K mg base:=dk X G a7 (QN B d_turns_left) fun _ _ _ _ _ _ us hl=>match us,hl with | [_,_],_=>rfl;have d_where:Zhv l.prog w K mg base:=dk X G a8 (ZhZ B d_lies_on_fence d_sides_of d_is_crossed_going_right) fun _ _ _ _ _ _ us hl=>match us,hl with | [_,_],_=>rfl;have d_piece_at:Zag l.prog w K mg base:=dk X G a9 (Zct B) fun _ _ _ _ _ _ us hl=>match us,hl with | [_,_],_=>rfl;have d_comes_off:Wl l.prog w K mg base:=dk X G a10 (Zbm B d_turns_left d_where) fun _ _ _ _ _ _ us hl=>match us,hl with | [_,_],_=>rfl;have d_first_to_come_off:Qz l.prog w K mg base:=dk X G a11 (JU B d_comes_off d_piece_at) fun _ _ _ _ _ _ us hl=>match us,hl with | [_],_=>rfl
 have d_cut:ZmT l.prog w K mg base:=dk X G a12 (ZlU B c_FEWEST_CORNERS d_first_to_come_off d_least_first) fun _ _ _ _ _ _ us hl=>match us,hl with | [_],_=>rfl
 have d__law_cell_at:J7 l.prog w K mg base:=dk X G a13 (V3 B) fun _ _ _ _ _ _ us hl=>match us,hl with | [_,_],_=>rfl;have d__law_mixed:Vj l.prog w K mg base:=dk X G a14 (Zax B d__law_cell_at) fun _ _ _ _ _ _ us hl=>match us,hl with | [_,_],_=>rfl;have d__law_drawn:JH l.prog w K mg base:=dk X G a15 (Zay B) fun _ _ _ _ _ _ us hl=>match us,hl with | [_,_],_=>rfl;have d__law_number:UU l.prog w K mg base:=dk X G a16 (Ws B) fun _ _ _ _ _ _ us hl=>match us,hl with | [_,_,_],_=>rfl;have d__law_turn:QA l.prog w K mg base:=dk X G a17 (Zbn B) fun _ _ _ _ _ _ us hl=>match us,hl with | [_,_,_],_=>rfl;have d__law_on:Zb9 l.prog w K mg base:=dk X G a18 (Zeo B d__law_turn) fun _ _ _ _ _ _ us hl=>match us,hl with | [_,_,_],_=>rfl;have d__law_next:Y8 l.prog w K mg base:=dk X G a19 (Zbp B) fun _ _ _ _ _ _ us hl=>match us,hl with | [_,_,_],_=>rfl;have d__law_area:Jd l.prog w K mg base:=dk X G a20 (Zbr B d__law_next) fun _ _ _ _ _ _ us hl=>match us,hl with | [_],_=>rfl;have d__law_in_order:JG l.prog w K mg base:=dk X G a21 (Vn B d__law_area) fun _ _ _ _ _ _ us hl=>match us,hl with | [_],_=>rfl;have d__law_meet:Wn l.prog w K mg base:=dk X G a22 (Zbq B d__law_on d__law_turn) fun _ _ _ _ _ _ us hl=>match us,hl with | [_,_,_,_],_=>rfl;have d__law_turns:Vh l.prog w K mg base:=dk X G a23 (Zav B d__law_turn d__law_next) fun _ _ _ _ _ _ us hl=>match us,hl with | [_],_=>rfl;have d__law_is_good:QT l.prog w K mg base:=dk X G a24 (V2 B d__law_turns d__law_next d__law_meet) fun _ _ _ _ _ _ us hl=>match us,hl with | [_],_=>rfl;have d__law_spots:Vi l.prog w K mg base:=dk X G a25 (Zaw B d__law_drawn) fun _ _ _ _ _ _ us hl=>match us,hl with | [_,_,_],_=>rfl;have d__law_saw:Zah l.prog w K mg base:=dk X G a26 (Zcu B d__law_drawn d__law_turn d__law_next) fun _ _ _ _ _ _ us hl=>match us,hl with | [_,_],_=>rfl;have d__law_plot:Wm l.prog w K mg base:=dk X G a27 (Zbo B d__law_spots d__law_is_good d__law_saw d__law_in_order) fun _ _ _ _ _ _ us hl=>match us,hl with | [_,_],_=>rfl;have d__law_is_spot:J5 l.prog w K mg base:=dk X G a28 (V0 B d__law_number) fun _ _ _ _ _ _ us hl=>match us,hl with | [_],_=>rfl;have d__law_is_plot:J6 l.prog w K mg base:=dk X G a29 (V1 B d__law_is_spot d__law_is_good d__law_area) fun _ _ _ _ _ _ us hl=>match us,hl with | [_],_=>rfl;exact ZlT B d__law_plot d__law_mixed d_cut d__law_is_plot d__law_next d__law_area F
theorem walk{l:PySem.W.OpenLaw}{q:Program}{loose:List Str}{XP:(Str->Option Value)->Heap->Prop}{YP:World->Heap->Prop}{d:DefRec}{K:Params->Frag}(hn:l.most=some 63)(hdf:d.params.defaults=[])
  (hY:∀(w:World) (h:Heap),YP w h->(K w.params).In h)
  (F:∀(w:World) (mg:Str->Option Value) (fa:Addr) (h:Heap),(K w.params).In h->h.Ns mainGlobals mg->mg d.name=some (.ref fa) ->
   ∃ fd:FuncData,(∀(s:Shared) (u:Value),BindsTo s fd ⟨[u],[]⟩ [("_law_script",u)])/\∀ base:Heap,(K w.params).In base->base.Ns mainGlobals mg->ZiJ l.prog w (K w.params) mg base CX0 8 fa fd ["_law_script"] (spD (K w.params) 1 ZeC)) :
  PySem.W.WalkO q loose XP YP l.row.toRowW d [] (fun f vs=>PySem.call f vs):=
 L2.walk_of (n:=63) (k:=8) (x:="_law_script") (CX:=fun _=>CX0) (sp:=fun w=>spD (K w.params) 1 ZeC) hn (by decide) hdf ⟨rfl,by decide,by decide⟩ hY F (fun w H a ns hl _ hS=>Zme hl hS Zmf) fun _ _ _ _ _ z=>z
end Pl.k30
namespace PySem.W.Fast
def tw10228000009870420699:=0
def tw12903682150910285855:=0
def tw4001899872764307736:=0
def tw9720376529390558966:=0
def tw4547604990381097959:=0
def tw2974217481169571077:=0
def tw12306232637754744357:=0
def tw16973278860809391025:=0
def tw3340156242653234162:=0
def tw5797979640436285274:=0
def tw2268205815216342182:=0
def tw11622683606457482781:=0
def tw7048560829397864000:=0
def tw6206259772148620076:=0
def tw11153370320806858510:=0
def tw2942829465092397309:=0
def tw1090386773258314497:=0
def tw7041553921937783494:=0
def tw17499760302701513441:=0
def tw7497180366972134487:=0
def tw11990337567716085597:=0
def tw15159481793683888797:=0
def tw7520605713674741861:=0
def tw6853881028827560463:=0
def tw16105546815902881419:=0
def tw15476216329072183613:=0
def tw5418905722672028230:=0
def tw11606337150729184664:=0
def tw7429021016425687805:=0
def tw5112339730038260050:=0
def tw7741810655734452484:=0
def tw15980922362694524017:=0
def tw1082646612619276306:=0
def tw11415329572519019104:=0
def tw12880810440389812018:=0
def tw8525247444377945355:=0
def tw16919477503081711195:=0
def tw28277636391393392:=0
def tw10494477064640865446:=0
def tw5270137345169017960:=0
def tw4813218427331410623:=0
def tw17097294775096078616:=0
def tw17937291463245639581:=0
def tw17275707105971551042:=0
def tw3870937324498803055:=0
def tw10135476645642303585:=0
def tw4383319680493931262:=0
def tw3416069462210475303:=0
def tw11374587489417964050:=0
def tw5353343936410594765:=0
def tw11090065061842387702:=0
def tw4840506057285700596:=0
def tw7197826106636709301:=0
def tw7410064934548004198:=0
def tw4865544301145558879:=0
def tw1591719055385360493:=0
def tw3980161218720823258:=0
def tw8608082625717486150:=0
def tw11259518665126751021:=0
def tw14176803712986276014:=0
def tw5758619964659808067:=0
def tw5685170466470537073:=0
def tw14835121958028386694:=0
def tw9510387619799386328:=0
def tw565631340683934564:=0
def tw9203338369836520517:=0
def tw10182049305886613161:=0
def tw18083449094905412537:=0
def tw17213285810539765875:=0
def tw13770062799475991374:=0
def tw6625268537391392055:=0
def tw8034671205764685426:=0
def tw9310554117095914921:=0
def tw4186682335470274867:=0
def tw3176205417610594528:=0
def tw6036276739337646152:=0
def tw6276514075001245352:=0
def tw14005251200521547765:=0
def tw2264999466478470173:=0
def tw3796465300026470355:=0
def tw3848759327564656922:=0
def tw622690766167721918:=0
def tw12078090031495025304:=0
def tw13416692745859234735:=0
def tw15803665610801565543:=0
def tw2773433781891902681:=0
def tw1041204176678166175:=0
def tw7285253761999057674:=0
def tw5716461747563041566:=0
def tw81020851383592422:=0
def tw8626345216465477057:=0
def tw5177836505082698570:=0
def tw2719305033478682508:=0
def tw243159282222892573:=0
def tw14865417839732807885:=0
def tw7835761991268695183:=0
def tw9270802361098253941:=0
def tw6885292637334198312:=0
def tw10382524759129352481:=0
def tw14120782794057453896:=0
def tw1258894605733015175:=0
def tw14143662624459858256:=0
def tw14834294433562994242:=0
def tw7590878679149577815:=0
def tw16962828199636690220:=0
def tw1723695464399821483:=0
def tw13999136998592773540:=0
def tw707246260321212134:=0
def tw1984614631458492836:=0
def tw14515026270201256380:=0
def tw14158950966342988179:=0
def tw7158453435443797543:=0
def tw4578984490810356661:=0
def tw6396315614113628259:=0
def tw9565319871582150030:=0
def tw600959467401426761:=0
def tw1599655639463063336:=0
def tw16904805207285222297:=0
def tw11452362625297128351:=0
end PySem.W.Fast
open PySem PySem.W PyProof.Rows
set_option maxRecDepth 100000 in
set_option maxHeartbeats 0 in
theorem PySem.Challenge.cw_plotstead_k30_whole_cut_holds : PySem.Challenge.rw_plotstead_k30_whole_cut.Holds := by
 w_on; o_law; k_head; (case hw=>w_witness2)
 k_fill
 refine Pl.k30.walk (l:=PySem.Challenge.rw_plotstead_k30_whole_cut) rfl rfl (fun w h Y=>PySem.W.kIn_of Y) ?F
 case F=>
  intro w mg fa h KX G hmg
  refine' Pl.k30.all_mk KX G hmg ?_ ?_ ?_ ?_ ?_ ?_ ?_ ?_ ?_ ?_ ?_ ?_ ?_ ?_ ?_ ?_ ?_ ?_ ?_ ?_ ?_ ?_ ?_ ?_ ?_ ?_ ?_ ?_ ?_ ?_ ?_ ?_ ?_ ?_ ?_ ?_ ?_ ?_ ?_ ?_ ?_ ?_ ?_ ?_ ?_ ?_ ?_ ?_ ?_ ?_
  all_goals first | (apply L3.Df.mk; k_is; k_is; k_is; k_is) | (apply L3.GlobK.mk; k_is; k_is) | k_is | skip
