import PyProof.Rows.All
import Wide.All
import OpenK.AllK
import Wide.FinOn
import PyProof.EqAt
import PyProof.EqKinds
import PyProof.NeKinds
import PyProof.TupleCall
import KE.KRevIter
import PyProof.ZipIter
import PyProof.Rows.SetFrom
import PyProof.StrWalks
import PyProof.DictStraight
import PyProof.StrLawsFrom
import PyProof.Rows.StrNews2
import KE.KMinBuiltin
import PyProof.Rows.CallKwBuiltin
import PyProof.Rows.SortShell
import KE.KSortTup
import KE.KBoundM
import KE.KLam
import Lean
import PySem.Challenge.RW_letterlaw_k45_roads_bounded
set_option Elab.async false
set_option linter.all false
set_option maxRecDepth 100000
set_option maxHeartbeats 4000000
namespace L2
open PySem PySem.Spec PyProof.Rows
abbrev Key:=Sum Int Str
def UY:Key -> Value -> Bool
 | .inl k,v=>Value.isInt k v
 | .inr x,v=>Value.isStrOf x v
def KD (w:World):Key -> Int
 | .inl k=>hashInt k
 | .inr x=>hashStr w x
theorem z8:∀ {k:Key} {v:Value},UY k v = true -> (∃ i t,k = Sum.inl i /\ v = Value.int i t) \/ (∃ x t,k = Sum.inr x /\ v = Value.str x t)
 | .inl i,v,h=>by
  obtain ⟨t,e⟩:=Value.isInt_shape (k:=i) (v:=v) h
  exact .inl ⟨i,t,rfl,e⟩
 | .inr x,v,h=>by
  obtain ⟨t,e⟩:=Value.isStrOf_shape (x:=x) (v:=v) h
  exact .inr ⟨x,t,rfl,e⟩
theorem Qo (a b:Int):decide ((Sum.inl a:Key) = Sum.inl b) = (a == b):=by
 by_cases e:a = b
 ·subst e; simp
 ·have h:¬ (Sum.inl a:Key) = Sum.inl b:=fun q=>e (Sum.inl.inj q)
  rw [decide_eq_false h]
  exact (beq_eq_false_iff_ne.mpr e).symm
theorem Qz (a b:Str):decide ((Sum.inr a:Key) = Sum.inr b) = decide (a = b):=by
 by_cases e:a = b
 ·subst e; simp
 ·have h:¬ (Sum.inr a:Key) = Sum.inr b:=fun q=>e (Sum.inr.inj q)
  rw [decide_eq_false h,decide_eq_false e]
theorem US (a:Int) (b:Str):decide ((Sum.inl a:Key) = Sum.inr b) = false:=decide_eq_false (fun q=>nomatch q)
theorem QF (a:Str) (b:Int):decide ((Sum.inr a:Key) = Sum.inl b) = false:=decide_eq_false (fun q=>nomatch q)
def kB (prog:Program) (w:World):PySem.KeyKind prog w Key where
 is:=UY
 hash:=KD w
 inj:=fun v a b ha hb=>by
  rcases z8 ha with ⟨i,t,rfl,rfl⟩ | ⟨x,t,rfl,rfl⟩
  ·rcases z8 hb with ⟨j,u,rfl,e⟩ | ⟨y,u,rfl,e⟩
   ·injection e with e1 _; rw [e1]
   ·exact nomatch e
  ·rcases z8 hb with ⟨j,u,rfl,e⟩ | ⟨y,u,rfl,e⟩
   ·exact nomatch e
   ·injection e with e1 _; rw [e1]
 byValue:=fun k v h=>by
  rcases z8 h with ⟨i,t,rfl,rfl⟩ | ⟨x,t,rfl,rfl⟩ <;> rfl
 pyHash:=fun hv h=>by
  rcases z8 hv with ⟨i,t,rfl,rfl⟩ | ⟨x,t,rfl,rfl⟩
  ·exact wpAny_pyHash_int h
  ·exact wpAny_pyHash_str h
 eqBool:=fun hu hv h=>by
  rcases z8 hu with ⟨i,t,rfl,rfl⟩ | ⟨x,t,rfl,rfl⟩
  ·rcases z8 hv with ⟨j,u,rfl,rfl⟩ | ⟨y,u,rfl,rfl⟩
   ·rw [Qo] at h; exact wpAny_eqBool_int h
   ·rw [US] at h; exact SeqAt.EqAt.int_str i t y u _ _ _ _ h
  ·rcases z8 hv with ⟨j,u,rfl,rfl⟩ | ⟨y,u,rfl,rfl⟩
   ·rw [QF] at h; exact SeqAt.EqAt.str_int x t j u _ _ _ _ h
   ·rw [Qz] at h; exact wpAny_eqBool_str h
 «strs»:=fun k x t v h=>by
  rcases z8 h with ⟨i,u,rfl,e⟩ | ⟨y,u,rfl,e⟩
  ·exact nomatch e
  ·injection e with e1 _
   subst e1
   cases v <;> rfl
end L2
namespace L2
open PySem PySem.Spec PyProof.Rows
inductive V where
 | non | bl (b:Bool) | int (i:Int) | str (x:Str) | byt (b:Array UInt8) | flt (b:UInt64) | ref (a:Addr) | ty (n:String)
 deriving DecidableEq
def RelV:V -> Value -> Prop
 | .non,u=>u = Value.none
 | .bl b,u=>u = Value.bool b
 | .int i,u=>∃ t,u = Value.int i t
 | .str x,u=>∃ t,u = Value.str x t
 | .byt b,u=>∃ t,u = Value.bytes b t
 | .flt b,u=>∃ t,u = Value.float b t
 | .ref a,u=>u = Value.ref a
 | .ty n,u=>u = Value.type n
abbrev Vals:List V -> List Value -> Prop:=Paired RelV
theorem Vals.length {xs:List V} {us:List Value} (r:Vals xs us):xs.length = us.length:=Paired.length r
theorem Vals.get:∀ {xs:List V} {us:List Value} {i:Nat} {x:V},Vals xs us -> xs[i]? = some x -> ∃ u,us[i]? = some u /\ RelV x u
 | _,_,_,_,.nil,e=>by simp at e
 | _,_,0,_,.cons r _,e=>by simp at e; subst e; exact ⟨_,rfl,r⟩
 | _,_,i + 1,x,.cons _ t,e=>by
  obtain ⟨u,h1,h2⟩:=Vals.get (i:=i) (x:=x) t (by simpa using e)
  exact ⟨u,by simpa using h1,h2⟩
theorem Vals.set {x:V} {u:Value} (r:RelV x u):∀ {xs:List V} {us:List Value} (i:Nat),Vals xs us -> Vals (xs.set i x) (us.set i u)
 | _,_,_,.nil=>.nil
 | _,_,0,.cons _ t=>.cons r t
 | _,_,i + 1,.cons q t=>.cons q (Vals.set r i t)
theorem Vals.append:∀ {xs ys:List V} {us ws:List Value},Vals xs us -> Vals ys ws -> Vals (xs ++ ys) (us ++ ws)
 | _,_,_,_,.nil,s=>s
 | _,_,_,_,.cons r t,s=>.cons r (Vals.append t s)
theorem Vals.take:∀ {xs:List V} {us:List Value} (n:Nat),Vals xs us -> Vals (xs.take n) (us.take n)
 | _,_,0,_=>.nil
 | _,_,_ + 1,.nil=>.nil
 | _,_,n + 1,.cons r t=>.cons r (Vals.take n t)
theorem Vals.drop:∀ {xs:List V} {us:List Value} (n:Nat),Vals xs us -> Vals (xs.drop n) (us.drop n)
 | _,_,0,r=>r
 | _,_,_ + 1,.nil=>.nil
 | _,_,n + 1,.cons _ t=>Vals.drop n t
def RelO:Option V -> Option Value -> Prop
 | some v,some u=>RelV v u
 | none,none=>True
 | _,_=>False
def KV {κ:Type}:List (κ × V) -> List (κ × Value) -> Prop:=Paired fun (p:κ × V) (q:κ × Value)=>p.1 = q.1 /\ RelV p.2 q.2
def kV:Key -> V
 | .inl i=>.int i
 | .inr x=>.str x
inductive HO where
  | lst (xs:List V)
  | tup (xs:List V)
  | dK (kvs:List (Key × V)) | dT (kvs:List (List Key × V))
  | set (S:Int -> Bool) (n:Nat)
  | ins (C dx:Addr) (fs:List (Str × V))
  | own (x:Addr)
  | xd (fs:List (Str × V))
  | met (f x:Addr)
  | rng (lo hi:Int)
  | frz (o:Obj) (u:HO)
  | tbl (ps:Array Value)
  | ext (φ:Heap -> Prop)
abbrev Hp:=Addr -> Option HO
def upd (H:Hp) (a:Addr) (o:HO):Hp:=fun b=>if b = a then some o else H b
theorem ze {H:Hp} {a:Addr} {o:HO}:upd H a o a = some o:=by unfold upd; rw [if_pos rfl]
theorem zo {H:Hp} {a b:Addr} {o:HO} (h:b ≠ a):upd H a o b = H b:=by unfold upd; rw [if_neg h]
theorem zz {H:Hp} {a b:Addr} {o:HO} (h:H a = some o) (h':H b = none):a ≠ b:=by
 intro e; subst e; rw [h] at h'; cases h'
section
variable (P:Program) (w:World)
def ObjOk (H:Hp) (h:Heap) (a:Addr):HO -> Prop
 | .lst xs=>xs.length <= sizeLine /\ ∃ (its:List Value) (n:Nat),Vals xs its /\ h.get? a = some { cls:=.type "list",data:=.seq its.toArray n }
 | .tup xs=>xs.length <= sizeLine /\ ∃ its:List Value,Vals xs its /\ IsTup h a its.toArray
 | .dK kvs=>kvs.length <= sizeLine /\ (a == sysModules) = false /\ ∃ vs,KV kvs vs /\ h.DictOf (kB P w) a vs
 | .dT kvs=>kvs.length <= sizeLine /\ (a == sysModules) = false /\ ∃ xs:List (List Key × Addr × Value),
   Paired (fun (p:List Key × V) (q:List Key × Addr × Value)=>p.1 = q.1 /\ H q.2.1 = some (.tup (p.1.map kV)) /\ RelV p.2 q.2.2) kvs xs /\
   ∃ o es ep,h.get? a = some o /\ o.ExactDict /\ o.data = .dict es ep /\ es.toList = xs.map (entryOfKey (tupleKind (kB P w))) /\ (xs.map (·.1)).Nodup
 | .set S n=>h.SetOf (intKind P w) a S n
 | .ins C dx fs=>H dx = some (.own a) /\ fs.length <= 1000 /\ dx ≠ a /\ h.get? a = some (PySem.W.instObj C dx) /\
   ∃ mA,h.Ns1 dx mA /\ (∀ f,RelO (fs.lookup f) (mA f)) /\ PySem.Within mA (fs.map (·.1))
 | .own _=>∃ o,h.get? a = some o
 | .xd fs=>∃ mA,h.Ns1 a mA /\ ∀ f,RelO (fs.lookup f) (mA f)
 | .rng lo hi=>∃ t u v,h.get? a = some { cls:=.type "range",data:=.fields #[.int lo t,.int hi u,.int 1 v] }
 | .frz o u=>h.get? a = some o /\ ObjOk H h a u
 | .tbl ps=>h.get? a = some { cls:=.none,data:=.fields ps }
 | .met f x=>h.get? a = some (PySem.W.methodObj (.ref f) (.ref x))
 | .ext φ=>φ h /\ (∃ o,h.get? a = some o) /\ ∀ h1 h2:Heap,φ h1 -> (∀ o,h1.get? a = some o -> h2.get? a = some o) -> φ h2
def HOk (H:Hp) (h:Heap):Prop:=∀ a o,H a = some o -> ObjOk P w H h a o
end
section
variable {P:Program} {w:World} {H H':Hp} {h h':Heap} {a:Addr} {o:HO}
theorem ObjOk.lt (x:ObjOk P w H h a o):a < h.objs.size:=by
 cases o with
 | lst xs=>obtain ⟨_,_,_,_,e⟩:=x; exact Heap.lt_size e
 | tup xs=>obtain ⟨_,_,_,p⟩:=x; exact p.lt
 | dK kvs=>obtain ⟨_,_,_,_,o,_,_,e,_⟩:=x; exact Heap.lt_size e
 | dT kvs=>obtain ⟨_,_,_,_,o,_,_,e,_⟩:=x; exact Heap.lt_size e
 | set S n=>obtain ⟨o,_,_,_,e,_⟩:=x; exact Heap.lt_size e
 | ins C dx fs=>obtain ⟨_,_,_,e,_⟩:=x; exact Heap.lt_size e
 | own y=>obtain ⟨_,e⟩:=x; exact Heap.lt_size e
 | xd fs=>obtain ⟨_,⟨_,_,_,e,_⟩,_⟩:=x; exact Heap.lt_size e
 | rng lo hi=>obtain ⟨_,_,_,e⟩:=x; exact Heap.lt_size e
 | frz ob u=>obtain ⟨e,_⟩:=x; exact Heap.lt_size e
 | tbl ps=>exact Heap.lt_size (show h.get? a = some _ from x)
 | met f y=>exact Heap.lt_size (show h.get? a = some _ from x)
 | ext φ=>obtain ⟨_,⟨_,e⟩,_⟩:=x; exact Heap.lt_size e
theorem Paired.mapP {α β:Type} {F G:α -> β -> Prop}:∀ {l₁:List α} {l₂:List β},Paired F l₁ l₂ -> (∀ a b,F a b -> G a b) -> Paired G l₁ l₂
 | _,_,.nil,_=>.nil
 | _,_,.cons r t,f=>.cons (f _ _ r) (Paired.mapP t f)
theorem ObjOk.stay (x:ObjOk P w H h a o) (k:∀ b u,(b = a \/ H b = some (.own a)) -> h.get? b = some u -> h'.get? b = some u)
  (ho:∀ b,H b = some (.own a) -> H' b = some (.own a)) (ht:∀ b xs,H b = some (.tup xs) -> H' b = some (.tup xs)):ObjOk P w H' h' a o:=by
 induction o with
 | lst xs=>obtain ⟨z,its,n,r,e⟩:=x; exact ⟨z,its,n,r,k _ _ (.inl rfl) e⟩
 | tup xs=>obtain ⟨z,its,r,ob,e,c⟩:=x; exact ⟨z,its,r,ob,k _ _ (.inl rfl) e,c⟩
 | dK kvs=>obtain ⟨z,y,vs,r,ob,es,ep,e,c⟩:=x; exact ⟨z,y,vs,r,ob,es,ep,k _ _ (.inl rfl) e,c⟩
 | dT kvs =>
  obtain ⟨z,y,xs,r,ob,es,ep,e,c⟩:=x
  exact ⟨z,y,xs,Paired.mapP r fun p q z=>⟨z.1,ht _ _ z.2.1,z.2.2⟩,ob,es,ep,k _ _ (.inl rfl) e,c⟩
 | set S n=>obtain ⟨ob,es,ep,t,e,c⟩:=x; exact ⟨ob,es,ep,t,k _ _ (.inl rfl) e,c⟩
 | ins C dx fs =>
  obtain ⟨d,z,ne,e,mA,⟨od,es,ep,e2,c⟩,r⟩:=x
  exact ⟨ho _ d,z,ne,k _ _ (.inl rfl) e,mA,⟨od,es,ep,k _ _ (.inr d) e2,c⟩,r⟩
 | own y=>obtain ⟨ob,e⟩:=x; exact ⟨ob,k _ _ (.inl rfl) e⟩
 | xd fs=>obtain ⟨mA,⟨od,es,ep,e,c⟩,r⟩:=x; exact ⟨mA,⟨od,es,ep,k _ _ (.inl rfl) e,c⟩,r⟩
 | rng lo hi=>obtain ⟨t,u,v,e⟩:=x; exact ⟨t,u,v,k _ _ (.inl rfl) e⟩
 | frz ob u ih=>obtain ⟨e,q⟩:=x; exact ⟨k _ _ (.inl rfl) e,ih q⟩
 | tbl ps =>
  have e:h.get? a = some { cls:=.none,data:=.fields ps }:=x
  show h'.get? a = some { cls:=.none,data:=.fields ps }
  exact k a _ (.inl rfl) e
 | met f y =>
  have e:h.get? a = some (PySem.W.methodObj (.ref f) (.ref y)):=x
  show h'.get? a = some (PySem.W.methodObj (.ref f) (.ref y))
  exact k a _ (.inl rfl) e
 | ext φ=>obtain ⟨p,⟨o,e⟩,st⟩:=x; exact ⟨st _ _ p fun o q=>k _ _ (.inl rfl) q,⟨o,k _ _ (.inl rfl) e⟩,st⟩
theorem HOk.lt (x:HOk P w H h) (e:H a = some o):a < h.objs.size:=(x a o e).lt
theorem HOk.fresh (x:HOk P w H h) (e:h.objs.size <= a):H a = none:=by
 cases q:H a with
 | none=>rfl
 | some u=>exact absurd (Nat.lt_of_lt_of_le (x.lt q) e) (Nat.lt_irrefl _)
theorem HOk.kept (x:HOk P w H h) (k:∀ b u,h.get? b = some u -> h'.get? b = some u):HOk P w H h':=fun a o e =>
 (x a o e).stay (fun b u _ q=>k b u q) (fun _ q=>q) fun _ _ q=>q
theorem HOk.laid (x:HOk P w H h) (k:∀ b u,h.get? b = some u -> h'.get? b = some u) (hp:h.objs.size <= a) (new:ObjOk P w (upd H a o) h' a o):HOk P w (upd H a o) h':=fun b u e=>by
 have hn:=x.fresh hp
 by_cases hb:b = a
 ·subst hb; rw [ze] at e; cases e; exact new
 ·rw [zo hb] at e
  exact (x b u e).stay (fun c v _ q=>k c v q) (fun c q=>by rw [zo (zz q hn)]; exact q) fun c xs q=>by rw [zo (zz q hn)]; exact q
end
def Rd (H:Hp) (a:Addr) (u:HO):Prop:=H a = some u \/ ∃ o,H a = some (.frz o u)
theorem Rd.ok {P:Program} {w:World} {H:Hp} {h:Heap} {a:Addr} {u:HO} (r:Rd H a u) (x:HOk P w H h):ObjOk P w H h a u:=by
 rcases r with r | ⟨o,r⟩
 ·exact x a u r
 ·obtain ⟨_,q⟩:=x a _ r
  exact q
def Mut:Option HO -> Prop
 | some (.lst _)=>True
 | some (.dK _)=>True
 | some (.dT _)=>True
 | some (.set _ _)=>True
 | some (.ins _ _ _)=>True
 | some (.ext _)=>True
 | _=>False
section
variable {P:Program} {w:World} {H:Hp} {h h':Heap} {x e:Addr} {o':HO}
theorem HOk.write (ok:HOk P w H h) (mu:Mut (H x)) (he:e = x \/ H e = some (.own x)) (k:∀ b u,b ≠ e -> h.get? b = some u -> h'.get? b = some u) (heo:∃ u,h'.get? e = some u)
  (new:ObjOk P w (upd H x o') h' x o'):HOk P w (upd H x o') h':=fun b u q=>by
 have nown:∀ c y,H c = some (.own y) -> c ≠ x:=fun c y r z=>by subst z; rw [r] at mu; exact mu
 have ntup:∀ c xs,H c = some (.tup xs) -> c ≠ x:=fun c xs r z=>by subst z; rw [r] at mu; exact mu
 by_cases hb:b = x
 ·subst hb; rw [ze] at q; cases q; exact new
 ·rw [zo hb] at q
  by_cases hbe:b = e
  ·have q':H b = some (.own x):=by
    rcases he with z | z
    ·exact absurd (hbe.trans z) hb
    ·rw [hbe]; exact z
   rw [q] at q'; cases q'
   obtain ⟨v,hv⟩:=heo
   exact ⟨v,by rw [hbe]; exact hv⟩
  ·refine (ok b u q).stay (fun c v hc r=>k c v ?_ r) (fun c r=>by rw [zo (nown c b r)]; exact r) fun c xs r=>by rw [zo (ntup c xs r)]; exact r
   rcases hc with rfl | hc
   ·exact hbe
   ·rintro rfl
    rcases he with z | z
    ·exact nown c b hc z
    ·rw [hc] at z; cases z; exact hb rfl
end
structure Un (fs ex:List Addr) (H H':Hp) (h h':Heap):Prop where
 keep:∀ b o,h.get? b = some o -> H b = none -> b ∉ fs -> b ∉ ex -> h'.get? b = some o
 slot:∀ b o,h.get? b = some o -> H b = none -> b ∈ fs -> b ∉ ex -> ∃ sl,h'.get? b = some { o with slots:=sl }
 free:∀ b o,h.get? b = some o -> H b = none -> b ∉ ex -> H' b = none
 there:∀ b o,h.get? b = some o -> b ∉ ex -> ∃ o',h'.get? b = some o'
 tups:∀ b xs,H b = some (.tup xs) -> H' b = some (.tup xs)
 frzs:∀ b o u,H b = some (.frz o u) -> H' b = some (.frz o u)
 tbls:∀ b ps,H b = some (.tbl ps) -> ∃ more,H' b = some (.tbl (ps ++ more))
section
variable {fs fs' ex ex':List Addr} {H H1 H2:Hp} {h h1 h2 h':Heap} {a x e:Addr} {o:HO}
theorem Un.any (u:Un fs ex H H1 h h1) {b:Addr} {ob:Obj} (q:h.get? b = some ob) (n:H b = none) (hx:b ∉ ex):∃ sl,h1.get? b = some { ob with slots:=sl }:=by
 by_cases hb:b ∈ fs
 ·exact u.slot b ob q n hb hx
 ·exact ⟨ob.slots,u.keep b ob q n hb hx⟩
theorem Un.kept (k:∀ b u,h.get? b = some u -> h'.get? b = some u):Un fs ex H H h h' :=
 ⟨fun b ob q _ _ _=>k b ob q,fun b ob q _ _ _=>⟨ob.slots,k b ob q⟩,fun _ _ _ n _=>n,fun b ob q _=>⟨ob,k b ob q⟩,fun _ _ q=>q,fun _ _ _ q=>q,fun _ ps q=>⟨#[],by rw [q]; simp⟩⟩
theorem Un.refl:Un fs ex H H h h:=Un.kept fun _ _ q=>q
theorem Un.laid (k:∀ b u,h.get? b = some u -> h'.get? b = some u) (hp:h.objs.size <= a) (hn:H a = none):Un fs ex H (upd H a o) h h' where
 keep:=fun b u q _ _ _=>k b u q
 slot:=fun b u q _ _ _=>⟨u.slots,k b u q⟩
 free:=fun b u q n _=>by rw [zo (Nat.ne_of_lt (Nat.lt_of_lt_of_le (Heap.lt_size q) hp))]; exact n
 there:=fun b u q _=>⟨u,k b u q⟩
 tups:=fun b xs q=>by rw [zo (zz q hn)]; exact q
 frzs:=fun b u xs q=>by rw [zo (zz q hn)]; exact q
 tbls:=fun b ps q=>⟨#[],by rw [zo (zz q hn),q]; simp⟩
theorem Un.write (mu:Mut (H x)) (he:e = x \/ H e = some (.own x)) (k:∀ b u,b ≠ e -> h.get? b = some u -> h'.get? b = some u) (heo:∃ u,h'.get? e = some u):Un fs ex H (upd H x o) h h':=by
 have hx:∀ b,H b = none -> b ≠ x:=fun b n z=>by subst z; rw [n] at mu; exact mu
 have hb:∀ b,H b = none -> b ≠ e:=fun b n z=>by
  subst z
  rcases he with r | r
  ·exact hx b n r
  ·rw [n] at r; cases r
 have hm:∀ b u,H b = some u -> ¬ Mut (some u) -> b ≠ x:=fun b u q nm z=>by subst z; rw [q] at mu; exact nm mu
 refine ⟨fun b u q n _ _=>k b u (hb b n) q,fun b u q n _ _=>⟨u.slots,k b u (hb b n) q⟩,fun b u q n _=>by rw [zo (hx b n)]; exact n,fun b u q _=>?_,
  fun b xs q=>by rw [zo (hm b _ q fun z=>z)]; exact q,fun b u xs q=>by rw [zo (hm b _ q fun z=>z)]; exact q,fun b ps q=>⟨#[],by rw [zo (hm b _ q fun z=>z),q]; simp⟩⟩
 by_cases hbe:b = e
 ·subst hbe; exact heo
 ·exact ⟨u,k b u hbe q⟩
end
def trk (h:Heap) (H:Hp):List Addr:=(List.range h.objs.size).filter fun a=>(H a).isSome
def WN (h:Heap) (H:Hp):Heap:=PySem.W.hideAll h (trk h H)
theorem Y1 (h:Heap) (H:Hp):(WN h H).objs.size = h.objs.size:=PySem.W.hideAll_size _ _
theorem WB {h:Heap} {H:Hp} {b:Addr} {o:Obj} (e:h.get? b = some o) (n:H b = none):(WN h H).get? b = some o :=
 PySem.W.hideAll_get _ e fun hm=>by
  have q:(H b).isSome = true:=(List.mem_filter.mp hm).2
  rw [n] at q; simp at q
theorem Ux {h:Heap} {H:Hp} {b:Addr} {o:Obj} (e:(WN h H).get? b = some o):h.get? b = some o /\ H b = none:=by
 have e':h.get? b = some o:=PySem.W.of_hideAll (trk h H) e
 refine ⟨e',?_⟩
 cases q:H b with
 | none=>rfl
 | some x =>
  have hm:b ∈ trk h H:=List.mem_filter.mpr ⟨List.mem_range.mpr (Heap.lt_size e'),by simp [q]⟩
  have z:(WN h H).get? b = none:=PySem.W.hideAll_none (trk h H) hm
  rw [z] at e; cases e
def Ua (g h:Heap) (L:Addr):List (Addr × Obj):=(List.range h.objs.size).filterMap fun a=>if a = L \/ (g.get? a).isSome = true then none else (h.get? a).map fun o=>(a,o)
def rest (g h:Heap) (L d:Addr):List (Addr × Obj):=(Ua g h L).filter fun p=>decide (p.1 ≠ d)
end L2
namespace L2
open PySem PySem.Spec PyProof.Rows
structure Mod (K:PySem.W.Frag) (mg:Str -> Option Value) (base:Heap):Prop where
 kin:K.In base
 glob:base.Ns mainGlobals mg
 blt:∃ mb,base.Ns builtinsNs mb /\ ∀ x:Str,x ≠ "__name__" -> mb x = bootBuiltins x
 nolimit:base.NoLimit
structure Cx where
 prog:Program
 w:World
 K:PySem.W.Frag
 mg:Str -> Option Value
 base:Heap
 A:Around
 N:List Str
 s₀:Shared
 H₀:Hp
 env:Env
 outer:List Env
 stack:List Env
 ex:List Addr
 fn:Str -> Bool
 calm:Bool
 pn:List (Addr × Obj)
 xe:Value -> Shared -> Prop
def frs (l:List Env):List Addr:=l.filterMap (·.frame)
abbrev Cx.fs (X:Cx):List Addr:=frs X.outer
def Vis (sc:Scope) (x:Str):Prop:=sc.names.lookup x = some .local \/ sc.names.lookup x = some .cell \/ sc.names.lookup x = some .free
def Loc (sc:Scope) (x:Str):Prop:=sc.names.lookup x = some .local \/ sc.names.lookup x = some .cell
def KC (env:Env) (h:Heap) (m:Str -> Option Value) (x:Str) (u:Value):Prop :=
 (env.kindOf x = some .local /\ m x = some u) \/ ((env.kindOf x = some .cell \/ env.kindOf x = some .free) /\ ∃ c,env.cells.lookup x = some c /\ h.IsCell c (some u))
structure Cx.Ok (X:Cx):Prop where
 mod:Mod X.K X.mg X.base
 kind:X.env.scope.kind = .function
 glob:X.env.globals = mainGlobals
 blt:X.env.builtins = builtinsNs
 above:X.s₀.heap.objs.size <= X.env.locals
 inj:∀ x y c,X.env.cells.lookup x = some c -> X.env.cells.lookup y = some c -> x = y
 has:∀ x,(X.env.kindOf x = some .cell \/ X.env.kindOf x = some .free) -> ∃ c,X.env.cells.lookup x = some c
 cab:∀ x c,X.fn x = true -> X.env.cells.lookup x = some c -> X.s₀.heap.objs.size <= c
 hd:X.calm = true -> X.A.handled = none
 frames:X.A.frames = some X.stack
 stk:X.stack = X.outer \/ (X.stack = X.env :: X.outer /\ X.env.frame = some X.env.locals)
 exf:∀ b ∈ X.ex,b ≠ X.env.locals /\ ∀ x c,X.env.cells.lookup x = some c -> c ≠ b
 bs:∀ b o,X.base.get? b = some o -> X.s₀.heap.get? b = some o /\ X.H₀ b = none
 bsz:X.base.objs.size <= X.s₀.heap.objs.size
 noex:∀ b o,X.base.get? b = some o -> b ∉ X.ex
 exfs:∀ b ∈ X.ex,b ∉ X.fs
 funs:X.s₀.heap.FunFrames X.base X.outer
 frf:∀ b ∈ X.fs,X.H₀ b = none
structure Inv (X:Cx) (pins:List (Addr × Obj)) (σ:List (Option V)) (H:Hp) (s:Shared):Prop where
 ok:X.Ok
 os:s.os = X.s₀.os
 bare:AllBare s.gens
 base:Un X.fs X.ex X.H₀ H X.s₀.heap s.heap
 loc:∃ m,s.heap.Ns X.env.locals m /\ ∀ (i:Nat) (x:Str) (v:V),X.N[i]? = some x -> σ[i]? = some (some v) -> Vis X.env.scope x -> ∃ u,RelV v u /\ KC X.env s.heap m x u
 cell:∀ x c,X.env.cells.lookup x = some c -> ∃ v,s.heap.IsCell c v
 free:H X.env.locals = none
 freeC:∀ x c,X.env.cells.lookup x = some c -> H c = none
 pin:∀ p ∈ X.pn ++ pins,s.heap.get? p.1 = some p.2 /\ H p.1 = none /\ p.1 ≠ X.env.locals /\ p.1 ∉ X.fs /\ ∀ v,p.2.data ≠ .cell v
 hok:HOk X.prog X.w H s.heap
 len:σ.length = X.N.length
section
variable {X:Cx} {pins:List (Addr × Obj)} {σ:List (Option V)} {H H':Hp} {s:Shared} {h':Heap}
theorem Cx.Ok.nofr (ok:X.Ok) {b:Addr} {o:Obj} (e:X.base.get? b = some o):b ∉ X.fs:=fun hb=>by
 have:=(ok.funs.mem hb).1
 rw [e] at this; cases this
theorem Inv.bs (I:Inv X pins σ H s):∀ b o,X.base.get? b = some o -> s.heap.get? b = some o /\ H b = none:=fun b o e =>
 ⟨I.base.keep b o (I.ok.bs b o e).1 (I.ok.bs b o e).2 (I.ok.nofr e) (I.ok.noex b o e),I.base.free b o (I.ok.bs b o e).1 (I.ok.bs b o e).2 (I.ok.noex b o e)⟩
theorem Inv.bk (I:Inv X pins σ H s):∀ b o,X.base.get? b = some o -> s.heap.get? b = some o:=fun b o e=>(I.bs b o e).1
theorem Inv.mod (I:Inv X pins σ H s):Mod X.K X.mg X.base:=I.ok.mod
theorem Inv.kIn (I:Inv X pins σ H s):X.K.In s.heap:=I.ok.mod.kin.keeps I.bk
theorem Inv.nolimit (I:Inv X pins σ H s):s.heap.NoLimit:=I.ok.mod.nolimit.keeps I.bk
theorem Inv.fr (I:Inv X pins σ H s):∃ m,Fr X.base X.env.locals s.heap m :=
 let ⟨m,hn,_⟩:=I.loc
 ⟨m,hn,I.bk,Nat.le_trans I.ok.bsz I.ok.above⟩
theorem Inv.lt (I:Inv X pins σ H s):X.env.locals < s.heap.objs.size:=let ⟨_,hn,_⟩:=I.loc; hn.lt
theorem Inv.sz (I:Inv X pins σ H s):X.s₀.heap.objs.size <= s.heap.objs.size:=Nat.le_trans I.ok.above (Nat.le_of_lt I.lt)
theorem Inv.nofs (I:Inv X pins σ H s) {a:Addr} (h:s.heap.objs.size <= a):a ∉ X.fs:=fun hb=>by
 obtain ⟨_,o,ho,_⟩:=I.ok.funs.mem hb
 exact absurd (Nat.lt_of_lt_of_le (Heap.lt_size ho) (Nat.le_trans I.sz h)) (Nat.lt_irrefl _)
theorem Inv.cne (I:Inv X pins σ H s):∀ x c,X.env.cells.lookup x = some c -> c ≠ X.env.locals:=fun x c e z=>by
 obtain ⟨v,o,ho,hd⟩:=I.cell x c e
 obtain ⟨m,⟨o',es,ep,ho',hd',_⟩,_⟩:=I.loc
 rw [z,ho'] at ho; cases ho; rw [hd'] at hd; cases hd
theorem Inv.funs (I:Inv X pins σ H s):s.heap.FunFrames X.base X.outer:=by
 have all:∀ (l:List Env),(∀ b ∈ frs l,b ∈ X.fs) -> X.s₀.heap.FunFrames X.base l -> s.heap.FunFrames X.base l:=by
  intro l
  induction l with
  | nil=>intro _ _; trivial
  | cons env r ih =>
   intro hs hl
   obtain ⟨hk,⟨L,o,hf,hn,ho,hd⟩,hr⟩:=hl
   have hL:L ∈ X.fs:=hs L (by unfold frs; rw [List.filterMap_cons,hf]; exact List.mem_cons_self)
   obtain ⟨sl,e⟩:=I.base.slot L o ho (I.ok.frf L hL) hL fun z=>I.ok.exfs L z hL
   exact ⟨hk,⟨L,_,hf,hn,e,hd⟩,ih (fun b hb=>hs b (by unfold frs; rw [List.filterMap_cons,hf]; exact List.mem_cons_of_mem _ hb)) hr⟩
 exact all X.outer (fun _ hb=>hb) I.ok.funs
theorem Inv.stack (I:Inv X pins σ H s):s.heap.FunFrames X.base X.stack:=by
 rcases I.ok.stk with e | ⟨e,hf⟩
 ·rw [e]; exact I.funs
 ·rw [e]
  obtain ⟨m,hn,_⟩:=I.loc
  refine .cons (by rw [I.ok.kind]; decide) hf hn ?_ I.funs
  exact Heap.get?_none_of_le (Nat.le_trans I.ok.bsz I.ok.above)
theorem Inv.stkSub (I:Inv X pins σ H s):∀ b ∈ frs X.stack,b ∈ X.env.locals :: X.fs:=fun b hb=>by
 rcases I.ok.stk with e | ⟨e,hf⟩
 ·rw [e] at hb; exact List.mem_cons_of_mem _ hb
 ·rw [e] at hb
  unfold frs at hb
  rw [List.filterMap_cons,hf] at hb
  exact hb
theorem Inv.stkFree (I:Inv X pins σ H s):∀ b ∈ frs X.stack,H b = none:=fun b hb=>by
 rcases List.mem_cons.mp (I.stkSub b hb) with e | hb
 ·rw [e]; exact I.free
 ·obtain ⟨_,o,ho,_⟩:=I.ok.funs.mem hb
  exact I.base.free b o ho (I.ok.frf b hb) fun z=>I.ok.exfs b z hb
theorem Inv.step {g':Array GenState} {t':Nat} {d':Drawn} {ch:List Addr} (I:Inv X pins σ H s)
  (hch:∀ b ∈ ch,(b ∈ X.ex \/ X.s₀.heap.objs.size <= b) /\ b ≠ X.env.locals /\ (∀ x c,X.env.cells.lookup x = some c -> c ≠ b) /\ ∀ p ∈ X.pn ++ pins,p.1 ≠ b)
  (keep:∀ b o,b ≠ X.env.locals -> b ∉ X.fs -> b ∉ ch -> s.heap.get? b = some o -> H b = none -> h'.get? b = some o)
  (slot:∀ b o,b ≠ X.env.locals -> b ∈ X.fs -> b ∉ ch -> s.heap.get? b = some o -> H b = none -> ∃ sl,h'.get? b = some { o with slots:=sl }) (free:∀ b o,b ∉ ch -> s.heap.get? b = some o -> H b = none -> H' b = none)
  (there:∀ b o,b ∉ ch -> s.heap.get? b = some o -> ∃ o',h'.get? b = some o')
  (tups:∀ b xs,H b = some (.tup xs) -> H' b = some (.tup xs)) (frzs:∀ b o u,H b = some (.frz o u) -> H' b = some (.frz o u)) (tbls:∀ b ps,H b = some (.tbl ps) -> ∃ more,H' b = some (.tbl (ps ++ more)))
  (ns:∀ m,s.heap.Ns X.env.locals m -> h'.Ns X.env.locals m) (hok:HOk X.prog X.w H' h') (hg:AllBare g') :
  Inv X pins σ H' { s with heap:=h',gens:=g',drawn:=d',toks:=t' }:=by
 have neL:∀ b o,X.s₀.heap.get? b = some o -> b ≠ X.env.locals:=fun b o e=>Nat.ne_of_lt (Nat.lt_of_lt_of_le (Heap.lt_size e) I.ok.above)
 have neC:∀ b o,X.s₀.heap.get? b = some o -> b ∉ X.ex -> b ∉ ch:=fun b o e hx hb=>by
  rcases (hch b hb).1 with z | z
  ·exact hx z
  ·exact absurd (Nat.lt_of_lt_of_le (Heap.lt_size e) z) (Nat.lt_irrefl _)
 have cellK:∀ x c,X.env.cells.lookup x = some c -> ∀ v,s.heap.IsCell c v -> h'.IsCell c v:=fun x c e v ⟨o,ho,hd⟩=>by
  have nch:c ∉ ch:=fun z=>(hch c z).2.2.1 x c e rfl
  by_cases hc:c ∈ X.fs
  ·obtain ⟨sl,q⟩:=slot c o (I.cne x c e) hc nch ho (I.freeC x c e)
   exact ⟨_,q,hd⟩
  ·exact ⟨o,keep c o (I.cne x c e) hc nch ho (I.freeC x c e),hd⟩
 refine ⟨I.ok,I.os,hg,⟨fun b o e n hb hx=>?_,fun b o e n hb hx=>?_,fun b o e n hx=>?_,fun b o e hx=>?_,fun b xs e=>tups b xs (I.base.tups b xs e),fun b o xs e=>frzs b o xs (I.base.frzs b o xs e),fun b ps e=>?_⟩,?_,fun x c e=>?_,?_,fun x c e=>?_,fun p hp=>?_,hok,I.len⟩
 ·exact keep b o (neL b o e) hb (neC b o e hx) (I.base.keep b o e n hb hx) (I.base.free b o e n hx)
 ·obtain ⟨sl,e1⟩:=I.base.slot b o e n hb hx
  obtain ⟨sl',e2⟩:=slot b _ (neL b o e) hb (neC b o e hx) e1 (I.base.free b o e n hx)
  exact ⟨sl',e2⟩
 ·obtain ⟨o',e1⟩:=I.base.there b o e hx
  exact free b o' (neC b o e hx) e1 (I.base.free b o e n hx)
 ·obtain ⟨o',e1⟩:=I.base.there b o e hx
  exact there b o' (neC b o e hx) e1
 ·obtain ⟨m1,e1⟩:=I.base.tbls b ps e
  obtain ⟨m2,e2⟩:=tbls b _ e1
  exact ⟨m1 ++ m2,by rw [e2,Array.append_assoc]⟩
 ·obtain ⟨m,hn,hl⟩:=I.loc
  refine ⟨m,ns m hn,fun i x v e1 e2 e3=>?_⟩
  obtain ⟨u,r,l⟩:=hl i x v e1 e2 e3
  refine ⟨u,r,?_⟩
  rcases l with l | ⟨k,c,e,z⟩
  ·exact .inl l
  ·exact .inr ⟨k,c,e,cellK x c e _ z⟩
 ·obtain ⟨v,z⟩:=I.cell x c e
  exact ⟨v,cellK x c e v z⟩
 ·obtain ⟨m,⟨o,_,_,ho,_⟩,_⟩:=I.loc
  exact free _ o (fun z=>(hch _ z).2.1 rfl) ho I.free
 ·obtain ⟨v,o,ho,hd⟩:=I.cell x c e
  exact free c o (fun z=>(hch c z).2.2.1 x c e rfl) ho (I.freeC x c e)
 ·obtain ⟨e,n,ne,nf,d⟩:=I.pin p hp
  have nch:p.1 ∉ ch:=fun z=>(hch p.1 z).2.2.2 p hp rfl
  exact ⟨keep p.1 p.2 ne nf nch e n,free p.1 p.2 nch e n,ne,nf,d⟩
theorem Inv.un {t':Nat} (I:Inv X pins σ H s) (u:Un X.fs [] H H' s.heap h') (hok:HOk X.prog X.w H' h'):Inv X pins σ H' { s with heap:=h',toks:=t' }:=by
 obtain ⟨m,⟨o,es,ep,ho,r⟩,_⟩:=id I.loc
 obtain ⟨sl,hL⟩:=u.any ho I.free (by simp)
 exact I.step (g':=s.gens) (d':=s.drawn) (ch:=[]) (fun _ z=>nomatch z) (fun b o _ hb _ e n=>u.keep b o e n hb (by simp)) (fun b o _ hb _ e n=>u.slot b o e n hb (by simp)) (fun b o _ e n=>u.free b o e n (by simp)) (fun b o _ e=>u.there b o e (by simp)) u.tups u.frzs u.tbls (fun m' hm=>by
  obtain ⟨o',es',ep',ho',r'⟩:=hm
  rw [ho] at ho'; cases ho'
  exact ⟨_,es',ep',hL,r'⟩) hok I.bare
theorem Inv.call {g':Array GenState} {t':Nat} {d':Drawn} {ch:List Addr} (I:Inv X pins σ H s) (u:Un (frs X.stack) ch H H' s.heap h') (hok:HOk X.prog X.w H' h') (hg:AllBare g')
  (hch:∀ b ∈ ch,(b ∈ X.ex \/ X.s₀.heap.objs.size <= b) /\ b ≠ X.env.locals /\ (∀ x c,X.env.cells.lookup x = some c -> c ≠ b) /\ ∀ p ∈ X.pn ++ pins,p.1 ≠ b) :
  Inv X pins σ H' { s with heap:=h',gens:=g',drawn:=d',toks:=t' }:=by
 obtain ⟨m,⟨o,es,ep,ho,r⟩,_⟩:=id I.loc
 obtain ⟨sl,hL⟩:=u.any ho I.free fun z=>(hch _ z).2.1 rfl
 exact I.step (ch:=ch) hch (fun b o hL hb hc e n=>u.keep b o e n (fun z=>(List.mem_cons.mp (I.stkSub b z)).elim hL hb) hc) (fun b o _ _ hc e n=>u.any e n hc) (fun b o hc e n=>u.free b o e n hc) (fun b o hc e=>u.there b o e hc) u.tups u.frzs u.tbls (fun m' hm=>by
  obtain ⟨o',es',ep',ho',r'⟩:=hm
  rw [ho] at ho'; cases ho'
  exact ⟨_,es',ep',hL,r'⟩) hok hg
theorem Inv.turned {t':Nat} {it:Addr} (I:Inv X pins σ H s) (k:∀ b o,b ≠ it -> s.heap.get? b = some o -> h'.get? b = some o) (hn:H it = none) (hL:it ≠ X.env.locals)
  (h1:it ∈ X.ex \/ X.s₀.heap.objs.size <= it) (h2:∀ x c,X.env.cells.lookup x = some c -> c ≠ it) (h3:∀ p ∈ X.pn ++ pins,p.1 ≠ it):Inv X pins σ H { s with heap:=h',toks:=t' }:=by
 have nit:∀ b u,H b = some u -> b ≠ it:=fun b u e z=>by rw [z,hn] at e; cases e
 refine I.step (g':=s.gens) (d':=s.drawn) (ch:=[it]) (fun b hb=>?_) (fun b o _ _ hc e _=>k b o (fun z=>hc (by simp [z])) e) (fun b o _ _ hc e _=>⟨o.slots,k b o (fun z=>hc (by simp [z])) e⟩) (fun _ _ _ _ n=>n)
  (fun b o hc e=>⟨o,k b o (fun z=>hc (by simp [z])) e⟩) (fun _ _ e=>e) (fun _ _ _ e=>e) (fun b ps e=>⟨#[],by rw [e]; simp⟩) (fun m hm=>?_) (fun b u e=>?_) I.bare
 ·have e:b = it:=by simpa using hb
  subst e
  exact ⟨h1,hL,h2,h3⟩
 ·obtain ⟨o,es,ep,ho,r⟩:=hm
  exact ⟨o,es,ep,k _ o (Ne.symm hL) ho,r⟩
 ·refine (I.hok b u e).stay (fun c v hc q=>k c v ?_ q) (fun _ q=>q) fun _ _ q=>q
  rcases hc with z | z
  ·rw [z]; exact nit b u e
  ·exact nit c _ z
theorem Inv.tok (I:Inv X pins σ H s) (t:Nat):Inv X pins σ H { s with toks:=t }:=I.un (h':=s.heap) (t':=t) Un.refl I.hok
theorem Inv.kept {t':Nat} (I:Inv X pins σ H s) (k:∀ b u,s.heap.get? b = some u -> h'.get? b = some u):Inv X pins σ H { s with heap:=h',toks:=t' }:=I.un (Un.kept k) (I.hok.kept k)
theorem Inv.laid {a:Addr} {o:HO} {t':Nat} (I:Inv X pins σ H s) (k:∀ b u,s.heap.get? b = some u -> h'.get? b = some u) (hp:s.heap.objs.size <= a) (new:ObjOk X.prog X.w (upd H a o) h' a o) :
  Inv X pins σ (upd H a o) { s with heap:=h',toks:=t' }:=I.un (Un.laid k hp (I.hok.fresh hp)) (I.hok.laid k hp new)
theorem Inv.write {x e:Addr} {o:HO} {t':Nat} (I:Inv X pins σ H s) (mu:Mut (H x)) (he:e = x \/ H e = some (.own x)) (k:∀ b u,b ≠ e -> s.heap.get? b = some u -> h'.get? b = some u) (heo:∃ u,h'.get? e = some u)
  (new:ObjOk X.prog X.w (upd H x o) h' x o):Inv X pins σ (upd H x o) { s with heap:=h',toks:=t' }:=I.un (Un.write mu he k heo) (I.hok.write mu he k heo new)
theorem Inv.weak {σ':List (Option V)} (I:Inv X pins σ H s) (hl:σ'.length = σ.length) (w:∀ (i:Nat) v,σ'[i]? = some (some v) -> σ[i]? = some (some v)):Inv X pins σ' H s :=
 ⟨I.ok,I.os,I.bare,I.base,let ⟨m,hn,hl'⟩:=I.loc; ⟨m,hn,fun i x v e1 e2 e3=>hl' i x v e1 (w i v e2) e3⟩,I.cell,I.free,I.freeC,I.pin,I.hok,hl.trans I.len⟩
theorem Inv.pins_of {pins':List (Addr × Obj)} (I:Inv X pins σ H s) (h:∀ p ∈ pins',s.heap.get? p.1 = some p.2 /\ H p.1 = none /\ p.1 ≠ X.env.locals /\ p.1 ∉ X.fs /\ ∀ v,p.2.data ≠ .cell v):Inv X pins' σ H s :=
 ⟨I.ok,I.os,I.bare,I.base,I.loc,I.cell,I.free,I.freeC,fun p hp=>(List.mem_append.mp hp).elim (fun z=>I.pin p (List.mem_append_left _ z)) (h p),I.hok,I.len⟩
theorem qM {N:List Str} (hN:N.Nodup) {i j:Nat} {x:Str} (a:N[i]? = some x) (b:N[j]? = some x):i = j:=by
 obtain ⟨h1,e1⟩:=List.getElem?_eq_some_iff.mp a
 obtain ⟨h2,e2⟩:=List.getElem?_eq_some_iff.mp b
 exact (List.getElem_inj hN).mp (e1.trans e2.symm)
theorem j3 {M:Model} {A:Around} {E:Value -> Shared -> Prop} {i:Nat} {x:Str} {v:V} {u:Value} {Q:Unit -> Shared -> Prop} (I:Inv X pins σ H s) (hN:X.N.Nodup) (hi:X.N[i]? = some x) (hx:Loc X.env.scope x) (r:RelV v u)
  (h:∀ s',Inv X pins (σ.set i (some v)) H s' -> (∃ a,Heap.SameBut a s.heap s'.heap /\ (a = X.env.locals \/ X.env.cells.lookup x = some a)) -> Q () s') (hf:X.fn x = true \/ X.env.scope.names.lookup x = some .local:=by first | exact .inl rfl | exact .inr rfl | assumption):wpAny M A (storeName X.env x u) Q E s:=by
 obtain ⟨m,hn,hl⟩:=id I.loc
 have hcls:(X.env.scope.kind == .class || (X.env.scope.kind == .module && X.env.locals != X.env.globals)) = false:=by rw [I.ok.kind]; rfl
 have hiσ:i < σ.length:=by rw [I.len]; exact (List.getElem?_eq_some_iff.mp hi).1
 have cne:=I.cne
 have tracked:∀ {a:Addr} {h':Heap},(∃ o,s.heap.get? a = some o /\ H a = none) -> Heap.SameBut a s.heap h' -> HOk X.prog X.w H h':=fun {a h'} ha hs b ob e=>by
  obtain ⟨_,_,hfree⟩:=ha
  refine (I.hok b ob e).stay (fun c w' hc q=>(hs.2 c ?_).trans q) (fun _ q=>q) fun _ _ q=>q
  rintro rfl
  rcases hc with rfl | hc
  ·rw [hfree] at e; cases e
  ·rw [hfree] at hc; cases hc
 rcases hx with hk | hk
 ·refine wpAny_storeName_local hk hn (fun h' hn' hs=>?_) hcls
  obtain ⟨oL,_,_,hoL,_⟩:=id hn
  refine h _ ⟨I.ok,I.os,I.bare,⟨fun b o e n hb hx=>?_,fun b o e n hb hx=>?_,I.base.free,fun b o e hx=>?_,I.base.tups,I.base.frzs,I.base.tbls⟩,⟨_,hn',fun j y v' e1 e2 e3=>?_⟩,fun y c e=>?_,I.free,I.freeC,fun p hp=>?_,tracked ⟨oL,hoL,I.free⟩ hs,by simpa using I.len⟩ ⟨_,hs,.inl rfl⟩
  ·exact (hs.2 b (Nat.ne_of_lt (Nat.lt_of_lt_of_le (Heap.lt_size e) I.ok.above))).trans (I.base.keep b o e n hb hx)
  ·obtain ⟨sl,e1⟩:=I.base.slot b o e n hb hx
   exact ⟨sl,(hs.2 b (Nat.ne_of_lt (Nat.lt_of_lt_of_le (Heap.lt_size e) I.ok.above))).trans e1⟩
  ·obtain ⟨o',e1⟩:=I.base.there b o e hx
   exact ⟨o',(hs.2 b (Nat.ne_of_lt (Nat.lt_of_lt_of_le (Heap.lt_size e) I.ok.above))).trans e1⟩
  ·by_cases hj:j = i
   ·subst hj
    rw [hi] at e1; cases e1
    rw [List.getElem?_set_self hiσ] at e2
    cases e2
    exact ⟨u,r,.inl ⟨hk,by simp⟩⟩
   ·rw [List.getElem?_set_ne (Ne.symm hj)] at e2
    obtain ⟨u',r',q⟩:=hl j y v' e1 e2 e3
    refine ⟨u',r',?_⟩
    rcases q with ⟨k,e⟩ | ⟨k,c,e,z⟩
    ·refine .inl ⟨k,?_⟩
     have:y ≠ x:=fun e=>hj (qM hN e1 (e ▸ hi))
     simp [this,e]
    ·exact .inr ⟨k,c,e,z.sameBut hs (cne y c e)⟩
  ·obtain ⟨w',z⟩:=I.cell y c e
   exact ⟨w',z.sameBut hs (cne y c e)⟩
  ·obtain ⟨e,n,ne,nf,d⟩:=I.pin p hp
   exact ⟨(hs.2 p.1 ne).trans e,n,ne,nf,d⟩
 ·have hfn:X.fn x = true:=by
   rcases hf with z | z
   ·exact z
   ·rw [z] at hk; cases hk
  obtain ⟨c,hc⟩:=I.ok.has x (.inl hk)
  obtain ⟨w',z⟩:=I.cell x c hc
  refine wpAny_storeName_cell I.ok.kind hk hc z (fun h' hc' hs=>?_)
  obtain ⟨oc,hoc,hocd⟩:=id z
  refine h { s with heap:=h' } ⟨I.ok,I.os,I.bare,⟨fun b o e n hb hx=>?_,fun b o e n hb hx=>?_,I.base.free,fun b o e hx=>?_,I.base.tups,I.base.frzs,I.base.tbls⟩,⟨m,hn.sameBut hs (Ne.symm (cne x c hc)),fun j y v' e1 e2 e3=>?_⟩,fun y c' e=>?_,I.free,I.freeC,fun p hp=>?_,tracked ⟨oc,hoc,I.freeC x c hc⟩ hs,by simpa using I.len⟩ ⟨c,hs,.inr hc⟩
  ·exact (hs.2 b (Nat.ne_of_lt (Nat.lt_of_lt_of_le (Heap.lt_size e) (I.ok.cab x c hfn hc)))).trans (I.base.keep b o e n hb hx)
  ·obtain ⟨sl,e1⟩:=I.base.slot b o e n hb hx
   exact ⟨sl,(hs.2 b (Nat.ne_of_lt (Nat.lt_of_lt_of_le (Heap.lt_size e) (I.ok.cab x c hfn hc)))).trans e1⟩
  ·obtain ⟨o',e1⟩:=I.base.there b o e hx
   exact ⟨o',(hs.2 b (Nat.ne_of_lt (Nat.lt_of_lt_of_le (Heap.lt_size e) (I.ok.cab x c hfn hc)))).trans e1⟩
  ·by_cases hj:j = i
   ·subst hj
    rw [hi] at e1; cases e1
    rw [List.getElem?_set_self hiσ] at e2
    cases e2
    exact ⟨u,r,.inr ⟨.inl hk,c,hc,hc'⟩⟩
   ·rw [List.getElem?_set_ne (Ne.symm hj)] at e2
    obtain ⟨u',r',q⟩:=hl j y v' e1 e2 e3
    refine ⟨u',r',?_⟩
    rcases q with q | ⟨k,c',e,z'⟩
    ·exact .inl q
    ·refine .inr ⟨k,c',e,z'.sameBut hs ?_⟩
     rintro rfl
     exact hj (qM hN e1 (I.ok.inj _ _ _ e hc ▸ hi))
  ·by_cases hcc:c' = c
   ·subst hcc; exact ⟨_,hc'⟩
   ·obtain ⟨w2,z2⟩:=I.cell y c' e
    exact ⟨w2,z2.sameBut hs hcc⟩
  ·obtain ⟨e,n,ne,nf,d⟩:=I.pin p hp
   refine ⟨(hs.2 p.1 ?_).trans e,n,ne,nf,d⟩
   intro q
   rw [q,hoc] at e
   have q':oc = p.2:=Option.some.inj e
   exact d w' (by rw [<- q']; exact hocd)
theorem jo {M:Model} {A:Around} {E:Value -> Shared -> Prop} {i:Nat} {x:Str} {v:V} {u:Value} {Q:Unit -> Shared -> Prop} (I:Inv X pins σ H s) (hN:X.N.Nodup) (hi:X.N[i]? = some x) (hx:Loc X.env.scope x) (r:RelV v u)
  (h:∀ s',Inv X pins (σ.set i (some v)) H s' -> Q () s') (hf:X.fn x = true \/ X.env.scope.names.lookup x = some .local:=by first | exact .inl rfl | exact .inr rfl | assumption):wpAny M A (storeName X.env x u) Q E s :=
 j3 I hN hi hx r (fun s' I' _=>h s' I') hf
theorem Inv.call' {s':Shared} {ch:List Addr} (I:Inv X pins σ H s) (ho:s'.os = s.os) (u:Un (frs X.stack) ch H H' s.heap s'.heap) (hok:HOk X.prog X.w H' s'.heap) (hg:AllBare s'.gens)
  (hch:∀ b ∈ ch,(b ∈ X.ex \/ X.s₀.heap.objs.size <= b) /\ b ≠ X.env.locals /\ (∀ x c,X.env.cells.lookup x = some c -> c ≠ b) /\ ∀ p ∈ X.pn ++ pins,p.1 ≠ b):Inv X pins σ H' s':=by
 obtain ⟨h',g',d',t',o'⟩:=s'
 have e:o' = s.os:=ho
 subst e
 exact I.call (g':=g') (t':=t') (d':=d') u hok hg hch
end
abbrev XK:=Value -> Option Addr -> Hp -> Prop
abbrev St:=List (Option V)
abbrev VK:=V -> Hp -> Prop
abbrev TE:=St -> Hp -> VK -> Prop
abbrev TT:=St -> Hp -> (Bool -> Hp -> Prop) -> Prop
abbrev TA:=St -> Hp -> (List V -> Hp -> Prop) -> Prop
structure Ends where
 nx:St -> Hp -> Prop
 rt:VK
 bk:St -> Hp -> Prop:=fun _ _=>False
 ct:St -> Hp -> Prop:=fun _ _=>False
abbrev TS:=Ends -> St -> Hp -> Prop
def EP (X:Cx) (pins:List (Addr × Obj)) (σ:St) (Q:VK) (u:Value) (s':Shared):Prop:=∃ v H',Inv X pins σ H' s' /\ RelV v u /\ Q v H'
def TP (X:Cx) (pins:List (Addr × Obj)) (σ:St) (Q:Bool -> Hp -> Prop) (b:Bool) (s':Shared):Prop:=∃ H',Inv X pins σ H' s' /\ Q b H'
def AP (X:Cx) (pins:List (Addr × Obj)) (σ:St) (Q:List V -> Hp -> Prop) (us:List Value) (s':Shared):Prop:=∃ vs H',Inv X pins σ H' s' /\ Vals vs us /\ Q vs H'
def SP (X:Cx) (pins:List (Addr × Obj)) (D:Ends) (f:Flow) (s':Shared):Prop :=
 match f with
 | .next=>∃ σ' H',Inv X pins σ' H' s' /\ D.nx σ' H'
 | .brk=>∃ σ' H',Inv X pins σ' H' s' /\ D.bk σ' H'
 | .cont=>∃ σ' H',Inv X pins σ' H' s' /\ D.ct σ' H'
 | .ret u=>∃ v σ' H',Inv X pins σ' H' s' /\ RelV v u /\ D.rt v H'
def PE (X:Cx) (e:Expr) (t:TE):Prop :=
 ∀ (pins:List (Addr × Obj)) (s:Shared) (σ:St) (H:Hp) (Q:VK),Inv X pins σ H s -> t σ H Q -> wpAny (model X.prog X.w) X.A (eval e X.env) (EP X pins σ Q) X.xe s
def PT (X:Cx) (e:Expr) (t:TT):Prop :=
 ∀ (pins:List (Addr × Obj)) (s:Shared) (σ:St) (H:Hp) (Q:Bool -> Hp -> Prop),Inv X pins σ H s -> t σ H Q -> wpAny (model X.prog X.w) X.A (isTrue e X.env (eval e X.env)) (TP X pins σ Q) X.xe s
def PW (X:Cx) (e:Expr) (t:TT):Prop :=
 ∀ (whole:Sem Value) (pins:List (Addr × Obj)) (s:Shared) (σ:St) (H:Hp) (Q:Bool -> Hp -> Prop),Inv X pins σ H s -> t σ H Q -> wpAny (model X.prog X.w) X.A (isTrue e X.env whole) (TP X pins σ Q) X.xe s
theorem PW.pt {X:Cx} {e:Expr} {t:TT} (h:PW X e t):PT X e t:=h _
def PA (X:Cx) (es:List Expr) (t:TA):Prop :=
 ∀ (pos:Pos) (pins:List (Addr × Obj)) (s:Shared) (σ:St) (H:Hp) (Q:List V -> Hp -> Prop),Inv X pins σ H s -> t σ H Q -> wpAny (model X.prog X.w) X.A (spliced (backTo pos (starEach es X.env))) (AP X pins σ Q) X.xe s
def PS (X:Cx) (st:Stmt) (t:TS):Prop :=
 ∀ (pins:List (Addr × Obj)) (s:Shared) (σ:St) (H:Hp) (D:Ends),Inv X pins σ H s -> t D σ H -> wpAny (model X.prog X.w) X.A (exec st X.env) (SP X pins D) X.xe s
def PSs (X:Cx) (st:List Stmt) (t:TS):Prop :=
 ∀ (pins:List (Addr × Obj)) (s:Shared) (σ:St) (H:Hp) (D:Ends),Inv X pins σ H s -> t D σ H -> wpAny (model X.prog X.w) X.A (execs st X.env) (SP X pins D) X.xe s
theorem thn {α:Type} {t:Sem α} {Q Q':α -> Shared -> Prop} {M:Model} {A:Around} {E:Value -> Shared -> Prop} {s:Shared} (h:wpAny M A t Q E s) (hQ:∀ a s,Q a s -> Q' a s):wpAny M A t Q' E s:=wpAny_mono h hQ fun _ _ x=>x
end L2
namespace L2
open PySem PySem.Spec PyProof.Rows
section
variable {X:Cx}
theorem bin {a b:Expr} {ta tb:TE} (ha:PE X a ta) (hb:PE X b tb) {pins:List (Addr × Obj)} {s:Shared} {σ:St} {H:Hp} {R:V -> V -> Hp -> Prop} (I:Inv X pins σ H s) (h:ta σ H fun x H1=>tb σ H1 fun y H2=>R x y H2)
  {α:Type} {Q:α -> Shared -> Prop} {f:Value -> Value -> Sem α}
  (hf:∀ v u s2 x y H2,Inv X pins σ H2 s2 -> RelV x v -> RelV y u -> R x y H2 -> wpAny (model X.prog X.w) X.A (f v u) Q X.xe s2) :
  wpAny (model X.prog X.w) X.A (eval a X.env) (fun v s₁=>wpAny (model X.prog X.w) X.A (eval b X.env) (fun u s₂=>wpAny (model X.prog X.w) X.A (f v u) Q X.xe s₂) X.xe s₁) X.xe s:=by
 refine thn (ha pins s σ H _ I h) fun v s1 ⟨x,H1,I1,r1,q1⟩=>?_
 refine thn (hb pins s1 σ H1 _ I1 q1) fun u s2 ⟨y,H2,I2,r2,q2⟩=>?_
 exact hf v u s2 x y H2 I2 r1 r2 q2
def wG (i:Nat):TE:=fun σ H Q=>∃ v,σ[i]? = some (some v) /\ Q v H
def tC (v:V):TE:=fun _ H Q=>Q v H
theorem Qf {i:Nat} {x:Str} {pos:Pos} (hN:X.N[i]? = some x) (hv:Vis X.env.scope x) (hd:(x == ("__debug__" : Str)) = false:=by decide) (hcd:(x == ("__classdict__" : Str)) = false:=by decide):PE X (.Name x pos) (wG i):=by
 intro pins s σ H Q I h
 obtain ⟨v,e,h⟩:=h
 obtain ⟨m,hn,hl⟩:=I.loc
 obtain ⟨u,r,l⟩:=hl i x v hN e hv
 have fin:EP X pins σ Q u s:=⟨v,H,I,r,h⟩
 rcases l with ⟨hk,hm⟩ | ⟨hk,c,hc,hcell⟩
 ·exact wpAny_Name (wpAny_loadName_local I.ok.kind hk hn hm fin) hd
 ·rcases hk with hk | hk
  ·exact wpAny_Name (wpAny_loadName_cell I.ok.kind hk hc hcell fin) hd
  ·exact wpAny_Name (wpAny_loadName_free I.ok.kind hk hc hcell fin hcd) hd
theorem zg {i j pos}:PE X (.Constant (.int i) j pos) (tC (.int i)):=fun _ _ _ H _ I h=>wpAny_Constant_int ⟨.int i,H,I.tok _,⟨_,rfl⟩,h⟩
theorem xk {b j pos}:PE X (.Constant (.bool b) j pos) (tC (.bl b)):=fun _ _ _ H _ I h=>Constant_bool ⟨.bl b,H,I,rfl,h⟩
theorem u7 {j pos}:PE X (.Constant .none j pos) (tC .non):=fun _ _ _ H _ I h=>Constant_none ⟨.non,H,I,rfl,h⟩
theorem xX {x j pos}:PE X (.Constant (.str x) j pos) (tC (.str x)):=fun _ _ _ H _ I h=>Calls.Constant_str ⟨.str x,H,I.tok _,⟨_,rfl⟩,h⟩
def Gl (X:Cx) (x:Str):Prop:=X.env.kindOf x = some .globalImplicit
theorem wf {E:Value -> Shared -> Prop} {pins:List (Addr × Obj)} {s:Shared} {σ:St} {H:Hp} {x:Str} {u:Value} {pos:Pos} {Q:Value -> Shared -> Prop} (I:Inv X pins σ H s) (hg:Gl X x) (hm:X.mg x = some u) (h:Q u s)
  (hd:(x == ("__debug__" : Str)) = false:=by decide):wpAny (model X.prog X.w) X.A (eval (.Name x pos) X.env) Q E s :=
 Calls.Name_function_global I.ok.kind hg (Calls.loadGlobal_global (by rw [I.ok.glob]; exact I.mod.glob.keeps I.bk) hm h) hd
theorem vK {E:Value -> Shared -> Prop} {pins:List (Addr × Obj)} {s:Shared} {σ:St} {H:Hp} {x:Str} {u:Value} {pos:Pos} {Q:Value -> Shared -> Prop} (I:Inv X pins σ H s) (hg:Gl X x) (hm:X.mg x = none) (hv:bootBuiltins x = some u) (h:Q u s)
  (hn:x ≠ "__name__":=by decide) (hd:(x == ("__debug__" : Str)) = false:=by decide):wpAny (model X.prog X.w) X.A (eval (.Name x pos) X.env) Q E s:=by
 obtain ⟨mb,h1,h2⟩:=I.mod.blt
 exact Calls.Name_function_global I.ok.kind hg (Calls.loadGlobal_builtin (by rw [I.ok.glob]; exact I.mod.glob.keeps I.bk) hm (by rw [I.ok.blt]; exact h1.keeps I.bk) ((h2 x hn).trans hv) h) hd
theorem uI {x:Str} {v:V} {u:Value} {pos:Pos} (hg:Gl X x) (hm:X.mg x = some u) (r:RelV v u) (hd:(x == ("__debug__" : Str)) = false:=by decide):PE X (.Name x pos) (tC v) :=
 fun _ _ _ H _ I h=>wf I hg hm ⟨v,H,I,r,h⟩ hd
theorem V5 {x:Str} {v:V} {u:Value} {pos:Pos} (hg:Gl X x) (hm:X.mg x = none) (hv:bootBuiltins x = some u) (r:RelV v u) (hn:x ≠ "__name__":=by decide) (hd:(x == ("__debug__" : Str)) = false:=by decide):PE X (.Name x pos) (tC v) :=
 fun _ _ _ H _ I h=>vK I hg hm hv ⟨v,H,I,r,h⟩ hn hd
variable {a b:Expr} {ta tb:TE} {pos:Pos}
variable {tA tB':TT} {rest:List Expr}
def J4 (t u:TT):TT:=fun σ H Q=>t σ H fun c H1=>if c = true then u σ H1 Q else Q false H1
def tOr (t u:TT):TT:=fun σ H Q=>t σ H fun c H1=>if c = true then Q true H1 else u σ H1 Q
def Ue (t:TT):TT:=fun σ H Q=>t σ H fun c H1=>Q (!c) H1
theorem uG (ha:PT X a tA):PW X (.BoolOp .And [a] pos) tA:=by
 intro wh pins s σ H Q I h
 refine isTrue_and (thn (ha pins s σ H Q I h) fun c s1 e=>?_)
 cases c with
 | true=>exact isTrue_and_nil e
 | false=>exact e
theorem qe (ha:PT X a tA):PW X (.BoolOp .Or [a] pos) tA:=by
 intro wh pins s σ H Q I h
 refine isTrue_or (thn (ha pins s σ H Q I h) fun c s1 e=>?_)
 cases c with
 | false=>exact isTrue_or_nil e
 | true=>exact e
theorem jw (ha:PT X a tA) (hb:PW X (.BoolOp .And (b :: rest) pos) tB'):PW X (.BoolOp .And (a :: b :: rest) pos) (J4 tA tB'):=by
 intro wh pins s σ H Q I h
 refine isTrue_and (thn (ha pins s σ H _ I h) fun c s1 ⟨H1,I1,q1⟩=>?_)
 cases c with
 | true=>exact hb wh pins s1 σ H1 Q I1 q1
 | false=>exact ⟨H1,I1,q1⟩
theorem ZQ (ha:PT X a tA) (hb:PW X (.BoolOp .Or (b :: rest) pos) tB'):PW X (.BoolOp .Or (a :: b :: rest) pos) (tOr tA tB'):=by
 intro wh pins s σ H Q I h
 refine isTrue_or (thn (ha pins s σ H _ I h) fun c s1 ⟨H1,I1,q1⟩=>?_)
 cases c with
 | true=>exact ⟨H1,I1,q1⟩
 | false=>exact hb wh pins s1 σ H1 Q I1 q1
theorem yH (ha:PT X a tA):PT X (.UnaryOp .Not a pos) (Ue tA):=by
 intro pins s σ H Q I h
 exact isTrue_not (ha pins s σ H (fun c H1=>Q (!c) H1) I h)
def W6 (ta tb:TE):TE:=fun σ H Q=>ta σ H fun x H1=>∃ c,x = .bl c /\ if c = true then tb σ H1 Q else Q (.bl false) H1
def Kh (ta tb:TE):TE:=fun σ H Q=>ta σ H fun x H1=>∃ c,x = .bl c /\ if c = true then Q (.bl true) H1 else tb σ H1 Q
def VD (ta:TE):TE:=fun σ H Q=>ta σ H fun x H1=>∃ c,x = .bl c /\ Q (.bl (!c)) H1
theorem jK {op} {t:TE} (h:PE X a t):PE X (.BoolOp op [a] pos) t:=fun pins s σ H Q I hw=>BoolOp_one (h pins s σ H Q I hw)
theorem ur (ha:PE X a ta) (hb:PE X (.BoolOp .And (b :: rest) pos) tb):PE X (.BoolOp .And (a :: b :: rest) pos) (W6 ta tb):=by
 intro pins s σ H Q I h
 refine BoolOp_and (thn (ha pins s σ H _ I h) fun v s1 ⟨x,H1,I1,r1,q1⟩=>?_)
 obtain ⟨c,rfl,q1⟩:=q1
 cases r1
 refine wpAny_truthy_bool ?_
 cases c with
 | true=>exact hb pins s1 σ H1 Q I1 q1
 | false=>exact ⟨.bl false,H1,I1,rfl,q1⟩
theorem Vo (ha:PE X a ta):PE X (.UnaryOp .Not a pos) (VD ta):=by
 intro pins s σ H Q I h
 refine UnaryOp_ (thn (ha pins s σ H _ I h) fun v s1 ⟨x,H1,I1,r1,q1⟩=>?_)
 obtain ⟨c,rfl,q1⟩:=q1
 cases r1
 exact not_of (wpAny_truthy_bool ⟨.bl (!c),H1,I1,rfl,q1⟩)
def tIf (t:TT) (ta tb:TE):TE:=fun σ H Q=>t σ H fun c H1=>if c = true then ta σ H1 Q else tb σ H1 Q
theorem WY {c:Expr} (hc:PT X c tA) (ha:PE X a ta) (hb:PE X b tb):PE X (.IfExp c a b pos) (tIf tA ta tb):=by
 intro pins s σ H Q I h
 refine wpAny_IfExp (thn (hc pins s σ H _ I h) fun d s1 ⟨H1,I1,q1⟩=>?_)
 cases d with
 | true=>exact ha pins s1 σ H1 Q I1 q1
 | false=>exact hb pins s1 σ H1 Q I1 q1
end
end L2
namespace L2
open PySem PySem.Spec PyProof.Rows
def SqL (K:PySem.W.Frag) (H:Hp) (a:Addr) (xs:List V):Prop :=
 Rd H a (.lst xs) \/
  ∃ (o:Obj) (its:Array Value) (n:Nat),K.lookup a = some o /\ o.cls = .type "list" /\ o.dict = none /\ o.data = .seq its n /\ its.size <= sizeLine /\ Vals xs its.toList
def SqT (K:PySem.W.Frag) (H:Hp) (a:Addr) (xs:List V):Prop :=
 Rd H a (.tup xs) \/
  ∃ (o:Obj) (its:Array Value) (n:Nat),K.lookup a = some o /\ o.cls = .type "tuple" /\ o.data = .seq its n /\ its.size <= sizeLine /\ Vals xs its.toList
def Ky:Value -> Option V
 | .none=>some .non
 | .bool b=>some (.bl b)
 | .int i _=>some (.int i)
 | .str x _=>some (.str x)
 | .bytes b _=>some (.byt b)
 | .float b _=>some (.flt b)
 | .ref a=>some (.ref a)
 | .type n=>some (.ty n)
 | _=>none
theorem RelV.abs {x:V} {u:Value} (r:RelV x u):Ky u = some x:=by
 cases x with
 | non=>cases r; rfl
 | bl _=>cases r; rfl
 | int _=>obtain ⟨t,rfl⟩:=r; rfl
 | str _=>obtain ⟨t,rfl⟩:=r; rfl
 | byt _=>obtain ⟨t,rfl⟩:=r; rfl
 | flt _=>obtain ⟨t,rfl⟩:=r; rfl
 | ref _=>cases r; rfl
 | ty _=>cases r; rfl
theorem RelV.inj {x y:V} {u:Value} (r:RelV x u) (q:RelV y u):x = y:=Option.some.inj (r.abs.symm.trans q.abs)
theorem Vals.inj:∀ {xs ys:List V} {us:List Value},Vals xs us -> Vals ys us -> xs = ys
 | _,_,_,.nil,.nil=>rfl
 | _,_,_,.cons r t,.cons r' t'=>by rw [r.inj r',Vals.inj t t']
section
variable {X:Cx} {pins:List (Addr × Obj)} {σ:St} {H:Hp} {s:Shared} {a:Addr} {xs ys:List V}
theorem SqL.of {K:PySem.W.Frag} (h:H a = some (.lst xs)):SqL K H a xs:=.inl (.inl h)
theorem SqT.of {K:PySem.W.Frag} (h:H a = some (.tup xs)):SqT K H a xs:=.inl (.inl h)
theorem Inv.list (I:Inv X pins σ H s) (h:SqL X.K H a xs):∃ its:List Value,Vals xs its /\ PlainL s.heap a its.toArray /\ xs.length <= sizeLine:=by
 rcases h with h | ⟨o,its,n,hk,hc,hd,hs,hz,r⟩
 ·obtain ⟨z,its,n,r,e⟩:=h.ok I.hok
  exact ⟨its,r,⟨_,n,e,rfl,rfl,rfl⟩,z⟩
 ·refine ⟨its.toList,r,⟨o,n,I.kIn a o hk,hc,hd,by simpa using hs⟩,?_⟩
  have e:=r.length
  simp only [Array.length_toList] at e
  omega
theorem Inv.tuple (I:Inv X pins σ H s) (h:SqT X.K H a xs):∃ its:List Value,Vals xs its /\ IsTup s.heap a its.toArray /\ xs.length <= sizeLine:=by
 rcases h with h | ⟨o,its,n,hk,hc,hs,hz,r⟩
 ·obtain ⟨z,its,r,p⟩:=h.ok I.hok
  exact ⟨its,r,p,z⟩
 ·refine ⟨its.toList,r,⟨o,I.kIn a o hk,hc,n,by simpa using hs⟩,?_⟩
  have e:=r.length
  simp only [Array.length_toList] at e
  omega
theorem Inv.list_inj (I:Inv X pins σ H s) (h:SqL X.K H a xs) (h':SqL X.K H a ys):xs = ys:=by
 obtain ⟨its,r,⟨o,n,e,_,_,d⟩,_⟩:=I.list h
 obtain ⟨its',r',⟨o',n',e',_,_,d'⟩,_⟩:=I.list h'
 rw [e] at e'; cases e'
 rw [d] at d'
 injection d' with d1 _
 have:its = its':=by simpa using congrArg Array.toList d1
 subst this
 exact r.inj r'
theorem Inv.tuple_inj (I:Inv X pins σ H s) (h:SqT X.K H a xs) (h':SqT X.K H a ys):xs = ys:=by
 obtain ⟨its,r,⟨o,e,_,n,d⟩,_⟩:=I.tuple h
 obtain ⟨its',r',⟨o',e',_,n',d'⟩,_⟩:=I.tuple h'
 rw [e] at e'; cases e'
 rw [d] at d'
 injection d' with d1 _
 have:its = its':=by simpa using congrArg Array.toList d1
 subst this
 exact r.inj r'
end
abbrev Cx.wish (X:Cx) (E:Value -> Shared -> Prop):Cx:={ X with xe:=E }
abbrev Cx.nox (X:Cx):Cx:=X.wish fun _ _=>False
theorem Cx.Ok.wish {X:Cx} (ok:X.Ok) (E:Value -> Shared -> Prop):(X.wish E).Ok :=
 ⟨ok.mod,ok.kind,ok.glob,ok.blt,ok.above,ok.inj,ok.has,ok.cab,ok.hd,ok.frames,ok.stk,ok.exf,ok.bs,ok.bsz,ok.noex,ok.exfs,ok.funs,ok.frf⟩
theorem Cx.Ok.unwish {X:Cx} {E:Value -> Shared -> Prop} (ok:(X.wish E).Ok):X.Ok :=
 ⟨ok.mod,ok.kind,ok.glob,ok.blt,ok.above,ok.inj,ok.has,ok.cab,ok.hd,ok.frames,ok.stk,ok.exf,ok.bs,ok.bsz,ok.noex,ok.exfs,ok.funs,ok.frf⟩
section
variable {X:Cx} {pins:List (Addr × Obj)} {σ:St} {H:Hp} {s:Shared} {E:Value -> Shared -> Prop}
theorem Inv.wish (I:Inv X pins σ H s) (E:Value -> Shared -> Prop):Inv (X.wish E) pins σ H s:=⟨I.ok.wish E,I.os,I.bare,I.base,I.loc,I.cell,I.free,I.freeC,I.pin,I.hok,I.len⟩
theorem Inv.unwish (I:Inv (X.wish E) pins σ H s):Inv X pins σ H s:=⟨I.ok.unwish,I.os,I.bare,I.base,I.loc,I.cell,I.free,I.freeC,I.pin,I.hok,I.len⟩
theorem SP.unwish {D:Ends} {f:Flow} {s':Shared} (h:SP (X.wish E) pins D f s'):SP X pins D f s':=by
 cases f with
 | next=>obtain ⟨σ',H',I,q⟩:=h; exact ⟨σ',H',I.unwish,q⟩
 | brk=>obtain ⟨σ',H',I,q⟩:=h; exact ⟨σ',H',I.unwish,q⟩
 | cont=>obtain ⟨σ',H',I,q⟩:=h; exact ⟨σ',H',I.unwish,q⟩
 | ret u=>obtain ⟨v,σ',H',I,r,q⟩:=h; exact ⟨v,σ',H',I.unwish,r,q⟩
theorem PSs.nox {st:List Stmt} {t:TS} (h:PSs X.nox st t):PSs X st t:=fun pins s σ H D I hw =>
 wpAny_mono (h pins s σ H D (I.wish _) hw) (fun _ _ q=>q.unwish) fun _ _ z=>False.elim z
end
section
variable {X:Cx} {st:Stmt} {rest:List Stmt} {t u:TS} {e:Expr} {te:TE} {pos:Pos}
def U1:TS:=fun D σ H=>D.nx σ H
def J6 (t u:TS):TS:=fun D σ H=>t { D with nx:=u D } σ H
theorem zE:PSs X [] U1:=fun _ _ σ H _ I h=>wpAny_execs_nil ⟨σ,H,I,h⟩
theorem zH (h1:PS X st t) (h2:PSs X rest u):PSs X (st :: rest) (J6 t u):=by
 intro pins s σ H D I h
 refine wpAny_execs_cons (thn (h1 pins s σ H { D with nx:=u D } I h) fun f s1 q=>?_)
 cases f with
 | next =>
  obtain ⟨σ',H',I',q⟩:=q
  exact h2 pins s1 σ' H' D I' q
 | ret v=>exact q
 | brk=>exact q
 | cont=>exact q
theorem zf (h1:PS X st t):PSs X [st] t:=by
 intro pins s σ H D I h
 refine wpAny_execs_cons (thn (h1 pins s σ H D I h) fun f s1 q=>?_)
 cases f with
 | next=>exact wpAny_execs_nil q
 | ret v=>exact q
 | brk=>exact q
 | cont=>exact q
def UZ:TS:=fun D σ H=>D.bk σ H
def Jy:TS:=fun D σ H=>D.ct σ H
theorem Inv.quiet {pins:List (Addr × Obj)} {σ:St} {H:Hp} {s:Shared} (I:Inv X pins σ H s):interactive X.env = false:=by simp [interactive,I.ok.kind]
def U2 (te:TE):TS:=fun D σ H=>te σ H fun _ H1=>D.nx σ H1
theorem xj (he:PE X e te) (hs:swapsWith e none pos.line X.env = pure false:=by rfl):PS X (.Expr e pos) (U2 te):=by
 intro pins s σ H D I h
 exact wpAny_Expr_any (thn (he pins s σ H _ I h) fun v s1 ⟨x,H1,I1,r1,q1⟩=>⟨σ,H1,I1,q1⟩) I.quiet hs
def Kb (te:TE):TS:=fun D σ H=>te σ H D.rt
theorem zu (he:PE X e te):PS X (.Return (some e) pos) (Kb te):=by
 intro pins s σ H D I h
 exact wpAny_Return_some (thn (he pins s σ H _ I h) fun v s1 ⟨x,H1,I1,r1,q1⟩=>⟨x,σ,H1,I1,r1,q1⟩)
def JC:TS:=fun D _ H=>D.rt .non H
def J5 (c:TT) (t u:TS):TS:=fun D σ H=>c σ H fun b H1=>if b = true then t D σ H1 else u D σ H1
theorem yh {c:Expr} {a b:List Stmt} {tc:TT} (hc:PT X c tc) (ha:PSs X a t) (hb:PSs X b u):PS X (.If c a b pos) (J5 tc t u):=by
 intro pins s σ H D I h
 refine wpAny_If (thn (hc pins s σ H _ I h) fun d s1 ⟨H1,I1,q1⟩=>?_)
 cases d with
 | true=>exact ha pins s1 σ H1 D I1 q1
 | false=>exact hb pins s1 σ H1 D I1 q1
end
abbrev TG:=V -> St -> Hp -> (St -> Hp -> Prop) -> Prop
abbrev TGs:=List V -> St -> Hp -> (St -> Hp -> Prop) -> Prop
def PG (X:Cx) (target:Expr) (t:TG):Prop :=
 ∀ (pins:List (Addr × Obj)) (s:Shared) (σ:St) (H:Hp) (v:V) (u:Value) (Q:St -> Hp -> Prop),Inv X pins σ H s -> RelV v u -> t v σ H Q ->
  wpAny (model X.prog X.w) X.A (assign target X.env u) (fun _ s'=>∃ σ' H',Inv X pins σ' H' s' /\ Q σ' H') X.xe s
def PGs (X:Cx) (ts:List Expr) (t:TGs):Prop :=
 ∀ (pins:List (Addr × Obj)) (s:Shared) (σ:St) (H:Hp) (vs:List V) (us:List Value) (Q:St -> Hp -> Prop),Inv X pins σ H s -> Vals vs us -> t vs σ H Q ->
  wpAny (model X.prog X.w) X.A (assignInOrder ((assignEach ts X.env).map (·.2)) us) (fun _ s'=>∃ σ' H',Inv X pins σ' H' s' /\ Q σ' H') X.xe s
abbrev QZ:=V -> V -> V -> Hp -> (Hp -> Prop) -> Prop
def J0 (X:Cx) (t:QZ):Prop :=
 ∀ (pins:List (Addr × Obj)) (s:Shared) (σ:St) (H:Hp) (o i v:V) (ov iv u:Value) (Q:Hp -> Prop),Inv X pins σ H s -> RelV o ov -> RelV i iv -> RelV v u -> t o i v H Q ->
  wpAny (model X.prog X.w) X.A (setItem ov iv u) (fun _ s'=>∃ H',Inv X pins σ H' s' /\ Q H') X.xe s
section
variable {X:Cx} {pos:Pos}
def yt (i:Nat):TG:=fun v σ H Q=>Q (σ.set i (some v)) H
theorem zr {i:Nat} {x:Str} (hN:X.N.Nodup) (hi:X.N[i]? = some x) (hx:Loc X.env.scope x) (hf:X.fn x = true \/ X.env.scope.names.lookup x = some .local:=by first | exact .inl rfl | exact .inr rfl | assumption):PG X (.Name x pos) (yt i):=by
 intro pins s σ H v u Q I r h
 exact wpAny_assign_Name (jo I hN hi hx r (fun s' I'=>⟨_,H,I',h⟩) hf)
def Xh:TGs:=fun vs σ H Q=>vs = [] /\ Q σ H
def yY (t:TG) (u:TGs):TGs:=fun vs σ H Q=>∃ v r,vs = v :: r /\ t v σ H fun σ' H'=>u r σ' H' Q
theorem yK:PGs X [] Xh:=by
 intro pins s σ H vs us Q I r h
 obtain ⟨e,h⟩:=h
 subst e
 cases r
 exact assignInOrder_nil ⟨σ,H,I,h⟩
theorem zB {e:Expr} {es:List Expr} {t:TG} {u:TGs} (h1:PG X e t) (h2:PGs X es u)
  (hs:(assignEach (e :: es) X.env).map (·.2) = assign e X.env :: (assignEach es X.env).map (·.2):=by rfl):PGs X (e :: es) (yY t u):=by
 intro pins s σ H vs us Q I r h
 obtain ⟨v,vr,e1,h⟩:=h
 subst e1
 cases r with
 | cons r rr =>
  rw [hs]
  refine assignInOrder_cons (thn (h1 pins s σ H _ _ _ I r h) fun _ s1 ⟨σ1,H1,I1,q1⟩=>?_)
  exact h2 pins s1 σ1 H1 _ _ Q I1 rr q1
def XM (K:PySem.W.Frag) (n:Nat) (t:TGs):TG:=fun v σ H Q=>∃ a xs,v = .ref a /\ SqT K H a xs /\ xs.length = n /\ t xs σ H Q
theorem xD {es:List Expr} {k:Nat} {t:TGs} {n:Nat} (hc:X.calm = true) (h:PGs X es t)
  (hn:(assignEach es X.env).length = n:=by rfl) (hst:(assignEach es X.env).findIdx? (·.1) = none:=by rfl):PG X (.Tuple es k pos) (XM X.K n t):=by
 intro pins s σ H v u Q I r hw
 obtain ⟨a,xs,e1,hq,hl,hw⟩:=hw
 subst e1
 cases r
 obtain ⟨its,rv,ht,hz⟩:=I.tuple hq
 refine assign_Tuple_tuple (I.ok.hd hc) ht (by simp [hn,<- hl,rv.length]) hst fun h' hx=>?_
 have I1:Inv X pins σ H { s with heap:=h' }:=I.kept (t':=s.toks) fun b o e=>hx b o (Nat.ne_of_lt (Heap.lt_size e)) e
 exact h pins _ σ H xs _ Q I1 (by simpa using rv) hw
def JZ (to ti:TE) (t:QZ):TG:=fun v σ H Q=>to σ H fun o H1=>ti σ H1 fun i H2=>t o i v H2 fun H3=>Q σ H3
theorem Qc {o i:Expr} {to ti:TE} {t:QZ} (ho:PE X o to) (hi:PE X i ti) (hs:J0 X t)
  (ha:∀ v,assign (.Subscript o i pos) X.env v = (do
   let ov <- holding [v] (eval o X.env)
   let iv <- holding [v,ov] (eval i X.env)
   standAt pos
   holding [v,ov,iv] (setItem ov iv v)
   release [v,ov,iv] []):=by intro _; rfl):PG X (.Subscript o i pos) (JZ to ti t):=by
 intro pins s σ H v u Q I r h
 rw [ha]
 refine wpAny_bind (wpAny_holding (thn (ho pins s σ H _ I h) fun ov s1 ⟨x,H1,I1,r1,q1⟩=>?_))
 refine wpAny_bind (wpAny_holding (thn (hi pins s1 σ H1 _ I1 q1) fun iv s2 ⟨y,H2,I2,r2,q2⟩=>?_))
 refine wpAny_bind (wpAny_standAt (wpAny_bind (wpAny_holding (thn (hs pins s2 σ H2 x y v ov iv u _ I2 r1 r2 r q2) fun _ s3 ⟨H3,I3,q3⟩=>?_))))
 exact wpAny_release ⟨σ,H3,I3,q3⟩
def UI (te:TE) (g:TG):TS:=fun D σ H=>te σ H fun x H1=>g x σ H1 D.nx
theorem ZA {tg e:Expr} {te:TE} {g:TG} (he:PE X e te) (hg:PG X tg g) (hs:swapsWithSole [tg] e pos.line X.env = pure false:=by rfl) (hw:swappedStores [tg] e X.env = pure none:=by rfl)
  (h1:(assignEach [tg] X.env).map (·.2) = [assign tg X.env]:=by rfl):PS X (.Assign [tg] e pos) (UI te g):=by
 intro pins s σ H D I h
 refine wpAny_Assign_stores (thn (he pins s σ H _ I h) fun v s1 ⟨x,H1,I1,r1,q1⟩=>?_) hs hw
 rw [h1]
 exact thn (hg pins s1 σ H1 x v _ I1 r1 q1) fun _ s2 q=>q
theorem zl {i:Nat} {x:Str} {e:Expr} {te:TE} {pos':Pos} (hN:X.N.Nodup) (hi:X.N[i]? = some x) (hx:Loc X.env.scope x) (he:PE X e te) (hs:swapsWith e (some (.Name x pos')) pos.line X.env = pure false:=by rfl) (hf:X.fn x = true \/ X.env.scope.names.lookup x = some .local:=by first | exact .inl rfl | exact .inr rfl | assumption) :
  PS X (.Assign [.Name x pos'] e pos) (UI te (yt i)):=by
 intro pins s σ H D I h
 refine wpAny_Assign_Name (thn (he pins s σ H _ I h) fun v s1 ⟨y,H1,I1,r1,q1⟩=>?_) hs
 exact jo I1 hN hi hx r1 (fun s2 I2=>⟨_,H1,I2,q1⟩) hf
def Kp (i j:Nat) (ta:TA):TS:=fun D σ H=>ta σ H fun vs H1=>∃ v w,vs = [v,w] /\ D.nx ((σ.set i (some v)).set j (some w)) H1
end
section
variable {X:Cx} {pos:Pos}
def kZ (c:TT) (tb:TS):TS:=fun D σ H=>∃ W:Nat -> St -> Hp -> Prop,(∃ m,W m σ H) /\ ∀ m σ H,W m σ H ->
 c σ H fun b H1=>if b = true then ∃ N:St -> Hp -> Prop,(∀ σ' H',N σ' H' -> ∃ m',m' < m /\ W m' σ' H') /\ tb { D with nx:=N,ct:=N,bk:=D.nx } σ H1 else D.nx σ H1
theorem jj {c:Expr} {body:List Stmt} {tc:TT} {tb:TS} (hp:PassesOwn (model X.prog X.w) X.A X.env X.xe) (hc:PT X c tc) (hb:PSs X body tb):PS X (.While c body [] pos) (kZ tc tb):=by
 intro pins s σ H D I h
 obtain ⟨W,⟨m0,w0⟩,turn⟩:=h
 refine wpAny_While (codeAny_whileLoop (fun n s'=>∃ σ' H',Inv X pins σ' H' s' /\ W n σ' H') ?_ m0 ⟨σ,H,I,w0⟩)
 rintro n s1 ⟨σ1,H1,I1,w1⟩
 refine wpAny_passesOwn hp (thn (hc pins s1 σ1 H1 _ I1 (turn n σ1 H1 w1)) fun b s2 ⟨H2,I2,q2⟩=>?_)
 cases b with
 | true =>
  obtain ⟨N,hN,q2⟩:=q2
  rw [if_pos rfl]
  refine wpAny_passesOwn hp (thn (hb pins s2 σ1 H2 _ I2 q2) fun f s3 q3=>?_)
  cases f with
  | next =>
   obtain ⟨σ3,H3,I3,n3⟩:=q3
   obtain ⟨m',hm,w3⟩:=hN σ3 H3 n3
   exact ⟨m',hm,σ3,H3,I3,w3⟩
  | cont =>
   obtain ⟨σ3,H3,I3,n3⟩:=q3
   obtain ⟨m',hm,w3⟩:=hN σ3 H3 n3
   exact ⟨m',hm,σ3,H3,I3,w3⟩
  | brk=>exact q3
  | ret v=>exact q3
 | false =>
  rw [if_neg Bool.false_ne_true]
  exact wpAny_execs_nil ⟨σ1,H2,I2,q2⟩
end
structure It where
 go:Nat -> Hp -> Prop
 yld:Nat -> Hp -> V -> Hp -> Prop
 stop:Nat -> Hp -> Prop
def xM (X:Cx) (pins:List (Addr × Obj)) (H:Hp) (b:Addr):Prop :=
 H b = none /\ b ≠ X.env.locals /\ b ∉ X.fs /\ (b ∈ X.ex \/ X.s₀.heap.objs.size <= b) /\ (∀ x c,X.env.cells.lookup x = some c -> c ≠ b) /\ ∀ p ∈ X.pn ++ pins,p.1 ≠ b
theorem Inv.fpOk {X:Cx} {pins:List (Addr × Obj)} {σ:St} {H H':Hp} {s:Shared} {b:Addr} (I:Inv X pins σ H s) (hb:s.heap.objs.size <= b) (hn:H' b = none):xM X pins H' b:=by
 refine ⟨hn,Nat.ne_of_gt (Nat.lt_of_lt_of_le I.lt hb),I.nofs hb,.inr (Nat.le_trans I.sz hb),fun x c e z=>?_,fun p hp z=>?_⟩
 ·obtain ⟨v,q⟩:=I.cell x c e
  exact absurd (Nat.lt_of_lt_of_le q.lt (by rw [z]; exact hb)) (Nat.lt_irrefl _)
 ·exact absurd (Nat.lt_of_lt_of_le (Heap.lt_size (I.pin p hp).1) (by rw [z]; exact hb)) (Nat.lt_irrefl _)
structure W2 (P:Program) (w:World) (K:PySem.W.Frag) (tg:Expr) (J:It) (fp:List Addr) (it:Addr) (tn:Nat -> Heap -> Prop):Prop where
 mem:it ∈ fp
 obj:∀ i h,tn i h -> ∀ b ∈ fp,∃ o,h.get? b = some o /\ ∀ v,o.data ≠ .cell v
 keep:∀ i h h',tn i h -> (∀ b ∈ fp,∀ o,h.get? b = some o -> h'.get? b = some o) -> tn i h'
 item:∀ (X:Cx),X.prog = P -> X.w = w -> X.K = K -> X.calm = true -> ∀ (i:Nat) (pins:List (Addr × Obj)) (s:Shared) (σ:St) (H:Hp) (E:Value -> Shared -> Prop),Inv X pins σ H s -> (∀ b ∈ fp,xM X pins H b) -> tn i s.heap -> J.go i H ->
  wpAny (model P w) X.A (pyNext (.ref it)) (fun r s1=>∃ u,r = some u /\
   wpAny (model P w) X.A (letOwnedTupleGo tg (.ref it) u) (fun _ s2=>∃ x H',Inv X pins σ H' s2 /\ RelV x u /\ J.yld i H x H' /\ tn (i + 1) s2.heap /\ ∀ b ∈ fp,H' b = none) E s1) E s
 done:∀ (X:Cx),X.prog = P -> X.w = w -> X.K = K -> X.calm = true -> ∀ (i:Nat) (pins:List (Addr × Obj)) (s:Shared) (σ:St) (H:Hp) (E:Value -> Shared -> Prop),Inv X pins σ H s -> (∀ b ∈ fp,xM X pins H b) -> tn i s.heap -> J.stop i H ->
  wpAny (model P w) X.A (pyNext (.ref it)) (fun r s1=>r = none /\ Inv X pins σ H s1) E s
 self:∀ (A:Around) (i:Nat) (s:Shared) (Q:Value -> Shared -> Prop) (E:Value -> Shared -> Prop),tn i s.heap -> Q (.ref it) s -> wpAny (model P w) A (pyIter (.ref it)) Q E s
abbrev TI:=St -> Hp -> (It -> Hp -> Prop) -> Prop
def PIE (X:Cx) (pins:List (Addr × Obj)) (σ:St) (tg:Expr) (R:It -> Hp -> Prop) (itv:Value) (s2:Shared):Prop :=
 ∃ (it:Addr) (fp:List Addr) (tn:Nat -> Heap -> Prop) (J:It) (H':Hp),itv = .ref it /\ Inv X pins σ H' s2 /\ W2 X.prog X.w X.K tg J fp it tn /\ tn 0 s2.heap /\ (∀ b ∈ fp,xM X pins H' b) /\ R J H'
def PI (X:Cx) (tg iter:Expr) (wi:TI):Prop :=
 ∀ (pins:List (Addr × Obj)) (s:Shared) (σ:St) (H:Hp) (R:It -> Hp -> Prop),Inv X pins σ H s -> wi σ H R ->
  wpAny (model X.prog X.w) X.A (eval iter X.env) (fun v s1=>wpAny (model X.prog X.w) X.A (pyIter v) (PIE X pins σ tg R) X.xe s1) X.xe s
theorem Wg {M:Model} {A:Around} {E:Value -> Shared -> Prop} {s:Shared} {tg:Expr} {it:Addr} {u:Value} {o:Obj} {n:String} {vs:Array Value} {Q:Unit -> Shared -> Prop} (ho:s.heap.get? it = some o) (hc:o.cls = .type n) (hd:o.data = .fields vs)
    (hn:["enumerate", "zip", "dict_itemiterator", "dict_reverseitemiterator", "odict_iterator", "itertools.zip_longest", "itertools.pairwise"].contains n = false) (hQ:Q () s):wpAny M A (letOwnedTupleGo tg (.ref it) u) Q E s:=by
  unfold letOwnedTupleGo
  cases tg <;> first
    | exact wpAny_pure hQ
    | (cases u <;> first
        | exact wpAny_pure hQ
        | (refine wpAny_bind (wpAny_load ho ?_)
           rw [hc,hd]
           show wpAny M A (if (["enumerate", "zip", "dict_itemiterator", "dict_reverseitemiterator", "odict_iterator", "itertools.zip_longest", "itertools.pairwise"].contains n && vs[0]? == some (rawInt _)) = true then _ else _) Q E s
           rw [if_neg (by intro h; rw [hn,Bool.false_and] at h; cases h)]
           exact wpAny_pure hQ))
def Itl (K:PySem.W.Frag) (a:Addr):It :=
 ⟨fun i H=>∃ xs x,SqL K H a xs /\ xs[i]? = some x,fun i H x H'=>H' = H /\ ∀ xs,SqL K H a xs -> xs[i]? = some x,fun i H=>∃ xs,SqL K H a xs /\ xs.length <= i⟩
def Itt (K:PySem.W.Frag) (a:Addr):It :=
 ⟨fun i H=>∃ xs x,SqT K H a xs /\ xs[i]? = some x,fun i H x H'=>H' = H /\ ∀ xs,SqT K H a xs -> xs[i]? = some x,fun i H=>∃ xs,SqT K H a xs /\ xs.length <= i⟩
def Itr (lo:Int) (n:Nat):It:=⟨fun i _=>i < n,fun i H x H'=>H' = H /\ x = .int (lo + i),fun i _=>n <= i⟩
theorem Y8 {P:Program} {w:World} {K:PySem.W.Frag} {tg:Expr} (a it:Addr):W2 P w K tg (Itl K a) [it] it (fun i h=>h.IsListIter it a i) where
 mem:=by simp
 obj:=fun i h st b hb=>by
  have e:b = it:=by simpa using hb
  subst e
  obtain ⟨o,e,c,d⟩:=st
  exact ⟨o,e,fun v z=>by rw [d] at z; cases z⟩
 keep:=fun i h h' st k=>st.at fun o e=>k it (by simp) o e
 item:=by
  intro X hP hw hK hc i pins s σ H E I hf st hg
  subst hP hw hK
  obtain ⟨xs,x,hq,hx⟩:=hg
  obtain ⟨its,rv,p,hz⟩:=I.list hq
  obtain ⟨u,hu,ru⟩:=rv.get hx
  obtain ⟨f0,f1,f2,f3,f4,f5⟩:=hf it (by simp)
  refine wpAny_pyNext_list_item st p.isList (x:=u) (by simpa using hu) fun h' st' sb=>?_
  have I1:Inv X pins σ H { s with heap:=h' }:=I.turned (t':=s.toks) (fun b o hb e=>(sb.2 b hb).trans e) f0 f1 f3 f4 f5
  obtain ⟨o,e,c,d⟩:=id st'
  exact ⟨u,rfl,Wg (s:={ s with heap:=h' }) e c d (by decide) ⟨x,H,I1,ru,⟨rfl,fun ys hy=>by rw [I.list_inj hy hq]; exact hx⟩,st',fun b hb=>(hf b hb).1⟩⟩
 done:=by
  intro X hP hw hK hc i pins s σ H E I hf st hg
  subst hP hw hK
  obtain ⟨xs,hq,hx⟩:=hg
  obtain ⟨its,rv,p,hz⟩:=I.list hq
  obtain ⟨f0,f1,f2,f3,f4,f5⟩:=hf it (by simp)
  have hl:=rv.length
  exact wpAny_pyNext_list_end (I.ok.hd hc) st p.isList (by simp; omega) fun h' eb=>⟨rfl,I.turned (t':=s.toks) (fun b o hb e=>eb b o hb e) f0 f1 f3 f4 f5⟩
 self:=fun _ _ _ _ _ st h=>wpAny_pyIter_listiter st h
theorem ZU {P:Program} {w:World} {K:PySem.W.Frag} {tg:Expr} (a it:Addr):W2 P w K tg (Itt K a) [it] it (fun i h=>h.IsTupleIter it a i) where
 mem:=by simp
 obj:=fun i h st b hb=>by
  have e:b = it:=by simpa using hb
  subst e
  obtain ⟨o,e,c,d⟩:=st
  exact ⟨o,e,fun v z=>by rw [d] at z; cases z⟩
 keep:=fun i h h' st k=>st.at fun o e=>k it (by simp) o e
 item:=by
  intro X hP hw hK hc i pins s σ H E I hf st hg
  subst hP hw hK
  obtain ⟨xs,x,hq,hx⟩:=hg
  obtain ⟨its,rv,p,hz⟩:=I.tuple hq
  obtain ⟨u,hu,ru⟩:=rv.get hx
  obtain ⟨f0,f1,f2,f3,f4,f5⟩:=hf it (by simp)
  refine wpAny_pyNext_tuple_item st (show s.heap.IsTuple a its.toArray from p) (x:=u) (by simpa using hu) fun h' st' sb=>?_
  have I1:Inv X pins σ H { s with heap:=h' }:=I.turned (t':=s.toks) (fun b o hb e=>(sb.2 b hb).trans e) f0 f1 f3 f4 f5
  obtain ⟨o,e,c,d⟩:=id st'
  exact ⟨u,rfl,Wg (s:={ s with heap:=h' }) e c d (by decide) ⟨x,H,I1,ru,⟨rfl,fun ys hy=>by rw [I.tuple_inj hy hq]; exact hx⟩,st',fun b hb=>(hf b hb).1⟩⟩
 done:=by
  intro X hP hw hK hc i pins s σ H E I hf st hg
  subst hP hw hK
  obtain ⟨xs,hq,hx⟩:=hg
  obtain ⟨its,rv,p,hz⟩:=I.tuple hq
  obtain ⟨f0,f1,f2,f3,f4,f5⟩:=hf it (by simp)
  have hl:=rv.length
  exact wpAny_pyNext_tuple_end (I.ok.hd hc) st (show s.heap.IsTuple a its.toArray from p) (by simp; omega) fun h' eb=>⟨rfl,I.turned (t':=s.toks) (fun b o hb e=>eb b o hb e) f0 f1 f3 f4 f5⟩
 self:=fun _ _ _ _ _ st h=>wpAny_pyIter_tupleiter st h
theorem Z9 {P:Program} {w:World} {K:PySem.W.Frag} {tg:Expr} (it:Addr) (lo:Int) (n:Nat):W2 P w K tg (Itr lo n) [it] it (fun i h=>IsRangeIter h it (lo + (i:Nat) * 1) ((n:Int) - (i:Nat)) 1) where
 mem:=by simp
 obj:=fun i h st b hb=>by
  have e:b = it:=by simpa using hb
  subst e
  exact ⟨_,st,fun v z=>by
   have z':Data.fields _ = Data.cell v:=z
   cases z'⟩
 keep:=fun i h h' st k=>k it (by simp) _ st
 item:=by
  intro X hP hw hK hc i pins s σ H E I hf st hg
  subst hP hw hK
  obtain ⟨f0,f1,f2,f3,f4,f5⟩:=hf it (by simp)
  have W:=Walks.range (prog:=X.prog) (w:=X.w) (I.ok.hd hc) it lo 1 n
  refine W.item i s _ _ hg st fun v h' tk hv st' kk=>?_
  obtain ⟨t,rfl⟩:=hv
  have I1:Inv X pins σ H { s with heap:=h',toks:=tk }:=I.turned (fun b o hb e=>kk b o (by simpa using hb) e) f0 f1 f3 f4 f5
  refine ⟨_,rfl,Wg (s:={ s with heap:=h',toks:=tk }) (n:="range_iterator") st' rfl rfl (by decide) ⟨.int (lo + i),H,I1,⟨t,?_⟩,⟨rfl,rfl⟩,st',fun b hb=>(hf b hb).1⟩⟩
  rw [Int.mul_one]
 done:=by
  intro X hP hw hK hc i pins s σ H E I hf st hg
  subst hP hw hK
  obtain ⟨f0,f1,f2,f3,f4,f5⟩:=hf it (by simp)
  exact wpAny_pyNext_range_end (I.ok.hd hc) st (by have:n <= i:=hg; omega) fun h' eb=>⟨rfl,I.turned (t':=s.toks) (fun b o hb e=>eb b o hb e) f0 f1 f3 f4 f5⟩
 self:=fun _ _ _ _ _ st h=>wpAny_pyIter_rangeiter st h
end L2
namespace L2
open PySem PySem.Spec PyProof.Rows
section
variable {X:Cx} {tg:Expr}
def VJ (K:PySem.W.Frag) (tl:TE):TI:=fun σ H R=>tl σ H fun x H1=>∃ a,x = .ref a /\ (∃ xs,SqL K H1 a xs) /\ R (Itl K a) H1
def JO (K:PySem.W.Frag) (tl:TE):TI:=fun σ H R=>tl σ H fun x H1=>∃ a,x = .ref a /\ (∃ xs,SqT K H1 a xs) /\ R (Itt K a) H1
theorem yZ {l:Expr} {tl:TE} (hl:PE X l tl):PI X tg l (VJ X.K tl):=by
 intro pins s σ H R I h
 refine thn (hl pins s σ H _ I h) fun v s1 ⟨x,H1,I1,r1,q1⟩=>?_
 obtain ⟨a,e,⟨xs,hq⟩,q⟩:=q1
 subst e
 cases r1
 obtain ⟨its,rv,p,hz⟩:=I1.list hq
 refine wpAny_pyIter_list p.isList ?_
 refine ⟨s1.heap.objs.size,[s1.heap.objs.size],_,_,H1,rfl,I1.kept (t':=s1.toks) fun b o e=>Heap.get?_push_of_some _ e,Y8 a _,⟨_,Heap.get?_push_size _ rfl,rfl,rfl⟩,fun b hb=>?_,q⟩
 have e:b = s1.heap.objs.size:=by simpa using hb
 subst e
 exact I1.fpOk (Nat.le_refl _) (I1.hok.fresh (Nat.le_refl _))
theorem Qt {l:Expr} {tl:TE} (hl:PE X l tl):PI X tg l (JO X.K tl):=by
 intro pins s σ H R I h
 refine thn (hl pins s σ H _ I h) fun v s1 ⟨x,H1,I1,r1,q1⟩=>?_
 obtain ⟨a,e,⟨xs,hq⟩,q⟩:=q1
 subst e
 cases r1
 obtain ⟨its,rv,p,hz⟩:=I1.tuple hq
 refine wpAny_pyIter_tuple (show s1.heap.IsTuple a its.toArray from p) ?_
 refine ⟨s1.heap.objs.size,[s1.heap.objs.size],_,_,H1,rfl,I1.kept (t':=s1.toks) fun b o e=>Heap.get?_push_of_some _ e,ZU a _,⟨_,Heap.get?_push_size _ rfl,rfl,rfl⟩,fun b hb=>?_,q⟩
 have e:b = s1.heap.objs.size:=by simpa using hb
 subst e
 exact I1.fpOk (Nat.le_refl _) (I1.hok.fresh (Nat.le_refl _))
theorem Zw {pins:List (Addr × Obj)} {σ:St} {H:Hp} {s:Shared} {R:It -> Hp -> Prop} {E:Value -> Shared -> Prop} {lo hi:Int} {t u v:Tok} {tk:Nat} (I:Inv X pins σ H s) (h1:-(2 ^ 62) <= lo) (h2:lo < 2 ^ 62) (h3:-(2 ^ 62) <= hi) (h4:hi < 2 ^ 62)
  (q:R (Itr lo (hi - lo).toNat) H):wpAny (model X.prog X.w) X.A (pyIter (.ref s.heap.objs.size)) (PIE X pins σ tg R) E { s with heap:=s.heap.push { cls:=.type "range",data:=.fields #[.int lo t,.int hi u,.int 1 v] },toks:=tk }:=by
 refine wpAny_pyIter_range (IsRange.new ..) (small_one h1 h2 h3 h4) ?_
 have I1:Inv X pins σ H { s with heap:=s.heap.push { cls:=.type "range",data:=.fields #[.int lo t,.int hi u,.int 1 v] },toks:=tk }:=I.kept fun b o e=>Heap.get?_push_of_some _ e
 refine ⟨(s.heap.push { cls:=.type "range",data:=.fields #[.int lo t,.int hi u,.int 1 v] }).objs.size,[(s.heap.push { cls:=.type "range",data:=.fields #[.int lo t,.int hi u,.int 1 v] }).objs.size],_,_,H,rfl,
  I1.kept (t':=tk) fun b o e=>Heap.get?_push_of_some _ e,Z9 _ lo (hi - lo).toNat,?_,fun b hb=>?_,q⟩
 ·have e1:lo + ((0:Nat):Int) * 1 = lo:=by simp
  have e2:(((hi - lo).toNat:Nat):Int) - ((0:Nat):Int) = Builtin.Range.rangeSize lo hi 1:=by rw [rangeSize_one]; split <;> omega
  show IsRangeIter _ _ (lo + ((0:Nat):Int) * 1) ((((hi - lo).toNat:Nat):Int) - ((0:Nat):Int)) 1
  rw [e1,e2]
  exact Heap.get?_push_size _ rfl
 ·have e:b = (s.heap.push { cls:=.type "range",data:=.fields #[.int lo t,.int hi u,.int 1 v] }).objs.size:=by simpa using hb
  subst e
  exact I1.fpOk (Nat.le_refl _) (I1.hok.fresh (Nat.le_refl _))
def V9 (ta:TA):TI:=fun σ H R=>ta σ H fun vs H1=>∃ j:Int,vs = [.int j] /\ -(2 ^ 62) <= j /\ j < 2 ^ 62 /\ R (Itr 0 j.toNat) H1
def Uj (ta:TA):TI:=fun σ H R=>ta σ H fun vs H1=>∃ i j:Int,vs = [.int i,.int j] /\ (-(2 ^ 62) <= i /\ i < 2 ^ 62 /\ -(2 ^ 62) <= j /\ j < 2 ^ 62) /\ R (Itr i (j - i).toNat) H1
theorem yC {a:Expr} {ta:TA} {p pos:Pos} (hg:Gl X "range") (hm:X.mg "range" = none) (ha:PA X [a] ta) (hs:starEach [a] X.env = [(false,eval a X.env)]:=by rfl):PI X tg (.Call (.Name "range" p) [a] [] pos) (V9 ta):=by
 intro pins s σ H R I h
 refine Call_ (vK I hg hm boot_range (PyProof.Rows.callWith_type1 (thn (ha pos pins s σ H _ I h) fun us s1 ⟨vs,H1,I1,r1,q1⟩=>?_) hs rfl))
 obtain ⟨j,e,q1,q2,q⟩:=q1
 subst e
 cases r1 with
 | cons r rr =>
  cases rr
  obtain ⟨t,rfl⟩:=r
  exact call_range_1 (Zw I1 (by omega) (by omega) q1 q2 (by simpa using q))
theorem jB {a b:Expr} {ta:TA} {p pos:Pos} (hg:Gl X "range") (hm:X.mg "range" = none) (ha:PA X [a,b] ta) (hs:starEach [a,b] X.env = [(false,eval a X.env),(false,eval b X.env)]:=by rfl) (hs2:starEach [b] X.env = [(false,eval b X.env)]:=by rfl) :
  PI X tg (.Call (.Name "range" p) [a,b] [] pos) (Uj ta):=by
 intro pins s σ H R I h
 refine Call_ (vK I hg hm boot_range (PyProof.Rows.callWith_type1 (thn (ha pos pins s σ H _ I h) fun us s1 ⟨vs,H1,I1,r1,q1⟩=>?_) (by rw [hs,hs2]) (by rw [hs2]; rfl)))
 obtain ⟨i,j,e,⟨q1,q2,q3,q4⟩,q⟩:=q1
 subst e
 cases r1 with
 | cons r rr =>
  cases rr with
  | cons r' rr =>
   cases rr
   obtain ⟨t,rfl⟩:=r
   obtain ⟨t',rfl⟩:=r'
   exact call_range_2 (Zw I1 q1 q2 q3 q4 q)
def Ve (wi:TI) (g:TG) (tb:TS):TS:=fun D σ H=>wi σ H fun J H1=>∃ W:Nat -> Nat -> St -> Hp -> Prop,(∃ m,W 0 m σ H1) /\ ∀ i m σ H,W i m σ H ->
 (J.stop i H /\ D.nx σ H) \/ (J.go i H /\ ∃ N:St -> Hp -> Prop,(∀ σ' H',N σ' H' -> ∃ m',m' < m /\ W (i + 1) m' σ' H') /\ ∀ x H',J.yld i H x H' -> g x σ H' fun σ2 H2=>tb { D with nx:=N,ct:=N,bk:=D.nx } σ2 H2)
def qi (fp:List Addr) (h:Heap):List (Addr × Obj):=fp.filterMap fun b=>(h.get? b).map fun o=>(b,o)
theorem yV {fp:List Addr} {h:Heap} {b:Addr} {o:Obj} (hb:b ∈ fp) (e:h.get? b = some o):(b,o) ∈ qi fp h:=List.mem_filterMap.mpr ⟨b,hb,by rw [e]; rfl⟩
theorem YR {fp:List Addr} {h:Heap} {p:Addr × Obj} (hp:p ∈ qi fp h):p.1 ∈ fp /\ h.get? p.1 = some p.2:=by
 obtain ⟨b,hb,e⟩:=List.mem_filterMap.mp hp
 cases q:h.get? b with
 | none=>rw [q] at e; cases e
 | some o =>
  rw [q] at e
  have e':(b,o) = p:=Option.some.inj e
  subst e'
  exact ⟨hb,q⟩
theorem Inv.pinned {pins:List (Addr × Obj)} {σ:St} {H:Hp} {s:Shared} {fp:List Addr} (I:Inv X pins σ H s) (hf:∀ b ∈ fp,xM X pins H b) (ho:∀ b ∈ fp,∃ o,s.heap.get? b = some o /\ ∀ v,o.data ≠ .cell v):Inv X (pins ++ qi fp s.heap) σ H s :=
 I.pins_of fun p hp=>(List.mem_append.mp hp).elim (fun z=>I.pin p (List.mem_append_right _ z)) fun z=>by
  obtain ⟨hb,e⟩:=YR z
  obtain ⟨f0,f1,f2,_⟩:=hf p.1 hb
  obtain ⟨o,e',d⟩:=ho p.1 hb
  rw [e] at e'; cases e'
  exact ⟨e,f0,f1,f2,d⟩
theorem Inv.unpinned {pins pl:List (Addr × Obj)} {σ:St} {H:Hp} {s:Shared} (I:Inv X (pins ++ pl) σ H s):Inv X pins σ H s:=I.pins_of fun p hp=>I.pin p (List.mem_append_right _ (List.mem_append_left _ hp))
theorem yq {iter:Expr} {body:List Stmt} {wi:TI} {g:TG} {tb:TS} {pos:Pos} (hp:PassesOwn (model X.prog X.w) X.A X.env X.xe) (hc:X.calm = true) (hi:PI X tg iter wi) (hg:PG X tg g) (hb:PSs X body tb)
  (hs:∀ x,foldedSetIterable iter X.env x = pure x:=by intro _; rfl):PS X (.For tg iter body [] pos) (Ve wi g tb):=by
 intro pins s σ H D I h
 refine wpAny_For (thn (hi pins s σ H _ I h) fun v s1 h1=>thn h1 fun itv s2 h2=>?_) hs
 obtain ⟨it,fp,tn,J,H2,e,I2,T,st2,f2,W,⟨m0,w0⟩,turn⟩:=h2
 subst e
 have stat:∀ {H':Hp},(∀ b ∈ fp,H' b = none) -> ∀ b ∈ fp,xM X pins H' b:=fun hn b hb=>⟨hn b hb,(f2 b hb).2⟩
 refine codeAny_forLoop_any (fun n s'=>∃ i σ' H',Inv X pins σ' H' s' /\ tn i s'.heap /\ (∀ b ∈ fp,H' b = none) /\ W i n σ' H') ?_ m0 ⟨0,σ,H2,I2,st2,fun b hb=>(f2 b hb).1,w0⟩
 rintro n s3 ⟨i,σ3,H3,I3,st3,fr3,w3⟩
 rcases turn i n σ3 H3 w3 with ⟨stop,qn⟩ | ⟨go,N,hN,step⟩
 ·refine wpAny_passesOwn hp (thn (T.done X rfl rfl rfl hc i pins s3 σ3 H3 X.xe I3 (stat fr3) st3 stop) fun r s4 ⟨hr,I4⟩=>?_)
  subst hr
  exact wpAny_execs_nil ⟨σ3,H3,I4,qn⟩
 ·refine wpAny_passesOwn hp (thn (T.item X rfl rfl rfl hc i pins s3 σ3 H3 X.xe I3 (stat fr3) st3 go) fun r s4 ⟨u,hr,h4⟩=>?_)
  subst hr
  refine wpAny_passesOwn hp (thn h4 fun _ s5 ⟨x,H5,I5,r5,y5,st5,fr5⟩=>?_)
  have I5':=I5.pinned (stat fr5) (T.obj _ _ st5)
  refine wpAny_passesOwn hp (thn (hg _ s5 σ3 H5 x u _ I5' r5 (step x H5 y5)) fun _ s6 ⟨σ6,H6,I6,q6⟩=>?_)
  refine wpAny_passesOwn hp (thn (hb _ s6 σ6 H6 _ I6 q6) fun f s7 q7=>?_)
  have again:∀ {σ7:St} {H7:Hp},Inv X (pins ++ qi fp s5.heap) σ7 H7 s7 -> N σ7 H7 -> ∃ m,m < n /\ ∃ i σ' H',Inv X pins σ' H' s7 /\ tn i s7.heap /\ (∀ b ∈ fp,H' b = none) /\ W i m σ' H':=fun {σ7 H7} I7 n7=>by
   obtain ⟨m',hm,w7⟩:=hN σ7 H7 n7
   refine ⟨m',hm,i + 1,σ7,H7,I7.unpinned,T.keep _ _ _ st5 fun b hb o e=>(I7.pin (b,o) (List.mem_append_right _ (List.mem_append_right _ (yV hb e)))).1,fun b hb=>?_,w7⟩
   obtain ⟨o,e,d⟩:=T.obj _ _ st5 b hb
   exact (I7.pin (b,o) (List.mem_append_right _ (List.mem_append_right _ (yV hb e)))).2.1
  cases f with
  | next=>obtain ⟨σ7,H7,I7,n7⟩:=q7; exact again I7 n7
  | cont=>obtain ⟨σ7,H7,I7,n7⟩:=q7; exact again I7 n7
  | brk=>obtain ⟨σ7,H7,I7,q7⟩:=q7; exact ⟨σ7,H7,I7.unpinned,q7⟩
  | ret v=>obtain ⟨x7,σ7,H7,I7,r7,q7⟩:=q7; exact ⟨x7,σ7,H7,I7.unpinned,r7,q7⟩
end
theorem WD {K:PySem.W.Frag} {a:Addr} {xs:List V} {g:TG} {tb:TS} {D:Ends} {σ:St} {H:Hp} (Pv:Nat -> St -> Hp -> Prop) (h0:Pv 0 σ H) (hl:∀ i σ H,i <= xs.length -> Pv i σ H -> SqL K H a xs)
  (hs:∀ i x σ H,xs[i]? = some x -> Pv i σ H -> g x σ H fun σ2 H2=>tb { D with nx:=Pv (i + 1),ct:=Pv (i + 1),bk:=D.nx } σ2 H2) (hd:∀ σ H,Pv xs.length σ H -> D.nx σ H) :
  ∃ W:Nat -> Nat -> St -> Hp -> Prop,(∃ m,W 0 m σ H) /\ ∀ i m σ H,W i m σ H ->
   ((Itl K a).stop i H /\ D.nx σ H) \/ ((Itl K a).go i H /\ ∃ N:St -> Hp -> Prop,(∀ σ' H',N σ' H' -> ∃ m',m' < m /\ W (i + 1) m' σ' H') /\ ∀ x H',(Itl K a).yld i H x H' -> g x σ H' fun σ2 H2=>tb { D with nx:=N,ct:=N,bk:=D.nx } σ2 H2):=by
 refine ⟨fun i m σ H=>m = xs.length - i /\ i <= xs.length /\ Pv i σ H,⟨xs.length,by simp,Nat.zero_le _,h0⟩,?_⟩
 rintro i m σ H ⟨rfl,hi,p⟩
 have q:=hl i σ H hi p
 by_cases hlt:i < xs.length
 ·refine .inr ⟨⟨xs,xs[i],q,by simp [hlt]⟩,Pv (i + 1),fun σ' H' p'=>⟨xs.length - (i + 1),by omega,rfl,hlt,p'⟩,fun x H' y=>?_⟩
  obtain ⟨e,y⟩:=y
  subst e
  exact hs i x σ _ (y xs q) p
 ·have e:i = xs.length:=by omega
  subst e
  exact .inl ⟨⟨xs,q,Nat.le_refl _⟩,hd σ H p⟩
theorem V1 {K:PySem.W.Frag} {a:Addr} {xs:List V} {g:TG} {tb:TS} {D:Ends} {σ:St} {H:Hp} (Pv:Nat -> St -> Hp -> Prop) (h0:Pv 0 σ H) (hl:∀ i σ H,i <= xs.length -> Pv i σ H -> SqT K H a xs)
  (hs:∀ i x σ H,xs[i]? = some x -> Pv i σ H -> g x σ H fun σ2 H2=>tb { D with nx:=Pv (i + 1),ct:=Pv (i + 1),bk:=D.nx } σ2 H2) (hd:∀ σ H,Pv xs.length σ H -> D.nx σ H) :
  ∃ W:Nat -> Nat -> St -> Hp -> Prop,(∃ m,W 0 m σ H) /\ ∀ i m σ H,W i m σ H ->
   ((Itt K a).stop i H /\ D.nx σ H) \/ ((Itt K a).go i H /\ ∃ N:St -> Hp -> Prop,(∀ σ' H',N σ' H' -> ∃ m',m' < m /\ W (i + 1) m' σ' H') /\ ∀ x H',(Itt K a).yld i H x H' -> g x σ H' fun σ2 H2=>tb { D with nx:=N,ct:=N,bk:=D.nx } σ2 H2):=by
 refine ⟨fun i m σ H=>m = xs.length - i /\ i <= xs.length /\ Pv i σ H,⟨xs.length,by simp,Nat.zero_le _,h0⟩,?_⟩
 rintro i m σ H ⟨rfl,hi,p⟩
 have q:=hl i σ H hi p
 by_cases hlt:i < xs.length
 ·refine .inr ⟨⟨xs,xs[i],q,by simp [hlt]⟩,Pv (i + 1),fun σ' H' p'=>⟨xs.length - (i + 1),by omega,rfl,hlt,p'⟩,fun x H' y=>?_⟩
  obtain ⟨e,y⟩:=y
  subst e
  exact hs i x σ _ (y xs q) p
 ·have e:i = xs.length:=by omega
  subst e
  exact .inl ⟨⟨xs,q,Nat.le_refl _⟩,hd σ H p⟩
theorem Yx {lo:Int} {n:Nat} {g:TG} {tb:TS} {D:Ends} {σ:St} {H:Hp} (Pv:Nat -> St -> Hp -> Prop) (h0:Pv 0 σ H)
  (hs:∀ i σ H,i < n -> Pv i σ H -> g (.int (lo + i)) σ H fun σ2 H2=>tb { D with nx:=Pv (i + 1),ct:=Pv (i + 1),bk:=D.nx } σ2 H2) (hd:∀ σ H,Pv n σ H -> D.nx σ H) :
  ∃ W:Nat -> Nat -> St -> Hp -> Prop,(∃ m,W 0 m σ H) /\ ∀ i m σ H,W i m σ H ->
   ((Itr lo n).stop i H /\ D.nx σ H) \/ ((Itr lo n).go i H /\ ∃ N:St -> Hp -> Prop,(∀ σ' H',N σ' H' -> ∃ m',m' < m /\ W (i + 1) m' σ' H') /\ ∀ x H',(Itr lo n).yld i H x H' -> g x σ H' fun σ2 H2=>tb { D with nx:=N,ct:=N,bk:=D.nx } σ2 H2):=by
 refine ⟨fun i m σ H=>m = n - i /\ i <= n /\ Pv i σ H,⟨n,by simp,Nat.zero_le _,h0⟩,?_⟩
 rintro i m σ H ⟨rfl,hi,p⟩
 by_cases hlt:i < n
 ·refine .inr ⟨hlt,Pv (i + 1),fun σ' H' p'=>⟨n - (i + 1),by omega,rfl,hlt,p'⟩,fun x H' y=>?_⟩
  obtain ⟨e,y⟩:=y
  subst e y
  exact hs i σ _ hlt p
 ·have e:i = n:=by omega
  subst e
  exact .inl ⟨Nat.le_refl _,hd σ H p⟩
end L2
namespace L2
open PySem PySem.Spec PyProof.Rows
abbrev R2:=V -> V -> Hp -> VK -> Prop
def OpR (X:Cx) (f:Value -> Value -> Sem Value) (r:R2):Prop :=
 ∀ (pins:List (Addr × Obj)) (s:Shared) (σ:St) (H:Hp) (x y:V) (v u:Value) (Q:VK),Inv X pins σ H s -> RelV x v -> RelV y u -> r x y H Q ->
  wpAny (model X.prog X.w) X.A (f v u) (EP X pins σ Q) X.xe s
def UnR (X:Cx) (f:Value -> Sem Value) (r:V -> Hp -> VK -> Prop):Prop :=
 ∀ (pins:List (Addr × Obj)) (s:Shared) (σ:St) (H:Hp) (x:V) (v:Value) (Q:VK),Inv X pins σ H s -> RelV x v -> r x H Q ->
  wpAny (model X.prog X.w) X.A (f v) (EP X pins σ Q) X.xe s
def vR (X:Cx) (f:Value) (r:List V -> Hp -> VK -> Prop):Prop :=
 ∀ (pins:List (Addr × Obj)) (s:Shared) (σ:St) (H:Hp) (xs:List V) (us:List Value) (Q:VK),Inv X pins σ H s -> Vals xs us -> r xs H Q ->
  wpAny (model X.prog X.w) X.A (call f us) (EP X pins σ Q) X.xe s
def Ku (X:Cx) (r:V -> Hp -> (Bool -> Hp -> Prop) -> Prop):Prop :=
 ∀ (pins:List (Addr × Obj)) (s:Shared) (σ:St) (H:Hp) (x:V) (v:Value) (Q:Bool -> Hp -> Prop),Inv X pins σ H s -> RelV x v -> r x H Q ->
  wpAny (model X.prog X.w) X.A (truthy v) (TP X pins σ Q) X.xe s
def tOp (r:R2) (ta tb:TE):TE:=fun σ H Q=>ta σ H fun x H1=>tb σ H1 fun y H2=>r x y H2 Q
def tUn (r:V -> Hp -> VK -> Prop) (ta:TE):TE:=fun σ H Q=>ta σ H fun x H1=>r x H1 Q
def rI (C:Int -> Int -> Prop) (g:Int -> Int -> V):R2:=fun x y H Q=>∃ i j,x = .int i /\ y = .int j /\ C i j /\ Q (g i j) H
def rI0 (g:Int -> Int -> V):R2:=fun x y H Q=>∃ i j,x = .int i /\ y = .int j /\ Q (g i j) H
def rU (g:Int -> V):V -> Hp -> VK -> Prop:=fun x H Q=>∃ i,x = .int i /\ Q (g i) H
section
variable {X:Cx} {a b c:Expr} {ta tb tc:TE} {pos:Pos}
theorem Jb (ha:PE X a ta) (hb:PE X b tb) {pins:List (Addr × Obj)} {s:Shared} {σ:St} {H:Hp} {R:V -> V -> Hp -> Prop} (I:Inv X pins σ H s)
  (h:ta σ H fun x H1=>tb σ H1 fun y H2=>R x y H2) {Q:Value -> Shared -> Prop} {f:Value -> Value -> Sem Value}
  (hf:∀ v u s2 x y H2,Inv X pins σ H2 s2 -> RelV x v -> RelV y u -> R x y H2 -> wpAny (model X.prog X.w) X.A (f v u) Q X.xe s2) :
  wpAny (model X.prog X.w) X.A (eval a X.env) (fun v s₁=>wpAny (model X.prog X.w) X.A (eval b X.env) (fun u s₂=>wpAny (model X.prog X.w) X.A (f v u) Q X.xe s₂) X.xe s₁) X.xe s:=by
 refine thn (ha pins s σ H _ I h) fun v s1 ⟨x,H1,I1,r1,q1⟩=>?_
 refine thn (hb pins s1 σ H1 _ I1 q1) fun u s2 ⟨y,H2,I2,r2,q2⟩=>?_
 exact hf v u s2 x y H2 I2 r1 r2 q2
theorem zw {op:Operator} {r:R2} (ho:OpR X (binaryOp op) r) (ha:PE X a ta) (hb:PE X b tb):PE X (.BinOp a op b pos) (tOp r ta tb):=by
 intro pins s σ H Q I h
 exact wpAny_BinOp (Jb ha hb I h fun v u s2 x y H2 I2 rx ry q=>ho pins s2 σ H2 x y v u Q I2 rx ry q)
theorem Jd {op:UnaryOp} {r:V -> Hp -> VK -> Prop} (ho:UnR X (unaryOp op) r) (ha:PE X a ta):PE X (.UnaryOp op a pos) (tUn r ta):=by
 intro pins s σ H Q I h
 exact UnaryOp_ (thn (ha pins s σ H _ I h) fun v s1 ⟨x,H1,I1,r1,q1⟩=>ho pins s1 σ H1 x v Q I1 r1 q1)
theorem opI {f:Value -> Value -> Sem Value} {C:Int -> Int -> Prop} {g:Int -> Int -> Int}
  (rule:∀ (i j:Int) (t u:Tok) (s:Shared) (Q:Value -> Shared -> Prop) (E:Value -> Shared -> Prop),C i j -> Q (.int (g i j) s.toks) { s with toks:=s.toks + 1 } -> wpAny (model X.prog X.w) X.A (f (.int i t) (.int j u)) Q E s) :
  OpR X f (rI C fun i j=>.int (g i j)):=by
 intro pins s σ H x y v u Q I rx ry h
 obtain ⟨i,j,rfl,rfl,hc,q⟩:=h
 obtain ⟨t,rfl⟩:=rx
 obtain ⟨t',rfl⟩:=ry
 exact rule i j t t' s _ _ hc ⟨.int (g i j),H,I.tok _,⟨_,rfl⟩,q⟩
theorem JK {f:Value -> Value -> Sem Value} {g:Int -> Int -> Int}
  (rule:∀ (i j:Int) (t u:Tok) (s:Shared) (Q:Value -> Shared -> Prop) (E:Value -> Shared -> Prop),Q (.int (g i j) s.toks) { s with toks:=s.toks + 1 } -> wpAny (model X.prog X.w) X.A (f (.int i t) (.int j u)) Q E s) :
  OpR X f (rI0 fun i j=>.int (g i j)):=by
 intro pins s σ H x y v u Q I rx ry h
 obtain ⟨i,j,rfl,rfl,q⟩:=h
 obtain ⟨t,rfl⟩:=rx
 obtain ⟨t',rfl⟩:=ry
 exact rule i j t t' s _ _ ⟨.int (g i j),H,I.tok _,⟨_,rfl⟩,q⟩
theorem QN {f:Value -> Value -> Sem Value} {g:Int -> Int -> Bool}
  (rule:∀ (i j:Int) (t u:Tok) (s:Shared) (Q:Value -> Shared -> Prop) (E:Value -> Shared -> Prop),Q (.bool (g i j)) s -> wpAny (model X.prog X.w) X.A (f (.int i t) (.int j u)) Q E s) :
  OpR X f (rI0 fun i j=>.bl (g i j)):=by
 intro pins s σ H x y v u Q I rx ry h
 obtain ⟨i,j,rfl,rfl,q⟩:=h
 obtain ⟨t,rfl⟩:=rx
 obtain ⟨t',rfl⟩:=ry
 exact rule i j t t' s _ _ ⟨.bl (g i j),H,I,rfl,q⟩
def Kn (i j:Int):Prop:=0 < j /\ j < 1073741824
def Jf (i j:Int):Prop:=0 <= j /\ j <= 1000000 /\ i.natAbs < 2 ^ 64
def CMul (i j:Int):Prop:=(-(2 ^ 64) < i /\ i < 2 ^ 64) \/ (-(2 ^ 64) < j /\ j < 2 ^ 64)
theorem CMul.ok {i j:Int} (h:CMul i j):IntMulOk i j:=by
 rcases h with ⟨h1,h2⟩ | ⟨h1,h2⟩
 ·exact .of_left (intBits_le_64 h1 h2)
 ·exact .of_right (intBits_le_64 h1 h2)
theorem op_add:OpR X (binaryOp .Add) (rI0 fun i j=>.int (i + j)):=JK fun _ _ _ _ _ _ _ q=>add_int q
theorem wp:OpR X (binaryOp .Sub) (rI0 fun i j=>.int (i - j)):=JK fun _ _ _ _ _ _ _ q=>sub_int q
theorem op_mul:OpR X (binaryOp .Mult) (rI CMul fun i j=>.int (i * j)):=opI fun _ _ _ _ _ _ _ hc q=>mul_int q hc.ok
theorem xQ:OpR X (binaryOp .FloorDiv) (rI Kn fun i j=>.int (i / j)):=opI fun i j _ _ _ _ _ hc q=>by
 have h1:(0:Int) < j:=hc.1
 have h2:j < 1073741824:=hc.2
 exact floordiv_int (by omega) (by rw [Int.fdiv_eq_ediv_of_nonneg i (by omega)]; exact q) (.inl (PyProof.noPylong_small (by omega)))
theorem yI:OpR X (binaryOp .Mod) (rI (fun _ j=>0 < j) fun i j=>.int (i % j)):=opI fun i j _ _ _ _ _ hc q=>by
 have h1:(0:Int) < j:=hc
 exact mod_int' (by omega) (by rw [Int.fmod_eq_emod_of_nonneg i (by omega)]; exact q)
theorem Vy:OpR X (binaryOp .Pow) (rI Jf fun i j=>.int (i ^ j.toNat)):=opI fun _ _ _ _ _ _ _ hc q=>pow_int_small hc.1 hc.2.1 hc.2.2 q
theorem unI {f:Value -> Sem Value} {g:Int -> Int}
  (rule:∀ (i:Int) (t:Tok) (s:Shared) (Q:Value -> Shared -> Prop) (E:Value -> Shared -> Prop),Q (.int (g i) s.toks) { s with toks:=s.toks + 1 } -> wpAny (model X.prog X.w) X.A (f (.int i t)) Q E s) :
  UnR X f (rU fun i=>.int (g i)):=by
 intro pins s σ H x v Q I rx h
 obtain ⟨i,rfl,q⟩:=h
 obtain ⟨t,rfl⟩:=rx
 exact rule i t s _ _ ⟨.int (g i),H,I.tok _,⟨_,rfl⟩,q⟩
theorem Qd:UnR X (unaryOp .USub) (rU fun i=>.int (-i)):=unI fun _ _ _ _ _ q=>neg_int q
end
def V7:V -> V -> Bool
 | .non,.non=>true | .non,.int _=>true | .int _,.non=>true | .non,.bl _=>true | .bl _,.non=>true | .non,.str _=>true | .str _,.non=>true
 | .int _,.int _=>true | .bl _,.bl _=>true | .str _,.str _=>true | .byt _,.byt _=>true
 | .int _,.str _=>true | .str _,.int _=>true | .bl _,.str _=>true | .str _,.bl _=>true
 | _,_=>false
def rEq:R2:=fun x y H Q=>V7 x y = true /\ Q (.bl (decide (x = y))) H
def rNe:R2:=fun x y H Q=>V7 x y = true /\ Q (.bl (!decide (x = y))) H
theorem Y0 {i j:Int}:decide (V.int i = V.int j) = (i == j):=by
 rw [Bool.eq_iff_iff]
 simp
theorem Vt {i j:Bool}:decide (V.bl i = V.bl j) = (i == j):=by
 rw [Bool.eq_iff_iff]
 simp
theorem X0 {i j:Str}:decide (V.str i = V.str j) = (i == j):=by
 rw [Bool.eq_iff_iff]
 simp
theorem Y6 {i j:Array UInt8}:decide (V.byt i = V.byt j) = (i.toList == j.toList):=by
 rw [Bool.eq_iff_iff]
 cases i
 cases j
 simp
section
variable {X:Cx} {a b c:Expr} {ta tb tc:TE} {pos:Pos}
theorem zP {pins:List (Addr × Obj)} {σ:St} {H:Hp} {s:Shared} {Q:VK} {k k':Bool} (I:Inv X pins σ H s) (q:Q (.bl k) H) (e:k = k'):EP X pins σ Q (.bool k') s:=by
 subst e
 exact ⟨.bl k,H,I,rfl,q⟩
theorem vS:OpR X (compareOp .Eq) rEq:=by
 intro pins s σ H x y v u Q I rx ry h
 obtain ⟨hs,q⟩:=h
 cases x with
 | non =>
  cases rx
  cases y with
  | non=>cases ry; exact PySem.EqNone.eq_none_none (zP I q (by simp))
  | bl j=>cases ry; exact PySem.EqNone.eq_none_bool (zP I q (by simp))
  | int j=>obtain ⟨t',rfl⟩:=ry; exact PySem.EqNone.eq_none_int (zP I q (by simp))
  | str j=>obtain ⟨t',rfl⟩:=ry; exact PySem.EqNone.eq_none_str (zP I q (by simp))
  | _=>exact absurd (show false = true from hs) Bool.false_ne_true
 | bl i =>
  cases rx
  cases y with
  | non=>cases ry; exact PySem.EqNone.eq_bool_none (zP I q (by simp))
  | bl j=>cases ry; exact eq_bool (zP I q Vt)
  | str j=>obtain ⟨t',rfl⟩:=ry; exact PySem.EqMixed.eq_bool_str (zP I q (by simp))
  | _=>exact absurd (show false = true from hs) Bool.false_ne_true
 | int i =>
  obtain ⟨t,rfl⟩:=rx
  cases y with
  | non=>cases ry; exact PySem.EqNone.eq_int_none (zP I q (by simp))
  | int j=>obtain ⟨t',rfl⟩:=ry; exact eq_int (zP I q Y0)
  | str j=>obtain ⟨t',rfl⟩:=ry; exact PySem.EqMixed.eq_int_str (zP I q (by simp))
  | _=>exact absurd (show false = true from hs) Bool.false_ne_true
 | str i =>
  obtain ⟨t,rfl⟩:=rx
  cases y with
  | non=>cases ry; exact PySem.EqNone.eq_str_none (zP I q (by simp))
  | bl j=>cases ry; exact PySem.EqMixed.eq_str_bool (zP I q (by simp))
  | int j=>obtain ⟨t',rfl⟩:=ry; exact PySem.EqMixed.eq_str_int (zP I q (by simp))
  | str j=>obtain ⟨t',rfl⟩:=ry; exact eq_str (zP I q X0)
  | _=>exact absurd (show false = true from hs) Bool.false_ne_true
 | byt i =>
  obtain ⟨t,rfl⟩:=rx
  cases y with
  | byt j=>obtain ⟨t',rfl⟩:=ry; exact PySem.W.eq_bytes (zP I q Y6)
  | _=>exact absurd (show false = true from hs) Bool.false_ne_true
 | _=>cases y <;> exact absurd (show false = true from hs) Bool.false_ne_true
theorem Z2:OpR X (compareOp .NotEq) rNe:=by
 intro pins s σ H x y v u Q I rx ry h
 obtain ⟨hs,q⟩:=h
 cases x with
 | non =>
  cases rx
  cases y with
  | non=>cases ry; exact PySem.EqNone.ne_none_none (zP I q (by simp))
  | bl j=>cases ry; exact PySem.EqNone.ne_none_bool (zP I q (by simp))
  | int j=>obtain ⟨t',rfl⟩:=ry; exact PySem.EqNone.ne_none_int (zP I q (by simp))
  | str j=>obtain ⟨t',rfl⟩:=ry; exact PySem.EqNone.ne_none_str (zP I q (by simp))
  | _=>exact absurd (show false = true from hs) Bool.false_ne_true
 | bl i =>
  cases rx
  cases y with
  | non=>cases ry; exact PySem.EqNone.ne_bool_none (zP I q (by simp))
  | bl j=>cases ry; exact ne_bool (zP I q (congrArg not Vt))
  | str j=>obtain ⟨t',rfl⟩:=ry; exact PySem.EqMixed.ne_bool_str (zP I q (by simp))
  | _=>exact absurd (show false = true from hs) Bool.false_ne_true
 | int i =>
  obtain ⟨t,rfl⟩:=rx
  cases y with
  | non=>cases ry; exact PySem.EqNone.ne_int_none (zP I q (by simp))
  | int j=>obtain ⟨t',rfl⟩:=ry; exact ne_int (zP I q (congrArg not Y0))
  | str j=>obtain ⟨t',rfl⟩:=ry; exact PySem.EqMixed.ne_int_str (zP I q (by simp))
  | _=>exact absurd (show false = true from hs) Bool.false_ne_true
 | str i =>
  obtain ⟨t,rfl⟩:=rx
  cases y with
  | non=>cases ry; exact PySem.EqNone.ne_str_none (zP I q (by simp))
  | bl j=>cases ry; exact PySem.EqMixed.ne_str_bool (zP I q (by simp))
  | int j=>obtain ⟨t',rfl⟩:=ry; exact PySem.EqMixed.ne_str_int (zP I q (by simp))
  | str j=>obtain ⟨t',rfl⟩:=ry; exact ne_str (zP I q (congrArg not X0))
  | _=>exact absurd (show false = true from hs) Bool.false_ne_true
 | byt i =>
  obtain ⟨t,rfl⟩:=rx
  cases y with
  | byt j=>obtain ⟨t',rfl⟩:=ry; exact PySem.W.ne_bytes (zP I q (congrArg not Y6))
  | _=>exact absurd (show false = true from hs) Bool.false_ne_true
 | _=>cases y <;> exact absurd (show false = true from hs) Bool.false_ne_true
theorem op_lt:OpR X (compareOp .Lt) (rI0 fun i j=>.bl (decide (i < j))):=QN fun _ _ _ _ _ _ _ q=>lt_int q
theorem op_le:OpR X (compareOp .LtE) (rI0 fun i j=>.bl (decide (i <= j))):=QN fun _ _ _ _ _ _ _ q=>le_int q
theorem op_gt:OpR X (compareOp .Gt) (rI0 fun i j=>.bl (decide (j < i))):=QN fun _ _ _ _ _ _ _ q=>gt_int q
theorem Jo:OpR X (compareOp .GtE) (rI0 fun i j=>.bl (decide (j <= i))):=QN fun _ _ _ _ _ _ _ q=>ge_int q
theorem Xz:OpR X (compareOp .Lt) (fun x y H Q=>∃ i j,x = .str i /\ y = .str j /\ Q (.bl (decide (i.cps.toList < j.cps.toList))) H):=by
 intro pins s σ H x y v u Q I rx ry h
 obtain ⟨i,j,rfl,rfl,q⟩:=h
 obtain ⟨t,rfl⟩:=rx
 obtain ⟨t',rfl⟩:=ry
 exact lt_str (zP I q rfl)
theorem VI:OpR X (compareOp .IsNot) (fun x y H Q=>y = .non /\ Q (.bl (!decide (x = .non))) H):=by
 intro pins s σ H x y v u Q I rx ry h
 obtain ⟨rfl,q⟩:=h
 cases ry
 refine isnot_none_gen (zP I q ?_)
 cases x <;> first
  | (cases rx; rfl)
  | (obtain ⟨t,rfl⟩:=rx; rfl)
theorem OpR.or {f:Value -> Value -> Sem Value} {r r':R2} (h:OpR X f r) (h':OpR X f r'):OpR X f (fun x y H Q=>r x y H Q \/ r' x y H Q):=by
 intro pins s σ H x y v u Q I rx ry q
 rcases q with q | q
 ·exact h pins s σ H x y v u Q I rx ry q
 ·exact h' pins s σ H x y v u Q I rx ry q
theorem zI (b:Expr) {op:CmpOp} (h:op ≠ .In:=by decide) (h2:op ≠ .NotIn:=by decide):behindInMarks op b = false:=by
 have e1:(op == CmpOp.In) = false:=by cases op <;> first | rfl | exact absurd rfl h
 have e2:(op == CmpOp.NotIn) = false:=by cases op <;> first | rfl | exact absurd rfl h2
 cases b <;> simp [behindInMarks,e1,e2]
theorem xW {op:CmpOp} {r:R2} (ho:OpR X (compareOp op) r) (ha:PE X a ta) (hb:PE X b tb) (hm:behindInMarks op b = false):PE X (.Compare a [op] [b] pos) (tOp r ta tb):=by
 intro pins s σ H Q I h
 exact wpAny_Compare1 (Jb ha hb I h fun v u s2 x y H2 I2 rx ry q=>ho pins s2 σ H2 x y v u Q I2 rx ry q) hm
def V6 (t:TE):TT:=fun σ H Q=>t σ H fun x H'=>∃ k,x = .bl k /\ Q k H'
theorem zF {op:CmpOp} {r:R2} (ho:OpR X (compareOp op) r) (ha:PE X a ta) (hb:PE X b tb) (hm:behindInMarks op b = false):PT X (.Compare a [op] [b] pos) (V6 (tOp r ta tb)):=by
 intro pins s σ H Q I h
 refine wpAny_isTrue_Compare1 (thn (ha pins s σ H _ I h) fun v s1 ⟨x,H1,I1,r1,q1⟩=>thn (hb pins s1 σ H1 _ I1 q1) fun u s2 ⟨y,H2,I2,r2,q2⟩ =>
  thn (ho pins s2 σ H2 x y v u _ I2 r1 r2 q2) fun c s3 ⟨z,H3,I3,r3,k,e,q3⟩=>?_) hm
 subst e
 cases r3
 exact wpAny_truthy_bool ⟨H3,I3,q3⟩
def Yz (r r':R2) (ta tb tc:TE):TE:=fun σ H Q=>ta σ H fun x H1=>tb σ H1 fun y H2=>r x y H2 fun z H3=>∃ k,z = .bl k /\
 (if k = true then tc σ H3 fun w' H4=>r' y w' H4 Q else Q (.bl false) H3)
theorem WO {op op':CmpOp} {r r':R2} (ho:OpR X (compareOp op) r) (ho':OpR X (compareOp op') r') (ha:PE X a ta) (hb:PE X b tb) (hc:PE X c tc)
  (hm:lastMarks [op,op'] [b,c] = false:=by with_unfolding_all rfl):PE X (.Compare a [op,op'] [b,c] pos) (Yz r r' ta tb tc):=by
 intro pins s σ H Q I h
 refine Compare_chain (thn (ha pins s σ H _ I h) fun v s1 ⟨x,H1,I1,r1,q1⟩=>chain_link (thn (hb pins s1 σ H1 _ I1 q1) fun u s2 ⟨y,H2,I2,r2,q2⟩ =>
  thn (ho pins s2 σ H2 x y v u _ I2 r1 r2 q2) fun d s3 ⟨z,H3,I3,r3,k,e,q3⟩=>?_)) hm
 subst e
 cases r3
 refine wpAny_truthy_bool ?_
 cases k with
 | false=>exact ite_ff ⟨.bl false,H3,I3,rfl,q3⟩
 | true=>exact ite_tt (chain_last (thn (hc pins s3 σ H3 _ I3 q3) fun w' s4 ⟨z',H4,I4,r4,q4⟩=>ho' pins s4 σ H4 y z' u w' Q I4 r2 r4 q4))
theorem qB {op op':CmpOp} {r r':R2} (ho:OpR X (compareOp op) r) (ho':OpR X (compareOp op') r') (ha:PE X a ta) (hb:PE X b tb) (hc:PE X c tc)
  (hm:lastMarks [op,op'] [b,c] = false:=by with_unfolding_all rfl):PT X (.Compare a [op,op'] [b,c] pos) (V6 (Yz r r' ta tb tc)):=by
 intro pins s σ H Q I h
 refine isTrue_chain (thn (ha pins s σ H _ I h) fun v s1 ⟨x,H1,I1,r1,q1⟩=>test_link (thn (hb pins s1 σ H1 _ I1 q1) fun u s2 ⟨y,H2,I2,r2,q2⟩ =>
  thn (ho pins s2 σ H2 x y v u _ I2 r1 r2 q2) fun d s3 ⟨z,H3,I3,r3,k,e,q3⟩=>?_)) hm
 subst e
 cases r3
 refine wpAny_truthy_bool ?_
 cases k with
 | false =>
  obtain ⟨k',e',q'⟩:=q3
  cases e'
  exact ite_ff ⟨H3,I3,q'⟩
 | true =>
  refine ite_tt (test_last (thn (hc pins s3 σ H3 _ I3 q3) fun w' s4 ⟨z',H4,I4,r4,q4⟩=>thn (ho' pins s4 σ H4 y z' u w' _ I4 r2 r4 q4) fun d' s5 ⟨z2,H5,I5,r5,k2,e2,q5⟩=>?_))
  subst e2
  cases r5
  exact wpAny_truthy_bool ⟨H5,I5,q5⟩
def UC (K:PySem.W.Frag) (x:V) (H:Hp) (k:Bool):Prop :=
 match x with
 | .non=>k = false
 | .bl b=>k = b
 | .int i=>k = (i != 0)
 | .str y=>y.length <= sizeLine /\ k = ((y.length:Int) != 0)
 | .byt y=>y.size <= sizeLine /\ k = ((y.size:Int) != 0)
 | .ref p=>(∃ xs,SqL K H p xs /\ k = !xs.isEmpty) \/ (∃ xs,SqT K H p xs /\ k = !xs.isEmpty) \/ ∃ kvs,H p = some (.dK kvs) /\ k = !kvs.isEmpty
 | _=>False
theorem ZV {κ:Type} {kvs:List (κ × V)} {vs:List (κ × Value)} (r:KV kvs vs):(!vs.isEmpty) = !kvs.isEmpty:=by
 cases r <;> rfl
theorem qx {xs:List V} {its:List Value} (r:Vals xs its):(!its.toArray.isEmpty) = !xs.isEmpty:=by
 cases r <;> simp
theorem jV:(sizeLine:Nat) < 2 ^ 63:=by rw [sizeLine_eq]; decide
theorem Vw:Ku X (fun x H Q=>∃ k,UC X.K x H k /\ Q k H):=by
 intro pins s σ H x v Q I rx h
 obtain ⟨k,e,q⟩:=h
 have hl:=jV
 have hs:sizeLine = 16777216:=sizeLine_eq
 cases x with
 | non =>
  cases rx
  have e':k = false:=e
  subst e'
  exact truthy_none ⟨H,I,q⟩
 | bl b =>
  cases rx
  have e':k = b:=e
  subst e'
  exact wpAny_truthy_bool ⟨H,I,q⟩
 | int i =>
  obtain ⟨t,rfl⟩:=rx
  have e':k = (i != 0):=e
  subst e'
  exact PySem.P.truthy_int ⟨H,I,q⟩
 | str y =>
  obtain ⟨t,rfl⟩:=rx
  obtain ⟨hy,e'⟩:y.length <= sizeLine /\ k = ((y.length:Int) != 0):=e
  subst e'
  exact PySem.P.truthy_str (by omega) ⟨H,I.tok _,q⟩
 | byt y =>
  obtain ⟨t,rfl⟩:=rx
  obtain ⟨hy,e'⟩:y.size <= sizeLine /\ k = ((y.size:Int) != 0):=e
  subst e'
  exact PySem.W.truthy_bytes (by omega) ⟨H,I.tok _,q⟩
 | ref p =>
  cases rx
  have e':(∃ xs,SqL X.K H p xs /\ k = !xs.isEmpty) \/ (∃ xs,SqT X.K H p xs /\ k = !xs.isEmpty) \/ ∃ kvs,H p = some (.dK kvs) /\ k = !kvs.isEmpty:=e
  rcases e' with ⟨xs,hx,e'⟩ | ⟨xs,hx,e'⟩ | ⟨kvs,hx,e'⟩
  ·subst e'
   obtain ⟨its,r,pl,hz⟩:=I.list hx
   have hlen:=r.length
   exact wpAny_truthy_list pl.isList (by simp only [List.size_toArray]; omega) ⟨H,I.tok _,by rw [qx r]; exact q⟩
  ·subst e'
   obtain ⟨its,r,pl,hz⟩:=I.tuple hx
   have hlen:=r.length
   exact truthy_tuple pl (by simp only [List.size_toArray]; omega) ⟨H,I.tok _,by rw [qx r]; exact q⟩
  ·subst e'
   obtain ⟨hz,hS,vs,r,m⟩:kvs.length <= sizeLine /\ (p == sysModules) = false /\ ∃ vs,KV kvs vs /\ s.heap.DictOf (kB X.prog X.w) p vs:=I.hok p _ hx
   have hlen:kvs.length = vs.length:=Paired.length r
   exact wpAny_truthy_dict hS m (by omega) ⟨H,I.tok _,by rw [ZV r]; exact q⟩
 | _=>exact (show False from e).elim
theorem Zb (ha:PE X a ta) (he:∀ whole,isTrue a X.env whole = (do let v <- whole; standAt a.pos; holding [v] (truthy v))) :
  PT X a (fun σ H Q=>ta σ H fun x H'=>∃ k,UC X.K x H' k /\ Q k H'):=by
 intro pins s σ H Q I h
 exact isTrue_plain (thn (ha pins s σ H _ I h) fun v s1 ⟨x,H1,I1,r1,q1⟩=>Vw pins s1 σ H1 x v Q I1 r1 q1) (he _)
theorem op_add_str:OpR X (binaryOp .Add) (fun x y H Q=>∃ i j,x = .str i /\ y = .str j /\ i.length + j.length <= sizeLine /\ Q (.str (i ++ j)) H):=by
 intro pins s σ H x y v u Q I rx ry h
 obtain ⟨i,j,rfl,rfl,hz,q⟩:=h
 obtain ⟨t,rfl⟩:=rx
 obtain ⟨t',rfl⟩:=ry
 exact add_str (fun t' tk=>⟨.str (i ++ j),H,I.tok _,⟨_,rfl⟩,q⟩) hz
theorem vn {x:V} {us:List Value} (r:Vals [x] us):∃ u,us = [u] /\ RelV x u:=by
 cases r with
 | cons r1 r2=>cases r2; exact ⟨_,rfl,r1⟩
theorem Xl {x y:V} {us:List Value} (r:Vals [x,y] us):∃ u w',us = [u,w'] /\ RelV x u /\ RelV y w':=by
 cases r with
 | cons r1 r2 =>
  cases r2 with
  | cons r3 r4=>cases r4; exact ⟨_,_,rfl,r1,r3⟩
theorem XO (hc:X.calm = true):vR X (.builtin "max") (fun xs H Q=>∃ i j,xs = [.int i,.int j] /\ Q (.int (if j > i then j else i)) H):=by
 intro pins s σ H xs us Q I r h
 obtain ⟨i,j,rfl,q⟩:=h
 obtain ⟨u,w',rfl,⟨t,rfl⟩,⟨t',rfl⟩⟩:=Xl r
 refine max_two_ints (I.ok.hd hc) fun h' tk k=>⟨_,H,I.kept k,?_,q⟩
 by_cases hj:j > i
 ·rw [if_pos hj,if_pos hj]; exact ⟨_,rfl⟩
 ·rw [if_neg hj,if_neg hj]; exact ⟨_,rfl⟩
def Jv (K:PySem.W.Frag) (x:V) (H:Hp) (n:Nat):Prop :=
 match x with
 | .str y=>y.length <= sizeLine /\ n = y.length
 | .byt y=>y.size <= sizeLine /\ n = y.size
 | .ref p=>(∃ xs,SqL K H p xs /\ n = xs.length) \/ ∃ xs,SqT K H p xs /\ n = xs.length
 | _=>False
theorem WH:vR X (.builtin "len") (fun xs H Q=>∃ x n,xs = [x] /\ Jv X.K x H n /\ Q (.int n) H):=by
 intro pins s σ H xs us Q I r h
 obtain ⟨x,n,rfl,e,q⟩:=h
 obtain ⟨u,rfl,rx⟩:=vn r
 have hl:=jV
 have hs:sizeLine = 16777216:=sizeLine_eq
 cases x with
 | str y =>
  obtain ⟨t,rfl⟩:=rx
  obtain ⟨hy,e'⟩:y.length <= sizeLine /\ n = y.length:=e
  subst e'
  exact len_str (by omega) ⟨.int _,H,I.tok _,⟨_,rfl⟩,q⟩
 | byt y =>
  obtain ⟨t,rfl⟩:=rx
  obtain ⟨hy,e'⟩:y.size <= sizeLine /\ n = y.size:=e
  subst e'
  exact PySem.W.len_bytes (by omega) ⟨.int _,H,I.tok _,⟨_,rfl⟩,q⟩
 | ref p =>
  cases rx
  have e':(∃ xs,SqL X.K H p xs /\ n = xs.length) \/ ∃ xs,SqT X.K H p xs /\ n = xs.length:=e
  rcases e' with ⟨xs,hx,e'⟩ | ⟨xs,hx,e'⟩
  ·subst e'
   obtain ⟨its,r',pl,hz⟩:=I.list hx
   have hlen:=r'.length
   exact Calls.call_len_list pl.isList (by simp only [List.size_toArray]; omega) ⟨.int xs.length,H,I.tok _,⟨_,by simp only [List.size_toArray]; rw [hlen]⟩,q⟩
  ·subst e'
   obtain ⟨its,r',pl,hz⟩:=I.tuple hx
   have hlen:=r'.length
   exact len_tuple pl (by simp only [List.size_toArray]; omega) ⟨.int xs.length,H,I.tok _,⟨_,by simp only [List.size_toArray]; rw [hlen]⟩,q⟩
 | _=>exact (show False from e).elim
end
end L2
namespace L2
open PySem PySem.Spec PyProof.Rows
structure ObjM (h:Heap) (x dx C:Addr) (mA:Str -> Option Value):Prop where
 obj:h.get? x = some (PySem.W.instObj C dx)
 ns:h.Ns1 dx mA
 ne:dx ≠ x
theorem YY {h:Heap} {dx:Addr} {mA:Str -> Option Value} (n:h.Ns1 dx mA):∃ od,h.get? dx = some od /\ ∀ name,PySem.W.lookIn name od = some (mA name):=by
 obtain ⟨o,es,ep,ho,hd,hk,_,hm⟩:=n
 refine ⟨o,ho,fun name=>?_⟩
 have e:=hm name
 unfold nsFind findBy at e
 rw [<- Array.find?_toList] at e
 unfold PySem.W.lookIn
 rw [hd]
 dsimp only
 split
 ·rename_i y q
  rw [q] at e
  exact congrArg some e
 ·rename_i q
  rw [q] at e
  have a:es.toList.any (·.refKey) = false:=by
   rw [List.any_eq_false]
   intro y hy
   obtain ⟨z,t,hkey⟩:=hk y (Array.mem_toList_iff.mp hy)
   simp [DictEntry.refKey,hkey]
  have a':¬ es.toList.any (·.refKey) = true:=by rw [a]; exact Bool.false_ne_true
  rw [if_neg a']
  exact congrArg some e
theorem ObjM.look {h:Heap} {x dx C:Addr} {mA:Str -> Option Value} (I:ObjM h x dx C mA):∃ od,PySem.W.InstAt h x (PySem.W.instObj C dx) C (some od) /\ ∀ name,PySem.W.lookIn name od = some (mA name) :=
 let ⟨od,ho,hl⟩:=YY I.ns
 ⟨od,⟨I.obj,rfl,rfl,ho⟩,hl⟩
section
variable {prog:Program} {w:World} {A:Around} {E:Value -> Shared -> Prop} {s:Shared} {K:PySem.W.Frag} {x dx C f:Addr} {mA:Str -> Option Value} {name:Str} {v:Value}
theorem VV {expr:Bool} {Q:Value -> Shared -> Prop} (X:K.In s.heap) (I:ObjM s.heap x dx C mA) (hg:PySem.W.plainGet K C name = true) (hh:PySem.W.hasDictIn K C = true)
  (ha:PySem.W.findIn K (.ref C) name = some none) (hv:mA name = some v) (hv':PySem.W.handedIn v = true) (h:Q v { s with toks:=s.toks + 1 }) :
  wpAny (model prog w) A (getAttr (.ref x) name expr) Q E s:=by
 obtain ⟨od,J,hl⟩:=I.look
 exact PySem.W.get_value X J (PySem.W.plainGet_of hg).1 (PySem.W.findObj_own hh ha rfl (by rw [hl,hv])) hv' h
theorem WV {pl:Sem Bool} {Q:Value × List Value -> Shared -> Prop} (X:K.In s.heap) (I:ObjM s.heap x dx C mA) (hg:PySem.W.plainGet K C name = true)
  (hf:PySem.W.findIn K (.ref C) name = some (some (.ref f))) (ht:PySem.W.isFn K (.ref f) = true) (hv:mA name = none) (h:Q (.ref f,[.ref x]) s) :
  wpAny (model prog w) A (getMethod (.ref x) name pl) Q E s:=by
 obtain ⟨od,J,hl⟩:=I.look
 exact PySem.W.method_fn X J (PySem.W.plainGet_of hg).1 (PySem.W.plainGet_of hg).2 hf (beq_iff_eq.mp ht) (by show (PySem.W.lookIn name od).map (·.isSome) = some false; rw [hl,hv]; rfl) h
theorem Vz {ns:List Str} {Q:Unit -> Shared -> Prop} (X:K.In s.heap) (I:ObjM s.heap x dx C mA)
  (hs:PySem.W.findIn K (.ref C) "__setattr__" = some (some (.builtin "object.__setattr__"))) (hp:PySem.W.plainOver K C = true) (ht:PySem.W.takerIn K C name = some none) (hh:PySem.W.hasDictIn K C = true)
  (hw:PySem.Within mA ns) (hsz:ns.length <= sizeLine)
  (h:∀ h',ObjM h' x dx C (fun y=>if y = name then some v else mA y) -> Heap.SameBut dx s.heap h' -> Q () { s with heap:=h',toks:=s.toks + 2 }) :
  wpAny (model prog w) A (setAttr (.ref x) name v) Q E s:=by
 obtain ⟨od,J,hl⟩:=I.look
 refine PySem.W.set_plain X J hs (PySem.W.osa_open (s:={ s with toks:=s.toks + 1 }) (r:=none) X J hp ht fun b=>?_)
 obtain ⟨cd,hc,hd'⟩:=PySem.W.any_some hh
 have hx:s.heap.get? x = some ⟨.ref C,some dx,.plain,#[]⟩:=I.obj
 refine wpAny_bind (wpAny_pure (wpAny_bind (wpAny_bind (wpAny_loadPart hx (wpAny_bind (PySem.W.Looks.here (s:={ s with toks:=s.toks + 1 }) (PySem.W.looks_clsIn X hc) ?_))))))
 rw [hd']
 refine wpAny_pure (a:=some dx) (wpAny_bind (wpAny_pure (wpAny_bind ?_)))
 refine wpAny_nsSet1 (s:={ s with toks:=s.toks + 1 }) I.ns fun h' hn2 hs2=>?_
 obtain ⟨oD,esD,epD,hoD,hdD,hcD⟩:=hn2.count (PySem.Within.cons name v hw)
 refine wpAny_bind (wpAny_lookBehind hoD (by rw [hdD]; exact pastItsLine_dict (Nat.le_trans hcD (by rw [List.length_cons]; omega))) ?_)
 exact wpAny_pure (h _ ⟨(hs2.2 _ (Ne.symm I.ne)).trans I.obj,hn2,I.ne⟩ hs2)
theorem Ww {R:Result -> Shared -> Prop} {vs:List Value} {kw:List (Str × Value)} (X:K.In s.heap) (hm:PySem.W.makesIn K C = true)
  (hi:PySem.W.findIn K (.ref C) "__init__" = some (some (.ref f))) (hf:PySem.W.typeIn K (.ref f) = some (.type "function"))
  (h:codeAny (model prog w) (A.under (.builtin "type.__call__" ⟨.ref C :: vs,kw⟩)) (.call (.ref f) ⟨.ref (s.heap.objs.size + 1) :: vs,kw⟩) (PySem.W.InitBack (s.heap.objs.size + 1) R)
   { s with heap:=(s.heap.push PySem.W.emptyDict).push (PySem.W.instObj C s.heap.objs.size) }) :
  codeAny (model prog w) A (.call (.ref C) ⟨vs,kw⟩) R s:=by
 obtain ⟨hh,g,d,t,os⟩:=s
 exact PySem.W.make_core (PySem.W.makes_of X hm) (PySem.W.looks_findIn X hi) (fun self=>PySem.W.bind_fn X self hf) (.inl rfl) h
end
def jx (f:Str) (v:V):List (Str × V) -> List (Str × V)
  | []=>[(f,v)]
  | (g,x) :: r=>if g = f then (g,v) :: r else (g,x) :: jx f v r
theorem uw (f g:Str) (v:V):∀ fs:List (Str × V),(jx f v fs).lookup g = if g = f then some v else fs.lookup g
  | []=>by
    show List.lookup g [(f,v)] = _
    by_cases h:g = f
    · have hb:(g == f) = true:=beq_iff_eq.mpr h
      simp only [List.lookup,hb,if_pos h]
    · have hb:(g == f) = false:=beq_eq_false_iff_ne.mpr h
      simp only [List.lookup,hb,if_neg h]
  | (k,x) :: r=>by
    have ih:=uw f g v r
    rw [show jx f v ((k,x) :: r) = (if k = f then (k,v) :: r else (k,x) :: jx f v r) from rfl]
    by_cases hk:k = f
    · rw [if_pos hk]
      by_cases h:g = k
      · have hb:(g == k) = true:=beq_iff_eq.mpr h
        simp only [List.lookup,hb,if_pos (h.trans hk)]
      · have hb:(g == k) = false:=beq_eq_false_iff_ne.mpr h
        simp only [List.lookup,hb,if_neg (fun e:g = f=>h (e.trans hk.symm))]
    · rw [if_neg hk]
      by_cases h:g = k
      · have hb:(g == k) = true:=beq_iff_eq.mpr h
        simp only [List.lookup,hb,if_neg (fun e:g = f=>hk (h.symm.trans e))]
      · have hb:(g == k) = false:=beq_eq_false_iff_ne.mpr h
        simp only [List.lookup,hb]
        exact ih
theorem uz (f:Str) (v:V):∀ fs:List (Str × V),f ∈ (jx f v fs).map (·.1) /\ ∀ g,g ∈ fs.map (·.1) -> g ∈ (jx f v fs).map (·.1)
  | []=>⟨by simp [jx],fun g h=>by simp at h⟩
  | (k,x) :: r=>by
    obtain ⟨i1,i2⟩:=uz f v r
    rw [show jx f v ((k,x) :: r) = (if k = f then (k,v) :: r else (k,x) :: jx f v r) from rfl]
    by_cases hk:k = f
    · rw [if_pos hk]
      subst hk
      exact ⟨by simp,fun g h=>by simpa using h⟩
    · rw [if_neg hk]
      refine ⟨?_,fun g h=>?_⟩
      · rw [List.map_cons]
        exact List.mem_cons_of_mem _ i1
      · rw [List.map_cons] at h ⊢
        rcases List.mem_cons.mp h with e | e
        · exact List.mem_cons.mpr (.inl e)
        · exact List.mem_cons_of_mem _ (i2 g e)
theorem uL (f:Str) (v:V):∀ fs:List (Str × V),(jx f v fs).length <= fs.length + 1
  | []=>by simp [jx]
  | (k,x) :: r=>by
    have ih:=uL f v r
    rw [show jx f v ((k,x) :: r) = (if k = f then (k,v) :: r else (k,x) :: jx f v r) from rfl]
    by_cases hk:k = f
    · rw [if_pos hk,List.length_cons,List.length_cons]; omega
    · rw [if_neg hk,List.length_cons,List.length_cons]; omega
theorem RelO.some_of {v:V} {o:Option Value} (r:RelO (some v) o):∃ u,o = some u /\ RelV v u:=by
 cases o with
 | none=>exact (show False from r).elim
 | some u=>exact ⟨u,rfl,r⟩
theorem RelO.none_of {o:Option Value} (r:RelO none o):o = none:=by
 cases o with
 | none=>rfl
 | some u=>exact (show False from r).elim
theorem YV {v:V} {u:Value} (r:RelV v u):PySem.W.handedIn u = true:=by
 cases v with
 | non=>cases (show u = Value.none from r); rfl
 | bl b=>cases (show u = Value.bool b from r); rfl
 | int i=>obtain ⟨t,e⟩:=(show ∃ t,u = Value.int i t from r); cases e; rfl
 | str x=>obtain ⟨t,e⟩:=(show ∃ t,u = Value.str x t from r); cases e; rfl
 | byt b=>obtain ⟨t,e⟩:=(show ∃ t,u = Value.bytes b t from r); cases e; rfl
 | flt b=>obtain ⟨t,e⟩:=(show ∃ t,u = Value.float b t from r); cases e; rfl
 | ref a=>cases (show u = Value.ref a from r); rfl
 | ty n=>cases (show u = Value.type n from r); rfl
section
variable {P:Program} {w:World} {H H':Hp} {h h':Heap} {a C dx:Addr} {fs fs':List (Str × V)}
theorem jm (hok:HOk P w H h) (e:H a = some (.ins C dx fs)):∃ mA,ObjM h a dx C mA /\ (∀ f,RelO (fs.lookup f) (mA f)) /\ PySem.Within mA (fs.map (·.1)) /\ fs.length <= 1000 /\ H dx = some (.own a):=by
 obtain ⟨d,z,ne,ob,mA,n,r,q⟩:=(show ObjOk P w H h a (.ins C dx fs) from hok a _ e)
 exact ⟨mA,⟨ob,n,ne⟩,r,q,z,d⟩
end
structure Cls (K:PySem.W.Frag) (C:Addr):Prop where
 pg:PySem.W.plainGet K C Str.empty = true
 hd:PySem.W.hasDictIn K C = true
 po:PySem.W.plainOver K C = true
 sa:PySem.W.findIn K (.ref C) "__setattr__" = some (some (.builtin "object.__setattr__"))
theorem Cls.get {K:PySem.W.Frag} {C:Addr} (c:Cls K C) (f:Str):PySem.W.plainGet K C f = true:=c.pg
def NoAttr (K:PySem.W.Frag) (C:Addr) (f:Str):Prop:=PySem.W.findIn K (.ref C) f = some none
theorem NoAttr.taker {K:PySem.W.Frag} {C:Addr} {f:Str} (n:NoAttr K C f):PySem.W.takerIn K C f = some none:=by
 unfold PySem.W.takerIn
 rw [show PySem.W.findIn K (.ref C) f = some none from n]
 rfl
structure UJ (K:PySem.W.Frag) (C:Addr) (m:Str) (f:Addr):Prop where
 at_:PySem.W.findIn K (.ref C) m = some (some (.ref f))
 fn:PySem.W.isFn K (.ref f) = true
 kp:PySem.W.keepIn K (.ref f) = true
section
variable {X:Cx} {pins:List (Addr × Obj)} {σ:St} {H:Hp} {s:Shared} {a C dx:Addr} {fs:List (Str × V)} {f:Str} {v:V} {A:Around} {E:Value -> Shared -> Prop}
theorem ZW {b:Bool} {Q:Value -> Shared -> Prop} (I:Inv X pins σ H s) (e:H a = some (.ins C dx fs)) (c:Cls X.K C) (n:NoAttr X.K C f) (l:fs.lookup f = some v)
  (h:∀ u s',Inv X pins σ H s' -> RelV v u -> Q u s'):wpAny (model X.prog X.w) A (getAttr (.ref a) f b) Q E s:=by
 obtain ⟨mA,O,r,_,_,_⟩:=jm I.hok e
 obtain ⟨u,hu,ru⟩:=RelO.some_of (v:=v) (o:=mA f) (by rw [<- l]; exact r f)
 exact VV I.kIn O (c.get f) c.hd n hu (YV ru) (h u _ (I.tok _) ru)
theorem xL {m:Str} {g:Addr} {pl:Sem Bool} {Q:Value × List Value -> Shared -> Prop} (I:Inv X pins σ H s) (e:H a = some (.ins C dx fs)) (c:Cls X.K C) (k:UJ X.K C m g) (l:fs.lookup m = none)
  (h:Q (.ref g,[.ref a]) s):wpAny (model X.prog X.w) A (getMethod (.ref a) m pl) Q E s:=by
 obtain ⟨mA,O,r,_,_,_⟩:=jm I.hok e
 have hn:mA m = none:=RelO.none_of (by rw [<- l]; exact r m)
 exact WV I.kIn O (c.get m) k.at_ k.fn hn h
theorem Yb {y:V} {u:Value} {Q:Unit -> Shared -> Prop} (I:Inv X pins σ H s) (e:H a = some (.ins C dx fs)) (c:Cls X.K C) (n:NoAttr X.K C f) (hl:fs.length < 1000) (ry:RelV y u)
  (h:∀ s',Inv X pins σ (upd H a (.ins C dx (jx f y fs))) s' -> Q () s'):wpAny (model X.prog X.w) A (setAttr (.ref a) f u) Q E s:=by
 obtain ⟨mA,O,r,wi,_,ho⟩:=jm I.hok e
 have hz:(fs.map (·.1)).length <= sizeLine:=by rw [List.length_map,sizeLine_eq]; omega
 refine Vz I.kIn O c.sa c.po n.taker c.hd wi hz fun h' O' sb=>h _ ?_
 have hd:∃ o,h'.get? dx = some o:=let ⟨o,_,_,e',_⟩:=O'.ns; ⟨o,e'⟩
 refine I.write (x:=a) (e:=dx) (by rw [e]; exact True.intro) (.inr ho) (fun b q hb z=>(sb.2 b hb).trans z) hd ?_
 refine ⟨by rw [zo O.ne]; exact ho,?_,O.ne,O'.obj,_,O'.ns,fun g=>?_,fun g hg=>?_⟩
 ·have:=uL f y fs; omega
 ·show RelO ((jx f y fs).lookup g) (if g = f then some u else mA g)
  rw [uw]
  by_cases q:g = f
  ·rw [if_pos q,if_pos q]; exact ry
  ·rw [if_neg q,if_neg q]; exact r g
 ·by_cases q:g = f
  ·rw [q]; exact (uz f y fs).1
  ·refine (uz f y fs).2 g (wi g fun z=>hg ?_)
   show (if g = f then some u else mA g) = none
   rw [if_neg q]; exact z
theorem Inv.made (I:Inv X pins σ H s):Inv X pins σ (upd (upd H s.heap.objs.size (.own (s.heap.objs.size + 1))) (s.heap.objs.size + 1) (.ins C s.heap.objs.size []))
  { s with heap:=(s.heap.push PySem.W.emptyDict).push (PySem.W.instObj C s.heap.objs.size) }:=by
 have e1:(s.heap.push PySem.W.emptyDict).get? s.heap.objs.size = some PySem.W.emptyDict:=Heap.get?_push_size s.heap rfl
 have e2:((s.heap.push PySem.W.emptyDict).push (PySem.W.instObj C s.heap.objs.size)).get? (s.heap.objs.size + 1) = some (PySem.W.instObj C s.heap.objs.size):=by
  have:=Heap.get?_push_size (s.heap.push PySem.W.emptyDict) (o:=PySem.W.instObj C s.heap.objs.size) rfl
  rwa [Heap.size_push] at this
 have e3:(s.heap.push PySem.W.emptyDict).Ns s.heap.objs.size (fun _=>none):=⟨PySem.W.emptyDict,#[],_,e1,rfl,(fun e he=>absurd he (by simp)),fun _=>rfl⟩
 have I1:=I.laid (a:=s.heap.objs.size) (o:=.own (s.heap.objs.size + 1)) (h':=s.heap.push PySem.W.emptyDict) (t':=s.toks) (fun b u q=>Heap.get?_push_of_some _ q) (Nat.le_refl _) ⟨_,e1⟩
 refine I1.laid (a:=s.heap.objs.size + 1) (o:=.ins C s.heap.objs.size []) (t':=s.toks) (fun b u q=>Heap.get?_push_of_some _ q) (Nat.le_of_eq (Heap.size_push _ _)) ?_
 have ne:s.heap.objs.size ≠ s.heap.objs.size + 1:=Nat.ne_of_lt (Nat.lt_succ_self _)
 refine ⟨by rw [zo ne,ze],Nat.zero_le _,ne,e2,fun _=>none,(Heap.Ns1.of_empty e3).at fun o q=>Heap.get?_push_of_some _ q,fun _=>True.intro,fun y hy=>absurd rfl hy⟩
theorem Ui {prog:Program} {w:World} {env:Env} {e:Expr} {f:Str} {pos:Pos} {s:Shared} {Q:Value -> Shared -> Prop} (hb:attributeBase e f env (eval e env) = eval e env)
  (h:wpAny (model prog w) A (eval e env) (fun o s₁=>wpAny (model prog w) A (getAttr o f true) Q E s₁) E s):wpAny (model prog w) A (eval (.Attribute e f pos) env) Q E s :=
 Attribute_any_ h (by rw [arm_eval_Attribute,hb])
end
def UQ (K:PySem.W.Frag) (ta:TE) (f:Str):TE:=fun σ H Q=>ta σ H fun x H1=>∃ a C dx fs v,x = .ref a /\ H1 a = some (.ins C dx fs) /\ Cls K C /\ NoAttr K C f /\ fs.lookup f = some v /\ Q v H1
def JT (K:PySem.W.Frag) (ta tv:TE) (f:Str):TS:=fun D σ H=>tv σ H fun y H1=>ta σ H1 fun x H2=>∃ a C dx fs,x = .ref a /\ H2 a = some (.ins C dx fs) /\ Cls K C /\ NoAttr K C f /\ fs.length < 1000 /\
 D.nx σ (upd H2 a (.ins C dx (jx f y fs)))
section
variable {X:Cx} {o e value:Expr} {f:Str} {pos pos' tpos:Pos} {ta tv:TE}
theorem Zg (he:PE X e ta) (hb:attributeBase e f X.env (eval e X.env) = eval e X.env):PE X (.Attribute e f pos) (UQ X.K ta f):=by
 intro pins s σ H Q I h
 refine Ui hb (thn (he pins s σ H _ I h) fun u s1 ⟨x,H1,I1,rx,a,C,dx,fs,v,ex,ea,c,n,l,q⟩=>?_)
 subst ex
 obtain rfl:u = Value.ref a:=rx
 exact ZW I1 ea c n l fun u' s2 I2 ru=>⟨v,H1,I2,ru,q⟩
theorem kP (ha:PE X o ta) (hv:PE X value tv) (hs:swapsWith value (some (.Attribute o f pos')) pos.line X.env = pure false):PS X (.Assign [.Attribute o f pos'] value pos) (JT X.K ta tv f):=by
 intro pins s σ H D I h
 refine plainObj_wpAny_Assign_Attribute (thn (hv pins s σ H _ I h) fun u s1 ⟨y,H1,I1,ry,q⟩=>thn (ha pins s1 σ H1 _ I1 q) fun ov s2 ⟨x,H2,I2,rx,a,C,dx,fs,ex,ea,c,n,l,q2⟩=>?_) hs
 subst ex
 obtain rfl:ov = Value.ref a:=rx
 exact Yb I2 ea c n l ry fun s3 I3=>⟨σ,_,I3,q2⟩
theorem VX {pl:Sem Bool} {m:Str} {apos:Pos} {args:List Expr} {pins:List (Addr × Obj)} {s:Shared} {σ:St} {H:Hp} {Q:Value -> Shared -> Prop} {te:TE} (he:PE X e te) (I:Inv X pins σ H s)
    (h:te σ H fun x H1=>∃ a C dx fs g,x = .ref a /\ H1 a = some (.ins C dx fs) /\ Cls X.K C /\ UJ X.K C m g /\ fs.lookup m = none /\
      ∀ s1,Inv X pins σ H1 s1 -> wpAny (model X.prog X.w) X.A (callWith pos (.ref g) [.ref a] (backTo pos (starEach args X.env)) (backToKw pos (keywordEach [] X.env))) Q X.xe s1)
    (ht:eval (.Call (.Attribute e m apos) args [] pos) X.env = (do
      let ov <- eval e X.env
      standAt apos.atName
      let (f,first) <- holding [ov] (getMethod ov m pl)
      callWith pos f first (backTo pos (starEach args X.env)) (backToKw pos (keywordEach [] X.env)))) :
    wpAny (model X.prog X.w) X.A (eval (.Call (.Attribute e m apos) args [] pos) X.env) Q X.xe s:=by
  refine PySem.W.methodCall_KW (pl:=pl) (thn (he pins s σ H _ I h) fun u s1 ⟨x,H1,I1,rx,a,C,dx,fs,g,ex,ea,c,k,l,q⟩=>?_) ht
  subst ex
  obtain rfl:u = Value.ref a:=rx
  exact xL I1 ea c k l (q s1 I1)
end
section
variable {X:Cx} {pins:List (Addr × Obj)} {σ:St} {H:Hp} {s:Shared} {A:Around} {E:Value -> Shared -> Prop} {Q:Value -> Shared -> Prop} {c:Value} {b:Bool}
inductive Zn (K:PySem.W.Frag) (H:Hp):V -> Value -> Prop where
 | non:Zn K H .non (.type "NoneType")
 | bl (x:Bool):Zn K H (.bl x) (.type "bool")
 | int (i:Int):Zn K H (.int i) (.type "int")
 | str (x:Str):Zn K H (.str x) (.type "str")
 | flt (x:UInt64):Zn K H (.flt x) (.type "float")
 | lst {a:Addr} {xs:List V} (e:H a = some (.lst xs)):Zn K H (.ref a) (.type "list")
 | frz {a:Addr} {o:Obj} {xs:List V} (e:H a = some (.frz o (.lst xs))):Zn K H (.ref a) (.type "list")
 | tup {a:Addr} {xs:List V} (e:H a = some (.tup xs)):Zn K H (.ref a) (.type "tuple")
 | dK {a:Addr} {kvs:List (Key × V)} (e:H a = some (.dK kvs)):Zn K H (.ref a) (.type "dict")
 | dT {a:Addr} {kvs:List (List Key × V)} (e:H a = some (.dT kvs)):Zn K H (.ref a) (.type "dict")
 | ins {a C dx:Addr} {fs:List (Str × V)} (e:H a = some (.ins C dx fs)) (cl:Cls K C) (ha:PySem.W.findIn K (.ref C) "__class__" = some (some (.builtin "object.__class__")))
   (hn:PySem.W.specialIn K (.builtin "object.__class__") "__get__" = some (some (.builtin "getset_descriptor.__get__"))) (htk:PySem.W.takesIn K (.builtin "object.__class__") = some true)
   (hm:PySem.W.mroIn K C (.type "object") = some true):Zn K H (.ref a) (.ref C)
theorem Xr {x:V} {u t:Value} (I:Inv X pins σ H s) (rx:RelV x u) (ty:Zn X.K H x t) (e:PySem.W.kitOne X.K t c = some b) (h:∀ tk,Q (.bool b) { s with toks:=tk }) :
  wpAny (model X.prog X.w) A (call (.builtin "isinstance") [u,c]) Q E s:=by
 cases ty with
 | non=>cases (show u = Value.none from rx); exact PySem.W.kia_one PySem.W.kitx_none I.kIn True.intro e (fun z=>nomatch z) h
 | bl y=>cases (show u = Value.bool y from rx); exact PySem.W.kia_one PySem.W.kitx_bool I.kIn True.intro e (fun z=>nomatch z) h
 | int i=>obtain ⟨t,q⟩:=(show ∃ t,u = Value.int i t from rx); cases q; exact PySem.W.kia_one PySem.W.kitx_int I.kIn True.intro e (fun z=>nomatch z) h
 | str y=>obtain ⟨t,q⟩:=(show ∃ t,u = Value.str y t from rx); cases q; exact PySem.W.kia_one PySem.W.kitx_str I.kIn True.intro e (fun z=>nomatch z) h
 | flt y=>obtain ⟨t,q⟩:=(show ∃ t,u = Value.float y t from rx); cases q; exact PySem.W.kia_one PySem.W.kitx_float I.kIn True.intro e (fun z=>nomatch z) h
 | @lst a xs ea =>
  cases (show u = Value.ref a from rx)
  obtain ⟨_,_,n,_,h1⟩:=(show ObjOk X.prog X.w H s.heap a (.lst xs) from I.hok a _ ea)
  exact PySem.W.kia_one PySem.W.kitx_list I.kIn ⟨_,h1,rfl⟩ e (fun z=>nomatch z) h
 | @frz a ob xs ea =>
  cases (show u = Value.ref a from rx)
  obtain ⟨_,_,_,n,_,h1⟩:=(show ObjOk X.prog X.w H s.heap a (.frz ob (.lst xs)) from I.hok a _ ea)
  exact PySem.W.kia_one PySem.W.kitx_list I.kIn ⟨_,h1,rfl⟩ e (fun z=>nomatch z) h
 | @tup a xs ea =>
  cases (show u = Value.ref a from rx)
  obtain ⟨_,_,_,p⟩:=(show ObjOk X.prog X.w H s.heap a (.tup xs) from I.hok a _ ea)
  obtain ⟨o,h1,h2,_⟩:=p
  exact PySem.W.kia_one PySem.W.kitx_tuple I.kIn ⟨o,h1,h2⟩ e (fun z=>nomatch z) h
 | @dK a kvs ea =>
  cases (show u = Value.ref a from rx)
  obtain ⟨_,_,vs,_,p⟩:=(show ObjOk X.prog X.w H s.heap a (.dK kvs) from I.hok a _ ea)
  obtain ⟨o,es,ep,h1,h2,_⟩:=p
  exact PySem.W.kia_one PySem.W.kitx_dict I.kIn ⟨o,h1,h2.1⟩ e (fun z=>nomatch z) h
 | @dT a kvs ea =>
  cases (show u = Value.ref a from rx)
  obtain ⟨_,_,xs,_,o,es,ep,h1,h2,_⟩:=(show ObjOk X.prog X.w H s.heap a (.dT kvs) from I.hok a _ ea)
  exact PySem.W.kia_one PySem.W.kitx_dict I.kIn ⟨o,h1,h2.1⟩ e (fun z=>nomatch z) h
 | @ins a C dx fs ea cl ha hn htk hm =>
  cases (show u = Value.ref a from rx)
  obtain ⟨mA,O,_⟩:=jm I.hok ea
  obtain ⟨od,J,_⟩:=O.look
  exact PySem.W.kia_one (PySem.W.kitx_own (cl.get _) cl.hd ha hn htk hm) I.kIn J e (fun z=>nomatch z) h
end
end L2
namespace L2
open PySem PySem.Spec PyProof.Rows
structure Room (k:Nat) (A:Around):Prop where
 hd:A.handled = none
 dp:A.depth + 3 * k + 5 < recursionLimit
 un:A.units + 16 * k + 200 < cLine
theorem Room.mono {j k:Nat} {A:Around} (r:Room k A) (h:j <= k):Room j A:=⟨r.hd,by have:=r.dp; omega,by have:=r.un; omega⟩
theorem Room.deeper {k:Nat} {A:Around} (r:Room (k + 1) A) (env:Env):Room k (A.deeper env) :=
 ⟨r.hd,by have:=r.dp; show A.depth + 1 + 3 * k + 5 < _; omega,by have:=r.un; show A.units + 3 + 16 * k + 200 < _; omega⟩
theorem Room.in1 {k:Nat} {A:Around} (r:Room (k + 1) A):Room k A.in1 :=
 ⟨r.hd,by have:=r.dp; show A.depth + 3 * k + 5 < _; omega,by have:=r.un; show A.units + 1 + 16 * k + 200 < _; omega⟩
theorem Z4 {A:Around} {C:Addr} {us:List Value} {kw:List (Str × Value)}:(A.under (.builtin "type.__call__" ⟨.ref C :: us,kw⟩)).depth = A.depth + 1:=by
 first | rfl | simp [Around.under,Code.weight,Code.isCreation,Code.isGuard,Code.isCaller,Code.frames,Code.isFrame,guardIds]
theorem Ye {A:Around} {C:Addr} {us:List Value} {kw:List (Str × Value)}:(A.under (.builtin "type.__call__" ⟨.ref C :: us,kw⟩)).units = A.units + 1:=by
 first | rfl | simp [Around.under,Code.cUnits,Code.frames,Code.isFrame]
theorem Room.make {k:Nat} {A:Around} (r:Room (k + 1) A) (C:Addr) (us:List Value) (kw:List (Str × Value)):Room k (A.under (.builtin "type.__call__" ⟨.ref C :: us,kw⟩)) :=
 ⟨r.hd,by have:=r.dp; rw [Z4]; omega,by have:=r.un; rw [Ye]; omega⟩
theorem Room.depth {k:Nat} {A:Around} (r:Room k A):A.depth < recursionLimit:=by have:=r.dp; omega
theorem Room.units {k:Nat} {A:Around} (r:Room k A):A.units + 64 < cLine:=by have:=r.un; omega
def qf:TA:=fun _ H Q=>Q [] H
def yL (ta:TE) (tr:TA):TA:=fun σ H Q=>ta σ H fun x H1=>tr σ H1 fun xs H2=>Q (x :: xs) H2
section
variable {X:Cx} {e:Expr} {es:List Expr} {te:TE} {t:TA} {pos:Pos}
theorem zc:PA X [] qf:=fun _ _ _ _ H Q I h=>Calls.spliced_nil ⟨[],H,I,.nil,h⟩
theorem za (ha:PE X e te) (hr:PA X es t) (hs:starEach (e :: es) X.env = (false,eval e X.env) :: starEach es X.env:=by rfl):PA X (e :: es) (yL te t):=by
 intro pos pins s σ H Q I h
 rw [hs]
 show wpAny _ _ (spliced ((false,eval e X.env) :: backTo pos (starEach es X.env))) _ _ s
 refine Calls.spliced_cons (thn (ha pins s σ H _ I h) fun u s1 ⟨x,H1,I1,r1,q1⟩=>?_)
 exact thn (hr pos pins s1 σ H1 _ I1 q1) fun us s2 ⟨xs,H2,I2,r2,q2⟩=>⟨x :: xs,H2,I2,.cons r1 r2,q2⟩
def Ju (t:TA):TE:=fun σ H Q=>t σ H fun xs H1=>xs.length <= sizeLine /\ ∀ p,H1 p = none -> Q (.ref p) (upd H1 p (.tup xs))
def JQ (t:TA):TE:=fun σ H Q=>t σ H fun xs H1=>xs.length <= sizeLine /\ ∀ p,H1 p = none -> Q (.ref p) (upd H1 p (.lst xs))
theorem yr {x1} (h:PA X es t):PE X (.Tuple es x1 pos) (Ju t):=by
 intro pins s σ H Q I hq
 refine wpAny_Tuple_spliced (thn (h pos pins s σ H _ I hq) fun us s1 ⟨xs,H1,I1,r,z,q⟩=>⟨by rw [<- r.length]; exact z,?_⟩)
 have hf:H1 s1.heap.objs.size = none:=I1.hok.fresh (Nat.le_refl _)
 refine ⟨.ref s1.heap.objs.size,upd H1 s1.heap.objs.size (.tup xs),I1.laid (t':=s1.toks) (fun b u e=>Heap.get?_push_of_some _ e) (Nat.le_refl _) ?_,rfl,q _ hf⟩
 exact ⟨z,us,r,⟨_,Heap.get?_push_size _ rfl,rfl,_,rfl⟩⟩
theorem wk (h:PA X es t):PE X (.List es pos) (JQ t):=by
 intro pins s σ H Q I hq
 refine wpAny_List_spliced (thn (h pos pins s σ H _ I hq) fun us s1 ⟨xs,H1,I1,r,z,q⟩=>⟨by rw [<- r.length]; exact z,?_⟩)
 have hf:H1 s1.heap.objs.size = none:=I1.hok.fresh (Nat.le_refl _)
 refine ⟨.ref s1.heap.objs.size,upd H1 s1.heap.objs.size (.lst xs),I1.laid (t':=s1.toks) (fun b u e=>Heap.get?_push_of_some _ e) (Nat.le_refl _) ?_,rfl,q _ hf⟩
 exact ⟨z,us,0,r,Heap.get?_push_size _ rfl⟩
end
abbrev Sp:=List V -> Hp -> VK -> XK -> Prop
abbrev CXT:=List Env -> Hp -> Shared -> XK -> Value -> Shared -> Prop
structure Env0 (P:Program) (w:World) (K:PySem.W.Frag) (mg:Str -> Option Value) (base:Heap) (A:Around) (outer:List Env) (s:Shared) (H:Hp):Prop where
 frames:A.frames = some outer
 mod:Mod K mg base
 bs:∀ b o,base.get? b = some o -> s.heap.get? b = some o /\ H b = none
 bsz:base.objs.size <= s.heap.objs.size
 funs:s.heap.FunFrames base outer
 frf:∀ b ∈ frs outer,H b = none
 hok:HOk P w H s.heap
 bare:AllBare s.gens
def CE (outer:List Env) (P:Program) (w:World) (H:Hp) (s:Shared) (Q:VK) (u:Value) (s':Shared):Prop :=
 ∃ v H',s'.os = s.os /\ AllBare s'.gens /\ Un (frs outer) [] H H' s.heap s'.heap /\ HOk P w H' s'.heap /\ RelV v u /\ Q v H'
def CR (CX:CXT) (outer:List Env) (P:Program) (w:World) (H:Hp) (s:Shared) (Q:VK) (E:XK) (r:Result) (s':Shared):Prop :=
 match r with
 | .ok (.ret u)=>CE outer P w H s Q u s'
 | .ok _=>False
 | .error e=>CX outer H s E e s'
structure yo (P:Program) (w:World) (K:PySem.W.Frag) (mg:Str -> Option Value) (base:Heap) (CX:CXT) (k:Nat) (f:Addr) (fd:FuncData) (ps:List Str) (sp:Sp):Prop where
 len:∀ vs H Q E,sp vs H Q E -> vs.length = ps.length
 run:∀ (A:Around) (outer:List Env) (s:Shared) (H:Hp) (args:Args) (us:List Value) (vs:List V) (Q:VK) (E:XK),Room k A -> Env0 P w K mg base A outer s H -> BindsTo s fd args (ps.zip us) -> Vals vs us -> sp vs H Q E ->
  codeAny (model P w) A (.call (.ref f) args) (CR CX outer P w H s Q E) s
theorem Env0.make {P:Program} {w:World} {K:PySem.W.Frag} {mg:Str -> Option Value} {base:Heap} {A:Around} {outer:List Env} {s:Shared} {H:Hp} (e:Env0 P w K mg base A outer s H) (C:Addr) (us:List Value) (kw:List (Str × Value)) :
  Env0 P w K mg base (A.under (.builtin "type.__call__" ⟨.ref C :: us,kw⟩)) outer s H:=⟨by first | exact e.frames | (simpa [Around.under,Code.envs,Code.isFrame,pushEnvs] using e.frames),e.mod,e.bs,e.bsz,e.funs,e.frf,e.hok,e.bare⟩
theorem Env0.in1 {P:Program} {w:World} {K:PySem.W.Frag} {mg:Str -> Option Value} {base:Heap} {A:Around} {outer:List Env} {s:Shared} {H:Hp} (e:Env0 P w K mg base A outer s H) :
  Env0 P w K mg base A.in1 outer s H:=⟨e.frames,e.mod,e.bs,e.bsz,e.funs,e.frf,e.hok,e.bare⟩
section
variable {X:Cx} {pins:List (Addr × Obj)} {σ:St} {H:Hp} {s s':Shared}
theorem Inv.env0 (I:Inv X pins σ H s):Env0 X.prog X.w X.K X.mg X.base X.A X.stack s H :=
 ⟨I.ok.frames,I.ok.mod,I.bs,Nat.le_trans I.ok.bsz I.sz,I.stack,I.stkFree,I.hok,I.bare⟩
theorem Inv.after {Q:VK} {u:Value} (I:Inv X pins σ H s) (h:CE X.stack X.prog X.w H s Q u s'):EP X pins σ Q u s':=by
 obtain ⟨v,H',os,bare,un,hok,r,q⟩:=h
 obtain ⟨hh,g,d,t,os'⟩:=s'
 obtain rfl:os' = s.os:=os
 exact ⟨v,H',I.call (h':=hh) (g':=g) (d':=d) (t':=t) (ch:=[]) un hok bare (fun b z=>absurd z (by simp)),r,q⟩
end
def Ya (sp:Sp) (dvs:List V) (E:XK) (t:TA):TE:=fun σ H Q=>t σ H fun vs H1=>sp (vs ++ dvs) H1 Q E
def jU (C:Addr) (m:Str) (sp:Sp) (dvs:List V) (E:XK) (ta:TE) (t:TA):TE:=fun σ H Q=>ta σ H fun x H1=>∃ a dx fs,x = .ref a /\ H1 a = some (.ins C dx fs) /\ fs.lookup m = none /\
 t σ H1 fun vs H2=>sp (x :: (vs ++ dvs)) H2 Q E
def WK (C:Addr) (sp:Sp) (dvs:List V) (E:XK) (t:TA):TE:=fun σ H Q=>t σ H fun vs H1=>∀ x dx,H1 x = none -> H1 dx = none -> dx ≠ x ->
 sp (.ref x :: (vs ++ dvs)) (upd (upd H1 dx (.own x)) x (.ins C dx [])) (fun v H2=>v = .non /\ Q (.ref x) H2) E
def Binds (K:PySem.W.Frag) (fd:FuncData) (ps:List Str) (ds:List Value):Prop :=
 ∀ (s:Shared) (us:List Value),K.In s.heap -> (us ++ ds).length = ps.length -> BindsTo s fd ⟨us,[]⟩ (ps.zip (us ++ ds))
theorem Binds.all {K:PySem.W.Frag} {fd:FuncData} {ps:List Str} (h:∀ us:List Value,us.length = ps.length -> bindArgs fd ⟨us,[]⟩ = pure (ps.zip us)):Binds K fd ps []:=fun s us _ hl=>by
 rw [List.append_nil] at hl ⊢
 exact .of_eq (h us hl)
def vI (CX:CXT) (X:Cx) (E:XK):Prop:=∀ (pins:List (Addr × Obj)) (σ:St) (H:Hp) (s:Shared) (e:Value) (s':Shared),Inv X pins σ H s -> CX X.stack H s E e s' -> X.xe e s'
section
variable {X:Cx} {CX:CXT} {k:Nat} {f C:Addr} {fd:FuncData} {ps:List Str} {sp:Sp} {dvs:List V} {ds:List Value} {E:XK} {x m:Str} {p pos apos:Pos} {e o:Expr} {es:List Expr} {ta:TE} {t:TA}
theorem qb {pins:List (Addr × Obj)} {σ:St} {H:Hp} {s:Shared} {Q:VK} {us:List Value} {vs:List V} (F:yo X.prog X.w X.K X.mg X.base CX k f fd ps sp) (hr:Room k X.A) (hb:Binds X.K fd ps ds) (hd:Vals dvs ds) (hx:vI CX X E)
  (I:Inv X pins σ H s) (r:Vals vs us) (h:sp (vs ++ dvs) H Q E):wpAny (model X.prog X.w) X.A (call (.ref f) us) (EP X pins σ Q) X.xe s:=by
 have r2:Vals (vs ++ dvs) (us ++ ds):=r.append hd
 have hl:(us ++ ds).length = ps.length:=by rw [<- r2.length]; exact F.len _ _ _ _ h
 refine wpAny_call (codeAny_mono (F.run X.A X.stack s H ⟨us,[]⟩ (us ++ ds) (vs ++ dvs) Q E hr I.env0 (hb s us I.kIn hl) r2 h) fun r s' hq=>?_)
 cases r with
 | error e=>exact hx pins σ H s e s' I hq
 | ok fl =>
  cases fl with
  | ret u=>exact I.after hq
  | next=>exact False.elim hq
  | brk=>exact False.elim hq
  | cont=>exact False.elim hq
theorem Yv (F:yo X.prog X.w X.K X.mg X.base CX k f fd ps sp) (hr:Room k X.A) (hg:Gl X x) (hm:X.mg x = some (.ref f)) (hk:PySem.W.keepIn X.K (.ref f) = true) (hb:Binds X.K fd ps ds) (hd:Vals dvs ds) (hx:vI CX X E)
  (ha:PA X (e :: es) t) (hdb:(x == ("__debug__" : Str)) = false:=by decide) (he:starEach (e :: es) X.env = (false,eval e X.env) :: starEach es X.env:=by rfl) (hpl:(backTo pos (starEach es X.env)).any (·.1) = false:=by rfl) :
  PE X (.Call (.Name x p) (e :: es) [] pos) (Ya sp dvs E t):=by
 intro pins s σ H Q I h
 refine wpAny_Call_Name_kw (wf I hg hm ?_ hdb)
 refine PySem.W.callWith_K (h₀:=X.base) I.ok.mod.kin hk (thn (ha pos pins s σ H _ I h) fun us s1 ⟨vs,H1,I1,r,q⟩=>⟨I1.kIn,?_⟩) he hpl
 exact qb F hr hb hd hx I1 r q
theorem VZ {pl:Sem Bool} (he:PE X o ta) (c:Cls X.K C) (hm:UJ X.K C m f) (F:yo X.prog X.w X.K X.mg X.base CX k f fd ps sp) (hr:Room k X.A) (hb:Binds X.K fd ps ds) (hd:Vals dvs ds) (hx:vI CX X E) (ha:PA X (e :: es) t)
    (hst:starEach (e :: es) X.env = (false,eval e X.env) :: starEach es X.env:=by rfl) (hpl:(backTo pos (starEach es X.env)).any (·.1) = false:=by rfl)
    (ht:eval (.Call (.Attribute o m apos) (e :: es) [] pos) X.env = (do
      let ov <- eval o X.env
      standAt apos.atName
      let (f,first) <- holding [ov] (getMethod ov m pl)
      callWith pos f first (backTo pos (starEach (e :: es) X.env)) (backToKw pos (keywordEach [] X.env))):=by rfl) :
    PE X (.Call (.Attribute o m apos) (e :: es) [] pos) (jU C m sp dvs E ta t):=by
  intro pins s σ H Q I h
  refine PySem.W.methodCall_KW (pl:=pl) (thn (he pins s σ H _ I h) fun u s1 ⟨x,H1,I1,rx,a,dx,fs,ex,ea,l,q⟩=>?_) ht
  subst ex
  obtain rfl:u = Value.ref a:=rx
  refine xL I1 ea c hm l ?_
  refine PySem.W.callWith_K (first:=[.ref a]) (h₀:=X.base) I.ok.mod.kin hm.kp (thn (ha pos pins s1 σ H1 _ I1 q) fun us s2 ⟨vs,H2,I2,r,q2⟩=>⟨I2.kIn,?_⟩) hst hpl
  exact qb (us:=.ref a :: us) (vs:=.ref a :: vs) F hr hb hd hx I2 (.cons rfl r) q2
theorem WQ {pl:Sem Bool} (he:PE X o ta) (c:Cls X.K C) (hm:UJ X.K C m f) (F:yo X.prog X.w X.K X.mg X.base CX k f fd ps sp) (hr:Room k X.A) (hb:Binds X.K fd ps ds) (hd:Vals dvs ds) (hx:vI CX X E)
    (ht:eval (.Call (.Attribute o m apos) [] [] pos) X.env = (do
      let ov <- eval o X.env
      standAt apos.atName
      let (f,first) <- holding [ov] (getMethod ov m pl)
      callWith pos f first (backTo pos (starEach [] X.env)) (backToKw pos (keywordEach [] X.env))):=by rfl) :
    PE X (.Call (.Attribute o m apos) [] [] pos) (jU C m sp dvs E ta qf):=by
  intro pins s σ H Q I h
  refine PySem.W.methodCall_KW (pl:=pl) (thn (he pins s σ H _ I h) fun u s1 ⟨x,H1,I1,rx,a,dx,fs,ex,ea,l,q⟩=>?_) ht
  subst ex
  obtain rfl:u = Value.ref a:=rx
  refine xL I1 ea c hm l ?_
  exact PySem.W.callWith_K0 (first:=[.ref a]) I1.kIn hm.kp (qb (us:=[.ref a]) (vs:=[.ref a]) F hr hb hd hx I1 (.cons rfl .nil) q)
structure Mk (K:PySem.W.Frag) (C f:Addr):Prop where
 makes:PySem.W.makesIn K C = true
 init:PySem.W.findIn K (.ref C) "__init__" = some (some (.ref f))
 fn:PySem.W.isFn K (.ref f) = true
 kp:PySem.W.keepIn K (.ref C) = true
theorem Wv {pins:List (Addr × Obj)} {σ:St} {H:Hp} {s:Shared} {Q:VK} {us:List Value} {vs:List V} (M:Mk X.K C f) (F:yo X.prog X.w X.K X.mg X.base CX k f fd ps sp) (hr:Room (k + 1) X.A) (hb:Binds X.K fd ps ds) (hd:Vals dvs ds)
  (hx:vI CX X E) (I:Inv X pins σ H s) (r:Vals vs us)
  (h:∀ x dx,H x = none -> H dx = none -> dx ≠ x -> sp (.ref x :: (vs ++ dvs)) (upd (upd H dx (.own x)) x (.ins C dx [])) (fun v H2=>v = .non /\ Q (.ref x) H2) E) :
  wpAny (model X.prog X.w) X.A (call (.ref C) us) (EP X pins σ Q) X.xe s:=by
 have hq:=h (s.heap.objs.size + 1) s.heap.objs.size (I.hok.fresh (Nat.le_succ _)) (I.hok.fresh (Nat.le_refl _)) (Nat.ne_of_lt (Nat.lt_succ_self _))
 have I2:=Inv.made (C:=C) I
 have r2:Vals (V.ref (s.heap.objs.size + 1) :: (vs ++ dvs)) (Value.ref (s.heap.objs.size + 1) :: (us ++ ds)):=.cons rfl (r.append hd)
 have hl:(Value.ref (s.heap.objs.size + 1) :: us ++ ds).length = ps.length:=by
  have e:=r2.length
  rw [F.len _ _ _ _ hq] at e
  exact e.symm
 refine wpAny_call (Ww (f:=f) I.kIn M.makes M.init (beq_iff_eq.mp M.fn) (codeAny_mono (F.run _ X.stack _ _ ⟨Value.ref (s.heap.objs.size + 1) :: us,[]⟩ (Value.ref (s.heap.objs.size + 1) :: (us ++ ds)) _ _ E (hr.make C us [])
  (I2.env0.make C us []) (hb _ (Value.ref (s.heap.objs.size + 1) :: us) I2.kIn hl) r2 hq) fun r s' hq'=>?_))
 cases r with
 | error e=>exact hx pins σ _ _ e s' I2 hq'
 | ok fl =>
  cases fl with
  | ret u =>
   obtain ⟨v,H',I3,rv,ev,q3⟩:=I2.after hq'
   subst ev
   exact ⟨rv,⟨V.ref (s.heap.objs.size + 1),H',I3,rfl,q3⟩⟩
  | next=>exact False.elim hq'
  | brk=>exact False.elim hq'
  | cont=>exact False.elim hq'
theorem Xi (M:Mk X.K C f) (F:yo X.prog X.w X.K X.mg X.base CX k f fd ps sp) (hr:Room (k + 1) X.A) (hg:Gl X x) (hm:X.mg x = some (.ref C)) (hb:Binds X.K fd ps ds) (hd:Vals dvs ds) (hx:vI CX X E)
  (ha:PA X (e :: es) t) (hdb:(x == ("__debug__" : Str)) = false:=by decide) (he:starEach (e :: es) X.env = (false,eval e X.env) :: starEach es X.env:=by rfl) (hpl:(backTo pos (starEach es X.env)).any (·.1) = false:=by rfl) :
  PE X (.Call (.Name x p) (e :: es) [] pos) (WK C sp dvs E t):=by
 intro pins s σ H Q I h
 refine wpAny_Call_Name_kw (wf I hg hm ?_ hdb)
 refine PySem.W.callWith_K (h₀:=X.base) I.ok.mod.kin M.kp (thn (ha pos pins s σ H _ I h) fun us s1 ⟨vs,H1,I1,r,q⟩=>⟨I1.kIn,?_⟩) he hpl
 exact Wv M F hr hb hd hx I1 r q
end
def PK (X:Cx) (kws:List Keyword) (t:TA):Prop :=
 ∀ (pos:Pos) (pins:List (Addr × Obj)) (s:Shared) (σ:St) (H:Hp) (Q:List V -> Hp -> Prop),Inv X pins σ H s -> t σ H Q -> wpAny (model X.prog X.w) X.A (evalAll ((backToKw pos (keywordEach kws X.env)).map (·.2))) (AP X pins σ Q) X.xe s
section
variable {X:Cx} {CX:CXT} {k:Nat} {f C:Addr} {fd:FuncData} {ps ks:List Str} {sp:Sp} {E:XK} {x m:Str} {p pos apos kpos:Pos} {e o:Expr} {es:List Expr} {kws:List Keyword} {te ta:TE} {t tk:TA} {nm:Option Str}
theorem Vm:PK X [] qf:=fun _ _ _ _ H Q I h=>wpAny_evalAll_nil ⟨[],H,I,.nil,h⟩
theorem Xy (ha:PE X e te) (hr:PK X kws t):PK X (⟨nm,e,kpos⟩ :: kws) (yL te t):=by
 intro pos pins s σ H Q I h
 show wpAny _ _ (evalAll ((do let v <- eval e X.env; standAt pos; pure v) :: (backToKw pos (keywordEach kws X.env)).map (·.2))) _ _ s
 refine wpAny_evalAll_cons (wpAny_bind (thn (ha pins s σ H _ I h) fun u s1 ⟨x,H1,I1,r1,q1⟩=>wpAny_bind (wpAny_standAt (wpAny_pure ?_))))
 exact thn (hr pos pins s1 σ H1 _ I1 q1) fun us s2 ⟨xs,H2,I2,r2,q2⟩=>⟨x :: xs,H2,I2,.cons r1 r2,q2⟩
variable {g:List Value -> List Value -> List Value} {gV:List V -> List V -> List V}
end
structure zq (N P:List Str) (sc:Scope):Prop where
 kind:sc.kind = .function
 co:sc.isCoroutine = false
 gen:sc.isGenerator = false
 nd:N.Nodup
 pre:N.take P.length = P
 par:∀ x ∈ P,sc.names.lookup x = some .local \/ sc.names.lookup x = some .cell
 nofree:∀ y ∈ sc.names,y.2 ≠ .free
theorem jT {kindOf:Str -> Option NameKind} {x:Str}:∀ {binds:List (Str × Value)} {m:Str -> Option Value},(∀ v,(x,v) ∉ binds) -> bindL kindOf binds m x = m x
  | [],_,_=>rfl
  | (n,v) :: r,m,h=>by
    unfold bindL
    rw [jT fun w hw=>h w (List.mem_cons_of_mem _ hw)]
    split
    · have:x ≠ n:=by rintro rfl; exact h v List.mem_cons_self
      simp [this]
    · rfl
theorem jP {kindOf:Str -> Option NameKind} {x:Str}:∀ {binds:List (Str × Value)} {m:Str -> Option Value},(∀ v,(x,v) ∉ binds) -> bindC kindOf binds m x = m x
  | [],_,_=>rfl
  | (n,v) :: r,m,h=>by
    unfold bindC
    rw [jP fun w hw=>h w (List.mem_cons_of_mem _ hw)]
    split
    · rfl
    · have:x ≠ n:=by rintro rfl; exact h v List.mem_cons_self
      simp [this]
theorem jQ {kindOf:Str -> Option NameKind} {x:Str} {v:Value}:∀ {P:List Str} {vs:List Value} {i:Nat} {m:Str -> Option Value},P.Nodup -> P[i]? = some x -> vs[i]? = some v -> kindOf x = some .local ->
  bindL kindOf (P.zip vs) m x = some v
 | [],_,_,_,_,h,_,_=>by simp at h
 | _ :: _,[],_,_,_,_,h,_=>by simp at h
 | p :: P,w :: vs,0,m,nd,h1,h2,hk=>by
  simp at h1 h2; subst h1; subst h2
  show bindL kindOf ((p,w) :: P.zip vs) m p = _
  unfold bindL
  rw [jT fun v hv=>(List.nodup_cons.mp nd).1 (List.of_mem_zip hv).1,if_pos hk]
  simp
 | p :: P,w :: vs,i + 1,m,nd,h1,h2,hk=>by
  show bindL kindOf ((p,w) :: P.zip vs) m x = _
  unfold bindL
  exact jQ (i:=i) (List.nodup_cons.mp nd).2 (by simpa using h1) (by simpa using h2) hk
theorem jJ {kindOf:Str -> Option NameKind} {x:Str} {v:Value}:∀ {P:List Str} {vs:List Value} {i:Nat} {m:Str -> Option Value},P.Nodup -> P[i]? = some x -> vs[i]? = some v -> kindOf x ≠ some .local ->
  bindC kindOf (P.zip vs) m x = some v
 | [],_,_,_,_,h,_,_=>by simp at h
 | _ :: _,[],_,_,_,_,h,_=>by simp at h
 | p :: P,w :: vs,0,m,nd,h1,h2,hk=>by
  simp at h1 h2; subst h1; subst h2
  show bindC kindOf ((p,w) :: P.zip vs) m p = _
  unfold bindC
  rw [jP fun v hv=>(List.nodup_cons.mp nd).1 (List.of_mem_zip hv).1,if_neg hk]
  simp
 | p :: P,w :: vs,i + 1,m,nd,h1,h2,hk=>by
  show bindC kindOf ((p,w) :: P.zip vs) m x = _
  unfold bindC
  exact jJ (i:=i) (List.nodup_cons.mp nd).2 (by simpa using h1) (by simpa using h2) hk
def start (N:List Str) (vs:List V):St:=vs.map some ++ List.replicate (N.length - vs.length) none
def ui (CX:CXT) (P:Program) (w:World) (K:PySem.W.Frag) (mg:Str -> Option Value) (base:Heap) (N:List Str) (qual:Str) (scope:Scope) (f:Addr) (cd:Value) (A:Around) (outer:List Env) (s:Shared) (H:Hp) (E:XK):Cx where
 prog:=P
 w:=w
 K:=K
 mg:=mg
 base:=base
 A:=A.deeper (envOfC qual scope s.heap.objs.size f cd)
 N:=N
 s₀:=s
 H₀:=H
 env:=envOfC qual scope s.heap.objs.size f cd
 outer:=outer
 stack:=envOfC qual scope s.heap.objs.size f cd :: outer
 ex:=[]
 calm:=true
 fn:=fun _=>true
 pn:=[]
 xe:=fun e s'=>wpAny (model P w) (A.deeper (envOfC qual scope s.heap.objs.size f cd)) (leaving (envOfC qual scope s.heap.objs.size f cd) e) (fun _ s''=>CX outer H s E e s'') (fun e' s''=>CX outer H s E e' s'') s'
theorem Zj {sc:Scope} {n:Nat} {x:Str} (h:sc.names.lookup x = some .cell):∃ c,(cellsFrom n sc.names []).lookup x = some c:=by
 have q:=PySem.W.cellsFrom_some sc.names n [] (.inl h)
 exact Option.isSome_iff_exists.mp q
theorem XU {CX:CXT} {P:Program} {w:World} {K:PySem.W.Frag} {mg:Str -> Option Value} {base:Heap} {N ps:List Str} {qual:Str} {scope:Scope} {f:Addr} {cd:Value} {A:Around} {outer:List Env} {s s1:Shared} {H:Hp} {E:XK} {us:List Value} {vs:List V}
  (S:zq N ps scope) (hd:A.handled = none) (e0:Env0 P w K mg base A outer s H) (hl:vs.length = ps.length) (r:Vals vs us)
  (x:InCallC s s.heap.objs.size (bindL (envOfC qual scope s.heap.objs.size f cd).kindOf (ps.zip us) fun _=>none) (cellsFrom (s.heap.objs.size + 1) scope.names []) (bindC (envOfC qual scope s.heap.objs.size f cd).kindOf (ps.zip us) fun _=>none) s1) :
  Inv (ui CX P w K mg base N qual scope f cd A outer s H E) [] (start N vs) H s1:=by
 have hpl:ps.length <= N.length:=by have:=congrArg List.length S.pre; rw [List.length_take] at this; omega
 obtain ⟨h1,tk,rfl,hk⟩:=x.done
 have noA:∀ b:Addr,b ∉ (ui CX P w K mg base N qual scope f cd A outer s H E).ex:=fun b z=>absurd (show b ∈ ([]:List Addr) from z) (by simp)
 refine ⟨⟨e0.mod,S.kind,rfl,rfl,Nat.le_refl _,fun y z c h1 h2=>?_,fun y hy=>?_,fun y c _ h=>?_,fun _=>hd,Around.frames_deeper e0.frames,.inr ⟨rfl,rfl⟩,fun b z=>absurd z (noA b),e0.bs,e0.bsz,fun b _ _=>noA b,fun b z=>absurd z (noA b),e0.funs,e0.frf⟩,
  rfl,e0.bare,Un.kept hk,⟨_,x.toInCall.ns,fun i y v h1 h2 h3=>?_⟩,fun y c h=>⟨_,x.cell y c h⟩,e0.hok.fresh (Nat.le_refl _),fun y c h=>?_,fun p hp=>absurd (show p ∈ ([]:List (Addr × Obj)) from hp) (by simp),e0.hok.kept hk,?_⟩
 ·exact name_of_addr x.apart (PySem.mem_of_lookup h1) (PySem.mem_of_lookup h2)
 ·have hy:scope.names.lookup y = some .cell \/ scope.names.lookup y = some .free:=hy
  rcases hy with hy | hy
  ·exact Zj hy
  ·exact absurd rfl (S.nofree _ (PySem.mem_of_lookup hy))
 ·exact Nat.le_of_lt (x.above y c (PySem.mem_of_lookup h))
 ·have hi:i < vs.length:=by
   unfold start at h2
   by_cases hi:i < vs.length
   ·exact hi
   ·rw [List.getElem?_append_right (by simpa using hi)] at h2
    rw [List.getElem?_replicate] at h2
    split at h2 <;> cases h2
  have ha:vs[i]? = some v:=by
   unfold start at h2
   rw [List.getElem?_append_left (by simpa using hi),List.getElem?_map] at h2
   cases e:vs[i]? with
   | none=>rw [e] at h2; cases h2
   | some a=>rw [e] at h2; cases h2; rfl
  obtain ⟨u,hu,rv⟩:=r.get ha
  have hp:ps[i]? = some y:=by
   rw [<- S.pre,List.getElem?_take_of_lt (by omega)]; exact h1
  have ndP:ps.Nodup:=by rw [<- S.pre]; exact S.nd.sublist (List.take_sublist _ _)
  refine ⟨u,rv,?_⟩
  rcases S.par y (List.mem_of_getElem? hp) with k | k
  ·exact .inl ⟨k,jQ ndP hp hu k⟩
  ·obtain ⟨c,e⟩:=Zj (n:=s.heap.objs.size + 1) k
   refine .inr ⟨.inl k,c,e,?_⟩
   have q:=x.cell y c e
   rw [jJ ndP hp hu (by show scope.names.lookup y ≠ _; rw [k]; decide)] at q
   exact q
 ·exact e0.hok.fresh (Nat.le_of_lt (x.above y c (PySem.mem_of_lookup h)))
 ·unfold start
  show _ = N.length
  rw [List.length_append,List.length_map,List.length_replicate]
  omega
theorem VS {CX:CXT} {P:Program} {w:World} {K:PySem.W.Frag} {mg:Str -> Option Value} {base:Heap} {k:Nat} {f:Addr} {name qual:Str} {params:Arguments} {body:List Stmt} {scope:Scope} {dV kV doc pm cdv ct oc:Value} {an od:Option Addr}
  {osl:Array (Option Value)} {N ps:List Str} {sp:Sp} (lk:K.lookup f = some ⟨oc,od,.func (PySem.W.fnOf name qual params body scope dV kV doc pm an cdv ct),osl⟩) (hcd:PySem.W.codeIn K cdv qual = true) (S:zq N ps scope)
  (len:∀ vs H Q E,sp vs H Q E -> vs.length = ps.length)
  (hbody:∀ (A:Around) (outer:List Env) (s:Shared) (H:Hp) (vs:List V) (Q:VK) (E:XK),Room k (A.deeper (envOfC qual scope s.heap.objs.size f cdv)) -> sp vs H Q E ->
   ∃ t,PSs (ui CX P w K mg base N qual scope f cdv A outer s H E) body t /\ t { nx:=fun _ H'=>Q .non H',rt:=Q } (start N vs) H) :
  yo P w K mg base CX (k + 1) f (PySem.W.fnOf name qual params body scope dV kV doc pm an cdv ct) ps sp:=by
 refine ⟨len,fun A outer s H args us vs Q E hr e0 hb r hsp=>?_⟩
 have hl:=len _ _ _ _ hsp
 have KX:K.In s.heap:=e0.mod.kin.keeps fun b o e=>(e0.bs b o e).1
 have lim:s.heap.NoLimit:=e0.mod.nolimit.keeps fun b o e=>(e0.bs b o e).1
 have hkind:∀ y ∈ ps.zip us,scope.names.lookup y.1 = some .local \/ (scope.names.lookup y.1 = some .cell /\ ((cellsFrom (s.heap.objs.size + 1) scope.names []).lookup y.1).isSome = true):=fun ⟨n,v⟩ hy=>by
  rcases S.par n (List.of_mem_zip hy).1 with q | q
  ·exact .inl q
  ·exact .inr ⟨q,PySem.W.cellsFrom_some _ _ _ (.inl q)⟩
 refine codeAny_call_function hr.depth (KX _ _ lk) rfl S.co S.gen rfl (PySem.W.codeRec_of KX hcd) (hb _ _ _ _ ?_)
 refine wpAny_newFunctionEnv_cells S.kind hkind fun env he s1 x=>?_
 subst he
 refine ⟨lim.keeps x.toInCall.keep,codeAny_func ?_⟩
 obtain ⟨t,ht,hq⟩:=hbody A outer s H vs Q E (hr.deeper _) hsp
 have I:Inv (ui CX P w K mg base N qual scope f cdv A outer s H E) [] (start N vs) H s1:=XU S hr.hd e0 hl r x
 refine wpAny_mono (ht [] s1 (start N vs) H _ I hq) (fun fl s' hs=>?_) fun e s' hs=>hs
 have fin:∀ {σ':St} {H':Hp} {v:V} {u:Value},Inv (ui CX P w K mg base N qual scope f cdv A outer s H E) [] σ' H' s' -> RelV v u -> Q v H' -> CE outer P w H s Q u s' :=
  fun {σ' H' v u} J rv q=>⟨v,H',J.os,J.bare,J.base,J.hok,rv,q⟩
 cases fl with
 | ret u =>
  obtain ⟨v,σ',H',J,rv,q⟩:=hs
  exact fin J rv q
 | next =>
  obtain ⟨σ',H',J,q⟩:=hs
  exact fin (v:=V.non) (u:=Value.none) J rfl q
 | brk =>
  obtain ⟨_,_,_,q⟩:=hs
  exact False.elim q
 | cont =>
  obtain ⟨_,_,_,q⟩:=hs
  exact False.elim q
end L2
namespace L2
open PySem PySem.Spec PyProof.Rows
section
variable {X:Cx} {x:Str} {p pos:Pos} {e:Expr} {es:List Expr} {t:TA} {id T:String} {r:List V -> Hp -> VK -> Prop}
def tCB (r:List V -> Hp -> VK -> Prop) (t:TA):TE:=fun σ H Q=>t σ H fun vs H1=>r vs H1 Q
theorem zp (hc:vR X (.builtin id) r) (hg:Gl X x) (hm:X.mg x = none) (hv:bootBuiltins x = some (.builtin id)) (ha:PA X (e :: es) t) (hn:x ≠ "__name__":=by decide) (hdb:(x == ("__debug__" : Str)) = false:=by decide)
  (he:starEach (e :: es) X.env = (false,eval e X.env) :: starEach es X.env:=by rfl) (hpl:(backTo pos (starEach es X.env)).any (·.1) = false:=by rfl):PE X (.Call (.Name x p) (e :: es) [] pos) (tCB r t):=by
 intro pins s σ H Q I h
 refine wpAny_Call_Name_kw (vK I hg hm hv ?_ hn hdb)
 exact PyProof.Rows.callWith_builtin1 (thn (ha pos pins s σ H _ I h) fun us s1 ⟨vs,H1,I1,r1,q1⟩=>hc pins s1 σ H1 vs us Q I1 r1 q1) he hpl
theorem wj (hc:vR X (.type T) r) (hg:Gl X x) (hm:X.mg x = none) (hv:bootBuiltins x = some (.type T)) (ha:PA X (e :: es) t) (hn:x ≠ "__name__":=by decide) (hdb:(x == ("__debug__" : Str)) = false:=by decide)
  (he:starEach (e :: es) X.env = (false,eval e X.env) :: starEach es X.env:=by rfl) (hpl:(backTo pos (starEach es X.env)).any (·.1) = false:=by rfl):PE X (.Call (.Name x p) (e :: es) [] pos) (tCB r t):=by
 intro pins s σ H Q I h
 refine wpAny_Call_Name_kw (vK I hg hm hv ?_ hn hdb)
 exact PyProof.Rows.callWith_type1 (thn (ha pos pins s σ H _ I h) fun us s1 ⟨vs,H1,I1,r1,q1⟩=>hc pins s1 σ H1 vs us Q I1 r1 q1) he hpl
end
end L2
namespace HT
open PySem PyProof.Rows
section
open PySem.SeqAt
open PySem.AutoSeq1 (wpAny_loadPart')
open PySem.MeetsSeq PySem.MeetsSeq2 PySem.MeetsSeq3
end
section
variable {prog:Program} {w:World} {A:Around} {E:Value -> Shared -> Prop} {s:Shared}
def sIx (n d:Nat):Option Int -> Nat
 | none=>d
 | some v=>if v < 0 then (v + (n:Int)).toNat else min v.toNat n
theorem sIx_none (n d:Nat):sIx n d none = d:=rfl
theorem sIx_nat (n d k:Nat):sIx n d (some (k:Int)) = min k n:=by
 show (if (k:Int) < 0 then ((k:Int) + (n:Int)).toNat else min (k:Int).toNat n) = min k n
 rw [if_neg (by omega),Int.toNat_natCast]
theorem sIx_le (n d:Nat) (hd:d <= n) (o:Option Int):sIx n d o <= n:=by
 cases o with
 | none=>exact hd
 | some v =>
  show (if v < 0 then (v + (n:Int)).toNat else min v.toNat n) <= n
  by_cases hv:v < 0
  ·rw [if_pos hv]; omega
  ·rw [if_neg hv]; exact Nat.min_le_right _ _
end
end HT
namespace L2
open PySem PySem.Spec PyProof.Rows
abbrev TO:=St -> Hp -> (Option Int -> Hp -> Prop) -> Prop
def PO (X:Cx) (e:Option Expr) (t:TO):Prop :=
 ∀ (pins:List (Addr × Obj)) (s:Shared) (σ:St) (H:Hp) (Q:Option Int -> Hp -> Prop),Inv X pins σ H s -> t σ H Q ->
  wpAny (model X.prog X.w) X.A (evalPart e X.env) (fun u s'=>∃ o H',Inv X pins σ H' s' /\ IsPart u o /\ Q o H') X.xe s
def Yj:TO:=fun _ H Q=>Q none H
def UU (t:TE):TO:=fun σ H Q=>t σ H fun x H1=>∃ i,x = .int i /\ Q (some i) H1
section
variable {X:Cx} {e:Expr} {te:TE} {lo hi:Option Expr} {tl th:TO} {pos p2:Pos}
theorem yP:PO X none Yj:=by
 intro pins s σ H Q I h
 rw [evalPart_none]
 exact wpAny_pure ⟨none,H,I,.none,h⟩
theorem zZ (h:PE X e te):PO X (some e) (UU te):=by
 intro pins s σ H Q I hw
 rw [evalPart_some]
 refine thn (h pins s σ H _ I hw) fun u s1 ⟨x,H1,I1,r1,q1⟩=>?_
 obtain ⟨i,rfl,q⟩:=q1
 obtain ⟨t,rfl⟩:=r1
 exact ⟨some i,H1,I1,.int i t,q⟩
def SlR (X:Cx) (r:V -> Option Int -> Option Int -> Hp -> VK -> Prop):Prop :=
 ∀ (pins:List (Addr × Obj)) (s:Shared) (σ:St) (H:Hp) (x:V) (v vl vu:Value) (lo hi:Option Int) (sl:Addr) (Q:VK),Inv X pins σ H s -> RelV x v -> s.heap.IsSliceOf sl vl vu .none -> IsPart vl lo -> IsPart vu hi -> r x lo hi H Q ->
  ∃ T id,typeLookup (.type T) "__getitem__" = pure (some (.builtin id)) /\ s.TypeIs v T /\ wpAny (model X.prog X.w) X.A (getItem v (.ref sl)) (EP X pins σ Q) X.xe s
theorem SlR.or {r r':V -> Option Int -> Option Int -> Hp -> VK -> Prop} (h:SlR X r) (h':SlR X r'):SlR X (fun x lo hi H Q=>r x lo hi H Q \/ r' x lo hi H Q):=by
 intro pins s σ H x v vl vu lo hi sl Q I rx hs pl pu q
 rcases q with q | q
 ·exact h pins s σ H x v vl vu lo hi sl Q I rx hs pl pu q
 ·exact h' pins s σ H x v vl vu lo hi sl Q I rx hs pl pu q
def tSl (r:V -> Option Int -> Option Int -> Hp -> VK -> Prop) (te:TE) (tl th:TO):TE:=fun σ H Q=>te σ H fun x H1=>tl σ H1 fun l H2=>th σ H2 fun u H3=>r x l u H3 Q
theorem zX {r:V -> Option Int -> Option Int -> Hp -> VK -> Prop} (hr:SlR X r) (he:PE X e te) (hl:PO X lo tl) (hu:PO X hi th):PE X (.Subscript e (.Slice lo hi none p2) pos) (tSl r te tl th):=by
 intro pins s σ H Q I h
 refine Subscript_ (thn (he pins s σ H _ I h) fun v s1 ⟨x,H1,I1,r1,q1⟩=>?_)
 refine wpAny_Slice (thn (hl pins s1 σ H1 _ I1 q1) fun vl s2 ⟨l,H2,I2,pl,q2⟩=>thn (hu pins s2 σ H2 _ I2 q2) fun vu s3 ⟨u,H3,I3,pu,q3⟩=>?_)
 rw [evalPart_none]
 refine wpAny_pure ?_
 have I4:Inv X pins σ H3 { s3 with heap:=s3.heap.push { cls:=.type "slice",data:=.fields #[vl,vu,.none] } }:=I3.kept (t':=s3.toks) fun b ob q=>Heap.get?_push_of_some _ q
 obtain ⟨T,id,hT,ht,hg⟩:=hr pins { s3 with heap:=s3.heap.push { cls:=.type "slice",data:=.fields #[vl,vu,.none] } } σ H3 x v vl vu l u s3.heap.objs.size Q I4 r1 (Heap.IsSliceOf.new ..) pl pu q3
 show wpAny (model X.prog X.w) X.A (subscriptTail e (.Slice lo hi none p2) v (.ref s3.heap.objs.size)) (EP X pins σ Q) X.xe { s3 with heap:=s3.heap.push { cls:=.type "slice",data:=.fields #[vl,vu,.none] } }
 exact tail_any (ops:=[.ref s3.heap.objs.size,v]) ht hT hg (by with_unfolding_all rfl)
def UB (xs:List V) (lo hi:Option Int):List V:=(xs.drop (HT.sIx xs.length 0 lo)).take (HT.sIx xs.length xs.length hi - HT.sIx xs.length 0 lo)
theorem kE (xs:List V) (lo hi:Option Int):(UB xs lo hi).length <= xs.length:=by
 unfold UB
 rw [List.length_take,List.length_drop]
 omega
end
end L2
namespace L2
open PySem PySem.Spec PyProof.Rows
def ixN (n:Nat) (i:Int):Option Nat:=if 0 <= i then (if i < n then some i.toNat else none) else if -(n:Int) <= i then some (i + n).toNat else none
def atI {α:Type} (xs:List α) (i:Int):Option α:=(ixN xs.length i).bind fun j=>xs[j]?
theorem Ud {n:Nat} {i:Int} {j:Nat} (h:ixN n i = some j):seqIndex? i n = some j /\ j < n /\ -(n:Int) <= i /\ i < n:=by
 unfold ixN at h
 by_cases h0:0 <= i
 ·rw [if_pos h0] at h
  by_cases h1:i < n
  ·rw [if_pos h1] at h
   have e:i.toNat = j:=Option.some.inj h
   exact ⟨by rw [seqIndex_of h0 h1,e],by omega,by omega,h1⟩
  ·rw [if_neg h1] at h; cases h
 ·rw [if_neg h0] at h
  by_cases h1:-(n:Int) <= i
  ·rw [if_pos h1] at h
   have e:(i + n).toNat = j:=Option.some.inj h
   exact ⟨by rw [seqIndex_neg (by omega) h1,e],by omega,h1,by omega⟩
  ·rw [if_neg h1] at h; cases h
theorem kn {α:Type} {xs:List α} {i:Int} {v:α} (h:atI xs i = some v):∃ j,seqIndex? i xs.length = some j /\ xs[j]? = some v /\ j < xs.length /\ -(xs.length:Int) <= i /\ i < xs.length:=by
 unfold atI at h
 cases e:ixN xs.length i with
 | none=>rw [e] at h; cases h
 | some j =>
  rw [e] at h
  obtain ⟨h1,h2,h3,h4⟩:=Ud e
  exact ⟨j,h1,h,h2,h3,h4⟩
theorem uU {α:Type} {xs:List α} {j:Nat} {v:α} (h:xs[j]? = some v):atI xs (j:Int) = some v:=by
 have hj:j < xs.length:=(List.getElem?_eq_some_iff.mp h).1
 have e:ixN xs.length (j:Int) = some j:=by
  unfold ixN
  rw [if_pos (by omega),if_pos (by omega)]; simp
 unfold atI; rw [e]; exact h
def Uu (b:Expr):Prop:=∀ o i,subscripted b false o i = operate [o,i] (getItem o i)
def IxR (X:Cx) (r:R2):Prop :=
 ∀ (value slice:Expr) (pins:List (Addr × Obj)) (s:Shared) (σ:St) (H:Hp) (x y:V) (v u:Value) (Q:VK),Inv X pins σ H s -> RelV x v -> RelV y u -> r x y H Q ->
  subscripted slice false v u = operate [v,u] (getItem v u) -> wpAny (model X.prog X.w) X.A (subscriptTail value slice v u) (EP X pins σ Q) X.xe s
def MtR (X:Cx) (id:String) (r:V -> List V -> Hp -> VK -> Prop):Prop :=
 ∀ (pins:List (Addr × Obj)) (s:Shared) (σ:St) (H:Hp) (x:V) (xs:List V) (v:Value) (us:List Value) (Q:VK),Inv X pins σ H s -> RelV x v -> Vals xs us -> r x xs H Q ->
  wpAny (model X.prog X.w) X.A (call (.builtin id) (v :: us)) (EP X pins σ Q) X.xe s
section
variable {X:Cx} {a b:Expr} {ta tb:TE} {pos:Pos}
theorem IxR.or {r r':R2} (h:IxR X r) (h':IxR X r'):IxR X (fun x y H Q=>r x y H Q \/ r' x y H Q):=by
 intro value slice pins s σ H x y v u Q I rx ry q hs
 rcases q with q | q
 ·exact h value slice pins s σ H x y v u Q I rx ry q hs
 ·exact h' value slice pins s σ H x y v u Q I rx ry q hs
theorem zC {r:R2} (hr:IxR X r) (ha:PE X a ta) (hb:PE X b tb) (hs:Uu b):PE X (.Subscript a b pos) (tOp r ta tb):=by
 intro pins s σ H Q I h
 exact Subscript_ (Jb ha hb I h fun v u s2 x y H2 I2 rx ry q=>hr a b pins s2 σ H2 x y v u Q I2 rx ry q (hs _ _))
def Jc (K:PySem.W.Frag):R2:=fun x y H Q=>∃ p xs i v,x = .ref p /\ y = .int i /\ SqL K H p xs /\ atI xs i = some v /\ Q v H
def UF (K:PySem.W.Frag):R2:=fun x y H Q=>∃ p xs i v,x = .ref p /\ y = .int i /\ SqT K H p xs /\ atI xs i = some v /\ Q v H
def JF:R2:=fun x y H Q=>∃ z i c,x = .str z /\ y = .int i /\ z.length <= sizeLine /\ atI z.cps.toList i = some c /\ Q (.str ⟨#[c]⟩) H
theorem ix_list:IxR X (Jc X.K):=by
 intro value slice pins s σ H x y v u Q I rx ry h hs
 obtain ⟨p,xs,i,z,rfl,rfl,hq,he,q⟩:=h
 cases rx
 obtain ⟨t,rfl⟩:=ry
 obtain ⟨its,r,pl,hz⟩:=I.list hq
 obtain ⟨j,h1,h2,h3,h4,h5⟩:=kn he
 obtain ⟨w,ew,rw'⟩:=r.get h2
 have hl:=r.length
 have hn:=jV
 have fin:EP X pins σ Q w s:=⟨z,H,I,rw',q⟩
 by_cases h0:0 <= i
 ·have hj:i.toNat = j:=by
   rw [seqIndex_of h0 h5] at h1
   exact Option.some.inj h1
  exact item_listR pl.isList h0 (by omega) (by rw [hj]; simpa using ew) fin hs
 ·have hj:(i + (its.toArray.size:Int)).toNat = j:=by
   rw [seqIndex_neg (by omega) h4] at h1
   rw [List.size_toArray,<- hl]
   exact Option.some.inj h1
  exact subscriptTail_builtinR (x:=w) pl.isList.typeIs slot_list_getitem.lookup
   (wpAny_getItem_list_neg (Q:=fun r s'=>r = w /\ EP X pins σ Q r s') pl.isList (by omega) (by rw [List.size_toArray] <;> omega) (by omega) (by rw [hj]; simpa using ew) ⟨rfl,fin⟩) hs
theorem ix_tup:IxR X (UF X.K):=by
 intro value slice pins s σ H x y v u Q I rx ry h hs
 obtain ⟨p,xs,i,z,rfl,rfl,hq,he,q⟩:=h
 cases rx
 obtain ⟨t,rfl⟩:=ry
 obtain ⟨its,r,pl,hz⟩:=I.tuple hq
 obtain ⟨j,h1,h2,h3,h4,h5⟩:=kn he
 obtain ⟨w,ew,rw'⟩:=r.get h2
 have hl:=r.length
 have hn:=jV
 have fin:EP X pins σ Q w s:=⟨z,H,I,rw',q⟩
 exact subscriptTail_builtinR (x:=w) pl.typeIs slot_tuple_getitem.lookup
  (getItem_tuple (j:=j) (Q:=fun r s'=>r = w /\ EP X pins σ Q r s') pl (by omega) (by omega) (by rw [List.size_toArray,<- hl]; exact h1) (by simpa using ew) ⟨rfl,fin⟩) hs
theorem xY:IxR X JF:=by
 intro value slice pins s σ H x y v u Q I rx ry h hs
 obtain ⟨z,i,c,rfl,rfl,hz,he,q⟩:=h
 obtain ⟨t,rfl⟩:=rx
 obtain ⟨t',rfl⟩:=ry
 obtain ⟨j,h1,h2,h3,h4,h5⟩:=kn he
 have hl:z.cps.toList.length = z.length:=by simp [Str.length]
 rw [hl] at h1 h4 h5
 have hn:=jV
 exact tail_any (typeIs_str s z t) slot_str_getitem.lookup (getItem_str (c:=c) (by
  have e1:decide (i < -(2 ^ 63:Int)) = false:=decide_eq_false (by omega)
  have e2:decide (i ≥ 2 ^ 63) = false:=decide_eq_false (by omega)
  rw [e1,e2,Bool.or_false]) (by rw [h1]; simpa using h2) ⟨.str ⟨#[c]⟩,H,I.tok _,⟨_,rfl⟩,q⟩) hs
def rIx (K:PySem.W.Frag):R2:=fun x y H Q=>Jc K x y H Q \/ UF K x y H Q \/ JF x y H Q
theorem X2:IxR X (rIx X.K):=ix_list.or (ix_tup.or xY)
theorem Inv.lst {pins:List (Addr × Obj)} {σ:St} {H:Hp} {s:Shared} {p:Addr} {xs:List V} (I:Inv X pins σ H s) (h:H p = some (.lst xs)) :
  ∃ (its:List Value) (n:Nat),Vals xs its /\ s.heap.get? p = some { cls:=.type "list",data:=.seq its.toArray n } /\ xs.length <= sizeLine:=by
 obtain ⟨z,its,n,r,e⟩:=I.hok p _ h
 exact ⟨its,n,r,e,z⟩
theorem ju (lo hi:Option Int) (n:Nat):(sliceBounds lo hi none n).1 = ((HT.sIx n 0 lo:Nat):Int) /\ (sliceBounds lo hi none n).2.1 = ((HT.sIx n n hi:Nat):Int) /\ (sliceBounds lo hi none n).2.2 = 1:=by
 refine ⟨?_,?_,rfl⟩
 ·cases lo with
  | none=>simp [sliceBounds,HT.sIx]
  | some i =>
   simp only [sliceBounds,HT.sIx,Option.getD_none,show (1:Int) > 0 by decide,if_true]
   by_cases h:i < 0
   ·simp only [h,if_true] <;> omega
   ·simp only [h,if_false] <;> omega
 ·cases hi with
  | none=>simp [sliceBounds,HT.sIx]
  | some i =>
   simp only [sliceBounds,HT.sIx,Option.getD_none,show (1:Int) > 0 by decide,if_true]
   by_cases h:i < 0
   ·simp only [h,if_true] <;> omega
   ·simp only [h,if_false] <;> omega
theorem qL (its:List Value) (lo hi:Option Int):slicePick its.toArray lo hi none = ((its.drop (HT.sIx its.length 0 lo)).take (HT.sIx its.length its.length hi - HT.sIx its.length 0 lo)).toArray:=by
 obtain ⟨h1,h2,h3⟩:=ju lo hi its.toArray.size
 unfold slicePick
 rw [h1,h2,h3]
 simp only [sliceRange_one,pick_run,List.size_toArray] <;> rfl
def QQ (K:PySem.W.Frag):V -> Option Int -> Option Int -> Hp -> VK -> Prop:=fun x lo hi H Q=>∃ a xs,x = .ref a /\ SqL K H a xs /\ ∀ p,H p = none -> Q (.ref p) (upd H p (.lst (UB xs lo hi)))
theorem sl_list:SlR X (QQ X.K):=by
 intro pins s σ H x v vl vu lo hi sl Q I rx hs pl pu h
 obtain ⟨a,xs,rfl,hx,q⟩:=h
 cases rx
 obtain ⟨its,r,ht,hz⟩:=I.list hx
 have hlen:=r.length
 refine ⟨"list",_,slot_list_getitem.lookup,ht.isList.typeIs,?_⟩
 refine wpAny_getItem_list_slice ht.isList hs pl pu .none (by simp) ?_ (by rw [List.size_toArray] <;> omega)
 rw [qL,<- hlen]
 refine ⟨.ref s.heap.objs.size,_,I.laid (t':=s.toks) (o:=.lst (UB xs lo hi)) (fun b ob q=>Heap.get?_push_of_some _ q) (Nat.le_refl _) ?_,rfl,q _ (I.hok.fresh (Nat.le_refl _))⟩
 exact ⟨Nat.le_trans (kE xs lo hi) hz,_,0,(r.drop (HT.sIx xs.length 0 lo)).take (HT.sIx xs.length xs.length hi - HT.sIx xs.length 0 lo),Heap.get?_push_size _ rfl⟩
def UN:V -> Bool
 | .non=>true
 | .bl _=>true
 | .int _=>true
 | .str _=>true
 | _=>false
def eqV:V -> V -> Bool
 | .non,.non=>true
 | .bl a,.bl b=>a == b
 | .bl a,.int b=>(if a then 1 else 0) == b
 | .int a,.bl b=>a == (if b then 1 else 0)
 | .int a,.int b=>a == b
 | .str a,.str b=>a == b
 | _,_=>false
theorem Za {A:Around} {s:Shared} {y x:V} {u v:Value} (ry:RelV y u) (rx:RelV x v) (fy:UN y = true) (fx:UN x = true):SeqAt.EqAt A s u v (eqV y x):=by
 cases y with
 | non =>
  cases ry
  cases x with
  | non=>cases rx; exact SeqAt.EqAt.same _
  | bl b=>cases rx; exact SeqAt.EqAt.none_bool b
  | int b=>obtain ⟨t,rfl⟩:=rx; exact SeqAt.EqAt.none_int b t
  | str b=>obtain ⟨t,rfl⟩:=rx; exact SeqAt.EqAt.none_str b t
  | _=>exact absurd (show false = true from fx) Bool.false_ne_true
 | bl a =>
  cases ry
  cases x with
  | non=>cases rx; exact SeqAt.EqAt.bool_none a
  | bl b=>cases rx; exact SeqAt.EqAt.bool_bool a b
  | int b=>obtain ⟨t,rfl⟩:=rx; exact SeqAt.EqAt.bool_int a b t
  | str b=>obtain ⟨t,rfl⟩:=rx; exact SeqAt.EqAt.bool_str a b t
  | _=>exact absurd (show false = true from fx) Bool.false_ne_true
 | int a =>
  obtain ⟨t',rfl⟩:=ry
  cases x with
  | non=>cases rx; exact SeqAt.EqAt.int_none a t'
  | bl b=>cases rx; exact SeqAt.EqAt.int_bool a t' b
  | int b=>obtain ⟨t,rfl⟩:=rx; exact SeqAt.EqAt.int_int a t' b t
  | str b=>obtain ⟨t,rfl⟩:=rx; exact SeqAt.EqAt.int_str a t' b t
  | _=>exact absurd (show false = true from fx) Bool.false_ne_true
 | str a =>
  obtain ⟨t',rfl⟩:=ry
  cases x with
  | non=>cases rx; exact SeqAt.EqAt.str_none a t'
  | bl b=>cases rx; exact SeqAt.EqAt.str_bool a t' b
  | int b=>obtain ⟨t,rfl⟩:=rx; exact SeqAt.EqAt.str_int a t' b t
  | str b=>obtain ⟨t,rfl⟩:=rx; exact SeqAt.EqAt.str_str a t' b t
  | _=>exact absurd (show false = true from fx) Bool.false_ne_true
 | _=>exact absurd (show false = true from fy) Bool.false_ne_true
theorem xo:vR X (.type "list") (fun xs H Q=>∃ p ys,xs = [.ref p] /\ (SqL X.K H p ys \/ SqT X.K H p ys) /\ ∀ l,H l = none -> Q (.ref l) (upd H l (.lst ys))):=by
 intro pins s σ H xs us Q I r h
 obtain ⟨p,ys,rfl,hq,q⟩:=h
 obtain ⟨u,rfl,rx⟩:=vn r
 cases rx
 have fin:∀ (its:List Value),Vals ys its -> ys.length <= sizeLine -> ∀ (h':Heap) (c':Nat),(∀ b o',s.heap.get? b = some o' -> h'.get? b = some o') ->
   h'.get? s.heap.objs.size = some { cls:=.type "list",dict:=none,data:=.seq its.toArray c',slots:=#[] } -> EP X pins σ Q (.ref s.heap.objs.size) { s with heap:=h' }:=fun its r' hz h' c' kp e =>
  ⟨.ref s.heap.objs.size,_,I.laid (t':=s.toks) kp (Nat.le_refl _) (show ObjOk X.prog X.w _ h' _ (.lst ys) from ⟨hz,its,c',r',e⟩),rfl,q _ (I.hok.fresh (Nat.le_refl _))⟩
 rcases hq with hq | hq
 ·obtain ⟨its,r',pl,hz⟩:=I.list hq
  have hlen:=r'.length
  obtain ⟨o,ho,hc,n,hd⟩:=pl.isList
  exact call_list_seq p (.inl rfl) ho hc hd (fun h' c' kp e=>fin its r' hz h' c' kp e) (by simp only [List.size_toArray] <;> omega)
 ·obtain ⟨its,r',pl,hz⟩:=I.tuple hq
  have hlen:=r'.length
  obtain ⟨o,ho,hc,n,hd⟩:=pl
  exact call_list_seq p (.inr rfl) ho hc hd (fun h' c' kp e=>fin its r' hz h' c' kp e) (by simp only [List.size_toArray] <;> omega)
theorem ji:vR X (.type "tuple") (fun xs H Q=>∃ p ys,xs = [.ref p] /\ ((SqL X.K H p ys /\ ∀ l,H l = none -> Q (.ref l) (upd H l (.tup ys))) \/ (SqT X.K H p ys /\ Q (.ref p) H))):=by
 intro pins s σ H xs us Q I r h
 obtain ⟨p,ys,rfl,h⟩:=h
 obtain ⟨u,rfl,rx⟩:=vn r
 cases rx
 rcases h with ⟨hq,q⟩ | ⟨hq,q⟩
 ·obtain ⟨its,r',pl,hz⟩:=I.list hq
  have hlen:=r'.length
  refine call_tuple_list pl.isList (fun h' kp=>?_) (by simp only [List.size_toArray] <;> omega)
  have I1:Inv X pins σ H { s with heap:=h' }:=I.kept (t':=s.toks) kp
  have I2:Inv X pins σ (upd H h'.objs.size (.tup ys)) { s with heap:=h'.push { cls:=.type "tuple",data:=.seq its.toArray } } :=
   I1.laid (t':=s.toks) (fun b o e=>Heap.get?_push_of_some _ e) (Nat.le_refl _) (show ObjOk X.prog X.w _ _ _ (.tup ys) from ⟨hz,its,r',IsTup.new _ _⟩)
  exact ⟨.ref h'.objs.size,_,I2,rfl,q _ (I1.hok.fresh (Nat.le_refl _))⟩
 ·obtain ⟨its,r',pl,hz⟩:=I.tuple hq
  exact call_tuple_same pl ⟨.ref p,H,I,rfl,q⟩
def tyV (K:PySem.W.Frag) (T:String) (x:V) (H:Hp):Prop:=match x with
 | .str _=>T = "str"
 | .int _=>T = "int"
 | .ref p=>(T = "list" /\ ∃ xs,SqL K H p xs) \/ (T = "tuple" /\ ∃ o,K.lookup p = some o /\ o.cls = .type "tuple" /\ o.dict = none) \/
   (T = "dict" /\ ((∃ kvs,H p = some (.dK kvs)) \/ ∃ kvs,H p = some (.dT kvs))) \/ (T = "set" /\ ∃ S n,H p = some (.set S n))
 | _=>False
theorem Vi {pins:List (Addr × Obj)} {σ:St} {H:Hp} {s:Shared} {T:String} {x:V} {v:Value} (I:Inv X pins σ H s) (r:RelV x v) (ty:tyV X.K T x H) :
  s.TypeIs v T /\ ∀ a,v = .ref a -> ∃ ob,s.heap.get? a = some ob /\ ob.dict = none:=by
 cases x with
 | str z =>
  obtain ⟨t,rfl⟩:=r
  cases (show T = "str" from ty)
  exact ⟨typeIs_str s z t,fun _ e=>nomatch e⟩
 | int i =>
  obtain ⟨t,rfl⟩:=r
  cases (show T = "int" from ty)
  exact ⟨typeIs_int s i t,fun _ e=>nomatch e⟩
 | ref p =>
  cases r
  rcases ty with ⟨rfl,xs,hq⟩ | ⟨rfl,o,hk,hc,hd⟩ | ⟨rfl,hk⟩ | ⟨rfl,S,n,hk⟩
  ·obtain ⟨its,_,pl,_⟩:=I.list hq
   refine ⟨pl.isList.typeIs,fun a e=>?_⟩
   cases e
   obtain ⟨o,n,e,c,hd,_⟩:=pl
   exact ⟨o,e,hd⟩
  ·refine ⟨⟨o,I.kIn p o hk,hc⟩,fun a e=>?_⟩
   cases e
   exact ⟨o,I.kIn _ o hk,hd⟩
  ·have z:∃ o,s.heap.get? p = some o /\ o.ExactDict:=by
    rcases hk with ⟨kvs,hk⟩ | ⟨kvs,hk⟩
    ·obtain ⟨_,_,_,_,o,_,_,e,ex,_⟩:=I.hok p _ hk
     exact ⟨o,e,ex⟩
    ·obtain ⟨_,_,_,_,o,_,_,e,ex,_⟩:=I.hok p _ hk
     exact ⟨o,e,ex⟩
   obtain ⟨o,e,ex⟩:=z
   refine ⟨⟨o,e,ex.1⟩,fun a e2=>?_⟩
   cases e2
   exact ⟨o,e,ex.2.1⟩
  ·obtain ⟨o,_,_,_,e,ex,_⟩:=I.hok p _ hk
   refine ⟨⟨o,e,ex.1⟩,fun a e2=>?_⟩
   cases e2
   exact ⟨o,e,ex.2.1⟩
 | _=>exact False.elim ty
def Ka (K:PySem.W.Frag) (T:String) (r:V -> List V -> Hp -> VK -> Prop) (to:TE):TE:=fun σ H Q=>to σ H fun x H1=>tyV K T x H1 /\ r x [] H1 Q
def tBM (K:PySem.W.Frag) (T:String) (r:V -> List V -> Hp -> VK -> Prop) (to:TE) (t:TA):TE:=fun σ H Q=>to σ H fun x H1=>tyV K T x H1 /\ t σ H1 fun xs H2=>r x xs H2 Q
variable {o e:Expr} {es:List Expr} {to:TE} {t:TA} {name:Str} {apos cpos:Pos} {T id:String} {r:V -> List V -> Hp -> VK -> Prop}
theorem U8 (pa:PlainAttrs T) (slot:Slot T name id) (hty:typeOf (.builtin id) = pure (.type "method_descriptor")) (hm:MtR X id r) (ho:PE X o to)
  (hbase:attributeBase o name X.env (eval o X.env) = eval o X.env:=by rfl) (hline:(apos.endLine == cpos.line) = true:=by rfl):PE X (.Call (.Attribute o name apos) [] [] cpos) (Ka X.K T r to):=by
 intro pins s σ H Q I h
 refine wpAny_Call_method0_late hbase hline (thn (ho pins s σ H _ I h) fun v s1 ⟨x,H1,I1,r1,ty,q1⟩=>?_)
 obtain ⟨h1,h2⟩:=Vi I1 r1 ty
 exact ⟨T,id,pa,slot,hty,h1,h2,Calls.callWith_builtin rfl (PySem.evalArgs_none (hm pins s1 σ H1 x [] v [] Q I1 r1 .nil q1))⟩
theorem wY (pa:PlainAttrs T) (slot:Slot T name id) (hty:typeOf (.builtin id) = pure (.type "method_descriptor")) (hm:MtR X id r) (ho:PE X o to) (ha:PA X (e :: es) t)
  (hbase:attributeBase o name X.env (eval o X.env) = eval o X.env:=by rfl)
  (hfew:((backTo cpos (starEach (e :: es) X.env)).all (fun x=>!x.1) && (backToKw cpos (keywordEach [] X.env)).all (fun x=>x.1.isSome)
   && decide ((e :: es).length + ([]:List Keyword).length + (if ([]:List Keyword).isEmpty then 0 else 1) < 30)) = true:=by rfl)
  (hline:(apos.endLine == cpos.line) = true:=by rfl) (hs:starEach (e :: es) X.env = (false,eval e X.env) :: starEach es X.env:=by rfl) (hplain:(backTo cpos (starEach es X.env)).any (·.1) = false:=by rfl) :
  PE X (.Call (.Attribute o name apos) (e :: es) [] cpos) (tBM X.K T r to t):=by
 intro pins s σ H Q I h
 refine wpAny_Call_method_late hbase hfew hline rfl (thn (ho pins s σ H _ I h) fun v s1 ⟨x,H1,I1,r1,ty,q1⟩=>?_)
 obtain ⟨h1,h2⟩:=Vi I1 r1 ty
 refine ⟨T,id,pa,slot,hty,h1,h2,?_⟩
 have hA:=ha cpos pins s1 σ H1 _ I1 q1
 rw [hs] at hA ⊢
 refine Calls.callWith_builtin (by show (false || (backTo cpos (starEach es X.env)).any (·.1)) = false; rw [hplain] <;> rfl) (Calls.evalArgs_plain ?_)
 exact thn hA fun us s2 ⟨vs,H2,I2,r2,q2⟩=>hm pins s2 σ H2 x vs v us Q I2 r1 r2 q2
/- xs.append(e),list.index on a module's tuple .. are MtR facts of 06m -/
end
end L2
namespace L2
open PySem PySem.Spec PyProof.Rows
def MtM (X:Cx) (id:String) (r:V -> List V -> Hp -> VK -> Prop):Prop :=
 ∀ (pins:List (Addr × Obj)) (s:Shared) (σ:St) (H:Hp) (x:V) (xs:List V) (v:Value) (us:List Value) (Q:VK),Inv X pins σ H s -> RelV x v -> Vals xs us -> r x xs H Q ->
  wpAny (model X.prog X.w) X.A (call (.builtin id) (v :: us)) (EP X pins σ Q) X.xe s
theorem Vals.one:∀ {x:V} {us:List Value},Vals [x] us -> ∃ u,us = [u] /\ RelV x u
 | _,_,.cons r .nil=>⟨_,rfl,r⟩
theorem Vals.two:∀ {x y:V} {us:List Value},Vals [x,y] us -> ∃ u v,us = [u,v] /\ RelV x u /\ RelV y v
 | _,_,_,.cons r (.cons q .nil)=>⟨_,_,rfl,r,q⟩
theorem Vals.zero:∀ {us:List Value},Vals [] us -> us = []
 | _,.nil=>rfl
theorem Vals.dropLast {xs:List V} {us:List Value} (h:Vals xs us):Vals xs.dropLast us.dropLast:=by
 induction h with
 | nil=>exact .nil
 | cons r t ih =>
  cases t with
  | nil=>exact .nil
  | cons q t'=>exact .cons r ih
theorem Vals.eraseIdx:∀ {xs:List V} {us:List Value} (i:Nat),Vals xs us -> Vals (xs.eraseIdx i) (us.eraseIdx i)
 | _,_,_,.nil=>.nil
 | _,_,0,.cons _ t=>t
 | _,_,i + 1,.cons r t=>.cons r (Vals.eraseIdx i t)
theorem Vals.reverse {xs:List V} {us:List Value} (h:Vals xs us):Vals xs.reverse us.reverse:=by
 induction h with
 | nil=>exact .nil
 | cons r t ih=>rw [List.reverse_cons,List.reverse_cons]; exact Vals.append ih (.cons r .nil)
theorem ZL {α:Type} (l:List α):l.eraseIdx (l.length - 1) = l.dropLast:=by
 induction l with
 | nil=>rfl
 | cons a r ih =>
  cases r with
  | nil=>rfl
  | cons b r =>
   have e:(a :: b :: r).length - 1 = ((b :: r).length - 1) + 1:=by
    have h1:(a :: b :: r).length = r.length + 2:=rfl
    have h2:(b :: r).length = r.length + 1:=rfl
    omega
   rw [e,List.eraseIdx_cons_succ,ih]
   all_goals rfl
section
variable {X:Cx} {pins:List (Addr × Obj)} {σ:St} {H:Hp} {s:Shared} {l b:Addr} {xs ys zs:List V}
theorem Inv.lset {its its':List Value} {n:Nat} {f:Array Value -> Array Value} {t':Nat} (I:Inv X pins σ H s) (hH:H l = some (.lst xs))
  (e:s.heap.get? l = some { cls:=.type "list",data:=.seq its.toArray n }) (hf:f its.toArray = its'.toArray) (hv:Vals ys its') (hz:ys.length <= sizeLine) :
  Inv X pins σ (upd H l (.lst ys)) { s with heap:=s.heap.update l (Obj.mapSeq f),toks:=t' }:=by
 have q:=PySem.IsL.update e f
 rw [hf] at q
 refine I.write (x:=l) (e:=l) (by rw [hH]; exact trivial) (.inl rfl) (fun b' u hb hu=>(Heap.get?_update_other s.heap (Obj.mapSeq f) (Ne.symm hb)).trans hu) ⟨_,q⟩ ?_
 exact ⟨hz,its',_,hv,q⟩
theorem Inv.lnew {its:List Value} {t':Nat} (I:Inv X pins σ H s) (hv:Vals ys its) (hz:ys.length <= sizeLine) :
  Inv X pins σ (upd H s.heap.objs.size (.lst ys)) { s with heap:=s.heap.push { cls:=.type "list",data:=.seq its.toArray },toks:=t' } :=
 I.laid (fun _ _ q=>Heap.get?_push_of_some _ q) (Nat.le_refl _) ⟨hz,its,0,hv,Heap.get?_push_size _ rfl⟩
theorem Inv.fresh (I:Inv X pins σ H s):H s.heap.objs.size = none:=I.hok.fresh (Nat.le_refl _)
theorem Inv.lstM (I:Inv X pins σ H s) (hH:H l = some (.lst xs)):xs.length <= sizeLine /\ ∃ (its:List Value) (n:Nat),Vals xs its /\ xs.length = its.length /\ s.heap.get? l = some { cls:=.type "list",data:=.seq its.toArray n }:=by
 obtain ⟨z,its,n,r,e⟩:=I.hok l _ hH
 exact ⟨z,its,n,r,r.length,e⟩
theorem W9 {n:Nat} (h:n <= sizeLine):Builtin.List.listTooLong n = false:=by
 unfold Builtin.List.listTooLong
 exact decide_eq_false (by omega)
end
section
variable {X:Cx}
def Yl:V -> List V -> Hp -> VK -> Prop:=fun x vs H Q=>∃ l xs y,x = .ref l /\ vs = [y] /\ H l = some (.lst xs) /\ xs.length < sizeLine /\ Q .non (upd H l (.lst (xs ++ [y])))
theorem yk:MtM X "list.append" Yl:=by
 intro pins s σ H x vs v us Q I rx rv h
 obtain ⟨l,xs,y,rfl,rfl,hH,hz,q⟩:=h
 cases rx
 obtain ⟨u,rfl,ru⟩:=rv.one
 obtain ⟨z,its,n,r,hl,e⟩:=I.lstM hH
 refine call_meets F.slot_list_append ⟨_,e,rfl⟩ F.entry_list_append (F.args_list_append_2 _ _) (PySem.list_append l its.toArray n u (by rw [List.size_toArray]; omega)) ⟨e,?_⟩
 refine ⟨.non,_,I.lset (its':=its ++ [u]) hH e (by simp) (r.append (.cons ru .nil)) ?_,rfl,q⟩
 rw [List.length_append,List.length_singleton]
 omega
def VM:V -> List V -> Hp -> VK -> Prop:=fun x vs H Q=>∃ l b xs zs,x = .ref l /\ vs = [.ref b] /\ H l = some (.lst xs) /\ H b = some (.lst zs) /\ xs.length + zs.length <= sizeLine /\ Q .non (upd H l (.lst (xs ++ zs)))
theorem U0:MtM X "list.extend" VM:=by
 intro pins s σ H x vs v us Q I rx rv h
 obtain ⟨l,b,xs,zs,rfl,rfl,hH,hB,hz,q⟩:=h
 cases rx
 obtain ⟨u,rfl,ru⟩:=rv.one
 cases ru
 obtain ⟨z,its,n,r,hl,e⟩:=I.lstM hH
 obtain ⟨z2,its2,n2,r2,hl2,e2⟩:=I.lstM hB
 have hsz:its.toArray.size + its2.toArray.size <= sizeLine:=by rw [List.size_toArray,List.size_toArray]; omega
 have hlong:¬ (!its.toArray.isEmpty && Builtin.List.listTooLong (its.toArray.size + its2.toArray.size)) = true:=by
  rw [W9 hsz,Bool.and_false]
  exact Bool.false_ne_true
 refine call_meets F.slot_list_extend ⟨_,e,rfl⟩ F.entry_list_extend (F.args_list_extend_2 _ _)
  (AutoSeq1.list_extend_list_list_0 l its.toArray n b its2.toArray n2 hlong (by rw [List.size_toArray]; omega) (by omega)) ⟨e,e2,?_⟩
 refine ⟨.non,_,I.lset (its':=its ++ its2) hH e (by simp) (r.append r2) ?_,rfl,q⟩
 rw [List.length_append]
 omega
def Kd:V -> List V -> Hp -> VK -> Prop:=fun x vs H Q=>∃ l xs y,x = .ref l /\ vs = [] /\ H l = some (.lst xs) /\ xs[xs.length - 1]? = some y /\ Q y (upd H l (.lst xs.dropLast))
theorem JU:MtM X "list.pop" Kd:=by
 intro pins s σ H x vs v us Q I rx rv h
 obtain ⟨l,xs,y,rfl,rfl,hH,hy,q⟩:=h
 cases rx
 have hus:=rv.zero
 subst hus
 obtain ⟨z,its,n,r,hl,e⟩:=I.lstM hH
 obtain ⟨u,hu,ru⟩:=r.get hy
 have hy':its.toArray[its.toArray.size - 1]? = some u:=by
  show its.toArray[its.length - 1]? = some u
  rw [<- Array.getElem?_toList,<- hl]
  exact hu
 refine call_meets F.slot_list_pop ⟨_,e,rfl⟩ F.entry_list_pop (F.args_list_pop_1 _) (MeetsSeq.list_pop_last l its.toArray n u hy' (by rw [List.size_toArray]; omega)) ⟨e,?_⟩
 refine ⟨y,_,I.lset (its':=its.dropLast) hH e ?_ r.dropLast ?_,ru,q⟩
 ·show its.toArray.eraseIdxIfInBounds (its.toArray.size - 1) = its.dropLast.toArray
  rw [List.size_toArray,List.eraseIdxIfInBounds_toArray,ZL]
 ·rw [List.length_dropLast]
  omega
def Wo:V -> List V -> Hp -> VK -> Prop:=fun x vs H Q=>∃ l xs,x = .ref l /\ vs = [] /\ H l = some (.lst xs) /\ Q .non (upd H l (.lst xs.reverse))
theorem Yc:MtM X "list.reverse" Wo:=by
 intro pins s σ H x vs v us Q I rx rv h
 obtain ⟨l,xs,rfl,rfl,hH,q⟩:=h
 cases rx
 have hus:=rv.zero
 subst hus
 obtain ⟨z,its,n,r,hl,e⟩:=I.lstM hH
 refine call_meets F.slot_list_reverse ⟨_,e,rfl⟩ F.entry_list_reverse (F.args_list_reverse_1 _) (AutoSeq1.list_reverse_list_0 l its.toArray n (by rw [List.size_toArray]; omega)) ⟨e,?_⟩
 refine ⟨.non,_,I.lset (its':=its.reverse) hH e (by simp) r.reverse ?_,rfl,q⟩
 rw [List.length_reverse]
 omega
def JI:R2:=fun x y H Q=>∃ l b xs zs,x = .ref l /\ y = .ref b /\ H l = some (.lst xs) /\ H b = some (.lst zs) /\ xs.length + zs.length <= sizeLine /\ ∀ p,H p = none -> Q (.ref p) (upd H p (.lst (xs ++ zs)))
theorem QB:OpR X (binaryOp .Add) JI:=by
 intro pins s σ H x y v u Q I rx ry h
 obtain ⟨l,b,xs,zs,rfl,rfl,hH,hB,hz,q⟩:=h
 cases rx
 cases ry
 obtain ⟨z,its,n,r,hl,e⟩:=I.lstM hH
 obtain ⟨z2,its2,n2,r2,hl2,e2⟩:=I.lstM hB
 refine PySem.P.add_list e e2 ?_ (by rw [List.size_toArray,List.size_toArray]; omega)
 have ea:its.toArray ++ its2.toArray = (its ++ its2).toArray:=by simp
 rw [ea]
 exact ⟨.ref _,_,I.lnew (t':=s.toks) (r.append r2) (by rw [List.length_append]; omega),rfl,q _ I.fresh⟩
theorem len_rep {α:Type} (xs:List α) (k:Nat):(List.replicate k xs).flatten.length = k * xs.length:=by
 induction k with
 | zero=>simp
 | succ k ih=>rw [List.replicate_succ,List.flatten_cons,List.length_append,ih,Nat.succ_mul,Nat.add_comm]
end
section
variable {prog:Program} {w:World} {A:Around} {E:Value -> Shared -> Prop} {s:Shared}
end
section
variable {X:Cx}
end
end L2
namespace Att
open PySem PySem.W PySem.Calls PyProof.Rows
theorem um {P:Params} {h:Heap}:∀ (ns:List Int) (vs:List Value),WellAll P h vs (ns.map WData.int) -> IntsAre vs ns:=by
 intro ns
 induction ns with
 | nil =>
  intro vs w
  rw [List.map_nil] at w
  cases w
  exact .nil
 | cons n ns ih =>
  intro vs w
  rw [List.map_cons] at w
  cases w with
  | cons a b =>
   cases a
   exact .cons _ _ (ih _ b)
theorem XG {l:OpenLaw} {n:Nat} (hn:l.most = some n) {P:Params} {h:Heap} {args:List WData} {vals:List Value}
  (hpre:l.row.toRowW.claim.pre args = true) (hwl:WellAll P h vals args) :
  ∃ a vs ns,vals = [Value.ref a] /\ args = [WData.list (ns.map WData.int)] /\ h.get? a = some { cls:=.type "list",data:=.seq vs.toArray } /\ IntsAre vs ns /\ ns.length <= n:=by
 have hsh:WShape.hasAll [] args [.list .int] = true:=(pre_splitW hpre).1
 have hc:l.pre.holds [] { args:=args } = true:=(pre_splitW hpre).2
 obtain ⟨d,r,rfl,h1,h2⟩:=hasAllW_cons hsh
 obtain rfl:=hasAllW_nil h2
 obtain ⟨xs,rfl,h3⟩:=hasW_list h1
 obtain ⟨ns,rfl⟩:=items_int h3
 have hlen:ns.length <= n:=by
  unfold OpenLaw.pre at hc
  have h4:(WTm.not (.lt (.lit (.int (n:Int))) (.len (.arg 0)))).holds [] { args:=[.list (ns.map .int)] } = true:=by
   have h4:=(holds_andW hc).1
   rw [hn] at h4
   exact h4
  have h5:=condW_of h4 (w_not (w_lt w_lit (w_len_list (w_arg rfl))))
  rw [List.length_map] at h5
  refine Nat.le_of_not_lt fun q=>?_
  have q':(n:Int) < ((ns.length:Nat):Int):=by omega
  first
   | (rw [decide_eq_true q'] at h5; exact absurd h5 (by decide))
   | (simp at h5; omega)
 cases hwl with
 | cons w1 w2 =>
  cases w2
  cases w1 with
  | list ho hall=>exact ⟨_,_,ns,rfl,rfl,ho,um ns _ hall,hlen⟩
theorem Xg (l:OpenLaw) (args:List WData):l.row.toRowW.claim.post args (.bool true) args = true :=
 postW_of (r:=l.row.toRowW) (X:=(true == true))
  (show WShape.has [] (.bool true) .bool = true by first | rfl | decide | simp [WShape.has,WShape.arms,WShape.armsAll])
  (show (WTm.eq .res (.lit (.bool true))).value [] { args:=args,res:=some (.bool true),after:=args } = some (.bool (true == true)) from w_eq_bool (w_res rfl) w_lit) rfl
theorem attach_call {l:OpenLaw} {n:Nat} {q:Program} {loose:List Str} {XP:(Str -> Option Value) -> Heap -> Prop} {YP:World -> Heap -> Prop} {d:DefRec}
  (hn:l.most = some n) (hdf:d.params.defaults = [])
  (call:∀ (w:World) (s₀ s₁:Shared) (mg mb:Str -> Option Value) (fa:Addr) (o:Obj) (pm cd doc:Value) (a:Addr) (vs:List Value) (ns:List Int),
   Ground q loose [] XP w s₀ mg mb s₁.heap -> YP w s₁.heap ->
   s₁.heap.get? fa = some o -> o.data = .func (docDef d.name d.params d.body d.scope pm cd doc) -> s₁.heap.CodeRec cd d.name -> mg d.name = some (.ref fa) ->
   s₁.heap.get? a = some { cls:=.type "list",data:=.seq vs.toArray } -> IntsAre vs ns -> ns.length <= n -> s₁.gens = #[] ->
   codeAny (model l.prog w) callerA (.call (.ref fa) ⟨[.ref a],[]⟩) (fun r s'=>r = .ok (.ret (.bool true)) /\ OldK s₁.heap s'.heap /\ s'.os = s₁.os /\ AllBare s'.gens) s₁) :
  WalkO q loose XP YP l.row.toRowW d [] (fun f vs=>PySem.call f vs):=by
 intro w s₀ s₁ mg mb G Y fa o pm cd doc dV kV ho hd hcd hD hmg hg args vals as hpre hlay hrd hwl hlo
 obtain rfl:dV = .none:=Dflts.none hD hdf
 obtain rfl:kV = .none:=Dflts.noKw hD
 obtain ⟨a,vs,ns,rfl,rfl,hobj,hints,hlen⟩:=XG hn hpre hwl
 refine enter_call (codeAny_mono (call w s₀ s₁ mg mb fa o pm cd doc a vs ns G Y ho (fd_plain hd) hcd hmg hobj hints hlen hg) fun r s' hq=>?_)
 obtain ⟨rfl,h2,h3,h4⟩:=hq
 exact ⟨.inl ⟨.bool true,.bool true,[],rfl,fun _=>rfl,.bool true,Xg l _,fun _=>⟨List.Pairwise.nil,fun _ hm=>(nomatch hm)⟩⟩,h2,h3,h4⟩
section
variable {prog:Program} {w:World} {A:Around} {E:Value -> Shared -> Prop} {s:Shared} {K:Frag}
def J7 (h:Heap) (L d:Addr):List (Addr × Obj):=(List.range h.objs.size).filterMap fun a=>if a = L \/ a = d then none else (h.get? a).map fun o=>(a,o)
end
end Att
namespace L2
open PySem PySem.Spec PyProof.Rows
theorem jX:∀ {vs:List Value} {ns:List Int},IntsAre vs ns -> Vals (ns.map V.int) vs
 | _,_,.nil=>.nil
 | _,_,.cons n t h=>.cons ⟨t,rfl⟩ (jX h)
def QX (H:Hp):Prop:=∀ b,H b = none \/ ∃ o xs,H b = some (.frz o (.lst xs))
theorem Vb {P:Program} {w:World} {K:PySem.W.Frag} {mg mb:Str -> Option Value} {CX:CXT} {k:Nat} {fa a:Addr} {fd:FuncData} {x:Str} {sp:Sp} {s₁:Shared} {vs:List Value} {ns:List Int}
  (KX:K.In s₁.heap) (hns:s₁.heap.Ns mainGlobals mg) (hb:s₁.heap.Ns builtinsNs mb) (hbb:∀ x:Str,x ≠ "__name__" -> mb x = bootBuiltins x) (hlim:s₁.heap.NoLimit) (hg:s₁.gens = #[])
  (ha:s₁.heap.get? a = some { cls:=.type "list",data:=.seq vs.toArray }) (hi:IntsAre vs ns) (hl:ns.length <= sizeLine) (hr:Room k callerA)
  (F:∀ base:Heap,K.In base -> base.Ns mainGlobals mg -> yo P w K mg base CX k fa fd [x] sp) (hbind:∀ (s:Shared) (u:Value),BindsTo s fd ⟨[u],[]⟩ [(x,u)])
  (hsp:∀ H:Hp,QX H -> SqL K H a (ns.map V.int) -> sp [.ref a] H (fun v _=>v = .bl true) fun _ _ _=>False)
  (hCX:∀ H e s',CX [] H s₁ (fun _ _ _=>False) e s' -> False) :
  codeAny (model P w) callerA (.call (.ref fa) ⟨[.ref a],[]⟩) (fun r s'=>r = .ok (.ret (.bool true)) /\ OldK s₁.heap s'.heap /\ s'.os = s₁.os /\ AllBare s'.gens) s₁:=by
 have rv:=jX hi
 have lenV:=hi.length
 have core:∀ H:Hp,QX H -> SqL K H a (ns.map V.int) -> HOk P w H s₁.heap -> (∀ b,H b ≠ none -> b = a) -> (H a ≠ none -> K.lookup a = none) ->
   codeAny (model P w) callerA (.call (.ref fa) ⟨[.ref a],[]⟩) (fun r s'=>r = .ok (.ret (.bool true)) /\ OldK s₁.heap s'.heap /\ s'.os = s₁.os /\ AllBare s'.gens) s₁:=by
  intro H hO hS hok hA hK
  have base_of:∀ {b:Addr} {o:Obj},s₁.heap.get? b = some o -> H b = none -> (WN s₁.heap H).get? b = some o:=fun e n=>WB e n
  have noA:∀ {b:Addr} {o:Obj} {es:Array DictEntry} {ep:Nat},s₁.heap.get? b = some o -> o.data = .dict es ep -> H b = none:=fun {b o es ep} e d=>by
   cases q:H b with
   | none=>rfl
   | some u =>
    have e':b = a:=hA b (by rw [q]; simp)
    subst e'
    rw [ha] at e; cases e
    have d':Data.seq vs.toArray _ = Data.dict es ep:=d
    cases d'
  have nsK:∀ {b:Addr} {m:Str -> Option Value},s₁.heap.Ns b m -> (WN s₁.heap H).Ns b m:=fun {b m} ⟨o,es,ep,e,d,r⟩=>⟨o,es,ep,base_of e (noA e d),d,r⟩
  have hKb:K.In (WN s₁.heap H):=fun b o e=>base_of (KX b o e) (by
   cases q:H b with
   | none=>rfl
   | some u =>
    have e':b = a:=hA b (by rw [q]; simp)
    subst e'
    rw [hK (by rw [q]; simp)] at e; cases e)
  have hM:Mod K mg (WN s₁.heap H):=⟨hKb,nsK hns,⟨mb,nsK hb,hbb⟩,let ⟨mc,h1,h2⟩:=hlim; ⟨mc,nsK h1,h2⟩⟩
  have e0:Env0 P w K mg (WN s₁.heap H) callerA [] s₁ H:=⟨rfl,hM,fun b o e=>Ux e,Nat.le_of_eq (Y1 _ _),trivial,fun b hb=>absurd (show b ∈ ([]:List Addr) from hb) (by simp),hok,.of_eq hg⟩
  refine codeAny_mono ((F _ hKb (nsK hns)).run callerA [] s₁ H ⟨[.ref a],[]⟩ [.ref a] [.ref a] _ _ hr e0 (hbind s₁ (.ref a)) (.cons rfl .nil) (hsp H hO hS)) fun r s' h=>?_
  cases r with
  | error e=>exact (hCX H e s' h).elim
  | ok fl =>
   cases fl with
   | next=>exact False.elim h
   | brk=>exact False.elim h
   | cont=>exact False.elim h
   | ret u =>
    obtain ⟨v,H',os,bare,un,hok',r',q⟩:=h
    have q':v = .bl true:=q
    subst q'
    obtain rfl:u = Value.bool true:=r'
    refine ⟨rfl,OldK.of_keep fun b o e=>?_,os,bare⟩
    cases q:H b with
    | none=>exact un.keep b o e q (by intro z; exact absurd (show b ∈ ([]:List Addr) from z) (by simp)) (by simp)
    | some u =>
     rcases hO b with z | ⟨ob,xs,z⟩
     ·rw [q] at z; cases z
     ·have z2:=un.frzs b ob _ z
      obtain ⟨e1,_⟩:=hok b _ z
      obtain ⟨e2,_⟩:=hok' b _ z2
      rw [e] at e1; cases e1
      exact e2
 cases hk:K.lookup a with
 | some o =>
  have e:=KX a o hk
  rw [ha] at e
  cases e
  refine core (fun _=>none) (fun _=>.inl rfl) (.inr ⟨_,vs.toArray,_,hk,rfl,rfl,rfl,by rw [List.size_toArray,lenV]; exact hl,by simpa using rv⟩) (fun b u z=>by have z':(none:Option HO) = some u:=z; cases z') (fun b z=>absurd rfl z) fun z=>absurd rfl z
 | none =>
  refine core (fun b=>if b = a then some (.frz { cls:=.type "list",data:=.seq vs.toArray } (.lst (ns.map V.int))) else none) (fun b=>?_) (.inl (.inr ⟨{ cls:=.type "list",data:=.seq vs.toArray },if_pos rfl⟩)) (fun b u z=>?_) (fun b z=>?_) fun _=>hk
  ·by_cases hb:b = a
   ·exact .inr ⟨_,_,if_pos hb⟩
   ·exact .inl (if_neg hb)
  ·by_cases hb:b = a
   ·have z':=(if_pos hb).symm.trans z
    cases z'
    subst hb
    exact ⟨ha,by rw [List.length_map]; exact hl,vs,_,rv,ha⟩
   ·have z':=(if_neg hb).symm.trans z
    cases z'
  ·by_cases hb:b = a
   ·exact hb
   ·exact absurd (if_neg hb) z
end L2
namespace L2
open PySem PySem.Spec PyProof.Rows
theorem walk_of {l:PySem.W.OpenLaw} {n k:Nat} {q:Program} {loose:List Str} {XP:(Str -> Option Value) -> Heap -> Prop} {YP:World -> Heap -> Prop} {d:DefRec} {K:Params -> PySem.W.Frag} {CX:World -> CXT} {sp:World -> Sp} {x:Str}
  (hn:l.most = some n) (hn2:n <= sizeLine) (hdf:d.params.defaults = []) (hr:Room k callerA)
  (hY:∀ (w:World) (h:Heap),YP w h -> (K w.params).In h)
  (F:∀ (w:World) (mg:Str -> Option Value) (fa:Addr) (h:Heap),(K w.params).In h -> h.Ns mainGlobals mg -> mg d.name = some (.ref fa) ->
   ∃ fd:FuncData,(∀ (s:Shared) (u:Value),BindsTo s fd ⟨[u],[]⟩ [(x,u)]) /\
    ∀ base:Heap,(K w.params).In base -> base.Ns mainGlobals mg -> yo l.prog w (K w.params) mg base (CX w) k fa fd [x] (sp w))
  (hsp:∀ (w:World) (H:Hp) (a:Addr) (ns:List Int),ns.length <= n -> QX H -> SqL (K w.params) H a (ns.map V.int) -> sp w [.ref a] H (fun v _=>v = .bl true) fun _ _ _=>False)
  (hCX:∀ (w:World) (H:Hp) (s:Shared) (e:Value) (s':Shared),CX w [] H s (fun _ _ _=>False) e s' -> False) :
  PySem.W.WalkO q loose XP YP l.row.toRowW d [] (fun f vs=>PySem.call f vs):=by
 refine Att.attach_call hn hdf fun w s₀ s₁ mg mb fa o pm cd doc a vs ns G Y ho hd hcd hmg hobj hints hlen hg=>?_
 have KX:=hY w _ Y
 obtain ⟨fd,hb,hF⟩:=F w mg fa _ KX G.T.g hmg
 exact Vb KX G.T.g G.T.b G.T.builtins G.T.nolimit hg hobj hints (Nat.le_trans hlen hn2) hr hF hb (fun H hO hS=>hsp w H a ns hlen hO hS) fun H e s'=>hCX w H s₁ e s'
end L2
namespace L2
open PySem PySem.Spec PyProof.Rows
def yQ (s:Stmt) (j:Nat):Stmt:=match s with
 | .ClassDef _ _ _ body _ _ _ _ _ _ _=>body.getD j (.Pass ⟨0,0,0,0⟩)
 | _=>.Pass ⟨0,0,0,0⟩
def zm (s:Stmt):Arguments:=match s with
 | .FunctionDef _ a _ _ _ _ _ _ _ _=>a
 | _=>{ posonlyargs:=[],args:=[],vararg:=none,kwonlyargs:=[],kw_defaults:=[],kwarg:=none,defaults:=[] }
def zk (s:Stmt):List Stmt:=match s with
 | .FunctionDef _ _ b _ _ _ _ _ _ _=>b
 | _=>[]
def zb (s:Stmt):Scope:=match s with
 | .FunctionDef _ _ _ _ _ _ sc _ _ _=>sc
 | _=>{ kind:=.function,names:=[],isGenerator:=false,isCoroutine:=false }
abbrev CX0:CXT:=fun _ _ _ _ _ _=>False
abbrev E0:XK:=fun _ _ _=>False
theorem kr {X:Cx}:vI CX0 X E0:=fun _ _ _ _ _ _ _ h=>h.elim
structure Fun (K:PySem.W.Frag) (x qual:Str) (st:Stmt) (f:Addr) (fd:FuncData):Prop where
 ex:∃ (oc:Value) (od:Option Addr) (kV doc pm:Value) (an:Option Addr) (cdv ct:Value) (osl:Array (Option Value)),
  fd = PySem.W.fnOf x qual (zm st) (zk st) (zb st) .none kV doc pm an cdv ct /\ K.lookup f = some ⟨oc,od,.func fd,osl⟩ /\ PySem.W.codeIn K cdv qual = true
 kp:PySem.W.keepIn K (.ref f) = true
section
variable {P:Program} {w:World} {K:PySem.W.Frag} {mg:Str -> Option Value} {base:Heap}
theorem Fun.ok {x qual:Str} {st:Stmt} {f:Addr} {fd:FuncData} {N ps:List Str} {k:Nat} {sp:Sp} (F:Fun K x qual st f fd) (S:zq N ps (zb st)) (len:∀ vs H Q E,sp vs H Q E -> vs.length = ps.length)
  (hbody:∀ (cdv:Value) (A:Around) (outer:List Env) (s:Shared) (H:Hp) (vs:List V) (Q:VK) (E:XK),Room k (A.deeper (envOfC qual (zb st) s.heap.objs.size f cdv)) -> sp vs H Q E ->
   ∃ t,PSs (ui CX0 P w K mg base N qual (zb st) f cdv A outer s H E).nox (zk st) t /\ t { nx:=fun _ H'=>Q .non H',rt:=Q } (start N vs) H):yo P w K mg base CX0 (k + 1) f fd ps sp:=by
 obtain ⟨oc,od,kV,doc,pm,an,cdv,ct,osl,rfl,lk,hcd⟩:=F.ex
 refine VS lk hcd S len fun A outer s H vs Q E hr hsp=>?_
 obtain ⟨t,h,q⟩:=hbody cdv A outer s H vs Q E hr hsp
 exact ⟨t,h.nox,q⟩
theorem Fun.binds {x qual:Str} {st:Stmt} {f:Addr} {fd:FuncData} {ps:List Str} (F:Fun K x qual st f fd)
  (h:∀ (kV doc pm:Value) (an:Option Addr) (cdv ct:Value) (us:List Value),us.length = ps.length -> bindArgs (PySem.W.fnOf x qual (zm st) (zk st) (zb st) .none kV doc pm an cdv ct) ⟨us,[]⟩ = pure (ps.zip us)):Binds K fd ps []:=by
 obtain ⟨oc,od,kV,doc,pm,an,cdv,ct,osl,rfl,lk,hcd⟩:=F.ex
 exact .all (h kV doc pm an cdv ct)
theorem zG {x qual:Str} {st:Stmt} {f:Addr} {oc:Value} {od an:Option Addr} {osl:Array (Option Value)} {kV doc pm cdv ct:Value} (l:K.lookup f = some ⟨oc,od,.func (PySem.W.fnOf x qual (zm st) (zk st) (zb st) .none kV doc pm an cdv ct),osl⟩)
  (c:PySem.W.codeIn K cdv qual = true) (k:PySem.W.keepIn K (.ref f) = true):Fun K x qual st f (PySem.W.fnOf x qual (zm st) (zk st) (zb st) .none kV doc pm an cdv ct):=⟨⟨oc,od,kV,doc,pm,an,cdv,ct,osl,rfl,l,c⟩,k⟩
end
section
variable {X:Cx}
theorem pv (i:Nat) {x:Str} {pos:Pos} (hN:X.N[i]? = some x:=by rfl) (hv:Vis X.env.scope x:=by first | exact Or.inl rfl | exact Or.inr (Or.inl rfl) | exact Or.inr (Or.inr rfl)) (hd:(x == ("__debug__" : Str)) = false:=by decide)
  (hcd:(x == ("__classdict__" : Str)) = false:=by decide):PE X (.Name x pos) (wG i):=Qf hN hv hd hcd
end
theorem JY {A B:Prop} (h:A):if true = true then A else B:=by
 rw [if_pos rfl]
 exact h
theorem yE {c A B:Prop} [Decidable c] (h1:c -> A) (h2:¬ c -> B):if c then A else B:=by
 by_cases h:c
 ·rw [if_pos h]
  exact h1 h
 ·rw [if_neg h]
  exact h2 h
def Same (H H':Hp):Prop:=∀ b o,H b = some o -> H' b = some o
theorem Same.refl (H:Hp):Same H H:=fun _ _ h=>h
theorem Same.trans {H H1 H2:Hp} (a:Same H H1) (b:Same H1 H2):Same H H2:=fun c o h=>b c o (a c o h)
theorem Same.free {H H':Hp} (e:Same H H') {l:Addr} (h:H' l = Option.none):H l = Option.none:=by
 cases q:H l with
 | none=>rfl
 | some o =>
  rw [e l o q] at h
  cases h
theorem Same.seq {K:PySem.W.Frag} {H H':Hp} {a:Addr} {xs:List V} (e:Same H H') (h:SqL K H a xs):SqL K H' a xs:=by
 rcases h with (h | ⟨o,h⟩) | h
 ·exact .inl (.inl (e _ _ h))
 ·exact .inl (.inr ⟨o,e _ _ h⟩)
 ·exact .inr h
end L2
namespace L3
open PySem PySem.Spec PyProof.Rows L2
abbrev St:=L2.St
abbrev cs (x:Str):List Nat:=x.cps.toList
abbrev tx (l:List Nat):Str:=⟨l.toArray⟩
theorem Qx (x:Str):tx (cs x) = x:=by cases x; rfl
theorem jF (l:List Nat):cs (tx l) = l:=rfl
theorem ZF (x:Str):x.length = (cs x).length:=by simp [Str.length,cs]
theorem zO (l:List Nat):(tx l).length = l.length:=by simp [Str.length,tx]
theorem jD {x y:Str} (h:cs x = cs y):x = y:=by rw [<- Qx x,<- Qx y,h]
theorem j4 {l m:List Nat} (h:tx l = tx m):l = m:=by rw [<- jF l,<- jF m,h]
theorem Q9 {l m:List Nat}:tx l = tx m ↔ l = m:=⟨j4,fun h=>by rw [h]⟩
theorem xG (l m:List Nat):tx l ++ tx m = tx (l ++ m):=by
 apply jD
 show (tx l ++ tx m).cps.toList = l ++ m
 rw [Str.cps_append]
 simp
def cut {α:Type} (l:List α) (lo hi:Option Int):List α:=(l.drop (HT.sIx l.length 0 lo)).take (HT.sIx l.length l.length hi - HT.sIx l.length 0 lo)
theorem yR {α:Type} (l:List α) (lo hi:Option Int):(cut l lo hi).length <= l.length:=by
 unfold cut
 rw [List.length_take,List.length_drop]
 omega
theorem Yw (a b:Nat):sliceRange (a:Int) (b:Int) 1 = (List.range (b - a)).map (fun k=>a + k):=by
 unfold sliceRange
 have e:(if (1:Int) > 0 then (if (a:Int) < b then ((b:Int) - a + 1 - 1) / 1 else 0) else (if (a:Int) > b then ((a:Int) - b - 1 - 1) / (-1) else 0)).toNat = b - a:=by
  rw [if_pos (by decide)]
  by_cases h:(a:Int) < b
  ·rw [if_pos h,Int.ediv_one]; omega
  ·rw [if_neg h]; omega
 show (List.range ((if (1:Int) > 0 then (if (a:Int) < b then ((b:Int) - a + 1 - 1) / 1 else 0) else (if (a:Int) > b then ((a:Int) - b - 1 - 1) / (-1) else 0)).toNat)).map _ = _
 rw [e]
 refine List.map_congr_left fun k _=>?_
 omega
theorem V0 (lo hi:Option Int) (n:Nat):Builtin.Str.strSliceIndices lo hi 1 n = (List.range (HT.sIx n n hi - HT.sIx n 0 lo)).map (fun k=>HT.sIx n 0 lo + k):=by
 rw [<- Yw]
 have clip:∀ (v:Int) (d:Nat),max 0 (min (if v < 0 then v + (n:Int) else v) (n:Int)) = ((HT.sIx n d (some v):Nat):Int):=fun v d=>by
  show _ = (((if v < 0 then (v + (n:Int)).toNat else min v.toNat n):Nat):Int)
  by_cases hv:v < 0
  ·simp only [if_pos hv]; omega
  ·simp only [if_neg hv]; omega
 have h1:((1:Int) > 0) = True:=by simp
 unfold Builtin.Str.strSliceIndices
 cases lo with
 | none =>
  cases hi with
  | none=>simp only [h1,if_true]; rfl
  | some j=>simp only [h1,if_true,clip j n]; rfl
 | some i =>
  cases hi with
  | none=>simp only [h1,if_true,clip i 0]; rfl
  | some j=>simp only [h1,if_true,clip i 0,clip j n]
theorem YN (x:Str) (lo hi:Option Int):Txt.slice x lo hi = tx (cut (cs x) lo hi):=by
 have hn:x.length = x.cps.toList.length:=ZF x
 have hj:HT.sIx x.length x.length hi <= x.length:=HT.sIx_le _ _ (Nat.le_refl _) hi
 have hi0:HT.sIx x.length 0 lo <= x.length:=HT.sIx_le _ _ (Nat.zero_le _) lo
 unfold Txt.slice
 rw [V0]
 split
 ·rename_i h
  have h':HT.sIx x.length x.length hi - HT.sIx x.length 0 lo = x.length:=by simpa using h
  apply jD
  show x.cps.toList = cut x.cps.toList lo hi
  unfold cut
  rw [<- hn]
  by_cases z:x.length = 0
  ·have:x.cps.toList = []:=List.eq_nil_of_length_eq_zero (by omega)
   rw [this]; simp
  ·have e0:HT.sIx x.length 0 lo = 0:=by omega
   rw [e0] at h' ⊢
   rw [h',List.drop_zero,hn,List.take_length]
 ·apply jD
  have h:=StrLaws.picks x.cps.toList (HT.sIx x.length x.length hi - HT.sIx x.length 0 lo) (HT.sIx x.length 0 lo) (by omega)
  show (List.filterMap (fun k=>x.cps[k]?) _).toArray.toList = cut x.cps.toList lo hi
  unfold cut
  rw [<- hn]
  simpa using h
section
variable {X:Cx}
theorem Yy {v:Value} {o:Option Int} (p:IsPart v o):∃ l:Option (Int × Tok),v = partValue l /\ l.map (·.1) = o:=by
 cases p with
 | none=>exact ⟨none,rfl,rfl⟩
 | int i t=>exact ⟨some (i,t),rfl,rfl⟩
def JH:V -> Option Int -> Option Int -> Hp -> VK -> Prop:=fun x lo hi H Q=>∃ z,x = .str z /\ z.length <= sizeLine /\ Q (.str (tx (cut (cs z) lo hi))) H
theorem xv:SlR X JH:=by
 intro pins s σ H x v vl vu lo hi sl Q I rx hs pl pu h
 obtain ⟨z,rfl,hz,q⟩:=h
 obtain ⟨t,rfl⟩:=rx
 obtain ⟨l,rfl,el⟩:=Yy pl
 obtain ⟨u,rfl,eu⟩:=Yy pu
 refine ⟨"str",_,slot_str_getitem.lookup,typeIs_str s z t,?_⟩
 refine wpAny_getItem_str_slice (l:=l) (u:=u) (st:=none) hs rfl ?_
 have e:Txt.slice z lo hi = tx (cut (cs z) lo hi):=YN z lo hi
 have hl:(tx (cut (cs z) lo hi)).length <= sizeLine:=by rw [zO]; have:=yR (cs z) lo hi; rw [<- ZF] at this; omega
 unfold sliceMade slicePicked
 rw [el,eu]
 unfold Txt.slice at e
 by_cases hc:((1:Int) == 1 && (Builtin.Str.strSliceIndices lo hi 1 z.length).length == z.length) = true
 ·rw [if_pos hc] at e
  have hc':(((none:Option (Int × Tok)).map (·.1)).getD 1 == 1 && (Builtin.Str.strSliceIndices lo hi (((none:Option (Int × Tok)).map (·.1)).getD 1) z.length).length == z.length) = true:=hc
  rw [if_pos hc']
  exact ⟨.str (tx (cut (cs z) lo hi)),H,I,⟨t,by rw [<- e]⟩,q⟩
 ·rw [if_neg hc] at e
  have hc':¬ (((none:Option (Int × Tok)).map (·.1)).getD 1 == 1 && (Builtin.Str.strSliceIndices lo hi (((none:Option (Int × Tok)).map (·.1)).getD 1) z.length).length == z.length) = true:=hc
  rw [if_neg hc']
  show (Str.mk ((Builtin.Str.strSliceIndices lo hi 1 z.length).filterMap (z.cps[·]?)).toArray).length <= sizeLine /\ _
  rw [e]
  refine ⟨hl,?_⟩
  exact ⟨.str (tx (cut (cs z) lo hi)),H,I.tok _,⟨_,by
   show Value.str (Str.mk ((Builtin.Str.strSliceIndices lo hi 1 z.length).filterMap (z.cps[·]?)).toArray) _ = _
   rw [e]⟩,q⟩
theorem Zz (l:List Nat):∀ (k:Nat) (acc:Array Nat),((List.replicate k l.toArray).foldl (· ++ ·) acc).toList = acc.toList ++ (List.replicate k l).flatten
 | 0,acc=>by simp
 | k + 1,acc=>by
  rw [List.replicate_succ,List.foldl_cons,Zz l k,List.replicate_succ,List.flatten_cons]
  simp
theorem Z0:OpR X (binaryOp .Mult) (fun x y H Q=>∃ z n,x = .str z /\ y = .int n /\ 0 <= n /\ n <= 1000 /\ z.length <= 1000 /\ Q (.str (tx (List.replicate n.toNat (cs z)).flatten)) H):=by
 intro pins s σ H x y v u Q I rx ry h
 obtain ⟨z,n,rfl,rfl,h0,h1,hz,q⟩:=h
 obtain ⟨t,rfl⟩:=rx
 obtain ⟨t',rfl⟩:=ry
 have hs:sizeLine = 16777216:=sizeLine_eq
 have hmul:z.length * n.toNat <= 1000 * 1000:=Nat.mul_le_mul hz (by omega)
 have fl:((List.replicate n.toNat (cs z)).flatten).length = n.toNat * z.length:=by rw [L2.len_rep,<- ZF]
 refine PySem.P.mul_str ?_ (fun _ _=>?_) (fun _ _=>?_) ?_
 ·rw [decide_eq_false (by omega),decide_eq_false (by omega)]; rfl
 ·have:(1000:Int) <= (2 ^ 63 - 1) / n:=by
   apply Int.le_ediv_of_mul_le (by omega)
   omega
  omega
 ·unfold Builtin.Str.tooLong
  exact decide_eq_false (by omega)
 ·by_cases c1:n < 1
  ·rw [if_pos c1]
   have e:n.toNat = 0:=by omega
   rw [e] at q
   exact ⟨by decide,.str (tx []),H,I.tok _,⟨_,rfl⟩,q⟩
  ·rw [if_neg c1]
   by_cases c2:(n == 1 || z.length == 0) = true
   ·rw [if_pos c2]
    have e:tx (List.replicate n.toNat (cs z)).flatten = z:=by
     rw [Bool.or_eq_true] at c2
     rcases c2 with c | c
     ·have:n.toNat = 1:=by have:=eq_of_beq c; omega
      rw [this]
      simp only [List.replicate_one,List.flatten_singleton]
     ·have c0:z.length = 0:=eq_of_beq c
      have:cs z = []:=List.eq_nil_of_length_eq_zero (by rw [<- ZF]; exact c0)
      apply jD
      rw [this]
      show (List.replicate n.toNat ([]:List Nat)).flatten = []
      simp only [List.flatten_replicate_nil]
    rw [e] at q
    exact ⟨.str z,H,I,⟨_,rfl⟩,q⟩
   ·rw [if_neg c2]
    have e:(⟨(List.replicate n.toNat z.cps).foldl (· ++ ·) #[]⟩:Str) = tx (List.replicate n.toNat (cs z)).flatten:=by
     apply jD
     have:=Zz (cs z) n.toNat #[]
     have e2:(cs z).toArray = z.cps:=by cases z; rfl
     rw [e2] at this
     show (List.foldl (· ++ ·) #[] (List.replicate n.toNat z.cps)).toList = (List.replicate n.toNat (cs z)).flatten
     rw [this]
     rfl
    rw [e]
    refine ⟨by rw [zO,fl,Nat.mul_comm]; omega,.str _,H,I.tok _,⟨_,rfl⟩,q⟩
theorem XB:OpR X (compareOp .LtE) (fun x y H Q=>∃ i j,x = .str i /\ y = .str j /\ Q (.bl (!(decide (cs j < cs i)))) H):=by
 intro pins s σ H x y v u Q I rx ry h
 obtain ⟨i,j,rfl,rfl,q⟩:=h
 obtain ⟨t,rfl⟩:=rx
 obtain ⟨t',rfl⟩:=ry
 exact PySem.P.le_str ⟨.bl _,H,I,rfl,q⟩
theorem op_lt_str':OpR X (compareOp .Lt) (fun x y H Q=>∃ i j,x = .str i /\ y = .str j /\ Q (.bl (decide (cs i < cs j))) H):=Xz
theorem W0:MtR X "str.count" (fun x xs H Q=>∃ z y,x = .str z /\ xs = [.str y] /\ Q (.int (Txt.count z y)) H):=by
 intro pins s σ H x xs v us Q I rx rv h
 obtain ⟨z,y,rfl,rfl,q⟩:=h
 obtain ⟨t,rfl⟩:=rx
 obtain ⟨u,rfl,t',rfl⟩:=vn rv
 exact PySem.SC.count ⟨.int _,H,I.tok _,⟨_,rfl⟩,q⟩
theorem VA:MtR X "str.find" (fun x xs H Q=>∃ z y,x = .str z /\ xs = [.str y] /\ Q (.int (Txt.find z y)) H):=by
 intro pins s σ H x xs v us Q I rx rv h
 obtain ⟨z,y,rfl,rfl,q⟩:=h
 obtain ⟨t,rfl⟩:=rx
 obtain ⟨u,rfl,t',rfl⟩:=vn rv
 exact PySem.SC.find ⟨.int _,H,I.tok _,⟨_,rfl⟩,q⟩
end
end L3
namespace L3
open PySem PySem.Spec PyProof.Rows L2
section
variable {X:Cx} {pins:List (Addr × Obj)} {σ:St} {H:Hp} {s:Shared} {fp:List Addr} {h':Heap} {t':Nat}
theorem Inv.turns (I:Inv X pins σ H s) (k:∀ b o,b ∉ fp -> s.heap.get? b = some o -> h'.get? b = some o) (hf:∀ b ∈ fp,xM X pins H b):Inv X pins σ H { s with heap:=h',toks:=t' }:=by
 have nit:∀ b u,H b = some u -> b ∉ fp:=fun b u e z=>by rw [(hf b z).1] at e; cases e
 refine I.step (g':=s.gens) (d':=s.drawn) (ch:=fp) (fun b hb=>?_) (fun b o _ _ hc e _=>k b o hc e) (fun b o _ _ hc e _=>⟨o.slots,k b o hc e⟩) (fun _ _ _ _ n=>n)
  (fun b o hc e=>⟨o,k b o hc e⟩) (fun _ _ e=>e) (fun _ _ _ e=>e) (fun b ps e=>⟨#[],by rw [e]; simp⟩) (fun m hm=>?_) (fun b u e=>?_) I.bare
 ·obtain ⟨_,a1,_,a3,a4,a5⟩:=hf b hb
  exact ⟨a3,a1,a4,a5⟩
 ·obtain ⟨o,es,ep,ho,r⟩:=hm
  exact ⟨o,es,ep,k _ o (fun z=>(hf _ z).2.1 rfl) ho,r⟩
 ·refine (I.hok b u e).stay (fun c v hc q=>k c v ?_ q) (fun _ q=>q) fun _ _ q=>q
  rcases hc with z | z
  ·rw [z]; exact nit b u e
  ·exact nit c _ z
theorem Inv.track {a:Addr} {o:HO} (I:Inv X pins σ H s) (fa:xM X pins H a) (new:ObjOk X.prog X.w (upd H a o) s.heap a o):Inv X pins σ (upd H a o) s:=by
 obtain ⟨a0,a1,a2,a3,a4,a5⟩:=fa
 have e:s = { s with heap:=s.heap,gens:=s.gens,drawn:=s.drawn,toks:=s.toks }:=rfl
 rw [e]
 refine I.step (g':=s.gens) (d':=s.drawn) (ch:=[a]) (fun b hb=>?_) (fun b o _ _ _ e _=>e) (fun b o _ _ _ e _=>⟨o.slots,e⟩) (fun b o hc _ n=>?_)
  (fun b o _ e=>⟨o,e⟩) (fun b xs e=>?_) (fun b u xs e=>?_) (fun b ps e=>?_) (fun m hm=>hm) (fun b u e=>?_) I.bare
 ·have eb:b = a:=by simpa using hb
  subst eb
  exact ⟨a3,a1,a4,a5⟩
 ·rw [zo (by simpa using hc)]; exact n
 ·rw [zo (zz e a0)]; exact e
 ·rw [zo (zz e a0)]; exact e
 ·exact ⟨#[],by rw [zo (zz e a0),e]; simp⟩
 ·by_cases hb:b = a
  ·subst hb; rw [ze] at e; cases e; exact new
  ·rw [zo hb] at e
   exact (I.hok b u e).stay (fun c v _ q=>q) (fun c q=>by rw [zo (zz q a0)]; exact q) fun c xs q=>by rw [zo (zz q a0)]; exact q
end
def Its (x:Str):It:=⟨fun i _=>i < (cs x).length,fun i H v H'=>H' = H /\ ∃ c,(cs x)[i]? = some c /\ v = .str (tx [c]),fun i _=>i = (cs x).length⟩
theorem WS {P:Program} {w:World} {K:PySem.W.Frag} {tg:Expr} {ty:String} (hty:["enumerate", "zip", "dict_itemiterator", "dict_reverseitemiterator", "odict_iterator", "itertools.zip_longest", "itertools.pairwise"].contains ty = false) (it:Addr) (x:Str) (t:Tok)
  (W:∀ A:Around,A.handled = none -> Walks P w A it [it] [it] x.cps.size (SignAt x) fun i h=>h.IsStrIter it ty x t i)
  (S:∀ (A:Around) (i:Nat) (s:Shared) (Q:Value -> Shared -> Prop) (E:Value -> Shared -> Prop),s.heap.IsStrIter it ty x t i -> Q (.ref it) s -> wpAny (model P w) A (pyIter (.ref it)) Q E s) :
  W2 P w K tg (Its x) [it] it (fun i h=>h.IsStrIter it ty x t i) where
 mem:=by simp
 obj:=fun i h st b hb=>by
  have e:b = it:=by simpa using hb
  subst e
  obtain ⟨o,e,c,d⟩:=st
  exact ⟨o,e,fun v z=>by rw [d] at z; cases z⟩
 keep:=fun i h h' st k=>let ⟨o,e,r⟩:=st; ⟨o,k it (by simp) o e,r⟩
 item:=by
  intro X hP hw hK hc i pins s σ H E I hf st hg
  subst hP hw hK
  obtain ⟨f0,f1,f2,f3,f4,f5⟩:=hf it (by simp)
  have hg':i < x.cps.size:=by have:i < x.cps.toList.length:=hg; simpa using this
  refine (W X.A (I.ok.hd hc)).item i s _ _ hg' st fun v h' tk hv st' kk=>?_
  obtain ⟨c,u,hcc,rfl⟩:=hv
  have I1:Inv X pins σ H { s with heap:=h',toks:=tk }:=I.turned (fun b o hb e=>kk b o (by simpa using hb) e) f0 f1 f3 f4 f5
  obtain ⟨o,e,cl,d⟩:=id st'
  refine ⟨_,rfl,Wg (s:={ s with heap:=h',toks:=tk }) e cl d hty ⟨.str (tx [c]),H,I1,⟨u,rfl⟩,⟨rfl,c,?_,rfl⟩,st',fun b hb=>(hf b hb).1⟩⟩
  show x.cps.toList[i]? = some c
  simpa using hcc
 done:=by
  intro X hP hw hK hc i pins s σ H E I hf st hg
  subst hP hw hK
  obtain ⟨f0,f1,f2,f3,f4,f5⟩:=hf it (by simp)
  have hi:i = x.cps.size:=by have:i = x.cps.toList.length:=hg; simpa using this
  rw [hi] at st
  exact (W X.A (I.ok.hd hc)).done s _ _ st fun h' tk kk=>⟨rfl,I.turned (fun b o hb e=>kk b o (by simpa using hb) e) f0 f1 f3 f4 f5⟩
 self:=fun A i s Q E st h=>S A i s Q E st h
section
variable {X:Cx} {tg:Expr}
def Q2 (tl:TE):TI:=fun σ H R=>tl σ H fun v H1=>∃ x,v = .str x /\ R (Its x) H1
theorem X5 {l:Expr} {tl:TE} (hl:PE X l tl):PI X tg l (Q2 tl):=by
 intro pins s σ H R I h
 refine thn (hl pins s σ H _ I h) fun v s1 ⟨y,H1,I1,r1,q1⟩=>?_
 obtain ⟨x,e,q⟩:=q1
 subst e
 obtain ⟨t,rfl⟩:=r1
 have fin:∀ (ty:String) (hty:["enumerate", "zip", "dict_itemiterator", "dict_reverseitemiterator", "odict_iterator", "itertools.zip_longest", "itertools.pairwise"].contains ty = false)
   (W:∀ A:Around,A.handled = none -> Walks X.prog X.w A s1.heap.objs.size [s1.heap.objs.size] [s1.heap.objs.size] x.cps.size (SignAt x) fun i h=>h.IsStrIter s1.heap.objs.size ty x t i)
   (S:∀ (A:Around) (i:Nat) (s:Shared) (Q:Value -> Shared -> Prop) (E:Value -> Shared -> Prop),s.heap.IsStrIter s1.heap.objs.size ty x t i -> Q (.ref s1.heap.objs.size) s -> wpAny (model X.prog X.w) A (pyIter (.ref s1.heap.objs.size)) Q E s),
   PIE X pins σ tg R (.ref s1.heap.objs.size) { s1 with heap:=s1.heap.push { cls:=.type ty,data:=.fields #[.str x t,.int 0 0] } }:=fun ty hty W S=>by
  refine ⟨s1.heap.objs.size,[s1.heap.objs.size],_,_,H1,rfl,I1.kept (t':=s1.toks) fun b o e=>Heap.get?_push_of_some _ e,WS hty _ x t W S,⟨_,Heap.get?_push_size _ rfl,rfl,rfl⟩,fun b hb=>?_,q⟩
  have e:b = s1.heap.objs.size:=by simpa using hb
  subst e
  exact I1.fpOk (Nat.le_refl _) (I1.hok.fresh (Nat.le_refl _))
 cases ha:x.cps.all (· < 128)
 ·exact wpAny_pyIter_wide ha (fin "str_iterator" (by decide) (fun A hA=>Walks.strWide hA _ x t) fun A i s Q E st h=>wpAny_pyIter_striter_wide st h)
 ·exact wpAny_pyIter_ascii ha (fin "str_ascii_iterator" (by decide) (fun A hA=>Walks.strAscii hA _ x t) fun A i s Q E st h=>wpAny_pyIter_striter_ascii st h)
end
theorem VT {x:Str} {g:TG} {tb:TS} {D:Ends} {σ:St} {H:Hp} (Pv:Nat -> St -> Hp -> Prop) (h0:Pv 0 σ H)
  (hs:∀ i c σ H,(cs x)[i]? = some c -> Pv i σ H -> g (.str (tx [c])) σ H fun σ2 H2=>tb { D with nx:=Pv (i + 1),ct:=Pv (i + 1),bk:=D.nx } σ2 H2) (hd:∀ σ H,Pv (cs x).length σ H -> D.nx σ H) :
  ∃ W:Nat -> Nat -> St -> Hp -> Prop,(∃ m,W 0 m σ H) /\ ∀ i m σ H,W i m σ H ->
   ((Its x).stop i H /\ D.nx σ H) \/ ((Its x).go i H /\ ∃ N:St -> Hp -> Prop,(∀ σ' H',N σ' H' -> ∃ m',m' < m /\ W (i + 1) m' σ' H') /\ ∀ v H',(Its x).yld i H v H' -> g v σ H' fun σ2 H2=>tb { D with nx:=N,ct:=N,bk:=D.nx } σ2 H2):=by
 refine ⟨fun i m σ H=>m = (cs x).length - i /\ i <= (cs x).length /\ Pv i σ H,⟨(cs x).length,by simp,Nat.zero_le _,h0⟩,?_⟩
 rintro i m σ H ⟨rfl,hi,p⟩
 by_cases hlt:i < (cs x).length
 ·refine .inr ⟨hlt,Pv (i + 1),fun σ' H' p'=>⟨(cs x).length - (i + 1),by omega,rfl,hlt,p'⟩,fun v H' y=>?_⟩
  obtain ⟨e,c,hc,ev⟩:=y
  subst e ev
  exact hs i c σ _ hc p
 ·have e:i = (cs x).length:=by omega
  subst e
  exact .inl ⟨rfl,hd σ H p⟩
def Ite (x:Str):It:=⟨fun i _=>i < (cs x).length,fun i H v H'=>∃ p c,H p = none /\ (cs x)[i]? = some c /\ v = .ref p /\ H' = upd H p (.tup [.int (i:Nat),.str (tx [c])]),fun i _=>i = (cs x).length⟩
section
variable {X:Cx}
def Jt (ta:TA):TI:=fun σ H R=>ta σ H fun vs H1=>∃ x,vs = [.str x] /\ R (Ite x) H1
end
end L3
namespace L3
open PySem PySem.Spec PyProof.Rows L2
theorem vF {env:Env}:∀ (names:List (Str × NameKind)) (acc:List (Str × Addr)),
    (∀ y,(y,NameKind.free) ∈ names -> ∃ c,env.cells.lookup y = some c) -> (∀ y c,acc.lookup y = some c -> env.cells.lookup y = some c) ->
    ∃ cl,(forIn names acc fun (x:Str × NameKind) (cs:List (Str × Addr))=>if (x.2 == NameKind.free) = true then (do let a <- cellOf env x.1; pure (ForInStep.yield ((x.1,a) :: cs))) else pure (ForInStep.yield cs):Sem (List (Str × Addr))) = pure cl /\
      (∀ y c,cl.lookup y = some c -> env.cells.lookup y = some c) /\ (∀ y,(y,NameKind.free) ∈ names \/ (acc.lookup y).isSome = true -> ∃ c,cl.lookup y = some c)
  | [],acc,_,ha=>⟨acc,rfl,ha,fun y h=>by
      rcases h with h | h
      · cases h
      · exact Option.isSome_iff_exists.mp h⟩
  | (n,k) :: r,acc,hn,ha=>by
    by_cases hk:k = NameKind.free
    · subst hk
      obtain ⟨c,hc⟩:=hn n (by simp)
      have ha':∀ y d,((n,c) :: acc).lookup y = some d -> env.cells.lookup y = some d:=fun y d e=>by
        rw [List.lookup_cons] at e
        by_cases hy:(y == n) = true
        · rw [hy] at e
          have:y = n:=eq_of_beq hy
          subst this
          cases e
          exact hc
        · have hy':(y == n) = false:=by simpa using hy
          rw [hy'] at e
          exact ha y d e
      obtain ⟨cl,e,h1,h2⟩:=vF r ((n,c) :: acc) (fun y hy=>hn y (List.mem_cons_of_mem _ hy)) ha'
      refine ⟨cl,?_,h1,fun y hy=>h2 y ?_⟩
      · rw [List.forIn_cons]
        have ec:cellOf env n = pure c:=by unfold cellOf; rw [hc]
        simp only [beq_self_eq_true,if_true,ec,pure_bind]
        exact e
      · rcases hy with hy | hy
        · rcases List.mem_cons.mp hy with q | q
          · cases q
            exact .inr (by simp)
          · exact .inl q
        · refine .inr ?_
          rw [List.lookup_cons]
          by_cases hyn:(y == n) = true
          · rw [hyn]; rfl
          · have hy':(y == n) = false:=by simpa using hyn
            rw [hy']; exact hy
    · obtain ⟨cl,e,h1,h2⟩:=vF r acc (fun y hy=>hn y (List.mem_cons_of_mem _ hy)) ha
      refine ⟨cl,?_,h1,fun y hy=>h2 y ?_⟩
      · rw [List.forIn_cons]
        have ek:(k == NameKind.free) = false:=by simpa using hk
        simp only [ek,Bool.false_eq_true,if_false,pure_bind]
        exact e
      · rcases hy with hy | hy
        · rcases List.mem_cons.mp hy with q | q
          · cases q; exact absurd rfl hk
          · exact .inl q
        · exact .inr hy
theorem xO {scope:Scope} {env:Env} (hn:∀ y,(y,NameKind.free) ∈ scope.names -> ∃ c,env.cells.lookup y = some c) :
  ∃ cl,closureFor scope env = pure cl /\ (∀ y c,cl.lookup y = some c -> env.cells.lookup y = some c) /\ (∀ y,(y,NameKind.free) ∈ scope.names -> ∃ c,cl.lookup y = some c):=by
 obtain ⟨cl,e,h1,h2⟩:=vF scope.names [] hn (fun y c h=>by cases h)
 refine ⟨cl,?_,h1,fun y hy=>h2 y (.inl hy)⟩
 unfold closureFor
 simp only [bind_pure]
 exact e
abbrev X1 (ifs:List Expr) (env:Env):Sem Bool :=
 forIn ifs true fun c r=>if r = true then (do let ok <- isTrue c env (eval c env); pure (ForInStep.yield ok)) else pure (ForInStep.yield r)
theorem j2 {prog:Program} {w:World} {A:Around} {R:Result -> Shared -> Prop} {s:Shared} {elt tg iter:Expr} {ifs:List Expr} {scope:Scope} {pos:Pos} {it acc:Value} {env:Env}
  (I:Nat -> Shared -> Prop) {EE:Value -> Shared -> Prop} (hEE:EE = notedBy (model prog w) A env fun e s'=>R (.error e) s')
  (turn:∀ n s,I n s -> wpAny (model prog w) A (pyNext it) (fun r s1=>match r with
   | none=>R (.ok .next) s1
   | some v=>wpAny (model prog w) A (letOwnedTupleGo tg it v) (fun _ s2=>wpAny (model prog w) A (assign tg env v) (fun _ s3 =>
     wpAny (model prog w) A (X1 ifs env) (fun ok s4=>if ok = true then
      wpAny (model prog w) A (eval elt env) (fun x s5=>wpAny (model prog w) A (call (.builtin "list.append") [acc,x]) (fun _ s6=>∃ m,m < n /\ I m s6) EE s5) EE s4
      else ∃ m,m < n /\ I m s4) EE s3) EE s2) EE s1) EE s) (n:Nat) (h:I n s) :
  codeAny (model prog w) A (.compLoop (.ListComp elt [⟨tg,iter,ifs,0⟩] scope pos) 0 it acc env) R s:=by
 subst hEE
 refine codeAny_loop rfl I (fun n s hI=>?_) n h
 show wpAny _ A ((compTurn (.ListComp elt [⟨tg,iter,ifs,0⟩] scope pos) 0 it acc env).onRaise (fun x=>do noteFrame x env; theTreesLotGoes x)) _ _ s
 refine wpAny_noted ?_
 rw [compTurn_list]
 refine wpAny_bind (wpAny_standAt (wpAny_bind (thn (turn n s hI) fun r s1 h1=>?_)))
 cases r with
 | none=>exact wpAny_pure h1
 | some v =>
  refine wpAny_bind (thn h1 fun _ s2 h2=>wpAny_bind (thn h2 fun _ s3 h3=>wpAny_bind (thn h3 fun ok s4 h4=>?_)))
  cases ok with
  | false=>exact wpAny_pure ⟨rfl,h4⟩
  | true=>exact wpAny_bind (wpAny_bind (thn h4 fun x s5 h5=>wpAny_bind (thn h5 fun _ s6 h6=>wpAny_pure (wpAny_pure ⟨rfl,h6⟩))))
def zY (X:Cx) (scope:Scope) (cl:List (Str × Addr)) (C:Addr) (N:List Str) (pins:List (Addr × Obj)) (s3:Shared) (H3:Hp) (fp:List Addr) (E:Value -> Shared -> Prop):Cx :=
 { X with N:=N,s₀:=s3,H₀:=H3,env:=compEnvC scope cl C X.env,outer:=X.stack,ex:=fp,fn:=fun _=>false,pn:=X.pn ++ pins,xe:=E }
def vj (σ:St) (own:Nat) (ix:List Nat):St:=List.replicate own none ++ ix.map fun i=>(σ[i]?).join
structure uP (X:Cx) (scope:Scope) (own caps:List Str) (ix:List Nat):Prop where
 kind:scope.kind = .function
 nocell:∀ y ∈ scope.names,y.2 ≠ .cell
 names:∀ y ∈ scope.names,y.2 = .local -> scope.names.lookup y.1 = some .local
 free:∀ y,(y,NameKind.free) ∈ scope.names -> X.env.kindOf y = some .cell
 hown:∀ y ∈ own,scope.names.lookup y = some .local
 hcaps:∀ y ∈ caps,scope.names.lookup y = some .free
 hix:ix.map (fun i=>X.N[i]?) = caps.map some
theorem xu {α β:Type} [BEq α] [LawfulBEq α] {l:List (α × β)} {a:α} {b:β} (h:l.lookup a = some b):(a,b) ∈ l:=by
 induction l with
 | nil=>cases h
 | cons p r ih =>
  obtain ⟨c,d⟩:=p
  rw [List.lookup_cons] at h
  by_cases e:(a == c) = true
  ·rw [e] at h
   cases h
   rw [eq_of_beq e]
   exact List.mem_cons_self
  ·have e':(a == c) = false:=by simpa using e
   rw [e'] at h
   exact List.mem_cons_of_mem _ (ih h)
theorem wJ {scope:Scope} {env:Env} (hf:env.scope.kind = .function):∀ {names:List (Str × NameKind)} {x:Str} {k:NameKind},names.lookup x = some k ->
    (names.map fun (n,k)=>if (k == NameKind.free && env.scope.kind == .function && env.kindOf n == some .cell) then (n,NameKind.cell) else (n,k)).lookup x = some (if (k == NameKind.free && env.scope.kind == .function && env.kindOf x == some .cell) = true then .cell else k)
  | [],_,_,h=>by simp at h
  | (n,k') :: r,x,k,h=>by
    have ih:=@wJ scope env hf r x k
    show List.lookup x ((if (k' == NameKind.free && env.scope.kind == .function && env.kindOf n == some .cell) = true then (n,NameKind.cell) else (n,k')) :: _) = _
    by_cases hx:(x == n) = true
    · have hxn:x = n:=eq_of_beq hx
      subst hxn
      rw [List.lookup_cons,hx] at h
      cases h
      by_cases c:(k' == NameKind.free && env.scope.kind == .function && env.kindOf x == some .cell) = true
      · rw [if_pos c,if_pos c,List.lookup_cons,hx]
      · rw [if_neg c,if_neg c,List.lookup_cons,hx]
    · have hx':(x == n) = false:=by simpa using hx
      rw [List.lookup_cons,hx'] at h
      by_cases c:(k' == NameKind.free && env.scope.kind == .function && env.kindOf n == some .cell) = true
      · rw [if_pos c,List.lookup_cons,hx']; exact ih h
      · rw [if_neg c,List.lookup_cons,hx']; exact ih h
theorem vH {scope:Scope} {env:Env}:∀ {names:List (Str × NameKind)} {x:Str},names.lookup x = none ->
    (names.map fun (n,k)=>if (k == NameKind.free && env.scope.kind == .function && env.kindOf n == some .cell) then (n,NameKind.cell) else (n,k)).lookup x = none
  | [],_,_=>rfl
  | (n,k') :: r,x,h=>by
    have ih:=@vH scope env r x
    show List.lookup x ((if (k' == NameKind.free && env.scope.kind == .function && env.kindOf n == some .cell) = true then (n,NameKind.cell) else (n,k')) :: _) = _
    by_cases hx:(x == n) = true
    · rw [List.lookup_cons,hx] at h; cases h
    · have hx':(x == n) = false:=by simpa using hx
      rw [List.lookup_cons,hx'] at h
      by_cases c:(k' == NameKind.free && env.scope.kind == .function && env.kindOf n == some .cell) = true
      · rw [if_pos c,List.lookup_cons,hx']; exact ih h
      · rw [if_neg c,List.lookup_cons,hx']; exact ih h
section
variable {X:Cx} {scope:Scope} {own caps:List Str} {ix:List Nat} {cl:List (Str × Addr)} {pins:List (Addr × Obj)} {σ:St} {H:Hp} {s:Shared} {fp:List Addr} {E:Value -> Shared -> Prop}
theorem qm (S:uP X scope own caps ix) (hcl1:∀ y c,cl.lookup y = some c -> X.env.cells.lookup y = some c) (hcl2:∀ y,(y,NameKind.free) ∈ scope.names -> ∃ c,cl.lookup y = some c)
  (I:Inv X pins σ H s) (hfp:∀ b ∈ fp,xM X pins H b) (hlt:∀ b ∈ fp,b < s.heap.objs.size) {h4:Heap} {t4:Nat} (hn:h4.Ns s.heap.objs.size fun _=>none) (hk:∀ b o,s.heap.get? b = some o -> h4.get? b = some o) :
  Inv (zY X scope cl s.heap.objs.size (own ++ caps) pins s H fp E) [] (vj σ own.length ix) H { s with heap:=h4,toks:=t4 }:=by
 have kf:X.env.scope.kind = .function:=I.ok.kind
 have nofp:∀ b ∈ fp,b ≠ s.heap.objs.size:=fun b hb=>Nat.ne_of_lt (hlt b hb)
 have cellLt:∀ x c,X.env.cells.lookup x = some c -> c < s.heap.objs.size:=fun x c e=>by
  obtain ⟨v,o,ho,_⟩:=I.cell x c e
  exact Heap.lt_size ho
 have kinds:∀ y k,scope.names.lookup y = some k -> (relabel scope X.env).names.lookup y = some (if (k == NameKind.free && X.env.scope.kind == .function && X.env.kindOf y == some .cell) = true then .cell else k):=fun y k e=>wJ (scope:=scope) kf e
 have back:∀ y k,(relabel scope X.env).names.lookup y = some k -> ∃ k',scope.names.lookup y = some k' /\ k = (if (k' == NameKind.free && X.env.scope.kind == .function && X.env.kindOf y == some .cell) = true then .cell else k'):=fun y k e=>by
  cases q:scope.names.lookup y with
  | none =>
   have:=vH (scope:=scope) (env:=X.env) q
   have e':(scope.names.map fun (n,k)=>if (k == NameKind.free && X.env.scope.kind == .function && X.env.kindOf n == some .cell) then (n,NameKind.cell) else (n,k)).lookup y = some k:=e
   rw [this] at e'; cases e'
  | some k' =>
   refine ⟨k',rfl,?_⟩
   have:=kinds y k' q
   rw [e] at this
   exact Option.some.inj this
 have isCell:∀ y,scope.names.lookup y = some .free -> (relabel scope X.env).names.lookup y = some .cell:=fun y e=>by
  have:=kinds y _ e
  rw [this,if_pos]
  rw [S.free y (xu e),kf]
  rfl
 refine ⟨⟨I.ok.mod,?_,I.ok.glob,I.ok.blt,Nat.le_refl _,?_,?_,?_,I.ok.hd,I.ok.frames,.inl rfl,?_,I.bs,Nat.le_trans I.ok.bsz I.sz,?_,?_,I.stack,I.stkFree⟩,rfl,I.bare,Un.kept hk,⟨_,hn,?_⟩,?_,?_,?_,?_,I.hok.kept hk,?_⟩
 ·show (relabel scope X.env).kind = .function
  exact S.kind
 ·intro x y c h1 h2
  exact I.ok.inj x y c (hcl1 x c h1) (hcl1 y c h2)
 ·intro y hy
  have hy':(relabel scope X.env).names.lookup y = some .cell \/ (relabel scope X.env).names.lookup y = some .free:=hy
  have:scope.names.lookup y = some .free:=by
   rcases hy' with q | q
   ·obtain ⟨k',e,ek⟩:=back y _ q
    by_cases c:(k' == NameKind.free && X.env.scope.kind == .function && X.env.kindOf y == some .cell) = true
    ·rw [Bool.and_eq_true,Bool.and_eq_true] at c
     rw [e,eq_of_beq c.1.1]
    ·rw [if_neg c] at ek
     exact absurd ek.symm (S.nocell _ (xu e))
   ·obtain ⟨k',e,ek⟩:=back y _ q
    by_cases c:(k' == NameKind.free && X.env.scope.kind == .function && X.env.kindOf y == some .cell) = true
    ·rw [if_pos c] at ek; cases ek
    ·rw [if_neg c] at ek
     rw [e,<- ek]
  exact hcl2 y (xu this)
 ·intro x c h _
  exact absurd h (by simp [zY])
 ·intro b hb
  refine ⟨nofp b hb,fun x c e=>?_⟩
  exact (hfp b hb).2.2.2.2.1 x c (hcl1 x c e)
 ·intro b o e hb
  obtain ⟨_,_,_,q,_⟩:=hfp b hb
  rcases q with q | q
  ·exact I.ok.noex b o e q
  ·exact absurd (Nat.lt_of_lt_of_le (Heap.lt_size e) (Nat.le_trans I.ok.bsz q)) (Nat.lt_irrefl _)
 ·intro b hb z
  rcases List.mem_cons.mp (I.stkSub b z) with e | e
  ·exact (hfp b hb).2.1 e
  ·exact (hfp b hb).2.2.1 e
 ·intro i y v h1 h2 h3
  have hi:own.length <= i:=by
   refine Nat.le_of_not_lt fun hlt'=>?_
   unfold vj at h2
   rw [List.getElem?_append_left (by rw [List.length_replicate]; exact hlt'),List.getElem?_replicate,if_pos hlt'] at h2
   cases h2
  have h1':caps[i - own.length]? = some y:=by
   have:(own ++ caps)[i]? = some y:=h1
   rw [List.getElem?_append_right hi] at this
   exact this
  have h2':(ix.map fun i=>(σ[i]?).join)[i - own.length]? = some (some v):=by
   unfold vj at h2
   rw [List.getElem?_append_right (by rw [List.length_replicate]; exact hi),List.length_replicate] at h2
   exact h2
  rw [List.getElem?_map] at h2'
  have hx:=congrArg (fun l=>l[i - own.length]?) S.hix
  simp only [List.getElem?_map,h1',Option.map_some] at hx
  cases q:ix[i - own.length]? with
  | none=>rw [q] at h2'; cases h2'
  | some j =>
   rw [q] at h2' hx
   have hj:X.N[j]? = some y:=Option.some.inj hx
   have hv:(σ[j]?).join = some v:=Option.some.inj h2'
   have hσ:σ[j]? = some (some v):=by
    cases r:σ[j]? with
    | none=>rw [r] at hv; cases hv
    | some z=>rw [r] at hv; cases z with
     | none=>cases hv
     | some z=>cases hv; rfl
   have hfree:scope.names.lookup y = some .free:=S.hcaps y (List.mem_of_getElem? h1')
   have hkc:=S.free y (xu hfree)
   obtain ⟨m,hm,hl⟩:=I.loc
   obtain ⟨u,ru,l⟩:=hl j y v hj hσ (.inr (.inl hkc))
   refine ⟨u,ru,.inr ⟨.inl (isCell y hfree),?_⟩⟩
   rcases l with ⟨k,_⟩ | ⟨_,c,e,z⟩
   ·have:X.env.kindOf y = some .local:=k
    rw [hkc] at this; cases this
   ·obtain ⟨c',e'⟩:=hcl2 y (xu hfree)
    have:=hcl1 y c' e'
    rw [e] at this
    cases this
    obtain ⟨o,ho,hd⟩:=z
    exact ⟨c,e',o,hk c o ho,hd⟩
 ·intro x c e
  obtain ⟨v,o,ho,hd⟩:=I.cell x c (hcl1 x c e)
  exact ⟨v,o,hk c o ho,hd⟩
 ·exact I.hok.fresh (Nat.le_refl _)
 ·intro x c e
  exact I.freeC x c (hcl1 x c e)
 ·intro p hp
  have hp':p ∈ X.pn ++ pins:=by
   have:p ∈ (X.pn ++ pins) ++ []:=hp
   rwa [List.append_nil] at this
  obtain ⟨e,n,ne,nf,d⟩:=I.pin p hp'
  refine ⟨hk _ _ e,n,?_,fun z=>?_,d⟩
  ·exact Nat.ne_of_lt (Heap.lt_size e)
  ·rcases List.mem_cons.mp (I.stkSub p.1 z) with q | q
   ·exact ne q
   ·exact nf q
 ·show (vj σ own.length ix).length = (own ++ caps).length
  have:=congrArg List.length S.hix
  rw [List.length_map,List.length_map] at this
  unfold vj
  rw [List.length_append,List.length_replicate,List.length_map,List.length_append,this]
end
end L3
namespace L3
open PySem PySem.Spec PyProof.Rows L2
def xf (σ σ':St):Prop:=σ.length = σ'.length /\ ∀ (i:Nat) v,σ[i]? = some (some v) -> σ'[i]? = some (some v)
def PTs (X:Cx) (ifs:List Expr) (t:TT):Prop :=
 ∀ (pins:List (Addr × Obj)) (s:Shared) (σ:St) (H:Hp) (Q:Bool -> Hp -> Prop),Inv X pins σ H s -> t σ H Q -> wpAny (model X.prog X.w) X.A (X1 ifs X.env) (TP X pins σ Q) X.xe s
def qF:TT:=fun _ H Q=>Q true H
theorem wT {X:Cx}:PTs X [] qF:=fun _ _ _ H _ I h=>wpAny_pure ⟨H,I,h⟩
theorem Yt {X:Cx} {c:Expr} {t:TT} (h:PT X c t):PTs X [c] t:=fun pins s σ H Q I hq=>by
 show wpAny _ _ (forIn [c] true _) _ _ s
 simp only [List.forIn_cons,List.forIn_nil,if_true]
 exact wpAny_bind (wpAny_bind (thn (h pins s σ H Q I hq) fun b s' hb=>wpAny_pure (wpAny_pure hb)))
def qz (wi:TI) (g:TG) (tt:TT) (te:TE) (own:Nat) (ix:List Nat):TE:=fun σ H Q=>wi σ H fun J H1=>∀ D,H1 D = none -> ∃ W:Nat -> Nat -> List V -> Hp -> Prop,(∃ m,W 0 m [] (upd H1 D (.lst []))) /\
 ∀ i m acc H',W i m acc H' -> (J.stop i H' /\ Q (.ref D) H') \/ (J.go i H' /\ ∀ x H2,J.yld i H' x H2 -> g x (vj σ own ix) H2 fun σ3 H3=>xf (vj σ own ix) σ3 /\ tt σ3 H3 fun b H4=>if b = true then
  te σ3 H4 fun v H5=>H5 D = some (.lst acc) /\ acc.length < sizeLine /\ ∃ m',m' < m /\ W (i + 1) m' (acc ++ [v]) (upd H5 D (.lst (acc ++ [v])))
  else ∃ m',m' < m /\ W (i + 1) m' acc H4)
theorem HOk.but {P:Program} {w:World} {H:Hp} {h1 h2:Heap} {a:Addr} (ok:HOk P w H h1) (sb:Heap.SameBut a h1 h2) (ha:H a = none):HOk P w H h2:=fun b ob e=>by
 refine (ok b ob e).stay (fun c u hc q=>(sb.2 c ?_).trans q) (fun _ q=>q) fun _ _ q=>q
 rintro rfl
 rcases hc with rfl | hc
 ·rw [ha] at e; cases e
 ·rw [ha] at hc; cases hc
section
variable {X:Cx} {scope:Scope} {own caps:List Str} {ix:List Nat} {elt tg iter:Expr} {ifs:List Expr} {pos:Pos} {wi:TI} {g:TG} {tt:TT} {te:TE}
theorem qy (hc:X.calm = true) (S:uP X scope own caps ix)
  (hg:∀ cl C pins s3 H3 fp,PG (zY X scope cl C (own ++ caps) pins s3 H3 fp fun _ _=>False) tg g)
  (ht:∀ cl C pins s3 H3 fp,PTs (zY X scope cl C (own ++ caps) pins s3 H3 fp fun _ _=>False) ifs tt)
  (he:∀ cl C pins s3 H3 fp,PE (zY X scope cl C (own ++ caps) pins s3 H3 fp fun _ _=>False) elt te)
  {cl:List (Str × Addr)} (hc1:∀ y c,cl.lookup y = some c -> X.env.cells.lookup y = some c) (hc2:∀ y,(y,NameKind.free) ∈ scope.names -> ∃ c,cl.lookup y = some c)
  {pins:List (Addr × Obj)} {σ:St} {H2:Hp} {s2:Shared} {Q:VK} {it:Addr} {fp:List Addr} {tn:Nat -> Heap -> Prop} {J:It} (I2:Inv X pins σ H2 s2) (T:W2 X.prog X.w X.K tg J fp it tn) (st2:tn 0 s2.heap) (f2:∀ b ∈ fp,xM X pins H2 b)
  (q:∀ D,H2 D = none -> ∃ W:Nat -> Nat -> List V -> Hp -> Prop,(∃ m,W 0 m [] (upd H2 D (.lst []))) /\
   ∀ i m acc H',W i m acc H' -> (J.stop i H' /\ Q (.ref D) H') \/ (J.go i H' /\ ∀ x H2,J.yld i H' x H2 -> g x (vj σ own.length ix) H2 fun σ3 H3=>xf (vj σ own.length ix) σ3 /\ tt σ3 H3 fun b H4=>if b = true then
    te σ3 H4 fun v H5=>H5 D = some (.lst acc) /\ acc.length < sizeLine /\ ∃ m',m' < m /\ W (i + 1) m' (acc ++ [v]) (upd H5 D (.lst (acc ++ [v])))
    else ∃ m',m' < m /\ W (i + 1) m' acc H4))
  {RR:Value -> Addr -> Result -> Shared -> Prop} {E:Value -> Shared -> Prop}
  (hRR:∀ D C m s' H',H2 D = none -> s'.heap.Ns C m -> xM X pins H' C -> Inv X pins σ H' s' -> Q (.ref D) H' -> RR (.ref D) C (.ok .next) s') :
  wpAny (model X.prog X.w) X.A (newList []) (fun acc s3=>wpAny (model X.prog X.w) X.A (newFunctionEnv scope X.env.globals cl [] X.env.qual none .none (some X.env)) (fun cenv s4 =>
   codeAny (model X.prog X.w) X.A (.compStart (.ListComp elt [⟨tg,iter,ifs,0⟩] scope pos) 0 (.ref it) acc { cenv with scope:=relabel scope X.env }) (RR acc cenv.locals) s4) E s3) E s2:=by
 have hD:H2 s2.heap.objs.size = none:=I2.hok.fresh (Nat.le_refl _)
 obtain ⟨W,⟨m0,w0⟩,turn⟩:=q _ hD
 refine wpAny_newObj_type (wpAny_newFunctionEnv S.nocell (by intro y hy; simp at hy) (fun h1 hns1 hsb1=>?_) S.kind)
 dsimp only at hns1 hsb1 ⊢
 have I3:Inv X pins σ (upd H2 s2.heap.objs.size (.lst [])) { s2 with heap:=s2.heap.push { cls:=.type "list",dict:=none,data:=.seq ([]:List Value).toArray } } :=
  I2.lnew (its:=[]) (t':=s2.toks) .nil (Nat.zero_le _)
 generalize hs3:({ s2 with heap:=s2.heap.push { cls:=.type "list",dict:=none,data:=.seq ([]:List Value).toArray } }:Shared) = s3 at I3
 have e3:s2.heap.push { cls:=.type "list",dict:=none,data:=.seq ([]:List Value).toArray } = s3.heap:=by rw [<- hs3]
 rw [e3] at hns1 hsb1 ⊢
 have k1:∀ b o,s3.heap.get? b = some o -> h1.get? b = some o:=fun b o e=>(hsb1.2 b (Nat.ne_of_lt (Heap.lt_size e))).trans (Heap.get?_push_of_some _ e)
 have k23:∀ b o,s2.heap.get? b = some o -> s3.heap.get? b = some o:=fun b o e=>by rw [<- e3]; exact Heap.get?_push_of_some _ e
 have hz:s3.heap.objs.size = s2.heap.objs.size + 1:=by rw [<- e3,Heap.size_push]
 have fpObj:∀ b ∈ fp,∃ o,s2.heap.get? b = some o:=fun b hb=>let ⟨o,e,_⟩:=T.obj 0 _ st2 b hb; ⟨o,e⟩
 have fplt:∀ b ∈ fp,b < s2.heap.objs.size:=fun b hb=>let ⟨o,e⟩:=fpObj b hb; Heap.lt_size e
 have f3:∀ b ∈ fp,xM X pins (upd H2 s2.heap.objs.size (.lst [])) b:=fun b hb=>⟨by rw [zo (Nat.ne_of_lt (fplt b hb))]; exact (f2 b hb).1,(f2 b hb).2⟩
 have I4:Inv (zY X scope cl s3.heap.objs.size (own ++ caps) pins s3 (upd H2 s2.heap.objs.size (.lst [])) fp fun _ _=>False) [] (vj σ own.length ix) (upd H2 s2.heap.objs.size (.lst [])) { s3 with heap:=h1,toks:=s3.toks + ([]:List (Str × Value)).length } :=
  qm S hc1 hc2 I3 f3 (fun b hb=>by rw [hz]; exact Nat.lt_succ_of_lt (fplt b hb)) hns1 k1
 have st4:tn 0 h1:=T.keep 0 _ _ st2 fun b hb o e=>k1 b o (k23 b o e)
 generalize hs4:({ s3 with heap:=h1,toks:=s3.toks + ([]:List (Str × Value)).length }:Shared) = s4 at I4
 have es4:({ s2 with heap:=h1,toks:=s2.toks + ([]:List (Str × Value)).length }:Shared) = s4:=by rw [<- hs4,<- hs3]
 have e4:h1 = s4.heap:=by rw [<- hs4]
 have loop:codeAny (model X.prog X.w) X.A (.compLoop (.ListComp elt [⟨tg,iter,ifs,0⟩] scope pos) 0 (.ref it) (.ref s2.heap.objs.size) (compEnvC scope cl s3.heap.objs.size X.env)) (RR (.ref s2.heap.objs.size) s3.heap.objs.size) s4:=by
  let X':=zY X scope cl s3.heap.objs.size (own ++ caps) pins s3 (upd H2 s2.heap.objs.size (.lst [])) fp fun _ _=>False
  have fp':∀ {H':Hp},(∀ b ∈ fp,H' b = none) -> ∀ b ∈ fp,xM X' [] H' b:=fun {H'} hn b hb=>by
   obtain ⟨_,a1,a2,a3,a4,a5⟩:=f3 b hb
   refine ⟨hn b hb,Nat.ne_of_lt (show b < s3.heap.objs.size from by rw [hz]; exact Nat.lt_succ_of_lt (fplt b hb)),fun z=>?_,.inl hb,fun x c e=>a4 x c (hc1 x c e),fun p hp=>?_⟩
   ·rcases List.mem_cons.mp (I3.stkSub b z) with e | e
    ·exact a1 e
    ·exact a2 e
   ·have:p ∈ (X.pn ++ pins) ++ []:=hp
    rw [List.append_nil] at this
    exact a5 p this
  refine j2 (fun n s'=>∃ i acc H',Inv X' [] (vj σ own.length ix) H' s' /\ tn i s'.heap /\ (∀ b ∈ fp,H' b = none) /\ W i n acc H') rfl ?_ m0 ⟨0,[],_,I4,by rw [<- e4]; exact st4,fun b hb=>(f3 b hb).1,w0⟩
  rintro n s5 ⟨i,acc,H5,I5,st5,fr5,w5⟩
  refine wpAny_noRaise ?_
  rcases turn i n acc H5 w5 with ⟨stop,qn⟩ | ⟨go,step⟩
  ·refine thn (T.done X' rfl rfl rfl hc i [] s5 _ H5 _ I5 (fp' fr5) st5 stop) fun r s6 ⟨hr,I6⟩=>?_
   subst hr
   obtain ⟨m,hm,_⟩:=I6.loc
   refine hRR _ _ m s6 H5 hD hm (I3.fpOk (Nat.le_refl _) I6.free) (I3.call' (s':=s6) I6.os I6.base I6.hok I6.bare fun b hb=>?_) qn
   obtain ⟨_,a1,a2,a3,a4,a5⟩:=f3 b hb
   exact ⟨a3,a1,a4,a5⟩
  ·refine thn (T.item X' rfl rfl rfl hc i [] s5 _ H5 (fun _ _=>False) I5 (fp' fr5) st5 go) fun r s6 ⟨u,hr,h6⟩=>?_
   subst hr
   refine wpAny_noRaise (thn h6 fun _ s7 ⟨x,H7,I7,r7,y7,st7,fr7⟩=>?_)
   have I7':=I7.pinned (fp' fr7) (T.obj _ _ st7)
   refine wpAny_noRaise (thn (hg _ _ _ _ _ _ _ s7 _ H7 x u _ I7' r7 (step x H7 y7)) fun _ s8 ⟨σ8,H8,I8,ks,q8⟩=>?_)
   refine wpAny_noRaise (thn (ht _ _ _ _ _ _ _ s8 σ8 H8 _ I8 q8) fun b s9 ⟨H9,I9,q9⟩=>?_)
   have back:∀ {s':Shared} {H':Hp} {acc':List V} {m':Nat},Inv X' ([] ++ qi fp s7.heap) σ8 H' s' -> m' < n -> W (i + 1) m' acc' H' -> ∃ m,m < n /\ ∃ i acc H',Inv X' [] (vj σ own.length ix) H' s' /\ tn i s'.heap /\ (∀ b ∈ fp,H' b = none) /\ W i m acc H':=fun {s' H' acc' m'} J' hm w'=>by
    refine ⟨m',hm,i + 1,acc',H',(J'.unpinned).weak ks.1 ks.2,T.keep _ _ _ st7 fun b hb o e=>(J'.pin (b,o) (List.mem_append_right _ (List.mem_append_right _ (yV hb e)))).1,fun b hb=>?_,w'⟩
    obtain ⟨o,e,d⟩:=T.obj _ _ st7 b hb
    exact (J'.pin (b,o) (List.mem_append_right _ (List.mem_append_right _ (yV hb e)))).2.1
   cases b with
   | false =>
    rw [if_neg Bool.false_ne_true] at q9 ⊢
    obtain ⟨m',hm,w'⟩:=q9
    exact back I9 hm w'
   | true =>
    rw [if_pos rfl] at q9 ⊢
    refine wpAny_noRaise (thn (he _ _ _ _ _ _ _ s9 σ8 H9 _ I9 q9) fun v s10 ⟨y,H10,I10,r10,hD10,hsz,m',hm,w'⟩=>?_)
    refine wpAny_noRaise ?_
    have:=yk (X:=X') _ s10 σ8 H10 (.ref s2.heap.objs.size) [y] (.ref s2.heap.objs.size) [v] (fun _ H'=>H' = upd H10 s2.heap.objs.size (.lst (acc ++ [y]))) I10 rfl (.cons r10 .nil) ⟨_,acc,y,rfl,rfl,hD10,hsz,rfl⟩
    refine thn this fun _ s11 ⟨_,H11,I11,_,eH⟩=>?_
    subst eH
    exact back I11 hm w'
 have goal:codeAny (model X.prog X.w) X.A (.compStart (.ListComp elt [⟨tg,iter,ifs,0⟩] scope pos) 0 (.ref it) (.ref s2.heap.objs.size) (compEnvC scope cl s3.heap.objs.size X.env)) (RR (.ref s2.heap.objs.size) s3.heap.objs.size) s4 :=
  codeAny_compStart_list loop (T.self _ 0 s4 _ _ (by rw [<- e4]; exact st4) loop)
 rw [<- es4] at goal
 exact goal
theorem vm (hc:X.calm = true) (S:uP X scope own caps ix) (hi:PI X tg iter wi)
  (hg:∀ cl C pins s3 H3 fp,PG (zY X scope cl C (own ++ caps) pins s3 H3 fp fun _ _=>False) tg g)
  (ht:∀ cl C pins s3 H3 fp,PTs (zY X scope cl C (own ++ caps) pins s3 H3 fp fun _ _=>False) ifs tt)
  (he:∀ cl C pins s3 H3 fp,PE (zY X scope cl C (own ++ caps) pins s3 H3 fp fun _ _=>False) elt te)
  (hs:∀ x,foldedSetIterable iter X.env x = pure x:=by intro _; rfl) :
  PE X (.ListComp elt [⟨tg,iter,ifs,0⟩] scope pos) (qz wi g tt te own.length ix):=by
 intro pins s σ H Q I h
 obtain ⟨cl,hclos,hc1,hc2⟩:=xO (scope:=scope) (env:=X.env) fun y hy=>I.ok.has y (.inl (S.free y hy))
 rw [eval_ListComp]
 refine wpAny_comprehension_free (use:=none) rfl hs hclos S.kind S.names (thn (hi pins s σ H _ I h) fun v s1 h1=>thn h1 fun itv s2 h2=>?_)
 obtain ⟨it,fp,tn,J,H2,e,I2,T,st2,f2,q⟩:=h2
 subst e
 refine qy (RR:=fun acc C=>compPost (model X.prog X.w) X.A X.xe none (EP X pins σ Q) acc C) hc S hg ht he hc1 hc2 I2 T st2 f2 q ?_
 intro D C m s' H' _ hn fc I' qn
 obtain ⟨a0,a1,a2,a3,a4,a5⟩:=fc
 exact ⟨m,hn,fun h' sb=>⟨.ref D,H',I'.turned (t':=s'.toks) (fun b o hb e=>(sb.2 b hb).trans e) a0 a1 a3 a4 a5,rfl,qn⟩⟩
def Zc (i:Nat) (t:TE):TS:=fun D σ H=>t σ H fun x H1=>D.nx (σ.set i (some x)) H1
theorem uB {i:Nat} {y:Str} {py spos:Pos} (hN:X.N.Nodup) (hy:X.N[i]? = some y) (hly:Loc X.env.scope y) (hf:X.fn y = true \/ X.env.scope.names.lookup y = some .local) (hc:X.calm = true) (S:uP X scope own caps ix) (hi:PI X tg iter wi)
  (hg:∀ cl C pins s3 H3 fp,PG (zY X scope cl C (own ++ caps) pins s3 H3 fp fun _ _=>False) tg g)
  (ht:∀ cl C pins s3 H3 fp,PTs (zY X scope cl C (own ++ caps) pins s3 H3 fp fun _ _=>False) ifs tt)
  (he:∀ cl C pins s3 H3 fp,PE (zY X scope cl C (own ++ caps) pins s3 H3 fp fun _ _=>False) elt te)
  (hsw:swapsWith (.ListComp elt [⟨tg,iter,ifs,0⟩] scope pos) (some (.Name y py)) spos.line X.env = pure true:=by rfl)
  (hs:∀ x,foldedSetIterable iter X.env x = pure x:=by intro _; rfl) :
  PS X (.Assign [.Name y py] (.ListComp elt [⟨tg,iter,ifs,0⟩] scope pos) spos) (Zc i (qz wi g tt te own.length ix)):=by
 intro pins s σ H D I h
 obtain ⟨cl,hclos,hc1,hc2⟩:=xO (scope:=scope) (env:=X.env) fun y hy=>I.ok.has y (.inl (S.free y hy))
 rw [exec_Assign_Name_used _ _ _ _ hsw]
 refine wpAny_bind (wpAny_standAt (wpAny_bind ?_))
 show wpAny _ X.A (do let _ <- comprehension (.ListComp elt [⟨tg,iter,ifs,0⟩] scope pos) scope X.env _ (newList []) false (eval iter X.env) (some (assign (.Name y py) X.env))) _ _ s
 refine wpAny_bind (thn (wpAny_comprehension_free (use:=some (assign (.Name y py) X.env)) (Q:=fun _ s'=>SP X pins D .next s') rfl hs hclos S.kind S.names (thn (hi pins s σ H _ I h) fun v s1 h1=>thn h1 fun itv s2 h2=>?_)) fun _ s' hq=>wpAny_pure (wpAny_pure hq))
 obtain ⟨it,fp,tn,J,H2,e,I2,T,st2,f2,q⟩:=h2
 subst e
 refine qy (Q:=fun x H1=>D.nx (σ.set i (some x)) H1) (RR:=fun acc C=>compPost (model X.prog X.w) X.A X.xe (some (assign (.Name y py) X.env)) (fun _ s'=>SP X pins D .next s') acc C) hc S hg ht he hc1 hc2 I2 T st2 f2 q ?_
 intro D' C m s' H1 hD' hn fc I1 nx
 obtain ⟨a0,a1,a2,a3,a4,a5⟩:=fc
 show wpAny _ X.A (assign (.Name y py) X.env (.ref D')) _ _ s'
 refine wpAny_assign_Name (j3 I1 hN hy hly (v:=.ref D') rfl (fun s'' I2' ⟨a,sb,ha⟩=>?_) hf)
 have hCa:C ≠ a:=by
  rcases ha with e | e
  ·rw [e]; exact a1
  ·exact fun z=>a4 _ _ e z.symm
 refine ⟨m,hn.sameBut sb hCa,fun h' sb'=>⟨_,H1,I2'.turned (t':=s''.toks) (fun b o hb e=>(sb'.2 b hb).trans e) a0 a1 a3 a4 a5,nx⟩⟩
end
end L3
namespace L3
open PySem PySem.Spec PyProof.Rows L2
section
variable {X:Cx} {a b:Expr} {ta tb:TE} {pos:Pos}
def Qm:R2:=fun x y H Q=>(∃ i j,x = .int i /\ y = .int j /\ Q (.int (i + j)) H) \/ (∃ i j,x = .str i /\ y = .str j /\ i.length + j.length <= sizeLine /\ Q (.str (i ++ j)) H) \/ JI x y H Q
theorem zW:OpR X (binaryOp .Add) Qm:=op_add.or (op_add_str.or QB)
def Ur:R2:=fun x y H Q=>(∃ i j,x = .int i /\ y = .int j /\ CMul i j /\ Q (.int (i * j)) H) \/ ∃ z n,x = .str z /\ y = .int n /\ 0 <= n /\ n <= 1000 /\ z.length <= 1000 /\ Q (.str (tx (List.replicate n.toNat (cs z)).flatten)) H
theorem xh:OpR X (binaryOp .Mult) Ur:=op_mul.or Z0
def JJ:R2:=fun x y H Q=>(∃ i j,x = .int i /\ y = .int j /\ Q (.bl (decide (i < j))) H) \/ ∃ i j,x = .str i /\ y = .str j /\ Q (.bl (decide (cs i < cs j))) H
theorem Yk:OpR X (compareOp .Lt) JJ:=op_lt.or op_lt_str'
def JR:R2:=fun x y H Q=>(∃ i j,x = .int i /\ y = .int j /\ Q (.bl (decide (i <= j))) H) \/ ∃ i j,x = .str i /\ y = .str j /\ Q (.bl (!(decide (cs j < cs i)))) H
theorem vN:OpR X (compareOp .LtE) JR:=op_le.or XB
theorem YQ:OpR X (compareOp .Gt) (fun x y H Q=>∃ i j,x = .str i /\ y = .str j /\ Q (.bl (decide (cs j < cs i))) H):=by
 intro pins s σ H x y v u Q I rx ry h
 obtain ⟨i,j,rfl,rfl,q⟩:=h
 obtain ⟨t,rfl⟩:=rx
 obtain ⟨t',rfl⟩:=ry
 exact PySem.P.gt_str ⟨.bl _,H,I,rfl,q⟩
def JP:R2:=fun x y H Q=>(∃ i j,x = .int i /\ y = .int j /\ Q (.bl (decide (j < i))) H) \/ ∃ i j,x = .str i /\ y = .str j /\ Q (.bl (decide (cs j < cs i))) H
theorem Zt:OpR X (compareOp .Gt) JP:=op_gt.or YQ
def JV (K:PySem.W.Frag):V -> Option Int -> Option Int -> Hp -> VK -> Prop:=fun x lo hi H Q=>QQ K x lo hi H Q \/ JH x lo hi H Q
theorem Zu:SlR X (JV X.K):=sl_list.or xv
def cV:V -> Option Value
 | .ty n=>some (.type n)
 | .ref a=>some (.ref a)
 | _=>none
theorem WU:vR X (.builtin "isinstance") (fun xs H Q=>∃ x c u t b,xs = [x,c] /\ cV c = some u /\ Zn X.K H x t /\ PySem.W.kitOne X.K t u = some b /\ Q (.bl b) H):=by
 intro pins s σ H xs us Q I r h
 obtain ⟨x,c,u,t,b,rfl,hc,ty,e,q⟩:=h
 obtain ⟨v,w',rfl,rx,rc⟩:=Xl r
 have:w' = u:=by
  cases c with
  | ty n=>cases hc; exact rc
  | ref a=>cases hc; exact rc
  | _=>cases hc
 subst this
 exact Xr I rx ty e fun tk=>⟨.bl b,H,I.tok tk,rfl,q⟩
end
end L3
namespace L3
open PySem PySem.Spec PyProof.Rows L2
def Iel (K:PySem.W.Frag) (a:Addr):It:=⟨fun i H=>∃ xs x,SqL K H a xs /\ xs[i]? = some x,fun i H v H'=>∃ p x,H p = none /\ (∀ xs,SqL K H a xs -> xs[i]? = some x) /\ v = .ref p /\ H' = upd H p (.tup [.int (i:Nat),x]),fun i H=>∃ xs,SqL K H a xs /\ i = xs.length⟩
theorem Z7 {P:Program} {w:World} {K:PySem.W.Frag} {elts:List Expr} {x1:Nat} {tpos:Pos} (e it a:Addr) (hei:e ≠ it) :
  W2 P w K (.Tuple elts x1 tpos) (Iel K a) [e,it] e (fun i h=>(∃ old,IsEnum h e it i old) /\ h.IsListIter it a i) where
 mem:=by simp
 obj:=fun i h st b hb=>by
  obtain ⟨⟨old,he⟩,o,e2,c,d⟩:=st
  rcases List.mem_cons.mp hb with q | q
  ·subst q
   exact ⟨_,he,fun v z=>by have z':Data.fields _ = Data.cell v:=z; cases z'⟩
  ·have q':b = it:=by simpa using q
   subst q'
   exact ⟨o,e2,fun v z=>by rw [d] at z; cases z⟩
 keep:=fun i h h' st k=>by
  obtain ⟨⟨old,he⟩,st⟩:=st
  exact ⟨⟨old,k e (by simp) _ he⟩,st.at fun o q=>k it (by simp) o q⟩
 item:=by
  intro X hP hw hK hc i pins s σ H E I hf st hg
  subst hP hw hK
  obtain ⟨⟨old,he⟩,st⟩:=st
  obtain ⟨xs,x,hq,hx⟩:=hg
  obtain ⟨its,rv,p,hz⟩:=I.list hq
  obtain ⟨u,hu,ru⟩:=rv.get hx
  have hA:X.A.in1.handled = none:=I.ok.hd hc
  have pl:=p.isList
  have hai:a ≠ it:=fun z=>by
   subst z
   obtain ⟨o1,q1,c1,_⟩:=st
   obtain ⟨o2,q2,c2,_⟩:=pl
   rw [q1] at q2; cases q2
   rw [c1] at c2
   exact absurd (Value.type.inj c2) (by decide)
  have hea:e ≠ a:=fun z=>by
   subst z
   obtain ⟨o2,q2,c2,_⟩:=pl
   rw [he] at q2; cases q2
   exact absurd (Value.type.inj c2) (by decide)
  refine wpAny_pyNext_enum_itemD (Draws.list (A:=X.A.in1) hA it a hai its.toArray) he ⟨st,pl⟩ (by rw [List.size_toArray]; exact (List.getElem?_eq_some_iff.mp hu).1) hei (by simp [hei,hea]) fun v h' tk hv ho st' hT hsz kk=>?_
  have ev:v = u:=by
   have hv':its.toArray[i]? = some v:=hv
   rw [List.getElem?_toArray,hu] at hv'
   exact (Option.some.inj hv').symm
  subst ev
  refine ⟨_,rfl,wpAny_letOwnedTupleGo_enum ho fun h2 he2 sb=>?_⟩
  have elt:e < s.heap.objs.size:=Heap.lt_size he
  have ilt:it < s.heap.objs.size:=by obtain ⟨o,q,_⟩:=st; exact Heap.lt_size q
  have I1:Inv X pins σ H { s with heap:=h2,toks:=tk + 1 }:=Inv.turns (fp:=[e,it]) I (fun b o hb q=>by
   have hb':b ≠ e /\ b ≠ it:=by simpa using hb
   exact (sb.2 b hb'.1).trans (kk b o hb'.1 hb'.2 q)) hf
  have hp:H s.heap.objs.size = none:=I.hok.fresh (Nat.le_refl _)
  have hT2:h2.get? s.heap.objs.size = some { cls:=.type "tuple",data:=.seq #[.int (i:Nat) tk,v] }:=(sb.2 _ (Nat.ne_of_gt elt)).trans hT
  have I2:Inv X pins σ (upd H s.heap.objs.size (.tup [.int (i:Nat),x])) { s with heap:=h2,toks:=tk + 1 } :=
   Inv.track I1 (I.fpOk (Nat.le_refl _) hp) ⟨by show 2 <= sizeLine; decide,[.int (i:Nat) tk,v],.cons ⟨_,rfl⟩ (.cons ru .nil),⟨_,hT2,rfl,_,rfl⟩⟩
  refine ⟨.ref s.heap.objs.size,_,I2,rfl,⟨s.heap.objs.size,x,hp,fun ys hy=>by rw [I.list_inj hy hq]; exact hx,rfl,rfl⟩,⟨⟨_,by simpa using he2⟩,?_⟩,fun b hb=>?_⟩
  ·exact st'.1.at fun o q=>(sb.2 it (Ne.symm hei)).trans q
  ·rw [zo]
   ·exact (hf b hb).1
   ·rcases List.mem_cons.mp hb with q | q
    ·rw [q]; exact Nat.ne_of_lt elt
    ·have q':b = it:=by simpa using q
     rw [q']; exact Nat.ne_of_lt ilt
 done:=by
  intro X hP hw hK hc i pins s σ H E I hf st hg
  subst hP hw hK
  obtain ⟨⟨old,he⟩,st⟩:=st
  obtain ⟨xs,hq,hi⟩:=hg
  obtain ⟨its,rv,p,hz⟩:=I.list hq
  have pl:=p.isList
  have hai:a ≠ it:=fun z=>by
   subst z
   obtain ⟨o1,q1,c1,_⟩:=st
   obtain ⟨o2,q2,c2,_⟩:=pl
   rw [q1] at q2; cases q2
   rw [c1] at c2
   exact absurd (Value.type.inj c2) (by decide)
  have hA:X.A.in1.handled = none:=I.ok.hd hc
  have hi':i = its.toArray.size:=by rw [List.size_toArray,<- rv.length]; exact hi
  subst hi'
  refine wpAny_pyNext_enum_endD (Draws.list (A:=X.A.in1) hA it a hai its.toArray) he ⟨st,pl⟩ fun h' hx=>⟨rfl,?_⟩
  exact Inv.turns (fp:=[e,it]) (t':=s.toks) I (fun b o hb q=>hx b o (fun z=>hb (by simp [z])) q) hf
 self:=fun A i s Q E st h=>by
  obtain ⟨⟨old,he⟩,_⟩:=st
  exact wpAny_pyIter_enum he h
section
variable {X:Cx}
def Vv (K:PySem.W.Frag) (ta:TA):TI:=fun σ H R=>ta σ H fun vs H1=>∃ a,vs = [.ref a] /\ (∃ xs,SqL K H1 a xs) /\ R (Iel K a) H1
theorem uc {a:Expr} {ta:TA} {p pos tpos:Pos} {elts:List Expr} {x1:Nat} (hg:Gl X "enumerate") (hm:X.mg "enumerate" = none) (ha:PA X [a] ta) (hs:starEach [a] X.env = [(false,eval a X.env)]:=by rfl) :
  PI X (.Tuple elts x1 tpos) (.Call (.Name "enumerate" p) [a] [] pos) (Vv X.K ta):=by
 intro pins s σ H R I h
 refine Call_ (vK I hg hm PyProof.Rows.boot_enumerate (PyProof.Rows.callWith_type1 (thn (ha pos pins s σ H _ I h) fun us s1 ⟨vs,H1,I1,r1,q1⟩=>?_) hs rfl))
 obtain ⟨l,e,⟨xs,hq⟩,q⟩:=q1
 subst e
 obtain ⟨u,rfl,ru⟩:=vn r1
 cases ru
 obtain ⟨its,rv,pl,hz⟩:=I1.list hq
 refine call_enumerate_list pl.isList fun h' he hit hsz kk=>?_
 have I2:Inv X pins σ H1 { s1 with heap:=h' }:=I1.kept (t':=s1.toks) kk
 refine wpAny_pyIter_enum (s:={ s1 with heap:=h' }) (i:=0) he ?_
 refine ⟨s1.heap.objs.size + 1,[s1.heap.objs.size + 1,s1.heap.objs.size],_,_,H1,rfl,I2,Z7 _ _ l (Nat.succ_ne_self _),⟨⟨_,he⟩,hit⟩,fun b hb=>?_,q⟩
 have hb':s1.heap.objs.size <= b:=by
  rcases List.mem_cons.mp hb with e | e
  ·rw [e]; exact Nat.le_succ _
  ·have:b = s1.heap.objs.size:=by simpa using e
   rw [this]; exact Nat.le_refl _
 exact I1.fpOk hb' (I1.hok.fresh hb')
end
def ForEL (K:PySem.W.Frag) (a:Addr) (g:TG) (tb:TS) (D:Ends) (σ:St) (H:Hp):Prop:=∃ W:Nat -> Nat -> St -> Hp -> Prop,(∃ m,W 0 m σ H) /\ ∀ i m σ H,W i m σ H ->
 ((Iel K a).stop i H /\ D.nx σ H) \/ ((Iel K a).go i H /\ ∃ N:St -> Hp -> Prop,(∀ σ' H',N σ' H' -> ∃ m',m' < m /\ W (i + 1) m' σ' H') /\ ∀ x H',(Iel K a).yld i H x H' -> g x σ H' fun σ2 H2=>tb { D with nx:=N,ct:=N,bk:=D.nx } σ2 H2)
theorem Jz {K:PySem.W.Frag} {ta:TA} {g:TG} {tb:TS} {D:Ends} {σ:St} {H:Hp}:Ve (Vv K ta) g tb D σ H = ta σ H fun vs H1=>∃ a,vs = [.ref a] /\ (∃ xs,SqL K H1 a xs) /\ ForEL K a g tb D σ H1:=rfl
theorem ForEL.by {K:PySem.W.Frag} {a:Addr} {xs:List V} {g:TG} {tb:TS} {D:Ends} {σ:St} {H:Hp} (Pv:Nat -> St -> Hp -> Prop) (h0:Pv 0 σ H) (hl:∀ i σ H,i <= xs.length -> Pv i σ H -> SqL K H a xs)
  (hs:∀ i x σ H p,xs[i]? = some x -> Pv i σ H -> H p = none -> g (.ref p) σ (upd H p (.tup [.int (i:Nat),x])) fun σ2 H2=>tb { D with nx:=Pv (i + 1),ct:=Pv (i + 1),bk:=D.nx } σ2 H2) (hd:∀ σ H,Pv xs.length σ H -> D.nx σ H):ForEL K a g tb D σ H:=by
 refine ⟨fun i m σ H=>m = xs.length - i /\ i <= xs.length /\ Pv i σ H,⟨xs.length,by simp,Nat.zero_le _,h0⟩,?_⟩
 rintro i m σ H ⟨rfl,hi,p⟩
 have q:=hl i σ H hi p
 by_cases hlt:i < xs.length
 ·refine .inr ⟨⟨xs,xs[i],q,by simp [hlt]⟩,Pv (i + 1),fun σ' H' p'=>⟨xs.length - (i + 1),by omega,rfl,hlt,p'⟩,fun v H' y=>?_⟩
  obtain ⟨p',x,hp,hx,ev,eH⟩:=y
  subst ev eH
  exact hs i x σ H p' (hx xs q) p hp
 ·have e:i = xs.length:=by omega
  subst e
  exact .inl ⟨⟨xs,q,rfl⟩,hd σ H p⟩
def ForT (K:PySem.W.Frag) (a:Addr) (g:TG) (tb:TS) (D:Ends) (σ:St) (H:Hp):Prop:=∃ W:Nat -> Nat -> St -> Hp -> Prop,(∃ m,W 0 m σ H) /\ ∀ i m σ H,W i m σ H ->
 ((Itt K a).stop i H /\ D.nx σ H) \/ ((Itt K a).go i H /\ ∃ N:St -> Hp -> Prop,(∀ σ' H',N σ' H' -> ∃ m',m' < m /\ W (i + 1) m' σ' H') /\ ∀ x H',(Itt K a).yld i H x H' -> g x σ H' fun σ2 H2=>tb { D with nx:=N,ct:=N,bk:=D.nx } σ2 H2)
theorem Km {K:PySem.W.Frag} {tl:TE} {g:TG} {tb:TS} {D:Ends} {σ:St} {H:Hp}:Ve (JO K tl) g tb D σ H = tl σ H fun x H1=>∃ a,x = .ref a /\ (∃ xs,SqT K H1 a xs) /\ ForT K a g tb D σ H1:=rfl
theorem ForT.by {K:PySem.W.Frag} {a:Addr} {xs:List V} {g:TG} {tb:TS} {D:Ends} {σ:St} {H:Hp} (Pv:Nat -> St -> Hp -> Prop) (h0:Pv 0 σ H) (hl:∀ i σ H,i <= xs.length -> Pv i σ H -> SqT K H a xs)
  (hs:∀ i x σ H,xs[i]? = some x -> Pv i σ H -> g x σ H fun σ2 H2=>tb { D with nx:=Pv (i + 1),ct:=Pv (i + 1),bk:=D.nx } σ2 H2) (hd:∀ σ H,Pv xs.length σ H -> D.nx σ H):ForT K a g tb D σ H:=V1 Pv h0 hl hs hd
def tTr (K:PySem.W.Frag) (ta:TE):TT:=fun σ H Q=>ta σ H fun x H'=>∃ k,UC K x H' k /\ Q k H'
theorem JB {K:PySem.W.Frag} {ta:TE} {σ:L2.St} {H:Hp} {Q:Bool -> Hp -> Prop}:tTr K ta σ H Q = ta σ H fun x H'=>∃ k,UC K x H' k /\ Q k H':=rfl
def tBl (ta:TE):TT:=fun σ H Q=>ta σ H fun x H'=>∃ k,x = .bl k /\ Q k H'
theorem JD {ta:TE} {σ:L2.St} {H:Hp} {Q:Bool -> Hp -> Prop}:tBl ta σ H Q = ta σ H fun x H'=>∃ k,x = .bl k /\ Q k H':=rfl
section
variable {X:Cx} {a:Expr} {ta:TE}
theorem wN (ha:PE X a ta) (he:∀ whole,isTrue a X.env whole = (do let v <- whole; standAt a.pos; holding [v] (truthy v))):PT X a (tBl ta):=by
 intro pins s σ H Q I h
 refine isTrue_plain (thn (ha pins s σ H _ I h) fun v s1 ⟨x,H1,I1,r1,k,e,q1⟩=>?_) (he _)
 subst e
 exact Vw pins s1 σ H1 (.bl k) v Q I1 r1 ⟨k,rfl,q1⟩
end
end L3
namespace L3
open PySem PySem.Spec PyProof.Rows L2
def Irv (K:PySem.W.Frag) (a:Addr) (n:Nat):It:=⟨fun i H=>∃ xs,SqL K H a xs /\ xs.length = n /\ i < n,fun i H v H'=>H' = H /\ ∀ xs,SqL K H a xs -> xs.length = n -> xs[n - 1 - i]? = some v,fun i H=>i = n⟩
section
variable {X:Cx} {tg:Expr}
def Kr (K:PySem.W.Frag) (ta:TA):TI:=fun σ H R=>ta σ H fun vs H1=>∃ a xs,vs = [.ref a] /\ SqL K H1 a xs /\ R (Irv K a xs.length) H1
end
section
variable {prog:Program} {w:World} {A:Around} {E:Value -> Shared -> Prop} {s:Shared}
end
section
variable {X:Cx}
def Q0 (K:PySem.W.Frag) (ta:TA):TE:=fun σ H Q=>ta σ H fun vs H1=>∃ a xs,vs = [.ref a] /\ SqL K H1 a xs /\ ∀ l,H1 l = none -> Q (.ref l) (upd H1 l (.lst xs.reverse))
theorem Ug {K:PySem.W.Frag} {ta:TA} {σ:L2.St} {H:Hp} {Q:VK}:Q0 K ta σ H Q = ta σ H fun vs H1=>∃ a xs,vs = [.ref a] /\ SqL K H1 a xs /\ ∀ l,H1 l = none -> Q (.ref l) (upd H1 l (.lst xs.reverse)):=rfl
end
def Izp (K:PySem.W.Frag) (a b:Addr):It:=⟨fun i H=>∃ xs ys x y,SqL K H a xs /\ SqL K H b ys /\ xs[i]? = some x /\ ys[i]? = some y,fun i H v H'=>∃ p x y,H p = none /\ (∀ xs,SqL K H a xs -> xs[i]? = some x) /\ (∀ ys,SqL K H b ys -> ys[i]? = some y) /\ v = .ref p /\ H' = upd H p (.tup [x,y]),fun i H=>∃ xs ys,SqL K H a xs /\ SqL K H b ys /\ (xs.length = i \/ ys.length = i) /\ i <= xs.length /\ i <= ys.length⟩
theorem wa {h:Heap} {a b:Addr} {o1 o2:Obj} {t u:String} (h1:h.get? a = some o1) (c1:o1.cls = .type t) (h2:h.get? b = some o2) (c2:o2.cls = .type u) (hne:t ≠ u):a ≠ b:=fun z=>by
 rw [z,h2] at h1
 cases h1
 rw [c2] at c1
 exact hne (Value.type.inj c1).symm
structure Vq (z TI TO i1 i2:Addr):Prop where
 TIz:TI ≠ z
 TOz:TO ≠ z
 i1z:i1 ≠ z
 i2z:i2 ≠ z
 TITO:TI ≠ TO
 TIi1:TI ≠ i1
 TIi2:TI ≠ i2
 TOi1:TO ≠ i1
 TOi2:TO ≠ i2
 i12:i1 ≠ i2
def ZipAt (z TI TO i1 i2 l1 l2:Addr) (i:Nat) (h:Heap):Prop:=IsZip h z TI TO .none /\ IsPair h TI (.ref i1) (.ref i2) /\ (∃ a b,IsPair h TO a b) /\ h.IsListIter i1 l1 i /\ h.IsListIter i2 l2 i
theorem ZipAt.apart {z TI TO i1 i2 l1 l2:Addr} {i:Nat} {h:Heap} {xs ys:Array Value} (D:Vq z TI TO i1 i2) (st:ZipAt z TI TO i1 i2 l1 l2 i h) (h1:h.IsList l1 xs) (h2:h.IsList l2 ys):ZipApart z TI TO i1 i2 l1 l2:=by
 obtain ⟨hz,hTI,⟨a,b,hTO⟩,⟨o1,e1,c1,_⟩,⟨o2,e2,c2,_⟩⟩:=st
 obtain ⟨p1,q1,k1,_⟩:=h1
 obtain ⟨p2,q2,k2,_⟩:=h2
 exact ⟨D.TIz,D.TOz,D.i1z,D.i2z,D.TITO,D.TIi1,D.TIi2,D.TOi1,D.TOi2,D.i12,wa q1 k1 hz rfl (by decide),wa q1 k1 hTO rfl (by decide),wa q1 k1 e1 c1 (by decide),wa q1 k1 e2 c2 (by decide),wa q2 k2 hz rfl (by decide),wa q2 k2 hTO rfl (by decide),wa q2 k2 e1 c1 (by decide),wa q2 k2 e2 c2 (by decide)⟩
section
variable {X:Cx}
def Ko (K:PySem.W.Frag) (ta:TA):TI:=fun σ H R=>ta σ H fun vs H1=>∃ a b,vs = [.ref a,.ref b] /\ (∃ xs,SqL K H1 a xs) /\ (∃ ys,SqL K H1 b ys) /\ R (Izp K a b) H1
end
def Kx (K:PySem.W.Frag) (a b:Addr) (g:TG) (tb:TS) (D:Ends) (σ:L2.St) (H:Hp):Prop:=∃ W:Nat -> Nat -> L2.St -> Hp -> Prop,(∃ m,W 0 m σ H) /\ ∀ i m σ H,W i m σ H ->
 ((Izp K a b).stop i H /\ D.nx σ H) \/ ((Izp K a b).go i H /\ ∃ N:L2.St -> Hp -> Prop,(∀ σ' H',N σ' H' -> ∃ m',m' < m /\ W (i + 1) m' σ' H') /\ ∀ x H',(Izp K a b).yld i H x H' -> g x σ H' fun σ2 H2=>tb { D with nx:=N,ct:=N,bk:=D.nx } σ2 H2)
theorem Kc {K:PySem.W.Frag} {ta:TA} {g:TG} {tb:TS} {D:Ends} {σ:L2.St} {H:Hp}:Ve (Ko K ta) g tb D σ H = ta σ H fun vs H1=>∃ a b,vs = [.ref a,.ref b] /\ (∃ xs,SqL K H1 a xs) /\ (∃ ys,SqL K H1 b ys) /\ Kx K a b g tb D σ H1:=rfl
end L3
namespace L3
open PySem PySem.Spec PyProof.Rows L2
abbrev xob (C:Addr) (dx:Option Addr) (t:Addr) (tb:Value):Obj:={ cls:=.ref C,dict:=dx,data:=.fields #[.ref t,tb,.none,.none,.bool false,.none] }
abbrev xog (C:Addr) (dx:Option Addr) (t:Addr) (tb c:Value) (k:Bool):Obj:={ cls:=.ref C,dict:=dx,data:=.fields #[.ref t,tb,c,.none,.bool k,.none] }
def Um (h:Heap) (x:Addr) (tb:Value):Prop:=tb = .none \/ ∃ T oT ts,tb = .ref T /\ T ≠ x /\ h.get? T = some oT /\ oT.data = .fields ts /\ 3 < ts.size
section
variable {M:Model} {A:Around} {E:Value -> Shared -> Prop} {s:Shared} {base:Heap} {env env0:Env} {outer:List Env} {L x t C:Addr} {dx:Option Addr} {cx:Value} {kx:Bool}
theorem jI (h:env.frame = env0.frame):PySem.frameOf env = PySem.frameOf env0:=by unfold PySem.frameOf; rw [h]
theorem jl {tb head:Value} {hadNext:Bool} {Q:Unit -> Shared -> Prop} (hfr:A.frames = some (env0 :: outer)) (hl:s.heap.FunFrames base (env0 :: outer)) (hf:env0.frame = some L) (he:env.frame = some L)
  (hx:s.heap.get? x = some (xog C dx t tb cx kx))
  (h:∀ h' oT ts,h'.get? x = some (xog C dx t (.ref s.heap.objs.size) cx kx) -> s.heap.objs.size ≠ x -> h'.get? s.heap.objs.size = some oT -> oT.data = .fields ts -> 3 < ts.size ->
   (∀ b o,b ≠ x -> b ∉ frs (env0 :: outer) -> s.heap.get? b = some o -> h'.get? b = some o) -> (∀ b o,b ≠ x -> s.heap.get? b = some o -> ∃ sl,h'.get? b = some { o with slots:=sl }) -> Q () { s with heap:=h' }) :
  wpAny M A (do let a <- PySem.frameOf env; let pl <- entryPlaceOf L hadNext; let b <- EntryCells.newEntry head a .none (rawInt L) .none pl; setField (.ref x) 1 b) Q E s:=by
 have hxf:x ∉ frs (env0 :: outer):=fun hm=>by
  obtain ⟨_,o,ho,hnf⟩:=hl.mem hm
  rw [hx] at ho
  cases ho
  exact hnf _ rfl
 rw [jI (he.trans hf.symm)]
 refine wpAny_bind (wpAny_frameOf_fun hfr hl hf fun h1 hs1=>wpAny_bind (wpAny_entryPlaceOf fun pl hpl=>?_))
 unfold EntryCells.newEntry newFields
 refine wpAny_bind (wpAny_newObj_type ?_ (hpl.sizeOk5 _ _ _ _ _))
 have hz:h1.objs.size = s.heap.objs.size:=hs1.1
 have hx1:h1.get? x = some (xog C dx t tb cx kx):=(hs1.2.1 x hxf).trans hx
 generalize ho:({ cls:=.type "traceback",dict:=none,data:=.fields ([head,.ref L,.none,rawInt L,.none] ++ (if pl.isEmpty then List.replicate 6 Value.none else pl)).toArray }:Obj) = ob
 have hx2:(h1.push ob).get? x = some (xog C dx t tb cx kx):=Heap.get?_push_of_some _ hx1
 refine wpAny_setField hx2 rfl (by show 1 < 6; decide) ?_
 have hne:h1.objs.size ≠ x:=Nat.ne_of_gt (Heap.lt_size hx1)
 have hx3:((h1.push ob).update x (Obj.mapFields (·.setIfInBounds 1 (Value.ref h1.objs.size)))).get? x = some (xog C dx t (.ref h1.objs.size) cx kx) :=
  Heap.get?_update_self (Obj.mapFields (·.setIfInBounds 1 (Value.ref h1.objs.size))) hx2 rfl
 have hT:((h1.push ob).update x (Obj.mapFields (·.setIfInBounds 1 (Value.ref h1.objs.size)))).get? h1.objs.size = some ob :=
  (Heap.get?_update_other _ _ (Ne.symm hne)).trans (Heap.get?_push_size h1 (by rw [<- ho]; rfl))
 rw [hz] at hx3 hT hne
 have kp:∀ b o,b ≠ x -> h1.get? b = some o -> ((h1.push ob).update x (Obj.mapFields (·.setIfInBounds 1 (Value.ref h1.objs.size)))).get? b = some o:=fun b o hb e =>
  (Heap.get?_update_other _ _ (Ne.symm hb)).trans (Heap.get?_push_of_some _ e)
 rw [hz] at kp ⊢
 refine h _ ob _ hx3 hne hT (by rw [<- ho]) (by simp only [List.size_toArray,List.length_append,List.length_cons,List.length_nil] <;> omega) (fun b o hb hbf e=>kp b o hb ((hs1.2.1 b hbf).trans e)) fun b o hb e=>?_
 obtain ⟨sl,q⟩:=hs1.2.2 b o e
 exact ⟨sl,kp b _ hb q⟩
theorem jb {tb:Value} {Q:Unit -> Shared -> Prop} (hfr:A.frames = some (env0 :: outer)) (hl:s.heap.FunFrames base (env0 :: outer)) (hf:env0.frame = some L) (he:env.frame = some L)
  (hx:s.heap.get? x = some (xog C dx t tb cx kx)) (htb:Um s.heap x tb)
  (h:∀ h' T oT ts,h'.get? x = some (xog C dx t (.ref T) cx kx) -> T ≠ x -> (tb = .ref T \/ s.heap.objs.size <= T) -> h'.get? T = some oT -> oT.data = .fields ts -> 3 < ts.size ->
   (∀ b o,b ≠ x -> tb ≠ .ref b -> b ∉ frs (env0 :: outer) -> s.heap.get? b = some o -> h'.get? b = some o) -> (∀ b o,b ≠ x -> tb ≠ .ref b -> s.heap.get? b = some o -> ∃ sl,h'.get? b = some { o with slots:=sl }) -> Q () { s with heap:=h' }) :
  wpAny M A (noteFrame (.ref x) env) (fun _ s1=>wpAny M A (setFlight (.ref x) none) Q E s1) E s:=by
 have land:∀ (h1:Heap) (T:Addr) (oT:Obj) (ts:Array Value),h1.get? x = some (xog C dx t (.ref T) cx kx) -> T ≠ x -> (tb = .ref T \/ s.heap.objs.size <= T) -> h1.get? T = some oT -> oT.data = .fields ts -> 3 < ts.size ->
   (∀ b o,b ≠ x -> tb ≠ .ref b -> b ∉ frs (env0 :: outer) -> s.heap.get? b = some o -> h1.get? b = some o) -> (∀ b o,b ≠ x -> tb ≠ .ref b -> s.heap.get? b = some o -> ∃ sl,h1.get? b = some { o with slots:=sl }) ->
   wpAny M A (setFlight (.ref x) none) Q E { s with heap:=h1 }:=fun h1 T oT ts e1 nT oldT e2 d2 z2 k1 k2=>by
  unfold setFlight
  refine wpAny_bind (wpAny_field (s:={ s with heap:=h1 }) e1 rfl (x:=.ref T) rfl ?_)
  rw [if_pos (show (Value.ref T != Value.none) = true from by simp)]
  refine wpAny_setField (s:={ s with heap:=h1 }) e2 d2 z2 ?_
  have d3:=Obj.data_mapFields d2 (·.setIfInBounds 3 ((none:Option Addr).elim Value.none fun f=>rawInt f))
  have nb:∀ b,b ≠ x -> tb ≠ .ref b -> (∃ o,s.heap.get? b = some o) -> b ≠ T:=fun b hb hbt ⟨o,eo⟩ z=>by
   subst z
   rcases oldT with q | q
   ·exact hbt q
   ·exact absurd (Heap.lt_size eo) (Nat.not_lt.mpr q)
  refine h _ T _ _ ((Heap.get?_update_other _ _ nT).trans e1) nT oldT (Heap.get?_update_self _ e2 (Obj.isFreed_of_fields d3)) d3 (by simpa using z2) (fun b o hb hbt hbf e=>?_) fun b o hb hbt e=>?_
  ·exact (Heap.get?_update_other _ _ (Ne.symm (nb b hb hbt ⟨o,e⟩))).trans (k1 b o hb hbt hbf e)
  ·obtain ⟨sl,q⟩:=k2 b o hb hbt e
   exact ⟨sl,(Heap.get?_update_other _ _ (Ne.symm (nb b hb hbt ⟨o,e⟩))).trans q⟩
 unfold noteFrame
 simp only [he]
 refine wpAny_bind (wpAny_field hx rfl (x:=tb) rfl ?_)
 rcases htb with rfl | ⟨T,oT,ts,rfl,nT,e2,d2,z2⟩
 ·rw [if_neg (by decide)]
  refine jl hfr hl hf he hx fun h' oT ts e1 ne e2 d2 z2 k1 k2=>land h' _ oT ts e1 ne (.inr (Nat.le_refl _)) e2 d2 z2 (fun b o hb _ hbf e=>k1 b o hb hbf e) fun b o hb _ e=>k2 b o hb e
 ·rw [if_pos (show (Value.ref T != Value.none) = true from by simp)]
  obtain ⟨y,hy⟩:∃ y,ts[3]? = some y:=⟨ts[3],by simp [z2]⟩
  refine wpAny_bind (wpAny_field e2 d2 (x:=y) hy ?_)
  by_cases c:(y == rawInt L) = true
  ·rw [if_pos c]
   exact wpAny_pure (land s.heap T oT ts hx nT (.inl rfl) e2 d2 z2 (fun b o _ _ _ e=>e) fun b o _ _ e=>⟨o.slots,e⟩)
  ·rw [if_neg c]
   refine wpAny_bind (wpAny_setField e2 d2 z2 ?_)
   have oth:∀ b,b ≠ T -> (s.heap.update T (Obj.mapFields (·.setIfInBounds 3 Value.none))).get? b = s.heap.get? b:=fun b hb=>Heap.get?_update_other _ _ (Ne.symm hb)
   have hl1:(s.heap.update T (Obj.mapFields (·.setIfInBounds 3 Value.none))).FunFrames base (env0 :: outer):=hl.of_keeps fun b o hb hnf=>⟨o,(oth b fun q=>by rw [q,e2] at hb; cases hb; exact hnf ts d2).trans hb,rfl⟩
   have hsz:(s.heap.update T (Obj.mapFields (·.setIfInBounds 3 Value.none))).objs.size = s.heap.objs.size:=Heap.size_update ..
   refine jl (s:={ s with heap:=s.heap.update T (Obj.mapFields (·.setIfInBounds 3 Value.none)) }) hfr hl1 hf he ((oth x (Ne.symm nT)).trans hx) fun h' oT' ts' e1 ne e2' d2' z2' k1 k2=>?_
   refine land h' _ oT' ts' e1 ne (.inr (by rw [hsz]; exact Nat.le_refl _)) e2' d2' z2' (fun b o hb hbt hbf e=>k1 b o hb hbf ((oth b fun q=>hbt (by rw [q])).trans e)) fun b o hb hbt e=>k2 b o hb ((oth b fun q=>hbt (by rw [q])).trans e)
theorem Uq {tb:Value} {Q:Unit -> Shared -> Prop} (hfr:A.frames = some (env0 :: outer)) (hl:s.heap.FunFrames base (env0 :: outer)) (hf:env0.frame = some L) (he:env.frame = some L)
  (hx:s.heap.get? x = some (xog C dx t tb cx kx)) (htb:Um s.heap x tb)
  (h:∀ h' T oT ts,h'.get? x = some (xog C dx t (.ref T) cx kx) -> T ≠ x -> (tb = .ref T \/ s.heap.objs.size <= T) -> h'.get? T = some oT -> oT.data = .fields ts -> 3 < ts.size ->
   (∀ b o,b ≠ x -> tb ≠ .ref b -> b ∉ frs (env0 :: outer) -> s.heap.get? b = some o -> h'.get? b = some o) -> (∀ b o,b ≠ x -> tb ≠ .ref b -> s.heap.get? b = some o -> ∃ sl,h'.get? b = some { o with slots:=sl }) -> Q () { s with heap:=h' }) :
  wpAny M A (leaving env (.ref x)) Q E s:=wpAny_bind (jb hfr hl hf he hx htb h)
end
def CXx (P:Program) (w:World):CXT:=fun outer H s E e s'=>∃ (x C t:Addr) (dx:Option Addr) (tb:Value) (H':Hp),e = .ref x /\ s'.os = s.os /\ AllBare s'.gens /\ Un (frs outer) [] H H' s.heap s'.heap /\ HOk P w H' s'.heap /\
 s'.heap.get? x = some (xob C dx t tb) /\ Um s'.heap x tb /\ H' x = none /\ s.heap.objs.size <= x /\ (∀ T,tb = .ref T -> H' T = none /\ s.heap.objs.size <= T) /\ E (.ref C) dx H'
def Qq (X:Cx) (E:XK) (e:Value) (s:Shared):Prop:=∃ (pins:List (Addr × Obj)) (σ:St) (H:Hp) (x C t:Addr) (dx:Option Addr) (tb:Value),e = .ref x /\ Inv X pins σ H s /\
 s.heap.get? x = some (xob C dx t tb) /\ Um s.heap x tb /\ xM X pins H x /\ (∀ T,tb = .ref T -> xM X pins H T) /\ E (.ref C) dx H
def XE (X:Cx) (E:XK):Prop:=∀ e s,Qq X E e s -> X.xe e s
theorem Zx {X:Cx} {E:XK} (hx:XE X E):vI (CXx X.prog X.w) X E:=by
 intro pins σ H s e s' I h
 obtain ⟨x,C,t,dx,tb,H',rfl,os,bare,un,hok,ob,tr,hn,hsz,hT,q⟩:=h
 have I':Inv X pins σ H' s':=I.call' os un hok bare fun b z=>absurd z (by simp)
 exact hx _ _ ⟨pins,σ,H',x,C,t,dx,tb,rfl,I',ob,tr,I.fpOk hsz hn,fun T e=>I.fpOk (hT T e).2 (hT T e).1,q⟩
theorem Qr {P:Program} {w:World} {K:PySem.W.Frag} {mg:Str -> Option Value} {base:Heap} {N:List Str} {qual:Str} {scope:Scope} {f:Addr} {cd:Value} {A:Around} {outer:List Env} {s:Shared} {H:Hp} {E:XK} :
  XE (ui (CXx P w) P w K mg base N qual scope f cd A outer s H E) E:=by
 intro e s1 h
 obtain ⟨pins,σ,H1,x,C,t,dx,tb,rfl,I,ob,tr,fx,fT,q⟩:=h
 show wpAny _ _ (leaving _ (.ref x)) _ _ s1
 have ff:=I.stack
 refine Uq (A:=(ui (CXx P w) P w K mg base N qual scope f cd A outer s H E).A) (env0:=envOfC qual scope s.heap.objs.size f cd) (outer:=outer) I.ok.frames ff rfl rfl ob tr fun h' T oT ts e1 nT oldT e2 d2 z2 k1 k2=>?_
 have szs:s.heap.objs.size <= s1.heap.objs.size:=I.sz
 have hxs:s.heap.objs.size <= x:=by
  rcases fx.2.2.2.1 with z | z
  ·exact absurd z (by simp [ui])
  ·exact z
 have hTs:s.heap.objs.size <= T /\ H1 T = none:=by
  rcases oldT with z | z
  ·obtain ⟨a0,_,_,a3,_⟩:=fT T z
   rcases a3 with y | y
   ·exact absurd y (by simp [ui])
   ·exact ⟨y,a0⟩
  ·exact ⟨Nat.le_trans szs z,I.hok.fresh z⟩
 have tbs:∀ b,tb = .ref b -> s.heap.objs.size <= b /\ H1 b = none:=fun b hb=>by
  obtain ⟨a0,_,_,a3,_⟩:=fT b hb
  rcases a3 with y | y
  ·exact absurd y (by simp [ui])
  ·exact ⟨y,a0⟩
 have old:∀ b o,s.heap.get? b = some o -> b ≠ x /\ tb ≠ .ref b:=fun b o e=>by
  have hb:=Heap.lt_size e
  refine ⟨Nat.ne_of_lt (Nat.lt_of_lt_of_le hb hxs),fun z=>?_⟩
  exact absurd (Nat.lt_of_lt_of_le hb (tbs b z).1) (Nat.lt_irrefl _)
 have un:Un (frs outer) [] H H1 s.heap h':=by
  have B:=I.base
  refine ⟨fun b o e n hb _=>?_,fun b o e n hb _=>?_,fun b o e n _=>B.free b o e n (by simp [ui]),fun b o e _=>?_,B.tups,B.frzs,B.tbls⟩
  ·have e1:=B.keep b o e n hb (by simp [ui])
   refine k1 b o (old b o e).1 (old b o e).2 (fun z=>?_) e1
   have z':=I.stkSub b z
   rcases List.mem_cons.mp z' with q | q
   ·exact absurd q (Nat.ne_of_lt (Nat.lt_of_lt_of_le (Heap.lt_size e) I.ok.above))
   ·exact hb q
  ·obtain ⟨sl,e1⟩:=B.slot b o e n hb (by simp [ui])
   obtain ⟨sl',e2⟩:=k2 b _ (old b o e).1 (old b o e).2 e1
   exact ⟨sl',e2⟩
  ·obtain ⟨o',e1⟩:=B.there b o e (by simp [ui])
   obtain ⟨sl',e2⟩:=k2 b _ (old b o e).1 (old b o e).2 e1
   exact ⟨_,e2⟩
 have hok:HOk P w H1 h':=fun b u e=>by
  refine (I.hok b u e).stay (fun c v hc q=>k1 c v ?_ ?_ ?_ q) (fun _ q=>q) fun _ _ q=>q
  ·rintro rfl
   rcases hc with rfl | hc
   ·rw [fx.1] at e; cases e
   ·rw [fx.1] at hc; cases hc
  ·intro z
   have:=(tbs c z).2
   rcases hc with rfl | hc
   ·rw [this] at e; cases e
   ·rw [this] at hc; cases hc
  ·intro z
   have:=I.stkFree c z
   rcases hc with rfl | hc
   ·rw [this] at e; cases e
   ·rw [this] at hc; cases hc
 exact ⟨x,C,t,dx,.ref T,H1,rfl,I.os,I.bare,un,hok,e1,.inr ⟨T,oT,ts,rfl,nT,e2,d2,z2⟩,fx.1,hxs,fun T' z=>by cases z; exact ⟨hTs.2,hTs.1⟩,q⟩
theorem Fun.okX {P:Program} {w:World} {K:PySem.W.Frag} {mg:Str -> Option Value} {base:Heap} {x qual:Str} {st:Stmt} {f:Addr} {fd:FuncData} {N ps:List Str} {k:Nat} {sp:Sp} (F:Fun K x qual st f fd) (S:zq N ps (zb st)) (len:∀ vs H Q E,sp vs H Q E -> vs.length = ps.length)
  (hbody:∀ (cdv:Value) (A:Around) (outer:List Env) (s:Shared) (H:Hp) (vs:List V) (Q:VK) (E:XK),Room k (A.deeper (envOfC qual (zb st) s.heap.objs.size f cdv)) -> XE (ui (CXx P w) P w K mg base N qual (zb st) f cdv A outer s H E) E -> sp vs H Q E ->
   ∃ t,PSs (ui (CXx P w) P w K mg base N qual (zb st) f cdv A outer s H E) (zk st) t /\ t { nx:=fun _ H'=>Q .non H',rt:=Q } (start N vs) H):yo P w K mg base (CXx P w) (k + 1) f fd ps sp:=by
 obtain ⟨oc,od,kV,doc,pm,an,cdv,ct,osl,rfl,lk,hcd⟩:=F.ex
 exact VS lk hcd S len fun A outer s H vs Q E hr hsp=>hbody cdv A outer s H vs Q E hr Qr hsp
def Qv (X:Cx) (E:XK) (e:Value) (s:Shared):Prop:=∃ (cx:Value) (kx:Bool) (pins:List (Addr × Obj)) (σ:St) (H:Hp) (x C t:Addr) (dx:Option Addr) (tb:Value),e = .ref x /\ Inv X pins σ H s /\
 s.heap.get? x = some (xog C dx t tb cx kx) /\ Um s.heap x tb /\ xM X pins H x /\ (∀ T,tb = .ref T -> xM X pins H T) /\ E (.ref C) dx H
def XEg (X:Cx) (E:XK):Prop:=∀ e s,Qv X E e s -> X.xe e s
end L3
namespace L3
open PySem PySem.Spec PyProof.Rows L2
structure RoomH (k:Nat) (A:Around):Prop where
 dp:A.depth + 3 * k + 5 < recursionLimit
 un:A.units + 16 * k + 200 < cLine
theorem RoomH.mark {k:Nat} {A:Around} (r:RoomH k A) (e:Option Value):RoomH k (A.mark e):=⟨r.dp,r.un⟩
def cxH (P:Program) (w:World) (K:PySem.W.Frag) (mg:Str -> Option Value) (base:Heap) (N:List Str) (qual:Str) (scope:Scope) (f:Addr) (cd:Value) (A:Around) (outer:List Env) (s:Shared) (H:Hp):Cx :=
 { ui CX0 P w K mg base N qual scope f cd A outer s H E0 with calm:=false,xe:=fun _ _=>False }
section
variable {X:Cx} {k:Nat} {f:Addr} {fd:FuncData} {ps:List Str} {sp:Sp} {x:Str} {p pos:Pos} {e:Expr} {es:List Expr} {t:TA}
end
end L3
namespace L3
open PySem PySem.Spec PyProof.Rows L2
abbrev bmV:List Value:=[.type "ValueError",.type "Exception",.type "BaseException",.type "object"]
def jq (K:PySem.W.Frag) (C:Addr):Bool:=match K.lookup C with
 | some ⟨.type "type",_,.cls cd,sl⟩=>(match cd.mro,sl.toList with
  | .ref C' :: bm,[_,_,_,_,some (.builtin n),_]=>C' == C && (n == "ValueError.__new__" && (!cd.hasDel && (cd.hasDict && PySem.W.tailIn K bmV bm)))
  | _,_=>false)
 | _=>false
theorem w9 {K:PySem.W.Frag} {C:Addr} (q:jq K C = true):∃ bm N nm qn bs sn sub ab col dd k0 k1 k2 k3 k5,K.lookup C = some (excClassObj nm qn C N bs bm true sn sub ab col dd k0 k1 k2 k3 k5 "ValueError.__new__") /\ ∀ h:Heap,K.In h -> OwnTail h bmV bm:=by
 unfold jq at q
 split at q
 ·rename_i dd cd sl ho
  split at q
  ·rename_i C' bm k0 k1 k2 k3 n k5 hm hs
   simp only [Bool.and_eq_true,beq_iff_eq,Bool.not_eq_true'] at q
   obtain ⟨rfl,rfl,hdel,hdct,ht⟩:=q
   obtain ⟨nm,bs,mro,ns,qn,hd,sn,sub,ab,col,del⟩:=cd
   dsimp only at hm hdel hdct
   subst hm hdel hdct
   have hsl:sl = #[k0,k1,k2,k3,some (.builtin "ValueError.__new__"),k5]:=by
    obtain ⟨l⟩:=sl
    simp only at hs
    rw [hs]
   subst hsl
   exact ⟨bm,ns,nm,qn,bs,sn,sub,ab,col,dd,k0,k1,k2,k3,k5,ho,fun h X=>PySem.W.tail_of_in X ht⟩
  ·cases q
 ·cases q
structure XC (K:PySem.W.Frag) (C:Addr):Prop where
 ok:jq K C = true
 sa:PySem.W.findIn K (.ref C) "__setattr__" = some (some (.builtin "object.__setattr__"))
 ga:PySem.W.findIn K (.ref C) "__getattribute__" = some (some (.builtin "BaseException.__getattribute__"))
 gt:PySem.W.findIn K (.ref C) "__getattr__" = some none
 kp:PySem.W.keepIn K (.ref C) = true
section
variable {prog:Program} {w:World} {A:Around} {R:Result -> Shared -> Prop} {h:Heap} {g:Array GenState} {d:Drawn} {t:Nat} {os:OsState} {K:PySem.W.Frag} {C:Addr}
theorem kM {init:Value} {rest:List Value} (X:K.In h) (q:jq K C = true) (hi:PySem.W.findIn K (.ref C) "__init__" = some (some init))
  (hb:∀ self,PySem.W.Looks (model prog w) h (bindSpecial init self) (init,[self])) (hrest:rest.length <= sizeLine)
  (hq:codeAny (model prog w) (A.under (.builtin "type.__call__" ⟨.ref C :: rest,[]⟩)) (.call init ⟨.ref (h.objs.size + 1) :: rest,[]⟩) (PySem.W.InitBack (h.objs.size + 1) R) ⟨(h.push { cls:=.type "tuple",data:=.seq rest.toArray }).push (xob C none h.objs.size .none),g,d,t,os⟩) :
  codeAny (model prog w) A (.call (.ref C) ⟨rest,[]⟩) R ⟨h,g,d,t,os⟩:=by
 obtain ⟨bm,N,nm,qn,bs,sn,sub,ab,col,dd,k0,k1,k2,k3,k5,lk,tl⟩:=w9 q
 have hC:=X _ _ lk
 have T:=tl h X
 have F:=PySem.F.excBase_ValueError
 have f1:=tc_lookup
 have f2:=tc_bind (.ref C)
 have hT:(⟨h,g,d,t,os⟩:Shared).TypeIs (.ref C) "type":=⟨_,hC,rfl⟩
 refine codeAny_of_tree ?_
 show wpAny _ _ (callAny (.ref C) _) _ _ _
 repeat (any_goals (first | assumption | with_reducible refine wpAny_loadPart_at hC ?_ | wp_step))
 refine ⟨rfl,?_⟩
 refine codeAny_call_builtin_at (Code.quiet_builtin _ (by decide +kernel)) entry_typeCall (wpAny_check_type_call_sub hC ?_)
 repeat (first | with_reducible refine wpAny_loadPart_at hC ?_ | with_reducible refine wpAny_madeBy_exc hC ?_ | wp_step)
 refine codeAny_call_builtin_code (Code.quiet_builtin _ F.quiet) (wpAny_check_new_subT F T hC ?_)
 refine codeAny_exc_new_subT F T hC ?_ hrest
 show wpAny _ _ _ _ _ _
 have k:∀ b o,h.get? b = some o -> ((h.push { cls:=.type "tuple",data:=.seq rest.toArray }).push (xob C none h.objs.size .none)).get? b = some o:=fun b o e=>Heap.get?_push_of_some _ (Heap.get?_push_of_some _ e)
 have hC1:=k _ _ hC
 have hget:((h.push { cls:=.type "tuple",data:=.seq rest.toArray }).push (xob C none h.objs.size .none)).get? (h.objs.size + 1) = some (xob C none h.objs.size .none):=by heap_get
 have hcC:(Value.ref C :: bm).contains (.ref C) = true:=by simp
 unfold isInstance
 repeat (first | with_reducible refine wpAny_loadPart_at hget ?_ | wp_step)
 refine wpAny_isSubtype_exc (C:=C) hC1 ?_
 rw [hcC]
 repeat wp_step
 show wpAny _ _ (typeLookup (.ref C) _) _ _ _
 refine ((PySem.W.looks_findIn X hi).keeps k).at ?_
 refine wpAny_holding (wpAny_bind (((hb _).keeps k).at ?_))
 refine wpAny_bind (wpAny_call (codeAny_mono hq fun r s' z=>?_))
 rcases r with e | (v | _ | _ | _) <;> first | exact z | exact z.elim | skip
 obtain ⟨rfl,z⟩:=z
 exact wpAny_pure (wpAny_pure z)
end
end L3
namespace L3
open PySem PySem.Spec PyProof.Rows L2
def XN (x C:Addr) (dx:Option Addr):HO:=.ext fun h=>∃ t,h.get? x = some (xob C dx t .none)
def XT (x C:Addr) (dx:Option Addr):HO:=.ext fun h=>∃ t tb c k,h.get? x = some (xog C dx t tb c k)
def XP (x C:Addr) (dx:Option Addr):HO:=.ext fun h=>∃ t tb,h.get? x = some (xob C dx t tb)
theorem U9 {P:Program} {w:World} {H:Hp} {h:Heap} {x C t:Addr} {dx:Option Addr} (e:h.get? x = some (xob C dx t .none)):ObjOk P w H h x (XN x C dx) :=
 ⟨⟨t,e⟩,⟨_,e⟩,fun h1 h2 ⟨t,q⟩ k=>⟨t,k _ q⟩⟩
theorem U5 {P:Program} {w:World} {H:Hp} {h:Heap} {x C t:Addr} {dx:Option Addr} {tb c:Value} {k:Bool} (e:h.get? x = some (xog C dx t tb c k)):ObjOk P w H h x (XT x C dx) :=
 ⟨⟨t,tb,c,k,e⟩,⟨_,e⟩,fun h1 h2 ⟨t,tb,c,k',q⟩ k=>⟨t,tb,c,k',k _ q⟩⟩
theorem U7 {P:Program} {w:World} {H:Hp} {h:Heap} {x C:Addr} {dx:Option Addr} (o:ObjOk P w H h x (XN x C dx)):∃ t,h.get? x = some (xob C dx t .none):=o.1
theorem Jg {P:Program} {w:World} {H:Hp} {h:Heap} {x C:Addr} {dx:Option Addr} (o:ObjOk P w H h x (XT x C dx)):∃ t tb c k,h.get? x = some (xog C dx t tb c k):=o.1
section
variable {nm q:Str} {C N:Addr} {bs bm:List Value} {hdct:Bool} {sn:List Str} {sub:List Value} {ab:Bool} {col:Option Bool} {dd:Option Addr} {k0 k1 k2 k3 k5:Option Value} {newId:String} {h:Heap} {M:Model}
theorem jH (hC:h.get? C = some (excClassObj nm q C N bs bm hdct sn sub ab col dd k0 k1 k2 k3 k5 newId)) (base:Value):PySem.W.Looks M h (isSubtype (.ref C) base) ((Value.ref C :: bm).contains base):=fun A Q E s k z=>by
 obtain ⟨hp,g,d,t,os⟩:=s
 exact wpAny_isSubtype_exc (k _ _ hC) z
theorem Xw (hC:h.get? C = some (excClassObj nm q C N bs bm hdct sn sub ab col dd k0 k1 k2 k3 k5 newId)):PySem.W.Looks M h (mroOf (.ref C)) (.ref C :: bm):=fun A Q E s k z=>by
 obtain ⟨hp,g,d,t,os⟩:=s
 exact wpAny_mroOf_exc (k _ _ hC) z
theorem XR (hC:h.get? C = some (excClassObj nm q C N bs bm hdct sn sub ab col dd k0 k1 k2 k3 k5 newId)):PySem.W.Looks M h (classData C) { name:=nm,bases:=bs,mro:=.ref C :: bm,ns:=N,qualname:=q,hasDict:=hdct,slotNames:=sn,subclasses:=sub,abstract:=ab,collection:=col,hasDel:=false }:=fun A Q E s k z=>by
 unfold classData
 exact wpAny_bind (wpAny_load (k _ _ hC) (wpAny_pure z))
theorem j9 {bmB bm:List Value} (T:OwnTail h bmB bm) (self:Value) (hp:refuseLoop self "__setattr__" bmB = pure ()):refuseLoop self "__setattr__" bm = pure ():=by
 induction T with
 | base=>exact hp
 | own _ _ _ _ ih=>rw [refuseLoop_ref]; exact ih
end
section
variable {X:Cx} {pins:List (Addr × Obj)} {σ:St} {H:Hp} {s:Shared} {A:Around} {E:Value -> Shared -> Prop} {x C:Addr} {f:Str} {y:V} {u:Value}
theorem VG {Q:Unit -> Shared -> Prop} (I:Inv X pins σ H s) (e:H x = some (XN x C none)) (xc:XC X.K C) (n:NoAttr X.K C f) (ry:RelV y u)
  (h:∀ s' dx,H dx = none -> Inv X pins σ (upd (upd H dx (.xd [(f,y)])) x (XN x C (some dx))) s' -> Q () s'):wpAny (model X.prog X.w) A (setAttr (.ref x) f u) Q E s:=by
 obtain ⟨t,ob⟩:=U7 (I.hok x _ e)
 obtain ⟨bm,N,nm,qn,bs,sn,sub,ab,col,dd,k0,k1,k2,k3,k5,lk,tl⟩:=w9 xc.ok
 have hC:=I.kIn _ _ lk
 have T:=tl _ I.kIn
 have SF:=PySem.F.store_ValueError
 have J:PySem.W.InstAt s.heap x (xob C none t .none) C none:=⟨ob,rfl,rfl,trivial⟩
 have hob:(Value.ref C :: bm).contains (.type "object") = true:=by rw [List.contains_cons,T.hasType (show bmV.contains (.type "object") = true by decide +kernel),Bool.or_true]
 have isO:PySem.W.Looks (model X.prog X.w) s.heap (isInstance (.ref x) (.type "object")) true:=J.type.andThen (by have:=jH (M:=model X.prog X.w) hC (.type "object"); rw [hob] at this; exact this)
 refine PySem.W.set_plain I.kIn J xc.sa ?_
 refine codeAny_call_builtin SF.slot.plain SF.entry (@PySem.W.check_slot (model X.prog X.w) _ _ { s with toks:=s.toks + 1 } "object.__setattr__" "object" "__setattr__" (.ref x) [.str f s.toks,u] [] _ SF.kind SF.split isO (SF.args _ _ _) ?_)
 rw [PySem.W.osa_eq,refuse_eq]
 refine wpAny_bind (wpAny_bind (J.type.here (s:={ s with toks:=s.toks + 1 }) (wpAny_bind ((Xw hC).here (s:={ s with toks:=s.toks + 1 }) ?_))))
 rw [refuseLoop_ref,j9 T _ (SF.passes _)]
 refine wpAny_pure (wpAny_bind (J.type.here (s:={ s with toks:=s.toks + 1 }) (wpAny_bind ((PySem.W.looks_findIn I.kIn n).here (s:={ s with toks:=s.toks + 1 }) (wpAny_bind (wpAny_pure ?_))))))
 show wpAny _ _ (Builtin.ObjectAttr.storeInOwnDict (.ref x) (.ref C) (.str f s.toks) f u false) _ _ _
 have hx1:(s.heap.push { cls:=.type "dict",data:=.dict #[] }).get? x = some (xob C none t .none):=Heap.get?_push_of_some _ ob
 have hxs:x ≠ s.heap.objs.size:=Nat.ne_of_lt (Heap.lt_size ob)
 refine wpAny_bind (wpAny_pure (wpAny_bind (wpAny_bind (wpAny_loadPart ob (wpAny_bind ((XR hC).here (s:={ s with toks:=s.toks + 1 }) ?_))))))
 rw [if_neg (by simp)]
 show wpAny _ _ (if (!true || !typeHasDict (.ref C)) = true then _ else _) _ _ _
 rw [if_neg (by simp [typeHasDict])]
 have hgd:((s.heap.push { cls:=.type "dict",data:=.dict #[] }).update x fun o=>{ cls:=o.cls,dict:=some s.heap.objs.size,data:=o.data,slots:=o.slots }).get? s.heap.objs.size = some { cls:=.type "dict",data:=.dict #[] } :=
  (Heap.get?_update_other _ _ hxs).trans (Heap.get?_push_at rfl rfl)
 have hgx:((s.heap.push { cls:=.type "dict",data:=.dict #[] }).update x fun o=>{ cls:=o.cls,dict:=some s.heap.objs.size,data:=o.data,slots:=o.slots }).get? x = some (xob C (some s.heap.objs.size) t .none) :=
  Heap.get?_update_self _ hx1 rfl
 have hnd:((s.heap.push { cls:=.type "dict",data:=.dict #[] }).update x fun o=>{ cls:=o.cls,dict:=some s.heap.objs.size,data:=o.data,slots:=o.slots }).Ns s.heap.objs.size (fun _=>none) :=
  ⟨_,#[],_,hgd,rfl,fun e he=>absurd he (by simp),fun _=>rfl⟩
 refine wpAny_bind (wpAny_alloc' (wpAny_bind (wpAny_update' hx1 (wpAny_pure ?_))))
 show wpAny _ _ (Builtin.ObjectAttr.storeInDict s.heap.objs.size (.str f s.toks) f u) _ _ _
 unfold Builtin.ObjectAttr.storeInDict Builtin.ObjectAttr.newKeyGuard
 refine wpAny_bind (wpAny_pure (wpAny_bind (wpAny_nsSet1 (Heap.Ns1.of_empty hnd) fun h' hn' hs=>?_)))
 obtain ⟨oD,esD,epD,hoD,hdD,hcD⟩:=hn'.count (Within.cons f u Within.nil)
 refine wpAny_bind (wpAny_lookBehind hoD (by rw [hdD]; exact pastItsLine_dict (Nat.le_trans hcD (by rw [List.length_cons,List.length_nil,sizeLine_eq]; omega))) ?_)
 refine wpAny_pure ?_
 have hx2:h'.get? x = some (xob C (some s.heap.objs.size) t .none):=(hs.2 x hxs).trans hgx
 have hfr:H s.heap.objs.size = none:=I.hok.fresh (Nat.le_refl _)
 have hxe:x ≠ s.heap.objs.size:=hxs
 refine h _ s.heap.objs.size hfr ?_
 have k0:∀ b o,b ≠ x -> s.heap.get? b = some o -> h'.get? b = some o:=fun b o hb q =>
  (hs.2 b (Nat.ne_of_lt (Heap.lt_size q))).trans ((Heap.get?_update_other _ _ (Ne.symm hb)).trans (Heap.get?_push_of_some _ q))
 have I1:Inv X pins σ (upd H x (XN x C (some s.heap.objs.size))) { s with heap:=h',toks:=s.toks + 1 + 1 } :=
  I.write (x:=x) (e:=x) (by rw [e]; exact True.intro) (.inl rfl) k0 ⟨_,hx2⟩ (U9 hx2)
 have hd2:ObjOk X.prog X.w (upd (upd H x (XN x C (some s.heap.objs.size))) s.heap.objs.size (.xd [(f,y)])) h' s.heap.objs.size (.xd [(f,y)]):=by
  refine ⟨_,hn',fun g=>?_⟩
  show RelO (List.lookup g [(f,y)]) (if g = f then some u else none)
  by_cases q:g = f
  ·subst q
   rw [if_pos rfl]
   simp [List.lookup,RelO,ry]
  ·rw [if_neg q]
   have q':(g == f) = false:=by simpa using q
   simp [List.lookup,q',RelO]
 have fd:xM X pins (upd H x (XN x C (some s.heap.objs.size))) s.heap.objs.size:=I.fpOk (Nat.le_refl _) (by rw [zo (Ne.symm hxe)]; exact hfr)
 have I2:=Inv.track I1 fd hd2
 have eH:upd (upd H x (XN x C (some s.heap.objs.size))) s.heap.objs.size (.xd [(f,y)]) = upd (upd H s.heap.objs.size (.xd [(f,y)])) x (XN x C (some s.heap.objs.size)):=by
  funext b
  unfold upd
  by_cases b1:b = s.heap.objs.size
  ·subst b1
   rw [if_pos rfl,if_neg (Ne.symm hxe),if_pos rfl]
  ·by_cases b2:b = x
   ·subst b2
    rw [if_neg b1,if_pos rfl,if_pos rfl]
   ·rw [if_neg b1,if_neg b2,if_neg b2,if_neg b1]
 rw [eH] at I2
 exact I2
end
end L3
namespace L3
open PySem PySem.Spec PyProof.Rows L2
def Uc (K:PySem.W.Frag) (ta tv:TE) (f:Str):TS:=fun D σ H=>tv σ H fun y H1=>ta σ H1 fun o H2=>∃ x C,o = .ref x /\ H2 x = some (XN x C none) /\ XC K C /\ NoAttr K C f /\ ∀ dx,H2 dx = none -> D.nx σ (upd (upd H2 dx (.xd [(f,y)])) x (XN x C (some dx)))
section
variable {X:Cx} {o value:Expr} {f:Str} {pos pos':Pos} {ta tv:TE}
theorem YI (ha:PE X o ta) (hv:PE X value tv) (hs:swapsWith value (some (.Attribute o f pos')) pos.line X.env = pure false):PS X (.Assign [.Attribute o f pos'] value pos) (Uc X.K ta tv f):=by
 intro pins s σ H D I h
 refine plainObj_wpAny_Assign_Attribute (thn (hv pins s σ H _ I h) fun u s1 ⟨y,H1,I1,ry,q⟩=>thn (ha pins s1 σ H1 _ I1 q) fun ov s2 ⟨x',H2,I2,rx,x,C,ex,e,xc,n,q2⟩=>?_) hs
 subst ex
 obtain rfl:ov = Value.ref x:=rx
 exact VG I2 e xc n ry fun s3 dx hdx I3=>⟨σ,_,I3,q2 dx hdx⟩
end
section
variable {M:Model} {A:Around} {E:Value -> Shared -> Prop} {s:Shared} {env:Env}
theorem Yp {K:PySem.W.Frag} {x:Sem Value} {Q:Flow -> Shared -> Prop} (hh:A.handled = none)
  (h:wpAny M A x (fun v s1=>∃ e C t dx,v = .ref e /\ K.In s1.heap /\ jq K C = true /\ s1.heap.get? e = some (xob C dx t .none) /\ E (.ref e) s1) E s):wpAny M A (raiseStmt env (some x) none) Q E s:=by
 unfold raiseStmt
 refine wpAny_bind (thn h fun v s1 h1=>?_)
 obtain ⟨e,C,t,dx,rfl,X,hC,he,hE⟩:=h1
 obtain ⟨bm,N,nm,qn,bs,sn,sub,ab,col,dd,k0,k1,k2,k3,k5,lk,tl⟩:=w9 hC
 have hCo:=X _ _ lk
 have T:=tl _ X
 have hcB:(Value.ref C :: bm).contains (.type "BaseException") = true:=by rw [List.contains_cons,T.hasType (show bmV.contains (.type "BaseException") = true by decide +kernel),Bool.or_true]
 obtain ⟨hp,g,d,tk,os⟩:=s1
 repeat (first | with_reducible refine wpAny_loadPart_at he ?_ | with_reducible refine wpAny_loadPart_at hCo ?_ | (with_reducible refine wpAny_isSubtype_exc hCo ?_; rw [hcB]) | wp_step)
 exact wpAny_raiseNew_none hh hE
theorem Xv {K:PySem.W.Frag} {e:Expr} {pos:Pos} {Q:Flow -> Shared -> Prop} (hh:A.handled = none)
  (h:wpAny M A (eval e env) (fun v s1=>∃ a C t dx,v = .ref a /\ K.In s1.heap /\ jq K C = true /\ s1.heap.get? a = some (xob C dx t .none) /\ E (.ref a) s1) E s):wpAny M A (exec (.Raise (some e) none pos) env) Q E s:=by
 rw [arm_exec_Raise]
 first
  | exact wpAny_bind (wpAny_standAt (Yp hh (wpAny_bind (thn h fun v s1 h1=>wpAny_bind (wpAny_standAt (wpAny_pure h1))))))
  | (simp only [evalOpt,Option.map]; exact wpAny_bind (wpAny_standAt (Yp hh (wpAny_bind (thn h fun v s1 h1=>wpAny_bind (wpAny_standAt (wpAny_pure h1)))))))
end
def del (H:Hp) (x:Addr):Hp:=fun b=>if b = x then none else H b
theorem X3 {H:Hp} {x b:Addr} (h:b ≠ x):del H x b = H b:=if_neg h
theorem ZE {H:Hp} {x:Addr}:del H x x = none:=if_pos rfl
section
variable {X:Cx} {pins:List (Addr × Obj)} {σ:St} {H:Hp} {s:Shared}
theorem Inv.untrack {x:Addr} {φ:Heap -> Prop} (I:Inv X pins σ H s) (e:H x = some (.ext φ)) (hs:X.s₀.heap.objs.size <= x):Inv X pins σ (del H x) s:=by
 have nx:∀ b u,H b = some u -> (∀ ψ,u ≠ .ext ψ) -> b ≠ x:=fun b u q nu z=>by subst z; rw [e] at q; cases q; exact nu _ rfl
 have hn:∀ b,b ≠ x -> del H x b = H b:=fun b hb=>X3 hb
 have es:s = { s with heap:=s.heap,gens:=s.gens,drawn:=s.drawn,toks:=s.toks }:=rfl
 rw [es]
 refine I.step (g':=s.gens) (d':=s.drawn) (ch:=[x]) (fun b hb=>?_) (fun b o _ _ _ q _=>q) (fun b o _ _ _ q _=>⟨o.slots,q⟩) (fun b o hc _ n=>?_)
  (fun b o _ q=>⟨o,q⟩) (fun b xs q=>?_) (fun b u xs q=>?_) (fun b ps q=>?_) (fun m hm=>hm) (fun b u q=>?_) I.bare
 ·have eb:b = x:=by simpa using hb
  subst eb
  refine ⟨.inr hs,fun z=>?_,fun y c q z=>?_,fun p hp z=>?_⟩
  ·rw [z,I.free] at e; cases e
  ·have:=I.freeC y c q; rw [z,e] at this; cases this
  ·have:=(I.pin p hp).2.1; rw [z,e] at this; cases this
 ·rw [hn b (by simpa using hc)]; exact n
 ·rw [hn b (nx b _ q fun _ z=>by cases z)]; exact q
 ·rw [hn b (nx b _ q fun _ z=>by cases z)]; exact q
 ·exact ⟨#[],by rw [hn b (nx b _ q fun _ z=>by cases z),q]; simp⟩
 ·by_cases hb:b = x
  ·subst hb
   rw [ZE] at q
   cases q
  ·rw [hn b hb] at q
   exact (I.hok b u q).stay (fun c v _ z=>z) (fun c z=>by rw [hn c (nx c _ z fun _ y=>by cases y)]; exact z) fun c xs z=>by rw [hn c (nx c _ z fun _ y=>by cases y)]; exact z
theorem Z1 {C:Addr} {us:List Value} {E:Value -> Shared -> Prop} {Q:Value -> Shared -> Prop} (I:Inv X pins σ H s) (xc:jq X.K C = true) (hi:PySem.W.findIn X.K (.ref C) "__init__" = some (some (.builtin "ValueError.__init__"))) (hl:us.length <= sizeLine)
  (h:∀ s' x t,s.heap.objs.size <= x -> Inv X pins σ H s' -> s'.heap.get? x = some (xob C none t .none) -> Q (.ref x) s'):wpAny (model X.prog X.w) X.A (call (.ref C) us) Q E s:=by
 have F:=PySem.F.excBase_ValueError
 obtain ⟨bm,N,nm,qn,bs,sn,sub,ab,col,dd,k0,k1,k2,k3,k5,lk,tl⟩:=w9 xc
 have hC:=I.kIn _ _ lk
 have T:=tl _ I.kIn
 obtain ⟨hp,g,d,t,os⟩:=s
 have k:∀ b o,hp.get? b = some o -> ((hp.push { cls:=.type "tuple",data:=.seq us.toArray }).push (xob C none hp.objs.size .none)).get? b = some o:=fun b o e=>Heap.get?_push_of_some _ (Heap.get?_push_of_some _ e)
 refine wpAny_call (kM I.kIn xc hi (fun self=>PySem.W.Looks.of_pure (F.init.bind self)) hl ?_)
 have hget:((hp.push { cls:=.type "tuple",data:=.seq us.toArray }).push (xob C none hp.objs.size .none)).get? (hp.objs.size + 1) = some (xob C none hp.objs.size .none):=by heap_get
 refine codeAny_call_builtin F.init.plain F.initEntry (wpAny_check_init_subT F (T.keeps k) (k _ _ hC) hget rfl ?_)
 wp_walk
 refine ⟨rfl,h _ (hp.objs.size + 1) ((hp.push { cls:=.type "tuple",data:=.seq us.toArray }).push (xob C none hp.objs.size .none)).objs.size (Nat.le_succ _) (I.kept (t':=t) fun b o e=>?_) ?_⟩
 ·exact (Heap.get?_update_other _ _ (Nat.ne_of_gt (Nat.lt_succ_of_lt (Heap.lt_size e)))).trans (Heap.get?_push_of_some _ (k b o e))
 ·exact Heap.get?_update_self (Obj.mapFields fun x=>x.setIfInBounds 0 (Value.ref ((hp.push { cls:=.type "tuple",data:=.seq us.toArray }).push (xob C none hp.objs.size .none)).objs.size)) (Heap.get?_push_of_some _ hget) rfl
def YL (E:XK) (C:Addr) (t:TA):TS:=fun _ σ H=>t σ H fun vs H1=>vs.length <= sizeLine /\ E (.ref C) none H1
theorem xC {E:XK} {C:Addr} {cn:Str} {np cpos pos:Pos} {e:Expr} {es:List Expr} {t:TA} (hx:XE X E) (hc:X.calm = true) (xc:XC X.K C) (hi:PySem.W.findIn X.K (.ref C) "__init__" = some (some (.builtin "ValueError.__init__"))) (hg:Gl X cn) (hm:X.mg cn = some (.ref C)) (ha:PA X (e :: es) t)
  (hdb:(cn == ("__debug__" : Str)) = false:=by decide) (he:starEach (e :: es) X.env = (false,eval e X.env) :: starEach es X.env:=by rfl) (hpl:(backTo cpos (starEach es X.env)).any (·.1) = false:=by rfl) :
  PS X (.Raise (some (.Call (.Name cn np) (e :: es) [] cpos)) none pos) (YL E C t):=by
 intro pins s σ H D I h
 refine Xv (K:=X.K) (I.ok.hd hc) (wpAny_Call_Name_kw (wf I hg hm ?_ hdb))
 refine PySem.W.callWith_K (h₀:=X.base) I.ok.mod.kin xc.kp (thn (ha cpos pins s σ H _ I h) fun us s1 ⟨vs,H1,I1,r,z,q⟩=>⟨I1.kIn,?_⟩) he hpl
 refine Z1 (us:=[] ++ us) I1 xc.ok hi (by show us.length <= sizeLine; rw [<- r.length]; exact z) fun s2 x t hz I2 ob=>⟨x,C,t,none,rfl,I2.kIn,xc.ok,ob,?_⟩
 exact hx _ _ ⟨pins,σ,H1,x,C,t,none,.none,rfl,I2,ob,.inl rfl,I1.fpOk hz (I1.hok.fresh hz),fun T z=>(by cases z),q⟩
theorem Wa {A:Around} {C:Addr} {us:List Value} {k:Nat} (r:Room (k + 1) A):Room k (A.under (.builtin "type.__call__" ⟨.ref C :: us,[]⟩)):=r.make C us []
def YF (E:XK) (C:Addr) (sp:Sp) (t:TA):TS:=fun _ σ H=>t σ H fun vs H1=>vs.length <= sizeLine /\ ∀ x,H1 x = none -> sp (.ref x :: vs) (upd H1 x (XN x C none)) (fun v H2=>v = .non /\ ∃ dx,H2 x = some (XN x C dx) /\ E (.ref C) dx (del H2 x)) E0
theorem jM {E:XK} {C f:Addr} {fd:FuncData} {k:Nat} {ps:List Str} {sp:Sp} {cn:Str} {np cpos pos:Pos} {e:Expr} {es:List Expr} {t:TA} (hx:XE X E) (hc:X.calm = true) (xc:XC X.K C) (hi:PySem.W.findIn X.K (.ref C) "__init__" = some (some (.ref f))) (hfn:PySem.W.isFn X.K (.ref f) = true)
  (F:yo X.prog X.w X.K X.mg X.base CX0 k f fd ps sp) (hr:Room (k + 1) X.A) (hb:Binds X.K fd ps []) (hg:Gl X cn) (hm:X.mg cn = some (.ref C)) (ha:PA X (e :: es) t)
  (hdb:(cn == ("__debug__" : Str)) = false:=by decide) (he:starEach (e :: es) X.env = (false,eval e X.env) :: starEach es X.env:=by rfl) (hpl:(backTo cpos (starEach es X.env)).any (·.1) = false:=by rfl) :
  PS X (.Raise (some (.Call (.Name cn np) (e :: es) [] cpos)) none pos) (YF E C sp t):=by
 intro pins s σ H D I h
 refine Xv (K:=X.K) (I.ok.hd hc) (wpAny_Call_Name_kw (wf I hg hm ?_ hdb))
 refine PySem.W.callWith_K (h₀:=X.base) I.ok.mod.kin xc.kp (thn (ha cpos pins s σ H _ I h) fun us s1 ⟨vs,H1,I1,r,z,q⟩=>⟨I1.kIn,?_⟩) he hpl
 have hl:us.length <= sizeLine:=by rw [<- r.length]; exact z
 have ob:((s1.heap.push { cls:=.type "tuple",data:=.seq us.toArray }).push (xob C none s1.heap.objs.size .none)).get? (s1.heap.objs.size + 1) = some (xob C none s1.heap.objs.size .none):=by heap_get
 have hfr:H1 (s1.heap.objs.size + 1) = none:=I1.hok.fresh (Nat.le_succ _)
 have I2:Inv X pins σ (upd H1 (s1.heap.objs.size + 1) (XN (s1.heap.objs.size + 1) C none)) { s1 with heap:=(s1.heap.push { cls:=.type "tuple",data:=.seq us.toArray }).push (xob C none s1.heap.objs.size .none) } :=
  I1.laid (t':=s1.toks) (fun b o e=>Heap.get?_push_of_some _ (Heap.get?_push_of_some _ e)) (Nat.le_succ _) (U9 ob)
 have q1:=q _ hfr
 have r2:Vals (V.ref (s1.heap.objs.size + 1) :: vs) (Value.ref (s1.heap.objs.size + 1) :: us):=.cons rfl r
 have hlen:(Value.ref (s1.heap.objs.size + 1) :: us ++ ([]:List Value)).length = ps.length:=by
  rw [List.append_nil,<- r2.length]
  exact F.len _ _ _ _ q1
 have hb2:=hb { s1 with heap:=(s1.heap.push { cls:=.type "tuple",data:=.seq us.toArray }).push (xob C none s1.heap.objs.size .none) } (Value.ref (s1.heap.objs.size + 1) :: us) I2.kIn hlen
 rw [List.append_nil] at hb2
 have run:=F.run _ X.stack _ _ ⟨Value.ref (s1.heap.objs.size + 1) :: us,[]⟩ (Value.ref (s1.heap.objs.size + 1) :: us) _ _ E0 (Wa (C:=C) (us:=us) hr) (I2.env0.make C us []) hb2 r2 q1
 have sz0:X.s₀.heap.objs.size <= s1.heap.objs.size + 1:=Nat.le_trans I1.sz (Nat.le_succ _)
 show wpAny (model X.prog X.w) X.A (call (.ref C) us) _ X.xe s1
 refine wpAny_call ?_
 refine kM (h:=s1.heap) (g:=s1.gens) (d:=s1.drawn) (t:=s1.toks) (os:=s1.os) (rest:=us) I1.kIn xc.ok hi (fun self=>PySem.W.bind_fn I1.kIn self (beq_iff_eq.mp hfn)) hl (codeAny_mono run fun r s' hq=>?_)
 cases r with
 | error e=>exact False.elim hq
 | ok fl =>
  cases fl with
  | ret u =>
   obtain ⟨v,H',I3,rv,ev,dx,hx3,q3⟩:=I2.after hq
   subst ev
   refine ⟨rv,?_⟩
   obtain ⟨t,ob3⟩:=U7 (I3.hok _ _ hx3)
   have I4:=Inv.untrack I3 hx3 sz0
   refine ⟨_,C,t,dx,rfl,I3.kIn,xc.ok,ob3,hx _ _ ⟨pins,σ,_,_,C,t,dx,.none,rfl,I4,ob3,.inl rfl,?_,fun T z=>(by cases z),q3⟩⟩
   exact I1.fpOk (Nat.le_succ _) ZE
  | next=>exact False.elim hq
  | brk=>exact False.elim hq
  | cont=>exact False.elim hq
end
end L3
namespace L3
open PySem PySem.Spec PyProof.Rows L2
def VH (X:Cx) (pins:List (Addr × Obj)) (σ:St) (E:XK) (e:Value) (s:Shared):Prop:=∃ (cx:Value) (kx:Bool) (H:Hp) (x C t:Addr) (dx:Option Addr) (tb:Value),e = .ref x /\ Inv X pins σ H s /\
 s.heap.get? x = some (xog C dx t tb cx kx) /\ Um s.heap x tb /\ xM X pins H x /\ (∀ T,tb = .ref T -> xM X pins H T) /\ E (.ref C) dx H
abbrev TX:=St -> Hp -> VK -> XK -> Prop
def PEX (X:Cx) (e:Expr) (t:TX):Prop :=
 ∀ (pins:List (Addr × Obj)) (s:Shared) (σ:St) (H:Hp) (Q:VK) (E:XK),Inv X pins σ H s -> t σ H Q E -> wpAny (model X.prog X.w) X.A (eval e X.env) (EP X pins σ Q) (VH X pins σ E) s
section
variable {X:Cx}
variable {k:Nat} {f:Addr} {fd:FuncData} {ps:List Str} {sp:Sp} {dvs:List V} {ds:List Value} {x:Str} {p pos:Pos} {e:Expr} {es:List Expr} {t:TA}
theorem WC (F:yo X.prog X.w X.K X.mg X.base (CXx X.prog X.w) k f fd ps sp) (hr:Room k X.A) (hg:Gl X x) (hm:X.mg x = some (.ref f)) (hk:PySem.W.keepIn X.K (.ref f) = true) (hb:Binds X.K fd ps ds) (hd:Vals dvs ds)
  (ha:PA X.nox (e :: es) t) (hdb:(x == ("__debug__" : Str)) = false:=by decide) (he:starEach (e :: es) X.env = (false,eval e X.env) :: starEach es X.env:=by rfl) (hpl:(backTo pos (starEach es X.env)).any (·.1) = false:=by rfl) :
  PEX X (.Call (.Name x p) (e :: es) [] pos) (fun σ H Q E=>t σ H fun vs H1=>sp (vs ++ dvs) H1 Q E):=by
 intro pins s σ H Q E I h
 refine wpAny_Call_Name_kw (wf I hg hm ?_ hdb)
 refine PySem.W.callWith_K (h₀:=X.base) I.ok.mod.kin hk (wpAny_noRaise (thn (ha pos pins s σ H _ (I.wish _) h) fun us s1 ⟨vs,H1,I1,r,q⟩=>⟨I1.kIn,?_⟩)) he hpl
 have I1':Inv X pins σ H1 s1:=I1.unwish
 have r2:Vals (vs ++ dvs) (us ++ ds):=r.append hd
 have hl:(us ++ ds).length = ps.length:=by rw [<- r2.length]; exact F.len _ _ _ _ q
 refine wpAny_call (codeAny_mono (F.run X.A X.stack s1 H1 ⟨us,[]⟩ (us ++ ds) (vs ++ dvs) Q E hr I1'.env0 (hb s1 us I1'.kIn hl) r2 q) fun r s' hq=>?_)
 cases r with
 | error e =>
  obtain ⟨x,C,t,dx,tb,H',rfl,os,bare,un,hok,ob,tr,hn,hsz,hT,q⟩:=hq
  exact ⟨.none,false,H',x,C,t,dx,tb,rfl,I1'.call' os un hok bare (fun b z=>absurd z (by simp)),ob,tr,I1'.fpOk hsz hn,fun T e=>I1'.fpOk (hT T e).2 (hT T e).1,q⟩
 | ok fl =>
  cases fl with
  | ret u=>exact I1'.after hq
  | next=>exact False.elim hq
  | brk=>exact False.elim hq
  | cont=>exact False.elim hq
end
abbrev Cx.suite (X:Cx) (e:Value):Cx:={ X with A:=X.A.mark (some e),calm:=false,xe:=fun _ _=>False }
theorem Inv.suite {X:Cx} {pins:List (Addr × Obj)} {σ:St} {H:Hp} {s:Shared} (I:Inv X pins σ H s) (e:Value):Inv (Cx.suite X e) pins σ H s :=
 ⟨⟨I.ok.mod,I.ok.kind,I.ok.glob,I.ok.blt,I.ok.above,I.ok.inj,I.ok.has,I.ok.cab,fun z=>absurd z (by simp [Cx.suite]),I.ok.frames,I.ok.stk,I.ok.exf,I.ok.bs,I.ok.bsz,I.ok.noex,I.ok.exfs,I.ok.funs,I.ok.frf⟩,
  I.os,I.bare,I.base,I.loc,I.cell,I.free,I.freeC,I.pin,I.hok,I.len⟩
theorem Inv.unsuite {X:Cx} {pins:List (Addr × Obj)} {σ σ':St} {H H':Hp} {s s':Shared} {e:Value} (J:Inv X pins σ' H' s') (I:Inv (Cx.suite X e) pins σ H s):Inv X pins σ H s :=
 ⟨J.ok,I.os,I.bare,I.base,I.loc,I.cell,I.free,I.freeC,I.pin,I.hok,I.len⟩
structure Hd where
 D:Addr
 i:Nat
 ts:TS
def tHs (K:PySem.W.Frag) (C:Addr) (dx:Option Addr) (x:Addr) (Dd:Ends) (σ:St) (H:Hp):List Hd -> Prop
 | []=>False
 | h :: r=>∃ b,PySem.W.subIn K (.ref C) (.ref h.D) = some b /\ if b = true then h.ts { Dd with nx:=fun σ' H'=>Dd.nx (σ'.set h.i none) H',bk:=fun σ' H'=>Dd.bk (σ'.set h.i none) H',ct:=fun σ' H'=>Dd.ct (σ'.set h.i none) H' } (σ.set h.i (some (.ref x))) H else tHs K C dx x Dd σ H r
section
variable {X:Cx} {pins:List (Addr × Obj)} {σ:St} {H:Hp} {s:Shared}
theorem wX {M:Model} {A:Around} {E:Value -> Shared -> Prop} {i:Nat} {n:Str} {pos:Pos} {Q:Unit -> Shared -> Prop} (I:Inv X pins σ H s) (hN:X.N.Nodup) (hi:X.N[i]? = some n) (hk:X.env.scope.names.lookup n = some .local)
  (h:∀ s',Inv X pins (σ.set i none) H s' -> Q () s'):wpAny M A (do bindName X.env n .none; unbindBehindTheSuite X.env n pos) Q E s:=by
 obtain ⟨m,hn,hl⟩:=id I.loc
 have hcls:(X.env.scope.kind == .class || (X.env.scope.kind == .module && X.env.locals != X.env.globals)) = false:=by rw [I.ok.kind]; rfl
 have hiσ:i < σ.length:=by rw [I.len]; exact (List.getElem?_eq_some_iff.mp hi).1
 have cne:=I.cne
 refine wpAny_nameGoes_keeps hk hn hcls fun h' v hn' hs=>?_
 obtain ⟨oL,_,_,hoL,_⟩:=id hn
 refine h _ ⟨I.ok,I.os,I.bare,⟨fun b o e n hb hx=>?_,fun b o e n hb hx=>?_,I.base.free,fun b o e hx=>?_,I.base.tups,I.base.frzs,I.base.tbls⟩,⟨_,hn',fun j y v' e1 e2 e3=>?_⟩,fun y c e=>?_,I.free,I.freeC,fun p hp=>?_,?_,by simpa using I.len⟩
 ·exact (hs.2 b (Nat.ne_of_lt (Nat.lt_of_lt_of_le (Heap.lt_size e) I.ok.above))).trans (I.base.keep b o e n hb hx)
 ·obtain ⟨sl,e1⟩:=I.base.slot b o e n hb hx
  exact ⟨sl,(hs.2 b (Nat.ne_of_lt (Nat.lt_of_lt_of_le (Heap.lt_size e) I.ok.above))).trans e1⟩
 ·obtain ⟨o',e1⟩:=I.base.there b o e hx
  exact ⟨o',(hs.2 b (Nat.ne_of_lt (Nat.lt_of_lt_of_le (Heap.lt_size e) I.ok.above))).trans e1⟩
 ·by_cases hj:j = i
  ·subst hj
   rw [List.getElem?_set_self hiσ] at e2
   cases e2
  ·rw [List.getElem?_set_ne (Ne.symm hj)] at e2
   obtain ⟨u',r',q⟩:=hl j y v' e1 e2 e3
   refine ⟨u',r',?_⟩
   rcases q with ⟨k,e⟩ | ⟨k,c,e,z⟩
   ·refine .inl ⟨k,?_⟩
    have:y ≠ n:=fun e=>hj (qM hN e1 (e ▸ hi))
    simp [this,e]
   ·exact .inr ⟨k,c,e,z.sameBut hs (cne y c e)⟩
 ·obtain ⟨w',z⟩:=I.cell y c e
  exact ⟨w',z.sameBut hs (cne y c e)⟩
 ·obtain ⟨e,n,ne,nf,d⟩:=I.pin p hp
  exact ⟨(hs.2 p.1 ne).trans e,n,ne,nf,d⟩
 ·exact HOk.but I.hok hs I.free
end
theorem Vr {M:Model} {A:Around} {E:Value -> Shared -> Prop} {K:PySem.W.Frag} {s:Shared} {x C D t:Addr} {dx:Option Addr} {tb cx:Value} {kx:Bool} {b:Bool} {Q:Bool -> Shared -> Prop} (X:K.In s.heap) (hD:jq K D = true) (he:s.heap.get? x = some (xog C dx t tb cx kx))
  (hs:PySem.W.subIn K (.ref C) (.ref D) = some b) (h:Q b s):wpAny M A (excMatches (.ref x) (.ref D)) Q E s:=by
 obtain ⟨bm,N,nm,qn,bs,sn,sub,ab,col,dd,k0,k1,k2,k3,k5,lk,tl⟩:=w9 hD
 have hDo:=X _ _ lk
 have T:=tl _ X
 have hcB:(Value.ref D :: bm).contains (.type "BaseException") = true:=by rw [List.contains_cons,T.hasType (show bmV.contains (.type "BaseException") = true by decide +kernel),Bool.or_true]
 have L:=PySem.W.looks_subIn (M:=M) X hs
 have f:=tc_notTuple
 obtain ⟨hp,g,d,tk,os⟩:=s
 unfold excMatches
 repeat (first | with_reducible refine wpAny_loadPart_at he ?_ | with_reducible refine wpAny_loadPart_at hDo ?_ | (with_reducible refine wpAny_isSubtype_exc hDo ?_; rw [hcB]) | (with_reducible refine PySem.W.Looks.at L ?_) | wp_step)
 cases b with
 | false=>exact wpAny_pure (wpAny_pure (wpAny_pure h))
 | true=>exact wpAny_pure (wpAny_pure (wpAny_pure h))
structure Kv (X:Cx) (h:ExceptHandler) (d:Hd):Prop where
 ex:∃ (cn n:Str) (np pos:Pos) (b0:Stmt) (suite:List Stmt),h = .ExceptHandler (some (.Name cn np)) (some n) (b0 :: suite) pos /\ Gl X cn /\ X.mg cn = some (.ref d.D) /\ X.N[d.i]? = some n /\ X.env.scope.names.lookup n = some .local /\ (cn == ("__debug__" : Str)) = false /\
  (∀ e,PSs (Cx.suite X e) (b0 :: suite) d.ts)
 xc:jq X.K d.D = true
inductive j8 (X:Cx):List ExceptHandler -> List Hd -> Prop
 | nil {hs}:j8 X hs []
 | cons {h d hs ds}:Kv X h d -> j8 X hs ds -> j8 X (h :: hs) (d :: ds)
section
variable {X:Cx}
theorem j5 (hN:X.N.Nodup):∀ {hs:List ExceptHandler} {ds:List Hd},j8 X hs ds -> ∀ {pins:List (Addr × Obj)} {s:Shared} {σ:St} {H:Hp} {Dd:Ends} {x C T:Addr} {dx:Option Addr},Inv X pins σ H s -> H x = some (XT x C dx) ->
  (∃ t cx kx,s.heap.get? x = some (xog C dx t (.ref T) cx kx)) -> (∃ oT ts,s.heap.get? T = some oT /\ oT.data = .fields ts /\ 3 < ts.size) -> xM X pins H T -> tHs X.K C dx x Dd σ H ds ->
  wpAny (model X.prog X.w) X.A (handleBy (.ref x) X.env hs) (SP X pins Dd) X.xe s
 | _,_,.nil,_,_,_,_,_,_,_,_,_,_,_,_,_,_,h=>h.elim
 | _,_,.cons h1 h2,pins,s,σ,H,Dd,x,C,T,dx,I,hx,⟨t,cx,kx,ob⟩,⟨oT,ts,eT,dT,zT⟩,fT,h=>by
  obtain ⟨⟨cn,n,np,pos,b0,suite,rfl,hg,hm,hi,hk,hdb,hsu⟩,xc⟩:=h1
  obtain ⟨b,hb,q⟩:=h
  have I':=Inv.suite I (.ref x)
  refine wpAny_handleBy_cons (codeAny_handlers_test (wf (X:=Cx.suite X (.ref x)) I' hg hm (Vr I.kIn xc ob hb ?_) hdb)) (by intro q; cases q)
  cases b with
  | false =>
   rw [if_neg Bool.false_ne_true] at q
   exact j5 hN h2 I hx ⟨t,cx,kx,ob⟩ ⟨oT,ts,eT,dT,zT⟩ fT q
  | true =>
   rw [if_pos rfl] at q
   refine codeAny_handlers_suite_as ?_
   unfold setFlight
   refine wpAny_bind (wpAny_field ob rfl (x:=.ref T) rfl ?_)
   rw [if_pos (show (Value.ref T != Value.none) = true from by simp)]
   refine wpAny_setField eT dT zT ?_
   obtain ⟨f0,f1,f2,f3,f4,f5⟩:=fT
   have I2:Inv X pins σ H { s with heap:=s.heap.update T (Obj.mapFields (·.setIfInBounds 3 ((none:Option Addr).elim Value.none fun f=>rawInt f))) } :=
    I.turned (t':=s.toks) (fun b o hb e=>(Heap.get?_update_other _ _ (Ne.symm hb)).trans e) f0 f1 f3 f4 f5
   refine jo (X:=Cx.suite X (.ref x)) (v:=.ref x) (Inv.suite I2 (.ref x)) hN hi (.inl hk) rfl (fun s3 I3=>?_) (.inr hk)
   refine wpAny_noRaise (thn (hsu _ pins s3 _ H _ I3 q) fun fl s4 q4=>?_)
   cases fl with
   | next =>
    obtain ⟨σ4,H4,I4,n4⟩:=q4
    exact wX (Inv.unsuite I I4) hN hi hk fun s5 I5=>⟨_,_,I5,n4⟩
   | brk =>
    obtain ⟨σ4,H4,I4,n4⟩:=q4
    exact wX (Inv.unsuite I I4) hN hi hk fun s5 I5=>⟨_,_,I5,n4⟩
   | cont =>
    obtain ⟨σ4,H4,I4,n4⟩:=q4
    exact wX (Inv.unsuite I I4) hN hi hk fun s5 I5=>⟨_,_,I5,n4⟩
   | ret v =>
    obtain ⟨y,σ4,H4,I4,r4,n4⟩:=q4
    exact wX (Inv.unsuite I I4) hN hi hk fun s5 I5=>⟨y,_,_,I5,r4,n4⟩
def tbL:Value -> List Addr
 | .ref b=>[b]
 | _=>[]
def Kl (K:PySem.W.Frag) (i:Nat) (te:TX) (hds:List Hd):TS:=fun D σ H=>te σ H (fun v H1=>D.nx (σ.set i (some v)) H1) fun cls dx H1=>∃ C,cls = .ref C /\ ∀ x,H1 x = none -> tHs K C dx x D σ (upd H1 x (XT x C dx)) hds
end
end L3
namespace L3
open PySem PySem.Spec PyProof.Rows L2
section
variable {prog:Program} {w:World} {A:Around} {E:Value -> Shared -> Prop} {s:Shared} {K:PySem.W.Frag} {x C:Addr} {ox:Obj} {od:Option Obj} {name:Str} {tk:Tok}
theorem Qp {fill expr:Bool} {Q:Value -> Shared -> Prop} (X:K.In s.heap) (xc:XC K C) (J:PySem.W.InstAt s.heap x ox C od)
  (h:wpAny (model prog w) A.in1 (Builtin.«object.__getattribute__» ⟨[.ref x,.str name tk],[]⟩) (fun fin s'=>match fin with | .done (.ret v)=>wpAny (model prog w) A (handedOut v) Q E s' | _=>False) (fun _ _=>False) s) :
  wpAny (model prog w) A (getAttrBy (.ref x) (.str name tk) fill expr) Q E s:=by
 obtain ⟨bm,N,nm,qn,bs,sn,sub,ab,col,dd,k0,k1,k2,k3,k5,lk,tl⟩:=w9 xc.ok
 have hC:=X _ _ lk
 have T:=tl _ X
 have FB:=PySem.F.attrBase_ValueError
 have L0:=J.type (M:=model prog w)
 have L1:=PySem.W.looks_findIn (M:=model prog w) X xc.ga
 have L2:=PySem.W.looks_findIn (M:=model prog w) X xc.gt
 have hcB:(Value.ref C :: bm).contains (.type "BaseException") = true:=by rw [List.contains_cons,T.hasType (show bmV.contains (.type "BaseException") = true by decide +kernel),Bool.or_true]
 have isB:PySem.W.Looks (model prog w) s.heap (isInstance (.ref x) (.type "BaseException")) true:=L0.andThen (by have:=jH (M:=model prog w) hC (.type "BaseException"); rw [hcB] at this; exact this)
 have f3:=FB.ga.bind (.ref x)
 have hx0:(expr && onTheHeap (Value.builtin "BaseException.__getattribute__")) = false:=by cases expr <;> rfl
 have hx2:(Value.builtin "BaseException.__getattribute__" == Value.builtin "object.__getattribute__") = false:=by decide +kernel
 have hx1:(onTheHeap (Value.ref C) && Value.builtin "BaseException.__getattribute__" == Value.builtin "object.__getattribute__") = false:=by rw [hx2]; rfl
 unfold getAttrBy
 refine wpAny_holding (wpAny_bind (L0.here (wpAny_bind (L1.here ?_))))
 show wpAny _ _ (if (onTheHeap (Value.ref C) && Value.builtin "BaseException.__getattribute__" == Value.builtin "object.__getattribute__") = true then _ else _) _ _ _
 rw [hx1,if_neg Bool.false_ne_true]
 unfold getAttrByItsOwn hookBefore
 rw [if_pos (by rfl)]
 refine wpAny_bind (L2.here (wpAny_bind (wpAny_attempt (wpAny_holding ?_))))
 unfold callGetattribute
 rw [hx0,if_neg Bool.false_ne_true]
 unfold boundAndCalled
 rw [f3]
 refine wpAny_bind (wpAny_pure ?_)
 show wpAny (model prog w) A (call (.builtin "BaseException.__getattribute__") [.ref x,.str name tk]) _ _ s
 refine wpAny_call (codeAny_call_builtin FB.ga.plain PySem.F.entry_bexc_ga (@PySem.W.check_slot (model prog w) _ _ s "BaseException.__getattribute__" "BaseException" "__getattribute__" (.ref x) [.str name tk] [] _ (by decide +kernel) (by decide +kernel) isB (PySem.F.args_bexc_ga _ _) ?_))
 refine wpAny_mono h (fun fin s' z=>?_) fun _ _ z=>z.elim
 rcases fin with (_ | _ | _ | v) | _ <;> first | exact z | exact z.elim
theorem Vs {Q:Option Value -> Shared -> Prop} (X:K.In s.heap) (xc:XC K C) (J:PySem.W.InstAt s.heap x ox C od) (ha:PySem.W.findIn K (.ref C) "__class__" = some (some (.builtin "object.__class__")))
  (hn:PySem.W.specialIn K (.builtin "object.__class__") "__get__" = some (some (.builtin "getset_descriptor.__get__"))) (htk:PySem.W.takesIn K (.builtin "object.__class__") = some true) (hm:PySem.W.mroIn K C (.type "object") = some true)
  (h:Q (some (.ref C)) { s with toks:=s.toks + 1 }):wpAny (model prog w) A (getAttr? (.ref x) "__class__") Q E s:=by
 have hf:PySem.W.findObj K C od "__class__" = some (.bind (.builtin "getset_descriptor.__get__") (.builtin "object.__class__")):=by
  obtain ⟨bm,N,nm,qn,bs,sn,sub,ab,col,dd,k0,k1,k2,k3,k5,lk,tl⟩:=w9 xc.ok
  have hcl:(PySem.W.clsIn K C).isSome = true:=by unfold PySem.W.clsIn; rw [lk]; rfl
  obtain ⟨cd,hc⟩:=Option.isSome_iff_exists.mp hcl
  unfold PySem.W.findObj
  rw [hc,Option.bind_some,ha,Option.bind_some]
  simp [hn,htk]
 unfold getAttr? getAttrBy?
 refine wpAny_bind (wpAny_mkText (wpAny_bind (wpAny_attempt (Qp (s:={ s with toks:=s.toks + 1 }) X xc J ?_))))
 have L0:=J.type (M:=model prog w)
 have L1:=PySem.W.looks_find (M:=model prog w) X J hf
 unfold Builtin.«object.__getattribute__»
 refine wpAny_bind (wpAny_pure (wpAny_bind (wpAny_pure (wpAny_bind (L0.here (s:={ s with toks:=s.toks + 1 }) (wpAny_bind (L1.here (s:={ s with toks:=s.toks + 1 }) ?_)))))))
 show wpAny _ _ (holding [.builtin "object.__class__"] (call (.builtin "getset_descriptor.__get__") [.builtin "object.__class__",.ref x,.ref C]) >>= ret) _ _ _
 refine wpAny_bind (wpAny_holding (wpAny_call (PySem.W.class_get (s:={ s with toks:=s.toks + 1 }) X J hm ?_)))
 refine wpAny_pure ?_
 show wpAny _ _ (handedOut (.ref C)) _ _ _
 rw [PySem.W.handedOut_of rfl]
 exact wpAny_pure (wpAny_pure h)
end
structure XI (K:PySem.W.Frag) (C:Addr):Prop extends XC K C where
 ca:PySem.W.findIn K (.ref C) "__class__" = some (some (.builtin "object.__class__"))
 cg:PySem.W.specialIn K (.builtin "object.__class__") "__get__" = some (some (.builtin "getset_descriptor.__get__"))
 ct:PySem.W.takesIn K (.builtin "object.__class__") = some true
 mo:PySem.W.mroIn K C (.type "object") = some true
theorem QA {h:Heap} {x C t:Addr} {tb c:Value} {k:Bool} (ob:h.get? x = some (xog C none t tb c k)):PySem.W.InstAt h x (xog C none t tb c k) C none:=⟨ob,rfl,rfl,trivial⟩
theorem QO {K:PySem.W.Frag} {x C:Addr} {dx:Option Addr} (xi:XI K C):PySem.W.KitX K (.ref x) (.ref C) (fun h=>(∃ t tb c k,h.get? x = some (xog C dx t tb c k)) /\ ∀ d,dx = some d -> ∃ o,h.get? d = some o) where
 ty:=fun M h X ⟨⟨t,tb,c,k',ob⟩,_⟩=>(PySem.W.Looks.ld ob).andThen .now
 it:=fun M h X _=>by
  obtain ⟨bm,N,nm,qn,bs,sn,sub,ab,col,dd,k0,k1,k2,k3,k5,lk,tl⟩:=w9 xi.ok
  intro A' Q' E' s' k q
  unfold isType loadHead
  exact wpAny_bind (wpAny_loadPart (k _ _ (X _ _ lk)) (wpAny_pure q))
 ne:=fun h tp dd its n sl X htp=>by
  obtain ⟨bm,N,nm,qn,bs,sn,sub,ab,col,dd,k0,k1,k2,k3,k5,lk,tl⟩:=w9 xi.ok
  refine Bool.eq_false_iff.mpr fun q=>?_
  have e:C = tp:=Value.ref.inj (beq_iff_eq.mp q)
  subst e
  have z:=congrArg (fun o:Option Obj=>o.map fun o=>match o.data with | .cls _=>true | _=>false) ((X _ _ lk).symm.trans htp)
  exact absurd (show true = false from Option.some.inj z) (by decide)
 ca:=fun {prog w A E Q s} X ⟨⟨t,tb,c,k',ob⟩,hd⟩ k=>by
  cases dx with
  | none=>exact Vs X xi.toXC (QA ob) xi.ca xi.cg xi.ct xi.mo k
  | some d =>
   obtain ⟨o,e⟩:=hd d rfl
   exact Vs (od:=some o) X xi.toXC ⟨ob,rfl,rfl,e⟩ xi.ca xi.cg xi.ct xi.mo k
section
variable {X:Cx}
def XAt (H:Hp) (x C:Addr) (dx:Option Addr) (fs:List (Str × V)):Prop:=H x = some (XT x C dx) /\ ((dx = none /\ fs = []) \/ ∃ d,dx = some d /\ H d = some (.xd fs))
theorem YX:vR X (.builtin "isinstance") (fun xs H Q=>∃ x C dx fs c u b,xs = [.ref x,c] /\ cV c = some u /\ XAt H x C dx fs /\ XI X.K C /\ PySem.W.kitOne X.K (.ref C) u = some b /\ Q (.bl b) H):=by
 intro pins s σ H xs us Q I r h
 obtain ⟨x,C,dx,fs,c,u,b,rfl,hc,⟨hx,hd⟩,xi,e,q⟩:=h
 obtain ⟨v,w',rfl,rx,rc⟩:=Xl r
 cases rx
 have:w' = u:=by
  cases c with
  | ty n=>cases hc; exact rc
  | ref a=>cases hc; exact rc
  | _=>cases hc
 subst this
 refine PySem.W.kia_one (QO (dx:=dx) xi) I.kIn ⟨Jg (I.hok _ _ hx),fun d z=>?_⟩ e (fun z=>nomatch z) fun tk=>⟨.bl b,H,I.tok tk,rfl,q⟩
 rcases hd with ⟨z',_⟩ | ⟨d',z',hd'⟩
 ·rw [z'] at z; cases z
 ·rw [z'] at z; cases z
  obtain ⟨mA,⟨o,es,ep,ho,_⟩,_⟩:=I.hok _ _ hd'
  exact ⟨o,ho⟩
def Q8 (K:PySem.W.Frag) (ta:TE) (f:Str):TE:=fun σ H Q=>ta σ H fun y H1=>∃ x C dx fs v,y = .ref x /\ XAt H1 x C dx fs /\ XC K C /\ PySem.W.hasDictIn K C = true /\ NoAttr K C f /\ fs.lookup f = some v /\ Q v H1
end
end L3
namespace L3
open PySem PySem.Spec PyProof.Rows L2
structure Df (P:Program) (w:World) (K:PySem.W.Frag) (mg:Str -> Option Value) (base:Heap) (CX:CXT) (k:Nat) (nm:Str) (ps:List Str) (ds:List Value) (sp:Sp):Prop where
 ex:∃ f fd,yo P w K mg base CX k f fd ps sp /\ mg nm = some (.ref f) /\ PySem.W.keepIn K (.ref f) = true /\ Binds K fd ps ds
structure Bt (mg:Str -> Option Value):Prop where
 len:mg "len" = none
 range:mg "range" = none
 isi:mg "isinstance" = none
 str:mg "str" = none
 int:mg "int" = none
 tuple:mg "tuple" = none
 list:mg "list" = none
 bool:mg "bool" = none
 enum:mg "enumerate" = none
 all:mg "all" = none
 verr:mg "ValueError" = none
 max:mg "max" = none
 rev:mg "reversed" = none
 zip:mg "zip" = none
 sum:mg "sum" = none
 sorted:mg "sorted" = none
section
variable {X:Cx} {CX:CXT} {k:Nat} {ps:List Str} {sp:Sp} {ds:List Value} {dvs:List V} {E:XK} {x:Str} {p pos:Pos} {e:Expr} {es:List Expr} {t:TA}
theorem cl0 {j:Nat} (D:Df X.prog X.w X.K X.mg X.base CX0 k x ps ds sp) (hr:Room j X.A) (hd:Vals dvs ds) (hg:Gl X x) (ha:PA X (e :: es) t) (hdb:(x == ("__debug__" : Str)) = false:=by decide) (he:starEach (e :: es) X.env = (false,eval e X.env) :: starEach es X.env:=by rfl)
  (hpl:(backTo pos (starEach es X.env)).any (·.1) = false:=by rfl) (hj:k <= j:=by decide):PE X (.Call (.Name x p) (e :: es) [] pos) (Ya sp dvs E0 t):=by
 obtain ⟨f,fd,F,hm,hk,hb⟩:=D.ex
 exact Yv F (hr.mono hj) hg hm hk hb hd kr ha hdb he hpl
theorem clX {j:Nat} (D:Df X.prog X.w X.K X.mg X.base (CXx X.prog X.w) k x ps ds sp) (hr:Room j X.A) (hd:Vals dvs ds) (hg:Gl X x) (ha:PA X.nox (e :: es) t) (hdb:(x == ("__debug__" : Str)) = false:=by decide) (he:starEach (e :: es) X.env = (false,eval e X.env) :: starEach es X.env:=by rfl)
  (hpl:(backTo pos (starEach es X.env)).any (·.1) = false:=by rfl) (hj:k <= j:=by decide):PEX X (.Call (.Name x p) (e :: es) [] pos) (fun σ H Q E=>t σ H fun vs H1=>sp (vs ++ dvs) H1 Q E):=by
 obtain ⟨f,fd,F,hm,hk,hb⟩:=D.ex
 exact WC F (hr.mono hj) hg hm hk hb hd ha hdb he hpl
theorem clP {j:Nat} (hx:XE X E) (D:Df X.prog X.w X.K X.mg X.base (CXx X.prog X.w) k x ps ds sp) (hr:Room j X.A) (hd:Vals dvs ds) (hg:Gl X x) (ha:PA X (e :: es) t) (hdb:(x == ("__debug__" : Str)) = false:=by decide) (he:starEach (e :: es) X.env = (false,eval e X.env) :: starEach es X.env:=by rfl)
  (hpl:(backTo pos (starEach es X.env)).any (·.1) = false:=by rfl) (hj:k <= j:=by decide):PE X (.Call (.Name x p) (e :: es) [] pos) (Ya sp dvs E t):=by
 obtain ⟨f,fd,F,hm,hk,hb⟩:=D.ex
 exact Yv F (hr.mono hj) hg hm hk hb hd (Zx hx) ha hdb he hpl
end
theorem V3 {X:Cx} {cn n:Str} {np pos:Pos} {b0:Stmt} {suite:List Stmt} {hs:List ExceptHandler} {ds:List Hd} {D:Addr} {ts:TS} (i:Nat) (hsu:∀ e,PSs (Cx.suite X e) (b0 :: suite) ts) (hg:Gl X cn) (hm:X.mg cn = some (.ref D)) (hi:X.N[i]? = some n) (hk:X.env.scope.names.lookup n = some .local) (xc:jq X.K D = true) (r:j8 X hs ds)
  (hdb:(cn == ("__debug__" : Str)) = false:=by decide):j8 X (.ExceptHandler (some (.Name cn np)) (some n) (b0 :: suite) pos :: hs) (⟨D,i,ts⟩ :: ds) :=
 .cons ⟨⟨cn,n,np,pos,b0,suite,rfl,hg,hm,hi,hk,hdb,hsu⟩,xc⟩ r
def TyX (K:PySem.W.Frag) (H:Hp) (x:V) (t:Value):Prop:=Zn K H x t \/ (∃ a C dx fs,x = .ref a /\ t = .ref C /\ XAt H a C dx fs /\ XI K C) \/ (∃ a xs,x = .ref a /\ t = .type "list" /\ SqL K H a xs) \/ ∃ a xs,x = .ref a /\ t = .type "tuple" /\ SqT K H a xs
def Uz (K:PySem.W.Frag):List V -> Hp -> VK -> Prop:=fun xs H Q=>∃ x c u t b,xs = [x,c] /\ cV c = some u /\ TyX K H x t /\ PySem.W.kitOne K t u = some b /\ Q (.bl b) H
theorem Qy {X:Cx}:vR X (.builtin "isinstance") (Uz X.K):=by
 intro pins s σ H xs us Q I r h
 obtain ⟨x,c,u,t,b,rfl,hc,ty,e,q⟩:=h
 rcases ty with ty | ⟨a,C,dx,fs,rfl,rfl,ha,xi⟩ | ⟨a,ys,rfl,rfl,hq⟩ | ⟨a,ys,rfl,rfl,hq⟩
 ·exact WU pins s σ H _ us Q I r ⟨x,c,u,t,b,rfl,hc,ty,e,q⟩
 ·exact YX pins s σ H _ us Q I r ⟨a,C,dx,fs,c,u,b,rfl,hc,ha,xi,e,q⟩
 all_goals
  obtain ⟨v,w',rfl,rx,rc⟩:=Xl r
  have:w' = u:=by
   cases c with
   | ty n=>cases hc; exact rc
   | ref a=>cases hc; exact rc
   | _=>cases hc
  subst this
  cases rx
 ·obtain ⟨its,_,p,_⟩:=I.list hq
  obtain ⟨o,h1,h2,_⟩:=p.isList
  exact PySem.W.kia_one PySem.W.kitx_list I.kIn ⟨o,h1,h2⟩ e (fun z=>nomatch z) fun tk=>⟨.bl b,H,I.tok tk,rfl,q⟩
 ·obtain ⟨its,_,p,_⟩:=I.tuple hq
  obtain ⟨o,h1,h2,_⟩:=p
  exact PySem.W.kia_one PySem.W.kitx_tuple I.kIn ⟨o,h1,h2⟩ e (fun z=>nomatch z) fun tk=>⟨.bl b,H,I.tok tk,rfl,q⟩
theorem Vx {X:Cx} {e:Expr} {te:TE} {c:Str} {C:Addr} {p q pos:Pos} (h1:Gl X "isinstance") (h2:X.mg "isinstance" = none) (he:PE X e te) (hg:Gl X c) (hm:X.mg c = some (.ref C)) (hd:(c == ("__debug__" : Str)) = false:=by decide)
  (hs1:starEach [e,.Name c q] X.env = (false,eval e X.env) :: starEach [.Name c q] X.env:=by rfl) (hs3:starEach [.Name c q] X.env = (false,eval (.Name c q) X.env) :: starEach [] X.env:=by rfl) (hs2:(backTo pos (starEach [.Name c q] X.env)).any (·.1) = false:=by rfl):PE X (.Call (.Name "isinstance" p) [e,.Name c q] [] pos) (tCB (Uz X.K) (yL te (yL (tC (.ref C)) qf))) :=
 zp Qy h1 h2 boot_isinstance (za he (za (uI hg hm rfl hd) zc hs3) hs1) (he:=hs1) (hpl:=hs2)
theorem wL {X:Cx} {e:Expr} {te:TE} {c:Str} {n:String} {p q pos:Pos} (h1:Gl X "isinstance") (h2:X.mg "isinstance" = none) (he:PE X e te) (hg:Gl X c) (hm:X.mg c = none) (hv:bootBuiltins c = some (.type n)) (hn:c ≠ "__name__":=by decide) (hd:(c == ("__debug__" : Str)) = false:=by decide)
  (hs1:starEach [e,.Name c q] X.env = (false,eval e X.env) :: starEach [.Name c q] X.env:=by rfl) (hs3:starEach [.Name c q] X.env = (false,eval (.Name c q) X.env) :: starEach [] X.env:=by rfl) (hs2:(backTo pos (starEach [.Name c q] X.env)).any (·.1) = false:=by rfl):PE X (.Call (.Name "isinstance" p) [e,.Name c q] [] pos) (tCB (Uz X.K) (yL te (yL (tC (.ty n)) qf))) :=
 zp Qy h1 h2 boot_isinstance (za he (za (V5 hg hm hv rfl hn hd) zc hs3) hs1) (he:=hs1) (hpl:=hs2)
theorem Qj {a:Addr}:cV (.ref a) = some (.ref a):=rfl
theorem Jp {n:String}:cV (.ty n) = some (.type n):=rfl
theorem Kt {P w K mg base N q sc f cd A o s H}:(cxH P w K mg base N q sc f cd A o s H).K = K:=rfl
def XQ:V -> List V -> Hp -> VK -> Prop:=fun x xs H Q=>∃ z y,x = .str z /\ xs = [.str y] /\ Q (.int (Txt.count z y)) H
theorem X7 {X:Cx}:MtR X "str.count" XQ:=W0
def VC:V -> List V -> Hp -> VK -> Prop:=fun x xs H Q=>∃ z y,x = .str z /\ xs = [.str y] /\ Q (.int (Txt.find z y)) H
theorem Qn {X:Cx}:MtR X "str.find" VC:=VA
theorem XA (l:List Nat) (c:Nat):Txt.count (tx l) (tx [c]) = (l.count c:Int):=by
 have h:∀ l:List Nat,cnt c l = (l.count c:Int):=fun l=>by
  induction l with
  | nil=>rfl
  | cons n r ih =>
   rw [cnt_cons,ih,List.count_cons]
   by_cases e:n = c
   ·subst e; simp; omega
   ·have:(n == c) = false:=by simpa using e
    simp [e,this]
 exact (PyProof.Rows.count_is (tx l) c).trans (h l)
theorem lt1 {a b:Nat}:([a]:List Nat) < [b] ↔ a < b:=by rw [List.cons_lt_cons_iff]; exact ⟨fun h=>h.elim id fun ⟨_,q⟩=>absurd q (List.not_lt_nil _),.inl⟩
theorem Xb {l:List Nat} {k v:Nat} (h:l[k]? = some v):(v :: (l.take k ++ l.drop (k + 1))).Perm l:=by
 obtain ⟨hk,e⟩:=List.getElem?_eq_some_iff.mp h
 have e2:l.take k ++ (v :: l.drop (k + 1)) = l:=by
  rw [<- e,<- List.drop_eq_getElem_cons hk,List.take_append_drop]
 exact (List.perm_middle.symm.trans (by rw [e2]))
def QL (K:PySem.W.Frag):List V -> Hp -> VK -> Prop:=fun xs H Q=>∃ x n,xs = [x] /\ Jv K x H n /\ Q (.int n) H
theorem yg {X:Cx}:vR X (.builtin "len") (QL X.K):=WH
def ForR (lo:Int) (n:Nat) (g:TG) (tb:TS) (D:Ends) (σ:St) (H:Hp):Prop:=∃ W:Nat -> Nat -> St -> Hp -> Prop,(∃ m,W 0 m σ H) /\ ∀ i m σ H,W i m σ H ->
 ((Itr lo n).stop i H /\ D.nx σ H) \/ ((Itr lo n).go i H /\ ∃ N:St -> Hp -> Prop,(∀ σ' H',N σ' H' -> ∃ m',m' < m /\ W (i + 1) m' σ' H') /\ ∀ x H',(Itr lo n).yld i H x H' -> g x σ H' fun σ2 H2=>tb { D with nx:=N,ct:=N,bk:=D.nx } σ2 H2)
theorem Jr {ta:TA} {g:TG} {tb:TS} {D:Ends} {σ:St} {H:Hp}:Ve (V9 ta) g tb D σ H = ta σ H fun vs H1=>∃ j:Int,vs = [.int j] /\ -(2 ^ 62) <= j /\ j < 2 ^ 62 /\ ForR 0 j.toNat g tb D σ H1:=rfl
theorem QY {ta:TA} {g:TG} {tb:TS} {D:Ends} {σ:St} {H:Hp}:Ve (Uj ta) g tb D σ H = ta σ H fun vs H1=>∃ i j:Int,vs = [.int i,.int j] /\ (-(2 ^ 62) <= i /\ i < 2 ^ 62 /\ -(2 ^ 62) <= j /\ j < 2 ^ 62) /\ ForR i (j - i).toNat g tb D σ H1:=rfl
theorem ForR.by {lo:Int} {n:Nat} {g:TG} {tb:TS} {D:Ends} {σ:St} {H:Hp} (Pv:Nat -> St -> Hp -> Prop) (h0:Pv 0 σ H)
  (hs:∀ i σ H,i < n -> Pv i σ H -> g (.int (lo + i)) σ H fun σ2 H2=>tb { D with nx:=Pv (i + 1),ct:=Pv (i + 1),bk:=D.nx } σ2 H2) (hd:∀ σ H,Pv n σ H -> D.nx σ H):ForR lo n g tb D σ H:=Yx Pv h0 hs hd
def ForL (K:PySem.W.Frag) (a:Addr) (g:TG) (tb:TS) (D:Ends) (σ:St) (H:Hp):Prop:=∃ W:Nat -> Nat -> St -> Hp -> Prop,(∃ m,W 0 m σ H) /\ ∀ i m σ H,W i m σ H ->
 ((Itl K a).stop i H /\ D.nx σ H) \/ ((Itl K a).go i H /\ ∃ N:St -> Hp -> Prop,(∀ σ' H',N σ' H' -> ∃ m',m' < m /\ W (i + 1) m' σ' H') /\ ∀ x H',(Itl K a).yld i H x H' -> g x σ H' fun σ2 H2=>tb { D with nx:=N,ct:=N,bk:=D.nx } σ2 H2)
theorem Kg {K:PySem.W.Frag} {tl:TE} {g:TG} {tb:TS} {D:Ends} {σ:St} {H:Hp}:Ve (VJ K tl) g tb D σ H = tl σ H fun x H1=>∃ a,x = .ref a /\ (∃ xs,SqL K H1 a xs) /\ ForL K a g tb D σ H1:=rfl
def ForS (x:Str) (g:TG) (tb:TS) (D:Ends) (σ:St) (H:Hp):Prop:=∃ W:Nat -> Nat -> St -> Hp -> Prop,(∃ m,W 0 m σ H) /\ ∀ i m σ H,W i m σ H ->
 ((Its x).stop i H /\ D.nx σ H) \/ ((Its x).go i H /\ ∃ N:St -> Hp -> Prop,(∀ σ' H',N σ' H' -> ∃ m',m' < m /\ W (i + 1) m' σ' H') /\ ∀ v H',(Its x).yld i H v H' -> g v σ H' fun σ2 H2=>tb { D with nx:=N,ct:=N,bk:=D.nx } σ2 H2)
theorem Kz {tl:TE} {g:TG} {tb:TS} {D:Ends} {σ:St} {H:Hp}:Ve (Q2 tl) g tb D σ H = tl σ H fun v H1=>∃ x,v = .str x /\ ForS x g tb D σ H1:=rfl
theorem ForS.by {l:List Nat} {g:TG} {tb:TS} {D:Ends} {σ:St} {H:Hp} (Pv:Nat -> St -> Hp -> Prop) (h0:Pv 0 σ H)
  (hs:∀ i c σ H,l[i]? = some c -> Pv i σ H -> g (.str (tx [c])) σ H fun σ2 H2=>tb { D with nx:=Pv (i + 1),ct:=Pv (i + 1),bk:=D.nx } σ2 H2) (hd:∀ σ H,Pv l.length σ H -> D.nx σ H):ForS (tx l) g tb D σ H:=VT Pv h0 hs hd
def KF (x:Str) (g:TG) (tb:TS) (D:Ends) (σ:St) (H:Hp):Prop:=∃ W:Nat -> Nat -> St -> Hp -> Prop,(∃ m,W 0 m σ H) /\ ∀ i m σ H,W i m σ H ->
 ((Ite x).stop i H /\ D.nx σ H) \/ ((Ite x).go i H /\ ∃ N:St -> Hp -> Prop,(∀ σ' H',N σ' H' -> ∃ m',m' < m /\ W (i + 1) m' σ' H') /\ ∀ v H',(Ite x).yld i H v H' -> g v σ H' fun σ2 H2=>tb { D with nx:=N,ct:=N,bk:=D.nx } σ2 H2)
theorem KA {ta:TA} {g:TG} {tb:TS} {D:Ends} {σ:St} {H:Hp}:Ve (Jt ta) g tb D σ H = ta σ H fun vs H1=>∃ x,vs = [.str x] /\ KF x g tb D σ H1:=rfl
theorem Zh {α:Type} (l:List α) {k:Int} (h:0 <= k):cut l none (some k) = l.take k.toNat:=by
 obtain ⟨n,rfl⟩:=Int.eq_ofNat_of_zero_le h
 unfold cut
 rw [HT.sIx_none,HT.sIx_nat,List.drop_zero,Nat.sub_zero]
 by_cases q:n <= l.length
 ·rw [Nat.min_eq_left q]; rfl
 ·rw [Nat.min_eq_right (by omega),List.take_length,List.take_of_length_le (by simp; omega)]
theorem vh {α:Type} (l:List α) {k:Int} (h:0 <= k):cut l (some k) none = l.drop k.toNat:=by
 obtain ⟨n,rfl⟩:=Int.eq_ofNat_of_zero_le h
 unfold cut
 rw [HT.sIx_none,HT.sIx_nat]
 by_cases q:n <= l.length
 ·rw [Nat.min_eq_left q]
  rw [List.take_of_length_le (by rw [List.length_drop] <;> omega)]
  rfl
 ·rw [Nat.min_eq_right (by omega),List.drop_length,List.drop_of_length_le (by simp; omega)]
  simp
theorem vL {α:Type} {xs:List α} {i:Int} (h0:0 <= i) (h1:i < xs.length):∃ v,atI xs i = some v /\ xs[i.toNat]? = some v:=by
 obtain ⟨n,rfl⟩:=Int.eq_ofNat_of_zero_le h0
 have hn:n < xs.length:=by omega
 exact ⟨xs[n],uU (List.getElem?_eq_getElem hn),List.getElem?_eq_getElem hn⟩
def alpha:List Nat:=[97,98,99,100,101,102,103,104,105,106,107,108,109,110,111,112,113,114,115,116,117,118,119,120,121,122]
theorem X9:(("abcdefghijklmnopqrstuvwxyz" : Str)) = tx alpha:=by decide +kernel
theorem yl:(sizeLine:Nat) = 16777216:=sizeLine_eq
theorem cxK {CX P w K mg base N q sc f cd A o s H E}:(ui CX P w K mg base N q sc f cd A o s H E).K = K:=rfl
theorem cxP {CX P w K mg base N q sc f cd A o s H E}:(ui CX P w K mg base N q sc f cd A o s H E).prog = P:=rfl
theorem cxW {CX P w K mg base N q sc f cd A o s H E}:(ui CX P w K mg base N q sc f cd A o s H E).w = w:=rfl
theorem Jj {a b:Int}:V7 (.int a) (.int b) = true:=rfl
theorem JE {a b:Str}:V7 (.str a) (.str b) = true:=rfl
theorem QT {a b:Bool}:V7 (.bl a) (.bl b) = true:=rfl
theorem JG {b:Str}:V7 .non (.str b) = true:=rfl
theorem Jx {b:Str}:V7 (.str b) .non = true:=rfl
theorem zd {H:Hp} {p:Addr} {o:HO} (h:H p = none):Same H (upd H p o):=fun b u e=>by
 rw [zo (zz e h)]
 exact e
theorem yb {α:Type} {l:List α} {i:Nat} {c:α} (h:l[i]? = some c):l.take (i + 1) = l.take i ++ [c]:=by
 rw [List.take_add_one,h]; rfl
end L3
namespace L3
open PySem PySem.Spec PyProof.Rows L2
structure FunD (K:PySem.W.Frag) (x qual:Str) (st:Stmt) (dV:Value) (f:Addr) (fd:FuncData):Prop where
 ex:∃ (oc:Value) (od:Option Addr) (kV doc pm:Value) (an:Option Addr) (cdv ct:Value) (osl:Array (Option Value)),
  fd = PySem.W.fnOf x qual (zm st) (zk st) (zb st) dV kV doc pm an cdv ct /\ K.lookup f = some ⟨oc,od,.func fd,osl⟩ /\ PySem.W.codeIn K cdv qual = true
theorem FunD.okX {P:Program} {w:World} {K:PySem.W.Frag} {mg:Str -> Option Value} {base:Heap} {x qual:Str} {st:Stmt} {dV:Value} {f:Addr} {fd:FuncData} {N ps:List Str} {k:Nat} {sp:Sp} (F:FunD K x qual st dV f fd) (S:zq N ps (zb st)) (len:∀ vs H Q E,sp vs H Q E -> vs.length = ps.length)
  (hbody:∀ (cdv:Value) (A:Around) (outer:List Env) (s:Shared) (H:Hp) (vs:List V) (Q:VK) (E:XK),Room k (A.deeper (envOfC qual (zb st) s.heap.objs.size f cdv)) -> XE (ui (CXx P w) P w K mg base N qual (zb st) f cdv A outer s H E) E -> sp vs H Q E ->
   ∃ t,PSs (ui (CXx P w) P w K mg base N qual (zb st) f cdv A outer s H E) (zk st) t /\ t { nx:=fun _ H'=>Q .non H',rt:=Q } (start N vs) H):yo P w K mg base (CXx P w) (k + 1) f fd ps sp:=by
 obtain ⟨oc,od,kV,doc,pm,an,cdv,ct,osl,rfl,lk,hcd⟩:=F.ex
 exact VS lk hcd S len fun A outer s H vs Q E hr hsp=>hbody cdv A outer s H vs Q E hr Qr hsp
def va (C:Addr) (f:Str):Sp:=fun vs H Q _=>∃ x v,vs = [.ref x,v] /\ H x = some (XN x C none) /\ ∀ dx,H dx = none -> Q .non (upd (upd H dx (.xd [(f,v)])) x (XN x C (some dx)))
def Ji (H:Hp) (d:Addr) (f:Str) (v:V) (H':Hp):Prop:=H d = none /\ Same H H' /\ H' d = some (.xd [(f,v)])
theorem Yq {E:XK} {C:Addr} {f:Str} {v:V} {H:Hp} (h:∀ d H',Ji H d f v H' -> E (.ref C) (some d) H'):∀ x,H x = none -> va C f [.ref x,v] (upd H x (XN x C none)) (fun u H2=>u = .non /\ ∃ dx,H2 x = some (XN x C dx) /\ E (.ref C) dx (del H2 x)) E0:=by
 intro x hx
 refine ⟨x,v,rfl,ze,fun dx hd=>⟨rfl,some dx,ze,h dx _ ⟨?_,?_,?_⟩⟩⟩
 ·by_cases e:dx = x
  ·rw [e]; exact hx
  ·rw [zo e] at hd; exact hd
 ·have hne:dx ≠ x:=fun e=>by rw [e,ze] at hd; cases hd
  rw [zo hne] at hd
  intro b o q
  have b1:b ≠ x:=zz q hx
  have b2:b ≠ dx:=zz q hd
  rw [X3 b1,zo b1,zo b2,zo b1]
  exact q
 ·have hne:dx ≠ x:=fun e=>by rw [e,ze] at hd; cases hd
  rw [X3 hne,zo hne,ze]
section
variable {X:Cx}
def Kq:R2:=fun x y H Q=>∃ c l,x = .str (tx [c]) /\ y = .str (tx l) /\ Q (.bl (!decide (c ∈ l))) H
def Kk:R2:=fun x y H Q=>∃ c l,x = .str (tx [c]) /\ y = .str (tx l) /\ Q (.bl (decide (c ∈ l))) H
def Kf:R2:=fun x y H Q=>y = .non /\ Q (.bl (decide (x = .non))) H
def QE:R2:=fun x y H Q=>y = .non /\ Q (.bl (!decide (x = .non))) H
theorem op_notN':OpR X (compareOp .IsNot) QE:=VI
def UT:List V -> Hp -> VK -> Prop:=fun xs H Q=>∃ i j,xs = [.int i,.int j] /\ Q (.int (if j > i then j else i)) H
theorem Vk (hc:X.calm = true):vR X (.builtin "max") UT:=XO hc
def rGe:R2:=fun x y H Q=>∃ i j,x = .int i /\ y = .int j /\ Q (.bl (decide (j <= i))) H
theorem op_ge':OpR X (compareOp .GtE) rGe:=Jo
def Kj (K:PySem.W.Frag) (ta:TE):TT:=fun σ H Q=>ta σ H fun x H'=>∃ k,UC K x H' k /\ Q k H'
end
theorem ug:bootBuiltins "max" = some (.builtin "max"):=by decide +kernel
def VR (ls l:List Nat) (m:Int) (k:Nat):Prop:=∃ c,l[k]? = some c /\ (m <= k \/ c ∉ ls)
def FB (ls l:List Nat) (m:Int) (k:Nat):Prop:=VR ls l m k /\ ∀ j < k,¬ VR ls l m j
def NB (ls l:List Nat) (m:Int):Prop:=∀ j,¬ VR ls l m j
theorem FB.nb {ls l:List Nat} {m:Int} {k:Nat} (h:FB ls l m k) (n:NB ls l m):False:=n k h.1
end L3
namespace L3
open PySem PySem.Spec PyProof.Rows L2
inductive D where
 | non | bl (b:Bool) | int (i:Int) | str (x:Str) | lst (l:List D) | tup (l:List D)
mutual
def Is (K:PySem.W.Frag) (H:Hp):D -> V -> Prop
 | .non,v=>v = .non
 | .bl b,v=>v = .bl b
 | .int i,v=>v = .int i
 | .str x,v=>v = .str x
 | .lst l,v=>∃ a xs,v = .ref a /\ SqL K H a xs /\ Iss K H l xs
 | .tup l,v=>∃ a xs,v = .ref a /\ SqT K H a xs /\ Iss K H l xs
def Iss (K:PySem.W.Frag) (H:Hp):List D -> List V -> Prop
 | [],vs=>vs = []
 | d :: l,vs=>∃ v r,vs = v :: r /\ Is K H d v /\ Iss K H l r
end
mutual
def eqD:D -> D -> Bool
 | .non,.non=>true
 | .bl a,.bl b=>a == b
 | .bl a,.int b=>(if a then 1 else 0) == b
 | .int a,.bl b=>a == (if b then 1 else 0)
 | .int a,.int b=>a == b
 | .str a,.str b=>a == b
 | .lst l,.lst m=>jC l m
 | .tup l,.tup m=>jC l m
 | _,_=>false
def jC:List D -> List D -> Bool
 | [],[]=>true
 | d :: l,e :: m=>eqD d e && jC l m
 | _,_=>false
end
mutual
def dpD:D -> Nat
 | .lst l=>uD l + 1
 | .tup l=>uD l + 1
 | _=>0
def uD:List D -> Nat
 | []=>0
 | d :: l=>max (dpD d) (uD l)
end
theorem UA:∀ {l:List D} {j:Nat} {d:D},l[j]? = some d -> dpD d <= uD l
 | d :: l,0,_,h=>by
  cases h
  simp only [uD]
  omega
 | d :: l,j + 1,e,h=>by
  have:=UA (l:=l) (j:=j) (d:=e) h
  simp only [uD]
  omega
mutual
theorem qJ:∀ d:D,eqD d d = true
 | .non=>rfl
 | .bl b=>by simp [eqD]
 | .int i=>by simp [eqD]
 | .str x=>by simp [eqD]
 | .lst l=>by simp only [eqD]; exact yO l
 | .tup l=>by simp only [eqD]; exact yO l
theorem yO:∀ l:List D,jC l l = true
 | []=>rfl
 | d :: l=>by simp only [jC,qJ d,yO l,Bool.and_self]
end
theorem Iss.len {K:PySem.W.Frag} {H:Hp}:∀ {l:List D} {vs:List V},Iss K H l vs -> vs.length = l.length
 | [],vs,h=>by simp only [Iss] at h; rw [h]; rfl
 | d :: l,vs,h=>by
  simp only [Iss] at h
  obtain ⟨v,r,rfl,_,h2⟩:=h
  simp only [List.length_cons,Iss.len h2]
theorem Iss.at {K:PySem.W.Frag} {H:Hp}:∀ {l:List D} {vs:List V} {j:Nat} {d:D},Iss K H l vs -> l[j]? = some d -> ∃ v,vs[j]? = some v /\ Is K H d v
 | d :: l,vs,0,_,h,q=>by
  cases q
  simp only [Iss] at h
  obtain ⟨v,r,rfl,h1,_⟩:=h
  exact ⟨v,rfl,h1⟩
 | d :: l,vs,j + 1,e,h,q=>by
  simp only [Iss] at h
  obtain ⟨v,r,rfl,_,h2⟩:=h
  exact Iss.at (j:=j) h2 q
theorem Iss.append {K:PySem.W.Frag} {H:Hp}:∀ {l m:List D} {vs us:List V},Iss K H l vs -> Iss K H m us -> Iss K H (l ++ m) (vs ++ us)
 | [],m,vs,us,h,g=>by simp only [Iss] at h; rw [h]; exact g
 | d :: l,m,vs,us,h,g=>by
  simp only [Iss] at h
  obtain ⟨v,r,rfl,h1,h2⟩:=h
  simp only [List.cons_append,Iss]
  exact ⟨v,r ++ us,rfl,h1,Iss.append h2 g⟩
theorem Iss.ints {K:PySem.W.Frag} {H:Hp}:∀ (l:List Int),Iss K H (l.map D.int) (l.map V.int)
 | []=>by simp only [List.map_nil,Iss]
 | i :: l=>by
  simp only [List.map_cons,Iss,Is]
  exact ⟨_,_,rfl,rfl,Iss.ints l⟩
theorem zD {K:PySem.W.Frag} {H H':Hp} {a:Addr} {xs:List V} (e:Same H H') (h:SqT K H a xs):SqT K H' a xs:=by
 rcases h with (h | ⟨o,h⟩) | h
 ·exact .inl (.inl (e _ _ h))
 ·exact .inl (.inr ⟨o,e _ _ h⟩)
 ·exact .inr h
mutual
theorem Is.same {K:PySem.W.Frag} {H H':Hp} (e:Same H H'):∀ (d:D) (v:V),Is K H d v -> Is K H' d v
 | .non,v,h=>by simp only [Is] at h ⊢; exact h
 | .bl b,v,h=>by simp only [Is] at h ⊢; exact h
 | .int b,v,h=>by simp only [Is] at h ⊢; exact h
 | .str b,v,h=>by simp only [Is] at h ⊢; exact h
 | .lst l,v,h=>by
  simp only [Is] at h ⊢
  obtain ⟨a,xs,e1,e2,e3⟩:=h
  exact ⟨a,xs,e1,e.seq e2,Iss.same e l xs e3⟩
 | .tup l,v,h=>by
  simp only [Is] at h ⊢
  obtain ⟨a,xs,e1,e2,e3⟩:=h
  exact ⟨a,xs,e1,zD e e2,Iss.same e l xs e3⟩
theorem Iss.same {K:PySem.W.Frag} {H H':Hp} (e:Same H H'):∀ (l:List D) (vs:List V),Iss K H l vs -> Iss K H' l vs
 | [],vs,h=>by simp only [Iss] at h ⊢; exact h
 | d :: l,vs,h=>by
  simp only [Iss] at h ⊢
  obtain ⟨v,r,e1,e2,e3⟩:=h
  exact ⟨v,r,e1,Is.same e d v e2,Iss.same e l r e3⟩
end
theorem xq:∀ (l m:List D),jC l m = ((List.range (min l.length m.length)).all (fun j=>eqD (l.getD j .non) (m.getD j .non)) && l.length == m.length)
 | [],[]=>rfl
 | [],e :: m=>by simp [jC]
 | d :: l,[]=>by simp [jC]
 | d :: l,e :: m=>by
  simp only [jC,xq l m,List.length_cons]
  have h1:min (l.length + 1) (m.length + 1) = min l.length m.length + 1:=by omega
  rw [h1,List.range_succ_eq_map,List.all_cons,List.all_map]
  have h2:(l.length + 1 == m.length + 1) = (l.length == m.length):=by
   rw [Bool.eq_iff_iff,beq_iff_eq,beq_iff_eq]; omega
  rw [h2]
  simp only [List.getD_cons_zero,Bool.and_assoc]
  rfl
section
variable {X:Cx} {pins:List (Addr × Obj)} {σ:St} {H:Hp} {s:Shared}
theorem jO {a:Addr} {xs ys:List V} (I:Inv X pins σ H s) (h:SqL X.K H a xs) (g:SqT X.K H a ys):False:=by
 obtain ⟨its,r,⟨o,n,e,c,_,d⟩,_⟩:=I.list h
 obtain ⟨its',r',⟨o',e',c',n',d'⟩,_⟩:=I.tuple g
 rw [e] at e'
 cases e'
 rw [c] at c'
 exact absurd (Value.type.inj c') (by decide)
mutual
theorem X8 (I:Inv X pins σ H s):∀ (d e:D) (v:V),Is X.K H d v -> Is X.K H e v -> d = e
 | .lst l,.lst m,v,h,g=>by
  simp only [Is] at h g
  obtain ⟨a,xs,rfl,h1,h2⟩:=h
  obtain ⟨b,ys,e,g1,g2⟩:=g
  cases e
  have:=I.list_inj h1 g1
  subst this
  rw [kC I l m xs h2 g2]
 | .tup l,.tup m,v,h,g=>by
  simp only [Is] at h g
  obtain ⟨a,xs,rfl,h1,h2⟩:=h
  obtain ⟨b,ys,e,g1,g2⟩:=g
  cases e
  have:=I.tuple_inj h1 g1
  subst this
  rw [kC I l m xs h2 g2]
 | .lst l,.tup m,v,h,g=>by
  simp only [Is] at h g
  obtain ⟨a,xs,rfl,h1,h2⟩:=h
  obtain ⟨b,ys,e,g1,g2⟩:=g
  cases e
  exact (jO I h1 g1).elim
 | .tup l,.lst m,v,h,g=>by
  simp only [Is] at h g
  obtain ⟨a,xs,rfl,h1,h2⟩:=h
  obtain ⟨b,ys,e,g1,g2⟩:=g
  cases e
  exact (jO I g1 h1).elim
 | .lst l,.non,v,h,g=>by simp only [Is] at h g; obtain ⟨a,xs,rfl,_⟩:=h; cases g
 | .lst l,.bl _,v,h,g=>by simp only [Is] at h g; obtain ⟨a,xs,rfl,_⟩:=h; cases g
 | .lst l,.int _,v,h,g=>by simp only [Is] at h g; obtain ⟨a,xs,rfl,_⟩:=h; cases g
 | .lst l,.str _,v,h,g=>by simp only [Is] at h g; obtain ⟨a,xs,rfl,_⟩:=h; cases g
 | .tup l,.non,v,h,g=>by simp only [Is] at h g; obtain ⟨a,xs,rfl,_⟩:=h; cases g
 | .tup l,.bl _,v,h,g=>by simp only [Is] at h g; obtain ⟨a,xs,rfl,_⟩:=h; cases g
 | .tup l,.int _,v,h,g=>by simp only [Is] at h g; obtain ⟨a,xs,rfl,_⟩:=h; cases g
 | .tup l,.str _,v,h,g=>by simp only [Is] at h g; obtain ⟨a,xs,rfl,_⟩:=h; cases g
 | .non,e,v,h,g=>by
  simp only [Is] at h
  subst h
  cases e <;> simp only [Is] at g
  all_goals first | rfl | (obtain ⟨a,xs,q,_⟩:=g; cases q) | cases g
 | .bl _,e,v,h,g=>by
  simp only [Is] at h
  subst h
  cases e <;> simp only [Is] at g
  all_goals first | (cases g; rfl) | (obtain ⟨a,xs,q,_⟩:=g; cases q) | cases g
 | .int _,e,v,h,g=>by
  simp only [Is] at h
  subst h
  cases e <;> simp only [Is] at g
  all_goals first | (cases g; rfl) | (obtain ⟨a,xs,q,_⟩:=g; cases q) | cases g
 | .str _,e,v,h,g=>by
  simp only [Is] at h
  subst h
  cases e <;> simp only [Is] at g
  all_goals first | (cases g; rfl) | (obtain ⟨a,xs,q,_⟩:=g; cases q) | cases g
theorem kC (I:Inv X pins σ H s):∀ (l m:List D) (vs:List V),Iss X.K H l vs -> Iss X.K H m vs -> l = m
 | [],[],_,_,_=>rfl
 | [],e :: m,vs,h,g=>by
  simp only [Iss] at h g
  subst h
  obtain ⟨_,_,q,_⟩:=g
  cases q
 | d :: l,[],vs,h,g=>by
  simp only [Iss] at h g
  subst g
  obtain ⟨_,_,q,_⟩:=h
  cases q
 | d :: l,e :: m,vs,h,g=>by
  simp only [Iss] at h g
  obtain ⟨v,r,rfl,h1,h2⟩:=h
  obtain ⟨v',r',q,g1,g2⟩:=g
  cases q
  rw [X8 I d e v h1 g1,kC I l m r h2 g2]
end
theorem wQ:∀ {xs:List V} {us:List Value} {j:Nat} {x:V},Vals xs us -> xs[j]? = some x -> ∃ u,us[j]? = some u /\ RelV x u
 | _,_,0,_,.cons r t,h=>by cases h; exact ⟨_,rfl,r⟩
 | _,_,j + 1,_,.cons r t,h=>wQ (j:=j) t h
theorem xn {l m:List D} {xs ys:List V} {its its':List Value} {A:Around} {n:Nat} (hl:Iss X.K H l xs) (hm:Iss X.K H m ys) (r:Vals xs its) (r':Vals ys its') (hn:uD l < n)
  (ih:∀ (d e:D) (x y:V) (u v:Value),dpD d < n -> Is X.K H d x -> Is X.K H e y -> RelV x u -> RelV y v -> SeqAt.EqAt A s u v (eqD d e)) :
  ∀ j (h1:j < its.toArray.size) (h2:j < its'.toArray.size),SeqAt.EqAt A s its.toArray[j] its'.toArray[j] (eqD (l.getD j .non) (m.getD j .non)):=by
 intro j h1 h2
 rw [List.size_toArray] at h1 h2
 have e1:=hl.len
 have e2:=hm.len
 have e3:=r.length
 have e4:=r'.length
 have g1:l[j]? = some l[j]:=List.getElem?_eq_getElem (by omega)
 have g2:m[j]? = some m[j]:=List.getElem?_eq_getElem (by omega)
 generalize l[j] = d at g1
 generalize m[j] = e at g2
 obtain ⟨x,hx,ix⟩:=hl.at g1
 obtain ⟨y,hy,iy⟩:=hm.at g2
 obtain ⟨u,hu,ru⟩:=wQ r hx
 obtain ⟨v,hv,rv⟩:=wQ r' hy
 have q1:its.toArray[j] = u:=by
  have:=(List.getElem?_eq_some_iff.mp hu).2
  simpa using this
 have q2:its'.toArray[j] = v:=by
  have:=(List.getElem?_eq_some_iff.mp hv).2
  simpa using this
 rw [q1,q2,List.getD_eq_getElem?_getD,List.getD_eq_getElem?_getD,g1,g2]
 exact ih d e x y u v (Nat.lt_of_le_of_lt (UA g1) hn) ix iy ru rv
theorem qo (I:Inv X pins σ H s):∀ (n:Nat) (A:Around) (d e:D) (x y:V) (u v:Value),A.units + n < cLine -> dpD d < n -> Is X.K H d x -> Is X.K H e y -> RelV x u -> RelV y v -> SeqAt.EqAt A s u v (eqD d e):=by
 intro n
 induction n with
 | zero=>intro A d e x y u v _ h; exact absurd h (Nat.not_lt_zero _)
 | succ n ih =>
  intro A d e x y u v hu hd hx hy rx ry
  have hu1:A.units < cLine:=by omega
  have huA:A.in1.units + n < cLine:=by show A.units + 1 + n < cLine; omega
  cases d with
  | lst l =>
   simp only [Is] at hx
   obtain ⟨a,xs,rfl,h1,h2⟩:=hx
   cases rx
   obtain ⟨its,r,p,_⟩:=I.list h1
   cases e with
   | non=>simp only [Is] at hy; subst hy; cases ry; exact SeqAt.EqAt.list_none p.isList hu1
   | bl b=>simp only [Is] at hy; subst hy; cases ry; exact SeqAt.EqAt.list_bool b p.isList hu1
   | int b=>simp only [Is] at hy; subst hy; obtain ⟨t,rfl⟩:=ry; exact SeqAt.EqAt.list_int b t p.isList hu1
   | str b=>simp only [Is] at hy; subst hy; obtain ⟨t,rfl⟩:=ry; exact SeqAt.EqAt.list_str b t p.isList hu1
   | tup m =>
    simp only [Is] at hy
    obtain ⟨b,ys,rfl,g1,g2⟩:=hy
    cases ry
    obtain ⟨its',r',p',_⟩:=I.tuple g1
    exact SeqAt.EqAt.list_tuple p.isList p' hu1
   | lst m =>
    have hy':=hy
    simp only [Is] at hy
    obtain ⟨b,ys,rfl,g1,g2⟩:=hy
    cases ry
    obtain ⟨its',r',p',_⟩:=I.list g1
    simp only [dpD] at hd
    by_cases hab:a = b
    ·subst hab
     have:=X8 I (.lst l) (.lst m) (.ref a) (by simp only [Is]; exact ⟨a,xs,rfl,h1,h2⟩) hy'
     rw [this,qJ]
     exact SeqAt.EqAt.same _
    ·refine .of_refs hab ?_
     simp only [eqD]
     have L1:=h2.len
     have L2:=g2.len
     have L3:=r.length
     have L4:=r'.length
     by_cases hl:l.length = m.length
     ·have:=SeqAt.RcAt.lists (A:=A) p.isList p'.isList (by simp only [List.size_toArray]; omega) hu1 (xn h2 g2 r r' (n:=n) (by omega) fun d e x y u v q1 q2 q3 q4 q5=>ih A.in1 d e x y u v huA q1 q2 q3 q4 q5)
      rw [xq,hl,Nat.min_self,beq_self_eq_true,Bool.and_true]
      have e1:its.toArray.size = m.length:=by simp only [List.size_toArray]; omega
      rw [e1] at this
      exact this
     ·rw [xq,beq_eq_false_iff_ne.mpr hl,Bool.and_false]
      exact SeqAt.RcAt.lists_lengths p.isList p'.isList (by rw [bne_iff_ne]; simp only [List.size_toArray]; omega) hu1
  | tup l =>
   simp only [Is] at hx
   obtain ⟨a,xs,rfl,h1,h2⟩:=hx
   cases rx
   obtain ⟨its,r,p,_⟩:=I.tuple h1
   cases e with
   | non=>simp only [Is] at hy; subst hy; cases ry; exact SeqAt.EqAt.tuple_none p hu1
   | bl b=>simp only [Is] at hy; subst hy; cases ry; exact SeqAt.EqAt.tuple_bool b p hu1
   | int b=>simp only [Is] at hy; subst hy; obtain ⟨t,rfl⟩:=ry; exact SeqAt.EqAt.tuple_int b t p hu1
   | str b=>simp only [Is] at hy; subst hy; obtain ⟨t,rfl⟩:=ry; exact SeqAt.EqAt.tuple_str b t p hu1
   | lst m =>
    simp only [Is] at hy
    obtain ⟨b,ys,rfl,g1,g2⟩:=hy
    cases ry
    obtain ⟨its',r',p',_⟩:=I.list g1
    exact SeqAt.EqAt.tuple_list p p'.isList hu1
   | tup m =>
    have hy':=hy
    simp only [Is] at hy
    obtain ⟨b,ys,rfl,g1,g2⟩:=hy
    cases ry
    obtain ⟨its',r',p',_⟩:=I.tuple g1
    simp only [dpD] at hd
    by_cases hab:a = b
    ·subst hab
     have:=X8 I (.tup l) (.tup m) (.ref a) (by simp only [Is]; exact ⟨a,xs,rfl,h1,h2⟩) hy'
     rw [this,qJ]
     exact SeqAt.EqAt.same _
    ·refine .of_refs hab ?_
     simp only [eqD]
     have L1:=h2.len
     have L2:=g2.len
     have L3:=r.length
     have L4:=r'.length
     have:=SeqAt.RcAt.tuples (A:=A) p p' hu1 (xn h2 g2 r r' (n:=n) (by omega) fun d e x y u v q1 q2 q3 q4 q5=>ih A.in1 d e x y u v huA q1 q2 q3 q4 q5)
     rw [xq]
     simp only [List.size_toArray] at this
     rw [<- L1,<- L2,L3,L4]
     exact this
  | non =>
   simp only [Is] at hx
   subst hx
   cases e with
   | lst m =>
    simp only [Is] at hy
    obtain ⟨b,ys,rfl,g1,g2⟩:=hy
    cases rx; cases ry
    obtain ⟨its',r',p',_⟩:=I.list g1
    exact SeqAt.EqAt.none_list p'.isList hu1
   | tup m =>
    simp only [Is] at hy
    obtain ⟨b,ys,rfl,g1,g2⟩:=hy
    cases rx; cases ry
    obtain ⟨its',r',p',_⟩:=I.tuple g1
    exact SeqAt.EqAt.none_tuple p' hu1
   | _=>simp only [Is] at hy; subst hy; exact Za rx ry rfl rfl
  | bl c =>
   simp only [Is] at hx
   subst hx
   cases e with
   | lst m =>
    simp only [Is] at hy
    obtain ⟨b,ys,rfl,g1,g2⟩:=hy
    cases rx; cases ry
    obtain ⟨its',r',p',_⟩:=I.list g1
    exact SeqAt.EqAt.bool_list _ p'.isList hu1
   | tup m =>
    simp only [Is] at hy
    obtain ⟨b,ys,rfl,g1,g2⟩:=hy
    cases rx; cases ry
    obtain ⟨its',r',p',_⟩:=I.tuple g1
    exact SeqAt.EqAt.bool_tuple _ p' hu1
   | _=>simp only [Is] at hy; subst hy; exact Za rx ry rfl rfl
  | int c =>
   simp only [Is] at hx
   subst hx
   cases e with
   | lst m =>
    simp only [Is] at hy
    obtain ⟨b,ys,rfl,g1,g2⟩:=hy
    obtain ⟨t,rfl⟩:=rx; cases ry
    obtain ⟨its',r',p',_⟩:=I.list g1
    exact SeqAt.EqAt.int_list _ _ p'.isList hu1
   | tup m =>
    simp only [Is] at hy
    obtain ⟨b,ys,rfl,g1,g2⟩:=hy
    obtain ⟨t,rfl⟩:=rx; cases ry
    obtain ⟨its',r',p',_⟩:=I.tuple g1
    exact SeqAt.EqAt.int_tuple _ _ p' hu1
   | _=>simp only [Is] at hy; subst hy; exact Za rx ry rfl rfl
  | str c =>
   simp only [Is] at hx
   subst hx
   cases e with
   | lst m =>
    simp only [Is] at hy
    obtain ⟨b,ys,rfl,g1,g2⟩:=hy
    obtain ⟨t,rfl⟩:=rx; cases ry
    obtain ⟨its',r',p',_⟩:=I.list g1
    exact SeqAt.EqAt.str_list _ _ p'.isList hu1
   | tup m =>
    simp only [Is] at hy
    obtain ⟨b,ys,rfl,g1,g2⟩:=hy
    obtain ⟨t,rfl⟩:=rx; cases ry
    obtain ⟨its',r',p',_⟩:=I.tuple g1
    exact SeqAt.EqAt.str_tuple _ _ p' hu1
   | _=>simp only [Is] at hy; subst hy; exact Za rx ry rfl rfl
def JL (K:PySem.W.Frag):R2:=fun x y H Q=>∃ l m,((Is K H (.lst l) x /\ Is K H (.lst m) y) \/ (Is K H (.tup l) x /\ Is K H (.tup m) y)) /\ uD l < 50 /\ Q (.bl (jC l m)) H
def JS (K:PySem.W.Frag):R2:=fun x y H Q=>∃ l m,((Is K H (.lst l) x /\ Is K H (.lst m) y) \/ (Is K H (.tup l) x /\ Is K H (.tup m) y)) /\ uD l < 50 /\ Q (.bl (!jC l m)) H
theorem Zv (hu:X.A.units + 100 < cLine):OpR X (compareOp .Eq) (JL X.K):=by
 intro pins s σ H x y v u Q I rx ry h
 obtain ⟨l,m,hh,hd,q⟩:=h
 have hu1:X.A.units < cLine:=by omega
 have huA:X.A.in1.units + 50 < cLine:=by show X.A.units + 1 + 50 < cLine; omega
 rcases hh with ⟨hx,hy⟩ | ⟨hx,hy⟩
 ·simp only [Is] at hx hy
  obtain ⟨a,xs,rfl,h1,h2⟩:=hx
  obtain ⟨b,ys,rfl,g1,g2⟩:=hy
  cases rx; cases ry
  obtain ⟨its,r,p,_⟩:=I.list h1
  obtain ⟨its',r',p',_⟩:=I.list g1
  have L1:=h2.len
  have L2:=g2.len
  have L3:=r.length
  have L4:=r'.length
  by_cases hl:l.length = m.length
  ·have:=SeqAt.RcAt.lists (A:=X.A) p.isList p'.isList (by simp only [List.size_toArray]; omega) hu1 (xn h2 g2 r r' (n:=50) hd fun d e x y u v q1 q2 q3 q4 q5=>qo I 50 X.A.in1 d e x y u v huA q1 q2 q3 q4 q5)
   have e1:its.toArray.size = m.length:=by simp only [List.size_toArray]; omega
   rw [e1] at this
   rw [xq,hl,Nat.min_self,beq_self_eq_true,Bool.and_true] at q
   exact this X.prog X.w X.xe _ ⟨.bl _,H,I,rfl,q⟩
  ·rw [xq,beq_eq_false_iff_ne.mpr hl,Bool.and_false] at q
   exact SeqAt.RcAt.lists_lengths p.isList p'.isList (by rw [bne_iff_ne]; simp only [List.size_toArray]; omega) hu1 X.prog X.w X.xe _ ⟨.bl _,H,I,rfl,q⟩
 ·simp only [Is] at hx hy
  obtain ⟨a,xs,rfl,h1,h2⟩:=hx
  obtain ⟨b,ys,rfl,g1,g2⟩:=hy
  cases rx; cases ry
  obtain ⟨its,r,p,_⟩:=I.tuple h1
  obtain ⟨its',r',p',_⟩:=I.tuple g1
  have L1:=h2.len
  have L2:=g2.len
  have L3:=r.length
  have L4:=r'.length
  have:=SeqAt.RcAt.tuples (A:=X.A) p p' hu1 (xn h2 g2 r r' (n:=50) hd fun d e x y u v q1 q2 q3 q4 q5=>qo I 50 X.A.in1 d e x y u v huA q1 q2 q3 q4 q5)
  simp only [List.size_toArray] at this
  rw [xq,<- L1,<- L2,L3,L4] at q
  exact this X.prog X.w X.xe _ ⟨.bl _,H,I,rfl,q⟩
theorem Vh (hu:X.A.units + 100 < cLine):OpR X (compareOp .NotEq) (JS X.K):=by
 intro pins s σ H x y v u Q I rx ry h
 obtain ⟨l,m,hh,hd,q⟩:=h
 have hu1:X.A.units < cLine:=by omega
 have huA:X.A.in1.units + 50 < cLine:=by show X.A.units + 1 + 50 < cLine; omega
 rcases hh with ⟨hx,hy⟩ | ⟨hx,hy⟩
 ·simp only [Is] at hx hy
  obtain ⟨a,xs,rfl,h1,h2⟩:=hx
  obtain ⟨b,ys,rfl,g1,g2⟩:=hy
  cases rx; cases ry
  obtain ⟨its,r,p,_⟩:=I.list h1
  obtain ⟨its',r',p',_⟩:=I.list g1
  have L1:=h2.len
  have L2:=g2.len
  have L3:=r.length
  have L4:=r'.length
  by_cases hl:l.length = m.length
  ·have:=SeqAt.RcNeAt.lists (A:=X.A) p.isList p'.isList (by simp only [List.size_toArray]; omega) hu1 (xn h2 g2 r r' (n:=50) hd fun d e x y u v q1 q2 q3 q4 q5=>qo I 50 X.A.in1 d e x y u v huA q1 q2 q3 q4 q5)
   have e1:its.toArray.size = m.length:=by simp only [List.size_toArray]; omega
   rw [e1] at this
   rw [xq,hl,Nat.min_self,beq_self_eq_true,Bool.and_true] at q
   exact this X.prog X.w X.xe _ ⟨.bl _,H,I,rfl,q⟩
  ·rw [xq,beq_eq_false_iff_ne.mpr hl,Bool.and_false] at q
   exact SeqAt.RcNeAt.lists_lengths p.isList p'.isList (by rw [bne_iff_ne]; simp only [List.size_toArray]; omega) hu1 X.prog X.w X.xe _ ⟨.bl _,H,I,rfl,q⟩
 ·simp only [Is] at hx hy
  obtain ⟨a,xs,rfl,h1,h2⟩:=hx
  obtain ⟨b,ys,rfl,g1,g2⟩:=hy
  cases rx; cases ry
  obtain ⟨its,r,p,_⟩:=I.tuple h1
  obtain ⟨its',r',p',_⟩:=I.tuple g1
  have L1:=h2.len
  have L2:=g2.len
  have L3:=r.length
  have L4:=r'.length
  have:=SeqAt.RcNeAt.tuples (A:=X.A) p p' hu1 (xn h2 g2 r r' (n:=50) hd fun d e x y u v q1 q2 q3 q4 q5=>qo I 50 X.A.in1 d e x y u v huA q1 q2 q3 q4 q5)
  simp only [List.size_toArray] at this
  rw [xq,<- L1,<- L2,L3,L4] at q
  exact this X.prog X.w X.xe _ ⟨.bl _,H,I,rfl,q⟩
end
theorem Wb (l m:List Int):jC (l.map D.int) (m.map D.int) = decide (l = m):=by
 induction l generalizing m with
 | nil=>cases m <;> simp [jC]
 | cons a l ih =>
  cases m with
  | nil=>simp [jC]
  | cons b m =>
   simp only [List.map_cons,jC,eqD,ih m]
   by_cases h1:a = b
   ·subst h1
    by_cases h2:l = m
    ·simp [h2]
    ·simp [h2]
   ·simp [h1]
theorem Ym (l:List Int):uD (l.map D.int) = 0:=by
 induction l with
 | nil=>rfl
 | cons a l ih=>simp only [List.map_cons,uD,dpD,ih]; rfl
abbrev CNx (n i:Nat) (Pv:Nat -> List V -> Hp -> Prop) (acc:List V) (H:Hp):Prop:=∃ m',m' < n - i /\ (m' = n - (i + 1) /\ i + 1 <= n /\ Pv (i + 1) acc H)
theorem CNx.mk {n i:Nat} {Pv:Nat -> List V -> Hp -> Prop} {acc:List V} {H:Hp} (hi:i < n) (h:Pv (i + 1) acc H):CNx n i Pv acc H:=⟨n - (i + 1),by omega,rfl,hi,h⟩
def Y2 (J:It) (g:TG) (tt:TT) (te:TE) (own:Nat) (ix:List Nat) (σ:St) (H1:Hp) (Q:VK) (D:Addr):Prop:=∃ W:Nat -> Nat -> List V -> Hp -> Prop,(∃ m,W 0 m [] (upd H1 D (.lst []))) /\
 ∀ i m acc H',W i m acc H' -> (J.stop i H' /\ Q (.ref D) H') \/ (J.go i H' /\ ∀ x H2,J.yld i H' x H2 -> g x (vj σ own ix) H2 fun σ3 H3=>xf (vj σ own ix) σ3 /\ tt σ3 H3 fun b H4=>if b = true then
  te σ3 H4 fun v H5=>H5 D = some (.lst acc) /\ acc.length < sizeLine /\ ∃ m',m' < m /\ W (i + 1) m' (acc ++ [v]) (upd H5 D (.lst (acc ++ [v])))
  else ∃ m',m' < m /\ W (i + 1) m' acc H4)
def CompR (lo:Int) (n:Nat) (g:TG) (tt:TT) (te:TE) (own:Nat) (ix:List Nat) (σ:St) (H1:Hp) (Q:VK) (D:Addr):Prop:=Y2 (Itr lo n) g tt te own ix σ H1 Q D
def CompL (K:PySem.W.Frag) (a:Addr) (g:TG) (tt:TT) (te:TE) (own:Nat) (ix:List Nat) (σ:St) (H1:Hp) (Q:VK) (D:Addr):Prop:=Y2 (Itl K a) g tt te own ix σ H1 Q D
def CompS (x:Str) (g:TG) (tt:TT) (te:TE) (own:Nat) (ix:List Nat) (σ:St) (H1:Hp) (Q:VK) (D:Addr):Prop:=Y2 (Its x) g tt te own ix σ H1 Q D
theorem UM {ta:TA} {g:TG} {tt:TT} {te:TE} {own:Nat} {ix:List Nat} {σ:St} {H:Hp} {Q:VK}:qz (V9 ta) g tt te own ix σ H Q = ta σ H fun vs H1=>∃ j:Int,vs = [.int j] /\ -(2 ^ 62) <= j /\ j < 2 ^ 62 /\ ∀ D,H1 D = none -> CompR 0 j.toNat g tt te own ix σ H1 Q D:=rfl
theorem Js {K:PySem.W.Frag} {tl:TE} {g:TG} {tt:TT} {te:TE} {own:Nat} {ix:List Nat} {σ:St} {H:Hp} {Q:VK}:qz (VJ K tl) g tt te own ix σ H Q = tl σ H fun x H1=>∃ a,x = .ref a /\ (∃ xs,SqL K H1 a xs) /\ ∀ D,H1 D = none -> CompL K a g tt te own ix σ H1 Q D:=rfl
theorem QU {tl:TE} {g:TG} {tt:TT} {te:TE} {own:Nat} {ix:List Nat} {σ:St} {H:Hp} {Q:VK}:qz (Q2 tl) g tt te own ix σ H Q = tl σ H fun v H1=>∃ x,v = .str x /\ ∀ D,H1 D = none -> CompS x g tt te own ix σ H1 Q D:=rfl
section
variable {g:TG} {tt:TT} {te:TE} {own:Nat} {ix:List Nat} {σ:St} {H1:Hp} {Q:VK} {D:Addr}
theorem CompR.by {lo:Int} {n:Nat} (Pv:Nat -> List V -> Hp -> Prop) (h0:Pv 0 [] (upd H1 D (.lst [])))
  (hs:∀ i acc H',i < n -> Pv i acc H' -> g (.int (lo + i)) (vj σ own ix) H' fun σ3 H3=>xf (vj σ own ix) σ3 /\ tt σ3 H3 fun b H4=>if b = true then
   te σ3 H4 fun v H5=>H5 D = some (.lst acc) /\ acc.length < sizeLine /\ CNx n i Pv (acc ++ [v]) (upd H5 D (.lst (acc ++ [v]))) else CNx n i Pv acc H4)
  (hd:∀ acc H',Pv n acc H' -> Q (.ref D) H'):CompR lo n g tt te own ix σ H1 Q D:=by
 refine ⟨fun i m acc H=>m = n - i /\ i <= n /\ Pv i acc H,⟨n,by simp,Nat.zero_le _,h0⟩,?_⟩
 rintro i m acc H' ⟨rfl,hi,p⟩
 by_cases hlt:i < n
 ·refine .inr ⟨hlt,fun x H2 y=>?_⟩
  obtain ⟨e,y⟩:=y
  subst e y
  exact hs i acc _ hlt p
 ·have e:i = n:=by omega
  subst e
  exact .inl ⟨Nat.le_refl _,hd acc H' p⟩
theorem CompL.by {K:PySem.W.Frag} {a:Addr} {xs:List V} (Pv:Nat -> List V -> Hp -> Prop) (h0:Pv 0 [] (upd H1 D (.lst []))) (hl:∀ i acc H',i <= xs.length -> Pv i acc H' -> SqL K H' a xs)
  (hs:∀ i x acc H',xs[i]? = some x -> Pv i acc H' -> g x (vj σ own ix) H' fun σ3 H3=>xf (vj σ own ix) σ3 /\ tt σ3 H3 fun b H4=>if b = true then
   te σ3 H4 fun v H5=>H5 D = some (.lst acc) /\ acc.length < sizeLine /\ CNx xs.length i Pv (acc ++ [v]) (upd H5 D (.lst (acc ++ [v]))) else CNx xs.length i Pv acc H4)
  (hd:∀ acc H',Pv xs.length acc H' -> Q (.ref D) H'):CompL K a g tt te own ix σ H1 Q D:=by
 refine ⟨fun i m acc H=>m = xs.length - i /\ i <= xs.length /\ Pv i acc H,⟨xs.length,by simp,Nat.zero_le _,h0⟩,?_⟩
 rintro i m acc H' ⟨rfl,hi,p⟩
 have q:=hl i acc H' hi p
 by_cases hlt:i < xs.length
 ·refine .inr ⟨⟨xs,xs[i],q,by simp [hlt]⟩,fun x H2 y=>?_⟩
  obtain ⟨e,y⟩:=y
  subst e
  exact hs i x acc _ (y xs q) p
 ·have e:i = xs.length:=by omega
  subst e
  exact .inl ⟨⟨xs,q,Nat.le_refl _⟩,hd acc H' p⟩
theorem CompS.by {l:List Nat} (Pv:Nat -> List V -> Hp -> Prop) (h0:Pv 0 [] (upd H1 D (.lst [])))
  (hs:∀ i c acc H',l[i]? = some c -> Pv i acc H' -> g (.str (tx [c])) (vj σ own ix) H' fun σ3 H3=>xf (vj σ own ix) σ3 /\ tt σ3 H3 fun b H4=>if b = true then
   te σ3 H4 fun v H5=>H5 D = some (.lst acc) /\ acc.length < sizeLine /\ CNx l.length i Pv (acc ++ [v]) (upd H5 D (.lst (acc ++ [v]))) else CNx l.length i Pv acc H4)
  (hd:∀ acc H',Pv l.length acc H' -> Q (.ref D) H'):CompS (tx l) g tt te own ix σ H1 Q D:=by
 refine ⟨fun i m acc H=>m = l.length - i /\ i <= l.length /\ Pv i acc H,⟨l.length,by simp,Nat.zero_le _,h0⟩,?_⟩
 rintro i m acc H' ⟨rfl,hi,p⟩
 by_cases hlt:i < l.length
 ·refine .inr ⟨hlt,fun v H2 y=>?_⟩
  obtain ⟨e,c,hc,ev⟩:=y
  subst e ev
  exact hs i c acc _ hc p
 ·have e:i = l.length:=by omega
  subst e
  exact .inl ⟨rfl,hd acc H' p⟩
end
theorem qw {x:V} {r:St}:xf (none :: r) (some x :: r):=⟨rfl,fun i v h=>by
 cases i with
 | zero=>cases h
 | succ i=>exact h⟩
theorem yB {X:Cx} {scope sc:Scope} {own caps:List Str} {ix:List Nat} (h1:scope.kind = .function) (h2:scope.names.all (fun y=>y.2 != .cell) = true) (h3:scope.names.all (fun y=>y.2 != .local || scope.names.lookup y.1 == some .local) = true)
  (h4:scope.names.all (fun y=>y.2 != .free || sc.names.lookup y.1 == some .cell) = true) (hsc:X.env.scope = sc) (h5:own.all (fun y=>scope.names.lookup y == some .local) = true) (h6:caps.all (fun y=>scope.names.lookup y == some .free) = true) (h7:ix.map (fun i=>X.N[i]?) = caps.map some):uP X scope own caps ix:=by
 refine ⟨h1,fun y hy=>?_,fun y hy e=>?_,fun y hy=>?_,fun y hy=>?_,fun y hy=>?_,h7⟩
 ·have:=List.all_eq_true.mp h2 y hy
  simpa using this
 ·have:=List.all_eq_true.mp h3 y hy
  rw [e] at this
  simpa using this
 ·have:=List.all_eq_true.mp h4 _ hy
  have:=by simpa using this
  show X.env.scope.names.lookup y = some .cell
  rw [hsc]
  exact this
 ·have:=List.all_eq_true.mp h5 y hy
  simpa using this
 ·have:=List.all_eq_true.mp h6 y hy
  simpa using this
theorem YD {α:Type} (l:List α) {a b:Int} (h0:0 <= a) (h1:a <= b) (h2:b <= l.length):cut l (some a) (some b) = (l.drop a.toNat).take (b - a).toNat:=by
 obtain ⟨m,rfl⟩:=Int.eq_ofNat_of_zero_le h0
 obtain ⟨n,rfl⟩:=Int.eq_ofNat_of_zero_le (by omega:0 <= b)
 unfold cut
 rw [HT.sIx_nat,HT.sIx_nat,Nat.min_eq_left (by omega),Nat.min_eq_left (by omega)]
 have:((n:Int) - (m:Int)).toNat = n - m:=by omega
 rw [this]
 rfl
theorem xN {k:Nat} {A:Around} (r:Room k A):A.units + 100 < cLine:=by have:=r.un; omega
end L3
namespace L3
open PySem PySem.Spec PyProof.Rows L2
theorem jd {K:PySem.W.Frag} {x y:V} {H:Hp} {Q:VK} {l m:List D} (h:(Is K H (.lst l) x /\ Is K H (.lst m) y) \/ (Is K H (.tup l) x /\ Is K H (.tup m) y)) (hd:uD l < 50) (q:Q (.bl (jC l m)) H):JL K x y H Q:=⟨l,m,h,hd,q⟩
theorem Y7 {K:PySem.W.Frag} {x y:V} {H:Hp} {Q:VK} {l m:List D} (h:(Is K H (.lst l) x /\ Is K H (.lst m) y) \/ (Is K H (.tup l) x /\ Is K H (.tup m) y)) (hd:uD l < 50) (q:Q (.bl (!jC l m)) H):JS K x y H Q:=⟨l,m,h,hd,q⟩
def JW (t u:TS):TS:=fun D σ H=>∃ R:St -> Hp -> Prop,t { D with nx:=R } σ H /\ ∀ σ' H',R σ' H' -> u D σ' H'
theorem zh {X:Cx} {st:Stmt} {rest:List Stmt} {t u:TS} (h1:PS X st t) (h2:PSs X rest u):PSs X (st :: rest) (JW t u):=by
 intro pins s σ H D I h
 obtain ⟨R,h,hr⟩:=h
 refine wpAny_execs_cons (thn (h1 pins s σ H { D with nx:=R } I h) fun f s1 q=>?_)
 cases f with
 | next =>
  obtain ⟨σ',H',I',q⟩:=q
  exact h2 pins s1 σ' H' D I' (hr _ _ q)
 | ret v=>exact q
 | brk=>exact q
 | cont=>exact q
theorem zi {t u:TS} {D:Ends} {σ:St} {H:Hp} (R:St -> Hp -> Prop) (h:t { D with nx:=R } σ H) (hr:∀ σ' H',R σ' H' -> u D σ' H'):JW t u D σ H:=⟨R,h,hr⟩
theorem zK {H H':Hp} {a:Addr} {o:HO} (h:Same H H') (e:H a = none):Same H (upd H' a o):=fun b u q=>by
 rw [zo (zz q e)]
 exact h b u q
theorem ForL.by {K:PySem.W.Frag} {a:Addr} {xs:List V} {g:TG} {tb:TS} {D:Ends} {σ:St} {H:Hp} (Pv:Nat -> St -> Hp -> Prop) (h0:Pv 0 σ H) (hl:∀ i σ H,i <= xs.length -> Pv i σ H -> SqL K H a xs)
  (hs:∀ i x σ H,xs[i]? = some x -> Pv i σ H -> g x σ H fun σ2 H2=>tb { D with nx:=Pv (i + 1),ct:=Pv (i + 1),bk:=D.nx } σ2 H2) (hd:∀ σ H,Pv xs.length σ H -> D.nx σ H):ForL K a g tb D σ H:=WD Pv h0 hl hs hd
theorem Jl {A B:Prop} (h:B):if true = false then A else B:=by rw [if_neg (by decide)]; exact h
def Q7 (K:PySem.W.Frag) (a:Addr) (n:Nat) (g:TG) (tt:TT) (te:TE) (own:Nat) (ix:List Nat) (σ:L2.St) (H1:Hp) (Q:VK) (D:Addr):Prop:=Y2 (Irv K a n) g tt te own ix σ H1 Q D
theorem Jq {K:PySem.W.Frag} {ta:TA} {g:TG} {tt:TT} {te:TE} {own:Nat} {ix:List Nat} {σ:L2.St} {H:Hp} {Q:VK}:qz (Kr K ta) g tt te own ix σ H Q = ta σ H fun vs H1=>∃ a xs,vs = [.ref a] /\ SqL K H1 a xs /\ ∀ D,H1 D = none -> Q7 K a xs.length g tt te own ix σ H1 Q D:=rfl
end L3
namespace L3
open PySem PySem.Spec PyProof.Rows L2
section
variable {X:Cx}
end
end L3
namespace L3
open PySem PySem.Spec PyProof.Rows L2
section
variable {M:Model} {A:Around} {E:Value -> Shared -> Prop} {s:Shared} {base:Heap} {env env0:Env} {outer:List Env} {L x t C:Addr} {dx:Option Addr}
theorem Qg {tb:Value} {Q:Unit -> Shared -> Prop} (hfr:A.frames = some (env0 :: outer)) (hl:s.heap.FunFrames base (env0 :: outer)) (hf:env0.frame = some L) (he:env.frame = some L)
  (hx:s.heap.get? x = some (xob C dx t tb)) (htb:Um s.heap x tb)
  (h:∀ h' T oT ts,h'.get? x = some (xob C dx t (.ref T)) -> T ≠ x -> (tb = .ref T \/ s.heap.objs.size <= T) -> h'.get? T = some oT -> oT.data = .fields ts -> 3 < ts.size ->
   (∀ b o,b ≠ x -> tb ≠ .ref b -> b ∉ frs (env0 :: outer) -> s.heap.get? b = some o -> h'.get? b = some o) -> (∀ b o,b ≠ x -> tb ≠ .ref b -> s.heap.get? b = some o -> ∃ sl,h'.get? b = some { o with slots:=sl }) -> Q () { s with heap:=h' }) :
  wpAny M A (noteFrame (.ref x) env) Q E s:=by
 have land:∀ (h1:Heap) (T:Addr) (oT:Obj) (ts:Array Value),h1.get? x = some (xob C dx t (.ref T)) -> T ≠ x -> (tb = .ref T \/ s.heap.objs.size <= T) -> h1.get? T = some oT -> oT.data = .fields ts -> 3 < ts.size ->
   (∀ b o,b ≠ x -> tb ≠ .ref b -> b ∉ frs (env0 :: outer) -> s.heap.get? b = some o -> h1.get? b = some o) -> (∀ b o,b ≠ x -> tb ≠ .ref b -> s.heap.get? b = some o -> ∃ sl,h1.get? b = some { o with slots:=sl }) ->
   Q () { s with heap:=h1 }:=fun h1 T oT ts e1 nT oldT e2 d2 z2 k1 k2=>h h1 T oT ts e1 nT oldT e2 d2 z2 k1 k2
 unfold noteFrame
 simp only [he]
 refine wpAny_bind (wpAny_field hx rfl (x:=tb) rfl ?_)
 rcases htb with rfl | ⟨T,oT,ts,rfl,nT,e2,d2,z2⟩
 ·rw [if_neg (by decide)]
  refine jl hfr hl hf he hx fun h' oT ts e1 ne e2 d2 z2 k1 k2=>land h' _ oT ts e1 ne (.inr (Nat.le_refl _)) e2 d2 z2 (fun b o hb _ hbf e=>k1 b o hb hbf e) fun b o hb _ e=>k2 b o hb e
 ·rw [if_pos (show (Value.ref T != Value.none) = true from by simp)]
  obtain ⟨y,hy⟩:∃ y,ts[3]? = some y:=⟨ts[3],by simp [z2]⟩
  refine wpAny_bind (wpAny_field e2 d2 (x:=y) hy ?_)
  by_cases c:(y == rawInt L) = true
  ·rw [if_pos c]
   exact wpAny_pure (land s.heap T oT ts hx nT (.inl rfl) e2 d2 z2 (fun b o _ _ _ e=>e) fun b o _ _ e=>⟨o.slots,e⟩)
  ·rw [if_neg c]
   refine wpAny_bind (wpAny_setField e2 d2 z2 ?_)
   have oth:∀ b,b ≠ T -> (s.heap.update T (Obj.mapFields (·.setIfInBounds 3 Value.none))).get? b = s.heap.get? b:=fun b hb=>Heap.get?_update_other _ _ (Ne.symm hb)
   have hl1:(s.heap.update T (Obj.mapFields (·.setIfInBounds 3 Value.none))).FunFrames base (env0 :: outer):=hl.of_keeps fun b o hb hnf=>⟨o,(oth b fun q=>by rw [q,e2] at hb; cases hb; exact hnf ts d2).trans hb,rfl⟩
   have hsz:(s.heap.update T (Obj.mapFields (·.setIfInBounds 3 Value.none))).objs.size = s.heap.objs.size:=Heap.size_update ..
   refine jl (s:={ s with heap:=s.heap.update T (Obj.mapFields (·.setIfInBounds 3 Value.none)) }) hfr hl1 hf he ((oth x (Ne.symm nT)).trans hx) fun h' oT' ts' e1 ne e2' d2' z2' k1 k2=>?_
   refine land h' _ oT' ts' e1 ne (.inr (by rw [hsz]; exact Nat.le_refl _)) e2' d2' z2' (fun b o hb hbt hbf e=>k1 b o hb hbf ((oth b fun q=>hbt (by rw [q])).trans e)) fun b o hb hbt e=>k2 b o hb ((oth b fun q=>hbt (by rw [q])).trans e)
end
section
variable {X:Cx} {pins:List (Addr × Obj)} {σ:St} {H1:Hp} {s1:Shared}
theorem Inv.noted {h':Heap} {x T:Addr} {tb:Value} (I1:Inv X pins σ H1 s1) (hst:X.stack = X.env :: X.outer) (fx:xM X pins H1 x) (fT:∀ T,tb = .ref T -> xM X pins H1 T) (fT':xM X pins H1 T)
  (k1:∀ b o,b ≠ x -> tb ≠ .ref b -> b ∉ frs (X.env :: X.outer) -> s1.heap.get? b = some o -> h'.get? b = some o) (k2:∀ b o,b ≠ x -> tb ≠ .ref b -> s1.heap.get? b = some o -> ∃ sl,h'.get? b = some { o with slots:=sl }):Inv X pins σ H1 { s1 with heap:=h' }:=by
 have tbs:∀ b,tb = .ref b -> H1 b = none:=fun b hb=>(fT b hb).1
 have nch:∀ b o,s1.heap.get? b = some o -> b ∉ (x :: T :: tbL tb) -> b ≠ x /\ tb ≠ .ref b:=fun b o _ hb=>by
  refine ⟨fun z=>hb (by simp [z]),fun z=>hb ?_⟩
  rw [z]
  simp [tbL]
 have un:Un (frs X.stack) (x :: T :: tbL tb) H1 H1 s1.heap h':=by
  rw [hst]
  refine ⟨fun b o e n hb hc=>?_,fun b o e n hb hc=>?_,fun b o e n _=>n,fun b o e hc=>?_,fun b xs e=>e,fun b o u e=>e,fun b ps e=>⟨#[],by rw [e]; simp⟩⟩
  ·obtain ⟨a1,a2⟩:=nch b o e hc
   exact k1 b o a1 a2 hb e
  ·obtain ⟨a1,a2⟩:=nch b o e hc
   exact k2 b o a1 a2 e
  ·obtain ⟨a1,a2⟩:=nch b o e hc
   obtain ⟨sl,q⟩:=k2 b o a1 a2 e
   exact ⟨_,q⟩
 have hok:HOk X.prog X.w H1 h':=fun b u e=>by
  refine (I1.hok b u e).stay (fun c v hc q=>k1 c v ?_ ?_ ?_ q) (fun _ q=>q) fun _ _ q=>q
  ·rintro rfl
   rcases hc with rfl | hc
   ·rw [fx.1] at e; cases e
   ·rw [fx.1] at hc; cases hc
  ·intro z
   have:=tbs c z
   rcases hc with rfl | hc
   ·rw [this] at e; cases e
   ·rw [this] at hc; cases hc
  ·intro z
   rw [<- hst] at z
   have:=I1.stkFree c z
   rcases hc with rfl | hc
   ·rw [this] at e; cases e
   ·rw [this] at hc; cases hc
 exact I1.call' (s':={ s1 with heap:=h' }) rfl un hok I1.bare fun b hb=>by
  have fb:xM X pins H1 b:=by
   rcases List.mem_cons.mp hb with z | z
   ·rw [z]; exact fx
   ·rcases List.mem_cons.mp z with z | z
    ·rw [z]; exact fT'
    ·cases tb with
     | ref b' =>
      have:b = b':=by simpa [tbL] using z
      rw [this]; exact fT b' rfl
     | _=>simp [tbL] at z
  obtain ⟨_,a1,_,a3,a4,a5⟩:=fb
  exact ⟨a3,a1,a4,a5⟩
end
section
variable {X:Cx} {scope:Scope} {own caps:List Str} {ix:List Nat} {cl:List (Str × Addr)}
theorem YJ {N:List Str} {EX:XK} {pins:List (Addr × Obj)} {σ:St} {H3:Hp} {s3:Shared} {fp:List Addr} {xe:Value -> Shared -> Prop} {e:Value} {s1:Shared} {RE:Value -> Shared -> Prop} (hst:X.stack = X.env :: X.outer /\ X.env.frame = some X.env.locals) (hxe:XE X EX)
  (hc1:∀ y c,cl.lookup y = some c -> X.env.cells.lookup y = some c) (I3:Inv X pins σ H3 s3) (f3:∀ b ∈ fp,xM X pins H3 b) (fl:Qq (zY X scope cl s3.heap.objs.size N pins s3 H3 fp xe) EX e s1)
  (hRE:∀ m s' x,s'.heap.Ns s3.heap.objs.size m -> (∀ h',Heap.SameBut s3.heap.objs.size s'.heap h' -> ∀ cenv:Env,cenv.locals = s3.heap.objs.size -> wpAny (model X.prog X.w) X.A (PySem.passOn "comprehension.variables-let-go" x cenv:Sem Value) (fun _ _=>False) X.xe { s' with heap:=h' }) -> RE x s') :
  notedBy (model X.prog X.w) X.A (compEnvC scope cl s3.heap.objs.size X.env) RE e s1:=by
 obtain ⟨pins',σ',H1,x,C,t,dx,tb,rfl,I1,ob,tr,fx,fT,q⟩:=fl
 have IX:Inv X pins σ H1 s1:=I3.call' (s':=s1) I1.os I1.base I1.hok I1.bare fun b hb=>by
  obtain ⟨_,a1,a2,a3,a4,a5⟩:=f3 b hb
  exact ⟨a3,a1,a4,a5⟩
 have up:∀ b,xM (zY X scope cl s3.heap.objs.size N pins s3 H3 fp xe) pins' H1 b -> xM X pins H1 b:=fun b hb=>by
  obtain ⟨a0,a1,a2,a3,a4,a5⟩:=hb
  rcases a3 with a3 | a3
  ·exact ⟨a0,(f3 b a3).2⟩
  ·exact I3.fpOk a3 a0
 have fx':=up x fx
 have fT':∀ T,tb = .ref T -> xM X pins H1 T:=fun T h=>up T (fT T h)
 have fr:X.A.frames = some (X.env :: X.outer):=by rw [<- hst.1]; exact IX.ok.frames
 have ff:s1.heap.FunFrames X.base (X.env :: X.outer):=by rw [<- hst.1]; exact IX.stack
 obtain ⟨m,hm,_⟩:=I1.loc
 have fC:xM X pins H1 s3.heap.objs.size:=I3.fpOk (Nat.le_refl _) I1.free
 refine Qg fr ff hst.2 hst.2 ob tr fun h' T oT ts e1 nT oldT e2 d2 z2 k1 k2=>?_
 have fT2:xM X pins H1 T:=by
  rcases oldT with z | z
  ·exact fT' T z
  ·exact IX.fpOk z (IX.hok.fresh z)
 have I2:Inv X pins σ H1 { s1 with heap:=h' }:=Inv.noted IX hst.1 fx' fT' fT2 k1 k2
 have hCx:s3.heap.objs.size ≠ x:=fun z=>fx.2.1 z.symm
 have hCtb:tb ≠ .ref s3.heap.objs.size:=fun z=>(fT _ z).2.1 rfl
 obtain ⟨oC,es,ep,hoC,rC⟩:=hm
 have hCT:T ≠ s3.heap.objs.size:=by
  rcases oldT with z | z
  ·exact (fT T z).2.1
  ·exact Nat.ne_of_gt (Nat.lt_of_lt_of_le (Heap.lt_size hoC) z)
 have hCf:s3.heap.objs.size ∉ frs (X.env :: X.outer):=fun z=>by
  rw [<- hst.1] at z
  rcases List.mem_cons.mp (IX.stkSub _ z) with y | y
  ·exact fC.2.1 y
  ·exact fC.2.2.1 y
 refine hRE m _ _ ⟨oC,es,ep,k1 _ _ hCx hCtb hCf hoC,rC⟩ fun h2 sb cenv hcenv=>?_
 have I3':Inv X pins σ H1 { s1 with heap:=h2 }:=I2.turned (t':=s1.toks) (fun b o hb e=>(sb.2 b hb).trans e) fC.1 fC.2.1 fC.2.2.2.1 fC.2.2.2.2.1 fC.2.2.2.2.2
 have ob2:h2.get? x = some (xob C dx t (.ref T)):=(sb.2 x (Ne.symm hCx)).trans e1
 have oT2:h2.get? T = some oT:=(sb.2 T hCT).trans e2
 unfold PySem.passOn
 refine wpAny_bind (wpAny_field (s:={ s1 with heap:=h2 }) ob2 rfl (x:=.ref T) rfl ?_)
 rw [if_neg (show ¬ (Value.ref T == Value.none) = true from by simp)]
 unfold setFlight
 refine wpAny_bind (wpAny_bind (wpAny_field (s:={ s1 with heap:=h2 }) ob2 rfl (x:=.ref T) rfl ?_))
 rw [if_pos (show (Value.ref T != Value.none) = true from by simp)]
 refine wpAny_setField (s:={ s1 with heap:=h2 }) oT2 d2 z2 (wpAny_throw (hxe _ _ ?_))
 have d3:=Obj.data_mapFields d2 (·.setIfInBounds 3 (cenv.frame.elim Value.none fun f=>rawInt f))
 have I4:Inv X pins σ H1 { s1 with heap:=h2.update T (Obj.mapFields (·.setIfInBounds 3 (cenv.frame.elim Value.none fun f=>rawInt f))) } :=
  I3'.turned (t':=s1.toks) (fun b o hb e=>(Heap.get?_update_other _ _ (Ne.symm hb)).trans e) fT2.1 fT2.2.1 fT2.2.2.2.1 fT2.2.2.2.2.1 fT2.2.2.2.2.2
 exact ⟨pins,σ,H1,x,C,t,dx,.ref T,rfl,I4,(Heap.get?_update_other _ _ nT).trans ob2,.inr ⟨T,_,_,rfl,nT,Heap.get?_update_self _ oT2 (Obj.isFreed_of_fields d3),d3,by simpa using z2⟩,fx',fun T' z=>by cases z; exact fT2,q⟩
end
section
variable {X:Cx} {scope:Scope} {own caps:List Str} {ix:List Nat} {elt tg iter:Expr} {ifs:List Expr} {pos:Pos} {wi:TI} {g:TG} {tt:TT} {te:TE}
end
end L3
namespace L3
open PySem PySem.Spec PyProof.Rows L2
open AutoSeq1 (wpAny_loadPart')
open MeetsSeq MeetsSeq2 MeetsSeq3 SeqRoads2 SeqAt
def LtAt (A:Around) (s:Shared) (y x:Value) (b:Bool):Prop :=
 ∀ (prog:Program) (w:World) (E:Value -> Shared -> Prop) (Q:Value -> Shared -> Prop),Q (.bool b) s -> wpAny (model prog w) A (richCompare .Lt y x) Q E s
def Yf (e t r:Nat -> Bool) (m n:Nat):Prop:=∀ i,i <= m -> i <= n -> r i = if i < m /\ i < n then (if e i = true then r (i + 1) else t i) else decide (m < n)
theorem X4 (l b:Addr) (items items2:Array Value) (n n2:Nat) (dd dd2:Option Addr) (sl sl2:Array (Option Value)) (e t r:Nat -> Bool) (hr:Yf e t r items.size items2.size) (k:Nat) :
  ∀ i:Nat,i <= items.size -> i <= items2.size -> items.size - i = k -> Meets (Builtin.«list.__eq__.loop» ⟨[.ref l,.ref b,rawInt i,rawInt 0],[]⟩)
   (fun A R s=>s.heap.get? l = some { cls:=.type "list",dict:=dd,data:=.seq items n,slots:=sl } /\ s.heap.get? b = some { cls:=.type "list",dict:=dd2,data:=.seq items2 n2,slots:=sl2 } /\
    (∀ j (h1:j < items.size) (h2:j < items2.size),EqAt A.in1 s items[j] items2[j] (e j)) /\ (∀ j (h1:j < items.size) (h2:j < items2.size),e j = false -> LtAt A.in1 s items[j] items2[j] (t j)) /\
    R (.ok (.ret (.bool (r i)))) s):=by
 induction k with
 | zero =>
  intro i b1 b2 hk prog w A R s h
  obtain ⟨hp,g,d,tk,os⟩:=s; obtain ⟨hl,hb,he,ht,h⟩:=h
  have hri:=hr i b1 b2
  rw [if_neg (by omega)] at hri
  rw [hri] at h
  wp_walk using wpAny_loadPart' hl,wpAny_loadPart' hb
  have hi1:items[((i:Nat):Int).toNat]? = none:=by simp; omega
  rw [hi1]
  wp_walk using wpAny_loadPart' hl,wpAny_loadPart' hb
  exact h
 | succ k ih =>
  intro i b1 b2 hk prog w A R s h
  obtain ⟨hp,g,d,tk,os⟩:=s; obtain ⟨hl,hb,he,ht,h⟩:=h
  have hlt:i < items.size:=by omega
  have hi1:items[((i:Nat):Int).toNat]? = some items[i]:=by simp [hlt]
  have hc:((i:Int) + 1) = ((i + 1:Nat):Int):=by push_cast; rfl
  have hri:=hr i b1 b2
  by_cases hlt2:i < items2.size
  ·rw [if_pos ⟨hlt,hlt2⟩] at hri
   rw [hri] at h
   have hi2:items2[((i:Nat):Int).toNat]? = some items2[i]:=by simp [hlt2]
   wp_walk using wpAny_loadPart' hl,wpAny_loadPart' hb
   rw [hi1,hi2]
   refine wpAny_bind (he i hlt hlt2 prog w _ _ ?_)
   cases hb':e i with
   | true =>
    rw [hb',if_pos rfl] at h
    wp_walk
    rw [hc]
    exact ⟨plainId_quiet plain_eq_loop _,codeAny_builtin entry_eq_loop (by
     rw [Around.under_plainId plain_eq_loop _]
     exact ih (i + 1) (by omega) (by omega) (by omega) prog w A R _ ⟨hl,hb,he,ht,h⟩)⟩
   | false =>
    rw [hb',if_neg Bool.false_ne_true] at h
    wp_walk using wpAny_loadPart' hl,wpAny_loadPart' hb
    rw [hi1,hi2]
    refine wpAny_bind (ht i hlt hlt2 hb' prog w _ _ ?_)
    wp_walk
    exact h
  ·rw [if_neg (by omega)] at hri
   rw [hri] at h
   have hi2:items2[((i:Nat):Int).toNat]? = none:=by simp; omega
   wp_walk using wpAny_loadPart' hl,wpAny_loadPart' hb
   rw [hi1,hi2]
   wp_walk using wpAny_loadPart' hl,wpAny_loadPart' hb
   exact h
theorem Xa (l b:Addr) (items items2:Array Value) (n n2:Nat) (dd dd2:Option Addr) (sl sl2:Array (Option Value)) (e t r:Nat -> Bool) (hr:Yf e t r items.size items2.size) :
  Meets (Builtin.«list.__lt__» ⟨[.ref l,.ref b],[]⟩)
   (fun A R s=>s.heap.get? l = some { cls:=.type "list",dict:=dd,data:=.seq items n,slots:=sl } /\ s.heap.get? b = some { cls:=.type "list",dict:=dd2,data:=.seq items2 n2,slots:=sl2 } /\
    (∀ j (h1:j < items.size) (h2:j < items2.size),EqAt A.in1 s items[j] items2[j] (e j)) /\ (∀ j (h1:j < items.size) (h2:j < items2.size),e j = false -> LtAt A.in1 s items[j] items2[j] (t j)) /\
    R (.ok (.ret (.bool (r 0)))) s):=by
 intro prog w A R s h
 obtain ⟨hp,g,d,tk,os⟩:=s; obtain ⟨hl,hb,he,ht,h⟩:=h
 have f3:=AutoSeq1.sub_list_list
 wp_walk using wpAny_loadPart' hl,wpAny_loadPart' hb
 exact ⟨plainId_quiet plain_eq_loop _,codeAny_builtin entry_eq_loop (by
  rw [Around.under_plainId plain_eq_loop _]
  exact X4 l b items items2 n n2 dd dd2 sl sl2 e t r hr _ 0 (Nat.zero_le _) (Nat.zero_le _) rfl prog w A R _ ⟨hl,hb,he,ht,h⟩)⟩
theorem ZZ (l b:Addr) (items items2:Array Value) (n n2:Nat) (dd dd2:Option Addr) (sl sl2:Array (Option Value)) (e t r:Nat -> Bool) (hr:Yf e t r items.size items2.size) :
  Meets (Builtin.«tuple.__lt__» ⟨[.ref l,.ref b],[]⟩)
   (fun A R s=>s.heap.get? l = some { cls:=.type "tuple",dict:=dd,data:=.seq items n,slots:=sl } /\ s.heap.get? b = some { cls:=.type "tuple",dict:=dd2,data:=.seq items2 n2,slots:=sl2 } /\
    (∀ j (h1:j < items.size) (h2:j < items2.size),EqAt A.in1 s items[j] items2[j] (e j)) /\ (∀ j (h1:j < items.size) (h2:j < items2.size),e j = false -> LtAt A.in1 s items[j] items2[j] (t j)) /\
    R (.ok (.ret (.bool (r 0)))) s) :=
 .of_wp fun prog w A R s h=>by
  obtain ⟨hp,g,d,tk,os⟩:=s; obtain ⟨hl,hb,he,ht,h⟩:=h
  have f2:=AutoSeq1.sub_tuple_tuple
  have hZ:(items.toList.zip items2.toList).length = min items.size items2.size:=by simp
  wp_walk using wpAny_loadPart' hl,wpAny_loadPart' hb,wpAny_forIn_list _ (fun rest b s'=>b.1 = none /\ s' = ⟨hp,g,d,tk,os⟩ /\ ∃ i,i <= min items.size items2.size /\ rest = (items.toList.zip items2.toList).drop i /\
   R (.ok (.ret (.bool (r i)))) ⟨hp,g,d,tk,os⟩) _
  case turn =>
   rintro ⟨y,x⟩ rest b s' ⟨hb',rfl,i,hi,hz,hR⟩
   have hlt:i < (items.toList.zip items2.toList).length:=by
    rcases Nat.lt_or_ge i (items.toList.zip items2.toList).length with h' | h'
    ·exact h'
    ·rw [List.drop_of_length_le h'] at hz; cases hz
   have hm:i < min items.size items2.size:=hZ ▸ hlt
   have h1:i < items.size:=Nat.lt_of_lt_of_le hm (Nat.min_le_left _ _)
   have h2:i < items2.size:=Nat.lt_of_lt_of_le hm (Nat.min_le_right _ _)
   rw [List.drop_eq_getElem_cons hlt] at hz
   injection hz with hyx hrest
   have hy:y = items[i]:=by have:=congrArg Prod.fst hyx; simpa using this
   have hx:x = items2[i]:=by have:=congrArg Prod.snd hyx; simpa using this
   subst hy hx
   have hri:=hr i (by omega) (by omega)
   rw [if_pos ⟨h1,h2⟩] at hri
   rw [hri] at hR
   refine wpAny_bind (he i h1 h2 prog w _ _ ?_)
   cases hy:e i with
   | true =>
    rw [hy,if_pos rfl] at hR
    wp_walk
    exact ⟨rfl,rfl,i + 1,by omega,hrest,hR⟩
   | false =>
    rw [hy,if_neg Bool.false_ne_true] at hR
    simp only [Bool.not_false,if_true]
    refine wpAny_bind (wpAny_rule ?_)
    refine wpAny_bind (ht i h1 h2 hy prog w _ _ ?_)
    wp_walk
    exact ⟨_,rfl,hR⟩
  case fin =>
   rintro ⟨b1,b2⟩ s' ⟨hb',rfl,i,hi,hz,hR⟩
   simp only at hb'
   subst hb'
   have hge:min items.size items2.size <= i:=by
    rcases Nat.lt_or_ge i (items.toList.zip items2.toList).length with h' | h'
    ·rw [List.drop_eq_getElem_cons h'] at hz; cases hz
    ·exact hZ ▸ h'
   have hri:=hr i (by omega) (by omega)
   rw [if_neg (by omega)] at hri
   rw [hri] at hR
   wp_walk
   exact ⟨_,rfl,hR⟩
  case h =>
   exact ⟨rfl,rfl,0,Nat.zero_le _,rfl,h⟩
theorem LtAt.lists {A:Around} {s:Shared} {l b:Addr} {items items2:Array Value} {e t r:Nat -> Bool} (hl:s.heap.IsList l items) (hb:s.heap.IsList b items2) (hr:Yf e t r items.size items2.size) (hu:A.units < cLine)
  (he:∀ j (h1:j < items.size) (h2:j < items2.size),EqAt A.in1 s items[j] items2[j] (e j)) (ht:∀ j (h1:j < items.size) (h2:j < items2.size),e j = false -> LtAt A.in1 s items[j] items2[j] (t j)):LtAt A s (.ref l) (.ref b) (r 0):=fun prog w E Q h=>by
 obtain ⟨⟨cls,dd,data,sl⟩,ho,hc,n,hd⟩:=id hl
 obtain ⟨⟨cls2,dd2,data2,sl2⟩,ho2,hc2,n2,hd2⟩:=id hb
 simp only at hc hd hc2 hd2
 subst hc hd hc2 hd2
 exact richCompare_meets_room (op:=.Lt) ⟨_,ho,rfl⟩ ⟨_,ho2,rfl⟩ F.slot_list_lt F.entry_list_lt (F.args_list_lt_2 _ _) (Xa l b items items2 n n2 dd dd2 sl sl2 e t r hr)
  ⟨ho,ho2,he,ht,show Value.bool (r 0) ≠ Value.notImplemented /\ Q (.bool (r 0)) s from ⟨(fun x=>nomatch x),h⟩⟩ hu
theorem LtAt.tuples {A:Around} {s:Shared} {l b:Addr} {items items2:Array Value} {e t r:Nat -> Bool} (hl:s.heap.IsTuple l items) (hb:s.heap.IsTuple b items2) (hr:Yf e t r items.size items2.size) (hu:A.units < cLine)
  (he:∀ j (h1:j < items.size) (h2:j < items2.size),EqAt A.in1 s items[j] items2[j] (e j)) (ht:∀ j (h1:j < items.size) (h2:j < items2.size),e j = false -> LtAt A.in1 s items[j] items2[j] (t j)):LtAt A s (.ref l) (.ref b) (r 0):=fun prog w E Q h=>by
 obtain ⟨⟨cls,dd,data,sl⟩,ho,hc,n,hd⟩:=id hl
 obtain ⟨⟨cls2,dd2,data2,sl2⟩,ho2,hc2,n2,hd2⟩:=id hb
 simp only at hc hd hc2 hd2
 subst hc hd hc2 hd2
 exact richCompare_meets_room (op:=.Lt) ⟨_,ho,rfl⟩ ⟨_,ho2,rfl⟩ F.slot_tuple_lt F.entry_tuple_lt (F.args_tuple_lt_2 _ _) (ZZ l b items items2 n n2 dd dd2 sl sl2 e t r hr)
  ⟨ho,ho2,he,ht,show Value.bool (r 0) ≠ Value.notImplemented /\ Q (.bool (r 0)) s from ⟨(fun x=>nomatch x),h⟩⟩ hu
end L3
namespace L3
open PySem PySem.Spec PyProof.Rows L2
mutual
def okD:D -> D -> Prop
 | .int _,.int _=>True
 | .lst l,.lst m=>Z5 l m
 | .tup l,.tup m=>Z5 l m
 | _,_=>False
def Z5:List D -> List D -> Prop
 | d :: l,e :: m=>okD d e /\ Z5 l m
 | _,_=>True
end
mutual
def ltD:D -> D -> Bool
 | .int a,.int b=>decide (a < b)
 | .lst l,.lst m=>Zl l m
 | .tup l,.tup m=>Zl l m
 | _,_=>false
def Zl:List D -> List D -> Bool
 | d :: l,e :: m=>if eqD d e = true then Zl l m else ltD d e
 | [],_ :: _=>true
 | _,[]=>false
end
theorem XL (l m:List D):Yf (fun j=>eqD (l.getD j .non) (m.getD j .non)) (fun j=>ltD (l.getD j .non) (m.getD j .non)) (fun i=>Zl (l.drop i) (m.drop i)) l.length m.length:=by
 intro i b1 b2
 simp only
 by_cases h:i < l.length /\ i < m.length
 ·rw [if_pos h,List.drop_eq_getElem_cons h.1,List.drop_eq_getElem_cons h.2,Zl]
  rw [List.getD_eq_getElem?_getD,List.getD_eq_getElem?_getD,List.getElem?_eq_getElem h.1,List.getElem?_eq_getElem h.2]
  rfl
 ·rw [if_neg h]
  by_cases h1:i < l.length
  ·have h2:¬ i < m.length:=fun z=>h ⟨h1,z⟩
   rw [List.drop_eq_getElem_cons h1,List.drop_of_length_le (Nat.le_of_not_lt h2),Zl]
   ·simp; omega
   all_goals simp
  ·rw [List.drop_of_length_le (Nat.le_of_not_lt h1)]
   by_cases h2:i < m.length
   ·rw [List.drop_eq_getElem_cons h2,Zl]
    simp; omega
   ·rw [List.drop_of_length_le (Nat.le_of_not_lt h2),Zl]
    ·simp; omega
    all_goals simp
theorem UR:∀ {l m:List D} {j:Nat} {d e:D},Z5 l m -> l[j]? = some d -> m[j]? = some e -> okD d e
 | d :: l,e :: m,0,_,_,h,q1,q2=>by
  cases q1; cases q2
  simp only [Z5] at h
  exact h.1
 | d :: l,e :: m,j + 1,_,_,h,q1,q2=>by
  simp only [Z5] at h
  exact UR (j:=j) h.2 q1 q2
section
variable {X:Cx} {pins:List (Addr × Obj)} {σ:St} {H:Hp} {s:Shared}
theorem kO {l m:List D} {xs ys:List V} {its its':List Value} {A:Around} {n:Nat} (hl:Iss X.K H l xs) (hm:Iss X.K H m ys) (r:Vals xs its) (r':Vals ys its') (hn:uD l < n) (ok:Z5 l m)
  (ih:∀ (d e:D) (x y:V) (u v:Value),dpD d < n -> okD d e -> Is X.K H d x -> Is X.K H e y -> RelV x u -> RelV y v -> LtAt A s u v (ltD d e)) :
  ∀ j (h1:j < its.toArray.size) (h2:j < its'.toArray.size),LtAt A s its.toArray[j] its'.toArray[j] (ltD (l.getD j .non) (m.getD j .non)):=by
 intro j h1 h2
 rw [List.size_toArray] at h1 h2
 have e1:=hl.len
 have e2:=hm.len
 have e3:=r.length
 have e4:=r'.length
 have g1:l[j]? = some l[j]:=List.getElem?_eq_getElem (by omega)
 have g2:m[j]? = some m[j]:=List.getElem?_eq_getElem (by omega)
 generalize l[j] = d at g1
 generalize m[j] = e at g2
 obtain ⟨x,hx,ix⟩:=hl.at g1
 obtain ⟨y,hy,iy⟩:=hm.at g2
 obtain ⟨u,hu,ru⟩:=wQ r hx
 obtain ⟨v,hv,rv⟩:=wQ r' hy
 have q1:its.toArray[j] = u:=by
  have:=(List.getElem?_eq_some_iff.mp hu).2
  simpa using this
 have q2:its'.toArray[j] = v:=by
  have:=(List.getElem?_eq_some_iff.mp hv).2
  simpa using this
 rw [q1,q2,List.getD_eq_getElem?_getD,List.getD_eq_getElem?_getD,g1,g2]
 exact ih d e x y u v (Nat.lt_of_le_of_lt (UA g1) hn) (UR ok g1 g2) ix iy ru rv
theorem Qi (I:Inv X pins σ H s):∀ (n:Nat) (A:Around) (d e:D) (x y:V) (u v:Value),A.units + n < cLine -> dpD d < n -> okD d e -> Is X.K H d x -> Is X.K H e y -> RelV x u -> RelV y v -> LtAt A s u v (ltD d e):=by
 intro n
 induction n with
 | zero=>intro A d e x y u v _ h; exact absurd h (Nat.not_lt_zero _)
 | succ n ih =>
  intro A d e x y u v hu hd ok hx hy rx ry
  have hu1:A.units < cLine:=by omega
  have huA:A.in1.units + n < cLine:=by show A.units + 1 + n < cLine; omega
  cases d with
  | int a =>
   cases e with
   | int b =>
    simp only [Is] at hx hy
    subst hx hy
    obtain ⟨t,rfl⟩:=rx
    obtain ⟨t',rfl⟩:=ry
    exact fun prog w E Q h=>lt_int h
   | _=>simp only [okD] at ok
  | lst l =>
   cases e with
   | lst m =>
    simp only [Is] at hx hy
    obtain ⟨a,xs,rfl,h1,h2⟩:=hx
    obtain ⟨b,ys,rfl,g1,g2⟩:=hy
    cases rx; cases ry
    obtain ⟨its,r,p,_⟩:=I.list h1
    obtain ⟨its',r',p',_⟩:=I.list g1
    simp only [dpD] at hd
    simp only [okD] at ok
    have L1:=h2.len
    have L2:=g2.len
    have L3:=r.length
    have L4:=r'.length
    have st:=XL l m
    rw [show l.length = its.toArray.size by simp only [List.size_toArray]; omega,show m.length = its'.toArray.size by simp only [List.size_toArray]; omega] at st
    exact LtAt.lists (A:=A) p.isList p'.isList st hu1 (xn h2 g2 r r' (n:=n) (by omega) fun d e x y u v q1 q2 q3 q4 q5=>qo I n A.in1 d e x y u v huA q1 q2 q3 q4 q5)
     (fun j h1 h2 _=>kO (n:=n) (A:=A.in1) ‹_› g2 r r' (by omega) ok (fun d e x y u v q1 q2 q3 q4 q5 q6=>ih A.in1 d e x y u v huA q1 q2 q3 q4 q5 q6) j h1 h2)
   | _=>simp only [okD] at ok
  | tup l =>
   cases e with
   | tup m =>
    simp only [Is] at hx hy
    obtain ⟨a,xs,rfl,h1,h2⟩:=hx
    obtain ⟨b,ys,rfl,g1,g2⟩:=hy
    cases rx; cases ry
    obtain ⟨its,r,p,_⟩:=I.tuple h1
    obtain ⟨its',r',p',_⟩:=I.tuple g1
    simp only [dpD] at hd
    simp only [okD] at ok
    have L1:=h2.len
    have L2:=g2.len
    have L3:=r.length
    have L4:=r'.length
    have st:=XL l m
    rw [show l.length = its.toArray.size by simp only [List.size_toArray]; omega,show m.length = its'.toArray.size by simp only [List.size_toArray]; omega] at st
    exact LtAt.tuples (A:=A) p p' st hu1 (xn h2 g2 r r' (n:=n) (by omega) fun d e x y u v q1 q2 q3 q4 q5=>qo I n A.in1 d e x y u v huA q1 q2 q3 q4 q5)
     (fun j h1 h2 _=>kO (n:=n) (A:=A.in1) ‹_› g2 r r' (by omega) ok (fun d e x y u v q1 q2 q3 q4 q5 q6=>ih A.in1 d e x y u v huA q1 q2 q3 q4 q5 q6) j h1 h2)
   | _=>simp only [okD] at ok
  | non=>cases e <;> simp only [okD] at ok
  | bl _=>cases e <;> simp only [okD] at ok
  | str _=>cases e <;> simp only [okD] at ok
def Jn (K:PySem.W.Frag):R2:=fun x y H Q=>∃ d e,Is K H d x /\ Is K H e y /\ dpD d < 50 /\ okD d e /\ Q (.bl (ltD d e)) H
theorem YA (hu:X.A.units + 100 < cLine):OpR X (compareOp .Lt) (Jn X.K):=by
 intro pins s σ H x y v u Q I rx ry h
 obtain ⟨d,e,hx,hy,hd,ok,q⟩:=h
 exact Qi I 50 X.A d e x y v u (by omega) hd ok hx hy rx ry X.prog X.w X.xe _ ⟨.bl _,H,I,rfl,q⟩
end
theorem YW {K:PySem.W.Frag} {x y:V} {H:Hp} {Q:VK} {d e:D} (h1:Is K H d x) (h2:Is K H e y) (h3:dpD d < 50) (h4:okD d e) (q:Q (.bl (ltD d e)) H):Jn K x y H Q:=⟨d,e,h1,h2,h3,h4,q⟩
def ltI:List Int -> List Int -> Bool
 | a :: l,b :: m=>if a = b then ltI l m else decide (a < b)
 | [],_ :: _=>true
 | _,[]=>false
theorem ul:∀ (l m:List Int),Z5 (l.map D.int) (m.map D.int)
 | [],_=>by simp only [List.map_nil,Z5]
 | _ :: _,[]=>by simp only [List.map_nil,List.map_cons,Z5]
 | a :: l,b :: m=>by simp only [List.map_cons,Z5,okD,true_and]; exact ul l m
theorem jz:∀ (l m:List Int),Zl (l.map D.int) (m.map D.int) = ltI l m
 | [],[]=>by simp only [List.map_nil,Zl,ltI]
 | [],_ :: _=>by simp only [List.map_nil,List.map_cons,Zl,ltI]
 | _ :: _,[]=>by simp only [List.map_nil,List.map_cons,Zl,ltI]
 | a :: l,b :: m=>by
  simp only [List.map_cons,Zl,ltI,eqD,ltD,jz l m,beq_iff_eq]
end L3
namespace L3
open PySem PySem.Spec PyProof.Rows L2
mutual
def xU:D -> Prop
 | .lst _=>False
 | .tup l=>yp l
 | _=>True
def yp:List D -> Prop
 | []=>True
 | d :: l=>xU d /\ yp l
end
theorem WX {K:PySem.W.Frag} {H:Hp} {a p:Addr} {xs ys zs:List V} (hp:H p = some (.lst ys)) (h:SqT K H a xs):SqT K (upd H p (.lst zs)) a xs:=by
 rcases h with (h | ⟨o,h⟩) | h
 ·refine .inl (.inl ?_)
  rw [zo (fun e=>by rw [e,hp] at h; cases h)]
  exact h
 ·refine .inl (.inr ⟨o,?_⟩)
  rw [zo (fun e=>by rw [e,hp] at h; cases h)]
  exact h
 ·exact .inr h
mutual
theorem Is.updL {K:PySem.W.Frag} {H:Hp} {p:Addr} {ys zs:List V} (hp:H p = some (.lst ys)):∀ (d:D) (v:V),xU d -> Is K H d v -> Is K (upd H p (.lst zs)) d v
 | .non,v,_,h=>by simp only [Is] at h ⊢; exact h
 | .bl b,v,_,h=>by simp only [Is] at h ⊢; exact h
 | .int b,v,_,h=>by simp only [Is] at h ⊢; exact h
 | .str b,v,_,h=>by simp only [Is] at h ⊢; exact h
 | .lst l,v,f,h=>by simp only [xU] at f
 | .tup l,v,f,h=>by
  simp only [Is] at h ⊢
  simp only [xU] at f
  obtain ⟨a,xs,e1,e2,e3⟩:=h
  exact ⟨a,xs,e1,WX hp e2,Iss.updL hp l xs f e3⟩
theorem Iss.updL {K:PySem.W.Frag} {H:Hp} {p:Addr} {ys zs:List V} (hp:H p = some (.lst ys)):∀ (l:List D) (vs:List V),yp l -> Iss K H l vs -> Iss K (upd H p (.lst zs)) l vs
 | [],vs,_,h=>by simp only [Iss] at h ⊢; exact h
 | d :: l,vs,f,h=>by
  simp only [Iss] at h ⊢
  simp only [yp] at f
  obtain ⟨v,r,e1,e2,e3⟩:=h
  exact ⟨v,r,e1,Is.updL hp d v f.1 e2,Iss.updL hp l r f.2 e3⟩
end
theorem we:∀ {l:List D},(∀ d ∈ l,xU d) -> yp l
 | [],_=>by simp only [yp]
 | d :: l,h=>by simp only [yp]; exact ⟨h d (by simp),we fun e he=>h e (by simp [he])⟩
theorem kA {n:Nat}:∀ {l:List D},(∀ d ∈ l,dpD d <= n) -> uD l <= n
 | [],_=>by simp only [uD]; omega
 | d :: l,h=>by
  have h1:=h d (by simp)
  have h2:=kA (n:=n) (l:=l) fun e he=>h e (by simp [he])
  simp only [uD]
  omega
def LsA (K:PySem.W.Frag) (H:Hp) (a:Addr) (ds:List D):Prop:=∃ xs,H a = some (.lst xs) /\ Iss K H ds xs
theorem LsA.same {K:PySem.W.Frag} {H H':Hp} {a:Addr} {ds:List D} (h:LsA K H a ds) (e:Same H H'):LsA K H' a ds:=let ⟨xs,h1,h2⟩:=h; ⟨xs,e _ _ h1,Iss.same e _ _ h2⟩
theorem LsA.is {K:PySem.W.Frag} {H:Hp} {a:Addr} {ds:List D} (h:LsA K H a ds):Is K H (.lst ds) (.ref a):=by
 obtain ⟨xs,h1,h2⟩:=h
 simp only [Is]
 exact ⟨a,xs,rfl,SqL.of h1,h2⟩
theorem LsA.nil {K:PySem.W.Frag} {H:Hp} {a:Addr}:LsA K (upd H a (.lst [])) a []:=⟨[],ze,by simp only [Iss]⟩
theorem LsA.snoc {K:PySem.W.Frag} {H:Hp} {a:Addr} {ds:List D} {d:D} {xs:List V} {v:V} (h1:H a = some (.lst xs)) (h2:Iss K H ds xs) (f:yp ds) (fd:xU d) (hv:Is K H d v):LsA K (upd H a (.lst (xs ++ [v]))) a (ds ++ [d]) :=
 ⟨_,ze,Iss.append (Iss.updL h1 _ _ f h2) (by simp only [Iss]; exact ⟨v,[],rfl,Is.updL h1 _ _ fd hv,rfl⟩)⟩
theorem Is.tup {K:PySem.W.Frag} {H:Hp} {p:Addr} {vs:List V} {ds:List D} (hp:H p = none) (h:Iss K H ds vs):Is K (upd H p (.tup vs)) (.tup ds) (.ref p):=by
 simp only [Is]
 exact ⟨p,vs,rfl,SqT.of ze,Iss.same (zd hp) _ _ h⟩
abbrev dS (l:List Nat):D:=.str (tx l)
abbrev zx:=List Nat × List Nat
def dR (r:zx):D:=.tup [dS r.1,dS r.2]
theorem U6 {K:PySem.W.Frag} {H:Hp} {r:zx} {v:V} (h:Is K H (dR r) v):∃ p,v = .ref p /\ SqT K H p [.str (tx r.1),.str (tx r.2)]:=by
 simp only [dR,Is,Iss] at h
 obtain ⟨a,xs,e,hs,v1,r1,rfl,rfl,v2,r2,rfl,rfl,rfl⟩:=h
 exact ⟨a,e,hs⟩
theorem ZT {K:PySem.W.Frag} {H:Hp} {p:Addr} {l m:List Nat} (h:SqT K H p [.str (tx l),.str (tx m)]):Is K H (dR (l,m)) (.ref p):=by
 simp only [dR,Is,Iss]
 exact ⟨p,_,rfl,h,_,_,rfl,rfl,_,_,rfl,rfl,rfl⟩
theorem jc (r:zx):xU (dR r):=by simp only [dR,xU,yp,and_self]
theorem ja (rs:List zx):yp (rs.map dR):=we fun d h=>by obtain ⟨r,_,rfl⟩:=List.mem_map.mp h; exact jc r
abbrev N3:=Nat × Nat × Nat
def d3 (t:N3):D:=.tup [.int (t.1:Nat),.int (t.2.1:Nat),.int (t.2.2:Nat)]
theorem QR {K:PySem.W.Frag} {H:Hp} {t:N3} {v:V} (h:Is K H (d3 t) v):∃ p,v = .ref p /\ SqT K H p [.int (t.1:Nat),.int (t.2.1:Nat),.int (t.2.2:Nat)]:=by
 simp only [d3,Is,Iss] at h
 obtain ⟨a,xs,e,hs,v1,r1,rfl,rfl,v2,r2,rfl,rfl,v3,r3,rfl,rfl,rfl⟩:=h
 exact ⟨a,e,hs⟩
theorem Up {K:PySem.W.Frag} {H:Hp} {i j k:Nat}:Iss K H [.int (i:Nat),.int (j:Nat),.int (k:Nat)] [.int (i:Nat),.int (j:Nat),.int (k:Nat)]:=by
 simp only [Iss,Is]
 exact ⟨_,_,rfl,rfl,_,_,rfl,rfl,_,_,rfl,rfl,rfl⟩
theorem XF (t:N3):xU (d3 t):=by simp only [d3,xU,yp,and_self]
theorem Q4 (t:N3):dpD (d3 t) <= 1:=by simp only [d3,dpD,uD]; omega
theorem vV (rs:List N3):yp (rs.map d3):=we fun d h=>by obtain ⟨r,_,rfl⟩:=List.mem_map.mp h; exact XF r
theorem jA (rs:List N3):uD (rs.map d3) <= 1:=kA fun d h=>by obtain ⟨r,_,rfl⟩:=List.mem_map.mp h; exact Q4 r
theorem Iss.get {K:PySem.W.Frag} {H:Hp} {l:List D} {vs:List V} {j:Nat} {v:V} (h:Iss K H l vs) (q:vs[j]? = some v):∃ d,l[j]? = some d /\ Is K H d v:=by
 have hj:=(List.getElem?_eq_some_iff.mp q).1
 have hl:=h.len
 have g1:l[j]? = some l[j]:=List.getElem?_eq_getElem (by omega)
 obtain ⟨x,hx,ix⟩:=h.at g1
 rw [q] at hx
 cases hx
 exact ⟨_,g1,ix⟩
theorem Iss.getR {K:PySem.W.Frag} {H:Hp} {rs:List zx} {vs:List V} {j:Nat} {v:V} (h:Iss K H (rs.map dR) vs) (q:vs[j]? = some v):∃ r p,rs[j]? = some r /\ v = .ref p /\ SqT K H p [.str (tx r.1),.str (tx r.2)]:=by
 obtain ⟨d,e,i⟩:=h.get q
 rw [List.getElem?_map] at e
 obtain ⟨r,hr,rfl⟩:=Option.map_eq_some_iff.mp e
 obtain ⟨p,e1,e2⟩:=U6 i
 exact ⟨r,p,hr,e1,e2⟩
theorem Iss.get3 {K:PySem.W.Frag} {H:Hp} {rs:List N3} {vs:List V} {j:Nat} {v:V} (h:Iss K H (rs.map d3) vs) (q:vs[j]? = some v):∃ r p,rs[j]? = some r /\ v = .ref p /\ SqT K H p [.int (r.1:Nat),.int (r.2.1:Nat),.int (r.2.2:Nat)]:=by
 obtain ⟨d,e,i⟩:=h.get q
 rw [List.getElem?_map] at e
 obtain ⟨r,hr,rfl⟩:=Option.map_eq_some_iff.mp e
 obtain ⟨p,e1,e2⟩:=QR i
 exact ⟨r,p,hr,e1,e2⟩
theorem Yo {α:Type} (l:List α) {a b:Int} (h0:0 <= a) (h1:a <= b):cut l (some a) (some b) = (l.drop a.toNat).take (b - a).toNat:=by
 by_cases h2:b <= l.length
 ·exact YD l h0 h1 h2
 ·obtain ⟨m,rfl⟩:=Int.eq_ofNat_of_zero_le h0
  obtain ⟨n,rfl⟩:=Int.eq_ofNat_of_zero_le (by omega:0 <= b)
  unfold cut
  rw [HT.sIx_nat,HT.sIx_nat,Nat.min_eq_right (by omega:l.length <= n)]
  have e:(((n:Nat):Int) - ((m:Nat):Int)).toNat = n - m:=by omega
  have e2:((m:Nat):Int).toNat = m:=rfl
  rw [e,e2,List.take_of_length_le (l:=l.drop m) (by rw [List.length_drop]; omega)]
  by_cases hm:m <= l.length
  ·rw [Nat.min_eq_left hm,List.take_of_length_le (by rw [List.length_drop]; omega)]
  ·rw [Nat.min_eq_right (by omega),List.drop_of_length_le (Nat.le_refl _),List.drop_of_length_le (by omega),List.take_nil]
theorem Xo (ns:List Int) {a b:Int} (h0:0 <= a) (h1:a <= b):UB (ns.map V.int) (some a) (some b) = ((ns.drop a.toNat).take (b - a).toNat).map V.int:=by
 have e:UB (ns.map V.int) (some a) (some b) = cut (ns.map V.int) (some a) (some b):=rfl
 rw [e,Yo _ h0 h1,List.map_take,List.map_drop]
end L3
namespace L3
open PySem PySem.Spec PyProof.Rows L2
open Classical in
section
variable {X:Cx} {pins:List (Addr × Obj)} {σ:L2.St} {H:Hp} {s:Shared}
open Classical in
end
end L3
namespace L3
open PySem PySem.Spec PyProof.Rows L2
structure DM (P:Program) (w:World) (K:PySem.W.Frag) (mg:Str -> Option Value) (base:Heap) (CX:CXT) (k:Nat) (C:Addr) (m:Str) (ps:List Str) (sp:Sp):Prop where
 ex:∃ f fd,UJ K C m f /\ yo P w K mg base CX k f fd ps sp /\ Binds K fd ps []
structure DMk (P:Program) (w:World) (K:PySem.W.Frag) (mg:Str -> Option Value) (base:Heap) (CX:CXT) (k:Nat) (C:Addr) (ps:List Str) (sp:Sp):Prop where
 ex:∃ f fd,Mk K C f /\ yo P w K mg base CX k f fd ps sp /\ Binds K fd ps []
section
variable {X:Cx} {k j:Nat} {C:Addr} {m:Str} {ps:List Str} {sp:Sp} {o e:Expr} {es:List Expr} {ta:TE} {t:TA} {apos pos p:Pos} {x:Str} {E:XK}
theorem me0 (D:DM X.prog X.w X.K X.mg X.base CX0 k C m ps sp) (c:Cls X.K C) (hr:Room j X.A) (he:PE X o ta) {pl:Sem Bool} (ht:eval (.Call (.Attribute o m apos) [] [] pos) X.env = (do
      let ov <- eval o X.env
      standAt apos.atName
      let (f,first) <- holding [ov] (getMethod ov m pl)
      callWith pos f first (backTo pos (starEach [] X.env)) (backToKw pos (keywordEach [] X.env))):=by rfl) (hj:k <= j:=by decide):PE X (.Call (.Attribute o m apos) [] [] pos) (jU C m sp [] E0 ta qf):=by
  obtain ⟨f,fd,hm,F,hb⟩:=D.ex
  exact WQ he c hm F (hr.mono hj) hb .nil kr ht
theorem me1 (D:DM X.prog X.w X.K X.mg X.base CX0 k C m ps sp) (c:Cls X.K C) (hr:Room j X.A) (he:PE X o ta) (ha:PA X (e :: es) t) {pl:Sem Bool}
    (hst:starEach (e :: es) X.env = (false,eval e X.env) :: starEach es X.env:=by rfl) (hpl:(backTo pos (starEach es X.env)).any (·.1) = false:=by rfl)
    (ht:eval (.Call (.Attribute o m apos) (e :: es) [] pos) X.env = (do
      let ov <- eval o X.env
      standAt apos.atName
      let (f,first) <- holding [ov] (getMethod ov m pl)
      callWith pos f first (backTo pos (starEach (e :: es) X.env)) (backToKw pos (keywordEach [] X.env))):=by rfl) (hj:k <= j:=by decide):PE X (.Call (.Attribute o m apos) (e :: es) [] pos) (jU C m sp [] E0 ta t):=by
  obtain ⟨f,fd,hm,F,hb⟩:=D.ex
  exact VZ he c hm F (hr.mono hj) hb .nil kr ha hst hpl ht
theorem mkC (D:DMk X.prog X.w X.K X.mg X.base CX0 k C ps sp) (hr:Room j X.A) (hg:Gl X x) (hm:X.mg x = some (.ref C)) (ha:PA X (e :: es) t) (hdb:(x == ("__debug__" : Str)) = false:=by decide) (he:starEach (e :: es) X.env = (false,eval e X.env) :: starEach es X.env:=by rfl)
  (hpl:(backTo pos (starEach es X.env)).any (·.1) = false:=by rfl) (hj:k + 1 <= j:=by decide):PE X (.Call (.Name x p) (e :: es) [] pos) (WK C sp [] E0 t):=by
 obtain ⟨f,fd,M,F,hb⟩:=D.ex
 exact Xi M F (hr.mono hj) hg hm hb .nil kr ha hdb he hpl
end
end L3
namespace L3
open PySem PySem.Spec PyProof.Rows L2
section
variable {X:Cx}
def UK (K:PySem.W.Frag) (te:TX) (hds:List Hd):TS:=fun D σ H=>te σ H (fun _ H1=>D.nx σ H1) fun cls dx H1=>∃ C,cls = .ref C /\ ∀ x,H1 x = none -> tHs K C dx x D σ (upd H1 x (XT x C dx)) hds
theorem Ul {apos pos:Pos} {e:Expr} {te:TX} {h:ExceptHandler} {hs:List ExceptHandler} {hds:List Hd} (hN:X.N.Nodup)
  (hst:X.stack = X.env :: X.outer /\ X.env.frame = some X.env.locals) (he:PEX X e te) (hh:j8 X (h :: hs) hds) (hsw:swapsWith e none apos.line X.env = pure false:=by rfl) :
  PS X (.Try [.Expr e apos] (h :: hs) [] [] pos) (UK X.K te hds):=by
 intro pins s σ H D I hq
 refine wpAny_Try_except (wpAny_execs_cons (wpAny_Expr_any (wpAny_mono (he pins s σ H _ _ I hq) (fun v s1 ⟨z,H1,I1,r1,q1⟩=>?_) fun e s1 fl=>?_) I.quiet hsw))
 ·exact wpAny_execs_nil (wpAny_execs_nil ⟨_,H1,I1,q1⟩)
 ·obtain ⟨cx,kx,H1,x,C,t,dx,tb,rfl,I1,ob,tr,fx,fT,C',ec,q1⟩:=fl
  cases ec
  have fr:X.A.frames = some (X.env :: X.outer):=by rw [<- hst.1]; exact I1.ok.frames
  have ff:s1.heap.FunFrames X.base (X.env :: X.outer):=by rw [<- hst.1]; exact I1.stack
  refine jb fr ff hst.2 hst.2 ob tr fun h' T oT ts e1 nT oldT e2 d2 z2 k1 k2=>?_
  have fT':xM X pins H1 T:=by
   rcases oldT with z | z
   ·exact fT T z
   ·exact I1.fpOk z (I1.hok.fresh z)
  have tbs:∀ b,tb = .ref b -> H1 b = none:=fun b hb=>(fT b hb).1
  have nch:∀ b o,s1.heap.get? b = some o -> b ∉ (x :: T :: tbL tb) -> b ≠ x /\ tb ≠ .ref b:=fun b o _ hb=>by
   refine ⟨fun z=>hb (by simp [z]),fun z=>hb ?_⟩
   rw [z]
   simp [tbL]
  have un:Un (frs X.stack) (x :: T :: tbL tb) H1 H1 s1.heap h':=by
   rw [hst.1]
   refine ⟨fun b o e n hb hc=>?_,fun b o e n hb hc=>?_,fun b o e n _=>n,fun b o e hc=>?_,fun b xs e=>e,fun b o u e=>e,fun b ps e=>⟨#[],by rw [e]; simp⟩⟩
   ·obtain ⟨a1,a2⟩:=nch b o e hc
    exact k1 b o a1 a2 hb e
   ·obtain ⟨a1,a2⟩:=nch b o e hc
    exact k2 b o a1 a2 e
   ·obtain ⟨a1,a2⟩:=nch b o e hc
    obtain ⟨sl,q⟩:=k2 b o a1 a2 e
    exact ⟨_,q⟩
  have hok:HOk X.prog X.w H1 h':=fun b u e=>by
   refine (I1.hok b u e).stay (fun c v hc q=>k1 c v ?_ ?_ ?_ q) (fun _ q=>q) fun _ _ q=>q
   ·rintro rfl
    rcases hc with rfl | hc
    ·rw [fx.1] at e; cases e
    ·rw [fx.1] at hc; cases hc
   ·intro z
    have:=tbs c z
    rcases hc with rfl | hc
    ·rw [this] at e; cases e
    ·rw [this] at hc; cases hc
   ·intro z
    rw [<- hst.1] at z
    have:=I1.stkFree c z
    rcases hc with rfl | hc
    ·rw [this] at e; cases e
    ·rw [this] at hc; cases hc
  have I2:Inv X pins σ H1 { s1 with heap:=h' }:=I1.call' (s':={ s1 with heap:=h' }) rfl un hok I1.bare fun b hb=>by
   have fb:xM X pins H1 b:=by
    rcases List.mem_cons.mp hb with z | z
    ·rw [z]; exact fx
    ·rcases List.mem_cons.mp z with z | z
     ·rw [z]; exact fT'
     ·cases tb with
      | ref b' =>
       have:b = b':=by simpa [tbL] using z
       rw [this]; exact fT b' rfl
      | _=>simp [tbL] at z
   obtain ⟨_,a1,_,a3,a4,a5⟩:=fb
   exact ⟨a3,a1,a4,a5⟩
  have I3:Inv X pins σ (upd H1 x (XT x C dx)) { s1 with heap:=h' }:=Inv.track I2 fx (U5 e1)
  exact j5 hN hh I3 ze ⟨t,_,_,e1⟩ ⟨oT,ts,e2,d2,z2⟩ ⟨by rw [zo nT]; exact fT'.1,fT'.2⟩ (q1 x fx.1)
end
section
variable {X:Cx} {k j:Nat} {C:Addr} {m:Str} {ps:List Str} {sp:Sp} {o e:Expr} {es:List Expr} {ta:TE} {t:TA} {apos pos p:Pos}
end
end L3
namespace L3
open PySem PySem.Spec PyProof.Rows L2
def zy (Fam:Addr -> Prop) (m:Str) (sp:Addr -> Sp) (dvs:List V) (E:XK) (ta:TE) (t:TA):TE:=fun σ H Q=>ta σ H fun x H1=>∃ C a dx fs,Fam C /\ x = .ref a /\ H1 a = some (.ins C dx fs) /\ fs.lookup m = none /\
 t σ H1 fun vs H2=>sp C (x :: (vs ++ dvs)) H2 Q E
structure DMF (P:Program) (w:World) (K:PySem.W.Frag) (mg:Str -> Option Value) (base:Heap) (CX:CXT) (k:Nat) (Fam:Addr -> Prop) (m:Str) (ps:List Str) (sp:Addr -> Sp):Prop where
 ex:∀ C,Fam C -> Cls K C /\ DM P w K mg base CX k C m ps (sp C)
section
variable {X:Cx} {k j:Nat} {Fam:Addr -> Prop} {m:Str} {ps:List Str} {sp:Addr -> Sp} {o e:Expr} {es:List Expr} {ta:TE} {t:TA} {apos pos p:Pos} {x:Str} {E:XK}
theorem KG (D:DMF X.prog X.w X.K X.mg X.base CX0 k Fam m ps sp) (hr:Room j X.A) (he:PE X o ta) {pl:Sem Bool} (ht:eval (.Call (.Attribute o m apos) [] [] pos) X.env = (do
      let ov <- eval o X.env
      standAt apos.atName
      let (f,first) <- holding [ov] (getMethod ov m pl)
      callWith pos f first (backTo pos (starEach [] X.env)) (backToKw pos (keywordEach [] X.env))):=by rfl) (hj:k <= j:=by decide):PE X (.Call (.Attribute o m apos) [] [] pos) (zy Fam m sp [] E0 ta qf):=by
  intro pins s σ H Q I h
  refine PySem.W.methodCall_KW (pl:=pl) (thn (he pins s σ H _ I h) fun u s1 ⟨x,H1,I1,rx,C,a,dx,fs,fam,ex,ea,l,q⟩=>?_) ht
  subst ex
  obtain rfl:u = Value.ref a:=rx
  obtain ⟨c,⟨f,fd,hm,F,hb⟩⟩:=D.ex C fam
  refine xL I1 ea c hm l ?_
  exact PySem.W.callWith_K0 (first:=[.ref a]) I1.kIn hm.kp (qb (us:=[.ref a]) (vs:=[.ref a]) F (hr.mono hj) hb .nil kr I1 (.cons rfl .nil) q)
theorem Q5 (D:DMF X.prog X.w X.K X.mg X.base CX0 k Fam m ps sp) (hr:Room j X.A) (he:PE X o ta) (ha:PA X (e :: es) t) {pl:Sem Bool}
    (hst:starEach (e :: es) X.env = (false,eval e X.env) :: starEach es X.env:=by rfl) (hpl:(backTo pos (starEach es X.env)).any (·.1) = false:=by rfl)
    (ht:eval (.Call (.Attribute o m apos) (e :: es) [] pos) X.env = (do
      let ov <- eval o X.env
      standAt apos.atName
      let (f,first) <- holding [ov] (getMethod ov m pl)
      callWith pos f first (backTo pos (starEach (e :: es) X.env)) (backToKw pos (keywordEach [] X.env))):=by rfl) (hj:k <= j:=by decide):PE X (.Call (.Attribute o m apos) (e :: es) [] pos) (zy Fam m sp [] E0 ta t):=by
  intro pins s σ H Q I h
  refine PySem.W.methodCall_KW (pl:=pl) (thn (he pins s σ H _ I h) fun u s1 ⟨x,H1,I1,rx,C,a,dx,fs,fam,ex,ea,l,q⟩=>?_) ht
  subst ex
  obtain rfl:u = Value.ref a:=rx
  obtain ⟨c,⟨f,fd,hm,F,hb⟩⟩:=D.ex C fam
  refine xL I1 ea c hm l ?_
  refine PySem.W.callWith_K (first:=[.ref a]) (h₀:=X.base) I.ok.mod.kin hm.kp (thn (ha pos pins s1 σ H1 _ I1 q) fun us s2 ⟨vs,H2,I2,r,q2⟩=>⟨I2.kIn,?_⟩) hst hpl
  exact qb (us:=.ref a :: us) (vs:=.ref a :: vs) F (hr.mono hj) hb .nil kr I2 (.cons rfl r) q2
end
section
variable {X:Cx}
theorem kS:∀ {ns:List Int} {its:List Value},Vals (ns.map V.int) its -> IntsAre its ns
 | [],_,.nil=>.nil
 | n :: ns,_,.cons r t=>by
  obtain ⟨tk,rfl⟩:=r
  exact .cons n tk (kS t)
def yJ (K:PySem.W.Frag):List V -> Hp -> VK -> Prop:=fun xs H Q=>∃ (p:Addr) (ns:List Int),xs = [.ref p] /\ SqL K H p (ns.map V.int) /\ Q (.int ns.sum) H
theorem QG (hc:X.calm = true):vR X (.builtin "sum") (yJ X.K):=by
 intro pins s σ H xs us Q I r h
 obtain ⟨p,ns,rfl,hS,q⟩:=h
 obtain ⟨u,rfl,ru⟩:=vn r
 cases ru
 obtain ⟨its,rv,pl,hz⟩:=I.list hS
 have hh:X.A.handled = none:=I.ok.hd hc
 have ia:=kS rv
 obtain ⟨ps,e⟩:=ia.allInts.items
 have en:ps.toList.map (·.1) = ns:=by
  rw [<- nums_intItems,<- e]
  exact ia.numsOf
 refine sum_intListG hh (by rw [<- e]; exact pl.isList) fun h' tk t' hk=>?_
 rw [preSum_eq,List.take_of_length_le (by simp),en]
 exact ⟨.int ns.sum,H,I.kept hk,⟨_,rfl⟩,q⟩
end
end L3
namespace L3
open PySem PySem.Spec PyProof.Rows L2
theorem Yg (l:List Nat):((Builtin.Str.strSliceIndices none none (-1) (tx l).length).filterMap ((tx l).cps[·]?)) = l.reverse:=by
 rw [zO,picked_rev]
 have e:(tx l).cps = l.toArray:=rfl
 rw [e]
 apply List.ext_getElem?
 intro i
 have h:((List.range l.length).map fun k=>l.length - 1 - k).filterMap (l.toArray[·]?) = (List.range l.length).map fun k=>l.getD (l.length - 1 - k) 0:=by
  rw [filterMap_get,List.map_map]
  ·refine List.map_congr_left fun k _=>?_
   show l.toArray.getD (l.length - 1 - k) 0 = _
   simp [Array.getD,List.getD]
   split <;> simp_all
  ·intro i hi
   obtain ⟨k,hk,rfl⟩:=List.mem_map.mp hi
   have:=List.mem_range.mp hk
   show _ < l.toArray.size
   rw [List.size_toArray]
   omega
 rw [h]
 by_cases hi:i < l.length
 ·rw [List.getElem?_reverse hi,List.getElem?_map,List.getElem?_range hi]
  show some (l.getD (l.length - 1 - i) 0) = _
  rw [List.getD_eq_getElem?_getD,List.getElem?_eq_getElem (by omega)]
  rfl
 ·rw [List.getElem?_eq_none (by simp; omega),List.getElem?_eq_none (by simp; omega)]
def yG (te ts:TE):TE:=fun σ H Q=>te σ H fun x H1=>ts σ H1 fun y H2=>y = .int (-1) /\ ∃ l:List Nat,x = .str (tx l) /\ l.length <= sizeLine /\ Q (.str (tx l.reverse)) H2
section
variable {X:Cx} {e st:Expr} {te ts:TE} {pos p2:Pos}
theorem VO (he:PE X e te) (hs:PE X st ts):PE X (.Subscript e (.Slice none none (some st) p2) pos) (yG te ts):=by
 intro pins s σ H Q I h
 refine Subscript_ (thn (he pins s σ H _ I h) fun v s1 ⟨x,H1,I1,r1,q1⟩=>?_)
 refine wpAny_Slice ?_
 rw [evalPart_none]
 refine wpAny_pure (wpAny_pure ?_)
 rw [evalPart_some]
 refine thn (hs pins s1 σ H1 _ I1 q1) fun u s2 ⟨y,H2,I2,r2,ey,l,ex,hl,q2⟩=>?_
 subst ey ex
 obtain ⟨t,rfl⟩:=r1
 obtain ⟨tk,rfl⟩:=r2
 have I4:Inv X pins σ H2 { s2 with heap:=s2.heap.push { cls:=.type "slice",data:=.fields #[.none,.none,.int (-1) tk] } }:=I2.kept (t':=s2.toks) fun b ob q=>Heap.get?_push_of_some _ q
 show wpAny (model X.prog X.w) X.A (subscriptTail e (.Slice none none (some st) p2) (.str (tx l) t) (.ref s2.heap.objs.size)) (EP X pins σ Q) X.xe { s2 with heap:=s2.heap.push { cls:=.type "slice",data:=.fields #[.none,.none,.int (-1) tk] } }
 refine tail_any (ops:=[.ref s2.heap.objs.size,.str (tx l) t]) (typeIs_str _ (tx l) t) slot_str_getitem.lookup ?_ (by with_unfolding_all rfl)
 refine wpAny_getItem_str_slice (l:=none) (u:=none) (st:=some (-1,tk)) (Heap.IsSliceOf.new ..) rfl ?_
 unfold sliceMade slicePicked
 have hc':¬ (((some ((-1:Int),tk)).map (·.1)).getD 1 == 1 && (Builtin.Str.strSliceIndices ((none:Option (Int × Tok)).map (·.1)) ((none:Option (Int × Tok)).map (·.1)) (((some ((-1:Int),tk)).map (·.1)).getD 1) (tx l).length).length == (tx l).length) = true:=by
  have:(((some ((-1:Int),tk)).map (·.1)).getD 1 == 1) = false:=rfl
  rw [this]
  simp
 rw [if_neg hc']
 have e:Str.mk ((Builtin.Str.strSliceIndices none none (-1) (tx l).length).filterMap ((tx l).cps[·]?)).toArray = tx l.reverse:=by
  rw [Yg]
 show (Str.mk ((Builtin.Str.strSliceIndices none none (-1) (tx l).length).filterMap ((tx l).cps[·]?)).toArray).length <= sizeLine /\ _
 rw [e]
 refine ⟨by rw [zO,List.length_reverse]; exact hl,?_⟩
 exact ⟨.str (tx l.reverse),H2,I4.tok _,⟨_,by
  show Value.str (Str.mk ((Builtin.Str.strSliceIndices none none (-1) (tx l).length).filterMap ((tx l).cps[·]?)).toArray) _ = _
  rw [e]⟩,q2⟩
end
end L3
namespace L3
open PySem PySem.Spec PyProof.Rows L2
structure Ki (K:PySem.W.Frag) (C:Addr) (m:Str) (f:Addr):Prop where
 sg:PySem.W.specialIn K (.ref C) "__getattribute__" = some (some (.builtin "type.__getattribute__"))
 rd:PySem.W.readsIn K C (.type "type") = true
 fc:PySem.W.findCls K (.ref C) (.type "type") m = some (.val (.ref f))
 kp:PySem.W.keepIn K (.ref f) = true
structure DC (P:Program) (w:World) (K:PySem.W.Frag) (mg:Str -> Option Value) (base:Heap) (CX:CXT) (k:Nat) (C:Addr) (m:Str) (ps:List Str) (sp:Sp):Prop where
 ex:∃ f fd,Ki K C m f /\ yo P w K mg base CX k f fd ps sp /\ Binds K fd ps []
section
variable {X:Cx} {k j:Nat} {C:Addr} {m x:Str} {ps:List Str} {sp:Sp} {e:Expr} {es:List Expr} {t:TA} {apos pos p:Pos}
theorem Uy (D:DC X.prog X.w X.K X.mg X.base CX0 k C m ps sp) (hr:Room j X.A) (hg:Gl X x) (hm:X.mg x = some (.ref C)) (ha:PA X (e :: es) t) {pl:Sem Bool} (hdb:(x == ("__debug__" : Str)) = false:=by decide)
    (hst:starEach (e :: es) X.env = (false,eval e X.env) :: starEach es X.env:=by rfl) (hpl:(backTo pos (starEach es X.env)).any (·.1) = false:=by rfl)
    (ht:eval (.Call (.Attribute (.Name x p) m apos) (e :: es) [] pos) X.env = (do
      let ov <- eval (.Name x p) X.env
      standAt apos.atName
      let (f,first) <- holding [ov] (getMethod ov m pl)
      callWith pos f first (backTo pos (starEach (e :: es) X.env)) (backToKw pos (keywordEach [] X.env))):=by rfl) (hj:k <= j:=by decide):PE X (.Call (.Attribute (.Name x p) m apos) (e :: es) [] pos) (Ya sp [] E0 t):=by
  obtain ⟨f,fd,cm,F,hb⟩:=D.ex
  have hn:PE X (.Name x p) (tC (.ref C)):=uI hg hm rfl hdb
  intro pins s σ H Q I h
  refine PySem.W.methodCall_KW (pl:=pl) (thn (hn pins s σ H (fun y H1=>y = .ref C /\ H1 = H) I ⟨rfl,rfl⟩) fun u s1 ⟨y,H1,I1,ry,ey,eH⟩=>?_) ht
  subst ey eH
  obtain rfl:u = Value.ref C:=ry
  refine PySem.W.method_cls I1.kIn cm.sg (PySem.W.cls_value I1.kIn cm.rd cm.fc rfl ?_)
  refine PySem.W.callWith_K (first:=[]) (h₀:=X.base) I.ok.mod.kin cm.kp (thn (ha pos pins _ σ H1 _ (I1.tok _) h) fun us s2 ⟨vs,H2,I2,r,q2⟩=>⟨I2.kIn,?_⟩) hst hpl
  exact qb (us:=us) (vs:=vs) F (hr.mono hj) hb .nil kr I2 r q2
def zv:V -> List V -> Hp -> VK -> Prop:=fun x xs H Q=>∃ (z y:Str) (i:Nat),x = .str z /\ xs = [.str y] /\ PySem.Txt.find z y = (i:Int) /\ Q (.int (i:Nat)) H
theorem VF:MtR X "str.index" zv:=by
 intro pins s σ H x xs v us Q I rx rv h
 obtain ⟨z,y,i,rfl,rfl,hf,q⟩:=h
 obtain ⟨t,rfl⟩:=rx
 obtain ⟨u,rfl,t',rfl⟩:=vn rv
 unfold PySem.Txt.find at hf
 cases ho:Builtin.Str.occurrences z y 0 z.length 1 with
 | nil=>rw [ho] at hf; dsimp only at hf; omega
 | cons a r =>
  rw [ho] at hf
  have:a = i:=by dsimp only at hf; omega
  subst this
  exact PySem.SC.index ho ⟨.int _,H,I.tok _,⟨_,rfl⟩,q⟩
end
end L3
namespace L3
open PySem PySem.Spec PyProof.Rows L2
section
variable {prog:Program} {w:World} {A:Around} {E:Value -> Shared -> Prop} {s:Shared}
theorem wz {h h':Heap} {a:Addr} {ty:String} {x:Str} {t:Tok} {i:Nat} (y:h.IsStrIter a ty x t i) (e:∀ o,h.get? a = some o -> h'.get? a = some o):h'.IsStrIter a ty x t i:=let ⟨o,ho,r⟩:=y; ⟨o,e o ho,r⟩
theorem vf {h h':Heap} {a t:Addr} {i:Nat} (y:h.IsTupleIter a t i) (e:∀ o,h.get? a = some o -> h'.get? a = some o):h'.IsTupleIter a t i:=let ⟨o,ho,r⟩:=y; ⟨o,e o ho,r⟩
theorem Vu {h h':Heap} {a:Addr} {xs:Array Value} (y:h.IsTuple a xs) (e:∀ o,h.get? a = some o -> h'.get? a = some o):h'.IsTuple a xs:=let ⟨o,ho,r⟩:=y; ⟨o,e o ho,r⟩
theorem sit (x:Str):strIterType x = "str_ascii_iterator" \/ strIterType x = "str_iterator":=by
 unfold strIterType
 split
 ·exact .inl rfl
 ·exact .inr rfl
theorem uA {it:Addr} {x:Str} {t:Tok} {i c:Nat} {Q:Value -> Shared -> Prop} (hit:s.heap.IsStrIter it (strIterType x) x t i) (hx:x.cps[i]? = some c)
  (hQ:∀ h',h'.IsStrIter it (strIterType x) x t (i + 1) -> Heap.SameBut it s.heap h' -> Q (.str ⟨#[c]⟩ s.toks) { s with heap:=h',toks:=s.toks + 1 }) :
  wpAny (model prog w) A (Builtin.SmallTypes.nextOf (.ref it)) Q E s:=by
 rcases sit x with e | e
 ·rw [e] at hit hQ
  exact wpAny_nextOf_ascii_item hit hx hQ
 ·rw [e] at hit hQ
  exact wpAny_nextOf_wide_item hit hx hQ
theorem uX {it:Addr} {x:Str} {t:Tok} {i:Nat} {Q:Value -> Shared -> Prop} (hh:A.handled = none) (hit:s.heap.IsStrIter it (strIterType x) x t i) (hx:x.cps[i]? = none)
  (hE:∀ h' e,Heap.ExtBut it s.heap h' -> (∃ o,h'.get? e = some o /\ o.cls = .type "StopIteration") -> E (.ref e) { s with heap:=h' }) :
  wpAny (model prog w) A (Builtin.SmallTypes.nextOf (.ref it)) Q E s:=by
 rcases sit x with e | e
 ·rw [e] at hit
  exact wpAny_nextOf_ascii_end hh hit hx hE
 ·rw [e] at hit
  exact wpAny_nextOf_wide_end hh hit hx hE
theorem uR {it t:Addr} {i:Nat} {items:Array Value} {x:Value} {Q:Value -> Shared -> Prop} (hit:s.heap.IsTupleIter it t i) (ht:s.heap.IsTuple t items) (hx:items[i]? = some x)
  (hQ:∀ h',h'.IsTupleIter it t (i + 1) -> Heap.SameBut it s.heap h' -> Q x { s with heap:=h' }) :
  wpAny (model prog w) A (Builtin.SmallTypes.nextOf (.ref it)) Q E s:=by
 obtain ⟨o,ho,hc,hd⟩:=id hit
 obtain ⟨ol,hol,_,nl,hdl⟩:=ht
 unfold Builtin.SmallTypes.nextOf
 refine wpAny_bind (wpAny_callSpecial?_slot (name:=Str.ofString "__next__") hit.typeIs F.slot_tuple_iterator_next
  (wpAny_call_entry F.slot_tuple_iterator_next hit.typeIs F.entry_tuple_iterator_next ?_ (F.args_tuple_iterator_next_1 _)))
 show wpAny _ _ (field (.ref it) 0 >>= _) _ _ s
 refine wpAny_bind (wpAny_field ho hd (x:=.ref t) rfl ?_)
 show wpAny _ _ (if (Value.ref t == Value.none) = true then _ else _) _ _ s
 rw [if_neg (show ¬ ((Value.ref t == Value.none) = true) from Bool.false_ne_true)]
 show wpAny _ _ (field (.ref it) 1 >>= _) _ _ s
 refine wpAny_bind (wpAny_field ho hd (x:=.int i 0) rfl ?_)
 show wpAny _ _ (seqItems? (.ref t) >>= _) _ _ s
 refine wpAny_bind (wpAny_seqItems hol hdl ?_)
 simp only [Int.toNat_natCast,hx]
 refine wpAny_bind (wpAny_setField ho hd (by simp) (wpAny_pure ⟨x,rfl,wpAny_pure (hQ _ ?_ (Heap.SameBut.update ..))⟩))
 exact ⟨_,Heap.get?_update_self _ ho (Obj.isFreed_of_fields (Obj.data_mapFields hd _)),(Obj.cls_mapFields ..).trans hc,by
  rw [Obj.data_mapFields hd]; simp [rawInt]⟩
structure U3 (z TI TO i1 i2 l2:Addr):Prop extends Vq z TI TO i1 i2 where
 l2z:l2 ≠ z
 l2TO:l2 ≠ TO
 l2i1:l2 ≠ i1
 l2i2:l2 ≠ i2
theorem WE {z TI TO i1 i2 l2:Addr} {k c:Nat} {X:Str} {tx:Tok} {ys:Array Value} {y a b:Value} {Q:Value -> Shared -> Prop} (D:U3 z TI TO i1 i2 l2)
  (hz:IsZip s.heap z TI TO .none) (hTI:IsPair s.heap TI (.ref i1) (.ref i2)) (hTO:IsPair s.heap TO a b)
  (h1:s.heap.IsStrIter i1 (strIterType X) X tx k) (h2:s.heap.IsTupleIter i2 l2 k) (hl2:s.heap.IsTuple l2 ys) (hx:X.cps[k]? = some c) (hy:ys[k]? = some y)
  (hQ:∀ h' t',IsZip h' z TI TO (rawInt s.heap.objs.size) -> IsPair h' TO (.str ⟨#[c]⟩ t') y -> h'.IsStrIter i1 (strIterType X) X tx (k + 1) -> h'.IsTupleIter i2 l2 (k + 1) -> IsPair h' s.heap.objs.size (.str ⟨#[c]⟩ t') y -> h'.objs.size = s.heap.objs.size + 1 ->
   (∀ c o,c ≠ z -> c ≠ TO -> c ≠ i1 -> c ≠ i2 -> s.heap.get? c = some o -> h'.get? c = some o) -> Q (.ref s.heap.objs.size) { s with heap:=h',toks:=s.toks + 1 }) :
  wpAny (model prog w) A (Builtin.«zip.__next__» ⟨[.ref z],[]⟩) (fun fin s'=>∃ v,fin = .done (.ret v) /\ Q v s') E s:=by
 show wpAny _ _ (field (.ref z) 2 >>= _) _ _ _
 refine wpAny_bind (wpAny_field hz rfl (x:=.bool false) rfl ?_)
 show wpAny _ _ (field (.ref z) 3 >>= _) _ _ _
 refine wpAny_bind (wpAny_field hz rfl (x:=.ref TI) rfl ?_)
 refine wpAny_bind (wpAny_seqItems hTI rfl ?_)
 show wpAny _ _ (Builtin.SmallTypes.ownedTupleIsFree (.ref z) >>= _) _ _ _
 refine wpAny_bind ?_
 unfold Builtin.SmallTypes.ownedTupleIsFree
 refine wpAny_bind (wpAny_field hz rfl (x:=.none) rfl (wpAny_pure ?_))
 simp only [if_true]
 refine wpAny_bind (wpAny_rule ?_)
 refine wpAny_bind (wpAny_field hz rfl (x:=.ref TO) rfl ?_)
 refine wpAny_bind (wpAny_setField_rec hz (by simp) fun h₁ hz₁ hs₁=>?_)
 replace hz₁:IsZip h₁ z TI TO .ellipsis:=hz₁
 refine wpAny_bind ?_
 simp only [List.zipIdx_cons,List.zipIdx_nil,List.forIn_cons,List.forIn_nil]
 refine wpAny_bind (wpAny_bind (wpAny_onRaise ?_))
 show wpAny _ _ (Builtin.SmallTypes.nextOf (.ref i1) >>= _) _ _ _
 refine wpAny_bind (uA (s:={ s with heap:=h₁ }) (wz h1 fun o e=>hs₁.extBut _ _ D.i1z e) hx fun h₂ h1₂ hs₂=>wpAny_pure ?_)
 have hTO₂:IsPair h₂ TO a b:=hs₂.extBut _ _ D.TOi1 (hs₁.extBut _ _ D.TOz hTO)
 refine wpAny_bind (wpAny_seqItems hTO₂ rfl ?_)
 refine wpAny_bind (wpAny_updateSeq_pair hTO₂ fun h₃ hTO₃ hs₃=>?_)
 replace hTO₃:IsPair h₃ TO (.str ⟨#[c]⟩ s.toks) b:=hTO₃
 refine wpAny_bind (wpAny_letGo (wpAny_pure ?_))
 refine wpAny_bind (wpAny_bind (wpAny_onRaise ?_))
 show wpAny _ _ (Builtin.SmallTypes.nextOf (.ref i2) >>= _) _ _ _
 have up3:∀ d o,d ≠ z -> d ≠ i1 -> d ≠ TO -> s.heap.get? d = some o -> h₃.get? d = some o:=fun d o d1 d2 d3 e=>hs₃.extBut _ _ d3 (hs₂.extBut _ _ d2 (hs₁.extBut _ _ d1 e))
 refine wpAny_bind (uR (vf h2 fun o e=>up3 _ o D.i2z D.i12.symm D.TOi2.symm e) (Vu hl2 fun o e=>up3 _ o D.l2z D.l2i1 D.l2TO e) hy fun h₄ h2₄ hs₄=>wpAny_pure ?_)
 have hTO₄:IsPair h₄ TO (.str ⟨#[c]⟩ s.toks) b:=hs₄.extBut _ _ D.TOi2 hTO₃
 refine wpAny_bind (wpAny_seqItems hTO₄ rfl ?_)
 refine wpAny_bind (wpAny_updateSeq_pair hTO₄ fun h₅ hTO₅ hs₅=>?_)
 replace hTO₅:IsPair h₅ TO (.str ⟨#[c]⟩ s.toks) y:=hTO₅
 refine wpAny_bind (wpAny_letGo (wpAny_pure (wpAny_pure ?_)))
 refine wpAny_bind (wpAny_seqItems hTO₅ rfl ?_)
 refine wpAny_bind (wpAny_newTuple ?_)
 have hsz:h₅.objs.size = s.heap.objs.size:=by rw [hs₅.1,hs₄.1,hs₃.1,hs₂.1,hs₁.1]
 have hz₅:IsZip h₅ z TI TO .ellipsis:=hs₅.extBut _ _ D.TOz.symm (hs₄.extBut _ _ D.i2z.symm (hs₃.extBut _ _ D.TOz.symm (hs₂.extBut _ _ D.i1z.symm hz₁)))
 have hk₅:∀ c o,c ≠ z -> c ≠ TO -> c ≠ i1 -> c ≠ i2 -> s.heap.get? c = some o -> h₅.get? c = some o:=fun c o c1 c2 c3 c4 e =>
  hs₅.extBut _ _ c2 (hs₄.extBut _ _ c4 (up3 _ _ c1 c3 c2 e))
 have h1₅:h₅.IsStrIter i1 (strIterType X) X tx (k + 1):=wz h1₂ fun o e=>hs₅.extBut _ _ D.TOi1.symm (hs₄.extBut _ _ D.i12 (hs₃.extBut _ _ D.TOi1.symm e))
 have h2₅:h₅.IsTupleIter i2 l2 (k + 1):=vf h2₄ fun o e=>hs₅.extBut _ _ D.TOi2.symm e
 have hzlt:z < h₅.objs.size:=Heap.lt_size hz₅
 show wpAny _ _ (Builtin.SmallTypes.ownedTupleHandOut (.ref z) (.ref h₅.objs.size) >>= _) _ _ _
 refine wpAny_bind ?_
 unfold Builtin.SmallTypes.ownedTupleHandOut
 have hz₆:IsZip (h₅.push { cls:=.type "tuple",data:=.seq #[.str ⟨#[c]⟩ s.toks,y] }) z TI TO .ellipsis:=Heap.get?_push_of_some _ hz₅
 refine wpAny_bind (wpAny_setField_rec hz₆ (by simp) fun h₇ hz₇ hs₇=>?_)
 replace hz₇:IsZip h₇ z TI TO (rawInt h₅.objs.size):=hz₇
 refine wpAny_setField_rec hz₇ (by simp) fun h₈ hz₈ hs₈=>?_
 replace hz₈:IsZip h₈ z TI TO (rawInt h₅.objs.size):=hz₈
 have up:∀ c o,c ≠ z -> h₅.get? c = some o -> h₈.get? c = some o:=fun c o c1 e=>hs₈.extBut _ _ c1 (hs₇.extBut _ _ c1 (Heap.get?_push_of_some _ e))
 have hT₈:IsPair h₈ h₅.objs.size (.str ⟨#[c]⟩ s.toks) y:=hs₈.extBut _ _ (Nat.ne_of_gt hzlt) (hs₇.extBut _ _ (Nat.ne_of_gt hzlt) (Heap.get?_push_size _ rfl))
 have hz8:h₈.objs.size = h₅.objs.size + 1:=by rw [hs₈.1,hs₇.1,Heap.size_push]
 rw [hsz] at hz₈ hT₈ hz8
 refine wpAny_pure ⟨_,rfl,?_⟩
 show Q (.ref h₅.objs.size) _
 rw [hsz]
 exact hQ h₈ s.toks hz₈ (up _ _ D.TOz hTO₅) (wz h1₅ fun o e=>up _ o D.i1z e) (vf h2₅ fun o e=>up _ o D.i2z e) hT₈ hz8 fun c o c1 c2 c3 c4 e=>up c o c1 (hk₅ c o c1 c2 c3 c4 e)
theorem VU {z TI TO i1 i2 l2:Addr} {k:Nat} {X:Str} {tx:Tok} {a b:Value} {Q:Fin -> Shared -> Prop} (hh:A.handled = none) (D:U3 z TI TO i1 i2 l2)
  (hz:IsZip s.heap z TI TO .none) (hTI:IsPair s.heap TI (.ref i1) (.ref i2)) (hTO:IsPair s.heap TO a b)
  (h1:s.heap.IsStrIter i1 (strIterType X) X tx k) (hx:X.cps[k]? = none)
  (hE:∀ h' e,(∀ c o,c ≠ z -> c ≠ TO -> c ≠ i1 -> c ≠ i2 -> s.heap.get? c = some o -> h'.get? c = some o) -> (∃ o,h'.get? e = some o /\ o.cls = .type "StopIteration") -> E (.ref e) { s with heap:=h' }) :
  wpAny (model prog w) A (Builtin.«zip.__next__» ⟨[.ref z],[]⟩) Q E s:=by
 show wpAny _ _ (field (.ref z) 2 >>= _) _ _ _
 refine wpAny_bind (wpAny_field hz rfl (x:=.bool false) rfl ?_)
 show wpAny _ _ (field (.ref z) 3 >>= _) _ _ _
 refine wpAny_bind (wpAny_field hz rfl (x:=.ref TI) rfl ?_)
 refine wpAny_bind (wpAny_seqItems hTI rfl ?_)
 show wpAny _ _ (Builtin.SmallTypes.ownedTupleIsFree (.ref z) >>= _) _ _ _
 refine wpAny_bind ?_
 unfold Builtin.SmallTypes.ownedTupleIsFree
 refine wpAny_bind (wpAny_field hz rfl (x:=.none) rfl (wpAny_pure ?_))
 simp only [if_true]
 refine wpAny_bind (wpAny_rule ?_)
 refine wpAny_bind (wpAny_field hz rfl (x:=.ref TO) rfl ?_)
 refine wpAny_bind (wpAny_setField_rec hz (by simp) fun h₁ hz₁ hs₁=>?_)
 replace hz₁:IsZip h₁ z TI TO .ellipsis:=hz₁
 refine wpAny_bind ?_
 simp only [List.zipIdx_cons,List.zipIdx_nil,List.forIn_cons,List.forIn_nil]
 refine wpAny_bind (wpAny_bind (wpAny_onRaise ?_))
 show wpAny _ _ (Builtin.SmallTypes.nextOf (.ref i1) >>= _) _ _ _
 refine wpAny_bind (uX (s:={ s with heap:=h₁ }) hh (wz h1 fun o e=>hs₁.extBut _ _ D.i1z e) hx fun h₂ e hs₂ he=>?_)
 obtain ⟨oe,hoe,hce⟩:=he
 have hz₂:IsZip h₂ z TI TO .ellipsis:=hs₂ _ _ D.i1z.symm hz₁
 have hez:e ≠ z:=fun x=>by subst x; rw [hz₂] at hoe; cases hoe; simp at hce
 refine wpAny_setField_rec hz₂ (by simp) fun h₃ _ hs₃=>hE h₃ e (fun c o c1 _ c3 _ x=>hs₃.extBut _ _ c1 (hs₂ _ _ c3 (hs₁.extBut _ _ c1 x))) ⟨oe,hs₃.extBut _ _ hez hoe,hce⟩
end
end L3
namespace L3
open PySem PySem.Spec PyProof.Rows L2
section
variable {prog:Program} {w:World} {A:Around} {E:Value -> Shared -> Prop} {s:Shared}
theorem uK {z TI TO i1 i2 l2:Addr} {k c:Nat} {X:Str} {tx:Tok} {ys:Array Value} {y a b:Value} {Q:Option Value -> Shared -> Prop} (D:U3 z TI TO i1 i2 l2)
  (hz:IsZip s.heap z TI TO .none) (hTI:IsPair s.heap TI (.ref i1) (.ref i2)) (hTO:IsPair s.heap TO a b)
  (h1:s.heap.IsStrIter i1 (strIterType X) X tx k) (h2:s.heap.IsTupleIter i2 l2 k) (hl2:s.heap.IsTuple l2 ys) (hx:X.cps[k]? = some c) (hy:ys[k]? = some y)
  (hQ:∀ h' t',IsZip h' z TI TO (rawInt s.heap.objs.size) -> IsPair h' TO (.str ⟨#[c]⟩ t') y -> h'.IsStrIter i1 (strIterType X) X tx (k + 1) -> h'.IsTupleIter i2 l2 (k + 1) -> IsPair h' s.heap.objs.size (.str ⟨#[c]⟩ t') y -> h'.objs.size = s.heap.objs.size + 1 ->
   (∀ c o,c ≠ z -> c ≠ TO -> c ≠ i1 -> c ≠ i2 -> s.heap.get? c = some o -> h'.get? c = some o) -> Q (some (.ref s.heap.objs.size)) { s with heap:=h',toks:=s.toks + 1 }) :
  wpAny (model prog w) A (pyNext (.ref z)) Q E s:=by
 have hT:s.TypeIs (.ref z) "zip":=⟨_,hz,rfl⟩
 unfold pyNext
 exact wpAny_bind (wpAny_attempt (wpAny_callSpecial?_slot (name:=Str.ofString "__next__") hT F.slot_zip_next
  (wpAny_call_entry F.slot_zip_next hT F.entry_zip_next
   (WE D hz hTI hTO h1 h2 hl2 hx hy fun h' t' a1 a2 a3 a4 a5 a6 a7=>wpAny_pure (hQ h' t' a1 a2 a3 a4 a5 a6 a7)) (F.args_zip_next_1 _))))
theorem uW {z TI TO i1 i2 l2:Addr} {k:Nat} {X:Str} {tx:Tok} {a b:Value} {Q:Option Value -> Shared -> Prop} (hh:A.handled = none) (D:U3 z TI TO i1 i2 l2)
  (hz:IsZip s.heap z TI TO .none) (hTI:IsPair s.heap TI (.ref i1) (.ref i2)) (hTO:IsPair s.heap TO a b)
  (h1:s.heap.IsStrIter i1 (strIterType X) X tx k) (hx:X.cps[k]? = none)
  (hQ:∀ h',(∀ c o,c ≠ z -> c ≠ TO -> c ≠ i1 -> c ≠ i2 -> s.heap.get? c = some o -> h'.get? c = some o) -> Q none { s with heap:=h' }):wpAny (model prog w) A (pyNext (.ref z)) Q E s:=by
 have hT:s.TypeIs (.ref z) "zip":=⟨_,hz,rfl⟩
 unfold pyNext
 refine wpAny_bind (wpAny_attempt (wpAny_callSpecial?_slot (name:=Str.ofString "__next__") hT F.slot_zip_next
  (wpAny_call_entry F.slot_zip_next hT F.entry_zip_next (VU hh D hz hTI hTO h1 hx fun h' e hk he=>?_) (F.args_zip_next_1 _))))
 obtain ⟨o,ho,hc⟩:=he
 refine wpAny_bind (wpAny_isInstance (T:="StopIteration") (b:=true) ⟨o,ho,hc⟩ isSubtype_stop ?_)
 exact wpAny_pure (hQ _ hk)
end
abbrev QM (h:Heap) (x:Str) (t:Tok):Heap:=h.push { cls:=.type (strIterType x),data:=.fields #[.str x t,.int 0 0] }
abbrev QK (h:Heap) (x:Str) (t:Tok) (l2:Addr):Heap:=(QM h x t).push { cls:=.type "tuple_iterator",data:=.fields #[.ref l2,.int 0 0] }
abbrev QJ (h:Heap) (x:Str) (t:Tok) (l2:Addr):Heap:=(QK h x t l2).push { cls:=.type "tuple",data:=.seq #[.ref h.objs.size,.ref (QM h x t).objs.size] }
abbrev QI (h:Heap) (x:Str) (t:Tok) (l2:Addr):Heap:=(QJ h x t l2).push { cls:=.type "tuple",data:=.seq #[.none,.none] }
abbrev Ub (h:Heap) (x:Str) (t:Tok) (l2:Addr):Heap:=(QI h x t l2).push { cls:=.type "zip",data:=.fields #[.none,.bool false,.bool false,.ref (QK h x t l2).objs.size,.ref (QJ h x t l2).objs.size] }
theorem qA (x:Str) (t:Tok) (l2:Addr) (ys:Array Value) :
  Meets (Builtin.«zip.__new__» ⟨[.type "zip",.str x t,.ref l2],[]⟩) (fun _ R s=>s.heap.IsTuple l2 ys /\
   R (.ok (.ret (.ref (QI s.heap x t l2).objs.size))) { s with heap:=Ub s.heap x t l2 }) :=
 .of_wp fun prog w A R s h=>by
  obtain ⟨hp,g,d,tk,os⟩:=s; obtain ⟨hl2,h⟩:=h
  have hsub:=sub_zip
  have hL2:Heap.IsTuple (Shared.heap ⟨hp.push { cls:=.type (strIterType x),data:=.fields #[.str x t,.int 0 0] },g,d,tk,os⟩) l2 ys:=Vu hl2 fun o e=>Heap.get?_push_of_some _ e
  wp_walk using wpAny_pyIter_strU (s:=⟨hp,g,d,tk,os⟩) (x:=x) (t:=t),wpAny_pyIter_tuple hL2
  exact ⟨_,rfl,h⟩
section
variable {prog:Program} {w:World} {A:Around} {E:Value -> Shared -> Prop} {s:Shared}
theorem Wn {x:Str} {t:Tok} {l2:Addr} {ys:Array Value} {Q:Value -> Shared -> Prop} (hl2:s.heap.IsTuple l2 ys)
  (h:∀ h',IsZip h' (s.heap.objs.size + 4) (s.heap.objs.size + 2) (s.heap.objs.size + 3) .none -> IsPair h' (s.heap.objs.size + 2) (.ref s.heap.objs.size) (.ref (s.heap.objs.size + 1)) ->
   IsPair h' (s.heap.objs.size + 3) .none .none -> h'.IsStrIter s.heap.objs.size (strIterType x) x t 0 -> h'.IsTupleIter (s.heap.objs.size + 1) l2 0 -> h'.objs.size = s.heap.objs.size + 5 ->
   (∀ c o,s.heap.get? c = some o -> h'.get? c = some o) -> Q (.ref (s.heap.objs.size + 4)) { s with heap:=h' }) :
  wpAny (model prog w) A (call (.type "zip") [.str x t,.ref l2]) Q E s:=by
 refine callType_new F.called_zip (by decide) (F.typeCall_zip_2 _ _) (F.newCall_zip_2 _ _) (fun obj=>F.args_object_init_3 obj _ _) F.entry_zip_new
  (qA x t l2 ys) ⟨hl2,?_⟩
 have z1:(QM s.heap x t).objs.size = s.heap.objs.size + 1:=Heap.size_push ..
 have z2:(QK s.heap x t l2).objs.size = s.heap.objs.size + 2:=by rw [Heap.size_push,z1]
 have z3:(QJ s.heap x t l2).objs.size = s.heap.objs.size + 3:=by rw [Heap.size_push,z2]
 have z4:(QI s.heap x t l2).objs.size = s.heap.objs.size + 4:=by rw [Heap.size_push,z3]
 have z5:(Ub s.heap x t l2).objs.size = s.heap.objs.size + 5:=by rw [Heap.size_push,z4]
 have g5:(Ub s.heap x t l2).get? (QI s.heap x t l2).objs.size = some _:=Heap.get?_push_size _ rfl
 have g4:(Ub s.heap x t l2).get? (QJ s.heap x t l2).objs.size = some _:=Heap.get?_push_of_some _ (Heap.get?_push_size _ rfl)
 have g3:(Ub s.heap x t l2).get? (QK s.heap x t l2).objs.size = some _:=Heap.get?_push_of_some _ (Heap.get?_push_of_some _ (Heap.get?_push_size _ rfl))
 have g2:(Ub s.heap x t l2).get? (QM s.heap x t).objs.size = some _:=Heap.get?_push_of_some _ (Heap.get?_push_of_some _ (Heap.get?_push_of_some _ (Heap.get?_push_size _ rfl)))
 have g1:(Ub s.heap x t l2).get? s.heap.objs.size = some _:=Heap.get?_push_of_some _ (Heap.get?_push_of_some _ (Heap.get?_push_of_some _ (Heap.get?_push_of_some _ (Heap.get?_push_size _ rfl))))
 show _ /\ _
 rw [z2,z3,z4] at g5
 rw [z1,z2] at g3
 rw [z3] at g4
 rw [z1] at g2
 rw [z4]
 exact ⟨⟨_,g5,rfl⟩,h _ g5 g3 g4 ⟨_,g1,rfl,rfl⟩ ⟨_,g2,rfl,rfl⟩ z5 fun c o x =>
  Heap.get?_push_of_some _ (Heap.get?_push_of_some _ (Heap.get?_push_of_some _ (Heap.get?_push_of_some _ (Heap.get?_push_of_some _ x))))⟩
end
end L3
namespace L3
open PySem PySem.Spec PyProof.Rows L2
def Izs (K:PySem.W.Frag) (l:List Nat) (b:Addr):It:=⟨fun i H=>∃ ys y,SqT K H b ys /\ i < l.length /\ ys[i]? = some y,fun i H v H'=>∃ p c y,H p = none /\ l[i]? = some c /\ (∀ ys,SqT K H b ys -> ys[i]? = some y) /\ v = .ref p /\ H' = upd H p (.tup [.str (tx [c]),y]),fun i H=>i = l.length⟩
def ZSt (z TI TO i1 i2:Addr) (X:Str) (t:Tok) (l2:Addr) (i:Nat) (h:Heap):Prop:=IsZip h z TI TO .none /\ IsPair h TI (.ref i1) (.ref i2) /\ (∃ a b,IsPair h TO a b) /\ h.IsStrIter i1 (strIterType X) X t i /\ h.IsTupleIter i2 l2 i
theorem Wy {P:Program} {w:World} {K:PySem.W.Frag} {elts:List Expr} {x1:Nat} {tpos:Pos} (z TI TO i1 i2 l2:Addr) (l:List Nat) (t:Tok) (D:U3 z TI TO i1 i2 l2) :
  W2 P w K (.Tuple elts x1 tpos) (Izs K l l2) [z,TI,TO,i1,i2] z (fun i h=>ZSt z TI TO i1 i2 (tx l) t l2 i h) where
 mem:=by simp
 obj:=fun i h st b hb=>by
  obtain ⟨hz,hTI,⟨a,c,hTO⟩,⟨o1,e1,c1,d1⟩,⟨o2,e2,c2,d2⟩⟩:=st
  simp only [List.mem_cons,List.mem_nil_iff,or_false] at hb
  rcases hb with rfl | rfl | rfl | rfl | rfl
  ·exact ⟨_,hz,fun v q=>by have q':Data.fields _ = Data.cell v:=q; cases q'⟩
  ·exact ⟨_,hTI,fun v q=>by have q':Data.seq _ _ = Data.cell v:=q; cases q'⟩
  ·exact ⟨_,hTO,fun v q=>by have q':Data.seq _ _ = Data.cell v:=q; cases q'⟩
  ·exact ⟨o1,e1,fun v q=>by rw [d1] at q; cases q⟩
  ·exact ⟨o2,e2,fun v q=>by rw [d2] at q; cases q⟩
 keep:=fun i h h' st k=>by
  obtain ⟨hz,hTI,⟨a,c,hTO⟩,h1,h2⟩:=st
  exact ⟨k z (by simp) _ hz,k TI (by simp) _ hTI,⟨a,c,k TO (by simp) _ hTO⟩,wz h1 fun o e=>k i1 (by simp) o e,vf h2 fun o e=>k i2 (by simp) o e⟩
 item:=by
  intro X hP hw hK hc i pins s σ H E I hf st hg
  subst hP hw hK
  obtain ⟨ys,y,hqy,hi,hy⟩:=hg
  obtain ⟨its2,rv2,p2,_⟩:=I.tuple hqy
  obtain ⟨u2,hu2,ru2⟩:=rv2.get hy
  obtain ⟨hz,hTI,⟨a,b,hTO⟩,h1,h2⟩:=st
  have hl2:s.heap.IsTuple l2 its2.toArray:=p2
  have hx:(tx l).cps[i]? = some l[i]:=by
   show l.toArray[i]? = _
   simp [hi]
  refine uK D hz hTI hTO h1 h2 hl2 hx (y:=u2) (by simpa using hu2) fun h' t' a1 a2 a3 a4 a5 a6 hk=>?_
  refine ⟨_,rfl,wpAny_letOwnedTupleGo_zip (s:={ s with heap:=h',toks:=s.toks + 1 }) a1 fun h2' hz2 sb=>?_⟩
  have zlt:z < s.heap.objs.size:=Heap.lt_size hz
  have TIlt:TI < s.heap.objs.size:=Heap.lt_size hTI
  have TOlt:TO < s.heap.objs.size:=Heap.lt_size hTO
  have i1lt:i1 < s.heap.objs.size:=by obtain ⟨o,e,_⟩:=h1; exact Heap.lt_size e
  have i2lt:i2 < s.heap.objs.size:=by obtain ⟨o,e,_⟩:=h2; exact Heap.lt_size e
  have I1:Inv X pins σ H { s with heap:=h2',toks:=s.toks + 1 }:=Inv.turns (fp:=[z,TI,TO,i1,i2]) I (fun b o hb q=>by
   have hb':b ≠ z /\ b ≠ TI /\ b ≠ TO /\ b ≠ i1 /\ b ≠ i2:=by simpa using hb
   exact (sb.2 b hb'.1).trans (hk b o hb'.1 hb'.2.2.1 hb'.2.2.2.1 hb'.2.2.2.2 q)) hf
  have hp:H s.heap.objs.size = none:=I.hok.fresh (Nat.le_refl _)
  have hT2:h2'.get? s.heap.objs.size = some { cls:=.type "tuple",data:=.seq #[.str ⟨#[l[i]]⟩ t',u2] }:=(sb.2 _ (Nat.ne_of_gt zlt)).trans a5
  have ru1:RelV (.str (tx [l[i]])) (.str ⟨#[l[i]]⟩ t'):=⟨t',rfl⟩
  have I2:Inv X pins σ (upd H s.heap.objs.size (.tup [.str (tx [l[i]]),y])) { s with heap:=h2',toks:=s.toks + 1 } :=
   Inv.track I1 (I.fpOk (Nat.le_refl _) hp) ⟨by show 2 <= sizeLine; decide,[.str ⟨#[l[i]]⟩ t',u2],.cons ru1 (.cons ru2 .nil),⟨_,hT2,rfl,_,rfl⟩⟩
  refine ⟨.ref s.heap.objs.size,_,I2,rfl,⟨s.heap.objs.size,l[i],y,hp,by simp [hi],fun zs hz'=>by rw [I.tuple_inj hz' hqy]; exact hy,rfl,rfl⟩,⟨hz2,(sb.2 _ D.TIz).trans (hk _ _ D.TIz D.TITO D.TIi1 D.TIi2 hTI),⟨_,_,(sb.2 _ D.TOz).trans a2⟩,wz a3 fun o e=>(sb.2 _ D.i1z).trans e,vf a4 fun o e=>(sb.2 _ D.i2z).trans e⟩,fun b hb=>?_⟩
  rw [zo]
  ·exact (hf b hb).1
  ·simp only [List.mem_cons,List.mem_nil_iff,or_false] at hb
   rcases hb with rfl | rfl | rfl | rfl | rfl <;> exact Nat.ne_of_lt (by assumption)
 done:=by
  intro X hP hw hK hc i pins s σ H E I hf st hg
  subst hP hw hK
  have hi:i = l.length:=hg
  obtain ⟨hz,hTI,⟨a,b,hTO⟩,h1,h2⟩:=st
  refine uW (I.ok.hd hc) D hz hTI hTO h1 ?_ fun h' hk=>⟨rfl,?_⟩
  ·show l.toArray[i]? = none
   simp [hi]
  ·exact Inv.turns (fp:=[z,TI,TO,i1,i2]) (t':=s.toks) I (fun b o hb q=>by
    have hb':b ≠ z /\ b ≠ TI /\ b ≠ TO /\ b ≠ i1 /\ b ≠ i2:=by simpa using hb
    exact hk b o hb'.1 hb'.2.2.1 hb'.2.2.2.1 hb'.2.2.2.2 q) hf
 self:=fun A i s Q E st h=>wpAny_pyIter_zip st.1 h
section
variable {X:Cx}
def iZs (K:PySem.W.Frag) (ta:TA):TI:=fun σ H R=>ta σ H fun vs H1=>∃ l b,vs = [.str (tx l),.ref b] /\ (∃ ys,SqT K H1 b ys) /\ R (Izs K l b) H1
theorem U4 {a b:Expr} {ta:TA} {p pos tpos:Pos} {elts:List Expr} {x1:Nat} (hg:Gl X "zip") (hm:X.mg "zip" = none) (ha:PA X [a,b] ta) (hs:starEach [a,b] X.env = (false,eval a X.env) :: starEach [b] X.env:=by rfl)
  (hpl:(backTo pos (starEach [b] X.env)).any (·.1) = false:=by rfl):PI X (.Tuple elts x1 tpos) (.Call (.Name "zip" p) [a,b] [] pos) (iZs X.K ta):=by
 intro pins s σ H R I h
 refine Call_ (vK I hg hm PyProof.Rows.boot_zip (PyProof.Rows.callWith_type1 (thn (ha pos pins s σ H _ I h) fun us s1 ⟨vs,H1,I1,r1,q1⟩=>?_) hs hpl))
 obtain ⟨l,l2,e,⟨ys,hqy⟩,q⟩:=q1
 subst e
 obtain ⟨u1,u2,rfl,ru1,ru2⟩:=Xl r1
 obtain ⟨t,rfl⟩:=ru1
 cases ru2
 obtain ⟨its2,rv2,p2,_⟩:=I1.tuple hqy
 have hl2:s1.heap.IsTuple l2 its2.toArray:=p2
 have l2lt:l2 < s1.heap.objs.size:=by obtain ⟨o,e,_⟩:=hl2; exact Heap.lt_size e
 have ne:∀ a b:Nat,a ≠ b -> s1.heap.objs.size + a ≠ s1.heap.objs.size + b:=fun a b h e=>h (Nat.add_left_cancel e)
 have nl:∀ a:Nat,l2 ≠ s1.heap.objs.size + a:=fun a=>Nat.ne_of_lt (Nat.lt_of_lt_of_le l2lt (Nat.le_add_right _ _))
 refine Wn hl2 fun h' hz hTI hTO h1 h2 hsz kk=>?_
 have I2:Inv X pins σ H1 { s1 with heap:=h' }:=I1.kept (t':=s1.toks) kk
 refine wpAny_pyIter_zip (s:={ s1 with heap:=h' }) hz ?_
 refine ⟨s1.heap.objs.size + 4,[s1.heap.objs.size + 4,s1.heap.objs.size + 2,s1.heap.objs.size + 3,s1.heap.objs.size,s1.heap.objs.size + 1],_,_,H1,rfl,I2,Wy (s1.heap.objs.size + 4) (s1.heap.objs.size + 2) (s1.heap.objs.size + 3) s1.heap.objs.size (s1.heap.objs.size + 1) l2 l t ⟨⟨ne 2 4 (by decide),ne 3 4 (by decide),ne 0 4 (by decide),ne 1 4 (by decide),ne 2 3 (by decide),ne 2 0 (by decide),ne 2 1 (by decide),ne 3 0 (by decide),ne 3 1 (by decide),ne 0 1 (by decide)⟩,nl 4,nl 3,nl 0,nl 1⟩,⟨hz,hTI,⟨_,_,hTO⟩,h1,h2⟩,fun b hb=>?_,q⟩
 have hb':s1.heap.objs.size <= b:=by
  simp only [List.mem_cons,List.mem_nil_iff,or_false] at hb
  rcases hb with e | e | e | e | e
  ·rw [e]; exact Nat.le_add_right _ _
  ·rw [e]; exact Nat.le_add_right _ _
  ·rw [e]; exact Nat.le_add_right _ _
  ·rw [e]; exact Nat.le_refl _
  ·rw [e]; exact Nat.le_add_right _ _
 exact I1.fpOk hb' (I1.hok.fresh hb')
end
def CompZ (K:PySem.W.Frag) (l:List Nat) (b:Addr) (g:TG) (tt:TT) (te:TE) (own:Nat) (ix:List Nat) (σ:L2.St) (H1:Hp) (Q:VK) (D:Addr):Prop:=Y2 (Izs K l b) g tt te own ix σ H1 Q D
theorem zM {K:PySem.W.Frag} {ta:TA} {g:TG} {tt:TT} {te:TE} {own:Nat} {ix:List Nat} {σ:L2.St} {H:Hp} {Q:VK}:qz (iZs K ta) g tt te own ix σ H Q = ta σ H fun vs H1=>∃ l b,vs = [.str (tx l),.ref b] /\ (∃ ys,SqT K H1 b ys) /\ ∀ D,H1 D = none -> CompZ K l b g tt te own ix σ H1 Q D:=rfl
section
variable {g:TG} {tt:TT} {te:TE} {own:Nat} {ix:List Nat} {σ:L2.St} {H1:Hp} {Q:VK} {D:Addr}
theorem CompZ.by {K:PySem.W.Frag} {l:List Nat} {b:Addr} {ys:List V} (Pv:Nat -> List V -> Hp -> Prop) (hlen:l.length = ys.length) (h0:Pv 0 [] (upd H1 D (.lst []))) (hl:∀ i acc H',i <= l.length -> Pv i acc H' -> SqT K H' b ys)
  (hs:∀ i c y acc H' p,l[i]? = some c -> ys[i]? = some y -> Pv i acc H' -> H' p = none -> g (.ref p) (vj σ own ix) (upd H' p (.tup [.str (tx [c]),y])) fun σ3 H3=>xf (vj σ own ix) σ3 /\ tt σ3 H3 fun b H4=>if b = true then
   te σ3 H4 fun v H5=>H5 D = some (.lst acc) /\ acc.length < sizeLine /\ CNx l.length i Pv (acc ++ [v]) (upd H5 D (.lst (acc ++ [v]))) else CNx l.length i Pv acc H4)
  (hd:∀ acc H',Pv l.length acc H' -> Q (.ref D) H'):CompZ K l b g tt te own ix σ H1 Q D:=by
 refine ⟨fun i m acc H=>m = l.length - i /\ i <= l.length /\ Pv i acc H,⟨l.length,by simp,Nat.zero_le _,h0⟩,?_⟩
 rintro i m acc H' ⟨rfl,hi,p⟩
 have q:=hl i acc H' hi p
 by_cases hlt:i < l.length
 ·refine .inr ⟨⟨ys,ys[i],q,hlt,by simp [<- hlen,hlt]⟩,fun x H2 y=>?_⟩
  obtain ⟨p',c,y,hp,hc,hy,ev,eH⟩:=y
  subst ev eH
  exact hs i c y acc H' p' hc (hy ys q) p hp
 ·have e:i = l.length:=by omega
  subst e
  exact .inl ⟨rfl,hd acc H' p⟩
end
end L3
namespace L3
open PySem PySem.Spec PyProof.Rows L2
section
variable {X:Cx} {k1 k2 k3 j:Nat} {C1 C2 C3:Addr} {m:Str} {ps:List Str} {s1 s2 s3:Sp} {o e:Expr} {es:List Expr} {ta:TE} {t:TA} {apos pos p:Pos} {E:XK}
def yF (t1 t2:TE):TE:=fun σ H Q=>t1 σ H Q \/ t2 σ H Q
theorem Vl {t1 t2:TE} (h1:PE X e t1) (h2:PE X e t2):PE X e (yF t1 t2):=by
 intro pins s σ H Q I h
 rcases h with h | h
 ·exact h1 pins s σ H Q I h
 ·exact h2 pins s σ H Q I h
theorem Qb (D1:DM X.prog X.w X.K X.mg X.base CX0 k1 C1 m ps s1) (D2:DM X.prog X.w X.K X.mg X.base CX0 k2 C2 m ps s2) (D3:DM X.prog X.w X.K X.mg X.base CX0 k3 C3 m ps s3) (c1:Cls X.K C1) (c2:Cls X.K C2) (c3:Cls X.K C3) (hr:Room j X.A) (he:PE X o ta) (ha:PA X (e :: es) t) {pl:Sem Bool}
    (hst:starEach (e :: es) X.env = (false,eval e X.env) :: starEach es X.env:=by rfl) (hpl:(backTo pos (starEach es X.env)).any (·.1) = false:=by rfl)
    (ht:eval (.Call (.Attribute o m apos) (e :: es) [] pos) X.env = (do
      let ov <- eval o X.env
      standAt apos.atName
      let (f,first) <- holding [ov] (getMethod ov m pl)
      callWith pos f first (backTo pos (starEach (e :: es) X.env)) (backToKw pos (keywordEach [] X.env))):=by rfl) (h1:k1 <= j:=by decide) (h2:k2 <= j:=by decide) (h3:k3 <= j:=by decide) :
    PE X (.Call (.Attribute o m apos) (e :: es) [] pos) (yF (jU C1 m s1 [] E0 ta t) (yF (jU C2 m s2 [] E0 ta t) (jU C3 m s3 [] E0 ta t))) :=
  Vl (me1 (pl:=pl) D1 c1 hr he ha hst hpl ht h1) (Vl (me1 (pl:=pl) D2 c2 hr he ha hst hpl ht h2) (me1 (pl:=pl) D3 c3 hr he ha hst hpl ht h3))
end
end L3
namespace L3
open PySem PySem.Spec PyProof.Rows L2
section
variable {X:Cx}
end
end L3
namespace L3
open PySem PySem.Spec PyProof.Rows L2
section
variable {X:Cx}
end
end L3
namespace L3
open PySem PySem.Spec PyProof.Rows L2 PySem.W PySem.Calls
section
variable {X:Cx}
end
end L3
namespace L3
open PySem PySem.Spec PyProof.Rows L2
section
variable {X:Cx} {k j:Nat} {C:Addr} {x f':Str} {ps:List Str} {sp:Sp} {e:Expr} {es:List Expr} {t:TA} {te:TX} {pos p:Pos}
end
section
variable {X:Cx} {k j:Nat} {C:Addr} {m x:Str} {ps:List Str} {sp:Sp} {e:Expr} {es:List Expr} {t:TA} {apos pos p:Pos} {E:XK}
end
end L3
namespace L3
open PySem PySem.Spec PyProof.Rows L2
section
variable {prog:Program} {w:World} {A:Around} {E:Value -> Shared -> Prop} {s:Shared} {env:Env}
end
end L3
namespace L3
open PySem PySem.Spec PyProof.Rows L2
theorem XEg.xe {X:Cx} {E:XK} (h:XEg X E):XE X E:=fun e s ⟨pins,σ,H,x,C,t,dx,tb,q⟩=>h e s ⟨.none,false,pins,σ,H,x,C,t,dx,tb,q⟩
section
variable {X:Cx} {k:Nat} {ps:List Str} {sp:Sp} {ds:List Value} {dvs:List V} {E:XK} {x:Str} {p pos:Pos} {e:Expr} {es:List Expr} {t:TA}
end
section
variable {X:Cx} {o e:Expr} {to:TE} {te:TX} {name:Str} {apos cpos:Pos} {T id:String} {r:V -> List V -> Hp -> VK -> Prop}
end
section
variable {X:Cx}
end
section
variable {X:Cx} {k j:Nat} {C:Addr} {ps:List Str} {sp:Sp} {e:Expr} {es:List Expr} {t:TA} {pos p:Pos} {x:Str}
end
end L3
namespace L3
open PySem PySem.Spec PyProof.Rows L2
theorem kd (x y:Str) (i j:Int) (t u v v':Tok):Gives (Builtin.«str.find» ⟨[.str x t,.str y u,.int i v,.int j v'],[]⟩) (.int (match Builtin.Str.occurrences x y (fromIndex x.length i) (min (fromIndex x.length j) x.length) 1 with | k :: _=>(k:Int) | []=>-1)):=by
 show Gives (match Builtin.Str.occurrences x y (fromIndex x.length i) (min (fromIndex x.length j) x.length) 1 with | k :: _=>retInt k | []=>(do rule "str.find.not-found"; retInt (-1))) _
 cases Builtin.Str.occurrences x y (fromIndex x.length i) (min (fromIndex x.length j) x.length) 1 with
 | nil=>exact .rule (.of_eq rfl)
 | cons k _=>exact .of_eq rfl
theorem kz (x y:Str) (lo hi:Nat) :
  (Builtin.Str.occurrences x y lo hi 1 = [] /\ ∀ i,lo <= i -> ¬ StrLaws.At x y hi i) \/
  ∃ i r,Builtin.Str.occurrences x y lo hi 1 = i :: r /\ lo <= i /\ StrLaws.At x y hi i /\ ∀ k,lo <= k -> k < i -> ¬ StrLaws.At x y hi k:=by
 rw [StrLaws.occ_eq]
 rcases StrLaws.occ_first x y hi 1 (Nat.le_refl 1) (List.range' lo (hi + 1 - lo)) lo (fun i hm=>(List.mem_range'_1.mp hm).1) with ⟨e,no⟩ | ⟨pre,a,post,e,e0,at_a,no⟩
 ·exact .inl ⟨by rw [e],fun i h1 h2=>no i (by have:=h2.1; rw [List.mem_range'_1]; omega) h2⟩
 ·have sp:=StrLaws.range'_split_from e
  generalize (forIn (List.range' lo (hi + 1 - lo)) ((#[]:Array Nat),lo) (StrLaws.occBody x y hi 1)).run.fst = z at e0 ⊢
  obtain ⟨zs⟩:=z
  cases zs with
  | nil=>simp at e0
  | cons b r =>
   have:b = a:=by simpa using e0
   subst this
   exact .inr ⟨b,r,rfl,sp.1,at_a,fun k h1 h2=>no k (sp.2 k h1 h2)⟩
theorem JA (l p:List Nat) (hi i:Nat):StrLaws.At (tx l) (tx p) hi i ↔ i + p.length <= hi /\ (l.drop i).take p.length = p:=by
 unfold StrLaws.At Builtin.Str.subAt
 rw [zO,beq_iff_eq]
 have e1:((tx l).cps.extract i (i + p.length)).toList = (l.drop i).take p.length:=by
  show (l.toArray.extract i (i + p.length)).toList = _
  simp [List.extract_eq_drop_take]
 have e2:((tx l).cps.extract i (i + p.length) = (tx p).cps) ↔ (l.drop i).take p.length = p:=by
  constructor
  ·intro h
   rw [<- e1,h]
  ·intro h
   apply Array.toList_inj.mp
   rw [e1,h]
 rw [e2]
def Vp:V -> List V -> Hp -> VK -> Prop:=fun x xs H Q=>∃ (l p:List Nat) (lo hi:Int),x = .str (tx l) /\ xs = [.str (tx p),.int lo,.int hi] /\ 0 <= lo /\ 0 <= hi /\ ∀ r:Int,((r = -1 /\ ∀ q:Nat,lo <= q -> (q:Int) + p.length <= hi -> q + p.length <= l.length -> (l.drop q).take p.length ≠ p) \/ ∃ k:Nat,r = k /\ lo <= k /\ (k:Int) + p.length <= hi /\ k + p.length <= l.length /\ (l.drop k).take p.length = p /\ ∀ q:Nat,lo <= q -> q < k -> (l.drop q).take p.length ≠ p) -> Q (.int r) H
theorem Uk {X:Cx}:MtR X "str.find" Vp:=by
 intro pins s σ H x xs v us Q I rx rv h
 obtain ⟨l,p,lo,hi,rfl,rfl,h0,h1,q⟩:=h
 obtain ⟨t,rfl⟩:=rx
 cases rv with
 | cons r1 r2 =>
  cases r2 with
  | cons r2 r3 =>
   obtain ⟨w3,rfl,t3,rfl⟩:=vn r3
   obtain ⟨t1,rfl⟩:=r1
   obtain ⟨t2,rfl⟩:=r2
   have f0:fromIndex (tx l).length lo = lo.toNat:=by unfold fromIndex; rw [if_neg (by omega)]; omega
   have f1:fromIndex (tx l).length hi = hi.toNat:=by unfold fromIndex; rw [if_neg (by omega)]; omega
   refine call_gives F.slot_str_find (typeIs_str _ _ _) F.entry_str_find (F.args_str_find_4 _ _ _ _) (kd _ _ lo hi t t1 t2 t3) ?_
   refine ⟨.int _,H,I.tok _,⟨_,rfl⟩,q _ ?_⟩
   rw [f0,f1]
   have hm:∀ k:Nat,k + p.length <= min hi.toNat (tx l).length ↔ (k:Int) + p.length <= hi /\ k + p.length <= l.length:=fun k=>by rw [zO]; omega
   rcases kz (tx l) (tx p) lo.toNat (min hi.toNat (tx l).length) with ⟨e,no⟩ | ⟨i,r,e,hl,ha,no⟩
   ·rw [e]
    exact .inl ⟨rfl,fun k k1 k2 k3 k4=>no k (by omega) ((JA l p _ k).mpr ⟨(hm k).mpr ⟨k2,k3⟩,k4⟩)⟩
   ·rw [e]
    obtain ⟨a1,a2⟩:=(JA l p _ i).mp ha
    obtain ⟨b1,b2⟩:=(hm i).mp a1
    exact .inr ⟨i,rfl,by omega,b1,b2,a2,fun k k1 k2 k4=>no k (by omega) k2 ((JA l p _ k).mpr ⟨(hm k).mpr ⟨by omega,by omega⟩,k4⟩)⟩
end L3
namespace L3
open PySem PySem.Spec PyProof.Rows L2
section
variable {prog:Program} {w:World} {A:Around} {R:Result -> Shared -> Prop} {I l S:Addr}
theorem Xp (hh:A.handled = none) (hlI:l ≠ I) (hSI:S ≠ I) (hSl:S ≠ l) (xs:Array Value) (val:Nat -> Int) (hv:∀ i v,xs[i]? = some v -> ∃ t,v = Value.int (val i) t) (d:Value) :
  ∀ (k j:Nat) (z:Int) (t:Tok) (s:Shared) (c:Nat),xs.size - j = k -> j <= xs.size -> (∀ i,i < j -> val i <= z) -> s.heap.IsListIter I l j -> s.heap.IsList l xs -> s.heap.get? S = some (seqObj "list" #[.int z t,.int z t] c) ->
   (∀ z' t' h' tk,(∀ i,i < xs.size -> val i <= z') -> (∀ b o,b ≠ I -> b ≠ S -> s.heap.get? b = some o -> h'.get? b = some o) -> R (.ok (.ret (.int z' t'))) { s with heap:=h',toks:=tk }) ->
   codeAny (model prog w) A (.builtin "max.loop" ⟨[.ref I,.none,.ref S],[(Str.ofString "default",d)]⟩) R s:=by
 have nm:(toString "max" ++ toString ".loop" : String) = "max.loop":=by decide
 have W:=Walks.list (prog:=prog) (w:=w) (A:=A.in1) hh I l hlI xs
 intro k
 induction k with
 | zero =>
  intro j z t s c hk hj hz hit hl hS hR
  have e:j = xs.size:=by omega
  refine codeAny_builtin (b:=Builtin.«max.loop») PySem.F.entry_max_loop ?_
  rw [Around.under_plainId (id:="max.loop") PySem.F.plain_max_loop _]
  show wpAny _ A.in1 (seqItems? (Value.ref S) >>= _) _ _ s
  refine wpAny_bind (wpAny_seqItems (items:=#[.int z t,.int z t]) hS rfl ?_)
  show wpAny _ A.in1 (tryCatch (pyNext (Value.ref I)) _ >>= _) _ _ s
  refine wpAny_bind (wpAny_tryCatch (W.done s _ _ ⟨e ▸ hit,hl⟩ fun h' tk kp=>?_))
  have hS':=kp S _ (by simpa using hSI) hS
  show wpAny _ A.in1 (updateSeq S (fun _=>(#[]:Array Value)) >>= _) _ _ _
  refine wpAny_bind (wpAny_updateSeq hS' rfl (wpAny_bind (wpAny_letGo (wpAny_pure ?_))))
  exact hR z t _ tk (fun i hi=>hz i (by omega)) fun b o hb hb' q=>(Heap.get?_update_other _ _ (Ne.symm hb')).trans (kp b o (by simpa using hb) q)
 | succ k ih =>
  intro j z t s c hk hj hz hit hl hS hR
  refine codeAny_builtin (b:=Builtin.«max.loop») PySem.F.entry_max_loop ?_
  rw [Around.under_plainId (id:="max.loop") PySem.F.plain_max_loop _]
  show wpAny _ A.in1 (seqItems? (Value.ref S) >>= _) _ _ s
  refine wpAny_bind (wpAny_seqItems (items:=#[.int z t,.int z t]) hS rfl ?_)
  show wpAny _ A.in1 (tryCatch (pyNext (Value.ref I)) _ >>= _) _ _ s
  refine wpAny_bind (wpAny_tryCatch (W.item j s _ _ (by omega) ⟨hit,hl⟩ fun v h' tk hP st kp=>?_))
  obtain ⟨t2,rfl⟩:=hv j v hP
  have hS':=kp S _ (by simpa using hSI) hS
  show wpAny _ A.in1 (tryCatch (holding [Value.int (val j) t2,Value.int (val j) t2] (richCompare .Gt (.int (val j) t2) (.int z t) >>= _)) _ >>= _) _ _ _
  refine wpAny_bind (wpAny_tryCatch (wpAny_holding (wpAny_bind (CmpOf.ints_gt (prog:=prog) (w:=w) (A:=A.in1) (P:=fun i v=>∃ t,v = Value.int (if i = 0 then val j else z) t) (fun i=>if i = 0 then val j else z) (fun i v h=>h) 0 1 _ _ _ _ _ ⟨t2,rfl⟩ ⟨t,rfl⟩ ?_))))
  refine wpAny_bind (wpAny_holding (wpAny_truthy_bool (wpAny_bind (wpAny_letGo (wpAny_pure ?_)))))
  by_cases g:val j > z
  ·simp only [if_true,Nat.one_ne_zero,if_false,g,decide_true]
   refine wpAny_bind (wpAny_updateSeq hS' rfl (wpAny_bind (wpAny_letGo ?_)))
   rw [nm]
   refine wpAny_pure ⟨plainId_quiet PySem.F.plain_max_loop _,ih (j + 1) (val j) t2 _ _ (by omega) (by omega) (fun i hi=>?_) (W.frame _ _ _ st fun b hb o q=>?_).1 (W.frame _ _ _ st fun b hb o q=>?_).2 (get?_update_seq hS' _) fun z' t' h'' tk'' a1 a2=>hR z' t' h'' tk'' a1 fun b o hb hb' q=>a2 b o hb hb' ((Heap.get?_update_other _ _ (Ne.symm hb')).trans (kp b o (by simpa using hb) q))⟩
   ·by_cases e:i = j
    ·rw [e]
     exact Int.le_refl _
    ·have:=hz i (by omega)
     omega
   all_goals
    refine (Heap.get?_update_other _ _ (fun e:S = b=>?_)).trans q
    subst e
    rcases List.mem_cons.mp hb with e | e
    ·exact hSI e
    ·exact hSl (List.mem_singleton.mp e)
  ·simp only [if_true,Nat.one_ne_zero,if_false,g,decide_false,Bool.false_eq_true]
   refine wpAny_bind (wpAny_letGo ?_)
   rw [nm]
   refine wpAny_pure ⟨plainId_quiet PySem.F.plain_max_loop _,ih (j + 1) z t _ _ (by omega) (by omega) (fun i hi=>?_) st.1 st.2 hS' fun z' t' h'' tk'' a1 a2=>hR z' t' h'' tk'' a1 fun b o hb hb' q=>a2 b o hb hb' (kp b o (by simpa using hb) q)⟩
   by_cases e:i = j
   ·rw [e]
    omega
   ·exact hz i (by omega)
theorem jL (a v:Value):argsOk "max" ⟨[a],[(Str.ofString "default",v)]⟩:=by unfold argsOk; kernel_rfl
theorem Xk {E:Value -> Shared -> Prop} {s:Shared} {Q:Value -> Shared -> Prop} (hh:A.handled = none) (xs:Array Value) (val:Nat -> Int) (hv:∀ i v,xs[i]? = some v -> ∃ t,v = Value.int (val i) t) (hl:s.heap.IsList l xs) (d:Value)
  (h:∀ v h' tk,(xs.size = 0 -> v = d) -> (0 < xs.size -> ∃ z t,v = Value.int z t /\ ∀ i,i < xs.size -> val i <= z) -> (∀ b o,s.heap.get? b = some o -> h'.get? b = some o) -> Q v { s with heap:=h',toks:=tk }) :
  wpAny (model prog w) A (call (.builtin "max") [.ref l] [(Str.ofString "default",d)]) Q E s:=by
 have nm:(toString "max" ++ toString ".loop" : String) = "max.loop":=by decide
 have hlt:l < s.heap.objs.size:=by obtain ⟨_,e,_⟩:=hl; exact Heap.lt_size e
 refine kmb_tree PySem.F.kind_max PySem.F.plain_max PySem.F.entry_max (jL _ _) ?_
 show wpAny _ A.in1 (Builtin.Builtins.bindParams "max" ["key", "default"] 0 ⟨[],[(Str.ofString "default",d)]⟩ >>= _) _ _ s
 refine wpAny_bind (wpAny_of_eq (show Builtin.Builtins.bindParams "max" ["key", "default"] 0 ⟨[],[(Str.ofString "default",d)]⟩ = pure [none,some d] from rfl) (wpAny_bind (wpAny_pure ?_)))
 refine wpAny_bind (wpAny_pyIter_list hl (wpAny_bind (wpAny_newList ?_ (Nat.zero_le _))))
 rw [nm]
 refine wpAny_pure ⟨plainId_quiet PySem.F.plain_max_loop _,?_⟩
 have gI:(s.heap.push { cls:=.type "list_iterator",data:=.fields #[.ref l,.int 0 0] }).IsListIter s.heap.objs.size l 0:=⟨_,Heap.get?_push_size _ rfl,rfl,rfl⟩
 have gl:=hl.push { cls:=.type "list_iterator",data:=.fields #[.ref l,.int 0 0] }
 have kp0:∀ b o,s.heap.get? b = some o -> (s.heap.push { cls:=.type "list_iterator",data:=.fields #[.ref l,.int 0 0] }).get? b = some o:=fun b o q=>Heap.get?_push_of_some _ q
 have hsz:(s.heap.push { cls:=.type "list_iterator",data:=.fields #[.ref l,.int 0 0] }).objs.size = s.heap.objs.size + 1:=Heap.size_push _ _
 have hold:∀ b o,s.heap.get? b = some o -> b < s.heap.objs.size:=fun b o q=>Heap.lt_size q
 have hlI:l ≠ s.heap.objs.size:=Nat.ne_of_lt hlt
 generalize s.heap.push { cls:=.type "list_iterator",data:=.fields #[.ref l,.int 0 0] } = h1 at *
 generalize hIe:s.heap.objs.size = I at *
 have W:=Walks.list (prog:=prog) (w:=w) (A:=A.in1) hh I l hlI xs
 have gS:(h1.push { cls:=.type "list",data:=.seq ([]:List Value).toArray }).get? h1.objs.size = some (seqObj "list" #[] 0):=Heap.get?_push_size _ rfl
 have st0:=W.frame 0 _ (h1.push { cls:=.type "list",data:=.seq ([]:List Value).toArray }) ⟨gI,gl⟩ fun b _ o q=>Heap.get?_push_of_some _ q
 have kp1:∀ b o,s.heap.get? b = some o -> (h1.push { cls:=.type "list",data:=.seq ([]:List Value).toArray }).get? b = some o:=fun b o q=>Heap.get?_push_of_some _ (kp0 b o q)
 have hSI:h1.objs.size ≠ I:=by rw [hsz]; exact Nat.succ_ne_self I
 have hSl:h1.objs.size ≠ l:=by rw [hsz]; exact Nat.ne_of_gt (Nat.lt_succ_of_lt hlt)
 have hSb:∀ b o,s.heap.get? b = some o -> b ≠ I /\ b ≠ h1.objs.size:=fun b o q=>⟨Nat.ne_of_lt (hold b o q),by rw [hsz]; exact Nat.ne_of_lt (Nat.lt_succ_of_lt (hold b o q))⟩
 generalize h1.push { cls:=.type "list",data:=.seq ([]:List Value).toArray } = h2 at *
 generalize h1.objs.size = S at *
 refine codeAny_builtin (b:=Builtin.«max.loop») PySem.F.entry_max_loop ?_
 rw [Around.under_plainId (id:="max.loop") PySem.F.plain_max_loop _]
 show wpAny _ A.in1 (seqItems? (Value.ref S) >>= _) _ _ _
 refine wpAny_bind (wpAny_seqItems (items:=#[]) gS rfl ?_)
 show wpAny _ A.in1 (tryCatch (pyNext (Value.ref I)) _ >>= _) _ _ _
 by_cases hz:xs.size = 0
 ·refine wpAny_bind (wpAny_tryCatch (W.done _ _ _ (by rw [hz]; exact st0) fun h' tk kp=>?_))
  show wpAny _ A.in1 (rule _ >>= fun _=>_) _ _ _
  refine wpAny_bind (wpAny_rule (wpAny_pure ?_))
  exact h d h' tk (fun _=>rfl) (fun q=>absurd q (by omega)) fun b o q=>kp b o (by simpa using (hSb b o q).1) (kp1 b o q)
 ·refine wpAny_bind (wpAny_tryCatch (W.item 0 _ _ _ (by omega) st0 fun v h' tk hP st kp=>?_))
  obtain ⟨t,rfl⟩:=hv 0 v hP
  have hS':=kp S _ (by simpa using hSI) gS
  show wpAny _ A.in1 (updateSeq S (fun _=>#[Value.int (val 0) t,Value.int (val 0) t]) >>= _) _ _ _
  refine wpAny_bind (wpAny_updateSeq hS' rfl ?_)
  rw [nm]
  have st':=W.frame _ _ (h'.update S (Obj.mapSeq fun _=>#[Value.int (val 0) t,Value.int (val 0) t])) st fun b hb o q=>by
   refine (Heap.get?_update_other _ _ (fun e:S = b=>?_)).trans q
   subst e
   rcases List.mem_cons.mp hb with e | e
   ·exact hSI e
   ·exact hSl (List.mem_singleton.mp e)
  refine wpAny_pure ⟨plainId_quiet PySem.F.plain_max_loop _,Xp hh hlI hSI hSl xs val hv d _ 1 (val 0) t _ _ rfl (by omega) (fun i hi=>?_) st'.1 st'.2 (get?_update_seq hS' _) fun z' t' h'' tk'' a1 a2=>?_⟩
  ·have:i = 0:=by omega
   rw [this]
   exact Int.le_refl _
  ·exact h _ h'' tk'' (fun q=>absurd q hz) (fun _=>⟨z',t',rfl,a1⟩) fun b o q=>a2 b o (hSb b o q).1 (hSb b o q).2 ((Heap.get?_update_other _ _ (Ne.symm (hSb b o q).2)).trans (kp b o (by simpa using (hSb b o q).1) (kp1 b o q)))
end
section
variable {X:Cx} {id:String} {x:Str} {e:Expr} {es:List Expr} {kws:List Keyword} {ks:List Str} {p pos:Pos} {t tk:TA}
def YK (X:Cx) (id:String) (ks:List Str) (r:List V -> List V -> Hp -> VK -> Prop):Prop :=
 ∀ (pins:List (Addr × Obj)) (s:Shared) (σ:L2.St) (H:Hp) (vs zs:List V) (us ws:List Value) (Q:VK),Inv X pins σ H s -> Vals vs us -> Vals zs ws -> r vs zs H Q -> wpAny (model X.prog X.w) X.A (call (.builtin id) us (ks.zip ws)) (EP X pins σ Q) X.xe s
def Jw (r:List V -> List V -> Hp -> VK -> Prop) (t tk:TA):TE:=fun σ H Q=>t σ H fun vs H1=>tk σ H1 fun zs H2=>r vs zs H2 Q
theorem js {r:List V -> List V -> Hp -> VK -> Prop} (hc:YK X id ks r) (hg:Gl X x) (hm:X.mg x = none) (hv:bootBuiltins x = some (.builtin id)) (ha:PA X (e :: es) t) (hk:PK X kws tk) (hks:(backToKw pos (keywordEach kws X.env)).filterMap (·.1) = ks:=by rfl) (hn:x ≠ "__name__":=by decide) (hdb:(x == ("__debug__" : Str)) = false:=by decide)
  (he:backTo pos (starEach (e :: es) X.env) = (false,eval e X.env) :: backTo pos (starEach es X.env):=by rfl) (hpl:(backTo pos (starEach (e :: es) X.env)).any (·.1) = false:=by rfl)
  (hall:(backToKw pos (keywordEach kws X.env)).all (·.1.isSome) = true:=by rfl) (hkw:(backToKw pos (keywordEach kws X.env)).any (·.1.isNone) = false:=by rfl):PE X (.Call (.Name x p) (e :: es) kws pos) (Jw r t tk):=by
 intro pins s σ H Q I h
 refine wpAny_Call_Name_kw (vK I hg hm hv ?_ hn hdb)
 refine callWith_kw (thn (ha pos pins s σ H _ I h) fun us s1 ⟨vs,H1,I1,r1,q1⟩=>thn (hk pos pins s1 σ H1 _ I1 q1) fun ws s2 ⟨zs,H2,I2,r2,q2⟩=>?_) he hpl hall hkw
 rw [hks]
 exact hc pins s2 σ H2 vs zs us ws Q I2 r1 r2 q2
def Jk (K:PySem.W.Frag):List V -> List V -> Hp -> VK -> Prop:=fun vs zs H Q=>∃ (a:Addr) (ns:List Int) (d:Int),vs = [.ref a] /\ zs = [.int d] /\ SqL K H a (ns.map V.int) /\ ∀ z:Int,(ns = [] -> z = d) -> (∀ n ∈ ns,n <= z) -> Q (.int z) H
theorem UG (hc:X.calm = true):YK X "max" [Str.ofString "default"] (Jk X.K):=by
 intro pins s σ H vs zs us ws Q I r1 r2 h
 obtain ⟨a,ns,d,rfl,rfl,hS,q⟩:=h
 obtain ⟨u,rfl,ru⟩:=vn r1
 cases ru
 obtain ⟨w',rfl,td,rfl⟩:=vn r2
 obtain ⟨its,rv,pl,hz⟩:=I.list hS
 have hlen:=rv.length
 rw [List.length_map] at hlen
 have hat:∀ (i:Nat) (v:Value),its.toArray[i]? = some v -> ∃ t,v = Value.int (ns.getD i 0) t:=fun i v hi=>by
  have hi':its[i]? = some v:=by simpa using hi
  have hil:=(List.getElem?_eq_some_iff.mp hi').1
  obtain ⟨u,hu,t,rfl⟩:=wQ rv (j:=i) (x:=.int (ns.getD i 0)) (by rw [List.getElem?_map,List.getD_eq_getElem?_getD,List.getElem?_eq_getElem (by omega)]; rfl)
  rw [hi'] at hu
  cases hu
  exact ⟨t,rfl⟩
 refine Xk (I.ok.hd hc) its.toArray (fun i=>ns.getD i 0) hat pl.isList (.int d td) fun v h' tk h0 h1 kp=>?_
 by_cases hn:ns = []
 ·have:=h0 (by rw [List.size_toArray,<- hlen,hn]; rfl)
  subst this
  exact ⟨.int d,H,I.kept kp,⟨_,rfl⟩,q d (fun _=>rfl) (fun n hm=>by rw [hn] at hm; cases hm)⟩
 ·obtain ⟨z,t,rfl,hzz⟩:=h1 (by rw [List.size_toArray,<- hlen]; exact List.length_pos_iff.mpr hn)
  refine ⟨.int z,H,I.kept kp,⟨_,rfl⟩,q z (fun e=>absurd e hn) fun n hm=>?_⟩
  obtain ⟨i,hi,rfl⟩:=List.getElem_of_mem hm
  have:=hzz i (by rw [List.size_toArray,<- hlen]; exact hi)
  rw [List.getD_eq_getElem?_getD,List.getElem?_eq_getElem hi] at this
  exact this
end
end L3
namespace L3
open PySem PySem.Spec PyProof.Rows L2
section
variable {prog:Program} {w:World} {A:Around} {R:Result -> Shared -> Prop} {I l S:Addr}
theorem YE (hh:A.handled = none) (hlI:l ≠ I) (hSI:S ≠ I) (hSl:S ≠ l) (xs:Array Value) (val:Nat -> Int) (hv:∀ i v,xs[i]? = some v -> ∃ t,v = Value.int (val i) t) (d:Value) :
  ∀ (k j:Nat) (z:Int) (t:Tok) (s:Shared) (c:Nat),xs.size - j = k -> j <= xs.size -> ((∀ i,i < j -> val i <= z) /\ ∃ i,i < xs.size /\ val i = z) -> s.heap.IsListIter I l j -> s.heap.IsList l xs -> s.heap.get? S = some (seqObj "list" #[.int z t,.int z t] c) ->
   (∀ z' t' h' tk,((∀ i,i < xs.size -> val i <= z') /\ ∃ i,i < xs.size /\ val i = z') -> (∀ b o,b ≠ I -> b ≠ S -> s.heap.get? b = some o -> h'.get? b = some o) -> R (.ok (.ret (.int z' t'))) { s with heap:=h',toks:=tk }) ->
   codeAny (model prog w) A (.builtin "max.loop" ⟨[.ref I,.none,.ref S],[(Str.ofString "default",d)]⟩) R s:=by
 have nm:(toString "max" ++ toString ".loop" : String) = "max.loop":=by decide
 have W:=Walks.list (prog:=prog) (w:=w) (A:=A.in1) hh I l hlI xs
 intro k
 induction k with
 | zero =>
  intro j z t s c hk hj hz hit hl hS hR
  have e:j = xs.size:=by omega
  refine codeAny_builtin (b:=Builtin.«max.loop») PySem.F.entry_max_loop ?_
  rw [Around.under_plainId (id:="max.loop") PySem.F.plain_max_loop _]
  show wpAny _ A.in1 (seqItems? (Value.ref S) >>= _) _ _ s
  refine wpAny_bind (wpAny_seqItems (items:=#[.int z t,.int z t]) hS rfl ?_)
  show wpAny _ A.in1 (tryCatch (pyNext (Value.ref I)) _ >>= _) _ _ s
  refine wpAny_bind (wpAny_tryCatch (W.done s _ _ ⟨e ▸ hit,hl⟩ fun h' tk kp=>?_))
  have hS':=kp S _ (by simpa using hSI) hS
  show wpAny _ A.in1 (updateSeq S (fun _=>(#[]:Array Value)) >>= _) _ _ _
  refine wpAny_bind (wpAny_updateSeq hS' rfl (wpAny_bind (wpAny_letGo (wpAny_pure ?_))))
  exact hR z t _ tk ⟨fun i hi=>hz.1 i (by omega),hz.2⟩ fun b o hb hb' q=>(Heap.get?_update_other _ _ (Ne.symm hb')).trans (kp b o (by simpa using hb) q)
 | succ k ih =>
  intro j z t s c hk hj hz hit hl hS hR
  refine codeAny_builtin (b:=Builtin.«max.loop») PySem.F.entry_max_loop ?_
  rw [Around.under_plainId (id:="max.loop") PySem.F.plain_max_loop _]
  show wpAny _ A.in1 (seqItems? (Value.ref S) >>= _) _ _ s
  refine wpAny_bind (wpAny_seqItems (items:=#[.int z t,.int z t]) hS rfl ?_)
  show wpAny _ A.in1 (tryCatch (pyNext (Value.ref I)) _ >>= _) _ _ s
  refine wpAny_bind (wpAny_tryCatch (W.item j s _ _ (by omega) ⟨hit,hl⟩ fun v h' tk hP st kp=>?_))
  obtain ⟨t2,rfl⟩:=hv j v hP
  have hS':=kp S _ (by simpa using hSI) hS
  show wpAny _ A.in1 (tryCatch (holding [Value.int (val j) t2,Value.int (val j) t2] (richCompare .Gt (.int (val j) t2) (.int z t) >>= _)) _ >>= _) _ _ _
  refine wpAny_bind (wpAny_tryCatch (wpAny_holding (wpAny_bind (CmpOf.ints_gt (prog:=prog) (w:=w) (A:=A.in1) (P:=fun i v=>∃ t,v = Value.int (if i = 0 then val j else z) t) (fun i=>if i = 0 then val j else z) (fun i v h=>h) 0 1 _ _ _ _ _ ⟨t2,rfl⟩ ⟨t,rfl⟩ ?_))))
  refine wpAny_bind (wpAny_holding (wpAny_truthy_bool (wpAny_bind (wpAny_letGo (wpAny_pure ?_)))))
  by_cases g:val j > z
  ·simp only [if_true,Nat.one_ne_zero,if_false,g,decide_true]
   refine wpAny_bind (wpAny_updateSeq hS' rfl (wpAny_bind (wpAny_letGo ?_)))
   rw [nm]
   refine wpAny_pure ⟨plainId_quiet PySem.F.plain_max_loop _,ih (j + 1) (val j) t2 _ _ (by omega) (by omega) ⟨fun i hi=>?_,j,by omega,rfl⟩ (W.frame _ _ _ st fun b hb o q=>?_).1 (W.frame _ _ _ st fun b hb o q=>?_).2 (get?_update_seq hS' _) fun z' t' h'' tk'' a1 a2=>hR z' t' h'' tk'' a1 fun b o hb hb' q=>a2 b o hb hb' ((Heap.get?_update_other _ _ (Ne.symm hb')).trans (kp b o (by simpa using hb) q))⟩
   ·by_cases e:i = j
    ·rw [e]
     exact Int.le_refl _
    ·have:=hz.1 i (by omega)
     omega
   all_goals
    refine (Heap.get?_update_other _ _ (fun e:S = b=>?_)).trans q
    subst e
    rcases List.mem_cons.mp hb with e | e
    ·exact hSI e
    ·exact hSl (List.mem_singleton.mp e)
  ·simp only [if_true,Nat.one_ne_zero,if_false,g,decide_false,Bool.false_eq_true]
   refine wpAny_bind (wpAny_letGo ?_)
   rw [nm]
   refine wpAny_pure ⟨plainId_quiet PySem.F.plain_max_loop _,ih (j + 1) z t _ _ (by omega) (by omega) ⟨fun i hi=>?_,hz.2⟩ st.1 st.2 hS' fun z' t' h'' tk'' a1 a2=>hR z' t' h'' tk'' a1 fun b o hb hb' q=>a2 b o hb hb' (kp b o (by simpa using hb) q)⟩
   by_cases e:i = j
   ·rw [e]
    omega
   ·exact hz.1 i (by omega)
theorem Xm {E:Value -> Shared -> Prop} {s:Shared} {Q:Value -> Shared -> Prop} (hh:A.handled = none) (xs:Array Value) (val:Nat -> Int) (hv:∀ i v,xs[i]? = some v -> ∃ t,v = Value.int (val i) t) (hl:s.heap.IsList l xs) (d:Value)
  (h:∀ v h' tk,(xs.size = 0 -> v = d) -> (0 < xs.size -> ∃ z t,v = Value.int z t /\ (∀ i,i < xs.size -> val i <= z) /\ ∃ i,i < xs.size /\ val i = z) -> (∀ b o,s.heap.get? b = some o -> h'.get? b = some o) -> Q v { s with heap:=h',toks:=tk }) :
  wpAny (model prog w) A (call (.builtin "max") [.ref l] [(Str.ofString "default",d)]) Q E s:=by
 have nm:(toString "max" ++ toString ".loop" : String) = "max.loop":=by decide
 have hlt:l < s.heap.objs.size:=by obtain ⟨_,e,_⟩:=hl; exact Heap.lt_size e
 refine kmb_tree PySem.F.kind_max PySem.F.plain_max PySem.F.entry_max (jL _ _) ?_
 show wpAny _ A.in1 (Builtin.Builtins.bindParams "max" ["key", "default"] 0 ⟨[],[(Str.ofString "default",d)]⟩ >>= _) _ _ s
 refine wpAny_bind (wpAny_of_eq (show Builtin.Builtins.bindParams "max" ["key", "default"] 0 ⟨[],[(Str.ofString "default",d)]⟩ = pure [none,some d] from rfl) (wpAny_bind (wpAny_pure ?_)))
 refine wpAny_bind (wpAny_pyIter_list hl (wpAny_bind (wpAny_newList ?_ (Nat.zero_le _))))
 rw [nm]
 refine wpAny_pure ⟨plainId_quiet PySem.F.plain_max_loop _,?_⟩
 have gI:(s.heap.push { cls:=.type "list_iterator",data:=.fields #[.ref l,.int 0 0] }).IsListIter s.heap.objs.size l 0:=⟨_,Heap.get?_push_size _ rfl,rfl,rfl⟩
 have gl:=hl.push { cls:=.type "list_iterator",data:=.fields #[.ref l,.int 0 0] }
 have kp0:∀ b o,s.heap.get? b = some o -> (s.heap.push { cls:=.type "list_iterator",data:=.fields #[.ref l,.int 0 0] }).get? b = some o:=fun b o q=>Heap.get?_push_of_some _ q
 have hsz:(s.heap.push { cls:=.type "list_iterator",data:=.fields #[.ref l,.int 0 0] }).objs.size = s.heap.objs.size + 1:=Heap.size_push _ _
 have hold:∀ b o,s.heap.get? b = some o -> b < s.heap.objs.size:=fun b o q=>Heap.lt_size q
 have hlI:l ≠ s.heap.objs.size:=Nat.ne_of_lt hlt
 generalize s.heap.push { cls:=.type "list_iterator",data:=.fields #[.ref l,.int 0 0] } = h1 at *
 generalize hIe:s.heap.objs.size = I at *
 have W:=Walks.list (prog:=prog) (w:=w) (A:=A.in1) hh I l hlI xs
 have gS:(h1.push { cls:=.type "list",data:=.seq ([]:List Value).toArray }).get? h1.objs.size = some (seqObj "list" #[] 0):=Heap.get?_push_size _ rfl
 have st0:=W.frame 0 _ (h1.push { cls:=.type "list",data:=.seq ([]:List Value).toArray }) ⟨gI,gl⟩ fun b _ o q=>Heap.get?_push_of_some _ q
 have kp1:∀ b o,s.heap.get? b = some o -> (h1.push { cls:=.type "list",data:=.seq ([]:List Value).toArray }).get? b = some o:=fun b o q=>Heap.get?_push_of_some _ (kp0 b o q)
 have hSI:h1.objs.size ≠ I:=by rw [hsz]; exact Nat.succ_ne_self I
 have hSl:h1.objs.size ≠ l:=by rw [hsz]; exact Nat.ne_of_gt (Nat.lt_succ_of_lt hlt)
 have hSb:∀ b o,s.heap.get? b = some o -> b ≠ I /\ b ≠ h1.objs.size:=fun b o q=>⟨Nat.ne_of_lt (hold b o q),by rw [hsz]; exact Nat.ne_of_lt (Nat.lt_succ_of_lt (hold b o q))⟩
 generalize h1.push { cls:=.type "list",data:=.seq ([]:List Value).toArray } = h2 at *
 generalize h1.objs.size = S at *
 refine codeAny_builtin (b:=Builtin.«max.loop») PySem.F.entry_max_loop ?_
 rw [Around.under_plainId (id:="max.loop") PySem.F.plain_max_loop _]
 show wpAny _ A.in1 (seqItems? (Value.ref S) >>= _) _ _ _
 refine wpAny_bind (wpAny_seqItems (items:=#[]) gS rfl ?_)
 show wpAny _ A.in1 (tryCatch (pyNext (Value.ref I)) _ >>= _) _ _ _
 by_cases hz:xs.size = 0
 ·refine wpAny_bind (wpAny_tryCatch (W.done _ _ _ (by rw [hz]; exact st0) fun h' tk kp=>?_))
  show wpAny _ A.in1 (rule _ >>= fun _=>_) _ _ _
  refine wpAny_bind (wpAny_rule (wpAny_pure ?_))
  exact h d h' tk (fun _=>rfl) (fun q=>absurd q (by omega)) fun b o q=>kp b o (by simpa using (hSb b o q).1) (kp1 b o q)
 ·refine wpAny_bind (wpAny_tryCatch (W.item 0 _ _ _ (by omega) st0 fun v h' tk hP st kp=>?_))
  obtain ⟨t,rfl⟩:=hv 0 v hP
  have hS':=kp S _ (by simpa using hSI) gS
  show wpAny _ A.in1 (updateSeq S (fun _=>#[Value.int (val 0) t,Value.int (val 0) t]) >>= _) _ _ _
  refine wpAny_bind (wpAny_updateSeq hS' rfl ?_)
  rw [nm]
  have st':=W.frame _ _ (h'.update S (Obj.mapSeq fun _=>#[Value.int (val 0) t,Value.int (val 0) t])) st fun b hb o q=>by
   refine (Heap.get?_update_other _ _ (fun e:S = b=>?_)).trans q
   subst e
   rcases List.mem_cons.mp hb with e | e
   ·exact hSI e
   ·exact hSl (List.mem_singleton.mp e)
  refine wpAny_pure ⟨plainId_quiet PySem.F.plain_max_loop _,YE hh hlI hSI hSl xs val hv d _ 1 (val 0) t _ _ rfl (by omega) ⟨fun i hi=>?_,0,by omega,rfl⟩ st'.1 st'.2 (get?_update_seq hS' _) fun z' t' h'' tk'' a1 a2=>?_⟩
  ·have:i = 0:=by omega
   rw [this]
   exact Int.le_refl _
  ·exact h _ h'' tk'' (fun q=>absurd q hz) (fun _=>⟨z',t',rfl,a1⟩) fun b o q=>a2 b o (hSb b o q).1 (hSb b o q).2 ((Heap.get?_update_other _ _ (Ne.symm (hSb b o q).2)).trans (kp b o (by simpa using (hSb b o q).1) (kp1 b o q)))
end
section
variable {X:Cx}
def QP (K:PySem.W.Frag):List V -> List V -> Hp -> VK -> Prop:=fun vs zs H Q=>∃ (a:Addr) (ns:List Int) (d:Int),vs = [.ref a] /\ zs = [.int d] /\ SqL K H a (ns.map V.int) /\ ∀ z:Int,(ns = [] -> z = d) -> (∀ n ∈ ns,n <= z) -> (ns ≠ [] -> z ∈ ns) -> Q (.int z) H
theorem Ql (hc:X.calm = true):YK X "max" [Str.ofString "default"] (QP X.K):=by
 intro pins s σ H vs zs us ws Q I r1 r2 h
 obtain ⟨a,ns,d,rfl,rfl,hS,q⟩:=h
 obtain ⟨u,rfl,ru⟩:=vn r1
 cases ru
 obtain ⟨w',rfl,td,rfl⟩:=vn r2
 obtain ⟨its,rv,pl,hz⟩:=I.list hS
 have hlen:=rv.length
 rw [List.length_map] at hlen
 have hat:∀ (i:Nat) (v:Value),its.toArray[i]? = some v -> ∃ t,v = Value.int (ns.getD i 0) t:=fun i v hi=>by
  have hi':its[i]? = some v:=by simpa using hi
  have hil:=(List.getElem?_eq_some_iff.mp hi').1
  obtain ⟨u,hu,t,rfl⟩:=wQ rv (j:=i) (x:=.int (ns.getD i 0)) (by rw [List.getElem?_map,List.getD_eq_getElem?_getD,List.getElem?_eq_getElem (by omega)]; rfl)
  rw [hi'] at hu
  cases hu
  exact ⟨t,rfl⟩
 refine Xm (I.ok.hd hc) its.toArray (fun i=>ns.getD i 0) hat pl.isList (.int d td) fun v h' tk h0 h1 kp=>?_
 by_cases hn:ns = []
 ·have:=h0 (by rw [List.size_toArray,<- hlen,hn]; rfl)
  subst this
  exact ⟨.int d,H,I.kept kp,⟨_,rfl⟩,q d (fun _=>rfl) (fun n hm=>by rw [hn] at hm; cases hm) (fun e=>absurd hn e)⟩
 ·obtain ⟨z,t,rfl,hzz,iz,hiz,ez⟩:=h1 (by rw [List.size_toArray,<- hlen]; exact List.length_pos_iff.mpr hn)
  refine ⟨.int z,H,I.kept kp,⟨_,rfl⟩,q z (fun e=>absurd e hn) (fun n hm=>?_) fun _=>?_⟩
  ·obtain ⟨i,hi,rfl⟩:=List.getElem_of_mem hm
   have:=hzz i (by rw [List.size_toArray,<- hlen]; exact hi)
   rw [List.getD_eq_getElem?_getD,List.getElem?_eq_getElem hi] at this
   exact this
  ·rw [List.size_toArray,<- hlen] at hiz
   have e2:ns.getD iz 0 = ns[iz]:=by rw [List.getD_eq_getElem?_getD,List.getElem?_eq_getElem hiz]; rfl
   rw [<- ez]
   show ns.getD iz 0 ∈ ns
   rw [e2]
   exact List.getElem_mem _
end
end L3
namespace L3
open PySem PySem.Spec PyProof.Rows L2
end L3
namespace L3
open PySem PySem.Spec PyProof.Rows L2
section
variable {X:Cx}
theorem ZP {cn:Str} {np hpos:Pos} {b0:Stmt} {suite:List Stmt} {hs:List ExceptHandler} {D:Addr} {th:TS} (hg:Gl X cn) (hm:X.mg cn = some (.ref D)) (hdb:(cn == ("__debug__" : Str)) = false) (xc:jq X.K D = true) (hsu:∀ e,PSs (Cx.suite X e) (b0 :: suite) th)
  {pins:List (Addr × Obj)} {s:Shared} {σ:St} {H:Hp} {Dd:Ends} {x C T:Addr} {dx:Option Addr} (I:Inv X pins σ H s) (hob:∃ t cx kx,s.heap.get? x = some (xog C dx t (.ref T) cx kx)) (hoT:∃ oT ts,s.heap.get? T = some oT /\ oT.data = .fields ts /\ 3 < ts.size) (fT:xM X pins H T)
  (hb:PySem.W.subIn X.K (.ref C) (.ref D) = some true) (q:th Dd σ H):wpAny (model X.prog X.w) X.A (handleBy (.ref x) X.env (.ExceptHandler (some (.Name cn np)) none (b0 :: suite) hpos :: hs)) (SP X pins Dd) X.xe s:=by
 obtain ⟨t,cx,kx,ob⟩:=hob
 obtain ⟨oT,ts,eT,dT,zT⟩:=hoT
 have I':=Inv.suite I (.ref x)
 refine wpAny_handleBy_cons (codeAny_handlers_test (wf (X:=Cx.suite X (.ref x)) I' hg hm (Vr I.kIn xc ob hb ?_) hdb)) (by intro q; cases q)
 refine codeAny_handlers_suite ?_
 unfold setFlight
 refine wpAny_bind (wpAny_field ob rfl (x:=.ref T) rfl ?_)
 rw [if_pos (show (Value.ref T != Value.none) = true from by simp)]
 refine wpAny_setField eT dT zT ?_
 obtain ⟨f0,f1,f2,f3,f4,f5⟩:=fT
 have I2:Inv X pins σ H { s with heap:=s.heap.update T (Obj.mapFields (·.setIfInBounds 3 ((none:Option Addr).elim Value.none fun f=>rawInt f))) } :=
  I.turned (t':=s.toks) (fun b o hb e=>(Heap.get?_update_other _ _ (Ne.symm hb)).trans e) f0 f1 f3 f4 f5
 refine wpAny_noRaise (thn (hsu _ pins _ σ H _ (Inv.suite I2 (.ref x)) q) fun fl s4 q4=>?_)
 cases fl with
 | next =>
  obtain ⟨σ4,H4,I4,n4⟩:=q4
  exact ⟨_,_,Inv.unsuite I I4,n4⟩
 | brk =>
  obtain ⟨σ4,H4,I4,n4⟩:=q4
  exact ⟨_,_,Inv.unsuite I I4,n4⟩
 | cont =>
  obtain ⟨σ4,H4,I4,n4⟩:=q4
  exact ⟨_,_,Inv.unsuite I I4,n4⟩
 | ret v =>
  obtain ⟨y,σ4,H4,I4,r4,n4⟩:=q4
  exact ⟨y,_,_,Inv.unsuite I I4,r4,n4⟩
def UV (K:PySem.W.Frag) (D:Addr) (te:TX) (th:TS):TS:=fun Dd σ H=>te σ H (fun _ H1=>Dd.nx σ H1) fun cls dx H1=>∃ C,cls = .ref C /\ PySem.W.subIn K (.ref C) (.ref D) = some true /\ ∀ x,H1 x = none -> th Dd σ (upd H1 x (XT x C dx))
theorem Uv {apos pos np hpos:Pos} {e:Expr} {te:TX} {cn:Str} {b0:Stmt} {suite:List Stmt} {hs:List ExceptHandler} {D:Addr} {th:TS}
  (hst:X.stack = X.env :: X.outer /\ X.env.frame = some X.env.locals) (he:PEX X e te) (hg:Gl X cn) (hm:X.mg cn = some (.ref D)) (xc:jq X.K D = true) (hsu:∀ e,PSs (Cx.suite X e) (b0 :: suite) th) (hdb:(cn == ("__debug__" : Str)) = false:=by decide) (hsw:swapsWith e none apos.line X.env = pure false:=by rfl) :
  PS X (.Try [.Expr e apos] (.ExceptHandler (some (.Name cn np)) none (b0 :: suite) hpos :: hs) [] [] pos) (UV X.K D te th):=by
 intro pins s σ H D I hq
 refine wpAny_Try_except (wpAny_execs_cons (wpAny_Expr_any (wpAny_mono (he pins s σ H _ _ I hq) (fun v s1 ⟨z,H1,I1,r1,q1⟩=>?_) fun e s1 fl=>?_) I.quiet hsw))
 ·exact wpAny_execs_nil (wpAny_execs_nil ⟨_,H1,I1,q1⟩)
 ·obtain ⟨cx,kx,H1,x,C,t,dx,tb,rfl,I1,ob,tr,fx,fT,C',ec,hsb,q1⟩:=fl
  cases ec
  have fr:X.A.frames = some (X.env :: X.outer):=by rw [<- hst.1]; exact I1.ok.frames
  have ff:s1.heap.FunFrames X.base (X.env :: X.outer):=by rw [<- hst.1]; exact I1.stack
  refine jb fr ff hst.2 hst.2 ob tr fun h' T oT ts e1 nT oldT e2 d2 z2 k1 k2=>?_
  have fT':xM X pins H1 T:=by
   rcases oldT with z | z
   ·exact fT T z
   ·exact I1.fpOk z (I1.hok.fresh z)
  have tbs:∀ b,tb = .ref b -> H1 b = none:=fun b hb=>(fT b hb).1
  have nch:∀ b o,s1.heap.get? b = some o -> b ∉ (x :: T :: tbL tb) -> b ≠ x /\ tb ≠ .ref b:=fun b o _ hb=>by
   refine ⟨fun z=>hb (by simp [z]),fun z=>hb ?_⟩
   rw [z]
   simp [tbL]
  have un:Un (frs X.stack) (x :: T :: tbL tb) H1 H1 s1.heap h':=by
   rw [hst.1]
   refine ⟨fun b o e n hb hc=>?_,fun b o e n hb hc=>?_,fun b o e n _=>n,fun b o e hc=>?_,fun b xs e=>e,fun b o u e=>e,fun b ps e=>⟨#[],by rw [e]; simp⟩⟩
   ·obtain ⟨a1,a2⟩:=nch b o e hc
    exact k1 b o a1 a2 hb e
   ·obtain ⟨a1,a2⟩:=nch b o e hc
    exact k2 b o a1 a2 e
   ·obtain ⟨a1,a2⟩:=nch b o e hc
    obtain ⟨sl,q⟩:=k2 b o a1 a2 e
    exact ⟨_,q⟩
  have hok:HOk X.prog X.w H1 h':=fun b u e=>by
   refine (I1.hok b u e).stay (fun c v hc q=>k1 c v ?_ ?_ ?_ q) (fun _ q=>q) fun _ _ q=>q
   ·rintro rfl
    rcases hc with rfl | hc
    ·rw [fx.1] at e; cases e
    ·rw [fx.1] at hc; cases hc
   ·intro z
    have:=tbs c z
    rcases hc with rfl | hc
    ·rw [this] at e; cases e
    ·rw [this] at hc; cases hc
   ·intro z
    rw [<- hst.1] at z
    have:=I1.stkFree c z
    rcases hc with rfl | hc
    ·rw [this] at e; cases e
    ·rw [this] at hc; cases hc
  have I2:Inv X pins σ H1 { s1 with heap:=h' }:=I1.call' (s':={ s1 with heap:=h' }) rfl un hok I1.bare fun b hb=>by
   have fb:xM X pins H1 b:=by
    rcases List.mem_cons.mp hb with z | z
    ·rw [z]; exact fx
    ·rcases List.mem_cons.mp z with z | z
     ·rw [z]; exact fT'
     ·cases tb with
      | ref b' =>
       have:b = b':=by simpa [tbL] using z
       rw [this]; exact fT b' rfl
      | _=>simp [tbL] at z
   obtain ⟨_,a1,_,a3,a4,a5⟩:=fb
   exact ⟨a3,a1,a4,a5⟩
  have I3:Inv X pins σ (upd H1 x (XT x C dx)) { s1 with heap:=h' }:=Inv.track I2 fx (U5 e1)
  exact ZP hg hm hdb xc hsu I3 ⟨t,_,_,e1⟩ ⟨oT,ts,e2,d2,z2⟩ ⟨by rw [zo nT]; exact fT'.1,fT'.2⟩ hsb (q1 x fx.1)
end
end L3
namespace L3
open PySem PySem.Spec PyProof.Rows L2
section
variable {X:Cx}
end
end L3
namespace L3
open PySem PySem.Spec PyProof.Rows L2
section
variable {X:Cx}
end
end L3
namespace L3
open PySem PySem.Spec PyProof.Rows L2
section
variable {g:TG} {tt:TT} {te:TE} {own:Nat} {ix:List Nat} {σ:L2.St} {H1:Hp} {Q:VK} {D:Addr}
end
end L3
namespace L3
open PySem PySem.Spec PyProof.Rows L2
section
variable {X:Cx}
end
end L3
namespace L3
open PySem PySem.W PyProof.Rows
def JX (lt:Nat -> Nat -> Bool) {α:Type}:KasT α -> α
 | .ret a=>a
 | .ask i j k=>JX lt (k (lt i j))
def Kok (lt:Nat -> Nat -> Bool) (n:Nat) {α:Type}:KasT α -> (α -> Prop) -> Prop
 | .ret a,Q=>Q a
 | .ask i j k,Q=>i < n /\ j < n /\ Kok lt n (k (lt i j)) Q
section
variable {lt:Nat -> Nat -> Bool} {n:Nat} {α β:Type}
theorem Kok.bind {f:α -> KasT β} {Q:β -> Prop}:∀ (t:KasT α),Kok lt n t (fun a=>Kok lt n (f a) Q) -> Kok lt n (t.bind f) Q
 | .ret _,h=>h
 | .ask _ _ k,h=>⟨h.1,h.2.1,Kok.bind (k _) h.2.2⟩
theorem Kok.run {Q:α -> Prop}:∀ (t:KasT α),Kok lt n t Q -> Q (JX lt t)
 | .ret _,h=>h
 | .ask _ _ k,h=>Kok.run (k _) h.2.2
end
section
variable {lt:Nat -> Nat -> Bool} {n:Nat}
abbrev pg (p:Array Nat) (i:Nat):Nat:=p.getD i 0
def Rg (n:Nat) (p:Array Nat):Prop:=p.toList.Perm (List.range n)
theorem Rg.size {p:Array Nat} (h:Rg n p):p.size = n:=by have:=h.length_eq; simpa using this
theorem Rg.rev {p:Array Nat} (h:Rg n p) (i j:Nat):Rg n (kas_rev p i j):=(Array.perm_iff_toList_perm.mp (mirror_perm p i j _)).trans h
end
end L3
namespace L3
open PySem PySem.Spec PyProof.Rows L2
section
variable {X:Cx} {pins:List (Addr × Obj)} {σ:L2.St} {H:Hp} {s:Shared}
end
end L3
namespace L3
open PySem PySem.Spec PyProof.Rows L2
section
variable {X:Cx} {pins:List (Addr × Obj)} {σ:L2.St} {H:Hp} {s:Shared}
end
end L3
namespace L3
open PySem PySem.Spec PyProof.Rows L2
section
variable {X:Cx} {pins:List (Addr × Obj)} {σ:L2.St} {H:Hp} {s:Shared}
end
end L3
namespace L3
open PySem PySem.Spec PyProof.Rows L2
section
variable {X:Cx} {pins:List (Addr × Obj)} {σ:L2.St} {H:Hp} {s:Shared} {p y name qual:Str} {scope:Scope} {params:Arguments} {body:Expr} {f c' c:Addr} {pm ctv cv:Value} {k iy:Nat} {vy x:V} {u:Value} {Q:VK} {t:TE}
end
end L3
namespace L3
open PySem PySem.Spec PyProof.Rows L2
def cdE (c':Addr) (q:Str):HO:=.ext fun h=>h.CodeRec (.ref c') q
def fnE (f:Addr) (o:Obj):HO:=.ext fun h=>h.get? f = some o
def SamT (P:Addr) (H H':Hp):Prop:=∀ b o,b ≠ P -> H b = some o -> H' b = some o
theorem Qk {P:Program} {w:World} {H:Hp} {h:Heap} {c':Addr} {q:Str} (x:h.CodeRec (.ref c') q):ObjOk P w H h c' (cdE c' q):=by
 refine ⟨x,?_,fun h1 h2 a k=>?_⟩
 ·obtain ⟨c,o,vs,t,e,g,_⟩:=x
  cases e
  exact ⟨o,g⟩
 ·obtain ⟨c,o,vs,t,e,g,r⟩:=a
  cases e
  exact ⟨_,o,vs,t,rfl,k o g,r⟩
theorem QD {P:Program} {w:World} {H:Hp} {h:Heap} {f:Addr} {o:Obj} (x:h.get? f = some o):ObjOk P w H h f (fnE f o) :=
 ⟨x,⟨o,x⟩,fun h1 h2 a k=>k o a⟩
section
variable {X:Cx} {pins:List (Addr × Obj)} {σ:L2.St} {H:Hp} {s:Shared}
theorem Inv.grow {P c' f:Addr} {ps more:Array Value} {o:Obj} {q:Str} {h':Heap} {tk:Nat} (I:Inv X pins σ H s) (hP:H P = some (.tbl ps)) (hk:∀ b u,b ≠ P -> s.heap.get? b = some u -> h'.get? b = some u) (hP':h'.get? P = some { cls:=.none,data:=.fields (ps ++ more) })
  (hc:s.heap.objs.size <= c') (hf:s.heap.objs.size <= f) (hcf:c' ≠ f) (hcr:h'.CodeRec (.ref c') q) (hfo:h'.get? f = some o) :
  Inv X pins σ (upd (upd (upd H P (.tbl (ps ++ more))) c' (cdE c' q)) f (fnE f o)) { s with heap:=h',toks:=tk }:=by
 have Pl:P < s.heap.objs.size:=I.hok.lt hP
 have hPc:P ≠ c':=Nat.ne_of_lt (Nat.lt_of_lt_of_le Pl hc)
 have hPf:P ≠ f:=Nat.ne_of_lt (Nat.lt_of_lt_of_le Pl hf)
 have old:∀ b,b < s.heap.objs.size -> b ≠ P -> (upd (upd (upd H P (.tbl (ps ++ more))) c' (cdE c' q)) f (fnE f o)) b = H b:=fun b hb hbP=>by
  rw [zo (Nat.ne_of_lt (Nat.lt_of_lt_of_le hb hf)),zo (Nat.ne_of_lt (Nat.lt_of_lt_of_le hb hc)),zo hbP]
 have atP:(upd (upd (upd H P (.tbl (ps ++ more))) c' (cdE c' q)) f (fnE f o)) P = some (.tbl (ps ++ more)):=by
  rw [zo hPf,zo hPc,ze]
 have neP:∀ b,H b = none -> b ≠ P:=fun b e z=>by rw [z,hP] at e; cases e
 refine I.un ⟨fun b u e n _ _=>hk b u (neP b n) e,fun b u e n _ _=>⟨u.slots,hk b u (neP b n) e⟩,fun b u e n _=>?_,fun b u e _=>?_,fun b xs e=>?_,fun b ob u e=>?_,fun b qs e=>?_⟩ fun b u e=>?_
 ·rw [old b (Heap.lt_size e) (neP b n)]
  exact n
 ·by_cases hb:b = P
  ·subst hb; exact ⟨_,hP'⟩
  ·exact ⟨u,hk b u hb e⟩
 ·rw [old b (I.hok.lt e) (fun z=>by rw [z,hP] at e; cases e)]
  exact e
 ·rw [old b (I.hok.lt e) (fun z=>by rw [z,hP] at e; cases e)]
  exact e
 ·by_cases hb:b = P
  ·subst hb
   rw [hP] at e
   cases e
   exact ⟨more,atP⟩
  ·rw [old b (I.hok.lt e) hb]
   exact ⟨#[],by rw [e]; simp⟩
 ·by_cases hbf:b = f
  ·subst hbf
   rw [ze] at e
   cases e
   exact QD hfo
  ·rw [zo hbf] at e
   by_cases hbc:b = c'
   ·subst hbc
    rw [ze] at e
    cases e
    exact Qk hcr
   ·rw [zo hbc] at e
    by_cases hbP:b = P
    ·subst hbP
     rw [ze] at e
     cases e
     exact hP'
    ·rw [zo hbP] at e
     refine (I.hok b u e).stay (fun d v hd g=>hk d v ?_ g) (fun d g=>?_) fun d xs g=>?_
     ·rcases hd with z | z
      ·rw [z]; exact hbP
      ·intro z'; rw [z',hP] at z; cases z
     ·rw [old d (I.hok.lt g) (fun z=>by rw [z,hP] at g; cases g)]
      exact g
     ·rw [old d (I.hok.lt g) (fun z=>by rw [z,hP] at g; cases g)]
      exact g
end
end L3
namespace L3
open PySem PySem.Spec PyProof.Rows L2
section
variable {X:Cx} {pins:List (Addr × Obj)} {σ:L2.St} {H:Hp} {s:Shared} {cc P c:Addr} {y:Str} {params:Arguments} {body:Expr} {scope:Scope} {pos:Pos} {Q:VK}
end
end L3
namespace L3
open PySem PySem.Spec PyProof.Rows L2
section
variable {X:Cx} {cc P c:Addr} {x p y:Str} {params:Arguments} {body e:Expr} {scope:Scope} {lpos kpos pos pp:Pos} {k iy:Nat} {te tb:TE}
end
end L3
namespace L3
open PySem PySem.Spec PyProof.Rows L2
section
variable {K:PySem.W.Frag}
theorem SamT.of {T:Addr} {H H':Hp} (s:Same H H'):SamT T H H':=fun b o _ e=>s b o e
theorem SamT.trans {T:Addr} {H H' H'':Hp} (s:SamT T H H') (s':SamT T H' H''):SamT T H H'':=fun b o n e=>s' b o n (s b o n e)
end
end L3
namespace L3
open PySem PySem.Spec PyProof.Rows L2
section
variable {P:Program} {w:World} {K:PySem.W.Frag} {mg mb:Str -> Option Value} {CX:CXT} {k:Nat} {fa a T cc:Addr} {fd:FuncData} {x:Str} {sp:Sp} {s₁:Shared} {vs:List Value} {ns:List Int} {ps:Array Value}
end
end L3
namespace PySem
namespace F
end F
section
variable {prog:Program} {w:World} {A:Around} {E:Value -> Shared -> Prop} {s:Shared}
def Heap.IsRevS (h:Heap) (a:Addr) (x:Str) (t:Tok) (i:Int):Prop:=∃ o,h.get? a = some o /\ o.cls = .type "reversed" /\ o.data = .fields #[.str x t,rawInt i]
theorem Heap.IsRevS.typeIs {a:Addr} {x:Str} {t:Tok} {i:Int} (z:s.heap.IsRevS a x t i):s.TypeIs (.ref a) "reversed":=let ⟨o,ho,hc,_⟩:=z; ⟨o,ho,hc⟩
theorem Heap.IsRevS.at {h h':Heap} {a:Addr} {x:Str} {t:Tok} {i:Int} (z:h.IsRevS a x t i) (e:∀ o,h.get? a = some o -> h'.get? a = some o):h'.IsRevS a x t i:=let ⟨o,ho,r⟩:=z; ⟨o,e _ ho,r⟩
end
section
variable {prog:Program} {w:World} {A:Around} {E:Value -> Shared -> Prop} {s:Shared}
end
end PySem
namespace L3
open PySem PySem.Spec PyProof.Rows L2
section
variable {X:Cx} {o a:Expr} {to:TE} {ta:TA} {apos cpos p pos2:Pos}
end
end L3
namespace L2
open PySem PySem.Spec PyProof.Rows
section
variable {X:Cx} {tg:Expr}
end
end L2
namespace L3
open PySem L2
section
variable {g:TG} {tt:TT} {te:TE} {own:Nat} {ix:List Nat} {σ:L2.St} {H1:Hp} {Q:VK} {D:Addr}
end
end L3
namespace L3
open PySem PySem.Spec PyProof.Rows L2
open AutoSeq1 (wpAny_loadPart')
open MeetsSeq MeetsSeq2 MeetsSeq3 SeqRoads2 SeqAt
section
variable {X:Cx} {pins:List (Addr × Obj)} {σ:St} {H:Hp} {s:Shared}
end
end L3
namespace L3
open PySem PySem.Spec PyProof.Rows L2
section
variable {prog:Program} {w:World} {A:Around} {R:Result -> Shared -> Prop} {I:Addr} {fp wr:List Addr} {G:Array GenState -> Array GenState -> Prop} {n:Nat} {P:Nat -> Value -> Prop} {St:Nat -> Shared -> Prop}
end
section
variable {prog:Program} {w:World} {A:Around} {E:Value -> Shared -> Prop} {s:Shared}
end
end L3
namespace L3
open PySem PySem.Spec PyProof.Rows L2
section
variable {X:Cx}
end
end L3
namespace L3
open PySem PySem.Spec PyProof.Rows L2
section
variable {g:TG} {tt:TT} {te:TE} {own:Nat} {ix:List Nat} {σ:L2.St} {H1:Hp} {Q:VK} {D:Addr}
end
end L3
namespace L3
open PySem PySem.Spec PyProof.Rows L2
theorem Zs {α:Type} [DecidableEq α] (k:α) (v:Value) (x:α):∀ kvs:List (α × Value),(kvs.map fun kv=>if kv.1 = k then (kv.1,v) else kv).find? (fun kv=>kv.1 = x) = (kvs.find? fun kv=>kv.1 = x).map fun kv=>if kv.1 = k then (kv.1,v) else kv
 | []=>rfl
 | p :: kvs=>by
  have e:(if p.1 = k then (p.1,v) else p).1 = p.1:=by split <;> rfl
  rw [List.map_cons,List.find?_cons,List.find?_cons,Zs k v x kvs]
  simp only [e]
  by_cases h:p.1 = x
  ·simp [h]
  ·simp [h]
theorem ZO {α:Type} [DecidableEq α] (kvs:List (α × Value)) (k:α) (v:Value) (x:α):valueAt (stored kvs k v) x = if x = k then some v else valueAt kvs x:=by
 unfold stored valueAt
 split
 ·rename_i h
  rw [Zs]
  by_cases e:x = k
  ·subst e
   rw [if_pos rfl]
   obtain ⟨p,hp,hk⟩:=List.any_eq_true.mp h
   cases hf:kvs.find? fun kv=>kv.1 = x with
   | none =>
    have:=List.find?_eq_none.mp hf p hp
    exact absurd hk this
   | some q =>
    have hq:=List.find?_some hf
    have hq':q.1 = x:=by simpa using hq
    simp [hq']
  ·rw [if_neg e]
   cases hf:kvs.find? fun kv=>kv.1 = x with
   | none=>rfl
   | some q =>
    have hq:=List.find?_some hf
    have hq':q.1 = x:=by simpa using hq
    have:¬ q.1 = k:=fun z=>e (hq'.symm.trans z)
    simp [this]
 ·rename_i h
  rw [List.find?_append]
  by_cases e:x = k
  ·subst e
   rw [if_pos rfl]
   have:kvs.find? (fun kv=>kv.1 = x) = none:=by
    rw [List.find?_eq_none]
    intro p hp hk
    exact h (List.any_eq_true.mpr ⟨p,hp,hk⟩)
   rw [this]
   simp
  ·have e':¬ k = x:=fun z=>e z.symm
   rw [if_neg e]
   simp [e']
section
variable {X:Cx} {pos:Pos}
end
end L3
namespace L3
open PySem PySem.Spec PyProof.Rows L2
def uJ (P:Program) (w:World) (a:Addr) (m:Str -> Option V) (n:Nat):HO:=.ext fun h=>(a == sysModules) = false /\ ∃ kvs:List (Str × Value),h.DictOf (PySem.strKind P w) a kvs /\ kvs.length <= n /\ ∀ k,RelO (m k) (valueAt kvs k)
theorem Xd {P:Program} {w:World} {H:Hp} {h:Heap} {a:Addr} {m:Str -> Option V} {n:Nat} {kvs:List (Str × Value)} (hs:(a == sysModules) = false) (d:h.DictOf (PySem.strKind P w) a kvs) (hl:kvs.length <= n) (r:∀ k,RelO (m k) (valueAt kvs k)):ObjOk P w H h a (uJ P w a m n) :=
 ⟨⟨hs,kvs,d,hl,r⟩,(let ⟨o,es,ep,ho,_⟩:=d; ⟨o,ho⟩),fun h1 h2 ⟨hs,kvs,⟨o,es,ep,ho,rest⟩,z⟩ k=>⟨hs,kvs,⟨o,es,ep,k _ ho,rest⟩,z⟩⟩
section
variable {X:Cx} {pos:Pos}
theorem Inv.beyond {pins:List (Addr × Obj)} {σ:L2.St} {H:Hp} {s:Shared} (I:Inv X pins σ H s):(s.heap.objs.size == sysModules) = false:=by
 obtain ⟨o,es,ep,e,_⟩:=I.ok.mod.glob
 have h1:=Heap.lt_size e
 have h2:=I.ok.bsz
 have h3:=I.sz
 have h4:1 <= mainGlobals:=by decide
 have h5:1 < s.heap.objs.size:=Nat.lt_of_lt_of_le (Nat.lt_of_le_of_lt h4 h1) (Nat.le_trans h2 h3)
 rw [beq_eq_false_iff_ne]
 intro z
 exact Nat.ne_of_gt h5 z
def VE (P:Program) (w:World):TE:=fun _ H Q=>∀ p,H p = none -> Q (.ref p) (upd H p (uJ P w p (fun _=>none) 0))
theorem XW:PE X (.Dict [] [] pos) (VE X.prog X.w):=fun pins s σ H Q I h =>
 wpAny_Dict_empty ⟨.ref s.heap.objs.size,_,I.laid (a:=s.heap.objs.size) (t':=s.toks) (fun _ _ q=>Heap.get?_push_of_some _ q) (Nat.le_refl _) (Xd (m:=fun _=>none) (Inv.beyond I) (Heap.DictOf.new s.heap) (Nat.le_refl _) fun _=>trivial),rfl,h _ (I.hok.fresh (Nat.le_refl _))⟩
theorem Inv.tdic {pins:List (Addr × Obj)} {σ:L2.St} {H:Hp} {s:Shared} {a:Addr} {m:Str -> Option V} {n:Nat} (I:Inv X pins σ H s) (h:H a = some (uJ X.prog X.w a m n)):(a == sysModules) = false /\ ∃ kvs:List (Str × Value),s.heap.DictOf (PySem.strKind X.prog X.w) a kvs /\ kvs.length <= n /\ ∀ k,RelO (m k) (valueAt kvs k):=(I.hok _ _ h).1
def Jm (P:Program) (w:World):R2:=fun x y H Q=>∃ a m n k v,x = .ref a /\ y = .str k /\ H a = some (uJ P w a m n) /\ m k = some v /\ Q v H
theorem Ut:IxR X (Jm X.prog X.w):=by
 intro value slice pins s σ H x y v u Q I rx ry h hs
 obtain ⟨a,m,n,k,z,rfl,rfl,ha,hk,q⟩:=h
 cases rx
 obtain ⟨t,rfl⟩:=ry
 obtain ⟨_,kvs,dd,hl,r⟩:=Inv.tdic I ha
 obtain ⟨w',hw,rw'⟩:=RelO.some_of (v:=z) (o:=valueAt kvs k) (by rw [<- hk]; exact r k)
 exact tail_any dd.typeIs slot_dict_getitem.lookup (wpAny_getItem_of (knd:=PySem.strKind X.prog X.w) (strKind_is _ _ _ _) dd.mapOf hw ⟨z,H,I.tok _,rw',q⟩) hs
def QC (P:Program) (w:World):V -> V -> V -> Hp -> (Hp -> Prop) -> Prop:=fun o i v H Q=>∃ a m n k,o = .ref a /\ i = .str k /\ H a = some (uJ P w a m n) /\ n <= 100000 /\ Q (upd H a (uJ P w a (fun x=>if x = k then some v else m x) (n + 1)))
theorem Wr:J0 X (QC X.prog X.w):=by
 intro pins s σ H o i v ov iv u Q I ro ri rv h
 obtain ⟨a,m,n,k,rfl,rfl,ha,hn,q⟩:=h
 cases ro
 obtain ⟨t,rfl⟩:=ri
 obtain ⟨hsm,kvs,dd,hl,r⟩:=Inv.tdic I ha
 have s16:=yl
 refine wpAny_setItem_pairs (knd:=PySem.strKind X.prog X.w) (hsz:=by omega) (strKind_is _ _ _ _) dd fun h' dd' hs=>⟨_,?_,q⟩
 have he:∃ q,h'.get? a = some q:=let ⟨q,_,_,hq,_⟩:=dd'; ⟨q,hq⟩
 refine I.write (x:=a) (e:=a) (by rw [ha]; exact True.intro) (.inl rfl) (fun b q hb z=>(hs.2 b hb).trans z) he (Xd hsm dd' (Nat.le_trans (stored_length_le _ _ _) (by omega)) fun x=>?_)
 rw [ZO]
 by_cases e:x = k
 ·rw [if_pos e,if_pos e]
  exact rv
 ·rw [if_neg e,if_neg e]
  exact r x
def Qh (P:Program) (w:World):R2:=fun x y H Q=>∃ a m n k,x = .str k /\ y = .ref a /\ H a = some (uJ P w a m n) /\ Q (.bl (m k).isNone) H
theorem WT:OpR X (compareOp .NotIn) (Qh X.prog X.w):=by
 intro pins s σ H x y v u Q I rx ry h
 obtain ⟨a,m,n,k,rfl,rfl,ha,q⟩:=h
 obtain ⟨t,rfl⟩:=rx
 cases ry
 obtain ⟨hsm,kvs,dd,hl,r⟩:=Inv.tdic I ha
 refine wpAny_notIn_of (knd:=PySem.strKind X.prog X.w) (strKind_is _ _ _ _) hsm dd.mapOf ?_
 have e:(!(valueAt kvs k).isSome) = (m k).isNone:=by
  have:=r k
  cases hm:m k with
  | none =>
   cases hv:valueAt kvs k with
   | none=>rfl
   | some z=>rw [hm,hv] at this; exact this.elim
  | some z0 =>
   cases hv:valueAt kvs k with
   | none=>rw [hm,hv] at this; exact this.elim
   | some z=>rfl
 rw [e]
 exact ⟨.bl _,H,I.tok _,rfl,q⟩
end
end L3
namespace L3
open PySem PySem.Spec PyProof.Rows L2
section
variable {X:Cx} {scope:Scope} {own caps:List Str} {ix:List Nat} {elt tg iter:Expr} {ifs:List Expr} {pos:Pos} {wi:TI} {g:TG} {tt:TT} {te:TE}
theorem jW {EX:XK} (hc:X.calm = true) (S:uP X scope own caps ix)
  (hg:∀ cl C pins s3 H3 fp,PG (zY X scope cl C (own ++ caps) pins s3 H3 fp fun _ _=>False) tg g)
  (ht:∀ cl C pins s3 H3 fp xe,XE (zY X scope cl C (own ++ caps) pins s3 H3 fp xe) EX -> PTs (zY X scope cl C (own ++ caps) pins s3 H3 fp xe) ifs tt)
  (hst:X.stack = X.env :: X.outer /\ X.env.frame = some X.env.locals) (hxe:XE X EX) (he:∀ cl C pins s3 H3 fp xe,XE (zY X scope cl C (own ++ caps) pins s3 H3 fp xe) EX -> PE (zY X scope cl C (own ++ caps) pins s3 H3 fp xe) elt te)
  {cl:List (Str × Addr)} (hc1:∀ y c,cl.lookup y = some c -> X.env.cells.lookup y = some c) (hc2:∀ y,(y,NameKind.free) ∈ scope.names -> ∃ c,cl.lookup y = some c)
  {pins:List (Addr × Obj)} {σ:St} {H2:Hp} {s2:Shared} {Q:VK} {it:Addr} {fp:List Addr} {tn:Nat -> Heap -> Prop} {J:It} (I2:Inv X pins σ H2 s2) (T:W2 X.prog X.w X.K tg J fp it tn) (st2:tn 0 s2.heap) (f2:∀ b ∈ fp,xM X pins H2 b)
  (q:∀ D,H2 D = none -> ∃ W:Nat -> Nat -> List V -> Hp -> Prop,(∃ m,W 0 m [] (upd H2 D (.lst []))) /\
   ∀ i m acc H',W i m acc H' -> (J.stop i H' /\ Q (.ref D) H') \/ (J.go i H' /\ ∀ x H2,J.yld i H' x H2 -> g x (vj σ own.length ix) H2 fun σ3 H3=>xf (vj σ own.length ix) σ3 /\ tt σ3 H3 fun b H4=>if b = true then
    te σ3 H4 fun v H5=>H5 D = some (.lst acc) /\ acc.length < sizeLine /\ ∃ m',m' < m /\ W (i + 1) m' (acc ++ [v]) (upd H5 D (.lst (acc ++ [v])))
    else ∃ m',m' < m /\ W (i + 1) m' acc H4))
  {RR:Value -> Addr -> Result -> Shared -> Prop} {E:Value -> Shared -> Prop}
  (hRR:∀ D C m s' H',H2 D = none -> s'.heap.Ns C m -> xM X pins H' C -> Inv X pins σ H' s' -> Q (.ref D) H' -> RR (.ref D) C (.ok .next) s')
  (hRE:∀ D C m s' x,s'.heap.Ns C m -> (∀ h',Heap.SameBut C s'.heap h' -> ∀ cenv:Env,cenv.locals = C -> wpAny (model X.prog X.w) X.A (PySem.passOn "comprehension.variables-let-go" x cenv:Sem Value) (fun _ _=>False) X.xe { s' with heap:=h' }) -> RR (.ref D) C (.error x) s') :
  wpAny (model X.prog X.w) X.A (newList []) (fun acc s3=>wpAny (model X.prog X.w) X.A (newFunctionEnv scope X.env.globals cl [] X.env.qual none .none (some X.env)) (fun cenv s4 =>
   codeAny (model X.prog X.w) X.A (.compStart (.ListComp elt [⟨tg,iter,ifs,0⟩] scope pos) 0 (.ref it) acc { cenv with scope:=relabel scope X.env }) (RR acc cenv.locals) s4) E s3) E s2:=by
 have hD:H2 s2.heap.objs.size = none:=I2.hok.fresh (Nat.le_refl _)
 obtain ⟨W,⟨m0,w0⟩,turn⟩:=q _ hD
 refine wpAny_newObj_type (wpAny_newFunctionEnv S.nocell (by intro y hy; simp at hy) (fun h1 hns1 hsb1=>?_) S.kind)
 dsimp only at hns1 hsb1 ⊢
 have I3:Inv X pins σ (upd H2 s2.heap.objs.size (.lst [])) { s2 with heap:=s2.heap.push { cls:=.type "list",dict:=none,data:=.seq ([]:List Value).toArray } } :=
  I2.lnew (its:=[]) (t':=s2.toks) .nil (Nat.zero_le _)
 generalize hs3:({ s2 with heap:=s2.heap.push { cls:=.type "list",dict:=none,data:=.seq ([]:List Value).toArray } }:Shared) = s3 at I3
 have e3:s2.heap.push { cls:=.type "list",dict:=none,data:=.seq ([]:List Value).toArray } = s3.heap:=by rw [<- hs3]
 rw [e3] at hns1 hsb1 ⊢
 have k1:∀ b o,s3.heap.get? b = some o -> h1.get? b = some o:=fun b o e=>(hsb1.2 b (Nat.ne_of_lt (Heap.lt_size e))).trans (Heap.get?_push_of_some _ e)
 have k23:∀ b o,s2.heap.get? b = some o -> s3.heap.get? b = some o:=fun b o e=>by rw [<- e3]; exact Heap.get?_push_of_some _ e
 have hz:s3.heap.objs.size = s2.heap.objs.size + 1:=by rw [<- e3,Heap.size_push]
 have fpObj:∀ b ∈ fp,∃ o,s2.heap.get? b = some o:=fun b hb=>let ⟨o,e,_⟩:=T.obj 0 _ st2 b hb; ⟨o,e⟩
 have fplt:∀ b ∈ fp,b < s2.heap.objs.size:=fun b hb=>let ⟨o,e⟩:=fpObj b hb; Heap.lt_size e
 have f3:∀ b ∈ fp,xM X pins (upd H2 s2.heap.objs.size (.lst [])) b:=fun b hb=>⟨by rw [zo (Nat.ne_of_lt (fplt b hb))]; exact (f2 b hb).1,(f2 b hb).2⟩
 have I4:Inv (zY X scope cl s3.heap.objs.size (own ++ caps) pins s3 (upd H2 s2.heap.objs.size (.lst [])) fp fun _ _=>False) [] (vj σ own.length ix) (upd H2 s2.heap.objs.size (.lst [])) { s3 with heap:=h1,toks:=s3.toks + ([]:List (Str × Value)).length } :=
  qm S hc1 hc2 I3 f3 (fun b hb=>by rw [hz]; exact Nat.lt_succ_of_lt (fplt b hb)) hns1 k1
 have st4:tn 0 h1:=T.keep 0 _ _ st2 fun b hb o e=>k1 b o (k23 b o e)
 generalize hs4:({ s3 with heap:=h1,toks:=s3.toks + ([]:List (Str × Value)).length }:Shared) = s4 at I4
 have es4:({ s2 with heap:=h1,toks:=s2.toks + ([]:List (Str × Value)).length }:Shared) = s4:=by rw [<- hs4,<- hs3]
 have e4:h1 = s4.heap:=by rw [<- hs4]
 have loop:codeAny (model X.prog X.w) X.A (.compLoop (.ListComp elt [⟨tg,iter,ifs,0⟩] scope pos) 0 (.ref it) (.ref s2.heap.objs.size) (compEnvC scope cl s3.heap.objs.size X.env)) (RR (.ref s2.heap.objs.size) s3.heap.objs.size) s4:=by
  let X':=zY X scope cl s3.heap.objs.size (own ++ caps) pins s3 (upd H2 s2.heap.objs.size (.lst [])) fp fun _ _=>False
  have fp':∀ {H':Hp},(∀ b ∈ fp,H' b = none) -> ∀ b ∈ fp,xM X' [] H' b:=fun {H'} hn b hb=>by
   obtain ⟨_,a1,a2,a3,a4,a5⟩:=f3 b hb
   refine ⟨hn b hb,Nat.ne_of_lt (show b < s3.heap.objs.size from by rw [hz]; exact Nat.lt_succ_of_lt (fplt b hb)),fun z=>?_,.inl hb,fun x c e=>a4 x c (hc1 x c e),fun p hp=>?_⟩
   ·rcases List.mem_cons.mp (I3.stkSub b z) with e | e
    ·exact a1 e
    ·exact a2 e
   ·have:p ∈ (X.pn ++ pins) ++ []:=hp
    rw [List.append_nil] at this
    exact a5 p this
  refine j2 (fun n s'=>∃ i acc H',Inv X' [] (vj σ own.length ix) H' s' /\ tn i s'.heap /\ (∀ b ∈ fp,H' b = none) /\ W i n acc H') rfl ?_ m0 ⟨0,[],_,I4,by rw [<- e4]; exact st4,fun b hb=>(f3 b hb).1,w0⟩
  rintro n s5 ⟨i,acc,H5,I5,st5,fr5,w5⟩
  refine wpAny_noRaise ?_
  rcases turn i n acc H5 w5 with ⟨stop,qn⟩ | ⟨go,step⟩
  ·refine thn (T.done X' rfl rfl rfl hc i [] s5 _ H5 _ I5 (fp' fr5) st5 stop) fun r s6 ⟨hr,I6⟩=>?_
   subst hr
   obtain ⟨m,hm,_⟩:=I6.loc
   refine hRR _ _ m s6 H5 hD hm (I3.fpOk (Nat.le_refl _) I6.free) (I3.call' (s':=s6) I6.os I6.base I6.hok I6.bare fun b hb=>?_) qn
   obtain ⟨_,a1,a2,a3,a4,a5⟩:=f3 b hb
   exact ⟨a3,a1,a4,a5⟩
  ·refine thn (T.item X' rfl rfl rfl hc i [] s5 _ H5 (fun _ _=>False) I5 (fp' fr5) st5 go) fun r s6 ⟨u,hr,h6⟩=>?_
   subst hr
   refine wpAny_noRaise (thn h6 fun _ s7 ⟨x,H7,I7,r7,y7,st7,fr7⟩=>?_)
   have I7':=I7.pinned (fp' fr7) (T.obj _ _ st7)
   refine wpAny_noRaise (thn (hg _ _ _ _ _ _ _ s7 _ H7 x u _ I7' r7 (step x H7 y7)) fun _ s8 ⟨σ8,H8,I8,ks,q8⟩=>?_)
   refine thn (ht cl _ pins s3 (upd H2 s2.heap.objs.size (.lst [])) fp _ (fun e s hfl=>YJ (RE:=fun e s'=>RR (.ref s2.heap.objs.size) s3.heap.objs.size (.error e) s') hst hxe hc1 I3 f3 hfl fun m s' x a b=>hRE _ _ m s' x a b) _ s8 σ8 H8 _ (I8.wish _) q8) fun b s9 ⟨H9,I9',q9⟩=>?_
   have I9:=Inv.unwish (X:=X') I9'
   have back:∀ {s':Shared} {H':Hp} {acc':List V} {m':Nat},Inv X' ([] ++ qi fp s7.heap) σ8 H' s' -> m' < n -> W (i + 1) m' acc' H' -> ∃ m,m < n /\ ∃ i acc H',Inv X' [] (vj σ own.length ix) H' s' /\ tn i s'.heap /\ (∀ b ∈ fp,H' b = none) /\ W i m acc H':=fun {s' H' acc' m'} J' hm w'=>by
    refine ⟨m',hm,i + 1,acc',H',(J'.unpinned).weak ks.1 ks.2,T.keep _ _ _ st7 fun b hb o e=>(J'.pin (b,o) (List.mem_append_right _ (List.mem_append_right _ (yV hb e)))).1,fun b hb=>?_,w'⟩
    obtain ⟨o,e,d⟩:=T.obj _ _ st7 b hb
    exact (J'.pin (b,o) (List.mem_append_right _ (List.mem_append_right _ (yV hb e)))).2.1
   cases b with
   | false =>
    rw [if_neg Bool.false_ne_true] at q9 ⊢
    obtain ⟨m',hm,w'⟩:=q9
    exact back I9 hm w'
   | true =>
    rw [if_pos rfl] at q9 ⊢
    refine thn (he cl _ pins s3 (upd H2 s2.heap.objs.size (.lst [])) fp _ (fun e s hfl=>YJ (RE:=fun e s'=>RR (.ref s2.heap.objs.size) s3.heap.objs.size (.error e) s') hst hxe hc1 I3 f3 hfl fun m s' x a b=>hRE _ _ m s' x a b) _ s9 σ8 H9 _ (I9.wish _) q9) fun v s10 ⟨y,H10,I10',r10,hD10,hsz,m',hm,w'⟩=>?_
    have I10:=Inv.unwish (X:=X') I10'
    refine wpAny_noRaise ?_
    have:=yk (X:=X') _ s10 σ8 H10 (.ref s2.heap.objs.size) [y] (.ref s2.heap.objs.size) [v] (fun _ H'=>H' = upd H10 s2.heap.objs.size (.lst (acc ++ [y]))) I10 rfl (.cons r10 .nil) ⟨_,acc,y,rfl,rfl,hD10,hsz,rfl⟩
    refine thn this fun _ s11 ⟨_,H11,I11,_,eH⟩=>?_
    subst eH
    exact back I11 hm w'
 have goal:codeAny (model X.prog X.w) X.A (.compStart (.ListComp elt [⟨tg,iter,ifs,0⟩] scope pos) 0 (.ref it) (.ref s2.heap.objs.size) (compEnvC scope cl s3.heap.objs.size X.env)) (RR (.ref s2.heap.objs.size) s3.heap.objs.size) s4 :=
  codeAny_compStart_list loop (T.self _ 0 s4 _ _ (by rw [<- e4]; exact st4) loop)
 rw [<- es4] at goal
 exact goal
theorem YM {EX:XK} (hc:X.calm = true) (S:uP X scope own caps ix) (hst:X.stack = X.env :: X.outer /\ X.env.frame = some X.env.locals) (hxe:XE X EX) (hi:PI X tg iter wi)
  (hg:∀ cl C pins s3 H3 fp,PG (zY X scope cl C (own ++ caps) pins s3 H3 fp fun _ _=>False) tg g)
  (ht:∀ cl C pins s3 H3 fp xe,XE (zY X scope cl C (own ++ caps) pins s3 H3 fp xe) EX -> PTs (zY X scope cl C (own ++ caps) pins s3 H3 fp xe) ifs tt)
  (he:∀ cl C pins s3 H3 fp xe,XE (zY X scope cl C (own ++ caps) pins s3 H3 fp xe) EX -> PE (zY X scope cl C (own ++ caps) pins s3 H3 fp xe) elt te)
  (hs:∀ x,foldedSetIterable iter X.env x = pure x:=by intro _; rfl) :
  PE X (.ListComp elt [⟨tg,iter,ifs,0⟩] scope pos) (qz wi g tt te own.length ix):=by
 intro pins s σ H Q I h
 obtain ⟨cl,hclos,hc1,hc2⟩:=xO (scope:=scope) (env:=X.env) fun y hy=>I.ok.has y (.inl (S.free y hy))
 rw [eval_ListComp]
 refine wpAny_comprehension_free (use:=none) rfl hs hclos S.kind S.names (thn (hi pins s σ H _ I h) fun v s1 h1=>thn h1 fun itv s2 h2=>?_)
 obtain ⟨it,fp,tn,J,H2,e,I2,T,st2,f2,q⟩:=h2
 subst e
 refine jW (RR:=fun acc C=>compPost (model X.prog X.w) X.A X.xe none (EP X pins σ Q) acc C) hc S hg ht hst hxe he hc1 hc2 I2 T st2 f2 q ?_ ?_
 ·intro D C m s' H' _ hn fc I' qn
  obtain ⟨a0,a1,a2,a3,a4,a5⟩:=fc
  exact ⟨m,hn,fun h' sb=>⟨.ref D,H',I'.turned (t':=s'.toks) (fun b o hb e=>(sb.2 b hb).trans e) a0 a1 a3 a4 a5,rfl,qn⟩⟩
 ·intro D C m s' x hn hp
  exact ⟨m,hn,hp⟩
end
end L3
namespace L3
open PySem PySem.Spec PyProof.Rows L2
section
variable {X:Cx} {scope:Scope} {own caps:List Str} {ix:List Nat} {cl:List (Str × Addr)} {pins:List (Addr × Obj)} {σ:St} {H:Hp} {s:Shared} {fp:List Addr} {E:Value -> Shared -> Prop}
end
section
variable {X:Cx} {scope:Scope} {own caps:List Str} {ix:List Nat} {elt tg iter:Expr} {ifs:List Expr} {pos:Pos} {wi:TI} {g:TG} {tt:TT} {te:TE}
end
end L3
namespace L3
open PySem PySem.Spec PyProof.Rows L2
section
variable {X:Cx}
end
end L3
namespace LL
open PySem L2 L3
def top (i:Nat):Stmt:=PySem.Challenge.pw_letterlaw_k45_roads_bounded.main.body.getD i (.Pass ⟨0,0,0,0⟩)
abbrev yv:Stmt:=yQ (top 5) 0
abbrev zU:Stmt:=yQ (top 6) 0
abbrev zQ:Stmt:=top 10
abbrev yy:Stmt:=top 11
abbrev yN:Stmt:=top 12
abbrev ZY:Stmt:=top 13
abbrev yc:Stmt:=top 16
abbrev yx:Stmt:=top 17
abbrev wK:Stmt:=top 18
abbrev ym:Stmt:=yQ (top 19) 0
abbrev zL:Stmt:=yQ (top 19) 1
abbrev vC:Stmt:=top 21
abbrev yX:Stmt:=top 22
abbrev qp:Stmt:=top 23
abbrev xH:Stmt:=top 24
abbrev wq:Stmt:=top 25
abbrev xT:Stmt:=top 26
abbrev xr:Stmt:=top 27
abbrev yA:Stmt:=yQ (top 30) 0
abbrev yd:Stmt:=yQ (top 30) 1
abbrev yw:Stmt:=yQ (top 30) 2
abbrev yj:Stmt:=yQ (top 30) 3
abbrev ye:Stmt:=yQ (top 30) 4
abbrev zS:Stmt:=yQ (top 31) 0
abbrev zV:Stmt:=yQ (top 32) 0
abbrev zJ:Stmt:=yQ (top 32) 1
abbrev xz:Stmt:=top 34
abbrev xA:Stmt:=top 35
abbrev qj:Stmt:=top 36
abbrev vw:Stmt:=top 37
abbrev xt:Stmt:=top 38
abbrev vJ:Stmt:=top 39
abbrev vz:Stmt:=top 40
abbrev ww:Stmt:=top 41
abbrev qg:Stmt:=top 42
abbrev yz:Stmt:=top 43
abbrev ZJ:Stmt:=top 44
abbrev qv:Stmt:=top 45
abbrev wx:Stmt:=top 46
abbrev vD:Stmt:=top 47
abbrev xB:Stmt:=top 48
abbrev xw:Stmt:=top 49
abbrev z7:Stmt:=top 50
abbrev yn:Stmt:=top 51
abbrev vB:Stmt:=top 52
abbrev kg:Stmt:=top 53
abbrev uM:Stmt:=top 54
section
variable {P:Program} {w:World} {K:PySem.W.Frag} {mg:Str -> Option Value} {base:Heap}
seal L2.PE L2.PS L2.PA L2.PT L2.PSs L2.PI L2.PG L2.PW L2.PGs
local macro_rules | `(tactic| rfl')=>`(tactic| simp only [J6,Yl,Kj,vj,Option.join_some,Option.join_none,rU,Zc,UM,Js,QU,U1,Kb,J5,V6,tOp,tUn,wG,tC,Ya,yL,qf,tCB,UI,yt,U2,Ue,J4,tOr,W6,Kh,VD,Yz,tIf,rI,rI0,Qm,Ur,JJ,JR,JP,rEq,rNe,rIx,Jc,UF,JF,JV,QQ,JH,JI,tSl,Yj,UU,Kq,Kk,Kf,QE,UT,rGe,Q8,decide_false,decide_true,Prod.mk.injEq,QL,Jv,Uz,XQ,VC,XA,tyV,tBM,Ka,if_true,if_false,Bool.false_eq_true,decide_eq_true_eq,decide_eq_false_iff_not,Bool.not_eq_true',Bool.not_true,Bool.not_false,lt1,Ju,JQ,XM,yY,Xh,UZ,Jy,JC,YL,YF,Kl,tHs,UC,Jj,JE,QT,JG,Jx,Value.ref.injEq,L2.start,Jr,QY,Kg,Kz,KA,Jz,Km,JB,JD,Kp,Kc,Ug,Jq,UQ,JT,jU,WK,jx,xG,jF,zO,Kt,Qj,Jp,cxK,cxP,cxW,List.map_cons,List.map_nil,List.length_cons,List.length_nil,List.replicate_succ,List.replicate_zero,Nat.reduceAdd,Nat.reduceSub,and_assoc,Q9,exists_eq,exists_eq',exists_eq_left',exists_eq_left,exists_eq_right,exists_eq_right',exists_and_left,exists_and_right,V.int.injEq,V.ref.injEq,V.str.injEq,V.bl.injEq,V.ty.injEq,reduceCtorEq,false_and,and_false,true_and,and_true,or_false,false_or,exists_false,exists_const,List.getElem?_cons_zero,List.getElem?_cons_succ,Option.some.injEq,List.set_cons_zero,List.set_cons_succ,List.cons.injEq,List.append_nil,List.nil_append,List.cons_append])
theorem xe0 {X:Cx}:XE X E0:=fun e s h=>by
 obtain ⟨_,_,_,_,_,_,_,_,_,_,_,_,_,_,h⟩:=h
 exact h.elim
def km (l:List Nat):Prop:=∀ c ∈ l,97 <= c /\ c <= 122
instance (l:List Nat):Decidable (km l):=by unfold km; infer_instance
def uj (l:List Nat):Bool:=decide (1 <= l.length /\ l.length <= 6 /\ km l /\ l.Nodup)
def vX:Sp:=fun vs H Q _=>∃ c:Nat,vs = [.str (tx [c])] /\ Q (.bl (decide (97 <= c /\ c <= 122))) H
theorem Wl:zq ["sign"] ["sign"] (zb zQ):=⟨rfl,rfl,rfl,by decide +kernel,rfl,by decide +kernel,by decide +kernel⟩
theorem W5 {f:Addr} {fd:FuncData} (F:Fun K "is_small_letter" "is_small_letter" zQ f fd):yo P w K mg base CX0 1 f fd ["sign"] vX:=by
 refine F.ok Wl (fun vs H Q E h=>?_) (fun cdv A outer s H vs Q E hr h=>?_)
 ·obtain ⟨a,rfl,_⟩:=h
  rfl
 ·obtain ⟨c,rfl,q⟩:=h
  refine ⟨_,(zf (zu (WO vN vN xX (pv 0) xX))),?_⟩
  have ea:cs (("a" : Str)) = [97]:=rfl
  have ez:cs (("z" : Str)) = [122]:=rfl
  rfl'
  simp only [ea,ez,jF,lt1]
  refine yE (fun h=>?_) fun h=>?_
  ·have e:decide (97 <= c /\ c <= 122) = !decide (122 < c):=by
    by_cases h2:122 < c
    ·rw [decide_eq_true h2,decide_eq_false (by omega)]; rfl
    ·rw [decide_eq_false h2,decide_eq_true (by omega)]; rfl
   rw [e] at q
   exact q
  ·rw [decide_eq_false (by omega)] at q
   exact q
structure J8 (K:PySem.W.Frag) (mg:Str -> Option Value) (C:Addr):Prop where
 xi:XI K C
 ini:PySem.W.findIn K (.ref C) "__init__" = some (some (.builtin "ValueError.__init__"))
 g:mg "NoLetters" = some (.ref C)
 most:∃ t,mg "MOST_LETTERS" = some (.int 6 t)
def xR (C:Addr):Sp:=fun vs H Q E=>∃ l:List Nat,vs = [.str (tx l)] /\ l.length <= 1000 /\ (uj l = true -> Q (.str (tx l)) H) /\ (uj l = false -> E (.ref C) none H)
theorem sc_letters_of:zq ["text", "sign"] ["text"] (zb yy):=⟨rfl,rfl,rfl,by decide +kernel,rfl,by decide +kernel,by decide +kernel⟩
theorem qY {f C:Addr} {fd:FuncData} (B:Bt mg) (T:J8 K mg C) (F:Fun K "letters_of" "letters_of" yy f fd) (Ds:Df P w K mg base CX0 1 "is_small_letter" ["sign"] [] vX):yo P w K mg base (CXx P w) 2 f fd ["text"] (xR C):=by
 refine Fun.okX F sc_letters_of (fun vs H Q E h=>?_) (fun cdv A outer s H vs Q E hr hx h=>?_)
 ·obtain ⟨a,rfl,_⟩:=h
  rfl
 ·obtain ⟨l,rfl,hl,q1,q2⟩:=h
  obtain ⟨t6,g6⟩:=T.most
  refine ⟨_,(zH (yh (yH (qB vN vN zg (zp yg rfl B.len PySem.boot_len (za (pv 0) zc)) (uI (v:=.int 6) rfl g6 ⟨t6,rfl⟩)))
    (zf (xC hx rfl T.xi.toXC T.ini rfl T.g (za xX zc)))
    zE)
   (zH (yq PassesOwn.leaving rfl (X5 (pv 0)) (zr (i:=1) sc_letters_of.nd rfl (Or.inl rfl))
    (zH (yh (yH (Zb (cl0 Ds hr .nil rfl (za (pv 1) zc)) (fun _=>rfl)))
     (zf (xC hx rfl T.xi.toXC T.ini rfl T.g (za xX zc)))
     zE)
    (zf (yh (zF Zt (wY PySem.F.plainAttrs_str PySem.F.slot_str_count PySem.F.type_str_count X7 (pv 0) (za (pv 1) zc)) zg (zI _))
     (zf (xC hx rfl T.xi.toXC T.ini rfl T.g (za xX zc)))
     zE))))
   (zf (zu (pv 0))))),?_⟩
  have s16:=yl
  rfl'
  have bad:(¬ (1 <= l.length /\ l.length <= 6 /\ km l /\ l.Nodup)) -> ∀ H':Hp,H' = H -> E (.ref C) none H':=fun h H' e=>by
   rw [e]
   exact q2 (decide_eq_false h)
  refine ⟨by omega,yE (fun c=>yE (fun c2=>⟨by omega,bad (fun h=>by have:=h.2.1; omega) H rfl⟩) (fun c2=>?_)) (fun c=>⟨by omega,bad (fun h=>by have:=h.1; omega) H rfl⟩)⟩
  refine ForS.by (fun i σ H'=>H' = H /\ ∃ v,σ = [some (.str (tx l)),v] /\ km (l.take i) /\ ∀ c ∈ l.take i,l.count c <= 1) ⟨rfl,none,rfl,fun c h=>absurd h (by simp),fun c h=>absurd h (by simp)⟩ ?_ ?_
  ·rintro i c σ H' hg ⟨eH,v,rfl,hs,hn⟩
   have hc:=List.mem_of_getElem? hg
   rfl'
   simp only [vX]
   rfl'
   refine yE (fun h=>⟨by omega,bad (fun z=>by have:=z.2.2.1 c hc; omega) _ eH⟩) (fun h=>yE (fun h2=>⟨by omega,bad (fun z=>?_) _ eH⟩) (fun h2=>⟨eH,?_,?_⟩))
   ·have:=List.nodup_iff_count.mp z.2.2.2 c
    omega
   ·rw [yb hg]
    intro x hx
    rcases List.mem_append.mp hx with q | q
    ·exact hs x q
    ·have:x = c:=by simpa using q
     subst this
     omega
   ·rw [yb hg]
    intro x hx
    rcases List.mem_append.mp hx with q | q
    ·exact hn x q
    ·have:x = c:=by simpa using q
     subst this
     omega
  ·rintro σ H' ⟨eH,v,rfl,hs,hn⟩
   rw [List.take_length] at hs hn
   rfl'
   rw [eH]
   refine q1 (decide_eq_true ⟨by omega,by omega,hs,List.nodup_iff_count.mpr fun c=>?_⟩)
   by_cases hc:c ∈ l
   ·exact hn c hc
   ·rw [List.count_eq_zero.mpr hc]; omega
def zA (l:List Nat) (k:Int) (p:List Nat):Bool:=decide (0 <= k /\ k + p.length <= l.length /\ (l.drop k.toNat).take p.length = p)
def xm:Sp:=fun vs H Q _=>∃ (l p:List Nat) (k:Int),vs = [.str (tx l),.int k,.str (tx p)] /\ l.length <= 10000 /\ p.length <= 10000 /\ Q (.bl (zA l k p)) H
theorem qX {l p:List Nat} {k:Int} {H:Hp} {Q:VK} {E:XK} (h1:l.length <= 10000) (h2:p.length <= 10000) (h:Q (.bl (zA l k p)) H):xm [.str (tx l),.int k,.str (tx p)] H Q E:=⟨l,p,k,rfl,h1,h2,h⟩
theorem jY:zq ["word", "place", "part"] ["word", "place", "part"] (zb yN):=⟨rfl,rfl,rfl,by decide +kernel,rfl,by decide +kernel,by decide +kernel⟩
theorem jN {f:Addr} {fd:FuncData} (B:Bt mg) (F:Fun K "stands_at" "stands_at" yN f fd):yo P w K mg base CX0 1 f fd ["word", "place", "part"] xm:=by
 refine F.ok jY (fun vs H Q E h=>?_) (fun cdv A outer s H vs Q E hr h=>?_)
 ·obtain ⟨l,p,k,rfl,_⟩:=h
  rfl
 ·obtain ⟨l,p,k,rfl,hl,hp,q⟩:=h
  refine ⟨_,(zH (yh (yH (qB vN vN zg (pv 1) (zw wp (zp yg rfl B.len PySem.boot_len (za (pv 0) zc)) (zp yg rfl B.len PySem.boot_len (za (pv 2) zc)))))
    (zf (zu xk))
    zE)
   (zf (zu (xW vS (zX xv (pv 0) (zZ (pv 1)) (zZ (zw op_add (pv 1) (zp yg rfl B.len PySem.boot_len (za (pv 2) zc))))) (pv 2) (zI _))))),?_⟩
  have s16:=yl
  rfl'
  have no:¬ (0 <= k /\ k + p.length <= l.length /\ (l.drop k.toNat).take p.length = p) -> Q (.bl false) H:=fun h=>by
   have e:zA l k p = false:=decide_eq_false h
   rw [e] at q
   exact q
  refine yE (fun h0=>⟨by omega,by omega,yE (fun h1=>no fun h=>absurd h.2.1 (by omega)) fun h1=>⟨by omega,by omega,?_⟩⟩) fun h0=>no fun h=>h0 h.1
  rw [YD _ h0 (by omega) (by omega)]
  have e:(k + (p.length:Int) - k).toNat = p.length:=by omega
  rw [e]
  have e2:zA l k p = decide ((l.drop k.toNat).take p.length = p):=by
   unfold zA
   exact decide_eq_decide.mpr ⟨fun h=>h.2.2,fun h=>⟨h0,by omega,h⟩⟩
  rw [<- e2]
  exact q
def wH (l:List Nat) (k:Int) (o n:List Nat):List Nat:=l.take k.toNat ++ n ++ l.drop (k.toNat + o.length)
theorem Wt {l o:List Nat} {k:Int} (h:zA l k o = true):l.take k.toNat ++ o ++ l.drop (k.toNat + o.length) = l /\ (l.take k.toNat).length = k.toNat /\ 0 <= k /\ k + o.length <= l.length:=by
 unfold zA at h
 rw [decide_eq_true_eq] at h
 obtain ⟨h0,h1,h2⟩:=h
 refine ⟨?_,by rw [List.length_take]; omega,h0,h1⟩
 have e:l.drop k.toNat = o ++ l.drop (k.toNat + o.length):=by
  have:=List.take_append_drop o.length (l.drop k.toNat)
  rw [h2,List.drop_drop] at this
  exact this.symm
 rw [List.append_assoc,<- e,List.take_append_drop]
theorem kG {l o n:List Nat} {k:Int} (h0:0 <= k):cut l none (some k) ++ n ++ cut l (some (k + ↑o.length)) none = wH l k o n:=by
 rw [Zh _ h0,vh _ (by omega)]
 have:(k + (o.length:Int)).toNat = k.toNat + o.length:=by omega
 rw [this]
 rfl
structure TNU (K:PySem.W.Frag) (mg:Str -> Option Value) (C:Addr):Prop where
 xi:XI K C
 g:mg "NoUse" = some (.ref C)
 na:NoAttr K C "at"
theorem qV:zq ["self", "at"] ["self", "at"] (zb yv):=⟨rfl,rfl,rfl,by decide +kernel,rfl,by decide +kernel,by decide +kernel⟩
theorem qE {f C:Addr} {fd:FuncData} (T:TNU K mg C) (F:Fun K "__init__" "NoUse.__init__" yv f fd):yo P w K mg base CX0 1 f fd ["self", "at"] (va C "at"):=by
 refine F.ok qV (fun vs H Q E h=>?_) (fun cdv A outer s H vs Q E hr h=>?_)
 ·obtain ⟨x,v,rfl,_⟩:=h
  rfl
 ·obtain ⟨x,v,rfl,hx,q⟩:=h
  refine ⟨_,(zf (YI (pv 0) (pv 1) rfl)),?_⟩
  simp only [Uc]
  rfl'
  exact ⟨C,hx,T.xi.toXC,T.na,q⟩
structure DNU (P:Program) (w:World) (K:PySem.W.Frag) (mg:Str -> Option Value) (base:Heap) (C:Addr):Prop extends TNU K mg C where
 ini:∃ f fd,PySem.W.findIn K (.ref C) "__init__" = some (some (.ref f)) /\ PySem.W.isFn K (.ref f) = true /\ yo P w K mg base CX0 1 f fd ["self", "at"] (va C "at") /\ Binds K fd ["self", "at"] []
def jv (C:Addr):Sp:=fun vs H Q E=>∃ (l o n:List Nat) (k:Int),vs = [.str (tx l),.int k,.str (tx o),.str (tx n)] /\ l.length <= 10000 /\ o.length <= 10000 /\ n.length <= 10000 /\ (zA l k o = true -> Q (.str (tx (wH l k o n))) H) /\ (zA l k o = false -> ∀ d H',Ji H d "at" (.int 0) H' -> E (.ref C) (some d) H')
theorem UO:zq ["word", "place", "old", "new"] ["word", "place", "old", "new"] (zb ZY):=⟨rfl,rfl,rfl,by decide +kernel,rfl,by decide +kernel,by decide +kernel⟩
theorem UH {f C:Addr} {fd:FuncData} (B:Bt mg) (T:DNU P w K mg base C) (F:Fun K "put" "put" ZY f fd) (D_stands_at:Df P w K mg base CX0 1 "stands_at" ["word", "place", "part"] [] xm):yo P w K mg base (CXx P w) 3 f fd ["word", "place", "old", "new"] (jv C):=by
 obtain ⟨fi,fdi,hi,hfn,Fi,Bi⟩:=T.ini
 refine Fun.okX F UO (fun vs H Q E h=>?_) (fun cdv A outer s H vs Q E hr hx h=>?_)
 ·obtain ⟨l,o,n,k,rfl,_⟩:=h
  rfl
 ·obtain ⟨l,o,n,k,rfl,hl,ho,hn,q1,q2⟩:=h
  refine ⟨_,(zH (yh (yH (Zb (cl0 D_stands_at hr .nil rfl (za (pv 0) (za (pv 1) (za (pv 2) zc)))) (fun _=>rfl)))
    (zf (jM hx rfl T.xi.toXC hi hfn Fi hr Bi rfl T.g (za zg zc)))
    zE)
   (zf (zu (zw op_add_str (zw op_add_str (zX xv (pv 0) yP (zZ (pv 1))) (pv 3)) (zX xv (pv 0) (zZ (zw op_add (pv 1) (zp yg rfl B.len PySem.boot_len (za (pv 2) zc)))) yP))))),?_⟩
  have s16:=yl
  rfl'
  refine qX hl ho ?_
  rfl'
  refine yE (fun hb=>⟨by omega,Yq (q2 hb)⟩) fun hb=>?_
  have hb':zA l k o = true:=by simpa using hb
  obtain ⟨_,_,h0,h1⟩:=Wt hb'
  have c1:=yR l none (some k)
  have c2:=yR l (some (k + ↑o.length)) none
  refine ⟨by omega,by omega,by omega,by omega,?_,?_⟩
  ·simp only [List.length_append]
   omega
  ·have e:cut l none (some k) ++ n ++ cut l (some (k + ↑o.length)) none = wH l k o n:=by
    rw [Zh _ h0,vh _ (by omega)]
    have:(k + (o.length:Int)).toNat = k.toNat + o.length:=by omega
    rw [this]
    rfl
   rw [e]
   exact q1 hb'
structure TOrd (K:PySem.W.Frag) (mg:Str -> Option Value) (CO CR CW:Addr):Prop where
 cO:Cls K CO
 cR:Cls K CR
 cW:Cls K CW
 gO:mg "Order" = some (.ref CO)
 gR:mg "FromRight" = some (.ref CR)
 gW:mg "ByWeights" = some (.ref CW)
 lO:NoAttr K CO "letters"
 lR:NoAttr K CR "letters"
 lW:NoAttr K CW "letters"
 wW:NoAttr K CW "weights"
def OrdAt (CO CR CW:Addr) (H:Hp) (o:Addr) (k:Nat) (l:List Nat) (ns:List Int):Prop:=∃ dx,(k = 0 /\ H o = some (.ins CO dx [("letters",.str (tx l))])) \/ (k = 1 /\ H o = some (.ins CR dx [("letters",.str (tx l))])) \/
 (k = 2 /\ ns.length = l.length /\ ∃ w,H o = some (.ins CW dx [("letters",.str (tx l)),("weights",.ref w)]) /\ H w = some (.tup (ns.map V.int)))
theorem OrdAt.same {CO CR CW:Addr} {H H':Hp} {o:Addr} {k:Nat} {l:List Nat} {ns:List Int} (h:OrdAt CO CR CW H o k l ns) (e:Same H H'):OrdAt CO CR CW H' o k l ns:=by
 obtain ⟨dx,⟨h1,h2⟩ | ⟨h1,h2⟩ | ⟨h1,h2,w,h3,h4⟩⟩:=h
 ·exact ⟨dx,.inl ⟨h1,e _ _ h2⟩⟩
 ·exact ⟨dx,.inr (.inl ⟨h1,e _ _ h2⟩)⟩
 ·exact ⟨dx,.inr (.inr ⟨h1,h2,w,e _ _ h3,e _ _ h4⟩)⟩
def Wd (l:List Nat) (ns:List Int) (w:List Nat):Int:=((l.zip ns).map fun p=>(w.count p.1:Int) * p.2).sum
def zj (k:Nat) (l:List Nat) (ns:List Int) (w:List Nat):Int:=if k = 2 then Wd l ns w else (w.length:Int)
def xb (k:Nat) (w:List Nat):List Nat:=if k = 1 then w.reverse else w
def ub (K:PySem.W.Frag):Sp:=fun vs H Q _=>∃ (x C dx:Addr) (l:List Nat),vs = [.ref x,.str (tx l)] /\ uj l = true /\ Cls K C /\ NoAttr K C "letters" /\ H x = some (.ins C dx []) /\ Q .non (upd H x (.ins C dx [("letters",.str (tx l))]))
theorem qD:zq ["self", "letters"] ["self", "letters"] (zb yA):=⟨rfl,rfl,rfl,by decide +kernel,rfl,by decide +kernel,by decide +kernel⟩
theorem xS {f:Addr} {fd:FuncData} (B:Bt mg)  (F:Fun K "__init__" "Order.__init__" yA f fd) (D_letters_of:Df P w K mg base (CXx P w) 2 "letters_of" ["text"] [] (xR C)):yo P w K mg base CX0 3 f fd ["self", "letters"] (ub K):=by
 refine F.ok qD (fun vs H Q E h=>?_) (fun cdv A outer s H vs Q E hr h=>?_)
 ·obtain ⟨x,C,dx,l,rfl,_⟩:=h
  rfl
 ·obtain ⟨x,C,dx,l,rfl,hg,hC,hN,hx,q⟩:=h
  refine ⟨_,(zf (kP (pv 0) (clP xe0 D_letters_of hr .nil rfl (za (pv 1) zc)) rfl)),?_⟩
  have s16:=yl
  rfl'
  exact ⟨l,rfl,by have:=of_decide_eq_true hg; omega,fun _=>⟨_,_,_,hx,hC,hN,by decide,q⟩,fun e=>by rw [hg] at e; cases e⟩
def je:Sp:=fun vs H Q _=>∃ (o:Addr) (w:List Nat),vs = [.ref o,.str (tx w)] /\ w.length <= 1000 /\ Q (.int (w.length:Nat)) H
theorem ux:zq ["self", "word"] ["self", "word"] (zb yd):=⟨rfl,rfl,rfl,by decide +kernel,rfl,by decide +kernel,by decide +kernel⟩
theorem wc {f:Addr} {fd:FuncData} (B:Bt mg)  (F:Fun K "weight" "Order.weight" yd f fd)  : yo P w K mg base CX0 1 f fd ["self", "word"] je:=by
 refine F.ok ux (fun vs H Q E h=>?_) (fun cdv A outer s H vs Q E hr h=>?_)
 ·obtain ⟨o,w,rfl,_⟩:=h
  rfl
 ·obtain ⟨o,w,rfl,hw,q⟩:=h
  refine ⟨_,(zf (zu (zp yg rfl B.len PySem.boot_len (za (pv 1) zc)))),?_⟩
  have s16:=yl
  rfl'
  exact ⟨by omega,q⟩
def ZB:Sp:=fun vs H Q _=>∃ (o:Addr) (w:List Nat),vs = [.ref o,.str (tx w)] /\ Q (.str (tx w)) H
theorem qP:zq ["self", "word"] ["self", "word"] (zb yw):=⟨rfl,rfl,rfl,by decide +kernel,rfl,by decide +kernel,by decide +kernel⟩
theorem wZ {f:Addr} {fd:FuncData} (B:Bt mg)  (F:Fun K "seen" "Order.seen" yw f fd)  : yo P w K mg base CX0 1 f fd ["self", "word"] ZB:=by
 refine F.ok qP (fun vs H Q E h=>?_) (fun cdv A outer s H vs Q E hr h=>?_)
 ·obtain ⟨o,w,rfl,_⟩:=h
  rfl
 ·obtain ⟨o,w,rfl,q⟩:=h
  refine ⟨_,(zf (zu (pv 1))),?_⟩
  have s16:=yl
  rfl'
  exact q
def kD:Sp:=fun vs H Q _=>∃ (o:Addr) (w:List Nat),vs = [.ref o,.str (tx w)] /\ w.length <= 1000 /\ Q (.str (tx w.reverse)) H
theorem vq:zq ["self", "word"] ["self", "word"] (zb zS):=⟨rfl,rfl,rfl,by decide +kernel,rfl,by decide +kernel,by decide +kernel⟩
theorem vE {f:Addr} {fd:FuncData} (B:Bt mg)  (F:Fun K "seen" "FromRight.seen" zS f fd)  : yo P w K mg base CX0 1 f fd ["self", "word"] kD:=by
 refine F.ok vq (fun vs H Q E h=>?_) (fun cdv A outer s H vs Q E hr h=>?_)
 ·obtain ⟨o,w,rfl,_⟩:=h
  rfl
 ·obtain ⟨o,w,rfl,hw,q⟩:=h
  refine ⟨_,(zf (zu (VO (pv 1) (Jd Qd zg)))),?_⟩
  have s16:=yl
  repeat (first | rfl' | simp only [yF,zy,zM,yG,yJ,zv])
  exact ⟨by omega,q⟩
structure JM (K:PySem.W.Frag) (mg:Str -> Option Value) (C:Addr):Prop where
 xi:XI K C
 ini:PySem.W.findIn K (.ref C) "__init__" = some (some (.builtin "ValueError.__init__"))
 g:mg "NoOrder" = some (.ref C)
 most:∃ t,mg "MOST_WEIGHT" = some (.int 1000000 t)
abbrev DOI (P:Program) (w:World) (K:PySem.W.Frag) (mg:Str -> Option Value) (base:Heap) (CO:Addr):Prop:=DC P w K mg base CX0 3 CO "__init__" ["self", "letters"] (ub K)
def jh (K:PySem.W.Frag) (CW:Addr):Sp:=fun vs H Q _=>∃ (x dx a:Addr) (l:List Nat) (ns:List Int),vs = [.ref x,.str (tx l),.ref a] /\ uj l = true /\ SqL K H a (ns.map V.int) /\ ns.length = l.length /\ (∀ n ∈ ns,1 <= n /\ n <= 1000000) /\ H x = some (.ins CW dx []) /\
 ∀ w H',H w = none -> w ≠ x -> (∀ b o,b ≠ x -> H b = some o -> H' b = some o) -> H' w = some (.tup (ns.map V.int)) -> H' x = some (.ins CW dx [("letters",.str (tx l)),("weights",.ref w)]) -> Q .non H'
theorem sc_byweights_init:zq ["self", "letters", "weights", "weight"] ["self", "letters", "weights"] (zb zV):=⟨rfl,rfl,rfl,by decide +kernel,rfl,by decide +kernel,by decide +kernel⟩
theorem vt {f CO CR CW CN:Addr} {fd:FuncData} (B:Bt mg) (T:TOrd K mg CO CR CW) (TN:JM K mg CN) (DI:DOI P w K mg base CO) (F:Fun K "__init__" "ByWeights.__init__" zV f fd)  : yo P w K mg base (CXx P w) 4 f fd ["self", "letters", "weights"] (jh K CW):=by
 obtain ⟨t6,g6⟩:=TN.most
 refine Fun.okX F sc_byweights_init (fun vs H Q E h=>?_) (fun cdv A outer s H vs Q E hr hx h=>?_)
 ·obtain ⟨x,dx,a,l,ns,rfl,_⟩:=h
  rfl
 ·obtain ⟨x,dx,a,l,ns,rfl,hg,hS,hl,hb,hX,q⟩:=h
  refine ⟨_,(zh (xj (Uy DI hr rfl T.gO (za (pv 0) (za (pv 1) zc))))
   (zh (yh (zF Z2 (zp yg rfl B.len PySem.boot_len (za (pv 2) zc)) (zp yg rfl B.len PySem.boot_len (za (pv 1) zc)) (zI _))
    (zf (xC hx rfl TN.xi.toXC TN.ini rfl TN.g (za xX zc)))
    zE)
   (zh (yq PassesOwn.leaving rfl (yZ (pv 2)) (zr (i:=3) sc_byweights_init.nd rfl (Or.inl rfl))
    (zf (yh (yH (qB vN vN zg (pv 3) (uI (v:=.int 1000000) rfl g6 ⟨t6,rfl⟩)))
     (zf (xC hx rfl TN.xi.toXC TN.ini rfl TN.g (za xX zc)))
     zE)))
   (zf (kP (pv 0) (wj ji rfl B.tuple PySem.Pv.boot_tuple (za (pv 2) zc)) rfl))))),?_⟩
  have s16:=yl
  have hbx:∀ b o,b ≠ x -> H b = some o -> upd H x (.ins CW dx [("letters",.str (tx l))]) b = some o:=fun b o hb e=>by rw [zo hb]; exact e
  have hS1:SqL K (upd H x (.ins CW dx [("letters",.str (tx l))])) a (ns.map V.int):=by
   rcases hS with (h | ⟨o,h⟩) | h
   ·exact .inl (.inl (hbx _ _ (fun e=>by rw [e,hX] at h; cases h) h))
   ·exact .inl (.inr ⟨o,hbx _ _ (fun e=>by rw [e,hX] at h; cases h) h⟩)
   ·exact .inr h
  refine zi (fun σ H'=>H' = upd H x (.ins CW dx [("letters",.str (tx l))]) /\ σ = [some (.ref x),some (.str (tx l)),some (.ref a),none]) ?_ ?_
  ·repeat (first | rfl' | simp only [yF,zy,zM,yG,yJ,zv])
   exact ⟨x,CW,dx,l,rfl,hg,T.cW,T.lW,hX,rfl⟩
  rintro σ H1 ⟨rfl,rfl⟩
  refine zi (fun σ H'=>H' = upd H x (.ins CW dx [("letters",.str (tx l))]) /\ σ = [some (.ref x),some (.str (tx l)),some (.ref a),none]) ?_ ?_
  ·have hl6:l.length <= 6:=by have:=of_decide_eq_true hg; omega
   repeat (first | rfl' | simp only [yF,zy,zM,yG,yJ,zv])
   refine ⟨ns.length,.inl ⟨_,hS1,by rw [List.length_map]⟩,by omega,yE (fun h=>absurd (by omega) h) fun _=>trivial⟩
  rintro σ H1 ⟨rfl,rfl⟩
  refine zi (fun σ H'=>H' = upd H x (.ins CW dx [("letters",.str (tx l))]) /\ ∃ v3,σ = [some (.ref x),some (.str (tx l)),some (.ref a),v3]) ?_ ?_
  ·repeat (first | rfl' | simp only [yF,zy,zM,yG,yJ,zv])
   refine ⟨⟨_,hS1⟩,ForL.by (xs:=ns.map V.int) (fun i σ H'=>H' = upd H x (.ins CW dx [("letters",.str (tx l))]) /\ ∃ v3,σ = [some (.ref x),some (.str (tx l)),some (.ref a),v3]) ⟨rfl,none,rfl⟩ (fun i σ H' _ h=>by rw [h.1]; exact hS1) ?_ fun σ H' h=>h⟩
   rintro i y σ H' hy ⟨rfl,v3,rfl⟩
   rw [List.getElem?_map] at hy
   obtain ⟨n,hn,rfl⟩:=Option.map_eq_some_iff.mp hy
   obtain ⟨n1,n2⟩:=hb n (List.mem_of_getElem? hn)
   repeat (first | rfl' | simp only [yF,zy,zM,yG,yJ,zv])
   exact yE (fun _=>yE (fun h=>absurd n2 h) fun _=>trivial) fun h=>absurd n1 h
  rintro σ H1 ⟨rfl,v3,rfl⟩
  repeat (first | rfl' | simp only [yF,zy,zM,yG,yJ,zv])
  refine ⟨_,.inl ⟨hS1,fun w hw=>?_⟩⟩
  have hwx:w ≠ x:=fun e=>by rw [e,ze] at hw; cases hw
  have hwH:H w = none:=by rw [zo hwx] at hw; exact hw
  have hX2:=zd (o:=.tup (ns.map V.int)) hw _ _ (ze (H:=H) (a:=x) (o:=.ins CW dx [("letters",.str (tx l))]))
  refine ⟨_,_,_,hX2,T.cW,T.wW,by show 1 < 1000; decide,q w _ hwH hwx (fun b o hb' e=>?_) ?_ ze⟩
  ·rw [zo hb']
   exact zd hw _ _ (hbx b o hb' e)
  ·rw [zo hwx]
   exact ze
theorem UL {x y:V} {r:L2.St}:xf (none :: none :: r) (some x :: some y :: r):=⟨rfl,fun i v h=>by
 cases i with
 | zero=>cases h
 | succ i =>
  cases i with
  | zero=>cases h
  | succ i=>exact h⟩
def ke (CW:Addr):Sp:=fun vs H Q _=>∃ (o dx t:Addr) (w l:List Nat) (ns:List Int),vs = [.ref o,.str (tx w)] /\ w.length <= 1000 /\ l.length <= 6 /\ ns.length = l.length /\ (∀ n ∈ ns,1 <= n /\ n <= 1000000) /\ H o = some (.ins CW dx [("letters",.str (tx l)),("weights",.ref t)]) /\ H t = some (.tup (ns.map V.int)) /\ ∀ H',Same H H' -> Q (.int (Wd l ns w)) H'
theorem wP:zq ["self", "word"] ["self", "word"] (zb zJ):=⟨rfl,rfl,rfl,by decide +kernel,rfl,by decide +kernel,by decide +kernel⟩
theorem wU {f CO CR CW:Addr} {fd:FuncData} (B:Bt mg) (T:TOrd K mg CO CR CW) (F:Fun K "weight" "ByWeights.weight" zJ f fd)  : yo P w K mg base CX0 1 f fd ["self", "word"] (ke CW):=by
 refine F.ok wP (fun vs H Q E h=>?_) (fun cdv A outer s H vs Q E hr h=>?_)
 ·obtain ⟨o,dx,t,w,l,ns,rfl,_⟩:=h
  rfl
 ·obtain ⟨o,dx,t,w,l,ns,rfl,hw,hl,hn,hb,ho,ht,q⟩:=h
  refine ⟨_,(zf (zu (zp (QG rfl) rfl B.sum PyProof.Rows.boot_sum (za (vm (g:=XM K 2 (yY (yt 0) (yY (yt 1) Xh))) (own:=["letter", "weight"]) (caps:=["word"]) (ix:=[1]) (tt:=qF) (te:=(tOp Ur (tBM K "str" XQ (wG 2) (yL (wG 0) qf)) (wG 1))) rfl (yB (sc:=zb zJ) rfl (by decide +kernel) (by decide +kernel) (by decide +kernel) rfl (by decide +kernel) (by decide +kernel) rfl) (U4 rfl B.zip (za (Zg (pv 0) rfl) (za (Zg (pv 0) rfl) zc))) (fun _ _ _ _ _ _=>xD (n:=2) rfl (zB (zr (i:=0) (show List.Nodup [_,_,_] by decide) rfl (Or.inl rfl)) (zB (zr (i:=1) (show List.Nodup [_,_,_] by decide) rfl (Or.inl rfl)) yK))) (fun _ _ _ _ _ _=>wT) (fun _ _ _ _ _ _=>(zw xh (wY PySem.F.plainAttrs_str PySem.F.slot_str_count PySem.F.type_str_count X7 (pv 2) (za (pv 0) zc)) (pv 1)))) zc)))),?_⟩
  have s16:=yl
  repeat (first | rfl' | simp only [yF,zy,zM,yG,yJ,zv])
  refine ⟨_,_,_,ho,T.cW,T.lW,_,rfl,_,_,_,ho,T.cW,T.wW,_,rfl,l,rfl,t,rfl,⟨_,SqT.of ht⟩,fun D hD=>CompZ.by (ys:=ns.map V.int) (fun i acc H'=>Same H H' /\ H' D = some (.lst acc) /\ acc = ((((l.zip ns).map fun p=>(w.count p.1:Int) * p.2).take i).map V.int)) (by rw [List.length_map]; omega) ⟨zd hD,ze,rfl⟩ (fun i acc H' _ h=>SqT.of (h.1 _ _ ht)) ?_ ?_⟩
  ·rintro i c y acc H' p hc hy ⟨hs,hH,rfl⟩ hp
   have hi:=(List.getElem?_eq_some_iff.mp hc).1
   rw [List.getElem?_map] at hy
   obtain ⟨n,hn',rfl⟩:=Option.map_eq_some_iff.mp hy
   have hz:((l.zip ns).map fun p=>(w.count p.1:Int) * p.2)[i]? = some ((w.count c:Int) * n):=by
    rw [List.getElem?_map,(List.getElem?_zip_eq_some (z:=(c,n))).mpr ⟨hc,hn'⟩]
    rfl
   obtain ⟨n1,n2⟩:=hb n (List.mem_of_getElem? hn')
   have hcl:w.count c <= w.length:=List.count_le_length
   have hcn:(w.count c:Int) * n = (w.count c:Int) * n:=rfl
   simp only [qF]
   repeat (first | rfl' | simp only [yF,zy,zM,yG,yJ,zv])
   refine ⟨_,SqT.of ze,rfl,_,_,rfl,_,_,rfl,rfl,UL,_,rfl,_,rfl,?_,zd hp _ _ hH,by rw [List.length_map,List.length_take]; omega,?_⟩
   ·exact .inr ⟨by omega,by omega⟩
   ·rw [XA]
    refine CNx.mk hi ⟨zK (hs.trans (zd hp)) hD,ze,?_⟩
    rw [yb hz,List.map_append]
    rfl
  ·rintro acc H' ⟨hs,hH,rfl⟩
   have e:l.length = ((l.zip ns).map fun p=>(w.count p.1:Int) * p.2).length:=by rw [List.length_map,List.length_zip]; omega
   refine ⟨D,rfl,_,SqL.of hH,?_⟩
   rw [e,List.take_length]
   exact q _ hs
theorem Q3 (l:List Nat) (c e:Nat):StrLaws.At (tx l) (tx [c]) (tx l).length e ↔ l[e]? = some c:=by
 unfold StrLaws.At Builtin.Str.subAt
 rw [zO,zO]
 have h1:[c].length = 1:=rfl
 rw [h1,beq_iff_eq]
 have e1:((tx l).cps.extract e (e + 1)).toList = (l.drop e).take 1:=by
  show (l.toArray.extract e (e + 1)).toList = _
  simp [List.extract_eq_drop_take]
 have e2:((tx l).cps.extract e (e + 1) = (tx [c]).cps) ↔ (l.drop e).take 1 = [c]:=by
  constructor
  ·intro h
   rw [<- e1,h]
  ·intro h
   apply Array.toList_inj.mp
   rw [e1,h]
 constructor
 ·rintro ⟨h2,h3⟩
  have:=e2.mp h3
  rw [List.drop_eq_getElem_cons (by omega),List.take_succ_cons,List.take_zero] at this
  rw [List.getElem?_eq_getElem (by omega)]
  injection this with h _
  rw [h]
 ·intro h
  obtain ⟨he,hx⟩:=List.getElem?_eq_some_iff.mp h
  refine ⟨by omega,e2.mpr ?_⟩
  rw [List.drop_eq_getElem_cons he,List.take_succ_cons,List.take_zero,hx]
theorem Vg {l:List Nat} {c:Nat} (h:c ∈ l):Txt.find (tx l) (tx [c]) = ((l.idxOf c:Nat):Int):=by
 have hlt:=List.idxOf_lt_length_of_mem h
 have hg:l[l.idxOf c]? = some c:=by rw [List.getElem?_eq_getElem hlt,List.getElem_idxOf]
 rcases PyProof.Rows.find_whole (tx l) (tx [c]) with ⟨h1,h2⟩ | ⟨e,h1,h2,h3⟩
 ·exact absurd ((Q3 l c _).mpr hg) (h2 _)
 ·have he:=(Q3 l c e).mp h2
  have:e = l.idxOf c:=by
   rcases Nat.lt_trichotomy e (l.idxOf c) with q | q | q
   ·have:=List.not_of_lt_findIdx (p:=(· == c)) q
    obtain ⟨h4,h5⟩:=List.getElem?_eq_some_iff.mp he
    simp [h5] at this
   ·exact q
   ·exact absurd ((Q3 l c _).mpr hg) (h3 _ q)
  rw [h1,this]
abbrev MkO (P:Program) (w:World) (K:PySem.W.Frag) (mg:Str -> Option Value) (base:Heap) (C:Addr):Prop:=DMk P w K mg base CX0 3 C ["self", "letters"] (ub K)
abbrev MkW (P:Program) (w:World) (K:PySem.W.Frag) (mg:Str -> Option Value) (base:Heap) (C:Addr):Prop:=DMk P w K mg base (CXx P w) 4 C ["self", "letters", "weights"] (jh K C)
abbrev MW (P:Program) (w:World) (K:PySem.W.Frag) (mg:Str -> Option Value) (base:Heap) (C:Addr) (m:Str) (sp:Sp):Prop:=DM P w K mg base CX0 1 C m ["self", "word"] sp
structure TWS (P:Program) (w:World) (K:PySem.W.Frag) (mg:Str -> Option Value) (base:Heap) (CO CR CW:Addr):Prop extends TOrd K mg CO CR CW where
 mO:MkO P w K mg base CO
 mR:MkO P w K mg base CR
 mW:MkW P w K mg base CW
 wO:MW P w K mg base CO "weight" je
 wR:MW P w K mg base CR "weight" je
 wW':MW P w K mg base CW "weight" (ke CW)
 sO:MW P w K mg base CO "seen" ZB
 sR:MW P w K mg base CR "seen" kD
 sW:MW P w K mg base CW "seen" ZB
structure OG (l:List Nat) (ns:List Int) (k:Nat):Prop where
 g:uj l = true
 k3:k < 3
 nl:ns.length = l.length
 nb:∀ n ∈ ns,1 <= n /\ n <= 1000000
def x0 (l:List Nat) (w:List Nat):List Int:=w.map fun c=>((l.idxOf c:Nat):Int)
def wS (k:Nat) (l:List Nat) (w:List Nat):List Int:=x0 l (xb k w)
def QW (CO CR CW:Addr):Addr -> Prop:=fun C=>C = CO \/ C = CR \/ C = CW
theorem OrdAt.fam {CO CR CW:Addr} {H:Hp} {o:Addr} {k:Nat} {l:List Nat} {ns:List Int} (h:OrdAt CO CR CW H o k l ns):∃ C dx fs,QW CO CR CW C /\ H o = some (.ins C dx fs) /\ (∀ m:Str,m ≠ "letters" -> m ≠ "weights" -> fs.lookup m = none) /\ fs.lookup ("letters" : Str) = some (V.str (tx l)):=by
 have e1:∀ m:Str,m ≠ "letters" -> (m == ("letters" : Str)) = false:=fun m hm=>by simpa using hm
 have e2:∀ m:Str,m ≠ "weights" -> (m == ("weights" : Str)) = false:=fun m hm=>by simpa using hm
 obtain ⟨dx,⟨h1,h2⟩ | ⟨h1,h2⟩ | ⟨h1,h2,w,h3,h4⟩⟩:=h
 ·exact ⟨_,_,_,.inl rfl,h2,fun m hm _=>by simp [List.lookup,e1 m hm],rfl⟩
 ·exact ⟨_,_,_,.inr (.inl rfl),h2,fun m hm _=>by simp [List.lookup,e1 m hm],rfl⟩
 ·exact ⟨_,_,_,.inr (.inr rfl),h3,fun m hm hm2=>by simp [List.lookup,e1 m hm,e2 m hm2],rfl⟩
def kh (CO CR CW:Addr):Sp:=fun vs H Q _=>∃ (o:Addr) (k:Nat) (l:List Nat) (ns:List Int) (w:List Nat),vs = [.ref o,.str (tx w)] /\ OrdAt CO CR CW H o k l ns /\ OG l ns k /\ w.length <= 1000 /\ (∀ c ∈ w,c ∈ l) /\ ∀ (p q:Addr) (H':Hp),Same H H' -> H' p = some (.tup [.int (zj k l ns w),.ref q]) -> H' q = some (.lst ((wS k l w).map V.int)) -> Q (.ref p) H'
theorem WZ {H:Hp} {CO CR CW o D:Addr} {k:Nat} {l:List Nat} {ns:List Int} {v:List Nat} {a1:Option V} {Q:VK} (T:TOrd K mg CO CR CW) (ho:OrdAt CO CR CW H o k l ns) (hl:v.length <= 1000) (hm:∀ c ∈ v,c ∈ l) (hD:H D = none) (q:∀ H',Same H H' -> H' D = some (.lst ((x0 l v).map V.int)) -> Q (.ref D) H') :
  CompS (tx v) (yt 0) qF (tBM K "str" zv (UQ K (wG 1) "letters") (yL (wG 0) qf)) 1 [0] [some (.ref o),a1] H Q D:=by
 have s16:=yl
 refine CompS.by (fun i acc H'=>Same H H' /\ H' D = some (.lst acc) /\ acc = (x0 l (v.take i)).map V.int) ⟨zd hD,ze,rfl⟩ ?_ ?_
 ·rintro i c acc H' hc ⟨hs,hH,rfl⟩
  have hci:=(List.getElem?_eq_some_iff.mp hc).1
  have hcl:=hm c (List.mem_of_getElem? hc)
  obtain ⟨C,dx,fs,hf,ho',_,hlk⟩:=(ho.same hs).fam
  have hC:Cls K C /\ NoAttr K C "letters":=by
   rcases hf with rfl | rfl | rfl
   ·exact ⟨T.cO,T.lO⟩
   ·exact ⟨T.cR,T.lR⟩
   ·exact ⟨T.cW,T.lW⟩
  simp only [qF]
  repeat (first | rfl' | simp only [yF,zy,zM,yG,yJ,zv])
  refine ⟨qw,_,_,_,ho',hC.1,hC.2,_,hlk,trivial,_,rfl,_,Vg hcl,hH,by rw [List.length_map]; unfold x0; rw [List.length_map,List.length_take]; omega,CNx.mk hci ⟨zK hs hD,ze,?_⟩⟩
  unfold x0
  rw [yb hc,List.map_append,List.map_append]
  rfl
 ·rintro acc H' ⟨hs,hH,rfl⟩
  rw [List.take_length] at hH
  exact q H' hs hH
theorem qI:zq ["self", "word"] ["self", "word"] (zb yj):=⟨rfl,rfl,rfl,by decide +kernel,rfl,by decide +kernel,by decide +kernel⟩
theorem xV {f CO CR CW:Addr} {fd:FuncData} (B:Bt mg) (T:TWS P w K mg base CO CR CW) (F:Fun K "rank" "Order.rank" yj f fd)  : yo P w K mg base CX0 2 f fd ["self", "word"] (kh CO CR CW):=by
 refine F.ok qI (fun vs H Q E h=>?_) (fun cdv A outer s H vs Q E hr h=>?_)
 ·obtain ⟨o,k,l,ns,w,rfl,_⟩:=h
  rfl
 ·obtain ⟨o,k,l,ns,w,rfl,ho,hG,hw,hm,q⟩:=h
  refine ⟨_,(zf (zu (yr (za (Qb T.wO T.wR T.wW' T.cO T.cR T.cW hr (pv 0) (za (pv 1) zc)) (za (vm (own:=["letter"]) (caps:=["self"]) (ix:=[0]) (tt:=qF) (te:=(tBM K "str" zv (UQ K (wG 1) "letters") (yL (wG 0) qf))) rfl (yB (sc:=zb yj) rfl (by decide +kernel) (by decide +kernel) (by decide +kernel) rfl (by decide +kernel) (by decide +kernel) rfl) (X5 (Qb T.sO T.sR T.sW T.cO T.cR T.cW hr (pv 0) (za (pv 1) zc))) (fun _ _ _ _ _ _=>zr (i:=0) (show List.Nodup [_,_] by decide) rfl (Or.inl rfl)) (fun _ _ _ _ _ _=>wT) (fun _ _ _ _ _ _=>(wY PySem.F.plainAttrs_str PySem.F.slot_str_index PySem.F.type_str_index VF (Zg (pv 1) rfl) (za (pv 0) zc)))) zc))))),?_⟩
  have s16:=yl
  have hsl:(xb k w).length <= 1000:=by
   unfold xb
   split
   ·rw [List.length_reverse]
    exact hw
   ·exact hw
  have hsm:∀ c ∈ xb k w,c ∈ l:=fun c hc=>by
   unfold xb at hc
   split at hc
   ·exact hm c (List.mem_reverse.mp hc)
   ·exact hm c hc
  have l6:l.length <= 6:=(of_decide_eq_true hG.g).2.1
  have fin:∀ H1,Same H H1 -> ∀ D,H1 D = none -> CompS (tx (xb k w)) (yt 0) qF (tBM K "str" zv (UQ K (wG 1) "letters") (yL (wG 0) qf)) 1 [0] [some (.ref o),some (.str (tx w))] H1 (fun x5 H1=>2 <= sizeLine /\ ∀ p,H1 p = none -> Q (.ref p) (upd H1 p (.tup [.int (zj k l ns w),x5]))) D:=fun H1 s1 D hD=>WZ T.toTOrd (ho.same s1) hsl hsm hD fun H' s' hH=>⟨by omega,fun p hp=>q p D _ (s1.trans (s'.trans (zd hp))) ze (zd hp _ _ hH)⟩
  repeat (first | rfl' | simp only [yF,zy,zM,yG,yJ,zv])
  obtain ⟨dx',⟨h1,h2⟩ | ⟨h1,h2⟩ | ⟨h1,h2,t',h3,h4⟩⟩:=id ho
  ·have e1:zj k l ns w = (w.length:Int):=by unfold zj; rw [if_neg (by omega)]
   have e2:xb k w = w:=by unfold xb; rw [if_neg (by omega)]
   rw [e1,e2] at fin
   exact .inl ⟨_,_,h2,rfl,o,w,rfl,hw,.inl ⟨_,_,h2,rfl,o,w,rfl,_,rfl,fin H (Same.refl _)⟩⟩
  ·have e1:zj k l ns w = (w.length:Int):=by unfold zj; rw [if_neg (by omega)]
   have e2:xb k w = w.reverse:=by unfold xb; rw [if_pos h1]
   rw [e1,e2] at fin
   exact .inr (.inl ⟨_,_,h2,rfl,o,w,rfl,hw,.inr (.inl ⟨_,_,h2,rfl,o,w,rfl,hw,_,rfl,fin H (Same.refl _)⟩)⟩)
  ·have e1:zj k l ns w = Wd l ns w:=by unfold zj; rw [if_pos h1]
   have e2:xb k w = w:=by unfold xb; rw [if_neg (by omega)]
   rw [e1,e2] at fin
   exact .inr (.inr ⟨_,_,h3,rfl,o,dx',t',w,l,ns,rfl,hw,l6,hG.nl,hG.nb,h3,h4,fun H' s'=>.inr (.inr ⟨_,_,s' _ _ h3,rfl,o,w,rfl,_,rfl,fin H' s'⟩)⟩)
def zN (k:Nat) (l:List Nat) (ns:List Int) (u v:List Nat):Bool:=if zj k l ns u = zj k l ns v then ltI (wS k l u) (wS k l v) else decide (zj k l ns u < zj k l ns v)
abbrev DR (P:Program) (w:World) (K:PySem.W.Frag) (mg:Str -> Option Value) (base:Heap) (CO CR CW:Addr):Prop:=DMF P w K mg base CX0 2 (QW CO CR CW) "rank" ["self", "word"] (fun _=>kh CO CR CW)
theorem qH {H:Hp} {p q:Addr} {z:Int} {ns:List Int} (hp:H p = some (.tup [.int z,.ref q])) (hq:H q = some (.lst (ns.map V.int))):Is K H (.tup [.int z,.lst (ns.map L3.D.int)]) (.ref p):=by
 simp only [Is,Iss]
 exact ⟨p,_,rfl,SqT.of hp,_,_,rfl,rfl,_,_,rfl,⟨q,_,rfl,SqL.of hq,Iss.ints ns⟩,rfl⟩
theorem wv:∀ x:List Int,ltI x x = false
 | []=>rfl
 | a :: x=>by
  rw [ltI,if_pos rfl]
  exact wv x
theorem YC (a b:Int) (x y:List Int):ltD (.tup [.int a,.lst (x.map L3.D.int)]) (.tup [.int b,.lst (y.map L3.D.int)]) = if a = b then ltI x y else decide (a < b):=by
 simp only [ltD,Zl,eqD,Wb,jz]
 by_cases h:a = b
 ·subst h
  by_cases h2:x = y
  ·subst h2
   simp [wv]
  ·simp [h2]
 ·simp [h]
def Xc (CO CR CW:Addr):Sp:=fun vs H Q _=>∃ (o:Addr) (k:Nat) (l:List Nat) (ns:List Int) (u v:List Nat),vs = [.ref o,.str (tx u),.str (tx v)] /\ OrdAt CO CR CW H o k l ns /\ OG l ns k /\ u.length <= 1000 /\ v.length <= 1000 /\ (∀ c ∈ u,c ∈ l) /\ (∀ c ∈ v,c ∈ l) /\ ∀ H':Hp,Same H H' -> Q (.bl (zN k l ns u v)) H'
theorem uH:zq ["self", "one", "other"] ["self", "one", "other"] (zb ye):=⟨rfl,rfl,rfl,by decide +kernel,rfl,by decide +kernel,by decide +kernel⟩
theorem y8 {f CO CR CW:Addr} {fd:FuncData} (B:Bt mg) (DRk:DR P w K mg base CO CR CW) (F:Fun K "before" "Order.before" ye f fd)  : yo P w K mg base CX0 3 f fd ["self", "one", "other"] (Xc CO CR CW):=by
 refine F.ok uH (fun vs H Q E h=>?_) (fun cdv A outer s H vs Q E hr h=>?_)
 ·obtain ⟨o,k,l,ns,u,v,rfl,_⟩:=h
  rfl
 ·obtain ⟨o,k,l,ns,u,v,rfl,ho,hG,hu,hv,hmu,hmv,q⟩:=h
  refine ⟨_,(zf (zu (xW (YA (xN hr)) (Q5 DRk hr (pv 0) (za (pv 1) zc)) (Q5 DRk hr (pv 0) (za (pv 2) zc)) (zI _)))),?_⟩
  have s16:=yl
  repeat (first | rfl' | simp only [yF,zy,zM,yG,yJ,zv])
  obtain ⟨C,dx,fs,hf,ho1,hn,_⟩:=ho.fam
  have h1:fs.lookup ("rank" : Str) = none:=hn _ (by decide) (by decide)
  refine ⟨C,hf,dx,fs,ho1,h1,o,k,l,ns,u,rfl,ho,hG,hu,hmu,fun p x H1 s1 hp hx=>⟨C,hf,dx,fs,s1 _ _ ho1,h1,o,k,l,ns,v,rfl,ho.same s1,hG,hv,hmv,fun p' x' H2 s2 hp' hx'=>?_⟩⟩
  refine YW (qH (s2 _ _ hp) (s2 _ _ hx)) (qH hp' hx') (by simp only [dpD,uD,Ym]; decide) (by simp only [okD,Z5]; exact ⟨trivial,ul _ _,trivial⟩) ?_
  rw [YC]
  exact q H2 (s1.trans s2)
abbrev DB (P:Program) (w:World) (K:PySem.W.Frag) (mg:Str -> Option Value) (base:Heap) (CO CR CW:Addr):Prop:=DMF P w K mg base CX0 3 (QW CO CR CW) "before" ["self", "one", "other"] (fun _=>Xc CO CR CW)
def Vj (k:Int) (ls:List Nat) (ns:List Int) (w:List Nat):Int:=(w.map fun c=>if k = 2 then ns.getD (ls.idxOf c) 0 else 1).sum
theorem WI {k:Int} {ls:List Nat} {ns:List Int} {w:List Nat} (h:k ≠ 2):Vj k ls ns w = (w.length:Int):=by
 unfold Vj
 induction w with
 | nil=>rfl
 | cons c w ih =>
  rw [List.map_cons,List.sum_cons,ih,if_neg h,List.length_cons]
  omega
theorem uF {ls:List Nat} {ns:List Int} (f g:Nat -> Int):((ls.zip ns).map fun p=>(f p.1 + g p.1) * p.2).sum = ((ls.zip ns).map fun p=>f p.1 * p.2).sum + ((ls.zip ns).map fun p=>g p.1 * p.2).sum:=by
 induction ls.zip ns with
 | nil=>rfl
 | cons p r ih =>
  rw [List.map_cons,List.map_cons,List.map_cons,List.sum_cons,List.sum_cons,List.sum_cons,ih,Int.add_mul]
  omega
theorem Xt:∀ {ls:List Nat} {ns:List Int} {c:Nat},ls.Nodup -> ns.length = ls.length -> c ∈ ls -> ((ls.zip ns).map fun p=>(if p.1 = c then (1:Int) else 0) * p.2).sum = ns.getD (ls.idxOf c) 0
 | [],ns,c,_,_,hc=>(nomatch hc)
 | d :: ls,[],c,_,hl,_=>by cases hl
 | d :: ls,n :: ns,c,hn,hl,hc=>by
  rw [List.zip_cons_cons,List.map_cons,List.sum_cons]
  have hnd:=List.nodup_cons.mp hn
  by_cases h:d = c
  ·subst h
   have h0:∀ (l:List Nat) (m:List Int),d ∉ l -> ((l.zip m).map fun p=>(if p.1 = d then (1:Int) else 0) * p.2).sum = 0:=by
    intro l
    induction l with
    | nil=>intro m _; rfl
    | cons x l ih =>
     intro m hx
     cases m with
     | nil=>rfl
     | cons y m =>
      rw [List.zip_cons_cons,List.map_cons,List.sum_cons,ih m (fun q=>hx (List.mem_cons_of_mem _ q)),if_neg (show ¬ x = d from fun e=>hx (by rw [e]; exact List.mem_cons_self))]
      omega
   rw [h0 ls ns hnd.1,if_pos rfl,List.idxOf_cons_self]
   simp
  ·have hc':c ∈ ls:=by
    rcases List.mem_cons.mp hc with e | e
    ·exact absurd e.symm h
    ·exact e
   rw [Xt hnd.2 (by simpa using hl) hc',if_neg h,List.idxOf_cons,show (d == c) = false by simpa using h]
   simp
theorem qO {ls:List Nat} {ns:List Int} (hn:ls.Nodup) (hl:ns.length = ls.length):∀ {w:List Nat},(∀ x ∈ w,x ∈ ls) -> Vj 2 ls ns w = Wd ls ns w
 | [],_=>by
  have h0:∀ r:List (Nat × Int),(r.map fun p=>((([]:List Nat).count p.1:Nat):Int) * p.2).sum = 0:=by
   intro r
   induction r with
   | nil=>rfl
   | cons p r ih=>rw [List.map_cons,List.sum_cons,ih]; simp
  exact (h0 _).symm
 | c :: w,h=>by
  have ih:=qO hn hl (w:=w) fun x hx=>h x (List.mem_cons_of_mem _ hx)
  have e1:Vj 2 ls ns (c :: w) = ns.getD (ls.idxOf c) 0 + Vj 2 ls ns w:=by
   unfold Vj
   rw [List.map_cons,List.sum_cons,if_pos rfl]
  rw [e1,ih,<- Xt hn hl (h c List.mem_cons_self)]
  unfold Wd
  rw [<- uF (fun x=>if x = c then 1 else 0) (fun x=>(w.count x:Int))]
  refine congrArg List.sum (List.map_congr_left fun p _=>?_)
  rw [List.count_cons]
  by_cases e:c = p.1
  ·rw [if_pos e.symm,if_pos (by simpa using e)]
   simp [Int.add_comm]
  ·rw [if_neg (fun z=>e z.symm),if_neg (by simpa using e)]
   simp
def wt (k:Nat) (ns:List Int) (i:Int):Int:=if k = 2 then ns.getD i.toNat 0 else 1
theorem xx {g:Int -> Int}:∀ {x:List Int},(∀ i ∈ x,0 < g i) -> 0 <= (x.map g).sum
 | [],_=>by simp
 | a :: x,h=>by
  have h1:=h a List.mem_cons_self
  have h2:=xx (x:=x) fun i hi=>h i (List.mem_cons_of_mem _ hi)
  rw [List.map_cons,List.sum_cons]
  omega
theorem jG:∀ {x y z:List Int},ltI x y = true -> ltI y z = true -> ltI x z = true
 | [],[],_,h,_=>by cases h
 | [],_ :: _,[],_,h=>by cases h
 | [],_ :: _,_ :: _,_,_=>rfl
 | _ :: _,[],_,h,_=>by cases h
 | _ :: _,_ :: _,[],_,h=>by cases h
 | a :: x,b :: y,c :: z,h1,h2=>by
  rw [ltI] at h1 h2 ⊢
  by_cases e:a = b
  ·subst e
   rw [if_pos rfl] at h1
   by_cases f:a = c
   ·rw [if_pos f] at h2 ⊢
    exact jG h1 h2
   ·rw [if_neg f] at h2 ⊢
    exact h2
  ·rw [if_neg e] at h1
   have h1':=of_decide_eq_true h1
   by_cases f:b = c
   ·subst f
    rw [if_neg e]
    exact h1
   ·rw [if_neg f] at h2
    have h2':=of_decide_eq_true h2
    rw [if_neg (by omega)]
    exact decide_eq_true (by omega)
theorem ku:∀ (c x y:List Int),ltI (c ++ x) (c ++ y) = ltI x y
 | [],_,_=>rfl
 | a :: c,x,y=>by
  rw [List.cons_append,List.cons_append,ltI,if_pos rfl]
  exact ku c x y
theorem kY {g:Int -> Int} {c:List Int}:∀ {x y:List Int},(∀ i ∈ x,0 < g i) -> (∀ i ∈ y,0 < g i) -> (x.map g).sum = (y.map g).sum -> ltI (x ++ c) (y ++ c) = ltI x y
 | [],[],_,_,_=>wv c
 | [],b :: y,_,hy,h=>by
  have h1:=hy b List.mem_cons_self
  have h2:=xx (x:=y) fun i hi=>hy i (List.mem_cons_of_mem _ hi)
  rw [List.map_cons,List.sum_cons,List.map_nil,List.sum_nil] at h
  omega
 | a :: x,[],hx,_,h=>by
  have h1:=hx a List.mem_cons_self
  have h2:=xx (x:=x) fun i hi=>hx i (List.mem_cons_of_mem _ hi)
  rw [List.map_cons,List.sum_cons,List.map_nil,List.sum_nil] at h
  omega
 | a :: x,b :: y,hx,hy,h=>by
  rw [List.cons_append,List.cons_append,ltI,ltI]
  by_cases e:a = b
  ·rw [if_pos e,if_pos e]
   rw [List.map_cons,List.sum_cons,List.map_cons,List.sum_cons,e] at h
   exact kY (fun i hi=>hx i (List.mem_cons_of_mem _ hi)) (fun i hi=>hy i (List.mem_cons_of_mem _ hi)) (by omega)
  ·rw [if_neg e,if_neg e]
section
variable {k:Nat} {l:List Nat} {ns:List Int} {t u v:List Nat}
theorem WP (a b:List Nat):Wd l ns (a ++ b) = Wd l ns a + Wd l ns b:=by
 unfold Wd
 rw [<- uF (fun x=>(a.count x:Int)) (fun x=>(b.count x:Int))]
 refine congrArg List.sum (List.map_congr_left fun p _=>?_)
 rw [List.count_append]
 simp
theorem yW (a b:List Nat):zj k l ns (a ++ b) = zj k l ns a + zj k l ns b:=by
 unfold zj
 by_cases h:k = 2
 ·rw [if_pos h,if_pos h,if_pos h,WP]
 ·rw [if_neg h,if_neg h,if_neg h,List.length_append]
  omega
theorem yM (G:OG l ns k):∀ {w:List Nat},(∀ c ∈ w,c ∈ l) -> zj k l ns w = ((x0 l w).map (wt k ns)).sum:=by
 intro w hm
 have hn:l.Nodup:=(of_decide_eq_true G.g).2.2.2
 have e:((x0 l w).map (wt k ns)).sum = Vj (k:Int) l ns w:=by
  unfold x0 Vj
  rw [List.map_map]
  refine congrArg List.sum (List.map_congr_left fun c _=>?_)
  show wt k ns _ = _
  unfold wt
  by_cases h:k = 2
  ·rw [if_pos h,if_pos (by omega),Int.toNat_natCast]
  ·rw [if_neg h,if_neg (by omega)]
 rw [e]
 unfold zj
 by_cases h:k = 2
 ·rw [if_pos h,h]
  exact (qO hn G.nl hm).symm
 ·rw [if_neg h,WI (by omega)]
theorem j7 (G:OG l ns k) (hm:∀ c ∈ u,c ∈ l):∀ i ∈ x0 l u,0 < wt k ns i:=by
 intro i hi
 obtain ⟨c,hc,rfl⟩:=List.mem_map.mp hi
 have hlt:=List.idxOf_lt_length_of_mem (hm c hc)
 have hl:=G.nl
 unfold wt
 split
 ·rw [Int.toNat_natCast,List.getD_eq_getElem?_getD,List.getElem?_eq_getElem (by omega)]
  have:=(G.nb _ (List.getElem_mem (l:=ns) (n:=l.idxOf c) (by omega))).1
  show 0 < ns[l.idxOf c]
  omega
 ·decide
theorem w8 (G:OG l ns k) (hm:∀ c ∈ u,c ∈ l):0 <= zj k l ns u:=by
 rw [yM G hm]
 exact xx (j7 G hm)
theorem u0 (G:OG l ns k) (hm:∀ c ∈ u,c ∈ l) (h:u ≠ []):0 < zj k l ns u:=by
 cases u with
 | nil=>exact absurd rfl h
 | cons a u =>
  have h1:=j7 G hm (l.idxOf a:Nat) (List.mem_map.mpr ⟨a,List.mem_cons_self,rfl⟩)
  have h2:0 <= ((x0 l u).map (wt k ns)).sum:=xx (j7 (u:=u) G fun c hc=>hm c (List.mem_cons_of_mem _ hc))
  rw [yM G hm]
  show 0 < ((((l.idxOf a:Nat):Int) :: x0 l u).map (wt k ns)).sum
  rw [List.map_cons,List.sum_cons]
  omega
theorem vM:zN k l ns u u = false:=by
 unfold zN
 rw [if_pos rfl,wv]
theorem uy (h1:zN k l ns t u = true) (h2:zN k l ns u v = true):zN k l ns t v = true:=by
 unfold zN at h1 h2 ⊢
 generalize zj k l ns t = a at *
 generalize zj k l ns u = b at *
 generalize zj k l ns v = c at *
 by_cases e:a = b
 ·subst e
  rw [if_pos rfl] at h1
  by_cases f:a = c
  ·rw [if_pos f] at h2 ⊢
   exact jG h1 h2
  ·rw [if_neg f] at h2 ⊢
   exact h2
 ·rw [if_neg e] at h1
  have h1':=of_decide_eq_true h1
  by_cases f:b = c
  ·subst f
   rw [if_neg e]
   exact h1
  ·rw [if_neg f] at h2
   have h2':=of_decide_eq_true h2
   rw [if_neg (by omega)]
   exact decide_eq_true (by omega)
theorem kN (a b:List Nat):x0 l (a ++ b) = x0 l a ++ x0 l b:=List.map_append
theorem j6 (G:OG l ns k) (hu:∀ c ∈ u,c ∈ l) (hv:∀ c ∈ v,c ∈ l) (e:zj k l ns u = zj k l ns v) (c:List Int):ltI (x0 l u ++ c) (x0 l v ++ c) = ltI (x0 l u) (x0 l v):=by
 rw [yM G hu,yM G hv] at e
 exact kY (j7 G hu) (j7 G hv) e
theorem u8 (G:OG l ns k) (hu:∀ c ∈ u,c ∈ l):zj k l ns u.reverse = zj k l ns u:=by
 rw [yM G hu,yM G fun c hc=>hu c (List.mem_reverse.mp hc)]
 unfold x0
 rw [List.map_reverse,List.map_reverse,List.sum_reverse]
theorem vd (G:OG l ns k) (ht:∀ c ∈ t,c ∈ l) (hu:∀ c ∈ u,c ∈ l) (hv:∀ c ∈ v,c ∈ l):zN k l ns (t ++ u) (t ++ v) = zN k l ns u v /\ zN k l ns (u ++ t) (v ++ t) = zN k l ns u v:=by
 have hur:∀ c ∈ u.reverse,c ∈ l:=fun c hc=>hu c (List.mem_reverse.mp hc)
 have hvr:∀ c ∈ v.reverse,c ∈ l:=fun c hc=>hv c (List.mem_reverse.mp hc)
 unfold zN
 rw [yW,yW,yW,yW]
 by_cases e:zj k l ns u = zj k l ns v
 ·rw [if_pos (by omega),if_pos e,if_pos (by omega)]
  unfold wS xb
  by_cases f:k = 1
  ·simp only [if_pos f,List.reverse_append,kN]
   exact ⟨j6 G hur hvr (by rw [u8 G hu,u8 G hv,e]) _,ku _ _ _⟩
  ·simp only [if_neg f,kN]
   exact ⟨ku _ _ _,j6 G hu hv e _⟩
 ·rw [if_neg (by omega),if_neg e,if_neg (by omega)]
  exact ⟨by congr 1; exact propext (by omega),by congr 1; exact propext (by omega)⟩
theorem Wq (G:OG l ns k) (ht:∀ c ∈ t,c ∈ l) (hu:∀ c ∈ u,c ∈ l) (hv:∀ c ∈ v,c ∈ l) (h:t ++ u ++ v ≠ u):zN k l ns u (t ++ u ++ v) = true /\ zN k l ns (t ++ u ++ v) u = false:=by
 have h0:0 < zj k l ns t + zj k l ns v:=by
  have h1:=w8 G ht
  have h2:=w8 G hv
  by_cases e:t = []
  ·by_cases f:v = []
   ·subst e f
    simp at h
   ·have:=u0 G hv f
    omega
  ·have:=u0 G ht e
   omega
 unfold zN
 rw [yW,yW,if_neg (by omega),if_neg (by omega)]
 exact ⟨decide_eq_true (by omega),decide_eq_false (by omega)⟩
end
structure TNT (K:PySem.W.Frag) (mg:Str -> Option Value) (C:Addr):Prop where
 xi:XI K C
 g:mg "NotTurned" = some (.ref C)
 na:NoAttr K C "number"
theorem vA:zq ["self", "number"] ["self", "number"] (zb zU):=⟨rfl,rfl,rfl,by decide +kernel,rfl,by decide +kernel,by decide +kernel⟩
theorem vp {f C:Addr} {fd:FuncData} (T:TNT K mg C) (F:Fun K "__init__" "NotTurned.__init__" zU f fd):yo P w K mg base CX0 1 f fd ["self", "number"] (va C "number"):=by
 refine F.ok vA (fun vs H Q E h=>?_) (fun cdv A outer s H vs Q E hr h=>?_)
 ·obtain ⟨x,v,rfl,_⟩:=h
  rfl
 ·obtain ⟨x,v,rfl,hx,q⟩:=h
  refine ⟨_,(zf (YI (pv 0) (pv 1) rfl)),?_⟩
  simp only [Uc]
  rfl'
  exact ⟨C,hx,T.xi.toXC,T.na,q⟩
structure DNT (P:Program) (w:World) (K:PySem.W.Frag) (mg:Str -> Option Value) (base:Heap) (C:Addr):Prop extends TNT K mg C where
 ini:∃ f fd,PySem.W.findIn K (.ref C) "__init__" = some (some (.ref f)) /\ PySem.W.isFn K (.ref f) = true /\ yo P w K mg base CX0 1 f fd ["self", "number"] (va C "number") /\ Binds K fd ["self", "number"] []
structure Uw (K:PySem.W.Frag) (mg:Str -> Option Value) (CH:Addr):Prop where
 cl:Cls K CH
 g:mg "System" = some (.ref CH)
 no:NoAttr K CH "order"
 nr:NoAttr K CH "rules"
def wn (k:Nat) (l:List Nat) (ns:List Int):List zx -> Nat -> Option Nat
 | [],_=>none
 | r :: rs,i=>if zN k l ns r.2 r.1 = true then wn k l ns rs (i + 1) else some i
theorem Zd {k:Nat} {l:List Nat} {ns:List Int}:∀ {ps:List zx} {j i:Nat} {r:zx},(∀ (m:Nat) (p:zx),m < i -> ps[m]? = some p -> zN k l ns p.2 p.1 = true) -> ps[i]? = some r -> zN k l ns r.2 r.1 = false -> wn k l ns ps j = some (j + i)
 | [],_,_,_,_,h,_=>by simp at h
 | p :: ps,j,0,r,_,h,hl=>by
  cases h
  rw [wn,hl,if_neg Bool.false_ne_true]
  rfl
 | p :: ps,j,i + 1,r,hb,h,hl=>by
  rw [wn,if_pos (hb 0 p (Nat.succ_pos _) rfl),Zd (i:=i) (fun m q hm e=>hb (m + 1) q (by omega) e) h hl]
  congr 1
  omega
theorem vG {k:Nat} {l:List Nat} {ns:List Int}:∀ {ps:List zx} {j:Nat},(∀ (m:Nat) (p:zx),ps[m]? = some p -> zN k l ns p.2 p.1 = true) -> wn k l ns ps j = none
 | [],_,_=>rfl
 | p :: ps,j,hb=>by
  rw [wn,if_pos (hb 0 p rfl)]
  exact vG fun m q e=>hb (m + 1) q e
def InL (l:List Nat) (ps:List zx):Prop:=∀ p ∈ ps,p.1.length <= 1000 /\ p.2.length <= 1000 /\ (∀ c ∈ p.1,c ∈ l) /\ ∀ c ∈ p.2,c ∈ l
def ud (K:PySem.W.Frag) (CO CR CW CT CH:Addr):Sp:=fun vs H Q E=>∃ (x dx o a:Addr) (k:Nat) (l:List Nat) (ns:List Int) (ps:List zx) (xs:List V),vs = [.ref x,.ref o,.ref a] /\ H x = some (.ins CH dx []) /\ OrdAt CO CR CW H o k l ns /\ OG l ns k /\ H a = some (.lst xs) /\ Iss K H (ps.map dR) xs /\ InL l ps /\
 (∀ i,wn k l ns ps 0 = some i -> ∀ H1,Same H H1 -> ∀ d H',Ji H1 d "number" (.int (i:Nat)) H' -> E (.ref CT) (some d) H') /\
 (wn k l ns ps 0 = none -> ∀ (q:Addr) (H':Hp),(∀ b o',b ≠ x -> H b = some o' -> H' b = some o') -> H' x = some (.ins CH dx [("order",.ref o),("rules",.ref q)]) -> H' q = some (.lst xs) -> H q = none -> Q .non H')
theorem sc_system_init:zq ["self", "order", "rules", "number", "rule"] ["self", "order", "rules"] (zb ym):=⟨rfl,rfl,rfl,by decide +kernel,rfl,by decide +kernel,by decide +kernel⟩
theorem uY {f CO CR CW CT CH:Addr} {fd:FuncData} (B:Bt mg) (T:DNT P w K mg base CT) (TS:Uw K mg CH) (DBk:DB P w K mg base CO CR CW) (F:Fun K "__init__" "System.__init__" ym f fd)  : yo P w K mg base (CXx P w) 5 f fd ["self", "order", "rules"] (ud K CO CR CW CT CH):=by
 obtain ⟨fi,fdi,hi,hfn,Fi,Bi⟩:=T.ini
 refine Fun.okX F sc_system_init (fun vs H Q E h=>?_) (fun cdv A outer s H vs Q E hr hx h=>?_)
 ·obtain ⟨x,dx,o,a,k,l,ns,ps,xs,rfl,_⟩:=h
  rfl
 ·obtain ⟨x,dx,o,a,k,l,ns,ps,xs,rfl,hx0,ho,hG,hA,hI,hP,q1,q2⟩:=h
  refine ⟨_,(zh (yq PassesOwn.leaving rfl (uc rfl B.enum (za (pv 2) zc)) (xD (n:=2) rfl (zB (zr (i:=3) sc_system_init.nd rfl (Or.inl rfl)) (zB (zr (i:=4) sc_system_init.nd rfl (Or.inl rfl)) yK)))
    (zf (yh (yH (wN (Q5 DBk hr (pv 1) (za (zC ix_tup (pv 4) zg (fun _ _=>rfl)) (za (zC ix_tup (pv 4) zg (fun _ _=>rfl)) zc))) (fun _=>rfl)))
     (zf (jM hx rfl T.xi.toXC hi hfn Fi (hr.mono (by decide)) Bi rfl T.g (za (pv 3) zc)))
     zE)))
   (zh (kP (pv 0) (pv 1) rfl)
   (zf (kP (pv 0) (wj xo rfl B.list PySem.Pv.boot_list (za (pv 2) zc)) rfl)))),?_⟩
  have s16:=yl
  refine zi (fun σ H'=>Same H H' /\ wn k l ns ps 0 = none /\ ∃ v3 v4,σ = [some (.ref x),some (.ref o),some (.ref a),v3,v4]) ?_ ?_
  ·repeat (first | rfl' | simp only [yF,zy,zM,yG,yJ,zv])
   refine ⟨⟨_,SqL.of hA⟩,ForEL.by (xs:=xs) (fun i σ H'=>Same H H' /\ (∀ (j:Nat) (p:zx),j < i -> ps[j]? = some p -> zN k l ns p.2 p.1 = true) /\ ∃ v3 v4,σ = [some (.ref x),some (.ref o),some (.ref a),v3,v4]) ⟨Same.refl _,fun j p h=>absurd h (Nat.not_lt_zero j),_,_,rfl⟩ ?_ ?_ ?_⟩
   ·rintro i σ H' _ ⟨hs,_⟩
    exact SqL.of (hs _ _ hA)
   ·rintro i y σ H' p hy ⟨hs,hb,v3,v4,rfl⟩ hpn
    obtain ⟨r,pr,hri,rfl,hqr⟩:=hI.getR hy
    have hm:=hP r (List.mem_of_getElem? hri)
    have s2:=hs.trans (zd (o:=.tup [.int (i:Nat),.ref pr]) hpn)
    have ho2:=ho.same s2
    have hq2:=zD s2 hqr
    obtain ⟨C,dy,fs,hf,hoC,hn,_⟩:=ho2.fam
    have hn1:fs.lookup ("before" : Str) = none:=hn _ (by decide) (by decide)
    repeat (first | rfl' | simp only [yF,zy,zM,yG,yJ,zv])
    refine ⟨_,SqT.of ze,rfl,_,_,rfl,_,_,rfl,rfl,C,hf,dy,fs,hoC,hn1,_,rfl,_,hq2,_,rfl,_,rfl,_,hq2,_,rfl,o,k,l,ns,r.2,r.1,rfl,ho2,hG,hm.2.1,hm.1,hm.2.2.2,hm.2.2.1,fun H3 s3=>?_⟩
    have s16:=yl
    refine ⟨_,rfl,yE (fun e=>⟨by omega,Yq (q1 i (by have:=Zd (j:=0) hb hri e; simpa using this) H3 (s2.trans s3))⟩) fun e=>⟨s2.trans s3,fun j p' hj hp'=>?_⟩⟩
    by_cases hj':j < i
    ·exact hb j p' hj' hp'
    ·have:j = i:=by omega
     rw [this,hri] at hp'
     cases hp'
     simpa using e
   ·rintro σ H' ⟨hs,hb,v3,v4,rfl⟩
    have hxl:=hI.len
    rw [List.length_map] at hxl
    exact ⟨hs,vG fun m p e=>hb m p (by have:=(List.getElem?_eq_some_iff.mp e).1; omega) e,v3,v4,rfl⟩
  rintro σ H1 ⟨s1,hf,v3,v4,rfl⟩
  refine zi (fun σ H'=>H' = upd H1 x (.ins CH dx [("order",.ref o)]) /\ σ = [some (.ref x),some (.ref o),some (.ref a),v3,v4]) ?_ ?_
  ·repeat (first | rfl' | simp only [yF,zy,zM,yG,yJ,zv])
   exact ⟨_,_,_,s1 _ _ hx0,TS.cl,TS.no,by decide,rfl⟩
  rintro σ H2 ⟨rfl,rfl⟩
  repeat (first | rfl' | simp only [yF,zy,zM,yG,yJ,zv])
  have hax:a ≠ x:=fun e=>by rw [e,hx0] at hA; cases hA
  refine ⟨xs,.inl (SqL.of (by rw [zo hax]; exact s1 _ _ hA)),fun q hq=>?_⟩
  have hqx:q ≠ x:=fun e=>by rw [e,ze] at hq; cases hq
  rw [zo hqx] at hq
  have hqH:H q = none:=by
   cases e:H q with
   | none=>rfl
   | some o'=>rw [s1 _ _ e] at hq; cases hq
  refine ⟨CH,dx,_,by rw [zo hqx.symm,ze],TS.cl,TS.nr,by show 1 < 1000; decide,q2 hf q _ (fun b o' hb e=>?_) ze (by rw [zo hqx,ze]) hqH⟩
  rw [zo hb,zo (fun z=>by rw [z,hqH] at e; cases e),zo hb]
  exact s1 _ _ e
def SysAt (K:PySem.W.Frag) (CH:Addr) (H:Hp) (y o q:Addr) (ps:List zx):Prop:=∃ dx xs,H y = some (.ins CH dx [("order",.ref o),("rules",.ref q)]) /\ H q = some (.lst xs) /\ Iss K H (ps.map dR) xs
theorem SysAt.same {K:PySem.W.Frag} {CH:Addr} {H H':Hp} {y o q:Addr} {ps:List zx} (h:SysAt K CH H y o q ps) (s:Same H H'):SysAt K CH H' y o q ps:=by
 obtain ⟨dx,xs,h1,h2,h3⟩:=h
 exact ⟨dx,xs,s _ _ h1,s _ _ h2,Iss.same s _ _ h3⟩
def stJ (l:List Nat) (ps:List zx) (q j:Nat):Bool:=((ps[j]?).map fun p=>zA l (q:Int) p.1).getD false
theorem wI {l:List Nat} {ps:List zx} {q j:Nat} {p:zx} (h:ps[j]? = some p):stJ l ps q j = zA l (q:Int) p.1:=by
 unfold stJ
 rw [h]
 rfl
theorem wo {l:List Nat} {ps:List zx} {q j:Nat} (h:stJ l ps q j = true):j < ps.length /\ ∃ p,ps[j]? = some p /\ zA l (q:Int) p.1 = true:=by
 unfold stJ at h
 cases e:ps[j]? with
 | none=>rw [e] at h; cases h
 | some p =>
  rw [e] at h
  exact ⟨(List.getElem?_eq_some_iff.mp e).1,p,rfl,h⟩
def vv (l:List Nat) (ps:List zx) (q i:Nat):List (Nat × Nat):=((List.range i).filter (stJ l ps q)).map fun j=>(j,q)
def xg (l:List Nat) (ps:List zx) (k:Nat):List (Nat × Nat):=(List.range k).flatMap fun q=>vv l ps q ps.length
theorem xy (l:List Nat) (ps:List zx) (q i:Nat):vv l ps q (i + 1) = vv l ps q i ++ (if stJ l ps q i = true then [(i,q)] else []):=by
 unfold vv
 rw [List.range_succ,List.filter_append,List.map_append]
 congr 1
 by_cases h:stJ l ps q i = true
 ·rw [if_pos h,List.filter_cons_of_pos h]
  rfl
 ·rw [if_neg h,List.filter_cons_of_neg h]
  rfl
theorem qk (l:List Nat) (ps:List zx) (k:Nat):xg l ps (k + 1) = xg l ps k ++ vv l ps k ps.length:=by
 unfold xg
 rw [List.range_succ,List.flatMap_append]
 simp
theorem YG (l:List Nat) (ps:List zx) (q i:Nat):(vv l ps q i).length <= i:=by
 unfold vv
 rw [List.length_map]
 have:=List.length_filter_le (stJ l ps q) (List.range i)
 rw [List.length_range] at this
 exact this
theorem XD (l:List Nat) (ps:List zx):∀ k,(xg l ps k).length <= k * ps.length
 | 0=>by simp [xg]
 | k + 1=>by
  rw [qk,List.length_append,Nat.succ_mul]
  have:=XD l ps k
  have:=YG l ps k ps.length
  omega
theorem usesN_mem {l:List Nat} {ps:List zx} {q i:Nat} {u:Nat × Nat}:u ∈ vv l ps q i ↔ u.2 = q /\ u.1 < i /\ stJ l ps q u.1 = true:=by
 unfold vv
 rw [List.mem_map]
 constructor
 ·rintro ⟨j,hj,rfl⟩
  rw [List.mem_filter,List.mem_range] at hj
  exact ⟨rfl,hj.1,hj.2⟩
 ·rintro ⟨h1,h2,h3⟩
  exact ⟨u.1,List.mem_filter.mpr ⟨List.mem_range.mpr h2,h3⟩,by rw [<- h1]⟩
theorem usesK_mem {l:List Nat} {ps:List zx} {k:Nat} {u:Nat × Nat}:u ∈ xg l ps k ↔ u.2 < k /\ stJ l ps u.2 u.1 = true:=by
 unfold xg
 rw [List.mem_flatMap]
 constructor
 ·rintro ⟨q,hq,hu⟩
  obtain ⟨h1,h2,h3⟩:=usesN_mem.mp hu
  rw [List.mem_range] at hq
  rw [h1]
  exact ⟨hq,h3⟩
 ·rintro ⟨h1,h2⟩
  exact ⟨u.2,List.mem_range.mpr h1,usesN_mem.mpr ⟨rfl,(wo h2).1,h2⟩⟩
def uLt (a b:Nat × Nat):Prop:=a.2 < b.2 \/ (a.2 = b.2 /\ a.1 < b.1)
theorem vP (l:List Nat) (ps:List zx) (q:Nat):∀ i,(vv l ps q i).Pairwise uLt
 | 0=>by simp [vv]
 | i + 1=>by
  rw [xy]
  refine List.pairwise_append.mpr ⟨vP l ps q i,?_,fun a ha b hb=>?_⟩
  ·split
   ·exact List.pairwise_singleton _ _
   ·exact List.Pairwise.nil
  ·obtain ⟨h1,h2,_⟩:=usesN_mem.mp ha
   split at hb
   ·rw [List.mem_singleton.mp hb]
    exact .inr ⟨h1,h2⟩
   ·cases hb
theorem wd (l:List Nat) (ps:List zx):∀ k,(xg l ps k).Pairwise uLt
 | 0=>by simp [xg]
 | k + 1=>by
  rw [qk]
  refine List.pairwise_append.mpr ⟨wd l ps k,vP l ps k _,fun a ha b hb=>?_⟩
  have h1:=(usesK_mem.mp ha).1
  have h2:=(usesN_mem.mp hb).1
  exact .inl (by omega)
def FirstN (l:List Nat) (ps:List zx) (lo hi n:Nat) (r:Option (Nat × Nat)):Prop :=
 (r = none /\ ∀ j q,j < n -> lo <= q -> q < hi -> stJ l ps q j = false) \/
 ∃ n0 q0,r = some (n0,q0) /\ n0 < n /\ lo <= q0 /\ q0 < hi /\ stJ l ps q0 n0 = true /\ ∀ j q,j < n -> lo <= q -> stJ l ps q j = true -> q0 < q \/ (q0 = q /\ n0 <= j)
theorem FirstN.uniq {l:List Nat} {ps:List zx} {lo hi n:Nat} {r r':Option (Nat × Nat)} (h:FirstN l ps lo hi n r) (h':FirstN l ps lo hi n r'):r = r':=by
 rcases h with ⟨rfl,h⟩ | ⟨n0,q0,rfl,a1,a2,a3,a4,a5⟩
 ·rcases h' with ⟨rfl,_⟩ | ⟨n0,q0,rfl,a1,a2,a3,a4,a5⟩
  ·rfl
  ·rw [h n0 q0 a1 a2 a3] at a4
   cases a4
 ·rcases h' with ⟨rfl,h⟩ | ⟨n1,q1,rfl,b1,b2,b3,b4,b5⟩
  ·rw [h n0 q0 a1 a2 a3] at a4
   cases a4
  ·have x1:=a5 n1 q1 b1 b2 b4
   have x2:=b5 n0 q0 a1 a2 a4
   have e1:q0 = q1:=by omega
   have e2:n0 = n1:=by omega
   rw [e1,e2]
theorem ZM {l:List Nat} {ps:List zx} {r:Option (Nat × Nat)} (h:FirstN l ps 0 l.length ps.length r):r = (xg l ps l.length).head?:=by
 have hs:=wd l ps l.length
 refine h.uniq ?_
 cases e:xg l ps l.length with
 | nil =>
  refine .inl ⟨rfl,fun j q _ _ hq=>?_⟩
  cases hb:stJ l ps q j with
  | false=>rfl
  | true =>
   have:(j,q) ∈ xg l ps l.length:=usesK_mem.mpr ⟨hq,hb⟩
   rw [e] at this
   cases this
 | cons u us =>
  rw [e] at hs
  have hu:u ∈ xg l ps l.length:=by rw [e]; exact List.mem_cons_self
  obtain ⟨h1,h2⟩:=usesK_mem.mp hu
  refine .inr ⟨u.1,u.2,rfl,(wo h2).1,Nat.zero_le _,h1,h2,fun j q hj _ hb=>?_⟩
  by_cases hq:q < l.length
  ·have:(j,q) ∈ xg l ps l.length:=usesK_mem.mpr ⟨hq,hb⟩
   rw [e] at this
   rcases List.mem_cons.mp this with e2 | e2
   ·rw [<- e2]
    exact .inr ⟨rfl,Nat.le_refl _⟩
   ·rcases (List.pairwise_cons.mp hs).1 _ e2 with h | ⟨h,h'⟩
    ·exact .inl h
    ·exact .inr ⟨h,Nat.le_of_lt h'⟩
  ·exact .inl (by omega)
theorem jE {l p:List Nat} {q:Nat} (hp:p ≠ []) (h:zA l (q:Int) p = true):q < l.length:=by
 obtain ⟨h0,h1,_⟩:=of_decide_eq_true h
 have:0 < p.length:=List.length_pos_iff.mpr hp
 omega
theorem FirstN.keep {l:List Nat} {ps:List zx} {lo hi n:Nat} {r:Option (Nat × Nat)} {p:zx} (h:FirstN l ps lo hi n r) (hp:ps[n]? = some p) (hn:∀ q:Nat,lo <= q -> q < (r.map Prod.snd).getD hi -> zA l (q:Int) p.1 = false):FirstN l ps lo hi (n + 1) r:=by
 rcases h with ⟨rfl,h⟩ | ⟨n0,q0,rfl,a1,a2,a3,a4,a5⟩
 ·refine .inl ⟨rfl,fun j q hj h1 h2=>?_⟩
  by_cases e:j < n
  ·exact h j q e h1 h2
  ·have:j = n:=by omega
   subst this
   rw [wI hp]
   exact hn q h1 h2
 ·refine .inr ⟨n0,q0,rfl,by omega,a2,a3,a4,fun j q hj h1 h2=>?_⟩
  by_cases e:j < n
  ·exact a5 j q e h1 h2
  ·have:j = n:=by omega
   subst this
   rw [wI hp] at h2
   by_cases hq:q < q0
   ·rw [hn q h1 hq] at h2
    cases h2
   ·omega
theorem FirstN.take {l:List Nat} {ps:List zx} {lo hi n k:Nat} {r:Option (Nat × Nat)} {p:zx} (h:FirstN l ps lo hi n r) (hp:ps[n]? = some p) (h1:lo <= k) (h2:k < (r.map Prod.snd).getD hi) (h3:zA l (k:Int) p.1 = true) (hn:∀ q:Nat,lo <= q -> q < k -> zA l (q:Int) p.1 = false):FirstN l ps lo hi (n + 1) (some (n,k)):=by
 have hk:k < hi /\ ∀ j q,j < n -> lo <= q -> stJ l ps q j = true -> k < q:=by
  rcases h with ⟨rfl,h⟩ | ⟨n0,q0,rfl,a1,a2,a3,a4,a5⟩
  ·refine ⟨h2,fun j q hj hl hb=>?_⟩
   by_cases hq:q < hi
   ·rw [h j q hj hl hq] at hb
    cases hb
   ·have h2':k < hi:=h2
    omega
  ·have h2':k < q0:=h2
   refine ⟨by omega,fun j q hj hl hb=>?_⟩
   have:=a5 j q hj hl hb
   omega
 refine .inr ⟨n,k,rfl,by omega,h1,hk.1,by rw [wI hp]; exact h3,fun j q hj hl hb=>?_⟩
 by_cases e:j < n
 ·exact .inl (hk.2 j q e hl hb)
 ·have:j = n:=by omega
  subst this
  rw [wI hp] at hb
  by_cases hq:q < k
  ·rw [hn q hl hq] at hb
   cases hb
  ·omega
theorem FirstN.window {l:List Nat} {ps:List zx} {lo mid hi n:Nat} {r:Option (Nat × Nat)} (h0:FirstN l ps lo mid n none) (hm:lo <= mid) (h:FirstN l ps mid hi n r):FirstN l ps lo hi n r:=by
 have h0':∀ j q,j < n -> lo <= q -> q < mid -> stJ l ps q j = false:=by
  rcases h0 with ⟨_,h⟩ | ⟨_,_,h,_⟩
  ·exact h
  ·cases h
 rcases h with ⟨rfl,h⟩ | ⟨n0,q0,rfl,a1,a2,a3,a4,a5⟩
 ·refine .inl ⟨rfl,fun j q hj h1 h2=>?_⟩
  by_cases e:q < mid
  ·exact h0' j q hj h1 e
  ·exact h j q hj (by omega) h2
 ·refine .inr ⟨n0,q0,rfl,a1,by omega,a3,a4,fun j q hj h1 h2=>?_⟩
  by_cases e:q < mid
  ·rw [h0' j q hj h1 e] at h2
   cases h2
  ·exact a5 j q hj (by omega) h2
def NeL (ps:List zx):Prop:=∀ p ∈ ps,p.1 ≠ []
theorem FirstN.toEnd {l:List Nat} {ps:List zx} {lo hi n:Nat} {r:Option (Nat × Nat)} (hN:NeL ps) (h:FirstN l ps lo hi n r) (hl:r = none -> l.length <= hi):FirstN l ps lo l.length n r:=by
 have hlt:∀ j q,stJ l ps q j = true -> q < l.length:=fun j q hb=>by
  obtain ⟨_,p,hp,hs⟩:=wo hb
  exact jE (hN p (List.mem_of_getElem? hp)) hs
 rcases h with ⟨rfl,h⟩ | ⟨n0,q0,rfl,a1,a2,a3,a4,a5⟩
 ·exact .inl ⟨rfl,fun j q hj h1 h2=>h j q hj h1 (by have:=hl rfl; omega)⟩
 ·exact .inr ⟨n0,q0,rfl,a1,a2,hlt _ _ a4,a4,a5⟩
def zt (l:List Nat) (ps:List zx):Option (Nat × Nat):=(xg l ps l.length).head?
theorem vY {l:List Nat} {ps:List zx} {r:Option (Nat × Nat)} (h:FirstN l ps 0 l.length ps.length r):r = zt l ps:=ZM h
theorem Zq (l:List Nat) (ps:List zx) (hN:NeL ps):FirstN l ps 0 l.length ps.length (zt l ps):=by
 have hs:=wd l ps l.length
 unfold zt
 cases e:xg l ps l.length with
 | nil =>
  refine .inl ⟨rfl,fun j q _ _ hq=>?_⟩
  cases hb:stJ l ps q j with
  | false=>rfl
  | true =>
   have:(j,q) ∈ xg l ps l.length:=usesK_mem.mpr ⟨hq,hb⟩
   rw [e] at this
   cases this
 | cons u us =>
  rw [e] at hs
  have hu:u ∈ xg l ps l.length:=by rw [e]; exact List.mem_cons_self
  obtain ⟨h1,h2⟩:=usesK_mem.mp hu
  refine .inr ⟨u.1,u.2,rfl,(wo h2).1,Nat.zero_le _,h1,h2,fun j q hj _ hb=>?_⟩
  have hq:q < l.length:=by
   obtain ⟨_,p,hp,hs⟩:=wo hb
   exact jE (hN p (List.mem_of_getElem? hp)) hs
  have:(j,q) ∈ xg l ps l.length:=usesK_mem.mpr ⟨hq,hb⟩
  rw [e] at this
  rcases List.mem_cons.mp this with e2 | e2
  ·rw [<- e2]
   exact .inr ⟨rfl,Nat.le_refl _⟩
  ·rcases (List.pairwise_cons.mp hs).1 _ e2 with h | ⟨h,h'⟩
   ·exact .inl h
   ·exact .inr ⟨h,Nat.le_of_lt h'⟩
def uE (ps:List zx) (n:Nat):zx:=ps.getD n ([],[])
theorem uo {ps:List zx} {n:Nat} {p:zx} (h:ps[n]? = some p):uE ps n = p:=by
 unfold uE
 rw [List.getD_eq_getElem?_getD,h]
 rfl
def qc (l:List Nat) (ps:List zx) (u:Nat × Nat):List Nat:=wH l (u.2:Int) (uE ps u.1).1 (uE ps u.1).2
def Wc (ps:List zx) (l:List Nat):List Nat:=((zt l ps).map (qc l ps)).getD l
def wAt (ps:List zx) (l:List Nat):Nat -> List Nat
 | 0=>l
 | j + 1=>Wc ps (wAt ps l j)
def sAt (ps:List zx) (l:List Nat) (j:Nat):List (Nat × Nat):=(List.range j).map fun i=>(zt (wAt ps l i) ps).getD (0,0)
theorem Wm (ps:List zx) (l:List Nat) (j:Nat):sAt ps l (j + 1) = sAt ps l j ++ [(zt (wAt ps l j) ps).getD (0,0)]:=by
 unfold sAt
 rw [List.range_succ,List.map_append]
 rfl
theorem VY (ps:List zx) (l:List Nat) (j:Nat):(sAt ps l j).length = j:=by
 unfold sAt
 rw [List.length_map,List.length_range]
theorem yS {ps:List zx} {l:List Nat} {j:Nat} {u:Nat × Nat} (h:zt (wAt ps l j) ps = some u):wAt ps l (j + 1) = qc (wAt ps l j) ps u:=by
 show Wc ps (wAt ps l j) = _
 unfold Wc
 rw [h]
 rfl
def kj (ps:List zx) (l:List Nat) (j:Nat):Prop:=∀ i,i < j -> zt (wAt ps l i) ps ≠ none
theorem Zr {ps:List zx} {l:List Nat} {i j:Nat} (h1:kj ps l i) (h2:zt (wAt ps l i) ps = none) (h3:kj ps l j) (h4:zt (wAt ps l j) ps = none):i = j:=by
 rcases Nat.lt_trichotomy i j with h | h | h
 ·exact absurd h2 (h3 i h)
 ·exact h
 ·exact absurd h4 (h1 j h)
theorem ZK {l:List Nat} {ps:List zx} {n q M lo:Nat} (h:FirstN l ps 0 l.length ps.length (some (n,q))) (hN:NeL ps) (hM:∀ p ∈ ps,p.1.length <= M) (hlo:lo = 0 \/ lo + M <= q + 1):FirstN (qc l ps (n,q)) ps 0 lo ps.length none:=by
 refine .inl ⟨rfl,fun j x hj _ hx=>?_⟩
 rcases h with ⟨h,_⟩ | ⟨n0,q0,e,a1,a2,a3,a4,a5⟩
 ·cases h
 ·injection e with e
  injection e with e1 e2
  subst e1 e2
  cases hb:stJ (qc l ps (n,q)) ps x j with
  | false=>rfl
  | true =>
   obtain ⟨_,p,hp,hs⟩:=wo hb
   have hpm:=hM p (List.mem_of_getElem? hp)
   have hpn:=List.length_pos_iff.mpr (hN p (List.mem_of_getElem? hp))
   have hxq:x + p.1.length <= q:=by omega
   obtain ⟨s0,s1,s2⟩:=of_decide_eq_true hs
   rw [Int.toNat_natCast] at s2
   obtain ⟨_,p2,hp2,hs2⟩:=wo a4
   obtain ⟨t0,t1,t2⟩:=of_decide_eq_true hs2
   have e4:(qc l ps (n,q)).take q = l.take q:=by
    unfold qc wH
    rw [Int.toNat_natCast,List.append_assoc,List.take_append_of_le_length (by rw [List.length_take]; omega),List.take_take,Nat.min_self]
   have e5:∀ z:List Nat,((z.take q).drop x).take p.1.length = (z.drop x).take p.1.length:=fun z=>by
    rw [List.drop_take,List.take_take]
    congr 1
    omega
   have s3:(l.drop x).take p.1.length = p.1:=by rw [<- e5,<- e4,e5,s2]
   have:stJ l ps x j = true:=by
    rw [wI hp]
    exact decide_eq_true ⟨by omega,by omega,by rw [Int.toNat_natCast]; exact s3⟩
   have:=a5 j x hj (Nat.zero_le _) this
   omega
def UseAt (H:Hp) (r:Option (Nat × Nat)) (v:V):Prop:=(r = none /\ v = .non) \/ ∃ (n q:Nat) (p:Addr),r = some (n,q) /\ v = .ref p /\ H p = some (.tup [.int (n:Nat),.int (q:Nat)])
theorem UseAt.same {H H':Hp} {r:Option (Nat × Nat)} {v:V} (h:UseAt H r v) (s:Same H H'):UseAt H' r v:=by
 rcases h with h | ⟨n,q,p,h1,h2,h3⟩
 ·exact .inl h
 ·exact .inr ⟨n,q,p,h1,h2,s _ _ h3⟩
theorem XS {l p:List Nat} {lo hi:Int} {H:Hp} {Q:VK} (h0:0 <= lo) (h1:0 <= hi) (h:∀ r:Int,((r = -1 /\ ∀ q:Nat,lo <= q -> (q:Int) + p.length <= hi -> zA l q p = false) \/ ∃ k:Nat,r = k /\ lo <= k /\ (k:Int) + p.length <= hi /\ zA l k p = true /\ ∀ q:Nat,lo <= q -> q < k -> zA l q p = false) -> Q (.int r) H):Vp (.str (tx l)) [.str (tx p),.int lo,.int hi] H Q:=by
 refine ⟨l,p,lo,hi,rfl,rfl,h0,h1,fun r hr=>h r ?_⟩
 have no:∀ q:Nat,((l.drop q).take p.length ≠ p \/ ¬ q + p.length <= l.length) -> zA l q p = false:=fun q hq=>decide_eq_false fun ⟨_,b,c⟩=>by
  rcases hq with hq | hq
  ·exact hq c
  ·omega
 rcases hr with ⟨rfl,hn⟩ | ⟨k,rfl,k1,k2,k3,k4,hn⟩
 ·refine .inl ⟨rfl,fun q q1 q2=>no q ?_⟩
  by_cases e:q + p.length <= l.length
  ·exact .inl (hn q q1 q2 e)
  ·exact .inr e
 ·exact .inr ⟨k,rfl,k1,k2,decide_eq_true ⟨by omega,by omega,k4⟩,fun q q1 q2=>no q (.inl (hn q q1 q2))⟩
def wD (K:PySem.W.Frag):Sp:=fun vs H Q _=>∃ (a:Addr) (l:List Nat) (ps:List zx) (st en:Nat),vs = [.ref a,.str (tx l),.int (st:Nat),.int (en:Nat)] /\ LsA K H a (ps.map dR) /\ NeL ps /\ (∀ p ∈ ps,p.1.length <= 1000) /\ ∀ (r:Option (Nat × Nat)) (v:V) (H':Hp),Same H H' -> UseAt H' r v -> FirstN l ps st en ps.length r -> Q v H'
theorem ka {a:Addr} {l:List Nat} {ps:List zx} {st en:Nat} {s e:Int} {H:Hp} {Q:VK} {E:XK} (hs:s = (st:Nat)) (he:e = (en:Nat)) (hA:LsA K H a (ps.map dR)) (hN:NeL ps) (hP:∀ p ∈ ps,p.1.length <= 1000) (q:∀ (r:Option (Nat × Nat)) (v:V) (H':Hp),Same H H' -> UseAt H' r v -> FirstN l ps st en ps.length r -> Q v H'):wD K [.ref a,.str (tx l),.int s,.int e] H Q E:=by
 subst hs he
 exact ⟨a,l,ps,st,en,rfl,hA,hN,hP,q⟩
theorem sc_first_within:zq ["rules", "word", "start", "end", "found", "number", "rule", "place"] ["rules", "word", "start", "end"] (zb yc):=⟨rfl,rfl,rfl,by decide +kernel,rfl,by decide +kernel,by decide +kernel⟩
theorem uC {f:Addr} {fd:FuncData} (B:Bt mg)  (F:Fun K "first_within" "first_within" yc f fd)  : yo P w K mg base CX0 1 f fd ["rules", "word", "start", "end"] (wD K):=by
 refine F.ok sc_first_within (fun vs H Q E h=>?_) (fun cdv A outer s H vs Q E hr h=>?_)
 ·obtain ⟨a,l,ps,st,en,rfl,_⟩:=h
  rfl
 ·obtain ⟨a,l,ps,st,en,rfl,hA,hN,hP,q⟩:=h
  refine ⟨_,(zh (zl (i:=4) sc_first_within.nd rfl (Or.inl rfl) u7)
   (zh (yq PassesOwn.never rfl (uc rfl B.enum (za (pv 0) zc)) (xD (n:=2) rfl (zB (zr (i:=5) sc_first_within.nd rfl (Or.inl rfl)) (zB (zr (i:=6) sc_first_within.nd rfl (Or.inl rfl)) yK)))
    (zH (zl (i:=7) sc_first_within.nd rfl (Or.inl rfl) (wY PySem.F.plainAttrs_str PySem.F.slot_str_find PySem.F.type_str_find Uk (pv 1) (za (zC ix_tup (pv 6) zg (fun _ _=>rfl)) (za (pv 2) (za (zw op_add (zw wp (pv 3) zg) (zp yg rfl B.len PySem.boot_len (za (zC ix_tup (pv 6) zg (fun _ _=>rfl)) zc))) zc)))))
    (zf (yh (zF op_ge' (pv 7) zg (zI _))
     (zH (zl (i:=4) sc_first_within.nd rfl (Or.inl rfl) (yr (za (pv 5) (za (pv 7) zc))))
     (zf (zl (i:=3) sc_first_within.nd rfl (Or.inl rfl) (pv 7))))
     zE))))
   (zf (zu (pv 4))))),?_⟩
  have s16:=yl
  obtain ⟨xs,hX,hI⟩:=id hA
  have hxl:=hI.len
  rw [List.length_map] at hxl
  have s16:=yl
  refine zi (fun σ H'=>H' = H /\ σ = [some (.ref a),some (.str (tx l)),some (.int (st:Nat)),some (.int (en:Nat)),some (.non),none,none,none]) ?_ ?_
  ·rfl'
  rintro σ H1 ⟨rfl,rfl⟩
  refine zi (fun σ H'=>Same H1 H' /\ ∃ (r:Option (Nat × Nat)) (v:V) (v3 v5 v6 v7:Option V),UseAt H' r v /\ FirstN l ps st en ps.length r /\ σ = [some (.ref a),some (.str (tx l)),some (.int (st:Nat)),v3,some (v),v5,v6,v7]) ?_ ?_
  ·rfl'
   refine ⟨⟨_,SqL.of hX⟩,ForEL.by (xs:=xs) (fun i σ H'=>Same H1 H' /\ ∃ (r:Option (Nat × Nat)) (v:V) (v5 v6 v7:Option V),UseAt H' r v /\ FirstN l ps st en i r /\ σ = [some (.ref a),some (.str (tx l)),some (.int (st:Nat)),some (.int (((r.map Prod.snd).getD en:Nat):Int)),some (v),v5,v6,v7]) ⟨Same.refl _,none,.non,none,none,none,.inl ⟨rfl,rfl⟩,.inl ⟨rfl,fun j q h=>absurd h (Nat.not_lt_zero j)⟩,rfl⟩ (fun i σ H' _ h=>SqL.of (h.1 _ _ hX)) ?_ ?_⟩
   ·rintro i y σ H' p hy ⟨hs,r,v,v5,v6,v7,hu,hF,rfl⟩ hpn
    obtain ⟨rl,pr,hri,rfl,hqr⟩:=hI.getR hy
    have hm:=List.mem_of_getElem? hri
    have hne:=List.length_pos_iff.mpr (hN rl hm)
    have hrl:=hP rl hm
    have s2:=hs.trans (zd (o:=.tup [.int (i:Nat),.ref pr]) hpn)
    have hq2:=zD s2 hqr
    have hu2:=hu.same (zd (o:=.tup [.int (i:Nat),.ref pr]) hpn)
    rfl'
    refine ⟨_,SqT.of ze,rfl,_,_,rfl,_,_,rfl,rfl,_,rfl,_,hq2,_,rfl,_,rfl,_,hq2,_,rfl,_,⟨by rw [zO]; omega,rfl⟩,XS (by omega) (by rw [zO]; omega) fun z hz=>⟨z,rfl,?_⟩⟩
    rw [zO] at hz
    rcases hz with ⟨rfl,hn⟩ | ⟨k,rfl,k1,k2,k3,hn⟩
    ·rw [if_neg (by decide)]
     exact ⟨s2,r,v,hu2,hF.keep hri fun q q1 q2=>hn q (by omega) (by omega),rfl,rfl⟩
    ·rw [if_pos (by omega)]
     refine ⟨by omega,fun p2 hp2=>⟨s2.trans (zd hp2),some (i,k),.ref p2,.inr ⟨i,k,p2,rfl,rfl,ze⟩,hF.take hri (by omega) (by omega) k3 fun q q1 q2=>hn q (by omega) q2,rfl,rfl⟩⟩
   ·rintro σ H' ⟨hs,r,v,v5,v6,v7,hu,hF,rfl⟩
    rw [hxl] at hF
    exact ⟨hs,r,v,hu,hF,_,_,_,_,rfl⟩
  rintro σ H2 ⟨s2,r,v,v3,v5,v6,v7,hu,hF,rfl⟩
  rfl'
  exact q r v H2 s2 hu hF
structure JN (mg:Str -> Option Value):Prop where
 g:∃ t,mg "WINDOW" = some (.int 128 t)
def uh (K:PySem.W.Frag):Sp:=fun vs H Q _=>∃ (a:Addr) (l:List Nat) (ps:List zx) (st:Nat),vs = [.ref a,.str (tx l),.int (st:Nat)] /\ LsA K H a (ps.map dR) /\ NeL ps /\ (∀ p ∈ ps,p.1.length <= 1000) /\ l.length <= 100000 /\ ∀ (r:Option (Nat × Nat)) (v:V) (H':Hp),Same H H' -> UseAt H' r v -> FirstN l ps st l.length ps.length r -> Q v H'
theorem jy {a:Addr} {l:List Nat} {ps:List zx} {st:Nat} {s:Int} {H:Hp} {Q:VK} {E:XK} (hs:s = (st:Nat)) (hA:LsA K H a (ps.map dR)) (hN:NeL ps) (hP:∀ p ∈ ps,p.1.length <= 1000) (hl:l.length <= 100000) (q:∀ (r:Option (Nat × Nat)) (v:V) (H':Hp),Same H H' -> UseAt H' r v -> FirstN l ps st l.length ps.length r -> Q v H'):uh K [.ref a,.str (tx l),.int s] H Q E:=by
 subst hs
 exact ⟨a,l,ps,st,rfl,hA,hN,hP,hl,q⟩
theorem sc_first_from:zq ["rules", "word", "start", "size", "found"] ["rules", "word", "start"] (zb yx):=⟨rfl,rfl,rfl,by decide +kernel,rfl,by decide +kernel,by decide +kernel⟩
theorem qC {f:Addr} {fd:FuncData} (B:Bt mg) (T:JN mg) (F:Fun K "first_from" "first_from" yx f fd) (D_first_within:Df P w K mg base CX0 1 "first_within" ["rules", "word", "start", "end"] [] (wD K)):yo P w K mg base CX0 2 f fd ["rules", "word", "start"] (uh K):=by
 obtain ⟨t8,g8⟩:=T.g
 refine F.ok sc_first_from (fun vs H Q E h=>?_) (fun cdv A outer s H vs Q E hr h=>?_)
 ·obtain ⟨a,l,ps,st,rfl,_⟩:=h
  rfl
 ·obtain ⟨a,l,ps,st,rfl,hA,hN,hP,hl,q⟩:=h
  refine ⟨_,(zh (zl (i:=3) sc_first_from.nd rfl (Or.inl rfl) (uI (v:=.int 128) rfl g8 ⟨t8,rfl⟩))
   (zh (jj PassesOwn.never (zF Yk (pv 2) (zp yg rfl B.len PySem.boot_len (za (pv 1) zc)) (zI _))
    (zH (zl (i:=4) sc_first_from.nd rfl (Or.inl rfl) (cl0 D_first_within hr .nil rfl (za (pv 0) (za (pv 1) (za (pv 2) (za (zw op_add (pv 2) (pv 3)) zc))))))
    (zH (yh (zF op_notN' (pv 4) u7 (zI _))
     (zf (zu (pv 4)))
     zE)
    (zH (zl (i:=2) sc_first_from.nd rfl (Or.inl rfl) (zw op_add (pv 2) (pv 3)))
    (zf (zl (i:=3) sc_first_from.nd rfl (Or.inl rfl) (zw op_mul (pv 3) zg)))))))
   (zf (zu u7)))),?_⟩
  have s16:=yl
  have s16:=yl
  refine zi (fun σ H'=>H' = H /\ σ = [some (.ref a),some (.str (tx l)),some (.int (st:Nat)),some (.int 128),none]) ?_ ?_
  ·rfl'
  rintro σ H1 ⟨rfl,rfl⟩
  refine zi (fun σ H'=>Same H1 H' /\ FirstN l ps st l.length ps.length none) ?_ ?_
  ·unfold kZ
   refine ⟨fun m σ H'=>∃ (s z:Nat) (v4:Option V),m = l.length - s /\ st <= s /\ 1 <= z /\ Same H1 H' /\ FirstN l ps st s ps.length none /\ σ = [some (.ref a),some (.str (tx l)),some (.int (s:Nat)),some (.int (z:Nat)),v4],⟨_,st,128,none,rfl,Nat.le_refl _,by decide,Same.refl _,.inl ⟨rfl,fun j q _ h1 h2=>by omega⟩,rfl⟩,?_⟩
   rintro m σ H' ⟨s,z,v4,rfl,hs,hz,sm,hF,rfl⟩
   rfl'
   refine ⟨by omega,yE (fun hlt=>?_) fun hge=>⟨sm,hF.toEnd hN fun _=>by omega⟩⟩
   refine ⟨fun σ' H''=>∃ v4:Option V,Same H1 H'' /\ FirstN l ps st (s + z) ps.length none /\ σ' = [some (.ref a),some (.str (tx l)),some (.int ((s + z:Nat):Int)),some (.int ((z * 2:Nat):Int)),v4],fun σ' H'' ⟨v4,a1,a2,a3⟩=>⟨l.length - (s + z),by omega,s + z,rfl,by omega,z * 2,by omega,a1,a2,v4,a3⟩,?_⟩
   refine ka (en:=s + z) rfl (by omega) (hA.same sm) hN hP fun r v H2 s2 hu hF2=>?_
   rcases hu with ⟨rfl,rfl⟩ | ⟨n,qq,p,rfl,rfl,hp⟩
   ·rw [if_neg (fun h=>h rfl)]
    exact ⟨.inr ⟨by decide,by decide⟩,some .non,sm.trans s2,hF.window hs hF2,by push_cast; rfl⟩
   ·rw [if_pos (by intro h; cases h)]
    exact q _ _ H2 (sm.trans s2) (.inr ⟨n,qq,p,rfl,rfl,hp⟩) ((hF.window hs hF2).toEnd hN (fun e=>by cases e))
  rintro σ H2 ⟨s2,hF⟩
  rfl'
  exact q none .non H2 s2 (.inl ⟨rfl,rfl⟩) hF
theorem LsA.pushT {H:Hp} {D p:Addr} {ds es:List L3.D} {xs vs:List V} (h1:H D = some (.lst xs)) (h2:Iss K H ds xs) (hp:H p = none) (hv:Iss K H es vs) (f:yp ds) (fe:yp es):LsA K (upd (upd H p (.tup vs)) D (.lst (xs ++ [.ref p]))) D (ds ++ [.tup es]):=by
 have e:(upd H p (.tup vs)) D = some (.lst xs):=zd hp _ _ h1
 exact LsA.snoc e (Iss.same (zd hp) _ _ h2) f (by simp only [xU]; exact fe) (Is.tup hp hv)
structure J9 (K:PySem.W.Frag) (mg:Str -> Option Value) (C:Addr):Prop where
 xi:XI K C
 ini:PySem.W.findIn K (.ref C) "__init__" = some (some (.builtin "ValueError.__init__"))
 g:mg "TooFar" = some (.ref C)
def dG (u:Nat × Nat):L3.D:=.tup [.int (u.1:Nat),.int (u.2:Nat),.bl true]
theorem Uh (u:Nat × Nat):xU (dG u):=by simp only [dG,xU,yp,and_self]
theorem Wz (us:List (Nat × Nat)):yp (us.map dG):=we fun d h=>by obtain ⟨r,_,rfl⟩:=List.mem_map.mp h; exact Uh r
theorem Q6 {H:Hp} {n q:Nat}:Iss K H [.int (n:Nat),.int (q:Nat),.bl true] [.int (n:Nat),.int (q:Nat),.bl true]:=by
 simp only [Iss,Is]
 exact ⟨_,_,rfl,rfl,_,_,rfl,rfl,_,_,rfl,rfl,rfl⟩
structure Rd (ps:List zx) (l:List Nat) (J:Nat):Prop where
 live:kj ps l J
 len:∀ j,j <= J -> (wAt ps l j).length <= 10000
 most:J <= 10000
def uq (K:PySem.W.Frag) (CF:Addr):Sp:=fun vs H Q E=>∃ (a:Addr) (l:List Nat) (ps:List zx) (m:Int) (J:Nat),vs = [.ref a,.str (tx l),.int m] /\ LsA K H a (ps.map dR) /\ NeL ps /\ ps.length <= 100 /\ (∀ p ∈ ps,p.1.length <= 1000 /\ p.2.length <= 1000) /\ Rd ps l J /\
 ((zt (wAt ps l J) ps = none /\ (J:Int) <= m /\ ∀ (p S:Addr) (H':Hp),Same H H' -> H' p = some (.tup [.ref S,.str (tx (wAt ps l J))]) -> LsA K H' S ((sAt ps l J).map dG) -> H S = none -> Q (.ref p) H') \/
  (zt (wAt ps l J) ps ≠ none /\ (J:Int) = m /\ ∀ H',Same H H' -> E (.ref CF) none H'))
theorem Y5 {a:Addr} {ps:List zx} {σ:L2.St} {H:Hp} {Q:VK} {D:Addr} (hA:LsA K H a (ps.map dR)) (hP:∀ p ∈ ps,p.1.length <= 1000) (hpl:ps.length <= 100) (hD:H D = none) (q:∀ H',Same H H' -> H' D = some (.lst ((ps.map fun p=>(p.1.length:Int)).map V.int)) -> Q (.ref D) H') :
  CompL K a (yt 0) qF (tCB (QL K) (yL (tOp (UF K) (wG 0) (tC (.int 0))) qf)) 1 [] σ H Q D:=by
 have s16:=yl
 obtain ⟨xs,hX,hI⟩:=hA
 have hxl:=hI.len
 rw [List.length_map] at hxl
 refine CompL.by (xs:=xs) (fun i acc H'=>Same H H' /\ H' D = some (.lst acc) /\ acc = ((ps.take i).map fun p=>(p.1.length:Int)).map V.int) ⟨zd hD,ze,rfl⟩ (fun i acc H' _ h=>SqL.of (h.1 _ _ hX)) ?_ ?_
 ·rintro i x acc H' hx ⟨hs,hH,rfl⟩
  have hil:=(List.getElem?_eq_some_iff.mp hx).1
  obtain ⟨r,pr,hri,rfl,hqr⟩:=hI.getR hx
  have hm:=hP r (List.mem_of_getElem? hri)
  simp only [qF]
  rfl'
  refine ⟨qw,_,zD hs hqr,_,rfl,_,⟨by rw [zO]; omega,rfl⟩,hH,by rw [List.length_map,List.length_map,List.length_take]; omega,CNx.mk hil ⟨zK hs hD,ze,?_⟩⟩
  rw [yb hri,List.map_append,List.map_append,zO]
  rfl
 ·rintro acc H' ⟨hs,hH,rfl⟩
  rw [hxl,List.take_length] at hH
  exact q H' hs hH
theorem UE {H:Hp} {rs:List zx} {xs:List V} {i:Nat} {r:zx} (hI:Iss K H (rs.map dR) xs) (hi:rs[i]? = some r):∃ p,atI xs (i:Int) = some (.ref p) /\ SqT K H p [.str (tx r.1),.str (tx r.2)]:=by
 have hl:=hI.len
 rw [List.length_map] at hl
 have hil:=(List.getElem?_eq_some_iff.mp hi).1
 obtain ⟨v,a1,b1⟩:=vL (xs:=xs) (i:=(i:Int)) (by omega) (by omega)
 obtain ⟨r',p,h1,rfl,h3⟩:=hI.getR (j:=i) b1
 rw [hi] at h1
 cases h1
 exact ⟨p,a1,h3⟩
theorem sc_gone:zq ["rules", "word", "most", "longest", "steps", "use", "number", "place"] ["rules", "word", "most"] (zb wK):=⟨rfl,rfl,rfl,by decide +kernel,rfl,by decide +kernel,by decide +kernel⟩
theorem VB {f CU CF:Addr} {fd:FuncData} {dV:Value} (B:Bt mg) (T:J9 K mg CF) (TU:DNU P w K mg base CU) (F:FunD K "gone" "gone" wK dV f fd) (D_first_from:Df P w K mg base CX0 2 "first_from" ["rules", "word", "start"] [] (uh K)) (D_put:Df P w K mg base (CXx P w) 3 "put" ["word", "place", "old", "new"] [] (jv CU)):yo P w K mg base (CXx P w) 4 f fd ["rules", "word", "most"] (uq K CF):=by
 refine FunD.okX F sc_gone (fun vs H Q E h=>?_) (fun cdv A outer s H vs Q E hr hx h=>?_)
 ·obtain ⟨a,l,ps,m,J,rfl,_⟩:=h
  rfl
 ·obtain ⟨a,l,ps,m,J,rfl,hA,hN,hpl,hP,hR,hq⟩:=h
  refine ⟨_,(zh (zl (i:=3) sc_gone.nd rfl (Or.inl rfl) (js (UG rfl) rfl B.max ug (za (vm (own:=["rule"]) (caps:=[]) (ix:=[]) (tt:=qF) (te:=(tCB (QL K) (yL (tOp (UF K) (wG 0) (tC (.int 0))) qf))) rfl (yB (sc:=zb wK) rfl (by decide +kernel) (by decide +kernel) (by decide +kernel) rfl (by decide +kernel) (by decide +kernel) rfl) (yZ (pv 0)) (fun _ _ _ _ _ _=>zr (i:=0) (show List.Nodup [_] by decide) rfl (Or.inl rfl)) (fun _ _ _ _ _ _=>wT) (fun _ _ _ _ _ _=>(zp yg rfl B.len PySem.boot_len (za (zC ix_tup (pv 0) zg (fun _ _=>rfl)) zc)))) zc) (Xy zg Vm)))
   (zh (zl (i:=4) sc_gone.nd rfl (Or.inl rfl) (wk zc))
   (zh (zl (i:=5) sc_gone.nd rfl (Or.inl rfl) (cl0 D_first_from hr .nil rfl (za (pv 0) (za (pv 1) (za zg zc)))))
   (zh (jj PassesOwn.leaving (zF op_notN' (pv 5) u7 (zI _))
    (zh (yh (zF op_ge' (zp yg rfl B.len PySem.boot_len (za (pv 4) zc)) (pv 2) (zI _))
     (zf (xC hx rfl T.xi.toXC T.ini rfl T.g (za xX zc)))
     zE)
    (zh (zl (i:=6) sc_gone.nd rfl (Or.inl rfl) (zC ix_tup (pv 5) zg (fun _ _=>rfl)))
    (zh (zl (i:=7) sc_gone.nd rfl (Or.inl rfl) (zC ix_tup (pv 5) zg (fun _ _=>rfl)))
    (zh (zl (i:=1) sc_gone.nd rfl (Or.inl rfl) (clP hx D_put hr .nil rfl (za (pv 1) (za (pv 7) (za (zC ix_tup (zC ix_list (pv 0) (pv 6) (fun _ _=>rfl)) zg (fun _ _=>rfl)) (za (zC ix_tup (zC ix_list (pv 0) (pv 6) (fun _ _=>rfl)) zg (fun _ _=>rfl)) zc))))))
    (zh (xj (wY PySem.F.plainAttrs_list PySem.F.slot_list_append PySem.F.type_list_append yk (pv 4) (za (yr (za (pv 6) (za (pv 7) (za xk zc)))) zc)))
    (zf (zl (i:=5) sc_gone.nd rfl (Or.inl rfl) (cl0 D_first_from hr .nil rfl (za (pv 0) (za (pv 1) (za (zp (Vk rfl) rfl B.max ug (za zg (za (zw op_add (zw wp (pv 7) (pv 3)) zg) zc))) zc))))))))))))
   (zf (zu (yr (za (pv 4) (za (pv 1) zc))))))))),?_⟩
  have s16:=yl
  have s16:=yl
  refine zi (fun σ H'=>Same H H' /\ ∃ M:Int,(∀ p ∈ ps,(p.1.length:Int) <= M) /\ σ = [some (.ref a),some (.str (tx l)),some (.int m),some (.int M),none,none,none,none]) ?_ ?_
  ·rfl'
   simp only [Jw]
   rfl'
   obtain ⟨xs,hX,hI⟩:=id hA
   exact ⟨⟨_,SqL.of hX⟩,fun D hD=>Y5 hA (fun p hp=>(hP p hp).1) hpl hD fun H' s' hH=>⟨D,_,0,rfl,rfl,SqL.of hH,fun z _ hz=>⟨s',z,fun p hp=>hz _ (List.mem_map.mpr ⟨p,hp,rfl⟩),rfl⟩⟩⟩
  rintro σ H1 ⟨s1,M,hM,rfl⟩
  refine zi (fun σ H'=>Same H H' /\ ∃ S:Addr,H S = none /\ H' S = some (.lst []) /\ σ = [some (.ref a),some (.str (tx l)),some (.int m),some (.int M),some (.ref S),none,none,none]) ?_ ?_
  ·rfl'
   exact ⟨by omega,fun p hp=>⟨s1.trans (zd hp),p,s1.free hp,ze,rfl⟩⟩
  rintro σ H2 ⟨s2,S,hSn,hS,rfl⟩
  refine zi (fun σ H'=>Same H H' /\ H' S = some (.lst []) /\ ∃ uv:V,UseAt H' (zt l ps) uv /\ σ = [some (.ref a),some (.str (tx l)),some (.int m),some (.int M),some (.ref S),some (uv),none,none]) ?_ ?_
  ·rfl'
   exact jy (st:=0) rfl (hA.same s2) hN (fun p hp=>(hP p hp).1) (by have:=hR.len 0 (Nat.zero_le _); exact Nat.le_trans this (by decide)) fun r v H' s' hu hF=>⟨s2.trans s',s' _ _ hS,(by rw [vY hF] at hu; exact hu)⟩
  rintro σ H3 ⟨s3,hS3,uv,hu,rfl⟩
  refine zi (fun σ H'=>Same H H' /\ zt (wAt ps l J) ps = none /\ LsA K H' S ((sAt ps l J).map dG) /\ ∃ v5 v6 v7,σ = [some (.ref a),some (.str (tx (wAt ps l J))),some (.int m),some (.int M),some (.ref S),v5,v6,v7]) ?_ ?_
  ·unfold kZ
   refine ⟨fun k σ H'=>∃ (j:Nat) (uv:V) (v6 v7:Option V),k = J - j /\ j <= J /\ Same H H' /\ LsA K H' S ((sAt ps l j).map dG) /\ UseAt H' (zt (wAt ps l j) ps) uv /\ σ = [some (.ref a),some (.str (tx (wAt ps l j))),some (.int m),some (.int M),some (.ref S),some (uv),v6,v7],⟨_,0,uv,none,none,rfl,Nat.zero_le _,s3,⟨[],hS3,by simp only [sAt,List.range_zero,List.map_nil,Iss]⟩,hu,rfl⟩,?_⟩
   rintro k σ H' ⟨j,uv,v6,v7,rfl,hj,hs,hL,hu,rfl⟩
   have hlj:=hR.len j hj
   have hRm:=hR.most
   obtain ⟨xs,hX,hI⟩:=id hA
   rfl'
   refine yE (fun hne=>?_) fun hne=>?_
   ·rcases hu with ⟨_,h⟩ | ⟨n,q0,p,hf,rfl,hp⟩
    ·exact absurd h hne
    have hF:=Zq (wAt ps l j) ps hN
    rw [hf] at hF
    have hjJ:j < J \/ (j = J /\ (J:Int) = m /\ ∀ H',Same H H' -> E (.ref CF) none H'):=by
     by_cases e:j = J
     ·subst e
      rcases hq with ⟨h,_⟩ | ⟨_,h1,h2⟩
      ·rw [hf] at h
       cases h
      ·exact .inr ⟨rfl,h1,h2⟩
     ·exact .inl (by omega)
    have hJm:(J:Int) <= m:=by
     rcases hq with ⟨_,h,_⟩ | ⟨_,h,_⟩ <;> omega
    obtain ⟨rl,hrl,hst⟩:∃ rl,ps[n]? = some rl /\ zA (wAt ps l j) (q0:Int) rl.1 = true:=by
     rcases hF with ⟨h,_⟩ | ⟨n0,q1,e,_,_,_,a4,_⟩
     ·cases h
     ·cases e
      exact (wo a4).2
    have hlp:=hP rl (List.mem_of_getElem? hrl)
    have hw:=yS hf
    obtain ⟨pr,hai,hqr⟩:=UE hI hrl
    refine ⟨fun σ' H''=>∃ (uv:V) (v6 v7:Option V),j < J /\ Same H H'' /\ LsA K H'' S ((sAt ps l (j + 1)).map dG) /\ UseAt H'' (zt (wAt ps l (j + 1)) ps) uv /\ σ' = [some (.ref a),some (.str (tx (wAt ps l (j + 1)))),some (.int m),some (.int M),some (.ref S),some (uv),v6,v7],fun σ' H'' ⟨uv,v6,v7,a0,a1,a2,a3,a4⟩=>⟨J - (j + 1),by omega,j + 1,rfl,by omega,a1,a2,uv,a3,v6,v7,a4⟩,?_⟩
    obtain ⟨ys,hY,hJ2⟩:=id hL
    have hyl:=hJ2.len
    rw [List.length_map,VY] at hyl
    refine zi (fun σ' H''=>H'' = H' /\ j < J /\ σ' = [some (.ref a),some (.str (tx (wAt ps l j))),some (.int m),some (.int M),some (.ref S),some (.ref p),v6,v7]) ?_ ?_
    ·rfl'
     refine ⟨_,.inl ⟨_,SqL.of hY,rfl⟩,yE (fun hge=>?_) fun hge=>?_⟩
     ·rcases hjJ with h | ⟨_,_,h⟩
      ·omega
      ·exact ⟨by omega,h _ hs⟩
     ·rcases hjJ with h | ⟨e,h,_⟩
      ·exact h
      ·omega
    rintro σ' G1 ⟨rfl,hlt,rfl⟩
    refine zi (fun σ' H''=>H'' = G1 /\ σ' = [some (.ref a),some (.str (tx (wAt ps l j))),some (.int m),some (.int M),some (.ref S),some (.ref p),some (.int (n:Nat)),v7]) ?_ ?_
    ·rfl'
     exact ⟨_,SqT.of hp,rfl⟩
    rintro σ' G2 ⟨rfl,rfl⟩
    refine zi (fun σ' H''=>H'' = G2 /\ σ' = [some (.ref a),some (.str (tx (wAt ps l j))),some (.int m),some (.int M),some (.ref S),some (.ref p),some (.int (n:Nat)),some (.int (q0:Nat))]) ?_ ?_
    ·rfl'
     exact ⟨_,SqT.of hp,rfl⟩
    rintro σ' G3 ⟨rfl,rfl⟩
    refine zi (fun σ' H''=>H'' = G3 /\ σ' = [some (.ref a),some (.str (tx (wAt ps l (j + 1)))),some (.int m),some (.int M),some (.ref S),some (.ref p),some (.int (n:Nat)),some (.int (q0:Nat))]) ?_ ?_
    ·rfl'
     have hq2:=zD hs hqr
     exact ⟨_,SqL.of (hs _ _ hX),_,hai,_,rfl,_,hq2,_,rfl,_,SqL.of (hs _ _ hX),_,hai,_,rfl,_,hq2,_,rfl,wAt ps l j,rl.1,rl.2,(q0:Nat),rfl,hlj,by have:=hlp.1; omega,by have:=hlp.2; omega,fun _=>⟨rfl,by rw [hw]; unfold qc; rw [uo hrl]⟩,fun h=>by rw [hst] at h; cases h⟩
    rintro σ' G4 ⟨rfl,rfl⟩
    refine zi (fun σ' H''=>Same H H'' /\ LsA K H'' S ((sAt ps l (j + 1)).map dG) /\ σ' = [some (.ref a),some (.str (tx (wAt ps l (j + 1)))),some (.int m),some (.int M),some (.ref S),some (.ref p),some (.int (n:Nat)),some (.int (q0:Nat))]) ?_ ?_
    ·rfl'
     refine ⟨.inl ⟨_,SqL.of hY⟩,by omega,fun t ht=>⟨_,zd ht _ _ hY,by omega,zK (hs.trans (zd ht)) hSn,?_⟩⟩
     rw [Wm,hf,List.map_append]
     exact LsA.pushT hY hJ2 ht Q6 (Wz _) (by simp only [yp,xU,and_self])
    rintro σ' G5 ⟨s5,hL5,rfl⟩
    have hl1:=hR.len (j + 1) hlt
    have hM0:=hM rl (List.mem_of_getElem? hrl)
    rfl'
    refine jy (st:=(if (q0:Int) - M + 1 > 0 then (q0:Int) - M + 1 else 0).toNat) (by split <;> omega) (hA.same s5) hN (fun p hp=>(hP p hp).1) (Nat.le_trans hl1 (by decide)) fun r v H' s' hu hF2=>⟨hlt,s5.trans s',hL5.same s',?_⟩
    have hb:=ZK (M:=M.toNat) (lo:=(if (q0:Int) - M + 1 > 0 then (q0:Int) - M + 1 else 0).toNat) hF hN (fun p hp=>by have:=hM p hp; omega) (by split <;> omega)
    rw [<- hw] at hb
    rw [vY (hb.window (Nat.zero_le _) hF2)] at hu
    exact hu
   ·have hv:uv = .non:=Decidable.not_not.mp hne
    have hf:zt (wAt ps l j) ps = none:=by
     rcases hu with ⟨h,_⟩ | ⟨_,_,_,_,h,_⟩
     ·exact h
     ·rw [hv] at h
      cases h
    have e:j = J:=by
     rcases Nat.lt_or_ge j J with h | h
     ·exact absurd hf (hR.live j h)
     ·omega
    subst e
    exact ⟨hs,hf,hL,rfl⟩
  rintro σ H4 ⟨s4,hF,hL,v5,v6,v7,rfl⟩
  rfl'
  rcases hq with ⟨_,_,hq⟩ | ⟨h,_⟩
  ·exact ⟨by omega,fun p hp=>hq p S _ (s4.trans (zd hp)) ze (hL.same (zd hp)) hSn⟩
  ·exact absurd hF h
def zR (l m:List Nat) (k:Nat):Bool:=decide ((l.drop k).take m.length = m.take (l.length - k))
def lf (rs:List zx) (i:Nat):List Nat:=(rs.getD i ([],[])).1
theorem vQ {rs:List zx} {i:Nat} {r:zx} (h:rs[i]? = some r):lf rs i = r.1:=by unfold lf; rw [List.getD_eq_getElem?_getD,h]; rfl
def wg (rs:List zx) (i j n:Nat):List N3:=((List.range n).filter fun k=>(decide (i ≠ j) || decide (k ≠ 0)) && zR (lf rs i) (lf rs j) k).map fun k=>(i,j,k)
def ovI (rs:List zx) (i m:Nat):List N3:=(List.range m).flatMap fun j=>wg rs i j (lf rs i).length
def ovA (rs:List zx) (m:Nat):List N3:=(List.range m).flatMap fun i=>ovI rs i rs.length
theorem wb (rs:List zx) (i j n:Nat):wg rs i j (n + 1) = wg rs i j n ++ (if ((decide (i ≠ j) || decide (n ≠ 0)) && zR (lf rs i) (lf rs j) n) = true then [(i,j,n)] else []):=by
 unfold wg
 rw [List.range_succ,List.filter_append,List.map_append]
 congr 1
 simp only [List.filter_cons,List.filter_nil]
 split <;> rfl
theorem xp (rs:List zx) (i m:Nat):ovI rs i (m + 1) = ovI rs i m ++ wg rs i m (lf rs i).length:=by
 unfold ovI
 rw [List.range_succ,List.flatMap_append]
 simp
theorem xP (rs:List zx) (m:Nat):ovA rs (m + 1) = ovA rs m ++ ovI rs m rs.length:=by
 unfold ovA
 rw [List.range_succ,List.flatMap_append]
 simp
theorem w4 (rs:List zx) (i j n:Nat):(wg rs i j n).length <= n:=by
 unfold wg
 rw [List.length_map]
 have:=List.length_filter_le (fun k=>(decide (i ≠ j) || decide (k ≠ 0)) && zR (lf rs i) (lf rs j) k) (List.range n)
 rw [List.length_range] at this
 exact this
def jr (rs:List zx):Prop:=rs.length <= 30 /\ ∀ r ∈ rs,r.1.length <= 100 /\ r.2.length <= 100
theorem Qa {rs:List zx} (h:jr rs) (i:Nat):(lf rs i).length <= 100:=by
 cases e:rs[i]? with
 | none=>unfold lf; rw [List.getD_eq_getElem?_getD,e]; exact Nat.zero_le _
 | some r=>rw [vQ e]; exact (h.2 r (List.mem_of_getElem? e)).1
theorem qK {rs:List zx} (h:jr rs) (i m:Nat):(ovI rs i m).length <= m * 100:=by
 induction m with
 | zero=>exact Nat.zero_le _
 | succ m ih =>
  rw [xp,List.length_append]
  have h1:=w4 rs i m (lf rs i).length
  have h2:=Qa h i
  omega
theorem kJ {rs:List zx} (h:jr rs) (m:Nat):(ovA rs m).length <= m * 3000:=by
 induction m with
 | zero=>exact Nat.zero_le _
 | succ m ih =>
  rw [xP,List.length_append]
  have h1:=qK h m rs.length
  have h2:=h.1
  omega
theorem xI (l m:List Nat) (k:Nat):zR l m k = true ↔ ∀ j,j < m.length -> k + j < l.length -> l[k + j]? = m[j]?:=by
 unfold zR
 rw [decide_eq_true_eq]
 constructor
 ·intro h j hj hk
  have h1:((l.drop k).take m.length)[j]? = (m.take (l.length - k))[j]?:=by rw [h]
  rw [List.getElem?_take_of_lt hj,List.getElem?_drop,List.getElem?_take_of_lt (by omega)] at h1
  exact h1
 ·intro h
  refine List.ext_getElem? fun j=>?_
  by_cases hj:j < m.length
  ·rw [List.getElem?_take_of_lt hj,List.getElem?_drop]
   by_cases hk:k + j < l.length
   ·rw [List.getElem?_take_of_lt (by omega)]
    exact h j hj hk
   ·rw [List.getElem?_eq_none (by omega),List.getElem?_eq_none (by rw [List.length_take]; omega)]
  ·rw [List.getElem?_eq_none (by rw [List.length_take]; omega),List.getElem?_eq_none (by rw [List.length_take]; omega)]
def uf:Sp:=fun vs H Q _=>∃ (l m:List Nat) (k:Nat),vs = [.str (tx l),.str (tx m),.int (k:Nat)] /\ l.length <= 1000 /\ m.length <= 1000 /\ k <= l.length /\ Q (.bl (zR l m k)) H
theorem jZ {l m:List Nat} {k:Nat} {H:Hp} {Q:VK} {E:XK} (h1:l.length <= 1000) (h2:m.length <= 1000) (h3:k <= l.length) (h:Q (.bl (zR l m k)) H):uf [.str (tx l),.str (tx m),.int (k:Nat)] H Q E:=⟨l,m,k,rfl,h1,h2,h3,h⟩
theorem WW:zq ["one", "other", "place"] ["one", "other", "place"] (zb vC):=⟨rfl,rfl,rfl,by decide +kernel,rfl,by decide +kernel,by decide +kernel⟩
theorem Vf {f:Addr} {fd:FuncData} (B:Bt mg)  (F:Fun K "agree" "agree" vC f fd)  : yo P w K mg base CX0 1 f fd ["one", "other", "place"] uf:=by
 refine F.ok WW (fun vs H Q E h=>?_) (fun cdv A outer s H vs Q E hr h=>?_)
 ·obtain ⟨l,m,k,rfl,_⟩:=h
  rfl
 ·obtain ⟨l,m,k,rfl,hl,hm,hk,q⟩:=h
  refine ⟨_,(zf (zu (xW vS (zX Zu (pv 0) (zZ (pv 2)) (zZ (zw zW (pv 2) (zp yg rfl B.len PySem.boot_len (za (pv 1) zc))))) (zX Zu (pv 1) yP (zZ (zw wp (zp yg rfl B.len PySem.boot_len (za (pv 0) zc)) (pv 2)))) (zI _)))),?_⟩
  have s16:=yl
  rfl'
  refine ⟨by omega,by omega,by omega,by omega,?_⟩
  rw [Yo _ (by omega) (by omega),Zh _ (by omega)]
  have e1:((k:Int) + (m.length:Int) - (k:Int)).toNat = m.length:=by omega
  have e2:((l.length:Int) - (k:Int)).toNat = l.length - k:=by omega
  rw [e1,e2]
  exact q
def yu (K:PySem.W.Frag):Sp:=fun vs H Q _=>∃ (a:Addr) (rs:List zx),vs = [.ref a] /\ Is K H (.lst (rs.map dR)) (.ref a) /\ jr rs /\ ∀ D H',H D = none -> Same H H' -> LsA K H' D ((ovA rs rs.length).map d3) -> Q (.ref D) H'
theorem vO {a:Addr} {rs:List zx} {H:Hp} {Q:VK} {E:XK} (h1:Is K H (.lst (rs.map dR)) (.ref a)) (h2:jr rs) (h:∀ D H',H D = none -> Same H H' -> LsA K H' D ((ovA rs rs.length).map d3) -> Q (.ref D) H'):yu K [.ref a] H Q E:=⟨a,rs,rfl,h1,h2,h⟩
theorem sc_overlaps:zq ["rules", "found", "i", "one", "j", "other", "place"] ["rules"] (zb yX):=⟨rfl,rfl,rfl,by decide +kernel,rfl,by decide +kernel,by decide +kernel⟩
theorem ky {f:Addr} {fd:FuncData} (B:Bt mg)  (F:Fun K "overlaps" "overlaps" yX f fd) (D_agree:Df P w K mg base CX0 1 "agree" ["one", "other", "place"] [] uf):yo P w K mg base CX0 2 f fd ["rules"] (yu K):=by
 refine F.ok sc_overlaps (fun vs H Q E h=>?_) (fun cdv A outer s H vs Q E hr h=>?_)
 ·obtain ⟨a,rs,rfl,_⟩:=h
  rfl
 ·obtain ⟨a,rs,rfl,hR,ok,q⟩:=h
  refine ⟨_,(zH (zl (i:=1) sc_overlaps.nd rfl (Or.inl rfl) (wk zc))
   (zH (yq PassesOwn.never rfl (uc rfl B.enum (za (pv 0) zc)) (xD (n:=2) rfl (zB (zr (i:=2) sc_overlaps.nd rfl (Or.inl rfl)) (zB (zr (i:=3) sc_overlaps.nd rfl (Or.inl rfl)) yK)))
    (zf (yq PassesOwn.never rfl (uc rfl B.enum (za (pv 0) zc)) (xD (n:=2) rfl (zB (zr (i:=4) sc_overlaps.nd rfl (Or.inl rfl)) (zB (zr (i:=5) sc_overlaps.nd rfl (Or.inl rfl)) yK)))
     (zf (yq PassesOwn.never rfl (jB rfl B.range (za (WY (zF vS (pv 2) (pv 4) (zI _)) zg zg) (za (zp yg rfl B.len PySem.boot_len (za (zC ix_tup (pv 3) zg (fun _ _=>rfl)) zc)) zc))) (zr (i:=6) sc_overlaps.nd rfl (Or.inl rfl))
      (zf (yh (wN (cl0 D_agree hr .nil rfl (za (zC ix_tup (pv 3) zg (fun _ _=>rfl)) (za (zC ix_tup (pv 5) zg (fun _ _=>rfl)) (za (pv 6) zc)))) (fun _=>rfl))
       (zf (xj (wY PySem.F.plainAttrs_list PySem.F.slot_list_append PySem.F.type_list_append yk (pv 1) (za (yr (za (pv 2) (za (pv 4) (za (pv 6) zc)))) zc))))
       zE)))))))
   (zf (zu (pv 1))))),?_⟩
  have s16:=yl
  rfl'
  simp only [Is] at hR
  obtain ⟨_,xs,e,hX,hI⟩:=hR
  cases e
  refine ⟨by omega,fun D hD=>⟨⟨_,(zd hD).seq hX⟩,ForEL.by (xs:=xs) (fun i σ H'=>∃ v2 v3 v4 v5 v6,σ = [some (.ref a),some (.ref D),v2,v3,v4,v5,v6] /\ Same H H' /\ LsA K H' D ((ovA rs i).map d3)) ⟨none,none,none,none,none,rfl,zd hD,LsA.nil⟩ ?_ ?_ ?_⟩⟩
  ·rintro i σ H' hi ⟨v2,v3,v4,v5,v6,rfl,hs,_⟩
   exact hs.seq hX
  ·rintro i x σ H' p hx ⟨v2,v3,v4,v5,v6,rfl,hs,hL⟩ hp
   obtain ⟨r,pr,hri,rfl,hqr⟩:=hI.getR hx
   have er:=vQ hri
   have hr1:=(ok.2 r (List.mem_of_getElem? hri)).1
   rfl'
   refine ⟨_,SqT.of ze,rfl,_,_,rfl,_,_,rfl,rfl,⟨_,((hs.trans (zd hp)).seq hX)⟩,ForEL.by (xs:=xs) (fun j σ H''=>∃ v4 v5 v6,σ = [some (.ref a),some (.ref D),some (.int (i:Nat)),some (.ref pr),v4,v5,v6] /\ Same H H'' /\ LsA K H'' D ((ovA rs i ++ ovI rs i j).map d3)) ⟨v4,v5,v6,rfl,hs.trans (zd hp),by rw [show ovI rs i 0 = [] from rfl,List.append_nil]; exact hL.same (zd hp)⟩ ?_ ?_ ?_⟩
   ·rintro j σ H2 hj ⟨v4,v5,v6,rfl,hs2,_⟩
    exact hs2.seq hX
   ·rintro j y σ H2 p2 hy ⟨v4,v5,v6,rfl,hs2,hL2⟩ hp2
    obtain ⟨r2,pr2,hri2,rfl,hqr2⟩:=hI.getR hy
    have er2:=vQ hri2
    have hr2:=(ok.2 r2 (List.mem_of_getElem? hri2)).1
    have hs3:=hs2.trans (zd (o:=.tup [.int (j:Nat),.ref pr2]) hp2)
    have hq1:=zD hs3 hqr
    have el:(tx r.1).length = r.1.length:=zO _
    rfl'
    refine ⟨_,SqT.of ze,rfl,_,_,rfl,_,_,rfl,rfl,rfl,yE (fun h=>?_) fun h=>?_⟩
    ·have hij:i = j:=by injection h with h; omega
     have z0:wg rs i j (1 + 0) = []:=by
      subst hij
      rw [show 1 + 0 = 0 + 1 from rfl,wb]
      simp [wg]
     have zn:wg rs i j (1 + ((r.1.length:Int) - 1).toNat) = wg rs i j r.1.length:=by
      by_cases h0:r.1.length = 0
      ·rw [h0]
       exact z0
      ·rw [show 1 + ((r.1.length:Int) - 1).toNat = r.1.length by omega]
     refine ⟨_,hq1,_,rfl,_,⟨by omega,rfl⟩,by decide,by decide,by omega,by omega,ForR.by (fun t σ H3=>∃ v6,σ = [some (.ref a),some (.ref D),some (.int (i:Nat)),some (.ref pr),some (.int (j:Nat)),some (.ref pr2),v6] /\ Same H H3 /\ LsA K H3 D ((ovA rs i ++ ovI rs i j ++ wg rs i j (1 + t)).map d3)) ⟨v6,rfl,hs3,(by rw [z0,List.append_nil]; exact hL2.same (zd hp2))⟩ ?_ ?_⟩
     ·rintro n σ H3 hn ⟨v6,rfl,hs4,hL4⟩
      have hn':1 + n < r.1.length:=by omega
      have en:((1:Int) + (n:Int)) = ((1 + n:Nat):Int):=by omega
      rw [en]
      obtain ⟨ys,hY,hJ⟩:=hL4
      have hlen:=hJ.len
      have l1:=kJ ok i
      have l2:=qK ok i j
      have l3:=w4 rs i j (1 + n)
      have i1:=(List.getElem?_eq_some_iff.mp hri).1
      have i2:=(List.getElem?_eq_some_iff.mp hri2).1
      have i3:=ok.1
      simp only [List.length_map,List.length_append] at hlen
      have es:=wb rs i j (1 + n)
      have etest:(decide (i ≠ j) || decide (1 + n ≠ 0)) = true:=by rw [show decide (1 + n ≠ 0) = true from decide_eq_true (by omega),Bool.or_true]
      rw [etest,Bool.true_and,er,er2] at es
      rfl'
      refine ⟨_,zD hs4 hqr,_,rfl,_,zD hs4 hqr2,_,rfl,jZ (by omega) (by omega) (by omega) ⟨_,rfl,yE (fun hb=>⟨.inl ⟨_,SqL.of hY⟩,by omega,fun t ht=>⟨_,zd ht _ _ hY,by omega,zK (hs4.trans (zd ht)) hD,?_⟩⟩) fun hb=>⟨hs4,ys,hY,?_⟩⟩⟩
      ·rw [hb,if_pos rfl] at es
       rw [show 1 + (n + 1) = 1 + n + 1 by omega,es,<- List.append_assoc,List.map_append]
       exact LsA.pushT hY hJ ht Up (vV _) (by simp only [yp,xU,and_self])
      ·have hb':zR r.1 r2.1 (1 + n) = false:=by simpa using hb
       rw [hb',if_neg Bool.false_ne_true,List.append_nil] at es
       rw [show 1 + (n + 1) = 1 + n + 1 by omega,es]
       exact hJ
     ·rintro σ H3 ⟨v6,rfl,hs4,hL4⟩
      refine ⟨⟨_,_,_,rfl⟩,hs4,?_⟩
      rw [xp,er,<- List.append_assoc]
      rw [el,zn] at hL4
      exact hL4
    ·have hij:i ≠ j:=fun z=>h (by rw [z])
     refine ⟨_,hq1,_,rfl,_,⟨by omega,rfl⟩,by decide,by decide,by omega,by omega,ForR.by (fun t σ H3=>∃ v6,σ = [some (.ref a),some (.ref D),some (.int (i:Nat)),some (.ref pr),some (.int (j:Nat)),some (.ref pr2),v6] /\ Same H H3 /\ LsA K H3 D ((ovA rs i ++ ovI rs i j ++ wg rs i j (0 + t)).map d3)) ⟨v6,rfl,hs3,(by rw [show wg rs i j (0 + 0) = [] from rfl,List.append_nil]; exact hL2.same (zd hp2))⟩ ?_ ?_⟩
     ·rintro n σ H3 hn ⟨v6,rfl,hs4,hL4⟩
      have hn':0 + n < r.1.length:=by omega
      have en:((0:Int) + (n:Int)) = ((0 + n:Nat):Int):=by omega
      rw [en]
      obtain ⟨ys,hY,hJ⟩:=hL4
      have hlen:=hJ.len
      have l1:=kJ ok i
      have l2:=qK ok i j
      have l3:=w4 rs i j (0 + n)
      have i1:=(List.getElem?_eq_some_iff.mp hri).1
      have i2:=(List.getElem?_eq_some_iff.mp hri2).1
      have i3:=ok.1
      simp only [List.length_map,List.length_append] at hlen
      have es:=wb rs i j (0 + n)
      have etest:(decide (i ≠ j) || decide (0 + n ≠ 0)) = true:=by rw [show decide (i ≠ j) = true from decide_eq_true hij,Bool.true_or]
      rw [etest,Bool.true_and,er,er2] at es
      rfl'
      refine ⟨_,zD hs4 hqr,_,rfl,_,zD hs4 hqr2,_,rfl,jZ (by omega) (by omega) (by omega) ⟨_,rfl,yE (fun hb=>⟨.inl ⟨_,SqL.of hY⟩,by omega,fun t ht=>⟨_,zd ht _ _ hY,by omega,zK (hs4.trans (zd ht)) hD,?_⟩⟩) fun hb=>⟨hs4,ys,hY,?_⟩⟩⟩
      ·rw [hb,if_pos rfl] at es
       rw [show 0 + (n + 1) = 0 + n + 1 by omega,es,<- List.append_assoc,List.map_append]
       exact LsA.pushT hY hJ ht Up (vV _) (by simp only [yp,xU,and_self])
      ·have hb':zR r.1 r2.1 (0 + n) = false:=by simpa using hb
       rw [hb',if_neg Bool.false_ne_true,List.append_nil] at es
       rw [show 0 + (n + 1) = 0 + n + 1 by omega,es]
       exact hJ
     ·rintro σ H3 ⟨v6,rfl,hs4,hL4⟩
      refine ⟨⟨_,_,_,rfl⟩,hs4,?_⟩
      rw [xp,er,<- List.append_assoc]
      rw [el,show 0 + ((r.1.length:Int) - 0).toNat = r.1.length by omega] at hL4
      exact hL4
   ·rintro σ H2 ⟨v4,v5,v6,rfl,hs2,hL2⟩
    have e:=hI.len
    rw [List.length_map] at e
    rw [e,<- xP] at hL2
    exact ⟨⟨_,_,_,_,_,rfl⟩,hs2,hL2⟩
  ·rintro σ H' ⟨v2,v3,v4,v5,v6,rfl,hs,hL⟩
   have e:=hI.len
   rw [List.length_map] at e
   rw [e] at hL
   rfl'
   exact q D H' hD hs hL
def yf (l m:List Nat) (k:Nat):List Nat:=l ++ m.drop (l.length - k)
theorem vg (l m:List Nat) (k:Nat) (hk:k <= l.length):(yf l m k).length = max l.length (k + m.length):=by
 unfold yf
 rw [List.length_append,List.length_drop]
 omega
theorem qd (l m:List Nat) (k:Nat):zA (yf l m k) 0 l = true:=by
  unfold zA yf
  refine decide_eq_true ⟨by decide,by rw [List.length_append]; omega,?_⟩
  rw [show (0:Int).toNat = 0 from rfl,List.drop_zero,List.take_append_of_le_length (Nat.le_refl _),List.take_length]
theorem uT {l m:List Nat} {k:Nat} (hk:k <= l.length) (h:zR l m k = true):zA (yf l m k) (k:Nat) m = true:=by
 unfold zR at h
 rw [decide_eq_true_eq] at h
 have hl:=vg l m k hk
 unfold zA
 refine decide_eq_true ⟨by omega,by omega,?_⟩
 rw [show ((k:Nat):Int).toNat = k from rfl]
 unfold yf
 rw [List.drop_append_of_le_length hk]
 by_cases hm:m.length <= l.length - k
 ·rw [List.take_append_of_le_length (by rw [List.length_drop]; omega),h,List.take_of_length_le hm]
 ·rw [List.take_of_length_le (by rw [List.length_drop]; omega)] at h
  rw [h,List.take_append_drop,List.take_length]
theorem WF {rs:List zx} {i j n:Nat} {t:N3} (h:t ∈ wg rs i j n):t.1 = i /\ t.2.1 = j /\ t.2.2 < n /\ zR (lf rs i) (lf rs j) t.2.2 = true:=by
 unfold wg at h
 obtain ⟨k,hk,rfl⟩:=List.mem_map.mp h
 rw [List.mem_filter,List.mem_range,Bool.and_eq_true] at hk
 exact ⟨rfl,rfl,hk.1,hk.2.2⟩
theorem kH {rs:List zx} {t:N3} (h:t ∈ ovA rs rs.length):t.1 < rs.length /\ t.2.1 < rs.length /\ t.2.2 < (lf rs t.1).length /\ zR (lf rs t.1) (lf rs t.2.1) t.2.2 = true:=by
 unfold ovA ovI at h
 obtain ⟨i,hi,h⟩:=List.mem_flatMap.mp h
 obtain ⟨j,hj,h⟩:=List.mem_flatMap.mp h
 obtain ⟨e1,e2,e3,e4⟩:=WF h
 rw [e1,e2]
 exact ⟨List.mem_range.mp hi,List.mem_range.mp hj,e3,e4⟩
def qG (K:PySem.W.Frag):Sp:=fun vs H Q _=>∃ (a t:Addr) (rs:List zx) (i j k:Nat) (r r2:zx),vs = [.ref a,.ref t] /\ Is K H (.lst (rs.map dR)) (.ref a) /\ SqT K H t [.int (i:Nat),.int (j:Nat),.int (k:Nat)] /\ jr rs /\ rs[i]? = some r /\ rs[j]? = some r2 /\ k <= r.1.length /\ zR r.1 r2.1 k = true /\
 ∀ p H',H p = none -> Same H H' -> H' p = some (.tup [.str (tx (yf r.1 r2.1 k)),.str (tx (wH (yf r.1 r2.1 k) 0 r.1 r.2)),.str (tx (wH (yf r.1 r2.1 k) (k:Nat) r2.1 r2.2))]) -> Q (.ref p) H'
theorem Wx {a t:Addr} {rs:List zx} {i j k:Nat} {r r2:zx} {H:Hp} {Q:VK} {E:XK} (h1:Is K H (.lst (rs.map dR)) (.ref a)) (h2:SqT K H t [.int (i:Nat),.int (j:Nat),.int (k:Nat)]) (h3:jr rs) (h4:rs[i]? = some r) (h5:rs[j]? = some r2) (h6:k <= r.1.length) (h7:zR r.1 r2.1 k = true)
 (h:∀ p H',H p = none -> Same H H' -> H' p = some (.tup [.str (tx (yf r.1 r2.1 k)),.str (tx (wH (yf r.1 r2.1 k) 0 r.1 r.2)),.str (tx (wH (yf r.1 r2.1 k) (k:Nat) r2.1 r2.2))]) -> Q (.ref p) H'):qG K [.ref a,.ref t] H Q E:=⟨a,t,rs,i,j,k,r,r2,rfl,h1,h2,h3,h4,h5,h6,h7,h⟩
theorem Xf {CU:Addr} {l o n:List Nat} {k:Int} {H:Hp} {Q:VK} {E:XK} (h1:l.length <= 10000) (h2:o.length <= 10000) (h3:n.length <= 10000) (hs:zA l k o = true) (q:Q (.str (tx (wH l k o n))) H):jv CU [.str (tx l),.int k,.str (tx o),.str (tx n)] H Q E:=⟨l,o,n,k,rfl,h1,h2,h3,fun _=>q,fun h=>by rw [hs] at h; cases h⟩
theorem sc_peak:zq ["rules", "overlap", "one", "other", "place", "word"] ["rules", "overlap"] (zb qp):=⟨rfl,rfl,rfl,by decide +kernel,rfl,by decide +kernel,by decide +kernel⟩
theorem VN {f CU:Addr} {fd:FuncData} (B:Bt mg)  (F:Fun K "peak" "peak" qp f fd) (D_put:Df P w K mg base (CXx P w) 3 "put" ["word", "place", "old", "new"] [] (jv CU)):yo P w K mg base CX0 4 f fd ["rules", "overlap"] (qG K):=by
 refine F.ok sc_peak (fun vs H Q E h=>?_) (fun cdv A outer s H vs Q E hr h=>?_)
 ·obtain ⟨a,t,rs,i,j,k,r,r2,rfl,_⟩:=h
  rfl
 ·obtain ⟨a,t,rs,i,j,k,r,r2,rfl,hR,ht,ok,hr1,hr2,hk,hag,q⟩:=h
  refine ⟨_,(zh (zl (i:=2) sc_peak.nd rfl (Or.inl rfl) (zC ix_list (pv 0) (zC ix_tup (pv 1) zg (fun _ _=>rfl)) (fun _ _=>rfl)))
   (zh (zl (i:=3) sc_peak.nd rfl (Or.inl rfl) (zC ix_list (pv 0) (zC ix_tup (pv 1) zg (fun _ _=>rfl)) (fun _ _=>rfl)))
   (zh (zl (i:=4) sc_peak.nd rfl (Or.inl rfl) (zC ix_tup (pv 1) zg (fun _ _=>rfl)))
   (zh (zl (i:=5) sc_peak.nd rfl (Or.inl rfl) (zw zW (zC ix_tup (pv 2) zg (fun _ _=>rfl)) (zX Zu (zC ix_tup (pv 3) zg (fun _ _=>rfl)) (zZ (zw wp (zp yg rfl B.len PySem.boot_len (za (zC ix_tup (pv 2) zg (fun _ _=>rfl)) zc)) (pv 4))) yP)))
   (zf (zu (yr (za (pv 5) (za (clP xe0 D_put hr .nil rfl (za (pv 5) (za zg (za (zC ix_tup (pv 2) zg (fun _ _=>rfl)) (za (zC ix_tup (pv 2) zg (fun _ _=>rfl)) zc))))) (za (clP xe0 D_put hr .nil rfl (za (pv 5) (za (pv 4) (za (zC ix_tup (pv 3) zg (fun _ _=>rfl)) (za (zC ix_tup (pv 3) zg (fun _ _=>rfl)) zc))))) zc)))))))))),?_⟩
  have s16:=yl
  simp only [Is] at hR
  obtain ⟨_,xs,e,hX,hI⟩:=hR
  cases e
  obtain ⟨p1,a1,q1⟩:=UE hI hr1
  obtain ⟨p2,a2,q2⟩:=UE hI hr2
  have b1:=ok.2 r (List.mem_of_getElem? hr1)
  have b2:=ok.2 r2 (List.mem_of_getElem? hr2)
  refine zi (fun σ H'=>H' = H /\ σ = [some (.ref a),some (.ref t),some (.ref p1),none,none,none]) ?_ ?_
  ·rfl'
   exact ⟨_,ht,_,rfl,_,_,rfl,hX,a1⟩
  rintro σ H1 ⟨rfl,rfl⟩
  refine zi (fun σ H'=>H' = H1 /\ σ = [some (.ref a),some (.ref t),some (.ref p1),some (.ref p2),none,none]) ?_ ?_
  ·rfl'
   exact ⟨_,ht,_,rfl,_,_,rfl,hX,a2⟩
  rintro σ H2 ⟨rfl,rfl⟩
  refine zi (fun σ H'=>H' = H2 /\ σ = [some (.ref a),some (.ref t),some (.ref p1),some (.ref p2),some (.int (k:Nat)),none]) ?_ ?_
  ·rfl'
   exact ⟨_,ht,rfl⟩
  rintro σ H3 ⟨rfl,rfl⟩
  refine zi (fun σ H'=>H' = H3 /\ σ = [some (.ref a),some (.ref t),some (.ref p1),some (.ref p2),some (.int (k:Nat)),some (.str (tx (yf r.1 r2.1 k)))]) ?_ ?_
  ·rfl'
   refine ⟨_,q1,_,rfl,_,q2,_,rfl,_,q1,_,rfl,_,⟨by rw [zO]; omega,rfl⟩,.inr ⟨_,rfl,by rw [zO]; omega,_,rfl,?_,?_⟩⟩
   ·rw [zO,jF]
    have:=yR r2.1 (some ((r.1.length:Int) - (k:Int))) none
    omega
   ·rw [zO,jF,xG,vh _ (by omega),show ((r.1.length:Int) - (k:Int)).toNat = r.1.length - k by omega]
    rfl
  rintro σ H4 ⟨rfl,rfl⟩
  have hw:=vg r.1 r2.1 k hk
  rfl'
  exact ⟨_,q1,_,rfl,_,q1,_,rfl,Xf (by omega) (by omega) (by omega) (qd _ _ _) ⟨_,q2,_,rfl,_,q2,_,rfl,Xf (by omega) (by omega) (by omega) (uT hk hag) ⟨by omega,fun p hp=>q p _ hp (zd hp) ze⟩⟩⟩
def FmOk (ps:List zx) (most:Int) (m:Str -> Option V):Prop:=∀ k v,m k = some v -> ∃ (w:List Nat) (J:Nat),k = tx w /\ v = .str (tx (wAt ps w J)) /\ kj ps w J /\ zt (wAt ps w J) ps = none /\ (J:Int) <= most
theorem FmOk.get {ps:List zx} {most:Int} {m:Str -> Option V} (h:FmOk ps most m) {w:List Nat} {v:V} (e:m (tx w) = some v) {J:Nat} (hl:kj ps w J) (hf:zt (wAt ps w J) ps = none):v = .str (tx (wAt ps w J)):=by
 obtain ⟨w',J',e1,e2,e3,e4,_⟩:=h _ _ e
 have e5:=j4 e1
 subst e5
 rw [e2,Zr e3 e4 hl hf]
theorem FmOk.put {ps:List zx} {most:Int} {m:Str -> Option V} (h:FmOk ps most m) {w:List Nat} {J:Nat} (hl:kj ps w J) (hf:zt (wAt ps w J) ps = none) (hJ:(J:Int) <= most):FmOk ps most (fun x=>if x = tx w then some (.str (tx (wAt ps w J))) else m x):=fun k v e=>by
 by_cases hk:k = tx w
 ·simp only [hk,if_true] at e
  cases e
  exact ⟨w,J,hk,rfl,hl,hf,hJ⟩
 ·simp only [hk,if_false] at e
  exact h k v e
def jp (P:Program) (w:World) (K:PySem.W.Frag) (CF:Addr):Sp:=fun vs H Q E=>∃ (a F:Addr) (l:List Nat) (ps:List zx) (m:Int) (J n:Nat) (mp:Str -> Option V),vs = [.ref a,.str (tx l),.int m,.ref F] /\ LsA K H a (ps.map dR) /\ NeL ps /\ ps.length <= 100 /\ (∀ p ∈ ps,p.1.length <= 1000 /\ p.2.length <= 1000) /\ Rd ps l J /\ H F = some (uJ P w F mp n) /\ FmOk ps m mp /\ n <= 10000 /\
 ((zt (wAt ps l J) ps = none /\ (J:Int) <= m /\ ∀ (mp':Str -> Option V) (n':Nat) (H':Hp),SamT F H H' -> H' F = some (uJ P w F mp' n') -> FmOk ps m mp' -> n' <= n + 1 -> Q (.str (tx (wAt ps l J))) H') \/
  (zt (wAt ps l J) ps ≠ none /\ (J:Int) = m /\ ∀ H',Same H H' -> E (.ref CF) none H'))
theorem Z8:zq ["rules", "word", "most", "forms"] ["rules", "word", "most", "forms"] (zb xH):=⟨rfl,rfl,rfl,by decide +kernel,rfl,by decide +kernel,by decide +kernel⟩
theorem Z3 {f CF:Addr} {fd:FuncData} {dt_gone:Tok} (B:Bt mg)  (F:Fun K "form_of" "form_of" xH f fd) (D_gone:Df P w K mg base (CXx P w) 4 "gone" ["rules", "word", "most"] [] (uq K CF)) (DD_gone:Df P w K mg base (CXx P w) 4 "gone" ["rules", "word", "most"] [.int 4000 dt_gone] (uq K CF)):yo P w K mg base (CXx P w) 5 f fd ["rules", "word", "most", "forms"] (jp P w K CF):=by
 refine Fun.okX F Z8 (fun vs H Q E h=>?_) (fun cdv A outer s H vs Q E hr hx h=>?_)
 ·obtain ⟨a,F0,l,ps,m,J,n,mp,rfl,_⟩:=h
  rfl
 ·obtain ⟨a,F0,l,ps,m,J,n,mp,rfl,hA,hN,hpl,hP,hR,hF,hM,hn,hq⟩:=h
  refine ⟨_,(zh (yh (zF WT (pv 1) (pv 3) (by with_unfolding_all rfl))
    (zf (ZA (zC ix_tup (clP hx D_gone hr .nil rfl (za (pv 0) (za (pv 1) (za (pv 2) zc)))) zg (fun _ _=>rfl)) (Qc (pv 3) (pv 1) Wr (by intro _; rfl))))
    zE)
   (zf (zu (zC Ut (pv 3) (pv 1) (fun _ _=>rfl))))),?_⟩
  have s16:=yl
  have s16:=yl
  refine zi (fun σ H'=>SamT F0 H H' /\ zt (wAt ps l J) ps = none /\ (J:Int) <= m /\ (∃ (mp':Str -> Option V) (n':Nat),H' F0 = some (uJ P w F0 mp' n') /\ FmOk ps m mp' /\ n' <= n + 1 /\ mp' (tx l) = some (.str (tx (wAt ps l J)))) /\ σ = [some (.ref a),some (.str (tx l)),some (.int m),some (.ref F0)]) ?_ ?_
  ·rfl'
   refine ⟨F0,mp,n,tx l,rfl,rfl,hF,_,rfl,yE (fun hnone=>⟨a,l,ps,m,J,rfl,hA,hN,hpl,hP,hR,?_⟩) fun hsome=>?_⟩
   ·rcases hq with ⟨hf,hJ,_⟩ | h
    ·refine .inl ⟨hf,hJ,fun p S H' s' hp _ _=>⟨p,rfl,_,SqT.of hp,_,rfl,?_⟩⟩
     simp only [JZ]
     rfl'
     exact ⟨F0,mp,n,tx l,rfl,rfl,s' _ _ hF,by omega,fun b o hb e=>by rw [zo hb]; exact s' _ _ e,hf,hJ,_,_,ze,hM.put hR.live hf hJ,Nat.le_refl _,if_pos rfl⟩
    ·exact .inr h
   ·cases hv:mp (tx l) with
    | none=>rw [hv] at hsome; exact absurd rfl hsome
    | some v =>
     obtain ⟨w',J',e1,e2,e3,e4,e5⟩:=hM _ _ hv
     have e6:=j4 e1
     subst e6
     rcases hq with ⟨hf,hJ,_⟩ | ⟨hf,hJ,_⟩
     ·exact ⟨fun b o _ e=>e,hf,hJ,mp,n,hF,hM,by omega,by rw [hM.get hv hR.live hf] at hv; exact hv⟩
     ·exfalso
      rcases Nat.lt_or_ge J' J with h | h
      ·exact hR.live J' h e4
      ·have:J' = J:=by omega
       subst this
       exact hf e4
  rintro σ H1 ⟨s1,hf,hJ,⟨mp',n',h1,h2,h3,h4⟩,rfl⟩
  rfl'
  refine ⟨F0,mp',n',tx l,_,rfl,rfl,h1,h4,?_⟩
  rcases hq with ⟨_,_,q⟩ | ⟨h,_⟩
  ·exact q mp' n' H1 s1 h1 h2 h3
  ·exact absurd hf h
def pkA (ps:List zx) (t:N3):List Nat:=wH (yf (lf ps t.1) (lf ps t.2.1) t.2.2) 0 (lf ps t.1) (ps.getD t.1 ([],[])).2
def pkB (ps:List zx) (t:N3):List Nat:=wH (yf (lf ps t.1) (lf ps t.2.1) t.2.2) (t.2.2:Nat) (lf ps t.2.1) (ps.getD t.2.1 ([],[])).2
inductive UD (ps:List zx) (m:Int) (l:List Nat):Option Nat -> Prop where
 | yes {J:Nat} (h:Rd ps l J) (h1:zt (wAt ps l J) ps = none) (h2:(J:Int) <= m):UD ps m l (some J)
 | no {J:Nat} (h:Rd ps l J) (h1:zt (wAt ps l J) ps ≠ none) (h2:(J:Int) = m):UD ps m l none
def ve (P:Program) (w:World) (K:PySem.W.Frag) (CF:Addr):Sp:=fun vs H Q E=>∃ (a t F:Addr) (ps:List zx) (tr:N3) (m:Int) (n:Nat) (mp:Str -> Option V) (g1 g2:Option Nat),vs = [.ref a,.ref t,.int m,.ref F] /\ LsA K H a (ps.map dR) /\ NeL ps /\ jr ps /\ SqT K H t [.int (tr.1:Nat),.int (tr.2.1:Nat),.int (tr.2.2:Nat)] /\ tr ∈ ovA ps ps.length /\ H F = some (uJ P w F mp n) /\ FmOk ps m mp /\ n <= 9000 /\ UD ps m (pkA ps tr) g1 /\ UD ps m (pkB ps tr) g2 /\
 (∀ (J1 J2:Nat) (mp':Str -> Option V) (n':Nat) (H':Hp),g1 = some J1 -> g2 = some J2 -> SamT F H H' -> H' F = some (uJ P w F mp' n') -> FmOk ps m mp' -> n' <= n + 2 -> Q (.bl (decide (wAt ps (pkA ps tr) J1 = wAt ps (pkB ps tr) J2))) H') /\
 ((g1 = none \/ g2 = none) -> ∀ H',SamT F H H' -> E (.ref CF) none H')
theorem Zy {P:Program} {w:World} {CF a F:Addr} {l:List Nat} {ps:List zx} {m:Int} {n:Nat} {mp:Str -> Option V} {g:Option Nat} {H:Hp} {Q:VK} {E:XK} (hA:LsA K H a (ps.map dR)) (hN:NeL ps) (hok:jr ps) (hF:H F = some (uJ P w F mp n)) (hM:FmOk ps m mp) (hn:n <= 10000) (hg:UD ps m l g)
  (h1:∀ (J:Nat) (mp':Str -> Option V) (n':Nat) (H':Hp),g = some J -> SamT F H H' -> H' F = some (uJ P w F mp' n') -> FmOk ps m mp' -> n' <= n + 1 -> Q (.str (tx (wAt ps l J))) H') (h2:g = none -> ∀ H',Same H H' -> E (.ref CF) none H'):jp P w K CF [.ref a,.str (tx l),.int m,.ref F] H Q E:=by
 have hP:∀ p ∈ ps,p.1.length <= 1000 /\ p.2.length <= 1000:=fun p hp=>by have:=hok.2 p hp; omega
 have hl:ps.length <= 100:=by have:=hok.1; omega
 cases hg with
 | yes h e1 e2=>exact ⟨a,F,l,ps,m,_,n,mp,rfl,hA,hN,hl,hP,h,hF,hM,hn,.inl ⟨e1,e2,fun mp' n' H' a1 a2 a3 a4=>h1 _ mp' n' H' rfl a1 a2 a3 a4⟩⟩
 | no h e1 e2=>exact ⟨a,F,l,ps,m,_,n,mp,rfl,hA,hN,hl,hP,h,hF,hM,hn,.inr ⟨e1,e2,h2 rfl⟩⟩
theorem uu {F t:Addr} {H H':Hp} {P:Program} {w:World} {mp:Str -> Option V} {n:Nat} {xs:List V} (s:SamT F H H') (hF:H F = some (uJ P w F mp n)) (h:SqT K H t xs):SqT K H' t xs:=by
 rcases h with (h | ⟨o,h⟩) | h
 ·exact .inl (.inl (s _ _ (fun z=>by rw [z,hF] at h; cases h) h))
 ·exact .inl (.inr ⟨o,s _ _ (fun z=>by rw [z,hF] at h; cases h) h⟩)
 ·exact .inr h
theorem Zi {F a:Addr} {H H':Hp} {P:Program} {w:World} {mp:Str -> Option V} {n:Nat} {ps:List zx} (s:SamT F H H') (hF:H F = some (uJ P w F mp n)) (h:LsA K H a (ps.map dR)):LsA K H' a (ps.map dR):=by
 obtain ⟨xs,h1,h2⟩:=h
 refine ⟨xs,s _ _ (fun z=>by rw [z,hF] at h1; cases h1) h1,?_⟩
 have key:∀ (qs:List zx) (vs:List V),Iss K H (qs.map dR) vs -> Iss K H' (qs.map dR) vs:=by
  intro qs
  induction qs with
  | nil=>intro vs h; simp only [List.map_nil,Iss] at h ⊢; exact h
  | cons q qs ih =>
   intro vs h
   simp only [List.map_cons,Iss] at h ⊢
   obtain ⟨v,r,e,h3,h4⟩:=h
   obtain ⟨p,rfl,h5⟩:=U6 h3
   exact ⟨_,r,e,ZT (uu s hF h5),ih r h4⟩
 exact key ps xs h2
theorem sc_is_met:zq ["rules", "overlap", "most", "forms", "sides", "one", "other"] ["rules", "overlap", "most", "forms"] (zb wq):=⟨rfl,rfl,rfl,by decide +kernel,rfl,by decide +kernel,by decide +kernel⟩
theorem X6 {f CF:Addr} {fd:FuncData} (B:Bt mg)  (F:Fun K "is_met" "is_met" wq f fd) (D_peak:Df P w K mg base CX0 4 "peak" ["rules", "overlap"] [] (qG K)) (D_form_of:Df P w K mg base (CXx P w) 5 "form_of" ["rules", "word", "most", "forms"] [] (jp P w K CF)):yo P w K mg base (CXx P w) 6 f fd ["rules", "overlap", "most", "forms"] (ve P w K CF):=by
 refine Fun.okX F sc_is_met (fun vs H Q E h=>?_) (fun cdv A outer s H vs Q E hr hx h=>?_)
 ·obtain ⟨a,t,F0,ps,tr,m,n,mp,g1,g2,rfl,_⟩:=h
  rfl
 ·obtain ⟨a,t,F0,ps,tr,m,n,mp,g1,g2,rfl,hA,hN,hok,ht,htr,hF,hM,hn,hg1,hg2,q1,q2⟩:=h
  refine ⟨_,(zh (zl (i:=4) sc_is_met.nd rfl (Or.inl rfl) (cl0 D_peak hr .nil rfl (za (pv 0) (za (pv 1) zc))))
   (zh (zl (i:=5) sc_is_met.nd rfl (Or.inl rfl) (clP hx D_form_of hr .nil rfl (za (pv 0) (za (zC ix_tup (pv 4) zg (fun _ _=>rfl)) (za (pv 2) (za (pv 3) zc))))))
   (zh (zl (i:=6) sc_is_met.nd rfl (Or.inl rfl) (clP hx D_form_of hr .nil rfl (za (pv 0) (za (zC ix_tup (pv 4) zg (fun _ _=>rfl)) (za (pv 2) (za (pv 3) zc))))))
   (zf (zu (xW vS (pv 5) (pv 6) (zI _))))))),?_⟩
  have s16:=yl
  have s16:=yl
  obtain ⟨i1,i2,i3,i4⟩:=kH htr
  obtain ⟨r,hr⟩:∃ r,ps[tr.1]? = some r:=⟨_,List.getElem?_eq_getElem i1⟩
  obtain ⟨r2,hr2⟩:∃ r,ps[tr.2.1]? = some r:=⟨_,List.getElem?_eq_getElem i2⟩
  have l1:=vQ hr
  have l2:=vQ hr2
  have d1:ps.getD tr.1 ([],[]) = r:=by rw [List.getD_eq_getElem?_getD,hr]; rfl
  have d2:ps.getD tr.2.1 ([],[]) = r2:=by rw [List.getD_eq_getElem?_getD,hr2]; rfl
  have eA:pkA ps tr = wH (yf r.1 r2.1 tr.2.2) 0 r.1 r.2:=by unfold pkA; rw [l1,l2,d1]
  have eB:pkB ps tr = wH (yf r.1 r2.1 tr.2.2) (tr.2.2:Nat) r2.1 r2.2:=by unfold pkB; rw [l1,l2,d2]
  rw [l1] at i3
  rw [l1,l2] at i4
  refine zi (fun σ H'=>Same H H' /\ ∃ p:Addr,(∃ x,H' p = some (.tup [x,.str (tx (pkA ps tr)),.str (tx (pkB ps tr))])) /\ σ = [some (.ref a),some (.ref t),some (.int m),some (.ref F0),some (.ref p),none,none]) ?_ ?_
  ·rfl'
   exact Wx hA.is ht hok hr hr2 (by omega) i4 fun p H' _ s' hp=>⟨s',p,⟨_,by rw [eA,eB]; exact hp⟩,rfl⟩
  rintro σ H1 ⟨s1,p,⟨x,hp⟩,rfl⟩
  have hF1:=s1 _ _ hF
  refine zi (fun σ H'=>SamT F0 H1 H' /\ ∃ (J1:Nat),g1 = some J1 /\ (∃ mp' n',H' F0 = some (uJ P w F0 mp' n') /\ FmOk ps m mp' /\ n' <= n + 1) /\ σ = [some (.ref a),some (.ref t),some (.int m),some (.ref F0),some (.ref p),some (.str (tx (wAt ps (pkA ps tr) J1))),none]) ?_ ?_
  ·rfl'
   refine ⟨_,SqT.of hp,_,rfl,Zy (hA.same s1) hN hok hF1 hM (by omega) hg1 (fun J mp' n' H' e a1 a2 a3 a4=>?_) fun e H' s'=>q2 (.inl e) H' (SamT.of (s1.trans s'))⟩
   exact ⟨a1,J,e,⟨mp',n',a2,a3,a4⟩,rfl⟩
  rintro σ H2 ⟨s2,J1,e1,⟨mp1,n1,hF2,hM2,hn2⟩,rfl⟩
  have s12:SamT F0 H H2:=(SamT.of s1).trans s2
  have hpF:p ≠ F0:=fun z=>by rw [z,hF1] at hp; cases hp
  refine zi (fun σ H'=>SamT F0 H2 H' /\ ∃ (J2:Nat),g2 = some J2 /\ (∃ mp' n',H' F0 = some (uJ P w F0 mp' n') /\ FmOk ps m mp' /\ n' <= n + 2) /\ σ = [some (.ref a),some (.ref t),some (.int m),some (.ref F0),some (.ref p),some (.str (tx (wAt ps (pkA ps tr) J1))),some (.str (tx (wAt ps (pkB ps tr) J2)))]) ?_ ?_
  ·rfl'
   exact ⟨_,SqT.of (s2 _ _ hpF hp),_,rfl,Zy (Zi s2 hF1 (hA.same s1)) hN hok hF2 hM2 (by omega) hg2 (fun J mp' n' H' e a1 a2 a3 a4=>⟨a1,J,e,⟨mp',n',a2,a3,by omega⟩,rfl⟩) fun e H' s'=>q2 (.inr e) H' (s12.trans (SamT.of s'))⟩
  rintro σ H3 ⟨s3,J2,e2,⟨mp2,n2,hF3,hM3,hn3⟩,rfl⟩
  rfl'
  exact q1 J1 J2 mp2 n2 H3 e1 e2 (s12.trans s3) hF3 hM3 hn3
def vW (K:PySem.W.Frag) (CH:Addr):Sp:=fun vs H Q _=>∃ (y o q:Addr) (ps:List zx),vs = [.ref y] /\ SysAt K CH H y o q ps /\ ∀ (r:Addr) (H':Hp),Same H H' -> LsA K H' r (ps.map dR) -> H r = none -> Q (.ref r) H'
theorem wE:zq ["self"] ["self"] (zb zL):=⟨rfl,rfl,rfl,by decide +kernel,rfl,by decide +kernel,by decide +kernel⟩
theorem wF {f CH:Addr} {fd:FuncData} (B:Bt mg) (TS:Uw K mg CH) (F:Fun K "rules_told" "System.rules_told" zL f fd)  : yo P w K mg base CX0 1 f fd ["self"] (vW K CH):=by
 refine F.ok wE (fun vs H Q E h=>?_) (fun cdv A outer s H vs Q E hr h=>?_)
 ·obtain ⟨y,o,q,ps,rfl,_⟩:=h
  rfl
 ·obtain ⟨y,o,q,ps,rfl,hy,k⟩:=h
  refine ⟨_,(zf (zu (wj xo rfl B.list PySem.Pv.boot_list (za (Zg (pv 0) rfl) zc)))),?_⟩
  have s16:=yl
  rfl'
  obtain ⟨dx,xs,h1,h2,h3⟩:=hy
  exact ⟨_,_,_,h1,TS.cl,TS.nr,_,rfl,_,rfl,_,.inl (SqL.of h2),fun r hr'=>k r _ (zd hr') ⟨xs,ze,Iss.same (zd hr') _ _ h3⟩ hr'⟩
def Ends (ps:List zx) (v:List Nat):Prop:=∃ J,J <= 4000 /\ Rd ps v J /\ zt (wAt ps v J) ps = none
@[irreducible] def form (ps:List zx) (v:List Nat):List Nat:=wAt ps v 4000
@[irreducible] def rlen (ps:List zx) (v:List Nat):Nat:=((List.range 4001).find? fun j=>(zt (wAt ps v j) ps).isNone).getD 0
theorem wC {ps:List zx} {v:List Nat} {J:Nat} (h:zt (wAt ps v J) ps = none):∀ d,wAt ps v (J + d) = wAt ps v J
 | 0=>rfl
 | d + 1=>by
  show Wc ps (wAt ps v (J + d)) = _
  rw [wC h d]
  unfold Wc
  rw [h]
  rfl
theorem kq {ps:List zx} {v:List Nat} {J:Nat} (hJ:J <= 4000) (h:zt (wAt ps v J) ps = none):form ps v = wAt ps v J:=by
 have:=wC h (4000 - J)
 rw [show J + (4000 - J) = 4000 by omega] at this
 unfold form
 exact this
theorem kc {ps:List zx} {v:List Nat} {J:Nat} (hJ:J <= 4000) (hl:kj ps v J) (h:zt (wAt ps v J) ps = none):rlen ps v = J:=by
 unfold rlen
 cases e:(List.range 4001).find? (fun j=>(zt (wAt ps v j) ps).isNone) with
 | none =>
  have:=List.find?_eq_none.mp e J (List.mem_range.mpr (by omega))
  rw [h] at this
  exact absurd rfl this
 | some i =>
  have h1:=List.find?_some e
  have h2:zt (wAt ps v i) ps = none:=Option.isNone_iff_eq_none.mp h1
  obtain ⟨_,as,bs,e2,h3⟩:=List.find?_eq_some_iff_append.mp e
  have hli:kj ps v i:=fun m hm hn=>by
   have hm':m ∈ as:=by
    have hlen:as.length = i:=by
     have:=congrArg (fun l=>l[as.length]?) e2
     simp only [List.getElem?_append_right (Nat.le_refl _),Nat.sub_self,List.getElem?_cons_zero] at this
     have h6:=List.getElem?_eq_some_iff.mp this
     obtain ⟨h7,h8⟩:=h6
     rw [List.getElem_range] at h8
     exact h8
    have h9:(List.range 4001)[m]? = as[m]?:=by rw [e2,List.getElem?_append_left (by omega)]
    have h10:m < (List.range 4001).length:=by
     have:=congrArg List.length e2
     rw [List.length_append] at this
     omega
    rw [List.getElem?_eq_getElem h10,List.getElem_range] at h9
    exact List.mem_of_getElem? h9.symm
   have:=h3 m hm'
   rw [hn] at this
   cases this
  show i = J
  exact Zr hli h2 hl h
structure Jh (ps:List zx) (v:List Nat):Prop where
 le:rlen ps v <= 4000
 rd:Rd ps v (rlen ps v)
 fin:zt (wAt ps v (rlen ps v)) ps = none
 eq:form ps v = wAt ps v (rlen ps v)
theorem Ends.r {ps:List zx} {v:List Nat} (h:Ends ps v):Jh ps v:=by
 obtain ⟨J,h1,h2,h3⟩:=h
 have e:=kc h1 h2.live h3
 refine ⟨by omega,by rw [e]; exact h2,by rw [e]; exact h3,by rw [e]; exact kq h1 h3⟩
def gOf (ps:List zx) (m:Nat) (v:List Nat):Option Nat:=if rlen ps v <= m then some (rlen ps v) else none
theorem qT {ps:List zx} {v:List Nat} (h:Ends ps v) (m:Nat):UD ps (m:Int) v (gOf ps m v):=by
 have E:=h.r
 unfold gOf
 by_cases hm:rlen ps v <= m
 ·rw [if_pos hm]
  exact .yes E.rd E.fin (by omega)
 ·rw [if_neg hm]
  refine .no (J:=m) ⟨fun i hi=>E.rd.live i (by omega),fun j hj=>E.rd.len j (by omega),by have:=E.le; omega⟩ (E.rd.live m (by omega)) rfl
def wV (ps:List zx) (t:N3):Bool:=decide (form ps (pkA ps t) = form ps (pkB ps t))
def xZ (ps:List zx) (t:N3):Nat:=max (rlen ps (pkA ps t)) (rlen ps (pkB ps t))
theorem XV {ps:List zx} {m:Nat} {t:N3} (h:gOf ps m (pkA ps t) = none \/ gOf ps m (pkB ps t) = none):m < xZ ps t:=by
 unfold xZ
 rcases h with h | h
 ·unfold gOf at h
  split at h
  ·cases h
  ·omega
 ·unfold gOf at h
  split at h
  ·cases h
  ·omega
theorem wB {ps:List zx} {m:Nat} {v:List Nat} {J:Nat} (h:gOf ps m v = some J):J = rlen ps v /\ rlen ps v <= m:=by
 unfold gOf at h
 split at h
 ·cases h; exact ⟨rfl,by assumption⟩
 ·cases h
def PkE (ps:List zx):Prop:=∀ t ∈ ovA ps ps.length,Ends ps (pkA ps t) /\ Ends ps (pkB ps t)
def yD (K:PySem.W.Frag) (CH CF:Addr):Sp:=fun vs H Q E=>∃ (y o q t:Addr) (ps:List zx) (tr:N3) (m:Nat),vs = [.ref y,.ref t,.int (m:Nat)] /\ SysAt K CH H y o q ps /\ NeL ps /\ jr ps /\ SqT K H t [.int (tr.1:Nat),.int (tr.2.1:Nat),.int (tr.2.2:Nat)] /\ tr ∈ ovA ps ps.length /\ PkE ps /\
 (xZ ps tr <= m -> ∀ H',Same H H' -> Q (.bl (wV ps tr)) H') /\ (m < xZ ps tr -> ∀ H',Same H H' -> E (.ref CF) none H')
theorem SamT.same {H H':Hp} {F:Addr} {o:HO} (hF:H F = none) (s:SamT F (upd H F o) H'):Same H H':=fun b o' e=>by
 have hb:b ≠ F:=fun z=>by rw [z,hF] at e; cases e
 exact s b o' hb (by rw [zo hb]; exact e)
theorem FmOk.nil {ps:List zx} {m:Int}:FmOk ps m fun _=>none:=fun k v e=>by cases e
theorem Yr {ps:List zx} {t:N3} {m J1 J2:Nat} (hE:Ends ps (pkA ps t) /\ Ends ps (pkB ps t)) (e1:gOf ps m (pkA ps t) = some J1) (e2:gOf ps m (pkB ps t) = some J2):decide (wAt ps (pkA ps t) J1 = wAt ps (pkB ps t) J2) = wV ps t:=by
 unfold wV
 rw [hE.1.r.eq,hE.2.r.eq,(wB e1).1,(wB e2).1]
theorem Wf:zq ["system", "overlap", "most"] ["system", "overlap", "most"] (zb xT):=⟨rfl,rfl,rfl,by decide +kernel,rfl,by decide +kernel,by decide +kernel⟩
theorem WG {f CF CH:Addr} {fd:FuncData} {dV:Value} (B:Bt mg) (TS:Uw K mg CH) (F:FunD K "meets" "meets" xT dV f fd) (D_is_met:Df P w K mg base (CXx P w) 6 "is_met" ["rules", "overlap", "most", "forms"] [] (ve P w K CF)) (M_system_rules_told:DM P w K mg base CX0 1 CH "rules_told" ["self"] (vW K CH)):yo P w K mg base (CXx P w) 7 f fd ["system", "overlap", "most"] (yD K CH CF):=by
 refine FunD.okX F Wf (fun vs H Q E h=>?_) (fun cdv A outer s H vs Q E hr hx h=>?_)
 ·obtain ⟨y,o,q,t,ps,tr,m,rfl,_⟩:=h
  rfl
 ·obtain ⟨y,o,q,t,ps,tr,m,rfl,hy,hN,hok,ht,htr,hE,k1,k2⟩:=h
  refine ⟨_,(zf (zu (clP hx D_is_met hr .nil rfl (za (me0 M_system_rules_told TS.cl hr (pv 0)) (za (pv 1) (za (pv 2) (za XW zc))))))),?_⟩
  have s16:=yl
  rfl'
  obtain ⟨dx,xs,h1,h2,h3⟩:=id hy
  refine ⟨_,_,h1,rfl,y,o,q,ps,rfl,hy,fun r H1 s1 hA hr'=>?_⟩
  simp only [VE]
  intro F hF
  have s2:=zd (o:=uJ P w F (fun _=>none) 0) hF
  have hE':=hE tr htr
  refine ⟨r,t,F,ps,tr,m,0,_,_,_,rfl,hA.same s2,hN,hok,zD (s1.trans s2) ht,htr,ze,FmOk.nil,by omega,qT hE'.1 m,qT hE'.2 m,fun J1 J2 mp' n' H' e1 e2 sT _ _ _=>?_,fun h H' sT=>k2 (XV h) H' (s1.trans (SamT.same hF sT))⟩
  rw [Yr hE' e1 e2]
  refine k1 ?_ H' (s1.trans (SamT.same hF sT))
  have a1:=(wB e1).2
  have a2:=(wB e2).2
  unfold xZ
  omega
theorem jS {F:Addr} {H H':Hp} {P:Program} {w:World} {mp:Str -> Option V} {n:Nat} (s:SamT F H H') (hF:H F = some (uJ P w F mp n)):∀ {ts:List N3} {vs:List V},Iss K H (ts.map d3) vs -> Iss K H' (ts.map d3) vs
 | [],vs,h=>by simp only [List.map_nil,Iss] at h ⊢; exact h
 | t :: ts,vs,h=>by
  simp only [List.map_cons,Iss] at h ⊢
  obtain ⟨v,r,e,h3,h4⟩:=h
  refine ⟨v,r,e,?_,jS s hF h4⟩
  simp only [d3,Is] at h3 ⊢
  obtain ⟨a,xs,e1,e2,e3⟩:=h3
  refine ⟨a,xs,e1,uu s hF e2,?_⟩
  simp only [Iss,Is] at e3 ⊢
  exact e3
def unL (ps:List zx):List N3:=(ovA ps ps.length).filter fun t=>!wV ps t
def yT (K:PySem.W.Frag) (CH CF:Addr):Sp:=fun vs H Q E=>∃ (y o q:Addr) (ps:List zx) (m:Nat),vs = [.ref y,.int (m:Nat)] /\ SysAt K CH H y o q ps /\ NeL ps /\ jr ps /\ (ovA ps ps.length).length <= 4000 /\ PkE ps /\
 ((∀ t ∈ ovA ps ps.length,xZ ps t <= m) -> ∀ D H',Same H H' -> H D = none -> LsA K H' D ((unL ps).map d3) -> Q (.ref D) H') /\ (∀ t ∈ ovA ps ps.length,m < xZ ps t -> ∀ H',Same H H' -> E (.ref CF) none H')
theorem sc_unmet:zq ["system", "most", "rules", "forms"] ["system", "most"] (zb xr):=⟨rfl,rfl,rfl,by decide +kernel,rfl,by decide +kernel,by decide +kernel⟩
theorem WR {f CF CH:Addr} {fd:FuncData} {dV:Value} (B:Bt mg) (TS:Uw K mg CH) (F:FunD K "unmet" "unmet" xr dV f fd) (D_overlaps:Df P w K mg base CX0 2 "overlaps" ["rules"] [] (yu K)) (D_is_met:Df P w K mg base (CXx P w) 6 "is_met" ["rules", "overlap", "most", "forms"] [] (ve P w K CF)) (M_system_rules_told:DM P w K mg base CX0 1 CH "rules_told" ["self"] (vW K CH)):yo P w K mg base (CXx P w) 7 f fd ["system", "most"] (yT K CH CF):=by
 refine FunD.okX F sc_unmet (fun vs H Q E h=>?_) (fun cdv A outer s H vs Q E hr hx h=>?_)
 ·obtain ⟨y,o,q,ps,m,rfl,_⟩:=h
  rfl
 ·obtain ⟨y,o,q,ps,m,rfl,hy,hN,hok,hlen,hE,k1,k2⟩:=h
  refine ⟨_,(zh (zl (i:=2) sc_unmet.nd rfl (Or.inr rfl) (me0 M_system_rules_told TS.cl hr (pv 0)))
   (zh (zl (i:=3) sc_unmet.nd rfl (Or.inr rfl) XW)
   (zf (zu (YM (EX:=E) (own:=["overlap"]) (caps:=["rules", "most", "forms"]) (ix:=[2,1,3]) (tt:=(Ue (tBl (Ya (ve P w K CF) [] E (yL (wG 1) (yL (wG 0) (yL (wG 2) (yL (wG 3) qf)))))))) (te:=(wG 0)) rfl (yB (sc:=zb xr) rfl (by decide +kernel) (by decide +kernel) (by decide +kernel) rfl (by decide +kernel) (by decide +kernel) rfl) ⟨rfl,rfl⟩ hx (yZ (cl0 D_overlaps hr .nil rfl (za (pv 2) zc))) (fun _ _ _ _ _ _=>zr (i:=0) (show List.Nodup [_,_,_,_] by decide) rfl (Or.inl rfl)) (fun _ _ _ _ _ _ _ hx'=>(Yt (yH (wN (clP hx' D_is_met hr .nil rfl (za (pv 1) (za (pv 0) (za (pv 2) (za (pv 3) zc))))) (fun _=>rfl))))) (fun _ _ _ _ _ _ _ _=>(pv 0))))))),?_⟩
  have s16:=yl
  have s16:=yl
  obtain ⟨dx,xs0,h1,h2,h3⟩:=id hy
  refine zi (fun σ H'=>Same H H' /\ ∃ r:Addr,LsA K H' r (ps.map dR) /\ σ = [some (.ref y),some (.int (m:Nat)),some (.ref r),none]) ?_ ?_
  ·rfl'
   exact ⟨_,_,h1,rfl,y,o,q,ps,rfl,hy,fun r H1 s1 hA hr'=>⟨s1,r,hA,rfl⟩⟩
  rintro σ H1 ⟨s1,r,hA,rfl⟩
  refine zi (fun σ H'=>Same H H' /\ LsA K H' r (ps.map dR) /\ ∃ F:Addr,H F = none /\ H' F = some (uJ P w F (fun _=>none) 0) /\ σ = [some (.ref y),some (.int (m:Nat)),some (.ref r),some (.ref F)]) ?_ ?_
  ·rfl'
   simp only [VE]
   intro F hF
   have s2:=zd (o:=uJ P w F (fun _=>none) 0) hF
   rfl'
   exact ⟨s1.trans s2,hA.same s2,F,s1.free hF,ze,rfl⟩
  rintro σ H2 ⟨s2,hA2,F,hF0,hF,rfl⟩
  rfl'
  refine vO hA2.is hok fun O H3 hO s3 hL=>⟨O,rfl,?_,fun D hD=>?_⟩
  ·obtain ⟨xs,hX,_⟩:=hL
   exact ⟨_,SqL.of hX⟩
  obtain ⟨xs,hX,hI⟩:=hL
  have hxl:=hI.len
  rw [List.length_map] at hxl
  have hF3:=s3 _ _ hF
  have s03:=s2.trans s3
  have hDF:D ≠ F:=fun z=>by rw [z,hF3] at hD; cases hD
  have hOF:O ≠ F:=fun z=>by rw [z,hF3] at hX; cases hX
  have back:∀ {G:Hp},SamT F H3 G -> Same H G:=fun {G} sT b o' e=>sT b o' (fun z=>by rw [z,hF0] at e; cases e) (s03 b o' e)
  refine CompL.by (xs:=xs) (fun i acc H'=>SamT F H3 H' /\ H' D = some (.lst acc) /\ (∃ (mp:Str -> Option V) (n:Nat),H' F = some (uJ P w F mp n) /\ FmOk ps (m:Nat) mp /\ n <= 2 * i) /\ Iss K H3 ((((ovA ps ps.length).take i).filter fun t=>!wV ps t).map d3) acc /\ ∀ t ∈ (ovA ps ps.length).take i,xZ ps t <= m) ⟨SamT.of (zd hD),ze,⟨_,0,by rw [zo (fun z=>hDF z.symm)]; exact hF3,FmOk.nil,by omega⟩,by simp only [List.take_zero,List.filter_nil,List.map_nil,Iss],fun t ht=>by simp at ht⟩ (fun i acc H' _ h=>SqL.of (h.1 _ _ hOF hX)) ?_ ?_
  ·rintro i x acc H' hx ⟨sT,hH,⟨mp,n,hFm,hM,hn⟩,hI',hle⟩
   have hil:=(List.getElem?_eq_some_iff.mp hx).1
   obtain ⟨t,p,ht,rfl,hp⟩:=hI.get3 hx
   have htm:=List.mem_of_getElem? ht
   have hE':=hE t htm
   have hal:acc.length <= i:=by
    have:=hI'.len
    rw [List.length_map] at this
    have h5:=List.length_filter_le (fun t=>!wV ps t) ((ovA ps ps.length).take i)
    rw [List.length_take] at h5
    omega
   simp only [Ue,tBl]
   rfl'
   refine ⟨qw,r,p,F,ps,t,(m:Nat),n,mp,_,_,rfl,Zi sT hF3 (hA2.same s3),hN,hok,uu sT hF3 hp,htm,hFm,hM,by omega,qT hE'.1 m,qT hE'.2 m,fun J1 J2 mp' n' H5 e1 e2 s5 hF5 hM5 hn5=>?_,fun h H5 s5=>k2 t htm (XV h) H5 (back (sT.trans s5))⟩
   have a1:=(wB e1).2
   have a2:=(wB e2).2
   have hle':∀ t' ∈ (ovA ps ps.length).take (i + 1),xZ ps t' <= m:=fun t' ht'=>by
    rw [yb ht] at ht'
    rcases List.mem_append.mp ht' with h | h
    ·exact hle t' h
    ·rw [List.mem_singleton.mp h]
     unfold xZ
     omega
   rw [Yr hE' e1 e2]
   have hcase:∀ b,wV ps t = b -> (!b) = true -> Iss K H3 ((((ovA ps ps.length).take (i + 1)).filter fun t=>!wV ps t).map d3) (acc ++ [.ref p]):=fun b hb hb'=>by
    rw [yb ht,List.filter_append,List.map_append]
    refine Iss.append hI' ?_
    rw [List.filter_cons,hb,if_pos hb']
    simp only [List.filter_nil,List.map_cons,List.map_nil,Iss]
    refine ⟨_,[],rfl,?_,rfl⟩
    simp only [d3,Is,Iss]
    exact ⟨p,_,rfl,hp,_,_,rfl,rfl,_,_,rfl,rfl,_,_,rfl,rfl,rfl⟩
   refine ⟨_,rfl,?_⟩
   cases hb:wV ps t with
   | false =>
    rw [if_pos rfl]
    refine ⟨s5 _ _ hDF hH,by omega,CNx.mk hil ⟨fun b o' hbF e=>?_,ze,⟨mp',n',by rw [zo (fun z=>hDF z.symm)]; exact hF5,hM5,by omega⟩,hcase _ hb rfl,hle'⟩⟩
    rw [zo (fun z=>by rw [z,hD] at e; cases e)]
    exact s5 b o' hbF (sT b o' hbF e)
   | true =>
    rw [if_neg (by decide)]
    refine CNx.mk hil ⟨sT.trans s5,s5 _ _ hDF hH,⟨mp',n',hF5,hM5,by omega⟩,?_,hle'⟩
    rw [yb ht,List.filter_append,List.filter_cons,hb]
    simp only [Bool.not_true,Bool.false_eq_true,if_false,List.filter_nil,List.append_nil]
    exact hI'
  ·rintro acc H' ⟨sT,hH,_,hI',hle⟩
   rw [hxl,List.take_length] at hI' hle
   exact k1 hle D H' (back sT) (s03.free hD) ⟨acc,hH,jS sT hF3 hI'⟩
def wu (K:PySem.W.Frag):Sp:=fun vs H Q _=>∃ (a:Addr) (ns:List Int) (k:Int),vs = [.ref a,.int k] /\ SqL K H a (ns.map V.int) /\ 0 <= k /\ ∀ c:Int,0 <= c -> Q (.int c) H
theorem vc {a:Addr} {ns:List Int} {k:Int} {H:Hp} {Q:VK} {E:XK} (hS:SqL K H a (ns.map V.int)) (hk:0 <= k) (h:∀ c:Int,0 <= c -> Q (.int c) H):wu K [.ref a,.int k] H Q E:=⟨a,ns,k,rfl,hS,hk,h⟩
theorem ZH:zq ["_law_script", "_law_k"] ["_law_script", "_law_k"] (zb xz):=⟨rfl,rfl,rfl,by decide +kernel,rfl,by decide +kernel,by decide +kernel⟩
theorem ZX {f:Addr} {fd:FuncData} (B:Bt mg)  (F:Fun K "_law_cell_at" "_law_cell_at" xz f fd)  : yo P w K mg base CX0 1 f fd ["_law_script", "_law_k"] (wu K):=by
 refine F.ok ZH (fun vs H Q E h=>?_) (fun cdv A outer s H vs Q E hr h=>?_)
 ·obtain ⟨a,ns,k,rfl,_⟩:=h
  rfl
 ·obtain ⟨a,ns,k,rfl,hS,hk,q⟩:=h
  refine ⟨_,(zH (yh (zF Yk (pv 1) (zp yg rfl B.len PySem.boot_len (za (pv 0) zc)) (zI _))
    (zf (zu (zw yI (zC X2 (pv 0) (pv 1) (fun _ _=>rfl)) (zw Vy zg zg))))
    zE)
   (zf (zu zg))),?_⟩
  have s16:=yl
  rfl'
  have p10:(0:Int) < 10 ^ Int.toNat 15:=by decide
  have c10:Jf 10 15:=⟨by decide,by decide,by decide⟩
  refine ⟨_,.inl ⟨_,hS,rfl⟩,yE (fun c=>?_) (fun c=>q 0 (by decide))⟩
  obtain ⟨v,h1,h2⟩:=vL hk c
  rw [List.getElem?_map] at h2
  obtain ⟨z,_,rfl⟩:=Option.map_eq_some_iff.mp h2
  refine .inl ⟨_,hS,_,h1,?_⟩
  rfl'
  exact ⟨c10,p10,q _ (Int.emod_nonneg _ (by decide))⟩
def wy:Sp:=fun vs H Q _=>∃ c m:Int,vs = [.int c,.int m] /\ 0 <= c /\ 0 <= m /\ m <= 26 /\ ∀ l:List Nat,(l.length:Int) = m -> l.Nodup -> km l -> Q (.str (tx l)) H
theorem ut {c m:Int} {H:Hp} {Q:VK} {E:XK} (h:0 <= c) (h0:0 <= m) (h1:m <= 26) (q:∀ l:List Nat,(l.length:Int) = m -> l.Nodup -> km l -> Q (.str (tx l)) H):wy [.int c,.int m] H Q E:=⟨c,m,rfl,h,h0,h1,q⟩
def J3 (m:Int) (i:Nat) (σ:L2.St):Prop:=∃ (left found:List Nat) (number:Int) (v4 v5:Option V),found.length = i /\ (found ++ left).Perm alpha /\ σ = [some (.int number),some (.int m),some (.str (tx left)),some (.str (tx found)),v4,v5]
theorem sc_letters:zq ["_law_cell", "_law_many", "_law_left", "_law_told", "_law_k", "_law_at"] ["_law_cell", "_law_many"] (zb xA):=⟨rfl,rfl,rfl,by decide +kernel,rfl,by decide +kernel,by decide +kernel⟩
theorem Z6 {f:Addr} {fd:FuncData} (B:Bt mg)  (F:Fun K "_law_letters" "_law_letters" xA f fd)  : yo P w K mg base CX0 1 f fd ["_law_cell", "_law_many"] wy:=by
 refine F.ok sc_letters (fun vs H Q E h=>?_) (fun cdv A outer s H vs Q E hr h=>?_)
 ·obtain ⟨c,m,rfl,_⟩:=h
  rfl
 ·obtain ⟨c,m,rfl,hc,h0,h1,q⟩:=h
  refine ⟨_,(zh (zl (i:=2) sc_letters.nd rfl (Or.inl rfl) xX)
   (zh (zl (i:=3) sc_letters.nd rfl (Or.inl rfl) xX)
   (zh (yq PassesOwn.never rfl (yC rfl B.range (za (pv 1) zc)) (zr (i:=4) sc_letters.nd rfl (Or.inl rfl))
    (zh (zl (i:=5) sc_letters.nd rfl (Or.inl rfl) (zw yI (pv 0) (zp yg rfl B.len PySem.boot_len (za (pv 2) zc))))
    (zh (zl (i:=0) sc_letters.nd rfl (Or.inl rfl) (zw xQ (pv 0) (zp yg rfl B.len PySem.boot_len (za (pv 2) zc))))
    (zh (zl (i:=3) sc_letters.nd rfl (Or.inl rfl) (zw op_add_str (pv 3) (zC xY (pv 2) (pv 5) (fun _ _=>rfl))))
    (zf (zl (i:=2) sc_letters.nd rfl (Or.inl rfl) (zw op_add_str (zX xv (pv 2) yP (zZ (pv 5))) (zX xv (pv 2) (zZ (zw op_add (pv 5) zg)) yP))))))))
   (zf (zu (pv 3)))))),?_⟩
  have s16:=yl
  have ha:alpha.length = 26:=rfl
  refine zi (fun σ H'=>H' = H /\ σ = [some (.int c),some (.int m),some (.str (tx alpha)),none,none,none]) ?_ ?_
  ·rfl'
   exact X9
  rintro σ H1 ⟨rfl,rfl⟩
  refine zi (fun σ H'=>H' = H1 /\ σ = [some (.int c),some (.int m),some (.str (tx alpha)),some (.str (tx [])),none,none]) ?_ ?_
  ·rfl'
   rfl
  rintro σ H3 ⟨rfl,rfl⟩
  refine zi (fun σ H'=>H' = H3 /\ J3 m m.toNat σ) ?_ ?_
  ·rfl'
   refine ⟨by omega,by omega,ForR.by (fun i σ H'=>H' = H3 /\ J3 m i σ) ⟨rfl,alpha,[],c,none,none,rfl,.refl _,rfl⟩ ?_ fun σ H' h=>h⟩
   rintro i σ H' hi ⟨rfl,left,found,number,v4,v5,hf,hp,rfl⟩
   have hpl:=hp.length_eq
   rw [List.length_append] at hpl
   have hl:left.length + i = 26:=by omega
   have hm0:=Int.emod_nonneg number (b:=(left.length:Int)) (by omega)
   have hm1:=Int.emod_lt_of_pos number (b:=(left.length:Int)) (by omega)
   generalize hz:number % (left.length:Int) = at_ at hm0 hm1
   obtain ⟨v,e1,e2⟩:=vL hm0 hm1
   simp only [yt,List.set_cons_succ,List.set_cons_zero]
   refine zi (fun σ H''=>H'' = H' /\ ∃ v4,σ = [some (.int number),some (.int m),some (.str (tx left)),some (.str (tx found)),v4,some (.int at_)]) ?_ ?_
   ·rfl'
    exact ⟨by omega,by omega,hz⟩
   rintro σ G1 ⟨rfl,v4',rfl⟩
   refine zi (fun σ H''=>H'' = G1 /\ ∃ n v4,σ = [some (.int n),some (.int m),some (.str (tx left)),some (.str (tx found)),v4,some (.int at_)]) ?_ ?_
   ·rfl'
    exact ⟨by omega,⟨by omega,by omega⟩⟩
   rintro σ G2 ⟨rfl,n,v4',rfl⟩
   refine zi (fun σ H''=>H'' = G2 /\ ∃ v4,σ = [some (.int n),some (.int m),some (.str (tx left)),some (.str (tx (found ++ [v]))),v4,some (.int at_)]) ?_ ?_
   ·rfl'
    exact ⟨by omega,v,e1,by omega,rfl⟩
   rintro σ G3 ⟨rfl,v4',rfl⟩
   have hc1:=yR left none (some at_)
   have hc2:=yR left (some (at_ + 1)) none
   rfl'
   refine ⟨by omega,by omega,by omega,_,_,_,_,_,by rw [List.length_append,hf]; rfl,?_,rfl⟩
   rw [Zh _ hm0,vh _ (by omega),List.append_assoc]
   have e3:(at_ + 1).toNat = at_.toNat + 1:=by omega
   rw [e3]
   exact ((Xb e2).append_left found).trans hp
  rintro σ H4 ⟨rfl,left,found,number,v4,v5,hf,hp,rfl⟩
  rfl'
  have hnd:(found ++ left).Nodup:=hp.nodup_iff.mpr (by decide)
  refine q found (by omega) (List.nodup_append.mp hnd).1 fun c hc=>?_
  have h:c ∈ alpha:=hp.mem_iff.mp (List.mem_append_left _ hc)
  exact (by decide:∀ c ∈ alpha,97 <= c /\ c <= 122) c h
def qU:Sp:=fun vs H Q _=>∃ (ls:List Nat) (c m:Int),vs = [.str (tx ls),.int c,.int m] /\ 1 <= ls.length /\ ls.length <= 26 /\ 0 <= m /\ m <= 1000 /\ ∀ l:List Nat,(l.length:Int) = m -> (∀ x ∈ l,x ∈ ls) -> Q (.str (tx l)) H
theorem ZC {ls:List Nat} {c m:Int} {H:Hp} {Q:VK} {E:XK} (h1:1 <= ls.length) (h2:ls.length <= 26) (h3:0 <= m) (h4:m <= 1000) (h:∀ l:List Nat,(l.length:Int) = m -> (∀ x ∈ l,x ∈ ls) -> Q (.str (tx l)) H):qU [.str (tx ls),.int c,.int m] H Q E :=
 ⟨ls,c,m,rfl,h1,h2,h3,h4,h⟩
theorem sc_word:zq ["_law_letters_here", "_law_cell", "_law_size", "_law_word_here", "_law_k"] ["_law_letters_here", "_law_cell", "_law_size"] (zb qj):=⟨rfl,rfl,rfl,by decide +kernel,rfl,by decide +kernel,by decide +kernel⟩
theorem Us {f:Addr} {fd:FuncData} (B:Bt mg)  (F:Fun K "_law_word" "_law_word" qj f fd)  : yo P w K mg base CX0 1 f fd ["_law_letters_here", "_law_cell", "_law_size"] qU:=by
 refine F.ok sc_word (fun vs H Q E h=>?_) (fun cdv A outer s H vs Q E hr h=>?_)
 ·obtain ⟨ls,c,m,rfl,_⟩:=h
  rfl
 ·obtain ⟨ls,c,m,rfl,h1,h2,h3,h4,q⟩:=h
  refine ⟨_,(zH (zl (i:=3) sc_word.nd rfl (Or.inl rfl) xX)
   (zH (yq PassesOwn.never rfl (yC rfl B.range (za (pv 2) zc)) (zr (i:=4) sc_word.nd rfl (Or.inl rfl))
    (zH (zl (i:=3) sc_word.nd rfl (Or.inl rfl) (zw zW (pv 3) (zC X2 (pv 0) (zw yI (pv 1) (zp yg rfl B.len PySem.boot_len (za (pv 0) zc))) (fun _ _=>rfl))))
    (zf (zl (i:=1) sc_word.nd rfl (Or.inl rfl) (zw xQ (pv 1) (zp yg rfl B.len PySem.boot_len (za (pv 0) zc)))))))
   (zf (zu (pv 3))))),?_⟩
  have s16:=yl
  rfl'
  refine ⟨by omega,by omega,ForR.by (fun i σ H'=>H' = H /\ ∃ (found:List Nat) (number:Int) (v5:Option V),σ = [some (.str (tx ls)),some (.int number),some (.int m),some (.str (tx found)),v5] /\ found.length = i /\ ∀ x ∈ found,x ∈ ls)
   ⟨rfl,[],_,none,rfl,rfl,fun x h=>(nomatch h)⟩ ?_ ?_⟩
  ·rintro i σ H' hi ⟨rfl,found,number,v5,rfl,hf,hm⟩
   rfl'
   have hm0:=Int.emod_nonneg number (b:=(ls.length:Int)) (by omega)
   have hm1:=Int.emod_lt_of_pos number (b:=(ls.length:Int)) (by omega)
   obtain ⟨v,e1,e2⟩:=vL hm0 hm1
   repeat (refine And.intro (by first | omega | decide | exact ⟨by omega,by omega⟩ | assumption) ?_)
   refine ⟨v,e1,?_⟩
   repeat (refine And.intro (by first | omega | decide | exact ⟨by omega,by omega⟩ | assumption) ?_)
   refine ⟨by rw [List.length_append,hf]; rfl,fun x hx=>?_⟩
   rcases List.mem_append.mp hx with h | h
   ·exact hm x h
   ·rw [List.mem_singleton.mp h]
    exact List.mem_of_getElem? e2
  ·rintro σ H' ⟨rfl,found,number,v5,rfl,hf,hm⟩
   rfl'
   exact q found (by omega) hm
structure PrL (l:List Nat) (m:Nat) (ps:List zx):Prop where
 len:∀ p ∈ ps,p.1.length <= m /\ p.2.length <= m
 inn:∀ p ∈ ps,(∀ c ∈ p.1,c ∈ l) /\ ∀ c ∈ p.2,c ∈ l
theorem PrL.nil {l:List Nat} {m:Nat}:PrL l m []:=⟨fun p h=>(nomatch h),fun p h=>(nomatch h)⟩
theorem PrL.snoc {l:List Nat} {m:Nat} {ps:List zx} {u v:List Nat} (h:PrL l m ps) (hu:u.length <= m) (hv:v.length <= m) (iu:∀ c ∈ u,c ∈ l) (iv:∀ c ∈ v,c ∈ l):PrL l m (ps ++ [(u,v)]):=by
 refine ⟨fun p hp=>?_,fun p hp=>?_⟩
 ·rcases List.mem_append.mp hp with h' | h'
  ·exact h.len p h'
  ·rw [List.mem_singleton.mp h']
   exact ⟨hu,hv⟩
 ·rcases List.mem_append.mp hp with h' | h'
  ·exact h.inn p h'
  ·rw [List.mem_singleton.mp h']
   exact ⟨iu,iv⟩
def jf (K:PySem.W.Frag):Sp:=fun vs H Q _=>∃ (l:List Nat) (a:Addr) (cs:List Int),vs = [.str (tx l),.ref a] /\ 1 <= l.length /\ l.length <= 26 /\ SqL K H a (cs.map V.int) /\ cs.length <= 100 /\ ∀ (D:Addr) (ps:List zx) (H':Hp),Same H H' -> H D = none -> LsA K H' D (ps.map dR) -> PrL l 3 ps -> ps.length <= cs.length -> Q (.ref D) H'
theorem sc_pairs:zq ["_law_letters_here", "_law_cells", "_law_pairs_here", "_law_raw", "_law_cell", "_law_one"] ["_law_letters_here", "_law_cells"] (zb vw):=⟨rfl,rfl,rfl,by decide +kernel,rfl,by decide +kernel,by decide +kernel⟩
theorem Wh {f:Addr} {fd:FuncData} (B:Bt mg)  (F:Fun K "_law_pairs" "_law_pairs" vw f fd) (D_word:Df P w K mg base CX0 1 "_law_word" ["_law_letters_here", "_law_cell", "_law_size"] [] qU):yo P w K mg base CX0 2 f fd ["_law_letters_here", "_law_cells"] (jf K):=by
 refine F.ok sc_pairs (fun vs H Q E h=>?_) (fun cdv A outer s H vs Q E hr h=>?_)
 ·obtain ⟨l,a,cs,rfl,_⟩:=h
  rfl
 ·obtain ⟨l,a,cs,rfl,l1,l26,hA,hcl,q⟩:=h
  refine ⟨_,(zh (zl (i:=2) sc_pairs.nd rfl (Or.inl rfl) (wk zc))
   (zh (yq PassesOwn.never rfl (yZ (pv 1)) (zr (i:=3) sc_pairs.nd rfl (Or.inl rfl))
    (zh (zl (i:=4) sc_pairs.nd rfl (Or.inl rfl) (zw yI (pv 3) (zw Vy zg zg)))
    (zh (zl (i:=5) sc_pairs.nd rfl (Or.inl rfl) (cl0 D_word hr .nil rfl (za (pv 0) (za (zw yI (zw xh (pv 4) zg) zg) (za (zw zW zg (zw yI (pv 4) zg)) zc)))))
    (zf (xj (wY PySem.F.plainAttrs_list PySem.F.slot_list_append PySem.F.type_list_append yk (pv 2) (za (yr (za (pv 5) (za (cl0 D_word hr .nil rfl (za (pv 0) (za (zw yI (zw xh (pv 4) zg) zg) (za (zw yI (zw xQ (pv 4) zg) zg) zc)))) zc))) zc)))))))
   (zf (zu (pv 2))))),?_⟩
  have s16:=yl
  have s16:=yl
  have p10:(0:Int) < 10 ^ Int.toNat 15:=by decide
  have c10:Jf 10 15:=⟨by decide,by decide,by decide⟩
  refine zi (fun σ H'=>Same H H' /\ ∃ D:Addr,H D = none /\ H' D = some (.lst []) /\ σ = [some (.str (tx l)),some (.ref a),some (.ref D),none,none,none]) ?_ ?_
  ·rfl'
   exact ⟨by omega,fun p hp=>⟨zd hp,p,hp,ze,rfl⟩⟩
  rintro σ H1 ⟨s1,D,hDn,hD,rfl⟩
  refine zi (fun σ H'=>Same H H' /\ ∃ (ps:List zx) (v3 v4 v5:Option V),LsA K H' D (ps.map dR) /\ PrL l 3 ps /\ ps.length <= cs.length /\ σ = [some (.str (tx l)),some (.ref a),some (.ref D),v3,v4,v5]) ?_ ?_
  ·rfl'
   refine ⟨⟨_,s1.seq hA⟩,ForL.by (xs:=cs.map V.int) (fun i σ H'=>Same H H' /\ ∃ (ps:List zx) (v3 v4 v5:Option V),ps.length <= i /\ LsA K H' D (ps.map dR) /\ PrL l 3 ps /\ σ = [some (.str (tx l)),some (.ref a),some (.ref D),v3,v4,v5]) ⟨s1,[],none,none,none,Nat.le_refl _,⟨[],hD,by simp only [List.map_nil,Iss]⟩,.nil,rfl⟩ (fun i σ H' _ h=>h.1.seq hA) ?_ ?_⟩
   ·rintro i y σ H' hy ⟨hs,ps,v3,v4,v5,hpl,hL,hP,rfl⟩
    have hil:=(List.getElem?_eq_some_iff.mp hy).1
    rw [List.length_map] at hil
    rw [List.getElem?_map] at hy
    obtain ⟨cz,_,rfl⟩:=Option.map_eq_some_iff.mp hy
    simp only [yt,List.set_cons_succ,List.set_cons_zero]
    obtain ⟨ys,hY,hJ⟩:=hL
    have hyl:=hJ.len
    rw [List.length_map] at hyl
    refine zi (fun σ' H''=>H'' = H' /\ ∃ c:Int,σ' = [some (.str (tx l)),some (.ref a),some (.ref D),some (.int cz),some (.int c),v5]) ?_ ?_
    ·rfl'
     exact ⟨c10,p10⟩
    rintro σ' G ⟨rfl,c,rfl⟩
    have m0:=Int.emod_nonneg c (b:=3) (by decide)
    have m1:=Int.emod_lt_of_pos c (b:=3) (by decide)
    have n0:=Int.emod_nonneg (c / 3) (b:=4) (by decide)
    have n1:=Int.emod_lt_of_pos (c / 3) (b:=4) (by decide)
    refine zi (fun σ' H''=>H'' = G /\ ∃ u:List Nat,u.length <= 3 /\ (∀ c ∈ u,c ∈ l) /\ σ' = [some (.str (tx l)),some (.ref a),some (.ref D),some (.int cz),some (.int c),some (.str (tx u))]) ?_ ?_
    ·rfl'
     exact ⟨.inr ⟨by decide,by decide⟩,by decide,by decide,ZC l1 l26 (by omega) (by omega) fun u hu iu=>⟨rfl,u,by omega,iu,rfl⟩⟩
    rintro σ' G2 ⟨rfl,u,hu,iu,rfl⟩
    rfl'
    refine ⟨.inl ⟨_,SqL.of hY⟩,.inr ⟨by decide,by decide⟩,by decide,⟨by decide,by decide⟩,by decide,ZC l1 l26 n0 (by omega) fun v hv iv=>⟨by omega,fun p hp=>⟨ys,zd hp _ _ hY,by omega,zK (hs.trans (zd hp)) hDn,ps ++ [(u,v)],by rw [List.length_append]; simp only [List.length_cons,List.length_nil]; omega,?_,hP.snoc hu (by omega) iu iv⟩⟩⟩
    rw [List.map_append]
    exact LsA.snoc (zd hp _ _ hY) (Iss.same (zd hp) _ _ hJ) (ja ps) (jc (u,v)) (ZT (SqT.of ze))
   ·rintro σ H' ⟨hs,ps,v3,v4,v5,hpl,hL,hP,rfl⟩
    rw [List.length_map] at hpl
    exact ⟨hs,ps,hL,hP,hpl,_,_,_,rfl⟩
  rintro σ H2 ⟨s2,ps,v3,v4,v5,hL,hP,hpl,rfl⟩
  rfl'
  exact q D ps H2 s2 hDn hL hP hpl
def vx:Sp:=fun vs H Q _=>∃ (c:Int) (m:Nat),vs = [.int c,.int (m:Nat)] /\ m <= 100 /\ ∀ (D:Addr) (ns:List Int) (b:Int) (H':Hp),ns.length = m -> 1 <= b -> b <= 500000 -> (∀ n ∈ ns,b <= n /\ n < 2 * b) -> Same H H' -> H D = none -> H' D = some (.lst (ns.map V.int)) -> Q (.ref D) H'
theorem sc_weights:zq ["_law_cell", "_law_many", "_law_base", "_law_told", "_law_k"] ["_law_cell", "_law_many"] (zb xt):=⟨rfl,rfl,rfl,by decide +kernel,rfl,by decide +kernel,by decide +kernel⟩
theorem ZR {f:Addr} {fd:FuncData} (B:Bt mg)  (F:Fun K "_law_weights" "_law_weights" xt f fd)  : yo P w K mg base CX0 1 f fd ["_law_cell", "_law_many"] vx:=by
 refine F.ok sc_weights (fun vs H Q E h=>?_) (fun cdv A outer s H vs Q E hr h=>?_)
 ·obtain ⟨c,m,rfl,_⟩:=h
  rfl
 ·obtain ⟨c,m,rfl,hm,q⟩:=h
  refine ⟨_,(zh (zl (i:=2) sc_weights.nd rfl (Or.inl rfl) (zw zW zg (zw yI (pv 0) zg)))
   (zh (zl (i:=3) sc_weights.nd rfl (Or.inl rfl) (wk zc))
   (zh (yq PassesOwn.never rfl (yC rfl B.range (za (pv 1) zc)) (zr (i:=4) sc_weights.nd rfl (Or.inl rfl))
    (zH (zl (i:=0) sc_weights.nd rfl (Or.inl rfl) (zw yI (zw xh (zw zW (pv 0) zg) zg) zg))
    (zf (xj (wY PySem.F.plainAttrs_list PySem.F.slot_list_append PySem.F.type_list_append yk (pv 3) (za (zw zW (pv 2) (zw yI (pv 0) (pv 2))) zc))))))
   (zf (zu (pv 3)))))),?_⟩
  have s16:=yl
  have s16:=yl
  have b0:=Int.emod_nonneg c (b:=500000) (by decide)
  have b1:=Int.emod_lt_of_pos c (b:=500000) (by decide)
  obtain ⟨b,hb⟩:∃ b:Int,1 + c % 500000 = b:=⟨_,rfl⟩
  refine zi (fun σ H'=>H' = H /\ σ = [some (.int c),some (.int (m:Nat)),some (.int b),none,none]) ?_ ?_
  ·rfl'
   rw [hb]
   exact ⟨by decide,rfl⟩
  rintro σ H1 ⟨rfl,rfl⟩
  refine zi (fun σ H'=>Same H1 H' /\ ∃ p:Addr,H' p = some (.lst []) /\ H1 p = none /\ σ = [some (.int c),some (.int (m:Nat)),some (.int b),some (.ref p),none]) ?_ ?_
  ·rfl'
   exact ⟨by omega,fun p hp=>⟨zd hp,p,ze,hp,rfl⟩⟩
  rintro σ H3 ⟨s3,p,hp,hpn,rfl⟩
  refine zi (fun σ H'=>Same H1 H' /\ ∃ (ns:List Int) (v0 v4:Option V),σ = [v0,some (.int (m:Nat)),some (.int b),some (.ref p),v4] /\ H' p = some (.lst (ns.map V.int)) /\ ns.length = m /\ ∀ n ∈ ns,b <= n /\ n < 2 * b) ?_ ?_
  ·rfl'
   refine ⟨by omega,by omega,ForR.by (fun i σ H'=>Same H1 H' /\ ∃ (ns:List Int) (number:Int) (v4:Option V),σ = [some (.int number),some (.int (m:Nat)),some (.int b),some (.ref p),v4] /\ H' p = some (.lst (ns.map V.int)) /\ ns.length = i /\ ∀ n ∈ ns,b <= n /\ n < 2 * b) ⟨s3,[],_,none,rfl,hp,rfl,fun x h=>(nomatch h)⟩ ?_ ?_⟩
   ·rintro i σ H' hi ⟨hs,ns,number,v4,rfl,hH,hl,hn⟩
    rfl'
    have y0:=Int.emod_nonneg ((number + 77) * 48271 % 2147483647) (b:=b) (by omega)
    have y1:=Int.emod_lt_of_pos ((number + 77) * 48271 % 2147483647) (b:=b) (by omega)
    refine ⟨.inr ⟨by decide,by decide⟩,by decide,.inl ⟨_,SqL.of hH⟩,by omega,_,hH,by rw [List.length_map]; omega,zK hs hpn,ns ++ [b + (number + 77) * 48271 % 2147483647 % b],by rw [ze,List.map_append]; rfl,by rw [List.length_append,hl]; rfl,fun n hn'=>?_⟩
    rcases List.mem_append.mp hn' with h | h
    ·exact hn n h
    ·rw [List.mem_singleton.mp h]
     omega
   ·rintro σ H' ⟨hs,ns,number,v4,rfl,hH,hl,hn⟩
    exact ⟨hs,⟨_,_,rfl⟩,ns,hH,by omega,hn⟩
  rintro σ H4 ⟨hs,ns,v0,v4,rfl,hH,hl,hn⟩
  rfl'
  exact q p ns b H4 hl (by omega) (by omega) hn hs hpn hH
def Ze:Sp:=fun vs H Q _=>∃ (k:Int) (l:List Nat) (D:Addr) (ws:List Int) (w:List Nat),vs = [.str (tx l),.int k,.ref D,.str (tx w)] /\ 0 <= k /\ k < 3 /\ uj l = true /\ H D = some (.lst (ws.map V.int)) /\ ws.length = l.length /\ w.length <= 1000 /\ (∀ x ∈ w,x ∈ l) /\ ∀ (p q:Addr) (H':Hp),Same H H' -> H' p = some (.tup [.int (zj k.toNat l ws w),.ref q]) -> H' q = some (.lst ((wS k.toNat l w).map V.int)) -> Q (.ref p) H'
theorem sc_rank:zq ["_law_letters_here", "_law_kind", "_law_weights_here", "_law_word_here", "_law_row", "_law_total"] ["_law_letters_here", "_law_kind", "_law_weights_here", "_law_word_here"] (zb vJ):=⟨rfl,rfl,rfl,by decide +kernel,rfl,by decide +kernel,by decide +kernel⟩
theorem Uf {f:Addr} {fd:FuncData} (B:Bt mg)  (F:Fun K "_law_rank" "_law_rank" vJ f fd)  : yo P w K mg base CX0 1 f fd ["_law_letters_here", "_law_kind", "_law_weights_here", "_law_word_here"] Ze:=by
 refine F.ok sc_rank (fun vs H Q E h=>?_) (fun cdv A outer s H vs Q E hr h=>?_)
 ·obtain ⟨k,l,D,ws,w,rfl,_⟩:=h
  rfl
 ·obtain ⟨k,l,D,ws,w,rfl,k0,k3,hg,hD,hwl,hw,hm,q⟩:=h
  refine ⟨_,(zh (uB (i:=4) sc_rank.nd rfl (Or.inl rfl) (Or.inl rfl) (own:=["_law_sign"]) (caps:=["_law_letters_here"]) (ix:=[0]) (tt:=qF) (te:=(tBM K "str" VC (wG 1) (yL (wG 0) qf))) rfl (yB (sc:=zb vJ) rfl (by decide +kernel) (by decide +kernel) (by decide +kernel) rfl (by decide +kernel) (by decide +kernel) rfl) (X5 (pv 3)) (fun _ _ _ _ _ _=>zr (i:=0) (show List.Nodup [_,_] by decide) rfl (Or.inl rfl)) (fun _ _ _ _ _ _=>wT) (fun _ _ _ _ _ _=>(wY PySem.F.plainAttrs_str PySem.F.slot_str_find PySem.F.type_str_find Qn (pv 1) (za (pv 0) zc))))
   (zh (zl (i:=5) sc_rank.nd rfl (Or.inl rfl) (zp yg rfl B.len PySem.boot_len (za (pv 3) zc)))
   (zh (yh (zF vS (pv 1) zg (zI _))
    (zf (zl (i:=5) sc_rank.nd rfl (Or.inl rfl) (zp (QG rfl) rfl B.sum PyProof.Rows.boot_sum (za (vm (own:=["_law_at"]) (caps:=["_law_weights_here"]) (ix:=[2]) (tt:=qF) (te:=(tOp (rIx K) (wG 1) (wG 0))) rfl (yB (sc:=zb vJ) rfl (by decide +kernel) (by decide +kernel) (by decide +kernel) rfl (by decide +kernel) (by decide +kernel) rfl) (yZ (pv 4)) (fun _ _ _ _ _ _=>zr (i:=0) (show List.Nodup [_,_] by decide) rfl (Or.inl rfl)) (fun _ _ _ _ _ _=>wT) (fun _ _ _ _ _ _=>(zC X2 (pv 1) (pv 0) (fun _ _=>rfl)))) zc))))
    zE)
   (zh (yh (zF vS (pv 1) zg (zI _))
    (zf (xj (U8 PySem.F.plainAttrs_list PySem.F.slot_list_reverse PySem.F.type_list_reverse Yc (pv 4))))
    zE)
   (zf (zu (yr (za (pv 5) (za (pv 4) zc))))))))),?_⟩
  have s16:=yl
  have s16:=yl
  obtain ⟨l1,l6,lsm,lnd⟩:=of_decide_eq_true hg
  refine zi (fun σ H'=>Same H H' /\ ∃ R:Addr,H R = none /\ H' R = some (.lst ((x0 l w).map V.int)) /\ σ = [some (.str (tx l)),some (.int k),some (.ref D),some (.str (tx w)),some (.ref R),none]) ?_ ?_
  ·rfl'
   intro R hR
   refine CompS.by (fun i acc H'=>Same H H' /\ H' R = some (.lst acc) /\ acc = (x0 l (w.take i)).map V.int) ⟨zd hR,ze,rfl⟩ ?_ ?_
   ·rintro i c acc H' hc ⟨hs,hH,rfl⟩
    have hci:=(List.getElem?_eq_some_iff.mp hc).1
    have hcl:=hm c (List.mem_of_getElem? hc)
    simp only [qF]
    rfl'
    rw [Vg hcl]
    refine ⟨qw,hH,by rw [List.length_map]; unfold x0; rw [List.length_map,List.length_take]; omega,CNx.mk hci ⟨zK hs hR,ze,?_⟩⟩
    unfold x0
    rw [yb hc,List.map_append,List.map_append]
    rfl
   ·rintro acc H' ⟨hs,hH,rfl⟩
    rw [List.take_length] at hH
    exact ⟨hs,R,hR,hH,rfl⟩
  rintro σ H1 ⟨s1,R,hRn,hR,rfl⟩
  refine zi (fun σ H'=>H' = H1 /\ σ = [some (.str (tx l)),some (.int k),some (.ref D),some (.str (tx w)),some (.ref R),some (.int (w.length:Nat))]) ?_ ?_
  ·rfl'
   omega
  rintro σ H2 ⟨rfl,rfl⟩
  refine zi (fun σ H'=>Same H2 H' /\ σ = [some (.str (tx l)),some (.int k),some (.ref D),some (.str (tx w)),some (.ref R),some (.int (zj k.toNat l ws w))]) ?_ ?_
  ·rfl'
   refine yE (fun k2=>?_) fun k2=>?_
   ·refine ⟨⟨_,SqL.of hR⟩,fun S hS=>CompL.by (xs:=(x0 l w).map V.int) (fun i acc H'=>Same H2 H' /\ H' S = some (.lst acc) /\ acc = ((w.take i).map fun c=>ws.getD (l.idxOf c) 0).map V.int) ⟨zd hS,ze,rfl⟩ (fun i acc H' _ h=>SqL.of (h.1 _ _ hR)) ?_ ?_⟩
    ·rintro i x acc H' hx ⟨hs,hH,rfl⟩
     have hil:=(List.getElem?_eq_some_iff.mp hx).1
     have hiw:i < w.length:=by rw [List.length_map] at hil; unfold x0 at hil; rw [List.length_map] at hil; exact hil
     have hc:w[i]? = some w[i]:=List.getElem?_eq_getElem hiw
     have hx':x = V.int ((l.idxOf w[i]:Nat):Int):=by
      rw [List.getElem?_map] at hx
      unfold x0 at hx
      rw [List.getElem?_map,hc] at hx
      cases hx
      rfl
     subst hx'
     generalize w[i] = c at *
     have hcl:=hm c (List.mem_of_getElem? hc)
     have hlt:=List.idxOf_lt_length_of_mem hcl
     have ea:atI (ws.map V.int) ((l.idxOf c:Nat):Int) = some (.int (ws.getD (l.idxOf c) 0)):=by
      refine uU ?_
      rw [List.getElem?_map,List.getD_eq_getElem?_getD,List.getElem?_eq_getElem (by omega)]
      rfl
     simp only [qF]
     rfl'
     refine ⟨qw,.inl ⟨_,SqL.of (hs _ _ (s1 _ _ hD)),_,ea,hH,by rw [List.length_map,List.length_map,List.length_take]; omega,CNx.mk hil ⟨zK hs hS,ze,?_⟩⟩⟩
     rw [yb hc,List.map_append,List.map_append]
     rfl
    ·rintro acc H' ⟨hs,hH,rfl⟩
     have e1:(((x0 l w).map V.int).length) = w.length:=by rw [List.length_map]; unfold x0; rw [List.length_map]
     rw [e1,List.take_length] at hH
     have e2:(w.map fun c=>ws.getD (l.idxOf c) 0).sum = zj k.toNat l ws w:=by
      rw [k2]
      show _ = (if (2:Int).toNat = 2 then Wd l ws w else _)
      rw [if_pos (show (2:Int).toNat = 2 from rfl),<- qO lnd hwl hm]
      rfl
     exact ⟨S,_,rfl,SqL.of hH,hs,by rw [e2]⟩
   ·refine ⟨Same.refl _,?_⟩
    unfold zj
    rw [if_neg (by omega)]
  rintro σ H3 ⟨s3,rfl⟩
  refine zi (fun σ H'=>Same H H' /\ H' R = some (.lst ((wS k.toNat l w).map V.int)) /\ σ = [some (.str (tx l)),some (.int k),some (.ref D),some (.str (tx w)),some (.ref R),some (.int (zj k.toNat l ws w))]) ?_ ?_
  ·rfl'
   refine yE (fun e=>?_) fun e=>?_
   ·refine ⟨.inl ⟨_,SqL.of (s3 _ _ hR)⟩,_,_,rfl,rfl,s3 _ _ hR,zK (s1.trans s3) hRn,?_⟩
    rw [ze,e]
    show some (HO.lst ((x0 l w).map V.int).reverse) = some (HO.lst ((x0 l w.reverse).map V.int))
    unfold x0
    rw [List.map_reverse,List.map_reverse]
   ·refine ⟨s1.trans s3,?_⟩
    rw [s3 _ _ hR]
    unfold wS xb
    rw [if_neg (by omega)]
  rintro σ H4 ⟨s4,hR4,rfl⟩
  rfl'
  exact ⟨by omega,fun p hp=>q p R _ (s4.trans (zd hp)) ze (zd hp _ _ hR4)⟩
theorem YO {k:Int} {l:List Nat} {D:Addr} {ws:List Int} {w:List Nat} {H:Hp} {Q:VK} {E:XK} (k0:0 <= k) (k3:k < 3) (hg:uj l = true) (hD:H D = some (.lst (ws.map V.int))) (hwl:ws.length = l.length) (hw:w.length <= 1000) (hm:∀ x ∈ w,x ∈ l) (q:∀ (p q:Addr) (H':Hp),Same H H' -> H' p = some (.tup [.int (zj k.toNat l ws w),.ref q]) -> H' q = some (.lst ((wS k.toNat l w).map V.int)) -> Q (.ref p) H'):Ze [.str (tx l),.int k,.ref D,.str (tx w)] H Q E:=⟨k,l,D,ws,w,rfl,k0,k3,hg,hD,hwl,hw,hm,q⟩
theorem QV {X:Cx} {E:XK} {k j:Nat} {C:Addr} {ps:List Str} {sp:Sp} {e:Expr} {es:List Expr} {t:TA} {pos p:Pos} {x:Str} (hx:XE X E) (D:DMk X.prog X.w X.K X.mg X.base (CXx X.prog X.w) k C ps sp) (hr:Room j X.A) (hg:Gl X x) (hm:X.mg x = some (.ref C)) (ha:PA X (e :: es) t) (hdb:(x == ("__debug__" : Str)) = false:=by decide) (he:starEach (e :: es) X.env = (false,eval e X.env) :: starEach es X.env:=by rfl)
  (hpl:(backTo pos (starEach es X.env)).any (·.1) = false:=by rfl) (hj:k + 1 <= j:=by decide):PE X (.Call (.Name x p) (e :: es) [] pos) (WK C sp [] E t):=by
 obtain ⟨f,fd,M,F,hb⟩:=D.ex
 exact Xi M F (hr.mono hj) hg hm hb .nil (Zx hx) ha hdb he hpl
theorem Ja {p:Addr} {a b:V} {i j:Nat} {σ:L2.St} {H:Hp} {R:L2.St -> Hp -> Prop} (h:SqT K H p [a,b]) (k:R ((σ.set i (some a)).set j (some b)) H):XM K 2 (yY (yt i) (yY (yt j) Xh)) (.ref p) σ H R:=by
 simp only [XM,yY,yt,Xh]
 first
 | exact ⟨_,_,rfl,h,rfl,_,_,rfl,_,_,rfl,rfl,k⟩
 | exact ⟨_,_,rfl,.inr h,rfl,_,_,rfl,_,_,rfl,rfl,k⟩
def jk (K:PySem.W.Frag) (CO CR CW:Addr):Sp:=fun vs H Q _=>∃ (z:Int) (l:List Nat) (D:Addr) (ws:List Int),vs = [.str (tx l),.int z,.ref D] /\ 0 <= z /\ z < 3 /\ uj l = true /\ H D = some (.lst (ws.map V.int)) /\ ws.length = l.length /\ (∀ n ∈ ws,1 <= n /\ n <= 1000000) /\ ∀ (o:Addr) (H':Hp),Same H H' -> OrdAt CO CR CW H' o z.toNat l ws -> Q (.ref o) H'
theorem W8:zq ["_law_letters_here", "_law_kind", "_law_weights_here"] ["_law_letters_here", "_law_kind", "_law_weights_here"] (zb vz):=⟨rfl,rfl,rfl,by decide +kernel,rfl,by decide +kernel,by decide +kernel⟩
theorem W7 {f CO CR CW:Addr} {fd:FuncData} (B:Bt mg) (T:TWS P w K mg base CO CR CW) (F:Fun K "_law_order" "_law_order" vz f fd)  : yo P w K mg base CX0 6 f fd ["_law_letters_here", "_law_kind", "_law_weights_here"] (jk K CO CR CW):=by
 refine F.ok W8 (fun vs H Q E h=>?_) (fun cdv A outer s H vs Q E hr h=>?_)
 ·obtain ⟨z,l,D,ws,rfl,_⟩:=h
  rfl
 ·obtain ⟨z,l,D,ws,rfl,z0,z3,hg,hD,hwl,hwb,q⟩:=h
  refine ⟨_,(zH (yh (zF vS (pv 1) zg (zI _))
    (zf (zu (mkC T.mR hr rfl T.gR (za (pv 0) zc))))
    zE)
   (zH (yh (zF vS (pv 1) zg (zI _))
    (zf (zu (QV xe0 T.mW hr rfl T.gW (za (pv 0) (za (wj xo rfl B.list PySem.Pv.boot_list (za (pv 2) zc)) zc)))))
    zE)
   (zf (zu (mkC T.mO hr rfl T.gO (za (pv 0) zc)))))),?_⟩
  have s16:=yl
  repeat (first | rfl' | simp only [yF,zy,zM,yG,yJ,zv])
  refine yE (fun h1=>?_) fun h1=>yE (fun h2=>?_) fun h2=>?_
  ·intro x dx hx hdx hne
   have sd:=zd (o:=.own x) hdx
   refine ⟨x,CR,dx,l,rfl,hg,T.cR,T.lR,ze,rfl,q x _ (fun b o' e=>?_) ⟨dx,.inr (.inl ⟨by rw [h1]; rfl,ze⟩)⟩⟩
   rw [zo (zz e hx),zo (zz e hx)]
   exact sd _ _ e
  ·refine ⟨_,.inl (SqL.of hD),fun E1 hE=>?_⟩
   have se:=zd (o:=.lst (ws.map V.int)) hE
   intro x dx hx hdx hne
   have sd:=zd (o:=.own x) hdx
   have k1:∀ b o',(upd H E1 (.lst (ws.map V.int))) b = some o' -> (upd (upd (upd H E1 (.lst (ws.map V.int))) dx (.own x)) x (.ins CW dx [])) b = some o':=fun b o' e=>by
    rw [zo (zz e hx)]
    exact sd _ _ e
   exact ⟨x,dx,E1,l,ws,rfl,hg,SqL.of (k1 _ _ ze),hwl,hwb,ze,fun w H' hw hwx kp ht hx'=>⟨rfl,q x _ (fun b o' e=>kp b o' (zz (se _ _ e) hx) (k1 b o' (se _ _ e))) ⟨dx,.inr (.inr ⟨by omega,hwl,w,hx',ht⟩)⟩⟩⟩
  ·intro x dx hx hdx hne
   have sd:=zd (o:=.own x) hdx
   refine ⟨x,CO,dx,l,rfl,hg,T.cO,T.lO,ze,rfl,q x _ (fun b o' e=>?_) ⟨dx,.inl ⟨by omega,ze⟩⟩⟩
   rw [zo (zz e hx),zo (zz e hx)]
   exact sd _ _ e
def wM (k:Nat) (l:List Nat) (ws:List Int) (ps:List zx):List zx:=ps.flatMap fun p=>if zN k l ws p.2 p.1 = true then [p] else if zN k l ws p.1 p.2 = true then [(p.2,p.1)] else []
theorem YT {k:Nat} {l:List Nat} {ws:List Int} (a b:List zx):wM k l ws (a ++ b) = wM k l ws a ++ wM k l ws b:=List.flatMap_append
theorem jR {k:Nat} {l:List Nat} {ws:List Int} (ps:List zx):(wM k l ws ps).length <= ps.length:=by
 induction ps with
 | nil=>exact Nat.le_refl _
 | cons p ps ih =>
  show ((if zN k l ws p.2 p.1 = true then [p] else if zN k l ws p.1 p.2 = true then [(p.2,p.1)] else []) ++ wM k l ws ps).length <= _
  rw [List.length_append,List.length_cons]
  have:(if zN k l ws p.2 p.1 = true then [p] else if zN k l ws p.1 p.2 = true then [(p.2,p.1)] else []).length <= 1:=by
   split
   ·exact Nat.le_refl _
   ·split
    ·exact Nat.le_refl _
    ·exact Nat.zero_le _
  omega
theorem uO {k:Nat} {l:List Nat} {ws:List Int} {ps:List zx} {r:zx} (h:r ∈ wM k l ws ps):(r ∈ ps \/ (r.2,r.1) ∈ ps) /\ zN k l ws r.2 r.1 = true:=by
 obtain ⟨p,hp,h⟩:=List.mem_flatMap.mp h
 split at h
 ·rw [List.mem_singleton.mp h]
  exact ⟨.inl hp,by assumption⟩
 ·split at h
  ·rw [List.mem_singleton.mp h]
   exact ⟨.inr hp,by assumption⟩
  ·cases h
structure RuL (k:Nat) (l:List Nat) (ws:List Int) (m:Nat) (ps:List zx):Prop where
 len:∀ p ∈ ps,p.1.length <= m /\ p.2.length <= m
 inn:∀ p ∈ ps,(∀ c ∈ p.1,c ∈ l) /\ ∀ c ∈ p.2,c ∈ l
 lt:∀ p ∈ ps,zN k l ws p.2 p.1 = true
theorem RuL.inL {k:Nat} {l:List Nat} {ws:List Int} {m:Nat} {ps:List zx} (h:RuL k l ws m ps) (hm:m <= 1000):InL l ps:=fun p hp=>by
 have h1:=h.len p hp
 have h2:=h.inn p hp
 exact ⟨by omega,by omega,h2.1,h2.2⟩
theorem RuL.neL {k:Nat} {l:List Nat} {ws:List Int} {m:Nat} {ps:List zx} (h:RuL k l ws m ps) (G:OG l ws k):NeL ps:=fun p hp e=>by
 have h1:=h.lt p hp
 have h2:=(h.inn p hp).2
 rw [e] at h1
 by_cases e2:p.2 = []
 ·rw [e2,vM] at h1
  cases h1
 ·have:=(Wq (k:=k) (l:=l) (ns:=ws) (t:=p.2) (u:=[]) (v:=[]) G h2 (fun c h=>nomatch h) (fun c h=>nomatch h) (by simpa using e2)).2
  rw [List.append_nil,List.append_nil,h1] at this
  cases this
theorem RuL.fault {k:Nat} {l:List Nat} {ws:List Int} {m:Nat} {ps:List zx} (h:RuL k l ws m ps):wn k l ws ps 0 = none:=vG fun m p e=>h.lt p (List.mem_of_getElem? e)
theorem WJ {k:Nat} {l:List Nat} {ws:List Int} {m:Nat} {ps:List zx} (h:PrL l m ps):RuL k l ws m (wM k l ws ps):=by
 refine ⟨fun p hp=>?_,fun p hp=>?_,fun p hp=>(uO hp).2⟩
 ·rcases (uO hp).1 with h1 | h1
  ·exact h.len p h1
  ·have:=h.len _ h1
   exact ⟨this.2,this.1⟩
 ·rcases (uO hp).1 with h1 | h1
  ·exact h.inn p h1
  ·have:=h.inn _ h1
   exact ⟨this.2,this.1⟩
theorem YU {k:Nat} {l:List Nat} {ws:List Int} {u v:List Nat} {p p' r r':Addr} {H:Hp} {Q:VK} (hp:H p = some (.tup [.int (zj k l ws u),.ref p'])) (hp':H p' = some (.lst ((wS k l u).map V.int))) (hr:H r = some (.tup [.int (zj k l ws v),.ref r'])) (hr':H r' = some (.lst ((wS k l v).map V.int))) (q:Q (.bl (zN k l ws u v)) H):Jn K (.ref p) (.ref r) H Q:=by
 refine YW (qH hp hp') (qH hr hr') (by simp only [dpD,uD,Ym]; decide) (by simp only [okD,Z5]; exact ⟨trivial,ul _ _,trivial⟩) ?_
 rw [YC]
 exact q
def uS (K:PySem.W.Frag):Sp:=fun vs H Q _=>∃ (k:Int) (l:List Nat) (D a:Addr) (ws:List Int) (ps:List zx),vs = [.str (tx l),.int k,.ref D,.ref a] /\ 0 <= k /\ k < 3 /\ uj l = true /\ H D = some (.lst (ws.map V.int)) /\ ws.length = l.length /\ LsA K H a (ps.map dR) /\ ps.length <= 100 /\ PrL l 1000 ps /\ ∀ (r:Addr) (H':Hp),Same H H' -> H r = none -> LsA K H' r ((wM k.toNat l ws ps).map dR) -> Q (.ref r) H'
theorem sc_turned:zq ["_law_letters_here", "_law_kind", "_law_weights_here", "_law_pairs_here", "_law_rules", "_law_one", "_law_other", "_law_here", "_law_there"] ["_law_letters_here", "_law_kind", "_law_weights_here", "_law_pairs_here"] (zb ww):=⟨rfl,rfl,rfl,by decide +kernel,rfl,by decide +kernel,by decide +kernel⟩
theorem Y9 {f:Addr} {fd:FuncData} (B:Bt mg)  (F:Fun K "_law_turned" "_law_turned" ww f fd) (D_rank:Df P w K mg base CX0 1 "_law_rank" ["_law_letters_here", "_law_kind", "_law_weights_here", "_law_word_here"] [] Ze):yo P w K mg base CX0 2 f fd ["_law_letters_here", "_law_kind", "_law_weights_here", "_law_pairs_here"] (uS K):=by
 refine F.ok sc_turned (fun vs H Q E h=>?_) (fun cdv A outer s H vs Q E hr h=>?_)
 ·obtain ⟨k,l,D,a,ws,ps,rfl,_⟩:=h
  rfl
 ·obtain ⟨k,l,D,a,ws,ps,rfl,k0,k3,hg,hD,hwl,hA,hcl,hP,q⟩:=h
  refine ⟨_,(zh (zl (i:=4) sc_turned.nd rfl (Or.inl rfl) (wk zc))
   (zh (yq PassesOwn.never rfl (yZ (pv 3)) (xD (n:=2) rfl (zB (zr (i:=5) sc_turned.nd rfl (Or.inl rfl)) (zB (zr (i:=6) sc_turned.nd rfl (Or.inl rfl)) yK)))
    (zh (zl (i:=7) sc_turned.nd rfl (Or.inl rfl) (cl0 D_rank hr .nil rfl (za (pv 0) (za (pv 1) (za (pv 2) (za (pv 5) zc))))))
    (zh (zl (i:=8) sc_turned.nd rfl (Or.inl rfl) (cl0 D_rank hr .nil rfl (za (pv 0) (za (pv 1) (za (pv 2) (za (pv 6) zc))))))
    (zf (yh (zF (YA (xN hr)) (pv 8) (pv 7) (zI _))
     (zf (xj (wY PySem.F.plainAttrs_list PySem.F.slot_list_append PySem.F.type_list_append yk (pv 4) (za (yr (za (pv 5) (za (pv 6) zc))) zc))))
     (zf (yh (zF (YA (xN hr)) (pv 7) (pv 8) (zI _))
      (zf (xj (wY PySem.F.plainAttrs_list PySem.F.slot_list_append PySem.F.type_list_append yk (pv 4) (za (yr (za (pv 6) (za (pv 5) zc))) zc))))
      zE)))))))
   (zf (zu (pv 4))))),?_⟩
  have s16:=yl
  obtain ⟨l1,l6,lsm,lnd⟩:=of_decide_eq_true hg
  have s16:=yl
  obtain ⟨xs,hX,hI⟩:=id hA
  have hxl:=hI.len
  rw [List.length_map] at hxl
  refine zi (fun σ H'=>Same H H' /\ ∃ R:Addr,H R = none /\ H' R = some (.lst []) /\ σ = [some (.str (tx l)),some (.int k),some (.ref D),some (.ref a),some (.ref R),none,none,none,none]) ?_ ?_
  ·rfl'
   exact ⟨by omega,fun p hp=>⟨zd hp,p,hp,ze,rfl⟩⟩
  rintro σ H1 ⟨s1,R,hRn,hR,rfl⟩
  refine zi (fun σ H'=>Same H H' /\ ∃ (v5 v6 v7 v8:Option V),LsA K H' R ((wM k.toNat l ws ps).map dR) /\ σ = [some (.str (tx l)),some (.int k),some (.ref D),some (.ref a),some (.ref R),v5,v6,v7,v8]) ?_ ?_
  ·rfl'
   refine ⟨⟨_,SqL.of (s1 _ _ hX)⟩,ForL.by (xs:=xs) (fun i σ H'=>Same H H' /\ ∃ (v5 v6 v7 v8:Option V),LsA K H' R ((wM k.toNat l ws (ps.take i)).map dR) /\ σ = [some (.str (tx l)),some (.int k),some (.ref D),some (.ref a),some (.ref R),v5,v6,v7,v8]) ⟨s1,none,none,none,none,⟨[],hR,by simp only [List.take_zero,wM,List.flatMap_nil,List.map_nil,Iss]⟩,rfl⟩ (fun i σ H' _ h=>SqL.of (h.1 _ _ hX)) ?_ ?_⟩
   ·rintro i y σ H' hy ⟨hs,v5,v6,v7,v8,hL,rfl⟩
    obtain ⟨r,pr,hri,rfl,hqr⟩:=hI.getR hy
    have hrm:=List.mem_of_getElem? hri
    have hlen:=hP.len r hrm
    have hinn:=hP.inn r hrm
    refine Ja (zD hs hqr) ?_
    simp only [List.set_cons_succ,List.set_cons_zero]
    refine zi (fun σ' G=>Same H' G /\ ∃ p p':Addr,G p = some (.tup [.int (zj k.toNat l ws r.1),.ref p']) /\ G p' = some (.lst ((wS k.toNat l r.1).map V.int)) /\ σ' = [some (.str (tx l)),some (.int k),some (.ref D),some (.ref a),some (.ref R),some (.str (tx r.1)),some (.str (tx r.2)),some (.ref p),v8]) ?_ ?_
    ·rfl'
     exact YO k0 k3 hg (hs _ _ hD) hwl (by omega) hinn.1 fun p p' G g hp hp'=>⟨g,p,p',hp,hp',rfl⟩
    rintro σ' G1 ⟨g1,p,p',hp,hp',rfl⟩
    refine zi (fun σ' G=>Same H' G /\ G p = some (.tup [.int (zj k.toNat l ws r.1),.ref p']) /\ G p' = some (.lst ((wS k.toNat l r.1).map V.int)) /\ ∃ q q':Addr,G q = some (.tup [.int (zj k.toNat l ws r.2),.ref q']) /\ G q' = some (.lst ((wS k.toNat l r.2).map V.int)) /\ σ' = [some (.str (tx l)),some (.int k),some (.ref D),some (.ref a),some (.ref R),some (.str (tx r.1)),some (.str (tx r.2)),some (.ref p),some (.ref q)]) ?_ ?_
    ·rfl'
     exact YO k0 k3 hg (g1 _ _ (hs _ _ hD)) hwl (by omega) hinn.2 fun q q' G g hq hq'=>⟨g1.trans g,g _ _ hp,g _ _ hp',q,q',hq,hq',rfl⟩
    rintro σ' G2 ⟨g2,hp2,hp2',q1,q1',hq,hq',rfl⟩
    have s2:=hs.trans g2
    obtain ⟨ys,hY,hJ⟩:=hL.same g2
    have hyl:=hJ.len
    rw [List.length_map] at hyl
    have htl:=jR (k:=k.toNat) (l:=l) (ws:=ws) (ps.take i)
    rw [List.length_take] at htl
    have e0:wM k.toNat l ws (ps.take (i + 1)) = wM k.toNat l ws (ps.take i) ++ (if zN k.toNat l ws r.2 r.1 = true then [r] else if zN k.toNat l ws r.1 r.2 = true then [(r.2,r.1)] else []):=by
     rw [yb hri,YT]
     congr 1
     exact List.append_nil _
    have put:∀ (u v:List Nat) (p:Addr),G2 p = none -> LsA K (upd (upd G2 p (.tup [.str (tx u),.str (tx v)])) R (.lst (ys ++ [.ref p]))) R ((wM k.toNat l ws (ps.take i) ++ [(u,v)]).map dR):=fun u v p hp=>by
     rw [List.map_append]
     exact LsA.snoc (zd hp _ _ hY) (Iss.same (zd hp) _ _ hJ) (ja _) (jc (u,v)) (ZT (SqT.of ze))
    rfl'
    refine YU hq hq' hp2 hp2' ⟨_,rfl,yE (fun e=>?_) fun e=>YU hp2 hp2' hq hq' ⟨_,rfl,yE (fun e'=>?_) fun e'=>?_⟩⟩
    ·rw [if_pos e] at e0
     rw [e0]
     exact ⟨.inl ⟨_,SqL.of hY⟩,by omega,fun t ht=>⟨ys,zd ht _ _ hY,by omega,zK (s2.trans (zd ht)) hRn,put _ _ t ht⟩⟩
    ·rw [if_neg e,if_pos e'] at e0
     rw [e0]
     exact ⟨.inl ⟨_,SqL.of hY⟩,by omega,fun t ht=>⟨ys,zd ht _ _ hY,by omega,zK (s2.trans (zd ht)) hRn,put _ _ t ht⟩⟩
    ·rw [if_neg e,if_neg e',List.append_nil] at e0
     rw [e0]
     exact ⟨s2,ys,hY,hJ⟩
   ·rintro σ H' ⟨hs,v5,v6,v7,v8,hL,rfl⟩
    rw [hxl,List.take_length] at hL
    exact ⟨hs,hL,_,_,_,_,rfl⟩
  rintro σ H2 ⟨s2,v5,v6,v7,v8,hL,rfl⟩
  rfl'
  exact q R H2 s2 hRn hL
def qZ:Sp:=fun vs H Q _=>∃ (l m:List Nat) (k:Nat),vs = [.str (tx l),.str (tx m),.int (k:Nat)] /\ l.length <= 1000 /\ m.length <= 1000 /\ Q (.bl (zR l m k)) H
theorem kL {l m:List Nat} {k:Nat} {H:Hp} {Q:VK} {E:XK} (h1:l.length <= 1000) (h2:m.length <= 1000) (h:Q (.bl (zR l m k)) H):qZ [.str (tx l),.str (tx m),.int (k:Nat)] H Q E:=⟨l,m,k,rfl,h1,h2,h⟩
theorem sc_over:zq ["_law_one", "_law_other", "_law_at", "_law_k"] ["_law_one", "_law_other", "_law_at"] (zb qg):=⟨rfl,rfl,rfl,by decide +kernel,rfl,by decide +kernel,by decide +kernel⟩
theorem VW {f:Addr} {fd:FuncData} (B:Bt mg)  (F:Fun K "_law_over" "_law_over" qg f fd)  : yo P w K mg base CX0 1 f fd ["_law_one", "_law_other", "_law_at"] qZ:=by
 refine F.ok sc_over (fun vs H Q E h=>?_) (fun cdv A outer s H vs Q E hr h=>?_)
 ·obtain ⟨l,m,k,rfl,_⟩:=h
  rfl
 ·obtain ⟨l,m,k,rfl,hl,hm,q⟩:=h
  refine ⟨_,(zH (yq PassesOwn.never rfl (yC rfl B.range (za (zp yg rfl B.len PySem.boot_len (za (pv 1) zc)) zc)) (zr (i:=3) sc_over.nd rfl (Or.inl rfl))
    (zf (yh (PW.pt (jw (zF Yk (zw zW (pv 2) (pv 3)) (zp yg rfl B.len PySem.boot_len (za (pv 0) zc)) (zI _)) (uG (zF Z2 (zC xY (pv 0) (zw zW (pv 2) (pv 3)) (fun _ _=>rfl)) (zC xY (pv 1) (pv 3) (fun _ _=>rfl)) (zI _)))))
     (zf (zu xk))
     zE)))
   (zf (zu xk))),?_⟩
  have s16:=yl
  rfl'
  refine ⟨by omega,by omega,by omega,ForR.by (fun i σ H'=>H' = H /\ ∃ v,σ = [some (.str (tx l)),some (.str (tx m)),some (.int (k:Nat)),v] /\ ∀ j,j < i -> k + j < l.length -> l[k + j]? = m[j]?) ⟨rfl,none,rfl,fun j hj=>absurd hj (Nat.not_lt_zero _)⟩ ?_ ?_⟩
  ·rintro i σ H' hi ⟨rfl,v,rfl,hp⟩
   rfl'
   have hi':i < m.length:=by omega
   refine ⟨by omega,yE (fun h=>?_) fun h j hj hk=>?_⟩
   ·obtain ⟨v1,a1,b1⟩:=vL (xs:=l) (i:=(k:Int) + (0 + (i:Int))) (by omega) (by omega)
    obtain ⟨v2,a2,b2⟩:=vL (xs:=m) (i:=0 + (i:Int)) (by omega) (by omega)
    have t1:((k:Int) + (0 + (i:Int))).toNat = k + i:=by omega
    have t2:(0 + (i:Int)).toNat = i:=by omega
    rw [t1] at b1
    rw [t2] at b2
    refine ⟨by omega,v1,a1,by omega,v2,a2,yE (fun ne=>?_) fun eq j hj hk=>?_⟩
    ·have e:zR l m k = false:=by
      cases hb:zR l m k with
      | false=>rfl
      | true =>
       have:=(xI l m k).mp hb i hi' (by omega)
       rw [b1,b2] at this
       exact absurd (Option.some.inj this) ne
     rw [e] at q
     exact q
    ·by_cases hji:j = i
     ·subst hji
      rw [b1,b2,Decidable.not_not.mp eq]
     ·exact hp j (by omega) hk
   ·by_cases hji:j = i
    ·omega
    ·exact hp j (by omega) hk
  ·rintro σ H' ⟨rfl,v,rfl,hp⟩
   have e:zR l m k = true:=(xI l m k).mpr fun j hj=>hp j (by omega)
   rw [e] at q
   rfl'
   exact q
theorem Q1 {H:Hp} {rs:List zx} {xs:List V} {i:Nat} (hI:Iss K H (rs.map dR) xs) (hi:i < rs.length):∃ r p,rs[i]? = some r /\ atI xs (i:Int) = some (.ref p) /\ SqT K H p [.str (tx r.1),.str (tx r.2)]:=by
 have hl:=hI.len
 rw [List.length_map] at hl
 obtain ⟨v,a1,b1⟩:=vL (xs:=xs) (i:=(i:Int)) (by omega) (by omega)
 obtain ⟨r,p,h1,rfl,h3⟩:=hI.getR (j:=i) b1
 exact ⟨r,p,h1,a1,h3⟩
theorem sc_l_overlaps:zq ["_law_rules", "_law_due", "_law_i", "_law_j", "_law_at"] ["_law_rules"] (zb yz):=⟨rfl,rfl,rfl,by decide +kernel,rfl,by decide +kernel,by decide +kernel⟩
theorem qN {f:Addr} {fd:FuncData} (B:Bt mg)  (F:Fun K "_law_overlaps" "_law_overlaps" yz f fd) (D_over:Df P w K mg base CX0 1 "_law_over" ["_law_one", "_law_other", "_law_at"] [] qZ):yo P w K mg base CX0 2 f fd ["_law_rules"] (yu K):=by
 refine F.ok sc_l_overlaps (fun vs H Q E h=>?_) (fun cdv A outer s H vs Q E hr h=>?_)
 ·obtain ⟨a,rs,rfl,_⟩:=h
  rfl
 ·obtain ⟨a,rs,rfl,hR,ok,q⟩:=h
  refine ⟨_,(zH (zl (i:=1) sc_l_overlaps.nd rfl (Or.inl rfl) (wk zc))
   (zH (yq PassesOwn.never rfl (yC rfl B.range (za (zp yg rfl B.len PySem.boot_len (za (pv 0) zc)) zc)) (zr (i:=2) sc_l_overlaps.nd rfl (Or.inl rfl))
    (zf (yq PassesOwn.never rfl (yC rfl B.range (za (zp yg rfl B.len PySem.boot_len (za (pv 0) zc)) zc)) (zr (i:=3) sc_l_overlaps.nd rfl (Or.inl rfl))
     (zf (yq PassesOwn.never rfl (yC rfl B.range (za (zp yg rfl B.len PySem.boot_len (za (zC ix_tup (zC ix_list (pv 0) (pv 2) (fun _ _=>rfl)) zg (fun _ _=>rfl)) zc)) zc)) (zr (i:=4) sc_l_overlaps.nd rfl (Or.inl rfl))
      (zf (yh (PW.pt (jw (PW.pt (ZQ (zF Z2 (pv 2) (pv 3) (zI _)) (qe (zF Z2 (pv 4) zg (zI _))))) (uG (wN (cl0 D_over hr .nil rfl (za (zC ix_tup (zC ix_list (pv 0) (pv 2) (fun _ _=>rfl)) zg (fun _ _=>rfl)) (za (zC ix_tup (zC ix_list (pv 0) (pv 3) (fun _ _=>rfl)) zg (fun _ _=>rfl)) (za (pv 4) zc)))) (fun _=>rfl)))))
       (zf (xj (wY PySem.F.plainAttrs_list PySem.F.slot_list_append PySem.F.type_list_append yk (pv 1) (za (yr (za (pv 2) (za (pv 3) (za (pv 4) zc)))) zc))))
       zE)))))))
   (zf (zu (pv 1))))),?_⟩
  have s16:=yl
  rfl'
  simp only [Is] at hR
  obtain ⟨_,xs,e,hX,hI⟩:=hR
  cases e
  have hxl:=hI.len
  rw [List.length_map] at hxl
  have okl:=ok.1
  refine ⟨by omega,fun D hD=>⟨_,.inl ⟨_,(zd hD).seq hX,rfl⟩,by omega,by omega,ForR.by (fun i σ H'=>∃ v2 v3 v4,σ = [some (.ref a),some (.ref D),v2,v3,v4] /\ Same H H' /\ LsA K H' D ((ovA rs i).map d3)) ⟨none,none,none,rfl,zd hD,LsA.nil⟩ ?_ ?_⟩⟩
  ·rintro i σ H' hi ⟨v2,v3,v4,rfl,hs,hL⟩
   have hi':i < rs.length:=by omega
   obtain ⟨r,pr,hri,hai,hqr⟩:=Q1 hI hi'
   have er:=vQ hri
   have hr1:=(ok.2 r (List.mem_of_getElem? hri)).1
   have el:(tx r.1).length = r.1.length:=zO _
   rw [show (0:Int) + (i:Int) = (i:Int) by omega]
   rfl'
   refine ⟨_,.inl ⟨_,hs.seq hX,rfl⟩,by omega,by omega,ForR.by (fun j σ H''=>∃ v3 v4,σ = [some (.ref a),some (.ref D),some (.int (i:Nat)),v3,v4] /\ Same H H'' /\ LsA K H'' D ((ovA rs i ++ ovI rs i j).map d3)) ⟨v3,v4,rfl,hs,by rw [show ovI rs i 0 = [] from rfl,List.append_nil]; exact hL⟩ ?_ ?_⟩
   ·rintro j σ H2 hj ⟨v3,v4,rfl,hs2,hL2⟩
    have hj':j < rs.length:=by omega
    obtain ⟨r2,pr2,hri2,haj,hqr2⟩:=Q1 hI hj'
    have er2:=vQ hri2
    have hr2:=(ok.2 r2 (List.mem_of_getElem? hri2)).1
    rw [show (0:Int) + (j:Int) = (j:Int) by omega]
    rfl'
    refine ⟨_,hs2.seq hX,_,hai,_,rfl,_,zD hs2 hqr,_,rfl,_,⟨by omega,rfl⟩,by omega,by omega,ForR.by (fun n σ H3=>∃ v4,σ = [some (.ref a),some (.ref D),some (.int (i:Nat)),some (.int (j:Nat)),v4] /\ Same H H3 /\ LsA K H3 D ((ovA rs i ++ ovI rs i j ++ wg rs i j n).map d3)) ⟨v4,rfl,hs2,by rw [show wg rs i j 0 = [] from rfl,List.append_nil]; exact hL2⟩ ?_ ?_⟩
    ·rintro n σ H3 hn ⟨v4,rfl,hs4,hL4⟩
     have hn':n < r.1.length:=by omega
     rw [show (0:Int) + (n:Int) = (n:Int) by omega]
     obtain ⟨ys,hY,hJ⟩:=hL4
     have hlen:=hJ.len
     have l1:=kJ ok i
     have l2:=qK ok i j
     have l3:=w4 rs i j n
     simp only [List.length_map,List.length_append] at hlen
     have es:=wb rs i j n
     rw [er,er2] at es
     have fin:((decide (i ≠ j) || decide (n ≠ 0)) = true) -> zR r.1 r2.1 n = true -> ∀ p,H3 p = none -> LsA K (upd (upd H3 p (.tup [.int (i:Nat),.int (j:Nat),.int (n:Nat)])) D (.lst (ys ++ [.ref p]))) D ((ovA rs i ++ ovI rs i j ++ wg rs i j (n + 1)).map d3):=fun h1 h2 p hp=>by
      rw [h1,h2,Bool.true_and,if_pos rfl] at es
      rw [es,<- List.append_assoc,List.map_append]
      exact LsA.pushT hY hJ hp Up (vV _) (by simp only [yp,xU,and_self])
     have fin0:((decide (i ≠ j) || decide (n ≠ 0)) && zR r.1 r2.1 n) = false -> LsA K H3 D ((ovA rs i ++ ovI rs i j ++ wg rs i j (n + 1)).map d3):=fun h1=>by
      rw [h1,if_neg Bool.false_ne_true,List.append_nil] at es
      rw [es]
      exact ⟨ys,hY,hJ⟩
     rfl'
     refine yE (fun h1=>⟨_,hs4.seq hX,_,hai,_,rfl,_,zD hs4 hqr,_,rfl,_,hs4.seq hX,_,haj,_,rfl,_,zD hs4 hqr2,_,rfl,kL (by omega) (by omega) ⟨_,rfl,yE (fun hb=>⟨.inl ⟨_,SqL.of hY⟩,by omega,fun p hp=>⟨_,zd hp _ _ hY,by omega,zK (hs4.trans (zd hp)) hD,fin (by rw [show decide (i ≠ j) = true from decide_eq_true (by omega),Bool.true_or]) hb p hp⟩⟩) fun hb=>⟨hs4,fin0 (by rw [Bool.eq_false_iff.mpr hb,Bool.and_false])⟩⟩⟩) fun h1=>yE (fun h2=>⟨_,hs4.seq hX,_,hai,_,rfl,_,zD hs4 hqr,_,rfl,_,hs4.seq hX,_,haj,_,rfl,_,zD hs4 hqr2,_,rfl,kL (by omega) (by omega) ⟨_,rfl,yE (fun hb=>⟨.inl ⟨_,SqL.of hY⟩,by omega,fun p hp=>⟨_,zd hp _ _ hY,by omega,zK (hs4.trans (zd hp)) hD,fin (by rw [show decide (n ≠ 0) = true from decide_eq_true (by omega),Bool.or_true]) hb p hp⟩⟩) fun hb=>⟨hs4,fin0 (by rw [Bool.eq_false_iff.mpr hb,Bool.and_false])⟩⟩⟩) fun h2=>⟨hs4,fin0 ?_⟩
     have e1:decide (i ≠ j) = false:=decide_eq_false fun z=>z (by omega)
     have e2:decide (n ≠ 0) = false:=decide_eq_false fun z=>h2 (by omega)
     rw [e1,e2]
     rfl
    ·rintro σ H3 ⟨v4,rfl,hs4,hL4⟩
     refine ⟨⟨_,_,rfl⟩,hs4,?_⟩
     rw [xp,er,<- List.append_assoc]
     rw [show ((tx r.1).length:Int).toNat = r.1.length by omega] at hL4
     exact hL4
   ·rintro σ H2 ⟨v3,v4,rfl,hs2,hL2⟩
    rw [show (xs.length:Int).toNat = rs.length by omega,<- xP] at hL2
    exact ⟨⟨_,_,_,rfl⟩,hs2,hL2⟩
  ·rintro σ H' ⟨v2,v3,v4,rfl,hs,hL⟩
   rw [show (xs.length:Int).toNat = rs.length by omega] at hL
   rfl'
   exact q D H' hD hs hL
theorem ZN {l p:List Nat} {q:Nat} (h:q < l.length):decide (cut l (some (q:Int)) (some ((q:Int) + (p.length:Int))) = p) = zA l (q:Int) p:=by
 rw [Yo l (by omega) (by omega)]
 have e:((q:Int) + (p.length:Int) - (q:Int)).toNat = p.length:=by omega
 rw [e,Int.toNat_natCast]
 unfold zA
 refine decide_eq_decide.mpr ⟨fun h1=>⟨by omega,?_,by rw [Int.toNat_natCast]; exact h1⟩,fun h1=>by have:=h1.2.2; rw [Int.toNat_natCast] at this; exact this⟩
 have h2:=congrArg List.length h1
 rw [List.length_take,List.length_drop] at h2
 omega
def vb (K:PySem.W.Frag):Sp:=fun vs H Q _=>∃ (a:Addr) (ps:List zx) (l:List Nat),vs = [.ref a,.str (tx l)] /\ LsA K H a (ps.map dR) /\ ps.length <= 100 /\ l.length <= 1000 /\ (∀ p ∈ ps,p.1.length <= 1000) /\ ∀ (v:V) (H':Hp),Same H H' -> UseAt H' (zt l ps) v -> Q v H'
theorem qr {a:Addr} {ps:List zx} {l:List Nat} {H:Hp} {Q:VK} {E:XK} (hA:LsA K H a (ps.map dR)) (hpl:ps.length <= 100) (hl:l.length <= 1000) (hP:∀ p ∈ ps,p.1.length <= 1000) (h:∀ (v:V) (H':Hp),Same H H' -> UseAt H' (zt l ps) v -> Q v H'):vb K [.ref a,.str (tx l)] H Q E:=⟨a,ps,l,rfl,hA,hpl,hl,hP,h⟩
theorem sc_use:zq ["_law_rules", "_law_word_here", "_law_at", "_law_k"] ["_law_rules", "_law_word_here"] (zb ZJ):=⟨rfl,rfl,rfl,by decide +kernel,rfl,by decide +kernel,by decide +kernel⟩
theorem Qu {f:Addr} {fd:FuncData} (B:Bt mg)  (F:Fun K "_law_use" "_law_use" ZJ f fd)  : yo P w K mg base CX0 1 f fd ["_law_rules", "_law_word_here"] (vb K):=by
 refine F.ok sc_use (fun vs H Q E h=>?_) (fun cdv A outer s H vs Q E hr h=>?_)
 ·obtain ⟨a,ps,l,rfl,_⟩:=h
  rfl
 ·obtain ⟨a,ps,l,rfl,hA,hpl,hl,hP,k⟩:=h
  refine ⟨_,(zh (yq PassesOwn.never rfl (yC rfl B.range (za (zp yg rfl B.len PySem.boot_len (za (pv 1) zc)) zc)) (zr (i:=2) sc_use.nd rfl (Or.inl rfl))
    (zf (yq PassesOwn.never rfl (yC rfl B.range (za (zp yg rfl B.len PySem.boot_len (za (pv 0) zc)) zc)) (zr (i:=3) sc_use.nd rfl (Or.inl rfl))
     (zf (yh (zF vS (zX xv (pv 1) (zZ (pv 2)) (zZ (zw op_add (pv 2) (zp yg rfl B.len PySem.boot_len (za (zC ix_tup (zC ix_list (pv 0) (pv 3) (fun _ _=>rfl)) zg (fun _ _=>rfl)) zc))))) (zC ix_tup (zC ix_list (pv 0) (pv 3) (fun _ _=>rfl)) zg (fun _ _=>rfl)) (zI _))
      (zf (zu (yr (za (pv 3) (za (pv 2) zc)))))
      zE)))))
   (zf (zu u7))),?_⟩
  have s16:=yl
  have s16:=yl
  obtain ⟨xs,h2,h3⟩:=id hA
  have hxl:=h3.len
  rw [List.length_map] at hxl
  refine zi (fun σ H'=>Same H H' /\ FirstN l ps 0 l.length ps.length none) ?_ ?_
  ·rfl'
   refine ⟨by omega,by omega,by omega,ForR.by (fun i σ H'=>Same H H' /\ FirstN l ps 0 i ps.length none /\ ∃ v2 v3,σ = [some (.ref a),some (.str (tx l)),v2,v3]) ⟨Same.refl _,.inl ⟨rfl,fun j q _ _ h=>by omega⟩,_,_,rfl⟩ ?_ ?_⟩
   ·rintro i σ H' hi ⟨hs,hF,v2,v3,rfl⟩
    have hF':∀ j q,j < ps.length -> q < i -> stJ l ps q j = false:=by
     rcases hF with ⟨_,h⟩ | ⟨_,_,h,_⟩
     ·exact fun j q a b=>h j q a (Nat.zero_le _) b
     ·cases h
    rw [show (0:Int) + (i:Int) = (i:Int) by omega]
    rfl'
    refine ⟨_,.inl ⟨_,SqL.of (hs _ _ h2),rfl⟩,by omega,by omega,ForR.by (fun j σ H''=>Same H H'' /\ (∀ j',j' < j -> stJ l ps i j' = false) /\ ∃ v3,σ = [some (.ref a),some (.str (tx l)),some (.int (i:Nat)),v3]) ⟨hs,fun j' h=>absurd h (Nat.not_lt_zero _),_,rfl⟩ ?_ ?_⟩
    ·rintro j σ H'' hj0 ⟨hs2,hn,v3,rfl⟩
     have hj:j < ps.length:=by omega
     obtain ⟨r,pr,hri,hai,hqr⟩:=Q1 h3 hj
     have hm:=hP r (List.mem_of_getElem? hri)
     have hq:=zD hs2 hqr
     have hX2:=SqL.of (K:=K) (hs2 _ _ h2)
     rw [show (0:Int) + (j:Int) = (j:Int) by omega]
     rfl'
     have ec:=ZN (l:=l) (p:=r.1) (q:=i) (by omega)
     have eb:V.str (tx (cut l (some (i:Int)) (some ((i:Int) + ((tx r.1).length:Int))))) = V.str (tx r.1) ↔ zA l (i:Int) r.1 = true:=by
      rw [<- ec,decide_eq_true_iff,zO]
      exact ⟨fun h=>by injection h with h; exact j4 h,fun h=>by rw [h]⟩
     refine ⟨_,hX2,_,hai,_,rfl,_,hq,_,rfl,_,⟨by rw [zO]; omega,rfl⟩,by omega,_,hX2,_,hai,_,rfl,_,hq,_,rfl,rfl,yE (fun hb=>?_) fun hb=>⟨hs2,fun j' hj'=>?_⟩⟩
     ·refine ⟨by omega,fun t ht=>k (.ref t) _ (hs2.trans (zd ht)) (.inr ⟨j,i,t,?_,rfl,ze⟩)⟩
      refine (vY (.inr ⟨j,i,rfl,hj,Nat.zero_le _,by omega,by rw [wI hri]; exact eb.mp hb,fun j' q' hj' _ hb'=>?_⟩)).symm
      rcases Nat.lt_trichotomy q' i with h | h | h
      ·rw [hF' j' q' hj' h] at hb'
       cases hb'
      ·subst h
       refine .inr ⟨rfl,?_⟩
       rcases Nat.lt_or_ge j' j with h | h
       ·rw [hn j' h] at hb'
        cases hb'
       ·exact h
      ·exact .inl h
     ·by_cases e:j' < j
      ·exact hn j' e
      ·have:j' = j:=by omega
       subst this
       rw [wI hri]
       cases hc:zA l (i:Int) r.1 with
       | false=>rfl
       | true=>exact absurd (eb.mpr hc) hb
    ·rintro σ H'' ⟨hs2,hn,v3,rfl⟩
     refine ⟨hs2,.inl ⟨rfl,fun j q hj _ hq=>?_⟩,_,_,rfl⟩
     by_cases e:q < i
     ·exact hF' j q hj e
     ·have:q = i:=by omega
      subst this
      exact hn j (by omega)
   ·rintro σ H' ⟨hs,hF,v2,v3,rfl⟩
    rw [Int.toNat_natCast] at hF
    exact ⟨hs,hF⟩
  rintro σ H2 ⟨s2,hF⟩
  rfl'
  exact k .non H2 s2 (.inl ⟨(vY hF).symm,rfl⟩)
theorem UseAt.isNone {H:Hp} {r:Option (Nat × Nat)} {v:V} (h:UseAt H r v):decide (v = .non) = r.isNone:=by
 rcases h with ⟨rfl,rfl⟩ | ⟨n,q,p,rfl,rfl,_⟩
 ·rfl
 ·rfl
theorem ZG {l:List Nat} {ps:List zx} {n q:Nat} (hN:NeL ps) (hf:zt l ps = some (n,q)):∃ rl,ps[n]? = some rl /\ zA l (q:Int) rl.1 = true:=by
 have hF:=Zq l ps hN
 rw [hf] at hF
 rcases hF with ⟨h,_⟩ | ⟨n0,q1,e,_,_,_,a4,_⟩
 ·cases h
 ·cases e
  exact (wo a4).2
def vZ (K:PySem.W.Frag):Sp:=fun vs H Q _=>∃ (a:Addr) (ps:List zx) (l:List Nat),vs = [.ref a,.str (tx l)] /\ LsA K H a (ps.map dR) /\ ps.length <= 100 /\ NeL ps /\ (∀ p ∈ ps,p.1.length <= 1000 /\ p.2.length <= 1000) /\ Ends ps l /\ (∀ j,j <= rlen ps l -> (wAt ps l j).length <= 1000) /\ ∀ (p:Addr) (H':Hp),Same H H' -> H' p = some (.tup [.int (rlen ps l:Nat),.str (tx (form ps l))]) -> Q (.ref p) H'
theorem sc_road:zq ["_law_rules", "_law_word_here", "_law_count", "_law_found", "_law_left", "_law_right"] ["_law_rules", "_law_word_here"] (zb qv):=⟨rfl,rfl,rfl,by decide +kernel,rfl,by decide +kernel,by decide +kernel⟩
theorem V4 {f:Addr} {fd:FuncData} (B:Bt mg)  (F:Fun K "_law_road" "_law_road" qv f fd) (D_use:Df P w K mg base CX0 1 "_law_use" ["_law_rules", "_law_word_here"] [] (vb K)):yo P w K mg base CX0 2 f fd ["_law_rules", "_law_word_here"] (vZ K):=by
  refine F.ok sc_road (fun vs H Q E h=>?_) (fun cdv A outer s H vs Q E hr h=>?_)
  · obtain ⟨a,ps,l,rfl,_⟩:=h
    rfl
  · obtain ⟨a,ps,l,rfl,hA,hpl,hN,hP,hE,hW,k⟩:=h
    refine ⟨_,(zh (zl (i:=2) sc_road.nd rfl (Or.inl rfl) zg)
      (zh (zl (i:=3) sc_road.nd rfl (Or.inl rfl) (cl0 D_use hr .nil rfl (za (pv 0) (za (pv 1) zc))))
      (zh (jj PassesOwn.never (zF op_notN' (pv 3) u7 (zI _))
        (zh (ZA (zC ix_list (pv 0) (zC ix_tup (pv 3) zg (fun _ _=>rfl)) (fun _ _=>rfl)) (xD (n:=2) rfl (zB (zr (i:=4) sc_road.nd rfl (Or.inl rfl)) (zB (zr (i:=5) sc_road.nd rfl (Or.inl rfl)) yK))))
        (zh (zl (i:=1) sc_road.nd rfl (Or.inl rfl) (zw op_add_str (zw op_add_str (zX xv (pv 1) yP (zZ (zC ix_tup (pv 3) zg (fun _ _=>rfl)))) (pv 5)) (zX xv (pv 1) (zZ (zw op_add (zC ix_tup (pv 3) zg (fun _ _=>rfl)) (zp yg rfl B.len PySem.boot_len (za (pv 4) zc)))) yP)))
        (zh (zl (i:=2) sc_road.nd rfl (Or.inl rfl) (zw op_add (pv 2) zg))
        (zf (zl (i:=3) sc_road.nd rfl (Or.inl rfl) (cl0 D_use hr .nil rfl (za (pv 0) (za (pv 1) zc)))))))))
      (zf (zu (yr (za (pv 2) (za (pv 1) zc)))))))),?_⟩
    have s16:=yl
    have s16:=yl
    have E:=hE.r
    have hLen:=E.rd.len
    obtain ⟨xs,hX,hI⟩:=id hA
    refine zi (fun σ H'=>H' = H /\ σ = [some (.ref a),some (.str (tx l)),some (.int ((0:Nat):Int)),none,none,none]) ?_ ?_
    · rfl'
      rfl
    rintro σ H1 ⟨rfl,rfl⟩
    refine zi (fun σ H'=>Same H1 H' /\ ∃ uv:V,UseAt H' (zt l ps) uv /\ σ = [some (.ref a),some (.str (tx l)),some (.int ((0:Nat):Int)),some (uv),none,none]) ?_ ?_
    · rfl'
      exact qr hA hpl (hW 0 (Nat.zero_le _)) (fun p hp=>(hP p hp).1) fun v H' s hu=>⟨s,hu⟩
    rintro σ H2 ⟨s2,uv,hu,rfl⟩
    refine zi (fun σ H'=>Same H1 H' /\ ∃ v3 v4 v5,σ = [some (.ref a),some (.str (tx (form ps l))),some (.int (rlen ps l:Nat)),v3,v4,v5]) ?_ ?_
    · unfold kZ
      refine ⟨fun m σ H'=>∃ (j:Nat) (uv:V) (v4 v5:Option V),m = rlen ps l - j /\ j <= rlen ps l /\ Same H1 H' /\ UseAt H' (zt (wAt ps l j) ps) uv /\ σ = [some (.ref a),some (.str (tx (wAt ps l j))),some (.int (j:Nat)),some (uv),v4,v5],⟨_,0,uv,none,none,rfl,Nat.zero_le _,s2,hu,rfl⟩,?_⟩
      rintro m σ H' ⟨j,uv,v4,v5,rfl,hj,hs,hu,rfl⟩
      rfl'
      refine yE (fun hne=>?_) fun hne=>?_
      · rcases hu with ⟨_,h⟩ | ⟨n,q0,p,hf,rfl,hp⟩
        · exact absurd h hne
        have hjl:j < rlen ps l:=by
          rcases Nat.lt_or_ge j (rlen ps l) with h | h
          · exact h
          · have:j = rlen ps l:=by omega
            rw [this,E.fin] at hf
            cases hf
        obtain ⟨rl,hrl,hst⟩:=ZG hN hf
        have hlp:=hP rl (List.mem_of_getElem? hrl)
        have hlj:=hW j hj
        have hw:=yS hf
        obtain ⟨pr,hai,hqr⟩:=UE hI hrl
        refine ⟨fun σ' H''=>∃ (uv:V) (v4 v5:Option V),Same H1 H'' /\ UseAt H'' (zt (wAt ps l (j + 1)) ps) uv /\ σ' = [some (.ref a),some (.str (tx (wAt ps l (j + 1)))),some (.int ((j + 1:Nat):Int)),some (uv),v4,v5],fun σ' H'' ⟨uv,v4,v5,a1,a2,a3⟩=>⟨rlen ps l - (j + 1),by omega,j + 1,rfl,by omega,a1,uv,a2,v4,v5,a3⟩,?_⟩
        refine zi (fun σ' H''=>H'' = H' /\ σ' = [some (.ref a),some (.str (tx (wAt ps l j))),some (.int (j:Nat)),some (.ref p),some (.str (tx rl.1)),some (.str (tx rl.2))]) ?_ ?_
        · rfl'
          exact ⟨_,SqT.of hp,_,rfl,_,_,rfl,SqL.of (hs _ _ hX),_,hai,_,rfl,_,zD hs hqr,rfl,_,_,rfl,_,_,rfl,rfl,rfl,rfl⟩
        rintro σ' G1 ⟨rfl,rfl⟩
        refine zi (fun σ' H''=>H'' = G1 /\ σ' = [some (.ref a),some (.str (tx (wAt ps l (j + 1)))),some (.int (j:Nat)),some (.ref p),some (.str (tx rl.1)),some (.str (tx rl.2))]) ?_ ?_
        · have c1:=yR (wAt ps l j) none (some (q0:Int))
          have c2:=yR (wAt ps l j) (some ((q0:Int) + (rl.1.length:Int))) none
          have e:wAt ps l (j + 1) = wH (wAt ps l j) (q0:Int) rl.1 rl.2:=by
            rw [hw]
            unfold qc
            rw [uo hrl]
          rw [e]
          rfl'
          refine ⟨_,SqT.of hp,_,rfl,_,rfl,by omega,by omega,_,SqT.of hp,_,rfl,by omega,_,rfl,by omega,by rw [List.length_append]; omega,?_⟩
          rw [kG (by omega)]
        rintro σ' G2 ⟨rfl,rfl⟩
        refine zi (fun σ' H''=>H'' = G2 /\ σ' = [some (.ref a),some (.str (tx (wAt ps l (j + 1)))),some (.int ((j + 1:Nat):Int)),some (.ref p),some (.str (tx rl.1)),some (.str (tx rl.2))]) ?_ ?_
        · rfl'
          rfl
        rintro σ' G3 ⟨rfl,rfl⟩
        rfl'
        exact qr (hA.same hs) hpl (hW (j + 1) (by omega)) (fun p hp=>(hP p hp).1) fun v H' s hu=>⟨hs.trans s,hu⟩
      · have hv:uv = .non:=Decidable.not_not.mp hne
        have hf:zt (wAt ps l j) ps = none:=by
          rcases hu with ⟨h,_⟩ | ⟨_,_,_,_,h,_⟩
          · exact h
          · rw [hv] at h
            cases h
        have e:j = rlen ps l:=by
          rcases Nat.lt_or_ge j (rlen ps l) with h | h
          · exact absurd hf (E.rd.live j h)
          · omega
        subst e
        exact ⟨hs,by rw [E.eq],rfl⟩
    rintro σ H3 ⟨s3,v3,v4,v5,rfl⟩
    rfl'
    exact ⟨by omega,fun p hp=>k p _ (s3.trans (zd hp)) ze⟩
theorem jt {a:Addr} {ps:List zx} {l:List Nat} {H:Hp} {Q:VK} {E:XK} (hA:LsA K H a (ps.map dR)) (hpl:ps.length <= 100) (hN:NeL ps) (hP:∀ p ∈ ps,p.1.length <= 1000 /\ p.2.length <= 1000) (hE:Ends ps l) (hW:∀ j,j <= rlen ps l -> (wAt ps l j).length <= 1000) (k:∀ (p:Addr) (H':Hp),Same H H' -> H' p = some (.tup [.int (rlen ps l:Nat),.str (tx (form ps l))]) -> Q (.ref p) H'):vZ K [.ref a,.str (tx l)] H Q E:=⟨a,ps,l,rfl,hA,hpl,hN,hP,hE,hW,k⟩
def qR (K:PySem.W.Frag):Sp:=fun vs H Q _=>∃ (a:Addr) (ps:List zx) (t:N3),vs = [.ref a,.int (t.1:Nat),.int (t.2.1:Nat),.int (t.2.2:Nat)] /\ LsA K H a (ps.map dR) /\ jr ps /\ t ∈ ovA ps ps.length /\ ∀ (p:Addr) (H':Hp),Same H H' -> H' p = some (.tup [.str (tx (pkA ps t)),.str (tx (pkB ps t))]) -> Q (.ref p) H'
theorem sc_l_peak:zq ["_law_rules", "_law_i", "_law_j", "_law_at", "_law_word_here", "_law_one"] ["_law_rules", "_law_i", "_law_j", "_law_at"] (zb wx):=⟨rfl,rfl,rfl,by decide +kernel,rfl,by decide +kernel,by decide +kernel⟩
theorem Xe {f:Addr} {fd:FuncData} (B:Bt mg)  (F:Fun K "_law_peak" "_law_peak" wx f fd)  : yo P w K mg base CX0 1 f fd ["_law_rules", "_law_i", "_law_j", "_law_at"] (qR K):=by
 refine F.ok sc_l_peak (fun vs H Q E h=>?_) (fun cdv A outer s H vs Q E hr h=>?_)
 ·obtain ⟨a,ps,t,rfl,_⟩:=h
  rfl
 ·obtain ⟨a,ps,t,rfl,hA,hok,ht,k⟩:=h
  refine ⟨_,(zh (zl (i:=4) sc_l_peak.nd rfl (Or.inl rfl) (zw zW (zC ix_tup (zC ix_list (pv 0) (pv 1) (fun _ _=>rfl)) zg (fun _ _=>rfl)) (zX xv (zC ix_tup (zC ix_list (pv 0) (pv 2) (fun _ _=>rfl)) zg (fun _ _=>rfl)) (zZ (zw wp (zp yg rfl B.len PySem.boot_len (za (zC ix_tup (zC ix_list (pv 0) (pv 1) (fun _ _=>rfl)) zg (fun _ _=>rfl)) zc)) (pv 3))) yP)))
   (zh (zl (i:=5) sc_l_peak.nd rfl (Or.inl rfl) (zw zW (zC ix_tup (zC ix_list (pv 0) (pv 1) (fun _ _=>rfl)) zg (fun _ _=>rfl)) (zX xv (pv 4) (zZ (zp yg rfl B.len PySem.boot_len (za (zC ix_tup (zC ix_list (pv 0) (pv 1) (fun _ _=>rfl)) zg (fun _ _=>rfl)) zc))) yP)))
   (zf (zu (yr (za (pv 5) (za (zw zW (zw zW (zX xv (pv 4) yP (zZ (pv 3))) (zC ix_tup (zC ix_list (pv 0) (pv 2) (fun _ _=>rfl)) zg (fun _ _=>rfl))) (zX xv (pv 4) (zZ (zw zW (pv 3) (zp yg rfl B.len PySem.boot_len (za (zC ix_tup (zC ix_list (pv 0) (pv 2) (fun _ _=>rfl)) zg (fun _ _=>rfl)) zc)))) yP)) zc))))))),?_⟩
  have s16:=yl
  have s16:=yl
  obtain ⟨i1,i2,i3,i4⟩:=kH ht
  obtain ⟨r,hr⟩:∃ r,ps[t.1]? = some r:=⟨_,List.getElem?_eq_getElem i1⟩
  obtain ⟨r2,hr2⟩:∃ r,ps[t.2.1]? = some r:=⟨_,List.getElem?_eq_getElem i2⟩
  have l1:=vQ hr
  have l2:=vQ hr2
  have d1:ps.getD t.1 ([],[]) = r:=by rw [List.getD_eq_getElem?_getD,hr]; rfl
  have d2:ps.getD t.2.1 ([],[]) = r2:=by rw [List.getD_eq_getElem?_getD,hr2]; rfl
  have eA:pkA ps t = wH (yf r.1 r2.1 t.2.2) 0 r.1 r.2:=by unfold pkA; rw [l1,l2,d1]
  have eB:pkB ps t = wH (yf r.1 r2.1 t.2.2) (t.2.2:Nat) r2.1 r2.2:=by unfold pkB; rw [l1,l2,d2]
  rw [l1] at i3
  rw [l1,l2] at i4
  have b1:=hok.2 r (List.mem_of_getElem? hr)
  have b2:=hok.2 r2 (List.mem_of_getElem? hr2)
  obtain ⟨xs,hX,hI⟩:=id hA
  obtain ⟨p1,a1,q1⟩:=UE hI hr
  obtain ⟨p2,a2,q2⟩:=UE hI hr2
  refine zi (fun σ H'=>H' = H /\ σ = [some (.ref a),some (.int (t.1:Nat)),some (.int (t.2.1:Nat)),some (.int (t.2.2:Nat)),some (.str (tx (yf r.1 r2.1 t.2.2))),none]) ?_ ?_
  ·rfl'
   refine ⟨_,SqL.of hX,_,a1,_,rfl,_,q1,_,rfl,_,SqL.of hX,_,a2,_,rfl,_,q2,_,rfl,_,SqL.of hX,_,a1,_,rfl,_,q1,_,rfl,_,⟨by rw [zO]; omega,rfl⟩,?_⟩
   have c1:=yR r2.1 (some ((r.1.length:Int) - (t.2.2:Int))) none
   refine ⟨_,rfl,by rw [zO]; omega,_,rfl,by rw [zO,jF]; omega,?_⟩
   rw [zO,jF,xG,vh _ (by omega)]
   unfold yf
   congr 3
   omega
  rintro σ H1 ⟨rfl,rfl⟩
  have lw:=vg r.1 r2.1 t.2.2 (by omega)
  refine zi (fun σ H'=>H' = H1 /\ σ = [some (.ref a),some (.int (t.1:Nat)),some (.int (t.2.1:Nat)),some (.int (t.2.2:Nat)),some (.str (tx (yf r.1 r2.1 t.2.2))),some (.str (tx (pkA ps t)))]) ?_ ?_
  ·rfl'
   refine ⟨_,SqL.of hX,_,a1,_,rfl,_,q1,_,rfl,_,SqL.of hX,_,a1,_,rfl,_,q1,_,rfl,_,⟨by rw [zO]; omega,rfl⟩,?_⟩
   have c1:=yR (yf r.1 r2.1 t.2.2) (some (r.1.length:Int)) none
   refine ⟨by omega,_,rfl,by simp only [zO]; omega,?_⟩
   rw [zO,xG,eA,<- kG (by decide:(0:Int) <= 0),Int.zero_add]
   congr 2
  rintro σ H2 ⟨rfl,rfl⟩
  rfl'
  refine ⟨by omega,_,SqL.of hX,_,a2,_,rfl,_,q2,_,rfl,?_⟩
  have c1:=yR (yf r.1 r2.1 t.2.2) none (some (t.2.2:Int))
  have c2:=yR (yf r.1 r2.1 t.2.2) (some ((t.2.2:Int) + (r2.1.length:Int))) none
  refine ⟨_,rfl,by rw [zO]; omega,_,SqL.of hX,_,a2,_,rfl,_,q2,_,rfl,_,⟨by rw [zO]; omega,rfl⟩,by omega,?_,by omega,fun p hp=>k p _ (zd hp) ?_⟩
  ·simp only [xG,zO,List.length_append]
   omega
  ·simp only [ze,zO,xG]
   rw [kG (by omega),<- eB]
theorem qQ {p:Addr} {a b c:V} {i j k:Nat} {σ:L2.St} {H:Hp} {R:L2.St -> Hp -> Prop} (h:SqT K H p [a,b,c]) (k':R (((σ.set i (some a)).set j (some b)).set k (some c)) H):XM K 3 (yY (yt i) (yY (yt j) (yY (yt k) Xh))) (.ref p) σ H R:=by
 simp only [XM,yY,yt,Xh]
 first
 | exact ⟨_,_,rfl,h,rfl,_,_,rfl,_,_,rfl,_,_,rfl,rfl,k'⟩
 | exact ⟨_,_,rfl,.inr h,rfl,_,_,rfl,_,_,rfl,_,_,rfl,rfl,k'⟩
theorem Xs {D t:Addr} {H H':Hp} {ys xs:List V} (s:SamT D H H') (hD:H D = some (.lst ys)) (h:SqT K H t xs):SqT K H' t xs:=by
 rcases h with (h | ⟨o,h⟩) | h
 ·exact .inl (.inl (s _ _ (fun z=>by rw [z,hD] at h; cases h) h))
 ·exact .inl (.inr ⟨o,s _ _ (fun z=>by rw [z,hD] at h; cases h) h⟩)
 ·exact .inr h
def dSn (ps:List zx) (t:N3):L3.D:=.tup [d3 t,.int (xZ ps t:Nat),.bl (wV ps t)]
def uQ (K:PySem.W.Frag):Sp:=fun vs H Q _=>∃ (a:Addr) (ps:List zx),vs = [.ref a] /\ LsA K H a (ps.map dR) /\ NeL ps /\ jr ps /\ PkE ps /\ (∀ t ∈ ovA ps ps.length,(∀ j,j <= rlen ps (pkA ps t) -> (wAt ps (pkA ps t) j).length <= 1000) /\ ∀ j,j <= rlen ps (pkB ps t) -> (wAt ps (pkB ps t) j).length <= 1000) /\ (ovA ps ps.length).length <= 4000 /\ ∀ (D:Addr) (H':Hp),Same H H' -> H D = none -> LsA K H' D ((ovA ps ps.length).map (dSn ps)) -> Q (.ref D) H'
theorem kK (ps:List zx) (t:N3):xU (dSn ps t):=by simp only [dSn,d3,xU,yp,and_self]
theorem XJ (ps:List zx) (ts:List N3):yp (ts.map (dSn ps)):=we fun d h=>by obtain ⟨r,_,rfl⟩:=List.mem_map.mp h; exact kK ps r
theorem sc_roads:zq ["_law_rules", "_law_seen", "_law_i", "_law_j", "_law_at", "_law_one", "_law_other", "_law_here", "_law_there"] ["_law_rules"] (zb vB):=⟨rfl,rfl,rfl,by decide +kernel,rfl,by decide +kernel,by decide +kernel⟩
theorem WM {f:Addr} {fd:FuncData} (B:Bt mg)  (F:Fun K "_law_roads" "_law_roads" vB f fd) (D_l_overlaps:Df P w K mg base CX0 2 "_law_overlaps" ["_law_rules"] [] (yu K)) (D_l_peak:Df P w K mg base CX0 1 "_law_peak" ["_law_rules", "_law_i", "_law_j", "_law_at"] [] (qR K)) (D_road:Df P w K mg base CX0 2 "_law_road" ["_law_rules", "_law_word_here"] [] (vZ K)):yo P w K mg base CX0 3 f fd ["_law_rules"] (uQ K):=by
 refine F.ok sc_roads (fun vs H Q E h=>?_) (fun cdv A outer s H vs Q E hr h=>?_)
 ·obtain ⟨a,ps,rfl,_⟩:=h
  rfl
 ·obtain ⟨a,ps,rfl,hA,hN,hok,hE,hW,hol,k⟩:=h
  refine ⟨_,(zh (zl (i:=1) sc_roads.nd rfl (Or.inl rfl) (wk zc))
   (zh (yq PassesOwn.never rfl (yZ (cl0 D_l_overlaps hr .nil rfl (za (pv 0) zc))) (xD (n:=3) rfl (zB (zr (i:=2) sc_roads.nd rfl (Or.inl rfl)) (zB (zr (i:=3) sc_roads.nd rfl (Or.inl rfl)) (zB (zr (i:=4) sc_roads.nd rfl (Or.inl rfl)) yK))))
    (zh (ZA (cl0 D_l_peak hr .nil rfl (za (pv 0) (za (pv 2) (za (pv 3) (za (pv 4) zc))))) (xD (n:=2) rfl (zB (zr (i:=5) sc_roads.nd rfl (Or.inl rfl)) (zB (zr (i:=6) sc_roads.nd rfl (Or.inl rfl)) yK))))
    (zh (zl (i:=7) sc_roads.nd rfl (Or.inl rfl) (cl0 D_road hr .nil rfl (za (pv 0) (za (pv 5) zc))))
    (zh (zl (i:=8) sc_roads.nd rfl (Or.inl rfl) (cl0 D_road hr .nil rfl (za (pv 0) (za (pv 6) zc))))
    (zf (xj (wY PySem.F.plainAttrs_list PySem.F.slot_list_append PySem.F.type_list_append yk (pv 1) (za (yr (za (yr (za (pv 2) (za (pv 3) (za (pv 4) zc)))) (za (zp (Vk rfl) rfl B.max ug (za (zC ix_tup (pv 7) zg (fun _ _=>rfl)) (za (zC ix_tup (pv 8) zg (fun _ _=>rfl)) zc))) (za (xW vS (zC ix_tup (pv 7) zg (fun _ _=>rfl)) (zC ix_tup (pv 8) zg (fun _ _=>rfl)) (zI _)) zc)))) zc))))))))
   (zf (zu (pv 1))))),?_⟩
  have s16:=yl
  have s16:=yl
  have hP:∀ p ∈ ps,p.1.length <= 1000 /\ p.2.length <= 1000:=fun p hp=>by have:=hok.2 p hp; omega
  have hpl:ps.length <= 100:=by have:=hok.1; omega
  refine zi (fun σ H'=>Same H H' /\ ∃ D:Addr,H D = none /\ H' D = some (.lst []) /\ σ = [some (.ref a),some (.ref D),none,none,none,none,none,none,none]) ?_ ?_
  ·rfl'
   exact ⟨by omega,fun p hp=>⟨zd hp,p,hp,ze,rfl⟩⟩
  rintro σ H1 ⟨s1,D,hDn,hD,rfl⟩
  refine zi (fun σ H'=>Same H H' /\ ∃ (v2 v3 v4 v5 v6 v7 v8:Option V),LsA K H' D ((ovA ps ps.length).map (dSn ps)) /\ σ = [some (.ref a),some (.ref D),v2,v3,v4,v5,v6,v7,v8]) ?_ ?_
  ·rfl'
   refine vO (hA.same s1).is hok fun O H2 hO s2 hL=>⟨O,rfl,?_,?_⟩
   ·obtain ⟨xs,hX,_⟩:=hL
    exact ⟨_,SqL.of hX⟩
   obtain ⟨xs,hX,hI⟩:=hL
   have hxl:=hI.len
   rw [List.length_map] at hxl
   have hD2:=s2 _ _ hD
   have hOD:O ≠ D:=fun z=>by rw [z,hD] at hO; cases hO
   have s02:=s1.trans s2
   have back:∀ {G:Hp},SamT D H2 G -> Same H G:=fun {G} sT b o' e=>sT b o' (fun z=>by rw [z,hDn] at e; cases e) (s02 b o' e)
   refine ForL.by (xs:=xs) (fun i σ H'=>SamT D H2 H' /\ ∃ (v2 v3 v4 v5 v6 v7 v8:Option V),LsA K H' D (((ovA ps ps.length).take i).map (dSn ps)) /\ σ = [some (.ref a),some (.ref D),v2,v3,v4,v5,v6,v7,v8]) ⟨SamT.of (Same.refl _),none,none,none,none,none,none,none,⟨[],hD2,by simp only [List.take_zero,List.map_nil,Iss]⟩,rfl⟩ (fun i σ H' _ h=>SqL.of (h.1 _ _ hOD hX)) ?_ ?_
   ·rintro i y σ H' hy ⟨sT,v2,v3,v4,v5,v6,v7,v8,hL,rfl⟩
    have hil:=(List.getElem?_eq_some_iff.mp hy).1
    obtain ⟨t,p,ht,rfl,hp⟩:=hI.get3 hy
    have htm:=List.mem_of_getElem? ht
    have hE':=hE t htm
    have hW':=hW t htm
    have hs:=back sT
    refine qQ (Xs sT hD2 hp) ?_
    simp only [List.set_cons_succ,List.set_cons_zero]
    refine zi (fun σ' G=>Same H' G /\ σ' = [some (.ref a),some (.ref D),some (.int (t.1:Nat)),some (.int (t.2.1:Nat)),some (.int (t.2.2:Nat)),some (.str (tx (pkA ps t))),some (.str (tx (pkB ps t))),v7,v8]) ?_ ?_
    ·rfl'
     exact ⟨a,ps,t,rfl,hA.same hs,hok,htm,fun q G g hq=>⟨q,rfl,_,SqT.of hq,rfl,_,_,rfl,_,_,rfl,rfl,g,rfl,rfl⟩⟩
    rintro σ' G1 ⟨g1,rfl⟩
    refine zi (fun σ' G=>Same H' G /\ ∃ q1:Addr,G q1 = some (.tup [.int (rlen ps (pkA ps t):Nat),.str (tx (form ps (pkA ps t)))]) /\ σ' = [some (.ref a),some (.ref D),some (.int (t.1:Nat)),some (.int (t.2.1:Nat)),some (.int (t.2.2:Nat)),some (.str (tx (pkA ps t))),some (.str (tx (pkB ps t))),some (.ref q1),v8]) ?_ ?_
    ·rfl'
     exact jt (hA.same (hs.trans g1)) hpl hN hP hE'.1 hW'.1 fun q G g hq=>⟨g1.trans g,q,hq,rfl⟩
    rintro σ' G2 ⟨g2,q1,hq1,rfl⟩
    refine zi (fun σ' G=>Same H' G /\ G q1 = some (.tup [.int (rlen ps (pkA ps t):Nat),.str (tx (form ps (pkA ps t)))]) /\ ∃ q2:Addr,G q2 = some (.tup [.int (rlen ps (pkB ps t):Nat),.str (tx (form ps (pkB ps t)))]) /\ σ' = [some (.ref a),some (.ref D),some (.int (t.1:Nat)),some (.int (t.2.1:Nat)),some (.int (t.2.2:Nat)),some (.str (tx (pkA ps t))),some (.str (tx (pkB ps t))),some (.ref q1),some (.ref q2)]) ?_ ?_
    ·rfl'
     exact jt (hA.same (hs.trans g2)) hpl hN hP hE'.2 hW'.2 fun q G g hq=>⟨g2.trans g,g _ _ hq1,q,hq,rfl⟩
    rintro σ' G3 ⟨g3,hq1',q2,hq2,rfl⟩
    obtain ⟨ys,hY,hJ⟩:=hL.same g3
    have hyl:=hJ.len
    rw [List.length_map,List.length_take] at hyl
    have eM:V.int (if ((rlen ps (pkB ps t):Nat):Int) > ((rlen ps (pkA ps t):Nat):Int) then ((rlen ps (pkB ps t):Nat):Int) else ((rlen ps (pkA ps t):Nat):Int)) = V.int (xZ ps t:Nat):=by
     unfold xZ
     congr 1
     split <;> omega
    have eB:V.bl (decide (V.str (tx (form ps (pkA ps t))) = V.str (tx (form ps (pkB ps t))))) = V.bl (wV ps t):=by
     unfold wV
     congr 1
     exact decide_eq_decide.mpr ⟨fun h=>by injection h with h; exact j4 h,fun h=>by rw [h]⟩
    rfl'
    refine ⟨.inl ⟨_,SqL.of hY⟩,by omega,fun p1 hp1=>?_⟩
    have u1:=zd (o:=HO.tup [.int (t.1:Nat),.int (t.2.1:Nat),.int (t.2.2:Nat)]) hp1
    refine ⟨_,SqT.of (u1 _ _ hq1'),_,rfl,_,SqT.of (u1 _ _ hq2),_,rfl,_,rfl,_,rfl,_,SqT.of (u1 _ _ hq1'),_,rfl,_,SqT.of (u1 _ _ hq2),_,rfl,rfl,by omega,fun p2 hp2=>?_⟩
    rw [eM,eB]
    have u2:=zd (o:=HO.tup [.ref p1,.int (xZ ps t:Nat),.bl (wV ps t)]) hp2
    have u12:=u1.trans u2
    refine ⟨ys,u12 _ _ hY,by omega,fun b o' hb e=>?_,?_⟩
    ·rw [zo hb]
     exact u12 _ _ (g3 _ _ (sT b o' hb e))
    ·rw [yb ht,List.map_append]
     refine LsA.snoc (u12 _ _ hY) (Iss.same u12 _ _ hJ) (XJ ps _) (kK ps t) ?_
     simp only [dSn,d3,Is,Iss]
     exact ⟨p2,_,rfl,SqT.of ze,_,_,rfl,⟨p1,_,rfl,SqT.of (u2 _ _ ze),_,_,rfl,rfl,_,_,rfl,rfl,_,_,rfl,rfl,rfl⟩,_,_,rfl,rfl,_,_,rfl,rfl,rfl⟩
   ·rintro σ H' ⟨sT,v2,v3,v4,v5,v6,v7,v8,hL,rfl⟩
    rw [hxl,List.take_length] at hL
    exact ⟨back sT,hL,_,_,_,_,_,_,_,rfl⟩
  rintro σ H2 ⟨s2,v2,v3,v4,v5,v6,v7,v8,hL,rfl⟩
  rfl'
  exact k D H2 s2 hDn hL
structure Ks (K:PySem.W.Frag):Prop where
 ii:PySem.W.kitOne K (.type "int") (.type "int") = some true
 ib:PySem.W.kitOne K (.type "int") (.type "bool") = some false
def vU:Sp:=fun vs H Q _=>∃ i:Int,vs = [.int i] /\ Q (.bl true) H
theorem Ys {i:Int} {H:Hp} {Q:VK} {E:XK} (h:Q (.bl true) H):vU [.int i] H Q E:=⟨i,rfl,h⟩
theorem WA:zq ["_law_found"] ["_law_found"] (zb vD):=⟨rfl,rfl,rfl,by decide +kernel,rfl,by decide +kernel,by decide +kernel⟩
theorem Vc {f:Addr} {fd:FuncData} (B:Bt mg) (T:Ks K) (F:Fun K "_law_whole" "_law_whole" vD f fd):yo P w K mg base CX0 1 f fd ["_law_found"] vU:=by
 refine F.ok WA (fun vs H Q E h=>?_) (fun cdv A outer s H vs Q E hr h=>?_)
 ·obtain ⟨a,rfl,_⟩:=h
  rfl
 ·obtain ⟨i,rfl,q⟩:=h
  refine ⟨_,(zf (zu (ur (wL rfl B.isi (pv 0) rfl B.int PySem.Pv.boot_int) (jK (Vo (wL rfl B.isi (pv 0) rfl B.bool PySem.Pv.boot_bool)))))),?_⟩
  rfl'
  exact ⟨_,.inl (.int _),true,T.ii,JY ⟨_,.inl (.int _),false,T.ib,q⟩⟩
def xJ (K:PySem.W.Frag):Sp:=fun vs H Q _=>∃ (D:Addr) (os:List N3),vs = [.ref D] /\ LsA K H D (os.map d3) /\ Q (.bl true) H
theorem uk {D:Addr} {os:List N3} {H:Hp} {Q:VK} {E:XK} (h:LsA K H D (os.map d3)) (q:Q (.bl true) H):xJ K [.ref D] H Q E:=⟨D,os,rfl,h,q⟩
structure TTr (K:PySem.W.Frag):Prop where
 ll:PySem.W.kitOne K (.type "list") (.type "list") = some true
 tt:PySem.W.kitOne K (.type "tuple") (.type "tuple") = some true
theorem sc_triples:zq ["_law_found", "_law_one", "_law_part"] ["_law_found"] (zb xB):=⟨rfl,rfl,rfl,by decide +kernel,rfl,by decide +kernel,by decide +kernel⟩
theorem Yi {f:Addr} {fd:FuncData} (B:Bt mg) (T:TTr K) (F:Fun K "_law_triples" "_law_triples" xB f fd) (D_whole:Df P w K mg base CX0 1 "_law_whole" ["_law_found"] [] vU):yo P w K mg base CX0 2 f fd ["_law_found"] (xJ K):=by
 refine F.ok sc_triples (fun vs H Q E h=>?_) (fun cdv A outer s H vs Q E hr h=>?_)
 ·obtain ⟨D,os,rfl,_⟩:=h
  rfl
 ·obtain ⟨D,os,rfl,hL,q⟩:=h
  refine ⟨_,(zH (yh (yH (wN (wL rfl B.isi (pv 0) rfl B.list PySem.Pv.boot_list) (fun _=>rfl)))
    (zf (zu xk))
    zE)
   (zH (yq PassesOwn.never rfl (yZ (pv 0)) (zr (i:=1) sc_triples.nd rfl (Or.inl rfl))
    (zH (yh (PW.pt (ZQ (yH (wN (wL rfl B.isi (pv 1) rfl B.tuple PySem.Pv.boot_tuple) (fun _=>rfl))) (qe (zF Z2 (zp yg rfl B.len PySem.boot_len (za (pv 1) zc)) zg (zI _)))))
     (zf (zu xk))
     zE)
    (zf (yq PassesOwn.never rfl (Qt (pv 1)) (zr (i:=2) sc_triples.nd rfl (Or.inl rfl))
     (zf (yh (yH (wN (cl0 D_whole hr .nil rfl (za (pv 2) zc)) (fun _=>rfl)))
      (zf (zu xk))
      zE))))))
   (zf (zu xk)))),?_⟩
  have s16:=yl
  rfl'
  obtain ⟨xs,hX,hI⟩:=hL
  refine ⟨_,.inl (.lst hX),true,T.ll,Jl ⟨⟨_,SqL.of hX⟩,ForL.by (xs:=xs) (fun i σ H'=>H' = H /\ ∃ v1 v2,σ = [some (.ref D),v1,v2]) ⟨rfl,none,none,rfl⟩ (fun i σ H' _ h=>by rw [h.1]; exact SqL.of hX) ?_ ?_⟩⟩
  ·rintro i x σ H' hx ⟨rfl,v1,v2,rfl⟩
   obtain ⟨t,p,ht,rfl,hp⟩:=hI.get3 hx
   rfl'
   refine ⟨_,.inr (.inr (.inr ⟨_,_,rfl,rfl,hp⟩)),true,T.tt,Jl ⟨_,.inr ⟨_,hp,rfl⟩,?_⟩⟩
   rfl'
   refine ⟨⟨_,hp⟩,ForT.by (xs:=[.int (t.1:Nat),.int (t.2.1:Nat),.int (t.2.2:Nat)]) (fun i σ H''=>H'' = H' /\ ∃ v2,σ = [some (.ref D),some (.ref p),v2]) ⟨rfl,_,rfl⟩ (fun i σ H' _ h=>by rw [h.1]; exact hp) ?_ ?_⟩
   ·rintro j y σ H'' hy ⟨rfl,v2,rfl⟩
    have hyy:∃ z:Int,y = .int z:=by
     match j,hy with
     | 0,hy=>exact ⟨_,(Option.some.inj hy).symm⟩
     | 1,hy=>exact ⟨_,(Option.some.inj hy).symm⟩
     | 2,hy=>exact ⟨_,(Option.some.inj hy).symm⟩
     | j + 3,hy=>simp at hy
    obtain ⟨z,rfl⟩:=hyy
    rfl'
    exact Ys ⟨true,rfl,Jl rfl⟩
   ·rintro σ H'' ⟨rfl,v2,rfl⟩
    exact ⟨rfl,_,_,rfl⟩
  ·rintro σ H' ⟨rfl,v1,v2,rfl⟩
   rfl'
   exact q
structure QH (K:PySem.W.Frag) (mg:Str -> Option Value) (CT CF CE:Addr):Prop where
 gE:mg "LetterError" = some (.ref CE)
 gF:mg "TooFar" = some (.ref CF)
 gT:mg "NotTurned" = some (.ref CT)
 xE:XI K CE
 xF:XI K CF
 kF:PySem.W.kitOne K (.ref CF) (.ref CF) = some true
 kV:PySem.W.kitOne K (.ref CF) (.type "ValueError") = some true
 kT:PySem.W.kitOne K (.ref CF) (.ref CT) = some false
 sF:PySem.W.subIn K (.ref CF) (.ref CE) = some true
 sFF:PySem.W.subIn K (.ref CF) (.ref CF) = some true
structure TBl (K:PySem.W.Frag):Prop where
 bb:PySem.W.kitOne K (.type "bool") (.type "bool") = some true
theorem VP:bootBuiltins "ValueError" = some (.type "ValueError"):=by decide +kernel
def jn (K:PySem.W.Frag) (CH:Addr):Sp:=fun vs H Q _=>∃ (y o q:Addr) (ps:List zx) (m:Nat) (t:N3),vs = [.ref y,.int (m:Nat)] /\ SysAt K CH H y o q ps /\ NeL ps /\ jr ps /\ (ovA ps ps.length).length <= 4000 /\ PkE ps /\ t ∈ ovA ps ps.length /\ m < xZ ps t /\ ∀ H',Same H H' -> Q (.bl true) H'
theorem sc_refused:zq ["_law_system", "_law_most", "_law_refused_here", "e"] ["_law_system", "_law_most"] (zb xw):=⟨rfl,rfl,rfl,by decide +kernel,rfl,by decide +kernel,by decide +kernel⟩
theorem Yd {f CT CF CE CH:Addr} {fd:FuncData} {dt_unmet:Tok} (B:Bt mg) (TA:QH K mg CT CF CE) (F:Fun K "_law_refused" "_law_refused" xw f fd) (D_unmet:Df P w K mg base (CXx P w) 7 "unmet" ["system", "most"] [] (yT K CH CF)) (DD_unmet:Df P w K mg base (CXx P w) 7 "unmet" ["system", "most"] [.int 4000 dt_unmet] (yT K CH CF)):yo P w K mg base CX0 8 f fd ["_law_system", "_law_most"] (jn K CH):=by
 refine F.ok sc_refused (fun vs H Q E h=>?_) (fun cdv A outer s H vs Q E hr h=>?_)
 ·obtain ⟨y,o,q,ps,m,t,rfl,_⟩:=h
  rfl
 ·obtain ⟨y,o,q,ps,m,t,rfl,hy,hN,hok,hol,hE,ht,hm,k⟩:=h
  refine ⟨_,(zh (zl (i:=2) sc_refused.nd rfl (Or.inl rfl) xk)
   (zh (Ul sc_refused.nd ⟨rfl,rfl⟩ (clX D_unmet hr .nil rfl (za (pv 0) (za (pv 1) zc)))
    (V3 (ts:=(UI (W6 (tCB (Uz K) (yL (wG 3) (yL (tC (.ref CF)) qf))) (W6 (tCB (Uz K) (yL (wG 3) (yL (tC (.ty "ValueError")) qf))) (VD (tCB (Uz K) (yL (wG 3) (yL (tC (.ref CT)) qf)))))) (yt 2))) 3 (fun e=>(zf (zl (i:=2) sc_refused.nd rfl (Or.inl rfl) (ur (Vx rfl B.isi (pv 3) rfl TA.gF) (ur (wL rfl B.isi (pv 3) rfl B.verr VP) (jK (Vo (Vx rfl B.isi (pv 3) rfl TA.gT)))))))) rfl TA.gE rfl rfl TA.xE.ok .nil))
   (zf (zu (pv 2))))),?_⟩
  have s16:=yl
  have s16:=yl
  refine zi (fun σ H'=>H' = H /\ σ = [some (.ref y),some (.int (m:Nat)),some (.bl false),none]) ?_ ?_
  ·rfl'
  rintro σ H1 ⟨rfl,rfl⟩
  refine zi (fun σ H'=>Same H1 H' /\ ∃ v3,σ = [some (.ref y),some (.int (m:Nat)),some (.bl true),v3]) ?_ ?_
  ·simp only [UK]
   repeat (first | rfl' | simp only [yF,zy,zM,yG,yJ,zv])
   refine ⟨y,o,q,ps,m,rfl,hy,hN,hok,hol,hE,fun hall=>absurd (hall t ht) (by omega),fun t' ht' hm' H' s'=>⟨CF,rfl,fun x hx=>⟨true,TA.sF,JY ?_⟩⟩⟩
   have sy:=zd (o:=XT x CF none) hx
   have xa:XAt (upd H' x (XT x CF none)) x CF none []:=⟨ze,.inl ⟨rfl,rfl⟩⟩
   have ty:TyX K (upd H' x (XT x CF none)) (.ref x) (.ref CF):=.inr (.inl ⟨x,CF,none,_,rfl,rfl,xa,TA.xF⟩)
   repeat (first | rfl' | simp only [yF,zy,zM,yG,yJ,zv])
   exact ⟨_,ty,true,TA.kF,yE (fun _=>⟨_,ty,true,TA.kV,yE (fun _=>⟨_,ty,false,TA.kT,s'.trans sy,rfl⟩) fun e=>absurd rfl e⟩) fun e=>absurd rfl e⟩
  rintro σ H3 ⟨s3,v3,rfl⟩
  rfl'
  exact k H3 s3
def qS (K:PySem.W.Frag) (CH:Addr):Sp:=fun vs H Q _=>∃ (y o q p:Addr) (ps:List zx) (t:N3) (m:Nat),vs = [.ref y,.ref p,.int (m:Nat)] /\ SysAt K CH H y o q ps /\ NeL ps /\ jr ps /\ SqT K H p [.int (t.1:Nat),.int (t.2.1:Nat),.int (t.2.2:Nat)] /\ t ∈ ovA ps ps.length /\ PkE ps /\ m < xZ ps t /\ ∀ H',Same H H' -> Q (.bl true) H'
theorem sc_meets_refused:zq ["_law_system", "_law_overlap", "_law_most", "_law_refused_here"] ["_law_system", "_law_overlap", "_law_most"] (zb z7):=⟨rfl,rfl,rfl,by decide +kernel,rfl,by decide +kernel,by decide +kernel⟩
theorem vT {f CT CF CE CH:Addr} {fd:FuncData} {dt_meets:Tok} (B:Bt mg) (TA:QH K mg CT CF CE) (F:Fun K "_law_meets_refused" "_law_meets_refused" z7 f fd) (D_meets:Df P w K mg base (CXx P w) 7 "meets" ["system", "overlap", "most"] [] (yD K CH CF)) (DD_meets:Df P w K mg base (CXx P w) 7 "meets" ["system", "overlap", "most"] [.int 4000 dt_meets] (yD K CH CF)):yo P w K mg base CX0 8 f fd ["_law_system", "_law_overlap", "_law_most"] (qS K CH):=by
 refine F.ok sc_meets_refused (fun vs H Q E h=>?_) (fun cdv A outer s H vs Q E hr h=>?_)
 ·obtain ⟨y,o,q,p,ps,t,m,rfl,_⟩:=h
  rfl
 ·obtain ⟨y,o,q,p,ps,t,m,rfl,hy,hN,hok,hp,ht,hE,hm,k⟩:=h
  refine ⟨_,(zh (zl (i:=3) sc_meets_refused.nd rfl (Or.inl rfl) xk)
   (zh (Uv (th:=(UI (tC (.bl true)) (yt 3))) ⟨rfl,rfl⟩ (clX D_meets hr .nil rfl (za (pv 0) (za (pv 1) (za (pv 2) zc)))) rfl TA.gF TA.xF.ok (fun e=>(zf (zl (i:=3) sc_meets_refused.nd rfl (Or.inl rfl) xk))))
   (zf (zu (pv 3))))),?_⟩
  have s16:=yl
  have s16:=yl
  refine zi (fun σ H'=>H' = H /\ σ = [some (.ref y),some (.ref p),some (.int (m:Nat)),some (.bl false)]) ?_ ?_
  ·rfl'
  rintro σ H1 ⟨rfl,rfl⟩
  refine zi (fun σ H'=>Same H1 H' /\ σ = [some (.ref y),some (.ref p),some (.int (m:Nat)),some (.bl true)]) ?_ ?_
  ·simp only [UV]
   repeat (first | rfl' | simp only [yF,zy,zM,yG,yJ,zv])
   exact ⟨y,o,q,p,ps,t,m,rfl,hy,hN,hok,hp,ht,hE,fun h=>absurd h (by omega),fun _ H' s'=>⟨CF,rfl,TA.sFF,fun x hx=>s'.trans (zd hx)⟩⟩
  rintro σ H3 ⟨s3,rfl⟩
  rfl'
  exact k H3 s3
def ko (K:PySem.W.Frag) (CH:Addr):Sp:=fun vs H Q _=>∃ (y o q p:Addr) (ps:List zx) (t:N3),vs = [.ref y,.ref p,.int (xZ ps t:Nat),.bl (wV ps t)] /\ SysAt K CH H y o q ps /\ NeL ps /\ jr ps /\ SqT K H p [.int (t.1:Nat),.int (t.2.1:Nat),.int (t.2.2:Nat)] /\ t ∈ ovA ps ps.length /\ PkE ps /\ ∀ H',Same H H' -> Q (.bl true) H'
theorem sc_one_bounded:zq ["_law_system", "_law_overlap", "_law_size", "_law_same", "_law_found"] ["_law_system", "_law_overlap", "_law_size", "_law_same"] (zb yn):=⟨rfl,rfl,rfl,by decide +kernel,rfl,by decide +kernel,by decide +kernel⟩
theorem uZ {f CT CF CE CH:Addr} {fd:FuncData} {dt_meets:Tok} (B:Bt mg) (TA:QH K mg CT CF CE) (TBB:TBl K) (F:Fun K "_law_one_bounded" "_law_one_bounded" yn f fd) (D_meets:Df P w K mg base (CXx P w) 7 "meets" ["system", "overlap", "most"] [] (yD K CH CF)) (DD_meets:Df P w K mg base (CXx P w) 7 "meets" ["system", "overlap", "most"] [.int 4000 dt_meets] (yD K CH CF)) (D_meets_refused:Df P w K mg base CX0 8 "_law_meets_refused" ["_law_system", "_law_overlap", "_law_most"] [] (qS K CH)):yo P w K mg base CX0 9 f fd ["_law_system", "_law_overlap", "_law_size", "_law_same"] (ko K CH):=by
 refine F.ok sc_one_bounded (fun vs H Q E h=>?_) (fun cdv A outer s H vs Q E hr h=>?_)
 ·obtain ⟨y,o,q,p,ps,t,rfl,_⟩:=h
  rfl
 ·obtain ⟨y,o,q,p,ps,t,rfl,hy,hN,hok,hp,ht,hE,k⟩:=h
  refine ⟨_,(zh (yh (PW.pt (jw (zF Zt (pv 2) zg (zI _)) (uG (yH (wN (cl0 D_meets_refused hr .nil rfl (za (pv 0) (za (pv 1) (za (zw wp (pv 2) zg) zc)))) (fun _=>rfl))))))
    (zf (zu xk))
    zE)
   (zh (zl (i:=4) sc_one_bounded.nd rfl (Or.inl rfl) (clP xe0 D_meets hr .nil rfl (za (pv 0) (za (pv 1) (za (pv 2) zc)))))
   (zf (zu (ur (wL rfl B.isi (pv 4) rfl B.bool PySem.Pv.boot_bool) (jK (xW vS (pv 4) (pv 3) (zI _)))))))),?_⟩
  have s16:=yl
  have s16:=yl
  refine zi (fun σ H'=>Same H H' /\ σ = [some (.ref y),some (.ref p),some (.int (xZ ps t:Nat)),some (.bl (wV ps t)),none]) ?_ ?_
  ·repeat (first | rfl' | simp only [yF,zy,zM,yG,yJ,zv])
   refine yE (fun h=>?_) fun _=>Same.refl _
   rw [show ((xZ ps t:Nat):Int) - 1 = ((xZ ps t - 1:Nat):Int) by omega]
   exact ⟨y,o,q,p,ps,t,_,rfl,hy,hN,hok,hp,ht,hE,by omega,fun H' s'=>⟨true,rfl,yE (fun e=>by cases e) fun _=>s'⟩⟩
  rintro σ H1 ⟨s1,rfl⟩
  refine zi (fun σ H'=>Same H H' /\ σ = [some (.ref y),some (.ref p),some (.int (xZ ps t:Nat)),some (.bl (wV ps t)),some (.bl (wV ps t))]) ?_ ?_
  ·repeat (first | rfl' | simp only [yF,zy,zM,yG,yJ,zv])
   exact ⟨y,o,q,p,ps,t,xZ ps t,rfl,hy.same s1,hN,hok,zD s1 hp,ht,hE,fun _ H' s'=>⟨s1.trans s',rfl⟩,fun h=>absurd h (Nat.lt_irrefl _)⟩
  rintro σ H2 ⟨s2,rfl⟩
  repeat (first | rfl' | simp only [yF,zy,zM,yG,yJ,zv])
  exact ⟨_,.inl (.bl _),true,TBB.bb,yE (fun _=>k H2 s2) fun e=>absurd rfl e⟩
theorem uV {α:Type} [DecidableEq α]:∀ {xs ys:List α},xs.Nodup -> (∀ x ∈ xs,x ∈ ys) -> xs.length <= ys.length
 | [],_,_,_=>Nat.zero_le _
 | x :: xs,ys,hn,hs=>by
  have hx:=hs x List.mem_cons_self
  obtain ⟨h1,h2⟩:=List.nodup_cons.mp hn
  have:=uV (ys:=ys.erase x) h2 fun y hy=>(List.mem_erase_of_ne fun e=>h1 (by rw [<- e]; exact hy)).mpr (hs y (List.mem_cons_of_mem _ hy))
  rw [List.length_erase_of_mem hx] at this
  have h0:=List.length_pos_of_mem hx
  rw [List.length_cons]
  omega
theorem w6 {w o:List Nat} {q:Nat} (h:zA w (q:Int) o = true):w.take q ++ o ++ w.drop (q + o.length) = w:=by
 unfold zA at h
 obtain ⟨_,_,e⟩:=of_decide_eq_true h
 rw [Int.toNat_natCast] at e
 calc w.take q ++ o ++ w.drop (q + o.length) = w.take q ++ ((w.drop q).take o.length ++ (w.drop q).drop o.length):=by rw [e,List.drop_drop,List.append_assoc]
  _ = w.take q ++ w.drop q:=by rw [List.take_append_drop]
  _ = w:=List.take_append_drop q w
theorem ue {w:List Nat} {ps:List zx} {u:Nat × Nat} (h:zt w ps = some u):∃ p,ps[u.1]? = some p /\ zA w (u.2:Int) p.1 = true:=by
 unfold zt at h
 have hm:u ∈ xg w ps w.length:=List.mem_of_mem_head? h
 obtain ⟨_,h2⟩:=usesK_mem.mp hm
 obtain ⟨_,p,hp,hs⟩:=wo h2
 exact ⟨p,hp,hs⟩
theorem Zf {k:Nat} {l:List Nat} {ns:List Int} {ps:List zx} {w:List Nat} {u:Nat × Nat} (G:OG l ns k) (hp:∀ p ∈ ps,zN k l ns p.2 p.1 = true /\ (∀ c ∈ p.1,c ∈ l) /\ ∀ c ∈ p.2,c ∈ l) (hw:∀ c ∈ w,c ∈ l) (h:zt w ps = some u):zN k l ns (qc w ps u) w = true /\ ∀ c ∈ qc w ps u,c ∈ l:=by
 obtain ⟨p,h1,h2⟩:=ue h
 have e1:=w6 h2
 obtain ⟨p1,p2,p3⟩:=hp p (List.mem_of_getElem? h1)
 unfold qc wH
 rw [uo h1,Int.toNat_natCast]
 have ha:∀ c ∈ w.take u.2,c ∈ l:=fun c hc=>hw c (List.mem_of_mem_take hc)
 have hb:∀ c ∈ w.drop (u.2 + p.1.length),c ∈ l:=fun c hc=>hw c (List.mem_of_mem_drop hc)
 generalize w.take u.2 = a at *
 generalize w.drop (u.2 + p.1.length) = b at *
 rw [<- e1]
 have ap:∀ x:List Nat,(∀ c ∈ x,c ∈ l) -> ∀ c ∈ a ++ x,c ∈ l:=fun x hx c hc=>(List.mem_append.mp hc).elim (ha c) (hx c)
 refine ⟨?_,fun c hc=>(List.mem_append.mp hc).elim (ap p.2 p3 c) (hb c)⟩
 rw [(vd G hb (ap p.2 p3) (ap p.1 p2)).2,(vd G ha p3 p2).1]
 exact p1
section
variable {k:Nat} {l:List Nat} {ns:List Int} {ps:List zx} {w:List Nat}
theorem qu (G:OG l ns k) (hp:∀ p ∈ ps,zN k l ns p.2 p.1 = true /\ (∀ c ∈ p.1,c ∈ l) /\ ∀ c ∈ p.2,c ∈ l) (hw:∀ c ∈ w,c ∈ l):∀ j,∀ c ∈ wAt ps w j,c ∈ l
 | 0=>hw
 | j + 1=>by
  have ih:=qu G hp hw j
  cases e:zt (wAt ps w j) ps with
  | none =>
   show ∀ c ∈ Wc ps (wAt ps w j),c ∈ l
   unfold Wc
   rw [e]
   exact ih
  | some u =>
   rw [yS e]
   exact (Zf G hp ih e).2
theorem V8 (G:OG l ns k) (hp:∀ p ∈ ps,zN k l ns p.2 p.1 = true /\ (∀ c ∈ p.1,c ∈ l) /\ ∀ c ∈ p.2,c ∈ l) (hw:∀ c ∈ w,c ∈ l):∀ j,wAt ps w j = w \/ zN k l ns (wAt ps w j) w = true
 | 0=>.inl rfl
 | j + 1=>by
  have ih:=V8 G hp hw j
  have hm:=qu G hp hw j
  cases e:zt (wAt ps w j) ps with
  | none =>
   show Wc ps (wAt ps w j) = w \/ zN k l ns (Wc ps (wAt ps w j)) w = true
   unfold Wc
   rw [e]
   exact ih
  | some u =>
   rw [yS e]
   have h:=(Zf G hp hm e).1
   rcases ih with h' | h'
   ·rw [h'] at h ⊢
    exact .inr h
   ·exact .inr (uy h h')
theorem kR (G:OG l ns k) (hp:∀ p ∈ ps,zN k l ns p.2 p.1 = true /\ (∀ c ∈ p.1,c ∈ l) /\ ∀ c ∈ p.2,c ∈ l) (hw:∀ c ∈ w,c ∈ l) {i:Nat}:∀ {d:Nat},kj ps w (i + d + 1) -> zN k l ns (wAt ps w (i + d + 1)) (wAt ps w i) = true
 | 0,h=>by
  cases e:zt (wAt ps w i) ps with
  | none=>exact absurd e (h i (by omega))
  | some u =>
   rw [Nat.add_zero,yS e]
   exact (Zf G hp (qu G hp hw i) e).1
 | d + 1,h=>by
  have ih:=kR G hp hw (i:=i) (d:=d) fun m hm=>h m (by omega)
  cases e:zt (wAt ps w (i + (d + 1))) ps with
  | none=>exact absurd e (h _ (by omega))
  | some u =>
   rw [yS e]
   exact uy (Zf G hp (qu G hp hw _) e).1 ih
theorem YS (G:OG l ns k) (hp:∀ p ∈ ps,zN k l ns p.2 p.1 = true /\ (∀ c ∈ p.1,c ∈ l) /\ ∀ c ∈ p.2,c ∈ l) (hw:∀ c ∈ w,c ∈ l) {Ws:List (List Nat)} (hin:∀ v,(∀ c ∈ v,c ∈ l) -> (v = w \/ zN k l ns v w = true) -> v ∈ Ws):∃ J,J < Ws.length /\ kj ps w J /\ zt (wAt ps w J) ps = none:=by
 have live:∀ N,(∃ J,J < N /\ kj ps w J /\ zt (wAt ps w J) ps = none) \/ kj ps w N:=fun N=>by
  induction N with
  | zero=>exact .inr fun i hi=>absurd hi (Nat.not_lt_zero i)
  | succ N ih =>
   rcases ih with ⟨J,h1,h2,h3⟩ | h
   ·exact .inl ⟨J,by omega,h2,h3⟩
   ·cases e:zt (wAt ps w N) ps with
    | none=>exact .inl ⟨N,by omega,h,e⟩
    | some u =>
     refine .inr fun i hi=>?_
     by_cases hi':i < N
     ·exact h i hi'
     ·have:i = N:=by omega
      rw [this,e]
      exact fun z=>by cases z
 rcases live Ws.length with h | h
 ·exact h
 ·have hn:((List.range (Ws.length + 1)).map (wAt ps w)).Nodup:=by
   rw [List.nodup_iff_pairwise_ne,List.pairwise_map]
   refine List.Pairwise.imp_of_mem (fun {i j} hi hj hij e=>?_) List.pairwise_lt_range
   rw [List.mem_range] at hi hj
   have:=kR G hp hw (i:=i) (d:=j - i - 1) fun m hm=>h m (by omega)
   rw [show i + (j - i - 1) + 1 = j by omega,<- e,vM] at this
   cases this
  have:=uV hn (ys:=Ws) fun v hv=>by
   obtain ⟨i,_,rfl⟩:=List.mem_map.mp hv
   exact hin _ (qu G hp hw i) (V8 G hp hw i)
  rw [List.length_map,List.length_range] at this
  omega
end
def wlF (l:List Nat) (f:Nat -> Nat):Nat -> Nat -> List (List Nat)
 | 0,_=>[[]]
 | n + 1,W=>[] :: l.flatMap fun c=>if f c <= W then (wlF l f n (W - f c)).map (c :: ·) else []
def We (fs:List Nat):Nat -> Nat -> Nat
 | 0,_=>1
 | n + 1,W=>1 + (fs.map fun x=>if x <= W then We fs n (W - x) else 0).sum
theorem Yn (l:List Nat) (f:Nat -> Nat):∀ n W,(wlF l f n W).length = We (l.map f) n W
 | 0,_=>rfl
 | n + 1,W=>by
  unfold wlF We
  rw [List.length_cons,List.length_flatMap,List.map_map,Nat.add_comm]
  congr 2
  refine List.map_congr_left fun c _=>?_
  show (if f c <= W then (wlF l f n (W - f c)).map (c :: ·) else []).length = _
  by_cases h:f c <= W
  ·rw [if_pos h,List.length_map,Yn l f n]
   exact (if_pos h).symm
  ·rw [if_neg h]
   exact (if_neg h).symm
theorem YH {l:List Nat} {f:Nat -> Nat}:∀ {n W:Nat} {v:List Nat},(∀ c ∈ v,c ∈ l) -> v.length <= n -> (v.map f).sum <= W -> v ∈ wlF l f n W
 | 0,W,v,_,hl,_=>by
  rw [List.length_eq_zero_iff.mp (Nat.le_zero.mp hl)]
  exact List.mem_singleton.mpr rfl
 | n + 1,W,[],_,_,_=>List.mem_cons_self
 | n + 1,W,c :: v,hv,hl,hs=>by
  rw [List.map_cons,List.sum_cons] at hs
  refine List.mem_cons_of_mem _ (List.mem_flatMap.mpr ⟨c,hv c List.mem_cons_self,?_⟩)
  rw [if_pos (by omega)]
  exact List.mem_map.mpr ⟨v,YH (fun d hd=>hv d (List.mem_cons_of_mem _ hd)) (by simpa using hl) (by omega),rfl⟩
theorem Zo {k:Nat} {l:List Nat} {ns:List Int} {u v:List Nat} (h:zN k l ns u v = true):zj k l ns u <= zj k l ns v:=by
 unfold zN at h
 by_cases e:zj k l ns u = zj k l ns v
 ·omega
 ·rw [if_neg e] at h
  have:=of_decide_eq_true h
  omega
def vo (ps:List zx) (x:List Nat):Prop:=Ends ps x /\ ∀ j,(wAt ps x j).length <= 1000
section
variable {k:Nat} {l:List Nat} {ns:List Int} {ps:List zx} {x:List Nat}
theorem Xu (G:OG l ns k) (hp:∀ p ∈ ps,zN k l ns p.2 p.1 = true /\ (∀ c ∈ p.1,c ∈ l) /\ ∀ c ∈ p.2,c ∈ l) (hx:∀ c ∈ x,c ∈ l) (f:Nat -> Nat) {n W:Nat} (hin:∀ v,(∀ c ∈ v,c ∈ l) -> (v = x \/ zN k l ns v x = true) -> v.length <= n /\ (v.map f).sum <= W) (hc:We (l.map f) n W <= 4000) (hn:n <= 1000):vo ps x:=by
 obtain ⟨J,h1,h2,h3⟩:=YS G hp hx (Ws:=wlF l f n W) fun v hv hle=>YH hv (hin v hv hle).1 (hin v hv hle).2
 rw [Yn] at h1
 have hl:∀ j,(wAt ps x j).length <= 1000:=fun j=>Nat.le_trans (hin _ (qu G hp hx j) (V8 G hp hx j)).1 hn
 exact ⟨⟨J,by omega,⟨h2,fun j _=>by have:=hl j; omega,by omega⟩,h3⟩,hl⟩
end
theorem Wi (v:List Nat):(v.map fun _=>1).sum = v.length:=by
 induction v with
 | nil=>rfl
 | cons a v ih=>rw [List.map_cons,List.sum_cons,ih,List.length_cons]; omega
theorem Wu:∀ m < 4,We (List.replicate m 1) 7 7 <= 4000:=by decide +kernel
theorem Uo:We [2] 14 14 <= 4000 /\ We [1,2] 14 14 <= 4000 /\ We [2,1] 14 14 <= 4000 /\ We [2,2] 14 14 <= 4000:=by decide +kernel
def QS (k:Nat) (l:List Nat) (ws:List Int):Prop:=l.length <= 3 /\ (k = 2 -> l.length <= 2 /\ ∃ b:Int,1 <= b /\ ∀ n ∈ ws,b <= n /\ n < 2 * b)
theorem qh {l:List Nat} {ws:List Int} (G:OG l ws 2) {v:List Nat} (hv:∀ c ∈ v,c ∈ l):zj 2 l ws v = (v.map fun c=>ws.getD (l.idxOf c) 0).sum:=by
 rw [yM G hv]
 unfold x0
 rw [List.map_map]
 rfl
theorem Yu {v:List Nat} {f:Nat -> Nat} {g:Nat -> Int} {M:Int} (h:∀ c ∈ v,(f c:Int) * M <= 2 * g c):(((v.map f).sum:Nat):Int) * M <= 2 * (v.map g).sum:=by
 induction v with
 | nil=>simp
 | cons c v ih =>
  have h1:=h c List.mem_cons_self
  have h2:=ih fun d hd=>h d (List.mem_cons_of_mem _ hd)
  rw [List.map_cons,List.sum_cons,List.map_cons,List.sum_cons,Int.natCast_add,Int.add_mul]
  omega
theorem Yh {v:List Nat} {g:Nat -> Int} {M:Int} (h:∀ c ∈ v,g c <= M):(v.map g).sum <= M * (v.length:Int):=by
 induction v with
 | nil=>simp
 | cons c v ih =>
  have h1:=h c List.mem_cons_self
  have h2:=ih fun d hd=>h d (List.mem_cons_of_mem _ hd)
  rw [List.map_cons,List.sum_cons,List.length_cons,Int.natCast_add,Int.mul_add]
  omega
theorem ZI {v:List Nat} {f:Nat -> Nat} (h:∀ c ∈ v,1 <= f c):v.length <= (v.map f).sum:=by
 induction v with
 | nil=>exact Nat.zero_le _
 | cons c v ih =>
  have h1:=h c List.mem_cons_self
  have h2:=ih fun d hd=>h d (List.mem_cons_of_mem _ hd)
  rw [List.map_cons,List.sum_cons,List.length_cons]
  omega
theorem ql {k:Nat} {l:List Nat} {ws:List Int} {ps:List zx} {x w:List Nat} (G:OG l ws k) (hp:∀ p ∈ ps,zN k l ws p.2 p.1 = true /\ (∀ c ∈ p.1,c ∈ l) /\ ∀ c ∈ p.2,c ∈ l) (hx:∀ c ∈ x,c ∈ l) (hw:∀ c ∈ w,c ∈ l) (hxw:x = w \/ zN k l ws x w = true) (h7:w.length <= 7) (hO:QS k l ws):vo ps x:=by
 obtain ⟨h3,h2⟩:=hO
 have hle:∀ v,(v = x \/ zN k l ws v x = true) -> zj k l ws v <= zj k l ws w:=fun v hv=>by
  have a1:zj k l ws v <= zj k l ws x:=by
   rcases hv with rfl | hv
   ·exact Int.le_refl _
   ·exact Zo hv
  have a2:zj k l ws x <= zj k l ws w:=by
   rcases hxw with rfl | h
   ·exact Int.le_refl _
   ·exact Zo h
  omega
 by_cases hk:k = 2
 ·subst hk
  obtain ⟨l2,b,hb1,hb⟩:=h2 rfl
  have hg:∀ c ∈ l,b <= ws.getD (l.idxOf c) 0 /\ ws.getD (l.idxOf c) 0 < 2 * b:=fun c hc=>by
   have hlt:=List.idxOf_lt_length_of_mem hc
   have hnl:=G.nl
   have:ws.getD (l.idxOf c) 0 ∈ ws:=by
    rw [List.getD_eq_getElem?_getD,List.getElem?_eq_getElem (by omega)]
    exact List.getElem_mem _
   exact hb _ this
  have key:∀ (M:Int),(∀ c ∈ l,ws.getD (l.idxOf c) 0 <= M) -> 0 < M -> M < 2 * b -> We (l.map fun c=>if ws.getD (l.idxOf c) 0 = M then 2 else 1) 14 14 <= 4000 -> vo ps x:=fun M hM hM0 hM2 hc=>by
   refine Xu G hp hx (fun c=>if ws.getD (l.idxOf c) 0 = M then 2 else 1) (n:=14) (W:=14) (fun v hv hvx=>?_) hc (by decide)
   have e1:=hle v hvx
   rw [qh G hv,qh G hw] at e1
   have e2:=Yu (v:=v) (f:=fun c=>if ws.getD (l.idxOf c) 0 = M then 2 else 1) (g:=fun c=>ws.getD (l.idxOf c) 0) (M:=M) fun c hc=>by
    have:=hg c (hv c hc)
    split
    ·rename_i e
     rw [e]
     omega
    ·have e:((1:Nat):Int) * M = M:=Int.one_mul M
     rw [e]
     omega
   have e3:=Yh (v:=w) (g:=fun c=>ws.getD (l.idxOf c) 0) (M:=M) fun c hc=>hM c (hw c hc)
   have e4:=ZI (v:=v) (f:=fun c=>if ws.getD (l.idxOf c) 0 = M then 2 else 1) fun c _=>by split <;> decide
   have e5:M * (w.length:Int) <= M * 7:=Int.mul_le_mul_of_nonneg_left (by omega) (by omega)
   have e6:((((v.map fun c=>if ws.getD (l.idxOf c) 0 = M then 2 else 1).sum:Nat)):Int) * M <= 14 * M:=by omega
   have e7:=Int.le_of_mul_le_mul_right e6 hM0
   have e8:(v.map fun c=>if ws.getD (l.idxOf c) 0 = M then 2 else 1).sum <= 14:=by omega
   exact ⟨by omega,e8⟩
  obtain ⟨c1,c2,c3,c4⟩:=Uo
  match l,hg,key,l2 with
  | [],hg,key,_ =>
   have:=(of_decide_eq_true G.g).1
   exact absurd this (by decide)
  | [c],hg,key,_ =>
   have h:=hg c List.mem_cons_self
   refine key (ws.getD ([c].idxOf c) 0) (fun d hd=>by rw [List.mem_singleton.mp hd]; exact Int.le_refl _) (by omega) (by omega) ?_
   rw [List.map_cons,if_pos rfl]
   exact c1
  | [c,d],hg,key,_ =>
   have hc:=hg c List.mem_cons_self
   have hd:=hg d (List.mem_cons_of_mem _ List.mem_cons_self)
   by_cases hcd:ws.getD ([c,d].idxOf c) 0 <= ws.getD ([c,d].idxOf d) 0
   ·refine key (ws.getD ([c,d].idxOf d) 0) (fun e he=>?_) (by omega) (by omega) ?_
    ·rcases List.mem_cons.mp he with rfl | he
     ·exact hcd
     ·rw [List.mem_singleton.mp he]; exact Int.le_refl _
    ·rw [List.map_cons,List.map_cons,if_pos (rfl:ws.getD ([c,d].idxOf d) 0 = _)]
     split
     ·exact c4
     ·exact c2
   ·refine key (ws.getD ([c,d].idxOf c) 0) (fun e he=>?_) (by omega) (by omega) ?_
    ·rcases List.mem_cons.mp he with rfl | he
     ·exact Int.le_refl _
     ·rw [List.mem_singleton.mp he]; omega
    ·rw [List.map_cons,List.map_cons,if_pos (rfl:ws.getD ([c,d].idxOf c) 0 = _)]
     rw [if_neg (by omega)]
     exact c3
  | c :: d :: e :: r,_,_,h=>exact absurd h (by simp)
 ·have hlen:∀ v:List Nat,zj k l ws v = (v.length:Int):=fun v=>by unfold zj; rw [if_neg hk]
  refine Xu G hp hx (fun _=>1) (n:=7) (W:=7) (fun v _ hvx=>?_) ?_ (by decide)
  ·have:=hle v hvx
   rw [hlen,hlen] at this
   rw [Wi]
   omega
  ·rw [List.map_const']
   exact Wu l.length (by omega)
theorem kW {k:Nat} {l:List Nat} {ns:List Int} {w:List Nat} {p:zx} {q:Nat} (G:OG l ns k) (hp:zN k l ns p.2 p.1 = true /\ (∀ c ∈ p.1,c ∈ l) /\ ∀ c ∈ p.2,c ∈ l) (hw:∀ c ∈ w,c ∈ l) (h2:zA w (q:Int) p.1 = true):zN k l ns (wH w (q:Int) p.1 p.2) w = true /\ ∀ c ∈ wH w (q:Int) p.1 p.2,c ∈ l:=by
 have e1:=w6 h2
 obtain ⟨p1,p2,p3⟩:=hp
 unfold wH
 rw [Int.toNat_natCast]
 have ha:∀ c ∈ w.take q,c ∈ l:=fun c hc=>hw c (List.mem_of_mem_take hc)
 have hb:∀ c ∈ w.drop (q + p.1.length),c ∈ l:=fun c hc=>hw c (List.mem_of_mem_drop hc)
 generalize w.take q = a at *
 generalize w.drop (q + p.1.length) = b at *
 rw [<- e1]
 have ap:∀ x:List Nat,(∀ c ∈ x,c ∈ l) -> ∀ c ∈ a ++ x,c ∈ l:=fun x hx c hc=>(List.mem_append.mp hc).elim (ha c) (hx c)
 refine ⟨?_,fun c hc=>(List.mem_append.mp hc).elim (ap p.2 p3 c) (hb c)⟩
 rw [(vd G hb (ap p.2 p3) (ap p.1 p2)).2,(vd G ha p3 p2).1]
 exact p1
def PkL (ps:List zx):Prop:=∀ t ∈ ovA ps ps.length,vo ps (pkA ps t) /\ vo ps (pkB ps t)
theorem PkL.e {ps:List zx} (h:PkL ps):PkE ps:=fun t ht=>⟨(h t ht).1.1,(h t ht).2.1⟩
theorem Va {ps:List zx} {t:N3} (ht:t ∈ ovA ps ps.length):∃ r r2,ps[t.1]? = some r /\ ps[t.2.1]? = some r2 /\ t.2.2 < r.1.length /\ zR r.1 r2.1 t.2.2 = true /\ pkA ps t = wH (yf r.1 r2.1 t.2.2) 0 r.1 r.2 /\ pkB ps t = wH (yf r.1 r2.1 t.2.2) (t.2.2:Nat) r2.1 r2.2:=by
 obtain ⟨i1,i2,i3,i4⟩:=kH ht
 obtain ⟨r,hr⟩:∃ r,ps[t.1]? = some r:=⟨_,List.getElem?_eq_getElem i1⟩
 obtain ⟨r2,hr2⟩:∃ r,ps[t.2.1]? = some r:=⟨_,List.getElem?_eq_getElem i2⟩
 have l1:=vQ hr
 have l2:=vQ hr2
 have d1:ps.getD t.1 ([],[]) = r:=by rw [List.getD_eq_getElem?_getD,hr]; rfl
 have d2:ps.getD t.2.1 ([],[]) = r2:=by rw [List.getD_eq_getElem?_getD,hr2]; rfl
 rw [l1] at i3
 rw [l1,l2] at i4
 exact ⟨r,r2,hr,hr2,i3,i4,by unfold pkA; rw [l1,l2,d1],by unfold pkB; rw [l1,l2,d2]⟩
theorem RuL.down {k:Nat} {l:List Nat} {ws:List Int} {m:Nat} {ps:List zx} (h:RuL k l ws m ps):∀ p ∈ ps,zN k l ws p.2 p.1 = true /\ (∀ c ∈ p.1,c ∈ l) /\ ∀ c ∈ p.2,c ∈ l:=fun p hp=>⟨h.lt p hp,h.inn p hp⟩
theorem Wk {k:Nat} {l:List Nat} {ws:List Int} {ps:List zx} (G:OG l ws k) (hR:RuL k l ws 4 ps) (hO:QS k l ws):PkL ps:=fun t ht=>by
 obtain ⟨r,r2,hr,hr2,hk,hag,eA,eB⟩:=Va ht
 have m1:=List.mem_of_getElem? hr
 have m2:=List.mem_of_getElem? hr2
 have d1:=hR.down r m1
 have d2:=hR.down r2 m2
 have b1:=hR.len r m1
 have b2:=hR.len r2 m2
 have hw:∀ c ∈ yf r.1 r2.1 t.2.2,c ∈ l:=fun c hc=>by
  unfold yf at hc
  rcases List.mem_append.mp hc with h | h
  ·exact d1.2.1 c h
  ·exact d2.2.1 c (List.mem_of_mem_drop h)
 have hl:=vg r.1 r2.1 t.2.2 (by omega)
 have pA:=kW (q:=0) G d1 hw (qd r.1 r2.1 t.2.2)
 have pB:=kW (q:=t.2.2) G d2 hw (uT (by omega) hag)
 rw [eA,eB]
 exact ⟨ql G hR.down pA.2 hw (.inr pA.1) (by omega) hO,ql G hR.down pB.2 hw (.inr pB.1) (by omega) hO⟩
theorem Zm {rs:List zx} {M:Nat} (h:∀ i,(lf rs i).length <= M) (i:Nat):∀ m,(ovI rs i m).length <= m * M
 | 0=>by rw [Nat.zero_mul]; exact Nat.le_refl _
 | m + 1=>by
  rw [xp,List.length_append,Nat.succ_mul]
  have h1:=w4 rs i m (lf rs i).length
  have h2:=h i
  have h3:=Zm h i m
  omega
theorem ZD {rs:List zx} {M:Nat} (h:∀ i,(lf rs i).length <= M):∀ m,(ovA rs m).length <= m * (rs.length * M)
 | 0=>by rw [Nat.zero_mul]; exact Nat.le_refl _
 | m + 1=>by
  rw [xP,List.length_append,Nat.succ_mul]
  have h1:=Zm h m rs.length
  have h3:=ZD h m
  omega
theorem Je {rs:List zx} {M:Nat} (h:∀ r ∈ rs,r.1.length <= M) (i:Nat):(lf rs i).length <= M:=by
 cases e:rs[i]? with
 | none=>unfold lf; rw [List.getD_eq_getElem?_getD,e]; exact Nat.zero_le _
 | some r=>rw [vQ e]; exact h r (List.mem_of_getElem? e)
theorem Wj {ps:List zx} (hl:ps.length <= 30) (h4:∀ r ∈ ps,r.1.length <= 4):(ovA ps ps.length).length <= 4000:=by
 have h1:=ZD (Je h4) ps.length
 have h2:ps.length * (ps.length * 4) <= 30 * (30 * 4):=Nat.mul_le_mul hl (Nat.mul_le_mul hl (Nat.le_refl _))
 omega
def wA (p q:Nat):List Nat -> Nat
 | []=>0
 | x :: xs=>(if x = p then xs.count q else 0) + wA p q xs
theorem jg (p q:Nat):∀ (a b:List Nat),wA p q (a ++ b) = wA p q a + wA p q b + a.count p * b.count q
 | [],b=>by simp [wA]
 | x :: a,b=>by
  rw [List.cons_append,wA,wA,jg p q a b,List.count_append,List.count_cons]
  by_cases h:x = p
  ·subst h
   simp only [if_true,beq_self_eq_true,Nat.add_mul,Nat.one_mul]
   omega
  ·have:(x == p) = false:=by simpa using h
   simp only [if_neg h,this,Bool.false_eq_true,if_false,Nat.add_zero]
   omega
theorem Xn {p q:Nat} (h:p ≠ q) (a b:List Nat):wA p q (a ++ [p,q] ++ b) = wA p q (a ++ [q,p] ++ b) + 1:=by
 have h':q ≠ p:=fun e=>h e.symm
 have e1:wA p q [p,q] = 1:=by simp [wA]
 have e2:wA p q [q,p] = 0:=by simp [wA,h']
 have c1:([p,q]:List Nat).count q = ([q,p]:List Nat).count q:=by simp [List.count_cons]; omega
 have c2:([p,q]:List Nat).count p = ([q,p]:List Nat).count p:=by simp [List.count_cons]; omega
 simp only [jg,List.count_append,e1,e2,c1,c2]
 omega
theorem Zk {p q:Nat}:∀ {l:List Nat},(∀ x ∈ l,x = p \/ x = q) -> 0 < wA p q l -> ∃ a b,l = a ++ [p,q] ++ b
 | [],_,h=>by simp [wA] at h
 | x :: xs,hl,h=>by
  by_cases h0:0 < wA p q xs
  ·obtain ⟨a,b,e⟩:=Zk (fun y hy=>hl y (List.mem_cons_of_mem _ hy)) h0
   exact ⟨x :: a,b,by rw [e]; rfl⟩
  ·rw [wA] at h
   have hx:x = p:=by
    by_cases e:x = p
    ·exact e
    ·rw [if_neg e] at h
     omega
   rw [if_pos hx] at h
   cases xs with
   | nil=>simp [wA] at h
   | cons y ys =>
    rcases hl y (by simp) with e | e
    ·rw [wA,if_pos e] at h0
     rw [wA,if_pos e,List.count_cons] at h
     by_cases e2:y = q
     ·exact ⟨[],ys,by rw [hx,e2]; rfl⟩
     ·have:(y == q) = false:=by simpa using e2
      rw [this] at h
      simp at h
      omega
    ·exact ⟨[],ys,by rw [hx,e]; rfl⟩
theorem W3 {p q:Nat} (h:p ≠ q) (a b:Nat):wA p q (List.replicate a p ++ List.replicate b q) = a * b:=by
 have h':q ≠ p:=fun e=>h e.symm
 have e1:∀ n,wA p q (List.replicate n p) = 0:=fun n=>by
  induction n with
  | zero=>rfl
  | succ n ih=>rw [List.replicate_succ,wA,ih,List.count_replicate]; simp [h]
 have e2:∀ n,wA p q (List.replicate n q) = 0:=fun n=>by
  induction n with
  | zero=>rfl
  | succ n ih=>rw [List.replicate_succ,wA,ih]; simp [h']
 rw [jg,e1,e2,List.count_replicate_self,List.count_replicate_self]
 omega
theorem XX {a o b:List Nat}:zA (a ++ o ++ b) (a.length:Int) o = true:=by
 refine decide_eq_true ⟨by omega,by simp only [List.length_append]; omega,?_⟩
 rw [Int.toNat_natCast,List.append_assoc,List.drop_left,List.take_left]
theorem YZ {l o:List Nat} {k:Nat} (h:zA l (k:Int) o = true):l.take k ++ o ++ l.drop (k + o.length) = l:=by
 obtain ⟨h0,h1,h2⟩:=of_decide_eq_true h
 rw [Int.toNat_natCast] at h2
 have e:l.drop k = o ++ l.drop (k + o.length):=by
  have:=List.take_append_drop o.length (l.drop k)
  rw [h2,List.drop_drop] at this
  exact this.symm
 rw [List.append_assoc,<- e,List.take_append_drop]
section
variable {p q:Nat}
theorem kX (hpq:p ≠ q) {l:List Nat} {u:Nat × Nat} (hf:zt l [([p,q],[q,p])] = some u):wA p q l = wA p q (qc l [([p,q],[q,p])] u) + 1 /\ (qc l [([p,q],[q,p])] u).length = l.length /\ ∀ x ∈ qc l [([p,q],[q,p])] u,x ∈ l:=by
 have hm:u ∈ xg l [([p,q],[q,p])] l.length:=List.mem_of_mem_head? (by unfold zt at hf; rw [hf]; rfl)
 obtain ⟨_,hs⟩:=usesK_mem.mp hm
 obtain ⟨hj,r,hr,hst⟩:=wo hs
 have hu:u.1 = 0:=by simp at hj; exact hj
 rw [hu] at hr
 cases hr
 have e1:=YZ hst
 have e2:qc l [([p,q],[q,p])] u = l.take u.2 ++ [q,p] ++ l.drop (u.2 + 2):=by
  unfold qc wH uE
  rw [hu,Int.toNat_natCast]
  rfl
 have e3:l.take u.2 ++ [p,q] ++ l.drop (u.2 + 2) = l:=e1
 refine ⟨?_,?_,?_⟩
 ·rw [e2,<- Xn hpq,e3]
 ·rw [e2]
  have:=congrArg List.length e3
  simp only [List.length_append,List.length_cons,List.length_nil] at this ⊢
  omega
 ·intro x hx
  rw [e2] at hx
  rw [<- e3]
  simp only [List.mem_append,List.mem_cons,List.not_mem_nil,or_false] at hx ⊢
  rcases hx with (h | h | h) | h
  ·exact .inl (.inl h)
  ·exact .inl (.inr (.inr h))
  ·exact .inl (.inr (.inl h))
  ·exact .inr h
theorem XZ {l:List Nat} (hl:∀ x ∈ l,x = p \/ x = q) (hf:zt l [([p,q],[q,p])] = none):wA p q l = 0:=by
 rcases Nat.eq_zero_or_pos (wA p q l) with h | h
 ·exact h
 ·obtain ⟨a,b,e⟩:=Zk hl h
  have hs:stJ l [([p,q],[q,p])] a.length 0 = true:=by
   rw [wI (p:=([p,q],[q,p])) rfl,e]
   exact XX
  have hm:(0,a.length) ∈ xg l [([p,q],[q,p])] l.length:=usesK_mem.mpr ⟨by rw [e]; simp only [List.length_append,List.length_cons,List.length_nil]; omega,hs⟩
  unfold zt at hf
  rw [List.head?_eq_none_iff.mp hf] at hm
  cases hm
theorem wm (hpq:p ≠ q) {l:List Nat} (hl:∀ x ∈ l,x = p \/ x = q):∀ j,j <= wA p q l -> kj [([p,q],[q,p])] l j /\ wA p q (wAt [([p,q],[q,p])] l j) + j = wA p q l /\ (wAt [([p,q],[q,p])] l j).length = l.length /\ ∀ x ∈ wAt [([p,q],[q,p])] l j,x ∈ l
 | 0,_=>⟨fun i h=>absurd h (Nat.not_lt_zero _),rfl,rfl,fun x h=>h⟩
 | j + 1,hj=>by
  obtain ⟨h1,h2,h3,h4⟩:=wm hpq hl j (by omega)
  have hne:zt (wAt [([p,q],[q,p])] l j) [([p,q],[q,p])] ≠ none:=fun e=>by
   have:=XZ (fun x hx=>hl x (h4 x hx)) e
   omega
  cases hf:zt (wAt [([p,q],[q,p])] l j) [([p,q],[q,p])] with
  | none=>exact absurd hf hne
  | some u =>
   obtain ⟨a1,a2,a3⟩:=kX hpq hf
   rw [yS hf]
   refine ⟨fun i hi=>?_,by omega,by omega,fun x hx=>h4 x (a3 x hx)⟩
   by_cases e:i < j
   ·exact h1 i e
   ·have:i = j:=by omega
    rw [this]
    exact hne
theorem W4 (hpq:p ≠ q) {l:List Nat} (hl:∀ x ∈ l,x = p \/ x = q):zt (wAt [([p,q],[q,p])] l (wA p q l)) [([p,q],[q,p])] = none:=by
 obtain ⟨_,h2,_,_⟩:=wm hpq hl _ (Nat.le_refl _)
 cases hf:zt (wAt [([p,q],[q,p])] l (wA p q l)) [([p,q],[q,p])] with
 | none=>rfl
 | some u =>
  have:=(kX hpq hf).1
  omega
end
theorem yU {l m:List Nat} {k j:Nat} (hj:j < m.length) (hk:k + j < l.length) (h:l[k + j]? ≠ m[j]?):zR l m k = false:=by
 cases e:zR l m k with
 | false=>rfl
 | true=>exact absurd ((xI l m k).mp e j hj hk) h
theorem xl {rs:List zx} {i j n:Nat} (h:∀ k,k < n -> (i ≠ j \/ k ≠ 0) -> zR (lf rs i) (lf rs j) k = false):wg rs i j n = []:=by
 unfold wg
 rw [List.map_eq_nil_iff,List.filter_eq_nil_iff]
 intro k hk e
 rw [List.mem_range] at hk
 rw [Bool.and_eq_true,Bool.or_eq_true,decide_eq_true_iff,decide_eq_true_iff] at e
 rw [h k hk e.1] at e
 cases e.2
def ya (a b c i j:Nat):List zx:=[([b,a],[a,b]),(List.replicate i c,List.replicate i b),(c :: List.replicate j a,[])]
def Wp (i:Nat):List N3:=(List.range (i - 1)).map (fun k=>((1,1,k + 1):N3)) ++ [(1,2,i - 1)]
theorem xK {n x k:Nat} (h:k < n):(List.replicate n x)[k]? = some x:=by
 rw [List.getElem?_replicate,if_pos h]
theorem XH {a b c i j:Nat} (hab:a ≠ b) (hac:a ≠ c) (hbc:b ≠ c) (hi:2 <= i) (hj:1 <= j):ovA (ya a b c i j) 3 = Wp i:=by
 have l0:lf (ya a b c i j) 0 = [b,a]:=rfl
 have l1:lf (ya a b c i j) 1 = List.replicate i c:=rfl
 have l2:lf (ya a b c i j) 2 = c :: List.replicate j a:=rfl
 have e00:wg (ya a b c i j) 0 0 2 = []:=xl fun k hk h=>by
  rw [l0]
  have:k = 1:=by rcases h with h | h <;> omega
  subst this
  exact yU (j:=0) (by simp) (by simp) (by simpa using hab)
 have e01:wg (ya a b c i j) 0 1 2 = []:=xl fun k hk _=>by
  rw [l0,l1]
  refine yU (j:=0) (by rw [List.length_replicate]; omega) (by simpa using hk) ?_
  rw [xK (by omega)]
  have:k = 0 \/ k = 1:=by omega
  rcases this with rfl | rfl
  ·simpa using hbc
  ·simpa using hac
 have e02:wg (ya a b c i j) 0 2 2 = []:=xl fun k hk _=>by
  rw [l0,l2]
  refine yU (j:=0) (by simp) (by simpa using hk) ?_
  have:k = 0 \/ k = 1:=by omega
  rcases this with rfl | rfl
  ·simpa using hbc
  ·simpa using hac
 have e10:wg (ya a b c i j) 1 0 i = []:=xl fun k hk _=>by
  rw [l0,l1]
  refine yU (j:=0) (by simp) (by simpa using hk) ?_
  rw [xK (by omega)]
  simpa using fun h=>hbc h.symm
 have e11:wg (ya a b c i j) 1 1 i = (List.range (i - 1)).map fun k=>((1,1,k + 1):N3):=by
  have hag:∀ k,zR (List.replicate i c) (List.replicate i c) k = true:=fun k=>(xI _ _ _).mpr fun m hm hk=>by
   rw [List.length_replicate] at hm hk
   rw [xK hk,xK hm]
  have hf:(fun k:Nat=>(decide ((1:Nat) ≠ 1) || decide (k ≠ 0)) && zR (lf (ya a b c i j) 1) (lf (ya a b c i j) 1) k) = fun k=>decide (k ≠ 0):=by
   funext k
   rw [l1,hag,Bool.and_true]
   rfl
  unfold wg
  rw [hf]
  obtain ⟨n,rfl⟩:∃ n,i = n + 1:=⟨i - 1,by omega⟩
  rw [List.range_succ_eq_map,List.filter_cons,if_neg (by decide),List.filter_eq_self.mpr (by
   intro x hx
   obtain ⟨y,_,rfl⟩:=List.mem_map.mp hx
   exact decide_eq_true (by omega)),List.map_map]
  rfl
 have e12:wg (ya a b c i j) 1 2 i = [((1,2,i - 1):N3)]:=by
  have hfalse:∀ k,k < i - 1 -> zR (List.replicate i c) (c :: List.replicate j a) k = false:=fun k hk=>by
   refine yU (j:=1) (by simp; omega) (by simp; omega) ?_
   rw [xK (by omega),List.getElem?_cons_succ,xK (by omega)]
   simpa using fun h=>hac h.symm
  have htrue:zR (List.replicate i c) (c :: List.replicate j a) (i - 1) = true:=(xI _ _ _).mpr fun m hm hk=>by
   rw [List.length_replicate] at hk
   have:m = 0:=by omega
   subst this
   rw [xK hk]
   rfl
  obtain ⟨n,rfl⟩:∃ n,i = n + 1:=⟨i - 1,by omega⟩
  rw [wb,xl (fun k hk _=>by rw [l1,l2]; exact hfalse k (by omega)),l1,l2]
  rw [show n + 1 - 1 = n by omega] at htrue
  rw [htrue]
  rfl
 have e20:wg (ya a b c i j) 2 0 (j + 1) = []:=xl fun k hk _=>by
  rw [l0,l2]
  refine yU (j:=0) (by simp) (by simp; omega) ?_
  match k,hk with
  | 0,_=>simpa using fun h=>hbc h.symm
  | k + 1,hk =>
   rw [Nat.add_zero,List.getElem?_cons_succ,xK (by omega)]
   simpa using hab
 have e21:wg (ya a b c i j) 2 1 (j + 1) = []:=xl fun k hk _=>by
  rw [l1,l2]
  match k,hk with
  | 0,_ =>
   refine yU (j:=1) (by simp; omega) (by simp; omega) ?_
   rw [xK (by omega),Nat.zero_add,List.getElem?_cons_succ,xK (by omega)]
   simpa using hac
  | k + 1,hk =>
   refine yU (j:=0) (by simp; omega) (by simp; omega) ?_
   rw [xK (by omega),Nat.add_zero,List.getElem?_cons_succ,xK (by omega)]
   simpa using hac
 have e22:wg (ya a b c i j) 2 2 (j + 1) = []:=xl fun k hk h=>by
  rw [l2]
  match k,hk,h with
  | 0,_,h=>exact absurd (h.resolve_left (fun z=>z rfl)) (fun z=>z rfl)
  | k + 1,hk,_ =>
   refine yU (j:=0) (by simp) (by simp; omega) ?_
   rw [Nat.add_zero,List.getElem?_cons_succ,xK (by omega)]
   simpa using hac
 have n0:(lf (ya a b c i j) 0).length = 2:=rfl
 have n1:(lf (ya a b c i j) 1).length = i:=by rw [l1,List.length_replicate]
 have n2:(lf (ya a b c i j) 2).length = j + 1:=by rw [l2,List.length_cons,List.length_replicate]
 have hI:∀ x,ovI (ya a b c i j) x 3 = wg (ya a b c i j) x 0 (lf (ya a b c i j) x).length ++ wg (ya a b c i j) x 1 (lf (ya a b c i j) x).length ++ wg (ya a b c i j) x 2 (lf (ya a b c i j) x).length:=fun x=>by
  rw [xp,xp,xp]
  simp only [ovI,List.range_zero,List.flatMap_nil,List.nil_append]
 have hl:(ya a b c i j).length = 3:=rfl
 rw [xP,xP,xP,hl,hI,hI,hI,n0,n1,n2,e00,e01,e02,e10,e11,e12,e20,e21,e22]
 simp only [ovA,List.range_zero,List.flatMap_nil,List.nil_append,List.append_nil]
 rfl
theorem none_of {ps:List zx} {w:List Nat} (h:∀ p ∈ ps,∃ x,w.count x < p.1.count x):zt w ps = none:=by
 cases e:zt w ps with
 | none=>rfl
 | some u =>
  obtain ⟨p,hp,hs⟩:=ue e
  obtain ⟨x,hx⟩:=h p (List.mem_of_getElem? hp)
  have:=w6 hs
  have hc:w.count x = (w.take u.2).count x + p.1.count x + (w.drop (u.2 + p.1.length)).count x:=by
   conv=>lhs; rw [<- this]
   rw [List.count_append,List.count_append]
  omega
section
variable {a b c i j:Nat}
theorem qW (hac:a ≠ c) (hbc:b ≠ c) (hi:2 <= i) {w:List Nat} (hw:∀ x ∈ w,x = b \/ x = a):zt w (ya a b c i j) = zt w [([b,a],[a,b])]:=by
 have hc0:w.count c = 0:=List.count_eq_zero.mpr fun h=>by
  rcases hw c h with e | e
  ·exact hbc e.symm
  ·exact hac e.symm
 have hst:∀ (q:Nat) (o:List Nat),c ∈ o -> zA w (q:Int) o = false:=fun q o ho=>by
  cases e:zA w (q:Int) o with
  | false=>rfl
  | true =>
   have:=w6 e
   have h1:w.count c = (w.take q).count c + o.count c + (w.drop (q + o.length)).count c:=by
    conv=>lhs; rw [<- this]
    rw [List.count_append,List.count_append]
   have:=List.count_pos_iff.mpr ho
   omega
 have hN:∀ q,vv w (ya a b c i j) q 3 = vv w [([b,a],[a,b])] q 1:=fun q=>by
  rw [xy,xy,xy,xy]
  have s2:stJ w (ya a b c i j) q 2 = false:=by
   rw [wI (p:=(c :: List.replicate j a,[])) rfl]
   exact hst q _ List.mem_cons_self
  have s1:stJ w (ya a b c i j) q 1 = false:=by
   rw [wI (p:=(List.replicate i c,List.replicate i b)) rfl]
   exact hst q _ (List.mem_replicate.mpr ⟨by omega,rfl⟩)
  rw [s1,s2]
  simp only [Bool.false_eq_true,if_false,List.append_nil]
  rfl
 unfold zt xg
 congr 2
 funext q
 exact hN q
theorem vk (hac:a ≠ c) (hbc:b ≠ c) (hi:2 <= i) {w:List Nat} (hw:∀ x ∈ w,x = b \/ x = a):∀ n,wAt (ya a b c i j) w n = wAt [([b,a],[a,b])] w n /\ ∀ x ∈ wAt [([b,a],[a,b])] w n,x = b \/ x = a
 | 0=>⟨rfl,hw⟩
 | n + 1=>by
  obtain ⟨h1,h2⟩:=vk hac hbc hi hw n
  have h3:=qW (j:=j) hac hbc hi h2
  cases e:zt (wAt [([b,a],[a,b])] w n) [([b,a],[a,b])] with
  | none =>
   rw [e] at h3
   have s1:=wC (J:=n) (by rw [h1]; exact h3) 1
   have s2:=wC e 1
   exact ⟨by rw [s1,s2,h1],by rw [s2]; exact h2⟩
  | some u =>
   rw [e] at h3
   have hu:u.1 = 0:=by
    obtain ⟨p,hp,_⟩:=ue e
    have:=(List.getElem?_eq_some_iff.mp hp).1
    simpa using this
   rw [yS e,yS (by rw [h1]; exact h3),h1]
   have eu:qc (wAt [([b,a],[a,b])] w n) (ya a b c i j) u = qc (wAt [([b,a],[a,b])] w n) [([b,a],[a,b])] u:=by
    unfold qc uE
    rw [hu]
    rfl
   refine ⟨eu,fun x hx=>?_⟩
   obtain ⟨p,hp,hs⟩:=ue e
   rw [hu] at hp
   cases hp
   have e1:=w6 hs
   unfold qc wH uE at hx
   rw [hu,Int.toNat_natCast] at hx
   rcases List.mem_append.mp hx with h | h
   ·rcases List.mem_append.mp h with h | h
    ·exact h2 x (List.mem_of_mem_take h)
    ·have:x = a \/ x = b:=by simpa using h
     exact this.symm
   ·exact h2 x (List.mem_of_mem_drop h)
theorem WL (hab:a ≠ b) (hac:a ≠ c) (hbc:b ≠ c) (hi:2 <= i) (hi2:i <= 12) (hj2:j <= 12):vo (ya a b c i j) (List.replicate i b ++ List.replicate j a) /\ rlen (ya a b c i j) (List.replicate i b ++ List.replicate j a) = i * j /\ ∀ x ∈ form (ya a b c i j) (List.replicate i b ++ List.replicate j a),x = b \/ x = a:=by
 have hw:∀ x ∈ List.replicate i b ++ List.replicate j a,x = b \/ x = a:=fun x hx=>by
  rcases List.mem_append.mp hx with h | h
  ·exact .inl (List.mem_replicate.mp h).2
  ·exact .inr (List.mem_replicate.mp h).2
 have hinv:=W3 (p:=b) (q:=a) (fun e=>hab e.symm) i j
 have hle:i * j <= 12 * 12:=Nat.mul_le_mul hi2 hj2
 generalize hW:List.replicate i b ++ List.replicate j a = W at *
 have hWl:W.length = i + j:=by rw [<- hW,List.length_append,List.length_replicate,List.length_replicate]
 have hba:b ≠ a:=fun e=>hab e.symm
 have hEnd:zt (wAt (ya a b c i j) W (i * j)) (ya a b c i j) = none:=by
  obtain ⟨h1,h2⟩:=vk (j:=j) hac hbc hi hw (i * j)
  rw [h1,qW hac hbc hi h2,<- hinv]
  exact W4 hba hw
 have hLive:kj (ya a b c i j) W (i * j):=fun n hn e=>by
  obtain ⟨h1,h2⟩:=vk (j:=j) hac hbc hi hw n
  rw [h1,qW hac hbc hi h2] at e
  exact (wm hba hw (i * j) (by omega)).1 n hn e
 have hLen:∀ n,(wAt (ya a b c i j) W n).length <= 24:=fun n=>by
  rcases Nat.lt_or_ge (i * j) n with h | h
  ·have:=wC hEnd (n - i * j)
   rw [show i * j + (n - i * j) = n by omega] at this
   rw [this,(vk hac hbc hi hw (i * j)).1,(wm hba hw (i * j) (by omega)).2.2.1]
   omega
  ·rw [(vk hac hbc hi hw n).1,(wm hba hw n (by omega)).2.2.1]
   omega
 refine ⟨⟨⟨i * j,by omega,⟨hLive,fun n _=>by have:=hLen n; omega,by omega⟩,hEnd⟩,fun n=>by have:=hLen n; omega⟩,kc (by omega) hLive hEnd,?_⟩
 rw [kq (by omega) hEnd]
 obtain ⟨h1,h2⟩:=vk (j:=j) hac hbc hi hw (i * j)
 rw [h1]
 exact h2
theorem uN {ps:List zx} {w:List Nat} (h:zt w ps = none) (hl:w.length <= 1000):vo ps w /\ rlen ps w = 0 /\ form ps w = w:=by
 have h0:kj ps w 0:=fun n hn=>absurd hn (Nat.not_lt_zero _)
 refine ⟨⟨⟨0,by omega,⟨h0,fun n hn=>?_,by omega⟩,h⟩,fun n=>?_⟩,kc (J:=0) (by omega) h0 h,kq (J:=0) (by omega) h⟩
 ·have:n = 0:=by omega
  rw [this]
  show w.length <= _
  omega
 ·have:=wC (J:=0) (ps:=ps) (v:=w) h n
  rw [Nat.zero_add] at this
  rw [this]
  exact hl
theorem VQ (hab:a ≠ b) (hac:a ≠ c) (hbc:b ≠ c) (hi:2 <= i) (hj:1 <= j) (hi2:i <= 12) {k:Nat} (hk:k + 1 < i):(vo (ya a b c i j) (pkA (ya a b c i j) (1,1,k + 1)) /\ vo (ya a b c i j) (pkB (ya a b c i j) (1,1,k + 1))) /\ xZ (ya a b c i j) (1,1,k + 1) = 0 /\ wV (ya a b c i j) (1,1,k + 1) = false:=by
 have eA:pkA (ya a b c i j) (1,1,k + 1) = List.replicate i b ++ List.replicate (k + 1) c:=by
  show wH (yf (List.replicate i c) (List.replicate i c) (k + 1)) 0 (List.replicate i c) (List.replicate i b) = _
  unfold wH yf
  rw [List.length_replicate,List.drop_replicate]
  show [] ++ List.replicate i b ++ List.drop (0 + i) (List.replicate i c ++ List.replicate (i - (i - (k + 1))) c) = _
  rw [Nat.zero_add,List.nil_append,List.drop_append,List.length_replicate,Nat.sub_self,List.drop_zero,List.drop_replicate,Nat.sub_self]
  rw [show i - (i - (k + 1)) = k + 1 by omega]
  rfl
 have eB:pkB (ya a b c i j) (1,1,k + 1) = List.replicate (k + 1) c ++ List.replicate i b:=by
  show wH (yf (List.replicate i c) (List.replicate i c) (k + 1)) ((k + 1:Nat):Int) (List.replicate i c) (List.replicate i b) = _
  unfold wH yf
  rw [List.length_replicate,List.drop_replicate,Int.toNat_natCast,show i - (i - (k + 1)) = k + 1 by omega,List.replicate_append_replicate,List.take_replicate,List.drop_replicate,show min (k + 1) (i + (k + 1)) = k + 1 by omega,show i + (k + 1) - (k + 1 + i) = 0 by omega]
  simp
 have cnt:∀ w:List Nat,w.count a = 0 -> w.count c = k + 1 -> zt w (ya a b c i j) = none:=fun w h1 h2=>none_of fun p hp=>by
  rcases List.mem_cons.mp hp with rfl | hp
  ·exact ⟨a,by rw [h1]; exact List.count_pos_iff.mpr (by simp)⟩
  ·rcases List.mem_cons.mp hp with rfl | hp
   ·exact ⟨c,by rw [h2,List.count_replicate_self]; exact hk⟩
   ·rw [List.mem_singleton.mp hp]
    exact ⟨a,by rw [h1]; exact List.count_pos_iff.mpr (List.mem_cons_of_mem _ (List.mem_replicate.mpr ⟨by omega,rfl⟩))⟩
 have cb:(List.replicate i b).count a = 0:=List.count_eq_zero.mpr fun h=>hab (List.mem_replicate.mp h).2
 have cc:(List.replicate (k + 1) c).count a = 0:=List.count_eq_zero.mpr fun h=>hac (List.mem_replicate.mp h).2
 have cbc:(List.replicate i b).count c = 0:=List.count_eq_zero.mpr fun h=>hbc (List.mem_replicate.mp h).2.symm
 have s1:=uN (cnt (List.replicate i b ++ List.replicate (k + 1) c) (by rw [List.count_append,cb,cc]) (by rw [List.count_append,cbc,List.count_replicate_self]; omega)) (by rw [List.length_append,List.length_replicate,List.length_replicate]; omega)
 have s2:=uN (cnt (List.replicate (k + 1) c ++ List.replicate i b) (by rw [List.count_append,cb,cc]) (by rw [List.count_append,cbc,List.count_replicate_self])) (by rw [List.length_append,List.length_replicate,List.length_replicate]; omega)
 unfold xZ wV
 rw [eA,eB,s1.2.1,s2.2.1,s1.2.2,s2.2.2]
 refine ⟨⟨s1.1,s2.1⟩,rfl,decide_eq_false fun e=>?_⟩
 obtain ⟨n,rfl⟩:∃ n,i = n + 1:=⟨i - 1,by omega⟩
 rw [List.replicate_succ,List.replicate_succ (n:=k),List.cons_append,List.cons_append] at e
 exact hbc (List.cons.inj e).1
theorem Y4 (hab:a ≠ b) (hac:a ≠ c) (hbc:b ≠ c) (hi:2 <= i) (hj:1 <= j) (hi2:i <= 12) (hj2:j <= 12):(vo (ya a b c i j) (pkA (ya a b c i j) (1,2,i - 1)) /\ vo (ya a b c i j) (pkB (ya a b c i j) (1,2,i - 1))) /\ xZ (ya a b c i j) (1,2,i - 1) = i * j /\ wV (ya a b c i j) (1,2,i - 1) = false:=by
 have hpk:yf (List.replicate i c) (c :: List.replicate j a) (i - 1) = List.replicate i c ++ List.replicate j a:=by
  unfold yf
  rw [List.length_replicate,show i - (i - 1) = 1 by omega]
  rfl
 have eA:pkA (ya a b c i j) (1,2,i - 1) = List.replicate i b ++ List.replicate j a:=by
  show wH (yf (List.replicate i c) (c :: List.replicate j a) (i - 1)) 0 (List.replicate i c) (List.replicate i b) = _
  rw [hpk]
  unfold wH
  rw [List.length_replicate]
  show [] ++ List.replicate i b ++ List.drop (0 + i) (List.replicate i c ++ List.replicate j a) = _
  rw [Nat.zero_add,List.nil_append,List.drop_append,List.length_replicate,Nat.sub_self,List.drop_zero,List.drop_replicate,Nat.sub_self]
  rfl
 have eB:pkB (ya a b c i j) (1,2,i - 1) = List.replicate (i - 1) c:=by
  show wH (yf (List.replicate i c) (c :: List.replicate j a) (i - 1)) ((i - 1:Nat):Int) (c :: List.replicate j a) [] = _
  rw [hpk]
  unfold wH
  rw [Int.toNat_natCast,List.length_cons,List.length_replicate,List.take_append_of_le_length (by rw [List.length_replicate]; omega),List.take_replicate,List.drop_of_length_le (by rw [List.length_append,List.length_replicate,List.length_replicate]; omega),show min (i - 1) i = i - 1 by omega]
  simp
 obtain ⟨r1,r2,r3⟩:=WL (j:=j) hab hac hbc hi hi2 hj2
 have ca:(List.replicate (i - 1) c).count a = 0:=List.count_eq_zero.mpr fun h=>hac (List.mem_replicate.mp h).2
 have s2:=uN (ps:=ya a b c i j) (w:=List.replicate (i - 1) c) (none_of fun p hp=>by
  rcases List.mem_cons.mp hp with rfl | hp
  ·exact ⟨a,by rw [ca]; exact List.count_pos_iff.mpr (by simp)⟩
  ·rcases List.mem_cons.mp hp with rfl | hp
   ·exact ⟨c,by rw [List.count_replicate_self,List.count_replicate_self]; omega⟩
   ·rw [List.mem_singleton.mp hp]
    exact ⟨a,by rw [ca]; exact List.count_pos_iff.mpr (List.mem_cons_of_mem _ (List.mem_replicate.mpr ⟨by omega,rfl⟩))⟩) (by rw [List.length_replicate]; omega)
 unfold xZ wV
 rw [eA,eB,r2,s2.2.1,s2.2.2]
 refine ⟨⟨r1,s2.1⟩,by omega,decide_eq_false fun e=>?_⟩
 rw [e] at r3
 rcases r3 c (List.mem_replicate.mpr ⟨by omega,rfl⟩) with h | h
 ·exact hbc h.symm
 ·exact hac h.symm
theorem XY (hab:a ≠ b) (hac:a ≠ c) (hbc:b ≠ c) (hi:2 <= i) (hj:1 <= j) (hi2:i <= 12) (hj2:j <= 12):∀ t ∈ ovA (ya a b c i j) (ya a b c i j).length,(vo (ya a b c i j) (pkA (ya a b c i j) t) /\ vo (ya a b c i j) (pkB (ya a b c i j) t)) /\ xZ (ya a b c i j) t <= i * j /\ wV (ya a b c i j) t = false:=fun t ht=>by
 have e:ovA (ya a b c i j) (ya a b c i j).length = Wp i:=XH hab hac hbc hi hj
 rw [e] at ht
 unfold Wp at ht
 rcases List.mem_append.mp ht with h | h
 ·obtain ⟨k,hk,rfl⟩:=List.mem_map.mp h
  rw [List.mem_range] at hk
  obtain ⟨h1,h2,h3⟩:=VQ (j:=j) hab hac hbc hi hj hi2 (k:=k) (by omega)
  exact ⟨h1,by rw [h2]; exact Nat.zero_le _,h3⟩
 ·rw [List.mem_singleton.mp h]
  obtain ⟨h1,h2,h3⟩:=Y4 hab hac hbc hi hj hi2 hj2
  exact ⟨h1,by rw [h2]; exact Nat.le_refl _,h3⟩
theorem UX (hab:a ≠ b) (hac:a ≠ c) (hbc:b ≠ c) (hi:2 <= i) (hj:1 <= j) (hi2:i <= 12) (hj2:j <= 12):unL (ya a b c i j) = Wp i:=by
 unfold unL
 rw [List.filter_eq_self.mpr fun t ht=>by rw [(XY hab hac hbc hi hj hi2 hj2 t ht).2.2]; rfl]
 exact XH hab hac hbc hi hj
end
theorem V2 {l:List Nat} {ws:List Int} {a b c i j:Nat} (hl:l = [a,b,c]) (hn:l.Nodup) (hi:2 <= i) (hi2:i <= 12) (hj2:j <= 12):RuL 0 l ws 13 (ya a b c i j):=by
 have hi0:∃ n,i = n + 1:=⟨i - 1,by omega⟩
 subst hl
 have ia:[a,b,c].idxOf a = 0:=List.idxOf_cons_self
 have hab:a ≠ b:=fun e=>by rw [e] at hn; simp at hn
 have hac:a ≠ c:=fun e=>by rw [e] at hn; simp at hn
 have hbc:b ≠ c:=fun e=>by rw [e] at hn; simp at hn
 have ib:[a,b,c].idxOf b = 1:=by simp [List.idxOf_cons,beq_eq_false_iff_ne.mpr hab]
 have ic:[a,b,c].idxOf c = 2:=by simp [List.idxOf_cons,beq_eq_false_iff_ne.mpr hac,beq_eq_false_iff_ne.mpr hbc]
 have ir:∀ n x,x0 [a,b,c] (List.replicate n x) = List.replicate n (([a,b,c].idxOf x:Nat):Int):=fun n x=>by unfold x0; rw [List.map_replicate]
 refine ⟨fun p hp=>?_,fun p hp=>?_,fun p hp=>?_⟩
 ·rcases List.mem_cons.mp hp with rfl | hp
  ·exact ⟨by simp,by simp⟩
  ·rcases List.mem_cons.mp hp with rfl | hp
   ·simp only [List.length_replicate]; omega
   ·rw [List.mem_singleton.mp hp]
    simp only [List.length_cons,List.length_replicate,List.length_nil]; omega
 ·rcases List.mem_cons.mp hp with rfl | hp
  ·exact ⟨fun x hx=>by simp at hx ⊢; rcases hx with h | h <;> simp [h],fun x hx=>by simp at hx ⊢; rcases hx with h | h <;> simp [h]⟩
  ·rcases List.mem_cons.mp hp with rfl | hp
   ·exact ⟨fun x hx=>by rw [(List.mem_replicate.mp hx).2]; simp,fun x hx=>by rw [(List.mem_replicate.mp hx).2]; simp⟩
   ·rw [List.mem_singleton.mp hp]
    refine ⟨fun x hx=>?_,fun x hx=>(nomatch hx)⟩
    rcases List.mem_cons.mp hx with rfl | hx
    ·simp
    ·rw [(List.mem_replicate.mp hx).2]; simp
 ·have wl:∀ u:List Nat,zj 0 [a,b,c] ws u = (u.length:Int):=fun u=>by unfold zj; rw [if_neg (by decide)]
  have rl:∀ u:List Nat,wS 0 [a,b,c] u = x0 [a,b,c] u:=fun u=>by unfold wS xb; rw [if_neg (by decide)]
  rcases List.mem_cons.mp hp with rfl | hp
  ·unfold zN
   rw [if_pos (by rw [wl,wl]; rfl),rl,rl]
   unfold x0
   simp only [List.map_cons,List.map_nil,ia,ib]
   decide
  ·rcases List.mem_cons.mp hp with rfl | hp
   ·unfold zN
    rw [if_pos (by rw [wl,wl,List.length_replicate,List.length_replicate]),rl,rl,ir,ir,ib,ic]
    obtain ⟨n,rfl⟩:=hi0
    rw [List.replicate_succ,List.replicate_succ,ltI,if_neg (by decide)]
    decide
   ·rw [List.mem_singleton.mp hp]
    unfold zN
    rw [if_neg (by rw [wl,wl]; simp only [List.length_nil,List.length_cons]; omega)]
    refine decide_eq_true ?_
    rw [wl,wl]
    simp only [List.length_nil,List.length_cons]
    omega
abbrev MkS (P:Program) (w:World) (K:PySem.W.Frag) (mg:Str -> Option Value) (base:Heap) (CO CR CW CT CH:Addr):Prop:=DMk P w K mg base (CXx P w) 5 CH ["self", "order", "rules"] (ud K CO CR CW CT CH)
def KB:R2:=fun x y H Q=>∃ a b,x = .bl a /\ y = .bl b /\ Q (.bl (!(a == b))) H
theorem YB {X:Cx}:OpR X (compareOp .IsNot) KB:=by
 intro pins s σ H x y v u Q I rx ry h
 obtain ⟨a,b,rfl,rfl,q⟩:=h
 cases rx
 cases ry
 exact PyProof.Rows.isnot_bool ⟨.bl _,H,I,rfl,q⟩
theorem Xq {H:Hp} {Q:Addr -> Hp -> Prop} {CO CR CW CT CH o a:Addr} {k:Nat} {l:List Nat} {ns:List Int} {ps:List zx} (ho:OrdAt CO CR CW H o k l ns) (hG:OG l ns k) (hA:LsA K H a (ps.map dR)) (hin:InL l ps) (hf:wn k l ns ps 0 = none) (q:∀ (y qa:Addr) (H':Hp),Same H H' -> SysAt K CH H' y o qa ps -> Q y H'):∀ x dx,H x = none -> H dx = none -> dx ≠ x -> ud K CO CR CW CT CH [.ref x,.ref o,.ref a] (upd (upd H dx (.own x)) x (.ins CH dx [])) (fun v H'=>v = .non /\ Q x H') E0:=by
 intro x dx hx hdx hne
 obtain ⟨xs,hX,hI⟩:=hA
 have sd:=zd (o:=.own x) hdx
 have k1:Same H (upd (upd H dx (.own x)) x (.ins CH dx [])):=fun b' o' e=>by
  rw [zo (zz e hx)]
  exact sd _ _ e
 refine ⟨x,dx,o,a,k,l,ns,ps,xs,rfl,ze,ho.same k1,hG,k1 _ _ hX,Iss.same k1 _ _ hI,hin,(fun i e=>by rw [hf] at e; cases e),fun _ q1 H'' kp hx' hq' hqn=>⟨rfl,?_⟩⟩
 have k3:Same H H'':=fun b' o' e=>kp b' o' (fun z=>by rw [z,hx] at e; cases e) (k1 _ _ e)
 exact q x q1 H'' k3 ⟨dx,xs,hx',hq',Iss.same k3 _ _ hI⟩
theorem UW {ta:TA} {g:TG} {tt:TT} {te:TE} {own:Nat} {ix:List Nat} {σ:L2.St} {H:Hp} {Q:VK}:qz (Uj ta) g tt te own ix σ H Q = ta σ H fun vs H1=>∃ i j:Int,vs = [.int i,.int j] /\ (-(2 ^ 62) <= i /\ i < 2 ^ 62 /\ -(2 ^ 62) <= j /\ j < 2 ^ 62) /\ ∀ D,H1 D = none -> CompR i (j - i).toNat g tt te own ix σ H1 Q D:=rfl
theorem Qs {n c:Nat}:(List.replicate n [c]).flatten = List.replicate n c:=by
 induction n with
 | zero=>rfl
 | succ n ih=>rw [List.replicate_succ,List.flatten_cons,ih,List.replicate_succ]; rfl
def Y3 (K:PySem.W.Frag):Sp:=fun vs H Q _=>∃ (l:List Nat) (i j:Nat),vs = [.str (tx l),.int (i:Nat),.int (j:Nat)] /\ uj l = true /\ l.length = 3 /\ 2 <= i /\ i <= 12 /\ 1 <= j /\ j <= 12 /\ ∀ H',Q (.bl true) H'
theorem sc_far:zq ["_law_letters_here", "_law_i", "_law_j", "_law_rules", "_law_system", "_law_overlap", "_law_due", "_law_found"] ["_law_letters_here", "_law_i", "_law_j"] (zb kg):=⟨rfl,rfl,rfl,by decide +kernel,rfl,by decide +kernel,by decide +kernel⟩
theorem UP {f CO CR CW CT CF CH:Addr} {fd:FuncData} {dt_unmet:Tok} {dt_meets:Tok} (B:Bt mg) (T:TWS P w K mg base CO CR CW) (TS:Uw K mg CH) (MS:MkS P w K mg base CO CR CW CT CH) (F:Fun K "_law_far" "_law_far" kg f fd) (D_unmet:Df P w K mg base (CXx P w) 7 "unmet" ["system", "most"] [] (yT K CH CF)) (DD_unmet:Df P w K mg base (CXx P w) 7 "unmet" ["system", "most"] [.int 4000 dt_unmet] (yT K CH CF)) (D_triples:Df P w K mg base CX0 2 "_law_triples" ["_law_found"] [] (xJ K)) (D_meets:Df P w K mg base (CXx P w) 7 "meets" ["system", "overlap", "most"] [] (yD K CH CF)) (DD_meets:Df P w K mg base (CXx P w) 7 "meets" ["system", "overlap", "most"] [.int 4000 dt_meets] (yD K CH CF)) (D_meets_refused:Df P w K mg base CX0 8 "_law_meets_refused" ["_law_system", "_law_overlap", "_law_most"] [] (qS K CH)) (D_refused:Df P w K mg base CX0 8 "_law_refused" ["_law_system", "_law_most"] [] (jn K CH)):yo P w K mg base CX0 10 f fd ["_law_letters_here", "_law_i", "_law_j"] (Y3 K):=by
 refine F.ok sc_far (fun vs H Q E h=>?_) (fun cdv A outer s H vs Q E hr h=>?_)
 ·obtain ⟨l,i,j,rfl,_⟩:=h
  rfl
 ·obtain ⟨l,i,j,rfl,hg,hl3,hi,hi2,hj,hj2,q⟩:=h
  refine ⟨_,(zh (zl (i:=3) sc_far.nd rfl (Or.inl rfl) (wk (za (yr (za (zw zW (zC xY (pv 0) zg (fun _ _=>rfl)) (zC xY (pv 0) zg (fun _ _=>rfl))) (za (zw zW (zC xY (pv 0) zg (fun _ _=>rfl)) (zC xY (pv 0) zg (fun _ _=>rfl))) zc))) (za (yr (za (zw xh (zC xY (pv 0) zg (fun _ _=>rfl)) (pv 1)) (za (zw xh (zC xY (pv 0) zg (fun _ _=>rfl)) (pv 1)) zc))) zc))))
   (zh (xj (wY PySem.F.plainAttrs_list PySem.F.slot_list_append PySem.F.type_list_append yk (pv 3) (za (yr (za (zw zW (zC xY (pv 0) zg (fun _ _=>rfl)) (zw xh (zC xY (pv 0) zg (fun _ _=>rfl)) (pv 2))) (za xX zc))) zc)))
   (zh (zl (i:=4) sc_far.nd rfl (Or.inl rfl) (QV xe0 MS hr rfl TS.g (za (mkC T.mO hr rfl T.gO (za (pv 0) zc)) (za (pv 3) zc))))
   (zh (zl (i:=5) sc_far.nd rfl (Or.inl rfl) (yr (za zg (za zg (za (zw wp (pv 1) zg) zc)))))
   (zh (zl (i:=6) sc_far.nd rfl (Or.inl rfl) (zw zW (vm (own:=["_law_k"]) (caps:=[]) (ix:=[]) (tt:=qF) (te:=(Ju (yL (tC (.int 1)) (yL (tC (.int 1)) (yL (wG 0) qf))))) rfl (yB (sc:=zb kg) rfl (by decide +kernel) (by decide +kernel) (by decide +kernel) rfl (by decide +kernel) (by decide +kernel) rfl) (jB rfl B.range (za zg (za (pv 1) zc))) (fun _ _ _ _ _ _=>zr (i:=0) (show List.Nodup [_] by decide) rfl (Or.inl rfl)) (fun _ _ _ _ _ _=>wT) (fun _ _ _ _ _ _=>(yr (za zg (za zg (za (pv 0) zc)))))) (wk (za (pv 5) zc))))
   (zh (yh (PW.pt (ZQ (zF YB (clP (dvs:=[.int 4000]) xe0 DD_meets hr (.cons ⟨_,rfl⟩ .nil) rfl (za (pv 4) (za (pv 5) zc))) xk (zI _)) (qe (zF YB (clP xe0 D_meets hr .nil rfl (za (pv 4) (za (pv 5) (za (zw xh (pv 1) (pv 2)) zc)))) xk (zI _)))))
    (zf (zu xk))
    zE)
   (zh (yh (PW.pt (ZQ (yH (wN (cl0 D_meets_refused hr .nil rfl (za (pv 4) (za (pv 5) (za (zw wp (zw xh (pv 1) (pv 2)) zg) zc)))) (fun _=>rfl))) (qe (yH (wN (cl0 D_refused hr .nil rfl (za (pv 4) (za (zw wp (zw xh (pv 1) (pv 2)) zg) zc))) (fun _=>rfl))))))
    (zf (zu xk))
    zE)
   (zh (zl (i:=7) sc_far.nd rfl (Or.inl rfl) (clP (dvs:=[.int 4000]) xe0 DD_unmet hr (.cons ⟨_,rfl⟩ .nil) rfl (za (pv 4) zc)))
   (zf (zu (ur (cl0 D_triples hr .nil rfl (za (pv 7) zc)) (ur (xW (Zv (xN hr)) (pv 7) (pv 6) (zI _)) (jK (xW (Zv (xN hr)) (clP xe0 D_unmet hr .nil rfl (za (pv 4) (za (zw xh (pv 1) (pv 2)) zc))) (pv 6) (zI _))))))))))))))),?_⟩
  have s16:=yl
  have s16:=yl
  obtain ⟨l1,l6,lsm,lnd⟩:=of_decide_eq_true hg
  obtain ⟨a,b,c,hl⟩:∃ a b c,l = [a,b,c]:=by
   match l,hl3 with
   | [a,b,c],_=>exact ⟨a,b,c,rfl⟩
  have hab:a ≠ b:=fun e=>by rw [hl,e] at lnd; simp at lnd
  have hac:a ≠ c:=fun e=>by rw [hl,e] at lnd; simp at lnd
  have hbc:b ≠ c:=fun e=>by rw [hl,e] at lnd; simp at lnd
  have a0:atI l 0 = some a:=uU (show l[0]? = some a by rw [hl]; rfl)
  have a1:atI l 1 = some b:=uU (show l[1]? = some b by rw [hl]; rfl)
  have a2:atI l 2 = some c:=uU (show l[2]? = some c by rw [hl]; rfl)
  have hR:RuL 0 l [1,1,1] 13 (ya a b c i j):=V2 hl lnd hi hi2 hj2
  have hG:OG l [1,1,1] 0:=⟨hg,by decide,by rw [hl3]; rfl,by decide⟩
  have hN:=hR.neL hG
  have hok:jr (ya a b c i j):=⟨by show 3 <= 30; decide,fun r hr=>by have:=hR.len r hr; omega⟩
  have hall:=XY (a:=a) (b:=b) (c:=c) (i:=i) (j:=j) hab hac hbc hi hj hi2 hj2
  have hPk:PkE (ya a b c i j):=fun t ht=>⟨(hall t ht).1.1.1,(hall t ht).1.2.1⟩
  have hov:ovA (ya a b c i j) (ya a b c i j).length = Wp i:=XH hab hac hbc hi hj
  have hij:i * j <= 12 * 12:=Nat.mul_le_mul hi2 hj2
  have hij1:1 * 1 <= i * j:=Nat.mul_le_mul (by omega) hj
  have hol:(ovA (ya a b c i j) (ya a b c i j).length).length <= 4000:=by rw [hov]; unfold Wp; rw [List.length_append,List.length_map,List.length_range]; simp; omega
  have htw:((1,2,i - 1):N3) ∈ ovA (ya a b c i j) (ya a b c i j).length:=by rw [hov]; exact List.mem_append_right _ (List.mem_singleton.mpr rfl)
  have hlen:=Y4 (a:=a) (b:=b) (c:=c) (i:=i) (j:=j) hab hac hbc hi hj hi2 hj2
  have hun:=UX (a:=a) (b:=b) (c:=c) (i:=i) (j:=j) hab hac hbc hi hj hi2 hj2
  generalize hP:ya a b c i j = ps at *
  refine zi (fun σ H'=>Same H H' /\ ∃ R:Addr,H R = none /\ LsA K H' R ([([b,a],[a,b]),(List.replicate i c,List.replicate i b)].map dR) /\ σ = [some (.str (tx l)),some (.int (i:Nat)),some (.int (j:Nat)),some (.ref R),none,none,none,none]) ?_ ?_
  ·repeat (first | rfl' | simp only [yF,zy,zM,yG,yJ,zv])
   refine ⟨by omega,_,a1,by omega,_,a0,by omega,by omega,_,a0,by omega,_,a1,by omega,by omega,fun p1 hp1=>⟨by omega,_,a2,by omega,by omega,by omega,by omega,_,a1,by omega,by omega,by omega,by omega,fun p2 hp2=>⟨by omega,fun R hR'=>?_⟩⟩⟩
   simp only [Int.toNat_natCast,Qs] at hR' hp2 ⊢
   have u1:=zd (o:=HO.tup [.str (tx [b,a]),.str (tx [a,b])]) hp1
   have u2:=zd (o:=HO.tup [.str (tx (List.replicate i c)),.str (tx (List.replicate i b))]) hp2
   have u3:=zd (o:=HO.lst [.ref p1,.ref p2]) hR'
   refine ⟨u1.trans (u2.trans u3),R,(u1.trans u2).free hR',⟨_,ze,?_⟩,rfl⟩
   simp only [Iss]
   exact ⟨_,_,rfl,ZT (SqT.of (u3 _ _ (u2 _ _ ze))),_,_,rfl,ZT (SqT.of (u3 _ _ ze)),rfl⟩
  rintro σ H1 ⟨s1,R,hRn,hL,rfl⟩
  refine zi (fun σ H'=>Same H H' /\ LsA K H' R (ps.map dR) /\ σ = [some (.str (tx l)),some (.int (i:Nat)),some (.int (j:Nat)),some (.ref R),none,none,none,none]) ?_ ?_
  ·obtain ⟨ys,hY,hJ⟩:=hL
   have hyl:=hJ.len
   simp only [List.map_cons,List.map_nil,List.length_cons,List.length_nil] at hyl
   repeat (first | rfl' | simp only [yF,zy,zM,yG,yJ,zv])
   simp only [Int.toNat_natCast,Qs]
   refine ⟨.inl ⟨_,SqL.of hY⟩,by omega,_,a2,by omega,_,a0,by omega,by omega,by omega,by rw [List.length_replicate]; omega,by omega,fun p hp=>⟨ys,zd hp _ _ hY,by omega,zK (s1.trans (zd hp)) hRn,?_⟩⟩
   rw [<- hP]
   exact LsA.snoc (ds:=[([b,a],[a,b]),(List.replicate i c,List.replicate i b)].map dR) (d:=dR (c :: List.replicate j a,[])) (zd hp _ _ hY) (Iss.same (zd hp) _ _ hJ) (ja _) (jc _) (ZT (SqT.of ze))
  rintro σ H2 ⟨s2,hL2,rfl⟩
  refine zi (fun σ H'=>∃ y o qa:Addr,SysAt K CH H' y o qa ps /\ σ = [some (.str (tx l)),some (.int (i:Nat)),some (.int (j:Nat)),some (.ref R),some (.ref y),none,none,none]) ?_ ?_
  ·repeat (first | rfl' | simp only [yF,zy,zM,yG,yJ,zv])
   intro x dx hx hdx hne
   have sd:=zd (o:=.own x) hdx
   refine ⟨x,CO,dx,l,rfl,hg,T.cO,T.lO,ze,rfl,?_⟩
   have so:Same H2 (upd (upd (upd H2 dx (.own x)) x (.ins CO dx [])) x (.ins CO dx [("letters",.str (tx l))])):=fun b' o' e=>by
    rw [zo (zz e hx),zo (zz e hx)]
    exact sd _ _ e
   have ho:OrdAt CO CR CW (upd (upd (upd H2 dx (.own x)) x (.ins CO dx [])) x (.ins CO dx [("letters",.str (tx l))])) x 0 l [1,1,1]:=⟨dx,.inl ⟨rfl,ze⟩⟩
   exact Xq ho hG (hL2.same so) (hR.inL (by decide)) hR.fault fun y qa H' s' hy=>⟨x,qa,hy⟩
  rintro σ H3 ⟨y,o,qa,hy,rfl⟩
  refine zi (fun σ H'=>SysAt K CH H' y o qa ps /\ ∃ t:Addr,H' t = some (.tup [.int ((1:Nat):Int),.int ((2:Nat):Int),.int ((i - 1:Nat):Int)]) /\ σ = [some (.str (tx l)),some (.int (i:Nat)),some (.int (j:Nat)),some (.ref R),some (.ref y),some (.ref t),none,none]) ?_ ?_
  ·repeat (first | rfl' | simp only [yF,zy,zM,yG,yJ,zv])
   refine ⟨by omega,fun p hp=>⟨hy.same (zd hp),?_⟩⟩
   rw [ze,show ((i:Int) - 1) = ((i - 1:Nat):Int) by omega]
   rfl
  rintro σ H4 ⟨hy4,t,ht,rfl⟩
  refine zi (fun σ H'=>SysAt K CH H' y o qa ps /\ H' t = some (.tup [.int ((1:Nat):Int),.int ((2:Nat):Int),.int ((i - 1:Nat):Int)]) /\ ∃ D:Addr,LsA K H' D ((Wp i).map d3) /\ σ = [some (.str (tx l)),some (.int (i:Nat)),some (.int (j:Nat)),some (.ref R),some (.ref y),some (.ref t),some (.ref D),none]) ?_ ?_
  ·repeat (first | rfl' | simp only [yF,zy,zM,yG,yJ,zv])
   rw [UW]
   repeat (first | rfl' | simp only [yF,zy,zM,yG,yJ,zv])
   refine ⟨by omega,by omega,by omega,by omega,fun D hD=>CompR.by (fun m acc H'=>Same H4 H' /\ H' D = some (.lst acc) /\ acc.length = m /\ Iss K H' (((List.range m).map fun k=>((1,1,k + 1):N3)).map d3) acc) ⟨zd hD,ze,rfl,by simp only [List.range_zero,List.map_nil,Iss]⟩ ?_ ?_⟩
   ·rintro m acc H' hm ⟨hs,hH,hal,hI⟩
    simp only [qF]
    rfl'
    rw [show (1:Int) + (m:Int) = ((m + 1:Nat):Int) by omega]
    refine ⟨qw,by omega,fun p hp=>⟨zd hp _ _ hH,by omega,CNx.mk hm ⟨zK (hs.trans (zd hp)) hD,ze,by rw [List.length_append,hal]; rfl,?_⟩⟩⟩
    have hpu:=zd (o:=HO.tup [.int 1,.int 1,.int ((m + 1:Nat):Int)]) hp
    rw [List.range_succ,List.map_append,List.map_append]
    obtain ⟨xs',e,hI'⟩:=LsA.snoc (d:=d3 (1,1,m + 1)) (v:=.ref p) (hpu _ _ hH) (Iss.same hpu _ _ hI) (vV _) (XF _) (by
     simp only [d3,Is,Iss]
     exact ⟨p,_,rfl,SqT.of ze,_,_,rfl,rfl,_,_,rfl,rfl,_,_,rfl,rfl,rfl⟩)
    rw [ze] at e
    cases e
    exact hI'
   ·rintro acc H' ⟨hs,hH,hal,hI⟩
    refine ⟨by omega,fun p hp=>⟨D,rfl,acc,zd hp _ _ hH,_,ze,by simp only [List.length_cons,List.length_nil]; omega,fun p1 hp1=>?_⟩⟩
    have u1:=(zd (o:=HO.lst [.ref t]) hp).trans (zd (o:=HO.lst (acc ++ [.ref t])) hp1)
    have u:=hs.trans u1
    refine ⟨hy4.same u,u _ _ ht,⟨_,ze,?_⟩⟩
    rw [show ((i:Int) - 1).toNat = i - 1 by omega] at hI
    unfold Wp
    rw [List.map_append]
    refine Iss.append (Iss.same u1 _ _ hI) ?_
    simp only [List.map_cons,List.map_nil,Iss]
    refine ⟨_,[],rfl,?_,rfl⟩
    simp only [d3,Is,Iss]
    exact ⟨t,_,rfl,SqT.of (u _ _ ht),_,_,rfl,rfl,_,_,rfl,rfl,_,_,rfl,rfl,rfl⟩
  rintro σ H5 ⟨hy5,ht5,D,hD,rfl⟩
  refine zi (fun σ H'=>Same H5 H' /\ σ = [some (.str (tx l)),some (.int (i:Nat)),some (.int (j:Nat)),some (.ref R),some (.ref y),some (.ref t),some (.ref D),none]) ?_ ?_
  ·repeat (first | rfl' | simp only [yF,zy,zM,yG,yJ,zv])
   have hm:wV ps (1,2,i - 1) = false:=hlen.2.2
   refine ⟨y,o,qa,t,ps,(1,2,i - 1),4000,rfl,hy5,hN,hok,SqT.of ht5,htw,hPk,fun _ H' s'=>?_,fun h=>by rw [hlen.2.1] at h; omega⟩
   rw [hm]
   refine ⟨_,_,rfl,rfl,_,rfl,yE (fun e=>by cases e) fun _=>⟨.inl ⟨by omega,by omega⟩,?_⟩⟩
   rw [<- Int.natCast_mul]
   refine ⟨y,o,qa,t,ps,(1,2,i - 1),i * j,rfl,hy5.same s',hN,hok,SqT.of (s' _ _ ht5),htw,hPk,fun _ H'' s''=>?_,fun h=>by rw [hlen.2.1] at h; omega⟩
   rw [hm]
   exact ⟨_,_,rfl,rfl,_,rfl,yE (fun e=>by cases e) fun _=>s'.trans s''⟩
  rintro σ H6 ⟨s6,rfl⟩
  refine zi (fun σ H'=>Same H5 H' /\ σ = [some (.str (tx l)),some (.int (i:Nat)),some (.int (j:Nat)),some (.ref R),some (.ref y),some (.ref t),some (.ref D),none]) ?_ ?_
  ·repeat (first | rfl' | simp only [yF,zy,zM,yG,yJ,zv])
   have e1:(i:Int) * (j:Int) - 1 = ((i * j - 1:Nat):Int):=by rw [<- Int.natCast_mul]; omega
   rw [e1]
   refine ⟨.inl ⟨by omega,by omega⟩,y,o,qa,t,ps,(1,2,i - 1),i * j - 1,rfl,hy5.same s6,hN,hok,SqT.of (s6 _ _ ht5),htw,hPk,by rw [hlen.2.1]; omega,fun H' s'=>⟨true,rfl,yE (fun e=>by cases e) fun _=>⟨.inl ⟨by omega,by omega⟩,y,o,qa,ps,i * j - 1,(1,2,i - 1),rfl,hy5.same (s6.trans s'),hN,hok,hol,hPk,htw,by rw [hlen.2.1]; omega,fun H'' s''=>⟨true,rfl,yE (fun e=>by cases e) fun _=>s6.trans (s'.trans s'')⟩⟩⟩⟩
  rintro σ H7 ⟨s7,rfl⟩
  refine zi (fun σ H'=>Same H5 H' /\ ∃ D2:Addr,LsA K H' D2 ((Wp i).map d3) /\ σ = [some (.str (tx l)),some (.int (i:Nat)),some (.int (j:Nat)),some (.ref R),some (.ref y),some (.ref t),some (.ref D),some (.ref D2)]) ?_ ?_
  ·repeat (first | rfl' | simp only [yF,zy,zM,yG,yJ,zv])
   exact ⟨y,o,qa,ps,4000,rfl,hy5.same s7,hN,hok,hol,hPk,fun _ D2 H' s' _ hL'=>⟨s7.trans s',D2,by rw [<- hun]; exact hL',rfl⟩,fun t' ht' hm'=>by have:=(hall t' ht').2.1; omega⟩
  rintro σ H8 ⟨s8,D2,hD2,rfl⟩
  repeat (first | rfl' | simp only [yF,zy,zM,yG,yJ,zv])
  refine uk hD2 ⟨true,rfl,yE (fun _=>jd (.inl ⟨hD2.is,(hD.same s8).is⟩) (Nat.lt_of_le_of_lt (jA _) (by decide)) ⟨_,rfl,yE (fun _=>⟨.inl ⟨by omega,by omega⟩,?_⟩) fun e=>absurd (yO _) e⟩) fun e=>absurd rfl e⟩
  rw [<- Int.natCast_mul]
  refine ⟨y,o,qa,ps,i * j,rfl,hy5.same s8,hN,hok,hol,hPk,fun _ D3 H' s' _ hL'=>?_,fun t' ht' hm'=>absurd (hall t' ht').2.1 (by omega)⟩
  rw [hun] at hL'
  refine jd (.inl ⟨hL'.is,((hD.same s8).same s').is⟩) (Nat.lt_of_le_of_lt (jA _) (by decide)) ?_
  rw [yO]
  exact q _
theorem Xx {H:Hp} {ps:List zx}:∀ {ts:List N3} {vs:List V} {j:Nat} {v:V},Iss K H (ts.map (dSn ps)) vs -> vs[j]? = some v -> ∃ t p p1,ts[j]? = some t /\ v = .ref p /\ SqT K H p [.ref p1,.int (xZ ps t:Nat),.bl (wV ps t)] /\ SqT K H p1 [.int (t.1:Nat),.int (t.2.1:Nat),.int (t.2.2:Nat)]
 | [],vs,j,v,h,q=>by
  simp only [List.map_nil,Iss] at h
  subst h
  simp at q
 | t :: ts,vs,j,v,h,q=>by
  simp only [List.map_cons,Iss] at h
  obtain ⟨x,r,rfl,h1,h2⟩:=h
  match j,q with
  | 0,q =>
   rw [List.getElem?_cons_zero] at q
   cases q
   simp only [dSn,d3,Is,Iss] at h1
   obtain ⟨p,xs,rfl,hs,v1,r1,rfl,⟨p1,ys,rfl,hs1,w1,q1,rfl,rfl,w2,q2,rfl,rfl,w3,q3,rfl,rfl,rfl⟩,v2,r2,rfl,rfl,v3,r3,rfl,rfl,rfl⟩:=h1
   exact ⟨t,p,p1,rfl,rfl,hs,hs1⟩
  | j + 1,q =>
   rw [List.getElem?_cons_succ] at q
   obtain ⟨t',p,p1,e,e2⟩:=Xx h2 q
   exact ⟨t',p,p1,by rw [List.getElem?_cons_succ]; exact e,e2⟩
theorem Vn {x y z:V} {r:L2.St}:xf (none :: none :: none :: r) (some x :: some y :: some z :: r):=⟨rfl,fun i v h=>by
 match i with
 | 0=>cases h
 | 1=>cases h
 | 2=>cases h
 | i + 3=>exact h⟩
theorem W1 {A D:Addr} {ps:List zx} {ts:List N3} {σ:L2.St} {H:Hp} {Q:VK} {g:TG} {tt:TT} {te:TE} (hg:g = XM K 3 (yY (yt 0) (yY (yt 1) (yY (yt 2) Xh)))) (htt:tt = Ue (tBl (wG 2))) (hte:te = wG 0) (hA:LsA K H A (ts.map (dSn ps))) (hl:ts.length <= 4000) (hD:H D = none) (q:∀ H',Same H H' -> LsA K H' D ((ts.filter fun t=>!wV ps t).map d3) -> Q (.ref D) H'):CompL K A g tt te 3 [] σ H Q D:=by
 have s16:=yl
 subst hg htt hte
 obtain ⟨xs,hX,hI⟩:=hA
 have hxl:=hI.len
 rw [List.length_map] at hxl
 refine CompL.by (xs:=xs) (fun i acc H'=>Same H H' /\ H' D = some (.lst acc) /\ acc.length <= i /\ Iss K H (((ts.take i).filter fun t=>!wV ps t).map d3) acc) ⟨zd hD,ze,Nat.le_refl _,by simp only [List.take_zero,List.filter_nil,List.map_nil,Iss]⟩ (fun i acc H' _ h=>SqL.of (h.1 _ _ hX)) ?_ ?_
 ·rintro i x acc H' hx ⟨hs,hH,hal,hI'⟩
  have hil:=(List.getElem?_eq_some_iff.mp hx).1
  obtain ⟨t,p,p1,ht,rfl,hp,hp1⟩:=Xx hI hx
  refine qQ (zD hs hp) ?_
  simp only [Ue,tBl]
  rfl'
  refine ⟨Vn,yE (fun hb=>⟨hH,by omega,CNx.mk hil ⟨zK hs hD,ze,by rw [List.length_append]; simp only [List.length_cons,List.length_nil]; omega,?_⟩⟩) fun hb=>CNx.mk hil ⟨hs,hH,by omega,?_⟩⟩
  ·rw [yb ht,List.filter_append,List.map_append]
   refine Iss.append hI' ?_
   rw [List.filter_cons,hb]
   simp only [Bool.not_false,if_true,List.filter_nil,List.map_cons,List.map_nil,Iss]
   refine ⟨_,[],rfl,?_,rfl⟩
   simp only [d3,Is,Iss]
   exact ⟨p1,_,rfl,hp1,_,_,rfl,rfl,_,_,rfl,rfl,_,_,rfl,rfl,rfl⟩
  ·rw [yb ht,List.filter_append,List.filter_cons,(by simpa using hb:wV ps t = true)]
   simp only [Bool.not_true,Bool.false_eq_true,if_false,List.filter_nil,List.append_nil]
   exact hI'
 ·rintro acc H' ⟨hs,hH,hal,hI'⟩
  rw [hxl,List.take_length] at hI'
  exact q H' hs ⟨acc,hH,Iss.same hs _ _ hI'⟩
theorem ZS {A D:Addr} {ps:List zx} {ts:List N3} {σ:L2.St} {H:Hp} {Q:VK} {g:TG} (hg:g = XM K 3 (yY (yt 0) (yY (yt 1) (yY (yt 2) Xh)))) (hA:LsA K H A (ts.map (dSn ps))) (hl:ts.length <= 4000) (hD:H D = none) (q:∀ H',Same H H' -> H' D = some (.lst ((ts.map fun t=>((xZ ps t:Nat):Int)).map V.int)) -> Q (.ref D) H'):CompL K A g qF (wG 1) 3 [] σ H Q D:=by
 have s16:=yl
 subst hg
 obtain ⟨xs,hX,hI⟩:=hA
 have hxl:=hI.len
 rw [List.length_map] at hxl
 refine CompL.by (xs:=xs) (fun i acc H'=>Same H H' /\ H' D = some (.lst acc) /\ acc = ((ts.take i).map fun t=>((xZ ps t:Nat):Int)).map V.int) ⟨zd hD,ze,rfl⟩ (fun i acc H' _ h=>SqL.of (h.1 _ _ hX)) ?_ ?_
 ·rintro i x acc H' hx ⟨hs,hH,rfl⟩
  have hil:=(List.getElem?_eq_some_iff.mp hx).1
  obtain ⟨t,p,p1,ht,rfl,hp,hp1⟩:=Xx hI hx
  refine qQ (zD hs hp) ?_
  simp only [qF]
  rfl'
  refine ⟨Vn,hH,by rw [List.length_map,List.length_map,List.length_take]; omega,CNx.mk hil ⟨zK hs hD,ze,?_⟩⟩
  rw [yb ht,List.map_append,List.map_append]
  rfl
 ·rintro acc H' ⟨hs,hH,rfl⟩
  rw [hxl,List.take_length] at hH
  exact q H' hs hH
theorem Qe (ps:List zx) (t:N3):dpD (dSn ps t) <= 2:=by simp only [dSn,d3,dpD,uD]; omega
theorem VL (ps:List zx) (ts:List N3):uD (ts.map (dSn ps)) <= 2:=kA fun d h=>by obtain ⟨r,_,rfl⟩:=List.mem_map.mp h; exact Qe ps r
def kQ (K:PySem.W.Frag):Sp:=fun vs H Q _=>∃ (a:Addr) (ns:List Int),vs = [.ref a] /\ SqL K H a (ns.map V.int) /\ ∀ H',Q (.bl true) H'
theorem sc_law:zq ["_law_script", "_law_first", "_law_cell", "_law_kind", "_law_letters_here", "_law_weights_here", "_law_rules", "_law_system", "_law_seen", "_law_due", "_law_most", "_law_overlap", "_law_size", "_law_same", "_law_found"] ["_law_script"] (zb uM):=⟨rfl,rfl,rfl,by decide +kernel,rfl,by decide +kernel,by decide +kernel⟩
theorem Qw {f CO CR CW CT CF CH:Addr} {fd:FuncData} {dt_unmet:Tok} {dt_meets:Tok} (B:Bt mg) (TS:Uw K mg CH) (MS:MkS P w K mg base CO CR CW CT CH) (TBB:TBl K) (F:Fun K "law" "law" uM f fd) (D_cell_at:Df P w K mg base CX0 1 "_law_cell_at" ["_law_script", "_law_k"] [] (wu K)) (D_letters:Df P w K mg base CX0 1 "_law_letters" ["_law_cell", "_law_many"] [] wy) (D_weights:Df P w K mg base CX0 1 "_law_weights" ["_law_cell", "_law_many"] [] vx) (D_turned:Df P w K mg base CX0 2 "_law_turned" ["_law_letters_here", "_law_kind", "_law_weights_here", "_law_pairs_here"] [] (uS K)) (D_roads:Df P w K mg base CX0 3 "_law_roads" ["_law_rules"] [] (uQ K)) (D_unmet:Df P w K mg base (CXx P w) 7 "unmet" ["system", "most"] [] (yT K CH CF)) (DD_unmet:Df P w K mg base (CXx P w) 7 "unmet" ["system", "most"] [.int 4000 dt_unmet] (yT K CH CF)) (D_far:Df P w K mg base CX0 10 "_law_far" ["_law_letters_here", "_law_i", "_law_j"] [] (Y3 K)) (D_pairs:Df P w K mg base CX0 2 "_law_pairs" ["_law_letters_here", "_law_cells"] [] (jf K)) (D_order:Df P w K mg base CX0 6 "_law_order" ["_law_letters_here", "_law_kind", "_law_weights_here"] [] (jk K CO CR CW)) (D_meets:Df P w K mg base (CXx P w) 7 "meets" ["system", "overlap", "most"] [] (yD K CH CF)) (DD_meets:Df P w K mg base (CXx P w) 7 "meets" ["system", "overlap", "most"] [.int 4000 dt_meets] (yD K CH CF)) (D_one_bounded:Df P w K mg base CX0 9 "_law_one_bounded" ["_law_system", "_law_overlap", "_law_size", "_law_same"] [] (ko K CH)) (D_triples:Df P w K mg base CX0 2 "_law_triples" ["_law_found"] [] (xJ K)) (D_refused:Df P w K mg base CX0 8 "_law_refused" ["_law_system", "_law_most"] [] (jn K CH)):yo P w K mg base CX0 11 f fd ["_law_script"] (kQ K):=by
 refine F.ok sc_law (fun vs H Q E h=>?_) (fun cdv A outer s H vs Q E hr h=>?_)
 ·obtain ⟨a,ns,rfl,_⟩:=h
  rfl
 ·obtain ⟨a,ns,rfl,hS,q⟩:=h
  refine ⟨_,(zh (zl (i:=1) sc_law.nd rfl (Or.inl rfl) (cl0 D_cell_at hr .nil rfl (za (pv 0) (za zg zc))))
   (zh (zl (i:=2) sc_law.nd rfl (Or.inl rfl) (cl0 D_cell_at hr .nil rfl (za (pv 0) (za zg zc))))
   (zh (yh (zF vS (zw yI (zw xQ (pv 2) zg) zg) zg (zI _))
    (zf (zu (cl0 D_far hr .nil rfl (za (cl0 D_letters hr .nil rfl (za (zw xQ (pv 1) zg) (za zg zc))) (za (zw zW zg (zw yI (zw xQ (pv 2) zg) zg)) (za (zw zW zg (zw yI (zw xQ (pv 2) zg) zg)) zc))))))
    zE)
   (zh (zl (i:=3) sc_law.nd rfl (Or.inl rfl) (zw yI (pv 1) zg))
   (zh (zl (i:=4) sc_law.nd rfl (Or.inl rfl) (cl0 D_letters hr .nil rfl (za (zw xQ (pv 1) zg) (za (zw zW zg (zw yI (zw xQ (pv 1) zg) (zC ix_list (wk (za zg (za zg (za zg zc)))) (pv 3) (fun _ _=>rfl)))) zc))))
   (zh (zl (i:=5) sc_law.nd rfl (Or.inl rfl) (cl0 D_weights hr .nil rfl (za (cl0 D_cell_at hr .nil rfl (za (pv 0) (za zg zc))) (za (zp yg rfl B.len PySem.boot_len (za (pv 4) zc)) zc))))
   (zh (zl (i:=6) sc_law.nd rfl (Or.inl rfl) (cl0 D_turned hr .nil rfl (za (pv 4) (za (pv 3) (za (pv 5) (za (cl0 D_pairs hr .nil rfl (za (pv 4) (za (zX Zu (pv 0) (zZ zg) (zZ zg)) zc))) zc))))))
   (zh (zl (i:=7) sc_law.nd rfl (Or.inl rfl) (QV xe0 MS hr rfl TS.g (za (cl0 D_order hr .nil rfl (za (pv 4) (za (pv 3) (za (pv 5) zc)))) (za (wj xo rfl B.list PySem.Pv.boot_list (za (pv 6) zc)) zc))))
   (zh (zl (i:=8) sc_law.nd rfl (Or.inl rfl) (cl0 D_roads hr .nil rfl (za (pv 6) zc)))
   (zh (uB (i:=9) sc_law.nd rfl (Or.inl rfl) (Or.inl rfl) (g:=XM K 3 (yY (yt 0) (yY (yt 1) (yY (yt 2) Xh)))) (own:=["_law_overlap", "_law_size", "_law_same"]) (caps:=[]) (ix:=[]) (tt:=(Ue (tBl (wG 2)))) (te:=(wG 0)) rfl (yB (sc:=zb uM) rfl (by decide +kernel) (by decide +kernel) (by decide +kernel) rfl (by decide +kernel) (by decide +kernel) rfl) (yZ (pv 8)) (fun _ _ _ _ _ _=>xD (n:=3) rfl (zB (zr (i:=0) (show List.Nodup [_,_,_] by decide) rfl (Or.inl rfl)) (zB (zr (i:=1) (show List.Nodup [_,_,_] by decide) rfl (Or.inl rfl)) (zB (zr (i:=2) (show List.Nodup [_,_,_] by decide) rfl (Or.inl rfl)) yK)))) (fun _ _ _ _ _ _=>(Yt (yH (wN (pv 2) (fun _=>rfl))))) (fun _ _ _ _ _ _=>(pv 0)))
   (zh (zl (i:=10) sc_law.nd rfl (Or.inl rfl) (js (Ql rfl) rfl B.max ug (za (vm (g:=XM K 3 (yY (yt 0) (yY (yt 1) (yY (yt 2) Xh)))) (own:=["_law_overlap", "_law_size", "_law_same"]) (caps:=[]) (ix:=[]) (tt:=qF) (te:=(wG 1)) rfl (yB (sc:=zb uM) rfl (by decide +kernel) (by decide +kernel) (by decide +kernel) rfl (by decide +kernel) (by decide +kernel) rfl) (yZ (pv 8)) (fun _ _ _ _ _ _=>xD (n:=3) rfl (zB (zr (i:=0) (show List.Nodup [_,_,_] by decide) rfl (Or.inl rfl)) (zB (zr (i:=1) (show List.Nodup [_,_,_] by decide) rfl (Or.inl rfl)) (zB (zr (i:=2) (show List.Nodup [_,_,_] by decide) rfl (Or.inl rfl)) yK)))) (fun _ _ _ _ _ _=>wT) (fun _ _ _ _ _ _=>(pv 1))) zc) (Xy zg Vm)))
   (zh (yq PassesOwn.never rfl (yZ (pv 8)) (xD (n:=3) rfl (zB (zr (i:=11) sc_law.nd rfl (Or.inl rfl)) (zB (zr (i:=12) sc_law.nd rfl (Or.inl rfl)) (zB (zr (i:=13) sc_law.nd rfl (Or.inl rfl)) yK))))
    (zh (zl (i:=14) sc_law.nd rfl (Or.inl rfl) (clP (dvs:=[.int 4000]) xe0 DD_meets hr (.cons ⟨_,rfl⟩ .nil) rfl (za (pv 7) (za (pv 11) zc))))
    (zf (yh (PW.pt (ZQ (yH (wN (wL rfl B.isi (pv 14) rfl B.bool PySem.Pv.boot_bool) (fun _=>rfl))) (qe (zF Z2 (pv 14) (pv 13) (zI _)))))
     (zf (zu xk))
     zE))))
   (zh (zl (i:=14) sc_law.nd rfl (Or.inl rfl) (clP (dvs:=[.int 4000]) xe0 DD_unmet hr (.cons ⟨_,rfl⟩ .nil) rfl (za (pv 7) zc)))
   (zh (yh (PW.pt (ZQ (yH (wN (cl0 D_triples hr .nil rfl (za (pv 14) zc)) (fun _=>rfl))) (qe (zF (Vh (xN hr)) (pv 14) (pv 9) (zI _)))))
    (zf (zu xk))
    zE)
   (zh (yh (PW.pt (jw (zF Zt (pv 10) zg (zI _)) (uG (yH (wN (cl0 D_refused hr .nil rfl (za (pv 7) (za (zw wp (pv 10) zg) zc))) (fun _=>rfl))))))
    (zf (zu xk))
    zE)
   (zh (yh (PW.pt (jw (zF Zt (pv 10) zg (zI _)) (uG (yH (wN (cl0 D_refused hr .nil rfl (za (pv 7) (za (zw yI (cl0 D_cell_at hr .nil rfl (za (pv 0) (za zg zc))) (pv 10)) zc))) (fun _=>rfl))))))
    (zf (zu xk))
    zE)
   (zh (yh (zF (Vh (xN hr)) (clP xe0 D_unmet hr .nil rfl (za (pv 7) (za (pv 10) zc))) (pv 9) (zI _))
    (zf (zu xk))
    zE)
   (zh (yh (zF (Zv (xN hr)) (pv 8) (wk zc) (zI _))
    (zf (zu xk))
    zE)
   (zh (ZA (zC ix_list (pv 8) (zw yI (cl0 D_cell_at hr .nil rfl (za (pv 0) (za zg zc))) (zp yg rfl B.len PySem.boot_len (za (pv 8) zc))) (fun _ _=>rfl)) (xD (n:=3) rfl (zB (zr (i:=11) sc_law.nd rfl (Or.inl rfl)) (zB (zr (i:=12) sc_law.nd rfl (Or.inl rfl)) (zB (zr (i:=13) sc_law.nd rfl (Or.inl rfl)) yK)))))
   (zf (zu (ur (cl0 D_one_bounded hr .nil rfl (za (pv 7) (za (pv 11) (za (pv 12) (za (pv 13) zc))))) (jK (xW (Zv (xN hr)) (clP xe0 D_unmet hr .nil rfl (za (pv 7) (za (pv 10) zc))) (pv 9) (zI _))))))))))))))))))))))))),?_⟩
  have s16:=yl
  have s16:=yl
  refine zi (fun σ H'=>H' = H /\ ∃ c:Int,0 <= c /\ σ = [some (.ref a),some (.int c),none,none,none,none,none,none,none,none,none,none,none,none,none]) ?_ ?_
  ·repeat (first | rfl' | simp only [yF,zy,zM,yG,yJ,zv])
   exact vc hS (by decide) fun c hc=>⟨rfl,c,hc,rfl⟩
  rintro σ H1 ⟨rfl,c,hc,rfl⟩
  refine zi (fun σ H'=>H' = H1 /\ ∃ d:Int,0 <= d /\ σ = [some (.ref a),some (.int c),some (.int d),none,none,none,none,none,none,none,none,none,none,none,none]) ?_ ?_
  ·repeat (first | rfl' | simp only [yF,zy,zM,yG,yJ,zv])
   exact vc hS (by decide) fun d hd=>⟨rfl,d,hd,rfl⟩
  rintro σ H2 ⟨rfl,d,hd,rfl⟩
  refine zi (fun σ H'=>H' = H2 /\ σ = [some (.ref a),some (.int c),some (.int d),none,none,none,none,none,none,none,none,none,none,none,none]) ?_ ?_
  ·repeat (first | rfl' | simp only [yF,zy,zM,yG,yJ,zv])
   have i0:=Int.emod_nonneg (d / 28) (b:=11) (by decide)
   have i1:=Int.emod_lt_of_pos (d / 28) (b:=11) (by decide)
   have j0:=Int.emod_nonneg (d / 308) (b:=12) (by decide)
   have j1:=Int.emod_lt_of_pos (d / 308) (b:=12) (by decide)
   refine ⟨⟨by decide,by decide⟩,by decide,yE (fun _=>⟨⟨by decide,by decide⟩,ut (Int.ediv_nonneg hc (by decide)) (by decide) (by decide) fun l hl hn hsm=>⟨⟨by decide,by decide⟩,by decide,⟨by decide,by decide⟩,by decide,?_⟩⟩) fun _=>trivial⟩
   rw [show 2 + d / 28 % 11 = ((2 + d / 28 % 11).toNat:Int) by omega,show 1 + d / 308 % 12 = ((1 + d / 308 % 12).toNat:Int) by omega]
   exact ⟨l,_,_,rfl,decide_eq_true ⟨by omega,by omega,hsm,hn⟩,by omega,by omega,by omega,by omega,by omega,q⟩
  rintro σ H3 ⟨rfl,rfl⟩
  refine zi (fun σ H'=>H' = H3 /\ ∃ z:Int,0 <= z /\ z < 3 /\ σ = [some (.ref a),some (.int c),some (.int d),some (.int z),none,none,none,none,none,none,none,none,none,none,none]) ?_ ?_
  ·repeat (first | rfl' | simp only [yF,zy,zM,yG,yJ,zv])
   exact ⟨by decide,c % 3,Int.emod_nonneg _ (by decide),Int.emod_lt_of_pos _ (by decide),rfl⟩
  rintro σ H4 ⟨rfl,z,z0,z3,rfl⟩
  refine zi (fun σ H'=>Same H4 H' /\ ∃ l:List Nat,uj l = true /\ l.length <= 3 /\ (z = 2 -> l.length <= 2) /\ σ = [some (.ref a),some (.int c),some (.int d),some (.int z),some (.str (tx l)),none,none,none,none,none,none,none,none,none,none]) ?_ ?_
  ·repeat (first | rfl' | simp only [yF,zy,zM,yG,yJ,zv])
   refine ⟨⟨by decide,by decide⟩,⟨by decide,by decide⟩,by omega,fun p hp=>?_⟩
   obtain ⟨x,hx,hx1,hx3,hx2⟩:∃ x:Int,atI [V.int 3,V.int 3,V.int 2] z = some (.int x) /\ 1 <= x /\ x <= 3 /\ (z = 2 -> x = 2):=by
    have:z = 0 \/ z = 1 \/ z = 2:=by omega
    rcases this with rfl | rfl | rfl
    ·exact ⟨3,rfl,by decide,by decide,fun h=>by cases h⟩
    ·exact ⟨3,rfl,by decide,by decide,fun h=>by cases h⟩
    ·exact ⟨2,rfl,by decide,by decide,fun _=>rfl⟩
   have m0:=Int.emod_nonneg (c / 3) (b:=x) (by omega)
   have m1:=Int.emod_lt_of_pos (c / 3) (b:=x) (by omega)
   exact ⟨_,SqL.of ze,_,hx,x,rfl,by omega,ut (Int.ediv_nonneg hc (by decide)) (by omega) (by omega) fun l hl hn hsm=>⟨zd hp,l,decide_eq_true ⟨by omega,by omega,hsm,hn⟩,by omega,fun h=>by have:=hx2 h; omega,rfl⟩⟩
  rintro σ H5 ⟨s5,l,hg,hl3,hl2,rfl⟩
  obtain ⟨l1,l6,lsm,lnd⟩:=of_decide_eq_true hg
  refine zi (fun σ H'=>Same H4 H' /\ ∃ (D:Addr) (ws:List Int) (b:Int),ws.length = l.length /\ 1 <= b /\ b <= 500000 /\ (∀ n ∈ ws,b <= n /\ n < 2 * b) /\ H' D = some (.lst (ws.map V.int)) /\ σ = [some (.ref a),some (.int c),some (.int d),some (.int z),some (.str (tx l)),some (.ref D),none,none,none,none,none,none,none,none,none]) ?_ ?_
  ·repeat (first | rfl' | simp only [yF,zy,zM,yG,yJ,zv])
   exact vc (s5.seq hS) (by decide) fun e he=>⟨by omega,e,l.length,rfl,by omega,fun D ws b H' h1 h2 h3 h4 h5 _ h6=>⟨s5.trans h5,D,ws,h1,b,h2,h3,h4,h6,rfl⟩⟩
  rintro σ H6 ⟨s6,D,ws,b,hwl,hb1,hb2,hwb,hD,rfl⟩
  have hG:OG l ws z.toNat:=⟨hg,by omega,hwl,fun n hn=>by have:=hwb n hn; omega⟩
  have hO:QS z.toNat l ws:=⟨hl3,fun h=>⟨hl2 (by omega),b,hb1,hwb⟩⟩
  refine zi (fun σ H'=>Same H6 H' /\ ∃ (R:Addr) (ps:List zx),ps.length <= 30 /\ RuL z.toNat l ws 4 ps /\ LsA K H' R (ps.map dR) /\ σ = [some (.ref a),some (.int c),some (.int d),some (.int z),some (.str (tx l)),some (.ref D),some (.ref R),none,none,none,none,none,none,none,none]) ?_ ?_
  ·repeat (first | rfl' | simp only [yF,zy,zM,yG,yJ,zv])
   refine ⟨_,s6.seq hS,fun p hp=>?_⟩
   rw [Xo _ (by decide) (by decide)]
   have u1:=zd (o:=HO.lst (((ns.drop (2:Int).toNat).take (6 - 2:Int).toNat).map V.int)) hp
   refine ⟨l,p,_,rfl,l1,by omega,SqL.of ze,by rw [List.length_take]; exact Nat.le_trans (Nat.min_le_left _ _) (by decide),fun D1 prs H' h1 _ h3 h4 h5=>?_⟩
   have hpr:prs.length <= 4:=Nat.le_trans h5 (by rw [List.length_take]; exact Nat.min_le_left _ _)
   refine ⟨z,l,D,D1,ws,prs,rfl,z0,z3,hg,h1 _ _ (u1 _ _ hD),hwl,h3,by omega,⟨fun p hp=>by have:=h4.len p hp; omega,h4.inn⟩,fun r H'' s' _ hL'=>?_⟩
   have hT:RuL z.toNat l ws 3 (wM z.toNat l ws prs):=WJ h4
   exact ⟨u1.trans (h1.trans s'),r,_,by have:=jR (k:=z.toNat) (l:=l) (ws:=ws) prs; omega,⟨fun p hp=>by have:=hT.len p hp; omega,hT.inn,hT.lt⟩,hL',rfl⟩
  rintro σ H7 ⟨s7,R,ps,hpl,hR,hL,rfl⟩
  have hN:=hR.neL hG
  have hok:jr ps:=⟨hpl,fun r hr=>by have:=hR.len r hr; omega⟩
  have hPk:=Wk hG hR hO
  have hol:(ovA ps ps.length).length <= 4000:=Wj hpl fun r hr=>(hR.len r hr).1
  have hS7:=(s6.trans s7).seq hS
  have hle4:∀ t ∈ ovA ps ps.length,xZ ps t <= 4000:=fun t ht=>by
   have h1:=(hPk t ht).1.1.r.le
   have h2:=(hPk t ht).2.1.r.le
   unfold xZ
   omega
  refine zi (fun σ H'=>Same H7 H' /\ ∃ y o qa:Addr,SysAt K CH H' y o qa ps /\ σ = [some (.ref a),some (.int c),some (.int d),some (.int z),some (.str (tx l)),some (.ref D),some (.ref R),some (.ref y),none,none,none,none,none,none,none]) ?_ ?_
  ·repeat (first | rfl' | simp only [yF,zy,zM,yG,yJ,zv])
   refine ⟨z,l,D,ws,rfl,z0,z3,hg,s7 _ _ hD,hwl,fun n hn=>by have:=hwb n hn; omega,fun o H' so ho=>?_⟩
   obtain ⟨xs,hX,hI⟩:=hL.same so
   refine ⟨_,.inl (SqL.of hX),fun h hh=>?_⟩
   have sh:=zd (o:=HO.lst xs) hh
   exact Xq (ho.same sh) hG ⟨xs,ze,Iss.same sh _ _ hI⟩ (hR.inL (by decide)) hR.fault fun y qa H'' s' hy=>⟨so.trans (sh.trans s'),o,qa,hy⟩
  rintro σ H8 ⟨s8,y,o,qa,hy,rfl⟩
  refine zi (fun σ H'=>Same H8 H' /\ ∃ A:Addr,LsA K H' A ((ovA ps ps.length).map (dSn ps)) /\ σ = [some (.ref a),some (.int c),some (.int d),some (.int z),some (.str (tx l)),some (.ref D),some (.ref R),some (.ref y),some (.ref A),none,none,none,none,none,none]) ?_ ?_
  ·repeat (first | rfl' | simp only [yF,zy,zM,yG,yJ,zv])
   exact ⟨R,ps,rfl,hL.same s8,hN,hok,hPk.e,fun t ht=>⟨fun j _=>(hPk t ht).1.2 j,fun j _=>(hPk t ht).2.2 j⟩,hol,fun A H' s' _ hA=>⟨s',A,hA,rfl⟩⟩
  rintro σ H9 ⟨s9,A,hA,rfl⟩
  refine zi (fun σ H'=>Same H9 H' /\ ∃ U:Addr,LsA K H' U ((unL ps).map d3) /\ σ = [some (.ref a),some (.int c),some (.int d),some (.int z),some (.str (tx l)),some (.ref D),some (.ref R),some (.ref y),some (.ref A),some (.ref U),none,none,none,none,none]) ?_ ?_
  ·repeat (first | rfl' | simp only [yF,zy,zM,yG,yJ,zv])
   obtain ⟨xs,hX,_⟩:=id hA
   exact ⟨⟨_,SqL.of hX⟩,fun U hU=>W1 rfl rfl rfl hA hol hU fun H' s' hL'=>⟨s',U,hL',rfl⟩⟩
  rintro σ H10 ⟨s10,U,hU,rfl⟩
  refine zi (fun σ H'=>Same H10 H' /\ ∃ M:Nat,(∀ t ∈ ovA ps ps.length,xZ ps t <= M) /\ (0 < M -> ∃ t ∈ ovA ps ps.length,xZ ps t = M) /\ σ = [some (.ref a),some (.int c),some (.int d),some (.int z),some (.str (tx l)),some (.ref D),some (.ref R),some (.ref y),some (.ref A),some (.ref U),some (.int (M:Nat)),none,none,none,none]) ?_ ?_
  ·repeat (first | rfl' | simp only [yF,zy,zM,yG,yJ,zv])
   simp only [Jw]
   repeat (first | rfl' | simp only [yF,zy,zM,yG,yJ,zv])
   obtain ⟨xs,hX,_⟩:=id (hA.same s10)
   refine ⟨⟨_,SqL.of hX⟩,fun E1 hE1=>ZS rfl (hA.same s10) hol hE1 fun H' s' hH=>⟨E1,_,0,rfl,rfl,SqL.of hH,fun x hx0 hx1 hx2=>⟨s',?_⟩⟩⟩
   by_cases hov:ovA ps ps.length = []
   ·have:=hx0 (by rw [hov]; rfl)
    subst this
    exact ⟨0,(fun t ht=>by rw [hov] at ht; cases ht),fun h=>absurd h (Nat.lt_irrefl _),rfl⟩
   ·obtain ⟨t,ht,rfl⟩:=List.mem_map.mp (hx2 fun e=>hov (List.map_eq_nil_iff.mp e))
    exact ⟨xZ ps t,fun t' ht'=>by have:=hx1 _ (List.mem_map.mpr ⟨t',ht',rfl⟩); omega,fun _=>⟨t,ht,rfl⟩,rfl⟩
  rintro σ H11 ⟨s11,M,hM1,hM2,rfl⟩
  have hA11:=hA.same (s10.trans s11)
  have hy11:=hy.same (s9.trans (s10.trans s11))
  have hU11:=hU.same s11
  have hS11:=(s8.trans (s9.trans (s10.trans s11))).seq hS7
  refine zi (fun σ H'=>Same H11 H' /\ ∃ v11 v12 v13 v14,σ = [some (.ref a),some (.int c),some (.int d),some (.int z),some (.str (tx l)),some (.ref D),some (.ref R),some (.ref y),some (.ref A),some (.ref U),some (.int (M:Nat)),v11,v12,v13,v14]) ?_ ?_
  ·repeat (first | rfl' | simp only [yF,zy,zM,yG,yJ,zv])
   obtain ⟨xs,hX,hI⟩:=id hA11
   have hxl:=hI.len
   rw [List.length_map] at hxl
   refine ⟨⟨_,SqL.of hX⟩,ForL.by (xs:=xs) (fun i σ H'=>Same H11 H' /\ ∃ v11 v12 v13 v14,σ = [some (.ref a),some (.int c),some (.int d),some (.int z),some (.str (tx l)),some (.ref D),some (.ref R),some (.ref y),some (.ref A),some (.ref U),some (.int (M:Nat)),v11,v12,v13,v14]) ⟨Same.refl _,none,none,none,none,rfl⟩ (fun i σ H' _ h=>SqL.of (h.1 _ _ hX)) ?_ fun σ H' h=>h⟩
   rintro i x σ H' hx ⟨hs,v11,v12,v13,v14,rfl⟩
   obtain ⟨t,p,p1,ht,rfl,hp,hp1⟩:=Xx hI hx
   have htm:=List.mem_of_getElem? ht
   refine qQ (zD hs hp) ?_
   simp only [List.set_cons_succ,List.set_cons_zero]
   refine zi (fun σ' G=>Same H11 G /\ σ' = [some (.ref a),some (.int c),some (.int d),some (.int z),some (.str (tx l)),some (.ref D),some (.ref R),some (.ref y),some (.ref A),some (.ref U),some (.int (M:Nat)),some (.ref p1),some (.int (xZ ps t:Nat)),some (.bl (wV ps t)),some (.bl (wV ps t))]) ?_ ?_
   ·repeat (first | rfl' | simp only [yF,zy,zM,yG,yJ,zv])
    exact ⟨y,o,qa,p1,ps,t,4000,rfl,hy11.same hs,hN,hok,zD hs hp1,htm,hPk.e,fun _ H' s'=>⟨hs.trans s',rfl⟩,fun h=>absurd (hle4 t htm) (by omega)⟩
   rintro σ' G ⟨sG,rfl⟩
   repeat (first | rfl' | simp only [yF,zy,zM,yG,yJ,zv])
   exact ⟨_,.inl (.bl _),true,TBB.bb,yE (fun e=>by cases e) fun _=>yE (fun e=>absurd trivial e) fun _=>sG⟩
  rintro σ H12 ⟨s12,v11,v12,v13,v14,rfl⟩
  refine zi (fun σ H'=>Same H11 H' /\ ∃ F:Addr,LsA K H' F ((unL ps).map d3) /\ σ = [some (.ref a),some (.int c),some (.int d),some (.int z),some (.str (tx l)),some (.ref D),some (.ref R),some (.ref y),some (.ref A),some (.ref U),some (.int (M:Nat)),v11,v12,v13,some (.ref F)]) ?_ ?_
  ·repeat (first | rfl' | simp only [yF,zy,zM,yG,yJ,zv])
   exact ⟨y,o,qa,ps,4000,rfl,hy11.same s12,hN,hok,hol,hPk.e,fun _ F H' s' _ hL'=>⟨s12.trans s',F,hL',rfl⟩,fun t ht h=>absurd (hle4 t ht) (by omega)⟩
  rintro σ H13 ⟨s13,F,hF,rfl⟩
  refine zi (fun σ H'=>Same H11 H' /\ σ = [some (.ref a),some (.int c),some (.int d),some (.int z),some (.str (tx l)),some (.ref D),some (.ref R),some (.ref y),some (.ref A),some (.ref U),some (.int (M:Nat)),v11,v12,v13,some (.ref F)]) ?_ ?_
  ·repeat (first | rfl' | simp only [yF,zy,zM,yG,yJ,zv])
   exact uk hF ⟨true,rfl,yE (fun e=>by cases e) fun _=>Y7 (.inl ⟨hF.is,(hU11.same s13).is⟩) (Nat.lt_of_le_of_lt (jA _) (by decide)) ⟨_,rfl,yE (fun e=>by rw [yO] at e; cases e) fun _=>s13⟩⟩
  rintro σ H14 ⟨s14,rfl⟩
  refine zi (fun σ H'=>Same H11 H' /\ σ = [some (.ref a),some (.int c),some (.int d),some (.int z),some (.str (tx l)),some (.ref D),some (.ref R),some (.ref y),some (.ref A),some (.ref U),some (.int (M:Nat)),v11,v12,v13,some (.ref F)]) ?_ ?_
  ·repeat (first | rfl' | simp only [yF,zy,zM,yG,yJ,zv])
   refine yE (fun h=>?_) fun _=>s14
   obtain ⟨t,ht,e⟩:=hM2 (by omega)
   rw [show (M:Int) - 1 = ((M - 1:Nat):Int) by omega]
   exact ⟨y,o,qa,ps,M - 1,t,rfl,hy11.same s14,hN,hok,hol,hPk.e,ht,by omega,fun H' s'=>⟨true,rfl,yE (fun e=>by cases e) fun _=>s14.trans s'⟩⟩
  rintro σ H15 ⟨s15,rfl⟩
  refine zi (fun σ H'=>Same H11 H' /\ σ = [some (.ref a),some (.int c),some (.int d),some (.int z),some (.str (tx l)),some (.ref D),some (.ref R),some (.ref y),some (.ref A),some (.ref U),some (.int (M:Nat)),v11,v12,v13,some (.ref F)]) ?_ ?_
  ·repeat (first | rfl' | simp only [yF,zy,zM,yG,yJ,zv])
   refine yE (fun h=>vc (s15.seq hS11) (by decide) fun e he=>⟨_,rfl,h,?_⟩) fun _=>s15
   obtain ⟨t,ht,et⟩:=hM2 (by omega)
   have e0:=Int.emod_nonneg e (b:=(M:Int)) (by omega)
   have e1:=Int.emod_lt_of_pos e h
   rw [show e % (M:Int) = ((e % (M:Int)).toNat:Int) by omega]
   exact ⟨y,o,qa,ps,_,t,rfl,hy11.same s15,hN,hok,hol,hPk.e,ht,by omega,fun H' s'=>⟨true,rfl,yE (fun e=>by cases e) fun _=>s15.trans s'⟩⟩
  rintro σ H16 ⟨s16',rfl⟩
  refine zi (fun σ H'=>Same H11 H' /\ σ = [some (.ref a),some (.int c),some (.int d),some (.int z),some (.str (tx l)),some (.ref D),some (.ref R),some (.ref y),some (.ref A),some (.ref U),some (.int (M:Nat)),v11,v12,v13,some (.ref F)]) ?_ ?_
  ·repeat (first | rfl' | simp only [yF,zy,zM,yG,yJ,zv])
   exact ⟨y,o,qa,ps,M,rfl,hy11.same s16',hN,hok,hol,hPk.e,fun _ E2 H' s' _ hL'=>Y7 (.inl ⟨hL'.is,(hU11.same (s16'.trans s')).is⟩) (Nat.lt_of_le_of_lt (jA _) (by decide)) ⟨_,rfl,yE (fun e=>by rw [yO] at e; cases e) fun _=>s16'.trans s'⟩,fun t ht h=>absurd (hM1 t ht) (by omega)⟩
  rintro σ H17 ⟨s17,rfl⟩
  refine zi (fun σ H'=>Same H11 H' /\ ovA ps ps.length ≠ [] /\ σ = [some (.ref a),some (.int c),some (.int d),some (.int z),some (.str (tx l)),some (.ref D),some (.ref R),some (.ref y),some (.ref A),some (.ref U),some (.int (M:Nat)),v11,v12,v13,some (.ref F)]) ?_ ?_
  ·repeat (first | rfl' | simp only [yF,zy,zM,yG,yJ,zv])
   have hnil:∀ p:Addr,Is K (upd H17 p (.lst [])) (.lst []) (.ref p):=fun p=>LsA.is ⟨[],ze,by simp only [Iss]⟩
   exact ⟨by omega,fun p hp=>jd (.inl ⟨((hA11.same s17).same (zd hp)).is,hnil p⟩) (Nat.lt_of_le_of_lt (VL ps _) (by decide)) ⟨_,rfl,yE (fun _=>q _) fun e=>⟨s17.trans (zd hp),fun z=>e (by rw [z]; rfl)⟩⟩⟩
  rintro σ H18 ⟨s18,hne,rfl⟩
  refine zi (fun σ H'=>Same H11 H' /\ ∃ (t:N3) (p:Addr),t ∈ ovA ps ps.length /\ SqT K H' p [.int (t.1:Nat),.int (t.2.1:Nat),.int (t.2.2:Nat)] /\ σ = [some (.ref a),some (.int c),some (.int d),some (.int z),some (.str (tx l)),some (.ref D),some (.ref R),some (.ref y),some (.ref A),some (.ref U),some (.int (M:Nat)),some (.ref p),some (.int (xZ ps t:Nat)),some (.bl (wV ps t)),some (.ref F)]) ?_ ?_
  ·repeat (first | rfl' | simp only [yF,zy,zM,yG,yJ,zv])
   obtain ⟨xs,hX,hI⟩:=id (hA11.same s18)
   have hxl:=hI.len
   rw [List.length_map] at hxl
   have hpos:=List.length_pos_iff.mpr hne
   refine vc (s18.seq hS11) (by decide) fun e he=>?_
   have e0:=Int.emod_nonneg e (b:=(xs.length:Int)) (by omega)
   have e1:=Int.emod_lt_of_pos e (b:=(xs.length:Int)) (by omega)
   obtain ⟨v,w1,w2⟩:=vL (xs:=xs) e0 e1
   obtain ⟨t,p,p1,ht,rfl,hp,hp1⟩:=Xx hI w2
   exact ⟨_,.inl ⟨_,SqL.of hX,rfl⟩,e,rfl,by omega,_,SqL.of hX,_,w1,p,rfl,_,hp,rfl,_,_,rfl,_,_,rfl,_,_,rfl,rfl,s18,t,List.mem_of_getElem? ht,p1,hp1,rfl,rfl,rfl⟩
  rintro σ H19 ⟨s19,t,p,ht,hp,rfl⟩
  repeat (first | rfl' | simp only [yF,zy,zM,yG,yJ,zv])
  exact ⟨y,o,qa,p,ps,t,rfl,hy11.same s19,hN,hok,hp,ht,hPk.e,fun H' s'=>⟨true,rfl,yE (fun _=>⟨y,o,qa,ps,M,rfl,hy11.same (s19.trans s'),hN,hok,hol,hPk.e,fun _ E2 H'' s'' _ hL'=>jd (.inl ⟨hL'.is,(hU11.same (s19.trans (s'.trans s''))).is⟩) (Nat.lt_of_le_of_lt (jA _) (by decide)) (by rw [yO]; exact q _),fun t ht h=>absurd (hM1 t ht) (by omega)⟩) fun e=>absurd rfl e⟩⟩
end
theorem Xj {us:List Value} (h:us.length = 1):∃ a,us = [a]:=List.length_eq_one_iff.mp h
theorem qt {us:List Value} (h:us.length = 2):∃ a0 a1,us = [a0,a1]:=by
 cases us with
 | nil=>cases h
 | cons a r =>
  obtain ⟨a1,rfl⟩:=Xj (Nat.succ.inj h)
  exact ⟨a,a1,rfl⟩
theorem Zp {us:List Value} (h:us.length = 3):∃ a0 a1 a2,us = [a0,a1,a2]:=by
 cases us with
 | nil=>cases h
 | cons a r =>
  obtain ⟨a1,a2,rfl⟩:=qt (Nat.succ.inj h)
  exact ⟨a,a1,a2,rfl⟩
theorem Vd {us:List Value} (h:us.length = 4):∃ a0 a1 a2 a3,us = [a0,a1,a2,a3]:=by
 cases us with
 | nil=>cases h
 | cons a r =>
  obtain ⟨a1,a2,a3,rfl⟩:=Zp (Nat.succ.inj h)
  exact ⟨a,a1,a2,a3,rfl⟩
theorem Kw {us:List Value} (h:us.length = 5):∃ a0 a1 a2 a3 a4,us = [a0,a1,a2,a3,a4]:=by
 cases us with
 | nil=>cases h
 | cons a r =>
  obtain ⟨a1,a2,a3,a4,rfl⟩:=Vd (Nat.succ.inj h)
  exact ⟨a,a1,a2,a3,a4,rfl⟩
theorem Ke {us:List Value} (h:us.length = 6):∃ a0 a1 a2 a3 a4 a5,us = [a0,a1,a2,a3,a4,a5]:=by
 cases us with
 | nil=>cases h
 | cons a r =>
  obtain ⟨a1,a2,a3,a4,a5,rfl⟩:=Kw (Nat.succ.inj h)
  exact ⟨a,a1,a2,a3,a4,a5,rfl⟩
theorem KH {us:List Value} (h:us.length = 7):∃ a0 a1 a2 a3 a4 a5 a6,us = [a0,a1,a2,a3,a4,a5,a6]:=by
 cases us with
 | nil=>cases h
 | cons a r =>
  obtain ⟨a1,a2,a3,a4,a5,a6,rfl⟩:=Ke (Nat.succ.inj h)
  exact ⟨a,a1,a2,a3,a4,a5,a6,rfl⟩
theorem all_mk {l:PySem.W.OpenLaw} {w:World} {K:PySem.W.Frag} {h:Heap} {mg:Str -> Option Value} {fa f0 f1 f2 f3 f4 f5 f6 f7 f8 f9 f10 f11 f12 f13 f14 f15 f16 f17 f18 f19 f20 f21 f22 f23 f24 f25 f26 f27 f28 f29 f30 f31 f32 f33 f34 c_LetterError c_NoLetters c_NoOrder c_Order c_FromRight c_ByWeights c_NotTurned c_System c_NoUse c_TooFar:Addr} (X:K.In h) (G:h.Ns mainGlobals mg) (hfa:mg "law" = some (.ref fa))
  {od0 an0:Option Addr} {sl0:Array (Option Value)} {oc0 kV0 dc0 pm0 cd0 ct0:Value}
  {od1 an1:Option Addr} {sl1:Array (Option Value)} {oc1 kV1 dc1 pm1 cd1 ct1:Value}
  {od2 an2:Option Addr} {sl2:Array (Option Value)} {oc2 kV2 dc2 pm2 cd2 ct2:Value}
  {od3 an3:Option Addr} {sl3:Array (Option Value)} {oc3 kV3 dc3 pm3 cd3 ct3:Value}
  {od4 an4:Option Addr} {sl4:Array (Option Value)} {oc4 kV4 dc4 pm4 cd4 ct4:Value}
  {od5 an5:Option Addr} {sl5:Array (Option Value)} {oc5 kV5 dc5 pm5 cd5 ct5:Value}
  {od6 an6:Option Addr} {sl6:Array (Option Value)} {oc6 kV6 dc6 pm6 cd6 ct6:Value}
  {od7 an7:Option Addr} {sl7:Array (Option Value)} {oc7 kV7 dc7 pm7 cd7 ct7:Value}
  {od8 an8:Option Addr} {sl8:Array (Option Value)} {oc8 kV8 dc8 pm8 cd8 ct8:Value}
  {od9 an9:Option Addr} {sl9:Array (Option Value)} {oc9 kV9 dc9 pm9 cd9 ct9:Value}
  {od10 an10:Option Addr} {sl10:Array (Option Value)} {oc10 kV10 dc10 pm10 cd10 ct10:Value}
  {od11 an11:Option Addr} {sl11:Array (Option Value)} {oc11 kV11 dc11 pm11 cd11 ct11:Value}
  {od12 an12:Option Addr} {sl12:Array (Option Value)} {oc12 kV12 dc12 pm12 cd12 ct12:Value}
  {od13 an13:Option Addr} {sl13:Array (Option Value)} {oc13 kV13 dc13 pm13 cd13 ct13:Value}
  {od14 an14:Option Addr} {sl14:Array (Option Value)} {oc14 kV14 dc14 pm14 cd14 ct14:Value}
  {od15 an15:Option Addr} {sl15:Array (Option Value)} {oc15 kV15 dc15 pm15 cd15 ct15:Value}
  {od16 an16:Option Addr} {yl:Array (Option Value)} {oc16 kV16 dc16 pm16 cd16 ct16:Value}
  {od17 an17:Option Addr} {sl17:Array (Option Value)} {oc17 kV17 dc17 pm17 cd17 ct17:Value}
  {od18 an18:Option Addr} {sl18:Array (Option Value)} {oc18 kV18 dc18 pm18 cd18 ct18:Value}
  {od19 an19:Option Addr} {sl19:Array (Option Value)} {oc19 kV19 dc19 pm19 cd19 ct19:Value}
  {od20 an20:Option Addr} {sl20:Array (Option Value)} {oc20 kV20 dc20 pm20 cd20 ct20:Value}
  {od21 an21:Option Addr} {sl21:Array (Option Value)} {oc21 kV21 dc21 pm21 cd21 ct21:Value}
  {od22 an22:Option Addr} {sl22:Array (Option Value)} {oc22 kV22 dc22 pm22 cd22 ct22:Value}
  {od23 an23:Option Addr} {sl23:Array (Option Value)} {oc23 kV23 dc23 pm23 cd23 ct23:Value}
  {od24 an24:Option Addr} {sl24:Array (Option Value)} {oc24 kV24 dc24 pm24 cd24 ct24:Value}
  {od25 an25:Option Addr} {sl25:Array (Option Value)} {oc25 kV25 dc25 pm25 cd25 ct25:Value}
  {od26 an26:Option Addr} {sl26:Array (Option Value)} {oc26 kV26 dc26 pm26 cd26 ct26:Value}
  {od27 an27:Option Addr} {sl27:Array (Option Value)} {oc27 kV27 dc27 pm27 cd27 ct27:Value}
  {od28 an28:Option Addr} {sl28:Array (Option Value)} {oc28 kV28 dc28 pm28 cd28 ct28:Value}
  {od29 an29:Option Addr} {sl29:Array (Option Value)} {oc29 kV29 dc29 pm29 cd29 ct29:Value}
  {od30 an30:Option Addr} {sl30:Array (Option Value)} {oc30 kV30 dc30 pm30 cd30 ct30:Value}
  {od31 an31:Option Addr} {sl31:Array (Option Value)} {oc31 kV31 dc31 pm31 cd31 ct31:Value}
  {od32 an32:Option Addr} {sl32:Array (Option Value)} {oc32 kV32 dc32 pm32 cd32 ct32:Value}
  {od33 an33:Option Addr} {sl33:Array (Option Value)} {oc33 kV33 dc33 pm33 cd33 ct33:Value}
  {od34 an34:Option Addr} {sl34:Array (Option Value)} {oc34 kV34 dc34 pm34 cd34 ct34:Value}
  {t6 t7:Tok}
  {fI:Addr}
  {odI anI:Option Addr}
  {slI:Array (Option Value)}
  {ocI kVI dcI pmI cdI ctI:Value}
  {t8:Tok}
  {fU:Addr}
  {odU anU:Option Addr}
  {slU:Array (Option Value)}
  {ocU kVU dcU pmU cdU ctU:Value}
  {fm_order_init:Addr}
  {od_order_init an_order_init:Option Addr}
  {sl_order_init:Array (Option Value)}
  {oc_order_init kV_order_init dc_order_init pm_order_init cd_order_init ct_order_init:Value}
  {fm_order_weight:Addr}
  {od_order_weight an_order_weight:Option Addr}
  {sl_order_weight:Array (Option Value)}
  {oc_order_weight kV_order_weight dc_order_weight pm_order_weight cd_order_weight ct_order_weight:Value}
  {fm_order_seen:Addr}
  {od_order_seen an_order_seen:Option Addr}
  {sl_order_seen:Array (Option Value)}
  {oc_order_seen kV_order_seen dc_order_seen pm_order_seen cd_order_seen ct_order_seen:Value}
  {fm_fromright_seen:Addr}
  {od_fromright_seen an_fromright_seen:Option Addr}
  {sl_fromright_seen:Array (Option Value)}
  {oc_fromright_seen kV_fromright_seen dc_fromright_seen pm_fromright_seen cd_fromright_seen ct_fromright_seen:Value}
  {fm_byweights_init:Addr}
  {od_byweights_init an_byweights_init:Option Addr}
  {sl_byweights_init:Array (Option Value)}
  {oc_byweights_init kV_byweights_init dc_byweights_init pm_byweights_init cd_byweights_init ct_byweights_init:Value}
  {fm_byweights_weight:Addr}
  {od_byweights_weight an_byweights_weight:Option Addr}
  {sl_byweights_weight:Array (Option Value)}
  {oc_byweights_weight kV_byweights_weight dc_byweights_weight pm_byweights_weight cd_byweights_weight ct_byweights_weight:Value}
  {fm_order_rank:Addr}
  {od_order_rank an_order_rank:Option Addr}
  {sl_order_rank:Array (Option Value)}
  {oc_order_rank kV_order_rank dc_order_rank pm_order_rank cd_order_rank ct_order_rank:Value}
  {fm_order_before:Addr}
  {od_order_before an_order_before:Option Addr}
  {sl_order_before:Array (Option Value)}
  {oc_order_before kV_order_before dc_order_before pm_order_before cd_order_before ct_order_before:Value}
  {fm_system_init:Addr}
  {od_system_init an_system_init:Option Addr}
  {sl_system_init:Array (Option Value)}
  {oc_system_init kV_system_init dc_system_init pm_system_init cd_system_init ct_system_init:Value}
  {fm_system_rules_told:Addr}
  {od_system_rules_told an_system_rules_told:Option Addr}
  {sl_system_rules_told:Array (Option Value)}
  {oc_system_rules_told kV_system_rules_told dc_system_rules_told pm_system_rules_told cd_system_rules_told ct_system_rules_told:Value}
  {dv_gone:Addr}
  {dt_gone:Tok}
  {d1_gone:Value}
  {d2_gone:Option Addr}
  {d3_gone:Nat}
  {d4_gone:Array (Option Value)}
  {dv_meets:Addr}
  {dt_meets:Tok}
  {d1_meets:Value}
  {d2_meets:Option Addr}
  {d3_meets:Nat}
  {d4_meets:Array (Option Value)}
  {dv_unmet:Addr}
  {dt_unmet:Tok}
  {d1_unmet:Value}
  {d2_unmet:Option Addr}
  {d3_unmet:Nat}
  {d4_unmet:Array (Option Value)}
  (a0:PySem.W.nsIn K mainGlobals "is_small_letter" = some (some (.ref f0))) (l0:K.lookup f0 = some ⟨oc0,od0,.func (PySem.W.fnOf "is_small_letter" "is_small_letter" (zm zQ) (zk zQ) (zb zQ) .none kV0 dc0 pm0 an0 cd0 ct0),sl0⟩) (k0:PySem.W.codeIn K cd0 "is_small_letter" = true) (p0:PySem.W.keepIn K (.ref f0) = true)
  (a1:PySem.W.nsIn K mainGlobals "letters_of" = some (some (.ref f1))) (l1:K.lookup f1 = some ⟨oc1,od1,.func (PySem.W.fnOf "letters_of" "letters_of" (zm yy) (zk yy) (zb yy) .none kV1 dc1 pm1 an1 cd1 ct1),sl1⟩) (k1:PySem.W.codeIn K cd1 "letters_of" = true) (p1:PySem.W.keepIn K (.ref f1) = true)
  (a2:PySem.W.nsIn K mainGlobals "stands_at" = some (some (.ref f2))) (l2:K.lookup f2 = some ⟨oc2,od2,.func (PySem.W.fnOf "stands_at" "stands_at" (zm yN) (zk yN) (zb yN) .none kV2 dc2 pm2 an2 cd2 ct2),sl2⟩) (k2:PySem.W.codeIn K cd2 "stands_at" = true) (p2:PySem.W.keepIn K (.ref f2) = true)
  (a3:PySem.W.nsIn K mainGlobals "put" = some (some (.ref f3))) (l3:K.lookup f3 = some ⟨oc3,od3,.func (PySem.W.fnOf "put" "put" (zm ZY) (zk ZY) (zb ZY) .none kV3 dc3 pm3 an3 cd3 ct3),sl3⟩) (k3:PySem.W.codeIn K cd3 "put" = true) (p3:PySem.W.keepIn K (.ref f3) = true)
  (a4:PySem.W.nsIn K mainGlobals "first_within" = some (some (.ref f4))) (l4:K.lookup f4 = some ⟨oc4,od4,.func (PySem.W.fnOf "first_within" "first_within" (zm yc) (zk yc) (zb yc) .none kV4 dc4 pm4 an4 cd4 ct4),sl4⟩) (k4:PySem.W.codeIn K cd4 "first_within" = true) (p4:PySem.W.keepIn K (.ref f4) = true)
  (a5:PySem.W.nsIn K mainGlobals "first_from" = some (some (.ref f5))) (l5:K.lookup f5 = some ⟨oc5,od5,.func (PySem.W.fnOf "first_from" "first_from" (zm yx) (zk yx) (zb yx) .none kV5 dc5 pm5 an5 cd5 ct5),sl5⟩) (k5:PySem.W.codeIn K cd5 "first_from" = true) (p5:PySem.W.keepIn K (.ref f5) = true)
  (a6:PySem.W.nsIn K mainGlobals "gone" = some (some (.ref f6))) (l6:K.lookup f6 = some ⟨oc6,od6,.func (PySem.W.fnOf "gone" "gone" (zm wK) (zk wK) (zb wK) (.ref dv_gone) kV6 dc6 pm6 an6 cd6 ct6),sl6⟩) (k6:PySem.W.codeIn K cd6 "gone" = true) (p6:PySem.W.keepIn K (.ref f6) = true)
  (a7:PySem.W.nsIn K mainGlobals "agree" = some (some (.ref f7))) (l7:K.lookup f7 = some ⟨oc7,od7,.func (PySem.W.fnOf "agree" "agree" (zm vC) (zk vC) (zb vC) .none kV7 dc7 pm7 an7 cd7 ct7),sl7⟩) (k7:PySem.W.codeIn K cd7 "agree" = true) (p7:PySem.W.keepIn K (.ref f7) = true)
  (a8:PySem.W.nsIn K mainGlobals "overlaps" = some (some (.ref f8))) (l8:K.lookup f8 = some ⟨oc8,od8,.func (PySem.W.fnOf "overlaps" "overlaps" (zm yX) (zk yX) (zb yX) .none kV8 dc8 pm8 an8 cd8 ct8),sl8⟩) (k8:PySem.W.codeIn K cd8 "overlaps" = true) (p8:PySem.W.keepIn K (.ref f8) = true)
  (a9:PySem.W.nsIn K mainGlobals "peak" = some (some (.ref f9))) (l9:K.lookup f9 = some ⟨oc9,od9,.func (PySem.W.fnOf "peak" "peak" (zm qp) (zk qp) (zb qp) .none kV9 dc9 pm9 an9 cd9 ct9),sl9⟩) (k9:PySem.W.codeIn K cd9 "peak" = true) (p9:PySem.W.keepIn K (.ref f9) = true)
  (a10:PySem.W.nsIn K mainGlobals "form_of" = some (some (.ref f10))) (l10:K.lookup f10 = some ⟨oc10,od10,.func (PySem.W.fnOf "form_of" "form_of" (zm xH) (zk xH) (zb xH) .none kV10 dc10 pm10 an10 cd10 ct10),sl10⟩) (k10:PySem.W.codeIn K cd10 "form_of" = true) (p10:PySem.W.keepIn K (.ref f10) = true)
  (a11:PySem.W.nsIn K mainGlobals "is_met" = some (some (.ref f11))) (l11:K.lookup f11 = some ⟨oc11,od11,.func (PySem.W.fnOf "is_met" "is_met" (zm wq) (zk wq) (zb wq) .none kV11 dc11 pm11 an11 cd11 ct11),sl11⟩) (k11:PySem.W.codeIn K cd11 "is_met" = true) (p11:PySem.W.keepIn K (.ref f11) = true)
  (a12:PySem.W.nsIn K mainGlobals "meets" = some (some (.ref f12))) (l12:K.lookup f12 = some ⟨oc12,od12,.func (PySem.W.fnOf "meets" "meets" (zm xT) (zk xT) (zb xT) (.ref dv_meets) kV12 dc12 pm12 an12 cd12 ct12),sl12⟩) (k12:PySem.W.codeIn K cd12 "meets" = true) (p12:PySem.W.keepIn K (.ref f12) = true)
  (a13:PySem.W.nsIn K mainGlobals "unmet" = some (some (.ref f13))) (l13:K.lookup f13 = some ⟨oc13,od13,.func (PySem.W.fnOf "unmet" "unmet" (zm xr) (zk xr) (zb xr) (.ref dv_unmet) kV13 dc13 pm13 an13 cd13 ct13),sl13⟩) (k13:PySem.W.codeIn K cd13 "unmet" = true) (p13:PySem.W.keepIn K (.ref f13) = true)
  (a14:PySem.W.nsIn K mainGlobals "_law_cell_at" = some (some (.ref f14))) (l14:K.lookup f14 = some ⟨oc14,od14,.func (PySem.W.fnOf "_law_cell_at" "_law_cell_at" (zm xz) (zk xz) (zb xz) .none kV14 dc14 pm14 an14 cd14 ct14),sl14⟩) (k14:PySem.W.codeIn K cd14 "_law_cell_at" = true) (p14:PySem.W.keepIn K (.ref f14) = true)
  (a15:PySem.W.nsIn K mainGlobals "_law_letters" = some (some (.ref f15))) (l15:K.lookup f15 = some ⟨oc15,od15,.func (PySem.W.fnOf "_law_letters" "_law_letters" (zm xA) (zk xA) (zb xA) .none kV15 dc15 pm15 an15 cd15 ct15),sl15⟩) (k15:PySem.W.codeIn K cd15 "_law_letters" = true) (p15:PySem.W.keepIn K (.ref f15) = true)
  (a16:PySem.W.nsIn K mainGlobals "_law_word" = some (some (.ref f16))) (l16:K.lookup f16 = some ⟨oc16,od16,.func (PySem.W.fnOf "_law_word" "_law_word" (zm qj) (zk qj) (zb qj) .none kV16 dc16 pm16 an16 cd16 ct16),yl⟩) (k16:PySem.W.codeIn K cd16 "_law_word" = true) (p16:PySem.W.keepIn K (.ref f16) = true)
  (a17:PySem.W.nsIn K mainGlobals "_law_pairs" = some (some (.ref f17))) (l17:K.lookup f17 = some ⟨oc17,od17,.func (PySem.W.fnOf "_law_pairs" "_law_pairs" (zm vw) (zk vw) (zb vw) .none kV17 dc17 pm17 an17 cd17 ct17),sl17⟩) (k17:PySem.W.codeIn K cd17 "_law_pairs" = true) (p17:PySem.W.keepIn K (.ref f17) = true)
  (a18:PySem.W.nsIn K mainGlobals "_law_weights" = some (some (.ref f18))) (l18:K.lookup f18 = some ⟨oc18,od18,.func (PySem.W.fnOf "_law_weights" "_law_weights" (zm xt) (zk xt) (zb xt) .none kV18 dc18 pm18 an18 cd18 ct18),sl18⟩) (k18:PySem.W.codeIn K cd18 "_law_weights" = true) (p18:PySem.W.keepIn K (.ref f18) = true)
  (a19:PySem.W.nsIn K mainGlobals "_law_rank" = some (some (.ref f19))) (l19:K.lookup f19 = some ⟨oc19,od19,.func (PySem.W.fnOf "_law_rank" "_law_rank" (zm vJ) (zk vJ) (zb vJ) .none kV19 dc19 pm19 an19 cd19 ct19),sl19⟩) (k19:PySem.W.codeIn K cd19 "_law_rank" = true) (p19:PySem.W.keepIn K (.ref f19) = true)
  (a20:PySem.W.nsIn K mainGlobals "_law_order" = some (some (.ref f20))) (l20:K.lookup f20 = some ⟨oc20,od20,.func (PySem.W.fnOf "_law_order" "_law_order" (zm vz) (zk vz) (zb vz) .none kV20 dc20 pm20 an20 cd20 ct20),sl20⟩) (k20:PySem.W.codeIn K cd20 "_law_order" = true) (p20:PySem.W.keepIn K (.ref f20) = true)
  (a21:PySem.W.nsIn K mainGlobals "_law_turned" = some (some (.ref f21))) (l21:K.lookup f21 = some ⟨oc21,od21,.func (PySem.W.fnOf "_law_turned" "_law_turned" (zm ww) (zk ww) (zb ww) .none kV21 dc21 pm21 an21 cd21 ct21),sl21⟩) (k21:PySem.W.codeIn K cd21 "_law_turned" = true) (p21:PySem.W.keepIn K (.ref f21) = true)
  (a22:PySem.W.nsIn K mainGlobals "_law_over" = some (some (.ref f22))) (l22:K.lookup f22 = some ⟨oc22,od22,.func (PySem.W.fnOf "_law_over" "_law_over" (zm qg) (zk qg) (zb qg) .none kV22 dc22 pm22 an22 cd22 ct22),sl22⟩) (k22:PySem.W.codeIn K cd22 "_law_over" = true) (p22:PySem.W.keepIn K (.ref f22) = true)
  (a23:PySem.W.nsIn K mainGlobals "_law_overlaps" = some (some (.ref f23))) (l23:K.lookup f23 = some ⟨oc23,od23,.func (PySem.W.fnOf "_law_overlaps" "_law_overlaps" (zm yz) (zk yz) (zb yz) .none kV23 dc23 pm23 an23 cd23 ct23),sl23⟩) (k23:PySem.W.codeIn K cd23 "_law_overlaps" = true) (p23:PySem.W.keepIn K (.ref f23) = true)
  (a24:PySem.W.nsIn K mainGlobals "_law_use" = some (some (.ref f24))) (l24:K.lookup f24 = some ⟨oc24,od24,.func (PySem.W.fnOf "_law_use" "_law_use" (zm ZJ) (zk ZJ) (zb ZJ) .none kV24 dc24 pm24 an24 cd24 ct24),sl24⟩) (k24:PySem.W.codeIn K cd24 "_law_use" = true) (p24:PySem.W.keepIn K (.ref f24) = true)
  (a25:PySem.W.nsIn K mainGlobals "_law_road" = some (some (.ref f25))) (l25:K.lookup f25 = some ⟨oc25,od25,.func (PySem.W.fnOf "_law_road" "_law_road" (zm qv) (zk qv) (zb qv) .none kV25 dc25 pm25 an25 cd25 ct25),sl25⟩) (k25:PySem.W.codeIn K cd25 "_law_road" = true) (p25:PySem.W.keepIn K (.ref f25) = true)
  (a26:PySem.W.nsIn K mainGlobals "_law_peak" = some (some (.ref f26))) (l26:K.lookup f26 = some ⟨oc26,od26,.func (PySem.W.fnOf "_law_peak" "_law_peak" (zm wx) (zk wx) (zb wx) .none kV26 dc26 pm26 an26 cd26 ct26),sl26⟩) (k26:PySem.W.codeIn K cd26 "_law_peak" = true) (p26:PySem.W.keepIn K (.ref f26) = true)
  (a27:PySem.W.nsIn K mainGlobals "_law_roads" = some (some (.ref f27))) (l27:K.lookup f27 = some ⟨oc27,od27,.func (PySem.W.fnOf "_law_roads" "_law_roads" (zm vB) (zk vB) (zb vB) .none kV27 dc27 pm27 an27 cd27 ct27),sl27⟩) (k27:PySem.W.codeIn K cd27 "_law_roads" = true) (p27:PySem.W.keepIn K (.ref f27) = true)
  (a28:PySem.W.nsIn K mainGlobals "_law_whole" = some (some (.ref f28))) (l28:K.lookup f28 = some ⟨oc28,od28,.func (PySem.W.fnOf "_law_whole" "_law_whole" (zm vD) (zk vD) (zb vD) .none kV28 dc28 pm28 an28 cd28 ct28),sl28⟩) (k28:PySem.W.codeIn K cd28 "_law_whole" = true) (p28:PySem.W.keepIn K (.ref f28) = true)
  (a29:PySem.W.nsIn K mainGlobals "_law_triples" = some (some (.ref f29))) (l29:K.lookup f29 = some ⟨oc29,od29,.func (PySem.W.fnOf "_law_triples" "_law_triples" (zm xB) (zk xB) (zb xB) .none kV29 dc29 pm29 an29 cd29 ct29),sl29⟩) (k29:PySem.W.codeIn K cd29 "_law_triples" = true) (p29:PySem.W.keepIn K (.ref f29) = true)
  (a30:PySem.W.nsIn K mainGlobals "_law_refused" = some (some (.ref f30))) (l30:K.lookup f30 = some ⟨oc30,od30,.func (PySem.W.fnOf "_law_refused" "_law_refused" (zm xw) (zk xw) (zb xw) .none kV30 dc30 pm30 an30 cd30 ct30),sl30⟩) (k30:PySem.W.codeIn K cd30 "_law_refused" = true) (p30:PySem.W.keepIn K (.ref f30) = true)
  (a31:PySem.W.nsIn K mainGlobals "_law_meets_refused" = some (some (.ref f31))) (l31:K.lookup f31 = some ⟨oc31,od31,.func (PySem.W.fnOf "_law_meets_refused" "_law_meets_refused" (zm z7) (zk z7) (zb z7) .none kV31 dc31 pm31 an31 cd31 ct31),sl31⟩) (k31:PySem.W.codeIn K cd31 "_law_meets_refused" = true) (p31:PySem.W.keepIn K (.ref f31) = true)
  (a32:PySem.W.nsIn K mainGlobals "_law_one_bounded" = some (some (.ref f32))) (l32:K.lookup f32 = some ⟨oc32,od32,.func (PySem.W.fnOf "_law_one_bounded" "_law_one_bounded" (zm yn) (zk yn) (zb yn) .none kV32 dc32 pm32 an32 cd32 ct32),sl32⟩) (k32:PySem.W.codeIn K cd32 "_law_one_bounded" = true) (p32:PySem.W.keepIn K (.ref f32) = true)
  (a33:PySem.W.nsIn K mainGlobals "_law_far" = some (some (.ref f33))) (l33:K.lookup f33 = some ⟨oc33,od33,.func (PySem.W.fnOf "_law_far" "_law_far" (zm kg) (zk kg) (zb kg) .none kV33 dc33 pm33 an33 cd33 ct33),sl33⟩) (k33:PySem.W.codeIn K cd33 "_law_far" = true) (p33:PySem.W.keepIn K (.ref f33) = true)
  (a34:PySem.W.nsIn K mainGlobals "law" = some (some (.ref f34))) (l34:K.lookup f34 = some ⟨oc34,od34,.func (PySem.W.fnOf "law" "law" (zm uM) (zk uM) (zb uM) .none kV34 dc34 pm34 an34 cd34 ct34),sl34⟩) (k34:PySem.W.codeIn K cd34 "law" = true) (p34:PySem.W.keepIn K (.ref f34) = true)
  (g_LetterError:PySem.W.nsIn K mainGlobals "LetterError" = some (some (.ref c_LetterError)))
  (g_NoLetters:PySem.W.nsIn K mainGlobals "NoLetters" = some (some (.ref c_NoLetters)))
  (g_NoOrder:PySem.W.nsIn K mainGlobals "NoOrder" = some (some (.ref c_NoOrder)))
  (g_Order:PySem.W.nsIn K mainGlobals "Order" = some (some (.ref c_Order)))
  (g_FromRight:PySem.W.nsIn K mainGlobals "FromRight" = some (some (.ref c_FromRight)))
  (g_ByWeights:PySem.W.nsIn K mainGlobals "ByWeights" = some (some (.ref c_ByWeights)))
  (g_NotTurned:PySem.W.nsIn K mainGlobals "NotTurned" = some (some (.ref c_NotTurned)))
  (g_System:PySem.W.nsIn K mainGlobals "System" = some (some (.ref c_System)))
  (g_NoUse:PySem.W.nsIn K mainGlobals "NoUse" = some (some (.ref c_NoUse)))
  (g_TooFar:PySem.W.nsIn K mainGlobals "TooFar" = some (some (.ref c_TooFar)))
  (kbb:PySem.W.kitOne K (.type "bool") (.type "bool") = some true)
  (kt:PySem.W.kitOne K (.type "tuple") (.type "tuple") = some true)
  (ki:PySem.W.kitOne K (.type "int") (.type "int") = some true)
  (kb:PySem.W.kitOne K (.type "int") (.type "bool") = some false)
  (kl:PySem.W.kitOne K (.type "list") (.type "list") = some true)
  (x7:PySem.W.specialIn K (.builtin "object.__class__") "__get__" = some (some (.builtin "getset_descriptor.__get__")))
  (x8:PySem.W.takesIn K (.builtin "object.__class__") = some true)
  (x1:jq K c_NoLetters = true)
  (x2:PySem.W.findIn K (.ref c_NoLetters) "__setattr__" = some (some (.builtin "object.__setattr__")))
  (x3:PySem.W.findIn K (.ref c_NoLetters) "__getattribute__" = some (some (.builtin "BaseException.__getattribute__")))
  (x4:PySem.W.findIn K (.ref c_NoLetters) "__getattr__" = some none)
  (x5:PySem.W.keepIn K (.ref c_NoLetters) = true)
  (x6:PySem.W.findIn K (.ref c_NoLetters) "__class__" = some (some (.builtin "object.__class__")))
  (x9:PySem.W.mroIn K c_NoLetters (.type "object") = some true)
  (xi:PySem.W.findIn K (.ref c_NoLetters) "__init__" = some (some (.builtin "ValueError.__init__")))
  (y1:jq K c_NoOrder = true)
  (y2:PySem.W.findIn K (.ref c_NoOrder) "__setattr__" = some (some (.builtin "object.__setattr__")))
  (y3:PySem.W.findIn K (.ref c_NoOrder) "__getattribute__" = some (some (.builtin "BaseException.__getattribute__")))
  (y4:PySem.W.findIn K (.ref c_NoOrder) "__getattr__" = some none)
  (y5:PySem.W.keepIn K (.ref c_NoOrder) = true)
  (y6:PySem.W.findIn K (.ref c_NoOrder) "__class__" = some (some (.builtin "object.__class__")))
  (y9:PySem.W.mroIn K c_NoOrder (.type "object") = some true)
  (yi:PySem.W.findIn K (.ref c_NoOrder) "__init__" = some (some (.builtin "ValueError.__init__")))
  (most:PySem.W.nsIn K mainGlobals "MOST_LETTERS" = some (some (.int 6 t6)))
  (mostw:PySem.W.nsIn K mainGlobals "MOST_WEIGHT" = some (some (.int 1000000 t7)))
  (pg_Order:PySem.W.plainGet K c_Order Str.empty = true)
  (hd_Order:PySem.W.hasDictIn K c_Order = true)
  (po_Order:PySem.W.plainOver K c_Order = true)
  (sa_Order:PySem.W.findIn K (.ref c_Order) "__setattr__" = some (some (.builtin "object.__setattr__")))
  (mk_Order:PySem.W.makesIn K c_Order = true)
  (kc_Order:PySem.W.keepIn K (.ref c_Order) = true)
  (nl_Order:PySem.W.findIn K (.ref c_Order) "letters" = some none)
  (ka_Order:PySem.W.kitOne K (.ref c_Order) (.ref c_Order) = some true)
  (cl_Order:PySem.W.findIn K (.ref c_Order) "__class__" = some (some (.builtin "object.__class__")))
  (mr_Order:PySem.W.mroIn K c_Order (.type "object") = some true)
  (pg_FromRight:PySem.W.plainGet K c_FromRight Str.empty = true)
  (hd_FromRight:PySem.W.hasDictIn K c_FromRight = true)
  (po_FromRight:PySem.W.plainOver K c_FromRight = true)
  (sa_FromRight:PySem.W.findIn K (.ref c_FromRight) "__setattr__" = some (some (.builtin "object.__setattr__")))
  (mk_FromRight:PySem.W.makesIn K c_FromRight = true)
  (kc_FromRight:PySem.W.keepIn K (.ref c_FromRight) = true)
  (nl_FromRight:PySem.W.findIn K (.ref c_FromRight) "letters" = some none)
  (ka_FromRight:PySem.W.kitOne K (.ref c_FromRight) (.ref c_Order) = some true)
  (cl_FromRight:PySem.W.findIn K (.ref c_FromRight) "__class__" = some (some (.builtin "object.__class__")))
  (mr_FromRight:PySem.W.mroIn K c_FromRight (.type "object") = some true)
  (pg_ByWeights:PySem.W.plainGet K c_ByWeights Str.empty = true)
  (hd_ByWeights:PySem.W.hasDictIn K c_ByWeights = true)
  (po_ByWeights:PySem.W.plainOver K c_ByWeights = true)
  (sa_ByWeights:PySem.W.findIn K (.ref c_ByWeights) "__setattr__" = some (some (.builtin "object.__setattr__")))
  (mk_ByWeights:PySem.W.makesIn K c_ByWeights = true)
  (kc_ByWeights:PySem.W.keepIn K (.ref c_ByWeights) = true)
  (nl_ByWeights:PySem.W.findIn K (.ref c_ByWeights) "letters" = some none)
  (ka_ByWeights:PySem.W.kitOne K (.ref c_ByWeights) (.ref c_Order) = some true)
  (cl_ByWeights:PySem.W.findIn K (.ref c_ByWeights) "__class__" = some (some (.builtin "object.__class__")))
  (mr_ByWeights:PySem.W.mroIn K c_ByWeights (.type "object") = some true)
  (nw_ByWeights:PySem.W.findIn K (.ref c_ByWeights) "weights" = some none)
  (sgO:PySem.W.specialIn K (.ref c_Order) "__getattribute__" = some (some (.builtin "type.__getattribute__")))
  (rdO:PySem.W.readsIn K c_Order (.type "type") = true)
  (win:PySem.W.nsIn K mainGlobals "WINDOW" = some (some (.int 128 t8)))
  (tt1:jq K c_NotTurned = true)
  (tt2:PySem.W.findIn K (.ref c_NotTurned) "__setattr__" = some (some (.builtin "object.__setattr__")))
  (tt3:PySem.W.findIn K (.ref c_NotTurned) "__getattribute__" = some (some (.builtin "BaseException.__getattribute__")))
  (tt4:PySem.W.findIn K (.ref c_NotTurned) "__getattr__" = some none)
  (tt5:PySem.W.keepIn K (.ref c_NotTurned) = true)
  (tt6:PySem.W.findIn K (.ref c_NotTurned) "__class__" = some (some (.builtin "object.__class__")))
  (tt9:PySem.W.mroIn K c_NotTurned (.type "object") = some true)
  (nn:PySem.W.findIn K (.ref c_NotTurned) "number" = some none)
  (ini:PySem.W.findIn K (.ref c_NotTurned) "__init__" = some (some (.ref fI)))
  (lI:K.lookup fI = some ⟨ocI,odI,.func (PySem.W.fnOf "__init__" "NotTurned.__init__" (zm zU) (zk zU) (zb zU) .none kVI dcI pmI anI cdI ctI),slI⟩)
  (kI:PySem.W.codeIn K cdI "NotTurned.__init__" = true)
  (pI:PySem.W.keepIn K (.ref fI) = true)
  (fnI:PySem.W.isFn K (.ref fI) = true)
  (pg_System:PySem.W.plainGet K c_System Str.empty = true)
  (hd_System:PySem.W.hasDictIn K c_System = true)
  (po_System:PySem.W.plainOver K c_System = true)
  (sa_System:PySem.W.findIn K (.ref c_System) "__setattr__" = some (some (.builtin "object.__setattr__")))
  (mk_System:PySem.W.makesIn K c_System = true)
  (kc_System:PySem.W.keepIn K (.ref c_System) = true)
  (no_System:PySem.W.findIn K (.ref c_System) "order" = some none)
  (nr_System:PySem.W.findIn K (.ref c_System) "rules" = some none)
  (u1:jq K c_NoUse = true)
  (u2:PySem.W.findIn K (.ref c_NoUse) "__setattr__" = some (some (.builtin "object.__setattr__")))
  (u3:PySem.W.findIn K (.ref c_NoUse) "__getattribute__" = some (some (.builtin "BaseException.__getattribute__")))
  (u4:PySem.W.findIn K (.ref c_NoUse) "__getattr__" = some none)
  (u5:PySem.W.keepIn K (.ref c_NoUse) = true)
  (u6:PySem.W.findIn K (.ref c_NoUse) "__class__" = some (some (.builtin "object.__class__")))
  (u9:PySem.W.mroIn K c_NoUse (.type "object") = some true)
  (ua:PySem.W.findIn K (.ref c_NoUse) "at" = some none)
  (iniU:PySem.W.findIn K (.ref c_NoUse) "__init__" = some (some (.ref fU)))
  (lU:K.lookup fU = some ⟨ocU,odU,.func (PySem.W.fnOf "__init__" "NoUse.__init__" (zm yv) (zk yv) (zb yv) .none kVU dcU pmU anU cdU ctU),slU⟩)
  (kU:PySem.W.codeIn K cdU "NoUse.__init__" = true)
  (pU:PySem.W.keepIn K (.ref fU) = true)
  (fnU:PySem.W.isFn K (.ref fU) = true)
  (v1:jq K c_TooFar = true)
  (v2:PySem.W.findIn K (.ref c_TooFar) "__setattr__" = some (some (.builtin "object.__setattr__")))
  (v3:PySem.W.findIn K (.ref c_TooFar) "__getattribute__" = some (some (.builtin "BaseException.__getattribute__")))
  (v4:PySem.W.findIn K (.ref c_TooFar) "__getattr__" = some none)
  (v5:PySem.W.keepIn K (.ref c_TooFar) = true)
  (v6:PySem.W.findIn K (.ref c_TooFar) "__class__" = some (some (.builtin "object.__class__")))
  (v9:PySem.W.mroIn K c_TooFar (.type "object") = some true)
  (vi:PySem.W.findIn K (.ref c_TooFar) "__init__" = some (some (.builtin "ValueError.__init__")))
  (sFF:PySem.W.subIn K (.ref c_TooFar) (.ref c_TooFar) = some true)
  (z1:jq K c_LetterError = true)
  (z2:PySem.W.findIn K (.ref c_LetterError) "__setattr__" = some (some (.builtin "object.__setattr__")))
  (z3:PySem.W.findIn K (.ref c_LetterError) "__getattribute__" = some (some (.builtin "BaseException.__getattribute__")))
  (z4:PySem.W.findIn K (.ref c_LetterError) "__getattr__" = some none)
  (z5:PySem.W.keepIn K (.ref c_LetterError) = true)
  (z6:PySem.W.findIn K (.ref c_LetterError) "__class__" = some (some (.builtin "object.__class__")))
  (z9:PySem.W.mroIn K c_LetterError (.type "object") = some true)
  (kFF:PySem.W.kitOne K (.ref c_TooFar) (.ref c_TooFar) = some true)
  (kFV:PySem.W.kitOne K (.ref c_TooFar) (.type "ValueError") = some true)
  (kFT:PySem.W.kitOne K (.ref c_TooFar) (.ref c_NotTurned) = some false)
  (sFE:PySem.W.subIn K (.ref c_TooFar) (.ref c_LetterError) = some true)
  (fi_order_init:PySem.W.findIn K (.ref c_Order) "__init__" = some (some (.ref fm_order_init)))
  (lo_order_init:K.lookup fm_order_init = some ⟨oc_order_init,od_order_init,.func (PySem.W.fnOf "__init__" "Order.__init__" (zm yA) (zk yA) (zb yA) .none kV_order_init dc_order_init pm_order_init an_order_init cd_order_init ct_order_init),sl_order_init⟩)
  (co_order_init:PySem.W.codeIn K cd_order_init "Order.__init__" = true)
  (ke_order_init:PySem.W.keepIn K (.ref fm_order_init) = true)
  (fn_order_init:PySem.W.isFn K (.ref fm_order_init) = true)
  (fi_order_weight:PySem.W.findIn K (.ref c_Order) "weight" = some (some (.ref fm_order_weight)))
  (lo_order_weight:K.lookup fm_order_weight = some ⟨oc_order_weight,od_order_weight,.func (PySem.W.fnOf "weight" "Order.weight" (zm yd) (zk yd) (zb yd) .none kV_order_weight dc_order_weight pm_order_weight an_order_weight cd_order_weight ct_order_weight),sl_order_weight⟩)
  (co_order_weight:PySem.W.codeIn K cd_order_weight "Order.weight" = true)
  (ke_order_weight:PySem.W.keepIn K (.ref fm_order_weight) = true)
  (fn_order_weight:PySem.W.isFn K (.ref fm_order_weight) = true)
  (fi_order_seen:PySem.W.findIn K (.ref c_Order) "seen" = some (some (.ref fm_order_seen)))
  (lo_order_seen:K.lookup fm_order_seen = some ⟨oc_order_seen,od_order_seen,.func (PySem.W.fnOf "seen" "Order.seen" (zm yw) (zk yw) (zb yw) .none kV_order_seen dc_order_seen pm_order_seen an_order_seen cd_order_seen ct_order_seen),sl_order_seen⟩)
  (co_order_seen:PySem.W.codeIn K cd_order_seen "Order.seen" = true)
  (ke_order_seen:PySem.W.keepIn K (.ref fm_order_seen) = true)
  (fn_order_seen:PySem.W.isFn K (.ref fm_order_seen) = true)
  (fi_fromright_seen:PySem.W.findIn K (.ref c_FromRight) "seen" = some (some (.ref fm_fromright_seen)))
  (lo_fromright_seen:K.lookup fm_fromright_seen = some ⟨oc_fromright_seen,od_fromright_seen,.func (PySem.W.fnOf "seen" "FromRight.seen" (zm zS) (zk zS) (zb zS) .none kV_fromright_seen dc_fromright_seen pm_fromright_seen an_fromright_seen cd_fromright_seen ct_fromright_seen),sl_fromright_seen⟩)
  (co_fromright_seen:PySem.W.codeIn K cd_fromright_seen "FromRight.seen" = true)
  (ke_fromright_seen:PySem.W.keepIn K (.ref fm_fromright_seen) = true)
  (fn_fromright_seen:PySem.W.isFn K (.ref fm_fromright_seen) = true)
  (fi_byweights_init:PySem.W.findIn K (.ref c_ByWeights) "__init__" = some (some (.ref fm_byweights_init)))
  (lo_byweights_init:K.lookup fm_byweights_init = some ⟨oc_byweights_init,od_byweights_init,.func (PySem.W.fnOf "__init__" "ByWeights.__init__" (zm zV) (zk zV) (zb zV) .none kV_byweights_init dc_byweights_init pm_byweights_init an_byweights_init cd_byweights_init ct_byweights_init),sl_byweights_init⟩)
  (co_byweights_init:PySem.W.codeIn K cd_byweights_init "ByWeights.__init__" = true)
  (ke_byweights_init:PySem.W.keepIn K (.ref fm_byweights_init) = true)
  (fn_byweights_init:PySem.W.isFn K (.ref fm_byweights_init) = true)
  (fi_byweights_weight:PySem.W.findIn K (.ref c_ByWeights) "weight" = some (some (.ref fm_byweights_weight)))
  (lo_byweights_weight:K.lookup fm_byweights_weight = some ⟨oc_byweights_weight,od_byweights_weight,.func (PySem.W.fnOf "weight" "ByWeights.weight" (zm zJ) (zk zJ) (zb zJ) .none kV_byweights_weight dc_byweights_weight pm_byweights_weight an_byweights_weight cd_byweights_weight ct_byweights_weight),sl_byweights_weight⟩)
  (co_byweights_weight:PySem.W.codeIn K cd_byweights_weight "ByWeights.weight" = true)
  (ke_byweights_weight:PySem.W.keepIn K (.ref fm_byweights_weight) = true)
  (fn_byweights_weight:PySem.W.isFn K (.ref fm_byweights_weight) = true)
  (fi_order_rank:PySem.W.findIn K (.ref c_Order) "rank" = some (some (.ref fm_order_rank)))
  (lo_order_rank:K.lookup fm_order_rank = some ⟨oc_order_rank,od_order_rank,.func (PySem.W.fnOf "rank" "Order.rank" (zm yj) (zk yj) (zb yj) .none kV_order_rank dc_order_rank pm_order_rank an_order_rank cd_order_rank ct_order_rank),sl_order_rank⟩)
  (co_order_rank:PySem.W.codeIn K cd_order_rank "Order.rank" = true)
  (ke_order_rank:PySem.W.keepIn K (.ref fm_order_rank) = true)
  (fn_order_rank:PySem.W.isFn K (.ref fm_order_rank) = true)
  (fi_order_before:PySem.W.findIn K (.ref c_Order) "before" = some (some (.ref fm_order_before)))
  (lo_order_before:K.lookup fm_order_before = some ⟨oc_order_before,od_order_before,.func (PySem.W.fnOf "before" "Order.before" (zm ye) (zk ye) (zb ye) .none kV_order_before dc_order_before pm_order_before an_order_before cd_order_before ct_order_before),sl_order_before⟩)
  (co_order_before:PySem.W.codeIn K cd_order_before "Order.before" = true)
  (ke_order_before:PySem.W.keepIn K (.ref fm_order_before) = true)
  (fn_order_before:PySem.W.isFn K (.ref fm_order_before) = true)
  (fi_system_init:PySem.W.findIn K (.ref c_System) "__init__" = some (some (.ref fm_system_init)))
  (lo_system_init:K.lookup fm_system_init = some ⟨oc_system_init,od_system_init,.func (PySem.W.fnOf "__init__" "System.__init__" (zm ym) (zk ym) (zb ym) .none kV_system_init dc_system_init pm_system_init an_system_init cd_system_init ct_system_init),sl_system_init⟩)
  (co_system_init:PySem.W.codeIn K cd_system_init "System.__init__" = true)
  (ke_system_init:PySem.W.keepIn K (.ref fm_system_init) = true)
  (fn_system_init:PySem.W.isFn K (.ref fm_system_init) = true)
  (fi_system_rules_told:PySem.W.findIn K (.ref c_System) "rules_told" = some (some (.ref fm_system_rules_told)))
  (lo_system_rules_told:K.lookup fm_system_rules_told = some ⟨oc_system_rules_told,od_system_rules_told,.func (PySem.W.fnOf "rules_told" "System.rules_told" (zm zL) (zk zL) (zb zL) .none kV_system_rules_told dc_system_rules_told pm_system_rules_told an_system_rules_told cd_system_rules_told ct_system_rules_told),sl_system_rules_told⟩)
  (co_system_rules_told:PySem.W.codeIn K cd_system_rules_told "System.rules_told" = true)
  (ke_system_rules_told:PySem.W.keepIn K (.ref fm_system_rules_told) = true)
  (fn_system_rules_told:PySem.W.isFn K (.ref fm_system_rules_told) = true)
  (dl_gone:K.lookup dv_gone = some ⟨d1_gone,d2_gone,.seq #[.int 4000 dt_gone] d3_gone,d4_gone⟩)
  (dl_meets:K.lookup dv_meets = some ⟨d1_meets,d2_meets,.seq #[.int 4000 dt_meets] d3_meets,d4_meets⟩)
  (dl_unmet:K.lookup dv_unmet = some ⟨d1_unmet,d2_unmet,.seq #[.int 4000 dt_unmet] d3_unmet,d4_unmet⟩)
  (fcO:PySem.W.findCls K (.ref c_Order) (.type "type") "__init__" = some (.val (.ref fm_order_init)))
  (fiR_init:PySem.W.findIn K (.ref c_FromRight) "__init__" = some (some (.ref fm_order_init)))
  (fiR_weight:PySem.W.findIn K (.ref c_FromRight) "weight" = some (some (.ref fm_order_weight)))
  (fiW_seen:PySem.W.findIn K (.ref c_ByWeights) "seen" = some (some (.ref fm_order_seen)))
  (fiR_rank:PySem.W.findIn K (.ref c_FromRight) "rank" = some (some (.ref fm_order_rank)))
  (fiW_rank:PySem.W.findIn K (.ref c_ByWeights) "rank" = some (some (.ref fm_order_rank)))
  (fiR_before:PySem.W.findIn K (.ref c_FromRight) "before" = some (some (.ref fm_order_before)))
  (fiW_before:PySem.W.findIn K (.ref c_ByWeights) "before" = some (some (.ref fm_order_before)))
  (b0:PySem.W.nsIn K mainGlobals "len" = some none)
  (b1:PySem.W.nsIn K mainGlobals "range" = some none)
  (b2:PySem.W.nsIn K mainGlobals "isinstance" = some none)
  (b3:PySem.W.nsIn K mainGlobals "str" = some none)
  (b4:PySem.W.nsIn K mainGlobals "int" = some none)
  (b5:PySem.W.nsIn K mainGlobals "tuple" = some none)
  (b6:PySem.W.nsIn K mainGlobals "list" = some none)
  (b7:PySem.W.nsIn K mainGlobals "bool" = some none)
  (b8:PySem.W.nsIn K mainGlobals "enumerate" = some none)
  (b9:PySem.W.nsIn K mainGlobals "all" = some none)
  (b10:PySem.W.nsIn K mainGlobals "ValueError" = some none)
  (b11:PySem.W.nsIn K mainGlobals "max" = some none)
  (b12:PySem.W.nsIn K mainGlobals "reversed" = some none)
  (b13:PySem.W.nsIn K mainGlobals "zip" = some none)
  (b14:PySem.W.nsIn K mainGlobals "sum" = some none)
  (b15:PySem.W.nsIn K mainGlobals "sorted" = some none)
  : ∃ fd:FuncData,(∀ (s:Shared) (v:Value),BindsTo s fd ⟨[v],[]⟩ [("_law_script",v)]) /\ ∀ base:Heap,K.In base -> base.Ns mainGlobals mg -> yo l.prog w K mg base CX0 11 fa fd ["_law_script"] (kQ K):=by
 have e:=hfa.symm.trans (PySem.W.mg_of X G a34)
 cases e
 have B:Bt mg:=⟨PySem.W.mg_none_of X G b0,PySem.W.mg_none_of X G b1,PySem.W.mg_none_of X G b2,PySem.W.mg_none_of X G b3,PySem.W.mg_none_of X G b4,PySem.W.mg_none_of X G b5,PySem.W.mg_none_of X G b6,PySem.W.mg_none_of X G b7,PySem.W.mg_none_of X G b8,PySem.W.mg_none_of X G b9,PySem.W.mg_none_of X G b10,PySem.W.mg_none_of X G b11,PySem.W.mg_none_of X G b12,PySem.W.mg_none_of X G b13,PySem.W.mg_none_of X G b14,PySem.W.mg_none_of X G b15⟩
 have F0:=zG (st:=zQ) l0 k0 p0
 have B0:=F0.binds (ps:=["sign"]) fun _ _ _ _ _ _ us hl=>by obtain ⟨_,rfl⟩:=Xj hl; rfl
 have M0:=PySem.W.mg_of X G a0
 have F1:=zG (st:=yy) l1 k1 p1
 have B1:=F1.binds (ps:=["text"]) fun _ _ _ _ _ _ us hl=>by obtain ⟨_,rfl⟩:=Xj hl; rfl
 have M1:=PySem.W.mg_of X G a1
 have F2:=zG (st:=yN) l2 k2 p2
 have B2:=F2.binds (ps:=["word", "place", "part"]) fun _ _ _ _ _ _ us hl=>by obtain ⟨_,_,_,rfl⟩:=Zp hl; rfl
 have M2:=PySem.W.mg_of X G a2
 have F3:=zG (st:=ZY) l3 k3 p3
 have B3:=F3.binds (ps:=["word", "place", "old", "new"]) fun _ _ _ _ _ _ us hl=>by obtain ⟨_,_,_,_,rfl⟩:=Vd hl; rfl
 have M3:=PySem.W.mg_of X G a3
 have F4:=zG (st:=yc) l4 k4 p4
 have B4:=F4.binds (ps:=["rules", "word", "start", "end"]) fun _ _ _ _ _ _ us hl=>by obtain ⟨_,_,_,_,rfl⟩:=Vd hl; rfl
 have M4:=PySem.W.mg_of X G a4
 have F5:=zG (st:=yx) l5 k5 p5
 have B5:=F5.binds (ps:=["rules", "word", "start"]) fun _ _ _ _ _ _ us hl=>by obtain ⟨_,_,_,rfl⟩:=Zp hl; rfl
 have M5:=PySem.W.mg_of X G a5
 have F6:FunD K "gone" "gone" wK (.ref dv_gone) f6 (PySem.W.fnOf "gone" "gone" (zm wK) (zk wK) (zb wK) (.ref dv_gone) kV6 dc6 pm6 an6 cd6 ct6):=⟨⟨_,_,_,_,_,_,_,_,_,rfl,l6,k6⟩⟩
 have M6:=PySem.W.mg_of X G a6
 have F7:=zG (st:=vC) l7 k7 p7
 have B7:=F7.binds (ps:=["one", "other", "place"]) fun _ _ _ _ _ _ us hl=>by obtain ⟨_,_,_,rfl⟩:=Zp hl; rfl
 have M7:=PySem.W.mg_of X G a7
 have F8:=zG (st:=yX) l8 k8 p8
 have B8:=F8.binds (ps:=["rules"]) fun _ _ _ _ _ _ us hl=>by obtain ⟨_,rfl⟩:=Xj hl; rfl
 have M8:=PySem.W.mg_of X G a8
 have F9:=zG (st:=qp) l9 k9 p9
 have B9:=F9.binds (ps:=["rules", "overlap"]) fun _ _ _ _ _ _ us hl=>by obtain ⟨_,_,rfl⟩:=qt hl; rfl
 have M9:=PySem.W.mg_of X G a9
 have F10:=zG (st:=xH) l10 k10 p10
 have B10:=F10.binds (ps:=["rules", "word", "most", "forms"]) fun _ _ _ _ _ _ us hl=>by obtain ⟨_,_,_,_,rfl⟩:=Vd hl; rfl
 have M10:=PySem.W.mg_of X G a10
 have F11:=zG (st:=wq) l11 k11 p11
 have B11:=F11.binds (ps:=["rules", "overlap", "most", "forms"]) fun _ _ _ _ _ _ us hl=>by obtain ⟨_,_,_,_,rfl⟩:=Vd hl; rfl
 have M11:=PySem.W.mg_of X G a11
 have F12:FunD K "meets" "meets" xT (.ref dv_meets) f12 (PySem.W.fnOf "meets" "meets" (zm xT) (zk xT) (zb xT) (.ref dv_meets) kV12 dc12 pm12 an12 cd12 ct12):=⟨⟨_,_,_,_,_,_,_,_,_,rfl,l12,k12⟩⟩
 have M12:=PySem.W.mg_of X G a12
 have F13:FunD K "unmet" "unmet" xr (.ref dv_unmet) f13 (PySem.W.fnOf "unmet" "unmet" (zm xr) (zk xr) (zb xr) (.ref dv_unmet) kV13 dc13 pm13 an13 cd13 ct13):=⟨⟨_,_,_,_,_,_,_,_,_,rfl,l13,k13⟩⟩
 have M13:=PySem.W.mg_of X G a13
 have F14:=zG (st:=xz) l14 k14 p14
 have B14:=F14.binds (ps:=["_law_script", "_law_k"]) fun _ _ _ _ _ _ us hl=>by obtain ⟨_,_,rfl⟩:=qt hl; rfl
 have M14:=PySem.W.mg_of X G a14
 have F15:=zG (st:=xA) l15 k15 p15
 have B15:=F15.binds (ps:=["_law_cell", "_law_many"]) fun _ _ _ _ _ _ us hl=>by obtain ⟨_,_,rfl⟩:=qt hl; rfl
 have M15:=PySem.W.mg_of X G a15
 have F16:=zG (st:=qj) l16 k16 p16
 have B16:=F16.binds (ps:=["_law_letters_here", "_law_cell", "_law_size"]) fun _ _ _ _ _ _ us hl=>by obtain ⟨_,_,_,rfl⟩:=Zp hl; rfl
 have M16:=PySem.W.mg_of X G a16
 have F17:=zG (st:=vw) l17 k17 p17
 have B17:=F17.binds (ps:=["_law_letters_here", "_law_cells"]) fun _ _ _ _ _ _ us hl=>by obtain ⟨_,_,rfl⟩:=qt hl; rfl
 have M17:=PySem.W.mg_of X G a17
 have F18:=zG (st:=xt) l18 k18 p18
 have B18:=F18.binds (ps:=["_law_cell", "_law_many"]) fun _ _ _ _ _ _ us hl=>by obtain ⟨_,_,rfl⟩:=qt hl; rfl
 have M18:=PySem.W.mg_of X G a18
 have F19:=zG (st:=vJ) l19 k19 p19
 have B19:=F19.binds (ps:=["_law_letters_here", "_law_kind", "_law_weights_here", "_law_word_here"]) fun _ _ _ _ _ _ us hl=>by obtain ⟨_,_,_,_,rfl⟩:=Vd hl; rfl
 have M19:=PySem.W.mg_of X G a19
 have F20:=zG (st:=vz) l20 k20 p20
 have B20:=F20.binds (ps:=["_law_letters_here", "_law_kind", "_law_weights_here"]) fun _ _ _ _ _ _ us hl=>by obtain ⟨_,_,_,rfl⟩:=Zp hl; rfl
 have M20:=PySem.W.mg_of X G a20
 have F21:=zG (st:=ww) l21 k21 p21
 have B21:=F21.binds (ps:=["_law_letters_here", "_law_kind", "_law_weights_here", "_law_pairs_here"]) fun _ _ _ _ _ _ us hl=>by obtain ⟨_,_,_,_,rfl⟩:=Vd hl; rfl
 have M21:=PySem.W.mg_of X G a21
 have F22:=zG (st:=qg) l22 k22 p22
 have B22:=F22.binds (ps:=["_law_one", "_law_other", "_law_at"]) fun _ _ _ _ _ _ us hl=>by obtain ⟨_,_,_,rfl⟩:=Zp hl; rfl
 have M22:=PySem.W.mg_of X G a22
 have F23:=zG (st:=yz) l23 k23 p23
 have B23:=F23.binds (ps:=["_law_rules"]) fun _ _ _ _ _ _ us hl=>by obtain ⟨_,rfl⟩:=Xj hl; rfl
 have M23:=PySem.W.mg_of X G a23
 have F24:=zG (st:=ZJ) l24 k24 p24
 have B24:=F24.binds (ps:=["_law_rules", "_law_word_here"]) fun _ _ _ _ _ _ us hl=>by obtain ⟨_,_,rfl⟩:=qt hl; rfl
 have M24:=PySem.W.mg_of X G a24
 have F25:=zG (st:=qv) l25 k25 p25
 have B25:=F25.binds (ps:=["_law_rules", "_law_word_here"]) fun _ _ _ _ _ _ us hl=>by obtain ⟨_,_,rfl⟩:=qt hl; rfl
 have M25:=PySem.W.mg_of X G a25
 have F26:=zG (st:=wx) l26 k26 p26
 have B26:=F26.binds (ps:=["_law_rules", "_law_i", "_law_j", "_law_at"]) fun _ _ _ _ _ _ us hl=>by obtain ⟨_,_,_,_,rfl⟩:=Vd hl; rfl
 have M26:=PySem.W.mg_of X G a26
 have F27:=zG (st:=vB) l27 k27 p27
 have B27:=F27.binds (ps:=["_law_rules"]) fun _ _ _ _ _ _ us hl=>by obtain ⟨_,rfl⟩:=Xj hl; rfl
 have M27:=PySem.W.mg_of X G a27
 have F28:=zG (st:=vD) l28 k28 p28
 have B28:=F28.binds (ps:=["_law_found"]) fun _ _ _ _ _ _ us hl=>by obtain ⟨_,rfl⟩:=Xj hl; rfl
 have M28:=PySem.W.mg_of X G a28
 have F29:=zG (st:=xB) l29 k29 p29
 have B29:=F29.binds (ps:=["_law_found"]) fun _ _ _ _ _ _ us hl=>by obtain ⟨_,rfl⟩:=Xj hl; rfl
 have M29:=PySem.W.mg_of X G a29
 have F30:=zG (st:=xw) l30 k30 p30
 have B30:=F30.binds (ps:=["_law_system", "_law_most"]) fun _ _ _ _ _ _ us hl=>by obtain ⟨_,_,rfl⟩:=qt hl; rfl
 have M30:=PySem.W.mg_of X G a30
 have F31:=zG (st:=z7) l31 k31 p31
 have B31:=F31.binds (ps:=["_law_system", "_law_overlap", "_law_most"]) fun _ _ _ _ _ _ us hl=>by obtain ⟨_,_,_,rfl⟩:=Zp hl; rfl
 have M31:=PySem.W.mg_of X G a31
 have F32:=zG (st:=yn) l32 k32 p32
 have B32:=F32.binds (ps:=["_law_system", "_law_overlap", "_law_size", "_law_same"]) fun _ _ _ _ _ _ us hl=>by obtain ⟨_,_,_,_,rfl⟩:=Vd hl; rfl
 have M32:=PySem.W.mg_of X G a32
 have F33:=zG (st:=kg) l33 k33 p33
 have B33:=F33.binds (ps:=["_law_letters_here", "_law_i", "_law_j"]) fun _ _ _ _ _ _ us hl=>by obtain ⟨_,_,_,rfl⟩:=Zp hl; rfl
 have M33:=PySem.W.mg_of X G a33
 have F34:=zG (st:=uM) l34 k34 p34
 have B34:=F34.binds (ps:=["_law_script"]) fun _ _ _ _ _ _ us hl=>by obtain ⟨_,rfl⟩:=Xj hl; rfl
 have M34:=PySem.W.mg_of X G a34
 refine ⟨PySem.W.fnOf "law" "law" (zm uM) (zk uM) (zb uM) .none kV34 dc34 pm34 an34 cd34 ct34,fun s v=>.of_eq rfl,fun base _ _=>?_⟩
 have XIl:XI K c_NoLetters:=⟨⟨x1,x2,x3,x4,x5⟩,x6,x7,x8,x9⟩
 have XIo:XI K c_NoOrder:=⟨⟨y1,y2,y3,y4,y5⟩,y6,x7,x8,y9⟩
 have TL:J8 K mg c_NoLetters:=⟨XIl,xi,PySem.W.mg_of X G g_NoLetters,t6,PySem.W.mg_of X G most⟩
 have TN:JM K mg c_NoOrder:=⟨XIo,yi,PySem.W.mg_of X G g_NoOrder,t7,PySem.W.mg_of X G mostw⟩
 have TO:TOrd K mg c_Order c_FromRight c_ByWeights:=⟨⟨pg_Order,hd_Order,po_Order,sa_Order⟩,⟨pg_FromRight,hd_FromRight,po_FromRight,sa_FromRight⟩,⟨pg_ByWeights,hd_ByWeights,po_ByWeights,sa_ByWeights⟩,PySem.W.mg_of X G g_Order,PySem.W.mg_of X G g_FromRight,PySem.W.mg_of X G g_ByWeights,nl_Order,nl_FromRight,nl_ByWeights,nw_ByWeights⟩
 have XIt:XI K c_NotTurned:=⟨⟨tt1,tt2,tt3,tt4,tt5⟩,tt6,x7,x8,tt9⟩
 have TNt:TNT K mg c_NotTurned:=⟨XIt,PySem.W.mg_of X G g_NotTurned,nn⟩
 have FI:=zG (st:=zU) lI kI pI
 have BI:=FI.binds (ps:=["self", "number"]) fun _ _ _ _ _ _ us hl=>by obtain ⟨_,_,rfl⟩:=qt hl; rfl
 have TD:DNT l.prog w K mg base c_NotTurned:=⟨TNt,_,_,ini,fnI,vp TNt FI,BI⟩
 have TS:Uw K mg c_System:=⟨⟨pg_System,hd_System,po_System,sa_System⟩,PySem.W.mg_of X G g_System,no_System,nr_System⟩
 have TWi:JN mg:=⟨t8,PySem.W.mg_of X G win⟩
 have XIu:XI K c_NoUse:=⟨⟨u1,u2,u3,u4,u5⟩,u6,x7,x8,u9⟩
 have TNu:TNU K mg c_NoUse:=⟨XIu,PySem.W.mg_of X G g_NoUse,ua⟩
 have FU:=zG (st:=yv) lU kU pU
 have BU:=FU.binds (ps:=["self", "at"]) fun _ _ _ _ _ _ us hl=>by obtain ⟨_,_,rfl⟩:=qt hl; rfl
 have TUd:DNU l.prog w K mg base c_NoUse:=⟨TNu,_,_,iniU,fnU,qE TNu FU,BU⟩
 have XIf:XI K c_TooFar:=⟨⟨v1,v2,v3,v4,v5⟩,v6,x7,x8,v9⟩
 have TF:J9 K mg c_TooFar:=⟨XIf,vi,PySem.W.mg_of X G g_TooFar⟩
 have XIe:XI K c_LetterError:=⟨⟨z1,z2,z3,z4,z5⟩,z6,x7,x8,z9⟩
 have D0:Df l.prog w K mg base CX0 1 "is_small_letter" ["sign"] [] vX:=⟨_,_,W5 F0,M0,p0,B0⟩
 have D1:Df l.prog w K mg base (CXx l.prog w) 2 "letters_of" ["text"] [] (xR c_NoLetters):=⟨_,_,qY B TL F1 D0,M1,p1,B1⟩
 have D2:Df l.prog w K mg base CX0 1 "stands_at" ["word", "place", "part"] [] xm:=⟨_,_,jN B F2,M2,p2,B2⟩
 have D3:Df l.prog w K mg base (CXx l.prog w) 3 "put" ["word", "place", "old", "new"] [] (jv c_NoUse):=⟨_,_,UH B TUd F3 D2,M3,p3,B3⟩
 have FM_order_init:=zG (st:=yA) lo_order_init co_order_init ke_order_init
 have BM_order_init:=FM_order_init.binds (ps:=["self", "letters"]) fun _ _ _ _ _ _ us hl=>by obtain ⟨_,_,rfl⟩:=qt hl; rfl
 have MM_order_init:DMk l.prog w K mg base CX0 3 c_Order ["self", "letters"] (ub K):=⟨_,_,⟨mk_Order,fi_order_init,fn_order_init,kc_Order⟩,xS B FM_order_init D1,BM_order_init⟩
 have DI:DOI l.prog w K mg base c_Order:=⟨_,_,⟨sgO,rdO,fcO,ke_order_init⟩,xS B FM_order_init D1,BM_order_init⟩
 have FM_order_weight:=zG (st:=yd) lo_order_weight co_order_weight ke_order_weight
 have BM_order_weight:=FM_order_weight.binds (ps:=["self", "word"]) fun _ _ _ _ _ _ us hl=>by obtain ⟨_,_,rfl⟩:=qt hl; rfl
 have MM_order_weight:DM l.prog w K mg base CX0 1 c_Order "weight" ["self", "word"] je:=⟨_,_,⟨fi_order_weight,fn_order_weight,ke_order_weight⟩,wc B FM_order_weight,BM_order_weight⟩
 have FM_order_seen:=zG (st:=yw) lo_order_seen co_order_seen ke_order_seen
 have BM_order_seen:=FM_order_seen.binds (ps:=["self", "word"]) fun _ _ _ _ _ _ us hl=>by obtain ⟨_,_,rfl⟩:=qt hl; rfl
 have MM_order_seen:DM l.prog w K mg base CX0 1 c_Order "seen" ["self", "word"] ZB:=⟨_,_,⟨fi_order_seen,fn_order_seen,ke_order_seen⟩,wZ B FM_order_seen,BM_order_seen⟩
 have FM_fromright_seen:=zG (st:=zS) lo_fromright_seen co_fromright_seen ke_fromright_seen
 have BM_fromright_seen:=FM_fromright_seen.binds (ps:=["self", "word"]) fun _ _ _ _ _ _ us hl=>by obtain ⟨_,_,rfl⟩:=qt hl; rfl
 have MM_fromright_seen:DM l.prog w K mg base CX0 1 c_FromRight "seen" ["self", "word"] kD:=⟨_,_,⟨fi_fromright_seen,fn_fromright_seen,ke_fromright_seen⟩,vE B FM_fromright_seen,BM_fromright_seen⟩
 have FM_byweights_init:=zG (st:=zV) lo_byweights_init co_byweights_init ke_byweights_init
 have BM_byweights_init:=FM_byweights_init.binds (ps:=["self", "letters", "weights"]) fun _ _ _ _ _ _ us hl=>by obtain ⟨_,_,_,rfl⟩:=Zp hl; rfl
 have MM_byweights_init:DMk l.prog w K mg base (CXx l.prog w) 4 c_ByWeights ["self", "letters", "weights"] (jh K c_ByWeights):=⟨_,_,⟨mk_ByWeights,fi_byweights_init,fn_byweights_init,kc_ByWeights⟩,vt B TO TN DI FM_byweights_init,BM_byweights_init⟩
 have FM_byweights_weight:=zG (st:=zJ) lo_byweights_weight co_byweights_weight ke_byweights_weight
 have BM_byweights_weight:=FM_byweights_weight.binds (ps:=["self", "word"]) fun _ _ _ _ _ _ us hl=>by obtain ⟨_,_,rfl⟩:=qt hl; rfl
 have MM_byweights_weight:DM l.prog w K mg base CX0 1 c_ByWeights "weight" ["self", "word"] (ke c_ByWeights):=⟨_,_,⟨fi_byweights_weight,fn_byweights_weight,ke_byweights_weight⟩,wU B TO FM_byweights_weight,BM_byweights_weight⟩
 have TT:TWS l.prog w K mg base c_Order c_FromRight c_ByWeights:=⟨TO,MM_order_init,⟨_,_,⟨mk_FromRight,fiR_init,fn_order_init,kc_FromRight⟩,xS B FM_order_init D1,BM_order_init⟩,MM_byweights_init,MM_order_weight,⟨_,_,⟨fiR_weight,fn_order_weight,ke_order_weight⟩,wc B FM_order_weight,BM_order_weight⟩,MM_byweights_weight,MM_order_seen,MM_fromright_seen,⟨_,_,⟨fiW_seen,fn_order_seen,ke_order_seen⟩,wZ B FM_order_seen,BM_order_seen⟩⟩
 have FM_order_rank:=zG (st:=yj) lo_order_rank co_order_rank ke_order_rank
 have BM_order_rank:=FM_order_rank.binds (ps:=["self", "word"]) fun _ _ _ _ _ _ us hl=>by obtain ⟨_,_,rfl⟩:=qt hl; rfl
 have MM_order_rank:DM l.prog w K mg base CX0 2 c_Order "rank" ["self", "word"] (kh c_Order c_FromRight c_ByWeights):=⟨_,_,⟨fi_order_rank,fn_order_rank,ke_order_rank⟩,xV B TT FM_order_rank,BM_order_rank⟩
 have DRk:DR l.prog w K mg base c_Order c_FromRight c_ByWeights:=⟨fun C h=>by rcases h with e | e | e; (rw [e]; exact ⟨TO.cO,MM_order_rank⟩); (rw [e]; exact ⟨TO.cR,⟨_,_,⟨fiR_rank,fn_order_rank,ke_order_rank⟩,xV B TT FM_order_rank,BM_order_rank⟩⟩); (rw [e]; exact ⟨TO.cW,⟨_,_,⟨fiW_rank,fn_order_rank,ke_order_rank⟩,xV B TT FM_order_rank,BM_order_rank⟩⟩)⟩
 have FM_order_before:=zG (st:=ye) lo_order_before co_order_before ke_order_before
 have BM_order_before:=FM_order_before.binds (ps:=["self", "one", "other"]) fun _ _ _ _ _ _ us hl=>by obtain ⟨_,_,_,rfl⟩:=Zp hl; rfl
 have MM_order_before:DM l.prog w K mg base CX0 3 c_Order "before" ["self", "one", "other"] (Xc c_Order c_FromRight c_ByWeights):=⟨_,_,⟨fi_order_before,fn_order_before,ke_order_before⟩,y8 B DRk FM_order_before,BM_order_before⟩
 have DBk:DB l.prog w K mg base c_Order c_FromRight c_ByWeights:=⟨fun C h=>by rcases h with e | e | e; (rw [e]; exact ⟨TO.cO,MM_order_before⟩); (rw [e]; exact ⟨TO.cR,⟨_,_,⟨fiR_before,fn_order_before,ke_order_before⟩,y8 B DRk FM_order_before,BM_order_before⟩⟩); (rw [e]; exact ⟨TO.cW,⟨_,_,⟨fiW_before,fn_order_before,ke_order_before⟩,y8 B DRk FM_order_before,BM_order_before⟩⟩)⟩
 have FM_system_init:=zG (st:=ym) lo_system_init co_system_init ke_system_init
 have BM_system_init:=FM_system_init.binds (ps:=["self", "order", "rules"]) fun _ _ _ _ _ _ us hl=>by obtain ⟨_,_,_,rfl⟩:=Zp hl; rfl
 have MM_system_init:DMk l.prog w K mg base (CXx l.prog w) 5 c_System ["self", "order", "rules"] (ud K c_Order c_FromRight c_ByWeights c_NotTurned c_System):=⟨_,_,⟨mk_System,fi_system_init,fn_system_init,kc_System⟩,uY B TD TS DBk FM_system_init,BM_system_init⟩
 have MS:MkS l.prog w K mg base c_Order c_FromRight c_ByWeights c_NotTurned c_System:=MM_system_init
 have D4:Df l.prog w K mg base CX0 1 "first_within" ["rules", "word", "start", "end"] [] (wD K):=⟨_,_,uC B F4,M4,p4,B4⟩
 have D5:Df l.prog w K mg base CX0 2 "first_from" ["rules", "word", "start"] [] (uh K):=⟨_,_,qC B TWi F5 D4,M5,p5,B5⟩
 have O6:=VB (P:=l.prog) (w:=w) (base:=base) B TF TUd F6 D5 D3
 have D6:Df l.prog w K mg base (CXx l.prog w) 4 "gone" ["rules", "word", "most"] [] (uq K c_TooFar):=⟨_,_,O6,M6,p6,fun s us hK hl=>by obtain ⟨_,_,_,rfl⟩:=Zp (us:=us) (by simpa using hl); exact BindsTo.of_defaults rfl (hK _ _ dl_gone) rfl rfl rfl⟩
 have D6d:Df l.prog w K mg base (CXx l.prog w) 4 "gone" ["rules", "word", "most"] [.int 4000 dt_gone] (uq K c_TooFar):=⟨_,_,O6,M6,p6,fun s us hK hl=>by obtain ⟨_,_,rfl⟩:=qt (us:=us) (by simpa using hl); exact BindsTo.of_defaults rfl (hK _ _ dl_gone) rfl rfl rfl⟩
 have D7:Df l.prog w K mg base CX0 1 "agree" ["one", "other", "place"] [] uf:=⟨_,_,Vf B F7,M7,p7,B7⟩
 have D8:Df l.prog w K mg base CX0 2 "overlaps" ["rules"] [] (yu K):=⟨_,_,ky B F8 D7,M8,p8,B8⟩
 have D9:Df l.prog w K mg base CX0 4 "peak" ["rules", "overlap"] [] (qG K):=⟨_,_,VN B F9 D3,M9,p9,B9⟩
 have D10:Df l.prog w K mg base (CXx l.prog w) 5 "form_of" ["rules", "word", "most", "forms"] [] (jp l.prog w K c_TooFar):=⟨_,_,Z3 B F10 D6 D6d,M10,p10,B10⟩
 have D11:Df l.prog w K mg base (CXx l.prog w) 6 "is_met" ["rules", "overlap", "most", "forms"] [] (ve l.prog w K c_TooFar):=⟨_,_,X6 B F11 D9 D10,M11,p11,B11⟩
 have FM_system_rules_told:=zG (st:=zL) lo_system_rules_told co_system_rules_told ke_system_rules_told
 have BM_system_rules_told:=FM_system_rules_told.binds (ps:=["self"]) fun _ _ _ _ _ _ us hl=>by obtain ⟨_,rfl⟩:=Xj hl; rfl
 have MM_system_rules_told:DM l.prog w K mg base CX0 1 c_System "rules_told" ["self"] (vW K c_System):=⟨_,_,⟨fi_system_rules_told,fn_system_rules_told,ke_system_rules_told⟩,wF B TS FM_system_rules_told,BM_system_rules_told⟩
 have O12:=WG (P:=l.prog) (w:=w) (base:=base) B TS F12 D11 MM_system_rules_told
 have D12:Df l.prog w K mg base (CXx l.prog w) 7 "meets" ["system", "overlap", "most"] [] (yD K c_System c_TooFar):=⟨_,_,O12,M12,p12,fun s us hK hl=>by obtain ⟨_,_,_,rfl⟩:=Zp (us:=us) (by simpa using hl); exact BindsTo.of_defaults rfl (hK _ _ dl_meets) rfl rfl rfl⟩
 have D12d:Df l.prog w K mg base (CXx l.prog w) 7 "meets" ["system", "overlap", "most"] [.int 4000 dt_meets] (yD K c_System c_TooFar):=⟨_,_,O12,M12,p12,fun s us hK hl=>by obtain ⟨_,_,rfl⟩:=qt (us:=us) (by simpa using hl); exact BindsTo.of_defaults rfl (hK _ _ dl_meets) rfl rfl rfl⟩
 have O13:=WR (P:=l.prog) (w:=w) (base:=base) B TS F13 D8 D11 MM_system_rules_told
 have D13:Df l.prog w K mg base (CXx l.prog w) 7 "unmet" ["system", "most"] [] (yT K c_System c_TooFar):=⟨_,_,O13,M13,p13,fun s us hK hl=>by obtain ⟨_,_,rfl⟩:=qt (us:=us) (by simpa using hl); exact BindsTo.of_defaults rfl (hK _ _ dl_unmet) rfl rfl rfl⟩
 have D13d:Df l.prog w K mg base (CXx l.prog w) 7 "unmet" ["system", "most"] [.int 4000 dt_unmet] (yT K c_System c_TooFar):=⟨_,_,O13,M13,p13,fun s us hK hl=>by obtain ⟨_,rfl⟩:=Xj (us:=us) (by simpa using hl); exact BindsTo.of_defaults rfl (hK _ _ dl_unmet) rfl rfl rfl⟩
 have D14:Df l.prog w K mg base CX0 1 "_law_cell_at" ["_law_script", "_law_k"] [] (wu K):=⟨_,_,ZX B F14,M14,p14,B14⟩
 have D15:Df l.prog w K mg base CX0 1 "_law_letters" ["_law_cell", "_law_many"] [] wy:=⟨_,_,Z6 B F15,M15,p15,B15⟩
 have D16:Df l.prog w K mg base CX0 1 "_law_word" ["_law_letters_here", "_law_cell", "_law_size"] [] qU:=⟨_,_,Us B F16,M16,p16,B16⟩
 have D17:Df l.prog w K mg base CX0 2 "_law_pairs" ["_law_letters_here", "_law_cells"] [] (jf K):=⟨_,_,Wh B F17 D16,M17,p17,B17⟩
 have D18:Df l.prog w K mg base CX0 1 "_law_weights" ["_law_cell", "_law_many"] [] vx:=⟨_,_,ZR B F18,M18,p18,B18⟩
 have D19:Df l.prog w K mg base CX0 1 "_law_rank" ["_law_letters_here", "_law_kind", "_law_weights_here", "_law_word_here"] [] Ze:=⟨_,_,Uf B F19,M19,p19,B19⟩
 have D20:Df l.prog w K mg base CX0 6 "_law_order" ["_law_letters_here", "_law_kind", "_law_weights_here"] [] (jk K c_Order c_FromRight c_ByWeights):=⟨_,_,W7 B TT F20,M20,p20,B20⟩
 have D21:Df l.prog w K mg base CX0 2 "_law_turned" ["_law_letters_here", "_law_kind", "_law_weights_here", "_law_pairs_here"] [] (uS K):=⟨_,_,Y9 B F21 D19,M21,p21,B21⟩
 have D22:Df l.prog w K mg base CX0 1 "_law_over" ["_law_one", "_law_other", "_law_at"] [] qZ:=⟨_,_,VW B F22,M22,p22,B22⟩
 have D23:Df l.prog w K mg base CX0 2 "_law_overlaps" ["_law_rules"] [] (yu K):=⟨_,_,qN B F23 D22,M23,p23,B23⟩
 have D24:Df l.prog w K mg base CX0 1 "_law_use" ["_law_rules", "_law_word_here"] [] (vb K):=⟨_,_,Qu B F24,M24,p24,B24⟩
 have D25:Df l.prog w K mg base CX0 2 "_law_road" ["_law_rules", "_law_word_here"] [] (vZ K):=⟨_,_,V4 B F25 D24,M25,p25,B25⟩
 have D26:Df l.prog w K mg base CX0 1 "_law_peak" ["_law_rules", "_law_i", "_law_j", "_law_at"] [] (qR K):=⟨_,_,Xe B F26,M26,p26,B26⟩
 have D27:Df l.prog w K mg base CX0 3 "_law_roads" ["_law_rules"] [] (uQ K):=⟨_,_,WM B F27 D23 D26 D25,M27,p27,B27⟩
 have D28:Df l.prog w K mg base CX0 1 "_law_whole" ["_law_found"] [] vU:=⟨_,_,Vc B ⟨ki,kb⟩ F28,M28,p28,B28⟩
 have D29:Df l.prog w K mg base CX0 2 "_law_triples" ["_law_found"] [] (xJ K):=⟨_,_,Yi B ⟨kl,kt⟩ F29 D28,M29,p29,B29⟩
 have TA:QH K mg c_NotTurned c_TooFar c_LetterError:=⟨PySem.W.mg_of X G g_LetterError,PySem.W.mg_of X G g_TooFar,PySem.W.mg_of X G g_NotTurned,XIe,XIf,kFF,kFV,kFT,sFE,sFF⟩
 have D30:Df l.prog w K mg base CX0 8 "_law_refused" ["_law_system", "_law_most"] [] (jn K c_System):=⟨_,_,Yd B TA F30 D13 D13d,M30,p30,B30⟩
 have D31:Df l.prog w K mg base CX0 8 "_law_meets_refused" ["_law_system", "_law_overlap", "_law_most"] [] (qS K c_System):=⟨_,_,vT B TA F31 D12 D12d,M31,p31,B31⟩
 have D32:Df l.prog w K mg base CX0 9 "_law_one_bounded" ["_law_system", "_law_overlap", "_law_size", "_law_same"] [] (ko K c_System):=⟨_,_,uZ B TA ⟨kbb⟩ F32 D12 D12d D31,M32,p32,B32⟩
 have D33:Df l.prog w K mg base CX0 10 "_law_far" ["_law_letters_here", "_law_i", "_law_j"] [] (Y3 K):=⟨_,_,UP B TT TS MS F33 D13 D13d D29 D12 D12d D31 D30,M33,p33,B33⟩
 exact Qw B TS MS ⟨kbb⟩ F34 D14 D15 D18 D21 D27 D13 D13d D33 D17 D20 D12 D12d D32 D29 D30
theorem walk {l:PySem.W.OpenLaw} {q:Program} {loose:List Str} {XP:(Str -> Option Value) -> Heap -> Prop} {YP:World -> Heap -> Prop} {d:DefRec} {K:Params -> PySem.W.Frag} (hn:l.most = some 63) (hdf:d.params.defaults = [])
  (hY:∀ (w:World) (h:Heap),YP w h -> (K w.params).In h)
  (F:∀ (w:World) (mg:Str -> Option Value) (fa:Addr) (h:Heap),(K w.params).In h -> h.Ns mainGlobals mg -> mg d.name = some (.ref fa) ->
   ∃ fd:FuncData,(∀ (s:Shared) (u:Value),BindsTo s fd ⟨[u],[]⟩ [("_law_script",u)]) /\ ∀ base:Heap,(K w.params).In base -> base.Ns mainGlobals mg -> yo l.prog w (K w.params) mg base CX0 11 fa fd ["_law_script"] (kQ (K w.params))) :
  PySem.W.WalkO q loose XP YP l.row.toRowW d [] (fun f vs=>PySem.call f vs) :=
 L2.walk_of (n:=63) (k:=11) (x:="_law_script") (CX:=fun _=>CX0) (sp:=fun w=>kQ (K w.params)) hn (by decide) hdf ⟨rfl,by decide,by decide⟩ hY F (fun _ _ a ns hl hB hS=>⟨a,ns,rfl,hS,fun _=>rfl⟩) fun _ _ _ _ _ z=>z
end LL
def PySem.W.Fast.tw4645186939713533044:Nat:=0
def PySem.W.Fast.tw5418059747596450592:Nat:=0
def PySem.W.Fast.tw5773172044668055299:Nat:=0
def PySem.W.Fast.tw3536109515402414635:Nat:=0
def PySem.W.Fast.tw10806558814698010116:Nat:=0
def PySem.W.Fast.tw12679604301571699420:Nat:=0
def PySem.W.Fast.tw18378994646573236837:Nat:=0
def PySem.W.Fast.tw8162062756088669108:Nat:=0
def PySem.W.Fast.tw11731300011490844934:Nat:=0
def PySem.W.Fast.tw1870932450507442940:Nat:=0
def PySem.W.Fast.tw10438271290343369471:Nat:=0
def PySem.W.Fast.tw5836959055044214813:Nat:=0
def PySem.W.Fast.tw6336470291512657947:Nat:=0
def PySem.W.Fast.tw5134059442426106882:Nat:=0
def PySem.W.Fast.tw16877550505234811868:Nat:=0
def PySem.W.Fast.tw16362450106381609770:Nat:=0
def PySem.W.Fast.tw10432109422390555974:Nat:=0
def PySem.W.Fast.tw7131494749387464918:Nat:=0
def PySem.W.Fast.tw5609002988013418512:Nat:=0
def PySem.W.Fast.tw1192750077708462737:Nat:=0
def PySem.W.Fast.tw16310630193530608843:Nat:=0
def PySem.W.Fast.tw4999891677345328303:Nat:=0
def PySem.W.Fast.tw15447616056821749266:Nat:=0
def PySem.W.Fast.tw11135848471715171471:Nat:=0
def PySem.W.Fast.tw854177751633750672:Nat:=0
def PySem.W.Fast.tw5625284303644306557:Nat:=0
def PySem.W.Fast.tw7778130739572995926:Nat:=0
def PySem.W.Fast.tw11354594924986129987:Nat:=0
def PySem.W.Fast.tw10405460161338065498:Nat:=0
def PySem.W.Fast.tw4417931341602743458:Nat:=0
def PySem.W.Fast.tw9348438197938583591:Nat:=0
def PySem.W.Fast.tw5204485770809890372:Nat:=0
def PySem.W.Fast.tw10142428091570553314:Nat:=0
def PySem.W.Fast.tw11727653425823790703:Nat:=0
def PySem.W.Fast.tw5439485023623351422:Nat:=0
def PySem.W.Fast.tw15199330656303536125:Nat:=0
def PySem.W.Fast.tw14327687975633290620:Nat:=0
def PySem.W.Fast.tw3044942222358507226:Nat:=0
def PySem.W.Fast.tw17988002406518139570:Nat:=0
def PySem.W.Fast.tw8391130273869370065:Nat:=0
def PySem.W.Fast.tw10928990055466283944:Nat:=0
def PySem.W.Fast.tw4515725637918045008:Nat:=0
def PySem.W.Fast.tw14340948572954376944:Nat:=0
def PySem.W.Fast.tw4508658454188059453:Nat:=0
def PySem.W.Fast.tw6165341573079058369:Nat:=0
def PySem.W.Fast.tw5441659739322008932:Nat:=0
def PySem.W.Fast.tw4698624139722082112:Nat:=0
def PySem.W.Fast.tw357037110245849828:Nat:=0
def PySem.W.Fast.tw9700292289911794088:Nat:=0
def PySem.W.Fast.tw6726788929854487202:Nat:=0
def PySem.W.Fast.tw17483121305798220064:Nat:=0
def PySem.W.Fast.tw14047352157053076883:Nat:=0
def PySem.W.Fast.tw7608222195729966890:Nat:=0
def PySem.W.Fast.tw8530431520130482358:Nat:=0
def PySem.W.Fast.tw8348664061659051278:Nat:=0
def PySem.W.Fast.tw11878576770460578721:Nat:=0
def PySem.W.Fast.tw16413966526142987112:Nat:=0
def PySem.W.Fast.tw15951024183242709035:Nat:=0
open PySem PySem.W PyProof.Rows
set_option maxRecDepth 100000 in
set_option maxHeartbeats 0 in
theorem PySem.Challenge.cw_letterlaw_k45_roads_bounded_holds : PySem.Challenge.rw_letterlaw_k45_roads_bounded.Holds := by
 w_on; o_law; k_head; (case hw=>w_witness2)
 k_fill
 refine LL.walk (l:=PySem.Challenge.rw_letterlaw_k45_roads_bounded) rfl rfl (fun w h Y=>PySem.W.kIn_of Y) ?F
 case F =>
  intro w mg fa h KX G hmg
  refine' LL.all_mk KX G hmg ?a0 ?l0 ?k0 ?p0 ?a1 ?l1 ?k1 ?p1 ?a2 ?l2 ?k2 ?p2 ?a3 ?l3 ?k3 ?p3 ?a4 ?l4 ?k4 ?p4 ?a5 ?l5 ?k5 ?p5 ?a6 ?l6 ?k6 ?p6 ?a7 ?l7 ?k7 ?p7 ?a8 ?l8 ?k8 ?p8 ?a9 ?l9 ?k9 ?p9 ?a10 ?l10 ?k10 ?p10 ?a11 ?l11 ?k11 ?p11 ?a12 ?l12 ?k12 ?p12 ?a13 ?l13 ?k13 ?p13 ?a14 ?l14 ?k14 ?p14 ?a15 ?l15 ?k15 ?p15 ?a16 ?l16 ?k16 ?p16 ?a17 ?l17 ?k17 ?p17 ?a18 ?l18 ?k18 ?p18 ?a19 ?l19 ?k19 ?p19 ?a20 ?l20 ?k20 ?p20 ?a21 ?l21 ?k21 ?p21 ?a22 ?l22 ?k22 ?p22 ?a23 ?l23 ?k23 ?p23 ?a24 ?l24 ?k24 ?p24 ?a25 ?l25 ?k25 ?p25 ?a26 ?l26 ?k26 ?p26 ?a27 ?l27 ?k27 ?p27 ?a28 ?l28 ?k28 ?p28 ?a29 ?l29 ?k29 ?p29 ?a30 ?l30 ?k30 ?p30 ?a31 ?l31 ?k31 ?p31 ?a32 ?l32 ?k32 ?p32 ?a33 ?l33 ?k33 ?p33 ?a34 ?l34 ?k34 ?p34 ?g_LetterError ?g_NoLetters ?g_NoOrder ?g_Order ?g_FromRight ?g_ByWeights ?g_NotTurned ?g_System ?g_NoUse ?g_TooFar ?kbb ?kt ?ki ?kb ?kl ?x7 ?x8 ?x1 ?x2 ?x3 ?x4 ?x5 ?x6 ?x9 ?xi ?y1 ?y2 ?y3 ?y4 ?y5 ?y6 ?y9 ?yi ?most ?mostw ?pg_Order ?hd_Order ?po_Order ?sa_Order ?mk_Order ?kc_Order ?nl_Order ?ka_Order ?cl_Order ?mr_Order ?pg_FromRight ?hd_FromRight ?po_FromRight ?sa_FromRight ?mk_FromRight ?kc_FromRight ?nl_FromRight ?ka_FromRight ?cl_FromRight ?mr_FromRight ?pg_ByWeights ?hd_ByWeights ?po_ByWeights ?sa_ByWeights ?mk_ByWeights ?kc_ByWeights ?nl_ByWeights ?ka_ByWeights ?cl_ByWeights ?mr_ByWeights ?nw_ByWeights ?sgO ?rdO ?win ?tt1 ?tt2 ?tt3 ?tt4 ?tt5 ?tt6 ?tt9 ?nn ?ini ?lI ?kI ?pI ?fnI ?pg_System ?hd_System ?po_System ?sa_System ?mk_System ?kc_System ?no_System ?nr_System ?u1 ?u2 ?u3 ?u4 ?u5 ?u6 ?u9 ?ua ?iniU ?lU ?kU ?pU ?fnU ?v1 ?v2 ?v3 ?v4 ?v5 ?v6 ?v9 ?vi ?sFF ?z1 ?z2 ?z3 ?z4 ?z5 ?z6 ?z9 ?kFF ?kFV ?kFT ?sFE ?fi_order_init ?lo_order_init ?co_order_init ?ke_order_init ?fn_order_init ?fi_order_weight ?lo_order_weight ?co_order_weight ?ke_order_weight ?fn_order_weight ?fi_order_seen ?lo_order_seen ?co_order_seen ?ke_order_seen ?fn_order_seen ?fi_fromright_seen ?lo_fromright_seen ?co_fromright_seen ?ke_fromright_seen ?fn_fromright_seen ?fi_byweights_init ?lo_byweights_init ?co_byweights_init ?ke_byweights_init ?fn_byweights_init ?fi_byweights_weight ?lo_byweights_weight ?co_byweights_weight ?ke_byweights_weight ?fn_byweights_weight ?fi_order_rank ?lo_order_rank ?co_order_rank ?ke_order_rank ?fn_order_rank ?fi_order_before ?lo_order_before ?co_order_before ?ke_order_before ?fn_order_before ?fi_system_init ?lo_system_init ?co_system_init ?ke_system_init ?fn_system_init ?fi_system_rules_told ?lo_system_rules_told ?co_system_rules_told ?ke_system_rules_told ?fn_system_rules_told ?dl_gone ?dl_meets ?dl_unmet ?fcO ?fiR_init ?fiR_weight ?fiW_seen ?fiR_rank ?fiW_rank ?fiR_before ?fiW_before ?b0 ?b1 ?b2 ?b3 ?b4 ?b5 ?b6 ?b7 ?b8 ?b9 ?b10 ?b11 ?b12 ?b13 ?b14 ?b15
  (case a0=>k_is)
  (case l0=>k_is)
  (case k0=>k_is)
  (case p0=>k_is)
  (case a1=>k_is)
  (case l1=>k_is)
  (case k1=>k_is)
  (case p1=>k_is)
  (case a2=>k_is)
  (case l2=>k_is)
  (case k2=>k_is)
  (case p2=>k_is)
  (case a3=>k_is)
  (case l3=>k_is)
  (case k3=>k_is)
  (case p3=>k_is)
  (case a4=>k_is)
  (case l4=>k_is)
  (case k4=>k_is)
  (case p4=>k_is)
  (case a5=>k_is)
  (case l5=>k_is)
  (case k5=>k_is)
  (case p5=>k_is)
  (case a6=>k_is)
  (case l6=>k_is)
  (case k6=>k_is)
  (case p6=>k_is)
  (case a7=>k_is)
  (case l7=>k_is)
  (case k7=>k_is)
  (case p7=>k_is)
  (case a8=>k_is)
  (case l8=>k_is)
  (case k8=>k_is)
  (case p8=>k_is)
  (case a9=>k_is)
  (case l9=>k_is)
  (case k9=>k_is)
  (case p9=>k_is)
  (case a10=>k_is)
  (case l10=>k_is)
  (case k10=>k_is)
  (case p10=>k_is)
  (case a11=>k_is)
  (case l11=>k_is)
  (case k11=>k_is)
  (case p11=>k_is)
  (case a12=>k_is)
  (case l12=>k_is)
  (case k12=>k_is)
  (case p12=>k_is)
  (case a13=>k_is)
  (case l13=>k_is)
  (case k13=>k_is)
  (case p13=>k_is)
  (case a14=>k_is)
  (case l14=>k_is)
  (case k14=>k_is)
  (case p14=>k_is)
  (case a15=>k_is)
  (case l15=>k_is)
  (case k15=>k_is)
  (case p15=>k_is)
  (case a16=>k_is)
  (case l16=>k_is)
  (case k16=>k_is)
  (case p16=>k_is)
  (case a17=>k_is)
  (case l17=>k_is)
  (case k17=>k_is)
  (case p17=>k_is)
  (case a18=>k_is)
  (case l18=>k_is)
  (case k18=>k_is)
  (case p18=>k_is)
  (case a19=>k_is)
  (case l19=>k_is)
  (case k19=>k_is)
  (case p19=>k_is)
  (case a20=>k_is)
  (case l20=>k_is)
  (case k20=>k_is)
  (case p20=>k_is)
  (case a21=>k_is)
  (case l21=>k_is)
  (case k21=>k_is)
  (case p21=>k_is)
  (case a22=>k_is)
  (case l22=>k_is)
  (case k22=>k_is)
  (case p22=>k_is)
  (case a23=>k_is)
  (case l23=>k_is)
  (case k23=>k_is)
  (case p23=>k_is)
  (case a24=>k_is)
  (case l24=>k_is)
  (case k24=>k_is)
  (case p24=>k_is)
  (case a25=>k_is)
  (case l25=>k_is)
  (case k25=>k_is)
  (case p25=>k_is)
  (case a26=>k_is)
  (case l26=>k_is)
  (case k26=>k_is)
  (case p26=>k_is)
  (case a27=>k_is)
  (case l27=>k_is)
  (case k27=>k_is)
  (case p27=>k_is)
  (case a28=>k_is)
  (case l28=>k_is)
  (case k28=>k_is)
  (case p28=>k_is)
  (case a29=>k_is)
  (case l29=>k_is)
  (case k29=>k_is)
  (case p29=>k_is)
  (case a30=>k_is)
  (case l30=>k_is)
  (case k30=>k_is)
  (case p30=>k_is)
  (case a31=>k_is)
  (case l31=>k_is)
  (case k31=>k_is)
  (case p31=>k_is)
  (case a32=>k_is)
  (case l32=>k_is)
  (case k32=>k_is)
  (case p32=>k_is)
  (case a33=>k_is)
  (case l33=>k_is)
  (case k33=>k_is)
  (case p33=>k_is)
  (case a34=>k_is)
  (case l34=>k_is)
  (case k34=>k_is)
  (case p34=>k_is)
  (case g_LetterError=>k_is)
  (case g_NoLetters=>k_is)
  (case g_NoOrder=>k_is)
  (case g_Order=>k_is)
  (case g_FromRight=>k_is)
  (case g_ByWeights=>k_is)
  (case g_NotTurned=>k_is)
  (case g_System=>k_is)
  (case g_NoUse=>k_is)
  (case g_TooFar=>k_is)
  (case kbb=>first | kernel_rfl | rfl)
  (case kt=>first | kernel_rfl | rfl)
  (case ki=>first | kernel_rfl | rfl)
  (case kb=>first | kernel_rfl | rfl)
  (case kl=>first | kernel_rfl | rfl)
  (case x7=>k_is)
  (case x8=>k_is)
  (case x1=>first | kernel_rfl | rfl | decide +kernel)
  (case x2=>k_is)
  (case x3=>k_is)
  (case x4=>k_is)
  (case x5=>k_is)
  (case x6=>k_is)
  (case x9=>k_is)
  (case xi=>k_is)
  (case y1=>first | kernel_rfl | rfl | decide +kernel)
  (case y2=>k_is)
  (case y3=>k_is)
  (case y4=>k_is)
  (case y5=>k_is)
  (case y6=>k_is)
  (case y9=>k_is)
  (case yi=>k_is)
  (case most=>k_is)
  (case mostw=>k_is)
  (case pg_Order=>first | kernel_rfl | rfl | k_is | decide +kernel)
  (case hd_Order=>first | kernel_rfl | rfl | k_is)
  (case po_Order=>first | kernel_rfl | rfl | k_is | decide +kernel)
  (case sa_Order=>k_is)
  (case mk_Order=>first | kernel_rfl | rfl | k_is | decide +kernel)
  (case kc_Order=>k_is)
  (case nl_Order=>k_is)
  (case ka_Order=>first | kernel_rfl | rfl)
  (case cl_Order=>k_is)
  (case mr_Order=>k_is)
  (case pg_FromRight=>first | kernel_rfl | rfl | k_is | decide +kernel)
  (case hd_FromRight=>first | kernel_rfl | rfl | k_is)
  (case po_FromRight=>first | kernel_rfl | rfl | k_is | decide +kernel)
  (case sa_FromRight=>k_is)
  (case mk_FromRight=>first | kernel_rfl | rfl | k_is | decide +kernel)
  (case kc_FromRight=>k_is)
  (case nl_FromRight=>k_is)
  (case ka_FromRight=>first | kernel_rfl | rfl)
  (case cl_FromRight=>k_is)
  (case mr_FromRight=>k_is)
  (case pg_ByWeights=>first | kernel_rfl | rfl | k_is | decide +kernel)
  (case hd_ByWeights=>first | kernel_rfl | rfl | k_is)
  (case po_ByWeights=>first | kernel_rfl | rfl | k_is | decide +kernel)
  (case sa_ByWeights=>k_is)
  (case mk_ByWeights=>first | kernel_rfl | rfl | k_is | decide +kernel)
  (case kc_ByWeights=>k_is)
  (case nl_ByWeights=>k_is)
  (case ka_ByWeights=>first | kernel_rfl | rfl)
  (case cl_ByWeights=>k_is)
  (case mr_ByWeights=>k_is)
  (case nw_ByWeights=>k_is)
  (case sgO=>k_is)
  (case rdO=>first | kernel_rfl | rfl | k_is | decide +kernel)
  (case win=>k_is)
  (case tt1=>first | kernel_rfl | rfl | decide +kernel)
  (case tt2=>k_is)
  (case tt3=>k_is)
  (case tt4=>k_is)
  (case tt5=>k_is)
  (case tt6=>k_is)
  (case tt9=>k_is)
  (case nn=>k_is)
  (case ini=>k_is)
  (case lI=>k_is)
  (case kI=>k_is)
  (case pI=>k_is)
  (case fnI=>first | kernel_rfl | rfl | k_is)
  (case pg_System=>first | kernel_rfl | rfl | k_is | decide +kernel)
  (case hd_System=>first | kernel_rfl | rfl | k_is)
  (case po_System=>first | kernel_rfl | rfl | k_is | decide +kernel)
  (case sa_System=>k_is)
  (case mk_System=>first | kernel_rfl | rfl | k_is | decide +kernel)
  (case kc_System=>k_is)
  (case no_System=>k_is)
  (case nr_System=>k_is)
  (case u1=>first | kernel_rfl | rfl | decide +kernel)
  (case u2=>k_is)
  (case u3=>k_is)
  (case u4=>k_is)
  (case u5=>k_is)
  (case u6=>k_is)
  (case u9=>k_is)
  (case ua=>k_is)
  (case iniU=>k_is)
  (case lU=>k_is)
  (case kU=>k_is)
  (case pU=>k_is)
  (case fnU=>first | kernel_rfl | rfl | k_is)
  (case v1=>first | kernel_rfl | rfl | decide +kernel)
  (case v2=>k_is)
  (case v3=>k_is)
  (case v4=>k_is)
  (case v5=>k_is)
  (case v6=>k_is)
  (case v9=>k_is)
  (case vi=>k_is)
  (case sFF=>k_is)
  (case z1=>first | kernel_rfl | rfl | decide +kernel)
  (case z2=>k_is)
  (case z3=>k_is)
  (case z4=>k_is)
  (case z5=>k_is)
  (case z6=>k_is)
  (case z9=>k_is)
  (case kFF=>first | kernel_rfl | rfl)
  (case kFV=>first | kernel_rfl | rfl)
  (case kFT=>first | kernel_rfl | rfl)
  (case sFE=>k_is)
  (case fi_order_init=>k_is)
  (case lo_order_init=>k_is)
  (case co_order_init=>k_is)
  (case ke_order_init=>k_is)
  (case fn_order_init=>first | kernel_rfl | rfl | k_is)
  (case fi_order_weight=>k_is)
  (case lo_order_weight=>k_is)
  (case co_order_weight=>k_is)
  (case ke_order_weight=>k_is)
  (case fn_order_weight=>first | kernel_rfl | rfl | k_is)
  (case fi_order_seen=>k_is)
  (case lo_order_seen=>k_is)
  (case co_order_seen=>k_is)
  (case ke_order_seen=>k_is)
  (case fn_order_seen=>first | kernel_rfl | rfl | k_is)
  (case fi_fromright_seen=>k_is)
  (case lo_fromright_seen=>k_is)
  (case co_fromright_seen=>k_is)
  (case ke_fromright_seen=>k_is)
  (case fn_fromright_seen=>first | kernel_rfl | rfl | k_is)
  (case fi_byweights_init=>k_is)
  (case lo_byweights_init=>k_is)
  (case co_byweights_init=>k_is)
  (case ke_byweights_init=>k_is)
  (case fn_byweights_init=>first | kernel_rfl | rfl | k_is)
  (case fi_byweights_weight=>k_is)
  (case lo_byweights_weight=>k_is)
  (case co_byweights_weight=>k_is)
  (case ke_byweights_weight=>k_is)
  (case fn_byweights_weight=>first | kernel_rfl | rfl | k_is)
  (case fi_order_rank=>k_is)
  (case lo_order_rank=>k_is)
  (case co_order_rank=>k_is)
  (case ke_order_rank=>k_is)
  (case fn_order_rank=>first | kernel_rfl | rfl | k_is)
  (case fi_order_before=>k_is)
  (case lo_order_before=>k_is)
  (case co_order_before=>k_is)
  (case ke_order_before=>k_is)
  (case fn_order_before=>first | kernel_rfl | rfl | k_is)
  (case fi_system_init=>k_is)
  (case lo_system_init=>k_is)
  (case co_system_init=>k_is)
  (case ke_system_init=>k_is)
  (case fn_system_init=>first | kernel_rfl | rfl | k_is)
  (case fi_system_rules_told=>k_is)
  (case lo_system_rules_told=>k_is)
  (case co_system_rules_told=>k_is)
  (case ke_system_rules_told=>k_is)
  (case fn_system_rules_told=>first | kernel_rfl | rfl | k_is)
  (case dl_gone=>k_is)
  (case dl_meets=>k_is)
  (case dl_unmet=>k_is)
  (case fcO=>k_is)
  (case fiR_init=>k_is)
  (case fiR_weight=>k_is)
  (case fiW_seen=>k_is)
  (case fiR_rank=>k_is)
  (case fiW_rank=>k_is)
  (case fiR_before=>k_is)
  (case fiW_before=>k_is)
  (case b0=>k_is)
  (case b1=>k_is)
  (case b2=>k_is)
  (case b3=>k_is)
  (case b4=>k_is)
  (case b5=>k_is)
  (case b6=>k_is)
  (case b7=>k_is)
  (case b8=>k_is)
  (case b9=>k_is)
  (case b10=>k_is)
  (case b11=>k_is)
  (case b12=>k_is)
  (case b13=>k_is)
  (case b14=>k_is)
  (case b15=>k_is)
#print axioms PySem.Challenge.cw_letterlaw_k45_roads_bounded_holds
