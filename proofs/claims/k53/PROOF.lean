import PyProof.Rows.All
import Wide.All
import OpenK.AllK
import Wide.FinOn
import PyProof.EqAt
import PyProof.EqKinds
import PyProof.NeKinds
import PyProof.TupleCall
import KE.KRevIter
import PyProof.ZipIter
import PyProof.Rows.SetFrom
import PyProof.StrWalks
import PyProof.DictStraight
import PyProof.StrLawsFrom
import PyProof.Rows.StrNews2
import KE.KMinBuiltin
import PyProof.Rows.CallKwBuiltin
import PyProof.Rows.SortShell
import KE.KSortTup
import KE.KBoundM
import KE.KLam
import Lean
import PySem.Challenge.RW_letterlaw_k53_thinned_is_thin
set_option Elab.async false
set_option linter.all false
set_option maxRecDepth 100000
set_option maxHeartbeats 4000000
namespace L2
open PySem PySem.Spec PyProof.Rows
abbrev Key:=Sum Int Str
def QF:Key -> Value -> Bool
 | .inl k,v=>Value.isInt k v
 | .inr x,v=>Value.isStrOf x v
def zay (w:World):Key -> Int
 | .inl k=>hashInt k
 | .inr x=>hashStr w x
theorem z7:∀ {k:Key} {v:Value},QF k v = true -> (∃ i t,k = Sum.inl i /\ v = Value.int i t) \/ (∃ x t,k = Sum.inr x /\ v = Value.str x t)
 | .inl i,v,h=>by
  obtain ⟨t,e⟩:=Value.isInt_shape (k:=i) (v:=v) h
  exact .inl ⟨i,t,rfl,e⟩
 | .inr x,v,h=>by
  obtain ⟨t,e⟩:=Value.isStrOf_shape (x:=x) (v:=v) h
  exact .inr ⟨x,t,rfl,e⟩
theorem QT (a b:Int):decide ((Sum.inl a:Key) = Sum.inl b) = (a == b):=by
 by_cases e:a = b
 ·subst e; simp
 ·have h:¬ (Sum.inl a:Key) = Sum.inl b:=fun q=>e (Sum.inl.inj q)
  rw [decide_eq_false h]
  exact (beq_eq_false_iff_ne.mpr e).symm
theorem Q1 (a b:Str):decide ((Sum.inr a:Key) = Sum.inr b) = decide (a = b):=by
 by_cases e:a = b
 ·subst e; simp
 ·have h:¬ (Sum.inr a:Key) = Sum.inr b:=fun q=>e (Sum.inr.inj q)
  rw [decide_eq_false h,decide_eq_false e]
theorem QR (a:Int) (b:Str):decide ((Sum.inl a:Key) = Sum.inr b) = false:=decide_eq_false (fun q=>nomatch q)
theorem Jv (a:Str) (b:Int):decide ((Sum.inr a:Key) = Sum.inl b) = false:=decide_eq_false (fun q=>nomatch q)
def j4 (prog:Program) (w:World):PySem.KeyKind prog w Key where
 is:=QF
 hash:=zay w
 inj:=fun v a b ha hb=>by
  rcases z7 ha with ⟨i,t,rfl,rfl⟩ | ⟨x,t,rfl,rfl⟩
  ·rcases z7 hb with ⟨j,u,rfl,e⟩ | ⟨y,u,rfl,e⟩
   ·injection e with e1 _; rw [e1]
   ·exact nomatch e
  ·rcases z7 hb with ⟨j,u,rfl,e⟩ | ⟨y,u,rfl,e⟩
   ·exact nomatch e
   ·injection e with e1 _; rw [e1]
 byValue:=fun k v h=>by
  rcases z7 h with ⟨i,t,rfl,rfl⟩ | ⟨x,t,rfl,rfl⟩ <;> rfl
 pyHash:=fun hv h=>by
  rcases z7 hv with ⟨i,t,rfl,rfl⟩ | ⟨x,t,rfl,rfl⟩
  ·exact wpAny_pyHash_int h
  ·exact wpAny_pyHash_str h
 eqBool:=fun hu hv h=>by
  rcases z7 hu with ⟨i,t,rfl,rfl⟩ | ⟨x,t,rfl,rfl⟩
  ·rcases z7 hv with ⟨j,u,rfl,rfl⟩ | ⟨y,u,rfl,rfl⟩
   ·rw [QT] at h; exact wpAny_eqBool_int h
   ·rw [QR] at h; exact SeqAt.EqAt.int_str i t y u _ _ _ _ h
  ·rcases z7 hv with ⟨j,u,rfl,rfl⟩ | ⟨y,u,rfl,rfl⟩
   ·rw [Jv] at h; exact SeqAt.EqAt.str_int x t j u _ _ _ _ h
   ·rw [Q1] at h; exact wpAny_eqBool_str h
 «strs»:=fun k x t v h=>by
  rcases z7 h with ⟨i,u,rfl,e⟩ | ⟨y,u,rfl,e⟩
  ·exact nomatch e
  ·injection e with e1 _
   subst e1
   cases v <;> rfl
end L2
namespace L2
open PySem PySem.Spec PyProof.Rows
inductive V where
 | non | bl (b:Bool) | int (i:Int) | str (x:Str) | byt (b:Array UInt8) | flt (b:UInt64) | ref (a:Addr) | ty (n:String)
 deriving DecidableEq
def RelV:V -> Value -> Prop
 | .non,u=>u = Value.none
 | .bl b,u=>u = Value.bool b
 | .int i,u=>∃ t,u = Value.int i t
 | .str x,u=>∃ t,u = Value.str x t
 | .byt b,u=>∃ t,u = Value.bytes b t
 | .flt b,u=>∃ t,u = Value.float b t
 | .ref a,u=>u = Value.ref a
 | .ty n,u=>u = Value.type n
abbrev Vals:List V -> List Value -> Prop:=Paired RelV
theorem Vals.length {xs:List V} {us:List Value} (r:Vals xs us):xs.length = us.length:=Paired.length r
theorem Vals.get:∀ {xs:List V} {us:List Value} {i:Nat} {x:V},Vals xs us -> xs[i]? = some x -> ∃ u,us[i]? = some u /\ RelV x u
 | _,_,_,_,.nil,e=>by simp at e
 | _,_,0,_,.cons r _,e=>by simp at e; subst e; exact ⟨_,rfl,r⟩
 | _,_,i + 1,x,.cons _ t,e=>by
  obtain ⟨u,h1,h2⟩:=Vals.get (i:=i) (x:=x) t (by simpa using e)
  exact ⟨u,by simpa using h1,h2⟩
theorem Vals.set {x:V} {u:Value} (r:RelV x u):∀ {xs:List V} {us:List Value} (i:Nat),Vals xs us -> Vals (xs.set i x) (us.set i u)
 | _,_,_,.nil=>.nil
 | _,_,0,.cons _ t=>.cons r t
 | _,_,i + 1,.cons q t=>.cons q (Vals.set r i t)
theorem Vals.append:∀ {xs ys:List V} {us ws:List Value},Vals xs us -> Vals ys ws -> Vals (xs ++ ys) (us ++ ws)
 | _,_,_,_,.nil,s=>s
 | _,_,_,_,.cons r t,s=>.cons r (Vals.append t s)
theorem Vals.take:∀ {xs:List V} {us:List Value} (n:Nat),Vals xs us -> Vals (xs.take n) (us.take n)
 | _,_,0,_=>.nil
 | _,_,_ + 1,.nil=>.nil
 | _,_,n + 1,.cons r t=>.cons r (Vals.take n t)
theorem Vals.drop:∀ {xs:List V} {us:List Value} (n:Nat),Vals xs us -> Vals (xs.drop n) (us.drop n)
 | _,_,0,r=>r
 | _,_,_ + 1,.nil=>.nil
 | _,_,n + 1,.cons _ t=>Vals.drop n t
def RelO:Option V -> Option Value -> Prop
 | some v,some u=>RelV v u
 | none,none=>True
 | _,_=>False
def KV {κ:Type}:List (κ × V) -> List (κ × Value) -> Prop:=Paired fun (p:κ × V) (q:κ × Value)=>p.1 = q.1 /\ RelV p.2 q.2
def kV:Key -> V
 | .inl i=>.int i
 | .inr x=>.str x
inductive HO where
  | lst (xs:List V)
  | tup (xs:List V)
  | dK (kvs:List (Key × V)) | dT (kvs:List (List Key × V))
  | set (S:Int -> Bool) (n:Nat)
  | ins (C dx:Addr) (fs:List (Str × V))
  | own (x:Addr)
  | xd (fs:List (Str × V))
  | met (f x:Addr)
  | rng (lo hi:Int)
  | frz (o:Obj) (u:HO)
  | tbl (ps:Array Value)
  | ext (φ:Heap -> Prop)
abbrev Hp:=Addr -> Option HO
def upd (H:Hp) (a:Addr) (o:HO):Hp:=fun b=>if b = a then some o else H b
theorem zd {H:Hp} {a:Addr} {o:HO}:upd H a o a = some o:=by unfold upd; rw [if_pos rfl]
theorem zp {H:Hp} {a b:Addr} {o:HO} (h:b ≠ a):upd H a o b = H b:=by unfold upd; rw [if_neg h]
theorem zE {H:Hp} {a b:Addr} {o:HO} (h:H a = some o) (h':H b = none):a ≠ b:=by
 intro e; subst e; rw [h] at h'; cases h'
section
variable (P:Program) (w:World)
def ObjOk (H:Hp) (h:Heap) (a:Addr):HO -> Prop
 | .lst xs=>xs.length <= sizeLine /\ ∃ (its:List Value) (n:Nat),Vals xs its /\ h.get? a = some { cls:=.type "list",data:=.seq its.toArray n }
 | .tup xs=>xs.length <= sizeLine /\ ∃ its:List Value,Vals xs its /\ IsTup h a its.toArray
 | .dK kvs=>kvs.length <= sizeLine /\ (a == sysModules) = false /\ ∃ vs,KV kvs vs /\ h.DictOf (j4 P w) a vs
 | .dT kvs=>kvs.length <= sizeLine /\ (a == sysModules) = false /\ ∃ xs:List (List Key × Addr × Value),
   Paired (fun (p:List Key × V) (q:List Key × Addr × Value)=>p.1 = q.1 /\ H q.2.1 = some (.tup (p.1.map kV)) /\ RelV p.2 q.2.2) kvs xs /\
   ∃ o es ep,h.get? a = some o /\ o.ExactDict /\ o.data = .dict es ep /\ es.toList = xs.map (entryOfKey (tupleKind (j4 P w))) /\ (xs.map (·.1)).Nodup
 | .set S n=>h.SetOf (intKind P w) a S n
 | .ins C dx fs=>H dx = some (.own a) /\ fs.length <= 1000 /\ dx ≠ a /\ h.get? a = some (PySem.W.instObj C dx) /\
   ∃ mA,h.Ns1 dx mA /\ (∀ f,RelO (fs.lookup f) (mA f)) /\ PySem.Within mA (fs.map (·.1))
 | .own _=>∃ o,h.get? a = some o
 | .xd fs=>∃ mA,h.Ns1 a mA /\ ∀ f,RelO (fs.lookup f) (mA f)
 | .rng lo hi=>∃ t u v,h.get? a = some { cls:=.type "range",data:=.fields #[.int lo t,.int hi u,.int 1 v] }
 | .frz o u=>h.get? a = some o /\ ObjOk H h a u
 | .tbl ps=>h.get? a = some { cls:=.none,data:=.fields ps }
 | .met f x=>h.get? a = some (PySem.W.methodObj (.ref f) (.ref x))
 | .ext φ=>φ h /\ (∃ o,h.get? a = some o) /\ ∀ h1 h2:Heap,φ h1 -> (∀ o,h1.get? a = some o -> h2.get? a = some o) -> φ h2
def HOk (H:Hp) (h:Heap):Prop:=∀ a o,H a = some o -> ObjOk P w H h a o
end
section
variable {P:Program} {w:World} {H H':Hp} {h h':Heap} {a:Addr} {o:HO}
theorem ObjOk.lt (x:ObjOk P w H h a o):a < h.objs.size:=by
 cases o with
 | lst xs=>obtain ⟨_,_,_,_,e⟩:=x; exact Heap.lt_size e
 | tup xs=>obtain ⟨_,_,_,p⟩:=x; exact p.lt
 | dK kvs=>obtain ⟨_,_,_,_,o,_,_,e,_⟩:=x; exact Heap.lt_size e
 | dT kvs=>obtain ⟨_,_,_,_,o,_,_,e,_⟩:=x; exact Heap.lt_size e
 | set S n=>obtain ⟨o,_,_,_,e,_⟩:=x; exact Heap.lt_size e
 | ins C dx fs=>obtain ⟨_,_,_,e,_⟩:=x; exact Heap.lt_size e
 | own y=>obtain ⟨_,e⟩:=x; exact Heap.lt_size e
 | xd fs=>obtain ⟨_,⟨_,_,_,e,_⟩,_⟩:=x; exact Heap.lt_size e
 | rng lo hi=>obtain ⟨_,_,_,e⟩:=x; exact Heap.lt_size e
 | frz ob u=>obtain ⟨e,_⟩:=x; exact Heap.lt_size e
 | tbl ps=>exact Heap.lt_size (show h.get? a = some _ from x)
 | met f y=>exact Heap.lt_size (show h.get? a = some _ from x)
 | ext φ=>obtain ⟨_,⟨_,e⟩,_⟩:=x; exact Heap.lt_size e
theorem Paired.mapP {α β:Type} {F G:α -> β -> Prop}:∀ {l₁:List α} {l₂:List β},Paired F l₁ l₂ -> (∀ a b,F a b -> G a b) -> Paired G l₁ l₂
 | _,_,.nil,_=>.nil
 | _,_,.cons r t,f=>.cons (f _ _ r) (Paired.mapP t f)
theorem ObjOk.stay (x:ObjOk P w H h a o) (k:∀ b u,(b = a \/ H b = some (.own a)) -> h.get? b = some u -> h'.get? b = some u)
  (ho:∀ b,H b = some (.own a) -> H' b = some (.own a)) (ht:∀ b xs,H b = some (.tup xs) -> H' b = some (.tup xs)):ObjOk P w H' h' a o:=by
 induction o with
 | lst xs=>obtain ⟨z,its,n,r,e⟩:=x; exact ⟨z,its,n,r,k _ _ (.inl rfl) e⟩
 | tup xs=>obtain ⟨z,its,r,ob,e,c⟩:=x; exact ⟨z,its,r,ob,k _ _ (.inl rfl) e,c⟩
 | dK kvs=>obtain ⟨z,y,vs,r,ob,es,ep,e,c⟩:=x; exact ⟨z,y,vs,r,ob,es,ep,k _ _ (.inl rfl) e,c⟩
 | dT kvs =>
  obtain ⟨z,y,xs,r,ob,es,ep,e,c⟩:=x
  exact ⟨z,y,xs,Paired.mapP r fun p q z=>⟨z.1,ht _ _ z.2.1,z.2.2⟩,ob,es,ep,k _ _ (.inl rfl) e,c⟩
 | set S n=>obtain ⟨ob,es,ep,t,e,c⟩:=x; exact ⟨ob,es,ep,t,k _ _ (.inl rfl) e,c⟩
 | ins C dx fs =>
  obtain ⟨d,z,ne,e,mA,⟨od,es,ep,e2,c⟩,r⟩:=x
  exact ⟨ho _ d,z,ne,k _ _ (.inl rfl) e,mA,⟨od,es,ep,k _ _ (.inr d) e2,c⟩,r⟩
 | own y=>obtain ⟨ob,e⟩:=x; exact ⟨ob,k _ _ (.inl rfl) e⟩
 | xd fs=>obtain ⟨mA,⟨od,es,ep,e,c⟩,r⟩:=x; exact ⟨mA,⟨od,es,ep,k _ _ (.inl rfl) e,c⟩,r⟩
 | rng lo hi=>obtain ⟨t,u,v,e⟩:=x; exact ⟨t,u,v,k _ _ (.inl rfl) e⟩
 | frz ob u ih=>obtain ⟨e,q⟩:=x; exact ⟨k _ _ (.inl rfl) e,ih q⟩
 | tbl ps =>
  have e:h.get? a = some { cls:=.none,data:=.fields ps }:=x
  show h'.get? a = some { cls:=.none,data:=.fields ps }
  exact k a _ (.inl rfl) e
 | met f y =>
  have e:h.get? a = some (PySem.W.methodObj (.ref f) (.ref y)):=x
  show h'.get? a = some (PySem.W.methodObj (.ref f) (.ref y))
  exact k a _ (.inl rfl) e
 | ext φ=>obtain ⟨p,⟨o,e⟩,st⟩:=x; exact ⟨st _ _ p fun o q=>k _ _ (.inl rfl) q,⟨o,k _ _ (.inl rfl) e⟩,st⟩
theorem HOk.lt (x:HOk P w H h) (e:H a = some o):a < h.objs.size:=(x a o e).lt
theorem HOk.fresh (x:HOk P w H h) (e:h.objs.size <= a):H a = none:=by
 cases q:H a with
 | none=>rfl
 | some u=>exact absurd (Nat.lt_of_lt_of_le (x.lt q) e) (Nat.lt_irrefl _)
theorem HOk.kept (x:HOk P w H h) (k:∀ b u,h.get? b = some u -> h'.get? b = some u):HOk P w H h':=fun a o e =>
 (x a o e).stay (fun b u _ q=>k b u q) (fun _ q=>q) fun _ _ q=>q
theorem HOk.laid (x:HOk P w H h) (k:∀ b u,h.get? b = some u -> h'.get? b = some u) (hp:h.objs.size <= a) (new:ObjOk P w (upd H a o) h' a o):HOk P w (upd H a o) h':=fun b u e=>by
 have hn:=x.fresh hp
 by_cases hb:b = a
 ·subst hb; rw [zd] at e; cases e; exact new
 ·rw [zp hb] at e
  exact (x b u e).stay (fun c v _ q=>k c v q) (fun c q=>by rw [zp (zE q hn)]; exact q) fun c xs q=>by rw [zp (zE q hn)]; exact q
end
def Rd (H:Hp) (a:Addr) (u:HO):Prop:=H a = some u \/ ∃ o,H a = some (.frz o u)
theorem Rd.ok {P:Program} {w:World} {H:Hp} {h:Heap} {a:Addr} {u:HO} (r:Rd H a u) (x:HOk P w H h):ObjOk P w H h a u:=by
 rcases r with r | ⟨o,r⟩
 ·exact x a u r
 ·obtain ⟨_,q⟩:=x a _ r
  exact q
def Mut:Option HO -> Prop
 | some (.lst _)=>True
 | some (.dK _)=>True
 | some (.dT _)=>True
 | some (.set _ _)=>True
 | some (.ins _ _ _)=>True
 | some (.ext _)=>True
 | _=>False
section
variable {P:Program} {w:World} {H:Hp} {h h':Heap} {x e:Addr} {o':HO}
theorem HOk.write (ok:HOk P w H h) (mu:Mut (H x)) (he:e = x \/ H e = some (.own x)) (k:∀ b u,b ≠ e -> h.get? b = some u -> h'.get? b = some u) (heo:∃ u,h'.get? e = some u)
  (new:ObjOk P w (upd H x o') h' x o'):HOk P w (upd H x o') h':=fun b u q=>by
 have nown:∀ c y,H c = some (.own y) -> c ≠ x:=fun c y r z=>by subst z; rw [r] at mu; exact mu
 have ntup:∀ c xs,H c = some (.tup xs) -> c ≠ x:=fun c xs r z=>by subst z; rw [r] at mu; exact mu
 by_cases hb:b = x
 ·subst hb; rw [zd] at q; cases q; exact new
 ·rw [zp hb] at q
  by_cases hbe:b = e
  ·have q':H b = some (.own x):=by
    rcases he with z | z
    ·exact absurd (hbe.trans z) hb
    ·rw [hbe]; exact z
   rw [q] at q'; cases q'
   obtain ⟨v,hv⟩:=heo
   exact ⟨v,by rw [hbe]; exact hv⟩
  ·refine (ok b u q).stay (fun c v hc r=>k c v ?_ r) (fun c r=>by rw [zp (nown c b r)]; exact r) fun c xs r=>by rw [zp (ntup c xs r)]; exact r
   rcases hc with rfl | hc
   ·exact hbe
   ·rintro rfl
    rcases he with z | z
    ·exact nown c b hc z
    ·rw [hc] at z; cases z; exact hb rfl
end
structure Un (fs ex:List Addr) (H H':Hp) (h h':Heap):Prop where
 keep:∀ b o,h.get? b = some o -> H b = none -> b ∉ fs -> b ∉ ex -> h'.get? b = some o
 slot:∀ b o,h.get? b = some o -> H b = none -> b ∈ fs -> b ∉ ex -> ∃ sl,h'.get? b = some { o with slots:=sl }
 free:∀ b o,h.get? b = some o -> H b = none -> b ∉ ex -> H' b = none
 there:∀ b o,h.get? b = some o -> b ∉ ex -> ∃ o',h'.get? b = some o'
 tups:∀ b xs,H b = some (.tup xs) -> H' b = some (.tup xs)
 frzs:∀ b o u,H b = some (.frz o u) -> H' b = some (.frz o u)
 tbls:∀ b ps,H b = some (.tbl ps) -> ∃ more,H' b = some (.tbl (ps ++ more))
section
variable {fs fs' ex ex':List Addr} {H H1 H2:Hp} {h h1 h2 h':Heap} {a x e:Addr} {o:HO}
theorem Un.any (u:Un fs ex H H1 h h1) {b:Addr} {ob:Obj} (q:h.get? b = some ob) (n:H b = none) (hx:b ∉ ex):∃ sl,h1.get? b = some { ob with slots:=sl }:=by
 by_cases hb:b ∈ fs
 ·exact u.slot b ob q n hb hx
 ·exact ⟨ob.slots,u.keep b ob q n hb hx⟩
theorem Un.kept (k:∀ b u,h.get? b = some u -> h'.get? b = some u):Un fs ex H H h h' :=
 ⟨fun b ob q _ _ _=>k b ob q,fun b ob q _ _ _=>⟨ob.slots,k b ob q⟩,fun _ _ _ n _=>n,fun b ob q _=>⟨ob,k b ob q⟩,fun _ _ q=>q,fun _ _ _ q=>q,fun _ ps q=>⟨#[],by rw [q]; simp⟩⟩
theorem Un.refl:Un fs ex H H h h:=Un.kept fun _ _ q=>q
theorem Un.laid (k:∀ b u,h.get? b = some u -> h'.get? b = some u) (hp:h.objs.size <= a) (hn:H a = none):Un fs ex H (upd H a o) h h' where
 keep:=fun b u q _ _ _=>k b u q
 slot:=fun b u q _ _ _=>⟨u.slots,k b u q⟩
 free:=fun b u q n _=>by rw [zp (Nat.ne_of_lt (Nat.lt_of_lt_of_le (Heap.lt_size q) hp))]; exact n
 there:=fun b u q _=>⟨u,k b u q⟩
 tups:=fun b xs q=>by rw [zp (zE q hn)]; exact q
 frzs:=fun b u xs q=>by rw [zp (zE q hn)]; exact q
 tbls:=fun b ps q=>⟨#[],by rw [zp (zE q hn),q]; simp⟩
theorem Un.write (mu:Mut (H x)) (he:e = x \/ H e = some (.own x)) (k:∀ b u,b ≠ e -> h.get? b = some u -> h'.get? b = some u) (heo:∃ u,h'.get? e = some u):Un fs ex H (upd H x o) h h':=by
 have hx:∀ b,H b = none -> b ≠ x:=fun b n z=>by subst z; rw [n] at mu; exact mu
 have hb:∀ b,H b = none -> b ≠ e:=fun b n z=>by
  subst z
  rcases he with r | r
  ·exact hx b n r
  ·rw [n] at r; cases r
 have hm:∀ b u,H b = some u -> ¬ Mut (some u) -> b ≠ x:=fun b u q nm z=>by subst z; rw [q] at mu; exact nm mu
 refine ⟨fun b u q n _ _=>k b u (hb b n) q,fun b u q n _ _=>⟨u.slots,k b u (hb b n) q⟩,fun b u q n _=>by rw [zp (hx b n)]; exact n,fun b u q _=>?_,
  fun b xs q=>by rw [zp (hm b _ q fun z=>z)]; exact q,fun b u xs q=>by rw [zp (hm b _ q fun z=>z)]; exact q,fun b ps q=>⟨#[],by rw [zp (hm b _ q fun z=>z),q]; simp⟩⟩
 by_cases hbe:b = e
 ·subst hbe; exact heo
 ·exact ⟨u,k b u hbe q⟩
end
def trk (h:Heap) (H:Hp):List Addr:=(List.range h.objs.size).filter fun a=>(H a).isSome
def Y7 (h:Heap) (H:Hp):Heap:=PySem.W.hideAll h (trk h H)
theorem Yy (h:Heap) (H:Hp):(Y7 h H).objs.size = h.objs.size:=PySem.W.hideAll_size _ _
theorem kN {h:Heap} {H:Hp} {b:Addr} {o:Obj} (e:h.get? b = some o) (n:H b = none):(Y7 h H).get? b = some o :=
 PySem.W.hideAll_get _ e fun hm=>by
  have q:(H b).isSome = true:=(List.mem_filter.mp hm).2
  rw [n] at q; simp at q
theorem Ua {h:Heap} {H:Hp} {b:Addr} {o:Obj} (e:(Y7 h H).get? b = some o):h.get? b = some o /\ H b = none:=by
 have e':h.get? b = some o:=PySem.W.of_hideAll (trk h H) e
 refine ⟨e',?_⟩
 cases q:H b with
 | none=>rfl
 | some x =>
  have hm:b ∈ trk h H:=List.mem_filter.mpr ⟨List.mem_range.mpr (Heap.lt_size e'),by simp [q]⟩
  have z:(Y7 h H).get? b = none:=PySem.W.hideAll_none (trk h H) hm
  rw [z] at e; cases e
def UA (g h:Heap) (L:Addr):List (Addr × Obj):=(List.range h.objs.size).filterMap fun a=>if a = L \/ (g.get? a).isSome = true then none else (h.get? a).map fun o=>(a,o)
def rest (g h:Heap) (L d:Addr):List (Addr × Obj):=(UA g h L).filter fun p=>decide (p.1 ≠ d)
end L2
namespace L2
open PySem PySem.Spec PyProof.Rows
structure Mod (K:PySem.W.Frag) (mg:Str -> Option Value) (base:Heap):Prop where
 kin:K.In base
 glob:base.Ns mainGlobals mg
 blt:∃ mb,base.Ns builtinsNs mb /\ ∀ x:Str,x ≠ "__name__" -> mb x = bootBuiltins x
 nolimit:base.NoLimit
structure Cx where
 prog:Program
 w:World
 K:PySem.W.Frag
 mg:Str -> Option Value
 base:Heap
 A:Around
 N:List Str
 s₀:Shared
 H₀:Hp
 env:Env
 outer:List Env
 stack:List Env
 ex:List Addr
 fn:Str -> Bool
 calm:Bool
 pn:List (Addr × Obj)
 xe:Value -> Shared -> Prop
def frs (l:List Env):List Addr:=l.filterMap (·.frame)
abbrev Cx.fs (X:Cx):List Addr:=frs X.outer
def Vis (sc:Scope) (x:Str):Prop:=sc.names.lookup x = some .local \/ sc.names.lookup x = some .cell \/ sc.names.lookup x = some .free
def Loc (sc:Scope) (x:Str):Prop:=sc.names.lookup x = some .local \/ sc.names.lookup x = some .cell
def zam (env:Env) (h:Heap) (m:Str -> Option Value) (x:Str) (u:Value):Prop :=
 (env.kindOf x = some .local /\ m x = some u) \/ ((env.kindOf x = some .cell \/ env.kindOf x = some .free) /\ ∃ c,env.cells.lookup x = some c /\ h.IsCell c (some u))
structure Cx.Ok (X:Cx):Prop where
 mod:Mod X.K X.mg X.base
 kind:X.env.scope.kind = .function
 glob:X.env.globals = mainGlobals
 blt:X.env.builtins = builtinsNs
 above:X.s₀.heap.objs.size <= X.env.locals
 inj:∀ x y c,X.env.cells.lookup x = some c -> X.env.cells.lookup y = some c -> x = y
 has:∀ x,(X.env.kindOf x = some .cell \/ X.env.kindOf x = some .free) -> ∃ c,X.env.cells.lookup x = some c
 cab:∀ x c,X.fn x = true -> X.env.cells.lookup x = some c -> X.s₀.heap.objs.size <= c
 hd:X.calm = true -> X.A.handled = none
 frames:X.A.frames = some X.stack
 stk:X.stack = X.outer \/ (X.stack = X.env :: X.outer /\ X.env.frame = some X.env.locals)
 exf:∀ b ∈ X.ex,b ≠ X.env.locals /\ ∀ x c,X.env.cells.lookup x = some c -> c ≠ b
 bs:∀ b o,X.base.get? b = some o -> X.s₀.heap.get? b = some o /\ X.H₀ b = none
 bsz:X.base.objs.size <= X.s₀.heap.objs.size
 noex:∀ b o,X.base.get? b = some o -> b ∉ X.ex
 exfs:∀ b ∈ X.ex,b ∉ X.fs
 funs:X.s₀.heap.FunFrames X.base X.outer
 frf:∀ b ∈ X.fs,X.H₀ b = none
structure Inv (X:Cx) (pins:List (Addr × Obj)) (σ:List (Option V)) (H:Hp) (s:Shared):Prop where
 ok:X.Ok
 os:s.os = X.s₀.os
 bare:AllBare s.gens
 base:Un X.fs X.ex X.H₀ H X.s₀.heap s.heap
 loc:∃ m,s.heap.Ns X.env.locals m /\ ∀ (i:Nat) (x:Str) (v:V),X.N[i]? = some x -> σ[i]? = some (some v) -> Vis X.env.scope x -> ∃ u,RelV v u /\ zam X.env s.heap m x u
 cell:∀ x c,X.env.cells.lookup x = some c -> ∃ v,s.heap.IsCell c v
 free:H X.env.locals = none
 freeC:∀ x c,X.env.cells.lookup x = some c -> H c = none
 pin:∀ p ∈ X.pn ++ pins,s.heap.get? p.1 = some p.2 /\ H p.1 = none /\ p.1 ≠ X.env.locals /\ p.1 ∉ X.fs /\ ∀ v,p.2.data ≠ .cell v
 hok:HOk X.prog X.w H s.heap
 len:σ.length = X.N.length
section
variable {X:Cx} {pins:List (Addr × Obj)} {σ:List (Option V)} {H H':Hp} {s:Shared} {h':Heap}
theorem Cx.Ok.nofr (ok:X.Ok) {b:Addr} {o:Obj} (e:X.base.get? b = some o):b ∉ X.fs:=fun hb=>by
 have:=(ok.funs.mem hb).1
 rw [e] at this; cases this
theorem Inv.bs (I:Inv X pins σ H s):∀ b o,X.base.get? b = some o -> s.heap.get? b = some o /\ H b = none:=fun b o e =>
 ⟨I.base.keep b o (I.ok.bs b o e).1 (I.ok.bs b o e).2 (I.ok.nofr e) (I.ok.noex b o e),I.base.free b o (I.ok.bs b o e).1 (I.ok.bs b o e).2 (I.ok.noex b o e)⟩
theorem Inv.bk (I:Inv X pins σ H s):∀ b o,X.base.get? b = some o -> s.heap.get? b = some o:=fun b o e=>(I.bs b o e).1
theorem Inv.mod (I:Inv X pins σ H s):Mod X.K X.mg X.base:=I.ok.mod
theorem Inv.kIn (I:Inv X pins σ H s):X.K.In s.heap:=I.ok.mod.kin.keeps I.bk
theorem Inv.nolimit (I:Inv X pins σ H s):s.heap.NoLimit:=I.ok.mod.nolimit.keeps I.bk
theorem Inv.fr (I:Inv X pins σ H s):∃ m,Fr X.base X.env.locals s.heap m :=
 let ⟨m,hn,_⟩:=I.loc
 ⟨m,hn,I.bk,Nat.le_trans I.ok.bsz I.ok.above⟩
theorem Inv.lt (I:Inv X pins σ H s):X.env.locals < s.heap.objs.size:=let ⟨_,hn,_⟩:=I.loc; hn.lt
theorem Inv.sz (I:Inv X pins σ H s):X.s₀.heap.objs.size <= s.heap.objs.size:=Nat.le_trans I.ok.above (Nat.le_of_lt I.lt)
theorem Inv.nofs (I:Inv X pins σ H s) {a:Addr} (h:s.heap.objs.size <= a):a ∉ X.fs:=fun hb=>by
 obtain ⟨_,o,ho,_⟩:=I.ok.funs.mem hb
 exact absurd (Nat.lt_of_lt_of_le (Heap.lt_size ho) (Nat.le_trans I.sz h)) (Nat.lt_irrefl _)
theorem Inv.cne (I:Inv X pins σ H s):∀ x c,X.env.cells.lookup x = some c -> c ≠ X.env.locals:=fun x c e z=>by
 obtain ⟨v,o,ho,hd⟩:=I.cell x c e
 obtain ⟨m,⟨o',es,ep,ho',hd',_⟩,_⟩:=I.loc
 rw [z,ho'] at ho; cases ho; rw [hd'] at hd; cases hd
theorem Inv.funs (I:Inv X pins σ H s):s.heap.FunFrames X.base X.outer:=by
 have all:∀ (l:List Env),(∀ b ∈ frs l,b ∈ X.fs) -> X.s₀.heap.FunFrames X.base l -> s.heap.FunFrames X.base l:=by
  intro l
  induction l with
  | nil=>intro _ _; trivial
  | cons env r ih =>
   intro hs hl
   obtain ⟨hk,⟨L,o,hf,hn,ho,hd⟩,hr⟩:=hl
   have hL:L ∈ X.fs:=hs L (by unfold frs; rw [List.filterMap_cons,hf]; exact List.mem_cons_self)
   obtain ⟨sl,e⟩:=I.base.slot L o ho (I.ok.frf L hL) hL fun z=>I.ok.exfs L z hL
   exact ⟨hk,⟨L,_,hf,hn,e,hd⟩,ih (fun b hb=>hs b (by unfold frs; rw [List.filterMap_cons,hf]; exact List.mem_cons_of_mem _ hb)) hr⟩
 exact all X.outer (fun _ hb=>hb) I.ok.funs
theorem Inv.stack (I:Inv X pins σ H s):s.heap.FunFrames X.base X.stack:=by
 rcases I.ok.stk with e | ⟨e,hf⟩
 ·rw [e]; exact I.funs
 ·rw [e]
  obtain ⟨m,hn,_⟩:=I.loc
  refine .cons (by rw [I.ok.kind]; decide) hf hn ?_ I.funs
  exact Heap.get?_none_of_le (Nat.le_trans I.ok.bsz I.ok.above)
theorem Inv.stkSub (I:Inv X pins σ H s):∀ b ∈ frs X.stack,b ∈ X.env.locals :: X.fs:=fun b hb=>by
 rcases I.ok.stk with e | ⟨e,hf⟩
 ·rw [e] at hb; exact List.mem_cons_of_mem _ hb
 ·rw [e] at hb
  unfold frs at hb
  rw [List.filterMap_cons,hf] at hb
  exact hb
theorem Inv.stkFree (I:Inv X pins σ H s):∀ b ∈ frs X.stack,H b = none:=fun b hb=>by
 rcases List.mem_cons.mp (I.stkSub b hb) with e | hb
 ·rw [e]; exact I.free
 ·obtain ⟨_,o,ho,_⟩:=I.ok.funs.mem hb
  exact I.base.free b o ho (I.ok.frf b hb) fun z=>I.ok.exfs b z hb
theorem Inv.step {g':Array GenState} {t':Nat} {d':Drawn} {ch:List Addr} (I:Inv X pins σ H s)
  (hch:∀ b ∈ ch,(b ∈ X.ex \/ X.s₀.heap.objs.size <= b) /\ b ≠ X.env.locals /\ (∀ x c,X.env.cells.lookup x = some c -> c ≠ b) /\ ∀ p ∈ X.pn ++ pins,p.1 ≠ b)
  (keep:∀ b o,b ≠ X.env.locals -> b ∉ X.fs -> b ∉ ch -> s.heap.get? b = some o -> H b = none -> h'.get? b = some o)
  (slot:∀ b o,b ≠ X.env.locals -> b ∈ X.fs -> b ∉ ch -> s.heap.get? b = some o -> H b = none -> ∃ sl,h'.get? b = some { o with slots:=sl }) (free:∀ b o,b ∉ ch -> s.heap.get? b = some o -> H b = none -> H' b = none)
  (there:∀ b o,b ∉ ch -> s.heap.get? b = some o -> ∃ o',h'.get? b = some o')
  (tups:∀ b xs,H b = some (.tup xs) -> H' b = some (.tup xs)) (frzs:∀ b o u,H b = some (.frz o u) -> H' b = some (.frz o u)) (tbls:∀ b ps,H b = some (.tbl ps) -> ∃ more,H' b = some (.tbl (ps ++ more)))
  (ns:∀ m,s.heap.Ns X.env.locals m -> h'.Ns X.env.locals m) (hok:HOk X.prog X.w H' h') (hg:AllBare g') :
  Inv X pins σ H' { s with heap:=h',gens:=g',drawn:=d',toks:=t' }:=by
 have neL:∀ b o,X.s₀.heap.get? b = some o -> b ≠ X.env.locals:=fun b o e=>Nat.ne_of_lt (Nat.lt_of_lt_of_le (Heap.lt_size e) I.ok.above)
 have neC:∀ b o,X.s₀.heap.get? b = some o -> b ∉ X.ex -> b ∉ ch:=fun b o e hx hb=>by
  rcases (hch b hb).1 with z | z
  ·exact hx z
  ·exact absurd (Nat.lt_of_lt_of_le (Heap.lt_size e) z) (Nat.lt_irrefl _)
 have cellK:∀ x c,X.env.cells.lookup x = some c -> ∀ v,s.heap.IsCell c v -> h'.IsCell c v:=fun x c e v ⟨o,ho,hd⟩=>by
  have nch:c ∉ ch:=fun z=>(hch c z).2.2.1 x c e rfl
  by_cases hc:c ∈ X.fs
  ·obtain ⟨sl,q⟩:=slot c o (I.cne x c e) hc nch ho (I.freeC x c e)
   exact ⟨_,q,hd⟩
  ·exact ⟨o,keep c o (I.cne x c e) hc nch ho (I.freeC x c e),hd⟩
 refine ⟨I.ok,I.os,hg,⟨fun b o e n hb hx=>?_,fun b o e n hb hx=>?_,fun b o e n hx=>?_,fun b o e hx=>?_,fun b xs e=>tups b xs (I.base.tups b xs e),fun b o xs e=>frzs b o xs (I.base.frzs b o xs e),fun b ps e=>?_⟩,?_,fun x c e=>?_,?_,fun x c e=>?_,fun p hp=>?_,hok,I.len⟩
 ·exact keep b o (neL b o e) hb (neC b o e hx) (I.base.keep b o e n hb hx) (I.base.free b o e n hx)
 ·obtain ⟨sl,e1⟩:=I.base.slot b o e n hb hx
  obtain ⟨sl',e2⟩:=slot b _ (neL b o e) hb (neC b o e hx) e1 (I.base.free b o e n hx)
  exact ⟨sl',e2⟩
 ·obtain ⟨o',e1⟩:=I.base.there b o e hx
  exact free b o' (neC b o e hx) e1 (I.base.free b o e n hx)
 ·obtain ⟨o',e1⟩:=I.base.there b o e hx
  exact there b o' (neC b o e hx) e1
 ·obtain ⟨m1,e1⟩:=I.base.tbls b ps e
  obtain ⟨m2,e2⟩:=tbls b _ e1
  exact ⟨m1 ++ m2,by rw [e2,Array.append_assoc]⟩
 ·obtain ⟨m,hn,hl⟩:=I.loc
  refine ⟨m,ns m hn,fun i x v e1 e2 e3=>?_⟩
  obtain ⟨u,r,l⟩:=hl i x v e1 e2 e3
  refine ⟨u,r,?_⟩
  rcases l with l | ⟨k,c,e,z⟩
  ·exact .inl l
  ·exact .inr ⟨k,c,e,cellK x c e _ z⟩
 ·obtain ⟨v,z⟩:=I.cell x c e
  exact ⟨v,cellK x c e v z⟩
 ·obtain ⟨m,⟨o,_,_,ho,_⟩,_⟩:=I.loc
  exact free _ o (fun z=>(hch _ z).2.1 rfl) ho I.free
 ·obtain ⟨v,o,ho,hd⟩:=I.cell x c e
  exact free c o (fun z=>(hch c z).2.2.1 x c e rfl) ho (I.freeC x c e)
 ·obtain ⟨e,n,ne,nf,d⟩:=I.pin p hp
  have nch:p.1 ∉ ch:=fun z=>(hch p.1 z).2.2.2 p hp rfl
  exact ⟨keep p.1 p.2 ne nf nch e n,free p.1 p.2 nch e n,ne,nf,d⟩
theorem Inv.un {t':Nat} (I:Inv X pins σ H s) (u:Un X.fs [] H H' s.heap h') (hok:HOk X.prog X.w H' h'):Inv X pins σ H' { s with heap:=h',toks:=t' }:=by
 obtain ⟨m,⟨o,es,ep,ho,r⟩,_⟩:=id I.loc
 obtain ⟨sl,hL⟩:=u.any ho I.free (by simp)
 exact I.step (g':=s.gens) (d':=s.drawn) (ch:=[]) (fun _ z=>nomatch z) (fun b o _ hb _ e n=>u.keep b o e n hb (by simp)) (fun b o _ hb _ e n=>u.slot b o e n hb (by simp)) (fun b o _ e n=>u.free b o e n (by simp)) (fun b o _ e=>u.there b o e (by simp)) u.tups u.frzs u.tbls (fun m' hm=>by
  obtain ⟨o',es',ep',ho',r'⟩:=hm
  rw [ho] at ho'; cases ho'
  exact ⟨_,es',ep',hL,r'⟩) hok I.bare
theorem Inv.call {g':Array GenState} {t':Nat} {d':Drawn} {ch:List Addr} (I:Inv X pins σ H s) (u:Un (frs X.stack) ch H H' s.heap h') (hok:HOk X.prog X.w H' h') (hg:AllBare g')
  (hch:∀ b ∈ ch,(b ∈ X.ex \/ X.s₀.heap.objs.size <= b) /\ b ≠ X.env.locals /\ (∀ x c,X.env.cells.lookup x = some c -> c ≠ b) /\ ∀ p ∈ X.pn ++ pins,p.1 ≠ b) :
  Inv X pins σ H' { s with heap:=h',gens:=g',drawn:=d',toks:=t' }:=by
 obtain ⟨m,⟨o,es,ep,ho,r⟩,_⟩:=id I.loc
 obtain ⟨sl,hL⟩:=u.any ho I.free fun z=>(hch _ z).2.1 rfl
 exact I.step (ch:=ch) hch (fun b o hL hb hc e n=>u.keep b o e n (fun z=>(List.mem_cons.mp (I.stkSub b z)).elim hL hb) hc) (fun b o _ _ hc e n=>u.any e n hc) (fun b o hc e n=>u.free b o e n hc) (fun b o hc e=>u.there b o e hc) u.tups u.frzs u.tbls (fun m' hm=>by
  obtain ⟨o',es',ep',ho',r'⟩:=hm
  rw [ho] at ho'; cases ho'
  exact ⟨_,es',ep',hL,r'⟩) hok hg
theorem Inv.turned {t':Nat} {it:Addr} (I:Inv X pins σ H s) (k:∀ b o,b ≠ it -> s.heap.get? b = some o -> h'.get? b = some o) (hn:H it = none) (hL:it ≠ X.env.locals)
  (h1:it ∈ X.ex \/ X.s₀.heap.objs.size <= it) (h2:∀ x c,X.env.cells.lookup x = some c -> c ≠ it) (h3:∀ p ∈ X.pn ++ pins,p.1 ≠ it):Inv X pins σ H { s with heap:=h',toks:=t' }:=by
 have nit:∀ b u,H b = some u -> b ≠ it:=fun b u e z=>by rw [z,hn] at e; cases e
 refine I.step (g':=s.gens) (d':=s.drawn) (ch:=[it]) (fun b hb=>?_) (fun b o _ _ hc e _=>k b o (fun z=>hc (by simp [z])) e) (fun b o _ _ hc e _=>⟨o.slots,k b o (fun z=>hc (by simp [z])) e⟩) (fun _ _ _ _ n=>n)
  (fun b o hc e=>⟨o,k b o (fun z=>hc (by simp [z])) e⟩) (fun _ _ e=>e) (fun _ _ _ e=>e) (fun b ps e=>⟨#[],by rw [e]; simp⟩) (fun m hm=>?_) (fun b u e=>?_) I.bare
 ·have e:b = it:=by simpa using hb
  subst e
  exact ⟨h1,hL,h2,h3⟩
 ·obtain ⟨o,es,ep,ho,r⟩:=hm
  exact ⟨o,es,ep,k _ o (Ne.symm hL) ho,r⟩
 ·refine (I.hok b u e).stay (fun c v hc q=>k c v ?_ q) (fun _ q=>q) fun _ _ q=>q
  rcases hc with z | z
  ·rw [z]; exact nit b u e
  ·exact nit c _ z
theorem Inv.tok (I:Inv X pins σ H s) (t:Nat):Inv X pins σ H { s with toks:=t }:=I.un (h':=s.heap) (t':=t) Un.refl I.hok
theorem Inv.kept {t':Nat} (I:Inv X pins σ H s) (k:∀ b u,s.heap.get? b = some u -> h'.get? b = some u):Inv X pins σ H { s with heap:=h',toks:=t' }:=I.un (Un.kept k) (I.hok.kept k)
theorem Inv.laid {a:Addr} {o:HO} {t':Nat} (I:Inv X pins σ H s) (k:∀ b u,s.heap.get? b = some u -> h'.get? b = some u) (hp:s.heap.objs.size <= a) (new:ObjOk X.prog X.w (upd H a o) h' a o) :
  Inv X pins σ (upd H a o) { s with heap:=h',toks:=t' }:=I.un (Un.laid k hp (I.hok.fresh hp)) (I.hok.laid k hp new)
theorem Inv.write {x e:Addr} {o:HO} {t':Nat} (I:Inv X pins σ H s) (mu:Mut (H x)) (he:e = x \/ H e = some (.own x)) (k:∀ b u,b ≠ e -> s.heap.get? b = some u -> h'.get? b = some u) (heo:∃ u,h'.get? e = some u)
  (new:ObjOk X.prog X.w (upd H x o) h' x o):Inv X pins σ (upd H x o) { s with heap:=h',toks:=t' }:=I.un (Un.write mu he k heo) (I.hok.write mu he k heo new)
theorem Inv.weak {σ':List (Option V)} (I:Inv X pins σ H s) (hl:σ'.length = σ.length) (w:∀ (i:Nat) v,σ'[i]? = some (some v) -> σ[i]? = some (some v)):Inv X pins σ' H s :=
 ⟨I.ok,I.os,I.bare,I.base,let ⟨m,hn,hl'⟩:=I.loc; ⟨m,hn,fun i x v e1 e2 e3=>hl' i x v e1 (w i v e2) e3⟩,I.cell,I.free,I.freeC,I.pin,I.hok,hl.trans I.len⟩
theorem Inv.pins_of {pins':List (Addr × Obj)} (I:Inv X pins σ H s) (h:∀ p ∈ pins',s.heap.get? p.1 = some p.2 /\ H p.1 = none /\ p.1 ≠ X.env.locals /\ p.1 ∉ X.fs /\ ∀ v,p.2.data ≠ .cell v):Inv X pins' σ H s :=
 ⟨I.ok,I.os,I.bare,I.base,I.loc,I.cell,I.free,I.freeC,fun p hp=>(List.mem_append.mp hp).elim (fun z=>I.pin p (List.mem_append_left _ z)) (h p),I.hok,I.len⟩
theorem Zw {N:List Str} (hN:N.Nodup) {i j:Nat} {x:Str} (a:N[i]? = some x) (b:N[j]? = some x):i = j:=by
 obtain ⟨h1,e1⟩:=List.getElem?_eq_some_iff.mp a
 obtain ⟨h2,e2⟩:=List.getElem?_eq_some_iff.mp b
 exact (List.getElem_inj hN).mp (e1.trans e2.symm)
theorem jJ {M:Model} {A:Around} {E:Value -> Shared -> Prop} {i:Nat} {x:Str} {v:V} {u:Value} {Q:Unit -> Shared -> Prop} (I:Inv X pins σ H s) (hN:X.N.Nodup) (hi:X.N[i]? = some x) (hx:Loc X.env.scope x) (r:RelV v u)
  (h:∀ s',Inv X pins (σ.set i (some v)) H s' -> (∃ a,Heap.SameBut a s.heap s'.heap /\ (a = X.env.locals \/ X.env.cells.lookup x = some a)) -> Q () s') (hf:X.fn x = true \/ X.env.scope.names.lookup x = some .local:=by first | exact .inl rfl | exact .inr rfl | assumption):wpAny M A (storeName X.env x u) Q E s:=by
 obtain ⟨m,hn,hl⟩:=id I.loc
 have hcls:(X.env.scope.kind == .class || (X.env.scope.kind == .module && X.env.locals != X.env.globals)) = false:=by rw [I.ok.kind]; rfl
 have hiσ:i < σ.length:=by rw [I.len]; exact (List.getElem?_eq_some_iff.mp hi).1
 have cne:=I.cne
 have tracked:∀ {a:Addr} {h':Heap},(∃ o,s.heap.get? a = some o /\ H a = none) -> Heap.SameBut a s.heap h' -> HOk X.prog X.w H h':=fun {a h'} ha hs b ob e=>by
  obtain ⟨_,_,hfree⟩:=ha
  refine (I.hok b ob e).stay (fun c w' hc q=>(hs.2 c ?_).trans q) (fun _ q=>q) fun _ _ q=>q
  rintro rfl
  rcases hc with rfl | hc
  ·rw [hfree] at e; cases e
  ·rw [hfree] at hc; cases hc
 rcases hx with hk | hk
 ·refine wpAny_storeName_local hk hn (fun h' hn' hs=>?_) hcls
  obtain ⟨oL,_,_,hoL,_⟩:=id hn
  refine h _ ⟨I.ok,I.os,I.bare,⟨fun b o e n hb hx=>?_,fun b o e n hb hx=>?_,I.base.free,fun b o e hx=>?_,I.base.tups,I.base.frzs,I.base.tbls⟩,⟨_,hn',fun j y v' e1 e2 e3=>?_⟩,fun y c e=>?_,I.free,I.freeC,fun p hp=>?_,tracked ⟨oL,hoL,I.free⟩ hs,by simpa using I.len⟩ ⟨_,hs,.inl rfl⟩
  ·exact (hs.2 b (Nat.ne_of_lt (Nat.lt_of_lt_of_le (Heap.lt_size e) I.ok.above))).trans (I.base.keep b o e n hb hx)
  ·obtain ⟨sl,e1⟩:=I.base.slot b o e n hb hx
   exact ⟨sl,(hs.2 b (Nat.ne_of_lt (Nat.lt_of_lt_of_le (Heap.lt_size e) I.ok.above))).trans e1⟩
  ·obtain ⟨o',e1⟩:=I.base.there b o e hx
   exact ⟨o',(hs.2 b (Nat.ne_of_lt (Nat.lt_of_lt_of_le (Heap.lt_size e) I.ok.above))).trans e1⟩
  ·by_cases hj:j = i
   ·subst hj
    rw [hi] at e1; cases e1
    rw [List.getElem?_set_self hiσ] at e2
    cases e2
    exact ⟨u,r,.inl ⟨hk,by simp⟩⟩
   ·rw [List.getElem?_set_ne (Ne.symm hj)] at e2
    obtain ⟨u',r',q⟩:=hl j y v' e1 e2 e3
    refine ⟨u',r',?_⟩
    rcases q with ⟨k,e⟩ | ⟨k,c,e,z⟩
    ·refine .inl ⟨k,?_⟩
     have:y ≠ x:=fun e=>hj (Zw hN e1 (e ▸ hi))
     simp [this,e]
    ·exact .inr ⟨k,c,e,z.sameBut hs (cne y c e)⟩
  ·obtain ⟨w',z⟩:=I.cell y c e
   exact ⟨w',z.sameBut hs (cne y c e)⟩
  ·obtain ⟨e,n,ne,nf,d⟩:=I.pin p hp
   exact ⟨(hs.2 p.1 ne).trans e,n,ne,nf,d⟩
 ·have hfn:X.fn x = true:=by
   rcases hf with z | z
   ·exact z
   ·rw [z] at hk; cases hk
  obtain ⟨c,hc⟩:=I.ok.has x (.inl hk)
  obtain ⟨w',z⟩:=I.cell x c hc
  refine wpAny_storeName_cell I.ok.kind hk hc z (fun h' hc' hs=>?_)
  obtain ⟨oc,hoc,hocd⟩:=id z
  refine h { s with heap:=h' } ⟨I.ok,I.os,I.bare,⟨fun b o e n hb hx=>?_,fun b o e n hb hx=>?_,I.base.free,fun b o e hx=>?_,I.base.tups,I.base.frzs,I.base.tbls⟩,⟨m,hn.sameBut hs (Ne.symm (cne x c hc)),fun j y v' e1 e2 e3=>?_⟩,fun y c' e=>?_,I.free,I.freeC,fun p hp=>?_,tracked ⟨oc,hoc,I.freeC x c hc⟩ hs,by simpa using I.len⟩ ⟨c,hs,.inr hc⟩
  ·exact (hs.2 b (Nat.ne_of_lt (Nat.lt_of_lt_of_le (Heap.lt_size e) (I.ok.cab x c hfn hc)))).trans (I.base.keep b o e n hb hx)
  ·obtain ⟨sl,e1⟩:=I.base.slot b o e n hb hx
   exact ⟨sl,(hs.2 b (Nat.ne_of_lt (Nat.lt_of_lt_of_le (Heap.lt_size e) (I.ok.cab x c hfn hc)))).trans e1⟩
  ·obtain ⟨o',e1⟩:=I.base.there b o e hx
   exact ⟨o',(hs.2 b (Nat.ne_of_lt (Nat.lt_of_lt_of_le (Heap.lt_size e) (I.ok.cab x c hfn hc)))).trans e1⟩
  ·by_cases hj:j = i
   ·subst hj
    rw [hi] at e1; cases e1
    rw [List.getElem?_set_self hiσ] at e2
    cases e2
    exact ⟨u,r,.inr ⟨.inl hk,c,hc,hc'⟩⟩
   ·rw [List.getElem?_set_ne (Ne.symm hj)] at e2
    obtain ⟨u',r',q⟩:=hl j y v' e1 e2 e3
    refine ⟨u',r',?_⟩
    rcases q with q | ⟨k,c',e,z'⟩
    ·exact .inl q
    ·refine .inr ⟨k,c',e,z'.sameBut hs ?_⟩
     rintro rfl
     exact hj (Zw hN e1 (I.ok.inj _ _ _ e hc ▸ hi))
  ·by_cases hcc:c' = c
   ·subst hcc; exact ⟨_,hc'⟩
   ·obtain ⟨w2,z2⟩:=I.cell y c' e
    exact ⟨w2,z2.sameBut hs hcc⟩
  ·obtain ⟨e,n,ne,nf,d⟩:=I.pin p hp
   refine ⟨(hs.2 p.1 ?_).trans e,n,ne,nf,d⟩
   intro q
   rw [q,hoc] at e
   have q':oc = p.2:=Option.some.inj e
   exact d w' (by rw [<- q']; exact hocd)
theorem qZ {M:Model} {A:Around} {E:Value -> Shared -> Prop} {i:Nat} {x:Str} {v:V} {u:Value} {Q:Unit -> Shared -> Prop} (I:Inv X pins σ H s) (hN:X.N.Nodup) (hi:X.N[i]? = some x) (hx:Loc X.env.scope x) (r:RelV v u)
  (h:∀ s',Inv X pins (σ.set i (some v)) H s' -> Q () s') (hf:X.fn x = true \/ X.env.scope.names.lookup x = some .local:=by first | exact .inl rfl | exact .inr rfl | assumption):wpAny M A (storeName X.env x u) Q E s :=
 jJ I hN hi hx r (fun s' I' _=>h s' I') hf
theorem Inv.call' {s':Shared} {ch:List Addr} (I:Inv X pins σ H s) (ho:s'.os = s.os) (u:Un (frs X.stack) ch H H' s.heap s'.heap) (hok:HOk X.prog X.w H' s'.heap) (hg:AllBare s'.gens)
  (hch:∀ b ∈ ch,(b ∈ X.ex \/ X.s₀.heap.objs.size <= b) /\ b ≠ X.env.locals /\ (∀ x c,X.env.cells.lookup x = some c -> c ≠ b) /\ ∀ p ∈ X.pn ++ pins,p.1 ≠ b):Inv X pins σ H' s':=by
 obtain ⟨h',g',d',t',o'⟩:=s'
 have e:o' = s.os:=ho
 subst e
 exact I.call (g':=g') (t':=t') (d':=d') u hok hg hch
end
abbrev XK:=Value -> Option Addr -> Hp -> Prop
abbrev St:=List (Option V)
abbrev VK:=V -> Hp -> Prop
abbrev TE:=St -> Hp -> VK -> Prop
abbrev TT:=St -> Hp -> (Bool -> Hp -> Prop) -> Prop
abbrev TA:=St -> Hp -> (List V -> Hp -> Prop) -> Prop
structure wl where
 nx:St -> Hp -> Prop
 rt:VK
 bk:St -> Hp -> Prop:=fun _ _=>False
 ct:St -> Hp -> Prop:=fun _ _=>False
abbrev TS:=wl -> St -> Hp -> Prop
def EP (X:Cx) (pins:List (Addr × Obj)) (σ:St) (Q:VK) (u:Value) (s':Shared):Prop:=∃ v H',Inv X pins σ H' s' /\ RelV v u /\ Q v H'
def TP (X:Cx) (pins:List (Addr × Obj)) (σ:St) (Q:Bool -> Hp -> Prop) (b:Bool) (s':Shared):Prop:=∃ H',Inv X pins σ H' s' /\ Q b H'
def AP (X:Cx) (pins:List (Addr × Obj)) (σ:St) (Q:List V -> Hp -> Prop) (us:List Value) (s':Shared):Prop:=∃ vs H',Inv X pins σ H' s' /\ Vals vs us /\ Q vs H'
def SP (X:Cx) (pins:List (Addr × Obj)) (D:wl) (f:Flow) (s':Shared):Prop :=
 match f with
 | .next=>∃ σ' H',Inv X pins σ' H' s' /\ D.nx σ' H'
 | .brk=>∃ σ' H',Inv X pins σ' H' s' /\ D.bk σ' H'
 | .cont=>∃ σ' H',Inv X pins σ' H' s' /\ D.ct σ' H'
 | .ret u=>∃ v σ' H',Inv X pins σ' H' s' /\ RelV v u /\ D.rt v H'
def PE (X:Cx) (e:Expr) (t:TE):Prop :=
 ∀ (pins:List (Addr × Obj)) (s:Shared) (σ:St) (H:Hp) (Q:VK),Inv X pins σ H s -> t σ H Q -> wpAny (model X.prog X.w) X.A (eval e X.env) (EP X pins σ Q) X.xe s
def PT (X:Cx) (e:Expr) (t:TT):Prop :=
 ∀ (pins:List (Addr × Obj)) (s:Shared) (σ:St) (H:Hp) (Q:Bool -> Hp -> Prop),Inv X pins σ H s -> t σ H Q -> wpAny (model X.prog X.w) X.A (isTrue e X.env (eval e X.env)) (TP X pins σ Q) X.xe s
def PW (X:Cx) (e:Expr) (t:TT):Prop :=
 ∀ (whole:Sem Value) (pins:List (Addr × Obj)) (s:Shared) (σ:St) (H:Hp) (Q:Bool -> Hp -> Prop),Inv X pins σ H s -> t σ H Q -> wpAny (model X.prog X.w) X.A (isTrue e X.env whole) (TP X pins σ Q) X.xe s
theorem PW.pt {X:Cx} {e:Expr} {t:TT} (h:PW X e t):PT X e t:=h _
def PA (X:Cx) (es:List Expr) (t:TA):Prop :=
 ∀ (pos:Pos) (pins:List (Addr × Obj)) (s:Shared) (σ:St) (H:Hp) (Q:List V -> Hp -> Prop),Inv X pins σ H s -> t σ H Q -> wpAny (model X.prog X.w) X.A (spliced (backTo pos (starEach es X.env))) (AP X pins σ Q) X.xe s
def PS (X:Cx) (st:Stmt) (t:TS):Prop :=
 ∀ (pins:List (Addr × Obj)) (s:Shared) (σ:St) (H:Hp) (D:wl),Inv X pins σ H s -> t D σ H -> wpAny (model X.prog X.w) X.A (exec st X.env) (SP X pins D) X.xe s
def PSs (X:Cx) (st:List Stmt) (t:TS):Prop :=
 ∀ (pins:List (Addr × Obj)) (s:Shared) (σ:St) (H:Hp) (D:wl),Inv X pins σ H s -> t D σ H -> wpAny (model X.prog X.w) X.A (execs st X.env) (SP X pins D) X.xe s
theorem thn {α:Type} {t:Sem α} {Q Q':α -> Shared -> Prop} {M:Model} {A:Around} {E:Value -> Shared -> Prop} {s:Shared} (h:wpAny M A t Q E s) (hQ:∀ a s,Q a s -> Q' a s):wpAny M A t Q' E s:=wpAny_mono h hQ fun _ _ x=>x
end L2
namespace L2
open PySem PySem.Spec PyProof.Rows
section
variable {X:Cx}
theorem bin {a b:Expr} {ta tb:TE} (ha:PE X a ta) (hb:PE X b tb) {pins:List (Addr × Obj)} {s:Shared} {σ:St} {H:Hp} {R:V -> V -> Hp -> Prop} (I:Inv X pins σ H s) (h:ta σ H fun x H1=>tb σ H1 fun y H2=>R x y H2)
  {α:Type} {Q:α -> Shared -> Prop} {f:Value -> Value -> Sem α}
  (hf:∀ v u s2 x y H2,Inv X pins σ H2 s2 -> RelV x v -> RelV y u -> R x y H2 -> wpAny (model X.prog X.w) X.A (f v u) Q X.xe s2) :
  wpAny (model X.prog X.w) X.A (eval a X.env) (fun v s₁=>wpAny (model X.prog X.w) X.A (eval b X.env) (fun u s₂=>wpAny (model X.prog X.w) X.A (f v u) Q X.xe s₂) X.xe s₁) X.xe s:=by
 refine thn (ha pins s σ H _ I h) fun v s1 ⟨x,H1,I1,r1,q1⟩=>?_
 refine thn (hb pins s1 σ H1 _ I1 q1) fun u s2 ⟨y,H2,I2,r2,q2⟩=>?_
 exact hf v u s2 x y H2 I2 r1 r2 q2
def yN (i:Nat):TE:=fun σ H Q=>∃ v,σ[i]? = some (some v) /\ Q v H
def tC (v:V):TE:=fun _ H Q=>Q v H
theorem Jo {i:Nat} {x:Str} {pos:Pos} (hN:X.N[i]? = some x) (hv:Vis X.env.scope x) (hd:(x == ("__debug__" : Str)) = false:=by decide) (hcd:(x == ("__classdict__" : Str)) = false:=by decide):PE X (.Name x pos) (yN i):=by
 intro pins s σ H Q I h
 obtain ⟨v,e,h⟩:=h
 obtain ⟨m,hn,hl⟩:=I.loc
 obtain ⟨u,r,l⟩:=hl i x v hN e hv
 have fin:EP X pins σ Q u s:=⟨v,H,I,r,h⟩
 rcases l with ⟨hk,hm⟩ | ⟨hk,c,hc,hcell⟩
 ·exact wpAny_Name (wpAny_loadName_local I.ok.kind hk hn hm fin) hd
 ·rcases hk with hk | hk
  ·exact wpAny_Name (wpAny_loadName_cell I.ok.kind hk hc hcell fin) hd
  ·exact wpAny_Name (wpAny_loadName_free I.ok.kind hk hc hcell fin hcd) hd
theorem ze {i j pos}:PE X (.Constant (.int i) j pos) (tC (.int i)):=fun _ _ _ H _ I h=>wpAny_Constant_int ⟨.int i,H,I.tok _,⟨_,rfl⟩,h⟩
theorem xb {b j pos}:PE X (.Constant (.bool b) j pos) (tC (.bl b)):=fun _ _ _ H _ I h=>Constant_bool ⟨.bl b,H,I,rfl,h⟩
theorem wv {j pos}:PE X (.Constant .none j pos) (tC .non):=fun _ _ _ H _ I h=>Constant_none ⟨.non,H,I,rfl,h⟩
theorem yY {x j pos}:PE X (.Constant (.str x) j pos) (tC (.str x)):=fun _ _ _ H _ I h=>Calls.Constant_str ⟨.str x,H,I.tok _,⟨_,rfl⟩,h⟩
def Gl (X:Cx) (x:Str):Prop:=X.env.kindOf x = some .globalImplicit
theorem wK {E:Value -> Shared -> Prop} {pins:List (Addr × Obj)} {s:Shared} {σ:St} {H:Hp} {x:Str} {u:Value} {pos:Pos} {Q:Value -> Shared -> Prop} (I:Inv X pins σ H s) (hg:Gl X x) (hm:X.mg x = some u) (h:Q u s)
  (hd:(x == ("__debug__" : Str)) = false:=by decide):wpAny (model X.prog X.w) X.A (eval (.Name x pos) X.env) Q E s :=
 Calls.Name_function_global I.ok.kind hg (Calls.loadGlobal_global (by rw [I.ok.glob]; exact I.mod.glob.keeps I.bk) hm h) hd
theorem wn {E:Value -> Shared -> Prop} {pins:List (Addr × Obj)} {s:Shared} {σ:St} {H:Hp} {x:Str} {u:Value} {pos:Pos} {Q:Value -> Shared -> Prop} (I:Inv X pins σ H s) (hg:Gl X x) (hm:X.mg x = none) (hv:bootBuiltins x = some u) (h:Q u s)
  (hn:x ≠ "__name__":=by decide) (hd:(x == ("__debug__" : Str)) = false:=by decide):wpAny (model X.prog X.w) X.A (eval (.Name x pos) X.env) Q E s:=by
 obtain ⟨mb,h1,h2⟩:=I.mod.blt
 exact Calls.Name_function_global I.ok.kind hg (Calls.loadGlobal_builtin (by rw [I.ok.glob]; exact I.mod.glob.keeps I.bk) hm (by rw [I.ok.blt]; exact h1.keeps I.bk) ((h2 x hn).trans hv) h) hd
theorem xP {x:Str} {v:V} {u:Value} {pos:Pos} (hg:Gl X x) (hm:X.mg x = some u) (r:RelV v u) (hd:(x == ("__debug__" : Str)) = false:=by decide):PE X (.Name x pos) (tC v) :=
 fun _ _ _ H _ I h=>wK I hg hm ⟨v,H,I,r,h⟩ hd
theorem U8 {x:Str} {v:V} {u:Value} {pos:Pos} (hg:Gl X x) (hm:X.mg x = none) (hv:bootBuiltins x = some u) (r:RelV v u) (hn:x ≠ "__name__":=by decide) (hd:(x == ("__debug__" : Str)) = false:=by decide):PE X (.Name x pos) (tC v) :=
 fun _ _ _ H _ I h=>wn I hg hm hv ⟨v,H,I,r,h⟩ hn hd
variable {a b:Expr} {ta tb:TE} {pos:Pos}
variable {tA tB':TT} {rest:List Expr}
def K1 (t u:TT):TT:=fun σ H Q=>t σ H fun c H1=>if c = true then u σ H1 Q else Q false H1
def tOr (t u:TT):TT:=fun σ H Q=>t σ H fun c H1=>if c = true then Q true H1 else u σ H1 Q
def KU (t:TT):TT:=fun σ H Q=>t σ H fun c H1=>Q (!c) H1
theorem Xj (ha:PT X a tA):PW X (.BoolOp .And [a] pos) tA:=by
 intro wh pins s σ H Q I h
 refine isTrue_and (thn (ha pins s σ H Q I h) fun c s1 e=>?_)
 cases c with
 | true=>exact isTrue_and_nil e
 | false=>exact e
theorem vI (ha:PT X a tA):PW X (.BoolOp .Or [a] pos) tA:=by
 intro wh pins s σ H Q I h
 refine isTrue_or (thn (ha pins s σ H Q I h) fun c s1 e=>?_)
 cases c with
 | false=>exact isTrue_or_nil e
 | true=>exact e
theorem VG (ha:PT X a tA) (hb:PW X (.BoolOp .And (b :: rest) pos) tB'):PW X (.BoolOp .And (a :: b :: rest) pos) (K1 tA tB'):=by
 intro wh pins s σ H Q I h
 refine isTrue_and (thn (ha pins s σ H _ I h) fun c s1 ⟨H1,I1,q1⟩=>?_)
 cases c with
 | true=>exact hb wh pins s1 σ H1 Q I1 q1
 | false=>exact ⟨H1,I1,q1⟩
theorem uI (ha:PT X a tA) (hb:PW X (.BoolOp .Or (b :: rest) pos) tB'):PW X (.BoolOp .Or (a :: b :: rest) pos) (tOr tA tB'):=by
 intro wh pins s σ H Q I h
 refine isTrue_or (thn (ha pins s σ H _ I h) fun c s1 ⟨H1,I1,q1⟩=>?_)
 cases c with
 | true=>exact ⟨H1,I1,q1⟩
 | false=>exact hb wh pins s1 σ H1 Q I1 q1
theorem ym (ha:PT X a tA):PT X (.UnaryOp .Not a pos) (KU tA):=by
 intro pins s σ H Q I h
 exact isTrue_not (ha pins s σ H (fun c H1=>Q (!c) H1) I h)
def Jd (ta tb:TE):TE:=fun σ H Q=>ta σ H fun x H1=>∃ c,x = .bl c /\ if c = true then tb σ H1 Q else Q (.bl false) H1
def K4 (ta tb:TE):TE:=fun σ H Q=>ta σ H fun x H1=>∃ c,x = .bl c /\ if c = true then Q (.bl true) H1 else tb σ H1 Q
def Ul (ta:TE):TE:=fun σ H Q=>ta σ H fun x H1=>∃ c,x = .bl c /\ Q (.bl (!c)) H1
theorem Jc {op} {t:TE} (h:PE X a t):PE X (.BoolOp op [a] pos) t:=fun pins s σ H Q I hw=>BoolOp_one (h pins s σ H Q I hw)
theorem Ji (ha:PE X a ta) (hb:PE X (.BoolOp .And (b :: rest) pos) tb):PE X (.BoolOp .And (a :: b :: rest) pos) (Jd ta tb):=by
 intro pins s σ H Q I h
 refine BoolOp_and (thn (ha pins s σ H _ I h) fun v s1 ⟨x,H1,I1,r1,q1⟩=>?_)
 obtain ⟨c,rfl,q1⟩:=q1
 cases r1
 refine wpAny_truthy_bool ?_
 cases c with
 | true=>exact hb pins s1 σ H1 Q I1 q1
 | false=>exact ⟨.bl false,H1,I1,rfl,q1⟩
theorem VS (ha:PE X a ta):PE X (.UnaryOp .Not a pos) (Ul ta):=by
 intro pins s σ H Q I h
 refine UnaryOp_ (thn (ha pins s σ H _ I h) fun v s1 ⟨x,H1,I1,r1,q1⟩=>?_)
 obtain ⟨c,rfl,q1⟩:=q1
 cases r1
 exact not_of (wpAny_truthy_bool ⟨.bl (!c),H1,I1,rfl,q1⟩)
def tIf (t:TT) (ta tb:TE):TE:=fun σ H Q=>t σ H fun c H1=>if c = true then ta σ H1 Q else tb σ H1 Q
theorem Vh {c:Expr} (hc:PT X c tA) (ha:PE X a ta) (hb:PE X b tb):PE X (.IfExp c a b pos) (tIf tA ta tb):=by
 intro pins s σ H Q I h
 refine wpAny_IfExp (thn (hc pins s σ H _ I h) fun d s1 ⟨H1,I1,q1⟩=>?_)
 cases d with
 | true=>exact ha pins s1 σ H1 Q I1 q1
 | false=>exact hb pins s1 σ H1 Q I1 q1
end
end L2
namespace L2
open PySem PySem.Spec PyProof.Rows
def SqL (K:PySem.W.Frag) (H:Hp) (a:Addr) (xs:List V):Prop :=
 Rd H a (.lst xs) \/
  ∃ (o:Obj) (its:Array Value) (n:Nat),K.lookup a = some o /\ o.cls = .type "list" /\ o.dict = none /\ o.data = .seq its n /\ its.size <= sizeLine /\ Vals xs its.toList
def SqT (K:PySem.W.Frag) (H:Hp) (a:Addr) (xs:List V):Prop :=
 Rd H a (.tup xs) \/
  ∃ (o:Obj) (its:Array Value) (n:Nat),K.lookup a = some o /\ o.cls = .type "tuple" /\ o.data = .seq its n /\ its.size <= sizeLine /\ Vals xs its.toList
def zas:Value -> Option V
 | .none=>some .non
 | .bool b=>some (.bl b)
 | .int i _=>some (.int i)
 | .str x _=>some (.str x)
 | .bytes b _=>some (.byt b)
 | .float b _=>some (.flt b)
 | .ref a=>some (.ref a)
 | .type n=>some (.ty n)
 | _=>none
theorem RelV.abs {x:V} {u:Value} (r:RelV x u):zas u = some x:=by
 cases x with
 | non=>cases r; rfl
 | bl _=>cases r; rfl
 | int _=>obtain ⟨t,rfl⟩:=r; rfl
 | str _=>obtain ⟨t,rfl⟩:=r; rfl
 | byt _=>obtain ⟨t,rfl⟩:=r; rfl
 | flt _=>obtain ⟨t,rfl⟩:=r; rfl
 | ref _=>cases r; rfl
 | ty _=>cases r; rfl
theorem RelV.inj {x y:V} {u:Value} (r:RelV x u) (q:RelV y u):x = y:=Option.some.inj (r.abs.symm.trans q.abs)
theorem Vals.inj:∀ {xs ys:List V} {us:List Value},Vals xs us -> Vals ys us -> xs = ys
 | _,_,_,.nil,.nil=>rfl
 | _,_,_,.cons r t,.cons r' t'=>by rw [r.inj r',Vals.inj t t']
section
variable {X:Cx} {pins:List (Addr × Obj)} {σ:St} {H:Hp} {s:Shared} {a:Addr} {xs ys:List V}
theorem SqL.of {K:PySem.W.Frag} (h:H a = some (.lst xs)):SqL K H a xs:=.inl (.inl h)
theorem SqT.of {K:PySem.W.Frag} (h:H a = some (.tup xs)):SqT K H a xs:=.inl (.inl h)
theorem Inv.list (I:Inv X pins σ H s) (h:SqL X.K H a xs):∃ its:List Value,Vals xs its /\ PlainL s.heap a its.toArray /\ xs.length <= sizeLine:=by
 rcases h with h | ⟨o,its,n,hk,hc,hd,hs,hz,r⟩
 ·obtain ⟨z,its,n,r,e⟩:=h.ok I.hok
  exact ⟨its,r,⟨_,n,e,rfl,rfl,rfl⟩,z⟩
 ·refine ⟨its.toList,r,⟨o,n,I.kIn a o hk,hc,hd,by simpa using hs⟩,?_⟩
  have e:=r.length
  simp only [Array.length_toList] at e
  omega
theorem Inv.tuple (I:Inv X pins σ H s) (h:SqT X.K H a xs):∃ its:List Value,Vals xs its /\ IsTup s.heap a its.toArray /\ xs.length <= sizeLine:=by
 rcases h with h | ⟨o,its,n,hk,hc,hs,hz,r⟩
 ·obtain ⟨z,its,r,p⟩:=h.ok I.hok
  exact ⟨its,r,p,z⟩
 ·refine ⟨its.toList,r,⟨o,I.kIn a o hk,hc,n,by simpa using hs⟩,?_⟩
  have e:=r.length
  simp only [Array.length_toList] at e
  omega
theorem Inv.list_inj (I:Inv X pins σ H s) (h:SqL X.K H a xs) (h':SqL X.K H a ys):xs = ys:=by
 obtain ⟨its,r,⟨o,n,e,_,_,d⟩,_⟩:=I.list h
 obtain ⟨its',r',⟨o',n',e',_,_,d'⟩,_⟩:=I.list h'
 rw [e] at e'; cases e'
 rw [d] at d'
 injection d' with d1 _
 have:its = its':=by simpa using congrArg Array.toList d1
 subst this
 exact r.inj r'
theorem Inv.tuple_inj (I:Inv X pins σ H s) (h:SqT X.K H a xs) (h':SqT X.K H a ys):xs = ys:=by
 obtain ⟨its,r,⟨o,e,_,n,d⟩,_⟩:=I.tuple h
 obtain ⟨its',r',⟨o',e',_,n',d'⟩,_⟩:=I.tuple h'
 rw [e] at e'; cases e'
 rw [d] at d'
 injection d' with d1 _
 have:its = its':=by simpa using congrArg Array.toList d1
 subst this
 exact r.inj r'
end
abbrev Cx.wish (X:Cx) (E:Value -> Shared -> Prop):Cx:={ X with xe:=E }
abbrev Cx.nox (X:Cx):Cx:=X.wish fun _ _=>False
theorem Cx.Ok.wish {X:Cx} (ok:X.Ok) (E:Value -> Shared -> Prop):(X.wish E).Ok :=
 ⟨ok.mod,ok.kind,ok.glob,ok.blt,ok.above,ok.inj,ok.has,ok.cab,ok.hd,ok.frames,ok.stk,ok.exf,ok.bs,ok.bsz,ok.noex,ok.exfs,ok.funs,ok.frf⟩
theorem Cx.Ok.unwish {X:Cx} {E:Value -> Shared -> Prop} (ok:(X.wish E).Ok):X.Ok :=
 ⟨ok.mod,ok.kind,ok.glob,ok.blt,ok.above,ok.inj,ok.has,ok.cab,ok.hd,ok.frames,ok.stk,ok.exf,ok.bs,ok.bsz,ok.noex,ok.exfs,ok.funs,ok.frf⟩
section
variable {X:Cx} {pins:List (Addr × Obj)} {σ:St} {H:Hp} {s:Shared} {E:Value -> Shared -> Prop}
theorem Inv.wish (I:Inv X pins σ H s) (E:Value -> Shared -> Prop):Inv (X.wish E) pins σ H s:=⟨I.ok.wish E,I.os,I.bare,I.base,I.loc,I.cell,I.free,I.freeC,I.pin,I.hok,I.len⟩
theorem Inv.unwish (I:Inv (X.wish E) pins σ H s):Inv X pins σ H s:=⟨I.ok.unwish,I.os,I.bare,I.base,I.loc,I.cell,I.free,I.freeC,I.pin,I.hok,I.len⟩
theorem SP.unwish {D:wl} {f:Flow} {s':Shared} (h:SP (X.wish E) pins D f s'):SP X pins D f s':=by
 cases f with
 | next=>obtain ⟨σ',H',I,q⟩:=h; exact ⟨σ',H',I.unwish,q⟩
 | brk=>obtain ⟨σ',H',I,q⟩:=h; exact ⟨σ',H',I.unwish,q⟩
 | cont=>obtain ⟨σ',H',I,q⟩:=h; exact ⟨σ',H',I.unwish,q⟩
 | ret u=>obtain ⟨v,σ',H',I,r,q⟩:=h; exact ⟨v,σ',H',I.unwish,r,q⟩
theorem PSs.nox {st:List Stmt} {t:TS} (h:PSs X.nox st t):PSs X st t:=fun pins s σ H D I hw =>
 wpAny_mono (h pins s σ H D (I.wish _) hw) (fun _ _ q=>q.unwish) fun _ _ z=>False.elim z
end
section
variable {X:Cx} {st:Stmt} {rest:List Stmt} {t u:TS} {e:Expr} {te:TE} {pos:Pos}
def Q5:TS:=fun D σ H=>D.nx σ H
def KY (t u:TS):TS:=fun D σ H=>t { D with nx:=u D } σ H
theorem zy:PSs X [] Q5:=fun _ _ σ H _ I h=>wpAny_execs_nil ⟨σ,H,I,h⟩
theorem zK (h1:PS X st t) (h2:PSs X rest u):PSs X (st :: rest) (KY t u):=by
 intro pins s σ H D I h
 refine wpAny_execs_cons (thn (h1 pins s σ H { D with nx:=u D } I h) fun f s1 q=>?_)
 cases f with
 | next =>
  obtain ⟨σ',H',I',q⟩:=q
  exact h2 pins s1 σ' H' D I' q
 | ret v=>exact q
 | brk=>exact q
 | cont=>exact q
theorem zf (h1:PS X st t):PSs X [st] t:=by
 intro pins s σ H D I h
 refine wpAny_execs_cons (thn (h1 pins s σ H D I h) fun f s1 q=>?_)
 cases f with
 | next=>exact wpAny_execs_nil q
 | ret v=>exact q
 | brk=>exact q
 | cont=>exact q
def Jm:TS:=fun D σ H=>D.bk σ H
def Kp:TS:=fun D σ H=>D.ct σ H
theorem Inv.quiet {pins:List (Addr × Obj)} {σ:St} {H:Hp} {s:Shared} (I:Inv X pins σ H s):interactive X.env = false:=by simp [interactive,I.ok.kind]
def Jf (te:TE):TS:=fun D σ H=>te σ H fun _ H1=>D.nx σ H1
theorem xu (he:PE X e te) (hs:swapsWith e none pos.line X.env = pure false:=by rfl):PS X (.Expr e pos) (Jf te):=by
 intro pins s σ H D I h
 exact wpAny_Expr_any (thn (he pins s σ H _ I h) fun v s1 ⟨x,H1,I1,r1,q1⟩=>⟨σ,H1,I1,q1⟩) I.quiet hs
def KD (te:TE):TS:=fun D σ H=>te σ H D.rt
theorem zw (he:PE X e te):PS X (.Return (some e) pos) (KD te):=by
 intro pins s σ H D I h
 exact wpAny_Return_some (thn (he pins s σ H _ I h) fun v s1 ⟨x,H1,I1,r1,q1⟩=>⟨x,σ,H1,I1,r1,q1⟩)
def J9:TS:=fun D _ H=>D.rt .non H
def K0 (c:TT) (t u:TS):TS:=fun D σ H=>c σ H fun b H1=>if b = true then t D σ H1 else u D σ H1
theorem zW {c:Expr} {a b:List Stmt} {tc:TT} (hc:PT X c tc) (ha:PSs X a t) (hb:PSs X b u):PS X (.If c a b pos) (K0 tc t u):=by
 intro pins s σ H D I h
 refine wpAny_If (thn (hc pins s σ H _ I h) fun d s1 ⟨H1,I1,q1⟩=>?_)
 cases d with
 | true=>exact ha pins s1 σ H1 D I1 q1
 | false=>exact hb pins s1 σ H1 D I1 q1
end
abbrev TG:=V -> St -> Hp -> (St -> Hp -> Prop) -> Prop
abbrev TGs:=List V -> St -> Hp -> (St -> Hp -> Prop) -> Prop
def PG (X:Cx) (target:Expr) (t:TG):Prop :=
 ∀ (pins:List (Addr × Obj)) (s:Shared) (σ:St) (H:Hp) (v:V) (u:Value) (Q:St -> Hp -> Prop),Inv X pins σ H s -> RelV v u -> t v σ H Q ->
  wpAny (model X.prog X.w) X.A (assign target X.env u) (fun _ s'=>∃ σ' H',Inv X pins σ' H' s' /\ Q σ' H') X.xe s
def PGs (X:Cx) (ts:List Expr) (t:TGs):Prop :=
 ∀ (pins:List (Addr × Obj)) (s:Shared) (σ:St) (H:Hp) (vs:List V) (us:List Value) (Q:St -> Hp -> Prop),Inv X pins σ H s -> Vals vs us -> t vs σ H Q ->
  wpAny (model X.prog X.w) X.A (assignInOrder ((assignEach ts X.env).map (·.2)) us) (fun _ s'=>∃ σ' H',Inv X pins σ' H' s' /\ Q σ' H') X.xe s
section
variable {X:Cx} {pos:Pos}
def xR (i:Nat):TG:=fun v σ H Q=>Q (σ.set i (some v)) H
theorem zx {i:Nat} {x:Str} (hN:X.N.Nodup) (hi:X.N[i]? = some x) (hx:Loc X.env.scope x) (hf:X.fn x = true \/ X.env.scope.names.lookup x = some .local:=by first | exact .inl rfl | exact .inr rfl | assumption):PG X (.Name x pos) (xR i):=by
 intro pins s σ H v u Q I r h
 exact wpAny_assign_Name (qZ I hN hi hx r (fun s' I'=>⟨_,H,I',h⟩) hf)
def Kf:TGs:=fun vs σ H Q=>vs = [] /\ Q σ H
def WM (t:TG) (u:TGs):TGs:=fun vs σ H Q=>∃ v r,vs = v :: r /\ t v σ H fun σ' H'=>u r σ' H' Q
theorem wI:PGs X [] Kf:=by
 intro pins s σ H vs us Q I r h
 obtain ⟨e,h⟩:=h
 subst e
 cases r
 exact assignInOrder_nil ⟨σ,H,I,h⟩
theorem zZ {e:Expr} {es:List Expr} {t:TG} {u:TGs} (h1:PG X e t) (h2:PGs X es u)
  (hs:(assignEach (e :: es) X.env).map (·.2) = assign e X.env :: (assignEach es X.env).map (·.2):=by rfl):PGs X (e :: es) (WM t u):=by
 intro pins s σ H vs us Q I r h
 obtain ⟨v,vr,e1,h⟩:=h
 subst e1
 cases r with
 | cons r rr =>
  rw [hs]
  refine assignInOrder_cons (thn (h1 pins s σ H _ _ _ I r h) fun _ s1 ⟨σ1,H1,I1,q1⟩=>?_)
  exact h2 pins s1 σ1 H1 _ _ Q I1 rr q1
def JR (K:PySem.W.Frag) (n:Nat) (t:TGs):TG:=fun v σ H Q=>∃ a xs,v = .ref a /\ SqT K H a xs /\ xs.length = n /\ t xs σ H Q
theorem ud {es:List Expr} {k:Nat} {t:TGs} {n:Nat} (hc:X.calm = true) (h:PGs X es t)
  (hn:(assignEach es X.env).length = n:=by rfl) (hst:(assignEach es X.env).findIdx? (·.1) = none:=by rfl):PG X (.Tuple es k pos) (JR X.K n t):=by
 intro pins s σ H v u Q I r hw
 obtain ⟨a,xs,e1,hq,hl,hw⟩:=hw
 subst e1
 cases r
 obtain ⟨its,rv,ht,hz⟩:=I.tuple hq
 refine assign_Tuple_tuple (I.ok.hd hc) ht (by simp [hn,<- hl,rv.length]) hst fun h' hx=>?_
 have I1:Inv X pins σ H { s with heap:=h' }:=I.kept (t':=s.toks) fun b o e=>hx b o (Nat.ne_of_lt (Heap.lt_size e)) e
 exact h pins _ σ H xs _ Q I1 (by simpa using rv) hw
def JC (te:TE) (g:TG):TS:=fun D σ H=>te σ H fun x H1=>g x σ H1 D.nx
theorem QU {tg e:Expr} {te:TE} {g:TG} (he:PE X e te) (hg:PG X tg g) (hs:swapsWithSole [tg] e pos.line X.env = pure false:=by rfl) (hw:swappedStores [tg] e X.env = pure none:=by rfl)
  (h1:(assignEach [tg] X.env).map (·.2) = [assign tg X.env]:=by rfl):PS X (.Assign [tg] e pos) (JC te g):=by
 intro pins s σ H D I h
 refine wpAny_Assign_stores (thn (he pins s σ H _ I h) fun v s1 ⟨x,H1,I1,r1,q1⟩=>?_) hs hw
 rw [h1]
 exact thn (hg pins s1 σ H1 x v _ I1 r1 q1) fun _ s2 q=>q
theorem zv {i:Nat} {x:Str} {e:Expr} {te:TE} {pos':Pos} (hN:X.N.Nodup) (hi:X.N[i]? = some x) (hx:Loc X.env.scope x) (he:PE X e te) (hs:swapsWith e (some (.Name x pos')) pos.line X.env = pure false:=by rfl) (hf:X.fn x = true \/ X.env.scope.names.lookup x = some .local:=by first | exact .inl rfl | exact .inr rfl | assumption) :
  PS X (.Assign [.Name x pos'] e pos) (JC te (xR i)):=by
 intro pins s σ H D I h
 refine wpAny_Assign_Name (thn (he pins s σ H _ I h) fun v s1 ⟨y,H1,I1,r1,q1⟩=>?_) hs
 exact qZ I1 hN hi hx r1 (fun s2 I2=>⟨_,H1,I2,q1⟩) hf
def K2 (i j:Nat) (ta:TA):TS:=fun D σ H=>ta σ H fun vs H1=>∃ v w,vs = [v,w] /\ D.nx ((σ.set i (some v)).set j (some w)) H1
end
section
variable {X:Cx} {pos:Pos}
def YO (c:TT) (tb:TS):TS:=fun D σ H=>∃ W:Nat -> St -> Hp -> Prop,(∃ m,W m σ H) /\ ∀ m σ H,W m σ H ->
 c σ H fun b H1=>if b = true then ∃ N:St -> Hp -> Prop,(∀ σ' H',N σ' H' -> ∃ m',m' < m /\ W m' σ' H') /\ tb { D with nx:=N,ct:=N,bk:=D.nx } σ H1 else D.nx σ H1
theorem Ze {c:Expr} {body:List Stmt} {tc:TT} {tb:TS} (hp:PassesOwn (model X.prog X.w) X.A X.env X.xe) (hc:PT X c tc) (hb:PSs X body tb):PS X (.While c body [] pos) (YO tc tb):=by
 intro pins s σ H D I h
 obtain ⟨W,⟨m0,w0⟩,turn⟩:=h
 refine wpAny_While (codeAny_whileLoop (fun n s'=>∃ σ' H',Inv X pins σ' H' s' /\ W n σ' H') ?_ m0 ⟨σ,H,I,w0⟩)
 rintro n s1 ⟨σ1,H1,I1,w1⟩
 refine wpAny_passesOwn hp (thn (hc pins s1 σ1 H1 _ I1 (turn n σ1 H1 w1)) fun b s2 ⟨H2,I2,q2⟩=>?_)
 cases b with
 | true =>
  obtain ⟨N,hN,q2⟩:=q2
  rw [if_pos rfl]
  refine wpAny_passesOwn hp (thn (hb pins s2 σ1 H2 _ I2 q2) fun f s3 q3=>?_)
  cases f with
  | next =>
   obtain ⟨σ3,H3,I3,n3⟩:=q3
   obtain ⟨m',hm,w3⟩:=hN σ3 H3 n3
   exact ⟨m',hm,σ3,H3,I3,w3⟩
  | cont =>
   obtain ⟨σ3,H3,I3,n3⟩:=q3
   obtain ⟨m',hm,w3⟩:=hN σ3 H3 n3
   exact ⟨m',hm,σ3,H3,I3,w3⟩
  | brk=>exact q3
  | ret v=>exact q3
 | false =>
  rw [if_neg Bool.false_ne_true]
  exact wpAny_execs_nil ⟨σ1,H2,I2,q2⟩
end
structure It where
 go:Nat -> Hp -> Prop
 yld:Nat -> Hp -> V -> Hp -> Prop
 stop:Nat -> Hp -> Prop
def wy (X:Cx) (pins:List (Addr × Obj)) (H:Hp) (b:Addr):Prop :=
 H b = none /\ b ≠ X.env.locals /\ b ∉ X.fs /\ (b ∈ X.ex \/ X.s₀.heap.objs.size <= b) /\ (∀ x c,X.env.cells.lookup x = some c -> c ≠ b) /\ ∀ p ∈ X.pn ++ pins,p.1 ≠ b
theorem Inv.fpOk {X:Cx} {pins:List (Addr × Obj)} {σ:St} {H H':Hp} {s:Shared} {b:Addr} (I:Inv X pins σ H s) (hb:s.heap.objs.size <= b) (hn:H' b = none):wy X pins H' b:=by
 refine ⟨hn,Nat.ne_of_gt (Nat.lt_of_lt_of_le I.lt hb),I.nofs hb,.inr (Nat.le_trans I.sz hb),fun x c e z=>?_,fun p hp z=>?_⟩
 ·obtain ⟨v,q⟩:=I.cell x c e
  exact absurd (Nat.lt_of_lt_of_le q.lt (by rw [z]; exact hb)) (Nat.lt_irrefl _)
 ·exact absurd (Nat.lt_of_lt_of_le (Heap.lt_size (I.pin p hp).1) (by rw [z]; exact hb)) (Nat.lt_irrefl _)
structure Vf (P:Program) (w:World) (K:PySem.W.Frag) (tg:Expr) (J:It) (fp:List Addr) (it:Addr) (tn:Nat -> Heap -> Prop):Prop where
 mem:it ∈ fp
 obj:∀ i h,tn i h -> ∀ b ∈ fp,∃ o,h.get? b = some o /\ ∀ v,o.data ≠ .cell v
 keep:∀ i h h',tn i h -> (∀ b ∈ fp,∀ o,h.get? b = some o -> h'.get? b = some o) -> tn i h'
 item:∀ (X:Cx),X.prog = P -> X.w = w -> X.K = K -> X.calm = true -> ∀ (i:Nat) (pins:List (Addr × Obj)) (s:Shared) (σ:St) (H:Hp) (E:Value -> Shared -> Prop),Inv X pins σ H s -> (∀ b ∈ fp,wy X pins H b) -> tn i s.heap -> J.go i H ->
  wpAny (model P w) X.A (pyNext (.ref it)) (fun r s1=>∃ u,r = some u /\
   wpAny (model P w) X.A (letOwnedTupleGo tg (.ref it) u) (fun _ s2=>∃ x H',Inv X pins σ H' s2 /\ RelV x u /\ J.yld i H x H' /\ tn (i + 1) s2.heap /\ ∀ b ∈ fp,H' b = none) E s1) E s
 done:∀ (X:Cx),X.prog = P -> X.w = w -> X.K = K -> X.calm = true -> ∀ (i:Nat) (pins:List (Addr × Obj)) (s:Shared) (σ:St) (H:Hp) (E:Value -> Shared -> Prop),Inv X pins σ H s -> (∀ b ∈ fp,wy X pins H b) -> tn i s.heap -> J.stop i H ->
  wpAny (model P w) X.A (pyNext (.ref it)) (fun r s1=>r = none /\ Inv X pins σ H s1) E s
 self:∀ (A:Around) (i:Nat) (s:Shared) (Q:Value -> Shared -> Prop) (E:Value -> Shared -> Prop),tn i s.heap -> Q (.ref it) s -> wpAny (model P w) A (pyIter (.ref it)) Q E s
abbrev TI:=St -> Hp -> (It -> Hp -> Prop) -> Prop
def PIE (X:Cx) (pins:List (Addr × Obj)) (σ:St) (tg:Expr) (R:It -> Hp -> Prop) (itv:Value) (s2:Shared):Prop :=
 ∃ (it:Addr) (fp:List Addr) (tn:Nat -> Heap -> Prop) (J:It) (H':Hp),itv = .ref it /\ Inv X pins σ H' s2 /\ Vf X.prog X.w X.K tg J fp it tn /\ tn 0 s2.heap /\ (∀ b ∈ fp,wy X pins H' b) /\ R J H'
def PI (X:Cx) (tg iter:Expr) (wi:TI):Prop :=
 ∀ (pins:List (Addr × Obj)) (s:Shared) (σ:St) (H:Hp) (R:It -> Hp -> Prop),Inv X pins σ H s -> wi σ H R ->
  wpAny (model X.prog X.w) X.A (eval iter X.env) (fun v s1=>wpAny (model X.prog X.w) X.A (pyIter v) (PIE X pins σ tg R) X.xe s1) X.xe s
theorem XV {M:Model} {A:Around} {E:Value -> Shared -> Prop} {s:Shared} {tg:Expr} {it:Addr} {u:Value} {o:Obj} {n:String} {vs:Array Value} {Q:Unit -> Shared -> Prop} (ho:s.heap.get? it = some o) (hc:o.cls = .type n) (hd:o.data = .fields vs)
    (hn:["enumerate", "zip", "dict_itemiterator", "dict_reverseitemiterator", "odict_iterator", "itertools.zip_longest", "itertools.pairwise"].contains n = false) (hQ:Q () s):wpAny M A (letOwnedTupleGo tg (.ref it) u) Q E s:=by
  unfold letOwnedTupleGo
  cases tg <;> first
    | exact wpAny_pure hQ
    | (cases u <;> first
        | exact wpAny_pure hQ
        | (refine wpAny_bind (wpAny_load ho ?_)
           rw [hc,hd]
           show wpAny M A (if (["enumerate", "zip", "dict_itemiterator", "dict_reverseitemiterator", "odict_iterator", "itertools.zip_longest", "itertools.pairwise"].contains n && vs[0]? == some (rawInt _)) = true then _ else _) Q E s
           rw [if_neg (by intro h; rw [hn,Bool.false_and] at h; cases h)]
           exact wpAny_pure hQ))
def Itl (K:PySem.W.Frag) (a:Addr):It :=
 ⟨fun i H=>∃ xs x,SqL K H a xs /\ xs[i]? = some x,fun i H x H'=>H' = H /\ ∀ xs,SqL K H a xs -> xs[i]? = some x,fun i H=>∃ xs,SqL K H a xs /\ xs.length <= i⟩
def Itt (K:PySem.W.Frag) (a:Addr):It :=
 ⟨fun i H=>∃ xs x,SqT K H a xs /\ xs[i]? = some x,fun i H x H'=>H' = H /\ ∀ xs,SqT K H a xs -> xs[i]? = some x,fun i H=>∃ xs,SqT K H a xs /\ xs.length <= i⟩
def Itr (lo:Int) (n:Nat):It:=⟨fun i _=>i < n,fun i H x H'=>H' = H /\ x = .int (lo + i),fun i _=>n <= i⟩
theorem Ym {P:Program} {w:World} {K:PySem.W.Frag} {tg:Expr} (a it:Addr):Vf P w K tg (Itl K a) [it] it (fun i h=>h.IsListIter it a i) where
 mem:=by simp
 obj:=fun i h st b hb=>by
  have e:b = it:=by simpa using hb
  subst e
  obtain ⟨o,e,c,d⟩:=st
  exact ⟨o,e,fun v z=>by rw [d] at z; cases z⟩
 keep:=fun i h h' st k=>st.at fun o e=>k it (by simp) o e
 item:=by
  intro X hP hw hK hc i pins s σ H E I hf st hg
  subst hP hw hK
  obtain ⟨xs,x,hq,hx⟩:=hg
  obtain ⟨its,rv,p,hz⟩:=I.list hq
  obtain ⟨u,hu,ru⟩:=rv.get hx
  obtain ⟨f0,f1,f2,f3,f4,f5⟩:=hf it (by simp)
  refine wpAny_pyNext_list_item st p.isList (x:=u) (by simpa using hu) fun h' st' sb=>?_
  have I1:Inv X pins σ H { s with heap:=h' }:=I.turned (t':=s.toks) (fun b o hb e=>(sb.2 b hb).trans e) f0 f1 f3 f4 f5
  obtain ⟨o,e,c,d⟩:=id st'
  exact ⟨u,rfl,XV (s:={ s with heap:=h' }) e c d (by decide) ⟨x,H,I1,ru,⟨rfl,fun ys hy=>by rw [I.list_inj hy hq]; exact hx⟩,st',fun b hb=>(hf b hb).1⟩⟩
 done:=by
  intro X hP hw hK hc i pins s σ H E I hf st hg
  subst hP hw hK
  obtain ⟨xs,hq,hx⟩:=hg
  obtain ⟨its,rv,p,hz⟩:=I.list hq
  obtain ⟨f0,f1,f2,f3,f4,f5⟩:=hf it (by simp)
  have hl:=rv.length
  exact wpAny_pyNext_list_end (I.ok.hd hc) st p.isList (by simp; omega) fun h' eb=>⟨rfl,I.turned (t':=s.toks) (fun b o hb e=>eb b o hb e) f0 f1 f3 f4 f5⟩
 self:=fun _ _ _ _ _ st h=>wpAny_pyIter_listiter st h
theorem Yb {P:Program} {w:World} {K:PySem.W.Frag} {tg:Expr} (a it:Addr):Vf P w K tg (Itt K a) [it] it (fun i h=>h.IsTupleIter it a i) where
 mem:=by simp
 obj:=fun i h st b hb=>by
  have e:b = it:=by simpa using hb
  subst e
  obtain ⟨o,e,c,d⟩:=st
  exact ⟨o,e,fun v z=>by rw [d] at z; cases z⟩
 keep:=fun i h h' st k=>st.at fun o e=>k it (by simp) o e
 item:=by
  intro X hP hw hK hc i pins s σ H E I hf st hg
  subst hP hw hK
  obtain ⟨xs,x,hq,hx⟩:=hg
  obtain ⟨its,rv,p,hz⟩:=I.tuple hq
  obtain ⟨u,hu,ru⟩:=rv.get hx
  obtain ⟨f0,f1,f2,f3,f4,f5⟩:=hf it (by simp)
  refine wpAny_pyNext_tuple_item st (show s.heap.IsTuple a its.toArray from p) (x:=u) (by simpa using hu) fun h' st' sb=>?_
  have I1:Inv X pins σ H { s with heap:=h' }:=I.turned (t':=s.toks) (fun b o hb e=>(sb.2 b hb).trans e) f0 f1 f3 f4 f5
  obtain ⟨o,e,c,d⟩:=id st'
  exact ⟨u,rfl,XV (s:={ s with heap:=h' }) e c d (by decide) ⟨x,H,I1,ru,⟨rfl,fun ys hy=>by rw [I.tuple_inj hy hq]; exact hx⟩,st',fun b hb=>(hf b hb).1⟩⟩
 done:=by
  intro X hP hw hK hc i pins s σ H E I hf st hg
  subst hP hw hK
  obtain ⟨xs,hq,hx⟩:=hg
  obtain ⟨its,rv,p,hz⟩:=I.tuple hq
  obtain ⟨f0,f1,f2,f3,f4,f5⟩:=hf it (by simp)
  have hl:=rv.length
  exact wpAny_pyNext_tuple_end (I.ok.hd hc) st (show s.heap.IsTuple a its.toArray from p) (by simp; omega) fun h' eb=>⟨rfl,I.turned (t':=s.toks) (fun b o hb e=>eb b o hb e) f0 f1 f3 f4 f5⟩
 self:=fun _ _ _ _ _ st h=>wpAny_pyIter_tupleiter st h
theorem Z1 {P:Program} {w:World} {K:PySem.W.Frag} {tg:Expr} (it:Addr) (lo:Int) (n:Nat):Vf P w K tg (Itr lo n) [it] it (fun i h=>IsRangeIter h it (lo + (i:Nat) * 1) ((n:Int) - (i:Nat)) 1) where
 mem:=by simp
 obj:=fun i h st b hb=>by
  have e:b = it:=by simpa using hb
  subst e
  exact ⟨_,st,fun v z=>by
   have z':Data.fields _ = Data.cell v:=z
   cases z'⟩
 keep:=fun i h h' st k=>k it (by simp) _ st
 item:=by
  intro X hP hw hK hc i pins s σ H E I hf st hg
  subst hP hw hK
  obtain ⟨f0,f1,f2,f3,f4,f5⟩:=hf it (by simp)
  have W:=Walks.range (prog:=X.prog) (w:=X.w) (I.ok.hd hc) it lo 1 n
  refine W.item i s _ _ hg st fun v h' tk hv st' kk=>?_
  obtain ⟨t,rfl⟩:=hv
  have I1:Inv X pins σ H { s with heap:=h',toks:=tk }:=I.turned (fun b o hb e=>kk b o (by simpa using hb) e) f0 f1 f3 f4 f5
  refine ⟨_,rfl,XV (s:={ s with heap:=h',toks:=tk }) (n:="range_iterator") st' rfl rfl (by decide) ⟨.int (lo + i),H,I1,⟨t,?_⟩,⟨rfl,rfl⟩,st',fun b hb=>(hf b hb).1⟩⟩
  rw [Int.mul_one]
 done:=by
  intro X hP hw hK hc i pins s σ H E I hf st hg
  subst hP hw hK
  obtain ⟨f0,f1,f2,f3,f4,f5⟩:=hf it (by simp)
  exact wpAny_pyNext_range_end (I.ok.hd hc) st (by have:n <= i:=hg; omega) fun h' eb=>⟨rfl,I.turned (t':=s.toks) (fun b o hb e=>eb b o hb e) f0 f1 f3 f4 f5⟩
 self:=fun _ _ _ _ _ st h=>wpAny_pyIter_rangeiter st h
end L2
namespace L2
open PySem PySem.Spec PyProof.Rows
section
variable {X:Cx} {tg:Expr}
def VV (K:PySem.W.Frag) (tl:TE):TI:=fun σ H R=>tl σ H fun x H1=>∃ a,x = .ref a /\ (∃ xs,SqL K H1 a xs) /\ R (Itl K a) H1
def KH (K:PySem.W.Frag) (tl:TE):TI:=fun σ H R=>tl σ H fun x H1=>∃ a,x = .ref a /\ (∃ xs,SqT K H1 a xs) /\ R (Itt K a) H1
theorem yG {l:Expr} {tl:TE} (hl:PE X l tl):PI X tg l (VV X.K tl):=by
 intro pins s σ H R I h
 refine thn (hl pins s σ H _ I h) fun v s1 ⟨x,H1,I1,r1,q1⟩=>?_
 obtain ⟨a,e,⟨xs,hq⟩,q⟩:=q1
 subst e
 cases r1
 obtain ⟨its,rv,p,hz⟩:=I1.list hq
 refine wpAny_pyIter_list p.isList ?_
 refine ⟨s1.heap.objs.size,[s1.heap.objs.size],_,_,H1,rfl,I1.kept (t':=s1.toks) fun b o e=>Heap.get?_push_of_some _ e,Ym a _,⟨_,Heap.get?_push_size _ rfl,rfl,rfl⟩,fun b hb=>?_,q⟩
 have e:b = s1.heap.objs.size:=by simpa using hb
 subst e
 exact I1.fpOk (Nat.le_refl _) (I1.hok.fresh (Nat.le_refl _))
theorem Je {l:Expr} {tl:TE} (hl:PE X l tl):PI X tg l (KH X.K tl):=by
 intro pins s σ H R I h
 refine thn (hl pins s σ H _ I h) fun v s1 ⟨x,H1,I1,r1,q1⟩=>?_
 obtain ⟨a,e,⟨xs,hq⟩,q⟩:=q1
 subst e
 cases r1
 obtain ⟨its,rv,p,hz⟩:=I1.tuple hq
 refine wpAny_pyIter_tuple (show s1.heap.IsTuple a its.toArray from p) ?_
 refine ⟨s1.heap.objs.size,[s1.heap.objs.size],_,_,H1,rfl,I1.kept (t':=s1.toks) fun b o e=>Heap.get?_push_of_some _ e,Yb a _,⟨_,Heap.get?_push_size _ rfl,rfl,rfl⟩,fun b hb=>?_,q⟩
 have e:b = s1.heap.objs.size:=by simpa using hb
 subst e
 exact I1.fpOk (Nat.le_refl _) (I1.hok.fresh (Nat.le_refl _))
theorem kO {pins:List (Addr × Obj)} {σ:St} {H:Hp} {s:Shared} {R:It -> Hp -> Prop} {E:Value -> Shared -> Prop} {lo hi:Int} {t u v:Tok} {tk:Nat} (I:Inv X pins σ H s) (h1:-(2 ^ 62) <= lo) (h2:lo < 2 ^ 62) (h3:-(2 ^ 62) <= hi) (h4:hi < 2 ^ 62)
  (q:R (Itr lo (hi - lo).toNat) H):wpAny (model X.prog X.w) X.A (pyIter (.ref s.heap.objs.size)) (PIE X pins σ tg R) E { s with heap:=s.heap.push { cls:=.type "range",data:=.fields #[.int lo t,.int hi u,.int 1 v] },toks:=tk }:=by
 refine wpAny_pyIter_range (IsRange.new ..) (small_one h1 h2 h3 h4) ?_
 have I1:Inv X pins σ H { s with heap:=s.heap.push { cls:=.type "range",data:=.fields #[.int lo t,.int hi u,.int 1 v] },toks:=tk }:=I.kept fun b o e=>Heap.get?_push_of_some _ e
 refine ⟨(s.heap.push { cls:=.type "range",data:=.fields #[.int lo t,.int hi u,.int 1 v] }).objs.size,[(s.heap.push { cls:=.type "range",data:=.fields #[.int lo t,.int hi u,.int 1 v] }).objs.size],_,_,H,rfl,
  I1.kept (t':=tk) fun b o e=>Heap.get?_push_of_some _ e,Z1 _ lo (hi - lo).toNat,?_,fun b hb=>?_,q⟩
 ·have e1:lo + ((0:Nat):Int) * 1 = lo:=by simp
  have e2:(((hi - lo).toNat:Nat):Int) - ((0:Nat):Int) = Builtin.Range.rangeSize lo hi 1:=by rw [rangeSize_one]; split <;> omega
  show IsRangeIter _ _ (lo + ((0:Nat):Int) * 1) ((((hi - lo).toNat:Nat):Int) - ((0:Nat):Int)) 1
  rw [e1,e2]
  exact Heap.get?_push_size _ rfl
 ·have e:b = (s.heap.push { cls:=.type "range",data:=.fields #[.int lo t,.int hi u,.int 1 v] }).objs.size:=by simpa using hb
  subst e
  exact I1.fpOk (Nat.le_refl _) (I1.hok.fresh (Nat.le_refl _))
def VZ (ta:TA):TI:=fun σ H R=>ta σ H fun vs H1=>∃ j:Int,vs = [.int j] /\ -(2 ^ 62) <= j /\ j < 2 ^ 62 /\ R (Itr 0 j.toNat) H1
def UE (ta:TA):TI:=fun σ H R=>ta σ H fun vs H1=>∃ i j:Int,vs = [.int i,.int j] /\ (-(2 ^ 62) <= i /\ i < 2 ^ 62 /\ -(2 ^ 62) <= j /\ j < 2 ^ 62) /\ R (Itr i (j - i).toNat) H1
theorem xC {a:Expr} {ta:TA} {p pos:Pos} (hg:Gl X "range") (hm:X.mg "range" = none) (ha:PA X [a] ta) (hs:starEach [a] X.env = [(false,eval a X.env)]:=by rfl):PI X tg (.Call (.Name "range" p) [a] [] pos) (VZ ta):=by
 intro pins s σ H R I h
 refine Call_ (wn I hg hm boot_range (PyProof.Rows.callWith_type1 (thn (ha pos pins s σ H _ I h) fun us s1 ⟨vs,H1,I1,r1,q1⟩=>?_) hs rfl))
 obtain ⟨j,e,q1,q2,q⟩:=q1
 subst e
 cases r1 with
 | cons r rr =>
  cases rr
  obtain ⟨t,rfl⟩:=r
  exact call_range_1 (kO I1 (by omega) (by omega) q1 q2 (by simpa using q))
theorem YK {a b:Expr} {ta:TA} {p pos:Pos} (hg:Gl X "range") (hm:X.mg "range" = none) (ha:PA X [a,b] ta) (hs:starEach [a,b] X.env = [(false,eval a X.env),(false,eval b X.env)]:=by rfl) (hs2:starEach [b] X.env = [(false,eval b X.env)]:=by rfl) :
  PI X tg (.Call (.Name "range" p) [a,b] [] pos) (UE ta):=by
 intro pins s σ H R I h
 refine Call_ (wn I hg hm boot_range (PyProof.Rows.callWith_type1 (thn (ha pos pins s σ H _ I h) fun us s1 ⟨vs,H1,I1,r1,q1⟩=>?_) (by rw [hs,hs2]) (by rw [hs2]; rfl)))
 obtain ⟨i,j,e,⟨q1,q2,q3,q4⟩,q⟩:=q1
 subst e
 cases r1 with
 | cons r rr =>
  cases rr with
  | cons r' rr =>
   cases rr
   obtain ⟨t,rfl⟩:=r
   obtain ⟨t',rfl⟩:=r'
   exact call_range_2 (kO I1 q1 q2 q3 q4 q)
def W8 (wi:TI) (g:TG) (tb:TS):TS:=fun D σ H=>wi σ H fun J H1=>∃ W:Nat -> Nat -> St -> Hp -> Prop,(∃ m,W 0 m σ H1) /\ ∀ i m σ H,W i m σ H ->
 (J.stop i H /\ D.nx σ H) \/ (J.go i H /\ ∃ N:St -> Hp -> Prop,(∀ σ' H',N σ' H' -> ∃ m',m' < m /\ W (i + 1) m' σ' H') /\ ∀ x H',J.yld i H x H' -> g x σ H' fun σ2 H2=>tb { D with nx:=N,ct:=N,bk:=D.nx } σ2 H2)
def ju (fp:List Addr) (h:Heap):List (Addr × Obj):=fp.filterMap fun b=>(h.get? b).map fun o=>(b,o)
theorem we {fp:List Addr} {h:Heap} {b:Addr} {o:Obj} (hb:b ∈ fp) (e:h.get? b = some o):(b,o) ∈ ju fp h:=List.mem_filterMap.mpr ⟨b,hb,by rw [e]; rfl⟩
theorem XF {fp:List Addr} {h:Heap} {p:Addr × Obj} (hp:p ∈ ju fp h):p.1 ∈ fp /\ h.get? p.1 = some p.2:=by
 obtain ⟨b,hb,e⟩:=List.mem_filterMap.mp hp
 cases q:h.get? b with
 | none=>rw [q] at e; cases e
 | some o =>
  rw [q] at e
  have e':(b,o) = p:=Option.some.inj e
  subst e'
  exact ⟨hb,q⟩
theorem Inv.pinned {pins:List (Addr × Obj)} {σ:St} {H:Hp} {s:Shared} {fp:List Addr} (I:Inv X pins σ H s) (hf:∀ b ∈ fp,wy X pins H b) (ho:∀ b ∈ fp,∃ o,s.heap.get? b = some o /\ ∀ v,o.data ≠ .cell v):Inv X (pins ++ ju fp s.heap) σ H s :=
 I.pins_of fun p hp=>(List.mem_append.mp hp).elim (fun z=>I.pin p (List.mem_append_right _ z)) fun z=>by
  obtain ⟨hb,e⟩:=XF z
  obtain ⟨f0,f1,f2,_⟩:=hf p.1 hb
  obtain ⟨o,e',d⟩:=ho p.1 hb
  rw [e] at e'; cases e'
  exact ⟨e,f0,f1,f2,d⟩
theorem Inv.unpinned {pins pl:List (Addr × Obj)} {σ:St} {H:Hp} {s:Shared} (I:Inv X (pins ++ pl) σ H s):Inv X pins σ H s:=I.pins_of fun p hp=>I.pin p (List.mem_append_right _ (List.mem_append_left _ hp))
theorem yD {iter:Expr} {body:List Stmt} {wi:TI} {g:TG} {tb:TS} {pos:Pos} (hp:PassesOwn (model X.prog X.w) X.A X.env X.xe) (hc:X.calm = true) (hi:PI X tg iter wi) (hg:PG X tg g) (hb:PSs X body tb)
  (hs:∀ x,foldedSetIterable iter X.env x = pure x:=by intro _; rfl):PS X (.For tg iter body [] pos) (W8 wi g tb):=by
 intro pins s σ H D I h
 refine wpAny_For (thn (hi pins s σ H _ I h) fun v s1 h1=>thn h1 fun itv s2 h2=>?_) hs
 obtain ⟨it,fp,tn,J,H2,e,I2,T,st2,f2,W,⟨m0,w0⟩,turn⟩:=h2
 subst e
 have stat:∀ {H':Hp},(∀ b ∈ fp,H' b = none) -> ∀ b ∈ fp,wy X pins H' b:=fun hn b hb=>⟨hn b hb,(f2 b hb).2⟩
 refine codeAny_forLoop_any (fun n s'=>∃ i σ' H',Inv X pins σ' H' s' /\ tn i s'.heap /\ (∀ b ∈ fp,H' b = none) /\ W i n σ' H') ?_ m0 ⟨0,σ,H2,I2,st2,fun b hb=>(f2 b hb).1,w0⟩
 rintro n s3 ⟨i,σ3,H3,I3,st3,fr3,w3⟩
 rcases turn i n σ3 H3 w3 with ⟨stop,qn⟩ | ⟨go,N,hN,step⟩
 ·refine wpAny_passesOwn hp (thn (T.done X rfl rfl rfl hc i pins s3 σ3 H3 X.xe I3 (stat fr3) st3 stop) fun r s4 ⟨hr,I4⟩=>?_)
  subst hr
  exact wpAny_execs_nil ⟨σ3,H3,I4,qn⟩
 ·refine wpAny_passesOwn hp (thn (T.item X rfl rfl rfl hc i pins s3 σ3 H3 X.xe I3 (stat fr3) st3 go) fun r s4 ⟨u,hr,h4⟩=>?_)
  subst hr
  refine wpAny_passesOwn hp (thn h4 fun _ s5 ⟨x,H5,I5,r5,y5,st5,fr5⟩=>?_)
  have I5':=I5.pinned (stat fr5) (T.obj _ _ st5)
  refine wpAny_passesOwn hp (thn (hg _ s5 σ3 H5 x u _ I5' r5 (step x H5 y5)) fun _ s6 ⟨σ6,H6,I6,q6⟩=>?_)
  refine wpAny_passesOwn hp (thn (hb _ s6 σ6 H6 _ I6 q6) fun f s7 q7=>?_)
  have again:∀ {σ7:St} {H7:Hp},Inv X (pins ++ ju fp s5.heap) σ7 H7 s7 -> N σ7 H7 -> ∃ m,m < n /\ ∃ i σ' H',Inv X pins σ' H' s7 /\ tn i s7.heap /\ (∀ b ∈ fp,H' b = none) /\ W i m σ' H':=fun {σ7 H7} I7 n7=>by
   obtain ⟨m',hm,w7⟩:=hN σ7 H7 n7
   refine ⟨m',hm,i + 1,σ7,H7,I7.unpinned,T.keep _ _ _ st5 fun b hb o e=>(I7.pin (b,o) (List.mem_append_right _ (List.mem_append_right _ (we hb e)))).1,fun b hb=>?_,w7⟩
   obtain ⟨o,e,d⟩:=T.obj _ _ st5 b hb
   exact (I7.pin (b,o) (List.mem_append_right _ (List.mem_append_right _ (we hb e)))).2.1
  cases f with
  | next=>obtain ⟨σ7,H7,I7,n7⟩:=q7; exact again I7 n7
  | cont=>obtain ⟨σ7,H7,I7,n7⟩:=q7; exact again I7 n7
  | brk=>obtain ⟨σ7,H7,I7,q7⟩:=q7; exact ⟨σ7,H7,I7.unpinned,q7⟩
  | ret v=>obtain ⟨x7,σ7,H7,I7,r7,q7⟩:=q7; exact ⟨x7,σ7,H7,I7.unpinned,r7,q7⟩
end
theorem WL {K:PySem.W.Frag} {a:Addr} {xs:List V} {g:TG} {tb:TS} {D:wl} {σ:St} {H:Hp} (Pv:Nat -> St -> Hp -> Prop) (h0:Pv 0 σ H) (hl:∀ i σ H,i <= xs.length -> Pv i σ H -> SqL K H a xs)
  (hs:∀ i x σ H,xs[i]? = some x -> Pv i σ H -> g x σ H fun σ2 H2=>tb { D with nx:=Pv (i + 1),ct:=Pv (i + 1),bk:=D.nx } σ2 H2) (hd:∀ σ H,Pv xs.length σ H -> D.nx σ H) :
  ∃ W:Nat -> Nat -> St -> Hp -> Prop,(∃ m,W 0 m σ H) /\ ∀ i m σ H,W i m σ H ->
   ((Itl K a).stop i H /\ D.nx σ H) \/ ((Itl K a).go i H /\ ∃ N:St -> Hp -> Prop,(∀ σ' H',N σ' H' -> ∃ m',m' < m /\ W (i + 1) m' σ' H') /\ ∀ x H',(Itl K a).yld i H x H' -> g x σ H' fun σ2 H2=>tb { D with nx:=N,ct:=N,bk:=D.nx } σ2 H2):=by
 refine ⟨fun i m σ H=>m = xs.length - i /\ i <= xs.length /\ Pv i σ H,⟨xs.length,by simp,Nat.zero_le _,h0⟩,?_⟩
 rintro i m σ H ⟨rfl,hi,p⟩
 have q:=hl i σ H hi p
 by_cases hlt:i < xs.length
 ·refine .inr ⟨⟨xs,xs[i],q,by simp [hlt]⟩,Pv (i + 1),fun σ' H' p'=>⟨xs.length - (i + 1),by omega,rfl,hlt,p'⟩,fun x H' y=>?_⟩
  obtain ⟨e,y⟩:=y
  subst e
  exact hs i x σ _ (y xs q) p
 ·have e:i = xs.length:=by omega
  subst e
  exact .inl ⟨⟨xs,q,Nat.le_refl _⟩,hd σ H p⟩
theorem Ur {K:PySem.W.Frag} {a:Addr} {xs:List V} {g:TG} {tb:TS} {D:wl} {σ:St} {H:Hp} (Pv:Nat -> St -> Hp -> Prop) (h0:Pv 0 σ H) (hl:∀ i σ H,i <= xs.length -> Pv i σ H -> SqT K H a xs)
  (hs:∀ i x σ H,xs[i]? = some x -> Pv i σ H -> g x σ H fun σ2 H2=>tb { D with nx:=Pv (i + 1),ct:=Pv (i + 1),bk:=D.nx } σ2 H2) (hd:∀ σ H,Pv xs.length σ H -> D.nx σ H) :
  ∃ W:Nat -> Nat -> St -> Hp -> Prop,(∃ m,W 0 m σ H) /\ ∀ i m σ H,W i m σ H ->
   ((Itt K a).stop i H /\ D.nx σ H) \/ ((Itt K a).go i H /\ ∃ N:St -> Hp -> Prop,(∀ σ' H',N σ' H' -> ∃ m',m' < m /\ W (i + 1) m' σ' H') /\ ∀ x H',(Itt K a).yld i H x H' -> g x σ H' fun σ2 H2=>tb { D with nx:=N,ct:=N,bk:=D.nx } σ2 H2):=by
 refine ⟨fun i m σ H=>m = xs.length - i /\ i <= xs.length /\ Pv i σ H,⟨xs.length,by simp,Nat.zero_le _,h0⟩,?_⟩
 rintro i m σ H ⟨rfl,hi,p⟩
 have q:=hl i σ H hi p
 by_cases hlt:i < xs.length
 ·refine .inr ⟨⟨xs,xs[i],q,by simp [hlt]⟩,Pv (i + 1),fun σ' H' p'=>⟨xs.length - (i + 1),by omega,rfl,hlt,p'⟩,fun x H' y=>?_⟩
  obtain ⟨e,y⟩:=y
  subst e
  exact hs i x σ _ (y xs q) p
 ·have e:i = xs.length:=by omega
  subst e
  exact .inl ⟨⟨xs,q,Nat.le_refl _⟩,hd σ H p⟩
theorem Yi {lo:Int} {n:Nat} {g:TG} {tb:TS} {D:wl} {σ:St} {H:Hp} (Pv:Nat -> St -> Hp -> Prop) (h0:Pv 0 σ H)
  (hs:∀ i σ H,i < n -> Pv i σ H -> g (.int (lo + i)) σ H fun σ2 H2=>tb { D with nx:=Pv (i + 1),ct:=Pv (i + 1),bk:=D.nx } σ2 H2) (hd:∀ σ H,Pv n σ H -> D.nx σ H) :
  ∃ W:Nat -> Nat -> St -> Hp -> Prop,(∃ m,W 0 m σ H) /\ ∀ i m σ H,W i m σ H ->
   ((Itr lo n).stop i H /\ D.nx σ H) \/ ((Itr lo n).go i H /\ ∃ N:St -> Hp -> Prop,(∀ σ' H',N σ' H' -> ∃ m',m' < m /\ W (i + 1) m' σ' H') /\ ∀ x H',(Itr lo n).yld i H x H' -> g x σ H' fun σ2 H2=>tb { D with nx:=N,ct:=N,bk:=D.nx } σ2 H2):=by
 refine ⟨fun i m σ H=>m = n - i /\ i <= n /\ Pv i σ H,⟨n,by simp,Nat.zero_le _,h0⟩,?_⟩
 rintro i m σ H ⟨rfl,hi,p⟩
 by_cases hlt:i < n
 ·refine .inr ⟨hlt,Pv (i + 1),fun σ' H' p'=>⟨n - (i + 1),by omega,rfl,hlt,p'⟩,fun x H' y=>?_⟩
  obtain ⟨e,y⟩:=y
  subst e y
  exact hs i σ _ hlt p
 ·have e:i = n:=by omega
  subst e
  exact .inl ⟨Nat.le_refl _,hd σ H p⟩
end L2
namespace L2
open PySem PySem.Spec PyProof.Rows
abbrev R2:=V -> V -> Hp -> VK -> Prop
def OpR (X:Cx) (f:Value -> Value -> Sem Value) (r:R2):Prop :=
 ∀ (pins:List (Addr × Obj)) (s:Shared) (σ:St) (H:Hp) (x y:V) (v u:Value) (Q:VK),Inv X pins σ H s -> RelV x v -> RelV y u -> r x y H Q ->
  wpAny (model X.prog X.w) X.A (f v u) (EP X pins σ Q) X.xe s
def UnR (X:Cx) (f:Value -> Sem Value) (r:V -> Hp -> VK -> Prop):Prop :=
 ∀ (pins:List (Addr × Obj)) (s:Shared) (σ:St) (H:Hp) (x:V) (v:Value) (Q:VK),Inv X pins σ H s -> RelV x v -> r x H Q ->
  wpAny (model X.prog X.w) X.A (f v) (EP X pins σ Q) X.xe s
def wH (X:Cx) (f:Value) (r:List V -> Hp -> VK -> Prop):Prop :=
 ∀ (pins:List (Addr × Obj)) (s:Shared) (σ:St) (H:Hp) (xs:List V) (us:List Value) (Q:VK),Inv X pins σ H s -> Vals xs us -> r xs H Q ->
  wpAny (model X.prog X.w) X.A (call f us) (EP X pins σ Q) X.xe s
def K5 (X:Cx) (r:V -> Hp -> (Bool -> Hp -> Prop) -> Prop):Prop :=
 ∀ (pins:List (Addr × Obj)) (s:Shared) (σ:St) (H:Hp) (x:V) (v:Value) (Q:Bool -> Hp -> Prop),Inv X pins σ H s -> RelV x v -> r x H Q ->
  wpAny (model X.prog X.w) X.A (truthy v) (TP X pins σ Q) X.xe s
def tOp (r:R2) (ta tb:TE):TE:=fun σ H Q=>ta σ H fun x H1=>tb σ H1 fun y H2=>r x y H2 Q
def tUn (r:V -> Hp -> VK -> Prop) (ta:TE):TE:=fun σ H Q=>ta σ H fun x H1=>r x H1 Q
def rI (C:Int -> Int -> Prop) (g:Int -> Int -> V):R2:=fun x y H Q=>∃ i j,x = .int i /\ y = .int j /\ C i j /\ Q (g i j) H
def rI0 (g:Int -> Int -> V):R2:=fun x y H Q=>∃ i j,x = .int i /\ y = .int j /\ Q (g i j) H
def rU (g:Int -> V):V -> Hp -> VK -> Prop:=fun x H Q=>∃ i,x = .int i /\ Q (g i) H
section
variable {X:Cx} {a b c:Expr} {ta tb tc:TE} {pos:Pos}
theorem J2 (ha:PE X a ta) (hb:PE X b tb) {pins:List (Addr × Obj)} {s:Shared} {σ:St} {H:Hp} {R:V -> V -> Hp -> Prop} (I:Inv X pins σ H s)
  (h:ta σ H fun x H1=>tb σ H1 fun y H2=>R x y H2) {Q:Value -> Shared -> Prop} {f:Value -> Value -> Sem Value}
  (hf:∀ v u s2 x y H2,Inv X pins σ H2 s2 -> RelV x v -> RelV y u -> R x y H2 -> wpAny (model X.prog X.w) X.A (f v u) Q X.xe s2) :
  wpAny (model X.prog X.w) X.A (eval a X.env) (fun v s₁=>wpAny (model X.prog X.w) X.A (eval b X.env) (fun u s₂=>wpAny (model X.prog X.w) X.A (f v u) Q X.xe s₂) X.xe s₁) X.xe s:=by
 refine thn (ha pins s σ H _ I h) fun v s1 ⟨x,H1,I1,r1,q1⟩=>?_
 refine thn (hb pins s1 σ H1 _ I1 q1) fun u s2 ⟨y,H2,I2,r2,q2⟩=>?_
 exact hf v u s2 x y H2 I2 r1 r2 q2
theorem zD {op:Operator} {r:R2} (ho:OpR X (binaryOp op) r) (ha:PE X a ta) (hb:PE X b tb):PE X (.BinOp a op b pos) (tOp r ta tb):=by
 intro pins s σ H Q I h
 exact wpAny_BinOp (J2 ha hb I h fun v u s2 x y H2 I2 rx ry q=>ho pins s2 σ H2 x y v u Q I2 rx ry q)
theorem JP {op:UnaryOp} {r:V -> Hp -> VK -> Prop} (ho:UnR X (unaryOp op) r) (ha:PE X a ta):PE X (.UnaryOp op a pos) (tUn r ta):=by
 intro pins s σ H Q I h
 exact UnaryOp_ (thn (ha pins s σ H _ I h) fun v s1 ⟨x,H1,I1,r1,q1⟩=>ho pins s1 σ H1 x v Q I1 r1 q1)
theorem opI {f:Value -> Value -> Sem Value} {C:Int -> Int -> Prop} {g:Int -> Int -> Int}
  (rule:∀ (i j:Int) (t u:Tok) (s:Shared) (Q:Value -> Shared -> Prop) (E:Value -> Shared -> Prop),C i j -> Q (.int (g i j) s.toks) { s with toks:=s.toks + 1 } -> wpAny (model X.prog X.w) X.A (f (.int i t) (.int j u)) Q E s) :
  OpR X f (rI C fun i j=>.int (g i j)):=by
 intro pins s σ H x y v u Q I rx ry h
 obtain ⟨i,j,rfl,rfl,hc,q⟩:=h
 obtain ⟨t,rfl⟩:=rx
 obtain ⟨t',rfl⟩:=ry
 exact rule i j t t' s _ _ hc ⟨.int (g i j),H,I.tok _,⟨_,rfl⟩,q⟩
theorem KN {f:Value -> Value -> Sem Value} {g:Int -> Int -> Int}
  (rule:∀ (i j:Int) (t u:Tok) (s:Shared) (Q:Value -> Shared -> Prop) (E:Value -> Shared -> Prop),Q (.int (g i j) s.toks) { s with toks:=s.toks + 1 } -> wpAny (model X.prog X.w) X.A (f (.int i t) (.int j u)) Q E s) :
  OpR X f (rI0 fun i j=>.int (g i j)):=by
 intro pins s σ H x y v u Q I rx ry h
 obtain ⟨i,j,rfl,rfl,q⟩:=h
 obtain ⟨t,rfl⟩:=rx
 obtain ⟨t',rfl⟩:=ry
 exact rule i j t t' s _ _ ⟨.int (g i j),H,I.tok _,⟨_,rfl⟩,q⟩
theorem JA {f:Value -> Value -> Sem Value} {g:Int -> Int -> Bool}
  (rule:∀ (i j:Int) (t u:Tok) (s:Shared) (Q:Value -> Shared -> Prop) (E:Value -> Shared -> Prop),Q (.bool (g i j)) s -> wpAny (model X.prog X.w) X.A (f (.int i t) (.int j u)) Q E s) :
  OpR X f (rI0 fun i j=>.bl (g i j)):=by
 intro pins s σ H x y v u Q I rx ry h
 obtain ⟨i,j,rfl,rfl,q⟩:=h
 obtain ⟨t,rfl⟩:=rx
 obtain ⟨t',rfl⟩:=ry
 exact rule i j t t' s _ _ ⟨.bl (g i j),H,I,rfl,q⟩
def zae (i j:Int):Prop:=0 < j /\ j < 1073741824
def CMul (i j:Int):Prop:=(-(2 ^ 64) < i /\ i < 2 ^ 64) \/ (-(2 ^ 64) < j /\ j < 2 ^ 64)
theorem CMul.ok {i j:Int} (h:CMul i j):IntMulOk i j:=by
 rcases h with ⟨h1,h2⟩ | ⟨h1,h2⟩
 ·exact .of_left (intBits_le_64 h1 h2)
 ·exact .of_right (intBits_le_64 h1 h2)
theorem op_add:OpR X (binaryOp .Add) (rI0 fun i j=>.int (i + j)):=KN fun _ _ _ _ _ _ _ q=>add_int q
theorem vA:OpR X (binaryOp .Sub) (rI0 fun i j=>.int (i - j)):=KN fun _ _ _ _ _ _ _ q=>sub_int q
theorem op_mul:OpR X (binaryOp .Mult) (rI CMul fun i j=>.int (i * j)):=opI fun _ _ _ _ _ _ _ hc q=>mul_int q hc.ok
theorem xY:OpR X (binaryOp .FloorDiv) (rI zae fun i j=>.int (i / j)):=opI fun i j _ _ _ _ _ hc q=>by
 have h1:(0:Int) < j:=hc.1
 have h2:j < 1073741824:=hc.2
 exact floordiv_int (by omega) (by rw [Int.fdiv_eq_ediv_of_nonneg i (by omega)]; exact q) (.inl (PyProof.noPylong_small (by omega)))
theorem xm:OpR X (binaryOp .Mod) (rI (fun _ j=>0 < j) fun i j=>.int (i % j)):=opI fun i j _ _ _ _ _ hc q=>by
 have h1:(0:Int) < j:=hc
 exact mod_int' (by omega) (by rw [Int.fmod_eq_emod_of_nonneg i (by omega)]; exact q)
theorem unI {f:Value -> Sem Value} {g:Int -> Int}
  (rule:∀ (i:Int) (t:Tok) (s:Shared) (Q:Value -> Shared -> Prop) (E:Value -> Shared -> Prop),Q (.int (g i) s.toks) { s with toks:=s.toks + 1 } -> wpAny (model X.prog X.w) X.A (f (.int i t)) Q E s) :
  UnR X f (rU fun i=>.int (g i)):=by
 intro pins s σ H x v Q I rx h
 obtain ⟨i,rfl,q⟩:=h
 obtain ⟨t,rfl⟩:=rx
 exact rule i t s _ _ ⟨.int (g i),H,I.tok _,⟨_,rfl⟩,q⟩
theorem Q6:UnR X (unaryOp .USub) (rU fun i=>.int (-i)):=unI fun _ _ _ _ _ q=>neg_int q
end
def UI:V -> V -> Bool
 | .non,.non=>true | .non,.int _=>true | .int _,.non=>true | .non,.bl _=>true | .bl _,.non=>true | .non,.str _=>true | .str _,.non=>true
 | .int _,.int _=>true | .bl _,.bl _=>true | .str _,.str _=>true | .byt _,.byt _=>true
 | .int _,.str _=>true | .str _,.int _=>true | .bl _,.str _=>true | .str _,.bl _=>true
 | _,_=>false
def rEq:R2:=fun x y H Q=>UI x y = true /\ Q (.bl (decide (x = y))) H
def rNe:R2:=fun x y H Q=>UI x y = true /\ Q (.bl (!decide (x = y))) H
theorem XL {i j:Int}:decide (V.int i = V.int j) = (i == j):=by
 rw [Bool.eq_iff_iff]
 simp
theorem VM {i j:Bool}:decide (V.bl i = V.bl j) = (i == j):=by
 rw [Bool.eq_iff_iff]
 simp
theorem Yk {i j:Str}:decide (V.str i = V.str j) = (i == j):=by
 rw [Bool.eq_iff_iff]
 simp
theorem Yv {i j:Array UInt8}:decide (V.byt i = V.byt j) = (i.toList == j.toList):=by
 rw [Bool.eq_iff_iff]
 cases i
 cases j
 simp
section
variable {X:Cx} {a b c:Expr} {ta tb tc:TE} {pos:Pos}
theorem zL {pins:List (Addr × Obj)} {σ:St} {H:Hp} {s:Shared} {Q:VK} {k k':Bool} (I:Inv X pins σ H s) (q:Q (.bl k) H) (e:k = k'):EP X pins σ Q (.bool k') s:=by
 subst e
 exact ⟨.bl k,H,I,rfl,q⟩
theorem uY:OpR X (compareOp .Eq) rEq:=by
 intro pins s σ H x y v u Q I rx ry h
 obtain ⟨hs,q⟩:=h
 cases x with
 | non =>
  cases rx
  cases y with
  | non=>cases ry; exact PySem.EqNone.eq_none_none (zL I q (by simp))
  | bl j=>cases ry; exact PySem.EqNone.eq_none_bool (zL I q (by simp))
  | int j=>obtain ⟨t',rfl⟩:=ry; exact PySem.EqNone.eq_none_int (zL I q (by simp))
  | str j=>obtain ⟨t',rfl⟩:=ry; exact PySem.EqNone.eq_none_str (zL I q (by simp))
  | _=>exact absurd (show false = true from hs) Bool.false_ne_true
 | bl i =>
  cases rx
  cases y with
  | non=>cases ry; exact PySem.EqNone.eq_bool_none (zL I q (by simp))
  | bl j=>cases ry; exact eq_bool (zL I q VM)
  | str j=>obtain ⟨t',rfl⟩:=ry; exact PySem.EqMixed.eq_bool_str (zL I q (by simp))
  | _=>exact absurd (show false = true from hs) Bool.false_ne_true
 | int i =>
  obtain ⟨t,rfl⟩:=rx
  cases y with
  | non=>cases ry; exact PySem.EqNone.eq_int_none (zL I q (by simp))
  | int j=>obtain ⟨t',rfl⟩:=ry; exact eq_int (zL I q XL)
  | str j=>obtain ⟨t',rfl⟩:=ry; exact PySem.EqMixed.eq_int_str (zL I q (by simp))
  | _=>exact absurd (show false = true from hs) Bool.false_ne_true
 | str i =>
  obtain ⟨t,rfl⟩:=rx
  cases y with
  | non=>cases ry; exact PySem.EqNone.eq_str_none (zL I q (by simp))
  | bl j=>cases ry; exact PySem.EqMixed.eq_str_bool (zL I q (by simp))
  | int j=>obtain ⟨t',rfl⟩:=ry; exact PySem.EqMixed.eq_str_int (zL I q (by simp))
  | str j=>obtain ⟨t',rfl⟩:=ry; exact eq_str (zL I q Yk)
  | _=>exact absurd (show false = true from hs) Bool.false_ne_true
 | byt i =>
  obtain ⟨t,rfl⟩:=rx
  cases y with
  | byt j=>obtain ⟨t',rfl⟩:=ry; exact PySem.W.eq_bytes (zL I q Yv)
  | _=>exact absurd (show false = true from hs) Bool.false_ne_true
 | _=>cases y <;> exact absurd (show false = true from hs) Bool.false_ne_true
theorem ZE:OpR X (compareOp .NotEq) rNe:=by
 intro pins s σ H x y v u Q I rx ry h
 obtain ⟨hs,q⟩:=h
 cases x with
 | non =>
  cases rx
  cases y with
  | non=>cases ry; exact PySem.EqNone.ne_none_none (zL I q (by simp))
  | bl j=>cases ry; exact PySem.EqNone.ne_none_bool (zL I q (by simp))
  | int j=>obtain ⟨t',rfl⟩:=ry; exact PySem.EqNone.ne_none_int (zL I q (by simp))
  | str j=>obtain ⟨t',rfl⟩:=ry; exact PySem.EqNone.ne_none_str (zL I q (by simp))
  | _=>exact absurd (show false = true from hs) Bool.false_ne_true
 | bl i =>
  cases rx
  cases y with
  | non=>cases ry; exact PySem.EqNone.ne_bool_none (zL I q (by simp))
  | bl j=>cases ry; exact ne_bool (zL I q (congrArg not VM))
  | str j=>obtain ⟨t',rfl⟩:=ry; exact PySem.EqMixed.ne_bool_str (zL I q (by simp))
  | _=>exact absurd (show false = true from hs) Bool.false_ne_true
 | int i =>
  obtain ⟨t,rfl⟩:=rx
  cases y with
  | non=>cases ry; exact PySem.EqNone.ne_int_none (zL I q (by simp))
  | int j=>obtain ⟨t',rfl⟩:=ry; exact ne_int (zL I q (congrArg not XL))
  | str j=>obtain ⟨t',rfl⟩:=ry; exact PySem.EqMixed.ne_int_str (zL I q (by simp))
  | _=>exact absurd (show false = true from hs) Bool.false_ne_true
 | str i =>
  obtain ⟨t,rfl⟩:=rx
  cases y with
  | non=>cases ry; exact PySem.EqNone.ne_str_none (zL I q (by simp))
  | bl j=>cases ry; exact PySem.EqMixed.ne_str_bool (zL I q (by simp))
  | int j=>obtain ⟨t',rfl⟩:=ry; exact PySem.EqMixed.ne_str_int (zL I q (by simp))
  | str j=>obtain ⟨t',rfl⟩:=ry; exact ne_str (zL I q (congrArg not Yk))
  | _=>exact absurd (show false = true from hs) Bool.false_ne_true
 | byt i =>
  obtain ⟨t,rfl⟩:=rx
  cases y with
  | byt j=>obtain ⟨t',rfl⟩:=ry; exact PySem.W.ne_bytes (zL I q (congrArg not Yv))
  | _=>exact absurd (show false = true from hs) Bool.false_ne_true
 | _=>cases y <;> exact absurd (show false = true from hs) Bool.false_ne_true
theorem op_lt:OpR X (compareOp .Lt) (rI0 fun i j=>.bl (decide (i < j))):=JA fun _ _ _ _ _ _ _ q=>lt_int q
theorem op_le:OpR X (compareOp .LtE) (rI0 fun i j=>.bl (decide (i <= j))):=JA fun _ _ _ _ _ _ _ q=>le_int q
theorem op_gt:OpR X (compareOp .Gt) (rI0 fun i j=>.bl (decide (j < i))):=JA fun _ _ _ _ _ _ _ q=>gt_int q
theorem Ki:OpR X (compareOp .GtE) (rI0 fun i j=>.bl (decide (j <= i))):=JA fun _ _ _ _ _ _ _ q=>ge_int q
theorem Yp:OpR X (compareOp .Lt) (fun x y H Q=>∃ i j,x = .str i /\ y = .str j /\ Q (.bl (decide (i.cps.toList < j.cps.toList))) H):=by
 intro pins s σ H x y v u Q I rx ry h
 obtain ⟨i,j,rfl,rfl,q⟩:=h
 obtain ⟨t,rfl⟩:=rx
 obtain ⟨t',rfl⟩:=ry
 exact lt_str (zL I q rfl)
theorem YN:OpR X (compareOp .In) (fun x y H Q=>∃ i j,x = .str i /\ y = .str j /\ Q (.bl (!(Builtin.Str.occurrences j i 0 j.length 1).isEmpty)) H):=by
 intro pins s σ H x y v u Q I rx ry h
 obtain ⟨i,j,rfl,rfl,q⟩:=h
 obtain ⟨t,rfl⟩:=rx
 obtain ⟨t',rfl⟩:=ry
 exact in_str (zL I q rfl)
theorem Jh:OpR X (compareOp .Is) (fun x y H Q=>y = .non /\ Q (.bl (decide (x = .non))) H):=by
 intro pins s σ H x y v u Q I rx ry h
 obtain ⟨rfl,q⟩:=h
 cases ry
 refine is_none_gen (zL I q ?_)
 cases x <;> first
  | (cases rx; rfl)
  | (obtain ⟨t,rfl⟩:=rx; rfl)
theorem Uo:OpR X (compareOp .IsNot) (fun x y H Q=>y = .non /\ Q (.bl (!decide (x = .non))) H):=by
 intro pins s σ H x y v u Q I rx ry h
 obtain ⟨rfl,q⟩:=h
 cases ry
 refine isnot_none_gen (zL I q ?_)
 cases x <;> first
  | (cases rx; rfl)
  | (obtain ⟨t,rfl⟩:=rx; rfl)
theorem jQ:OpR X (compareOp .NotIn) (fun x y H Q=>∃ i j,x = .str i /\ y = .str j /\ Q (.bl (!(!(Builtin.Str.occurrences j i 0 j.length 1).isEmpty))) H):=by
 intro pins s σ H x y v u Q I rx ry h
 obtain ⟨i,j,rfl,rfl,q⟩:=h
 obtain ⟨t,rfl⟩:=rx
 obtain ⟨t',rfl⟩:=ry
 exact notIn_str (zL I q rfl)
theorem OpR.or {f:Value -> Value -> Sem Value} {r r':R2} (h:OpR X f r) (h':OpR X f r'):OpR X f (fun x y H Q=>r x y H Q \/ r' x y H Q):=by
 intro pins s σ H x y v u Q I rx ry q
 rcases q with q | q
 ·exact h pins s σ H x y v u Q I rx ry q
 ·exact h' pins s σ H x y v u Q I rx ry q
theorem zJ (b:Expr) {op:CmpOp} (h:op ≠ .In:=by decide) (h2:op ≠ .NotIn:=by decide):behindInMarks op b = false:=by
 have e1:(op == CmpOp.In) = false:=by cases op <;> first | rfl | exact absurd rfl h
 have e2:(op == CmpOp.NotIn) = false:=by cases op <;> first | rfl | exact absurd rfl h2
 cases b <;> simp [behindInMarks,e1,e2]
theorem jk {op:CmpOp} {r:R2} (ho:OpR X (compareOp op) r) (ha:PE X a ta) (hb:PE X b tb) (hm:behindInMarks op b = false):PE X (.Compare a [op] [b] pos) (tOp r ta tb):=by
 intro pins s σ H Q I h
 exact wpAny_Compare1 (J2 ha hb I h fun v u s2 x y H2 I2 rx ry q=>ho pins s2 σ H2 x y v u Q I2 rx ry q) hm
def UU (t:TE):TT:=fun σ H Q=>t σ H fun x H'=>∃ k,x = .bl k /\ Q k H'
theorem zC {op:CmpOp} {r:R2} (ho:OpR X (compareOp op) r) (ha:PE X a ta) (hb:PE X b tb) (hm:behindInMarks op b = false):PT X (.Compare a [op] [b] pos) (UU (tOp r ta tb)):=by
 intro pins s σ H Q I h
 refine wpAny_isTrue_Compare1 (thn (ha pins s σ H _ I h) fun v s1 ⟨x,H1,I1,r1,q1⟩=>thn (hb pins s1 σ H1 _ I1 q1) fun u s2 ⟨y,H2,I2,r2,q2⟩ =>
  thn (ho pins s2 σ H2 x y v u _ I2 r1 r2 q2) fun c s3 ⟨z,H3,I3,r3,k,e,q3⟩=>?_) hm
 subst e
 cases r3
 exact wpAny_truthy_bool ⟨H3,I3,q3⟩
def YI (r r':R2) (ta tb tc:TE):TE:=fun σ H Q=>ta σ H fun x H1=>tb σ H1 fun y H2=>r x y H2 fun z H3=>∃ k,z = .bl k /\
 (if k = true then tc σ H3 fun w' H4=>r' y w' H4 Q else Q (.bl false) H3)
theorem WI {op op':CmpOp} {r r':R2} (ho:OpR X (compareOp op) r) (ho':OpR X (compareOp op') r') (ha:PE X a ta) (hb:PE X b tb) (hc:PE X c tc)
  (hm:lastMarks [op,op'] [b,c] = false:=by with_unfolding_all rfl):PE X (.Compare a [op,op'] [b,c] pos) (YI r r' ta tb tc):=by
 intro pins s σ H Q I h
 refine Compare_chain (thn (ha pins s σ H _ I h) fun v s1 ⟨x,H1,I1,r1,q1⟩=>chain_link (thn (hb pins s1 σ H1 _ I1 q1) fun u s2 ⟨y,H2,I2,r2,q2⟩ =>
  thn (ho pins s2 σ H2 x y v u _ I2 r1 r2 q2) fun d s3 ⟨z,H3,I3,r3,k,e,q3⟩=>?_)) hm
 subst e
 cases r3
 refine wpAny_truthy_bool ?_
 cases k with
 | false=>exact ite_ff ⟨.bl false,H3,I3,rfl,q3⟩
 | true=>exact ite_tt (chain_last (thn (hc pins s3 σ H3 _ I3 q3) fun w' s4 ⟨z',H4,I4,r4,q4⟩=>ho' pins s4 σ H4 y z' u w' Q I4 r2 r4 q4))
theorem je {op op':CmpOp} {r r':R2} (ho:OpR X (compareOp op) r) (ho':OpR X (compareOp op') r') (ha:PE X a ta) (hb:PE X b tb) (hc:PE X c tc)
  (hm:lastMarks [op,op'] [b,c] = false:=by with_unfolding_all rfl):PT X (.Compare a [op,op'] [b,c] pos) (UU (YI r r' ta tb tc)):=by
 intro pins s σ H Q I h
 refine isTrue_chain (thn (ha pins s σ H _ I h) fun v s1 ⟨x,H1,I1,r1,q1⟩=>test_link (thn (hb pins s1 σ H1 _ I1 q1) fun u s2 ⟨y,H2,I2,r2,q2⟩ =>
  thn (ho pins s2 σ H2 x y v u _ I2 r1 r2 q2) fun d s3 ⟨z,H3,I3,r3,k,e,q3⟩=>?_)) hm
 subst e
 cases r3
 refine wpAny_truthy_bool ?_
 cases k with
 | false =>
  obtain ⟨k',e',q'⟩:=q3
  cases e'
  exact ite_ff ⟨H3,I3,q'⟩
 | true =>
  refine ite_tt (test_last (thn (hc pins s3 σ H3 _ I3 q3) fun w' s4 ⟨z',H4,I4,r4,q4⟩=>thn (ho' pins s4 σ H4 y z' u w' _ I4 r2 r4 q4) fun d' s5 ⟨z2,H5,I5,r5,k2,e2,q5⟩=>?_))
  subst e2
  cases r5
  exact wpAny_truthy_bool ⟨H5,I5,q5⟩
def Qk (K:PySem.W.Frag) (x:V) (H:Hp) (k:Bool):Prop :=
 match x with
 | .non=>k = false
 | .bl b=>k = b
 | .int i=>k = (i != 0)
 | .str y=>y.length <= sizeLine /\ k = ((y.length:Int) != 0)
 | .byt y=>y.size <= sizeLine /\ k = ((y.size:Int) != 0)
 | .ref p=>(∃ xs,SqL K H p xs /\ k = !xs.isEmpty) \/ (∃ xs,SqT K H p xs /\ k = !xs.isEmpty) \/ ∃ kvs,H p = some (.dK kvs) /\ k = !kvs.isEmpty
 | _=>False
theorem Yd {κ:Type} {kvs:List (κ × V)} {vs:List (κ × Value)} (r:KV kvs vs):(!vs.isEmpty) = !kvs.isEmpty:=by
 cases r <;> rfl
theorem qr {xs:List V} {its:List Value} (r:Vals xs its):(!its.toArray.isEmpty) = !xs.isEmpty:=by
 cases r <;> simp
theorem jF:(sizeLine:Nat) < 2 ^ 63:=by rw [sizeLine_eq]; decide
theorem Vy:K5 X (fun x H Q=>∃ k,Qk X.K x H k /\ Q k H):=by
 intro pins s σ H x v Q I rx h
 obtain ⟨k,e,q⟩:=h
 have hl:=jF
 have hs:sizeLine = 16777216:=sizeLine_eq
 cases x with
 | non =>
  cases rx
  have e':k = false:=e
  subst e'
  exact truthy_none ⟨H,I,q⟩
 | bl b =>
  cases rx
  have e':k = b:=e
  subst e'
  exact wpAny_truthy_bool ⟨H,I,q⟩
 | int i =>
  obtain ⟨t,rfl⟩:=rx
  have e':k = (i != 0):=e
  subst e'
  exact PySem.P.truthy_int ⟨H,I,q⟩
 | str y =>
  obtain ⟨t,rfl⟩:=rx
  obtain ⟨hy,e'⟩:y.length <= sizeLine /\ k = ((y.length:Int) != 0):=e
  subst e'
  exact PySem.P.truthy_str (by omega) ⟨H,I.tok _,q⟩
 | byt y =>
  obtain ⟨t,rfl⟩:=rx
  obtain ⟨hy,e'⟩:y.size <= sizeLine /\ k = ((y.size:Int) != 0):=e
  subst e'
  exact PySem.W.truthy_bytes (by omega) ⟨H,I.tok _,q⟩
 | ref p =>
  cases rx
  have e':(∃ xs,SqL X.K H p xs /\ k = !xs.isEmpty) \/ (∃ xs,SqT X.K H p xs /\ k = !xs.isEmpty) \/ ∃ kvs,H p = some (.dK kvs) /\ k = !kvs.isEmpty:=e
  rcases e' with ⟨xs,hx,e'⟩ | ⟨xs,hx,e'⟩ | ⟨kvs,hx,e'⟩
  ·subst e'
   obtain ⟨its,r,pl,hz⟩:=I.list hx
   have hlen:=r.length
   exact wpAny_truthy_list pl.isList (by simp only [List.size_toArray]; omega) ⟨H,I.tok _,by rw [qr r]; exact q⟩
  ·subst e'
   obtain ⟨its,r,pl,hz⟩:=I.tuple hx
   have hlen:=r.length
   exact truthy_tuple pl (by simp only [List.size_toArray]; omega) ⟨H,I.tok _,by rw [qr r]; exact q⟩
  ·subst e'
   obtain ⟨hz,hS,vs,r,m⟩:kvs.length <= sizeLine /\ (p == sysModules) = false /\ ∃ vs,KV kvs vs /\ s.heap.DictOf (j4 X.prog X.w) p vs:=I.hok p _ hx
   have hlen:kvs.length = vs.length:=Paired.length r
   exact wpAny_truthy_dict hS m (by omega) ⟨H,I.tok _,by rw [Yd r]; exact q⟩
 | _=>exact (show False from e).elim
theorem Zi (ha:PE X a ta) (he:∀ whole,isTrue a X.env whole = (do let v <- whole; standAt a.pos; holding [v] (truthy v))) :
  PT X a (fun σ H Q=>ta σ H fun x H'=>∃ k,Qk X.K x H' k /\ Q k H'):=by
 intro pins s σ H Q I h
 exact isTrue_plain (thn (ha pins s σ H _ I h) fun v s1 ⟨x,H1,I1,r1,q1⟩=>Vy pins s1 σ H1 x v Q I1 r1 q1) (he _)
theorem op_add_str:OpR X (binaryOp .Add) (fun x y H Q=>∃ i j,x = .str i /\ y = .str j /\ i.length + j.length <= sizeLine /\ Q (.str (i ++ j)) H):=by
 intro pins s σ H x y v u Q I rx ry h
 obtain ⟨i,j,rfl,rfl,hz,q⟩:=h
 obtain ⟨t,rfl⟩:=rx
 obtain ⟨t',rfl⟩:=ry
 exact add_str (fun t' tk=>⟨.str (i ++ j),H,I.tok _,⟨_,rfl⟩,q⟩) hz
theorem xD {x:V} {us:List Value} (r:Vals [x] us):∃ u,us = [u] /\ RelV x u:=by
 cases r with
 | cons r1 r2=>cases r2; exact ⟨_,rfl,r1⟩
theorem Xw {x y:V} {us:List Value} (r:Vals [x,y] us):∃ u w',us = [u,w'] /\ RelV x u /\ RelV y w':=by
 cases r with
 | cons r1 r2 =>
  cases r2 with
  | cons r3 r4=>cases r4; exact ⟨_,_,rfl,r1,r3⟩
theorem Yr (hc:X.calm = true):wH X (.builtin "max") (fun xs H Q=>∃ i j,xs = [.int i,.int j] /\ Q (.int (if j > i then j else i)) H):=by
 intro pins s σ H xs us Q I r h
 obtain ⟨i,j,rfl,q⟩:=h
 obtain ⟨u,w',rfl,⟨t,rfl⟩,⟨t',rfl⟩⟩:=Xw r
 refine max_two_ints (I.ok.hd hc) fun h' tk k=>⟨_,H,I.kept k,?_,q⟩
 by_cases hj:j > i
 ·rw [if_pos hj,if_pos hj]; exact ⟨_,rfl⟩
 ·rw [if_neg hj,if_neg hj]; exact ⟨_,rfl⟩
theorem Xr:wH X (.type "int") (fun xs H Q=>(∃ i,xs = [.int i] /\ Q (.int i) H) \/ ∃ k,xs = [.bl k] /\ Q (.int (if k then 1 else 0)) H):=by
 intro pins s σ H xs us Q I r h
 rcases h with ⟨i,rfl,q⟩ | ⟨k,rfl,q⟩
 ·obtain ⟨u,rfl,t,rfl⟩:=xD r
  exact call_int_int ⟨.int i,H,I,⟨_,rfl⟩,q⟩
 ·obtain ⟨u,rfl,r1⟩:=xD r
  cases r1
  exact call_int_bool ⟨.int (if k then 1 else 0),H,I.tok _,⟨_,rfl⟩,q⟩
def Ku (K:PySem.W.Frag) (x:V) (H:Hp) (n:Nat):Prop :=
 match x with
 | .str y=>y.length <= sizeLine /\ n = y.length
 | .byt y=>y.size <= sizeLine /\ n = y.size
 | .ref p=>(∃ xs,SqL K H p xs /\ n = xs.length) \/ ∃ xs,SqT K H p xs /\ n = xs.length
 | _=>False
theorem WD:wH X (.builtin "len") (fun xs H Q=>∃ x n,xs = [x] /\ Ku X.K x H n /\ Q (.int n) H):=by
 intro pins s σ H xs us Q I r h
 obtain ⟨x,n,rfl,e,q⟩:=h
 obtain ⟨u,rfl,rx⟩:=xD r
 have hl:=jF
 have hs:sizeLine = 16777216:=sizeLine_eq
 cases x with
 | str y =>
  obtain ⟨t,rfl⟩:=rx
  obtain ⟨hy,e'⟩:y.length <= sizeLine /\ n = y.length:=e
  subst e'
  exact len_str (by omega) ⟨.int _,H,I.tok _,⟨_,rfl⟩,q⟩
 | byt y =>
  obtain ⟨t,rfl⟩:=rx
  obtain ⟨hy,e'⟩:y.size <= sizeLine /\ n = y.size:=e
  subst e'
  exact PySem.W.len_bytes (by omega) ⟨.int _,H,I.tok _,⟨_,rfl⟩,q⟩
 | ref p =>
  cases rx
  have e':(∃ xs,SqL X.K H p xs /\ n = xs.length) \/ ∃ xs,SqT X.K H p xs /\ n = xs.length:=e
  rcases e' with ⟨xs,hx,e'⟩ | ⟨xs,hx,e'⟩
  ·subst e'
   obtain ⟨its,r',pl,hz⟩:=I.list hx
   have hlen:=r'.length
   exact Calls.call_len_list pl.isList (by simp only [List.size_toArray]; omega) ⟨.int xs.length,H,I.tok _,⟨_,by simp only [List.size_toArray]; rw [hlen]⟩,q⟩
  ·subst e'
   obtain ⟨its,r',pl,hz⟩:=I.tuple hx
   have hlen:=r'.length
   exact len_tuple pl (by simp only [List.size_toArray]; omega) ⟨.int xs.length,H,I.tok _,⟨_,by simp only [List.size_toArray]; rw [hlen]⟩,q⟩
 | _=>exact (show False from e).elim
end
end L2
namespace L2
open PySem PySem.Spec PyProof.Rows
structure ObjM (h:Heap) (x dx C:Addr) (mA:Str -> Option Value):Prop where
 obj:h.get? x = some (PySem.W.instObj C dx)
 ns:h.Ns1 dx mA
 ne:dx ≠ x
theorem YR {h:Heap} {dx:Addr} {mA:Str -> Option Value} (n:h.Ns1 dx mA):∃ od,h.get? dx = some od /\ ∀ name,PySem.W.lookIn name od = some (mA name):=by
 obtain ⟨o,es,ep,ho,hd,hk,_,hm⟩:=n
 refine ⟨o,ho,fun name=>?_⟩
 have e:=hm name
 unfold nsFind findBy at e
 rw [<- Array.find?_toList] at e
 unfold PySem.W.lookIn
 rw [hd]
 dsimp only
 split
 ·rename_i y q
  rw [q] at e
  exact congrArg some e
 ·rename_i q
  rw [q] at e
  have a:es.toList.any (·.refKey) = false:=by
   rw [List.any_eq_false]
   intro y hy
   obtain ⟨z,t,hkey⟩:=hk y (Array.mem_toList_iff.mp hy)
   simp [DictEntry.refKey,hkey]
  have a':¬ es.toList.any (·.refKey) = true:=by rw [a]; exact Bool.false_ne_true
  rw [if_neg a']
  exact congrArg some e
theorem ObjM.look {h:Heap} {x dx C:Addr} {mA:Str -> Option Value} (I:ObjM h x dx C mA):∃ od,PySem.W.InstAt h x (PySem.W.instObj C dx) C (some od) /\ ∀ name,PySem.W.lookIn name od = some (mA name) :=
 let ⟨od,ho,hl⟩:=YR I.ns
 ⟨od,⟨I.obj,rfl,rfl,ho⟩,hl⟩
section
variable {prog:Program} {w:World} {A:Around} {E:Value -> Shared -> Prop} {s:Shared} {K:PySem.W.Frag} {x dx C f:Addr} {mA:Str -> Option Value} {name:Str} {v:Value}
theorem UF {expr:Bool} {Q:Value -> Shared -> Prop} (X:K.In s.heap) (I:ObjM s.heap x dx C mA) (hg:PySem.W.plainGet K C name = true) (hh:PySem.W.hasDictIn K C = true)
  (ha:PySem.W.findIn K (.ref C) name = some none) (hv:mA name = some v) (hv':PySem.W.handedIn v = true) (h:Q v { s with toks:=s.toks + 1 }) :
  wpAny (model prog w) A (getAttr (.ref x) name expr) Q E s:=by
 obtain ⟨od,J,hl⟩:=I.look
 exact PySem.W.get_value X J (PySem.W.plainGet_of hg).1 (PySem.W.findObj_own hh ha rfl (by rw [hl,hv])) hv' h
theorem Ww {pl:Sem Bool} {Q:Value × List Value -> Shared -> Prop} (X:K.In s.heap) (I:ObjM s.heap x dx C mA) (hg:PySem.W.plainGet K C name = true)
  (hf:PySem.W.findIn K (.ref C) name = some (some (.ref f))) (ht:PySem.W.isFn K (.ref f) = true) (hv:mA name = none) (h:Q (.ref f,[.ref x]) s) :
  wpAny (model prog w) A (getMethod (.ref x) name pl) Q E s:=by
 obtain ⟨od,J,hl⟩:=I.look
 exact PySem.W.method_fn X J (PySem.W.plainGet_of hg).1 (PySem.W.plainGet_of hg).2 hf (beq_iff_eq.mp ht) (by show (PySem.W.lookIn name od).map (·.isSome) = some false; rw [hl,hv]; rfl) h
theorem UV {ns:List Str} {Q:Unit -> Shared -> Prop} (X:K.In s.heap) (I:ObjM s.heap x dx C mA)
  (hs:PySem.W.findIn K (.ref C) "__setattr__" = some (some (.builtin "object.__setattr__"))) (hp:PySem.W.plainOver K C = true) (ht:PySem.W.takerIn K C name = some none) (hh:PySem.W.hasDictIn K C = true)
  (hw:PySem.Within mA ns) (hsz:ns.length <= sizeLine)
  (h:∀ h',ObjM h' x dx C (fun y=>if y = name then some v else mA y) -> Heap.SameBut dx s.heap h' -> Q () { s with heap:=h',toks:=s.toks + 2 }) :
  wpAny (model prog w) A (setAttr (.ref x) name v) Q E s:=by
 obtain ⟨od,J,hl⟩:=I.look
 refine PySem.W.set_plain X J hs (PySem.W.osa_open (s:={ s with toks:=s.toks + 1 }) (r:=none) X J hp ht fun b=>?_)
 obtain ⟨cd,hc,hd'⟩:=PySem.W.any_some hh
 have hx:s.heap.get? x = some ⟨.ref C,some dx,.plain,#[]⟩:=I.obj
 refine wpAny_bind (wpAny_pure (wpAny_bind (wpAny_bind (wpAny_loadPart hx (wpAny_bind (PySem.W.Looks.here (s:={ s with toks:=s.toks + 1 }) (PySem.W.looks_clsIn X hc) ?_))))))
 rw [hd']
 refine wpAny_pure (a:=some dx) (wpAny_bind (wpAny_pure (wpAny_bind ?_)))
 refine wpAny_nsSet1 (s:={ s with toks:=s.toks + 1 }) I.ns fun h' hn2 hs2=>?_
 obtain ⟨oD,esD,epD,hoD,hdD,hcD⟩:=hn2.count (PySem.Within.cons name v hw)
 refine wpAny_bind (wpAny_lookBehind hoD (by rw [hdD]; exact pastItsLine_dict (Nat.le_trans hcD (by rw [List.length_cons]; omega))) ?_)
 exact wpAny_pure (h _ ⟨(hs2.2 _ (Ne.symm I.ne)).trans I.obj,hn2,I.ne⟩ hs2)
theorem W4 {R:Result -> Shared -> Prop} {vs:List Value} {kw:List (Str × Value)} (X:K.In s.heap) (hm:PySem.W.makesIn K C = true)
  (hi:PySem.W.findIn K (.ref C) "__init__" = some (some (.ref f))) (hf:PySem.W.typeIn K (.ref f) = some (.type "function"))
  (h:codeAny (model prog w) (A.under (.builtin "type.__call__" ⟨.ref C :: vs,kw⟩)) (.call (.ref f) ⟨.ref (s.heap.objs.size + 1) :: vs,kw⟩) (PySem.W.InitBack (s.heap.objs.size + 1) R)
   { s with heap:=(s.heap.push PySem.W.emptyDict).push (PySem.W.instObj C s.heap.objs.size) }) :
  codeAny (model prog w) A (.call (.ref C) ⟨vs,kw⟩) R s:=by
 obtain ⟨hh,g,d,t,os⟩:=s
 exact PySem.W.make_core (PySem.W.makes_of X hm) (PySem.W.looks_findIn X hi) (fun self=>PySem.W.bind_fn X self hf) (.inl rfl) h
end
def jr (f:Str) (v:V):List (Str × V) -> List (Str × V)
  | []=>[(f,v)]
  | (g,x) :: r=>if g = f then (g,v) :: r else (g,x) :: jr f v r
theorem uW (f g:Str) (v:V):∀ fs:List (Str × V),(jr f v fs).lookup g = if g = f then some v else fs.lookup g
  | []=>by
    show List.lookup g [(f,v)] = _
    by_cases h:g = f
    · have hb:(g == f) = true:=beq_iff_eq.mpr h
      simp only [List.lookup,hb,if_pos h]
    · have hb:(g == f) = false:=beq_eq_false_iff_ne.mpr h
      simp only [List.lookup,hb,if_neg h]
  | (k,x) :: r=>by
    have ih:=uW f g v r
    rw [show jr f v ((k,x) :: r) = (if k = f then (k,v) :: r else (k,x) :: jr f v r) from rfl]
    by_cases hk:k = f
    · rw [if_pos hk]
      by_cases h:g = k
      · have hb:(g == k) = true:=beq_iff_eq.mpr h
        simp only [List.lookup,hb,if_pos (h.trans hk)]
      · have hb:(g == k) = false:=beq_eq_false_iff_ne.mpr h
        simp only [List.lookup,hb,if_neg (fun e:g = f=>h (e.trans hk.symm))]
    · rw [if_neg hk]
      by_cases h:g = k
      · have hb:(g == k) = true:=beq_iff_eq.mpr h
        simp only [List.lookup,hb,if_neg (fun e:g = f=>hk (h.symm.trans e))]
      · have hb:(g == k) = false:=beq_eq_false_iff_ne.mpr h
        simp only [List.lookup,hb]
        exact ih
theorem uP (f:Str) (v:V):∀ fs:List (Str × V),f ∈ (jr f v fs).map (·.1) /\ ∀ g,g ∈ fs.map (·.1) -> g ∈ (jr f v fs).map (·.1)
  | []=>⟨by simp [jr],fun g h=>by simp at h⟩
  | (k,x) :: r=>by
    obtain ⟨i1,i2⟩:=uP f v r
    rw [show jr f v ((k,x) :: r) = (if k = f then (k,v) :: r else (k,x) :: jr f v r) from rfl]
    by_cases hk:k = f
    · rw [if_pos hk]
      subst hk
      exact ⟨by simp,fun g h=>by simpa using h⟩
    · rw [if_neg hk]
      refine ⟨?_,fun g h=>?_⟩
      · rw [List.map_cons]
        exact List.mem_cons_of_mem _ i1
      · rw [List.map_cons] at h ⊢
        rcases List.mem_cons.mp h with e | e
        · exact List.mem_cons.mpr (.inl e)
        · exact List.mem_cons_of_mem _ (i2 g e)
theorem ue (f:Str) (v:V):∀ fs:List (Str × V),(jr f v fs).length <= fs.length + 1
  | []=>by simp [jr]
  | (k,x) :: r=>by
    have ih:=ue f v r
    rw [show jr f v ((k,x) :: r) = (if k = f then (k,v) :: r else (k,x) :: jr f v r) from rfl]
    by_cases hk:k = f
    · rw [if_pos hk,List.length_cons,List.length_cons]; omega
    · rw [if_neg hk,List.length_cons,List.length_cons]; omega
theorem RelO.some_of {v:V} {o:Option Value} (r:RelO (some v) o):∃ u,o = some u /\ RelV v u:=by
 cases o with
 | none=>exact (show False from r).elim
 | some u=>exact ⟨u,rfl,r⟩
theorem RelO.none_of {o:Option Value} (r:RelO none o):o = none:=by
 cases o with
 | none=>rfl
 | some u=>exact (show False from r).elim
theorem Y1 {v:V} {u:Value} (r:RelV v u):PySem.W.handedIn u = true:=by
 cases v with
 | non=>cases (show u = Value.none from r); rfl
 | bl b=>cases (show u = Value.bool b from r); rfl
 | int i=>obtain ⟨t,e⟩:=(show ∃ t,u = Value.int i t from r); cases e; rfl
 | str x=>obtain ⟨t,e⟩:=(show ∃ t,u = Value.str x t from r); cases e; rfl
 | byt b=>obtain ⟨t,e⟩:=(show ∃ t,u = Value.bytes b t from r); cases e; rfl
 | flt b=>obtain ⟨t,e⟩:=(show ∃ t,u = Value.float b t from r); cases e; rfl
 | ref a=>cases (show u = Value.ref a from r); rfl
 | ty n=>cases (show u = Value.type n from r); rfl
section
variable {P:Program} {w:World} {H H':Hp} {h h':Heap} {a C dx:Addr} {fs fs':List (Str × V)}
theorem qW (hok:HOk P w H h) (e:H a = some (.ins C dx fs)):∃ mA,ObjM h a dx C mA /\ (∀ f,RelO (fs.lookup f) (mA f)) /\ PySem.Within mA (fs.map (·.1)) /\ fs.length <= 1000 /\ H dx = some (.own a):=by
 obtain ⟨d,z,ne,ob,mA,n,r,q⟩:=(show ObjOk P w H h a (.ins C dx fs) from hok a _ e)
 exact ⟨mA,⟨ob,n,ne⟩,r,q,z,d⟩
end
structure Cls (K:PySem.W.Frag) (C:Addr):Prop where
 pg:PySem.W.plainGet K C Str.empty = true
 hd:PySem.W.hasDictIn K C = true
 po:PySem.W.plainOver K C = true
 sa:PySem.W.findIn K (.ref C) "__setattr__" = some (some (.builtin "object.__setattr__"))
theorem Cls.get {K:PySem.W.Frag} {C:Addr} (c:Cls K C) (f:Str):PySem.W.plainGet K C f = true:=c.pg
def NoAttr (K:PySem.W.Frag) (C:Addr) (f:Str):Prop:=PySem.W.findIn K (.ref C) f = some none
theorem NoAttr.taker {K:PySem.W.Frag} {C:Addr} {f:Str} (n:NoAttr K C f):PySem.W.takerIn K C f = some none:=by
 unfold PySem.W.takerIn
 rw [show PySem.W.findIn K (.ref C) f = some none from n]
 rfl
structure Jb (K:PySem.W.Frag) (C:Addr) (m:Str) (f:Addr):Prop where
 at_:PySem.W.findIn K (.ref C) m = some (some (.ref f))
 fn:PySem.W.isFn K (.ref f) = true
 kp:PySem.W.keepIn K (.ref f) = true
section
variable {X:Cx} {pins:List (Addr × Obj)} {σ:St} {H:Hp} {s:Shared} {a C dx:Addr} {fs:List (Str × V)} {f:Str} {v:V} {A:Around} {E:Value -> Shared -> Prop}
theorem Z6 {b:Bool} {Q:Value -> Shared -> Prop} (I:Inv X pins σ H s) (e:H a = some (.ins C dx fs)) (c:Cls X.K C) (n:NoAttr X.K C f) (l:fs.lookup f = some v)
  (h:∀ u s',Inv X pins σ H s' -> RelV v u -> Q u s'):wpAny (model X.prog X.w) A (getAttr (.ref a) f b) Q E s:=by
 obtain ⟨mA,O,r,_,_,_⟩:=qW I.hok e
 obtain ⟨u,hu,ru⟩:=RelO.some_of (v:=v) (o:=mA f) (by rw [<- l]; exact r f)
 exact UF I.kIn O (c.get f) c.hd n hu (Y1 ru) (h u _ (I.tok _) ru)
theorem xz {m:Str} {g:Addr} {pl:Sem Bool} {Q:Value × List Value -> Shared -> Prop} (I:Inv X pins σ H s) (e:H a = some (.ins C dx fs)) (c:Cls X.K C) (k:Jb X.K C m g) (l:fs.lookup m = none)
  (h:Q (.ref g,[.ref a]) s):wpAny (model X.prog X.w) A (getMethod (.ref a) m pl) Q E s:=by
 obtain ⟨mA,O,r,_,_,_⟩:=qW I.hok e
 have hn:mA m = none:=RelO.none_of (by rw [<- l]; exact r m)
 exact Ww I.kIn O (c.get m) k.at_ k.fn hn h
theorem ZO {y:V} {u:Value} {Q:Unit -> Shared -> Prop} (I:Inv X pins σ H s) (e:H a = some (.ins C dx fs)) (c:Cls X.K C) (n:NoAttr X.K C f) (hl:fs.length < 1000) (ry:RelV y u)
  (h:∀ s',Inv X pins σ (upd H a (.ins C dx (jr f y fs))) s' -> Q () s'):wpAny (model X.prog X.w) A (setAttr (.ref a) f u) Q E s:=by
 obtain ⟨mA,O,r,wi,_,ho⟩:=qW I.hok e
 have hz:(fs.map (·.1)).length <= sizeLine:=by rw [List.length_map,sizeLine_eq]; omega
 refine UV I.kIn O c.sa c.po n.taker c.hd wi hz fun h' O' sb=>h _ ?_
 have hd:∃ o,h'.get? dx = some o:=let ⟨o,_,_,e',_⟩:=O'.ns; ⟨o,e'⟩
 refine I.write (x:=a) (e:=dx) (by rw [e]; exact True.intro) (.inr ho) (fun b q hb z=>(sb.2 b hb).trans z) hd ?_
 refine ⟨by rw [zp O.ne]; exact ho,?_,O.ne,O'.obj,_,O'.ns,fun g=>?_,fun g hg=>?_⟩
 ·have:=ue f y fs; omega
 ·show RelO ((jr f y fs).lookup g) (if g = f then some u else mA g)
  rw [uW]
  by_cases q:g = f
  ·rw [if_pos q,if_pos q]; exact ry
  ·rw [if_neg q,if_neg q]; exact r g
 ·by_cases q:g = f
  ·rw [q]; exact (uP f y fs).1
  ·refine (uP f y fs).2 g (wi g fun z=>hg ?_)
   show (if g = f then some u else mA g) = none
   rw [if_neg q]; exact z
theorem Inv.made (I:Inv X pins σ H s):Inv X pins σ (upd (upd H s.heap.objs.size (.own (s.heap.objs.size + 1))) (s.heap.objs.size + 1) (.ins C s.heap.objs.size []))
  { s with heap:=(s.heap.push PySem.W.emptyDict).push (PySem.W.instObj C s.heap.objs.size) }:=by
 have e1:(s.heap.push PySem.W.emptyDict).get? s.heap.objs.size = some PySem.W.emptyDict:=Heap.get?_push_size s.heap rfl
 have e2:((s.heap.push PySem.W.emptyDict).push (PySem.W.instObj C s.heap.objs.size)).get? (s.heap.objs.size + 1) = some (PySem.W.instObj C s.heap.objs.size):=by
  have:=Heap.get?_push_size (s.heap.push PySem.W.emptyDict) (o:=PySem.W.instObj C s.heap.objs.size) rfl
  rwa [Heap.size_push] at this
 have e3:(s.heap.push PySem.W.emptyDict).Ns s.heap.objs.size (fun _=>none):=⟨PySem.W.emptyDict,#[],_,e1,rfl,(fun e he=>absurd he (by simp)),fun _=>rfl⟩
 have I1:=I.laid (a:=s.heap.objs.size) (o:=.own (s.heap.objs.size + 1)) (h':=s.heap.push PySem.W.emptyDict) (t':=s.toks) (fun b u q=>Heap.get?_push_of_some _ q) (Nat.le_refl _) ⟨_,e1⟩
 refine I1.laid (a:=s.heap.objs.size + 1) (o:=.ins C s.heap.objs.size []) (t':=s.toks) (fun b u q=>Heap.get?_push_of_some _ q) (Nat.le_of_eq (Heap.size_push _ _)) ?_
 have ne:s.heap.objs.size ≠ s.heap.objs.size + 1:=Nat.ne_of_lt (Nat.lt_succ_self _)
 refine ⟨by rw [zp ne,zd],Nat.zero_le _,ne,e2,fun _=>none,(Heap.Ns1.of_empty e3).at fun o q=>Heap.get?_push_of_some _ q,fun _=>True.intro,fun y hy=>absurd rfl hy⟩
theorem UY {prog:Program} {w:World} {env:Env} {e:Expr} {f:Str} {pos:Pos} {s:Shared} {Q:Value -> Shared -> Prop} (hb:attributeBase e f env (eval e env) = eval e env)
  (h:wpAny (model prog w) A (eval e env) (fun o s₁=>wpAny (model prog w) A (getAttr o f true) Q E s₁) E s):wpAny (model prog w) A (eval (.Attribute e f pos) env) Q E s :=
 Attribute_any_ h (by rw [arm_eval_Attribute,hb])
end
def Ql (K:PySem.W.Frag) (ta:TE) (f:Str):TE:=fun σ H Q=>ta σ H fun x H1=>∃ a C dx fs v,x = .ref a /\ H1 a = some (.ins C dx fs) /\ Cls K C /\ NoAttr K C f /\ fs.lookup f = some v /\ Q v H1
def KQ (K:PySem.W.Frag) (ta tv:TE) (f:Str):TS:=fun D σ H=>tv σ H fun y H1=>ta σ H1 fun x H2=>∃ a C dx fs,x = .ref a /\ H2 a = some (.ins C dx fs) /\ Cls K C /\ NoAttr K C f /\ fs.length < 1000 /\
 D.nx σ (upd H2 a (.ins C dx (jr f y fs)))
section
variable {X:Cx} {o e value:Expr} {f:Str} {pos pos' tpos:Pos} {ta tv:TE}
theorem YV (he:PE X e ta) (hb:attributeBase e f X.env (eval e X.env) = eval e X.env):PE X (.Attribute e f pos) (Ql X.K ta f):=by
 intro pins s σ H Q I h
 refine UY hb (thn (he pins s σ H _ I h) fun u s1 ⟨x,H1,I1,rx,a,C,dx,fs,v,ex,ea,c,n,l,q⟩=>?_)
 subst ex
 obtain rfl:u = Value.ref a:=rx
 exact Z6 I1 ea c n l fun u' s2 I2 ru=>⟨v,H1,I2,ru,q⟩
theorem Vl (ha:PE X o ta) (hv:PE X value tv) (hs:swapsWith value (some (.Attribute o f pos')) pos.line X.env = pure false):PS X (.Assign [.Attribute o f pos'] value pos) (KQ X.K ta tv f):=by
 intro pins s σ H D I h
 refine plainObj_wpAny_Assign_Attribute (thn (hv pins s σ H _ I h) fun u s1 ⟨y,H1,I1,ry,q⟩=>thn (ha pins s1 σ H1 _ I1 q) fun ov s2 ⟨x,H2,I2,rx,a,C,dx,fs,ex,ea,c,n,l,q2⟩=>?_) hs
 subst ex
 obtain rfl:ov = Value.ref a:=rx
 exact ZO I2 ea c n l ry fun s3 I3=>⟨σ,_,I3,q2⟩
theorem UO {pl:Sem Bool} {m:Str} {apos:Pos} {args:List Expr} {pins:List (Addr × Obj)} {s:Shared} {σ:St} {H:Hp} {Q:Value -> Shared -> Prop} {te:TE} (he:PE X e te) (I:Inv X pins σ H s)
    (h:te σ H fun x H1=>∃ a C dx fs g,x = .ref a /\ H1 a = some (.ins C dx fs) /\ Cls X.K C /\ Jb X.K C m g /\ fs.lookup m = none /\
      ∀ s1,Inv X pins σ H1 s1 -> wpAny (model X.prog X.w) X.A (callWith pos (.ref g) [.ref a] (backTo pos (starEach args X.env)) (backToKw pos (keywordEach [] X.env))) Q X.xe s1)
    (ht:eval (.Call (.Attribute e m apos) args [] pos) X.env = (do
      let ov <- eval e X.env
      standAt apos.atName
      let (f,first) <- holding [ov] (getMethod ov m pl)
      callWith pos f first (backTo pos (starEach args X.env)) (backToKw pos (keywordEach [] X.env)))) :
    wpAny (model X.prog X.w) X.A (eval (.Call (.Attribute e m apos) args [] pos) X.env) Q X.xe s:=by
  refine PySem.W.methodCall_KW (pl:=pl) (thn (he pins s σ H _ I h) fun u s1 ⟨x,H1,I1,rx,a,C,dx,fs,g,ex,ea,c,k,l,q⟩=>?_) ht
  subst ex
  obtain rfl:u = Value.ref a:=rx
  exact xz I1 ea c k l (q s1 I1)
end
section
variable {X:Cx} {pins:List (Addr × Obj)} {σ:St} {H:Hp} {s:Shared} {A:Around} {E:Value -> Shared -> Prop} {Q:Value -> Shared -> Prop} {c:Value} {b:Bool}
inductive kJ (K:PySem.W.Frag) (H:Hp):V -> Value -> Prop where
 | non:kJ K H .non (.type "NoneType")
 | bl (x:Bool):kJ K H (.bl x) (.type "bool")
 | int (i:Int):kJ K H (.int i) (.type "int")
 | str (x:Str):kJ K H (.str x) (.type "str")
 | flt (x:UInt64):kJ K H (.flt x) (.type "float")
 | lst {a:Addr} {xs:List V} (e:H a = some (.lst xs)):kJ K H (.ref a) (.type "list")
 | frz {a:Addr} {o:Obj} {xs:List V} (e:H a = some (.frz o (.lst xs))):kJ K H (.ref a) (.type "list")
 | tup {a:Addr} {xs:List V} (e:H a = some (.tup xs)):kJ K H (.ref a) (.type "tuple")
 | dK {a:Addr} {kvs:List (Key × V)} (e:H a = some (.dK kvs)):kJ K H (.ref a) (.type "dict")
 | dT {a:Addr} {kvs:List (List Key × V)} (e:H a = some (.dT kvs)):kJ K H (.ref a) (.type "dict")
 | ins {a C dx:Addr} {fs:List (Str × V)} (e:H a = some (.ins C dx fs)) (cl:Cls K C) (ha:PySem.W.findIn K (.ref C) "__class__" = some (some (.builtin "object.__class__")))
   (hn:PySem.W.specialIn K (.builtin "object.__class__") "__get__" = some (some (.builtin "getset_descriptor.__get__"))) (htk:PySem.W.takesIn K (.builtin "object.__class__") = some true)
   (hm:PySem.W.mroIn K C (.type "object") = some true):kJ K H (.ref a) (.ref C)
theorem Y5 {x:V} {u t:Value} (I:Inv X pins σ H s) (rx:RelV x u) (ty:kJ X.K H x t) (e:PySem.W.kitOne X.K t c = some b) (h:∀ tk,Q (.bool b) { s with toks:=tk }) :
  wpAny (model X.prog X.w) A (call (.builtin "isinstance") [u,c]) Q E s:=by
 cases ty with
 | non=>cases (show u = Value.none from rx); exact PySem.W.kia_one PySem.W.kitx_none I.kIn True.intro e (fun z=>nomatch z) h
 | bl y=>cases (show u = Value.bool y from rx); exact PySem.W.kia_one PySem.W.kitx_bool I.kIn True.intro e (fun z=>nomatch z) h
 | int i=>obtain ⟨t,q⟩:=(show ∃ t,u = Value.int i t from rx); cases q; exact PySem.W.kia_one PySem.W.kitx_int I.kIn True.intro e (fun z=>nomatch z) h
 | str y=>obtain ⟨t,q⟩:=(show ∃ t,u = Value.str y t from rx); cases q; exact PySem.W.kia_one PySem.W.kitx_str I.kIn True.intro e (fun z=>nomatch z) h
 | flt y=>obtain ⟨t,q⟩:=(show ∃ t,u = Value.float y t from rx); cases q; exact PySem.W.kia_one PySem.W.kitx_float I.kIn True.intro e (fun z=>nomatch z) h
 | @lst a xs ea =>
  cases (show u = Value.ref a from rx)
  obtain ⟨_,_,n,_,h1⟩:=(show ObjOk X.prog X.w H s.heap a (.lst xs) from I.hok a _ ea)
  exact PySem.W.kia_one PySem.W.kitx_list I.kIn ⟨_,h1,rfl⟩ e (fun z=>nomatch z) h
 | @frz a ob xs ea =>
  cases (show u = Value.ref a from rx)
  obtain ⟨_,_,_,n,_,h1⟩:=(show ObjOk X.prog X.w H s.heap a (.frz ob (.lst xs)) from I.hok a _ ea)
  exact PySem.W.kia_one PySem.W.kitx_list I.kIn ⟨_,h1,rfl⟩ e (fun z=>nomatch z) h
 | @tup a xs ea =>
  cases (show u = Value.ref a from rx)
  obtain ⟨_,_,_,p⟩:=(show ObjOk X.prog X.w H s.heap a (.tup xs) from I.hok a _ ea)
  obtain ⟨o,h1,h2,_⟩:=p
  exact PySem.W.kia_one PySem.W.kitx_tuple I.kIn ⟨o,h1,h2⟩ e (fun z=>nomatch z) h
 | @dK a kvs ea =>
  cases (show u = Value.ref a from rx)
  obtain ⟨_,_,vs,_,p⟩:=(show ObjOk X.prog X.w H s.heap a (.dK kvs) from I.hok a _ ea)
  obtain ⟨o,es,ep,h1,h2,_⟩:=p
  exact PySem.W.kia_one PySem.W.kitx_dict I.kIn ⟨o,h1,h2.1⟩ e (fun z=>nomatch z) h
 | @dT a kvs ea =>
  cases (show u = Value.ref a from rx)
  obtain ⟨_,_,xs,_,o,es,ep,h1,h2,_⟩:=(show ObjOk X.prog X.w H s.heap a (.dT kvs) from I.hok a _ ea)
  exact PySem.W.kia_one PySem.W.kitx_dict I.kIn ⟨o,h1,h2.1⟩ e (fun z=>nomatch z) h
 | @ins a C dx fs ea cl ha hn htk hm =>
  cases (show u = Value.ref a from rx)
  obtain ⟨mA,O,_⟩:=qW I.hok ea
  obtain ⟨od,J,_⟩:=O.look
  exact PySem.W.kia_one (PySem.W.kitx_own (cl.get _) cl.hd ha hn htk hm) I.kIn J e (fun z=>nomatch z) h
end
end L2
namespace L2
open PySem PySem.Spec PyProof.Rows
structure Room (k:Nat) (A:Around):Prop where
 hd:A.handled = none
 dp:A.depth + 3 * k + 5 < recursionLimit
 un:A.units + 16 * k + 200 < cLine
theorem Room.mono {j k:Nat} {A:Around} (r:Room k A) (h:j <= k):Room j A:=⟨r.hd,by have:=r.dp; omega,by have:=r.un; omega⟩
theorem Room.deeper {k:Nat} {A:Around} (r:Room (k + 1) A) (env:Env):Room k (A.deeper env) :=
 ⟨r.hd,by have:=r.dp; show A.depth + 1 + 3 * k + 5 < _; omega,by have:=r.un; show A.units + 3 + 16 * k + 200 < _; omega⟩
theorem Room.in1 {k:Nat} {A:Around} (r:Room (k + 1) A):Room k A.in1 :=
 ⟨r.hd,by have:=r.dp; show A.depth + 3 * k + 5 < _; omega,by have:=r.un; show A.units + 1 + 16 * k + 200 < _; omega⟩
theorem Z3 {A:Around} {C:Addr} {us:List Value} {kw:List (Str × Value)}:(A.under (.builtin "type.__call__" ⟨.ref C :: us,kw⟩)).depth = A.depth + 1:=by
 first | rfl | simp [Around.under,Code.weight,Code.isCreation,Code.isGuard,Code.isCaller,Code.frames,Code.isFrame,guardIds]
theorem ZF {A:Around} {C:Addr} {us:List Value} {kw:List (Str × Value)}:(A.under (.builtin "type.__call__" ⟨.ref C :: us,kw⟩)).units = A.units + 1:=by
 first | rfl | simp [Around.under,Code.cUnits,Code.frames,Code.isFrame]
theorem Room.make {k:Nat} {A:Around} (r:Room (k + 1) A) (C:Addr) (us:List Value) (kw:List (Str × Value)):Room k (A.under (.builtin "type.__call__" ⟨.ref C :: us,kw⟩)) :=
 ⟨r.hd,by have:=r.dp; rw [Z3]; omega,by have:=r.un; rw [ZF]; omega⟩
theorem Room.depth {k:Nat} {A:Around} (r:Room k A):A.depth < recursionLimit:=by have:=r.dp; omega
theorem Room.units {k:Nat} {A:Around} (r:Room k A):A.units + 64 < cLine:=by have:=r.un; omega
def wB:TA:=fun _ H Q=>Q [] H
def zV (ta:TE) (tr:TA):TA:=fun σ H Q=>ta σ H fun x H1=>tr σ H1 fun xs H2=>Q (x :: xs) H2
section
variable {X:Cx} {e:Expr} {es:List Expr} {te:TE} {t:TA} {pos:Pos}
theorem zc:PA X [] wB:=fun _ _ _ _ H Q I h=>Calls.spliced_nil ⟨[],H,I,.nil,h⟩
theorem za (ha:PE X e te) (hr:PA X es t) (hs:starEach (e :: es) X.env = (false,eval e X.env) :: starEach es X.env:=by rfl):PA X (e :: es) (zV te t):=by
 intro pos pins s σ H Q I h
 rw [hs]
 show wpAny _ _ (spliced ((false,eval e X.env) :: backTo pos (starEach es X.env))) _ _ s
 refine Calls.spliced_cons (thn (ha pins s σ H _ I h) fun u s1 ⟨x,H1,I1,r1,q1⟩=>?_)
 exact thn (hr pos pins s1 σ H1 _ I1 q1) fun us s2 ⟨xs,H2,I2,r2,q2⟩=>⟨x :: xs,H2,I2,.cons r1 r2,q2⟩
def UK (t:TA):TE:=fun σ H Q=>t σ H fun xs H1=>xs.length <= sizeLine /\ ∀ p,H1 p = none -> Q (.ref p) (upd H1 p (.tup xs))
def KG (t:TA):TE:=fun σ H Q=>t σ H fun xs H1=>xs.length <= sizeLine /\ ∀ p,H1 p = none -> Q (.ref p) (upd H1 p (.lst xs))
theorem yl {x1} (h:PA X es t):PE X (.Tuple es x1 pos) (UK t):=by
 intro pins s σ H Q I hq
 refine wpAny_Tuple_spliced (thn (h pos pins s σ H _ I hq) fun us s1 ⟨xs,H1,I1,r,z,q⟩=>⟨by rw [<- r.length]; exact z,?_⟩)
 have hf:H1 s1.heap.objs.size = none:=I1.hok.fresh (Nat.le_refl _)
 refine ⟨.ref s1.heap.objs.size,upd H1 s1.heap.objs.size (.tup xs),I1.laid (t':=s1.toks) (fun b u e=>Heap.get?_push_of_some _ e) (Nat.le_refl _) ?_,rfl,q _ hf⟩
 exact ⟨z,us,r,⟨_,Heap.get?_push_size _ rfl,rfl,_,rfl⟩⟩
theorem wM (h:PA X es t):PE X (.List es pos) (KG t):=by
 intro pins s σ H Q I hq
 refine wpAny_List_spliced (thn (h pos pins s σ H _ I hq) fun us s1 ⟨xs,H1,I1,r,z,q⟩=>⟨by rw [<- r.length]; exact z,?_⟩)
 have hf:H1 s1.heap.objs.size = none:=I1.hok.fresh (Nat.le_refl _)
 refine ⟨.ref s1.heap.objs.size,upd H1 s1.heap.objs.size (.lst xs),I1.laid (t':=s1.toks) (fun b u e=>Heap.get?_push_of_some _ e) (Nat.le_refl _) ?_,rfl,q _ hf⟩
 exact ⟨z,us,0,r,Heap.get?_push_size _ rfl⟩
end
abbrev Sp:=List V -> Hp -> VK -> XK -> Prop
abbrev CXT:=List Env -> Hp -> Shared -> XK -> Value -> Shared -> Prop
structure Env0 (P:Program) (w:World) (K:PySem.W.Frag) (mg:Str -> Option Value) (base:Heap) (A:Around) (outer:List Env) (s:Shared) (H:Hp):Prop where
 frames:A.frames = some outer
 mod:Mod K mg base
 bs:∀ b o,base.get? b = some o -> s.heap.get? b = some o /\ H b = none
 bsz:base.objs.size <= s.heap.objs.size
 funs:s.heap.FunFrames base outer
 frf:∀ b ∈ frs outer,H b = none
 hok:HOk P w H s.heap
 bare:AllBare s.gens
def CE (outer:List Env) (P:Program) (w:World) (H:Hp) (s:Shared) (Q:VK) (u:Value) (s':Shared):Prop :=
 ∃ v H',s'.os = s.os /\ AllBare s'.gens /\ Un (frs outer) [] H H' s.heap s'.heap /\ HOk P w H' s'.heap /\ RelV v u /\ Q v H'
def CR (CX:CXT) (outer:List Env) (P:Program) (w:World) (H:Hp) (s:Shared) (Q:VK) (E:XK) (r:Result) (s':Shared):Prop :=
 match r with
 | .ok (.ret u)=>CE outer P w H s Q u s'
 | .ok _=>False
 | .error e=>CX outer H s E e s'
structure yk (P:Program) (w:World) (K:PySem.W.Frag) (mg:Str -> Option Value) (base:Heap) (CX:CXT) (k:Nat) (f:Addr) (fd:FuncData) (ps:List Str) (sp:Sp):Prop where
 len:∀ vs H Q E,sp vs H Q E -> vs.length = ps.length
 run:∀ (A:Around) (outer:List Env) (s:Shared) (H:Hp) (args:Args) (us:List Value) (vs:List V) (Q:VK) (E:XK),Room k A -> Env0 P w K mg base A outer s H -> BindsTo s fd args (ps.zip us) -> Vals vs us -> sp vs H Q E ->
  codeAny (model P w) A (.call (.ref f) args) (CR CX outer P w H s Q E) s
theorem Env0.make {P:Program} {w:World} {K:PySem.W.Frag} {mg:Str -> Option Value} {base:Heap} {A:Around} {outer:List Env} {s:Shared} {H:Hp} (e:Env0 P w K mg base A outer s H) (C:Addr) (us:List Value) (kw:List (Str × Value)) :
  Env0 P w K mg base (A.under (.builtin "type.__call__" ⟨.ref C :: us,kw⟩)) outer s H:=⟨by first | exact e.frames | (simpa [Around.under,Code.envs,Code.isFrame,pushEnvs] using e.frames),e.mod,e.bs,e.bsz,e.funs,e.frf,e.hok,e.bare⟩
section
variable {X:Cx} {pins:List (Addr × Obj)} {σ:St} {H:Hp} {s s':Shared}
theorem Inv.env0 (I:Inv X pins σ H s):Env0 X.prog X.w X.K X.mg X.base X.A X.stack s H :=
 ⟨I.ok.frames,I.ok.mod,I.bs,Nat.le_trans I.ok.bsz I.sz,I.stack,I.stkFree,I.hok,I.bare⟩
theorem Inv.after {Q:VK} {u:Value} (I:Inv X pins σ H s) (h:CE X.stack X.prog X.w H s Q u s'):EP X pins σ Q u s':=by
 obtain ⟨v,H',os,bare,un,hok,r,q⟩:=h
 obtain ⟨hh,g,d,t,os'⟩:=s'
 obtain rfl:os' = s.os:=os
 exact ⟨v,H',I.call (h':=hh) (g':=g) (d':=d) (t':=t) (ch:=[]) un hok bare (fun b z=>absurd z (by simp)),r,q⟩
end
def u8 (sp:Sp) (dvs:List V) (E:XK) (t:TA):TE:=fun σ H Q=>t σ H fun vs H1=>sp (vs ++ dvs) H1 Q E
def jR (C:Addr) (m:Str) (sp:Sp) (dvs:List V) (E:XK) (ta:TE) (t:TA):TE:=fun σ H Q=>ta σ H fun x H1=>∃ a dx fs,x = .ref a /\ H1 a = some (.ins C dx fs) /\ fs.lookup m = none /\
 t σ H1 fun vs H2=>sp (x :: (vs ++ dvs)) H2 Q E
def Wx (C:Addr) (sp:Sp) (dvs:List V) (E:XK) (t:TA):TE:=fun σ H Q=>t σ H fun vs H1=>∀ x dx,H1 x = none -> H1 dx = none -> dx ≠ x ->
 sp (.ref x :: (vs ++ dvs)) (upd (upd H1 dx (.own x)) x (.ins C dx [])) (fun v H2=>v = .non /\ Q (.ref x) H2) E
def Binds (K:PySem.W.Frag) (fd:FuncData) (ps:List Str) (ds:List Value):Prop :=
 ∀ (s:Shared) (us:List Value),K.In s.heap -> (us ++ ds).length = ps.length -> BindsTo s fd ⟨us,[]⟩ (ps.zip (us ++ ds))
theorem Binds.all {K:PySem.W.Frag} {fd:FuncData} {ps:List Str} (h:∀ us:List Value,us.length = ps.length -> bindArgs fd ⟨us,[]⟩ = pure (ps.zip us)):Binds K fd ps []:=fun s us _ hl=>by
 rw [List.append_nil] at hl ⊢
 exact .of_eq (h us hl)
def vF (CX:CXT) (X:Cx) (E:XK):Prop:=∀ (pins:List (Addr × Obj)) (σ:St) (H:Hp) (s:Shared) (e:Value) (s':Shared),Inv X pins σ H s -> CX X.stack H s E e s' -> X.xe e s'
section
variable {X:Cx} {CX:CXT} {k:Nat} {f C:Addr} {fd:FuncData} {ps:List Str} {sp:Sp} {dvs:List V} {ds:List Value} {E:XK} {x m:Str} {p pos apos:Pos} {e o:Expr} {es:List Expr} {ta:TE} {t:TA}
theorem qi {pins:List (Addr × Obj)} {σ:St} {H:Hp} {s:Shared} {Q:VK} {us:List Value} {vs:List V} (F:yk X.prog X.w X.K X.mg X.base CX k f fd ps sp) (hr:Room k X.A) (hb:Binds X.K fd ps ds) (hd:Vals dvs ds) (hx:vF CX X E)
  (I:Inv X pins σ H s) (r:Vals vs us) (h:sp (vs ++ dvs) H Q E):wpAny (model X.prog X.w) X.A (call (.ref f) us) (EP X pins σ Q) X.xe s:=by
 have r2:Vals (vs ++ dvs) (us ++ ds):=r.append hd
 have hl:(us ++ ds).length = ps.length:=by rw [<- r2.length]; exact F.len _ _ _ _ h
 refine wpAny_call (codeAny_mono (F.run X.A X.stack s H ⟨us,[]⟩ (us ++ ds) (vs ++ dvs) Q E hr I.env0 (hb s us I.kIn hl) r2 h) fun r s' hq=>?_)
 cases r with
 | error e=>exact hx pins σ H s e s' I hq
 | ok fl =>
  cases fl with
  | ret u=>exact I.after hq
  | next=>exact False.elim hq
  | brk=>exact False.elim hq
  | cont=>exact False.elim hq
theorem Yq (F:yk X.prog X.w X.K X.mg X.base CX k f fd ps sp) (hr:Room k X.A) (hg:Gl X x) (hm:X.mg x = some (.ref f)) (hk:PySem.W.keepIn X.K (.ref f) = true) (hb:Binds X.K fd ps ds) (hd:Vals dvs ds) (hx:vF CX X E)
  (ha:PA X (e :: es) t) (hdb:(x == ("__debug__" : Str)) = false:=by decide) (he:starEach (e :: es) X.env = (false,eval e X.env) :: starEach es X.env:=by rfl) (hpl:(backTo pos (starEach es X.env)).any (·.1) = false:=by rfl) :
  PE X (.Call (.Name x p) (e :: es) [] pos) (u8 sp dvs E t):=by
 intro pins s σ H Q I h
 refine wpAny_Call_Name_kw (wK I hg hm ?_ hdb)
 refine PySem.W.callWith_K (h₀:=X.base) I.ok.mod.kin hk (thn (ha pos pins s σ H _ I h) fun us s1 ⟨vs,H1,I1,r,q⟩=>⟨I1.kIn,?_⟩) he hpl
 exact qi F hr hb hd hx I1 r q
theorem Uh {pl:Sem Bool} (he:PE X o ta) (c:Cls X.K C) (hm:Jb X.K C m f) (F:yk X.prog X.w X.K X.mg X.base CX k f fd ps sp) (hr:Room k X.A) (hb:Binds X.K fd ps ds) (hd:Vals dvs ds) (hx:vF CX X E) (ha:PA X (e :: es) t)
    (hst:starEach (e :: es) X.env = (false,eval e X.env) :: starEach es X.env:=by rfl) (hpl:(backTo pos (starEach es X.env)).any (·.1) = false:=by rfl)
    (ht:eval (.Call (.Attribute o m apos) (e :: es) [] pos) X.env = (do
      let ov <- eval o X.env
      standAt apos.atName
      let (f,first) <- holding [ov] (getMethod ov m pl)
      callWith pos f first (backTo pos (starEach (e :: es) X.env)) (backToKw pos (keywordEach [] X.env))):=by rfl) :
    PE X (.Call (.Attribute o m apos) (e :: es) [] pos) (jR C m sp dvs E ta t):=by
  intro pins s σ H Q I h
  refine PySem.W.methodCall_KW (pl:=pl) (thn (he pins s σ H _ I h) fun u s1 ⟨x,H1,I1,rx,a,dx,fs,ex,ea,l,q⟩=>?_) ht
  subst ex
  obtain rfl:u = Value.ref a:=rx
  refine xz I1 ea c hm l ?_
  refine PySem.W.callWith_K (first:=[.ref a]) (h₀:=X.base) I.ok.mod.kin hm.kp (thn (ha pos pins s1 σ H1 _ I1 q) fun us s2 ⟨vs,H2,I2,r,q2⟩=>⟨I2.kIn,?_⟩) hst hpl
  exact qi (us:=.ref a :: us) (vs:=.ref a :: vs) F hr hb hd hx I2 (.cons rfl r) q2
theorem WV {pl:Sem Bool} (he:PE X o ta) (c:Cls X.K C) (hm:Jb X.K C m f) (F:yk X.prog X.w X.K X.mg X.base CX k f fd ps sp) (hr:Room k X.A) (hb:Binds X.K fd ps ds) (hd:Vals dvs ds) (hx:vF CX X E)
    (ht:eval (.Call (.Attribute o m apos) [] [] pos) X.env = (do
      let ov <- eval o X.env
      standAt apos.atName
      let (f,first) <- holding [ov] (getMethod ov m pl)
      callWith pos f first (backTo pos (starEach [] X.env)) (backToKw pos (keywordEach [] X.env))):=by rfl) :
    PE X (.Call (.Attribute o m apos) [] [] pos) (jR C m sp dvs E ta wB):=by
  intro pins s σ H Q I h
  refine PySem.W.methodCall_KW (pl:=pl) (thn (he pins s σ H _ I h) fun u s1 ⟨x,H1,I1,rx,a,dx,fs,ex,ea,l,q⟩=>?_) ht
  subst ex
  obtain rfl:u = Value.ref a:=rx
  refine xz I1 ea c hm l ?_
  exact PySem.W.callWith_K0 (first:=[.ref a]) I1.kIn hm.kp (qi (us:=[.ref a]) (vs:=[.ref a]) F hr hb hd hx I1 (.cons rfl .nil) q)
structure Mk (K:PySem.W.Frag) (C f:Addr):Prop where
 makes:PySem.W.makesIn K C = true
 init:PySem.W.findIn K (.ref C) "__init__" = some (some (.ref f))
 fn:PySem.W.isFn K (.ref f) = true
 kp:PySem.W.keepIn K (.ref C) = true
theorem Vd {pins:List (Addr × Obj)} {σ:St} {H:Hp} {s:Shared} {Q:VK} {us:List Value} {vs:List V} (M:Mk X.K C f) (F:yk X.prog X.w X.K X.mg X.base CX k f fd ps sp) (hr:Room (k + 1) X.A) (hb:Binds X.K fd ps ds) (hd:Vals dvs ds)
  (hx:vF CX X E) (I:Inv X pins σ H s) (r:Vals vs us)
  (h:∀ x dx,H x = none -> H dx = none -> dx ≠ x -> sp (.ref x :: (vs ++ dvs)) (upd (upd H dx (.own x)) x (.ins C dx [])) (fun v H2=>v = .non /\ Q (.ref x) H2) E) :
  wpAny (model X.prog X.w) X.A (call (.ref C) us) (EP X pins σ Q) X.xe s:=by
 have hq:=h (s.heap.objs.size + 1) s.heap.objs.size (I.hok.fresh (Nat.le_succ _)) (I.hok.fresh (Nat.le_refl _)) (Nat.ne_of_lt (Nat.lt_succ_self _))
 have I2:=Inv.made (C:=C) I
 have r2:Vals (V.ref (s.heap.objs.size + 1) :: (vs ++ dvs)) (Value.ref (s.heap.objs.size + 1) :: (us ++ ds)):=.cons rfl (r.append hd)
 have hl:(Value.ref (s.heap.objs.size + 1) :: us ++ ds).length = ps.length:=by
  have e:=r2.length
  rw [F.len _ _ _ _ hq] at e
  exact e.symm
 refine wpAny_call (W4 (f:=f) I.kIn M.makes M.init (beq_iff_eq.mp M.fn) (codeAny_mono (F.run _ X.stack _ _ ⟨Value.ref (s.heap.objs.size + 1) :: us,[]⟩ (Value.ref (s.heap.objs.size + 1) :: (us ++ ds)) _ _ E (hr.make C us [])
  (I2.env0.make C us []) (hb _ (Value.ref (s.heap.objs.size + 1) :: us) I2.kIn hl) r2 hq) fun r s' hq'=>?_))
 cases r with
 | error e=>exact hx pins σ _ _ e s' I2 hq'
 | ok fl =>
  cases fl with
  | ret u =>
   obtain ⟨v,H',I3,rv,ev,q3⟩:=I2.after hq'
   subst ev
   exact ⟨rv,⟨V.ref (s.heap.objs.size + 1),H',I3,rfl,q3⟩⟩
  | next=>exact False.elim hq'
  | brk=>exact False.elim hq'
  | cont=>exact False.elim hq'
theorem Xx (M:Mk X.K C f) (F:yk X.prog X.w X.K X.mg X.base CX k f fd ps sp) (hr:Room (k + 1) X.A) (hg:Gl X x) (hm:X.mg x = some (.ref C)) (hb:Binds X.K fd ps ds) (hd:Vals dvs ds) (hx:vF CX X E)
  (ha:PA X (e :: es) t) (hdb:(x == ("__debug__" : Str)) = false:=by decide) (he:starEach (e :: es) X.env = (false,eval e X.env) :: starEach es X.env:=by rfl) (hpl:(backTo pos (starEach es X.env)).any (·.1) = false:=by rfl) :
  PE X (.Call (.Name x p) (e :: es) [] pos) (Wx C sp dvs E t):=by
 intro pins s σ H Q I h
 refine wpAny_Call_Name_kw (wK I hg hm ?_ hdb)
 refine PySem.W.callWith_K (h₀:=X.base) I.ok.mod.kin M.kp (thn (ha pos pins s σ H _ I h) fun us s1 ⟨vs,H1,I1,r,q⟩=>⟨I1.kIn,?_⟩) he hpl
 exact Vd M F hr hb hd hx I1 r q
end
def PK (X:Cx) (kws:List Keyword) (t:TA):Prop :=
 ∀ (pos:Pos) (pins:List (Addr × Obj)) (s:Shared) (σ:St) (H:Hp) (Q:List V -> Hp -> Prop),Inv X pins σ H s -> t σ H Q -> wpAny (model X.prog X.w) X.A (evalAll ((backToKw pos (keywordEach kws X.env)).map (·.2))) (AP X pins σ Q) X.xe s
section
variable {X:Cx} {CX:CXT} {k:Nat} {f C:Addr} {fd:FuncData} {ps ks:List Str} {sp:Sp} {E:XK} {x m:Str} {p pos apos kpos:Pos} {e o:Expr} {es:List Expr} {kws:List Keyword} {te ta:TE} {t tk:TA} {nm:Option Str}
theorem VO:PK X [] wB:=fun _ _ _ _ H Q I h=>wpAny_evalAll_nil ⟨[],H,I,.nil,h⟩
theorem Xp (ha:PE X e te) (hr:PK X kws t):PK X (⟨nm,e,kpos⟩ :: kws) (zV te t):=by
 intro pos pins s σ H Q I h
 show wpAny _ _ (evalAll ((do let v <- eval e X.env; standAt pos; pure v) :: (backToKw pos (keywordEach kws X.env)).map (·.2))) _ _ s
 refine wpAny_evalAll_cons (wpAny_bind (thn (ha pins s σ H _ I h) fun u s1 ⟨x,H1,I1,r1,q1⟩=>wpAny_bind (wpAny_standAt (wpAny_pure ?_))))
 exact thn (hr pos pins s1 σ H1 _ I1 q1) fun us s2 ⟨xs,H2,I2,r2,q2⟩=>⟨x :: xs,H2,I2,.cons r1 r2,q2⟩
variable {g:List Value -> List Value -> List Value} {gV:List V -> List V -> List V}
end
structure zu (N P:List Str) (sc:Scope):Prop where
 kind:sc.kind = .function
 co:sc.isCoroutine = false
 gen:sc.isGenerator = false
 nd:N.Nodup
 pre:N.take P.length = P
 par:∀ x ∈ P,sc.names.lookup x = some .local \/ sc.names.lookup x = some .cell
 nofree:∀ y ∈ sc.names,y.2 ≠ .free
theorem jv {kindOf:Str -> Option NameKind} {x:Str}:∀ {binds:List (Str × Value)} {m:Str -> Option Value},(∀ v,(x,v) ∉ binds) -> bindL kindOf binds m x = m x
  | [],_,_=>rfl
  | (n,v) :: r,m,h=>by
    unfold bindL
    rw [jv fun w hw=>h w (List.mem_cons_of_mem _ hw)]
    split
    · have:x ≠ n:=by rintro rfl; exact h v List.mem_cons_self
      simp [this]
    · rfl
theorem jK {kindOf:Str -> Option NameKind} {x:Str}:∀ {binds:List (Str × Value)} {m:Str -> Option Value},(∀ v,(x,v) ∉ binds) -> bindC kindOf binds m x = m x
  | [],_,_=>rfl
  | (n,v) :: r,m,h=>by
    unfold bindC
    rw [jK fun w hw=>h w (List.mem_cons_of_mem _ hw)]
    split
    · rfl
    · have:x ≠ n:=by rintro rfl; exact h v List.mem_cons_self
      simp [this]
theorem jA {kindOf:Str -> Option NameKind} {x:Str} {v:Value}:∀ {P:List Str} {vs:List Value} {i:Nat} {m:Str -> Option Value},P.Nodup -> P[i]? = some x -> vs[i]? = some v -> kindOf x = some .local ->
  bindL kindOf (P.zip vs) m x = some v
 | [],_,_,_,_,h,_,_=>by simp at h
 | _ :: _,[],_,_,_,_,h,_=>by simp at h
 | p :: P,w :: vs,0,m,nd,h1,h2,hk=>by
  simp at h1 h2; subst h1; subst h2
  show bindL kindOf ((p,w) :: P.zip vs) m p = _
  unfold bindL
  rw [jv fun v hv=>(List.nodup_cons.mp nd).1 (List.of_mem_zip hv).1,if_pos hk]
  simp
 | p :: P,w :: vs,i + 1,m,nd,h1,h2,hk=>by
  show bindL kindOf ((p,w) :: P.zip vs) m x = _
  unfold bindL
  exact jA (i:=i) (List.nodup_cons.mp nd).2 (by simpa using h1) (by simpa using h2) hk
theorem jO {kindOf:Str -> Option NameKind} {x:Str} {v:Value}:∀ {P:List Str} {vs:List Value} {i:Nat} {m:Str -> Option Value},P.Nodup -> P[i]? = some x -> vs[i]? = some v -> kindOf x ≠ some .local ->
  bindC kindOf (P.zip vs) m x = some v
 | [],_,_,_,_,h,_,_=>by simp at h
 | _ :: _,[],_,_,_,_,h,_=>by simp at h
 | p :: P,w :: vs,0,m,nd,h1,h2,hk=>by
  simp at h1 h2; subst h1; subst h2
  show bindC kindOf ((p,w) :: P.zip vs) m p = _
  unfold bindC
  rw [jK fun v hv=>(List.nodup_cons.mp nd).1 (List.of_mem_zip hv).1,if_neg hk]
  simp
 | p :: P,w :: vs,i + 1,m,nd,h1,h2,hk=>by
  show bindC kindOf ((p,w) :: P.zip vs) m x = _
  unfold bindC
  exact jO (i:=i) (List.nodup_cons.mp nd).2 (by simpa using h1) (by simpa using h2) hk
def start (N:List Str) (vs:List V):St:=vs.map some ++ List.replicate (N.length - vs.length) none
def vQ (CX:CXT) (P:Program) (w:World) (K:PySem.W.Frag) (mg:Str -> Option Value) (base:Heap) (N:List Str) (qual:Str) (scope:Scope) (f:Addr) (cd:Value) (A:Around) (outer:List Env) (s:Shared) (H:Hp) (E:XK):Cx where
 prog:=P
 w:=w
 K:=K
 mg:=mg
 base:=base
 A:=A.deeper (envOfC qual scope s.heap.objs.size f cd)
 N:=N
 s₀:=s
 H₀:=H
 env:=envOfC qual scope s.heap.objs.size f cd
 outer:=outer
 stack:=envOfC qual scope s.heap.objs.size f cd :: outer
 ex:=[]
 calm:=true
 fn:=fun _=>true
 pn:=[]
 xe:=fun e s'=>wpAny (model P w) (A.deeper (envOfC qual scope s.heap.objs.size f cd)) (leaving (envOfC qual scope s.heap.objs.size f cd) e) (fun _ s''=>CX outer H s E e s'') (fun e' s''=>CX outer H s E e' s'') s'
theorem kR {sc:Scope} {n:Nat} {x:Str} (h:sc.names.lookup x = some .cell):∃ c,(cellsFrom n sc.names []).lookup x = some c:=by
 have q:=PySem.W.cellsFrom_some sc.names n [] (.inl h)
 exact Option.isSome_iff_exists.mp q
theorem Xy {CX:CXT} {P:Program} {w:World} {K:PySem.W.Frag} {mg:Str -> Option Value} {base:Heap} {N ps:List Str} {qual:Str} {scope:Scope} {f:Addr} {cd:Value} {A:Around} {outer:List Env} {s s1:Shared} {H:Hp} {E:XK} {us:List Value} {vs:List V}
  (S:zu N ps scope) (hd:A.handled = none) (e0:Env0 P w K mg base A outer s H) (hl:vs.length = ps.length) (r:Vals vs us)
  (x:InCallC s s.heap.objs.size (bindL (envOfC qual scope s.heap.objs.size f cd).kindOf (ps.zip us) fun _=>none) (cellsFrom (s.heap.objs.size + 1) scope.names []) (bindC (envOfC qual scope s.heap.objs.size f cd).kindOf (ps.zip us) fun _=>none) s1) :
  Inv (vQ CX P w K mg base N qual scope f cd A outer s H E) [] (start N vs) H s1:=by
 have hpl:ps.length <= N.length:=by have:=congrArg List.length S.pre; rw [List.length_take] at this; omega
 obtain ⟨h1,tk,rfl,hk⟩:=x.done
 have noA:∀ b:Addr,b ∉ (vQ CX P w K mg base N qual scope f cd A outer s H E).ex:=fun b z=>absurd (show b ∈ ([]:List Addr) from z) (by simp)
 refine ⟨⟨e0.mod,S.kind,rfl,rfl,Nat.le_refl _,fun y z c h1 h2=>?_,fun y hy=>?_,fun y c _ h=>?_,fun _=>hd,Around.frames_deeper e0.frames,.inr ⟨rfl,rfl⟩,fun b z=>absurd z (noA b),e0.bs,e0.bsz,fun b _ _=>noA b,fun b z=>absurd z (noA b),e0.funs,e0.frf⟩,
  rfl,e0.bare,Un.kept hk,⟨_,x.toInCall.ns,fun i y v h1 h2 h3=>?_⟩,fun y c h=>⟨_,x.cell y c h⟩,e0.hok.fresh (Nat.le_refl _),fun y c h=>?_,fun p hp=>absurd (show p ∈ ([]:List (Addr × Obj)) from hp) (by simp),e0.hok.kept hk,?_⟩
 ·exact name_of_addr x.apart (PySem.mem_of_lookup h1) (PySem.mem_of_lookup h2)
 ·have hy:scope.names.lookup y = some .cell \/ scope.names.lookup y = some .free:=hy
  rcases hy with hy | hy
  ·exact kR hy
  ·exact absurd rfl (S.nofree _ (PySem.mem_of_lookup hy))
 ·exact Nat.le_of_lt (x.above y c (PySem.mem_of_lookup h))
 ·have hi:i < vs.length:=by
   unfold start at h2
   by_cases hi:i < vs.length
   ·exact hi
   ·rw [List.getElem?_append_right (by simpa using hi)] at h2
    rw [List.getElem?_replicate] at h2
    split at h2 <;> cases h2
  have ha:vs[i]? = some v:=by
   unfold start at h2
   rw [List.getElem?_append_left (by simpa using hi),List.getElem?_map] at h2
   cases e:vs[i]? with
   | none=>rw [e] at h2; cases h2
   | some a=>rw [e] at h2; cases h2; rfl
  obtain ⟨u,hu,rv⟩:=r.get ha
  have hp:ps[i]? = some y:=by
   rw [<- S.pre,List.getElem?_take_of_lt (by omega)]; exact h1
  have ndP:ps.Nodup:=by rw [<- S.pre]; exact S.nd.sublist (List.take_sublist _ _)
  refine ⟨u,rv,?_⟩
  rcases S.par y (List.mem_of_getElem? hp) with k | k
  ·exact .inl ⟨k,jA ndP hp hu k⟩
  ·obtain ⟨c,e⟩:=kR (n:=s.heap.objs.size + 1) k
   refine .inr ⟨.inl k,c,e,?_⟩
   have q:=x.cell y c e
   rw [jO ndP hp hu (by show scope.names.lookup y ≠ _; rw [k]; decide)] at q
   exact q
 ·exact e0.hok.fresh (Nat.le_of_lt (x.above y c (PySem.mem_of_lookup h)))
 ·unfold start
  show _ = N.length
  rw [List.length_append,List.length_map,List.length_replicate]
  omega
theorem Wn {CX:CXT} {P:Program} {w:World} {K:PySem.W.Frag} {mg:Str -> Option Value} {base:Heap} {k:Nat} {f:Addr} {name qual:Str} {params:Arguments} {body:List Stmt} {scope:Scope} {dV kV doc pm cdv ct oc:Value} {an od:Option Addr}
  {osl:Array (Option Value)} {N ps:List Str} {sp:Sp} (lk:K.lookup f = some ⟨oc,od,.func (PySem.W.fnOf name qual params body scope dV kV doc pm an cdv ct),osl⟩) (hcd:PySem.W.codeIn K cdv qual = true) (S:zu N ps scope)
  (len:∀ vs H Q E,sp vs H Q E -> vs.length = ps.length)
  (hbody:∀ (A:Around) (outer:List Env) (s:Shared) (H:Hp) (vs:List V) (Q:VK) (E:XK),Room k (A.deeper (envOfC qual scope s.heap.objs.size f cdv)) -> sp vs H Q E ->
   ∃ t,PSs (vQ CX P w K mg base N qual scope f cdv A outer s H E) body t /\ t { nx:=fun _ H'=>Q .non H',rt:=Q } (start N vs) H) :
  yk P w K mg base CX (k + 1) f (PySem.W.fnOf name qual params body scope dV kV doc pm an cdv ct) ps sp:=by
 refine ⟨len,fun A outer s H args us vs Q E hr e0 hb r hsp=>?_⟩
 have hl:=len _ _ _ _ hsp
 have KX:K.In s.heap:=e0.mod.kin.keeps fun b o e=>(e0.bs b o e).1
 have lim:s.heap.NoLimit:=e0.mod.nolimit.keeps fun b o e=>(e0.bs b o e).1
 have hkind:∀ y ∈ ps.zip us,scope.names.lookup y.1 = some .local \/ (scope.names.lookup y.1 = some .cell /\ ((cellsFrom (s.heap.objs.size + 1) scope.names []).lookup y.1).isSome = true):=fun ⟨n,v⟩ hy=>by
  rcases S.par n (List.of_mem_zip hy).1 with q | q
  ·exact .inl q
  ·exact .inr ⟨q,PySem.W.cellsFrom_some _ _ _ (.inl q)⟩
 refine codeAny_call_function hr.depth (KX _ _ lk) rfl S.co S.gen rfl (PySem.W.codeRec_of KX hcd) (hb _ _ _ _ ?_)
 refine wpAny_newFunctionEnv_cells S.kind hkind fun env he s1 x=>?_
 subst he
 refine ⟨lim.keeps x.toInCall.keep,codeAny_func ?_⟩
 obtain ⟨t,ht,hq⟩:=hbody A outer s H vs Q E (hr.deeper _) hsp
 have I:Inv (vQ CX P w K mg base N qual scope f cdv A outer s H E) [] (start N vs) H s1:=Xy S hr.hd e0 hl r x
 refine wpAny_mono (ht [] s1 (start N vs) H _ I hq) (fun fl s' hs=>?_) fun e s' hs=>hs
 have fin:∀ {σ':St} {H':Hp} {v:V} {u:Value},Inv (vQ CX P w K mg base N qual scope f cdv A outer s H E) [] σ' H' s' -> RelV v u -> Q v H' -> CE outer P w H s Q u s' :=
  fun {σ' H' v u} J rv q=>⟨v,H',J.os,J.bare,J.base,J.hok,rv,q⟩
 cases fl with
 | ret u =>
  obtain ⟨v,σ',H',J,rv,q⟩:=hs
  exact fin J rv q
 | next =>
  obtain ⟨σ',H',J,q⟩:=hs
  exact fin (v:=V.non) (u:=Value.none) J rfl q
 | brk =>
  obtain ⟨_,_,_,q⟩:=hs
  exact False.elim q
 | cont =>
  obtain ⟨_,_,_,q⟩:=hs
  exact False.elim q
end L2
namespace L2
open PySem PySem.Spec PyProof.Rows
section
variable {X:Cx} {x:Str} {p pos:Pos} {e:Expr} {es:List Expr} {t:TA} {id T:String} {r:List V -> Hp -> VK -> Prop}
def tCB (r:List V -> Hp -> VK -> Prop) (t:TA):TE:=fun σ H Q=>t σ H fun vs H1=>r vs H1 Q
theorem zn (hc:wH X (.builtin id) r) (hg:Gl X x) (hm:X.mg x = none) (hv:bootBuiltins x = some (.builtin id)) (ha:PA X (e :: es) t) (hn:x ≠ "__name__":=by decide) (hdb:(x == ("__debug__" : Str)) = false:=by decide)
  (he:starEach (e :: es) X.env = (false,eval e X.env) :: starEach es X.env:=by rfl) (hpl:(backTo pos (starEach es X.env)).any (·.1) = false:=by rfl):PE X (.Call (.Name x p) (e :: es) [] pos) (tCB r t):=by
 intro pins s σ H Q I h
 refine wpAny_Call_Name_kw (wn I hg hm hv ?_ hn hdb)
 exact PyProof.Rows.callWith_builtin1 (thn (ha pos pins s σ H _ I h) fun us s1 ⟨vs,H1,I1,r1,q1⟩=>hc pins s1 σ H1 vs us Q I1 r1 q1) he hpl
theorem wZ (hc:wH X (.type T) r) (hg:Gl X x) (hm:X.mg x = none) (hv:bootBuiltins x = some (.type T)) (ha:PA X (e :: es) t) (hn:x ≠ "__name__":=by decide) (hdb:(x == ("__debug__" : Str)) = false:=by decide)
  (he:starEach (e :: es) X.env = (false,eval e X.env) :: starEach es X.env:=by rfl) (hpl:(backTo pos (starEach es X.env)).any (·.1) = false:=by rfl):PE X (.Call (.Name x p) (e :: es) [] pos) (tCB r t):=by
 intro pins s σ H Q I h
 refine wpAny_Call_Name_kw (wn I hg hm hv ?_ hn hdb)
 exact PyProof.Rows.callWith_type1 (thn (ha pos pins s σ H _ I h) fun us s1 ⟨vs,H1,I1,r1,q1⟩=>hc pins s1 σ H1 vs us Q I1 r1 q1) he hpl
end
end L2
namespace HT
open PySem PyProof.Rows
section
open PySem.SeqAt
open PySem.AutoSeq1 (wpAny_loadPart')
open PySem.MeetsSeq PySem.MeetsSeq2 PySem.MeetsSeq3
end
section
variable {prog:Program} {w:World} {A:Around} {E:Value -> Shared -> Prop} {s:Shared}
def sIx (n d:Nat):Option Int -> Nat
 | none=>d
 | some v=>if v < 0 then (v + (n:Int)).toNat else min v.toNat n
theorem sIx_none (n d:Nat):sIx n d none = d:=rfl
theorem sIx_nat (n d k:Nat):sIx n d (some (k:Int)) = min k n:=by
 show (if (k:Int) < 0 then ((k:Int) + (n:Int)).toNat else min (k:Int).toNat n) = min k n
 rw [if_neg (by omega),Int.toNat_natCast]
theorem sIx_le (n d:Nat) (hd:d <= n) (o:Option Int):sIx n d o <= n:=by
 cases o with
 | none=>exact hd
 | some v =>
  show (if v < 0 then (v + (n:Int)).toNat else min v.toNat n) <= n
  by_cases hv:v < 0
  ·rw [if_pos hv]; omega
  ·rw [if_neg hv]; exact Nat.min_le_right _ _
end
end HT
namespace L2
open PySem PySem.Spec PyProof.Rows
abbrev TO:=St -> Hp -> (Option Int -> Hp -> Prop) -> Prop
def PO (X:Cx) (e:Option Expr) (t:TO):Prop :=
 ∀ (pins:List (Addr × Obj)) (s:Shared) (σ:St) (H:Hp) (Q:Option Int -> Hp -> Prop),Inv X pins σ H s -> t σ H Q ->
  wpAny (model X.prog X.w) X.A (evalPart e X.env) (fun u s'=>∃ o H',Inv X pins σ H' s' /\ IsPart u o /\ Q o H') X.xe s
def Yw:TO:=fun _ H Q=>Q none H
def Jl (t:TE):TO:=fun σ H Q=>t σ H fun x H1=>∃ i,x = .int i /\ Q (some i) H1
section
variable {X:Cx} {e:Expr} {te:TE} {lo hi:Option Expr} {tl th:TO} {pos p2:Pos}
theorem wC:PO X none Yw:=by
 intro pins s σ H Q I h
 rw [evalPart_none]
 exact wpAny_pure ⟨none,H,I,.none,h⟩
theorem yK (h:PE X e te):PO X (some e) (Jl te):=by
 intro pins s σ H Q I hw
 rw [evalPart_some]
 refine thn (h pins s σ H _ I hw) fun u s1 ⟨x,H1,I1,r1,q1⟩=>?_
 obtain ⟨i,rfl,q⟩:=q1
 obtain ⟨t,rfl⟩:=r1
 exact ⟨some i,H1,I1,.int i t,q⟩
def SlR (X:Cx) (r:V -> Option Int -> Option Int -> Hp -> VK -> Prop):Prop :=
 ∀ (pins:List (Addr × Obj)) (s:Shared) (σ:St) (H:Hp) (x:V) (v vl vu:Value) (lo hi:Option Int) (sl:Addr) (Q:VK),Inv X pins σ H s -> RelV x v -> s.heap.IsSliceOf sl vl vu .none -> IsPart vl lo -> IsPart vu hi -> r x lo hi H Q ->
  ∃ T id,typeLookup (.type T) "__getitem__" = pure (some (.builtin id)) /\ s.TypeIs v T /\ wpAny (model X.prog X.w) X.A (getItem v (.ref sl)) (EP X pins σ Q) X.xe s
theorem SlR.or {r r':V -> Option Int -> Option Int -> Hp -> VK -> Prop} (h:SlR X r) (h':SlR X r'):SlR X (fun x lo hi H Q=>r x lo hi H Q \/ r' x lo hi H Q):=by
 intro pins s σ H x v vl vu lo hi sl Q I rx hs pl pu q
 rcases q with q | q
 ·exact h pins s σ H x v vl vu lo hi sl Q I rx hs pl pu q
 ·exact h' pins s σ H x v vl vu lo hi sl Q I rx hs pl pu q
def tSl (r:V -> Option Int -> Option Int -> Hp -> VK -> Prop) (te:TE) (tl th:TO):TE:=fun σ H Q=>te σ H fun x H1=>tl σ H1 fun l H2=>th σ H2 fun u H3=>r x l u H3 Q
theorem yL {r:V -> Option Int -> Option Int -> Hp -> VK -> Prop} (hr:SlR X r) (he:PE X e te) (hl:PO X lo tl) (hu:PO X hi th):PE X (.Subscript e (.Slice lo hi none p2) pos) (tSl r te tl th):=by
 intro pins s σ H Q I h
 refine Subscript_ (thn (he pins s σ H _ I h) fun v s1 ⟨x,H1,I1,r1,q1⟩=>?_)
 refine wpAny_Slice (thn (hl pins s1 σ H1 _ I1 q1) fun vl s2 ⟨l,H2,I2,pl,q2⟩=>thn (hu pins s2 σ H2 _ I2 q2) fun vu s3 ⟨u,H3,I3,pu,q3⟩=>?_)
 rw [evalPart_none]
 refine wpAny_pure ?_
 have I4:Inv X pins σ H3 { s3 with heap:=s3.heap.push { cls:=.type "slice",data:=.fields #[vl,vu,.none] } }:=I3.kept (t':=s3.toks) fun b ob q=>Heap.get?_push_of_some _ q
 obtain ⟨T,id,hT,ht,hg⟩:=hr pins { s3 with heap:=s3.heap.push { cls:=.type "slice",data:=.fields #[vl,vu,.none] } } σ H3 x v vl vu l u s3.heap.objs.size Q I4 r1 (Heap.IsSliceOf.new ..) pl pu q3
 show wpAny (model X.prog X.w) X.A (subscriptTail e (.Slice lo hi none p2) v (.ref s3.heap.objs.size)) (EP X pins σ Q) X.xe { s3 with heap:=s3.heap.push { cls:=.type "slice",data:=.fields #[vl,vu,.none] } }
 exact tail_any (ops:=[.ref s3.heap.objs.size,v]) ht hT hg (by with_unfolding_all rfl)
def QG (xs:List V) (lo hi:Option Int):List V:=(xs.drop (HT.sIx xs.length 0 lo)).take (HT.sIx xs.length xs.length hi - HT.sIx xs.length 0 lo)
theorem kE (xs:List V) (lo hi:Option Int):(QG xs lo hi).length <= xs.length:=by
 unfold QG
 rw [List.length_take,List.length_drop]
 omega
end
end L2
namespace L2
open PySem PySem.Spec PyProof.Rows
def ixN (n:Nat) (i:Int):Option Nat:=if 0 <= i then (if i < n then some i.toNat else none) else if -(n:Int) <= i then some (i + n).toNat else none
def atI {α:Type} (xs:List α) (i:Int):Option α:=(ixN xs.length i).bind fun j=>xs[j]?
theorem Ud {n:Nat} {i:Int} {j:Nat} (h:ixN n i = some j):seqIndex? i n = some j /\ j < n /\ -(n:Int) <= i /\ i < n:=by
 unfold ixN at h
 by_cases h0:0 <= i
 ·rw [if_pos h0] at h
  by_cases h1:i < n
  ·rw [if_pos h1] at h
   have e:i.toNat = j:=Option.some.inj h
   exact ⟨by rw [seqIndex_of h0 h1,e],by omega,by omega,h1⟩
  ·rw [if_neg h1] at h; cases h
 ·rw [if_neg h0] at h
  by_cases h1:-(n:Int) <= i
  ·rw [if_pos h1] at h
   have e:(i + n).toNat = j:=Option.some.inj h
   exact ⟨by rw [seqIndex_neg (by omega) h1,e],by omega,h1,by omega⟩
  ·rw [if_neg h1] at h; cases h
theorem j5 {α:Type} {xs:List α} {i:Int} {v:α} (h:atI xs i = some v):∃ j,seqIndex? i xs.length = some j /\ xs[j]? = some v /\ j < xs.length /\ -(xs.length:Int) <= i /\ i < xs.length:=by
 unfold atI at h
 cases e:ixN xs.length i with
 | none=>rw [e] at h; cases h
 | some j =>
  rw [e] at h
  obtain ⟨h1,h2,h3,h4⟩:=Ud e
  exact ⟨j,h1,h,h2,h3,h4⟩
theorem qS {α:Type} {xs:List α} {j:Nat} {v:α} (h:xs[j]? = some v):atI xs (j:Int) = some v:=by
 have hj:j < xs.length:=(List.getElem?_eq_some_iff.mp h).1
 have e:ixN xs.length (j:Int) = some j:=by
  unfold ixN
  rw [if_pos (by omega),if_pos (by omega)]; simp
 unfold atI; rw [e]; exact h
def Uz (b:Expr):Prop:=∀ o i,subscripted b false o i = operate [o,i] (getItem o i)
def IxR (X:Cx) (r:R2):Prop :=
 ∀ (value slice:Expr) (pins:List (Addr × Obj)) (s:Shared) (σ:St) (H:Hp) (x y:V) (v u:Value) (Q:VK),Inv X pins σ H s -> RelV x v -> RelV y u -> r x y H Q ->
  subscripted slice false v u = operate [v,u] (getItem v u) -> wpAny (model X.prog X.w) X.A (subscriptTail value slice v u) (EP X pins σ Q) X.xe s
def MtR (X:Cx) (id:String) (r:V -> List V -> Hp -> VK -> Prop):Prop :=
 ∀ (pins:List (Addr × Obj)) (s:Shared) (σ:St) (H:Hp) (x:V) (xs:List V) (v:Value) (us:List Value) (Q:VK),Inv X pins σ H s -> RelV x v -> Vals xs us -> r x xs H Q ->
  wpAny (model X.prog X.w) X.A (call (.builtin id) (v :: us)) (EP X pins σ Q) X.xe s
section
variable {X:Cx} {a b:Expr} {ta tb:TE} {pos:Pos}
theorem IxR.or {r r':R2} (h:IxR X r) (h':IxR X r'):IxR X (fun x y H Q=>r x y H Q \/ r' x y H Q):=by
 intro value slice pins s σ H x y v u Q I rx ry q hs
 rcases q with q | q
 ·exact h value slice pins s σ H x y v u Q I rx ry q hs
 ·exact h' value slice pins s σ H x y v u Q I rx ry q hs
theorem zt {r:R2} (hr:IxR X r) (ha:PE X a ta) (hb:PE X b tb) (hs:Uz b):PE X (.Subscript a b pos) (tOp r ta tb):=by
 intro pins s σ H Q I h
 exact Subscript_ (J2 ha hb I h fun v u s2 x y H2 I2 rx ry q=>hr a b pins s2 σ H2 x y v u Q I2 rx ry q (hs _ _))
def J8 (K:PySem.W.Frag):R2:=fun x y H Q=>∃ p xs i v,x = .ref p /\ y = .int i /\ SqL K H p xs /\ atI xs i = some v /\ Q v H
def uA (K:PySem.W.Frag):R2:=fun x y H Q=>∃ p xs i v,x = .ref p /\ y = .int i /\ SqT K H p xs /\ atI xs i = some v /\ Q v H
def Kr:R2:=fun x y H Q=>∃ z i c,x = .str z /\ y = .int i /\ z.length <= sizeLine /\ atI z.cps.toList i = some c /\ Q (.str ⟨#[c]⟩) H
theorem ix_list:IxR X (J8 X.K):=by
 intro value slice pins s σ H x y v u Q I rx ry h hs
 obtain ⟨p,xs,i,z,rfl,rfl,hq,he,q⟩:=h
 cases rx
 obtain ⟨t,rfl⟩:=ry
 obtain ⟨its,r,pl,hz⟩:=I.list hq
 obtain ⟨j,h1,h2,h3,h4,h5⟩:=j5 he
 obtain ⟨w,ew,rw'⟩:=r.get h2
 have hl:=r.length
 have hn:=jF
 have fin:EP X pins σ Q w s:=⟨z,H,I,rw',q⟩
 by_cases h0:0 <= i
 ·have hj:i.toNat = j:=by
   rw [seqIndex_of h0 h5] at h1
   exact Option.some.inj h1
  exact item_listR pl.isList h0 (by omega) (by rw [hj]; simpa using ew) fin hs
 ·have hj:(i + (its.toArray.size:Int)).toNat = j:=by
   rw [seqIndex_neg (by omega) h4] at h1
   rw [List.size_toArray,<- hl]
   exact Option.some.inj h1
  exact subscriptTail_builtinR (x:=w) pl.isList.typeIs slot_list_getitem.lookup
   (wpAny_getItem_list_neg (Q:=fun r s'=>r = w /\ EP X pins σ Q r s') pl.isList (by omega) (by rw [List.size_toArray] <;> omega) (by omega) (by rw [hj]; simpa using ew) ⟨rfl,fin⟩) hs
theorem ix_tup:IxR X (uA X.K):=by
 intro value slice pins s σ H x y v u Q I rx ry h hs
 obtain ⟨p,xs,i,z,rfl,rfl,hq,he,q⟩:=h
 cases rx
 obtain ⟨t,rfl⟩:=ry
 obtain ⟨its,r,pl,hz⟩:=I.tuple hq
 obtain ⟨j,h1,h2,h3,h4,h5⟩:=j5 he
 obtain ⟨w,ew,rw'⟩:=r.get h2
 have hl:=r.length
 have hn:=jF
 have fin:EP X pins σ Q w s:=⟨z,H,I,rw',q⟩
 exact subscriptTail_builtinR (x:=w) pl.typeIs slot_tuple_getitem.lookup
  (getItem_tuple (j:=j) (Q:=fun r s'=>r = w /\ EP X pins σ Q r s') pl (by omega) (by omega) (by rw [List.size_toArray,<- hl]; exact h1) (by simpa using ew) ⟨rfl,fin⟩) hs
theorem VT:IxR X Kr:=by
 intro value slice pins s σ H x y v u Q I rx ry h hs
 obtain ⟨z,i,c,rfl,rfl,hz,he,q⟩:=h
 obtain ⟨t,rfl⟩:=rx
 obtain ⟨t',rfl⟩:=ry
 obtain ⟨j,h1,h2,h3,h4,h5⟩:=j5 he
 have hl:z.cps.toList.length = z.length:=by simp [Str.length]
 rw [hl] at h1 h4 h5
 have hn:=jF
 exact tail_any (typeIs_str s z t) slot_str_getitem.lookup (getItem_str (c:=c) (by
  have e1:decide (i < -(2 ^ 63:Int)) = false:=decide_eq_false (by omega)
  have e2:decide (i ≥ 2 ^ 63) = false:=decide_eq_false (by omega)
  rw [e1,e2,Bool.or_false]) (by rw [h1]; simpa using h2) ⟨.str ⟨#[c]⟩,H,I.tok _,⟨_,rfl⟩,q⟩) hs
def rIx (K:PySem.W.Frag):R2:=fun x y H Q=>J8 K x y H Q \/ uA K x y H Q \/ Kr x y H Q
theorem Zn:IxR X (rIx X.K):=ix_list.or (ix_tup.or VT)
theorem Inv.lst {pins:List (Addr × Obj)} {σ:St} {H:Hp} {s:Shared} {p:Addr} {xs:List V} (I:Inv X pins σ H s) (h:H p = some (.lst xs)) :
  ∃ (its:List Value) (n:Nat),Vals xs its /\ s.heap.get? p = some { cls:=.type "list",data:=.seq its.toArray n } /\ xs.length <= sizeLine:=by
 obtain ⟨z,its,n,r,e⟩:=I.hok p _ h
 exact ⟨its,n,r,e,z⟩
theorem jY (lo hi:Option Int) (n:Nat):(sliceBounds lo hi none n).1 = ((HT.sIx n 0 lo:Nat):Int) /\ (sliceBounds lo hi none n).2.1 = ((HT.sIx n n hi:Nat):Int) /\ (sliceBounds lo hi none n).2.2 = 1:=by
 refine ⟨?_,?_,rfl⟩
 ·cases lo with
  | none=>simp [sliceBounds,HT.sIx]
  | some i =>
   simp only [sliceBounds,HT.sIx,Option.getD_none,show (1:Int) > 0 by decide,if_true]
   by_cases h:i < 0
   ·simp only [h,if_true] <;> omega
   ·simp only [h,if_false] <;> omega
 ·cases hi with
  | none=>simp [sliceBounds,HT.sIx]
  | some i =>
   simp only [sliceBounds,HT.sIx,Option.getD_none,show (1:Int) > 0 by decide,if_true]
   by_cases h:i < 0
   ·simp only [h,if_true] <;> omega
   ·simp only [h,if_false] <;> omega
theorem qR (its:List Value) (lo hi:Option Int):slicePick its.toArray lo hi none = ((its.drop (HT.sIx its.length 0 lo)).take (HT.sIx its.length its.length hi - HT.sIx its.length 0 lo)).toArray:=by
 obtain ⟨h1,h2,h3⟩:=jY lo hi its.toArray.size
 unfold slicePick
 rw [h1,h2,h3]
 simp only [sliceRange_one,pick_run,List.size_toArray] <;> rfl
def JU (K:PySem.W.Frag):V -> Option Int -> Option Int -> Hp -> VK -> Prop:=fun x lo hi H Q=>∃ a xs,x = .ref a /\ SqL K H a xs /\ ∀ p,H p = none -> Q (.ref p) (upd H p (.lst (QG xs lo hi)))
theorem sl_list:SlR X (JU X.K):=by
 intro pins s σ H x v vl vu lo hi sl Q I rx hs pl pu h
 obtain ⟨a,xs,rfl,hx,q⟩:=h
 cases rx
 obtain ⟨its,r,ht,hz⟩:=I.list hx
 have hlen:=r.length
 refine ⟨"list",_,slot_list_getitem.lookup,ht.isList.typeIs,?_⟩
 refine wpAny_getItem_list_slice ht.isList hs pl pu .none (by simp) ?_ (by rw [List.size_toArray] <;> omega)
 rw [qR,<- hlen]
 refine ⟨.ref s.heap.objs.size,_,I.laid (t':=s.toks) (o:=.lst (QG xs lo hi)) (fun b ob q=>Heap.get?_push_of_some _ q) (Nat.le_refl _) ?_,rfl,q _ (I.hok.fresh (Nat.le_refl _))⟩
 exact ⟨Nat.le_trans (kE xs lo hi) hz,_,0,(r.drop (HT.sIx xs.length 0 lo)).take (HT.sIx xs.length xs.length hi - HT.sIx xs.length 0 lo),Heap.get?_push_size _ rfl⟩
def QS:V -> Bool
 | .non=>true
 | .bl _=>true
 | .int _=>true
 | .str _=>true
 | _=>false
def eqV:V -> V -> Bool
 | .non,.non=>true
 | .bl a,.bl b=>a == b
 | .bl a,.int b=>(if a then 1 else 0) == b
 | .int a,.bl b=>a == (if b then 1 else 0)
 | .int a,.int b=>a == b
 | .str a,.str b=>a == b
 | _,_=>false
theorem kK {A:Around} {s:Shared} {y x:V} {u v:Value} (ry:RelV y u) (rx:RelV x v) (fy:QS y = true) (fx:QS x = true):SeqAt.EqAt A s u v (eqV y x):=by
 cases y with
 | non =>
  cases ry
  cases x with
  | non=>cases rx; exact SeqAt.EqAt.same _
  | bl b=>cases rx; exact SeqAt.EqAt.none_bool b
  | int b=>obtain ⟨t,rfl⟩:=rx; exact SeqAt.EqAt.none_int b t
  | str b=>obtain ⟨t,rfl⟩:=rx; exact SeqAt.EqAt.none_str b t
  | _=>exact absurd (show false = true from fx) Bool.false_ne_true
 | bl a =>
  cases ry
  cases x with
  | non=>cases rx; exact SeqAt.EqAt.bool_none a
  | bl b=>cases rx; exact SeqAt.EqAt.bool_bool a b
  | int b=>obtain ⟨t,rfl⟩:=rx; exact SeqAt.EqAt.bool_int a b t
  | str b=>obtain ⟨t,rfl⟩:=rx; exact SeqAt.EqAt.bool_str a b t
  | _=>exact absurd (show false = true from fx) Bool.false_ne_true
 | int a =>
  obtain ⟨t',rfl⟩:=ry
  cases x with
  | non=>cases rx; exact SeqAt.EqAt.int_none a t'
  | bl b=>cases rx; exact SeqAt.EqAt.int_bool a t' b
  | int b=>obtain ⟨t,rfl⟩:=rx; exact SeqAt.EqAt.int_int a t' b t
  | str b=>obtain ⟨t,rfl⟩:=rx; exact SeqAt.EqAt.int_str a t' b t
  | _=>exact absurd (show false = true from fx) Bool.false_ne_true
 | str a =>
  obtain ⟨t',rfl⟩:=ry
  cases x with
  | non=>cases rx; exact SeqAt.EqAt.str_none a t'
  | bl b=>cases rx; exact SeqAt.EqAt.str_bool a t' b
  | int b=>obtain ⟨t,rfl⟩:=rx; exact SeqAt.EqAt.str_int a t' b t
  | str b=>obtain ⟨t,rfl⟩:=rx; exact SeqAt.EqAt.str_str a t' b t
  | _=>exact absurd (show false = true from fx) Bool.false_ne_true
 | _=>exact absurd (show false = true from fy) Bool.false_ne_true
theorem vH:wH X (.type "list") (fun xs H Q=>∃ p ys,xs = [.ref p] /\ (SqL X.K H p ys \/ SqT X.K H p ys) /\ ∀ l,H l = none -> Q (.ref l) (upd H l (.lst ys))):=by
 intro pins s σ H xs us Q I r h
 obtain ⟨p,ys,rfl,hq,q⟩:=h
 obtain ⟨u,rfl,rx⟩:=xD r
 cases rx
 have fin:∀ (its:List Value),Vals ys its -> ys.length <= sizeLine -> ∀ (h':Heap) (c':Nat),(∀ b o',s.heap.get? b = some o' -> h'.get? b = some o') ->
   h'.get? s.heap.objs.size = some { cls:=.type "list",dict:=none,data:=.seq its.toArray c',slots:=#[] } -> EP X pins σ Q (.ref s.heap.objs.size) { s with heap:=h' }:=fun its r' hz h' c' kp e =>
  ⟨.ref s.heap.objs.size,_,I.laid (t':=s.toks) kp (Nat.le_refl _) (show ObjOk X.prog X.w _ h' _ (.lst ys) from ⟨hz,its,c',r',e⟩),rfl,q _ (I.hok.fresh (Nat.le_refl _))⟩
 rcases hq with hq | hq
 ·obtain ⟨its,r',pl,hz⟩:=I.list hq
  have hlen:=r'.length
  obtain ⟨o,ho,hc,n,hd⟩:=pl.isList
  exact call_list_seq p (.inl rfl) ho hc hd (fun h' c' kp e=>fin its r' hz h' c' kp e) (by simp only [List.size_toArray] <;> omega)
 ·obtain ⟨its,r',pl,hz⟩:=I.tuple hq
  have hlen:=r'.length
  obtain ⟨o,ho,hc,n,hd⟩:=pl
  exact call_list_seq p (.inr rfl) ho hc hd (fun h' c' kp e=>fin its r' hz h' c' kp e) (by simp only [List.size_toArray] <;> omega)
theorem qF:wH X (.type "tuple") (fun xs H Q=>∃ p ys,xs = [.ref p] /\ ((SqL X.K H p ys /\ ∀ l,H l = none -> Q (.ref l) (upd H l (.tup ys))) \/ (SqT X.K H p ys /\ Q (.ref p) H))):=by
 intro pins s σ H xs us Q I r h
 obtain ⟨p,ys,rfl,h⟩:=h
 obtain ⟨u,rfl,rx⟩:=xD r
 cases rx
 rcases h with ⟨hq,q⟩ | ⟨hq,q⟩
 ·obtain ⟨its,r',pl,hz⟩:=I.list hq
  have hlen:=r'.length
  refine call_tuple_list pl.isList (fun h' kp=>?_) (by simp only [List.size_toArray] <;> omega)
  have I1:Inv X pins σ H { s with heap:=h' }:=I.kept (t':=s.toks) kp
  have I2:Inv X pins σ (upd H h'.objs.size (.tup ys)) { s with heap:=h'.push { cls:=.type "tuple",data:=.seq its.toArray } } :=
   I1.laid (t':=s.toks) (fun b o e=>Heap.get?_push_of_some _ e) (Nat.le_refl _) (show ObjOk X.prog X.w _ _ _ (.tup ys) from ⟨hz,its,r',IsTup.new _ _⟩)
  exact ⟨.ref h'.objs.size,_,I2,rfl,q _ (I1.hok.fresh (Nat.le_refl _))⟩
 ·obtain ⟨its,r',pl,hz⟩:=I.tuple hq
  exact call_tuple_same pl ⟨.ref p,H,I,rfl,q⟩
def tyV (K:PySem.W.Frag) (T:String) (x:V) (H:Hp):Prop:=match x with
 | .str _=>T = "str"
 | .int _=>T = "int"
 | .ref p=>(T = "list" /\ ∃ xs,SqL K H p xs) \/ (T = "tuple" /\ ∃ o,K.lookup p = some o /\ o.cls = .type "tuple" /\ o.dict = none) \/
   (T = "dict" /\ ((∃ kvs,H p = some (.dK kvs)) \/ ∃ kvs,H p = some (.dT kvs))) \/ (T = "set" /\ ∃ S n,H p = some (.set S n))
 | _=>False
theorem Ja {pins:List (Addr × Obj)} {σ:St} {H:Hp} {s:Shared} {T:String} {x:V} {v:Value} (I:Inv X pins σ H s) (r:RelV x v) (ty:tyV X.K T x H) :
  s.TypeIs v T /\ ∀ a,v = .ref a -> ∃ ob,s.heap.get? a = some ob /\ ob.dict = none:=by
 cases x with
 | str z =>
  obtain ⟨t,rfl⟩:=r
  cases (show T = "str" from ty)
  exact ⟨typeIs_str s z t,fun _ e=>nomatch e⟩
 | int i =>
  obtain ⟨t,rfl⟩:=r
  cases (show T = "int" from ty)
  exact ⟨typeIs_int s i t,fun _ e=>nomatch e⟩
 | ref p =>
  cases r
  rcases ty with ⟨rfl,xs,hq⟩ | ⟨rfl,o,hk,hc,hd⟩ | ⟨rfl,hk⟩ | ⟨rfl,S,n,hk⟩
  ·obtain ⟨its,_,pl,_⟩:=I.list hq
   refine ⟨pl.isList.typeIs,fun a e=>?_⟩
   cases e
   obtain ⟨o,n,e,c,hd,_⟩:=pl
   exact ⟨o,e,hd⟩
  ·refine ⟨⟨o,I.kIn p o hk,hc⟩,fun a e=>?_⟩
   cases e
   exact ⟨o,I.kIn _ o hk,hd⟩
  ·have z:∃ o,s.heap.get? p = some o /\ o.ExactDict:=by
    rcases hk with ⟨kvs,hk⟩ | ⟨kvs,hk⟩
    ·obtain ⟨_,_,_,_,o,_,_,e,ex,_⟩:=I.hok p _ hk
     exact ⟨o,e,ex⟩
    ·obtain ⟨_,_,_,_,o,_,_,e,ex,_⟩:=I.hok p _ hk
     exact ⟨o,e,ex⟩
   obtain ⟨o,e,ex⟩:=z
   refine ⟨⟨o,e,ex.1⟩,fun a e2=>?_⟩
   cases e2
   exact ⟨o,e,ex.2.1⟩
  ·obtain ⟨o,_,_,_,e,ex,_⟩:=I.hok p _ hk
   refine ⟨⟨o,e,ex.1⟩,fun a e2=>?_⟩
   cases e2
   exact ⟨o,e,ex.2.1⟩
 | _=>exact False.elim ty
def zal (K:PySem.W.Frag) (T:String) (r:V -> List V -> Hp -> VK -> Prop) (to:TE):TE:=fun σ H Q=>to σ H fun x H1=>tyV K T x H1 /\ r x [] H1 Q
def tBM (K:PySem.W.Frag) (T:String) (r:V -> List V -> Hp -> VK -> Prop) (to:TE) (t:TA):TE:=fun σ H Q=>to σ H fun x H1=>tyV K T x H1 /\ t σ H1 fun xs H2=>r x xs H2 Q
variable {o e:Expr} {es:List Expr} {to:TE} {t:TA} {name:Str} {apos cpos:Pos} {T id:String} {r:V -> List V -> Hp -> VK -> Prop}
theorem wD (pa:PlainAttrs T) (slot:Slot T name id) (hty:typeOf (.builtin id) = pure (.type "method_descriptor")) (hm:MtR X id r) (ho:PE X o to) (ha:PA X (e :: es) t)
  (hbase:attributeBase o name X.env (eval o X.env) = eval o X.env:=by rfl)
  (hfew:((backTo cpos (starEach (e :: es) X.env)).all (fun x=>!x.1) && (backToKw cpos (keywordEach [] X.env)).all (fun x=>x.1.isSome)
   && decide ((e :: es).length + ([]:List Keyword).length + (if ([]:List Keyword).isEmpty then 0 else 1) < 30)) = true:=by rfl)
  (hline:(apos.endLine == cpos.line) = true:=by rfl) (hs:starEach (e :: es) X.env = (false,eval e X.env) :: starEach es X.env:=by rfl) (hplain:(backTo cpos (starEach es X.env)).any (·.1) = false:=by rfl) :
  PE X (.Call (.Attribute o name apos) (e :: es) [] cpos) (tBM X.K T r to t):=by
 intro pins s σ H Q I h
 refine wpAny_Call_method_late hbase hfew hline rfl (thn (ho pins s σ H _ I h) fun v s1 ⟨x,H1,I1,r1,ty,q1⟩=>?_)
 obtain ⟨h1,h2⟩:=Ja I1 r1 ty
 refine ⟨T,id,pa,slot,hty,h1,h2,?_⟩
 have hA:=ha cpos pins s1 σ H1 _ I1 q1
 rw [hs] at hA ⊢
 refine Calls.callWith_builtin (by show (false || (backTo cpos (starEach es X.env)).any (·.1)) = false; rw [hplain] <;> rfl) (Calls.evalArgs_plain ?_)
 exact thn hA fun us s2 ⟨vs,H2,I2,r2,q2⟩=>hm pins s2 σ H2 x vs v us Q I2 r1 r2 q2
/- xs.append(e),list.index on a module's tuple .. are MtR facts of 06m -/
end
end L2
namespace L2
open PySem PySem.Spec PyProof.Rows
def MtM (X:Cx) (id:String) (r:V -> List V -> Hp -> VK -> Prop):Prop :=
 ∀ (pins:List (Addr × Obj)) (s:Shared) (σ:St) (H:Hp) (x:V) (xs:List V) (v:Value) (us:List Value) (Q:VK),Inv X pins σ H s -> RelV x v -> Vals xs us -> r x xs H Q ->
  wpAny (model X.prog X.w) X.A (call (.builtin id) (v :: us)) (EP X pins σ Q) X.xe s
theorem Vals.one:∀ {x:V} {us:List Value},Vals [x] us -> ∃ u,us = [u] /\ RelV x u
 | _,_,.cons r .nil=>⟨_,rfl,r⟩
theorem Vals.two:∀ {x y:V} {us:List Value},Vals [x,y] us -> ∃ u v,us = [u,v] /\ RelV x u /\ RelV y v
 | _,_,_,.cons r (.cons q .nil)=>⟨_,_,rfl,r,q⟩
theorem Vals.zero:∀ {us:List Value},Vals [] us -> us = []
 | _,.nil=>rfl
theorem Vals.reverse {xs:List V} {us:List Value} (h:Vals xs us):Vals xs.reverse us.reverse:=by
 induction h with
 | nil=>exact .nil
 | cons r t ih=>rw [List.reverse_cons,List.reverse_cons]; exact Vals.append ih (.cons r .nil)
section
variable {X:Cx} {pins:List (Addr × Obj)} {σ:St} {H:Hp} {s:Shared} {l b:Addr} {xs ys zs:List V}
theorem Inv.lset {its its':List Value} {n:Nat} {f:Array Value -> Array Value} {t':Nat} (I:Inv X pins σ H s) (hH:H l = some (.lst xs))
  (e:s.heap.get? l = some { cls:=.type "list",data:=.seq its.toArray n }) (hf:f its.toArray = its'.toArray) (hv:Vals ys its') (hz:ys.length <= sizeLine) :
  Inv X pins σ (upd H l (.lst ys)) { s with heap:=s.heap.update l (Obj.mapSeq f),toks:=t' }:=by
 have q:=PySem.IsL.update e f
 rw [hf] at q
 refine I.write (x:=l) (e:=l) (by rw [hH]; exact trivial) (.inl rfl) (fun b' u hb hu=>(Heap.get?_update_other s.heap (Obj.mapSeq f) (Ne.symm hb)).trans hu) ⟨_,q⟩ ?_
 exact ⟨hz,its',_,hv,q⟩
theorem Inv.lnew {its:List Value} {t':Nat} (I:Inv X pins σ H s) (hv:Vals ys its) (hz:ys.length <= sizeLine) :
  Inv X pins σ (upd H s.heap.objs.size (.lst ys)) { s with heap:=s.heap.push { cls:=.type "list",data:=.seq its.toArray },toks:=t' } :=
 I.laid (fun _ _ q=>Heap.get?_push_of_some _ q) (Nat.le_refl _) ⟨hz,its,0,hv,Heap.get?_push_size _ rfl⟩
theorem Inv.fresh (I:Inv X pins σ H s):H s.heap.objs.size = none:=I.hok.fresh (Nat.le_refl _)
theorem Inv.lstM (I:Inv X pins σ H s) (hH:H l = some (.lst xs)):xs.length <= sizeLine /\ ∃ (its:List Value) (n:Nat),Vals xs its /\ xs.length = its.length /\ s.heap.get? l = some { cls:=.type "list",data:=.seq its.toArray n }:=by
 obtain ⟨z,its,n,r,e⟩:=I.hok l _ hH
 exact ⟨z,its,n,r,r.length,e⟩
theorem WC {n:Nat} (h:n <= sizeLine):Builtin.List.listTooLong n = false:=by
 unfold Builtin.List.listTooLong
 exact decide_eq_false (by omega)
end
section
variable {X:Cx}
def Y4:V -> List V -> Hp -> VK -> Prop:=fun x vs H Q=>∃ l xs y,x = .ref l /\ vs = [y] /\ H l = some (.lst xs) /\ xs.length < sizeLine /\ Q .non (upd H l (.lst (xs ++ [y])))
theorem yZ:MtM X "list.append" Y4:=by
 intro pins s σ H x vs v us Q I rx rv h
 obtain ⟨l,xs,y,rfl,rfl,hH,hz,q⟩:=h
 cases rx
 obtain ⟨u,rfl,ru⟩:=rv.one
 obtain ⟨z,its,n,r,hl,e⟩:=I.lstM hH
 refine call_meets F.slot_list_append ⟨_,e,rfl⟩ F.entry_list_append (F.args_list_append_2 _ _) (PySem.list_append l its.toArray n u (by rw [List.size_toArray]; omega)) ⟨e,?_⟩
 refine ⟨.non,_,I.lset (its':=its ++ [u]) hH e (by simp) (r.append (.cons ru .nil)) ?_,rfl,q⟩
 rw [List.length_append,List.length_singleton]
 omega
def Yt:V -> List V -> Hp -> VK -> Prop:=fun x vs H Q=>∃ l b xs zs,x = .ref l /\ vs = [.ref b] /\ H l = some (.lst xs) /\ H b = some (.lst zs) /\ xs.length + zs.length <= sizeLine /\ Q .non (upd H l (.lst (xs ++ zs)))
theorem Yz:MtM X "list.extend" Yt:=by
 intro pins s σ H x vs v us Q I rx rv h
 obtain ⟨l,b,xs,zs,rfl,rfl,hH,hB,hz,q⟩:=h
 cases rx
 obtain ⟨u,rfl,ru⟩:=rv.one
 cases ru
 obtain ⟨z,its,n,r,hl,e⟩:=I.lstM hH
 obtain ⟨z2,its2,n2,r2,hl2,e2⟩:=I.lstM hB
 have hsz:its.toArray.size + its2.toArray.size <= sizeLine:=by rw [List.size_toArray,List.size_toArray]; omega
 have hlong:¬ (!its.toArray.isEmpty && Builtin.List.listTooLong (its.toArray.size + its2.toArray.size)) = true:=by
  rw [WC hsz,Bool.and_false]
  exact Bool.false_ne_true
 refine call_meets F.slot_list_extend ⟨_,e,rfl⟩ F.entry_list_extend (F.args_list_extend_2 _ _)
  (AutoSeq1.list_extend_list_list_0 l its.toArray n b its2.toArray n2 hlong (by rw [List.size_toArray]; omega) (by omega)) ⟨e,e2,?_⟩
 refine ⟨.non,_,I.lset (its':=its ++ its2) hH e (by simp) (r.append r2) ?_,rfl,q⟩
 rw [List.length_append]
 omega
def Ka:R2:=fun x y H Q=>∃ l b xs zs,x = .ref l /\ y = .ref b /\ H l = some (.lst xs) /\ H b = some (.lst zs) /\ xs.length + zs.length <= sizeLine /\ ∀ p,H p = none -> Q (.ref p) (upd H p (.lst (xs ++ zs)))
theorem YY:OpR X (binaryOp .Add) Ka:=by
 intro pins s σ H x y v u Q I rx ry h
 obtain ⟨l,b,xs,zs,rfl,rfl,hH,hB,hz,q⟩:=h
 cases rx
 cases ry
 obtain ⟨z,its,n,r,hl,e⟩:=I.lstM hH
 obtain ⟨z2,its2,n2,r2,hl2,e2⟩:=I.lstM hB
 refine PySem.P.add_list e e2 ?_ (by rw [List.size_toArray,List.size_toArray]; omega)
 have ea:its.toArray ++ its2.toArray = (its ++ its2).toArray:=by simp
 rw [ea]
 exact ⟨.ref _,_,I.lnew (t':=s.toks) (r.append r2) (by rw [List.length_append]; omega),rfl,q _ I.fresh⟩
theorem len_rep {α:Type} (xs:List α) (k:Nat):(List.replicate k xs).flatten.length = k * xs.length:=by
 induction k with
 | zero=>simp
 | succ k ih=>rw [List.replicate_succ,List.flatten_cons,List.length_append,ih,Nat.succ_mul,Nat.add_comm]
end
section
variable {prog:Program} {w:World} {A:Around} {E:Value -> Shared -> Prop} {s:Shared}
end
section
variable {X:Cx}
end
end L2
namespace Att
open PySem PySem.W PySem.Calls PyProof.Rows
theorem uj {P:Params} {h:Heap}:∀ (ns:List Int) (vs:List Value),WellAll P h vs (ns.map WData.int) -> IntsAre vs ns:=by
 intro ns
 induction ns with
 | nil =>
  intro vs w
  rw [List.map_nil] at w
  cases w
  exact .nil
 | cons n ns ih =>
  intro vs w
  rw [List.map_cons] at w
  cases w with
  | cons a b =>
   cases a
   exact .cons _ _ (ih _ b)
theorem script_of {l:OpenLaw} {n:Nat} (hn:l.most = some n) {P:Params} {h:Heap} {args:List WData} {vals:List Value}
  (hpre:l.row.toRowW.claim.pre args = true) (hwl:WellAll P h vals args) :
  ∃ a vs ns,vals = [Value.ref a] /\ args = [WData.list (ns.map WData.int)] /\ h.get? a = some { cls:=.type "list",data:=.seq vs.toArray } /\ IntsAre vs ns /\ ns.length <= n:=by
 have hsh:WShape.hasAll [] args [.list .int] = true:=(pre_splitW hpre).1
 have hc:l.pre.holds [] { args:=args } = true:=(pre_splitW hpre).2
 obtain ⟨d,r,rfl,h1,h2⟩:=hasAllW_cons hsh
 obtain rfl:=hasAllW_nil h2
 obtain ⟨xs,rfl,h3⟩:=hasW_list h1
 obtain ⟨ns,rfl⟩:=items_int h3
 have hlen:ns.length <= n:=by
  unfold OpenLaw.pre at hc
  have h4:(WTm.not (.lt (.lit (.int (n:Int))) (.len (.arg 0)))).holds [] { args:=[.list (ns.map .int)] } = true:=by
   have h4:=(holds_andW hc).1
   rw [hn] at h4
   exact h4
  have h5:=condW_of h4 (w_not (w_lt w_lit (w_len_list (w_arg rfl))))
  rw [List.length_map] at h5
  refine Nat.le_of_not_lt fun q=>?_
  have q':(n:Int) < ((ns.length:Nat):Int):=by omega
  first
   | (rw [decide_eq_true q'] at h5; exact absurd h5 (by decide))
   | (simp at h5; omega)
 cases hwl with
 | cons w1 w2 =>
  cases w2
  cases w1 with
  | list ho hall=>exact ⟨_,_,ns,rfl,rfl,ho,uj ns _ hall,hlen⟩
theorem post_true (l:OpenLaw) (args:List WData):l.row.toRowW.claim.post args (.bool true) args = true :=
 postW_of (r:=l.row.toRowW) (X:=(true == true))
  (show WShape.has [] (.bool true) .bool = true by first | rfl | decide | simp [WShape.has,WShape.arms,WShape.armsAll])
  (show (WTm.eq .res (.lit (.bool true))).value [] { args:=args,res:=some (.bool true),after:=args } = some (.bool (true == true)) from w_eq_bool (w_res rfl) w_lit) rfl
section
variable {prog:Program} {w:World} {A:Around} {E:Value -> Shared -> Prop} {s:Shared} {K:Frag}
def KT (h:Heap) (L d:Addr):List (Addr × Obj):=(List.range h.objs.size).filterMap fun a=>if a = L \/ a = d then none else (h.get? a).map fun o=>(a,o)
end
end Att
namespace L2
open PySem PySem.Spec PyProof.Rows
theorem jV:∀ {vs:List Value} {ns:List Int},IntsAre vs ns -> Vals (ns.map V.int) vs
 | _,_,.nil=>.nil
 | _,_,.cons n t h=>.cons ⟨t,rfl⟩ (jV h)
end L2
namespace L2
open PySem PySem.Spec PyProof.Rows
end L2
namespace L2
open PySem PySem.Spec PyProof.Rows
def xQ (s:Stmt) (j:Nat):Stmt:=match s with
 | .ClassDef _ _ _ body _ _ _ _ _ _ _=>body.getD j (.Pass ⟨0,0,0,0⟩)
 | _=>.Pass ⟨0,0,0,0⟩
def zr (s:Stmt):Arguments:=match s with
 | .FunctionDef _ a _ _ _ _ _ _ _ _=>a
 | _=>{ posonlyargs:=[],args:=[],vararg:=none,kwonlyargs:=[],kw_defaults:=[],kwarg:=none,defaults:=[] }
def zo (s:Stmt):List Stmt:=match s with
 | .FunctionDef _ _ b _ _ _ _ _ _ _=>b
 | _=>[]
def zb (s:Stmt):Scope:=match s with
 | .FunctionDef _ _ _ _ _ _ sc _ _ _=>sc
 | _=>{ kind:=.function,names:=[],isGenerator:=false,isCoroutine:=false }
abbrev CX0:CXT:=fun _ _ _ _ _ _=>False
abbrev E0:XK:=fun _ _ _=>False
theorem j1 {X:Cx}:vF CX0 X E0:=fun _ _ _ _ _ _ _ h=>h.elim
structure Fun (K:PySem.W.Frag) (x qual:Str) (st:Stmt) (f:Addr) (fd:FuncData):Prop where
 ex:∃ (oc:Value) (od:Option Addr) (kV doc pm:Value) (an:Option Addr) (cdv ct:Value) (osl:Array (Option Value)),
  fd = PySem.W.fnOf x qual (zr st) (zo st) (zb st) .none kV doc pm an cdv ct /\ K.lookup f = some ⟨oc,od,.func fd,osl⟩ /\ PySem.W.codeIn K cdv qual = true
 kp:PySem.W.keepIn K (.ref f) = true
section
variable {P:Program} {w:World} {K:PySem.W.Frag} {mg:Str -> Option Value} {base:Heap}
theorem Fun.ok {x qual:Str} {st:Stmt} {f:Addr} {fd:FuncData} {N ps:List Str} {k:Nat} {sp:Sp} (F:Fun K x qual st f fd) (S:zu N ps (zb st)) (len:∀ vs H Q E,sp vs H Q E -> vs.length = ps.length)
  (hbody:∀ (cdv:Value) (A:Around) (outer:List Env) (s:Shared) (H:Hp) (vs:List V) (Q:VK) (E:XK),Room k (A.deeper (envOfC qual (zb st) s.heap.objs.size f cdv)) -> sp vs H Q E ->
   ∃ t,PSs (vQ CX0 P w K mg base N qual (zb st) f cdv A outer s H E).nox (zo st) t /\ t { nx:=fun _ H'=>Q .non H',rt:=Q } (start N vs) H):yk P w K mg base CX0 (k + 1) f fd ps sp:=by
 obtain ⟨oc,od,kV,doc,pm,an,cdv,ct,osl,rfl,lk,hcd⟩:=F.ex
 refine Wn lk hcd S len fun A outer s H vs Q E hr hsp=>?_
 obtain ⟨t,h,q⟩:=hbody cdv A outer s H vs Q E hr hsp
 exact ⟨t,h.nox,q⟩
theorem Fun.binds {x qual:Str} {st:Stmt} {f:Addr} {fd:FuncData} {ps:List Str} (F:Fun K x qual st f fd)
  (h:∀ (kV doc pm:Value) (an:Option Addr) (cdv ct:Value) (us:List Value),us.length = ps.length -> bindArgs (PySem.W.fnOf x qual (zr st) (zo st) (zb st) .none kV doc pm an cdv ct) ⟨us,[]⟩ = pure (ps.zip us)):Binds K fd ps []:=by
 obtain ⟨oc,od,kV,doc,pm,an,cdv,ct,osl,rfl,lk,hcd⟩:=F.ex
 exact .all (h kV doc pm an cdv ct)
theorem zG {x qual:Str} {st:Stmt} {f:Addr} {oc:Value} {od an:Option Addr} {osl:Array (Option Value)} {kV doc pm cdv ct:Value} (l:K.lookup f = some ⟨oc,od,.func (PySem.W.fnOf x qual (zr st) (zo st) (zb st) .none kV doc pm an cdv ct),osl⟩)
  (c:PySem.W.codeIn K cdv qual = true) (k:PySem.W.keepIn K (.ref f) = true):Fun K x qual st f (PySem.W.fnOf x qual (zr st) (zo st) (zb st) .none kV doc pm an cdv ct):=⟨⟨oc,od,kV,doc,pm,an,cdv,ct,osl,rfl,l,c⟩,k⟩
end
section
variable {X:Cx}
theorem pv (i:Nat) {x:Str} {pos:Pos} (hN:X.N[i]? = some x:=by rfl) (hv:Vis X.env.scope x:=by first | exact Or.inl rfl | exact Or.inr (Or.inl rfl) | exact Or.inr (Or.inr rfl)) (hd:(x == ("__debug__" : Str)) = false:=by decide)
  (hcd:(x == ("__classdict__" : Str)) = false:=by decide):PE X (.Name x pos) (yN i):=Jo hN hv hd hcd
end
theorem zaA {A B:Prop} (h:A):if true = true then A else B:=by
 rw [if_pos rfl]
 exact h
theorem xn {c A B:Prop} [Decidable c] (h1:c -> A) (h2:¬ c -> B):if c then A else B:=by
 by_cases h:c
 ·rw [if_pos h]
  exact h1 h
 ·rw [if_neg h]
  exact h2 h
def Same (H H':Hp):Prop:=∀ b o,H b = some o -> H' b = some o
theorem Same.refl (H:Hp):Same H H:=fun _ _ h=>h
theorem Same.trans {H H1 H2:Hp} (a:Same H H1) (b:Same H1 H2):Same H H2:=fun c o h=>b c o (a c o h)
theorem Same.free {H H':Hp} (e:Same H H') {l:Addr} (h:H' l = Option.none):H l = Option.none:=by
 cases q:H l with
 | none=>rfl
 | some o =>
  rw [e l o q] at h
  cases h
theorem Same.seq {K:PySem.W.Frag} {H H':Hp} {a:Addr} {xs:List V} (e:Same H H') (h:SqL K H a xs):SqL K H' a xs:=by
 rcases h with (h | ⟨o,h⟩) | h
 ·exact .inl (.inl (e _ _ h))
 ·exact .inl (.inr ⟨o,e _ _ h⟩)
 ·exact .inr h
end L2
namespace L3
open PySem PySem.Spec PyProof.Rows L2
abbrev St:=L2.St
abbrev cs (x:Str):List Nat:=x.cps.toList
abbrev tx (l:List Nat):Str:=⟨l.toArray⟩
theorem QM (x:Str):tx (cs x) = x:=by cases x; rfl
theorem Wa (l:List Nat):cs (tx l) = l:=rfl
theorem Zh (x:Str):x.length = (cs x).length:=by simp [Str.length,cs]
theorem yf (l:List Nat):(tx l).length = l.length:=by simp [Str.length,tx]
theorem jy {x y:Str} (h:cs x = cs y):x = y:=by rw [<- QM x,<- QM y,h]
theorem Zo {l m:List Nat} (h:tx l = tx m):l = m:=by rw [<- Wa l,<- Wa m,h]
theorem JJ {l m:List Nat}:tx l = tx m ↔ l = m:=⟨Zo,fun h=>by rw [h]⟩
theorem wQ (l m:List Nat):tx l ++ tx m = tx (l ++ m):=by
 apply jy
 show (tx l ++ tx m).cps.toList = l ++ m
 rw [Str.cps_append]
 simp
def cut {α:Type} (l:List α) (lo hi:Option Int):List α:=(l.drop (HT.sIx l.length 0 lo)).take (HT.sIx l.length l.length hi - HT.sIx l.length 0 lo)
theorem wJ {α:Type} (l:List α) (lo hi:Option Int):(cut l lo hi).length <= l.length:=by
 unfold cut
 rw [List.length_take,List.length_drop]
 omega
theorem XU (a b:Nat):sliceRange (a:Int) (b:Int) 1 = (List.range (b - a)).map (fun k=>a + k):=by
 unfold sliceRange
 have e:(if (1:Int) > 0 then (if (a:Int) < b then ((b:Int) - a + 1 - 1) / 1 else 0) else (if (a:Int) > b then ((a:Int) - b - 1 - 1) / (-1) else 0)).toNat = b - a:=by
  rw [if_pos (by decide)]
  by_cases h:(a:Int) < b
  ·rw [if_pos h,Int.ediv_one]; omega
  ·rw [if_neg h]; omega
 show (List.range ((if (1:Int) > 0 then (if (a:Int) < b then ((b:Int) - a + 1 - 1) / 1 else 0) else (if (a:Int) > b then ((a:Int) - b - 1 - 1) / (-1) else 0)).toNat)).map _ = _
 rw [e]
 refine List.map_congr_left fun k _=>?_
 omega
theorem U3 (lo hi:Option Int) (n:Nat):Builtin.Str.strSliceIndices lo hi 1 n = (List.range (HT.sIx n n hi - HT.sIx n 0 lo)).map (fun k=>HT.sIx n 0 lo + k):=by
 rw [<- XU]
 have clip:∀ (v:Int) (d:Nat),max 0 (min (if v < 0 then v + (n:Int) else v) (n:Int)) = ((HT.sIx n d (some v):Nat):Int):=fun v d=>by
  show _ = (((if v < 0 then (v + (n:Int)).toNat else min v.toNat n):Nat):Int)
  by_cases hv:v < 0
  ·simp only [if_pos hv]; omega
  ·simp only [if_neg hv]; omega
 have h1:((1:Int) > 0) = True:=by simp
 unfold Builtin.Str.strSliceIndices
 cases lo with
 | none =>
  cases hi with
  | none=>simp only [h1,if_true]; rfl
  | some j=>simp only [h1,if_true,clip j n]; rfl
 | some i =>
  cases hi with
  | none=>simp only [h1,if_true,clip i 0]; rfl
  | some j=>simp only [h1,if_true,clip i 0,clip j n]
theorem Ys (x:Str) (lo hi:Option Int):Txt.slice x lo hi = tx (cut (cs x) lo hi):=by
 have hn:x.length = x.cps.toList.length:=Zh x
 have hj:HT.sIx x.length x.length hi <= x.length:=HT.sIx_le _ _ (Nat.le_refl _) hi
 have hi0:HT.sIx x.length 0 lo <= x.length:=HT.sIx_le _ _ (Nat.zero_le _) lo
 unfold Txt.slice
 rw [U3]
 split
 ·rename_i h
  have h':HT.sIx x.length x.length hi - HT.sIx x.length 0 lo = x.length:=by simpa using h
  apply jy
  show x.cps.toList = cut x.cps.toList lo hi
  unfold cut
  rw [<- hn]
  by_cases z:x.length = 0
  ·have:x.cps.toList = []:=List.eq_nil_of_length_eq_zero (by omega)
   rw [this]; simp
  ·have e0:HT.sIx x.length 0 lo = 0:=by omega
   rw [e0] at h' ⊢
   rw [h',List.drop_zero,hn,List.take_length]
 ·apply jy
  have h:=StrLaws.picks x.cps.toList (HT.sIx x.length x.length hi - HT.sIx x.length 0 lo) (HT.sIx x.length 0 lo) (by omega)
  show (List.filterMap (fun k=>x.cps[k]?) _).toArray.toList = cut x.cps.toList lo hi
  unfold cut
  rw [<- hn]
  simpa using h
section
variable {X:Cx}
theorem Y3 {v:Value} {o:Option Int} (p:IsPart v o):∃ l:Option (Int × Tok),v = partValue l /\ l.map (·.1) = o:=by
 cases p with
 | none=>exact ⟨none,rfl,rfl⟩
 | int i t=>exact ⟨some (i,t),rfl,rfl⟩
def JL:V -> Option Int -> Option Int -> Hp -> VK -> Prop:=fun x lo hi H Q=>∃ z,x = .str z /\ z.length <= sizeLine /\ Q (.str (tx (cut (cs z) lo hi))) H
theorem vC:SlR X JL:=by
 intro pins s σ H x v vl vu lo hi sl Q I rx hs pl pu h
 obtain ⟨z,rfl,hz,q⟩:=h
 obtain ⟨t,rfl⟩:=rx
 obtain ⟨l,rfl,el⟩:=Y3 pl
 obtain ⟨u,rfl,eu⟩:=Y3 pu
 refine ⟨"str",_,slot_str_getitem.lookup,typeIs_str s z t,?_⟩
 refine wpAny_getItem_str_slice (l:=l) (u:=u) (st:=none) hs rfl ?_
 have e:Txt.slice z lo hi = tx (cut (cs z) lo hi):=Ys z lo hi
 have hl:(tx (cut (cs z) lo hi)).length <= sizeLine:=by rw [yf]; have:=wJ (cs z) lo hi; rw [<- Zh] at this; omega
 unfold sliceMade slicePicked
 rw [el,eu]
 unfold Txt.slice at e
 by_cases hc:((1:Int) == 1 && (Builtin.Str.strSliceIndices lo hi 1 z.length).length == z.length) = true
 ·rw [if_pos hc] at e
  have hc':(((none:Option (Int × Tok)).map (·.1)).getD 1 == 1 && (Builtin.Str.strSliceIndices lo hi (((none:Option (Int × Tok)).map (·.1)).getD 1) z.length).length == z.length) = true:=hc
  rw [if_pos hc']
  exact ⟨.str (tx (cut (cs z) lo hi)),H,I,⟨t,by rw [<- e]⟩,q⟩
 ·rw [if_neg hc] at e
  have hc':¬ (((none:Option (Int × Tok)).map (·.1)).getD 1 == 1 && (Builtin.Str.strSliceIndices lo hi (((none:Option (Int × Tok)).map (·.1)).getD 1) z.length).length == z.length) = true:=hc
  rw [if_neg hc']
  show (Str.mk ((Builtin.Str.strSliceIndices lo hi 1 z.length).filterMap (z.cps[·]?)).toArray).length <= sizeLine /\ _
  rw [e]
  refine ⟨hl,?_⟩
  exact ⟨.str (tx (cut (cs z) lo hi)),H,I.tok _,⟨_,by
   show Value.str (Str.mk ((Builtin.Str.strSliceIndices lo hi 1 z.length).filterMap (z.cps[·]?)).toArray) _ = _
   rw [e]⟩,q⟩
theorem Zl (l:List Nat):∀ (k:Nat) (acc:Array Nat),((List.replicate k l.toArray).foldl (· ++ ·) acc).toList = acc.toList ++ (List.replicate k l).flatten
 | 0,acc=>by simp
 | k + 1,acc=>by
  rw [List.replicate_succ,List.foldl_cons,Zl l k,List.replicate_succ,List.flatten_cons]
  simp
theorem ZX:OpR X (binaryOp .Mult) (fun x y H Q=>∃ z n,x = .str z /\ y = .int n /\ 0 <= n /\ n <= 1000 /\ z.length <= 1000 /\ Q (.str (tx (List.replicate n.toNat (cs z)).flatten)) H):=by
 intro pins s σ H x y v u Q I rx ry h
 obtain ⟨z,n,rfl,rfl,h0,h1,hz,q⟩:=h
 obtain ⟨t,rfl⟩:=rx
 obtain ⟨t',rfl⟩:=ry
 have hs:sizeLine = 16777216:=sizeLine_eq
 have hmul:z.length * n.toNat <= 1000 * 1000:=Nat.mul_le_mul hz (by omega)
 have fl:((List.replicate n.toNat (cs z)).flatten).length = n.toNat * z.length:=by rw [L2.len_rep,<- Zh]
 refine PySem.P.mul_str ?_ (fun _ _=>?_) (fun _ _=>?_) ?_
 ·rw [decide_eq_false (by omega),decide_eq_false (by omega)]; rfl
 ·have:(1000:Int) <= (2 ^ 63 - 1) / n:=by
   apply Int.le_ediv_of_mul_le (by omega)
   omega
  omega
 ·unfold Builtin.Str.tooLong
  exact decide_eq_false (by omega)
 ·by_cases c1:n < 1
  ·rw [if_pos c1]
   have e:n.toNat = 0:=by omega
   rw [e] at q
   exact ⟨by decide,.str (tx []),H,I.tok _,⟨_,rfl⟩,q⟩
  ·rw [if_neg c1]
   by_cases c2:(n == 1 || z.length == 0) = true
   ·rw [if_pos c2]
    have e:tx (List.replicate n.toNat (cs z)).flatten = z:=by
     rw [Bool.or_eq_true] at c2
     rcases c2 with c | c
     ·have:n.toNat = 1:=by have:=eq_of_beq c; omega
      rw [this]
      simp only [List.replicate_one,List.flatten_singleton]
     ·have c0:z.length = 0:=eq_of_beq c
      have:cs z = []:=List.eq_nil_of_length_eq_zero (by rw [<- Zh]; exact c0)
      apply jy
      rw [this]
      show (List.replicate n.toNat ([]:List Nat)).flatten = []
      simp only [List.flatten_replicate_nil]
    rw [e] at q
    exact ⟨.str z,H,I,⟨_,rfl⟩,q⟩
   ·rw [if_neg c2]
    have e:(⟨(List.replicate n.toNat z.cps).foldl (· ++ ·) #[]⟩:Str) = tx (List.replicate n.toNat (cs z)).flatten:=by
     apply jy
     have:=Zl (cs z) n.toNat #[]
     have e2:(cs z).toArray = z.cps:=by cases z; rfl
     rw [e2] at this
     show (List.foldl (· ++ ·) #[] (List.replicate n.toNat z.cps)).toList = (List.replicate n.toNat (cs z)).flatten
     rw [this]
     rfl
    rw [e]
    refine ⟨by rw [yf,fl,Nat.mul_comm]; omega,.str _,H,I.tok _,⟨_,rfl⟩,q⟩
theorem Yh:OpR X (compareOp .LtE) (fun x y H Q=>∃ i j,x = .str i /\ y = .str j /\ Q (.bl (!(decide (cs j < cs i)))) H):=by
 intro pins s σ H x y v u Q I rx ry h
 obtain ⟨i,j,rfl,rfl,q⟩:=h
 obtain ⟨t,rfl⟩:=rx
 obtain ⟨t',rfl⟩:=ry
 exact PySem.P.le_str ⟨.bl _,H,I,rfl,q⟩
theorem op_lt_str':OpR X (compareOp .Lt) (fun x y H Q=>∃ i j,x = .str i /\ y = .str j /\ Q (.bl (decide (cs i < cs j))) H):=Yp
theorem Jt (x:Str) (c:Nat):(!(Builtin.Str.occurrences x (tx [c]) 0 x.length 1).isEmpty) = decide (c ∈ cs x):=StrLaws.found_one x c
theorem Wz:MtR X "str.count" (fun x xs H Q=>∃ z y,x = .str z /\ xs = [.str y] /\ Q (.int (Txt.count z y)) H):=by
 intro pins s σ H x xs v us Q I rx rv h
 obtain ⟨z,y,rfl,rfl,q⟩:=h
 obtain ⟨t,rfl⟩:=rx
 obtain ⟨u,rfl,t',rfl⟩:=xD rv
 exact PySem.SC.count ⟨.int _,H,I.tok _,⟨_,rfl⟩,q⟩
theorem UZ:MtR X "str.find" (fun x xs H Q=>∃ z y,x = .str z /\ xs = [.str y] /\ Q (.int (Txt.find z y)) H):=by
 intro pins s σ H x xs v us Q I rx rv h
 obtain ⟨z,y,rfl,rfl,q⟩:=h
 obtain ⟨t,rfl⟩:=rx
 obtain ⟨u,rfl,t',rfl⟩:=xD rv
 exact PySem.SC.find ⟨.int _,H,I.tok _,⟨_,rfl⟩,q⟩
end
end L3
namespace L3
open PySem PySem.Spec PyProof.Rows L2
section
variable {X:Cx} {pins:List (Addr × Obj)} {σ:St} {H:Hp} {s:Shared} {fp:List Addr} {h':Heap} {t':Nat}
theorem Inv.turns (I:Inv X pins σ H s) (k:∀ b o,b ∉ fp -> s.heap.get? b = some o -> h'.get? b = some o) (hf:∀ b ∈ fp,wy X pins H b):Inv X pins σ H { s with heap:=h',toks:=t' }:=by
 have nit:∀ b u,H b = some u -> b ∉ fp:=fun b u e z=>by rw [(hf b z).1] at e; cases e
 refine I.step (g':=s.gens) (d':=s.drawn) (ch:=fp) (fun b hb=>?_) (fun b o _ _ hc e _=>k b o hc e) (fun b o _ _ hc e _=>⟨o.slots,k b o hc e⟩) (fun _ _ _ _ n=>n)
  (fun b o hc e=>⟨o,k b o hc e⟩) (fun _ _ e=>e) (fun _ _ _ e=>e) (fun b ps e=>⟨#[],by rw [e]; simp⟩) (fun m hm=>?_) (fun b u e=>?_) I.bare
 ·obtain ⟨_,a1,_,a3,a4,a5⟩:=hf b hb
  exact ⟨a3,a1,a4,a5⟩
 ·obtain ⟨o,es,ep,ho,r⟩:=hm
  exact ⟨o,es,ep,k _ o (fun z=>(hf _ z).2.1 rfl) ho,r⟩
 ·refine (I.hok b u e).stay (fun c v hc q=>k c v ?_ q) (fun _ q=>q) fun _ _ q=>q
  rcases hc with z | z
  ·rw [z]; exact nit b u e
  ·exact nit c _ z
theorem Inv.track {a:Addr} {o:HO} (I:Inv X pins σ H s) (fa:wy X pins H a) (new:ObjOk X.prog X.w (upd H a o) s.heap a o):Inv X pins σ (upd H a o) s:=by
 obtain ⟨a0,a1,a2,a3,a4,a5⟩:=fa
 have e:s = { s with heap:=s.heap,gens:=s.gens,drawn:=s.drawn,toks:=s.toks }:=rfl
 rw [e]
 refine I.step (g':=s.gens) (d':=s.drawn) (ch:=[a]) (fun b hb=>?_) (fun b o _ _ _ e _=>e) (fun b o _ _ _ e _=>⟨o.slots,e⟩) (fun b o hc _ n=>?_)
  (fun b o _ e=>⟨o,e⟩) (fun b xs e=>?_) (fun b u xs e=>?_) (fun b ps e=>?_) (fun m hm=>hm) (fun b u e=>?_) I.bare
 ·have eb:b = a:=by simpa using hb
  subst eb
  exact ⟨a3,a1,a4,a5⟩
 ·rw [zp (by simpa using hc)]; exact n
 ·rw [zp (zE e a0)]; exact e
 ·rw [zp (zE e a0)]; exact e
 ·exact ⟨#[],by rw [zp (zE e a0),e]; simp⟩
 ·by_cases hb:b = a
  ·subst hb; rw [zd] at e; cases e; exact new
  ·rw [zp hb] at e
   exact (I.hok b u e).stay (fun c v _ q=>q) (fun c q=>by rw [zp (zE q a0)]; exact q) fun c xs q=>by rw [zp (zE q a0)]; exact q
end
def Its (x:Str):It:=⟨fun i _=>i < (cs x).length,fun i H v H'=>H' = H /\ ∃ c,(cs x)[i]? = some c /\ v = .str (tx [c]),fun i _=>i = (cs x).length⟩
theorem Wu {P:Program} {w:World} {K:PySem.W.Frag} {tg:Expr} {ty:String} (hty:["enumerate", "zip", "dict_itemiterator", "dict_reverseitemiterator", "odict_iterator", "itertools.zip_longest", "itertools.pairwise"].contains ty = false) (it:Addr) (x:Str) (t:Tok)
  (W:∀ A:Around,A.handled = none -> Walks P w A it [it] [it] x.cps.size (SignAt x) fun i h=>h.IsStrIter it ty x t i)
  (S:∀ (A:Around) (i:Nat) (s:Shared) (Q:Value -> Shared -> Prop) (E:Value -> Shared -> Prop),s.heap.IsStrIter it ty x t i -> Q (.ref it) s -> wpAny (model P w) A (pyIter (.ref it)) Q E s) :
  Vf P w K tg (Its x) [it] it (fun i h=>h.IsStrIter it ty x t i) where
 mem:=by simp
 obj:=fun i h st b hb=>by
  have e:b = it:=by simpa using hb
  subst e
  obtain ⟨o,e,c,d⟩:=st
  exact ⟨o,e,fun v z=>by rw [d] at z; cases z⟩
 keep:=fun i h h' st k=>let ⟨o,e,r⟩:=st; ⟨o,k it (by simp) o e,r⟩
 item:=by
  intro X hP hw hK hc i pins s σ H E I hf st hg
  subst hP hw hK
  obtain ⟨f0,f1,f2,f3,f4,f5⟩:=hf it (by simp)
  have hg':i < x.cps.size:=by have:i < x.cps.toList.length:=hg; simpa using this
  refine (W X.A (I.ok.hd hc)).item i s _ _ hg' st fun v h' tk hv st' kk=>?_
  obtain ⟨c,u,hcc,rfl⟩:=hv
  have I1:Inv X pins σ H { s with heap:=h',toks:=tk }:=I.turned (fun b o hb e=>kk b o (by simpa using hb) e) f0 f1 f3 f4 f5
  obtain ⟨o,e,cl,d⟩:=id st'
  refine ⟨_,rfl,XV (s:={ s with heap:=h',toks:=tk }) e cl d hty ⟨.str (tx [c]),H,I1,⟨u,rfl⟩,⟨rfl,c,?_,rfl⟩,st',fun b hb=>(hf b hb).1⟩⟩
  show x.cps.toList[i]? = some c
  simpa using hcc
 done:=by
  intro X hP hw hK hc i pins s σ H E I hf st hg
  subst hP hw hK
  obtain ⟨f0,f1,f2,f3,f4,f5⟩:=hf it (by simp)
  have hi:i = x.cps.size:=by have:i = x.cps.toList.length:=hg; simpa using this
  rw [hi] at st
  exact (W X.A (I.ok.hd hc)).done s _ _ st fun h' tk kk=>⟨rfl,I.turned (fun b o hb e=>kk b o (by simpa using hb) e) f0 f1 f3 f4 f5⟩
 self:=fun A i s Q E st h=>S A i s Q E st h
section
variable {X:Cx} {tg:Expr}
def JY (tl:TE):TI:=fun σ H R=>tl σ H fun v H1=>∃ x,v = .str x /\ R (Its x) H1
theorem jN {l:Expr} {tl:TE} (hl:PE X l tl):PI X tg l (JY tl):=by
 intro pins s σ H R I h
 refine thn (hl pins s σ H _ I h) fun v s1 ⟨y,H1,I1,r1,q1⟩=>?_
 obtain ⟨x,e,q⟩:=q1
 subst e
 obtain ⟨t,rfl⟩:=r1
 have fin:∀ (ty:String) (hty:["enumerate", "zip", "dict_itemiterator", "dict_reverseitemiterator", "odict_iterator", "itertools.zip_longest", "itertools.pairwise"].contains ty = false)
   (W:∀ A:Around,A.handled = none -> Walks X.prog X.w A s1.heap.objs.size [s1.heap.objs.size] [s1.heap.objs.size] x.cps.size (SignAt x) fun i h=>h.IsStrIter s1.heap.objs.size ty x t i)
   (S:∀ (A:Around) (i:Nat) (s:Shared) (Q:Value -> Shared -> Prop) (E:Value -> Shared -> Prop),s.heap.IsStrIter s1.heap.objs.size ty x t i -> Q (.ref s1.heap.objs.size) s -> wpAny (model X.prog X.w) A (pyIter (.ref s1.heap.objs.size)) Q E s),
   PIE X pins σ tg R (.ref s1.heap.objs.size) { s1 with heap:=s1.heap.push { cls:=.type ty,data:=.fields #[.str x t,.int 0 0] } }:=fun ty hty W S=>by
  refine ⟨s1.heap.objs.size,[s1.heap.objs.size],_,_,H1,rfl,I1.kept (t':=s1.toks) fun b o e=>Heap.get?_push_of_some _ e,Wu hty _ x t W S,⟨_,Heap.get?_push_size _ rfl,rfl,rfl⟩,fun b hb=>?_,q⟩
  have e:b = s1.heap.objs.size:=by simpa using hb
  subst e
  exact I1.fpOk (Nat.le_refl _) (I1.hok.fresh (Nat.le_refl _))
 cases ha:x.cps.all (· < 128)
 ·exact wpAny_pyIter_wide ha (fin "str_iterator" (by decide) (fun A hA=>Walks.strWide hA _ x t) fun A i s Q E st h=>wpAny_pyIter_striter_wide st h)
 ·exact wpAny_pyIter_ascii ha (fin "str_ascii_iterator" (by decide) (fun A hA=>Walks.strAscii hA _ x t) fun A i s Q E st h=>wpAny_pyIter_striter_ascii st h)
end
theorem UJ {x:Str} {g:TG} {tb:TS} {D:wl} {σ:St} {H:Hp} (Pv:Nat -> St -> Hp -> Prop) (h0:Pv 0 σ H)
  (hs:∀ i c σ H,(cs x)[i]? = some c -> Pv i σ H -> g (.str (tx [c])) σ H fun σ2 H2=>tb { D with nx:=Pv (i + 1),ct:=Pv (i + 1),bk:=D.nx } σ2 H2) (hd:∀ σ H,Pv (cs x).length σ H -> D.nx σ H) :
  ∃ W:Nat -> Nat -> St -> Hp -> Prop,(∃ m,W 0 m σ H) /\ ∀ i m σ H,W i m σ H ->
   ((Its x).stop i H /\ D.nx σ H) \/ ((Its x).go i H /\ ∃ N:St -> Hp -> Prop,(∀ σ' H',N σ' H' -> ∃ m',m' < m /\ W (i + 1) m' σ' H') /\ ∀ v H',(Its x).yld i H v H' -> g v σ H' fun σ2 H2=>tb { D with nx:=N,ct:=N,bk:=D.nx } σ2 H2):=by
 refine ⟨fun i m σ H=>m = (cs x).length - i /\ i <= (cs x).length /\ Pv i σ H,⟨(cs x).length,by simp,Nat.zero_le _,h0⟩,?_⟩
 rintro i m σ H ⟨rfl,hi,p⟩
 by_cases hlt:i < (cs x).length
 ·refine .inr ⟨hlt,Pv (i + 1),fun σ' H' p'=>⟨(cs x).length - (i + 1),by omega,rfl,hlt,p'⟩,fun v H' y=>?_⟩
  obtain ⟨e,c,hc,ev⟩:=y
  subst e ev
  exact hs i c σ _ hc p
 ·have e:i = (cs x).length:=by omega
  subst e
  exact .inl ⟨rfl,hd σ H p⟩
def Ite (x:Str):It:=⟨fun i _=>i < (cs x).length,fun i H v H'=>∃ p c,H p = none /\ (cs x)[i]? = some c /\ v = .ref p /\ H' = upd H p (.tup [.int (i:Nat),.str (tx [c])]),fun i _=>i = (cs x).length⟩
section
variable {X:Cx}
def JM (ta:TA):TI:=fun σ H R=>ta σ H fun vs H1=>∃ x,vs = [.str x] /\ R (Ite x) H1
end
end L3
namespace L3
open PySem PySem.Spec PyProof.Rows L2
theorem ve {env:Env}:∀ (names:List (Str × NameKind)) (acc:List (Str × Addr)),
    (∀ y,(y,NameKind.free) ∈ names -> ∃ c,env.cells.lookup y = some c) -> (∀ y c,acc.lookup y = some c -> env.cells.lookup y = some c) ->
    ∃ cl,(forIn names acc fun (x:Str × NameKind) (cs:List (Str × Addr))=>if (x.2 == NameKind.free) = true then (do let a <- cellOf env x.1; pure (ForInStep.yield ((x.1,a) :: cs))) else pure (ForInStep.yield cs):Sem (List (Str × Addr))) = pure cl /\
      (∀ y c,cl.lookup y = some c -> env.cells.lookup y = some c) /\ (∀ y,(y,NameKind.free) ∈ names \/ (acc.lookup y).isSome = true -> ∃ c,cl.lookup y = some c)
  | [],acc,_,ha=>⟨acc,rfl,ha,fun y h=>by
      rcases h with h | h
      · cases h
      · exact Option.isSome_iff_exists.mp h⟩
  | (n,k) :: r,acc,hn,ha=>by
    by_cases hk:k = NameKind.free
    · subst hk
      obtain ⟨c,hc⟩:=hn n (by simp)
      have ha':∀ y d,((n,c) :: acc).lookup y = some d -> env.cells.lookup y = some d:=fun y d e=>by
        rw [List.lookup_cons] at e
        by_cases hy:(y == n) = true
        · rw [hy] at e
          have:y = n:=eq_of_beq hy
          subst this
          cases e
          exact hc
        · have hy':(y == n) = false:=by simpa using hy
          rw [hy'] at e
          exact ha y d e
      obtain ⟨cl,e,h1,h2⟩:=ve r ((n,c) :: acc) (fun y hy=>hn y (List.mem_cons_of_mem _ hy)) ha'
      refine ⟨cl,?_,h1,fun y hy=>h2 y ?_⟩
      · rw [List.forIn_cons]
        have ec:cellOf env n = pure c:=by unfold cellOf; rw [hc]
        simp only [beq_self_eq_true,if_true,ec,pure_bind]
        exact e
      · rcases hy with hy | hy
        · rcases List.mem_cons.mp hy with q | q
          · cases q
            exact .inr (by simp)
          · exact .inl q
        · refine .inr ?_
          rw [List.lookup_cons]
          by_cases hyn:(y == n) = true
          · rw [hyn]; rfl
          · have hy':(y == n) = false:=by simpa using hyn
            rw [hy']; exact hy
    · obtain ⟨cl,e,h1,h2⟩:=ve r acc (fun y hy=>hn y (List.mem_cons_of_mem _ hy)) ha
      refine ⟨cl,?_,h1,fun y hy=>h2 y ?_⟩
      · rw [List.forIn_cons]
        have ek:(k == NameKind.free) = false:=by simpa using hk
        simp only [ek,Bool.false_eq_true,if_false,pure_bind]
        exact e
      · rcases hy with hy | hy
        · rcases List.mem_cons.mp hy with q | q
          · cases q; exact absurd rfl hk
          · exact .inl q
        · exact .inr hy
theorem wP {scope:Scope} {env:Env} (hn:∀ y,(y,NameKind.free) ∈ scope.names -> ∃ c,env.cells.lookup y = some c) :
  ∃ cl,closureFor scope env = pure cl /\ (∀ y c,cl.lookup y = some c -> env.cells.lookup y = some c) /\ (∀ y,(y,NameKind.free) ∈ scope.names -> ∃ c,cl.lookup y = some c):=by
 obtain ⟨cl,e,h1,h2⟩:=ve scope.names [] hn (fun y c h=>by cases h)
 refine ⟨cl,?_,h1,fun y hy=>h2 y (.inl hy)⟩
 unfold closureFor
 simp only [bind_pure]
 exact e
abbrev XJ (ifs:List Expr) (env:Env):Sem Bool :=
 forIn ifs true fun c r=>if r = true then (do let ok <- isTrue c env (eval c env); pure (ForInStep.yield ok)) else pure (ForInStep.yield r)
theorem YD {prog:Program} {w:World} {A:Around} {R:Result -> Shared -> Prop} {s:Shared} {elt tg iter:Expr} {ifs:List Expr} {scope:Scope} {pos:Pos} {it acc:Value} {env:Env}
  (I:Nat -> Shared -> Prop) {EE:Value -> Shared -> Prop} (hEE:EE = notedBy (model prog w) A env fun e s'=>R (.error e) s')
  (turn:∀ n s,I n s -> wpAny (model prog w) A (pyNext it) (fun r s1=>match r with
   | none=>R (.ok .next) s1
   | some v=>wpAny (model prog w) A (letOwnedTupleGo tg it v) (fun _ s2=>wpAny (model prog w) A (assign tg env v) (fun _ s3 =>
     wpAny (model prog w) A (XJ ifs env) (fun ok s4=>if ok = true then
      wpAny (model prog w) A (eval elt env) (fun x s5=>wpAny (model prog w) A (call (.builtin "list.append") [acc,x]) (fun _ s6=>∃ m,m < n /\ I m s6) EE s5) EE s4
      else ∃ m,m < n /\ I m s4) EE s3) EE s2) EE s1) EE s) (n:Nat) (h:I n s) :
  codeAny (model prog w) A (.compLoop (.ListComp elt [⟨tg,iter,ifs,0⟩] scope pos) 0 it acc env) R s:=by
 subst hEE
 refine codeAny_loop rfl I (fun n s hI=>?_) n h
 show wpAny _ A ((compTurn (.ListComp elt [⟨tg,iter,ifs,0⟩] scope pos) 0 it acc env).onRaise (fun x=>do noteFrame x env; theTreesLotGoes x)) _ _ s
 refine wpAny_noted ?_
 rw [compTurn_list]
 refine wpAny_bind (wpAny_standAt (wpAny_bind (thn (turn n s hI) fun r s1 h1=>?_)))
 cases r with
 | none=>exact wpAny_pure h1
 | some v =>
  refine wpAny_bind (thn h1 fun _ s2 h2=>wpAny_bind (thn h2 fun _ s3 h3=>wpAny_bind (thn h3 fun ok s4 h4=>?_)))
  cases ok with
  | false=>exact wpAny_pure ⟨rfl,h4⟩
  | true=>exact wpAny_bind (wpAny_bind (thn h4 fun x s5 h5=>wpAny_bind (thn h5 fun _ s6 h6=>wpAny_pure (wpAny_pure ⟨rfl,h6⟩))))
def xx (X:Cx) (scope:Scope) (cl:List (Str × Addr)) (C:Addr) (N:List Str) (pins:List (Addr × Obj)) (s3:Shared) (H3:Hp) (fp:List Addr) (E:Value -> Shared -> Prop):Cx :=
 { X with N:=N,s₀:=s3,H₀:=H3,env:=compEnvC scope cl C X.env,outer:=X.stack,ex:=fp,fn:=fun _=>false,pn:=X.pn ++ pins,xe:=E }
def vM (σ:St) (own:Nat) (ix:List Nat):St:=List.replicate own none ++ ix.map fun i=>(σ[i]?).join
structure jB (X:Cx) (scope:Scope) (own caps:List Str) (ix:List Nat):Prop where
 kind:scope.kind = .function
 nocell:∀ y ∈ scope.names,y.2 ≠ .cell
 names:∀ y ∈ scope.names,y.2 = .local -> scope.names.lookup y.1 = some .local
 free:∀ y,(y,NameKind.free) ∈ scope.names -> X.env.kindOf y = some .cell
 hown:∀ y ∈ own,scope.names.lookup y = some .local
 hcaps:∀ y ∈ caps,scope.names.lookup y = some .free
 hix:ix.map (fun i=>X.N[i]?) = caps.map some
theorem xy {α β:Type} [BEq α] [LawfulBEq α] {l:List (α × β)} {a:α} {b:β} (h:l.lookup a = some b):(a,b) ∈ l:=by
 induction l with
 | nil=>cases h
 | cons p r ih =>
  obtain ⟨c,d⟩:=p
  rw [List.lookup_cons] at h
  by_cases e:(a == c) = true
  ·rw [e] at h
   cases h
   rw [eq_of_beq e]
   exact List.mem_cons_self
  ·have e':(a == c) = false:=by simpa using e
   rw [e'] at h
   exact List.mem_cons_of_mem _ (ih h)
theorem wo {scope:Scope} {env:Env} (hf:env.scope.kind = .function):∀ {names:List (Str × NameKind)} {x:Str} {k:NameKind},names.lookup x = some k ->
    (names.map fun (n,k)=>if (k == NameKind.free && env.scope.kind == .function && env.kindOf n == some .cell) then (n,NameKind.cell) else (n,k)).lookup x = some (if (k == NameKind.free && env.scope.kind == .function && env.kindOf x == some .cell) = true then .cell else k)
  | [],_,_,h=>by simp at h
  | (n,k') :: r,x,k,h=>by
    have ih:=@wo scope env hf r x k
    show List.lookup x ((if (k' == NameKind.free && env.scope.kind == .function && env.kindOf n == some .cell) = true then (n,NameKind.cell) else (n,k')) :: _) = _
    by_cases hx:(x == n) = true
    · have hxn:x = n:=eq_of_beq hx
      subst hxn
      rw [List.lookup_cons,hx] at h
      cases h
      by_cases c:(k' == NameKind.free && env.scope.kind == .function && env.kindOf x == some .cell) = true
      · rw [if_pos c,if_pos c,List.lookup_cons,hx]
      · rw [if_neg c,if_neg c,List.lookup_cons,hx]
    · have hx':(x == n) = false:=by simpa using hx
      rw [List.lookup_cons,hx'] at h
      by_cases c:(k' == NameKind.free && env.scope.kind == .function && env.kindOf n == some .cell) = true
      · rw [if_pos c,List.lookup_cons,hx']; exact ih h
      · rw [if_neg c,List.lookup_cons,hx']; exact ih h
theorem vx {scope:Scope} {env:Env}:∀ {names:List (Str × NameKind)} {x:Str},names.lookup x = none ->
    (names.map fun (n,k)=>if (k == NameKind.free && env.scope.kind == .function && env.kindOf n == some .cell) then (n,NameKind.cell) else (n,k)).lookup x = none
  | [],_,_=>rfl
  | (n,k') :: r,x,h=>by
    have ih:=@vx scope env r x
    show List.lookup x ((if (k' == NameKind.free && env.scope.kind == .function && env.kindOf n == some .cell) = true then (n,NameKind.cell) else (n,k')) :: _) = _
    by_cases hx:(x == n) = true
    · rw [List.lookup_cons,hx] at h; cases h
    · have hx':(x == n) = false:=by simpa using hx
      rw [List.lookup_cons,hx'] at h
      by_cases c:(k' == NameKind.free && env.scope.kind == .function && env.kindOf n == some .cell) = true
      · rw [if_pos c,List.lookup_cons,hx']; exact ih h
      · rw [if_neg c,List.lookup_cons,hx']; exact ih h
section
variable {X:Cx} {scope:Scope} {own caps:List Str} {ix:List Nat} {cl:List (Str × Addr)} {pins:List (Addr × Obj)} {σ:St} {H:Hp} {s:Shared} {fp:List Addr} {E:Value -> Shared -> Prop}
theorem Z2 (S:jB X scope own caps ix) (hcl1:∀ y c,cl.lookup y = some c -> X.env.cells.lookup y = some c) (hcl2:∀ y,(y,NameKind.free) ∈ scope.names -> ∃ c,cl.lookup y = some c)
  (I:Inv X pins σ H s) (hfp:∀ b ∈ fp,wy X pins H b) (hlt:∀ b ∈ fp,b < s.heap.objs.size) {h4:Heap} {t4:Nat} (hn:h4.Ns s.heap.objs.size fun _=>none) (hk:∀ b o,s.heap.get? b = some o -> h4.get? b = some o) :
  Inv (xx X scope cl s.heap.objs.size (own ++ caps) pins s H fp E) [] (vM σ own.length ix) H { s with heap:=h4,toks:=t4 }:=by
 have kf:X.env.scope.kind = .function:=I.ok.kind
 have nofp:∀ b ∈ fp,b ≠ s.heap.objs.size:=fun b hb=>Nat.ne_of_lt (hlt b hb)
 have cellLt:∀ x c,X.env.cells.lookup x = some c -> c < s.heap.objs.size:=fun x c e=>by
  obtain ⟨v,o,ho,_⟩:=I.cell x c e
  exact Heap.lt_size ho
 have kinds:∀ y k,scope.names.lookup y = some k -> (relabel scope X.env).names.lookup y = some (if (k == NameKind.free && X.env.scope.kind == .function && X.env.kindOf y == some .cell) = true then .cell else k):=fun y k e=>wo (scope:=scope) kf e
 have back:∀ y k,(relabel scope X.env).names.lookup y = some k -> ∃ k',scope.names.lookup y = some k' /\ k = (if (k' == NameKind.free && X.env.scope.kind == .function && X.env.kindOf y == some .cell) = true then .cell else k'):=fun y k e=>by
  cases q:scope.names.lookup y with
  | none =>
   have:=vx (scope:=scope) (env:=X.env) q
   have e':(scope.names.map fun (n,k)=>if (k == NameKind.free && X.env.scope.kind == .function && X.env.kindOf n == some .cell) then (n,NameKind.cell) else (n,k)).lookup y = some k:=e
   rw [this] at e'; cases e'
  | some k' =>
   refine ⟨k',rfl,?_⟩
   have:=kinds y k' q
   rw [e] at this
   exact Option.some.inj this
 have isCell:∀ y,scope.names.lookup y = some .free -> (relabel scope X.env).names.lookup y = some .cell:=fun y e=>by
  have:=kinds y _ e
  rw [this,if_pos]
  rw [S.free y (xy e),kf]
  rfl
 refine ⟨⟨I.ok.mod,?_,I.ok.glob,I.ok.blt,Nat.le_refl _,?_,?_,?_,I.ok.hd,I.ok.frames,.inl rfl,?_,I.bs,Nat.le_trans I.ok.bsz I.sz,?_,?_,I.stack,I.stkFree⟩,rfl,I.bare,Un.kept hk,⟨_,hn,?_⟩,?_,?_,?_,?_,I.hok.kept hk,?_⟩
 ·show (relabel scope X.env).kind = .function
  exact S.kind
 ·intro x y c h1 h2
  exact I.ok.inj x y c (hcl1 x c h1) (hcl1 y c h2)
 ·intro y hy
  have hy':(relabel scope X.env).names.lookup y = some .cell \/ (relabel scope X.env).names.lookup y = some .free:=hy
  have:scope.names.lookup y = some .free:=by
   rcases hy' with q | q
   ·obtain ⟨k',e,ek⟩:=back y _ q
    by_cases c:(k' == NameKind.free && X.env.scope.kind == .function && X.env.kindOf y == some .cell) = true
    ·rw [Bool.and_eq_true,Bool.and_eq_true] at c
     rw [e,eq_of_beq c.1.1]
    ·rw [if_neg c] at ek
     exact absurd ek.symm (S.nocell _ (xy e))
   ·obtain ⟨k',e,ek⟩:=back y _ q
    by_cases c:(k' == NameKind.free && X.env.scope.kind == .function && X.env.kindOf y == some .cell) = true
    ·rw [if_pos c] at ek; cases ek
    ·rw [if_neg c] at ek
     rw [e,<- ek]
  exact hcl2 y (xy this)
 ·intro x c h _
  exact absurd h (by simp [xx])
 ·intro b hb
  refine ⟨nofp b hb,fun x c e=>?_⟩
  exact (hfp b hb).2.2.2.2.1 x c (hcl1 x c e)
 ·intro b o e hb
  obtain ⟨_,_,_,q,_⟩:=hfp b hb
  rcases q with q | q
  ·exact I.ok.noex b o e q
  ·exact absurd (Nat.lt_of_lt_of_le (Heap.lt_size e) (Nat.le_trans I.ok.bsz q)) (Nat.lt_irrefl _)
 ·intro b hb z
  rcases List.mem_cons.mp (I.stkSub b z) with e | e
  ·exact (hfp b hb).2.1 e
  ·exact (hfp b hb).2.2.1 e
 ·intro i y v h1 h2 h3
  have hi:own.length <= i:=by
   refine Nat.le_of_not_lt fun hlt'=>?_
   unfold vM at h2
   rw [List.getElem?_append_left (by rw [List.length_replicate]; exact hlt'),List.getElem?_replicate,if_pos hlt'] at h2
   cases h2
  have h1':caps[i - own.length]? = some y:=by
   have:(own ++ caps)[i]? = some y:=h1
   rw [List.getElem?_append_right hi] at this
   exact this
  have h2':(ix.map fun i=>(σ[i]?).join)[i - own.length]? = some (some v):=by
   unfold vM at h2
   rw [List.getElem?_append_right (by rw [List.length_replicate]; exact hi),List.length_replicate] at h2
   exact h2
  rw [List.getElem?_map] at h2'
  have hx:=congrArg (fun l=>l[i - own.length]?) S.hix
  simp only [List.getElem?_map,h1',Option.map_some] at hx
  cases q:ix[i - own.length]? with
  | none=>rw [q] at h2'; cases h2'
  | some j =>
   rw [q] at h2' hx
   have hj:X.N[j]? = some y:=Option.some.inj hx
   have hv:(σ[j]?).join = some v:=Option.some.inj h2'
   have hσ:σ[j]? = some (some v):=by
    cases r:σ[j]? with
    | none=>rw [r] at hv; cases hv
    | some z=>rw [r] at hv; cases z with
     | none=>cases hv
     | some z=>cases hv; rfl
   have hfree:scope.names.lookup y = some .free:=S.hcaps y (List.mem_of_getElem? h1')
   have hkc:=S.free y (xy hfree)
   obtain ⟨m,hm,hl⟩:=I.loc
   obtain ⟨u,ru,l⟩:=hl j y v hj hσ (.inr (.inl hkc))
   refine ⟨u,ru,.inr ⟨.inl (isCell y hfree),?_⟩⟩
   rcases l with ⟨k,_⟩ | ⟨_,c,e,z⟩
   ·have:X.env.kindOf y = some .local:=k
    rw [hkc] at this; cases this
   ·obtain ⟨c',e'⟩:=hcl2 y (xy hfree)
    have:=hcl1 y c' e'
    rw [e] at this
    cases this
    obtain ⟨o,ho,hd⟩:=z
    exact ⟨c,e',o,hk c o ho,hd⟩
 ·intro x c e
  obtain ⟨v,o,ho,hd⟩:=I.cell x c (hcl1 x c e)
  exact ⟨v,o,hk c o ho,hd⟩
 ·exact I.hok.fresh (Nat.le_refl _)
 ·intro x c e
  exact I.freeC x c (hcl1 x c e)
 ·intro p hp
  have hp':p ∈ X.pn ++ pins:=by
   have:p ∈ (X.pn ++ pins) ++ []:=hp
   rwa [List.append_nil] at this
  obtain ⟨e,n,ne,nf,d⟩:=I.pin p hp'
  refine ⟨hk _ _ e,n,?_,fun z=>?_,d⟩
  ·exact Nat.ne_of_lt (Heap.lt_size e)
  ·rcases List.mem_cons.mp (I.stkSub p.1 z) with q | q
   ·exact ne q
   ·exact nf q
 ·show (vM σ own.length ix).length = (own ++ caps).length
  have:=congrArg List.length S.hix
  rw [List.length_map,List.length_map] at this
  unfold vM
  rw [List.length_append,List.length_replicate,List.length_map,List.length_append,this]
end
end L3
namespace L3
open PySem PySem.Spec PyProof.Rows L2
def xt (σ σ':St):Prop:=σ.length = σ'.length /\ ∀ (i:Nat) v,σ[i]? = some (some v) -> σ'[i]? = some (some v)
def PTs (X:Cx) (ifs:List Expr) (t:TT):Prop :=
 ∀ (pins:List (Addr × Obj)) (s:Shared) (σ:St) (H:Hp) (Q:Bool -> Hp -> Prop),Inv X pins σ H s -> t σ H Q -> wpAny (model X.prog X.w) X.A (XJ ifs X.env) (TP X pins σ Q) X.xe s
def wq:TT:=fun _ H Q=>Q true H
theorem yy {X:Cx}:PTs X [] wq:=fun _ _ _ H _ I h=>wpAny_pure ⟨H,I,h⟩
theorem UQ {X:Cx} {c:Expr} {t:TT} (h:PT X c t):PTs X [c] t:=fun pins s σ H Q I hq=>by
 show wpAny _ _ (forIn [c] true _) _ _ s
 simp only [List.forIn_cons,List.forIn_nil,if_true]
 exact wpAny_bind (wpAny_bind (thn (h pins s σ H Q I hq) fun b s' hb=>wpAny_pure (wpAny_pure hb)))
def jU (wi:TI) (g:TG) (tt:TT) (te:TE) (own:Nat) (ix:List Nat):TE:=fun σ H Q=>wi σ H fun J H1=>∀ D,H1 D = none -> ∃ W:Nat -> Nat -> List V -> Hp -> Prop,(∃ m,W 0 m [] (upd H1 D (.lst []))) /\
 ∀ i m acc H',W i m acc H' -> (J.stop i H' /\ Q (.ref D) H') \/ (J.go i H' /\ ∀ x H2,J.yld i H' x H2 -> g x (vM σ own ix) H2 fun σ3 H3=>xt (vM σ own ix) σ3 /\ tt σ3 H3 fun b H4=>if b = true then
  te σ3 H4 fun v H5=>H5 D = some (.lst acc) /\ acc.length < sizeLine /\ ∃ m',m' < m /\ W (i + 1) m' (acc ++ [v]) (upd H5 D (.lst (acc ++ [v])))
  else ∃ m',m' < m /\ W (i + 1) m' acc H4)
theorem Un.but {fs ex:List Addr} {H H':Hp} {h h1 h2:Heap} {a:Addr} (u:Un fs ex H H' h h1) (sb:Heap.SameBut a h1 h2) (ha:h.get? a = none):Un fs ex H H' h h2:=by
 have ne:∀ b o,h.get? b = some o -> b ≠ a:=fun b o e z=>by subst z; rw [ha] at e; cases e
 refine ⟨fun b o e n hb hx=>(sb.2 b (ne b o e)).trans (u.keep b o e n hb hx),fun b o e n hb hx=>?_,u.free,fun b o e hx=>?_,u.tups,u.frzs,u.tbls⟩
 ·obtain ⟨sl,q⟩:=u.slot b o e n hb hx
  exact ⟨sl,(sb.2 b (ne b o e)).trans q⟩
 ·obtain ⟨o',q⟩:=u.there b o e hx
  exact ⟨o',(sb.2 b (ne b o e)).trans q⟩
theorem HOk.but {P:Program} {w:World} {H:Hp} {h1 h2:Heap} {a:Addr} (ok:HOk P w H h1) (sb:Heap.SameBut a h1 h2) (ha:H a = none):HOk P w H h2:=fun b ob e=>by
 refine (ok b ob e).stay (fun c u hc q=>(sb.2 c ?_).trans q) (fun _ q=>q) fun _ _ q=>q
 rintro rfl
 rcases hc with rfl | hc
 ·rw [ha] at e; cases e
 ·rw [ha] at hc; cases hc
section
variable {X:Cx} {scope:Scope} {own caps:List Str} {ix:List Nat} {elt tg iter:Expr} {ifs:List Expr} {pos:Pos} {wi:TI} {g:TG} {tt:TT} {te:TE}
theorem qk (hc:X.calm = true) (S:jB X scope own caps ix)
  (hg:∀ cl C pins s3 H3 fp,PG (xx X scope cl C (own ++ caps) pins s3 H3 fp fun _ _=>False) tg g)
  (ht:∀ cl C pins s3 H3 fp,PTs (xx X scope cl C (own ++ caps) pins s3 H3 fp fun _ _=>False) ifs tt)
  (he:∀ cl C pins s3 H3 fp,PE (xx X scope cl C (own ++ caps) pins s3 H3 fp fun _ _=>False) elt te)
  {cl:List (Str × Addr)} (hc1:∀ y c,cl.lookup y = some c -> X.env.cells.lookup y = some c) (hc2:∀ y,(y,NameKind.free) ∈ scope.names -> ∃ c,cl.lookup y = some c)
  {pins:List (Addr × Obj)} {σ:St} {H2:Hp} {s2:Shared} {Q:VK} {it:Addr} {fp:List Addr} {tn:Nat -> Heap -> Prop} {J:It} (I2:Inv X pins σ H2 s2) (T:Vf X.prog X.w X.K tg J fp it tn) (st2:tn 0 s2.heap) (f2:∀ b ∈ fp,wy X pins H2 b)
  (q:∀ D,H2 D = none -> ∃ W:Nat -> Nat -> List V -> Hp -> Prop,(∃ m,W 0 m [] (upd H2 D (.lst []))) /\
   ∀ i m acc H',W i m acc H' -> (J.stop i H' /\ Q (.ref D) H') \/ (J.go i H' /\ ∀ x H2,J.yld i H' x H2 -> g x (vM σ own.length ix) H2 fun σ3 H3=>xt (vM σ own.length ix) σ3 /\ tt σ3 H3 fun b H4=>if b = true then
    te σ3 H4 fun v H5=>H5 D = some (.lst acc) /\ acc.length < sizeLine /\ ∃ m',m' < m /\ W (i + 1) m' (acc ++ [v]) (upd H5 D (.lst (acc ++ [v])))
    else ∃ m',m' < m /\ W (i + 1) m' acc H4))
  {RR:Value -> Addr -> Result -> Shared -> Prop} {E:Value -> Shared -> Prop}
  (hRR:∀ D C m s' H',H2 D = none -> s'.heap.Ns C m -> wy X pins H' C -> Inv X pins σ H' s' -> Q (.ref D) H' -> RR (.ref D) C (.ok .next) s') :
  wpAny (model X.prog X.w) X.A (newList []) (fun acc s3=>wpAny (model X.prog X.w) X.A (newFunctionEnv scope X.env.globals cl [] X.env.qual none .none (some X.env)) (fun cenv s4 =>
   codeAny (model X.prog X.w) X.A (.compStart (.ListComp elt [⟨tg,iter,ifs,0⟩] scope pos) 0 (.ref it) acc { cenv with scope:=relabel scope X.env }) (RR acc cenv.locals) s4) E s3) E s2:=by
 have hD:H2 s2.heap.objs.size = none:=I2.hok.fresh (Nat.le_refl _)
 obtain ⟨W,⟨m0,w0⟩,turn⟩:=q _ hD
 refine wpAny_newObj_type (wpAny_newFunctionEnv S.nocell (by intro y hy; simp at hy) (fun h1 hns1 hsb1=>?_) S.kind)
 dsimp only at hns1 hsb1 ⊢
 have I3:Inv X pins σ (upd H2 s2.heap.objs.size (.lst [])) { s2 with heap:=s2.heap.push { cls:=.type "list",dict:=none,data:=.seq ([]:List Value).toArray } } :=
  I2.lnew (its:=[]) (t':=s2.toks) .nil (Nat.zero_le _)
 generalize hs3:({ s2 with heap:=s2.heap.push { cls:=.type "list",dict:=none,data:=.seq ([]:List Value).toArray } }:Shared) = s3 at I3
 have e3:s2.heap.push { cls:=.type "list",dict:=none,data:=.seq ([]:List Value).toArray } = s3.heap:=by rw [<- hs3]
 rw [e3] at hns1 hsb1 ⊢
 have k1:∀ b o,s3.heap.get? b = some o -> h1.get? b = some o:=fun b o e=>(hsb1.2 b (Nat.ne_of_lt (Heap.lt_size e))).trans (Heap.get?_push_of_some _ e)
 have k23:∀ b o,s2.heap.get? b = some o -> s3.heap.get? b = some o:=fun b o e=>by rw [<- e3]; exact Heap.get?_push_of_some _ e
 have hz:s3.heap.objs.size = s2.heap.objs.size + 1:=by rw [<- e3,Heap.size_push]
 have fpObj:∀ b ∈ fp,∃ o,s2.heap.get? b = some o:=fun b hb=>let ⟨o,e,_⟩:=T.obj 0 _ st2 b hb; ⟨o,e⟩
 have fplt:∀ b ∈ fp,b < s2.heap.objs.size:=fun b hb=>let ⟨o,e⟩:=fpObj b hb; Heap.lt_size e
 have f3:∀ b ∈ fp,wy X pins (upd H2 s2.heap.objs.size (.lst [])) b:=fun b hb=>⟨by rw [zp (Nat.ne_of_lt (fplt b hb))]; exact (f2 b hb).1,(f2 b hb).2⟩
 have I4:Inv (xx X scope cl s3.heap.objs.size (own ++ caps) pins s3 (upd H2 s2.heap.objs.size (.lst [])) fp fun _ _=>False) [] (vM σ own.length ix) (upd H2 s2.heap.objs.size (.lst [])) { s3 with heap:=h1,toks:=s3.toks + ([]:List (Str × Value)).length } :=
  Z2 S hc1 hc2 I3 f3 (fun b hb=>by rw [hz]; exact Nat.lt_succ_of_lt (fplt b hb)) hns1 k1
 have st4:tn 0 h1:=T.keep 0 _ _ st2 fun b hb o e=>k1 b o (k23 b o e)
 generalize hs4:({ s3 with heap:=h1,toks:=s3.toks + ([]:List (Str × Value)).length }:Shared) = s4 at I4
 have es4:({ s2 with heap:=h1,toks:=s2.toks + ([]:List (Str × Value)).length }:Shared) = s4:=by rw [<- hs4,<- hs3]
 have e4:h1 = s4.heap:=by rw [<- hs4]
 have loop:codeAny (model X.prog X.w) X.A (.compLoop (.ListComp elt [⟨tg,iter,ifs,0⟩] scope pos) 0 (.ref it) (.ref s2.heap.objs.size) (compEnvC scope cl s3.heap.objs.size X.env)) (RR (.ref s2.heap.objs.size) s3.heap.objs.size) s4:=by
  let X':=xx X scope cl s3.heap.objs.size (own ++ caps) pins s3 (upd H2 s2.heap.objs.size (.lst [])) fp fun _ _=>False
  have fp':∀ {H':Hp},(∀ b ∈ fp,H' b = none) -> ∀ b ∈ fp,wy X' [] H' b:=fun {H'} hn b hb=>by
   obtain ⟨_,a1,a2,a3,a4,a5⟩:=f3 b hb
   refine ⟨hn b hb,Nat.ne_of_lt (show b < s3.heap.objs.size from by rw [hz]; exact Nat.lt_succ_of_lt (fplt b hb)),fun z=>?_,.inl hb,fun x c e=>a4 x c (hc1 x c e),fun p hp=>?_⟩
   ·rcases List.mem_cons.mp (I3.stkSub b z) with e | e
    ·exact a1 e
    ·exact a2 e
   ·have:p ∈ (X.pn ++ pins) ++ []:=hp
    rw [List.append_nil] at this
    exact a5 p this
  refine YD (fun n s'=>∃ i acc H',Inv X' [] (vM σ own.length ix) H' s' /\ tn i s'.heap /\ (∀ b ∈ fp,H' b = none) /\ W i n acc H') rfl ?_ m0 ⟨0,[],_,I4,by rw [<- e4]; exact st4,fun b hb=>(f3 b hb).1,w0⟩
  rintro n s5 ⟨i,acc,H5,I5,st5,fr5,w5⟩
  refine wpAny_noRaise ?_
  rcases turn i n acc H5 w5 with ⟨stop,qn⟩ | ⟨go,step⟩
  ·refine thn (T.done X' rfl rfl rfl hc i [] s5 _ H5 _ I5 (fp' fr5) st5 stop) fun r s6 ⟨hr,I6⟩=>?_
   subst hr
   obtain ⟨m,hm,_⟩:=I6.loc
   refine hRR _ _ m s6 H5 hD hm (I3.fpOk (Nat.le_refl _) I6.free) (I3.call' (s':=s6) I6.os I6.base I6.hok I6.bare fun b hb=>?_) qn
   obtain ⟨_,a1,a2,a3,a4,a5⟩:=f3 b hb
   exact ⟨a3,a1,a4,a5⟩
  ·refine thn (T.item X' rfl rfl rfl hc i [] s5 _ H5 (fun _ _=>False) I5 (fp' fr5) st5 go) fun r s6 ⟨u,hr,h6⟩=>?_
   subst hr
   refine wpAny_noRaise (thn h6 fun _ s7 ⟨x,H7,I7,r7,y7,st7,fr7⟩=>?_)
   have I7':=I7.pinned (fp' fr7) (T.obj _ _ st7)
   refine wpAny_noRaise (thn (hg _ _ _ _ _ _ _ s7 _ H7 x u _ I7' r7 (step x H7 y7)) fun _ s8 ⟨σ8,H8,I8,ks,q8⟩=>?_)
   refine wpAny_noRaise (thn (ht _ _ _ _ _ _ _ s8 σ8 H8 _ I8 q8) fun b s9 ⟨H9,I9,q9⟩=>?_)
   have back:∀ {s':Shared} {H':Hp} {acc':List V} {m':Nat},Inv X' ([] ++ ju fp s7.heap) σ8 H' s' -> m' < n -> W (i + 1) m' acc' H' -> ∃ m,m < n /\ ∃ i acc H',Inv X' [] (vM σ own.length ix) H' s' /\ tn i s'.heap /\ (∀ b ∈ fp,H' b = none) /\ W i m acc H':=fun {s' H' acc' m'} J' hm w'=>by
    refine ⟨m',hm,i + 1,acc',H',(J'.unpinned).weak ks.1 ks.2,T.keep _ _ _ st7 fun b hb o e=>(J'.pin (b,o) (List.mem_append_right _ (List.mem_append_right _ (we hb e)))).1,fun b hb=>?_,w'⟩
    obtain ⟨o,e,d⟩:=T.obj _ _ st7 b hb
    exact (J'.pin (b,o) (List.mem_append_right _ (List.mem_append_right _ (we hb e)))).2.1
   cases b with
   | false =>
    rw [if_neg Bool.false_ne_true] at q9 ⊢
    obtain ⟨m',hm,w'⟩:=q9
    exact back I9 hm w'
   | true =>
    rw [if_pos rfl] at q9 ⊢
    refine wpAny_noRaise (thn (he _ _ _ _ _ _ _ s9 σ8 H9 _ I9 q9) fun v s10 ⟨y,H10,I10,r10,hD10,hsz,m',hm,w'⟩=>?_)
    refine wpAny_noRaise ?_
    have:=yZ (X:=X') _ s10 σ8 H10 (.ref s2.heap.objs.size) [y] (.ref s2.heap.objs.size) [v] (fun _ H'=>H' = upd H10 s2.heap.objs.size (.lst (acc ++ [y]))) I10 rfl (.cons r10 .nil) ⟨_,acc,y,rfl,rfl,hD10,hsz,rfl⟩
    refine thn this fun _ s11 ⟨_,H11,I11,_,eH⟩=>?_
    subst eH
    exact back I11 hm w'
 have goal:codeAny (model X.prog X.w) X.A (.compStart (.ListComp elt [⟨tg,iter,ifs,0⟩] scope pos) 0 (.ref it) (.ref s2.heap.objs.size) (compEnvC scope cl s3.heap.objs.size X.env)) (RR (.ref s2.heap.objs.size) s3.heap.objs.size) s4 :=
  codeAny_compStart_list loop (T.self _ 0 s4 _ _ (by rw [<- e4]; exact st4) loop)
 rw [<- es4] at goal
 exact goal
theorem yF (hc:X.calm = true) (S:jB X scope own caps ix) (hi:PI X tg iter wi)
  (hg:∀ cl C pins s3 H3 fp,PG (xx X scope cl C (own ++ caps) pins s3 H3 fp fun _ _=>False) tg g)
  (ht:∀ cl C pins s3 H3 fp,PTs (xx X scope cl C (own ++ caps) pins s3 H3 fp fun _ _=>False) ifs tt)
  (he:∀ cl C pins s3 H3 fp,PE (xx X scope cl C (own ++ caps) pins s3 H3 fp fun _ _=>False) elt te)
  (hs:∀ x,foldedSetIterable iter X.env x = pure x:=by intro _; rfl) :
  PE X (.ListComp elt [⟨tg,iter,ifs,0⟩] scope pos) (jU wi g tt te own.length ix):=by
 intro pins s σ H Q I h
 obtain ⟨cl,hclos,hc1,hc2⟩:=wP (scope:=scope) (env:=X.env) fun y hy=>I.ok.has y (.inl (S.free y hy))
 rw [eval_ListComp]
 refine wpAny_comprehension_free (use:=none) rfl hs hclos S.kind S.names (thn (hi pins s σ H _ I h) fun v s1 h1=>thn h1 fun itv s2 h2=>?_)
 obtain ⟨it,fp,tn,J,H2,e,I2,T,st2,f2,q⟩:=h2
 subst e
 refine qk (RR:=fun acc C=>compPost (model X.prog X.w) X.A X.xe none (EP X pins σ Q) acc C) hc S hg ht he hc1 hc2 I2 T st2 f2 q ?_
 intro D C m s' H' _ hn fc I' qn
 obtain ⟨a0,a1,a2,a3,a4,a5⟩:=fc
 exact ⟨m,hn,fun h' sb=>⟨.ref D,H',I'.turned (t':=s'.toks) (fun b o hb e=>(sb.2 b hb).trans e) a0 a1 a3 a4 a5,rfl,qn⟩⟩
def Zx (i:Nat) (t:TE):TS:=fun D σ H=>t σ H fun x H1=>D.nx (σ.set i (some x)) H1
theorem uf {i:Nat} {y:Str} {py spos:Pos} (hN:X.N.Nodup) (hy:X.N[i]? = some y) (hly:Loc X.env.scope y) (hf:X.fn y = true \/ X.env.scope.names.lookup y = some .local) (hc:X.calm = true) (S:jB X scope own caps ix) (hi:PI X tg iter wi)
  (hg:∀ cl C pins s3 H3 fp,PG (xx X scope cl C (own ++ caps) pins s3 H3 fp fun _ _=>False) tg g)
  (ht:∀ cl C pins s3 H3 fp,PTs (xx X scope cl C (own ++ caps) pins s3 H3 fp fun _ _=>False) ifs tt)
  (he:∀ cl C pins s3 H3 fp,PE (xx X scope cl C (own ++ caps) pins s3 H3 fp fun _ _=>False) elt te)
  (hsw:swapsWith (.ListComp elt [⟨tg,iter,ifs,0⟩] scope pos) (some (.Name y py)) spos.line X.env = pure true:=by rfl)
  (hs:∀ x,foldedSetIterable iter X.env x = pure x:=by intro _; rfl) :
  PS X (.Assign [.Name y py] (.ListComp elt [⟨tg,iter,ifs,0⟩] scope pos) spos) (Zx i (jU wi g tt te own.length ix)):=by
 intro pins s σ H D I h
 obtain ⟨cl,hclos,hc1,hc2⟩:=wP (scope:=scope) (env:=X.env) fun y hy=>I.ok.has y (.inl (S.free y hy))
 rw [exec_Assign_Name_used _ _ _ _ hsw]
 refine wpAny_bind (wpAny_standAt (wpAny_bind ?_))
 show wpAny _ X.A (do let _ <- comprehension (.ListComp elt [⟨tg,iter,ifs,0⟩] scope pos) scope X.env _ (newList []) false (eval iter X.env) (some (assign (.Name y py) X.env))) _ _ s
 refine wpAny_bind (thn (wpAny_comprehension_free (use:=some (assign (.Name y py) X.env)) (Q:=fun _ s'=>SP X pins D .next s') rfl hs hclos S.kind S.names (thn (hi pins s σ H _ I h) fun v s1 h1=>thn h1 fun itv s2 h2=>?_)) fun _ s' hq=>wpAny_pure (wpAny_pure hq))
 obtain ⟨it,fp,tn,J,H2,e,I2,T,st2,f2,q⟩:=h2
 subst e
 refine qk (Q:=fun x H1=>D.nx (σ.set i (some x)) H1) (RR:=fun acc C=>compPost (model X.prog X.w) X.A X.xe (some (assign (.Name y py) X.env)) (fun _ s'=>SP X pins D .next s') acc C) hc S hg ht he hc1 hc2 I2 T st2 f2 q ?_
 intro D' C m s' H1 hD' hn fc I1 nx
 obtain ⟨a0,a1,a2,a3,a4,a5⟩:=fc
 show wpAny _ X.A (assign (.Name y py) X.env (.ref D')) _ _ s'
 refine wpAny_assign_Name (jJ I1 hN hy hly (v:=.ref D') rfl (fun s'' I2' ⟨a,sb,ha⟩=>?_) hf)
 have hCa:C ≠ a:=by
  rcases ha with e | e
  ·rw [e]; exact a1
  ·exact fun z=>a4 _ _ e z.symm
 refine ⟨m,hn.sameBut sb hCa,fun h' sb'=>⟨_,H1,I2'.turned (t':=s''.toks) (fun b o hb e=>(sb'.2 b hb).trans e) a0 a1 a3 a4 a5,nx⟩⟩
end
end L3
namespace L3
open PySem PySem.Spec PyProof.Rows L2
section
variable {X:Cx} {a b:Expr} {ta tb:TE} {pos:Pos}
def WK:R2:=fun x y H Q=>(∃ i j,x = .int i /\ y = .int j /\ Q (.int (i + j)) H) \/ (∃ i j,x = .str i /\ y = .str j /\ i.length + j.length <= sizeLine /\ Q (.str (i ++ j)) H) \/ Ka x y H Q
theorem yQ:OpR X (binaryOp .Add) WK:=op_add.or (op_add_str.or YY)
def Uw:R2:=fun x y H Q=>(∃ i j,x = .int i /\ y = .int j /\ CMul i j /\ Q (.int (i * j)) H) \/ ∃ z n,x = .str z /\ y = .int n /\ 0 <= n /\ n <= 1000 /\ z.length <= 1000 /\ Q (.str (tx (List.replicate n.toNat (cs z)).flatten)) H
theorem V1:OpR X (binaryOp .Mult) Uw:=op_mul.or ZX
def KR:R2:=fun x y H Q=>(∃ i j,x = .int i /\ y = .int j /\ Q (.bl (decide (i < j))) H) \/ ∃ i j,x = .str i /\ y = .str j /\ Q (.bl (decide (cs i < cs j))) H
theorem Zc:OpR X (compareOp .Lt) KR:=op_lt.or op_lt_str'
def KW:R2:=fun x y H Q=>(∃ i j,x = .int i /\ y = .int j /\ Q (.bl (decide (i <= j))) H) \/ ∃ i j,x = .str i /\ y = .str j /\ Q (.bl (!(decide (cs j < cs i)))) H
theorem wL:OpR X (compareOp .LtE) KW:=op_le.or Yh
theorem Xl:OpR X (compareOp .Gt) (fun x y H Q=>∃ i j,x = .str i /\ y = .str j /\ Q (.bl (decide (cs j < cs i))) H):=by
 intro pins s σ H x y v u Q I rx ry h
 obtain ⟨i,j,rfl,rfl,q⟩:=h
 obtain ⟨t,rfl⟩:=rx
 obtain ⟨t',rfl⟩:=ry
 exact PySem.P.gt_str ⟨.bl _,H,I,rfl,q⟩
def KP:R2:=fun x y H Q=>(∃ i j,x = .int i /\ y = .int j /\ Q (.bl (decide (j < i))) H) \/ ∃ i j,x = .str i /\ y = .str j /\ Q (.bl (decide (cs j < cs i))) H
theorem qm:OpR X (compareOp .Gt) KP:=op_gt.or Xl
def Kz (K:PySem.W.Frag):V -> Option Int -> Option Int -> Hp -> VK -> Prop:=fun x lo hi H Q=>JU K x lo hi H Q \/ JL x lo hi H Q
theorem Vx:SlR X (Kz X.K):=sl_list.or vC
def cV:V -> Option Value
 | .ty n=>some (.type n)
 | .ref a=>some (.ref a)
 | _=>none
theorem W2:wH X (.builtin "isinstance") (fun xs H Q=>∃ x c u t b,xs = [x,c] /\ cV c = some u /\ kJ X.K H x t /\ PySem.W.kitOne X.K t u = some b /\ Q (.bl b) H):=by
 intro pins s σ H xs us Q I r h
 obtain ⟨x,c,u,t,b,rfl,hc,ty,e,q⟩:=h
 obtain ⟨v,w',rfl,rx,rc⟩:=Xw r
 have:w' = u:=by
  cases c with
  | ty n=>cases hc; exact rc
  | ref a=>cases hc; exact rc
  | _=>cases hc
 subst this
 exact Y5 I rx ty e fun tk=>⟨.bl b,H,I.tok tk,rfl,q⟩
end
end L3
namespace L3
open PySem PySem.Spec PyProof.Rows L2
def Iel (K:PySem.W.Frag) (a:Addr):It:=⟨fun i H=>∃ xs x,SqL K H a xs /\ xs[i]? = some x,fun i H v H'=>∃ p x,H p = none /\ (∀ xs,SqL K H a xs -> xs[i]? = some x) /\ v = .ref p /\ H' = upd H p (.tup [.int (i:Nat),x]),fun i H=>∃ xs,SqL K H a xs /\ i = xs.length⟩
theorem ZQ {P:Program} {w:World} {K:PySem.W.Frag} {elts:List Expr} {x1:Nat} {tpos:Pos} (e it a:Addr) (hei:e ≠ it) :
  Vf P w K (.Tuple elts x1 tpos) (Iel K a) [e,it] e (fun i h=>(∃ old,IsEnum h e it i old) /\ h.IsListIter it a i) where
 mem:=by simp
 obj:=fun i h st b hb=>by
  obtain ⟨⟨old,he⟩,o,e2,c,d⟩:=st
  rcases List.mem_cons.mp hb with q | q
  ·subst q
   exact ⟨_,he,fun v z=>by have z':Data.fields _ = Data.cell v:=z; cases z'⟩
  ·have q':b = it:=by simpa using q
   subst q'
   exact ⟨o,e2,fun v z=>by rw [d] at z; cases z⟩
 keep:=fun i h h' st k=>by
  obtain ⟨⟨old,he⟩,st⟩:=st
  exact ⟨⟨old,k e (by simp) _ he⟩,st.at fun o q=>k it (by simp) o q⟩
 item:=by
  intro X hP hw hK hc i pins s σ H E I hf st hg
  subst hP hw hK
  obtain ⟨⟨old,he⟩,st⟩:=st
  obtain ⟨xs,x,hq,hx⟩:=hg
  obtain ⟨its,rv,p,hz⟩:=I.list hq
  obtain ⟨u,hu,ru⟩:=rv.get hx
  have hA:X.A.in1.handled = none:=I.ok.hd hc
  have pl:=p.isList
  have hai:a ≠ it:=fun z=>by
   subst z
   obtain ⟨o1,q1,c1,_⟩:=st
   obtain ⟨o2,q2,c2,_⟩:=pl
   rw [q1] at q2; cases q2
   rw [c1] at c2
   exact absurd (Value.type.inj c2) (by decide)
  have hea:e ≠ a:=fun z=>by
   subst z
   obtain ⟨o2,q2,c2,_⟩:=pl
   rw [he] at q2; cases q2
   exact absurd (Value.type.inj c2) (by decide)
  refine wpAny_pyNext_enum_itemD (Draws.list (A:=X.A.in1) hA it a hai its.toArray) he ⟨st,pl⟩ (by rw [List.size_toArray]; exact (List.getElem?_eq_some_iff.mp hu).1) hei (by simp [hei,hea]) fun v h' tk hv ho st' hT hsz kk=>?_
  have ev:v = u:=by
   have hv':its.toArray[i]? = some v:=hv
   rw [List.getElem?_toArray,hu] at hv'
   exact (Option.some.inj hv').symm
  subst ev
  refine ⟨_,rfl,wpAny_letOwnedTupleGo_enum ho fun h2 he2 sb=>?_⟩
  have elt:e < s.heap.objs.size:=Heap.lt_size he
  have ilt:it < s.heap.objs.size:=by obtain ⟨o,q,_⟩:=st; exact Heap.lt_size q
  have I1:Inv X pins σ H { s with heap:=h2,toks:=tk + 1 }:=Inv.turns (fp:=[e,it]) I (fun b o hb q=>by
   have hb':b ≠ e /\ b ≠ it:=by simpa using hb
   exact (sb.2 b hb'.1).trans (kk b o hb'.1 hb'.2 q)) hf
  have hp:H s.heap.objs.size = none:=I.hok.fresh (Nat.le_refl _)
  have hT2:h2.get? s.heap.objs.size = some { cls:=.type "tuple",data:=.seq #[.int (i:Nat) tk,v] }:=(sb.2 _ (Nat.ne_of_gt elt)).trans hT
  have I2:Inv X pins σ (upd H s.heap.objs.size (.tup [.int (i:Nat),x])) { s with heap:=h2,toks:=tk + 1 } :=
   Inv.track I1 (I.fpOk (Nat.le_refl _) hp) ⟨by show 2 <= sizeLine; decide,[.int (i:Nat) tk,v],.cons ⟨_,rfl⟩ (.cons ru .nil),⟨_,hT2,rfl,_,rfl⟩⟩
  refine ⟨.ref s.heap.objs.size,_,I2,rfl,⟨s.heap.objs.size,x,hp,fun ys hy=>by rw [I.list_inj hy hq]; exact hx,rfl,rfl⟩,⟨⟨_,by simpa using he2⟩,?_⟩,fun b hb=>?_⟩
  ·exact st'.1.at fun o q=>(sb.2 it (Ne.symm hei)).trans q
  ·rw [zp]
   ·exact (hf b hb).1
   ·rcases List.mem_cons.mp hb with q | q
    ·rw [q]; exact Nat.ne_of_lt elt
    ·have q':b = it:=by simpa using q
     rw [q']; exact Nat.ne_of_lt ilt
 done:=by
  intro X hP hw hK hc i pins s σ H E I hf st hg
  subst hP hw hK
  obtain ⟨⟨old,he⟩,st⟩:=st
  obtain ⟨xs,hq,hi⟩:=hg
  obtain ⟨its,rv,p,hz⟩:=I.list hq
  have pl:=p.isList
  have hai:a ≠ it:=fun z=>by
   subst z
   obtain ⟨o1,q1,c1,_⟩:=st
   obtain ⟨o2,q2,c2,_⟩:=pl
   rw [q1] at q2; cases q2
   rw [c1] at c2
   exact absurd (Value.type.inj c2) (by decide)
  have hA:X.A.in1.handled = none:=I.ok.hd hc
  have hi':i = its.toArray.size:=by rw [List.size_toArray,<- rv.length]; exact hi
  subst hi'
  refine wpAny_pyNext_enum_endD (Draws.list (A:=X.A.in1) hA it a hai its.toArray) he ⟨st,pl⟩ fun h' hx=>⟨rfl,?_⟩
  exact Inv.turns (fp:=[e,it]) (t':=s.toks) I (fun b o hb q=>hx b o (fun z=>hb (by simp [z])) q) hf
 self:=fun A i s Q E st h=>by
  obtain ⟨⟨old,he⟩,_⟩:=st
  exact wpAny_pyIter_enum he h
section
variable {X:Cx}
def Vt (K:PySem.W.Frag) (ta:TA):TI:=fun σ H R=>ta σ H fun vs H1=>∃ a,vs = [.ref a] /\ (∃ xs,SqL K H1 a xs) /\ R (Iel K a) H1
theorem va {a:Expr} {ta:TA} {p pos tpos:Pos} {elts:List Expr} {x1:Nat} (hg:Gl X "enumerate") (hm:X.mg "enumerate" = none) (ha:PA X [a] ta) (hs:starEach [a] X.env = [(false,eval a X.env)]:=by rfl) :
  PI X (.Tuple elts x1 tpos) (.Call (.Name "enumerate" p) [a] [] pos) (Vt X.K ta):=by
 intro pins s σ H R I h
 refine Call_ (wn I hg hm PyProof.Rows.boot_enumerate (PyProof.Rows.callWith_type1 (thn (ha pos pins s σ H _ I h) fun us s1 ⟨vs,H1,I1,r1,q1⟩=>?_) hs rfl))
 obtain ⟨l,e,⟨xs,hq⟩,q⟩:=q1
 subst e
 obtain ⟨u,rfl,ru⟩:=xD r1
 cases ru
 obtain ⟨its,rv,pl,hz⟩:=I1.list hq
 refine call_enumerate_list pl.isList fun h' he hit hsz kk=>?_
 have I2:Inv X pins σ H1 { s1 with heap:=h' }:=I1.kept (t':=s1.toks) kk
 refine wpAny_pyIter_enum (s:={ s1 with heap:=h' }) (i:=0) he ?_
 refine ⟨s1.heap.objs.size + 1,[s1.heap.objs.size + 1,s1.heap.objs.size],_,_,H1,rfl,I2,ZQ _ _ l (Nat.succ_ne_self _),⟨⟨_,he⟩,hit⟩,fun b hb=>?_,q⟩
 have hb':s1.heap.objs.size <= b:=by
  rcases List.mem_cons.mp hb with e | e
  ·rw [e]; exact Nat.le_succ _
  ·have:b = s1.heap.objs.size:=by simpa using e
   rw [this]; exact Nat.le_refl _
 exact I1.fpOk hb' (I1.hok.fresh hb')
end
def ForEL (K:PySem.W.Frag) (a:Addr) (g:TG) (tb:TS) (D:wl) (σ:St) (H:Hp):Prop:=∃ W:Nat -> Nat -> St -> Hp -> Prop,(∃ m,W 0 m σ H) /\ ∀ i m σ H,W i m σ H ->
 ((Iel K a).stop i H /\ D.nx σ H) \/ ((Iel K a).go i H /\ ∃ N:St -> Hp -> Prop,(∀ σ' H',N σ' H' -> ∃ m',m' < m /\ W (i + 1) m' σ' H') /\ ∀ x H',(Iel K a).yld i H x H' -> g x σ H' fun σ2 H2=>tb { D with nx:=N,ct:=N,bk:=D.nx } σ2 H2)
theorem Kw {K:PySem.W.Frag} {ta:TA} {g:TG} {tb:TS} {D:wl} {σ:St} {H:Hp}:W8 (Vt K ta) g tb D σ H = ta σ H fun vs H1=>∃ a,vs = [.ref a] /\ (∃ xs,SqL K H1 a xs) /\ ForEL K a g tb D σ H1:=rfl
theorem ForEL.by {K:PySem.W.Frag} {a:Addr} {xs:List V} {g:TG} {tb:TS} {D:wl} {σ:St} {H:Hp} (Pv:Nat -> St -> Hp -> Prop) (h0:Pv 0 σ H) (hl:∀ i σ H,i <= xs.length -> Pv i σ H -> SqL K H a xs)
  (hs:∀ i x σ H p,xs[i]? = some x -> Pv i σ H -> H p = none -> g (.ref p) σ (upd H p (.tup [.int (i:Nat),x])) fun σ2 H2=>tb { D with nx:=Pv (i + 1),ct:=Pv (i + 1),bk:=D.nx } σ2 H2) (hd:∀ σ H,Pv xs.length σ H -> D.nx σ H):ForEL K a g tb D σ H:=by
 refine ⟨fun i m σ H=>m = xs.length - i /\ i <= xs.length /\ Pv i σ H,⟨xs.length,by simp,Nat.zero_le _,h0⟩,?_⟩
 rintro i m σ H ⟨rfl,hi,p⟩
 have q:=hl i σ H hi p
 by_cases hlt:i < xs.length
 ·refine .inr ⟨⟨xs,xs[i],q,by simp [hlt]⟩,Pv (i + 1),fun σ' H' p'=>⟨xs.length - (i + 1),by omega,rfl,hlt,p'⟩,fun v H' y=>?_⟩
  obtain ⟨p',x,hp,hx,ev,eH⟩:=y
  subst ev eH
  exact hs i x σ H p' (hx xs q) p hp
 ·have e:i = xs.length:=by omega
  subst e
  exact .inl ⟨⟨xs,q,rfl⟩,hd σ H p⟩
def ForT (K:PySem.W.Frag) (a:Addr) (g:TG) (tb:TS) (D:wl) (σ:St) (H:Hp):Prop:=∃ W:Nat -> Nat -> St -> Hp -> Prop,(∃ m,W 0 m σ H) /\ ∀ i m σ H,W i m σ H ->
 ((Itt K a).stop i H /\ D.nx σ H) \/ ((Itt K a).go i H /\ ∃ N:St -> Hp -> Prop,(∀ σ' H',N σ' H' -> ∃ m',m' < m /\ W (i + 1) m' σ' H') /\ ∀ x H',(Itt K a).yld i H x H' -> g x σ H' fun σ2 H2=>tb { D with nx:=N,ct:=N,bk:=D.nx } σ2 H2)
theorem zap {K:PySem.W.Frag} {tl:TE} {g:TG} {tb:TS} {D:wl} {σ:St} {H:Hp}:W8 (KH K tl) g tb D σ H = tl σ H fun x H1=>∃ a,x = .ref a /\ (∃ xs,SqT K H1 a xs) /\ ForT K a g tb D σ H1:=rfl
theorem ForT.by {K:PySem.W.Frag} {a:Addr} {xs:List V} {g:TG} {tb:TS} {D:wl} {σ:St} {H:Hp} (Pv:Nat -> St -> Hp -> Prop) (h0:Pv 0 σ H) (hl:∀ i σ H,i <= xs.length -> Pv i σ H -> SqT K H a xs)
  (hs:∀ i x σ H,xs[i]? = some x -> Pv i σ H -> g x σ H fun σ2 H2=>tb { D with nx:=Pv (i + 1),ct:=Pv (i + 1),bk:=D.nx } σ2 H2) (hd:∀ σ H,Pv xs.length σ H -> D.nx σ H):ForT K a g tb D σ H:=Ur Pv h0 hl hs hd
def tTr (K:PySem.W.Frag) (ta:TE):TT:=fun σ H Q=>ta σ H fun x H'=>∃ k,Qk K x H' k /\ Q k H'
theorem JW {K:PySem.W.Frag} {ta:TE} {σ:L2.St} {H:Hp} {Q:Bool -> Hp -> Prop}:tTr K ta σ H Q = ta σ H fun x H'=>∃ k,Qk K x H' k /\ Q k H':=rfl
def tBl (ta:TE):TT:=fun σ H Q=>ta σ H fun x H'=>∃ k,x = .bl k /\ Q k H'
theorem J4 {ta:TE} {σ:L2.St} {H:Hp} {Q:Bool -> Hp -> Prop}:tBl ta σ H Q = ta σ H fun x H'=>∃ k,x = .bl k /\ Q k H':=rfl
section
variable {X:Cx} {a:Expr} {ta:TE}
theorem xV (ha:PE X a ta) (he:∀ whole,isTrue a X.env whole = (do let v <- whole; standAt a.pos; holding [v] (truthy v))):PT X a (tBl ta):=by
 intro pins s σ H Q I h
 refine isTrue_plain (thn (ha pins s σ H _ I h) fun v s1 ⟨x,H1,I1,r1,k,e,q1⟩=>?_) (he _)
 subst e
 exact Vy pins s1 σ H1 (.bl k) v Q I1 r1 ⟨k,rfl,q1⟩
end
end L3
namespace L3
open PySem PySem.Spec PyProof.Rows L2
def Irv (K:PySem.W.Frag) (a:Addr) (n:Nat):It:=⟨fun i H=>∃ xs,SqL K H a xs /\ xs.length = n /\ i < n,fun i H v H'=>H' = H /\ ∀ xs,SqL K H a xs -> xs.length = n -> xs[n - 1 - i]? = some v,fun i H=>i = n⟩
theorem Wv {P:Program} {w:World} {K:PySem.W.Frag} {tg:Expr} (a it:Addr) (n:Nat):Vf P w K tg (Irv K a n) [it] it (fun i h=>i <= n /\ h.IsRevIter it a ((n:Int) - 1 - (i:Int))) where
 mem:=by simp
 obj:=fun i h st b hb=>by
  have e:b = it:=by simpa using hb
  subst e
  obtain ⟨_,o,e,c,d⟩:=st
  exact ⟨o,e,fun v z=>by rw [d] at z; cases z⟩
 keep:=fun i h h' st k=>⟨st.1,st.2.at fun o e=>k it (by simp) o e⟩
 item:=by
  intro X hP hw hK hc i pins s σ H E I hf st hg
  subst hP hw hK
  obtain ⟨xs,hq,hn,hi⟩:=hg
  obtain ⟨its,rv,p,hz⟩:=I.list hq
  obtain ⟨f0,f1,f2,f3,f4,f5⟩:=hf it (by simp)
  have hx:xs[n - 1 - i]? = some (xs[n - 1 - i]'(by omega)):=List.getElem?_eq_getElem (by omega)
  generalize xs[n - 1 - i]'(by omega) = x at hx
  obtain ⟨u,hu,ru⟩:=rv.get hx
  have st2:=st.2
  have e:(n:Int) - 1 - (i:Int) = ((n - 1 - i:Nat):Int):=by omega
  rw [e] at st2
  refine wpAny_pyNext_rev_item st2 p.isList (x:=u) (by simpa using hu) fun h' st' sb=>?_
  have I1:Inv X pins σ H { s with heap:=h' }:=I.turned (t':=s.toks) (fun b o hb e=>(sb.2 b hb).trans e) f0 f1 f3 f4 f5
  have e2:((n - 1 - i:Nat):Int) - 1 = (n:Int) - 1 - ((i + 1:Nat):Int):=by omega
  rw [e2] at st'
  obtain ⟨o,e,c,d⟩:=id st'
  exact ⟨u,rfl,XV (s:={ s with heap:=h' }) e c d (by decide) ⟨x,H,I1,ru,⟨rfl,fun ys hy _=>by rw [I.list_inj hy hq]; exact hx⟩,⟨hi,st'⟩,fun b hb=>(hf b hb).1⟩⟩
 done:=by
  intro X hP hw hK hc i pins s σ H E I hf st hg
  subst hP hw hK
  obtain ⟨f0,f1,f2,f3,f4,f5⟩:=hf it (by simp)
  have hi:i = n:=hg
  have st2:=st.2
  rw [hi,show (n:Int) - 1 - (n:Int) = -1 by omega] at st2
  exact wpAny_pyNext_rev_end (I.ok.hd hc) st2 fun h' eb=>⟨rfl,I.turned (t':=s.toks) (fun b o hb e=>eb b o hb e) f0 f1 f3 f4 f5⟩
 self:=fun _ _ _ _ _ st h=>wpAny_pyIter_revIter st.2 h
theorem We:bootBuiltins "reversed" = some (.type "reversed"):=PyProof.Rows.boot_reversed
section
variable {X:Cx} {tg:Expr}
def KF (K:PySem.W.Frag) (ta:TA):TI:=fun σ H R=>ta σ H fun vs H1=>∃ a xs,vs = [.ref a] /\ SqL K H1 a xs /\ R (Irv K a xs.length) H1
theorem Qv {a:Expr} {ta:TA} {p pos:Pos} (hg:Gl X "reversed") (hm:X.mg "reversed" = none) (ha:PA X [a] ta) (hs:starEach [a] X.env = [(false,eval a X.env)]:=by rfl) :
  PI X tg (.Call (.Name "reversed" p) [a] [] pos) (KF X.K ta):=by
 intro pins s σ H R I h
 refine Call_ (wn I hg hm We (PyProof.Rows.callWith_type1 (thn (ha pos pins s σ H _ I h) fun us s1 ⟨vs,H1,I1,r1,q1⟩=>?_) hs rfl))
 obtain ⟨l,xs,e,hq,q⟩:=q1
 subst e
 obtain ⟨u,rfl,ru⟩:=xD r1
 cases ru
 obtain ⟨its,rv,pl,hz⟩:=I1.list hq
 have hn:its.toArray.size = xs.length:=by rw [List.size_toArray,<- rv.length]
 refine call_reversed_list pl.isList ?_
 have hit:(s1.heap.push (revObj l ((its.toArray.size:Int) - 1))).IsRevIter s1.heap.objs.size l ((xs.length:Int) - 1 - ((0:Nat):Int)):=by
  refine ⟨_,Heap.get?_push_size _ rfl,rfl,?_⟩
  rw [hn,show (xs.length:Int) - 1 - ((0:Nat):Int) = (xs.length:Int) - 1 by omega]
  rfl
 refine wpAny_pyIter_revIter (s:={ s1 with heap:=s1.heap.push (revObj l ((its.toArray.size:Int) - 1)) }) hit ?_
 refine ⟨s1.heap.objs.size,[s1.heap.objs.size],_,_,H1,rfl,I1.kept (t':=s1.toks) fun b o e=>Heap.get?_push_of_some _ e,Wv l _ xs.length,⟨Nat.zero_le _,hit⟩,fun b hb=>?_,q⟩
 have e:b = s1.heap.objs.size:=by simpa using hb
 subst e
 exact I1.fpOk (Nat.le_refl _) (I1.hok.fresh (Nat.le_refl _))
end
section
variable {prog:Program} {w:World} {A:Around} {E:Value -> Shared -> Prop} {s:Shared}
end
section
variable {X:Cx}
def JI (K:PySem.W.Frag) (ta:TA):TE:=fun σ H Q=>ta σ H fun vs H1=>∃ a xs,vs = [.ref a] /\ SqL K H1 a xs /\ ∀ l,H1 l = none -> Q (.ref l) (upd H1 l (.lst xs.reverse))
theorem Uq {K:PySem.W.Frag} {ta:TA} {σ:L2.St} {H:Hp} {Q:VK}:JI K ta σ H Q = ta σ H fun vs H1=>∃ a xs,vs = [.ref a] /\ SqL K H1 a xs /\ ∀ l,H1 l = none -> Q (.ref l) (upd H1 l (.lst xs.reverse)):=rfl
end
def Izp (K:PySem.W.Frag) (a b:Addr):It:=⟨fun i H=>∃ xs ys x y,SqL K H a xs /\ SqL K H b ys /\ xs[i]? = some x /\ ys[i]? = some y,fun i H v H'=>∃ p x y,H p = none /\ (∀ xs,SqL K H a xs -> xs[i]? = some x) /\ (∀ ys,SqL K H b ys -> ys[i]? = some y) /\ v = .ref p /\ H' = upd H p (.tup [x,y]),fun i H=>∃ xs ys,SqL K H a xs /\ SqL K H b ys /\ (xs.length = i \/ ys.length = i) /\ i <= xs.length /\ i <= ys.length⟩
theorem xW {h:Heap} {a b:Addr} {o1 o2:Obj} {t u:String} (h1:h.get? a = some o1) (c1:o1.cls = .type t) (h2:h.get? b = some o2) (c2:o2.cls = .type u) (hne:t ≠ u):a ≠ b:=fun z=>by
 rw [z,h2] at h1
 cases h1
 rw [c2] at c1
 exact hne (Value.type.inj c1).symm
structure Vk (z TI TO i1 i2:Addr):Prop where
 TIz:TI ≠ z
 TOz:TO ≠ z
 i1z:i1 ≠ z
 i2z:i2 ≠ z
 TITO:TI ≠ TO
 TIi1:TI ≠ i1
 TIi2:TI ≠ i2
 TOi1:TO ≠ i1
 TOi2:TO ≠ i2
 i12:i1 ≠ i2
def ZipAt (z TI TO i1 i2 l1 l2:Addr) (i:Nat) (h:Heap):Prop:=IsZip h z TI TO .none /\ IsPair h TI (.ref i1) (.ref i2) /\ (∃ a b,IsPair h TO a b) /\ h.IsListIter i1 l1 i /\ h.IsListIter i2 l2 i
theorem ZipAt.apart {z TI TO i1 i2 l1 l2:Addr} {i:Nat} {h:Heap} {xs ys:Array Value} (D:Vk z TI TO i1 i2) (st:ZipAt z TI TO i1 i2 l1 l2 i h) (h1:h.IsList l1 xs) (h2:h.IsList l2 ys):ZipApart z TI TO i1 i2 l1 l2:=by
 obtain ⟨hz,hTI,⟨a,b,hTO⟩,⟨o1,e1,c1,_⟩,⟨o2,e2,c2,_⟩⟩:=st
 obtain ⟨p1,q1,k1,_⟩:=h1
 obtain ⟨p2,q2,k2,_⟩:=h2
 exact ⟨D.TIz,D.TOz,D.i1z,D.i2z,D.TITO,D.TIi1,D.TIi2,D.TOi1,D.TOi2,D.i12,xW q1 k1 hz rfl (by decide),xW q1 k1 hTO rfl (by decide),xW q1 k1 e1 c1 (by decide),xW q1 k1 e2 c2 (by decide),xW q2 k2 hz rfl (by decide),xW q2 k2 hTO rfl (by decide),xW q2 k2 e1 c1 (by decide),xW q2 k2 e2 c2 (by decide)⟩
section
variable {X:Cx}
def zag (K:PySem.W.Frag) (ta:TA):TI:=fun σ H R=>ta σ H fun vs H1=>∃ a b,vs = [.ref a,.ref b] /\ (∃ xs,SqL K H1 a xs) /\ (∃ ys,SqL K H1 b ys) /\ R (Izp K a b) H1
end
def zaz (K:PySem.W.Frag) (a b:Addr) (g:TG) (tb:TS) (D:wl) (σ:L2.St) (H:Hp):Prop:=∃ W:Nat -> Nat -> L2.St -> Hp -> Prop,(∃ m,W 0 m σ H) /\ ∀ i m σ H,W i m σ H ->
 ((Izp K a b).stop i H /\ D.nx σ H) \/ ((Izp K a b).go i H /\ ∃ N:L2.St -> Hp -> Prop,(∀ σ' H',N σ' H' -> ∃ m',m' < m /\ W (i + 1) m' σ' H') /\ ∀ x H',(Izp K a b).yld i H x H' -> g x σ H' fun σ2 H2=>tb { D with nx:=N,ct:=N,bk:=D.nx } σ2 H2)
theorem zai {K:PySem.W.Frag} {ta:TA} {g:TG} {tb:TS} {D:wl} {σ:L2.St} {H:Hp}:W8 (zag K ta) g tb D σ H = ta σ H fun vs H1=>∃ a b,vs = [.ref a,.ref b] /\ (∃ xs,SqL K H1 a xs) /\ (∃ ys,SqL K H1 b ys) /\ zaz K a b g tb D σ H1:=rfl
end L3
namespace L3
open PySem PySem.Spec PyProof.Rows L2
abbrev xob (C:Addr) (dx:Option Addr) (t:Addr) (tb:Value):Obj:={ cls:=.ref C,dict:=dx,data:=.fields #[.ref t,tb,.none,.none,.bool false,.none] }
abbrev xog (C:Addr) (dx:Option Addr) (t:Addr) (tb c:Value) (k:Bool):Obj:={ cls:=.ref C,dict:=dx,data:=.fields #[.ref t,tb,c,.none,.bool k,.none] }
def Qi (h:Heap) (x:Addr) (tb:Value):Prop:=tb = .none \/ ∃ T oT ts,tb = .ref T /\ T ≠ x /\ h.get? T = some oT /\ oT.data = .fields ts /\ 3 < ts.size
section
variable {M:Model} {A:Around} {E:Value -> Shared -> Prop} {s:Shared} {base:Heap} {env env0:Env} {outer:List Env} {L x t C:Addr} {dx:Option Addr} {cx:Value} {kx:Bool}
theorem jz (h:env.frame = env0.frame):PySem.frameOf env = PySem.frameOf env0:=by unfold PySem.frameOf; rw [h]
theorem X3 {tb head:Value} {hadNext:Bool} {Q:Unit -> Shared -> Prop} (hfr:A.frames = some (env0 :: outer)) (hl:s.heap.FunFrames base (env0 :: outer)) (hf:env0.frame = some L) (he:env.frame = some L)
  (hx:s.heap.get? x = some (xog C dx t tb cx kx))
  (h:∀ h' oT ts,h'.get? x = some (xog C dx t (.ref s.heap.objs.size) cx kx) -> s.heap.objs.size ≠ x -> h'.get? s.heap.objs.size = some oT -> oT.data = .fields ts -> 3 < ts.size ->
   (∀ b o,b ≠ x -> b ∉ frs (env0 :: outer) -> s.heap.get? b = some o -> h'.get? b = some o) -> (∀ b o,b ≠ x -> s.heap.get? b = some o -> ∃ sl,h'.get? b = some { o with slots:=sl }) -> Q () { s with heap:=h' }) :
  wpAny M A (do let a <- PySem.frameOf env; let pl <- entryPlaceOf L hadNext; let b <- EntryCells.newEntry head a .none (rawInt L) .none pl; setField (.ref x) 1 b) Q E s:=by
 have hxf:x ∉ frs (env0 :: outer):=fun hm=>by
  obtain ⟨_,o,ho,hnf⟩:=hl.mem hm
  rw [hx] at ho
  cases ho
  exact hnf _ rfl
 rw [jz (he.trans hf.symm)]
 refine wpAny_bind (wpAny_frameOf_fun hfr hl hf fun h1 hs1=>wpAny_bind (wpAny_entryPlaceOf fun pl hpl=>?_))
 unfold EntryCells.newEntry newFields
 refine wpAny_bind (wpAny_newObj_type ?_ (hpl.sizeOk5 _ _ _ _ _))
 have hz:h1.objs.size = s.heap.objs.size:=hs1.1
 have hx1:h1.get? x = some (xog C dx t tb cx kx):=(hs1.2.1 x hxf).trans hx
 generalize ho:({ cls:=.type "traceback",dict:=none,data:=.fields ([head,.ref L,.none,rawInt L,.none] ++ (if pl.isEmpty then List.replicate 6 Value.none else pl)).toArray }:Obj) = ob
 have hx2:(h1.push ob).get? x = some (xog C dx t tb cx kx):=Heap.get?_push_of_some _ hx1
 refine wpAny_setField hx2 rfl (by show 1 < 6; decide) ?_
 have hne:h1.objs.size ≠ x:=Nat.ne_of_gt (Heap.lt_size hx1)
 have hx3:((h1.push ob).update x (Obj.mapFields (·.setIfInBounds 1 (Value.ref h1.objs.size)))).get? x = some (xog C dx t (.ref h1.objs.size) cx kx) :=
  Heap.get?_update_self (Obj.mapFields (·.setIfInBounds 1 (Value.ref h1.objs.size))) hx2 rfl
 have hT:((h1.push ob).update x (Obj.mapFields (·.setIfInBounds 1 (Value.ref h1.objs.size)))).get? h1.objs.size = some ob :=
  (Heap.get?_update_other _ _ (Ne.symm hne)).trans (Heap.get?_push_size h1 (by rw [<- ho]; rfl))
 rw [hz] at hx3 hT hne
 have kp:∀ b o,b ≠ x -> h1.get? b = some o -> ((h1.push ob).update x (Obj.mapFields (·.setIfInBounds 1 (Value.ref h1.objs.size)))).get? b = some o:=fun b o hb e =>
  (Heap.get?_update_other _ _ (Ne.symm hb)).trans (Heap.get?_push_of_some _ e)
 rw [hz] at kp ⊢
 refine h _ ob _ hx3 hne hT (by rw [<- ho]) (by simp only [List.size_toArray,List.length_append,List.length_cons,List.length_nil] <;> omega) (fun b o hb hbf e=>kp b o hb ((hs1.2.1 b hbf).trans e)) fun b o hb e=>?_
 obtain ⟨sl,q⟩:=hs1.2.2 b o e
 exact ⟨sl,kp b _ hb q⟩
theorem kI {tb:Value} {Q:Unit -> Shared -> Prop} (hfr:A.frames = some (env0 :: outer)) (hl:s.heap.FunFrames base (env0 :: outer)) (hf:env0.frame = some L) (he:env.frame = some L)
  (hx:s.heap.get? x = some (xog C dx t tb cx kx)) (htb:Qi s.heap x tb)
  (h:∀ h' T oT ts,h'.get? x = some (xog C dx t (.ref T) cx kx) -> T ≠ x -> (tb = .ref T \/ s.heap.objs.size <= T) -> h'.get? T = some oT -> oT.data = .fields ts -> 3 < ts.size ->
   (∀ b o,b ≠ x -> tb ≠ .ref b -> b ∉ frs (env0 :: outer) -> s.heap.get? b = some o -> h'.get? b = some o) -> (∀ b o,b ≠ x -> tb ≠ .ref b -> s.heap.get? b = some o -> ∃ sl,h'.get? b = some { o with slots:=sl }) -> Q () { s with heap:=h' }) :
  wpAny M A (noteFrame (.ref x) env) (fun _ s1=>wpAny M A (setFlight (.ref x) none) Q E s1) E s:=by
 have land:∀ (h1:Heap) (T:Addr) (oT:Obj) (ts:Array Value),h1.get? x = some (xog C dx t (.ref T) cx kx) -> T ≠ x -> (tb = .ref T \/ s.heap.objs.size <= T) -> h1.get? T = some oT -> oT.data = .fields ts -> 3 < ts.size ->
   (∀ b o,b ≠ x -> tb ≠ .ref b -> b ∉ frs (env0 :: outer) -> s.heap.get? b = some o -> h1.get? b = some o) -> (∀ b o,b ≠ x -> tb ≠ .ref b -> s.heap.get? b = some o -> ∃ sl,h1.get? b = some { o with slots:=sl }) ->
   wpAny M A (setFlight (.ref x) none) Q E { s with heap:=h1 }:=fun h1 T oT ts e1 nT oldT e2 d2 z2 k1 k2=>by
  unfold setFlight
  refine wpAny_bind (wpAny_field (s:={ s with heap:=h1 }) e1 rfl (x:=.ref T) rfl ?_)
  rw [if_pos (show (Value.ref T != Value.none) = true from by simp)]
  refine wpAny_setField (s:={ s with heap:=h1 }) e2 d2 z2 ?_
  have d3:=Obj.data_mapFields d2 (·.setIfInBounds 3 ((none:Option Addr).elim Value.none fun f=>rawInt f))
  have nb:∀ b,b ≠ x -> tb ≠ .ref b -> (∃ o,s.heap.get? b = some o) -> b ≠ T:=fun b hb hbt ⟨o,eo⟩ z=>by
   subst z
   rcases oldT with q | q
   ·exact hbt q
   ·exact absurd (Heap.lt_size eo) (Nat.not_lt.mpr q)
  refine h _ T _ _ ((Heap.get?_update_other _ _ nT).trans e1) nT oldT (Heap.get?_update_self _ e2 (Obj.isFreed_of_fields d3)) d3 (by simpa using z2) (fun b o hb hbt hbf e=>?_) fun b o hb hbt e=>?_
  ·exact (Heap.get?_update_other _ _ (Ne.symm (nb b hb hbt ⟨o,e⟩))).trans (k1 b o hb hbt hbf e)
  ·obtain ⟨sl,q⟩:=k2 b o hb hbt e
   exact ⟨sl,(Heap.get?_update_other _ _ (Ne.symm (nb b hb hbt ⟨o,e⟩))).trans q⟩
 unfold noteFrame
 simp only [he]
 refine wpAny_bind (wpAny_field hx rfl (x:=tb) rfl ?_)
 rcases htb with rfl | ⟨T,oT,ts,rfl,nT,e2,d2,z2⟩
 ·rw [if_neg (by decide)]
  refine X3 hfr hl hf he hx fun h' oT ts e1 ne e2 d2 z2 k1 k2=>land h' _ oT ts e1 ne (.inr (Nat.le_refl _)) e2 d2 z2 (fun b o hb _ hbf e=>k1 b o hb hbf e) fun b o hb _ e=>k2 b o hb e
 ·rw [if_pos (show (Value.ref T != Value.none) = true from by simp)]
  obtain ⟨y,hy⟩:∃ y,ts[3]? = some y:=⟨ts[3],by simp [z2]⟩
  refine wpAny_bind (wpAny_field e2 d2 (x:=y) hy ?_)
  by_cases c:(y == rawInt L) = true
  ·rw [if_pos c]
   exact wpAny_pure (land s.heap T oT ts hx nT (.inl rfl) e2 d2 z2 (fun b o _ _ _ e=>e) fun b o _ _ e=>⟨o.slots,e⟩)
  ·rw [if_neg c]
   refine wpAny_bind (wpAny_setField e2 d2 z2 ?_)
   have oth:∀ b,b ≠ T -> (s.heap.update T (Obj.mapFields (·.setIfInBounds 3 Value.none))).get? b = s.heap.get? b:=fun b hb=>Heap.get?_update_other _ _ (Ne.symm hb)
   have hl1:(s.heap.update T (Obj.mapFields (·.setIfInBounds 3 Value.none))).FunFrames base (env0 :: outer):=hl.of_keeps fun b o hb hnf=>⟨o,(oth b fun q=>by rw [q,e2] at hb; cases hb; exact hnf ts d2).trans hb,rfl⟩
   have hsz:(s.heap.update T (Obj.mapFields (·.setIfInBounds 3 Value.none))).objs.size = s.heap.objs.size:=Heap.size_update ..
   refine X3 (s:={ s with heap:=s.heap.update T (Obj.mapFields (·.setIfInBounds 3 Value.none)) }) hfr hl1 hf he ((oth x (Ne.symm nT)).trans hx) fun h' oT' ts' e1 ne e2' d2' z2' k1 k2=>?_
   refine land h' _ oT' ts' e1 ne (.inr (by rw [hsz]; exact Nat.le_refl _)) e2' d2' z2' (fun b o hb hbt hbf e=>k1 b o hb hbf ((oth b fun q=>hbt (by rw [q])).trans e)) fun b o hb hbt e=>k2 b o hb ((oth b fun q=>hbt (by rw [q])).trans e)
theorem V0 {tb:Value} {Q:Unit -> Shared -> Prop} (hfr:A.frames = some (env0 :: outer)) (hl:s.heap.FunFrames base (env0 :: outer)) (hf:env0.frame = some L) (he:env.frame = some L)
  (hx:s.heap.get? x = some (xog C dx t tb cx kx)) (htb:Qi s.heap x tb)
  (h:∀ h' T oT ts,h'.get? x = some (xog C dx t (.ref T) cx kx) -> T ≠ x -> (tb = .ref T \/ s.heap.objs.size <= T) -> h'.get? T = some oT -> oT.data = .fields ts -> 3 < ts.size ->
   (∀ b o,b ≠ x -> tb ≠ .ref b -> b ∉ frs (env0 :: outer) -> s.heap.get? b = some o -> h'.get? b = some o) -> (∀ b o,b ≠ x -> tb ≠ .ref b -> s.heap.get? b = some o -> ∃ sl,h'.get? b = some { o with slots:=sl }) -> Q () { s with heap:=h' }) :
  wpAny M A (leaving env (.ref x)) Q E s:=wpAny_bind (kI hfr hl hf he hx htb h)
end
def CXx (P:Program) (w:World):CXT:=fun outer H s E e s'=>∃ (x C t:Addr) (dx:Option Addr) (tb:Value) (H':Hp),e = .ref x /\ s'.os = s.os /\ AllBare s'.gens /\ Un (frs outer) [] H H' s.heap s'.heap /\ HOk P w H' s'.heap /\
 s'.heap.get? x = some (xob C dx t tb) /\ Qi s'.heap x tb /\ H' x = none /\ s.heap.objs.size <= x /\ (∀ T,tb = .ref T -> H' T = none /\ s.heap.objs.size <= T) /\ E (.ref C) dx H'
def J6 (X:Cx) (E:XK) (e:Value) (s:Shared):Prop:=∃ (pins:List (Addr × Obj)) (σ:St) (H:Hp) (x C t:Addr) (dx:Option Addr) (tb:Value),e = .ref x /\ Inv X pins σ H s /\
 s.heap.get? x = some (xob C dx t tb) /\ Qi s.heap x tb /\ wy X pins H x /\ (∀ T,tb = .ref T -> wy X pins H T) /\ E (.ref C) dx H
def XE (X:Cx) (E:XK):Prop:=∀ e s,J6 X E e s -> X.xe e s
theorem Zk {X:Cx} {E:XK} (hx:XE X E):vF (CXx X.prog X.w) X E:=by
 intro pins σ H s e s' I h
 obtain ⟨x,C,t,dx,tb,H',rfl,os,bare,un,hok,ob,tr,hn,hsz,hT,q⟩:=h
 have I':Inv X pins σ H' s':=I.call' os un hok bare fun b z=>absurd z (by simp)
 exact hx _ _ ⟨pins,σ,H',x,C,t,dx,tb,rfl,I',ob,tr,I.fpOk hsz hn,fun T e=>I.fpOk (hT T e).2 (hT T e).1,q⟩
theorem Jg {P:Program} {w:World} {K:PySem.W.Frag} {mg:Str -> Option Value} {base:Heap} {N:List Str} {qual:Str} {scope:Scope} {f:Addr} {cd:Value} {A:Around} {outer:List Env} {s:Shared} {H:Hp} {E:XK} :
  XE (vQ (CXx P w) P w K mg base N qual scope f cd A outer s H E) E:=by
 intro e s1 h
 obtain ⟨pins,σ,H1,x,C,t,dx,tb,rfl,I,ob,tr,fx,fT,q⟩:=h
 show wpAny _ _ (leaving _ (.ref x)) _ _ s1
 have ff:=I.stack
 refine V0 (A:=(vQ (CXx P w) P w K mg base N qual scope f cd A outer s H E).A) (env0:=envOfC qual scope s.heap.objs.size f cd) (outer:=outer) I.ok.frames ff rfl rfl ob tr fun h' T oT ts e1 nT oldT e2 d2 z2 k1 k2=>?_
 have szs:s.heap.objs.size <= s1.heap.objs.size:=I.sz
 have hxs:s.heap.objs.size <= x:=by
  rcases fx.2.2.2.1 with z | z
  ·exact absurd z (by simp [vQ])
  ·exact z
 have hTs:s.heap.objs.size <= T /\ H1 T = none:=by
  rcases oldT with z | z
  ·obtain ⟨a0,_,_,a3,_⟩:=fT T z
   rcases a3 with y | y
   ·exact absurd y (by simp [vQ])
   ·exact ⟨y,a0⟩
  ·exact ⟨Nat.le_trans szs z,I.hok.fresh z⟩
 have tbs:∀ b,tb = .ref b -> s.heap.objs.size <= b /\ H1 b = none:=fun b hb=>by
  obtain ⟨a0,_,_,a3,_⟩:=fT b hb
  rcases a3 with y | y
  ·exact absurd y (by simp [vQ])
  ·exact ⟨y,a0⟩
 have old:∀ b o,s.heap.get? b = some o -> b ≠ x /\ tb ≠ .ref b:=fun b o e=>by
  have hb:=Heap.lt_size e
  refine ⟨Nat.ne_of_lt (Nat.lt_of_lt_of_le hb hxs),fun z=>?_⟩
  exact absurd (Nat.lt_of_lt_of_le hb (tbs b z).1) (Nat.lt_irrefl _)
 have un:Un (frs outer) [] H H1 s.heap h':=by
  have B:=I.base
  refine ⟨fun b o e n hb _=>?_,fun b o e n hb _=>?_,fun b o e n _=>B.free b o e n (by simp [vQ]),fun b o e _=>?_,B.tups,B.frzs,B.tbls⟩
  ·have e1:=B.keep b o e n hb (by simp [vQ])
   refine k1 b o (old b o e).1 (old b o e).2 (fun z=>?_) e1
   have z':=I.stkSub b z
   rcases List.mem_cons.mp z' with q | q
   ·exact absurd q (Nat.ne_of_lt (Nat.lt_of_lt_of_le (Heap.lt_size e) I.ok.above))
   ·exact hb q
  ·obtain ⟨sl,e1⟩:=B.slot b o e n hb (by simp [vQ])
   obtain ⟨sl',e2⟩:=k2 b _ (old b o e).1 (old b o e).2 e1
   exact ⟨sl',e2⟩
  ·obtain ⟨o',e1⟩:=B.there b o e (by simp [vQ])
   obtain ⟨sl',e2⟩:=k2 b _ (old b o e).1 (old b o e).2 e1
   exact ⟨_,e2⟩
 have hok:HOk P w H1 h':=fun b u e=>by
  refine (I.hok b u e).stay (fun c v hc q=>k1 c v ?_ ?_ ?_ q) (fun _ q=>q) fun _ _ q=>q
  ·rintro rfl
   rcases hc with rfl | hc
   ·rw [fx.1] at e; cases e
   ·rw [fx.1] at hc; cases hc
  ·intro z
   have:=(tbs c z).2
   rcases hc with rfl | hc
   ·rw [this] at e; cases e
   ·rw [this] at hc; cases hc
  ·intro z
   have:=I.stkFree c z
   rcases hc with rfl | hc
   ·rw [this] at e; cases e
   ·rw [this] at hc; cases hc
 exact ⟨x,C,t,dx,.ref T,H1,rfl,I.os,I.bare,un,hok,e1,.inr ⟨T,oT,ts,rfl,nT,e2,d2,z2⟩,fx.1,hxs,fun T' z=>by cases z; exact ⟨hTs.2,hTs.1⟩,q⟩
theorem Fun.okX {P:Program} {w:World} {K:PySem.W.Frag} {mg:Str -> Option Value} {base:Heap} {x qual:Str} {st:Stmt} {f:Addr} {fd:FuncData} {N ps:List Str} {k:Nat} {sp:Sp} (F:Fun K x qual st f fd) (S:zu N ps (zb st)) (len:∀ vs H Q E,sp vs H Q E -> vs.length = ps.length)
  (hbody:∀ (cdv:Value) (A:Around) (outer:List Env) (s:Shared) (H:Hp) (vs:List V) (Q:VK) (E:XK),Room k (A.deeper (envOfC qual (zb st) s.heap.objs.size f cdv)) -> XE (vQ (CXx P w) P w K mg base N qual (zb st) f cdv A outer s H E) E -> sp vs H Q E ->
   ∃ t,PSs (vQ (CXx P w) P w K mg base N qual (zb st) f cdv A outer s H E) (zo st) t /\ t { nx:=fun _ H'=>Q .non H',rt:=Q } (start N vs) H):yk P w K mg base (CXx P w) (k + 1) f fd ps sp:=by
 obtain ⟨oc,od,kV,doc,pm,an,cdv,ct,osl,rfl,lk,hcd⟩:=F.ex
 exact Wn lk hcd S len fun A outer s H vs Q E hr hsp=>hbody cdv A outer s H vs Q E hr Jg hsp
def Q2 (X:Cx) (E:XK) (e:Value) (s:Shared):Prop:=∃ (cx:Value) (kx:Bool) (pins:List (Addr × Obj)) (σ:St) (H:Hp) (x C t:Addr) (dx:Option Addr) (tb:Value),e = .ref x /\ Inv X pins σ H s /\
 s.heap.get? x = some (xog C dx t tb cx kx) /\ Qi s.heap x tb /\ wy X pins H x /\ (∀ T,tb = .ref T -> wy X pins H T) /\ E (.ref C) dx H
def XEg (X:Cx) (E:XK):Prop:=∀ e s,Q2 X E e s -> X.xe e s
end L3
namespace L3
open PySem PySem.Spec PyProof.Rows L2
structure RoomH (k:Nat) (A:Around):Prop where
 dp:A.depth + 3 * k + 5 < recursionLimit
 un:A.units + 16 * k + 200 < cLine
theorem RoomH.mark {k:Nat} {A:Around} (r:RoomH k A) (e:Option Value):RoomH k (A.mark e):=⟨r.dp,r.un⟩
def cxH (P:Program) (w:World) (K:PySem.W.Frag) (mg:Str -> Option Value) (base:Heap) (N:List Str) (qual:Str) (scope:Scope) (f:Addr) (cd:Value) (A:Around) (outer:List Env) (s:Shared) (H:Hp):Cx :=
 { vQ CX0 P w K mg base N qual scope f cd A outer s H E0 with calm:=false,xe:=fun _ _=>False }
section
variable {X:Cx} {k:Nat} {f:Addr} {fd:FuncData} {ps:List Str} {sp:Sp} {x:Str} {p pos:Pos} {e:Expr} {es:List Expr} {t:TA}
end
end L3
namespace L3
open PySem PySem.Spec PyProof.Rows L2
abbrev bmV:List Value:=[.type "ValueError",.type "Exception",.type "BaseException",.type "object"]
def ZA (K:PySem.W.Frag) (C:Addr):Bool:=match K.lookup C with
 | some ⟨.type "type",_,.cls cd,sl⟩=>(match cd.mro,sl.toList with
  | .ref C' :: bm,[_,_,_,_,some (.builtin n),_]=>C' == C && (n == "ValueError.__new__" && (!cd.hasDel && (cd.hasDict && PySem.W.tailIn K bmV bm)))
  | _,_=>false)
 | _=>false
theorem w6 {K:PySem.W.Frag} {C:Addr} (q:ZA K C = true):∃ bm N nm qn bs sn sub ab col dd k0 k1 k2 k3 k5,K.lookup C = some (excClassObj nm qn C N bs bm true sn sub ab col dd k0 k1 k2 k3 k5 "ValueError.__new__") /\ ∀ h:Heap,K.In h -> OwnTail h bmV bm:=by
 unfold ZA at q
 split at q
 ·rename_i dd cd sl ho
  split at q
  ·rename_i C' bm k0 k1 k2 k3 n k5 hm hs
   simp only [Bool.and_eq_true,beq_iff_eq,Bool.not_eq_true'] at q
   obtain ⟨rfl,rfl,hdel,hdct,ht⟩:=q
   obtain ⟨nm,bs,mro,ns,qn,hd,sn,sub,ab,col,del⟩:=cd
   dsimp only at hm hdel hdct
   subst hm hdel hdct
   have hsl:sl = #[k0,k1,k2,k3,some (.builtin "ValueError.__new__"),k5]:=by
    obtain ⟨l⟩:=sl
    simp only at hs
    rw [hs]
   subst hsl
   exact ⟨bm,ns,nm,qn,bs,sn,sub,ab,col,dd,k0,k1,k2,k3,k5,ho,fun h X=>PySem.W.tail_of_in X ht⟩
  ·cases q
 ·cases q
structure XC (K:PySem.W.Frag) (C:Addr):Prop where
 ok:ZA K C = true
 sa:PySem.W.findIn K (.ref C) "__setattr__" = some (some (.builtin "object.__setattr__"))
 ga:PySem.W.findIn K (.ref C) "__getattribute__" = some (some (.builtin "BaseException.__getattribute__"))
 gt:PySem.W.findIn K (.ref C) "__getattr__" = some none
 kp:PySem.W.keepIn K (.ref C) = true
section
variable {prog:Program} {w:World} {A:Around} {R:Result -> Shared -> Prop} {h:Heap} {g:Array GenState} {d:Drawn} {t:Nat} {os:OsState} {K:PySem.W.Frag} {C:Addr}
theorem Zs {init:Value} {rest:List Value} (X:K.In h) (q:ZA K C = true) (hi:PySem.W.findIn K (.ref C) "__init__" = some (some init))
  (hb:∀ self,PySem.W.Looks (model prog w) h (bindSpecial init self) (init,[self])) (hrest:rest.length <= sizeLine)
  (hq:codeAny (model prog w) (A.under (.builtin "type.__call__" ⟨.ref C :: rest,[]⟩)) (.call init ⟨.ref (h.objs.size + 1) :: rest,[]⟩) (PySem.W.InitBack (h.objs.size + 1) R) ⟨(h.push { cls:=.type "tuple",data:=.seq rest.toArray }).push (xob C none h.objs.size .none),g,d,t,os⟩) :
  codeAny (model prog w) A (.call (.ref C) ⟨rest,[]⟩) R ⟨h,g,d,t,os⟩:=by
 obtain ⟨bm,N,nm,qn,bs,sn,sub,ab,col,dd,k0,k1,k2,k3,k5,lk,tl⟩:=w6 q
 have hC:=X _ _ lk
 have T:=tl h X
 have F:=PySem.F.excBase_ValueError
 have f1:=tc_lookup
 have f2:=tc_bind (.ref C)
 have hT:(⟨h,g,d,t,os⟩:Shared).TypeIs (.ref C) "type":=⟨_,hC,rfl⟩
 refine codeAny_of_tree ?_
 show wpAny _ _ (callAny (.ref C) _) _ _ _
 repeat (any_goals (first | assumption | with_reducible refine wpAny_loadPart_at hC ?_ | wp_step))
 refine ⟨rfl,?_⟩
 refine codeAny_call_builtin_at (Code.quiet_builtin _ (by decide +kernel)) entry_typeCall (wpAny_check_type_call_sub hC ?_)
 repeat (first | with_reducible refine wpAny_loadPart_at hC ?_ | with_reducible refine wpAny_madeBy_exc hC ?_ | wp_step)
 refine codeAny_call_builtin_code (Code.quiet_builtin _ F.quiet) (wpAny_check_new_subT F T hC ?_)
 refine codeAny_exc_new_subT F T hC ?_ hrest
 show wpAny _ _ _ _ _ _
 have k:∀ b o,h.get? b = some o -> ((h.push { cls:=.type "tuple",data:=.seq rest.toArray }).push (xob C none h.objs.size .none)).get? b = some o:=fun b o e=>Heap.get?_push_of_some _ (Heap.get?_push_of_some _ e)
 have hC1:=k _ _ hC
 have hget:((h.push { cls:=.type "tuple",data:=.seq rest.toArray }).push (xob C none h.objs.size .none)).get? (h.objs.size + 1) = some (xob C none h.objs.size .none):=by heap_get
 have hcC:(Value.ref C :: bm).contains (.ref C) = true:=by simp
 unfold isInstance
 repeat (first | with_reducible refine wpAny_loadPart_at hget ?_ | wp_step)
 refine wpAny_isSubtype_exc (C:=C) hC1 ?_
 rw [hcC]
 repeat wp_step
 show wpAny _ _ (typeLookup (.ref C) _) _ _ _
 refine ((PySem.W.looks_findIn X hi).keeps k).at ?_
 refine wpAny_holding (wpAny_bind (((hb _).keeps k).at ?_))
 refine wpAny_bind (wpAny_call (codeAny_mono hq fun r s' z=>?_))
 rcases r with e | (v | _ | _ | _) <;> first | exact z | exact z.elim | skip
 obtain ⟨rfl,z⟩:=z
 exact wpAny_pure (wpAny_pure z)
end
end L3
namespace L3
open PySem PySem.Spec PyProof.Rows L2
def XN (x C:Addr) (dx:Option Addr):HO:=.ext fun h=>∃ t,h.get? x = some (xob C dx t .none)
def XT (x C:Addr) (dx:Option Addr):HO:=.ext fun h=>∃ t tb c k,h.get? x = some (xog C dx t tb c k)
def XP (x C:Addr) (dx:Option Addr):HO:=.ext fun h=>∃ t tb,h.get? x = some (xob C dx t tb)
theorem Jr {P:Program} {w:World} {H:Hp} {h:Heap} {x C t:Addr} {dx:Option Addr} (e:h.get? x = some (xob C dx t .none)):ObjOk P w H h x (XN x C dx) :=
 ⟨⟨t,e⟩,⟨_,e⟩,fun h1 h2 ⟨t,q⟩ k=>⟨t,k _ q⟩⟩
theorem Kn {P:Program} {w:World} {H:Hp} {h:Heap} {x C t:Addr} {dx:Option Addr} {tb c:Value} {k:Bool} (e:h.get? x = some (xog C dx t tb c k)):ObjOk P w H h x (XT x C dx) :=
 ⟨⟨t,tb,c,k,e⟩,⟨_,e⟩,fun h1 h2 ⟨t,tb,c,k',q⟩ k=>⟨t,tb,c,k',k _ q⟩⟩
theorem QP {P:Program} {w:World} {H:Hp} {h:Heap} {x C:Addr} {dx:Option Addr} (o:ObjOk P w H h x (XN x C dx)):∃ t,h.get? x = some (xob C dx t .none):=o.1
theorem JG {P:Program} {w:World} {H:Hp} {h:Heap} {x C:Addr} {dx:Option Addr} (o:ObjOk P w H h x (XT x C dx)):∃ t tb c k,h.get? x = some (xog C dx t tb c k):=o.1
section
variable {nm q:Str} {C N:Addr} {bs bm:List Value} {hdct:Bool} {sn:List Str} {sub:List Value} {ab:Bool} {col:Option Bool} {dd:Option Addr} {k0 k1 k2 k3 k5:Option Value} {newId:String} {h:Heap} {M:Model}
theorem j0 (hC:h.get? C = some (excClassObj nm q C N bs bm hdct sn sub ab col dd k0 k1 k2 k3 k5 newId)) (base:Value):PySem.W.Looks M h (isSubtype (.ref C) base) ((Value.ref C :: bm).contains base):=fun A Q E s k z=>by
 obtain ⟨hp,g,d,t,os⟩:=s
 exact wpAny_isSubtype_exc (k _ _ hC) z
theorem YH (hC:h.get? C = some (excClassObj nm q C N bs bm hdct sn sub ab col dd k0 k1 k2 k3 k5 newId)):PySem.W.Looks M h (mroOf (.ref C)) (.ref C :: bm):=fun A Q E s k z=>by
 obtain ⟨hp,g,d,t,os⟩:=s
 exact wpAny_mroOf_exc (k _ _ hC) z
theorem Y8 (hC:h.get? C = some (excClassObj nm q C N bs bm hdct sn sub ab col dd k0 k1 k2 k3 k5 newId)):PySem.W.Looks M h (classData C) { name:=nm,bases:=bs,mro:=.ref C :: bm,ns:=N,qualname:=q,hasDict:=hdct,slotNames:=sn,subclasses:=sub,abstract:=ab,collection:=col,hasDel:=false }:=fun A Q E s k z=>by
 unfold classData
 exact wpAny_bind (wpAny_load (k _ _ hC) (wpAny_pure z))
theorem kg {bmB bm:List Value} (T:OwnTail h bmB bm) (self:Value) (hp:refuseLoop self "__setattr__" bmB = pure ()):refuseLoop self "__setattr__" bm = pure ():=by
 induction T with
 | base=>exact hp
 | own _ _ _ _ ih=>rw [refuseLoop_ref]; exact ih
end
section
variable {X:Cx} {pins:List (Addr × Obj)} {σ:St} {H:Hp} {s:Shared} {A:Around} {E:Value -> Shared -> Prop} {x C:Addr} {f:Str} {y:V} {u:Value}
theorem VU {Q:Unit -> Shared -> Prop} (I:Inv X pins σ H s) (e:H x = some (XN x C none)) (xc:XC X.K C) (n:NoAttr X.K C f) (ry:RelV y u)
  (h:∀ s' dx,H dx = none -> Inv X pins σ (upd (upd H dx (.xd [(f,y)])) x (XN x C (some dx))) s' -> Q () s'):wpAny (model X.prog X.w) A (setAttr (.ref x) f u) Q E s:=by
 obtain ⟨t,ob⟩:=QP (I.hok x _ e)
 obtain ⟨bm,N,nm,qn,bs,sn,sub,ab,col,dd,k0,k1,k2,k3,k5,lk,tl⟩:=w6 xc.ok
 have hC:=I.kIn _ _ lk
 have T:=tl _ I.kIn
 have SF:=PySem.F.store_ValueError
 have J:PySem.W.InstAt s.heap x (xob C none t .none) C none:=⟨ob,rfl,rfl,trivial⟩
 have hob:(Value.ref C :: bm).contains (.type "object") = true:=by rw [List.contains_cons,T.hasType (show bmV.contains (.type "object") = true by decide +kernel),Bool.or_true]
 have isO:PySem.W.Looks (model X.prog X.w) s.heap (isInstance (.ref x) (.type "object")) true:=J.type.andThen (by have:=j0 (M:=model X.prog X.w) hC (.type "object"); rw [hob] at this; exact this)
 refine PySem.W.set_plain I.kIn J xc.sa ?_
 refine codeAny_call_builtin SF.slot.plain SF.entry (@PySem.W.check_slot (model X.prog X.w) _ _ { s with toks:=s.toks + 1 } "object.__setattr__" "object" "__setattr__" (.ref x) [.str f s.toks,u] [] _ SF.kind SF.split isO (SF.args _ _ _) ?_)
 rw [PySem.W.osa_eq,refuse_eq]
 refine wpAny_bind (wpAny_bind (J.type.here (s:={ s with toks:=s.toks + 1 }) (wpAny_bind ((YH hC).here (s:={ s with toks:=s.toks + 1 }) ?_))))
 rw [refuseLoop_ref,kg T _ (SF.passes _)]
 refine wpAny_pure (wpAny_bind (J.type.here (s:={ s with toks:=s.toks + 1 }) (wpAny_bind ((PySem.W.looks_findIn I.kIn n).here (s:={ s with toks:=s.toks + 1 }) (wpAny_bind (wpAny_pure ?_))))))
 show wpAny _ _ (Builtin.ObjectAttr.storeInOwnDict (.ref x) (.ref C) (.str f s.toks) f u false) _ _ _
 have hx1:(s.heap.push { cls:=.type "dict",data:=.dict #[] }).get? x = some (xob C none t .none):=Heap.get?_push_of_some _ ob
 have hxs:x ≠ s.heap.objs.size:=Nat.ne_of_lt (Heap.lt_size ob)
 refine wpAny_bind (wpAny_pure (wpAny_bind (wpAny_bind (wpAny_loadPart ob (wpAny_bind ((Y8 hC).here (s:={ s with toks:=s.toks + 1 }) ?_))))))
 rw [if_neg (by simp)]
 show wpAny _ _ (if (!true || !typeHasDict (.ref C)) = true then _ else _) _ _ _
 rw [if_neg (by simp [typeHasDict])]
 have hgd:((s.heap.push { cls:=.type "dict",data:=.dict #[] }).update x fun o=>{ cls:=o.cls,dict:=some s.heap.objs.size,data:=o.data,slots:=o.slots }).get? s.heap.objs.size = some { cls:=.type "dict",data:=.dict #[] } :=
  (Heap.get?_update_other _ _ hxs).trans (Heap.get?_push_at rfl rfl)
 have hgx:((s.heap.push { cls:=.type "dict",data:=.dict #[] }).update x fun o=>{ cls:=o.cls,dict:=some s.heap.objs.size,data:=o.data,slots:=o.slots }).get? x = some (xob C (some s.heap.objs.size) t .none) :=
  Heap.get?_update_self _ hx1 rfl
 have hnd:((s.heap.push { cls:=.type "dict",data:=.dict #[] }).update x fun o=>{ cls:=o.cls,dict:=some s.heap.objs.size,data:=o.data,slots:=o.slots }).Ns s.heap.objs.size (fun _=>none) :=
  ⟨_,#[],_,hgd,rfl,fun e he=>absurd he (by simp),fun _=>rfl⟩
 refine wpAny_bind (wpAny_alloc' (wpAny_bind (wpAny_update' hx1 (wpAny_pure ?_))))
 show wpAny _ _ (Builtin.ObjectAttr.storeInDict s.heap.objs.size (.str f s.toks) f u) _ _ _
 unfold Builtin.ObjectAttr.storeInDict Builtin.ObjectAttr.newKeyGuard
 refine wpAny_bind (wpAny_pure (wpAny_bind (wpAny_nsSet1 (Heap.Ns1.of_empty hnd) fun h' hn' hs=>?_)))
 obtain ⟨oD,esD,epD,hoD,hdD,hcD⟩:=hn'.count (Within.cons f u Within.nil)
 refine wpAny_bind (wpAny_lookBehind hoD (by rw [hdD]; exact pastItsLine_dict (Nat.le_trans hcD (by rw [List.length_cons,List.length_nil,sizeLine_eq]; omega))) ?_)
 refine wpAny_pure ?_
 have hx2:h'.get? x = some (xob C (some s.heap.objs.size) t .none):=(hs.2 x hxs).trans hgx
 have hfr:H s.heap.objs.size = none:=I.hok.fresh (Nat.le_refl _)
 have hxe:x ≠ s.heap.objs.size:=hxs
 refine h _ s.heap.objs.size hfr ?_
 have k0:∀ b o,b ≠ x -> s.heap.get? b = some o -> h'.get? b = some o:=fun b o hb q =>
  (hs.2 b (Nat.ne_of_lt (Heap.lt_size q))).trans ((Heap.get?_update_other _ _ (Ne.symm hb)).trans (Heap.get?_push_of_some _ q))
 have I1:Inv X pins σ (upd H x (XN x C (some s.heap.objs.size))) { s with heap:=h',toks:=s.toks + 1 + 1 } :=
  I.write (x:=x) (e:=x) (by rw [e]; exact True.intro) (.inl rfl) k0 ⟨_,hx2⟩ (Jr hx2)
 have hd2:ObjOk X.prog X.w (upd (upd H x (XN x C (some s.heap.objs.size))) s.heap.objs.size (.xd [(f,y)])) h' s.heap.objs.size (.xd [(f,y)]):=by
  refine ⟨_,hn',fun g=>?_⟩
  show RelO (List.lookup g [(f,y)]) (if g = f then some u else none)
  by_cases q:g = f
  ·subst q
   rw [if_pos rfl]
   simp [List.lookup,RelO,ry]
  ·rw [if_neg q]
   have q':(g == f) = false:=by simpa using q
   simp [List.lookup,q',RelO]
 have fd:wy X pins (upd H x (XN x C (some s.heap.objs.size))) s.heap.objs.size:=I.fpOk (Nat.le_refl _) (by rw [zp (Ne.symm hxe)]; exact hfr)
 have I2:=Inv.track I1 fd hd2
 have eH:upd (upd H x (XN x C (some s.heap.objs.size))) s.heap.objs.size (.xd [(f,y)]) = upd (upd H s.heap.objs.size (.xd [(f,y)])) x (XN x C (some s.heap.objs.size)):=by
  funext b
  unfold upd
  by_cases b1:b = s.heap.objs.size
  ·subst b1
   rw [if_pos rfl,if_neg (Ne.symm hxe),if_pos rfl]
  ·by_cases b2:b = x
   ·subst b2
    rw [if_neg b1,if_pos rfl,if_pos rfl]
   ·rw [if_neg b1,if_neg b2,if_neg b2,if_neg b1]
 rw [eH] at I2
 exact I2
end
end L3
namespace L3
open PySem PySem.Spec PyProof.Rows L2
def Qr (K:PySem.W.Frag) (ta tv:TE) (f:Str):TS:=fun D σ H=>tv σ H fun y H1=>ta σ H1 fun o H2=>∃ x C,o = .ref x /\ H2 x = some (XN x C none) /\ XC K C /\ NoAttr K C f /\ ∀ dx,H2 dx = none -> D.nx σ (upd (upd H2 dx (.xd [(f,y)])) x (XN x C (some dx)))
section
variable {X:Cx} {o value:Expr} {f:Str} {pos pos':Pos} {ta tv:TE}
theorem UL (ha:PE X o ta) (hv:PE X value tv) (hs:swapsWith value (some (.Attribute o f pos')) pos.line X.env = pure false):PS X (.Assign [.Attribute o f pos'] value pos) (Qr X.K ta tv f):=by
 intro pins s σ H D I h
 refine plainObj_wpAny_Assign_Attribute (thn (hv pins s σ H _ I h) fun u s1 ⟨y,H1,I1,ry,q⟩=>thn (ha pins s1 σ H1 _ I1 q) fun ov s2 ⟨x',H2,I2,rx,x,C,ex,e,xc,n,q2⟩=>?_) hs
 subst ex
 obtain rfl:ov = Value.ref x:=rx
 exact VU I2 e xc n ry fun s3 dx hdx I3=>⟨σ,_,I3,q2 dx hdx⟩
end
section
variable {M:Model} {A:Around} {E:Value -> Shared -> Prop} {s:Shared} {env:Env}
theorem Yl {K:PySem.W.Frag} {x:Sem Value} {Q:Flow -> Shared -> Prop} (hh:A.handled = none)
  (h:wpAny M A x (fun v s1=>∃ e C t dx,v = .ref e /\ K.In s1.heap /\ ZA K C = true /\ s1.heap.get? e = some (xob C dx t .none) /\ E (.ref e) s1) E s):wpAny M A (raiseStmt env (some x) none) Q E s:=by
 unfold raiseStmt
 refine wpAny_bind (thn h fun v s1 h1=>?_)
 obtain ⟨e,C,t,dx,rfl,X,hC,he,hE⟩:=h1
 obtain ⟨bm,N,nm,qn,bs,sn,sub,ab,col,dd,k0,k1,k2,k3,k5,lk,tl⟩:=w6 hC
 have hCo:=X _ _ lk
 have T:=tl _ X
 have hcB:(Value.ref C :: bm).contains (.type "BaseException") = true:=by rw [List.contains_cons,T.hasType (show bmV.contains (.type "BaseException") = true by decide +kernel),Bool.or_true]
 obtain ⟨hp,g,d,tk,os⟩:=s1
 repeat (first | with_reducible refine wpAny_loadPart_at he ?_ | with_reducible refine wpAny_loadPart_at hCo ?_ | (with_reducible refine wpAny_isSubtype_exc hCo ?_; rw [hcB]) | wp_step)
 exact wpAny_raiseNew_none hh hE
theorem YL {K:PySem.W.Frag} {e:Expr} {pos:Pos} {Q:Flow -> Shared -> Prop} (hh:A.handled = none)
  (h:wpAny M A (eval e env) (fun v s1=>∃ a C t dx,v = .ref a /\ K.In s1.heap /\ ZA K C = true /\ s1.heap.get? a = some (xob C dx t .none) /\ E (.ref a) s1) E s):wpAny M A (exec (.Raise (some e) none pos) env) Q E s:=by
 rw [arm_exec_Raise]
 first
  | exact wpAny_bind (wpAny_standAt (Yl hh (wpAny_bind (thn h fun v s1 h1=>wpAny_bind (wpAny_standAt (wpAny_pure h1))))))
  | (simp only [evalOpt,Option.map]; exact wpAny_bind (wpAny_standAt (Yl hh (wpAny_bind (thn h fun v s1 h1=>wpAny_bind (wpAny_standAt (wpAny_pure h1)))))))
end
def del (H:Hp) (x:Addr):Hp:=fun b=>if b = x then none else H b
theorem Xs {H:Hp} {x b:Addr} (h:b ≠ x):del H x b = H b:=if_neg h
theorem Zz {H:Hp} {x:Addr}:del H x x = none:=if_pos rfl
section
variable {X:Cx} {pins:List (Addr × Obj)} {σ:St} {H:Hp} {s:Shared}
theorem Inv.untrack {x:Addr} {φ:Heap -> Prop} (I:Inv X pins σ H s) (e:H x = some (.ext φ)) (hs:X.s₀.heap.objs.size <= x):Inv X pins σ (del H x) s:=by
 have nx:∀ b u,H b = some u -> (∀ ψ,u ≠ .ext ψ) -> b ≠ x:=fun b u q nu z=>by subst z; rw [e] at q; cases q; exact nu _ rfl
 have hn:∀ b,b ≠ x -> del H x b = H b:=fun b hb=>Xs hb
 have es:s = { s with heap:=s.heap,gens:=s.gens,drawn:=s.drawn,toks:=s.toks }:=rfl
 rw [es]
 refine I.step (g':=s.gens) (d':=s.drawn) (ch:=[x]) (fun b hb=>?_) (fun b o _ _ _ q _=>q) (fun b o _ _ _ q _=>⟨o.slots,q⟩) (fun b o hc _ n=>?_)
  (fun b o _ q=>⟨o,q⟩) (fun b xs q=>?_) (fun b u xs q=>?_) (fun b ps q=>?_) (fun m hm=>hm) (fun b u q=>?_) I.bare
 ·have eb:b = x:=by simpa using hb
  subst eb
  refine ⟨.inr hs,fun z=>?_,fun y c q z=>?_,fun p hp z=>?_⟩
  ·rw [z,I.free] at e; cases e
  ·have:=I.freeC y c q; rw [z,e] at this; cases this
  ·have:=(I.pin p hp).2.1; rw [z,e] at this; cases this
 ·rw [hn b (by simpa using hc)]; exact n
 ·rw [hn b (nx b _ q fun _ z=>by cases z)]; exact q
 ·rw [hn b (nx b _ q fun _ z=>by cases z)]; exact q
 ·exact ⟨#[],by rw [hn b (nx b _ q fun _ z=>by cases z),q]; simp⟩
 ·by_cases hb:b = x
  ·subst hb
   rw [Zz] at q
   cases q
  ·rw [hn b hb] at q
   exact (I.hok b u q).stay (fun c v _ z=>z) (fun c z=>by rw [hn c (nx c _ z fun _ y=>by cases y)]; exact z) fun c xs z=>by rw [hn c (nx c _ z fun _ y=>by cases y)]; exact z
theorem ZG {C:Addr} {us:List Value} {E:Value -> Shared -> Prop} {Q:Value -> Shared -> Prop} (I:Inv X pins σ H s) (xc:ZA X.K C = true) (hi:PySem.W.findIn X.K (.ref C) "__init__" = some (some (.builtin "ValueError.__init__"))) (hl:us.length <= sizeLine)
  (h:∀ s' x t,s.heap.objs.size <= x -> Inv X pins σ H s' -> s'.heap.get? x = some (xob C none t .none) -> Q (.ref x) s'):wpAny (model X.prog X.w) X.A (call (.ref C) us) Q E s:=by
 have F:=PySem.F.excBase_ValueError
 obtain ⟨bm,N,nm,qn,bs,sn,sub,ab,col,dd,k0,k1,k2,k3,k5,lk,tl⟩:=w6 xc
 have hC:=I.kIn _ _ lk
 have T:=tl _ I.kIn
 obtain ⟨hp,g,d,t,os⟩:=s
 have k:∀ b o,hp.get? b = some o -> ((hp.push { cls:=.type "tuple",data:=.seq us.toArray }).push (xob C none hp.objs.size .none)).get? b = some o:=fun b o e=>Heap.get?_push_of_some _ (Heap.get?_push_of_some _ e)
 refine wpAny_call (Zs I.kIn xc hi (fun self=>PySem.W.Looks.of_pure (F.init.bind self)) hl ?_)
 have hget:((hp.push { cls:=.type "tuple",data:=.seq us.toArray }).push (xob C none hp.objs.size .none)).get? (hp.objs.size + 1) = some (xob C none hp.objs.size .none):=by heap_get
 refine codeAny_call_builtin F.init.plain F.initEntry (wpAny_check_init_subT F (T.keeps k) (k _ _ hC) hget rfl ?_)
 wp_walk
 refine ⟨rfl,h _ (hp.objs.size + 1) ((hp.push { cls:=.type "tuple",data:=.seq us.toArray }).push (xob C none hp.objs.size .none)).objs.size (Nat.le_succ _) (I.kept (t':=t) fun b o e=>?_) ?_⟩
 ·exact (Heap.get?_update_other _ _ (Nat.ne_of_gt (Nat.lt_succ_of_lt (Heap.lt_size e)))).trans (Heap.get?_push_of_some _ (k b o e))
 ·exact Heap.get?_update_self (Obj.mapFields fun x=>x.setIfInBounds 0 (Value.ref ((hp.push { cls:=.type "tuple",data:=.seq us.toArray }).push (xob C none hp.objs.size .none)).objs.size)) (Heap.get?_push_of_some _ hget) rfl
def XS (E:XK) (C:Addr) (t:TA):TS:=fun _ σ H=>t σ H fun vs H1=>vs.length <= sizeLine /\ E (.ref C) none H1
theorem yA {E:XK} {C:Addr} {cn:Str} {np cpos pos:Pos} {e:Expr} {es:List Expr} {t:TA} (hx:XE X E) (hc:X.calm = true) (xc:XC X.K C) (hi:PySem.W.findIn X.K (.ref C) "__init__" = some (some (.builtin "ValueError.__init__"))) (hg:Gl X cn) (hm:X.mg cn = some (.ref C)) (ha:PA X (e :: es) t)
  (hdb:(cn == ("__debug__" : Str)) = false:=by decide) (he:starEach (e :: es) X.env = (false,eval e X.env) :: starEach es X.env:=by rfl) (hpl:(backTo cpos (starEach es X.env)).any (·.1) = false:=by rfl) :
  PS X (.Raise (some (.Call (.Name cn np) (e :: es) [] cpos)) none pos) (XS E C t):=by
 intro pins s σ H D I h
 refine YL (K:=X.K) (I.ok.hd hc) (wpAny_Call_Name_kw (wK I hg hm ?_ hdb))
 refine PySem.W.callWith_K (h₀:=X.base) I.ok.mod.kin xc.kp (thn (ha cpos pins s σ H _ I h) fun us s1 ⟨vs,H1,I1,r,z,q⟩=>⟨I1.kIn,?_⟩) he hpl
 refine ZG (us:=[] ++ us) I1 xc.ok hi (by show us.length <= sizeLine; rw [<- r.length]; exact z) fun s2 x t hz I2 ob=>⟨x,C,t,none,rfl,I2.kIn,xc.ok,ob,?_⟩
 exact hx _ _ ⟨pins,σ,H1,x,C,t,none,.none,rfl,I2,ob,.inl rfl,I1.fpOk hz (I1.hok.fresh hz),fun T z=>(by cases z),q⟩
theorem Y2 {A:Around} {C:Addr} {us:List Value} {k:Nat} (r:Room (k + 1) A):Room k (A.under (.builtin "type.__call__" ⟨.ref C :: us,[]⟩)):=r.make C us []
def Xk (E:XK) (C:Addr) (sp:Sp) (t:TA):TS:=fun _ σ H=>t σ H fun vs H1=>vs.length <= sizeLine /\ ∀ x,H1 x = none -> sp (.ref x :: vs) (upd H1 x (XN x C none)) (fun v H2=>v = .non /\ ∃ dx,H2 x = some (XN x C dx) /\ E (.ref C) dx (del H2 x)) E0
theorem YF {E:XK} {C f:Addr} {fd:FuncData} {k:Nat} {ps:List Str} {sp:Sp} {cn:Str} {np cpos pos:Pos} {e:Expr} {es:List Expr} {t:TA} (hx:XE X E) (hc:X.calm = true) (xc:XC X.K C) (hi:PySem.W.findIn X.K (.ref C) "__init__" = some (some (.ref f))) (hfn:PySem.W.isFn X.K (.ref f) = true)
  (F:yk X.prog X.w X.K X.mg X.base CX0 k f fd ps sp) (hr:Room (k + 1) X.A) (hb:Binds X.K fd ps []) (hg:Gl X cn) (hm:X.mg cn = some (.ref C)) (ha:PA X (e :: es) t)
  (hdb:(cn == ("__debug__" : Str)) = false:=by decide) (he:starEach (e :: es) X.env = (false,eval e X.env) :: starEach es X.env:=by rfl) (hpl:(backTo cpos (starEach es X.env)).any (·.1) = false:=by rfl) :
  PS X (.Raise (some (.Call (.Name cn np) (e :: es) [] cpos)) none pos) (Xk E C sp t):=by
 intro pins s σ H D I h
 refine YL (K:=X.K) (I.ok.hd hc) (wpAny_Call_Name_kw (wK I hg hm ?_ hdb))
 refine PySem.W.callWith_K (h₀:=X.base) I.ok.mod.kin xc.kp (thn (ha cpos pins s σ H _ I h) fun us s1 ⟨vs,H1,I1,r,z,q⟩=>⟨I1.kIn,?_⟩) he hpl
 have hl:us.length <= sizeLine:=by rw [<- r.length]; exact z
 have ob:((s1.heap.push { cls:=.type "tuple",data:=.seq us.toArray }).push (xob C none s1.heap.objs.size .none)).get? (s1.heap.objs.size + 1) = some (xob C none s1.heap.objs.size .none):=by heap_get
 have hfr:H1 (s1.heap.objs.size + 1) = none:=I1.hok.fresh (Nat.le_succ _)
 have I2:Inv X pins σ (upd H1 (s1.heap.objs.size + 1) (XN (s1.heap.objs.size + 1) C none)) { s1 with heap:=(s1.heap.push { cls:=.type "tuple",data:=.seq us.toArray }).push (xob C none s1.heap.objs.size .none) } :=
  I1.laid (t':=s1.toks) (fun b o e=>Heap.get?_push_of_some _ (Heap.get?_push_of_some _ e)) (Nat.le_succ _) (Jr ob)
 have q1:=q _ hfr
 have r2:Vals (V.ref (s1.heap.objs.size + 1) :: vs) (Value.ref (s1.heap.objs.size + 1) :: us):=.cons rfl r
 have hlen:(Value.ref (s1.heap.objs.size + 1) :: us ++ ([]:List Value)).length = ps.length:=by
  rw [List.append_nil,<- r2.length]
  exact F.len _ _ _ _ q1
 have hb2:=hb { s1 with heap:=(s1.heap.push { cls:=.type "tuple",data:=.seq us.toArray }).push (xob C none s1.heap.objs.size .none) } (Value.ref (s1.heap.objs.size + 1) :: us) I2.kIn hlen
 rw [List.append_nil] at hb2
 have run:=F.run _ X.stack _ _ ⟨Value.ref (s1.heap.objs.size + 1) :: us,[]⟩ (Value.ref (s1.heap.objs.size + 1) :: us) _ _ E0 (Y2 (C:=C) (us:=us) hr) (I2.env0.make C us []) hb2 r2 q1
 have sz0:X.s₀.heap.objs.size <= s1.heap.objs.size + 1:=Nat.le_trans I1.sz (Nat.le_succ _)
 show wpAny (model X.prog X.w) X.A (call (.ref C) us) _ X.xe s1
 refine wpAny_call ?_
 refine Zs (h:=s1.heap) (g:=s1.gens) (d:=s1.drawn) (t:=s1.toks) (os:=s1.os) (rest:=us) I1.kIn xc.ok hi (fun self=>PySem.W.bind_fn I1.kIn self (beq_iff_eq.mp hfn)) hl (codeAny_mono run fun r s' hq=>?_)
 cases r with
 | error e=>exact False.elim hq
 | ok fl =>
  cases fl with
  | ret u =>
   obtain ⟨v,H',I3,rv,ev,dx,hx3,q3⟩:=I2.after hq
   subst ev
   refine ⟨rv,?_⟩
   obtain ⟨t,ob3⟩:=QP (I3.hok _ _ hx3)
   have I4:=Inv.untrack I3 hx3 sz0
   refine ⟨_,C,t,dx,rfl,I3.kIn,xc.ok,ob3,hx _ _ ⟨pins,σ,_,_,C,t,dx,.none,rfl,I4,ob3,.inl rfl,?_,fun T z=>(by cases z),q3⟩⟩
   exact I1.fpOk (Nat.le_succ _) Zz
  | next=>exact False.elim hq
  | brk=>exact False.elim hq
  | cont=>exact False.elim hq
end
end L3
namespace L3
open PySem PySem.Spec PyProof.Rows L2
def UR (X:Cx) (pins:List (Addr × Obj)) (σ:St) (E:XK) (e:Value) (s:Shared):Prop:=∃ (cx:Value) (kx:Bool) (H:Hp) (x C t:Addr) (dx:Option Addr) (tb:Value),e = .ref x /\ Inv X pins σ H s /\
 s.heap.get? x = some (xog C dx t tb cx kx) /\ Qi s.heap x tb /\ wy X pins H x /\ (∀ T,tb = .ref T -> wy X pins H T) /\ E (.ref C) dx H
abbrev TX:=St -> Hp -> VK -> XK -> Prop
def PEX (X:Cx) (e:Expr) (t:TX):Prop :=
 ∀ (pins:List (Addr × Obj)) (s:Shared) (σ:St) (H:Hp) (Q:VK) (E:XK),Inv X pins σ H s -> t σ H Q E -> wpAny (model X.prog X.w) X.A (eval e X.env) (EP X pins σ Q) (UR X pins σ E) s
section
variable {X:Cx}
variable {k:Nat} {f:Addr} {fd:FuncData} {ps:List Str} {sp:Sp} {dvs:List V} {ds:List Value} {x:Str} {p pos:Pos} {e:Expr} {es:List Expr} {t:TA}
theorem Wo (F:yk X.prog X.w X.K X.mg X.base (CXx X.prog X.w) k f fd ps sp) (hr:Room k X.A) (hg:Gl X x) (hm:X.mg x = some (.ref f)) (hk:PySem.W.keepIn X.K (.ref f) = true) (hb:Binds X.K fd ps ds) (hd:Vals dvs ds)
  (ha:PA X.nox (e :: es) t) (hdb:(x == ("__debug__" : Str)) = false:=by decide) (he:starEach (e :: es) X.env = (false,eval e X.env) :: starEach es X.env:=by rfl) (hpl:(backTo pos (starEach es X.env)).any (·.1) = false:=by rfl) :
  PEX X (.Call (.Name x p) (e :: es) [] pos) (fun σ H Q E=>t σ H fun vs H1=>sp (vs ++ dvs) H1 Q E):=by
 intro pins s σ H Q E I h
 refine wpAny_Call_Name_kw (wK I hg hm ?_ hdb)
 refine PySem.W.callWith_K (h₀:=X.base) I.ok.mod.kin hk (wpAny_noRaise (thn (ha pos pins s σ H _ (I.wish _) h) fun us s1 ⟨vs,H1,I1,r,q⟩=>⟨I1.kIn,?_⟩)) he hpl
 have I1':Inv X pins σ H1 s1:=I1.unwish
 have r2:Vals (vs ++ dvs) (us ++ ds):=r.append hd
 have hl:(us ++ ds).length = ps.length:=by rw [<- r2.length]; exact F.len _ _ _ _ q
 refine wpAny_call (codeAny_mono (F.run X.A X.stack s1 H1 ⟨us,[]⟩ (us ++ ds) (vs ++ dvs) Q E hr I1'.env0 (hb s1 us I1'.kIn hl) r2 q) fun r s' hq=>?_)
 cases r with
 | error e =>
  obtain ⟨x,C,t,dx,tb,H',rfl,os,bare,un,hok,ob,tr,hn,hsz,hT,q⟩:=hq
  exact ⟨.none,false,H',x,C,t,dx,tb,rfl,I1'.call' os un hok bare (fun b z=>absurd z (by simp)),ob,tr,I1'.fpOk hsz hn,fun T e=>I1'.fpOk (hT T e).2 (hT T e).1,q⟩
 | ok fl =>
  cases fl with
  | ret u=>exact I1'.after hq
  | next=>exact False.elim hq
  | brk=>exact False.elim hq
  | cont=>exact False.elim hq
end
abbrev Cx.suite (X:Cx) (e:Value):Cx:={ X with A:=X.A.mark (some e),calm:=false,xe:=fun _ _=>False }
theorem Inv.suite {X:Cx} {pins:List (Addr × Obj)} {σ:St} {H:Hp} {s:Shared} (I:Inv X pins σ H s) (e:Value):Inv (Cx.suite X e) pins σ H s :=
 ⟨⟨I.ok.mod,I.ok.kind,I.ok.glob,I.ok.blt,I.ok.above,I.ok.inj,I.ok.has,I.ok.cab,fun z=>absurd z (by simp [Cx.suite]),I.ok.frames,I.ok.stk,I.ok.exf,I.ok.bs,I.ok.bsz,I.ok.noex,I.ok.exfs,I.ok.funs,I.ok.frf⟩,
  I.os,I.bare,I.base,I.loc,I.cell,I.free,I.freeC,I.pin,I.hok,I.len⟩
theorem Inv.unsuite {X:Cx} {pins:List (Addr × Obj)} {σ σ':St} {H H':Hp} {s s':Shared} {e:Value} (J:Inv X pins σ' H' s') (I:Inv (Cx.suite X e) pins σ H s):Inv X pins σ H s :=
 ⟨J.ok,I.os,I.bare,I.base,I.loc,I.cell,I.free,I.freeC,I.pin,I.hok,I.len⟩
structure Hd where
 D:Addr
 i:Nat
 ts:TS
def tHs (K:PySem.W.Frag) (C:Addr) (dx:Option Addr) (x:Addr) (Dd:wl) (σ:St) (H:Hp):List Hd -> Prop
 | []=>False
 | h :: r=>∃ b,PySem.W.subIn K (.ref C) (.ref h.D) = some b /\ if b = true then h.ts { Dd with nx:=fun σ' H'=>Dd.nx (σ'.set h.i none) H',bk:=fun σ' H'=>Dd.bk (σ'.set h.i none) H',ct:=fun σ' H'=>Dd.ct (σ'.set h.i none) H' } (σ.set h.i (some (.ref x))) H else tHs K C dx x Dd σ H r
section
variable {X:Cx} {pins:List (Addr × Obj)} {σ:St} {H:Hp} {s:Shared}
end
theorem QH {M:Model} {A:Around} {E:Value -> Shared -> Prop} {K:PySem.W.Frag} {s:Shared} {x C D t:Addr} {dx:Option Addr} {tb cx:Value} {kx:Bool} {b:Bool} {Q:Bool -> Shared -> Prop} (X:K.In s.heap) (hD:ZA K D = true) (he:s.heap.get? x = some (xog C dx t tb cx kx))
  (hs:PySem.W.subIn K (.ref C) (.ref D) = some b) (h:Q b s):wpAny M A (excMatches (.ref x) (.ref D)) Q E s:=by
 obtain ⟨bm,N,nm,qn,bs,sn,sub,ab,col,dd,k0,k1,k2,k3,k5,lk,tl⟩:=w6 hD
 have hDo:=X _ _ lk
 have T:=tl _ X
 have hcB:(Value.ref D :: bm).contains (.type "BaseException") = true:=by rw [List.contains_cons,T.hasType (show bmV.contains (.type "BaseException") = true by decide +kernel),Bool.or_true]
 have L:=PySem.W.looks_subIn (M:=M) X hs
 have f:=tc_notTuple
 obtain ⟨hp,g,d,tk,os⟩:=s
 unfold excMatches
 repeat (first | with_reducible refine wpAny_loadPart_at he ?_ | with_reducible refine wpAny_loadPart_at hDo ?_ | (with_reducible refine wpAny_isSubtype_exc hDo ?_; rw [hcB]) | (with_reducible refine PySem.W.Looks.at L ?_) | wp_step)
 cases b with
 | false=>exact wpAny_pure (wpAny_pure (wpAny_pure h))
 | true=>exact wpAny_pure (wpAny_pure (wpAny_pure h))
section
variable {X:Cx}
def tbL:Value -> List Addr
 | .ref b=>[b]
 | _=>[]
def K6 (K:PySem.W.Frag) (i:Nat) (te:TX) (hds:List Hd):TS:=fun D σ H=>te σ H (fun v H1=>D.nx (σ.set i (some v)) H1) fun cls dx H1=>∃ C,cls = .ref C /\ ∀ x,H1 x = none -> tHs K C dx x D σ (upd H1 x (XT x C dx)) hds
end
end L3
namespace L3
open PySem PySem.Spec PyProof.Rows L2
section
variable {prog:Program} {w:World} {A:Around} {E:Value -> Shared -> Prop} {s:Shared} {K:PySem.W.Frag} {x C:Addr} {ox:Obj} {od:Option Obj} {name:Str} {tk:Tok}
theorem QB {fill expr:Bool} {Q:Value -> Shared -> Prop} (X:K.In s.heap) (xc:XC K C) (J:PySem.W.InstAt s.heap x ox C od)
  (h:wpAny (model prog w) A.in1 (Builtin.«object.__getattribute__» ⟨[.ref x,.str name tk],[]⟩) (fun fin s'=>match fin with | .done (.ret v)=>wpAny (model prog w) A (handedOut v) Q E s' | _=>False) (fun _ _=>False) s) :
  wpAny (model prog w) A (getAttrBy (.ref x) (.str name tk) fill expr) Q E s:=by
 obtain ⟨bm,N,nm,qn,bs,sn,sub,ab,col,dd,k0,k1,k2,k3,k5,lk,tl⟩:=w6 xc.ok
 have hC:=X _ _ lk
 have T:=tl _ X
 have FB:=PySem.F.attrBase_ValueError
 have L0:=J.type (M:=model prog w)
 have L1:=PySem.W.looks_findIn (M:=model prog w) X xc.ga
 have L2:=PySem.W.looks_findIn (M:=model prog w) X xc.gt
 have hcB:(Value.ref C :: bm).contains (.type "BaseException") = true:=by rw [List.contains_cons,T.hasType (show bmV.contains (.type "BaseException") = true by decide +kernel),Bool.or_true]
 have isB:PySem.W.Looks (model prog w) s.heap (isInstance (.ref x) (.type "BaseException")) true:=L0.andThen (by have:=j0 (M:=model prog w) hC (.type "BaseException"); rw [hcB] at this; exact this)
 have f3:=FB.ga.bind (.ref x)
 have hx0:(expr && onTheHeap (Value.builtin "BaseException.__getattribute__")) = false:=by cases expr <;> rfl
 have hx2:(Value.builtin "BaseException.__getattribute__" == Value.builtin "object.__getattribute__") = false:=by decide +kernel
 have hx1:(onTheHeap (Value.ref C) && Value.builtin "BaseException.__getattribute__" == Value.builtin "object.__getattribute__") = false:=by rw [hx2]; rfl
 unfold getAttrBy
 refine wpAny_holding (wpAny_bind (L0.here (wpAny_bind (L1.here ?_))))
 show wpAny _ _ (if (onTheHeap (Value.ref C) && Value.builtin "BaseException.__getattribute__" == Value.builtin "object.__getattribute__") = true then _ else _) _ _ _
 rw [hx1,if_neg Bool.false_ne_true]
 unfold getAttrByItsOwn hookBefore
 rw [if_pos (by rfl)]
 refine wpAny_bind (L2.here (wpAny_bind (wpAny_attempt (wpAny_holding ?_))))
 unfold callGetattribute
 rw [hx0,if_neg Bool.false_ne_true]
 unfold boundAndCalled
 rw [f3]
 refine wpAny_bind (wpAny_pure ?_)
 show wpAny (model prog w) A (call (.builtin "BaseException.__getattribute__") [.ref x,.str name tk]) _ _ s
 refine wpAny_call (codeAny_call_builtin FB.ga.plain PySem.F.entry_bexc_ga (@PySem.W.check_slot (model prog w) _ _ s "BaseException.__getattribute__" "BaseException" "__getattribute__" (.ref x) [.str name tk] [] _ (by decide +kernel) (by decide +kernel) isB (PySem.F.args_bexc_ga _ _) ?_))
 refine wpAny_mono h (fun fin s' z=>?_) fun _ _ z=>z.elim
 rcases fin with (_ | _ | _ | v) | _ <;> first | exact z | exact z.elim
theorem VF {Q:Option Value -> Shared -> Prop} (X:K.In s.heap) (xc:XC K C) (J:PySem.W.InstAt s.heap x ox C od) (ha:PySem.W.findIn K (.ref C) "__class__" = some (some (.builtin "object.__class__")))
  (hn:PySem.W.specialIn K (.builtin "object.__class__") "__get__" = some (some (.builtin "getset_descriptor.__get__"))) (htk:PySem.W.takesIn K (.builtin "object.__class__") = some true) (hm:PySem.W.mroIn K C (.type "object") = some true)
  (h:Q (some (.ref C)) { s with toks:=s.toks + 1 }):wpAny (model prog w) A (getAttr? (.ref x) "__class__") Q E s:=by
 have hf:PySem.W.findObj K C od "__class__" = some (.bind (.builtin "getset_descriptor.__get__") (.builtin "object.__class__")):=by
  obtain ⟨bm,N,nm,qn,bs,sn,sub,ab,col,dd,k0,k1,k2,k3,k5,lk,tl⟩:=w6 xc.ok
  have hcl:(PySem.W.clsIn K C).isSome = true:=by unfold PySem.W.clsIn; rw [lk]; rfl
  obtain ⟨cd,hc⟩:=Option.isSome_iff_exists.mp hcl
  unfold PySem.W.findObj
  rw [hc,Option.bind_some,ha,Option.bind_some]
  simp [hn,htk]
 unfold getAttr? getAttrBy?
 refine wpAny_bind (wpAny_mkText (wpAny_bind (wpAny_attempt (QB (s:={ s with toks:=s.toks + 1 }) X xc J ?_))))
 have L0:=J.type (M:=model prog w)
 have L1:=PySem.W.looks_find (M:=model prog w) X J hf
 unfold Builtin.«object.__getattribute__»
 refine wpAny_bind (wpAny_pure (wpAny_bind (wpAny_pure (wpAny_bind (L0.here (s:={ s with toks:=s.toks + 1 }) (wpAny_bind (L1.here (s:={ s with toks:=s.toks + 1 }) ?_)))))))
 show wpAny _ _ (holding [.builtin "object.__class__"] (call (.builtin "getset_descriptor.__get__") [.builtin "object.__class__",.ref x,.ref C]) >>= ret) _ _ _
 refine wpAny_bind (wpAny_holding (wpAny_call (PySem.W.class_get (s:={ s with toks:=s.toks + 1 }) X J hm ?_)))
 refine wpAny_pure ?_
 show wpAny _ _ (handedOut (.ref C)) _ _ _
 rw [PySem.W.handedOut_of rfl]
 exact wpAny_pure (wpAny_pure h)
end
structure XI (K:PySem.W.Frag) (C:Addr):Prop extends XC K C where
 ca:PySem.W.findIn K (.ref C) "__class__" = some (some (.builtin "object.__class__"))
 cg:PySem.W.specialIn K (.builtin "object.__class__") "__get__" = some (some (.builtin "getset_descriptor.__get__"))
 ct:PySem.W.takesIn K (.builtin "object.__class__") = some true
 mo:PySem.W.mroIn K C (.type "object") = some true
theorem QJ {h:Heap} {x C t:Addr} {tb c:Value} {k:Bool} (ob:h.get? x = some (xog C none t tb c k)):PySem.W.InstAt h x (xog C none t tb c k) C none:=⟨ob,rfl,rfl,trivial⟩
theorem Kv {K:PySem.W.Frag} {x C:Addr} {dx:Option Addr} (xi:XI K C):PySem.W.KitX K (.ref x) (.ref C) (fun h=>(∃ t tb c k,h.get? x = some (xog C dx t tb c k)) /\ ∀ d,dx = some d -> ∃ o,h.get? d = some o) where
 ty:=fun M h X ⟨⟨t,tb,c,k',ob⟩,_⟩=>(PySem.W.Looks.ld ob).andThen .now
 it:=fun M h X _=>by
  obtain ⟨bm,N,nm,qn,bs,sn,sub,ab,col,dd,k0,k1,k2,k3,k5,lk,tl⟩:=w6 xi.ok
  intro A' Q' E' s' k q
  unfold isType loadHead
  exact wpAny_bind (wpAny_loadPart (k _ _ (X _ _ lk)) (wpAny_pure q))
 ne:=fun h tp dd its n sl X htp=>by
  obtain ⟨bm,N,nm,qn,bs,sn,sub,ab,col,dd,k0,k1,k2,k3,k5,lk,tl⟩:=w6 xi.ok
  refine Bool.eq_false_iff.mpr fun q=>?_
  have e:C = tp:=Value.ref.inj (beq_iff_eq.mp q)
  subst e
  have z:=congrArg (fun o:Option Obj=>o.map fun o=>match o.data with | .cls _=>true | _=>false) ((X _ _ lk).symm.trans htp)
  exact absurd (show true = false from Option.some.inj z) (by decide)
 ca:=fun {prog w A E Q s} X ⟨⟨t,tb,c,k',ob⟩,hd⟩ k=>by
  cases dx with
  | none=>exact VF X xi.toXC (QJ ob) xi.ca xi.cg xi.ct xi.mo k
  | some d =>
   obtain ⟨o,e⟩:=hd d rfl
   exact VF (od:=some o) X xi.toXC ⟨ob,rfl,rfl,e⟩ xi.ca xi.cg xi.ct xi.mo k
section
variable {X:Cx}
def XAt (H:Hp) (x C:Addr) (dx:Option Addr) (fs:List (Str × V)):Prop:=H x = some (XT x C dx) /\ ((dx = none /\ fs = []) \/ ∃ d,dx = some d /\ H d = some (.xd fs))
theorem X6:wH X (.builtin "isinstance") (fun xs H Q=>∃ x C dx fs c u b,xs = [.ref x,c] /\ cV c = some u /\ XAt H x C dx fs /\ XI X.K C /\ PySem.W.kitOne X.K (.ref C) u = some b /\ Q (.bl b) H):=by
 intro pins s σ H xs us Q I r h
 obtain ⟨x,C,dx,fs,c,u,b,rfl,hc,⟨hx,hd⟩,xi,e,q⟩:=h
 obtain ⟨v,w',rfl,rx,rc⟩:=Xw r
 cases rx
 have:w' = u:=by
  cases c with
  | ty n=>cases hc; exact rc
  | ref a=>cases hc; exact rc
  | _=>cases hc
 subst this
 refine PySem.W.kia_one (Kv (dx:=dx) xi) I.kIn ⟨JG (I.hok _ _ hx),fun d z=>?_⟩ e (fun z=>nomatch z) fun tk=>⟨.bl b,H,I.tok tk,rfl,q⟩
 rcases hd with ⟨z',_⟩ | ⟨d',z',hd'⟩
 ·rw [z'] at z; cases z
 ·rw [z'] at z; cases z
  obtain ⟨mA,⟨o,es,ep,ho,_⟩,_⟩:=I.hok _ _ hd'
  exact ⟨o,ho⟩
def Km (K:PySem.W.Frag) (ta:TE) (f:Str):TE:=fun σ H Q=>ta σ H fun y H1=>∃ x C dx fs v,y = .ref x /\ XAt H1 x C dx fs /\ XC K C /\ PySem.W.hasDictIn K C = true /\ NoAttr K C f /\ fs.lookup f = some v /\ Q v H1
end
end L3
namespace L3
open PySem PySem.Spec PyProof.Rows L2
structure Df (P:Program) (w:World) (K:PySem.W.Frag) (mg:Str -> Option Value) (base:Heap) (CX:CXT) (k:Nat) (nm:Str) (ps:List Str) (ds:List Value) (sp:Sp):Prop where
 ex:∃ f fd,yk P w K mg base CX k f fd ps sp /\ mg nm = some (.ref f) /\ PySem.W.keepIn K (.ref f) = true /\ Binds K fd ps ds
structure Bt (mg:Str -> Option Value):Prop where
 len:mg "len" = none
 range:mg "range" = none
 isi:mg "isinstance" = none
 str:mg "str" = none
 int:mg "int" = none
 tuple:mg "tuple" = none
 list:mg "list" = none
 bool:mg "bool" = none
 enum:mg "enumerate" = none
 all:mg "all" = none
 verr:mg "ValueError" = none
 max:mg "max" = none
 rev:mg "reversed" = none
 zip:mg "zip" = none
 sum:mg "sum" = none
 sorted:mg "sorted" = none
section
variable {X:Cx} {CX:CXT} {k:Nat} {ps:List Str} {sp:Sp} {ds:List Value} {dvs:List V} {E:XK} {x:Str} {p pos:Pos} {e:Expr} {es:List Expr} {t:TA}
theorem cl0 {j:Nat} (D:Df X.prog X.w X.K X.mg X.base CX0 k x ps ds sp) (hr:Room j X.A) (hd:Vals dvs ds) (hg:Gl X x) (ha:PA X (e :: es) t) (hdb:(x == ("__debug__" : Str)) = false:=by decide) (he:starEach (e :: es) X.env = (false,eval e X.env) :: starEach es X.env:=by rfl)
  (hpl:(backTo pos (starEach es X.env)).any (·.1) = false:=by rfl) (hj:k <= j:=by decide):PE X (.Call (.Name x p) (e :: es) [] pos) (u8 sp dvs E0 t):=by
 obtain ⟨f,fd,F,hm,hk,hb⟩:=D.ex
 exact Yq F (hr.mono hj) hg hm hk hb hd j1 ha hdb he hpl
theorem clX {j:Nat} (D:Df X.prog X.w X.K X.mg X.base (CXx X.prog X.w) k x ps ds sp) (hr:Room j X.A) (hd:Vals dvs ds) (hg:Gl X x) (ha:PA X.nox (e :: es) t) (hdb:(x == ("__debug__" : Str)) = false:=by decide) (he:starEach (e :: es) X.env = (false,eval e X.env) :: starEach es X.env:=by rfl)
  (hpl:(backTo pos (starEach es X.env)).any (·.1) = false:=by rfl) (hj:k <= j:=by decide):PEX X (.Call (.Name x p) (e :: es) [] pos) (fun σ H Q E=>t σ H fun vs H1=>sp (vs ++ dvs) H1 Q E):=by
 obtain ⟨f,fd,F,hm,hk,hb⟩:=D.ex
 exact Wo F (hr.mono hj) hg hm hk hb hd ha hdb he hpl
theorem clP {j:Nat} (hx:XE X E) (D:Df X.prog X.w X.K X.mg X.base (CXx X.prog X.w) k x ps ds sp) (hr:Room j X.A) (hd:Vals dvs ds) (hg:Gl X x) (ha:PA X (e :: es) t) (hdb:(x == ("__debug__" : Str)) = false:=by decide) (he:starEach (e :: es) X.env = (false,eval e X.env) :: starEach es X.env:=by rfl)
  (hpl:(backTo pos (starEach es X.env)).any (·.1) = false:=by rfl) (hj:k <= j:=by decide):PE X (.Call (.Name x p) (e :: es) [] pos) (u8 sp dvs E t):=by
 obtain ⟨f,fd,F,hm,hk,hb⟩:=D.ex
 exact Yq F (hr.mono hj) hg hm hk hb hd (Zk hx) ha hdb he hpl
end
def TyX (K:PySem.W.Frag) (H:Hp) (x:V) (t:Value):Prop:=kJ K H x t \/ (∃ a C dx fs,x = .ref a /\ t = .ref C /\ XAt H a C dx fs /\ XI K C) \/ (∃ a xs,x = .ref a /\ t = .type "list" /\ SqL K H a xs) \/ ∃ a xs,x = .ref a /\ t = .type "tuple" /\ SqT K H a xs
def Kl (K:PySem.W.Frag):List V -> Hp -> VK -> Prop:=fun xs H Q=>∃ x c u t b,xs = [x,c] /\ cV c = some u /\ TyX K H x t /\ PySem.W.kitOne K t u = some b /\ Q (.bl b) H
theorem J0 {X:Cx}:wH X (.builtin "isinstance") (Kl X.K):=by
 intro pins s σ H xs us Q I r h
 obtain ⟨x,c,u,t,b,rfl,hc,ty,e,q⟩:=h
 rcases ty with ty | ⟨a,C,dx,fs,rfl,rfl,ha,xi⟩ | ⟨a,ys,rfl,rfl,hq⟩ | ⟨a,ys,rfl,rfl,hq⟩
 ·exact W2 pins s σ H _ us Q I r ⟨x,c,u,t,b,rfl,hc,ty,e,q⟩
 ·exact X6 pins s σ H _ us Q I r ⟨a,C,dx,fs,c,u,b,rfl,hc,ha,xi,e,q⟩
 all_goals
  obtain ⟨v,w',rfl,rx,rc⟩:=Xw r
  have:w' = u:=by
   cases c with
   | ty n=>cases hc; exact rc
   | ref a=>cases hc; exact rc
   | _=>cases hc
  subst this
  cases rx
 ·obtain ⟨its,_,p,_⟩:=I.list hq
  obtain ⟨o,h1,h2,_⟩:=p.isList
  exact PySem.W.kia_one PySem.W.kitx_list I.kIn ⟨o,h1,h2⟩ e (fun z=>nomatch z) fun tk=>⟨.bl b,H,I.tok tk,rfl,q⟩
 ·obtain ⟨its,_,p,_⟩:=I.tuple hq
  obtain ⟨o,h1,h2,_⟩:=p
  exact PySem.W.kia_one PySem.W.kitx_tuple I.kIn ⟨o,h1,h2⟩ e (fun z=>nomatch z) fun tk=>⟨.bl b,H,I.tok tk,rfl,q⟩
theorem xK {X:Cx} {e:Expr} {te:TE} {c:Str} {n:String} {p q pos:Pos} (h1:Gl X "isinstance") (h2:X.mg "isinstance" = none) (he:PE X e te) (hg:Gl X c) (hm:X.mg c = none) (hv:bootBuiltins c = some (.type n)) (hn:c ≠ "__name__":=by decide) (hd:(c == ("__debug__" : Str)) = false:=by decide)
  (hs1:starEach [e,.Name c q] X.env = (false,eval e X.env) :: starEach [.Name c q] X.env:=by rfl) (hs3:starEach [.Name c q] X.env = (false,eval (.Name c q) X.env) :: starEach [] X.env:=by rfl) (hs2:(backTo pos (starEach [.Name c q] X.env)).any (·.1) = false:=by rfl):PE X (.Call (.Name "isinstance" p) [e,.Name c q] [] pos) (tCB (Kl X.K) (zV te (zV (tC (.ty n)) wB))) :=
 zn J0 h1 h2 boot_isinstance (za he (za (U8 hg hm hv rfl hn hd) zc hs3) hs1) (he:=hs1) (hpl:=hs2)
theorem Jw {a:Addr}:cV (.ref a) = some (.ref a):=rfl
theorem J5 {n:String}:cV (.ty n) = some (.type n):=rfl
theorem zak {P w K mg base N q sc f cd A o s H}:(cxH P w K mg base N q sc f cd A o s H).K = K:=rfl
def Xh:V -> List V -> Hp -> VK -> Prop:=fun x xs H Q=>∃ z y,x = .str z /\ xs = [.str y] /\ Q (.int (Txt.count z y)) H
theorem Xb {X:Cx}:MtR X "str.count" Xh:=Wz
def W0:V -> List V -> Hp -> VK -> Prop:=fun x xs H Q=>∃ z y,x = .str z /\ xs = [.str y] /\ Q (.int (Txt.find z y)) H
theorem VC {X:Cx}:MtR X "str.find" W0:=UZ
theorem YT (l:List Nat) (c:Nat):Txt.count (tx l) (tx [c]) = (l.count c:Int):=by
 have h:∀ l:List Nat,cnt c l = (l.count c:Int):=fun l=>by
  induction l with
  | nil=>rfl
  | cons n r ih =>
   rw [cnt_cons,ih,List.count_cons]
   by_cases e:n = c
   ·subst e; simp; omega
   ·have:(n == c) = false:=by simpa using e
    simp [e,this]
 exact (PyProof.Rows.count_is (tx l) c).trans (h l)
theorem lt1 {a b:Nat}:([a]:List Nat) < [b] ↔ a < b:=by rw [List.cons_lt_cons_iff]; exact ⟨fun h=>h.elim id fun ⟨_,q⟩=>absurd q (List.not_lt_nil _),.inl⟩
theorem YX {l:List Nat} {k v:Nat} (h:l[k]? = some v):(v :: (l.take k ++ l.drop (k + 1))).Perm l:=by
 obtain ⟨hk,e⟩:=List.getElem?_eq_some_iff.mp h
 have e2:l.take k ++ (v :: l.drop (k + 1)) = l:=by
  rw [<- e,<- List.drop_eq_getElem_cons hk,List.take_append_drop]
 exact (List.perm_middle.symm.trans (by rw [e2]))
def QW (K:PySem.W.Frag):List V -> Hp -> VK -> Prop:=fun xs H Q=>∃ x n,xs = [x] /\ Ku K x H n /\ Q (.int n) H
theorem z9 {X:Cx}:wH X (.builtin "len") (QW X.K):=WD
def ForR (lo:Int) (n:Nat) (g:TG) (tb:TS) (D:wl) (σ:St) (H:Hp):Prop:=∃ W:Nat -> Nat -> St -> Hp -> Prop,(∃ m,W 0 m σ H) /\ ∀ i m σ H,W i m σ H ->
 ((Itr lo n).stop i H /\ D.nx σ H) \/ ((Itr lo n).go i H /\ ∃ N:St -> Hp -> Prop,(∀ σ' H',N σ' H' -> ∃ m',m' < m /\ W (i + 1) m' σ' H') /\ ∀ x H',(Itr lo n).yld i H x H' -> g x σ H' fun σ2 H2=>tb { D with nx:=N,ct:=N,bk:=D.nx } σ2 H2)
theorem Ks {ta:TA} {g:TG} {tb:TS} {D:wl} {σ:St} {H:Hp}:W8 (VZ ta) g tb D σ H = ta σ H fun vs H1=>∃ j:Int,vs = [.int j] /\ -(2 ^ 62) <= j /\ j < 2 ^ 62 /\ ForR 0 j.toNat g tb D σ H1:=rfl
theorem Kq {ta:TA} {g:TG} {tb:TS} {D:wl} {σ:St} {H:Hp}:W8 (UE ta) g tb D σ H = ta σ H fun vs H1=>∃ i j:Int,vs = [.int i,.int j] /\ (-(2 ^ 62) <= i /\ i < 2 ^ 62 /\ -(2 ^ 62) <= j /\ j < 2 ^ 62) /\ ForR i (j - i).toNat g tb D σ H1:=rfl
theorem ForR.by {lo:Int} {n:Nat} {g:TG} {tb:TS} {D:wl} {σ:St} {H:Hp} (Pv:Nat -> St -> Hp -> Prop) (h0:Pv 0 σ H)
  (hs:∀ i σ H,i < n -> Pv i σ H -> g (.int (lo + i)) σ H fun σ2 H2=>tb { D with nx:=Pv (i + 1),ct:=Pv (i + 1),bk:=D.nx } σ2 H2) (hd:∀ σ H,Pv n σ H -> D.nx σ H):ForR lo n g tb D σ H:=Yi Pv h0 hs hd
def ForL (K:PySem.W.Frag) (a:Addr) (g:TG) (tb:TS) (D:wl) (σ:St) (H:Hp):Prop:=∃ W:Nat -> Nat -> St -> Hp -> Prop,(∃ m,W 0 m σ H) /\ ∀ i m σ H,W i m σ H ->
 ((Itl K a).stop i H /\ D.nx σ H) \/ ((Itl K a).go i H /\ ∃ N:St -> Hp -> Prop,(∀ σ' H',N σ' H' -> ∃ m',m' < m /\ W (i + 1) m' σ' H') /\ ∀ x H',(Itl K a).yld i H x H' -> g x σ H' fun σ2 H2=>tb { D with nx:=N,ct:=N,bk:=D.nx } σ2 H2)
theorem zaw {K:PySem.W.Frag} {tl:TE} {g:TG} {tb:TS} {D:wl} {σ:St} {H:Hp}:W8 (VV K tl) g tb D σ H = tl σ H fun x H1=>∃ a,x = .ref a /\ (∃ xs,SqL K H1 a xs) /\ ForL K a g tb D σ H1:=rfl
def ForS (x:Str) (g:TG) (tb:TS) (D:wl) (σ:St) (H:Hp):Prop:=∃ W:Nat -> Nat -> St -> Hp -> Prop,(∃ m,W 0 m σ H) /\ ∀ i m σ H,W i m σ H ->
 ((Its x).stop i H /\ D.nx σ H) \/ ((Its x).go i H /\ ∃ N:St -> Hp -> Prop,(∀ σ' H',N σ' H' -> ∃ m',m' < m /\ W (i + 1) m' σ' H') /\ ∀ v H',(Its x).yld i H v H' -> g v σ H' fun σ2 H2=>tb { D with nx:=N,ct:=N,bk:=D.nx } σ2 H2)
theorem zah {tl:TE} {g:TG} {tb:TS} {D:wl} {σ:St} {H:Hp}:W8 (JY tl) g tb D σ H = tl σ H fun v H1=>∃ x,v = .str x /\ ForS x g tb D σ H1:=rfl
theorem ForS.by {l:List Nat} {g:TG} {tb:TS} {D:wl} {σ:St} {H:Hp} (Pv:Nat -> St -> Hp -> Prop) (h0:Pv 0 σ H)
  (hs:∀ i c σ H,l[i]? = some c -> Pv i σ H -> g (.str (tx [c])) σ H fun σ2 H2=>tb { D with nx:=Pv (i + 1),ct:=Pv (i + 1),bk:=D.nx } σ2 H2) (hd:∀ σ H,Pv l.length σ H -> D.nx σ H):ForS (tx l) g tb D σ H:=UJ Pv h0 hs hd
def K3 (x:Str) (g:TG) (tb:TS) (D:wl) (σ:St) (H:Hp):Prop:=∃ W:Nat -> Nat -> St -> Hp -> Prop,(∃ m,W 0 m σ H) /\ ∀ i m σ H,W i m σ H ->
 ((Ite x).stop i H /\ D.nx σ H) \/ ((Ite x).go i H /\ ∃ N:St -> Hp -> Prop,(∀ σ' H',N σ' H' -> ∃ m',m' < m /\ W (i + 1) m' σ' H') /\ ∀ v H',(Ite x).yld i H v H' -> g v σ H' fun σ2 H2=>tb { D with nx:=N,ct:=N,bk:=D.nx } σ2 H2)
theorem zaC {ta:TA} {g:TG} {tb:TS} {D:wl} {σ:St} {H:Hp}:W8 (JM ta) g tb D σ H = ta σ H fun vs H1=>∃ x,vs = [.str x] /\ K3 x g tb D σ H1:=rfl
theorem YJ {α:Type} (l:List α) {k:Int} (h:0 <= k):cut l none (some k) = l.take k.toNat:=by
 obtain ⟨n,rfl⟩:=Int.eq_ofNat_of_zero_le h
 unfold cut
 rw [HT.sIx_none,HT.sIx_nat,List.drop_zero,Nat.sub_zero]
 by_cases q:n <= l.length
 ·rw [Nat.min_eq_left q]; rfl
 ·rw [Nat.min_eq_right (by omega),List.take_length,List.take_of_length_le (by simp; omega)]
theorem jo {α:Type} (l:List α) {k:Int} (h:0 <= k):cut l (some k) none = l.drop k.toNat:=by
 obtain ⟨n,rfl⟩:=Int.eq_ofNat_of_zero_le h
 unfold cut
 rw [HT.sIx_none,HT.sIx_nat]
 by_cases q:n <= l.length
 ·rw [Nat.min_eq_left q]
  rw [List.take_of_length_le (by rw [List.length_drop] <;> omega)]
  rfl
 ·rw [Nat.min_eq_right (by omega),List.drop_length,List.drop_of_length_le (by simp; omega)]
  simp
theorem um {α:Type} {xs:List α} {i:Int} (h0:0 <= i) (h1:i < xs.length):∃ v,atI xs i = some v /\ xs[i.toNat]? = some v:=by
 obtain ⟨n,rfl⟩:=Int.eq_ofNat_of_zero_le h0
 have hn:n < xs.length:=by omega
 exact ⟨xs[n],qS (List.getElem?_eq_getElem hn),List.getElem?_eq_getElem hn⟩
def alpha:List Nat:=[97,98,99,100,101,102,103,104,105,106,107,108,109,110,111,112,113,114,115,116,117,118,119,120,121,122]
theorem Xz:(("abcdefghijklmnopqrstuvwxyz" : Str)) = tx alpha:=by decide +kernel
theorem yE:(sizeLine:Nat) = 16777216:=sizeLine_eq
theorem cxK {CX P w K mg base N q sc f cd A o s H E}:(vQ CX P w K mg base N q sc f cd A o s H E).K = K:=rfl
theorem cxP {CX P w K mg base N q sc f cd A o s H E}:(vQ CX P w K mg base N q sc f cd A o s H E).prog = P:=rfl
theorem cxW {CX P w K mg base N q sc f cd A o s H E}:(vQ CX P w K mg base N q sc f cd A o s H E).w = w:=rfl
theorem JQ {a b:Int}:UI (.int a) (.int b) = true:=rfl
theorem Ke {a b:Str}:UI (.str a) (.str b) = true:=rfl
theorem JT {a b:Bool}:UI (.bl a) (.bl b) = true:=rfl
theorem Kx {b:Str}:UI .non (.str b) = true:=rfl
theorem J7 {b:Str}:UI (.str b) .non = true:=rfl
theorem zg {H:Hp} {p:Addr} {o:HO} (h:H p = none):Same H (upd H p o):=fun b u e=>by
 rw [zp (zE e h)]
 exact e
theorem z6 {α:Type} {l:List α} {i:Nat} {c:α} (h:l[i]? = some c):l.take (i + 1) = l.take i ++ [c]:=by
 rw [List.take_add_one,h]; rfl
end L3
namespace L3
open PySem PySem.Spec PyProof.Rows L2
structure FunD (K:PySem.W.Frag) (x qual:Str) (st:Stmt) (dV:Value) (f:Addr) (fd:FuncData):Prop where
 ex:∃ (oc:Value) (od:Option Addr) (kV doc pm:Value) (an:Option Addr) (cdv ct:Value) (osl:Array (Option Value)),
  fd = PySem.W.fnOf x qual (zr st) (zo st) (zb st) dV kV doc pm an cdv ct /\ K.lookup f = some ⟨oc,od,.func fd,osl⟩ /\ PySem.W.codeIn K cdv qual = true
theorem FunD.okX {P:Program} {w:World} {K:PySem.W.Frag} {mg:Str -> Option Value} {base:Heap} {x qual:Str} {st:Stmt} {dV:Value} {f:Addr} {fd:FuncData} {N ps:List Str} {k:Nat} {sp:Sp} (F:FunD K x qual st dV f fd) (S:zu N ps (zb st)) (len:∀ vs H Q E,sp vs H Q E -> vs.length = ps.length)
  (hbody:∀ (cdv:Value) (A:Around) (outer:List Env) (s:Shared) (H:Hp) (vs:List V) (Q:VK) (E:XK),Room k (A.deeper (envOfC qual (zb st) s.heap.objs.size f cdv)) -> XE (vQ (CXx P w) P w K mg base N qual (zb st) f cdv A outer s H E) E -> sp vs H Q E ->
   ∃ t,PSs (vQ (CXx P w) P w K mg base N qual (zb st) f cdv A outer s H E) (zo st) t /\ t { nx:=fun _ H'=>Q .non H',rt:=Q } (start N vs) H):yk P w K mg base (CXx P w) (k + 1) f fd ps sp:=by
 obtain ⟨oc,od,kV,doc,pm,an,cdv,ct,osl,rfl,lk,hcd⟩:=F.ex
 exact Wn lk hcd S len fun A outer s H vs Q E hr hsp=>hbody cdv A outer s H vs Q E hr Jg hsp
def qI (C:Addr) (f:Str):Sp:=fun vs H Q _=>∃ x v,vs = [.ref x,v] /\ H x = some (XN x C none) /\ ∀ dx,H dx = none -> Q .non (upd (upd H dx (.xd [(f,v)])) x (XN x C (some dx)))
def KM (H:Hp) (d:Addr) (f:Str) (v:V) (H':Hp):Prop:=H d = none /\ Same H H' /\ H' d = some (.xd [(f,v)])
theorem VX {E:XK} {C:Addr} {f:Str} {v:V} {H:Hp} (h:∀ d H',KM H d f v H' -> E (.ref C) (some d) H'):∀ x,H x = none -> qI C f [.ref x,v] (upd H x (XN x C none)) (fun u H2=>u = .non /\ ∃ dx,H2 x = some (XN x C dx) /\ E (.ref C) dx (del H2 x)) E0:=by
 intro x hx
 refine ⟨x,v,rfl,zd,fun dx hd=>⟨rfl,some dx,zd,h dx _ ⟨?_,?_,?_⟩⟩⟩
 ·by_cases e:dx = x
  ·rw [e]; exact hx
  ·rw [zp e] at hd; exact hd
 ·have hne:dx ≠ x:=fun e=>by rw [e,zd] at hd; cases hd
  rw [zp hne] at hd
  intro b o q
  have b1:b ≠ x:=zE q hx
  have b2:b ≠ dx:=zE q hd
  rw [Xs b1,zp b1,zp b2,zp b1]
  exact q
 ·have hne:dx ≠ x:=fun e=>by rw [e,zd] at hd; cases hd
  rw [Xs hne,zp hne,zd]
section
variable {X:Cx}
def JO:R2:=fun x y H Q=>∃ c l,x = .str (tx [c]) /\ y = .str (tx l) /\ Q (.bl (!decide (c ∈ l))) H
theorem QQ:OpR X (compareOp .NotIn) JO:=by
 intro pins s σ H x y v u Q I rx ry h
 obtain ⟨c,l,rfl,rfl,q⟩:=h
 refine jQ pins s σ H _ _ v u Q I rx ry ⟨_,_,rfl,rfl,?_⟩
 rw [Jt]
 exact q
def zaj:R2:=fun x y H Q=>∃ c l,x = .str (tx [c]) /\ y = .str (tx l) /\ Q (.bl (decide (c ∈ l))) H
def KJ:R2:=fun x y H Q=>y = .non /\ Q (.bl (decide (x = .non))) H
theorem op_isN':OpR X (compareOp .Is) KJ:=Jh
def Jn:R2:=fun x y H Q=>y = .non /\ Q (.bl (!decide (x = .non))) H
theorem op_notN':OpR X (compareOp .IsNot) Jn:=Uo
def Qp:List V -> Hp -> VK -> Prop:=fun xs H Q=>∃ i j,xs = [.int i,.int j] /\ Q (.int (if j > i then j else i)) H
theorem Vv (hc:X.calm = true):wH X (.builtin "max") Qp:=Yr hc
def rGe:R2:=fun x y H Q=>∃ i j,x = .int i /\ y = .int j /\ Q (.bl (decide (j <= i))) H
theorem op_ge':OpR X (compareOp .GtE) rGe:=Ki
def zad (K:PySem.W.Frag) (ta:TE):TT:=fun σ H Q=>ta σ H fun x H'=>∃ k,Qk K x H' k /\ Q k H'
end
theorem qG:bootBuiltins "max" = some (.builtin "max"):=by decide +kernel
def Ug (ls l:List Nat) (m:Int) (k:Nat):Prop:=∃ c,l[k]? = some c /\ (m <= k \/ c ∉ ls)
def FB (ls l:List Nat) (m:Int) (k:Nat):Prop:=Ug ls l m k /\ ∀ j < k,¬ Ug ls l m j
def NB (ls l:List Nat) (m:Int):Prop:=∀ j,¬ Ug ls l m j
theorem FB.nb {ls l:List Nat} {m:Int} {k:Nat} (h:FB ls l m k) (n:NB ls l m):False:=n k h.1
end L3
namespace L3
open PySem PySem.Spec PyProof.Rows L2
inductive D where
 | non | bl (b:Bool) | int (i:Int) | str (x:Str) | lst (l:List D) | tup (l:List D)
mutual
def Is (K:PySem.W.Frag) (H:Hp):D -> V -> Prop
 | .non,v=>v = .non
 | .bl b,v=>v = .bl b
 | .int i,v=>v = .int i
 | .str x,v=>v = .str x
 | .lst l,v=>∃ a xs,v = .ref a /\ SqL K H a xs /\ Iss K H l xs
 | .tup l,v=>∃ a xs,v = .ref a /\ SqT K H a xs /\ Iss K H l xs
def Iss (K:PySem.W.Frag) (H:Hp):List D -> List V -> Prop
 | [],vs=>vs = []
 | d :: l,vs=>∃ v r,vs = v :: r /\ Is K H d v /\ Iss K H l r
end
mutual
def eqD:D -> D -> Bool
 | .non,.non=>true
 | .bl a,.bl b=>a == b
 | .bl a,.int b=>(if a then 1 else 0) == b
 | .int a,.bl b=>a == (if b then 1 else 0)
 | .int a,.int b=>a == b
 | .str a,.str b=>a == b
 | .lst l,.lst m=>vZ l m
 | .tup l,.tup m=>vZ l m
 | _,_=>false
def vZ:List D -> List D -> Bool
 | [],[]=>true
 | d :: l,e :: m=>eqD d e && vZ l m
 | _,_=>false
end
mutual
def dpD:D -> Nat
 | .lst l=>wz l + 1
 | .tup l=>wz l + 1
 | _=>0
def wz:List D -> Nat
 | []=>0
 | d :: l=>max (dpD d) (wz l)
end
theorem Um:∀ {l:List D} {j:Nat} {d:D},l[j]? = some d -> dpD d <= wz l
 | d :: l,0,_,h=>by
  cases h
  simp only [wz]
  omega
 | d :: l,j + 1,e,h=>by
  have:=Um (l:=l) (j:=j) (d:=e) h
  simp only [wz]
  omega
mutual
theorem qM:∀ d:D,eqD d d = true
 | .non=>rfl
 | .bl b=>by simp [eqD]
 | .int i=>by simp [eqD]
 | .str x=>by simp [eqD]
 | .lst l=>by simp only [eqD]; exact wT l
 | .tup l=>by simp only [eqD]; exact wT l
theorem wT:∀ l:List D,vZ l l = true
 | []=>rfl
 | d :: l=>by simp only [vZ,qM d,wT l,Bool.and_self]
end
theorem Iss.len {K:PySem.W.Frag} {H:Hp}:∀ {l:List D} {vs:List V},Iss K H l vs -> vs.length = l.length
 | [],vs,h=>by simp only [Iss] at h; rw [h]; rfl
 | d :: l,vs,h=>by
  simp only [Iss] at h
  obtain ⟨v,r,rfl,_,h2⟩:=h
  simp only [List.length_cons,Iss.len h2]
theorem Iss.at {K:PySem.W.Frag} {H:Hp}:∀ {l:List D} {vs:List V} {j:Nat} {d:D},Iss K H l vs -> l[j]? = some d -> ∃ v,vs[j]? = some v /\ Is K H d v
 | d :: l,vs,0,_,h,q=>by
  cases q
  simp only [Iss] at h
  obtain ⟨v,r,rfl,h1,_⟩:=h
  exact ⟨v,rfl,h1⟩
 | d :: l,vs,j + 1,e,h,q=>by
  simp only [Iss] at h
  obtain ⟨v,r,rfl,_,h2⟩:=h
  exact Iss.at (j:=j) h2 q
theorem Iss.append {K:PySem.W.Frag} {H:Hp}:∀ {l m:List D} {vs us:List V},Iss K H l vs -> Iss K H m us -> Iss K H (l ++ m) (vs ++ us)
 | [],m,vs,us,h,g=>by simp only [Iss] at h; rw [h]; exact g
 | d :: l,m,vs,us,h,g=>by
  simp only [Iss] at h
  obtain ⟨v,r,rfl,h1,h2⟩:=h
  simp only [List.cons_append,Iss]
  exact ⟨v,r ++ us,rfl,h1,Iss.append h2 g⟩
theorem Iss.ints {K:PySem.W.Frag} {H:Hp}:∀ (l:List Int),Iss K H (l.map D.int) (l.map V.int)
 | []=>by simp only [List.map_nil,Iss]
 | i :: l=>by
  simp only [List.map_cons,Iss,Is]
  exact ⟨_,_,rfl,rfl,Iss.ints l⟩
theorem zm {K:PySem.W.Frag} {H H':Hp} {a:Addr} {xs:List V} (e:Same H H') (h:SqT K H a xs):SqT K H' a xs:=by
 rcases h with (h | ⟨o,h⟩) | h
 ·exact .inl (.inl (e _ _ h))
 ·exact .inl (.inr ⟨o,e _ _ h⟩)
 ·exact .inr h
mutual
theorem Is.same {K:PySem.W.Frag} {H H':Hp} (e:Same H H'):∀ (d:D) (v:V),Is K H d v -> Is K H' d v
 | .non,v,h=>by simp only [Is] at h ⊢; exact h
 | .bl b,v,h=>by simp only [Is] at h ⊢; exact h
 | .int b,v,h=>by simp only [Is] at h ⊢; exact h
 | .str b,v,h=>by simp only [Is] at h ⊢; exact h
 | .lst l,v,h=>by
  simp only [Is] at h ⊢
  obtain ⟨a,xs,e1,e2,e3⟩:=h
  exact ⟨a,xs,e1,e.seq e2,Iss.same e l xs e3⟩
 | .tup l,v,h=>by
  simp only [Is] at h ⊢
  obtain ⟨a,xs,e1,e2,e3⟩:=h
  exact ⟨a,xs,e1,zm e e2,Iss.same e l xs e3⟩
theorem Iss.same {K:PySem.W.Frag} {H H':Hp} (e:Same H H'):∀ (l:List D) (vs:List V),Iss K H l vs -> Iss K H' l vs
 | [],vs,h=>by simp only [Iss] at h ⊢; exact h
 | d :: l,vs,h=>by
  simp only [Iss] at h ⊢
  obtain ⟨v,r,e1,e2,e3⟩:=h
  exact ⟨v,r,e1,Is.same e d v e2,Iss.same e l r e3⟩
end
theorem xo:∀ (l m:List D),vZ l m = ((List.range (min l.length m.length)).all (fun j=>eqD (l.getD j .non) (m.getD j .non)) && l.length == m.length)
 | [],[]=>rfl
 | [],e :: m=>by simp [vZ]
 | d :: l,[]=>by simp [vZ]
 | d :: l,e :: m=>by
  simp only [vZ,xo l m,List.length_cons]
  have h1:min (l.length + 1) (m.length + 1) = min l.length m.length + 1:=by omega
  rw [h1,List.range_succ_eq_map,List.all_cons,List.all_map]
  have h2:(l.length + 1 == m.length + 1) = (l.length == m.length):=by
   rw [Bool.eq_iff_iff,beq_iff_eq,beq_iff_eq]; omega
  rw [h2]
  simp only [List.getD_cons_zero,Bool.and_assoc]
  rfl
section
variable {X:Cx} {pins:List (Addr × Obj)} {σ:St} {H:Hp} {s:Shared}
theorem jH {a:Addr} {xs ys:List V} (I:Inv X pins σ H s) (h:SqL X.K H a xs) (g:SqT X.K H a ys):False:=by
 obtain ⟨its,r,⟨o,n,e,c,_,d⟩,_⟩:=I.list h
 obtain ⟨its',r',⟨o',e',c',n',d'⟩,_⟩:=I.tuple g
 rw [e] at e'
 cases e'
 rw [c] at c'
 exact absurd (Value.type.inj c') (by decide)
mutual
theorem Xm (I:Inv X pins σ H s):∀ (d e:D) (v:V),Is X.K H d v -> Is X.K H e v -> d = e
 | .lst l,.lst m,v,h,g=>by
  simp only [Is] at h g
  obtain ⟨a,xs,rfl,h1,h2⟩:=h
  obtain ⟨b,ys,e,g1,g2⟩:=g
  cases e
  have:=I.list_inj h1 g1
  subst this
  rw [ke I l m xs h2 g2]
 | .tup l,.tup m,v,h,g=>by
  simp only [Is] at h g
  obtain ⟨a,xs,rfl,h1,h2⟩:=h
  obtain ⟨b,ys,e,g1,g2⟩:=g
  cases e
  have:=I.tuple_inj h1 g1
  subst this
  rw [ke I l m xs h2 g2]
 | .lst l,.tup m,v,h,g=>by
  simp only [Is] at h g
  obtain ⟨a,xs,rfl,h1,h2⟩:=h
  obtain ⟨b,ys,e,g1,g2⟩:=g
  cases e
  exact (jH I h1 g1).elim
 | .tup l,.lst m,v,h,g=>by
  simp only [Is] at h g
  obtain ⟨a,xs,rfl,h1,h2⟩:=h
  obtain ⟨b,ys,e,g1,g2⟩:=g
  cases e
  exact (jH I g1 h1).elim
 | .lst l,.non,v,h,g=>by simp only [Is] at h g; obtain ⟨a,xs,rfl,_⟩:=h; cases g
 | .lst l,.bl _,v,h,g=>by simp only [Is] at h g; obtain ⟨a,xs,rfl,_⟩:=h; cases g
 | .lst l,.int _,v,h,g=>by simp only [Is] at h g; obtain ⟨a,xs,rfl,_⟩:=h; cases g
 | .lst l,.str _,v,h,g=>by simp only [Is] at h g; obtain ⟨a,xs,rfl,_⟩:=h; cases g
 | .tup l,.non,v,h,g=>by simp only [Is] at h g; obtain ⟨a,xs,rfl,_⟩:=h; cases g
 | .tup l,.bl _,v,h,g=>by simp only [Is] at h g; obtain ⟨a,xs,rfl,_⟩:=h; cases g
 | .tup l,.int _,v,h,g=>by simp only [Is] at h g; obtain ⟨a,xs,rfl,_⟩:=h; cases g
 | .tup l,.str _,v,h,g=>by simp only [Is] at h g; obtain ⟨a,xs,rfl,_⟩:=h; cases g
 | .non,e,v,h,g=>by
  simp only [Is] at h
  subst h
  cases e <;> simp only [Is] at g
  all_goals first | rfl | (obtain ⟨a,xs,q,_⟩:=g; cases q) | cases g
 | .bl _,e,v,h,g=>by
  simp only [Is] at h
  subst h
  cases e <;> simp only [Is] at g
  all_goals first | (cases g; rfl) | (obtain ⟨a,xs,q,_⟩:=g; cases q) | cases g
 | .int _,e,v,h,g=>by
  simp only [Is] at h
  subst h
  cases e <;> simp only [Is] at g
  all_goals first | (cases g; rfl) | (obtain ⟨a,xs,q,_⟩:=g; cases q) | cases g
 | .str _,e,v,h,g=>by
  simp only [Is] at h
  subst h
  cases e <;> simp only [Is] at g
  all_goals first | (cases g; rfl) | (obtain ⟨a,xs,q,_⟩:=g; cases q) | cases g
theorem ke (I:Inv X pins σ H s):∀ (l m:List D) (vs:List V),Iss X.K H l vs -> Iss X.K H m vs -> l = m
 | [],[],_,_,_=>rfl
 | [],e :: m,vs,h,g=>by
  simp only [Iss] at h g
  subst h
  obtain ⟨_,_,q,_⟩:=g
  cases q
 | d :: l,[],vs,h,g=>by
  simp only [Iss] at h g
  subst g
  obtain ⟨_,_,q,_⟩:=h
  cases q
 | d :: l,e :: m,vs,h,g=>by
  simp only [Iss] at h g
  obtain ⟨v,r,rfl,h1,h2⟩:=h
  obtain ⟨v',r',q,g1,g2⟩:=g
  cases q
  rw [Xm I d e v h1 g1,ke I l m r h2 g2]
end
theorem xq:∀ {xs:List V} {us:List Value} {j:Nat} {x:V},Vals xs us -> xs[j]? = some x -> ∃ u,us[j]? = some u /\ RelV x u
 | _,_,0,_,.cons r t,h=>by cases h; exact ⟨_,rfl,r⟩
 | _,_,j + 1,_,.cons r t,h=>xq (j:=j) t h
theorem xf {l m:List D} {xs ys:List V} {its its':List Value} {A:Around} {n:Nat} (hl:Iss X.K H l xs) (hm:Iss X.K H m ys) (r:Vals xs its) (r':Vals ys its') (hn:wz l < n)
  (ih:∀ (d e:D) (x y:V) (u v:Value),dpD d < n -> Is X.K H d x -> Is X.K H e y -> RelV x u -> RelV y v -> SeqAt.EqAt A s u v (eqD d e)) :
  ∀ j (h1:j < its.toArray.size) (h2:j < its'.toArray.size),SeqAt.EqAt A s its.toArray[j] its'.toArray[j] (eqD (l.getD j .non) (m.getD j .non)):=by
 intro j h1 h2
 rw [List.size_toArray] at h1 h2
 have e1:=hl.len
 have e2:=hm.len
 have e3:=r.length
 have e4:=r'.length
 have g1:l[j]? = some l[j]:=List.getElem?_eq_getElem (by omega)
 have g2:m[j]? = some m[j]:=List.getElem?_eq_getElem (by omega)
 generalize l[j] = d at g1
 generalize m[j] = e at g2
 obtain ⟨x,hx,ix⟩:=hl.at g1
 obtain ⟨y,hy,iy⟩:=hm.at g2
 obtain ⟨u,hu,ru⟩:=xq r hx
 obtain ⟨v,hv,rv⟩:=xq r' hy
 have q1:its.toArray[j] = u:=by
  have:=(List.getElem?_eq_some_iff.mp hu).2
  simpa using this
 have q2:its'.toArray[j] = v:=by
  have:=(List.getElem?_eq_some_iff.mp hv).2
  simpa using this
 rw [q1,q2,List.getD_eq_getElem?_getD,List.getD_eq_getElem?_getD,g1,g2]
 exact ih d e x y u v (Nat.lt_of_le_of_lt (Um g1) hn) ix iy ru rv
theorem ux (I:Inv X pins σ H s):∀ (n:Nat) (A:Around) (d e:D) (x y:V) (u v:Value),A.units + n < cLine -> dpD d < n -> Is X.K H d x -> Is X.K H e y -> RelV x u -> RelV y v -> SeqAt.EqAt A s u v (eqD d e):=by
 intro n
 induction n with
 | zero=>intro A d e x y u v _ h; exact absurd h (Nat.not_lt_zero _)
 | succ n ih =>
  intro A d e x y u v hu hd hx hy rx ry
  have hu1:A.units < cLine:=by omega
  have huA:A.in1.units + n < cLine:=by show A.units + 1 + n < cLine; omega
  cases d with
  | lst l =>
   simp only [Is] at hx
   obtain ⟨a,xs,rfl,h1,h2⟩:=hx
   cases rx
   obtain ⟨its,r,p,_⟩:=I.list h1
   cases e with
   | non=>simp only [Is] at hy; subst hy; cases ry; exact SeqAt.EqAt.list_none p.isList hu1
   | bl b=>simp only [Is] at hy; subst hy; cases ry; exact SeqAt.EqAt.list_bool b p.isList hu1
   | int b=>simp only [Is] at hy; subst hy; obtain ⟨t,rfl⟩:=ry; exact SeqAt.EqAt.list_int b t p.isList hu1
   | str b=>simp only [Is] at hy; subst hy; obtain ⟨t,rfl⟩:=ry; exact SeqAt.EqAt.list_str b t p.isList hu1
   | tup m =>
    simp only [Is] at hy
    obtain ⟨b,ys,rfl,g1,g2⟩:=hy
    cases ry
    obtain ⟨its',r',p',_⟩:=I.tuple g1
    exact SeqAt.EqAt.list_tuple p.isList p' hu1
   | lst m =>
    have hy':=hy
    simp only [Is] at hy
    obtain ⟨b,ys,rfl,g1,g2⟩:=hy
    cases ry
    obtain ⟨its',r',p',_⟩:=I.list g1
    simp only [dpD] at hd
    by_cases hab:a = b
    ·subst hab
     have:=Xm I (.lst l) (.lst m) (.ref a) (by simp only [Is]; exact ⟨a,xs,rfl,h1,h2⟩) hy'
     rw [this,qM]
     exact SeqAt.EqAt.same _
    ·refine .of_refs hab ?_
     simp only [eqD]
     have L1:=h2.len
     have L2:=g2.len
     have L3:=r.length
     have L4:=r'.length
     by_cases hl:l.length = m.length
     ·have:=SeqAt.RcAt.lists (A:=A) p.isList p'.isList (by simp only [List.size_toArray]; omega) hu1 (xf h2 g2 r r' (n:=n) (by omega) fun d e x y u v q1 q2 q3 q4 q5=>ih A.in1 d e x y u v huA q1 q2 q3 q4 q5)
      rw [xo,hl,Nat.min_self,beq_self_eq_true,Bool.and_true]
      have e1:its.toArray.size = m.length:=by simp only [List.size_toArray]; omega
      rw [e1] at this
      exact this
     ·rw [xo,beq_eq_false_iff_ne.mpr hl,Bool.and_false]
      exact SeqAt.RcAt.lists_lengths p.isList p'.isList (by rw [bne_iff_ne]; simp only [List.size_toArray]; omega) hu1
  | tup l =>
   simp only [Is] at hx
   obtain ⟨a,xs,rfl,h1,h2⟩:=hx
   cases rx
   obtain ⟨its,r,p,_⟩:=I.tuple h1
   cases e with
   | non=>simp only [Is] at hy; subst hy; cases ry; exact SeqAt.EqAt.tuple_none p hu1
   | bl b=>simp only [Is] at hy; subst hy; cases ry; exact SeqAt.EqAt.tuple_bool b p hu1
   | int b=>simp only [Is] at hy; subst hy; obtain ⟨t,rfl⟩:=ry; exact SeqAt.EqAt.tuple_int b t p hu1
   | str b=>simp only [Is] at hy; subst hy; obtain ⟨t,rfl⟩:=ry; exact SeqAt.EqAt.tuple_str b t p hu1
   | lst m =>
    simp only [Is] at hy
    obtain ⟨b,ys,rfl,g1,g2⟩:=hy
    cases ry
    obtain ⟨its',r',p',_⟩:=I.list g1
    exact SeqAt.EqAt.tuple_list p p'.isList hu1
   | tup m =>
    have hy':=hy
    simp only [Is] at hy
    obtain ⟨b,ys,rfl,g1,g2⟩:=hy
    cases ry
    obtain ⟨its',r',p',_⟩:=I.tuple g1
    simp only [dpD] at hd
    by_cases hab:a = b
    ·subst hab
     have:=Xm I (.tup l) (.tup m) (.ref a) (by simp only [Is]; exact ⟨a,xs,rfl,h1,h2⟩) hy'
     rw [this,qM]
     exact SeqAt.EqAt.same _
    ·refine .of_refs hab ?_
     simp only [eqD]
     have L1:=h2.len
     have L2:=g2.len
     have L3:=r.length
     have L4:=r'.length
     have:=SeqAt.RcAt.tuples (A:=A) p p' hu1 (xf h2 g2 r r' (n:=n) (by omega) fun d e x y u v q1 q2 q3 q4 q5=>ih A.in1 d e x y u v huA q1 q2 q3 q4 q5)
     rw [xo]
     simp only [List.size_toArray] at this
     rw [<- L1,<- L2,L3,L4]
     exact this
  | non =>
   simp only [Is] at hx
   subst hx
   cases e with
   | lst m =>
    simp only [Is] at hy
    obtain ⟨b,ys,rfl,g1,g2⟩:=hy
    cases rx; cases ry
    obtain ⟨its',r',p',_⟩:=I.list g1
    exact SeqAt.EqAt.none_list p'.isList hu1
   | tup m =>
    simp only [Is] at hy
    obtain ⟨b,ys,rfl,g1,g2⟩:=hy
    cases rx; cases ry
    obtain ⟨its',r',p',_⟩:=I.tuple g1
    exact SeqAt.EqAt.none_tuple p' hu1
   | _=>simp only [Is] at hy; subst hy; exact kK rx ry rfl rfl
  | bl c =>
   simp only [Is] at hx
   subst hx
   cases e with
   | lst m =>
    simp only [Is] at hy
    obtain ⟨b,ys,rfl,g1,g2⟩:=hy
    cases rx; cases ry
    obtain ⟨its',r',p',_⟩:=I.list g1
    exact SeqAt.EqAt.bool_list _ p'.isList hu1
   | tup m =>
    simp only [Is] at hy
    obtain ⟨b,ys,rfl,g1,g2⟩:=hy
    cases rx; cases ry
    obtain ⟨its',r',p',_⟩:=I.tuple g1
    exact SeqAt.EqAt.bool_tuple _ p' hu1
   | _=>simp only [Is] at hy; subst hy; exact kK rx ry rfl rfl
  | int c =>
   simp only [Is] at hx
   subst hx
   cases e with
   | lst m =>
    simp only [Is] at hy
    obtain ⟨b,ys,rfl,g1,g2⟩:=hy
    obtain ⟨t,rfl⟩:=rx; cases ry
    obtain ⟨its',r',p',_⟩:=I.list g1
    exact SeqAt.EqAt.int_list _ _ p'.isList hu1
   | tup m =>
    simp only [Is] at hy
    obtain ⟨b,ys,rfl,g1,g2⟩:=hy
    obtain ⟨t,rfl⟩:=rx; cases ry
    obtain ⟨its',r',p',_⟩:=I.tuple g1
    exact SeqAt.EqAt.int_tuple _ _ p' hu1
   | _=>simp only [Is] at hy; subst hy; exact kK rx ry rfl rfl
  | str c =>
   simp only [Is] at hx
   subst hx
   cases e with
   | lst m =>
    simp only [Is] at hy
    obtain ⟨b,ys,rfl,g1,g2⟩:=hy
    obtain ⟨t,rfl⟩:=rx; cases ry
    obtain ⟨its',r',p',_⟩:=I.list g1
    exact SeqAt.EqAt.str_list _ _ p'.isList hu1
   | tup m =>
    simp only [Is] at hy
    obtain ⟨b,ys,rfl,g1,g2⟩:=hy
    obtain ⟨t,rfl⟩:=rx; cases ry
    obtain ⟨its',r',p',_⟩:=I.tuple g1
    exact SeqAt.EqAt.str_tuple _ _ p' hu1
   | _=>simp only [Is] at hy; subst hy; exact kK rx ry rfl rfl
def KA (K:PySem.W.Frag):R2:=fun x y H Q=>∃ l m,((Is K H (.lst l) x /\ Is K H (.lst m) y) \/ (Is K H (.tup l) x /\ Is K H (.tup m) y)) /\ wz l < 50 /\ Q (.bl (vZ l m)) H
def KC (K:PySem.W.Frag):R2:=fun x y H Q=>∃ l m,((Is K H (.lst l) x /\ Is K H (.lst m) y) \/ (Is K H (.tup l) x /\ Is K H (.tup m) y)) /\ wz l < 50 /\ Q (.bl (!vZ l m)) H
theorem QY (hu:X.A.units + 100 < cLine):OpR X (compareOp .Eq) (KA X.K):=by
 intro pins s σ H x y v u Q I rx ry h
 obtain ⟨l,m,hh,hd,q⟩:=h
 have hu1:X.A.units < cLine:=by omega
 have huA:X.A.in1.units + 50 < cLine:=by show X.A.units + 1 + 50 < cLine; omega
 rcases hh with ⟨hx,hy⟩ | ⟨hx,hy⟩
 ·simp only [Is] at hx hy
  obtain ⟨a,xs,rfl,h1,h2⟩:=hx
  obtain ⟨b,ys,rfl,g1,g2⟩:=hy
  cases rx; cases ry
  obtain ⟨its,r,p,_⟩:=I.list h1
  obtain ⟨its',r',p',_⟩:=I.list g1
  have L1:=h2.len
  have L2:=g2.len
  have L3:=r.length
  have L4:=r'.length
  by_cases hl:l.length = m.length
  ·have:=SeqAt.RcAt.lists (A:=X.A) p.isList p'.isList (by simp only [List.size_toArray]; omega) hu1 (xf h2 g2 r r' (n:=50) hd fun d e x y u v q1 q2 q3 q4 q5=>ux I 50 X.A.in1 d e x y u v huA q1 q2 q3 q4 q5)
   have e1:its.toArray.size = m.length:=by simp only [List.size_toArray]; omega
   rw [e1] at this
   rw [xo,hl,Nat.min_self,beq_self_eq_true,Bool.and_true] at q
   exact this X.prog X.w X.xe _ ⟨.bl _,H,I,rfl,q⟩
  ·rw [xo,beq_eq_false_iff_ne.mpr hl,Bool.and_false] at q
   exact SeqAt.RcAt.lists_lengths p.isList p'.isList (by rw [bne_iff_ne]; simp only [List.size_toArray]; omega) hu1 X.prog X.w X.xe _ ⟨.bl _,H,I,rfl,q⟩
 ·simp only [Is] at hx hy
  obtain ⟨a,xs,rfl,h1,h2⟩:=hx
  obtain ⟨b,ys,rfl,g1,g2⟩:=hy
  cases rx; cases ry
  obtain ⟨its,r,p,_⟩:=I.tuple h1
  obtain ⟨its',r',p',_⟩:=I.tuple g1
  have L1:=h2.len
  have L2:=g2.len
  have L3:=r.length
  have L4:=r'.length
  have:=SeqAt.RcAt.tuples (A:=X.A) p p' hu1 (xf h2 g2 r r' (n:=50) hd fun d e x y u v q1 q2 q3 q4 q5=>ux I 50 X.A.in1 d e x y u v huA q1 q2 q3 q4 q5)
  simp only [List.size_toArray] at this
  rw [xo,<- L1,<- L2,L3,L4] at q
  exact this X.prog X.w X.xe _ ⟨.bl _,H,I,rfl,q⟩
theorem Q8 (hu:X.A.units + 100 < cLine):OpR X (compareOp .NotEq) (KC X.K):=by
 intro pins s σ H x y v u Q I rx ry h
 obtain ⟨l,m,hh,hd,q⟩:=h
 have hu1:X.A.units < cLine:=by omega
 have huA:X.A.in1.units + 50 < cLine:=by show X.A.units + 1 + 50 < cLine; omega
 rcases hh with ⟨hx,hy⟩ | ⟨hx,hy⟩
 ·simp only [Is] at hx hy
  obtain ⟨a,xs,rfl,h1,h2⟩:=hx
  obtain ⟨b,ys,rfl,g1,g2⟩:=hy
  cases rx; cases ry
  obtain ⟨its,r,p,_⟩:=I.list h1
  obtain ⟨its',r',p',_⟩:=I.list g1
  have L1:=h2.len
  have L2:=g2.len
  have L3:=r.length
  have L4:=r'.length
  by_cases hl:l.length = m.length
  ·have:=SeqAt.RcNeAt.lists (A:=X.A) p.isList p'.isList (by simp only [List.size_toArray]; omega) hu1 (xf h2 g2 r r' (n:=50) hd fun d e x y u v q1 q2 q3 q4 q5=>ux I 50 X.A.in1 d e x y u v huA q1 q2 q3 q4 q5)
   have e1:its.toArray.size = m.length:=by simp only [List.size_toArray]; omega
   rw [e1] at this
   rw [xo,hl,Nat.min_self,beq_self_eq_true,Bool.and_true] at q
   exact this X.prog X.w X.xe _ ⟨.bl _,H,I,rfl,q⟩
  ·rw [xo,beq_eq_false_iff_ne.mpr hl,Bool.and_false] at q
   exact SeqAt.RcNeAt.lists_lengths p.isList p'.isList (by rw [bne_iff_ne]; simp only [List.size_toArray]; omega) hu1 X.prog X.w X.xe _ ⟨.bl _,H,I,rfl,q⟩
 ·simp only [Is] at hx hy
  obtain ⟨a,xs,rfl,h1,h2⟩:=hx
  obtain ⟨b,ys,rfl,g1,g2⟩:=hy
  cases rx; cases ry
  obtain ⟨its,r,p,_⟩:=I.tuple h1
  obtain ⟨its',r',p',_⟩:=I.tuple g1
  have L1:=h2.len
  have L2:=g2.len
  have L3:=r.length
  have L4:=r'.length
  have:=SeqAt.RcNeAt.tuples (A:=X.A) p p' hu1 (xf h2 g2 r r' (n:=50) hd fun d e x y u v q1 q2 q3 q4 q5=>ux I 50 X.A.in1 d e x y u v huA q1 q2 q3 q4 q5)
  simp only [List.size_toArray] at this
  rw [xo,<- L1,<- L2,L3,L4] at q
  exact this X.prog X.w X.xe _ ⟨.bl _,H,I,rfl,q⟩
end
theorem jw (l m:List Int):vZ (l.map D.int) (m.map D.int) = decide (l = m):=by
 induction l generalizing m with
 | nil=>cases m <;> simp [vZ]
 | cons a l ih =>
  cases m with
  | nil=>simp [vZ]
  | cons b m =>
   simp only [List.map_cons,vZ,eqD,ih m]
   by_cases h1:a = b
   ·subst h1
    by_cases h2:l = m
    ·simp [h2]
    ·simp [h2]
   ·simp [h1]
theorem jg (l:List Int):wz (l.map D.int) = 0:=by
 induction l with
 | nil=>rfl
 | cons a l ih=>simp only [List.map_cons,wz,dpD,ih]; rfl
abbrev CNx (n i:Nat) (Pv:Nat -> List V -> Hp -> Prop) (acc:List V) (H:Hp):Prop:=∃ m',m' < n - i /\ (m' = n - (i + 1) /\ i + 1 <= n /\ Pv (i + 1) acc H)
theorem CNx.mk {n i:Nat} {Pv:Nat -> List V -> Hp -> Prop} {acc:List V} {H:Hp} (hi:i < n) (h:Pv (i + 1) acc H):CNx n i Pv acc H:=⟨n - (i + 1),by omega,rfl,hi,h⟩
def Xi (J:It) (g:TG) (tt:TT) (te:TE) (own:Nat) (ix:List Nat) (σ:St) (H1:Hp) (Q:VK) (D:Addr):Prop:=∃ W:Nat -> Nat -> List V -> Hp -> Prop,(∃ m,W 0 m [] (upd H1 D (.lst []))) /\
 ∀ i m acc H',W i m acc H' -> (J.stop i H' /\ Q (.ref D) H') \/ (J.go i H' /\ ∀ x H2,J.yld i H' x H2 -> g x (vM σ own ix) H2 fun σ3 H3=>xt (vM σ own ix) σ3 /\ tt σ3 H3 fun b H4=>if b = true then
  te σ3 H4 fun v H5=>H5 D = some (.lst acc) /\ acc.length < sizeLine /\ ∃ m',m' < m /\ W (i + 1) m' (acc ++ [v]) (upd H5 D (.lst (acc ++ [v])))
  else ∃ m',m' < m /\ W (i + 1) m' acc H4)
def CompR (lo:Int) (n:Nat) (g:TG) (tt:TT) (te:TE) (own:Nat) (ix:List Nat) (σ:St) (H1:Hp) (Q:VK) (D:Addr):Prop:=Xi (Itr lo n) g tt te own ix σ H1 Q D
def CompL (K:PySem.W.Frag) (a:Addr) (g:TG) (tt:TT) (te:TE) (own:Nat) (ix:List Nat) (σ:St) (H1:Hp) (Q:VK) (D:Addr):Prop:=Xi (Itl K a) g tt te own ix σ H1 Q D
def CompS (x:Str) (g:TG) (tt:TT) (te:TE) (own:Nat) (ix:List Nat) (σ:St) (H1:Hp) (Q:VK) (D:Addr):Prop:=Xi (Its x) g tt te own ix σ H1 Q D
theorem Jj {ta:TA} {g:TG} {tt:TT} {te:TE} {own:Nat} {ix:List Nat} {σ:St} {H:Hp} {Q:VK}:jU (VZ ta) g tt te own ix σ H Q = ta σ H fun vs H1=>∃ j:Int,vs = [.int j] /\ -(2 ^ 62) <= j /\ j < 2 ^ 62 /\ ∀ D,H1 D = none -> CompR 0 j.toNat g tt te own ix σ H1 Q D:=rfl
theorem Kh {K:PySem.W.Frag} {tl:TE} {g:TG} {tt:TT} {te:TE} {own:Nat} {ix:List Nat} {σ:St} {H:Hp} {Q:VK}:jU (VV K tl) g tt te own ix σ H Q = tl σ H fun x H1=>∃ a,x = .ref a /\ (∃ xs,SqL K H1 a xs) /\ ∀ D,H1 D = none -> CompL K a g tt te own ix σ H1 Q D:=rfl
theorem Kt {tl:TE} {g:TG} {tt:TT} {te:TE} {own:Nat} {ix:List Nat} {σ:St} {H:Hp} {Q:VK}:jU (JY tl) g tt te own ix σ H Q = tl σ H fun v H1=>∃ x,v = .str x /\ ∀ D,H1 D = none -> CompS x g tt te own ix σ H1 Q D:=rfl
section
variable {g:TG} {tt:TT} {te:TE} {own:Nat} {ix:List Nat} {σ:St} {H1:Hp} {Q:VK} {D:Addr}
theorem CompR.by {lo:Int} {n:Nat} (Pv:Nat -> List V -> Hp -> Prop) (h0:Pv 0 [] (upd H1 D (.lst [])))
  (hs:∀ i acc H',i < n -> Pv i acc H' -> g (.int (lo + i)) (vM σ own ix) H' fun σ3 H3=>xt (vM σ own ix) σ3 /\ tt σ3 H3 fun b H4=>if b = true then
   te σ3 H4 fun v H5=>H5 D = some (.lst acc) /\ acc.length < sizeLine /\ CNx n i Pv (acc ++ [v]) (upd H5 D (.lst (acc ++ [v]))) else CNx n i Pv acc H4)
  (hd:∀ acc H',Pv n acc H' -> Q (.ref D) H'):CompR lo n g tt te own ix σ H1 Q D:=by
 refine ⟨fun i m acc H=>m = n - i /\ i <= n /\ Pv i acc H,⟨n,by simp,Nat.zero_le _,h0⟩,?_⟩
 rintro i m acc H' ⟨rfl,hi,p⟩
 by_cases hlt:i < n
 ·refine .inr ⟨hlt,fun x H2 y=>?_⟩
  obtain ⟨e,y⟩:=y
  subst e y
  exact hs i acc _ hlt p
 ·have e:i = n:=by omega
  subst e
  exact .inl ⟨Nat.le_refl _,hd acc H' p⟩
theorem CompL.by {K:PySem.W.Frag} {a:Addr} {xs:List V} (Pv:Nat -> List V -> Hp -> Prop) (h0:Pv 0 [] (upd H1 D (.lst []))) (hl:∀ i acc H',i <= xs.length -> Pv i acc H' -> SqL K H' a xs)
  (hs:∀ i x acc H',xs[i]? = some x -> Pv i acc H' -> g x (vM σ own ix) H' fun σ3 H3=>xt (vM σ own ix) σ3 /\ tt σ3 H3 fun b H4=>if b = true then
   te σ3 H4 fun v H5=>H5 D = some (.lst acc) /\ acc.length < sizeLine /\ CNx xs.length i Pv (acc ++ [v]) (upd H5 D (.lst (acc ++ [v]))) else CNx xs.length i Pv acc H4)
  (hd:∀ acc H',Pv xs.length acc H' -> Q (.ref D) H'):CompL K a g tt te own ix σ H1 Q D:=by
 refine ⟨fun i m acc H=>m = xs.length - i /\ i <= xs.length /\ Pv i acc H,⟨xs.length,by simp,Nat.zero_le _,h0⟩,?_⟩
 rintro i m acc H' ⟨rfl,hi,p⟩
 have q:=hl i acc H' hi p
 by_cases hlt:i < xs.length
 ·refine .inr ⟨⟨xs,xs[i],q,by simp [hlt]⟩,fun x H2 y=>?_⟩
  obtain ⟨e,y⟩:=y
  subst e
  exact hs i x acc _ (y xs q) p
 ·have e:i = xs.length:=by omega
  subst e
  exact .inl ⟨⟨xs,q,Nat.le_refl _⟩,hd acc H' p⟩
theorem CompS.by {l:List Nat} (Pv:Nat -> List V -> Hp -> Prop) (h0:Pv 0 [] (upd H1 D (.lst [])))
  (hs:∀ i c acc H',l[i]? = some c -> Pv i acc H' -> g (.str (tx [c])) (vM σ own ix) H' fun σ3 H3=>xt (vM σ own ix) σ3 /\ tt σ3 H3 fun b H4=>if b = true then
   te σ3 H4 fun v H5=>H5 D = some (.lst acc) /\ acc.length < sizeLine /\ CNx l.length i Pv (acc ++ [v]) (upd H5 D (.lst (acc ++ [v]))) else CNx l.length i Pv acc H4)
  (hd:∀ acc H',Pv l.length acc H' -> Q (.ref D) H'):CompS (tx l) g tt te own ix σ H1 Q D:=by
 refine ⟨fun i m acc H=>m = l.length - i /\ i <= l.length /\ Pv i acc H,⟨l.length,by simp,Nat.zero_le _,h0⟩,?_⟩
 rintro i m acc H' ⟨rfl,hi,p⟩
 by_cases hlt:i < l.length
 ·refine .inr ⟨hlt,fun v H2 y=>?_⟩
  obtain ⟨e,c,hc,ev⟩:=y
  subst e ev
  exact hs i c acc _ hc p
 ·have e:i = l.length:=by omega
  subst e
  exact .inl ⟨rfl,hd acc H' p⟩
end
theorem xh {x:V} {r:St}:xt (none :: r) (some x :: r):=⟨rfl,fun i v h=>by
 cases i with
 | zero=>cases h
 | succ i=>exact h⟩
theorem zR {X:Cx} {scope sc:Scope} {own caps:List Str} {ix:List Nat} (h1:scope.kind = .function) (h2:scope.names.all (fun y=>y.2 != .cell) = true) (h3:scope.names.all (fun y=>y.2 != .local || scope.names.lookup y.1 == some .local) = true)
  (h4:scope.names.all (fun y=>y.2 != .free || sc.names.lookup y.1 == some .cell) = true) (hsc:X.env.scope = sc) (h5:own.all (fun y=>scope.names.lookup y == some .local) = true) (h6:caps.all (fun y=>scope.names.lookup y == some .free) = true) (h7:ix.map (fun i=>X.N[i]?) = caps.map some):jB X scope own caps ix:=by
 refine ⟨h1,fun y hy=>?_,fun y hy e=>?_,fun y hy=>?_,fun y hy=>?_,fun y hy=>?_,h7⟩
 ·have:=List.all_eq_true.mp h2 y hy
  simpa using this
 ·have:=List.all_eq_true.mp h3 y hy
  rw [e] at this
  simpa using this
 ·have:=List.all_eq_true.mp h4 _ hy
  have:=by simpa using this
  show X.env.scope.names.lookup y = some .cell
  rw [hsc]
  exact this
 ·have:=List.all_eq_true.mp h5 y hy
  simpa using this
 ·have:=List.all_eq_true.mp h6 y hy
  simpa using this
theorem j7 {α:Type} (l:List α) {a b:Int} (h0:0 <= a) (h1:a <= b) (h2:b <= l.length):cut l (some a) (some b) = (l.drop a.toNat).take (b - a).toNat:=by
 obtain ⟨m,rfl⟩:=Int.eq_ofNat_of_zero_le h0
 obtain ⟨n,rfl⟩:=Int.eq_ofNat_of_zero_le (by omega:0 <= b)
 unfold cut
 rw [HT.sIx_nat,HT.sIx_nat,Nat.min_eq_left (by omega),Nat.min_eq_left (by omega)]
 have:((n:Int) - (m:Int)).toNat = n - m:=by omega
 rw [this]
 rfl
theorem uV {k:Nat} {A:Around} (r:Room k A):A.units + 100 < cLine:=by have:=r.un; omega
end L3
namespace L3
open PySem PySem.Spec PyProof.Rows L2
theorem UM {K:PySem.W.Frag} {x y:V} {H:Hp} {Q:VK} {l m:List D} (h:(Is K H (.lst l) x /\ Is K H (.lst m) y) \/ (Is K H (.tup l) x /\ Is K H (.tup m) y)) (hd:wz l < 50) (q:Q (.bl (vZ l m)) H):KA K x y H Q:=⟨l,m,h,hd,q⟩
theorem U5 {K:PySem.W.Frag} {x y:V} {H:Hp} {Q:VK} {l m:List D} (h:(Is K H (.lst l) x /\ Is K H (.lst m) y) \/ (Is K H (.tup l) x /\ Is K H (.tup m) y)) (hd:wz l < 50) (q:Q (.bl (!vZ l m)) H):KC K x y H Q:=⟨l,m,h,hd,q⟩
def KK (t u:TS):TS:=fun D σ H=>∃ R:St -> Hp -> Prop,t { D with nx:=R } σ H /\ ∀ σ' H',R σ' H' -> u D σ' H'
theorem zj {X:Cx} {st:Stmt} {rest:List Stmt} {t u:TS} (h1:PS X st t) (h2:PSs X rest u):PSs X (st :: rest) (KK t u):=by
 intro pins s σ H D I h
 obtain ⟨R,h,hr⟩:=h
 refine wpAny_execs_cons (thn (h1 pins s σ H { D with nx:=R } I h) fun f s1 q=>?_)
 cases f with
 | next =>
  obtain ⟨σ',H',I',q⟩:=q
  exact h2 pins s1 σ' H' D I' (hr _ _ q)
 | ret v=>exact q
 | brk=>exact q
 | cont=>exact q
theorem zk {t u:TS} {D:wl} {σ:St} {H:Hp} (R:St -> Hp -> Prop) (h:t { D with nx:=R } σ H) (hr:∀ σ' H',R σ' H' -> u D σ' H'):KK t u D σ H:=⟨R,h,hr⟩
theorem zF {H H':Hp} {a:Addr} {o:HO} (h:Same H H') (e:H a = none):Same H (upd H' a o):=fun b u q=>by
 rw [zp (zE q e)]
 exact h b u q
theorem ForL.by {K:PySem.W.Frag} {a:Addr} {xs:List V} {g:TG} {tb:TS} {D:wl} {σ:St} {H:Hp} (Pv:Nat -> St -> Hp -> Prop) (h0:Pv 0 σ H) (hl:∀ i σ H,i <= xs.length -> Pv i σ H -> SqL K H a xs)
  (hs:∀ i x σ H,xs[i]? = some x -> Pv i σ H -> g x σ H fun σ2 H2=>tb { D with nx:=Pv (i + 1),ct:=Pv (i + 1),bk:=D.nx } σ2 H2) (hd:∀ σ H,Pv xs.length σ H -> D.nx σ H):ForL K a g tb D σ H:=WL Pv h0 hl hs hd
theorem X9 {A B:Prop} (h:B):if true = false then A else B:=by rw [if_neg (by decide)]; exact h
def CompV (K:PySem.W.Frag) (a:Addr) (n:Nat) (g:TG) (tt:TT) (te:TE) (own:Nat) (ix:List Nat) (σ:L2.St) (H1:Hp) (Q:VK) (D:Addr):Prop:=Xi (Irv K a n) g tt te own ix σ H1 Q D
theorem Kk {K:PySem.W.Frag} {ta:TA} {g:TG} {tt:TT} {te:TE} {own:Nat} {ix:List Nat} {σ:L2.St} {H:Hp} {Q:VK}:jU (KF K ta) g tt te own ix σ H Q = ta σ H fun vs H1=>∃ a xs,vs = [.ref a] /\ SqL K H1 a xs /\ ∀ D,H1 D = none -> CompV K a xs.length g tt te own ix σ H1 Q D:=rfl
theorem CompV.by {K:PySem.W.Frag} {a:Addr} {xs:List V} {g:TG} {tt:TT} {te:TE} {own:Nat} {ix:List Nat} {σ:L2.St} {H1:Hp} {Q:VK} {D:Addr} (Pv:Nat -> List V -> Hp -> Prop) (h0:Pv 0 [] (upd H1 D (.lst []))) (hl:∀ i acc H',i <= xs.length -> Pv i acc H' -> SqL K H' a xs)
  (hs:∀ i x acc H',xs.reverse[i]? = some x -> Pv i acc H' -> g x (vM σ own ix) H' fun σ3 H3=>xt (vM σ own ix) σ3 /\ tt σ3 H3 fun b H4=>if b = true then
   te σ3 H4 fun v H5=>H5 D = some (.lst acc) /\ acc.length < sizeLine /\ CNx xs.length i Pv (acc ++ [v]) (upd H5 D (.lst (acc ++ [v]))) else CNx xs.length i Pv acc H4)
  (hd:∀ acc H',Pv xs.length acc H' -> Q (.ref D) H'):CompV K a xs.length g tt te own ix σ H1 Q D:=by
 refine ⟨fun i m acc H=>m = xs.length - i /\ i <= xs.length /\ Pv i acc H,⟨xs.length,by simp,Nat.zero_le _,h0⟩,?_⟩
 rintro i m acc H' ⟨rfl,hi,p⟩
 have q:=hl i acc H' hi p
 by_cases hlt:i < xs.length
 ·refine .inr ⟨⟨xs,q,rfl,hlt⟩,fun x H2 y=>?_⟩
  obtain ⟨e,y⟩:=y
  subst e
  refine hs i x acc _ ?_ p
  rw [List.getElem?_reverse hlt]
  exact y xs q rfl
 ·have e:i = xs.length:=by omega
  subst e
  exact .inl ⟨rfl,hd acc H' p⟩
end L3
namespace L3
open PySem PySem.Spec PyProof.Rows L2
section
variable {X:Cx}
theorem XR:∀ {ys:List Str} {its:List Value},Vals (ys.map V.str) its -> ∃ l:List (Str × Tok),its = strValues l /\ l.map (·.1) = ys
 | [],_,.nil=>⟨[],rfl,rfl⟩
 | y :: ys,_,.cons r t=>by
  obtain ⟨tk,rfl⟩:=r
  obtain ⟨l,e1,e2⟩:=XR t
  exact ⟨(y,tk) :: l,by rw [e1]; rfl,by rw [List.map_cons,e2]⟩
def JX (K:PySem.W.Frag):V -> List V -> Hp -> VK -> Prop:=fun x xs H Q=>∃ z p ys,x = .str z /\ xs = [.ref p] /\ SqL K H p (ys.map V.str) /\ JoinOk z ys = true /\ Q (.str (Txt.join z ys)) H
theorem Qq:MtR X "str.join" (JX X.K):=by
 intro pins s σ H x xs v us Q I rx rv h
 obtain ⟨z,p,ys,rfl,rfl,hS,hok,q⟩:=h
 obtain ⟨t,rfl⟩:=rx
 obtain ⟨u,rfl,ru⟩:=xD rv
 cases ru
 obtain ⟨its,r,pl,_⟩:=I.list hS
 obtain ⟨l,rfl,e⟩:=XR r
 exact PySem.SC.join pl.isList e hok fun t' k=>⟨.str _,H,I.tok _,⟨_,rfl⟩,q⟩
theorem jl:∀ {bs:List Bool} {its:List Value} {i:Nat} {v:Value},Vals (bs.map V.bl) its -> its[i]? = some v -> v = .bool (bs.getD i false)
 | [],_,_,_,.nil,h=>by cases h
 | b :: bs,_,0,v,.cons r t,h=>by
  cases r
  cases h
  rfl
 | b :: bs,_,i + 1,v,.cons r t,h=>jl (bs:=bs) (i:=i) t h
theorem YE (bs:List Bool):(List.range bs.length).all (fun i=>bs.getD i false) = bs.all id:=by
 induction bs with
 | nil=>rfl
 | cons b bs ih =>
  rw [List.length_cons,List.range_succ_eq_map,List.all_cons,List.all_map,List.all_cons,<- ih]
  rfl
def zaa (K:PySem.W.Frag):List V -> Hp -> VK -> Prop:=fun xs H Q=>∃ (p:Addr) (bs:List Bool),xs = [.ref p] /\ SqL K H p (bs.map V.bl) /\ Q (.bl (bs.all id)) H
theorem Kc (hc:X.calm = true):wH X (.builtin "all") (zaa X.K):=by
 intro pins s σ H xs us Q I r h
 obtain ⟨p,bs,rfl,hS,q⟩:=h
 obtain ⟨u,rfl,ru⟩:=xD r
 cases ru
 obtain ⟨its,rv,pl,hz⟩:=I.list hS
 have hlen:its.length = bs.length:=by
  have:=rv.length
  rw [List.length_map] at this
  exact this.symm
 have hh:X.A.in1.handled = none:=I.ok.hd hc
 have hne:p ≠ s.heap.objs.size:=by
  obtain ⟨o,n,e,_⟩:=pl
  exact Nat.ne_of_lt (Heap.lt_size e)
 obtain ⟨f0,f1,f2,f3,f4,f5⟩:=I.fpOk (H':=H) (Nat.le_refl _) (I.hok.fresh (Nat.le_refl _))
 have I1:=I.kept (t':=s.toks) (h':=s.heap.push { cls:=.type "list_iterator",data:=.fields #[.ref p,.int 0 0] }) fun b o e=>Heap.get?_push_of_some _ e
 refine call_all_walk (wpAny_pyIter_list pl.isList ?_)
 refine ⟨s.heap.objs.size,_,_,_,_,_,fun i=>bs.getD i false,rfl,Walks.list hh s.heap.objs.size p hne its.toArray,⟨⟨_,Heap.get?_push_size _ rfl,rfl,rfl⟩,?_⟩,?_,?_⟩
 ·obtain ⟨o,n,e,c,d,dt⟩:=pl
  exact ⟨o,Heap.get?_push_of_some _ e,c,n,dt⟩
 ·intro i v s' Q' E' hv hq
  have:=jl rv (i:=i) (v:=v) (by simpa using hv)
  rw [this]
  exact wpAny_truthy_bool hq
 ·intro h' tk hk
  have e:(List.range its.toArray.size).all (fun i=>bs.getD i false) = bs.all id:=by
   rw [List.size_toArray,hlen,YE]
  rw [e]
  refine ⟨.bl _,H,?_,rfl,q⟩
  exact I1.turned (t':=tk) (it:=s.heap.objs.size) (fun b o hb q=>hk b o (by simpa using hb) q) f0 f1 f3 f4 f5
end
end L3
namespace L3
open PySem PySem.Spec PyProof.Rows L2
section
variable {M:Model} {A:Around} {E:Value -> Shared -> Prop} {s:Shared} {base:Heap} {env env0:Env} {outer:List Env} {L x t C:Addr} {dx:Option Addr}
end
section
variable {X:Cx} {pins:List (Addr × Obj)} {σ:St} {H1:Hp} {s1:Shared}
theorem Inv.noted {h':Heap} {x T:Addr} {tb:Value} (I1:Inv X pins σ H1 s1) (hst:X.stack = X.env :: X.outer) (fx:wy X pins H1 x) (fT:∀ T,tb = .ref T -> wy X pins H1 T) (fT':wy X pins H1 T)
  (k1:∀ b o,b ≠ x -> tb ≠ .ref b -> b ∉ frs (X.env :: X.outer) -> s1.heap.get? b = some o -> h'.get? b = some o) (k2:∀ b o,b ≠ x -> tb ≠ .ref b -> s1.heap.get? b = some o -> ∃ sl,h'.get? b = some { o with slots:=sl }):Inv X pins σ H1 { s1 with heap:=h' }:=by
 have tbs:∀ b,tb = .ref b -> H1 b = none:=fun b hb=>(fT b hb).1
 have nch:∀ b o,s1.heap.get? b = some o -> b ∉ (x :: T :: tbL tb) -> b ≠ x /\ tb ≠ .ref b:=fun b o _ hb=>by
  refine ⟨fun z=>hb (by simp [z]),fun z=>hb ?_⟩
  rw [z]
  simp [tbL]
 have un:Un (frs X.stack) (x :: T :: tbL tb) H1 H1 s1.heap h':=by
  rw [hst]
  refine ⟨fun b o e n hb hc=>?_,fun b o e n hb hc=>?_,fun b o e n _=>n,fun b o e hc=>?_,fun b xs e=>e,fun b o u e=>e,fun b ps e=>⟨#[],by rw [e]; simp⟩⟩
  ·obtain ⟨a1,a2⟩:=nch b o e hc
   exact k1 b o a1 a2 hb e
  ·obtain ⟨a1,a2⟩:=nch b o e hc
   exact k2 b o a1 a2 e
  ·obtain ⟨a1,a2⟩:=nch b o e hc
   obtain ⟨sl,q⟩:=k2 b o a1 a2 e
   exact ⟨_,q⟩
 have hok:HOk X.prog X.w H1 h':=fun b u e=>by
  refine (I1.hok b u e).stay (fun c v hc q=>k1 c v ?_ ?_ ?_ q) (fun _ q=>q) fun _ _ q=>q
  ·rintro rfl
   rcases hc with rfl | hc
   ·rw [fx.1] at e; cases e
   ·rw [fx.1] at hc; cases hc
  ·intro z
   have:=tbs c z
   rcases hc with rfl | hc
   ·rw [this] at e; cases e
   ·rw [this] at hc; cases hc
  ·intro z
   rw [<- hst] at z
   have:=I1.stkFree c z
   rcases hc with rfl | hc
   ·rw [this] at e; cases e
   ·rw [this] at hc; cases hc
 exact I1.call' (s':={ s1 with heap:=h' }) rfl un hok I1.bare fun b hb=>by
  have fb:wy X pins H1 b:=by
   rcases List.mem_cons.mp hb with z | z
   ·rw [z]; exact fx
   ·rcases List.mem_cons.mp z with z | z
    ·rw [z]; exact fT'
    ·cases tb with
     | ref b' =>
      have:b = b':=by simpa [tbL] using z
      rw [this]; exact fT b' rfl
     | _=>simp [tbL] at z
  obtain ⟨_,a1,_,a3,a4,a5⟩:=fb
  exact ⟨a3,a1,a4,a5⟩
end
section
variable {X:Cx} {scope:Scope} {own caps:List Str} {ix:List Nat} {cl:List (Str × Addr)}
end
section
variable {X:Cx} {scope:Scope} {own caps:List Str} {ix:List Nat} {elt tg iter:Expr} {ifs:List Expr} {pos:Pos} {wi:TI} {g:TG} {tt:TT} {te:TE}
end
end L3
namespace L3
open PySem PySem.Spec PyProof.Rows L2
open AutoSeq1 (wpAny_loadPart')
open MeetsSeq MeetsSeq2 MeetsSeq3 SeqRoads2 SeqAt
def LtAt (A:Around) (s:Shared) (y x:Value) (b:Bool):Prop :=
 ∀ (prog:Program) (w:World) (E:Value -> Shared -> Prop) (Q:Value -> Shared -> Prop),Q (.bool b) s -> wpAny (model prog w) A (richCompare .Lt y x) Q E s
def ZL (e t r:Nat -> Bool) (m n:Nat):Prop:=∀ i,i <= m -> i <= n -> r i = if i < m /\ i < n then (if e i = true then r (i + 1) else t i) else decide (m < n)
theorem Yn (l b:Addr) (items items2:Array Value) (n n2:Nat) (dd dd2:Option Addr) (sl sl2:Array (Option Value)) (e t r:Nat -> Bool) (hr:ZL e t r items.size items2.size) (k:Nat) :
  ∀ i:Nat,i <= items.size -> i <= items2.size -> items.size - i = k -> Meets (Builtin.«list.__eq__.loop» ⟨[.ref l,.ref b,rawInt i,rawInt 0],[]⟩)
   (fun A R s=>s.heap.get? l = some { cls:=.type "list",dict:=dd,data:=.seq items n,slots:=sl } /\ s.heap.get? b = some { cls:=.type "list",dict:=dd2,data:=.seq items2 n2,slots:=sl2 } /\
    (∀ j (h1:j < items.size) (h2:j < items2.size),EqAt A.in1 s items[j] items2[j] (e j)) /\ (∀ j (h1:j < items.size) (h2:j < items2.size),e j = false -> LtAt A.in1 s items[j] items2[j] (t j)) /\
    R (.ok (.ret (.bool (r i)))) s):=by
 induction k with
 | zero =>
  intro i b1 b2 hk prog w A R s h
  obtain ⟨hp,g,d,tk,os⟩:=s; obtain ⟨hl,hb,he,ht,h⟩:=h
  have hri:=hr i b1 b2
  rw [if_neg (by omega)] at hri
  rw [hri] at h
  wp_walk using wpAny_loadPart' hl,wpAny_loadPart' hb
  have hi1:items[((i:Nat):Int).toNat]? = none:=by simp; omega
  rw [hi1]
  wp_walk using wpAny_loadPart' hl,wpAny_loadPart' hb
  exact h
 | succ k ih =>
  intro i b1 b2 hk prog w A R s h
  obtain ⟨hp,g,d,tk,os⟩:=s; obtain ⟨hl,hb,he,ht,h⟩:=h
  have hlt:i < items.size:=by omega
  have hi1:items[((i:Nat):Int).toNat]? = some items[i]:=by simp [hlt]
  have hc:((i:Int) + 1) = ((i + 1:Nat):Int):=by push_cast; rfl
  have hri:=hr i b1 b2
  by_cases hlt2:i < items2.size
  ·rw [if_pos ⟨hlt,hlt2⟩] at hri
   rw [hri] at h
   have hi2:items2[((i:Nat):Int).toNat]? = some items2[i]:=by simp [hlt2]
   wp_walk using wpAny_loadPart' hl,wpAny_loadPart' hb
   rw [hi1,hi2]
   refine wpAny_bind (he i hlt hlt2 prog w _ _ ?_)
   cases hb':e i with
   | true =>
    rw [hb',if_pos rfl] at h
    wp_walk
    rw [hc]
    exact ⟨plainId_quiet plain_eq_loop _,codeAny_builtin entry_eq_loop (by
     rw [Around.under_plainId plain_eq_loop _]
     exact ih (i + 1) (by omega) (by omega) (by omega) prog w A R _ ⟨hl,hb,he,ht,h⟩)⟩
   | false =>
    rw [hb',if_neg Bool.false_ne_true] at h
    wp_walk using wpAny_loadPart' hl,wpAny_loadPart' hb
    rw [hi1,hi2]
    refine wpAny_bind (ht i hlt hlt2 hb' prog w _ _ ?_)
    wp_walk
    exact h
  ·rw [if_neg (by omega)] at hri
   rw [hri] at h
   have hi2:items2[((i:Nat):Int).toNat]? = none:=by simp; omega
   wp_walk using wpAny_loadPart' hl,wpAny_loadPart' hb
   rw [hi1,hi2]
   wp_walk using wpAny_loadPart' hl,wpAny_loadPart' hb
   exact h
theorem Xf (l b:Addr) (items items2:Array Value) (n n2:Nat) (dd dd2:Option Addr) (sl sl2:Array (Option Value)) (e t r:Nat -> Bool) (hr:ZL e t r items.size items2.size) :
  Meets (Builtin.«list.__lt__» ⟨[.ref l,.ref b],[]⟩)
   (fun A R s=>s.heap.get? l = some { cls:=.type "list",dict:=dd,data:=.seq items n,slots:=sl } /\ s.heap.get? b = some { cls:=.type "list",dict:=dd2,data:=.seq items2 n2,slots:=sl2 } /\
    (∀ j (h1:j < items.size) (h2:j < items2.size),EqAt A.in1 s items[j] items2[j] (e j)) /\ (∀ j (h1:j < items.size) (h2:j < items2.size),e j = false -> LtAt A.in1 s items[j] items2[j] (t j)) /\
    R (.ok (.ret (.bool (r 0)))) s):=by
 intro prog w A R s h
 obtain ⟨hp,g,d,tk,os⟩:=s; obtain ⟨hl,hb,he,ht,h⟩:=h
 have f3:=AutoSeq1.sub_list_list
 wp_walk using wpAny_loadPart' hl,wpAny_loadPart' hb
 exact ⟨plainId_quiet plain_eq_loop _,codeAny_builtin entry_eq_loop (by
  rw [Around.under_plainId plain_eq_loop _]
  exact Yn l b items items2 n n2 dd dd2 sl sl2 e t r hr _ 0 (Nat.zero_le _) (Nat.zero_le _) rfl prog w A R _ ⟨hl,hb,he,ht,h⟩)⟩
theorem Z0 (l b:Addr) (items items2:Array Value) (n n2:Nat) (dd dd2:Option Addr) (sl sl2:Array (Option Value)) (e t r:Nat -> Bool) (hr:ZL e t r items.size items2.size) :
  Meets (Builtin.«tuple.__lt__» ⟨[.ref l,.ref b],[]⟩)
   (fun A R s=>s.heap.get? l = some { cls:=.type "tuple",dict:=dd,data:=.seq items n,slots:=sl } /\ s.heap.get? b = some { cls:=.type "tuple",dict:=dd2,data:=.seq items2 n2,slots:=sl2 } /\
    (∀ j (h1:j < items.size) (h2:j < items2.size),EqAt A.in1 s items[j] items2[j] (e j)) /\ (∀ j (h1:j < items.size) (h2:j < items2.size),e j = false -> LtAt A.in1 s items[j] items2[j] (t j)) /\
    R (.ok (.ret (.bool (r 0)))) s) :=
 .of_wp fun prog w A R s h=>by
  obtain ⟨hp,g,d,tk,os⟩:=s; obtain ⟨hl,hb,he,ht,h⟩:=h
  have f2:=AutoSeq1.sub_tuple_tuple
  have hZ:(items.toList.zip items2.toList).length = min items.size items2.size:=by simp
  wp_walk using wpAny_loadPart' hl,wpAny_loadPart' hb,wpAny_forIn_list _ (fun rest b s'=>b.1 = none /\ s' = ⟨hp,g,d,tk,os⟩ /\ ∃ i,i <= min items.size items2.size /\ rest = (items.toList.zip items2.toList).drop i /\
   R (.ok (.ret (.bool (r i)))) ⟨hp,g,d,tk,os⟩) _
  case turn =>
   rintro ⟨y,x⟩ rest b s' ⟨hb',rfl,i,hi,hz,hR⟩
   have hlt:i < (items.toList.zip items2.toList).length:=by
    rcases Nat.lt_or_ge i (items.toList.zip items2.toList).length with h' | h'
    ·exact h'
    ·rw [List.drop_of_length_le h'] at hz; cases hz
   have hm:i < min items.size items2.size:=hZ ▸ hlt
   have h1:i < items.size:=Nat.lt_of_lt_of_le hm (Nat.min_le_left _ _)
   have h2:i < items2.size:=Nat.lt_of_lt_of_le hm (Nat.min_le_right _ _)
   rw [List.drop_eq_getElem_cons hlt] at hz
   injection hz with hyx hrest
   have hy:y = items[i]:=by have:=congrArg Prod.fst hyx; simpa using this
   have hx:x = items2[i]:=by have:=congrArg Prod.snd hyx; simpa using this
   subst hy hx
   have hri:=hr i (by omega) (by omega)
   rw [if_pos ⟨h1,h2⟩] at hri
   rw [hri] at hR
   refine wpAny_bind (he i h1 h2 prog w _ _ ?_)
   cases hy:e i with
   | true =>
    rw [hy,if_pos rfl] at hR
    wp_walk
    exact ⟨rfl,rfl,i + 1,by omega,hrest,hR⟩
   | false =>
    rw [hy,if_neg Bool.false_ne_true] at hR
    simp only [Bool.not_false,if_true]
    refine wpAny_bind (wpAny_rule ?_)
    refine wpAny_bind (ht i h1 h2 hy prog w _ _ ?_)
    wp_walk
    exact ⟨_,rfl,hR⟩
  case fin =>
   rintro ⟨b1,b2⟩ s' ⟨hb',rfl,i,hi,hz,hR⟩
   simp only at hb'
   subst hb'
   have hge:min items.size items2.size <= i:=by
    rcases Nat.lt_or_ge i (items.toList.zip items2.toList).length with h' | h'
    ·rw [List.drop_eq_getElem_cons h'] at hz; cases hz
    ·exact hZ ▸ h'
   have hri:=hr i (by omega) (by omega)
   rw [if_neg (by omega)] at hri
   rw [hri] at hR
   wp_walk
   exact ⟨_,rfl,hR⟩
  case h =>
   exact ⟨rfl,rfl,0,Nat.zero_le _,rfl,h⟩
theorem LtAt.lists {A:Around} {s:Shared} {l b:Addr} {items items2:Array Value} {e t r:Nat -> Bool} (hl:s.heap.IsList l items) (hb:s.heap.IsList b items2) (hr:ZL e t r items.size items2.size) (hu:A.units < cLine)
  (he:∀ j (h1:j < items.size) (h2:j < items2.size),EqAt A.in1 s items[j] items2[j] (e j)) (ht:∀ j (h1:j < items.size) (h2:j < items2.size),e j = false -> LtAt A.in1 s items[j] items2[j] (t j)):LtAt A s (.ref l) (.ref b) (r 0):=fun prog w E Q h=>by
 obtain ⟨⟨cls,dd,data,sl⟩,ho,hc,n,hd⟩:=id hl
 obtain ⟨⟨cls2,dd2,data2,sl2⟩,ho2,hc2,n2,hd2⟩:=id hb
 simp only at hc hd hc2 hd2
 subst hc hd hc2 hd2
 exact richCompare_meets_room (op:=.Lt) ⟨_,ho,rfl⟩ ⟨_,ho2,rfl⟩ F.slot_list_lt F.entry_list_lt (F.args_list_lt_2 _ _) (Xf l b items items2 n n2 dd dd2 sl sl2 e t r hr)
  ⟨ho,ho2,he,ht,show Value.bool (r 0) ≠ Value.notImplemented /\ Q (.bool (r 0)) s from ⟨(fun x=>nomatch x),h⟩⟩ hu
theorem LtAt.tuples {A:Around} {s:Shared} {l b:Addr} {items items2:Array Value} {e t r:Nat -> Bool} (hl:s.heap.IsTuple l items) (hb:s.heap.IsTuple b items2) (hr:ZL e t r items.size items2.size) (hu:A.units < cLine)
  (he:∀ j (h1:j < items.size) (h2:j < items2.size),EqAt A.in1 s items[j] items2[j] (e j)) (ht:∀ j (h1:j < items.size) (h2:j < items2.size),e j = false -> LtAt A.in1 s items[j] items2[j] (t j)):LtAt A s (.ref l) (.ref b) (r 0):=fun prog w E Q h=>by
 obtain ⟨⟨cls,dd,data,sl⟩,ho,hc,n,hd⟩:=id hl
 obtain ⟨⟨cls2,dd2,data2,sl2⟩,ho2,hc2,n2,hd2⟩:=id hb
 simp only at hc hd hc2 hd2
 subst hc hd hc2 hd2
 exact richCompare_meets_room (op:=.Lt) ⟨_,ho,rfl⟩ ⟨_,ho2,rfl⟩ F.slot_tuple_lt F.entry_tuple_lt (F.args_tuple_lt_2 _ _) (Z0 l b items items2 n n2 dd dd2 sl sl2 e t r hr)
  ⟨ho,ho2,he,ht,show Value.bool (r 0) ≠ Value.notImplemented /\ Q (.bool (r 0)) s from ⟨(fun x=>nomatch x),h⟩⟩ hu
end L3
namespace L3
open PySem PySem.Spec PyProof.Rows L2
mutual
def okD:D -> D -> Prop
 | .int _,.int _=>True
 | .lst l,.lst m=>qb l m
 | .tup l,.tup m=>qb l m
 | _,_=>False
def qb:List D -> List D -> Prop
 | d :: l,e :: m=>okD d e /\ qb l m
 | _,_=>True
end
mutual
def ltD:D -> D -> Bool
 | .int a,.int b=>decide (a < b)
 | .lst l,.lst m=>vj l m
 | .tup l,.tup m=>vj l m
 | _,_=>false
def vj:List D -> List D -> Bool
 | d :: l,e :: m=>if eqD d e = true then vj l m else ltD d e
 | [],_ :: _=>true
 | _,[]=>false
end
theorem X7 (l m:List D):ZL (fun j=>eqD (l.getD j .non) (m.getD j .non)) (fun j=>ltD (l.getD j .non) (m.getD j .non)) (fun i=>vj (l.drop i) (m.drop i)) l.length m.length:=by
 intro i b1 b2
 simp only
 by_cases h:i < l.length /\ i < m.length
 ·rw [if_pos h,List.drop_eq_getElem_cons h.1,List.drop_eq_getElem_cons h.2,vj]
  rw [List.getD_eq_getElem?_getD,List.getD_eq_getElem?_getD,List.getElem?_eq_getElem h.1,List.getElem?_eq_getElem h.2]
  rfl
 ·rw [if_neg h]
  by_cases h1:i < l.length
  ·have h2:¬ i < m.length:=fun z=>h ⟨h1,z⟩
   rw [List.drop_eq_getElem_cons h1,List.drop_of_length_le (Nat.le_of_not_lt h2),vj]
   ·simp; omega
   all_goals simp
  ·rw [List.drop_of_length_le (Nat.le_of_not_lt h1)]
   by_cases h2:i < m.length
   ·rw [List.drop_eq_getElem_cons h2,vj]
    simp; omega
   ·rw [List.drop_of_length_le (Nat.le_of_not_lt h2),vj]
    ·simp; omega
    all_goals simp
theorem Qn:∀ {l m:List D} {j:Nat} {d e:D},qb l m -> l[j]? = some d -> m[j]? = some e -> okD d e
 | d :: l,e :: m,0,_,_,h,q1,q2=>by
  cases q1; cases q2
  simp only [qb] at h
  exact h.1
 | d :: l,e :: m,j + 1,_,_,h,q1,q2=>by
  simp only [qb] at h
  exact Qn (j:=j) h.2 q1 q2
section
variable {X:Cx} {pins:List (Addr × Obj)} {σ:St} {H:Hp} {s:Shared}
theorem Za {l m:List D} {xs ys:List V} {its its':List Value} {A:Around} {n:Nat} (hl:Iss X.K H l xs) (hm:Iss X.K H m ys) (r:Vals xs its) (r':Vals ys its') (hn:wz l < n) (ok:qb l m)
  (ih:∀ (d e:D) (x y:V) (u v:Value),dpD d < n -> okD d e -> Is X.K H d x -> Is X.K H e y -> RelV x u -> RelV y v -> LtAt A s u v (ltD d e)) :
  ∀ j (h1:j < its.toArray.size) (h2:j < its'.toArray.size),LtAt A s its.toArray[j] its'.toArray[j] (ltD (l.getD j .non) (m.getD j .non)):=by
 intro j h1 h2
 rw [List.size_toArray] at h1 h2
 have e1:=hl.len
 have e2:=hm.len
 have e3:=r.length
 have e4:=r'.length
 have g1:l[j]? = some l[j]:=List.getElem?_eq_getElem (by omega)
 have g2:m[j]? = some m[j]:=List.getElem?_eq_getElem (by omega)
 generalize l[j] = d at g1
 generalize m[j] = e at g2
 obtain ⟨x,hx,ix⟩:=hl.at g1
 obtain ⟨y,hy,iy⟩:=hm.at g2
 obtain ⟨u,hu,ru⟩:=xq r hx
 obtain ⟨v,hv,rv⟩:=xq r' hy
 have q1:its.toArray[j] = u:=by
  have:=(List.getElem?_eq_some_iff.mp hu).2
  simpa using this
 have q2:its'.toArray[j] = v:=by
  have:=(List.getElem?_eq_some_iff.mp hv).2
  simpa using this
 rw [q1,q2,List.getD_eq_getElem?_getD,List.getD_eq_getElem?_getD,g1,g2]
 exact ih d e x y u v (Nat.lt_of_le_of_lt (Um g1) hn) (Qn ok g1 g2) ix iy ru rv
theorem Vz (I:Inv X pins σ H s):∀ (n:Nat) (A:Around) (d e:D) (x y:V) (u v:Value),A.units + n < cLine -> dpD d < n -> okD d e -> Is X.K H d x -> Is X.K H e y -> RelV x u -> RelV y v -> LtAt A s u v (ltD d e):=by
 intro n
 induction n with
 | zero=>intro A d e x y u v _ h; exact absurd h (Nat.not_lt_zero _)
 | succ n ih =>
  intro A d e x y u v hu hd ok hx hy rx ry
  have hu1:A.units < cLine:=by omega
  have huA:A.in1.units + n < cLine:=by show A.units + 1 + n < cLine; omega
  cases d with
  | int a =>
   cases e with
   | int b =>
    simp only [Is] at hx hy
    subst hx hy
    obtain ⟨t,rfl⟩:=rx
    obtain ⟨t',rfl⟩:=ry
    exact fun prog w E Q h=>lt_int h
   | _=>simp only [okD] at ok
  | lst l =>
   cases e with
   | lst m =>
    simp only [Is] at hx hy
    obtain ⟨a,xs,rfl,h1,h2⟩:=hx
    obtain ⟨b,ys,rfl,g1,g2⟩:=hy
    cases rx; cases ry
    obtain ⟨its,r,p,_⟩:=I.list h1
    obtain ⟨its',r',p',_⟩:=I.list g1
    simp only [dpD] at hd
    simp only [okD] at ok
    have L1:=h2.len
    have L2:=g2.len
    have L3:=r.length
    have L4:=r'.length
    have st:=X7 l m
    rw [show l.length = its.toArray.size by simp only [List.size_toArray]; omega,show m.length = its'.toArray.size by simp only [List.size_toArray]; omega] at st
    exact LtAt.lists (A:=A) p.isList p'.isList st hu1 (xf h2 g2 r r' (n:=n) (by omega) fun d e x y u v q1 q2 q3 q4 q5=>ux I n A.in1 d e x y u v huA q1 q2 q3 q4 q5)
     (fun j h1 h2 _=>Za (n:=n) (A:=A.in1) ‹_› g2 r r' (by omega) ok (fun d e x y u v q1 q2 q3 q4 q5 q6=>ih A.in1 d e x y u v huA q1 q2 q3 q4 q5 q6) j h1 h2)
   | _=>simp only [okD] at ok
  | tup l =>
   cases e with
   | tup m =>
    simp only [Is] at hx hy
    obtain ⟨a,xs,rfl,h1,h2⟩:=hx
    obtain ⟨b,ys,rfl,g1,g2⟩:=hy
    cases rx; cases ry
    obtain ⟨its,r,p,_⟩:=I.tuple h1
    obtain ⟨its',r',p',_⟩:=I.tuple g1
    simp only [dpD] at hd
    simp only [okD] at ok
    have L1:=h2.len
    have L2:=g2.len
    have L3:=r.length
    have L4:=r'.length
    have st:=X7 l m
    rw [show l.length = its.toArray.size by simp only [List.size_toArray]; omega,show m.length = its'.toArray.size by simp only [List.size_toArray]; omega] at st
    exact LtAt.tuples (A:=A) p p' st hu1 (xf h2 g2 r r' (n:=n) (by omega) fun d e x y u v q1 q2 q3 q4 q5=>ux I n A.in1 d e x y u v huA q1 q2 q3 q4 q5)
     (fun j h1 h2 _=>Za (n:=n) (A:=A.in1) ‹_› g2 r r' (by omega) ok (fun d e x y u v q1 q2 q3 q4 q5 q6=>ih A.in1 d e x y u v huA q1 q2 q3 q4 q5 q6) j h1 h2)
   | _=>simp only [okD] at ok
  | non=>cases e <;> simp only [okD] at ok
  | bl _=>cases e <;> simp only [okD] at ok
  | str _=>cases e <;> simp only [okD] at ok
def JD (K:PySem.W.Frag):R2:=fun x y H Q=>∃ d e,Is K H d x /\ Is K H e y /\ dpD d < 50 /\ okD d e /\ Q (.bl (ltD d e)) H
theorem XD (hu:X.A.units + 100 < cLine):OpR X (compareOp .Lt) (JD X.K):=by
 intro pins s σ H x y v u Q I rx ry h
 obtain ⟨d,e,hx,hy,hd,ok,q⟩:=h
 exact Vz I 50 X.A d e x y v u (by omega) hd ok hx hy rx ry X.prog X.w X.xe _ ⟨.bl _,H,I,rfl,q⟩
end
theorem X5 {K:PySem.W.Frag} {x y:V} {H:Hp} {Q:VK} {d e:D} (h1:Is K H d x) (h2:Is K H e y) (h3:dpD d < 50) (h4:okD d e) (q:Q (.bl (ltD d e)) H):JD K x y H Q:=⟨d,e,h1,h2,h3,h4,q⟩
def ltI:List Int -> List Int -> Bool
 | a :: l,b :: m=>if a = b then ltI l m else decide (a < b)
 | [],_ :: _=>true
 | _,[]=>false
theorem vc:∀ (l m:List Int),qb (l.map D.int) (m.map D.int)
 | [],_=>by simp only [List.map_nil,qb]
 | _ :: _,[]=>by simp only [List.map_nil,List.map_cons,qb]
 | a :: l,b :: m=>by simp only [List.map_cons,qb,okD,true_and]; exact vc l m
theorem jS:∀ (l m:List Int),vj (l.map D.int) (m.map D.int) = ltI l m
 | [],[]=>by simp only [List.map_nil,vj,ltI]
 | [],_ :: _=>by simp only [List.map_nil,List.map_cons,vj,ltI]
 | _ :: _,[]=>by simp only [List.map_nil,List.map_cons,vj,ltI]
 | a :: l,b :: m=>by
  simp only [List.map_cons,vj,ltI,eqD,ltD,jS l m,beq_iff_eq]
end L3
namespace L3
open PySem PySem.Spec PyProof.Rows L2
mutual
def xB:D -> Prop
 | .lst _=>False
 | .tup l=>zY l
 | _=>True
def zY:List D -> Prop
 | []=>True
 | d :: l=>xB d /\ zY l
end
theorem qH {K:PySem.W.Frag} {H:Hp} {a p:Addr} {xs ys zs:List V} (hp:H p = some (.lst ys)) (h:SqT K H a xs):SqT K (upd H p (.lst zs)) a xs:=by
 rcases h with (h | ⟨o,h⟩) | h
 ·refine .inl (.inl ?_)
  rw [zp (fun e=>by rw [e,hp] at h; cases h)]
  exact h
 ·refine .inl (.inr ⟨o,?_⟩)
  rw [zp (fun e=>by rw [e,hp] at h; cases h)]
  exact h
 ·exact .inr h
mutual
theorem Is.updL {K:PySem.W.Frag} {H:Hp} {p:Addr} {ys zs:List V} (hp:H p = some (.lst ys)):∀ (d:D) (v:V),xB d -> Is K H d v -> Is K (upd H p (.lst zs)) d v
 | .non,v,_,h=>by simp only [Is] at h ⊢; exact h
 | .bl b,v,_,h=>by simp only [Is] at h ⊢; exact h
 | .int b,v,_,h=>by simp only [Is] at h ⊢; exact h
 | .str b,v,_,h=>by simp only [Is] at h ⊢; exact h
 | .lst l,v,f,h=>by simp only [xB] at f
 | .tup l,v,f,h=>by
  simp only [Is] at h ⊢
  simp only [xB] at f
  obtain ⟨a,xs,e1,e2,e3⟩:=h
  exact ⟨a,xs,e1,qH hp e2,Iss.updL hp l xs f e3⟩
theorem Iss.updL {K:PySem.W.Frag} {H:Hp} {p:Addr} {ys zs:List V} (hp:H p = some (.lst ys)):∀ (l:List D) (vs:List V),zY l -> Iss K H l vs -> Iss K (upd H p (.lst zs)) l vs
 | [],vs,_,h=>by simp only [Iss] at h ⊢; exact h
 | d :: l,vs,f,h=>by
  simp only [Iss] at h ⊢
  simp only [zY] at f
  obtain ⟨v,r,e1,e2,e3⟩:=h
  exact ⟨v,r,e1,Is.updL hp d v f.1 e2,Iss.updL hp l r f.2 e3⟩
end
theorem wX:∀ {l:List D},(∀ d ∈ l,xB d) -> zY l
 | [],_=>by simp only [zY]
 | d :: l,h=>by simp only [zY]; exact ⟨h d (by simp),wX fun e he=>h e (by simp [he])⟩
theorem qK {n:Nat}:∀ {l:List D},(∀ d ∈ l,dpD d <= n) -> wz l <= n
 | [],_=>by simp only [wz]; omega
 | d :: l,h=>by
  have h1:=h d (by simp)
  have h2:=qK (n:=n) (l:=l) fun e he=>h e (by simp [he])
  simp only [wz]
  omega
def LsA (K:PySem.W.Frag) (H:Hp) (a:Addr) (ds:List D):Prop:=∃ xs,H a = some (.lst xs) /\ Iss K H ds xs
theorem LsA.same {K:PySem.W.Frag} {H H':Hp} {a:Addr} {ds:List D} (h:LsA K H a ds) (e:Same H H'):LsA K H' a ds:=let ⟨xs,h1,h2⟩:=h; ⟨xs,e _ _ h1,Iss.same e _ _ h2⟩
theorem LsA.is {K:PySem.W.Frag} {H:Hp} {a:Addr} {ds:List D} (h:LsA K H a ds):Is K H (.lst ds) (.ref a):=by
 obtain ⟨xs,h1,h2⟩:=h
 simp only [Is]
 exact ⟨a,xs,rfl,SqL.of h1,h2⟩
theorem LsA.nil {K:PySem.W.Frag} {H:Hp} {a:Addr}:LsA K (upd H a (.lst [])) a []:=⟨[],zd,by simp only [Iss]⟩
theorem LsA.snoc {K:PySem.W.Frag} {H:Hp} {a:Addr} {ds:List D} {d:D} {xs:List V} {v:V} (h1:H a = some (.lst xs)) (h2:Iss K H ds xs) (f:zY ds) (fd:xB d) (hv:Is K H d v):LsA K (upd H a (.lst (xs ++ [v]))) a (ds ++ [d]) :=
 ⟨_,zd,Iss.append (Iss.updL h1 _ _ f h2) (by simp only [Iss]; exact ⟨v,[],rfl,Is.updL h1 _ _ fd hv,rfl⟩)⟩
theorem Is.tup {K:PySem.W.Frag} {H:Hp} {p:Addr} {vs:List V} {ds:List D} (hp:H p = none) (h:Iss K H ds vs):Is K (upd H p (.tup vs)) (.tup ds) (.ref p):=by
 simp only [Is]
 exact ⟨p,vs,rfl,SqT.of zd,Iss.same (zg hp) _ _ h⟩
abbrev dS (l:List Nat):D:=.str (tx l)
abbrev zH:=List Nat × List Nat
def dR (r:zH):D:=.tup [dS r.1,dS r.2]
theorem Kd {K:PySem.W.Frag} {H:Hp} {r:zH} {v:V} (h:Is K H (dR r) v):∃ p,v = .ref p /\ SqT K H p [.str (tx r.1),.str (tx r.2)]:=by
 simp only [dR,Is,Iss] at h
 obtain ⟨a,xs,e,hs,v1,r1,rfl,rfl,v2,r2,rfl,rfl,rfl⟩:=h
 exact ⟨a,e,hs⟩
theorem UD (r:zH):xB (dR r):=by simp only [dR,xB,zY,and_self]
theorem Kg (r:zH):dpD (dR r) <= 1:=by simp only [dR,dpD,wz]; omega
theorem Zp (rs:List zH):zY (rs.map dR):=wX fun d h=>by obtain ⟨r,_,rfl⟩:=List.mem_map.mp h; exact UD r
theorem QV (rs:List zH):wz (rs.map dR) <= 1:=qK fun d h=>by obtain ⟨r,_,rfl⟩:=List.mem_map.mp h; exact Kg r
abbrev N3:=Nat × Nat × Nat
def d3 (t:N3):D:=.tup [.int (t.1:Nat),.int (t.2.1:Nat),.int (t.2.2:Nat)]
theorem Iss.get {K:PySem.W.Frag} {H:Hp} {l:List D} {vs:List V} {j:Nat} {v:V} (h:Iss K H l vs) (q:vs[j]? = some v):∃ d,l[j]? = some d /\ Is K H d v:=by
 have hj:=(List.getElem?_eq_some_iff.mp q).1
 have hl:=h.len
 have g1:l[j]? = some l[j]:=List.getElem?_eq_getElem (by omega)
 obtain ⟨x,hx,ix⟩:=h.at g1
 rw [q] at hx
 cases hx
 exact ⟨_,g1,ix⟩
theorem Iss.getR {K:PySem.W.Frag} {H:Hp} {rs:List zH} {vs:List V} {j:Nat} {v:V} (h:Iss K H (rs.map dR) vs) (q:vs[j]? = some v):∃ r p,rs[j]? = some r /\ v = .ref p /\ SqT K H p [.str (tx r.1),.str (tx r.2)]:=by
 obtain ⟨d,e,i⟩:=h.get q
 rw [List.getElem?_map] at e
 obtain ⟨r,hr,rfl⟩:=Option.map_eq_some_iff.mp e
 obtain ⟨p,e1,e2⟩:=Kd i
 exact ⟨r,p,hr,e1,e2⟩
end L3
namespace L3
open PySem PySem.Spec PyProof.Rows L2
open Classical in
section
variable {X:Cx} {pins:List (Addr × Obj)} {σ:L2.St} {H:Hp} {s:Shared}
open Classical in
end
end L3
namespace L3
open PySem PySem.Spec PyProof.Rows L2
structure DM (P:Program) (w:World) (K:PySem.W.Frag) (mg:Str -> Option Value) (base:Heap) (CX:CXT) (k:Nat) (C:Addr) (m:Str) (ps:List Str) (sp:Sp):Prop where
 ex:∃ f fd,Jb K C m f /\ yk P w K mg base CX k f fd ps sp /\ Binds K fd ps []
structure DMk (P:Program) (w:World) (K:PySem.W.Frag) (mg:Str -> Option Value) (base:Heap) (CX:CXT) (k:Nat) (C:Addr) (ps:List Str) (sp:Sp):Prop where
 ex:∃ f fd,Mk K C f /\ yk P w K mg base CX k f fd ps sp /\ Binds K fd ps []
section
variable {X:Cx} {k j:Nat} {C:Addr} {m:Str} {ps:List Str} {sp:Sp} {o e:Expr} {es:List Expr} {ta:TE} {t:TA} {apos pos p:Pos} {x:Str} {E:XK}
theorem me0 (D:DM X.prog X.w X.K X.mg X.base CX0 k C m ps sp) (c:Cls X.K C) (hr:Room j X.A) (he:PE X o ta) {pl:Sem Bool} (ht:eval (.Call (.Attribute o m apos) [] [] pos) X.env = (do
      let ov <- eval o X.env
      standAt apos.atName
      let (f,first) <- holding [ov] (getMethod ov m pl)
      callWith pos f first (backTo pos (starEach [] X.env)) (backToKw pos (keywordEach [] X.env))):=by rfl) (hj:k <= j:=by decide):PE X (.Call (.Attribute o m apos) [] [] pos) (jR C m sp [] E0 ta wB):=by
  obtain ⟨f,fd,hm,F,hb⟩:=D.ex
  exact WV he c hm F (hr.mono hj) hb .nil j1 ht
theorem me1 (D:DM X.prog X.w X.K X.mg X.base CX0 k C m ps sp) (c:Cls X.K C) (hr:Room j X.A) (he:PE X o ta) (ha:PA X (e :: es) t) {pl:Sem Bool}
    (hst:starEach (e :: es) X.env = (false,eval e X.env) :: starEach es X.env:=by rfl) (hpl:(backTo pos (starEach es X.env)).any (·.1) = false:=by rfl)
    (ht:eval (.Call (.Attribute o m apos) (e :: es) [] pos) X.env = (do
      let ov <- eval o X.env
      standAt apos.atName
      let (f,first) <- holding [ov] (getMethod ov m pl)
      callWith pos f first (backTo pos (starEach (e :: es) X.env)) (backToKw pos (keywordEach [] X.env))):=by rfl) (hj:k <= j:=by decide):PE X (.Call (.Attribute o m apos) (e :: es) [] pos) (jR C m sp [] E0 ta t):=by
  obtain ⟨f,fd,hm,F,hb⟩:=D.ex
  exact Uh he c hm F (hr.mono hj) hb .nil j1 ha hst hpl ht
theorem mkC (D:DMk X.prog X.w X.K X.mg X.base CX0 k C ps sp) (hr:Room j X.A) (hg:Gl X x) (hm:X.mg x = some (.ref C)) (ha:PA X (e :: es) t) (hdb:(x == ("__debug__" : Str)) = false:=by decide) (he:starEach (e :: es) X.env = (false,eval e X.env) :: starEach es X.env:=by rfl)
  (hpl:(backTo pos (starEach es X.env)).any (·.1) = false:=by rfl) (hj:k + 1 <= j:=by decide):PE X (.Call (.Name x p) (e :: es) [] pos) (Wx C sp [] E0 t):=by
 obtain ⟨f,fd,M,F,hb⟩:=D.ex
 exact Xx M F (hr.mono hj) hg hm hb .nil j1 ha hdb he hpl
end
end L3
namespace L3
open PySem PySem.Spec PyProof.Rows L2
section
variable {X:Cx}
end
section
variable {X:Cx} {k j:Nat} {C:Addr} {m:Str} {ps:List Str} {sp:Sp} {o e:Expr} {es:List Expr} {ta:TE} {t:TA} {apos pos p:Pos}
end
end L3
namespace L3
open PySem PySem.Spec PyProof.Rows L2
def zB (Fam:Addr -> Prop) (m:Str) (sp:Addr -> Sp) (dvs:List V) (E:XK) (ta:TE) (t:TA):TE:=fun σ H Q=>ta σ H fun x H1=>∃ C a dx fs,Fam C /\ x = .ref a /\ H1 a = some (.ins C dx fs) /\ fs.lookup m = none /\
 t σ H1 fun vs H2=>sp C (x :: (vs ++ dvs)) H2 Q E
structure DMF (P:Program) (w:World) (K:PySem.W.Frag) (mg:Str -> Option Value) (base:Heap) (CX:CXT) (k:Nat) (Fam:Addr -> Prop) (m:Str) (ps:List Str) (sp:Addr -> Sp):Prop where
 ex:∀ C,Fam C -> Cls K C /\ DM P w K mg base CX k C m ps (sp C)
section
variable {X:Cx} {k j:Nat} {Fam:Addr -> Prop} {m:Str} {ps:List Str} {sp:Addr -> Sp} {o e:Expr} {es:List Expr} {ta:TE} {t:TA} {apos pos p:Pos} {x:Str} {E:XK}
theorem zaE (D:DMF X.prog X.w X.K X.mg X.base CX0 k Fam m ps sp) (hr:Room j X.A) (he:PE X o ta) {pl:Sem Bool} (ht:eval (.Call (.Attribute o m apos) [] [] pos) X.env = (do
      let ov <- eval o X.env
      standAt apos.atName
      let (f,first) <- holding [ov] (getMethod ov m pl)
      callWith pos f first (backTo pos (starEach [] X.env)) (backToKw pos (keywordEach [] X.env))):=by rfl) (hj:k <= j:=by decide):PE X (.Call (.Attribute o m apos) [] [] pos) (zB Fam m sp [] E0 ta wB):=by
  intro pins s σ H Q I h
  refine PySem.W.methodCall_KW (pl:=pl) (thn (he pins s σ H _ I h) fun u s1 ⟨x,H1,I1,rx,C,a,dx,fs,fam,ex,ea,l,q⟩=>?_) ht
  subst ex
  obtain rfl:u = Value.ref a:=rx
  obtain ⟨c,⟨f,fd,hm,F,hb⟩⟩:=D.ex C fam
  refine xz I1 ea c hm l ?_
  exact PySem.W.callWith_K0 (first:=[.ref a]) I1.kIn hm.kp (qi (us:=[.ref a]) (vs:=[.ref a]) F (hr.mono hj) hb .nil j1 I1 (.cons rfl .nil) q)
theorem Jk (D:DMF X.prog X.w X.K X.mg X.base CX0 k Fam m ps sp) (hr:Room j X.A) (he:PE X o ta) (ha:PA X (e :: es) t) {pl:Sem Bool}
    (hst:starEach (e :: es) X.env = (false,eval e X.env) :: starEach es X.env:=by rfl) (hpl:(backTo pos (starEach es X.env)).any (·.1) = false:=by rfl)
    (ht:eval (.Call (.Attribute o m apos) (e :: es) [] pos) X.env = (do
      let ov <- eval o X.env
      standAt apos.atName
      let (f,first) <- holding [ov] (getMethod ov m pl)
      callWith pos f first (backTo pos (starEach (e :: es) X.env)) (backToKw pos (keywordEach [] X.env))):=by rfl) (hj:k <= j:=by decide):PE X (.Call (.Attribute o m apos) (e :: es) [] pos) (zB Fam m sp [] E0 ta t):=by
  intro pins s σ H Q I h
  refine PySem.W.methodCall_KW (pl:=pl) (thn (he pins s σ H _ I h) fun u s1 ⟨x,H1,I1,rx,C,a,dx,fs,fam,ex,ea,l,q⟩=>?_) ht
  subst ex
  obtain rfl:u = Value.ref a:=rx
  obtain ⟨c,⟨f,fd,hm,F,hb⟩⟩:=D.ex C fam
  refine xz I1 ea c hm l ?_
  refine PySem.W.callWith_K (first:=[.ref a]) (h₀:=X.base) I.ok.mod.kin hm.kp (thn (ha pos pins s1 σ H1 _ I1 q) fun us s2 ⟨vs,H2,I2,r,q2⟩=>⟨I2.kIn,?_⟩) hst hpl
  exact qi (us:=.ref a :: us) (vs:=.ref a :: vs) F (hr.mono hj) hb .nil j1 I2 (.cons rfl r) q2
end
section
variable {X:Cx}
theorem kZ:∀ {ns:List Int} {its:List Value},Vals (ns.map V.int) its -> IntsAre its ns
 | [],_,.nil=>.nil
 | n :: ns,_,.cons r t=>by
  obtain ⟨tk,rfl⟩:=r
  exact .cons n tk (kZ t)
def yS (K:PySem.W.Frag):List V -> Hp -> VK -> Prop:=fun xs H Q=>∃ (p:Addr) (ns:List Int),xs = [.ref p] /\ SqL K H p (ns.map V.int) /\ Q (.int ns.sum) H
theorem Qy (hc:X.calm = true):wH X (.builtin "sum") (yS X.K):=by
 intro pins s σ H xs us Q I r h
 obtain ⟨p,ns,rfl,hS,q⟩:=h
 obtain ⟨u,rfl,ru⟩:=xD r
 cases ru
 obtain ⟨its,rv,pl,hz⟩:=I.list hS
 have hh:X.A.handled = none:=I.ok.hd hc
 have ia:=kZ rv
 obtain ⟨ps,e⟩:=ia.allInts.items
 have en:ps.toList.map (·.1) = ns:=by
  rw [<- nums_intItems,<- e]
  exact ia.numsOf
 refine sum_intListG hh (by rw [<- e]; exact pl.isList) fun h' tk t' hk=>?_
 rw [preSum_eq,List.take_of_length_le (by simp),en]
 exact ⟨.int ns.sum,H,I.kept hk,⟨_,rfl⟩,q⟩
end
end L3
namespace L3
open PySem PySem.Spec PyProof.Rows L2
theorem ZN (l:List Nat):((Builtin.Str.strSliceIndices none none (-1) (tx l).length).filterMap ((tx l).cps[·]?)) = l.reverse:=by
 rw [yf,picked_rev]
 have e:(tx l).cps = l.toArray:=rfl
 rw [e]
 apply List.ext_getElem?
 intro i
 have h:((List.range l.length).map fun k=>l.length - 1 - k).filterMap (l.toArray[·]?) = (List.range l.length).map fun k=>l.getD (l.length - 1 - k) 0:=by
  rw [filterMap_get,List.map_map]
  ·refine List.map_congr_left fun k _=>?_
   show l.toArray.getD (l.length - 1 - k) 0 = _
   simp [Array.getD,List.getD]
   split <;> simp_all
  ·intro i hi
   obtain ⟨k,hk,rfl⟩:=List.mem_map.mp hi
   have:=List.mem_range.mp hk
   show _ < l.toArray.size
   rw [List.size_toArray]
   omega
 rw [h]
 by_cases hi:i < l.length
 ·rw [List.getElem?_reverse hi,List.getElem?_map,List.getElem?_range hi]
  show some (l.getD (l.length - 1 - i) 0) = _
  rw [List.getD_eq_getElem?_getD,List.getElem?_eq_getElem (by omega)]
  rfl
 ·rw [List.getElem?_eq_none (by simp; omega),List.getElem?_eq_none (by simp; omega)]
def yR (te ts:TE):TE:=fun σ H Q=>te σ H fun x H1=>ts σ H1 fun y H2=>y = .int (-1) /\ ∃ l:List Nat,x = .str (tx l) /\ l.length <= sizeLine /\ Q (.str (tx l.reverse)) H2
section
variable {X:Cx} {e st:Expr} {te ts:TE} {pos p2:Pos}
theorem Ut (he:PE X e te) (hs:PE X st ts):PE X (.Subscript e (.Slice none none (some st) p2) pos) (yR te ts):=by
 intro pins s σ H Q I h
 refine Subscript_ (thn (he pins s σ H _ I h) fun v s1 ⟨x,H1,I1,r1,q1⟩=>?_)
 refine wpAny_Slice ?_
 rw [evalPart_none]
 refine wpAny_pure (wpAny_pure ?_)
 rw [evalPart_some]
 refine thn (hs pins s1 σ H1 _ I1 q1) fun u s2 ⟨y,H2,I2,r2,ey,l,ex,hl,q2⟩=>?_
 subst ey ex
 obtain ⟨t,rfl⟩:=r1
 obtain ⟨tk,rfl⟩:=r2
 have I4:Inv X pins σ H2 { s2 with heap:=s2.heap.push { cls:=.type "slice",data:=.fields #[.none,.none,.int (-1) tk] } }:=I2.kept (t':=s2.toks) fun b ob q=>Heap.get?_push_of_some _ q
 show wpAny (model X.prog X.w) X.A (subscriptTail e (.Slice none none (some st) p2) (.str (tx l) t) (.ref s2.heap.objs.size)) (EP X pins σ Q) X.xe { s2 with heap:=s2.heap.push { cls:=.type "slice",data:=.fields #[.none,.none,.int (-1) tk] } }
 refine tail_any (ops:=[.ref s2.heap.objs.size,.str (tx l) t]) (typeIs_str _ (tx l) t) slot_str_getitem.lookup ?_ (by with_unfolding_all rfl)
 refine wpAny_getItem_str_slice (l:=none) (u:=none) (st:=some (-1,tk)) (Heap.IsSliceOf.new ..) rfl ?_
 unfold sliceMade slicePicked
 have hc':¬ (((some ((-1:Int),tk)).map (·.1)).getD 1 == 1 && (Builtin.Str.strSliceIndices ((none:Option (Int × Tok)).map (·.1)) ((none:Option (Int × Tok)).map (·.1)) (((some ((-1:Int),tk)).map (·.1)).getD 1) (tx l).length).length == (tx l).length) = true:=by
  have:(((some ((-1:Int),tk)).map (·.1)).getD 1 == 1) = false:=rfl
  rw [this]
  simp
 rw [if_neg hc']
 have e:Str.mk ((Builtin.Str.strSliceIndices none none (-1) (tx l).length).filterMap ((tx l).cps[·]?)).toArray = tx l.reverse:=by
  rw [ZN]
 show (Str.mk ((Builtin.Str.strSliceIndices none none (-1) (tx l).length).filterMap ((tx l).cps[·]?)).toArray).length <= sizeLine /\ _
 rw [e]
 refine ⟨by rw [yf,List.length_reverse]; exact hl,?_⟩
 exact ⟨.str (tx l.reverse),H2,I4.tok _,⟨_,by
  show Value.str (Str.mk ((Builtin.Str.strSliceIndices none none (-1) (tx l).length).filterMap ((tx l).cps[·]?)).toArray) _ = _
  rw [e]⟩,q2⟩
end
end L3
namespace L3
open PySem PySem.Spec PyProof.Rows L2
structure K7 (K:PySem.W.Frag) (C:Addr) (m:Str) (f:Addr):Prop where
 sg:PySem.W.specialIn K (.ref C) "__getattribute__" = some (some (.builtin "type.__getattribute__"))
 rd:PySem.W.readsIn K C (.type "type") = true
 fc:PySem.W.findCls K (.ref C) (.type "type") m = some (.val (.ref f))
 kp:PySem.W.keepIn K (.ref f) = true
structure DC (P:Program) (w:World) (K:PySem.W.Frag) (mg:Str -> Option Value) (base:Heap) (CX:CXT) (k:Nat) (C:Addr) (m:Str) (ps:List Str) (sp:Sp):Prop where
 ex:∃ f fd,K7 K C m f /\ yk P w K mg base CX k f fd ps sp /\ Binds K fd ps []
section
variable {X:Cx} {k j:Nat} {C:Addr} {m x:Str} {ps:List Str} {sp:Sp} {e:Expr} {es:List Expr} {t:TA} {apos pos p:Pos}
theorem V6 (D:DC X.prog X.w X.K X.mg X.base CX0 k C m ps sp) (hr:Room j X.A) (hg:Gl X x) (hm:X.mg x = some (.ref C)) (ha:PA X (e :: es) t) {pl:Sem Bool} (hdb:(x == ("__debug__" : Str)) = false:=by decide)
    (hst:starEach (e :: es) X.env = (false,eval e X.env) :: starEach es X.env:=by rfl) (hpl:(backTo pos (starEach es X.env)).any (·.1) = false:=by rfl)
    (ht:eval (.Call (.Attribute (.Name x p) m apos) (e :: es) [] pos) X.env = (do
      let ov <- eval (.Name x p) X.env
      standAt apos.atName
      let (f,first) <- holding [ov] (getMethod ov m pl)
      callWith pos f first (backTo pos (starEach (e :: es) X.env)) (backToKw pos (keywordEach [] X.env))):=by rfl) (hj:k <= j:=by decide):PE X (.Call (.Attribute (.Name x p) m apos) (e :: es) [] pos) (u8 sp [] E0 t):=by
  obtain ⟨f,fd,cm,F,hb⟩:=D.ex
  have hn:PE X (.Name x p) (tC (.ref C)):=xP hg hm rfl hdb
  intro pins s σ H Q I h
  refine PySem.W.methodCall_KW (pl:=pl) (thn (hn pins s σ H (fun y H1=>y = .ref C /\ H1 = H) I ⟨rfl,rfl⟩) fun u s1 ⟨y,H1,I1,ry,ey,eH⟩=>?_) ht
  subst ey eH
  obtain rfl:u = Value.ref C:=ry
  refine PySem.W.method_cls I1.kIn cm.sg (PySem.W.cls_value I1.kIn cm.rd cm.fc rfl ?_)
  refine PySem.W.callWith_K (first:=[]) (h₀:=X.base) I.ok.mod.kin cm.kp (thn (ha pos pins _ σ H1 _ (I1.tok _) h) fun us s2 ⟨vs,H2,I2,r,q2⟩=>⟨I2.kIn,?_⟩) hst hpl
  exact qi (us:=us) (vs:=vs) F (hr.mono hj) hb .nil j1 I2 r q2
def zA:V -> List V -> Hp -> VK -> Prop:=fun x xs H Q=>∃ (z y:Str) (i:Nat),x = .str z /\ xs = [.str y] /\ PySem.Txt.find z y = (i:Int) /\ Q (.int (i:Nat)) H
theorem Uj:MtR X "str.index" zA:=by
 intro pins s σ H x xs v us Q I rx rv h
 obtain ⟨z,y,i,rfl,rfl,hf,q⟩:=h
 obtain ⟨t,rfl⟩:=rx
 obtain ⟨u,rfl,t',rfl⟩:=xD rv
 unfold PySem.Txt.find at hf
 cases ho:Builtin.Str.occurrences z y 0 z.length 1 with
 | nil=>rw [ho] at hf; dsimp only at hf; omega
 | cons a r =>
  rw [ho] at hf
  have:a = i:=by dsimp only at hf; omega
  subst this
  exact PySem.SC.index ho ⟨.int _,H,I.tok _,⟨_,rfl⟩,q⟩
end
end L3
namespace L3
open PySem PySem.Spec PyProof.Rows L2
section
variable {prog:Program} {w:World} {A:Around} {E:Value -> Shared -> Prop} {s:Shared}
theorem wd {h h':Heap} {a:Addr} {ty:String} {x:Str} {t:Tok} {i:Nat} (y:h.IsStrIter a ty x t i) (e:∀ o,h.get? a = some o -> h'.get? a = some o):h'.IsStrIter a ty x t i:=let ⟨o,ho,r⟩:=y; ⟨o,e o ho,r⟩
theorem wN {h h':Heap} {a t:Addr} {i:Nat} (y:h.IsTupleIter a t i) (e:∀ o,h.get? a = some o -> h'.get? a = some o):h'.IsTupleIter a t i:=let ⟨o,ho,r⟩:=y; ⟨o,e o ho,r⟩
theorem Vs {h h':Heap} {a:Addr} {xs:Array Value} (y:h.IsTuple a xs) (e:∀ o,h.get? a = some o -> h'.get? a = some o):h'.IsTuple a xs:=let ⟨o,ho,r⟩:=y; ⟨o,e o ho,r⟩
theorem sit (x:Str):strIterType x = "str_ascii_iterator" \/ strIterType x = "str_iterator":=by
 unfold strIterType
 split
 ·exact .inl rfl
 ·exact .inr rfl
theorem uo {it:Addr} {x:Str} {t:Tok} {i c:Nat} {Q:Value -> Shared -> Prop} (hit:s.heap.IsStrIter it (strIterType x) x t i) (hx:x.cps[i]? = some c)
  (hQ:∀ h',h'.IsStrIter it (strIterType x) x t (i + 1) -> Heap.SameBut it s.heap h' -> Q (.str ⟨#[c]⟩ s.toks) { s with heap:=h',toks:=s.toks + 1 }) :
  wpAny (model prog w) A (Builtin.SmallTypes.nextOf (.ref it)) Q E s:=by
 rcases sit x with e | e
 ·rw [e] at hit hQ
  exact wpAny_nextOf_ascii_item hit hx hQ
 ·rw [e] at hit hQ
  exact wpAny_nextOf_wide_item hit hx hQ
theorem qa {it:Addr} {x:Str} {t:Tok} {i:Nat} {Q:Value -> Shared -> Prop} (hh:A.handled = none) (hit:s.heap.IsStrIter it (strIterType x) x t i) (hx:x.cps[i]? = none)
  (hE:∀ h' e,Heap.ExtBut it s.heap h' -> (∃ o,h'.get? e = some o /\ o.cls = .type "StopIteration") -> E (.ref e) { s with heap:=h' }) :
  wpAny (model prog w) A (Builtin.SmallTypes.nextOf (.ref it)) Q E s:=by
 rcases sit x with e | e
 ·rw [e] at hit
  exact wpAny_nextOf_ascii_end hh hit hx hE
 ·rw [e] at hit
  exact wpAny_nextOf_wide_end hh hit hx hE
theorem uN {it t:Addr} {i:Nat} {items:Array Value} {x:Value} {Q:Value -> Shared -> Prop} (hit:s.heap.IsTupleIter it t i) (ht:s.heap.IsTuple t items) (hx:items[i]? = some x)
  (hQ:∀ h',h'.IsTupleIter it t (i + 1) -> Heap.SameBut it s.heap h' -> Q x { s with heap:=h' }) :
  wpAny (model prog w) A (Builtin.SmallTypes.nextOf (.ref it)) Q E s:=by
 obtain ⟨o,ho,hc,hd⟩:=id hit
 obtain ⟨ol,hol,_,nl,hdl⟩:=ht
 unfold Builtin.SmallTypes.nextOf
 refine wpAny_bind (wpAny_callSpecial?_slot (name:=Str.ofString "__next__") hit.typeIs F.slot_tuple_iterator_next
  (wpAny_call_entry F.slot_tuple_iterator_next hit.typeIs F.entry_tuple_iterator_next ?_ (F.args_tuple_iterator_next_1 _)))
 show wpAny _ _ (field (.ref it) 0 >>= _) _ _ s
 refine wpAny_bind (wpAny_field ho hd (x:=.ref t) rfl ?_)
 show wpAny _ _ (if (Value.ref t == Value.none) = true then _ else _) _ _ s
 rw [if_neg (show ¬ ((Value.ref t == Value.none) = true) from Bool.false_ne_true)]
 show wpAny _ _ (field (.ref it) 1 >>= _) _ _ s
 refine wpAny_bind (wpAny_field ho hd (x:=.int i 0) rfl ?_)
 show wpAny _ _ (seqItems? (.ref t) >>= _) _ _ s
 refine wpAny_bind (wpAny_seqItems hol hdl ?_)
 simp only [Int.toNat_natCast,hx]
 refine wpAny_bind (wpAny_setField ho hd (by simp) (wpAny_pure ⟨x,rfl,wpAny_pure (hQ _ ?_ (Heap.SameBut.update ..))⟩))
 exact ⟨_,Heap.get?_update_self _ ho (Obj.isFreed_of_fields (Obj.data_mapFields hd _)),(Obj.cls_mapFields ..).trans hc,by
  rw [Obj.data_mapFields hd]; simp [rawInt]⟩
structure Qs (z TI TO i1 i2 l2:Addr):Prop extends Vk z TI TO i1 i2 where
 l2z:l2 ≠ z
 l2TO:l2 ≠ TO
 l2i1:l2 ≠ i1
 l2i2:l2 ≠ i2
theorem WB {z TI TO i1 i2 l2:Addr} {k c:Nat} {X:Str} {tx:Tok} {ys:Array Value} {y a b:Value} {Q:Value -> Shared -> Prop} (D:Qs z TI TO i1 i2 l2)
  (hz:IsZip s.heap z TI TO .none) (hTI:IsPair s.heap TI (.ref i1) (.ref i2)) (hTO:IsPair s.heap TO a b)
  (h1:s.heap.IsStrIter i1 (strIterType X) X tx k) (h2:s.heap.IsTupleIter i2 l2 k) (hl2:s.heap.IsTuple l2 ys) (hx:X.cps[k]? = some c) (hy:ys[k]? = some y)
  (hQ:∀ h' t',IsZip h' z TI TO (rawInt s.heap.objs.size) -> IsPair h' TO (.str ⟨#[c]⟩ t') y -> h'.IsStrIter i1 (strIterType X) X tx (k + 1) -> h'.IsTupleIter i2 l2 (k + 1) -> IsPair h' s.heap.objs.size (.str ⟨#[c]⟩ t') y -> h'.objs.size = s.heap.objs.size + 1 ->
   (∀ c o,c ≠ z -> c ≠ TO -> c ≠ i1 -> c ≠ i2 -> s.heap.get? c = some o -> h'.get? c = some o) -> Q (.ref s.heap.objs.size) { s with heap:=h',toks:=s.toks + 1 }) :
  wpAny (model prog w) A (Builtin.«zip.__next__» ⟨[.ref z],[]⟩) (fun fin s'=>∃ v,fin = .done (.ret v) /\ Q v s') E s:=by
 show wpAny _ _ (field (.ref z) 2 >>= _) _ _ _
 refine wpAny_bind (wpAny_field hz rfl (x:=.bool false) rfl ?_)
 show wpAny _ _ (field (.ref z) 3 >>= _) _ _ _
 refine wpAny_bind (wpAny_field hz rfl (x:=.ref TI) rfl ?_)
 refine wpAny_bind (wpAny_seqItems hTI rfl ?_)
 show wpAny _ _ (Builtin.SmallTypes.ownedTupleIsFree (.ref z) >>= _) _ _ _
 refine wpAny_bind ?_
 unfold Builtin.SmallTypes.ownedTupleIsFree
 refine wpAny_bind (wpAny_field hz rfl (x:=.none) rfl (wpAny_pure ?_))
 simp only [if_true]
 refine wpAny_bind (wpAny_rule ?_)
 refine wpAny_bind (wpAny_field hz rfl (x:=.ref TO) rfl ?_)
 refine wpAny_bind (wpAny_setField_rec hz (by simp) fun h₁ hz₁ hs₁=>?_)
 replace hz₁:IsZip h₁ z TI TO .ellipsis:=hz₁
 refine wpAny_bind ?_
 simp only [List.zipIdx_cons,List.zipIdx_nil,List.forIn_cons,List.forIn_nil]
 refine wpAny_bind (wpAny_bind (wpAny_onRaise ?_))
 show wpAny _ _ (Builtin.SmallTypes.nextOf (.ref i1) >>= _) _ _ _
 refine wpAny_bind (uo (s:={ s with heap:=h₁ }) (wd h1 fun o e=>hs₁.extBut _ _ D.i1z e) hx fun h₂ h1₂ hs₂=>wpAny_pure ?_)
 have hTO₂:IsPair h₂ TO a b:=hs₂.extBut _ _ D.TOi1 (hs₁.extBut _ _ D.TOz hTO)
 refine wpAny_bind (wpAny_seqItems hTO₂ rfl ?_)
 refine wpAny_bind (wpAny_updateSeq_pair hTO₂ fun h₃ hTO₃ hs₃=>?_)
 replace hTO₃:IsPair h₃ TO (.str ⟨#[c]⟩ s.toks) b:=hTO₃
 refine wpAny_bind (wpAny_letGo (wpAny_pure ?_))
 refine wpAny_bind (wpAny_bind (wpAny_onRaise ?_))
 show wpAny _ _ (Builtin.SmallTypes.nextOf (.ref i2) >>= _) _ _ _
 have up3:∀ d o,d ≠ z -> d ≠ i1 -> d ≠ TO -> s.heap.get? d = some o -> h₃.get? d = some o:=fun d o d1 d2 d3 e=>hs₃.extBut _ _ d3 (hs₂.extBut _ _ d2 (hs₁.extBut _ _ d1 e))
 refine wpAny_bind (uN (wN h2 fun o e=>up3 _ o D.i2z D.i12.symm D.TOi2.symm e) (Vs hl2 fun o e=>up3 _ o D.l2z D.l2i1 D.l2TO e) hy fun h₄ h2₄ hs₄=>wpAny_pure ?_)
 have hTO₄:IsPair h₄ TO (.str ⟨#[c]⟩ s.toks) b:=hs₄.extBut _ _ D.TOi2 hTO₃
 refine wpAny_bind (wpAny_seqItems hTO₄ rfl ?_)
 refine wpAny_bind (wpAny_updateSeq_pair hTO₄ fun h₅ hTO₅ hs₅=>?_)
 replace hTO₅:IsPair h₅ TO (.str ⟨#[c]⟩ s.toks) y:=hTO₅
 refine wpAny_bind (wpAny_letGo (wpAny_pure (wpAny_pure ?_)))
 refine wpAny_bind (wpAny_seqItems hTO₅ rfl ?_)
 refine wpAny_bind (wpAny_newTuple ?_)
 have hsz:h₅.objs.size = s.heap.objs.size:=by rw [hs₅.1,hs₄.1,hs₃.1,hs₂.1,hs₁.1]
 have hz₅:IsZip h₅ z TI TO .ellipsis:=hs₅.extBut _ _ D.TOz.symm (hs₄.extBut _ _ D.i2z.symm (hs₃.extBut _ _ D.TOz.symm (hs₂.extBut _ _ D.i1z.symm hz₁)))
 have hk₅:∀ c o,c ≠ z -> c ≠ TO -> c ≠ i1 -> c ≠ i2 -> s.heap.get? c = some o -> h₅.get? c = some o:=fun c o c1 c2 c3 c4 e =>
  hs₅.extBut _ _ c2 (hs₄.extBut _ _ c4 (up3 _ _ c1 c3 c2 e))
 have h1₅:h₅.IsStrIter i1 (strIterType X) X tx (k + 1):=wd h1₂ fun o e=>hs₅.extBut _ _ D.TOi1.symm (hs₄.extBut _ _ D.i12 (hs₃.extBut _ _ D.TOi1.symm e))
 have h2₅:h₅.IsTupleIter i2 l2 (k + 1):=wN h2₄ fun o e=>hs₅.extBut _ _ D.TOi2.symm e
 have hzlt:z < h₅.objs.size:=Heap.lt_size hz₅
 show wpAny _ _ (Builtin.SmallTypes.ownedTupleHandOut (.ref z) (.ref h₅.objs.size) >>= _) _ _ _
 refine wpAny_bind ?_
 unfold Builtin.SmallTypes.ownedTupleHandOut
 have hz₆:IsZip (h₅.push { cls:=.type "tuple",data:=.seq #[.str ⟨#[c]⟩ s.toks,y] }) z TI TO .ellipsis:=Heap.get?_push_of_some _ hz₅
 refine wpAny_bind (wpAny_setField_rec hz₆ (by simp) fun h₇ hz₇ hs₇=>?_)
 replace hz₇:IsZip h₇ z TI TO (rawInt h₅.objs.size):=hz₇
 refine wpAny_setField_rec hz₇ (by simp) fun h₈ hz₈ hs₈=>?_
 replace hz₈:IsZip h₈ z TI TO (rawInt h₅.objs.size):=hz₈
 have up:∀ c o,c ≠ z -> h₅.get? c = some o -> h₈.get? c = some o:=fun c o c1 e=>hs₈.extBut _ _ c1 (hs₇.extBut _ _ c1 (Heap.get?_push_of_some _ e))
 have hT₈:IsPair h₈ h₅.objs.size (.str ⟨#[c]⟩ s.toks) y:=hs₈.extBut _ _ (Nat.ne_of_gt hzlt) (hs₇.extBut _ _ (Nat.ne_of_gt hzlt) (Heap.get?_push_size _ rfl))
 have hz8:h₈.objs.size = h₅.objs.size + 1:=by rw [hs₈.1,hs₇.1,Heap.size_push]
 rw [hsz] at hz₈ hT₈ hz8
 refine wpAny_pure ⟨_,rfl,?_⟩
 show Q (.ref h₅.objs.size) _
 rw [hsz]
 exact hQ h₈ s.toks hz₈ (up _ _ D.TOz hTO₅) (wd h1₅ fun o e=>up _ o D.i1z e) (wN h2₅ fun o e=>up _ o D.i2z e) hT₈ hz8 fun c o c1 c2 c3 c4 e=>up c o c1 (hk₅ c o c1 c2 c3 c4 e)
theorem U4 {z TI TO i1 i2 l2:Addr} {k:Nat} {X:Str} {tx:Tok} {a b:Value} {Q:Fin -> Shared -> Prop} (hh:A.handled = none) (D:Qs z TI TO i1 i2 l2)
  (hz:IsZip s.heap z TI TO .none) (hTI:IsPair s.heap TI (.ref i1) (.ref i2)) (hTO:IsPair s.heap TO a b)
  (h1:s.heap.IsStrIter i1 (strIterType X) X tx k) (hx:X.cps[k]? = none)
  (hE:∀ h' e,(∀ c o,c ≠ z -> c ≠ TO -> c ≠ i1 -> c ≠ i2 -> s.heap.get? c = some o -> h'.get? c = some o) -> (∃ o,h'.get? e = some o /\ o.cls = .type "StopIteration") -> E (.ref e) { s with heap:=h' }) :
  wpAny (model prog w) A (Builtin.«zip.__next__» ⟨[.ref z],[]⟩) Q E s:=by
 show wpAny _ _ (field (.ref z) 2 >>= _) _ _ _
 refine wpAny_bind (wpAny_field hz rfl (x:=.bool false) rfl ?_)
 show wpAny _ _ (field (.ref z) 3 >>= _) _ _ _
 refine wpAny_bind (wpAny_field hz rfl (x:=.ref TI) rfl ?_)
 refine wpAny_bind (wpAny_seqItems hTI rfl ?_)
 show wpAny _ _ (Builtin.SmallTypes.ownedTupleIsFree (.ref z) >>= _) _ _ _
 refine wpAny_bind ?_
 unfold Builtin.SmallTypes.ownedTupleIsFree
 refine wpAny_bind (wpAny_field hz rfl (x:=.none) rfl (wpAny_pure ?_))
 simp only [if_true]
 refine wpAny_bind (wpAny_rule ?_)
 refine wpAny_bind (wpAny_field hz rfl (x:=.ref TO) rfl ?_)
 refine wpAny_bind (wpAny_setField_rec hz (by simp) fun h₁ hz₁ hs₁=>?_)
 replace hz₁:IsZip h₁ z TI TO .ellipsis:=hz₁
 refine wpAny_bind ?_
 simp only [List.zipIdx_cons,List.zipIdx_nil,List.forIn_cons,List.forIn_nil]
 refine wpAny_bind (wpAny_bind (wpAny_onRaise ?_))
 show wpAny _ _ (Builtin.SmallTypes.nextOf (.ref i1) >>= _) _ _ _
 refine wpAny_bind (qa (s:={ s with heap:=h₁ }) hh (wd h1 fun o e=>hs₁.extBut _ _ D.i1z e) hx fun h₂ e hs₂ he=>?_)
 obtain ⟨oe,hoe,hce⟩:=he
 have hz₂:IsZip h₂ z TI TO .ellipsis:=hs₂ _ _ D.i1z.symm hz₁
 have hez:e ≠ z:=fun x=>by subst x; rw [hz₂] at hoe; cases hoe; simp at hce
 refine wpAny_setField_rec hz₂ (by simp) fun h₃ _ hs₃=>hE h₃ e (fun c o c1 _ c3 _ x=>hs₃.extBut _ _ c1 (hs₂ _ _ c3 (hs₁.extBut _ _ c1 x))) ⟨oe,hs₃.extBut _ _ hez hoe,hce⟩
end
end L3
namespace L3
open PySem PySem.Spec PyProof.Rows L2
section
variable {prog:Program} {w:World} {A:Around} {E:Value -> Shared -> Prop} {s:Shared}
theorem uu {z TI TO i1 i2 l2:Addr} {k c:Nat} {X:Str} {tx:Tok} {ys:Array Value} {y a b:Value} {Q:Option Value -> Shared -> Prop} (D:Qs z TI TO i1 i2 l2)
  (hz:IsZip s.heap z TI TO .none) (hTI:IsPair s.heap TI (.ref i1) (.ref i2)) (hTO:IsPair s.heap TO a b)
  (h1:s.heap.IsStrIter i1 (strIterType X) X tx k) (h2:s.heap.IsTupleIter i2 l2 k) (hl2:s.heap.IsTuple l2 ys) (hx:X.cps[k]? = some c) (hy:ys[k]? = some y)
  (hQ:∀ h' t',IsZip h' z TI TO (rawInt s.heap.objs.size) -> IsPair h' TO (.str ⟨#[c]⟩ t') y -> h'.IsStrIter i1 (strIterType X) X tx (k + 1) -> h'.IsTupleIter i2 l2 (k + 1) -> IsPair h' s.heap.objs.size (.str ⟨#[c]⟩ t') y -> h'.objs.size = s.heap.objs.size + 1 ->
   (∀ c o,c ≠ z -> c ≠ TO -> c ≠ i1 -> c ≠ i2 -> s.heap.get? c = some o -> h'.get? c = some o) -> Q (some (.ref s.heap.objs.size)) { s with heap:=h',toks:=s.toks + 1 }) :
  wpAny (model prog w) A (pyNext (.ref z)) Q E s:=by
 have hT:s.TypeIs (.ref z) "zip":=⟨_,hz,rfl⟩
 unfold pyNext
 exact wpAny_bind (wpAny_attempt (wpAny_callSpecial?_slot (name:=Str.ofString "__next__") hT F.slot_zip_next
  (wpAny_call_entry F.slot_zip_next hT F.entry_zip_next
   (WB D hz hTI hTO h1 h2 hl2 hx hy fun h' t' a1 a2 a3 a4 a5 a6 a7=>wpAny_pure (hQ h' t' a1 a2 a3 a4 a5 a6 a7)) (F.args_zip_next_1 _))))
theorem uZ {z TI TO i1 i2 l2:Addr} {k:Nat} {X:Str} {tx:Tok} {a b:Value} {Q:Option Value -> Shared -> Prop} (hh:A.handled = none) (D:Qs z TI TO i1 i2 l2)
  (hz:IsZip s.heap z TI TO .none) (hTI:IsPair s.heap TI (.ref i1) (.ref i2)) (hTO:IsPair s.heap TO a b)
  (h1:s.heap.IsStrIter i1 (strIterType X) X tx k) (hx:X.cps[k]? = none)
  (hQ:∀ h',(∀ c o,c ≠ z -> c ≠ TO -> c ≠ i1 -> c ≠ i2 -> s.heap.get? c = some o -> h'.get? c = some o) -> Q none { s with heap:=h' }):wpAny (model prog w) A (pyNext (.ref z)) Q E s:=by
 have hT:s.TypeIs (.ref z) "zip":=⟨_,hz,rfl⟩
 unfold pyNext
 refine wpAny_bind (wpAny_attempt (wpAny_callSpecial?_slot (name:=Str.ofString "__next__") hT F.slot_zip_next
  (wpAny_call_entry F.slot_zip_next hT F.entry_zip_next (U4 hh D hz hTI hTO h1 hx fun h' e hk he=>?_) (F.args_zip_next_1 _))))
 obtain ⟨o,ho,hc⟩:=he
 refine wpAny_bind (wpAny_isInstance (T:="StopIteration") (b:=true) ⟨o,ho,hc⟩ isSubtype_stop ?_)
 exact wpAny_pure (hQ _ hk)
end
abbrev Jy (h:Heap) (x:Str) (t:Tok):Heap:=h.push { cls:=.type (strIterType x),data:=.fields #[.str x t,.int 0 0] }
abbrev JE (h:Heap) (x:Str) (t:Tok) (l2:Addr):Heap:=(Jy h x t).push { cls:=.type "tuple_iterator",data:=.fields #[.ref l2,.int 0 0] }
abbrev Jz (h:Heap) (x:Str) (t:Tok) (l2:Addr):Heap:=(JE h x t l2).push { cls:=.type "tuple",data:=.seq #[.ref h.objs.size,.ref (Jy h x t).objs.size] }
abbrev JF (h:Heap) (x:Str) (t:Tok) (l2:Addr):Heap:=(Jz h x t l2).push { cls:=.type "tuple",data:=.seq #[.none,.none] }
abbrev Qa (h:Heap) (x:Str) (t:Tok) (l2:Addr):Heap:=(JF h x t l2).push { cls:=.type "zip",data:=.fields #[.none,.bool false,.bool false,.ref (JE h x t l2).objs.size,.ref (Jz h x t l2).objs.size] }
theorem qC (x:Str) (t:Tok) (l2:Addr) (ys:Array Value) :
  Meets (Builtin.«zip.__new__» ⟨[.type "zip",.str x t,.ref l2],[]⟩) (fun _ R s=>s.heap.IsTuple l2 ys /\
   R (.ok (.ret (.ref (JF s.heap x t l2).objs.size))) { s with heap:=Qa s.heap x t l2 }) :=
 .of_wp fun prog w A R s h=>by
  obtain ⟨hp,g,d,tk,os⟩:=s; obtain ⟨hl2,h⟩:=h
  have hsub:=sub_zip
  have hL2:Heap.IsTuple (Shared.heap ⟨hp.push { cls:=.type (strIterType x),data:=.fields #[.str x t,.int 0 0] },g,d,tk,os⟩) l2 ys:=Vs hl2 fun o e=>Heap.get?_push_of_some _ e
  wp_walk using wpAny_pyIter_strU (s:=⟨hp,g,d,tk,os⟩) (x:=x) (t:=t),wpAny_pyIter_tuple hL2
  exact ⟨_,rfl,h⟩
section
variable {prog:Program} {w:World} {A:Around} {E:Value -> Shared -> Prop} {s:Shared}
theorem Wt {x:Str} {t:Tok} {l2:Addr} {ys:Array Value} {Q:Value -> Shared -> Prop} (hl2:s.heap.IsTuple l2 ys)
  (h:∀ h',IsZip h' (s.heap.objs.size + 4) (s.heap.objs.size + 2) (s.heap.objs.size + 3) .none -> IsPair h' (s.heap.objs.size + 2) (.ref s.heap.objs.size) (.ref (s.heap.objs.size + 1)) ->
   IsPair h' (s.heap.objs.size + 3) .none .none -> h'.IsStrIter s.heap.objs.size (strIterType x) x t 0 -> h'.IsTupleIter (s.heap.objs.size + 1) l2 0 -> h'.objs.size = s.heap.objs.size + 5 ->
   (∀ c o,s.heap.get? c = some o -> h'.get? c = some o) -> Q (.ref (s.heap.objs.size + 4)) { s with heap:=h' }) :
  wpAny (model prog w) A (call (.type "zip") [.str x t,.ref l2]) Q E s:=by
 refine callType_new F.called_zip (by decide) (F.typeCall_zip_2 _ _) (F.newCall_zip_2 _ _) (fun obj=>F.args_object_init_3 obj _ _) F.entry_zip_new
  (qC x t l2 ys) ⟨hl2,?_⟩
 have z1:(Jy s.heap x t).objs.size = s.heap.objs.size + 1:=Heap.size_push ..
 have z2:(JE s.heap x t l2).objs.size = s.heap.objs.size + 2:=by rw [Heap.size_push,z1]
 have z3:(Jz s.heap x t l2).objs.size = s.heap.objs.size + 3:=by rw [Heap.size_push,z2]
 have z4:(JF s.heap x t l2).objs.size = s.heap.objs.size + 4:=by rw [Heap.size_push,z3]
 have z5:(Qa s.heap x t l2).objs.size = s.heap.objs.size + 5:=by rw [Heap.size_push,z4]
 have g5:(Qa s.heap x t l2).get? (JF s.heap x t l2).objs.size = some _:=Heap.get?_push_size _ rfl
 have g4:(Qa s.heap x t l2).get? (Jz s.heap x t l2).objs.size = some _:=Heap.get?_push_of_some _ (Heap.get?_push_size _ rfl)
 have g3:(Qa s.heap x t l2).get? (JE s.heap x t l2).objs.size = some _:=Heap.get?_push_of_some _ (Heap.get?_push_of_some _ (Heap.get?_push_size _ rfl))
 have g2:(Qa s.heap x t l2).get? (Jy s.heap x t).objs.size = some _:=Heap.get?_push_of_some _ (Heap.get?_push_of_some _ (Heap.get?_push_of_some _ (Heap.get?_push_size _ rfl)))
 have g1:(Qa s.heap x t l2).get? s.heap.objs.size = some _:=Heap.get?_push_of_some _ (Heap.get?_push_of_some _ (Heap.get?_push_of_some _ (Heap.get?_push_of_some _ (Heap.get?_push_size _ rfl))))
 show _ /\ _
 rw [z2,z3,z4] at g5
 rw [z1,z2] at g3
 rw [z3] at g4
 rw [z1] at g2
 rw [z4]
 exact ⟨⟨_,g5,rfl⟩,h _ g5 g3 g4 ⟨_,g1,rfl,rfl⟩ ⟨_,g2,rfl,rfl⟩ z5 fun c o x =>
  Heap.get?_push_of_some _ (Heap.get?_push_of_some _ (Heap.get?_push_of_some _ (Heap.get?_push_of_some _ (Heap.get?_push_of_some _ x))))⟩
end
end L3
namespace L3
open PySem PySem.Spec PyProof.Rows L2
def Izs (K:PySem.W.Frag) (l:List Nat) (b:Addr):It:=⟨fun i H=>∃ ys y,SqT K H b ys /\ i < l.length /\ ys[i]? = some y,fun i H v H'=>∃ p c y,H p = none /\ l[i]? = some c /\ (∀ ys,SqT K H b ys -> ys[i]? = some y) /\ v = .ref p /\ H' = upd H p (.tup [.str (tx [c]),y]),fun i H=>i = l.length⟩
def ZSt (z TI TO i1 i2:Addr) (X:Str) (t:Tok) (l2:Addr) (i:Nat) (h:Heap):Prop:=IsZip h z TI TO .none /\ IsPair h TI (.ref i1) (.ref i2) /\ (∃ a b,IsPair h TO a b) /\ h.IsStrIter i1 (strIterType X) X t i /\ h.IsTupleIter i2 l2 i
theorem WR {P:Program} {w:World} {K:PySem.W.Frag} {elts:List Expr} {x1:Nat} {tpos:Pos} (z TI TO i1 i2 l2:Addr) (l:List Nat) (t:Tok) (D:Qs z TI TO i1 i2 l2) :
  Vf P w K (.Tuple elts x1 tpos) (Izs K l l2) [z,TI,TO,i1,i2] z (fun i h=>ZSt z TI TO i1 i2 (tx l) t l2 i h) where
 mem:=by simp
 obj:=fun i h st b hb=>by
  obtain ⟨hz,hTI,⟨a,c,hTO⟩,⟨o1,e1,c1,d1⟩,⟨o2,e2,c2,d2⟩⟩:=st
  simp only [List.mem_cons,List.mem_nil_iff,or_false] at hb
  rcases hb with rfl | rfl | rfl | rfl | rfl
  ·exact ⟨_,hz,fun v q=>by have q':Data.fields _ = Data.cell v:=q; cases q'⟩
  ·exact ⟨_,hTI,fun v q=>by have q':Data.seq _ _ = Data.cell v:=q; cases q'⟩
  ·exact ⟨_,hTO,fun v q=>by have q':Data.seq _ _ = Data.cell v:=q; cases q'⟩
  ·exact ⟨o1,e1,fun v q=>by rw [d1] at q; cases q⟩
  ·exact ⟨o2,e2,fun v q=>by rw [d2] at q; cases q⟩
 keep:=fun i h h' st k=>by
  obtain ⟨hz,hTI,⟨a,c,hTO⟩,h1,h2⟩:=st
  exact ⟨k z (by simp) _ hz,k TI (by simp) _ hTI,⟨a,c,k TO (by simp) _ hTO⟩,wd h1 fun o e=>k i1 (by simp) o e,wN h2 fun o e=>k i2 (by simp) o e⟩
 item:=by
  intro X hP hw hK hc i pins s σ H E I hf st hg
  subst hP hw hK
  obtain ⟨ys,y,hqy,hi,hy⟩:=hg
  obtain ⟨its2,rv2,p2,_⟩:=I.tuple hqy
  obtain ⟨u2,hu2,ru2⟩:=rv2.get hy
  obtain ⟨hz,hTI,⟨a,b,hTO⟩,h1,h2⟩:=st
  have hl2:s.heap.IsTuple l2 its2.toArray:=p2
  have hx:(tx l).cps[i]? = some l[i]:=by
   show l.toArray[i]? = _
   simp [hi]
  refine uu D hz hTI hTO h1 h2 hl2 hx (y:=u2) (by simpa using hu2) fun h' t' a1 a2 a3 a4 a5 a6 hk=>?_
  refine ⟨_,rfl,wpAny_letOwnedTupleGo_zip (s:={ s with heap:=h',toks:=s.toks + 1 }) a1 fun h2' hz2 sb=>?_⟩
  have zlt:z < s.heap.objs.size:=Heap.lt_size hz
  have TIlt:TI < s.heap.objs.size:=Heap.lt_size hTI
  have TOlt:TO < s.heap.objs.size:=Heap.lt_size hTO
  have i1lt:i1 < s.heap.objs.size:=by obtain ⟨o,e,_⟩:=h1; exact Heap.lt_size e
  have i2lt:i2 < s.heap.objs.size:=by obtain ⟨o,e,_⟩:=h2; exact Heap.lt_size e
  have I1:Inv X pins σ H { s with heap:=h2',toks:=s.toks + 1 }:=Inv.turns (fp:=[z,TI,TO,i1,i2]) I (fun b o hb q=>by
   have hb':b ≠ z /\ b ≠ TI /\ b ≠ TO /\ b ≠ i1 /\ b ≠ i2:=by simpa using hb
   exact (sb.2 b hb'.1).trans (hk b o hb'.1 hb'.2.2.1 hb'.2.2.2.1 hb'.2.2.2.2 q)) hf
  have hp:H s.heap.objs.size = none:=I.hok.fresh (Nat.le_refl _)
  have hT2:h2'.get? s.heap.objs.size = some { cls:=.type "tuple",data:=.seq #[.str ⟨#[l[i]]⟩ t',u2] }:=(sb.2 _ (Nat.ne_of_gt zlt)).trans a5
  have ru1:RelV (.str (tx [l[i]])) (.str ⟨#[l[i]]⟩ t'):=⟨t',rfl⟩
  have I2:Inv X pins σ (upd H s.heap.objs.size (.tup [.str (tx [l[i]]),y])) { s with heap:=h2',toks:=s.toks + 1 } :=
   Inv.track I1 (I.fpOk (Nat.le_refl _) hp) ⟨by show 2 <= sizeLine; decide,[.str ⟨#[l[i]]⟩ t',u2],.cons ru1 (.cons ru2 .nil),⟨_,hT2,rfl,_,rfl⟩⟩
  refine ⟨.ref s.heap.objs.size,_,I2,rfl,⟨s.heap.objs.size,l[i],y,hp,by simp [hi],fun zs hz'=>by rw [I.tuple_inj hz' hqy]; exact hy,rfl,rfl⟩,⟨hz2,(sb.2 _ D.TIz).trans (hk _ _ D.TIz D.TITO D.TIi1 D.TIi2 hTI),⟨_,_,(sb.2 _ D.TOz).trans a2⟩,wd a3 fun o e=>(sb.2 _ D.i1z).trans e,wN a4 fun o e=>(sb.2 _ D.i2z).trans e⟩,fun b hb=>?_⟩
  rw [zp]
  ·exact (hf b hb).1
  ·simp only [List.mem_cons,List.mem_nil_iff,or_false] at hb
   rcases hb with rfl | rfl | rfl | rfl | rfl <;> exact Nat.ne_of_lt (by assumption)
 done:=by
  intro X hP hw hK hc i pins s σ H E I hf st hg
  subst hP hw hK
  have hi:i = l.length:=hg
  obtain ⟨hz,hTI,⟨a,b,hTO⟩,h1,h2⟩:=st
  refine uZ (I.ok.hd hc) D hz hTI hTO h1 ?_ fun h' hk=>⟨rfl,?_⟩
  ·show l.toArray[i]? = none
   simp [hi]
  ·exact Inv.turns (fp:=[z,TI,TO,i1,i2]) (t':=s.toks) I (fun b o hb q=>by
    have hb':b ≠ z /\ b ≠ TI /\ b ≠ TO /\ b ≠ i1 /\ b ≠ i2:=by simpa using hb
    exact hk b o hb'.1 hb'.2.2.1 hb'.2.2.2.1 hb'.2.2.2.2 q) hf
 self:=fun A i s Q E st h=>wpAny_pyIter_zip st.1 h
section
variable {X:Cx}
def iZs (K:PySem.W.Frag) (ta:TA):TI:=fun σ H R=>ta σ H fun vs H1=>∃ l b,vs = [.str (tx l),.ref b] /\ (∃ ys,SqT K H1 b ys) /\ R (Izs K l b) H1
theorem QN {a b:Expr} {ta:TA} {p pos tpos:Pos} {elts:List Expr} {x1:Nat} (hg:Gl X "zip") (hm:X.mg "zip" = none) (ha:PA X [a,b] ta) (hs:starEach [a,b] X.env = (false,eval a X.env) :: starEach [b] X.env:=by rfl)
  (hpl:(backTo pos (starEach [b] X.env)).any (·.1) = false:=by rfl):PI X (.Tuple elts x1 tpos) (.Call (.Name "zip" p) [a,b] [] pos) (iZs X.K ta):=by
 intro pins s σ H R I h
 refine Call_ (wn I hg hm PyProof.Rows.boot_zip (PyProof.Rows.callWith_type1 (thn (ha pos pins s σ H _ I h) fun us s1 ⟨vs,H1,I1,r1,q1⟩=>?_) hs hpl))
 obtain ⟨l,l2,e,⟨ys,hqy⟩,q⟩:=q1
 subst e
 obtain ⟨u1,u2,rfl,ru1,ru2⟩:=Xw r1
 obtain ⟨t,rfl⟩:=ru1
 cases ru2
 obtain ⟨its2,rv2,p2,_⟩:=I1.tuple hqy
 have hl2:s1.heap.IsTuple l2 its2.toArray:=p2
 have l2lt:l2 < s1.heap.objs.size:=by obtain ⟨o,e,_⟩:=hl2; exact Heap.lt_size e
 have ne:∀ a b:Nat,a ≠ b -> s1.heap.objs.size + a ≠ s1.heap.objs.size + b:=fun a b h e=>h (Nat.add_left_cancel e)
 have nl:∀ a:Nat,l2 ≠ s1.heap.objs.size + a:=fun a=>Nat.ne_of_lt (Nat.lt_of_lt_of_le l2lt (Nat.le_add_right _ _))
 refine Wt hl2 fun h' hz hTI hTO h1 h2 hsz kk=>?_
 have I2:Inv X pins σ H1 { s1 with heap:=h' }:=I1.kept (t':=s1.toks) kk
 refine wpAny_pyIter_zip (s:={ s1 with heap:=h' }) hz ?_
 refine ⟨s1.heap.objs.size + 4,[s1.heap.objs.size + 4,s1.heap.objs.size + 2,s1.heap.objs.size + 3,s1.heap.objs.size,s1.heap.objs.size + 1],_,_,H1,rfl,I2,WR (s1.heap.objs.size + 4) (s1.heap.objs.size + 2) (s1.heap.objs.size + 3) s1.heap.objs.size (s1.heap.objs.size + 1) l2 l t ⟨⟨ne 2 4 (by decide),ne 3 4 (by decide),ne 0 4 (by decide),ne 1 4 (by decide),ne 2 3 (by decide),ne 2 0 (by decide),ne 2 1 (by decide),ne 3 0 (by decide),ne 3 1 (by decide),ne 0 1 (by decide)⟩,nl 4,nl 3,nl 0,nl 1⟩,⟨hz,hTI,⟨_,_,hTO⟩,h1,h2⟩,fun b hb=>?_,q⟩
 have hb':s1.heap.objs.size <= b:=by
  simp only [List.mem_cons,List.mem_nil_iff,or_false] at hb
  rcases hb with e | e | e | e | e
  ·rw [e]; exact Nat.le_add_right _ _
  ·rw [e]; exact Nat.le_add_right _ _
  ·rw [e]; exact Nat.le_add_right _ _
  ·rw [e]; exact Nat.le_refl _
  ·rw [e]; exact Nat.le_add_right _ _
 exact I1.fpOk hb' (I1.hok.fresh hb')
end
def CompZ (K:PySem.W.Frag) (l:List Nat) (b:Addr) (g:TG) (tt:TT) (te:TE) (own:Nat) (ix:List Nat) (σ:L2.St) (H1:Hp) (Q:VK) (D:Addr):Prop:=Xi (Izs K l b) g tt te own ix σ H1 Q D
theorem zN {K:PySem.W.Frag} {ta:TA} {g:TG} {tt:TT} {te:TE} {own:Nat} {ix:List Nat} {σ:L2.St} {H:Hp} {Q:VK}:jU (iZs K ta) g tt te own ix σ H Q = ta σ H fun vs H1=>∃ l b,vs = [.str (tx l),.ref b] /\ (∃ ys,SqT K H1 b ys) /\ ∀ D,H1 D = none -> CompZ K l b g tt te own ix σ H1 Q D:=rfl
section
variable {g:TG} {tt:TT} {te:TE} {own:Nat} {ix:List Nat} {σ:L2.St} {H1:Hp} {Q:VK} {D:Addr}
theorem CompZ.by {K:PySem.W.Frag} {l:List Nat} {b:Addr} {ys:List V} (Pv:Nat -> List V -> Hp -> Prop) (hlen:l.length = ys.length) (h0:Pv 0 [] (upd H1 D (.lst []))) (hl:∀ i acc H',i <= l.length -> Pv i acc H' -> SqT K H' b ys)
  (hs:∀ i c y acc H' p,l[i]? = some c -> ys[i]? = some y -> Pv i acc H' -> H' p = none -> g (.ref p) (vM σ own ix) (upd H' p (.tup [.str (tx [c]),y])) fun σ3 H3=>xt (vM σ own ix) σ3 /\ tt σ3 H3 fun b H4=>if b = true then
   te σ3 H4 fun v H5=>H5 D = some (.lst acc) /\ acc.length < sizeLine /\ CNx l.length i Pv (acc ++ [v]) (upd H5 D (.lst (acc ++ [v]))) else CNx l.length i Pv acc H4)
  (hd:∀ acc H',Pv l.length acc H' -> Q (.ref D) H'):CompZ K l b g tt te own ix σ H1 Q D:=by
 refine ⟨fun i m acc H=>m = l.length - i /\ i <= l.length /\ Pv i acc H,⟨l.length,by simp,Nat.zero_le _,h0⟩,?_⟩
 rintro i m acc H' ⟨rfl,hi,p⟩
 have q:=hl i acc H' hi p
 by_cases hlt:i < l.length
 ·refine .inr ⟨⟨ys,ys[i],q,hlt,by simp [<- hlen,hlt]⟩,fun x H2 y=>?_⟩
  obtain ⟨p',c,y,hp,hc,hy,ev,eH⟩:=y
  subst ev eH
  exact hs i c y acc H' p' hc (hy ys q) p hp
 ·have e:i = l.length:=by omega
  subst e
  exact .inl ⟨rfl,hd acc H' p⟩
end
end L3
namespace L3
open PySem PySem.Spec PyProof.Rows L2
section
variable {X:Cx} {k1 k2 k3 j:Nat} {C1 C2 C3:Addr} {m:Str} {ps:List Str} {s1 s2 s3:Sp} {o e:Expr} {es:List Expr} {ta:TE} {t:TA} {apos pos p:Pos} {E:XK}
def yP (t1 t2:TE):TE:=fun σ H Q=>t1 σ H Q \/ t2 σ H Q
theorem Vw {t1 t2:TE} (h1:PE X e t1) (h2:PE X e t2):PE X e (yP t1 t2):=by
 intro pins s σ H Q I h
 rcases h with h | h
 ·exact h1 pins s σ H Q I h
 ·exact h2 pins s σ H Q I h
theorem Q0 (D1:DM X.prog X.w X.K X.mg X.base CX0 k1 C1 m ps s1) (D2:DM X.prog X.w X.K X.mg X.base CX0 k2 C2 m ps s2) (D3:DM X.prog X.w X.K X.mg X.base CX0 k3 C3 m ps s3) (c1:Cls X.K C1) (c2:Cls X.K C2) (c3:Cls X.K C3) (hr:Room j X.A) (he:PE X o ta) (ha:PA X (e :: es) t) {pl:Sem Bool}
    (hst:starEach (e :: es) X.env = (false,eval e X.env) :: starEach es X.env:=by rfl) (hpl:(backTo pos (starEach es X.env)).any (·.1) = false:=by rfl)
    (ht:eval (.Call (.Attribute o m apos) (e :: es) [] pos) X.env = (do
      let ov <- eval o X.env
      standAt apos.atName
      let (f,first) <- holding [ov] (getMethod ov m pl)
      callWith pos f first (backTo pos (starEach (e :: es) X.env)) (backToKw pos (keywordEach [] X.env))):=by rfl) (h1:k1 <= j:=by decide) (h2:k2 <= j:=by decide) (h3:k3 <= j:=by decide) :
    PE X (.Call (.Attribute o m apos) (e :: es) [] pos) (yP (jR C1 m s1 [] E0 ta t) (yP (jR C2 m s2 [] E0 ta t) (jR C3 m s3 [] E0 ta t))) :=
  Vw (me1 (pl:=pl) D1 c1 hr he ha hst hpl ht h1) (Vw (me1 (pl:=pl) D2 c2 hr he ha hst hpl ht h2) (me1 (pl:=pl) D3 c3 hr he ha hst hpl ht h3))
end
end L3
namespace L3
open PySem PySem.Spec PyProof.Rows L2
section
variable {X:Cx}
end
end L3
namespace L3
open PySem PySem.Spec PyProof.Rows L2
section
variable {X:Cx}
end
end L3
namespace L3
open PySem PySem.Spec PyProof.Rows L2 PySem.W PySem.Calls
def vd (n:Int):Prop:=Builtin.Int.intBits n <= 1048576
theorem VA:∀ (ns:List Int),WData.weightAll (ns.map WData.int) <= 1048576 -> ∀ n ∈ ns,vd n
 | [],_,n,h=>nomatch h
 | m :: ns,hw,n,h=>by
  rw [List.map_cons,WData.weightAll] at hw
  rcases List.mem_cons.mp h with rfl | h
  ·have e:WData.weight (.int n) = Builtin.Int.intBits n:=by
    rw [WData.weight]
    rfl
   unfold vd
   omega
  ·exact VA ns (by omega) n h
section
variable {X:Cx}
theorem Wp {i j:Int} (hi:vd i) (hj:vd j):IntMulOk i j:=by
 unfold IntMulOk Builtin.Int.intTooBig
 unfold vd at hi hj
 have:(bitsLine:Nat) = 134217728:=rfl
 simp
 intro _ _
 omega
theorem Vg:OpR X (binaryOp .Mult) (rI (fun i j=>vd i /\ vd j) fun i j=>.int (i * j)):=opI fun _ _ _ _ _ _ _ hc q=>mul_int q (Wp hc.1 hc.2)
end
theorem jM {l:OpenLaw} {n:Nat} {q:Program} {loose:List Str} {XP:(Str -> Option Value) -> Heap -> Prop} {YP:World -> Heap -> Prop} {d:DefRec}
  (hn:l.most = some n) (hdf:d.params.defaults = [])
  (call:∀ (w:World) (s₀ s₁:Shared) (mg mb:Str -> Option Value) (fa:Addr) (o:Obj) (pm cd doc:Value) (a:Addr) (vs:List Value) (ns:List Int),
   Ground q loose [] XP w s₀ mg mb s₁.heap -> YP w s₁.heap ->
   s₁.heap.get? fa = some o -> o.data = .func (docDef d.name d.params d.body d.scope pm cd doc) -> s₁.heap.CodeRec cd d.name -> mg d.name = some (.ref fa) ->
   s₁.heap.get? a = some { cls:=.type "list",data:=.seq vs.toArray } -> IntsAre vs ns -> ns.length <= n -> (∀ z ∈ ns,vd z) -> s₁.gens = #[] ->
   codeAny (model l.prog w) callerA (.call (.ref fa) ⟨[.ref a],[]⟩) (fun r s'=>r = .ok (.ret (.bool true)) /\ OldK s₁.heap s'.heap /\ s'.os = s₁.os /\ AllBare s'.gens) s₁) :
  WalkO q loose XP YP l.row.toRowW d [] (fun f vs=>PySem.call f vs):=by
 intro w s₀ s₁ mg mb G Y fa o pm cd doc dV kV ho hd hcd hD hmg hg args vals as hpre hlay hrd hwl hlo
 obtain rfl:dV = .none:=Dflts.none hD hdf
 obtain rfl:kV = .none:=Dflts.noKw hD
 obtain ⟨a,vs,ns,rfl,rfl,hobj,hints,hlen⟩:=Att.script_of hn hpre hwl
 have hb:∀ z ∈ ns,vd z:=by
  refine VA ns ?_
  have h1:WData.layable (WData.list (ns.map WData.int)) = true:=by
   have:=hlay
   unfold WData.layableAll at this
   simpa using this
  unfold WData.layable at h1
  simp only [Bool.and_eq_true,decide_eq_true_eq] at h1
  have h2:=h1.2
  rw [WData.weight] at h2
  exact h2
 refine enter_call (codeAny_mono (call w s₀ s₁ mg mb fa o pm cd doc a vs ns G Y ho (fd_plain hd) hcd hmg hobj hints hlen hb hg) fun r s' hq=>?_)
 obtain ⟨rfl,h2,h3,h4⟩:=hq
 exact ⟨.inl ⟨.bool true,.bool true,[],rfl,fun _=>rfl,.bool true,Att.post_true l _,fun _=>⟨List.Pairwise.nil,fun _ hm=>(nomatch hm)⟩⟩,h2,h3,h4⟩
end L3
namespace L3
open PySem PySem.Spec PyProof.Rows L2
section
variable {X:Cx} {k j:Nat} {C:Addr} {x f':Str} {ps:List Str} {sp:Sp} {e:Expr} {es:List Expr} {t:TA} {te:TX} {pos p:Pos}
end
section
variable {X:Cx} {k j:Nat} {C:Addr} {m x:Str} {ps:List Str} {sp:Sp} {e:Expr} {es:List Expr} {t:TA} {apos pos p:Pos} {E:XK}
end
end L3
namespace L3
open PySem PySem.Spec PyProof.Rows L2
section
variable {prog:Program} {w:World} {A:Around} {E:Value -> Shared -> Prop} {s:Shared} {env:Env}
end
end L3
namespace L3
open PySem PySem.Spec PyProof.Rows L2
theorem XEg.xe {X:Cx} {E:XK} (h:XEg X E):XE X E:=fun e s ⟨pins,σ,H,x,C,t,dx,tb,q⟩=>h e s ⟨.none,false,pins,σ,H,x,C,t,dx,tb,q⟩
section
variable {X:Cx} {k:Nat} {ps:List Str} {sp:Sp} {ds:List Value} {dvs:List V} {E:XK} {x:Str} {p pos:Pos} {e:Expr} {es:List Expr} {t:TA}
end
section
variable {X:Cx} {o e:Expr} {to:TE} {te:TX} {name:Str} {apos cpos:Pos} {T id:String} {r:V -> List V -> Hp -> VK -> Prop}
end
section
variable {X:Cx}
end
section
variable {X:Cx} {k j:Nat} {C:Addr} {ps:List Str} {sp:Sp} {e:Expr} {es:List Expr} {t:TA} {pos p:Pos} {x:Str}
end
end L3
namespace L3
open PySem PySem.Spec PyProof.Rows L2
theorem j6 (x y:Str) (i j:Int) (t u v v':Tok):Gives (Builtin.«str.find» ⟨[.str x t,.str y u,.int i v,.int j v'],[]⟩) (.int (match Builtin.Str.occurrences x y (fromIndex x.length i) (min (fromIndex x.length j) x.length) 1 with | k :: _=>(k:Int) | []=>-1)):=by
 show Gives (match Builtin.Str.occurrences x y (fromIndex x.length i) (min (fromIndex x.length j) x.length) 1 with | k :: _=>retInt k | []=>(do rule "str.find.not-found"; retInt (-1))) _
 cases Builtin.Str.occurrences x y (fromIndex x.length i) (min (fromIndex x.length j) x.length) 1 with
 | nil=>exact .rule (.of_eq rfl)
 | cons k _=>exact .of_eq rfl
theorem ur (x y:Str) (lo hi:Nat) :
  (Builtin.Str.occurrences x y lo hi 1 = [] /\ ∀ i,lo <= i -> ¬ StrLaws.At x y hi i) \/
  ∃ i r,Builtin.Str.occurrences x y lo hi 1 = i :: r /\ lo <= i /\ StrLaws.At x y hi i /\ ∀ k,lo <= k -> k < i -> ¬ StrLaws.At x y hi k:=by
 rw [StrLaws.occ_eq]
 rcases StrLaws.occ_first x y hi 1 (Nat.le_refl 1) (List.range' lo (hi + 1 - lo)) lo (fun i hm=>(List.mem_range'_1.mp hm).1) with ⟨e,no⟩ | ⟨pre,a,post,e,e0,at_a,no⟩
 ·exact .inl ⟨by rw [e],fun i h1 h2=>no i (by have:=h2.1; rw [List.mem_range'_1]; omega) h2⟩
 ·have sp:=StrLaws.range'_split_from e
  generalize (forIn (List.range' lo (hi + 1 - lo)) ((#[]:Array Nat),lo) (StrLaws.occBody x y hi 1)).run.fst = z at e0 ⊢
  obtain ⟨zs⟩:=z
  cases zs with
  | nil=>simp at e0
  | cons b r =>
   have:b = a:=by simpa using e0
   subst this
   exact .inr ⟨b,r,rfl,sp.1,at_a,fun k h1 h2=>no k (sp.2 k h1 h2)⟩
theorem QL (l p:List Nat) (hi i:Nat):StrLaws.At (tx l) (tx p) hi i ↔ i + p.length <= hi /\ (l.drop i).take p.length = p:=by
 unfold StrLaws.At Builtin.Str.subAt
 rw [yf,beq_iff_eq]
 have e1:((tx l).cps.extract i (i + p.length)).toList = (l.drop i).take p.length:=by
  show (l.toArray.extract i (i + p.length)).toList = _
  simp [List.extract_eq_drop_take]
 have e2:((tx l).cps.extract i (i + p.length) = (tx p).cps) ↔ (l.drop i).take p.length = p:=by
  constructor
  ·intro h
   rw [<- e1,h]
  ·intro h
   apply Array.toList_inj.mp
   rw [e1,h]
 rw [e2]
def VQ:V -> List V -> Hp -> VK -> Prop:=fun x xs H Q=>∃ (l p:List Nat) (lo hi:Int),x = .str (tx l) /\ xs = [.str (tx p),.int lo,.int hi] /\ 0 <= lo /\ 0 <= hi /\ ∀ r:Int,((r = -1 /\ ∀ q:Nat,lo <= q -> (q:Int) + p.length <= hi -> q + p.length <= l.length -> (l.drop q).take p.length ≠ p) \/ ∃ k:Nat,r = k /\ lo <= k /\ (k:Int) + p.length <= hi /\ k + p.length <= l.length /\ (l.drop k).take p.length = p /\ ∀ q:Nat,lo <= q -> q < k -> (l.drop q).take p.length ≠ p) -> Q (.int r) H
theorem Uc {X:Cx}:MtR X "str.find" VQ:=by
 intro pins s σ H x xs v us Q I rx rv h
 obtain ⟨l,p,lo,hi,rfl,rfl,h0,h1,q⟩:=h
 obtain ⟨t,rfl⟩:=rx
 cases rv with
 | cons r1 r2 =>
  cases r2 with
  | cons r2 r3 =>
   obtain ⟨w3,rfl,t3,rfl⟩:=xD r3
   obtain ⟨t1,rfl⟩:=r1
   obtain ⟨t2,rfl⟩:=r2
   have f0:fromIndex (tx l).length lo = lo.toNat:=by unfold fromIndex; rw [if_neg (by omega)]; omega
   have f1:fromIndex (tx l).length hi = hi.toNat:=by unfold fromIndex; rw [if_neg (by omega)]; omega
   refine call_gives F.slot_str_find (typeIs_str _ _ _) F.entry_str_find (F.args_str_find_4 _ _ _ _) (j6 _ _ lo hi t t1 t2 t3) ?_
   refine ⟨.int _,H,I.tok _,⟨_,rfl⟩,q _ ?_⟩
   rw [f0,f1]
   have hm:∀ k:Nat,k + p.length <= min hi.toNat (tx l).length ↔ (k:Int) + p.length <= hi /\ k + p.length <= l.length:=fun k=>by rw [yf]; omega
   rcases ur (tx l) (tx p) lo.toNat (min hi.toNat (tx l).length) with ⟨e,no⟩ | ⟨i,r,e,hl,ha,no⟩
   ·rw [e]
    exact .inl ⟨rfl,fun k k1 k2 k3 k4=>no k (by omega) ((QL l p _ k).mpr ⟨(hm k).mpr ⟨k2,k3⟩,k4⟩)⟩
   ·rw [e]
    obtain ⟨a1,a2⟩:=(QL l p _ i).mp ha
    obtain ⟨b1,b2⟩:=(hm i).mp a1
    exact .inr ⟨i,rfl,by omega,b1,b2,a2,fun k k1 k2 k4=>no k (by omega) k2 ((QL l p _ k).mpr ⟨(hm k).mpr ⟨by omega,by omega⟩,k4⟩)⟩
end L3
namespace L3
open PySem PySem.Spec PyProof.Rows L2
section
variable {prog:Program} {w:World} {A:Around} {R:Result -> Shared -> Prop} {I l S:Addr}
theorem YA (hh:A.handled = none) (hlI:l ≠ I) (hSI:S ≠ I) (hSl:S ≠ l) (xs:Array Value) (val:Nat -> Int) (hv:∀ i v,xs[i]? = some v -> ∃ t,v = Value.int (val i) t) (d:Value) :
  ∀ (k j:Nat) (z:Int) (t:Tok) (s:Shared) (c:Nat),xs.size - j = k -> j <= xs.size -> (∀ i,i < j -> val i <= z) -> s.heap.IsListIter I l j -> s.heap.IsList l xs -> s.heap.get? S = some (seqObj "list" #[.int z t,.int z t] c) ->
   (∀ z' t' h' tk,(∀ i,i < xs.size -> val i <= z') -> (∀ b o,b ≠ I -> b ≠ S -> s.heap.get? b = some o -> h'.get? b = some o) -> R (.ok (.ret (.int z' t'))) { s with heap:=h',toks:=tk }) ->
   codeAny (model prog w) A (.builtin "max.loop" ⟨[.ref I,.none,.ref S],[(Str.ofString "default",d)]⟩) R s:=by
 have nm:(toString "max" ++ toString ".loop" : String) = "max.loop":=by decide
 have W:=Walks.list (prog:=prog) (w:=w) (A:=A.in1) hh I l hlI xs
 intro k
 induction k with
 | zero =>
  intro j z t s c hk hj hz hit hl hS hR
  have e:j = xs.size:=by omega
  refine codeAny_builtin (b:=Builtin.«max.loop») PySem.F.entry_max_loop ?_
  rw [Around.under_plainId (id:="max.loop") PySem.F.plain_max_loop _]
  show wpAny _ A.in1 (seqItems? (Value.ref S) >>= _) _ _ s
  refine wpAny_bind (wpAny_seqItems (items:=#[.int z t,.int z t]) hS rfl ?_)
  show wpAny _ A.in1 (tryCatch (pyNext (Value.ref I)) _ >>= _) _ _ s
  refine wpAny_bind (wpAny_tryCatch (W.done s _ _ ⟨e ▸ hit,hl⟩ fun h' tk kp=>?_))
  have hS':=kp S _ (by simpa using hSI) hS
  show wpAny _ A.in1 (updateSeq S (fun _=>(#[]:Array Value)) >>= _) _ _ _
  refine wpAny_bind (wpAny_updateSeq hS' rfl (wpAny_bind (wpAny_letGo (wpAny_pure ?_))))
  exact hR z t _ tk (fun i hi=>hz i (by omega)) fun b o hb hb' q=>(Heap.get?_update_other _ _ (Ne.symm hb')).trans (kp b o (by simpa using hb) q)
 | succ k ih =>
  intro j z t s c hk hj hz hit hl hS hR
  refine codeAny_builtin (b:=Builtin.«max.loop») PySem.F.entry_max_loop ?_
  rw [Around.under_plainId (id:="max.loop") PySem.F.plain_max_loop _]
  show wpAny _ A.in1 (seqItems? (Value.ref S) >>= _) _ _ s
  refine wpAny_bind (wpAny_seqItems (items:=#[.int z t,.int z t]) hS rfl ?_)
  show wpAny _ A.in1 (tryCatch (pyNext (Value.ref I)) _ >>= _) _ _ s
  refine wpAny_bind (wpAny_tryCatch (W.item j s _ _ (by omega) ⟨hit,hl⟩ fun v h' tk hP st kp=>?_))
  obtain ⟨t2,rfl⟩:=hv j v hP
  have hS':=kp S _ (by simpa using hSI) hS
  show wpAny _ A.in1 (tryCatch (holding [Value.int (val j) t2,Value.int (val j) t2] (richCompare .Gt (.int (val j) t2) (.int z t) >>= _)) _ >>= _) _ _ _
  refine wpAny_bind (wpAny_tryCatch (wpAny_holding (wpAny_bind (CmpOf.ints_gt (prog:=prog) (w:=w) (A:=A.in1) (P:=fun i v=>∃ t,v = Value.int (if i = 0 then val j else z) t) (fun i=>if i = 0 then val j else z) (fun i v h=>h) 0 1 _ _ _ _ _ ⟨t2,rfl⟩ ⟨t,rfl⟩ ?_))))
  refine wpAny_bind (wpAny_holding (wpAny_truthy_bool (wpAny_bind (wpAny_letGo (wpAny_pure ?_)))))
  by_cases g:val j > z
  ·simp only [if_true,Nat.one_ne_zero,if_false,g,decide_true]
   refine wpAny_bind (wpAny_updateSeq hS' rfl (wpAny_bind (wpAny_letGo ?_)))
   rw [nm]
   refine wpAny_pure ⟨plainId_quiet PySem.F.plain_max_loop _,ih (j + 1) (val j) t2 _ _ (by omega) (by omega) (fun i hi=>?_) (W.frame _ _ _ st fun b hb o q=>?_).1 (W.frame _ _ _ st fun b hb o q=>?_).2 (get?_update_seq hS' _) fun z' t' h'' tk'' a1 a2=>hR z' t' h'' tk'' a1 fun b o hb hb' q=>a2 b o hb hb' ((Heap.get?_update_other _ _ (Ne.symm hb')).trans (kp b o (by simpa using hb) q))⟩
   ·by_cases e:i = j
    ·rw [e]
     exact Int.le_refl _
    ·have:=hz i (by omega)
     omega
   all_goals
    refine (Heap.get?_update_other _ _ (fun e:S = b=>?_)).trans q
    subst e
    rcases List.mem_cons.mp hb with e | e
    ·exact hSI e
    ·exact hSl (List.mem_singleton.mp e)
  ·simp only [if_true,Nat.one_ne_zero,if_false,g,decide_false,Bool.false_eq_true]
   refine wpAny_bind (wpAny_letGo ?_)
   rw [nm]
   refine wpAny_pure ⟨plainId_quiet PySem.F.plain_max_loop _,ih (j + 1) z t _ _ (by omega) (by omega) (fun i hi=>?_) st.1 st.2 hS' fun z' t' h'' tk'' a1 a2=>hR z' t' h'' tk'' a1 fun b o hb hb' q=>a2 b o hb hb' (kp b o (by simpa using hb) q)⟩
   by_cases e:i = j
   ·rw [e]
    omega
   ·exact hz i (by omega)
theorem Xu (a v:Value):argsOk "max" ⟨[a],[(Str.ofString "default",v)]⟩:=by unfold argsOk; kernel_rfl
theorem XH {E:Value -> Shared -> Prop} {s:Shared} {Q:Value -> Shared -> Prop} (hh:A.handled = none) (xs:Array Value) (val:Nat -> Int) (hv:∀ i v,xs[i]? = some v -> ∃ t,v = Value.int (val i) t) (hl:s.heap.IsList l xs) (d:Value)
  (h:∀ v h' tk,(xs.size = 0 -> v = d) -> (0 < xs.size -> ∃ z t,v = Value.int z t /\ ∀ i,i < xs.size -> val i <= z) -> (∀ b o,s.heap.get? b = some o -> h'.get? b = some o) -> Q v { s with heap:=h',toks:=tk }) :
  wpAny (model prog w) A (call (.builtin "max") [.ref l] [(Str.ofString "default",d)]) Q E s:=by
 have nm:(toString "max" ++ toString ".loop" : String) = "max.loop":=by decide
 have hlt:l < s.heap.objs.size:=by obtain ⟨_,e,_⟩:=hl; exact Heap.lt_size e
 refine kmb_tree PySem.F.kind_max PySem.F.plain_max PySem.F.entry_max (Xu _ _) ?_
 show wpAny _ A.in1 (Builtin.Builtins.bindParams "max" ["key", "default"] 0 ⟨[],[(Str.ofString "default",d)]⟩ >>= _) _ _ s
 refine wpAny_bind (wpAny_of_eq (show Builtin.Builtins.bindParams "max" ["key", "default"] 0 ⟨[],[(Str.ofString "default",d)]⟩ = pure [none,some d] from rfl) (wpAny_bind (wpAny_pure ?_)))
 refine wpAny_bind (wpAny_pyIter_list hl (wpAny_bind (wpAny_newList ?_ (Nat.zero_le _))))
 rw [nm]
 refine wpAny_pure ⟨plainId_quiet PySem.F.plain_max_loop _,?_⟩
 have gI:(s.heap.push { cls:=.type "list_iterator",data:=.fields #[.ref l,.int 0 0] }).IsListIter s.heap.objs.size l 0:=⟨_,Heap.get?_push_size _ rfl,rfl,rfl⟩
 have gl:=hl.push { cls:=.type "list_iterator",data:=.fields #[.ref l,.int 0 0] }
 have kp0:∀ b o,s.heap.get? b = some o -> (s.heap.push { cls:=.type "list_iterator",data:=.fields #[.ref l,.int 0 0] }).get? b = some o:=fun b o q=>Heap.get?_push_of_some _ q
 have hsz:(s.heap.push { cls:=.type "list_iterator",data:=.fields #[.ref l,.int 0 0] }).objs.size = s.heap.objs.size + 1:=Heap.size_push _ _
 have hold:∀ b o,s.heap.get? b = some o -> b < s.heap.objs.size:=fun b o q=>Heap.lt_size q
 have hlI:l ≠ s.heap.objs.size:=Nat.ne_of_lt hlt
 generalize s.heap.push { cls:=.type "list_iterator",data:=.fields #[.ref l,.int 0 0] } = h1 at *
 generalize hIe:s.heap.objs.size = I at *
 have W:=Walks.list (prog:=prog) (w:=w) (A:=A.in1) hh I l hlI xs
 have gS:(h1.push { cls:=.type "list",data:=.seq ([]:List Value).toArray }).get? h1.objs.size = some (seqObj "list" #[] 0):=Heap.get?_push_size _ rfl
 have st0:=W.frame 0 _ (h1.push { cls:=.type "list",data:=.seq ([]:List Value).toArray }) ⟨gI,gl⟩ fun b _ o q=>Heap.get?_push_of_some _ q
 have kp1:∀ b o,s.heap.get? b = some o -> (h1.push { cls:=.type "list",data:=.seq ([]:List Value).toArray }).get? b = some o:=fun b o q=>Heap.get?_push_of_some _ (kp0 b o q)
 have hSI:h1.objs.size ≠ I:=by rw [hsz]; exact Nat.succ_ne_self I
 have hSl:h1.objs.size ≠ l:=by rw [hsz]; exact Nat.ne_of_gt (Nat.lt_succ_of_lt hlt)
 have hSb:∀ b o,s.heap.get? b = some o -> b ≠ I /\ b ≠ h1.objs.size:=fun b o q=>⟨Nat.ne_of_lt (hold b o q),by rw [hsz]; exact Nat.ne_of_lt (Nat.lt_succ_of_lt (hold b o q))⟩
 generalize h1.push { cls:=.type "list",data:=.seq ([]:List Value).toArray } = h2 at *
 generalize h1.objs.size = S at *
 refine codeAny_builtin (b:=Builtin.«max.loop») PySem.F.entry_max_loop ?_
 rw [Around.under_plainId (id:="max.loop") PySem.F.plain_max_loop _]
 show wpAny _ A.in1 (seqItems? (Value.ref S) >>= _) _ _ _
 refine wpAny_bind (wpAny_seqItems (items:=#[]) gS rfl ?_)
 show wpAny _ A.in1 (tryCatch (pyNext (Value.ref I)) _ >>= _) _ _ _
 by_cases hz:xs.size = 0
 ·refine wpAny_bind (wpAny_tryCatch (W.done _ _ _ (by rw [hz]; exact st0) fun h' tk kp=>?_))
  show wpAny _ A.in1 (rule _ >>= fun _=>_) _ _ _
  refine wpAny_bind (wpAny_rule (wpAny_pure ?_))
  exact h d h' tk (fun _=>rfl) (fun q=>absurd q (by omega)) fun b o q=>kp b o (by simpa using (hSb b o q).1) (kp1 b o q)
 ·refine wpAny_bind (wpAny_tryCatch (W.item 0 _ _ _ (by omega) st0 fun v h' tk hP st kp=>?_))
  obtain ⟨t,rfl⟩:=hv 0 v hP
  have hS':=kp S _ (by simpa using hSI) gS
  show wpAny _ A.in1 (updateSeq S (fun _=>#[Value.int (val 0) t,Value.int (val 0) t]) >>= _) _ _ _
  refine wpAny_bind (wpAny_updateSeq hS' rfl ?_)
  rw [nm]
  have st':=W.frame _ _ (h'.update S (Obj.mapSeq fun _=>#[Value.int (val 0) t,Value.int (val 0) t])) st fun b hb o q=>by
   refine (Heap.get?_update_other _ _ (fun e:S = b=>?_)).trans q
   subst e
   rcases List.mem_cons.mp hb with e | e
   ·exact hSI e
   ·exact hSl (List.mem_singleton.mp e)
  refine wpAny_pure ⟨plainId_quiet PySem.F.plain_max_loop _,YA hh hlI hSI hSl xs val hv d _ 1 (val 0) t _ _ rfl (by omega) (fun i hi=>?_) st'.1 st'.2 (get?_update_seq hS' _) fun z' t' h'' tk'' a1 a2=>?_⟩
  ·have:i = 0:=by omega
   rw [this]
   exact Int.le_refl _
  ·exact h _ h'' tk'' (fun q=>absurd q hz) (fun _=>⟨z',t',rfl,a1⟩) fun b o q=>a2 b o (hSb b o q).1 (hSb b o q).2 ((Heap.get?_update_other _ _ (Ne.symm (hSb b o q).2)).trans (kp b o (by simpa using (hSb b o q).1) (kp1 b o q)))
end
section
variable {X:Cx} {id:String} {x:Str} {e:Expr} {es:List Expr} {kws:List Keyword} {ks:List Str} {p pos:Pos} {t tk:TA}
def VL (X:Cx) (id:String) (ks:List Str) (r:List V -> List V -> Hp -> VK -> Prop):Prop :=
 ∀ (pins:List (Addr × Obj)) (s:Shared) (σ:L2.St) (H:Hp) (vs zs:List V) (us ws:List Value) (Q:VK),Inv X pins σ H s -> Vals vs us -> Vals zs ws -> r vs zs H Q -> wpAny (model X.prog X.w) X.A (call (.builtin id) us (ks.zip ws)) (EP X pins σ Q) X.xe s
def KS (r:List V -> List V -> Hp -> VK -> Prop) (t tk:TA):TE:=fun σ H Q=>t σ H fun vs H1=>tk σ H1 fun zs H2=>r vs zs H2 Q
theorem Xg {r:List V -> List V -> Hp -> VK -> Prop} (hc:VL X id ks r) (hg:Gl X x) (hm:X.mg x = none) (hv:bootBuiltins x = some (.builtin id)) (ha:PA X (e :: es) t) (hk:PK X kws tk) (hks:(backToKw pos (keywordEach kws X.env)).filterMap (·.1) = ks:=by rfl) (hn:x ≠ "__name__":=by decide) (hdb:(x == ("__debug__" : Str)) = false:=by decide)
  (he:backTo pos (starEach (e :: es) X.env) = (false,eval e X.env) :: backTo pos (starEach es X.env):=by rfl) (hpl:(backTo pos (starEach (e :: es) X.env)).any (·.1) = false:=by rfl)
  (hall:(backToKw pos (keywordEach kws X.env)).all (·.1.isSome) = true:=by rfl) (hkw:(backToKw pos (keywordEach kws X.env)).any (·.1.isNone) = false:=by rfl):PE X (.Call (.Name x p) (e :: es) kws pos) (KS r t tk):=by
 intro pins s σ H Q I h
 refine wpAny_Call_Name_kw (wn I hg hm hv ?_ hn hdb)
 refine callWith_kw (thn (ha pos pins s σ H _ I h) fun us s1 ⟨vs,H1,I1,r1,q1⟩=>thn (hk pos pins s1 σ H1 _ I1 q1) fun ws s2 ⟨zs,H2,I2,r2,q2⟩=>?_) he hpl hall hkw
 rw [hks]
 exact hc pins s2 σ H2 vs zs us ws Q I2 r1 r2 q2
def Kb (K:PySem.W.Frag):List V -> List V -> Hp -> VK -> Prop:=fun vs zs H Q=>∃ (a:Addr) (ns:List Int) (d:Int),vs = [.ref a] /\ zs = [.int d] /\ SqL K H a (ns.map V.int) /\ ∀ z:Int,(ns = [] -> z = d) -> (∀ n ∈ ns,n <= z) -> Q (.int z) H
theorem QC (hc:X.calm = true):VL X "max" [Str.ofString "default"] (Kb X.K):=by
 intro pins s σ H vs zs us ws Q I r1 r2 h
 obtain ⟨a,ns,d,rfl,rfl,hS,q⟩:=h
 obtain ⟨u,rfl,ru⟩:=xD r1
 cases ru
 obtain ⟨w',rfl,td,rfl⟩:=xD r2
 obtain ⟨its,rv,pl,hz⟩:=I.list hS
 have hlen:=rv.length
 rw [List.length_map] at hlen
 have hat:∀ (i:Nat) (v:Value),its.toArray[i]? = some v -> ∃ t,v = Value.int (ns.getD i 0) t:=fun i v hi=>by
  have hi':its[i]? = some v:=by simpa using hi
  have hil:=(List.getElem?_eq_some_iff.mp hi').1
  obtain ⟨u,hu,t,rfl⟩:=xq rv (j:=i) (x:=.int (ns.getD i 0)) (by rw [List.getElem?_map,List.getD_eq_getElem?_getD,List.getElem?_eq_getElem (by omega)]; rfl)
  rw [hi'] at hu
  cases hu
  exact ⟨t,rfl⟩
 refine XH (I.ok.hd hc) its.toArray (fun i=>ns.getD i 0) hat pl.isList (.int d td) fun v h' tk h0 h1 kp=>?_
 by_cases hn:ns = []
 ·have:=h0 (by rw [List.size_toArray,<- hlen,hn]; rfl)
  subst this
  exact ⟨.int d,H,I.kept kp,⟨_,rfl⟩,q d (fun _=>rfl) (fun n hm=>by rw [hn] at hm; cases hm)⟩
 ·obtain ⟨z,t,rfl,hzz⟩:=h1 (by rw [List.size_toArray,<- hlen]; exact List.length_pos_iff.mpr hn)
  refine ⟨.int z,H,I.kept kp,⟨_,rfl⟩,q z (fun e=>absurd e hn) fun n hm=>?_⟩
  obtain ⟨i,hi,rfl⟩:=List.getElem_of_mem hm
  have:=hzz i (by rw [List.size_toArray,<- hlen]; exact hi)
  rw [List.getD_eq_getElem?_getD,List.getElem?_eq_getElem hi] at this
  exact this
end
end L3
namespace L3
open PySem PySem.Spec PyProof.Rows L2
end L3
namespace L3
open PySem PySem.Spec PyProof.Rows L2
section
variable {X:Cx}
theorem ZZ {cn:Str} {np hpos:Pos} {b0:Stmt} {suite:List Stmt} {hs:List ExceptHandler} {D:Addr} {th:TS} (hg:Gl X cn) (hm:X.mg cn = some (.ref D)) (hdb:(cn == ("__debug__" : Str)) = false) (xc:ZA X.K D = true) (hsu:∀ e,PSs (Cx.suite X e) (b0 :: suite) th)
  {pins:List (Addr × Obj)} {s:Shared} {σ:St} {H:Hp} {Dd:wl} {x C T:Addr} {dx:Option Addr} (I:Inv X pins σ H s) (hob:∃ t cx kx,s.heap.get? x = some (xog C dx t (.ref T) cx kx)) (hoT:∃ oT ts,s.heap.get? T = some oT /\ oT.data = .fields ts /\ 3 < ts.size) (fT:wy X pins H T)
  (hb:PySem.W.subIn X.K (.ref C) (.ref D) = some true) (q:th Dd σ H):wpAny (model X.prog X.w) X.A (handleBy (.ref x) X.env (.ExceptHandler (some (.Name cn np)) none (b0 :: suite) hpos :: hs)) (SP X pins Dd) X.xe s:=by
 obtain ⟨t,cx,kx,ob⟩:=hob
 obtain ⟨oT,ts,eT,dT,zT⟩:=hoT
 have I':=Inv.suite I (.ref x)
 refine wpAny_handleBy_cons (codeAny_handlers_test (wK (X:=Cx.suite X (.ref x)) I' hg hm (QH I.kIn xc ob hb ?_) hdb)) (by intro q; cases q)
 refine codeAny_handlers_suite ?_
 unfold setFlight
 refine wpAny_bind (wpAny_field ob rfl (x:=.ref T) rfl ?_)
 rw [if_pos (show (Value.ref T != Value.none) = true from by simp)]
 refine wpAny_setField eT dT zT ?_
 obtain ⟨f0,f1,f2,f3,f4,f5⟩:=fT
 have I2:Inv X pins σ H { s with heap:=s.heap.update T (Obj.mapFields (·.setIfInBounds 3 ((none:Option Addr).elim Value.none fun f=>rawInt f))) } :=
  I.turned (t':=s.toks) (fun b o hb e=>(Heap.get?_update_other _ _ (Ne.symm hb)).trans e) f0 f1 f3 f4 f5
 refine wpAny_noRaise (thn (hsu _ pins _ σ H _ (Inv.suite I2 (.ref x)) q) fun fl s4 q4=>?_)
 cases fl with
 | next =>
  obtain ⟨σ4,H4,I4,n4⟩:=q4
  exact ⟨_,_,Inv.unsuite I I4,n4⟩
 | brk =>
  obtain ⟨σ4,H4,I4,n4⟩:=q4
  exact ⟨_,_,Inv.unsuite I I4,n4⟩
 | cont =>
  obtain ⟨σ4,H4,I4,n4⟩:=q4
  exact ⟨_,_,Inv.unsuite I I4,n4⟩
 | ret v =>
  obtain ⟨y,σ4,H4,I4,r4,n4⟩:=q4
  exact ⟨y,_,_,Inv.unsuite I I4,r4,n4⟩
end
end L3
namespace L3
open PySem PySem.Spec PyProof.Rows L2
section
variable {X:Cx}
def Vp (K:PySem.W.Frag) (i:Nat) (D:Addr) (te:TX) (th:TS):TS:=fun Dd σ H=>te σ H (fun v H1=>Dd.nx (σ.set i (some v)) H1) fun cls dx H1=>∃ C,cls = .ref C /\ PySem.W.subIn K (.ref C) (.ref D) = some true /\ ∀ x,H1 x = none -> th Dd σ (upd H1 x (XT x C dx))
theorem WU {i:Nat} {y:Str} {yp apos pos np hpos:Pos} {e:Expr} {te:TX} {cn:Str} {b0:Stmt} {suite:List Stmt} {hs:List ExceptHandler} {D:Addr} {th:TS}
  (hN:X.N.Nodup) (hy:X.N[i]? = some y) (hly:Loc X.env.scope y) (hf:X.fn y = true \/ X.env.scope.names.lookup y = some .local) (hst:X.stack = X.env :: X.outer /\ X.env.frame = some X.env.locals) (he:PEX X e te) (hg:Gl X cn) (hm:X.mg cn = some (.ref D)) (xc:ZA X.K D = true) (hsu:∀ e,PSs (Cx.suite X e) (b0 :: suite) th) (hdb:(cn == ("__debug__" : Str)) = false:=by decide) (hsw:swapsWith e (some (.Name y yp)) apos.line X.env = pure false:=by rfl) :
  PS X (.Try [.Assign [.Name y yp] e apos] (.ExceptHandler (some (.Name cn np)) none (b0 :: suite) hpos :: hs) [] [] pos) (Vp X.K i D te th):=by
 intro pins s σ H D I hq
 refine wpAny_Try_except (wpAny_execs_cons (wpAny_Assign_Name (wpAny_mono (he pins s σ H _ _ I hq) (fun v s1 ⟨z,H1,I1,r1,q1⟩=>?_) fun e s1 fl=>?_) hsw))
 ·exact qZ I1 hN hy hly r1 (fun s2 I2=>wpAny_execs_nil (wpAny_execs_nil ⟨_,H1,I2,q1⟩)) hf
 ·obtain ⟨cx,kx,H1,x,C,t,dx,tb,rfl,I1,ob,tr,fx,fT,C',ec,hsb,q1⟩:=fl
  cases ec
  have fr:X.A.frames = some (X.env :: X.outer):=by rw [<- hst.1]; exact I1.ok.frames
  have ff:s1.heap.FunFrames X.base (X.env :: X.outer):=by rw [<- hst.1]; exact I1.stack
  refine kI fr ff hst.2 hst.2 ob tr fun h' T oT ts e1 nT oldT e2 d2 z2 k1 k2=>?_
  have fT':wy X pins H1 T:=by
   rcases oldT with z | z
   ·exact fT T z
   ·exact I1.fpOk z (I1.hok.fresh z)
  have tbs:∀ b,tb = .ref b -> H1 b = none:=fun b hb=>(fT b hb).1
  have nch:∀ b o,s1.heap.get? b = some o -> b ∉ (x :: T :: tbL tb) -> b ≠ x /\ tb ≠ .ref b:=fun b o _ hb=>by
   refine ⟨fun z=>hb (by simp [z]),fun z=>hb ?_⟩
   rw [z]
   simp [tbL]
  have un:Un (frs X.stack) (x :: T :: tbL tb) H1 H1 s1.heap h':=by
   rw [hst.1]
   refine ⟨fun b o e n hb hc=>?_,fun b o e n hb hc=>?_,fun b o e n _=>n,fun b o e hc=>?_,fun b xs e=>e,fun b o u e=>e,fun b ps e=>⟨#[],by rw [e]; simp⟩⟩
   ·obtain ⟨a1,a2⟩:=nch b o e hc
    exact k1 b o a1 a2 hb e
   ·obtain ⟨a1,a2⟩:=nch b o e hc
    exact k2 b o a1 a2 e
   ·obtain ⟨a1,a2⟩:=nch b o e hc
    obtain ⟨sl,q⟩:=k2 b o a1 a2 e
    exact ⟨_,q⟩
  have hok:HOk X.prog X.w H1 h':=fun b u e=>by
   refine (I1.hok b u e).stay (fun c v hc q=>k1 c v ?_ ?_ ?_ q) (fun _ q=>q) fun _ _ q=>q
   ·rintro rfl
    rcases hc with rfl | hc
    ·rw [fx.1] at e; cases e
    ·rw [fx.1] at hc; cases hc
   ·intro z
    have:=tbs c z
    rcases hc with rfl | hc
    ·rw [this] at e; cases e
    ·rw [this] at hc; cases hc
   ·intro z
    rw [<- hst.1] at z
    have:=I1.stkFree c z
    rcases hc with rfl | hc
    ·rw [this] at e; cases e
    ·rw [this] at hc; cases hc
  have I2:Inv X pins σ H1 { s1 with heap:=h' }:=I1.call' (s':={ s1 with heap:=h' }) rfl un hok I1.bare fun b hb=>by
   have fb:wy X pins H1 b:=by
    rcases List.mem_cons.mp hb with z | z
    ·rw [z]; exact fx
    ·rcases List.mem_cons.mp z with z | z
     ·rw [z]; exact fT'
     ·cases tb with
      | ref b' =>
       have:b = b':=by simpa [tbL] using z
       rw [this]; exact fT b' rfl
      | _=>simp [tbL] at z
   obtain ⟨_,a1,_,a3,a4,a5⟩:=fb
   exact ⟨a3,a1,a4,a5⟩
  have I3:Inv X pins σ (upd H1 x (XT x C dx)) { s1 with heap:=h' }:=Inv.track I2 fx (Kn e1)
  exact ZZ hg hm hdb xc hsu I3 ⟨t,_,_,e1⟩ ⟨oT,ts,e2,d2,z2⟩ ⟨by rw [zp nT]; exact fT'.1,fT'.2⟩ hsb (q1 x fx.1)
end
end L3
namespace L3
open PySem PySem.Spec PyProof.Rows L2
section
variable {X:Cx}
theorem X2 (bs:List Bool):(List.range bs.length).any (fun i=>bs.getD i false) = bs.any id:=by
 induction bs with
 | nil=>rfl
 | cons b bs ih =>
  rw [List.length_cons,List.range_succ_eq_map,List.any_cons,List.any_map,List.any_cons,<- ih]
  rfl
def K9 (K:PySem.W.Frag):List V -> Hp -> VK -> Prop:=fun xs H Q=>∃ (p:Addr) (bs:List Bool),xs = [.ref p] /\ SqL K H p (bs.map V.bl) /\ Q (.bl (bs.any id)) H
theorem JN (hc:X.calm = true):wH X (.builtin "any") (K9 X.K):=by
 intro pins s σ H xs us Q I r h
 obtain ⟨p,bs,rfl,hS,q⟩:=h
 obtain ⟨u,rfl,ru⟩:=xD r
 cases ru
 obtain ⟨its,rv,pl,hz⟩:=I.list hS
 have hlen:its.length = bs.length:=by
  have:=rv.length
  rw [List.length_map] at this
  exact this.symm
 have hh:X.A.in1.handled = none:=I.ok.hd hc
 have hne:p ≠ s.heap.objs.size:=by
  obtain ⟨o,n,e,_⟩:=pl
  exact Nat.ne_of_lt (Heap.lt_size e)
 obtain ⟨f0,f1,f2,f3,f4,f5⟩:=I.fpOk (H':=H) (Nat.le_refl _) (I.hok.fresh (Nat.le_refl _))
 have I1:=I.kept (t':=s.toks) (h':=s.heap.push { cls:=.type "list_iterator",data:=.fields #[.ref p,.int 0 0] }) fun b o e=>Heap.get?_push_of_some _ e
 refine call_any_walk (wpAny_pyIter_list pl.isList ?_)
 refine ⟨s.heap.objs.size,_,_,_,_,_,fun i=>bs.getD i false,rfl,Walks.list hh s.heap.objs.size p hne its.toArray,⟨⟨_,Heap.get?_push_size _ rfl,rfl,rfl⟩,?_⟩,?_,?_⟩
 ·obtain ⟨o,n,e,c,d,dt⟩:=pl
  exact ⟨o,Heap.get?_push_of_some _ e,c,n,dt⟩
 ·intro i v s' Q' E' hv hq
  have:=jl rv (i:=i) (v:=v) (by simpa using hv)
  rw [this]
  exact wpAny_truthy_bool hq
 ·intro h' tk hk
  have e:(List.range its.toArray.size).any (fun i=>bs.getD i false) = bs.any id:=by
   rw [List.size_toArray,hlen,X2]
  rw [e]
  refine ⟨.bl _,H,?_,rfl,q⟩
  exact I1.turned (t':=tk) (it:=s.heap.objs.size) (fun b o hb q=>hk b o (by simpa using hb) q) f0 f1 f3 f4 f5
end
end L3
namespace L3
open PySem PySem.Spec PyProof.Rows L2
section
variable {g:TG} {tt:TT} {te:TE} {own:Nat} {ix:List Nat} {σ:L2.St} {H1:Hp} {Q:VK} {D:Addr}
end
end L3
namespace L3
open PySem PySem.Spec PyProof.Rows L2
section
variable {X:Cx}
def zav:V -> List V -> Hp -> VK -> Prop:=fun x vs H Q=>∃ l xs y,∃ i:Nat,x = .ref l /\ vs = [.int (i:Nat),y] /\ H l = some (.lst xs) /\ i <= xs.length /\ xs.length < 1000 /\ Q .non (upd H l (.lst (xs.take i ++ y :: xs.drop i)))
theorem Q9:MtM X "list.insert" zav:=by
 intro pins s σ H x vs v us Q I rx rv h
 obtain ⟨l,xs,y,i,rfl,rfl,hH,hi,hz,q⟩:=h
 have hs:=sizeLine_eq
 cases rx
 cases rv with
 | cons r1 r2 =>
  obtain ⟨t0,rfl⟩:=r1
  obtain ⟨u,rfl,ru⟩:=xD r2
  obtain ⟨z,its,n,r,hl,e⟩:=I.lstM hH
  have hc0:¬(!Builtin.List.listFitsIndex ((i:Nat):Int)) = true:=by
   have hf:Builtin.List.listFitsIndex ((i:Nat):Int) = true:=by
    unfold Builtin.List.listFitsIndex
    rw [Bool.and_eq_true,decide_eq_true_eq,decide_eq_true_eq]
    have h1:(0:Int) <= 2 ^ 63:=by decide
    have h2:(1000:Int) < 2 ^ 63:=by decide
    omega
   rw [hf]
   decide
  generalize hzi:((i:Nat):Int) = zi at hc0
  have hz1:its.toArray.size <= sizeLine:=by rw [List.size_toArray]; omega
  refine call_meets F.slot_list_insert ⟨_,e,rfl⟩ F.entry_list_insert (F.args_list_insert_3 _ _ _) (PySem.AutoSeq1.list_insert_list_int_val_1 l its.toArray n zi t0 u hc0 hz1) ⟨e,?_⟩
  refine ⟨.non,_,I.lset (its':=its.take i ++ u :: its.drop i) hH e ?_ ?_ ?_,rfl,q⟩
  ·have hi2:i <= its.length:=by omega
   simp only
   rw [<- hzi,if_neg (by omega),List.size_toArray,Int.toNat_natCast,Nat.min_eq_left hi2]
   apply Array.toList_inj.mp
   simp [List.extract_eq_drop_take]
   exact List.take_of_length_le (by rw [List.length_drop]; omega)
  ·have a1:Vals (xs.take i) (its.take i):=Vals.take i r
   exact a1.append (.cons ru (Vals.drop i r))
  ·simp only [List.length_append,List.length_take,List.length_cons,List.length_drop]
   omega
def K8:R2:=fun x y H Q=>∃ p w:List Nat,x = .str (tx p) /\ y = .str (tx w) /\ ∀ b:Bool,(b = true ↔ ∃ q:Nat,q + p.length <= w.length /\ (w.drop q).take p.length = p) -> Q (.bl b) H
theorem VR:OpR X (compareOp .In) K8:=by
 intro pins s σ H x y v u Q I rx ry h
 obtain ⟨p,w,rfl,rfl,q⟩:=h
 refine YN pins s σ H _ _ v u Q I rx ry ⟨_,_,rfl,rfl,q _ ?_⟩
 rcases ur (tx w) (tx p) 0 (tx w).length with ⟨e,no⟩ | ⟨i,r,e,hl,ha,no⟩
 ·rw [e]
  refine ⟨fun h=>by simp at h,fun ⟨k,k1,k2⟩=>absurd ((QL w p _ k).mpr ⟨by rw [yf]; exact k1,k2⟩) (no k (Nat.zero_le _))⟩
 ·rw [e]
  obtain ⟨a1,a2⟩:=(QL w p _ i).mp ha
  exact ⟨fun _=>⟨i,by rw [yf] at a1; exact a1,a2⟩,fun _=>rfl⟩
end
end L3
namespace L3
open PySem PySem.W PyProof.Rows
def JS (lt:Nat -> Nat -> Bool) {α:Type}:KasT α -> α
 | .ret a=>a
 | .ask i j k=>JS lt (k (lt i j))
def Kok (lt:Nat -> Nat -> Bool) (n:Nat) {α:Type}:KasT α -> (α -> Prop) -> Prop
 | .ret a,Q=>Q a
 | .ask i j k,Q=>i < n /\ j < n /\ Kok lt n (k (lt i j)) Q
section
variable {lt:Nat -> Nat -> Bool} {n:Nat} {α β:Type}
theorem Kok.mono {Q Q':α -> Prop} (hq:∀ a,Q a -> Q' a):∀ (t:KasT α),Kok lt n t Q -> Kok lt n t Q'
 | .ret a,h=>hq a h
 | .ask _ _ k,h=>⟨h.1,h.2.1,Kok.mono hq (k _) h.2.2⟩
theorem Kok.bind {f:α -> KasT β} {Q:β -> Prop}:∀ (t:KasT α),Kok lt n t (fun a=>Kok lt n (f a) Q) -> Kok lt n (t.bind f) Q
 | .ret _,h=>h
 | .ask _ _ k,h=>⟨h.1,h.2.1,Kok.bind (k _) h.2.2⟩
theorem Kok.run {Q:α -> Prop}:∀ (t:KasT α),Kok lt n t Q -> Q (JS lt t)
 | .ret _,h=>h
 | .ask _ _ k,h=>Kok.run (k _) h.2.2
theorem Kok.wp {cmp:Nat -> Nat -> (Bool -> Shared -> Prop) -> Shared -> Prop} {I:Shared -> Prop} (hc:∀ i j C s,i < n -> j < n -> I s -> (∀ s',I s' -> C (lt i j) s') -> cmp i j C s) {Q:α -> Prop} {R:α -> Shared -> Prop}
  (hR:∀ a s,Q a -> I s -> R a s):∀ (t:KasT α) (s:Shared),I s -> Kok lt n t Q -> t.kasWp cmp R s
 | .ret a,s,hI,h=>hR a s h hI
 | .ask i j k,s,hI,h=>hc i j _ s h.1 h.2.1 hI fun s' hI'=>Kok.wp hc hR (k _) s' hI' h.2.2
end
structure Wk (lt:Nat -> Nat -> Bool):Prop where
 asym:∀ a b,lt a b = true -> lt b a = false
 ntr:∀ a b c,lt b a = false -> lt c b = false -> lt c a = false
section
variable {lt:Nat -> Nat -> Bool} {n:Nat}
abbrev Lq (lt:Nat -> Nat -> Bool) (a b:Nat):Prop:=lt b a = false
theorem Wk.refl (W:Wk lt) (a:Nat):Lq lt a a:=by
 cases h:lt a a with
 | false=>exact h
 | true=>exact absurd h (by rw [W.asym a a h]; decide)
abbrev pg (p:Array Nat) (i:Nat):Nat:=p.getD i 0
theorem ZT (p:Array Nat) (i:Nat):pg p i = (p[i]?).getD 0:=by simp [pg,Array.getD_eq_getD_getElem?]
def Up (lt:Nat -> Nat -> Bool) (p:Array Nat) (m:Nat):Prop:=∀ i j,i < j -> j < m -> Lq lt (pg p i) (pg p j)
def Dn (lt:Nat -> Nat -> Bool) (p:Array Nat) (m:Nat):Prop:=∀ i j,i < j -> j < m -> Lq lt (pg p j) (pg p i)
def Rg (n:Nat) (p:Array Nat):Prop:=p.toList.Perm (List.range n)
theorem Rg.size {p:Array Nat} (h:Rg n p):p.size = n:=by have:=h.length_eq; simpa using this
theorem Rg.bd {p:Array Nat} (h:Rg n p) {i:Nat} (hi:i < n):pg p i < n:=by
 have hs:=h.size
 have hi':i < p.size:=by omega
 have e:pg p i = p[i]:=by simp [pg,Array.getD,hi']
 rw [e]
 have hm:p[i] ∈ p.toList:=Array.mem_toList_iff.mpr (Array.getElem_mem hi')
 exact List.mem_range.mp (h.mem_iff.mp hm)
theorem wu {p:Array Nat} {i j:Nat} (hj:j <= p.size) (k:Nat):pg (kas_rev p i j) k = if i <= k /\ k < j then pg p (i + j - 1 - k) else pg p k:=by
 rw [ZT,kas_rev,getElem?_mirror_all hj]
 split <;> rw [ZT]
theorem Rg.rev {p:Array Nat} (h:Rg n p) (i j:Nat):Rg n (kas_rev p i j):=(Array.perm_iff_toList_perm.mp (mirror_perm p i j _)).trans h
theorem Rg.bub {p:Array Nat} (h:Rg n p) (i j:Nat):Rg n (bubble p i j):=(Array.perm_iff_toList_perm.mp (bubble_perm p i j)).trans h
theorem X1 (W:Wk lt) {p:Array Nat} (hp:Rg n p):∀ (f k:Nat),1 <= k -> k + f <= n -> Up lt p k -> Kok lt n (kas_asc p f k) (fun m=>k <= m /\ m <= k + f /\ Up lt p m /\ (m = k + f \/ lt (pg p m) (pg p (m - 1)) = true))
 | 0,k,h1,h2,hu=>⟨by omega,by omega,hu,Or.inl (by omega)⟩
 | f + 1,k,h1,h2,hu=>by
  refine ⟨hp.bd (by omega),hp.bd (by omega),?_⟩
  rcases Bool.eq_false_or_eq_true (lt (pg p k) (pg p (k - 1))) with hc | hc
  ·show Kok lt n (if lt (pg p k) (pg p (k - 1)) = true then .ret k else _) _
   rw [if_pos hc]
   exact ⟨by omega,by omega,hu,Or.inr hc⟩
  ·show Kok lt n (if lt (pg p k) (pg p (k - 1)) = true then .ret k else _) _
   rw [if_neg (by rw [hc]; decide)]
   refine (X1 W hp f (k + 1) (by omega) (by omega) fun i j hij hj=>?_).mono (fun m hm=>⟨by omega,by omega,hm.2.2.1,?_⟩) _
   ·by_cases e:j = k
    ·subst e
     by_cases e2:i = j - 1
     ·subst e2; exact hc
     ·exact W.ntr _ _ _ (hu i (j - 1) (by omega) (by omega)) hc
    ·exact hu i j hij (by omega)
   ·rcases hm.2.2.2 with h | h
    ·exact Or.inl (by omega)
    ·exact Or.inr h
def Ev (lt:Nat -> Nat -> Bool) (p:Array Nat) (a b:Nat):Prop:=∀ i j,a <= i -> i < b -> a <= j -> j < b -> Lq lt (pg p i) (pg p j)
theorem Vo {p:Array Nat} {m q:Nat} (hm:m <= p.size) (hq:q + 1 <= m) (hd:Dn lt p m) (he:Ev lt p (m - (q + 1)) m):Dn lt (kas_rev p (m - (q + 1)) m) m:=by
 intro i j hij hj
 rw [wu hm,wu hm]
 by_cases h1:m - (q + 1) <= i
 ·rw [if_pos (show m - (q + 1) <= i /\ i < m by omega),if_pos (show m - (q + 1) <= j /\ j < m by omega)]
  exact he _ _ (by omega) (by omega) (by omega) (by omega)
 ·rw [if_neg (show ¬ (m - (q + 1) <= i /\ i < m) by omega)]
  split
  ·exact hd _ _ (by omega) (by omega)
  ·exact hd _ _ (by omega) (by omega)
theorem jc (W:Wk lt):∀ (f:Nat) (p:Array Nat) (k q:Nat),Rg n p -> 1 <= k -> k + f <= n -> q + 1 <= k -> Dn lt p k -> Ev lt p (k - (q + 1)) k ->
  Kok lt n (kas_desc f p k q) (fun r=>Rg n r.1 /\ k <= r.2.1 /\ r.2.1 <= k + f /\ r.2.2 + 1 <= r.2.1 /\ Dn lt r.1 r.2.1 /\ Ev lt r.1 (r.2.1 - (r.2.2 + 1)) r.2.1)
 | 0,p,k,q,hp,h1,h2,hq,hd,he=>⟨hp,Nat.le_refl _,Nat.le_add_right _ _,hq,hd,he⟩
 | f + 1,p,k,q,hp,h1,h2,hq,hd,he=>by
  have hps:=hp.size
  refine ⟨hp.bd (by omega),hp.bd (by omega),?_⟩
  have one:∀ (p:Array Nat),Ev lt p (k + 1 - (0 + 1)) (k + 1):=fun p i j a b c d=>by
   have:i = j:=by omega
   subst this
   exact W.refl _
  rcases Bool.eq_false_or_eq_true (lt (pg p k) (pg p (k - 1))) with hc | hc
  ·show Kok lt n (if lt (pg p k) (pg p (k - 1)) = true then _ else _) _
   rw [if_pos hc]
   have hle:Lq lt (pg p k) (pg p (k - 1)):=W.asym _ _ hc
   split
   ·rename_i hq0
    refine (jc W f _ (k + 1) 0 (hp.rev _ _) (by omega) (by omega) (by omega) (fun i j hij hj=>?_) (one _)).mono (fun r hr=>⟨hr.1,by omega,by omega,hr.2.2.2⟩) _
    by_cases e:j = k
    ·subst e
     rw [wu (by omega),wu (by omega),if_neg (by omega)]
     split
     ·exact W.ntr _ _ _ hle (he _ _ (by omega) (by omega) (by omega) (by omega))
     ·exact W.ntr _ _ _ hle (hd _ _ (by omega) (by omega))
    ·exact Vo (by omega) hq hd he i j hij (by omega)
   ·refine (jc W f _ (k + 1) 0 hp (by omega) (by omega) (by omega) (fun i j hij hj=>?_) (one _)).mono (fun r hr=>⟨hr.1,by omega,by omega,hr.2.2.2⟩) _
    by_cases e:j = k
    ·subst e
     by_cases e2:i = j - 1
     ·subst e2; exact hle
     ·exact W.ntr _ _ _ hle (hd i (j - 1) (by omega) (by omega))
    ·exact hd i j hij (by omega)
  ·show Kok lt n (if lt (pg p k) (pg p (k - 1)) = true then _ else _) _
   rw [if_neg (by rw [hc]; decide)]
   refine ⟨hp.bd (by omega),hp.bd (by omega),?_⟩
   rcases Bool.eq_false_or_eq_true (lt (pg p (k - 1)) (pg p k)) with hd2 | hd2
   ·show Kok lt n (if lt (pg p (k - 1)) (pg p k) = true then _ else _) _
    rw [if_pos hd2]
    exact ⟨hp,Nat.le_refl _,Nat.le_add_right _ _,hq,hd,he⟩
   ·show Kok lt n (if lt (pg p (k - 1)) (pg p k) = true then _ else _) _
    rw [if_neg (by rw [hd2]; decide)]
    refine (jc W f _ (k + 1) (q + 1) hp (by omega) (by omega) (by omega) (fun i j hij hj=>?_) (fun i j a b c d=>?_)).mono (fun r hr=>⟨hr.1,by omega,by omega,hr.2.2.2⟩) _
    ·by_cases e:j = k
     ·subst e
      by_cases e2:i = j - 1
      ·subst e2; exact hd2
      ·exact W.ntr _ _ _ hd2 (hd i (j - 1) (by omega) (by omega))
     ·exact hd i j hij (by omega)
    ·have b1:∀ i,k + 1 - (q + 1 + 1) <= i -> i < k -> Lq lt (pg p i) (pg p (k - 1)) /\ Lq lt (pg p (k - 1)) (pg p i):=fun i a b=>⟨he _ _ (by omega) (by omega) (by omega) (by omega),he _ _ (by omega) (by omega) (by omega) (by omega)⟩
     by_cases e:j = k
     ·subst e
      by_cases e3:i = j
      ·subst e3; exact W.refl _
      ·exact W.ntr _ _ _ (b1 i (by omega) (by omega)).1 hc
     ·by_cases e3:i = k
      ·subst e3
       exact W.ntr _ _ _ hd2 (b1 j (by omega) (by omega)).2
      ·exact he _ _ (by omega) (by omega) (by omega) (by omega)
theorem ZB (W:Wk lt) {p:Array Nat} {m:Nat} (hp:Rg n p) (h1:1 <= m) (hm:m <= n) (hd:Dn lt p m):Kok lt n (kas_tail3 m n p) (fun r=>Rg n r.2 /\ 1 <= r.1 /\ r.1 <= n /\ Up lt r.2 r.1):=by
 have hps:=hp.size
 unfold kas_tail3
 refine Kok.bind _ ((X1 W (hp.rev 0 m) (n - m) m h1 (by omega) fun i j hij hj=>?_).mono (fun k hk=>⟨hp.rev 0 m,by show 1 <= k; omega,by show k <= n; omega,hk.2.2.1⟩) _)
 rw [wu (by omega),wu (by omega),if_pos (by omega),if_pos (by omega)]
 exact hd _ _ (by omega) (by omega)
theorem uk (W:Wk lt) {p:Array Nat} {m:Nat} (hp:Rg n p) (h1:1 <= m) (hm:m + 1 <= n) (hd:Dn lt p (m + 1)):Kok lt n (kas_descPart m n p) (fun r=>Rg n r.2 /\ 1 <= r.1 /\ r.1 <= n /\ Up lt r.2 r.1):=by
 unfold kas_descPart
 refine Kok.bind _ ((jc W (n - (m + 1)) p (m + 1) 0 hp (by omega) (by omega) (by omega) hd fun i j a b c d=>?_).mono (fun r hr=>?_) _)
 ·have:i = j:=by omega
  subst this
  exact W.refl _
 ·obtain ⟨r1,r2,r3,r4,r5,r6⟩:=hr
  have hs:=r1.size
  (try dsimp only)
  split
  ·exact ZB W (r1.rev _ _) (by omega) (by omega) (Vo (by omega) r4 r5 r6)
  ·exact ZB W r1 (by omega) (by omega) r5
theorem Wq (W:Wk lt) {p:Array Nat} (hp:Rg n p) (hn:1 <= n):Kok lt n (kas_count n p) (fun r=>Rg n r.2 /\ 1 <= r.1 /\ r.1 <= n /\ Up lt r.2 r.1):=by
 have hps:=hp.size
 unfold kas_count
 refine Kok.bind _ ((X1 W hp (n - 1) 1 (Nat.le_refl _) (by omega) fun i j hij hj=>by omega).mono (fun m hm=>?_) _)
 obtain ⟨m1,m2,mu,ms⟩:=hm
 by_cases e:(m == n) = true
 ·rw [if_pos e]
  exact ⟨hp,by show 1 <= m; omega,by show m <= n; omega,mu⟩
 ·rw [if_neg e]
  have hne:m ≠ n:=fun h=>e (by rw [h]; exact beq_self_eq_true _)
  have hlt:lt (pg p m) (pg p (m - 1)) = true:=by
   rcases ms with h | h
   ·omega
   ·exact h
  have hle:Lq lt (pg p m) (pg p (m - 1)):=W.asym _ _ hlt
  by_cases h1:m > 1
  ·rw [if_pos h1]
   refine ⟨hp.bd (by omega),hp.bd (by omega),?_⟩
   rcases Bool.eq_false_or_eq_true (lt (pg p 0) (pg p (m - 1))) with hc | hc
   ·show Kok lt n (if lt (pg p 0) (pg p (m - 1)) = true then _ else _) _
    rw [if_pos hc]
    exact ⟨hp,by show 1 <= m; omega,by show m <= n; omega,mu⟩
   ·show Kok lt n (if lt (pg p 0) (pg p (m - 1)) = true then _ else _) _
    rw [if_neg (by rw [hc]; decide)]
    have u0:∀ i,i < m -> Lq lt (pg p 0) (pg p i):=fun i hi=>by
     by_cases h:i = 0
     ·subst h; exact W.refl _
     ·exact mu 0 i (by omega) hi
    have ul:∀ i,i < m -> Lq lt (pg p i) (pg p (m - 1)):=fun i hi=>by
     by_cases h:i = m - 1
     ·subst h; exact W.refl _
     ·exact mu i (m - 1) (by omega) (by omega)
    have ev:∀ i j,i < m -> j < m -> Lq lt (pg p i) (pg p j):=fun i j hi hj=>W.ntr _ _ _ (ul i hi) (W.ntr _ _ _ hc (u0 j hj))
    refine uk W (hp.rev 0 m) (by omega) (by omega) fun i j hij hj=>?_
    by_cases h:j = m
    ·subst h
     rw [wu (by omega),wu (by omega),if_neg (by omega),if_pos (by omega)]
     exact W.ntr _ _ _ hle (ev _ _ (by omega) (by omega))
    ·rw [wu (by omega),wu (by omega),if_pos (by omega),if_pos (by omega)]
     exact ev _ _ (by omega) (by omega)
  ·rw [if_neg h1]
   refine uk W hp (by omega) (by omega) fun i j hij hj=>?_
   have h0:i = m - 1:=by omega
   have h1:j = m:=by omega
   subst h0 h1
   exact hle
theorem qX (W:Wk lt) {p:Array Nat} (hp:Rg n p) {k:Nat} (hk:k < n) (hu:Up lt p k):∀ (f l r:Nat),l <= r -> r <= k -> r - l <= f -> (∀ i,i < l -> Lq lt (pg p i) (pg p k)) -> (∀ i,r <= i -> i < k -> Lq lt (pg p k) (pg p i)) ->
  Kok lt n (kas_place p k f l r) (fun m=>m <= k /\ (∀ i,i < m -> Lq lt (pg p i) (pg p k)) /\ (∀ i,m <= i -> i < k -> Lq lt (pg p k) (pg p i)))
 | 0,l,r,hl,hr,hf,h1,h2=>by
  have:l = r:=by omega
  subst this
  exact ⟨hr,h1,h2⟩
 | f + 1,l,r,hl,hr,hf,h1,h2=>by
  unfold kas_place
  by_cases e:l ≥ r
  ·rw [if_pos e]
   have:l = r:=by omega
   subst this
   exact ⟨hr,h1,h2⟩
  ·rw [if_neg e]
   refine ⟨hp.bd hk,hp.bd (by omega),?_⟩
   rcases Bool.eq_false_or_eq_true (lt (pg p k) (pg p ((l + r) / 2))) with hc | hc
   ·show Kok lt n (if lt (pg p k) (pg p ((l + r) / 2)) = true then _ else _) _
    rw [if_pos hc]
    refine qX W hp hk hu f l ((l + r) / 2) (by omega) (by omega) (by omega) h1 fun i hi hik=>?_
    by_cases e2:i = (l + r) / 2
    ·subst e2; exact W.asym _ _ hc
    ·exact W.ntr _ _ _ (W.asym _ _ hc) (hu _ _ (by omega) hik)
   ·show Kok lt n (if lt (pg p k) (pg p ((l + r) / 2)) = true then _ else _) _
    rw [if_neg (by rw [hc]; decide)]
    refine qX W hp hk hu f ((l + r) / 2 + 1) r (by omega) hr (by omega) (fun i hi=>?_) h2
    by_cases e2:i = (l + r) / 2
    ·subst e2; exact hc
    ·exact W.ntr _ _ _ (hu i ((l + r) / 2) (by omega) (by omega)) hc
theorem Vi {p:Array Nat} {k l:Nat} (hk:k < p.size) (hl:l <= k) (i:Nat):pg (bubble p k (k - l)) i = if i = l then pg p k else if l < i /\ i <= k then pg p (i - 1) else pg p i:=by
 have e:k - (k - l) = l:=by omega
 rw [ZT,getElem?_bubble hk (k - l) (by omega),e]
 by_cases h:i = l
 ·rw [if_pos h,if_pos h]; exact (ZT p k).symm
 ·rw [if_neg h,if_neg h]
  by_cases h':l < i /\ i <= k
  ·rw [if_pos h',if_pos h']; exact (ZT p (i - 1)).symm
  ·rw [if_neg h',if_neg h']; exact (ZT p i).symm
theorem VJ (W:Wk lt):∀ (f:Nat) (p:Array Nat) (k:Nat),Rg n p -> k + f = n -> Up lt p k -> Kok lt n (kas_bin f p k) (fun p'=>Rg n p' /\ Up lt p' n)
 | 0,p,k,hp,hk,hu=>by
  have:k = n:=by omega
  subst this
  exact ⟨hp,hu⟩
 | f + 1,p,k,hp,hk,hu=>by
  have hps:=hp.size
  refine Kok.bind _ ((qX W hp (by omega) hu k 0 k (by omega) (by omega) (by omega) (fun i hi=>by omega) (fun i h1 h2=>by omega)).mono (fun l hl=>?_) _)
  obtain ⟨l1,l2,l3⟩:=hl
  refine VJ W f _ (k + 1) (hp.bub _ _) (by omega) fun i j hij hj=>?_
  rw [Vi (by omega) l1,Vi (by omega) l1]
  by_cases h1:i = l
  ·rw [if_pos h1,if_neg (by omega),if_pos (by omega)]
   exact l3 _ (by omega) (by omega)
  ·rw [if_neg h1]
   by_cases h2:j = l
   ·rw [if_pos h2,if_neg (by omega)]
    exact l2 _ (by omega)
   ·rw [if_neg h2]
    by_cases h3:l < i /\ i <= k
    ·rw [if_pos h3,if_pos (by omega)]
     exact hu _ _ (by omega) (by omega)
    ·rw [if_neg h3]
     by_cases h4:l < j /\ j <= k
     ·rw [if_pos h4]
      by_cases h5:i = j - 1
      ·omega
      ·exact hu _ _ (by omega) (by omega)
     ·rw [if_neg h4]
      exact hu _ _ (by omega) (by omega)
theorem Uu (W:Wk lt) (hn:1 <= n):Kok lt n (kas_sort n) (fun p=>Rg n p /\ Up lt p n):=by
 unfold kas_sort
 refine Kok.bind _ ((Wq W (p:=List.toArray (List.range n)) (by unfold Rg; exact List.Perm.refl _) hn).mono (fun r hr=>?_) _)
 obtain ⟨r1,r2,r3,r4⟩:=hr
 (try dsimp only)
 split
 ·have:max r.1 1 = r.1:=by omega
  rw [this]
  exact VJ W _ _ _ r1 (by omega) r4
 ·have:r.1 = n:=by omega
  rw [this] at r4
  exact ⟨r1,r4⟩
end
def srt {α:Type} (lt:α -> α -> Bool) (d:α) (xs:List α):List α :=
 if xs.length < 2 then xs else (JS (fun i j=>lt (xs.getD i d) (xs.getD j d)) (kas_sort xs.length)).toList.map fun i=>xs.getD i d
structure WkO {α:Type} (lt:α -> α -> Bool):Prop where
 asym:∀ a b,lt a b = true -> lt b a = false
 ntr:∀ a b c,lt b a = false -> lt c b = false -> lt c a = false
end L3
namespace L3
open PySem PySem.Spec PyProof.Rows L2
structure KeyFam (α:Type) where
 dec:α -> List D
 lt:α -> α -> Bool
 fst:Bool
 d0:α
structure KeyFam.Ok {α:Type} (F:KeyFam α):Prop where
 w:WkO F.lt
 eq:∀ a b,vj (F.dec a) (F.dec b) = F.lt a b
 ok:∀ a b,qb (F.dec a) (F.dec b)
 dp:∀ a,wz (F.dec a) < 40
 sh:∀ a,∃ d r,F.dec a = d :: r /\ ((F.fst = true /\ ∃ n,d = .int n) \/ (F.fst = false /\ ∃ l,d = .tup l))
section
variable {X:Cx} {pins:List (Addr × Obj)} {σ:L2.St} {H:Hp} {s:Shared}
theorem Inv.repin {b:Addr} {o o':Obj} {h':Heap} (I:Inv X (pins ++ [(b,o)]) σ H s) (hs:X.s₀.heap.objs.size <= b) (hn:∀ p ∈ X.pn ++ pins,p.1 ≠ b) (sb:Heap.SameBut b s.heap h') (ho:h'.get? b = some o') (hd:∀ v,o'.data ≠ .cell v) :
  Inv X (pins ++ [(b,o')]) σ H { s with heap:=h' }:=by
 have I1:Inv X pins σ H s:=I.unpinned
 obtain ⟨p1,p2,p3,p4,p5⟩:=I.pin (b,o) (List.mem_append_right _ (List.mem_append_right _ (List.mem_singleton.mpr rfl)))
 have I2:Inv X pins σ H { s with heap:=h' }:=Inv.turns I1 (fp:=[b]) (t':=s.toks) (fun b' u hb e=>(sb.2 b' (by simpa using hb)).trans e) fun b' hb=>by
  have e:b' = b:=by simpa using hb
  subst e
  refine ⟨p2,p3,p4,.inr hs,fun x c e z=>?_,hn⟩
  obtain ⟨v,o1,ho1,hd1⟩:=I.cell x c e
  subst z
  rw [p1] at ho1
  cases ho1
  exact p5 v hd1
 exact I2.pins_of fun p hp=>by
  rcases List.mem_append.mp hp with z | z
  ·exact I2.pin p (List.mem_append_right _ z)
  ·have e:p = (b,o'):=by simpa using z
   subst e
   exact ⟨ho,p2,p3,p4,hd⟩
theorem Inv.newpin {b:Addr} {o:Obj} (I:Inv X pins σ H s) (hf:wy X pins H b) (ho:s.heap.get? b = some o) (hd:∀ v,o.data ≠ .cell v):Inv X (pins ++ [(b,o)]) σ H s :=
 I.pins_of fun p hp=>by
  rcases List.mem_append.mp hp with z | z
  ·exact I.pin p (List.mem_append_right _ z)
  ·have e:p = (b,o):=by simpa using z
   subst e
   exact ⟨ho,hf.1,hf.2.1,hf.2.2.1,hd⟩
theorem Q4 (I:Inv X pins σ H s) {A:Around} {b:Bool} {Q:Bool -> Shared -> Prop} (hu:A.units + 50 < cLine):∀ (l m:List D) (xs ys:List V) (its its':List Value) (i:Nat),Iss X.K H l xs -> Iss X.K H m ys -> Vals xs its -> Vals ys its' -> qb l m -> wz l < 40 ->
  (b = true -> i = 0 -> (∃ n r,l = .int n :: r) /\ ∃ n r,m = .int n :: r) -> Q (vj l m) s -> PySem.W.KatLex X.prog X.w A b (decide (its.length < its'.length)) Q (its.zip its') i s
 | [],m,xs,ys,its,its',i,h1,h2,r1,r2,ok,hd,hb,q=>by
  simp only [Iss] at h1
  subst h1
  cases r1
  have e:vj [] m = decide (([]:List Value).length < its'.length):=by
   have e1:=h2.len
   have e2:=r2.length
   have e3:m.length = its'.length:=by omega
   rw [<- e3]
   cases m with
   | nil=>simp [vj]
   | cons _ _=>simp [vj]
  rw [e] at q
  rw [List.zip_nil_left]
  exact PySem.W.kat_nil q
 | d :: l,[],xs,ys,its,its',i,h1,h2,r1,r2,ok,hd,hb,q=>by
  simp only [Iss] at h2
  subst h2
  cases r2
  simp only [vj] at q
  rw [List.zip_nil_right]
  exact PySem.W.kat_nil (by simpa using q)
 | d :: l,e :: m,xs,ys,its,its',i,h1,h2,r1,r2,ok,hd,hb,q=>by
  simp only [Iss] at h1 h2
  obtain ⟨x,xr,rfl,hx,hxr⟩:=h1
  obtain ⟨y,yr,rfl,hy,hyr⟩:=h2
  cases r1 with | cons rx rxr =>
  cases r2 with | cons ry ryr =>
  simp only [qb] at ok
  simp only [wz] at hd
  rename_i u us v vs
  rw [List.zip_cons_cons]
  refine PySem.W.kat_cons (ux I 45 A d e x y u v (by omega) (by omega) hx hy rx ry X.prog X.w _ _ ?_)
  cases he:eqD d e with
  | true =>
   refine PySem.W.kat_yes ?_
   have:=Q4 I (b:=b) hu l m xr yr us vs (i + 1) hxr hyr rxr ryr ok.2 (by omega) (fun _ z=>absurd z (by omega)) (by simpa only [vj,he,if_true] using q)
   simpa using this
  | false =>
   refine PySem.W.kat_no ?_
   have q':Q (ltD d e) s:=by simpa only [vj,he,Bool.false_eq_true,if_false] using q
   by_cases hbi:(b && i == 0) = true
   ·rw [hbi]
    simp only [Bool.and_eq_true,beq_iff_eq] at hbi
    obtain ⟨⟨n,r,e1⟩,n',r',e2⟩:=hb hbi.1 hbi.2
    cases e1; cases e2
    simp only [Is] at hx hy
    subst hx hy
    obtain ⟨t,rfl⟩:=rx
    obtain ⟨t',rfl⟩:=ry
    simp only [ltD] at q'
    exact oneLt_int q'
   ·rw [show (b && i == 0) = false by simpa using hbi]
    exact PySem.W.kat_one _ _ (Vz I 45 A d e x y u v (by omega) (by omega) ok.1 hx hy rx ry X.prog X.w _ _ q')
theorem Qd (I:Inv X pins σ H s) {A:Around} {b:Bool} {Q:Bool -> Shared -> Prop} {E:Value -> Shared -> Prop} (hu:A.units + 50 < cLine) {l m:List D} {x y:V} {u v:Value} (hx:Is X.K H (.tup l) x) (hy:Is X.K H (.tup m) y) (rx:RelV x u) (ry:RelV y v)
  (ok:qb l m) (hd:wz l < 40) (hb:b = true -> (∃ n r,l = .int n :: r) /\ ∃ n r,m = .int n :: r) (q:Q (vj l m) s):wpAny (model X.prog X.w) A (keyLt' (tuples' b) u v) Q E s:=by
 simp only [Is] at hx hy
 obtain ⟨a,xs,rfl,h1,h2⟩:=hx
 obtain ⟨c,ys,rfl,g1,g2⟩:=hy
 cases rx; cases ry
 obtain ⟨its,r,⟨o,ho,hoc,n,hod⟩,_⟩:=I.tuple h1
 obtain ⟨its',r',⟨o',ho',hoc',n',hod'⟩,_⟩:=I.tuple g1
 refine PySem.W.kat_lt ho hod ho' hod' ?_
 have:=Q4 I (A:=A) (b:=b) (Q:=Q) hu l m xs ys its its' 0 h2 g2 r r' ok hd (fun z _=>hb z) q
 simpa using this
theorem Vn {α:Type} {F:KeyFam α} (FO:F.Ok) (I:Inv X pins σ H s) {M:Model}:∀ (rs:List α) (acc:List V) (ks:List Value),Iss X.K H (rs.map fun a=>.tup (F.dec a)) acc -> Vals acc ks ->
  ∃ fs,PySem.W.KatTups s.heap ks fs /\ fs.length = rs.length /\ ∀ v ∈ fs,PySem.W.Looks M s.heap (typeOf v) (.type (if F.fst = true then "int" else "tuple"))
 | [],acc,ks,h,r=>by
  simp only [List.map_nil,Iss] at h
  subst h
  cases r
  exact ⟨[],PySem.W.KatTups.nil,rfl,fun v hv=>by cases hv⟩
 | a :: rs,acc,ks,h,r=>by
  simp only [List.map_cons,Iss] at h
  obtain ⟨x,xr,rfl,hx,hxr⟩:=h
  cases r with | cons rx rxr =>
  rename_i u us
  obtain ⟨fs,t1,t2,t3⟩:=Vn FO I (M:=M) rs xr us hxr rxr
  simp only [Is] at hx
  obtain ⟨c,xs,rfl,h1,h2⟩:=hx
  cases rx
  obtain ⟨its,ri,⟨o,ho,hoc,n,hod⟩,_⟩:=I.tuple h1
  obtain ⟨d,dr,ed,hsh⟩:=FO.sh a
  rw [ed] at h2
  simp only [Iss] at h2
  obtain ⟨y,yr,rfl,hy,_⟩:=h2
  cases ri with | cons ry rir =>
  rename_i v vs
  refine ⟨v :: fs,PySem.W.KatTups.cons ho hoc hod (by simp) t1,by simp [t2],fun z hz=>?_⟩
  rcases List.mem_cons.mp hz with e | hz
  ·subst e
   rcases hsh with ⟨hf,n',rfl⟩ | ⟨hf,l,rfl⟩
   ·rw [if_pos hf]
    simp only [Is] at hy
    subst hy
    obtain ⟨t,rfl⟩:=ry
    exact PySem.W.Looks.of_pure rfl
   ·rw [if_neg (by rw [hf]; decide)]
    simp only [Is] at hy
    obtain ⟨c',xs',rfl,g1,_⟩:=hy
    cases ry
    obtain ⟨its',ri',⟨o',ho',hoc',n',hod'⟩,_⟩:=I.tuple g1
    rw [<- hoc']
    exact (PySem.W.Looks.ld ho').andThen .now
  ·exact t3 z hz
end
def ZV {α:Type} (K:PySem.W.Frag) (F:KeyFam α) (xs:List V) (Q:VK):List V -> Hp -> Prop:=fun acc H'=>∃ rs:List α,Iss K H' (rs.map fun a=>.tup (F.dec a)) acc /\
 ∀ ys:List (α × V),ys.Perm (rs.zip xs) -> ys.Pairwise (fun p q=>F.lt q.1 p.1 = false) -> ∀ D,H' D = none -> Q (.ref D) (upd H' D (.lst (ys.map (·.2))))
theorem Yj {β:Type} {g:β -> β -> Bool} {d:β} {zs:List β} {p:Array Nat} (h1:Rg zs.length p) (h2:Up (fun i j=>g (zs.getD i d) (zs.getD j d)) p zs.length) :
  (p.toList.map fun i=>zs.getD i d).Perm zs /\ (p.toList.map fun i=>zs.getD i d).Pairwise fun a b=>g b a = false:=by
 have e:(List.range zs.length).map (fun i=>zs.getD i d) = zs:=by
  refine List.ext_getElem (by simp) fun i a b=>?_
  have hb:i < zs.length:=by simpa using b
  simp [hb]
 refine ⟨(h1.map (fun i=>zs.getD i d)).trans (by rw [e]),?_⟩
 rw [List.pairwise_map,List.pairwise_iff_getElem]
 intro i j hi hj hij
 have hs:=h1.size
 have hi':i < p.size:=by simpa using hi
 have hj':j < p.size:=by simpa using hj
 have q:=h2 i j hij (by omega)
 have ei:pg p i = p.toList[i]:=by simp [pg,Array.getD,hi']
 have ej:pg p j = p.toList[j]:=by simp [pg,Array.getD,hj']
 rw [ei,ej] at q
 exact q
end L3
namespace L3
open PySem PySem.Spec PyProof.Rows L2
section
variable {X:Cx} {pins:List (Addr × Obj)} {σ:L2.St} {H:Hp} {s:Shared}
theorem Inv.fp_of_pin {b:Addr} {o:Obj} (I:Inv X (pins ++ [(b,o)]) σ H s) (hs:X.s₀.heap.objs.size <= b) (hn:∀ p ∈ X.pn ++ pins,p.1 ≠ b):wy X pins H b:=by
 obtain ⟨p1,p2,p3,p4,p5⟩:=I.pin (b,o) (List.mem_append_right _ (List.mem_append_right _ (List.mem_singleton.mpr rfl)))
 refine ⟨p2,p3,p4,.inr hs,fun x c e z=>?_,hn⟩
 obtain ⟨v,o1,ho1,hd1⟩:=I.cell x c e
 subst z
 rw [p1] at ho1
 cases ho1
 exact p5 v hd1
theorem Inv.at_pin {b:Addr} {o:Obj} (I:Inv X (pins ++ [(b,o)]) σ H s):s.heap.get? b = some o:=(I.pin (b,o) (List.mem_append_right _ (List.mem_append_right _ (List.mem_singleton.mpr rfl)))).1
theorem xH {c:String} {xs:Array Value} {n:Nat}:∀ v,(seqObj c xs n).data ≠ .cell v:=fun v z=>by cases z
theorem VN {D kS:Addr} {e e1:Nat} {st:SortSt} {ks out:List Value} {A:Around} {E:Value -> Shared -> Prop} {P:PySem.Fin -> Shared -> Prop} (I:Inv X ((pins ++ [(D,seqObj "list" #[] e1)]) ++ [(kS,seqObj "list" (List.toArray ks) e)]) σ H s)
  (hD:X.s₀.heap.objs.size <= D) (hK:X.s₀.heap.objs.size <= kS) (nD:∀ p ∈ X.pn ++ pins,p.1 ≠ D) (nK:∀ p ∈ X.pn ++ (pins ++ [(D,seqObj "list" #[] e1)]),p.1 ≠ kS) (hkz:ks.length < 64)
  (hout:(arrOf st).map (·.2) = List.toArray out) (hoz:out.length < 64) (hf:failedOf st = none) (h:∀ s' c,Inv X (pins ++ [(D,seqObj "list" (List.toArray out) c)]) σ H s' -> P (.done (.ret .none)) s') :
  wpAny (model X.prog X.w) A (ksk_tail D false e1 (.ref kS) st) P E s:=by
 have pk:=Inv.at_pin I
 have s1:=Heap.SameBut.update s.heap kS (Obj.mapSeq fun _=>(#[]:Array Value))
 obtain ⟨ck,hck⟩:∃ ck,(s.heap.update kS (Obj.mapSeq fun _=>(#[]:Array Value))).get? kS = some (seqObj "list" #[] ck):=⟨_,get?_update_seq pk fun _=>#[]⟩
 have I2:=(Inv.repin I hK nK s1 hck xH).unpinned
 have pd:=Inv.at_pin I2
 have s2:=Heap.SameBut.update (s.heap.update kS (Obj.mapSeq fun _=>(#[]:Array Value))) D (Obj.mapSeq fun _=>List.toArray out)
 obtain ⟨c2,hc2⟩:∃ c2,((s.heap.update kS (Obj.mapSeq fun _=>(#[]:Array Value))).update D (Obj.mapSeq fun _=>List.toArray out)).get? D = some (seqObj "list" (List.toArray out) c2):=⟨_,get?_update_seq pd fun _=>List.toArray out⟩
 have I3:=Inv.repin I2 hD nD s2 hc2 xH
 unfold ksk_tail
 (try dsimp only)
 rw [hout]
 refine wpAny_bind (listUpdate_at pk rfl ?_ (by rw [List.size_toArray,sizeLine_eq]; omega) (Nat.zero_le _))
 refine wpAny_bind (wpAny_letGo ?_)
 refine wpAny_bind (seqEpoch_at pd rfl ?_)
 refine wpAny_bind (listUpdate_at pd rfl ?_ (Nat.zero_le _) (by simp only [Bool.false_eq_true,if_false]; rw [List.size_toArray,sizeLine_eq]; omega))
 rw [hf]
 simp only [bne_self_eq_false,Bool.false_eq_true,if_false]
 exact wpAny_pure (h _ c2 I3)
theorem JH {α:Type} {F:KeyFam α} (FO:F.Ok) {D kS:Addr} {e e1:Nat} {ks its:List Value} {acc xs:List V} {rs:List α} {A:Around} {E:Value -> Shared -> Prop} {P:PySem.Fin -> Shared -> Prop} (hu:A.units + 50 < cLine)
  (I:Inv X ((pins ++ [(D,seqObj "list" #[] e1)]) ++ [(kS,seqObj "list" (List.toArray ks) e)]) σ H s)
  (hD:X.s₀.heap.objs.size <= D) (hK:X.s₀.heap.objs.size <= kS) (nD:∀ p ∈ X.pn ++ pins,p.1 ≠ D) (nK:∀ p ∈ X.pn ++ (pins ++ [(D,seqObj "list" #[] e1)]),p.1 ≠ kS)
  (rk:Vals acc ks) (rv:Vals xs its) (hl:ks.length = its.length) (hz:its.length < 64) (hR:Iss X.K H (rs.map fun a=>.tup (F.dec a)) acc)
  (h:∀ s' (ys:List (α × V)) (out:List Value) c,ys.Perm (rs.zip xs) -> ys.Pairwise (fun p q=>F.lt q.1 p.1 = false) -> Vals (ys.map (·.2)) out -> out.length < 64 -> Inv X (pins ++ [(D,seqObj "list" (List.toArray out) c)]) σ H s' -> P (.done (.ret .none)) s') :
  wpAny (model X.prog X.w) A (ksk_end D false its.toArray e1 (.ref kS) (List.toArray ks)) P E s:=by
 have L1:=hR.len
 have L2:=rk.length
 have L3:=rv.length
 rw [List.length_map] at L1
 have lz:(rs.zip xs).length = its.length:=by rw [List.length_zip]; omega
 unfold ksk_end
 simp only [Bool.false_eq_true,if_false]
 by_cases h2:its.toArray.size < 2
 ·rw [if_pos h2,if_pos h2]
  refine wpAny_bind (wpAny_pure ?_)
  rw [StateT.run_pure]
  refine wpAny_bind (wpAny_pure ?_)
  (try dsimp only)
  refine VN (out:=its) I hD hK nD nK (by omega) ?_ hz rfl fun s' c I'=>h s' (rs.zip xs) its c (List.Perm.refl _) ?_ ?_ hz I'
  ·show ((List.toArray ks).zip its.toArray).map (·.2) = _
   apply Array.toList_inj.mp
   rw [Array.toList_map,ksk_zip]
   exact List.map_snd_zip (by simp; omega)
  ·rw [List.size_toArray] at h2
   match rs.zip xs,lz with
   | [],_=>exact List.Pairwise.nil
   | [a],_=>exact List.pairwise_singleton _ _
   | _ :: _ :: _,lz=>exact absurd lz (by simp only [List.length_cons]; omega)
  ·rw [List.map_snd_zip (by omega)]
   exact rv
 ·rw [if_neg h2,if_neg h2]
  rw [List.size_toArray] at h2
  obtain ⟨fs,t1,t2,t3⟩:=Vn FO I (M:=model X.prog X.w) rs acc ks hR rk
  refine wpAny_bind (PySem.W.kat_kind t1 (by omega) t3 (by simp) ?_)
  have hfst:((Value.type (if F.fst = true then "int" else "tuple"):Value) != Value.type "tuple") = F.fst:=by
   cases hF:F.fst with
   | true=>rfl
   | false=>rfl
  rw [hfst]
  have W:Wk (fun i j=>F.lt (rs.getD i F.d0) (rs.getD j F.d0)):=⟨fun a b=>FO.w.asym _ _,fun a b c=>FO.w.ntr _ _ _⟩
  have ok:=Uu (n:=its.length) W (by omega)
  have lt_eq:(fun i j=>F.lt (rs.getD i F.d0) (rs.getD j F.d0)) = (fun i j=>(fun (p q:α × V)=>F.lt p.1 q.1) ((rs.zip xs).getD i (F.d0,.non)) ((rs.zip xs).getD j (F.d0,.non))):=by
   have one:∀ i,((rs.zip xs).getD i (F.d0,V.non)).1 = rs.getD i F.d0:=fun i=>by
    by_cases hi:i < its.length
    ·have a1:i < rs.length:=by omega
     have a2:i < xs.length:=by omega
     rw [List.getD_eq_getElem?_getD,List.getD_eq_getElem?_getD,List.getElem?_eq_getElem (by omega),List.getElem?_eq_getElem a1]
     simp
    ·rw [List.getD_eq_getElem?_getD,List.getD_eq_getElem?_getD,List.getElem?_eq_none (by omega),List.getElem?_eq_none (by omega)]
     rfl
   funext i j
   simp only [one]
  have wp:=Kok.wp (n:=its.length) (cmp:=PySem.W.kas_ask X.prog X.w A (tuples' F.fst) ks) (I:=fun s'=>Inv X ((pins ++ [(D,seqObj "list" #[] e1)]) ++ [(kS,seqObj "list" (List.toArray ks) e)]) σ H s')
   (R:=fun p s'=>(Rg its.length p /\ Up (fun i j=>F.lt (rs.getD i F.d0) (rs.getD j F.d0)) p its.length) /\ Inv X ((pins ++ [(D,seqObj "list" #[] e1)]) ++ [(kS,seqObj "list" (List.toArray ks) e)]) σ H s')
   (fun i j C s' hi hj I' hC=>?_) (fun p s' hp I'=>⟨hp,I'⟩) _ s I ok
  ·have run:=PySem.W.kat_run (E:=E) (vs:=its) (ks:=ks) (Q:=fun st' s'=>∃ p:Array Nat,p.size = its.length /\ arrOf st' = p.map (PySem.W.kas_item (ks.toArray.zip its.toArray)) /\ failedOf st' = none /\ _) hl (by omega) hz (fun p' st' s' a1 a2 a3 a4=>⟨p',a1,a2,a3,a4⟩) wp
   refine wpAny_bind (wpAny_mono run ?_ fun _ _ e=>e)
   rintro ⟨⟨⟩,st'⟩ s' ⟨p,hp,har,hf,⟨hR1,hU⟩,I'⟩
   (try dsimp only)
   have hout:=PySem.W.kat_snds (ks:=ks) (vs:=its) hl har
   have hR2:Rg (rs.zip xs).length p:=by rw [lz]; exact hR1
   rw [lt_eq,<- lz] at hU
   obtain ⟨g1,g2⟩:=Yj (g:=fun (p q:α × V)=>F.lt p.1 q.1) hR2 hU
   have olen:(p.toList.map fun i=>its.getD i Value.none).length = its.length:=by rw [List.length_map,Array.length_toList,hp]
   refine VN (out:=p.toList.map fun i=>its.getD i Value.none) I' hD hK nD nK (by omega) hout (by omega) hf fun s2 c I2=>h s2 _ _ c g1 g2 ?_ (by omega) I2
   rw [List.map_map]
   have all:∀ (js:List Nat),(∀ j ∈ js,j < its.length) -> Vals (js.map ((fun x:α × V=>x.2) ∘ fun i=>(rs.zip xs).getD i (F.d0,.non))) (js.map fun i=>its.getD i Value.none):=by
    intro js
    induction js with
    | nil=>intro _; exact .nil
    | cons j js ih =>
     intro hj
     refine .cons ?_ (ih fun i hi=>hj i (List.mem_cons_of_mem _ hi))
     have hjl:=hj j List.mem_cons_self
     have a1:j < xs.length:=by omega
     obtain ⟨u,hu1,ru⟩:=xq rv (j:=j) (x:=xs[j]) (List.getElem?_eq_getElem a1)
     have e1:((rs.zip xs).getD j (F.d0,V.non)).2 = xs[j]:=by
      rw [List.getD_eq_getElem?_getD,List.getElem?_eq_getElem (by omega)]
      simp
     have e2:its.getD j Value.none = u:=by rw [List.getD_eq_getElem?_getD,hu1]; rfl
     show RelV ((rs.zip xs).getD j (F.d0,V.non)).2 (its.getD j Value.none)
     rw [e1,e2]
     exact ru
   exact all p.toList fun j hj=>List.mem_range.mp (hR1.mem_iff.mp hj)
  ·have a1:i < rs.length:=by omega
   have a2:j < rs.length:=by omega
   have gi:(rs.map fun a=>_root_.L3.D.tup (F.dec a))[i]? = some (.tup (F.dec rs[i])):=by rw [List.getElem?_map,List.getElem?_eq_getElem a1]; rfl
   have gj:(rs.map fun a=>_root_.L3.D.tup (F.dec a))[j]? = some (.tup (F.dec rs[j])):=by rw [List.getElem?_map,List.getElem?_eq_getElem a2]; rfl
   obtain ⟨x,hx,ix⟩:=hR.at gi
   obtain ⟨y,hy,iy⟩:=hR.at gj
   obtain ⟨u,hu1,ru⟩:=xq rk hx
   obtain ⟨v,hv1,rv1⟩:=xq rk hy
   have e1:ks.getD i Value.none = u:=by rw [List.getD_eq_getElem?_getD,hu1]; rfl
   have e2:ks.getD j Value.none = v:=by rw [List.getD_eq_getElem?_getD,hv1]; rfl
   have e3:rs.getD i F.d0 = rs[i]:=by rw [List.getD_eq_getElem?_getD,List.getElem?_eq_getElem a1]; rfl
   have e4:rs.getD j F.d0 = rs[j]:=by rw [List.getD_eq_getElem?_getD,List.getElem?_eq_getElem a2]; rfl
   unfold PySem.W.kas_ask
   rw [e1,e2]
   refine Qd I' hu ix iy ru rv1 (FO.ok _ _) (FO.dp _) (fun hb=>?_) ?_
   ·obtain ⟨d,r,ed,hd⟩:=FO.sh rs[i]
    obtain ⟨d',r',ed',hd'⟩:=FO.sh rs[j]
    rcases hd with ⟨_,n,rfl⟩ | ⟨z,_⟩
    ·rcases hd' with ⟨_,n',rfl⟩ | ⟨z,_⟩
     ·exact ⟨⟨n,r,ed⟩,n',r',ed'⟩
     ·rw [hb] at z; cases z
    ·rw [hb] at z; cases z
   ·rw [FO.eq,<- e3,<- e4]
    exact hC s' I'
end
end L3
namespace L3
open PySem PySem.Spec PyProof.Rows L2
def vG (kc:V -> Hp -> VK -> Prop):List V -> List V -> Hp -> (List V -> Hp -> Prop) -> Prop
 | [],acc,H,Q=>Q acc H
 | x :: xs,acc,H,Q=>kc x H (fun k H'=>vG kc xs (acc ++ [k]) H' Q)
section
variable {X:Cx} {pins:List (Addr × Obj)} {σ:L2.St} {H:Hp} {s:Shared}
theorem U9 {α:Type} {F:KeyFam α} (FO:F.Ok) {k:Nat} {q:Addr} {kc:V -> Hp -> VK -> Prop} (hr:Room (k + 2) X.A)
  (hkc:∀ (pins':List (Addr × Obj)) (s:Shared) (H:Hp) (x:V) (u:Value) (Q:VK),Inv X pins' σ H s -> RelV x u -> kc x H Q -> wpAny (model X.prog X.w) X.A.in1.in1 (call (.ref q) [u]) (EP X pins' σ Q) (fun _ _=>False) s)
  {D kS:Addr} {e1:Nat} {its:List Value} {xs:List V} {E:Value -> Shared -> Prop} {P:PySem.Fin -> Shared -> Prop} {Q:VK}
  (I:Inv X ((pins ++ [(D,seqObj "list" #[] e1)]) ++ [(kS,seqObj "list" #[] 0)]) σ H s)
  (hD:X.s₀.heap.objs.size <= D) (hK:X.s₀.heap.objs.size <= kS) (nD:∀ p ∈ X.pn ++ pins,p.1 ≠ D) (nK:∀ p ∈ X.pn ++ (pins ++ [(D,seqObj "list" #[] e1)]),p.1 ≠ kS)
  (rv:Vals xs its) (hz:its.length < 64)
  (ht:vG kc xs [] H (ZV X.K F xs Q))
  (hP:∀ s',EP X pins σ Q (.ref D) s' -> P (.done (.ret .none)) s') :
  wpAny (model X.prog X.w) X.A.in1.in1 (ksk_rest D (.ref q) false its.toArray e1 (.ref kS)) P E s:=by
 unfold ksk_rest
 refine wpAny_bind (wpAny_rule ?_)
 rw [List.forIn_toArray]
 refine wpAny_bind (ksk_fold (fun j s'=>∃ acc ks e H',Inv X ((pins ++ [(D,seqObj "list" #[] e1)]) ++ [(kS,seqObj "list" (List.toArray ks) e)]) σ H' s' /\ Vals acc ks /\ ks.length = j /\ vG kc (xs.drop j) acc H' (ZV X.K F xs Q))
  its 0 s ⟨[],[],0,H,I,.nil,rfl,ht⟩ (fun j x s1 hx hJ=>?_) fun s1 hJ=>?_)
 ·obtain ⟨acc,ks,e,H1,I1,rk,hkl,tk⟩:=hJ
  rw [Nat.zero_add] at hkl tk
  have hjl:j < its.length:=(List.getElem?_eq_some_iff.mp hx).1
  have L3:=rv.length
  obtain ⟨u,hu,ru⟩:=xq rv (j:=j) (x:=xs[j]) (List.getElem?_eq_getElem (by omega))
  rw [hx] at hu
  cases hu
  rw [List.drop_eq_getElem_cons (by omega)] at tk
  refine wpAny_bind (wpAny_attempt (wpAny_mono (hkc _ _ _ _ _ _ I1 ru tk) (fun kv s2 hk=>?_) fun _ _ z=>z.elim))
  obtain ⟨v,H2,I2,rv2,tk2⟩:=hk
  have pk:=Inv.at_pin I2
  have sb:=Heap.SameBut.update s2.heap kS (Obj.mapSeq (·.push kv))
  have ea:(List.toArray ks).push kv = List.toArray (ks ++ [kv]):=by simp
  obtain ⟨c2,hc2⟩:∃ c2,(s2.heap.update kS (Obj.mapSeq (·.push kv))).get? kS = some (seqObj "list" (List.toArray (ks ++ [kv])) c2):=⟨_,by rw [<- ea]; exact get?_update_seq pk (·.push kv)⟩
  have I3:=Inv.repin I2 hK nK sb hc2 xH
  (try dsimp only)
  refine wpAny_bind (listUpdate_at pk rfl ?_ (by rw [List.size_toArray,sizeLine_eq]; omega) (by rw [Array.size_push,List.size_toArray,sizeLine_eq]; omega))
  refine wpAny_pure ⟨rfl,acc ++ [v],ks ++ [kv],c2,H2,I3,rk.append (.cons rv2 .nil),by rw [List.length_append,List.length_singleton,hkl]; omega,?_⟩
  rw [Nat.zero_add]
  exact tk2
 ·obtain ⟨acc,ks,e,H1,I1,rk,hkl,tk⟩:=hJ
  rw [Nat.zero_add] at hkl tk
  have L3:=rv.length
  rw [<- L3,List.drop_length] at tk
  obtain ⟨rs,hR,hq⟩:=tk
  (try dsimp only)
  refine wpAny_bind (listItems_at (Inv.at_pin I1) rfl ?_)
  refine JH FO (by have:=hr.in1.in1.un; omega) I1 hD hK nD nK rk rv hkl hz hR fun s' ys out c p1 p2 p3 p4 I'=>hP s' ?_
  have fp:=Inv.fp_of_pin I' hD nD
  refine ⟨.ref D,_,Inv.track I'.unpinned (a:=D) (o:=.lst (ys.map (·.2))) fp ⟨?_,out,c,p3,Inv.at_pin I'⟩,rfl,hq ys p1 p2 D fp.1⟩
  rw [p3.length,sizeLine_eq]
  omega
theorem Xn {α:Type} {F:KeyFam α} (FO:F.Ok) {k:Nat} {q l:Addr} {xs:List V} {kc:V -> Hp -> VK -> Prop} {Q:VK} (hr:Room (k + 2) X.A)
  (hkc:∀ (pins':List (Addr × Obj)) (s:Shared) (H:Hp) (x:V) (u:Value) (Q:VK),Inv X pins' σ H s -> RelV x u -> kc x H Q -> wpAny (model X.prog X.w) X.A.in1.in1 (call (.ref q) [u]) (EP X pins' σ Q) (fun _ _=>False) s)
  (I:Inv X pins σ H s) (hS:SqL X.K H l xs) (hz:xs.length < 64) (ht:vG kc xs [] H (ZV X.K F xs Q)) :
  wpAny (model X.prog X.w) X.A (call (.builtin "sorted") [.ref l] [(Str.ofString "key",.ref q)]) (EP X pins σ Q) X.xe s:=by
 obtain ⟨its,rv,pl,_⟩:=I.list hS
 have hlen:=rv.length
 refine call_function_entry_kw kind_sorted plain_sorted entry_sorted (ksk_s1 _ _) ?_
 unfold Builtin.«sorted»
 refine wpAny_bind (m:=checkCount "sorted" 1 1 _) (wpAny_pure ?_)
 refine wpAny_bind (collect_list pl.isList ?_ (by rw [sizeLine_eq]; omega))
 refine wpAny_bind (wpAny_newList ?_ (by rw [sizeLine_eq]; omega))
 generalize hh1:((s.heap.push (seqObj "list" #[] 0)).update s.heap.objs.size (Obj.mapSeq (· ++ its.toArray))) = h1
 have sz1:h1.objs.size = s.heap.objs.size + 1:=by rw [<- hh1,Heap.size_update,size_push']
 have kp1:∀ b o,s.heap.get? b = some o -> h1.get? b = some o:=fun b o e=>by
  have hlt:b < s.heap.objs.size:=Heap.lt_size e
  rw [<- hh1,Heap.get?_update_ne _ _ _ _ (Nat.ne_of_lt hlt),Heap.get?_push_ne _ _ _ (Nat.ne_of_lt hlt)]
  exact e
 have hoL:(h1.push (seqObj "list" its.toArray 0)).get? h1.objs.size = some (seqObj "list" its.toArray 0):=Heap.get?_push_size _ rfl
 show wpAny _ _ _ _ _ { s with heap:=h1.push (seqObj "list" its.toArray 0) }
 refine wpAny_bind (wpAny_holding (wpAny_call_entry_kw slot_list_sort ⟨_,hoL,rfl⟩ entry_list_sort ?body (ksk_l1 _ _)))
 show wpAny _ _ (Builtin.«list.sort» ⟨[.ref h1.objs.size],[(Str.ofString "key",.ref q)]⟩) _ _ _
 rw [ksk_t1]
 generalize hh2:h1.push (seqObj "list" its.toArray 0) = h2 at hoL
 have sz2:h2.objs.size = h1.objs.size + 1:=by rw [<- hh2,size_push']
 have kp2:∀ b o,s.heap.get? b = some o -> h2.get? b = some o:=fun b o e=>by rw [<- hh2]; exact Heap.get?_push_of_some _ (kp1 b o e)
 generalize hDD:h1.objs.size = D at hoL
 obtain ⟨e1,ho1⟩:∃ e1,(h2.update D (Obj.mapSeq fun _=>(#[]:Array Value))).get? D = some (seqObj "list" #[] e1):=⟨_,get?_update_seq hoL fun _=>#[]⟩
 have hDs:s.heap.objs.size <= D:=by rw [<- hDD,sz1]; exact Nat.le_succ _
 have sb:=Heap.SameBut.update h2 D (Obj.mapSeq fun _=>(#[]:Array Value))
 unfold ksk_tree
 refine wpAny_bind (listItems_at hoL rfl ?_)
 refine wpAny_bind (listUpdate_at hoL rfl ?_ (by rw [List.size_toArray,sizeLine_eq]; omega) (Nat.zero_le _))
 refine wpAny_bind (seqEpoch_at ho1 rfl ?_)
 refine wpAny_bind (wpAny_newTuple ?_ (by show its.length <= _; rw [sizeLine_eq]; omega))
 refine wpAny_bind (wpAny_newList ?_ (Nat.zero_le _))
 refine wpAny_holding ?_
 generalize hh3:(h2.update D (Obj.mapSeq fun _=>(#[]:Array Value))).push (seqObj "tuple" its.toArray 0) = h3
 have sz3:h3.objs.size = s.heap.objs.size + 3:=by rw [<- hh3,size_push',Heap.size_update,sz2,sz1]
 have hoK:(h3.push (seqObj "list" #[] 0)).get? h3.objs.size = some (seqObj "list" #[] 0):=Heap.get?_push_size _ rfl
 have hoD:(h3.push (seqObj "list" #[] 0)).get? D = some (seqObj "list" #[] e1):=Heap.get?_push_of_some _ (by rw [<- hh3]; exact Heap.get?_push_of_some _ ho1)
 have kp3:∀ b o,s.heap.get? b = some o -> (h3.push (seqObj "list" #[] 0)).get? b = some o:=fun b o e=>by
  have hlt:b < s.heap.objs.size:=Heap.lt_size e
  refine Heap.get?_push_of_some _ ?_
  rw [<- hh3]
  exact Heap.get?_push_of_some _ ((sb.2 b (Nat.ne_of_lt (Nat.lt_of_lt_of_le hlt hDs))).trans (kp2 b o e))
 have I1:Inv X pins σ H { s with heap:=h3.push (seqObj "list" #[] 0) }:=I.kept (t':=s.toks) kp3
 have fD:wy X pins H D:=I.fpOk (by omega) (I.hok.fresh (by omega))
 have fK:wy X pins H h3.objs.size:=I.fpOk (by omega) (I.hok.fresh (by omega))
 have I2:=Inv.newpin I1 fD hoD xH
 have nK:∀ p ∈ X.pn ++ (pins ++ [(D,seqObj "list" #[] e1)]),p.1 ≠ h3.objs.size:=fun p hp=>by
  rcases List.mem_append.mp hp with z | z
  ·exact fK.2.2.2.2.2 p (List.mem_append_left _ z)
  ·rcases List.mem_append.mp z with z | z
   ·exact fK.2.2.2.2.2 p (List.mem_append_right _ z)
   ·have e:p = (D,seqObj "list" #[] e1):=by simpa using z
    subst e
    show D ≠ _
    omega
 have I3:=Inv.newpin I2 (b:=h3.objs.size) ⟨fK.1,fK.2.1,fK.2.2.1,fK.2.2.2.1,fK.2.2.2.2.1,nK⟩ hoK xH
 have hsz:=I.sz
 have hK0:X.s₀.heap.objs.size <= h3.objs.size:=by omega
 exact U9 FO hr hkc I3 (by omega) hK0 fD.2.2.2.2.2 nK rv (by omega) ht fun s' hE=>⟨_,rfl,wpAny_pure ⟨_,rfl,hE⟩⟩
end
end L3
namespace L3
open PySem PySem.Spec PyProof.Rows L2
def Xt (X:Cx) (N:List Str) (s:Shared) (H:Hp) (qual:Str) (scope:Scope) (f:Addr) (cd:Value) (cl:List (Str × Addr)):Cx where
 prog:=X.prog
 w:=X.w
 K:=X.K
 mg:=X.mg
 base:=X.base
 A:=X.A.in1.in1.deeper (PySem.W.envX qual scope s.heap.objs.size f cd cl)
 N:=N
 s₀:=s
 H₀:=H
 env:=PySem.W.envX qual scope s.heap.objs.size f cd cl
 outer:=X.stack
 stack:=PySem.W.envX qual scope s.heap.objs.size f cd cl :: X.stack
 ex:=[]
 calm:=true
 fn:=fun _=>false
 pn:=[]
 xe:=fun _ _=>False
structure U0 (p y:Str) (scope:Scope):Prop where
 kind:scope.kind = .function
 co:scope.isCoroutine = false
 gen:scope.isGenerator = false
 nocell:∀ z ∈ scope.names,z.2 ≠ .cell
 par:scope.names.lookup p = some .local
 fre:scope.names.lookup y = some .free
 one:∀ q ∈ scope.names,q.2 = .free -> q.1 = y
 ne:p ≠ y
section
variable {X:Cx} {pins:List (Addr × Obj)} {σ:L2.St} {H:Hp} {s:Shared} {p y name qual:Str} {scope:Scope} {params:Arguments} {body:Expr} {f c' c:Addr} {pm ctv cv:Value} {k iy:Nat} {vy x:V} {u:Value} {Q:VK} {t:TE}
theorem UN (S:U0 p y scope) (hd:X.A.in1.in1.handled = none) (I:Inv X pins σ H s) (hy:X.N[iy]? = some y) (hσ:σ[iy]? = some (some vy)) (hvis:X.env.scope.names.lookup y = some .cell) (hc:X.env.cells.lookup y = some c) (rx:RelV x u) {h₁:Heap} {tk:Nat}
  (hns:h₁.Ns s.heap.objs.size (fun z=>[(p,u)].reverse.lookup z)) (hk₁:∀ b o,s.heap.get? b = some o -> h₁.get? b = some o) :
  Inv (Xt X [p,y] s H qual scope f cv [(y,c)]) [] [some x,some vy] H { s with heap:=h₁,toks:=tk }:=by
 obtain ⟨m,hn,hl⟩:=I.loc
 obtain ⟨uy,ry,lk⟩:=hl iy y vy hy hσ (.inr (.inl hvis))
 have hcell:s.heap.IsCell c (some uy):=by
  rcases lk with ⟨z,_⟩ | ⟨_,c2,e2,z⟩
  ·have z':X.env.scope.names.lookup y = some .local:=z
   rw [hvis] at z'
   cases z'
  ·rw [hc] at e2
   cases e2
   exact z
 have hcell':h₁.IsCell c (some uy):=by
  obtain ⟨o,e,d⟩:=hcell
  exact ⟨o,hk₁ _ _ e,d⟩
 have e0:=I.env0
 have noA:∀ b:Addr,b ∉ (Xt X [p,y] s H qual scope f cv [(y,c)]).ex:=fun b z=>absurd (show b ∈ ([]:List Addr) from z) (by simp)
 have lkc:∀ z d,List.lookup z [(y,c)] = some d -> z = y /\ d = c:=fun z d h=>by
  rw [List.lookup_cons] at h
  by_cases hz:(z == y) = true
  ·rw [hz] at h
   cases h
   exact ⟨by simpa using hz,rfl⟩
  ·rw [show (z == y) = false by simpa using hz] at h
   cases h
 have lky:List.lookup y [(y,c)] = some c:=by rw [List.lookup_cons]; simp
 refine ⟨⟨e0.mod,S.kind,rfl,rfl,Nat.le_refl _,fun z z' d h1 h2=>?_,fun z hz=>?_,fun z d h _=>?_,fun _=>hd,Around.frames_deeper e0.frames,.inr ⟨rfl,rfl⟩,fun b z=>absurd z (noA b),e0.bs,e0.bsz,fun b _ _=>noA b,fun b z=>absurd z (noA b),e0.funs,e0.frf⟩,
  rfl,e0.bare,Un.kept hk₁,⟨_,hns,fun i z v h1 h2 h3=>?_⟩,fun z d h=>?_,e0.hok.fresh (Nat.le_refl _),fun z d h=>?_,fun q hq=>absurd (show q ∈ ([]:List (Addr × Obj)) from hq) (by simp),e0.hok.kept hk₁,rfl⟩
 ·rw [(lkc _ _ h1).1,(lkc _ _ h2).1]
 ·have hz':scope.names.lookup z = some .cell \/ scope.names.lookup z = some .free:=hz
  rcases hz' with hz' | hz'
  ·exact absurd rfl (S.nocell _ (PySem.mem_of_lookup hz'))
  ·rw [show z = y from S.one _ (PySem.mem_of_lookup hz') rfl]
   exact ⟨c,lky⟩
 ·exact absurd (show (false:Bool) = true from h) (by decide)
 ·match i,h1,h2 with
  | 0,h1,h2 =>
   cases h1
   cases h2
   refine ⟨u,rx,.inl ⟨S.par,?_⟩⟩
   show List.lookup p [(p,u)].reverse = some u
   simp [List.lookup]
  | 1,h1,h2 =>
   cases h1
   cases h2
   exact ⟨uy,ry,.inr ⟨.inr S.fre,c,lky,hcell'⟩⟩
  | i + 2,h1,h2=>simp at h2
 ·obtain ⟨_,rfl⟩:=lkc z d h
  exact ⟨_,hcell'⟩
 ·obtain ⟨_,rfl⟩:=lkc z d h
  exact I.freeC y _ hc
theorem Wy (S:U0 p y scope) (hr:Room (k + 3) X.A) (hbind:bindArgs (PySem.W.kla_fn name qual params body scope [(y,c)] pm cv ctv) ⟨[u],[]⟩ = pure [(p,u)]) (I:Inv X pins σ H s)
  (ho:s.heap.get? f = some { cls:=.type "function",data:=.func (PySem.W.kla_fn name qual params body scope [(y,c)] pm cv ctv) }) (hcd:s.heap.CodeRec cv qual) (hy:X.N[iy]? = some y) (hσ:σ[iy]? = some (some vy)) (hvis:X.env.scope.names.lookup y = some .cell) (hc:X.env.cells.lookup y = some c)
  (rx:RelV x u) (hb:PE (Xt X [p,y] s H qual scope f cv [(y,c)]) body t) (h:t [some x,some vy] H Q) :
  wpAny (model X.prog X.w) X.A.in1.in1 (call (.ref f) [u]) (EP X pins σ Q) (fun _ _=>False) s:=by
 have hr2:Room (k + 1) X.A.in1.in1:=hr.in1.in1
 refine wpAny_call (PySem.W.kla_callFunE hr2.depth ho rfl S.co S.gen rfl hcd ?_)
 rw [hbind]
 refine wpAny_pure (wpAny_newFunctionEnv S.nocell (fun z hz=>?_) (fun h₁ hns hsb=>?_) S.kind)
 ·have e:z = (p,u):=by simpa using hz
  subst e
  exact S.par
 have hk₁:∀ b o,s.heap.get? b = some o -> h₁.get? b = some o:=fun b o e=>hsb.extBut b o (Nat.ne_of_lt (Heap.lt_size e)) (Heap.get?_push_of_some _ e)
 refine ⟨I.nolimit.keeps hk₁,?_⟩
 have I1:=UN (qual:=qual) (f:=f) (cv:=cv) (tk:=s.toks + 1) S hr2.hd I hy hσ hvis hc rx hns hk₁
 show codeAny _ _ (.expr body (PySem.W.envX qual scope s.heap.objs.size f cv [(y,c)])) _ _
 refine PySem.W.kla_codeExpr (wpAny_mono (hb [] _ _ H Q I1 h) (fun v s' hv=>?_) fun _ _ z=>False.elim z)
 obtain ⟨w',H',J,rw',q⟩:=hv
 exact I.after ⟨w',H',J.os,J.bare,J.base,J.hok,rw',q⟩
end
end L3
namespace L3
open PySem PySem.Spec PyProof.Rows L2
def cdE (c':Addr) (q:Str):HO:=.ext fun h=>h.CodeRec (.ref c') q
def fnE (f:Addr) (o:Obj):HO:=.ext fun h=>h.get? f = some o
def TabOk (H:Hp) (P:Addr) (pos:Pos) (q:Str):Prop :=
 ∃ ps:Array Value,H P = some (.tbl ps) /\ TriplesOk ps.toList /\ (codeAmong pos ps.toList = none \/ ∃ c',codeAmong pos ps.toList = some (.ref c') /\ H c' = some (cdE c' q))
def SamT (P:Addr) (H H':Hp):Prop:=∀ b o,b ≠ P -> H b = some o -> H' b = some o
def LamAt (H:Hp) (f:Addr) (name qual:Str) (params:Arguments) (body:Expr) (scope:Scope) (cl:List (Str × Addr)):Prop :=
 ∃ (c':Addr) (pm ctv:Value),H c' = some (cdE c' qual) /\ H f = some (fnE f { cls:=.type "function",data:=.func (PySem.W.kla_fn name qual params body scope cl pm (.ref c') ctv) })
theorem Qt {P:Program} {w:World} {H:Hp} {h:Heap} {c':Addr} {q:Str} (x:h.CodeRec (.ref c') q):ObjOk P w H h c' (cdE c' q):=by
 refine ⟨x,?_,fun h1 h2 a k=>?_⟩
 ·obtain ⟨c,o,vs,t,e,g,_⟩:=x
  cases e
  exact ⟨o,g⟩
 ·obtain ⟨c,o,vs,t,e,g,r⟩:=a
  cases e
  exact ⟨_,o,vs,t,rfl,k o g,r⟩
theorem VI {P:Program} {w:World} {H:Hp} {h:Heap} {f:Addr} {o:Obj} (x:h.get? f = some o):ObjOk P w H h f (fnE f o) :=
 ⟨x,⟨o,x⟩,fun h1 h2 a k=>k o a⟩
section
variable {X:Cx} {pins:List (Addr × Obj)} {σ:L2.St} {H:Hp} {s:Shared}
theorem Inv.grow {P c' f:Addr} {ps more:Array Value} {o:Obj} {q:Str} {h':Heap} {tk:Nat} (I:Inv X pins σ H s) (hP:H P = some (.tbl ps)) (hk:∀ b u,b ≠ P -> s.heap.get? b = some u -> h'.get? b = some u) (hP':h'.get? P = some { cls:=.none,data:=.fields (ps ++ more) })
  (hc:s.heap.objs.size <= c') (hf:s.heap.objs.size <= f) (hcf:c' ≠ f) (hcr:h'.CodeRec (.ref c') q) (hfo:h'.get? f = some o) :
  Inv X pins σ (upd (upd (upd H P (.tbl (ps ++ more))) c' (cdE c' q)) f (fnE f o)) { s with heap:=h',toks:=tk }:=by
 have Pl:P < s.heap.objs.size:=I.hok.lt hP
 have hPc:P ≠ c':=Nat.ne_of_lt (Nat.lt_of_lt_of_le Pl hc)
 have hPf:P ≠ f:=Nat.ne_of_lt (Nat.lt_of_lt_of_le Pl hf)
 have old:∀ b,b < s.heap.objs.size -> b ≠ P -> (upd (upd (upd H P (.tbl (ps ++ more))) c' (cdE c' q)) f (fnE f o)) b = H b:=fun b hb hbP=>by
  rw [zp (Nat.ne_of_lt (Nat.lt_of_lt_of_le hb hf)),zp (Nat.ne_of_lt (Nat.lt_of_lt_of_le hb hc)),zp hbP]
 have atP:(upd (upd (upd H P (.tbl (ps ++ more))) c' (cdE c' q)) f (fnE f o)) P = some (.tbl (ps ++ more)):=by
  rw [zp hPf,zp hPc,zd]
 have neP:∀ b,H b = none -> b ≠ P:=fun b e z=>by rw [z,hP] at e; cases e
 refine I.un ⟨fun b u e n _ _=>hk b u (neP b n) e,fun b u e n _ _=>⟨u.slots,hk b u (neP b n) e⟩,fun b u e n _=>?_,fun b u e _=>?_,fun b xs e=>?_,fun b ob u e=>?_,fun b qs e=>?_⟩ fun b u e=>?_
 ·rw [old b (Heap.lt_size e) (neP b n)]
  exact n
 ·by_cases hb:b = P
  ·subst hb; exact ⟨_,hP'⟩
  ·exact ⟨u,hk b u hb e⟩
 ·rw [old b (I.hok.lt e) (fun z=>by rw [z,hP] at e; cases e)]
  exact e
 ·rw [old b (I.hok.lt e) (fun z=>by rw [z,hP] at e; cases e)]
  exact e
 ·by_cases hb:b = P
  ·subst hb
   rw [hP] at e
   cases e
   exact ⟨more,atP⟩
  ·rw [old b (I.hok.lt e) hb]
   exact ⟨#[],by rw [e]; simp⟩
 ·by_cases hbf:b = f
  ·subst hbf
   rw [zd] at e
   cases e
   exact VI hfo
  ·rw [zp hbf] at e
   by_cases hbc:b = c'
   ·subst hbc
    rw [zd] at e
    cases e
    exact Qt hcr
   ·rw [zp hbc] at e
    by_cases hbP:b = P
    ·subst hbP
     rw [zd] at e
     cases e
     exact hP'
    ·rw [zp hbP] at e
     refine (I.hok b u e).stay (fun d v hd g=>hk d v ?_ g) (fun d g=>?_) fun d xs g=>?_
     ·rcases hd with z | z
      ·rw [z]; exact hbP
      ·intro z'; rw [z',hP] at z; cases z
     ·rw [old d (I.hok.lt g) (fun z=>by rw [z,hP] at g; cases g)]
      exact g
     ·rw [old d (I.hok.lt g) (fun z=>by rw [z,hP] at g; cases g)]
      exact g
end
end L3
namespace L3
open PySem PySem.Spec PyProof.Rows L2
theorem vB {a b:Int} {v:Value}:∀ (l:List Value),TriplesOk l -> TriplesOk (l ++ [rawInt a,rawInt b,v])
 | [],_=>trivial
 | .int _ _ :: .int _ _ :: _ :: rest,h=>vB rest h
theorem jP {h h':Heap} {mg:Str -> Option Value} {T:Addr} (x:h.BuiltinsAt mg T) (k:∀ b o,h.get? b = some o -> h'.get? b = some o):h'.BuiltinsAt mg T:=by
 obtain ⟨bm,o,b1,b2,b3,b4,b5,b6⟩:=x
 exact ⟨bm,o,b1,b2,b3,b4,k _ _ b5,b6⟩
section
variable {X:Cx} {pins:List (Addr × Obj)} {σ:L2.St} {H:Hp} {s:Shared} {cc P c:Addr} {y:Str} {params:Arguments} {body:Expr} {scope:Scope} {pos:Pos} {Q:VK}
theorem Wl (hcode:X.env.code = .ref cc) (hC:PySem.W.CodeHd X.base cc P) (hB:X.base.BuiltinsAt X.mg P) (hgP:mainGlobals ≠ P) (hcl:closureFor scope X.env = pure [(y,c)]) (hdef:defaultsOf params X.env = ([],[])) (I:Inv X pins σ H s)
  (hT:TabOk H P pos (X.env.qual ++ "<lambda>"))
  (h:∀ f H',H f = none -> LamAt H' f "<lambda>" (X.env.qual ++ "<lambda>") params body scope [(y,c)] -> TabOk H' P pos (X.env.qual ++ "<lambda>") -> SamT P H H' -> Q (.ref f) H') :
  wpAny (model X.prog X.w) X.A (eval (.Lambda params body scope pos) X.env) (EP X pins σ Q) X.xe s:=by
 refine PySem.W.kla_eval hdef ?_
 obtain ⟨ps,hP,ht,hh⟩:=hT
 have hPo:s.heap.get? P = some (PySem.W.tabObj ps):=I.hok _ _ hP
 have hg:=I.mod.glob.keeps I.bk
 have Pl:P < s.heap.objs.size:=I.hok.lt hP
 rcases hh with hn | ⟨c',hit,hc'⟩
 ·refine PySem.W.kla_makeFunction (mg:=X.mg) hcl I.ok.glob hg hcode (hC.keeps I.bk) hPo ht hn hgP (jP hB I.bk) fun c' ctv h' tk hx hge hlt hrec htb=>?_
  have hsz:s.heap.objs.size <= h'.objs.size:=Nat.le_of_lt (Nat.lt_of_le_of_lt hge hlt)
  have I1:=Inv.grow (P:=P) (c':=c') (f:=h'.objs.size) (more:=#[rawInt pos.line,rawInt pos.col,.ref c']) (tk:=tk) (o:={ cls:=.type "function",data:=.func (PySem.W.kla_fn "<lambda>" (X.env.qual ++ "<lambda>") params body scope [(y,c)] ((X.mg "__name__").getD .none) (.ref c') ctv) }) I hP
   (fun b u hb e=>Heap.get?_push_of_some _ (hx b u hb e)) (Heap.get?_push_of_some _ htb) hge hsz (Nat.ne_of_lt hlt) (hrec.push _) (Heap.get?_push_size _ rfl)
  have hPc:P ≠ c':=Nat.ne_of_lt (Nat.lt_of_lt_of_le Pl hge)
  have hPf:P ≠ h'.objs.size:=Nat.ne_of_lt (Nat.lt_of_lt_of_le Pl hsz)
  have atc:(upd (upd (upd H P (.tbl (ps ++ #[rawInt pos.line,rawInt pos.col,.ref c']))) c' (cdE c' (X.env.qual ++ "<lambda>"))) h'.objs.size (fnE h'.objs.size { cls:=.type "function",data:=.func (PySem.W.kla_fn "<lambda>" (X.env.qual ++ "<lambda>") params body scope [(y,c)] ((X.mg "__name__").getD .none) (.ref c') ctv) })) c' = some (cdE c' (X.env.qual ++ "<lambda>")):=by
   rw [zp (Nat.ne_of_lt hlt),zd]
  refine ⟨.ref h'.objs.size,_,I1,rfl,h _ _ (I.hok.fresh hsz) ⟨c',_,ctv,atc,zd⟩ ⟨ps ++ #[rawInt pos.line,rawInt pos.col,.ref c'],?_,?_,.inr ⟨c',?_,atc⟩⟩ fun b o hb e=>?_⟩
  ·rw [zp hPf,zp hPc,zd]
  ·rw [Array.toList_append]
   exact vB _ ht
  ·rw [Array.toList_append]
   exact codeAmong_snoc _ ht hn
  ·have hl:=I.hok.lt e
   rw [zp (Nat.ne_of_lt (Nat.lt_of_lt_of_le hl hsz)),zp (Nat.ne_of_lt (Nat.lt_of_lt_of_le hl hge)),zp hb]
   exact e
 ·refine PySem.W.kla_makeFunctionHit (mg:=X.mg) hcl I.ok.glob hg hcode (hC.keeps I.bk) hPo ht hit (jP hB I.bk) fun ctv h' tk hk hsz=>?_
  have hfr:H h'.objs.size = none:=I.hok.fresh hsz
  have I1:=I.laid (a:=h'.objs.size) (t':=tk) (h':=h'.push { cls:=.type "function",data:=.func (PySem.W.kla_fn "<lambda>" (X.env.qual ++ "<lambda>") params body scope [(y,c)] ((X.mg "__name__").getD .none) (.ref c') ctv) })
   (o:=fnE h'.objs.size { cls:=.type "function",data:=.func (PySem.W.kla_fn "<lambda>" (X.env.qual ++ "<lambda>") params body scope [(y,c)] ((X.mg "__name__").getD .none) (.ref c') ctv) })
   (fun b u e=>Heap.get?_push_of_some _ (hk b u e)) hsz (VI (Heap.get?_push_size _ rfl))
  have sm:=zg (o:=fnE h'.objs.size { cls:=.type "function",data:=.func (PySem.W.kla_fn "<lambda>" (X.env.qual ++ "<lambda>") params body scope [(y,c)] ((X.mg "__name__").getD .none) (.ref c') ctv) }) hfr
  exact ⟨.ref h'.objs.size,_,I1,rfl,h _ _ hfr ⟨c',_,ctv,sm _ _ hc',zd⟩ ⟨ps,sm _ _ hP,ht,.inr ⟨c',hit,sm _ _ hc'⟩⟩ fun b o _ e=>sm _ _ e⟩
end
end L3
namespace L3
open PySem PySem.Spec PyProof.Rows L2
def JV (R:V -> Hp -> Prop):List V -> Hp -> Prop
 | [v],H=>R v H
 | _,_=>False
theorem XQ {R:V -> Hp -> Prop}:∀ {vs:List V} {H:Hp},JV R vs H -> ∃ v,vs = [v] /\ R v H
 | [v],_,h=>⟨v,rfl,h⟩
def Ky (P:Addr) (pos:Pos) (q:Str) (LA:Hp -> Addr -> Prop):TE:=fun σ H Q=>TabOk H P pos q /\ ∀ f H',H f = none -> LA H' f -> TabOk H' P pos q -> SamT P H H' -> Q (.ref f) H'
def Vq {α:Type} (K:PySem.W.Frag) (F:KeyFam α) (P:Addr) (pos:Pos) (q:Str) (LA:Hp -> Addr -> Prop) (iy:Nat) (te tb:TE):TE:=fun σ H Q=>te σ H fun v H1=>TabOk H1 P pos q /\
 ∀ f H2,H1 f = none -> LA H2 f -> TabOk H2 P pos q -> SamT P H1 H2 -> ∃ l xs vy,v = .ref l /\ SqL K H2 l xs /\ xs.length < 64 /\ σ[iy]? = some (some vy) /\ vG (fun x H Q=>LA H f /\ tb [some x,some vy] H Q) xs [] H2 (ZV K F xs Q)
section
variable {X:Cx} {cc P c:Addr} {x p y:Str} {params:Arguments} {body e:Expr} {scope:Scope} {lpos kpos pos pp:Pos} {k iy:Nat} {te tb:TE}
theorem Qw (hcode:X.env.code = .ref cc) (hC:PySem.W.CodeHd X.base cc P) (hB:X.base.BuiltinsAt X.mg P) (hgP:mainGlobals ≠ P) (hcl:closureFor scope X.env = pure [(y,c)]) (hdef:defaultsOf params X.env = ([],[])) :
  PE X (.Lambda params body scope lpos) (Ky P lpos (X.env.qual ++ "<lambda>") fun H f=>LamAt H f "<lambda>" (X.env.qual ++ "<lambda>") params body scope [(y,c)]):=by
 intro pins s σ H Q I h
 exact Wl hcode hC hB hgP hcl hdef I h.1 h.2
theorem WQ {α:Type} {F:KeyFam α} (FO:F.Ok) (S:U0 p y scope) (hr:Room (k + 3) X.A) (hg:Gl X x) (hm:X.mg x = none) (hv:bootBuiltins x = some (.builtin "sorted")) (ha:PA X [e] (zV te wB))
  (hcode:X.env.code = .ref cc) (hC:PySem.W.CodeHd X.base cc P) (hB:X.base.BuiltinsAt X.mg P) (hgP:mainGlobals ≠ P) (hcl:closureFor scope X.env = pure [(y,c)]) (hdef:defaultsOf params X.env = ([],[]))
  (hbind:∀ (cv pm ctv u:Value),bindArgs (PySem.W.kla_fn "<lambda>" (X.env.qual ++ "<lambda>") params body scope [(y,c)] pm cv ctv) ⟨[u],[]⟩ = pure [(p,u)]) (hy:X.N[iy]? = some y) (hvis:X.env.scope.names.lookup y = some .cell) (hc:X.env.cells.lookup y = some c)
  (hb:∀ (s:Shared) (H:Hp) (f:Addr) (cv:Value),Room k (Xt X [p,y] s H (X.env.qual ++ "<lambda>") scope f cv [(y,c)]).A -> PE (Xt X [p,y] s H (X.env.qual ++ "<lambda>") scope f cv [(y,c)]) body tb)
  (hn:x ≠ "__name__":=by decide) (hdb:(x == ("__debug__" : Str)) = false:=by decide)
  (hks:(backToKw pos (keywordEach [⟨some "key",.Lambda params body scope lpos,kpos⟩] X.env)).filterMap (·.1) = [Str.ofString "key"]:=by rfl)
  (hst:backTo pos (starEach [e] X.env) = (false,eval e X.env) :: backTo pos (starEach [] X.env):=by rfl) (hpl:(backTo pos (starEach [e] X.env)).any (·.1) = false:=by rfl)
  (hall:(backToKw pos (keywordEach [⟨some "key",.Lambda params body scope lpos,kpos⟩] X.env)).all (·.1.isSome) = true:=by rfl) (hkw:(backToKw pos (keywordEach [⟨some "key",.Lambda params body scope lpos,kpos⟩] X.env)).any (·.1.isNone) = false:=by rfl) :
  PE X (.Call (.Name x pp) [e] [⟨some "key",.Lambda params body scope lpos,kpos⟩] pos) (Vq X.K F P lpos (X.env.qual ++ "<lambda>") (fun H f=>LamAt H f "<lambda>" (X.env.qual ++ "<lambda>") params body scope [(y,c)]) iy te tb):=by
 intro pins s σ H Q I h
 have hlam:PE X (.Lambda params body scope lpos) (Ky P lpos (X.env.qual ++ "<lambda>") fun H f=>LamAt H f "<lambda>" (X.env.qual ++ "<lambda>") params body scope [(y,c)]):=Qw hcode hC hB hgP hcl hdef
 refine wpAny_Call_Name_kw (wn I hg hm hv ?_ hn hdb)
 have h':(zV te wB) σ H (JV fun v H1=>TabOk H1 P lpos (X.env.qual ++ "<lambda>") /\ ∀ f H2,H1 f = none -> LamAt H2 f "<lambda>" (X.env.qual ++ "<lambda>") params body scope [(y,c)] -> TabOk H2 P lpos (X.env.qual ++ "<lambda>") -> SamT P H1 H2 ->
   ∃ l xs vy,v = .ref l /\ SqL X.K H2 l xs /\ xs.length < 64 /\ σ[iy]? = some (some vy) /\ vG (fun x H Q=>LamAt H f "<lambda>" (X.env.qual ++ "<lambda>") params body scope [(y,c)] /\ tb [some x,some vy] H Q) xs [] H2 (ZV X.K F xs Q)):=h
 refine callWith_kw (thn (ha pos pins s σ H _ I h') fun us s1 ⟨vs,H1,I1,r1,q1⟩=>?_) hst hpl hall hkw
 obtain ⟨v,rfl,hT,q1⟩:=XQ q1
 obtain ⟨u,rfl,ru⟩:=xD r1
 refine thn ((Xp hlam VO:PK X [⟨some "key",.Lambda params body scope lpos,kpos⟩] _) pos pins s1 σ H1 (JV fun kv H2=>∃ f,kv = .ref f /\ LamAt H2 f "<lambda>" (X.env.qual ++ "<lambda>") params body scope [(y,c)] /\
   ∃ l xs vy,v = .ref l /\ SqL X.K H2 l xs /\ xs.length < 64 /\ σ[iy]? = some (some vy) /\ vG (fun x H Q=>LamAt H f "<lambda>" (X.env.qual ++ "<lambda>") params body scope [(y,c)] /\ tb [some x,some vy] H Q) xs [] H2 (ZV X.K F xs Q)) I1 ⟨hT,fun f H2 a1 a2 a3 a4=>⟨f,rfl,a2,q1 f H2 a1 a2 a3 a4⟩⟩) fun ws s2 ⟨zs,H2,I2,r2,q2⟩=>?_
 obtain ⟨kv,rfl,f,rfl,hLA,l,xs,vy,rfl,hS,hz,hσ,hk⟩:=XQ q2
 obtain ⟨w',rfl,rw'⟩:=xD r2
 cases rw'
 cases ru
 rw [hks]
 show wpAny _ _ (call (.builtin "sorted") [.ref l] [(Str.ofString "key",.ref f)]) _ _ _
 refine Xn FO (k:=k + 1) hr (fun pins' s3 H3 x3 u3 Q3 I3 r3 h3=>?_) I2 hS hz hk
 obtain ⟨⟨c',pm,ctv,e1,e2⟩,h4⟩:=h3
 have hcd:s3.heap.CodeRec (.ref c') (X.env.qual ++ "<lambda>"):=(I3.hok _ _ e1).1
 have ho:=(I3.hok _ _ e2).1
 exact Wy (k:=k) S hr (hbind _ _ _ _) I3 ho hcd hy hσ hvis hc r3 (hb s3 H3 f (.ref c') (hr.in1.in1.deeper _)) h4
end
end L3
namespace L3
open PySem PySem.Spec PyProof.Rows L2
section
variable {K:PySem.W.Frag}
theorem SamT.of {T:Addr} {H H':Hp} (s:Same H H'):SamT T H H':=fun b o _ e=>s b o e
theorem SamT.trans {T:Addr} {H H' H'':Hp} (s:SamT T H H') (s':SamT T H' H''):SamT T H H'':=fun b o n e=>s' b o n (s b o n e)
theorem SamT.at {T b:Addr} {H H':Hp} {ps:Array Value} {o:HO} (s:SamT T H H') (hT:H T = some (.tbl ps)) (e:H b = some o) (ho:∀ qs,o ≠ .tbl qs):H' b = some o:=s b o (fun z=>by rw [z,hT] at e; cases e; exact ho _ rfl) e
theorem SamT.free {T b:Addr} {H H':Hp} {o:HO} (s:SamT T H H') (hT:H' T = some o) (h:H' b = none):H b = none:=by
 cases e:H b with
 | none=>rfl
 | some u =>
  by_cases hb:b = T
  ·rw [hb,hT] at h; cases h
  ·rw [s b u hb e] at h; cases h
theorem SamT.seqL {T a:Addr} {H H':Hp} {ps:Array Value} {xs:List V} (s:SamT T H H') (hT:H T = some (.tbl ps)) (h:SqL K H a xs):SqL K H' a xs:=by
 rcases h with (h | ⟨o,h⟩) | h
 ·exact .inl (.inl (s.at hT h fun _ z=>by cases z))
 ·exact .inl (.inr ⟨o,s.at hT h fun _ z=>by cases z⟩)
 ·exact .inr h
theorem SamT.seqT {T a:Addr} {H H':Hp} {ps:Array Value} {xs:List V} (s:SamT T H H') (hT:H T = some (.tbl ps)) (h:SqT K H a xs):SqT K H' a xs:=by
 rcases h with (h | ⟨o,h⟩) | h
 ·exact .inl (.inl (s.at hT h fun _ z=>by cases z))
 ·exact .inl (.inr ⟨o,s.at hT h fun _ z=>by cases z⟩)
 ·exact .inr h
mutual
theorem Is.samT {T:Addr} {H H':Hp} {ps:Array Value} (s:SamT T H H') (hT:H T = some (.tbl ps)):∀ (d:D) (v:V),Is K H d v -> Is K H' d v
 | .non,v,h=>by simp only [Is] at h ⊢; exact h
 | .bl b,v,h=>by simp only [Is] at h ⊢; exact h
 | .int b,v,h=>by simp only [Is] at h ⊢; exact h
 | .str b,v,h=>by simp only [Is] at h ⊢; exact h
 | .lst l,v,h=>by
  simp only [Is] at h ⊢
  obtain ⟨a,xs,e1,e2,e3⟩:=h
  exact ⟨a,xs,e1,s.seqL hT e2,Iss.samT s hT l xs e3⟩
 | .tup l,v,h=>by
  simp only [Is] at h ⊢
  obtain ⟨a,xs,e1,e2,e3⟩:=h
  exact ⟨a,xs,e1,s.seqT hT e2,Iss.samT s hT l xs e3⟩
theorem Iss.samT {T:Addr} {H H':Hp} {ps:Array Value} (s:SamT T H H') (hT:H T = some (.tbl ps)):∀ (l:List D) (vs:List V),Iss K H l vs -> Iss K H' l vs
 | [],vs,h=>by simp only [Iss] at h ⊢; exact h
 | d :: l,vs,h=>by
  simp only [Iss] at h ⊢
  obtain ⟨v,r,e1,e2,e3⟩:=h
  exact ⟨v,r,e1,Is.samT s hT d v e2,Iss.samT s hT l r e3⟩
end
theorem LsA.samT {T a:Addr} {H H':Hp} {ps:Array Value} {ds:List D} (h:LsA K H a ds) (s:SamT T H H') (hT:H T = some (.tbl ps)):LsA K H' a ds:=by
 obtain ⟨xs,h1,h2⟩:=h
 exact ⟨xs,s.at hT h1 (fun _ z=>by cases z),Iss.samT s hT _ _ h2⟩
theorem TabOk.same {H H':Hp} {T:Addr} {pos:Pos} {q:Str} (h:TabOk H T pos q) (s:Same H H'):TabOk H' T pos q:=by
 obtain ⟨ps,h1,h2,h3⟩:=h
 refine ⟨ps,s _ _ h1,h2,?_⟩
 rcases h3 with h3 | ⟨c',h4,h5⟩
 ·exact .inl h3
 ·exact .inr ⟨c',h4,s _ _ h5⟩
theorem LamAt.same {H H':Hp} {f:Addr} {name qual:Str} {params:Arguments} {body:Expr} {scope:Scope} {cl:List (Str × Addr)} (h:LamAt H f name qual params body scope cl) (s:Same H H'):LamAt H' f name qual params body scope cl:=by
 obtain ⟨c',pm,ctv,h1,h2⟩:=h
 exact ⟨c',pm,ctv,s _ _ h1,s _ _ h2⟩
end
end L3
namespace L3
open PySem PySem.Spec PyProof.Rows L2
section
variable {P:Program} {w:World} {K:PySem.W.Frag} {mg mb:Str -> Option Value} {CX:CXT} {k:Nat} {fa a T cc:Addr} {fd:FuncData} {x:Str} {sp:Sp} {s₁:Shared} {vs:List Value} {ns:List Int} {ps:Array Value}
theorem jZ (KX:K.In s₁.heap) (hKT:K.lookup T = none) (hT:s₁.heap.get? T = some { cls:=.none,data:=.fields ps }) (hTc:isCodeTable s₁.heap T) (hns:s₁.heap.Ns mainGlobals mg) (hb:s₁.heap.Ns builtinsNs mb) (hbb:∀ x:Str,x ≠ "__name__" -> mb x = bootBuiltins x) (hlim:s₁.heap.NoLimit) (hg:s₁.gens = #[])
  (ha:s₁.heap.get? a = some { cls:=.type "list",data:=.seq vs.toArray }) (hr:Room k callerA)
  (hbm:s₁.heap.BuiltinsAt mg T) (hcd:PySem.W.CodeHd s₁.heap cc T) (F:∀ base:Heap,K.In base -> base.Ns mainGlobals mg -> base.BuiltinsAt mg T -> PySem.W.CodeHd base cc T -> yk P w K mg base CX k fa fd [x] sp) (hbind:∀ (s:Shared) (u:Value),BindsTo s fd ⟨[u],[]⟩ [(x,u)])
  (hCX:∀ H e s',CX [] H s₁ (fun _ _ _=>False) e s' -> False) (H:Hp) (h1:H T = some (.tbl ps)) (h2:∀ b u,H b = some u -> b = T \/ (b = a /\ K.lookup a = none /\ u = .frz { cls:=.type "list",data:=.seq vs.toArray } (.lst (ns.map V.int))))
  (hok:HOk P w H s₁.heap) (hsp:sp [.ref a] H (fun v _=>v = .bl true) fun _ _ _=>False) :
  codeAny (model P w) callerA (.call (.ref fa) ⟨[.ref a],[]⟩) (fun r s'=>r = .ok (.ret (.bool true)) /\ OldK s₁.heap s'.heap /\ s'.os = s₁.os /\ AllBare s'.gens) s₁:=by
 have stay:∀ b o,s₁.heap.get? b = some o -> (b ≠ T) -> (b ≠ a) -> (Y7 s₁.heap H).get? b = some o:=fun b o e n1 n2=>kN e (by
  cases q:H b with
  | none=>rfl
  | some u =>
   rcases h2 b u q with z | z
   ·exact absurd z n1
   ·exact absurd z.1 n2)
 have nsStay:∀ (b:Addr) (m:Str -> Option Value),s₁.heap.Ns b m -> (Y7 s₁.heap H).Ns b m:=fun b m hN=>by
  obtain ⟨o,es,ep,e,d,rest⟩:=hN
  refine ⟨o,es,ep,stay b o e (fun z=>?_) (fun z=>?_),d,rest⟩
  ·rw [z,hT] at e
   cases e
   cases d
  ·rw [z,ha] at e
   cases e
   cases d
 have kStay:K.In (Y7 s₁.heap H):=fun b o e=>by
  have g:=KX b o e
  refine kN g ?_
  cases q:H b with
  | none=>rfl
  | some u =>
   rcases h2 b u q with z | z
   ·rw [z,hKT] at e
    cases e
   ·rw [z.1,z.2.1] at e
    cases e
 have bStay:(Y7 s₁.heap H).BuiltinsAt mg T:=by
  obtain ⟨bm,o,b1,b2,b3,b4,b5,b6,b7,b8⟩:=hbm
  refine ⟨bm,o,b1,b2,b3,b4,stay bm o b5 b4 (fun z=>?_),b6,b7,b8⟩
  rw [z,ha] at b5
  cases b5
  simp at b6
 have cStay:PySem.W.CodeHd (Y7 s₁.heap H) cc T:=by
  obtain ⟨o,vs',file,tf,flags,tg,inF,text,tt,c1,c2,c3,c4,c5,c6,c7,c8,c9,c10⟩:=hcd
  refine ⟨o,vs',file,tf,flags,tg,inF,text,tt,stay cc o c1 c10 (fun z=>?_),c2,c3,c4,c5,c6,c7,c8,c9,c10⟩
  rw [z,ha] at c1
  cases c1
  simp at c2
 obtain ⟨mc,l1,l2⟩:=hlim
 have M0:Mod K mg (Y7 s₁.heap H):={ kin:=kStay,glob:=nsStay _ _ hns,blt:=⟨mb,nsStay _ _ hb,hbb⟩,nolimit:=⟨mc,nsStay _ _ l1,l2⟩ }
 have E0:Env0 P w K mg (Y7 s₁.heap H) callerA [] s₁ H:={ frames:=rfl,mod:=M0,bs:=fun b o e=>Ua e,bsz:=Nat.le_of_eq (Yy _ _),funs:=trivial,frf:=fun b z=>(nomatch (show b ∈ ([]:List Addr) from z)),hok:=hok,bare:=.of_eq hg }
 refine codeAny_mono ((F _ kStay (nsStay _ _ hns) bStay cStay).run callerA [] s₁ H ⟨[.ref a],[]⟩ [.ref a] [.ref a] (fun v _=>v = .bl true) (fun _ _ _=>False) hr E0 (hbind s₁ (.ref a)) (.cons rfl .nil) hsp) fun r s' hq=>?_
 rcases r with e | fl
 ·exact (hCX H e s' hq).elim
 rcases fl with _ | _ | _ | u
 all_goals first | exact False.elim hq | skip
 obtain ⟨v,H',e1,e2,un,hok',rv,ev⟩:=hq
 have ev':v = V.bl true:=ev
 subst ev'
 have eu:u = Value.bool true:=rv
 subst eu
 obtain ⟨more,hT2⟩:=un.tbls T ps h1
 have hT3:s'.heap.get? T = some { cls:=.none,data:=.fields (ps ++ more) }:=hok' T _ hT2
 have each:∀ b o,s₁.heap.get? b = some o -> b ≠ T -> s'.heap.get? b = some o:=fun b o e n=>by
  cases q:H b with
  | none=>exact un.keep b o e q (fun z=>(nomatch (show b ∈ ([]:List Addr) from z))) (fun z=>(nomatch z))
  | some ob =>
   rcases h2 b ob q with z | ⟨z,_,zz⟩
   ·exact absurd z n
   ·subst zz
    have g:=(hok' b _ (un.frzs b _ _ q)).1
    rw [z,ha] at e
    cases e
    exact g
 refine ⟨rfl,⟨fun b o e=>?_,fun b o e=>?_⟩,e1,e2⟩
 ·by_cases hbT:b = T
  ·subst hbT
   rw [hT] at e
   cases e
   exact .inr (.inl ⟨hTc,rfl,ps,more,rfl,hT3⟩)
  ·exact .inl (each b o e hbT)
 ·by_cases hbT:b = T
  ·subst hbT
   exact ⟨_,hT3⟩
  ·exact ⟨o,each b o e hbT⟩
theorem Yu (KX:K.In s₁.heap) (hKT:K.lookup T = none) (hT:s₁.heap.get? T = some { cls:=.none,data:=.fields ps }) (hTc:isCodeTable s₁.heap T) (hns:s₁.heap.Ns mainGlobals mg) (hb:s₁.heap.Ns builtinsNs mb) (hbb:∀ x:Str,x ≠ "__name__" -> mb x = bootBuiltins x) (hlim:s₁.heap.NoLimit) (hg:s₁.gens = #[])
  (ha:s₁.heap.get? a = some { cls:=.type "list",data:=.seq vs.toArray }) (hi:IntsAre vs ns) (hl:ns.length <= sizeLine) (hr:Room k callerA)
  (hbm:s₁.heap.BuiltinsAt mg T) (hcd:PySem.W.CodeHd s₁.heap cc T) (F:∀ base:Heap,K.In base -> base.Ns mainGlobals mg -> base.BuiltinsAt mg T -> PySem.W.CodeHd base cc T -> yk P w K mg base CX k fa fd [x] sp) (hbind:∀ (s:Shared) (u:Value),BindsTo s fd ⟨[u],[]⟩ [(x,u)])
  (hCX:∀ H e s',CX [] H s₁ (fun _ _ _=>False) e s' -> False) (hsp:∀ H:Hp,H T = some (.tbl ps) -> SqL K H a (ns.map V.int) -> sp [.ref a] H (fun v _=>v = .bl true) fun _ _ _=>False) :
  codeAny (model P w) callerA (.call (.ref fa) ⟨[.ref a],[]⟩) (fun r s'=>r = .ok (.ret (.bool true)) /\ OldK s₁.heap s'.heap /\ s'.os = s₁.os /\ AllBare s'.gens) s₁:=by
 have rv:=jV hi
 have hlv:=hi.length
 have hTa:a ≠ T:=fun z=>by
  rw [z,hT] at ha
  cases ha
 rcases hk:K.lookup a with _ | o
 ·refine jZ (ns:=ns) KX hKT hT hTc hns hb hbb hlim hg ha hr hbm hcd F hbind hCX (upd (upd (fun _=>none) T (.tbl ps)) a (.frz { cls:=.type "list",data:=.seq vs.toArray } (.lst (ns.map V.int)))) ?_ (fun b u e=>?_) (fun b u e=>?_) ?_
  ·rw [zp (Ne.symm hTa),zd]
  ·by_cases hba:b = a
   ·subst hba
    rw [zd] at e
    cases e
    exact .inr ⟨rfl,hk,rfl⟩
   ·rw [zp hba] at e
    by_cases hbT:b = T
    ·exact .inl hbT
    ·rw [zp hbT] at e
     cases e
  ·by_cases hba:b = a
   ·subst hba
    rw [zd] at e
    cases e
    exact ⟨ha,by rw [List.length_map]; exact hl,vs,_,rv,ha⟩
   ·rw [zp hba] at e
    by_cases hbT:b = T
    ·subst hbT
     rw [zd] at e
     cases e
     exact hT
    ·rw [zp hbT] at e
     cases e
  ·exact hsp _ (by rw [zp (Ne.symm hTa),zd]) (.inl (.inr ⟨_,zd⟩))
 ·have e:=KX a o hk
  rw [ha] at e
  cases e
  refine jZ (ns:=ns) KX hKT hT hTc hns hb hbb hlim hg ha hr hbm hcd F hbind hCX (upd (fun _=>none) T (.tbl ps)) zd (fun b u e=>?_) (fun b u e=>?_) (hsp _ zd (.inr ⟨_,vs.toArray,_,hk,rfl,rfl,rfl,by rw [List.size_toArray,hlv]; exact hl,by simpa using rv⟩))
  ·by_cases hbT:b = T
   ·exact .inl hbT
   ·rw [zp hbT] at e
    cases e
  ·by_cases hbT:b = T
   ·subst hbT
    rw [zd] at e
    cases e
    exact hT
   ·rw [zp hbT] at e
    cases e
end
def U7 (K:PySem.W.Frag):Bool:=K.all fun p=>match p.2 with
 | ⟨.none,_,.fields _,_⟩=>false
 | _=>true
theorem kQ {T:Addr} {o:Obj}:∀ {K:PySem.W.Frag},K.lookup T = some o -> (T,o) ∈ K
 | [],h=>by cases h
 | p :: K,h=>by
  rw [List.lookup_cons] at h
  by_cases hp:T = p.1
  ·rw [show (T == p.1) = true by simpa using hp] at h
   cases h
   rw [hp]
   exact List.mem_cons_self
  ·rw [show (T == p.1) = false by simpa using hp] at h
   exact List.mem_cons_of_mem _ (kQ h)
theorem WS {K:PySem.W.Frag} {T:Addr} {ps:Array Value} {h:Heap} (e:U7 K = true) (X:K.In h) (hT:h.get? T = some { cls:=.none,data:=.fields ps }):K.lookup T = none:=by
 cases q:K.lookup T with
 | none=>rfl
 | some o =>
  have g:=X _ _ q
  rw [hT] at g
  cases g
  have:=List.all_eq_true.mp e _ (kQ q)
  simp at this
theorem walk_ofT {l:PySem.W.OpenLaw} {n k:Nat} {q:Program} {loose:List Str} {XP:(Str -> Option Value) -> Heap -> Prop} {YP:World -> Heap -> Prop} {d din:DefRec} {K:Params -> PySem.W.Frag} {CX:World -> CXT} {sp:World -> Addr -> Sp} {x:Str}
  (hn:l.most = some n) (hn2:n <= sizeLine) (hdf:d.params.defaults = []) (hr:Room k callerA) (hdin:din ∈ recsOf q)
  (hY:∀ (w:World) (h:Heap),YP w h -> (K w.params).In h) (hno:∀ w:World,U7 (K w.params) = true)
  (F:∀ (w:World) (mg:Str -> Option Value) (fa:Addr) (h:Heap) (cc T:Addr),(K w.params).In h -> h.Ns mainGlobals mg -> mg d.name = some (.ref fa) -> (∃ a o fd,mg din.name = some (.ref a) /\ h.get? a = some o /\ o.data = .func fd /\ fd.code = .ref cc) -> mainGlobals ≠ T ->
   ∃ fd:FuncData,(∀ (s:Shared) (u:Value),BindsTo s fd ⟨[u],[]⟩ [(x,u)]) /\
    ∀ base:Heap,(K w.params).In base -> base.Ns mainGlobals mg -> base.BuiltinsAt mg T -> PySem.W.CodeHd base cc T -> yk l.prog w (K w.params) mg base (CX w) k fa fd [x] (sp w T))
  (hsp:∀ (w:World) (H:Hp) (a:Addr) (ns:List Int) (T:Addr),ns.length <= n -> (∀ z ∈ ns,vd z) -> H T = some (.tbl #[]) -> SqL (K w.params) H a (ns.map V.int) -> sp w T [.ref a] H (fun v _=>v = .bl true) fun _ _ _=>False)
  (hCX:∀ (w:World) (H:Hp) (s:Shared) (e:Value) (s':Shared),CX w [] H s (fun _ _ _=>False) e s' -> False) :
  PySem.W.WalkO q loose XP YP l.row.toRowW d [] (fun f vs=>PySem.call f vs):=by
 refine jM hn hdf fun w s₀ s₁ mg mb fa o pm cd doc a vs ns G Y ho hd hcd hmg hobj hints hlen hb' hg=>?_
 have X0:=hY w _ Y
 obtain ⟨ai,oi,fdi,cc,T,m1,m2,m3,m4,m5,m6⟩:=G.T.tab din hdin
 have hcd':PySem.W.CodeHd s₁.heap cc T:=PySem.W.CodeHd.of m5 m6
 have hTo:s₁.heap.get? T = some { cls:=.none,data:=.fields #[] }:=m6.2
 have hTc:isCodeTable s₁.heap T:=m6.isCodeTable
 have hgT:mainGlobals ≠ T:=fun z=>by
  obtain ⟨o,es,ep,e,hd',_⟩:=G.T.g
  rw [z,hTo] at e
  cases e
  cases hd'
 have hbm:s₁.heap.BuiltinsAt mg T:=by
  obtain ⟨bm,ob,b1,b2,b3,b4,b5,b6⟩:=G.T.bmain
  refine ⟨bm,ob,b1,b2,fun z=>?_,fun z=>?_,b3,b4,b5,b6⟩
  ·obtain ⟨o,es,ep,e,hd',_⟩:=G.T.g
   rw [z,e] at b3
   cases b3
   rw [hd'] at b6
   cases b6
  ·rw [z,hTo] at b3
   cases b3
   cases b4
 obtain ⟨fd,hbd,hF⟩:=F w mg fa _ cc T X0 G.T.g hmg ⟨ai,oi,fdi,m1,m2,m3,m4⟩ hgT
 exact Yu (T:=T) (ps:=#[]) X0 (WS (hno w) X0 hTo) hTo hTc G.T.g G.T.b G.T.builtins G.T.nolimit hg hobj hints (Nat.le_trans hlen hn2) hr hbm hcd' hF hbd (fun H e s'=>hCX w H s₁ e s') fun H h1 h2=>hsp w H a ns T hlen hb' h1 h2
theorem V5 {P:Program} {w:World} {K:PySem.W.Frag} {mg:Str -> Option Value} {base:Heap} {x qual:Str} {st:Stmt} {f cc:Addr} {fd:FuncData} {N ps:List Str} {k:Nat} {sp:Sp} (F:Fun K x qual st f fd) (hcc:fd.code = .ref cc) (S:zu N ps (zb st)) (len:∀ vs H Q E,sp vs H Q E -> vs.length = ps.length)
  (hbody:∀ (A:Around) (outer:List Env) (s:Shared) (H:Hp) (vs:List V) (Q:VK) (E:XK),Room k (A.deeper (envOfC qual (zb st) s.heap.objs.size f (.ref cc))) -> sp vs H Q E ->
   ∃ t,PSs (vQ CX0 P w K mg base N qual (zb st) f (.ref cc) A outer s H E).nox (zo st) t /\ t { nx:=fun _ H'=>Q .non H',rt:=Q } (start N vs) H):yk P w K mg base CX0 (k + 1) f fd ps sp:=by
 obtain ⟨oc,od,kV,doc,pm,an,cdv,ct,osl,rfl,lk,hcd⟩:=F.ex
 have e:cdv = .ref cc:=hcc
 subst e
 refine Wn lk hcd S len fun A outer s H vs Q E hr hsp=>?_
 obtain ⟨t,h,q⟩:=hbody A outer s H vs Q E hr hsp
 exact ⟨t,h.nox,q⟩
end L3
namespace PySem
namespace F
end F
section
variable {prog:Program} {w:World} {A:Around} {E:Value -> Shared -> Prop} {s:Shared}
def Heap.IsRevS (h:Heap) (a:Addr) (x:Str) (t:Tok) (i:Int):Prop:=∃ o,h.get? a = some o /\ o.cls = .type "reversed" /\ o.data = .fields #[.str x t,rawInt i]
theorem Heap.IsRevS.typeIs {a:Addr} {x:Str} {t:Tok} {i:Int} (z:s.heap.IsRevS a x t i):s.TypeIs (.ref a) "reversed":=let ⟨o,ho,hc,_⟩:=z; ⟨o,ho,hc⟩
theorem Heap.IsRevS.at {h h':Heap} {a:Addr} {x:Str} {t:Tok} {i:Int} (z:h.IsRevS a x t i) (e:∀ o,h.get? a = some o -> h'.get? a = some o):h'.IsRevS a x t i:=let ⟨o,ho,r⟩:=z; ⟨o,e _ ho,r⟩
end
section
variable {prog:Program} {w:World} {A:Around} {E:Value -> Shared -> Prop} {s:Shared}
end
end PySem
namespace L3
open PySem PySem.Spec PyProof.Rows L2
section
variable {X:Cx} {o a:Expr} {to:TE} {ta:TA} {apos cpos p pos2:Pos}
end
end L3
namespace L2
open PySem PySem.Spec PyProof.Rows
section
variable {X:Cx} {tg:Expr}
end
end L2
namespace L3
open PySem L2
section
variable {g:TG} {tt:TT} {te:TE} {own:Nat} {ix:List Nat} {σ:L2.St} {H1:Hp} {Q:VK} {D:Addr}
end
end L3
namespace L3
open PySem PySem.Spec PyProof.Rows L2
open AutoSeq1 (wpAny_loadPart')
open MeetsSeq MeetsSeq2 MeetsSeq3 SeqRoads2 SeqAt
section
variable {X:Cx} {pins:List (Addr × Obj)} {σ:St} {H:Hp} {s:Shared}
end
end L3
namespace L3
open PySem PySem.Spec PyProof.Rows L2
section
variable {prog:Program} {w:World} {A:Around} {R:Result -> Shared -> Prop} {I:Addr} {fp wr:List Addr} {G:Array GenState -> Array GenState -> Prop} {n:Nat} {P:Nat -> Value -> Prop} {St:Nat -> Shared -> Prop}
end
section
variable {prog:Program} {w:World} {A:Around} {E:Value -> Shared -> Prop} {s:Shared}
end
end L3
namespace L3
open PySem PySem.Spec PyProof.Rows L2
section
variable {X:Cx}
end
end L3
namespace L3
open PySem PySem.Spec PyProof.Rows L2
section
variable {g:TG} {tt:TT} {te:TE} {own:Nat} {ix:List Nat} {σ:L2.St} {H1:Hp} {Q:VK} {D:Addr}
end
end L3
namespace L3
open PySem PySem.Spec PyProof.Rows L2
section
variable {X:Cx} {pos:Pos}
end
end L3
namespace LL
open PySem L2 L3
def top (i:Nat):Stmt:=PySem.Challenge.pw_letterlaw_k53_thinned_is_thin.main.body.getD i (.Pass ⟨0,0,0,0⟩)
abbrev yq:Stmt:=xQ (top 5) 0
abbrev zP:Stmt:=top 9
abbrev yw:Stmt:=top 10
abbrev yI:Stmt:=top 11
abbrev ZJ:Stmt:=top 12
abbrev uw:Stmt:=top 14
abbrev wx:Stmt:=top 15
abbrev yc:Stmt:=top 18
abbrev yo:Stmt:=top 19
abbrev wm:Stmt:=top 20
abbrev yW:Stmt:=top 26
abbrev yJ:Stmt:=top 27
abbrev xG:Stmt:=top 28
abbrev yu:Stmt:=top 29
abbrev ya:Stmt:=top 30
abbrev zX:Stmt:=top 31
abbrev yv:Stmt:=top 32
abbrev xF:Stmt:=top 33
abbrev yx:Stmt:=xQ (top 36) 0
abbrev yb:Stmt:=xQ (top 36) 1
abbrev yt:Stmt:=xQ (top 36) 2
abbrev ye:Stmt:=xQ (top 36) 3
abbrev yd:Stmt:=xQ (top 36) 4
abbrev zU:Stmt:=xQ (top 37) 0
abbrev zS:Stmt:=xQ (top 38) 0
abbrev zI:Stmt:=xQ (top 38) 1
abbrev qd:Stmt:=top 40
abbrev vw:Stmt:=top 41
abbrev xw:Stmt:=top 42
abbrev qg:Stmt:=top 43
abbrev qy:Stmt:=top 44
abbrev qj:Stmt:=top 45
abbrev vv:Stmt:=top 46
abbrev vq:Stmt:=top 47
abbrev qx:Stmt:=top 48
abbrev qo:Stmt:=top 49
abbrev vg:Stmt:=top 50
abbrev Ya:Stmt:=top 51
abbrev vk:Stmt:=top 52
abbrev w4:Stmt:=top 53
abbrev xA:Stmt:=top 54
abbrev uH:Stmt:=top 55
abbrev uS:Stmt:=top 56
abbrev vL:Stmt:=top 57
section
variable {P:Program} {w:World} {K:PySem.W.Frag} {mg:Str -> Option Value} {base:Heap}
seal L2.PE L2.PS L2.PA L2.PT L2.PSs L2.PI L2.PG L2.PW L2.PGs
local macro_rules | `(tactic| rfl')=>`(tactic| simp only [KY,Y4,zad,vM,Option.join_some,Option.join_none,rU,Zx,Jj,Kh,Kt,Q5,KD,K0,UU,tOp,tUn,yN,tC,u8,zV,wB,tCB,JC,xR,Jf,KU,K1,tOr,Jd,K4,Ul,YI,tIf,rI,rI0,WK,Uw,KR,KW,KP,rEq,rNe,rIx,J8,uA,Kr,Kz,JU,JL,Ka,tSl,Yw,Jl,JO,zaj,KJ,Jn,Qp,rGe,Km,decide_false,decide_true,Prod.mk.injEq,QW,Ku,Kl,Xh,W0,YT,tyV,tBM,zal,if_true,if_false,Bool.false_eq_true,decide_eq_true_eq,decide_eq_false_iff_not,Bool.not_eq_true',Bool.not_true,Bool.not_false,lt1,UK,KG,JR,WM,Kf,Jm,Kp,J9,XS,Xk,K6,tHs,Qk,JQ,Ke,JT,Kx,J7,Value.ref.injEq,L2.start,Ks,Kq,zaw,zah,zaC,Kw,zap,JW,J4,K2,zai,Uq,Kk,Ql,KQ,jR,Wx,jr,wQ,Wa,yf,zak,Jw,J5,cxK,cxP,cxW,List.map_cons,List.map_nil,List.length_cons,List.length_nil,List.replicate_succ,List.replicate_zero,Nat.reduceAdd,Nat.reduceSub,and_assoc,JJ,exists_eq,exists_eq',exists_eq_left',exists_eq_left,exists_eq_right,exists_eq_right',exists_and_left,exists_and_right,V.int.injEq,V.ref.injEq,V.str.injEq,V.bl.injEq,V.ty.injEq,reduceCtorEq,false_and,and_false,true_and,and_true,or_false,false_or,exists_false,exists_const,List.getElem?_cons_zero,List.getElem?_cons_succ,Option.some.injEq,List.set_cons_zero,List.set_cons_succ,List.cons.injEq,List.append_nil,List.nil_append,List.cons_append])
theorem xe0 {X:Cx}:XE X E0:=fun e s h=>by
 obtain ⟨_,_,_,_,_,_,_,_,_,_,_,_,_,_,h⟩:=h
 exact h.elim
def kC (l:List Nat):Prop:=∀ c ∈ l,97 <= c /\ c <= 122
instance (l:List Nat):Decidable (kC l):=by unfold kC; infer_instance
def vK (l:List Nat):Bool:=decide (1 <= l.length /\ l.length <= 6 /\ kC l /\ l.Nodup)
def vS:Sp:=fun vs H Q _=>∃ c:Nat,vs = [.str (tx [c])] /\ Q (.bl (decide (97 <= c /\ c <= 122))) H
theorem Wg:zu ["sign"] ["sign"] (zb zP):=⟨rfl,rfl,rfl,by decide +kernel,rfl,by decide +kernel,by decide +kernel⟩
theorem W5 {f:Addr} {fd:FuncData} (F:Fun K "is_small_letter" "is_small_letter" zP f fd):yk P w K mg base CX0 1 f fd ["sign"] vS:=by
 refine F.ok Wg (fun vs H Q E h=>?_) (fun cdv A outer s H vs Q E hr h=>?_)
 ·obtain ⟨a,rfl,_⟩:=h
  rfl
 ·obtain ⟨c,rfl,q⟩:=h
  refine ⟨_,(zf (zw (WI wL wL yY (pv 0) yY))),?_⟩
  have ea:cs (("a" : Str)) = [97]:=rfl
  have ez:cs (("z" : Str)) = [122]:=rfl
  rfl'
  simp only [ea,ez,Wa,lt1]
  refine xn (fun h=>?_) fun h=>?_
  ·have e:decide (97 <= c /\ c <= 122) = !decide (122 < c):=by
    by_cases h2:122 < c
    ·rw [decide_eq_true h2,decide_eq_false (by omega)]; rfl
    ·rw [decide_eq_false h2,decide_eq_true (by omega)]; rfl
   rw [e] at q
   exact q
  ·rw [decide_eq_false (by omega)] at q
   exact q
structure KO (K:PySem.W.Frag) (mg:Str -> Option Value) (C:Addr):Prop where
 xi:XI K C
 ini:PySem.W.findIn K (.ref C) "__init__" = some (some (.builtin "ValueError.__init__"))
 g:mg "NoLetters" = some (.ref C)
 most:∃ t,mg "MOST_LETTERS" = some (.int 6 t)
def xL (C:Addr):Sp:=fun vs H Q E=>∃ l:List Nat,vs = [.str (tx l)] /\ l.length <= 1000 /\ (vK l = true -> Q (.str (tx l)) H) /\ (vK l = false -> E (.ref C) none H)
theorem sc_letters_of:zu ["text", "sign"] ["text"] (zb yw):=⟨rfl,rfl,rfl,by decide +kernel,rfl,by decide +kernel,by decide +kernel⟩
theorem qY {f C:Addr} {fd:FuncData} (B:Bt mg) (T:KO K mg C) (F:Fun K "letters_of" "letters_of" yw f fd) (Ds:Df P w K mg base CX0 1 "is_small_letter" ["sign"] [] vS):yk P w K mg base (CXx P w) 2 f fd ["text"] (xL C):=by
 refine Fun.okX F sc_letters_of (fun vs H Q E h=>?_) (fun cdv A outer s H vs Q E hr hx h=>?_)
 ·obtain ⟨a,rfl,_⟩:=h
  rfl
 ·obtain ⟨l,rfl,hl,q1,q2⟩:=h
  obtain ⟨t6,g6⟩:=T.most
  refine ⟨_,(zK (zW (ym (je wL wL ze (zn z9 rfl B.len PySem.boot_len (za (pv 0) zc)) (xP (v:=.int 6) rfl g6 ⟨t6,rfl⟩)))
    (zf (yA hx rfl T.xi.toXC T.ini rfl T.g (za yY zc)))
    zy)
   (zK (yD PassesOwn.leaving rfl (jN (pv 0)) (zx (i:=1) sc_letters_of.nd rfl (Or.inl rfl))
    (zK (zW (ym (Zi (cl0 Ds hr .nil rfl (za (pv 1) zc)) (fun _=>rfl)))
     (zf (yA hx rfl T.xi.toXC T.ini rfl T.g (za yY zc)))
     zy)
    (zf (zW (zC qm (wD PySem.F.plainAttrs_str PySem.F.slot_str_count PySem.F.type_str_count Xb (pv 0) (za (pv 1) zc)) ze (zJ _))
     (zf (yA hx rfl T.xi.toXC T.ini rfl T.g (za yY zc)))
     zy))))
   (zf (zw (pv 0))))),?_⟩
  have s16:=yE
  rfl'
  have bad:(¬ (1 <= l.length /\ l.length <= 6 /\ kC l /\ l.Nodup)) -> ∀ H':Hp,H' = H -> E (.ref C) none H':=fun h H' e=>by
   rw [e]
   exact q2 (decide_eq_false h)
  refine ⟨by omega,xn (fun c=>xn (fun c2=>⟨by omega,bad (fun h=>by have:=h.2.1; omega) H rfl⟩) (fun c2=>?_)) (fun c=>⟨by omega,bad (fun h=>by have:=h.1; omega) H rfl⟩)⟩
  refine ForS.by (fun i σ H'=>H' = H /\ ∃ v,σ = [some (.str (tx l)),v] /\ kC (l.take i) /\ ∀ c ∈ l.take i,l.count c <= 1) ⟨rfl,none,rfl,fun c h=>absurd h (by simp),fun c h=>absurd h (by simp)⟩ ?_ ?_
  ·rintro i c σ H' hg ⟨eH,v,rfl,hs,hn⟩
   have hc:=List.mem_of_getElem? hg
   rfl'
   simp only [vS]
   rfl'
   refine xn (fun h=>⟨by omega,bad (fun z=>by have:=z.2.2.1 c hc; omega) _ eH⟩) (fun h=>xn (fun h2=>⟨by omega,bad (fun z=>?_) _ eH⟩) (fun h2=>⟨eH,?_,?_⟩))
   ·have:=List.nodup_iff_count.mp z.2.2.2 c
    omega
   ·rw [z6 hg]
    intro x hx
    rcases List.mem_append.mp hx with q | q
    ·exact hs x q
    ·have:x = c:=by simpa using q
     subst this
     omega
   ·rw [z6 hg]
    intro x hx
    rcases List.mem_append.mp hx with q | q
    ·exact hn x q
    ·have:x = c:=by simpa using q
     subst this
     omega
  ·rintro σ H' ⟨eH,v,rfl,hs,hn⟩
   rw [List.take_length] at hs hn
   rfl'
   rw [eH]
   refine q1 (decide_eq_true ⟨by omega,by omega,hs,List.nodup_iff_count.mpr fun c=>?_⟩)
   by_cases hc:c ∈ l
   ·exact hn c hc
   ·rw [List.count_eq_zero.mpr hc]; omega
def zq (l:List Nat) (k:Int) (p:List Nat):Bool:=decide (0 <= k /\ k + p.length <= l.length /\ (l.drop k.toNat).take p.length = p)
def xg:Sp:=fun vs H Q _=>∃ (l p:List Nat) (k:Int),vs = [.str (tx l),.int k,.str (tx p)] /\ l.length <= 10000 /\ p.length <= 10000 /\ Q (.bl (zq l k p)) H
theorem qP {l p:List Nat} {k:Int} {H:Hp} {Q:VK} {E:XK} (h1:l.length <= 10000) (h2:p.length <= 10000) (h:Q (.bl (zq l k p)) H):xg [.str (tx l),.int k,.str (tx p)] H Q E:=⟨l,p,k,rfl,h1,h2,h⟩
theorem jT:zu ["word", "place", "part"] ["word", "place", "part"] (zb yI):=⟨rfl,rfl,rfl,by decide +kernel,rfl,by decide +kernel,by decide +kernel⟩
theorem jx {f:Addr} {fd:FuncData} (B:Bt mg) (F:Fun K "stands_at" "stands_at" yI f fd):yk P w K mg base CX0 1 f fd ["word", "place", "part"] xg:=by
 refine F.ok jT (fun vs H Q E h=>?_) (fun cdv A outer s H vs Q E hr h=>?_)
 ·obtain ⟨l,p,k,rfl,_⟩:=h
  rfl
 ·obtain ⟨l,p,k,rfl,hl,hp,q⟩:=h
  refine ⟨_,(zK (zW (ym (je wL wL ze (pv 1) (zD vA (zn z9 rfl B.len PySem.boot_len (za (pv 0) zc)) (zn z9 rfl B.len PySem.boot_len (za (pv 2) zc)))))
    (zf (zw xb))
    zy)
   (zf (zw (jk uY (yL vC (pv 0) (yK (pv 1)) (yK (zD op_add (pv 1) (zn z9 rfl B.len PySem.boot_len (za (pv 2) zc))))) (pv 2) (zJ _))))),?_⟩
  have s16:=yE
  rfl'
  have no:¬ (0 <= k /\ k + p.length <= l.length /\ (l.drop k.toNat).take p.length = p) -> Q (.bl false) H:=fun h=>by
   have e:zq l k p = false:=decide_eq_false h
   rw [e] at q
   exact q
  refine xn (fun h0=>⟨by omega,by omega,xn (fun h1=>no fun h=>absurd h.2.1 (by omega)) fun h1=>⟨by omega,by omega,?_⟩⟩) fun h0=>no fun h=>h0 h.1
  rw [j7 _ h0 (by omega) (by omega)]
  have e:(k + (p.length:Int) - k).toNat = p.length:=by omega
  rw [e]
  have e2:zq l k p = decide ((l.drop k.toNat).take p.length = p):=by
   unfold zq
   exact decide_eq_decide.mpr ⟨fun h=>h.2.2,fun h=>⟨h0,by omega,h⟩⟩
  rw [<- e2]
  exact q
def wA (l:List Nat) (k:Int) (o n:List Nat):List Nat:=l.take k.toNat ++ n ++ l.drop (k.toNat + o.length)
theorem yz {l o:List Nat} {k:Int} (h:zq l k o = true):l.take k.toNat ++ o ++ l.drop (k.toNat + o.length) = l /\ (l.take k.toNat).length = k.toNat /\ 0 <= k /\ k + o.length <= l.length:=by
 unfold zq at h
 rw [decide_eq_true_eq] at h
 obtain ⟨h0,h1,h2⟩:=h
 refine ⟨?_,by rw [List.length_take]; omega,h0,h1⟩
 have e:l.drop k.toNat = o ++ l.drop (k.toNat + o.length):=by
  have:=List.take_append_drop o.length (l.drop k.toNat)
  rw [h2,List.drop_drop] at this
  exact this.symm
 rw [List.append_assoc,<- e,List.take_append_drop]
theorem Vb {l o:List Nat} {k:Int} (n:List Nat) (h:zq l k o = true):zq (wA l k o n) k n = true /\ wA (wA l k o n) k n o = l:=by
 obtain ⟨e,hl,h0,h1⟩:=yz h
 have e1:(wA l k o n).take k.toNat = l.take k.toNat:=by
  unfold wA
  rw [List.append_assoc,List.take_append_of_le_length (by omega),List.take_of_length_le (by omega)]
 have e2:(wA l k o n).drop k.toNat = n ++ l.drop (k.toNat + o.length):=by
  unfold wA
  rw [List.append_assoc,List.drop_append_of_le_length (by omega),List.drop_of_length_le (by omega),List.nil_append]
 have e3:(wA l k o n).length = l.length - o.length + n.length:=by
  unfold wA
  simp only [List.length_append,List.length_drop,hl]
  omega
 refine ⟨?_,?_⟩
 ·unfold zq
  refine decide_eq_true ⟨h0,by omega,?_⟩
  rw [e2,List.take_append_of_le_length (by omega),List.take_of_length_le (by omega)]
 ·show (wA l k o n).take k.toNat ++ o ++ (wA l k o n).drop (k.toNat + n.length) = l
  rw [e1,<- List.drop_drop,e2,List.drop_append_of_le_length (by omega),List.drop_of_length_le (by omega),List.nil_append]
  exact e
theorem UW {l o n:List Nat} {k:Int} (h0:0 <= k):cut l none (some k) ++ n ++ cut l (some (k + ↑o.length)) none = wA l k o n:=by
 rw [YJ _ h0,jo _ (by omega)]
 have:(k + (o.length:Int)).toNat = k.toNat + o.length:=by omega
 rw [this]
 rfl
structure TNU (K:PySem.W.Frag) (mg:Str -> Option Value) (C:Addr):Prop where
 xi:XI K C
 g:mg "NoUse" = some (.ref C)
 na:NoAttr K C "at"
theorem jj:zu ["self", "at"] ["self", "at"] (zb yq):=⟨rfl,rfl,rfl,by decide +kernel,rfl,by decide +kernel,by decide +kernel⟩
theorem ja {f C:Addr} {fd:FuncData} (T:TNU K mg C) (F:Fun K "__init__" "NoUse.__init__" yq f fd):yk P w K mg base CX0 1 f fd ["self", "at"] (qI C "at"):=by
 refine F.ok jj (fun vs H Q E h=>?_) (fun cdv A outer s H vs Q E hr h=>?_)
 ·obtain ⟨x,v,rfl,_⟩:=h
  rfl
 ·obtain ⟨x,v,rfl,hx,q⟩:=h
  refine ⟨_,(zf (UL (pv 0) (pv 1) rfl)),?_⟩
  simp only [Qr]
  rfl'
  exact ⟨C,hx,T.xi.toXC,T.na,q⟩
structure DNU (P:Program) (w:World) (K:PySem.W.Frag) (mg:Str -> Option Value) (base:Heap) (C:Addr):Prop extends TNU K mg C where
 ini:∃ f fd,PySem.W.findIn K (.ref C) "__init__" = some (some (.ref f)) /\ PySem.W.isFn K (.ref f) = true /\ yk P w K mg base CX0 1 f fd ["self", "at"] (qI C "at") /\ Binds K fd ["self", "at"] []
def Xq (C:Addr):Sp:=fun vs H Q E=>∃ (l o n:List Nat) (k:Int),vs = [.str (tx l),.int k,.str (tx o),.str (tx n)] /\ l.length <= 10000 /\ o.length <= 10000 /\ n.length <= 10000 /\ (zq l k o = true -> Q (.str (tx (wA l k o n))) H) /\ (zq l k o = false -> ∀ d H',KM H d "at" (.int 0) H' -> E (.ref C) (some d) H')
theorem QK:zu ["word", "place", "old", "new"] ["word", "place", "old", "new"] (zb ZJ):=⟨rfl,rfl,rfl,by decide +kernel,rfl,by decide +kernel,by decide +kernel⟩
theorem Qo {f C:Addr} {fd:FuncData} (B:Bt mg) (T:DNU P w K mg base C) (F:Fun K "put" "put" ZJ f fd) (D_stands_at:Df P w K mg base CX0 1 "stands_at" ["word", "place", "part"] [] xg):yk P w K mg base (CXx P w) 3 f fd ["word", "place", "old", "new"] (Xq C):=by
 obtain ⟨fi,fdi,hi,hfn,Fi,Bi⟩:=T.ini
 refine Fun.okX F QK (fun vs H Q E h=>?_) (fun cdv A outer s H vs Q E hr hx h=>?_)
 ·obtain ⟨l,o,n,k,rfl,_⟩:=h
  rfl
 ·obtain ⟨l,o,n,k,rfl,hl,ho,hn,q1,q2⟩:=h
  refine ⟨_,(zK (zW (ym (Zi (cl0 D_stands_at hr .nil rfl (za (pv 0) (za (pv 1) (za (pv 2) zc)))) (fun _=>rfl)))
    (zf (YF hx rfl T.xi.toXC hi hfn Fi hr Bi rfl T.g (za ze zc)))
    zy)
   (zf (zw (zD op_add_str (zD op_add_str (yL vC (pv 0) wC (yK (pv 1))) (pv 3)) (yL vC (pv 0) (yK (zD op_add (pv 1) (zn z9 rfl B.len PySem.boot_len (za (pv 2) zc)))) wC))))),?_⟩
  have s16:=yE
  rfl'
  refine qP hl ho ?_
  rfl'
  refine xn (fun hb=>⟨by omega,VX (q2 hb)⟩) fun hb=>?_
  have hb':zq l k o = true:=by simpa using hb
  obtain ⟨_,_,h0,h1⟩:=yz hb'
  have c1:=wJ l none (some k)
  have c2:=wJ l (some (k + ↑o.length)) none
  refine ⟨by omega,by omega,by omega,by omega,?_,?_⟩
  ·simp only [List.length_append]
   omega
  ·have e:cut l none (some k) ++ n ++ cut l (some (k + ↑o.length)) none = wA l k o n:=by
    rw [YJ _ h0,jo _ (by omega)]
    have:(k + (o.length:Int)).toNat = k.toNat + o.length:=by omega
    rw [this]
    rfl
   rw [e]
   exact q1 hb'
structure TOrd (K:PySem.W.Frag) (mg:Str -> Option Value) (CO CR CW:Addr):Prop where
 cO:Cls K CO
 cR:Cls K CR
 cW:Cls K CW
 gO:mg "Order" = some (.ref CO)
 gR:mg "FromRight" = some (.ref CR)
 gW:mg "ByWeights" = some (.ref CW)
 lO:NoAttr K CO "letters"
 lR:NoAttr K CR "letters"
 lW:NoAttr K CW "letters"
 wW:NoAttr K CW "weights"
def OrdAt (CO CR CW:Addr) (H:Hp) (o:Addr) (k:Nat) (l:List Nat) (ns:List Int):Prop:=∃ dx,(k = 0 /\ H o = some (.ins CO dx [("letters",.str (tx l))])) \/ (k = 1 /\ H o = some (.ins CR dx [("letters",.str (tx l))])) \/
 (k = 2 /\ ns.length = l.length /\ ∃ w,H o = some (.ins CW dx [("letters",.str (tx l)),("weights",.ref w)]) /\ H w = some (.tup (ns.map V.int)))
theorem OrdAt.same {CO CR CW:Addr} {H H':Hp} {o:Addr} {k:Nat} {l:List Nat} {ns:List Int} (h:OrdAt CO CR CW H o k l ns) (e:Same H H'):OrdAt CO CR CW H' o k l ns:=by
 obtain ⟨dx,⟨h1,h2⟩ | ⟨h1,h2⟩ | ⟨h1,h2,w,h3,h4⟩⟩:=h
 ·exact ⟨dx,.inl ⟨h1,e _ _ h2⟩⟩
 ·exact ⟨dx,.inr (.inl ⟨h1,e _ _ h2⟩)⟩
 ·exact ⟨dx,.inr (.inr ⟨h1,h2,w,e _ _ h3,e _ _ h4⟩)⟩
def Ye (l:List Nat) (ns:List Int) (w:List Nat):Int:=((l.zip ns).map fun p=>(w.count p.1:Int) * p.2).sum
def zl (k:Nat) (l:List Nat) (ns:List Int) (w:List Nat):Int:=if k = 2 then Ye l ns w else (w.length:Int)
def yg (k:Nat) (w:List Nat):List Nat:=if k = 1 then w.reverse else w
def vR (K:PySem.W.Frag):Sp:=fun vs H Q _=>∃ (x C dx:Addr) (l:List Nat),vs = [.ref x,.str (tx l)] /\ vK l = true /\ Cls K C /\ NoAttr K C "letters" /\ H x = some (.ins C dx []) /\ Q .non (upd H x (.ins C dx [("letters",.str (tx l))]))
theorem qU:zu ["self", "letters"] ["self", "letters"] (zb yx):=⟨rfl,rfl,rfl,by decide +kernel,rfl,by decide +kernel,by decide +kernel⟩
theorem xO {f:Addr} {fd:FuncData} (B:Bt mg)  (F:Fun K "__init__" "Order.__init__" yx f fd) (D_letters_of:Df P w K mg base (CXx P w) 2 "letters_of" ["text"] [] (xL C)):yk P w K mg base CX0 3 f fd ["self", "letters"] (vR K):=by
 refine F.ok qU (fun vs H Q E h=>?_) (fun cdv A outer s H vs Q E hr h=>?_)
 ·obtain ⟨x,C,dx,l,rfl,_⟩:=h
  rfl
 ·obtain ⟨x,C,dx,l,rfl,hg,hC,hN,hx,q⟩:=h
  refine ⟨_,(zf (Vl (pv 0) (clP xe0 D_letters_of hr .nil rfl (za (pv 1) zc)) rfl)),?_⟩
  have s16:=yE
  rfl'
  exact ⟨l,rfl,by have:=of_decide_eq_true hg; omega,fun _=>⟨_,_,_,hx,hC,hN,by decide,q⟩,fun e=>by rw [hg] at e; cases e⟩
def qN:Sp:=fun vs H Q _=>∃ (o:Addr) (w:List Nat),vs = [.ref o,.str (tx w)] /\ w.length <= 1000 /\ Q (.int (w.length:Nat)) H
theorem uR:zu ["self", "word"] ["self", "word"] (zb yb):=⟨rfl,rfl,rfl,by decide +kernel,rfl,by decide +kernel,by decide +kernel⟩
theorem xT {f:Addr} {fd:FuncData} (B:Bt mg)  (F:Fun K "weight" "Order.weight" yb f fd)  : yk P w K mg base CX0 1 f fd ["self", "word"] qN:=by
 refine F.ok uR (fun vs H Q E h=>?_) (fun cdv A outer s H vs Q E hr h=>?_)
 ·obtain ⟨o,w,rfl,_⟩:=h
  rfl
 ·obtain ⟨o,w,rfl,hw,q⟩:=h
  refine ⟨_,(zf (zw (zn z9 rfl B.len PySem.boot_len (za (pv 1) zc)))),?_⟩
  have s16:=yE
  rfl'
  exact ⟨by omega,q⟩
def ZC:Sp:=fun vs H Q _=>∃ (o:Addr) (w:List Nat),vs = [.ref o,.str (tx w)] /\ Q (.str (tx w)) H
theorem qL:zu ["self", "word"] ["self", "word"] (zb yt):=⟨rfl,rfl,rfl,by decide +kernel,rfl,by decide +kernel,by decide +kernel⟩
theorem wY {f:Addr} {fd:FuncData} (B:Bt mg)  (F:Fun K "seen" "Order.seen" yt f fd)  : yk P w K mg base CX0 1 f fd ["self", "word"] ZC:=by
 refine F.ok qL (fun vs H Q E h=>?_) (fun cdv A outer s H vs Q E hr h=>?_)
 ·obtain ⟨o,w,rfl,_⟩:=h
  rfl
 ·obtain ⟨o,w,rfl,q⟩:=h
  refine ⟨_,(zf (zw (pv 1))),?_⟩
  have s16:=yE
  rfl'
  exact q
def kF:Sp:=fun vs H Q _=>∃ (o:Addr) (w:List Nat),vs = [.ref o,.str (tx w)] /\ w.length <= 1000 /\ Q (.str (tx w.reverse)) H
theorem vo:zu ["self", "word"] ["self", "word"] (zb zU):=⟨rfl,rfl,rfl,by decide +kernel,rfl,by decide +kernel,by decide +kernel⟩
theorem vh {f:Addr} {fd:FuncData} (B:Bt mg)  (F:Fun K "seen" "FromRight.seen" zU f fd)  : yk P w K mg base CX0 1 f fd ["self", "word"] kF:=by
 refine F.ok vo (fun vs H Q E h=>?_) (fun cdv A outer s H vs Q E hr h=>?_)
 ·obtain ⟨o,w,rfl,_⟩:=h
  rfl
 ·obtain ⟨o,w,rfl,hw,q⟩:=h
  refine ⟨_,(zf (zw (Ut (pv 1) (JP Q6 ze)))),?_⟩
  have s16:=yE
  repeat (first | rfl' | simp only [yP,zB,zN,yR,yS,zA])
  exact ⟨by omega,q⟩
structure KB (K:PySem.W.Frag) (mg:Str -> Option Value) (C:Addr):Prop where
 xi:XI K C
 ini:PySem.W.findIn K (.ref C) "__init__" = some (some (.builtin "ValueError.__init__"))
 g:mg "NoOrder" = some (.ref C)
 most:∃ t,mg "MOST_WEIGHT" = some (.int 1000000 t)
abbrev DOI (P:Program) (w:World) (K:PySem.W.Frag) (mg:Str -> Option Value) (base:Heap) (CO:Addr):Prop:=DC P w K mg base CX0 3 CO "__init__" ["self", "letters"] (vR K)
def jm (K:PySem.W.Frag) (CW:Addr):Sp:=fun vs H Q _=>∃ (x dx a:Addr) (l:List Nat) (ns:List Int),vs = [.ref x,.str (tx l),.ref a] /\ vK l = true /\ SqL K H a (ns.map V.int) /\ ns.length = l.length /\ (∀ n ∈ ns,1 <= n /\ n <= 1000000) /\ H x = some (.ins CW dx []) /\
 ∀ w H',H w = none -> w ≠ x -> (∀ b o,b ≠ x -> H b = some o -> H' b = some o) -> H' w = some (.tup (ns.map V.int)) -> H' x = some (.ins CW dx [("letters",.str (tx l)),("weights",.ref w)]) -> Q .non H'
theorem sc_byweights_init:zu ["self", "letters", "weights", "weight"] ["self", "letters", "weights"] (zb zS):=⟨rfl,rfl,rfl,by decide +kernel,rfl,by decide +kernel,by decide +kernel⟩
theorem vp {f CO CR CW CN:Addr} {fd:FuncData} (B:Bt mg) (T:TOrd K mg CO CR CW) (TN:KB K mg CN) (DI:DOI P w K mg base CO) (F:Fun K "__init__" "ByWeights.__init__" zS f fd)  : yk P w K mg base (CXx P w) 4 f fd ["self", "letters", "weights"] (jm K CW):=by
 obtain ⟨t6,g6⟩:=TN.most
 refine Fun.okX F sc_byweights_init (fun vs H Q E h=>?_) (fun cdv A outer s H vs Q E hr hx h=>?_)
 ·obtain ⟨x,dx,a,l,ns,rfl,_⟩:=h
  rfl
 ·obtain ⟨x,dx,a,l,ns,rfl,hg,hS,hl,hb,hX,q⟩:=h
  refine ⟨_,(zj (xu (V6 DI hr rfl T.gO (za (pv 0) (za (pv 1) zc))))
   (zj (zW (zC ZE (zn z9 rfl B.len PySem.boot_len (za (pv 2) zc)) (zn z9 rfl B.len PySem.boot_len (za (pv 1) zc)) (zJ _))
    (zf (yA hx rfl TN.xi.toXC TN.ini rfl TN.g (za yY zc)))
    zy)
   (zj (yD PassesOwn.leaving rfl (yG (pv 2)) (zx (i:=3) sc_byweights_init.nd rfl (Or.inl rfl))
    (zf (zW (ym (je wL wL ze (pv 3) (xP (v:=.int 1000000) rfl g6 ⟨t6,rfl⟩)))
     (zf (yA hx rfl TN.xi.toXC TN.ini rfl TN.g (za yY zc)))
     zy)))
   (zf (Vl (pv 0) (wZ qF rfl B.tuple PySem.Pv.boot_tuple (za (pv 2) zc)) rfl))))),?_⟩
  have s16:=yE
  have hbx:∀ b o,b ≠ x -> H b = some o -> upd H x (.ins CW dx [("letters",.str (tx l))]) b = some o:=fun b o hb e=>by rw [zp hb]; exact e
  have hS1:SqL K (upd H x (.ins CW dx [("letters",.str (tx l))])) a (ns.map V.int):=by
   rcases hS with (h | ⟨o,h⟩) | h
   ·exact .inl (.inl (hbx _ _ (fun e=>by rw [e,hX] at h; cases h) h))
   ·exact .inl (.inr ⟨o,hbx _ _ (fun e=>by rw [e,hX] at h; cases h) h⟩)
   ·exact .inr h
  refine zk (fun σ H'=>H' = upd H x (.ins CW dx [("letters",.str (tx l))]) /\ σ = [some (.ref x),some (.str (tx l)),some (.ref a),none]) ?_ ?_
  ·repeat (first | rfl' | simp only [yP,zB,zN,yR,yS,zA])
   exact ⟨x,CW,dx,l,rfl,hg,T.cW,T.lW,hX,rfl⟩
  rintro σ H1 ⟨rfl,rfl⟩
  refine zk (fun σ H'=>H' = upd H x (.ins CW dx [("letters",.str (tx l))]) /\ σ = [some (.ref x),some (.str (tx l)),some (.ref a),none]) ?_ ?_
  ·have hl6:l.length <= 6:=by have:=of_decide_eq_true hg; omega
   repeat (first | rfl' | simp only [yP,zB,zN,yR,yS,zA])
   refine ⟨ns.length,.inl ⟨_,hS1,by rw [List.length_map]⟩,by omega,xn (fun h=>absurd (by omega) h) fun _=>trivial⟩
  rintro σ H1 ⟨rfl,rfl⟩
  refine zk (fun σ H'=>H' = upd H x (.ins CW dx [("letters",.str (tx l))]) /\ ∃ v3,σ = [some (.ref x),some (.str (tx l)),some (.ref a),v3]) ?_ ?_
  ·repeat (first | rfl' | simp only [yP,zB,zN,yR,yS,zA])
   refine ⟨⟨_,hS1⟩,ForL.by (xs:=ns.map V.int) (fun i σ H'=>H' = upd H x (.ins CW dx [("letters",.str (tx l))]) /\ ∃ v3,σ = [some (.ref x),some (.str (tx l)),some (.ref a),v3]) ⟨rfl,none,rfl⟩ (fun i σ H' _ h=>by rw [h.1]; exact hS1) ?_ fun σ H' h=>h⟩
   rintro i y σ H' hy ⟨rfl,v3,rfl⟩
   rw [List.getElem?_map] at hy
   obtain ⟨n,hn,rfl⟩:=Option.map_eq_some_iff.mp hy
   obtain ⟨n1,n2⟩:=hb n (List.mem_of_getElem? hn)
   repeat (first | rfl' | simp only [yP,zB,zN,yR,yS,zA])
   exact xn (fun _=>xn (fun h=>absurd n2 h) fun _=>trivial) fun h=>absurd n1 h
  rintro σ H1 ⟨rfl,v3,rfl⟩
  repeat (first | rfl' | simp only [yP,zB,zN,yR,yS,zA])
  refine ⟨_,.inl ⟨hS1,fun w hw=>?_⟩⟩
  have hwx:w ≠ x:=fun e=>by rw [e,zd] at hw; cases hw
  have hwH:H w = none:=by rw [zp hwx] at hw; exact hw
  have hX2:=zg (o:=.tup (ns.map V.int)) hw _ _ (zd (H:=H) (a:=x) (o:=.ins CW dx [("letters",.str (tx l))]))
  refine ⟨_,_,_,hX2,T.cW,T.wW,by show 1 < 1000; decide,q w _ hwH hwx (fun b o hb' e=>?_) ?_ zd⟩
  ·rw [zp hb']
   exact zg hw _ _ (hbx b o hb' e)
  ·rw [zp hwx]
   exact zd
theorem QO {x y:V} {r:L2.St}:xt (none :: none :: r) (some x :: some y :: r):=⟨rfl,fun i v h=>by
 cases i with
 | zero=>cases h
 | succ i =>
  cases i with
  | zero=>cases h
  | succ i=>exact h⟩
def kj (CW:Addr):Sp:=fun vs H Q _=>∃ (o dx t:Addr) (w l:List Nat) (ns:List Int),vs = [.ref o,.str (tx w)] /\ w.length <= 1000 /\ l.length <= 6 /\ ns.length = l.length /\ (∀ n ∈ ns,1 <= n /\ n <= 1000000) /\ H o = some (.ins CW dx [("letters",.str (tx l)),("weights",.ref t)]) /\ H t = some (.tup (ns.map V.int)) /\ ∀ H',Same H H' -> Q (.int (Ye l ns w)) H'
theorem wG:zu ["self", "word"] ["self", "word"] (zb zI):=⟨rfl,rfl,rfl,by decide +kernel,rfl,by decide +kernel,by decide +kernel⟩
theorem wF {f CO CR CW:Addr} {fd:FuncData} (B:Bt mg) (T:TOrd K mg CO CR CW) (F:Fun K "weight" "ByWeights.weight" zI f fd)  : yk P w K mg base CX0 1 f fd ["self", "word"] (kj CW):=by
 refine F.ok wG (fun vs H Q E h=>?_) (fun cdv A outer s H vs Q E hr h=>?_)
 ·obtain ⟨o,dx,t,w,l,ns,rfl,_⟩:=h
  rfl
 ·obtain ⟨o,dx,t,w,l,ns,rfl,hw,hl,hn,hb,ho,ht,q⟩:=h
  refine ⟨_,(zf (zw (zn (Qy rfl) rfl B.sum PyProof.Rows.boot_sum (za (yF (g:=JR K 2 (WM (xR 0) (WM (xR 1) Kf))) (own:=["letter", "weight"]) (caps:=["word"]) (ix:=[1]) (tt:=wq) (te:=(tOp Uw (tBM K "str" Xh (yN 2) (zV (yN 0) wB)) (yN 1))) rfl (zR (sc:=zb zI) rfl (by decide +kernel) (by decide +kernel) (by decide +kernel) rfl (by decide +kernel) (by decide +kernel) rfl) (QN rfl B.zip (za (YV (pv 0) rfl) (za (YV (pv 0) rfl) zc))) (fun _ _ _ _ _ _=>ud (n:=2) rfl (zZ (zx (i:=0) (show List.Nodup [_,_,_] by decide) rfl (Or.inl rfl)) (zZ (zx (i:=1) (show List.Nodup [_,_,_] by decide) rfl (Or.inl rfl)) wI))) (fun _ _ _ _ _ _=>yy) (fun _ _ _ _ _ _=>(zD V1 (wD PySem.F.plainAttrs_str PySem.F.slot_str_count PySem.F.type_str_count Xb (pv 2) (za (pv 0) zc)) (pv 1)))) zc)))),?_⟩
  have s16:=yE
  repeat (first | rfl' | simp only [yP,zB,zN,yR,yS,zA])
  refine ⟨_,_,_,ho,T.cW,T.lW,_,rfl,_,_,_,ho,T.cW,T.wW,_,rfl,l,rfl,t,rfl,⟨_,SqT.of ht⟩,fun D hD=>CompZ.by (ys:=ns.map V.int) (fun i acc H'=>Same H H' /\ H' D = some (.lst acc) /\ acc = ((((l.zip ns).map fun p=>(w.count p.1:Int) * p.2).take i).map V.int)) (by rw [List.length_map]; omega) ⟨zg hD,zd,rfl⟩ (fun i acc H' _ h=>SqT.of (h.1 _ _ ht)) ?_ ?_⟩
  ·rintro i c y acc H' p hc hy ⟨hs,hH,rfl⟩ hp
   have hi:=(List.getElem?_eq_some_iff.mp hc).1
   rw [List.getElem?_map] at hy
   obtain ⟨n,hn',rfl⟩:=Option.map_eq_some_iff.mp hy
   have hz:((l.zip ns).map fun p=>(w.count p.1:Int) * p.2)[i]? = some ((w.count c:Int) * n):=by
    rw [List.getElem?_map,(List.getElem?_zip_eq_some (z:=(c,n))).mpr ⟨hc,hn'⟩]
    rfl
   obtain ⟨n1,n2⟩:=hb n (List.mem_of_getElem? hn')
   have hcl:w.count c <= w.length:=List.count_le_length
   have hcn:(w.count c:Int) * n = (w.count c:Int) * n:=rfl
   simp only [wq]
   repeat (first | rfl' | simp only [yP,zB,zN,yR,yS,zA])
   refine ⟨_,SqT.of zd,rfl,_,_,rfl,_,_,rfl,rfl,QO,_,rfl,_,rfl,?_,zg hp _ _ hH,by rw [List.length_map,List.length_take]; omega,?_⟩
   ·exact .inr ⟨by omega,by omega⟩
   ·rw [YT]
    refine CNx.mk hi ⟨zF (hs.trans (zg hp)) hD,zd,?_⟩
    rw [z6 hz,List.map_append]
    rfl
  ·rintro acc H' ⟨hs,hH,rfl⟩
   have e:l.length = ((l.zip ns).map fun p=>(w.count p.1:Int) * p.2).length:=by rw [List.length_map,List.length_zip]; omega
   refine ⟨D,rfl,_,SqL.of hH,?_⟩
   rw [e,List.take_length]
   exact q _ hs
theorem JK (l:List Nat) (c e:Nat):StrLaws.At (tx l) (tx [c]) (tx l).length e ↔ l[e]? = some c:=by
 unfold StrLaws.At Builtin.Str.subAt
 rw [yf,yf]
 have h1:[c].length = 1:=rfl
 rw [h1,beq_iff_eq]
 have e1:((tx l).cps.extract e (e + 1)).toList = (l.drop e).take 1:=by
  show (l.toArray.extract e (e + 1)).toList = _
  simp [List.extract_eq_drop_take]
 have e2:((tx l).cps.extract e (e + 1) = (tx [c]).cps) ↔ (l.drop e).take 1 = [c]:=by
  constructor
  ·intro h
   rw [<- e1,h]
  ·intro h
   apply Array.toList_inj.mp
   rw [e1,h]
 constructor
 ·rintro ⟨h2,h3⟩
  have:=e2.mp h3
  rw [List.drop_eq_getElem_cons (by omega),List.take_succ_cons,List.take_zero] at this
  rw [List.getElem?_eq_getElem (by omega)]
  injection this with h _
  rw [h]
 ·intro h
  obtain ⟨he,hx⟩:=List.getElem?_eq_some_iff.mp h
  refine ⟨by omega,e2.mpr ?_⟩
  rw [List.drop_eq_getElem_cons he,List.take_succ_cons,List.take_zero,hx]
theorem Xc {l:List Nat} {c:Nat} (h:c ∈ l):Txt.find (tx l) (tx [c]) = ((l.idxOf c:Nat):Int):=by
 have hlt:=List.idxOf_lt_length_of_mem h
 have hg:l[l.idxOf c]? = some c:=by rw [List.getElem?_eq_getElem hlt,List.getElem_idxOf]
 rcases PyProof.Rows.find_whole (tx l) (tx [c]) with ⟨h1,h2⟩ | ⟨e,h1,h2,h3⟩
 ·exact absurd ((JK l c _).mpr hg) (h2 _)
 ·have he:=(JK l c e).mp h2
  have:e = l.idxOf c:=by
   rcases Nat.lt_trichotomy e (l.idxOf c) with q | q | q
   ·have:=List.not_of_lt_findIdx (p:=(· == c)) q
    obtain ⟨h4,h5⟩:=List.getElem?_eq_some_iff.mp he
    simp [h5] at this
   ·exact q
   ·exact absurd ((JK l c _).mpr hg) (h3 _ q)
  rw [h1,this]
abbrev MkO (P:Program) (w:World) (K:PySem.W.Frag) (mg:Str -> Option Value) (base:Heap) (C:Addr):Prop:=DMk P w K mg base CX0 3 C ["self", "letters"] (vR K)
abbrev MkW (P:Program) (w:World) (K:PySem.W.Frag) (mg:Str -> Option Value) (base:Heap) (C:Addr):Prop:=DMk P w K mg base (CXx P w) 4 C ["self", "letters", "weights"] (jm K C)
abbrev MW (P:Program) (w:World) (K:PySem.W.Frag) (mg:Str -> Option Value) (base:Heap) (C:Addr) (m:Str) (sp:Sp):Prop:=DM P w K mg base CX0 1 C m ["self", "word"] sp
structure TWS (P:Program) (w:World) (K:PySem.W.Frag) (mg:Str -> Option Value) (base:Heap) (CO CR CW:Addr):Prop extends TOrd K mg CO CR CW where
 mO:MkO P w K mg base CO
 mR:MkO P w K mg base CR
 mW:MkW P w K mg base CW
 wO:MW P w K mg base CO "weight" qN
 wR:MW P w K mg base CR "weight" qN
 wW':MW P w K mg base CW "weight" (kj CW)
 sO:MW P w K mg base CO "seen" ZC
 sR:MW P w K mg base CR "seen" kF
 sW:MW P w K mg base CW "seen" ZC
structure OG (l:List Nat) (ns:List Int) (k:Nat):Prop where
 g:vK l = true
 k3:k < 3
 nl:ns.length = l.length
 nb:∀ n ∈ ns,1 <= n /\ n <= 1000000
def vO (l:List Nat) (w:List Nat):List Int:=w.map fun c=>((l.idxOf c:Nat):Int)
def wk (k:Nat) (l:List Nat) (w:List Nat):List Int:=vO l (yg k w)
def Ju (CO CR CW:Addr):Addr -> Prop:=fun C=>C = CO \/ C = CR \/ C = CW
theorem OrdAt.fam {CO CR CW:Addr} {H:Hp} {o:Addr} {k:Nat} {l:List Nat} {ns:List Int} (h:OrdAt CO CR CW H o k l ns):∃ C dx fs,Ju CO CR CW C /\ H o = some (.ins C dx fs) /\ (∀ m:Str,m ≠ "letters" -> m ≠ "weights" -> fs.lookup m = none) /\ fs.lookup ("letters" : Str) = some (V.str (tx l)):=by
 have e1:∀ m:Str,m ≠ "letters" -> (m == ("letters" : Str)) = false:=fun m hm=>by simpa using hm
 have e2:∀ m:Str,m ≠ "weights" -> (m == ("weights" : Str)) = false:=fun m hm=>by simpa using hm
 obtain ⟨dx,⟨h1,h2⟩ | ⟨h1,h2⟩ | ⟨h1,h2,w,h3,h4⟩⟩:=h
 ·exact ⟨_,_,_,.inl rfl,h2,fun m hm _=>by simp [List.lookup,e1 m hm],rfl⟩
 ·exact ⟨_,_,_,.inr (.inl rfl),h2,fun m hm _=>by simp [List.lookup,e1 m hm],rfl⟩
 ·exact ⟨_,_,_,.inr (.inr rfl),h3,fun m hm hm2=>by simp [List.lookup,e1 m hm,e2 m hm2],rfl⟩
def uE (CO CR CW:Addr):Sp:=fun vs H Q _=>∃ (o:Addr) (k:Nat) (l:List Nat) (ns:List Int) (w:List Nat),vs = [.ref o,.str (tx w)] /\ OrdAt CO CR CW H o k l ns /\ OG l ns k /\ w.length <= 1000 /\ (∀ c ∈ w,c ∈ l) /\ ∀ (p q:Addr) (H':Hp),Same H H' -> H' p = some (.tup [.int (zl k l ns w),.ref q]) -> H' q = some (.lst ((wk k l w).map V.int)) -> Q (.ref p) H'
theorem WT {H:Hp} {CO CR CW o D:Addr} {k:Nat} {l:List Nat} {ns:List Int} {v:List Nat} {a1:Option V} {Q:VK} (T:TOrd K mg CO CR CW) (ho:OrdAt CO CR CW H o k l ns) (hl:v.length <= 1000) (hm:∀ c ∈ v,c ∈ l) (hD:H D = none) (q:∀ H',Same H H' -> H' D = some (.lst ((vO l v).map V.int)) -> Q (.ref D) H') :
  CompS (tx v) (xR 0) wq (tBM K "str" zA (Ql K (yN 1) "letters") (zV (yN 0) wB)) 1 [0] [some (.ref o),a1] H Q D:=by
 have s16:=yE
 refine CompS.by (fun i acc H'=>Same H H' /\ H' D = some (.lst acc) /\ acc = (vO l (v.take i)).map V.int) ⟨zg hD,zd,rfl⟩ ?_ ?_
 ·rintro i c acc H' hc ⟨hs,hH,rfl⟩
  have hci:=(List.getElem?_eq_some_iff.mp hc).1
  have hcl:=hm c (List.mem_of_getElem? hc)
  obtain ⟨C,dx,fs,hf,ho',_,hlk⟩:=(ho.same hs).fam
  have hC:Cls K C /\ NoAttr K C "letters":=by
   rcases hf with rfl | rfl | rfl
   ·exact ⟨T.cO,T.lO⟩
   ·exact ⟨T.cR,T.lR⟩
   ·exact ⟨T.cW,T.lW⟩
  simp only [wq]
  repeat (first | rfl' | simp only [yP,zB,zN,yR,yS,zA])
  refine ⟨xh,_,_,_,ho',hC.1,hC.2,_,hlk,trivial,_,rfl,_,Xc hcl,hH,by rw [List.length_map]; unfold vO; rw [List.length_map,List.length_take]; omega,CNx.mk hci ⟨zF hs hD,zd,?_⟩⟩
  unfold vO
  rw [z6 hc,List.map_append,List.map_append]
  rfl
 ·rintro acc H' ⟨hs,hH,rfl⟩
  rw [List.take_length] at hH
  exact q H' hs hH
theorem qJ:zu ["self", "word"] ["self", "word"] (zb ye):=⟨rfl,rfl,rfl,by decide +kernel,rfl,by decide +kernel,by decide +kernel⟩
theorem xM {f CO CR CW:Addr} {fd:FuncData} (B:Bt mg) (T:TWS P w K mg base CO CR CW) (F:Fun K "rank" "Order.rank" ye f fd)  : yk P w K mg base CX0 2 f fd ["self", "word"] (uE CO CR CW):=by
 refine F.ok qJ (fun vs H Q E h=>?_) (fun cdv A outer s H vs Q E hr h=>?_)
 ·obtain ⟨o,k,l,ns,w,rfl,_⟩:=h
  rfl
 ·obtain ⟨o,k,l,ns,w,rfl,ho,hG,hw,hm,q⟩:=h
  refine ⟨_,(zf (zw (yl (za (Q0 T.wO T.wR T.wW' T.cO T.cR T.cW hr (pv 0) (za (pv 1) zc)) (za (yF (own:=["letter"]) (caps:=["self"]) (ix:=[0]) (tt:=wq) (te:=(tBM K "str" zA (Ql K (yN 1) "letters") (zV (yN 0) wB))) rfl (zR (sc:=zb ye) rfl (by decide +kernel) (by decide +kernel) (by decide +kernel) rfl (by decide +kernel) (by decide +kernel) rfl) (jN (Q0 T.sO T.sR T.sW T.cO T.cR T.cW hr (pv 0) (za (pv 1) zc))) (fun _ _ _ _ _ _=>zx (i:=0) (show List.Nodup [_,_] by decide) rfl (Or.inl rfl)) (fun _ _ _ _ _ _=>yy) (fun _ _ _ _ _ _=>(wD PySem.F.plainAttrs_str PySem.F.slot_str_index PySem.F.type_str_index Uj (YV (pv 1) rfl) (za (pv 0) zc)))) zc))))),?_⟩
  have s16:=yE
  have hsl:(yg k w).length <= 1000:=by
   unfold yg
   split
   ·rw [List.length_reverse]
    exact hw
   ·exact hw
  have hsm:∀ c ∈ yg k w,c ∈ l:=fun c hc=>by
   unfold yg at hc
   split at hc
   ·exact hm c (List.mem_reverse.mp hc)
   ·exact hm c hc
  have l6:l.length <= 6:=(of_decide_eq_true hG.g).2.1
  have fin:∀ H1,Same H H1 -> ∀ D,H1 D = none -> CompS (tx (yg k w)) (xR 0) wq (tBM K "str" zA (Ql K (yN 1) "letters") (zV (yN 0) wB)) 1 [0] [some (.ref o),some (.str (tx w))] H1 (fun x5 H1=>2 <= sizeLine /\ ∀ p,H1 p = none -> Q (.ref p) (upd H1 p (.tup [.int (zl k l ns w),x5]))) D:=fun H1 s1 D hD=>WT T.toTOrd (ho.same s1) hsl hsm hD fun H' s' hH=>⟨by omega,fun p hp=>q p D _ (s1.trans (s'.trans (zg hp))) zd (zg hp _ _ hH)⟩
  repeat (first | rfl' | simp only [yP,zB,zN,yR,yS,zA])
  obtain ⟨dx',⟨h1,h2⟩ | ⟨h1,h2⟩ | ⟨h1,h2,t',h3,h4⟩⟩:=id ho
  ·have e1:zl k l ns w = (w.length:Int):=by unfold zl; rw [if_neg (by omega)]
   have e2:yg k w = w:=by unfold yg; rw [if_neg (by omega)]
   rw [e1,e2] at fin
   exact .inl ⟨_,_,h2,rfl,o,w,rfl,hw,.inl ⟨_,_,h2,rfl,o,w,rfl,_,rfl,fin H (Same.refl _)⟩⟩
  ·have e1:zl k l ns w = (w.length:Int):=by unfold zl; rw [if_neg (by omega)]
   have e2:yg k w = w.reverse:=by unfold yg; rw [if_pos h1]
   rw [e1,e2] at fin
   exact .inr (.inl ⟨_,_,h2,rfl,o,w,rfl,hw,.inr (.inl ⟨_,_,h2,rfl,o,w,rfl,hw,_,rfl,fin H (Same.refl _)⟩)⟩)
  ·have e1:zl k l ns w = Ye l ns w:=by unfold zl; rw [if_pos h1]
   have e2:yg k w = w:=by unfold yg; rw [if_neg (by omega)]
   rw [e1,e2] at fin
   exact .inr (.inr ⟨_,_,h3,rfl,o,dx',t',w,l,ns,rfl,hw,l6,hG.nl,hG.nb,h3,h4,fun H' s'=>.inr (.inr ⟨_,_,s' _ _ h3,rfl,o,w,rfl,_,rfl,fin H' s'⟩)⟩)
def zQ (k:Nat) (l:List Nat) (ns:List Int) (u v:List Nat):Bool:=if zl k l ns u = zl k l ns v then ltI (wk k l u) (wk k l v) else decide (zl k l ns u < zl k l ns v)
abbrev DR (P:Program) (w:World) (K:PySem.W.Frag) (mg:Str -> Option Value) (base:Heap) (CO CR CW:Addr):Prop:=DMF P w K mg base CX0 2 (Ju CO CR CW) "rank" ["self", "word"] (fun _=>uE CO CR CW)
theorem vn {H:Hp} {p q:Addr} {z:Int} {ns:List Int} (hp:H p = some (.tup [.int z,.ref q])) (hq:H q = some (.lst (ns.map V.int))):Is K H (.tup [.int z,.lst (ns.map L3.D.int)]) (.ref p):=by
 simp only [Is,Iss]
 exact ⟨p,_,rfl,SqT.of hp,_,_,rfl,rfl,_,_,rfl,⟨q,_,rfl,SqL.of hq,Iss.ints ns⟩,rfl⟩
theorem yT:∀ x:List Int,ltI x x = false
 | []=>rfl
 | a :: x=>by
  rw [ltI,if_pos rfl]
  exact yT x
theorem kn (a b:Int) (x y:List Int):ltD (.tup [.int a,.lst (x.map L3.D.int)]) (.tup [.int b,.lst (y.map L3.D.int)]) = if a = b then ltI x y else decide (a < b):=by
 simp only [ltD,vj,eqD,jw,jS]
 by_cases h:a = b
 ·subst h
  by_cases h2:x = y
  ·subst h2
   simp [yT]
  ·simp [h2]
 ·simp [h]
def Y0 (CO CR CW:Addr):Sp:=fun vs H Q _=>∃ (o:Addr) (k:Nat) (l:List Nat) (ns:List Int) (u v:List Nat),vs = [.ref o,.str (tx u),.str (tx v)] /\ OrdAt CO CR CW H o k l ns /\ OG l ns k /\ u.length <= 1000 /\ v.length <= 1000 /\ (∀ c ∈ u,c ∈ l) /\ (∀ c ∈ v,c ∈ l) /\ ∀ H':Hp,Same H H' -> Q (.bl (zQ k l ns u v)) H'
theorem uL:zu ["self", "one", "other"] ["self", "one", "other"] (zb yd):=⟨rfl,rfl,rfl,by decide +kernel,rfl,by decide +kernel,by decide +kernel⟩
theorem yX {f CO CR CW:Addr} {fd:FuncData} (B:Bt mg) (DRk:DR P w K mg base CO CR CW) (F:Fun K "before" "Order.before" yd f fd)  : yk P w K mg base CX0 3 f fd ["self", "one", "other"] (Y0 CO CR CW):=by
 refine F.ok uL (fun vs H Q E h=>?_) (fun cdv A outer s H vs Q E hr h=>?_)
 ·obtain ⟨o,k,l,ns,u,v,rfl,_⟩:=h
  rfl
 ·obtain ⟨o,k,l,ns,u,v,rfl,ho,hG,hu,hv,hmu,hmv,q⟩:=h
  refine ⟨_,(zf (zw (jk (XD (uV hr)) (Jk DRk hr (pv 0) (za (pv 1) zc)) (Jk DRk hr (pv 0) (za (pv 2) zc)) (zJ _)))),?_⟩
  have s16:=yE
  repeat (first | rfl' | simp only [yP,zB,zN,yR,yS,zA])
  obtain ⟨C,dx,fs,hf,ho1,hn,_⟩:=ho.fam
  have h1:fs.lookup ("rank" : Str) = none:=hn _ (by decide) (by decide)
  refine ⟨C,hf,dx,fs,ho1,h1,o,k,l,ns,u,rfl,ho,hG,hu,hmu,fun p x H1 s1 hp hx=>⟨C,hf,dx,fs,s1 _ _ ho1,h1,o,k,l,ns,v,rfl,ho.same s1,hG,hv,hmv,fun p' x' H2 s2 hp' hx'=>?_⟩⟩
  refine X5 (vn (s2 _ _ hp) (s2 _ _ hx)) (vn hp' hx') (by simp only [dpD,wz,jg]; decide) (by simp only [okD,qb]; exact ⟨trivial,vc _ _,trivial⟩) ?_
  rw [kn]
  exact q H2 (s1.trans s2)
abbrev DB (P:Program) (w:World) (K:PySem.W.Frag) (mg:Str -> Option Value) (base:Heap) (CO CR CW:Addr):Prop:=DMF P w K mg base CX0 3 (Ju CO CR CW) "before" ["self", "one", "other"] (fun _=>Y0 CO CR CW)
def Wb (k:Int) (ls:List Nat) (ns:List Int) (w:List Nat):Int:=(w.map fun c=>if k = 2 then ns.getD (ls.idxOf c) 0 else 1).sum
theorem Wh {k:Int} {ls:List Nat} {ns:List Int} {w:List Nat} (h:k ≠ 2):Wb k ls ns w = (w.length:Int):=by
 unfold Wb
 induction w with
 | nil=>rfl
 | cons c w ih =>
  rw [List.map_cons,List.sum_cons,ih,if_neg h,List.length_cons]
  omega
theorem ui {ls:List Nat} {ns:List Int} (f g:Nat -> Int):((ls.zip ns).map fun p=>(f p.1 + g p.1) * p.2).sum = ((ls.zip ns).map fun p=>f p.1 * p.2).sum + ((ls.zip ns).map fun p=>g p.1 * p.2).sum:=by
 induction ls.zip ns with
 | nil=>rfl
 | cons p r ih =>
  rw [List.map_cons,List.map_cons,List.map_cons,List.sum_cons,List.sum_cons,List.sum_cons,ih,Int.add_mul]
  omega
theorem YC:∀ {ls:List Nat} {ns:List Int} {c:Nat},ls.Nodup -> ns.length = ls.length -> c ∈ ls -> ((ls.zip ns).map fun p=>(if p.1 = c then (1:Int) else 0) * p.2).sum = ns.getD (ls.idxOf c) 0
 | [],ns,c,_,_,hc=>(nomatch hc)
 | d :: ls,[],c,_,hl,_=>by cases hl
 | d :: ls,n :: ns,c,hn,hl,hc=>by
  rw [List.zip_cons_cons,List.map_cons,List.sum_cons]
  have hnd:=List.nodup_cons.mp hn
  by_cases h:d = c
  ·subst h
   have h0:∀ (l:List Nat) (m:List Int),d ∉ l -> ((l.zip m).map fun p=>(if p.1 = d then (1:Int) else 0) * p.2).sum = 0:=by
    intro l
    induction l with
    | nil=>intro m _; rfl
    | cons x l ih =>
     intro m hx
     cases m with
     | nil=>rfl
     | cons y m =>
      rw [List.zip_cons_cons,List.map_cons,List.sum_cons,ih m (fun q=>hx (List.mem_cons_of_mem _ q)),if_neg (show ¬ x = d from fun e=>hx (by rw [e]; exact List.mem_cons_self))]
      omega
   rw [h0 ls ns hnd.1,if_pos rfl,List.idxOf_cons_self]
   simp
  ·have hc':c ∈ ls:=by
    rcases List.mem_cons.mp hc with e | e
    ·exact absurd e.symm h
    ·exact e
   rw [YC hnd.2 (by simpa using hl) hc',if_neg h,List.idxOf_cons,show (d == c) = false by simpa using h]
   simp
theorem jn {ls:List Nat} {ns:List Int} (hn:ls.Nodup) (hl:ns.length = ls.length):∀ {w:List Nat},(∀ x ∈ w,x ∈ ls) -> Wb 2 ls ns w = Ye ls ns w
 | [],_=>by
  have h0:∀ r:List (Nat × Int),(r.map fun p=>((([]:List Nat).count p.1:Nat):Int) * p.2).sum = 0:=by
   intro r
   induction r with
   | nil=>rfl
   | cons p r ih=>rw [List.map_cons,List.sum_cons,ih]; simp
  exact (h0 _).symm
 | c :: w,h=>by
  have ih:=jn hn hl (w:=w) fun x hx=>h x (List.mem_cons_of_mem _ hx)
  have e1:Wb 2 ls ns (c :: w) = ns.getD (ls.idxOf c) 0 + Wb 2 ls ns w:=by
   unfold Wb
   rw [List.map_cons,List.sum_cons,if_pos rfl]
  rw [e1,ih,<- YC hn hl (h c List.mem_cons_self)]
  unfold Ye
  rw [<- ui (fun x=>if x = c then 1 else 0) (fun x=>(w.count x:Int))]
  refine congrArg List.sum (List.map_congr_left fun p _=>?_)
  rw [List.count_cons]
  by_cases e:c = p.1
  ·rw [if_pos e.symm,if_pos (by simpa using e)]
   simp [Int.add_comm]
  ·rw [if_neg (fun z=>e z.symm),if_neg (by simpa using e)]
   simp
def wt (k:Nat) (ns:List Int) (i:Int):Int:=if k = 2 then ns.getD i.toNat 0 else 1
theorem xI {g:Int -> Int}:∀ {x:List Int},(∀ i ∈ x,0 < g i) -> 0 <= (x.map g).sum
 | [],_=>by simp
 | a :: x,h=>by
  have h1:=h a List.mem_cons_self
  have h2:=xI (x:=x) fun i hi=>h i (List.mem_cons_of_mem _ hi)
  rw [List.map_cons,List.sum_cons]
  omega
theorem xS:∀ {x y:List Int},x ≠ y -> ltI x y = !ltI y x
 | [],[],h=>absurd rfl h
 | [],_ :: _,_=>rfl
 | _ :: _,[],_=>rfl
 | a :: x,b :: y,h=>by
  rw [ltI,ltI]
  by_cases e:a = b
  ·rw [if_pos e,if_pos e.symm]
   exact xS fun q=>h (by rw [e,q])
  ·rw [if_neg e,if_neg fun q=>e q.symm]
   by_cases c:a < b
   ·rw [decide_eq_true c,decide_eq_false (by omega)]
    rfl
   ·rw [decide_eq_false c,decide_eq_true (by omega)]
    rfl
theorem uQ:∀ {x y z:List Int},ltI x y = true -> ltI y z = true -> ltI x z = true
 | [],[],_,h,_=>by cases h
 | [],_ :: _,[],_,h=>by cases h
 | [],_ :: _,_ :: _,_,_=>rfl
 | _ :: _,[],_,h,_=>by cases h
 | _ :: _,_ :: _,[],_,h=>by cases h
 | a :: x,b :: y,c :: z,h1,h2=>by
  rw [ltI] at h1 h2 ⊢
  by_cases e:a = b
  ·subst e
   rw [if_pos rfl] at h1
   by_cases f:a = c
   ·rw [if_pos f] at h2 ⊢
    exact uQ h1 h2
   ·rw [if_neg f] at h2 ⊢
    exact h2
  ·rw [if_neg e] at h1
   have h1':=of_decide_eq_true h1
   by_cases f:b = c
   ·subst f
    rw [if_neg e]
    exact h1
   ·rw [if_neg f] at h2
    have h2':=of_decide_eq_true h2
    rw [if_neg (by omega)]
    exact decide_eq_true (by omega)
theorem kd:∀ (c x y:List Int),ltI (c ++ x) (c ++ y) = ltI x y
 | [],_,_=>rfl
 | a :: c,x,y=>by
  rw [List.cons_append,List.cons_append,ltI,if_pos rfl]
  exact kd c x y
theorem Zf {g:Int -> Int} {c:List Int}:∀ {x y:List Int},(∀ i ∈ x,0 < g i) -> (∀ i ∈ y,0 < g i) -> (x.map g).sum = (y.map g).sum -> ltI (x ++ c) (y ++ c) = ltI x y
 | [],[],_,_,_=>yT c
 | [],b :: y,_,hy,h=>by
  have h1:=hy b List.mem_cons_self
  have h2:=xI (x:=y) fun i hi=>hy i (List.mem_cons_of_mem _ hi)
  rw [List.map_cons,List.sum_cons,List.map_nil,List.sum_nil] at h
  omega
 | a :: x,[],hx,_,h=>by
  have h1:=hx a List.mem_cons_self
  have h2:=xI (x:=x) fun i hi=>hx i (List.mem_cons_of_mem _ hi)
  rw [List.map_cons,List.sum_cons,List.map_nil,List.sum_nil] at h
  omega
 | a :: x,b :: y,hx,hy,h=>by
  rw [List.cons_append,List.cons_append,ltI,ltI]
  by_cases e:a = b
  ·rw [if_pos e,if_pos e]
   rw [List.map_cons,List.sum_cons,List.map_cons,List.sum_cons,e] at h
   exact Zf (fun i hi=>hx i (List.mem_cons_of_mem _ hi)) (fun i hi=>hy i (List.mem_cons_of_mem _ hi)) (by omega)
  ·rw [if_neg e,if_neg e]
section
variable {k:Nat} {l:List Nat} {ns:List Int} {t u v:List Nat}
theorem Ws (a b:List Nat):Ye l ns (a ++ b) = Ye l ns a + Ye l ns b:=by
 unfold Ye
 rw [<- ui (fun x=>(a.count x:Int)) (fun x=>(b.count x:Int))]
 refine congrArg List.sum (List.map_congr_left fun p _=>?_)
 rw [List.count_append]
 simp
theorem yU (a b:List Nat):zl k l ns (a ++ b) = zl k l ns a + zl k l ns b:=by
 unfold zl
 by_cases h:k = 2
 ·rw [if_pos h,if_pos h,if_pos h,Ws]
 ·rw [if_neg h,if_neg h,if_neg h,List.length_append]
  omega
theorem yV (G:OG l ns k):∀ {w:List Nat},(∀ c ∈ w,c ∈ l) -> zl k l ns w = ((vO l w).map (wt k ns)).sum:=by
 intro w hm
 have hn:l.Nodup:=(of_decide_eq_true G.g).2.2.2
 have e:((vO l w).map (wt k ns)).sum = Wb (k:Int) l ns w:=by
  unfold vO Wb
  rw [List.map_map]
  refine congrArg List.sum (List.map_congr_left fun c _=>?_)
  show wt k ns _ = _
  unfold wt
  by_cases h:k = 2
  ·rw [if_pos h,if_pos (by omega),Int.toNat_natCast]
  ·rw [if_neg h,if_neg (by omega)]
 rw [e]
 unfold zl
 by_cases h:k = 2
 ·rw [if_pos h,h]
  exact (jn hn G.nl hm).symm
 ·rw [if_neg h,Wh (by omega)]
theorem jL (G:OG l ns k) (hm:∀ c ∈ u,c ∈ l):∀ i ∈ vO l u,0 < wt k ns i:=by
 intro i hi
 obtain ⟨c,hc,rfl⟩:=List.mem_map.mp hi
 have hlt:=List.idxOf_lt_length_of_mem (hm c hc)
 have hl:=G.nl
 unfold wt
 split
 ·rw [Int.toNat_natCast,List.getD_eq_getElem?_getD,List.getElem?_eq_getElem (by omega)]
  have:=(G.nb _ (List.getElem_mem (l:=ns) (n:=l.idxOf c) (by omega))).1
  show 0 < ns[l.idxOf c]
  omega
 ·decide
theorem wV (G:OG l ns k) (hm:∀ c ∈ u,c ∈ l):0 <= zl k l ns u:=by
 rw [yV G hm]
 exact xI (jL G hm)
theorem ql (G:OG l ns k) (hm:∀ c ∈ u,c ∈ l) (h:u ≠ []):0 < zl k l ns u:=by
 cases u with
 | nil=>exact absurd rfl h
 | cons a u =>
  have h1:=jL G hm (l.idxOf a:Nat) (List.mem_map.mpr ⟨a,List.mem_cons_self,rfl⟩)
  have h2:0 <= ((vO l u).map (wt k ns)).sum:=xI (jL (u:=u) G fun c hc=>hm c (List.mem_cons_of_mem _ hc))
  rw [yV G hm]
  show 0 < ((((l.idxOf a:Nat):Int) :: vO l u).map (wt k ns)).sum
  rw [List.map_cons,List.sum_cons]
  omega
theorem qO:∀ {u v:List Nat},(∀ c ∈ u,c ∈ l) -> (∀ c ∈ v,c ∈ l) -> vO l u = vO l v -> u = v
 | [],[],_,_,_=>rfl
 | [],_ :: _,_,_,h=>by cases h
 | _ :: _,[],_,_,h=>by cases h
 | a :: u,b :: v,hu,hv,h=>by
  unfold vO at h
  rw [List.map_cons,List.map_cons] at h
  injection h with h1 h2
  have h3:l.idxOf a = l.idxOf b:=by omega
  have ha:=List.getElem_idxOf (List.idxOf_lt_length_of_mem (hu a List.mem_cons_self))
  have hb:=List.getElem_idxOf (List.idxOf_lt_length_of_mem (hv b List.mem_cons_self))
  have:a = b:=by
   rw [<- ha,<- hb]
   simp only [h3]
  rw [this,qO (fun c hc=>hu c (List.mem_cons_of_mem _ hc)) (fun c hc=>hv c (List.mem_cons_of_mem _ hc)) h2]
theorem xj:zQ k l ns u u = false:=by
 unfold zQ
 rw [if_pos rfl,yT]
theorem kP (hu:∀ c ∈ u,c ∈ l) (hv:∀ c ∈ v,c ∈ l) (h:wk k l u = wk k l v):u = v:=by
 unfold wk yg at h
 by_cases e:k = 1
 ·rw [if_pos e,if_pos e] at h
  exact List.reverse_inj.mp (qO (fun c hc=>hu c (List.mem_reverse.mp hc)) (fun c hc=>hv c (List.mem_reverse.mp hc)) h)
 ·rw [if_neg e,if_neg e] at h
  exact qO hu hv h
theorem uO (hu:∀ c ∈ u,c ∈ l) (hv:∀ c ∈ v,c ∈ l) (h:u ≠ v):zQ k l ns u v = !zQ k l ns v u:=by
 unfold zQ
 by_cases e:zl k l ns u = zl k l ns v
 ·rw [if_pos e,if_pos e.symm]
  exact xS fun q=>h (kP hu hv q)
 ·rw [if_neg e,if_neg fun q=>e q.symm]
  by_cases c:zl k l ns u < zl k l ns v
  ·rw [decide_eq_true c,decide_eq_false (by omega)]
   rfl
  ·rw [decide_eq_false c,decide_eq_true (by omega)]
   rfl
theorem uC (h1:zQ k l ns t u = true) (h2:zQ k l ns u v = true):zQ k l ns t v = true:=by
 unfold zQ at h1 h2 ⊢
 generalize zl k l ns t = a at *
 generalize zl k l ns u = b at *
 generalize zl k l ns v = c at *
 by_cases e:a = b
 ·subst e
  rw [if_pos rfl] at h1
  by_cases f:a = c
  ·rw [if_pos f] at h2 ⊢
   exact uQ h1 h2
  ·rw [if_neg f] at h2 ⊢
   exact h2
 ·rw [if_neg e] at h1
  have h1':=of_decide_eq_true h1
  by_cases f:b = c
  ·subst f
   rw [if_neg e]
   exact h1
  ·rw [if_neg f] at h2
   have h2':=of_decide_eq_true h2
   rw [if_neg (by omega)]
   exact decide_eq_true (by omega)
theorem kM (a b:List Nat):vO l (a ++ b) = vO l a ++ vO l b:=List.map_append
theorem jt (G:OG l ns k) (hu:∀ c ∈ u,c ∈ l) (hv:∀ c ∈ v,c ∈ l) (e:zl k l ns u = zl k l ns v) (c:List Int):ltI (vO l u ++ c) (vO l v ++ c) = ltI (vO l u) (vO l v):=by
 rw [yV G hu,yV G hv] at e
 exact Zf (jL G hu) (jL G hv) e
theorem qp (G:OG l ns k) (hu:∀ c ∈ u,c ∈ l):zl k l ns u.reverse = zl k l ns u:=by
 rw [yV G hu,yV G fun c hc=>hu c (List.mem_reverse.mp hc)]
 unfold vO
 rw [List.map_reverse,List.map_reverse,List.sum_reverse]
theorem jW (G:OG l ns k) (ht:∀ c ∈ t,c ∈ l) (hu:∀ c ∈ u,c ∈ l) (hv:∀ c ∈ v,c ∈ l):zQ k l ns (t ++ u) (t ++ v) = zQ k l ns u v /\ zQ k l ns (u ++ t) (v ++ t) = zQ k l ns u v:=by
 have hur:∀ c ∈ u.reverse,c ∈ l:=fun c hc=>hu c (List.mem_reverse.mp hc)
 have hvr:∀ c ∈ v.reverse,c ∈ l:=fun c hc=>hv c (List.mem_reverse.mp hc)
 unfold zQ
 rw [yU,yU,yU,yU]
 by_cases e:zl k l ns u = zl k l ns v
 ·rw [if_pos (by omega),if_pos e,if_pos (by omega)]
  unfold wk yg
  by_cases f:k = 1
  ·simp only [if_pos f,List.reverse_append,kM]
   exact ⟨jt G hur hvr (by rw [qp G hu,qp G hv,e]) _,kd _ _ _⟩
  ·simp only [if_neg f,kM]
   exact ⟨kd _ _ _,jt G hu hv e _⟩
 ·rw [if_neg (by omega),if_neg e,if_neg (by omega)]
  exact ⟨by congr 1; exact propext (by omega),by congr 1; exact propext (by omega)⟩
theorem W1 (G:OG l ns k) (ht:∀ c ∈ t,c ∈ l) (hu:∀ c ∈ u,c ∈ l) (hv:∀ c ∈ v,c ∈ l) (h:t ++ u ++ v ≠ u):zQ k l ns u (t ++ u ++ v) = true /\ zQ k l ns (t ++ u ++ v) u = false:=by
 have h0:0 < zl k l ns t + zl k l ns v:=by
  have h1:=wV G ht
  have h2:=wV G hv
  by_cases e:t = []
  ·by_cases f:v = []
   ·subst e f
    simp at h
   ·have:=ql G hv f
    omega
  ·have:=ql G ht e
   omega
 unfold zQ
 rw [yU,yU,if_neg (by omega),if_neg (by omega)]
 exact ⟨decide_eq_true (by omega),decide_eq_false (by omega)⟩
end
theorem jp:∀ x y:List Int,ltI x y = true -> ltI y x = false
 | [],[],h=>by cases h
 | [],_ :: _,_=>rfl
 | _ :: _,[],h=>by cases h
 | a :: x,b :: y,h=>by
  rw [ltI] at h ⊢
  by_cases e:a = b
  ·rw [if_pos e] at h
   rw [if_pos e.symm]
   exact jp x y h
  ·rw [if_neg e] at h
   rw [if_neg (fun q=>e q.symm)]
   have:=of_decide_eq_true h
   exact decide_eq_false (by omega)
theorem kD {k:Nat} {l:List Nat} {ns:List Int} {u v:List Nat} (h:zQ k l ns u v = true):zQ k l ns v u = false:=by
 unfold zQ at h ⊢
 by_cases e:zl k l ns u = zl k l ns v
 ·rw [if_pos e] at h
  rw [if_pos e.symm]
  exact jp _ _ h
 ·rw [if_neg e] at h
  rw [if_neg (fun q=>e q.symm)]
  have:=of_decide_eq_true h
  exact decide_eq_false (by omega)
def stJ (l:List Nat) (ps:List zH) (q j:Nat):Bool:=((ps[j]?).map fun p=>zq l (q:Int) p.1).getD false
theorem qu {l:List Nat} {ps:List zH} {q j:Nat} {p:zH} (h:ps[j]? = some p):stJ l ps q j = zq l (q:Int) p.1:=by
 unfold stJ
 rw [h]
 rfl
theorem ww {l:List Nat} {ps:List zH} {q j:Nat} (h:stJ l ps q j = true):j < ps.length /\ ∃ p,ps[j]? = some p /\ zq l (q:Int) p.1 = true:=by
 unfold stJ at h
 cases e:ps[j]? with
 | none=>rw [e] at h; cases h
 | some p =>
  rw [e] at h
  exact ⟨(List.getElem?_eq_some_iff.mp e).1,p,rfl,h⟩
def uh (l:List Nat) (ps:List zH) (q i:Nat):List (Nat × Nat):=((List.range i).filter (stJ l ps q)).map fun j=>(j,q)
def xp (l:List Nat) (ps:List zH) (k:Nat):List (Nat × Nat):=(List.range k).flatMap fun q=>uh l ps q ps.length
theorem ZP (l:List Nat) (ps:List zH) (q i:Nat):uh l ps q (i + 1) = uh l ps q i ++ (if stJ l ps q i = true then [(i,q)] else []):=by
 unfold uh
 rw [List.range_succ,List.filter_append,List.map_append]
 congr 1
 by_cases h:stJ l ps q i = true
 ·rw [if_pos h,List.filter_cons_of_pos h]
  rfl
 ·rw [if_neg h,List.filter_cons_of_neg h]
  rfl
theorem qc (l:List Nat) (ps:List zH) (k:Nat):xp l ps (k + 1) = xp l ps k ++ uh l ps k ps.length:=by
 unfold xp
 rw [List.range_succ,List.flatMap_append]
 simp
theorem YG (l:List Nat) (ps:List zH) (q i:Nat):(uh l ps q i).length <= i:=by
 unfold uh
 rw [List.length_map]
 have:=List.length_filter_le (stJ l ps q) (List.range i)
 rw [List.length_range] at this
 exact this
theorem Xd (l:List Nat) (ps:List zH):∀ k,(xp l ps k).length <= k * ps.length
 | 0=>by simp [xp]
 | k + 1=>by
  rw [qc,List.length_append,Nat.succ_mul]
  have:=Xd l ps k
  have:=YG l ps k ps.length
  omega
theorem usesN_mem {l:List Nat} {ps:List zH} {q i:Nat} {u:Nat × Nat}:u ∈ uh l ps q i ↔ u.2 = q /\ u.1 < i /\ stJ l ps q u.1 = true:=by
 unfold uh
 rw [List.mem_map]
 constructor
 ·rintro ⟨j,hj,rfl⟩
  rw [List.mem_filter,List.mem_range] at hj
  exact ⟨rfl,hj.1,hj.2⟩
 ·rintro ⟨h1,h2,h3⟩
  exact ⟨u.1,List.mem_filter.mpr ⟨List.mem_range.mpr h2,h3⟩,by rw [<- h1]⟩
theorem usesK_mem {l:List Nat} {ps:List zH} {k:Nat} {u:Nat × Nat}:u ∈ xp l ps k ↔ u.2 < k /\ stJ l ps u.2 u.1 = true:=by
 unfold xp
 rw [List.mem_flatMap]
 constructor
 ·rintro ⟨q,hq,hu⟩
  obtain ⟨h1,h2,h3⟩:=usesN_mem.mp hu
  rw [List.mem_range] at hq
  rw [h1]
  exact ⟨hq,h3⟩
 ·rintro ⟨h1,h2⟩
  exact ⟨u.2,List.mem_range.mpr h1,usesN_mem.mpr ⟨rfl,(ww h2).1,h2⟩⟩
def uLt (a b:Nat × Nat):Prop:=a.2 < b.2 \/ (a.2 = b.2 /\ a.1 < b.1)
theorem vD (l:List Nat) (ps:List zH) (q:Nat):∀ i,(uh l ps q i).Pairwise uLt
 | 0=>by simp [uh]
 | i + 1=>by
  rw [ZP]
  refine List.pairwise_append.mpr ⟨vD l ps q i,?_,fun a ha b hb=>?_⟩
  ·split
   ·exact List.pairwise_singleton _ _
   ·exact List.Pairwise.nil
  ·obtain ⟨h1,h2,_⟩:=usesN_mem.mp ha
   split at hb
   ·rw [List.mem_singleton.mp hb]
    exact .inr ⟨h1,h2⟩
   ·cases hb
theorem xZ (l:List Nat) (ps:List zH):∀ k,(xp l ps k).Pairwise uLt
 | 0=>by simp [xp]
 | k + 1=>by
  rw [qc]
  refine List.pairwise_append.mpr ⟨xZ l ps k,vD l ps k _,fun a ha b hb=>?_⟩
  have h1:=(usesK_mem.mp ha).1
  have h2:=(usesN_mem.mp hb).1
  exact .inl (by omega)
def FirstN (l:List Nat) (ps:List zH) (lo hi n:Nat) (r:Option (Nat × Nat)):Prop :=
 (r = none /\ ∀ j q,j < n -> lo <= q -> q < hi -> stJ l ps q j = false) \/
 ∃ n0 q0,r = some (n0,q0) /\ n0 < n /\ lo <= q0 /\ q0 < hi /\ stJ l ps q0 n0 = true /\ ∀ j q,j < n -> lo <= q -> stJ l ps q j = true -> q0 < q \/ (q0 = q /\ n0 <= j)
theorem FirstN.uniq {l:List Nat} {ps:List zH} {lo hi n:Nat} {r r':Option (Nat × Nat)} (h:FirstN l ps lo hi n r) (h':FirstN l ps lo hi n r'):r = r':=by
 rcases h with ⟨rfl,h⟩ | ⟨n0,q0,rfl,a1,a2,a3,a4,a5⟩
 ·rcases h' with ⟨rfl,_⟩ | ⟨n0,q0,rfl,a1,a2,a3,a4,a5⟩
  ·rfl
  ·rw [h n0 q0 a1 a2 a3] at a4
   cases a4
 ·rcases h' with ⟨rfl,h⟩ | ⟨n1,q1,rfl,b1,b2,b3,b4,b5⟩
  ·rw [h n0 q0 a1 a2 a3] at a4
   cases a4
  ·have x1:=a5 n1 q1 b1 b2 b4
   have x2:=b5 n0 q0 a1 a2 a4
   have e1:q0 = q1:=by omega
   have e2:n0 = n1:=by omega
   rw [e1,e2]
theorem Z9 {l:List Nat} {ps:List zH} {r:Option (Nat × Nat)} (h:FirstN l ps 0 l.length ps.length r):r = (xp l ps l.length).head?:=by
 have hs:=xZ l ps l.length
 refine h.uniq ?_
 cases e:xp l ps l.length with
 | nil =>
  refine .inl ⟨rfl,fun j q _ _ hq=>?_⟩
  cases hb:stJ l ps q j with
  | false=>rfl
  | true =>
   have:(j,q) ∈ xp l ps l.length:=usesK_mem.mpr ⟨hq,hb⟩
   rw [e] at this
   cases this
 | cons u us =>
  rw [e] at hs
  have hu:u ∈ xp l ps l.length:=by rw [e]; exact List.mem_cons_self
  obtain ⟨h1,h2⟩:=usesK_mem.mp hu
  refine .inr ⟨u.1,u.2,rfl,(ww h2).1,Nat.zero_le _,h1,h2,fun j q hj _ hb=>?_⟩
  by_cases hq:q < l.length
  ·have:(j,q) ∈ xp l ps l.length:=usesK_mem.mpr ⟨hq,hb⟩
   rw [e] at this
   rcases List.mem_cons.mp this with e2 | e2
   ·rw [<- e2]
    exact .inr ⟨rfl,Nat.le_refl _⟩
   ·rcases (List.pairwise_cons.mp hs).1 _ e2 with h | ⟨h,h'⟩
    ·exact .inl h
    ·exact .inr ⟨h,Nat.le_of_lt h'⟩
  ·exact .inl (by omega)
theorem uU {l p:List Nat} {q:Nat} (hp:p ≠ []) (h:zq l (q:Int) p = true):q < l.length:=by
 obtain ⟨h0,h1,_⟩:=of_decide_eq_true h
 have:0 < p.length:=List.length_pos_iff.mpr hp
 omega
theorem FirstN.keep {l:List Nat} {ps:List zH} {lo hi n:Nat} {r:Option (Nat × Nat)} {p:zH} (h:FirstN l ps lo hi n r) (hp:ps[n]? = some p) (hn:∀ q:Nat,lo <= q -> q < (r.map Prod.snd).getD hi -> zq l (q:Int) p.1 = false):FirstN l ps lo hi (n + 1) r:=by
 rcases h with ⟨rfl,h⟩ | ⟨n0,q0,rfl,a1,a2,a3,a4,a5⟩
 ·refine .inl ⟨rfl,fun j q hj h1 h2=>?_⟩
  by_cases e:j < n
  ·exact h j q e h1 h2
  ·have:j = n:=by omega
   subst this
   rw [qu hp]
   exact hn q h1 h2
 ·refine .inr ⟨n0,q0,rfl,by omega,a2,a3,a4,fun j q hj h1 h2=>?_⟩
  by_cases e:j < n
  ·exact a5 j q e h1 h2
  ·have:j = n:=by omega
   subst this
   rw [qu hp] at h2
   by_cases hq:q < q0
   ·rw [hn q h1 hq] at h2
    cases h2
   ·omega
theorem FirstN.take {l:List Nat} {ps:List zH} {lo hi n k:Nat} {r:Option (Nat × Nat)} {p:zH} (h:FirstN l ps lo hi n r) (hp:ps[n]? = some p) (h1:lo <= k) (h2:k < (r.map Prod.snd).getD hi) (h3:zq l (k:Int) p.1 = true) (hn:∀ q:Nat,lo <= q -> q < k -> zq l (q:Int) p.1 = false):FirstN l ps lo hi (n + 1) (some (n,k)):=by
 have hk:k < hi /\ ∀ j q,j < n -> lo <= q -> stJ l ps q j = true -> k < q:=by
  rcases h with ⟨rfl,h⟩ | ⟨n0,q0,rfl,a1,a2,a3,a4,a5⟩
  ·refine ⟨h2,fun j q hj hl hb=>?_⟩
   by_cases hq:q < hi
   ·rw [h j q hj hl hq] at hb
    cases hb
   ·have h2':k < hi:=h2
    omega
  ·have h2':k < q0:=h2
   refine ⟨by omega,fun j q hj hl hb=>?_⟩
   have:=a5 j q hj hl hb
   omega
 refine .inr ⟨n,k,rfl,by omega,h1,hk.1,by rw [qu hp]; exact h3,fun j q hj hl hb=>?_⟩
 by_cases e:j < n
 ·exact .inl (hk.2 j q e hl hb)
 ·have:j = n:=by omega
  subst this
  rw [qu hp] at hb
  by_cases hq:q < k
  ·rw [hn q hl hq] at hb
   cases hb
  ·omega
theorem FirstN.window {l:List Nat} {ps:List zH} {lo mid hi n:Nat} {r:Option (Nat × Nat)} (h0:FirstN l ps lo mid n none) (hm:lo <= mid) (h:FirstN l ps mid hi n r):FirstN l ps lo hi n r:=by
 have h0':∀ j q,j < n -> lo <= q -> q < mid -> stJ l ps q j = false:=by
  rcases h0 with ⟨_,h⟩ | ⟨_,_,h,_⟩
  ·exact h
  ·cases h
 rcases h with ⟨rfl,h⟩ | ⟨n0,q0,rfl,a1,a2,a3,a4,a5⟩
 ·refine .inl ⟨rfl,fun j q hj h1 h2=>?_⟩
  by_cases e:q < mid
  ·exact h0' j q hj h1 e
  ·exact h j q hj (by omega) h2
 ·refine .inr ⟨n0,q0,rfl,a1,by omega,a3,a4,fun j q hj h1 h2=>?_⟩
  by_cases e:q < mid
  ·rw [h0' j q hj h1 e] at h2
   cases h2
  ·exact a5 j q hj (by omega) h2
def NeL (ps:List zH):Prop:=∀ p ∈ ps,p.1 ≠ []
theorem FirstN.toEnd {l:List Nat} {ps:List zH} {lo hi n:Nat} {r:Option (Nat × Nat)} (hN:NeL ps) (h:FirstN l ps lo hi n r) (hl:r = none -> l.length <= hi):FirstN l ps lo l.length n r:=by
 have hlt:∀ j q,stJ l ps q j = true -> q < l.length:=fun j q hb=>by
  obtain ⟨_,p,hp,hs⟩:=ww hb
  exact uU (hN p (List.mem_of_getElem? hp)) hs
 rcases h with ⟨rfl,h⟩ | ⟨n0,q0,rfl,a1,a2,a3,a4,a5⟩
 ·exact .inl ⟨rfl,fun j q hj h1 h2=>h j q hj h1 (by have:=hl rfl; omega)⟩
 ·exact .inr ⟨n0,q0,rfl,a1,a2,hlt _ _ a4,a4,a5⟩
def zM (l:List Nat) (ps:List zH):Option (Nat × Nat):=(xp l ps l.length).head?
theorem kY {l:List Nat} {ps:List zH} {r:Option (Nat × Nat)} (h:FirstN l ps 0 l.length ps.length r):r = zM l ps:=Z9 h
theorem Zv (l:List Nat) (ps:List zH) (hN:NeL ps):FirstN l ps 0 l.length ps.length (zM l ps):=by
 have hs:=xZ l ps l.length
 unfold zM
 cases e:xp l ps l.length with
 | nil =>
  refine .inl ⟨rfl,fun j q _ _ hq=>?_⟩
  cases hb:stJ l ps q j with
  | false=>rfl
  | true =>
   have:(j,q) ∈ xp l ps l.length:=usesK_mem.mpr ⟨hq,hb⟩
   rw [e] at this
   cases this
 | cons u us =>
  rw [e] at hs
  have hu:u ∈ xp l ps l.length:=by rw [e]; exact List.mem_cons_self
  obtain ⟨h1,h2⟩:=usesK_mem.mp hu
  refine .inr ⟨u.1,u.2,rfl,(ww h2).1,Nat.zero_le _,h1,h2,fun j q hj _ hb=>?_⟩
  have hq:q < l.length:=by
   obtain ⟨_,p,hp,hs⟩:=ww hb
   exact uU (hN p (List.mem_of_getElem? hp)) hs
  have:(j,q) ∈ xp l ps l.length:=usesK_mem.mpr ⟨hq,hb⟩
  rw [e] at this
  rcases List.mem_cons.mp this with e2 | e2
  ·rw [<- e2]
   exact .inr ⟨rfl,Nat.le_refl _⟩
  ·rcases (List.pairwise_cons.mp hs).1 _ e2 with h | ⟨h,h'⟩
   ·exact .inl h
   ·exact .inr ⟨h,Nat.le_of_lt h'⟩
def kW (ps:List zH) (n:Nat):zH:=ps.getD n ([],[])
theorem xJ {ps:List zH} {n:Nat} {p:zH} (h:ps[n]? = some p):kW ps n = p:=by
 unfold kW
 rw [List.getD_eq_getElem?_getD,h]
 rfl
def kX (l:List Nat) (ps:List zH) (u:Nat × Nat):List Nat:=wA l (u.2:Int) (kW ps u.1).1 (kW ps u.1).2
def Yf (ps:List zH) (l:List Nat):List Nat:=((zM l ps).map (kX l ps)).getD l
def wAt (ps:List zH) (l:List Nat):Nat -> List Nat
 | 0=>l
 | j + 1=>Yf ps (wAt ps l j)
def sAt (ps:List zH) (l:List Nat) (j:Nat):List (Nat × Nat):=(List.range j).map fun i=>(zM (wAt ps l i) ps).getD (0,0)
theorem Zg (ps:List zH) (l:List Nat) (j:Nat):sAt ps l (j + 1) = sAt ps l j ++ [(zM (wAt ps l j) ps).getD (0,0)]:=by
 unfold sAt
 rw [List.range_succ,List.map_append]
 rfl
theorem j9 (ps:List zH) (l:List Nat) (j:Nat):(sAt ps l j).length = j:=by
 unfold sAt
 rw [List.length_map,List.length_range]
theorem wg {ps:List zH} {l:List Nat} {j:Nat} {u:Nat × Nat} (h:zM (wAt ps l j) ps = some u):wAt ps l (j + 1) = kX (wAt ps l j) ps u:=by
 show Yf ps (wAt ps l j) = _
 unfold Yf
 rw [h]
 rfl
def V8 (ps:List zH) (l:List Nat) (j:Nat):Prop:=∀ i,i < j -> zM (wAt ps l i) ps ≠ none
theorem ZH {l:List Nat} {ps:List zH} {n q M lo:Nat} (h:FirstN l ps 0 l.length ps.length (some (n,q))) (hN:NeL ps) (hM:∀ p ∈ ps,p.1.length <= M) (hlo:lo = 0 \/ lo + M <= q + 1):FirstN (kX l ps (n,q)) ps 0 lo ps.length none:=by
 refine .inl ⟨rfl,fun j x hj _ hx=>?_⟩
 rcases h with ⟨h,_⟩ | ⟨n0,q0,e,a1,a2,a3,a4,a5⟩
 ·cases h
 ·injection e with e
  injection e with e1 e2
  subst e1 e2
  cases hb:stJ (kX l ps (n,q)) ps x j with
  | false=>rfl
  | true =>
   obtain ⟨_,p,hp,hs⟩:=ww hb
   have hpm:=hM p (List.mem_of_getElem? hp)
   have hpn:=List.length_pos_iff.mpr (hN p (List.mem_of_getElem? hp))
   have hxq:x + p.1.length <= q:=by omega
   obtain ⟨s0,s1,s2⟩:=of_decide_eq_true hs
   rw [Int.toNat_natCast] at s2
   obtain ⟨_,p2,hp2,hs2⟩:=ww a4
   obtain ⟨t0,t1,t2⟩:=of_decide_eq_true hs2
   have e4:(kX l ps (n,q)).take q = l.take q:=by
    unfold kX wA
    rw [Int.toNat_natCast,List.append_assoc,List.take_append_of_le_length (by rw [List.length_take]; omega),List.take_take,Nat.min_self]
   have e5:∀ z:List Nat,((z.take q).drop x).take p.1.length = (z.drop x).take p.1.length:=fun z=>by
    rw [List.drop_take,List.take_take]
    congr 1
    omega
   have s3:(l.drop x).take p.1.length = p.1:=by rw [<- e5,<- e4,e5,s2]
   have:stJ l ps x j = true:=by
    rw [qu hp]
    exact decide_eq_true ⟨by omega,by omega,by rw [Int.toNat_natCast]; exact s3⟩
   have:=a5 j x hj (Nat.zero_le _) this
   omega
theorem FirstN.lower {l:List Nat} {ps:List zH} {lo hi n:Nat} (h:FirstN l ps 0 hi n none) (hl:lo <= hi):FirstN l ps 0 lo n none:=by
 rcases h with ⟨_,h⟩ | ⟨_,_,h,_⟩
 ·exact .inl ⟨rfl,fun j q hj h1 h2=>h j q hj h1 (by omega)⟩
 ·cases h
theorem WP {l:List Nat} {ps:List zH} {n q m:Nat} (h:FirstN l ps 0 l.length ps.length (some (n,q))) (hm:∀ p ∈ ps,p.2.length <= m):(kX l ps (n,q)).length <= l.length + m:=by
 rcases h with ⟨h,_⟩ | ⟨n0,q0,e,a1,a2,a3,a4,a5⟩
 ·cases h
 ·injection e with e
  injection e with e1 e2
  subst e1 e2
  obtain ⟨_,p,hp,hs⟩:=ww a4
  have:=hm p (List.mem_of_getElem? hp)
  have er:=xJ hp
  unfold kX wA
  simp only [List.length_append,List.length_take,List.length_drop,er]
  omega
theorem jd {ps:List zH} {l:List Nat} {m:Nat} (hN:NeL ps) (hm:∀ p ∈ ps,p.2.length <= m):∀ j,(wAt ps l j).length <= l.length + j * m
 | 0=>by simp [wAt]
 | j + 1=>by
  have ih:=jd (l:=l) hN hm j
  have hf:=Zv (wAt ps l j) ps hN
  rw [Nat.succ_mul]
  cases e:zM (wAt ps l j) ps with
  | none =>
   show (Yf ps (wAt ps l j)).length <= _
   unfold Yf
   rw [e]
   show (wAt ps l j).length <= _
   omega
  | some u =>
   rw [wg e]
   rw [e] at hf
   obtain ⟨a,b⟩:=u
   have:=WP hf hm
   omega
def UseAt (H:Hp) (r:Option (Nat × Nat)) (v:V):Prop:=(r = none /\ v = .non) \/ ∃ (n q:Nat) (p:Addr),r = some (n,q) /\ v = .ref p /\ H p = some (.tup [.int (n:Nat),.int (q:Nat)])
theorem UseAt.same {H H':Hp} {r:Option (Nat × Nat)} {v:V} (h:UseAt H r v) (s:Same H H'):UseAt H' r v:=by
 rcases h with h | ⟨n,q,p,h1,h2,h3⟩
 ·exact .inl h
 ·exact .inr ⟨n,q,p,h1,h2,s _ _ h3⟩
theorem Xe {l p:List Nat} {lo hi:Int} {H:Hp} {Q:VK} (h0:0 <= lo) (h1:0 <= hi) (h:∀ r:Int,((r = -1 /\ ∀ q:Nat,lo <= q -> (q:Int) + p.length <= hi -> zq l q p = false) \/ ∃ k:Nat,r = k /\ lo <= k /\ (k:Int) + p.length <= hi /\ zq l k p = true /\ ∀ q:Nat,lo <= q -> q < k -> zq l q p = false) -> Q (.int r) H):VQ (.str (tx l)) [.str (tx p),.int lo,.int hi] H Q:=by
 refine ⟨l,p,lo,hi,rfl,rfl,h0,h1,fun r hr=>h r ?_⟩
 have no:∀ q:Nat,((l.drop q).take p.length ≠ p \/ ¬ q + p.length <= l.length) -> zq l q p = false:=fun q hq=>decide_eq_false fun ⟨_,b,c⟩=>by
  rcases hq with hq | hq
  ·exact hq c
  ·omega
 rcases hr with ⟨rfl,hn⟩ | ⟨k,rfl,k1,k2,k3,k4,hn⟩
 ·refine .inl ⟨rfl,fun q q1 q2=>no q ?_⟩
  by_cases e:q + p.length <= l.length
  ·exact .inl (hn q q1 q2 e)
  ·exact .inr e
 ·exact .inr ⟨k,rfl,k1,k2,decide_eq_true ⟨by omega,by omega,k4⟩,fun q q1 q2=>no q (.inl (hn q q1 q2))⟩
def wc (K:PySem.W.Frag):Sp:=fun vs H Q _=>∃ (a:Addr) (l:List Nat) (ps:List zH) (st en:Nat),vs = [.ref a,.str (tx l),.int (st:Nat),.int (en:Nat)] /\ LsA K H a (ps.map dR) /\ NeL ps /\ (∀ p ∈ ps,p.1.length <= 1000) /\ ∀ (r:Option (Nat × Nat)) (v:V) (H':Hp),Same H H' -> UseAt H' r v -> FirstN l ps st en ps.length r -> Q v H'
theorem kA {a:Addr} {l:List Nat} {ps:List zH} {st en:Nat} {s e:Int} {H:Hp} {Q:VK} {E:XK} (hs:s = (st:Nat)) (he:e = (en:Nat)) (hA:LsA K H a (ps.map dR)) (hN:NeL ps) (hP:∀ p ∈ ps,p.1.length <= 1000) (q:∀ (r:Option (Nat × Nat)) (v:V) (H':Hp),Same H H' -> UseAt H' r v -> FirstN l ps st en ps.length r -> Q v H'):wc K [.ref a,.str (tx l),.int s,.int e] H Q E:=by
 subst hs he
 exact ⟨a,l,ps,st,en,rfl,hA,hN,hP,q⟩
theorem sc_first_within:zu ["rules", "word", "start", "end", "found", "number", "rule", "place"] ["rules", "word", "start", "end"] (zb yc):=⟨rfl,rfl,rfl,by decide +kernel,rfl,by decide +kernel,by decide +kernel⟩
theorem ut {f:Addr} {fd:FuncData} (B:Bt mg)  (F:Fun K "first_within" "first_within" yc f fd)  : yk P w K mg base CX0 1 f fd ["rules", "word", "start", "end"] (wc K):=by
 refine F.ok sc_first_within (fun vs H Q E h=>?_) (fun cdv A outer s H vs Q E hr h=>?_)
 ·obtain ⟨a,l,ps,st,en,rfl,_⟩:=h
  rfl
 ·obtain ⟨a,l,ps,st,en,rfl,hA,hN,hP,q⟩:=h
  refine ⟨_,(zj (zv (i:=4) sc_first_within.nd rfl (Or.inl rfl) wv)
   (zj (yD PassesOwn.never rfl (va rfl B.enum (za (pv 0) zc)) (ud (n:=2) rfl (zZ (zx (i:=5) sc_first_within.nd rfl (Or.inl rfl)) (zZ (zx (i:=6) sc_first_within.nd rfl (Or.inl rfl)) wI)))
    (zK (zv (i:=7) sc_first_within.nd rfl (Or.inl rfl) (wD PySem.F.plainAttrs_str PySem.F.slot_str_find PySem.F.type_str_find Uc (pv 1) (za (zt ix_tup (pv 6) ze (fun _ _=>rfl)) (za (pv 2) (za (zD op_add (zD vA (pv 3) ze) (zn z9 rfl B.len PySem.boot_len (za (zt ix_tup (pv 6) ze (fun _ _=>rfl)) zc))) zc)))))
    (zf (zW (zC op_ge' (pv 7) ze (zJ _))
     (zK (zv (i:=4) sc_first_within.nd rfl (Or.inl rfl) (yl (za (pv 5) (za (pv 7) zc))))
     (zf (zv (i:=3) sc_first_within.nd rfl (Or.inl rfl) (pv 7))))
     zy))))
   (zf (zw (pv 4))))),?_⟩
  have s16:=yE
  obtain ⟨xs,hX,hI⟩:=id hA
  have hxl:=hI.len
  rw [List.length_map] at hxl
  have s16:=yE
  refine zk (fun σ H'=>H' = H /\ σ = [some (.ref a),some (.str (tx l)),some (.int (st:Nat)),some (.int (en:Nat)),some (.non),none,none,none]) ?_ ?_
  ·rfl'
  rintro σ H1 ⟨rfl,rfl⟩
  refine zk (fun σ H'=>Same H1 H' /\ ∃ (r:Option (Nat × Nat)) (v:V) (v3 v5 v6 v7:Option V),UseAt H' r v /\ FirstN l ps st en ps.length r /\ σ = [some (.ref a),some (.str (tx l)),some (.int (st:Nat)),v3,some (v),v5,v6,v7]) ?_ ?_
  ·rfl'
   refine ⟨⟨_,SqL.of hX⟩,ForEL.by (xs:=xs) (fun i σ H'=>Same H1 H' /\ ∃ (r:Option (Nat × Nat)) (v:V) (v5 v6 v7:Option V),UseAt H' r v /\ FirstN l ps st en i r /\ σ = [some (.ref a),some (.str (tx l)),some (.int (st:Nat)),some (.int (((r.map Prod.snd).getD en:Nat):Int)),some (v),v5,v6,v7]) ⟨Same.refl _,none,.non,none,none,none,.inl ⟨rfl,rfl⟩,.inl ⟨rfl,fun j q h=>absurd h (Nat.not_lt_zero j)⟩,rfl⟩ (fun i σ H' _ h=>SqL.of (h.1 _ _ hX)) ?_ ?_⟩
   ·rintro i y σ H' p hy ⟨hs,r,v,v5,v6,v7,hu,hF,rfl⟩ hpn
    obtain ⟨rl,pr,hri,rfl,hqr⟩:=hI.getR hy
    have hm:=List.mem_of_getElem? hri
    have hne:=List.length_pos_iff.mpr (hN rl hm)
    have hrl:=hP rl hm
    have s2:=hs.trans (zg (o:=.tup [.int (i:Nat),.ref pr]) hpn)
    have hq2:=zm s2 hqr
    have hu2:=hu.same (zg (o:=.tup [.int (i:Nat),.ref pr]) hpn)
    rfl'
    refine ⟨_,SqT.of zd,rfl,_,_,rfl,_,_,rfl,rfl,_,rfl,_,hq2,_,rfl,_,rfl,_,hq2,_,rfl,_,⟨by rw [yf]; omega,rfl⟩,Xe (by omega) (by rw [yf]; omega) fun z hz=>⟨z,rfl,?_⟩⟩
    rw [yf] at hz
    rcases hz with ⟨rfl,hn⟩ | ⟨k,rfl,k1,k2,k3,hn⟩
    ·rw [if_neg (by decide)]
     exact ⟨s2,r,v,hu2,hF.keep hri fun q q1 q2=>hn q (by omega) (by omega),rfl,rfl⟩
    ·rw [if_pos (by omega)]
     refine ⟨by omega,fun p2 hp2=>⟨s2.trans (zg hp2),some (i,k),.ref p2,.inr ⟨i,k,p2,rfl,rfl,zd⟩,hF.take hri (by omega) (by omega) k3 fun q q1 q2=>hn q (by omega) q2,rfl,rfl⟩⟩
   ·rintro σ H' ⟨hs,r,v,v5,v6,v7,hu,hF,rfl⟩
    rw [hxl] at hF
    exact ⟨hs,r,v,hu,hF,_,_,_,_,rfl⟩
  rintro σ H2 ⟨s2,r,v,v3,v5,v6,v7,hu,hF,rfl⟩
  rfl'
  exact q r v H2 s2 hu hF
structure KZ (mg:Str -> Option Value):Prop where
 g:∃ t,mg "WINDOW" = some (.int 128 t)
def vU (K:PySem.W.Frag):Sp:=fun vs H Q _=>∃ (a:Addr) (l:List Nat) (ps:List zH) (st:Nat),vs = [.ref a,.str (tx l),.int (st:Nat)] /\ LsA K H a (ps.map dR) /\ NeL ps /\ (∀ p ∈ ps,p.1.length <= 1000) /\ l.length <= 100000 /\ ∀ (r:Option (Nat × Nat)) (v:V) (H':Hp),Same H H' -> UseAt H' r v -> FirstN l ps st l.length ps.length r -> Q v H'
theorem jq {a:Addr} {l:List Nat} {ps:List zH} {st:Nat} {s:Int} {H:Hp} {Q:VK} {E:XK} (hs:s = (st:Nat)) (hA:LsA K H a (ps.map dR)) (hN:NeL ps) (hP:∀ p ∈ ps,p.1.length <= 1000) (hl:l.length <= 100000) (q:∀ (r:Option (Nat × Nat)) (v:V) (H':Hp),Same H H' -> UseAt H' r v -> FirstN l ps st l.length ps.length r -> Q v H'):vU K [.ref a,.str (tx l),.int s] H Q E:=by
 subst hs
 exact ⟨a,l,ps,st,rfl,hA,hN,hP,hl,q⟩
theorem sc_first_from:zu ["rules", "word", "start", "size", "found"] ["rules", "word", "start"] (zb yo):=⟨rfl,rfl,rfl,by decide +kernel,rfl,by decide +kernel,by decide +kernel⟩
theorem qV {f:Addr} {fd:FuncData} (B:Bt mg) (T:KZ mg) (F:Fun K "first_from" "first_from" yo f fd) (D_first_within:Df P w K mg base CX0 1 "first_within" ["rules", "word", "start", "end"] [] (wc K)):yk P w K mg base CX0 2 f fd ["rules", "word", "start"] (vU K):=by
 obtain ⟨t8,g8⟩:=T.g
 refine F.ok sc_first_from (fun vs H Q E h=>?_) (fun cdv A outer s H vs Q E hr h=>?_)
 ·obtain ⟨a,l,ps,st,rfl,_⟩:=h
  rfl
 ·obtain ⟨a,l,ps,st,rfl,hA,hN,hP,hl,q⟩:=h
  refine ⟨_,(zj (zv (i:=3) sc_first_from.nd rfl (Or.inl rfl) (xP (v:=.int 128) rfl g8 ⟨t8,rfl⟩))
   (zj (Ze PassesOwn.never (zC Zc (pv 2) (zn z9 rfl B.len PySem.boot_len (za (pv 1) zc)) (zJ _))
    (zK (zv (i:=4) sc_first_from.nd rfl (Or.inl rfl) (cl0 D_first_within hr .nil rfl (za (pv 0) (za (pv 1) (za (pv 2) (za (zD op_add (pv 2) (pv 3)) zc))))))
    (zK (zW (zC op_notN' (pv 4) wv (zJ _))
     (zf (zw (pv 4)))
     zy)
    (zK (zv (i:=2) sc_first_from.nd rfl (Or.inl rfl) (zD op_add (pv 2) (pv 3)))
    (zf (zv (i:=3) sc_first_from.nd rfl (Or.inl rfl) (zD op_mul (pv 3) ze)))))))
   (zf (zw wv)))),?_⟩
  have s16:=yE
  have s16:=yE
  refine zk (fun σ H'=>H' = H /\ σ = [some (.ref a),some (.str (tx l)),some (.int (st:Nat)),some (.int 128),none]) ?_ ?_
  ·rfl'
  rintro σ H1 ⟨rfl,rfl⟩
  refine zk (fun σ H'=>Same H1 H' /\ FirstN l ps st l.length ps.length none) ?_ ?_
  ·unfold YO
   refine ⟨fun m σ H'=>∃ (s z:Nat) (v4:Option V),m = l.length - s /\ st <= s /\ 1 <= z /\ Same H1 H' /\ FirstN l ps st s ps.length none /\ σ = [some (.ref a),some (.str (tx l)),some (.int (s:Nat)),some (.int (z:Nat)),v4],⟨_,st,128,none,rfl,Nat.le_refl _,by decide,Same.refl _,.inl ⟨rfl,fun j q _ h1 h2=>by omega⟩,rfl⟩,?_⟩
   rintro m σ H' ⟨s,z,v4,rfl,hs,hz,sm,hF,rfl⟩
   rfl'
   refine ⟨by omega,xn (fun hlt=>?_) fun hge=>⟨sm,hF.toEnd hN fun _=>by omega⟩⟩
   refine ⟨fun σ' H''=>∃ v4:Option V,Same H1 H'' /\ FirstN l ps st (s + z) ps.length none /\ σ' = [some (.ref a),some (.str (tx l)),some (.int ((s + z:Nat):Int)),some (.int ((z * 2:Nat):Int)),v4],fun σ' H'' ⟨v4,a1,a2,a3⟩=>⟨l.length - (s + z),by omega,s + z,rfl,by omega,z * 2,by omega,a1,a2,v4,a3⟩,?_⟩
   refine kA (en:=s + z) rfl (by omega) (hA.same sm) hN hP fun r v H2 s2 hu hF2=>?_
   rcases hu with ⟨rfl,rfl⟩ | ⟨n,qq,p,rfl,rfl,hp⟩
   ·rw [if_neg (fun h=>h rfl)]
    exact ⟨.inr ⟨by decide,by decide⟩,some .non,sm.trans s2,hF.window hs hF2,by push_cast; rfl⟩
   ·rw [if_pos (by intro h; cases h)]
    exact q _ _ H2 (sm.trans s2) (.inr ⟨n,qq,p,rfl,rfl,hp⟩) ((hF.window hs hF2).toEnd hN (fun e=>by cases e))
  rintro σ H2 ⟨s2,hF⟩
  rfl'
  exact q none .non H2 s2 (.inl ⟨rfl,rfl⟩) hF
theorem LsA.pushT {H:Hp} {D p:Addr} {ds es:List L3.D} {xs vs:List V} (h1:H D = some (.lst xs)) (h2:Iss K H ds xs) (hp:H p = none) (hv:Iss K H es vs) (f:zY ds) (fe:zY es):LsA K (upd (upd H p (.tup vs)) D (.lst (xs ++ [.ref p]))) D (ds ++ [.tup es]):=by
 have e:(upd H p (.tup vs)) D = some (.lst xs):=zg hp _ _ h1
 exact LsA.snoc e (Iss.same (zg hp) _ _ h2) f (by simp only [xB]; exact fe) (Is.tup hp hv)
structure QA (K:PySem.W.Frag) (mg:Str -> Option Value) (C:Addr):Prop where
 xi:XI K C
 ini:PySem.W.findIn K (.ref C) "__init__" = some (some (.builtin "ValueError.__init__"))
 g:mg "TooFar" = some (.ref C)
def dG (u:Nat × Nat):L3.D:=.tup [.int (u.1:Nat),.int (u.2:Nat),.bl true]
theorem U2 (u:Nat × Nat):xB (dG u):=by simp only [dG,xB,zY,and_self]
theorem WF (us:List (Nat × Nat)):zY (us.map dG):=wX fun d h=>by obtain ⟨r,_,rfl⟩:=List.mem_map.mp h; exact U2 r
theorem Ko {H:Hp} {n q:Nat}:Iss K H [.int (n:Nat),.int (q:Nat),.bl true] [.int (n:Nat),.int (q:Nat),.bl true]:=by
 simp only [Iss,Is]
 exact ⟨_,_,rfl,rfl,_,_,rfl,rfl,_,_,rfl,rfl,rfl⟩
structure Rd (ps:List zH) (l:List Nat) (J:Nat):Prop where
 live:V8 ps l J
 len:∀ j,j <= J -> (wAt ps l j).length <= 10000
 most:J <= 10000
def vt (K:PySem.W.Frag) (CF:Addr):Sp:=fun vs H Q E=>∃ (a:Addr) (l:List Nat) (ps:List zH) (m:Int) (J:Nat),vs = [.ref a,.str (tx l),.int m] /\ LsA K H a (ps.map dR) /\ NeL ps /\ ps.length <= 100 /\ (∀ p ∈ ps,p.1.length <= 1000 /\ p.2.length <= 1000) /\ Rd ps l J /\
 ((zM (wAt ps l J) ps = none /\ (J:Int) <= m /\ ∀ (p S:Addr) (H':Hp),Same H H' -> H' p = some (.tup [.ref S,.str (tx (wAt ps l J))]) -> LsA K H' S ((sAt ps l J).map dG) -> H S = none -> Q (.ref p) H') \/
  (zM (wAt ps l J) ps ≠ none /\ (J:Int) = m /\ ∀ H',Same H H' -> E (.ref CF) none H'))
theorem XW {a:Addr} {ps:List zH} {σ:L2.St} {H:Hp} {Q:VK} {D:Addr} (hA:LsA K H a (ps.map dR)) (hP:∀ p ∈ ps,p.1.length <= 1000) (hpl:ps.length <= 100) (hD:H D = none) (q:∀ H',Same H H' -> H' D = some (.lst ((ps.map fun p=>(p.1.length:Int)).map V.int)) -> Q (.ref D) H') :
  CompL K a (xR 0) wq (tCB (QW K) (zV (tOp (uA K) (yN 0) (tC (.int 0))) wB)) 1 [] σ H Q D:=by
 have s16:=yE
 obtain ⟨xs,hX,hI⟩:=hA
 have hxl:=hI.len
 rw [List.length_map] at hxl
 refine CompL.by (xs:=xs) (fun i acc H'=>Same H H' /\ H' D = some (.lst acc) /\ acc = ((ps.take i).map fun p=>(p.1.length:Int)).map V.int) ⟨zg hD,zd,rfl⟩ (fun i acc H' _ h=>SqL.of (h.1 _ _ hX)) ?_ ?_
 ·rintro i x acc H' hx ⟨hs,hH,rfl⟩
  have hil:=(List.getElem?_eq_some_iff.mp hx).1
  obtain ⟨r,pr,hri,rfl,hqr⟩:=hI.getR hx
  have hm:=hP r (List.mem_of_getElem? hri)
  simp only [wq]
  rfl'
  refine ⟨xh,_,zm hs hqr,_,rfl,_,⟨by rw [yf]; omega,rfl⟩,hH,by rw [List.length_map,List.length_map,List.length_take]; omega,CNx.mk hil ⟨zF hs hD,zd,?_⟩⟩
  rw [z6 hri,List.map_append,List.map_append,yf]
  rfl
 ·rintro acc H' ⟨hs,hH,rfl⟩
  rw [hxl,List.take_length] at hH
  exact q H' hs hH
theorem zau {H:Hp} {rs:List zH} {xs:List V} {i:Nat} {r:zH} (hI:Iss K H (rs.map dR) xs) (hi:rs[i]? = some r):∃ p,atI xs (i:Int) = some (.ref p) /\ SqT K H p [.str (tx r.1),.str (tx r.2)]:=by
 have hl:=hI.len
 rw [List.length_map] at hl
 have hil:=(List.getElem?_eq_some_iff.mp hi).1
 obtain ⟨v,a1,b1⟩:=um (xs:=xs) (i:=(i:Int)) (by omega) (by omega)
 obtain ⟨r',p,h1,rfl,h3⟩:=hI.getR (j:=i) b1
 rw [hi] at h1
 cases h1
 exact ⟨p,a1,h3⟩
theorem sc_gone:zu ["rules", "word", "most", "longest", "steps", "use", "number", "place"] ["rules", "word", "most"] (zb wm):=⟨rfl,rfl,rfl,by decide +kernel,rfl,by decide +kernel,by decide +kernel⟩
theorem V7 {f CU CF:Addr} {fd:FuncData} {dV:Value} (B:Bt mg) (T:QA K mg CF) (TU:DNU P w K mg base CU) (F:FunD K "gone" "gone" wm dV f fd) (D_first_from:Df P w K mg base CX0 2 "first_from" ["rules", "word", "start"] [] (vU K)) (D_put:Df P w K mg base (CXx P w) 3 "put" ["word", "place", "old", "new"] [] (Xq CU)):yk P w K mg base (CXx P w) 4 f fd ["rules", "word", "most"] (vt K CF):=by
 refine FunD.okX F sc_gone (fun vs H Q E h=>?_) (fun cdv A outer s H vs Q E hr hx h=>?_)
 ·obtain ⟨a,l,ps,m,J,rfl,_⟩:=h
  rfl
 ·obtain ⟨a,l,ps,m,J,rfl,hA,hN,hpl,hP,hR,hq⟩:=h
  refine ⟨_,(zj (zv (i:=3) sc_gone.nd rfl (Or.inl rfl) (Xg (QC rfl) rfl B.max qG (za (yF (own:=["rule"]) (caps:=[]) (ix:=[]) (tt:=wq) (te:=(tCB (QW K) (zV (tOp (uA K) (yN 0) (tC (.int 0))) wB))) rfl (zR (sc:=zb wm) rfl (by decide +kernel) (by decide +kernel) (by decide +kernel) rfl (by decide +kernel) (by decide +kernel) rfl) (yG (pv 0)) (fun _ _ _ _ _ _=>zx (i:=0) (show List.Nodup [_] by decide) rfl (Or.inl rfl)) (fun _ _ _ _ _ _=>yy) (fun _ _ _ _ _ _=>(zn z9 rfl B.len PySem.boot_len (za (zt ix_tup (pv 0) ze (fun _ _=>rfl)) zc)))) zc) (Xp ze VO)))
   (zj (zv (i:=4) sc_gone.nd rfl (Or.inl rfl) (wM zc))
   (zj (zv (i:=5) sc_gone.nd rfl (Or.inl rfl) (cl0 D_first_from hr .nil rfl (za (pv 0) (za (pv 1) (za ze zc)))))
   (zj (Ze PassesOwn.leaving (zC op_notN' (pv 5) wv (zJ _))
    (zj (zW (zC op_ge' (zn z9 rfl B.len PySem.boot_len (za (pv 4) zc)) (pv 2) (zJ _))
     (zf (yA hx rfl T.xi.toXC T.ini rfl T.g (za yY zc)))
     zy)
    (zj (zv (i:=6) sc_gone.nd rfl (Or.inl rfl) (zt ix_tup (pv 5) ze (fun _ _=>rfl)))
    (zj (zv (i:=7) sc_gone.nd rfl (Or.inl rfl) (zt ix_tup (pv 5) ze (fun _ _=>rfl)))
    (zj (zv (i:=1) sc_gone.nd rfl (Or.inl rfl) (clP hx D_put hr .nil rfl (za (pv 1) (za (pv 7) (za (zt ix_tup (zt ix_list (pv 0) (pv 6) (fun _ _=>rfl)) ze (fun _ _=>rfl)) (za (zt ix_tup (zt ix_list (pv 0) (pv 6) (fun _ _=>rfl)) ze (fun _ _=>rfl)) zc))))))
    (zj (xu (wD PySem.F.plainAttrs_list PySem.F.slot_list_append PySem.F.type_list_append yZ (pv 4) (za (yl (za (pv 6) (za (pv 7) (za xb zc)))) zc)))
    (zf (zv (i:=5) sc_gone.nd rfl (Or.inl rfl) (cl0 D_first_from hr .nil rfl (za (pv 0) (za (pv 1) (za (zn (Vv rfl) rfl B.max qG (za ze (za (zD op_add (zD vA (pv 7) (pv 3)) ze) zc))) zc))))))))))))
   (zf (zw (yl (za (pv 4) (za (pv 1) zc))))))))),?_⟩
  have s16:=yE
  have s16:=yE
  refine zk (fun σ H'=>Same H H' /\ ∃ M:Int,(∀ p ∈ ps,(p.1.length:Int) <= M) /\ σ = [some (.ref a),some (.str (tx l)),some (.int m),some (.int M),none,none,none,none]) ?_ ?_
  ·rfl'
   simp only [KS]
   rfl'
   obtain ⟨xs,hX,hI⟩:=id hA
   exact ⟨⟨_,SqL.of hX⟩,fun D hD=>XW hA (fun p hp=>(hP p hp).1) hpl hD fun H' s' hH=>⟨D,_,0,rfl,rfl,SqL.of hH,fun z _ hz=>⟨s',z,fun p hp=>hz _ (List.mem_map.mpr ⟨p,hp,rfl⟩),rfl⟩⟩⟩
  rintro σ H1 ⟨s1,M,hM,rfl⟩
  refine zk (fun σ H'=>Same H H' /\ ∃ S:Addr,H S = none /\ H' S = some (.lst []) /\ σ = [some (.ref a),some (.str (tx l)),some (.int m),some (.int M),some (.ref S),none,none,none]) ?_ ?_
  ·rfl'
   exact ⟨by omega,fun p hp=>⟨s1.trans (zg hp),p,s1.free hp,zd,rfl⟩⟩
  rintro σ H2 ⟨s2,S,hSn,hS,rfl⟩
  refine zk (fun σ H'=>Same H H' /\ H' S = some (.lst []) /\ ∃ uv:V,UseAt H' (zM l ps) uv /\ σ = [some (.ref a),some (.str (tx l)),some (.int m),some (.int M),some (.ref S),some (uv),none,none]) ?_ ?_
  ·rfl'
   exact jq (st:=0) rfl (hA.same s2) hN (fun p hp=>(hP p hp).1) (by have:=hR.len 0 (Nat.zero_le _); exact Nat.le_trans this (by decide)) fun r v H' s' hu hF=>⟨s2.trans s',s' _ _ hS,(by rw [kY hF] at hu; exact hu)⟩
  rintro σ H3 ⟨s3,hS3,uv,hu,rfl⟩
  refine zk (fun σ H'=>Same H H' /\ zM (wAt ps l J) ps = none /\ LsA K H' S ((sAt ps l J).map dG) /\ ∃ v5 v6 v7,σ = [some (.ref a),some (.str (tx (wAt ps l J))),some (.int m),some (.int M),some (.ref S),v5,v6,v7]) ?_ ?_
  ·unfold YO
   refine ⟨fun k σ H'=>∃ (j:Nat) (uv:V) (v6 v7:Option V),k = J - j /\ j <= J /\ Same H H' /\ LsA K H' S ((sAt ps l j).map dG) /\ UseAt H' (zM (wAt ps l j) ps) uv /\ σ = [some (.ref a),some (.str (tx (wAt ps l j))),some (.int m),some (.int M),some (.ref S),some (uv),v6,v7],⟨_,0,uv,none,none,rfl,Nat.zero_le _,s3,⟨[],hS3,by simp only [sAt,List.range_zero,List.map_nil,Iss]⟩,hu,rfl⟩,?_⟩
   rintro k σ H' ⟨j,uv,v6,v7,rfl,hj,hs,hL,hu,rfl⟩
   have hlj:=hR.len j hj
   have hRm:=hR.most
   obtain ⟨xs,hX,hI⟩:=id hA
   rfl'
   refine xn (fun hne=>?_) fun hne=>?_
   ·rcases hu with ⟨_,h⟩ | ⟨n,q0,p,hf,rfl,hp⟩
    ·exact absurd h hne
    have hF:=Zv (wAt ps l j) ps hN
    rw [hf] at hF
    have hjJ:j < J \/ (j = J /\ (J:Int) = m /\ ∀ H',Same H H' -> E (.ref CF) none H'):=by
     by_cases e:j = J
     ·subst e
      rcases hq with ⟨h,_⟩ | ⟨_,h1,h2⟩
      ·rw [hf] at h
       cases h
      ·exact .inr ⟨rfl,h1,h2⟩
     ·exact .inl (by omega)
    have hJm:(J:Int) <= m:=by
     rcases hq with ⟨_,h,_⟩ | ⟨_,h,_⟩ <;> omega
    obtain ⟨rl,hrl,hst⟩:∃ rl,ps[n]? = some rl /\ zq (wAt ps l j) (q0:Int) rl.1 = true:=by
     rcases hF with ⟨h,_⟩ | ⟨n0,q1,e,_,_,_,a4,_⟩
     ·cases h
     ·cases e
      exact (ww a4).2
    have hlp:=hP rl (List.mem_of_getElem? hrl)
    have hw:=wg hf
    obtain ⟨pr,hai,hqr⟩:=zau hI hrl
    refine ⟨fun σ' H''=>∃ (uv:V) (v6 v7:Option V),j < J /\ Same H H'' /\ LsA K H'' S ((sAt ps l (j + 1)).map dG) /\ UseAt H'' (zM (wAt ps l (j + 1)) ps) uv /\ σ' = [some (.ref a),some (.str (tx (wAt ps l (j + 1)))),some (.int m),some (.int M),some (.ref S),some (uv),v6,v7],fun σ' H'' ⟨uv,v6,v7,a0,a1,a2,a3,a4⟩=>⟨J - (j + 1),by omega,j + 1,rfl,by omega,a1,a2,uv,a3,v6,v7,a4⟩,?_⟩
    obtain ⟨ys,hY,hJ2⟩:=id hL
    have hyl:=hJ2.len
    rw [List.length_map,j9] at hyl
    refine zk (fun σ' H''=>H'' = H' /\ j < J /\ σ' = [some (.ref a),some (.str (tx (wAt ps l j))),some (.int m),some (.int M),some (.ref S),some (.ref p),v6,v7]) ?_ ?_
    ·rfl'
     refine ⟨_,.inl ⟨_,SqL.of hY,rfl⟩,xn (fun hge=>?_) fun hge=>?_⟩
     ·rcases hjJ with h | ⟨_,_,h⟩
      ·omega
      ·exact ⟨by omega,h _ hs⟩
     ·rcases hjJ with h | ⟨e,h,_⟩
      ·exact h
      ·omega
    rintro σ' G1 ⟨rfl,hlt,rfl⟩
    refine zk (fun σ' H''=>H'' = G1 /\ σ' = [some (.ref a),some (.str (tx (wAt ps l j))),some (.int m),some (.int M),some (.ref S),some (.ref p),some (.int (n:Nat)),v7]) ?_ ?_
    ·rfl'
     exact ⟨_,SqT.of hp,rfl⟩
    rintro σ' G2 ⟨rfl,rfl⟩
    refine zk (fun σ' H''=>H'' = G2 /\ σ' = [some (.ref a),some (.str (tx (wAt ps l j))),some (.int m),some (.int M),some (.ref S),some (.ref p),some (.int (n:Nat)),some (.int (q0:Nat))]) ?_ ?_
    ·rfl'
     exact ⟨_,SqT.of hp,rfl⟩
    rintro σ' G3 ⟨rfl,rfl⟩
    refine zk (fun σ' H''=>H'' = G3 /\ σ' = [some (.ref a),some (.str (tx (wAt ps l (j + 1)))),some (.int m),some (.int M),some (.ref S),some (.ref p),some (.int (n:Nat)),some (.int (q0:Nat))]) ?_ ?_
    ·rfl'
     have hq2:=zm hs hqr
     exact ⟨_,SqL.of (hs _ _ hX),_,hai,_,rfl,_,hq2,_,rfl,_,SqL.of (hs _ _ hX),_,hai,_,rfl,_,hq2,_,rfl,wAt ps l j,rl.1,rl.2,(q0:Nat),rfl,hlj,by have:=hlp.1; omega,by have:=hlp.2; omega,fun _=>⟨rfl,by rw [hw]; unfold kX; rw [xJ hrl]⟩,fun h=>by rw [hst] at h; cases h⟩
    rintro σ' G4 ⟨rfl,rfl⟩
    refine zk (fun σ' H''=>Same H H'' /\ LsA K H'' S ((sAt ps l (j + 1)).map dG) /\ σ' = [some (.ref a),some (.str (tx (wAt ps l (j + 1)))),some (.int m),some (.int M),some (.ref S),some (.ref p),some (.int (n:Nat)),some (.int (q0:Nat))]) ?_ ?_
    ·rfl'
     refine ⟨.inl ⟨_,SqL.of hY⟩,by omega,fun t ht=>⟨_,zg ht _ _ hY,by omega,zF (hs.trans (zg ht)) hSn,?_⟩⟩
     rw [Zg,hf,List.map_append]
     exact LsA.pushT hY hJ2 ht Ko (WF _) (by simp only [zY,xB,and_self])
    rintro σ' G5 ⟨s5,hL5,rfl⟩
    have hl1:=hR.len (j + 1) hlt
    have hM0:=hM rl (List.mem_of_getElem? hrl)
    rfl'
    refine jq (st:=(if (q0:Int) - M + 1 > 0 then (q0:Int) - M + 1 else 0).toNat) (by split <;> omega) (hA.same s5) hN (fun p hp=>(hP p hp).1) (Nat.le_trans hl1 (by decide)) fun r v H' s' hu hF2=>⟨hlt,s5.trans s',hL5.same s',?_⟩
    have hb:=ZH (M:=M.toNat) (lo:=(if (q0:Int) - M + 1 > 0 then (q0:Int) - M + 1 else 0).toNat) hF hN (fun p hp=>by have:=hM p hp; omega) (by split <;> omega)
    rw [<- hw] at hb
    rw [kY (hb.window (Nat.zero_le _) hF2)] at hu
    exact hu
   ·have hv:uv = .non:=Decidable.not_not.mp hne
    have hf:zM (wAt ps l j) ps = none:=by
     rcases hu with ⟨h,_⟩ | ⟨_,_,_,_,h,_⟩
     ·exact h
     ·rw [hv] at h
      cases h
    have e:j = J:=by
     rcases Nat.lt_or_ge j J with h | h
     ·exact absurd hf (hR.live j h)
     ·omega
    subst e
    exact ⟨hs,hf,hL,rfl⟩
  rintro σ H4 ⟨s4,hF,hL,v5,v6,v7,rfl⟩
  rfl'
  rcases hq with ⟨_,_,hq⟩ | ⟨h,_⟩
  ·exact ⟨by omega,fun p hp=>hq p S _ (s4.trans (zg hp)) zd (hL.same (zg hp)) hSn⟩
  ·exact absurd hF h
abbrev Stp:=Int × Int × Bool
def dSt (t:Stp):D:=.tup [.int t.1,.int t.2.1,.bl t.2.2]
def sdl (r:zH) (f:Bool):zH:=if f = true then r else (r.2,r.1)
def yj (ps:List zH) (w:List Nat) (t:Stp):Option (List Nat) :=
 if 0 <= t.1 /\ t.1 < ps.length then (if zq w t.2.1 (sdl (ps.getD t.1.toNat ([],[])) t.2.2).1 = true then some (wA w t.2.1 (sdl (ps.getD t.1.toNat ([],[])) t.2.2).1 (sdl (ps.getD t.1.toNat ([],[])) t.2.2).2) else none) else none
theorem WY {H:Hp} {D p:Addr} {ds es:List L3.D} {xs vs:List V} (h1:H D = some (.lst xs)) (h2:Iss K H ds xs) (hp:H p = none) (hv:Iss K H es vs) (f:zY ds) (fe:zY es):LsA K (upd (upd H p (.tup vs)) D (.lst (xs ++ [.ref p]))) D (ds ++ [.tup es]):=by
 have e:(upd H p (.tup vs)) D = some (.lst xs):=zg hp _ _ h1
 exact LsA.snoc e (Iss.same (zg hp) _ _ h2) f (by simp only [xB]; exact fe) (Is.tup hp hv)
theorem QZ {H:Hp} {l m:List Nat}:Iss K H [dS l,dS m] [.str (tx l),.str (tx m)]:=by
 simp only [Iss,Is]
 exact ⟨_,_,rfl,rfl,_,_,rfl,rfl,rfl⟩
def XG (rs:List zH):Prop:=rs.length <= 30 /\ ∀ r ∈ rs,r.1.length <= 100 /\ r.2.length <= 100
theorem VD {H:Hp} {t:Stp} {v:V} (h:Is K H (dSt t) v):∃ p,v = .ref p /\ SqT K H p [.int t.1,.int t.2.1,.bl t.2.2]:=by
 simp only [dSt,Is,Iss] at h
 obtain ⟨a,xs,e,hs,v1,r1,rfl,rfl,v2,r2,rfl,rfl,v3,r3,rfl,rfl,rfl⟩:=h
 exact ⟨a,e,hs⟩
theorem Zy {H:Hp} {p:Addr} {t:Stp} (h:SqT K H p [.int t.1,.int t.2.1,.bl t.2.2]):Is K H (dSt t) (.ref p):=by
 simp only [dSt,Is,Iss]
 exact ⟨p,_,rfl,h,_,_,rfl,rfl,_,_,rfl,rfl,_,_,rfl,rfl,rfl⟩
theorem VB {H:Hp} {i j:Int} {b:Bool}:Iss K H [.int i,.int j,.bl b] [.int i,.int j,.bl b]:=by
 simp only [Iss,Is]
 exact ⟨_,_,rfl,rfl,_,_,rfl,rfl,_,_,rfl,rfl,rfl⟩
theorem xv (rs:List Stp):zY (rs.map dSt):=wX fun d h=>by obtain ⟨r,_,rfl⟩:=List.mem_map.mp h; simp only [dSt,xB,zY,and_self]
theorem Us (rs:List Stp):wz (rs.map dSt) <= 1:=qK fun d h=>by obtain ⟨r,_,rfl⟩:=List.mem_map.mp h; simp only [dSt,dpD,wz]; omega
theorem wa {H:Hp} {rs:List Stp} {vs:List V} {j:Nat} {v:V} (h:Iss K H (rs.map dSt) vs) (q:vs[j]? = some v):∃ r p,rs[j]? = some r /\ v = .ref p /\ SqT K H p [.int r.1,.int r.2.1,.bl r.2.2]:=by
 obtain ⟨d,e,i⟩:=h.get q
 rw [List.getElem?_map] at e
 obtain ⟨r,hr,rfl⟩:=Option.map_eq_some_iff.mp e
 obtain ⟨p,e1,e2⟩:=VD i
 exact ⟨r,p,hr,e1,e2⟩
theorem Jp {H:Hp} {rs:List zH} {xs:List V} {i:Int} (hI:Iss K H (rs.map dR) xs) (h0:0 <= i) (hi:i < rs.length):∃ p,atI xs i = some (.ref p) /\ rs[i.toNat]? = some (rs.getD i.toNat ([],[])) /\ SqT K H p [.str (tx (rs.getD i.toNat ([],[])).1),.str (tx (rs.getD i.toNat ([],[])).2)]:=by
 have hl:=hI.len
 rw [List.length_map] at hl
 obtain ⟨v,a1,b1⟩:=um (xs:=xs) (i:=i) h0 (by omega)
 obtain ⟨r,p,h1,rfl,h3⟩:=hI.getR b1
 have e:rs.getD i.toNat ([],[]) = r:=by rw [List.getD_eq_getElem?_getD,h1]; rfl
 rw [e]
 exact ⟨p,a1,h1,h3⟩
theorem ku {rs:List zH} (h:XG rs) (i:Nat):(rs.getD i ([],[])).1.length <= 100 /\ (rs.getD i ([],[])).2.length <= 100:=by
 rw [List.getD_eq_getElem?_getD]
 cases e:rs[i]? with
 | none=>exact ⟨Nat.zero_le _,Nat.zero_le _⟩
 | some r=>exact h.2 r (List.mem_of_getElem? e)
theorem yH {ps:List zH} {w:List Nat} {t:Stp} (h:¬ (0 <= t.1 /\ t.1 < ps.length)):yj ps w t = none:=if_neg h
theorem yn {ps:List zH} {w:List Nat} {t:Stp} (h:0 <= t.1 /\ t.1 < ps.length):yj ps w t = if zq w t.2.1 (sdl (ps.getD t.1.toNat ([],[])) t.2.2).1 = true then some (wA w t.2.1 (sdl (ps.getD t.1.toNat ([],[])) t.2.2).1 (sdl (ps.getD t.1.toNat ([],[])) t.2.2).2) else none:=if_pos h
def Ch (rs:List zH) (ws:List (List Nat)) (ss:List Stp):Prop:=ws.length = ss.length + 1 /\ ∀ i s,ss[i]? = some s -> ∃ w w',ws[i]? = some w /\ ws[i + 1]? = some w' /\ yj rs w s = some w'
def bk (s:Stp):Stp:=(s.1,s.2.1,!s.2.2)
def yC (ss:List Stp):List Stp:=ss.reverse.map bk
def mvL (ss:List Stp) (z:Int):List Stp:=ss.map fun s=>(s.1,s.2.1 + z,s.2.2)
theorem Ub (r:zH) (f:Bool):sdl r (!f) = ((sdl r f).2,(sdl r f).1):=by cases f <;> rfl
theorem qh {rs:List zH} {w w':List Nat} {s:Stp} (h:yj rs w s = some w'):yj rs w' (bk s) = some w:=by
 by_cases hb:0 <= s.1 /\ s.1 < rs.length
 ·rw [yn hb] at h
  have hb':0 <= (bk s).1 /\ (bk s).1 < rs.length:=hb
  rw [yn hb']
  simp only [bk,Ub]
  generalize sdl (rs.getD s.1.toNat ([],[])) s.2.2 = r at *
  by_cases hs:zq w s.2.1 r.1 = true
  ·rw [if_pos hs] at h
   cases h
   obtain ⟨e1,e2⟩:=Vb r.2 hs
   rw [if_pos e1,e2]
  ·rw [if_neg hs] at h
   cases h
 ·rw [yH hb] at h
  cases h
theorem Ch.back {rs:List zH} {ws:List (List Nat)} {ss:List Stp} (h:Ch rs ws ss):Ch rs ws.reverse (yC ss):=by
 obtain ⟨hl,hs⟩:=h
 refine ⟨by simp [yC,hl],fun i s hi=>?_⟩
 have hil:i < ss.length:=by have:=(List.getElem?_eq_some_iff.mp hi).1; simpa [yC] using this
 unfold yC at hi
 rw [List.getElem?_map,List.getElem?_reverse hil] at hi
 obtain ⟨s0,h0,rfl⟩:=Option.map_eq_some_iff.mp hi
 obtain ⟨w,w',e1,e2,e3⟩:=hs _ _ h0
 refine ⟨w',w,?_,?_,qh e3⟩
 ·rw [List.getElem?_reverse (by omega),<- e2]
  congr 1
  omega
 ·rw [List.getElem?_reverse (by omega),<- e1]
  congr 1
  omega
theorem Zu {a w b:List Nat} {k:Nat} (h:k <= w.length):(a ++ w ++ b).drop (a.length + k) = w.drop k ++ b:=by
 rw [List.append_assoc,<- List.drop_drop,List.drop_left,List.drop_append_of_le_length h]
theorem jh {a w b o:List Nat} {k:Int} (h:zq w k o = true):zq (a ++ w ++ b) (k + (a.length:Int)) o = true:=by
 obtain ⟨_,_,h0,h1⟩:=yz h
 unfold zq at h ⊢
 rw [decide_eq_true_eq] at h ⊢
 obtain ⟨_,_,h2⟩:=h
 refine ⟨by omega,by simp only [List.length_append]; omega,?_⟩
 rw [show (k + (a.length:Int)).toNat = a.length + k.toNat by omega,Zu (by omega),List.take_append_of_le_length (by rw [List.length_drop]; omega),h2]
theorem ZW {a w b o n:List Nat} {k:Int} (h:zq w k o = true):wA (a ++ w ++ b) (k + (a.length:Int)) o n = a ++ wA w k o n ++ b:=by
 obtain ⟨_,_,h0,h1⟩:=yz h
 unfold wA
 rw [show (k + (a.length:Int)).toNat = a.length + k.toNat by omega]
 have e1:(a ++ w ++ b).take (a.length + k.toNat) = a ++ w.take k.toNat:=by
  rw [List.append_assoc,List.take_length_add_append,List.take_append_of_le_length (by omega)]
 have e2:(a ++ w ++ b).drop (a.length + k.toNat + o.length) = w.drop (k.toNat + o.length) ++ b:=by
  rw [Nat.add_assoc]
  exact Zu (by omega)
 rw [e1,e2]
 simp [List.append_assoc]
theorem vE {rs:List zH} {w w':List Nat} {s:Stp} (a b:List Nat) (h:yj rs w s = some w'):yj rs (a ++ w ++ b) (s.1,s.2.1 + (a.length:Int),s.2.2) = some (a ++ w' ++ b):=by
 by_cases hb:0 <= s.1 /\ s.1 < rs.length
 ·rw [yn hb] at h
  rw [yn (by exact hb)]
  simp only
  generalize sdl (rs.getD s.1.toNat ([],[])) s.2.2 = r at *
  by_cases hs:zq w s.2.1 r.1 = true
  ·rw [if_pos hs] at h
   cases h
   rw [if_pos (jh hs),ZW hs]
  ·rw [if_neg hs] at h
   cases h
 ·rw [yH hb] at h
  cases h
theorem Ch.within {rs:List zH} {ws:List (List Nat)} {ss:List Stp} (a b:List Nat) (h:Ch rs ws ss):Ch rs (ws.map fun w=>a ++ w ++ b) (mvL ss (a.length:Int)):=by
 obtain ⟨hl,hs⟩:=h
 refine ⟨by simp [mvL,hl],fun i s hi=>?_⟩
 unfold mvL at hi
 rw [List.getElem?_map] at hi
 obtain ⟨s0,h0,rfl⟩:=Option.map_eq_some_iff.mp hi
 obtain ⟨w,w',e1,e2,e3⟩:=hs _ _ h0
 exact ⟨a ++ w ++ b,a ++ w' ++ b,by rw [List.getElem?_map,e1]; rfl,by rw [List.getElem?_map,e2]; rfl,vE a b e3⟩
def Fit (rs:List zH) (w:List Nat) (m:Int) (s:Stp):Prop:=∃ w',yj rs w s = some w' /\ (w'.length:Int) <= m
theorem Zm {w o n:List Nat} {k:Int} (h:zq w k o = true):(wA w k o n).length + o.length = w.length + n.length:=by
 obtain ⟨e,hl,h0,h1⟩:=yz h
 unfold wA
 simp only [List.length_append,List.length_drop,hl]
 omega
theorem ub {H:Hp} {D p:Addr} {ds es:List L3.D} {xs vs:List V} (h1:H D = some (.lst xs)) (h2:Iss K H ds xs) (hp:H p = none) (hv:Iss K H es vs) (f:zY ds) (fe:zY es):Iss K (upd (upd H p (.tup vs)) D (.lst (xs ++ [.ref p]))) (ds ++ [.tup es]) (xs ++ [.ref p]):=by
 obtain ⟨ys,hy1,hy2⟩:=WY h1 h2 hp hv f fe
 rw [zd] at hy1
 cases hy1
 exact hy2
def vm (K:PySem.W.Frag):Sp:=fun vs H Q _=>∃ (t:Addr) (ss:List Stp),vs = [.ref t] /\ Is K H (.lst (ss.map dSt)) (.ref t) /\ ss.length <= 1000 /\ ∀ (D:Addr) (H':Hp),H D = none -> Same H H' -> LsA K H' D ((yC ss).map dSt) -> Q (.ref D) H'
theorem qQ {t:Addr} {ss:List Stp} {H:Hp} {Q:VK} {E:XK} (h1:Is K H (.lst (ss.map dSt)) (.ref t)) (h2:ss.length <= 1000) (h:∀ (D:Addr) (H':Hp),H D = none -> Same H H' -> LsA K H' D ((yC ss).map dSt) -> Q (.ref D) H'):vm K [.ref t] H Q E:=⟨t,ss,rfl,h1,h2,h⟩
theorem Uv {ss:List Stp} {i:Nat} {s:Stp} (h:ss.reverse[i]? = some s):(yC ss).take (i + 1) = (yC ss).take i ++ [bk s]:=z6 (by unfold yC; rw [List.getElem?_map,h]; rfl)
theorem V4:zu ["steps"] ["steps"] (zb uw):=⟨rfl,rfl,rfl,by decide +kernel,rfl,by decide +kernel,by decide +kernel⟩
theorem Qg {f:Addr} {fd:FuncData} (B:Bt mg)  (F:Fun K "back" "back" uw f fd)  : yk P w K mg base CX0 1 f fd ["steps"] (vm K):=by
 refine F.ok V4 (fun vs H Q E h=>?_) (fun cdv A outer s H vs Q E hr h=>?_)
 ·obtain ⟨t,ss,rfl,_⟩:=h
  rfl
 ·obtain ⟨t,ss,rfl,hT,hsl,q⟩:=h
  refine ⟨_,(zf (zw (yF (own:=["step"]) (caps:=[]) (ix:=[]) (tt:=wq) (te:=(UK (zV (tOp (uA K) (yN 0) (tC (.int 0))) (zV (tOp (uA K) (yN 0) (tC (.int 1))) (zV (Ul (tOp (uA K) (yN 0) (tC (.int 2)))) wB))))) rfl (zR (sc:=zb uw) rfl (by decide +kernel) (by decide +kernel) (by decide +kernel) rfl (by decide +kernel) (by decide +kernel) rfl) (Qv rfl B.rev (za (pv 0) zc)) (fun _ _ _ _ _ _=>zx (i:=0) (show List.Nodup [_] by decide) rfl (Or.inl rfl)) (fun _ _ _ _ _ _=>yy) (fun _ _ _ _ _ _=>(yl (za (zt ix_tup (pv 0) ze (fun _ _=>rfl)) (za (zt ix_tup (pv 0) ze (fun _ _=>rfl)) (za (VS (zt ix_tup (pv 0) ze (fun _ _=>rfl))) zc)))))))),?_⟩
  have s16:=yE
  rfl'
  simp only [Is] at hT
  obtain ⟨_,ts,e,hTs,hJ⟩:=hT
  cases e
  have htl:=hJ.len
  rw [List.length_map] at htl
  have hbl:(yC ss).length = ss.length:=by simp [yC]
  refine ⟨ts,hTs,fun D hD=>CompV.by (xs:=ts) (fun i acc H'=>Same H H' /\ H' D = some (.lst acc) /\ Iss K H' (((yC ss).take i).map dSt) acc) ⟨zg hD,zd,by simp only [List.take_zero,List.map_nil,Iss]⟩ (fun i acc H' _ h=>h.1.seq hTs) ?_ ?_⟩
  ·rintro i x acc H' hx ⟨hs,hH,hA⟩
   have hi:i < ts.length:=by have:=(List.getElem?_eq_some_iff.mp hx).1; simpa using this
   rw [List.getElem?_reverse hi] at hx
   obtain ⟨s,ps,hsi,rfl,hqs⟩:=wa hJ hx
   have hsr:ss.reverse[i]? = some s:=by rw [List.getElem?_reverse (by omega),<- hsi,htl]
   have hal:=hA.len
   rw [List.length_map,List.length_take] at hal
   simp only [wq]
   rfl'
   refine ⟨xh,_,zm hs hqs,_,rfl,_,zm hs hqs,_,rfl,_,zm hs hqs,_,rfl,_,rfl,by omega,fun p hp=>⟨zg hp _ _ hH,by omega,CNx.mk hi ⟨zF (hs.trans (zg hp)) hD,zd,?_⟩⟩⟩
   rw [Uv hsr,List.map_append]
   exact ub hH hA hp VB (xv _) (by simp only [zY,xB,and_self])
  ·rintro acc H' ⟨hs,hH,hA⟩
   rw [htl,<- hbl,List.take_length] at hA
   exact q D H' hD hs ⟨acc,hH,hA⟩
def vV (K:PySem.W.Frag):Sp:=fun vs H Q _=>∃ (t:Addr) (ss:List Stp) (z:Int),vs = [.ref t,.int z] /\ Is K H (.lst (ss.map dSt)) (.ref t) /\ ss.length <= 1000 /\ ∀ (D:Addr) (H':Hp),H D = none -> Same H H' -> LsA K H' D ((mvL ss z).map dSt) -> Q (.ref D) H'
theorem jG {t:Addr} {ss:List Stp} {z:Int} {H:Hp} {Q:VK} {E:XK} (h1:Is K H (.lst (ss.map dSt)) (.ref t)) (h2:ss.length <= 1000) (h:∀ (D:Addr) (H':Hp),H D = none -> Same H H' -> LsA K H' D ((mvL ss z).map dSt) -> Q (.ref D) H'):vV K [.ref t,.int z] H Q E:=⟨t,ss,z,rfl,h1,h2,h⟩
theorem W6:zu ["steps", "size"] ["steps", "size"] (zb wx):=⟨rfl,rfl,rfl,by decide +kernel,rfl,by decide +kernel,by decide +kernel⟩
theorem WJ {f:Addr} {fd:FuncData} (B:Bt mg)  (F:Fun K "moved" "moved" wx f fd)  : yk P w K mg base CX0 1 f fd ["steps", "size"] (vV K):=by
 refine F.ok W6 (fun vs H Q E h=>?_) (fun cdv A outer s H vs Q E hr h=>?_)
 ·obtain ⟨t,ss,z,rfl,_⟩:=h
  rfl
 ·obtain ⟨t,ss,z,rfl,hT,hsl,q⟩:=h
  refine ⟨_,(zf (zw (yF (own:=["step"]) (caps:=["size"]) (ix:=[1]) (tt:=wq) (te:=(UK (zV (tOp (uA K) (yN 0) (tC (.int 0))) (zV (tOp WK (tOp (uA K) (yN 0) (tC (.int 1))) (yN 1)) (zV (tOp (uA K) (yN 0) (tC (.int 2))) wB))))) rfl (zR (sc:=zb wx) rfl (by decide +kernel) (by decide +kernel) (by decide +kernel) rfl (by decide +kernel) (by decide +kernel) rfl) (yG (pv 0)) (fun _ _ _ _ _ _=>zx (i:=0) (show List.Nodup [_,_] by decide) rfl (Or.inl rfl)) (fun _ _ _ _ _ _=>yy) (fun _ _ _ _ _ _=>(yl (za (zt ix_tup (pv 0) ze (fun _ _=>rfl)) (za (zD yQ (zt ix_tup (pv 0) ze (fun _ _=>rfl)) (pv 1)) (za (zt ix_tup (pv 0) ze (fun _ _=>rfl)) zc)))))))),?_⟩
  have s16:=yE
  rfl'
  simp only [Is] at hT
  obtain ⟨_,ts,e,hTs,hJ⟩:=hT
  cases e
  have htl:=hJ.len
  rw [List.length_map] at htl
  have hbl:(mvL ss z).length = ss.length:=by simp [mvL]
  refine ⟨⟨ts,hTs⟩,fun D hD=>CompL.by (xs:=ts) (fun i acc H'=>Same H H' /\ H' D = some (.lst acc) /\ Iss K H' (((mvL ss z).take i).map dSt) acc) ⟨zg hD,zd,by simp only [List.take_zero,List.map_nil,Iss]⟩ (fun i acc H' _ h=>h.1.seq hTs) ?_ ?_⟩
  ·rintro i x acc H' hx ⟨hs,hH,hA⟩
   have hi:=(List.getElem?_eq_some_iff.mp hx).1
   obtain ⟨s,ps,hsi,rfl,hqs⟩:=wa hJ hx
   have hm:(mvL ss z)[i]? = some (s.1,s.2.1 + z,s.2.2):=by unfold mvL; rw [List.getElem?_map,hsi]; rfl
   have hal:=hA.len
   rw [List.length_map,List.length_take] at hal
   simp only [wq]
   rfl'
   refine ⟨xh,_,zm hs hqs,_,rfl,_,zm hs hqs,_,rfl,_,rfl,_,zm hs hqs,_,rfl,by omega,fun p hp=>⟨zg hp _ _ hH,by omega,CNx.mk hi ⟨zF (hs.trans (zg hp)) hD,zd,?_⟩⟩⟩
   rw [z6 hm,List.map_append]
   exact ub hH hA hp VB (xv _) (by simp only [zY,xB,and_self])
  ·rintro acc H' ⟨hs,hH,hA⟩
   rw [htl,<- hbl,List.take_length] at hA
   exact q D H' hD hs ⟨acc,hH,hA⟩
abbrev Ent:=List Nat × List Nat × List Stp
def dE (e:Ent):L3.D:=.tup [dS e.1,dS e.2.1,.lst (e.2.2.map dSt)]
def Yx (es:List Ent) (u:Stp):List Stp:=mvL (if u.2.2 = true then (es.getD u.1.toNat ([],[],[])).2.2 else yC (es.getD u.1.toNat ([],[],[])).2.2) u.2.1
def byL (es:List Ent) (us:List Stp):List Stp:=us.flatMap (Yx es)
theorem QI {H:Hp} {e:Ent} {v:V} (h:Is K H (dE e) v):∃ p s,v = .ref p /\ SqT K H p [.str (tx e.1),.str (tx e.2.1),.ref s] /\ Is K H (.lst (e.2.2.map dSt)) (.ref s):=by
 simp only [dE,Is,Iss] at h
 obtain ⟨a,xs,e0,hs,v1,r1,rfl,rfl,v2,r2,rfl,rfl,v3,r3,rfl,⟨s,zs,rfl,h1,h2⟩,rfl⟩:=h
 refine ⟨a,s,e0,hs,?_⟩
 simp only [Is]
 exact ⟨s,zs,rfl,h1,h2⟩
theorem zaq {H:Hp} {es:List Ent} {xs:List V} {i:Int} (hI:Iss K H (es.map dE) xs) (h0:0 <= i) (hi:i < es.length):∃ p s,atI xs i = some (.ref p) /\ es[i.toNat]? = some (es.getD i.toNat ([],[],[])) /\ SqT K H p [.str (tx (es.getD i.toNat ([],[],[])).1),.str (tx (es.getD i.toNat ([],[],[])).2.1),.ref s] /\ Is K H (.lst ((es.getD i.toNat ([],[],[])).2.2.map dSt)) (.ref s):=by
 have hl:=hI.len
 rw [List.length_map] at hl
 obtain ⟨v,a1,b1⟩:=um (xs:=xs) (i:=i) h0 (by omega)
 obtain ⟨d,e,ix⟩:=hI.get b1
 rw [List.getElem?_map] at e
 obtain ⟨r,hr,rfl⟩:=Option.map_eq_some_iff.mp e
 have e:es.getD i.toNat ([],[],[]) = r:=by rw [List.getD_eq_getElem?_getD,hr]; rfl
 rw [e]
 obtain ⟨p,s,rfl,h2,h3⟩:=QI ix
 exact ⟨p,s,a1,hr,h2,h3⟩
theorem Xa (ss:List Stp) (z:Int):(mvL ss z).length = ss.length:=by simp [mvL]
theorem wj (ss:List Stp):(yC ss).length = ss.length:=by simp [yC]
def W7 (K:PySem.W.Frag):Sp:=fun vs H Q _=>∃ (a t:Addr) (es:List Ent) (us:List Stp),vs = [.ref a,.ref t] /\ Is K H (.lst (es.map dE)) (.ref a) /\ Is K H (.lst (us.map dSt)) (.ref t) /\ us.length <= 100 /\ (∀ e ∈ es,e.2.2.length <= 300) /\ (∀ u ∈ us,0 <= u.1 /\ u.1 < es.length) /\ ∀ (D:Addr) (H':Hp),H D = none -> Same H H' -> LsA K H' D ((byL es us).map dSt) -> Q (.ref D) H'
theorem sc_by_pacts:zu ["entries", "steps", "chain", "step", "own"] ["entries", "steps"] (zb yW):=⟨rfl,rfl,rfl,by decide +kernel,rfl,by decide +kernel,by decide +kernel⟩
theorem j8 {f:Addr} {fd:FuncData} (B:Bt mg)  (F:Fun K "by_pacts" "by_pacts" yW f fd) (D_moved:Df P w K mg base CX0 1 "moved" ["steps", "size"] [] (vV K)) (D_back:Df P w K mg base CX0 1 "back" ["steps"] [] (vm K)):yk P w K mg base CX0 2 f fd ["entries", "steps"] (W7 K):=by
 refine F.ok sc_by_pacts (fun vs H Q E h=>?_) (fun cdv A outer s H vs Q E hr h=>?_)
 ·obtain ⟨a,t,es,us,rfl,_⟩:=h
  rfl
 ·obtain ⟨a,t,es,us,rfl,hE,hU,hul,hel,hub,q⟩:=h
  refine ⟨_,(zj (zv (i:=2) sc_by_pacts.nd rfl (Or.inl rfl) (wM zc))
   (zj (yD PassesOwn.never rfl (yG (pv 1)) (zx (i:=3) sc_by_pacts.nd rfl (Or.inl rfl))
    (zj (zv (i:=4) sc_by_pacts.nd rfl (Or.inl rfl) (zt ix_tup (zt ix_list (pv 0) (zt ix_tup (pv 3) ze (fun _ _=>rfl)) (fun _ _=>rfl)) ze (fun _ _=>rfl)))
    (zf (xu (wD PySem.F.plainAttrs_list PySem.F.slot_list_extend PySem.F.type_list_extend Yz (pv 2) (za (cl0 D_moved hr .nil rfl (za (Vh (xV (zt ix_tup (pv 3) ze (fun _ _=>rfl)) (fun _=>rfl)) (pv 4) (cl0 D_back hr .nil rfl (za (pv 4) zc))) (za (zt ix_tup (pv 3) ze (fun _ _=>rfl)) zc))) zc))))))
   (zf (zw (pv 2))))),?_⟩
  have s16:=yE
  have hE':=hE
  have hU':=hU
  simp only [Is] at hE' hU'
  obtain ⟨_,xs,e,hX,hI⟩:=hE'
  cases e
  obtain ⟨_,ts,e,hTs,hJ⟩:=hU'
  cases e
  have htl:=hJ.len
  rw [List.length_map] at htl
  refine zk (fun σ H'=>∃ D,H D = none /\ Same H H' /\ H' D = some (.lst []) /\ σ = [some (.ref a),some (.ref t),some (.ref D),none,none]) ?_ ?_
  ·rfl'
   exact ⟨by omega,fun p hp=>⟨p,hp,zg hp,zd,rfl⟩⟩
  rintro σ H1 ⟨D,hD,s1,hD1,rfl⟩
  refine zk (fun σ H'=>Same H H' /\ LsA K H' D ((byL es us).map dSt) /\ ∃ v3 v4,σ = [some (.ref a),some (.ref t),some (.ref D),v3,v4]) ?_ ?_
  ·rfl'
   refine ⟨⟨_,s1.seq hTs⟩,ForL.by (xs:=ts) (fun i σ H'=>Same H H' /\ LsA K H' D ((byL es (us.take i)).map dSt) /\ (byL es (us.take i)).length <= i * 300 /\ ∃ v3 v4,σ = [some (.ref a),some (.ref t),some (.ref D),v3,v4]) ⟨s1,⟨[],hD1,by simp only [List.take_zero,byL,List.flatMap_nil,List.map_nil,Iss]⟩,by simp [byL],_,_,rfl⟩ (fun i σ H' _ h=>h.1.seq hTs) ?_ ?_⟩
   ·rintro i x σ H' hx ⟨hs,hL,hl,v3,v4,rfl⟩
    obtain ⟨u,pu,hui,rfl,hqu⟩:=wa hJ hx
    have hil:=(List.getElem?_eq_some_iff.mp hui).1
    obtain ⟨u0,u1⟩:=hub u (List.mem_of_getElem? hui)
    obtain ⟨pe,se,g1,g2,g3,g4⟩:=zaq hI u0 u1
    have hle:=hel _ (List.mem_of_getElem? g2)
    have hby:byL es (us.take (i + 1)) = byL es (us.take i) ++ Yx es u:=by
     unfold byL
     rw [z6 hui,List.flatMap_append]
     simp
    simp only [xR,List.set_cons_succ,List.set_cons_zero]
    refine zk (fun σ H''=>H'' = H' /\ σ = [some (.ref a),some (.ref t),some (.ref D),some (.ref pu),some (.ref se)]) ?_ ?_
    ·rfl'
     exact ⟨_,zm hs hqu,_,rfl,_,_,rfl,hs.seq hX,_,g1,_,rfl,_,zm hs g3,rfl⟩
    rintro σ G ⟨rfl,rfl⟩
    obtain ⟨zs,hZ,hZI⟩:=id hL
    have hzl:=hZI.len
    rw [List.length_map] at hzl
    have hse:=Is.same hs _ _ g4
    have fin:∀ (ws:List Stp) (M:Addr) (G2:Hp),Yx es u = ws -> ws.length <= 300 -> Same G G2 -> LsA K G2 M (ws.map dSt) -> Yt (V.ref D) [V.ref M] G2 fun x H1=>Same H H1 /\ LsA K H1 D ((byL es (us.take (i + 1))).map dSt) /\ (byL es (us.take (i + 1))).length <= (i + 1) * 300:=fun ws M G2 ew hwl sg hM=>by
     obtain ⟨ys,hY,hYI⟩:=hM
     have hyl:=hYI.len
     rw [List.length_map] at hyl
     have hZ2:=sg _ _ hZ
     refine ⟨D,M,zs,ys,rfl,rfl,hZ2,hY,by omega,zF (hs.trans sg) hD,⟨_,zd,?_⟩,?_⟩
     ·rw [hby,ew,List.map_append]
      exact Iss.append (Iss.updL hZ2 _ _ (xv _) (Iss.same sg _ _ hZI)) (Iss.updL hZ2 _ _ (xv _) hYI)
     ·rw [hby,ew,List.length_append]
      omega
    rfl'
    refine ⟨.inl ⟨_,SqL.of hZ⟩,_,zm hs hqu,_,rfl,_,rfl,xn (fun hf=>⟨_,zm hs hqu,_,rfl,jG hse (by omega) fun M G2 _ sg hM=>fin _ M G2 (by unfold Yx; rw [if_pos hf]) (by rw [Xa]; omega) sg hM⟩) fun hf=>qQ hse (by omega) fun M0 G1 _ sg0 hM0=>⟨_,zm (hs.trans sg0) hqu,_,rfl,jG hM0.is (by rw [wj]; omega) fun M G2 _ sg hM=>fin _ M G2 (by unfold Yx; rw [if_neg hf]) (by rw [Xa,wj]; omega) (sg0.trans sg) hM⟩⟩
   ·rintro σ H' ⟨hs,hL,hl,v3,v4,rfl⟩
    rw [htl,List.take_length] at hL
    exact ⟨hs,hL,_,_,rfl⟩
  rintro σ H2 ⟨s2,hL2,v3,v4,rfl⟩
  rfl'
  exact q D H2 hD s2 hL2
def z8 (rs:List zH):List Nat -> List Stp -> Option (List Nat)
 | w,[]=>some w
 | w,s :: ss=>(yj rs w s).bind fun w'=>z8 rs w' ss
theorem xN (rs:List zH):∀ (ss ts:List Stp) (w:List Nat),z8 rs w (ss ++ ts) = (z8 rs w ss).bind fun w'=>z8 rs w' ts
 | [],ts,w=>rfl
 | s :: ss,ts,w=>by
  simp only [List.cons_append,z8]
  cases yj rs w s with
  | none=>rfl
  | some w1=>exact xN rs ss ts w1
theorem wU {rs:List zH} {s:Stp} {ss:List Stp} {w w':List Nat} (h:z8 rs w (s :: ss) = some w'):∃ w1,yj rs w s = some w1 /\ z8 rs w1 ss = some w':=by
 simp only [z8] at h
 obtain ⟨w1,h1,h2⟩:=Option.bind_eq_some_iff.mp h
 exact ⟨w1,h1,h2⟩
theorem uF {rs:List zH} {s:Stp} {ss:List Stp} {w w1 w2:List Nat} (h:z8 rs w ss = some w1) (h2:yj rs w1 s = some w2):z8 rs w (ss ++ [s]) = some w2:=by
 rw [xN,h]
 simp only [z8,Option.bind_some]
 rw [h2]
 rfl
theorem Y6 (s:Stp) (ss:List Stp):yC (s :: ss) = yC ss ++ [bk s]:=by simp [yC]
theorem xX {rs:List zH}:∀ {ss:List Stp} {w w':List Nat},z8 rs w ss = some w' -> z8 rs w' (yC ss) = some w
 | [],w,w',h=>by cases h; rfl
 | s :: ss,w,w',h=>by
  obtain ⟨w1,h1,h2⟩:=wU h
  rw [Y6]
  exact uF (xX h2) (qh h1)
theorem uM {rs:List zH} (a b:List Nat):∀ {ss:List Stp} {w w':List Nat},z8 rs w ss = some w' -> z8 rs (a ++ w ++ b) (mvL ss (a.length:Int)) = some (a ++ w' ++ b)
 | [],w,w',h=>by cases h; rfl
 | s :: ss,w,w',h=>by
  obtain ⟨w1,h1,h2⟩:=wU h
  have e:mvL (s :: ss) (a.length:Int) = (s.1,s.2.1 + (a.length:Int),s.2.2) :: mvL ss (a.length:Int):=rfl
  rw [e]
  simp only [z8]
  rw [vE a b h1]
  exact uM a b h2
def EOk (rs:List zH) (e:Ent):Prop:=z8 rs e.1 e.2.2 = some e.2.1
def zh (es:List Ent):List zH:=es.map fun e=>(e.1,e.2.1)
theorem Ve {rs:List zH} {es:List Ent} (hE:∀ e ∈ es,EOk rs e) {u:Stp} {w w':List Nat} (h:yj (zh es) w u = some w'):z8 rs w (Yx es u) = some w':=by
 have hb:0 <= u.1 /\ u.1 < (zh es).length:=Decidable.byContradiction fun hb=>by rw [yH hb] at h; cases h
 rw [yn hb] at h
 have hl:(zh es).length = es.length:=by unfold zh; rw [List.length_map]
 rw [hl] at hb
 have hg:es[u.1.toNat]? = some (es.getD u.1.toNat ([],[],[])):=by
  rw [List.getD_eq_getElem?_getD,List.getElem?_eq_getElem (by omega)]
  rfl
 have hp:(zh es).getD u.1.toNat ([],[]) = ((es.getD u.1.toNat ([],[],[])).1,(es.getD u.1.toNat ([],[],[])).2.1):=by
  unfold zh
  rw [List.getD_eq_getElem?_getD,List.getElem?_map,hg]
  rfl
 rw [hp] at h
 have he:=hE _ (List.mem_of_getElem? hg)
 unfold Yx
 generalize es.getD u.1.toNat ([],[],[]) = e at *
 have key:∀ (o n:List Nat) (ss:List Stp),sdl (e.1,e.2.1) u.2.2 = (o,n) -> z8 rs o ss = some n -> z8 rs w (mvL ss u.2.1) = some w':=fun o n ss hs hw=>by
  rw [hs] at h
  by_cases hst:zq w u.2.1 o = true
  ·rw [if_pos hst] at h
   cases h
   obtain ⟨e1,e2,h0,h1⟩:=yz hst
   have:=uM (w.take u.2.1.toNat) (w.drop (u.2.1.toNat + o.length)) hw
   rw [e1,e2,show ((u.2.1.toNat:Nat):Int) = u.2.1 by omega] at this
   exact this
  ·rw [if_neg hst] at h
   cases h
 cases hf:u.2.2 with
 | true =>
  rw [if_pos rfl]
  exact key e.1 e.2.1 e.2.2 (by rw [hf]; rfl) he
 | false =>
  rw [if_neg (by decide)]
  exact key e.2.1 e.1 (yC e.2.2) (by rw [hf]; rfl) (xX he)
theorem kB {rs:List zH} {es:List Ent} (hE:∀ e ∈ es,EOk rs e):∀ {us:List Stp} {w w':List Nat},z8 (zh es) w us = some w' -> z8 rs w (byL es us) = some w'
 | [],w,w',h=>by cases h; rfl
 | u :: us,w,w',h=>by
  obtain ⟨w1,h1,h2⟩:=wU h
  have e:byL es (u :: us) = Yx es u ++ byL es us:=by simp [byL]
  rw [e,xN,Ve hE h1]
  exact kB hE h2
theorem YB {rs:List zH} (ok:XG rs) {w w':List Nat} {s:Stp} (h:yj rs w s = some w'):w'.length <= w.length + 100:=by
 have hb:0 <= s.1 /\ s.1 < rs.length:=Decidable.byContradiction fun hb=>by rw [yH hb] at h; cases h
 rw [yn hb] at h
 have g:=ku ok s.1.toNat
 generalize rs.getD s.1.toNat ([],[]) = r at *
 by_cases hs:zq w s.2.1 (sdl r s.2.2).1 = true
 ·rw [if_pos hs] at h
  cases h
  have:=Zm (n:=(sdl r s.2.2).2) hs
  have h2:(sdl r s.2.2).2.length <= 100:=by
   cases s.2.2
   ·exact g.1
   ·exact g.2
  omega
 ·rw [if_neg hs] at h
  cases h
def uX (D:Addr) (H:Hp):Hp:=fun b=>if b = D then none else H b
theorem x0 {D b:Addr} {H:Hp} (h:b ≠ D):uX D H b = H b:=by unfold uX; rw [if_neg h]
theorem uB {D:Addr} {H:Hp}:uX D H D = none:=by unfold uX; rw [if_pos rfl]
theorem xU {D:Addr} {H:Hp}:Same (uX D H) H:=fun b o e=>by
 by_cases hb:b = D
 ·rw [hb,uB] at e; cases e
 ·rw [x0 hb] at e; exact e
theorem XA {D:Addr} {H H':Hp} (hD:H D = none) (s:Same H H'):Same H (uX D H'):=fun b o e=>by
 have hb:b ≠ D:=fun z=>by rw [z,hD] at e; cases e
 rw [x0 hb]
 exact s _ _ e
theorem y0 {D:Addr} {H H':Hp} (s:Same H H'):Same (uX D H) (uX D H'):=fun b o e=>by
 by_cases hb:b = D
 ·rw [hb,uB] at e; cases e
 ·rw [x0 hb] at e ⊢; exact s _ _ e
theorem yM {D:Addr} {H:Hp} {o:HO}:Same (uX D H) (uX D (upd H D o)):=fun b o' e=>by
 by_cases hb:b = D
 ·rw [hb,uB] at e; cases e
 ·rw [x0 hb] at e ⊢; rw [zp hb]; exact e
theorem Yo {D a:Addr} {H:Hp} {xs ys:List V} (hD:H D = some (.lst ys)) (h:SqT K H a xs):SqT K (uX D H) a xs:=by
 rcases h with (h | ⟨o,h⟩) | h
 ·exact .inl (.inl (by rw [x0 (fun e=>by rw [e,hD] at h; cases h)]; exact h))
 ·exact .inl (.inr ⟨o,by rw [x0 (fun e=>by rw [e,hD] at h; cases h)]; exact h⟩)
 ·exact .inr h
theorem ZD {D:Addr} {H:Hp} {ys:List V} (hD:H D = some (.lst ys)):∀ (ss:List Stp) (vs:List V),Iss K H (ss.map dSt) vs -> Iss K (uX D H) (ss.map dSt) vs
 | [],vs,h=>by simp only [List.map_nil,Iss] at h ⊢; exact h
 | s :: ss,vs,h=>by
  simp only [List.map_cons,Iss] at h ⊢
  obtain ⟨v,r,rfl,h1,h2⟩:=h
  obtain ⟨p,rfl,h3⟩:=VD h1
  exact ⟨_,r,rfl,Zy (Yo hD h3),ZD hD ss r h2⟩
theorem J3 {H:Hp} {p s:Addr} {e:Ent} (h1:SqT K H p [.str (tx e.1),.str (tx e.2.1),.ref s]) (h2:Is K H (.lst (e.2.2.map dSt)) (.ref s)):Is K H (dE e) (.ref p):=by
 simp only [dE,Is,Iss]
 simp only [Is] at h2
 exact ⟨p,_,rfl,h1,_,_,rfl,rfl,_,_,rfl,rfl,_,_,rfl,h2,rfl⟩
theorem Zd {H:Hp} {es:List Ent} {vs:List V} {j:Nat} {v:V} (h:Iss K H (es.map dE) vs) (q:vs[j]? = some v):∃ e p s,es[j]? = some e /\ v = .ref p /\ SqT K H p [.str (tx e.1),.str (tx e.2.1),.ref s] /\ Is K H (.lst (e.2.2.map dSt)) (.ref s):=by
 obtain ⟨d,e,i⟩:=h.get q
 rw [List.getElem?_map] at e
 obtain ⟨r,hr,rfl⟩:=Option.map_eq_some_iff.mp e
 obtain ⟨p,s,e1,e2,e3⟩:=QI i
 exact ⟨r,p,s,hr,e1,e2,e3⟩
theorem V9 {H:Hp} {d:L3.D} {v:V} (h:Is K H d v):Iss K H [d] [v]:=by
 simp only [Iss]
 exact ⟨v,[],rfl,h,rfl⟩
def EnA (K:PySem.W.Frag) (H:Hp) (e:Ent) (v:V):Prop:=∃ p s,v = .ref p /\ SqT K H p [.str (tx e.1),.str (tx e.2.1),.ref s] /\ LsA K H s (e.2.2.map dSt)
def EnsA (K:PySem.W.Frag) (H:Hp):List Ent -> List V -> Prop
 | [],vs=>vs = []
 | e :: es,vs=>∃ v r,vs = v :: r /\ EnA K H e v /\ EnsA K H es r
def EnsL (K:PySem.W.Frag) (H:Hp) (a:Addr) (es:List Ent):Prop:=∃ xs,SqL K H a xs /\ EnsA K H es xs
def EnsM (K:PySem.W.Frag) (H:Hp) (a:Addr) (es:List Ent):Prop:=∃ xs,H a = some (.lst xs) /\ EnsA K H es xs
theorem EnA.is {H:Hp} {e:Ent} {v:V} (h:EnA K H e v):Is K H (dE e) v:=by
 obtain ⟨p,s,rfl,h1,h2⟩:=h
 exact J3 h1 h2.is
theorem EnA.same {H H':Hp} {e:Ent} {v:V} (h:EnA K H e v) (q:Same H H'):EnA K H' e v:=by
 obtain ⟨p,s,e0,h1,h2⟩:=h
 exact ⟨p,s,e0,zm q h1,h2.same q⟩
theorem EnsA.iss {H:Hp}:∀ {es:List Ent} {vs:List V},EnsA K H es vs -> Iss K H (es.map dE) vs
 | [],vs,h=>by simp only [EnsA] at h; simp only [List.map_nil,Iss]; exact h
 | e :: es,vs,h=>by
  simp only [EnsA] at h
  obtain ⟨v,r,rfl,h1,h2⟩:=h
  simp only [List.map_cons,Iss]
  exact ⟨v,r,rfl,h1.is,h2.iss⟩
theorem EnsA.len {H:Hp} {es:List Ent} {vs:List V} (h:EnsA K H es vs):vs.length = es.length:=by
 have:=h.iss.len
 rw [List.length_map] at this
 exact this
theorem EnsA.same {H H':Hp} (q:Same H H'):∀ {es:List Ent} {vs:List V},EnsA K H es vs -> EnsA K H' es vs
 | [],vs,h=>by simp only [EnsA] at h ⊢; exact h
 | e :: es,vs,h=>by
  simp only [EnsA] at h ⊢
  obtain ⟨v,r,e0,h1,h2⟩:=h
  exact ⟨v,r,e0,h1.same q,h2.same q⟩
theorem EnsA.snoc {H:Hp} {e:Ent} {v:V} (hv:EnA K H e v):∀ {es:List Ent} {vs:List V},EnsA K H es vs -> EnsA K H (es ++ [e]) (vs ++ [v])
 | [],vs,h=>by
  simp only [EnsA] at h
  subst h
  simp only [List.nil_append,EnsA]
  exact ⟨v,[],rfl,hv,rfl⟩
 | e' :: es,vs,h=>by
  simp only [EnsA] at h
  obtain ⟨x,r,rfl,hx,hr⟩:=h
  simp only [List.cons_append,EnsA]
  exact ⟨x,r ++ [v],rfl,hx,hr.snoc hv⟩
theorem EnsA.get {H:Hp}:∀ {es:List Ent} {vs:List V} {j:Nat} {v:V},EnsA K H es vs -> vs[j]? = some v -> ∃ e p s,es[j]? = some e /\ v = .ref p /\ SqT K H p [.str (tx e.1),.str (tx e.2.1),.ref s] /\ LsA K H s (e.2.2.map dSt)
 | [],vs,j,v,h,q=>by
  simp only [EnsA] at h
  subst h
  simp at q
 | e :: es,vs,0,v,h,q=>by
  simp only [EnsA] at h
  obtain ⟨x,r,rfl,⟨p,s,rfl,h1,h2⟩,_⟩:=h
  cases q
  exact ⟨e,p,s,rfl,rfl,h1,h2⟩
 | e :: es,vs,j + 1,v,h,q=>by
  simp only [EnsA] at h
  obtain ⟨x,r,rfl,_,hr⟩:=h
  exact hr.get (j:=j) (by simpa using q)
theorem EnsL.is {H:Hp} {a:Addr} {es:List Ent} (h:EnsL K H a es):Is K H (.lst (es.map dE)) (.ref a):=by
 obtain ⟨xs,h1,h2⟩:=h
 simp only [Is]
 exact ⟨a,xs,rfl,h1,h2.iss⟩
theorem EnsM.l {H:Hp} {a:Addr} {es:List Ent} (h:EnsM K H a es):EnsL K H a es:=by
 obtain ⟨xs,h1,h2⟩:=h
 exact ⟨xs,SqL.of h1,h2⟩
theorem EnsM.same {H H':Hp} {a:Addr} {es:List Ent} (h:EnsM K H a es) (q:Same H H'):EnsM K H' a es:=by
 obtain ⟨xs,h1,h2⟩:=h
 exact ⟨xs,q _ _ h1,h2.same q⟩
theorem EnA.new {D p s:Addr} {H:Hp} {e:Ent} {ys:List V} (hD:H D = some (.lst ys)) (hp:H p = some (.tup [.str (tx e.1),.str (tx e.2.1),.ref s])) (hs:LsA K H s (e.2.2.map dSt)) (hsD:s ≠ D):EnA K (uX D H) e (.ref p):=by
 obtain ⟨zs,hz,hi⟩:=hs
 have hpD:p ≠ D:=fun z=>by rw [z,hD] at hp; cases hp
 exact ⟨p,s,rfl,SqT.of (by rw [x0 hpD]; exact hp),zs,by rw [x0 hsD]; exact hz,ZD hD _ _ hi⟩
theorem jX (es:List Ent):(zh es).length = es.length:=by unfold zh; rw [List.length_map]
def vb (K:PySem.W.Frag):Sp:=fun vs H Q _=>∃ (a:Addr) (es:List Ent),vs = [.ref a] /\ Is K H (.lst (es.map dE)) (.ref a) /\ es.length <= 1000 /\ ∀ (D:Addr) (H':Hp),H D = none -> Same H H' -> LsA K H' D ((zh es).map dR) -> Q (.ref D) H'
theorem uT {a:Addr} {es:List Ent} {H:Hp} {Q:VK} {E:XK} (h1:Is K H (.lst (es.map dE)) (.ref a)) (h2:es.length <= 1000) (h:∀ (D:Addr) (H':Hp),H D = none -> Same H H' -> LsA K H' D ((zh es).map dR) -> Q (.ref D) H'):vb K [.ref a] H Q E:=⟨a,es,rfl,h1,h2,h⟩
theorem ko:zu ["entries"] ["entries"] (zb yJ):=⟨rfl,rfl,rfl,by decide +kernel,rfl,by decide +kernel,by decide +kernel⟩
theorem ka {f:Addr} {fd:FuncData} (B:Bt mg)  (F:Fun K "pairs_of" "pairs_of" yJ f fd)  : yk P w K mg base CX0 1 f fd ["entries"] (vb K):=by
 refine F.ok ko (fun vs H Q E h=>?_) (fun cdv A outer s H vs Q E hr h=>?_)
 ·obtain ⟨a,es,rfl,_⟩:=h
  rfl
 ·obtain ⟨a,es,rfl,hA,hl,q⟩:=h
  refine ⟨_,(zf (zw (yF (own:=["entry"]) (caps:=[]) (ix:=[]) (tt:=wq) (te:=(UK (zV (tOp (uA K) (yN 0) (tC (.int 0))) (zV (tOp (uA K) (yN 0) (tC (.int 1))) wB)))) rfl (zR (sc:=zb yJ) rfl (by decide +kernel) (by decide +kernel) (by decide +kernel) rfl (by decide +kernel) (by decide +kernel) rfl) (yG (pv 0)) (fun _ _ _ _ _ _=>zx (i:=0) (show List.Nodup [_] by decide) rfl (Or.inl rfl)) (fun _ _ _ _ _ _=>yy) (fun _ _ _ _ _ _=>(yl (za (zt ix_tup (pv 0) ze (fun _ _=>rfl)) (za (zt ix_tup (pv 0) ze (fun _ _=>rfl)) zc))))))),?_⟩
  have s16:=yE
  rfl'
  simp only [Is] at hA
  obtain ⟨_,xs,e,hX,hI⟩:=hA
  cases e
  have hxl:=hI.len
  rw [List.length_map] at hxl
  have hpl:=jX es
  refine ⟨⟨xs,hX⟩,fun D hD=>CompL.by (xs:=xs) (fun i acc H'=>Same H H' /\ H' D = some (.lst acc) /\ Iss K H' (((zh es).take i).map dR) acc) ⟨zg hD,zd,by simp only [List.take_zero,List.map_nil,Iss]⟩ (fun i acc H' _ h=>h.1.seq hX) ?_ ?_⟩
  ·rintro i x acc H' hx ⟨hs,hH,hA⟩
   have hi:=(List.getElem?_eq_some_iff.mp hx).1
   obtain ⟨e,pe,se,hei,rfl,hqe,_⟩:=Zd hI hx
   have hm:(zh es)[i]? = some (e.1,e.2.1):=by unfold zh; rw [List.getElem?_map,hei]; rfl
   have hal:=hA.len
   rw [List.length_map,List.length_take] at hal
   simp only [wq]
   rfl'
   refine ⟨xh,_,zm hs hqe,_,rfl,_,zm hs hqe,_,rfl,by omega,fun p hp=>⟨zg hp _ _ hH,by omega,CNx.mk hi ⟨zF (hs.trans (zg hp)) hD,zd,?_⟩⟩⟩
   rw [z6 hm,List.map_append]
   exact ub hH hA hp QZ (Zp _) (by simp only [zY,xB,and_self])
  ·rintro acc H' ⟨hs,hH,hA⟩
   rw [hxl,<- hpl,List.take_length] at hA
   exact q D H' hD hs ⟨acc,hH,hA⟩
def yh (k:Nat) (l:List Nat) (ns:List Int) (e:Ent):Ent:=if zQ k l ns e.2.1 e.1 = true then e else (e.2.1,e.1,yC e.2.2)
structure EB (l:List Nat) (e:Ent):Prop where
 a:e.1.length <= 60
 b:e.2.1.length <= 60
 s:e.2.2.length <= 240
 ma:∀ c ∈ e.1,c ∈ l
 mb:∀ c ∈ e.2.1,c ∈ l
theorem EB.rule {k:Nat} {l:List Nat} {ns:List Int} {e:Ent} (h:EB l e):EB l (yh k l ns e):=by
 unfold yh
 split
 ·exact h
 ·exact ⟨h.b,h.a,by rw [wj]; exact h.s,h.mb,h.ma⟩
def xE (K:PySem.W.Frag) (CO CR CW:Addr):Sp:=fun vs H Q _=>∃ (o p s:Addr) (k:Nat) (l:List Nat) (ns:List Int) (e:Ent),vs = [.ref o,.ref p] /\ OrdAt CO CR CW H o k l ns /\ OG l ns k /\ SqT K H p [.str (tx e.1),.str (tx e.2.1),.ref s] /\ Is K H (.lst (e.2.2.map dSt)) (.ref s) /\ EB l e /\
 (yh k l ns e = e -> ∀ H',Same H H' -> Q (.ref p) H') /\
 (∀ (p' s':Addr) (H':Hp),Same H H' -> H s' = none -> H' p' = some (.tup [.str (tx (yh k l ns e).1),.str (tx (yh k l ns e).2.1),.ref s']) -> LsA K H' s' ((yh k l ns e).2.2.map dSt) -> Q (.ref p') H')
theorem qe {CO CR CW o p s:Addr} {k:Nat} {l:List Nat} {ns:List Int} {e:Ent} {H:Hp} {Q:VK} {E:XK} (h1:OrdAt CO CR CW H o k l ns) (h2:OG l ns k) (h3:SqT K H p [.str (tx e.1),.str (tx e.2.1),.ref s]) (h4:Is K H (.lst (e.2.2.map dSt)) (.ref s)) (h5:EB l e)
  (h6:yh k l ns e = e -> ∀ H',Same H H' -> Q (.ref p) H') (h7:∀ (p' s':Addr) (H':Hp),Same H H' -> H s' = none -> H' p' = some (.tup [.str (tx (yh k l ns e).1),.str (tx (yh k l ns e).2.1),.ref s']) -> LsA K H' s' ((yh k l ns e).2.2.map dSt) -> Q (.ref p') H'):xE K CO CR CW [.ref o,.ref p] H Q E :=
 ⟨o,p,s,k,l,ns,e,rfl,h1,h2,h3,h4,h5,h6,h7⟩
theorem Z4:zu ["order", "entry"] ["order", "entry"] (zb xG):=⟨rfl,rfl,rfl,by decide +kernel,rfl,by decide +kernel,by decide +kernel⟩
theorem Z5 {f CO CR CW:Addr} {fd:FuncData} (B:Bt mg) (DBk:DB P w K mg base CO CR CW) (F:Fun K "as_rule" "as_rule" xG f fd) (D_back:Df P w K mg base CX0 1 "back" ["steps"] [] (vm K)):yk P w K mg base CX0 4 f fd ["order", "entry"] (xE K CO CR CW):=by
 refine F.ok Z4 (fun vs H Q E h=>?_) (fun cdv A outer s H vs Q E hr h=>?_)
 ·obtain ⟨o,p,s,k,l,ns,e,rfl,_⟩:=h
  rfl
 ·obtain ⟨o,p,s,k,l,ns,e,rfl,ho,hG,hp,hs,hE,q1,q2⟩:=h
  refine ⟨_,(zK (zW (xV (Jk DBk hr (pv 0) (za (zt ix_tup (pv 1) ze (fun _ _=>rfl)) (za (zt ix_tup (pv 1) ze (fun _ _=>rfl)) zc))) (fun _=>rfl))
    (zf (zw (pv 1)))
    zy)
   (zf (zw (yl (za (zt ix_tup (pv 1) ze (fun _ _=>rfl)) (za (zt ix_tup (pv 1) ze (fun _ _=>rfl)) (za (cl0 D_back hr .nil rfl (za (zt ix_tup (pv 1) ze (fun _ _=>rfl)) zc)) zc))))))),?_⟩
  have s16:=yE
  repeat (first | rfl' | simp only [yP,zB,zN,yR,yS,zA])
  obtain ⟨C,dx,fs,hf,ho1,hn,_⟩:=ho.fam
  have h1:fs.lookup ("before" : Str) = none:=hn _ (by decide) (by decide)
  refine ⟨C,hf,dx,fs,ho1,h1,_,hp,_,rfl,_,hp,_,rfl,o,k,l,ns,e.2.1,e.1,rfl,ho,hG,by have:=hE.b; omega,by have:=hE.a; omega,hE.mb,hE.ma,fun H1 s1=>⟨_,rfl,xn (fun h=>?_) fun h=>?_⟩⟩
  ·exact q1 (by unfold yh; rw [if_pos h]) H1 s1
  ·have er:yh k l ns e = (e.2.1,e.1,yC e.2.2):=by unfold yh; rw [if_neg h]
   rw [er] at q2
   have hp1:=zm s1 hp
   refine ⟨_,hp1,_,rfl,_,hp1,_,rfl,_,hp1,_,rfl,qQ (Is.same s1 _ _ hs) (by have:=hE.s; omega) fun D H2 hD s2 hL=>⟨by omega,fun t ht=>?_⟩⟩
   exact q2 t D _ (s1.trans (s2.trans (zg ht))) (s1.free hD) zd (hL.same (zg ht))
theorem kr {l:List Nat} {ns:List Int} {w:List Nat} (hb:∀ n ∈ ns,1 <= n /\ n <= 1000000):0 <= Ye l ns w:=by
 unfold Ye
 have key:∀ xs:List Int,(∀ x ∈ xs,0 <= x) -> 0 <= xs.sum:=by
  intro xs
  induction xs with
  | nil=>intro _; simp
  | cons x xs ih =>
   intro h
   rw [List.sum_cons]
   have h1:=h x List.mem_cons_self
   have h2:=ih fun y hy=>h y (List.mem_cons_of_mem _ hy)
   omega
 refine key _ fun x hx=>?_
 obtain ⟨p,hp,rfl⟩:=List.mem_map.mp hx
 have h1:=(hb p.2 (List.of_mem_zip (show (p.1,p.2) ∈ l.zip ns from hp)).2).1
 exact Int.mul_nonneg (by omega) (by omega)
theorem YW {k:Nat} {l:List Nat} {ns:List Int} {u v:List Nat} (hb:∀ n ∈ ns,1 <= n /\ n <= 1000000) (h:zQ k l ns u v = true):v ≠ []:=by
 intro e
 subst e
 have h0:zl k l ns [] = 0:=by
  unfold zl
  split
  ·unfold Ye
   have z:∀ xs:List (Nat × Int),(xs.map fun p=>(([]:List Nat).count p.1:Int) * p.2).sum = 0:=by
    intro xs
    induction xs with
    | nil=>rfl
    | cons x xs ih=>rw [List.map_cons,List.sum_cons,ih]; simp
   exact z _
  ·rfl
 have h1:0 <= zl k l ns u:=by
  unfold zl
  split
  ·exact kr hb
  ·omega
 have h2:wk k l [] = []:=by
  unfold wk yg
  split <;> rfl
 unfold zQ at h
 rw [h0,h2] at h
 split at h
 ·cases hr:wk k l u with
  | nil=>rw [hr] at h; cases h
  | cons a r=>rw [hr] at h; cases h
 ·have:=of_decide_eq_true h
  omega
theorem uK {k:Nat} {l:List Nat} {ns:List Int} {e:Ent} (hE:EB l e) (hne:e.1 ≠ e.2.1):zQ k l ns (yh k l ns e).2.1 (yh k l ns e).1 = true:=by
 unfold yh
 by_cases h:zQ k l ns e.2.1 e.1 = true
 ·rw [if_pos h]
  exact h
 ·rw [if_neg h]
  have:=uO (k:=k) (ns:=ns) hE.ma hE.mb hne
  show zQ k l ns e.1 e.2.1 = true
  rw [this]
  simpa using h
def u7 (k:Nat) (l:List Nat) (ns:List Int) (es:List Ent):List Ent:=(es.filter fun e=>!decide (e.1 = e.2.1)).map (yh k l ns)
theorem UT (k:Nat) (l:List Nat) (ns:List Int) (es fs:List Ent):u7 k l ns (es ++ fs) = u7 k l ns es ++ u7 k l ns fs:=by
 unfold u7
 rw [List.filter_append,List.map_append]
theorem km (k:Nat) (l:List Nat) (ns:List Int) (es:List Ent):(u7 k l ns es).length <= es.length:=by
 unfold u7
 rw [List.length_map]
 exact List.length_filter_le _ _
def ZS (k:Nat) (l:List Nat) (ns:List Int) (a b:Ent):Bool:=if a.1 = b.1 then zQ k l ns a.2.1 b.2.1 else zQ k l ns a.1 b.1
structure Lined (k:Nat) (l:List Nat) (ns:List Int) (es zs:List Ent):Prop where
 perm:zs.Perm (u7 k l ns es)
 srt:zs.Pairwise fun a b=>ZS k l ns b a = false
structure zO (ps:List zH) (w:List Nat) (i:Nat):Prop where
 live:V8 ps w i
 end_:zM (wAt ps w i) ps = none
 most:i <= 40
theorem UX (ps:List zH) (w:List Nat):(∃ i,zO ps w i) \/ (V8 ps w 40 /\ zM (wAt ps w 40) ps ≠ none):=by
 have key:∀ n,n <= 41 -> (∃ i,zO ps w i) \/ V8 ps w n:=by
  intro n
  induction n with
  | zero=>intro _; exact .inr fun i h=>absurd h (Nat.not_lt_zero i)
  | succ n ih =>
   intro hn
   rcases ih (by omega) with h | h
   ·exact .inl h
   ·cases e:zM (wAt ps w n) ps with
    | none=>exact .inl ⟨n,h,e,by omega⟩
    | some u =>
     refine .inr fun i hi=>?_
     by_cases hin:i = n
     ·rw [hin,e]
      intro z
      cases z
     ·exact h i (by omega)
 rcases key 41 (Nat.le_refl _) with h | h
 ·exact .inl h
 ·exact .inr ⟨fun i hi=>h i (by omega),h 40 (by decide)⟩
def stS (us:List (Nat × Nat)):List Stp:=us.map fun u=>((u.1:Int),(u.2:Int),true)
def yB (bs:List Ent) (e:Ent) (i j:Nat):Ent:=(wAt (zh bs) e.1 i,wAt (zh bs) e.2.1 j,byL bs (yC (stS (sAt (zh bs) e.1 i))) ++ e.2.2 ++ byL bs (stS (sAt (zh bs) e.2.1 j)))
def ZR (e:Ent):Prop:=240 < e.2.2.length \/ 60 < e.1.length \/ 60 < e.2.1.length
inductive xa (k:Nat) (l:List Nat) (ns:List Int):List Ent -> List Ent -> Option (List Ent) -> Prop where
 | nil (bs:List Ent):xa k l ns bs [] (some bs)
 | same {bs es:List Ent} {e:Ent} {i j:Nat} {r:Option (List Ent)} (h1:zO (zh bs) e.1 i) (h2:zO (zh bs) e.2.1 j) (h3:wAt (zh bs) e.1 i = wAt (zh bs) e.2.1 j) (h4:xa k l ns bs es r):xa k l ns bs (e :: es) r
 | new {bs es:List Ent} {e:Ent} {i j:Nat} {r:Option (List Ent)} (h1:zO (zh bs) e.1 i) (h2:zO (zh bs) e.2.1 j) (h3:wAt (zh bs) e.1 i ≠ wAt (zh bs) e.2.1 j) (h4:¬ ZR (yB bs e i j)) (h5:xa k l ns (bs ++ [yh k l ns (yB bs e i j)]) es r):xa k l ns bs (e :: es) r
 | far {bs es:List Ent} {e:Ent} {i j:Nat} (h1:zO (zh bs) e.1 i) (h2:zO (zh bs) e.2.1 j) (h3:wAt (zh bs) e.1 i ≠ wAt (zh bs) e.2.1 j) (h4:ZR (yB bs e i j)):xa k l ns bs (e :: es) none
 | stuck {bs es:List Ent} {e:Ent} (h:(∀ i,¬ zO (zh bs) e.1 i) \/ (∀ j,¬ zO (zh bs) e.2.1 j)):xa k l ns bs (e :: es) none
inductive Yg (k:Nat) (l:List Nat) (ns:List Int):Nat -> List Ent -> Option (List Ent) -> Prop where
 | out (es:List Ent):Yg k l ns 0 es none
 | bad {n:Nat} {es zs:List Ent} (h1:Lined k l ns es zs) (h2:xa k l ns [] zs none):Yg k l ns (n + 1) es none
 | done {n:Nat} {es zs bs:List Ent} (h1:Lined k l ns es zs) (h2:xa k l ns [] zs (some bs)) (h3:zh bs = zh zs):Yg k l ns (n + 1) es (some bs)
 | more {n:Nat} {es zs bs:List Ent} {r:Option (List Ent)} (h1:Lined k l ns es zs) (h2:xa k l ns [] zs (some bs)) (h3:zh bs ≠ zh zs) (h4:Yg k l ns n bs r):Yg k l ns (n + 1) es r
theorem yO {ps:List zH} {w:List Nat} {u:Nat × Nat} (h:zM w ps = some u):∃ p,ps[u.1]? = some p /\ zq w (u.2:Int) p.1 = true:=by
 have hm:u ∈ xp w ps w.length:=List.mem_of_mem_head? (by unfold zM at h; rw [h]; rfl)
 exact (ww (usesK_mem.mp hm).2).2
theorem vf {ps:List zH} {l w:List Nat} (hw:∀ c ∈ w,c ∈ l) (hp:∀ p ∈ ps,∀ c ∈ p.2,c ∈ l):∀ j,∀ c ∈ wAt ps w j,c ∈ l
 | 0=>hw
 | j + 1=>by
  have ih:=vf hw hp j
  cases e:zM (wAt ps w j) ps with
  | none =>
   show ∀ c ∈ Yf ps (wAt ps w j),c ∈ l
   unfold Yf
   rw [e]
   exact ih
  | some u =>
   obtain ⟨p,h1,h2⟩:=yO e
   rw [wg e]
   unfold kX wA
   rw [xJ h1]
   intro c hc
   rcases List.mem_append.mp hc with hc | hc
   ·rcases List.mem_append.mp hc with hc | hc
    ·exact ih c (List.mem_of_mem_take hc)
    ·exact hp p (List.mem_of_getElem? h1) c hc
   ·exact ih c (List.mem_of_mem_drop hc)
structure JB (R:List Nat -> List Nat -> Prop):Prop where
 refl:∀ u,R u u
 symm:∀ {u v},R u v -> R v u
 trans:∀ {u v w},R u v -> R v w -> R u w
 ctx:∀ {u v} (a b:List Nat),R u v -> R (a ++ u ++ b) (a ++ v ++ b)
def Z8 (R:List Nat -> List Nat -> Prop) (es:List Ent):Prop:=∀ e ∈ es,R e.1 e.2.1
theorem VY {R:List Nat -> List Nat -> Prop} (hR:JB R) {ps:List zH} (hk:∀ p ∈ ps,R p.1 p.2) (w:List Nat):∀ j,R w (wAt ps w j)
 | 0=>hR.refl w
 | j + 1=>by
  have ih:=VY hR hk w j
  cases e:zM (wAt ps w j) ps with
  | none =>
   show R w (Yf ps (wAt ps w j))
   unfold Yf
   rw [e]
   exact ih
  | some u =>
   obtain ⟨p,h1,h2⟩:=yO e
   rw [wg e]
   refine hR.trans ih ?_
   obtain ⟨e1,_⟩:=yz h2
   unfold kX wA
   rw [xJ h1]
   have:=hR.ctx ((wAt ps w j).take ((u.2:Int)).toNat) ((wAt ps w j).drop (((u.2:Int)).toNat + p.1.length)) (hk p (List.mem_of_getElem? h1))
   rw [e1] at this
   exact this
theorem uD {R:List Nat -> List Nat -> Prop} {bs:List Ent} (h:Z8 R bs):∀ p ∈ zh bs,R p.1 p.2:=fun p hp=>by
 unfold zh at hp
 obtain ⟨e,he,rfl⟩:=List.mem_map.mp hp
 exact h e he
theorem qw {R:List Nat -> List Nat -> Prop} (hR:JB R) {k:Nat} {l:List Nat} {ns:List Int} {e:Ent}:R (yh k l ns e).1 (yh k l ns e).2.1 ↔ R e.1 e.2.1:=by
 unfold yh
 split
 ·exact Iff.rfl
 ·exact ⟨hR.symm,hR.symm⟩
theorem X8 {R:List Nat -> List Nat -> Prop} (hR:JB R) {bs:List Ent} {e:Ent} {i j:Nat} (h:Z8 R bs):R (wAt (zh bs) e.1 i) (wAt (zh bs) e.2.1 j) ↔ R e.1 e.2.1:=by
 have h1:=VY hR (uD h) e.1 i
 have h2:=VY hR (uD h) e.2.1 j
 exact ⟨fun x=>hR.trans h1 (hR.trans x (hR.symm h2)),fun x=>hR.trans (hR.symm h1) (hR.trans x h2)⟩
theorem JZ {R:List Nat -> List Nat -> Prop} (hR:JB R) {k:Nat} {l:List Nat} {ns:List Int} {bs es:List Ent} {r:Option (List Ent)} (h:xa k l ns bs es r):∀ fs,r = some fs -> (Z8 R fs ↔ Z8 R bs /\ Z8 R es):=by
 induction h with
 | nil bs =>
  intro fs e
  cases e
  exact ⟨fun h=>⟨h,fun e he=>(nomatch he)⟩,fun h=>h.1⟩
 | @same bs es e i j r h1 h2 h3 h4 ih =>
  intro fs er
  rw [ih fs er]
  refine ⟨fun ⟨a,b⟩=>⟨a,fun x hx=>?_⟩,fun ⟨a,b⟩=>⟨a,fun x hx=>b x (List.mem_cons_of_mem _ hx)⟩⟩
  rcases List.mem_cons.mp hx with rfl | hx
  ·refine (X8 hR a (i:=i) (j:=j)).mp ?_
   rw [h3]
   exact hR.refl _
  ·exact b x hx
 | @new bs es e i j r h1 h2 h3 h4 h5 ih =>
  intro fs er
  rw [ih fs er]
  constructor
  ·rintro ⟨a,b⟩
   have a':Z8 R bs:=fun x hx=>a x (List.mem_append_left _ hx)
   refine ⟨a',fun x hx=>?_⟩
   rcases List.mem_cons.mp hx with rfl | hx
   ·have:=a _ (List.mem_append_right bs (List.mem_singleton.mpr rfl))
    exact (X8 hR a' (i:=i) (j:=j)).mp ((qw hR).mp this)
   ·exact b x hx
  ·rintro ⟨a,b⟩
   refine ⟨fun x hx=>?_,fun x hx=>b x (List.mem_cons_of_mem _ hx)⟩
   rcases List.mem_append.mp hx with hx | hx
   ·exact a x hx
   ·rw [List.mem_singleton.mp hx]
    exact (qw hR).mpr ((X8 hR a (i:=i) (j:=j)).mpr (b e List.mem_cons_self))
 | far=>intro fs e; cases e
 | stuck=>intro fs e; cases e
def Within (p w:List Nat):Prop:=∃ a b:List Nat,w = a ++ p ++ b
theorem Xv {w p:List Nat} {q:Nat} (h:zq w (q:Int) p = true):Within p w:=by
 obtain ⟨e,_⟩:=yz h
 exact ⟨_,_,e.symm⟩
theorem YM {w p:List Nat} (h:Within p w):∃ q:Nat,zq w (q:Int) p = true:=by
 obtain ⟨a,b,rfl⟩:=h
 refine ⟨a.length,?_⟩
 unfold zq
 refine decide_eq_true ⟨by omega,by simp only [List.length_append]; omega,?_⟩
 rw [Int.toNat_natCast,List.append_assoc,List.drop_left,List.take_left]
theorem YZ {ps:List zH} {w:List Nat} (hN:NeL ps) (h:zM w ps = none):∀ p ∈ ps,¬ Within p.1 w:=fun p hp hw=>by
 obtain ⟨q,hq⟩:=YM hw
 obtain ⟨j,hj⟩:=List.mem_iff_getElem?.mp hp
 have hlt:=uU (hN p hp) hq
 have hs:stJ w ps q j = true:=by rw [qu hj]; exact hq
 have:(j,q) ∈ xp w ps w.length:=usesK_mem.mpr ⟨hlt,hs⟩
 unfold zM at h
 rw [List.head?_eq_none_iff] at h
 rw [h] at this
 cases this
structure RL (k:Nat) (l:List Nat) (ns:List Int) (bs:List Ent):Prop where
 e:∀ e ∈ bs,EB l e
 lt:∀ e ∈ bs,zQ k l ns e.2.1 e.1 = true
theorem Wd {k:Nat} {l:List Nat} {ns:List Int} {ps:List zH} {w:List Nat} {u:Nat × Nat} (G:OG l ns k) (hp:∀ p ∈ ps,zQ k l ns p.2 p.1 = true /\ (∀ c ∈ p.1,c ∈ l) /\ ∀ c ∈ p.2,c ∈ l) (hw:∀ c ∈ w,c ∈ l) (h:zM w ps = some u):zQ k l ns (kX w ps u) w = true:=by
 obtain ⟨p,h1,h2⟩:=yO h
 obtain ⟨e1,_⟩:=yz h2
 obtain ⟨p1,p2,p3⟩:=hp p (List.mem_of_getElem? h1)
 unfold kX wA
 rw [xJ h1]
 have ha:∀ c ∈ w.take ((u.2:Int)).toNat,c ∈ l:=fun c hc=>hw c (List.mem_of_mem_take hc)
 have hb:∀ c ∈ w.drop (((u.2:Int)).toNat + p.1.length),c ∈ l:=fun c hc=>hw c (List.mem_of_mem_drop hc)
 generalize w.take ((u.2:Int)).toNat = a at *
 generalize w.drop (((u.2:Int)).toNat + p.1.length) = b at *
 rw [<- e1]
 have ap:∀ x:List Nat,(∀ c ∈ x,c ∈ l) -> ∀ c ∈ a ++ x,c ∈ l:=fun x hx c hc=>(List.mem_append.mp hc).elim (ha c) (hx c)
 rw [(jW G hb (ap p.2 p3) (ap p.1 p2)).2,(jW G ha p3 p2).1]
 exact p1
theorem Vj {k:Nat} {l:List Nat} {ns:List Int} {ps:List zH} {w:List Nat} (G:OG l ns k) (hp:∀ p ∈ ps,zQ k l ns p.2 p.1 = true /\ (∀ c ∈ p.1,c ∈ l) /\ ∀ c ∈ p.2,c ∈ l) (hw:∀ c ∈ w,c ∈ l):∀ j,wAt ps w j = w \/ zQ k l ns (wAt ps w j) w = true
 | 0=>.inl rfl
 | j + 1=>by
  have ih:=Vj G hp hw j
  have hm:=vf hw (fun p hp'=>(hp p hp').2.2) j
  cases e:zM (wAt ps w j) ps with
  | none =>
   show Yf ps (wAt ps w j) = w \/ zQ k l ns (Yf ps (wAt ps w j)) w = true
   unfold Yf
   rw [e]
   exact ih
  | some u =>
   rw [wg e]
   have h:=Wd G hp hm e
   rcases ih with h' | h'
   ·rw [h'] at h ⊢
    exact .inr h
   ·exact .inr (uC h h')
theorem RL.pairs {k:Nat} {l:List Nat} {ns:List Int} {bs:List Ent} (h:RL k l ns bs):∀ p ∈ zh bs,zQ k l ns p.2 p.1 = true /\ (∀ c ∈ p.1,c ∈ l) /\ ∀ c ∈ p.2,c ∈ l:=fun p hp=>by
 unfold zh at hp
 obtain ⟨e,he,rfl⟩:=List.mem_map.mp hp
 exact ⟨h.lt e he,(h.e e he).ma,(h.e e he).mb⟩
theorem RL.ne {k:Nat} {l:List Nat} {ns:List Int} {bs:List Ent} (h:RL k l ns bs) (G:OG l ns k):NeL (zh bs):=fun p hp=>YW G.nb (h.pairs p hp).1
theorem RL.snoc {k:Nat} {l:List Nat} {ns:List Int} {bs:List Ent} {d:Ent} (h:RL k l ns bs) (hd:EB l d) (hne:d.1 ≠ d.2.1):RL k l ns (bs ++ [yh k l ns d]):=by
 refine ⟨fun e he=>?_,fun e he=>?_⟩
 ·rcases List.mem_append.mp he with he | he
  ·exact h.e e he
  ·rw [List.mem_singleton.mp he]
   exact hd.rule
 ·rcases List.mem_append.mp he with he | he
  ·exact h.lt e he
  ·rw [List.mem_singleton.mp he]
   exact uK hd hne
theorem Uk {k:Nat} {l:List Nat} {ns:List Int} {bs:List Ent} {e:Ent} {i j:Nat} (hB:RL k l ns bs) (hE:EB l e) (hF:¬ ZR (yB bs e i j)):EB l (yB bs e i j):=by
 unfold ZR at hF
 exact ⟨by omega,by omega,by omega,vf hE.ma (fun p hp=>(hB.pairs p hp).2.2) i,vf hE.mb (fun p hp=>(hB.pairs p hp).2.2) j⟩
theorem ZY {k:Nat} {l:List Nat} {ns:List Int} {bs:List Ent} {e:Ent} {i j:Nat} (G:OG l ns k) (hB:RL k l ns bs) (hE:EB l e) (hlt:zQ k l ns e.2.1 e.1 = true) (h1:zO (zh bs) e.1 i) (h2:zO (zh bs) e.2.1 j)
  (hp1:(yh k l ns (yB bs e i j)).1 = e.1) (hp2:(yh k l ns (yB bs e i j)).2.1 = e.2.1):zM e.1 (zh bs) = none /\ zM e.2.1 (zh bs) = none:=by
 unfold yh at hp1 hp2
 by_cases h:zQ k l ns (yB bs e i j).2.1 (yB bs e i j).1 = true
 ·rw [if_pos h] at hp1 hp2
  have a1:wAt (zh bs) e.1 i = e.1:=hp1
  have a2:wAt (zh bs) e.2.1 j = e.2.1:=hp2
  have b1:=h1.end_
  have b2:=h2.end_
  rw [a1] at b1
  rw [a2] at b2
  exact ⟨b1,b2⟩
 ·rw [if_neg h] at hp1 hp2
  have a1:wAt (zh bs) e.2.1 j = e.1:=hp1
  rcases Vj G hB.pairs hE.mb j with h' | h'
  ·rw [a1] at h'
   rw [h',xj] at hlt
   cases hlt
  ·rw [a1] at h'
   rw [kD h'] at hlt
   cases hlt
theorem qt {k:Nat} {l:List Nat} {ns:List Int} (G:OG l ns k) {bs es:List Ent} {r:Option (List Ent)} (h:xa k l ns bs es r):∀ fs,r = some fs -> RL k l ns bs -> RL k l ns es -> ∃ gs,fs = bs ++ gs /\ gs.length <= es.length /\ RL k l ns fs /\
  (zh gs = zh es -> ∀ i e,es[i]? = some e -> zM e.1 (zh (bs ++ gs.take i)) = none /\ zM e.2.1 (zh (bs ++ gs.take i)) = none):=by
 induction h with
 | nil bs =>
  intro fs er hb he
  cases er
  exact ⟨[],by simp,Nat.le_refl _,hb,fun _ i e h=>by simp at h⟩
 | @same bs es e i j r h1 h2 h3 h4 ih =>
  intro fs er hb he
  obtain ⟨gs,g1,g2,g3,g4⟩:=ih fs er hb ⟨fun x hx=>he.e x (List.mem_cons_of_mem _ hx),fun x hx=>he.lt x (List.mem_cons_of_mem _ hx)⟩
  refine ⟨gs,g1,by rw [List.length_cons]; omega,g3,fun hp=>?_⟩
  have:=congrArg List.length hp
  unfold zh at this
  rw [List.length_map,List.length_map,List.length_cons] at this
  omega
 | @new bs es e i j r h1 h2 h3 h4 h5 ih =>
  intro fs er hb he
  have hEe:=he.e e List.mem_cons_self
  have hd:=Uk hb hEe h4
  obtain ⟨gs,g1,g2,g3,g4⟩:=ih fs er (hb.snoc hd h3) ⟨fun x hx=>he.e x (List.mem_cons_of_mem _ hx),fun x hx=>he.lt x (List.mem_cons_of_mem _ hx)⟩
  refine ⟨yh k l ns (yB bs e i j) :: gs,by rw [g1,List.append_assoc]; rfl,by rw [List.length_cons,List.length_cons]; omega,g3,fun hp n x hx=>?_⟩
  unfold zh at hp
  rw [List.map_cons,List.map_cons] at hp
  injection hp with hp1 hp2
  have hp1a:=(Prod.ext_iff.mp hp1).1
  have hp1b:=(Prod.ext_iff.mp hp1).2
  cases n with
  | zero =>
   have e0:e = x:=by simpa using hx
   subst e0
   rw [List.take_zero,List.append_nil]
   exact ZY G hb hEe (he.lt _ List.mem_cons_self) h1 h2 hp1a hp1b
  | succ n =>
   have:=g4 hp2 n x (by simpa using hx)
   rw [List.append_assoc] at this
   rw [List.take_succ_cons]
   exact this
 | far=>intro fs e; cases e
 | stuck=>intro fs e; cases e
theorem vz {k:Nat} {l:List Nat} {ns:List Int} (G:OG l ns k) {p w:List Nat} (hw:∀ c ∈ w,c ∈ l) (h:Within p w):p = w \/ zQ k l ns p w = true:=by
 obtain ⟨a,b,rfl⟩:=h
 by_cases e:a ++ p ++ b = p
 ·exact .inl e.symm
 ·refine .inr (W1 G (fun c hc=>hw c ?_) (fun c hc=>hw c ?_) (fun c hc=>hw c ?_) e).1
  ·exact List.mem_append_left _ (List.mem_append_left _ hc)
  ·exact List.mem_append_left _ (List.mem_append_right _ hc)
  ·exact List.mem_append_right _ hc
structure ThinL (k:Nat) (l:List Nat) (ns:List Int) (zs:List Ent):Prop where
 rl:RL k l ns zs
 up:∀ (i j:Nat) (a b:Ent),zs[i]? = some a -> zs[j]? = some b -> i < j -> zQ k l ns a.1 b.1 = true
 no1:∀ (i j:Nat) (a b:Ent),zs[i]? = some a -> zs[j]? = some b -> i ≠ j -> ¬ Within b.1 a.1
 no2:∀ (i j:Nat) (a b:Ent),zs[i]? = some a -> zs[j]? = some b -> ¬ Within b.1 a.2.1
theorem Qc {k:Nat} {l:List Nat} {ns:List Int} (G:OG l ns k) {zs bs:List Ent} (hz:RL k l ns zs) (hs:zs.Pairwise fun a b=>ZS k l ns b a = false) (h:xa k l ns [] zs (some bs)) (hp:zh bs = zh zs):ThinL k l ns zs:=by
 obtain ⟨gs,g1,g2,g3,g4⟩:=qt G h bs rfl ⟨fun e he=>(nomatch he),fun e he=>(nomatch he)⟩ hz
 rw [List.nil_append] at g1
 subst g1
 have irr:=g4 hp
 simp only [List.nil_append] at irr
 have early:∀ (i j:Nat) (a b:Ent),zs[i]? = some a -> zs[j]? = some b -> j < i -> ¬ Within b.1 a.1 /\ ¬ Within b.1 a.2.1:=fun i j a b ha hb hj=>by
  have hm:(b.1,b.2.1) ∈ zh (bs.take i):=by
   have e1:zh (bs.take i) = (zh zs).take i:=by
    rw [<- hp]
    unfold zh
    rw [List.map_take]
   rw [e1]
   refine List.mem_iff_getElem?.mpr ⟨j,?_⟩
   rw [List.getElem?_take_of_lt hj]
   unfold zh
   rw [List.getElem?_map,hb]
   rfl
  have hN:NeL (zh (bs.take i)):=fun p hp'=>by
   refine (g3.ne G) p ?_
   unfold zh at hp' ⊢
   obtain ⟨x,hx,rfl⟩:=List.mem_map.mp hp'
   exact List.mem_map.mpr ⟨x,List.mem_of_mem_take hx,rfl⟩
  obtain ⟨f1,f2⟩:=irr i a ha
  exact ⟨YZ hN f1 _ hm,YZ hN f2 _ hm⟩
 have later:∀ (i j:Nat) (a b:Ent),zs[i]? = some a -> zs[j]? = some b -> i < j -> zQ k l ns b.1 a.1 = false:=fun i j a b ha hb hij=>by
  have hi:=(List.getElem?_eq_some_iff.mp ha)
  have hj:=(List.getElem?_eq_some_iff.mp hb)
  have:=List.pairwise_iff_getElem.mp hs i j hi.1 hj.1 hij
  rw [hi.2,hj.2] at this
  unfold ZS at this
  by_cases e:b.1 = a.1
  ·rw [e,xj]
  ·rw [if_neg e] at this
   exact this
 have memz:∀ {i:Nat} {a:Ent},zs[i]? = some a -> EB l a /\ zQ k l ns a.2.1 a.1 = true:=fun {i a} ha=>⟨hz.e _ (List.mem_of_getElem? ha),hz.lt _ (List.mem_of_getElem? ha)⟩
 have up:∀ (i j:Nat) (a b:Ent),zs[i]? = some a -> zs[j]? = some b -> i < j -> zQ k l ns a.1 b.1 = true:=fun i j a b ha hb hij=>by
  have hne:a.1 ≠ b.1:=fun e=>(early j i b a hb ha hij).1 ⟨[],[],by rw [e]; simp⟩
  have t:=uO (k:=k) (ns:=ns) (memz ha).1.ma (memz hb).1.ma hne
  rw [later i j a b ha hb hij] at t
  simpa using t
 refine ⟨hz,up,fun i j a b ha hb hij=>?_,fun i j a b ha hb hw=>?_⟩
 ·rcases Nat.lt_or_gt_of_ne hij with h1 | h1
  ·intro hw
   rcases vz G (memz ha).1.ma hw with e | e
   ·have:=up i j a b ha hb h1
    rw [e,xj] at this
    cases this
   ·rw [later i j a b ha hb h1] at e
    cases e
  ·exact (early i j a b ha hb h1).1
 ·have hle:zQ k l ns b.1 a.1 = true:=by
   rcases vz G (memz ha).1.mb hw with e | e
   ·rw [e]
    exact (memz ha).2
   ·exact uC e (memz ha).2
  rcases Nat.lt_trichotomy i j with h1 | h1 | h1
  ·rw [later i j a b ha hb h1] at hle
   cases hle
  ·subst h1
   rw [ha] at hb
   cases hb
   rw [xj] at hle
   cases hle
  ·exact (early i j a b ha hb h1).2 hw
theorem qz {ps:List zH} {w:List Nat}:∀ {i:Nat},V8 ps w i -> z8 ps w (stS (sAt ps w i)) = some (wAt ps w i)
 | 0,_=>rfl
 | i + 1,h=>by
  have ih:=qz (i:=i) fun j hj=>h j (by omega)
  have hne:=h i (by omega)
  cases e:zM (wAt ps w i) ps with
  | none=>exact absurd e hne
  | some u =>
   rw [Zg,wg e,e]
   unfold stS at ih ⊢
   rw [List.map_append]
   refine uF ih ?_
   obtain ⟨p,h1,h2⟩:=yO e
   have hl:=(List.getElem?_eq_some_iff.mp h1).1
   show yj ps (wAt ps w i) ((u.1:Int),(u.2:Int),true) = _
   rw [yn (by show (0:Int) <= (u.1:Int) /\ (u.1:Int) < ps.length; omega)]
   have e2:ps.getD ((u.1:Int)).toNat ([],[]) = p:=by rw [Int.toNat_natCast,List.getD_eq_getElem?_getD,h1]; rfl
   show (if zq (wAt ps w i) (u.2:Int) (sdl (ps.getD ((u.1:Int)).toNat ([],[])) true).1 = true then _ else none) = _
   rw [e2,if_pos (show zq (wAt ps w i) (u.2:Int) (sdl p true).1 = true from h2)]
   unfold kX
   rw [xJ h1]
   rfl
theorem YS {rs:List zH} {k:Nat} {l:List Nat} {ns:List Int} {e:Ent} (h:EOk rs e):EOk rs (yh k l ns e):=by
 unfold yh
 split
 ·exact h
 ·exact xX h
theorem Ui {rs:List zH} {bs:List Ent} {e:Ent} {i j:Nat} (hb:∀ e ∈ bs,EOk rs e) (he:EOk rs e) (h1:zO (zh bs) e.1 i) (h2:zO (zh bs) e.2.1 j):EOk rs (yB bs e i j):=by
 have w1:=kB hb (xX (qz h1.live))
 have w2:=kB hb (qz h2.live)
 have he':z8 rs e.1 e.2.2 = some e.2.1:=he
 show z8 rs (wAt (zh bs) e.1 i) (byL bs (yC (stS (sAt (zh bs) e.1 i))) ++ e.2.2 ++ byL bs (stS (sAt (zh bs) e.2.1 j))) = some (wAt (zh bs) e.2.1 j)
 rw [xN,xN,w1,Option.bind_some,he',Option.bind_some]
 exact w2
theorem kT {rs:List zH} {k:Nat} {l:List Nat} {ns:List Int} {bs es:List Ent} {r:Option (List Ent)} (h:xa k l ns bs es r):∀ fs,r = some fs -> (∀ e ∈ bs,EOk rs e) -> (∀ e ∈ es,EOk rs e) -> ∀ e ∈ fs,EOk rs e:=by
 induction h with
 | nil bs=>intro fs er hb _; cases er; exact hb
 | @same bs es e i j r h1 h2 h3 h4 ih=>intro fs er hb he; exact ih fs er hb fun x hx=>he x (List.mem_cons_of_mem _ hx)
 | @new bs es e i j r h1 h2 h3 h4 h5 ih =>
  intro fs er hb he
  refine ih fs er (fun x hx=>?_) fun x hx=>he x (List.mem_cons_of_mem _ hx)
  rcases List.mem_append.mp hx with hx | hx
  ·exact hb x hx
  ·rw [List.mem_singleton.mp hx]
   exact YS (Ui hb (he e List.mem_cons_self) h1 h2)
 | far=>intro fs e; cases e
 | stuck=>intro fs e; cases e
theorem Zb {rs:List zH} {k:Nat} {l:List Nat} {ns:List Int} {es zs:List Ent} (h:Lined k l ns es zs) (he:∀ e ∈ es,EOk rs e):∀ e ∈ zs,EOk rs e:=fun e hz=>by
 have hm:=h.perm.mem_iff.mp hz
 unfold u7 at hm
 obtain ⟨y,hy,rfl⟩:=List.mem_map.mp hm
 exact YS (he y (List.mem_filter.mp hy).1)
theorem Zt {k:Nat} {l:List Nat} {ns:List Int} {es zs:List Ent} (h:Lined k l ns es zs) (he:∀ e ∈ es,EB l e):RL k l ns zs:=by
 have key:∀ e ∈ zs,∃ y,EB l y /\ y.1 ≠ y.2.1 /\ e = yh k l ns y:=fun e hz=>by
  have hm:=h.perm.mem_iff.mp hz
  unfold u7 at hm
  obtain ⟨y,hy,rfl⟩:=List.mem_map.mp hm
  obtain ⟨h1,h2⟩:=List.mem_filter.mp hy
  exact ⟨y,he y h1,by simpa using h2,rfl⟩
 refine ⟨fun e hz=>?_,fun e hz=>?_⟩
 ·obtain ⟨y,h1,_,rfl⟩:=key e hz
  exact h1.rule
 ·obtain ⟨y,h1,h2,rfl⟩:=key e hz
  exact uK h1 h2
theorem Wj {k:Nat} {l:List Nat} {ns:List Int} (G:OG l ns k) {zs bs:List Ent} (hz:RL k l ns zs) (h:xa k l ns [] zs (some bs)):RL k l ns bs:=by
 obtain ⟨gs,g1,g2,g3,g4⟩:=qt G h bs rfl ⟨fun e he=>(nomatch he),fun e he=>(nomatch he)⟩ hz
 exact g3
theorem Wc {rs:List zH} {k n:Nat} {l:List Nat} {ns:List Int} (G:OG l ns k) {es:List Ent} {r:Option (List Ent)} (h:Yg k l ns n es r):∀ fs,r = some fs -> (∀ e ∈ es,EB l e) -> (∀ e ∈ es,EOk rs e) -> (∀ e ∈ fs,EOk rs e) /\ ∃ zs,ThinL k l ns zs /\ zh fs = zh zs:=by
 induction h with
 | out=>intro fs e; cases e
 | bad=>intro fs e; cases e
 | @done n es zs bs h1 h2 h3 =>
  intro fs er he ho
  cases er
  have hz:=Zt h1 he
  exact ⟨kT h2 bs rfl (fun e h=>(nomatch h)) (Zb h1 ho),zs,Qc G hz h1.srt h2 h3,h3⟩
 | @more n es zs bs r h1 h2 h3 h4 ih =>
  intro fs er he ho
  have hz:=Zt h1 he
  exact ih fs er (Wj G hz h2).e (kT h2 bs rfl (fun e h=>(nomatch h)) (Zb h1 ho))
def rankF:KeyFam (Int × List Int):=⟨fun r=>[.int r.1,.lst (r.2.map L3.D.int)],fun a b=>if a.1 = b.1 then ltI a.2 b.2 else decide (a.1 < b.1),true,(0,[])⟩
theorem WN {x y:List Int} (h:ltI x y = true):ltI y x = false:=by
 by_cases e:x = y
 ·subst e
  rw [yT] at h
  cases h
 ·have:=xS e
  rw [h] at this
  simpa using this.symm
theorem UB {x y z:List Int} (h1:ltI y x = false) (h2:ltI z y = false):ltI z x = false:=by
 cases h:ltI z x with
 | false=>rfl
 | true =>
  by_cases e:y = x
  ·subst e
   rw [h2] at h
   cases h
  ·have h3:=xS e
   rw [h1] at h3
   have h4:ltI x y = true:=by simpa using h3.symm
   rw [uQ h h4] at h2
   cases h2
theorem rankF_ok:rankF.Ok where
 w:=⟨fun a b h=>by
   simp only [rankF] at h ⊢
   by_cases e:a.1 = b.1
   ·rw [if_pos e] at h
    rw [if_pos e.symm]
    exact WN h
   ·rw [if_neg e] at h
    rw [if_neg (fun z=>e z.symm)]
    have:=of_decide_eq_true h
    exact decide_eq_false (by omega),
  fun a b c h1 h2=>by
   simp only [rankF] at h1 h2 ⊢
   by_cases e:b.1 = a.1
   ·rw [if_pos e] at h1
    rw [e] at h2
    by_cases f:c.1 = a.1
    ·rw [if_pos f] at h2 ⊢
     exact UB h1 h2
    ·rw [if_neg f] at h2 ⊢
     exact h2
   ·rw [if_neg e] at h1
    have h1':=of_decide_eq_false h1
    by_cases f:c.1 = b.1
    ·rw [if_neg (by omega)]
     exact decide_eq_false (by omega)
    ·rw [if_neg f] at h2
     have h2':=of_decide_eq_false h2
     rw [if_neg (by omega)]
     exact decide_eq_false (by omega)⟩
 eq:=fun a b=>by
  have:=kn a.1 b.1 a.2 b.2
  simp only [ltD] at this
  exact this
 ok:=fun a b=>by simp only [rankF,qb,okD]; exact ⟨trivial,vc _ _,trivial⟩
 dp:=fun a=>by simp only [rankF,dpD,wz,jg]; decide
 sh:=fun a=>⟨_,_,rfl,.inl ⟨rfl,_,rfl⟩⟩
def Qh (k:Nat) (l:List Nat) (ns:List Int) (w:List Nat):Int × List Int:=(zl k l ns w,wk k l w)
theorem kL {H:Hp} {d:L3.D} {v:V}:∀ {ds:List L3.D} {vs:List V},Iss K H ds vs -> Is K H d v -> Iss K H (ds ++ [d]) (vs ++ [v])
 | [],vs,h,hv=>by
  simp only [Iss] at h
  subst h
  simp only [List.nil_append,Iss]
  exact ⟨v,[],rfl,hv,rfl⟩
 | e :: ds,vs,h,hv=>by
  simp only [Iss] at h
  obtain ⟨x,r,rfl,hx,hr⟩:=h
  simp only [List.cons_append,Iss]
  exact ⟨x,r ++ [v],rfl,hx,kL hr hv⟩
theorem OrdAt.samT {T CO CR CW:Addr} {H H':Hp} {ps:Array Value} {o:Addr} {k:Nat} {l:List Nat} {ns:List Int} (h:OrdAt CO CR CW H o k l ns) (s:SamT T H H') (hT:H T = some (.tbl ps)):OrdAt CO CR CW H' o k l ns:=by
 obtain ⟨dx,⟨h1,h2⟩ | ⟨h1,h2⟩ | ⟨h1,h2,w,h3,h4⟩⟩:=h
 ·exact ⟨dx,.inl ⟨h1,s.at hT h2 fun _ z=>by cases z⟩⟩
 ·exact ⟨dx,.inr (.inl ⟨h1,s.at hT h2 fun _ z=>by cases z⟩)⟩
 ·exact ⟨dx,.inr (.inr ⟨h1,h2,w,s.at hT h3 (fun _ z=>by cases z),s.at hT h4 fun _ z=>by cases z⟩)⟩
theorem EnsA.samT {T:Addr} {H H':Hp} {ps:Array Value} (s:SamT T H H') (hT:H T = some (.tbl ps)):∀ {es:List Ent} {vs:List V},EnsA K H es vs -> EnsA K H' es vs
 | [],vs,h=>by simp only [EnsA] at h ⊢; exact h
 | e :: es,vs,h=>by
  simp only [EnsA] at h ⊢
  obtain ⟨v,r,e0,⟨p,s',e1,h1,h2⟩,h3⟩:=h
  exact ⟨v,r,e0,⟨p,s',e1,s.seqT hT h1,h2.samT s hT⟩,EnsA.samT s hT h3⟩
theorem kh {a b:Int × List Int} (h:a ≠ b):rankF.lt a b = !rankF.lt b a:=by
 simp only [rankF]
 by_cases e:a.1 = b.1
 ·rw [if_pos e,if_pos e.symm]
  exact xS fun q=>h (Prod.ext e q)
 ·rw [if_neg e,if_neg fun q=>e q.symm]
  by_cases c:a.1 < b.1
  ·rw [decide_eq_true c,decide_eq_false (by omega)]
   rfl
  ·rw [decide_eq_false c,decide_eq_true (by omega)]
   rfl
theorem XX (a b:Int × List Int):eqD (.tup (rankF.dec a)) (.tup (rankF.dec b)) = decide (a = b):=by
 obtain ⟨a1,a2⟩:=a
 obtain ⟨b1,b2⟩:=b
 simp only [rankF,eqD,vZ,jw]
 by_cases h:a1 = b1
 ·by_cases h2:a2 = b2
  ·simp [h,h2]
  ·simp [h,h2]
 ·simp [h]
theorem Zj (a b:Int × List Int):ltD (.tup (rankF.dec a)) (.tup (rankF.dec b)) = rankF.lt a b:=by
 simp only [ltD]
 exact rankF_ok.eq a b
theorem jE (a:Int × List Int):rankF.lt a a = false:=by
 simp only [rankF]
 rw [if_pos trivial]
 exact yT _
def pairF:KeyFam ((Int × List Int) × (Int × List Int)):=⟨fun r=>[.tup (rankF.dec r.1),.tup (rankF.dec r.2)],fun a b=>if a.1 = b.1 then rankF.lt a.2 b.2 else rankF.lt a.1 b.1,false,((0,[]),(0,[]))⟩
theorem vP (a b:(Int × List Int) × (Int × List Int)):pairF.lt a b = if a.1 = b.1 then rankF.lt a.2 b.2 else rankF.lt a.1 b.1:=rfl
theorem WG:pairF.Ok where
 w:=⟨fun a b h=>by
   rw [vP] at h ⊢
   by_cases e:a.1 = b.1
   ·rw [if_pos e] at h
    rw [if_pos e.symm]
    exact rankF_ok.w.asym _ _ h
   ·rw [if_neg e] at h
    rw [if_neg fun q=>e q.symm]
    exact rankF_ok.w.asym _ _ h,
  fun a b c h1 h2=>by
   rw [vP] at h1 h2 ⊢
   by_cases e:b.1 = a.1
   ·rw [if_pos e] at h1
    rw [e] at h2
    by_cases f:c.1 = a.1
    ·rw [if_pos f] at h2 ⊢
     exact rankF_ok.w.ntr _ _ _ h1 h2
    ·rw [if_neg f] at h2 ⊢
     exact h2
   ·rw [if_neg e] at h1
    by_cases g:c.1 = b.1
    ·rw [g,if_neg e]
     exact h1
    ·rw [if_neg g] at h2
     by_cases f:c.1 = a.1
     ·rw [f] at h2
      have:=kh (a:=b.1) (b:=a.1) e
      rw [h1,h2] at this
      cases this
     ·rw [if_neg f]
      exact rankF_ok.w.ntr _ _ _ h1 h2⟩
 eq:=fun a b=>by
  show vj [.tup (rankF.dec a.1),.tup (rankF.dec a.2)] [.tup (rankF.dec b.1),.tup (rankF.dec b.2)] = _
  rw [vP,vj,XX,vj,XX,Zj,Zj,vj]
  by_cases e:a.1 = b.1
  ·rw [if_pos (decide_eq_true e),if_pos e]
   by_cases f:a.2 = b.2
   ·rw [if_pos (decide_eq_true f),f,jE]
   ·rw [if_neg (by simpa using f)]
  ·rw [if_neg (by simpa using e),if_neg e]
 ok:=fun a b=>by
  show qb [.tup (rankF.dec a.1),.tup (rankF.dec a.2)] [.tup (rankF.dec b.1),.tup (rankF.dec b.2)]
  simp only [qb,okD]
  exact ⟨rankF_ok.ok _ _,rankF_ok.ok _ _,trivial⟩
 dp:=fun a=>by simp only [pairF,rankF,dpD,wz,jg]; decide
 sh:=fun a=>⟨_,_,rfl,.inr ⟨rfl,_,rfl⟩⟩
def rkE (k:Nat) (l:List Nat) (ns:List Int) (e:Ent):(Int × List Int) × (Int × List Int):=(Qh k l ns e.1,Qh k l ns e.2.1)
theorem Qm {k:Nat} {l:List Nat} {ns:List Int} {u v:List Nat} (hu:∀ c ∈ u,c ∈ l) (hv:∀ c ∈ v,c ∈ l):Qh k l ns u = Qh k l ns v ↔ u = v :=
 ⟨fun h=>kP hu hv (Prod.ext_iff.mp h).2,fun h=>by rw [h]⟩
theorem US {k:Nat} {l:List Nat} {ns:List Int} {a b:Ent} (ha:EB l a) (hb:EB l b):pairF.lt (rkE k l ns a) (rkE k l ns b) = ZS k l ns a b:=by
 rw [vP]
 unfold ZS
 have h:(rkE k l ns a).1 = (rkE k l ns b).1 ↔ a.1 = b.1:=Qm ha.ma hb.ma
 by_cases e:a.1 = b.1
 ·rw [if_pos (h.mpr e),if_pos e]
  rfl
 ·rw [if_neg fun q=>e (h.mp q),if_neg e]
  rfl
theorem jD {α β:Type} (g:α -> β) {us ys:List β} (h:us.Perm ys):∀ ts:List α,us = ts.map g -> ∃ ts':List α,ts'.Perm ts /\ ys = ts'.map g:=by
 induction h with
 | nil =>
  intro ts e
  exact ⟨ts,List.Perm.refl _,e⟩
 | @cons x us ys _ ih =>
  intro ts e
  match ts,e with
  | t :: ts,e =>
   rw [List.map_cons] at e
   injection e with e1 e2
   obtain ⟨ts',p,rfl⟩:=ih ts e2
   exact ⟨t :: ts',p.cons t,by rw [e1]; rfl⟩
 | swap x y us =>
  intro ts e
  match ts,e with
  | t :: t2 :: ts,e =>
   rw [List.map_cons,List.map_cons] at e
   injection e with e1 e2
   injection e2 with e2 e3
   exact ⟨t2 :: t :: ts,List.Perm.swap t t2 ts,by rw [e1,e2,e3]; rfl⟩
 | trans _ _ ih1 ih2 =>
  intro ts e
  obtain ⟨ts',p1,e1⟩:=ih1 ts e
  obtain ⟨ts'',p2,e2⟩:=ih2 ts' e1
  exact ⟨ts'',p2.trans p1,e2⟩
theorem Xo {H:Hp}:∀ {es:List Ent} {vs:List V},EnsA K H es vs -> ∀ t ∈ es.zip vs,EnA K H t.1 t.2
 | [],_,_,t,ht=>by simp at ht
 | e :: es,vs,h,t,ht=>by
  simp only [EnsA] at h
  obtain ⟨v,r,rfl,h1,h2⟩:=h
  rw [List.zip_cons_cons] at ht
  rcases List.mem_cons.mp ht with rfl | ht
  ·exact h1
  ·exact Xo h2 t ht
theorem Vr {H:Hp}:∀ {ts:List (Ent × V)},(∀ t ∈ ts,EnA K H t.1 t.2) -> EnsA K H (ts.map (·.1)) (ts.map (·.2))
 | [],_=>by simp only [List.map_nil,EnsA]
 | t :: ts,h=>by
  simp only [List.map_cons,EnsA]
  exact ⟨_,_,rfl,h t List.mem_cons_self,Vr fun u hu=>h u (List.mem_cons_of_mem _ hu)⟩
theorem kq {H:Hp} {k:Nat} {l:List Nat} {ns:List Int} {es:List Ent} {vs:List V} {ys:List (((Int × List Int) × (Int × List Int)) × V)} (hI:EnsA K H es vs) (hE:∀ e ∈ es,EB l e) (h1:ys.Perm ((es.map (rkE k l ns)).zip vs)) (h2:ys.Pairwise fun p q=>pairF.lt q.1 p.1 = false) :
  ∃ zs:List Ent,zs.Perm es /\ zs.Pairwise (fun a b=>ZS k l ns b a = false) /\ EnsA K H zs (ys.map (·.2)):=by
 have hl:=hI.len
 have e0:(es.map (rkE k l ns)).zip vs = (es.zip vs).map fun t=>(rkE k l ns t.1,t.2):=by
  rw [List.zip_map_left]
  rfl
 obtain ⟨ts,p,rfl⟩:=jD (fun t:Ent × V=>(rkE k l ns t.1,t.2)) h1.symm (es.zip vs) e0
 have hm:∀ t ∈ ts,t.1 ∈ es:=fun t ht=>(List.of_mem_zip (show (t.1,t.2) ∈ es.zip vs from p.mem_iff.mp ht)).1
 refine ⟨ts.map (·.1),?_,?_,?_⟩
 ·have:=p.map (·.1)
  rw [List.map_fst_zip (by omega)] at this
  exact this
 ·rw [List.pairwise_map] at h2 ⊢
  refine h2.imp_of_mem fun {a b} ha hb h=>?_
  rw [<- US (hE _ (hm _ hb)) (hE _ (hm _ ha))]
  exact h
 ·have e1:(ts.map fun t=>(rkE k l ns t.1,t.2)).map (·.2) = ts.map (·.2):=by
   rw [List.map_map]
   rfl
  rw [e1]
  exact Vr fun t ht=>Xo hI t (p.mem_iff.mp ht)
def tbE (K:PySem.W.Frag) (CO CR CW:Addr):TE:=UK (zV (zB (Ju CO CR CW) "rank" (fun _=>uE CO CR CW) [] E0 (yN 1) (zV (tOp (uA K) (yN 0) (tC (.int 0))) wB)) (zV (zB (Ju CO CR CW) "rank" (fun _=>uE CO CR CW) [] E0 (yN 1) (zV (tOp (uA K) (yN 0) (tC (.int 1))) wB)) wB))
theorem QD {CO CR CW o p s:Addr} {k:Nat} {l:List Nat} {ns:List Int} {e:Ent} {H:Hp} {Q:VK} (hG:OG l ns k) (ho:OrdAt CO CR CW H o k l ns) (hE:EB l e) (hp:SqT K H p [.str (tx e.1),.str (tx e.2.1),.ref s]) (q:∀ (t:Addr) (H':Hp),Same H H' -> Is K H' (.tup (pairF.dec (rkE k l ns e))) (.ref t) -> Q (.ref t) H'):tbE K CO CR CW [some (.ref p),some (.ref o)] H Q:=by
 have s16:=yE
 obtain ⟨C,dx,fs,hf,ho1,hn,_⟩:=ho.fam
 have h1:fs.lookup ("rank" : Str) = none:=hn _ (by decide) (by decide)
 unfold tbE
 repeat (first | rfl' | simp only [yP,zB,zN,yR,yS,zA])
 refine ⟨C,hf,dx,fs,ho1,h1,_,hp,_,rfl,o,k,l,ns,e.1,rfl,ho,hG,by have:=hE.a; omega,hE.ma,fun p1 q1 H1 s1 hp1 hq1=>⟨C,hf,dx,fs,s1 _ _ ho1,h1,_,zm s1 hp,_,rfl,o,k,l,ns,e.2.1,rfl,ho.same s1,hG,by have:=hE.b; omega,hE.mb,fun p2 q2 H2 s2 hp2 hq2=>⟨by omega,fun t ht=>?_⟩⟩⟩
 refine q t _ (s1.trans (s2.trans (zg (o:=.tup [.ref p1,.ref p2]) ht))) ?_
 show Is K _ (.tup [.tup (rankF.dec (Qh k l ns e.1)),.tup (rankF.dec (Qh k l ns e.2.1))]) (.ref t)
 refine Is.tup ht ?_
 simp only [Iss]
 exact ⟨_,_,rfl,vn (s2 _ _ hp1) (s2 _ _ hq1),_,_,rfl,vn hp2 hq2,rfl⟩
theorem Vu {CO CR CW o:Addr} {k:Nat} {l:List Nat} {ns:List Int} {LA:Hp -> Prop} {Qf:List V -> Hp -> Prop} (hG:OG l ns k) (hLA:∀ H H',LA H -> Same H H' -> LA H'):∀ (es:List Ent) (vs acc:List V) (rs:List ((Int × List Int) × (Int × List Int))) (H:Hp),LA H -> OrdAt CO CR CW H o k l ns -> (∀ e ∈ es,EB l e) -> EnsA K H es vs ->
  Iss K H (rs.map fun a=>.tup (pairF.dec a)) acc -> (∀ acc' H',Same H H' -> Iss K H' ((rs ++ es.map (rkE k l ns)).map fun a=>.tup (pairF.dec a)) acc' -> Qf acc' H') -> vG (fun x H Q=>LA H /\ tbE K CO CR CW [some x,some (.ref o)] H Q) vs acc H Qf
 | [],vs,acc,rs,H,hL,ho,hw,hV,hI,h=>by
  simp only [EnsA] at hV
  subst hV
  exact h acc H (Same.refl _) (by simpa using hI)
 | e :: es,vs,acc,rs,H,hL,ho,hw,hV,hI,h=>by
  have s16:=yE
  simp only [EnsA] at hV
  obtain ⟨v,r,rfl,⟨p,s,rfl,hp,_⟩,hV⟩:=hV
  refine ⟨hL,QD hG ho (hw e List.mem_cons_self) hp fun t H' s3 hIs=>?_⟩
  refine Vu hG hLA es r (acc ++ [.ref t]) (rs ++ [rkE k l ns e]) _ (hLA _ _ hL s3) (ho.same s3) (fun x hx=>hw x (List.mem_cons_of_mem _ hx)) (hV.same s3) ?_ fun acc' H' s' hI'=>h acc' H' (s3.trans s') (by simpa using hI')
  rw [List.map_append]
  exact kL (Iss.same s3 _ _ hI) hIs
def Qx:Expr -> Pos
 | .Lambda _ _ _ p=>p
 | _=>default
def zar:List Stmt -> Pos
 | _ :: .Return (some (.Call _ _ (k :: _) _)) _ :: _=>Qx k.value
 | _=>default
def lp:Pos:=zar (zo yu)
def lq:Str:="in_order.<locals>.<lambda>"
def v0 (K:PySem.W.Frag) (CO CR CW T:Addr):Sp:=fun vs H Q _=>∃ (o a:Addr) (k:Nat) (l:List Nat) (ns:List Int) (es:List Ent),vs = [.ref o,.ref a] /\ OrdAt CO CR CW H o k l ns /\ OG l ns k /\ EnsL K H a es /\ es.length < 64 /\ (∀ e ∈ es,EB l e) /\ TabOk H T lp lq /\
 ∀ (D:Addr) (zs:List Ent) (H':Hp),SamT T H H' -> TabOk H' T lp lq -> H D = none -> Lined k l ns es zs -> EnsM K H' D zs -> Q (.ref D) H'
theorem YQ {CO CR CW T o a:Addr} {k:Nat} {l:List Nat} {ns:List Int} {es:List Ent} {H:Hp} {Q:VK} {E:XK} (h1:OrdAt CO CR CW H o k l ns) (h2:OG l ns k) (h3:EnsL K H a es) (h4:es.length < 64) (h5:∀ e ∈ es,EB l e) (h6:TabOk H T lp lq)
  (h:∀ (D:Addr) (zs:List Ent) (H':Hp),SamT T H H' -> TabOk H' T lp lq -> H D = none -> Lined k l ns es zs -> EnsM K H' D zs -> Q (.ref D) H'):v0 K CO CR CW T [.ref o,.ref a] H Q E:=⟨o,a,k,l,ns,es,rfl,h1,h2,h3,h4,h5,h6,h⟩
abbrev V2 (mg:Str -> Option Value):Prop:=mg "sorted" = none
theorem sc_in_order:zu ["order", "entries", "unlike"] ["order", "entries"] (zb yu):=⟨rfl,rfl,rfl,by decide +kernel,rfl,by decide +kernel,by decide +kernel⟩
theorem kz {f CO CR CW CC TB:Addr} {fd:FuncData} (B:Bt mg) (DRk:DR P w K mg base CO CR CW) (hsorted:V2 mg) (hCd:PySem.W.CodeHd base CC TB) (hBt:base.BuiltinsAt mg TB) (hgT:mainGlobals ≠ TB) (F:Fun K "in_order" "in_order" yu f fd) (HC:fd.code = .ref CC) (D_as_rule:Df P w K mg base CX0 4 "as_rule" ["order", "entry"] [] (xE K CO CR CW)):yk P w K mg base CX0 6 f fd ["order", "entries"] (v0 K CO CR CW TB):=by
 refine V5 F HC sc_in_order (fun vs H Q E h=>?_) (fun A outer s H vs Q E hr h=>?_)
 ·obtain ⟨o,a,k,l,ns,es,rfl,_⟩:=h
  rfl
 ·obtain ⟨o,a,k,l,ns,es,rfl,ho,hG,hA,hz,hE,hTab,q⟩:=h
  refine ⟨_,(zj (uf (i:=2) sc_in_order.nd rfl (Or.inl rfl) (Or.inl rfl) (own:=["entry"]) (caps:=["order"]) (ix:=[0]) (tt:=(tBl (tOp rNe (tOp (uA K) (yN 0) (tC (.int 0))) (tOp (uA K) (yN 0) (tC (.int 1)))))) (te:=(u8 (xE K CO CR CW) [] E0 (zV (yN 1) (zV (yN 0) wB)))) rfl (zR (sc:=zb yu) rfl (by decide +kernel) (by decide +kernel) (by decide +kernel) rfl (by decide +kernel) (by decide +kernel) rfl) (yG (pv 1)) (fun _ _ _ _ _ _=>zx (i:=0) (show List.Nodup [_,_] by decide) rfl (Or.inl rfl)) (fun _ _ _ _ _ _=>(UQ (zC ZE (zt ix_tup (pv 0) ze (fun _ _=>rfl)) (zt ix_tup (pv 0) ze (fun _ _=>rfl)) (zJ _)))) (fun _ _ _ _ _ _=>(cl0 D_as_rule hr .nil rfl (za (pv 1) (za (pv 0) zc)))))
   (zf (zw (WQ (k:=2) (p:="entry") (y:="order") (iy:=0) (c:=s.heap.objs.size + 1) (tb:=tbE K CO CR CW) WG ⟨rfl,rfl,rfl,by decide,rfl,rfl,by decide,by decide⟩ (hr.mono (by decide)) rfl hsorted PyProof.Rows.boot_sorted (za (pv 2) zc) rfl hCd hBt hgT rfl rfl (by intro _ _ _ _; exact rfl) rfl rfl rfl (fun s H f cv hr'=>yl (za (Jk DRk hr' (pv 1) (za (zt ix_tup (pv 0) ze (fun _ _=>rfl)) zc)) (za (Jk DRk hr' (pv 1) (za (zt ix_tup (pv 0) ze (fun _ _=>rfl)) zc)) zc))))))),?_⟩
  have s16:=yE
  obtain ⟨xs,hX,hI⟩:=id hA
  have hxl:=hI.len
  have hEr:∀ e ∈ u7 k l ns es,EB l e:=fun e he=>by
   unfold u7 at he
   obtain ⟨y,hy,rfl⟩:=List.mem_map.mp he
   exact (hE y (List.mem_filter.mp hy).1).rule
  have hrl:=km k l ns es
  refine zk (fun σ H'=>Same H H' /\ ∃ (D0:Addr) (acc:List V),H D0 = none /\ H' D0 = some (.lst acc) /\ EnsA K (uX D0 H') (u7 k l ns es) acc /\ σ = [some (.ref o),some (.ref a),some (.ref D0)]) ?_ ?_
  ·repeat (first | rfl' | simp only [yP,zB,zN,yR,yS,zA])
   refine ⟨⟨xs,hX⟩,fun D hD=>CompL.by (xs:=xs) (fun i acc H'=>Same H H' /\ H' D = some (.lst acc) /\ EnsA K (uX D H') (u7 k l ns (es.take i)) acc) ⟨zg hD,zd,by simp only [List.take_zero,u7,List.filter_nil,List.map_nil,EnsA]⟩ (fun i acc H' _ h=>h.1.seq hX) ?_ ?_⟩
   ·rintro i x acc H' hx ⟨hs,hH,hA⟩
    have hi:=(List.getElem?_eq_some_iff.mp hx).1
    obtain ⟨e,pe,se,hei,rfl,hqe,hse⟩:=hI.get hx
    have hEe:=hE e (List.mem_of_getElem? hei)
    have hal:=hA.len
    have hal2:=km k l ns (es.take i)
    rw [List.length_take] at hal2
    have hq1:=zm hs hqe
    have hraw:u7 k l ns (es.take (i + 1)) = u7 k l ns (es.take i) ++ if e.1 = e.2.1 then [] else [yh k l ns e]:=by
     rw [z6 hei,UT]
     congr 1
     unfold u7
     by_cases hne:e.1 = e.2.1
     ·rw [if_pos hne,List.filter_cons_of_neg (by simp [hne])]
      rfl
     ·rw [if_neg hne,List.filter_cons_of_pos (by simp [hne])]
      rfl
    repeat (first | rfl' | simp only [yP,zB,zN,yR,yS,zA])
    refine ⟨xh,_,hq1,_,rfl,_,hq1,_,rfl,rfl,xn (fun hne=>?_) fun heq=>?_⟩
    ·have hne':¬ e.1 = e.2.1:=fun z=>hne (by rw [z])
     rw [if_neg hne'] at hraw
     have fin:∀ (v:V) (H2:Hp),Same H' H2 -> EnA K (uX D H2) (yh k l ns e) v -> H2 D = some (.lst acc) /\ acc.length < sizeLine /\ CNx xs.length i (fun i acc H'=>Same H H' /\ H' D = some (.lst acc) /\ EnsA K (uX D H') (u7 k l ns (es.take i)) acc) (acc ++ [v]) (upd H2 D (.lst (acc ++ [v]))):=fun v H2 s2 hv=>by
      refine ⟨s2 _ _ hH,by omega,CNx.mk hi ⟨zF (hs.trans s2) hD,zd,?_⟩⟩
      rw [hraw]
      exact (hA.same ((y0 s2).trans yM)).snoc (hv.same yM)
     refine qe (ho.same hs) hG hq1 (hse.same hs).is hEe (fun er H2 s2=>fin _ _ s2 ?_) fun p' s' H2 s2 hsn hp' hL=>fin _ _ s2 ?_
     ·rw [er]
      exact EnA.same ⟨pe,se,rfl,hqe,hse⟩ (XA hD (hs.trans s2))
     ·exact EnA.new (s2 _ _ hH) hp' hL (fun z=>by rw [z,hH] at hsn; cases hsn)
    ·have heq':e.1 = e.2.1:=by
      have:=Classical.not_not.mp heq
      injection this with this
      exact Zo this
     rw [if_pos heq',List.append_nil] at hraw
     exact CNx.mk hi ⟨hs,hH,by rw [hraw]; exact hA⟩
   ·rintro acc H' ⟨hs,hH,hA⟩
    rw [hxl,List.take_length] at hA
    exact ⟨hs,D,hD,acc,hH,hA,rfl⟩
  rintro σ H1 ⟨s1,D0,acc,hD0,hH1,hI1,rfl⟩
  have hal:=hI1.len
  have hT1:=hTab.same s1
  obtain ⟨ps1,hps1,_⟩:=id hT1
  repeat (first | rfl' | simp only [yP,zB,zN,yR,yS,zA])
  unfold Vq
  refine ⟨_,rfl,hT1,fun f H2 hf hLA hT2 sT=>?_⟩
  obtain ⟨ps2,hps2,_⟩:=id hT2
  have hI2:=EnsA.samT sT hps1 (hI1.same xU)
  refine ⟨D0,acc,.ref o,rfl,SqL.of (sT.at hps1 hH1 fun _ z=>by cases z),by omega,rfl,?_⟩
  refine Vu hG (fun A A' h1 h2=>LamAt.same h1 h2) (u7 k l ns es) acc [] [] H2 hLA ((ho.same s1).samT sT hps1) hEr hI2 (by simp only [List.map_nil,Iss]) fun acc' H3 s3 hI3=>⟨(u7 k l ns es).map (rkE k l ns),by simpa using hI3,fun ys p1 p2 D hD=>?_⟩
  obtain ⟨zs,z1,z2,z3⟩:=kq (hI2.same s3) hEr p1 p2
  have sD:=zg (o:=.lst (ys.map (·.2))) hD
  refine q D zs _ ((SamT.of s1).trans (sT.trans (SamT.of (s3.trans sD)))) (hT2.same (s3.trans sD)) ?_ ⟨z1,z2⟩ ⟨_,zd,z3.same sD⟩
  exact ((SamT.of s1).trans (sT.trans (SamT.of s3))).free (s3 _ _ hps2) hD
structure TMo (mg:Str -> Option Value):Prop where
 u:∃ t,mg "MOST_USES" = some (.int 40 t)
 s:∃ t,mg "MOST_STEPS" = some (.int 240 t)
 d:∃ t,mg "MOST_SIDE" = some (.int 60 t)
 p:∃ t,mg "MOST_PASSES" = some (.int 20 t)
structure BG (k:Nat) (l:List Nat) (ns:List Int) (bs:List Ent):Prop where
 n:bs.length < 64
 e:∀ e ∈ bs,EB l e
 lt:∀ e ∈ bs,zQ k l ns e.2.1 e.1 = true
theorem BG.ne {k:Nat} {l:List Nat} {ns:List Int} {bs:List Ent} (h:BG k l ns bs) (G:OG l ns k):NeL (zh bs):=fun p hp=>by
 unfold zh at hp
 obtain ⟨e,he,rfl⟩:=List.mem_map.mp hp
 exact YW G.nb (h.lt e he)
theorem BG.le {k:Nat} {l:List Nat} {ns:List Int} {bs:List Ent} (h:BG k l ns bs):∀ p ∈ zh bs,p.1.length <= 60 /\ p.2.length <= 60:=fun p hp=>by
 unfold zh at hp
 obtain ⟨e,he,rfl⟩:=List.mem_map.mp hp
 exact ⟨(h.e e he).a,(h.e e he).b⟩
theorem BG.mem {k:Nat} {l:List Nat} {ns:List Int} {bs:List Ent} (h:BG k l ns bs):∀ p ∈ zh bs,∀ c ∈ p.2,c ∈ l:=fun p hp=>by
 unfold zh at hp
 obtain ⟨e,he,rfl⟩:=List.mem_map.mp hp
 exact (h.e e he).mb
theorem qv {CF a:Addr} {ps:List zH} {w:List Nat} {H:Hp} {Q:VK} {E:XK} (hA:LsA K H a (ps.map dR)) (hN:NeL ps) (hpl:ps.length <= 100) (hP:∀ p ∈ ps,p.1.length <= 60 /\ p.2.length <= 60) (hw:w.length <= 60)
  (h1:∀ (i:Nat) (p S:Addr) (H':Hp),zO ps w i -> Same H H' -> H' p = some (.tup [.ref S,.str (tx (wAt ps w i))]) -> LsA K H' S ((sAt ps w i).map dG) -> H S = none -> Q (.ref p) H') (h2:(∀ i,¬ zO ps w i) -> ∀ H',Same H H' -> E (.ref CF) none H'):vt K CF [.ref a,.str (tx w),.int 40] H Q E:=by
 have hP':∀ p ∈ ps,p.1.length <= 1000 /\ p.2.length <= 1000:=fun p hp=>by
  have:=hP p hp
  omega
 have len:∀ j,j <= 40 -> (wAt ps w j).length <= 10000:=fun j hj=>by
  have:=jd (l:=w) (m:=60) hN (fun p hp=>(hP p hp).2) j
  omega
 rcases UX ps w with ⟨i,hi⟩ | ⟨hL,hf⟩
 ·have hm:=hi.most
  exact ⟨a,w,ps,40,i,rfl,hA,hN,hpl,hP',⟨hi.live,fun j hj=>len j (by omega),by omega⟩,.inl ⟨hi.end_,by omega,fun p S H' s' hp hL hS=>h1 i p S H' hi s' hp hL hS⟩⟩
 ·refine ⟨a,w,ps,40,40,rfl,hA,hN,hpl,hP',⟨hL,fun j hj=>len j hj,by decide⟩,.inr ⟨hf,rfl,h2 fun i hi=>?_⟩⟩
  have hm:=hi.most
  by_cases e:i = 40
  ·subst e
   exact hf hi.end_
  ·exact hL i (by omega) hi.end_
theorem U1 (us:List (Nat × Nat)):us.map dG = (stS us).map dSt:=by
 unfold stS
 rw [List.map_map]
 rfl
theorem XB (us:List (Nat × Nat)):(stS us).length = us.length:=by unfold stS; rw [List.length_map]
theorem QE {ps:List zH} {w:List Nat} {i:Nat} (h:V8 ps w i):∀ u ∈ sAt ps w i,u.1 < ps.length:=fun u hu=>by
 unfold sAt at hu
 obtain ⟨j,hj,rfl⟩:=List.mem_map.mp hu
 cases e:zM (wAt ps w j) ps with
 | none=>exact absurd e (h j (List.mem_range.mp hj))
 | some v =>
  obtain ⟨p,h1,_⟩:=yO e
  exact (List.getElem?_eq_some_iff.mp h1).1
theorem VE {ps:List zH} {w:List Nat} {i:Nat} (h:V8 ps w i):∀ u ∈ stS (sAt ps w i),0 <= u.1 /\ u.1 < ps.length:=fun u hu=>by
 unfold stS at hu
 obtain ⟨v,hv,rfl⟩:=List.mem_map.mp hu
 have:=QE h v hv
 show 0 <= (v.1:Int) /\ (v.1:Int) < ps.length
 omega
theorem Ue {n:Int} {ss:List Stp} (h:∀ u ∈ ss,0 <= u.1 /\ u.1 < n):∀ u ∈ yC ss,0 <= u.1 /\ u.1 < n:=fun u hu=>by
 unfold yC at hu
 obtain ⟨v,hv,rfl⟩:=List.mem_map.mp hu
 exact h v (List.mem_reverse.mp hv)
theorem Jq {es:List Ent} (h:∀ e ∈ es,e.2.2.length <= 240) (u:Stp):(Yx es u).length <= 240:=by
 have hg:(es.getD u.1.toNat ([],[],[])).2.2.length <= 240:=by
  rw [List.getD_eq_getElem?_getD]
  cases e:es[u.1.toNat]? with
  | none=>exact Nat.zero_le _
  | some r=>exact h r (List.mem_of_getElem? e)
 unfold Yx
 rw [Xa]
 split
 ·exact hg
 ·rw [wj]
  exact hg
theorem Qe {es:List Ent} (h:∀ e ∈ es,e.2.2.length <= 240):∀ us:List Stp,(byL es us).length <= us.length * 240
 | []=>by simp [byL]
 | u :: us=>by
  have e:byL es (u :: us) = Yx es u ++ byL es us:=by simp [byL]
  have h1:=Jq h u
  have h2:=Qe h us
  rw [e,List.length_append,List.length_cons,Nat.succ_mul]
  omega
def qB (K:PySem.W.Frag) (CF:Addr):Sp:=fun vs H Q E=>∃ (a p s:Addr) (k:Nat) (l:List Nat) (ns:List Int) (bs:List Ent) (e:Ent),vs = [.ref a,.ref p] /\ OG l ns k /\ Is K H (.lst (bs.map dE)) (.ref a) /\ BG k l ns bs /\ SqT K H p [.str (tx e.1),.str (tx e.2.1),.ref s] /\ LsA K H s (e.2.2.map dSt) /\ EB l e /\
 (∀ i j H',zO (zh bs) e.1 i -> zO (zh bs) e.2.1 j -> wAt (zh bs) e.1 i = wAt (zh bs) e.2.1 j -> Same H H' -> Q .non H') /\
 (∀ i j p' s' H',zO (zh bs) e.1 i -> zO (zh bs) e.2.1 j -> wAt (zh bs) e.1 i ≠ wAt (zh bs) e.2.1 j -> Same H H' -> H s' = none -> H' p' = some (.tup [.str (tx (yB bs e i j).1),.str (tx (yB bs e i j).2.1),.ref s']) -> LsA K H' s' ((yB bs e i j).2.2.map dSt) -> Q (.ref p') H') /\
 ((∀ i,¬ zO (zh bs) e.1 i) \/ (∀ j,¬ zO (zh bs) e.2.1 j) -> ∀ H',Same H H' -> E (.ref CF) none H')
theorem Vm {a t:Addr} {es:List Ent} {us:List Stp} {H:Hp} {Q:VK} {E:XK} (h1:Is K H (.lst (es.map dE)) (.ref a)) (h2:Is K H (.lst (us.map dSt)) (.ref t)) (h3:us.length <= 100) (h4:∀ e ∈ es,e.2.2.length <= 300) (h5:∀ u ∈ us,0 <= u.1 /\ u.1 < es.length) (h:∀ (D:Addr) (H':Hp),H D = none -> Same H H' -> LsA K H' D ((byL es us).map dSt) -> Q (.ref D) H'):W7 K [.ref a,.ref t] H Q E:=⟨a,t,es,us,rfl,h1,h2,h3,h4,h5,h⟩
theorem sc_brought_down:zu ["entries", "entry", "rules", "one", "other", "steps"] ["entries", "entry"] (zb ya):=⟨rfl,rfl,rfl,by decide +kernel,rfl,by decide +kernel,by decide +kernel⟩
theorem uG {f CF:Addr} {fd:FuncData} {dt_gone:Tok} (B:Bt mg) (TM:TMo mg) (F:Fun K "brought_down" "brought_down" ya f fd) (D_pairs_of:Df P w K mg base CX0 1 "pairs_of" ["entries"] [] (vb K)) (D_gone:Df P w K mg base (CXx P w) 4 "gone" ["rules", "word", "most"] [] (vt K CF)) (DD_gone:Df P w K mg base (CXx P w) 4 "gone" ["rules", "word", "most"] [.int 4000 dt_gone] (vt K CF)) (D_by_pacts:Df P w K mg base CX0 2 "by_pacts" ["entries", "steps"] [] (W7 K)) (D_back:Df P w K mg base CX0 1 "back" ["steps"] [] (vm K)):yk P w K mg base (CXx P w) 5 f fd ["entries", "entry"] (qB K CF):=by
 obtain ⟨t9,g9⟩:=TM.u
 refine Fun.okX F sc_brought_down (fun vs H Q E h=>?_) (fun cdv A outer s H vs Q E hr hx h=>?_)
 ·obtain ⟨a,p,s,k,l,ns,bs,e,rfl,_⟩:=h
  rfl
 ·obtain ⟨a,p,s,k,l,ns,bs,e,rfl,hG,hA,hB,hp,hs,hE,q1,q2,q3⟩:=h
  refine ⟨_,(zj (zv (i:=2) sc_brought_down.nd rfl (Or.inl rfl) (cl0 D_pairs_of hr .nil rfl (za (pv 0) zc)))
   (zj (zv (i:=3) sc_brought_down.nd rfl (Or.inl rfl) (clP hx D_gone hr .nil rfl (za (pv 2) (za (zt ix_tup (pv 1) ze (fun _ _=>rfl)) (za (xP (v:=.int 40) rfl g9 ⟨t9,rfl⟩) zc)))))
   (zj (zv (i:=4) sc_brought_down.nd rfl (Or.inl rfl) (clP hx D_gone hr .nil rfl (za (pv 2) (za (zt ix_tup (pv 1) ze (fun _ _=>rfl)) (za (xP (v:=.int 40) rfl g9 ⟨t9,rfl⟩) zc)))))
   (zj (zW (zC uY (zt ix_tup (pv 3) ze (fun _ _=>rfl)) (zt ix_tup (pv 4) ze (fun _ _=>rfl)) (zJ _))
    (zf (zw wv))
    zy)
   (zj (zv (i:=5) sc_brought_down.nd rfl (Or.inl rfl) (zD YY (zD YY (cl0 D_by_pacts hr .nil rfl (za (pv 0) (za (cl0 D_back hr .nil rfl (za (zt ix_tup (pv 3) ze (fun _ _=>rfl)) zc)) zc))) (zt ix_tup (pv 1) ze (fun _ _=>rfl))) (cl0 D_by_pacts hr .nil rfl (za (pv 0) (za (zt ix_tup (pv 4) ze (fun _ _=>rfl)) zc)))))
   (zf (zw (yl (za (zt ix_tup (pv 3) ze (fun _ _=>rfl)) (za (zt ix_tup (pv 4) ze (fun _ _=>rfl)) (za (pv 5) zc))))))))))),?_⟩
  have s16:=yE
  have hbl:=hB.n
  have hN:=hB.ne hG
  have hpl:=jX bs
  have hst:∀ e ∈ bs,e.2.2.length <= 240:=fun e he=>(hB.e e he).s
  have hst3:∀ e ∈ bs,e.2.2.length <= 300:=fun e he=>by have:=hst e he; omega
  refine zk (fun σ H'=>Same H H' /\ ∃ R:Addr,LsA K H' R ((zh bs).map dR) /\ σ = [some (.ref a),some (.ref p),some (.ref R),none,none,none]) ?_ ?_
  ·repeat (first | rfl' | simp only [yP,zB,zN,yR,yS,zA])
   exact uT hA (by omega) fun D H' _ s' hL=>⟨s',D,hL,rfl⟩
  rintro σ H1 ⟨s1,R,hR,rfl⟩
  refine zk (fun σ H'=>Same H1 H' /\ ∃ (i:Nat),zO (zh bs) e.1 i /\ ∃ p1:Addr,(∃ S1:Addr,H' p1 = some (.tup [.ref S1,.str (tx (wAt (zh bs) e.1 i))]) /\ LsA K H' S1 ((sAt (zh bs) e.1 i).map dG)) /\ σ = [some (.ref a),some (.ref p),some (.ref R),some (.ref p1),none,none]) ?_ ?_
  ·repeat (first | rfl' | simp only [yP,zB,zN,yR,yS,zA])
   refine ⟨_,zm s1 hp,_,rfl,qv hR hN (by omega) hB.le hE.a (fun i p1 S1 H' hi s' hp1 hL _=>⟨s',i,hi,p1,⟨S1,hp1,hL⟩,rfl⟩) fun hno H' s'=>q3 (.inl hno) H' (s1.trans s')⟩
  rintro σ H2 ⟨s2,i,hi,p1,⟨S1,hp1,hS1⟩,rfl⟩
  have s12:=s1.trans s2
  refine zk (fun σ H'=>Same H2 H' /\ ∃ (j:Nat),zO (zh bs) e.2.1 j /\ ∃ p2:Addr,(∃ S2:Addr,H' p2 = some (.tup [.ref S2,.str (tx (wAt (zh bs) e.2.1 j))]) /\ LsA K H' S2 ((sAt (zh bs) e.2.1 j).map dG)) /\ σ = [some (.ref a),some (.ref p),some (.ref R),some (.ref p1),some (.ref p2),none]) ?_ ?_
  ·repeat (first | rfl' | simp only [yP,zB,zN,yR,yS,zA])
   refine ⟨_,zm s12 hp,_,rfl,qv (hR.same s2) hN (by omega) hB.le hE.b (fun j p2 S2 H' hj s' hp2 hL _=>⟨s',j,hj,p2,⟨S2,hp2,hL⟩,rfl⟩) fun hno H' s'=>q3 (.inr hno) H' (s12.trans s')⟩
  rintro σ H3 ⟨s3,j,hj,p2,⟨S2,hp2,hS2⟩,rfl⟩
  have s13:=s12.trans s3
  have hp1':=s3 _ _ hp1
  have hS1':=hS1.same s3
  refine zk (fun σ H'=>H' = H3 /\ wAt (zh bs) e.1 i ≠ wAt (zh bs) e.2.1 j /\ σ = [some (.ref a),some (.ref p),some (.ref R),some (.ref p1),some (.ref p2),none]) ?_ ?_
  ·repeat (first | rfl' | simp only [yP,zB,zN,yR,yS,zA])
   refine ⟨_,SqT.of hp1',_,rfl,_,SqT.of hp2,_,rfl,rfl,xn (fun h=>?_) fun h=>?_⟩
   ·exact q1 i j H3 hi hj (Zo (by injection h)) s13
   ·exact fun z=>h (by rw [z])
  rintro σ H4 ⟨rfl,hne,rfl⟩
  have him:=hi.most
  have hjm:=hj.most
  have hl1:(stS (sAt (zh bs) e.1 i)).length = i:=by rw [XB,j9]
  have hl2:(stS (sAt (zh bs) e.2.1 j)).length = j:=by rw [XB,j9]
  rw [U1] at hS1' hS2
  have hA4:=Is.same s13 _ _ hA
  have hb1:=Qe hst (yC (stS (sAt (zh bs) e.1 i)))
  have hb2:=Qe hst (stS (sAt (zh bs) e.2.1 j))
  rw [wj,hl1] at hb1
  rw [hl2] at hb2
  have hes:=hE.s
  refine zk (fun σ H'=>Same H4 H' /\ ∃ S:Addr,H4 S = none /\ LsA K H' S ((yB bs e i j).2.2.map dSt) /\ σ = [some (.ref a),some (.ref p),some (.ref R),some (.ref p1),some (.ref p2),some (.ref S)]) ?_ ?_
  ·repeat (first | rfl' | simp only [yP,zB,zN,yR,yS,zA])
   refine ⟨_,SqT.of hp1',_,rfl,qQ hS1'.is (by omega) fun B1 G1 _ t1 hB1=>Vm (Is.same t1 _ _ hA4) hB1.is (by rw [wj]; omega) hst3 (by rw [<- hpl]; exact Ue (VE hi.live)) fun C1 G2 hC1n t2 hC1=>?_⟩
   have t12:=t1.trans t2
   obtain ⟨c1,hc1,ic1⟩:=id hC1
   obtain ⟨es0,hs0,is0⟩:=hs.same (s13.trans t12)
   have lc1:=ic1.len
   have ls0:=is0.len
   rw [List.length_map] at lc1 ls0
   refine ⟨_,zm (s13.trans t12) hp,_,rfl,C1,rfl,s,rfl,c1,hc1,es0,hs0,by omega,fun M hM=>?_⟩
   have t3:=zg (o:=.lst (c1 ++ es0)) hM
   have t13:=t12.trans t3
   refine ⟨_,SqT.of (t13 _ _ hp2),_,rfl,Vm (Is.same t13 _ _ hA4) (hS2.same t13).is (by omega) hst3 (by rw [<- hpl]; exact VE hj.live) fun C2 G3 hC2n t4 hC2=>?_⟩
   obtain ⟨c2,hc2,ic2⟩:=id hC2
   have lc2:=ic2.len
   rw [List.length_map] at lc2
   refine ⟨C2,rfl,c1 ++ es0,t4 _ _ zd,c2,hc2,by rw [List.length_append]; omega,fun S hS=>?_⟩
   have t5:=zg (o:=.lst (c1 ++ es0 ++ c2)) hS
   refine ⟨t13.trans (t4.trans t5),S,(t13.trans t4).free hS,⟨_,zd,?_⟩,rfl⟩
   show Iss K _ ((byL bs (yC (stS (sAt (zh bs) e.1 i))) ++ e.2.2 ++ byL bs (stS (sAt (zh bs) e.2.1 j))).map dSt) _
   rw [List.map_append,List.map_append]
   exact Iss.append (Iss.append (Iss.same (t3.trans (t4.trans t5)) _ _ ic1) (Iss.same (t3.trans (t4.trans t5)) _ _ is0)) (Iss.same t5 _ _ ic2)
  rintro σ H5 ⟨s5,S,hSn,hS,rfl⟩
  repeat (first | rfl' | simp only [yP,zB,zN,yR,yS,zA])
  refine ⟨_,SqT.of (s5 _ _ hp1'),_,rfl,_,SqT.of (s5 _ _ hp2),_,rfl,by omega,fun t ht=>?_⟩
  have st:=zg (o:=.tup [.str (tx (wAt (zh bs) e.1 i)),.str (tx (wAt (zh bs) e.2.1 j)),.ref S]) ht
  exact q2 i j t S _ hi hj hne (s13.trans (s5.trans st)) (s13.free hSn) zd (hS.same st)
def wS (K:PySem.W.Frag) (CF:Addr):Sp:=fun vs H Q E=>∃ (p s:Addr) (e:Ent),vs = [.ref p] /\ SqT K H p [.str (tx e.1),.str (tx e.2.1),.ref s] /\ Is K H (.lst (e.2.2.map dSt)) (.ref s) /\ e.1.length <= 10000 /\ e.2.1.length <= 10000 /\ (¬ ZR e -> Q .non H) /\ (ZR e -> E (.ref CF) none H)
theorem ZM {CF p s:Addr} {e:Ent} {H:Hp} {Q:VK} {E:XK} (h1:SqT K H p [.str (tx e.1),.str (tx e.2.1),.ref s]) (h2:Is K H (.lst (e.2.2.map dSt)) (.ref s)) (h3:e.1.length <= 10000) (h4:e.2.1.length <= 10000) (h5:¬ ZR e -> Q .non H) (h6:ZR e -> E (.ref CF) none H):wS K CF [.ref p] H Q E:=⟨p,s,e,rfl,h1,h2,h3,h4,h5,h6⟩
theorem vJ:zu ["entry"] ["entry"] (zb zX):=⟨rfl,rfl,rfl,by decide +kernel,rfl,by decide +kernel,by decide +kernel⟩
theorem vN {f CF:Addr} {fd:FuncData} (B:Bt mg) (T:QA K mg CF) (TM:TMo mg) (F:Fun K "refuse_beyond" "refuse_beyond" zX f fd)  : yk P w K mg base (CXx P w) 1 f fd ["entry"] (wS K CF):=by
 obtain ⟨⟨t9,g9⟩,⟨t8,g8⟩⟩:=And.intro TM.s TM.d
 refine Fun.okX F vJ (fun vs H Q E h=>?_) (fun cdv A outer s H vs Q E hr hx h=>?_)
 ·obtain ⟨p,s,e,rfl,_⟩:=h
  rfl
 ·obtain ⟨p,s,e,rfl,hp,hs,ha,hb,q1,q2⟩:=h
  refine ⟨_,(zj (zW (zC qm (zn z9 rfl B.len PySem.boot_len (za (zt ix_tup (pv 0) ze (fun _ _=>rfl)) zc)) (xP (v:=.int 240) rfl g9 ⟨t9,rfl⟩) (zJ _))
    (zf (yA hx rfl T.xi.toXC T.ini rfl T.g (za yY zc)))
    zy)
   (zf (zW (zC qm (zn (Vv rfl) rfl B.max qG (za (zn z9 rfl B.len PySem.boot_len (za (zt ix_tup (pv 0) ze (fun _ _=>rfl)) zc)) (za (zn z9 rfl B.len PySem.boot_len (za (zt ix_tup (pv 0) ze (fun _ _=>rfl)) zc)) zc))) (xP (v:=.int 60) rfl g8 ⟨t8,rfl⟩) (zJ _))
    (zf (yA hx rfl T.xi.toXC T.ini rfl T.g (za yY zc)))
    zy))),?_⟩
  have s16:=yE
  simp only [Is] at hs
  obtain ⟨_,zs,e0,hZ,hI⟩:=hs
  cases e0
  have hzl:=hI.len
  rw [List.length_map] at hzl
  refine zk (fun σ H'=>H' = H /\ e.2.2.length <= 240 /\ σ = [some (.ref p)]) ?_ ?_
  ·repeat (first | rfl' | simp only [yP,zB,zN,yR,yS,zA])
   refine ⟨_,hp,_,rfl,_,.inl ⟨_,hZ,rfl⟩,xn (fun h=>⟨by omega,q2 (.inl (by omega))⟩) fun h=>by omega⟩
  rintro σ H1 ⟨rfl,h1,rfl⟩
  repeat (first | rfl' | simp only [yP,zB,zN,yR,yS,zA])
  refine ⟨_,hp,_,rfl,_,⟨by rw [yf]; omega,rfl⟩,_,hp,_,rfl,_,⟨by rw [yf]; omega,rfl⟩,?_⟩
  rw [yf,yf]
  refine xn (fun h=>⟨by omega,q2 ?_⟩) fun h=>q1 ?_
  ·unfold ZR
   split at h <;> omega
  ·unfold ZR
   split at h <;> omega
theorem WX {k:Nat} {l:List Nat} {ns:List Int} {bs:List Ent} {e:Ent} {i j:Nat} (hB:BG k l ns bs) (hE:EB l e) (hF:¬ ZR (yB bs e i j)):EB l (yB bs e i j):=by
 unfold ZR at hF
 exact ⟨by omega,by omega,by omega,vf hE.ma hB.mem i,vf hE.mb hB.mem j⟩
theorem BG.snoc {k:Nat} {l:List Nat} {ns:List Int} {bs:List Ent} {d:Ent} (h:BG k l ns bs) (hn:bs.length + 1 < 64) (hd:EB l d) (hne:d.1 ≠ d.2.1):BG k l ns (bs ++ [yh k l ns d]):=by
 refine ⟨by rw [List.length_append]; exact hn,fun e he=>?_,fun e he=>?_⟩
 ·rcases List.mem_append.mp he with he | he
  ·exact h.e e he
  ·rw [List.mem_singleton.mp he]
   exact hd.rule
 ·rcases List.mem_append.mp he with he | he
  ·exact h.lt e he
  ·rw [List.mem_singleton.mp he]
   exact uK hd hne
theorem WE {CF a p s:Addr} {k:Nat} {l:List Nat} {ns:List Int} {bs:List Ent} {e:Ent} {H:Hp} {Q:VK} {E:XK} (h1:OG l ns k) (h2:Is K H (.lst (bs.map dE)) (.ref a)) (h3:BG k l ns bs) (h4:SqT K H p [.str (tx e.1),.str (tx e.2.1),.ref s]) (h5:LsA K H s (e.2.2.map dSt)) (h6:EB l e)
  (q1:∀ i j H',zO (zh bs) e.1 i -> zO (zh bs) e.2.1 j -> wAt (zh bs) e.1 i = wAt (zh bs) e.2.1 j -> Same H H' -> Q .non H')
  (q2:∀ i j p' s' H',zO (zh bs) e.1 i -> zO (zh bs) e.2.1 j -> wAt (zh bs) e.1 i ≠ wAt (zh bs) e.2.1 j -> Same H H' -> H s' = none -> H' p' = some (.tup [.str (tx (yB bs e i j).1),.str (tx (yB bs e i j).2.1),.ref s']) -> LsA K H' s' ((yB bs e i j).2.2.map dSt) -> Q (.ref p') H')
  (q3:(∀ i,¬ zO (zh bs) e.1 i) \/ (∀ j,¬ zO (zh bs) e.2.1 j) -> ∀ H',Same H H' -> E (.ref CF) none H'):qB K CF [.ref a,.ref p] H Q E:=⟨a,p,s,k,l,ns,bs,e,rfl,h1,h2,h3,h4,h5,h6,q1,q2,q3⟩
theorem WA {k:Nat} {l:List Nat} {ns:List Int} {bs:List Ent} {e:Ent} {i j:Nat} (hB:BG k l ns bs) (hG:OG l ns k) (hE:EB l e) (hi:i <= 40) (hj:j <= 40):(yB bs e i j).1.length <= 10000 /\ (yB bs e i j).2.1.length <= 10000:=by
 have h1:=jd (l:=e.1) (m:=60) (hB.ne hG) (fun p hp=>(hB.le p hp).2) i
 have h2:=jd (l:=e.2.1) (m:=60) (hB.ne hG) (fun p hp=>(hB.le p hp).2) j
 have h3:=hE.a
 have h4:=hE.b
 show (wAt (zh bs) e.1 i).length <= 10000 /\ (wAt (zh bs) e.2.1 j).length <= 10000
 omega
def vW (K:PySem.W.Frag) (CO CR CW CF:Addr):Sp:=fun vs H Q E=>∃ (o a:Addr) (k:Nat) (l:List Nat) (ns:List Int) (zs:List Ent),vs = [.ref o,.ref a] /\ OrdAt CO CR CW H o k l ns /\ OG l ns k /\ EnsL K H a zs /\ zs.length < 64 /\ (∀ e ∈ zs,EB l e) /\
 (∀ (bs:List Ent) (D:Addr) (H':Hp),xa k l ns [] zs (some bs) -> BG k l ns bs -> Same H H' -> H D = none -> EnsM K H' D bs -> Q (.ref D) H') /\ (xa k l ns [] zs none -> ∀ H',Same H H' -> E (.ref CF) none H')
theorem X4 {CO CR CW CF o a:Addr} {k:Nat} {l:List Nat} {ns:List Int} {zs:List Ent} {H:Hp} {Q:VK} {E:XK} (h1:OrdAt CO CR CW H o k l ns) (h2:OG l ns k) (h3:EnsL K H a zs) (h4:zs.length < 64) (h5:∀ e ∈ zs,EB l e)
  (q1:∀ (bs:List Ent) (D:Addr) (H':Hp),xa k l ns [] zs (some bs) -> BG k l ns bs -> Same H H' -> H D = none -> EnsM K H' D bs -> Q (.ref D) H') (q2:xa k l ns [] zs none -> ∀ H',Same H H' -> E (.ref CF) none H'):vW K CO CR CW CF [.ref o,.ref a] H Q E:=⟨o,a,k,l,ns,zs,rfl,h1,h2,h3,h4,h5,q1,q2⟩
def J1 (K:PySem.W.Frag) (H1 H':Hp) (bs:List Ent) (e:Ent) (v:V):Prop:=∃ i j,zO (zh bs) e.1 i /\ zO (zh bs) e.2.1 j /\ ((wAt (zh bs) e.1 i = wAt (zh bs) e.2.1 j /\ v = .non) \/
 (wAt (zh bs) e.1 i ≠ wAt (zh bs) e.2.1 j /\ ∃ p s:Addr,v = .ref p /\ H1 s = none /\ H' p = some (.tup [.str (tx (yB bs e i j).1),.str (tx (yB bs e i j).2.1),.ref s]) /\ LsA K H' s ((yB bs e i j).2.2.map dSt)))
def Kj (K:PySem.W.Frag) (H:Hp) (D:Addr) (k:Nat) (l:List Nat) (ns:List Int) (zs:List Ent) (i:Nat) (H':Hp):Prop:=∃ (bs:List Ent) (acc:List V),Same H H' /\ H' D = some (.lst acc) /\ EnsA K (uX D H') bs acc /\ BG k l ns bs /\ bs.length <= i /\ ∀ r,xa k l ns bs (zs.drop i) r -> xa k l ns [] zs r
theorem sc_built_anew:zu ["order", "entries", "built", "entry", "lower"] ["order", "entries"] (zb yv):=⟨rfl,rfl,rfl,by decide +kernel,rfl,by decide +kernel,by decide +kernel⟩
theorem qT {f CO CR CW CF:Addr} {fd:FuncData} (B:Bt mg)  (F:Fun K "built_anew" "built_anew" yv f fd) (D_brought_down:Df P w K mg base (CXx P w) 5 "brought_down" ["entries", "entry"] [] (qB K CF)) (D_refuse_beyond:Df P w K mg base (CXx P w) 1 "refuse_beyond" ["entry"] [] (wS K CF)) (D_as_rule:Df P w K mg base CX0 4 "as_rule" ["order", "entry"] [] (xE K CO CR CW)):yk P w K mg base (CXx P w) 6 f fd ["order", "entries"] (vW K CO CR CW CF):=by
 refine Fun.okX F sc_built_anew (fun vs H Q E h=>?_) (fun cdv A outer s H vs Q E hr hx h=>?_)
 ·obtain ⟨o,a,k,l,ns,zs,rfl,_⟩:=h
  rfl
 ·obtain ⟨o,a,k,l,ns,zs,rfl,ho,hG,hA,hz,hE,q1,q2⟩:=h
  refine ⟨_,(zj (zv (i:=2) sc_built_anew.nd rfl (Or.inl rfl) (wM zc))
   (zj (yD PassesOwn.leaving rfl (yG (pv 1)) (zx (i:=3) sc_built_anew.nd rfl (Or.inl rfl))
    (zj (zv (i:=4) sc_built_anew.nd rfl (Or.inl rfl) (clP hx D_brought_down hr .nil rfl (za (pv 2) (za (pv 3) zc))))
    (zf (zW (zC op_notN' (pv 4) wv (zJ _))
     (zj (xu (clP hx D_refuse_beyond hr .nil rfl (za (pv 4) zc)))
     (zf (xu (wD PySem.F.plainAttrs_list PySem.F.slot_list_append PySem.F.type_list_append yZ (pv 2) (za (cl0 D_as_rule hr .nil rfl (za (pv 0) (za (pv 4) zc))) zc)))))
     zy))))
   (zf (zw (pv 2))))),?_⟩
  have s16:=yE
  obtain ⟨xs,hX,hI⟩:=id hA
  have hxl:=hI.len
  refine zk (fun σ H'=>Same H H' /\ ∃ D:Addr,H D = none /\ H' D = some (.lst []) /\ σ = [some (.ref o),some (.ref a),some (.ref D),none,none]) ?_ ?_
  ·repeat (first | rfl' | simp only [yP,zB,zN,yR,yS,zA])
   exact ⟨by omega,fun p hp=>⟨zg hp,p,hp,zd,rfl⟩⟩
  rintro σ H0 ⟨s0,D,hD,hD0,rfl⟩
  refine zk (fun σ H'=>Kj K H D k l ns zs zs.length H' /\ ∃ (v3 v4:Option V),σ = [some (.ref o),some (.ref a),some (.ref D),v3,v4]) ?_ ?_
  ·repeat (first | rfl' | simp only [yP,zB,zN,yR,yS,zA])
   refine ⟨⟨_,s0.seq hX⟩,ForL.by (xs:=xs) (fun i σ H'=>Kj K H D k l ns zs i H' /\ ∃ (v3 v4:Option V),σ = [some (.ref o),some (.ref a),some (.ref D),v3,v4]) ⟨⟨[],[],s0,hD0,by simp only [EnsA],⟨by decide,fun e he=>(nomatch he),fun e he=>(nomatch he)⟩,Nat.le_refl _,fun r h=>h⟩,none,none,rfl⟩ (fun i σ H' _ ⟨⟨_,_,h,_⟩,_⟩=>h.seq hX) ?_ ?_⟩
   ·rintro i x σ H1 hx ⟨⟨bs,acc,s1,hH1,hI1,hB,hbi,hr⟩,v3,v4,rfl⟩
    have hix:=(List.getElem?_eq_some_iff.mp hx).1
    obtain ⟨e,pe,se,hei,rfl,hqe,hse⟩:=hI.get hx
    have hEe:=hE e (List.mem_of_getElem? hei)
    have hdrop:zs.drop i = e :: zs.drop (i + 1):=by
     obtain ⟨h1,h2⟩:=List.getElem?_eq_some_iff.mp hei
     rw [List.drop_eq_getElem_cons h1,h2]
    rw [hdrop] at hr
    have hal:=hI1.len
    have hbn:=hB.n
    have hIs:Is K H1 (.lst (bs.map dE)) (.ref D):=by
     simp only [Is]
     exact ⟨D,acc,rfl,SqL.of hH1,(hI1.same xU).iss⟩
    simp only [xR,List.set_cons_succ,List.set_cons_zero]
    refine zk (fun σ H'=>Same H1 H' /\ ∃ v:V,J1 K H1 H' bs e v /\ σ = [some (.ref o),some (.ref a),some (.ref D),some (.ref pe),some (v)]) ?_ ?_
    ·repeat (first | rfl' | simp only [yP,zB,zN,yR,yS,zA])
     exact WE hG hIs hB (zm s1 hqe) (hse.same s1) hEe (fun i' j' H' a1 a2 a3 s'=>⟨s',i',j',a1,a2,.inl ⟨a3,rfl⟩⟩) (fun i' j' p' s' H' a1 a2 a3 t' a4 a5 a6=>⟨t',i',j',a1,a2,.inr ⟨a3,p',s',rfl,a4,a5,a6⟩⟩) fun h H' s'=>q2 (hr _ (.stuck h)) H' (s1.trans s')
    rintro σ H2 ⟨s2,v,⟨i',j',hi',hj',hc⟩,rfl⟩
    rcases hc with ⟨hw,rfl⟩ | ⟨hw,p',s',rfl,hsn,hp',hL'⟩
    ·repeat (first | rfl' | simp only [yP,zB,zN,yR,yS,zA])
     exact ⟨bs,acc,s1.trans s2,s2 _ _ hH1,hI1.same (y0 s2),hB,by omega,fun r h=>hr r (.same hi' hj' hw h)⟩
    ·repeat (first | rfl' | simp only [yP,zB,zN,yR,yS,zA])
     rw [if_pos not_false]
     have hdl:=WA hB hG hEe hi'.most hj'.most
     refine zk (fun σ H'=>H' = H2 /\ ¬ ZR (yB bs e i' j') /\ σ = [some (.ref o),some (.ref a),some (.ref D),some (.ref pe),some (.ref p')]) ?_ ?_
     ·repeat (first | rfl' | simp only [yP,zB,zN,yR,yS,zA])
      exact ZM (SqT.of hp') hL'.is hdl.1 hdl.2 (fun h=>⟨rfl,h⟩) fun h=>q2 (hr _ (.far hi' hj' hw h)) H2 (s1.trans s2)
     rintro σ H3 ⟨rfl,hF,rfl⟩
     have hEd:=WX hB hEe hF
     have hH3:=s2 _ _ hH1
     have fin:∀ (v:V) (H4:Hp),Same H3 H4 -> EnA K (uX D H4) (yh k l ns (yB bs e i' j')) v -> Kj K H D k l ns zs (i + 1) (upd H4 D (.lst (acc ++ [v]))):=fun v H4 s4 hv=>by
      refine ⟨bs ++ [yh k l ns (yB bs e i' j')],acc ++ [v],zF (s1.trans (s2.trans s4)) hD,zd,?_,hB.snoc (by omega) hEd hw,by rw [List.length_append]; show bs.length + 1 <= i + 1; omega,fun r h=>hr r (.new hi' hj' hw hF h)⟩
      exact (hI1.same ((y0 (s2.trans s4)).trans yM)).snoc (hv.same yM)
     repeat (first | rfl' | simp only [yP,zB,zN,yR,yS,zA])
     refine ⟨.inl ⟨_,SqL.of hH3⟩,qe (ho.same (s1.trans s2)) hG (SqT.of hp') hL'.is hEd (fun er H4 s4=>⟨acc,s4 _ _ hH3,by omega,fin _ _ s4 ?_⟩) fun p2 t2 H4 s4 htn hp2 hL2=>⟨acc,s4 _ _ hH3,by omega,fin _ _ s4 ?_⟩⟩
     ·rw [er]
      exact EnA.new (s4 _ _ hH3) (s4 _ _ hp') (hL'.same s4) (fun z=>by rw [z,hH1] at hsn; cases hsn)
     ·exact EnA.new (s4 _ _ hH3) hp2 hL2 (fun z=>by rw [z,hH3] at htn; cases htn)
   ·rintro σ H' ⟨h,v3,v4,rfl⟩
    rw [hxl] at h
    exact ⟨h,_,_,rfl⟩
  rintro σ H2 ⟨⟨bs,acc,s2,hH2,hI2,hB,hbi,hr⟩,v3,v4,rfl⟩
  rw [List.drop_length] at hr
  repeat (first | rfl' | simp only [yP,zB,zN,yR,yS,zA])
  exact q1 bs D H2 (hr _ (.nil bs)) hB s2 hD ⟨acc,hH2,hI2.same xU⟩
theorem WH (rs ss:List zH):vZ (rs.map dR) (ss.map dR) = decide (rs = ss):=by
 induction rs generalizing ss with
 | nil=>cases ss with
  | nil=>simp [vZ]
  | cons s ss=>simp [vZ]
 | cons r rs ih=>cases ss with
  | nil=>simp [vZ]
  | cons s ss =>
   rw [List.map_cons,List.map_cons,vZ,ih]
   have h:eqD (dR r) (dR s) = decide (r = s):=by
    obtain ⟨a,b⟩:=r
    obtain ⟨c,d⟩:=s
    have e1:∀ x y:List Nat,eqD (dS x) (dS y) = decide (x = y):=fun x y=>by
     have:eqD (dS x) (dS y) = decide (tx x = tx y):=by simp only [dS,eqD]; rfl
     rw [this]
     exact decide_eq_decide.mpr ⟨Zo,fun h=>by rw [h]⟩
    simp only [dR,eqD,vZ,e1]
    by_cases h1:a = c <;> by_cases h2:b = d <;> simp [h1,h2]
   rw [h]
   by_cases h1:r = s <;> by_cases h2:rs = ss <;> simp [h1,h2]
theorem Lined.eb {k:Nat} {l:List Nat} {ns:List Int} {es zs:List Ent} (h:Lined k l ns es zs) (hE:∀ e ∈ es,EB l e):∀ e ∈ zs,EB l e:=fun e he=>by
 have hm:=h.perm.mem_iff.mp he
 unfold u7 at hm
 obtain ⟨y,hy,rfl⟩:=List.mem_map.mp hm
 exact (hE y (List.mem_filter.mp hy).1).rule
theorem Lined.len {k:Nat} {l:List Nat} {ns:List Int} {es zs:List Ent} (h:Lined k l ns es zs):zs.length <= es.length:=by
 rw [h.perm.length_eq]
 exact km k l ns es
def ky (K:PySem.W.Frag) (CO CR CW T CF:Addr):Sp:=fun vs H Q E=>∃ (o a:Addr) (k:Nat) (l:List Nat) (ns:List Int) (es:List Ent),vs = [.ref o,.ref a] /\ OrdAt CO CR CW H o k l ns /\ OG l ns k /\ EnsL K H a es /\ es.length < 64 /\ (∀ e ∈ es,EB l e) /\ TabOk H T lp lq /\
 (∀ (bs:List Ent) (D:Addr) (H':Hp),Yg k l ns 20 es (some bs) -> BG k l ns bs -> SamT T H H' -> TabOk H' T lp lq -> EnsM K H' D bs -> Q (.ref D) H') /\ (Yg k l ns 20 es none -> ∀ H',SamT T H H' -> TabOk H' T lp lq -> E (.ref CF) none H')
def KL (K:PySem.W.Frag) (T:Addr) (H:Hp) (k:Nat) (l:List Nat) (ns:List Int) (es:List Ent) (n:Nat) (H':Hp) (b:Addr):Prop:=∃ fs:List Ent,SamT T H H' /\ TabOk H' T lp lq /\ (∀ r,Yg k l ns n fs r -> Yg k l ns 20 es r) /\ EnsL K H' b fs /\ fs.length < 64 /\ ∀ e ∈ fs,EB l e
theorem sc_thinned:zu ["order", "entries", "turn", "lined_up"] ["order", "entries"] (zb xF):=⟨rfl,rfl,rfl,by decide +kernel,rfl,by decide +kernel,by decide +kernel⟩
theorem ZK {f CO CR CW TB CF:Addr} {fd:FuncData} (B:Bt mg) (T:QA K mg CF) (TM:TMo mg) (F:Fun K "thinned" "thinned" xF f fd) (D_in_order:Df P w K mg base CX0 6 "in_order" ["order", "entries"] [] (v0 K CO CR CW TB)) (D_built_anew:Df P w K mg base (CXx P w) 6 "built_anew" ["order", "entries"] [] (vW K CO CR CW CF)) (D_pairs_of:Df P w K mg base CX0 1 "pairs_of" ["entries"] [] (vb K)):yk P w K mg base (CXx P w) 7 f fd ["order", "entries"] (ky K CO CR CW TB CF):=by
 obtain ⟨t9,g9⟩:=TM.p
 refine Fun.okX F sc_thinned (fun vs H Q E h=>?_) (fun cdv A outer s H vs Q E hr hx h=>?_)
 ·obtain ⟨o,a,k,l,ns,es,rfl,_⟩:=h
  rfl
 ·obtain ⟨o,a,k,l,ns,es,rfl,ho,hG,hA,hz,hE,hTab,q1,q2⟩:=h
  refine ⟨_,(zj (yD PassesOwn.leaving rfl (xC rfl B.range (za (xP (v:=.int 20) rfl g9 ⟨t9,rfl⟩) zc)) (zx (i:=2) sc_thinned.nd rfl (Or.inl rfl))
    (zj (zv (i:=3) sc_thinned.nd rfl (Or.inl rfl) (cl0 D_in_order hr .nil rfl (za (pv 0) (za (pv 1) zc))))
    (zj (zv (i:=1) sc_thinned.nd rfl (Or.inl rfl) (clP hx D_built_anew hr .nil rfl (za (pv 0) (za (pv 3) zc))))
    (zf (zW (zC (QY (uV hr)) (cl0 D_pairs_of hr .nil rfl (za (pv 1) zc)) (cl0 D_pairs_of hr .nil rfl (za (pv 3) zc)) (zJ _))
     (zf (zw (pv 1)))
     zy)))))
   (zf (yA hx rfl T.xi.toXC T.ini rfl T.g (za yY zc)))),?_⟩
  have s16:=yE
  obtain ⟨ps0,hps0,_⟩:=id hTab
  refine zk (fun σ H'=>∃ b:Addr,KL K TB H k l ns es 0 H' b) ?_ ?_
  ·repeat (first | rfl' | simp only [yP,zB,zN,yR,yS,zA])
   refine ⟨by omega,by omega,ForR.by (fun i σ H'=>∃ (b:Addr) (v2 v3:Option V),KL K TB H k l ns es (20 - i) H' b /\ σ = [some (.ref o),some (.ref b),v2,v3]) ⟨a,none,none,⟨es,SamT.of (Same.refl _),hTab,fun r h=>h,hA,hz,hE⟩,rfl⟩ ?_ ?_⟩
   ·rintro i σ H1 hi ⟨b,v2,v3,⟨fs,s1,hT1,hr,hF,hfl,hFE⟩,rfl⟩
    have ho1:=ho.samT s1 hps0
    have hi20:i < 20:=hi
    obtain ⟨n,hn⟩:∃ n,20 - i = n + 1:=⟨20 - i - 1,by omega⟩
    rw [hn] at hr
    simp only [xR,List.set_cons_succ,List.set_cons_zero]
    refine zk (fun σ H'=>SamT TB H1 H' /\ TabOk H' TB lp lq /\ ∃ (z:Addr),(∃ zs:List Ent,Lined k l ns fs zs /\ EnsM K H' z zs) /\ ∃ v2,σ = [some (.ref o),some (.ref b),v2,some (.ref z)]) ?_ ?_
    ·repeat (first | rfl' | simp only [yP,zB,zN,yR,yS,zA])
     exact YQ ho1 hG hF hfl hFE hT1 fun D zs H' s' hT' _ hLn hM=>⟨s',hT',D,⟨zs,hLn,hM⟩,rfl⟩
    rintro σ H2 ⟨s2,hT2,z,⟨zs,hLn,hZ⟩,v2,rfl⟩
    have s12:=s1.trans s2
    have ho2:=ho.samT s12 hps0
    have hzE:=hLn.eb hFE
    have hzl:=hLn.len
    refine zk (fun σ H'=>Same H2 H' /\ ∃ (c:Addr),(∃ bs:List Ent,xa k l ns [] zs (some bs) /\ BG k l ns bs /\ EnsM K H' c bs) /\ σ = [some (.ref o),some (.ref c),v2,some (.ref z)]) ?_ ?_
    ·repeat (first | rfl' | simp only [yP,zB,zN,yR,yS,zA])
     exact X4 ho2 hG hZ.l (by omega) hzE (fun bs D H' hb hB s' _ hM=>⟨s',D,⟨bs,hb,hB,hM⟩,rfl⟩) fun hb H' s'=>q2 (hr _ (.bad hLn hb)) H' (s12.trans (SamT.of s')) (hT2.same s')
    rintro σ H3 ⟨s3,c,⟨bs,hb,hB,hM⟩,rfl⟩
    have hbn:=hB.n
    repeat (first | rfl' | simp only [yP,zB,zN,yR,yS,zA])
    refine uT hM.l.is (by omega) fun P1 H4 _ s4 hP1=>uT ((hZ.same s3).same s4).l.is (by omega) fun P2 H5 _ s5 hP2=>UM (.inl ⟨(hP1.same s5).is,hP2.is⟩) (Nat.lt_of_le_of_lt (QV _) (by decide)) ?_
    rw [WH]
    have s45:=s4.trans s5
    have s15:=s12.trans (SamT.of (s3.trans s45))
    have hT5:=hT2.same (s3.trans s45)
    refine ⟨_,rfl,xn (fun h=>?_) fun h=>?_⟩
    ·exact q1 bs c H5 (hr _ (.done hLn hb (of_decide_eq_true h))) hB s15 hT5 (hM.same s45)
    ·have e:20 - (i + 1) = n:=by omega
     rw [e]
     exact ⟨bs,s15,hT5,fun r h'=>hr r (.more hLn hb (fun z=>h (decide_eq_true z)) h'),(hM.same s45).l,hbn,hB.e⟩
   ·rintro σ H' ⟨b,v2,v3,h,rfl⟩
    exact ⟨b,h⟩
  rintro σ H2 ⟨b,fs,s2,hT2,hr,_⟩
  repeat (first | rfl' | simp only [yP,zB,zN,yR,yS,zA])
  exact ⟨by omega,q2 (hr _ (.out fs)) H2 s2 hT2⟩
def wE (K:PySem.W.Frag):Sp:=fun vs H Q _=>∃ (a:Addr) (ns:List Int) (k:Int),vs = [.ref a,.int k] /\ SqL K H a (ns.map V.int) /\ (∀ z ∈ ns,vd z) /\ 0 <= k /\ ∀ c:Int,vd c -> Q (.int c) H
theorem xl {a:Addr} {ns:List Int} {k:Int} {H:Hp} {Q:VK} {E:XK} (hS:SqL K H a (ns.map V.int)) (hB:∀ z ∈ ns,vd z) (hk:0 <= k) (h:∀ c:Int,vd c -> Q (.int c) H):wE K [.ref a,.int k] H Q E:=⟨a,ns,k,rfl,hS,hB,hk,h⟩
theorem VW:zu ["_law_script", "_law_k"] ["_law_script", "_law_k"] (zb qd):=⟨rfl,rfl,rfl,by decide +kernel,rfl,by decide +kernel,by decide +kernel⟩
theorem UH {f:Addr} {fd:FuncData} (B:Bt mg)  (F:Fun K "_law_cell" "_law_cell" qd f fd)  : yk P w K mg base CX0 1 f fd ["_law_script", "_law_k"] (wE K):=by
 refine F.ok VW (fun vs H Q E h=>?_) (fun cdv A outer s H vs Q E hr h=>?_)
 ·obtain ⟨a,ns,k,rfl,_⟩:=h
  rfl
 ·obtain ⟨a,ns,k,rfl,hS,hB,hk,q⟩:=h
  refine ⟨_,(zK (zW (zC Zc (pv 1) (zn z9 rfl B.len PySem.boot_len (za (pv 0) zc)) (zJ _))
    (zf (zw (zt Zn (pv 0) (pv 1) (fun _ _=>rfl))))
    zy)
   (zf (zw ze))),?_⟩
  have s16:=yE
  rfl'
  refine ⟨_,.inl ⟨_,hS,rfl⟩,xn (fun c=>?_) (fun c=>q 0 (by unfold vd; decide))⟩
  obtain ⟨v,h1,h2⟩:=um hk c
  rw [List.getElem?_map] at h2
  obtain ⟨z,hz,rfl⟩:=Option.map_eq_some_iff.mp h2
  exact .inl ⟨_,hS,_,h1,q z (hB z (List.mem_of_getElem? hz))⟩
def xk:Sp:=fun vs H Q _=>∃ (c t:Int),vs = [.int c,.int t] /\ vd c /\ 0 <= t /\ t <= 100 /\ ∀ z:Int,0 <= z -> Q (.int z) H
theorem y8 {c t:Int} {H:Hp} {Q:VK} {E:XK} (hc:vd c) (h0:0 <= t) (h1:t <= 100) (q:∀ z:Int,0 <= z -> Q (.int z) H):xk [.int c,.int t] H Q E:=⟨c,t,rfl,hc,h0,h1,q⟩
theorem sc_mixed:zu ["_law_cell_here", "_law_turn", "_law_number"] ["_law_cell_here", "_law_turn"] (zb vw):=⟨rfl,rfl,rfl,by decide +kernel,rfl,by decide +kernel,by decide +kernel⟩
theorem Wm {f:Addr} {fd:FuncData} (B:Bt mg)  (F:Fun K "_law_mixed" "_law_mixed" vw f fd)  : yk P w K mg base CX0 1 f fd ["_law_cell_here", "_law_turn"] xk:=by
 refine F.ok sc_mixed (fun vs H Q E h=>?_) (fun cdv A outer s H vs Q E hr h=>?_)
 ·obtain ⟨c,t,rfl,_⟩:=h
  rfl
 ·obtain ⟨c,t,rfl,hc,h0,h1,q⟩:=h
  refine ⟨_,(zK (zv (i:=2) sc_mixed.nd rfl (Or.inl rfl) (zD op_add (zD op_mul (zD Vg (pv 0) (pv 0)) ze) (zD op_mul (zD op_mul (pv 0) ze) (zD op_add (pv 1) ze))))
   (zf (zw (zD xY (zD xm (zD op_add (pv 2) (zD op_mul (pv 1) ze)) ze) ze)))),?_⟩
  have s16:=yE
  rfl'
  exact ⟨hc,hc,.inr ⟨by decide,by decide⟩,.inr ⟨by decide,by decide⟩,.inr ⟨by omega,by omega⟩,.inr ⟨by decide,by decide⟩,by decide,⟨by decide,by decide⟩,q _ (Int.ediv_nonneg (Int.emod_nonneg _ (by decide)) (by decide))⟩
def wf:Sp:=fun vs H Q _=>∃ c m:Int,vs = [.int c,.int m] /\ vd c /\ 0 <= m /\ m <= 26 /\ ∀ l:List Nat,(l.length:Int) = m -> l.Nodup -> kC l -> Q (.str (tx l)) H
theorem j2 {c m:Int} {H:Hp} {Q:VK} {E:XK} (h:vd c) (h0:0 <= m) (h1:m <= 26) (q:∀ l:List Nat,(l.length:Int) = m -> l.Nodup -> kC l -> Q (.str (tx l)) H):wf [.int c,.int m] H Q E:=⟨c,m,rfl,h,h0,h1,q⟩
def KI (c m:Int) (i:Nat) (σ:L2.St):Prop:=∃ (left found:List Nat) (number:Int) (v5 v6:Option V),found.length = i /\ (found ++ left).Perm alpha /\ σ = [some (.int c),some (.int m),some (.str (tx left)),some (.int number),some (.str (tx found)),v5,v6]
theorem sc_letters:zu ["_law_cell_here", "_law_many", "_law_left", "_law_number", "_law_letters_here", "_law_k", "_law_at"] ["_law_cell_here", "_law_many"] (zb xw):=⟨rfl,rfl,rfl,by decide +kernel,rfl,by decide +kernel,by decide +kernel⟩
theorem Yc {f:Addr} {fd:FuncData} (B:Bt mg)  (F:Fun K "_law_letters" "_law_letters" xw f fd) (D_mixed:Df P w K mg base CX0 1 "_law_mixed" ["_law_cell_here", "_law_turn"] [] xk):yk P w K mg base CX0 2 f fd ["_law_cell_here", "_law_many"] wf:=by
 refine F.ok sc_letters (fun vs H Q E h=>?_) (fun cdv A outer s H vs Q E hr h=>?_)
 ·obtain ⟨c,m,rfl,_⟩:=h
  rfl
 ·obtain ⟨c,m,rfl,hc,h0,h1,q⟩:=h
  refine ⟨_,(zj (zv (i:=2) sc_letters.nd rfl (Or.inl rfl) yY)
   (zj (zv (i:=3) sc_letters.nd rfl (Or.inl rfl) (cl0 D_mixed hr .nil rfl (za (pv 0) (za ze zc))))
   (zj (zv (i:=4) sc_letters.nd rfl (Or.inl rfl) yY)
   (zj (yD PassesOwn.never rfl (xC rfl B.range (za (pv 1) zc)) (zx (i:=5) sc_letters.nd rfl (Or.inl rfl))
    (zj (zv (i:=6) sc_letters.nd rfl (Or.inl rfl) (zD xm (pv 3) (zn z9 rfl B.len PySem.boot_len (za (pv 2) zc))))
    (zj (zv (i:=3) sc_letters.nd rfl (Or.inl rfl) (zD xY (pv 3) (zn z9 rfl B.len PySem.boot_len (za (pv 2) zc))))
    (zj (zv (i:=4) sc_letters.nd rfl (Or.inl rfl) (zD op_add_str (pv 4) (zt VT (pv 2) (pv 6) (fun _ _=>rfl))))
    (zf (zv (i:=2) sc_letters.nd rfl (Or.inl rfl) (zD op_add_str (yL vC (pv 2) wC (yK (pv 6))) (yL vC (pv 2) (yK (zD op_add (pv 6) ze)) wC))))))))
   (zf (zw (pv 4))))))),?_⟩
  have s16:=yE
  have ha:alpha.length = 26:=rfl
  refine zk (fun σ H'=>H' = H /\ σ = [some (.int c),some (.int m),some (.str (tx alpha)),none,none,none,none]) ?_ ?_
  ·rfl'
   exact Xz
  rintro σ H1 ⟨rfl,rfl⟩
  refine zk (fun σ H'=>H' = H1 /\ ∃ z:Int,σ = [some (.int c),some (.int m),some (.str (tx alpha)),some (.int z),none,none,none]) ?_ ?_
  ·rfl'
   exact y8 hc (by decide) (by decide) fun z _=>⟨rfl,z,rfl⟩
  rintro σ H2 ⟨rfl,z,rfl⟩
  refine zk (fun σ H'=>H' = H2 /\ σ = [some (.int c),some (.int m),some (.str (tx alpha)),some (.int z),some (.str (tx [])),none,none]) ?_ ?_
  ·rfl'
   rfl
  rintro σ H3 ⟨rfl,rfl⟩
  refine zk (fun σ H'=>H' = H3 /\ KI c m m.toNat σ) ?_ ?_
  ·rfl'
   refine ⟨by omega,by omega,ForR.by (fun i σ H'=>H' = H3 /\ KI c m i σ) ⟨rfl,alpha,[],z,none,none,rfl,.refl _,rfl⟩ ?_ fun σ H' h=>h⟩
   rintro i σ H' hi ⟨rfl,left,found,number,v5,v6,hf,hp,rfl⟩
   have hpl:=hp.length_eq
   rw [List.length_append] at hpl
   have hl:left.length + i = 26:=by omega
   have hm0:=Int.emod_nonneg number (b:=(left.length:Int)) (by omega)
   have hm1:=Int.emod_lt_of_pos number (b:=(left.length:Int)) (by omega)
   generalize hz:number % (left.length:Int) = at_ at hm0 hm1
   obtain ⟨v,e1,e2⟩:=um hm0 hm1
   simp only [xR,List.set_cons_succ,List.set_cons_zero]
   refine zk (fun σ H''=>H'' = H' /\ ∃ v5,σ = [some (.int c),some (.int m),some (.str (tx left)),some (.int number),some (.str (tx found)),v5,some (.int at_)]) ?_ ?_
   ·rfl'
    exact ⟨by omega,by omega,hz⟩
   rintro σ G1 ⟨rfl,v5',rfl⟩
   refine zk (fun σ H''=>H'' = G1 /\ ∃ n v5,σ = [some (.int c),some (.int m),some (.str (tx left)),some (.int n),some (.str (tx found)),v5,some (.int at_)]) ?_ ?_
   ·rfl'
    exact ⟨by omega,⟨by omega,by omega⟩⟩
   rintro σ G2 ⟨rfl,n,v5',rfl⟩
   refine zk (fun σ H''=>H'' = G2 /\ ∃ v5,σ = [some (.int c),some (.int m),some (.str (tx left)),some (.int n),some (.str (tx (found ++ [v]))),v5,some (.int at_)]) ?_ ?_
   ·rfl'
    exact ⟨by omega,v,e1,by omega,rfl⟩
   rintro σ G3 ⟨rfl,v5',rfl⟩
   have hc1:=wJ left none (some at_)
   have hc2:=wJ left (some (at_ + 1)) none
   rfl'
   refine ⟨by omega,by omega,by omega,_,_,_,_,_,by rw [List.length_append,hf]; rfl,?_,rfl⟩
   rw [YJ _ hm0,jo _ (by omega),List.append_assoc]
   have e3:(at_ + 1).toNat = at_.toNat + 1:=by omega
   rw [e3]
   exact ((YX e2).append_left found).trans hp
  rintro σ H4 ⟨rfl,left,found,number,v5,v6,hf,hp,rfl⟩
  rfl'
  have hnd:(found ++ left).Nodup:=hp.nodup_iff.mpr (by decide)
  refine q found (by omega) (List.nodup_append.mp hnd).1 fun c hc=>?_
  have h:c ∈ alpha:=hp.mem_iff.mp (List.mem_append_left _ hc)
  exact (by decide:∀ c ∈ alpha,97 <= c /\ c <= 122) c h
def ug:Sp:=fun vs H Q _=>∃ (ls:List Nat) (c m:Int),vs = [.int c,.str (tx ls),.int m] /\ 0 <= c /\ 1 <= ls.length /\ ls.length <= 26 /\ 0 <= m /\ m <= 100 /\ ∀ l:List Nat,(l.length:Int) <= m -> (∀ x ∈ l,x ∈ ls) -> Q (.str (tx l)) H
theorem qA {ls:List Nat} {c m:Int} {H:Hp} {Q:VK} {E:XK} (h0:0 <= c) (h1:1 <= ls.length) (h2:ls.length <= 26) (h3:0 <= m) (h4:m <= 100) (h:∀ l:List Nat,(l.length:Int) <= m -> (∀ x ∈ l,x ∈ ls) -> Q (.str (tx l)) H):ug [.int c,.str (tx ls),.int m] H Q E :=
 ⟨ls,c,m,rfl,h0,h1,h2,h3,h4,h⟩
theorem sc_word:zu ["_law_number", "_law_letters_here", "_law_most", "_law_size", "_law_word_here", "_law_k"] ["_law_number", "_law_letters_here", "_law_most"] (zb qy):=⟨rfl,rfl,rfl,by decide +kernel,rfl,by decide +kernel,by decide +kernel⟩
theorem Uf {f:Addr} {fd:FuncData} (B:Bt mg)  (F:Fun K "_law_word" "_law_word" qy f fd)  : yk P w K mg base CX0 1 f fd ["_law_number", "_law_letters_here", "_law_most"] ug:=by
 refine F.ok sc_word (fun vs H Q E h=>?_) (fun cdv A outer s H vs Q E hr h=>?_)
 ·obtain ⟨ls,c,m,rfl,_⟩:=h
  rfl
 ·obtain ⟨ls,c,m,rfl,h0,h1,h2,h3,h4,q⟩:=h
  refine ⟨_,(zK (zv (i:=3) sc_word.nd rfl (Or.inl rfl) (zD xm (pv 0) (zD yQ (pv 2) ze)))
   (zK (zv (i:=0) sc_word.nd rfl (Or.inl rfl) (zD xY (pv 0) (zD yQ (pv 2) ze)))
   (zK (zv (i:=4) sc_word.nd rfl (Or.inl rfl) yY)
   (zK (yD PassesOwn.never rfl (xC rfl B.range (za (pv 3) zc)) (zx (i:=5) sc_word.nd rfl (Or.inl rfl))
    (zK (zv (i:=4) sc_word.nd rfl (Or.inl rfl) (zD yQ (pv 4) (zt Zn (pv 1) (zD xm (pv 0) (zn z9 rfl B.len PySem.boot_len (za (pv 1) zc))) (fun _ _=>rfl))))
    (zf (zv (i:=0) sc_word.nd rfl (Or.inl rfl) (zD xY (pv 0) (zn z9 rfl B.len PySem.boot_len (za (pv 1) zc)))))))
   (zf (zw (pv 4))))))),?_⟩
  have s16:=yE
  rfl'
  have m0:=Int.emod_nonneg c (b:=m + 1) (by omega)
  have m1:=Int.emod_lt_of_pos c (b:=m + 1) (by omega)
  refine ⟨by omega,⟨by omega,by omega⟩,by omega,by omega,ForR.by (fun i σ H'=>H' = H /\ ∃ (found:List Nat) (number:Int) (v5:Option V),σ = [some (.int number),some (.str (tx ls)),some (.int m),some (.int (c % (m + 1))),some (.str (tx found)),v5] /\ found.length = i /\ ∀ x ∈ found,x ∈ ls)
   ⟨rfl,[],_,none,rfl,rfl,fun x h=>(nomatch h)⟩ ?_ ?_⟩
  ·rintro i σ H' hi ⟨rfl,found,number,v5,rfl,hf,hm⟩
   rfl'
   have hm0:=Int.emod_nonneg number (b:=(ls.length:Int)) (by omega)
   have hm1:=Int.emod_lt_of_pos number (b:=(ls.length:Int)) (by omega)
   obtain ⟨v,e1,e2⟩:=um hm0 hm1
   repeat (refine And.intro (by first | omega | decide | exact ⟨by omega,by omega⟩ | assumption) ?_)
   refine ⟨v,e1,?_⟩
   repeat (refine And.intro (by first | omega | decide | exact ⟨by omega,by omega⟩ | assumption) ?_)
   refine ⟨by rw [List.length_append,hf]; rfl,fun x hx=>?_⟩
   rcases List.mem_append.mp hx with h | h
   ·exact hm x h
   ·rw [List.mem_singleton.mp h]
    exact List.mem_of_getElem? e2
  ·rintro σ H' ⟨rfl,found,number,v5,rfl,hf,hm⟩
   rfl'
   exact q found (by omega) hm
def uJ:Sp:=fun vs H Q _=>∃ (ls:List Nat) (c m:Int),vs = [.int c,.str (tx ls),.int m] /\ vd c /\ 1 <= ls.length /\ ls.length <= 26 /\ 0 <= m /\ m <= 100 /\ ∀ (o n:List Nat) (p:Addr),(o.length:Int) <= m -> (n.length:Int) <= m -> (∀ x ∈ o,x ∈ ls) -> (∀ x ∈ n,x ∈ ls) -> H p = none -> Q (.ref p) (upd H p (.tup [.str (tx o),.str (tx n)]))
theorem Wr {ls:List Nat} {c m:Int} {H:Hp} {Q:VK} {E:XK} (h0:vd c) (h1:1 <= ls.length) (h2:ls.length <= 26) (h3:0 <= m) (h4:m <= 100) (h:∀ (o n:List Nat) (p:Addr),(o.length:Int) <= m -> (n.length:Int) <= m -> (∀ x ∈ o,x ∈ ls) -> (∀ x ∈ n,x ∈ ls) -> H p = none -> Q (.ref p) (upd H p (.tup [.str (tx o),.str (tx n)]))):uJ [.int c,.str (tx ls),.int m] H Q E:=⟨ls,c,m,rfl,h0,h1,h2,h3,h4,h⟩
theorem UP:zu ["_law_cell_here", "_law_letters_here", "_law_most"] ["_law_cell_here", "_law_letters_here", "_law_most"] (zb qj):=⟨rfl,rfl,rfl,by decide +kernel,rfl,by decide +kernel,by decide +kernel⟩
theorem Ux {f:Addr} {fd:FuncData} (B:Bt mg)  (F:Fun K "_law_pair" "_law_pair" qj f fd) (D_word:Df P w K mg base CX0 1 "_law_word" ["_law_number", "_law_letters_here", "_law_most"] [] ug) (D_mixed:Df P w K mg base CX0 1 "_law_mixed" ["_law_cell_here", "_law_turn"] [] xk):yk P w K mg base CX0 2 f fd ["_law_cell_here", "_law_letters_here", "_law_most"] uJ:=by
 refine F.ok UP (fun vs H Q E h=>?_) (fun cdv A outer s H vs Q E hr h=>?_)
 ·obtain ⟨ls,c,m,rfl,_⟩:=h
  rfl
 ·obtain ⟨ls,c,m,rfl,hc,h1,h2,h3,h4,q⟩:=h
  refine ⟨_,(zf (zw (yl (za (cl0 D_word hr .nil rfl (za (cl0 D_mixed hr .nil rfl (za (pv 0) (za ze zc))) (za (pv 1) (za (pv 2) zc)))) (za (cl0 D_word hr .nil rfl (za (cl0 D_mixed hr .nil rfl (za (pv 0) (za ze zc))) (za (pv 1) (za (pv 2) zc)))) zc))))),?_⟩
  have s16:=yE
  rfl'
  exact y8 hc (by decide) (by decide) fun z hz=>qA hz h1 h2 h3 h4 fun o ho mo=>y8 hc (by decide) (by decide) fun z hz=>qA hz h1 h2 h3 h4 fun n hn mn=>⟨by omega,fun p hp=>q o n p ho hn mo mn hp⟩
structure zao (K:PySem.W.Frag):Prop where
 ii:PySem.W.kitOne K (.type "int") (.type "int") = some true
 ib:PySem.W.kitOne K (.type "int") (.type "bool") = some false
def vX:Sp:=fun vs H Q _=>∃ i:Int,vs = [.int i] /\ Q (.bl true) H
theorem jI {i:Int} {H:Hp} {Q:VK} {E:XK} (h:Q (.bl true) H):vX [.int i] H Q E:=⟨i,rfl,h⟩
theorem Vc:zu ["_law_found"] ["_law_found"] (zb vv):=⟨rfl,rfl,rfl,by decide +kernel,rfl,by decide +kernel,by decide +kernel⟩
theorem WZ {f:Addr} {fd:FuncData} (B:Bt mg) (T:zao K) (F:Fun K "_law_whole" "_law_whole" vv f fd):yk P w K mg base CX0 1 f fd ["_law_found"] vX:=by
 refine F.ok Vc (fun vs H Q E h=>?_) (fun cdv A outer s H vs Q E hr h=>?_)
 ·obtain ⟨a,rfl,_⟩:=h
  rfl
 ·obtain ⟨i,rfl,q⟩:=h
  refine ⟨_,(zf (zw (Ji (xK rfl B.isi (pv 0) rfl B.int PySem.Pv.boot_int) (Jc (VS (xK rfl B.isi (pv 0) rfl B.bool PySem.Pv.boot_bool)))))),?_⟩
  rfl'
  exact ⟨_,.inl (.int _),true,T.ii,zaA ⟨_,.inl (.int _),false,T.ib,q⟩⟩
structure TLs (K:PySem.W.Frag):Prop where
 ll:PySem.W.kitOne K (.type "list") (.type "list") = some true
 tt:PySem.W.kitOne K (.type "tuple") (.type "tuple") = some true
 bb:PySem.W.kitOne K (.type "bool") (.type "bool") = some true
def qE (K:PySem.W.Frag):Sp:=fun vs H Q _=>∃ (t:Addr) (ss:List Stp),vs = [.ref t] /\ Is K H (.lst (ss.map dSt)) (.ref t) /\ Q (.bl true) H
theorem sc_steps:zu ["_law_found", "_law_step"] ["_law_found"] (zb vq):=⟨rfl,rfl,rfl,by decide +kernel,rfl,by decide +kernel,by decide +kernel⟩
theorem Wi {f:Addr} {fd:FuncData} (B:Bt mg) (T:TLs K) (F:Fun K "_law_steps" "_law_steps" vq f fd) (D_whole:Df P w K mg base CX0 1 "_law_whole" ["_law_found"] [] vX):yk P w K mg base CX0 2 f fd ["_law_found"] (qE K):=by
 refine F.ok sc_steps (fun vs H Q E h=>?_) (fun cdv A outer s H vs Q E hr h=>?_)
 ·obtain ⟨t,ss,rfl,_⟩:=h
  rfl
 ·obtain ⟨t,ss,rfl,hT,q⟩:=h
  refine ⟨_,(zj (zW (ym (xV (xK rfl B.isi (pv 0) rfl B.list PySem.Pv.boot_list) (fun _=>rfl)))
    (zf (zw xb))
    zy)
   (zj (yD PassesOwn.never rfl (yG (pv 0)) (zx (i:=1) sc_steps.nd rfl (Or.inl rfl))
    (zj (zW (PW.pt (uI (ym (xV (xK rfl B.isi (pv 1) rfl B.tuple PySem.Pv.boot_tuple) (fun _=>rfl))) (uI (zC ZE (zn z9 rfl B.len PySem.boot_len (za (pv 1) zc)) ze (zJ _)) (vI (ym (xV (xK rfl B.isi (zt ix_tup (pv 1) ze (fun _ _=>rfl)) rfl B.bool PySem.Pv.boot_bool) (fun _=>rfl)))))))
     (zf (zw xb))
     zy)
    (zf (zW (PW.pt (uI (ym (xV (cl0 D_whole hr .nil rfl (za (zt ix_tup (pv 1) ze (fun _ _=>rfl)) zc)) (fun _=>rfl))) (vI (ym (xV (cl0 D_whole hr .nil rfl (za (zt ix_tup (pv 1) ze (fun _ _=>rfl)) zc)) (fun _=>rfl))))))
     (zf (zw xb))
     zy))))
   (zf (zw xb)))),?_⟩
  have s16:=yE
  simp only [Is] at hT
  obtain ⟨_,ts,e,hTs,hJ⟩:=hT
  cases e
  refine zk (fun σ H'=>H' = H /\ σ = [some (.ref t),none]) ?_ ?_
  ·rfl'
   exact ⟨_,.inr (.inr (.inl ⟨_,_,rfl,rfl,hTs⟩)),true,T.ll,X9 trivial⟩
  rintro σ H1 ⟨rfl,rfl⟩
  refine zk (fun σ H'=>H' = H1 /\ ∃ v1,σ = [some (.ref t),v1]) ?_ ?_
  ·rfl'
   refine ⟨⟨_,hTs⟩,ForL.by (xs:=ts) (fun i σ H'=>H' = H1 /\ ∃ v1,σ = [some (.ref t),v1]) ⟨rfl,_,rfl⟩ (fun i σ H' _ h=>by rw [h.1]; exact hTs) ?_ fun σ H' h=>h⟩
   rintro i x σ H' hx ⟨rfl,v1,rfl⟩
   obtain ⟨u,pu,hui,rfl,hqu⟩:=wa hJ hx
   simp only [xR,List.set_cons_succ,List.set_cons_zero]
   refine zk (fun σ H''=>H'' = H' /\ σ = [some (.ref t),some (.ref pu)]) ?_ ?_
   ·rfl'
    exact ⟨_,.inr (.inr (.inr ⟨_,_,rfl,rfl,hqu⟩)),true,T.tt,X9 ⟨_,.inr ⟨_,hqu,rfl⟩,xn (fun h=>absurd rfl h) fun _=>⟨_,hqu,_,rfl,_,.inl (.bl _),true,T.bb,X9 trivial⟩⟩⟩
   rintro σ G ⟨rfl,rfl⟩
   rfl'
   exact ⟨_,hqu,_,rfl,jI ⟨true,rfl,X9 ⟨_,hqu,_,rfl,jI ⟨true,rfl,X9 rfl⟩⟩⟩⟩
  rintro σ H2 ⟨rfl,v1,rfl⟩
  rfl'
  exact q
def wb (K:PySem.W.Frag):Sp:=fun vs H Q _=>∃ (a t:Addr) (rs:List zH) (w w':List Nat) (s:Stp),vs = [.ref a,.str (tx w),.ref t] /\ Is K H (.lst (rs.map dR)) (.ref a) /\ XG rs /\ w.length <= 40000 /\ SqT K H t [.int s.1,.int s.2.1,.bl s.2.2] /\ yj rs w s = some w' /\ Q (.str (tx w')) H
theorem uq {a t:Addr} {rs:List zH} {w w':List Nat} {s:Stp} {H:Hp} {Q:VK} {E:XK} (h1:Is K H (.lst (rs.map dR)) (.ref a)) (h2:XG rs) (h3:w.length <= 40000) (h4:SqT K H t [.int s.1,.int s.2.1,.bl s.2.2]) (h5:yj rs w s = some w') (q:Q (.str (tx w')) H):wb K [.ref a,.str (tx w),.ref t] H Q E:=⟨a,t,rs,w,w',s,rfl,h1,h2,h3,h4,h5,q⟩
theorem sc_used:zu ["_law_pacts", "_law_word_here", "_law_step", "_law_old", "_law_new"] ["_law_pacts", "_law_word_here", "_law_step"] (zb qx):=⟨rfl,rfl,rfl,by decide +kernel,rfl,by decide +kernel,by decide +kernel⟩
theorem Uy {f:Addr} {fd:FuncData} (B:Bt mg)  (F:Fun K "_law_used" "_law_used" qx f fd)  : yk P w K mg base CX0 1 f fd ["_law_pacts", "_law_word_here", "_law_step"] (wb K):=by
 refine F.ok sc_used (fun vs H Q E h=>?_) (fun cdv A outer s H vs Q E hr h=>?_)
 ·obtain ⟨a,t,rs,w,w',s,rfl,_⟩:=h
  rfl
 ·obtain ⟨a,t,rs,w,w',s,rfl,hR,ok,hw,ht,ha,q⟩:=h
  refine ⟨_,(zj (zv (i:=3) sc_used.nd rfl (Or.inl rfl) (zt ix_tup (zt ix_list (pv 0) (zt ix_tup (pv 2) ze (fun _ _=>rfl)) (fun _ _=>rfl)) ze (fun _ _=>rfl)))
   (zj (zv (i:=4) sc_used.nd rfl (Or.inl rfl) (zt ix_tup (zt ix_list (pv 0) (zt ix_tup (pv 2) ze (fun _ _=>rfl)) (fun _ _=>rfl)) ze (fun _ _=>rfl)))
   (zj (zW (ym (xV (zt ix_tup (pv 2) ze (fun _ _=>rfl)) (fun _=>rfl)))
    (zK (zv (i:=3) sc_used.nd rfl (Or.inl rfl) (zt ix_tup (zt ix_list (pv 0) (zt ix_tup (pv 2) ze (fun _ _=>rfl)) (fun _ _=>rfl)) ze (fun _ _=>rfl)))
    (zf (zv (i:=4) sc_used.nd rfl (Or.inl rfl) (zt ix_tup (zt ix_list (pv 0) (zt ix_tup (pv 2) ze (fun _ _=>rfl)) (fun _ _=>rfl)) ze (fun _ _=>rfl)))))
    zy)
   (zf (zw (zD op_add_str (zD op_add_str (yL vC (pv 1) wC (yK (zt ix_tup (pv 2) ze (fun _ _=>rfl)))) (pv 4)) (yL vC (pv 1) (yK (zD op_add (zt ix_tup (pv 2) ze (fun _ _=>rfl)) (zn z9 rfl B.len PySem.boot_len (za (pv 3) zc)))) wC))))))),?_⟩
  have s16:=yE
  simp only [Is] at hR
  obtain ⟨_,xs,e,hX,hI⟩:=hR
  cases e
  have hb:0 <= s.1 /\ s.1 < rs.length:=Decidable.byContradiction fun hb=>by rw [yH hb] at ha; cases ha
  obtain ⟨p,a1,_,hp⟩:=Jp hI hb.1 hb.2
  have gl:=ku ok s.1.toNat
  rw [yn hb] at ha
  generalize rs.getD s.1.toNat ([],[]) = r at *
  refine zk (fun σ H'=>H' = H /\ σ = [some (.ref a),some (.str (tx w)),some (.ref t),some (.str (tx r.1)),none]) ?_ ?_
  ·rfl'
   exact ⟨_,ht,_,rfl,_,_,rfl,hX,_,a1,_,rfl,_,hp,rfl⟩
  rintro σ H1 ⟨rfl,rfl⟩
  refine zk (fun σ H'=>H' = H1 /\ σ = [some (.ref a),some (.str (tx w)),some (.ref t),some (.str (tx r.1)),some (.str (tx r.2))]) ?_ ?_
  ·rfl'
   exact ⟨_,ht,_,rfl,_,_,rfl,hX,_,a1,_,rfl,_,hp,rfl⟩
  rintro σ H2 ⟨rfl,rfl⟩
  refine zk (fun σ H'=>H' = H2 /\ σ = [some (.ref a),some (.str (tx w)),some (.ref t),some (.str (tx (sdl r s.2.2).1)),some (.str (tx (sdl r s.2.2).2))]) ?_ ?_
  ·rfl'
   refine ⟨_,ht,_,rfl,_,rfl,xn (fun h=>⟨_,ht,_,rfl,_,_,rfl,hX,_,a1,_,rfl,_,hp,_,rfl,_,ht,_,rfl,_,_,rfl,hX,_,a1,_,rfl,_,hp,_,rfl,?_⟩) fun h=>?_⟩
   ·rw [h]
    exact ⟨rfl,rfl⟩
   ·rw [Bool.not_eq_false] at h
    rw [h]
    exact ⟨rfl,rfl⟩
  rintro σ H3 ⟨rfl,rfl⟩
  have hol:(sdl r s.2.2).1.length <= 100:=by
   cases s.2.2
   ·exact gl.2
   ·exact gl.1
  have hnl:(sdl r s.2.2).2.length <= 100:=by
   cases s.2.2
   ·exact gl.1
   ·exact gl.2
  generalize sdl r s.2.2 = on at *
  have hst:zq w s.2.1 on.1 = true:=Decidable.byContradiction fun hst=>by rw [if_neg hst] at ha; cases ha
  rw [if_pos hst] at ha
  obtain ⟨_,_,h0,h1⟩:=yz hst
  have c1:=wJ w none (some s.2.1)
  have c2:=wJ w (some (s.2.1 + ↑on.1.length)) none
  rfl'
  refine ⟨_,ht,_,rfl,_,rfl,by omega,by omega,_,ht,_,rfl,by omega,_,rfl,by omega,?_,?_⟩
  ·rw [List.length_append]
   omega
  ·rw [UW h0]
   cases ha
   exact q
theorem ZU {w o:List Nat} {n:Nat} (h:(n:Int) + o.length <= w.length):zq w (n:Int) o = decide (cut w (some (n:Int)) (some ((n:Int) + (o.length:Int))) = o):=by
 unfold zq
 rw [j7 _ (by omega) (by omega) (by omega)]
 have e:((n:Int) + (o.length:Int) - (n:Int)).toNat = o.length:=by omega
 rw [e]
 exact decide_eq_decide.mpr ⟨fun h=>h.2.2,fun h'=>⟨by omega,by omega,h'⟩⟩
theorem qH {H:Hp} {a p:Addr} {xs:List V} {ys zs:List V} (hp:H p = some (.lst ys)) (h:SqT K H a xs):SqT K (upd H p (.lst zs)) a xs:=by
 rcases h with (h | ⟨o,h⟩) | h
 ·exact .inl (.inl (by rw [zp (fun e=>by rw [e,hp] at h; cases h)]; exact h))
 ·exact .inl (.inr ⟨o,by rw [zp (fun e=>by rw [e,hp] at h; cases h)]; exact h⟩)
 ·exact .inr h
def ji (K:PySem.W.Frag):Sp:=fun vs H Q _=>∃ (a:Addr) (rs:List zH) (w:List Nat) (m:Int),vs = [.ref a,.str (tx w),.int m] /\ Is K H (.lst (rs.map dR)) (.ref a) /\ XG rs /\ w.length <= 900 /\ ∀ (D:Addr) (H':Hp) (us:List Stp),H D = none -> Same H H' -> LsA K H' D (us.map dSt) -> us.length <= 100000 -> (∀ s ∈ us,Fit rs w m s) -> Q (.ref D) H'
theorem WW {a:Addr} {rs:List zH} {w:List Nat} {m:Int} {H:Hp} {Q:VK} {E:XK} (h1:Is K H (.lst (rs.map dR)) (.ref a)) (h2:XG rs) (h3:w.length <= 900) (h:∀ (D:Addr) (H':Hp) (us:List Stp),H D = none -> Same H H' -> LsA K H' D (us.map dSt) -> us.length <= 100000 -> (∀ s ∈ us,Fit rs w m s) -> Q (.ref D) H'):ji K [.ref a,.str (tx w),.int m] H Q E:=⟨a,rs,w,m,rfl,h1,h2,h3,h⟩
theorem sc_uses:zu ["_law_pacts", "_law_word_here", "_law_most", "_law_found", "_law_number", "_law_pact", "_law_forth", "_law_old", "_law_place", "_law_step"] ["_law_pacts", "_law_word_here", "_law_most"] (zb qo):=⟨rfl,rfl,rfl,by decide +kernel,rfl,by decide +kernel,by decide +kernel⟩
theorem Qb {f:Addr} {fd:FuncData} (B:Bt mg)  (F:Fun K "_law_uses" "_law_uses" qo f fd) (D_used:Df P w K mg base CX0 1 "_law_used" ["_law_pacts", "_law_word_here", "_law_step"] [] (wb K)):yk P w K mg base CX0 2 f fd ["_law_pacts", "_law_word_here", "_law_most"] (ji K):=by
 refine F.ok sc_uses (fun vs H Q E h=>?_) (fun cdv A outer s H vs Q E hr h=>?_)
 ·obtain ⟨a,rs,w,m,rfl,_⟩:=h
  rfl
 ·obtain ⟨a,rs,w,m,rfl,hR,ok,hw,q⟩:=h
  refine ⟨_,(zj (zv (i:=3) sc_uses.nd rfl (Or.inl rfl) (wM zc))
   (zj (yD PassesOwn.never rfl (va rfl B.enum (za (pv 0) zc)) (ud (n:=2) rfl (zZ (zx (i:=4) sc_uses.nd rfl (Or.inl rfl)) (zZ (zx (i:=5) sc_uses.nd rfl (Or.inl rfl)) wI)))
    (zf (yD PassesOwn.never rfl (Je (yl (za xb (za xb zc)))) (zx (i:=6) sc_uses.nd rfl (Or.inl rfl))
     (zj (zv (i:=7) sc_uses.nd rfl (Or.inl rfl) (zt ix_tup (pv 5) ze (fun _ _=>rfl)))
     (zj (zW (ym (xV (pv 6) (fun _=>rfl)))
      (zf (zv (i:=7) sc_uses.nd rfl (Or.inl rfl) (zt ix_tup (pv 5) ze (fun _ _=>rfl))))
      zy)
     (zf (yD PassesOwn.never rfl (xC rfl B.range (za (zD yQ (zD vA (zn z9 rfl B.len PySem.boot_len (za (pv 1) zc)) (zn z9 rfl B.len PySem.boot_len (za (pv 7) zc))) ze) zc)) (zx (i:=8) sc_uses.nd rfl (Or.inl rfl))
      (zj (zv (i:=9) sc_uses.nd rfl (Or.inl rfl) (yl (za (pv 4) (za (pv 8) (za (pv 6) zc)))))
      (zf (zW (PW.pt (VG (zC uY (yL Vx (pv 1) (yK (pv 8)) (yK (zD yQ (pv 8) (zn z9 rfl B.len PySem.boot_len (za (pv 7) zc))))) (pv 7) (zJ _)) (Xj (zC wL (zn z9 rfl B.len PySem.boot_len (za (cl0 D_used hr .nil rfl (za (pv 0) (za (pv 1) (za (pv 9) zc)))) zc)) (pv 2) (zJ _)))))
       (zf (xu (wD PySem.F.plainAttrs_list PySem.F.slot_list_append PySem.F.type_list_append yZ (pv 3) (za (pv 9) zc))))
       zy))))))))))
   (zf (zw (pv 3))))),?_⟩
  have s16:=yE
  have hR':=hR
  simp only [Is] at hR'
  obtain ⟨_,xs,e,hX,hI⟩:=hR'
  cases e
  have hxl:=hI.len
  rw [List.length_map] at hxl
  have okl:=ok.1
  refine zk (fun σ H'=>∃ D:Addr,H D = none /\ Same H H' /\ LsA K H' D [] /\ σ = [some (.ref a),some (.str (tx w)),some (.int m),some (.ref D),none,none,none,none,none,none]) ?_ ?_
  ·rfl'
   exact ⟨by omega,fun D hD=>⟨D,hD,zg hD,LsA.nil,rfl⟩⟩
  rintro σ H1 ⟨D,hD,s1,hL1,rfl⟩
  refine zk (fun σ H'=>∃ us:List Stp,Same H H' /\ LsA K H' D (us.map dSt) /\ us.length <= 100000 /\ (∀ s ∈ us,Fit rs w m s) /\ ∃ v4 v5 v6 v7 v8 v9,σ = [some (.ref a),some (.str (tx w)),some (.int m),some (.ref D),v4,v5,v6,v7,v8,v9]) ?_ ?_
  ·rfl'
   refine ⟨⟨_,s1.seq hX⟩,ForEL.by (xs:=xs) (fun i σ H'=>∃ us:List Stp,Same H H' /\ LsA K H' D (us.map dSt) /\ us.length <= i * 2002 /\ (∀ s ∈ us,Fit rs w m s) /\ ∃ v4 v5 v6 v7 v8 v9,σ = [some (.ref a),some (.str (tx w)),some (.int m),some (.ref D),v4,v5,v6,v7,v8,v9]) ⟨[],s1,hL1,Nat.zero_le _,fun s h=>(nomatch h),_,_,_,_,_,_,rfl⟩ ?_ ?_ ?_⟩
   ·rintro i σ H' _ ⟨us,hs,_⟩
    exact hs.seq hX
   ·rintro i x σ H' p hx ⟨us,hs,hL,hl,hf,v4,v5,v6,v7,v8,v9,rfl⟩ hp
    obtain ⟨r,pr,hri,rfl,hqr⟩:=hI.getR hx
    have hi:=(List.getElem?_eq_some_iff.mp hri).1
    have b:=ok.2 r (List.mem_of_getElem? hri)
    have er:rs.getD i ([],[]) = r:=by rw [List.getD_eq_getElem?_getD,hri]; rfl
    rfl'
    refine ⟨_,SqT.of zd,rfl,_,_,rfl,_,_,rfl,rfl,?_⟩
    refine ⟨by omega,fun p2 hp2=>?_⟩
    have hs3:Same H' (upd (upd H' p (.tup [.int (i:Nat),.ref pr])) p2 (.tup [.bl true,.bl false])):=(zg hp).trans (zg hp2)
    have hp3:(upd (upd H' p (.tup [.int (i:Nat),.ref pr])) p2 (.tup [.bl true,.bl false])) p2 = some (.tup [.bl true,.bl false]):=zd
    generalize upd (upd H' p (.tup [.int (i:Nat),.ref pr])) p2 (.tup [.bl true,.bl false]) = H3 at *
    have hD3:p2 ≠ D:=fun e=>by
     obtain ⟨ys,hY,_⟩:=hL.same hs3
     rw [e,hY] at hp3
     cases hp3
    refine ⟨⟨_,SqT.of hp3⟩,ForT.by (xs:=[.bl true,.bl false]) (fun j σ H4=>H4 p2 = some (.tup [.bl true,.bl false]) /\ Same H H4 /\ ∃ us:List Stp,LsA K H4 D (us.map dSt) /\ us.length <= i * 2002 + j * 1001 /\ (∀ s ∈ us,Fit rs w m s) /\ ∃ v6 v7 v8 v9,σ = [some (.ref a),some (.str (tx w)),some (.int m),some (.ref D),some (.int (i:Nat)),some (.ref pr),v6,v7,v8,v9]) ⟨hp3,hs.trans hs3,us,hL.same hs3,by omega,hf,_,_,_,_,rfl⟩ (fun j σ H4 _ h=>SqT.of h.1) ?_ ?_⟩
    ·rintro j y σ H4 hy ⟨hp4,hs4,us,hL4,hl4,hf4,v6,v7,v8,v9,rfl⟩
     obtain ⟨f,rfl⟩:∃ f:Bool,y = .bl f:=by
      match j,hy with
      | 0,hy=>exact ⟨_,(Option.some.inj hy).symm⟩
      | 1,hy=>exact ⟨_,(Option.some.inj hy).symm⟩
      | j + 2,hy=>simp at hy
     rfl'
     refine zk (fun σ H'=>H' = H4 /\ σ = [some (.ref a),some (.str (tx w)),some (.int m),some (.ref D),some (.int (i:Nat)),some (.ref pr),some (.bl f),some (.str (tx r.1)),v8,v9]) ?_ ?_
     ·rfl'
      exact ⟨_,zm hs4 hqr,rfl⟩
     rintro σ H5 ⟨rfl,rfl⟩
     refine zk (fun σ H'=>H' = H5 /\ σ = [some (.ref a),some (.str (tx w)),some (.int m),some (.ref D),some (.int (i:Nat)),some (.ref pr),some (.bl f),some (.str (tx (sdl r f).1)),v8,v9]) ?_ ?_
     ·rfl'
      refine xn (fun h=>⟨_,zm hs4 hqr,?_⟩) fun h=>?_
      ·rw [h]
       rfl
      ·rw [Bool.not_eq_false] at h
       rw [h]
       rfl
     rintro σ H6 ⟨rfl,rfl⟩
     have bo:(sdl r f).1.length <= 100 /\ (sdl r f).2.length <= 100:=by
      unfold sdl
      split
      ·exact b
      ·exact ⟨b.2,b.1⟩
     have aft:∀ n:Nat,(n:Int) + (sdl r f).1.length <= w.length -> cut w (some (n:Int)) (some ((n:Int) + ((sdl r f).1.length:Int))) = (sdl r f).1 -> ∃ w',yj rs w (((i:Nat):Int),((n:Nat):Int),f) = some w' /\ w'.length <= 1000:=fun n hn hc=>by
      have hst:zq w (n:Int) (sdl r f).1 = true:=by
       rw [ZU hn]
       exact decide_eq_true hc
      refine ⟨wA w (n:Int) (sdl r f).1 (sdl r f).2,?_,?_⟩
      ·rw [yn (by show (0:Int) <= (i:Int) /\ (i:Int) < rs.length; omega)]
       simp only
       rw [show ((i:Nat):Int).toNat = i from rfl,er,if_pos hst]
      ·have:=Zm (n:=(sdl r f).2) hst
       omega
     generalize sdl r f = o at *
     rfl'
     refine ⟨by omega,by omega,by omega,by omega,ForR.by (fun n σ H4=>H4 p2 = some (.tup [.bl true,.bl false]) /\ Same H H4 /\ ∃ us:List Stp,LsA K H4 D (us.map dSt) /\ us.length <= i * 2002 + j * 1001 + n /\ (∀ s ∈ us,Fit rs w m s) /\ ∃ v8 v9,σ = [some (.ref a),some (.str (tx w)),some (.int m),some (.ref D),some (.int (i:Nat)),some (.ref pr),some (.bl f),some (.str (tx o.1)),v8,v9]) ⟨hp4,hs4,us,hL4,hl4,hf4,_,_,rfl⟩ ?_ ?_⟩
     ·rintro n σ H7 hn ⟨hp7,hs7,us,hL7,hl7,hf7,v8,v9,rfl⟩
      rw [show (0:Int) + (n:Int) = (n:Int) by omega]
      obtain ⟨ys,hY,hJ⟩:=hL7
      have hyl:=hJ.len
      rw [List.length_map] at hyl
      have hj2:j < 2:=(List.getElem?_eq_some_iff.mp hy).1
      simp only [xR,List.set_cons_succ,List.set_cons_zero]
      refine zk (fun σ H''=>∃ t:Addr,Same H7 H'' /\ H'' t = some (.tup [.int (i:Nat),.int (n:Nat),.bl f]) /\ σ = [some (.ref a),some (.str (tx w)),some (.int m),some (.ref D),some (.int (i:Nat)),some (.ref pr),some (.bl f),some (.str (tx o.1)),some (.int (n:Nat)),some (.ref t)]) ?_ ?_
      ·rfl'
       exact ⟨by omega,fun t ht=>⟨zg ht,zd⟩⟩
      rintro σ H8 ⟨t,s8,ht8,rfl⟩
      have hY8:=s8 _ _ hY
      have hJ8:=Iss.same s8 _ _ hJ
      rfl'
      refine ⟨by omega,by omega,xn (fun hc=>?_) fun _=>⟨s8 _ _ hp7,hs7.trans s8,us,⟨ys,hY8,hJ8⟩,by omega,hf7⟩⟩
      obtain ⟨w',ha,hwl⟩:=aft n (by omega) hc
      refine uq (s:=(((i:Nat):Int),((n:Nat):Int),f)) (Is.same (hs7.trans s8) _ _ hR) ok (by omega) (SqT.of ht8) ha ?_
      rfl'
      refine ⟨by omega,xn (fun hm=>⟨.inl ⟨_,SqL.of hY8⟩,ys,hY8,by omega,?_,zF (hs7.trans s8) hD,us ++ [(((i:Nat):Int),((n:Nat):Int),f)],?_,by rw [List.length_append]; simp only [List.length_cons,List.length_nil]; omega,fun s hs'=>?_⟩) fun _=>⟨s8 _ _ hp7,hs7.trans s8,us,⟨ys,hY8,hJ8⟩,by omega,hf7⟩⟩
      ·rw [zp hD3]
       exact s8 _ _ hp7
      ·rw [List.map_append]
       exact LsA.snoc hY8 hJ8 (xv _) (by simp only [dSt,xB,zY,and_self]) (Zy (SqT.of ht8))
      ·rcases List.mem_append.mp hs' with h | h
       ·exact hf7 s h
       ·rw [List.mem_singleton.mp h]
        exact ⟨w',ha,hm⟩
     ·rintro σ H7 ⟨hp7,hs7,us,hL7,hl7,hf7,v8,v9,rfl⟩
      exact ⟨hp7,hs7,us,hL7,by omega,hf7,_,_,_,_,rfl⟩
    ·rintro σ H4 ⟨_,hs4,us,hL4,hl4,hf4,v6,v7,v8,v9,rfl⟩
     exact ⟨hs4,us,hL4,by simp only [List.length_cons,List.length_nil] at hl4; omega,hf4,_,_,_,_,_,_,rfl⟩
   ·rintro σ H' ⟨us,hs,hL,hl,hf,v4,v5,v6,v7,v8,v9,rfl⟩
    exact ⟨hs,us,hL,by omega,hf,_,_,_,_,_,_,rfl⟩
  rintro σ H2 ⟨us,s2,hL,hl,hf,v4,v5,v6,v7,v8,v9,rfl⟩
  rfl'
  exact q D H2 us hD s2 hL hl hf
def vY (K:PySem.W.Frag):Sp:=fun vs H Q _=>∃ (a c:Addr) (rs:List zH) (w:List Nat) (ns:List Int) (m:Int),vs = [.ref a,.str (tx w),.ref c,.int m] /\ Is K H (.lst (rs.map dR)) (.ref a) /\ XG rs /\ w.length <= 60 /\ m <= 60 /\ SqL K H c (ns.map V.int) /\ (∀ z ∈ ns,vd z) /\ ns.length <= 63 /\
 ∀ (D:Addr) (H':Hp) (ss:List Stp) (w':List Nat),H D = none -> Same H H' -> LsA K H' D (ss.map dSt) -> z8 rs w ss = some w' -> w'.length <= 60 -> ss.length <= ns.length -> (∀ s ∈ ss,0 <= s.1 /\ s.1 < rs.length) -> Q (.ref D) H'
theorem Y9 {a c:Addr} {rs:List zH} {w:List Nat} {ns:List Int} {m:Int} {H:Hp} {Q:VK} {E:XK} (h1:Is K H (.lst (rs.map dR)) (.ref a)) (h2:XG rs) (h3:w.length <= 60) (h4:m <= 60) (h5:SqL K H c (ns.map V.int)) (h5':∀ z ∈ ns,vd z) (h6:ns.length <= 63)
 (h:∀ (D:Addr) (H':Hp) (ss:List Stp) (w':List Nat),H D = none -> Same H H' -> LsA K H' D (ss.map dSt) -> z8 rs w ss = some w' -> w'.length <= 60 -> ss.length <= ns.length -> (∀ s ∈ ss,0 <= s.1 /\ s.1 < rs.length) -> Q (.ref D) H'):vY K [.ref a,.str (tx w),.ref c,.int m] H Q E:=⟨a,c,rs,w,ns,m,rfl,h1,h2,h3,h4,h5,h5',h6,h⟩
theorem jC {rs:List zH} {w w':List Nat} {s:Stp} (h:yj rs w s = some w'):0 <= s.1 /\ s.1 < rs.length:=Decidable.byContradiction fun hb=>by rw [yH hb] at h; cases h
theorem sc_chain:zu ["_law_pacts", "_law_word_here", "_law_cells", "_law_most", "_law_steps_here", "_law_cell_here", "_law_some", "_law_step"] ["_law_pacts", "_law_word_here", "_law_cells", "_law_most"] (zb vg):=⟨rfl,rfl,rfl,by decide +kernel,rfl,by decide +kernel,by decide +kernel⟩
theorem WO {f:Addr} {fd:FuncData} (B:Bt mg)  (F:Fun K "_law_chain" "_law_chain" vg f fd) (D_uses:Df P w K mg base CX0 2 "_law_uses" ["_law_pacts", "_law_word_here", "_law_most"] [] (ji K)) (D_used:Df P w K mg base CX0 1 "_law_used" ["_law_pacts", "_law_word_here", "_law_step"] [] (wb K)) (D_mixed:Df P w K mg base CX0 1 "_law_mixed" ["_law_cell_here", "_law_turn"] [] xk):yk P w K mg base CX0 3 f fd ["_law_pacts", "_law_word_here", "_law_cells", "_law_most"] (vY K):=by
 refine F.ok sc_chain (fun vs H Q E h=>?_) (fun cdv A outer s H vs Q E hr h=>?_)
 ·obtain ⟨a,c,rs,w,ns,m,rfl,_⟩:=h
  rfl
 ·obtain ⟨a,c,rs,w,ns,m,rfl,hR,ok,hw,hm,hS,hB,hn,q⟩:=h
  refine ⟨_,(zj (zv (i:=4) sc_chain.nd rfl (Or.inl rfl) (wM zc))
   (zj (yD PassesOwn.never rfl (yG (pv 2)) (zx (i:=5) sc_chain.nd rfl (Or.inl rfl))
    (zj (zv (i:=6) sc_chain.nd rfl (Or.inl rfl) (cl0 D_uses hr .nil rfl (za (pv 0) (za (pv 1) (za (pv 3) zc)))))
    (zf (zW (zC qm (zn z9 rfl B.len PySem.boot_len (za (pv 6) zc)) ze (zJ _))
     (zj (zv (i:=7) sc_chain.nd rfl (Or.inl rfl) (zt ix_list (pv 6) (zD xm (cl0 D_mixed hr .nil rfl (za (pv 5) (za ze zc))) (zn z9 rfl B.len PySem.boot_len (za (pv 6) zc))) (fun _ _=>rfl)))
     (zj (xu (wD PySem.F.plainAttrs_list PySem.F.slot_list_append PySem.F.type_list_append yZ (pv 4) (za (pv 7) zc)))
     (zf (zv (i:=1) sc_chain.nd rfl (Or.inl rfl) (cl0 D_used hr .nil rfl (za (pv 0) (za (pv 1) (za (pv 7) zc))))))))
     zy))))
   (zf (zw (pv 4))))),?_⟩
  have s16:=yE
  refine zk (fun σ H'=>∃ D:Addr,H D = none /\ Same H H' /\ LsA K H' D [] /\ σ = [some (.ref a),some (.str (tx w)),some (.ref c),some (.int m),some (.ref D),none,none,none]) ?_ ?_
  ·rfl'
   exact ⟨by omega,fun D hD=>⟨D,hD,zg hD,LsA.nil,rfl⟩⟩
  rintro σ H1 ⟨D,hD,s1,hL1,rfl⟩
  refine zk (fun σ H'=>∃ (ss:List Stp) (w2:List Nat),Same H H' /\ LsA K H' D (ss.map dSt) /\ z8 rs w ss = some w2 /\ w2.length <= 60 /\ ss.length <= ns.length /\ (∀ s ∈ ss,0 <= s.1 /\ s.1 < rs.length) /\ ∃ v5 v6 v7,σ = [some (.ref a),some (.str (tx w2)),some (.ref c),some (.int m),some (.ref D),v5,v6,v7]) ?_ ?_
  ·rfl'
   refine ⟨⟨_,s1.seq hS⟩,ForL.by (xs:=ns.map V.int) (fun i σ H'=>∃ (ss:List Stp) (w2:List Nat),Same H H' /\ LsA K H' D (ss.map dSt) /\ z8 rs w ss = some w2 /\ w2.length <= 60 /\ ss.length <= i /\ (∀ s ∈ ss,0 <= s.1 /\ s.1 < rs.length) /\ ∃ v5 v6 v7,σ = [some (.ref a),some (.str (tx w2)),some (.ref c),some (.int m),some (.ref D),v5,v6,v7]) ⟨[],w,s1,hL1,rfl,hw,Nat.le_refl _,fun s h=>(nomatch h),_,_,_,rfl⟩ (fun i σ H' _ h=>by obtain ⟨ss,w2,hs,_⟩:=h; exact hs.seq hS) ?_ ?_⟩
   ·rintro i x σ H3 hx ⟨ss,w2,s3,hL3,hwk,hw2,hsl,hnum,v5,v6,v7,rfl⟩
    have hi:=(List.getElem?_eq_some_iff.mp hx).1
    rw [List.length_map] at hi
    rw [List.getElem?_map] at hx
    obtain ⟨z,hz,rfl⟩:=Option.map_eq_some_iff.mp hx
    have hzB:=hB z (List.mem_of_getElem? hz)
    simp only [xR,List.set_cons_succ,List.set_cons_zero]
    refine zk (fun σ H'=>∃ (U:Addr) (us:List Stp),Same H3 H' /\ LsA K H' U (us.map dSt) /\ us.length <= 100000 /\ (∀ s ∈ us,Fit rs w2 m s) /\ σ = [some (.ref a),some (.str (tx w2)),some (.ref c),some (.int m),some (.ref D),some (.int z),some (.ref U),v7]) ?_ ?_
    ·rfl'
     exact WW (Is.same s3 _ _ hR) ok (by omega) fun U H' us _ s' hU hul hf=>⟨s',U,us,hU,hul,hf,rfl⟩
    rintro σ H4 ⟨U,us,s4,hU,hul,hf,rfl⟩
    obtain ⟨ys,hY,hJ⟩:=hU
    rfl'
    refine ⟨_,.inl ⟨_,SqL.of hY,rfl⟩,xn (fun hpos=>?_) fun _=>?_⟩
    ·refine zk (fun σ H'=>∃ (st:Stp) (pst:Addr) (w3:List Nat),H' = H4 /\ SqT K H4 pst [.int st.1,.int st.2.1,.bl st.2.2] /\ yj rs w2 st = some w3 /\ w3.length <= 60 /\ σ = [some (.ref a),some (.str (tx w2)),some (.ref c),some (.int m),some (.ref D),some (.int z),some (.ref U),some (.ref pst)]) ?_ ?_
     ·rfl'
      refine y8 hzB (by decide) (by decide) fun y hy=>⟨_,.inl ⟨_,SqL.of hY,rfl⟩,?_⟩
      have m0:=Int.emod_nonneg y (b:=(ys.length:Int)) (by omega)
      have m1:=Int.emod_lt_of_pos y (b:=(ys.length:Int)) (by omega)
      obtain ⟨v,a1,b1⟩:=um (xs:=ys) m0 m1
      obtain ⟨st,pst,hst,rfl,hqs⟩:=wa hJ b1
      obtain ⟨w3,haf,hw3⟩:=hf st (List.mem_of_getElem? hst)
      exact ⟨_,rfl,by omega,_,SqL.of hY,_,a1,rfl,st,pst,hqs,w3,haf,by omega,rfl⟩
     rintro σ H5 ⟨st,pst,w3,rfl,hqs,haf,hw3,rfl⟩
     obtain ⟨xs3,hX3,hI3⟩:=hL3.same s4
     have hil:=hI3.len
     rw [List.length_map] at hil
     refine zk (fun σ H'=>Same H H' /\ LsA K H' D ((ss ++ [st]).map dSt) /\ SqT K H' pst [.int st.1,.int st.2.1,.bl st.2.2] /\ σ = [some (.ref a),some (.str (tx w2)),some (.ref c),some (.int m),some (.ref D),some (.int z),some (.ref U),some (.ref pst)]) ?_ ?_
     ·rfl'
      refine ⟨.inl ⟨_,SqL.of hX3⟩,xs3,hX3,by omega,zF (s3.trans s4) hD,?_,qH hX3 hqs⟩
      rw [List.map_append]
      exact LsA.snoc hX3 hI3 (xv _) (by simp only [dSt,xB,zY,and_self]) (Zy hqs)
     rintro σ H6 ⟨s6,hL6,hq6,rfl⟩
     rfl'
     refine uq (Is.same s6 _ _ hR) ok (by omega) hq6 haf ?_
     refine ⟨s6,ss ++ [st],hL6,w3,uF hwk haf,hw3,by rw [List.length_append]; exact Nat.succ_le_succ hsl,fun s hs=>?_,rfl⟩
     rcases List.mem_append.mp hs with h | h
     ·exact hnum s h
     ·rw [List.mem_singleton.mp h]
      exact jC haf
    ·exact ⟨s3.trans s4,ss,hL3.same s4,w2,hwk,hw2,by omega,hnum,rfl⟩
   ·rintro σ H' ⟨ss,w2,hs,hL,hwk,hw2,hsl,hnum,v5,v6,v7,rfl⟩
    rw [List.length_map] at hsl
    exact ⟨hs,ss,hL,w2,hwk,hw2,hsl,hnum,_,_,_,rfl⟩
  rintro σ H2 ⟨ss,w2,hs,hL,hwk,hw2,hsl,hnum,v5,v6,v7,rfl⟩
  rfl'
  exact q D H2 ss w2 hD hs hL hwk hw2 hsl hnum
def qf (K:PySem.W.Frag):Sp:=fun vs H Q _=>∃ (a t:Addr) (rs:List zH) (w w':List Nat) (ss:List Stp),vs = [.ref a,.str (tx w),.ref t] /\ Is K H (.lst (rs.map dR)) (.ref a) /\ XG rs /\ w.length <= 60 /\ Is K H (.lst (ss.map dSt)) (.ref t) /\ ss.length <= 300 /\ z8 rs w ss = some w' /\ Q (.str (tx w')) H
theorem XZ {a t:Addr} {rs:List zH} {w w':List Nat} {ss:List Stp} {H:Hp} {Q:VK} {E:XK} (h1:Is K H (.lst (rs.map dR)) (.ref a)) (h2:XG rs) (h3:w.length <= 60) (h4:Is K H (.lst (ss.map dSt)) (.ref t)) (h5:ss.length <= 300) (h6:z8 rs w ss = some w') (q:Q (.str (tx w')) H):qf K [.ref a,.str (tx w),.ref t] H Q E:=⟨a,t,rs,w,w',ss,rfl,h1,h2,h3,h4,h5,h6,q⟩
theorem XO {rs:List zH} {w w':List Nat} {ss:List Stp} (h:z8 rs w ss = some w') {i:Nat} {s:Stp} (hs:ss[i]? = some s) {w1:List Nat} (h1:z8 rs w (ss.take i) = some w1):∃ w2,yj rs w1 s = some w2 /\ z8 rs w (ss.take (i + 1)) = some w2:=by
 have e:ss = ss.take (i + 1) ++ ss.drop (i + 1):=(List.take_append_drop _ _).symm
 rw [e,xN] at h
 obtain ⟨w2,h2,_⟩:=Option.bind_eq_some_iff.mp h
 refine ⟨w2,?_,h2⟩
 rw [z6 hs,xN,h1] at h2
 simp only [z8,Option.bind_some] at h2
 obtain ⟨w3,h3,h4⟩:=Option.bind_eq_some_iff.mp h2
 cases h4
 exact h3
theorem sc_end:zu ["_law_pacts", "_law_word_here", "_law_steps_here", "_law_step", "_law_old"] ["_law_pacts", "_law_word_here", "_law_steps_here"] (zb Ya):=⟨rfl,rfl,rfl,by decide +kernel,rfl,by decide +kernel,by decide +kernel⟩
theorem Q7 {f:Addr} {fd:FuncData} (B:Bt mg)  (F:Fun K "_law_end" "_law_end" Ya f fd) (D_used:Df P w K mg base CX0 1 "_law_used" ["_law_pacts", "_law_word_here", "_law_step"] [] (wb K)):yk P w K mg base CX0 2 f fd ["_law_pacts", "_law_word_here", "_law_steps_here"] (qf K):=by
 refine F.ok sc_end (fun vs H Q E h=>?_) (fun cdv A outer s H vs Q E hr h=>?_)
 ·obtain ⟨a,t,rs,w,w',ss,rfl,_⟩:=h
  rfl
 ·obtain ⟨a,t,rs,w,w',ss,rfl,hR,ok,hw,hT,hsl,hwk,q⟩:=h
  refine ⟨_,(zj (yD PassesOwn.never rfl (yG (pv 2)) (zx (i:=3) sc_end.nd rfl (Or.inl rfl))
    (zj (zW (PW.pt (uI (zC Zc (zt ix_tup (pv 3) ze (fun _ _=>rfl)) ze (zJ _)) (uI (zC op_ge' (zt ix_tup (pv 3) ze (fun _ _=>rfl)) (zn z9 rfl B.len PySem.boot_len (za (pv 0) zc)) (zJ _)) (vI (zC Zc (zt ix_tup (pv 3) ze (fun _ _=>rfl)) ze (zJ _))))))
     (zf (zw wv))
     zy)
    (zj (zv (i:=4) sc_end.nd rfl (Or.inl rfl) (zt ix_tup (zt ix_list (pv 0) (zt ix_tup (pv 3) ze (fun _ _=>rfl)) (fun _ _=>rfl)) (zD vA ze (wZ Xr rfl B.int PySem.Pv.boot_int (za (zt ix_tup (pv 3) ze (fun _ _=>rfl)) zc))) (fun _ _=>rfl)))
    (zj (zW (PW.pt (uI (zC qm (zD yQ (zt ix_tup (pv 3) ze (fun _ _=>rfl)) (zn z9 rfl B.len PySem.boot_len (za (pv 4) zc))) (zn z9 rfl B.len PySem.boot_len (za (pv 1) zc)) (zJ _)) (vI (zC ZE (yL Vx (pv 1) (yK (zt ix_tup (pv 3) ze (fun _ _=>rfl))) (yK (zD yQ (zt ix_tup (pv 3) ze (fun _ _=>rfl)) (zn z9 rfl B.len PySem.boot_len (za (pv 4) zc))))) (pv 4) (zJ _)))))
     (zf (zw wv))
     zy)
    (zf (zv (i:=1) sc_end.nd rfl (Or.inl rfl) (cl0 D_used hr .nil rfl (za (pv 0) (za (pv 1) (za (pv 3) zc))))))))))
   (zf (zw (pv 1)))),?_⟩
  have s16:=yE
  have hR':=hR
  have hT':=hT
  simp only [Is] at hR' hT'
  obtain ⟨_,xs,e,hX,hI⟩:=hR'
  cases e
  obtain ⟨_,ts,e,hTs,hJ⟩:=hT'
  cases e
  have htl:=hJ.len
  rw [List.length_map] at htl
  refine zk (fun σ H'=>H' = H /\ ∃ v3 v4,σ = [some (.ref a),some (.str (tx w')),some (.ref t),v3,v4]) ?_ ?_
  ·rfl'
   refine ⟨⟨_,hTs⟩,ForL.by (xs:=ts) (fun i σ H'=>H' = H /\ ∃ w1 v3 v4,z8 rs w (ss.take i) = some w1 /\ w1.length <= 60 + i * 100 /\ σ = [some (.ref a),some (.str (tx w1)),some (.ref t),v3,v4]) ⟨rfl,w,_,_,rfl,by omega,rfl⟩ (fun i σ H' _ h=>by rw [h.1]; exact hTs) ?_ ?_⟩
   ·rintro i x σ H' hx ⟨rfl,w1,v3,v4,hw1,hl1,rfl⟩
    obtain ⟨s,ps,hsi,rfl,hqs⟩:=wa hJ hx
    have hil:=(List.getElem?_eq_some_iff.mp hsi).1
    obtain ⟨w2,haf,hw2⟩:=XO hwk hsi hw1
    have hl2:=YB ok haf
    have hb:=jC haf
    obtain ⟨p,a1,_,hp⟩:=Jp hI hb.1 hb.2
    have gl:=ku ok s.1.toNat
    have ha:=haf
    rw [yn hb] at ha
    generalize rs.getD s.1.toNat ([],[]) = r at *
    have hst:zq w1 s.2.1 (sdl r s.2.2).1 = true:=Decidable.byContradiction fun hst=>by rw [if_neg hst] at ha; cases ha
    obtain ⟨_,_,h0,h1⟩:=yz hst
    simp only [xR,List.set_cons_succ,List.set_cons_zero]
    refine zk (fun σ H''=>H'' = H' /\ σ = [some (.ref a),some (.str (tx w1)),some (.ref t),some (.ref ps),v4]) ?_ ?_
    ·rfl'
     exact ⟨_,hqs,_,rfl,_,rfl,xn (fun h=>absurd hb.1 (by omega)) fun _=>⟨_,hqs,_,rfl,_,.inl ⟨_,hX,rfl⟩,_,rfl,xn (fun h=>absurd hb.2 (by have:=hI.len; rw [List.length_map] at this; omega)) fun _=>⟨_,hqs,_,rfl,_,rfl,xn (fun h=>absurd h0 (by omega)) fun _=>trivial⟩⟩⟩
    rintro σ G ⟨rfl,rfl⟩
    refine zk (fun σ H''=>H'' = G /\ σ = [some (.ref a),some (.str (tx w1)),some (.ref t),some (.ref ps),some (.str (tx (sdl r s.2.2).1))]) ?_ ?_
    ·rfl'
     refine ⟨_,hqs,_,rfl,_,_,rfl,hX,_,a1,_,hqs,_,rfl,.inr ⟨_,rfl,_,rfl,_,hp,?_⟩⟩
     cases s.2.2 <;> rfl
    rintro σ G1 ⟨rfl,rfl⟩
    refine zk (fun σ H''=>H'' = G1 /\ σ = [some (.ref a),some (.str (tx w1)),some (.ref t),some (.ref ps),some (.str (tx (sdl r s.2.2).1))]) ?_ ?_
    ·rfl'
     have hol:(sdl r s.2.2).1.length <= 100:=by
      cases s.2.2
      ·exact gl.2
      ·exact gl.1
     refine ⟨_,hqs,_,rfl,by omega,_,rfl,by omega,xn (fun h=>absurd h1 (by omega)) fun _=>⟨_,hqs,_,rfl,_,rfl,_,hqs,_,rfl,by omega,_,rfl,by omega,xn (fun h=>absurd ?_ h) fun _=>trivial⟩⟩
     have hst':=hst
     unfold zq at hst'
     rw [decide_eq_true_eq] at hst'
     rw [j7 _ h0 (by omega) (by omega)]
     have e:(s.2.1 + ((sdl r s.2.2).1.length:Int) - s.2.1).toNat = (sdl r s.2.2).1.length:=by omega
     rw [e]
     exact hst'.2.2
    rintro σ G2 ⟨rfl,rfl⟩
    rfl'
    refine uq hR ok (by omega) hqs haf ⟨rfl,w2,hw2,by omega,rfl⟩
   ·rintro σ H' ⟨rfl,w1,v3,v4,hw1,hl1,rfl⟩
    rw [htl,List.take_length,hwk] at hw1
    cases hw1
    exact ⟨rfl,_,_,rfl⟩
  rintro σ H2 ⟨rfl,v3,v4,rfl⟩
  rfl'
  exact q
theorem zan {X:Cx} {E:XK} {k j:Nat} {C:Addr} {ps:List Str} {sp:Sp} {e:Expr} {es:List Expr} {t:TA} {pos p:Pos} {x:Str} (hx:XE X E) (D:DMk X.prog X.w X.K X.mg X.base (CXx X.prog X.w) k C ps sp) (hr:Room j X.A) (hg:Gl X x) (hm:X.mg x = some (.ref C)) (ha:PA X (e :: es) t) (hdb:(x == ("__debug__" : Str)) = false:=by decide) (he:starEach (e :: es) X.env = (false,eval e X.env) :: starEach es X.env:=by rfl)
  (hpl:(backTo pos (starEach es X.env)).any (·.1) = false:=by rfl) (hj:k + 1 <= j:=by decide):PE X (.Call (.Name x p) (e :: es) [] pos) (Wx C sp [] E t):=by
 obtain ⟨f,fd,M,F,hb⟩:=D.ex
 exact Xx M F (hr.mono hj) hg hm hb .nil (Zk hx) ha hdb he hpl
def qD (K:PySem.W.Frag) (CO CR CW:Addr):Sp:=fun vs H Q _=>∃ (z:Int) (l:List Nat) (D:Addr) (ws:List Int),vs = [.int z,.str (tx l),.ref D] /\ 0 <= z /\ z < 3 /\ vK l = true /\ H D = some (.lst (ws.map V.int)) /\ ws.length = l.length /\ (∀ n ∈ ws,1 <= n /\ n <= 1000000) /\ ∀ (o:Addr) (H':Hp),Same H H' -> OrdAt CO CR CW H' o z.toNat l ws -> Q (.ref o) H'
theorem W3:zu ["_law_kind", "_law_letters_here", "_law_weights"] ["_law_kind", "_law_letters_here", "_law_weights"] (zb vk):=⟨rfl,rfl,rfl,by decide +kernel,rfl,by decide +kernel,by decide +kernel⟩
theorem W9 {f CO CR CW:Addr} {fd:FuncData} (B:Bt mg) (T:TWS P w K mg base CO CR CW) (F:Fun K "_law_order" "_law_order" vk f fd)  : yk P w K mg base CX0 6 f fd ["_law_kind", "_law_letters_here", "_law_weights"] (qD K CO CR CW):=by
 refine F.ok W3 (fun vs H Q E h=>?_) (fun cdv A outer s H vs Q E hr h=>?_)
 ·obtain ⟨z,l,D,ws,rfl,_⟩:=h
  rfl
 ·obtain ⟨z,l,D,ws,rfl,z0,z3,hg,hD,hwl,hwb,q⟩:=h
  refine ⟨_,(zK (zW (zC uY (pv 0) ze (zJ _))
    (zf (zw (mkC T.mR hr rfl T.gR (za (pv 1) zc))))
    zy)
   (zK (zW (zC uY (pv 0) ze (zJ _))
    (zf (zw (zan xe0 T.mW hr rfl T.gW (za (pv 1) (za (wZ vH rfl B.list PySem.Pv.boot_list (za (pv 2) zc)) zc)))))
    zy)
   (zf (zw (mkC T.mO hr rfl T.gO (za (pv 1) zc)))))),?_⟩
  have s16:=yE
  repeat (first | rfl' | simp only [yP,zB,zN,yR,yS,zA])
  refine xn (fun h1=>?_) fun h1=>xn (fun h2=>?_) fun h2=>?_
  ·intro x dx hx hdx hne
   have sd:=zg (o:=.own x) hdx
   refine ⟨x,CR,dx,l,rfl,hg,T.cR,T.lR,zd,rfl,q x _ (fun b o' e=>?_) ⟨dx,.inr (.inl ⟨by rw [h1]; rfl,zd⟩)⟩⟩
   rw [zp (zE e hx),zp (zE e hx)]
   exact sd _ _ e
  ·refine ⟨_,.inl (SqL.of hD),fun E1 hE=>?_⟩
   have se:=zg (o:=.lst (ws.map V.int)) hE
   intro x dx hx hdx hne
   have sd:=zg (o:=.own x) hdx
   have k1:∀ b o',(upd H E1 (.lst (ws.map V.int))) b = some o' -> (upd (upd (upd H E1 (.lst (ws.map V.int))) dx (.own x)) x (.ins CW dx [])) b = some o':=fun b o' e=>by
    rw [zp (zE e hx)]
    exact sd _ _ e
   exact ⟨x,dx,E1,l,ws,rfl,hg,SqL.of (k1 _ _ zd),hwl,hwb,zd,fun w H' hw hwx kp ht hx'=>⟨rfl,q x _ (fun b o' e=>kp b o' (zE (se _ _ e) hx) (k1 b o' (se _ _ e))) ⟨dx,.inr (.inr ⟨by omega,hwl,w,hx',ht⟩)⟩⟩⟩
  ·intro x dx hx hdx hne
   have sd:=zg (o:=.own x) hdx
   refine ⟨x,CO,dx,l,rfl,hg,T.cO,T.lO,zd,rfl,q x _ (fun b o' e=>?_) ⟨dx,.inl ⟨by omega,zd⟩⟩⟩
   rw [zp (zE e hx),zp (zE e hx)]
   exact sd _ _ e
theorem XM:∀ ws:List (List Nat),Str.join (tx []) (ws.map tx) = tx ws.flatten
 | []=>rfl
 | [w]=>by
  show tx w = _
  simp
 | w :: v :: r=>by
  have ih:=XM (v :: r)
  show tx w ++ tx [] ++ Str.join (tx []) ((v :: r).map tx) = _
  rw [ih,wQ,wQ]
  simp
theorem Wf {ws:List (List Nat)} (h:ws.flatten.length <= 100000):JoinOk (tx []) (ws.map tx) = true:=by
 have s16:=yE
 have hf:∀ (l:List (List Nat)) (n:Nat),(l.map tx).foldl (fun a y=>a + y.length + 0) n = n + l.flatten.length:=fun l=>by
  induction l with
  | nil=>intro n; rfl
  | cons c r ih =>
   intro n
   rw [List.map_cons,List.foldl_cons,ih,yf,List.flatten_cons,List.length_append]
   omega
 have e:JoinOk (tx []) (ws.map tx) = !PySem.Builtin.Str.tooLong ((ws.map tx).foldl (fun a y=>a + y.length + 0) 0):=by
  unfold JoinOk
  rw [List.foldl_toArray]
  rfl
 rw [e,hf]
 unfold PySem.Builtin.Str.tooLong
 rw [Bool.not_eq_true',decide_eq_false_iff_not]
 omega
def j3:Sp:=fun vs H Q _=>∃ (c:Int),vs = [.int c] /\ vd c /\ ∀ (k:Int) (l:List Nat) (ws:List Int) (p W:Addr) (H':Hp),0 <= k -> k < 3 -> vK l = true -> ws.length = l.length -> (∀ n ∈ ws,1 <= n /\ n <= 1000000) -> Same H H' -> H' p = some (.tup [.int k,.str (tx l),.ref W]) -> H' W = some (.lst (ws.map V.int)) -> Q (.ref p) H'
theorem sc_draw:zu ["_law_cell_here", "_law_letters_here", "_law_number"] ["_law_cell_here"] (zb qg):=⟨rfl,rfl,rfl,by decide +kernel,rfl,by decide +kernel,by decide +kernel⟩
theorem U6 {f:Addr} {fd:FuncData} (B:Bt mg)  (F:Fun K "_law_draw" "_law_draw" qg f fd) (D_letters:Df P w K mg base CX0 2 "_law_letters" ["_law_cell_here", "_law_many"] [] wf) (D_mixed:Df P w K mg base CX0 1 "_law_mixed" ["_law_cell_here", "_law_turn"] [] xk):yk P w K mg base CX0 3 f fd ["_law_cell_here"] j3:=by
 refine F.ok sc_draw (fun vs H Q E h=>?_) (fun cdv A outer s H vs Q E hr h=>?_)
 ·obtain ⟨c,rfl,_⟩:=h
  rfl
 ·obtain ⟨c,rfl,hc,q⟩:=h
  refine ⟨_,(zj (zv (i:=1) sc_draw.nd rfl (Or.inl rfl) (cl0 D_letters hr .nil rfl (za (pv 0) (za (zD op_add ze (zD xm (zD xY (pv 0) ze) ze)) zc))))
   (zj (zv (i:=2) sc_draw.nd rfl (Or.inl rfl) (cl0 D_mixed hr .nil rfl (za (pv 0) (za ze zc))))
   (zf (zw (yl (za (zD xm (pv 0) ze) (za (pv 1) (za (yL sl_list (wM (za (zD op_add ze (zD xm (pv 2) ze)) (za (zD op_add ze (zD xm (zD xY (pv 2) ze) ze)) (za (zD op_add ze (zD xm (zD xY (pv 2) ze) ze)) zc)))) wC (yK (zn z9 rfl B.len PySem.boot_len (za (pv 1) zc)))) zc)))))))),?_⟩
  have s16:=yE
  have s16:=yE
  refine zk (fun σ H'=>H' = H /\ ∃ l:List Nat,l.length <= 3 /\ vK l = true /\ σ = [some (.int c),some (.str (tx l)),none]) ?_ ?_
  ·rfl'
   have e0:=Int.emod_nonneg (c / 3) (b:=2) (by decide)
   have e1:=Int.emod_lt_of_pos (c / 3) (b:=2) (by decide)
   exact ⟨⟨by decide,by decide⟩,by decide,j2 hc (by omega) (by omega) fun l h1 h2 h3=>⟨rfl,l,by omega,decide_eq_true ⟨by omega,by omega,h3,h2⟩,rfl⟩⟩
  rintro σ H1 ⟨rfl,l,l3,hg,rfl⟩
  refine zk (fun σ H'=>H' = H1 /\ ∃ z:Int,σ = [some (.int c),some (.str (tx l)),some (.int z)]) ?_ ?_
  ·rfl'
   exact y8 hc (by decide) (by decide) fun z _=>⟨rfl,z,rfl⟩
  rintro σ H2 ⟨rfl,z,rfl⟩
  rfl'
  refine ⟨by decide,by decide,⟨by decide,by decide⟩,by decide,⟨by decide,by decide⟩,by decide,by omega,fun p hp=>⟨by omega,_,SqL.of zd,fun p1 hp1=>⟨by omega,fun p2 hp2=>?_⟩⟩⟩
  have l1:=(of_decide_eq_true hg).1
  have e:QG [V.int (1 + z % 3),V.int (1 + z / 3 % 3),V.int (1 + z / 9 % 3)] none (some (l.length:Int)) = ([1 + z % 3,1 + z / 3 % 3,1 + z / 9 % 3].take l.length).map V.int:=by
   rcases (show l.length = 1 \/ l.length = 2 \/ l.length = 3 by omega) with h | h | h <;> rw [h] <;> rfl
  refine q (c % 3) l ([1 + z % 3,1 + z / 3 % 3,1 + z / 9 % 3].take l.length) p2 p1 _ (Int.emod_nonneg _ (by decide)) (Int.emod_lt_of_pos _ (by decide)) hg ?_ (fun n hn=>?_) ((zg hp).trans ((zg hp1).trans (zg hp2))) zd ?_
  ·rw [List.length_take]
   show min l.length 3 = l.length
   omega
  ·have hn':=List.mem_of_mem_take hn
   have m:∀ y:Int,0 <= y % 3 /\ y % 3 < 3:=fun y=>⟨Int.emod_nonneg _ (by decide),Int.emod_lt_of_pos _ (by decide)⟩
   have m0:=m z
   have m1:=m (z / 3)
   have m2:=m (z / 9)
   simp only [List.mem_cons,List.not_mem_nil,or_false] at hn'
   rcases hn' with rfl | rfl | rfl <;> omega
  ·rw [zg hp2 _ _ zd,e]
structure KXs (K:PySem.W.Frag):Prop where
 ss:PySem.W.kitOne K (.type "str") (.type "str") = some true
def kG (K:PySem.W.Frag):Sp:=fun vs H Q _=>∃ (a:Addr) (es:List Ent),vs = [.ref a] /\ Is K H (.lst (es.map dE)) (.ref a) /\ Q (.bl true) H
theorem sc_entries:zu ["_law_found", "_law_entry"] ["_law_found"] (zb xA):=⟨rfl,rfl,rfl,by decide +kernel,rfl,by decide +kernel,by decide +kernel⟩
theorem ZI {f:Addr} {fd:FuncData} (B:Bt mg) (T:TLs K) (TX:KXs K) (F:Fun K "_law_entries" "_law_entries" xA f fd) (D_steps:Df P w K mg base CX0 2 "_law_steps" ["_law_found"] [] (qE K)):yk P w K mg base CX0 3 f fd ["_law_found"] (kG K):=by
 refine F.ok sc_entries (fun vs H Q E h=>?_) (fun cdv A outer s H vs Q E hr h=>?_)
 ·obtain ⟨a,es,rfl,_⟩:=h
  rfl
 ·obtain ⟨a,es,rfl,hA,q⟩:=h
  refine ⟨_,(zj (zW (ym (xV (xK rfl B.isi (pv 0) rfl B.list PySem.Pv.boot_list) (fun _=>rfl)))
    (zf (zw xb))
    zy)
   (zj (yD PassesOwn.never rfl (yG (pv 0)) (zx (i:=1) sc_entries.nd rfl (Or.inl rfl))
    (zj (zW (PW.pt (uI (ym (xV (xK rfl B.isi (pv 1) rfl B.tuple PySem.Pv.boot_tuple) (fun _=>rfl))) (uI (zC ZE (zn z9 rfl B.len PySem.boot_len (za (pv 1) zc)) ze (zJ _)) (vI (ym (xV (cl0 D_steps hr .nil rfl (za (zt ix_tup (pv 1) ze (fun _ _=>rfl)) zc)) (fun _=>rfl)))))))
     (zf (zw xb))
     zy)
    (zf (zW (PW.pt (uI (ym (xV (xK rfl B.isi (zt ix_tup (pv 1) ze (fun _ _=>rfl)) rfl B.str PySem.Pv.boot_str) (fun _=>rfl))) (vI (ym (xV (xK rfl B.isi (zt ix_tup (pv 1) ze (fun _ _=>rfl)) rfl B.str PySem.Pv.boot_str) (fun _=>rfl))))))
     (zf (zw xb))
     zy))))
   (zf (zw xb)))),?_⟩
  have s16:=yE
  simp only [Is] at hA
  obtain ⟨_,xs,e,hX,hI⟩:=hA
  cases e
  refine zk (fun σ H'=>H' = H /\ σ = [some (.ref a),none]) ?_ ?_
  ·rfl'
   exact ⟨_,.inr (.inr (.inl ⟨_,_,rfl,rfl,hX⟩)),true,T.ll,X9 trivial⟩
  rintro σ H1 ⟨rfl,rfl⟩
  refine zk (fun σ H'=>H' = H1 /\ ∃ v1,σ = [some (.ref a),v1]) ?_ ?_
  ·rfl'
   refine ⟨⟨_,hX⟩,ForL.by (xs:=xs) (fun i σ H'=>H' = H1 /\ ∃ v1,σ = [some (.ref a),v1]) ⟨rfl,_,rfl⟩ (fun i σ H' _ h=>by rw [h.1]; exact hX) ?_ fun σ H' h=>h⟩
   rintro i x σ H' hx ⟨rfl,v1,rfl⟩
   obtain ⟨e,pe,se,hei,rfl,hqe,hse⟩:=Zd hI hx
   simp only [xR,List.set_cons_succ,List.set_cons_zero]
   refine zk (fun σ H''=>H'' = H' /\ σ = [some (.ref a),some (.ref pe)]) ?_ ?_
   ·rfl'
    exact ⟨_,.inr (.inr (.inr ⟨_,_,rfl,rfl,hqe⟩)),true,T.tt,X9 ⟨_,.inr ⟨_,hqe,rfl⟩,xn (fun h=>absurd rfl h) fun _=>⟨_,hqe,_,rfl,se,e.2.2,rfl,hse,true,rfl,X9 rfl⟩⟩⟩
   rintro σ G ⟨rfl,rfl⟩
   rfl'
   exact ⟨_,hqe,_,rfl,_,.inl (.str _),true,TX.ss,X9 ⟨_,hqe,_,rfl,_,.inl (.str _),true,TX.ss,X9 trivial⟩⟩
  rintro σ H2 ⟨rfl,v1,rfl⟩
  rfl'
  exact q
def vT:Sp:=fun vs H Q _=>∃ (k:Int) (l:List Nat) (W:Addr) (ws:List Int) (w:List Nat),vs = [.int k,.str (tx l),.ref W,.str (tx w)] /\ 0 <= k /\ k < 3 /\ vK l = true /\ H W = some (.lst (ws.map V.int)) /\ ws.length = l.length /\ (∀ n ∈ ws,1 <= n /\ n <= 1000000) /\ w.length <= 1000 /\ (∀ x ∈ w,x ∈ l) /\ ∀ (p q:Addr) (H':Hp),Same H H' -> H' p = some (.tup [.int (zl k.toNat l ws w),.ref q]) -> H' q = some (.lst ((wk k.toNat l w).map V.int)) -> Q (.ref p) H'
theorem uz {k:Int} {l:List Nat} {W:Addr} {ws:List Int} {w:List Nat} {H:Hp} {Q:VK} {E:XK} (k0:0 <= k) (k3:k < 3) (hg:vK l = true) (hD:H W = some (.lst (ws.map V.int))) (hwl:ws.length = l.length) (hwb:∀ n ∈ ws,1 <= n /\ n <= 1000000) (hw:w.length <= 1000) (hm:∀ x ∈ w,x ∈ l) (q:∀ (p q:Addr) (H':Hp),Same H H' -> H' p = some (.tup [.int (zl k.toNat l ws w),.ref q]) -> H' q = some (.lst ((wk k.toNat l w).map V.int)) -> Q (.ref p) H'):vT [.int k,.str (tx l),.ref W,.str (tx w)] H Q E:=⟨k,l,W,ws,w,rfl,k0,k3,hg,hD,hwl,hwb,hw,hm,q⟩
theorem sc_rank:zu ["_law_kind", "_law_letters_here", "_law_weights", "_law_word_here", "_law_seen", "_law_weight"] ["_law_kind", "_law_letters_here", "_law_weights", "_law_word_here"] (zb w4):=⟨rfl,rfl,rfl,by decide +kernel,rfl,by decide +kernel,by decide +kernel⟩
theorem UG {f:Addr} {fd:FuncData} (B:Bt mg)  (F:Fun K "_law_rank" "_law_rank" w4 f fd)  : yk P w K mg base CX0 1 f fd ["_law_kind", "_law_letters_here", "_law_weights", "_law_word_here"] vT:=by
 refine F.ok sc_rank (fun vs H Q E h=>?_) (fun cdv A outer s H vs Q E hr h=>?_)
 ·obtain ⟨k,l,W,ws,w,rfl,_⟩:=h
  rfl
 ·obtain ⟨k,l,W,ws,w,rfl,k0,k3,hg,hW,hwl,hwb,hw,hm,q⟩:=h
  refine ⟨_,(zj (zv (i:=4) sc_rank.nd rfl (Or.inl rfl) (pv 3))
   (zj (zv (i:=5) sc_rank.nd rfl (Or.inl rfl) (zn z9 rfl B.len PySem.boot_len (za (pv 3) zc)))
   (zj (zW (zC uY (pv 0) ze (zJ _))
    (zf (zv (i:=4) sc_rank.nd rfl (Or.inl rfl) (wD PySem.F.plainAttrs_str PySem.F.slot_str_join PySem.F.type_str_join Qq yY (za (yF (own:=["_law_k"]) (caps:=["_law_word_here"]) (ix:=[3]) (tt:=wq) (te:=(tOp (rIx K) (yN 1) (tOp (rI0 fun i j=>.int (i - j)) (tOp (rI0 fun i j=>.int (i - j)) (tCB (QW K) (zV (yN 1) wB)) (tC (.int 1))) (yN 0)))) rfl (zR (sc:=zb w4) rfl (by decide +kernel) (by decide +kernel) (by decide +kernel) rfl (by decide +kernel) (by decide +kernel) rfl) (xC rfl B.range (za (zn z9 rfl B.len PySem.boot_len (za (pv 3) zc)) zc)) (fun _ _ _ _ _ _=>zx (i:=0) (show List.Nodup [_,_] by decide) rfl (Or.inl rfl)) (fun _ _ _ _ _ _=>yy) (fun _ _ _ _ _ _=>(zt Zn (pv 1) (zD vA (zD vA (zn z9 rfl B.len PySem.boot_len (za (pv 1) zc)) ze) (pv 0)) (fun _ _=>rfl)))) zc))))
    zy)
   (zj (zW (zC uY (pv 0) ze (zJ _))
    (zf (zv (i:=5) sc_rank.nd rfl (Or.inl rfl) (zn (Qy rfl) rfl B.sum PyProof.Rows.boot_sum (za (yF (own:=["_law_sign"]) (caps:=["_law_weights", "_law_letters_here"]) (ix:=[2,1]) (tt:=wq) (te:=(tOp (rIx K) (yN 1) (tBM K "str" W0 (yN 2) (zV (yN 0) wB)))) rfl (zR (sc:=zb w4) rfl (by decide +kernel) (by decide +kernel) (by decide +kernel) rfl (by decide +kernel) (by decide +kernel) rfl) (jN (pv 3)) (fun _ _ _ _ _ _=>zx (i:=0) (show List.Nodup [_,_,_] by decide) rfl (Or.inl rfl)) (fun _ _ _ _ _ _=>yy) (fun _ _ _ _ _ _=>(zt Zn (pv 1) (wD PySem.F.plainAttrs_str PySem.F.slot_str_find PySem.F.type_str_find VC (pv 2) (za (pv 0) zc)) (fun _ _=>rfl)))) zc))))
    zy)
   (zf (zw (yl (za (pv 5) (za (yF (own:=["_law_sign"]) (caps:=["_law_letters_here"]) (ix:=[1]) (tt:=wq) (te:=(tBM K "str" W0 (yN 1) (zV (yN 0) wB))) rfl (zR (sc:=zb w4) rfl (by decide +kernel) (by decide +kernel) (by decide +kernel) rfl (by decide +kernel) (by decide +kernel) rfl) (jN (pv 4)) (fun _ _ _ _ _ _=>zx (i:=0) (show List.Nodup [_,_] by decide) rfl (Or.inl rfl)) (fun _ _ _ _ _ _=>yy) (fun _ _ _ _ _ _=>(wD PySem.F.plainAttrs_str PySem.F.slot_str_find PySem.F.type_str_find VC (pv 1) (za (pv 0) zc)))) zc))))))))),?_⟩
  have s16:=yE
  have s16:=yE
  obtain ⟨l1,l6,lsm,lnd⟩:=of_decide_eq_true hg
  refine zk (fun σ H'=>H' = H /\ σ = [some (.int k),some (.str (tx l)),some (.ref W),some (.str (tx w)),some (.str (tx w)),none]) ?_ ?_
  ·rfl'
  rintro σ H1 ⟨rfl,rfl⟩
  refine zk (fun σ H'=>H' = H1 /\ σ = [some (.int k),some (.str (tx l)),some (.ref W),some (.str (tx w)),some (.str (tx w)),some (.int (w.length:Nat))]) ?_ ?_
  ·rfl'
   omega
  rintro σ H2 ⟨rfl,rfl⟩
  refine zk (fun σ H'=>Same H2 H' /\ σ = [some (.int k),some (.str (tx l)),some (.ref W),some (.str (tx w)),some (.str (tx (yg k.toNat w))),some (.int (w.length:Nat))]) ?_ ?_
  ·rfl'
   refine xn (fun hk=>⟨by omega,by omega,by omega,fun D hD=>CompR.by (fun i acc H'=>Same H2 H' /\ H' D = some (.lst acc) /\ acc = (((w.reverse.take i).map fun c=>[c]).map tx).map V.str) ⟨zg hD,zd,rfl⟩ ?_ ?_⟩) fun hk=>?_
   ·rintro i acc H' hi ⟨hs,hH,rfl⟩
    rw [Int.toNat_natCast] at hi
    have hr:w.reverse[i]? = some (w[w.length - 1 - i]'(by omega)):=by
     rw [List.getElem?_reverse hi,List.getElem?_eq_getElem (by omega)]
    have ha:atI w ((w.length:Int) - 1 - (0 + (i:Int))) = some (w[w.length - 1 - i]'(by omega)):=by
     rw [show (w.length:Int) - 1 - (0 + (i:Int)) = ((w.length - 1 - i:Nat):Int) by omega]
     exact qS (List.getElem?_eq_getElem (by omega))
    simp only [wq]
    rfl'
    refine ⟨xh,by omega,by omega,_,ha,hH,by simp only [List.length_map,List.length_take,List.length_reverse]; omega,CNx.mk (by rw [Int.toNat_natCast]; exact hi) ⟨zF hs hD,zd,?_⟩⟩
    rw [z6 hr,List.map_append,List.map_append,List.map_append]
    rfl
   ·rintro acc H' ⟨hs,hH,rfl⟩
    rw [Int.toNat_natCast,<- List.length_reverse,List.take_length] at hH
    have hfl:(w.reverse.map fun c=>[c]).flatten = w.reverse:=by
     induction w.reverse with
     | nil=>rfl
     | cons a r ih=>rw [List.map_cons,List.flatten_cons,ih]; rfl
    refine ⟨tx [],D,(w.reverse.map fun c=>[c]).map tx,rfl,rfl,SqL.of hH,Wf (by rw [hfl,List.length_reverse]; omega),?_⟩
    have e:Txt.join (tx []) ((w.reverse.map fun c=>[c]).map tx) = Str.join (tx []) ((w.reverse.map fun c=>[c]).map tx):=StrLaws.glued_eq_join _ _
    rw [e,XM,hfl]
    refine ⟨hs,?_⟩
    rw [hk]
    rfl
   ·refine ⟨Same.refl _,?_⟩
    unfold yg
    rw [if_neg (by omega)]
  rintro σ H3 ⟨s3,rfl⟩
  have hW3:=s3 _ _ hW
  refine zk (fun σ H'=>Same H3 H' /\ σ = [some (.int k),some (.str (tx l)),some (.ref W),some (.str (tx w)),some (.str (tx (yg k.toNat w))),some (.int (zl k.toNat l ws w))]) ?_ ?_
  ·rfl'
   refine xn (fun hk=>fun D hD=>CompS.by (fun i acc H'=>Same H3 H' /\ H' D = some (.lst acc) /\ acc = ((w.take i).map fun c=>ws.getD (l.idxOf c) 0).map V.int) ⟨zg hD,zd,rfl⟩ ?_ ?_) fun hk=>?_
   ·rintro i c acc H' hc ⟨hs,hH,rfl⟩
    have hci:=(List.getElem?_eq_some_iff.mp hc).1
    have hcl:=hm c (List.mem_of_getElem? hc)
    have hlt:=List.idxOf_lt_length_of_mem hcl
    have ea:atI (ws.map V.int) ((l.idxOf c:Nat):Int) = some (.int (ws.getD (l.idxOf c) 0)):=by
     refine qS ?_
     rw [List.getElem?_map,List.getD_eq_getElem?_getD,List.getElem?_eq_getElem (by omega)]
     rfl
    simp only [wq]
    rfl'
    refine ⟨xh,.inl ⟨_,SqL.of (hs _ _ hW3),_,by rw [Xc hcl]; exact ea,hH,by simp only [List.length_map,List.length_take]; omega,CNx.mk hci ⟨zF hs hD,zd,?_⟩⟩⟩
    rw [z6 hc,List.map_append,List.map_append]
    rfl
   ·rintro acc H' ⟨hs,hH,rfl⟩
    rw [List.take_length] at hH
    refine ⟨D,_,rfl,SqL.of hH,hs,congrArg V.int ?_⟩
    have e2:=jn (ls:=l) (ns:=ws) lnd hwl (w:=w) hm
    unfold Wb at e2
    unfold zl
    rw [if_pos (by omega),<- e2]
    rfl
   ·refine ⟨Same.refl _,?_⟩
    unfold zl
    rw [if_neg (by omega)]
  rintro σ H4 ⟨s4,rfl⟩
  rfl'
  intro D hD
  have hsm:∀ c ∈ yg k.toNat w,c ∈ l:=fun c hc=>by
   unfold yg at hc
   split at hc
   ·exact hm c (List.mem_reverse.mp hc)
   ·exact hm c hc
  have hsl:(yg k.toNat w).length <= 1000:=by
   unfold yg
   split
   ·rw [List.length_reverse]; exact hw
   ·exact hw
  refine CompS.by (fun i acc H'=>Same H4 H' /\ H' D = some (.lst acc) /\ acc = (vO l ((yg k.toNat w).take i)).map V.int) ⟨zg hD,zd,rfl⟩ ?_ ?_
  ·rintro i c acc H' hc ⟨hs,hH,rfl⟩
   have hci:=(List.getElem?_eq_some_iff.mp hc).1
   have hcl:=hsm c (List.mem_of_getElem? hc)
   simp only [wq]
   rfl'
   rw [Xc hcl]
   refine ⟨xh,hH,by rw [List.length_map]; unfold vO; rw [List.length_map,List.length_take]; omega,CNx.mk hci ⟨zF hs hD,zd,?_⟩⟩
   unfold vO
   rw [z6 hc,List.map_append,List.map_append]
   rfl
  ·rintro acc H' ⟨hs,hH,rfl⟩
   rw [List.take_length] at hH
   exact ⟨by omega,fun p hp=>q p D _ (s3.trans (s4.trans (hs.trans (zg hp)))) zd (zg hp _ _ hH)⟩
theorem ThinL.pairs {k:Nat} {l:List Nat} {ns:List Int} {zs bs:List Ent} (h:ThinL k l ns zs) (hp:zh bs = zh zs) (hE:∀ e ∈ bs,EB l e):ThinL k l ns bs:=by
 have key:∀ (i:Nat) (a:Ent),bs[i]? = some a -> ∃ z,zs[i]? = some z /\ z.1 = a.1 /\ z.2.1 = a.2.1:=fun i a ha=>by
  have h1:(zh bs)[i]? = some (a.1,a.2.1):=by unfold zh; rw [List.getElem?_map,ha]; rfl
  rw [hp] at h1
  unfold zh at h1
  rw [List.getElem?_map] at h1
  obtain ⟨z,hz,e⟩:=Option.map_eq_some_iff.mp h1
  exact ⟨z,hz,(Prod.ext_iff.mp e).1,(Prod.ext_iff.mp e).2⟩
 refine ⟨⟨hE,fun e he=>?_⟩,fun i j a b ha hb hij=>?_,fun i j a b ha hb hij=>?_,fun i j a b ha hb=>?_⟩
 ·obtain ⟨i,hi⟩:=List.mem_iff_getElem?.mp he
  obtain ⟨z,hz,e1,e2⟩:=key i e hi
  rw [<- e1,<- e2]
  exact h.rl.lt z (List.mem_of_getElem? hz)
 all_goals
  obtain ⟨x,hx,e1,e2⟩:=key i a ha
  obtain ⟨y,hy,f1,f2⟩:=key j b hb
  rw [<- f1]
 ·rw [<- e1]
  exact h.up i j x y hx hy hij
 ·rw [<- e1]
  exact h.no1 i j x y hx hy hij
 ·rw [<- e2]
  exact h.no2 i j x y hx hy
theorem Va {k:Nat} {l:List Nat} {ws:List Int} {u v:List Nat} {p p' r r':Addr} {H:Hp} {Q:VK} (hp:H p = some (.tup [.int (zl k l ws u),.ref p'])) (hp':H p' = some (.lst ((wk k l u).map V.int))) (hr:H r = some (.tup [.int (zl k l ws v),.ref r'])) (hr':H r' = some (.lst ((wk k l v).map V.int))) (q:Q (.bl (zQ k l ws u v)) H):JD K (.ref p) (.ref r) H Q:=by
 refine X5 (vn hp hp') (vn hr hr') (by simp only [dpD,wz,jg]; decide) (by simp only [okD,qb]; exact ⟨trivial,vc _ _,trivial⟩) ?_
 rw [kn]
 exact q
theorem Js {w p:List Nat} {b:Bool} (h:¬ Within p w) (hb:b = true ↔ ∃ q:Nat,q + p.length <= w.length /\ (w.drop q).take p.length = p):b = false:=by
 cases b with
 | false=>rfl
 | true =>
  obtain ⟨q,h1,h2⟩:=hb.mp rfl
  refine absurd (Xv (q:=q) ?_) h
  exact decide_eq_true ⟨by omega,by omega,by rw [Int.toNat_natCast]; exact h2⟩
abbrev zax (mg:Str -> Option Value):Prop:=mg "any" = none
def RkAt (H:Hp) (R:Addr) (k:Nat) (l:List Nat) (ws:List Int) (u:List Nat):Prop:=∃ R':Addr,H R = some (.tup [.int (zl k l ws u),.ref R']) /\ H R' = some (.lst ((wk k l u).map V.int))
theorem RkAt.same {H H':Hp} {R:Addr} {k:Nat} {l:List Nat} {ws:List Int} {u:List Nat} (h:RkAt H R k l ws u) (s:Same H H'):RkAt H' R k l ws u:=let ⟨R',a,b⟩:=h; ⟨R',s _ _ a,s _ _ b⟩
theorem RkAt.lt {H:Hp} {R R2:Addr} {k:Nat} {l:List Nat} {ws:List Int} {u v:List Nat} {Q:VK} (h:RkAt H R k l ws u) (h2:RkAt H R2 k l ws v) (q:Q (.bl (zQ k l ws u v)) H):JD K (.ref R) (.ref R2) H Q:=by
 obtain ⟨R',a,b⟩:=h
 obtain ⟨R2',a2,b2⟩:=h2
 exact Va a b a2 b2 q
def jf (K:PySem.W.Frag):Sp:=fun vs H Q _=>∃ (D W:Addr) (k:Int) (l:List Nat) (ws:List Int) (bs:List Ent),vs = [.ref D,.int k,.str (tx l),.ref W] /\ 0 <= k /\ k < 3 /\ vK l = true /\ H W = some (.lst (ws.map V.int)) /\ ws.length = l.length /\ (∀ n ∈ ws,1 <= n /\ n <= 1000000) /\ EnsL K H D bs /\ ThinL k.toNat l ws bs /\ ∀ H',Same H H' -> Q (.bl true) H'
theorem sc_thin:zu ["_law_found", "_law_kind", "_law_letters_here", "_law_weights", "_law_k", "_law_entry", "_law_rank_here", "_law_ahead", "_law_n", "_law_other"] ["_law_found", "_law_kind", "_law_letters_here", "_law_weights"] (zb uH):=⟨rfl,rfl,rfl,by decide +kernel,rfl,by decide +kernel,by decide +kernel⟩
theorem UC {f:Addr} {fd:FuncData} (B:Bt mg) (hany:zax mg) (F:Fun K "_law_thin" "_law_thin" uH f fd) (D_rank:Df P w K mg base CX0 1 "_law_rank" ["_law_kind", "_law_letters_here", "_law_weights", "_law_word_here"] [] vT):yk P w K mg base CX0 2 f fd ["_law_found", "_law_kind", "_law_letters_here", "_law_weights"] (jf K):=by
 refine F.ok sc_thin (fun vs H Q E h=>?_) (fun cdv A outer s H vs Q E hr h=>?_)
 ·obtain ⟨D,W,k,l,ws,bs,rfl,_⟩:=h
  rfl
 ·obtain ⟨D,W,k,l,ws,bs,rfl,k0,k3,hg,hW,hwl,hwb,hM,hT,q⟩:=h
  refine ⟨_,(zj (yD PassesOwn.never rfl (va rfl B.enum (za (pv 0) zc)) (ud (n:=2) rfl (zZ (zx (i:=4) sc_thin.nd rfl (Or.inl rfl)) (zZ (zx (i:=5) sc_thin.nd rfl (Or.inl rfl)) wI)))
    (zj (zv (i:=6) sc_thin.nd rfl (Or.inl rfl) (cl0 D_rank hr .nil rfl (za (pv 1) (za (pv 2) (za (pv 3) (za (zt ix_tup (pv 5) ze (fun _ _=>rfl)) zc))))))
    (zj (zW (xV (zn (JN rfl) rfl hany PyProof.Rows.boot_any (za (yF (own:=["_law_sign"]) (caps:=["_law_letters_here"]) (ix:=[2]) (tt:=wq) (te:=(tOp JO (yN 0) (yN 1))) rfl (zR (sc:=zb uH) rfl (by decide +kernel) (by decide +kernel) (by decide +kernel) rfl (by decide +kernel) (by decide +kernel) rfl) (jN (zD op_add_str (zt ix_tup (pv 5) ze (fun _ _=>rfl)) (zt ix_tup (pv 5) ze (fun _ _=>rfl)))) (fun _ _ _ _ _ _=>zx (i:=0) (show List.Nodup [_,_] by decide) rfl (Or.inl rfl)) (fun _ _ _ _ _ _=>yy) (fun _ _ _ _ _ _=>(jk QQ (pv 0) (pv 1) (by with_unfolding_all rfl)))) zc)) (fun _=>rfl))
     (zf (zw xb))
     zy)
    (zj (zW (ym (zC (XD (uV hr)) (cl0 D_rank hr .nil rfl (za (pv 1) (za (pv 2) (za (pv 3) (za (zt ix_tup (pv 5) ze (fun _ _=>rfl)) zc))))) (pv 6) (zJ _)))
     (zf (zw xb))
     zy)
    (zj (zW (zC qm (pv 4) ze (zJ _))
     (zj (zv (i:=7) sc_thin.nd rfl (Or.inl rfl) (cl0 D_rank hr .nil rfl (za (pv 1) (za (pv 2) (za (pv 3) (za (zt ix_tup (zt ix_list (pv 0) (zD vA (pv 4) ze) (fun _ _=>rfl)) ze (fun _ _=>rfl)) zc))))))
     (zf (zW (ym (zC (XD (uV hr)) (pv 7) (pv 6) (zJ _)))
      (zf (zw xb))
      zy)))
     zy)
    (zf (yD PassesOwn.never rfl (va rfl B.enum (za (pv 0) zc)) (ud (n:=2) rfl (zZ (zx (i:=8) sc_thin.nd rfl (Or.inl rfl)) (zZ (zx (i:=9) sc_thin.nd rfl (Or.inl rfl)) wI)))
     (zf (zW (PW.pt (uI (zC VR (zt ix_tup (pv 9) ze (fun _ _=>rfl)) (zt ix_tup (pv 5) ze (fun _ _=>rfl)) (by with_unfolding_all rfl)) (vI (PW.pt (VG (zC ZE (pv 8) (pv 4) (zJ _)) (Xj (zC VR (zt ix_tup (pv 9) ze (fun _ _=>rfl)) (zt ix_tup (pv 5) ze (fun _ _=>rfl)) (by with_unfolding_all rfl))))))))
      (zf (zw xb))
      zy)))))))))
   (zf (zw xb))),?_⟩
  have s16:=yE
  have s16:=yE
  obtain ⟨xs,hX,hI⟩:=id hM
  have hxl:=hI.len
  refine zk (fun σ H'=>Same H H') ?_ ?_
  ·rfl'
   refine ⟨⟨_,hX⟩,ForEL.by (xs:=xs) (fun i σ H'=>Same H H' /\ ∃ v4 v5 v6 v7 v8 v9,σ = [some (.ref D),some (.int k),some (.str (tx l)),some (.ref W),v4,v5,v6,v7,v8,v9]) ⟨Same.refl _,none,none,none,none,none,none,rfl⟩ (fun i σ H' _ h=>h.1.seq hX) ?_ fun σ H' h=>h.1⟩
   rintro i x σ H1 p hx ⟨s1,v4,v5,v6,v7,v8,v9,rfl⟩ hp
   obtain ⟨e,pe,se,hei,rfl,hqe,hse⟩:=hI.get hx
   have hEe:=hT.rl.e e (List.mem_of_getElem? hei)
   have hie:=(List.getElem?_eq_some_iff.mp hei).1
   have sp:=zg (o:=.tup [.int (i:Nat),.ref pe]) hp
   have s1p:=s1.trans sp
   rfl'
   refine ⟨_,SqT.of zd,rfl,_,_,rfl,_,_,rfl,rfl,?_⟩
   generalize upd H1 p (.tup [.int (i:Nat),.ref pe]) = H2 at s1p
   refine zk (fun σ H'=>Same H H' /\ ∃ R:Addr,RkAt H' R k.toNat l ws e.1 /\ σ = [some (.ref D),some (.int k),some (.str (tx l)),some (.ref W),some (.int (i:Nat)),some (.ref pe),some (.ref R),v7,v8,v9]) ?_ ?_
   ·rfl'
    exact ⟨_,zm s1p hqe,_,rfl,uz k0 k3 hg (s1p _ _ hW) hwl hwb (by have:=hEe.a; omega) hEe.ma fun R R' H' s' h1 h2=>⟨s1p.trans s',R,⟨R',h1,h2⟩,rfl⟩⟩
   rintro σ H3 ⟨s3,R,hR,rfl⟩
   have hq3:=zm s3 hqe
   have ha:=hEe.a
   have hb:=hEe.b
   refine zk (fun σ H'=>Same H3 H' /\ σ = [some (.ref D),some (.int k),some (.str (tx l)),some (.ref W),some (.int (i:Nat)),some (.ref pe),some (.ref R),v7,v8,v9]) ?_ ?_
   ·rfl'
    refine ⟨_,hq3,_,rfl,_,hq3,_,rfl,_,rfl,_,rfl,by rw [yf,yf]; omega,fun A2 hA2=>?_⟩
    rw [wQ]
    have hmem:∀ x ∈ e.1 ++ e.2.1,x ∈ l:=fun x hx=>(List.mem_append.mp hx).elim (hEe.ma x) (hEe.mb x)
    have hfl:(e.1 ++ e.2.1).length <= 120:=by rw [List.length_append]; omega
    generalize e.1 ++ e.2.1 = fl at *
    refine CompS.by (fun i acc H''=>Same H3 H'' /\ H'' A2 = some (.lst acc) /\ acc = (List.replicate i false).map V.bl) ⟨zg hA2,zd,rfl⟩ ?_ ?_
    ·rintro i c2 acc H'' hc2 ⟨hs2,hH2,rfl⟩
     have hci:=(List.getElem?_eq_some_iff.mp hc2).1
     have hcl:=hmem c2 (List.mem_of_getElem? hc2)
     simp only [wq]
     rfl'
     refine ⟨xh,hH2,by rw [List.length_map,List.length_replicate]; omega,CNx.mk hci ⟨zF hs2 hA2,zd,?_⟩⟩
     rw [List.replicate_succ',List.map_append]
     simp [hcl]
    ·rintro acc H'' ⟨hs2,hH2,rfl⟩
     refine ⟨A2,List.replicate fl.length false,rfl,SqL.of hH2,false,by simp,?_⟩
     rw [if_neg (by decide)]
     exact hs2
   rintro σ H4 ⟨s4,rfl⟩
   have s34:=s3.trans s4
   refine zk (fun σ H'=>Same H4 H' /\ σ = [some (.ref D),some (.int k),some (.str (tx l)),some (.ref W),some (.int (i:Nat)),some (.ref pe),some (.ref R),v7,v8,v9]) ?_ ?_
   ·rfl'
    refine ⟨_,zm s4 hq3,_,rfl,uz k0 k3 hg (s34 _ _ hW) hwl hwb (by omega) hEe.mb fun R2 R2' H' s' h1 h2=>RkAt.lt ⟨R2',h1,h2⟩ (hR.same (s4.trans s')) ?_⟩
    rw [hT.rl.lt e (List.mem_of_getElem? hei)]
    refine ⟨true,rfl,?_⟩
    rw [if_neg (by decide)]
    exact s'
   rintro σ H5 ⟨s5,rfl⟩
   have s35:=s34.trans s5
   refine zk (fun σ H'=>Same H5 H' /\ ∃ v7,σ = [some (.ref D),some (.int k),some (.str (tx l)),some (.ref W),some (.int (i:Nat)),some (.ref pe),some (.ref R),v7,v8,v9]) ?_ ?_
   ·rfl'
    refine xn (fun hi0=>?_) fun _=>by first | exact ⟨Same.refl _,rfl⟩ | exact Same.refl _
    have hi1:1 <= i:=by omega
    have hgx:xs[i - 1]? = some (xs[i - 1]'(by omega)):=List.getElem?_eq_getElem (by omega)
    obtain ⟨g,pg,sg,hgi,hgv,hqg,_⟩:=hI.get hgx
    rw [hgv] at hgx
    have hEg:=hT.rl.e g (List.mem_of_getElem? hgi)
    have hat:atI xs ((i:Int) - 1) = some (.ref pg):=by
     rw [show (i:Int) - 1 = ((i - 1:Nat):Int) by omega]
     exact qS hgx
    refine zk (fun σ H'=>Same H5 H' /\ ∃ R2:Addr,RkAt H' R2 k.toNat l ws g.1 /\ σ = [some (.ref D),some (.int k),some (.str (tx l)),some (.ref W),some (.int (i:Nat)),some (.ref pe),some (.ref R),some (.ref R2),v8,v9]) ?_ ?_
    ·rfl'
     exact ⟨_,s35.seq hX,_,hat,_,rfl,_,zm s35 hqg,_,rfl,uz k0 k3 hg (s35 _ _ hW) hwl hwb (by have:=hEg.a; omega) hEg.ma fun R2 R2' H' s' h1 h2=>⟨s',R2,⟨R2',h1,h2⟩,rfl⟩⟩
    rintro σ H6 ⟨s6,R2,hR2,rfl⟩
    rfl'
    refine RkAt.lt hR2 (hR.same (s4.trans (s5.trans s6))) ?_
    rw [hT.up (i - 1) i g e hgi hei (by omega)]
    refine ⟨true,rfl,?_⟩
    rw [if_neg (by decide)]
    first | exact ⟨s6,rfl⟩ | exact s6
   rintro σ H6 ⟨s6,v7',rfl⟩
   have s36:=s35.trans s6
   rfl'
   refine ⟨⟨_,s36.seq hX⟩,ForEL.by (xs:=xs) (fun j σ H'=>Same H H' /\ ∃ v7 v8 v9,σ = [some (.ref D),some (.int k),some (.str (tx l)),some (.ref W),some (.int (i:Nat)),some (.ref pe),some (.ref R),v7,v8,v9]) ⟨s36,_,_,_,rfl⟩ (fun i σ H' _ h=>h.1.seq hX) ?_ ?_⟩
   ·rintro j y σ H7 p2 hy ⟨s7,w7,w8,w9,rfl⟩ hp2
    obtain ⟨f,pf,sf,hfj,rfl,hqf,_⟩:=hI.get hy
    have sp2:=s7.trans (zg (o:=.tup [.int (j:Nat),.ref pf]) hp2)
    rfl'
    refine ⟨_,SqT.of zd,rfl,_,_,rfl,_,_,rfl,rfl,_,rfl,_,zm sp2 hqf,_,rfl,_,zm sp2 hqe,_,rfl,f.1,e.2.1,rfl,rfl,fun b hb=>?_⟩
    rw [Js (hT.no2 i j e f hei hfj) hb]
    refine ⟨false,rfl,?_⟩
    rw [if_neg (by decide)]
    refine ⟨rfl,xn (fun hne=>⟨_,rfl,_,zm sp2 hqf,_,rfl,_,zm sp2 hqe,_,rfl,f.1,e.1,rfl,rfl,fun b2 hb2=>?_⟩) fun _=>sp2⟩
    rw [Js (hT.no1 i j e f hei hfj (fun z=>hne (by rw [z]))) hb2]
    refine ⟨false,rfl,?_⟩
    rw [if_neg (by decide)]
    exact sp2
   ·rintro σ H' ⟨h,w7,w8,w9,rfl⟩
    exact ⟨h,_,_,_,_,_,_,rfl⟩
  rintro σ H2 s2
  rfl'
  exact q _ s2
theorem Qz {ta:TA} {g:TG} {tt:TT} {te:TE} {own:Nat} {ix:List Nat} {σ:L2.St} {H:Hp} {Q:VK}:jU (UE ta) g tt te own ix σ H Q = ta σ H fun vs H1=>∃ i j:Int,vs = [.int i,.int j] /\ (-(2 ^ 62) <= i /\ i < 2 ^ 62 /\ -(2 ^ 62) <= j /\ j < 2 ^ 62) /\ ∀ D,H1 D = none -> CompR i (j - i).toNat g tt te own ix σ H1 Q D:=rfl
theorem EnsA.app {H:Hp} {fs:List Ent} {us:List V} (hf:EnsA K H fs us):∀ {es:List Ent} {vs:List V},EnsA K H es vs -> EnsA K H (es ++ fs) (vs ++ us)
 | [],vs,h=>by
  simp only [EnsA] at h
  subst h
  exact hf
 | e :: es,vs,h=>by
  simp only [EnsA] at h
  obtain ⟨x,r,rfl,hx,hr⟩:=h
  simp only [List.cons_append,EnsA]
  exact ⟨x,r ++ us,rfl,hx,hf.app hr⟩
theorem EnsA.take {H:Hp}:∀ {es:List Ent} {vs:List V} (n:Nat),EnsA K H es vs -> EnsA K H (es.take n) (vs.take n)
 | es,vs,0,h=>by simp only [List.take_zero,EnsA]
 | [],vs,n + 1,h=>by
  simp only [EnsA] at h
  subst h
  simp only [List.take_nil,EnsA]
 | e :: es,vs,n + 1,h=>by
  simp only [EnsA] at h
  obtain ⟨x,r,rfl,hx,hr⟩:=h
  simp only [List.take_succ_cons,EnsA]
  exact ⟨x,r.take n,rfl,hx,hr.take n⟩
theorem EnsA.drop {H:Hp}:∀ {es:List Ent} {vs:List V} (n:Nat),EnsA K H es vs -> EnsA K H (es.drop n) (vs.drop n)
 | es,vs,0,h=>by simp only [List.drop_zero]; exact h
 | [],vs,n + 1,h=>by
  simp only [EnsA] at h
  subst h
  simp only [List.drop_nil,EnsA]
 | e :: es,vs,n + 1,h=>by
  simp only [EnsA] at h
  obtain ⟨x,r,rfl,hx,hr⟩:=h
  simp only [List.drop_succ_cons]
  exact hr.drop n
theorem EnsA.cons {H:Hp} {e:Ent} {v:V} {es:List Ent} {vs:List V} (hv:EnA K H e v) (h:EnsA K H es vs):EnsA K H (e :: es) (v :: vs):=by
 simp only [EnsA]
 exact ⟨v,vs,rfl,hv,h⟩
theorem VP {rs:List zH} {i:Nat} {r:zH} (h:rs[i]? = some r):EOk rs (r.1,r.2,[(((i:Nat):Int),(0:Int),true)]):=by
 have hl:=(List.getElem?_eq_some_iff.mp h).1
 show (yj rs r.1 (((i:Nat):Int),(0:Int),true)).bind (fun w'=>some w') = some r.2
 have e2:rs.getD ((i:Int)).toNat ([],[]) = r:=by rw [Int.toNat_natCast,List.getD_eq_getElem?_getD,h]; rfl
 rw [yn (by show (0:Int) <= (i:Int) /\ (i:Int) < rs.length; omega)]
 show (if zq r.1 0 (sdl (rs.getD ((i:Int)).toNat ([],[])) true).1 = true then _ else none).bind _ = _
 rw [e2]
 have hs:zq r.1 0 (sdl r true).1 = true:=decide_eq_true ⟨by omega,by show (0:Int) + r.1.length <= r.1.length; omega,by show (r.1.drop 0).take r.1.length = r.1; simp⟩
 rw [if_pos hs]
 show some (wA r.1 0 r.1 r.2) = some r.2
 unfold wA
 simp
theorem Jx {rs:List zH} {i:Nat} {r:zH} (h:rs[i]? = some r):EOk rs (r.2,r.1,[(((i:Nat):Int),(0:Int),false)]):=xX (VP h)
theorem Zq {H:Hp} {i:Nat} {t S:Addr} {b:Bool} (ht:H t = some (.tup [.int (i:Nat),.int 0,.bl b])) (hS:H S = some (.lst [.ref t])):LsA K H S ([(((i:Nat):Int),(0:Int),b)].map dSt):=by
 refine ⟨_,hS,?_⟩
 rw [List.map_cons,List.map_nil]
 exact V9 (Zy (SqT.of ht))
structure PG (l:List Nat) (rs:List zH):Prop where
 n:rs.length <= 6
 s:∀ r ∈ rs,r.1.length <= 3 /\ r.2.length <= 3 /\ (∀ x ∈ r.1,x ∈ l) /\ ∀ x ∈ r.2,x ∈ l
theorem PG.ok {l:List Nat} {rs:List zH} (h:PG l rs):XG rs:=⟨by have:=h.n; omega,fun r hr=>by have:=h.s r hr; omega⟩
theorem kH {l:List Nat} {rs:List zH} (h:PG l rs):∀ {ss:List Stp} {w w':List Nat},(∀ c ∈ w,c ∈ l) -> z8 rs w ss = some w' -> ∀ c ∈ w',c ∈ l
 | [],w,w',hw,e=>by cases e; exact hw
 | s :: ss,w,w',hw,e=>by
  obtain ⟨w1,h1,h2⟩:=wU e
  refine kH h (fun c hc=>?_) h2
  have hb:0 <= s.1 /\ s.1 < rs.length:=Decidable.byContradiction fun hb=>by rw [yH hb] at h1; cases h1
  rw [yn hb] at h1
  have hg:∀ c ∈ (sdl (rs.getD s.1.toNat ([],[])) s.2.2).2,c ∈ l:=by
   have hm:rs[s.1.toNat]? = some (rs[s.1.toNat]'(by omega)):=List.getElem?_eq_getElem (by omega)
   rw [List.getD_eq_getElem?_getD,hm]
   have hr:=h.s _ (List.mem_of_getElem? hm)
   show ∀ c ∈ (sdl (rs[s.1.toNat]'(by omega)) s.2.2).2,c ∈ l
   cases s.2.2
   ·exact hr.2.2.1
   ·exact hr.2.2.2
  generalize sdl (rs.getD s.1.toNat ([],[])) s.2.2 = r at *
  by_cases hs:zq w s.2.1 r.1 = true
  ·rw [if_pos hs] at h1
   cases h1
   unfold wA at hc
   rcases List.mem_append.mp hc with hc | hc
   ·rcases List.mem_append.mp hc with hc | hc
    ·exact hw c (List.mem_of_mem_take hc)
    ·exact hg c hc
   ·exact hw c (List.mem_of_mem_drop hc)
  ·rw [if_neg hs] at h1
   cases h1
def uc (K:PySem.W.Frag):Sp:=fun vs H Q _=>∃ (a pa:Addr) (l:List Nat) (ns:List Int) (rs:List zH),vs = [.ref a,.ref pa,.str (tx l)] /\ SqL K H a (ns.map V.int) /\ (∀ z ∈ ns,vd z) /\ LsA K H pa (rs.map dR) /\ PG l rs /\ 1 <= l.length /\ l.length <= 6 /\ ∀ (D:Addr) (es:List Ent) (H':Hp),Same H H' -> H D = none -> EnsM K H' D es -> es.length <= 7 -> (∀ e ∈ es,EB l e) -> (∀ e ∈ es,EOk rs e) -> Q (.ref D) H'
def LInv (K:PySem.W.Frag) (H:Hp) (D:Addr) (l:List Nat) (rs:List zH) (n:Nat) (H':Hp):Prop:=∃ (es:List Ent) (acc:List V),Same H H' /\ H' D = some (.lst acc) /\ EnsA K (uX D H') es acc /\ es.length <= n /\ (∀ e ∈ es,EB l e) /\ ∀ e ∈ es,EOk rs e
theorem LInv.add {H H1 H2:Hp} {D p S:Addr} {l:List Nat} {rs:List zH} {n:Nat} {e:Ent} (hD:H D = none) (h:LInv K H D l rs n H1) (s:Same H1 H2) (hp:H2 p = some (.tup [.str (tx e.1),.str (tx e.2.1),.ref S])) (hS:LsA K H2 S (e.2.2.map dSt)) (hSn:H1 S = none) (hE:EB l e) (ho:EOk rs e):∃ acc,H2 D = some (.lst acc) /\ acc.length <= n /\ LInv K H D l rs (n + 1) (upd H2 D (.lst (acc ++ [.ref p]))):=by
 obtain ⟨es,acc,s1,hH,hI,hl,hb,hk⟩:=h
 have hal:=hI.len
 have hH2:=s _ _ hH
 refine ⟨acc,hH2,by omega,es ++ [e],acc ++ [.ref p],zF (s1.trans s) hD,zd,?_,by rw [List.length_append]; show es.length + 1 <= n + 1; omega,fun x hx=>?_,fun x hx=>?_⟩
 ·exact (hI.same ((y0 s).trans yM)).snoc ((EnA.new hH2 hp hS (fun z=>by rw [z,hH] at hSn; cases hSn)).same yM)
 ·rcases List.mem_append.mp hx with hx | hx
  ·exact hb x hx
  ·rw [List.mem_singleton.mp hx]; exact hE
 ·rcases List.mem_append.mp hx with hx | hx
  ·exact hk x hx
  ·rw [List.mem_singleton.mp hx]; exact ho
theorem sc_list:zu ["_law_script", "_law_pacts", "_law_letters_here", "_law_entries_here", "_law_number", "_law_pact", "_law_word_here", "_law_steps_here"] ["_law_script", "_law_pacts", "_law_letters_here"] (zb uS):=⟨rfl,rfl,rfl,by decide +kernel,rfl,by decide +kernel,by decide +kernel⟩
theorem V3 {f:Addr} {fd:FuncData} (B:Bt mg)  (F:Fun K "_law_list" "_law_list" uS f fd) (D_word:Df P w K mg base CX0 1 "_law_word" ["_law_number", "_law_letters_here", "_law_most"] [] ug) (D_chain:Df P w K mg base CX0 3 "_law_chain" ["_law_pacts", "_law_word_here", "_law_cells", "_law_most"] [] (vY K)) (D_mixed:Df P w K mg base CX0 1 "_law_mixed" ["_law_cell_here", "_law_turn"] [] xk) (D_cell:Df P w K mg base CX0 1 "_law_cell" ["_law_script", "_law_k"] [] (wE K)) (D_end:Df P w K mg base CX0 2 "_law_end" ["_law_pacts", "_law_word_here", "_law_steps_here"] [] (qf K)):yk P w K mg base CX0 4 f fd ["_law_script", "_law_pacts", "_law_letters_here"] (uc K):=by
 refine F.ok sc_list (fun vs H Q E h=>?_) (fun cdv A outer s H vs Q E hr h=>?_)
 ·obtain ⟨a,pa,l,ns,rs,rfl,_⟩:=h
  rfl
 ·obtain ⟨a,pa,l,ns,rs,rfl,hS,hB,hP,hG,l1,l6,q⟩:=h
  refine ⟨_,(zj (zv (i:=3) sc_list.nd rfl (Or.inl rfl) (wM zc))
   (zj (yD PassesOwn.never rfl (va rfl B.enum (za (pv 1) zc)) (ud (n:=2) rfl (zZ (zx (i:=4) sc_list.nd rfl (Or.inl rfl)) (zZ (zx (i:=5) sc_list.nd rfl (Or.inl rfl)) wI)))
    (zf (zW (zC uY (zD xm (cl0 D_mixed hr .nil rfl (za (cl0 D_cell hr .nil rfl (za (pv 0) (za (zD yQ ze (pv 4)) zc))) (za ze zc))) ze) ze (zJ _))
     (zf (xu (wD PySem.F.plainAttrs_list PySem.F.slot_list_append PySem.F.type_list_append yZ (pv 3) (za (yl (za (zt ix_tup (pv 5) ze (fun _ _=>rfl)) (za (zt ix_tup (pv 5) ze (fun _ _=>rfl)) (za (wM (za (yl (za (pv 4) (za ze (za xb zc)))) zc)) zc)))) zc))))
     (zf (xu (wD PySem.F.plainAttrs_list PySem.F.slot_list_append PySem.F.type_list_append yZ (pv 3) (za (yl (za (zt ix_tup (pv 5) ze (fun _ _=>rfl)) (za (zt ix_tup (pv 5) ze (fun _ _=>rfl)) (za (wM (za (yl (za (pv 4) (za ze (za xb zc)))) zc)) zc)))) zc)))))))
   (zj (zW (zC uY (zD xm (zD xY (cl0 D_cell hr .nil rfl (za (pv 0) (za ze zc))) ze) ze) ze (zJ _))
    (zj (zv (i:=6) sc_list.nd rfl (Or.inl rfl) (cl0 D_word hr .nil rfl (za (cl0 D_mixed hr .nil rfl (za (cl0 D_cell hr .nil rfl (za (pv 0) (za ze zc))) (za ze zc))) (za (pv 2) (za ze zc)))))
    (zj (zv (i:=7) sc_list.nd rfl (Or.inl rfl) (cl0 D_chain hr .nil rfl (za (pv 1) (za (pv 6) (za (yF (own:=["_law_k"]) (caps:=["_law_script"]) (ix:=[0]) (tt:=wq) (te:=(u8 (wE K) [] E0 (zV (yN 1) (zV (yN 0) wB)))) rfl (zR (sc:=zb uS) rfl (by decide +kernel) (by decide +kernel) (by decide +kernel) rfl (by decide +kernel) (by decide +kernel) rfl) (YK rfl B.range (za ze (za ze zc))) (fun _ _ _ _ _ _=>zx (i:=0) (show List.Nodup [_,_] by decide) rfl (Or.inl rfl)) (fun _ _ _ _ _ _=>yy) (fun _ _ _ _ _ _=>(cl0 D_cell hr .nil rfl (za (pv 1) (za (pv 0) zc))))) (za ze zc))))))
    (zf (xu (wD PySem.F.plainAttrs_list PySem.F.slot_list_insert PySem.F.type_list_insert Q9 (pv 3) (za (zD xm (cl0 D_cell hr .nil rfl (za (pv 0) (za ze zc))) (zD yQ (zn z9 rfl B.len PySem.boot_len (za (pv 3) zc)) ze)) (za (yl (za (pv 6) (za (cl0 D_end hr .nil rfl (za (pv 1) (za (pv 6) (za (pv 7) zc)))) (za (pv 7) zc)))) zc)))))))
    zy)
   (zf (zw (pv 3)))))),?_⟩
  have s16:=yE
  have s16:=yE
  obtain ⟨xs,hX,hI⟩:=id hP
  have hxl:=hI.len
  rw [List.length_map] at hxl
  have hn6:=hG.n
  refine zk (fun σ H'=>Same H H' /\ ∃ D:Addr,H D = none /\ H' D = some (.lst []) /\ σ = [some (.ref a),some (.ref pa),some (.str (tx l)),some (.ref D),none,none,none,none]) ?_ ?_
  ·repeat (first | rfl' | simp only [yP,zB,zN,yR,yS,zA])
   exact ⟨by omega,fun p hp=>⟨zg hp,p,hp,zd,rfl⟩⟩
  rintro σ H0 ⟨s0,D,hD,hD0,rfl⟩
  refine zk (fun σ H'=>LInv K H D l rs 6 H' /\ ∃ (v4 v5:Option V),σ = [some (.ref a),some (.ref pa),some (.str (tx l)),some (.ref D),v4,v5,none,none]) ?_ ?_
  ·repeat (first | rfl' | simp only [yP,zB,zN,yR,yS,zA])
   refine ⟨⟨_,SqL.of (s0 _ _ hX)⟩,ForEL.by (xs:=xs) (fun i σ H'=>LInv K H D l rs i H' /\ ∃ (v4 v5:Option V),σ = [some (.ref a),some (.ref pa),some (.str (tx l)),some (.ref D),v4,v5,none,none]) ⟨⟨[],[],s0,hD0,by simp only [EnsA],Nat.le_refl _,fun e he=>(nomatch he),fun e he=>(nomatch he)⟩,none,none,rfl⟩ (fun i σ H' _ ⟨⟨_,_,h,_⟩,_⟩=>SqL.of (h _ _ hX)) ?_ ?_⟩
   ·rintro i x σ H1 p hx ⟨hL,v4,v5,rfl⟩ hp
    obtain ⟨r,pr,hri,rfl,hqr⟩:=hI.getR hx
    have hr:=hG.s r (List.mem_of_getElem? hri)
    have hir:=(List.getElem?_eq_some_iff.mp hri).1
    have s1:Same H H1:=by obtain ⟨_,_,h,_⟩:=hL; exact h
    have sp:=zg (o:=.tup [.int (i:Nat),.ref pr]) hp
    have hq:=zm (s1.trans sp) hqr
    repeat (first | rfl' | simp only [yP,zB,zN,yR,yS,zA])
    refine ⟨_,SqT.of zd,rfl,_,_,rfl,_,_,rfl,rfl,_,rfl,?_⟩
    have hL1:LInv K H D l rs i (upd H1 p (.tup [.int (i:Nat),.ref pr])):=by
     obtain ⟨es,acc,a1,a2,a3,a4,a5,a6⟩:=hL
     exact ⟨es,acc,a1.trans sp,sp _ _ a2,a3.same (y0 sp),a4,a5,a6⟩
    generalize upd H1 p (.tup [.int (i:Nat),.ref pr]) = H2 at *
    have hSl:∃ zs,SqL K H2 D zs:=by obtain ⟨es,acc,a1,a2,a3⟩:=hL1; exact ⟨acc,SqL.of a2⟩
    refine xl ((s1.trans sp).seq hS) hB (by omega) fun c hc=>y8 hc (by decide) (by decide) fun z hz=>⟨z,rfl,by decide,xn (fun _=>⟨.inl hSl,_,rfl,_,hq,_,rfl,_,rfl,_,hq,_,rfl,by omega,fun t ht=>⟨by omega,fun S hS'=>⟨by omega,fun p3 hp3=>?_⟩⟩⟩) fun _=>⟨.inl hSl,_,rfl,_,hq,_,rfl,_,rfl,_,hq,_,rfl,by omega,fun t ht=>⟨by omega,fun S hS'=>⟨by omega,fun p3 hp3=>?_⟩⟩⟩⟩
    ·have u1:=zg (o:=.tup [.int (i:Nat),.int 0,.bl false]) ht
     have u2:=zg (o:=.lst [.ref t]) hS'
     have u3:=zg (o:=.tup [.str (tx r.2),.str (tx r.1),.ref S]) hp3
     obtain ⟨acc,b1,b2,b3⟩:=LInv.add (e:=(r.2,r.1,[(((i:Nat):Int),(0:Int),false)])) hD hL1 (u1.trans (u2.trans u3)) zd (Zq (u3 _ _ (u2 _ _ zd)) (u3 _ _ zd)) (u1.free hS') ⟨by show r.2.length <= 60; omega,by show r.1.length <= 60; omega,by show 1 <= 240; decide,hr.2.2.2,hr.2.2.1⟩ (Jx hri)
     exact ⟨acc,b1,by omega,b3⟩
    ·have u1:=zg (o:=.tup [.int (i:Nat),.int 0,.bl true]) ht
     have u2:=zg (o:=.lst [.ref t]) hS'
     have u3:=zg (o:=.tup [.str (tx r.1),.str (tx r.2),.ref S]) hp3
     obtain ⟨acc,b1,b2,b3⟩:=LInv.add (e:=(r.1,r.2,[(((i:Nat):Int),(0:Int),true)])) hD hL1 (u1.trans (u2.trans u3)) zd (Zq (u3 _ _ (u2 _ _ zd)) (u3 _ _ zd)) (u1.free hS') ⟨by show r.1.length <= 60; omega,by show r.2.length <= 60; omega,by show 1 <= 240; decide,hr.2.2.1,hr.2.2.2⟩ (VP hri)
     exact ⟨acc,b1,by omega,b3⟩
   ·rintro σ H' ⟨h,v4,v5,rfl⟩
    obtain ⟨es,acc,a1,a2,a3,a4,a5,a6⟩:=h
    exact ⟨⟨es,acc,a1,a2,a3,by omega,a5,a6⟩,_,_,rfl⟩
  rintro σ H2 ⟨hL,v4,v5,rfl⟩
  refine zk (fun σ H'=>LInv K H D l rs 7 H' /\ ∃ (v4 v5 v6 v7:Option V),σ = [some (.ref a),some (.ref pa),some (.str (tx l)),some (.ref D),v4,v5,v6,v7]) ?_ ?_
  ·have s2:Same H H2:=by obtain ⟨_,_,h,_⟩:=hL; exact h
   have hS2:=s2.seq hS
   repeat (first | rfl' | simp only [yP,zB,zN,yR,yS,zA])
   refine xl hS2 hB (by decide) fun c1 _=>⟨c1,rfl,⟨by decide,by decide⟩,by decide,xn (fun _=>?_) fun _=>?_⟩
   ·refine zk (fun σ H'=>H' = H2 /\ ∃ w:List Nat,w.length <= 3 /\ (∀ x ∈ w,x ∈ l) /\ σ = [some (.ref a),some (.ref pa),some (.str (tx l)),some (.ref D),v4,v5,some (.str (tx w)),none]) ?_ ?_
    ·repeat (first | rfl' | simp only [yP,zB,zN,yR,yS,zA])
     exact xl hS2 hB (by decide) fun c hc=>y8 hc (by decide) (by decide) fun z hz=>qA hz l1 (by omega) (by decide) (by decide) fun w hw mw=>⟨rfl,w,by omega,mw,rfl⟩
    rintro σ H3 ⟨rfl,w,hw3,hmw,rfl⟩
    refine zk (fun σ H'=>Same H3 H' /\ ∃ T:Addr,(H3 T = none /\ ∃ (ss:List Stp) (w':List Nat),LsA K H' T (ss.map dSt) /\ z8 rs w ss = some w' /\ w'.length <= 60 /\ ss.length <= 3) /\ σ = [some (.ref a),some (.ref pa),some (.str (tx l)),some (.ref D),v4,v5,some (.str (tx w)),some (.ref T)]) ?_ ?_
    ·repeat (first | rfl' | simp only [yP,zB,zN,yR,yS,zA])
     rw [Qz]
     repeat (first | rfl' | simp only [yP,zB,zN,yR,yS,zA])
     refine ⟨by decide,by decide,by decide,by decide,fun C hC=>CompR.by (fun i acc H'=>Same H3 H' /\ H' C = some (.lst acc) /\ ∃ cs:List Int,acc = cs.map V.int /\ cs.length = i /\ ∀ z ∈ cs,vd z) ⟨zg hC,zd,[],rfl,rfl,fun z hz=>(nomatch hz)⟩ ?_ ?_⟩
     ·rintro i acc H' hi ⟨hs,hH,cs,rfl,hcl,hcb⟩
      have hi3:i < 3:=hi
      simp only [wq]
      repeat (first | rfl' | simp only [yP,zB,zN,yR,yS,zA])
      refine ⟨xh,xl (hs.seq hS2) hB (by omega) fun c hc=>⟨hH,by rw [List.length_map]; omega,CNx.mk hi ⟨zF hs hC,zd,cs ++ [c],by rw [List.map_append]; rfl,by rw [List.length_append,hcl]; rfl,fun z hz=>?_⟩⟩⟩
      rcases List.mem_append.mp hz with h | h
      ·exact hcb z h
      ·rw [List.mem_singleton.mp h]
       exact hc
     ·rintro acc H' ⟨hs,hH,cs,rfl,hcl,hcb⟩
      have hc3:cs.length = 3:=hcl
      exact Y9 (hP.same (s2.trans hs)).is hG.ok (by omega) (by decide) (SqL.of hH) hcb (by omega) fun T H5 ss w' hTn s' hL' hwk hw' hsl _=>⟨hs.trans s',T,hs.free hTn,⟨ss,hL',w',hwk,hw',by omega⟩,rfl⟩
    rintro σ H4 ⟨s4,T,⟨hTn,ss,w',hT,hwk,hw',hsl⟩,rfl⟩
    obtain ⟨es,acc,a1,a2,a3,a4,a5,a6⟩:=hL
    have hH4:=s4 _ _ a2
    have hal:=a3.len
    repeat (first | rfl' | simp only [yP,zB,zN,yR,yS,zA])
    refine ⟨.inl ⟨_,SqL.of hH4⟩,xl (s4.seq hS2) hB (by decide) fun c8 _=>⟨_,.inl ⟨_,SqL.of hH4,rfl⟩,c8,rfl,by omega,XZ (hP.same (s2.trans s4)).is hG.ok (by omega) hT.is (by omega) hwk ⟨by omega,fun p hp=>?_⟩⟩⟩
    have e0:=Int.emod_nonneg c8 (b:=(acc.length:Int) + 1) (by omega)
    have e1:=Int.emod_lt_of_pos c8 (b:=(acc.length:Int) + 1) (by omega)
    obtain ⟨n,hn⟩:∃ n:Nat,c8 % ((acc.length:Int) + 1) = (n:Nat):=⟨(c8 % ((acc.length:Int) + 1)).toNat,by omega⟩
    rw [hn]
    have u:=zg (o:=.tup [.str (tx w),.str (tx w'),.ref T]) hp
    refine ⟨D,acc,.ref p,n,rfl,rfl,u _ _ hH4,by omega,by omega,es.take n ++ (w,w',ss) :: es.drop n,acc.take n ++ .ref p :: acc.drop n,zF (a1.trans (s4.trans u)) hD,zd,?_,?_,fun x hx=>?_,fun x hx=>?_⟩
    ·have a3':=a3.same ((y0 (s4.trans u)).trans (yM (o:=.lst (acc.take n ++ .ref p :: acc.drop n))))
     have hv:EnA K (uX D (upd H4 p (.tup [.str (tx w),.str (tx w'),.ref T]))) (w,w',ss) (.ref p):=EnA.new (e:=(w,w',ss)) (u _ _ hH4) zd (hT.same u) (fun z=>by rw [z,a2] at hTn; cases hTn)
     exact (EnsA.cons (hv.same yM) (a3'.drop n)).app (a3'.take n)
    ·rw [List.length_append,List.length_cons,List.length_take,List.length_drop]
     omega
    ·rcases List.mem_append.mp hx with hx | hx
     ·exact a5 x (List.mem_of_mem_take hx)
     ·rcases List.mem_cons.mp hx with rfl | hx
      ·exact ⟨by show w.length <= 60; omega,hw',by show ss.length <= 240; omega,hmw,kH hG hmw hwk⟩
      ·exact a5 x (List.mem_of_mem_drop hx)
    ·rcases List.mem_append.mp hx with hx | hx
     ·exact a6 x (List.mem_of_mem_take hx)
     ·rcases List.mem_cons.mp hx with rfl | hx
      ·exact hwk
      ·exact a6 x (List.mem_of_mem_drop hx)
   ·obtain ⟨es,acc,a1,a2,a3,a4,a5,a6⟩:=hL
    first | exact ⟨es,acc,a1,a2,a3,by omega,a5,a6⟩ | exact ⟨⟨es,acc,a1,a2,a3,by omega,a5,a6⟩,rfl⟩
  rintro σ H3 ⟨⟨es,acc,a1,a2,a3,a4,a5,a6⟩,v4,v5,v6,v7,rfl⟩
  repeat (first | rfl' | simp only [yP,zB,zN,yR,yS,zA])
  exact q D es H3 a1 hD ⟨acc,a2,a3.same xU⟩ a4 a5 a6
structure Drw (H:Hp) (k:Int) (l:List Nat) (ws:List Int) (W:Addr):Prop where
 k0:0 <= k
 k3:k < 3
 g:vK l = true
 n:ws.length = l.length
 b:∀ n ∈ ws,1 <= n /\ n <= 1000000
 w:H W = some (.lst (ws.map V.int))
structure zaf (K:PySem.W.Frag) (CF:Addr):Prop where
 s:PySem.W.subIn K (.ref CF) (.ref CF) = some true
def zac (K:PySem.W.Frag) (k:Nat) (l:List Nat) (ns:List Int) (es:List Ent) (H':Hp) (v:V):Prop:=v = .non \/ ∃ (bs:List Ent) (D:Addr),v = .ref D /\ Yg k l ns 20 es (some bs) /\ BG k l ns bs /\ EnsM K H' D bs
def zat (K:PySem.W.Frag) (k:Nat) (l:List Nat) (ns:List Int) (es:List Ent) (H':Hp) (D:Addr):Prop:=∃ bs:List Ent,Yg k l ns 20 es (some bs) /\ BG k l ns bs /\ EnsM K H' D bs
theorem YU {a pa:Addr} {l:List Nat} {ns:List Int} {rs:List zH} {H:Hp} {Q:VK} {E:XK} (h1:SqL K H a (ns.map V.int)) (h2:∀ z ∈ ns,vd z) (h3:LsA K H pa (rs.map dR)) (h4:PG l rs) (h5:1 <= l.length) (h6:l.length <= 6) (q:∀ (D:Addr) (es:List Ent) (H':Hp),Same H H' -> H D = none -> EnsM K H' D es -> es.length <= 7 -> (∀ e ∈ es,EB l e) -> (∀ e ∈ es,EOk rs e) -> Q (.ref D) H'):uc K [.ref a,.ref pa,.str (tx l)] H Q E:=⟨a,pa,l,ns,rs,rfl,h1,h2,h3,h4,h5,h6,q⟩
theorem QX (es:List Ent):wz (es.map dE) <= 10:=qK fun d h=>by
 obtain ⟨r,_,rfl⟩:=List.mem_map.mp h
 have:=Us r.2.2
 simp only [dE,dpD,wz]
 omega
def VH (K:PySem.W.Frag):List V -> Hp -> VK -> Prop:=fun xs H Q=>∃ p ys,xs = [.ref p] /\ (SqL K H p ys \/ SqT K H p ys) /\ ∀ l,H l = none -> Q (.ref l) (upd H l (.lst ys))
def Zr (K:PySem.W.Frag) (T:Addr):Sp:=fun vs H Q _=>∃ (a:Addr) (ns:List Int),vs = [.ref a] /\ SqL K H a (ns.map V.int) /\ (∀ z ∈ ns,vd z) /\ H T = some (.tbl #[]) /\ ∀ H',Q (.bl true) H'
theorem sc_law:zu ["_law_script", "_law_kind", "_law_letters_here", "_law_weights", "_law_pacts", "_law_entries_here", "_law_handed", "_law_found"] ["_law_script"] (zb vL):=⟨rfl,rfl,rfl,by decide +kernel,rfl,by decide +kernel,by decide +kernel⟩
theorem Qu {f CO CR CW TB CF:Addr} {fd:FuncData} (B:Bt mg) (T:QA K mg CF) (TSb:zaf K CF) (F:Fun K "law" "law" vL f fd) (D_draw:Df P w K mg base CX0 3 "_law_draw" ["_law_cell_here"] [] j3) (D_list:Df P w K mg base CX0 4 "_law_list" ["_law_script", "_law_pacts", "_law_letters_here"] [] (uc K)) (D_cell:Df P w K mg base CX0 1 "_law_cell" ["_law_script", "_law_k"] [] (wE K)) (D_pair:Df P w K mg base CX0 2 "_law_pair" ["_law_cell_here", "_law_letters_here", "_law_most"] [] uJ) (D_thinned:Df P w K mg base (CXx P w) 7 "thinned" ["order", "entries"] [] (ky K CO CR CW TB CF)) (D_order:Df P w K mg base CX0 6 "_law_order" ["_law_kind", "_law_letters_here", "_law_weights"] [] (qD K CO CR CW)) (D_entries:Df P w K mg base CX0 3 "_law_entries" ["_law_found"] [] (kG K)) (D_thin:Df P w K mg base CX0 2 "_law_thin" ["_law_found", "_law_kind", "_law_letters_here", "_law_weights"] [] (jf K)) (D_end:Df P w K mg base CX0 2 "_law_end" ["_law_pacts", "_law_word_here", "_law_steps_here"] [] (qf K)):yk P w K mg base CX0 8 f fd ["_law_script"] (Zr K TB):=by
 refine F.ok sc_law (fun vs H Q E h=>?_) (fun cdv A outer s H vs Q E hr h=>?_)
 ·obtain ⟨a,ns,rfl,_⟩:=h
  rfl
 ·obtain ⟨a,ns,rfl,hS,hB,hT,q⟩:=h
  refine ⟨_,(zj (QU (cl0 D_draw hr .nil rfl (za (cl0 D_cell hr .nil rfl (za (pv 0) (za ze zc))) zc)) (ud (n:=3) rfl (zZ (zx (i:=1) sc_law.nd rfl (Or.inl rfl)) (zZ (zx (i:=2) sc_law.nd rfl (Or.inr rfl)) (zZ (zx (i:=3) sc_law.nd rfl (Or.inl rfl)) wI)))))
   (zj (zv (i:=4) sc_law.nd rfl (Or.inr rfl) (yF (own:=["_law_k"]) (caps:=["_law_script", "_law_letters_here"]) (ix:=[0,2]) (tt:=wq) (te:=(u8 uJ [] E0 (zV (u8 (wE K) [] E0 (zV (yN 1) (zV (tOp WK (tC (.int 2)) (yN 0)) wB))) (zV (yN 2) (zV (tC (.int 3)) wB))))) rfl (zR (sc:=zb vL) rfl (by decide +kernel) (by decide +kernel) (by decide +kernel) rfl (by decide +kernel) (by decide +kernel) rfl) (xC rfl B.range (za (zD yQ ze (zD xm (cl0 D_cell hr .nil rfl (za (pv 0) (za ze zc))) ze)) zc)) (fun _ _ _ _ _ _=>zx (i:=0) (show List.Nodup [_,_,_] by decide) rfl (Or.inl rfl)) (fun _ _ _ _ _ _=>yy) (fun _ _ _ _ _ _=>(cl0 D_pair hr .nil rfl (za (cl0 D_cell hr .nil rfl (za (pv 1) (za (zD yQ ze (pv 0)) zc))) (za (pv 2) (za ze zc)))))))
   (zj (zv (i:=5) sc_law.nd rfl (Or.inl rfl) (cl0 D_list hr .nil rfl (za (pv 0) (za (pv 4) (za (pv 2) zc)))))
   (zj (uf (i:=6) sc_law.nd rfl (Or.inl rfl) (Or.inl rfl) (own:=["_law_entry"]) (caps:=[]) (ix:=[]) (tt:=wq) (te:=(UK (zV (tOp (uA K) (yN 0) (tC (.int 0))) (zV (tOp (uA K) (yN 0) (tC (.int 1))) (zV (tCB (VH K) (zV (tOp (uA K) (yN 0) (tC (.int 2))) wB)) wB))))) rfl (zR (sc:=zb vL) rfl (by decide +kernel) (by decide +kernel) (by decide +kernel) rfl (by decide +kernel) (by decide +kernel) rfl) (yG (pv 5)) (fun _ _ _ _ _ _=>zx (i:=0) (show List.Nodup [_] by decide) rfl (Or.inl rfl)) (fun _ _ _ _ _ _=>yy) (fun _ _ _ _ _ _=>(yl (za (zt ix_tup (pv 0) ze (fun _ _=>rfl)) (za (zt ix_tup (pv 0) ze (fun _ _=>rfl)) (za (wZ vH rfl B.list PySem.Pv.boot_list (za (zt ix_tup (pv 0) ze (fun _ _=>rfl)) zc)) zc))))))
   (zj (WU (i:=7) (th:=(JC (tC .non) (xR 7))) sc_law.nd rfl (Or.inl rfl) (.inl rfl) ⟨rfl,rfl⟩ (clX D_thinned hr .nil rfl (za (cl0 D_order hr .nil rfl (za (pv 1) (za (pv 2) (za (pv 3) zc)))) (za (pv 6) zc))) rfl T.g T.xi.ok (fun e=>(zf (zv (i:=7) sc_law.nd rfl (Or.inl rfl) wv))))
   (zj (zW (zC (Q8 (uV hr)) (pv 6) (pv 5) (zJ _))
    (zf (zw xb))
    zy)
   (zj (zW (zC op_isN' (pv 7) wv (zJ _))
    (zf (zw xb))
    zy)
   (zj (zW (PW.pt (uI (ym (xV (cl0 D_entries hr .nil rfl (za (pv 7) zc)) (fun _=>rfl))) (vI (ym (xV (cl0 D_thin hr .nil rfl (za (pv 7) (za (pv 1) (za (pv 2) (za (pv 3) zc))))) (fun _=>rfl))))))
    (zf (zw xb))
    zy)
   (zf (zw (zn (Kc rfl) rfl B.all PyProof.Rows.boot_all (za (yF (own:=["_law_entry"]) (caps:=["_law_pacts"]) (ix:=[4]) (tt:=wq) (te:=(tOp rEq (u8 (qf K) [] E0 (zV (yN 1) (zV (tOp (uA K) (yN 0) (tC (.int 0))) (zV (tOp (uA K) (yN 0) (tC (.int 2))) wB)))) (tOp (uA K) (yN 0) (tC (.int 1))))) rfl (zR (sc:=zb vL) rfl (by decide +kernel) (by decide +kernel) (by decide +kernel) rfl (by decide +kernel) (by decide +kernel) rfl) (yG (pv 7)) (fun _ _ _ _ _ _=>zx (i:=0) (show List.Nodup [_,_] by decide) rfl (Or.inl rfl)) (fun _ _ _ _ _ _=>yy) (fun _ _ _ _ _ _=>(jk uY (cl0 D_end hr .nil rfl (za (pv 1) (za (zt ix_tup (pv 0) ze (fun _ _=>rfl)) (za (zt ix_tup (pv 0) ze (fun _ _=>rfl)) zc)))) (zt ix_tup (pv 0) ze (fun _ _=>rfl)) (zJ _)))) zc)))))))))))),?_⟩
  have s16:=yE
  have s16:=yE
  have hTab:TabOk H TB lp lq:=⟨#[],hT,trivial,.inl rfl⟩
  refine zk (fun σ H'=>Same H H' /\ ∃ (k:Int) (l:List Nat) (W:Addr),(∃ ws,Drw H' k l ws W) /\ σ = [some (.ref a),some (.int k),some (.str (tx l)),some (.ref W),none,none,none,none]) ?_ ?_
  ·rfl'
   refine xl hS hB (by decide) fun c hc=>⟨c,rfl,hc,fun k l ws p W H' a1 a2 a3 a4 a5 s' hp hW=>?_⟩
   exact ⟨p,rfl,_,SqT.of hp,rfl,_,_,rfl,_,_,rfl,_,_,rfl,rfl,s',k,l,W,⟨ws,a1,a2,a3,a4,a5,hW⟩,rfl,rfl,rfl⟩
  rintro σ H1 ⟨s1,k,l,W,⟨ws,hw⟩,rfl⟩
  obtain ⟨l1,l6,lsm,lnd⟩:=of_decide_eq_true hw.g
  have hS1:=s1.seq hS
  refine zk (fun σ H'=>Same H1 H' /\ ∃ pa:Addr,(∃ rs,LsA K H' pa (rs.map dR) /\ PG l rs) /\ σ = [some (.ref a),some (.int k),some (.str (tx l)),some (.ref W),some (.ref pa),none,none,none]) ?_ ?_
  ·rfl'
   refine xl hS1 hB (by decide) fun c2 _=>?_
   have e0:=Int.emod_nonneg c2 (b:=6) (by decide)
   have e1:=Int.emod_lt_of_pos c2 (b:=6) (by decide)
   refine ⟨c2,rfl,by decide,by omega,by omega,fun D hD=>CompR.by (fun i acc H'=>Same H1 H' /\ H' D = some (.lst acc) /\ ∃ rs:List zH,Iss K H' (rs.map dR) acc /\ rs.length = i /\ ∀ r ∈ rs,r.1.length <= 3 /\ r.2.length <= 3 /\ (∀ x ∈ r.1,x ∈ l) /\ ∀ x ∈ r.2,x ∈ l) ⟨zg hD,zd,[],by simp only [List.map_nil,Iss],rfl,fun r h=>(nomatch h)⟩ ?_ ?_⟩
   ·rintro i acc H' hi ⟨hs,hH,rs,hI,hrl,hrb⟩
    have hal:=hI.len
    rw [List.length_map] at hal
    have hi4:i < 6:=by omega
    simp only [wq]
    rfl'
    refine ⟨xh,xl (hs.seq hS1) hB (by omega) fun c3 hc3=>Wr hc3 (by omega) (by omega) (by decide) (by decide) fun o n p ho hn mo mn hp=>⟨zg hp _ _ hH,by omega,CNx.mk hi ⟨zF (hs.trans (zg hp)) hD,zd,rs ++ [(o,n)],?_,by rw [List.length_append,hrl]; rfl,fun r hr'=>?_⟩⟩⟩
    ·rw [List.map_append]
     exact ub hH hI hp QZ (Zp rs) (by simp only [zY,xB,and_self])
    ·rcases List.mem_append.mp hr' with h | h
     ·exact hrb r h
     ·rw [List.mem_singleton.mp h]
      exact ⟨by show o.length <= 3; omega,by show n.length <= 3; omega,mo,mn⟩
   ·rintro acc H' ⟨hs,hH,rs,hI,hrl,hrb⟩
    exact ⟨hs,D,⟨rs,⟨acc,hH,hI⟩,by omega,hrb⟩,rfl⟩
  rintro σ H2 ⟨s2,pa,⟨rs,hP,hPG⟩,rfl⟩
  refine zk (fun σ H'=>Same H2 H' /\ ∃ M:Addr,(∃ es,EnsM K H' M es /\ es.length <= 7 /\ (∀ e ∈ es,EB l e) /\ ∀ e ∈ es,EOk rs e) /\ σ = [some (.ref a),some (.int k),some (.str (tx l)),some (.ref W),some (.ref pa),some (.ref M),none,none]) ?_ ?_
  ·rfl'
   exact YU (s2.seq hS1) hB hP hPG l1 l6 fun D es H' s' _ hM h7 hb hk=>⟨s',D,⟨es,hM,h7,hb,hk⟩,rfl⟩
  rintro σ H3 ⟨s3,M,⟨es,hM,h7,hEB,hOk⟩,rfl⟩
  refine zk (fun σ H'=>Same H3 H' /\ ∃ hd:Addr,EnsM K H' hd es /\ σ = [some (.ref a),some (.int k),some (.str (tx l)),some (.ref W),some (.ref pa),some (.ref M),some (.ref hd),none]) ?_ ?_
  ·rfl'
   obtain ⟨xs2,hX2,hI2⟩:=id hM
   have hxl2:=hI2.len
   refine ⟨⟨_,SqL.of hX2⟩,fun D hD=>CompL.by (xs:=xs2) (fun i acc H'=>Same H3 H' /\ H' D = some (.lst acc) /\ EnsA K (uX D H') (es.take i) acc) ⟨zg hD,zd,by simp only [List.take_zero,EnsA]⟩ (fun i acc H' _ h=>SqL.of (h.1 _ _ hX2)) ?_ ?_⟩
   ·rintro i x acc H' hx ⟨hs,hH,hA⟩
    have hi:=(List.getElem?_eq_some_iff.mp hx).1
    obtain ⟨e,pe,se,hei,rfl,hqe,hse⟩:=hI2.get hx
    have hq2:=zm hs hqe
    obtain ⟨zs,hZ,hZI⟩:=hse.same hs
    have hal:=hA.len
    rw [List.length_take] at hal
    simp only [wq]
    rfl'
    simp only [VH]
    rfl'
    refine ⟨xh,_,hq2,_,rfl,_,hq2,_,rfl,_,hq2,_,rfl,_,rfl,zs,.inl (SqL.of hZ),fun c hc=>⟨by omega,fun p1 hp1=>?_⟩⟩
    have sc:=zg (o:=.lst zs) hc
    have sp1:=zg (o:=.tup [.str (tx e.1),.str (tx e.2.1),.ref c]) hp1
    have hcD:c ≠ D:=fun z=>by rw [z,hH] at hc; cases hc
    refine ⟨sp1 _ _ (sc _ _ hH),by omega,CNx.mk hi ⟨zF (hs.trans (sc.trans sp1)) hD,zd,?_⟩⟩
    rw [z6 hei]
    refine (hA.same ((y0 (sc.trans sp1)).trans yM)).snoc (EnA.same ?_ yM)
    exact EnA.new (sp1 _ _ (sc _ _ hH)) zd ⟨zs,sp1 _ _ zd,Iss.same (sc.trans sp1) _ _ hZI⟩ hcD
   ·rintro acc H' ⟨hs,hH,hA⟩
    rw [hxl2,List.take_length] at hA
    exact ⟨hs,D,⟨acc,hH,hA.same xU⟩,rfl⟩
  rintro σ H4 ⟨s4,hd,hHd,rfl⟩
  have s14:=s2.trans (s3.trans s4)
  have hG:OG l ws k.toNat:=⟨hw.g,by have:=hw.k0; have:=hw.k3; omega,hw.n,hw.b⟩
  refine zk (fun σ H'=>SamT TB H4 H' /\ ∃ v:V,zac K k.toNat l ws es H' v /\ σ = [some (.ref a),some (.int k),some (.str (tx l)),some (.ref W),some (.ref pa),some (.ref M),some (.ref hd),some (v)]) ?_ ?_
  ·simp only [Vp]
   repeat (first | rfl' | simp only [yP,zB,zN,yR,yS,zA])
   refine ⟨k,l,W,ws,rfl,hw.k0,hw.k3,hw.g,s14 _ _ hw.w,hw.n,hw.b,fun o H6 s6 ho=>?_⟩
   exact ⟨o,hd,k.toNat,l,ws,es,rfl,ho,hG,(hHd.same s6).l,by omega,hEB,hTab.same (s1.trans (s14.trans s6)),fun bs D H7 hth hB s7 _ hM=>⟨(SamT.of s6).trans s7,.inr ⟨bs,D,rfl,hth,hB,hM⟩⟩,fun _ H7 s7 _=>⟨CF,rfl,TSb.s,fun x hx=>⟨(SamT.of s6).trans (s7.trans (SamT.of (zg hx))),.inl rfl⟩⟩⟩
  rintro σ H5 ⟨s5,v,hv,rfl⟩
  obtain ⟨ps4,hps4,_⟩:=id (hTab.same (s1.trans s14))
  refine zk (fun σ H'=>H' = H5 /\ σ = [some (.ref a),some (.int k),some (.str (tx l)),some (.ref W),some (.ref pa),some (.ref M),some (.ref hd),some (v)]) ?_ ?_
  ·rfl'
   have hm1:EnsL K H5 hd es:=by obtain ⟨xs,h1,h2⟩:=hHd; exact ⟨xs,SqL.of (s5.at hps4 h1 fun _ z=>by cases z),EnsA.samT s5 hps4 h2⟩
   have hm2:EnsL K H5 M es:=by obtain ⟨xs,h1,h2⟩:=hM.same s4; exact ⟨xs,SqL.of (s5.at hps4 h1 fun _ z=>by cases z),EnsA.samT s5 hps4 h2⟩
   refine U5 (.inl ⟨hm1.is,hm2.is⟩) (Nat.lt_of_le_of_lt (QX _) (by decide)) ?_
   rw [wT]
   exact ⟨false,rfl,by rw [if_neg (by decide)]⟩
  rintro σ H6 ⟨rfl,rfl⟩
  refine zk (fun σ H'=>H' = H6 /\ ∃ (D:Addr),zat K k.toNat l ws es H6 D /\ σ = [some (.ref a),some (.int k),some (.str (tx l)),some (.ref W),some (.ref pa),some (.ref M),some (.ref hd),some (.ref D)]) ?_ ?_
  ·rfl'
   rcases hv with rfl | ⟨bs,D,rfl,h1,h2,h3⟩
   ·exact xn (fun _=>q _) fun h=>absurd rfl h
   ·exact xn (fun h=>by cases h) fun _=>by first | exact ⟨D,⟨bs,h1,h2,h3⟩,rfl⟩ | exact ⟨bs,h1,h2,h3⟩ | exact ⟨rfl,bs,h1,h2,h3⟩
  rintro σ H7 ⟨rfl,D,⟨bs,hth,hB2,hM2⟩,rfl⟩
  obtain ⟨hAll,zs,hzt,hzp⟩:=Wc (rs:=rs) hG hth bs rfl hEB hOk
  have hThin:=hzt.pairs hzp hB2.e
  refine zk (fun σ H'=>Same H7 H' /\ σ = [some (.ref a),some (.int k),some (.str (tx l)),some (.ref W),some (.ref pa),some (.ref M),some (.ref hd),some (.ref D)]) ?_ ?_
  ·rfl'
   refine ⟨D,bs,rfl,hM2.l.is,true,rfl,?_⟩
   rw [if_neg (by decide)]
   refine ⟨D,W,k,l,ws,bs,rfl,hw.k0,hw.k3,hw.g,s5.at hps4 (s14 _ _ hw.w) (fun _ z=>by cases z),hw.n,hw.b,hM2.l,hThin,fun H' s'=>⟨true,rfl,?_⟩⟩
   rw [if_neg (by decide)]
   exact s'
  rintro σ H8 ⟨s8,rfl⟩
  obtain ⟨xs2,hX2,hI2⟩:=hM2.same s8
  have hxl2:=hI2.len
  have hbn:=hB2.n
  have hP8:LsA K H8 pa (rs.map dR):=(LsA.samT (hP.same (s3.trans s4)) s5 hps4).same s8
  rfl'
  refine ⟨⟨_,SqL.of hX2⟩,fun J hJ=>CompL.by (xs:=xs2) (fun i acc H'=>Same H8 H' /\ H' J = some (.lst acc) /\ acc = (List.replicate i true).map V.bl) ⟨zg hJ,zd,rfl⟩ (fun i acc H' _ h=>SqL.of (h.1 _ _ hX2)) ?_ ?_⟩
  ·rintro i x acc H' hx ⟨hs,hH,rfl⟩
   have hi:=(List.getElem?_eq_some_iff.mp hx).1
   obtain ⟨e,pe,se,hei,rfl,hqe,hse⟩:=hI2.get hx
   have hEe:=hB2.e e (List.mem_of_getElem? hei)
   have hok:=hAll e (List.mem_of_getElem? hei)
   have hq2:=zm hs hqe
   simp only [wq]
   rfl'
   refine ⟨xh,_,hq2,_,rfl,_,hq2,_,rfl,XZ (hP8.same hs).is hPG.ok (by have:=hEe.a; omega) (hse.same hs).is (by have:=hEe.s; omega) hok ⟨_,hq2,_,rfl,rfl,hH,by rw [List.length_map,List.length_replicate]; omega,CNx.mk hi ⟨zF hs hJ,zd,?_⟩⟩⟩
   rw [List.replicate_succ',List.map_append]
   simp
  ·rintro acc H' ⟨hs,hH,rfl⟩
   refine ⟨J,List.replicate xs2.length true,rfl,SqL.of hH,?_⟩
   have e:(List.replicate xs2.length true).all id = true:=by simp
   rw [e]
   exact q _
end
theorem XY {us:List Value} (h:us.length = 1):∃ a,us = [a]:=List.length_eq_one_iff.mp h
theorem jb {us:List Value} (h:us.length = 2):∃ a0 a1,us = [a0,a1]:=by
 cases us with
 | nil=>cases h
 | cons a r =>
  obtain ⟨a1,rfl⟩:=XY (Nat.succ.inj h)
  exact ⟨a,a1,rfl⟩
theorem Z7 {us:List Value} (h:us.length = 3):∃ a0 a1 a2,us = [a0,a1,a2]:=by
 cases us with
 | nil=>cases h
 | cons a r =>
  obtain ⟨a1,a2,rfl⟩:=jb (Nat.succ.inj h)
  exact ⟨a,a1,a2,rfl⟩
theorem Qj {us:List Value} (h:us.length = 4):∃ a0 a1 a2 a3,us = [a0,a1,a2,a3]:=by
 cases us with
 | nil=>cases h
 | cons a r =>
  obtain ⟨a1,a2,a3,rfl⟩:=Z7 (Nat.succ.inj h)
  exact ⟨a,a1,a2,a3,rfl⟩
theorem zab {us:List Value} (h:us.length = 5):∃ a0 a1 a2 a3 a4,us = [a0,a1,a2,a3,a4]:=by
 cases us with
 | nil=>cases h
 | cons a r =>
  obtain ⟨a1,a2,a3,a4,rfl⟩:=Qj (Nat.succ.inj h)
  exact ⟨a,a1,a2,a3,a4,rfl⟩
theorem zaB {us:List Value} (h:us.length = 6):∃ a0 a1 a2 a3 a4 a5,us = [a0,a1,a2,a3,a4,a5]:=by
 cases us with
 | nil=>cases h
 | cons a r =>
  obtain ⟨a1,a2,a3,a4,a5,rfl⟩:=zab (Nat.succ.inj h)
  exact ⟨a,a1,a2,a3,a4,a5,rfl⟩
theorem zaD {us:List Value} (h:us.length = 7):∃ a0 a1 a2 a3 a4 a5 a6,us = [a0,a1,a2,a3,a4,a5,a6]:=by
 cases us with
 | nil=>cases h
 | cons a r =>
  obtain ⟨a1,a2,a3,a4,a5,a6,rfl⟩:=zaB (Nat.succ.inj h)
  exact ⟨a,a1,a2,a3,a4,a5,a6,rfl⟩
theorem all_mk {l:PySem.W.OpenLaw} {w:World} {K:PySem.W.Frag} {h:Heap} {mg:Str -> Option Value} {fa f0 f1 f2 f3 f4 f5 f6 f7 f8 f9 f10 f11 f12 f13 f14 f15 f16 f17 f18 f19 f20 f21 f22 f23 f24 f25 f26 f27 f28 f29 f30 f31 f32 f33 f34 c_LetterError c_NoLetters c_NoOrder c_Order c_FromRight c_ByWeights c_NoUse c_TooFar:Addr} {cc TB:Addr} (X:K.In h) (G:h.Ns mainGlobals mg) (hfa:mg "law" = some (.ref fa)) (hlam:∃ a o fd,mg "in_order" = some (.ref a) /\ h.get? a = some o /\ o.data = .func fd /\ fd.code = .ref cc) (hgT:mainGlobals ≠ TB)
  {od0 an0:Option Addr} {sl0:Array (Option Value)} {oc0 kV0 dc0 pm0 cd0 ct0:Value}
  {od1 an1:Option Addr} {sl1:Array (Option Value)} {oc1 kV1 dc1 pm1 cd1 ct1:Value}
  {od2 an2:Option Addr} {sl2:Array (Option Value)} {oc2 kV2 dc2 pm2 cd2 ct2:Value}
  {od3 an3:Option Addr} {sl3:Array (Option Value)} {oc3 kV3 dc3 pm3 cd3 ct3:Value}
  {od4 an4:Option Addr} {sl4:Array (Option Value)} {oc4 kV4 dc4 pm4 cd4 ct4:Value}
  {od5 an5:Option Addr} {sl5:Array (Option Value)} {oc5 kV5 dc5 pm5 cd5 ct5:Value}
  {od6 an6:Option Addr} {sl6:Array (Option Value)} {oc6 kV6 dc6 pm6 cd6 ct6:Value}
  {od7 an7:Option Addr} {sl7:Array (Option Value)} {oc7 kV7 dc7 pm7 cd7 ct7:Value}
  {od8 an8:Option Addr} {sl8:Array (Option Value)} {oc8 kV8 dc8 pm8 cd8 ct8:Value}
  {od9 an9:Option Addr} {sl9:Array (Option Value)} {oc9 kV9 dc9 pm9 cd9 ct9:Value}
  {od10 an10:Option Addr} {sl10:Array (Option Value)} {oc10 kV10 dc10 pm10 cd10 ct10:Value}
  {od11 an11:Option Addr} {sl11:Array (Option Value)} {oc11 kV11 dc11 pm11 cd11 ct11:Value}
  {od12 an12:Option Addr} {sl12:Array (Option Value)} {oc12 kV12 dc12 pm12 cd12 ct12:Value}
  {od13 an13:Option Addr} {sl13:Array (Option Value)} {oc13 kV13 dc13 pm13 cd13 ct13:Value}
  {od14 an14:Option Addr} {sl14:Array (Option Value)} {oc14 kV14 dc14 pm14 cd14 ct14:Value}
  {od15 an15:Option Addr} {sl15:Array (Option Value)} {oc15 kV15 dc15 pm15 cd15 ct15:Value}
  {od16 an16:Option Addr} {yE:Array (Option Value)} {oc16 kV16 dc16 pm16 cd16 ct16:Value}
  {od17 an17:Option Addr} {sl17:Array (Option Value)} {oc17 kV17 dc17 pm17 cd17 ct17:Value}
  {od18 an18:Option Addr} {sl18:Array (Option Value)} {oc18 kV18 dc18 pm18 cd18 ct18:Value}
  {od19 an19:Option Addr} {sl19:Array (Option Value)} {oc19 kV19 dc19 pm19 cd19 ct19:Value}
  {od20 an20:Option Addr} {sl20:Array (Option Value)} {oc20 kV20 dc20 pm20 cd20 ct20:Value}
  {od21 an21:Option Addr} {sl21:Array (Option Value)} {oc21 kV21 dc21 pm21 cd21 ct21:Value}
  {od22 an22:Option Addr} {sl22:Array (Option Value)} {oc22 kV22 dc22 pm22 cd22 ct22:Value}
  {od23 an23:Option Addr} {sl23:Array (Option Value)} {oc23 kV23 dc23 pm23 cd23 ct23:Value}
  {od24 an24:Option Addr} {sl24:Array (Option Value)} {oc24 kV24 dc24 pm24 cd24 ct24:Value}
  {od25 an25:Option Addr} {sl25:Array (Option Value)} {oc25 kV25 dc25 pm25 cd25 ct25:Value}
  {od26 an26:Option Addr} {sl26:Array (Option Value)} {oc26 kV26 dc26 pm26 cd26 ct26:Value}
  {od27 an27:Option Addr} {sl27:Array (Option Value)} {oc27 kV27 dc27 pm27 cd27 ct27:Value}
  {od28 an28:Option Addr} {sl28:Array (Option Value)} {oc28 kV28 dc28 pm28 cd28 ct28:Value}
  {od29 an29:Option Addr} {sl29:Array (Option Value)} {oc29 kV29 dc29 pm29 cd29 ct29:Value}
  {od30 an30:Option Addr} {sl30:Array (Option Value)} {oc30 kV30 dc30 pm30 cd30 ct30:Value}
  {od31 an31:Option Addr} {sl31:Array (Option Value)} {oc31 kV31 dc31 pm31 cd31 ct31:Value}
  {od32 an32:Option Addr} {sl32:Array (Option Value)} {oc32 kV32 dc32 pm32 cd32 ct32:Value}
  {od33 an33:Option Addr} {sl33:Array (Option Value)} {oc33 kV33 dc33 pm33 cd33 ct33:Value}
  {od34 an34:Option Addr} {sl34:Array (Option Value)} {oc34 kV34 dc34 pm34 cd34 ct34:Value}
  {t6 t7:Tok}
  {t8:Tok}
  {fU:Addr}
  {odU anU:Option Addr}
  {slU:Array (Option Value)}
  {ocU kVU dcU pmU cdU ctU:Value}
  {tmu tms tmd tmp:Tok}
  {fm_order_init:Addr}
  {od_order_init an_order_init:Option Addr}
  {sl_order_init:Array (Option Value)}
  {oc_order_init kV_order_init dc_order_init pm_order_init cd_order_init ct_order_init:Value}
  {fm_order_weight:Addr}
  {od_order_weight an_order_weight:Option Addr}
  {sl_order_weight:Array (Option Value)}
  {oc_order_weight kV_order_weight dc_order_weight pm_order_weight cd_order_weight ct_order_weight:Value}
  {fm_order_seen:Addr}
  {od_order_seen an_order_seen:Option Addr}
  {sl_order_seen:Array (Option Value)}
  {oc_order_seen kV_order_seen dc_order_seen pm_order_seen cd_order_seen ct_order_seen:Value}
  {fm_fromright_seen:Addr}
  {od_fromright_seen an_fromright_seen:Option Addr}
  {sl_fromright_seen:Array (Option Value)}
  {oc_fromright_seen kV_fromright_seen dc_fromright_seen pm_fromright_seen cd_fromright_seen ct_fromright_seen:Value}
  {fm_byweights_init:Addr}
  {od_byweights_init an_byweights_init:Option Addr}
  {sl_byweights_init:Array (Option Value)}
  {oc_byweights_init kV_byweights_init dc_byweights_init pm_byweights_init cd_byweights_init ct_byweights_init:Value}
  {fm_byweights_weight:Addr}
  {od_byweights_weight an_byweights_weight:Option Addr}
  {sl_byweights_weight:Array (Option Value)}
  {oc_byweights_weight kV_byweights_weight dc_byweights_weight pm_byweights_weight cd_byweights_weight ct_byweights_weight:Value}
  {fm_order_rank:Addr}
  {od_order_rank an_order_rank:Option Addr}
  {sl_order_rank:Array (Option Value)}
  {oc_order_rank kV_order_rank dc_order_rank pm_order_rank cd_order_rank ct_order_rank:Value}
  {fm_order_before:Addr}
  {od_order_before an_order_before:Option Addr}
  {sl_order_before:Array (Option Value)}
  {oc_order_before kV_order_before dc_order_before pm_order_before cd_order_before ct_order_before:Value}
  {dv_gone:Addr}
  {dt_gone:Tok}
  {d1_gone:Value}
  {d2_gone:Option Addr}
  {d3_gone:Nat}
  {d4_gone:Array (Option Value)}
  (a0:PySem.W.nsIn K mainGlobals "is_small_letter" = some (some (.ref f0))) (l0:K.lookup f0 = some ⟨oc0,od0,.func (PySem.W.fnOf "is_small_letter" "is_small_letter" (zr zP) (zo zP) (zb zP) .none kV0 dc0 pm0 an0 cd0 ct0),sl0⟩) (k0:PySem.W.codeIn K cd0 "is_small_letter" = true) (p0:PySem.W.keepIn K (.ref f0) = true)
  (a1:PySem.W.nsIn K mainGlobals "letters_of" = some (some (.ref f1))) (l1:K.lookup f1 = some ⟨oc1,od1,.func (PySem.W.fnOf "letters_of" "letters_of" (zr yw) (zo yw) (zb yw) .none kV1 dc1 pm1 an1 cd1 ct1),sl1⟩) (k1:PySem.W.codeIn K cd1 "letters_of" = true) (p1:PySem.W.keepIn K (.ref f1) = true)
  (a2:PySem.W.nsIn K mainGlobals "stands_at" = some (some (.ref f2))) (l2:K.lookup f2 = some ⟨oc2,od2,.func (PySem.W.fnOf "stands_at" "stands_at" (zr yI) (zo yI) (zb yI) .none kV2 dc2 pm2 an2 cd2 ct2),sl2⟩) (k2:PySem.W.codeIn K cd2 "stands_at" = true) (p2:PySem.W.keepIn K (.ref f2) = true)
  (a3:PySem.W.nsIn K mainGlobals "put" = some (some (.ref f3))) (l3:K.lookup f3 = some ⟨oc3,od3,.func (PySem.W.fnOf "put" "put" (zr ZJ) (zo ZJ) (zb ZJ) .none kV3 dc3 pm3 an3 cd3 ct3),sl3⟩) (k3:PySem.W.codeIn K cd3 "put" = true) (p3:PySem.W.keepIn K (.ref f3) = true)
  (a4:PySem.W.nsIn K mainGlobals "first_within" = some (some (.ref f4))) (l4:K.lookup f4 = some ⟨oc4,od4,.func (PySem.W.fnOf "first_within" "first_within" (zr yc) (zo yc) (zb yc) .none kV4 dc4 pm4 an4 cd4 ct4),sl4⟩) (k4:PySem.W.codeIn K cd4 "first_within" = true) (p4:PySem.W.keepIn K (.ref f4) = true)
  (a5:PySem.W.nsIn K mainGlobals "first_from" = some (some (.ref f5))) (l5:K.lookup f5 = some ⟨oc5,od5,.func (PySem.W.fnOf "first_from" "first_from" (zr yo) (zo yo) (zb yo) .none kV5 dc5 pm5 an5 cd5 ct5),sl5⟩) (k5:PySem.W.codeIn K cd5 "first_from" = true) (p5:PySem.W.keepIn K (.ref f5) = true)
  (a6:PySem.W.nsIn K mainGlobals "gone" = some (some (.ref f6))) (l6:K.lookup f6 = some ⟨oc6,od6,.func (PySem.W.fnOf "gone" "gone" (zr wm) (zo wm) (zb wm) (.ref dv_gone) kV6 dc6 pm6 an6 cd6 ct6),sl6⟩) (k6:PySem.W.codeIn K cd6 "gone" = true) (p6:PySem.W.keepIn K (.ref f6) = true)
  (a7:PySem.W.nsIn K mainGlobals "back" = some (some (.ref f7))) (l7:K.lookup f7 = some ⟨oc7,od7,.func (PySem.W.fnOf "back" "back" (zr uw) (zo uw) (zb uw) .none kV7 dc7 pm7 an7 cd7 ct7),sl7⟩) (k7:PySem.W.codeIn K cd7 "back" = true) (p7:PySem.W.keepIn K (.ref f7) = true)
  (a8:PySem.W.nsIn K mainGlobals "moved" = some (some (.ref f8))) (l8:K.lookup f8 = some ⟨oc8,od8,.func (PySem.W.fnOf "moved" "moved" (zr wx) (zo wx) (zb wx) .none kV8 dc8 pm8 an8 cd8 ct8),sl8⟩) (k8:PySem.W.codeIn K cd8 "moved" = true) (p8:PySem.W.keepIn K (.ref f8) = true)
  (a9:PySem.W.nsIn K mainGlobals "by_pacts" = some (some (.ref f9))) (l9:K.lookup f9 = some ⟨oc9,od9,.func (PySem.W.fnOf "by_pacts" "by_pacts" (zr yW) (zo yW) (zb yW) .none kV9 dc9 pm9 an9 cd9 ct9),sl9⟩) (k9:PySem.W.codeIn K cd9 "by_pacts" = true) (p9:PySem.W.keepIn K (.ref f9) = true)
  (a10:PySem.W.nsIn K mainGlobals "pairs_of" = some (some (.ref f10))) (l10:K.lookup f10 = some ⟨oc10,od10,.func (PySem.W.fnOf "pairs_of" "pairs_of" (zr yJ) (zo yJ) (zb yJ) .none kV10 dc10 pm10 an10 cd10 ct10),sl10⟩) (k10:PySem.W.codeIn K cd10 "pairs_of" = true) (p10:PySem.W.keepIn K (.ref f10) = true)
  (a11:PySem.W.nsIn K mainGlobals "as_rule" = some (some (.ref f11))) (l11:K.lookup f11 = some ⟨oc11,od11,.func (PySem.W.fnOf "as_rule" "as_rule" (zr xG) (zo xG) (zb xG) .none kV11 dc11 pm11 an11 cd11 ct11),sl11⟩) (k11:PySem.W.codeIn K cd11 "as_rule" = true) (p11:PySem.W.keepIn K (.ref f11) = true)
  (a12:PySem.W.nsIn K mainGlobals "in_order" = some (some (.ref f12))) (l12:K.lookup f12 = some ⟨oc12,od12,.func (PySem.W.fnOf "in_order" "in_order" (zr yu) (zo yu) (zb yu) .none kV12 dc12 pm12 an12 cd12 ct12),sl12⟩) (k12:PySem.W.codeIn K cd12 "in_order" = true) (p12:PySem.W.keepIn K (.ref f12) = true)
  (a13:PySem.W.nsIn K mainGlobals "brought_down" = some (some (.ref f13))) (l13:K.lookup f13 = some ⟨oc13,od13,.func (PySem.W.fnOf "brought_down" "brought_down" (zr ya) (zo ya) (zb ya) .none kV13 dc13 pm13 an13 cd13 ct13),sl13⟩) (k13:PySem.W.codeIn K cd13 "brought_down" = true) (p13:PySem.W.keepIn K (.ref f13) = true)
  (a14:PySem.W.nsIn K mainGlobals "refuse_beyond" = some (some (.ref f14))) (l14:K.lookup f14 = some ⟨oc14,od14,.func (PySem.W.fnOf "refuse_beyond" "refuse_beyond" (zr zX) (zo zX) (zb zX) .none kV14 dc14 pm14 an14 cd14 ct14),sl14⟩) (k14:PySem.W.codeIn K cd14 "refuse_beyond" = true) (p14:PySem.W.keepIn K (.ref f14) = true)
  (a15:PySem.W.nsIn K mainGlobals "built_anew" = some (some (.ref f15))) (l15:K.lookup f15 = some ⟨oc15,od15,.func (PySem.W.fnOf "built_anew" "built_anew" (zr yv) (zo yv) (zb yv) .none kV15 dc15 pm15 an15 cd15 ct15),sl15⟩) (k15:PySem.W.codeIn K cd15 "built_anew" = true) (p15:PySem.W.keepIn K (.ref f15) = true)
  (a16:PySem.W.nsIn K mainGlobals "thinned" = some (some (.ref f16))) (l16:K.lookup f16 = some ⟨oc16,od16,.func (PySem.W.fnOf "thinned" "thinned" (zr xF) (zo xF) (zb xF) .none kV16 dc16 pm16 an16 cd16 ct16),yE⟩) (k16:PySem.W.codeIn K cd16 "thinned" = true) (p16:PySem.W.keepIn K (.ref f16) = true)
  (a17:PySem.W.nsIn K mainGlobals "_law_cell" = some (some (.ref f17))) (l17:K.lookup f17 = some ⟨oc17,od17,.func (PySem.W.fnOf "_law_cell" "_law_cell" (zr qd) (zo qd) (zb qd) .none kV17 dc17 pm17 an17 cd17 ct17),sl17⟩) (k17:PySem.W.codeIn K cd17 "_law_cell" = true) (p17:PySem.W.keepIn K (.ref f17) = true)
  (a18:PySem.W.nsIn K mainGlobals "_law_mixed" = some (some (.ref f18))) (l18:K.lookup f18 = some ⟨oc18,od18,.func (PySem.W.fnOf "_law_mixed" "_law_mixed" (zr vw) (zo vw) (zb vw) .none kV18 dc18 pm18 an18 cd18 ct18),sl18⟩) (k18:PySem.W.codeIn K cd18 "_law_mixed" = true) (p18:PySem.W.keepIn K (.ref f18) = true)
  (a19:PySem.W.nsIn K mainGlobals "_law_letters" = some (some (.ref f19))) (l19:K.lookup f19 = some ⟨oc19,od19,.func (PySem.W.fnOf "_law_letters" "_law_letters" (zr xw) (zo xw) (zb xw) .none kV19 dc19 pm19 an19 cd19 ct19),sl19⟩) (k19:PySem.W.codeIn K cd19 "_law_letters" = true) (p19:PySem.W.keepIn K (.ref f19) = true)
  (a20:PySem.W.nsIn K mainGlobals "_law_word" = some (some (.ref f20))) (l20:K.lookup f20 = some ⟨oc20,od20,.func (PySem.W.fnOf "_law_word" "_law_word" (zr qy) (zo qy) (zb qy) .none kV20 dc20 pm20 an20 cd20 ct20),sl20⟩) (k20:PySem.W.codeIn K cd20 "_law_word" = true) (p20:PySem.W.keepIn K (.ref f20) = true)
  (a21:PySem.W.nsIn K mainGlobals "_law_pair" = some (some (.ref f21))) (l21:K.lookup f21 = some ⟨oc21,od21,.func (PySem.W.fnOf "_law_pair" "_law_pair" (zr qj) (zo qj) (zb qj) .none kV21 dc21 pm21 an21 cd21 ct21),sl21⟩) (k21:PySem.W.codeIn K cd21 "_law_pair" = true) (p21:PySem.W.keepIn K (.ref f21) = true)
  (a22:PySem.W.nsIn K mainGlobals "_law_whole" = some (some (.ref f22))) (l22:K.lookup f22 = some ⟨oc22,od22,.func (PySem.W.fnOf "_law_whole" "_law_whole" (zr vv) (zo vv) (zb vv) .none kV22 dc22 pm22 an22 cd22 ct22),sl22⟩) (k22:PySem.W.codeIn K cd22 "_law_whole" = true) (p22:PySem.W.keepIn K (.ref f22) = true)
  (a23:PySem.W.nsIn K mainGlobals "_law_steps" = some (some (.ref f23))) (l23:K.lookup f23 = some ⟨oc23,od23,.func (PySem.W.fnOf "_law_steps" "_law_steps" (zr vq) (zo vq) (zb vq) .none kV23 dc23 pm23 an23 cd23 ct23),sl23⟩) (k23:PySem.W.codeIn K cd23 "_law_steps" = true) (p23:PySem.W.keepIn K (.ref f23) = true)
  (a24:PySem.W.nsIn K mainGlobals "_law_used" = some (some (.ref f24))) (l24:K.lookup f24 = some ⟨oc24,od24,.func (PySem.W.fnOf "_law_used" "_law_used" (zr qx) (zo qx) (zb qx) .none kV24 dc24 pm24 an24 cd24 ct24),sl24⟩) (k24:PySem.W.codeIn K cd24 "_law_used" = true) (p24:PySem.W.keepIn K (.ref f24) = true)
  (a25:PySem.W.nsIn K mainGlobals "_law_uses" = some (some (.ref f25))) (l25:K.lookup f25 = some ⟨oc25,od25,.func (PySem.W.fnOf "_law_uses" "_law_uses" (zr qo) (zo qo) (zb qo) .none kV25 dc25 pm25 an25 cd25 ct25),sl25⟩) (k25:PySem.W.codeIn K cd25 "_law_uses" = true) (p25:PySem.W.keepIn K (.ref f25) = true)
  (a26:PySem.W.nsIn K mainGlobals "_law_chain" = some (some (.ref f26))) (l26:K.lookup f26 = some ⟨oc26,od26,.func (PySem.W.fnOf "_law_chain" "_law_chain" (zr vg) (zo vg) (zb vg) .none kV26 dc26 pm26 an26 cd26 ct26),sl26⟩) (k26:PySem.W.codeIn K cd26 "_law_chain" = true) (p26:PySem.W.keepIn K (.ref f26) = true)
  (a27:PySem.W.nsIn K mainGlobals "_law_end" = some (some (.ref f27))) (l27:K.lookup f27 = some ⟨oc27,od27,.func (PySem.W.fnOf "_law_end" "_law_end" (zr Ya) (zo Ya) (zb Ya) .none kV27 dc27 pm27 an27 cd27 ct27),sl27⟩) (k27:PySem.W.codeIn K cd27 "_law_end" = true) (p27:PySem.W.keepIn K (.ref f27) = true)
  (a28:PySem.W.nsIn K mainGlobals "_law_order" = some (some (.ref f28))) (l28:K.lookup f28 = some ⟨oc28,od28,.func (PySem.W.fnOf "_law_order" "_law_order" (zr vk) (zo vk) (zb vk) .none kV28 dc28 pm28 an28 cd28 ct28),sl28⟩) (k28:PySem.W.codeIn K cd28 "_law_order" = true) (p28:PySem.W.keepIn K (.ref f28) = true)
  (a29:PySem.W.nsIn K mainGlobals "_law_draw" = some (some (.ref f29))) (l29:K.lookup f29 = some ⟨oc29,od29,.func (PySem.W.fnOf "_law_draw" "_law_draw" (zr qg) (zo qg) (zb qg) .none kV29 dc29 pm29 an29 cd29 ct29),sl29⟩) (k29:PySem.W.codeIn K cd29 "_law_draw" = true) (p29:PySem.W.keepIn K (.ref f29) = true)
  (a30:PySem.W.nsIn K mainGlobals "_law_entries" = some (some (.ref f30))) (l30:K.lookup f30 = some ⟨oc30,od30,.func (PySem.W.fnOf "_law_entries" "_law_entries" (zr xA) (zo xA) (zb xA) .none kV30 dc30 pm30 an30 cd30 ct30),sl30⟩) (k30:PySem.W.codeIn K cd30 "_law_entries" = true) (p30:PySem.W.keepIn K (.ref f30) = true)
  (a31:PySem.W.nsIn K mainGlobals "_law_rank" = some (some (.ref f31))) (l31:K.lookup f31 = some ⟨oc31,od31,.func (PySem.W.fnOf "_law_rank" "_law_rank" (zr w4) (zo w4) (zb w4) .none kV31 dc31 pm31 an31 cd31 ct31),sl31⟩) (k31:PySem.W.codeIn K cd31 "_law_rank" = true) (p31:PySem.W.keepIn K (.ref f31) = true)
  (a32:PySem.W.nsIn K mainGlobals "_law_thin" = some (some (.ref f32))) (l32:K.lookup f32 = some ⟨oc32,od32,.func (PySem.W.fnOf "_law_thin" "_law_thin" (zr uH) (zo uH) (zb uH) .none kV32 dc32 pm32 an32 cd32 ct32),sl32⟩) (k32:PySem.W.codeIn K cd32 "_law_thin" = true) (p32:PySem.W.keepIn K (.ref f32) = true)
  (a33:PySem.W.nsIn K mainGlobals "_law_list" = some (some (.ref f33))) (l33:K.lookup f33 = some ⟨oc33,od33,.func (PySem.W.fnOf "_law_list" "_law_list" (zr uS) (zo uS) (zb uS) .none kV33 dc33 pm33 an33 cd33 ct33),sl33⟩) (k33:PySem.W.codeIn K cd33 "_law_list" = true) (p33:PySem.W.keepIn K (.ref f33) = true)
  (a34:PySem.W.nsIn K mainGlobals "law" = some (some (.ref f34))) (l34:K.lookup f34 = some ⟨oc34,od34,.func (PySem.W.fnOf "law" "law" (zr vL) (zo vL) (zb vL) .none kV34 dc34 pm34 an34 cd34 ct34),sl34⟩) (k34:PySem.W.codeIn K cd34 "law" = true) (p34:PySem.W.keepIn K (.ref f34) = true)
  (g_LetterError:PySem.W.nsIn K mainGlobals "LetterError" = some (some (.ref c_LetterError)))
  (g_NoLetters:PySem.W.nsIn K mainGlobals "NoLetters" = some (some (.ref c_NoLetters)))
  (g_NoOrder:PySem.W.nsIn K mainGlobals "NoOrder" = some (some (.ref c_NoOrder)))
  (g_Order:PySem.W.nsIn K mainGlobals "Order" = some (some (.ref c_Order)))
  (g_FromRight:PySem.W.nsIn K mainGlobals "FromRight" = some (some (.ref c_FromRight)))
  (g_ByWeights:PySem.W.nsIn K mainGlobals "ByWeights" = some (some (.ref c_ByWeights)))
  (g_NoUse:PySem.W.nsIn K mainGlobals "NoUse" = some (some (.ref c_NoUse)))
  (g_TooFar:PySem.W.nsIn K mainGlobals "TooFar" = some (some (.ref c_TooFar)))
  (kbb:PySem.W.kitOne K (.type "bool") (.type "bool") = some true)
  (kt:PySem.W.kitOne K (.type "tuple") (.type "tuple") = some true)
  (ki:PySem.W.kitOne K (.type "int") (.type "int") = some true)
  (kb:PySem.W.kitOne K (.type "int") (.type "bool") = some false)
  (kl:PySem.W.kitOne K (.type "list") (.type "list") = some true)
  (ks:PySem.W.kitOne K (.type "str") (.type "str") = some true)
  (x7:PySem.W.specialIn K (.builtin "object.__class__") "__get__" = some (some (.builtin "getset_descriptor.__get__")))
  (x8:PySem.W.takesIn K (.builtin "object.__class__") = some true)
  (x1:ZA K c_NoLetters = true)
  (x2:PySem.W.findIn K (.ref c_NoLetters) "__setattr__" = some (some (.builtin "object.__setattr__")))
  (x3:PySem.W.findIn K (.ref c_NoLetters) "__getattribute__" = some (some (.builtin "BaseException.__getattribute__")))
  (x4:PySem.W.findIn K (.ref c_NoLetters) "__getattr__" = some none)
  (x5:PySem.W.keepIn K (.ref c_NoLetters) = true)
  (x6:PySem.W.findIn K (.ref c_NoLetters) "__class__" = some (some (.builtin "object.__class__")))
  (x9:PySem.W.mroIn K c_NoLetters (.type "object") = some true)
  (xi:PySem.W.findIn K (.ref c_NoLetters) "__init__" = some (some (.builtin "ValueError.__init__")))
  (y1:ZA K c_NoOrder = true)
  (y2:PySem.W.findIn K (.ref c_NoOrder) "__setattr__" = some (some (.builtin "object.__setattr__")))
  (y3:PySem.W.findIn K (.ref c_NoOrder) "__getattribute__" = some (some (.builtin "BaseException.__getattribute__")))
  (y4:PySem.W.findIn K (.ref c_NoOrder) "__getattr__" = some none)
  (y5:PySem.W.keepIn K (.ref c_NoOrder) = true)
  (y6:PySem.W.findIn K (.ref c_NoOrder) "__class__" = some (some (.builtin "object.__class__")))
  (y9:PySem.W.mroIn K c_NoOrder (.type "object") = some true)
  (yi:PySem.W.findIn K (.ref c_NoOrder) "__init__" = some (some (.builtin "ValueError.__init__")))
  (most:PySem.W.nsIn K mainGlobals "MOST_LETTERS" = some (some (.int 6 t6)))
  (mostw:PySem.W.nsIn K mainGlobals "MOST_WEIGHT" = some (some (.int 1000000 t7)))
  (pg_Order:PySem.W.plainGet K c_Order Str.empty = true)
  (hd_Order:PySem.W.hasDictIn K c_Order = true)
  (po_Order:PySem.W.plainOver K c_Order = true)
  (sa_Order:PySem.W.findIn K (.ref c_Order) "__setattr__" = some (some (.builtin "object.__setattr__")))
  (mk_Order:PySem.W.makesIn K c_Order = true)
  (kc_Order:PySem.W.keepIn K (.ref c_Order) = true)
  (nl_Order:PySem.W.findIn K (.ref c_Order) "letters" = some none)
  (ka_Order:PySem.W.kitOne K (.ref c_Order) (.ref c_Order) = some true)
  (cl_Order:PySem.W.findIn K (.ref c_Order) "__class__" = some (some (.builtin "object.__class__")))
  (mr_Order:PySem.W.mroIn K c_Order (.type "object") = some true)
  (pg_FromRight:PySem.W.plainGet K c_FromRight Str.empty = true)
  (hd_FromRight:PySem.W.hasDictIn K c_FromRight = true)
  (po_FromRight:PySem.W.plainOver K c_FromRight = true)
  (sa_FromRight:PySem.W.findIn K (.ref c_FromRight) "__setattr__" = some (some (.builtin "object.__setattr__")))
  (mk_FromRight:PySem.W.makesIn K c_FromRight = true)
  (kc_FromRight:PySem.W.keepIn K (.ref c_FromRight) = true)
  (nl_FromRight:PySem.W.findIn K (.ref c_FromRight) "letters" = some none)
  (ka_FromRight:PySem.W.kitOne K (.ref c_FromRight) (.ref c_Order) = some true)
  (cl_FromRight:PySem.W.findIn K (.ref c_FromRight) "__class__" = some (some (.builtin "object.__class__")))
  (mr_FromRight:PySem.W.mroIn K c_FromRight (.type "object") = some true)
  (pg_ByWeights:PySem.W.plainGet K c_ByWeights Str.empty = true)
  (hd_ByWeights:PySem.W.hasDictIn K c_ByWeights = true)
  (po_ByWeights:PySem.W.plainOver K c_ByWeights = true)
  (sa_ByWeights:PySem.W.findIn K (.ref c_ByWeights) "__setattr__" = some (some (.builtin "object.__setattr__")))
  (mk_ByWeights:PySem.W.makesIn K c_ByWeights = true)
  (kc_ByWeights:PySem.W.keepIn K (.ref c_ByWeights) = true)
  (nl_ByWeights:PySem.W.findIn K (.ref c_ByWeights) "letters" = some none)
  (ka_ByWeights:PySem.W.kitOne K (.ref c_ByWeights) (.ref c_Order) = some true)
  (cl_ByWeights:PySem.W.findIn K (.ref c_ByWeights) "__class__" = some (some (.builtin "object.__class__")))
  (mr_ByWeights:PySem.W.mroIn K c_ByWeights (.type "object") = some true)
  (nw_ByWeights:PySem.W.findIn K (.ref c_ByWeights) "weights" = some none)
  (sgO:PySem.W.specialIn K (.ref c_Order) "__getattribute__" = some (some (.builtin "type.__getattribute__")))
  (rdO:PySem.W.readsIn K c_Order (.type "type") = true)
  (win:PySem.W.nsIn K mainGlobals "WINDOW" = some (some (.int 128 t8)))
  (nany:PySem.W.nsIn K mainGlobals "any" = some none)
  (u1:ZA K c_NoUse = true)
  (u2:PySem.W.findIn K (.ref c_NoUse) "__setattr__" = some (some (.builtin "object.__setattr__")))
  (u3:PySem.W.findIn K (.ref c_NoUse) "__getattribute__" = some (some (.builtin "BaseException.__getattribute__")))
  (u4:PySem.W.findIn K (.ref c_NoUse) "__getattr__" = some none)
  (u5:PySem.W.keepIn K (.ref c_NoUse) = true)
  (u6:PySem.W.findIn K (.ref c_NoUse) "__class__" = some (some (.builtin "object.__class__")))
  (u9:PySem.W.mroIn K c_NoUse (.type "object") = some true)
  (ua:PySem.W.findIn K (.ref c_NoUse) "at" = some none)
  (iniU:PySem.W.findIn K (.ref c_NoUse) "__init__" = some (some (.ref fU)))
  (lU:K.lookup fU = some ⟨ocU,odU,.func (PySem.W.fnOf "__init__" "NoUse.__init__" (zr yq) (zo yq) (zb yq) .none kVU dcU pmU anU cdU ctU),slU⟩)
  (kU:PySem.W.codeIn K cdU "NoUse.__init__" = true)
  (pU:PySem.W.keepIn K (.ref fU) = true)
  (fnU:PySem.W.isFn K (.ref fU) = true)
  (v1:ZA K c_TooFar = true)
  (v2:PySem.W.findIn K (.ref c_TooFar) "__setattr__" = some (some (.builtin "object.__setattr__")))
  (v3:PySem.W.findIn K (.ref c_TooFar) "__getattribute__" = some (some (.builtin "BaseException.__getattribute__")))
  (v4:PySem.W.findIn K (.ref c_TooFar) "__getattr__" = some none)
  (v5:PySem.W.keepIn K (.ref c_TooFar) = true)
  (v6:PySem.W.findIn K (.ref c_TooFar) "__class__" = some (some (.builtin "object.__class__")))
  (v9:PySem.W.mroIn K c_TooFar (.type "object") = some true)
  (vi:PySem.W.findIn K (.ref c_TooFar) "__init__" = some (some (.builtin "ValueError.__init__")))
  (sFF:PySem.W.subIn K (.ref c_TooFar) (.ref c_TooFar) = some true)
  (nsorted:PySem.W.nsIn K mainGlobals "sorted" = some none)
  (mou:PySem.W.nsIn K mainGlobals "MOST_USES" = some (some (.int 40 tmu)))
  (mos:PySem.W.nsIn K mainGlobals "MOST_STEPS" = some (some (.int 240 tms)))
  (mod_:PySem.W.nsIn K mainGlobals "MOST_SIDE" = some (some (.int 60 tmd)))
  (mop:PySem.W.nsIn K mainGlobals "MOST_PASSES" = some (some (.int 20 tmp)))
  (fi_order_init:PySem.W.findIn K (.ref c_Order) "__init__" = some (some (.ref fm_order_init)))
  (lo_order_init:K.lookup fm_order_init = some ⟨oc_order_init,od_order_init,.func (PySem.W.fnOf "__init__" "Order.__init__" (zr yx) (zo yx) (zb yx) .none kV_order_init dc_order_init pm_order_init an_order_init cd_order_init ct_order_init),sl_order_init⟩)
  (co_order_init:PySem.W.codeIn K cd_order_init "Order.__init__" = true)
  (ke_order_init:PySem.W.keepIn K (.ref fm_order_init) = true)
  (fn_order_init:PySem.W.isFn K (.ref fm_order_init) = true)
  (fi_order_weight:PySem.W.findIn K (.ref c_Order) "weight" = some (some (.ref fm_order_weight)))
  (lo_order_weight:K.lookup fm_order_weight = some ⟨oc_order_weight,od_order_weight,.func (PySem.W.fnOf "weight" "Order.weight" (zr yb) (zo yb) (zb yb) .none kV_order_weight dc_order_weight pm_order_weight an_order_weight cd_order_weight ct_order_weight),sl_order_weight⟩)
  (co_order_weight:PySem.W.codeIn K cd_order_weight "Order.weight" = true)
  (ke_order_weight:PySem.W.keepIn K (.ref fm_order_weight) = true)
  (fn_order_weight:PySem.W.isFn K (.ref fm_order_weight) = true)
  (fi_order_seen:PySem.W.findIn K (.ref c_Order) "seen" = some (some (.ref fm_order_seen)))
  (lo_order_seen:K.lookup fm_order_seen = some ⟨oc_order_seen,od_order_seen,.func (PySem.W.fnOf "seen" "Order.seen" (zr yt) (zo yt) (zb yt) .none kV_order_seen dc_order_seen pm_order_seen an_order_seen cd_order_seen ct_order_seen),sl_order_seen⟩)
  (co_order_seen:PySem.W.codeIn K cd_order_seen "Order.seen" = true)
  (ke_order_seen:PySem.W.keepIn K (.ref fm_order_seen) = true)
  (fn_order_seen:PySem.W.isFn K (.ref fm_order_seen) = true)
  (fi_fromright_seen:PySem.W.findIn K (.ref c_FromRight) "seen" = some (some (.ref fm_fromright_seen)))
  (lo_fromright_seen:K.lookup fm_fromright_seen = some ⟨oc_fromright_seen,od_fromright_seen,.func (PySem.W.fnOf "seen" "FromRight.seen" (zr zU) (zo zU) (zb zU) .none kV_fromright_seen dc_fromright_seen pm_fromright_seen an_fromright_seen cd_fromright_seen ct_fromright_seen),sl_fromright_seen⟩)
  (co_fromright_seen:PySem.W.codeIn K cd_fromright_seen "FromRight.seen" = true)
  (ke_fromright_seen:PySem.W.keepIn K (.ref fm_fromright_seen) = true)
  (fn_fromright_seen:PySem.W.isFn K (.ref fm_fromright_seen) = true)
  (fi_byweights_init:PySem.W.findIn K (.ref c_ByWeights) "__init__" = some (some (.ref fm_byweights_init)))
  (lo_byweights_init:K.lookup fm_byweights_init = some ⟨oc_byweights_init,od_byweights_init,.func (PySem.W.fnOf "__init__" "ByWeights.__init__" (zr zS) (zo zS) (zb zS) .none kV_byweights_init dc_byweights_init pm_byweights_init an_byweights_init cd_byweights_init ct_byweights_init),sl_byweights_init⟩)
  (co_byweights_init:PySem.W.codeIn K cd_byweights_init "ByWeights.__init__" = true)
  (ke_byweights_init:PySem.W.keepIn K (.ref fm_byweights_init) = true)
  (fn_byweights_init:PySem.W.isFn K (.ref fm_byweights_init) = true)
  (fi_byweights_weight:PySem.W.findIn K (.ref c_ByWeights) "weight" = some (some (.ref fm_byweights_weight)))
  (lo_byweights_weight:K.lookup fm_byweights_weight = some ⟨oc_byweights_weight,od_byweights_weight,.func (PySem.W.fnOf "weight" "ByWeights.weight" (zr zI) (zo zI) (zb zI) .none kV_byweights_weight dc_byweights_weight pm_byweights_weight an_byweights_weight cd_byweights_weight ct_byweights_weight),sl_byweights_weight⟩)
  (co_byweights_weight:PySem.W.codeIn K cd_byweights_weight "ByWeights.weight" = true)
  (ke_byweights_weight:PySem.W.keepIn K (.ref fm_byweights_weight) = true)
  (fn_byweights_weight:PySem.W.isFn K (.ref fm_byweights_weight) = true)
  (fi_order_rank:PySem.W.findIn K (.ref c_Order) "rank" = some (some (.ref fm_order_rank)))
  (lo_order_rank:K.lookup fm_order_rank = some ⟨oc_order_rank,od_order_rank,.func (PySem.W.fnOf "rank" "Order.rank" (zr ye) (zo ye) (zb ye) .none kV_order_rank dc_order_rank pm_order_rank an_order_rank cd_order_rank ct_order_rank),sl_order_rank⟩)
  (co_order_rank:PySem.W.codeIn K cd_order_rank "Order.rank" = true)
  (ke_order_rank:PySem.W.keepIn K (.ref fm_order_rank) = true)
  (fn_order_rank:PySem.W.isFn K (.ref fm_order_rank) = true)
  (fi_order_before:PySem.W.findIn K (.ref c_Order) "before" = some (some (.ref fm_order_before)))
  (lo_order_before:K.lookup fm_order_before = some ⟨oc_order_before,od_order_before,.func (PySem.W.fnOf "before" "Order.before" (zr yd) (zo yd) (zb yd) .none kV_order_before dc_order_before pm_order_before an_order_before cd_order_before ct_order_before),sl_order_before⟩)
  (co_order_before:PySem.W.codeIn K cd_order_before "Order.before" = true)
  (ke_order_before:PySem.W.keepIn K (.ref fm_order_before) = true)
  (fn_order_before:PySem.W.isFn K (.ref fm_order_before) = true)
  (dl_gone:K.lookup dv_gone = some ⟨d1_gone,d2_gone,.seq #[.int 4000 dt_gone] d3_gone,d4_gone⟩)
  (fcO:PySem.W.findCls K (.ref c_Order) (.type "type") "__init__" = some (.val (.ref fm_order_init)))
  (fiR_init:PySem.W.findIn K (.ref c_FromRight) "__init__" = some (some (.ref fm_order_init)))
  (fiR_weight:PySem.W.findIn K (.ref c_FromRight) "weight" = some (some (.ref fm_order_weight)))
  (fiW_seen:PySem.W.findIn K (.ref c_ByWeights) "seen" = some (some (.ref fm_order_seen)))
  (fiR_rank:PySem.W.findIn K (.ref c_FromRight) "rank" = some (some (.ref fm_order_rank)))
  (fiW_rank:PySem.W.findIn K (.ref c_ByWeights) "rank" = some (some (.ref fm_order_rank)))
  (fiR_before:PySem.W.findIn K (.ref c_FromRight) "before" = some (some (.ref fm_order_before)))
  (fiW_before:PySem.W.findIn K (.ref c_ByWeights) "before" = some (some (.ref fm_order_before)))
  (b0:PySem.W.nsIn K mainGlobals "len" = some none)
  (b1:PySem.W.nsIn K mainGlobals "range" = some none)
  (b2:PySem.W.nsIn K mainGlobals "isinstance" = some none)
  (b3:PySem.W.nsIn K mainGlobals "str" = some none)
  (b4:PySem.W.nsIn K mainGlobals "int" = some none)
  (b5:PySem.W.nsIn K mainGlobals "tuple" = some none)
  (b6:PySem.W.nsIn K mainGlobals "list" = some none)
  (b7:PySem.W.nsIn K mainGlobals "bool" = some none)
  (b8:PySem.W.nsIn K mainGlobals "enumerate" = some none)
  (b9:PySem.W.nsIn K mainGlobals "all" = some none)
  (b10:PySem.W.nsIn K mainGlobals "ValueError" = some none)
  (b11:PySem.W.nsIn K mainGlobals "max" = some none)
  (b12:PySem.W.nsIn K mainGlobals "reversed" = some none)
  (b13:PySem.W.nsIn K mainGlobals "zip" = some none)
  (b14:PySem.W.nsIn K mainGlobals "sum" = some none)
  (b15:PySem.W.nsIn K mainGlobals "sorted" = some none)
  : ∃ fd:FuncData,(∀ (s:Shared) (v:Value),BindsTo s fd ⟨[v],[]⟩ [("_law_script",v)]) /\ ∀ base:Heap,K.In base -> base.Ns mainGlobals mg -> base.BuiltinsAt mg TB -> PySem.W.CodeHd base cc TB -> yk l.prog w K mg base CX0 8 fa fd ["_law_script"] (Zr K TB):=by
 have e:=hfa.symm.trans (PySem.W.mg_of X G a34)
 cases e
 have B:Bt mg:=⟨PySem.W.mg_none_of X G b0,PySem.W.mg_none_of X G b1,PySem.W.mg_none_of X G b2,PySem.W.mg_none_of X G b3,PySem.W.mg_none_of X G b4,PySem.W.mg_none_of X G b5,PySem.W.mg_none_of X G b6,PySem.W.mg_none_of X G b7,PySem.W.mg_none_of X G b8,PySem.W.mg_none_of X G b9,PySem.W.mg_none_of X G b10,PySem.W.mg_none_of X G b11,PySem.W.mg_none_of X G b12,PySem.W.mg_none_of X G b13,PySem.W.mg_none_of X G b14,PySem.W.mg_none_of X G b15⟩
 have F0:=zG (st:=zP) l0 k0 p0
 have B0:=F0.binds (ps:=["sign"]) fun _ _ _ _ _ _ us hl=>by obtain ⟨_,rfl⟩:=XY hl; rfl
 have M0:=PySem.W.mg_of X G a0
 have F1:=zG (st:=yw) l1 k1 p1
 have B1:=F1.binds (ps:=["text"]) fun _ _ _ _ _ _ us hl=>by obtain ⟨_,rfl⟩:=XY hl; rfl
 have M1:=PySem.W.mg_of X G a1
 have F2:=zG (st:=yI) l2 k2 p2
 have B2:=F2.binds (ps:=["word", "place", "part"]) fun _ _ _ _ _ _ us hl=>by obtain ⟨_,_,_,rfl⟩:=Z7 hl; rfl
 have M2:=PySem.W.mg_of X G a2
 have F3:=zG (st:=ZJ) l3 k3 p3
 have B3:=F3.binds (ps:=["word", "place", "old", "new"]) fun _ _ _ _ _ _ us hl=>by obtain ⟨_,_,_,_,rfl⟩:=Qj hl; rfl
 have M3:=PySem.W.mg_of X G a3
 have F4:=zG (st:=yc) l4 k4 p4
 have B4:=F4.binds (ps:=["rules", "word", "start", "end"]) fun _ _ _ _ _ _ us hl=>by obtain ⟨_,_,_,_,rfl⟩:=Qj hl; rfl
 have M4:=PySem.W.mg_of X G a4
 have F5:=zG (st:=yo) l5 k5 p5
 have B5:=F5.binds (ps:=["rules", "word", "start"]) fun _ _ _ _ _ _ us hl=>by obtain ⟨_,_,_,rfl⟩:=Z7 hl; rfl
 have M5:=PySem.W.mg_of X G a5
 have F6:FunD K "gone" "gone" wm (.ref dv_gone) f6 (PySem.W.fnOf "gone" "gone" (zr wm) (zo wm) (zb wm) (.ref dv_gone) kV6 dc6 pm6 an6 cd6 ct6):=⟨⟨_,_,_,_,_,_,_,_,_,rfl,l6,k6⟩⟩
 have M6:=PySem.W.mg_of X G a6
 have F7:=zG (st:=uw) l7 k7 p7
 have B7:=F7.binds (ps:=["steps"]) fun _ _ _ _ _ _ us hl=>by obtain ⟨_,rfl⟩:=XY hl; rfl
 have M7:=PySem.W.mg_of X G a7
 have F8:=zG (st:=wx) l8 k8 p8
 have B8:=F8.binds (ps:=["steps", "size"]) fun _ _ _ _ _ _ us hl=>by obtain ⟨_,_,rfl⟩:=jb hl; rfl
 have M8:=PySem.W.mg_of X G a8
 have F9:=zG (st:=yW) l9 k9 p9
 have B9:=F9.binds (ps:=["entries", "steps"]) fun _ _ _ _ _ _ us hl=>by obtain ⟨_,_,rfl⟩:=jb hl; rfl
 have M9:=PySem.W.mg_of X G a9
 have F10:=zG (st:=yJ) l10 k10 p10
 have B10:=F10.binds (ps:=["entries"]) fun _ _ _ _ _ _ us hl=>by obtain ⟨_,rfl⟩:=XY hl; rfl
 have M10:=PySem.W.mg_of X G a10
 have F11:=zG (st:=xG) l11 k11 p11
 have B11:=F11.binds (ps:=["order", "entry"]) fun _ _ _ _ _ _ us hl=>by obtain ⟨_,_,rfl⟩:=jb hl; rfl
 have M11:=PySem.W.mg_of X G a11
 have F12:=zG (st:=yu) l12 k12 p12
 have B12:=F12.binds (ps:=["order", "entries"]) fun _ _ _ _ _ _ us hl=>by obtain ⟨_,_,rfl⟩:=jb hl; rfl
 have M12:=PySem.W.mg_of X G a12
 have F13:=zG (st:=ya) l13 k13 p13
 have B13:=F13.binds (ps:=["entries", "entry"]) fun _ _ _ _ _ _ us hl=>by obtain ⟨_,_,rfl⟩:=jb hl; rfl
 have M13:=PySem.W.mg_of X G a13
 have F14:=zG (st:=zX) l14 k14 p14
 have B14:=F14.binds (ps:=["entry"]) fun _ _ _ _ _ _ us hl=>by obtain ⟨_,rfl⟩:=XY hl; rfl
 have M14:=PySem.W.mg_of X G a14
 have F15:=zG (st:=yv) l15 k15 p15
 have B15:=F15.binds (ps:=["order", "entries"]) fun _ _ _ _ _ _ us hl=>by obtain ⟨_,_,rfl⟩:=jb hl; rfl
 have M15:=PySem.W.mg_of X G a15
 have F16:=zG (st:=xF) l16 k16 p16
 have B16:=F16.binds (ps:=["order", "entries"]) fun _ _ _ _ _ _ us hl=>by obtain ⟨_,_,rfl⟩:=jb hl; rfl
 have M16:=PySem.W.mg_of X G a16
 have F17:=zG (st:=qd) l17 k17 p17
 have B17:=F17.binds (ps:=["_law_script", "_law_k"]) fun _ _ _ _ _ _ us hl=>by obtain ⟨_,_,rfl⟩:=jb hl; rfl
 have M17:=PySem.W.mg_of X G a17
 have F18:=zG (st:=vw) l18 k18 p18
 have B18:=F18.binds (ps:=["_law_cell_here", "_law_turn"]) fun _ _ _ _ _ _ us hl=>by obtain ⟨_,_,rfl⟩:=jb hl; rfl
 have M18:=PySem.W.mg_of X G a18
 have F19:=zG (st:=xw) l19 k19 p19
 have B19:=F19.binds (ps:=["_law_cell_here", "_law_many"]) fun _ _ _ _ _ _ us hl=>by obtain ⟨_,_,rfl⟩:=jb hl; rfl
 have M19:=PySem.W.mg_of X G a19
 have F20:=zG (st:=qy) l20 k20 p20
 have B20:=F20.binds (ps:=["_law_number", "_law_letters_here", "_law_most"]) fun _ _ _ _ _ _ us hl=>by obtain ⟨_,_,_,rfl⟩:=Z7 hl; rfl
 have M20:=PySem.W.mg_of X G a20
 have F21:=zG (st:=qj) l21 k21 p21
 have B21:=F21.binds (ps:=["_law_cell_here", "_law_letters_here", "_law_most"]) fun _ _ _ _ _ _ us hl=>by obtain ⟨_,_,_,rfl⟩:=Z7 hl; rfl
 have M21:=PySem.W.mg_of X G a21
 have F22:=zG (st:=vv) l22 k22 p22
 have B22:=F22.binds (ps:=["_law_found"]) fun _ _ _ _ _ _ us hl=>by obtain ⟨_,rfl⟩:=XY hl; rfl
 have M22:=PySem.W.mg_of X G a22
 have F23:=zG (st:=vq) l23 k23 p23
 have B23:=F23.binds (ps:=["_law_found"]) fun _ _ _ _ _ _ us hl=>by obtain ⟨_,rfl⟩:=XY hl; rfl
 have M23:=PySem.W.mg_of X G a23
 have F24:=zG (st:=qx) l24 k24 p24
 have B24:=F24.binds (ps:=["_law_pacts", "_law_word_here", "_law_step"]) fun _ _ _ _ _ _ us hl=>by obtain ⟨_,_,_,rfl⟩:=Z7 hl; rfl
 have M24:=PySem.W.mg_of X G a24
 have F25:=zG (st:=qo) l25 k25 p25
 have B25:=F25.binds (ps:=["_law_pacts", "_law_word_here", "_law_most"]) fun _ _ _ _ _ _ us hl=>by obtain ⟨_,_,_,rfl⟩:=Z7 hl; rfl
 have M25:=PySem.W.mg_of X G a25
 have F26:=zG (st:=vg) l26 k26 p26
 have B26:=F26.binds (ps:=["_law_pacts", "_law_word_here", "_law_cells", "_law_most"]) fun _ _ _ _ _ _ us hl=>by obtain ⟨_,_,_,_,rfl⟩:=Qj hl; rfl
 have M26:=PySem.W.mg_of X G a26
 have F27:=zG (st:=Ya) l27 k27 p27
 have B27:=F27.binds (ps:=["_law_pacts", "_law_word_here", "_law_steps_here"]) fun _ _ _ _ _ _ us hl=>by obtain ⟨_,_,_,rfl⟩:=Z7 hl; rfl
 have M27:=PySem.W.mg_of X G a27
 have F28:=zG (st:=vk) l28 k28 p28
 have B28:=F28.binds (ps:=["_law_kind", "_law_letters_here", "_law_weights"]) fun _ _ _ _ _ _ us hl=>by obtain ⟨_,_,_,rfl⟩:=Z7 hl; rfl
 have M28:=PySem.W.mg_of X G a28
 have F29:=zG (st:=qg) l29 k29 p29
 have B29:=F29.binds (ps:=["_law_cell_here"]) fun _ _ _ _ _ _ us hl=>by obtain ⟨_,rfl⟩:=XY hl; rfl
 have M29:=PySem.W.mg_of X G a29
 have F30:=zG (st:=xA) l30 k30 p30
 have B30:=F30.binds (ps:=["_law_found"]) fun _ _ _ _ _ _ us hl=>by obtain ⟨_,rfl⟩:=XY hl; rfl
 have M30:=PySem.W.mg_of X G a30
 have F31:=zG (st:=w4) l31 k31 p31
 have B31:=F31.binds (ps:=["_law_kind", "_law_letters_here", "_law_weights", "_law_word_here"]) fun _ _ _ _ _ _ us hl=>by obtain ⟨_,_,_,_,rfl⟩:=Qj hl; rfl
 have M31:=PySem.W.mg_of X G a31
 have F32:=zG (st:=uH) l32 k32 p32
 have B32:=F32.binds (ps:=["_law_found", "_law_kind", "_law_letters_here", "_law_weights"]) fun _ _ _ _ _ _ us hl=>by obtain ⟨_,_,_,_,rfl⟩:=Qj hl; rfl
 have M32:=PySem.W.mg_of X G a32
 have F33:=zG (st:=uS) l33 k33 p33
 have B33:=F33.binds (ps:=["_law_script", "_law_pacts", "_law_letters_here"]) fun _ _ _ _ _ _ us hl=>by obtain ⟨_,_,_,rfl⟩:=Z7 hl; rfl
 have M33:=PySem.W.mg_of X G a33
 have F34:=zG (st:=vL) l34 k34 p34
 have B34:=F34.binds (ps:=["_law_script"]) fun _ _ _ _ _ _ us hl=>by obtain ⟨_,rfl⟩:=XY hl; rfl
 have M34:=PySem.W.mg_of X G a34
 have HCC:cd12 = .ref cc:=by
  obtain ⟨ai,oi,fdi,m1,m2,m3,m4⟩:=hlam
  have e1:=m1.symm.trans (PySem.W.mg_of X G a12)
  cases e1
  have e2:=m2.symm.trans (X _ _ l12)
  cases e2
  cases m3
  exact m4
 refine ⟨PySem.W.fnOf "law" "law" (zr vL) (zo vL) (zb vL) .none kV34 dc34 pm34 an34 cd34 ct34,fun s v=>.of_eq rfl,fun base _ _ HBT HCH=>?_⟩
 have XIl:XI K c_NoLetters:=⟨⟨x1,x2,x3,x4,x5⟩,x6,x7,x8,x9⟩
 have XIo:XI K c_NoOrder:=⟨⟨y1,y2,y3,y4,y5⟩,y6,x7,x8,y9⟩
 have TL:KO K mg c_NoLetters:=⟨XIl,xi,PySem.W.mg_of X G g_NoLetters,t6,PySem.W.mg_of X G most⟩
 have TN:KB K mg c_NoOrder:=⟨XIo,yi,PySem.W.mg_of X G g_NoOrder,t7,PySem.W.mg_of X G mostw⟩
 have TO:TOrd K mg c_Order c_FromRight c_ByWeights:=⟨⟨pg_Order,hd_Order,po_Order,sa_Order⟩,⟨pg_FromRight,hd_FromRight,po_FromRight,sa_FromRight⟩,⟨pg_ByWeights,hd_ByWeights,po_ByWeights,sa_ByWeights⟩,PySem.W.mg_of X G g_Order,PySem.W.mg_of X G g_FromRight,PySem.W.mg_of X G g_ByWeights,nl_Order,nl_FromRight,nl_ByWeights,nw_ByWeights⟩
 have TWi:KZ mg:=⟨t8,PySem.W.mg_of X G win⟩
 have XIu:XI K c_NoUse:=⟨⟨u1,u2,u3,u4,u5⟩,u6,x7,x8,u9⟩
 have TNu:TNU K mg c_NoUse:=⟨XIu,PySem.W.mg_of X G g_NoUse,ua⟩
 have FU:=zG (st:=yq) lU kU pU
 have BU:=FU.binds (ps:=["self", "at"]) fun _ _ _ _ _ _ us hl=>by obtain ⟨_,_,rfl⟩:=jb hl; rfl
 have TUd:DNU l.prog w K mg base c_NoUse:=⟨TNu,_,_,iniU,fnU,ja TNu FU,BU⟩
 have XIf:XI K c_TooFar:=⟨⟨v1,v2,v3,v4,v5⟩,v6,x7,x8,v9⟩
 have TF:QA K mg c_TooFar:=⟨XIf,vi,PySem.W.mg_of X G g_TooFar⟩
 have TMk:TMo mg:=⟨⟨tmu,PySem.W.mg_of X G mou⟩,⟨tms,PySem.W.mg_of X G mos⟩,⟨tmd,PySem.W.mg_of X G mod_⟩,⟨tmp,PySem.W.mg_of X G mop⟩⟩
 have D0:Df l.prog w K mg base CX0 1 "is_small_letter" ["sign"] [] vS:=⟨_,_,W5 F0,M0,p0,B0⟩
 have D1:Df l.prog w K mg base (CXx l.prog w) 2 "letters_of" ["text"] [] (xL c_NoLetters):=⟨_,_,qY B TL F1 D0,M1,p1,B1⟩
 have D2:Df l.prog w K mg base CX0 1 "stands_at" ["word", "place", "part"] [] xg:=⟨_,_,jx B F2,M2,p2,B2⟩
 have D3:Df l.prog w K mg base (CXx l.prog w) 3 "put" ["word", "place", "old", "new"] [] (Xq c_NoUse):=⟨_,_,Qo B TUd F3 D2,M3,p3,B3⟩
 have FM_order_init:=zG (st:=yx) lo_order_init co_order_init ke_order_init
 have BM_order_init:=FM_order_init.binds (ps:=["self", "letters"]) fun _ _ _ _ _ _ us hl=>by obtain ⟨_,_,rfl⟩:=jb hl; rfl
 have MM_order_init:DMk l.prog w K mg base CX0 3 c_Order ["self", "letters"] (vR K):=⟨_,_,⟨mk_Order,fi_order_init,fn_order_init,kc_Order⟩,xO B FM_order_init D1,BM_order_init⟩
 have DI:DOI l.prog w K mg base c_Order:=⟨_,_,⟨sgO,rdO,fcO,ke_order_init⟩,xO B FM_order_init D1,BM_order_init⟩
 have FM_order_weight:=zG (st:=yb) lo_order_weight co_order_weight ke_order_weight
 have BM_order_weight:=FM_order_weight.binds (ps:=["self", "word"]) fun _ _ _ _ _ _ us hl=>by obtain ⟨_,_,rfl⟩:=jb hl; rfl
 have MM_order_weight:DM l.prog w K mg base CX0 1 c_Order "weight" ["self", "word"] qN:=⟨_,_,⟨fi_order_weight,fn_order_weight,ke_order_weight⟩,xT B FM_order_weight,BM_order_weight⟩
 have FM_order_seen:=zG (st:=yt) lo_order_seen co_order_seen ke_order_seen
 have BM_order_seen:=FM_order_seen.binds (ps:=["self", "word"]) fun _ _ _ _ _ _ us hl=>by obtain ⟨_,_,rfl⟩:=jb hl; rfl
 have MM_order_seen:DM l.prog w K mg base CX0 1 c_Order "seen" ["self", "word"] ZC:=⟨_,_,⟨fi_order_seen,fn_order_seen,ke_order_seen⟩,wY B FM_order_seen,BM_order_seen⟩
 have FM_fromright_seen:=zG (st:=zU) lo_fromright_seen co_fromright_seen ke_fromright_seen
 have BM_fromright_seen:=FM_fromright_seen.binds (ps:=["self", "word"]) fun _ _ _ _ _ _ us hl=>by obtain ⟨_,_,rfl⟩:=jb hl; rfl
 have MM_fromright_seen:DM l.prog w K mg base CX0 1 c_FromRight "seen" ["self", "word"] kF:=⟨_,_,⟨fi_fromright_seen,fn_fromright_seen,ke_fromright_seen⟩,vh B FM_fromright_seen,BM_fromright_seen⟩
 have FM_byweights_init:=zG (st:=zS) lo_byweights_init co_byweights_init ke_byweights_init
 have BM_byweights_init:=FM_byweights_init.binds (ps:=["self", "letters", "weights"]) fun _ _ _ _ _ _ us hl=>by obtain ⟨_,_,_,rfl⟩:=Z7 hl; rfl
 have MM_byweights_init:DMk l.prog w K mg base (CXx l.prog w) 4 c_ByWeights ["self", "letters", "weights"] (jm K c_ByWeights):=⟨_,_,⟨mk_ByWeights,fi_byweights_init,fn_byweights_init,kc_ByWeights⟩,vp B TO TN DI FM_byweights_init,BM_byweights_init⟩
 have FM_byweights_weight:=zG (st:=zI) lo_byweights_weight co_byweights_weight ke_byweights_weight
 have BM_byweights_weight:=FM_byweights_weight.binds (ps:=["self", "word"]) fun _ _ _ _ _ _ us hl=>by obtain ⟨_,_,rfl⟩:=jb hl; rfl
 have MM_byweights_weight:DM l.prog w K mg base CX0 1 c_ByWeights "weight" ["self", "word"] (kj c_ByWeights):=⟨_,_,⟨fi_byweights_weight,fn_byweights_weight,ke_byweights_weight⟩,wF B TO FM_byweights_weight,BM_byweights_weight⟩
 have TT:TWS l.prog w K mg base c_Order c_FromRight c_ByWeights:=⟨TO,MM_order_init,⟨_,_,⟨mk_FromRight,fiR_init,fn_order_init,kc_FromRight⟩,xO B FM_order_init D1,BM_order_init⟩,MM_byweights_init,MM_order_weight,⟨_,_,⟨fiR_weight,fn_order_weight,ke_order_weight⟩,xT B FM_order_weight,BM_order_weight⟩,MM_byweights_weight,MM_order_seen,MM_fromright_seen,⟨_,_,⟨fiW_seen,fn_order_seen,ke_order_seen⟩,wY B FM_order_seen,BM_order_seen⟩⟩
 have FM_order_rank:=zG (st:=ye) lo_order_rank co_order_rank ke_order_rank
 have BM_order_rank:=FM_order_rank.binds (ps:=["self", "word"]) fun _ _ _ _ _ _ us hl=>by obtain ⟨_,_,rfl⟩:=jb hl; rfl
 have MM_order_rank:DM l.prog w K mg base CX0 2 c_Order "rank" ["self", "word"] (uE c_Order c_FromRight c_ByWeights):=⟨_,_,⟨fi_order_rank,fn_order_rank,ke_order_rank⟩,xM B TT FM_order_rank,BM_order_rank⟩
 have DRk:DR l.prog w K mg base c_Order c_FromRight c_ByWeights:=⟨fun C h=>by rcases h with e | e | e; (rw [e]; exact ⟨TO.cO,MM_order_rank⟩); (rw [e]; exact ⟨TO.cR,⟨_,_,⟨fiR_rank,fn_order_rank,ke_order_rank⟩,xM B TT FM_order_rank,BM_order_rank⟩⟩); (rw [e]; exact ⟨TO.cW,⟨_,_,⟨fiW_rank,fn_order_rank,ke_order_rank⟩,xM B TT FM_order_rank,BM_order_rank⟩⟩)⟩
 have FM_order_before:=zG (st:=yd) lo_order_before co_order_before ke_order_before
 have BM_order_before:=FM_order_before.binds (ps:=["self", "one", "other"]) fun _ _ _ _ _ _ us hl=>by obtain ⟨_,_,_,rfl⟩:=Z7 hl; rfl
 have MM_order_before:DM l.prog w K mg base CX0 3 c_Order "before" ["self", "one", "other"] (Y0 c_Order c_FromRight c_ByWeights):=⟨_,_,⟨fi_order_before,fn_order_before,ke_order_before⟩,yX B DRk FM_order_before,BM_order_before⟩
 have DBk:DB l.prog w K mg base c_Order c_FromRight c_ByWeights:=⟨fun C h=>by rcases h with e | e | e; (rw [e]; exact ⟨TO.cO,MM_order_before⟩); (rw [e]; exact ⟨TO.cR,⟨_,_,⟨fiR_before,fn_order_before,ke_order_before⟩,yX B DRk FM_order_before,BM_order_before⟩⟩); (rw [e]; exact ⟨TO.cW,⟨_,_,⟨fiW_before,fn_order_before,ke_order_before⟩,yX B DRk FM_order_before,BM_order_before⟩⟩)⟩
 have D4:Df l.prog w K mg base CX0 1 "first_within" ["rules", "word", "start", "end"] [] (wc K):=⟨_,_,ut B F4,M4,p4,B4⟩
 have D5:Df l.prog w K mg base CX0 2 "first_from" ["rules", "word", "start"] [] (vU K):=⟨_,_,qV B TWi F5 D4,M5,p5,B5⟩
 have O6:=V7 (P:=l.prog) (w:=w) (base:=base) B TF TUd F6 D5 D3
 have D6:Df l.prog w K mg base (CXx l.prog w) 4 "gone" ["rules", "word", "most"] [] (vt K c_TooFar):=⟨_,_,O6,M6,p6,fun s us hK hl=>by obtain ⟨_,_,_,rfl⟩:=Z7 (us:=us) (by simpa using hl); exact BindsTo.of_defaults rfl (hK _ _ dl_gone) rfl rfl rfl⟩
 have D6d:Df l.prog w K mg base (CXx l.prog w) 4 "gone" ["rules", "word", "most"] [.int 4000 dt_gone] (vt K c_TooFar):=⟨_,_,O6,M6,p6,fun s us hK hl=>by obtain ⟨_,_,rfl⟩:=jb (us:=us) (by simpa using hl); exact BindsTo.of_defaults rfl (hK _ _ dl_gone) rfl rfl rfl⟩
 have D7:Df l.prog w K mg base CX0 1 "back" ["steps"] [] (vm K):=⟨_,_,Qg B F7,M7,p7,B7⟩
 have D8:Df l.prog w K mg base CX0 1 "moved" ["steps", "size"] [] (vV K):=⟨_,_,WJ B F8,M8,p8,B8⟩
 have D9:Df l.prog w K mg base CX0 2 "by_pacts" ["entries", "steps"] [] (W7 K):=⟨_,_,j8 B F9 D8 D7,M9,p9,B9⟩
 have D10:Df l.prog w K mg base CX0 1 "pairs_of" ["entries"] [] (vb K):=⟨_,_,ka B F10,M10,p10,B10⟩
 have D11:Df l.prog w K mg base CX0 4 "as_rule" ["order", "entry"] [] (xE K c_Order c_FromRight c_ByWeights):=⟨_,_,Z5 B DBk F11 D7,M11,p11,B11⟩
 have D12:Df l.prog w K mg base CX0 6 "in_order" ["order", "entries"] [] (v0 K c_Order c_FromRight c_ByWeights TB):=⟨_,_,kz B DRk (PySem.W.mg_none_of X G nsorted) HCH HBT hgT F12 HCC D11,M12,p12,B12⟩
 have D13:Df l.prog w K mg base (CXx l.prog w) 5 "brought_down" ["entries", "entry"] [] (qB K c_TooFar):=⟨_,_,uG B TMk F13 D10 D6 D6d D9 D7,M13,p13,B13⟩
 have D14:Df l.prog w K mg base (CXx l.prog w) 1 "refuse_beyond" ["entry"] [] (wS K c_TooFar):=⟨_,_,vN B TF TMk F14,M14,p14,B14⟩
 have D15:Df l.prog w K mg base (CXx l.prog w) 6 "built_anew" ["order", "entries"] [] (vW K c_Order c_FromRight c_ByWeights c_TooFar):=⟨_,_,qT B F15 D13 D14 D11,M15,p15,B15⟩
 have D16:Df l.prog w K mg base (CXx l.prog w) 7 "thinned" ["order", "entries"] [] (ky K c_Order c_FromRight c_ByWeights TB c_TooFar):=⟨_,_,ZK B TF TMk F16 D12 D15 D10,M16,p16,B16⟩
 have D17:Df l.prog w K mg base CX0 1 "_law_cell" ["_law_script", "_law_k"] [] (wE K):=⟨_,_,UH B F17,M17,p17,B17⟩
 have D18:Df l.prog w K mg base CX0 1 "_law_mixed" ["_law_cell_here", "_law_turn"] [] xk:=⟨_,_,Wm B F18,M18,p18,B18⟩
 have D19:Df l.prog w K mg base CX0 2 "_law_letters" ["_law_cell_here", "_law_many"] [] wf:=⟨_,_,Yc B F19 D18,M19,p19,B19⟩
 have D20:Df l.prog w K mg base CX0 1 "_law_word" ["_law_number", "_law_letters_here", "_law_most"] [] ug:=⟨_,_,Uf B F20,M20,p20,B20⟩
 have D21:Df l.prog w K mg base CX0 2 "_law_pair" ["_law_cell_here", "_law_letters_here", "_law_most"] [] uJ:=⟨_,_,Ux B F21 D20 D18,M21,p21,B21⟩
 have D22:Df l.prog w K mg base CX0 1 "_law_whole" ["_law_found"] [] vX:=⟨_,_,WZ B ⟨ki,kb⟩ F22,M22,p22,B22⟩
 have D23:Df l.prog w K mg base CX0 2 "_law_steps" ["_law_found"] [] (qE K):=⟨_,_,Wi B ⟨kl,kt,kbb⟩ F23 D22,M23,p23,B23⟩
 have D24:Df l.prog w K mg base CX0 1 "_law_used" ["_law_pacts", "_law_word_here", "_law_step"] [] (wb K):=⟨_,_,Uy B F24,M24,p24,B24⟩
 have D25:Df l.prog w K mg base CX0 2 "_law_uses" ["_law_pacts", "_law_word_here", "_law_most"] [] (ji K):=⟨_,_,Qb B F25 D24,M25,p25,B25⟩
 have D26:Df l.prog w K mg base CX0 3 "_law_chain" ["_law_pacts", "_law_word_here", "_law_cells", "_law_most"] [] (vY K):=⟨_,_,WO B F26 D25 D24 D18,M26,p26,B26⟩
 have D27:Df l.prog w K mg base CX0 2 "_law_end" ["_law_pacts", "_law_word_here", "_law_steps_here"] [] (qf K):=⟨_,_,Q7 B F27 D24,M27,p27,B27⟩
 have D28:Df l.prog w K mg base CX0 6 "_law_order" ["_law_kind", "_law_letters_here", "_law_weights"] [] (qD K c_Order c_FromRight c_ByWeights):=⟨_,_,W9 B TT F28,M28,p28,B28⟩
 have D29:Df l.prog w K mg base CX0 3 "_law_draw" ["_law_cell_here"] [] j3:=⟨_,_,U6 B F29 D19 D18,M29,p29,B29⟩
 have D30:Df l.prog w K mg base CX0 3 "_law_entries" ["_law_found"] [] (kG K):=⟨_,_,ZI B ⟨kl,kt,kbb⟩ ⟨ks⟩ F30 D23,M30,p30,B30⟩
 have D31:Df l.prog w K mg base CX0 1 "_law_rank" ["_law_kind", "_law_letters_here", "_law_weights", "_law_word_here"] [] vT:=⟨_,_,UG B F31,M31,p31,B31⟩
 have D32:Df l.prog w K mg base CX0 2 "_law_thin" ["_law_found", "_law_kind", "_law_letters_here", "_law_weights"] [] (jf K):=⟨_,_,UC B (PySem.W.mg_none_of X G nany) F32 D31,M32,p32,B32⟩
 have D33:Df l.prog w K mg base CX0 4 "_law_list" ["_law_script", "_law_pacts", "_law_letters_here"] [] (uc K):=⟨_,_,V3 B F33 D20 D26 D18 D17 D27,M33,p33,B33⟩
 exact Qu B TF ⟨sFF⟩ F34 D29 D33 D17 D21 D16 D28 D30 D32 D27
theorem walk {l:PySem.W.OpenLaw} {q:Program} {loose:List Str} {XP:(Str -> Option Value) -> Heap -> Prop} {YP:World -> Heap -> Prop} {d:DefRec} {K:Params -> PySem.W.Frag} (hn:l.most = some 63) (hdf:d.params.defaults = [])
  (hY:∀ (w:World) (h:Heap),YP w h -> (K w.params).In h) (hj:((PyProof.Rows.recsOf q).find? fun r=>r.name == ("in_order" : Str)).isSome = true) (hno:∀ w:World,U7 (K w.params) = true)
  (F:∀ (w:World) (mg:Str -> Option Value) (fa:Addr) (h:Heap) (cc T:Addr),(K w.params).In h -> h.Ns mainGlobals mg -> mg d.name = some (.ref fa) -> (∃ a o fd,mg "in_order" = some (.ref a) /\ h.get? a = some o /\ o.data = .func fd /\ fd.code = .ref cc) -> mainGlobals ≠ T ->
   ∃ fd:FuncData,(∀ (s:Shared) (u:Value),BindsTo s fd ⟨[u],[]⟩ [("_law_script",u)]) /\ ∀ base:Heap,(K w.params).In base -> base.Ns mainGlobals mg -> base.BuiltinsAt mg T -> PySem.W.CodeHd base cc T -> yk l.prog w (K w.params) mg base CX0 8 fa fd ["_law_script"] (Zr (K w.params) T)) :
  PySem.W.WalkO q loose XP YP l.row.toRowW d [] (fun f vs=>PySem.call f vs):=by
 obtain ⟨din,hd⟩:=Option.isSome_iff_exists.mp hj
 have hnm:din.name = "in_order":=by simpa using List.find?_some hd
 exact L3.walk_ofT (n:=63) (k:=8) (x:="_law_script") (CX:=fun _=>CX0) (din:=din) (sp:=fun w T=>Zr (K w.params) T) hn (by decide) hdf ⟨rfl,by decide,by decide⟩ (List.mem_of_find?_eq_some hd) hY hno (fun w mg fa h cc T a b c e g=>F w mg fa h cc T a b c (by rw [hnm] at e; exact e) g) (fun _ _ a ns T hl hB hT hS=>⟨a,ns,rfl,hS,hB,hT,fun _=>rfl⟩) fun _ _ _ _ _ z=>z
end LL
def PySem.W.Fast.tw9423350774301586492:Nat:=0
def PySem.W.Fast.tw17945945141459871659:Nat:=0
def PySem.W.Fast.tw5891056201423473957:Nat:=0
def PySem.W.Fast.tw18092933618020660424:Nat:=0
def PySem.W.Fast.tw12361399701694049676:Nat:=0
def PySem.W.Fast.tw6452816142121729318:Nat:=0
def PySem.W.Fast.tw12276853359490943446:Nat:=0
def PySem.W.Fast.tw12913471597065707631:Nat:=0
def PySem.W.Fast.tw12774026578840255272:Nat:=0
def PySem.W.Fast.tw18306945029879844052:Nat:=0
def PySem.W.Fast.tw11596711266227077163:Nat:=0
def PySem.W.Fast.tw10213986463665055849:Nat:=0
def PySem.W.Fast.tw12129900093369786533:Nat:=0
def PySem.W.Fast.tw2747641002221288860:Nat:=0
def PySem.W.Fast.tw14307632790008980931:Nat:=0
def PySem.W.Fast.tw2916918433558650331:Nat:=0
def PySem.W.Fast.tw12833918138258419750:Nat:=0
def PySem.W.Fast.tw12652864990728732631:Nat:=0
def PySem.W.Fast.tw7918662393100108842:Nat:=0
def PySem.W.Fast.tw14712409337406904950:Nat:=0
def PySem.W.Fast.tw8740043384768206282:Nat:=0
def PySem.W.Fast.tw5419099887226315996:Nat:=0
def PySem.W.Fast.tw18373011621462241333:Nat:=0
def PySem.W.Fast.tw13767755885892554171:Nat:=0
def PySem.W.Fast.tw4114941189610184132:Nat:=0
def PySem.W.Fast.tw4053095024737132346:Nat:=0
def PySem.W.Fast.tw5814086974180427150:Nat:=0
def PySem.W.Fast.tw11161917849740940056:Nat:=0
def PySem.W.Fast.tw6751221133035197518:Nat:=0
def PySem.W.Fast.tw10829230718136994751:Nat:=0
def PySem.W.Fast.tw171021883120251187:Nat:=0
def PySem.W.Fast.tw7640916245002984787:Nat:=0
def PySem.W.Fast.tw17073039606351831862:Nat:=0
def PySem.W.Fast.tw5809038117328068220:Nat:=0
def PySem.W.Fast.tw5411109218810099528:Nat:=0
def PySem.W.Fast.tw2557426668463396192:Nat:=0
def PySem.W.Fast.tw15748258207733210649:Nat:=0
def PySem.W.Fast.tw10568717180156028175:Nat:=0
def PySem.W.Fast.tw16002935960744482417:Nat:=0
def PySem.W.Fast.tw9546456796578901963:Nat:=0
def PySem.W.Fast.tw11244849725096507578:Nat:=0
def PySem.W.Fast.tw10267325616360573011:Nat:=0
def PySem.W.Fast.tw6915359554477488948:Nat:=0
def PySem.W.Fast.tw1374231332757121592:Nat:=0
def PySem.W.Fast.tw14251245790526550616:Nat:=0
def PySem.W.Fast.tw13512438894236377468:Nat:=0
def PySem.W.Fast.tw51902301832601602:Nat:=0
def PySem.W.Fast.tw14949590156177354720:Nat:=0
def PySem.W.Fast.tw4814152950597686338:Nat:=0
def PySem.W.Fast.tw12757822010991520263:Nat:=0
def PySem.W.Fast.tw773457360509866248:Nat:=0
def PySem.W.Fast.tw13313498111454422847:Nat:=0
def PySem.W.Fast.tw14709180246729677575:Nat:=0
def PySem.W.Fast.tw10612964901799570604:Nat:=0
def PySem.W.Fast.tw10137553536466518310:Nat:=0
open PySem PySem.W PyProof.Rows
set_option maxRecDepth 100000 in
set_option maxHeartbeats 0 in
theorem PySem.Challenge.cw_letterlaw_k53_thinned_is_thin_holds : PySem.Challenge.rw_letterlaw_k53_thinned_is_thin.Holds := by
 w_on; o_law; k_head; (case hw=>w_witness2)
 k_fill
 refine LL.walk (l:=PySem.Challenge.rw_letterlaw_k53_thinned_is_thin) rfl rfl (fun w h Y=>PySem.W.km_in_of Y) ?hJJ ?hNN ?hFF
 case hJJ=>first | kernel_rfl | rfl | decide +kernel
 case hNN=>intro w; first | kernel_rfl | rfl
 case hFF =>
  intro w mg fa h cc T KX G hmg hlam hgT
  refine' LL.all_mk KX G hmg hlam hgT ?a0 ?l0 ?k0 ?p0 ?a1 ?l1 ?k1 ?p1 ?a2 ?l2 ?k2 ?p2 ?a3 ?l3 ?k3 ?p3 ?a4 ?l4 ?k4 ?p4 ?a5 ?l5 ?k5 ?p5 ?a6 ?l6 ?k6 ?p6 ?a7 ?l7 ?k7 ?p7 ?a8 ?l8 ?k8 ?p8 ?a9 ?l9 ?k9 ?p9 ?a10 ?l10 ?k10 ?p10 ?a11 ?l11 ?k11 ?p11 ?a12 ?l12 ?k12 ?p12 ?a13 ?l13 ?k13 ?p13 ?a14 ?l14 ?k14 ?p14 ?a15 ?l15 ?k15 ?p15 ?a16 ?l16 ?k16 ?p16 ?a17 ?l17 ?k17 ?p17 ?a18 ?l18 ?k18 ?p18 ?a19 ?l19 ?k19 ?p19 ?a20 ?l20 ?k20 ?p20 ?a21 ?l21 ?k21 ?p21 ?a22 ?l22 ?k22 ?p22 ?a23 ?l23 ?k23 ?p23 ?a24 ?l24 ?k24 ?p24 ?a25 ?l25 ?k25 ?p25 ?a26 ?l26 ?k26 ?p26 ?a27 ?l27 ?k27 ?p27 ?a28 ?l28 ?k28 ?p28 ?a29 ?l29 ?k29 ?p29 ?a30 ?l30 ?k30 ?p30 ?a31 ?l31 ?k31 ?p31 ?a32 ?l32 ?k32 ?p32 ?a33 ?l33 ?k33 ?p33 ?a34 ?l34 ?k34 ?p34 ?g_LetterError ?g_NoLetters ?g_NoOrder ?g_Order ?g_FromRight ?g_ByWeights ?g_NoUse ?g_TooFar ?kbb ?kt ?ki ?kb ?kl ?ks ?x7 ?x8 ?x1 ?x2 ?x3 ?x4 ?x5 ?x6 ?x9 ?xi ?y1 ?y2 ?y3 ?y4 ?y5 ?y6 ?y9 ?yi ?most ?mostw ?pg_Order ?hd_Order ?po_Order ?sa_Order ?mk_Order ?kc_Order ?nl_Order ?ka_Order ?cl_Order ?mr_Order ?pg_FromRight ?hd_FromRight ?po_FromRight ?sa_FromRight ?mk_FromRight ?kc_FromRight ?nl_FromRight ?ka_FromRight ?cl_FromRight ?mr_FromRight ?pg_ByWeights ?hd_ByWeights ?po_ByWeights ?sa_ByWeights ?mk_ByWeights ?kc_ByWeights ?nl_ByWeights ?ka_ByWeights ?cl_ByWeights ?mr_ByWeights ?nw_ByWeights ?sgO ?rdO ?win ?nany ?u1 ?u2 ?u3 ?u4 ?u5 ?u6 ?u9 ?ua ?iniU ?lU ?kU ?pU ?fnU ?v1 ?v2 ?v3 ?v4 ?v5 ?v6 ?v9 ?vi ?sFF ?nsorted ?mou ?mos ?mod_ ?mop ?fi_order_init ?lo_order_init ?co_order_init ?ke_order_init ?fn_order_init ?fi_order_weight ?lo_order_weight ?co_order_weight ?ke_order_weight ?fn_order_weight ?fi_order_seen ?lo_order_seen ?co_order_seen ?ke_order_seen ?fn_order_seen ?fi_fromright_seen ?lo_fromright_seen ?co_fromright_seen ?ke_fromright_seen ?fn_fromright_seen ?fi_byweights_init ?lo_byweights_init ?co_byweights_init ?ke_byweights_init ?fn_byweights_init ?fi_byweights_weight ?lo_byweights_weight ?co_byweights_weight ?ke_byweights_weight ?fn_byweights_weight ?fi_order_rank ?lo_order_rank ?co_order_rank ?ke_order_rank ?fn_order_rank ?fi_order_before ?lo_order_before ?co_order_before ?ke_order_before ?fn_order_before ?dl_gone ?fcO ?fiR_init ?fiR_weight ?fiW_seen ?fiR_rank ?fiW_rank ?fiR_before ?fiW_before ?b0 ?b1 ?b2 ?b3 ?b4 ?b5 ?b6 ?b7 ?b8 ?b9 ?b10 ?b11 ?b12 ?b13 ?b14 ?b15
  (case a0=>k_is)
  (case l0=>k_is)
  (case k0=>k_is)
  (case p0=>k_is)
  (case a1=>k_is)
  (case l1=>k_is)
  (case k1=>k_is)
  (case p1=>k_is)
  (case a2=>k_is)
  (case l2=>k_is)
  (case k2=>k_is)
  (case p2=>k_is)
  (case a3=>k_is)
  (case l3=>k_is)
  (case k3=>k_is)
  (case p3=>k_is)
  (case a4=>k_is)
  (case l4=>k_is)
  (case k4=>k_is)
  (case p4=>k_is)
  (case a5=>k_is)
  (case l5=>k_is)
  (case k5=>k_is)
  (case p5=>k_is)
  (case a6=>k_is)
  (case l6=>k_is)
  (case k6=>k_is)
  (case p6=>k_is)
  (case a7=>k_is)
  (case l7=>k_is)
  (case k7=>k_is)
  (case p7=>k_is)
  (case a8=>k_is)
  (case l8=>k_is)
  (case k8=>k_is)
  (case p8=>k_is)
  (case a9=>k_is)
  (case l9=>k_is)
  (case k9=>k_is)
  (case p9=>k_is)
  (case a10=>k_is)
  (case l10=>k_is)
  (case k10=>k_is)
  (case p10=>k_is)
  (case a11=>k_is)
  (case l11=>k_is)
  (case k11=>k_is)
  (case p11=>k_is)
  (case a12=>k_is)
  (case l12=>k_is)
  (case k12=>k_is)
  (case p12=>k_is)
  (case a13=>k_is)
  (case l13=>k_is)
  (case k13=>k_is)
  (case p13=>k_is)
  (case a14=>k_is)
  (case l14=>k_is)
  (case k14=>k_is)
  (case p14=>k_is)
  (case a15=>k_is)
  (case l15=>k_is)
  (case k15=>k_is)
  (case p15=>k_is)
  (case a16=>k_is)
  (case l16=>k_is)
  (case k16=>k_is)
  (case p16=>k_is)
  (case a17=>k_is)
  (case l17=>k_is)
  (case k17=>k_is)
  (case p17=>k_is)
  (case a18=>k_is)
  (case l18=>k_is)
  (case k18=>k_is)
  (case p18=>k_is)
  (case a19=>k_is)
  (case l19=>k_is)
  (case k19=>k_is)
  (case p19=>k_is)
  (case a20=>k_is)
  (case l20=>k_is)
  (case k20=>k_is)
  (case p20=>k_is)
  (case a21=>k_is)
  (case l21=>k_is)
  (case k21=>k_is)
  (case p21=>k_is)
  (case a22=>k_is)
  (case l22=>k_is)
  (case k22=>k_is)
  (case p22=>k_is)
  (case a23=>k_is)
  (case l23=>k_is)
  (case k23=>k_is)
  (case p23=>k_is)
  (case a24=>k_is)
  (case l24=>k_is)
  (case k24=>k_is)
  (case p24=>k_is)
  (case a25=>k_is)
  (case l25=>k_is)
  (case k25=>k_is)
  (case p25=>k_is)
  (case a26=>k_is)
  (case l26=>k_is)
  (case k26=>k_is)
  (case p26=>k_is)
  (case a27=>k_is)
  (case l27=>k_is)
  (case k27=>k_is)
  (case p27=>k_is)
  (case a28=>k_is)
  (case l28=>k_is)
  (case k28=>k_is)
  (case p28=>k_is)
  (case a29=>k_is)
  (case l29=>k_is)
  (case k29=>k_is)
  (case p29=>k_is)
  (case a30=>k_is)
  (case l30=>k_is)
  (case k30=>k_is)
  (case p30=>k_is)
  (case a31=>k_is)
  (case l31=>k_is)
  (case k31=>k_is)
  (case p31=>k_is)
  (case a32=>k_is)
  (case l32=>k_is)
  (case k32=>k_is)
  (case p32=>k_is)
  (case a33=>k_is)
  (case l33=>k_is)
  (case k33=>k_is)
  (case p33=>k_is)
  (case a34=>k_is)
  (case l34=>k_is)
  (case k34=>k_is)
  (case p34=>k_is)
  (case g_LetterError=>k_is)
  (case g_NoLetters=>k_is)
  (case g_NoOrder=>k_is)
  (case g_Order=>k_is)
  (case g_FromRight=>k_is)
  (case g_ByWeights=>k_is)
  (case g_NoUse=>k_is)
  (case g_TooFar=>k_is)
  (case kbb=>first | kernel_rfl | rfl)
  (case kt=>first | kernel_rfl | rfl)
  (case ki=>first | kernel_rfl | rfl)
  (case kb=>first | kernel_rfl | rfl)
  (case kl=>first | kernel_rfl | rfl)
  (case ks=>first | kernel_rfl | rfl)
  (case x7=>k_is)
  (case x8=>k_is)
  (case x1=>first | kernel_rfl | rfl | decide +kernel)
  (case x2=>k_is)
  (case x3=>k_is)
  (case x4=>k_is)
  (case x5=>k_is)
  (case x6=>k_is)
  (case x9=>k_is)
  (case xi=>k_is)
  (case y1=>first | kernel_rfl | rfl | decide +kernel)
  (case y2=>k_is)
  (case y3=>k_is)
  (case y4=>k_is)
  (case y5=>k_is)
  (case y6=>k_is)
  (case y9=>k_is)
  (case yi=>k_is)
  (case most=>k_is)
  (case mostw=>k_is)
  (case pg_Order=>first | kernel_rfl | rfl | k_is | decide +kernel)
  (case hd_Order=>first | kernel_rfl | rfl | k_is)
  (case po_Order=>first | kernel_rfl | rfl | k_is | decide +kernel)
  (case sa_Order=>k_is)
  (case mk_Order=>first | kernel_rfl | rfl | k_is | decide +kernel)
  (case kc_Order=>k_is)
  (case nl_Order=>k_is)
  (case ka_Order=>first | kernel_rfl | rfl)
  (case cl_Order=>k_is)
  (case mr_Order=>k_is)
  (case pg_FromRight=>first | kernel_rfl | rfl | k_is | decide +kernel)
  (case hd_FromRight=>first | kernel_rfl | rfl | k_is)
  (case po_FromRight=>first | kernel_rfl | rfl | k_is | decide +kernel)
  (case sa_FromRight=>k_is)
  (case mk_FromRight=>first | kernel_rfl | rfl | k_is | decide +kernel)
  (case kc_FromRight=>k_is)
  (case nl_FromRight=>k_is)
  (case ka_FromRight=>first | kernel_rfl | rfl)
  (case cl_FromRight=>k_is)
  (case mr_FromRight=>k_is)
  (case pg_ByWeights=>first | kernel_rfl | rfl | k_is | decide +kernel)
  (case hd_ByWeights=>first | kernel_rfl | rfl | k_is)
  (case po_ByWeights=>first | kernel_rfl | rfl | k_is | decide +kernel)
  (case sa_ByWeights=>k_is)
  (case mk_ByWeights=>first | kernel_rfl | rfl | k_is | decide +kernel)
  (case kc_ByWeights=>k_is)
  (case nl_ByWeights=>k_is)
  (case ka_ByWeights=>first | kernel_rfl | rfl)
  (case cl_ByWeights=>k_is)
  (case mr_ByWeights=>k_is)
  (case nw_ByWeights=>k_is)
  (case sgO=>k_is)
  (case rdO=>first | kernel_rfl | rfl | k_is | decide +kernel)
  (case win=>k_is)
  (case nany=>k_is)
  (case u1=>first | kernel_rfl | rfl | decide +kernel)
  (case u2=>k_is)
  (case u3=>k_is)
  (case u4=>k_is)
  (case u5=>k_is)
  (case u6=>k_is)
  (case u9=>k_is)
  (case ua=>k_is)
  (case iniU=>k_is)
  (case lU=>k_is)
  (case kU=>k_is)
  (case pU=>k_is)
  (case fnU=>first | kernel_rfl | rfl | k_is)
  (case v1=>first | kernel_rfl | rfl | decide +kernel)
  (case v2=>k_is)
  (case v3=>k_is)
  (case v4=>k_is)
  (case v5=>k_is)
  (case v6=>k_is)
  (case v9=>k_is)
  (case vi=>k_is)
  (case sFF=>k_is)
  (case nsorted=>k_is)
  (case mou=>k_is)
  (case mos=>k_is)
  (case mod_=>k_is)
  (case mop=>k_is)
  (case fi_order_init=>k_is)
  (case lo_order_init=>k_is)
  (case co_order_init=>k_is)
  (case ke_order_init=>k_is)
  (case fn_order_init=>first | kernel_rfl | rfl | k_is)
  (case fi_order_weight=>k_is)
  (case lo_order_weight=>k_is)
  (case co_order_weight=>k_is)
  (case ke_order_weight=>k_is)
  (case fn_order_weight=>first | kernel_rfl | rfl | k_is)
  (case fi_order_seen=>k_is)
  (case lo_order_seen=>k_is)
  (case co_order_seen=>k_is)
  (case ke_order_seen=>k_is)
  (case fn_order_seen=>first | kernel_rfl | rfl | k_is)
  (case fi_fromright_seen=>k_is)
  (case lo_fromright_seen=>k_is)
  (case co_fromright_seen=>k_is)
  (case ke_fromright_seen=>k_is)
  (case fn_fromright_seen=>first | kernel_rfl | rfl | k_is)
  (case fi_byweights_init=>k_is)
  (case lo_byweights_init=>k_is)
  (case co_byweights_init=>k_is)
  (case ke_byweights_init=>k_is)
  (case fn_byweights_init=>first | kernel_rfl | rfl | k_is)
  (case fi_byweights_weight=>k_is)
  (case lo_byweights_weight=>k_is)
  (case co_byweights_weight=>k_is)
  (case ke_byweights_weight=>k_is)
  (case fn_byweights_weight=>first | kernel_rfl | rfl | k_is)
  (case fi_order_rank=>k_is)
  (case lo_order_rank=>k_is)
  (case co_order_rank=>k_is)
  (case ke_order_rank=>k_is)
  (case fn_order_rank=>first | kernel_rfl | rfl | k_is)
  (case fi_order_before=>k_is)
  (case lo_order_before=>k_is)
  (case co_order_before=>k_is)
  (case ke_order_before=>k_is)
  (case fn_order_before=>first | kernel_rfl | rfl | k_is)
  (case dl_gone=>k_is)
  (case fcO=>k_is)
  (case fiR_init=>k_is)
  (case fiR_weight=>k_is)
  (case fiW_seen=>k_is)
  (case fiR_rank=>k_is)
  (case fiW_rank=>k_is)
  (case fiR_before=>k_is)
  (case fiW_before=>k_is)
  (case b0=>k_is)
  (case b1=>k_is)
  (case b2=>k_is)
  (case b3=>k_is)
  (case b4=>k_is)
  (case b5=>k_is)
  (case b6=>k_is)
  (case b7=>k_is)
  (case b8=>k_is)
  (case b9=>k_is)
  (case b10=>k_is)
  (case b11=>k_is)
  (case b12=>k_is)
  (case b13=>k_is)
  (case b14=>k_is)
  (case b15=>k_is)
#print axioms PySem.Challenge.cw_letterlaw_k53_thinned_is_thin_holds
